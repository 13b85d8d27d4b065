import PyProof.Rows.All
import Wide.All
import OpenK.AllK
import Wide.FinOn
import PySem.Challenge.RW_bagwood_k72_links_laid_together
set_option Elab.async false
set_option linter.all false
set_option compiler.extract_closed false
set_option genSizeOf false
set_option tactic.hygienic false
set_option maxRecDepth 100000
local macro_rules | `(tactic| omega) => `(tactic| first | lia | omega (config := {}))
set_option maxHeartbeats 16000000
local macro_rules | `(tactic| decide) => `(tactic| decide +kernel)
local macro_rules | `(()) => `(by first|decide|omega|exact Nat.le_of_ble_eq_true rfl|grind)
local macro_rules | `($x⁻¹) => `(($x).heap.objs.size)
set_option hygiene false
local macro_rules|`(tactic|let $d:letDecl)=>`(tactic|have $d:letDecl)
local macro_rules|`(tactic|let $p:term:=$v)=>do{let q←p.raw.rewriteBottomUpM fun|`(⟨$x,*⟩)=>(do{let y:=x.getElems.map fun z=>⟨z.1⟩;`(rcasesPat|⟨$[$y],*⟩)})|`($x:ident)=>`(rcasesPat|$x:ident)|`(_)=>`(rcasesPat|_)|x=>pure x;`(tactic|obtain $(⟨q⟩):rcasesPat:=$v)}
local macro_rules|`(tactic|show $x)=>`(tactic|refine $x)
local macro_rules|`(tactic|lk)=>`(tactic|dsimp only)
local macro_rules|`($x•$y)=>`({ $x with heap:=$y })
local macro_rules|`($x^^^$y)=>`(($x).heap.get? $y)
local macro_rules|`(⇑$x)=>`(some (.ref $x))
local macro_rules|`(↥$x)=>`(some (.lst $x))
local macro_rules|`(~~~$x)=>`(some (.tup $x))
local macro_rules|`(∎)=>`(wpAny (model prog w) A)
local macro_rules|`(⋯)=>`(bF P w K mg base fW)
local macro_rules|`(∅)=>`(Value->Shared->Prop)
open PySem.W (instObj lookIn findIn isFn emptyDict keepIn kitOne fnOf codeIn nsIn)
noncomputable section
def Q_(_:0=0:=by first|rfl|decide):=0
local macro_rules|`(@&$x)=>`(autoParam $x Q_._auto_1)
def Q0_(_:0=0:=by intro _;rfl):=0
def Q1_(_:0=0:=by first|exact Or.inl rfl|exact Or.inr Z):=0
def Q2_(_:0=0:=by first|exact .inl rfl|exact .inr rfl|assumption):=0
def Z{α:Sort _}{a:α}:a=a:=rfl
def M:=@PySem.wpAny_bind
def ao:=@PySem.wpAny_pure
def aH:=@List.length_map
def bI:=@List.getElem?_eq_getElem
def aZ:=@List.mem_cons_self
def bM:=@PySem.Heap.get?_push_of_some
def bJ:=@List.mem_cons_of_mem
def bK:=@List.mem_singleton
def aV:=@decide_eq_true
def aK:=@Nat.le_refl
def aW:=@PySem.Paired.length
def cB:=@PySem.Heap.get?_push_size
def cu:=@List.length_append
def eG:=@List.getElem?_eq_some_iff
def aA:=@if_neg
def bw:=@PySem.Heap.lt_size
def aB:=@if_pos
def cN:=@Bool.false_ne_true
def cH:=@List.getElem?_map
def bO:=@List.mem_cons
def dw:=@of_decide_eq_true
def cI:=@decide_eq_false
def fG:=@List.mem_append_right
def cC:=@List.map_cons
def cV:=@List.mem_append
def cW:=@List.map_append
def eO:=@decide_eq_true_iff
def bV:=@Nat.ne_of_lt
def dI:=@Option.some.inj
def dY:=@List.length_take
def dZ:=@List.not_mem_nil
def cG:=@Nat.le_trans
def gF:=@List.mem_of_getElem?
def jc:=@PySem.F.plainAttrs_list
def gq:=@Bool.and_eq_true
def gw:=@List.take_length
def eV:=@PySem.wpAny_holding
def jP:=@Option.map_eq_some_iff
def gG:=@PySem.wpAny_call_entry
def ig:=@Int.toNat_natCast
def dF:=@Nat.zero_le
def jd:=@Nat.lt_of_lt_of_le
def iJ:=@List.size_toArray
def gH:=@PySem.PassesOwn.never
def jQ:=@List.mem_of_mem_take
def iw:=@List.all_eq_true
def eY:=@Nat.le_of_lt
def gA:=@List.mem_range
def iK:=@List.length_drop
def fH:=@List.mem_map
def nF:=@PySem.wpAny_callSpecial?_slot
def iz:=@List.take_succ
def je:=@List.nodup_cons
def jZ:=@PySem.W.mg_none_of
def j4:=@PySem.wpAny_setField_rec
def jR:=@PySem.wpAny_newObj_type
def mO:=@PySem.Around.under_plainId
def jE:=@List.append_nil
def jT:=@List.mem_filter
def rN:=@PySem.F.plainAttrs_dict
def gJ:=@PySem.wpAny_field
def lV:=@List.length_cons
def oR:=@List.getElem_of_mem
def iM:=@Nat.ne_of_gt
def rO:=@List.find?_cons_of_pos
def rP:=@List.find?_cons_of_neg
def gO:=@PySem.sizeLine_eq
def yO:=@List.take_succ_eq_append_getElem
def ur:=@List.pairwise_singleton
def lW:=@PySem.codeAny_builtin
def qI:=@beq_eq_false_iff_ne
def qJ:=@PySem.Heap.SameBut.update
def wL:=@PyProof.Rows.callWith_type1
def nH:=@List.getElem_mem
def oU:=@List.length_range
def wM:=@List.getElem?_append_right
def qK:=@Int.emod_lt_of_pos
def uw:=@List.take_append_drop
def iB:=@PySem.wpAny_mono
def wN:=@List.drop_eq_getElem_cons
def uy:=@List.mem_append_left
def uz:=@Array.length_toList
def oV:=@Int.emod_nonneg
def wO:=@List.mem_singleton_self
def rQ:=@PySem.wpAny_dictEntries
def yP:=@List.getElem?_append_left
def yQ:=@Array.getElem?_eq_getElem
def uD:=@List.pairwise_cons
def lY:=@List.map_map
def oW:=@PySem.Heap.size_push
def nJ:=@PySem.plainId_quiet
def vC:=@List.map_congr_left
def wQ:=@List.filterMap_append
def uE:=@List.nodup_append
def vD:=@PySem.wpAny_Call_Name_kw
def qM:=@PySem.wpAny_seqItems
def rR:=@Bool.eq_iff_iff
def rT:=@PySem.W.kia_one
def oX:=@List.any_cons
def rU:=@List.range_succ
def j5:=@PySem.wpAny_rule
def vG:=@PySem.wpAny_pyIter_list
def vH:=@List.append_assoc
def yR:=@List.length_singleton
def jF:=@PySem.wpAny_ite
def yS:=@List.length_filter_le
def vI:=@PySem.wpAny_isInstance
def Ck:=@PySem.F.slot_dict_items
def Cm:=@PySem.F.type_dict_items
def yU:=@List.mem_of_mem_drop
def mQ:=@True.intro
def qN:=@Nat.lt_trans
def GC:=@List.perm_ext_iff_of_nodup
def Cp:=@List.take_of_length_le
def wR:=@Bool.eq_false_iff
def Ma:=@PySem.F.slot_tuple_iterator_next
def Mf:=@PyProof.Rows.slot_tuple_getitem
def Cq:=@PySem.Heap.get?_update_self
def Cr:=@PySem.wpAny_notOrdered_dict
def Cu:=@PySem.F.slot_dict_get
def wU:=@Nat.lt_succ_self
def wV:=@PySem.F.plain_any_loop
def yV:=@PySem.tupleKind_room_in1
def Mg:=@PySem.wpAny_typeNameOfWhole_itemiter
def yW:=@List.filter_append
def rW:=@PySem.wpAny_typeOf
def GD:=@PySem.SetTable.toList_insertAt
def uF:=@PySem.wpAny_attempt
def vJ:=@List.nodup_nil
def Mh:=@PySem.wpAny_typeNameOfWhole_keyiter
def Mi:=@PySem.F.slot_dict_itemiterator_next
def Cv:=@List.dropLast_concat
def yX:=@List.pairwise_map
def GF:=@List.filter_cons_of_pos
def Mj:=@PySem.F.slot_dict_keyiterator_next
def wW:=@PySem.wpAny_dictEpoch
def wX:=@PySem.F.slot_zip_next
def Ml:=@PySem.F.slot_dict_setdefault
def Cw:=@PySem.mem_of_lookup
def Cy:=@List.length_reverse
def GJ:=@PySem.SeqAt.canLay_of_shaped
def GK:=@PySem.wpAny_nextOf_list_item
def vK:=@List.sum_cons
def GP:=@Array.getElem?_toList
def yZ:=@PySem.wpAny_passesOwn
def Cz:=@PySem.wpAny_truthy_bool
def GQ:=@List.Pairwise.filter
def CG:=@PySem.typeIs_bool
def Mp:=@PySem.F.args_tuple_add_2
def Mq:=@List.filterMap_cons_some
def Mr:=@PySem.F.entry_tuple_add
def Ms:=@List.length_eq_zero_iff
def Tf:=@List.eq_nil_iff_forall_not_mem
def vL:=@Nat.le_succ
def Mt:=@PySem.F.slot_tuple_add
def GR:=@Nat.lt_of_le_of_lt
def Mu:=@List.drop_of_length_le
def wY:=@Nat.sub_zero
def wZ:=@Nat.lt_or_ge
def Mv:=@Array.getElem?_eq_none
def GX:=@List.find?_eq_none
def CJ:=@Nat.not_lt_zero
def zc:=@Nat.lt_irrefl
def Ï:=@PySem.wpAny_callSpecialIfBoundUnlessNone?_slot
def Mw:=@Bool.beq_eq_decide_eq
def GZ:=@Nat.lt_succ_of_lt
def Hf:=@PySem.wpAny_storeSet_of
def Tg:=@Array.perm_iff_toList_perm
def Mx:=@List.pairwise_append
def CK:=@PySem.wpAny_fieldsOf
def Mz:=@List.getLast?_concat
def Hg:=@Nat.le_add_right
def Hh:=@decide_eq_decide
def zf:=@Nat.sub_self
def Tj:=@List.pairwise_iff_getElem
def MF:=@PySem.Heap.get?_update_ne
def Tn:=@List.length_filterMap_le
def CN:=@List.drop_one
def Hi:=@PySem.wpAny_specialOf
def MJ:=@PySem.wpAny_pyIter_tuple
def MK:=@PySem.W.callWith_K
def MN:=@List.filterMap_map
def Ð:=@PySem.F.args_tuple_iterator_next_1
def zj:=@PySem.wpAny_letGo
def Tp:=@PyProof.Rows.F.plain_set_update_loop
def Tq:=@PySem.F.args_dict_get_3
def Ñ:=@PySem.F.entry_tuple_iterator_next
def Tr:=@PySem.wpAny_pyNext_list_item
def CP:=@PySem.codeAny_mono
def MP:=@List.take_sublist
def Tt:=@PySem.Calls.callWith_builtin
def Tv:=@PySem.Heap.get?_update_other
def MT:=@PySem.wpAny_pyIter_enum
def M4:=@PySem.Heap.get?_push_ne
def Tw:=@Nat.lt_of_succ_lt_succ
def M5:=@List.idxOf_append
def Hj:=@PySem.isSubtype_stop
def M6:=@PySem.wpAny_pyIter_slot
def M7:=@PySem.F.args_zip_next_1
def Tz:=@PySem.F.entry_dict_get
def TF:=@PySem.wpAny_isOneOf_itemiter
def Ò:=@PySem.F.args_dict_itemiterator_next_1
def TJ:=@List.cons_lt_cons_iff
def TQ:=@List.mem_iff_getElem?
def TV:=@List.getElem?_toArray
def TX:=@PySem.F.type_dict_get
def TY:=@PySem.F.slot_list_pop
def T7:=@PySem.F.type_list_pop
def M8:=@PySem.noFill_tuple_add
def M9:=@PySem.F.plain_all_loop
def Nb:=@PySem.F.entry_any_loop
def Nf:=@List.countP_cons
def Ng:=@beq_self_eq_true
def Nh:=@List.filter_cons
def Ni:=@PySem.wpAny_askSetting
def Nj:=@PySem.F.entry_zip_next
def Nk:=@PySem.F.slot_bool_hash
def Ó:=@PySem.F.args_dict_setdefault_3
def Ô:=@PySem.F.entry_dict_itemiterator_next
def Hl:=@Bool.true_and
def T8:=@List.length_dropLast
def T9:=@List.mem_erase_of_ne
def Õ:=@PySem.F.entry_dict_keyiterator_next
def Ö:=@PySem.F.entry_dict_setdefault
def Ua:=@List.idxOf_cons_self
def Nm:=@PySem.wpAny_execs_nil
def Np:=@Option.map_some
def Nq:=@Bool.or_eq_true
def Ø:=@PySem.F.type_dict_setdefault
def Ub:=@List.filterMap_cons
def Uc:=@PySem.W.plainGet_of
def Ud:=@List.length_pos_iff
def Ue:=@List.filter_sublist
def Ug:=@List.getElem?_range
def Ù:=@List.idxOf_lt_length_of_mem
def Ho:=@PySem.call_meetsIn
def Hq:=@List.any_map
def Ú:=@PySem.Calls.Name_function_global
def Uh:=@List.mem_filterMap
def CQ:=@PySem.call_meets
def Ui:=@PySem.call_function_tree
def Û:=@PySem.wpAny_letOwnedTupleGo_enum
def Nr:=@PySem.wpAny_newTuple
def Uj:=@of_decide_eq_false
def Uk:=@Array.forIn_toList
def Nt:=@PySem.entryFor_alias
def Ü:=@PySem.F.kt_typeCall_dict_1
def Nu:=@List.take_zero
def Ul:=@List.map_singleton
def Um:=@List.sum_singleton
def Nv:=@List.Perm.refl
def Ý:=@PySem.Calls.call_function_entry
def Þ:=@Classical.byContradiction
def ß:=@List.getLastD_eq_getLast?
def Uo:=@PySem.Heap.SameBut.refl
def Hs:=@PySem.wpAny_of_eq
def Nx:=@PySem.wpAny_standAt
def à:=@Option.isSome_iff_exists
def Ny:=@PySem.seq_tuple_add
def á:=@PySem.wpAny_comprehension_free
def Nz:=@PySem.W.mg_of
def NK:=@PySem.wpAny_handled
def â:=@PySem.F.args_dict_init_2
def NP:=@PySem.wpAny_onRaise
def NQ:=@List.cons.inj
def ã:=@List.find?_range_eq_some
def ä:=@List.length_erase_of_mem
def Uq:=@PySem.wpAny_execs_cons
def Ur:=@Nat.min_le_right
def Us:=@PySem.Heap.size_update
def Ut:=@List.nodup_range
def Uu:=@PySem.wpAny_pyIter_zip
def Uv:=@PySem.Heap.IsList.push
def Uw:=@List.mem_reverse
def Hu:=@beq_iff_eq
def NT:=@Nat.le_of_eq
def NZ:=@PySem.concat_meets
def N5:=@List.all_map
def Ux:=@List.of_mem_zip
def Uy:=@PyProof.Rows.get?_update_seq
def Uz:=@PySem.wpAny_updateSeq
def UG:=@PySem.am_miss_of_fast
def UJ:=@PySem.size_of_entries
def UL:=@List.idxOf_cons
def UW:=@PySem.wpAny_loadPart'
def U0:=@PySem.isSubtype_type
def N6:=@PySem.wpAny_throw
def U4:=@List.drop_zero
def U5:=@List.all_cons
def U6:=@PyProof.Rows.listUpdate_at
def U7:=@PySem.wpAny_newList
def U8:=@List.map_drop
def U9:=@List.map_take
def N7:=@PyProof.Rows.size_push'
open PySem PySem.Spec
abbrev ae:=List Int
abbrev ag:=List Str
abbrev aw:=List Value
abbrev ay:=List Nat
abbrev aE:=List (Addr×Obj)
abbrev aI:=List Addr
abbrev a9:=List (List Int)
abbrev bc:=List Expr
abbrev aJ:=PySem.W.Frag
abbrev bU:=Int×Int
abbrev ar:=List bU
def fY{α:Type}{l:List α}{i:Nat}{a:α}:l.getD i a=l[i]?.getD a:=List.getD_eq_getElem?_getD ..
namespace L2
open PyProof.Rows
abbrev Key:=Sum Int Str
noncomputable def Kq:Key->Value->Bool
 |.inl k,v=>Value.isInt k v
 |.inr x,v=>Value.isStrOf x v
noncomputable def a7t(w:World):Key->Int
 |.inl k=>hashInt k
 |.inr x=>hashStr w x
def iY:∀{k:Key}{v:Value},Kq k v=true->(∃i t,k=Sum.inl i/\v=Value.int i t)\/(∃x t,k=Sum.inr x/\v=Value.str x t)
 |.inl i,v,h=>by
  let⟨t,e⟩:=Value.isInt_shape (k:=i) (v:=v) h
  show .inl ⟨i,t,Z,e⟩
 |.inr x,v,h=>by
  let⟨t,e⟩:=Value.isStrOf_shape (x:=x) (v:=v) h
  show .inr ⟨x,t,Z,e⟩
def Yw(i:Int)(t:Tok):Kq (.inl i) (.int i t)=true:=by simp[Kq,Value.isInt]
def Yx(x:Str)(t:Tok):Kq (.inr x) (.str x t)=true:=by simp[Kq,Value.isStrOf]
def a2D(a b:Int):decide ((Sum.inl a:Key)=Sum.inl b)=(a==b):=by
 by_cases e:a=b
 ·subst e;simp
 ·let h:¬(Sum.inl a:Key)=Sum.inl b:=λq=>e (Sum.inl.inj q);rw[cI h];show(qI.mpr e).symm
def a2E(a b:Str):decide ((Sum.inr a:Key)=Sum.inr b)=decide (a=b):=by
 by_cases e:a=b
 ·subst e;simp
 ·let h:¬(Sum.inr a:Key)=Sum.inr b:=λq=>e (Sum.inr.inj q);rw[cI h,cI e]
def a2F(a:Int)(b:Str):decide ((Sum.inl a:Key)=Sum.inr b)=false:=cI (λq=>nomatch q)
def a2G(a:Str)(b:Int):decide ((Sum.inr a:Key)=Sum.inl b)=false:=cI (λq=>nomatch q)
def fK(prog:Program)(w:World):PySem.KeyKind prog w Key where
 is:=Kq
 hash:=a7t w
 inj:=λv a b ha hb=>by
  rcases iY ha with⟨i,t,rfl,rfl⟩|⟨x,t,rfl,rfl⟩
  ·rcases iY hb with⟨j,u,rfl,e⟩|⟨y,u,rfl,e⟩
   ·injection e with e1 _;rw[e1]
   ·show nomatch e
  ·rcases iY hb with⟨j,u,rfl,e⟩|⟨y,u,rfl,e⟩
   ·show nomatch e
   ·injection e with e1 _;rw[e1]
 byValue:=λk v h=>by
  rcases iY h with⟨i,t,rfl,rfl⟩|⟨x,t,rfl,rfl⟩<;>rfl
 pyHash:=λhv h=>by
  rcases iY hv with⟨i,t,rfl,rfl⟩|⟨x,t,rfl,rfl⟩
  ·show wpAny_pyHash_int h
  ·show wpAny_pyHash_str h
 eqBool:=λhu hv h=>by
  rcases iY hu with⟨i,t,rfl,rfl⟩|⟨x,t,rfl,rfl⟩
  ·rcases iY hv with⟨j,u,rfl,rfl⟩|⟨y,u,rfl,rfl⟩
   ·rw[a2D]at h;show wpAny_eqBool_int h
   ·rw[a2F]at h;show SeqAt.EqAt.int_str i t y u _ _ _ _ h
  ·rcases iY hv with⟨j,u,rfl,rfl⟩|⟨y,u,rfl,rfl⟩
   ·rw[a2G]at h;show SeqAt.EqAt.str_int x t j u _ _ _ _ h
   ·rw[a2E]at h;show wpAny_eqBool_str h
 «strs» := λk x t v h=>by
  rcases iY h with⟨i,u,rfl,e⟩|⟨y,u,rfl,e⟩
  ·show nomatch e
  ·injection e with e1 _
   subst e1
   cases v<;>rfl
def Qh(prog:Program)(w:World)(i:Int)(t:Tok):(fK prog w).is (.inl i) (.int i t)=true:=Yw i t
def gB(prog:Program)(w:World)(x:Str)(t:Tok):(fK prog w).is (.inr x) (.str x t)=true:=Yx x t
inductive V where
 |non|bl (b:Bool)|int (i:Int)|str (x:Str)|W5 (b:Array UInt8)|flt (b:UInt64)|ref (a:Addr)|ty (n:String)
 deriving DecidableEq
abbrev af:=List V
abbrev aS:=List Key
abbrev aT:=List (List Key×V)
abbrev be:=List (Str×V)
variable{pos p:Pos}{K:aJ}{A:Around}{h h' base:Heap}{e tg c:Expr}{es:bc}{t' n:Nat}{Z98:Model}{op:CmpOp}{ch fp:aI}{N:ag}{body:List Stmt}{mA mg:Str->Option Value}{pl:Sem Bool}{kw:List (Str×Value)}
noncomputable def cY:V->Value->Prop
 |.non,u=>u=Value.none
 |.bl b,u=>u=Value.bool b
 |.int i,u=>∃t,u=Value.int i t
 |.str x,u=>∃t,u=Value.str x t
 |.W5 b,u=>∃t,u=Value.bytes b t
 |.flt b,u=>∃t,u=Value.float b t
 |.ref a,u=>u=Value.ref a
 |.ty n,u=>u=Value.type n
abbrev cZ:af->aw->Prop:=Paired cY
def cZ.length{xs:af}{us:aw}(r:cZ xs us):xs.length=us.length:=aW r
theorem cZ.get:∀{xs:af}{us:aw}{i:Nat}{x:V},cZ xs us->xs[i]?=some x->∃u,us[i]?=some u/\cY x u
 |_,_,_,_,.nil,e=>by simp at e
 |_,_,0,_,.cons r _,e=>by simp at e;subst e;show⟨_,Z,r⟩
 |_,_,i+1,x,.cons _ t,e=>by
  let⟨u,h1,h2⟩:=cZ.get (i:=i) (x:=x) t (by simpa using e)
  show⟨u,by simpa using h1,h2⟩
def cZ.append{xs ys:af}{us ws:aw}(h:cZ xs us)(s:cZ ys ws):cZ (xs++ys) (us++ws):=by
 induction h with
 |nil=>show s
 |cons r _ ih=>show .cons r ih
theorem cZ.take:∀{xs:af}{us:aw} (n:Nat),cZ xs us->cZ (xs.take n) (us.take n)
 |_,_,0,_=>.nil
 |_,_,_+1,.nil=>.nil
 |_,_,n+1,.cons r t=>.cons r (cZ.take n t)
theorem cZ.drop:∀{xs:af}{us:aw} (n:Nat),cZ xs us->cZ (xs.drop n) (us.drop n)
 |_,_,0,r=>r
 |_,_,_+1,.nil=>.nil
 |_,_,n+1,.cons _ t=>cZ.drop n t
def oY:Option V->Option Value->Prop
 |some v,some u=>cY v u
 |none,none=>True
 |_,_=>False
def KV{κ:Type}:List (κ×V)->List (κ×Value)->Prop:=Paired λ(p:κ×V) (q:κ×Value)=>p.1=q.1/\cY p.2 q.2
noncomputable def kV:Key->V
 |.inl i=>.int i
 |.inr x=>.str x
inductive HO where
 |lst (xs:af)
 |tup (xs:af)
 |dK (J:List (Key×V))|dT (J:List (aS×V))
 |set (S:Int->Bool) (n:Nat)
 |ins (C dx:Addr) (fs:be)
 |own (x:Addr)
 |xd (fs:be)
 |met (f x:Addr)
 |rng (lo hi:Int)
 |gP (o:Obj) (u:HO)
 |tbl (ps:Array Value)
 |ext (φ:Heap->Prop)
abbrev Hp:=Addr->Option HO
noncomputable def cU(H:Hp)(a:Addr)(o:HO):Hp:=λb=>if b=a then some o else H b
def dG{H:Hp}{a:Addr}{o:HO}:cU H a o a=some o:=by unfold cU;rw[aB rfl]
def aR{H:Hp}{a b:Addr}{o:HO}(h:b≠a):cU H a o b=H b:=by unfold cU;rw[aA h]
def a2d{H:Hp}{a b:Addr}{o u:HO}(h:H a=some o)(h':H b=some u)(d:o≠u):a≠b:=by
 intro e;subst e;rw[h]at h';show d (dI h')
def dO{H:Hp}{a b:Addr}{o:HO}(h:H a=some o)(h':H b=none):a≠b:=by
 intro e;subst e;rw[h]at h';cases h'
section
variable(P:Program)(w:World)
def fD(H:Hp)(h:Heap)(a:Addr):HO->Prop
 |.lst xs=>xs.length<=sizeLine/\∃(bY:aw) (n:Nat),cZ xs bY/\h.get? a=some { cls:=.type "list",data:=.seq bY.toArray n}
 |.tup xs=>xs.length<=sizeLine/\∃bY:aw,cZ xs bY/\IsTup h a bY.toArray
 |.dK J=>J.length<=sizeLine/\(a==sysModules)=false/\∃vs,KV J vs/\h.DictOf (fK P w) a vs
 |.dT J=>J.length<=sizeLine/\(a==sysModules)=false/\∃xs:List (aS×Addr×Value),
   Paired (λ(p:aS×V) (q:aS×Addr×Value)=>p.1=q.1/\H q.2.1= ~~~(p.1.map kV)/\cY p.2 q.2.2) J xs/\
   ∃o es ep,h.get? a=some o/\o.ExactDict/\o.data=.dict es ep/\es.toList=xs.map (entryOfKey (tupleKind (fK P w)))/\(xs.map (·.1)).Nodup
 |.set S n=>h.SetOf (intKind P w) a S n
 |.ins C dx fs=>H dx=some (.own a)/\fs.length<=1000/\dx≠a/\h.get? a=some (instObj C dx)/\
   ∃mA,h.Ns1 dx mA/\(∀f,oY (fs.lookup f) (mA f))/\PySem.Within mA (fs.map (·.1))
 |.own _=>∃o,h.get? a=some o
 |.xd fs=>∃mA,h.Ns1 a mA/\∀f,oY (fs.lookup f) (mA f)
 |.rng lo hi=>∃t u v,h.get? a=some { cls:=.type "range",data:=.fields #[.int lo t,.int hi u,.int 1 v]}
 |.gP o u=>h.get? a=some o/\fD H h a u
 |.tbl ps=>h.get? a=some { cls:=.none,data:=.fields ps}
 |.met f x=>h.get? a=some (PySem.W.methodObj (.ref f) (.ref x))
 |.ext φ=>φ h/\(∃o,h.get? a=some o)/\∀h1 h2:Heap,φ h1->(∀o,h1.get? a=some o->h2.get? a=some o)->φ h2
def xY(H:Hp)(h:Heap):Prop:=∀a o,H a=some o->fD P w H h a o
end
section
variable{P:Program}{w:World}{H H':Hp}{a:Addr}{o:HO}
def fD.lt(x:fD P w H h a o):a<h.objs.size:=by
 cases o with
 |lst xs=>let⟨_,_,_,_,e⟩:=x;show bw e
 |tup xs=>let⟨_,_,_,p⟩:=x;show p.lt
 |dK J=>let⟨_,_,_,_,o,_,_,e,_⟩:=x;show bw e
 |dT J=>let⟨_,_,_,_,o,_,_,e,_⟩:=x;show bw e
 |set S n=>let⟨o,_,_,_,e,_⟩:=x;show bw e
 |ins C dx fs=>let⟨_,_,_,e,_⟩:=x;show bw e
 |own y=>let⟨_,e⟩:=x;show bw e
 |xd fs=>let⟨_,⟨_,_,_,e,_⟩,_⟩:=x;show bw e
 |rng lo hi=>let⟨_,_,_,e⟩:=x;show bw e
 |gP ob u=>let⟨e,_⟩:=x;show bw e
 |tbl ps=>show bw (show h.get? a=some _ from x)
 |met f y=>show bw (show h.get? a=some _ from x)
 |ext φ=>let⟨_,⟨_,e⟩,_⟩:=x;show bw e
def Paired.cA{α β:Type}{F G:α->β->Prop}{l₁:List α}{l₂:List β}(h:Paired F l₁ l₂)(f:∀a b,F a b->G a b):Paired G l₁ l₂:=by
 induction h with
 |nil=>show .nil
 |cons r _ ih=>show .cons (f _ _ r) ih
def fD.stay(x:fD P w H h a o)(k:∀b u,(b=a\/H b=some (.own a))->h.get? b=some u->h'.get? b=some u)
  (ho:∀b,H b=some (.own a)->H' b=some (.own a)) (ht:∀b xs,H b= ~~~xs->H' b= ~~~xs):fD P w H' h' a o:=by
 induction o with
 |lst xs=>let⟨z,bY,n,r,e⟩:=x;show⟨z,bY,n,r,k _ _ (.inl Z) e⟩
 |tup xs=>let⟨z,bY,r,ob,e,c⟩:=x;show⟨z,bY,r,ob,k _ _ (.inl Z) e,c⟩
 |dK J=>let⟨z,y,vs,r,ob,es,ep,e,c⟩:=x;show⟨z,y,vs,r,ob,es,ep,k _ _ (.inl Z) e,c⟩
 |dT J =>
  let⟨z,y,xs,r,ob,es,ep,e,c⟩:=x;show⟨z,y,xs,Paired.cA r λp q z=>⟨z.1,ht _ _ z.2.1,z.2.2⟩,ob,es,ep,k _ _ (.inl Z) e,c⟩
 |set S n=>let⟨ob,es,ep,t,e,c⟩:=x;show⟨ob,es,ep,t,k _ _ (.inl Z) e,c⟩
 |ins C dx fs =>
  let⟨d,z,ne,e,mA,⟨od,es,ep,e2,c⟩,r⟩:=x;show⟨ho _ d,z,ne,k _ _ (.inl Z) e,mA,⟨od,es,ep,k _ _ (.inr d) e2,c⟩,r⟩
 |own y=>let⟨ob,e⟩:=x;show⟨ob,k _ _ (.inl Z) e⟩
 |xd fs=>let⟨mA,⟨od,es,ep,e,c⟩,r⟩:=x;show⟨mA,⟨od,es,ep,k _ _ (.inl Z) e,c⟩,r⟩
 |rng lo hi=>let⟨t,u,v,e⟩:=x;show⟨t,u,v,k _ _ (.inl Z) e⟩
 |gP ob u ih=>let⟨e,q⟩:=x;show⟨k _ _ (.inl Z) e,ih q⟩
 |tbl ps =>
  let e:h.get? a=some { cls:=.none,data:=.fields ps}:=x;show h'.get? a=some { cls:=.none,data:=.fields ps};show k a _ (.inl Z) e
 |met f y =>
  let e:h.get? a=some (PySem.W.methodObj (.ref f) (.ref y)):=x;show h'.get? a=some (PySem.W.methodObj (.ref f) (.ref y));show k a _ (.inl Z) e
 |ext φ=>let⟨p,⟨o,e⟩,st⟩:=x;show⟨st _ _ p λo q=>k _ _ (.inl Z) q,⟨o,k _ _ (.inl Z) e⟩,st⟩
def xY.lt(x:xY P w H h)(e:H a=some o):a<h.objs.size:=(x a o e).lt
def xY.fresh(x:xY P w H h)(e:h.objs.size<=a):H a=none:=by
 cases q:H a with
 |none=>rfl
 |some u=>show absurd (jd (x.lt q) e) (zc _)
def xY.kept(x:xY P w H h)(k:∀b u,h.get? b=some u->h'.get? b=some u):xY P w H h':=λa o e =>
 (x a o e).stay (λb u _ q=>k b u q) (λ_ q=>q) λ_ _ q=>q
def xY.laid(x:xY P w H h)(k:∀b u,h.get? b=some u->h'.get? b=some u)(hp:h.objs.size<=a)(new:fD P w (cU H a o) h' a o):xY P w (cU H a o) h':=λb u e=>by
 let hn:=x.fresh hp;by_cases hb:b=a
 ·subst hb;rw[dG]at e;cases e;show new
 ·rw[aR hb]at e;show(x b u e).stay (λc v _ q=>k c v q) (λc q=>by rw[aR (dO q hn)];show q) λc xs q=>by rw[aR (dO q hn)];show q
end
def Rd(H:Hp)(a:Addr)(u:HO):Prop:=H a=some u\/∃o,H a=some (.gP o u)
def Rd.ok{P:Program}{w:World}{H:Hp}{a:Addr}{u:HO}(r:Rd H a u)(x:xY P w H h):fD P w H h a u:=by
 rcases r with r|⟨o,r⟩
 ·show x a u r
 ·let⟨_,q⟩:=x a _ r;show q
noncomputable def Mut:Option HO->Prop
 |↥_=>True
 |some (.dK _)=>True
 |some (.dT _)=>True
 |some (.set _ _)=>True
 |some (.ins _ _ _)=>True
 |some (.ext _)=>True
 |_=>False
section
variable{P:Program}{w:World}{H:Hp}{x e:Addr}{o':HO}
def xY.write(ok:xY P w H h)(mu:Mut (H x))(he:e=x\/H e=some (.own x))(k:∀b u,b≠e->h.get? b=some u->h'.get? b=some u)(heo:∃u,h'.get? e=some u)
  (new:fD P w (cU H x o') h' x o'):xY P w (cU H x o') h':=λb u q=>by
 let a4S:∀c y,H c=some (.own y)->c≠x:=λc y r z=>by subst z;rw[r]at mu;show mu
 let a2H:∀c xs,H c= ~~~xs->c≠x:=λc xs r z=>by subst z;rw[r]at mu;show mu
 by_cases hb:b=x
 ·subst hb;rw[dG]at q;cases q;show new
 ·rw[aR hb]at q;by_cases hbe:b=e
  ·let q':H b=some (.own x):=by
    rcases he with z|z
    ·show absurd (hbe.trans z) hb
    ·rw[hbe];show z
   rw[q]at q';cases q';let⟨v,hv⟩:=heo;show⟨v,by rw[hbe];show hv⟩
  ·show(ok b u q).stay (λc v hc r=>k c v ?_ r) (λc r=>by rw[aR (a4S c b r)];show r) λc xs r=>by rw[aR (a2H c xs r)];show r
   rcases hc with rfl|hc
   ·show hbe
   ·rintro rfl;rcases he with z|z
    ·show a4S c b hc z
    ·rw[hc]at z;cases z;show hb rfl
end
structure Un(fs ex:aI)(H H':Hp)(h h':Heap):Prop where
 keep:∀b o,h.get? b=some o->H b=none->b∉fs->b∉ex->h'.get? b=some o
 slot:∀b o,h.get? b=some o->H b=none->b∈fs->b∉ex->∃sl,h'.get? b=some { o with slots:=sl}
 free:∀b o,h.get? b=some o->H b=none->b∉ex->H' b=none
 there:∀b o,h.get? b=some o->b∉ex->∃o',h'.get? b=some o'
 tups:∀b xs,H b= ~~~xs->H' b= ~~~xs
 Hv:∀b o u,H b=some (.gP o u)->H' b=some (.gP o u)
 N8:∀b ps,H b=some (.tbl ps)->∃more,H' b=some (.tbl (ps++more))
section
variable{fs fs' ex ex':aI}{H H1 H2:Hp}{h1 h2:Heap}{a x e:Addr}{o:HO}
def Un.any(u:Un fs ex H H1 h h1){b:Addr}{ob:Obj}(q:h.get? b=some ob)(n:H b=none)(hx:b∉ex):∃sl,h1.get? b=some { ob with slots:=sl}:=by
 by_cases hb:b∈fs
 ·show u.slot b ob q n hb hx
 ·show⟨ob.slots,u.keep b ob q n hb hx⟩
def Un.kept(k:∀b u,h.get? b=some u->h'.get? b=some u):Un fs ex H H h h' :=
 ⟨λb ob q _ _ _=>k b ob q,λb ob q _ _ _=>⟨ob.slots,k b ob q⟩,λ_ _ _ n _=>n,λb ob q _=>⟨ob,k b ob q⟩,λ_ _ q=>q,λ_ _ _ q=>q,λ_ ps q=>⟨#[],by rw[q];simp⟩⟩
def Un.refl:Un fs ex H H h h:=Un.kept λ_ _ q=>q
def Un.laid(k:∀b u,h.get? b=some u->h'.get? b=some u)(hp:h.objs.size<=a)(hn:H a=none):Un fs ex H (cU H a o) h h' where
 keep:=λb u q _ _ _=>k b u q
 slot:=λb u q _ _ _=>⟨u.slots,k b u q⟩
 free:=λb u q n _=>by rw[aR (bV (jd (bw q) hp))];show n
 there:=λb u q _=>⟨u,k b u q⟩
 tups:=λb xs q=>by rw[aR (dO q hn)];show q
 Hv:=λb u xs q=>by rw[aR (dO q hn)];show q
 N8:=λb ps q=>⟨#[],by rw[aR (dO q hn),q];simp⟩
def Un.write(mu:Mut (H x))(he:e=x\/H e=some (.own x))(k:∀b u,b≠e->h.get? b=some u->h'.get? b=some u)(heo:∃u,h'.get? e=some u):Un fs ex H (cU H x o) h h':=by
 let hx:∀b,H b=none->b≠x:=λb n z=>by subst z;rw[n]at mu;show mu
 let hb:∀b,H b=none->b≠e:=λb n z=>by
  subst z;rcases he with r|r
  ·show hx b n r
  ·rw[n]at r;cases r
 let hm:∀b u,H b=some u->¬Mut (some u)->b≠x:=λb u q nm z=>by subst z;rw[q]at mu;show nm mu
 show⟨λb u q n _ _=>k b u (hb b n) q,λb u q n _ _=>⟨u.slots,k b u (hb b n) q⟩,λb u q n _=>by rw[aR (hx b n)];show n,λb u q _=>?_,
  λb xs q=>by rw[aR (hm b _ q λz=>z)];show q,λb u xs q=>by rw[aR (hm b _ q λz=>z)];show q,λb ps q=>⟨#[],by rw[aR (hm b _ q λz=>z),q];simp⟩⟩
 by_cases hbe:b=e
 ·subst hbe;show heo
 ·show⟨u,k b u hbe q⟩
end
noncomputable def trk(h:Heap)(H:Hp):aI:=(List.range h.objs.size).filter λa=>(H a).isSome
def Oa(h:Heap)(H:Hp):Heap:=PySem.W.hideAll h (trk h H)
def Yy(h:Heap)(H:Hp):(Oa h H).objs.size=h.objs.size:=PySem.W.hideAll_size _ _
def å{H:Hp}{b:Addr}{o:Obj}(e:h.get? b=some o)(n:H b=none):(Oa h H).get? b=some o :=
 PySem.W.hideAll_get _ e λhm=>by
  let q:(H b).isSome=true:=(jT.mp hm).2;rw[n]at q;simp at q
def a0a{H:Hp}{b:Addr}{o:Obj}(e:(Oa h H).get? b=some o):h.get? b=some o/\H b=none:=by
 let e':h.get? b=some o:=PySem.W.of_hideAll (trk h H) e;show⟨e',?_⟩;cases q:H b with
 |none=>rfl
 |some x =>
  let hm:b∈trk h H:=jT.mpr ⟨gA.mpr (bw e'),by simp[q]⟩;let z:(Oa h H).get? b=none:=PySem.W.hideAll_none (trk h H) hm;rw[z]at e;cases e
structure Mod(K:aJ)(mg:Str->Option Value)(base:Heap):Prop where
 kin:K.In base
 glob:base.Ns mainGlobals mg
 blt:∃mb,base.Ns builtinsNs mb/\∀x:Str,x≠ "__name__" ->mb x=bootBuiltins x
 nolimit:base.NoLimit
set_option genInjectivity false in
structure Cx where
 prog:Program
 w:World
 K:aJ
 mg:Str->Option Value
 base:Heap
 A:Around
 N:ag
 s₀:Shared
 H₀:Hp
 env:Env
 outer:List Env
 stack:List Env
 ex:aI
 fn:Str->Bool
 calm:Bool
 pn:aE
 xe:∅
noncomputable def frs(l:List Env):aI:=l.filterMap (·.frame)
abbrev Cx.fs(X:Cx):aI:=frs X.outer
def Vis(sc:Scope)(x:Str):Prop:=sc.names.lookup x=some .local\/sc.names.lookup x=some .cell\/sc.names.lookup x=some .free
def Loc(sc:Scope)(x:Str):Prop:=sc.names.lookup x=some .local\/sc.names.lookup x=some .cell
def Look(env:Env)(h:Heap)(m:Str->Option Value)(x:Str)(u:Value):Prop :=
 (env.kindOf x=some .local/\m x=some u)\/((env.kindOf x=some .cell\/env.kindOf x=some .free)/\∃c,env.cells.lookup x=some c/\h.IsCell c (some u))
structure Cx.Ok(X:Cx):Prop where
 mod:Mod X.K X.mg X.base
 kind:X.env.scope.kind=.function
 glob:X.env.globals=mainGlobals
 blt:X.env.builtins=builtinsNs
 above:X.s₀.heap.objs.size<=X.env.locals
 inj:∀x y c,X.env.cells.lookup x=some c->X.env.cells.lookup y=some c->x=y
 has:∀x,(X.env.kindOf x=some .cell\/X.env.kindOf x=some .free)->∃c,X.env.cells.lookup x=some c
 cab:∀x c,X.fn x=true->X.env.cells.lookup x=some c->X.s₀.heap.objs.size<=c
 hd:X.calm=true->X.A.handled=none
 frames:X.A.frames=some X.stack
 stk:X.stack=X.outer\/(X.stack=X.env::X.outer/\X.env.frame=some X.env.locals)
 exf:∀b∈X.ex,b≠X.env.locals/\∀x c,X.env.cells.lookup x=some c->c≠b
 bs:∀b o,X.base.get? b=some o->X.s₀.heap.get? b=some o/\X.H₀ b=none
 χ:X.base.objs.size<=X.s₀.heap.objs.size
 Va:∀b o,X.base.get? b=some o->b∉X.ex
 Yz:∀b∈X.ex,b∉X.fs
 Aa:X.s₀.heap.FunFrames X.base X.outer
 frf:∀b∈X.fs,X.H₀ b=none
structure bG(X:Cx)(Y:aE)(σ:List (Option V))(H:Hp)(s:Shared):Prop where
 ok:X.Ok
 os:s.os=X.s₀.os
 bare:AllBare s.gens
 base:Un X.fs X.ex X.H₀ H X.s₀.heap s.heap
 loc:∃m,s.heap.Ns X.env.locals m/\∀(i:Nat) (x:Str) (v:V),X.N[i]?=some x->σ[i]?=some (some v)->Vis X.env.scope x->∃u,cY v u/\Look X.env s.heap m x u
 cell:∀x c,X.env.cells.lookup x=some c->∃v,s.heap.IsCell c v
 free:H X.env.locals=none
 rY:∀x c,X.env.cells.lookup x=some c->H c=none
 pin:∀p∈X.pn++Y,s^^^p.1=some p.2/\H p.1=none/\p.1≠X.env.locals/\p.1∉X.fs/\∀v,p.2.data≠.cell v
 hok:xY X.prog X.w H s.heap
 len:σ.length=X.N.length
section
variable{X:Cx}{Y:aE}{σ:List (Option V)}{H H':Hp}{s:Shared}
def Cx.Ok.a7u(ok:X.Ok){b:Addr}{o:Obj}(e:X.base.get? b=some o):b∉X.fs:=λhb=>by
 let:=(ok.Aa.mem hb).1;rw[e]at this;cases this
def bG.bs(I:bG X Y σ H s):∀b o,X.base.get? b=some o->s^^^b=some o/\H b=none:=λb o e =>
 ⟨I.base.keep b o (I.ok.bs b o e).1 (I.ok.bs b o e).2 (I.ok.a7u e) (I.ok.Va b o e),I.base.free b o (I.ok.bs b o e).1 (I.ok.bs b o e).2 (I.ok.Va b o e)⟩
def bG.bk(I:bG X Y σ H s):∀b o,X.base.get? b=some o->s^^^b=some o:=λb o e=>(I.bs b o e).1
def bG.mod(I:bG X Y σ H s):Mod X.K X.mg X.base:=I.ok.mod
def bG.Ci(I:bG X Y σ H s):X.K.In s.heap:=I.ok.mod.kin.keeps I.bk
def bG.lt(I:bG X Y σ H s):X.env.locals<s⁻¹:=let⟨_,hn,_⟩:=I.loc;hn.lt
def bG.sz(I:bG X Y σ H s):X.s₀.heap.objs.size<=s⁻¹:=cG I.ok.above (eY I.lt)
def bG.a4T(I:bG X Y σ H s){a:Addr}(h:s⁻¹<=a):a∉X.fs:=λhb=>by
 let⟨_,o,ho,_⟩:=I.ok.Aa.mem hb;show absurd (jd (bw ho) (cG I.sz h)) (zc _)
def bG.cne(I:bG X Y σ H s):∀x c,X.env.cells.lookup x=some c->c≠X.env.locals:=λx c e z=>by
 let⟨v,o,ho,hd⟩:=I.cell x c e;let⟨m,⟨o',es,ep,ho',hd',_⟩,_⟩:=I.loc;rw[z,ho']at ho;cases ho;rw[hd']at hd;cases hd
def bG.Aa(I:bG X Y σ H s):s.heap.FunFrames X.base X.outer:=by
 let all:∀(l:List Env),(∀b∈frs l,b∈X.fs)->X.s₀.heap.FunFrames X.base l->s.heap.FunFrames X.base l:=by
  intro l
  induction l with
  |nil=>intro _ _;trivial
  |cons env r ih =>
   intro hs hl;let⟨hk,⟨L,o,hf,hn,ho,hd⟩,hr⟩:=hl;let hL:L∈X.fs:=hs L (by unfold frs;rw[Ub,hf];show aZ);let⟨sl,e⟩:=I.base.slot L o ho (I.ok.frf L hL) hL λz=>I.ok.Yz L z hL;show⟨hk,⟨L,_,hf,hn,e,hd⟩,ih (λb hb=>hs b (by unfold frs;rw[Ub,hf];show bJ _ hb)) hr⟩
 show all X.outer (λ_ hb=>hb) I.ok.Aa
def bG.stack(I:bG X Y σ H s):s.heap.FunFrames X.base X.stack:=by
 rcases I.ok.stk with e|⟨e,hf⟩
 ·rw[e];show I.Aa
 ·rw[e];let⟨m,hn,_⟩:=I.loc;show .cons (by rw[I.ok.kind];decide) hf hn ?_ I.Aa;show Heap.get?_none_of_le (cG I.ok.χ I.ok.above)
def bG.CT(I:bG X Y σ H s):∀b∈frs X.stack,b∈X.env.locals::X.fs:=λb hb=>by
 rcases I.ok.stk with e|⟨e,hf⟩
 ·rw[e]at hb;show bJ _ hb
 ·rw[e]at hb;unfold frs at hb;rw[Ub,hf]at hb;show hb
def bG.W6(I:bG X Y σ H s):∀b∈frs X.stack,H b=none:=λb hb=>by
 rcases bO.mp (I.CT b hb)with e|hb
 ·rw[e];show I.free
 ·let⟨_,o,ho,_⟩:=I.ok.Aa.mem hb;show I.base.free b o ho (I.ok.frf b hb) λz=>I.ok.Yz b z hb
def bG.step{g':Array GenState}{d':Drawn}(I:bG X Y σ H s)
  (hch:∀b∈ch,(b∈X.ex\/X.s₀.heap.objs.size<=b)/\b≠X.env.locals/\(∀x c,X.env.cells.lookup x=some c->c≠b)/\∀p∈X.pn++Y,p.1≠b)
  (keep:∀b o,b≠X.env.locals->b∉X.fs->b∉ch->s^^^b=some o->H b=none->h'.get? b=some o)
  (slot:∀b o,b≠X.env.locals->b∈X.fs->b∉ch->s^^^b=some o->H b=none->∃sl,h'.get? b=some { o with slots:=sl}) (free:∀b o,b∉ch->s^^^b=some o->H b=none->H' b=none)
  (there:∀b o,b∉ch->s^^^b=some o->∃o',h'.get? b=some o')
  (tups:∀b xs,H b= ~~~xs->H' b= ~~~xs) (Hv:∀b o u,H b=some (.gP o u)->H' b=some (.gP o u)) (N8:∀b ps,H b=some (.tbl ps)->∃more,H' b=some (.tbl (ps++more)))
  (ns:∀m,s.heap.Ns X.env.locals m->h'.Ns X.env.locals m) (hok:xY X.prog X.w H' h') (hg:AllBare g') :
  bG X Y σ H' { s with heap:=h',gens:=g',drawn:=d',toks:=t'}:=by
 let neL:∀b o,X.s₀.heap.get? b=some o->b≠X.env.locals:=λb o e=>bV (jd (bw e) I.ok.above);let neC:∀b o,X.s₀.heap.get? b=some o->b∉X.ex->b∉ch:=λb o e hx hb=>by
  rcases(hch b hb).1 with z|z
  ·show hx z
  ·show absurd (jd (bw e) z) (zc _)
 let cellK:∀x c,X.env.cells.lookup x=some c->∀v,s.heap.IsCell c v->h'.IsCell c v:=λx c e v ⟨o,ho,hd⟩=>by
  let nch:c∉ch:=λz=>(hch c z).2.2.1 x c e rfl;by_cases hc:c∈X.fs
  ·let⟨sl,q⟩:=slot c o (I.cne x c e) hc nch ho (I.rY x c e);show⟨_,q,hd⟩
  ·show⟨o,keep c o (I.cne x c e) hc nch ho (I.rY x c e),hd⟩
 show⟨I.ok,I.os,hg,⟨λb o e n hb hx=>?_,λb o e n hb hx=>?_,λb o e n hx=>?_,λb o e hx=>?_,λb xs e=>tups b xs (I.base.tups b xs e),λb o xs e=>Hv b o xs (I.base.Hv b o xs e),λb ps e=>?_⟩,?_,λx c e=>?_,?_,λx c e=>?_,λp hp=>?_,hok,I.len⟩
 ·show keep b o (neL b o e) hb (neC b o e hx) (I.base.keep b o e n hb hx) (I.base.free b o e n hx)
 ·let⟨sl,e1⟩:=I.base.slot b o e n hb hx;let⟨sl',e2⟩:=slot b _ (neL b o e) hb (neC b o e hx) e1 (I.base.free b o e n hx);show⟨sl',e2⟩
 ·let⟨o',e1⟩:=I.base.there b o e hx;show free b o' (neC b o e hx) e1 (I.base.free b o e n hx)
 ·let⟨o',e1⟩:=I.base.there b o e hx;show there b o' (neC b o e hx) e1
 ·let⟨m1,e1⟩:=I.base.N8 b ps e;let⟨m2,e2⟩:=N8 b _ e1;show⟨m1++m2,by rw[e2,Array.append_assoc]⟩
 ·let⟨m,hn,hl⟩:=I.loc;show⟨m,ns m hn,λi x v e1 e2 e3=>?_⟩;let⟨u,r,l⟩:=hl i x v e1 e2 e3;show⟨u,r,?_⟩;rcases l with l|⟨k,c,e,z⟩
  ·show .inl l
  ·show .inr ⟨k,c,e,cellK x c e _ z⟩
 ·let⟨v,z⟩:=I.cell x c e;show⟨v,cellK x c e v z⟩
 ·let⟨m,⟨o,_,_,ho,_⟩,_⟩:=I.loc;show free _ o (λz=>(hch _ z).2.1 Z) ho I.free
 ·let⟨v,o,ho,hd⟩:=I.cell x c e;show free c o (λz=>(hch c z).2.2.1 x c e Z) ho (I.rY x c e)
 ·let⟨e,n,ne,nf,d⟩:=I.pin p hp;let nch:p.1∉ch:=λz=>(hch p.1 z).2.2.2 p hp rfl;show⟨keep p.1 p.2 ne nf nch e n,free p.1 p.2 nch e n,ne,nf,d⟩
def bG.un(I:bG X Y σ H s)(u:Un X.fs [] H H' s.heap h')(hok:xY X.prog X.w H' h'):bG X Y σ H' { s with heap:=h',toks:=t'}:=by
 let⟨m,⟨o,es,ep,ho,r⟩,_⟩:=id I.loc;let⟨sl,hL⟩:=u.any ho I.free (by simp);show I.step (g':=s.gens) (d':=s.drawn) (ch:=[]) (λ_ z=>nomatch z) (λb o _ hb _ e n=>u.keep b o e n hb (by simp)) (λb o _ hb _ e n=>u.slot b o e n hb (by simp)) (λb o _ e n=>u.free b o e n (by simp)) (λb o _ e=>u.there b o e (by simp)) u.tups u.Hv u.N8 (λm' hm=>by
  let⟨o',es',ep',ho',r'⟩:=hm;rw[ho]at ho';cases ho';show⟨_,es',ep',hL,r'⟩) hok I.bare
def bG.call{g':Array GenState}{d':Drawn}(I:bG X Y σ H s)(u:Un (frs X.stack) ch H H' s.heap h')(hok:xY X.prog X.w H' h')(hg:AllBare g')
  (hch:∀b∈ch,(b∈X.ex\/X.s₀.heap.objs.size<=b)/\b≠X.env.locals/\(∀x c,X.env.cells.lookup x=some c->c≠b)/\∀p∈X.pn++Y,p.1≠b) :
  bG X Y σ H' { s with heap:=h',gens:=g',drawn:=d',toks:=t'}:=by
 let⟨m,⟨o,es,ep,ho,r⟩,_⟩:=id I.loc;let⟨sl,hL⟩:=u.any ho I.free λz=>(hch _ z).2.1 rfl;show I.step (ch:=ch) hch (λb o hL hb hc e n=>u.keep b o e n (λz=>(bO.mp (I.CT b z)).elim hL hb) hc) (λb o _ _ hc e n=>u.any e n hc) (λb o hc e n=>u.free b o e n hc) (λb o hc e=>u.there b o e hc) u.tups u.Hv u.N8 (λm' hm=>by
  let⟨o',es',ep',ho',r'⟩:=hm;rw[ho]at ho';cases ho';show⟨_,es',ep',hL,r'⟩) hok hg
def bG.turned{it:Addr}(I:bG X Y σ H s)(k:∀b o,b≠it->s^^^b=some o->h'.get? b=some o)(hn:H it=none)(hL:it≠X.env.locals)
  (h1:it∈X.ex\/X.s₀.heap.objs.size<=it) (h2:∀x c,X.env.cells.lookup x=some c->c≠it) (h3:∀p∈X.pn++Y,p.1≠it):bG X Y σ H { s with heap:=h',toks:=t'}:=by
 let nit:∀b u,H b=some u->b≠it:=λb u e z=>by rw[z,hn]at e;cases e
 show I.step (g':=s.gens) (d':=s.drawn) (ch:=[it]) (λb hb=>?_) (λb o _ _ hc e _=>k b o (λz=>hc (by simp[z])) e) (λb o _ _ hc e _=>⟨o.slots,k b o (λz=>hc (by simp[z])) e⟩) (λ_ _ _ _ n=>n)
  (λb o hc e=>⟨o,k b o (λz=>hc (by simp[z])) e⟩) (λ_ _ e=>e) (λ_ _ _ e=>e) (λb ps e=>⟨#[],by rw[e];simp⟩) (λm hm=>?_) (λb u e=>?_) I.bare
 ·let e:b=it:=by simpa using hb
  subst e;show⟨h1,hL,h2,h3⟩
 ·let⟨o,es,ep,ho,r⟩:=hm;show⟨o,es,ep,k _ o (Ne.symm hL) ho,r⟩
 ·show(I.hok b u e).stay (λc v hc q=>k c v ?_ q) (λ_ q=>q) λ_ _ q=>q;rcases hc with z|z
  ·rw[z];show nit b u e
  ·show nit c _ z
def bG.tok(I:bG X Y σ H s)(t:Nat):bG X Y σ H { s with toks:=t}:=I.un (h':=s.heap) (t':=t) Un.refl I.hok
def bG.kept{t':Nat}(I:bG X Y σ H s)(k:∀b u,s^^^b=some u->h'.get? b=some u):bG X Y σ H { s with heap:=h',toks:=t'}:=I.un (Un.kept k) (I.hok.kept k)
def bG.laid{a:Addr}{o:HO}{t':Nat}(I:bG X Y σ H s)(k:∀b u,s^^^b=some u->h'.get? b=some u)(hp:s⁻¹<=a)(new:fD X.prog X.w (cU H a o) h' a o) :
  bG X Y σ (cU H a o) { s with heap:=h',toks:=t'}:=I.un (Un.laid k hp (I.hok.fresh hp)) (I.hok.laid k hp new)
def bG.write{x e:Addr}{o:HO}{t':Nat}(I:bG X Y σ H s)(mu:Mut (H x))(he:e=x\/H e=some (.own x))(k:∀b u,b≠e->s^^^b=some u->h'.get? b=some u)(heo:∃u,h'.get? e=some u)
  (new:fD X.prog X.w (cU H x o) h' x o):bG X Y σ (cU H x o) { s with heap:=h',toks:=t'}:=I.un (Un.write mu he k heo) (I.hok.write mu he k heo new)
def bG.Gb{a2e:aE}(I:bG X Y σ H s)(h:∀p∈a2e,s^^^p.1=some p.2/\H p.1=none/\p.1≠X.env.locals/\p.1∉X.fs/\∀v,p.2.data≠.cell v):bG X a2e σ H s :=
 ⟨I.ok,I.os,I.bare,I.base,I.loc,I.cell,I.free,I.rY,λp hp=>(cV.mp hp).elim (λz=>I.pin p (uy _ z)) (h p),I.hok,I.len⟩
def Qi(hN:N.Nodup){i j:Nat}{x:Str}(a:N[i]?=some x)(b:N[j]?=some x):i=j:=by
 let⟨h1,e1⟩:=eG.mp a;let⟨h2,e2⟩:=eG.mp b;show(List.getElem_inj hN).mp (e1.trans e2.symm)
def Kr{E:∅}{i:Nat}{x:Str}{v:V}{u:Value}{Q:Unit->Shared->Prop}(I:bG X Y σ H s)(hN:X.N.Nodup)(hi:X.N[i]?=some x)(hx:Loc X.env.scope x)(r:cY v u)
  (h:∀s',bG X Y (σ.set i (some v)) H s'->(∃a,Heap.SameBut a s.heap s'.heap/\(a=X.env.locals\/X.env.cells.lookup x=some a))->Q ⟨⟩ s') (hf:autoParam (X.fn x=true\/X.env.scope.names.lookup x=some .local) Q2_._auto_1):wpAny Z98 A (storeName X.env x u) Q E s:=by
 let⟨m,hn,hl⟩:=id I.loc;let hcls:(X.env.scope.kind==.class||(X.env.scope.kind==.module&&X.env.locals != X.env.globals))=false:=by rw[I.ok.kind];rfl
 let a4U:i<σ.length:=by rw[I.len];show(eG.mp hi).1
 let cne:=I.cne;let tracked:∀{a:Addr}{h':Heap},(∃o,s^^^a=some o/\H a=none)->Heap.SameBut a s.heap h'->xY X.prog X.w H h':=λ{a h'} ha hs b ob e=>by
  let⟨_,_,hfree⟩:=ha;show(I.hok b ob e).stay (λc w' hc q=>(hs.2 c ?_).trans q) (λ_ q=>q) λ_ _ q=>q;rintro rfl;rcases hc with rfl|hc
  ·rw[hfree]at e;cases e
  ·rw[hfree]at hc;cases hc
 rcases hx with hk|hk
 ·show wpAny_storeName_local hk hn (λh' hn' hs=>?_) hcls;let⟨oL,_,_,hoL,_⟩:=id hn;show h _ ⟨I.ok,I.os,I.bare,⟨λb o e n hb hx=>?_,λb o e n hb hx=>?_,I.base.free,λb o e hx=>?_,I.base.tups,I.base.Hv,I.base.N8⟩,⟨_,hn',λj y v' e1 e2 e3=>?_⟩,λy c e=>?_,I.free,I.rY,λp hp=>?_,tracked ⟨oL,hoL,I.free⟩ hs,by simpa using I.len⟩ ⟨_,hs,.inl Z⟩
  ·show(hs.2 b (bV (jd (bw e) I.ok.above))).trans (I.base.keep b o e n hb hx)
  ·let⟨sl,e1⟩:=I.base.slot b o e n hb hx;show⟨sl,(hs.2 b (bV (jd (bw e) I.ok.above))).trans e1⟩
  ·let⟨o',e1⟩:=I.base.there b o e hx;show⟨o',(hs.2 b (bV (jd (bw e) I.ok.above))).trans e1⟩
  ·by_cases hj:j=i
   ·subst hj;rw[hi]at e1;cases e1;rw[List.getElem?_set_self a4U]at e2;cases e2;show⟨u,r,.inl ⟨hk,by simp⟩⟩
   ·rw[List.getElem?_set_ne (Ne.symm hj)]at e2;let⟨u',r',q⟩:=hl j y v' e1 e2 e3;show⟨u',r',?_⟩;rcases q with⟨k,e⟩|⟨k,c,e,z⟩
    ·show .inl ⟨k,?_⟩;let:y≠x:=λe=>hj (Qi hN e1 (e▸hi));simp[this,e]
    ·show .inr ⟨k,c,e,z.sameBut hs (cne y c e)⟩
  ·let⟨w',z⟩:=I.cell y c e;show⟨w',z.sameBut hs (cne y c e)⟩
  ·let⟨e,n,ne,nf,d⟩:=I.pin p hp;show⟨(hs.2 p.1 ne).trans e,n,ne,nf,d⟩
 ·let hfn:X.fn x=true:=by
   rcases hf with z|z
   ·show z
   ·rw[z]at hk;cases hk
  let⟨c,hc⟩:=I.ok.has x (.inl hk);let⟨w',z⟩:=I.cell x c hc;show wpAny_storeName_cell I.ok.kind hk hc z (λh' hc' hs=>?_);let⟨oc,hoc,a7v⟩:=id z;show h (s•h') ⟨I.ok,I.os,I.bare,⟨λb o e n hb hx=>?_,λb o e n hb hx=>?_,I.base.free,λb o e hx=>?_,I.base.tups,I.base.Hv,I.base.N8⟩,⟨m,hn.sameBut hs (Ne.symm (cne x c hc)),λj y v' e1 e2 e3=>?_⟩,λy c' e=>?_,I.free,I.rY,λp hp=>?_,tracked ⟨oc,hoc,I.rY x c hc⟩ hs,by simpa using I.len⟩ ⟨c,hs,.inr hc⟩
  ·show(hs.2 b (bV (jd (bw e) (I.ok.cab x c hfn hc)))).trans (I.base.keep b o e n hb hx)
  ·let⟨sl,e1⟩:=I.base.slot b o e n hb hx;show⟨sl,(hs.2 b (bV (jd (bw e) (I.ok.cab x c hfn hc)))).trans e1⟩
  ·let⟨o',e1⟩:=I.base.there b o e hx;show⟨o',(hs.2 b (bV (jd (bw e) (I.ok.cab x c hfn hc)))).trans e1⟩
  ·by_cases hj:j=i
   ·subst hj;rw[hi]at e1;cases e1;rw[List.getElem?_set_self a4U]at e2;cases e2;show⟨u,r,.inr ⟨.inl hk,c,hc,hc'⟩⟩
   ·rw[List.getElem?_set_ne (Ne.symm hj)]at e2;let⟨u',r',q⟩:=hl j y v' e1 e2 e3;show⟨u',r',?_⟩;rcases q with q|⟨k,c',e,z'⟩
    ·show .inl q
    ·show .inr ⟨k,c',e,z'.sameBut hs ?_⟩;rintro rfl;show hj (Qi hN e1 (I.ok.inj _ _ _ e hc▸hi))
  ·by_cases hcc:c'=c
   ·subst hcc;show⟨_,hc'⟩
   ·let⟨w2,z2⟩:=I.cell y c' e;show⟨w2,z2.sameBut hs hcc⟩
  ·let⟨e,n,ne,nf,d⟩:=I.pin p hp;show⟨(hs.2 p.1 ?_).trans e,n,ne,nf,d⟩;intro q;rw[q,hoc]at e;let q':oc=p.2:=dI e;show d w' (by rw[<-q'];show a7v)
def Qj{E:∅}{i:Nat}{x:Str}{v:V}{u:Value}{Q:Unit->Shared->Prop}(I:bG X Y σ H s)(hN:X.N.Nodup)(hi:X.N[i]?=some x)(hx:Loc X.env.scope x)(r:cY v u)
  (h:∀s',bG X Y (σ.set i (some v)) H s'->Q ⟨⟩ s') (hf:autoParam (X.fn x=true\/X.env.scope.names.lookup x=some .local) Q2_._auto_1):wpAny Z98 A (storeName X.env x u) Q E s :=
 Kr I hN hi hx r (λs' I' _=>h s' I') hf
def bG.call'{s':Shared}(I:bG X Y σ H s)(ho:s'.os=s.os)(u:Un (frs X.stack) ch H H' s.heap s'.heap)(hok:xY X.prog X.w H' s'.heap)(hg:AllBare s'.gens)
  (hch:∀b∈ch,(b∈X.ex\/X.s₀.heap.objs.size<=b)/\b≠X.env.locals/\(∀x c,X.env.cells.lookup x=some c->c≠b)/\∀p∈X.pn++Y,p.1≠b):bG X Y σ H' s':=by
 let⟨h',g',d',t',o'⟩:=s';let e:o'=s.os:=ho;subst e;show I.call (g':=g') (t':=t') (d':=d') u hok hg hch
end
abbrev XK:=Value->Option Addr->Hp->Prop
abbrev St:=List (Option V)
abbrev VK:=V->Hp->Prop
abbrev TE:=St->Hp->VK->Prop
variable{ta te:TE}
abbrev TT:=St->Hp->(Bool->Hp->Prop)->Prop
abbrev TA:=St->Hp->(af->Hp->Prop)->Prop
structure Ends where
 nx:St->Hp->Prop
 rt:VK
 bk:St->Hp->Prop:=λ_ _=>False
 ct:St->Hp->Prop:=λ_ _=>False
variable{D:Ends}
abbrev TS:=Ends->St->Hp->Prop
variable{tb:TS}
inductive EP(X:Cx)(Y:aE)(σ:St)(Q:VK)(u:Value)(s':Shared):Prop
 |mk (v H':_) (_:bG X Y σ H' s') (_:cY v u) (_:Q v H')
def TP(X:Cx)(Y:aE)(σ:St)(Q:Bool->Hp->Prop)(b:Bool)(s':Shared):Prop:=∃H',bG X Y σ H' s'/\Q b H'
inductive AP(X:Cx)(Y:aE)(σ:St)(Q:af->Hp->Prop)(us:aw)(s':Shared):Prop
 |mk (vs H':_) (_:bG X Y σ H' s') (_:cZ vs us) (_:Q vs H')
def SP(X:Cx)(Y:aE)(D:Ends)(f:Flow)(s':Shared):Prop :=
 match f with
 |.next=>∃σ' H',bG X Y σ' H' s'/\D.nx σ' H'
 |.brk=>∃σ' H',bG X Y σ' H' s'/\D.bk σ' H'
 |.cont=>∃σ' H',bG X Y σ' H' s'/\D.ct σ' H'
 |.ret u=>∃v σ' H',bG X Y σ' H' s'/\cY v u/\D.rt v H'
def PE(X:Cx)(e:Expr)(t:TE):Prop :=
 ∀(Y:aE) (s:Shared) (σ:St) (H:Hp) (Q:VK),bG X Y σ H s->t σ H Q->wpAny (model X.prog X.w) X.A (eval e X.env) (EP X Y σ Q) X.xe s
def PT(X:Cx)(e:Expr)(t:TT):Prop :=
 ∀(Y:aE) (s:Shared) (σ:St) (H:Hp) (Q:Bool->Hp->Prop),bG X Y σ H s->t σ H Q->wpAny (model X.prog X.w) X.A (isTrue e X.env (eval e X.env)) (TP X Y σ Q) X.xe s
def PW(X:Cx)(e:Expr)(t:TT):Prop :=
 ∀(whole:Sem Value) (Y:aE) (s:Shared) (σ:St) (H:Hp) (Q:Bool->Hp->Prop),bG X Y σ H s->t σ H Q->wpAny (model X.prog X.w) X.A (isTrue e X.env whole) (TP X Y σ Q) X.xe s
def PW.pt{X:Cx}{t:TT}(h:PW X e t):PT X e t:=h _
def PA(X:Cx)(es:bc)(t:TA):Prop :=
 ∀(pos:Pos) (Y:aE) (s:Shared) (σ:St) (H:Hp) (Q:af->Hp->Prop),bG X Y σ H s->t σ H Q->wpAny (model X.prog X.w) X.A (spliced (backTo pos (starEach es X.env))) (AP X Y σ Q) X.xe s
def PS(X:Cx)(st:Stmt)(t:TS):Prop :=
 ∀(Y:aE) (s:Shared) (σ:St) (H:Hp) (D:Ends),bG X Y σ H s->t D σ H->wpAny (model X.prog X.w) X.A (exec st X.env) (SP X Y D) X.xe s
def Qk(X:Cx)(st:List Stmt)(t:TS):Prop :=
 ∀(Y:aE) (s:Shared) (σ:St) (H:Hp) (D:Ends),bG X Y σ H s->t D σ H->wpAny (model X.prog X.w) X.A (execs st X.env) (SP X Y D) X.xe s
def jC{α:Type}{t:Sem α}{Q Q':α->Shared->Prop}{E:∅}{s:Shared}(h:wpAny Z98 A t Q E s)(hQ:∀a s,Q a s->Q' a s):wpAny Z98 A t Q' E s:=iB h hQ λ_ _ x=>x
section
variable{X:Cx}
inductive EA{α:Type}(P Q:α->Prop):Prop
 |mk (v:α) (p:P v) (q:Q v)
inductive EC{α:Type}(P R Q:α->Prop):Prop
 |mk (v:α) (p:P v) (r:R v) (q:Q v)
inductive Vb(i:Nat)(σ:St)(H:Hp)(Q:VK):Prop
 |mk (v:_) (_:σ[i]?=some (some v)) (_:Q v H)
noncomputable def tC(v:V):TE:=λ_ H Q=>Q v H
def a2I{i:Nat}{x:Str}(hN:X.N[i]?=some x)(hv:Vis X.env.scope x)(hd:@&((x==("__debug__" : Str))=false))(hcd:@&((x==("__classdict__" : Str))=false)):PE X (.Name x pos) (Vb i):=by
 intro Y s σ H Q I h;let⟨v,e,h⟩:=h;let⟨m,hn,hl⟩:=I.loc;let⟨u,r,l⟩:=hl i x v hN e hv;let fin:EP X Y σ Q u s:=⟨v,H,I,r,h⟩;rcases l with⟨hk,hm⟩|⟨hk,c,hc,hcell⟩
 ·show wpAny_Name (wpAny_loadName_local I.ok.kind hk hn hm fin) hd
 ·rcases hk with hk|hk
  ·show wpAny_Name (wpAny_loadName_cell I.ok.kind hk hc hcell fin) hd
  ·show wpAny_Name (wpAny_loadName_free I.ok.kind hk hc hcell fin hcd) hd
def aq{i j pos}:PE X (.Constant (.int i) j pos) (tC (.int i)):=λ_ _ _ H _ I h=>wpAny_Constant_int ⟨.int i,H,I.tok _,⟨_,Z⟩,h⟩
def yI{b j pos}:PE X (.Constant (.bool b) j pos) (tC (.bl b)):=λ_ _ _ H _ I h=>Constant_bool ⟨.bl b,H,I,Z,h⟩
def nM{j pos}:PE X (.Constant .none j pos) (tC .non):=λ_ _ _ H _ I h=>Constant_none ⟨.non,H,I,Z,h⟩
def fV{x j pos}:PE X (.Constant (.str x) j pos) (tC (.str x)):=λ_ _ _ H _ I h=>Calls.Constant_str ⟨.str x,H,I.tok _,⟨_,Z⟩,h⟩
def Gl(X:Cx)(x:Str):Prop:=X.env.kindOf x=some .globalImplicit
def Ab{E:∅}{Y:aE}{s:Shared}{σ:St}{H:Hp}{x:Str}{u:Value}{Q:∅}(I:bG X Y σ H s)(hg:Gl X x)(hm:X.mg x=some u)(h:Q u s)
  (hd:@&((x==("__debug__" : Str))=false)):wpAny (model X.prog X.w) X.A (eval (.Name x pos) X.env) Q E s :=
 Ú I.ok.kind hg (Calls.loadGlobal_global (by rw[I.ok.glob];show I.mod.glob.keeps I.bk) hm h) hd
def uG{E:∅}{Y:aE}{s:Shared}{σ:St}{H:Hp}{x:Str}{u:Value}{Q:∅}(I:bG X Y σ H s)(hg:Gl X x)(hm:X.mg x=none)(hv:bootBuiltins x=some u)(h:Q u s)
  (hn:@&(x≠ "__name__")) (hd:@&((x==("__debug__" : Str))=false)):wpAny (model X.prog X.w) X.A (eval (.Name x pos) X.env) Q E s:=by
 let⟨mb,h1,h2⟩:=I.mod.blt;show Ú I.ok.kind hg (Calls.loadGlobal_builtin (by rw[I.ok.glob];show I.mod.glob.keeps I.bk) hm (by rw[I.ok.blt];show h1.keeps I.bk) ((h2 x hn).trans hv) h) hd
def W7{x:Str}{v:V}{u:Value}(hg:Gl X x)(hm:X.mg x=some u)(r:cY v u)(hd:@&((x==("__debug__" : Str))=false)):PE X (.Name x pos) (tC v) :=
 λ_ _ _ H _ I h=>Ab I hg hm ⟨v,H,I,r,h⟩ hd
def tR{x:Str}{v:V}{u:Value}(hg:Gl X x)(hm:X.mg x=none)(hv:bootBuiltins x=some u)(r:cY v u)(hn:@&(x≠ "__name__"))(hd:@&((x==("__debug__" : Str))=false)):PE X (.Name x pos) (tC v) :=
 λ_ _ _ H _ I h=>uG I hg hm hv ⟨v,H,I,r,h⟩ hn hd
variable{a b:Expr}{tb:TE}
variable{tA tB':TT}{rest:bc}
noncomputable def a0b(t u:TT):TT:=λσ H Q=>t σ H λc H1=>if c=true then u σ H1 Q else Q false H1
noncomputable def tOr(t u:TT):TT:=λσ H Q=>t σ H λc H1=>if c=true then Q true H1 else u σ H1 Q
noncomputable def a7w(t:TT):TT:=λσ H Q=>t σ H λc H1=>Q (!c) H1
def qg(ha:PT X a tA):PW X (.BoolOp .And [a] pos) tA:=by
 intro wh Y s σ H Q I h;show isTrue_and (jC (ha Y s σ H Q I h) λc s1 e=>?_);cases c with
 |true=>show isTrue_and_nil e
 |false=>show e
def zp(ha:PT X a tA):PW X (.BoolOp .Or [a] pos) tA:=by
 intro wh Y s σ H Q I h;show isTrue_or (jC (ha Y s σ H Q I h) λc s1 e=>?_);cases c with
 |false=>show isTrue_or_nil e
 |true=>show e
def oZ(ha:PT X a tA)(hb:PW X (.BoolOp .And (b::rest) pos) tB'):PW X (.BoolOp .And (a::b::rest) pos) (a0b tA tB'):=by
 intro wh Y s σ H Q I h;show isTrue_and (jC (ha Y s σ H _ I h) λc s1 ⟨H1,I1,q1⟩=>?_);cases c with
 |true=>show hb wh Y s1 σ H1 Q I1 q1
 |false=>show⟨H1,I1,q1⟩
def Ac(ha:PT X a tA)(hb:PW X (.BoolOp .Or (b::rest) pos) tB'):PW X (.BoolOp .Or (a::b::rest) pos) (tOr tA tB'):=by
 intro wh Y s σ H Q I h;show isTrue_or (jC (ha Y s σ H _ I h) λc s1 ⟨H1,I1,q1⟩=>?_);cases c with
 |true=>show⟨H1,I1,q1⟩
 |false=>show hb wh Y s1 σ H1 Q I1 q1
def pB(ha:PT X a tA):PT X (.UnaryOp .Not a pos) (a7w tA):=by
 intro Y s σ H Q I h;show isTrue_not (ha Y s σ H (λc H1=>Q (!c) H1) I h)
noncomputable def a4V(ta tb:TE):TE:=λσ H Q=>ta σ H λx H1=>EA (λc=>x=.bl c) λc=>if c=true then tb σ H1 Q else Q (.bl false) H1
noncomputable def a4W(ta:TE):TE:=λσ H Q=>ta σ H λx H1=>EA (λc=>x=.bl c) λc=>Q (.bl (!c)) H1
def æ{op}{t:TE}(h:PE X a t):PE X (.BoolOp op [a] pos) t:=λY s σ H Q I hw=>BoolOp_one (h Y s σ H Q I hw)
def ç(ha:PE X a ta)(hb:PE X (.BoolOp .And (b::rest) pos) tb):PE X (.BoolOp .And (a::b::rest) pos) (a4V ta tb):=by
 intro Y s σ H Q I h;show BoolOp_and (jC (ha Y s σ H _ I h) λv s1 ⟨x,H1,I1,r1,q1⟩=>?_);let⟨c,rfl,q1⟩:=q1;cases r1;show Cz ?_;cases c with
 |true=>show hb Y s1 σ H1 Q I1 q1
 |false=>show⟨.bl false,H1,I1,Z,q1⟩
def a2J(ha:PE X a ta):PE X (.UnaryOp .Not a pos) (a4W ta):=by
 intro Y s σ H Q I h;show UnaryOp_ (jC (ha Y s σ H _ I h) λv s1 ⟨x,H1,I1,r1,q1⟩=>?_);let⟨c,rfl,q1⟩:=q1;cases r1;show not_of (Cz ⟨.bl (!c),H1,I1,Z,q1⟩)
noncomputable def tIf(t:TT)(ta tb:TE):TE:=λσ H Q=>t σ H λc H1=>if c=true then ta σ H1 Q else tb σ H1 Q
def nO(hc:PT X c tA)(ha:PE X a ta)(hb:PE X b tb):PE X (.IfExp c a b pos) (tIf tA ta tb):=by
 intro Y s σ H Q I h;show wpAny_IfExp (jC (hc Y s σ H _ I h) λd s1 ⟨H1,I1,q1⟩=>?_);cases d with
 |true=>show ha Y s1 σ H1 Q I1 q1
 |false=>show hb Y s1 σ H1 Q I1 q1
end
def bD(K:aJ)(H:Hp)(a:Addr)(xs:af):Prop :=
 Rd H a (.lst xs)\/
  ∃(o:Obj) (bY:Array Value) (n:Nat),K.lookup a=some o/\o.cls=.type "list" /\o.dict=none/\o.data=.seq bY n/\bY.size<=sizeLine/\cZ xs bY.toList
def cJ(K:aJ)(H:Hp)(a:Addr)(xs:af):Prop :=
 Rd H a (.tup xs)\/
  ∃(o:Obj) (bY:Array Value) (n:Nat),K.lookup a=some o/\o.cls=.type "tuple" /\o.data=.seq bY n/\bY.size<=sizeLine/\cZ xs bY.toList
noncomputable def a7x:Value->Option V
 |.none=>some .non
 |.bool b=>some (.bl b)
 |.int i _=>some (.int i)
 |.str x _=>some (.str x)
 |.bytes b _=>some (.W5 b)
 |.float b _=>some (.flt b)
 |.ref a=>⇑a
 |.type n=>some (.ty n)
 |_=>none
def cY.abs{x:V}{u:Value}(r:cY x u):a7x u=some x:=by
 cases x with
 |non=>cases r;rfl
 |bl _=>cases r;rfl
 |int _=>let⟨t,rfl⟩:=r;rfl
 |str _=>let⟨t,rfl⟩:=r;rfl
 |W5 _=>let⟨t,rfl⟩:=r;rfl
 |flt _=>let⟨t,rfl⟩:=r;rfl
 |ref _=>cases r;rfl
 |ty _=>cases r;rfl
def cY.inj{x y:V}{u:Value}(r:cY x u)(q:cY y u):x=y:=dI (r.abs.symm.trans q.abs)
def cZ.inj{xs ys:af}{us:aw}(h:cZ xs us)(g:cZ ys us):xs=ys:=by
 induction h generalizing ys with
 |nil=>cases g;rfl
 |cons r _ ih =>
  cases g with
  |cons q t=>rw[r.inj q,ih t]
section
variable{X:Cx}{Y:aE}{σ:St}{H:Hp}{s:Shared}{a:Addr}{xs ys:af}
def bD.of(h:H a=↥xs):bD K H a xs:=.inl (.inl h)
def cJ.of(h:H a= ~~~xs):cJ K H a xs:=.inl (.inl h)
def bG.list(I:bG X Y σ H s)(h:bD X.K H a xs):∃bY:aw,cZ xs bY/\PlainL s.heap a bY.toArray/\xs.length<=sizeLine:=by
 rcases h with h|⟨o,bY,n,hk,hc,hd,hs,hz,r⟩
 ·let⟨z,bY,n,r,e⟩:=h.ok I.hok;show⟨bY,r,⟨_,n,e,Z,Z,Z⟩,z⟩
 ·show⟨bY.toList,r,⟨o,n,I.Ci a o hk,hc,hd,by simpa using hs⟩,?_⟩;let e:=r.length;simp only[Array.length_toList]at e;omega
def bG.tuple(I:bG X Y σ H s)(h:cJ X.K H a xs):∃bY:aw,cZ xs bY/\IsTup s.heap a bY.toArray/\xs.length<=sizeLine:=by
 rcases h with h|⟨o,bY,n,hk,hc,hs,hz,r⟩
 ·let⟨z,bY,r,p⟩:=h.ok I.hok;show⟨bY,r,p,z⟩
 ·show⟨bY.toList,r,⟨o,I.Ci a o hk,hc,n,by simpa using hs⟩,?_⟩;let e:=r.length;simp only[Array.length_toList]at e;omega
def bG.w5(I:bG X Y σ H s)(h:bD X.K H a xs)(h':bD X.K H a ys):xs=ys:=by
 let⟨bY,r,⟨o,n,e,_,_,d⟩,_⟩:=I.list h;let⟨its',r',⟨o',n',e',_,_,d'⟩,_⟩:=I.list h';rw[e]at e';cases e';rw[d]at d';injection d' with d1 _
 let:bY=its':=by simpa using congrArg Array.toList d1
 subst this;show r.inj r'
def bG.Ks(I:bG X Y σ H s)(h:cJ X.K H a xs)(h':cJ X.K H a ys):xs=ys:=by
 let⟨bY,r,⟨o,e,_,n,d⟩,_⟩:=I.tuple h;let⟨its',r',⟨o',e',_,n',d'⟩,_⟩:=I.tuple h';rw[e]at e';cases e';rw[d]at d';injection d' with d1 _
 let:bY=its':=by simpa using congrArg Array.toList d1
 subst this;show r.inj r'
end
abbrev Cx.wish(X:Cx)(E:∅):Cx:={ X with xe:=E}
abbrev Cx.nox(X:Cx):Cx:=X.wish λ_ _=>False
def Cx.Ok.wish{X:Cx}(ok:X.Ok)(E:∅):(X.wish E).Ok :=
 ⟨ok.mod,ok.kind,ok.glob,ok.blt,ok.above,ok.inj,ok.has,ok.cab,ok.hd,ok.frames,ok.stk,ok.exf,ok.bs,ok.χ,ok.Va,ok.Yz,ok.Aa,ok.frf⟩
def Cx.Ok.rZ{X:Cx}{E:∅}(ok:(X.wish E).Ok):X.Ok :=
 ⟨ok.mod,ok.kind,ok.glob,ok.blt,ok.above,ok.inj,ok.has,ok.cab,ok.hd,ok.frames,ok.stk,ok.exf,ok.bs,ok.χ,ok.Va,ok.Yz,ok.Aa,ok.frf⟩
section
variable{X:Cx}{Y:aE}{σ:St}{H:Hp}{s:Shared}{E:∅}
def bG.wish(I:bG X Y σ H s)(E:∅):bG (X.wish E) Y σ H s:=⟨I.ok.wish E,I.os,I.bare,I.base,I.loc,I.cell,I.free,I.rY,I.pin,I.hok,I.len⟩
def bG.rZ(I:bG (X.wish E) Y σ H s):bG X Y σ H s:=⟨I.ok.rZ,I.os,I.bare,I.base,I.loc,I.cell,I.free,I.rY,I.pin,I.hok,I.len⟩
def SP.rZ{D:Ends}{f:Flow}{s':Shared}(h:SP (X.wish E) Y D f s'):SP X Y D f s':=by
 cases f with
 |next=>let⟨σ',H',I,q⟩:=h;show⟨σ',H',I.rZ,q⟩
 |brk=>let⟨σ',H',I,q⟩:=h;show⟨σ',H',I.rZ,q⟩
 |cont=>let⟨σ',H',I,q⟩:=h;show⟨σ',H',I.rZ,q⟩
 |ret u=>let⟨v,σ',H',I,r,q⟩:=h;show⟨v,σ',H',I.rZ,r,q⟩
def Qk.nox{st:List Stmt}{t:TS}(h:Qk X.nox st t):Qk X st t:=λY s σ H D I hw =>
 iB (h Y s σ H D (I.wish _) hw) (λ_ _ q=>q.rZ) λ_ _ z=>False.elim z
end
section
variable{X:Cx}{st:Stmt}{rest:List Stmt}{t u:TS}
noncomputable def W8:TS:=λD σ H=>D.nx σ H
noncomputable def a0c(t u:TS):TS:=λD σ H=>t { D with nx:=u D} σ H
def bA:Qk X [] W8:=λ_ _ σ H _ I h=>Nm ⟨σ,H,I,h⟩
def aD(h1:PS X st t)(h2:Qk X rest u):Qk X (st::rest) (a0c t u):=by
 intro Y s σ H D I h;show Uq (jC (h1 Y s σ H { D with nx:=u D} I h) λf s1 q=>?_);cases f with
 |next =>
  let⟨σ',H',I',q⟩:=q;show h2 Y s1 σ' H' D I' q
 |ret v=>show q
 |brk=>show q
 |cont=>show q
def aF(h1:PS X st t):Qk X [st] t:=by
 intro Y s σ H D I h;show Uq (jC (h1 Y s σ H D I h) λf s1 q=>?_);cases f with
 |next=>show Nm q
 |ret v=>show q
 |brk=>show q
 |cont=>show q
noncomputable def a2K:TS:=λD σ H=>D.bk σ H
def è:PS X (.Break pos) a2K:=λ_ _ σ H _ I h=>wpAny_Break ⟨σ,H,I,h⟩
def bG.quiet{Y:aE}{σ:St}{H:Hp}{s:Shared}(I:bG X Y σ H s):interactive X.env=false:=by simp[interactive,I.ok.kind]
noncomputable def a4X(te:TE):TS:=λD σ H=>te σ H λ_ H1=>D.nx σ H1
def fL(he:PE X e te)(hs:@&(swapsWith e none pos.line X.env=pure false)):PS X (.Expr e pos) (a4X te):=by
 intro Y s σ H D I h;show wpAny_Expr_any (jC (he Y s σ H _ I h) λv s1 ⟨x,H1,I1,r1,q1⟩=>⟨σ,H1,I1,q1⟩) I.quiet hs
noncomputable def a4Y(te:TE):TS:=λD σ H=>te σ H D.rt
def bH(he:PE X e te):PS X (.Return (some e) pos) (a4Y te):=by
 intro Y s σ H D I h;show wpAny_Return_some (jC (he Y s σ H _ I h) λv s1 ⟨x,H1,I1,r1,q1⟩=>⟨x,σ,H1,I1,r1,q1⟩)
noncomputable def a0d(c:TT)(t u:TS):TS:=λD σ H=>c σ H λb H1=>if b=true then t D σ H1 else u D σ H1
def cM{a b:List Stmt}{tc:TT}(hc:PT X c tc)(ha:Qk X a t)(hb:Qk X b u):PS X (.If c a b pos) (a0d tc t u):=by
 intro Y s σ H D I h;show wpAny_If (jC (hc Y s σ H _ I h) λd s1 ⟨H1,I1,q1⟩=>?_);cases d with
 |true=>show ha Y s1 σ H1 D I1 q1
 |false=>show hb Y s1 σ H1 D I1 q1
noncomputable def a2L:TS:=λ_ _ _=>False
def Ad:PS X st a2L:=λ_ _ _ _ _ _ h=>h.elim
end
abbrev TG:=V->St->Hp->(St->Hp->Prop)->Prop
abbrev ê:=af->St->Hp->(St->Hp->Prop)->Prop
def PG(X:Cx)(target:Expr)(t:TG):Prop :=
 ∀(Y:aE) (s:Shared) (σ:St) (H:Hp) (v:V) (u:Value) (Q:St->Hp->Prop),bG X Y σ H s->cY v u->t v σ H Q->
  wpAny (model X.prog X.w) X.A (assign target X.env u) (λ_ s'=>∃σ' H',bG X Y σ' H' s'/\Q σ' H') X.xe s
def PGs(X:Cx)(ts:bc)(t:ê):Prop :=
 ∀(Y:aE) (s:Shared) (σ:St) (H:Hp) (vs:af) (us:aw) (Q:St->Hp->Prop),bG X Y σ H s->cZ vs us->t vs σ H Q->
  wpAny (model X.prog X.w) X.A (assignInOrder ((assignEach ts X.env).map (·.2)) us) (λ_ s'=>∃σ' H',bG X Y σ' H' s'/\Q σ' H') X.xe s
abbrev a2M:=V->V->V->Hp->(Hp->Prop)->Prop
def a2N(X:Cx)(t:a2M):Prop :=
 ∀(Y:aE) (s:Shared) (σ:St) (H:Hp) (o i v:V) (ov iv u:Value) (Q:Hp->Prop),bG X Y σ H s->cY o ov->cY i iv->cY v u->t o i v H Q->
  wpAny (model X.prog X.w) X.A (setItem ov iv u) (λ_ s'=>∃H',bG X Y σ H' s'/\Q H') X.xe s
section
variable{X:Cx}
noncomputable def yJ(i:Nat):TG:=λv σ H Q=>Q (σ.set i (some v)) H
def aM(i:Nat){x:Str}(hN:X.N.Nodup)(hi:@&(X.N[i]?=some x))(hx:autoParam (Loc X.env.scope x) Q1_._auto_1)(hf:autoParam (X.fn x=true\/X.env.scope.names.lookup x=some .local) Q2_._auto_1):PG X (.Name x pos) (yJ i):=by
 intro Y s σ H v u Q I r h;show wpAny_assign_Name (Qj I hN hi hx r (λs' I'=>⟨_,H,I',h⟩) hf)
noncomputable def a4Z:ê:=λvs σ H Q=>vs=[]/\Q σ H
noncomputable def ë(t:TG)(u:ê):ê:=λvs σ H Q=>∃v r,vs=v::r/\t v σ H λσ' H'=>u r σ' H' Q
def iD:PGs X [] a4Z:=by
 intro Y s σ H vs us Q I r h;let⟨e,h⟩:=h;subst e;cases r;show assignInOrder_nil ⟨σ,H,I,h⟩
def bQ{t:TG}{u:ê}(h1:PG X e t)(h2:PGs X es u)
  (hs:@&((assignEach (e::es) X.env).map (·.2)=assign e X.env::(assignEach es X.env).map (·.2))):PGs X (e::es) (ë t u):=by
 intro Y s σ H vs us Q I r h;let⟨v,vr,e1,h⟩:=h;subst e1;cases r with
 |cons r rr =>
  rw[hs];show assignInOrder_cons (jC (h1 Y s σ H _ _ _ I r h) λ_ s1 ⟨σ1,H1,I1,q1⟩=>h2 Y s1 σ1 H1 _ _ Q I1 rr q1)
inductive a2O(K:aJ)(n:Nat)(t:ê)(v:V)(σ:St)(H:Hp)(Q:St->Hp->Prop):Prop
 |mk (a xs:_) (_:v=.ref a) (_:cJ K H a xs) (_:xs.length=n) (_:t xs σ H Q)
def a2P{k:Nat}{t:ê}(hc:X.calm=true)(h:PGs X es t)
  (hn:@&((assignEach es X.env).length=n)) (hst:@&((assignEach es X.env).findIdx? (·.1)=none)):PG X (.Tuple es k pos) (a2O X.K n t):=by
 intro Y s σ H v u Q I r hw;let⟨a,xs,e1,hq,hl,hw⟩:=hw;subst e1;cases r;let⟨bY,rv,ht,hz⟩:=I.tuple hq;show assign_Tuple_tuple (I.ok.hd hc) ht (by simp[hn,<-hl,rv.length]) hst λh' hx=>?_;let I1:bG X Y σ H (s•h'):=I.kept (t':=s.toks) λb o e=>hx b o (bV (bw e)) e;show h Y _ σ H xs _ Q I1 (by simpa using rv) hw
noncomputable def a7y(to ti:TE)(t:a2M):TG:=λv σ H Q=>to σ H λo H1=>ti σ H1 λi H2=>t o i v H2 λH3=>Q σ H3
def Ob{o i:Expr}{to ti:TE}{t:a2M}(ho:PE X o to)(hi:PE X i ti)(hs:a2N X t)
  (ha:autoParam (∀v,assign (.Subscript o i pos) X.env v=(do
   let ov <-holding [v] (eval o X.env)
   let iv <-holding [v,ov] (eval i X.env)
   standAt pos
   holding [v,ov,iv] (setItem ov iv v)
   release [v,ov,iv] [])) Q0_._auto_1):PG X (.Subscript o i pos) (a7y to ti t):=by
 intro Y s σ H v u Q I r h;rw[ha];show M (eV (jC (ho Y s σ H _ I h) λov s1 ⟨x,H1,I1,r1,q1⟩=>M (eV (jC (hi Y s1 σ H1 _ I1 q1) λiv s2 ⟨y,H2,I2,r2,q2⟩=>M (Nx (M (eV (jC (hs Y s2 σ H2 x y v ov iv u _ I2 r1 r2 r q2) λ_ s3 ⟨H3,I3,q3⟩=>wpAny_release ⟨σ,H3,I3,q3⟩))))))))
noncomputable def a2Q(te:TE)(g:TG):TS:=λD σ H=>te σ H λx H1=>g x σ H1 D.nx
def vM{g:TG}(he:PE X e te)(hg:PG X tg g)(hs:@&(swapsWithSole [tg] e pos.line X.env=pure false))(hw:@&(swappedStores [tg] e X.env=pure none))
  (h1:@&((assignEach [tg] X.env).map (·.2)=[assign tg X.env])):PS X (.Assign [tg] e pos) (a2Q te g):=by
 intro Y s σ H D I h;show wpAny_Assign_stores (jC (he Y s σ H _ I h) λv s1 ⟨x,H1,I1,r1,q1⟩=>?_) hs hw;rw[h1];show jC (hg Y s1 σ H1 x v _ I1 r1 q1) λ_ s2 q=>q
def aX(i:Nat){x:Str}{pos':Pos}(hN:X.N.Nodup)(he:PE X e te)(hi:@&(X.N[i]?=some x))(hx:autoParam (Loc X.env.scope x) Q1_._auto_1)(hs:@&(swapsWith e (some (.Name x pos')) pos.line X.env=pure false))(hf:autoParam (X.fn x=true\/X.env.scope.names.lookup x=some .local) Q2_._auto_1) :
  PS X (.Assign [.Name x pos'] e pos) (a2Q te (yJ i)):=by
 intro Y s σ H D I h;show wpAny_Assign_Name (jC (he Y s σ H _ I h) λv s1 ⟨y,H1,I1,r1,q1⟩=>Qj I1 hN hi hx r1 (λs2 I2=>⟨_,H1,I2,q1⟩) hf) hs
end
section
variable{X:Cx}
noncomputable def a2R(c:TT)(tb:TS):TS:=λD σ H=>∃W:Nat->St->Hp->Prop,(∃m,W m σ H)/\∀m σ H,W m σ H->
 c σ H λb H1=>if b=true then ∃N:St->Hp->Prop,(∀σ' H',N σ' H'->∃m',m'<m/\W m' σ' H')/\tb { D with nx:=N,ct:=N,bk:=D.nx} σ H1 else D.nx σ H1
def ì{tc:TT}(hp:PassesOwn (model X.prog X.w) X.A X.env X.xe)(hc:PT X c tc)(hb:Qk X body tb):PS X (.While c body [] pos) (a2R tc tb):=by
 intro Y s σ H D I h;let⟨W,⟨m0,w0⟩,turn⟩:=h;show wpAny_While (codeAny_whileLoop (λn s'=>∃σ' H',bG X Y σ' H' s'/\W n σ' H') ?_ m0 ⟨σ,H,I,w0⟩);rintro n s1 ⟨σ1,H1,I1,w1⟩;show yZ hp (jC (hc Y s1 σ1 H1 _ I1 (turn n σ1 H1 w1)) λb s2 ⟨H2,I2,q2⟩=>?_);cases b with
 |true =>
  let⟨N,hN,q2⟩:=q2;rw[aB rfl];show yZ hp (jC (hb Y s2 σ1 H2 _ I2 q2) λf s3 q3=>?_);cases f with
  |next =>
   let⟨σ3,H3,I3,n3⟩:=q3;let⟨m',hm,w3⟩:=hN σ3 H3 n3;show⟨m',hm,σ3,H3,I3,w3⟩
  |cont =>
   let⟨σ3,H3,I3,n3⟩:=q3;let⟨m',hm,w3⟩:=hN σ3 H3 n3;show⟨m',hm,σ3,H3,I3,w3⟩
  |brk=>show q3
  |ret v=>show q3
 |false =>
  rw[aA cN];show Nm ⟨σ1,H2,I2,q2⟩
end
structure It where
 go:Nat->Hp->Prop
 W9:Nat->Hp->V->Hp->Prop
 stop:Nat->Hp->Prop
def CV(X:Cx)(Y:aE)(H:Hp)(b:Addr):Prop :=
 H b=none/\b≠X.env.locals/\b∉X.fs/\(b∈X.ex\/X.s₀.heap.objs.size<=b)/\(∀x c,X.env.cells.lookup x=some c->c≠b)/\∀p∈X.pn++Y,p.1≠b
def bG.Fx{X:Cx}{Y:aE}{σ:St}{H H':Hp}{s:Shared}{b:Addr}(I:bG X Y σ H s)(hb:s⁻¹<=b)(hn:H' b=none):CV X Y H' b:=by
 show⟨hn,iM (jd I.lt hb),I.a4T hb,.inr (cG I.sz hb),λx c e z=>?_,λp hp z=>?_⟩
 ·let⟨v,q⟩:=I.cell x c e;show absurd (jd q.lt (by rw[z];show hb)) (zc _)
 ·show absurd (jd (bw (I.pin p hp).1) (by rw[z];show hb)) (zc _)
structure Turn(P:Program)(w:World)(K:aJ)(tg:Expr)(Z97:It)(fp:aI)(it:Addr)(tn:Nat->Heap->Prop):Prop where
 mem:it∈fp
 obj:∀i h,tn i h->∀b∈fp,∃o,h.get? b=some o/\∀v,o.data≠.cell v
 keep:∀i h h',tn i h->(∀b∈fp,∀o,h.get? b=some o->h'.get? b=some o)->tn i h'
 item:∀(X:Cx),X.prog=P->X.w=w->X.K=K->X.calm=true->∀(i:Nat) (Y:aE) (s:Shared) (σ:St) (H:Hp) (E:∅),bG X Y σ H s->(∀b∈fp,CV X Y H b)->tn i s.heap->Z97.go i H->
  wpAny (model P w) X.A (pyNext (.ref it)) (λr s1=>∃u,r=some u/\
   wpAny (model P w) X.A (letOwnedTupleGo tg (.ref it) u) (λ_ s2=>∃x H',bG X Y σ H' s2/\cY x u/\Z97.W9 i H x H'/\tn (i+1) s2.heap/\∀b∈fp,H' b=none) E s1) E s
 done:∀(X:Cx),X.prog=P->X.w=w->X.K=K->X.calm=true->∀(i:Nat) (Y:aE) (s:Shared) (σ:St) (H:Hp) (E:∅),bG X Y σ H s->(∀b∈fp,CV X Y H b)->tn i s.heap->Z97.stop i H->
  wpAny (model P w) X.A (pyNext (.ref it)) (λr s1=>r=none/\bG X Y σ H s1) E s
 self:∀(A:Around) (i:Nat) (s:Shared) (Q:∅) (E:∅),tn i s.heap->Q (.ref it) s->wpAny (model P w) A (pyIter (.ref it)) Q E s
abbrev TI:=St->Hp->(It->Hp->Prop)->Prop
inductive PIE(X:Cx)(Y:aE)(σ:St)(tg:Expr)(R:It->Hp->Prop)(itv:Value)(s2:Shared):Prop
 |mk (it:Addr) (fp:aI) (tn:Nat->Heap->Prop) (Z97:It) (H':Hp) (_:itv=.ref it) (_:bG X Y σ H' s2) (_:Turn X.prog X.w X.K tg Z97 fp it tn) (_:tn 0 s2.heap) (_:(∀b∈fp,CV X Y H' b)) (_:R Z97 H')
def PI(X:Cx)(tg iter:Expr)(wi:TI):Prop :=
 ∀(Y:aE) (s:Shared) (σ:St) (H:Hp) (R:It->Hp->Prop),bG X Y σ H s->wi σ H R->
  wpAny (model X.prog X.w) X.A (eval iter X.env) (λv s1=>wpAny (model X.prog X.w) X.A (pyIter v) (PIE X Y σ tg R) X.xe s1) X.xe s
def Xa{E : Value → Shared → Prop}{s : Shared}{it : Addr}{u : Value}{o : Obj}{n : String}{vs : Array Value}{Q : Unit → Shared → Prop}(ho : s^^^it = some o)(hc : o.cls = .type n)(hd : o.data = .fields vs)
    (hn : ["enumerate", "zip", "dict_itemiterator", "dict_reverseitemiterator", "odict_iterator", "itertools.zip_longest", "itertools.pairwise"].contains n = false) (hQ : Q ⟨⟩ s) : wpAny Z98 A (letOwnedTupleGo tg (.ref it) u) Q E s := by
  unfold letOwnedTupleGo;cases tg <;> first
    | show ao hQ
    | (cases u <;> first
        | show ao hQ
        | (show M (wpAny_load ho ?_)
           rw [hc, hd];show wpAny Z98 A (if (["enumerate", "zip", "dict_itemiterator", "dict_reverseitemiterator", "odict_iterator", "itertools.zip_longest", "itertools.pairwise"].contains n && vs[0]? == some (rawInt _)) = true then _ else _) Q E s;rw [aA (by intro h; rw [hn, Bool.false_and] at h; cases h)];show ao hQ))
def Ê(K:aJ)(a:Addr):It :=
 ⟨λi H=>∃xs x,bD K H a xs/\xs[i]?=some x,λi H x H'=>H'=H/\∀xs,bD K H a xs->xs[i]?=some x,λi H=>∃xs,bD K H a xs/\xs.length<=i⟩
def Itt(K:aJ)(a:Addr):It :=
 ⟨λi H=>∃xs x,cJ K H a xs/\xs[i]?=some x,λi H x H'=>H'=H/\∀xs,cJ K H a xs->xs[i]?=some x,λi H=>∃xs,cJ K H a xs/\xs.length<=i⟩
noncomputable def SJ(lo:Int)(n:Nat):It:=⟨λi _=>i<n,λi H x H'=>H'=H/\x=.int (lo+i),λi _=>n<=i⟩
def YB{P:Program}{w:World}(a it:Addr):Turn P w K tg (Ê K a) [it] it (λi h=>h.IsListIter it a i) where
 mem:=by simp
 obj:=λi h st b hb=>by
  let e:b=it:=by simpa using hb
  subst e
  let⟨o,e,c,d⟩:=st
  show⟨o,e,λv z=>by rw[d]at z;cases z⟩
 keep:=λi h h' st k=>st.at λo e=>k it (by simp) o e
 item:=by
  intro X hP hw hK hc i Y s σ H E I hf st hg
  subst hP hw hK
  let⟨xs,x,hq,hx⟩:=hg
  let⟨bY,rv,p,hz⟩:=I.list hq
  let⟨u,hu,ru⟩:=rv.get hx
  let⟨f0,f1,f2,f3,f4,f5⟩:=hf it (by simp)
  show Tr st p.isList (x:=u) (by simpa using hu) λh' st' sb=>?_
  let I1:bG X Y σ H (s•h'):=I.turned (t':=s.toks) (λb o hb e=>(sb.2 b hb).trans e) f0 f1 f3 f4 f5
  let⟨o,e,c,d⟩:=id st'
  show⟨u,Z,Xa (s:=(s•h')) e c d () ⟨x,H,I1,ru,⟨rfl,λys hy=>by rw[I.w5 hy hq];show hx⟩,st',λb hb=>(hf b hb).1⟩⟩
 done:=by
  intro X hP hw hK hc i Y s σ H E I hf st hg
  subst hP hw hK
  let⟨xs,hq,hx⟩:=hg
  let⟨bY,rv,p,hz⟩:=I.list hq
  let⟨f0,f1,f2,f3,f4,f5⟩:=hf it (by simp)
  let hl:=rv.length
  show wpAny_pyNext_list_end (I.ok.hd hc) st p.isList (by simp;omega) λh' eb=>⟨Z,I.turned (t':=s.toks) (λb o hb e=>eb b o hb e) f0 f1 f3 f4 f5⟩
 self:=λ_ _ _ _ _ st h=>wpAny_pyIter_listiter st h
def Vc{P:Program}{w:World}(a it:Addr):Turn P w K tg (Itt K a) [it] it (λi h=>h.IsTupleIter it a i) where
 mem:=by simp
 obj:=λi h st b hb=>by
  let e:b=it:=by simpa using hb
  subst e
  let⟨o,e,c,d⟩:=st
  show⟨o,e,λv z=>by rw[d]at z;cases z⟩
 keep:=λi h h' st k=>st.at λo e=>k it (by simp) o e
 item:=by
  intro X hP hw hK hc i Y s σ H E I hf st hg
  subst hP hw hK
  let⟨xs,x,hq,hx⟩:=hg
  let⟨bY,rv,p,hz⟩:=I.tuple hq
  let⟨u,hu,ru⟩:=rv.get hx
  let⟨f0,f1,f2,f3,f4,f5⟩:=hf it (by simp)
  show wpAny_pyNext_tuple_item st (show s.heap.IsTuple a bY.toArray from p) (x:=u) (by simpa using hu) λh' st' sb=>?_
  let I1:bG X Y σ H (s•h'):=I.turned (t':=s.toks) (λb o hb e=>(sb.2 b hb).trans e) f0 f1 f3 f4 f5
  let⟨o,e,c,d⟩:=id st'
  show⟨u,Z,Xa (s:=(s•h')) e c d () ⟨x,H,I1,ru,⟨rfl,λys hy=>by rw[I.Ks hy hq];show hx⟩,st',λb hb=>(hf b hb).1⟩⟩
 done:=by
  intro X hP hw hK hc i Y s σ H E I hf st hg
  subst hP hw hK
  let⟨xs,hq,hx⟩:=hg
  let⟨bY,rv,p,hz⟩:=I.tuple hq
  let⟨f0,f1,f2,f3,f4,f5⟩:=hf it (by simp)
  let hl:=rv.length
  show wpAny_pyNext_tuple_end (I.ok.hd hc) st (show s.heap.IsTuple a bY.toArray from p) (by simp;omega) λh' eb=>⟨Z,I.turned (t':=s.toks) (λb o hb e=>eb b o hb e) f0 f1 f3 f4 f5⟩
 self:=λ_ _ _ _ _ st h=>wpAny_pyIter_tupleiter st h
def Vd{P:Program}{w:World}(it:Addr)(lo:Int)(n:Nat):Turn P w K tg (SJ lo n) [it] it (λi h=>IsRangeIter h it (lo+(i:Nat)*1) ((n:Int)-(i:Nat)) 1) where
 mem:=by simp
 obj:=λi h st b hb=>by
  let e:b=it:=by simpa using hb
  subst e
  show⟨_,st,λv z=>by
   let z':Data.fields _=Data.cell v:=z
   cases z'⟩
 keep:=λi h h' st k=>k it (by simp) _ st
 item:=by
  intro X hP hw hK hc i Y s σ H E I hf st hg
  subst hP hw hK
  let⟨f0,f1,f2,f3,f4,f5⟩:=hf it (by simp)
  let W:=Walks.range (prog:=X.prog) (w:=X.w) (I.ok.hd hc) it lo 1 n
  show W.item i s _ _ hg st λv h' tk hv st' kk=>?_
  let⟨t,rfl⟩:=hv
  let I1:bG X Y σ H { s with heap:=h',toks:=tk}:=I.turned (λb o hb e=>kk b o (by simpa using hb) e) f0 f1 f3 f4 f5
  show⟨_,Z,Xa (s:={ s with heap:=h',toks:=tk}) (n:="range_iterator") st' rfl rfl () ⟨.int (lo+i),H,I1,⟨t,?_⟩,⟨rfl,rfl⟩,st',λb hb=>(hf b hb).1⟩⟩
  rw[Int.mul_one]
 done:=by
  intro X hP hw hK hc i Y s σ H E I hf st hg
  subst hP hw hK
  let⟨f0,f1,f2,f3,f4,f5⟩:=hf it (by simp)
  show wpAny_pyNext_range_end (I.ok.hd hc) st (by let:n<=i:=hg;omega) λh' eb=>⟨Z,I.turned (t':=s.toks) (λb o hb e=>eb b o hb e) f0 f1 f3 f4 f5⟩
 self:=λ_ _ _ _ _ st h=>wpAny_pyIter_rangeiter st h
section
variable{X:Cx}
def í(K:aJ)(tl:TE):TI:=λσ H R=>tl σ H λx H1=>EC (λa=>x=.ref a) (λa=>(∃xs,bD K H1 a xs)) λa=>R (Ê K a) H1
def a2S(K:aJ)(tl:TE):TI:=λσ H R=>tl σ H λx H1=>EC (λa=>x=.ref a) (λa=>(∃xs,cJ K H1 a xs)) λa=>R (Itt K a) H1
def a0e{l:Expr}{tl:TE}(hl:PE X l tl):PI X tg l (í X.K tl):=by
 intro Y s σ H R I h;show jC (hl Y s σ H _ I h) λv s1 ⟨x,H1,I1,r1,q1⟩=>?_;let⟨a,e,⟨xs,hq⟩,q⟩:=q1;subst e;cases r1;let⟨bY,rv,p,hz⟩:=I1.list hq;show vG p.isList ⟨s1⁻¹,[s1⁻¹],_,_,H1,Z,I1.kept (t':=s1.toks) λb o e=>bM _ e,YB a _,⟨_,cB _ Z,Z,Z⟩,λb hb=>?_,q⟩;let e:b=s1⁻¹:=by simpa using hb
 subst e;show I1.Fx (aK _) (I1.hok.fresh (aK _))
def a2T{l:Expr}{tl:TE}(hl:PE X l tl):PI X tg l (a2S X.K tl):=by
 intro Y s σ H R I h;show jC (hl Y s σ H _ I h) λv s1 ⟨x,H1,I1,r1,q1⟩=>?_;let⟨a,e,⟨xs,hq⟩,q⟩:=q1;subst e;cases r1;let⟨bY,rv,p,hz⟩:=I1.tuple hq;show MJ (show s1.heap.IsTuple a bY.toArray from p) ⟨s1⁻¹,[s1⁻¹],_,_,H1,Z,I1.kept (t':=s1.toks) λb o e=>bM _ e,Vc a _,⟨_,cB _ Z,Z,Z⟩,λb hb=>?_,q⟩;let e:b=s1⁻¹:=by simpa using hb
 subst e;show I1.Fx (aK _) (I1.hok.fresh (aK _))
def Ql{Y:aE}{σ:St}{H:Hp}{s:Shared}{R:It->Hp->Prop}{E:∅}{lo hi:Int}{t u v:Tok}{tk:Nat}(I:bG X Y σ H s)(h1 : -(2^62)<=lo)(h2:lo<2^62)(h3 : -(2^62)<=hi)(h4:hi<2^62)
  (q:R (SJ lo (hi-lo).toNat) H):wpAny (model X.prog X.w) X.A (pyIter (.ref s⁻¹)) (PIE X Y σ tg R) E { s with heap:=s.heap.push { cls:=.type "range",data:=.fields #[.int lo t,.int hi u,.int 1 v]},toks:=tk}:=by
 show wpAny_pyIter_range (IsRange.new ..) (small_one h1 h2 h3 h4) ?_;let I1:bG X Y σ H { s with heap:=s.heap.push { cls:=.type "range",data:=.fields #[.int lo t,.int hi u,.int 1 v]},toks:=tk}:=I.kept λb o e=>bM _ e;show⟨(s.heap.push { cls:=.type "range",data:=.fields #[.int lo t,.int hi u,.int 1 v]}).objs.size,[(s.heap.push { cls:=.type "range",data:=.fields #[.int lo t,.int hi u,.int 1 v]}).objs.size],_,_,H,Z,
  I1.kept (t':=tk) λb o e=>bM _ e,Vd _ lo (hi-lo).toNat,?_,λb hb=>?_,q⟩
 ·let e1:lo+((0:Nat):Int)*1=lo:=by simp
  let e2:(((hi-lo).toNat:Nat):Int)-((0:Nat):Int)=Builtin.Range.rangeSize lo hi 1:=by rw[rangeSize_one];split<;>omega
  show IsRangeIter _ _ (lo+((0:Nat):Int)*1) ((((hi-lo).toNat:Nat):Int)-((0:Nat):Int)) 1;rw[e1,e2];show cB _ rfl
 ·let e:b=(s.heap.push { cls:=.type "range",data:=.fields #[.int lo t,.int hi u,.int 1 v]}).objs.size:=by simpa using hb
  subst e;show I1.Fx (aK _) (I1.hok.fresh (aK _))
def a5a(ta:TA):TI:=λσ H R=>ta σ H λvs H1=>EA (λj:Int=>vs=[.int j]) λj=>-(2^62)<=j/\j<2^62/\R (SJ 0 j.toNat) H1
def a5b(ta:TA):TI:=λσ H R=>ta σ H λvs H1=>∃i j:Int,vs=[.int i,.int j]/\(-(2^62)<=i/\i<2^62/\ -(2^62)<=j/\j<2^62)/\R (SJ i (j-i).toNat) H1
def iV{a:Expr}{ta:TA}(hg:Gl X "range")(hm:X.mg "range" = none)(ha:PA X [a] ta)(hs:@&(starEach [a] X.env=[(false,eval a X.env)])):PI X tg (.Call (.Name "range" p) [a] [] pos) (a5a ta):=by
 intro Y s σ H R I h;show Call_ (uG I hg hm boot_range (wL (jC (ha pos Y s σ H _ I h) λus s1 ⟨vs,H1,I1,r1,q1⟩=>?_) hs Z));let⟨j,e,q1,q2,q⟩:=q1;subst e;cases r1 with
 |cons r rr =>
  cases rr;let⟨t,rfl⟩:=r;show call_range_1 (Ql I1 () () q1 q2 (by simpa using q))
def CW{a b:Expr}{ta:TA}(hg:Gl X "range")(hm:X.mg "range" = none)(ha:PA X [a,b] ta)(hs:@&(starEach [a,b] X.env=[(false,eval a X.env),(false,eval b X.env)]))(hs2:@&(starEach [b] X.env=[(false,eval b X.env)])) :
  PI X tg (.Call (.Name "range" p) [a,b] [] pos) (a5b ta):=by
 intro Y s σ H R I h;show Call_ (uG I hg hm boot_range (wL (jC (ha pos Y s σ H _ I h) λus s1 ⟨vs,H1,I1,r1,q1⟩=>?_) (by rw[hs,hs2]) (by rw[hs2];rfl)));let⟨i,j,e,⟨q1,q2,q3,q4⟩,q⟩:=q1;subst e;cases r1 with
 |cons r rr =>
  cases rr with
  |cons r' rr =>
   cases rr;let⟨t,rfl⟩:=r;let⟨t',rfl⟩:=r';show call_range_2 (Ql I1 q1 q2 q3 q4 q)
noncomputable def a7z(wi:TI)(g:TG)(tb:TS):TS:=λD σ H=>wi σ H λZ97 H1=>∃W:Nat->Nat->St->Hp->Prop,(∃m,W 0 m σ H1)/\∀i m σ H,W i m σ H->
 (Z97.stop i H/\D.nx σ H)\/(Z97.go i H/\∃N:St->Hp->Prop,(∀σ' H',N σ' H'->∃m',m'<m/\W (i+1) m' σ' H')/\∀x H',Z97.W9 i H x H'->g x σ H' λσ2 H2=>tb { D with nx:=N,ct:=N,bk:=D.nx} σ2 H2)
noncomputable def su(fp:aI)(h:Heap):aE:=fp.filterMap λb=>(h.get? b).map λo=>(b,o)
def pC{b:Addr}{o:Obj}(hb:b∈fp)(e:h.get? b=some o):(b,o)∈su fp h:=Uh.mpr ⟨b,hb,by rw[e];rfl⟩
def YC{p:Addr×Obj}(hp:p∈su fp h):p.1∈fp/\h.get? p.1=some p.2:=by
 let⟨b,hb,e⟩:=Uh.mp hp;cases q:h.get? b with
 |none=>rw[q]at e;cases e
 |some o =>
  rw[q]at e;let e':(b,o)=p:=dI e;subst e';show⟨hb,q⟩
def bG.pinned{Y:aE}{σ:St}{H:Hp}{s:Shared}(I:bG X Y σ H s)(hf:∀b∈fp,CV X Y H b)(ho:∀b∈fp,∃o,s^^^b=some o/\∀v,o.data≠.cell v):bG X (Y++su fp s.heap) σ H s :=
 I.Gb λp hp=>(cV.mp hp).elim (λz=>I.pin p (fG _ z)) λz=>by
  let⟨hb,e⟩:=YC z;let⟨f0,f1,f2,_⟩:=hf p.1 hb;let⟨o,e',d⟩:=ho p.1 hb;rw[e]at e';cases e';show⟨e,f0,f1,f2,d⟩
def bG.uW{Y pl:aE}{σ:St}{H:Hp}{s:Shared}(I:bG X (Y++pl) σ H s):bG X Y σ H s:=I.Gb λp hp=>I.pin p (fG _ (uy _ hp))
def gQ{iter:Expr}{wi:TI}{g:TG}(hp:PassesOwn (model X.prog X.w) X.A X.env X.xe)(hc:X.calm=true)(hi:PI X tg iter wi)(hg:PG X tg g)(hb:Qk X body tb)
  (hs:autoParam (∀x,foldedSetIterable iter X.env x=pure x) Q0_._auto_1):PS X (.For tg iter body [] pos) (a7z wi g tb):=by
 intro Y s σ H D I h;show wpAny_For (jC (hi Y s σ H _ I h) λv s1 h1=>jC h1 λitv s2 h2=>?_) hs;let⟨it,fp,tn,Z97,H2,e,I2,T,st2,f2,W,⟨m0,w0⟩,turn⟩:=h2;subst e;let stat:∀{H':Hp},(∀b∈fp,H' b=none)->∀b∈fp,CV X Y H' b:=λhn b hb=>⟨hn b hb,(f2 b hb).2⟩;show codeAny_forLoop_any (λn s'=>∃i σ' H',bG X Y σ' H' s'/\tn i s'.heap/\(∀b∈fp,H' b=none)/\W i n σ' H') ?_ m0 ⟨0,σ,H2,I2,st2,λb hb=>(f2 b hb).1,w0⟩;rintro n s3 ⟨i,σ3,H3,I3,st3,fr3,w3⟩;rcases turn i n σ3 H3 w3 with⟨stop,qn⟩|⟨go,N,hN,step⟩
 ·show yZ hp (jC (T.done X Z Z Z hc i Y s3 σ3 H3 X.xe I3 (stat fr3) st3 stop) λr s4 ⟨hr,I4⟩=>?_);subst hr;show Nm ⟨σ3,H3,I4,qn⟩
 ·show yZ hp (jC (T.item X Z Z Z hc i Y s3 σ3 H3 X.xe I3 (stat fr3) st3 go) λr s4 ⟨u,hr,h4⟩=>?_);subst hr;show yZ hp (jC h4 λ_ s5 ⟨x,H5,I5,r5,y5,st5,fr5⟩=>?_);let I5':=I5.pinned (stat fr5) (T.obj _ _ st5);show yZ hp (jC (hg _ s5 σ3 H5 x u _ I5' r5 (step x H5 y5)) λ_ s6 ⟨σ6,H6,I6,q6⟩=>yZ hp (jC (hb _ s6 σ6 H6 _ I6 q6) λf s7 q7=>?_));let again:∀{Xb:St}{H7:Hp},bG X (Y++su fp s5.heap) Xb H7 s7->N Xb H7->∃m,m<n/\∃i σ' H',bG X Y σ' H' s7/\tn i s7.heap/\(∀b∈fp,H' b=none)/\W i m σ' H':=λ{Xb H7} I7 n7=>by
   let⟨m',hm,w7⟩:=hN Xb H7 n7;show⟨m',hm,i+1,Xb,H7,I7.uW,T.keep _ _ _ st5 λb hb o e=>(I7.pin (b,o) (fG _ (fG _ (pC hb e)))).1,λb hb=>?_,w7⟩;let⟨o,e,d⟩:=T.obj _ _ st5 b hb;show(I7.pin (b,o) (fG _ (fG _ (pC hb e)))).2.1
  cases f with
  |next=>let⟨Xb,H7,I7,n7⟩:=q7;show again I7 n7
  |cont=>let⟨Xb,H7,I7,n7⟩:=q7;show again I7 n7
  |brk=>let⟨Xb,H7,I7,q7⟩:=q7;show⟨Xb,H7,I7.uW,q7⟩
  |ret v=>let⟨x7,Xb,H7,I7,r7,q7⟩:=q7;show⟨x7,Xb,H7,I7.uW,r7,q7⟩
end
def sy{a:Addr}{xs:af}{g:TG}{σ:St}{H:Hp}(Pv:Nat->St->Hp->Prop)(h0:Pv 0 σ H)(hl:∀i σ H,i<=xs.length->Pv i σ H->bD K H a xs)
  (hs:∀i x σ H,xs[i]?=some x->Pv i σ H->g x σ H λσ2 H2=>tb { D with nx:=Pv (i+1),ct:=Pv (i+1),bk:=D.nx} σ2 H2) (hd:∀σ H,Pv xs.length σ H->D.nx σ H) :
  ∃W:Nat->Nat->St->Hp->Prop,(∃m,W 0 m σ H)/\∀i m σ H,W i m σ H->
   ((Ê K a).stop i H/\D.nx σ H)\/((Ê K a).go i H/\∃N:St->Hp->Prop,(∀σ' H',N σ' H'->∃m',m'<m/\W (i+1) m' σ' H')/\∀x H',(Ê K a).W9 i H x H'->g x σ H' λσ2 H2=>tb { D with nx:=N,ct:=N,bk:=D.nx} σ2 H2):=by
 show⟨λi m σ H=>m=xs.length-i/\i<=xs.length/\Pv i σ H,⟨xs.length,by simp,dF _,h0⟩,?_⟩;rintro i m σ H ⟨rfl,hi,p⟩;let q:=hl i σ H hi p;by_cases hlt:i<xs.length
 ·show .inr ⟨⟨xs,xs[i],q,by simp[hlt]⟩,Pv (i+1),λσ' H' p'=>⟨xs.length-(i+1),(),Z,hlt,p'⟩,λx H' y=>?_⟩;let⟨e,y⟩:=y;subst e;show hs i x σ _ (y xs q) p
 ·let e:i=xs.length:=()
  subst e;show .inl ⟨⟨xs,q,aK _⟩,hd σ H p⟩
def Xc{a:Addr}{xs:af}{g:TG}{σ:St}{H:Hp}(Pv:Nat->St->Hp->Prop)(h0:Pv 0 σ H)(hl:∀i σ H,i<=xs.length->Pv i σ H->cJ K H a xs)
  (hs:∀i x σ H,xs[i]?=some x->Pv i σ H->g x σ H λσ2 H2=>tb { D with nx:=Pv (i+1),ct:=Pv (i+1),bk:=D.nx} σ2 H2) (hd:∀σ H,Pv xs.length σ H->D.nx σ H) :
  ∃W:Nat->Nat->St->Hp->Prop,(∃m,W 0 m σ H)/\∀i m σ H,W i m σ H->
   ((Itt K a).stop i H/\D.nx σ H)\/((Itt K a).go i H/\∃N:St->Hp->Prop,(∀σ' H',N σ' H'->∃m',m'<m/\W (i+1) m' σ' H')/\∀x H',(Itt K a).W9 i H x H'->g x σ H' λσ2 H2=>tb { D with nx:=N,ct:=N,bk:=D.nx} σ2 H2):=by
 show⟨λi m σ H=>m=xs.length-i/\i<=xs.length/\Pv i σ H,⟨xs.length,by simp,dF _,h0⟩,?_⟩;rintro i m σ H ⟨rfl,hi,p⟩;let q:=hl i σ H hi p;by_cases hlt:i<xs.length
 ·show .inr ⟨⟨xs,xs[i],q,by simp[hlt]⟩,Pv (i+1),λσ' H' p'=>⟨xs.length-(i+1),(),Z,hlt,p'⟩,λx H' y=>?_⟩;let⟨e,y⟩:=y;subst e;show hs i x σ _ (y xs q) p
 ·let e:i=xs.length:=()
  subst e;show .inl ⟨⟨xs,q,aK _⟩,hd σ H p⟩
def uX{lo:Int}{g:TG}{σ:St}{H:Hp}(Pv:Nat->St->Hp->Prop)(h0:Pv 0 σ H)
  (hs:∀i σ H,i<n->Pv i σ H->g (.int (lo+i)) σ H λσ2 H2=>tb { D with nx:=Pv (i+1),ct:=Pv (i+1),bk:=D.nx} σ2 H2) (hd:∀σ H,Pv n σ H->D.nx σ H) :
  ∃W:Nat->Nat->St->Hp->Prop,(∃m,W 0 m σ H)/\∀i m σ H,W i m σ H->
   ((SJ lo n).stop i H/\D.nx σ H)\/((SJ lo n).go i H/\∃N:St->Hp->Prop,(∀σ' H',N σ' H'->∃m',m'<m/\W (i+1) m' σ' H')/\∀x H',(SJ lo n).W9 i H x H'->g x σ H' λσ2 H2=>tb { D with nx:=N,ct:=N,bk:=D.nx} σ2 H2):=by
 show⟨λi m σ H=>m=n-i/\i<=n/\Pv i σ H,⟨n,by simp,dF _,h0⟩,?_⟩;rintro i m σ H ⟨rfl,hi,p⟩;by_cases hlt:i<n
 ·show .inr ⟨hlt,Pv (i+1),λσ' H' p'=>⟨n-(i+1),(),Z,hlt,p'⟩,λx H' y=>?_⟩;let⟨e,y⟩:=y;subst e y;show hs i σ _ hlt p
 ·let e:i=n:=()
  subst e;show .inl ⟨aK _,hd σ H p⟩
abbrev R2:=V->V->Hp->VK->Prop
def qY(X:Cx)(f:Value->Value->Sem Value)(r:R2):Prop :=
 ∀(Y:aE) (s:Shared) (σ:St) (H:Hp) (x y:V) (v u:Value) (Q:VK),bG X Y σ H s->cY x v->cY y u->r x y H Q->
  wpAny (model X.prog X.w) X.A (f v u) (EP X Y σ Q) X.xe s
def jy(X:Cx)(f:Value)(r:af->Hp->VK->Prop):Prop :=
 ∀(Y:aE) (s:Shared) (σ:St) (H:Hp) (xs:af) (us:aw) (Q:VK),bG X Y σ H s->cZ xs us->r xs H Q->
  wpAny (model X.prog X.w) X.A (call f us) (EP X Y σ Q) X.xe s
def a7A(X:Cx)(r:V->Hp->(Bool->Hp->Prop)->Prop):Prop :=
 ∀(Y:aE) (s:Shared) (σ:St) (H:Hp) (x:V) (v:Value) (Q:Bool->Hp->Prop),bG X Y σ H s->cY x v->r x H Q->
  wpAny (model X.prog X.w) X.A (truthy v) (TP X Y σ Q) X.xe s
noncomputable def tOp(r:R2)(ta tb:TE):TE:=λσ H Q=>ta σ H λx H1=>tb σ H1 λy H2=>r x y H2 Q
inductive rI(C:Int->Int->Prop)(g:Int->Int->V)(x:V)(y:V)(H:Hp)(Q:VK):Prop
 |mk (i j:_) (_:x=.int i) (_:y=.int j) (_:C i j) (_:Q (g i j) H)
inductive rI0(g:Int->Int->V)(x:V)(y:V)(H:Hp)(Q:VK):Prop
 |mk (i j:_) (_:x=.int i) (_:y=.int j) (_:Q (g i j) H)
section
variable{X:Cx}{a b:Expr}{tb tc:TE}
def a2U(ha:PE X a ta)(hb:PE X b tb){Y:aE}{s:Shared}{σ:St}{H:Hp}{R:V->V->Hp->Prop}(I:bG X Y σ H s)
  (h:ta σ H λx H1=>tb σ H1 λy H2=>R x y H2) {Q:∅}{f:Value->Value->Sem Value}
  (hf:∀v u s2 x y H2,bG X Y σ H2 s2->cY x v->cY y u->R x y H2->wpAny (model X.prog X.w) X.A (f v u) Q X.xe s2) :
  wpAny (model X.prog X.w) X.A (eval a X.env) (λv s₁=>wpAny (model X.prog X.w) X.A (eval b X.env) (λu s₂=>wpAny (model X.prog X.w) X.A (f v u) Q X.xe s₂) X.xe s₁) X.xe s:=by
 show jC (ha Y s σ H _ I h) λv s1 ⟨x,H1,I1,r1,q1⟩=>jC (hb Y s1 σ H1 _ I1 q1) λu s2 ⟨y,H2,I2,r2,q2⟩=>hf v u s2 x y H2 I2 r1 r2 q2
def bh{op:Operator}{r:R2}(ho:qY X (binaryOp op) r)(ha:PE X a ta)(hb:PE X b tb):PE X (.BinOp a op b pos) (tOp r ta tb):=by
 intro Y s σ H Q I h;show wpAny_BinOp (a2U ha hb I h λv u s2 x y H2 I2 rx ry q=>ho Y s2 σ H2 x y v u Q I2 rx ry q)
def opI{f:Value->Value->Sem Value}{C:Int->Int->Prop}{g:Int->Int->Int}
  (rule:∀(i j:Int) (t u:Tok) (s:Shared) (Q:∅) (E:∅),C i j->Q (.int (g i j) s.toks) { s with toks:=s.toks+1}->wpAny (model X.prog X.w) X.A (f (.int i t) (.int j u)) Q E s) :
  qY X f (rI C λi j=>.int (g i j)):=by
 intro Y s σ H x y v u Q I rx ry h;let⟨i,j,rfl,rfl,hc,q⟩:=h;let⟨t,rfl⟩:=rx;let⟨t',rfl⟩:=ry;show rule i j t t' s _ _ hc ⟨.int (g i j),H,I.tok _,⟨_,Z⟩,q⟩
def a5c{f:Value->Value->Sem Value}{g:Int->Int->Int}
  (rule:∀(i j:Int) (t u:Tok) (s:Shared) (Q:∅) (E:∅),Q (.int (g i j) s.toks) { s with toks:=s.toks+1}->wpAny (model X.prog X.w) X.A (f (.int i t) (.int j u)) Q E s) :
  qY X f (rI0 λi j=>.int (g i j)):=by
 intro Y s σ H x y v u Q I rx ry h;let⟨i,j,rfl,rfl,q⟩:=h;let⟨t,rfl⟩:=rx;let⟨t',rfl⟩:=ry;show rule i j t t' s _ _ ⟨.int (g i j),H,I.tok _,⟨_,Z⟩,q⟩
def a0f{f:Value->Value->Sem Value}{g:Int->Int->Bool}
  (rule:∀(i j:Int) (t u:Tok) (s:Shared) (Q:∅) (E:∅),Q (.bool (g i j)) s->wpAny (model X.prog X.w) X.A (f (.int i t) (.int j u)) Q E s) :
  qY X f (rI0 λi j=>.bl (g i j)):=by
 intro Y s σ H x y v u Q I rx ry h;let⟨i,j,rfl,rfl,q⟩:=h;let⟨t,rfl⟩:=rx;let⟨t',rfl⟩:=ry;show rule i j t t' s _ _ ⟨.bl (g i j),H,I,Z,q⟩
def a7B(i j:Int):Prop:=0<j/\j<1073741824
def a7C(i j:Int):Prop:=0<=j/\j<=1000000/\i.natAbs<2^64
def a2V(i j:Int):Prop:=(-(2^64)<i/\i<2^64)\/(-(2^64)<j/\j<2^64)
def a2V.ok{i j:Int}(h:a2V i j):IntMulOk i j:=by
 rcases h with⟨h1,h2⟩|⟨h1,h2⟩
 ·show .of_left (intBits_le_64 h1 h2)
 ·show .of_right (intBits_le_64 h1 h2)
def cX:qY X (binaryOp .Add) (rI0 λi j=>.int (i+j)):=a5c λ_ _ _ _ _ _ _ q=>add_int q
def Hw:qY X (binaryOp .Sub) (rI0 λi j=>.int (i-j)):=a5c λ_ _ _ _ _ _ _ q=>sub_int q
def vN:qY X (binaryOp .Mult) (rI a2V λi j=>.int (i*j)):=opI λ_ _ _ _ _ _ _ hc q=>mul_int q hc.ok
def a0g:qY X (binaryOp .FloorDiv) (rI a7B λi j=>.int (i/j)):=opI λi j _ _ _ _ _ hc q=>by
 let h1:(0:Int)<j:=hc.1;let h2:j<1073741824:=hc.2;show floordiv_int () (by rw[Int.fdiv_eq_ediv_of_nonneg i ()];show q) (.inl (PyProof.noPylong_small ()))
def jG:qY X (binaryOp .Mod) (rI (λ_ j=>0<j) λi j=>.int (i%j)):=opI λi j _ _ _ _ _ hc q=>by
 let h1:(0:Int)<j:=hc;show mod_int' () (by rw[Int.fmod_eq_emod_of_nonneg i ()];show q)
def a2W:qY X (binaryOp .Pow) (rI a7C λi j=>.int (i^j.toNat)):=opI λ_ _ _ _ _ _ _ hc q=>pow_int_small hc.1 hc.2.1 hc.2.2 q
end
noncomputable def a5d:V->V->Bool
 |.non,.non=>true |.non,.int _=>true |.int _,.non=>true |.non,.bl _=>true |.bl _,.non=>true |.non,.str _=>true |.str _,.non=>true
 |.int _,.int _=>true |.bl _,.bl _=>true |.str _,.str _=>true |.W5 _,.W5 _=>true
 |.int _,.str _=>true |.str _,.int _=>true |.bl _,.str _=>true |.str _,.bl _=>true
 |_,_=>false
def rEq:R2:=λx y H Q=>a5d x y=true/\Q (.bl (decide (x=y))) H
def rNe:R2:=λx y H Q=>a5d x y=true/\Q (.bl (!decide (x=y))) H
def xZ{i j:Int}:decide (V.int i=V.int j)=(i==j):=by
 rw[rR];simp
def î{i j:Bool}:decide (V.bl i=V.bl j)=(i==j):=by
 rw[rR];simp
def Xd{i j:Str}:decide (V.str i=V.str j)=(i==j):=by
 rw[rR];simp
def Xe{i j:Array UInt8}:decide (V.W5 i=V.W5 j)=(i.toList==j.toList):=by
 rw[rR];cases i;cases j;simp
section
variable{X:Cx}{a b:Expr}{tb tc:TE}
def eZ{Y:aE}{σ:St}{H:Hp}{s:Shared}{Q:VK}{k k':Bool}(I:bG X Y σ H s)(q:Q (.bl k) H)(e:k=k'):EP X Y σ Q (.bool k') s:=by
 subst e;show⟨.bl k,H,I,Z,q⟩
def jV:qY X (compareOp .Eq) rEq:=by
 intro Y s σ H x y v u Q I rx ry h;let⟨hs,q⟩:=h;cases x with
 |non =>
  cases rx;cases y with
  |non=>cases ry;show PySem.EqNone.eq_none_none (eZ I q (by simp))
  |bl j=>cases ry;show PySem.EqNone.eq_none_bool (eZ I q (by simp))
  |int j=>let⟨t',rfl⟩:=ry;show PySem.EqNone.eq_none_int (eZ I q (by simp))
  |str j=>let⟨t',rfl⟩:=ry;show PySem.EqNone.eq_none_str (eZ I q (by simp))
  |_=>show absurd (show false=true from hs) cN
 |bl i =>
  cases rx;cases y with
  |non=>cases ry;show PySem.EqNone.eq_bool_none (eZ I q (by simp))
  |bl j=>cases ry;show eq_bool (eZ I q î)
  |str j=>let⟨t',rfl⟩:=ry;show PySem.EqMixed.eq_bool_str (eZ I q (by simp))
  |_=>show absurd (show false=true from hs) cN
 |int i =>
  let⟨t,rfl⟩:=rx;cases y with
  |non=>cases ry;show PySem.EqNone.eq_int_none (eZ I q (by simp))
  |int j=>let⟨t',rfl⟩:=ry;show eq_int (eZ I q xZ)
  |str j=>let⟨t',rfl⟩:=ry;show PySem.EqMixed.eq_int_str (eZ I q (by simp))
  |_=>show absurd (show false=true from hs) cN
 |str i =>
  let⟨t,rfl⟩:=rx;cases y with
  |non=>cases ry;show PySem.EqNone.eq_str_none (eZ I q (by simp))
  |bl j=>cases ry;show PySem.EqMixed.eq_str_bool (eZ I q (by simp))
  |int j=>let⟨t',rfl⟩:=ry;show PySem.EqMixed.eq_str_int (eZ I q (by simp))
  |str j=>let⟨t',rfl⟩:=ry;show eq_str (eZ I q Xd)
  |_=>show absurd (show false=true from hs) cN
 |W5 i =>
  let⟨t,rfl⟩:=rx;cases y with
  |W5 j=>let⟨t',rfl⟩:=ry;show PySem.W.eq_bytes (eZ I q Xe)
  |_=>show absurd (show false=true from hs) cN
 |_=>cases y<;>show absurd (show false=true from hs) cN
def Hx:qY X (compareOp .NotEq) rNe:=by
 intro Y s σ H x y v u Q I rx ry h;let⟨hs,q⟩:=h;cases x with
 |non =>
  cases rx;cases y with
  |non=>cases ry;show PySem.EqNone.ne_none_none (eZ I q (by simp))
  |bl j=>cases ry;show PySem.EqNone.ne_none_bool (eZ I q (by simp))
  |int j=>let⟨t',rfl⟩:=ry;show PySem.EqNone.ne_none_int (eZ I q (by simp))
  |str j=>let⟨t',rfl⟩:=ry;show PySem.EqNone.ne_none_str (eZ I q (by simp))
  |_=>show absurd (show false=true from hs) cN
 |bl i =>
  cases rx;cases y with
  |non=>cases ry;show PySem.EqNone.ne_bool_none (eZ I q (by simp))
  |bl j=>cases ry;show ne_bool (eZ I q (congrArg not î))
  |str j=>let⟨t',rfl⟩:=ry;show PySem.EqMixed.ne_bool_str (eZ I q (by simp))
  |_=>show absurd (show false=true from hs) cN
 |int i =>
  let⟨t,rfl⟩:=rx;cases y with
  |non=>cases ry;show PySem.EqNone.ne_int_none (eZ I q (by simp))
  |int j=>let⟨t',rfl⟩:=ry;show ne_int (eZ I q (congrArg not xZ))
  |str j=>let⟨t',rfl⟩:=ry;show PySem.EqMixed.ne_int_str (eZ I q (by simp))
  |_=>show absurd (show false=true from hs) cN
 |str i =>
  let⟨t,rfl⟩:=rx;cases y with
  |non=>cases ry;show PySem.EqNone.ne_str_none (eZ I q (by simp))
  |bl j=>cases ry;show PySem.EqMixed.ne_str_bool (eZ I q (by simp))
  |int j=>let⟨t',rfl⟩:=ry;show PySem.EqMixed.ne_str_int (eZ I q (by simp))
  |str j=>let⟨t',rfl⟩:=ry;show ne_str (eZ I q (congrArg not Xd))
  |_=>show absurd (show false=true from hs) cN
 |W5 i =>
  let⟨t,rfl⟩:=rx;cases y with
  |W5 j=>let⟨t',rfl⟩:=ry;show PySem.W.ne_bytes (eZ I q (congrArg not Xe))
  |_=>show absurd (show false=true from hs) cN
 |_=>cases y<;>show absurd (show false=true from hs) cN
def Ae:qY X (compareOp .Lt) (rI0 λi j=>.bl (decide (i<j))):=a0f λ_ _ _ _ _ _ _ q=>lt_int q
def a5e:qY X (compareOp .LtE) (rI0 λi j=>.bl (decide (i<=j))):=a0f λ_ _ _ _ _ _ _ q=>le_int q
def uY:qY X (compareOp .Gt) (rI0 λi j=>.bl (decide (j<i))):=a0f λ_ _ _ _ _ _ _ q=>gt_int q
def a5f:qY X (compareOp .GtE) (rI0 λi j=>.bl (decide (j<=i))):=a0f λ_ _ _ _ _ _ _ q=>ge_int q
def ï : qY X (compareOp .Is) (fun x y H Q => y = .non ∧ Q (.bl (decide (x = .non))) H) := by
  intro Y s σ H x y v u Q I rx ry h;let⟨rfl, q⟩ := h;cases ry;show is_none_gen (eZ I q ?_);cases x <;> first
    | (cases rx; rfl)
    | (let⟨t, rfl⟩ := rx; rfl)
def Xf : qY X (compareOp .IsNot) (fun x y H Q => y = .non ∧ Q (.bl (!decide (x = .non))) H) := by
  intro Y s σ H x y v u Q I rx ry h;let⟨rfl, q⟩ := h;cases ry;show isnot_none_gen (eZ I q ?_);cases x <;> first
    | (cases rx; rfl)
    | (let⟨t, rfl⟩ := rx; rfl)
def ð(b:Expr)(h:@&(op≠.In))(h2:@&(op≠.NotIn)):behindInMarks op b=false:=by
 let e1:(op==CmpOp.In)=false:=by cases op<;>first|rfl|exact absurd Z h
 let e2:(op==CmpOp.NotIn)=false:=by cases op<;>first|rfl|exact absurd Z h2
 cases b with|Set=>(show (_&&(_||_)&&_)=false;rw[e1,e2,Bool.or_self,Bool.and_false,Bool.false_and])|_=>rfl
def yc{r:R2}(ho:qY X (compareOp op) r)(ha:PE X a ta)(hb:PE X b tb)(hm:behindInMarks op b=false:=by show ð _):PE X (.Compare a [op] [b] pos) (tOp r ta tb):=by
 intro Y s σ H Q I h;show wpAny_Compare1 (a2U ha hb I h λv u s2 x y H2 I2 rx ry q=>ho Y s2 σ H2 x y v u Q I2 rx ry q) hm
noncomputable def a5g(t:TE):TT:=λσ H Q=>t σ H λx H'=>EA (λk=>x=.bl k) λk=>Q k H'
def aN{r:R2}(ho:qY X (compareOp op) r)(ha:PE X a ta)(hb:PE X b tb)(hm:behindInMarks op b=false:=by show ð _):PT X (.Compare a [op] [b] pos) (a5g (tOp r ta tb)):=by
 intro Y s σ H Q I h;show wpAny_isTrue_Compare1 (jC (ha Y s σ H _ I h) λv s1 ⟨x,H1,I1,r1,q1⟩=>jC (hb Y s1 σ H1 _ I1 q1) λu s2 ⟨y,H2,I2,r2,q2⟩ =>
  jC (ho Y s2 σ H2 x y v u _ I2 r1 r2 q2) λc s3 ⟨z,H3,I3,r3,k,e,q3⟩=>?_) hm
 subst e;cases r3;show Cz ⟨H3,I3,q3⟩
noncomputable def a2X(r r':R2)(ta tb tc:TE):TE:=λσ H Q=>ta σ H λx H1=>tb σ H1 λy H2=>r x y H2 λz H3=>∃k,z=.bl k/\
 (if k=true then tc σ H3 λw' H4=>r' y w' H4 Q else Q (.bl false) H3)
def ò{op':CmpOp}{r r':R2}(ho:qY X (compareOp op) r)(ho':qY X (compareOp op') r')(ha:PE X a ta)(hb:PE X b tb)(hc:PE X c tc)
  (hm:lastMarks [op,op'] [b,c]=false:=by with_unfolding_all rfl):PE X (.Compare a [op,op'] [b,c] pos) (a2X r r' ta tb tc):=by
 intro Y s σ H Q I h;show Compare_chain (jC (ha Y s σ H _ I h) λv s1 ⟨x,H1,I1,r1,q1⟩=>chain_link (jC (hb Y s1 σ H1 _ I1 q1) λu s2 ⟨y,H2,I2,r2,q2⟩ =>
  jC (ho Y s2 σ H2 x y v u _ I2 r1 r2 q2) λd s3 ⟨z,H3,I3,r3,k,e,q3⟩=>?_)) hm
 subst e;cases r3;show Cz ?_;cases k with
 |false=>show ite_ff ⟨.bl false,H3,I3,Z,q3⟩
 |true=>show ite_tt (chain_last (jC (hc Y s3 σ H3 _ I3 q3) λw' s4 ⟨z',H4,I4,r4,q4⟩=>ho' Y s4 σ H4 y z' u w' Q I4 r2 r4 q4))
def ó(K:aJ)(x:V)(H:Hp)(k:Bool):Prop :=
 match x with
 |.non=>k=false
 |.bl b=>k=b
 |.int i=>k=(i != 0)
 |.str y=>y.length<=sizeLine/\k=((y.length:Int) != 0)
 |.W5 y=>y.size<=sizeLine/\k=((y.size:Int) != 0)
 |.ref p=>(∃xs,bD K H p xs/\k = !xs.isEmpty)\/(∃xs,cJ K H p xs/\k = !xs.isEmpty)\/∃J,H p=some (.dK J)/\k = !J.isEmpty
 |_=>False
def Ve{κ:Type}{J:List (κ×V)}{vs:List (κ×Value)}(r:KV J vs):(!vs.isEmpty) = !J.isEmpty:=by
 cases r<;>rfl
def Hy{xs:af}{bY:aw}(r:cZ xs bY):(!bY.toArray.isEmpty) = !xs.isEmpty:=by
 cases r<;>simp
def Oc:(sizeLine:Nat)<2^63:=by rw[gO];decide
def Od:a7A X (λx H Q=>∃k,ó X.K x H k/\Q k H):=by
 intro Y s σ H x v Q I rx h;let⟨k,e,q⟩:=h;let hl:=Oc;let hs:sizeLine=16777216:=gO;cases x with
 |non =>
  cases rx;let e':k=false:=e;subst e';show truthy_none ⟨H,I,q⟩
 |bl b =>
  cases rx;let e':k=b:=e;subst e';show Cz ⟨H,I,q⟩
 |int i =>
  let⟨t,rfl⟩:=rx;let e':k=(i != 0):=e;subst e';show PySem.P.truthy_int ⟨H,I,q⟩
 |str y =>
  let⟨t,rfl⟩:=rx;obtain⟨hy,e'⟩:y.length<=sizeLine/\k=((y.length:Int) != 0):=e;subst e';show PySem.P.truthy_str () ⟨H,I.tok _,q⟩
 |W5 y =>
  let⟨t,rfl⟩:=rx;obtain⟨hy,e'⟩:y.size<=sizeLine/\k=((y.size:Int) != 0):=e;subst e';show PySem.W.truthy_bytes () ⟨H,I.tok _,q⟩
 |ref p =>
  cases rx;let e':(∃xs,bD X.K H p xs/\k = !xs.isEmpty)\/(∃xs,cJ X.K H p xs/\k = !xs.isEmpty)\/∃J,H p=some (.dK J)/\k = !J.isEmpty:=e;rcases e' with⟨xs,hx,e'⟩|⟨xs,hx,e'⟩|⟨J,hx,e'⟩
  ·subst e';let⟨bY,r,pl,hz⟩:=I.list hx;let hlen:=r.length;show wpAny_truthy_list pl.isList (by simp only[List.size_toArray];omega) ⟨H,I.tok _,by rw[Hy r];show q⟩
  ·subst e';let⟨bY,r,pl,hz⟩:=I.tuple hx;let hlen:=r.length;show truthy_tuple pl (by simp only[List.size_toArray];omega) ⟨H,I.tok _,by rw[Hy r];show q⟩
  ·subst e';obtain⟨hz,hS,vs,r,m⟩:J.length<=sizeLine/\(p==sysModules)=false/\∃vs,KV J vs/\s.heap.DictOf (fK X.prog X.w) p vs:=I.hok p _ hx;let hlen:J.length=vs.length:=aW r;show wpAny_truthy_dict hS m () ⟨H,I.tok _,by rw[Ve r];show q⟩
 |_=>show(show False from e).elim
def ô(ha:PE X a ta)(he:∀whole,isTrue a X.env whole=(do let v <-whole;standAt a.pos;holding [v] (truthy v))) :
  PT X a (λσ H Q=>ta σ H λx H'=>∃k,ó X.K x H' k/\Q k H'):=by
 intro Y s σ H Q I h;show isTrue_plain (jC (ha Y s σ H _ I h) λv s1 ⟨x,H1,I1,r1,q1⟩=>Od Y s1 σ H1 x v Q I1 r1 q1) (he _)
def vals1{x:V}{us:aw}(r:cZ [x] us):∃u,us=[u]/\cY x u:=by
 cases r with
 |cons r1 r2=>cases r2;show⟨_,Z,r1⟩
def vals2{x y:V}{us:aw}(r:cZ [x,y] us):∃u w',us=[u,w']/\cY x u/\cY y w':=by
 cases r with
 |cons r1 r2 =>
  cases r2 with
  |cons r3 r4=>cases r4;show⟨_,_,Z,r1,r3⟩
def YD(hc:X.calm=true):jy X (.builtin "max") (λxs H Q=>∃i j,xs=[.int i,.int j]/\Q (.int (if j>i then j else i)) H):=by
 intro Y s σ H xs us Q I r h;let⟨i,j,rfl,q⟩:=h;let⟨u,w',rfl,⟨t,rfl⟩,⟨t',rfl⟩⟩:=vals2 r;show max_two_ints (I.ok.hd hc) λh' tk k=>⟨_,H,I.kept k,?_,q⟩;by_cases hj:j>i
 ·rw[aB hj,aB hj];show⟨_,Z⟩
 ·rw[aA hj,aA hj];show⟨_,Z⟩
def Ku(hc:X.calm=true):jy X (.builtin "min") (λxs H Q=>∃i j,xs=[.int i,.int j]/\Q (.int (if j<i then j else i)) H):=by
 intro Y s σ H xs us Q I r h;let⟨i,j,rfl,q⟩:=h;let⟨u,w',rfl,⟨t,rfl⟩,⟨t',rfl⟩⟩:=vals2 r;show min_two_ints (I.ok.hd hc) λh' tk k=>⟨_,H,I.kept k,?_,q⟩;by_cases hj:j<i
 ·rw[aB hj,aB hj];show⟨_,Z⟩
 ·rw[aA hj,aA hj];show⟨_,Z⟩
end
structure Vf(h:Heap)(x dx C:Addr)(mA:Str->Option Value):Prop where
 obj:h.get? x=some (instObj C dx)
 ns:h.Ns1 dx mA
 ne:dx≠x
set_option tactic.hygienic true in
def YF{dx:Addr}(n:h.Ns1 dx mA):∃od,h.get? dx=some od/\∀name,lookIn name od=some (mA name):=by
 let⟨o,es,ep,ho,hd,hk,_,hm⟩:=n;show⟨o,ho,λname=>?_⟩;let e:=hm name;unfold nsFind findBy at e;rw[<-Array.find?_toList]at e;unfold lookIn;rw[hd];lk;split
 ·rename_i y q;rw[q]at e;show congrArg some e
 ·rename_i q;rw[q]at e;let a:es.toList.any (·.refKey)=false:=by
   rw[List.any_eq_false];intro y hy;let⟨z,t,hkey⟩:=hk y (Array.mem_toList_iff.mp hy);simp[DictEntry.refKey,hkey]
  let a':¬es.toList.any (·.refKey)=true:=by rw[a];show cN
  rw[aA a'];show congrArg some e
def Vf.look{x dx C:Addr}(I:Vf h x dx C mA):∃od,PySem.W.InstAt h x (instObj C dx) C (some od)/\∀name,lookIn name od=some (mA name) :=
 let⟨od,ho,hl⟩:=YF I.ns
 ⟨od,⟨I.obj,Z,Z,ho⟩,hl⟩
section
variable{prog:Program}{w:World}{E:∅}{s:Shared}{x dx C f:Addr}{name:Str}{v:Value}
def get_map{expr:Bool}{Q:∅}(X:K.In s.heap)(I:Vf s.heap x dx C mA)(hg:PySem.W.plainGet K C name=true)(hh:PySem.W.hasDictIn K C=true)
  (ha:findIn K (.ref C) name=some none) (hv:mA name=some v) (hv':PySem.W.handedIn v=true) (h:Q v { s with toks:=s.toks+1}) :
  ∎ (getAttr (.ref x) name expr) Q E s:=by
 let⟨od,Z97,hl⟩:=I.look;show PySem.W.get_value X Z97 (Uc hg).1 (PySem.W.findObj_own hh ha Z (by rw[hl,hv])) hv' h
def õ{Q:Value×aw->Shared->Prop}(X:K.In s.heap)(I:Vf s.heap x dx C mA)(hg:PySem.W.plainGet K C name=true)
  (hf:findIn K (.ref C) name=some ⇑f) (ht:isFn K (.ref f)=true) (hv:mA name=none) (h:Q (.ref f,[.ref x]) s) :
  ∎ (getMethod (.ref x) name pl) Q E s:=by
 let⟨od,Z97,hl⟩:=I.look;show PySem.W.method_fn X Z97 (Uc hg).1 (Uc hg).2 hf (Hu.mp ht) (by show(lookIn name od).map (·.isSome)=some false;rw[hl,hv];rfl) h
def a0h{ns:ag}{Q:Unit->Shared->Prop}(X:K.In s.heap)(I:Vf s.heap x dx C mA)
  (hs:findIn K (.ref C) "__setattr__" = some (some (.builtin "object.__setattr__"))) (hp:PySem.W.plainOver K C=true) (ht:PySem.W.takerIn K C name=some none) (hh:PySem.W.hasDictIn K C=true)
  (hw:PySem.Within mA ns) (hsz:ns.length<=sizeLine)
  (h:∀h',Vf h' x dx C (λy=>if y=name then some v else mA y)->Heap.SameBut dx s.heap h'->Q ⟨⟩ { s with heap:=h',toks:=s.toks+2}) :
  ∎ (setAttr (.ref x) name v) Q E s:=by
 let⟨od,Z97,hl⟩:=I.look;show PySem.W.set_plain X Z97 hs (PySem.W.osa_open (s:={ s with toks:=s.toks+1}) (r:=none) X Z97 hp ht λb=>?_);let⟨cd,hc,hd'⟩:=PySem.W.any_some hh;let hx:s^^^x=some ⟨.ref C,some dx,.plain,#[]⟩:=I.obj;show M (ao (M (M (wpAny_loadPart hx (M (PySem.W.Looks.here (s:={ s with toks:=s.toks+1}) (PySem.W.looks_clsIn X hc) ?_))))));rw[hd'];show ao (a:=some dx) (M (ao (M (wpAny_nsSet1 (s:={ s with toks:=s.toks+1}) I.ns λh' hn2 hs2=>?_))));let⟨oD,esD,epD,hoD,hdD,hcD⟩:=hn2.count (PySem.Within.cons name v hw);show M (wpAny_lookBehind hoD (by rw[hdD];show pastItsLine_dict (cG hcD (by rw[lV];omega))) ?_);show ao (h _ ⟨(hs2.2 _ (Ne.symm I.ne)).trans I.obj,hn2,I.ne⟩ hs2)
def ö{R:Result->Shared->Prop}{vs:aw}(X:K.In s.heap)(hm:PySem.W.makesIn K C=true)
  (hi:findIn K (.ref C) "__init__" = some ⇑f) (hf:PySem.W.typeIn K (.ref f)=some (.type "function"))
  (h:codeAny (model prog w) (A.under (.builtin "type.__call__" ⟨.ref C::vs,kw⟩)) (.call (.ref f) ⟨.ref (s⁻¹+1)::vs,kw⟩) (PySem.W.InitBack (s⁻¹+1) R)
   (s•(s.heap.push emptyDict).push (instObj C s⁻¹))) :
  codeAny (model prog w) A (.call (.ref C) ⟨vs,kw⟩) R s:=by
 let⟨hh,g,d,t,os⟩:=s;show PySem.W.make_core (PySem.W.makes_of X hm) (PySem.W.looks_findIn X hi) (λself=>PySem.W.bind_fn X self hf) (.inl Z) h
end
noncomputable def vP(f:Str)(v:V):be->be
 | []=>[(f,v)]
 |(g,x)::r=>if g=f then(g,v)::r else(g,x)::vP f v r
theorem Ej(f g:Str)(v:V):∀fs:be,(vP f v fs).lookup g=if g=f then some v else fs.lookup g
 | []=>by
  show List.lookup g [(f,v)]=_
  by_cases h:g=f
  ·let hb:(g==f)=true:=Hu.mpr h
   simp only[List.lookup,hb,if_pos h]
  ·let hb:(g==f)=false:=qI.mpr h
   simp only[List.lookup,hb,if_neg h]
 |(k,x)::r=>by
  let ih:=Ej f g v r
  rw[show vP f v ((k,x)::r)=(if k=f then(k,v)::r else(k,x)::vP f v r)from rfl]
  by_cases hk:k=f
  ·rw[aB hk]
   by_cases h:g=k
   ·let hb:(g==k)=true:=Hu.mpr h
    simp only[List.lookup,hb,if_pos (h.trans hk)]
   ·let hb:(g==k)=false:=qI.mpr h
    simp only[List.lookup,hb,if_neg (λe:g=f=>h (e.trans hk.symm))]
  ·rw[aA hk]
   by_cases h:g=k
   ·let hb:(g==k)=true:=Hu.mpr h
    simp only[List.lookup,hb,if_neg (λe:g=f=>hk (h.symm.trans e))]
   ·let hb:(g==k)=false:=qI.mpr h
    simp only[List.lookup,hb]
    show ih
theorem CZ(f:Str)(v:V):∀fs:be,f∈(vP f v fs).map (·.1)/\∀g,g∈fs.map (·.1)->g∈(vP f v fs).map (·.1)
 | []=>⟨by simp[vP],λg h=>by simp at h⟩
 |(k,x)::r=>by
  let⟨i1,i2⟩:=CZ f v r
  rw[show vP f v ((k,x)::r)=(if k=f then(k,v)::r else(k,x)::vP f v r)from rfl]
  by_cases hk:k=f
  ·rw[aB hk]
   subst hk
   show⟨by simp,λg h=>by simpa using h⟩
  ·rw[aA hk]
   show⟨?_,λg h=>?_⟩
   ·rw[cC]
    show bJ _ i1
   ·rw[cC]at h ⊢
    rcases bO.mp h with e|e
    ·show bO.mpr (.inl e)
    ·show bJ _ (i2 g e)
theorem Ek(f:Str)(v:V):∀fs:be,(vP f v fs).length<=fs.length+1
 | []=>by simp[vP]
 |(k,x)::r=>by
  let ih:=Ek f v r
  rw[show vP f v ((k,x)::r)=(if k=f then(k,v)::r else(k,x)::vP f v r)from rfl]
  by_cases hk:k=f
  ·rw[aB hk,lV,lV];omega
  ·rw[aA hk,lV,lV];omega
def oY.some_of{v:V}{o:Option Value}(r:oY (some v) o):∃u,o=some u/\cY v u:=by
 cases o with
 |none=>show(show False from r).elim
 |some u=>show⟨u,Z,r⟩
def oY.none_of{o:Option Value}(r:oY none o):o=none:=by
 cases o with
 |none=>rfl
 |some u=>show(show False from r).elim
def YG{v:V}{u:Value}(r:cY v u):PySem.W.handedIn u=true:=by
 cases v with
 |non=>cases(show u=Value.none from r);rfl
 |bl b=>cases(show u=Value.bool b from r);rfl
 |int i=>let⟨t,e⟩:=(show ∃t,u=Value.int i t from r);cases e;rfl
 |str x=>let⟨t,e⟩:=(show ∃t,u=Value.str x t from r);cases e;rfl
 |W5 b=>let⟨t,e⟩:=(show ∃t,u=Value.bytes b t from r);cases e;rfl
 |flt b=>let⟨t,e⟩:=(show ∃t,u=Value.float b t from r);cases e;rfl
 |ref a=>cases(show u=Value.ref a from r);rfl
 |ty n=>cases(show u=Value.type n from r);rfl
section
variable{P:Program}{w:World}{H H':Hp}{a C dx:Addr}{fs fs':be}
def Gd(hok:xY P w H h)(e:H a=some (.ins C dx fs)):∃mA,Vf h a dx C mA/\(∀f,oY (fs.lookup f) (mA f))/\PySem.Within mA (fs.map (·.1))/\fs.length<=1000/\H dx=some (.own a):=by
 let⟨d,z,ne,ob,mA,n,r,q⟩:=(show fD P w H h a (.ins C dx fs)from hok a _ e);show⟨mA,⟨ob,n,ne⟩,r,q,z,d⟩
end
structure Cls(K:aJ)(C:Addr):Prop where
 pg:PySem.W.plainGet K C Str.empty=true
 hd:PySem.W.hasDictIn K C=true
 po:PySem.W.plainOver K C=true
 sa:findIn K (.ref C) "__setattr__" = some (some (.builtin "object.__setattr__"))
def Cls.get{C:Addr}(c:Cls K C)(f:Str):PySem.W.plainGet K C f=true:=c.pg
def jz(K:aJ)(C:Addr)(f:Str):Prop:=findIn K (.ref C) f=some none
def jz.taker{C:Addr}{f:Str}(n:jz K C f):PySem.W.takerIn K C f=some none:=by
 unfold PySem.W.takerIn;rw[show findIn K (.ref C) f=some none from n];rfl
structure Meth(K:aJ)(C:Addr)(m:Str)(f:Addr):Prop where
 at_:findIn K (.ref C) m=some ⇑f
 fn:isFn K (.ref f)=true
 kp:keepIn K (.ref f)=true
section
variable{X:Cx}{Y:aE}{σ:St}{H:Hp}{s:Shared}{a C dx:Addr}{fs:be}{f:Str}{v:V}{E:∅}
def Vg{b:Bool}{Q:∅}(I:bG X Y σ H s)(e:H a=some (.ins C dx fs))(c:Cls X.K C)(n:jz X.K C f)(l:fs.lookup f=some v)
  (h:∀u s',bG X Y σ H s'->cY v u->Q u s'):wpAny (model X.prog X.w) A (getAttr (.ref a) f b) Q E s:=by
 let⟨mA,Z96,r,_,_,_⟩:=Gd I.hok e;let⟨u,hu,ru⟩:=oY.some_of (v:=v) (o:=mA f) (by rw[<-l];show r f);show get_map I.Ci Z96 (c.get f) c.hd n hu (YG ru) (h u _ (I.tok _) ru)
def Vh{m:Str}{g:Addr}{Q:Value×aw->Shared->Prop}(I:bG X Y σ H s)(e:H a=some (.ins C dx fs))(c:Cls X.K C)(k:Meth X.K C m g)(l:fs.lookup m=none)
  (h:Q (.ref g,[.ref a]) s):wpAny (model X.prog X.w) A (getMethod (.ref a) m pl) Q E s:=by
 let⟨mA,Z96,r,_,_,_⟩:=Gd I.hok e;let hn:mA m=none:=oY.none_of (by rw[<-l];show r m);show õ I.Ci Z96 (c.get m) k.at_ k.fn hn h
def Vi{y:V}{u:Value}{Q:Unit->Shared->Prop}(I:bG X Y σ H s)(e:H a=some (.ins C dx fs))(c:Cls X.K C)(n:jz X.K C f)(hl:fs.length<1000)(ry:cY y u)
  (h:∀s',bG X Y σ (cU H a (.ins C dx (vP f y fs))) s'->Q ⟨⟩ s'):wpAny (model X.prog X.w) A (setAttr (.ref a) f u) Q E s:=by
 let⟨mA,Z96,r,wi,_,ho⟩:=Gd I.hok e;let hz:(fs.map (·.1)).length<=sizeLine:=by rw[aH,gO];omega
 show a0h I.Ci Z96 c.sa c.po n.taker c.hd wi hz λh' O' sb=>h _ ?_;let hd:∃o,h'.get? dx=some o:=let⟨o,_,_,e',_⟩:=O'.ns;⟨o,e'⟩
 show I.write (x:=a) (e:=dx) (by rw[e];show mQ) (.inr ho) (λb q hb z=>(sb.2 b hb).trans z) hd ?_;show⟨by rw[aR Z96.ne];show ho,?_,Z96.ne,O'.obj,_,O'.ns,λg=>?_,λg hg=>?_⟩
 ·let:=Ek f y fs;omega
 ·show oY ((vP f y fs).lookup g) (if g=f then some u else mA g);rw[Ej];by_cases q:g=f
  ·rw[aB q,aB q];show ry
  ·rw[aA q,aA q];show r g
 ·by_cases q:g=f
  ·rw[q];show(CZ f y fs).1
  ·show(CZ f y fs).2 g (wi g λz=>hg ?_);show(if g=f then some u else mA g)=none;rw[aA q];show z
def bG.made(I:bG X Y σ H s):bG X Y σ (cU (cU H s⁻¹ (.own (s⁻¹+1))) (s⁻¹+1) (.ins C s⁻¹ []))
  (s•(s.heap.push emptyDict).push (instObj C s⁻¹)):=by
 let e1:(s.heap.push emptyDict).get? s⁻¹=some emptyDict:=cB s.heap rfl;let e2:((s.heap.push emptyDict).push (instObj C s⁻¹)).get? (s⁻¹+1)=some (instObj C s⁻¹):=by
  let:=cB (s.heap.push emptyDict) (o:=instObj C s⁻¹) rfl
  rwa [oW]at this
 let e3:(s.heap.push emptyDict).Ns s⁻¹ (λ_=>none):=⟨emptyDict,#[],_,e1,Z,(λe he=>absurd he (by simp)),λ_=>rfl⟩;let I1:=I.laid (a:=s⁻¹) (o:=.own (s⁻¹+1)) (h':=s.heap.push emptyDict) (t':=s.toks) (λb u q=>bM _ q) (aK _) ⟨_,e1⟩;show I1.laid (a:=s⁻¹+1) (o:=.ins C s⁻¹ []) (t':=s.toks) (λb u q=>bM _ q) (NT (oW _ _)) ?_;let ne:s⁻¹≠s⁻¹+1:=bV (wU _);show⟨by rw[aR ne,dG],dF _,ne,e2,λ_=>none,(Heap.Ns1.of_empty e3).at λo q=>bM _ q,λ_=>mQ,λy hy=>absurd Z hy⟩
def a0i{prog:Program}{w:World}{env:Env}{f:Str}{s:Shared}{Q:∅}(hb:attributeBase e f env (eval e env)=eval e env)
  (h:∎ (eval e env) (λo s₁=>∎ (getAttr o f true) Q E s₁) E s):∎ (eval (.Attribute e f pos) env) Q E s :=
 Attribute_any_ h (by rw[arm_eval_Attribute,hb])
end
inductive a5h(K:aJ)(f:Str)(x:V)(H1:Hp)(Q:VK):Prop
 |mk (a C dx fs v:_) (_:x=.ref a) (_:H1 a=some (.ins C dx fs)) (_:Cls K C) (_:jz K C f) (_:fs.lookup f=some v) (_:Q v H1)
noncomputable def a5i(K:aJ)(ta:TE)(f:Str):TE:=λσ H Q=>ta σ H λx H1=>a5h K f x H1 Q
inductive a5j(K:aJ)(f:Str)(y x:V)(σ:St)(H2:Hp)(Q:St->Hp->Prop):Prop
 |mk (a C dx fs:_) (_:x=.ref a) (_:H2 a=some (.ins C dx fs)) (_:Cls K C) (_:jz K C f) (_:fs.length<1000) (_:Q σ (cU H2 a (.ins C dx (vP f y fs))))
noncomputable def a7D(K:aJ)(ta tv:TE)(f:Str):TS:=λD σ H=>tv σ H λy H1=>ta σ H1 λx H2=>a5j K f y x σ H2 D.nx
section
variable{X:Cx}{o value:Expr}{f:Str}{pos' tpos:Pos}{tv:TE}
def a2Y(he:PE X e ta)(hb:attributeBase e f X.env (eval e X.env)=eval e X.env):PE X (.Attribute e f pos) (a5i X.K ta f):=by
 intro Y s σ H Q I h;show a0i hb (jC (he Y s σ H _ I h) λu s1 ⟨x,H1,I1,rx,a,C,dx,fs,v,ex,ea,c,n,l,q⟩=>?_);subst ex;obtain rfl:u=Value.ref a:=rx;show Vg I1 ea c n l λu' s2 I2 ru=>⟨v,H1,I2,ru,q⟩
def Hz(ha:PE X o ta)(hv:PE X value tv)(hs:swapsWith value (some (.Attribute o f pos')) pos.line X.env=pure false):PS X (.Assign [.Attribute o f pos'] value pos) (a7D X.K ta tv f):=by
 intro Y s σ H D I h;show plainObj_wpAny_Assign_Attribute (jC (hv Y s σ H _ I h) λu s1 ⟨y,H1,I1,ry,q⟩=>jC (ha Y s1 σ H1 _ I1 q) λov s2 ⟨x,H2,I2,rx,a,C,dx,fs,ex,ea,c,n,l,q2⟩=>?_) hs;subst ex;obtain rfl:ov=Value.ref a:=rx;show Vi I2 ea c n l ry λs3 I3=>⟨σ,_,I3,q2⟩
end
section
variable{X:Cx}{Y:aE}{σ:St}{H:Hp}{s:Shared}{E:∅}{Q:∅}{c:Value}{b:Bool}
inductive sE(K:aJ)(H:Hp):V->Value->Prop where
 |non:sE K H .non (.type "NoneType")
 |bl (x:Bool):sE K H (.bl x) (.type "bool")
 |int (i:Int):sE K H (.int i) (.type "int")
 |str (x:Str):sE K H (.str x) (.type "str")
 |flt (x:UInt64):sE K H (.flt x) (.type "float")
 |lst {a:Addr}{xs:af} (e:H a=↥xs):sE K H (.ref a) (.type "list")
 |gP {a:Addr}{o:Obj}{xs:af} (e:H a=some (.gP o (.lst xs))):sE K H (.ref a) (.type "list")
 |tup {a:Addr}{xs:af} (e:H a= ~~~xs):sE K H (.ref a) (.type "tuple")
 |dK {a:Addr}{J:List (Key×V)} (e:H a=some (.dK J)):sE K H (.ref a) (.type "dict")
 |dT {a:Addr}{J:List (aS×V)} (e:H a=some (.dT J)):sE K H (.ref a) (.type "dict")
 |ins {a C dx:Addr}{fs:be} (e:H a=some (.ins C dx fs)) (cl:Cls K C) (ha:findIn K (.ref C) "__class__" = some (some (.builtin "object.__class__")))
   (hn:PySem.W.specialIn K (.builtin "object.__class__") "__get__" = some (some (.builtin "getset_descriptor.__get__"))) (htk:PySem.W.takesIn K (.builtin "object.__class__")=some true)
   (hm:PySem.W.mroIn K C (.type "object")=some true):sE K H (.ref a) (.ref C)
def YH{x:V}{u t:Value}(I:bG X Y σ H s)(rx:cY x u)(ty:sE X.K H x t)(e:kitOne X.K t c=some b)(h:∀tk,Q (.bool b) { s with toks:=tk}) :
  wpAny (model X.prog X.w) A (call (.builtin "isinstance") [u,c]) Q E s:=by
 cases ty with
 |non=>cases(show u=Value.none from rx);show rT PySem.W.kitx_none I.Ci mQ e (λz=>nomatch z) h
 |bl y=>cases(show u=Value.bool y from rx);show rT PySem.W.kitx_bool I.Ci mQ e (λz=>nomatch z) h
 |int i=>let⟨t,q⟩:=(show ∃t,u=Value.int i t from rx);cases q;show rT PySem.W.kitx_int I.Ci mQ e (λz=>nomatch z) h
 |str y=>let⟨t,q⟩:=(show ∃t,u=Value.str y t from rx);cases q;show rT PySem.W.kitx_str I.Ci mQ e (λz=>nomatch z) h
 |flt y=>let⟨t,q⟩:=(show ∃t,u=Value.float y t from rx);cases q;show rT PySem.W.kitx_float I.Ci mQ e (λz=>nomatch z) h
 | @lst a xs ea =>
  cases(show u=Value.ref a from rx);let⟨_,_,n,_,h1⟩:=(show fD X.prog X.w H s.heap a (.lst xs)from I.hok a _ ea);show rT PySem.W.kitx_list I.Ci ⟨_,h1,Z⟩ e (λz=>nomatch z) h
 | @gP a ob xs ea =>
  cases(show u=Value.ref a from rx);let⟨_,_,_,n,_,h1⟩:=(show fD X.prog X.w H s.heap a (.gP ob (.lst xs))from I.hok a _ ea);show rT PySem.W.kitx_list I.Ci ⟨_,h1,Z⟩ e (λz=>nomatch z) h
 | @tup a xs ea =>
  cases(show u=Value.ref a from rx);let⟨_,_,_,p⟩:=(show fD X.prog X.w H s.heap a (.tup xs)from I.hok a _ ea);let⟨o,h1,h2,_⟩:=p;show rT PySem.W.kitx_tuple I.Ci ⟨o,h1,h2⟩ e (λz=>nomatch z) h
 | @dK a J ea =>
  cases(show u=Value.ref a from rx);let⟨_,_,vs,_,p⟩:=(show fD X.prog X.w H s.heap a (.dK J)from I.hok a _ ea);let⟨o,es,ep,h1,h2,_⟩:=p;show rT PySem.W.kitx_dict I.Ci ⟨o,h1,h2.1⟩ e (λz=>nomatch z) h
 | @dT a J ea =>
  cases(show u=Value.ref a from rx);let⟨_,_,xs,_,o,es,ep,h1,h2,_⟩:=(show fD X.prog X.w H s.heap a (.dT J)from I.hok a _ ea);show rT PySem.W.kitx_dict I.Ci ⟨o,h1,h2.1⟩ e (λz=>nomatch z) h
 | @ins a C dx fs ea cl ha hn htk hm =>
  cases(show u=Value.ref a from rx);let⟨mA,Z96,_⟩:=Gd I.hok ea;let⟨od,Z97,_⟩:=Z96.look;show rT (PySem.W.kitx_own (cl.get _) cl.hd ha hn htk hm) I.Ci Z97 e (λz=>nomatch z) h
end
structure qZ(k:Nat)(A:Around):Prop where
 hd:A.handled=none
 dp:A.depth+3*k+5<recursionLimit
 un:A.units+16*k+200<cLine
def qZ.mono{j k:Nat}(r:qZ k A)(h:j<=k):qZ j A:=⟨r.hd,by let:=r.dp;omega,by let:=r.un;omega⟩
def qZ.deeper{k:Nat}{A:Around}(r:qZ (k+1) A)(env:Env):qZ k (A.deeper env) :=
 ⟨r.hd,by let:=r.dp;show A.depth+1+3*k+5<_;omega,by let:=r.un;show A.units+3+16*k+200<_;omega⟩
def Vj{C:Addr}{us:aw}:(A.under (.builtin "type.__call__" ⟨.ref C::us,kw⟩)).depth=A.depth+1:=by
 first|rfl|simp[Around.under,Code.weight,Code.isCreation,Code.isGuard,Code.isCaller,Code.frames,Code.isFrame,guardIds]
def Vk{C:Addr}{us:aw}:(A.under (.builtin "type.__call__" ⟨.ref C::us,kw⟩)).units=A.units+1:=by
 first|rfl|simp[Around.under,Code.cUnits,Code.frames,Code.isFrame]
def qZ.make{k:Nat}(r:qZ (k+1) A)(C:Addr)(us:aw)(kw:List (Str×Value)):qZ k (A.under (.builtin "type.__call__" ⟨.ref C::us,kw⟩)) :=
 ⟨r.hd,by let:=r.dp;rw[Vj];omega,by let:=r.un;rw[Vk];omega⟩
def qZ.depth{k:Nat}{A:Around}(r:qZ k A):A.depth<recursionLimit:=by let:=r.dp;omega
noncomputable def a5k:TA:=λ_ H Q=>Q [] H
noncomputable def Xg(ta:TE)(tr:TA):TA:=λσ H Q=>ta σ H λx H1=>tr σ H1 λxs H2=>Q (x::xs) H2
section
variable{X:Cx}{t:TA}
def aj:PA X [] a5k:=λ_ _ _ _ H Q I h=>Calls.spliced_nil ⟨[],H,I,.nil,h⟩
def O(ha:PE X e te)(hr:PA X es t)(hs:@&(starEach (e::es) X.env=(false,eval e X.env)::starEach es X.env)):PA X (e::es) (Xg te t):=by
 intro pos Y s σ H Q I h;rw[hs];show wpAny _ _ (spliced ((false,eval e X.env)::backTo pos (starEach es X.env))) _ _ s;show Calls.spliced_cons (jC (ha Y s σ H _ I h) λu s1 ⟨x,H1,I1,r1,q1⟩=>jC (hr pos Y s1 σ H1 _ I1 q1) λus s2 ⟨xs,H2,I2,r2,q2⟩=>⟨x::xs,H2,I2,.cons r1 r2,q2⟩)
end
abbrev Sp:=af->Hp->VK->XK->Prop
abbrev SM:=List Env->Hp->Shared->XK->∅
structure Vl(P:Program)(w:World)(K:aJ)(mg:Str->Option Value)(base:Heap)(A:Around)(outer:List Env)(s:Shared)(H:Hp):Prop where
 frames:A.frames=some outer
 mod:Mod K mg base
 bs:∀b o,base.get? b=some o->s^^^b=some o/\H b=none
 χ:base.objs.size<=s⁻¹
 Aa:s.heap.FunFrames base outer
 frf:∀b∈frs outer,H b=none
 hok:xY P w H s.heap
 bare:AllBare s.gens
inductive CE(outer:List Env)(P:Program)(w:World)(H:Hp)(s:Shared)(Q:VK)(u:Value)(s':Shared):Prop
 |mk (v H':_) (_:s'.os=s.os) (_:AllBare s'.gens) (_:Un (frs outer) [] H H' s.heap s'.heap) (_:xY P w H' s'.heap) (_:cY v u) (_:Q v H')
def CR(CX:SM)(outer:List Env)(P:Program)(w:World)(H:Hp)(s:Shared)(Q:VK)(E:XK)(r:Result)(s':Shared):Prop :=
 match r with
 |.ok (.ret u)=>CE outer P w H s Q u s'
 |.ok _=>False
 |.error e=>CX outer H s E e s'
structure bF(P:Program)(w:World)(K:aJ)(mg:Str->Option Value)(base:Heap)(CX:SM)(k:Nat)(f:Addr)(fd:FuncData)(ps:ag)(sp:Sp):Prop where
 len:∀vs H Q E,sp vs H Q E->vs.length=ps.length
 run:∀(A:Around) (outer:List Env) (s:Shared) (H:Hp) (args:Args) (us:aw) (vs:af) (Q:VK) (E:XK),qZ k A->Vl P w K mg base A outer s H->BindsTo s fd args (ps.zip us)->cZ vs us->sp vs H Q E->
  codeAny (model P w) A (.call (.ref f) args) (CR CX outer P w H s Q E) s
def bF.mono{P:Program}{w:World}{K:aJ}{mg:Str->Option Value}{base:Heap}{CX:SM}{j k:Nat}{f:Addr}{fd:FuncData}{ps:ag}{sp:Sp}(F:bF P w K mg base CX j f fd ps sp)(h:j<=k) :
  bF P w K mg base CX k f fd ps sp:=⟨F.len,λA outer s H args us vs Q E hr=>F.run A outer s H args us vs Q E (hr.mono h)⟩
def Vl.make{P:Program}{w:World}{outer:List Env}{s:Shared}{H:Hp}(e:Vl P w K mg base A outer s H)(C:Addr)(us:aw)(kw:List (Str×Value)) :
  Vl P w K mg base (A.under (.builtin "type.__call__" ⟨.ref C::us,kw⟩)) outer s H:=⟨by first|exact e.frames|(simpa [Around.under,Code.envs,Code.isFrame,pushEnvs]using e.frames),e.mod,e.bs,e.χ,e.Aa,e.frf,e.hok,e.bare⟩
section
variable{X:Cx}{Y:aE}{σ:St}{H:Hp}{s s':Shared}
def bG.env0(I:bG X Y σ H s):Vl X.prog X.w X.K X.mg X.base X.A X.stack s H :=
 ⟨I.ok.frames,I.ok.mod,I.bs,cG I.ok.χ I.sz,I.stack,I.W6,I.hok,I.bare⟩
def bG.after{Q:VK}{u:Value}(I:bG X Y σ H s)(h:CE X.stack X.prog X.w H s Q u s'):EP X Y σ Q u s':=by
 let⟨v,H',os,bare,un,hok,r,q⟩:=h;let⟨hh,g,d,t,os'⟩:=s';obtain rfl:os'=s.os:=os;show⟨v,H',I.call (h':=hh) (g':=g) (d':=d) (t':=t) (ch:=[]) un hok bare (λb z=>absurd z (by simp)),r,q⟩
end
noncomputable def a2f(sp:Sp)(JT:af)(E:XK)(t:TA):TE:=λσ H Q=>t σ H λvs H1=>sp (vs++JT) H1 Q E
inductive a2Z(C:Addr)(m:Str)(x:V)(H1:Hp)(Q:Prop):Prop
 |mk (a dx fs:_) (_:x=.ref a) (_:H1 a=some (.ins C dx fs)) (_:fs.lookup m=none) (_:Q)
noncomputable def a5l(C:Addr)(m:Str)(sp:Sp)(JT:af)(E:XK)(ta:TE)(t:TA):TE:=λσ H Q=>ta σ H λx H1=>a2Z C m x H1 (t σ H1 λvs H2=>sp (x::(vs++JT)) H2 Q E)
def a5m(C:Addr)(sp:Sp)(JT:af)(E:XK)(t:TA):TE:=λσ H Q=>t σ H λvs H1=>∀x dx,H1 x=none->H1 dx=none->dx≠x->
 sp (.ref x::(vs++JT)) (cU (cU H1 dx (.own x)) x (.ins C dx [])) (λv H2=>v=.non/\Q (.ref x) H2) E
def Binds(K:aJ)(fd:FuncData)(ps:ag)(ds:aw):Prop :=
 ∀(s:Shared) (us:aw),K.In s.heap->(us++ds).length=ps.length->BindsTo s fd ⟨us,[]⟩ (ps.zip (us++ds))
def Binds.all{fd:FuncData}{ps:ag}(h:∀us:aw,us.length=ps.length->bindArgs fd ⟨us,[]⟩=pure (ps.zip us)):Binds K fd ps []:=λs us _ hl=>by
 rw[jE]at hl ⊢;show .of_eq (h us hl)
def zq(CX:SM)(X:Cx)(E:XK):Prop:=∀(Y:aE) (σ:St) (H:Hp) (s:Shared) (e:Value) (s':Shared),bG X Y σ H s->CX X.stack H s E e s'->X.xe e s'
section
variable{X:Cx}{CX:SM}{k:Nat}{f C:Addr}{fd:FuncData}{ps:ag}{sp:Sp}{JT:af}{ds:aw}{E:XK}{x m:Str}{apos:Pos}{o:Expr}{t:TA}
def Vm{Y:aE}{σ:St}{H:Hp}{s:Shared}{Q:VK}{us:aw}{vs:af}(F:bF X.prog X.w X.K X.mg X.base CX k f fd ps sp)(hr:qZ k X.A)(hb:Binds X.K fd ps ds)(hd:cZ JT ds)(hx:zq CX X E)
  (I:bG X Y σ H s) (r:cZ vs us) (h:sp (vs++JT) H Q E):wpAny (model X.prog X.w) X.A (call (.ref f) us) (EP X Y σ Q) X.xe s:=by
 let r2:cZ (vs++JT) (us++ds):=r.append hd;let hl:(us++ds).length=ps.length:=by rw[<-r2.length];show F.len _ _ _ _ h
 show wpAny_call (CP (F.run X.A X.stack s H ⟨us,[]⟩ (us++ds) (vs++JT) Q E hr I.env0 (hb s us I.Ci hl) r2 h) λr s' hq=>?_);cases r with
 |error e=>show hx Y σ H s e s' I hq
 |ok fl =>
  cases fl with
  |ret u=>show I.after hq
  |next=>show False.elim hq
  |brk=>show False.elim hq
  |cont=>show False.elim hq
def bx(F:bF X.prog X.w X.K X.mg X.base CX k f fd ps sp)(hr:qZ k X.A)(hg:Gl X x)(hm:X.mg x=⇑f)(hk:keepIn X.K (.ref f)=true)(hb:Binds X.K fd ps ds)(hd:cZ JT ds)(hx:zq CX X E)
  (ha:PA X (e::es) t) (hdb:@&((x==("__debug__" : Str))=false)) (he:@&(starEach (e::es) X.env=(false,eval e X.env)::starEach es X.env)) (hpl:@&((backTo pos (starEach es X.env)).any (·.1)=false)) :
  PE X (.Call (.Name x p) (e::es) [] pos) (a2f sp JT E t):=by
 intro Y s σ H Q I h;show vD (Ab I hg hm (MK (h₀:=X.base) I.ok.mod.kin hk (jC (ha pos Y s σ H _ I h) λus s1 ⟨vs,H1,I1,r,q⟩=>⟨I1.Ci,Vm F hr hb hd hx I1 r q⟩) he hpl) hdb)
def vQ(he:PE X o ta)(c:Cls X.K C)(hm:Meth X.K C m f)(F:bF X.prog X.w X.K X.mg X.base CX k f fd ps sp)(hr:qZ k X.A)(hb:Binds X.K fd ps ds)(hd:cZ JT ds)(hx:zq CX X E)(ha:PA X (e::es) t)
  (hst:@&(starEach (e::es) X.env=(false,eval e X.env)::starEach es X.env)) (hpl:@&((backTo pos (starEach es X.env)).any (·.1)=false))
  (ht:@&(eval (.Call (.Attribute o m apos) (e::es) [] pos) X.env=(do
   let ov <-eval o X.env
   standAt apos.atName
   let(f,first) <-holding [ov] (getMethod ov m pl)
   callWith pos f first (backTo pos (starEach (e::es) X.env)) (backToKw pos (keywordEach [] X.env))))) :
  PE X (.Call (.Attribute o m apos) (e::es) [] pos) (a5l C m sp JT E ta t):=by
 intro Y s σ H Q I h;show PySem.W.methodCall_KW (pl:=pl) (jC (he Y s σ H _ I h) λu s1 ⟨x,H1,I1,rx,a,dx,fs,ex,ea,l,q⟩=>?_) ht;subst ex;obtain rfl:u=Value.ref a:=rx;show Vh I1 ea c hm l (MK (first:=[.ref a]) (h₀:=X.base) I.ok.mod.kin hm.kp (jC (ha pos Y s1 σ H1 _ I1 q) λus s2 ⟨vs,H2,I2,r,q2⟩=>⟨I2.Ci,Vm (us:=.ref a::us) (vs:=.ref a::vs) F hr hb hd hx I2 (.cons Z r) q2⟩) hst hpl)
structure Mk(K:aJ)(C f:Addr):Prop where
 makes:PySem.W.makesIn K C=true
 init:findIn K (.ref C) "__init__" = some ⇑f
 fn:isFn K (.ref f)=true
 kp:keepIn K (.ref C)=true
def ø{Y:aE}{σ:St}{H:Hp}{s:Shared}{Q:VK}{us:aw}{vs:af}(Z98:Mk X.K C f)(F:bF X.prog X.w X.K X.mg X.base CX k f fd ps sp)(hr:qZ (k+1) X.A)(hb:Binds X.K fd ps ds)(hd:cZ JT ds)
  (hx:zq CX X E) (I:bG X Y σ H s) (r:cZ vs us)
  (h:∀x dx,H x=none->H dx=none->dx≠x->sp (.ref x::(vs++JT)) (cU (cU H dx (.own x)) x (.ins C dx [])) (λv H2=>v=.non/\Q (.ref x) H2) E) :
  wpAny (model X.prog X.w) X.A (call (.ref C) us) (EP X Y σ Q) X.xe s:=by
 let hq:=h (s⁻¹+1) s⁻¹ (I.hok.fresh (vL _)) (I.hok.fresh (aK _)) (bV (wU _));let I2:=bG.made (C:=C) I;let r2:cZ (V.ref (s⁻¹+1)::(vs++JT)) (Value.ref (s⁻¹+1)::(us++ds)):=.cons Z (r.append hd);let hl:(Value.ref (s⁻¹+1)::us++ds).length=ps.length:=by
  let e:=r2.length;rw[F.len _ _ _ _ hq]at e;show e.symm
 show wpAny_call (ö (f:=f) I.Ci Z98.makes Z98.init (Hu.mp Z98.fn) (CP (F.run _ X.stack _ _ ⟨Value.ref (s⁻¹+1)::us,[]⟩ (Value.ref (s⁻¹+1)::(us++ds)) _ _ E (hr.make C us [])
  (I2.env0.make C us []) (hb _ (Value.ref (s⁻¹+1)::us) I2.Ci hl) r2 hq) λr s' hq'=>?_))
 cases r with
 |error e=>show hx Y σ _ _ e s' I2 hq'
 |ok fl =>
  cases fl with
  |ret u =>
   let⟨v,H',I3,rv,ev,q3⟩:=I2.after hq';subst ev;show⟨rv,⟨V.ref (s⁻¹+1),H',I3,Z,q3⟩⟩
  |next=>show False.elim hq'
  |brk=>show False.elim hq'
  |cont=>show False.elim hq'
def a0j(Z98:Mk X.K C f)(F:bF X.prog X.w X.K X.mg X.base CX k f fd ps sp)(hr:qZ (k+1) X.A)(hg:Gl X x)(hm:X.mg x=⇑C)(hb:Binds X.K fd ps ds)(hd:cZ JT ds)(hx:zq CX X E)
  (ha:PA X (e::es) t) (hdb:@&((x==("__debug__" : Str))=false)) (he:@&(starEach (e::es) X.env=(false,eval e X.env)::starEach es X.env)) (hpl:@&((backTo pos (starEach es X.env)).any (·.1)=false)) :
  PE X (.Call (.Name x p) (e::es) [] pos) (a5m C sp JT E t):=by
 intro Y s σ H Q I h;show vD (Ab I hg hm (MK (h₀:=X.base) I.ok.mod.kin Z98.kp (jC (ha pos Y s σ H _ I h) λus s1 ⟨vs,H1,I1,r,q⟩=>⟨I1.Ci,ø Z98 F hr hb hd hx I1 r q⟩) he hpl) hdb)
end
structure bN(N P:ag)(sc:Scope):Prop where
 kind:sc.kind=.function:=by rfl
 co:sc.isCoroutine=false:=by rfl
 gen:sc.isGenerator=false:=by rfl
 nd:N.Nodup:=by decide
 pre:N.take P.length=P:=by rfl
 par:∀x∈P,sc.names.lookup x=some .local\/sc.names.lookup x=some .cell:=by decide
 a3a:∀y∈sc.names,y.2≠.free:=by decide
theorem Kv{kindOf:Str->Option NameKind}{x:Str}:∀{binds:List (Str×Value)}{m:Str->Option Value},(∀v,(x,v)∉binds)->bindL kindOf binds m x=m x
 | [],_,_=>rfl
 |(n,v)::r,m,h=>by
  unfold bindL
  rw[Kv λw hw=>h w (bJ _ hw)]
  split
  ·let:x≠n:=by rintro rfl;show h v aZ
   simp[this]
  ·rfl
theorem Kw{kindOf:Str->Option NameKind}{x:Str}:∀{binds:List (Str×Value)}{m:Str->Option Value},(∀v,(x,v)∉binds)->bindC kindOf binds m x=m x
 | [],_,_=>rfl
 |(n,v)::r,m,h=>by
  unfold bindC
  rw[Kw λw hw=>h w (bJ _ hw)]
  split
  ·rfl
  ·let:x≠n:=by rintro rfl;show h v aZ
   simp[this]
theorem Ky{kindOf:Str->Option NameKind}{x:Str}{v:Value}:∀{P:ag}{vs:aw}{i:Nat}{m:Str->Option Value},P.Nodup->P[i]?=some x->vs[i]?=some v->kindOf x=some .local->
  bindL kindOf (P.zip vs) m x=some v
 | [],_,_,_,_,h,_,_=>by simp at h
 |_::_,[],_,_,_,_,h,_=>by simp at h
 |p::P,w::vs,0,m,nd,h1,h2,hk=>by
  simp at h1 h2;subst h1;subst h2
  show bindL kindOf ((p,w)::P.zip vs) m p=_
  unfold bindL
  rw[Kv λv hv=>(je.mp nd).1 (Ux hv).1,aB hk]
  simp
 |p::P,w::vs,i+1,m,nd,h1,h2,hk=>by
  show bindL kindOf ((p,w)::P.zip vs) m x=_
  unfold bindL
  show Ky (i:=i) (je.mp nd).2 (by simpa using h1) (by simpa using h2) hk
theorem Kz{kindOf:Str->Option NameKind}{x:Str}{v:Value}:∀{P:ag}{vs:aw}{i:Nat}{m:Str->Option Value},P.Nodup->P[i]?=some x->vs[i]?=some v->kindOf x≠some .local->
  bindC kindOf (P.zip vs) m x=some v
 | [],_,_,_,_,h,_,_=>by simp at h
 |_::_,[],_,_,_,_,h,_=>by simp at h
 |p::P,w::vs,0,m,nd,h1,h2,hk=>by
  simp at h1 h2;subst h1;subst h2
  show bindC kindOf ((p,w)::P.zip vs) m p=_
  unfold bindC
  rw[Kw λv hv=>(je.mp nd).1 (Ux hv).1,aA hk]
  simp
 |p::P,w::vs,i+1,m,nd,h1,h2,hk=>by
  show bindC kindOf ((p,w)::P.zip vs) m x=_
  unfold bindC
  show Kz (i:=i) (je.mp nd).2 (by simpa using h1) (by simpa using h2) hk
noncomputable def start(N:ag)(vs:af):St:=vs.map some++List.replicate (N.length-vs.length) none
noncomputable def Vn(CX:SM)(P:Program)(w:World)(K:aJ)(mg:Str->Option Value)(base:Heap)(N:ag)(qual:Str)(scope:Scope)(f:Addr)(cd:Value)(A:Around)(outer:List Env)(s:Shared)(H:Hp)(E:XK):Cx where
 prog:=P
 w:=w
 K:=K
 mg:=mg
 base:=base
 A:=A.deeper (envOfC qual scope s⁻¹ f cd)
 N:=N
 s₀:=s
 H₀:=H
 env:=envOfC qual scope s⁻¹ f cd
 outer:=outer
 stack:=envOfC qual scope s⁻¹ f cd::outer
 ex:=[]
 calm:=true
 fn:=λ_=>true
 pn:=[]
 xe:=λe s'=>wpAny (model P w) (A.deeper (envOfC qual scope s⁻¹ f cd)) (leaving (envOfC qual scope s⁻¹ f cd) e) (λ_ s''=>CX outer H s E e s'') (λe' s''=>CX outer H s E e' s'') s'
def Qm{sc:Scope}{x:Str}(h:sc.names.lookup x=some .cell):∃c,(cellsFrom n sc.names []).lookup x=some c:=by
 let q:=PySem.W.cellsFrom_some sc.names n [] (.inl h);show à.mp q
def YJ{CX:SM}{P:Program}{w:World}{ps:ag}{qual:Str}{scope:Scope}{f:Addr}{cd:Value}{outer:List Env}{s s1:Shared}{H:Hp}{E:XK}{us:aw}{vs:af}
  (S:bN N ps scope) (hd:A.handled=none) (e0:Vl P w K mg base A outer s H) (hl:vs.length=ps.length) (r:cZ vs us)
  (x:InCallC s s⁻¹ (bindL (envOfC qual scope s⁻¹ f cd).kindOf (ps.zip us) λ_=>none) (cellsFrom (s⁻¹+1) scope.names []) (bindC (envOfC qual scope s⁻¹ f cd).kindOf (ps.zip us) λ_=>none) s1) :
  bG (Vn CX P w K mg base N qual scope f cd A outer s H E) [] (start N vs) H s1:=by
 let hpl:ps.length<=N.length:=by let:=congrArg List.length S.pre;rw[dY]at this;omega
 let⟨h1,tk,rfl,hk⟩:=x.done;let noA:∀b:Addr,b∉(Vn CX P w K mg base N qual scope f cd A outer s H E).ex:=λb z=>absurd (show b∈([]:aI)from z) (by simp);show⟨⟨e0.mod,S.kind,Z,Z,aK _,λy z c h1 h2=>?_,λy hy=>?_,λy c _ h=>?_,λ_=>hd,Around.frames_deeper e0.frames,.inr ⟨Z,Z⟩,λb z=>absurd z (noA b),e0.bs,e0.χ,λb _ _=>noA b,λb z=>absurd z (noA b),e0.Aa,e0.frf⟩,
  rfl,e0.bare,Un.kept hk,⟨_,x.toInCall.ns,λi y v h1 h2 h3=>?_⟩,λy c h=>⟨_,x.cell y c h⟩,e0.hok.fresh (aK _),λy c h=>?_,λp hp=>absurd (show p∈([]:aE)from hp) (by simp),e0.hok.kept hk,?_⟩
 ·show name_of_addr x.apart (Cw h1) (Cw h2)
 ·let hy:scope.names.lookup y=some .cell\/scope.names.lookup y=some .free:=hy;rcases hy with hy|hy
  ·show Qm hy
  ·show absurd Z (S.a3a _ (Cw hy))
 ·show eY (x.above y c (Cw h))
 ·let hi:i<vs.length:=by
   unfold start at h2;by_cases hi:i<vs.length
   ·show hi
   ·rw[wM (by simpa using hi)]at h2;rw[List.getElem?_replicate]at h2;split at h2<;>cases h2
  let ha:vs[i]?=some v:=by
   unfold start at h2;rw[yP (by simpa using hi),cH]at h2;cases e:vs[i]? with
   |none=>rw[e]at h2;cases h2
   |some a=>rw[e]at h2;cases h2;rfl
  let⟨u,hu,rv⟩:=r.get ha;let hp:ps[i]?=some y:=by
   rw[<-S.pre,List.getElem?_take_of_lt ()];show h1
  let ndP:ps.Nodup:=by rw[<-S.pre];show S.nd.sublist (MP _ _)
  show⟨u,rv,?_⟩;rcases S.par y (gF hp)with k|k
  ·show .inl ⟨k,Ky ndP hp hu k⟩
  ·let⟨c,e⟩:=Qm (n:=s⁻¹+1) k;show .inr ⟨.inl k,c,e,?_⟩;let q:=x.cell y c e;rw[Kz ndP hp hu (by show scope.names.lookup y≠_;rw[k];decide)]at q;show q
 ·show e0.hok.fresh (eY (x.above y c (Cw h)))
 ·unfold start;show _=N.length;rw[cu,aH,List.length_replicate];omega
def a2g{CX:SM}{P:Program}{w:World}{k:Nat}{f:Addr}{name qual:Str}{params:Arguments}{scope:Scope}{dV kV doc pm d7 ct oc:Value}{an od:Option Addr}
  {osl:Array (Option Value)}{ps:ag}{sp:Sp} (lk:K.lookup f=some ⟨oc,od,.func (fnOf name qual params body scope dV kV doc pm an d7 ct),osl⟩) (hcd:codeIn K d7 qual=true) (S:bN N ps scope)
  (len:∀vs H Q E,sp vs H Q E->vs.length=ps.length)
  (hbody:∀(A:Around) (outer:List Env) (s:Shared) (H:Hp) (vs:af) (Q:VK) (E:XK),qZ k (A.deeper (envOfC qual scope s⁻¹ f d7))->sp vs H Q E->
   ∃t,Qk (Vn CX P w K mg base N qual scope f d7 A outer s H E) body t/\t { nx:=λ_ H'=>Q .non H',rt:=Q} (start N vs) H) :
  bF P w K mg base CX (k+1) f (fnOf name qual params body scope dV kV doc pm an d7 ct) ps sp:=by
 show⟨len,λA outer s H args us vs Q E hr e0 hb r hsp=>?_⟩;let hl:=len _ _ _ _ hsp;let KX:K.In s.heap:=e0.mod.kin.keeps λb o e=>(e0.bs b o e).1;let lim:s.heap.NoLimit:=e0.mod.nolimit.keeps λb o e=>(e0.bs b o e).1;let hkind:∀y∈ps.zip us,scope.names.lookup y.1=some .local\/(scope.names.lookup y.1=some .cell/\((cellsFrom (s⁻¹+1) scope.names []).lookup y.1).isSome=true):=λ⟨n,v⟩ hy=>by
  rcases S.par n (Ux hy).1 with q|q
  ·show .inl q
  ·show .inr ⟨q,PySem.W.cellsFrom_some _ _ _ (.inl q)⟩
 show codeAny_call_function hr.depth (KX _ _ lk) Z S.co S.gen Z (PySem.W.codeRec_of KX hcd) (hb _ _ _ _ (wpAny_newFunctionEnv_cells S.kind hkind λenv he s1 x=>?_));subst he;show⟨lim.keeps x.toInCall.keep,codeAny_func ?_⟩;let⟨t,ht,hq⟩:=hbody A outer s H vs Q E (hr.deeper _) hsp;let I:bG (Vn CX P w K mg base N qual scope f d7 A outer s H E) [] (start N vs) H s1:=YJ S hr.hd e0 hl r x;show iB (ht [] s1 (start N vs) H _ I hq) (λfl s' hs=>?_) λe s' hs=>hs;let fin:∀{σ':St}{H':Hp}{v:V}{u:Value},bG (Vn CX P w K mg base N qual scope f d7 A outer s H E) [] σ' H' s'->cY v u->Q v H'->CE outer P w H s Q u s' :=
  λ{σ' H' v u} Z97 rv q=>⟨v,H',Z97.os,Z97.bare,Z97.base,Z97.hok,rv,q⟩
 cases fl with
 |ret u =>
  let⟨v,σ',H',Z97,rv,q⟩:=hs;show fin Z97 rv q
 |next =>
  let⟨σ',H',Z97,q⟩:=hs;show fin (v:=V.non) (u:=Value.none) Z97 Z q
 |brk =>
  let⟨_,_,_,q⟩:=hs;show False.elim q
 |cont =>
  let⟨_,_,_,q⟩:=hs;show False.elim q
section
variable{X:Cx}{x:Str}{t:TA}{id T:String}{r:af->Hp->VK->Prop}
noncomputable def tCB(r:af->Hp->VK->Prop)(t:TA):TE:=λσ H Q=>t σ H λvs H1=>r vs H1 Q
def aU(hc:jy X (.builtin id) r)(hg:Gl X x)(hm:X.mg x=none)(hv:bootBuiltins x=some (.builtin id))(ha:PA X (e::es) t)(hn:@&(x≠ "__name__"))(hdb:@&((x==("__debug__" : Str))=false))
  (he:@&(starEach (e::es) X.env=(false,eval e X.env)::starEach es X.env)) (hpl:@&((backTo pos (starEach es X.env)).any (·.1)=false)):PE X (.Call (.Name x p) (e::es) [] pos) (tCB r t):=by
 intro Y s σ H Q I h;show vD (uG I hg hm hv (PyProof.Rows.callWith_builtin1 (jC (ha pos Y s σ H _ I h) λus s1 ⟨vs,H1,I1,r1,q1⟩=>hc Y s1 σ H1 vs us Q I1 r1 q1) he hpl) hn hdb)
def jL(hc:jy X (.type T) r)(hg:Gl X x)(hm:X.mg x=none)(hv:bootBuiltins x=some (.type T))(ha:PA X (e::es) t)(hn:@&(x≠ "__name__"))(hdb:@&((x==("__debug__" : Str))=false))
  (he:@&(starEach (e::es) X.env=(false,eval e X.env)::starEach es X.env)) (hpl:@&((backTo pos (starEach es X.env)).any (·.1)=false)):PE X (.Call (.Name x p) (e::es) [] pos) (tCB r t):=by
 intro Y s σ H Q I h;show vD (uG I hg hm hv (wL (jC (ha pos Y s σ H _ I h) λus s1 ⟨vs,H1,I1,r1,q1⟩=>hc Y s1 σ H1 vs us Q I1 r1 q1) he hpl) hn hdb)
end
end L2
namespace HT
open PyProof.Rows
section
variable{prog:Program}{w:World}{A:Around}{E:∅}{s:Shared}
def a0k{t b:Addr}{vs ws:aw}{Q:∅}(ht:IsTup s.heap t vs.toArray)(hb:IsTup s.heap b ws.toArray)(hv:vs≠[])
  (h1:ws=[]->Q (.ref t) s) (h2:ws≠[]->Q (.ref s⁻¹) (s•s.heap.push { cls:=.type "tuple",data:=.seq (vs++ws).toArray}))
  (hsz:vs.length+ws.length<=sizeLine):∎ (binaryOp .Add (.ref t) (.ref b)) Q E s:=by
 let⟨⟨cls,dd,data,sl⟩,ho,hc,n,hd⟩:=id ht;let⟨⟨cls2,dd2,data2,sl2⟩,ho2,hc2,n2,hd2⟩:=id hb;simp only at hc hd hc2 hd2;subst hc hd hc2 hd2;let e:vs.toArray++ws.toArray=(vs++ws).toArray:=by simp
 by_cases hw:ws=[]
 ·show NZ ⟨_,ho,Z⟩ ⟨_,ho2,Z⟩ M8 Ny Mt Mr (Mp _ _)
   (tuple_addW1 t b vs.toArray ws.toArray n n2 dd dd2 sl sl2 (by simpa using hv) (by simp[hw])) ⟨ho,ho2,h1 hw⟩
 ·show NZ ⟨_,ho,Z⟩ ⟨_,ho2,Z⟩ M8 Ny Mt Mr (Mp _ _)
   (tuple_addW2 t b vs.toArray ws.toArray n n2 dd dd2 sl sl2 (by simpa using hv) (by simpa using hw) (by rw[iJ,iJ];show hsz)) ⟨ho,ho2,?_⟩
  rw[e];show h2 hw
noncomputable def j6(n d:Nat):Option Int->Nat
 |none=>d
 |some v=>if v<0 then(v+(n:Int)).toNat else min v.toNat n
def Qo(n d:Nat):j6 n d none=d:=rfl
def Oe(n d k:Nat):j6 n d (some (k:Int))=min k n:=by
 show(if(k:Int)<0 then((k:Int)+(n:Int)).toNat else min (k:Int).toNat n)=min k n;rw[aA (),ig]
def a3b(n d:Nat)(hd:d<=n)(o:Option Int):j6 n d o<=n:=by
 cases o with
 |none=>show hd
 |some v =>
  show(if v<0 then(v+(n:Int)).toNat else min v.toNat n)<=n;by_cases hv:v<0
  ·rw[aB hv];omega
  ·rw[aA hv];show Ur _ _
def Xh(v:Int)(n d:Nat):(if v<0 then max (v+(n:Int)) 0 else min v (n:Int))=((j6 n d (some v):Nat):Int):=by
 show(if v<0 then max (v+(n:Int)) 0 else min v (n:Int))=(((if v<0 then(v+(n:Int)).toNat else min v.toNat n):Nat):Int);by_cases hv:v<0
 ·simp only[if_pos hv];omega
 ·simp only[if_neg hv];omega
def Vo(lo hi:Option Int)(n:Nat):Builtin.Slice.sliceAdjust lo hi 1 (n:Int)=(((j6 n 0 lo:Nat):Int),((j6 n n hi:Nat):Int)):=by
 let h1:¬((1:Int)<0):=()
 unfold Builtin.Slice.sliceAdjust;simp only[h1,if_false];show Prod.ext ?_ ?_
 ·cases lo with
  |none=>rfl
  |some v=>show Xh v n 0
 ·cases hi with
  |none=>rfl
  |some v=>show Xh v n n
def Vp(i j:Nat):Builtin.Slice.slicePlaces (i:Int) (j:Int) 1=j-i:=by
 unfold Builtin.Slice.slicePlaces;let h1:(1:Int)>0:=()
 simp only[h1,if_true,Int.ediv_one];split<;>omega
def HB{v:Value}{o:Option Int}{Q:Option Int->Shared->Prop}(p:IsPart v o)(h:Q o s):∎ (Builtin.Slice.slicePartIndex v) Q E s:=by
 cases p with
 |none=>show slicePart_none h
 |int i t=>show slicePart_int h
def uZ{sl:Addr}{vl vu:Value}{lo hi:Option Int}{n:Nat}{Q:Int×Int×Nat->Shared->Prop}(hs:s.heap.IsSliceOf sl vl vu .none)(pl:IsPart vl lo)(pu:IsPart vu hi)
  (h:Q (((j6 n 0 lo:Nat):Int),1,j6 n n hi-j6 n 0 lo) s):∎ (Builtin.Slice.sliceApplied (.ref sl) (pure (n:Int))) Q E s:=by
 let⟨os,hos,hcs,hds⟩:=id hs;unfold Builtin.Slice.sliceApplied Builtin.Slice.sliceFields;show M (M (gJ hos hds (x:=vl) Z (M (gJ hos hds (x:=vu) Z (M (gJ hos hds (x:=.none) Z (ao (M (slicePart_none ?_)))))))));show wpAny _ _ (if((1:Int)==0)=true then _ else _) _ _ s;rw[aA ()];show M (HB pl (M (HB pu (M (ao ?_)))));show wpAny _ _ (match Builtin.Slice.sliceAdjust lo hi 1 (n:Int)with|(lo,hi)=>pure (lo,(1:Int),Builtin.Slice.slicePlaces lo hi 1)) _ _ s;rw[Vo lo hi n];show wpAny _ _ (pure (((j6 n 0 lo:Nat):Int),(1:Int),Builtin.Slice.slicePlaces ((j6 n 0 lo:Nat):Int) ((j6 n n hi:Nat):Int) 1)) _ _ s;rw[Vp];show ao h
def ù(xs:Array Value)(i k:Nat):((List.range k).filterMap λ(m:Nat)=>xs[((i:Int)+(m:Int)*1).toNat]?).toArray=((xs.toList.drop i).take k).toArray:=by
 let e:(λ(m:Nat)=>xs[((i:Int)+(m:Int)*1).toNat]?)=λm=>xs[i+m]?:=by
  funext m;let:((i:Int)+(m:Int)*1).toNat=i+m:=()
  rw[this]
 rw[e];let:=pick_run xs i k;rw[MN]at this;let e2:((λx=>xs[x]?)∘λx=>i+x)=λm=>xs[i+m]?:=rfl;rw[e2]at this;rw[this]
def Af{t sl:Addr}{items:Array Value}{vl vu:Value}{lo hi:Option Int}{Q:∅}(ht:IsTup s.heap t items)(hs:s.heap.IsSliceOf sl vl vu .none)(pl:IsPart vl lo)(pu:IsPart vu hi)
  (hw:¬(j6 items.size 0 lo=0/\j6 items.size items.size hi=items.size))
  (h:Q (.ref s⁻¹) (s•s.heap.push { cls:=.type "tuple",data:=.seq ((items.toList.drop (j6 items.size 0 lo)).take (j6 items.size items.size hi-j6 items.size 0 lo)).toArray}))
  (hsz:items.size<=sizeLine):∎ (getItem (.ref t) (.ref sl)) Q E s:=by
 let Xi:sizeOk (.seq ((items.toList.drop (j6 items.size 0 lo)).take (j6 items.size items.size hi-j6 items.size 0 lo)).toArray):=by
  show((items.toList.drop (j6 items.size 0 lo)).take (j6 items.size items.size hi-j6 items.size 0 lo)).toArray.size<=sizeLine;rw[iJ,dY,iK,uz];omega
 let hj:j6 items.size items.size hi<=items.size:=a3b _ _ (aK _) hi;let⟨os,hos,hcs,hds⟩:=id hs;let hTs:s.TypeIs (.ref sl) "slice" :=⟨os,hos,hcs⟩;unfold getItem;try with_reducible show eV ?_
 first|refine M (ao ?_)|skip
 show M (wpAny_sequenceKey ht.typeIs () ?_);show M (nF (name:=Str.ofString "__getitem__") ht.typeIs Mf
  (gG Mf ht.typeIs entry_tuple_getitem ?_ (args_tuple_getitem _ _)))
 show wpAny _ _ (Builtin.Tuple.tupleItemsOf (.ref t) >>= _) _ _ s;show M (tupleItemsOf_ ht (M (rW hTs ?_)));rw[aB ()];show M (uZ hs pl pu ?_);let hno:¬((((j6 items.size 0 lo:Nat):Int)==0&&(1:Int)==1&&(j6 items.size items.size hi-j6 items.size 0 lo)==items.size)=true):=by
  intro q;rw[gq,gq]at q;let q1:((j6 items.size 0 lo:Nat):Int)=0:=eq_of_beq q.1.1;let q2:j6 items.size items.size hi-j6 items.size 0 lo=items.size:=eq_of_beq q.2;show hw ⟨(),()⟩
 show wpAny _ _ (if(((j6 items.size 0 lo:Nat):Int)==0&&(1:Int)==1&&(j6 items.size items.size hi-j6 items.size 0 lo)==items.size)=true then _ else _) _ _ s;rw[aA hno,ù];first
  |exact M (m:=Builtin.Tuple.tupleExact _) (jR (ao ⟨_,Z,ao h⟩) Xi)
  |exact M (m:=Builtin.Tuple.tupleExact _) (jR (M (ao (ao ⟨_,Z,ao h⟩))) Xi)
  |exact M (M (m:=Builtin.Tuple.tupleExact _) (jR (ao (ao ⟨_,Z,ao h⟩)) Xi))
  |exact M (M (m:=Builtin.Tuple.tupleExact _) (jR (ao ⟨_,Z,ao h⟩) Xi))
end
end HT
namespace L2
open PyProof.Rows
variable{X:Cx}{us:aw}{α:Type}
abbrev TO:=St->Hp->(Option Int->Hp->Prop)->Prop
def PO(X:Cx)(e:Option Expr)(t:TO):Prop :=
 ∀(Y:aE) (s:Shared) (σ:St) (H:Hp) (Q:Option Int->Hp->Prop),bG X Y σ H s->t σ H Q->
  wpAny (model X.prog X.w) X.A (evalPart e X.env) (λu s'=>∃o H',bG X Y σ H' s'/\IsPart u o/\Q o H') X.xe s
noncomputable def a0l:TO:=λ_ H Q=>Q none H
noncomputable def a5n(t:TE):TO:=λσ H Q=>t σ H λx H1=>EA (λi=>x=.int i) λi=>Q (some i) H1
section
variable{e:Expr}{te:TE}{lo hi:Option Expr}{tl th:TO}{pos p2:Pos}
def fZ:PO X none a0l:=by
 intro Y s σ H Q I h;rw[evalPart_none];show ao ⟨none,H,I,.none,h⟩
def gb(h:PE X e te):PO X (some e) (a5n te):=by
 intro Y s σ H Q I hw;rw[evalPart_some];show jC (h Y s σ H _ I hw) λu s1 ⟨x,H1,I1,r1,q1⟩=>?_;let⟨i,rfl,q⟩:=q1;let⟨t,rfl⟩:=r1;show⟨some i,H1,I1,.int i t,q⟩
def SlR(X:Cx)(r:V->Option Int->Option Int->Hp->VK->Prop):Prop :=
 ∀(Y:aE) (s:Shared) (σ:St) (H:Hp) (x:V) (v vl vu:Value) (lo hi:Option Int) (sl:Addr) (Q:VK),bG X Y σ H s->cY x v->s.heap.IsSliceOf sl vl vu .none->IsPart vl lo->IsPart vu hi->r x lo hi H Q->
  ∃T id,typeLookup (.type T) "__getitem__" = pure (some (.builtin id))/\s.TypeIs v T/\wpAny (model X.prog X.w) X.A (getItem v (.ref sl)) (EP X Y σ Q) X.xe s
noncomputable def tSl(r:V->Option Int->Option Int->Hp->VK->Prop)(te:TE)(tl th:TO):TE:=λσ H Q=>te σ H λx H1=>tl σ H1 λl H2=>th σ H2 λu H3=>r x l u H3 Q
def fj{r:V->Option Int->Option Int->Hp->VK->Prop}(hr:SlR X r)(he:PE X e te)(hl:PO X lo tl)(hu:PO X hi th):PE X (.Subscript e (.Slice lo hi none p2) pos) (tSl r te tl th):=by
 intro Y s σ H Q I h;show Subscript_ (jC (he Y s σ H _ I h) λv s1 ⟨x,H1,I1,r1,q1⟩=>wpAny_Slice (jC (hl Y s1 σ H1 _ I1 q1) λvl s2 ⟨l,H2,I2,pl,q2⟩=>jC (hu Y s2 σ H2 _ I2 q2) λvu s3 ⟨u,H3,I3,pu,q3⟩=>?_));rw[evalPart_none];show ao ?_;let I4:bG X Y σ H3 (s3•s3.heap.push { cls:=.type "slice",data:=.fields #[vl,vu,.none]}):=I3.kept (t':=s3.toks) λb ob q=>bM _ q;let⟨T,id,hT,ht,hg⟩:=hr Y (s3•s3.heap.push { cls:=.type "slice",data:=.fields #[vl,vu,.none]}) σ H3 x v vl vu l u s3⁻¹ Q I4 r1 (Heap.IsSliceOf.new ..) pl pu q3;show wpAny (model X.prog X.w) X.A (subscriptTail e (.Slice lo hi none p2) v (.ref s3⁻¹)) (EP X Y σ Q) X.xe (s3•s3.heap.push { cls:=.type "slice",data:=.fields #[vl,vu,.none]});show tail_any (ops:=[.ref s3⁻¹,v]) ht hT hg (by with_unfolding_all rfl)
def uH(xs:af)(lo hi:Option Int):af:=(xs.drop (HT.j6 xs.length 0 lo)).take (HT.j6 xs.length xs.length hi-HT.j6 xs.length 0 lo)
def El(xs:af)(lo hi:Option Int):(uH xs lo hi).length<=xs.length:=by
 unfold uH;rw[dY,iK];omega
inductive a7E(K:aJ)(x:V)(lo:Option Int)(hi:Option Int)(H:Hp)(Q:VK):Prop
 |mk (a xs:_) (_:x=.ref a) (_:cJ K H a xs) (_:¬(HT.j6 xs.length 0 lo=0/\HT.j6 xs.length xs.length hi=xs.length)) (_:∀p,H p=none->Q (.ref p) (cU H p (.tup (uH xs lo hi))))
def ú:SlR X (a7E X.K):=by
 intro Y s σ H x v vl vu lo hi sl Q I rx hs pl pu h;let⟨a,xs,rfl,hx,hw,q⟩:=h;cases rx;let⟨bY,r,ht,hz⟩:=I.tuple hx;let hlen:bY.toArray.size=xs.length:=by rw[iJ];show r.length.symm
 show⟨"tuple",_,PyProof.Rows.slot_tuple_getitem.lookup,ht.typeIs,?_⟩;show HT.Af ht hs pl pu (by rw[hlen];show hw) ?_ (by rw[hlen];show hz);rw[hlen];show⟨.ref s⁻¹,_,I.laid (t':=s.toks) (o:=.tup (uH xs lo hi)) (λb ob q=>bM _ q) (aK _) ⟨cG (El xs lo hi) hz,_,(r.drop (HT.j6 xs.length 0 lo)).take (HT.j6 xs.length xs.length hi-HT.j6 xs.length 0 lo),IsTup.new _ _⟩,Z,q _ (I.hok.fresh (aK _))⟩
inductive a5o(K:aJ)(x:V)(y:V)(H:Hp)(Q:VK):Prop
 |mk (a b xs ys:_) (_:x=.ref a) (_:y=.ref b) (_:cJ K H a xs) (_:cJ K H b ys) (_:xs≠[]) (_:xs.length+ys.length<=sizeLine) (_:(ys=[]->Q (.ref a) H)) (_:(ys≠[]->∀p,H p=none->Q (.ref p) (cU H p (.tup (xs++ys)))))
def cZ.Ag{xs:af}(r:cZ xs us):us=[]↔xs=[]:=by
 cases r with
 |nil=>simp
 |cons _ _=>simp
def Xj:qY X (binaryOp .Add) (a5o X.K):=by
 intro Y s σ H x y v u Q I rx ry h;let⟨a,b,xs,ys,rfl,rfl,ha,hb,hx,hz,q1,q2⟩:=h;cases rx;cases ry;let⟨bY,r1,p1,_⟩:=I.tuple ha;let⟨its2,r2,p2,_⟩:=I.tuple hb;show HT.a0k p1 p2 (λz=>hx (r1.Ag.mp z)) (λz=>⟨.ref a,H,I,Z,q1 (r2.Ag.mp z)⟩) (λz=>?_) (by rw[<-r1.length,<-r2.length];show hz);show⟨.ref s⁻¹,_,I.laid (t':=s.toks) (o:=.tup (xs++ys)) (λb ob q=>bM _ q) (aK _) ?_,Z,q2 (λw=>z (r2.Ag.mpr w)) _ (I.hok.fresh (aK _))⟩;show⟨by rw[cu];show hz,_,r1.append r2,IsTup.new _ _⟩
end
noncomputable def ixN(n:Nat)(i:Int):Option Nat:=if 0<=i then(if i<n then some i.toNat else none)else if -(n:Int)<=i then some (i+n).toNat else none
def Vq{α:Type}(xs:List α)(i:Int):Option α:=(ixN xs.length i).bind λj=>xs[j]?
def a0m{n:Nat}{i:Int}{j:Nat}(h:ixN n i=some j):seqIndex? i n=some j/\j<n/\ -(n:Int)<=i/\i<n:=by
 unfold ixN at h;by_cases h0:0<=i
 ·rw[aB h0]at h;by_cases h1:i<n
  ·rw[aB h1]at h;let e:i.toNat=j:=dI h;show⟨by rw[seqIndex_of h0 h1,e],(),(),h1⟩
  ·rw[aA h1]at h;cases h
 ·rw[aA h0]at h;by_cases h1 : -(n:Int)<=i
  ·rw[aB h1]at h;let e:(i+n).toNat=j:=dI h;show⟨by rw[seqIndex_neg () h1,e],(),h1,()⟩
  ·rw[aA h1]at h;cases h
def Og{xs:List α}{i:Int}{v:α}(h:Vq xs i=some v):∃j,seqIndex? i xs.length=some j/\xs[j]?=some v/\j<xs.length/\ -(xs.length:Int)<=i/\i<xs.length:=by
 unfold Vq at h;cases e:ixN xs.length i with
 |none=>rw[e]at h;cases h
 |some j =>
  rw[e]at h;let⟨h1,h2,h3,h4⟩:=a0m e;show⟨j,h1,h,h2,h3,h4⟩
def bW{xs:List α}{j:Nat}{v:α}(h:xs[j]?=some v):Vq xs (j:Int)=some v:=by
 let hj:j<xs.length:=(eG.mp h).1;let e:ixN xs.length (j:Int)=some j:=by
  unfold ixN;rw[aB (),aB ()];simp
 unfold Vq;rw[e];show h
def a0n(b:Expr):Prop:=∀o i,subscripted b false o i=operate [o,i] (getItem o i)
def IxR(X:Cx)(r:R2):Prop :=
 ∀(value slice:Expr) (Y:aE) (s:Shared) (σ:St) (H:Hp) (x y:V) (v u:Value) (Q:VK),bG X Y σ H s->cY x v->cY y u->r x y H Q->
  subscripted slice false v u=operate [v,u] (getItem v u)->wpAny (model X.prog X.w) X.A (subscriptTail value slice v u) (EP X Y σ Q) X.xe s
def MtR(X:Cx)(id:String)(r:V->af->Hp->VK->Prop):Prop :=
 ∀(Y:aE) (s:Shared) (σ:St) (H:Hp) (x:V) (xs:af) (v:Value) (us:aw) (Q:VK),bG X Y σ H s->cY x v->cZ xs us->r x xs H Q->
  wpAny (model X.prog X.w) X.A (call (.builtin id) (v::us)) (EP X Y σ Q) X.xe s
section
variable{a b:Expr}{ta tb:TE}{pos:Pos}
def aP{r:R2}(hr:IxR X r)(ha:PE X a ta)(hb:PE X b tb)(hs:a0n b:=by show λ_ _=>rfl):PE X (.Subscript a b pos) (tOp r ta tb):=by
 intro Y s σ H Q I h;show Subscript_ (a2U ha hb I h λv u s2 x y H2 I2 rx ry q=>hr a b Y s2 σ H2 x y v u Q I2 rx ry q (hs _ _))
inductive a0o(K:aJ)(x:V)(y:V)(H:Hp)(Q:VK):Prop
 |mk (p xs i v:_) (_:x=.ref p) (_:y=.int i) (_:bD K H p xs) (_:Vq xs i=some v) (_:Q v H)
inductive a0p(K:aJ)(x:V)(y:V)(H:Hp)(Q:VK):Prop
 |mk (p xs i v:_) (_:x=.ref p) (_:y=.int i) (_:cJ K H p xs) (_:Vq xs i=some v) (_:Q v H)
def a0q:IxR X (a0o X.K):=by
 intro value slice Y s σ H x y v u Q I rx ry h hs;let⟨p,xs,i,z,rfl,rfl,hq,he,q⟩:=h;cases rx;let⟨t,rfl⟩:=ry;let⟨bY,r,pl,hz⟩:=I.list hq;let⟨j,h1,h2,h3,h4,h5⟩:=Og he;let⟨w,ew,Vr⟩:=r.get h2;let hl:=r.length;let hn:=Oc;let fin:EP X Y σ Q w s:=⟨z,H,I,Vr,q⟩;by_cases h0:0<=i
 ·let hj:i.toNat=j:=by
   rw[seqIndex_of h0 h5]at h1;show dI h1
  show item_listR pl.isList h0 () (by rw[hj];simpa using ew) fin hs
 ·let hj:(i+(bY.toArray.size:Int)).toNat=j:=by
   rw[seqIndex_neg () h4]at h1;rw[iJ,<-hl];show dI h1
  show subscriptTail_builtinR (x:=w) pl.isList.typeIs slot_list_getitem.lookup
   (wpAny_getItem_list_neg (Q:=λr s'=>r=w/\EP X Y σ Q r s') pl.isList () (by rw[iJ]<;>omega) () (by rw[hj];simpa using ew) ⟨Z,fin⟩) hs
def a3c:IxR X (a0p X.K):=by
 intro value slice Y s σ H x y v u Q I rx ry h hs;let⟨p,xs,i,z,rfl,rfl,hq,he,q⟩:=h;cases rx;let⟨t,rfl⟩:=ry;let⟨bY,r,pl,hz⟩:=I.tuple hq;let⟨j,h1,h2,h3,h4,h5⟩:=Og he;let⟨w,ew,Vr⟩:=r.get h2;let hl:=r.length;let hn:=Oc;let fin:EP X Y σ Q w s:=⟨z,H,I,Vr,q⟩;show subscriptTail_builtinR (x:=w) pl.typeIs slot_tuple_getitem.lookup
  (getItem_tuple (j:=j) (Q:=λr s'=>r=w/\EP X Y σ Q r s') pl () () (by rw[iJ,<-hl];show h1) (by simpa using ew) ⟨Z,fin⟩) hs
def Oh(lo hi:Option Int)(n:Nat):(sliceBounds lo hi none n).1=((HT.j6 n 0 lo:Nat):Int)/\(sliceBounds lo hi none n).2.1=((HT.j6 n n hi:Nat):Int)/\(sliceBounds lo hi none n).2.2=1:=by
 show⟨?_,?_,Z⟩
 ·cases lo with
  |none=>simp[sliceBounds,HT.j6]
  |some i =>
   simp only[sliceBounds,HT.j6,Option.getD_none,show(1:Int)>0 by decide,if_true];by_cases h:i<0
   ·simp only[h,if_true]<;>omega
   ·simp only[h,if_false]<;>omega
 ·cases hi with
  |none=>simp[sliceBounds,HT.j6]
  |some i =>
   simp only[sliceBounds,HT.j6,Option.getD_none,show(1:Int)>0 by decide,if_true];by_cases h:i<0
   ·simp only[h,if_true]<;>omega
   ·simp only[h,if_false]<;>omega
def JW(bY:aw)(lo hi:Option Int):slicePick bY.toArray lo hi none=((bY.drop (HT.j6 bY.length 0 lo)).take (HT.j6 bY.length bY.length hi-HT.j6 bY.length 0 lo)).toArray:=by
 let⟨h1,h2,h3⟩:=Oh lo hi bY.toArray.size;unfold slicePick;rw[h1,h2,h3];simp only[sliceRange_one,pick_run,List.size_toArray]<;>rfl
inductive a7F(K:aJ)(x:V)(lo:Option Int)(hi:Option Int)(H:Hp)(Q:VK):Prop
 |mk (a xs:_) (_:x=.ref a) (_:bD K H a xs) (_:∀p,H p=none->Q (.ref p) (cU H p (.lst (uH xs lo hi))))
def a0r:SlR X (a7F X.K):=by
 intro Y s σ H x v vl vu lo hi sl Q I rx hs pl pu h;let⟨a,xs,rfl,hx,q⟩:=h;cases rx;let⟨bY,r,ht,hz⟩:=I.list hx;let hlen:=r.length;show⟨"list",_,slot_list_getitem.lookup,ht.isList.typeIs,?_⟩;show wpAny_getItem_list_slice ht.isList hs pl pu .none (by simp) ?_ (by rw[iJ]<;>omega);rw[JW,<-hlen];show⟨.ref s⁻¹,_,I.laid (t':=s.toks) (o:=.lst (uH xs lo hi)) (λb ob q=>bM _ q) (aK _) ⟨cG (El xs lo hi) hz,_,0,(r.drop (HT.j6 xs.length 0 lo)).take (HT.j6 xs.length xs.length hi-HT.j6 xs.length 0 lo),cB _ Z⟩,Z,q _ (I.hok.fresh (aK _))⟩
noncomputable def Ah:V->Bool
 |.non=>true
 |.bl _=>true
 |.int _=>true
 |.str _=>true
 |_=>false
noncomputable def eqV:V->V->Bool
 |.non,.non=>true
 |.bl a,.bl b=>a==b
 |.bl a,.int b=>(if a then 1 else 0)==b
 |.int a,.bl b=>a==(if b then 1 else 0)
 |.int a,.int b=>a==b
 |.str a,.str b=>a==b
 |_,_=>false
def a3d{A:Around}{s:Shared}{y x:V}{u v:Value}(ry:cY y u)(rx:cY x v)(fy:Ah y=true)(fx:Ah x=true):SeqAt.EqAt A s u v (eqV y x):=by
 cases y with
 |non =>
  cases ry;cases x with
  |non=>cases rx;show SeqAt.EqAt.same _
  |bl b=>cases rx;show SeqAt.EqAt.none_bool b
  |int b=>let⟨t,rfl⟩:=rx;show SeqAt.EqAt.none_int b t
  |str b=>let⟨t,rfl⟩:=rx;show SeqAt.EqAt.none_str b t
  |_=>show absurd (show false=true from fx) cN
 |bl a =>
  cases ry;cases x with
  |non=>cases rx;show SeqAt.EqAt.bool_none a
  |bl b=>cases rx;show SeqAt.EqAt.bool_bool a b
  |int b=>let⟨t,rfl⟩:=rx;show SeqAt.EqAt.bool_int a b t
  |str b=>let⟨t,rfl⟩:=rx;show SeqAt.EqAt.bool_str a b t
  |_=>show absurd (show false=true from fx) cN
 |int a =>
  let⟨t',rfl⟩:=ry;cases x with
  |non=>cases rx;show SeqAt.EqAt.int_none a t'
  |bl b=>cases rx;show SeqAt.EqAt.int_bool a t' b
  |int b=>let⟨t,rfl⟩:=rx;show SeqAt.EqAt.int_int a t' b t
  |str b=>let⟨t,rfl⟩:=rx;show SeqAt.EqAt.int_str a t' b t
  |_=>show absurd (show false=true from fx) cN
 |str a =>
  let⟨t',rfl⟩:=ry;cases x with
  |non=>cases rx;show SeqAt.EqAt.str_none a t'
  |bl b=>cases rx;show SeqAt.EqAt.str_bool a t' b
  |int b=>let⟨t,rfl⟩:=rx;show SeqAt.EqAt.str_int a t' b t
  |str b=>let⟨t,rfl⟩:=rx;show SeqAt.EqAt.str_str a t' b t
  |_=>show absurd (show false=true from fx) cN
 |_=>show absurd (show false=true from fy) cN
def Vs(x:V)(u:Value):Bool:=match u with
 |.none=>eqV .non x
 |.bool b=>eqV (.bl b) x
 |.int i _=>eqV (.int i) x
 |.str z _=>eqV (.str z) x
 |_=>false
def û{x y:V}{u:Value}(r:cY y u)(f:Ah y=true):Vs x u=eqV y x:=by
 cases y with
 |non=>cases r;rfl
 |bl b=>cases r;rfl
 |int i=>let⟨t,rfl⟩:=r;rfl
 |str z=>let⟨t,rfl⟩:=r;rfl
 |_=>show absurd (show false=true from f) cN
def Ge{x:V}{xs:af}(h:cZ xs us)(f:xs.all Ah=true):us.any (Vs x)=xs.any λy=>eqV y x:=by
 induction h with
 |nil=>rfl
 |cons r t ih =>
  rw[U5,gq]at f;rw[oX,oX,û r f.1,ih f.2]
def Ai{A:Around}{s:Shared}{x:V}{v:Value}(rx:cY x v)(fx:Ah x=true){xs:af}(h:cZ xs us)(f:xs.all Ah=true):∀u∈us,SeqAt.EqAt A s u v (Vs x u):=by
 induction h with
 |nil=>intro u hu;cases hu
 |cons r t ih =>
  intro u' hu;rw[U5,gq]at f;rcases bO.mp hu with rfl|hu
  ·rw[û r f.1];show a3d r rx f.1 fx
  ·show ih f.2 u' hu
def inV(x:V)(xs:af):Bool:=xs.any λy=>eqV y x
inductive rIn(K:aJ)(neg:Bool)(x:V)(y:V)(H:Hp)(Q:VK):Prop
 |mk (p xs:_) (_:y=.ref p) (_:(bD K H p xs\/cJ K H p xs)) (_:Ah x=true) (_:xs.all Ah=true) (_:Q (.bl (if neg then !inV x xs else inV x xs)) H)
def YK:qY X (compareOp .In) (rIn X.K false):=by
 intro Y s σ H x y v u Q I rx ry h;let⟨p,xs,rfl,hq,fx,fs,q⟩:=h;cases ry;rcases hq with hq|hq
 ·let⟨bY,r,pl,hz⟩:=I.list hq;show SeqAt.in_listAt (Vs x) pl.isList (λw hw=>Ai rx fx r fs w (by simpa using hw)) ⟨.bl _,H,I,Z,?_⟩;rw[show bY.toArray.any (Vs x)=bY.any (Vs x) by simp,Ge r fs];show q
 ·let⟨bY,r,pl,hz⟩:=I.tuple hq;show SeqAt.in_tupleAt (Vs x) pl (λw hw=>Ai rx fx r fs w (by simpa using hw)) ⟨.bl _,H,I,Z,?_⟩;rw[show bY.toArray.any (Vs x)=bY.any (Vs x) by simp,Ge r fs];show q
def Oi:qY X (compareOp .NotIn) (rIn X.K true):=by
 intro Y s σ H x y v u Q I rx ry h;let⟨p,xs,rfl,hq,fx,fs,q⟩:=h;cases ry;rcases hq with hq|hq
 ·let⟨bY,r,pl,hz⟩:=I.list hq;show SeqAt.notIn_listAt (Vs x) pl.isList (λw hw=>Ai rx fx r fs w (by simpa using hw)) ⟨.bl _,H,I,Z,?_⟩;rw[show bY.toArray.any (Vs x)=bY.any (Vs x) by simp,Ge r fs];show q
 ·let⟨bY,r,pl,hz⟩:=I.tuple hq;show SeqAt.notIn_tupleAt (Vs x) pl (λw hw=>Ai rx fx r fs w (by simpa using hw)) ⟨.bl _,H,I,Z,?_⟩;rw[show bY.toArray.any (Vs x)=bY.any (Vs x) by simp,Ge r fs];show q
def Oj:jy X (.builtin "len") (λxs H Q=>∃p ys,xs=[.ref p]/\(bD X.K H p ys\/cJ X.K H p ys)/\Q (.int ys.length) H):=by
 intro Y s σ H xs us Q I r h;let⟨p,ys,rfl,hq,q⟩:=h;let⟨u,rfl,rx⟩:=vals1 r;cases rx;let hn:=Oc;rcases hq with hq|hq
 ·let⟨bY,r',pl,hz⟩:=I.list hq;let hlen:=r'.length;show Calls.call_len_list pl.isList (by simp only[List.size_toArray]<;>omega) ⟨.int ys.length,H,I.tok _,⟨s.toks+1,by rw[iJ,hlen]⟩,q⟩
 ·let⟨bY,r',pl,hz⟩:=I.tuple hq;let hlen:=r'.length;show len_tuple pl (by simp only[List.size_toArray]<;>omega) ⟨.int ys.length,H,I.tok _,⟨s.toks+1,by rw[iJ,hlen]⟩,q⟩
def Ol:jy X (.type "list") (λxs H Q=>∃p ys,xs=[.ref p]/\(bD X.K H p ys\/cJ X.K H p ys)/\∀l,H l=none->Q (.ref l) (cU H l (.lst ys))):=by
 intro Y s σ H xs us Q I r h;let⟨p,ys,rfl,hq,q⟩:=h;let⟨u,rfl,rx⟩:=vals1 r;cases rx;let fin:∀(bY:aw),cZ ys bY->ys.length<=sizeLine->∀(h':Heap) (c':Nat),(∀b o',s^^^b=some o'->h'.get? b=some o')->
   h'.get? s⁻¹=some { cls:=.type "list",dict:=none,data:=.seq bY.toArray c',slots:=#[]}->EP X Y σ Q (.ref s⁻¹) (s•h'):=λbY r' hz h' c' kp e =>
  ⟨.ref s⁻¹,_,I.laid (t':=s.toks) kp (aK _) (show fD X.prog X.w _ h' _ (.lst ys)from⟨hz,bY,c',r',e⟩),Z,q _ (I.hok.fresh (aK _))⟩
 rcases hq with hq|hq
 ·let⟨bY,r',pl,hz⟩:=I.list hq;let hlen:=r'.length;let⟨o,ho,hc,n,hd⟩:=pl.isList;show call_list_seq p (.inl Z) ho hc hd (λh' c' kp e=>fin bY r' hz h' c' kp e) (by simp only[List.size_toArray]<;>omega)
 ·let⟨bY,r',pl,hz⟩:=I.tuple hq;let hlen:=r'.length;let⟨o,ho,hc,n,hd⟩:=pl;show call_list_seq p (.inr Z) ho hc hd (λh' c' kp e=>fin bY r' hz h' c' kp e) (by simp only[List.size_toArray]<;>omega)
def uI:jy X (.type "tuple") (λxs H Q=>∃p ys,xs=[.ref p]/\((bD X.K H p ys/\∀l,H l=none->Q (.ref l) (cU H l (.tup ys)))\/(cJ X.K H p ys/\Q (.ref p) H))):=by
 intro Y s σ H xs us Q I r h;let⟨p,ys,rfl,h⟩:=h;let⟨u,rfl,rx⟩:=vals1 r;cases rx;rcases h with⟨hq,q⟩|⟨hq,q⟩
 ·let⟨bY,r',pl,hz⟩:=I.list hq;let hlen:=r'.length;show call_tuple_list pl.isList (λh' kp=>?_) (by simp only[List.size_toArray]<;>omega);let I1:bG X Y σ H (s•h'):=I.kept (t':=s.toks) kp;let I2:bG X Y σ (cU H h'.objs.size (.tup ys)) (s•h'.push { cls:=.type "tuple",data:=.seq bY.toArray}) :=
   I1.laid (t':=s.toks) (λb o e=>bM _ e) (aK _) (show fD X.prog X.w _ _ _ (.tup ys)from⟨hz,bY,r',IsTup.new _ _⟩)
  show⟨.ref h'.objs.size,_,I2,Z,q _ (I1.hok.fresh (aK _))⟩
 ·let⟨bY,r',pl,hz⟩:=I.tuple hq;show call_tuple_same pl ⟨.ref p,H,I,Z,q⟩
def tyV(K:aJ)(T:String)(x:V)(H:Hp):Prop:=match x with
 |.str _=>T = "str"
 |.int _=>T = "int"
 |.ref p=>(T = "list" /\∃xs,bD K H p xs)\/(T = "tuple" /\∃o,K.lookup p=some o/\o.cls=.type "tuple" /\o.dict=none)\/
   (T = "dict" /\((∃J,H p=some (.dK J))\/∃J,H p=some (.dT J)))\/(T = "set" /\∃S n,H p=some (.set S n))
 |_=>False
def ý{Y:aE}{σ:St}{H:Hp}{s:Shared}{T:String}{x:V}{v:Value}(I:bG X Y σ H s)(r:cY x v)(ty:tyV X.K T x H) :
  s.TypeIs v T/\∀a,v=.ref a->∃ob,s^^^a=some ob/\ob.dict=none:=by
 cases x with
 |str z =>
  let⟨t,rfl⟩:=r;cases(show T = "str" from ty);show⟨typeIs_str s z t,λ_ e=>nomatch e⟩
 |int i =>
  let⟨t,rfl⟩:=r;cases(show T = "int" from ty);show⟨typeIs_int s i t,λ_ e=>nomatch e⟩
 |ref p =>
  cases r;rcases ty with⟨rfl,xs,hq⟩|⟨rfl,o,hk,hc,hd⟩|⟨rfl,hk⟩|⟨rfl,S,n,hk⟩
  ·let⟨bY,_,pl,_⟩:=I.list hq;show⟨pl.isList.typeIs,λa e=>?_⟩;cases e;let⟨o,n,e,c,hd,_⟩:=pl;show⟨o,e,hd⟩
  ·show⟨⟨o,I.Ci p o hk,hc⟩,λa e=>?_⟩;cases e;show⟨o,I.Ci _ o hk,hd⟩
  ·let z:∃o,s^^^p=some o/\o.ExactDict:=by
    rcases hk with⟨J,hk⟩|⟨J,hk⟩
    ·let⟨_,_,_,_,o,_,_,e,ex,_⟩:=I.hok p _ hk;show⟨o,e,ex⟩
    ·let⟨_,_,_,_,o,_,_,e,ex,_⟩:=I.hok p _ hk;show⟨o,e,ex⟩
   let⟨o,e,ex⟩:=z;show⟨⟨o,e,ex.1⟩,λa e2=>?_⟩;cases e2;show⟨o,e,ex.2.1⟩
  ·let⟨o,_,_,_,e,ex,_⟩:=I.hok p _ hk;show⟨⟨o,e,ex.1⟩,λa e2=>?_⟩;cases e2;show⟨o,e,ex.2.1⟩
 |_=>show False.elim ty
def a5p(K:aJ)(T:String)(r:V->af->Hp->VK->Prop)(to:TE):TE:=λσ H Q=>to σ H λx H1=>tyV K T x H1/\r x [] H1 Q
def tBM(K:aJ)(T:String)(r:V->af->Hp->VK->Prop)(to:TE)(t:TA):TE:=λσ H Q=>to σ H λx H1=>tyV K T x H1/\t σ H1 λxs H2=>r x xs H2 Q
variable{o e:Expr}{es:bc}{to:TE}{t:TA}{name:Str}{apos cpos:Pos}{T id:String}{r:V->af->Hp->VK->Prop}
def a3e(pa:PlainAttrs T)(slot:Slot T name id)(hty:typeOf (.builtin id)=pure (.type "method_descriptor"))(hm:MtR X id r)(ho:PE X o to)
  (hbase:@&(attributeBase o name X.env (eval o X.env)=eval o X.env)) (hline:@&((apos.endLine==cpos.line)=true)):PE X (.Call (.Attribute o name apos) [] [] cpos) (a5p X.K T r to):=by
 intro Y s σ H Q I h;show wpAny_Call_method0_late hbase hline (jC (ho Y s σ H _ I h) λv s1 ⟨x,H1,I1,r1,ty,q1⟩=>?_);let⟨h1,h2⟩:=ý I1 r1 ty;show⟨T,id,pa,slot,hty,h1,h2,Tt Z (PySem.evalArgs_none (hm Y s1 σ H1 x [] v [] Q I1 r1 .nil q1))⟩
def a5q(pa:PlainAttrs T)(slot:Slot T name id)(hty:typeOf (.builtin id)=pure (.type "method_descriptor"))(hm:MtR X id r)(ho:PE X o to)(ha:PA X (e::es) t)
  (hbase:@&(attributeBase o name X.env (eval o X.env)=eval o X.env))
  (hfew:@&(((backTo cpos (starEach (e::es) X.env)).all (λx=>!x.1)&&(backToKw cpos (keywordEach [] X.env)).all (λx=>x.1.isSome)
   && decide ((e::es).length+([]:List Keyword).length+(if([]:List Keyword).isEmpty then 0 else 1)<30))=true))
  (hline:@&((apos.endLine==cpos.line)=true)) (hs:@&(starEach (e::es) X.env=(false,eval e X.env)::starEach es X.env)) (hplain:@&((backTo cpos (starEach es X.env)).any (·.1)=false)) :
  PE X (.Call (.Attribute o name apos) (e::es) [] cpos) (tBM X.K T r to t):=by
 intro Y s σ H Q I h;show wpAny_Call_method_late hbase hfew hline Z (jC (ho Y s σ H _ I h) λv s1 ⟨x,H1,I1,r1,ty,q1⟩=>?_);let⟨h1,h2⟩:=ý I1 r1 ty;show⟨T,id,pa,slot,hty,h1,h2,?_⟩;let hA:=ha cpos Y s1 σ H1 _ I1 q1;rw[hs]at hA ⊢;show Tt (by show(false||(backTo cpos (starEach es X.env)).any (·.1))=false;rw[hplain]<;>rfl) (Calls.evalArgs_plain ?_);show jC hA λus s2 ⟨vs,H2,I2,r2,q2⟩=>hm Y s2 σ H2 x vs v us Q I2 r1 r2 q2
end
def Qp(X:Cx)(id:String)(r:V->af->Hp->VK->Prop):Prop :=
 ∀(Y:aE) (s:Shared) (σ:St) (H:Hp) (x:V) (xs:af) (v:Value) (us:aw) (Q:VK),bG X Y σ H s->cY x v->cZ xs us->r x xs H Q->
  wpAny (model X.prog X.w) X.A (call (.builtin id) (v::us)) (EP X Y σ Q) X.xe s
def cZ.fU{x:V}(h:cZ [x] us):∃u,us=[u]/\cY x u:=by
 cases h with
 |cons r t =>
  cases t;show⟨_,Z,r⟩
def cZ.zero:∀{us:aw},cZ [] us->us=[]
 |_,.nil=>rfl
def cZ.dropLast{xs:af}{us:aw}(h:cZ xs us):cZ xs.dropLast us.dropLast:=by
 induction h with
 |nil=>show .nil
 |cons r t ih =>
  cases t with
  |nil=>show .nil
  |cons q t'=>show .cons r ih
def Vt(l:List α):l.eraseIdx (l.length-1)=l.dropLast:=by
 induction l with
 |nil=>rfl
 |cons a r ih =>
  cases r with
  |nil=>rfl
  |cons b r =>
   let e:(a::b::r).length-1=((b::r).length-1)+1:=by
    let h1:(a::b::r).length=r.length+2:=rfl;let h2:(b::r).length=r.length+1:=rfl;omega
   rw[e,List.eraseIdx_cons_succ,ih];all_goals rfl
section
variable{Y:aE}{σ:St}{H:Hp}{s:Shared}{l b:Addr}{xs ys zs:af}
def bG.a3f{bY its':aw}{n:Nat}{f:Array Value->Array Value}{t':Nat}(I:bG X Y σ H s)(hH:H l=↥xs)
  (e:s^^^l=some { cls:=.type "list",data:=.seq bY.toArray n}) (hf:f bY.toArray=its'.toArray) (hv:cZ ys its') (hz:ys.length<=sizeLine) :
  bG X Y σ (cU H l (.lst ys)) { s with heap:=s.heap.update l (Obj.mapSeq f),toks:=t'}:=by
 let q:=PySem.IsL.update e f;rw[hf]at q;show I.write (x:=l) (e:=l) (by rw[hH];show trivial) (.inl Z) (λb' u hb hu=>(Tv s.heap (Obj.mapSeq f) (Ne.symm hb)).trans hu) ⟨_,q⟩ ?_;show⟨hz,its',_,hv,q⟩
def bG.a7G{bY:aw}{t':Nat}(I:bG X Y σ H s)(hv:cZ ys bY)(hz:ys.length<=sizeLine) :
  bG X Y σ (cU H s⁻¹ (.lst ys)) { s with heap:=s.heap.push { cls:=.type "list",data:=.seq bY.toArray},toks:=t'} :=
 I.laid (λ_ _ q=>bM _ q) (aK _) ⟨hz,bY,0,hv,cB _ Z⟩
def bG.fresh(I:bG X Y σ H s):H s⁻¹=none:=I.hok.fresh (aK _)
def bG.YL(I:bG X Y σ H s)(hH:H l=↥xs):xs.length<=sizeLine/\∃(bY:aw) (n:Nat),cZ xs bY/\xs.length=bY.length/\s^^^l=some { cls:=.type "list",data:=.seq bY.toArray n}:=by
 let⟨z,bY,n,r,e⟩:=I.hok l _ hH;show⟨z,bY,n,r,r.length,e⟩
end
inductive a0s(x:V)(vs:af)(H:Hp)(Q:VK):Prop
 |mk (l xs y:_) (_:x=.ref l) (_:vs=[y]) (_:H l=↥xs) (_:xs.length<sizeLine) (_:Q .non (cU H l (.lst (xs++[y]))))
def YM:Qp X "list.append" a0s:=by
 intro Y s σ H x vs v us Q I rx rv h;let⟨l,xs,y,rfl,rfl,hH,hz,q⟩:=h;cases rx;let⟨u,rfl,ru⟩:=rv.fU;let⟨z,bY,n,r,hl,e⟩:=I.YL hH;show CQ F.slot_list_append ⟨_,e,Z⟩ F.entry_list_append (F.args_list_append_2 _ _) (PySem.list_append l bY.toArray n u (by rw[List.size_toArray];omega)) ⟨e,?_⟩;show⟨.non,_,I.a3f (its':=bY++[u]) hH e (by simp) (r.append (.cons ru .nil)) ?_,Z,q⟩;rw[cu,yR];omega
inductive a7H(x:V)(vs:af)(H:Hp)(Q:VK):Prop
 |mk (l xs y:_) (_:x=.ref l) (_:vs=[]) (_:H l=↥xs) (_:xs[xs.length-1]?=some y) (_:Q y (cU H l (.lst xs.dropLast)))
def a3g:Qp X "list.pop" a7H:=by
 intro Y s σ H x vs v us Q I rx rv h;let⟨l,xs,y,rfl,rfl,hH,hy,q⟩:=h;cases rx;let hus:=rv.zero;subst hus;let⟨z,bY,n,r,hl,e⟩:=I.YL hH;let⟨u,hu,ru⟩:=r.get hy;let hy':bY.toArray[bY.toArray.size-1]?=some u:=by
  show bY.toArray[bY.length-1]?=some u;rw[<-GP,<-hl];show hu
 show CQ F.slot_list_pop ⟨_,e,Z⟩ F.entry_list_pop (F.args_list_pop_1 _) (MeetsSeq.list_pop_last l bY.toArray n u hy' (by rw[iJ];omega)) ⟨e,?_⟩;show⟨y,_,I.a3f (its':=bY.dropLast) hH e ?_ r.dropLast ?_,ru,q⟩
 ·show bY.toArray.eraseIdxIfInBounds (bY.toArray.size-1)=bY.dropLast.toArray;rw[iJ,List.eraseIdxIfInBounds_toArray,Vt]
 ·rw[T8];omega
inductive a3h(x:V)(vs:af)(H:Hp)(Q:VK):Prop
 |mk (l xs:_) (_:x=.ref l) (_:vs=[]) (_:H l=↥xs) (_:Q .non (cU H l (.lst [])))
def þ:Qp X "list.clear" a3h:=by
 intro Y s σ H x vs v us Q I rx rv h;let⟨l,xs,rfl,rfl,hH,q⟩:=h;cases rx;let hus:=rv.zero;subst hus;let⟨z,bY,n,r,hl,e⟩:=I.YL hH;show CQ F.slot_list_clear ⟨_,e,Z⟩ F.entry_list_clear (F.args_list_clear_1 _) (AutoSeq1.list_clear_list_0 l bY.toArray n (by rw[iJ];omega)) ⟨e,?_⟩;show⟨.non,_,I.a3f (its':=[]) (ys:=[]) hH e Z .nil (dF _),Z,q⟩
inductive a7I(x:V)(y:V)(H:Hp)(Q:VK):Prop
 |mk (l b xs zs:_) (_:x=.ref l) (_:y=.ref b) (_:H l=↥xs) (_:H b=↥zs) (_:xs.length+zs.length<=sizeLine) (_:∀p,H p=none->Q (.ref p) (cU H p (.lst (xs++zs))))
def a3i:qY X (binaryOp .Add) a7I:=by
 intro Y s σ H x y v u Q I rx ry h;let⟨l,b,xs,zs,rfl,rfl,hH,hB,hz,q⟩:=h;cases rx;cases ry;let⟨z,bY,n,r,hl,e⟩:=I.YL hH;let⟨z2,its2,n2,r2,hl2,e2⟩:=I.YL hB;show PySem.P.add_list e e2 ?_ (by rw[iJ,iJ];omega);let ea:bY.toArray++its2.toArray=(bY++its2).toArray:=by simp
 rw[ea];show⟨.ref _,_,I.a7G (t':=s.toks) (r.append r2) (by rw[List.length_append];omega),Z,q _ I.fresh⟩
end L2
namespace Att
open PySem.W PySem.Calls PyProof.Rows
def Fy{P:Params}{h:Heap}:∀(ns:ae) (vs:aw),WellAll P h vs (ns.map WData.int)->IntsAre vs ns:=by
 intro ns
 induction ns with
 |nil =>
  intro vs w;rw[List.map_nil]at w;cases w;show .nil
 |cons n ns ih =>
  intro vs w;rw[cC]at w;cases w with
  |cons a b =>
   cases a;show .cons _ _ (ih _ b)
def YQ{l : OpenLaw}{n : Nat}(hn : l.most = some n){P : Params}{h : Heap}{args : List WData}{vals : aw}
    (hpre : l.row.toRowW.claim.pre args = true) (hwl : WellAll P h vals args) :
    ∃ a vs ns, vals = [Value.ref a] ∧ args = [WData.list (ns.map WData.int)] ∧ h.get? a = some { cls := .type "list", data := .seq vs.toArray } ∧ IntsAre vs ns ∧ ns.length ≤ n := by
  let hsh : WShape.hasAll [] args [.list .int] = true := (pre_splitW hpre).1;let hc : l.pre.holds [] { args := args } = true := (pre_splitW hpre).2;let⟨d, r, rfl, h1, h2⟩ := hasAllW_cons hsh;obtain rfl := hasAllW_nil h2;let⟨xs, rfl, h3⟩ := hasW_list h1;let⟨ns, rfl⟩ := items_int h3;let hlen : ns.length ≤ n := by
    unfold OpenLaw.pre at hc;let h4 : (WTm.not (.lt (.lit (.int (n : Int))) (.len (.arg 0)))).holds [] { args := [.list (ns.map .int)] } = true := by
      let h4 := (holds_andW hc).1;rw [hn] at h4;show h4
    let h5 := condW_of h4 (w_not (w_lt w_lit (w_len_list (w_arg Z))));rw [aH] at h5;show Nat.le_of_not_lt fun q => ?_;let q' : (n : Int) < ((ns.length : Nat) : Int) := by omega
    first
      | (rw [aV q'] at h5; show absurd h5 ())
      | (simp at h5; omega)
  cases hwl with
  | cons w1 w2 =>
    cases w2;cases w1 with
    | list ho hall => show ⟨_, _, ns, Z, Z, ho, Fy ns _ hall, hlen⟩
def YS(l : OpenLaw)(args : List WData) : l.row.toRowW.claim.post args (.bool true) args = true :=
  postW_of (r := l.row.toRowW) (X := (true == true))
    (show WShape.has [] (.bool true) .bool = true by first | rfl | decide | simp [WShape.has, WShape.arms, WShape.armsAll])
    (show (WTm.eq .res (.lit (.bool true))).value [] { args := args, res := some (.bool true), after := args } = some (.bool (true == true)) from w_eq_bool (w_res Z) w_lit) rfl
def Qq{l:OpenLaw}{n:Nat}{q:Program}{loose:ag}{XP:(Str->Option Value)->Heap->Prop}{YP:World->Heap->Prop}{d:DefRec}
  (hn:l.most=some n) (hdf:d.params.defaults=[])
  (call:∀(w:World) (s₀ s₁:Shared) (mg mb:Str->Option Value) (fa:Addr) (o:Obj) (pm cd doc:Value) (a:Addr) (vs:aw) (ns:ae),
   Ground q loose [] XP w s₀ mg mb s₁.heap->YP w s₁.heap->
   s₁^^^fa=some o->o.data=.func (docDef d.name d.params d.body d.scope pm cd doc)->s₁.heap.CodeRec cd d.name->mg d.name=⇑fa->
   s₁^^^a=some { cls:=.type "list",data:=.seq vs.toArray}->IntsAre vs ns->ns.length<=n->s₁.gens = #[]->
   codeAny (model l.prog w) callerA (.call (.ref fa) ⟨[.ref a],[]⟩) (λr s'=>r=.ok (.ret (.bool true))/\OldK s₁.heap s'.heap/\s'.os=s₁.os/\AllBare s'.gens) s₁) :
  WalkO q loose XP YP l.row.toRowW d [] (λf vs=>PySem.call f vs):=by
 intro w s₀ s₁ mg mb G Z99 fa o pm cd doc dV kV ho hd hcd hD hmg hg args vals as hpre hlay hrd hwl hlo;obtain rfl:dV=.none:=Dflts.none hD hdf;obtain rfl:kV=.none:=Dflts.noKw hD;let⟨a,vs,ns,rfl,rfl,hobj,hints,hlen⟩:=YQ hn hpre hwl;show enter_call (CP (call w s₀ s₁ mg mb fa o pm cd doc a vs ns G Z99 ho (fd_plain hd) hcd hmg hobj hints hlen hg) λr s' hq=>?_);let⟨rfl,h2,h3,h4⟩:=hq;show⟨.inl ⟨.bool true,.bool true,[],Z,λ_=>rfl,.bool true,YS l _,λ_=>⟨List.Pairwise.nil,λ_ hm=>(nomatch hm)⟩⟩,h2,h3,h4⟩
end Att
namespace L2
open PyProof.Rows
variable{X:Cx}{σ:St}{ix:List (Option Nat)}{x qual:Str}{Y:aE}{a it:Addr}{n:Nat}{scope:Scope}{g:TG}{tt:TT}{te:TE}{pos:Pos}{H1 H':Hp}{Q:VK}{o:HO}{N':ag}{tg elt iter:Expr}{w:World}{fd:FuncData}{A B:Prop}{R:Result->Shared->Prop}{ifs es:bc}{r:V->af->Hp->VK->Prop}
def KC:∀{vs:aw}{ns:ae},IntsAre vs ns->cZ (ns.map V.int) vs
 |_,_,.nil=>.nil
 |_,_,.cons n t h=>.cons ⟨t,Z⟩ (KC h)
def Only(H:Hp):Prop:=∀b,H b=none\/∃o xs,H b=some (.gP o (.lst xs))
def ÿ{P:Program}{K:aJ}{mg mb:Str->Option Value}{CX:SM}{k:Nat}{fa:Addr}{sp:Sp}{s₁:Shared}{vs:aw}{ns:ae}
  (KX:K.In s₁.heap) (hns:s₁.heap.Ns mainGlobals mg) (hb:s₁.heap.Ns builtinsNs mb) (hbb:∀x:Str,x≠ "__name__" ->mb x=bootBuiltins x) (hlim:s₁.heap.NoLimit) (hg:s₁.gens = #[])
  (ha:s₁^^^a=some { cls:=.type "list",data:=.seq vs.toArray}) (hi:IntsAre vs ns) (hl:ns.length<=sizeLine) (hr:qZ k callerA)
  (F:∀base:Heap,K.In base->base.Ns mainGlobals mg->bF P w K mg base CX k fa fd [x] sp) (hbind:∀(s:Shared) (u:Value),BindsTo s fd ⟨[u],[]⟩ [(x,u)])
  (hsp:∀H:Hp,Only H->bD K H a (ns.map V.int)->sp [.ref a] H (λv _=>v=.bl true) λ_ _ _=>False)
  (hCX:∀H e s',CX [] H s₁ (λ_ _ _=>False) e s'->False) :
  codeAny (model P w) callerA (.call (.ref fa) ⟨[.ref a],[]⟩) (λr s'=>r=.ok (.ret (.bool true))/\OldK s₁.heap s'.heap/\s'.os=s₁.os/\AllBare s'.gens) s₁:=by
 let rv:=KC hi;let lenV:=hi.length;let core:∀H:Hp,Only H->bD K H a (ns.map V.int)->xY P w H s₁.heap->(∀b,H b≠none->b=a)->(H a≠none->K.lookup a=none)->
   codeAny (model P w) callerA (.call (.ref fa) ⟨[.ref a],[]⟩) (λr s'=>r=.ok (.ret (.bool true))/\OldK s₁.heap s'.heap/\s'.os=s₁.os/\AllBare s'.gens) s₁:=by
  intro H hO hS hok hA hK;let Xk:∀{b:Addr}{o:Obj},s₁^^^b=some o->H b=none->(Oa s₁.heap H).get? b=some o:=λe n=>å e n;let noA:∀{b:Addr}{o:Obj}{es:Array DictEntry}{ep:Nat},s₁^^^b=some o->o.data=.dict es ep->H b=none:=λ{b o es ep} e d=>by
   cases q:H b with
   |none=>rfl
   |some u =>
    let e':b=a:=hA b (by rw[q];simp);subst e';rw[ha]at e;cases e;let d':Data.seq vs.toArray _=Data.dict es ep:=d;cases d'
  let nsK:∀{b:Addr}{m:Str->Option Value},s₁.heap.Ns b m->(Oa s₁.heap H).Ns b m:=λ{b m} ⟨o,es,ep,e,d,r⟩=>⟨o,es,ep,Xk e (noA e d),d,r⟩;let hKb:K.In (Oa s₁.heap H):=λb o e=>Xk (KX b o e) (by
   cases q:H b with
   |none=>rfl
   |some u =>
    let e':b=a:=hA b (by rw[q];simp);subst e';rw[hK (by rw[q];simp)]at e;cases e)
  let hM:Mod K mg (Oa s₁.heap H):=⟨hKb,nsK hns,⟨mb,nsK hb,hbb⟩,let⟨mc,h1,h2⟩:=hlim;⟨mc,nsK h1,h2⟩⟩;let e0:Vl P w K mg (Oa s₁.heap H) callerA [] s₁ H:=⟨Z,hM,λb o e=>a0a e,NT (Yy _ _),trivial,λb hb=>absurd (show b∈([]:aI)from hb) (by simp),hok,.of_eq hg⟩;show CP ((F _ hKb (nsK hns)).run callerA [] s₁ H ⟨[.ref a],[]⟩ [.ref a] [.ref a] _ _ hr e0 (hbind s₁ (.ref a)) (.cons Z .nil) (hsp H hO hS)) λr s' h=>?_;cases r with
  |error e=>show(hCX H e s' h).elim
  |ok fl =>
   cases fl with
   |next=>show False.elim h
   |brk=>show False.elim h
   |cont=>show False.elim h
   |ret u =>
    let⟨v,H',os,bare,un,hok',r',q⟩:=h;let q':v=.bl true:=q;subst q';obtain rfl:u=Value.bool true:=r';show⟨Z,OldK.of_keep λb o e=>?_,os,bare⟩;cases q:H b with
    |none=>show un.keep b o e q (by intro z;show absurd (show b∈([]:aI)from z) (by simp)) (by simp)
    |some u =>
     rcases hO b with z|⟨ob,xs,z⟩
     ·rw[q]at z;cases z
     ·let z2:=un.Hv b ob _ z;let⟨e1,_⟩:=hok b _ z;let⟨e2,_⟩:=hok' b _ z2;rw[e]at e1;cases e1;show e2
 cases hk:K.lookup a with
 |some o =>
  let e:=KX a o hk;rw[ha]at e;cases e;show core (λ_=>none) (λ_=>.inl Z) (.inr ⟨_,vs.toArray,_,hk,Z,Z,Z,by rw[iJ,lenV];show hl,by simpa using rv⟩) (λb u z=>by let z':(none:Option HO)=some u:=z;cases z') (λb z=>absurd Z z) λz=>absurd Z z
 |none =>
  show core (λb=>if b=a then some (.gP { cls:=.type "list",data:=.seq vs.toArray} (.lst (ns.map V.int)))else none) (λb=>?_) (.inl (.inr ⟨{ cls:=.type "list",data:=.seq vs.toArray},aB Z⟩)) (λb u z=>?_) (λb z=>?_) λ_=>hk
  ·by_cases hb:b=a
   ·show .inr ⟨_,_,aB hb⟩
   ·show .inl (aA hb)
  ·by_cases hb:b=a
   ·let z':=(aB hb).symm.trans z;cases z';subst hb;show⟨ha,by rw[aH];show hl,vs,_,rv,ha⟩
   ·let z':=(aA hb).symm.trans z;cases z'
  ·by_cases hb:b=a
   ·show hb
   ·show absurd (aA hb) z
abbrev KOf{K:aJ}{h:Heap}(_:K.In h):aJ:=K
def a0t{l:PySem.W.OpenLaw}{k:Nat}{q:Program}{loose:ag}{XP:(Str->Option Value)->Heap->Prop}{YP:World->Heap->Prop}{d:DefRec}{K:Params->aJ}{CX:World->SM}{sp:World->Sp}
  (hn:l.most=some n) (hn2:n<=sizeLine) (hdf:d.params.defaults=[]) (hr:qZ k callerA)
  (hY:∀(w:World) (h:Heap),YP w h->(K w.params).In h)
  (F:∀(w:World) (mg:Str->Option Value) (fa:Addr) (h:Heap),(K w.params).In h->h.Ns mainGlobals mg->mg d.name=⇑fa->
   ∃fd:FuncData,(∀(s:Shared) (u:Value),BindsTo s fd ⟨[u],[]⟩ [(x,u)])/\
    ∀base:Heap,(K w.params).In base->base.Ns mainGlobals mg->bF l.prog w (K w.params) mg base (CX w) k fa fd [x] (sp w))
  (hsp:∀(w:World) (H:Hp) (a:Addr) (ns:ae),ns.length<=n->Only H->bD (K w.params) H a (ns.map V.int)->sp w [.ref a] H (λv _=>v=.bl true) λ_ _ _=>False)
  (hCX:∀(w:World) (H:Hp) (s:Shared) (e:Value) (s':Shared),CX w [] H s (λ_ _ _=>False) e s'->False) :
  PySem.W.WalkO q loose XP YP l.row.toRowW d [] (λf vs=>PySem.call f vs):=by
 show Att.Qq hn hdf λw s₀ s₁ mg mb fa o pm cd doc a vs ns G Z99 ho hd hcd hmg hobj hints hlen hg=>?_;let KX:=hY w _ Z99;let⟨fd,hb,hF⟩:=F w mg fa _ KX G.T.g hmg;show ÿ KX G.T.g G.T.b G.T.builtins G.T.nolimit hg hobj hints (cG hlen hn2) hr hF hb (λH hO hS=>hsp w H a ns hlen hO hS) λH e s'=>hCX w H s₁ e s'
def Ā{l:PySem.W.OpenLaw}{k:Nat}{q:Program}{loose:ag}{XP:(Str->Option Value)->Heap->Prop}{YP:World->Heap->Prop}{d:DefRec}{K:Params->aJ}{CX:SM}{sp:aJ->Sp}
  (hn:l.most=some n) (hn2:n<=sizeLine) (hdf:d.params.defaults=[]) (hr:qZ k callerA)
  (hY:∀(w:World) (h:Heap),YP w h->(K w.params).In h)
  (F:∀(w:World) (mg:Str->Option Value) (fa:Addr) (h:Heap),(K w.params).In h->h.Ns mainGlobals mg->mg d.name=⇑fa->
   ∃fd:FuncData,(∀(s:Shared) (u:Value),BindsTo s fd ⟨[u],[]⟩ [(x,u)])/\
    ∀base:Heap,(K w.params).In base->base.Ns mainGlobals mg->bF l.prog w (K w.params) mg base CX k fa fd [x] (sp (K w.params)))
  (hsp:∀(K:aJ) (H:Hp) (a:Addr) (ns:ae),ns.length<=n->Only H->bD K H a (ns.map V.int)->sp K [.ref a] H (λv _=>v=.bl true) λ_ _ _=>False)
  (hCX:∀(H:Hp) (s:Shared) (e:Value) (s':Shared),CX [] H s (λ_ _ _=>False) e s'->False) :
  PySem.W.WalkO q loose XP YP l.row.toRowW d [] (λf vs=>PySem.call f vs) :=
 a0t (K:=K) (CX:=λ_=>CX) (sp:=λw=>sp (K w.params)) hn hn2 hdf hr hY F (λw H a ns h1 h2 h3=>hsp (K w.params) H a ns h1 h2 h3) λ_ H s e s'=>hCX H s e s'
noncomputable def inClass(s:Stmt)(j:Nat):Stmt:=match s with
 |.ClassDef _ _ _ body _ _ _ _ _ _ _=>body.getD j (.Pass ⟨0,0,0,0⟩)
 |_=>.Pass ⟨0,0,0,0⟩
noncomputable def gR(s:Stmt):Arguments:=match s with
 |.FunctionDef _ a _ _ _ _ _ _ _ _=>a
 |_=>{ posonlyargs:=[],args:=[],vararg:=none,kwonlyargs:=[],kw_defaults:=[],kwarg:=none,defaults:=[]}
noncomputable def gh(s:Stmt):List Stmt:=match s with
 |.FunctionDef _ _ b _ _ _ _ _ _ _=>b
 |_=>[]
noncomputable def aG(s:Stmt):Scope:=match s with
 |.FunctionDef _ _ _ _ _ _ sc _ _ _=>sc
 |_=>{ kind:=.function,names:=[],isGenerator:=false,isCoroutine:=false}
abbrev fW:SM:=λ_ _ _ _ _ _=>False
abbrev E0:XK:=λ_ _ _=>False
def bZ:zq fW X E0:=λ_ _ _ _ _ _ _ h=>h.elim
structure Fun(K:aJ)(x qual:Str)(st:Stmt)(f:Addr)(fd:FuncData):Prop where
 ex:∃(oc:Value) (od:Option Addr) (kV doc pm:Value) (an:Option Addr) (d7 ct:Value) (osl:Array (Option Value)),
  fd=fnOf x qual (gR st) (gh st) (aG st) .none kV doc pm an d7 ct/\K.lookup f=some ⟨oc,od,.func fd,osl⟩/\codeIn K d7 qual=true
 kp:keepIn K (.ref f)=true
section
variable{P:Program}{K:aJ}{mg:Str->Option Value}{base:Heap}
def Fun.ok{st:Stmt}{f:Addr}{N ps:ag}{k:Nat}{sp:Sp}(F:Fun K x qual st f fd)(S:bN N ps (aG st))(hbody:∀(d7:Value) (A:Around) (outer:List Env) (s:Shared) (H:Hp) (vs:af) (Q:VK) (E:XK),qZ k (A.deeper (envOfC qual (aG st) s⁻¹ f d7))->sp vs H Q E->
   ∃t,Qk (Vn fW P w K mg base N qual (aG st) f d7 A outer s H E).nox (gh st) t/\t { nx:=λ_ H'=>Q .non H',rt:=Q} (start N vs) H)
  (len:∀vs H Q E,sp vs H Q E->vs.length=ps.length:=by intro vs H Q E h;first|(cases h;subst_vars;rfl)|(repeat first|(let⟨e,_⟩:=h;rw[e];rfl)|(let⟨_,h⟩:=h))):⋯ (k+1) f fd ps sp:=by
 let⟨oc,od,kV,doc,pm,an,d7,ct,osl,rfl,lk,hcd⟩:=F.ex;show a2g lk hcd S len λA outer s H vs Q E hr hsp=>?_;let⟨t,h,q⟩:=hbody d7 A outer s H vs Q E hr hsp;show⟨t,h.nox,q⟩
def Fun.binds{st:Stmt}{f:Addr}{ps:ag}(F:Fun K x qual st f fd)
  (h:∀(kV doc pm:Value) (an:Option Addr) (d7 ct:Value) (us:aw),us.length=ps.length->bindArgs (fnOf x qual (gR st) (gh st) (aG st) .none kV doc pm an d7 ct) ⟨us,[]⟩=pure (ps.zip us)):Binds K fd ps []:=by
 let⟨oc,od,kV,doc,pm,an,d7,ct,osl,rfl,lk,hcd⟩:=F.ex;show .all (h kV doc pm an d7 ct)
def Vu{st:Stmt}{f:Addr}{oc:Value}{od an:Option Addr}{osl:Array (Option Value)}{kV doc pm d7 ct:Value}(l:K.lookup f=some ⟨oc,od,.func (fnOf x qual (gR st) (gh st) (aG st) .none kV doc pm an d7 ct),osl⟩)
  (c:codeIn K d7 qual=true) (k:keepIn K (.ref f)=true):Fun K x qual st f (fnOf x qual (gR st) (gh st) (aG st) .none kV doc pm an d7 ct):=⟨⟨oc,od,kV,doc,pm,an,d7,ct,osl,Z,l,c⟩,k⟩
end
def cL(h:n<=1000):n<sizeLine:=GR h ()
def pv(i:Nat)(hN:@&(X.N[i]?=some x))(hv:Vis X.env.scope x:=by first|exact Or.inl rfl|exact Or.inr (Or.inl Z)|exact Or.inr (Or.inr Z))(hd:@&((x==("__debug__" : Str))=false))
  (hcd:@&((x==("__classdict__" : Str))=false)):PE X (.Name x pos) (Vb i):=a2I hN hv hd hcd
def dB(h:B):if false=true then A else B:=by
 rw[aA cN];show h
def iQ(h:A):if true=true then A else B:=by
 rw[aB rfl];show h
def nC{c:Prop} [Decidable c] (h1:c->A) (h2:¬c->B):if c then A else B:=by
 by_cases h:c
 ·rw[aB h];show h1 h
 ·rw[aA h];show h2 h
def aL(H H':Hp):Prop:=∀b o,H b=some o->H' b=some o
def aL.refl(H:Hp):aL H H:=λ_ _ h=>h
def aL.trans{H H2:Hp}(a:aL H H1)(b:aL H1 H2):aL H H2:=λc o h=>b c o (a c o h)
def aL.free{H:Hp}(e:aL H H'){l:Addr}(h:H' l=Option.none):H l=Option.none:=by
 cases q:H l with
 |none=>rfl
 |some o =>
  rw[e l o q]at h;cases h
def aL.seq{K:aJ}{H:Hp}{xs:af}(e:aL H H')(h:bD K H a xs):bD K H' a xs:=by
 rcases h with(h|⟨o,h⟩)|h
 ·show .inl (.inl (e _ _ h))
 ·show .inl (.inr ⟨o,e _ _ h⟩)
 ·show .inr h
noncomputable def vR(cells:List (Str×Addr)):List (Str×NameKind)->List (Str×Addr)->List (Str×Addr)
 | [],acc=>acc
 |(n,k)::r,acc=>vR cells r (if k==.free then(match cells.lookup n with|some c=>(n,c)::acc|none=>acc)else acc)
theorem ā{env:Env}:∀(ns:List (Str×NameKind)) (acc:List (Str×Addr)),(∀x∈ns,x.2=.free->∃c,env.cells.lookup x.1=some c)->
  (forIn ns acc λ(x:Str×NameKind) (cs:List (Str×Addr))=>(if x.2==NameKind.free then do let a <-cellOf env x.1;pure (ForInStep.yield ((x.1,a)::cs))else pure (ForInStep.yield cs):Sem (ForInStep (List (Str×Addr)))))=pure (vR env.cells ns acc)
 | [],acc,_=>by simp[vR]
 |(n,k)::r,acc,h=>by
  rw[List.forIn_cons]
  let ih:=λa=>ā (env:=env) r a λx hx=>h x (bJ _ hx)
  unfold vR
  by_cases hk:(k==NameKind.free)=true
  ·let⟨c,hc⟩:=h (n,k) aZ ()
   let hc':env.cells.lookup n=some c:=hc
   let hce:cellOf env n=pure c:=by simp only[cellOf,hc']
   simp only[hk,if_true,hce,pure_bind,hc']
   show ih _
  ·simp only[hk,if_false,pure_bind,ih]
   simp
def HD{env:Env}(h:∀x∈scope.names,x.2=.free->∃c,env.cells.lookup x.1=some c):closureFor scope env=pure (vR env.cells scope.names []):=by
 let q:=ā (env:=env) scope.names [] h;unfold closureFor;rw[<-q];first
  |rfl
  |simp
set_option tactic.hygienic true in
theorem Aj{cells:List (Str×Addr)}:∀(ns:List (Str×NameKind)) (acc:List (Str×Addr)) {x:Str}{c:Addr},(∀y d,acc.lookup y=some d->cells.lookup y=some d)->(vR cells ns acc).lookup x=some c->cells.lookup x=some c
 | [],acc,x,c,ha,h=>ha x c h
 |(n,k)::r,acc,x,c,ha,h=>by
  unfold vR at h
  show Aj r _ (λy d hy=>?_) h
  split at hy
  ·split at hy
   ·rename_i c' hc'
    rw[List.lookup_cons]at hy
    split at hy
    ·rename_i e
     let e':y=n:=by simpa using e
     subst e'
     rw[hc'];show hy
    ·show ha y d hy
   ·show ha y d hy
  ·show ha y d hy
theorem KD{cells:List (Str×Addr)}:∀(ns:List (Str×NameKind)) (acc:List (Str×Addr)) {x:Str},(∃c,acc.lookup x=some c)->∃c,(vR cells ns acc).lookup x=some c
 | [],acc,x,h=>h
 |(n,k)::r,acc,x,h=>by
  unfold vR
  show KD r _ ?_
  split
  ·split
   ·rw[List.lookup_cons]
    split
    ·show⟨_,Z⟩
    ·show h
   ·show h
  ·show h
theorem HF{cells:List (Str×Addr)}:∀(ns:List (Str×NameKind)) (acc:List (Str×Addr)) {x:Str},(x,NameKind.free)∈ns->(∃c,cells.lookup x=some c)->∃c,(vR cells ns acc).lookup x=some c
 | [],acc,x,h,_=>nomatch h
 |(n,k)::r,acc,x,h,hc=>by
  unfold vR
  rcases bO.mp h with e|h
  ·cases e
   let⟨c,hc⟩:=hc
   show KD r _ ?_
   simp[hc]
  ·show HF r _ h hc
def bG.track{H:Hp}{s:Shared}(I:bG X Y σ H s)(hn:H a=none)(h0:X.s₀.heap.objs.size<=a)(hL:a≠X.env.locals)
  (hc:∀x c,X.env.cells.lookup x=some c->c≠a) (hp:∀p∈X.pn++Y,p.1≠a) (new:fD X.prog X.w (cU H a o) s.heap a o):bG X Y σ (cU H a o) s:=by
 let ne:∀b u,H b=some u->b≠a:=λb u e=>dO e hn;let q:=I.step (g':=s.gens) (d':=s.drawn) (t':=s.toks) (h':=s.heap) (H':=cU H a o) (ch:=[a]) (λb hb=>?_) (λb ob _ _ _ e _=>e) (λb ob _ _ _ e _=>⟨ob.slots,e⟩) (λb ob hb _ n=>?_)
  (λb ob _ e=>⟨ob,e⟩) (λb xs e=>by rw[aR (ne b _ e)];show e) (λb ob u e=>by rw[aR (ne b _ e)];show e) (λb ps e=>⟨#[],by rw[aR (ne b _ e),e];simp⟩) (λm hm=>hm) (λb u e=>?_) I.bare
 ·show q
 ·let e:b=a:=by simpa using hb
  subst e;show⟨.inr h0,hL,hc,hp⟩
 ·rw[aR (λz=>hb (by simp[z]))];show n
 ·by_cases hb:b=a
  ·subst hb;rw[dG]at e;grind
  ·rw[aR hb]at e;show(I.hok b u e).stay (λc v _ q=>q) (λc q=>by rw[aR (dO q hn)];show q) λc xs q=>by rw[aR (dO q hn)];show q
def sI(X:Cx)(N':ag)(scope:Scope)(C:Addr)(s:Shared)(H:Hp)(fp:aI)(xe:∅):Cx :=
 { X with N:=N',s₀:=s,H₀:=H,env:=compEnvC scope (vR X.env.cells scope.names []) C X.env,outer:=X.stack,ex:=fp,fn:=λ_=>false,xe:=xe}
structure Xl(X:Cx)(N':ag)(ix:List (Option Nat))(scope:Scope):Prop where
 kind:scope.kind=.function
 Ă:∀y∈scope.names,y.2≠.cell
 locs:∀y∈scope.names,y.2=.local->scope.names.lookup y.1=some .local
 free:∀y∈scope.names,y.2=.free->X.env.kindOf y.1=some .cell\/X.env.kindOf y.1=some .free
 len:ix.length=N'.length
 cap:∀(i j:Nat),ix[i]?=some (some j)->∃x,N'[i]?=some x/\X.N[j]?=some x/\scope.names.lookup x=some .free
noncomputable def pG(ix:List (Option Nat))(σ:St):St:=ix.map λo=>o.bind λj=>(σ[j]?).join
theorem Ak{env:Env}{x:Str}:∀{names:List (Str×NameKind)},names.lookup x=some .free->(names.map λ(n,k)=>if(k==NameKind.free&&env.scope.kind==.function&&env.kindOf n==some .cell)then(n,NameKind.cell)else(n,k)).lookup x=some .cell\/(names.map λ(n,k)=>if(k==NameKind.free&&env.scope.kind==.function&&env.kindOf n==some .cell)then(n,NameKind.cell)else(n,k)).lookup x=some .free
 | [],h=>by simp at h
 |(n,k)::r,h=>by
  let ih:=@Ak env x r
  grind
theorem Al{env:Env}{x:Str}:∀{names:List (Str×NameKind)},(∀y∈names,y.2≠.cell)->((names.map λ(n,k)=>if(k==NameKind.free&&env.scope.kind==.function&&env.kindOf n==some .cell)then(n,NameKind.cell)else(n,k)).lookup x=some .cell\/(names.map λ(n,k)=>if(k==NameKind.free&&env.scope.kind==.function&&env.kindOf n==some .cell)then(n,NameKind.cell)else(n,k)).lookup x=some .free)->(x,NameKind.free)∈names
 | [],_,h=>by simp at h
 |(n,k)::r,hn,h=>by
  let ih:=@Al env x r λy hy=>hn y (bJ _ hy)
  grind
def KH{H:Hp}{s:Shared}{i:Nat}{v:V}(B:Xl X N' ix scope)(I:bG X Y σ H s)
  (h1:N'[i]?=some x) (h2:(pG ix σ)[i]?=some (some v)):∃u c,cY v u/\(vR X.env.cells scope.names []).lookup x=some c/\X.env.cells.lookup x=some c/\s.heap.IsCell c (some u)/\
   ((relabel scope X.env).names.lookup x=some .cell\/(relabel scope X.env).names.lookup x=some .free):=by
 let clB:∀x c,(vR X.env.cells scope.names []).lookup x=some c->X.env.cells.lookup x=some c:=λx c h=>Aj scope.names [] (λ_ _ z=>by simp at z) h;obtain⟨j,hj,hv⟩:∃j,ix[i]?=some (some j)/\σ[j]?=some (some v):=by
  unfold pG at h2;rw[cH]at h2;cases e:ix[i]? with
  |none=>grind
  |some o =>
   rw[e]at h2;cases o with
   |none=>cases h2
   |some j =>
    grind
 let⟨x',hx1,hx2,hx3⟩:=B.cap i j hj;let exx:x'=x:=by
  grind
 subst exx;let hmem:=Cw hx3;let hout:=B.free _ hmem rfl;let⟨m0,_,hl⟩:=I.loc;let⟨u,r,l⟩:=hl j x' v hx2 hv (by
  rcases hout with e|e
  ·show .inr (.inl e)
  ·show .inr (.inr e))
 rcases l with⟨k,_⟩|⟨k,c,e,z⟩
 ·rcases hout with e|e
  ·rw[e]at k;cases k
  ·rw[e]at k;cases k
 ·let⟨c',hc'⟩:=HF scope.names [] hmem (I.ok.has x' hout);let:=clB x' c' hc';rw[e]at this;cases this;show⟨u,c,r,hc',e,z,Ak hx3⟩
def YT{H:Hp}{s s4:Shared}{C:Addr}{fp:aI}{xe:∅}{m:Str->Option Value}
  (B:Xl X N' ix scope) (I:bG X Y σ H s) (hf:∀b∈fp,CV X Y H b) (hC:s⁻¹<=C) (hfs:∀b∈fp,b<s⁻¹)
  (ho:s4.os=s.os) (hg:s4.gens=s.gens) (hk:∀b o,s^^^b=some o->s4^^^b=some o) (hns:s4.heap.Ns C m) :
  bG (sI X N' scope C s H fp xe) Y (pG ix σ) H s4:=by
 let clB:∀x c,(vR X.env.cells scope.names []).lookup x=some c->X.env.cells.lookup x=some c:=λx c h=>Aj scope.names [] (λ_ _ z=>by simp at z) h;let hfree:H C=none:=I.hok.fresh hC;let neC:∀b o,s^^^b=some o->b≠C:=λb o e=>bV (jd (bw e) hC);show⟨⟨I.ok.mod,B.kind,I.ok.glob,I.ok.blt,hC,λx y c h1 h2=>I.ok.inj x y c (clB x c h1) (clB y c h2),λx hx=>?_,λx c h=>absurd (show false=true from h) cN,I.ok.hd,I.ok.frames,.inl Z,λb hb=>⟨?_,λx c e=>?_⟩,I.bs,?_,λb o e hb=>?_,λb hb z=>?_,I.stack,I.W6⟩,
  ho,?_,Un.kept hk,⟨m,hns,λi x v h1 h2 h3=>?_⟩,λx c e=>?_,hfree,λx c e=>I.rY x c (clB x c e),λp hp=>?_,I.hok.kept hk,?_⟩
 ·let hx':=Al (env:=X.env) (x:=x) B.Ă hx;show HF scope.names [] hx' (I.ok.has x (B.free _ hx' Z))
 ·show bV (jd (hfs b hb) hC)
 ·show(hf b hb).2.2.2.2.1 x c (clB x c e)
 ·show cG I.ok.χ I.sz
 ·let⟨_,_,_,q,_⟩:=hf b hb;rcases q with q|q
  ·show I.ok.Va b o e q
  ·show absurd (jd (bw (I.ok.bs b o e).1) q) (zc _)
 ·let⟨_,q1,q2,_⟩:=hf b hb;rcases bO.mp (I.CT b z)with e|e
  ·show q1 e
  ·show q2 e
 ·rw[hg];show I.bare
 ·let⟨u,c,r,hc1,_,⟨oc,z1,z2⟩,hk'⟩:=KH B I h1 h2;show⟨u,r,.inr ⟨hk',c,hc1,oc,hk _ _ z1,z2⟩⟩
 ·let⟨v,oc,h1,h2⟩:=I.cell x c (clB x c e);show⟨v,oc,hk _ _ h1,h2⟩
 ·let⟨e,n,ne,nf,d⟩:=I.pin p hp;show⟨hk _ _ e,n,neC _ _ e,λz=>?_,d⟩;rcases bO.mp (I.CT p.1 z)with e'|e'
  ·show ne e'
  grind
 ·show(ix.map _).length=N'.length;rw[aH];show B.len
def Qs{prog:Program}{A:Around}{s:Shared}{target:Expr}{it acc:Value}{env:Env}(Iv:Nat->Shared->Prop)
  (turn:∀n s,Iv n s->∎ (pyNext it) (λr s₁=>match r with
   |none=>R (.ok .next) s₁
   |some v=>∎ (letOwnedTupleGo target it v) (λ_ s₁'=>∎ (assign target env v) (λ_ s₂ =>
     ∎ (forIn ifs true λc r=>if r=true then do let ok <-isTrue c env (eval c env);pure (ForInStep.yield ok)else pure (ForInStep.yield r)) (λok s₃ =>
      if ok=true then ∎ (eval elt env) (λx s₄ =>
       ∎ (call (.builtin "list.append") [acc,x]) (λ_ s₅=>∃m,m<n/\Iv m s₅) (notedBy (model prog w) A env λe s'=>R (.error e) s') s₄) (notedBy (model prog w) A env λe s'=>R (.error e) s') s₃
      else ∃m,m<n/\Iv m s₃) (notedBy (model prog w) A env λe s'=>R (.error e) s') s₂) (notedBy (model prog w) A env λe s'=>R (.error e) s') s₁') (notedBy (model prog w) A env λe s'=>R (.error e) s') s₁) (notedBy (model prog w) A env λe s'=>R (.error e) s') s)
  (n:Nat) (h:Iv n s) :
  codeAny (model prog w) A (.compLoop (.ListComp elt [⟨target,iter,ifs,0⟩] scope pos) 0 it acc env) R s:=by
 show codeAny_loop Z Iv (λn s hI=>?_) n h;show wpAny _ A ((compTurn (.ListComp elt [⟨target,iter,ifs,0⟩] scope pos) 0 it acc env).onRaise λx=>do noteFrame x env;theTreesLotGoes x) _ _ s;show wpAny_noted ?_;rw[compTurn_list];show M (Nx (M (iB (turn n s hI) (λr s₁ h₁=>?_) λ_ _ h'=>h')));cases r with
 |none=>show ao h₁
 |some v =>
  show M (iB h₁ (λ_ s₁' h₁'=>M (iB h₁' (λ_ s₂ h₂=>M (iB h₂ (λok s₃ h₃=>?_) λ_ _ h'=>h')) λ_ _ h'=>h')) λ_ _ h'=>h');cases ok with
  |false=>show ao ⟨Z,h₃⟩
  |true =>
   show M (M (iB h₃ (λx s₄ h₄=>M (iB h₄ (λ_ s₅ h₅=>ao (ao ⟨Z,h₅⟩)) λ_ _ h'=>h')) λ_ _ h'=>h'))
def PTs(X:Cx)(ifs:bc)(t:TT):Prop :=
 ∀(Y:aE) (s:Shared) (σ:St) (H:Hp) (Q:Bool->Hp->Prop),bG X Y σ H s->t σ H Q->
  wpAny (model X.prog X.w) X.A (forIn ifs true λc r=>if r=true then do let ok <-isTrue c X.env (eval c X.env);pure (ForInStep.yield ok)else pure (ForInStep.yield r)) (TP X Y σ Q) X.xe s
noncomputable def ă:TT:=λ_ H Q=>Q true H
def gj:PTs X [] ă:=λ_ _ _ H _ I h=>wpAny_tests_nil ⟨H,I,h⟩
def tU{c:Expr}{t:TT}(h:PT X c t):PTs X [c] t:=λY s σ H Q I hw=>wpAny_tests_one (h Y s σ H Q I hw)
def j7(ix:List (Option Nat))(g:TG)(tt:TT)(te:TE)(σ:St)(H1:Hp)(Q:VK)(Z97:It):Prop:=∃W:Nat->Nat->af->Hp->Prop,(∃m,W 0 m [] H1)/\∀i m ys H,W i m ys H->
 (Z97.stop i H/\ys.length<=sizeLine/\∀p,H p=none->Q (.ref p) (cU H p (.lst ys)))\/
 (Z97.go i H/\ys.length<=sizeLine/\∃N:af->Hp->Prop,(∀ys' H',N ys' H'->∃m',m'<m/\W (i+1) m' ys' H')/\∀x H',Z97.W9 i H x H'->g x (pG ix σ) H' λσ2 H2=>tt σ2 H2 λb H3=>if b=true then te σ2 H3 λv H4=>N (ys++[v]) H4 else N ys H3)
def tLC(ix:List (Option Nat))(wi:TI)(g:TG)(tt:TT)(te:TE):TE:=λσ H Q=>wi σ H λZ97 H1=>j7 ix g tt te σ H1 Q Z97
section
variable{wi:TI}
def Ą(B:Xl X N' ix scope)(hc:X.calm=true)
  (hg:∀C s H fp xe,PG (sI X N' scope C s H fp xe) tg g) (ht:∀C s H fp xe,PTs (sI X N' scope C s H fp xe) ifs tt) (he:∀C s H fp xe,PE (sI X N' scope C s H fp xe) elt te) {s2:Shared}{H2:Hp}{fp:aI}{tn:Nat->Heap->Prop}{Z97:It}{RR:Value->Addr->Result->Shared->Prop}{E:∅}
  (I2:bG X Y σ H2 s2) (T:Turn X.prog X.w X.K tg Z97 fp it tn) (st2:tn 0 s2.heap) (f2:∀b∈fp,CV X Y H2 b)
  (q:∃W:Nat->Nat->af->Hp->Prop,(∃m,W 0 m [] H2)/\∀i m ys H,W i m ys H->
   (Z97.stop i H/\ys.length<=sizeLine/\∀p,H p=none->Q (.ref p) (cU H p (.lst ys)))\/
   (Z97.go i H/\ys.length<=sizeLine/\∃N:af->Hp->Prop,(∀ys' H',N ys' H'->∃m',m'<m/\W (i+1) m' ys' H')/\∀x H',Z97.W9 i H x H'->g x (pG ix σ) H' λσ2 H2=>tt σ2 H2 λb H3=>if b=true then te σ2 H3 λv H4=>N (ys++[v]) H4 else N ys H3))
  (hRR:∀D C s' H' ys,bG X Y σ (cU H' D (.lst ys)) s'->H' D=none->Q (.ref D) (cU H' D (.lst ys))->(∃m,s'.heap.Ns C m)->cU H' D (.lst ys) C=none->C≠X.env.locals->X.s₀.heap.objs.size<=C->(∀x c,X.env.cells.lookup x=some c->c≠C)->(∀p∈X.pn++Y,p.1≠C)->RR (.ref D) C (.ok .next) s') :
  wpAny (model X.prog X.w) X.A (newList []) (λacc s₃=>wpAny (model X.prog X.w) X.A (newFunctionEnv scope X.env.globals (vR X.env.cells scope.names []) [] X.env.qual none .none (some X.env)) (λcenv s₄ =>
   codeAny (model X.prog X.w) X.A (.compStart (.ListComp elt [⟨tg,iter,ifs,0⟩] scope pos) 0 (.ref it) acc { cenv with scope:=relabel scope X.env}) (RR acc cenv.locals) s₄) E s₃) E s2:=by
 let hfs:∀b∈fp,b<s2⁻¹:=λb hb=>by
  let⟨o,e,_⟩:=T.obj _ _ st2 b hb;show bw e
 show jR (wpAny_newFunctionEnv B.Ă (by intro y hy;simp at hy) (λh₁ hns₁ hsb₁=>?_) B.kind);dsimp only at hns₁ hsb₁ ⊢;generalize hH3:s2.heap.push { cls:=.type "list",dict:=none,data:=.seq ([]:aw).toArray}=H3 at hns₁ hsb₁ ⊢;let hC:H3.objs.size=s2⁻¹+1:=by rw[<-hH3,oW]
 let hDC:s2⁻¹≠H3.objs.size:=by rw[hC];show bV (wU _)
 let below:∀b,b<s2⁻¹->b≠H3.objs.size/\b≠s2⁻¹:=λb hb=>⟨by rw[hC];show bV (GZ hb),bV hb⟩;let old:∀b o,s2^^^b=some o->h₁.get? b=some o:=λb o e=>hsb₁.extBut b o (below b (bw e)).1 (bM _ (hH3▸bM _ e));let hacc:h₁.get? s2⁻¹=some { cls:=.type "list",data:=.seq ([]:aw).toArray 0}:=hsb₁.extBut _ _ hDC (bM _ (hH3▸cB _ Z));let hCle:s2⁻¹<=H3.objs.size:=by rw[hC];show vL _
 generalize hD:s2⁻¹=D at *
 generalize hCC:H3.objs.size=C at *
 let⟨W,⟨m0,w0⟩,turn⟩:=q;let' xe:∅:=notedBy (model X.prog X.w) X.A (compEnvC scope (vR X.env.cells scope.names []) C X.env) λe s'=>RR (.ref D) C (.error e) s';let' X':Cx:=sI X N' scope C s2 H2 fp xe;let DL:D∉frs X.stack:=λz=>by
  rcases bO.mp (I2.CT D z)with e|e
  ·show absurd I2.lt (by rw[<-e,hD];show zc _)
  ·show I2.a4T (by rw[hD];show aK _) e
 let Vv:∀x c,X.env.cells.lookup x=some c->c<D:=λx c e=>by
  let⟨v,oc,h,_⟩:=I2.cell x c e;rw[<-hD];show bw h
 let clB:∀x c,(vR X.env.cells scope.names []).lookup x=some c->X.env.cells.lookup x=some c:=λx c h=>Aj scope.names [] (λ_ _ z=>by simp at z) h;let ą:∀p∈X.pn++Y,p.1<D:=λp hp=>by rw[<-hD];show bw (I2.pin p hp).1
 let fpX:∀{pl:aE}{H':Hp},(∀b∈fp,H' b=none)->(∀p∈pl,p∈Y\/p.1=D)->∀b∈fp,CV X' pl H' b:=λ{pl H'} hn hpl b hb=>by
  let⟨_,q1,q2,q3,q4,q5⟩:=f2 b hb;show⟨hn b hb,(below b (hfs b hb)).1,λz=>?_,.inl hb,λx c e=>q4 x c (clB x c e),λp hp=>?_⟩
  ·rcases bO.mp (I2.CT b z)with e|e
   ·show q1 e
   ·show q2 e
  ·rcases cV.mp hp with hp|hp
   ·show q5 p (uy _ hp)
   ·rcases hpl p hp with z|z
    ·show q5 p (fG _ z)
    ·rw[z];show Ne.symm (below b (hfs b hb)).2
 let loop:∀s₃:Shared,s₃={ s2 with heap:=h₁,toks:=s2.toks+([]:List (Str×Value)).length}->
   codeAny (model X.prog X.w) X.A (.compLoop (.ListComp elt [⟨tg,iter,ifs,0⟩] scope pos) 0 (.ref it) (.ref D) (compEnvC scope (vR X.env.cells scope.names []) C X.env)) (RR (.ref D) C) s₃:=by
  rintro s₃ rfl;show Qs (λn s'=>∃i H' ys bY k,bG X' Y (pG ix σ) H' s'/\tn i s'.heap/\(∀b∈fp,H' b=none)/\H' D=none/\s'^^^D=some { cls:=.type "list",data:=.seq (List.toArray bY) k}/\cZ ys bY/\W i n ys H') ?_ m0
   ⟨0,H2,[],[],0,YT B I2 f2 (by rw[hD];show hCle) (λb hb=>by rw[hD];show hfs b hb) Z Z old hns₁,T.keep _ _ _ st2 λb _ o e=>old b o e,λb hb=>(f2 b hb).1,I2.hok.fresh (by rw[hD];show aK _),hacc,.nil,w0⟩
  rintro n s' ⟨i,H',ys,bY,k,I',st',fr',hDn,hDo,rv,w'⟩;let hDX:∀v,({ cls:=.type "list",data:=.seq (List.toArray bY) k}:Obj).data≠.cell v:=λv z=>by
   let z':Data.seq (List.toArray bY) k=Data.cell v:=z;cases z'
  let a7J:∀{σ':St}{SN:Hp}{s'':Shared}{its':aw}{k':Nat},bG X' Y σ' SN s''->SN D=none->s''^^^D=some { cls:=.type "list",data:=.seq (List.toArray its') k'}->bG X' (Y++[(D,{ cls:=.type "list",data:=.seq (List.toArray its') k'})]) σ' SN s'':=λ{σ' SN s'' its' k'} Z97 hn ho =>
   Z97.Gb λp hp=>(cV.mp hp).elim (λz=>Z97.pin p (fG _ z)) λz=>by
    let e:p=(D,{ cls:=.type "list",data:=.seq (List.toArray its') k'}):=by simpa using z
    subst e;show⟨ho,hn,hDC,DL,λv z=>by
     let z':Data.seq (List.toArray its') k'=Data.cell v:=z;cases z'⟩
  let plD:∀{its':aw}{k':Nat},∀p∈Y++[(D,({ cls:=.type "list",data:=.seq (List.toArray its') k'}:Obj))],p∈Y\/p.1=D:=λ{its' k'} p hp=>(cV.mp hp).elim .inl λz=>by
   let e:p=(D,{ cls:=.type "list",data:=.seq (List.toArray its') k'}):=by simpa using z
   subst e;show .inr rfl
  let unD:∀{pl:aE}{σ':St}{SN:Hp}{s'':Shared},bG X' (Y++pl) σ' SN s''->bG X' Y σ' SN s'':=λZ97=>Z97.Gb λp hp=>Z97.pin p (fG _ (uy _ hp));let I'p:=a7J I' hDn hDo;rcases turn i n ys H' w' with⟨stop,hsz,fin⟩|⟨go,hsz,N,hN,step⟩
  ·show iB (T.done X' Z Z Z hc i _ s' (pG ix σ) H' X'.xe I'p (fpX fr' plD) st' stop) (λr s5 ⟨hr,I5⟩=>?_) λ_ _ z=>z;subst hr;let a7K:s5^^^D=some { cls:=.type "list",data:=.seq (List.toArray bY) k}:=(I5.pin (D,_) (fG _ (fG _ (bK.mpr Z)))).1;let sz0:X.s₀.heap.objs.size<=D:=by rw[<-hD];show I2.sz
   let Z97:bG X Y σ H' s5:=I2.call' (ch:=fp) I5.os I5.base I5.hok I5.bare λb hb=>by
    let⟨_,q1,_,q3,q4,q5⟩:=f2 b hb;show⟨q3,q1,q4,q5⟩
   let nL:X.env.locals<D:=by rw[<-hD];show I2.lt
   let J2:bG X Y σ (cU H' D (.lst ys)) s5:=bG.track Z97 hDn sz0 (iM nL) (λx c e=>bV (Vv x c e)) (λp hp=>bV (ą p hp)) ⟨hsz,bY,k,rv,a7K⟩;let⟨mC,hnC,_⟩:=I5.loc;let a3j:D<C:=Nat.lt_of_le_of_ne hCle hDC;show hRR D C s5 H' ys J2 hDn (fin D hDn) ⟨mC,hnC⟩ ?_ (iM (qN nL a3j)) (cG sz0 hCle) (λx c e=>bV (qN (Vv x c e) a3j)) λp hp=>bV (qN (ą p hp) a3j);rw[aR (Ne.symm hDC)];show I5.free
  ·show iB (T.item X' Z Z Z hc i _ s' (pG ix σ) H' X'.xe I'p (fpX fr' plD) st' go) (λr s5 ⟨u,hr,h5⟩=>?_) λ_ _ z=>z;subst hr;show iB h5 (λ_ s6 ⟨x,H6,I6,r6,y6,st6,fr6⟩=>?_) λ_ _ z=>z;let I6':=I6.pinned (fpX fr6 plD) (T.obj _ _ st6);show iB (hg C s2 H2 fp xe _ s6 (pG ix σ) H6 x u _ I6' r6 (step x H6 y6)) (λ_ s7 ⟨Xb,H7,I7,q7⟩=>?_) λ_ _ z=>z;let after:∀{σ8:St}{H8:Hp}{s8:Shared},bG X' ((Y++[(D,{ cls:=.type "list",data:=.seq (List.toArray bY) k})])++su fp s6.heap) σ8 H8 s8->
     bG X' Y (pG ix σ) H8 s8/\tn (i+1) s8.heap/\(∀b∈fp,H8 b=none)/\H8 D=none/\s8^^^D=some { cls:=.type "list",data:=.seq (List.toArray bY) k}:=λ{σ8 H8 s8} I8=>by
    let pD:=I8.pin (D,{ cls:=.type "list",data:=.seq (List.toArray bY) k}) (fG _ (uy _ (fG _ (bK.mpr Z))));let fpP:∀b∈fp,∀o,s6^^^b=some o->s8^^^b=some o/\H8 b=none:=λb hb o e=>by
     let z:=I8.pin (b,o) (fG _ (fG _ (pC hb e)));show⟨z.1,z.2.1⟩
    show⟨⟨I8.ok,I8.os,I8.bare,I8.base,?_,I8.cell,I8.free,I8.rY,λp hp=>?_,I8.hok,?_⟩,T.keep _ _ _ st6 λb hb o e=>(fpP b hb o e).1,λb hb=>?_,pD.2.1,pD.1⟩
    ·let⟨m8,hn8,_⟩:=I8.loc;show⟨m8,hn8,λi x v h1 h2 h3=>?_⟩;let⟨u,c,r,hc1,hc2,⟨oc,z1,z2⟩,hk'⟩:=KH B I2 h1 h2;let⟨sl,e8⟩:=I8.base.any z1 (I2.rY x c hc2) λz=>(f2 c z).2.2.2.2.1 x c hc2 rfl;show⟨u,r,.inr ⟨hk',c,hc1,_,e8,z2⟩⟩
    ·rcases cV.mp hp with hp|hp
     ·show I8.pin p (uy _ hp)
     ·show I8.pin p (fG _ (uy _ (uy _ hp)))
    ·show(pG ix σ).length=N'.length;unfold pG;rw[aH];show B.len
    ·let⟨o,e,_⟩:=T.obj _ _ st6 b hb;show(fpP b hb o e).2
   show iB (ht C s2 H2 fp xe _ s7 Xb H7 _ I7 q7) (λb s8 ⟨H8,I8,q8⟩=>?_) λ_ _ z=>z;cases b with
   |false =>
    rw[aA cN]at q8 ⊢;let⟨m',hm,w8⟩:=hN _ _ q8;let⟨Z97,tn8,f8,d8,o8⟩:=after I8;show⟨m',hm,i+1,H8,ys,bY,k,Z97,tn8,f8,d8,o8,rv,w8⟩
   |true =>
    rw[aB rfl]at q8 ⊢;show iB (he C s2 H2 fp xe _ s8 Xb H8 _ I8 q8) (λv s9 ⟨y,H9,I9,r9,q9⟩=>?_) λ_ _ z=>z;let⟨Z97,tn9,f9,d9,o9⟩:=after I9;let⟨m',hm,w9⟩:=hN _ _ q9;show append_at (hsz:=by rw[iJ,<-rv.length];show hsz) o9 λh10 a5r a5s=>?_;show⟨m',hm,i+1,H9,ys++[y],bY++[v],k+1,?_,T.keep _ _ _ tn9 λb hb o e=>a5r.extBut b o (λz=>?_) e,f9,d9,by rw[List.push_toArray]at a5s;show a5s,rv.append (.cons r9 .nil),w9⟩
    ·show Z97.turned (t':=s9.toks) (it:=D) (λb o hb e=>a5r.extBut b o hb e) d9 hDC (.inr (by show s2⁻¹<=D;rw[hD];show aK _)) (λx c e=>bV (Vv x c (clB x c e))) λp hp=>bV (ą p hp)
    ·show(below b (hfs b hb)).2 z
 show codeAny_compStart_list (loop _ Z) (T.self X.A 0 _ _ _ (T.keep _ _ _ st2 λb _ o e=>old b o e) (loop _ Z))
end
noncomputable def Am(outer:Scope)(N N':ag)(ix:List (Option Nat))(scope:Scope):Bool :=
 (scope.kind==.function)&&(scope.names.all λy=>y.2 != .cell)&&(scope.names.all λy=>y.2 != .local||scope.names.lookup y.1==some .local) &&
 (scope.names.all λy=>y.2 != .free||outer.names.lookup y.1==some .cell||outer.names.lookup y.1==some .free)&&(ix.length==N'.length) &&
 (List.range ix.length).all λi=>match ix[i]? with
  |some (some j)=>(match N'[i]? with|some x=>N[j]?==some x&&scope.names.lookup x==some .free|none=>false)
  |_=>true
def Ć(h:Am X.env.scope X.N N' ix scope=true):Xl X N' ix scope:=by
 unfold Am at h;simp only[Bool.and_eq_true]at h;let⟨⟨⟨⟨⟨h1,h2⟩,h3⟩,h4⟩,h5⟩,h6⟩:=h;show⟨?_,λy hy=>?_,λy hy hl=>?_,λy hy hl=>?_,(),λi j e=>?_⟩
 ·grind
 ·grind
 ·grind
 ·let:=iw.mp h4 y hy;rw[hl]at this;simp at this;show this
 ·let hi:i<ix.length:=(eG.mp e).1;let:=iw.mp h6 i (gA.mpr hi);rw[e]at this;simp only at this;cases q:N'[i]? with
  |none=>rw[q]at this;simp at this
  |some x =>
   rw[q]at this;simp at this;show⟨x,Z,this.1,this.2⟩
section
variable{wi:TI}
def lU(N':ag)(ix:List (Option Nat))(hB:Am X.env.scope X.N N' ix scope=true)(hc:X.calm=true)(hi:PI X tg iter wi)
  (hg:∀C s H fp xe,PG (sI X N' scope C s H fp xe) tg g) (ht:∀C s H fp xe,PTs (sI X N' scope C s H fp xe) ifs tt) (he:∀C s H fp xe,PE (sI X N' scope C s H fp xe) elt te)
  (hs:autoParam (∀x,foldedSetIterable iter X.env x=pure x) Q0_._auto_1):PE X (.ListComp elt [⟨tg,iter,ifs,0⟩] scope pos) (tLC ix wi g tt te):=by
 intro Y s σ H Q I h;let B:=Ć hB;rw[eval_ListComp];show á (use:=none) Z hs (HD λy hy hf=>I.ok.has y.1 (B.free y hy hf)) B.kind B.locs (jC (hi Y s σ H _ I h) λv s1 h1=>jC h1 λitv s2 h2=>?_);let⟨it,fp,tn,Z97,H2,e,I2,T,st2,f2,q⟩:=h2;subst e;show Ą B hc hg ht he I2 T st2 f2 q ?_;intro D C s' H' ys J2 hDn hq ⟨m,hn⟩ hC1 hC2 hC3 hC4 hC5;show⟨m,hn,λh' hs'=>⟨.ref D,_,J2.turned (t':=s'.toks) (it:=C) (λb o hb e=>hs'.extBut b o hb e) hC1 hC2 (.inr hC3) hC4 hC5,Z,hq⟩⟩
def sJ{i:Nat}{pos' spos:Pos}(N':ag)(ix:List (Option Nat))(hN:X.N.Nodup)(hi':X.N[i]?=some x)(hx:X.env.scope.names.lookup x=some .local)
  (hB:Am X.env.scope X.N N' ix scope=true) (hc:X.calm=true) (hi:PI X tg iter wi)
  (hg:∀C s H fp xe,PG (sI X N' scope C s H fp xe) tg g) (ht:∀C s H fp xe,PTs (sI X N' scope C s H fp xe) ifs tt) (he:∀C s H fp xe,PE (sI X N' scope C s H fp xe) elt te)
  (hsw:swapsWith (.ListComp elt [⟨tg,iter,ifs,0⟩] scope pos) (some (.Name x pos')) spos.line X.env=pure true)
  (hs:autoParam (∀x,foldedSetIterable iter X.env x=pure x) Q0_._auto_1):PS X (.Assign [.Name x pos'] (.ListComp elt [⟨tg,iter,ifs,0⟩] scope pos) spos) (a2Q (tLC ix wi g tt te) (yJ i)):=by
 intro Y s σ H D0 I h;let B:=Ć hB;rw[exec_Assign_Name_used _ _ _ _ hsw];show M (Nx (M ?_));show wpAny _ X.A (do let _ <-comprehension (.ListComp elt [⟨tg,iter,ifs,0⟩] scope pos) scope X.env _ (newList []) false (eval iter X.env) (some (assign (.Name x pos') X.env))) _ _ s;show M (iB (á (use:=some (assign (.Name x pos') X.env)) (Q:=λ_ s'=>SP X Y D0 .next s') Z hs (HD λy hy hf=>I.ok.has y.1 (B.free y hy hf)) B.kind B.locs
  (jC (hi Y s σ H _ I h) λv s1 h1=>jC h1 λitv s2 h2=>?_)) (λ_ s' hq=>ao (ao hq)) λ_ _ e=>e)
 let⟨it,fp,tn,Z97,H2,e,I2,T,st2,f2,q⟩:=h2;subst e;show Ą (Q:=λx H1=>yJ i x σ H1 D0.nx) B hc hg ht he I2 T st2 f2 q ?_;intro D C s' H' ys J2 hDn hq ⟨m,hn⟩ hC1 hC2 hC3 hC4 hC5;show wpAny _ X.A (assign (.Name x pos') X.env (.ref D)) _ _ _;show wpAny_assign_Name (Kr (v:=.ref D) J2 hN hi' (.inl hx) Z (λs'' I'' hsb=>?_) (.inr hx));let⟨a,hsb,ha⟩:=hsb;let aC:C≠a:=by
  rcases ha with rfl|ha
  ·show hC2
  ·show λz=>hC4 x a ha z.symm
 show⟨m,hn.sameBut hsb aC,λh'' hs''=>⟨_,_,I''.turned (t':=s''.toks) (it:=C) (λb o hb e=>hs''.extBut b o hb e) hC1 hC2 (.inr hC3) hC4 hC5,hq⟩⟩
end
section
variable{K:aJ}{xs:af}
def tV(Pv:Nat->af->Hp->Prop)(h0:Pv 0 [] H1)(hl:∀i ys H,i<=xs.length->Pv i ys H->bD K H a xs/\ys.length<=sizeLine)
  (hs:∀i x ys H,xs[i]?=some x->Pv i ys H->g x (pG ix σ) H λσ2 H2=>tt σ2 H2 λb H3=>if b=true then te σ2 H3 λv H4=>Pv (i+1) (ys++[v]) H4 else Pv (i+1) ys H3)
  (hd:∀ys H,Pv xs.length ys H->∀p,H p=none->Q (.ref p) (cU H p (.lst ys))):j7 ix g tt te σ H1 Q (Ê K a):=by
 show⟨λi m ys H=>m=xs.length-i/\i<=xs.length/\Pv i ys H,⟨xs.length,by simp,dF _,h0⟩,?_⟩;rintro i m ys H ⟨rfl,hi,p⟩;let⟨q,z⟩:=hl i ys H hi p;by_cases hlt:i<xs.length
 ·show .inr ⟨⟨xs,xs[i],q,by simp[hlt]⟩,z,Pv (i+1),λys' H' p'=>⟨xs.length-(i+1),(),Z,hlt,p'⟩,λx H' y=>?_⟩;let⟨e,y⟩:=y;subst e;show hs i x ys _ (y xs q) p
 ·let e:i=xs.length:=()
  subst e;show .inl ⟨⟨xs,q,aK _⟩,z,hd ys H p⟩
def u6{lo:Int}(Pv:Nat->af->Hp->Prop)(h0:Pv 0 [] H1)(hl:∀i ys H,i<=n->Pv i ys H->ys.length<=sizeLine)
  (hs:∀i ys H,i<n->Pv i ys H->g (.int (lo+i)) (pG ix σ) H λσ2 H2=>tt σ2 H2 λb H3=>if b=true then te σ2 H3 λv H4=>Pv (i+1) (ys++[v]) H4 else Pv (i+1) ys H3)
  (hd:∀ys H,Pv n ys H->∀p,H p=none->Q (.ref p) (cU H p (.lst ys))):j7 ix g tt te σ H1 Q (SJ lo n):=by
 show⟨λi m ys H=>m=n-i/\i<=n/\Pv i ys H,⟨n,by simp,dF _,h0⟩,?_⟩;rintro i m ys H ⟨rfl,hi,p⟩;let z:=hl i ys H hi p;by_cases hlt:i<n
 ·show .inr ⟨hlt,z,Pv (i+1),λys' H' p'=>⟨n-(i+1),(),Z,hlt,p'⟩,λx H' y=>?_⟩;let⟨e,y⟩:=y;subst e y;show hs i ys _ hlt p
 ·let e:i=n:=()
  subst e;show .inl ⟨aK _,z,hd ys H p⟩
end
def a5t{K:aJ}{xs:af}(f:V->Option V)(hx:bD K H1 a xs)(hz:xs.length<=sizeLine)
  (hs:∀x H (N:Option V->Hp->Prop),x∈xs->aL H1 H->(∀H',aL H1 H'->N (f x) H')->g x (pG ix σ) H λσ2 H2=>tt σ2 H2 λb H3=>if b=true then te σ2 H3 λv H4=>N (some v) H4 else N none H3)
  (hd:∀H p,aL H1 H->H p=none->Q (.ref p) (cU H p (.lst (xs.filterMap f)))):j7 ix g tt te σ H1 Q (Ê K a):=by
 show tV (K:=K) (a:=a) (xs:=xs) (λi ys H=>ys=(xs.take i).filterMap f/\aL H1 H) ⟨Z,aL.refl _⟩ (λi ys H hi ⟨e,s⟩=>⟨s.seq hx,?_⟩) (λi x ys H hi ⟨e,s⟩=>?_) λys H ⟨e,s⟩ p hp=>?_
 ·subst e;show cG (Tn _ _) (cG ?_ hz);rw[dY];show Ur _ _
 ·let hm:x∈xs:=gF hi;let⟨hil,hix⟩:=eG.mp hi;let et:xs.take (i+1)=xs.take i++[x]:=by rw[yO hil,hix]
  show hs x H (λo H'=>match o with|some v=>(ys++[v]=(xs.take (i+1)).filterMap f/\aL H1 H')|none=>(ys=(xs.take (i+1)).filterMap f/\aL H1 H')) hm s λH' s'=>?_;cases ef:f x with
  |some v =>
   show⟨?_,s'⟩;rw[e,et,wQ];simp[ef]
  |none =>
   show⟨?_,s'⟩;rw[e,et,wQ];simp[ef]
 ·subst e;rw[gw];show hd H p s hp
def a3k{lo:Int}(f:Nat->Option V)(hz:n<=sizeLine)
  (hs:∀i H (N:Option V->Hp->Prop),i<n->aL H1 H->(∀H',aL H1 H'->N (f i) H')->g (.int (lo+i)) (pG ix σ) H λσ2 H2=>tt σ2 H2 λb H3=>if b=true then te σ2 H3 λv H4=>N (some v) H4 else N none H3)
  (hd:∀H p,aL H1 H->H p=none->Q (.ref p) (cU H p (.lst ((List.range n).filterMap f)))):j7 ix g tt te σ H1 Q (SJ lo n):=by
 show u6 (λi ys H=>ys=(List.range i).filterMap f/\aL H1 H) ⟨Z,aL.refl _⟩ (λi ys H hi ⟨e,s⟩=>?_) (λi ys H hi ⟨e,s⟩=>?_) λys H ⟨e,s⟩ p hp=>?_
 ·grind
 ·show hs i H (λo H'=>match o with|some v=>(ys++[v]=(List.range (i+1)).filterMap f/\aL H1 H')|none=>(ys=(List.range (i+1)).filterMap f/\aL H1 H')) hi s λH' s'=>?_;cases ef:f i with
  |some v =>
   show⟨?_,s'⟩;rw[e,rU,wQ];simp[ef]
  |none =>
   show⟨?_,s'⟩;rw[e,rU,wQ];simp[ef]
 ·subst e;show hd H p s hp
mutual
inductive JX(K:aJ) (H:Hp):V->PyData->Prop
 |non:JX K H .non .none
 |bl (b:Bool):JX K H (.bl b) (.bool b)
 |int (i:Int):JX K H (.int i) (.int i)
 |str (x:Str):JX K H (.str x) (.str x)
 |lst {a:Addr}{xs:af}{ds:List PyData}:bD K H a xs->Ao K H xs ds->JX K H (.ref a) (.list ds)
 |tup {a:Addr}{xs:af}{ds:List PyData}:cJ K H a xs->Ao K H xs ds->JX K H (.ref a) (.tuple ds)
inductive Ao(K:aJ) (H:Hp):af->List PyData->Prop
 |nil:Ao K H [] []
 |cons {x:V}{xs:af}{d:PyData}{ds:List PyData}:JX K H x d->Ao K H xs ds->Ao K H (x::xs) (d::ds)
end
def aL.vU{K:aJ}{H:Hp}{xs:af}(e:aL H H')(h:cJ K H a xs):cJ K H' a xs:=by
 rcases h with(h|⟨o,h⟩)|h
 ·show .inl (.inl (e _ _ h))
 ·show .inl (.inr ⟨o,e _ _ h⟩)
 ·show .inr h
def JX.reads{H:Hp}{s:Shared}(I:bG X Y σ H s){v:V}{d:PyData}{u:Value}(h:JX X.K H v d)(r:cY v u):∃as,Reads s.heap u d as:=by
 show JX.rec (motive_1:=λv d _=>∀u,cY v u->∃as,Reads s.heap u d as) (motive_2:=λxs ds _=>∀us,cZ xs us->∃as,ReadsAll s.heap us ds as) (λu r=>?_) (λb u r=>?_) (λi u r=>?_) (λx u r=>?_) (λh q ih u r=>?_) (λh q ih u r=>?_) (λus q=>?_) (λh q ih jh us z=>?_) h u r
 ·cases r;show⟨_,.none⟩
 ·cases r;show⟨_,.bool b⟩
 ·let⟨t,rfl⟩:=r;show⟨_,.int i t⟩
 ·let⟨t,rfl⟩:=r;show⟨_,.str x t⟩
 ·cases r;let⟨bY,rv,⟨o,n,e,c,_,d⟩,_⟩:=I.list h;let⟨as,ra⟩:=ih _ rv;show⟨_,.list e c d (by simpa using ra)⟩
 ·cases r;let⟨bY,rv,⟨o,e,c,n,d⟩,_⟩:=I.tuple h;let⟨as,ra⟩:=ih _ rv;show⟨_,.tuple e c d (by simpa using ra)⟩
 ·cases q;show⟨_,.nil⟩
 ·cases z with
  |cons r t =>
  let⟨as,ra⟩:=ih _ r;let⟨bs,rb⟩:=jh _ t;show⟨_,.cons ra rb⟩
theorem Ao.ints{K:aJ}{H:Hp}:∀ns:ae,Ao K H (ns.map V.int) (ns.map PyData.int)
 | []=>.nil
 |n::ns=>.cons (.int n) (Ao.ints ns)
inductive a0u(K:aJ)(neg:Bool)(x:V)(y:V)(H:Hp)(Q:VK):Prop
 |mk (d d':_) (_:JX K H x d) (_:JX K H y d') (_:SeqAt.shaped d=true) (_:SeqAt.shaped d'=true) (_:Q (.bl (if neg then !PyData.eqv d d' else PyData.eqv d d')) H)
def a3l(hu:X.A.units+64<cLine):qY X (compareOp .Eq) (a0u X.K false):=by
 intro Y s σ H x y v u Q I rx ry h;let⟨d,d',h1,h2,s1,s2,q⟩:=h;let⟨as,ra⟩:=h1.reads I rx;let⟨bs,rb⟩:=h2.reads I ry;show eq_dataH ra rb s1 s2 hu ⟨.bl _,H,I,Z,q⟩
def a3m(hu:X.A.units+64<cLine):qY X (compareOp .NotEq) (a0u X.K true):=by
 intro Y s σ H x y v u Q I rx ry h;let⟨d,d',h1,h2,s1,s2,q⟩:=h;let⟨as,ra⟩:=h1.reads I rx;let⟨bs,rb⟩:=h2.reads I ry;show ne_dataH ra rb s1 s2 hu ⟨.bl _,H,I,Z,q⟩
inductive Vw(K:aJ)(neg:Bool)(x:V)(y:V)(H:Hp)(Q:VK):Prop
 |mk (d ds:_) (_:JX K H x d) (_:JX K H y (.list ds)) (_:SeqAt.shaped d=true) (_:SeqAt.shaped (.list ds)=true) (_:Q (.bl (if neg then !ds.any (λe=>PyData.eqv e d)else ds.any (λe=>PyData.eqv e d))) H)
def a3n(hu:X.A.units+65<cLine):qY X (compareOp .In) (Vw X.K false):=by
 intro Y s σ H x y v u Q I rx ry h;let⟨d,ds,h1,h2,s1,s2,q⟩:=h;let⟨as,ra⟩:=h1.reads I rx;let⟨bs,rb⟩:=h2.reads I ry;show SeqAt.in_list_reads rb ra (GJ s2) (GJ s1) (room_in_shaped s1 hu) ⟨.bl _,H,I,Z,q⟩
def YW(hu:X.A.units+65<cLine):qY X (compareOp .NotIn) (Vw X.K true):=by
 intro Y s σ H x y v u Q I rx ry h;let⟨d,ds,h1,h2,s1,s2,q⟩:=h;let⟨as,ra⟩:=h1.reads I rx;let⟨bs,rb⟩:=h2.reads I ry;show SeqAt.notIn_list_reads rb ra (GJ s2) (GJ s1) (room_in_shaped s1 hu) ⟨.bl _,H,I,Z,q⟩
noncomputable def a3o:V->Option Value
 |.ty n=>some (.type n)
 |.ref a=>⇑a
 |_=>none
def ć{c:V}{cv u:Value}(h:a3o c=some cv)(r:cY c u):u=cv:=by
 cases c with
 |ty n=>cases h;show r
 |ref a=>cases h;show r
 |_=>cases h
def Qt:jy X (.builtin "isinstance") (λxs H Q=>∃x c cv t b,xs=[x,c]/\a3o c=some cv/\sE X.K H x t/\kitOne X.K t cv=some b/\Q (.bl b) H):=by
 intro Y s σ H xs us Q I r h;let⟨x,c,cv,t,b,rfl,hc,ty,hk,q⟩:=h;let⟨u1,u2,rfl,r1,r2⟩:=vals2 r;obtain rfl:=ć hc r2;show YH I r1 ty hk λtk=>⟨.bl b,H,I.tok tk,Z,q⟩
abbrev Cx.in1(X:Cx):Cx:={ X with A:=X.A.in1}
def bG.in1{Y:aE}{σ:St}{H:Hp}{s:Shared}(I:bG X Y σ H s):bG X.in1 Y σ H s :=
 ⟨⟨I.ok.mod,I.ok.kind,I.ok.glob,I.ok.blt,I.ok.above,I.ok.inj,I.ok.has,I.ok.cab,I.ok.hd,I.ok.frames,I.ok.stk,I.ok.exf,I.ok.bs,I.ok.χ,I.ok.Va,I.ok.Yz,I.ok.Aa,I.ok.frf⟩,I.os,I.bare,I.base,I.loc,I.cell,I.free,I.rY,I.pin,I.hok,I.len⟩
def bG.of_in1{H:Hp}{s:Shared}(I:bG X.in1 Y σ H s):bG X Y σ H s :=
 ⟨⟨I.ok.mod,I.ok.kind,I.ok.glob,I.ok.blt,I.ok.above,I.ok.inj,I.ok.has,I.ok.cab,I.ok.hd,I.ok.frames,I.ok.stk,I.ok.exf,I.ok.bs,I.ok.χ,I.ok.Va,I.ok.Yz,I.ok.Aa,I.ok.frf⟩,I.os,I.bare,I.base,I.loc,I.cell,I.free,I.rY,I.pin,I.hok,I.len⟩
def jf(K:aJ)(H:Hp)(xs:af)(bs:List Bool):Prop:=Paired (λx b=>ó K x H b) xs bs
theorem jf.get{K:aJ}{H:Hp}:∀{xs:af}{bs:List Bool}{i:Nat}{x:V},jf K H xs bs->xs[i]?=some x->∃b,bs[i]?=some b/\ó K x H b
 |_,_,_,_,.nil,h=>by simp at h
 |_,_,0,_,.cons h r,e=>by
  simp at e;subst e
  show⟨_,Z,h⟩
 |_,_,i+1,_,.cons h r,e=>by
  let⟨d,e1,q⟩:=jf.get (i:=i) r (by simpa using e)
  show⟨d,by simpa using e1,q⟩
theorem jf.bls{K:aJ}{H:Hp}:∀bs:List Bool,jf K H (bs.map V.bl) bs
 | []=>.nil
 |b::bs=>.cons Z (jf.bls bs)
def Ĉ{H:Hp}{p:Addr}{ys:af}{bs:List Bool}(hc:X.calm=true)(hq:bD X.K H p ys)(ht:jf X.K H ys bs)(f:CV X Y H it) :
  ∀(k i:Nat) (s:Shared),ys.length-i=k->bG X Y σ H s->s.heap.IsListIter it p i->(∀s',bG X Y σ H s'->R (.ok (.ret (.bool ((bs.drop i).all id)))) s')->
  codeAny (model X.prog X.w) X.A (.builtin "all.loop" ⟨[.ref it],[]⟩) R s:=by
 let⟨f0,f1,f2,f3,f4,f5⟩:=f;intro k
 induction k with
 |zero =>
  intro i s hk I st hR;let⟨bY,rv,pl,hz⟩:=I.list hq;let hl:=rv.length;show lW F.entry_all_loop ?_;rw[mO M9 _];show wpAny _ X.A.in1 (pyNext (.ref it) >>= _) _ _ s;show M (wpAny_pyNext_list_end (I.ok.hd hc) st pl.isList (by simp;omega) λh' eb=>?_);show M (j5 (ao ?_));let q:=hR _ (I.turned (t':=s.toks) (λb o hb e=>eb b o hb e) f0 f1 f3 f4 f5);let hlb:bs.length=ys.length:=(aW ht).symm;rw[Mu ()]at q;show q
 |succ k ih =>
  intro i s hk I st hR;let⟨bY,rv,pl,hz⟩:=I.list hq;let hl:=rv.length;let hlt:i<ys.length:=()
  let hx:ys[i]?=some ys[i]:=by simp[hlt]
  let⟨u,hu,ru⟩:=rv.get hx;let⟨b,hb,tb⟩:=ht.get hx;show lW F.entry_all_loop ?_;rw[mO M9 _];show wpAny _ X.A.in1 (pyNext (.ref it) >>= _) _ _ s;show M (Tr st pl.isList (x:=u) () λh' st' sb=>?_);let I1:bG X Y σ H (s•h'):=I.turned (t':=s.toks) (λb o hb e=>(sb.2 b hb).trans e) f0 f1 f3 f4 f5;let hdb:bs.drop i=b::bs.drop (i+1):=by
   let⟨hlb,eb⟩:=eG.mp hb;rw[wN hlb,eb]
  rw[hdb]at hR;let I1p:bG X (Y++su [it] h') σ H (s•h'):=I1.pinned (fp:=[it]) (λc hcc=>by rw[bK.mp hcc];show⟨f0,f1,f2,f3,f4,f5⟩) λc hcc=>by
   rw[bK.mp hcc];let⟨o,e,c',d⟩:=st';grind
  show M (eV (iB (Od (X:=X.in1.nox) _ _ σ H ys[i] u (λc H'=>c=b/\H'=H) ((bG.in1 I1p).wish _) ru ⟨b,tb,Z,Z⟩) (λc s2 ⟨H',I2,e1,e2⟩=>?_) λ_ _ z=>False.elim z));rw[e2]at I2;subst e1;let I2':bG X (Y++su [it] h') σ H s2:=bG.of_in1 I2.rZ;let Qu:bG X Y σ H s2:=I2'.uW;let st2:s2.heap.IsListIter it p (i+1):=st'.at λo e=>(I2'.pin (it,o) (fG _ (fG _ (pC (bK.mpr Z) e)))).1;show M (zj ?_);cases c with
  |true =>
   simp only[if_true];show ao ⟨nJ M9 _,ih (i+1) s2 () Qu st2 λs' I'=>by simpa using hR s' I'⟩
  |false =>
   simp only[Bool.false_eq_true,if_false];show M (j5 (ao ?_));simpa using hR s2 Qu
def YX(hc:X.calm=true):jy X (.builtin "all") (λxs H Q=>∃p ys bs,xs=[.ref p]/\bD X.K H p ys/\jf X.K H ys bs/\Q (.bl (bs.all id)) H):=by
 intro Y s σ H xs us Q I r h;let⟨p,ys,bs,rfl,hq,ht,q⟩:=h;let⟨u,rfl,rx⟩:=vals1 r;cases rx;show Ui F.kind_all F.plain_all F.entry_all (F.args_all1 _) ?_;unfold Builtin.«all»;show M (m:=oneArg "all" _) (ao ?_);let⟨bY,rv,pl,hz⟩:=I.list hq;show M (vG pl.isList ?_);let I1:bG X Y σ H (s•s.heap.push { cls:=.type "list_iterator",data:=.fields #[.ref p,.int 0 0]}):=I.kept (t':=s.toks) λb o e=>bM _ e;show ao ⟨nJ M9 _,Ĉ hc hq ht (I.Fx (aK _) (I.hok.fresh (aK _))) ys.length 0 _ (wY _) I1 ⟨_,cB _ Z,Z,Z⟩ λs' I'=>?_⟩;show⟨.bl _,H,I',Z,by simpa using q⟩
def ĉ{H:Hp}{p:Addr}{ys:af}{bs:List Bool}(hc:X.calm=true)(hq:bD X.K H p ys)(ht:jf X.K H ys bs)(f:CV X Y H it) :
  ∀(k i:Nat) (s:Shared),ys.length-i=k->bG X Y σ H s->s.heap.IsListIter it p i->(∀s',bG X Y σ H s'->R (.ok (.ret (.bool ((bs.drop i).any id)))) s')->
  codeAny (model X.prog X.w) X.A (.builtin "any.loop" ⟨[.ref it],[]⟩) R s:=by
 let⟨f0,f1,f2,f3,f4,f5⟩:=f;intro k
 induction k with
 |zero =>
  intro i s hk I st hR;let⟨bY,rv,pl,hz⟩:=I.list hq;let hl:=rv.length;show lW Nb ?_;rw[mO wV _];show wpAny _ X.A.in1 (pyNext (.ref it) >>= _) _ _ s;show M (wpAny_pyNext_list_end (I.ok.hd hc) st pl.isList (by simp;omega) λh' eb=>?_);show M (j5 (ao ?_));let q:=hR _ (I.turned (t':=s.toks) (λb o hb e=>eb b o hb e) f0 f1 f3 f4 f5);let hlb:bs.length=ys.length:=(aW ht).symm;rw[Mu ()]at q;show q
 |succ k ih =>
  intro i s hk I st hR;let⟨bY,rv,pl,hz⟩:=I.list hq;let hl:=rv.length;let hlt:i<ys.length:=()
  let hx:ys[i]?=some ys[i]:=by simp[hlt]
  let⟨u,hu,ru⟩:=rv.get hx;let⟨b,hb,tb⟩:=ht.get hx;show lW Nb ?_;rw[mO wV _];show wpAny _ X.A.in1 (pyNext (.ref it) >>= _) _ _ s;show M (Tr st pl.isList (x:=u) () λh' st' sb=>?_);let I1:bG X Y σ H (s•h'):=I.turned (t':=s.toks) (λb o hb e=>(sb.2 b hb).trans e) f0 f1 f3 f4 f5;let hdb:bs.drop i=b::bs.drop (i+1):=by
   let⟨hlb,eb⟩:=eG.mp hb;rw[wN hlb,eb]
  rw[hdb]at hR;let I1p:bG X (Y++su [it] h') σ H (s•h'):=I1.pinned (fp:=[it]) (λc hcc=>by rw[bK.mp hcc];show⟨f0,f1,f2,f3,f4,f5⟩) λc hcc=>by
   rw[bK.mp hcc];let⟨o,e,c',d⟩:=st';grind
  show M (eV (iB (Od (X:=X.in1.nox) _ _ σ H ys[i] u (λc H'=>c=b/\H'=H) ((bG.in1 I1p).wish _) ru ⟨b,tb,Z,Z⟩) (λc s2 ⟨H',I2,e1,e2⟩=>?_) λ_ _ z=>False.elim z));rw[e2]at I2;subst e1;let I2':bG X (Y++su [it] h') σ H s2:=bG.of_in1 I2.rZ;let Qu:bG X Y σ H s2:=I2'.uW;let st2:s2.heap.IsListIter it p (i+1):=st'.at λo e=>(I2'.pin (it,o) (fG _ (fG _ (pC (bK.mpr Z) e)))).1;show M (zj ?_);cases c with
  |false =>
   simp only[Bool.false_eq_true,if_false];show ao ⟨nJ wV _,ih (i+1) s2 () Qu st2 λs' I'=>by simpa using hR s' I'⟩
  |true =>
   simp only[if_true];show M (j5 (ao ?_));simpa using hR s2 Qu
def YZ(hc:X.calm=true):jy X (.builtin "any") (λxs H Q=>∃p ys bs,xs=[.ref p]/\bD X.K H p ys/\jf X.K H ys bs/\Q (.bl (bs.any id)) H):=by
 intro Y s σ H xs us Q I r h;let⟨p,ys,bs,rfl,hq,ht,q⟩:=h;let⟨u,rfl,rx⟩:=vals1 r;cases rx;show Ui F.kind_any F.plain_any F.entry_any (F.args_any1 _) ?_;unfold Builtin.«any»;show M (m:=oneArg "any" _) (ao ?_);let⟨bY,rv,pl,hz⟩:=I.list hq;show M (vG pl.isList ?_);let I1:bG X Y σ H (s•s.heap.push { cls:=.type "list_iterator",data:=.fields #[.ref p,.int 0 0]}):=I.kept (t':=s.toks) λb o e=>bM _ e;show ao ⟨nJ wV _,ĉ hc hq ht (I.Fx (aK _) (I.hok.fresh (aK _))) ys.length 0 _ (wY _) I1 ⟨_,cB _ Z,Z,Z⟩ λs' I'=>?_⟩;show⟨.bl _,H,I',Z,by simpa using q⟩
structure Dn(K:aJ)(mg:Str->Option Value)(x:Str)(st:Stmt)(ps:ag) where
 f:Addr
 fd:FuncData
 F:Fun K x x st f fd
 b:Binds K fd ps []
 m:mg x=⇑f
 bd:∀(s:Shared) (us:aw),us.length=ps.length->BindsTo s fd ⟨us,[]⟩ (ps.zip us)
structure Bl(mg:Str->Option Value):Prop where
 get:∀x:Str,x∈(["len","range","list","isinstance","int","bool","str","all","any","sorted","set","min","max","tuple","enumerate","dict","ValueError"]:ag)->mg x=none
def Bl.len{mg:Str->Option Value}(B:Bl mg):mg "len" = none:=B.get _ ()
def Bl.range{mg:Str->Option Value}(B:Bl mg):mg "range" = none:=B.get _ ()
def Bl.list{mg:Str->Option Value}(B:Bl mg):mg "list" = none:=B.get _ ()
def Bl.isinstance{mg:Str->Option Value}(B:Bl mg):mg "isinstance" = none:=B.get _ ()
def Bl.int{mg:Str->Option Value}(B:Bl mg):mg "int" = none:=B.get _ ()
def Bl.bool{mg:Str->Option Value}(B:Bl mg):mg "bool" = none:=B.get _ ()
def Bl.all{mg:Str->Option Value}(B:Bl mg):mg "all" = none:=B.get _ ()
def Bl.any{mg:Str->Option Value}(B:Bl mg):mg "any" = none:=B.get _ ()
def Bl.sorted{mg:Str->Option Value}(B:Bl mg):mg "sorted" = none:=B.get _ ()
def Bl.set{mg:Str->Option Value}(B:Bl mg):mg "set" = none:=B.get _ ()
def Bl.min{mg:Str->Option Value}(B:Bl mg):mg "min" = none:=B.get _ ()
def Bl.max{mg:Str->Option Value}(B:Bl mg):mg "max" = none:=B.get _ ()
def Bl.tuple{mg:Str->Option Value}(B:Bl mg):mg "tuple" = none:=B.get _ ()
def Bl.enumerate{mg:Str->Option Value}(B:Bl mg):mg "enumerate" = none:=B.get _ ()
def Bl.dict{mg:Str->Option Value}(B:Bl mg):mg "dict" = none:=B.get _ ()
def Em{K:aJ}:kitOne K (.type "int") (.type "int")=some true:=by rfl
def Aq{K:aJ}:kitOne K (.type "int") (.type "bool")=some false:=by rfl
def Qv{K:aJ}:kitOne K (.type "NoneType") (.type "int")=some false:=by rfl
def Om{K:aJ}:kitOne K (.type "NoneType") (.type "bool")=some false:=by rfl
section
variable{K:aJ}
def bf(e:X.K=K):IxR X (a0o K):=by subst e;show a0q
def aO(e:X.K=K):IxR X (a0p K):=by subst e;show a3c
def a0v(e:X.K=K)(hu:X.A.units+64<cLine):qY X (compareOp .Eq) (a0u K false):=by subst e;show a3l hu
def Xm(e:X.K=K)(hu:X.A.units+64<cLine):qY X (compareOp .NotEq) (a0u K true):=by subst e;show a3m hu
def yd(e:X.K=K)(hu:X.A.units+65<cLine):qY X (compareOp .In) (Vw K false):=by subst e;show a3n hu
def iC(e:X.K=K)(hu:X.A.units+65<cLine):qY X (compareOp .NotIn) (Vw K true):=by subst e;show YW hu
def a0w(e:X.K=K):qY X (compareOp .In) (rIn K false):=by subst e;show YK
def Vx(e:X.K=K):qY X (compareOp .NotIn) (rIn K true):=by subst e;show Oi
def a7L(K:aJ):af->Hp->VK->Prop:=λxs H Q=>∃p ys,xs=[.ref p]/\(bD K H p ys\/cJ K H p ys)/\Q (.int ys.length) H
def bR(e:X.K=K):jy X (.builtin "len") (a7L K):=by subst e;show Oj
def a0x(K:aJ):af->Hp->VK->Prop:=λxs H Q=>∃p ys,xs=[.ref p]/\(bD K H p ys\/cJ K H p ys)/\∀l,H l=none->Q (.ref l) (cU H l (.lst ys))
def Vy(e:X.K=K):jy X (.type "list") (a0x K):=by subst e;show Ol
def a5u(K:aJ):af->Hp->VK->Prop:=λxs H Q=>∃x c cv t b,xs=[x,c]/\a3o c=some cv/\sE K H x t/\kitOne K t cv=some b/\Q (.bl b) H
def iZ(e:X.K=K):jy X (.builtin "isinstance") (a5u K):=by subst e;show Qt
def a7M(K:aJ):af->Hp->VK->Prop:=λxs H Q=>∃p ys bs,xs=[.ref p]/\bD K H p ys/\jf K H ys bs/\Q (.bl (bs.all id)) H
def a7N(K:aJ):af->Hp->VK->Prop:=λxs H Q=>∃p ys bs,xs=[.ref p]/\bD K H p ys/\jf K H ys bs/\Q (.bl (bs.any id)) H
def Dc(e:X.K=K)(hc:X.calm=true):jy X (.builtin "all") (a7M K):=by subst e;show YX hc
def Y0(e:X.K=K)(hc:X.calm=true):jy X (.builtin "any") (a7N K):=by subst e;show YZ hc
def eE{l:Expr}{tl:TE}(e:X.K=K)(hl:PE X l tl):PI X tg l (í K tl):=by subst e;show a0e hl
def Ar{l:Expr}{tl:TE}(e:X.K=K)(hl:PE X l tl):PI X tg l (a2S K tl):=by subst e;show a2T hl
def a7O(K:aJ)(ta:TE):TT:=λσ H Q=>ta σ H λx H'=>∃k,ó K x H' k/\Q k H'
def dN{a:Expr}{ta:TE}(e:X.K=K)(ha:PE X a ta)(he:∀whole,isTrue a X.env whole=(do let v <-whole;standAt a.pos;holding [v] (truthy v))):PT X a (a7O K ta):=by subst e;show ô ha he
def jr{k:Nat}{t:ê}(e:X.K=K)(hc:X.calm=true)(h:PGs X es t)
  (hn:@&((assignEach es X.env).length=n)) (hst:@&((assignEach es X.env).findIdx? (·.1)=none)):PG X (.Tuple es k pos) (a2O K n t):=by subst e;show a2P hc h hn hst
def nP{o:Expr}{to:TE}{name:Str}{apos cpos:Pos}{T id:String}(e:X.K=K)(pa:PlainAttrs T)(slot:Slot T name id)(hty:typeOf (.builtin id)=pure (.type "method_descriptor"))(hm:MtR X id r)(ho:PE X o to)
  (hbase:@&(attributeBase o name X.env (eval o X.env)=eval o X.env)) (hline:@&((apos.endLine==cpos.line)=true)):PE X (.Call (.Attribute o name apos) [] [] cpos) (a5p K T r to):=by subst e;show a3e pa slot hty hm ho hbase hline
def iR{o e:Expr}{to:TE}{t:TA}{name:Str}{apos cpos:Pos}{T id:String}(e0:X.K=K)(pa:PlainAttrs T)(slot:Slot T name id)(hty:typeOf (.builtin id)=pure (.type "method_descriptor"))(hm:MtR X id r)(ho:PE X o to)(ha:PA X (e::es) t)
  (hbase:@&(attributeBase o name X.env (eval o X.env)=eval o X.env))
  (hfew:@&(((backTo cpos (starEach (e::es) X.env)).all (λx=>!x.1)&&(backToKw cpos (keywordEach [] X.env)).all (λx=>x.1.isSome)
   && decide ((e::es).length+([]:List Keyword).length+(if([]:List Keyword).isEmpty then 0 else 1)<30))=true))
  (hline:@&((apos.endLine==cpos.line)=true)) (hs:@&(starEach (e::es) X.env=(false,eval e X.env)::starEach es X.env)) (hplain:@&((backTo cpos (starEach es X.env)).any (·.1)=false)) :
  PE X (.Call (.Attribute o name apos) (e::es) [] cpos) (tBM K T r to t):=by subst e0;show a5q pa slot hty hm ho ha hbase hfew hline hs hplain
end
inductive a5v(t u:TS)(D:Ends)(σ:St)(H:Hp):Prop
 |mk (Z97:St->Hp->Prop) (_:t { D with nx:=Z97} σ H) (_:∀σ' H',Z97 σ' H'->u D σ' H')
def jw{st:Stmt}{rest:List Stmt}{t u:TS}(h1:PS X st t)(h2:Qk X rest u):Qk X (st::rest) (a5v t u):=by
 intro Y s σ H D I h;let⟨Z97,q1,q2⟩:=h;show Uq (jC (h1 Y s σ H { D with nx:=Z97} I q1) λf s1 q=>?_);cases f with
 |next =>
  let⟨σ',H',I',q⟩:=q;show h2 Y s1 σ' H' D I' (q2 σ' H' q)
 |ret v=>show q
 |brk=>show q
 |cont=>show q
structure iG(H:Hp)(p:Addr)(o:HO)(H':Hp):Prop where
 fresh:H p=none
 here:H' p=some o
 rest:∀b,b≠p->H' b=H b
def iG.nD{H:Hp}{p:Addr}(h:H p=none):iG H p o (cU H p o):=⟨h,dG,λ_ hb=>aR hb⟩
def iG.same{H:Hp}{p:Addr}(n:iG H p o H'):aL H H':=λb u e=>(n.rest b (dO e n.fresh)).trans e
def iG.ne{H:Hp}{p b:Addr}{u:HO}(n:iG H p o H')(h:H b=some u):b≠p:=dO h n.fresh
structure vB(H:Hp)(l:Addr)(o:HO)(H':Hp):Prop where
 here:H' l=some o
 rest:∀b,b≠l->H' b=H b
def vB.nD{H:Hp}{l:Addr}:vB H l o (cU H l o):=⟨dG,λ_ hb=>aR hb⟩
section
variable{K:aJ}{t:TA}
noncomputable def a2h(t:TA):TE:=λσ H Q=>t σ H λxs H1=>xs.length<=1000/\∀p H',iG H1 p (.tup xs) H'->Q (.ref p) H'
noncomputable def a5w(t:TA):TE:=λσ H Q=>t σ H λxs H1=>xs.length<=1000/\∀p H',iG H1 p (.lst xs) H'->Q (.ref p) H'
def bL{x1}(h:PA X es t):PE X (.Tuple es x1 pos) (a2h t):=by
 intro Y s σ H Q I hq;show wpAny_Tuple_spliced (jC (h pos Y s σ H _ I hq) λus s1 ⟨xs,H1,I1,r,z,q⟩=>?_);let z':xs.length<=sizeLine:=eY (cL z);show⟨by rw[<-r.length];show z',?_⟩;let hf:H1 s1⁻¹=none:=I1.hok.fresh (aK _);show⟨.ref s1⁻¹,cU H1 s1⁻¹ (.tup xs),I1.laid (t':=s1.toks) (λb u e=>bM _ e) (aK _) ⟨z',us,r,⟨_,cB _ Z,Z,_,Z⟩⟩,Z,q _ _ (iG.nD hf)⟩
def cF(h:PA X es t):PE X (.List es pos) (a5w t):=by
 intro Y s σ H Q I hq;show wpAny_List_spliced (jC (h pos Y s σ H _ I hq) λus s1 ⟨xs,H1,I1,r,z,q⟩=>?_);let z':xs.length<=sizeLine:=eY (cL z);show⟨by rw[<-r.length];show z',?_⟩;let hf:H1 s1⁻¹=none:=I1.hok.fresh (aK _);show⟨.ref s1⁻¹,cU H1 s1⁻¹ (.lst xs),I1.laid (t':=s1.toks) (λb u e=>bM _ e) (aK _) ⟨z',us,0,r,cB _ Z⟩,Z,q _ _ (iG.nD hf)⟩
def qY.weak{f:Value->Value->Sem Value}{r r':R2}(h:qY X f r)(m:∀x y H Q,r' x y H Q->r x y H Q):qY X f r':=λY s σ H x y v u Q I rx ry q=>h Y s σ H x y v u Q I rx ry (m x y H Q q)
def jy.weak{f:Value}{r r':af->Hp->VK->Prop}(h:jy X f r)(m:∀xs H Q,r' xs H Q->r xs H Q):jy X f r':=λY s σ H xs us Q I rs q=>h Y s σ H xs us Q I rs (m xs H Q q)
inductive a5x(x:V)(y:V)(H:Hp)(Q:VK):Prop
 |mk (l b xs zs:_) (_:x=.ref l) (_:y=.ref b) (_:H l=↥xs) (_:H b=↥zs) (_:xs.length+zs.length<=1000) (_:∀p H',iG H p (.lst (xs++zs)) H'->Q (.ref p) H')
def mJ:qY X (binaryOp .Add) a5x:=a3i.weak λx y H Q ⟨l,b,xs,zs,e1,e2,h1,h2,z,q⟩=>⟨l,b,xs,zs,e1,e2,h1,h2,eY (cL z),λp hp=>q p _ (iG.nD hp)⟩
inductive a7P(K:aJ)(x:V)(lo:Option Int)(hi:Option Int)(H:Hp)(Q:VK):Prop
 |mk (a xs:_) (_:x=.ref a) (_:bD K H a xs) (_:∀p H',iG H p (.lst (uH xs lo hi)) H'->Q (.ref p) H')
def w6(e:X.K=K):SlR X (a7P K):=by
 subst e;show λY s σ H x v vl vu lo hi sl Q I rx hs pl pu ⟨a,xs,e,h,q⟩=>a0r Y s σ H x v vl vu lo hi sl Q I rx hs pl pu ⟨a,xs,e,h,λp hp=>q p _ (iG.nD hp)⟩
inductive a3p(K:aJ)(xs:af)(H:Hp)(Q:VK):Prop
 |mk (p ys:_) (_:xs=[.ref p]) (_:(bD K H p ys\/cJ K H p ys)) (_:∀l H',iG H l (.lst ys) H'->Q (.ref l) H')
def vV(e:X.K=K):jy X (.type "list") (a3p K):=(Vy e).weak λxs H Q ⟨p,ys,e,h,q⟩=>⟨p,ys,e,h,λl hl=>q l _ (iG.nD hl)⟩
def Qp.weak{id:String}{r':V->af->Hp->VK->Prop}(h:Qp X id r)(m:∀x xs H Q,r' x xs H Q->r x xs H Q):Qp X id r':=λY s σ H x xs v us Q I rx rs q=>h Y s σ H x xs v us Q I rx rs (m x xs H Q q)
inductive a5y(x:V)(vs:af)(H:Hp)(Q:VK):Prop
 |mk (l xs y:_) (_:x=.ref l) (_:vs=[y]) (_:H l=↥xs) (_:xs.length<1000) (_:∀H',vB H l (.lst (xs++[y])) H'->Q .non H')
def fC:Qp X "list.append" a5y:=YM.weak λx vs H Q ⟨l,xs,y,e1,e2,h,z,q⟩=>⟨l,xs,y,e1,e2,h,cL (eY z),q _ vB.nD⟩
inductive a5z(x:V)(vs:af)(H:Hp)(Q:VK):Prop
 |mk (l xs:_) (_:x=.ref l) (_:vs=[]) (_:H l=↥xs) (_:∀H',vB H l (.lst []) H'->Q .non H')
def Y4:Qp X "list.clear" a5z:=þ.weak λx vs H Q ⟨l,xs,e1,e2,h,q⟩=>⟨l,xs,e1,e2,h,q _ vB.nD⟩
end
def HJ{K:aJ}{xs:af}(f:V->Option V)(hx:bD K H1 a xs)(hz:xs.length<=1000)
  (hs:∀x H (N:Option V->Hp->Prop),x∈xs->aL H1 H->(∀H',aL H1 H'->N (f x) H')->g x (pG ix σ) H λσ2 H2=>tt σ2 H2 λb H3=>if b=true then te σ2 H3 λv H4=>N (some v) H4 else N none H3)
  (hd:∀H p H',aL H1 H->iG H p (.lst (xs.filterMap f)) H'->Q (.ref p) H'):j7 ix g tt te σ H1 Q (Ê K a) :=
 a5t f hx (eY (cL hz)) hs λH p s hp=>hd H p _ s (iG.nD hp)
def Xn{lo:Int}(f:Nat->Option V)(hz:n<=1000)
  (hs:∀i H (N:Option V->Hp->Prop),i<n->aL H1 H->(∀H',aL H1 H'->N (f i) H')->g (.int (lo+i)) (pG ix σ) H λσ2 H2=>tt σ2 H2 λb H3=>if b=true then te σ2 H3 λv H4=>N (some v) H4 else N none H3)
  (hd:∀H p H',aL H1 H->iG H p (.lst ((List.range n).filterMap f)) H'->Q (.ref p) H'):j7 ix g tt te σ H1 Q (SJ lo n) :=
 a3k f (eY (cL hz)) hs λH p s hp=>hd H p _ s (iG.nD hp)
end L2
namespace Lw
open L2
variable{ns:ae}{H:Hp}{K:aJ}{a:Addr}
def Av{p:Addr}(h:H p=none)(o:HO):aL H (cU H p o):=λb u q=>by rw[aR (dO q h)];show q
theorem vW{α β:Type}{f:α->Option β}{g:α->β}:∀{l:List α},(∀x∈l,f x=some (g x))->l.filterMap f=l.map g
 | [],_=>rfl
 |x::r,h=>by
  rw[Mq (h x aZ),cC,vW λy hy=>h y (bJ _ hy)]
def a0y{f:V->Option V}{g:Int->V}(h:∀v∈ns,f (.int v)=some (g v)):(ns.map V.int).filterMap f=ns.map g:=by
 rw[MN];show vW h
theorem Dd{f:V->Option V}{p:Int->Bool}:∀{ns:ae},(∀v∈ns,f (.int v)=if p v=true then some (.int v)else none)->(ns.map V.int).filterMap f=(ns.filter p).map V.int
 | [],_=>rfl
 |v::r,h=>by
  let ih:=Dd (f:=f) (p:=p) (ns:=r) λy hy=>h y (bJ _ hy)
  grind
def Gf{k:Int}(h0:0<=k)(h:k<(ns.length:Int)):Vq (ns.map V.int) k=some (.int (ns.getD k.toNat 0)):=by
 let hk:k.toNat<ns.length:=()
 let ek:k=((k.toNat:Nat):Int):=()
 let q:Vq (ns.map V.int) ((k.toNat:Nat):Int)=some (.int (ns.getD k.toNat 0)):=bW (by
  grind)
 grind
def Vz(K:aJ)(H:Hp)(a:Addr)(ns:ae):Prop:=(∃o,H a=some (.gP o (.lst (ns.map V.int))))\/
 ∃(o:Obj) (bY:Array Value) (n:Nat),K.lookup a=some o/\o.cls=.type "list" /\o.dict=none/\o.data=.seq bY n/\bY.size<=sizeLine/\cZ (ns.map V.int) bY.toList
def Vz.seq(h:Vz K H a ns):bD K H a (ns.map V.int):=by
 rcases h with⟨o,h⟩|h
 ·show .inl (.inr ⟨o,h⟩)
 ·show .inr h
def Vz.of(hO:Only H)(h:bD K H a (ns.map V.int)):Vz K H a ns:=by
 rcases h with(h|⟨o,h⟩)|h
 ·rcases hO a with z|⟨ob,xs,z⟩
  ·grind
  grind
 ·show .inl ⟨o,h⟩
 ·show .inr h
def Vz.same{H':Hp}(e:aL H H')(h:Vz K H a ns):Vz K H' a ns:=by
 rcases h with⟨o,h⟩|h
 ·show .inl ⟨o,e _ _ h⟩
 ·show .inr h
inductive a2i(K:aJ)(vs:af)(H:Hp)(Q:VK)(u_3:XK):Prop
 |mk (a:Addr) (ns:ae) (_:vs=[.ref a]) (_:Vz K H a ns) (_:ns.length<=63) (_:∀H',Q (.bl true) H')
end Lw
namespace L2
open PyProof.Rows
variable{K:aJ}{mg:Str->Option Value}
def a5A{h:Heap}{x:Str}{st:Stmt}{ps:ag}{f:Addr}{oc:Value}{od an:Option Addr}{osl:Array (Option Value)}{kV doc pm d7 ct:Value}(X:K.In h)(G:h.Ns mainGlobals mg)
  (a:nsIn K mainGlobals x=some ⇑f) (l:K.lookup f=some ⟨oc,od,.func (fnOf x x (gR st) (gh st) (aG st) .none kV doc pm an d7 ct),osl⟩) (c:codeIn K d7 x=true) (k:keepIn K (.ref f)=true)
  (hb:∀(kV doc pm:Value) (an:Option Addr) (d7 ct:Value) (us:aw),us.length=ps.length->bindArgs (fnOf x x (gR st) (gh st) (aG st) .none kV doc pm an d7 ct) ⟨us,[]⟩=pure (ps.zip us)) :
  Nonempty (Dn K mg x st ps) :=
 let F:=Vu (st:=st) l c k
 ⟨⟨f,_,F,F.binds hb,Nz X G a,λs us hl=>.of_eq (hb _ _ _ _ _ _ us hl)⟩⟩
def a5B{h:Heap}(X:K.In h)(G:h.Ns mainGlobals mg)
  (z1:nsIn K mainGlobals "len" = some none) (z2:nsIn K mainGlobals "range" = some none) (z3:nsIn K mainGlobals "list" = some none) (z4:nsIn K mainGlobals "isinstance" = some none) (z5:nsIn K mainGlobals "int" = some none)
  (z6:nsIn K mainGlobals "bool" = some none) (z7:nsIn K mainGlobals "str" = some none) (z8:nsIn K mainGlobals "all" = some none) (z9:nsIn K mainGlobals "any" = some none) (z10:nsIn K mainGlobals "sorted" = some none)
  (z11:nsIn K mainGlobals "set" = some none) (z12:nsIn K mainGlobals "min" = some none) (z13:nsIn K mainGlobals "max" = some none) (z14:nsIn K mainGlobals "tuple" = some none) (z15:nsIn K mainGlobals "enumerate" = some none)
  (z16:nsIn K mainGlobals "dict" = some none) (z17:nsIn K mainGlobals "ValueError" = some none):Bl mg:=by
 show⟨λx hx=>?_⟩;simp only[List.mem_cons,List.not_mem_nil,or_false]at hx;rcases hx with rfl|rfl|rfl|rfl|rfl|rfl|rfl|rfl|rfl|rfl|rfl|rfl|rfl|rfl|rfl|rfl|rfl
 ·show jZ X G z1
 ·show jZ X G z2
 ·show jZ X G z3
 ·show jZ X G z4
 ·show jZ X G z5
 ·show jZ X G z6
 ·show jZ X G z7
 ·show jZ X G z8
 ·show jZ X G z9
 ·show jZ X G z10
 ·show jZ X G z11
 ·show jZ X G z12
 ·show jZ X G z13
 ·show jZ X G z14
 ·show jZ X G z15
 ·show jZ X G z16
 ·show jZ X G z17
def a3q{P:Program}{w:World}{fa:Addr}{st:Stmt}{k:Nat}{sp:Sp}{x:Str}(hfa:mg "law" =⇑fa)(d:Dn K mg "law" st [x])(F:∀base:Heap,⋯ k d.f d.fd [x] sp) :
  ∃fd:FuncData,(∀(s:Shared) (u:Value),BindsTo s fd ⟨[u],[]⟩ [(x,u)])/\∀base:Heap,K.In base->base.Ns mainGlobals mg->⋯ k fa fd [x] sp:=by
 let e:fa=d.f:=by
  let:=hfa.symm.trans d.m;let:=dI this;cases this;rfl
 subst e;show⟨d.fd,λs u=>d.bd s [u] Z,λbase _ _=>F base⟩
def Ite(K:aJ)(a:Addr):It :=
 ⟨λi H=>∃xs x,bD K H a xs/\xs[i]?=some x,λi H x H'=>∃p y,x=.ref p/\iG H p (.tup [.int i,y]) H'/\∀xs,bD K H a xs->xs[i]?=some y,λi H=>∃xs,bD K H a xs/\xs.length<=i⟩
def Y5{P:Program}{w:World}{elts:bc}{k:Nat}{pos:Pos}(a it e:Addr)(hei:e≠it):Turn P w K (.Tuple elts k pos) (Ite K a) [e,it] e (λi h=>(∃old,IsEnum h e it i old)/\h.IsListIter it a i) where
 mem:=by simp
 obj:=λi h st b hb=>by
  let⟨⟨old,he⟩,hit⟩:=st
  rcases bO.mp hb with rfl|hb
  ·grind
  ·rw[bK.mp hb]
   let⟨o,e1,c,d⟩:=hit
   grind
 keep:=λi h h' st kk=>by
  let⟨⟨old,he⟩,hit⟩:=st
  show⟨⟨old,kk e (by simp) _ he⟩,hit.at λo q=>kk it (by simp) o q⟩
 item:=by
  intro X hP hw hK hc i Y s σ H E I hf st hg
  subst hP hw hK
  let⟨xs,x,hq,hx⟩:=hg
  let⟨bY,rv,pl,hz⟩:=I.list hq
  let⟨u,hu,ru⟩:=rv.get hx
  let⟨⟨old,he⟩,hit⟩:=st
  let⟨f0,f1,f2,f3,f4,f5⟩:=hf e (by simp)
  let⟨g0,g1,g2,g3,g4,g5⟩:=hf it (by simp)
  show wpAny_pyNext_enum_item he hit pl.isList (x:=u) () hei λh' ho hit' hT hsz hk=>?_
  show⟨_,Z,Û ho λh2 he2 hs2=>?_⟩
  let eT:s⁻¹≠e:=iM (bw he)
  let iT:s⁻¹≠it:=by
   let⟨o,e1,_⟩:=hit
   show iM (bw e1)
  let hT2:h2.get? s⁻¹=some { cls:=.type "tuple",data:=.seq #[.int i s.toks,u]}:=(hs2.2 _ eT).trans hT
  let kp:∀b o,b≠e->b≠it->s^^^b=some o->h2.get? b=some o:=λb o h1 h2' q=>(hs2.2 b h1).trans (hk b o h1 h2' q)
  let I1:bG X Y σ H { s with heap:=h2,toks:=s.toks+1}:=by
   show I.step (g':=s.gens) (d':=s.drawn) (H':=H) (ch:=[e,it]) (λb hb=>?_) (λb o _ _ hc q _=>kp b o (λz=>hc (by simp[z])) (λz=>hc (by simp[z])) q) (λb o _ _ hc q _=>⟨o.slots,kp b o (λz=>hc (by simp[z])) (λz=>hc (by simp[z])) q⟩) (λ_ _ _ _ n=>n)
    (λb o hc q=>⟨o,kp b o (λz=>hc (by simp[z])) (λz=>hc (by simp[z])) q⟩) (λ_ _ q=>q) (λ_ _ _ q=>q) (λb ps q=>⟨#[],by rw[q];simp⟩) (λm hm=>?_) (λb o q=>?_) I.bare
   ·rcases bO.mp hb with rfl|hb
    ·show⟨f3,f1,f4,f5⟩
    ·rw[bK.mp hb];show⟨g3,g1,g4,g5⟩
   ·let⟨o,es,ep,q,r⟩:=hm
    show⟨o,es,ep,kp _ o (Ne.symm f1) (Ne.symm g1) q,r⟩
   ·let nb:∀c v,H c=some v->c≠e/\c≠it:=λc v q=>⟨dO q f0,dO q g0⟩
    show(I.hok b o q).stay (λc v hcc r=>kp c v ?_ ?_ r) (λ_ q=>q) λ_ _ q=>q
    ·grind
    grind
  let hfree:H s⁻¹=none:=I.hok.fresh (aK _)
  let I2:bG X Y σ (cU H s⁻¹ (.tup [.int i,x])) { s with heap:=h2,toks:=s.toks+1}:=by
   show bG.track I1 hfree I.sz (iM I.lt) (λy c q=>?_) (λp hp=>bV (bw (I.pin p hp).1)) ?_
   ·let⟨v,oc,q1,_⟩:=I.cell y c q
    show bV (bw q1)
   ·show⟨(by show 2<=sizeLine;decide),[.int i s.toks,u],.cons ⟨_,Z⟩ (.cons ru .nil),⟨_,hT2,Z,_,Z⟩⟩
  show⟨.ref s⁻¹,_,I2,Z,⟨_,x,Z,iG.nD hfree,λys hy=>by rw[I.w5 hy hq];show hx⟩,⟨⟨u,?_⟩,hit'.at λo q=>(hs2.2 it (Ne.symm hei)).trans q⟩,λb hb=>?_⟩
  ·grind
  ·rcases bO.mp hb with rfl|hb
   ·rw[aR (Ne.symm eT)];show f0
   ·rw[bK.mp hb,aR (Ne.symm iT)];show g0
 done:=by
  intro X hP hw hK hc i Y s σ H E I hf st hg
  subst hP hw hK
  let⟨xs,hq,hx⟩:=hg
  let⟨bY,rv,pl,hz⟩:=I.list hq
  let⟨⟨old,he⟩,hit⟩:=st
  let⟨g0,g1,g2,g3,g4,g5⟩:=hf it (by simp)
  let hl:=rv.length
  show wpAny_pyNext_enum_end (I.ok.hd hc) he hit pl.isList (by simp;omega) λh' eb=>⟨Z,I.turned (t':=s.toks) (λb o hb q=>eb b o hb q) g0 g1 g3 g4 g5⟩
 self:=λ_ _ _ _ _ st h=>by
  let⟨⟨old,he⟩,_⟩:=st
  show MT he h
section
variable{X:Cx}
def a5C(K:aJ)(ta:TA):TI:=λσ H R=>ta σ H λvs H1=>∃a,vs=[.ref a]/\(∃xs,bD K H1 a xs)/\R (Ite K a) H1
def a0z{elts:bc}{k:Nat}{tpos:Pos}{l:Expr}{ta:TA}{p pos:Pos}(e0:X.K=K)(hg:Gl X "enumerate")(hm:X.mg "enumerate" = none)(ha:PA X [l] ta)(hs:@&(starEach [l] X.env=[(false,eval l X.env)])) :
  PI X (.Tuple elts k tpos) (.Call (.Name "enumerate" p) [l] [] pos) (a5C K ta):=by
 subst e0;intro Y s σ H R I h;show vD (uG I hg hm boot_enumerate (wL (jC (ha pos Y s σ H _ I h) λus s1 ⟨vs,H1,I1,r1,q1⟩=>?_) hs (by rfl)));let⟨a,e,⟨xs,hq⟩,q⟩:=q1;subst e;let⟨u,rfl,ru⟩:=vals1 r1;cases ru;let⟨bY,rv,pl,hz⟩:=I1.list hq;show call_enumerate_list pl.isList λh' he hit hsz hk=>MT he ?_;let I2:bG X Y σ H1 (s1•h'):=I1.kept (t':=s1.toks) hk;show⟨s1⁻¹+1,[s1⁻¹+1,s1⁻¹],_,_,H1,Z,I2,Y5 a s1⁻¹ (s1⁻¹+1) (iM (wU _)),⟨⟨_,he⟩,hit⟩,λb hb=>?_,q⟩;let hb':s1⁻¹<=b:=by
  grind
 show I1.Fx hb' (I1.hok.fresh hb')
end
def Ċ{a:Addr}{xs:af}{g:TG}{tb:TS}{D:Ends}{σ:St}{H:Hp}(Pv:Nat->St->Hp->Prop)(h0:Pv 0 σ H)(hl:∀i σ H,i<=xs.length->Pv i σ H->bD K H a xs)
  (hs:∀(i:Nat) x σ H p H',xs[i]?=some x->Pv i σ H->iG H p (.tup [.int i,x]) H'->g (.ref p) σ H' λσ2 H2=>tb { D with nx:=Pv (i+1),ct:=Pv (i+1),bk:=D.nx} σ2 H2) (hd:∀σ H,Pv xs.length σ H->D.nx σ H) :
  ∃W:Nat->Nat->St->Hp->Prop,(∃m,W 0 m σ H)/\∀i m σ H,W i m σ H->
   ((Ite K a).stop i H/\D.nx σ H)\/((Ite K a).go i H/\∃N:St->Hp->Prop,(∀σ' H',N σ' H'->∃m',m'<m/\W (i+1) m' σ' H')/\∀x H',(Ite K a).W9 i H x H'->g x σ H' λσ2 H2=>tb { D with nx:=N,ct:=N,bk:=D.nx} σ2 H2):=by
 show⟨λi m σ H=>m=xs.length-i/\i<=xs.length/\Pv i σ H,⟨xs.length,by simp,dF _,h0⟩,?_⟩;rintro i m σ H ⟨rfl,hi,p⟩;let q:=hl i σ H hi p;by_cases hlt:i<xs.length
 ·show .inr ⟨⟨xs,xs[i],q,by simp[hlt]⟩,Pv (i+1),λσ' H' p'=>⟨xs.length-(i+1),(),Z,hlt,p'⟩,λx H' y=>?_⟩;let⟨pp,y0,rfl,nw,ex⟩:=y;show hs i y0 σ H pp H' (ex xs q) p nw
 ·let e:i=xs.length:=()
  subst e;show .inl ⟨⟨xs,q,aK _⟩,hd σ H p⟩
def ċ{a:Addr}{xs:af}{ix:List (Option Nat)}{g:TG}{tt:TT}{te:TE}{σ:St}{H1:Hp}{Q:VK}(f:Nat->Option V)(hx:bD K H1 a xs)(hz:xs.length<=1000)
  (hs:∀(i:Nat) x H (N:Option V->Hp->Prop),xs[i]?=some x->aL H1 H->(∀H',aL H1 H'->N (f i) H')->g x (pG ix σ) H λσ2 H2=>tt σ2 H2 λb H3=>if b=true then te σ2 H3 λv H4=>N (some v) H4 else N none H3)
  (hd:∀H p H',aL H1 H->iG H p (.lst ((List.range xs.length).filterMap f)) H'->Q (.ref p) H'):j7 ix g tt te σ H1 Q (Ê K a):=by
 show tV (K:=K) (a:=a) (xs:=xs) (λi ys H=>ys=(List.range i).filterMap f/\aL H1 H) ⟨Z,aL.refl _⟩ (λi ys H hi ⟨e,s⟩=>⟨s.seq hx,?_⟩) (λi x ys H hi ⟨e,s⟩=>?_) λys H ⟨e,s⟩ p hp=>?_
 ·subst e;show cG (Tn _ _) ?_;rw[oU];show cG hi (eY (cL hz))
 ·show hs i x H (λo H'=>match o with|some v=>(ys++[v]=(List.range (i+1)).filterMap f/\aL H1 H')|none=>(ys=(List.range (i+1)).filterMap f/\aL H1 H')) hi s λH' s'=>?_;cases ef:f i with
  |some v =>
   show⟨?_,s'⟩;rw[e,rU,wQ];simp[ef]
  |none =>
   show⟨?_,s'⟩;rw[e,rU,wQ];simp[ef]
 ·subst e;show hd H p _ s (iG.nD hp)
end L2
namespace Bg
open L2 Lw
abbrev xg:=Option Int×ae
abbrev ba:=List xg
noncomputable def En(ns:ae):Bool:=(List.range (ns.length-1)).all λi=>decide (ns.getD i 0<ns.getD (i+1) 0)
def VB(n:Int)(ns:ae):Bool:=(ns.all λv=>decide (0<=v/\v<n))&&En ns
noncomputable def pH(n:Int):Option Int->Bool
 |none=>false
 |some i=>decide (0<=i/\i<n)
noncomputable def rowAt(rs:ba)(k:Nat):xg:=rs.getD k (none,[])
inductive Flt where
 |ok|row (k:Nat)|place (v:Nat)|tie (a b:Int)|apart (v j k:Nat)
 deriving DecidableEq
variable{i:Nat}
noncomputable def upV:Option Int->V
 |none=>.non
 |some i=>.int i
def VD(K:aJ)(H:Hp)(v:V)(t:Int×Int):Prop:=∃p,v=.ref p/\cJ K H p [.int t.1,.int t.2]
inductive Df(K:aJ)(H:Hp)(a:Addr)(ts:ar):Prop
 |mk (xs:_) (_:bD K H a xs) (_:Paired (VD K H) xs ts) (_:ts.length<=1000)
inductive uJ(K:aJ)(H:Hp)(v:V)(n:Int)(ts:ar):Prop
 |mk (p a:_) (_:v=.ref p) (_:cJ K H p [.int n,.ref a]) (_:Df K H a ts)
def Df.same{K:aJ}{H H':Hp}{a:Addr}{ts:ar}(e:aL H H')(h:Df K H a ts):Df K H' a ts:=by
 let⟨xs,h1,h2,h3⟩:=h;show⟨xs,e.seq h1,Paired.cA h2 λ_ _ ⟨p,q1,q2⟩=>⟨p,q1,e.vU q2⟩,h3⟩
def uJ.same{K:aJ}{H H':Hp}{v:V}{n:Int}{ts:ar}(e:aL H H')(h:uJ K H v n ts):uJ K H' v n ts:=by
 let⟨p,a,h1,h2,h3⟩:=h;show⟨p,a,h1,e.vU h2,h3.same e⟩
def bB{α β:Type}{F:α->β->Prop}{xs:List α}{ys:List β}{x:α}(p:Paired F xs ys)(e:xs[i]?=some x):∃y,ys[i]?=some y/\F x y:=by
 induction p generalizing i with
 |nil=>cases e
 |cons h r ih =>
  cases i with
  |zero=>cases e;show⟨_,Z,h⟩
  |succ i=>show ih (i:=i) e
def cO{α β:Type}{F:α->β->Prop}{xs:List α}{ys:List β}{y:β}(p:Paired F xs ys)(e:ys[i]?=some y):∃x,xs[i]?=some x/\F x y:=by
 induction p generalizing i with
 |nil=>cases e
 |cons h r ih =>
  cases i with
  |zero=>cases e;show⟨_,Z,h⟩
  |succ i=>show ih (i:=i) e
def sO{rs:ba}(h:i<rs.length):rs[i]?=some (rowAt rs i):=by
 unfold rowAt;grind
def Xo(ns:ae)(v:Int):(ns.map PyData.int).any (λe=>PyData.eqv e (.int v))=decide (v∈ns):=by
 induction ns with
 |nil=>rfl
 |cons a r ih =>
  rw[cC,oX,ih,PyData.eqv];grind
def VF(ns:ae):PyData.depthAll (ns.map PyData.int)=0:=by
 induction ns with
 |nil=>rfl
 |cons a r ih=>rw[cC,PyData.depthAll,ih];rfl
def Č(ns:ae):PyData.canLayAll0 (ns.map PyData.int)=true:=by
 induction ns with
 |nil=>rfl
 |cons a r ih=>rw[cC,PyData.canLayAll0,ih];rfl
def shaped_ints(ns:ae):SeqAt.shaped (.list (ns.map PyData.int))=true:=by
 unfold SeqAt.shaped;rw[PyData.canLay0,Č,PyData.depth,VF];decide
def Qw(ns ms:ae):PyData.eqv (.list (ns.map PyData.int)) (.list (ms.map PyData.int))=decide (ns=ms):=by
 rw[PyData.eqv];show PySem.W.ked_eqvAll ns ms
def HN{K:aJ}{H:Hp}{b:Addr}{ns:ae}{v:Int}{Q:VK}(hS:bD K H b (ns.map V.int))(q:Q (.bl (decide (v∈ns))) H):Vw K false (.int v) (.ref b) H Q :=
 ⟨_,_,.int v,.lst hS (Ao.ints ns),Z,shaped_ints ns,by rw[Xo];show q⟩
def rF{K:aJ}{H:Hp}{b:Addr}{ns:ae}{v:Int}{Q:VK}(hS:bD K H b (ns.map V.int))(q:Q (.bl (!decide (v∈ns))) H):Vw K true (.int v) (.ref b) H Q :=
 ⟨_,_,.int v,.lst hS (Ao.ints ns),Z,shaped_ints ns,by rw[Xo];show q⟩
end Bg
namespace L2
open PyProof.Rows
def aL.chg{H H':Hp}{l:Addr}{o:HO}{H0:Hp}(s:aL H0 H)(h0:H0 l=none)(c:vB H l o H'):aL H0 H':=λb u e=>(c.rest b (dO e h0)).trans (s b u e)
end L2
namespace Bg
open L2 Lw
variable{H H':Hp}
def Y6(a b:Int)(r:ae):En (a::b::r)=(decide (a<b)&&En (b::r)):=by
 unfold En;let e:(a::b::r).length-1=(b::r).length-1+1:=by simp
 rw[e,List.range_succ_eq_map,U5,N5];rfl
theorem Qx:∀ls:ae,En ls=true↔ls.Pairwise (· < ·)
 | []=>by simp[En]
 | [a]=>by simp[En]
 |a::b::r=>by
  rw[Y6,gq,Qx (b::r),eO,uD (a:=a)]
  constructor
  ·rintro⟨h1,h2⟩
   show⟨λc hc=>?_,h2⟩
   rcases bO.mp hc with rfl|hc
   ·show h1
   ·show Int.lt_trans h1 ((uD.mp h2).1 c hc)
  ·rintro⟨h1,h2⟩
   show⟨h1 b aZ,h2⟩
def a0A(n:Int)(ls:ae):VB n ls=true↔(∀v∈ls,0<=v/\v<n)/\ls.Pairwise (· < ·):=by
 unfold VB;rw[gq,Qx,iw];constructor
 ·rintro⟨h1,h2⟩;show⟨λv hv=>dw (h1 v hv),h2⟩
 ·rintro⟨h1,h2⟩;show⟨λv hv=>aV (h1 v hv),h2⟩
inductive lZ(H:Hp)(v:V)(t:Int×Int):Prop
 |mk (p:_) (_:v=.ref p) (_:H p= ~~~[.int t.1,.int t.2])
inductive HS(l:Addr)(H:Hp)(v:V)(r:xg):Prop
 |mk (p b:_) (_:v=.ref p) (_:H p= ~~~[upV r.1,.ref b]) (_:H b=↥(r.2.map V.int)) (_:b≠l) (_:r.2.length<=1000)
def lZ.v{K:aJ}{H:Hp}{v:V}{t:Int×Int}(h:lZ H v t):VD K H v t:=by
 let⟨p,e,q⟩:=h;show⟨p,e,cJ.of q⟩
def lZ.same{v:V}{t:Int×Int}(s:aL H H')(h:lZ H v t):lZ H' v t:=by
 let⟨p,e,q⟩:=h;show⟨p,e,s _ _ q⟩
def lZ.chg{l:Addr}{xs ys:af}{v:V}{t:Int×Int}(hl:H l=↥xs)(c:vB H l (.lst ys) H')(h:lZ H v t):lZ H' v t:=by
 let⟨p,e,q⟩:=h;show⟨p,e,(c.rest p (a2d q hl ())).trans q⟩
def HS.same{l:Addr}{v:V}{r:xg}(s:aL H H')(h:HS l H v r):HS l H' v r:=by
 let⟨p,b,e,q1,q2,n,z⟩:=h;show⟨p,b,e,s _ _ q1,s _ _ q2,n,z⟩
def eX{α β:Type}{F:α->β->Prop}{xs:List α}{ys:List β}{x:α}{y:β}(h:Paired F xs ys)(q:F x y):Paired F (xs++[x]) (ys++[y]):=by
 induction h with
 |nil=>show .cons q .nil
 |cons h _ ih=>show .cons h ih
noncomputable def vX(t:Int×Int):PyData:=.tuple [.int t.1,.int t.2]
def VD.isD{K:aJ}{v:V}{t:Int×Int}(h:VD K H v t):JX K H v (vX t):=by
 let⟨p,rfl,q1⟩:=h;show .tup q1 (.cons (.int _) (.cons (.int _) .nil))
def Aw{K:aJ}{α:Type}{F:V->α->Prop}{f:α->PyData}(hf:∀v x,F v x->JX K H v (f x)){xs:af}{ys:List α}(h:Paired F xs ys):Ao K H xs (ys.map f):=by
 induction h with
 |nil=>show .nil
 |cons h _ ih=>show .cons (hf _ _ h) ih
def č(ts:ar):PyData:=.list (ts.map vX)
def Df.isD{K:aJ}{H:Hp}{a:Addr}{ts:ar}(h:Df K H a ts):JX K H (.ref a) (č ts):=by
 let⟨xs,h1,h2,_⟩:=h;show .lst h1 (Aw (λv x q=>q.isD) h2)
theorem Gg{α:Type}{f:α->PyData}(h:∀x,(f x).canLay0=true):∀l:List α,PyData.canLayAll0 (l.map f)=true
 | []=>rfl
 |x::r=>by rw[cC,PyData.canLayAll0,h x,Gg h r];rfl
theorem u9{α:Type}{f:α->PyData}{k:Nat}(h:∀x,(f x).depth<=k):∀l:List α,PyData.depthAll (l.map f)<=k
 | []=>dF _
 |x::r=>by
  rw[cC,PyData.depthAll]
  show Nat.max_le.mpr ⟨h x,u9 h r⟩
def Xp(t:Int×Int):(vX t).canLay0=true:=rfl
def KJ(t:Int×Int):(vX t).depth<=1:=by
 unfold vX;simp[PyData.depth,PyData.depthAll]
def tW(ts:ar):SeqAt.shaped (č ts)=true:=by
 unfold SeqAt.shaped č;rw[PyData.canLay0,Gg Xp,PyData.depth,Hl];show aV (by let:=u9 KJ ts;omega)
def Qy{d:PyData}(h:SeqAt.shaped d=true):PyData.eqv d d=true:=SeqAt.eqv_refl d (GJ h)
end Bg
namespace L2
inductive T1(f:Option V->St)(σ:St):Prop
 |mk (a:_) (h:σ=f a)
inductive T2(f:Option V->Option V->St)(σ:St):Prop
 |mk (a b:_) (h:σ=f a b)
inductive T3(f:Option V->Option V->Option V->St)(σ:St):Prop
 |mk (a b c:_) (h:σ=f a b c)
inductive T4(f:Option V->Option V->Option V->Option V->St)(σ:St):Prop
 |mk (a b c d:_) (h:σ=f a b c d)
inductive T5(f:Option V->Option V->Option V->Option V->Option V->St)(σ:St):Prop
 |mk (a b c d e:_) (h:σ=f a b c d e)
inductive T6(f:Option V->Option V->Option V->Option V->Option V->Option V->St)(σ:St):Prop
 |mk (a b c d e g:_) (h:σ=f a b c d e g)
inductive P3{α:Type}(A B:Prop)(C:α->Prop):Prop
 |mk (a:A) (b:B) (x:α) (c:C x)
inductive P4{α:Type}(A B:Prop)(C D:α->Prop):Prop
 |mk (a:A) (b:B) (x:α) (c:C x) (d:D x)
def P3.s{α:Type}{A B:Prop}{C:α->Prop}(h:P3 A B C):B:=by cases h;assumption
def P4.s{α:Type}{A B:Prop}{C D:α->Prop}(h:P4 A B C D):B:=by cases h;assumption
end L2
namespace Srt
open PySem.W PyProof.Rows
variable{p:Array Nat}{m:Nat}
noncomputable def Ok(n:Nat)(key:Nat->Int){α:Type}:KasT α->(α->Prop)->Prop
 |.ret a,Q=>Q a
 |.ask i j k,Q=>i<n/\j<n/\Ok n key (k (decide (key i<key j))) Q
section
variable{n:Nat}{key:Nat->Int}{α β:Type}
theorem Ok.mono{Q Q':α->Prop}(h:∀a,Q a->Q' a):∀{t:KasT α},Ok n key t Q->Ok n key t Q'
 |.ret _,x=>h _ x
 |.ask _ _ _,⟨a,b,x⟩=>⟨a,b,Ok.mono h x⟩
theorem Ok.bind{f:α->KasT β}{Q:β->Prop}:∀{t:KasT α},Ok n key t (λa=>Ok n key (f a) Q)->Ok n key (t.bind f) Q
 |.ret _,x=>x
 |.ask _ _ _,⟨a,b,x⟩=>⟨a,b,Ok.bind x⟩
theorem Ok.wp{cmp:Nat->Nat->(Bool->Shared->Prop)->Shared->Prop}{s:Shared}{Q:α->Prop}{R:α->Shared->Prop}(hc:∀i j (C:Bool->Shared->Prop),i<n->j<n->C (decide (key i<key j)) s->cmp i j C s)(hq:∀a,Q a->R a s) :
  ∀{t:KasT α},Ok n key t Q->t.kasWp cmp R s
 |.ret _,x=>hq _ x
 |.ask i j k,⟨a,b,x⟩=>hc i j _ a b (Ok.wp hc hq x)
structure Pm(n:Nat)(p:Array Nat):Prop where
 perm:p.Perm (List.range n).toArray
def Pm.size{p:Array Nat}(h:Pm n p):p.size=n:=by
 let:=h.perm.size_eq;grind
def Pm.lt(h:Pm n p){i:Nat}(hi:i<n):p.getD i 0<n:=by
 let hs:=h.size;let hi':i<p.size:=()
 let hm:p[i]∈(List.range n):=by
  let:=(Tg.mp h.perm).mem_iff (a:=p[i]);simpa using this
 let:p.getD i 0=p[i]:=by simp[Array.getD,hi']
 rw[this];show gA.mp hm
def Pm.of{q:Array Nat}(h:Pm n p)(e:q.Perm p):Pm n q:=⟨e.trans h.perm⟩
noncomputable def KK(key:Nat->Int)(p:Array Nat)(i:Nat):Int:=key (p.getD i 0)
def Dg(p:Array Nat)(i:Nat):p.getD i 0=(p[i]?).getD 0:=by simp[Array.getD_eq_getD_getElem?]
def HW{i j:Nat}(hj:j<=p.size)(k:Nat):KK key (kas_rev p i j) k=if i<=k/\k<j then KK key p (i+j-1-k)else KK key p k:=by
 unfold KK kas_rev;rw[Dg,getElem?_mirror_all hj];split<;>rw[Dg]
def Ď{k d:Nat}(hk:k<p.size)(hd:d<=k)(i:Nat):KK key (bubble p k d) i=if i=k-d then KK key p k else if k-d<i/\i<=k then KK key p (i-1)else KK key p i:=by
 unfold KK;rw[Dg,Dg p k,Dg p (i-1),Dg p i,getElem?_bubble hk d hd];split
 ·rfl
 ·split<;>rfl
def Dh(key:Nat->Int)(p:Array Nat)(m:Nat):Prop:=∀i j,i<=j->j<m->KK key p i<=KK key p j
def Down(key:Nat->Int)(p:Array Nat)(m:Nat):Prop:=∀i j,i<=j->j<m->KK key p j<=KK key p i
def Pm.rev(h:Pm n p)(i j:Nat):Pm n (kas_rev p i j):=h.of (mirror_perm _ _ _ _)
theorem VG{p:Array Nat}(hp:Pm n p):∀(f m:Nat),1<=m->m+f<=n->Dh key p m->Ok n key (kas_asc p f m) (λr=>m<=r/\r<=m+f/\Dh key p r/\(r=m+f\/KK key p r<KK key p (r-1)))
 |0,m,_,_,hs=>⟨aK _,aK _,hs,.inl Z⟩
 |f+1,m,h1,hm,hs=>by
  show⟨hp.lt (),hp.lt (),?_⟩
  by_cases c:key (p.getD m 0)<key (p.getD (m-1) 0)
  ·rw[aV c];lk;rw[aB rfl]
   show⟨aK _,(),hs,.inr c⟩
  ·rw[cI c];lk;rw[aA cN]
   show Ok.mono (λr ⟨a,b,d,e⟩=>⟨(),(),d,?_⟩) (VG hp f (m+1) () () ?_)
   ·intro i j hij hj
    by_cases hjm:j<m
    ·show hs i j hij hjm
    ·let:j=m:=()
     subst this
     by_cases hi:i=j
     ·grind
     ·let q:=hs i (j-1) () ()
      let c':KK key p (j-1)<=KK key p j:=by unfold KK;omega
      omega
   ·rcases e with e|e
    ·show .inl ()
    ·show .inr e
def Qz(hp:Pm n p)(h1:1<=m)(hm:m<=n)(hd:Down key p m):Ok n key (kas_tail3 m n p) (λr=>Pm n r.2/\1<=r.1/\r.1<=n/\Dh key r.2 r.1):=by
 show Ok.bind (Ok.mono (λr ⟨a,b,c,_⟩=>?_) (VG (hp.rev 0 m) (n-m) m h1 () ?_))
 ·intro i j hij hj;let hs:=hp.size;rw[HW (),HW (),aB (),aB ()];show hd _ _ () ()
 ·show⟨hp.rev 0 m,(),(),c⟩
def Dj{q:Nat}(hm:m<=p.size)(he:∀i,m-(q+1)<=i->i<m->KK key p i=KK key p (m-1))(k:Nat):KK key (kas_rev p (m-(q+1)) m) k=KK key p k:=by
 rw[HW hm];by_cases c:m-(q+1)<=k/\k<m
 ·rw[aB c,he k c.1 c.2,he _ () ()]
 ·rw[aA c]
theorem Gh:∀(f:Nat) {p:Array Nat} (m q:Nat),Pm n p->1<=m->m+f<=n->Down key p m->q+1<=m->(∀i,m-(q+1)<=i->i<m->KK key p i=KK key p (m-1))->
  Ok n key (kas_desc f p m q) (λr=>Pm n r.1/\1<=r.2.1/\r.2.1<=n/\Down key r.1 r.2.1/\r.2.2+1<=r.2.1/\∀i,r.2.1-(r.2.2+1)<=i->i<r.2.1->KK key r.1 i=KK key r.1 (r.2.1-1))
 |0,p,m,q,hp,h1,hm,hd,hq,he=>⟨hp,h1,(),hd,hq,he⟩
 |f+1,p,m,q,hp,h1,hm,hd,hq,he=>by
  show⟨hp.lt (),hp.lt (),?_⟩
  let hs:=hp.size
  let fU:∀(p':Array Nat),(∀k,KK key p' k=KK key p k)->KK key p m<=KK key p (m-1)->Down key p' (m+1):=λp' hk c i j hij hj=>by
   rw[hk,hk]
   by_cases hjm:j<m
   ·show hd i j hij hjm
   ·let:j=m:=()
    subst this
    by_cases hi:i=j
    ·grind
    ·let:=hd i (j-1) () ();omega
  by_cases c:key (p.getD m 0)<key (p.getD (m-1) 0)
  ·rw[aV c];lk;rw[aB rfl]
   let c1:KK key p m<=KK key p (m-1):=by unfold KK;omega
   by_cases hq0:q>0
   ·rw[aB hq0]
    show Gh f (m+1) 0 (hp.rev _ _) () () (fU _ (Dj () he) c1) () λi a b=>by grind
   ·rw[aA hq0]
    show Gh f (m+1) 0 hp () () (fU _ (λ_=>rfl) c1) () λi a b=>by grind
  ·rw[cI c];lk;rw[aA cN]
   show⟨hp.lt (),hp.lt (),?_⟩
   by_cases d:key (p.getD (m-1) 0)<key (p.getD m 0)
   ·rw[aV d];lk;rw[aB rfl]
    show⟨hp,h1,by show m<=n;omega,hd,hq,he⟩
   ·rw[cI d];lk;rw[aA cN]
    let e:KK key p m=KK key p (m-1):=by unfold KK;omega
    show Gh f (m+1) (q+1) hp () () (fU _ (λ_=>rfl) ()) () λi a b=>?_
    grind
def Eo(hp:Pm n p)(hm:m+1<=n)(hd:Down key p (m+1)):Ok n key (kas_descPart m n p) (λr=>Pm n r.2/\1<=r.1/\r.1<=n/\Dh key r.2 r.1):=by
 show Ok.bind (Ok.mono (λr ⟨a,b,c,d,e,g⟩=>?_) (Gh (n-(m+1)) (m+1) 0 hp () () hd () λi x y=>by grind));let hs:=a.size;by_cases q:r.2.2>0
 ·rw[aB q];show Qz (a.rev _ _) b c λi j x y=>by rw[Dj () g,Dj () g];show d i j x y
 ·rw[aA q];show Qz a b c d
def ď(hp:Pm n p)(h1:1<=n):Ok n key (kas_count n p) (λr=>Pm n r.2/\1<=r.1/\r.1<=n/\Dh key r.2 r.1):=by
 show Ok.bind (Ok.mono (λm ⟨a,b,c,d⟩=>?_) (VG hp (n-1) 1 (aK _) () λi j x y=>by grind));by_cases e:m=n
 ·rw[aB (by simpa using e)];show⟨hp,a,(),c⟩
 ·rw[aA (by simpa using e)];let lt:KK key p m<KK key p (m-1):=by
   grind
  let hs:=hp.size;by_cases g:m>1
  ·rw[aB g];show⟨hp.lt (),hp.lt (),?_⟩;by_cases z:key (p.getD 0 0)<key (p.getD (m-1) 0)
   ·rw[aV z];lk;rw[aB rfl];show⟨hp,a,(),c⟩
   ·rw[cI z];lk;rw[aA cN];show Eo (hp.rev _ _) () ?_;let z':KK key p (m-1)<=KK key p 0:=by unfold KK;omega
    let all:∀i,i<m->KK key p i=KK key p 0:=λi hi=>by
     let q1:=c 0 i () hi;let q2:=c i (m-1) () ();omega
    intro i j hij hj;rw[HW (),HW ()];grind
  ·rw[aA g];let m1:m=1:=()
   subst m1;show Eo hp () λi j hij hj=>?_;grind
theorem HX{p:Array Nat}(hp:Pm n p){k:Nat}(hk:k<n)(hs:Dh key p k):∀(f l r:Nat),l<=r->r<=k->r-l<=f->(∀i,i<l->KK key p i<=KK key p k)->(∀i,r<=i->i<k->KK key p k<KK key p i)->
  Ok n key (kas_place p k f l r) (λl=>l<=k/\(∀i,i<l->KK key p i<=KK key p k)/\∀i,l<=i->i<k->KK key p k<KK key p i)
 |0,l,r,h1,h2,h3,lo,hi=>⟨(),lo,λi a b=>hi i () b⟩
 |f+1,l,r,h1,h2,h3,lo,hi=>by
  unfold kas_place
  by_cases c:l>=r
  ·rw[aB c]
   show⟨(),lo,λi a b=>hi i () b⟩
  ·rw[aA c]
   show⟨hp.lt hk,hp.lt (),?_⟩
   by_cases d:key (p.getD k 0)<key (p.getD ((l+r)/2) 0)
   ·rw[aV d];lk;rw[aB rfl]
    show HX hp hk hs f l ((l+r)/2) () () () lo λi a b=>?_
    let:=hs ((l+r)/2) i a b
    let d':KK key p k<KK key p ((l+r)/2):=d
    omega
   ·rw[cI d];lk;rw[aA cN]
    show HX hp hk hs f ((l+r)/2+1) r () h2 () (λi a=>?_) hi
    let:=hs i ((l+r)/2) () ()
    let d':KK key p ((l+r)/2)<=KK key p k:=by unfold KK;omega
    omega
theorem Đ:∀(f:Nat) {p:Array Nat} (k:Nat),Pm n p->k+f=n->Dh key p k->Ok n key (kas_bin f p k) (λp=>Pm n p/\Dh key p n)
 |0,p,k,hp,hk,hs=>⟨hp,()⟩
 |f+1,p,k,hp,hk,hs=>by
  show Ok.bind (Ok.mono (λl ⟨a,lo,hi⟩=>?_) (HX hp () hs k 0 k () (aK _) () (λi h=>by omega) λi h1 h2=>by omega))
  let hz:=hp.size
  show Đ f (k+1) (hp.of (bubble_perm _ _ _)) () λi j hij hj=>?_
  rw[Ď () (),Ď () ()]
  rw[show k-(k-l)=l by omega]
  by_cases i1:i=l
  ·rw[aB i1]
   by_cases j1:j=l
   ·rw[aB j1];show Int.le_refl _
   ·rw[aA j1,aB ()]
    show Int.le_of_lt (hi (j-1) () ())
  ·rw[aA i1]
   by_cases i2:l<i/\i<=k
   ·rw[aB i2,aA (),aB ()]
    show hs (i-1) (j-1) () ()
   ·rw[aA i2]
    by_cases j1:j=l
    ·rw[aB j1];show lo i ()
    ·rw[aA j1]
     by_cases j2:l<j/\j<=k
     ·rw[aB j2];show hs i (j-1) () ()
     ·rw[aA j2];show hs i j hij ()
def a0B(h1:1<=n):Ok n key (kas_sort n) (λp=>Pm n p/\Dh key p n):=by
 show Ok.bind (Ok.mono (λr ⟨a,b,c,d⟩=>?_) (ď ⟨Array.Perm.refl _⟩ h1));by_cases e:r.1<n
 ·rw[aB e];show Đ _ _ a () ?_;grind
 ·rw[aA e];show⟨a,()⟩
end
end Srt
namespace Srt
open PyProof.Rows PySem.Calls PySem.W
section
variable{prog:Program}{wo:World}{A:Around}{E:∅}{s:Shared}
def Asks(prog:Program)(wo:World)(A:Around)(κ:SortKind)(zs:aw)(key:Nat->Int)(s:Shared):Prop :=
 (∀(E:∅) (R:SortKind->Shared->Prop),R κ s->wpAny (model prog wo) A (keyKind' zs.toArray) R E s)/\
 ∀(i j:Nat) (C:Bool->Shared->Prop),i<zs.length->j<zs.length->C (decide (key i<key j)) s->kas_ask prog wo A κ zs i j C s
abbrev HY(zs:aw)(p:Array Nat):Array Value:=List.toArray (p.toList.map λi=>zs.getD i Value.none)
def a3r(vs:aw):HY vs (List.range vs.length).toArray=vs.toArray:=by
 unfold HY;congr 1;apply List.ext_getElem?;intro i;by_cases h:i<vs.length
 ·simp[h]
 ·simp[h]
def Oo{a:Addr}{zs:aw}{n:Nat}{κ:SortKind}{key:Nat->Int}{P:PySem.Fin->Shared->Prop}(oa:s^^^a=some (seqObj "list" zs.toArray n))(h64:zs.length<64)
  (hk:2<=zs.length->∀h',(∀b o,b≠a->s^^^b=some o->h'.get? b=some o)->Asks prog wo A κ zs key (s•h'))
  (h:∀p,Pm zs.length p->Dh key p zs.length->P (.done (.ret .none)) (s•sortedHeap s.heap a zs (HY zs p))) :
  wpAny (model prog wo) A (Builtin.«list.sort» ⟨[.ref a],[]⟩) P E s:=by
 rw[list_sort_plain];let la:a<s⁻¹:=bw oa;show M (listItems_at oa Z ?_);show M (U6 oa Z ?_ (by rw[iJ,gO];omega) (dF _));obtain⟨ep,oa1⟩:∃ep,(s.heap.update a (Obj.mapSeq λ_=>#[])).get? a=some (seqObj "list" #[] ep):=⟨_,Uy oa λ_=>#[]⟩;show M (seqEpoch_at oa1 Z ?_);show M (Nr ?_ (by show zs.length<=_;rw[gO];omega));show M (U7 (eV ?_) (dF _));let oa6:(((s.heap.update a (Obj.mapSeq λ_=>#[])).push (seqObj "tuple" zs.toArray 0)).push (seqObj "list" #[] 0)).get? a=some (seqObj "list" #[] ep):=by
  rw[M4 _ _ _ (by rw[N7,Us];grind),M4 _ _ _ (by rw[Us];grind)];show oa1
 show wpAny (model prog wo) A _ P E (s•((s.heap.update a (Obj.mapSeq λ_=>#[])).push (seqObj "tuple" zs.toArray 0)).push (seqObj "list" #[] 0));lk;let lz:zs.toArray.size=zs.length:=by simp
 by_cases g2:zs.toArray.size<2
 ·rw[aB g2,aB g2];show M (ao ?_);rw[StateT.run_pure];show M (ao ?_);lk;show M (seqEpoch_at oa6 Z (M (U6 oa6 Z ?_ (dF _) ())));simp only[if_false,Bool.false_eq_true,bne_self_eq_false];let q:=h (List.range zs.length).toArray ⟨Array.Perm.refl _⟩ (λi j hij hj=>by grind);rw[a3r]at q;show ao ?_;let e:(arrOf (SortSt.mk' general' (zs.toArray.zip zs.toArray) #[] 7 none)).map (·.2)=zs.toArray:=by
   grind
  rw[e];show q
 ·rw[aA g2,aA g2];let h2':2<=zs.length:=()
  let⟨ak,ac⟩:=hk h2' (((s.heap.update a (Obj.mapSeq λ_=>#[])).push (seqObj "tuple" zs.toArray 0)).push (seqObj "list" #[] 0)) λb o hb e=>bM _ (bM _ (by rw[MF _ _ _ _ hb];show e));show M (ak _ _ ?_);let ask:(kas_sort zs.length).kasWp (kas_ask prog wo A κ zs) (λp s'=>s'=(s•((s.heap.update a (Obj.mapSeq λ_=>#[])).push (seqObj "tuple" zs.toArray 0)).push (seqObj "list" #[] 0))/\Pm zs.length p/\Dh key p zs.length)
    (s•((s.heap.update a (Obj.mapSeq λ_=>#[])).push (seqObj "tuple" zs.toArray 0)).push (seqObj "list" #[] 0)) :=
   Ok.wp (n:=zs.length) (key:=key) ac (λp hp=>⟨Z,hp⟩) (a0B ())
  rw[kas_ask_eq]at ask;let est:SortSt.mk' κ (zs.toArray.zip zs.toArray) #[] 7 none=kas_st κ (pairsOf zs) (List.toArray (List.range zs.length)):=by
   let e:=kas_range (pairsOf zs);rw[pairsOf_size]at e;show SortSt.mk' κ (pairsOf zs) #[] 7 none=SortSt.mk' κ ((List.toArray (List.range zs.length)).map (kas_item (pairsOf zs))) #[] 7 none;rw[e]
  let rn:=kas_runs (E:=E) (Q:=λ_ st' s'=>∃p:Array Nat,p.size=zs.length/\arrOf st'=p.map (kas_item (pairsOf zs))/\failedOf st'=none/\(s'=(s•((s.heap.update a (Obj.mapSeq λ_=>#[])).push (seqObj "tuple" zs.toArray 0)).push (seqObj "list" #[] 0))/\Pm zs.length p/\Dh key p zs.length))
   h2' h64 (λp' st' s' a1 a2 a3 a4=>⟨p',a1,a2,a3,a4⟩) ask
  rw[<-est]at rn;show M (iB rn ?_ λ_ _ e=>e);rintro⟨⟨⟩,st'⟩ s' ⟨p,hp,ra,hf,rfl,pm,sr⟩;lk;let hout:(arrOf st').map (·.2)=HY zs p:=by
   apply Array.toList_inj.mp;rw[ra,Array.map_map,Array.toList_map];show vC λi _=>by show(kas_item (pairsOf zs) i).2=_;rw[kas_item_eq]
  let hso:(HY zs p).size=zs.length:=()
  rw[hout];show M (seqEpoch_at oa6 Z ?_);show M (U6 oa6 Z ?_ (dF _) (cG (NT hso) (by rw[gO];omega)));rw[hf];simp only[if_false,Bool.false_eq_true,bne_self_eq_false];show ao (h p pm sr)
def Y7{l:Addr}{zs:aw}{κ:SortKind}{key:Nat->Int}{R:∅}(il:s.heap.IsList l zs.toArray)(h64:zs.length<64)
  (hk:2<=zs.length->∀(A':Around) (h':Heap),(∀b o,s^^^b=some o->h'.get? b=some o)->Asks prog wo A' κ zs key (s•h'))
  (h:∀p,Pm zs.length p->Dh key p zs.length->R (.ref (s⁻¹+1)) (s•sortedAll s.heap zs (HY zs p))) :
  wpAny (model prog wo) A (call (.builtin "sorted") [.ref l]) R E s:=by
 apply Ý kind_sorted plain_sorted entry_sorted (args_sorted1 _);unfold Builtin.«sorted»;show M (m:=checkCount "sorted" 1 1 _) (ao ?_);show M (collect_list il ?_ (by rw[gO];omega));show M (U7 ?_ (by rw[gO];omega));let lz:((s.heap.push (seqObj "list" #[] 0)).update s⁻¹ (Obj.mapSeq (· ++ zs.toArray))).objs.size=s⁻¹+1:=by
  rw[Us];show N7 _ _
 let oL:(((s.heap.push (seqObj "list" #[] 0)).update s⁻¹ (Obj.mapSeq (· ++ zs.toArray))).push (seqObj "list" zs.toArray 0)).get? (s⁻¹+1)=some (seqObj "list" zs.toArray 0):=by
  rw[<-lz];show cB _ rfl
 show wpAny _ _ _ _ _ (s•((s.heap.push (seqObj "list" #[] 0)).update s⁻¹ (Obj.mapSeq (· ++ zs.toArray))).push (seqObj "list" zs.toArray 0));rw[lz];show M (eV (gG slot_list_sort ⟨_,oL,Z⟩ entry_list_sort (Oo (κ:=κ) (key:=key) oL h64 (λg2 h' kp=>hk g2 _ h' λb o e=>?_) λp a1 a2=>⟨_,Z,?_⟩) (args_list_sort _)))
 ·let lb:b<s⁻¹:=bw e;show kp b o (bV (GZ lb)) ?_;rw[M4 _ _ _ (),MF _ _ _ _ (bV lb),M4 _ _ _ (bV lb)];show e
 ·show ao ⟨_,Z,h p a1 a2⟩
end
end Srt
namespace Srt
open PyProof.Rows PySem.Calls PySem.W
variable{h:Heap}
def countP_le{α:Type}{p q:α->Bool}(h:∀x,p x=true->q x=true)(l:List α):l.countP p<=l.countP q:=by
 induction l with
 |nil=>show aK _
 |cons a r ih =>
  rw[Nf,Nf];by_cases c:p a=true
  ·rw[aB c,aB (h a c)];omega
  ·rw[aA c];omega
theorem KN{α:Type}{p q:α->Bool}(h:∀x,p x=true->q x=true){x:α}:∀{l:List α},x∈l->p x=false->q x=true->l.countP p<l.countP q
 |a::r,hx,h1,h2=>by
  rw[Nf,Nf]
  let le:=countP_le h r
  rcases bO.mp hx with rfl|hx
  ·grind
  ·let ih:=KN h hx h1 h2
   grind
noncomputable def rank(ls:List (ae))(i:Nat):Int:=(ls.countP λz=>decide (z<ls.getD i []):Nat)
def a5D{x y z:ae}(h:z<y)(h2:¬x<y):z<x:=by
 grind
def Xq{ls:List (ae)}{i j:Nat}(hi:i<ls.length):decide (rank ls i<rank ls j)=decide (ls.getD i []<ls.getD j []):=by
 let hm:ls.getD i []∈ls:=by
  grind
 unfold rank;by_cases c:ls.getD i []<ls.getD j []
 ·rw[aV c];show aV (Int.ofNat_lt.mpr (KN (λz hz=>?_) hm ?_ ?_))
  ·grind
  ·grind
  grind
 ·rw[cI c];show cI λz=>?_;let:=countP_le (p:=λz=>decide (z<ls.getD j [])) (q:=λz=>decide (z<ls.getD i [])) (λz hz=>aV (a5D (dw hz) c)) ls;omega
section
variable{prog:Program}{w:World}{A:Around}{E:∅}{s:Shared}{Q:Bool->Shared->Prop}
def QB:∀{xs ys:aw}{ns ms:ae} (i:Nat),IntsAre xs ns->IntsAre ys ms->Q (decide (ns<ms)) s->KatLex prog w A true (decide (xs.length<ys.length)) Q (xs.zip ys) i s
 |_,_,_,_,i,.nil,.nil,h=>by
  show kat_nil ?_
  show h
 |_,_,_,_,i,.nil,.cons (vs:=ys) (ns:=ms) m u y,h=>by
  show kat_nil ?_
  let e:decide (([]:ae)<m::ms)=true:=aV (List.Lex.nil)
  rw[e]at h
  let e2:decide (([]:aw).length<(Value.int m u::ys).length)=true:=by simp
  rw[e2];show h
 |_,_,_,_,i,.cons (vs:=xs) (ns:=ns) n t x,.nil,h=>by
  show kat_nil ?_
  let e:decide (n::ns<([]:ae))=false:=cI (List.not_lt_nil _)
  rw[e]at h
  let e2:decide ((Value.int n t::xs).length<([]:aw).length)=false:=by simp
  rw[e2];show h
 |_,_,_,_,i,.cons (vs:=xs) (ns:=ns) n t x,.cons (vs:=ys) (ns:=ms) m u y,h=>by
  let ef:decide ((Value.int n t::xs).length<(Value.int m u::ys).length)=decide (xs.length<ys.length):=by
   simp only[List.length_cons,Nat.add_lt_add_iff_right]
  rw[ef]
  show kat_cons (wpAny_eqBool_int ?_)
  by_cases c:n=m
  ·subst c
   rw[Ng]
   show kat_yes (QB (i+1) x y ?_)
   let e:decide (n::ns<n::ms)=decide (ns<ms):=by
    let:(n::ns<n::ms)↔ns<ms:=by rw[TJ];simp
    simp only[this]
   rw[e]at h;show h
  ·rw[qI.mpr c]
   show kat_no ?_
   let e:decide (n::ns<m::ms)=decide (n<m):=by
    let:(n::ns<m::ms)↔n<m:=by rw[TJ];simp[c]
    simp only[this]
   rw[e]at h
   cases z:(true&&i==0)with
   |true=>show oneLt_int h
   |false=>show kat_one _ _ (lt_int h)
structure a5E(h:Heap)(v:Value)(ns:ae):Prop where
 at':∃a o xs n,v=.ref a/\h.get? a=some o/\o.cls=.type "tuple" /\o.data=.seq xs n/\IntsAre xs.toList ns
 ne:ns≠[]
inductive tX(h:Heap):aw->List (ae)->Prop
 |nil:tX h [] []
 |cons {v ns vs ls}:a5E h v ns->tX h vs ls->tX h (v::vs) (ns::ls)
def tX.keep{h':Heap}(k:∀b o,h.get? b=some o->h'.get? b=some o){vs ls}(t:tX h vs ls):tX h' vs ls:=by
 induction t with
 |nil=>show .nil
 |cons x _ ih =>
  let⟨⟨a,o,xs,n,e,ho,r⟩,ne⟩:=x;show .cons ⟨⟨a,o,xs,n,e,k _ _ ho,r⟩,ne⟩ ih
def tX.len{vs ls}(t:tX h vs ls):vs.length=ls.length:=by
 induction t with
 |nil=>rfl
 |cons _ _ ih=>rw[lV,lV,ih]
def tX.get{vs ls}(t:tX h vs ls){i}(hi:i<vs.length):a5E h (vs.getD i .none) (ls.getD i []):=by
 induction t generalizing i with
 |nil=>cases hi
 |cons a _ ih =>
  cases i with
  |zero=>show a
  |succ i=>show ih (Tw hi)
def tX.kat{vs ls}(t:tX h vs ls):∃fs,KatTups h vs fs/\fs.length=vs.length/\∀v∈fs,∃n t,v=Value.int n t:=by
 induction t with
 |nil=>show⟨[],KatTups.nil,Z,λv hv=>absurd hv dZ⟩
 | @cons v ns vs ls x _ ih =>
  let⟨⟨a,o,xs,n,e,ho,hc,hd,hi⟩,ne⟩:=x;let⟨fs,k,l,q⟩:=ih;subst e;let⟨xl⟩:=xs;let hi:IntsAre xl ns:=hi;cases hi with
  |nil=>grind
  |cons m u r =>
   show⟨.int m u::fs,KatTups.cons ho hc hd Z k,(),λv hv=>?_⟩;grind
def Y8{vs:aw}{ls:List (ae)}(h:tX s.heap vs ls)(h2:2<=vs.length):Asks prog w A (tuples' true) vs (rank ls) s:=by
 show⟨λE Q q=>?_,λi j C hi hj q=>?_⟩
 ·let⟨fs,k,l,ty⟩:=h.kat;show kat_kind (T:=.type "int") k () (λv hv=>?_) Z q;let⟨n,t,rfl⟩:=ty v hv;show Looks.of_pure rfl
 ·let⟨⟨a,o,xs,n,e1,ho,hc,hd,hx⟩,_⟩:=h.get hi;let⟨⟨a',o',ys,n',e2,ho',hc',hd',hy⟩,_⟩:=h.get hj;unfold kas_ask;rw[e1,e2];show kat_lt ho hd ho' hd' ?_;rw[Xq (by rw[<-h.len];show hi)]at q;show QB 0 hx hy q
end
end Srt
namespace L2
open PyProof.Rows Bg Srt
def a3s(K:aJ)(H:Hp)(v:V)(ns:ae):Prop:=∃p,v=.ref p/\cJ K H p (ns.map V.int)
inductive đ(K:aJ)(xs:af)(H:Hp)(Q:VK):Prop
 |mk (l vs:_) (ls:List (ae)) (_:xs=[.ref l]) (_:bD K H l vs) (_:Paired (a3s K H) vs ls) (_:(∀ns∈ls,ns≠[])) (_:vs.length<64) (_:∀(q:ay) p H',q.Perm (List.range vs.length)->(q.map λi=>ls.getD i []).Pairwise (λa b=>¬b<a)->iG H p (.lst (q.map λi=>vs.getD i .non)) H'->Q (.ref p) H')
theorem ints_of:∀{ns:ae}{us:aw},cZ (ns.map V.int) us->IntsAre us ns
 | [],_,.nil=>.nil
 |n::ns,_,.cons r t=>by
  let⟨k,rfl⟩:=r
  show .cons n k (ints_of t)
section
variable{X:Cx}{K:aJ}
def a0C{Y:aE}{σ:St}{H:Hp}{s:Shared}(I:bG X Y σ H s){vs:af}{us:aw}{ls:List (ae)}(v:cZ vs us)(p:Paired (a3s X.K H) vs ls)(ne:∀ns∈ls,ns≠[]):tX s.heap us ls:=by
 induction v generalizing ls with
 |nil =>
  cases p;show .nil
 |cons r t ih =>
  cases p with
  |cons a b =>
   let⟨pt,rfl,hT⟩:=a;let⟨bY,ri,⟨o,ho,hc,n,hd⟩,_⟩:=I.tuple hT;cases r;show .cons ⟨⟨pt,o,bY.toArray,n,Z,ho,hc,hd,by simpa using ints_of ri⟩,ne _ aZ⟩ (ih b λns h=>ne ns (bJ _ h))
def Y9{vs:af}{us:aw}(v:cZ vs us)(i:Nat)(h:i<vs.length):cY (vs.getD i .non) (us.getD i .none):=by
 induction v generalizing i with
 |nil=>cases h
 |cons r _ ih =>
  cases i with
  |zero=>show r
  |succ i=>show ih i (Tw h)
theorem QC{vs:af}{us:aw}(r:cZ vs us):∀(q:ay),(∀i∈q,i<vs.length)->cZ (q.map λi=>vs.getD i .non) (q.map λi=>us.getD i .none)
 | [],_=>.nil
 |i::q,h=>.cons (Y9 r i (h i aZ)) (QC r q λj hj=>h j (bJ _ hj))
def Ax(e:X.K=K):jy X (.builtin "sorted") (đ K):=by
 subst e;intro Y s σ H xs us Q I r h;let⟨l,vs,ls,rfl,hL,hP,ne,h64,q⟩:=h;let⟨u,rfl,rx⟩:=vals1 r;cases rx;let⟨bY,r',pl,hz⟩:=I.list hL;let hlen:=r'.length;let ht:=a0C I r' hP ne;let hl2:=ht.len;show Y7 (κ:=tuples' true) (key:=rank ls) pl.isList () (λh2 A' h' kp=>Y8 (ht.keep kp) h2) λp pm sr=>?_;let⟨c,hc⟩:=sortedAll_at s.heap bY (HY bY p);let hs:=pm.size;let mem:∀i∈p.toList,i<bY.length:=λi hi=>by
  let:=(Tg.mp pm.perm).mem_iff (a:=i);grind
 let z:(p.toList.map λi=>vs.getD i V.non).length=bY.length:=()
 show⟨.ref (s⁻¹+1),_,I.laid (t':=s.toks) (o:=.lst (p.toList.map λi=>vs.getD i V.non)) (λb o eo=>sortedAll_old eo) (vL _) ?_,Z,?_⟩
 ·show⟨by rw[z,<-hlen];show hz,_,c,QC r' p.toList (λi hi=>by rw[hlen];show mem i hi),hc⟩
 ·show q p.toList _ _ ?_ ?_ (iG.nD (I.hok.fresh (vL _)))
  ·let:=Tg.mp pm.perm;grind
  ·rw[Tj];intro i j hi hj hij;rw[aH,uz,hs]at hi hj;let q1:=sr i j (eY hij) hj;unfold Srt.KK at q1;let li:=pm.lt hi;let lj:=pm.lt hj;rw[List.getElem_map,List.getElem_map];let e1:p.getD i 0=p.toList[i]'(by rw[uz,hs];show hi):=by simp[Array.getD,hs,hi]
   let e2:p.getD j 0=p.toList[j]'(by rw[uz,hs];show hj):=by simp[Array.getD,hs,hj]
   rw[<-e1,<-e2];intro c;let z1:=Xq (ls:=ls) (i:=p.getD j 0) (j:=p.getD i 0) ();grind
end
end L2
namespace Sm
variable{xs:Array Nat}{j:Nat}
def Xr(xs:Array Nat)(j k:Nat):Prop:=k<=xs.size/\∀i (h:i<xs.size),xs[i]<j↔i<k
def Xu(h:xs.toList.Pairwise (· < ·)){i k:Nat}(hi:i<xs.size)(hk:k<xs.size)(ik:i<k):xs[i]<xs[k]:=by
 let:=Tj.mp h i k (by simpa using hi) (by simpa using hk) ik;simpa using this
def Ē(h:xs.toList.Pairwise (· < ·)):∀(fuel lo hi:Nat),hi-lo<=fuel->lo<=hi->hi<=xs.size->
  (∀i (z:i<xs.size),i<lo->xs[i]<j)->(∀i (z:i<xs.size),hi<=i->j<=xs[i])->Xr xs j (SetTable.below.go xs j fuel lo hi):=by
 intro fuel
 induction fuel with
 |zero =>
  intro lo hi a b c d e;unfold SetTable.below.go;let:lo=hi:=()
  subst this;show⟨c,λi z=>⟨λq=>by
   rcases wZ i lo with g|g
   ·show g
   ·let:=e i z g;omega,λq=>d i z q⟩⟩
 |succ f ih =>
  intro lo hi a b c d e;unfold SetTable.below.go;by_cases q:lo<hi
  ·rw[aB q];lk;let m1:lo<=(lo+hi)/2:=()
   let m2:(lo+hi)/2<hi:=()
   let m3:(lo+hi)/2<xs.size:=()
   let ge:xs.getD ((lo+hi)/2) j=xs[(lo+hi)/2]:=by simp[Array.getD,m3]
   rw[ge];by_cases r:xs[(lo+hi)/2]<j
   ·rw[aB r];show ih _ _ () () c (λi z hi'=>?_) e;rcases wZ i ((lo+hi)/2)with g|g
    ·let:=Xu h z m3 g;omega
    ·let:i=(lo+hi)/2:=()
     subst this;show r
   ·rw[aA r];show ih _ _ () () () d (λi z hi'=>?_);rcases wZ ((lo+hi)/2) i with g|g
    ·let:=Xu h m3 z g;omega
    ·let:i=(lo+hi)/2:=()
     subst this;omega
  ·rw[aA q];let:lo=hi:=()
   subst this;show⟨c,λi z=>⟨λq=>by
    rcases wZ i lo with g|g
    ·show g
    ·let:=e i z g;omega,λq=>d i z q⟩⟩
def Ay(h:xs.toList.Pairwise (· < ·))(j:Nat):Xr xs j (SetTable.below xs j) :=
 Ē h _ _ _ () (dF _) (aK _) (λi z q=>absurd q (CJ _)) (λi z q=>absurd z ())
def below_at(h:xs.toList.Pairwise (· < ·)){k:Nat}(hk:k<xs.size):SetTable.below xs (xs[k])=k:=by
 let⟨a,b⟩:=Ay h xs[k];rcases Nat.lt_trichotomy (SetTable.below xs xs[k]) k with g|g|g
 ·let c:=(b (SetTable.below xs xs[k]) ()).mp (Xu h () hk g);omega
 ·show g
 ·let c:=(b k hk).mpr g;omega
def VH(h:xs.toList.Pairwise (· < ·)):SetTable.below xs 0=0:=by
 let⟨a,b⟩:=Ay h 0;rcases Nat.eq_zero_or_pos (SetTable.below xs 0)with g|g
 ·show g
 grind
def VJ(h:xs.toList.Pairwise (· < ·)){k:Nat}(hk:k<xs.size):SetTable.below xs (xs[k]+1)=k+1:=by
 let⟨a,b⟩:=Ay h (xs[k]+1);let c:=(b k hk).mp ();rcases wZ (k+1) (SetTable.below xs (xs[k]+1))with g|g
 ·let e:=(b (k+1) ()).mpr g;let:=Xu h hk (show k+1<xs.size by omega) (wU _);omega
 ·omega
def Xv(j:Nat):SetTable.has #[] j=false:=by
 unfold SetTable.has;simp
def zu{t:SetTable}(dm:t.dummies = #[])(h:j∉t.place.toList):t.slot j=.empty:=by
 unfold SetTable.slot;let e:(t.place[SetTable.below t.place j]?==some j)=false:=by
  rw[qI];intro c;show h (by simpa using Array.mem_of_getElem? c)
 lk;rw[e,dm,Xv];rfl
def Za{t:SetTable}(up:t.place.toList.Pairwise (· < ·))(h:j∈t.place.toList):∃i,t.slot j=.live i:=by
 let⟨k,hk,e⟩:=oR h;let hk':k<t.place.size:=by simpa using hk
 let e':t.place[k]=j:=by simpa using e
 unfold SetTable.slot;let q:SetTable.below t.place j=k:=by rw[<-e'];show below_at up hk'
 lk;rw[q];let:(t.place[k]?==some j)=true:=by simp[hk',e']
 rw[this];grind
noncomputable def adv(mask:Nat)(p:SetTable.Probe):SetTable.Probe :=
 if 0<p.more then{ p with more:=p.more-1,j:=p.j+1}else
 { p with j:=(SetTable.leap mask p.i p.perturb).1,more:=SetTable.runEnd mask (SetTable.leap mask p.i p.perturb).1-(SetTable.leap mask p.i p.perturb).1,i:=(SetTable.leap mask p.i p.perturb).1,perturb:=(SetTable.leap mask p.i p.perturb).2}
def a3t(t:SetTable)(p:SetTable.Probe):t.advance p=adv t.mask p:=by
 unfold SetTable.advance adv;rfl
def nth(mask:Nat)(p:SetTable.Probe):Nat->SetTable.Probe
 |0=>p
 |k+1=>nth mask (adv mask p) k
def Zb(m:Nat)(p:SetTable.Probe):(adv m p).dummy=p.dummy:=by
 unfold adv;split<;>rfl
def ē{t:SetTable}(dm:t.dummies = #[])(up:t.place.toList.Pairwise (· < ·))(h:Int):∀(k fuel:Nat) (p:SetTable.Probe),k<fuel->p.dummy=none->(nth t.mask p k).j∉t.place.toList->
  ∃j,j∉t.place.toList/\SetTable.probe.go t (λ_=>h+1) h fuel p=some (.empty j none):=by
 intro k
 induction k with
 |zero =>
  intro fuel p hf hd hn;obtain⟨f,rfl⟩:∃f,fuel=f+1:=⟨fuel-1,()⟩;unfold SetTable.probe.go;let hn':p.j∉t.place.toList:=hn;show⟨p.j,hn',?_⟩;rw[zu dm hn',hd]
 |succ k ih =>
  intro fuel p hf hd hn;obtain⟨f,rfl⟩:∃f,fuel=f+1:=⟨fuel-1,()⟩;unfold SetTable.probe.go;by_cases c:p.j∈t.place.toList
  ·let⟨i,e⟩:=Za up c;rw[e];lk;let:(h+1==h)=false:=()
   rw[this];rw[a3t];show ih f (adv t.mask p) () (by rw[Zb];show hd) hn
  ·rw[zu dm c,hd];show⟨p.j,c,Z⟩
noncomputable def VL(v:Nat):SetTable.Probe:={ j:=v%8,more:=0,i:=v%8,perturb:=v,dummy:=none}
def seven:∀v,v<16->∀j,j<8->∃k,k<16/\(nth 7 (VL v) k).j=j:=by decide
def Oq{v:Nat}(h:v<16):SetTable.bits (v:Int)=v:=by
 unfold SetTable.bits;omega
def a0D{t:SetTable}(dm:t.dummies = #[])(up:t.place.toList.Pairwise (· < ·)){v k:Nat}(hk:k<10*SetTable.turns t.mask)(hn:(nth t.mask (t.probeStart (v:Int)) k).j∉t.place.toList) :
  ∃j,j∉t.place.toList/\t.freeSlot (v:Int)=some (j,false):=by
 let⟨j,hj,e⟩:=ē dm up (v:Int) k (10*SetTable.turns t.mask) (t.probeStart (v:Int)) hk Z hn;show⟨j,hj,?_⟩;unfold SetTable.freeSlot SetTable.probe;rw[e];rfl
theorem VN:∀(l m:ay),l.Nodup->(∀x∈l,x∈m)->l.length<=m.length
 | [],_,_,_=>dF _
 |a::r,m,nd,h=>by
  let am:a∈m:=h a aZ
  let⟨n1,n2⟩:=je.mp nd
  let q:=VN r (m.erase a) n2 λx hx=>(T9 (λe=>n1 ())).mpr (h x (bJ _ hx))
  grind
def a3u{l:ay}(h:l.length<=4):∃j,j<8/\j∉l:=by
 apply Þ;intro c;let q:∀j,j<8->j∈l:=λj hj=>Þ λd=>c ⟨j,hj,d⟩;let:=VN (List.range 8) l Ut (λj hj=>q j (gA.mp hj));rw[oU]at this;omega
def Ĕ{t:SetTable}(dm:t.dummies = #[]){v:Nat}(hv:v<16)(hm:15<=t.mask)(hn:v∉t.place.toList):t.freeSlot (v:Int)=some (v,false):=by
 unfold SetTable.freeSlot SetTable.probe;let e:(t.probeStart (v:Int)).j=v:=by
  unfold SetTable.probeStart;lk;rw[Oq hv];show Nat.mod_eq_of_lt ()
 obtain⟨f,hf⟩:∃f,10*SetTable.turns t.mask=f+1:=⟨10*SetTable.turns t.mask-1,by unfold SetTable.turns;omega⟩;rw[hf];unfold SetTable.probe.go;rw[e,zu dm hn];rfl
def Es(es:Array (Int×Value))(L:ay):Prop:=Paired (λe v=>e.1=((v:Nat):Int)/\∃tk,e.2=Value.int ((v:Nat):Int) tk) es.toList L
structure Tb(B:Bool)(t:SetTable)(L:ay):Prop where
 dm:t.dummies = #[]
 pl:t.plain=true
 led:t.led = !B
 up:t.place.toList.Pairwise (· < ·)
 sz:t.place.size=L.length
 nd:L.Nodup
 lt:∀v∈L,v<16
 sh:(t.mask=7/\L.length<=4)\/(15<=t.mask/\t.place.toList=L/\L.length*5<t.mask*3)
def a3v(up:xs.toList.Pairwise (· < ·))(h:j∉xs.toList):(SetTable.insertAt xs (SetTable.below xs j) j).toList.Pairwise (· < ·):=by
 let⟨a,b⟩:=Ay up j;rw[GD];let z:∀i (hi:i<xs.toList.length),xs.toList[i]<j↔i<SetTable.below xs j:=λi hi=>by
  let:=b i (by simpa using hi);simpa using this
 rw[Mx];show⟨up.sublist (MP _ _),?_,?_⟩
 ·rw[uD];show⟨λy hy=>?_,up.sublist (List.drop_sublist _ _)⟩;let⟨i,hi,e⟩:=oR hy;grind
 ·intro x hx y hy;let⟨i,hi,e⟩:=oR hx;rw[List.getElem_take]at e;let hl:i<xs.toList.length:=()
  let hb:i<SetTable.below xs j:=()
  let x1:x<j:=()
  rcases bO.mp hy with rfl|hy
  ·show x1
  ·let⟨k,hk,e2⟩:=oR hy;grind
def Es.len{es:Array (Int×Value)}{L:ay}(h:Es es L):es.size=L.length:=by
 let:=aW h;grind
theorem Ep{α β:Type}{R:α->β->Prop}:∀{xs:List α}{ys:List β} (n:Nat),Paired R xs ys->Paired R (xs.take n) (ys.take n)
 |_,_,0,_=>.nil
 |_,_,_+1,.nil=>.nil
 |_,_,n+1,.cons r t=>.cons r (Ep n t)
theorem Er{α β:Type}{R:α->β->Prop}:∀{xs:List α}{ys:List β} (n:Nat),Paired R xs ys->Paired R (xs.drop n) (ys.drop n)
 |_,_,0,r=>r
 |_,_,_+1,.nil=>.nil
 |_,_,n+1,.cons _ t=>Er n t
def jg{α β:Type}{R:α->β->Prop}{xs xs':List α}{ys ys':List β}(h:Paired R xs ys)(q:Paired R xs' ys'):Paired R (xs++xs') (ys++ys'):=by
 induction h with
 |nil=>show q
 |cons a _ ih=>show .cons a ih
def bB{α β:Type}{R:α->β->Prop}{xs:List α}{ys:List β}(p:Paired R xs ys)(i:Nat)(h:i<ys.length):∃x,xs[i]?=some x/\R x ys[i]:=by
 induction p generalizing i with
 |nil=>cases h
 |cons r _ ih =>
  cases i with
  |zero=>show⟨_,Z,r⟩
  |succ i=>show ih i (Tw h)
def a3w{B:Bool}{t:SetTable}{L:ay}{es:Array (Int×Value)}{v:Nat}{x:Value}(T:Tb B t L)(hE:Es es L)(hv:v<16)(hn:v∉L)(hx:∃tk,x=Value.int ((v:Nat):Int) tk) :
  ∃t1 es1 p,layNew t es ((v:Nat):Int) x=(es1,t1,false,false)/\Es es1 (L.take p++v::L.drop p)/\t1.dummies = #[]/\t1.plain=true/\(t1.led = !B)/\t1.mask=t.mask/\t1.finger=t.finger/\t1.moves=t.moves/\
   t1.place.toList.Pairwise (· < ·)/\t1.place.size=L.length+1/\(15<=t.mask->t1.place.toList=L.take p++v::L.drop p):=by
 let main:∃j,j∉t.place.toList/\t.freeSlot ((v:Nat):Int)=some (j,false)/\(15<=t.mask->j=v):=by
  rcases T.sh with⟨m7,l4⟩|⟨Xw,pe,fl⟩
  ·let lp:t.place.toList.length<=4:=by rw[uz,T.sz];show l4
   let⟨j,hj,nj⟩:=a3u lp;let⟨k,hk,e⟩:=seven v hv j hj;let st:t.probeStart ((v:Nat):Int)=VL v:=by
    unfold SetTable.probeStart VL;rw[Oq hv,m7];unfold SetTable.runEnd;let:¬v%(7+1)+9<=7:=()
    simp only[if_neg this];simp
   let⟨j',hj',e'⟩:=a0D (v:=v) (k:=k) T.dm T.up (by unfold SetTable.turns;omega) (by rw[st,m7,e];show nj);show⟨j',hj',e',λc=>by omega⟩
  ·let nv:v∉t.place.toList:=by rw[pe];show hn
   show⟨v,nv,Ĕ T.dm hv Xw nv,λ_=>rfl⟩
 let⟨j,nj,ef,ej⟩:=main;let sz1:(SetTable.insertAt t.place (SetTable.below t.place j) j).size=L.length+1:=by
  let:=congrArg List.length (GD t.place (SetTable.below t.place j) j);rw[uz]at this;rw[this,cu,lV,dY,iK,uz,T.sz];omega
 let es1:(SetTable.insertAt es (SetTable.below t.place j) (((v:Nat):Int),x)).size=L.length+1:=by
  let:=congrArg List.length (GD es (SetTable.below t.place j) (((v:Nat):Int),x));rw[uz]at this;rw[this,cu,lV,dY,iK,uz,hE.len];omega
 let mk:L.length+1<=t.mask:=by
  rcases T.sh with⟨m7,l4⟩|⟨Xw,pe,fl⟩<;>omega
 show⟨{ t with place:=SetTable.insertAt t.place (SetTable.below t.place j) j},SetTable.insertAt es (SetTable.below t.place j) (((v:Nat):Int),x),SetTable.below t.place j,?_,?_,T.dm,T.pl,T.led,rfl,rfl,rfl,a3v T.up nj,sz1,?_⟩
 ·unfold layNew;rw[ef];lk;unfold SetTable.put;let hd:SetTable.has t.dummies j=false:=by rw[T.dm];show Xv j
  lk;rw[hd];let ft:SetTable.fits { t with place:=SetTable.insertAt t.place (SetTable.below t.place j) j} (SetTable.insertAt es (SetTable.below t.place j) (((v:Nat):Int),x)).size=true:=by
   unfold SetTable.fits SetTable.fill;lk;rw[sz1,es1,T.dm];simp;omega
  unfold SetTable.orStandIn;simp only[if_false,Bool.false_eq_true];rw[aB ft,ft];rfl
 ·unfold Es;rw[GD];show jg (Ep _ hE) (.cons ⟨Z,hx⟩ (Er _ hE))
 ·intro hm;lk;let:=ej hm;subst this;rcases T.sh with⟨m7,l4⟩|⟨Xw,pe,fl⟩
  ·omega
  ·rw[GD,pe]
end Sm
namespace Sm
variable{L:ay}{m f n:Nat}{es:Array (Int×Value)}
def ĕ(m:Nat)(owner:Array (Option Nat))(L:ay):Prop:=owner.size=m+1/\∀j,j<=m->owner.getD j none=if j∈L then some (L.idxOf j)else none
def Ė{owner:Array (Option Nat)}(Z96:ĕ m owner L){v:Nat}(hv:v<=m)(hn:v∉L):SetTable.layClean.free m owner (f+1) v v=some v:=by
 unfold SetTable.layClean.free;obtain⟨k,hk⟩:∃k,SetTable.runEnd m v+1-v=k+1:=⟨SetTable.runEnd m v-v,by unfold SetTable.runEnd;split<;>omega⟩;rw[hk,List.range_succ_eq_map];let g:owner.getD (v+0) (some 0)=none:=by
  let a:=Z96.2 v hv;rw[aA hn]at a;let hs:v<owner.size:=by rw[Z96.1];omega
  simp[Array.getD,hs]at a ⊢;show a
 rw[rO (by rw[g];rfl)];rfl
def ė(hm:15<=m):∀(R L:ay) (owner:Array (Option Nat)),ĕ m owner L->(L++R).Nodup->(∀v∈R,v<16)->
  ∃Ę,ĕ m Ę (L++R)/\(R.map λv=>((v:Nat):Int)).foldl (λ(acc:Option (Array (Option Nat)×Nat)) h=>do
   let(owner,k) <-acc
   let j <-SetTable.layClean.free m owner (SetTable.turns m) (SetTable.bits h%(m+1)) (SetTable.bits h)
   pure (owner.setIfInBounds j (some k),k+1)) (some (owner,L.length))=some (Ę,(L++R).length):=by
 intro R
 induction R with
 |nil=>grind
 |cons v R ih =>
  intro L owner Z96 nd hlt;let hv:v<16:=hlt v aZ;let hn:v∉L:=λc=>by
   grind
  let O':ĕ m (owner.setIfInBounds v (some L.length)) (L++[v]):=by
   show⟨by rw[Array.size_setIfInBounds];show Z96.1,λj hj=>?_⟩;let hs:v<owner.size:=by rw[Z96.1];omega
   let hs':j<owner.size:=by rw[Z96.1];omega
   let a:=Z96.2 j hj;by_cases e:j=v
   ·subst e;rw[aB (fG _ (bK.mpr Z)),M5,aA hn];simp[Array.getD,hs]
   ·let e1:(owner.setIfInBounds v (some L.length)).getD j none=owner.getD j none:=by
     simp only[Array.getD,Array.size_setIfInBounds,hs'];simp[Array.getElem_setIfInBounds,hs',Ne.symm e]
    grind
  let⟨o2,O2,e2⟩:=ih (L++[v]) _ O' () (λu hu=>hlt u (bJ _ hu));show⟨o2,(),?_⟩;rw[cC,List.foldl_cons];let st:(do
   let(owner,k) <-some (owner,L.length);let j <-SetTable.layClean.free m owner (SetTable.turns m) (SetTable.bits ((v:Nat):Int)%(m+1)) (SetTable.bits ((v:Nat):Int))
   pure (owner.setIfInBounds j (some k),k+1):Option (Array (Option Nat)×Nat))=some (owner.setIfInBounds v (some L.length),(L++[v]).length):=by
   rw[Oq hv,Nat.mod_eq_of_lt ()];let:SetTable.turns m=(m+14)+1:=rfl;rw[this];show(SetTable.layClean.free m owner (m+14+1) v v).bind _=_;rw[Ė Z96 () hn];simp
  grind
noncomputable def upTo(m:Nat)(L:ay):ay:=(List.range (m+1)).filter λj=>decide (j∈L)
def Ot(m:Nat)(L:ay):(upTo m L).Pairwise (· < ·):=GQ _ List.pairwise_lt_range
def mem_upTo(h:∀v∈L,v<=m){j:Nat}:j∈upTo m L↔j∈L:=by
 unfold upTo;grind
def Et(h:L.Pairwise (· < ·)):L.Nodup:=h.imp λh=>bV h
def ye(h:∀v∈L,v<=m)(nd:L.Nodup):(upTo m L).Perm L :=
 (GC (Et (Ot m L)) nd).mpr λj=>mem_upTo h
def a0E(nd:L.Nodup):L.map (λv=>L.idxOf v)=List.range L.length:=by
 apply List.ext_getElem
 ·simp
 grind
theorem ę{α β:Type}(p:α->Bool)(f:α->β):∀l:List α,l.filterMap (λa=>if p a=true then some (f a)else none)=(l.filter p).map f
 | []=>rfl
 |a::r=>by
  rw[Nh]
  cases e:p a with
  |true=>rw[Mq (b:=f a) (by rw[e];rfl),ę p f r];simp
  |false=>rw[List.filterMap_cons_none (by rw[e];rfl),ę p f r];simp
theorem QD{α β:Type}{f g:α->Option β}:∀{l:List α},(∀a∈l,f a=g a)->l.filterMap f=l.filterMap g
 | [],_=>rfl
 |a::r,h=>by
  let e:=h a aZ
  let q:=QD (l:=r) λb hb=>h b (bJ _ hb)
  grind
def Es.hashes(h:Es es L):(es.map (·.1)).toList=L.map λv=>((v:Nat):Int):=by
 rw[Array.toList_map];unfold Es at h;generalize es.toList=l at h
 induction h with
 |nil=>rfl
 |cons r _ ih=>grind
def Es.at{es:Array (Int×Value)}{L:ay}(h:Es es L){v:Nat}(hv:v∈L):∃e,es[L.idxOf v]?=some e/\e.1=((v:Nat):Int)/\∃tk,e.2=Value.int ((v:Nat):Int) tk:=by
 let hi:=Ù hv;let⟨x,e,q⟩:=bB h (L.idxOf v) hi;rw[List.getElem_idxOf hi]at q;show⟨x,by simpa using e,q⟩
theorem a2j{es:Array (Int×Value)}{L:ay}(h:Es es L):∀S:ay,(∀v∈S,v∈L)->Paired (λe v=>e.1=((v:Nat):Int)/\∃tk,e.2=Value.int ((v:Nat):Int) tk) ((S.map λv=>L.idxOf v).filterMap λi=>es[i]?) S
 | [],_=>.nil
 |v::S,hs=>by
  let⟨e,a,b⟩:=h.at (hs v aZ)
  rw[cC,Mq a]
  show .cons b (a2j h S λu hu=>hs u (bJ _ hu))
def Ou{mv:Nat}{led plain:Bool}(hm:15<=m)(hE:Es es L)(nd:L.Nodup)(hlt:∀v∈L,v<16) :
  ∃order:Array Nat,SetTable.laid m f mv led plain (es.map (·.1))=some ({ mask:=m,place:=(upTo m L).toArray,dummies:=#[],finger:=f,led:=led,moves:=mv,plain:=plain},order)/\
   Es (order.filterMap (es[·]?)) (upTo m L)/\coversAll order es.size=true:=by
 let hle:∀v∈L,v<=m:=λv hv=>by grind
 let O0:ĕ m (Array.replicate (m+1) none) []:=⟨by simp,λj hj=>by simp[Array.getD]⟩;let⟨ow,Z96,e⟩:=ė hm L [] _ O0 (by simpa using nd) hlt;rw[List.nil_append]at Z96 e;let ec:SetTable.layClean m (es.map (·.1))=some ow:=by
  unfold SetTable.layClean;rw[<-Array.foldl_toList,hE.hashes];grind
 let lv:(List.range (m+1)).filterMap (λj=>(ow.getD j none).map λk=>(j,k))=(upTo m L).map λj=>(j,L.idxOf j):=by
  unfold upTo;rw[<-ę];apply QD;intro j hj;rw[Z96.2 j ()];grind
 show⟨((upTo m L).map λj=>L.idxOf j).toArray,?_,?_,?_⟩
 ·unfold SetTable.laid;rw[ec];show some _=some _;let:(List.range (m+1)).filterMap (λj=>(ow.getD j none).map (j,·))=(upTo m L).map λj=>(j,L.idxOf j):=lv;rw[this,lY,lY];let i1:((λ(x:Nat×Nat)=>x.1)∘λj=>(j,L.idxOf j))=λj=>j:=rfl;let i2:((λ(x:Nat×Nat)=>x.2)∘λj=>(j,L.idxOf j))=λj=>L.idxOf j:=rfl;rw[i1,i2,List.map_id']
 ·unfold Es;rw[Array.toList_filterMap];show a2j hE (upTo m L) λv hv=>(mem_upTo hle).mp hv
 ·unfold coversAll;rw[List.isPerm_iff,hE.len];let p:=(ye hle nd).map λv=>L.idxOf v;rw[a0E nd]at p;show p
def VP(h:∀v∈L,v<16)(hm:15<=m)(nd:L.Nodup):(upTo m L).length=L.length:=(ye (λv hv=>by let:=h v hv;omega) nd).length_eq
def Az(h:n<2^40):n<SetTable.sizeAbove n:=by
 let go:∀fuel size,n<size*2^fuel->n<SetTable.sizeAbove.go n fuel size:=by
  intro fuel
  induction fuel with
  |zero=>intro size h;unfold SetTable.sizeAbove.go;simpa using h
  |succ f ih =>
   intro size h;unfold SetTable.sizeAbove.go;split
   ·show ih _ (by rw[Nat.pow_succ]at h;rw[Nat.mul_assoc,Nat.mul_comm 2];show h)
   ·omega
 show go 64 8 ()
def Ba(h:8<=n):16<=SetTable.sizeAbove n:=by
 let go:∀fuel size,16<=size->16<=SetTable.sizeAbove.go n fuel size:=by
  intro fuel
  induction fuel with
  |zero=>intro size h;unfold SetTable.sizeAbove.go;show h
  |succ f ih =>
   intro size h;unfold SetTable.sizeAbove.go;split
   ·show ih _ ()
   ·show h
 unfold SetTable.sizeAbove;unfold SetTable.sizeAbove.go;rw[aB h];show go 63 _ ()
def Tb.fits{B:Bool}{t:SetTable}{L:ay}(T:Tb B t L):t.fits L.length=true:=by
 unfold SetTable.fits SetTable.fill;let:=T.sz;rw[T.dm];rcases T.sh with⟨a,b⟩|⟨a,b,c⟩<;>simp[this]<;>omega
def Ov{B:Bool}{mv:Nat}(hm:15<=m)(nd:L.Nodup)(hlt:∀v∈L,v<16)(hr:L.length*5<m*3) :
  Tb B { mask:=m,place:=(upTo m L).toArray,dummies:=#[],finger:=f,led:=!B,moves:=mv,plain:=true} (upTo m L) where
 dm:=rfl
 pl:=rfl
 led:=rfl
 up:=by simpa using Ot m L
 sz:=by simp
 nd:=Et (Ot m L)
 lt:=λv hv=>hlt v ((mem_upTo (λv hv=>by grind)).mp hv)
 sh:=.inr ⟨hm,by simp,by rw[VP hlt hm nd];show hr⟩
def Ě{B:Bool}{t:SetTable}(hp:t.plain=true)(hl:t.led = !B)(hE:Es es L)(nd:L.Nodup)(hlt:∀v∈L,v<16)(hn:8<=n)(h2:2*L.length<=n)(hb:n<2^40) :
  ∃es' t' L',relayAll t es n=(es',t',false)/\Es es' L'/\Tb B t' L'/\L'.Perm L:=by
 let a1:=Az hb;let a2:=Ba hn;let hm:15<=SetTable.sizeAbove n-1:=()
 let⟨order,e,hE',hc⟩:=Ou (f:=t.finger) (mv:=t.movedTo (SetTable.sizeAbove n-1)) (led:=!B) (plain:=true) hm hE nd hlt;let T:=Ov (B:=B) (f:=t.finger) (mv:=t.movedTo (SetTable.sizeAbove n-1)) hm nd hlt ();show⟨_,_,_,?_,hE',T,ye (λv hv=>by let:=hlt v hv;omega) nd⟩;unfold relayAll SetTable.relaid;rw[hp,hl,e];lk;let z:=hE'.len;rw[hc,z,T.fits];rfl
end Sm
namespace Sm
variable{L:ay}{es:Array (Int×Value)}{h:Heap}{a:Addr}{B:Bool}{tk:Nat}
abbrev lE(es:Array (Int×Value))(ep:Nat)(t:SetTable):Obj:={ cls:=.type "set",dict:=none,data:=.set es ep t,slots:=#[]}
def jq(B:Bool)(h:Heap)(a:Addr)(L:ay):Prop:=∃es ep t,h.get? a=some (lE es ep t)/\Es es L/\Tb B t L
def qy(h:Heap)(a:Addr):Prop:=∃es ep t,h.get? a=some (lE es ep t)/\(t.mask=7\/5<=es.size)
def qy.keep{h':Heap}(S:qy h a)(k:∀o,h.get? a=some o->h'.get? a=some o):qy h' a :=
 let⟨es,ep,t,ho,r⟩:=S;⟨es,ep,t,k _ ho,r⟩
def jq.keep{h':Heap}(S:jq B h a L)(k:∀o,h.get? a=some o->h'.get? a=some o):jq B h' a L :=
 let⟨es,ep,t,ho,r⟩:=S;⟨es,ep,t,k _ ho,r⟩
def Tb.len{t:SetTable}(T:Tb B t L):L.length<=16:=by
 let:=VN L (List.range 16) T.nd λx hx=>gA.mpr (T.lt x hx);simpa using this
def VR:∀v:Nat,v<16->hashInt ((v:Nat):Int)=((v:Nat):Int):=by decide
def Es.elems{prog:Program}{w:World}(h:Es es L)(lt:∀v∈L,v<16):ElemsOf (intKind prog w) es.toList:=by
 unfold Es at h;generalize es.toList=l at h
 induction h with
 |nil=>intro e he;simp at he
 | @cons x y xs ys r _ ih =>
  intro e he;rcases bO.mp he with rfl|he
  ·let⟨tk,e2⟩:=r.2;show⟨⟨((y:Nat):Int),?_,?_⟩,?_⟩
   ·show Value.isInt _ _=true;rw[e2];simp[Value.isInt]
   ·rw[r.1];show(VR y (lt y aZ)).symm
   ·rw[e2];rfl
  ·show ih (λv hv=>lt v (bJ _ hv)) e he
def Es.find(h:Es es L)(v:Nat):(es.toList.findIdx? λe=>Value.isInt ((v:Nat):Int) e.2).isSome=decide (v∈L):=by
 unfold Es at h;generalize es.toList=l at h
 induction h with
 |nil=>simp
 | @cons x y xs ys r _ ih =>
  let⟨tk,e2⟩:=r.2;rw[List.findIdx?_cons,e2];by_cases c:v=y
  ·subst c;simp[Value.isInt]
  ·let:Value.isInt ((v:Nat):Int) (.int ((y:Nat):Int) tk)=false:=by simp[Value.isInt];omega
   grind
section
variable{prog:Program}{w:World}{A:Around}{E:∅}{s:Shared}
def a0F{ep:Nat}{t:SetTable}{v:Nat}{ad:Bool}{Q:ScanMet->Shared->Prop}(ho:s^^^a=some (lE es ep t))(hE:Es es L)(T:Tb B t L)(hv:v<16)
  (h1:v∈L->∀j,Q (.found j) s) (h2:v∉L->Q .absent s):∎ (setScan a (.int ((v:Nat):Int) tk) ((v:Nat):Int) ad es) Q E s:=by
 let hf:t.fits es.size=true:=by rw[hE.len];show T.fits
 let sc:=wpAny_setScan_of (prog:=prog) (w:=w) (A:=A) (E:=E) (s:=s) (knd:=intKind prog w) (k:=((v:Nat):Int)) (x:=.int ((v:Nat):Int) tk) (adding:=ad) (Q:=Q) (by simp[intKind,Value.isInt]) ho Z hf (hE.elems T.lt) (by
  let q:=hE.find v;let e:(λe:Int×Value=>(intKind prog w).is ((v:Nat):Int) e.2)=λe=>Value.isInt ((v:Nat):Int) e.2:=rfl;grind)
 let e:(intKind prog w).hash ((v:Nat):Int)=((v:Nat):Int):=VR v hv;rw[e]at sc;show sc
def yg{es':Array (Int×Value)}{ep:Nat}{t t':SetTable}(ho:h.get? a=some (lE es ep t)):(h.update a (Obj.putSet es' t')).get? a=some (lE es' (ep+1) t'):=by
 let:=Cq (Obj.putSet es' t') ho (by rw[putSet_of es' t' rfl];rfl);rw[putSet_of es' t' rfl]at this;show this
def a0G(prog:Program)(w:World){t:SetTable}{v:Nat}(hE:Es es L)(T:Tb B t L):byScan (.int ((v:Nat):Int) tk) es=true :=
 byScan_of (knd:=intKind prog w) Z (by rw[hE.len];let:=T.len;unfold scanBound;omega) (hE.elems T.lt)
def ě{v:Nat}{Q:Bool->Shared->Prop}(S:jq B s.heap a L)(hv:v<16)
  (h:∀b h' L',Heap.SameBut a s.heap h'->jq B h' a L'->(∀u,u∈L'↔u=v\/u∈L)->(qy s.heap a->qy h' a)->Q b (s•h')) :
  ∎ (setAddHashed a (.int ((v:Nat):Int) tk) ((v:Nat):Int)) Q E s:=by
 let⟨es,ep,t,ho,hE,T⟩:=S;let hf:t.fits es.size=true:=by rw[hE.len];show T.fits
 unfold setAddHashed setAddHashedIn;show eV (M (wpAny_setState_of ho Z hf ?_));lk;rw[a0G prog w hE T];simp only[↓reduceIte];unfold setAddByScan;show M (M (j5 (M (a0F ho hE T hv (λhm j=>?_) λhm=>?_))))
 ·lk;show ao (ao ?_);let q:=h false s.heap L (Uo a s.heap) ⟨es,ep,t,ho,hE,T⟩ (λu=>⟨.inr,λc=>c.elim (λe=>e▸hm) id⟩) id;show q
 ·lk;let⟨t1,es1,p,e1,hE1,dm,pl,ld,mk,_,_,up,sz,own⟩:=a3w (x:=.int ((v:Nat):Int) tk) T hE hv hm ⟨tk,Z⟩;rw[e1];lk;show M (ao ?_);rw[pl];show M (ao ?_);simp only[↓reduceIte];let mem:∀u,u∈L.take p++v::L.drop p↔u=v\/u∈L:=λu=>by
   rw[cV,bO];let e:u∈L↔u∈L.take p\/u∈L.drop p:=by rw[<-cV,uw]
   rw[e];constructor
   ·rintro(c|c|c)
    ·show .inr (.inl c)
    ·show .inl c
    ·show .inr (.inr c)
   ·rintro(c|c|c)
    ·show .inr (.inl c)
    ·show .inl c
    ·show .inr (.inr c)
  let nd1:(L.take p++v::L.drop p).Nodup:=by
   let pm:(L.take p++v::L.drop p).Perm (v::L):=by
    let:L.take p++L.drop p=L:=uw p L;show List.perm_middle.trans (by rw[this])
   show pm.nodup_iff.mpr (je.mpr ⟨hm,T.nd⟩)
  let lt1:∀u∈L.take p++v::L.drop p,u<16:=λu hu=>((mem u).mp hu).elim (λe=>e▸hv) (T.lt u);let ln1:(L.take p++v::L.drop p).length=L.length+1:=by
   rw[cu,lV,dY,iK];omega
  let fl:t1.fill=L.length+1:=by unfold SetTable.fill;rw[dm,sz];rfl
  let l16:=T.len;let z1:es1.size=L.length+1:=by rw[hE1.len,ln1]
  show M (Hf ho Z ?_ (by rw[z1,gO];omega));let ho1:=yg (es':=es1) (t':=t1) ho;cases tf:t1.tooFull with
  |false =>
   simp only[Bool.not_false,Bool.and_false,Bool.false_eq_true,if_false];show ao (ao ?_);show h true _ _ (qJ ..) ⟨es1,ep+1,t1,ho1,hE1,⟨dm,pl,ld,up,by rw[ln1,sz],nd1,lt1,?_⟩⟩ mem (λ⟨es0,ep0,t0,ho0,d⟩=>⟨es1,ep+1,t1,ho1,by
    rw[ho]at ho0;cases ho0;rw[mk,z1];let:=hE.len;omega⟩)
   unfold SetTable.tooFull at tf;let tf':=Uj tf;rw[fl,mk]at tf';rw[ln1,mk];rcases T.sh with⟨m7,l4⟩|⟨Xw,pe,_⟩
   ·show .inl ⟨m7,()⟩
   ·show .inr ⟨Xw,own Xw,()⟩
  |true =>
   simp only[Bool.not_false,Bool.and_self,if_true];unfold SetTable.tooFull at tf;let tf':=dw tf;rw[fl,mk]at tf';let five:5<=L.length+1:=by
    rcases T.sh with⟨m7,l4⟩|⟨Xw,pe,_⟩<;>omega
   let gr:SetTable.grown es1.size=(L.length+1)*4:=by
    unfold SetTable.grown;rw[z1,aA ()]
   let⟨es2,t2,L2,e2,hE2,T2,pm⟩:=Ě (t:=t1) (n:=SetTable.grown es1.size) pl ld hE1 nd1 lt1 (by rw[gr];omega) (by rw[gr,ln1];omega) (by rw[gr];omega);rw[e2];lk;show M (ao ?_);show M (Hf ho1 Z ?_ (by rw[hE2.len,pm.length_eq,ln1,gO];omega));show ao (ao ?_);show h true _ L2 ((qJ ..).trans (qJ ..)) ⟨es2,_,t2,yg ho1,hE2,T2⟩ (λu=>(pm.mem_iff).trans (mem u)) λ_=>⟨es2,_,t2,yg ho1,.inr (by rw[hE2.len,pm.length_eq,ln1];show five)⟩
end
end Sm
namespace Sm
variable{es:Array (Int×Value)}{ep:Nat}
abbrev oN(w:World):Bool:=w.params.followText "set-order"
theorem Ia{α:Type}:∀(l:List α) (i:Nat) (h:i<l.length),(l[i]::l.eraseIdx i).Perm l
 |_::r,0,_=>.refl _
 |x::r,i+1,h=>by
  let q:=Ia r i (by simpa using h)
  rw[List.getElem_cons_succ,List.eraseIdx_cons_succ]
  show(List.Perm.swap x (r[i]'(by simpa using h)) (r.eraseIdx i)).trans (q.cons x)
def a0H{α:Type}(nx:Nat->Nat):∀(fuel k:Nat) (left:List α) (out:Array α),left.length<=fuel->(pickOrder.go nx fuel k left out).toList.Perm (out.toList++left):=by
 intro fuel
 induction fuel with
 |zero =>
  intro k left out h;let:left=[]:=Ms.mp ();subst this;unfold pickOrder.go;simp
 |succ f ih =>
  intro k left out h;unfold pickOrder.go;by_cases c:left=[]
  ·subst c;simp
  ·let pos:0<left.length:=Ud.mpr c;let lt:=Nat.mod_lt (nx k) pos;rw[bI lt];lk;show(ih (k+1) _ _ ()).trans ?_;rw[Array.toList_push,vH];show List.Perm.append_left _ (Ia left _ lt)
def KQ{α:Type}(nx:Nat->Nat)(xs:Array α):(pickOrder nx xs).toList.Perm xs.toList:=by
 let:=a0H nx xs.size 0 xs.toList #[] (by simp);unfold pickOrder;simpa using this
def Xx(a:Addr):setWalk a=(do
 let(xs,c,tb) <-setState a
 if <-setsByText then
  let q <-ask
  return pickOrder (q.params.setOrder a c) xs
 if !tb.plain&&xs.size>1 then return (<-drawOrder xs.size xs.toList).toArray
 (do if !tb.led&&xs.size>1 then unsupported "set:maker-not-led" : Sem Unit)
 return xs):=rfl
def Es.perm{L:ay}(h:Es es L){es':List (Int×Value)}(p:es'.Perm es.toList):∃L',Paired (λe v=>e.1=((v:Nat):Int)/\∃tk,e.2=Value.int ((v:Nat):Int) tk) es' L'/\L'.Perm L:=by
 show⟨es'.map λe=>e.1.toNat,?_,?_⟩
 ·let all:∀e∈es.toList,∃v:Nat,e.1=((v:Nat):Int)/\∃tk,e.2=Value.int ((v:Nat):Int) tk:=by
   unfold Es at h;generalize es.toList=l at h;clear p
   induction h with
   |nil=>intro e he;simp at he
   |cons r _ ih =>
    intro e he;rcases bO.mp he with rfl|he
    ·show⟨_,r⟩
    ·show ih e he
  let all':∀e∈es',∃v:Nat,e.1=((v:Nat):Int)/\∃tk,e.2=Value.int ((v:Nat):Int) tk:=λe he=>all e (p.mem_iff.mp he);clear p
  induction es' with
  |nil=>show .nil
  |cons e r ih =>
   let⟨v,e1,e2⟩:=all' e aZ;rw[cC];show .cons ?_ (ih λx hx=>all' x (bJ _ hx));rw[e1];show⟨Z,e2⟩
 ·show(p.map λe=>e.1.toNat).trans ?_;unfold Es at h;generalize es.toList=l at h;let:l.map (λe=>e.1.toNat)=L:=by
   induction h with
   |nil=>rfl
   |cons r _ ih=>rw[cC,ih,r.1];rfl
  rw[this]
section
variable{prog:Program}{w:World}{A:Around}{E:∅}{s:Shared}{a:Addr}{L:ay}
def jA{t:SetTable}{B:Bool}{Q:(Array (Int×Value)×Nat×SetTable)->Shared->Prop}(ho:s^^^a=some (lE es ep t))(hE:Es es L)(T:Tb B t L)(h:Q (es,ep,t) s) :
  ∎ (setState a) Q E s:=wpAny_setState_of ho Z (by rw[hE.len];show T.fits) h
def rG{Q:Bool->Shared->Prop}(h:Q (oN w) s):∎ setsByText Q E s:=by
 unfold setsByText;show M (Ni (ao h))
def walk_at{t:SetTable}{Q:Array (Int×Value)->Shared->Prop}(ho:s^^^a=some (lE es ep t))(hE:Es es L)(T:Tb (oN w) t L)
  (h:∀es',es'.toList.Perm es.toList->Q es' s):∎ (setWalk a) Q E s:=by
 rw[Xx];show M (jA ho hE T (M (rG ?_)));let pl:=T.pl;let ld:=T.led;cases c:oN w with
 |true =>
  simp only[if_true];show M (Ni (ao (h _ (KQ _ _))))
 |false =>
  rw[c]at ld;simp only[pl,ld,Bool.not_true,Bool.not_false,Bool.false_and,Bool.false_eq_true,if_false];first|exact M (ao (ao (h _ .rfl)))|exact ao (h _ .rfl)
def Zc{t:SetTable}{others:aI}{f:Option Addr}{Q:Array (Int×Value)->Shared->Prop}(ho:s^^^a=some (lE es ep t))(hE:Es es L)(T:Tb (oN w) t L)
  (h:∀es',es'.toList.Perm es.toList->Q es' s):∎ (setWalkUnseen a others f) Q E s:=by
 unfold setWalkUnseen;show M (jA ho hE T (M (rG ?_)));let e:(oN w||(t.led&&t.plain)||decide (es.size<=1))=true:=by rw[T.led,T.pl];grind
 lk;rw[aB e];show walk_at ho hE T h
noncomputable def Xy(es:Array (Int×Value))(laid:Option (SetTable×Array Nat)):Sem (Array (Int×Value)×SetTable):=do
 let some (t,order):=laid
  |unsupported "internal:set-table-without-room"
 if(order.filterMap (es[·]?)).size != es.size then unsupported "internal:set-table-lost-an-element"
 pure (order.filterMap (es[·]?),t)
def Ĝ(a:Addr)(n:Nat):setRelay a n=(do
 let(es,_,t) <-setState a
 if SetTable.sizeAbove n>sizeLine then unsupported "set:memory"
 let(es,t) <-Xy es (t.relaid (es.map (·.1)) n)
 storeSet a es t):=rfl
def QF{t:SetTable}{order:Array Nat}{S:ay}{Q:Array (Int×Value)×SetTable->Shared->Prop}(hE':Es (order.filterMap (es[·]?)) S)(hz:es.size=S.length)(h:Q (order.filterMap (es[·]?),t) s) :
  ∎ (Xy es (some (t,order))) Q E s:=by
 unfold Xy;lk;let e:((order.filterMap (es[·]?)).size != es.size)=false:=by rw[hE'.len,hz];simp
 simp only[e,Bool.false_eq_true,if_false];first|exact M (ao (ao h))|exact ao h
def ĝ{n:Nat}(h:n<=64):SetTable.sizeAbove n<=128:=by
 let:∀n,n<=64->SetTable.sizeAbove n<=128:=()
 grind
def a0I{more:Nat}{Q:Unit->Shared->Prop}{B:Bool}(S:jq B s.heap a L)(hm:more<=16)
  (h:∀h' es ep t L',Heap.SameBut a s.heap h'->h'.get? a=some (lE es ep t)->Es es L'->Tb B t L'->L'.Perm L->(L.length+more)*5<t.mask*3->Q ⟨⟩ (s•h')):∎ (setRoomFor a more) Q E s:=by
 let⟨es,ep,t,ho,hE,T⟩:=S;unfold setRoomFor;show M (jA ho hE T ?_);let fl:t.fill=L.length:=by unfold SetTable.fill;rw[T.dm,T.sz];rfl
 let l16:=T.len;unfold SetTable.roomFor;lk;rw[fl,T.sz];by_cases c:(L.length+more)*5>=t.mask*3
 ·rw[aB c];lk;rw[Ĝ];show M (jA ho hE T ?_);let five:5<=L.length+more:=by
   rcases T.sh with⟨m7,_⟩|⟨Xw,_,_⟩<;>omega
  let b1:=Az (n:=(L.length+more)*2) ();let b2:=Ba (n:=(L.length+more)*2) ();let b3:=ĝ (n:=(L.length+more)*2) ();lk;rw[aA (by rw[gO];omega)];let hm':15<=SetTable.sizeAbove ((L.length+more)*2)-1:=()
  let⟨order,e,hE',hc⟩:=Ou (f:=t.finger) (mv:=t.movedTo (SetTable.sizeAbove ((L.length+more)*2)-1)) (led:=t.led) (plain:=t.plain) hm' hE T.nd T.lt;unfold SetTable.relaid;rw[e];let lz:=VP T.lt hm' T.nd;show M (QF hE' (by rw[hE.len,lz]) ?_);show Hf ho Z ?_ (by rw[hE'.len,lz,gO];omega);let T':=Ov (B:=B) (f:=t.finger) (mv:=t.movedTo (SetTable.sizeAbove ((L.length+more)*2)-1)) hm' T.nd T.lt ();rw[<-T.led,<-T.pl]at T';show h _ _ _ _ _ (qJ ..) (yg ho) hE' T' (ye (λv hv=>by let:=T.lt v hv;omega) T.nd) (by show _<(SetTable.sizeAbove ((L.length+more)*2)-1)*3;omega)
 ·rw[aA c];show ao (h s.heap es ep t L (Uo a s.heap) ho hE T .rfl ())
end
end Sm
namespace Sm
def Ğ(sA oA:Addr)(each:Sem Unit):setMerge sA oA each=(do
 if sA==oA then return
 let(eo,epoch,to) <-setState oA
 if eo.isEmpty then return
 setRoomFor sA eo.size
 let(_,_,ts) <-setState sA
 match ts.road to with
 |.slotForSlot =>
  storeSet sA eo { to with finger:=ts.finger,led:=ts.led&&to.led,moves:=ts.moves,plain:=ts.plain&&to.plain}
 |.clean =>
  let(es,t) <-Xy eo (SetTable.laid ts.mask ts.finger ts.moves (ts.led&&to.led) (ts.plain&&to.plain) (eo.map (·.1)))
  storeSet sA es t
 |.oneByOne =>
  for (h,x)in <-setWalkUnseen oA [sA] (some sA) do
   let _ <-holding [x] (setAddHashed sA x h)
   each
   if(<-setState oA).2.1 != epoch then unsupported "set.changed-during-merge"):=rfl
section
variable{prog:Program}{w:World}{A:Around}{E:∅}{s:Shared}{sA oA:Addr}{L1 L2:ay}
def QG{each:Sem Unit}{Q:Unit->Shared->Prop}(ne:sA≠oA)(S1:jq (oN w) s.heap sA L1)(S2:jq (oN w) s.heap oA L2)(D:qy s.heap oA)
  (he:∀(s':Shared) (Q':Unit->Shared->Prop),(∀o,s^^^oA=some o->s'^^^oA=some o)->Q' ⟨⟩ s'->∎ each Q' E s')
  (h:∀h' L,Heap.SameBut sA s.heap h'->jq (oN w) h' sA L->(∀u,u∈L↔u∈L1\/u∈L2)->Q ⟨⟩ (s•h')):∎ (setMerge sA oA each) Q E s:=by
 let⟨eo,ep,to,ho,hE,T⟩:=S2;rw[Ğ];let nb:(sA==oA)=false:=qI.mpr ne;rw[nb];simp only[Bool.false_eq_true,if_false];show M (jA ho hE T ?_);lk;let hz:=hE.len;let l16:=T.len;by_cases c:eo.isEmpty=true
 ·rw[aB c];let l0:L2.length=0:=by rw[<-hz];simpa using c
  let:L2=[]:=Ms.mp l0;subst this;show ao (h s.heap L1 (Uo _ _) S1 λu=>by simp)
 rw[aA c];show M (a0I S1 () λh1 es1 ep1 t1 L1' QH ho1 hE1 T1 pm hr=>?_);let ho':h1.get? oA=some (lE eo ep to):=by rw[QH.2 oA (Ne.symm ne)];show ho
 show M (jA (s:=(s•h1)) ho1 hE1 T1 ?_);lk;let fl:t1.fill=L1'.length:=by unfold SetTable.fill;rw[T1.dm,T1.sz];rfl
 unfold SetTable.road;rw[fl,pm.length_eq];let ld:(t1.led&&to.led) = !oN w:=by rw[T1.led,T.led];simp
 let pl:(t1.plain&&to.plain)=true:=by rw[T1.pl,T.pl];rfl
 by_cases e0:L1.length=0
 ·let n1:L1=[]:=Ms.mp e0;let nb:(L1.length != 0)=false:=by rw[e0];rfl
  rw[nb];simp only[Bool.false_eq_true,if_false];let dmt:to.dummies.isEmpty=true:=by rw[T.dm];rfl
  by_cases em:t1.mask=to.mask
  ·let:(t1.mask==to.mask&&to.dummies.isEmpty)=true:=()
   rw[this];simp only[if_true];show Hf (s:=(s•h1)) ho1 rfl ?_ (by rw[hz,gO];omega);show h _ L2 (QH.trans (qJ ..)) ⟨eo,_,_,yg ho1,hE,⟨T.dm,pl,ld,T.up,T.sz,T.nd,T.lt,T.sh⟩⟩ λu=>by rw[n1];simp
  ·let:(t1.mask==to.mask&&to.dummies.isEmpty)=false:=()
   rw[this];simp only[Bool.false_eq_true,if_false];let Xw:15<=t1.mask:=by
    let⟨es0,ep0,t0,ho0,d⟩:=D;rw[ho]at ho0;cases ho0;rcases T1.sh with⟨m7,_⟩|⟨Xw,_⟩
    ·grind
    ·show Xw
   let⟨order,e,hE',hc⟩:=Ou (f:=t1.finger) (mv:=t1.moves) (led:=t1.led&&to.led) (plain:=t1.plain&&to.plain) Xw hE T.nd T.lt;rw[e];let lz:=VP T.lt Xw T.nd;show M (QF hE' (by rw[hz,lz]) ?_);show Hf (s:=(s•h1)) ho1 rfl ?_ (by rw[hE'.len,lz,gO];omega);let T':=Ov (B:=oN w) (f:=t1.finger) (mv:=t1.moves) Xw T.nd T.lt ();rw[<-ld,<-pl]at T';show h _ _ (QH.trans (qJ ..)) ⟨_,_,_,yg ho1,hE',?_⟩ λu=>?_
   ·grind
   ·rw[n1,mem_upTo (λv hv=>by let:=T.lt v hv;omega)];simp
 ·let nb:(L1.length != 0)=true:=by simp[e0]
  rw[nb];simp only[if_true];show M (Zc (s:=(s•h1)) ho' hE T λes' pe=>?_);let⟨R,hR,pR⟩:=hE.perm pe;show M ?_;rw[<-Uk];show wpAny_forIn_list _ (λrest _ s'=>∃h' L R,s'=(s•h')/\Heap.SameBut sA s.heap h'/\jq (oN w) h' sA L/\Paired (λ(e:Int×Value) (v:Nat)=>e.1=((v:Nat):Int)/\∃tk,e.2=Value.int ((v:Nat):Int) tk) rest R/\
   (∀v∈R,v<16)/\∀u,(u∈L\/u∈R)↔(u∈L1\/u∈L2)) _ ?_ ?_ _ _ ⟨h1,L1',R,Z,QH,⟨es1,ep1,t1,ho1,hE1,T1⟩,hR,λv hv=>T.lt v (pR.mem_iff.mp hv),λu=>by rw[pm.mem_iff,pR.mem_iff]⟩
  ·rintro⟨hh,x⟩ rest b s' ⟨h',L,R',rfl,sb,S,hP,lt,mem⟩;cases hP with
   | @cons _ v _ R'' r t =>
    let⟨e1,tk,e2⟩:=r;dsimp only at e1 e2;subst e1;subst e2;lk;show M (eV (ě (s:=(s•h')) S (lt v aZ) λb2 h2 L' sb2 S' mem' _=>?_));let sb3:=sb.trans sb2;let oo:h2.get? oA=some (lE eo ep to):=by rw[sb3.2 oA (Ne.symm ne)];show ho
    show M (he _ _ (λo q=>by grind) (M (jA (s:=(s•h2)) oo hE T ?_)));simp only[bne_self_eq_false,Bool.false_eq_true,if_false];show ao ⟨h2,L',R'',Z,sb3,S',t,λu hu=>lt u (bJ _ hu),λu=>?_⟩;grind
  ·rintro b s' ⟨h',L,R',rfl,sb,S,hP,lt,mem⟩;cases hP;show ao (h h' L sb S λu=>by rw[<-mem u];simp)
end
end Sm
namespace Sm
open PySem.Builtin.Frozenset
variable{Q:∅}{B:Bool}
def V0:isSubtype (.type "set") (.type "set")=pure true:=by rw[U0];kernel_rfl
def ğ:entryFor table "set.__or__" = some Builtin.«frozenset.__or__» := Nt (id':="frozenset.__or__") (by kernel_rfl) Z () (by kernel_rfl)
def V1:entryFor table "set.__iter__" = some Builtin.«frozenset.__iter__» := Nt (id':="frozenset.__iter__") (by kernel_rfl) Z () (by kernel_rfl)
noncomputable def Ow(id:String)(l:Addr)(r:Value):Sem Value:=do
 let result <-copyOf l
 if r != .ref l then
  let q <-addrOf result
  holding [result] (updateFrom id q r)
 return result
def or_eq(x y:Value):Builtin.«frozenset.__or__» ⟨[x,y],[]⟩=(do
 let(self,cP) <-slot1 "__or__" ⟨[x,y],[]⟩
 if !(<-isAnySet self <&&> isAnySet cP)then
  rule s!"frozenset.{"__or__"}.declined"
  return <-ret .notImplemented
 ret (<-Ow s!"frozenset.{"__or__"}" (<-addrOf self) cP)):=rfl
section
variable{prog:Program}{w:World}{A:Around}{E:∅}{s:Shared}{a b:Addr}{L1 L2:ay}
def QJ(B:Bool):Tb B (.fresh 0 0 (!B)) []:=⟨Z,Z,Z,.nil,Z,.nil,λv h=>by simp at h,.inl ⟨Z,by simp⟩⟩
def a3x(h:Q (.ref s⁻¹) (s•s.heap.push (lE #[] 0 (.fresh 0 0 (!oN w))))):∎ (newSet (.type "set")) Q E s:=by
 unfold newSet;show M (rG ?_);lk;simp only[newObj];show M (wpAny_alloc (ao h))
def jq.type(S:jq B s.heap a L1):s.TypeIs (.ref a) "set" := let⟨_,_,_,ho,_⟩:=S;⟨_,ho,Z⟩
def V2{Q:Bool->Shared->Prop}(S:jq B s.heap a L1)(h:Q true s):∎ (isAnySet (.ref a)) Q E s:=by
 unfold isAnySet orM;show M (vI S.type V0 (ao h))
def a0J(S:jq (oN w) s.heap a L1)(D:qy s.heap a)
  (h:∀h' L,(∀b o,s^^^b=some o->h'.get? b=some o)->jq (oN w) h' s⁻¹ L->(∀u,u∈L↔u∈L1)->Q (.ref s⁻¹) (s•h')):∎ (copyOf a) Q E s:=by
 unfold copyOf baseOf;show M (M (vI S.type V0 (ao ?_)));simp only[if_true];show M (a3x ?_);show wpAny _ _ (do setMerge s⁻¹ a;pure (Value.ref s⁻¹)) _ _ _;let lt:a<s⁻¹:=by
  let⟨_,_,_,ho,_⟩:=S;show bw ho
 let k:∀b o,s^^^b=some o->(s.heap.push (lE #[] 0 (.fresh 0 0 (!oN w)))).get? b=some o:=λb o e=>bM _ e;show M (QG (s:=(s•s.heap.push (lE #[] 0 (.fresh 0 0 (!oN w))))) (L1:=[]) (iM lt) ⟨#[],0,_,cB _ rfl,.nil,QJ _⟩ (S.keep (k a)) (D.keep (k a)) (λs' Q' _ q=>ao q) λh' L sb S' mem=>?_);show ao (h h' L (λb o e=>?_) S' λu=>by grind);let lb:=bw e;rw[sb.2 b (bV lb)];show k b o e
def Ib{es:Array (Int×Value)}{ep:Nat}{t:SetTable}{Q:Nat->Shared->Prop}(ho:s^^^a=some (lE es ep t))(hE:Es es L1)(T:Tb B t L1)(h:Q ep s):∎ (setEpoch a) Q E s :=
 wpAny_setEpoch_of ho Z (by rw[hE.len];show T.fits) h
def Ġ{id:String}(ne:a≠b)(S1:jq (oN w) s.heap a L1)(D1:qy s.heap a)(S2:jq (oN w) s.heap b L2)(D2:qy s.heap b)
  (h:∀h' L,(∀b o,s^^^b=some o->h'.get? b=some o)->jq (oN w) h' s⁻¹ L->(∀u,u∈L↔u∈L1\/u∈L2)->Q (.ref s⁻¹) (s•h')) :
  ∎ (Ow id a (.ref b)) Q E s:=by
 unfold Ow;show M (a0J S1 D1 λh1 L k S mem=>?_);let nb:(Value.ref b != Value.ref a)=true:=()
 rw[nb];simp only[if_true];let S2':=S2.keep (k b);let D2':=D2.keep (k b);let lt:b<s⁻¹:=by
  let⟨_,_,_,ho,_⟩:=S2;show bw ho
 let S2c:=S2';let⟨es,ep,t,ho,hE,T⟩:=S2c;show wpAny _ _ (holding [Value.ref s⁻¹] (updateFrom id s⁻¹ (.ref b)) >>= λ_=>pure (Value.ref s⁻¹)) _ _ _;show M (eV ?_);unfold updateFrom;show M (V2 (s:=(s•h1)) S2' ?_);simp only[if_true];show wpAny _ _ (merge id s⁻¹ b) _ _ _;unfold merge;show M (Ib (s:=(s•h1)) ho hE T (QG (s:=(s•h1)) (iM lt) S S2' D2' (λs' Q' ks q=>?_) λh' L' sb S' mem'=>?_))
 ·unfold unchanged;show M (Ib (s:=s') (ks _ ho) hE T ?_);simp only[bne_self_eq_false,Bool.false_eq_true,if_false];show ao q
 ·show ao (h h' L' (λc o e=>?_) S' λu=>by rw[mem' u,mem u]);rw[sb.2 c (bV (bw e))];show k c o e
def a5F(ne:a≠b)(S1:jq (oN w) s.heap a L1)(D1:qy s.heap a)(S2:jq (oN w) s.heap b L2)(D2:qy s.heap b)
  (h:∀h' L,(∀b o,s^^^b=some o->h'.get? b=some o)->jq (oN w) h' s⁻¹ L->(∀u,u∈L↔u∈L1\/u∈L2)->Q (.ref s⁻¹) (s•h')) :
  ∎ (binaryOp .BitOr (.ref a) (.ref b)) Q E s:=by
 show wpAny_binaryOp_same S1.type S2.type F.fills_set_or F.slot_set_or (gG F.slot_set_or S1.type ğ ?_ (F.args_set_or_2 _ _));rw[or_eq];show M (m:=slot1 "__or__" _) (ao ?_);lk;unfold andM;show M (M (V2 S1 (V2 S2 ?_)));simp only[Bool.not_true,Bool.false_eq_true,if_false];show wpAny _ _ (Ow _ a (.ref b) >>= λv=>ret v) _ _ _;show M (Ġ ne S1 D1 S2 D2 λh' L k S mem=>?_);show ao ⟨_,Z,by simp,h h' L k S mem⟩
end
end Sm
namespace Sm
def lF:Slot "set_iterator" "__next__" "set_iterator.__next__" := .of (owner:="set_iterator") (n:="__next__") (by rw[typeLookup_type,builtinLookup_eq_fast];kernel_rfl) () () () (by first|exact .inl ()|exact .inr ()) (by rw[U0];kernel_rfl)
def yK:entryFor table "set_iterator.__next__" = some Builtin.«set_iterator.__next__» := entryFor_of_fast (by kernel_rfl)
def Bb(a:Value):argsOk "set_iterator.__next__" ⟨[a],[]⟩:=by unfold argsOk;kernel_rfl
def Bc:Slot "set_iterator" "__iter__" "set_iterator.__iter__" := .of (owner:="set_iterator") (n:="__iter__") (by rw[typeLookup_type,builtinLookup_eq_fast];kernel_rfl) () () () (by first|exact .inl ()|exact .inr ()) (by rw[U0];kernel_rfl)
def Ox(a:Value):argsOk "set_iterator.__iter__" ⟨[a],[]⟩:=by unfold argsOk;kernel_rfl
end Sm
namespace Sm
variable{es:Array (Int×Value)}{ep:Nat}
def JZ:entryFor table "set_iterator.__iter__" = some Builtin.«dict_keyiterator.__iter__» := Nt (id':="dict_keyiterator.__iter__") (by kernel_rfl) Z () (by kernel_rfl)
noncomputable def walked(w:World)(a:Addr)(ep:Nat)(es:Array (Int×Value)):Array (Int×Value):=if oN w=true then pickOrder (w.params.setOrder a ep) es else es
def Eu(w:World)(a:Addr)(ep:Nat)(es:Array (Int×Value)):(walked w a ep es).toList.Perm es.toList:=by
 unfold walked;split
 ·show KQ _ _
 ·show .rfl
def qz(w:World)(a:Addr)(ep:Nat)(es:Array (Int×Value)):(walked w a ep es).size=es.size:=by
 let:=(Eu w a ep es).length_eq;simpa using this
def a0K(a:Addr)(slot given epochThen:Nat):setNext a slot given epochThen=(do
 let(xs,c,tb) <-setState a
 if <-setsByText then
  if c != epochThen then
   unsupported "set_iterator.__next__:elements-changed"
  let zs <-setWalk a
  return (zs[given]?).map λz=>(z.2,slot)
 if !tb.plain&&xs.size>1 then
  unsupported "set_iterator.__next__:the-table-is-plain-no-more"
 (do if !tb.led && !xs.isEmpty then unsupported "set:maker-not-led" : Sem Unit)
 return match xs[SetTable.below tb.place slot]?,tb.place[SetTable.below tb.place slot]? with
  |some (_,z),some m=>some (z,m+1)
  |_,_=>none):=rfl
noncomputable def nQ(B:Bool)(t:SetTable)(i:Nat):Nat:=if B=true then 0 else if i=0 then 0 else t.place.getD (i-1) 0+1
def V3{B:Bool}{t:SetTable}{L:ay}(T:Tb B t L)(hB:B=false):∀i,i<=L.length->SetTable.below t.place (nQ B t i)=i
 |0,_=>by
  unfold nQ
  rw[hB]
  show VH T.up
 |k+1,h=>by
  unfold nQ
  rw[hB]
  let hk:k<t.place.size:=by rw[T.sz];omega
  simp only[Bool.false_eq_true,if_false,Nat.add_sub_cancel]
  rw[aA ()]
  let:t.place.getD k 0=t.place[k]:=by simp[Array.getD,hk]
  rw[this]
  show VJ T.up hk
section
variable{prog:Program}{w:World}{A:Around}{E:∅}{s:Shared}{a:Addr}{L:ay}
def a0L{t:SetTable}{Q:Array (Int×Value)->Shared->Prop}(ho:s^^^a=some (lE es ep t))(hE:Es es L)(T:Tb (oN w) t L)
  (h:Q (walked w a ep es) s):∎ (setWalk a) Q E s:=by
 rw[Xx];show M (jA ho hE T (M (rG ?_)));let pl:=T.pl;let ld:=T.led;unfold walked at h;cases c:oN w with
 |true =>
  rw[c]at h;simp only[if_true]at h ⊢;show M (Ni (ao h))
 |false =>
  rw[c]at ld h;simp only[pl,ld,Bool.not_true,Bool.not_false,Bool.false_and,Bool.false_eq_true,if_false]at h ⊢;first|exact M (ao (ao h))|exact ao h
def QK{i:Nat}{t:SetTable}{Q:Option (Value×Nat)->Shared->Prop}(ho:s^^^a=some (lE es ep t))(hE:Es es L)(T:Tb (oN w) t L)(hi:i<=L.length)
  (h:Q (((walked w a ep es)[i]?).map λe=>(e.2,nQ (oN w) t (i+1))) s):∎ (setNext a (nQ (oN w) t i) i ep) Q E s:=by
 rw[a0K];show M (jA ho hE T (M (rG ?_)));let pl:=T.pl;let ld:=T.led;cases c:oN w with
 |true =>
  simp only[if_true,bne_self_eq_false,Bool.false_eq_true,if_false];show M (a0L ho hE T (ao ?_));rw[c]at h;unfold nQ at h ⊢;grind
 |false =>
  rw[c]at ld h;simp only[pl,ld,Bool.not_true,Bool.not_false,Bool.false_and,Bool.false_eq_true,if_false];let bs:=V3 T c i hi;rw[c]at bs;rw[bs];let wk:walked w a ep es=es:=by unfold walked;rw[c];rfl
  rw[wk]at h;let e:(match es[i]?,t.place[i]? with
   |some (_,z),some m=>some (z,m+1)
   |_,_=>none)=(es[i]?).map λe=>(e.2,nQ false t (i+1)):=by
   by_cases q:i<L.length
   ·let h1:i<es.size:=by rw[hE.len];show q
    let h2:i<t.place.size:=by rw[T.sz];show q
    rw[yQ h1,yQ h2];unfold nQ;simp[Array.getD,h2]
   ·let h1:es[i]?=none:=Mv (by rw[hE.len];omega);rw[h1];rfl
  first
  |exact M (ao (ao (by rw[e];show h)))
  |exact ao (by rw[e];show h)
abbrev itO(sl i:Nat)(a:Addr)(n ep:Nat):Obj:={ cls:=.type "set_iterator",dict:=none,data:=.fields #[.int (sl:Nat) 0,.int (i:Nat) 0,.ref a,.int (n:Nat) 0,.int (ep:Nat) 0],slots:=#[]}
def item_at{I:Addr}{i:Nat}{t:SetTable}{e:Int×Value}{Q:Option Value->Shared->Prop}(ne:a≠I)(ho:s^^^a=some (lE es ep t))(hE:Es es L)(T:Tb (oN w) t L)
  (hI:s^^^I=some (itO (nQ (oN w) t i) i a L.length ep)) (hw:(walked w a ep es)[i]?=some e)
  (h:∀h',h'.get? I=some (itO (nQ (oN w) t (i+1)) (i+1) a L.length ep)->Heap.SameBut I s.heap h'->Q (some e.2) (s•h')):∎ (pyNext (.ref I)) Q E s:=by
 let hi:i<L.length:=by
  rcases wZ i (walked w a ep es).size with q|q
  ·rw[qz,hE.len]at q;show q
  grind
 let hT:s.TypeIs (.ref I) "set_iterator" :=⟨_,hI,Z⟩;unfold pyNext;show M (uF (nF (name:=Str.ofString "__next__") hT lF (gG lF hT yK ?_ (Bb _))));unfold Builtin.«set_iterator.__next__»;show M (m:=slotArgs "__next__" 0 _) (ao ?_);lk;show M (CK hI Z ?_);lk;unfold setEntries;show M (M (jA ho hE T (ao ?_)));let z:(((es.size:Nat):Int) !=((L.length:Nat):Int))=false:=by rw[hE.len];simp
 lk;rw[z];simp only[Bool.false_eq_true,if_false,Int.toNat_natCast];show M (QK ho hE T () ?_);rw[hw];dsimp only[Option.map];show M (j4 hI (by simp) λh1 hI1 QH=>M (j4 (s:=(s•h1)) hI1 (by simp) λh2 hI2 sb2=>ao ⟨_,Z,ao (h h2 ?_ (QH.trans sb2))⟩));rw[hI2];simp[rawInt]
def Ie{I:Addr}{t:SetTable}{Q:Option Value->Shared->Prop}(hh:A.handled=none)(ne:a≠I)(ho:s^^^a=some (lE es ep t))(hE:Es es L)(T:Tb (oN w) t L)
  (hI:s^^^I=some (itO (nQ (oN w) t L.length) L.length a L.length ep))
  (h:∀h',Heap.ExtBut I s.heap h'->Q none (s•h')):∎ (pyNext (.ref I)) Q E s:=by
 let hT:s.TypeIs (.ref I) "set_iterator" :=⟨_,hI,Z⟩;unfold pyNext;show M (uF (nF (name:=Str.ofString "__next__") hT lF (gG lF hT yK ?_ (Bb _))));unfold Builtin.«set_iterator.__next__»;show M (m:=slotArgs "__next__" 0 _) (ao ?_);lk;show M (CK hI Z ?_);lk;unfold setEntries;show M (M (jA ho hE T (ao ?_)));let z:(((es.size:Nat):Int) !=((L.length:Nat):Int))=false:=by rw[hE.len];simp
 lk;rw[z];simp only[Bool.false_eq_true,if_false,Int.toNat_natCast];show M (QK ho hE T () ?_);rw[Mv (by rw[qz,hE.len];grind)];dsimp only[Option.map];show M (j4 hI (by simp) λh1 hI1 QH=>M ?_);simp only[newExc,newTuple];show M (jR ?_ (by size_fits));show M (m:=firstArgMember _ _) (Hs (a:=Value.none) (by first|rfl|(simp only[firstArgMember];rfl)) ?_);show jR ?_ (by size_fits);simp only[raiseNew];show M (NK ?_);rw[show A.in1.handled=none from hh];show M (ao (N6 ?_));show M (vI (U:="StopIteration") (T:="StopIteration") (b:=true) ⟨_,cB _ Z,Z⟩ Hj (ao (h _ ((QH.extBut.push _).push _))))
end
end Sm
namespace Sm
open PyProof.Rows
variable{a:Addr}{es:Array (Int×Value)}{ep:Nat}
section
variable{prog:Program}{w:World}{A:Around}{E:∅}{s:Shared}{L:ay}
def a3y{I:Addr}{t:SetTable}(hh:A.handled=none)(ne:a≠I)(hE:Es es L)(T:Tb (oN w) t L) :
  Walks prog w A I [I,a] [I] L.length (λi v=>∃e,(walked w a ep es)[i]?=some e/\v=e.2)
   (λi h=>h.get? I=some (itO (nQ (oN w) t i) i a L.length ep)/\h.get? a=some (lE es ep t)) where
 sub:=λb hb=>by grind
 frame:=λ_ _ _ st hk=>⟨hk I (by simp) _ st.1,hk a (by simp) _ st.2⟩
 item:=λi s Q E hi st hQ=>by
  obtain⟨e,he⟩:∃e,(walked w a ep es)[i]?=some e:=⟨_,yQ (by rw[qz,hE.len];show hi)⟩
  show item_at ne st.2 hE T st.1 he λh' hI sb=>?_
  show hQ _ h' s.toks ⟨e,he,Z⟩ ⟨hI,by rw[sb.2 a ne];show st.2⟩ λb o hb q=>by rw[sb.2 b (λc=>hb (by simp[c]))];show q
 done:=λs Q E st hQ=>Ie hh ne st.2 hE T st.1 λh' xb=>hQ h' s.toks λb o hb q=>xb b o (λc=>hb (by simp[c])) q
 self:=λi s Q E st hQ=>by
  let hT:s.TypeIs (.ref I) "set_iterator" :=⟨_,st.1,Z⟩
  show M6 hT Bc (gG Bc hT JZ ?_ (Ox _))
  show wpAny _ _ (ret (Value.ref I)) _ _ s;show ao ⟨_,Z,"set_iterator",_,hT,lF.lookup,hQ⟩
def ġ(a:Addr):setDrawn a=(do
 let(es,_,t) <-setState a
 let byText <-setsByText
 return !byText&&(!t.plain&&es.size>1)):=rfl
def Bd{t:SetTable}{Q:∅}(ho:s^^^a=some (lE es ep t))(hE:Es es L)(T:Tb (oN w) t L)
  (h:Q (.ref s⁻¹) (s•s.heap.push (itO 0 0 a L.length ep))):∎ (pyIter (.ref a)) Q E s:=by
 let hT:s.TypeIs (.ref a) "set" :=⟨_,ho,Z⟩;show M6 hT F.slot_set_iter (gG F.slot_set_iter hT V1 ?_ (F.args_set_iter_1 _));unfold Builtin.«frozenset.__iter__»;show M (m:=Builtin.Frozenset.slot0 _ _) (ao ?_);unfold Builtin.Frozenset.sizeOf setEntries;show M (M (M (jA ho hE T (ao (ao ?_)))));rw[ġ];show M (M (jA ho hE T (M (rG (ao ?_)))));rw[T.pl];simp only[Bool.not_true,Bool.false_and,Bool.and_false,Bool.false_eq_true,if_false];show M (ao (M (Ib ho hE T (M ?_))));unfold newFields;show jR (ao ⟨_,Z,"set_iterator",_,⟨_,cB _ Z,Z⟩,lF.lookup,?_⟩);rw[hE.len];show h
def a0M:(Value.type "set" == Value.type "list")=false:=by decide
def a3z:(Value.type "set" == Value.type "tuple")=false:=by decide
def Ģ:typeLookup (.type "set") "__len__" = pure (some (.builtin "set.__len__")):=F.slot_set_len.lookup
def split_len:splitId "set.__len__" = some ("set","__len__"):=by decide
def QS{t:SetTable}{Q:aw->Shared->Prop}(hh:A.handled=none)(ho:s^^^a=some (lE es ep t))(hE:Es es L)(T:Tb (oN w) t L)
  (h:∀(h':Heap) (tk:Nat),(∀b o,s^^^b=some o->h'.get? b=some o)->s⁻¹<h'.objs.size->Q ((walked w a ep es).toList.map (·.2)) { s with heap:=h',toks:=tk}):∎ (collect (.ref a)) Q E s:=by
 let lt:a<s⁻¹:=bw ho;unfold collect;show M (wpAny_runValue (lW F.entry_proto_collect ?_));rw[mO F.plain_proto_collect _];show wpAny _ A.in1 (newList [] >>= λl=>again (.builtin "list.__iadd__" ⟨[l,.ref a],[]⟩)) _ _ s;show M (jR (ao ⟨nJ F.plain_list_iadd _,lW F.entry_list_iadd ?_⟩));rw[mO F.plain_list_iadd _];let S0:(s.heap.push { cls:=.type "list",data:=.seq ([]:aw).toArray}).get? s⁻¹=some { cls:=.type "list",data:=.seq ([]:aw).toArray}:=cB _ rfl;let ho1:(s.heap.push { cls:=.type "list",data:=.seq ([]:aw).toArray}).get? a=some (lE es ep t):=bM _ ho;let hT1:Shared.TypeIs (s•s.heap.push { cls:=.type "list",data:=.seq ([]:aw).toArray}) (.ref a) "set" :=⟨_,ho1,rfl⟩;show wpAny _ A.in1 (Builtin.List.listExtendWith (.ref s⁻¹) (.ref a) (.ref s⁻¹)) _ _ (s•s.heap.push { cls:=.type "list",data:=.seq ([]:aw).toArray});unfold Builtin.List.listExtendWith;show M (rW hT1 ?_);let n1:Builtin.List.listSameRef (.ref s⁻¹) (.ref a)=false:=by simp[Builtin.List.listSameRef,Nat.ne_of_gt lt]
 simp only[n1,a0M,a3z,Bool.or_false,Bool.false_eq_true,if_false];show M (Bd ho1 hE T (M (eV ?_)));let ho2:((s.heap.push { cls:=.type "list",data:=.seq ([]:aw).toArray}).push (itO 0 0 a L.length ep)).get? a=some (lE es ep t):=bM _ ho1;let hT2:Shared.TypeIs (s•(s.heap.push { cls:=.type "list",data:=.seq ([]:aw).toArray}).push (itO 0 0 a L.length ep)) (.ref a) "set" :=⟨_,ho2,rfl⟩;unfold Builtin.List.listLengthHint;show M (Hi hT2 Ģ ?_);lk;rw[split_len];lk;show M (vI hT2 V0 ?_);rw[aA ()];rw[aB ()];show M (rW hT2 ?_);lk;show ao ?_;rw[aB ()];show M (j5 ?_);let lsz:(s.heap.push { cls:=.type "list",data:=.seq ([]:aw).toArray}).objs.size=s⁻¹+1:=N7 _ _;let S1:((s.heap.push { cls:=.type "list",data:=.seq ([]:aw).toArray}).push (itO 0 0 a L.length ep)).get? s⁻¹=some { cls:=.type "list",data:=.seq ([]:aw).toArray}:=bM _ S0;show M ?_;show wpAny _ A.in1 (updateSeq s⁻¹ (·.push .none) >>= λ_=>updateSeq s⁻¹ (·.pop)) _ _ _;show M (Uz S1 Z ?_);let S2:=Cq (Obj.mapSeq (·.push Value.none)) S1 rfl;show Uz S2 Z ?_;let S3:=Cq (Obj.mapSeq (·.pop)) S2 rfl;let oth:∀b o,b≠s⁻¹->((s.heap.push { cls:=.type "list",data:=.seq ([]:aw).toArray}).push (itO 0 0 a L.length ep)).get? b=some o->
   ((((s.heap.push { cls:=.type "list",data:=.seq ([]:aw).toArray}).push (itO 0 0 a L.length ep)).update s⁻¹ (Obj.mapSeq (·.push Value.none))).update s⁻¹ (Obj.mapSeq (·.pop))).get? b=some o :=
  λb o hb e=>(Tv _ _ (Ne.symm hb)).trans ((Tv _ _ (Ne.symm hb)).trans e)
 let neI:a≠(s.heap.push { cls:=.type "list",data:=.seq ([]:aw).toArray}).objs.size:=()
 let W:=(a3y (prog:=prog) (w:=w) (A:=A.in1) (I:=(s.heap.push { cls:=.type "list",data:=.seq ([]:aw).toArray}).objs.size) (ep:=ep) () neI hE T).toS;let l16:=T.len;let sl0:nQ (oN w) t 0=0:=by unfold nQ;split<;>rfl
 show ao ⟨nJ F.plain_extend_loop _,codeAny_extend_loopS W (by rw[gO];omega) _ (by
   grind) _ _ 0 _ #[] _ Z (dF _) ⟨?_,?_⟩ S3 (ItemsOf.nil _) λs' acc' c' hm hS' hacc=>?_⟩
 ·show oth _ _ () ?_;rw[sl0];show cB _ rfl
 ·show oth _ _ (bV lt) ho2
 ·let⟨h',g',d',tk',os'⟩:=s';let eg:g'=s.gens:=hm.gens;let ed:d'=s.drawn:=hm.drawn;let eo:os'=s.os:=hm.os;subst eg;subst ed;subst eo;show wpAny _ A (load s⁻¹ >>= _) _ _ _;show M (wpAny_load hS' ?_);lk;let el:acc'.toList=(walked w a ep es).toList.map (·.2):=by
   apply List.ext_getElem?;intro i;rw[GP,cH,GP];rcases wZ i acc'.size with q|q
   ·let⟨e,he,hv⟩:=hacc.2 i acc'[i] (yQ q);rw[yQ q,he,hv];rfl
   ·rw[Mv q,Mv (by rw[qz,hE.len,<-hacc.1];show q)];rfl
  rw[el];show ao (h h' tk' (λb o e=>?_) (bw hS'));let lb:b<s⁻¹:=bw e;show hm.heap b o () (oth b o (bV lb) (bM _ (bM _ e)))
def a3A{h:Heap}{b:Addr}{vs:aw}{out:Array Value}{o:Obj}(lb:b<h.objs.size)(ne:b≠a)(e:h.get? b=some o):(sortedHeap h a vs out).get? b=some o:=by
 unfold sortedHeap;rw[MF _ _ _ _ ne];show bM _ (bM _ (by rw[MF _ _ _ _ ne];show e))
def a5G{h:Heap}{vs:aw}{xs out:Array Value}{n:Nat}(e:h.get? a=some (seqObj "list" xs n)):∃n',(sortedHeap h a vs out).get? a=some (seqObj "list" out n'):=by
 unfold sortedHeap;show⟨_,Uy (bM _ (bM _ (Uy e λ_=>#[]))) λ_=>out⟩
def V4{Q:∅}(hh:A.handled=none)(S:jq (oN w) s.heap a L)
  (h:∀(h':Heap) (tk:Nat) (p:Addr) (vs:aw) (n:Nat) (ns:ae),(∀b o,s^^^b=some o->h'.get? b=some o)->s⁻¹<=p->h'.get? p=some (seqObj "list" vs.toArray n)->IntsAre vs ns->
   ns.Perm (L.map λv=>((v:Nat):Int))->ns.Pairwise (· <= ·)->Q (.ref p) { s with heap:=h',toks:=tk}):∎ (call (.builtin "sorted") [.ref a]) Q E s:=by
 let⟨es,ep,t,ho,hE,T⟩:=S;let l16:=T.len;apply Ý kind_sorted plain_sorted entry_sorted (args_sorted1 _);unfold Builtin.«sorted»;show M (m:=checkCount "sorted" 1 1 _) (ao ?_);show M (QS (by simpa using hh) ho hE T λh1 tk k lz=>?_);let⟨L',hP,pm⟩:=hE.perm (Eu w a ep es);let hl:L'.length=L.length:=pm.length_eq;let hI:IntsAre ((walked w a ep es).toList.map (·.2)) (L'.map λv=>((v:Nat):Int)):=by
  generalize (walked w a ep es).toList=l at hP;clear pm hl
  induction hP with
  |nil=>show .nil
  |cons r _ ih =>
   let⟨q,e⟩:=r.2;rw[cC,cC,e];show .cons _ q ih
 let hn:((walked w a ep es).toList.map (·.2)).length=L.length:=by rw[aH,uz,qz,hE.len]
 show M (U7 ?_ (by rw[hn,gO];omega));let o1:(h1.push (seqObj "list" ((walked w a ep es).toList.map (·.2)).toArray 0)).get? h1.objs.size=some (seqObj "list" ((walked w a ep es).toList.map (·.2)).toArray 0):=cB _ rfl;show M (eV (gG slot_list_sort ⟨_,o1,Z⟩ entry_list_sort (list_sort_tree o1 hI (by rw[hn];omega) λout ns a1 a2 a3=>⟨_,Z,?_⟩) (args_list_sort _)));let⟨n',o2⟩:=a5G (vs:=(walked w a ep es).toList.map (·.2)) (out:=out) o1;show ao ⟨_,Z,h _ _ _ out.toList n' ns (λb o e=>?_) (eY lz) (by simpa using o2) a1 (a2.trans (pm.map _)) a3⟩;let lb:b<h1.objs.size:=qN (bw e) lz;show a3A (by rw[N7];show GZ lb) (bV lb) (bM _ (k b o e))
end
end Sm
namespace Sm
open PyProof.Rows
section
variable{prog:Program}{w:World}{A:Around}{R:Result->Shared->Prop}{I:Addr}{fp wr:aI}{G:Array GenState->Array GenState->Prop}{n:Nat}{P:Nat->Value->Prop}{St:Nat->Shared->Prop}
def a0N(W:WalksS prog w A.in1 I fp wr G n P St)(S:Addr)(nf:S∉fp)(val:Nat->Nat)(hv:∀i v,i<n->P i v->∃t,v=.int ((val i:Nat):Int) t)(lt:∀i,i<n->val i<16) :
  ∀(k i:Nat) (s:Shared) (L:ay),n-i=k->i<=n->St i s->jq (oN w) s.heap S L->qy s.heap S->(∀u,u∈L↔∃j,j<i/\val j=u)->
   (∀s' L',Moved (S::wr) G s s'->jq (oN w) s'.heap S L'->qy s'.heap S->(∀u,u∈L'↔∃j,j<n/\val j=u)->R (.ok (.ret .none)) s')->
   codeAny (model prog w) A (.builtin "set.update.loop" ⟨[.ref S,.ref I],[]⟩) R s:=by
 let nw:S∉wr:=λh=>nf (W.sub _ h);let up:∀b∈wr,b∈S::wr:=λb hb=>bJ _ hb;intro k
 induction k with
 |zero =>
  intro i s L hk hi st hS hD mem hR;obtain rfl:i=n:=()
  show lW F.entry_set_update_loop ?_;rw[mO Tp _];show wpAny _ A.in1 (pyNext (.ref I) >>= _) _ _ s;show M (W.done s _ _ st λs' hm=>?_);show ao (hR s' L (hm.mono up) (hS.keep λo e=>hm.heap S o nw e) (hD.keep λo e=>hm.heap S o nw e) mem)
 |succ k ih =>
  intro i s L hk hi st hS hD mem hR;let li:i<n:=()
  show lW F.entry_set_update_loop ?_;rw[mO Tp _];show wpAny _ A.in1 (pyNext (.ref I) >>= _) _ _ s;show M (W.item i s _ _ li st λv s' hP st' hm=>?_);let⟨t,rfl⟩:=hv i v li hP;let hS':=hS.keep λo e=>hm.heap S o nw e;let hD':=hD.keep λo e=>hm.heap S o nw e;show wpAny _ A.in1 (holding [Value.int ((val i:Nat):Int) t] (setAdd S (.int ((val i:Nat):Int) t)) >>= _) _ _ s';show M (eV ?_);unfold setAdd;show eV (M ((intKind prog w).pyHash (k:=((val i:Nat):Int)) (intKind_is _ _ _ _) ?_));let eh:(intKind prog w).hash ((val i:Nat):Int)=((val i:Nat):Int):=VR _ (lt i li);rw[eh];show ě (s:={ s' with toks:=s'.toks+1}) hS' (lt i li) λb h' L' sb S2 a8v dn=>ao ⟨nJ Tp _,ih (i+1) _ L' () li (W.frame _ s' _ _ st' (vL _) λc hc o e=>?_) S2 (dn hD') (λu=>?_) λs2 L2 hm2 h2 h3 h4=>hR s2 L2 (Moved.trans W.gtrans ((hm.mono up).then_heap (vL _) λc o hc e=>?_) hm2) h2 h3 h4⟩
  ·rw[sb.2 c (λq:c=S=>nf ())];show e
  ·grind
  ·rw[sb.2 c (λq:c=S=>hc ())];show e
end
section
variable{prog:Program}{w:World}{A:Around}{E:∅}{s:Shared}
def a0O(a:Value){Q:∅}(h:Q (.ref s⁻¹) (s•s.heap.push (lE #[] 0 (.fresh 0 0 (!oN w))))) :
  codeAny (model prog w) A (.call (.builtin "set.__new__") ⟨[.type "set",a],[]⟩) (wants Q E) s:=by
 show codeAny_of_tree ?_;show wpAny _ A.in1 (do checkBuiltinCall "set.__new__" ⟨[.type "set",a],[]⟩;again (.builtin "set.__new__" ⟨[.type "set",a],[]⟩)) _ _ s;show M (Hs (F.newCall_set_1 a) (ao ⟨nJ F.plain_set_new _,lW F.entry_set_new ?_⟩));rw[mO F.plain_set_new _];unfold Builtin.«set.__new__» Builtin.Frozenset.newClass;let hsub:=sub_set_self;let⟨hp,g,d,tk,os⟩:=s;dsimp only at h ⊢
 wp_walk
 show Ni (ao ?_);lk;simp only[newObj];show M (wpAny_alloc (ao (ao h)))
def a3B{l:Addr}{items:Array Value}{vals:ay}{Q:∅}(hh:A.handled=none)(hl:s.heap.IsList l items)(hi:IntsAre items.toList (vals.map λv=>((v:Nat):Int)))(lt:∀v∈vals,v<16)
  (h:∀(h':Heap) (tk:Nat) (L:ay),jq (oN w) h' s⁻¹ L->qy h' s⁻¹->(∀u,u∈L↔u∈vals)->(∀b o,b<s⁻¹->s^^^b=some o->h'.get? b=some o)->Q (.ref s⁻¹) { s with heap:=h',toks:=tk}) :
  ∎ (call (.type "set") [.ref l]) Q E s:=by
 let⟨c,tl,hmro⟩:=F.called_set.mro;let hmade:=F.called_set.made;let hsub:=F.called_set.sub;let hlen:items.size=vals.length:=by
  let:=hi.length;simpa using this
 show wpAny_call (codeAny_of_tree ?_);show wpAny _ _ (callAny (.type "set") _) _ _ _;show ao ⟨Code.quiet_builtin _ (),lW F.entry_type_call ?_⟩;rw[Around.under_plain (weight_type_call_type "set" [.ref l] []) rfl];let h1:=F.called_set.notType;let h2:=F.called_set.canCreate;let hct:=F.typeCall_set_1 (.ref l);repeat (any_goals (first|assumption|wp_step))
 show CP (a0O (.ref l) (E:=E) (Q:=λobj s₁=>obj=.ref s⁻¹/\s₁=(s•s.heap.push (lE #[] 0 (.fresh 0 0 (!oN w))))) ⟨rfl,rfl⟩) λr s₁ hr=>?_;cases r with
 |error e=>show hr
 |ok fl =>
  cases fl with
  |ret obj =>
   let⟨rfl,rfl⟩:=hr;let gS:(s.heap.push (lE #[] 0 (.fresh 0 0 (!oN w)))).get? s⁻¹=some (lE #[] 0 (.fresh 0 0 (!oN w))):=cB _ rfl;let hT:Shared.TypeIs (s•s.heap.push (lE #[] 0 (.fresh 0 0 (!oN w)))) (.ref s⁻¹) "set" :=⟨_,gS,rfl⟩;let hli:=F.called_set.init.lookup;let hbi:=F.called_set.init.bind (.ref s⁻¹);repeat (any_goals (first|assumption|wp_step))
   show CP (codeAny_call_builtin (R:=wants (λr s₂=>r=.none/\∃h' tk L,s₂={ s with heap:=h',toks:=tk}/\jq (oN w) h' s⁻¹ L/\qy h' s⁻¹/\(∀u,u∈L↔u∈vals)/\
     (∀b o,b<s⁻¹->s^^^b=some o->h'.get? b=some o)) E) F.called_set.init.plain F.entry_set_init (check_set_init_1 hT ?_)) λr₂ s₂ hr₂=>?_
   ·let⟨ol,hol,hcl,nl,hdl⟩:=hl;let⟨ocls,odict,odata,oslots⟩:=ol;simp only at hcl hdl;subst hcl;subst hdl;let hol':(s.heap.push (lE #[] 0 (.fresh 0 0 (!oN w)))).get? l=some { cls:=.type "list",dict:=odict,data:=.seq items nl,slots:=oslots}:=bM _ hol;let hsls:=F.sub_list_set;let hslf:=F.sub_list_frozenset;let hne:(Value.type "list" == Value.type "dict")=false:=()
    let hl1:(s.heap.push (lE #[] 0 (.fresh 0 0 (!oN w)))).IsList l items:=⟨_,hol',Z,nl,Z⟩;unfold Builtin.«set.__init__» noKeywords Builtin.Frozenset.updateFrom;generalize hPI:pyIter=PI
    wp_walk
    subst hPI;show vG hl1 (M (wpAny_runValue ?_));let ll:l<s⁻¹:=bw hol;let hh3:A.in1.in1.in1.handled=none:=by simp[hh]
    let ni:l≠(s.heap.push (lE #[] 0 (.fresh 0 0 (!oN w)))).objs.size:=by rw[oW];show bV (GZ ll)
    let nf:s⁻¹∉[(s.heap.push (lE #[] 0 (.fresh 0 0 (!oN w)))).objs.size,l]:=by
     rw[oW];simp only[List.mem_cons,List.not_mem_nil,or_false,not_or];show⟨bV (wU _),iM ll⟩
    let hval:∀(i:Nat) (v:Value),i<items.size->items[i]?=some v->∃t,v=.int (((λi=>vals.getD i 0) i:Nat):Int) t:=λi v li hv=>by
     let⟨t,e⟩:=PyProof.Rows.IntsAre.int_at hi i v (by rw[GP];show hv);let lv:i<vals.length:=()
     show⟨t,?_⟩;rw[e];simp[List.getD,lv]
    show a0N ((Walks.list hh3 _ l ni items).toS) s⁻¹ nf (λi=>vals.getD i 0) hval (λi li=>?_) (items.size-0) 0 _ [] () (dF _) ⟨⟨_,cB _ Z,Z,Z⟩,(hl1.push _)⟩ ?hS0 ?hD0 (λu=>by simp) ?hR
    ·let lv:i<vals.length:=()
     show lt _ ?_;simp[List.getD,lv]
    case hS0=>show⟨#[],0,_,bM _ gS,.nil,QJ _⟩
    case hD0=>show⟨#[],0,_,bM _ gS,.inl Z⟩
    case hR =>
     intro s' L' hm hS' hD' mem;let⟨h',g',d',tk',os'⟩:=s';let eg:g'=s.gens:=hm.gens;let ed:d'=s.drawn:=hm.drawn;let eo:os'=s.os:=hm.os;subst eg;subst ed;subst eo;show wpAny _ _ _ _ _ _;show ao ?_;show wpAny _ _ (ret Value.none) _ _ _;show ao ⟨Z,h',tk',L',Z,hS',hD',λu=>?_,λb o hb e=>?_⟩
     ·rw[mem u];constructor
      ·rintro⟨j,hj,rfl⟩;let lv:j<vals.length:=()
       simp[List.getD,lv]
      ·intro hu;let⟨j,hj,e⟩:=oR hu;show⟨j,(),by simp[List.getD,hj,e]⟩
     ·let b1:b≠s⁻¹:=bV hb;let b2:b≠(s.heap.push (lE #[] 0 (.fresh 0 0 (!oN w)))).objs.size:=by rw[oW];show bV (GZ hb)
      show hm.heap b o (by simp only[List.mem_cons,List.not_mem_nil,or_false,not_or];show⟨b1,b2⟩) (bM _ (bM _ e))
   ·cases r₂ with
    |error e=>show hr₂
    |ok fl₂ =>
     cases fl₂ with
     |ret r =>
      let⟨rfl,h',tk,L,rfl,q1,q2,q3,q4⟩:=hr₂;repeat (any_goals (first|assumption|wp_step))
      show h _ _ L q1 q2 q3 q4
     |_=>show hr₂.elim
  |_=>show hr.elim
end
end Sm
namespace L2
open PyProof.Rows Sm
def QT(w:World)(a:Addr)(d:Bool)(L:ay):HO:=.ext λh=>jq (oN w) h a L/\(d=true->qy h a)
def Small(ns:ae):Prop:=∀n∈ns,0<=n/\n<16
noncomputable def Qf(p:Int->Bool):ae:=((List.range 16).map λi=>((i:Nat):Int)).filter p
def a3C(p:Int->Bool):(Qf p).Pairwise (· < ·):=by
 unfold Qf;show GQ _ ?_;rw[yX];show List.pairwise_lt_range.imp λh=>by omega
def yh{p:Int->Bool}{v:Int}:v∈Qf p↔0<=v/\v<16/\p v=true:=by
 unfold Qf;rw[jT,fH];constructor
 ·grind
 ·rintro⟨h0,h1,h⟩;show⟨⟨v.toNat,gA.mpr (),()⟩,h⟩
theorem up_eq:∀{xs ys:ae},xs.Pairwise (· < ·)->ys.Pairwise (· < ·)->(∀v,v∈xs↔v∈ys)->xs=ys
 | [],[],_,_,_=>rfl
 | [],y::ys,_,_,h=>absurd ((h y).mpr aZ) dZ
 |x::xs,[],_,_,h=>absurd ((h x).mp aZ) dZ
 |x::xs,y::ys,hx,hy,h=>by
  let⟨x1,x2⟩:=uD.mp hx
  let⟨y1,y2⟩:=uD.mp hy
  let e:x=y:=by
   rcases bO.mp ((h x).mp aZ)with e|e
   ·show e
   ·rcases bO.mp ((h y).mpr aZ)with f|f
    ·show f.symm
    ·let a:=y1 x e
     let b:=x1 y f
     omega
  subst e
  congr 1
  show up_eq x2 y2 λv=>?_
  constructor
  ·intro q
   rcases bO.mp ((h v).mp (bJ _ q))with e|e
   ·subst e;let:=x1 v q;omega
   ·show e
  ·intro q
   rcases bO.mp ((h v).mpr (bJ _ q))with e|e
   ·subst e;let:=y1 v q;omega
   ·show e
inductive a5H(w:World)(K:aJ)(xs:af)(H:Hp)(Q:VK):Prop
 |mk (l ns:_) (_:xs=[.ref l]) (_:bD K H l (List.map V.int ns)) (_:Small ns) (_:∀p L H',iG H p (QT w p true L) H'->(∀u:Nat,u∈L↔(u:Int)∈ns)->Q (.ref p) H')
inductive a7Q(w:World)(x:V)(y:V)(H:Hp)(Q:VK):Prop
 |mk (a b L1 L2:_) (_:x=.ref a) (_:y=.ref b) (_:a≠b) (_:H a=some (QT w a true L1)) (_:H b=some (QT w b true L2)) (_:∀p L H',iG H p (QT w p false L) H'->(∀u:Nat,u∈L↔u∈L1\/u∈L2)->Q (.ref p) H')
inductive a3D(w:World)(xs:af)(H:Hp)(Q:VK):Prop
 |mk (a d L:_) (_:xs=[.ref a]) (_:H a=some (QT w a d L)) (_:∀p H',iG H p (.lst ((Qf λv=>decide (v.toNat∈L)).map V.int)) H'->Q (.ref p) H')
inductive a3E(K:aJ)(xs:af)(H:Hp)(Q:VK):Prop
 |mk (l ns:_) (_:xs=[.ref l]) (_:bD K H l (List.map V.int ns)) (_:ns.length<64) (_:∀p H' zs,iG H p (.lst (List.map V.int zs)) H'->zs.Perm ns->zs.Pairwise (· <= ·)->Q (.ref p) H')
def Dl:∀{vs:aw}{ns:ae},IntsAre vs ns->cZ (ns.map V.int) vs
 |_,_,.nil=>.nil
 |_,_,.cons n t r=>.cons ⟨t,Z⟩ (Dl r)
def ģ{xs:ae}{L:ay}(pm:xs.Perm (L.map λv=>((v:Nat):Int)))(nd:L.Nodup)(lt:∀v∈L,v<16)(le:xs.Pairwise (· <= ·)):xs=Qf λv=>decide (v.toNat∈L):=by
 let Ze:xs.Nodup:=pm.nodup_iff.mpr (by
  unfold List.Nodup;rw[yX];show nd.imp λh e=>h ())
 let lt2:xs.Pairwise (· < ·):=by
  unfold List.Nodup at Ze;show(le.and Ze).imp λh=>by omega
 show up_eq lt2 (a3C _) λv=>?_;rw[pm.mem_iff,yh,fH];constructor
 ·rintro⟨u,hu,rfl⟩;let:=lt u hu;show⟨(),(),aV (by rw[ig];show hu)⟩
 ·rintro⟨h0,h1,h⟩;show⟨v.toNat,dw h,()⟩
section
variable{X:Cx}{K:aJ}{w:World}
def Xz{H:Hp}{h:Heap}{a:Addr}{d:Bool}{L:ay}{P:Program}{w':World}(S:jq (oN w) h a L)(D:d=true->qy h a):fD P w' H h a (QT w a d L):=by
 show⟨⟨S,D⟩,?_,?_⟩
 ·let⟨_,_,_,ho,_⟩:=S;grind
 ·rintro h1 h2 ⟨s1,d1⟩ k;show⟨s1.keep k,λe=>(d1 e).keep k⟩
def KR(ek:X.K=K)(ew:X.w=w)(cm:X.calm=true):jy X (.type "set") (a5H w K):=by
 subst ek;subst ew;intro Y s σ H xs us Q I r h;let⟨l,ns,rfl,hL,sm,q⟩:=h;let⟨u,rfl,rx⟩:=vals1 r;cases rx;let⟨bY,r',pl,hz⟩:=I.list hL;let hi:=ints_of r';let e:(ns.map Int.toNat).map (λv=>((v:Nat):Int))=ns:=by
  rw[lY];let:∀n∈ns,((λv=>((v:Nat):Int))∘Int.toNat) n=id n:=λn hn=>by
   let:=(sm n hn).1;show((n.toNat:Nat):Int)=n;omega
  rw[vC this,List.map_id]
 show a3B (vals:=ns.map Int.toNat) (I.ok.hd cm) pl.isList () (λv hv=>?_) λh' tk L S D mem k=>?_
 ·let⟨n,hn,rfl⟩:=fH.mp hv;let:=sm n hn;omega
 ·let hf:H s⁻¹=none:=I.hok.fresh (aK _);show⟨.ref s⁻¹,_,I.laid (t':=tk) (o:=QT X.w s⁻¹ true L) (λb o eo=>k b o (bw eo) eo) (aK _) (Xz S λ_=>D),Z,q _ L _ (iG.nD hf) λu=>?_⟩;rw[mem u,fH];constructor
  ·rintro⟨n,hn,rfl⟩;let:=(sm n hn).1;let e2:((n.toNat:Nat):Int)=n:=()
   rw[e2];show hn
  ·intro hn;show⟨_,hn,()⟩
def a3F(ew:X.w=w):qY X (binaryOp .BitOr) (a7Q w):=by
 subst ew;intro Y s σ H x y v u Q I rx ry h;let⟨a,b,L1,L2,rfl,rfl,ne,hA,hB,q⟩:=h;cases rx;cases ry;let⟨⟨S1,D1⟩,_⟩:=I.hok a _ hA;let⟨⟨S2,D2⟩,_⟩:=I.hok b _ hB;show a5F ne S1 (D1 Z) S2 (D2 Z) λh' L k S mem=>?_;let hf:H s⁻¹=none:=I.hok.fresh (aK _);show⟨.ref s⁻¹,_,I.laid (t':=s.toks) (o:=QT X.w s⁻¹ false L) (λb o eo=>k b o eo) (aK _) (Xz S λe=>by cases e),Z,q _ L _ (iG.nD hf) mem⟩
def Oz(ew:X.w=w)(cm:X.calm=true):jy X (.builtin "sorted") (a3D w):=by
 subst ew;intro Y s σ H xs us Q I r h;let⟨a,d,L,rfl,hA,q⟩:=h;let⟨u,rfl,rx⟩:=vals1 r;cases rx;let⟨⟨S,_⟩,_⟩:=I.hok a _ hA;let⟨_,_,t,_,_,T⟩:=id S;show V4 (I.ok.hd cm) S λh' tk p vs n ns k hp ho hi pm le=>?_;let e:=ģ pm T.nd T.lt le;subst e;let l16:(Qf λv=>decide (v.toNat∈L)).length<=16:=by rw[pm.length_eq,aH];show T.len
 let hf:H p=none:=I.hok.fresh hp;show⟨.ref p,_,I.laid (t':=tk) (o:=.lst ((Qf λv=>decide (v.toNat∈L)).map V.int)) k hp ⟨?_,vs,n,Dl hi,ho⟩,Z,q p _ (iG.nD hf)⟩;rw[aH,gO];omega
def OD(e:X.K=K):jy X (.builtin "sorted") (a3E K):=by
 subst e;intro Y s σ H xs us Q I r h;let⟨l,ns,rfl,hL,h64,q⟩:=h;let⟨u,rfl,rx⟩:=vals1 r;cases rx;let⟨bY,r',pl,hz⟩:=I.list hL;let hlen:=r'.length;rw[aH]at hlen;show sorted_ints (ns:=ns) pl.isList (ints_of r') () λout zs hi pm le=>?_;let⟨c,hc⟩:=sortedAll_at s.heap bY out;show⟨.ref (s⁻¹+1),_,I.laid (t':=s.toks) (o:=.lst (zs.map V.int)) (λb o eo=>sortedAll_old eo) (vL _) ⟨?_,out.toList,c,Dl hi,by simpa using hc⟩,Z,q _ _ zs (iG.nD (I.hok.fresh (vL _))) pm le⟩;rw[aH,pm.length_eq,gO];omega
end
end L2
namespace L2
open PyProof.Rows
section
variable{K:aJ}{a:Addr}{xs:af}{ix:List (Option Nat)}{g:TG}{tt:TT}{te:TE}{σ:St}{H1:Hp}{Q:VK}
def a0P(f:V->Option V)(hx:cJ K H1 a xs)(hz:xs.length<=1000)
  (hs:∀x H (N:Option V->Hp->Prop),x∈xs->aL H1 H->(∀H',aL H1 H'->N (f x) H')->g x (pG ix σ) H λσ2 H2=>tt σ2 H2 λb H3=>if b=true then te σ2 H3 λv H4=>N (some v) H4 else N none H3)
  (hd:∀H p H',aL H1 H->iG H p (.lst (xs.filterMap f)) H'->Q (.ref p) H'):j7 ix g tt te σ H1 Q (Itt K a):=by
 show⟨λi m ys H=>m=xs.length-i/\i<=xs.length/\ys=(xs.take i).filterMap f/\aL H1 H,⟨xs.length,by simp,dF _,Z,aL.refl _⟩,?_⟩;rintro i m ys H ⟨rfl,hi,e,s⟩;let q:=s.vU hx;let z:ys.length<=sizeLine:=by
  subst e;show cG (Tn _ _) (cG ?_ (eY (cL hz)));rw[dY];show Ur _ _
 by_cases hlt:i<xs.length
 ·show .inr ⟨⟨xs,xs[i],q,by simp[hlt]⟩,z,λys' H'=>ys'=(xs.take (i+1)).filterMap f/\aL H1 H',λys' H' p'=>⟨xs.length-(i+1),(),Z,hlt,p'⟩,λx H' y=>?_⟩;let⟨e',y⟩:=y;subst e';let hx':=y xs q;let hm:x∈xs:=gF hx';let⟨hil,hix⟩:=eG.mp hx';let et:xs.take (i+1)=xs.take i++[x]:=by rw[yO hil,hix]
  show hs x _ (λo H'=>match o with|some v=>(ys++[v]=(xs.take (i+1)).filterMap f/\aL H1 H')|none=>(ys=(xs.take (i+1)).filterMap f/\aL H1 H')) hm s λH' s'=>?_;cases ef:f x with
  |some v=>show⟨by rw[e,et,wQ];simp[ef],s'⟩
  |none=>show⟨by rw[e,et,wQ];simp[ef],s'⟩
 ·let ei:i=xs.length:=()
  subst ei;show .inl ⟨⟨xs,q,aK _⟩,z,λp hp=>?_⟩;subst e;rw[gw];show hd H p _ s (iG.nD hp)
end
section
variable{X:Cx}{K:aJ}
inductive a5I(K:aJ)(x:V)(lo:Option Int)(hi:Option Int)(H:Hp)(Q:VK):Prop
 |mk (a xs:_) (_:x=.ref a) (_:cJ K H a xs) (_:¬(HT.j6 xs.length 0 lo=0/\HT.j6 xs.length xs.length hi=xs.length)) (_:∀p H',iG H p (.tup (uH xs lo hi)) H'->Q (.ref p) H')
def Gi(e:X.K=K):SlR X (a5I K):=by
 subst e;show λY s σ H x v vl vu lo hi sl Q I rx hs pl pu ⟨a,xs,e,h,hw,q⟩=>ú Y s σ H x v vl vu lo hi sl Q I rx hs pl pu ⟨a,xs,e,h,hw,λp hp=>q p _ (iG.nD hp)⟩
end
end L2
namespace L2
open PyProof.Rows
variable{H H':Hp}{w:World}{u:Value}{X:Cx}{y:V}{P:Program}{a b:Addr}{Q E:∅}{pos:Pos}{o:Option V}{h:Heap}{Y:aE}{σ:St}{A:Around}
section
variable{κ:Type} [DecidableEq κ]
noncomputable def dh(J:List (κ×V))(k:κ):Option V:=(J.find? λkv=>decide (kv.1=k)).map (·.2)
noncomputable def putK(J:List (κ×V))(k:κ)(v:V):List (κ×V) :=
 if(J.any λkv=>decide (kv.1=k))=true then J.map (λkv=>if kv.1=k then(kv.1,v)else kv)else J++[(k,v)]
def j8{p:κ×V}{r:List (κ×V)}{k:κ}(e:p.1=k):dh (p::r) k=some p.2:=by simp[dh,List.find?_cons,e]
def j9{p:κ×V}{r:List (κ×V)}{k:κ}(e:¬p.1=k):dh (p::r) k=dh r k:=by simp[dh,List.find?_cons,e]
theorem xj(k:κ):∀J:List (κ×V),(J.any λkv=>decide (kv.1=k))=(dh J k).isSome
 | []=>rfl
 |p::r=>by
  rw[oX]
  by_cases e:p.1=k
  ·simp only[j8 e,decide_eq_true e,Bool.true_or,Option.isSome_some]
  ·rw[j9 e,cI e,Bool.false_or];show xj k r
theorem QV(k j:κ)(y:V):∀J:List (κ×V),dh (J.map λkv=>if kv.1=k then(kv.1,y)else kv) j=(dh J j).map λx=>if j=k then y else x
 | []=>rfl
 |p::r=>by
  let ih:=QV k j y r
  rw[cC]
  by_cases h:p.1=k
  ·rw[aB h]
   by_cases e:p.1=j
   ·rw[j8 (p:=(p.1,y)) e,j8 e,Np,aB (e.symm.trans h)]
   ·rw[j9 (p:=(p.1,y)) e,j9 e,ih]
  ·rw[aA h]
   by_cases e:p.1=j
   ·rw[j8 (p:=p) e,j8 e,Np,aA (λz=>h (e.trans z))]
   ·rw[j9 (p:=p) e,j9 e,ih]
theorem rH(k j:κ)(y:V):∀J:List (κ×V),dh J k=none->dh (J++[(k,y)]) j=if j=k then some y else dh J j
 | [],_=>by
  by_cases e:k=j
  ·rw[aB e.symm];show j8 (p:=(k,y)) e
  ·rw[aA (λz=>e z.symm)];show j9 (p:=(k,y)) e
 |p::r,hn=>by
  rw[List.cons_append]
  let hk:¬p.1=k:=λz=>by rw[j8 z]at hn;cases hn
  rw[j9 hk]at hn
  let ih:=rH k j y r hn
  by_cases e:p.1=j
  ·rw[j8 e,j8 e,aA (λz=>hk (e.trans z))]
  ·rw[j9 e,j9 e,ih]
def QW(J:List (κ×V))(k j:κ)(y:V):dh (putK J k y) j=if j=k then some y else dh J j:=by
 unfold putK;by_cases a:(J.any λkv=>decide (kv.1=k))=true
 ·rw[aB a,QV];rw[xj]at a;by_cases e:j=k
  ·let⟨x,hx⟩:=à.mp a;rw[aB e,e,hx,Np,aB rfl]
  ·rw[aA e];cases dh J j with
   |none=>rfl
   |some x=>rw[Np,aA e]
 ·rw[aA a];show rH k j y J ?_;rw[xj]at a;cases q:dh J k with
  |none=>rfl
  |some x=>rw[q]at a;show(a Z).elim
def tY(J:List (κ×V))(k:κ)(v:V):(putK J k v).length<=J.length+1:=by
 unfold putK;split
 ·rw[aH];omega
 ·rw[cu,lV,List.length_nil];omega
def Ĥ{J:List (κ×V)}{k:κ}(v:V)(h:dh J k=none):putK J k v=J++[(k,v)]:=by
 unfold putK;rw[xj,h];show aA ()
def oY.Dp{u:Option Value}(r:oY o u):o.isSome=u.isSome:=by
 cases o with
 |none=>cases u with
  |none=>rfl
  |some _=>show(show False from r).elim
 |some _=>cases u with
  |none=>show(show False from r).elim
  |some _=>rfl
def oY.getD{o:Option V}{u:Option Value}{d:V}{d':Value}(r:oY o u)(rd:cY d d'):cY (o.getD d) (u.getD d'):=by
 cases o with
 |none=>cases u with
  |none=>show rd
  |some _=>show(show False from r).elim
 |some _=>cases u with
  |none=>show(show False from r).elim
  |some _=>show r
def KV.val{J:List (κ×V)}{vs:List (κ×Value)}(r:KV J vs)(k:κ):oY (dh J k) (valueAt vs k):=by
 unfold KV at r
 induction r with
 |nil=>show mQ
 | @cons p q ps qs h t ih =>
  let⟨h1,h2⟩:=h;by_cases e:p.1=k
  ·let e':q.1=k:=h1.symm.trans e;let b:valueAt (q::qs) k=some q.2:=by simp[valueAt,List.find?_cons,e']
   rw[j8 e,b];show h2
  ·let e':¬q.1=k:=λz=>e (h1.trans z);let b:valueAt (q::qs) k=valueAt qs k:=by simp[valueAt,List.find?_cons,e']
   rw[j9 e,b];show ih
def KV.any{J:List (κ×V)}{vs:List (κ×Value)}(r:KV J vs)(k:κ):(J.any λkv=>decide (kv.1=k))=vs.any λkv=>decide (kv.1=k):=by
 unfold KV at r
 induction r with
 |nil=>rfl
 |cons h t ih=>rw[oX,oX,ih,h.1]
def KV.repl{J:List (κ×V)}{vs:List (κ×Value)}(r:KV J vs)(k:κ)(ry:cY y u) :
  KV (J.map λkv=>if kv.1=k then(kv.1,y)else kv) (vs.map λkv=>if kv.1=k then(kv.1,u)else kv):=by
 unfold KV at r ⊢
 induction r with
 |nil=>show .nil
 | @cons p q ps qs h t ih =>
  rw[cC,cC];show .cons ?_ ih;let⟨h1,h2⟩:=h;by_cases e:p.1=k
  ·rw[aB e,aB (h1.symm.trans e)];show⟨h1,ry⟩
  ·rw[aA e,aA (λz=>e (h1.trans z))];show⟨h1,h2⟩
def KV.put{J:List (κ×V)}{vs:List (κ×Value)}(r:KV J vs)(k:κ)(ry:cY y u):KV (putK J k y) (stored vs k u):=by
 unfold putK stored;rw[r.any k];by_cases e:(vs.any λkv=>decide (kv.1=k))=true
 ·rw[aB e,aB e];show r.repl k ry
 ·rw[aA e,aA e];show Paired.snoc r ⟨Z,ry⟩
def KV.length{J:List (κ×V)}{vs:List (κ×Value)}(r:KV J vs):J.length=vs.length:=aW r
end
def Ig{k:Key}(r:cY (kV k) u):(fK P w).is k u=true:=by
 cases k with
 |inl i=>let⟨t,e⟩:=(show ∃t,u=Value.int i t from r);subst e;show Qh P w i t
 |inr x=>let⟨t,e⟩:=(show ∃t,u=Value.str x t from r);subst e;show gB P w x t
theorem KY{P:Program}{w:World}:∀{ks:aS}{us:aw},cZ (ks.map kV) us->ItemsAre (fK P w) ks us
 | [],_,r=>by rw[List.map_nil]at r;cases r;show .nil
 |k::ks,_,r=>by
  rw[cC]at r
  cases r with
  |cons h t=>show .cons (Ig h) (KY t)
abbrev KT(H:Hp):List (aS×V)->List (aS×Addr×Value)->Prop:=Paired λp q=>p.1=q.1/\H q.2.1= ~~~(p.1.map kV)/\cY p.2 q.2.2
def KT.val{J:List (aS×V)}{xs:List (aS×Addr×Value)}(r:KT H J xs)(k:aS):oY (dh J k) ((atKey xs k).map (·.2)):=by
 induction r with
 |nil=>show mQ
 | @cons p q ps qs h t ih =>
  let⟨h1,_,h2⟩:=h;by_cases e:p.1=k
  ·let e':q.1=k:=h1.symm.trans e;let b:atKey (q::qs) k=some q.2:=by simp[atKey,List.find?_cons,e']
   rw[j8 e,b];show h2
  ·let e':¬q.1=k:=λz=>e (h1.trans z);let b:atKey (q::qs) k=atKey qs k:=by simp[atKey,List.find?_cons,e']
   rw[j9 e,b];show ih
def KT.repl{J:List (aS×V)}{xs:List (aS×Addr×Value)}(r:KT H J xs)(k:aS)(ry:cY y u) :
  KT H (J.map λkv=>if kv.1=k then(kv.1,y)else kv) (xs.map (putAt k u)):=by
 induction r with
 |nil=>show .nil
 | @cons p q ps qs h t ih =>
  rw[cC,cC];show .cons ?_ ih;let⟨h1,h2,h3⟩:=h;unfold putAt;by_cases e:p.1=k
  ·rw[aB e,aB (h1.symm.trans e)];show⟨h1,h2,ry⟩
  ·rw[aA e,aA (λz=>e (h1.trans z))];show⟨h1,h2,h3⟩
def KT.put{J:List (aS×V)}{xs:List (aS×Addr×Value)}(r:KT H J xs)(k:aS)(hb:H b= ~~~(k.map kV))(ry:cY y u) :
  KT H (putK J k y) (storedH xs k b u):=by
 let e:(J.any λkv=>decide (kv.1=k))=(atKey xs k).isSome:=by
  rw[xj,(r.val k).Dp,Option.isSome_map]
 unfold putK storedH;rw[e];by_cases q:(atKey xs k).isSome=true
 ·rw[aB q,aB q];show r.repl k ry
 ·rw[aA q,aA q];show Paired.snoc r ⟨Z,hb,ry⟩
def KT.keeps{J:List (aS×V)}{xs:List (aS×Addr×Value)}(r:KT H J xs)(ht:∀b ys,H b= ~~~ys->H' b= ~~~ys):KT H' J xs :=
 Paired.cA r λ_ _ z=>⟨z.1,ht _ _ z.2.1,z.2.2⟩
def a2k{u:HO}(ok:xY P w H h)(e:Rd H a u):fD P w H h a u:=e.ok ok
def QX{J:List (Key×V)}(ok:xY P w H h)(e:Rd H a (.dK J)):J.length<=sizeLine/\(a==sysModules)=false/\∃vs,KV J vs/\h.DictOf (fK P w) a vs :=
 show fD P w H h a (.dK J)from a2k ok e
def ĥ{J:List (Key×V)}(ok:xY P w H h)(e:H a=some (.dK J)):J.length<=sizeLine/\(a==sysModules)=false/\∃vs,KV J vs/\h.DictOf (fK P w) a vs:=QX ok (.inl e)
def zx{ks:aS}(ok:xY P w H h)(e:H a= ~~~(ks.map kV)):(tupleKind (fK P w)).is h ks a:=by
 let⟨_,bY,r,o,h1,h2,n,h3⟩:=(show fD P w H h a (.tup (ks.map kV))from ok a _ e);show⟨o,bY.toArray,n,h1,h2,h3,by simpa using KY r⟩
def XC{J:List (aS×V)}(ok:xY P w H h)(e:Rd H a (.dT J)):J.length<=sizeLine/\(a==sysModules)=false/\
  ∃xs,KT H J xs/\h.DictOfH (tupleKind (fK P w)) a xs:=by
 let⟨z,y,xs,r,o,es,ep,h1,h2,h3,h4,h5⟩:=(show fD P w H h a (.dT J)from a2k ok e);show⟨z,y,xs,r,o,es,ep,h1,h2,h3,h4,λx hx=>?_,h5⟩;let all:∀{l:List (aS×V)}{m:List (aS×Addr×Value)},KT H l m->∀x∈m,(tupleKind (fK P w)).is h x.1 x.2.1:=by
  intro l m q
  induction q with
  |nil=>intro x hx;show nomatch hx
  | @cons p q ps qs hq t ih =>
   intro x hx;rcases bO.mp hx with e|hx
   ·subst e;show zx ok (by rw[<-hq.1];show hq.2.1)
   ·show ih x hx
 show all r x hx
def Ew{J:List (aS×V)}(ok:xY P w H h)(e:H a=some (.dT J)):J.length<=sizeLine/\(a==sysModules)=false/\
  ∃xs,KT H J xs/\h.DictOfH (tupleKind (fK P w)) a xs:=XC ok (.inl e)
def xq(H:Hp)(a:Addr)(y:V)(r:Option V):Prop :=
 (∃J k,Rd H a (.dK J)/\y=kV k/\r=dh J k)\/∃J k b,Rd H a (.dT J)/\y=.ref b/\H b= ~~~(k.map kV)/\r=dh J k
def V5(H:Hp)(a:Addr)(y v:V)(H':Hp):Prop :=
 (∃J k,H a=some (.dK J)/\y=kV k/\J.length<sizeLine/\H'=cU H a (.dK (putK J k v)))\/
 ∃J k b,H a=some (.dT J)/\y=.ref b/\H b= ~~~(k.map kV)/\J.length<sizeLine/\H'=cU H a (.dT (putK J k v))
def xq.k{H:Hp}{a:Addr}{J:List (Key×V)}{k:Key}(e:H a=some (.dK J)):xq H a (kV k) (dh J k):=.inl ⟨J,k,.inl e,Z,Z⟩
def xq.t{J:List (aS×V)}{k:aS}(e:H a=some (.dT J))(eb:H b= ~~~(k.map kV)):xq H a (.ref b) (dh J k):=.inr ⟨J,k,b,.inl e,Z,eb,Z⟩
def V5.k{H:Hp}{a:Addr}{J:List (Key×V)}{k:Key}{v:V}(e:H a=some (.dK J))(hl:J.length<sizeLine):V5 H a (kV k) v (cU H a (.dK (putK J k v))):=.inl ⟨J,k,e,Z,hl,Z⟩
def V5.t{J:List (aS×V)}{k:aS}{v:V}(e:H a=some (.dT J))(eb:H b= ~~~(k.map kV))(hl:J.length<sizeLine) :
  V5 H a (.ref b) v (cU H a (.dT (putK J k v))):=.inr ⟨J,k,b,e,Z,eb,hl,Z⟩
section
variable{s:Shared}{v:V}{r:Value}
def bG.big(I:bG X Y σ H s):sysModules<s⁻¹:=by
 let h:mainGlobals<s⁻¹:=(I.mod.glob.keeps I.bk).lt;show qN () h
def Zf(hu:A.units+1<cLine)(I:bG X Y σ H s)(g:xq H a y (some v))(ry:cY y u)(h:∀w' s',bG X Y σ H s'->cY v w'->Q w' s') :
  wpAny (model X.prog X.w) A (getItem (.ref a) u) Q E s:=by
 rcases g with⟨J,k,e,ey,l⟩|⟨J,k,b,e,ey,eb,l⟩
 ·subst ey;let⟨z,hd,vs,rel,dd⟩:=QX I.hok e;let⟨w',hw,Vr⟩:=oY.some_of (v:=v) (o:=valueAt vs k) (by rw[l];show rel.val k);show wpAny_getItem_of (Ig ry) dd.mapOf hw (h w' _ (I.tok _) Vr)
 ·subst ey;cases(show u=Value.ref b from ry);let⟨z,hd,xs,rel,dd⟩:=XC I.hok e;let⟨w',hw,Vr⟩:=oY.some_of (v:=v) (o:=(atKey xs k).map (·.2)) (by rw[l];show rel.val k);let⟨p,hp,hp2⟩:=jP.mp hw;show wpAny_getItem_heap (yV hu) (zx I.hok eb) dd hp ?_;rw[hp2];show h w' _ (I.tok _) Vr
def a5J(hu:A.units+1<cLine)(I:bG X Y σ H s)(g:xq H a y o)(ry:cY y u)(h:∀s',bG X Y σ H s'->Q (.bool o.isSome) s') :
  wpAny (model X.prog X.w) A (compareOp .In u (.ref a)) Q E s:=by
 rcases g with⟨J,k,e,ey,l⟩|⟨J,k,b,e,ey,eb,l⟩
 ·subst ey;let⟨z,hd,vs,rel,dd⟩:=QX I.hok e;show wpAny_in_of (Ig ry) hd dd.mapOf ?_;rw[<-(rel.val k).Dp,<-l];show h _ (I.tok _)
 ·subst ey;cases(show u=Value.ref b from ry);let⟨z,hd,xs,rel,dd⟩:=XC I.hok e;show wpAny_in_heap (yV hu) (zx I.hok eb) hd dd ?_;let q:=(rel.val k).Dp;rw[Option.isSome_map]at q;rw[<-q,<-l];show h _ (I.tok _)
def Gj{h':Heap}{t':Nat}{ob:HO}(I:bG X Y σ H s)(mu:Mut (H a))(hs:Heap.SameBut a s.heap h')(he:∃q,h'.get? a=some q)(new:fD X.prog X.w (cU H a ob) h' a ob) :
  bG X Y σ (cU H a ob) { s with heap:=h',toks:=t'} :=
 I.write (x:=a) (e:=a) mu (.inl Z) (λb q hb z=>(hs.2 b hb).trans z) he new
def Ħ{h':Heap}{J:List (Key×V)}{vs:List (Key×Value)}(z:J.length<=sizeLine)(hd:(a==sysModules)=false)(rel:KV J vs)(dd:h'.DictOf (fK P w) a vs) :
  fD P w H' h' a (.dK J):=⟨z,hd,vs,rel,dd⟩
def KZ{Q:Unit->Shared->Prop}(hu:A.units+1<cLine)(I:bG X Y σ H s)(g:V5 H a y v H')(ry:cY y u)(rv:cY v r)(h:∀s',bG X Y σ H' s'->Q ⟨⟩ s') :
  wpAny (model X.prog X.w) A (setItem (.ref a) u r) Q E s:=by
 rcases g with⟨J,k,e,ey,l,eH⟩|⟨J,k,b,e,ey,eb,l,eH⟩
 ·subst ey eH;let⟨z,hd,vs,rel,dd⟩:=ĥ I.hok e;let hz:vs.length<=sizeLine:=by rw[<-rel.length];show z
  let hl:(putK J k v).length<=sizeLine:=by let:=tY J k v;omega
  show wpAny_setItem_pairs (hsz:=hz) (Ig ry) dd λh' dd' hs=>h _ ?_;let he:∃q,h'.get? a=some q:=let⟨q,_,_,hq,_⟩:=dd';⟨q,hq⟩
  show Gj I (by rw[e];show mQ) hs he (Ħ hl hd (rel.put k rv) dd')
 ·subst ey eH;cases(show u=Value.ref b from ry);let⟨z,hd,xs,rel,dd⟩:=Ew I.hok e;let hz:xs.length<=sizeLine:=by rw[<-aW rel];show z
  let hl:(putK J k v).length<=sizeLine:=by let:=tY J k v;omega
  show wpAny_setItem_heap (hsz:=hz) (yV hu) (zx I.hok eb) dd λh' dd' hs=>h _ ?_;let⟨q,es,ep,hq,h2,h3,h4,_,h5⟩:=dd';show Gj I (by rw[e];show mQ) hs ⟨q,hq⟩ ⟨hl,hd,_,(rel.put k eb rv).keeps λc ys ec=>?_,q,es,ep,hq,h2,h3,h4,h5⟩;rw[aR (a2d ec e λz=>nomatch z)];show ec
end
section
variable{s:Shared}{J:List (Key×V)}{k:Key}
def a5K(I:bG X Y σ H s)(e:Rd H a (.dK J))(h:∀t s',bG X Y σ H s'->Q (.int J.length t) s'):wpAny (model X.prog X.w) A (call (.builtin "len") [.ref a]) Q E s:=by
 let⟨z,hd,vs,rel,dd⟩:=QX I.hok e;show call_len_dict hd dd (by rw[<-rel.length];rw[gO]at z;omega) ?_;rw[<-rel.length];show h _ _ (I.tok _)
end
def a3G(i:Expr):Prop:=∀ov iv,subscripted i false ov iv=operate [ov,iv] (getItem ov iv)
def XD{prog:Program}{s:Shared}{env:Env}{value slice:Expr}{T id:String}
  (hl:typeLookup (.type T) "__getitem__" = pure (some (.builtin id))) (hs:a3G slice)
  (h:∎ (eval value env) (λo s₁=>∎ (eval slice env) (λi s₂=>s₂.TypeIs o T/\∎ (getItem o i) Q E s₂) E s₁) E s) :
  ∎ (eval (.Subscript value slice pos) env) Q E s:=by
 show Subscript_ (iB h (λo s₁ h₁=>iB h₁ (λi s₂ h₂=>?_) λ_ _ x=>x) λ_ _ x=>x);let⟨hT,h₂⟩:=h₂;unfold subscriptTail;show M ?_;rw[getitemInPython_of_ne hT.not_modules];show M (Hi hT hl ?_);let fin:∎ (subscripted slice false o i) (λr s₃=>∎ (letTemporaryGo value o r >>= λ_=>pure r) Q E s₃) E s₂:=by
  rw[hs o i];show wpAny_operating (iB h₂ (λr s₃ h₃=>M (wpAny_letTemporaryGo (ao h₃))) λ_ _ x=>x)
 first
  |exact ao (M fin)
  |exact M (ao (M fin))
  |exact M fin
def QZ{s:Shared}(I:bG X Y σ H s)(g:xq H a y o):s.TypeIs (.ref a) "dict" := by
 rcases g with⟨J,k,e,_,_⟩|⟨J,k,b,e,_,_,_⟩
 ·let⟨_,_,vs,_,dd⟩:=QX I.hok e;show dd.typeIs
 ·let⟨_,_,xs,_,dd⟩:=XC I.hok e;show dd.typeIs
def a5L(td ty:TE):TE:=λσ H Q=>td σ H λx H1=>ty σ H1 λy H2=>∃a v,x=.ref a/\xq H2 a y (some v)/\Q v H2
section
variable{o i e value:Expr}{pos' tpos:Pos}{td ty tv:TE}
def yj(hu:X.A.units+1<cLine)(ho:PE X o td)(hi:PE X i ty)(hs:a3G i):PE X (.Subscript o i pos) (a5L td ty):=by
 intro Y s σ H Q I h;show XD PySem.F.slot_dict_getitem.lookup hs (jC (ho Y s σ H _ I h) λu s1 ⟨x,H1,I1,rx,q1⟩=>jC (hi Y s1 σ H1 _ I1 q1) λiv s2 ⟨y,H2,I2,ry,a,v,ex,g,q2⟩=>?_);subst ex;obtain rfl:u=Value.ref a:=rx;show⟨QZ I2 g,Zf hu I2 g ry λw' s3 I3 Vr=>⟨v,H2,I3,Vr,q2⟩⟩
end
def ħ(h:Heap)(hb:sysModules<h.objs.size):fD P w H (h.push { cls:=.type "dict",data:=.dict #[]}) h.objs.size (.dK []) :=
 ⟨dF _,qI.mpr (Ne.symm (bV hb)),[],.nil,Heap.DictOf.new h⟩
def Ĩ(h:Heap)(hb:sysModules<h.objs.size):fD P w H (h.push { cls:=.type "dict",data:=.dict #[]}) h.objs.size (.dT []) :=
 ⟨dF _,qI.mpr (Ne.symm (bV hb)),[],.nil,_,#[],0,cB _ Z,⟨Z,Z,Z⟩,Z,Z,vJ⟩
def a3H:TE:=λ_ H Q=>∀p,H p=none->Q (.ref p) (cU H p (.dK []))
def a3I:TE:=λ_ H Q=>∀p,H p=none->Q (.ref p) (cU H p (.dT []))
def Ih:PE X (.Dict [] [] pos) a3H:=λY s σ H Q I h =>
 wpAny_Dict_empty ⟨.ref s⁻¹,_,I.laid (a:=s⁻¹) (o:=.dK []) (t':=s.toks) (λ_ _ q=>bM _ q) (aK _) (ħ s.heap I.big),Z,h _ (I.hok.fresh (aK _))⟩
def Ii:PE X (.Dict [] [] pos) a3I:=λY s σ H Q I h =>
 wpAny_Dict_empty ⟨.ref s⁻¹,_,I.laid (a:=s⁻¹) (o:=.dT []) (t':=s.toks) (λ_ _ q=>bM _ q) (aK _) (Ĩ s.heap I.big),Z,h _ (I.hok.fresh (aK _))⟩
inductive a7R(x:V)(y:V)(H:Hp)(Q:VK):Prop
 |mk (k:Int) (a:Addr) (J:List (Key×V)) (_:x=.int k) (_:y=.ref a) (_:H a=some (.dK J)) (_:Q (.bl (dh J (.inl k)).isSome) H)
def a3J(hu:X.A.units+1<cLine):qY X (compareOp .In) a7R:=by
 intro Y s σ H x y v u Q I rx ry h;let⟨k,a,J,rfl,rfl,e,q⟩:=h;obtain rfl:u=Value.ref a:=ry;show a5J hu I (xq.k (k:=.inl k) e) rx λs3 I3=>⟨.bl _,H,I3,Z,q⟩
inductive a5M(o:V)(i:V)(v:V)(H:Hp)(Q:Hp->Prop):Prop
 |mk (a:Addr) (k:Int) (J:List (Key×V)) (_:o=.ref a) (_:i=.int k) (_:H a=some (.dK J)) (_:J.length<=5000) (_:∀H',vB H a (.dK (putK J (.inl k) v)) H'->Q H')
def Zg(hu:X.A.units+1<cLine):a2N X a5M:=by
 intro Y s σ H o i v ov iv u Q I ro ri rv h;let⟨a,k,J,rfl,rfl,e,z,q⟩:=h;obtain rfl:ov=Value.ref a:=ro;show KZ hu I (V5.k (k:=.inl k) e (GR z ())) ri rv λs' I'=>⟨_,I',q _ vB.nD⟩
inductive a5N(x:V)(vs:af)(H:Hp)(Q:VK):Prop
 |mk (l xs y:_) (_:x=.ref l) (_:vs=[]) (_:H l=↥(xs++[y])) (_:∀H',vB H l (.lst xs) H'->Q y H')
def Gk:Qp X "list.pop" a5N:=a3g.weak λx vs H Q ⟨l,xs,y,e1,e2,h,q⟩=>⟨l,xs++[y],y,e1,e2,h,(by simp),(by
 let:=q _ (vB.nD (H:=H) (l:=l) (o:=.lst xs));grind)⟩
noncomputable def Ey:List (Key×V):=[(.inr "leaf",.int 0),(.inr "in",.int 1),(.inr "tie",.int 1),(.inr "out",.int 1),(.inr "join",.int 2)]
set_option genInjectivity false in
structure Used(w:World)(K:aJ)(mg:Str->Option Value) where
 d:Addr
 m:mg "USED" =⇑d
 es:Array DictEntry
 ep:Nat
 l:K.lookup d=some ⟨.type "dict",none,.dict es ep,#[]⟩
 ks:∃t0 t1 t2 t3 t4 t5 t6 t7 t8 t9:Tok,es = #[⟨PyData.keyHash w.params "leaf",.str "leaf" t0,.int 0 t1⟩,⟨PyData.keyHash w.params "in",.str "in" t2,.int 1 t3⟩,⟨PyData.keyHash w.params "tie",.str "tie" t4,.int 1 t5⟩,⟨PyData.keyHash w.params "out",.str "out" t6,.int 1 t7⟩,⟨PyData.keyHash w.params "join",.str "join" t8,.int 2 t9⟩]
def a0Q{K:aJ}{mg:Str->Option Value}{d:Addr}{es:Array DictEntry}{ep:Nat}(X:K.In h)(G:h.Ns mainGlobals mg)
  (a:nsIn K mainGlobals "USED" = some ⇑d) (l:K.lookup d=some ⟨.type "dict",none,.dict es ep,#[]⟩)
  (ks:∃t0 t1 t2 t3 t4 t5 t6 t7 t8 t9:Tok,es = #[⟨PyData.keyHash w.params "leaf",.str "leaf" t0,.int 0 t1⟩,⟨PyData.keyHash w.params "in",.str "in" t2,.int 1 t3⟩,⟨PyData.keyHash w.params "tie",.str "tie" t4,.int 1 t5⟩,⟨PyData.keyHash w.params "out",.str "out" t6,.int 1 t7⟩,⟨PyData.keyHash w.params "join",.str "join" t8,.int 2 t9⟩]):Nonempty (Used w K mg) :=
 ⟨⟨d,Nz X G a,es,ep,l,ks⟩⟩
def Used.dict{K:aJ}{mg:Str->Option Value}(U:Used w K mg)(X:K.In h):∃vs,KV Ey vs/\h.DictOf (fK P w) U.d vs:=by
 let⟨t0,t1,t2,t3,t4,t5,t6,t7,t8,t9,e⟩:=U.ks;show⟨[(.inr "leaf",.int 0 t1),(.inr "in",.int 1 t3),(.inr "tie",.int 1 t5),(.inr "out",.int 1 t7),(.inr "join",.int 2 t9)],?_,_,U.es,U.ep,X _ _ U.l,⟨Z,Z,Z⟩,Z,?_,?_,?_⟩
 ·show .cons ⟨Z,t1,Z⟩ (.cons ⟨Z,t3,Z⟩ (.cons ⟨Z,t5,Z⟩ (.cons ⟨Z,t7,Z⟩ (.cons ⟨Z,t9,Z⟩ .nil))))
 ·rw[e];intro x hx;simp only[Array.mem_def,List.mem_cons,List.not_mem_nil,or_false]at hx;rcases hx with rfl|rfl|rfl|rfl|rfl
  ·show⟨.inr "leaf",gB P w _ _,Z⟩
  ·show⟨.inr "in",gB P w _ _,Z⟩
  ·show⟨.inr "tie",gB P w _ _,Z⟩
  ·show⟨.inr "out",gB P w _ _,Z⟩
  ·show⟨.inr "join",gB P w _ _,Z⟩
 ·rw[e];show .cons (gB P w _ _) Z (.cons (gB P w _ _) Z (.cons (gB P w _ _) Z (.cons (gB P w _ _) Z (.cons (gB P w _ _) Z .nil))))
 ·show([.inr "leaf",.inr "in",.inr "tie",.inr "out",.inr "join"]:aS).Nodup;decide
def a5O(ty:TE):TE:=λσ H Q=>ty σ H λy H1=>∃k v,y=kV k/\dh Ey k=some v/\Q v H1
section
variable{i:Expr}{np:Pos}{ty:TE}
def a0R(U:Used X.w X.K X.mg)(hg:Gl X "USED")(hi:PE X i ty)(hs:a3G i):PE X (.Subscript (.Name "USED" np) i pos) (a5O ty):=by
 intro Y s σ H Q I h;show XD PySem.F.slot_dict_getitem.lookup hs (Ab I hg U.m (jC (hi Y s σ H _ I h) λiv s2 ⟨y,H2,I2,ry,k,v,ey,hv,q2⟩=>?_));subst ey;let⟨vs,rel,dd⟩:=U.dict (P:=X.prog) I2.Ci;let⟨w',hw,Vr⟩:=oY.some_of (v:=v) (o:=valueAt vs k) (by rw[<-hv];show rel.val k);show⟨dd.typeIs,wpAny_getItem_of (Ig ry) dd.mapOf hw ⟨v,H2,I2.tok _,Vr,q2⟩⟩
end
end L2
namespace L2
open PyProof.Rows Bg Srt
def V6(K:aJ)(H:Hp)(v:V)(ns:ae):Prop:=∃p,v=.ref p/\bD K H p (ns.map V.int)
end L2
namespace L2
open PyProof.Rows
structure Dm(K:aJ)(C:Addr)(m qual:Str)(st:Stmt)(ps:ag) where
 f:Addr
 fd:FuncData
 F:Fun K m qual st f fd
 b:Binds K fd ps []
 mt:Meth K C m f
def a5P{K:aJ}{C:Addr}{m qual:Str}{st:Stmt}{ps:ag}{f:Addr}{oc:Value}{od an:Option Addr}{osl:Array (Option Value)}{kV doc pm d7 ct:Value}
  (a:findIn K (.ref C) m=some ⇑f) (i:isFn K (.ref f)=true)
  (l:K.lookup f=some ⟨oc,od,.func (fnOf m qual (gR st) (gh st) (aG st) .none kV doc pm an d7 ct),osl⟩) (c:codeIn K d7 qual=true) (k:keepIn K (.ref f)=true)
  (h:∀(kV doc pm:Value) (an:Option Addr) (d7 ct:Value) (us:aw),us.length=ps.length->bindArgs (fnOf m qual (gR st) (gh st) (aG st) .none kV doc pm an d7 ct) ⟨us,[]⟩=pure (ps.zip us)):Dm K C m qual st ps :=
 { f:=f,fd:=_,F:=Vu (st:=st) l c k,b:=(Vu (st:=st) l c k).binds h,mt:=⟨a,i,k⟩}
end L2
namespace L2
open PyProof.Rows
structure a5Q(K:aJ)(C:Addr)(m:Str)(f:Addr):Prop where
 ga:PySem.W.specialIn K (.ref C) "__getattribute__" = some (some (.builtin "type.__getattribute__"))
 rd:∃mc,PySem.W.readsIn K C mc=true/\PySem.W.findCls K (.ref C) mc m=some (.val (.ref f))
 kp:keepIn K (.ref f)=true
section
variable{X:Cx}{CX:SM}{k:Nat}{f C:Addr}{fd:FuncData}{ps:ag}{sp:Sp}{JT:af}{ds:aw}{E:XK}{x m:Str}{p pos apos:Pos}{e:Expr}{es:bc}{t:TA}
def a0S{pl:Sem Bool}(hg:Gl X x)(hm:X.mg x=⇑C)(c:a5Q X.K C m f)(F:bF X.prog X.w X.K X.mg X.base CX k f fd ps sp)(hr:qZ k X.A)(hb:Binds X.K fd ps ds)(hd:cZ JT ds)(hx:zq CX X E)(ha:PA X (e::es) t)
  (hdb:@&((x==("__debug__" : Str))=false)) (hst:@&(starEach (e::es) X.env=(false,eval e X.env)::starEach es X.env)) (hpl:@&((backTo pos (starEach es X.env)).any (·.1)=false))
  (ht:@&(eval (.Call (.Attribute (.Name x p) m apos) (e::es) [] pos) X.env=(do
   let ov <-eval (.Name x p) X.env
   standAt apos.atName
   let(f,first) <-holding [ov] (getMethod ov m pl)
   callWith pos f first (backTo pos (starEach (e::es) X.env)) (backToKw pos (keywordEach [] X.env))))) :
  PE X (.Call (.Attribute (.Name x p) m apos) (e::es) [] pos) (a2f sp JT E t):=by
 intro Y s σ H Q I h;show PySem.W.methodCall_KW (pl:=pl) (Ab I hg hm ?_ hdb) ht;let⟨mc,hrd,hf⟩:=c.rd;show PySem.W.method_cls I.Ci c.ga (PySem.W.cls_value I.Ci hrd hf Z ?_);let I1:bG X Y σ H { s with toks:=s.toks+1}:=I.tok _;show MK (first:=[]) (h₀:=X.base) I.ok.mod.kin c.kp (jC (ha pos Y _ σ H _ I1 h) λus s2 ⟨vs,H2,I2,r,q2⟩=>⟨I2.Ci,Vm F hr hb hd hx I2 r q2⟩) hst hpl
end
noncomputable def pK(t:Int×Int):aS:=[.inl t.1,.inl t.2]
def ĩ{s t:Int×Int}(h:pK s=pK t):s=t:=by
 unfold pK at h;injection h with h1 h2
 injection h2 with h2 _
 injection h1 with h1
 injection h2 with h2
 show Prod.ext h1 h2
end L2
namespace Dy
open PyProof.Rows
variable{prog:Program}{w:World}{A:Around}
def vY:entryFor table "dict.update.loop" = some Builtin.«dict.update.loop» := entryFor_of_tree (by kernel_rfl)
def kh:plainId "dict.update.loop" = true:=by decide
def Zh:typeLookup (.type "list") "keys" = pure none:=UG (by kernel_rfl)
section
variable{E:∅}{s:Shared}
def Zi{a:Addr}{o:Obj}{xs:Array Value}{k:Nat}{Q:Option Value->Shared->Prop}(hx:s^^^a=some o)(hc:o.cls=.type "list")(hdat:o.data=.seq xs k)(hd:o.dict=none)(hA:A.handled=none)
  (h:∀h' tk,(∀b o,s^^^b=some o->h'.get? b=some o)->Q none { s with heap:=h',toks:=tk}):∎ (getAttr? (.ref a) "keys") Q E s:=by
 let⟨c,dct,dat,sl⟩:=o;simp only at hc hdat hd;subst hc hdat hd;let⟨hp,g,d,tk,os⟩:=s;let hT:∀tk',(⟨hp,g,d,tk',os⟩:Shared).TypeIs (.ref a) "list" := λ_=>⟨_,hx,Z⟩;let f1:=sub_AttributeError;let f3:=F.slot_list_getattribute.lookup;let f4:=F.slot_list_getattribute.bind (.ref a);let f5:=am_list_getattr_none;unfold getAttr? getAttrBy? getAttrBy;repeat (any_goals (first|assumption|exact hT _|((with_reducible show wpAny _ _ (call (Value.builtin "list.__getattribute__") _ _) _ _ _);show CQ F.slot_list_getattribute (hT _) am_entry_list_getattribute (F.args_list_getattribute_2 _ _) (meets_getattribute_miss_list a xs k sl "keys" _ Zh ()) ⟨hx,hA,λh' tk' e hx'=>?_⟩)|wp_step))
 let⟨t',u',he⟩:=hx'.there;show wpAny _ _ (getattributeRaised _ _ _ _ _ _ _) _ _ _;unfold getattributeRaised;repeat (any_goals (first|assumption|wp_step))
 show h _ _ hx'.of.keeps
end
section
variable{R:Result->Shared->Prop}{I:Addr}{fp wr:aI}{G:Array GenState->Array GenState->Prop}{n:Nat}{P:Nat->Value->Prop}{St:Nat->Shared->Prop}{κ:Type} [DecidableEq κ] {knd:HeapKind prog w κ}
def Ij{L:List (κ×Addr×Value)}(nd:(L.map (·.1)).Nodup){i:Nat}{x:κ×Addr×Value}(hx:L[i]?=some x):atKey (L.take i) x.1=none:=by
 unfold atKey;let:(L.take i).find? (λy=>decide (y.1=x.1))=none:=by
  rw[GX];intro y hy;simp only[decide_eq_true_eq];intro e;let⟨j,hj⟩:=TQ.mp hy;rw[List.getElem?_take]at hj;by_cases q:j<i
  ·rw[aB q]at hj;let:=idxH_unique (xs:=L) nd (i:=j) (j:=i) (k:=x.1) (p:=y.2) (q:=x.2) () (by rw[hx]);omega
  ·rw[aA q]at hj;show nomatch hj
 rw[this];rfl
def fill(W:WalksS prog w A.in1 I fp wr G n P St)(d:Addr)(nf:d∉fp)(L:List (κ×Addr×Value))(hn:L.length=n)(nd:(L.map (·.1)).Nodup)(bs:Nat->Addr)(hv:∀i v,i<n->P i v->v=.ref (bs i))
  (Kp:Heap->Prop) (kpS:∀h h',Kp h->Heap.SameBut d h h'->Kp h') (kpM:∀s s':Shared,Kp s.heap->Moved wr G s s'->Kp s'.heap)
  (hT:∀h i x,Kp h->L[i]?=some x->knd.is h x.1 x.2.1/\IsTup h (bs i) #[.ref x.2.1,x.2.2]) (hu:knd.room A.in1) (hz:n<=sizeLine) :
  ∀(k i:Nat) (s:Shared) (j:Int) (t:Tok),n-i=k->i<=n->St i s->s.heap.DictOfH knd d (L.take i)->Kp s.heap->
   (∀s',Moved (d::wr) G s s'->s'.heap.DictOfH knd d L->Kp s'.heap->R (.ok (.ret .none)) s')->
   codeAny (model prog w) A (.builtin "dict.update.loop" ⟨[.ref d,.ref I,.int j t,.none],[]⟩) R s:=by
 let nw:d∉wr:=λh=>nf (W.sub _ h);let up:∀b∈wr,b∈d::wr:=λb hb=>bJ _ hb;let a2l:∀(s s':Shared) (i:Nat),Moved wr G s s'->Kp s'.heap->s.heap.DictOfH knd d (L.take i)->s'.heap.DictOfH knd d (L.take i):=λs s' i hm kp z=>by
  let⟨o,es,ep,ho,hc,hd,he,his,hnn⟩:=z;show⟨o,es,ep,hm.heap d o nw ho,hc,hd,he,λx hx=>by
   let⟨j,hj⟩:=TQ.mp (jQ hx);show(hT _ j x kp hj).1,hnn⟩
 intro k
 induction k with
 |zero =>
  intro i s j t hk hi st hD kp hR;obtain rfl:i=n:=()
  show lW vY ?_;rw[mO kh _];show wpAny _ A.in1 (pyNext (.ref I) >>= _) _ _ s;show M (W.done s _ _ st λs' hm=>?_);let kp':=kpM _ _ kp hm;let hD':=a2l _ _ _ hm kp' hD;rw[<-hn,gw]at hD';show wpAny _ _ (Builtin.Dict.addKeywords d [] >>= _) _ _ _;show M (ao (ao (hR s' (hm.mono up) hD' kp')))
 |succ k ih =>
  intro i s j t hk hi st hD kp hR;let li:i<n:=()
  obtain⟨x,hx⟩:∃x,L[i]?=some x:=⟨L[i]'(),bI _⟩;show lW vY ?_;rw[mO kh _];show wpAny _ A.in1 (pyNext (.ref I) >>= _) _ _ s;show M (W.item i s _ _ li st λv s' hP st' hm=>?_);obtain rfl:=hv i v li hP;let kp':=kpM _ _ kp hm;let hD':=a2l _ _ _ hm kp' hD;let⟨hk1,hk2⟩:=hT _ i x kp' hx;let⟨ob,hb,hcl,m,hdat⟩:=id hk2;let hTy:s'.TypeIs (.ref (bs i)) "tuple" :=⟨_,hb,hcl⟩;show M (eV (M (wpAny_tryCatch ?_)));unfold Builtin.Dict.pairItems;show M (rW hTy ?_);let e1:((Value.type "tuple" == Value.type "list")||(Value.type "tuple" == Value.type "tuple"))=true:=()
  rw[aB e1];show M (qM hb hdat (ao ?_));show wpAny _ _ (holding [Value.ref x.2.1,x.2.2] (dictSet d (.ref x.2.1) x.2.2)) _ _ _;show eV (wpAny_dictSet_heap (hsz:=by rw[dY];omega) hu hk1 hD' λh' hD2 sb=>?_);let hD3:h'.DictOfH knd d (L.take (i+1)):=by
   rw[storedH_new (Ij nd hx)]at hD2;rw[List.take_add_one,hx];show hD2
  show ao ⟨nJ kh _,ih (i+1) _ _ _ () li (W.frame _ s' _ _ st' (Hg _ _) λc hc o e=>?_) hD3 (kpS _ _ kp' sb) λs2 hm2 h2 h3=>hR s2 (Moved.trans W.gtrans ((hm.mono up).then_heap (Hg _ _) λc o hc e=>?_) hm2) h2 h3⟩
  ·rw[sb.2 c (λq:c=d=>nf ())];show e
  ·rw[sb.2 c (λq:c=d=>hc ())];show e
end
section
variable{E:∅}{s:Shared}{κ:Type} [DecidableEq κ] {knd:HeapKind prog w κ}
def Zj(h:Heap):(h.push { cls:=.type "dict",data:=.dict #[]}).DictOfH knd h.objs.size [] :=
 ⟨_,#[],_,cB _ Z,⟨Z,Z,Z⟩,Z,Z,λx hx=>absurd hx (by simp),vJ⟩
def a0T{l:Addr}{o:Obj}{items:Array Value}{m:Nat}{L:List (κ×Addr×Value)}{bs:Nat->Addr}{Q:∅}(hh:A.handled=none)(hu:knd.room A.in1.in1)
  (hx:s^^^l=some o) (hc:o.cls=.type "list") (hdat:o.data=.seq items m) (hd:o.dict=none) (hn:L.length=items.size) (nd:(L.map (·.1)).Nodup) (hz:items.size<=sizeLine)
  (hv:∀(i:Nat) (v:Value),items[i]?=some v->v=.ref (bs i))
  (hT:∀(h:Heap) (i:Nat) (x:κ×Addr×Value),(∀b ob,s^^^b=some ob->h.get? b=some ob)->L[i]?=some x->knd.is h x.1 x.2.1/\IsTup h (bs i) #[.ref x.2.1,x.2.2])
  (h:∀(h':Heap) (tk:Nat),h'.DictOfH knd s⁻¹ L->(∀b ob,s^^^b=some ob->h'.get? b=some ob)->Q (.ref s⁻¹) { s with heap:=h',toks:=tk}) :
  ∎ (call (.type "dict") [.ref l]) Q E s:=by
 show callType_codes (Q₁:=λobj s₁=>obj=.ref s⁻¹/\s₁=(s•s.heap.push { cls:=.type "dict",data:=.dict #[]})) PySem.F.kt_called_dict (Ü _) PySem.F.entry_dict_init (kt_code_dict_new _ ⟨rfl,rfl⟩) ?_;rintro obj s₁ ⟨rfl,rfl⟩;let hnew:(s.heap.push { cls:=.type "dict",data:=.dict #[]}).DictOfH knd s⁻¹ []:=Zj s.heap;let hTd:Shared.TypeIs (s•s.heap.push { cls:=.type "dict",data:=.dict #[]}) (.ref s⁻¹) "dict" :=⟨_,cB _ rfl,rfl⟩;let hx1:(s.heap.push { cls:=.type "dict",data:=.dict #[]}).get? l=some o:=bM _ hx;let hTl:Shared.TypeIs (s•s.heap.push { cls:=.type "dict",data:=.dict #[]}) (.ref l) "list" :=⟨_,hx1,hc⟩;show⟨hTd,â _ _,?_⟩;unfold Builtin.«dict.__init__»;show M ?_;unfold Builtin.Dict.selfAndRest;show M (Cr hTd ?_);show wpAny _ _ (pure (s⁻¹,[Value.ref l])) _ _ _;show ao ?_;show wpAny _ _ (Builtin.Dict.updateFrom "dict.__init__" s⁻¹ (.ref l) [] .none) _ _ _;unfold Builtin.Dict.updateFrom;show M (rW hTl ?_);rw[aB ()];show M (Zi hx1 hc hdat hd (by simp[hh]) λh1 tk1 k1=>?_);simp only[Option.isNone_none,if_true];show M (j5 ?_);let ll:l<s⁻¹:=bw hx;let g1:h1.get? s⁻¹=some { cls:=.type "dict",data:=.dict #[]}:=k1 _ _ (cB _ Z);let g2:h1.get? l=some o:=k1 _ _ hx1;let dl:s⁻¹<h1.objs.size:=bw g1;let hl1:h1.IsList l items:=⟨_,g2,hc,m,hdat⟩;show M (vG (s:={ s with heap:=h1,toks:=tk1}) hl1 ?_);let hh3:A.in1.in1.handled=none:=by simp[hh]
 let ni:l≠h1.objs.size:=bV (qN ll dl);let nf:s⁻¹∉[h1.objs.size,l]:=by
  simp only[List.mem_cons,List.not_mem_nil,or_false,not_or];show⟨bV dl,iM ll⟩
 show ao ⟨nJ kh _,?_⟩;show fill (knd:=knd) (n:=items.size) ((Walks.list hh3 _ l ni items).toS) s⁻¹ nf L hn nd bs (λi v _ hp=>hv i v hp)
  (λh2=>∀b ob,s^^^b=some ob->h2.get? b=some ob) (λh2 h3 kp sb b ob e=>?_) (λs2 s3 kp hm b ob e=>?_) (λh2 i x kp e=>hT h2 i x kp e) hu hz items.size 0 _ _ _ () (dF _)
  ⟨⟨_,cB _ Z,Z,Z⟩,(hl1.push _)⟩ ?_ ?_ ?_
 ·rw[sb.2 b (bV (bw e))];show kp b ob e
 ·show hm.heap b ob ?_ (kp b ob e);simp only[List.mem_cons,List.not_mem_nil,or_false];show λq=>absurd q (bV (qN (bw e) dl))
 ·show⟨_,#[],_,bM _ g1,⟨Z,Z,Z⟩,Z,by rw[Nu];rfl,λx hx=>absurd hx (by simp),by rw[Nu];show vJ⟩
 ·show λb ob e=>bM _ (k1 b ob (bM _ e))
 ·intro s' hm hD kp;let⟨h',g',d',tk',os'⟩:=s';let eg:g'=s.gens:=hm.gens;let ed:d'=s.drawn:=hm.drawn;let eo:os'=s.os:=hm.os;subst eg;subst ed;subst eo;show⟨Z,h h' tk' hD kp⟩
end
end Dy
namespace L2
open PyProof.Rows
def a5R{c:Prop} [Decidable c] {a b:Prop} (hc:c) (h:a):if c then a else b:=by grind
def xr{c:Prop} [Decidable c] {a b:Prop} (hc:¬c) (h:b):if c then a else b:=by grind
def Dr{prog:Program}{w:World}{A:Around}{E:∅}{s:Shared}{l:Addr}{items:Array Value}{Q:aw->Shared->Prop}(hd:A.handled=none)(hl:s.heap.IsList l items)
  (h:∀h',(∀b o,b≠s⁻¹->s^^^b=some o->h'.get? b=some o)->Q items.toList (s•h')):∎ (unpackItems (.ref l) items.size none) Q E s:=by
 let hl0:=hl;let⟨o,e,c,d⟩:=hl;unfold unpackItems notIterableAtAll;show M (M (Hi (T:="list") ⟨_,e,c⟩ F.slot_list_iter.lookup (jF (a5R Z (ao (jF (xr cN (M (eV (vG hl0 ?_))))))))));lk;show M (eV ?_);let hn:l≠s⁻¹:=λz=>by
  let hlt:=bw e;show absurd z (bV hlt)
 let e1:∀(h':Heap),(∀b o,b≠s⁻¹->s^^^b=some o->h'.get? b=some o)->h'.IsList l items:=λh' k=>⟨o,k _ _ hn e,c,d⟩;show PySem.W.kun_draw hn items.size 0 _ _ ⟨_,cB _ Z,Z,Z⟩ (e1 _ λb o _ z=>bM _ z) () λh' st sb=>?_;let k1:∀b o,b≠s⁻¹->s^^^b=some o->h'.get? b=some o:=λb o hb z=>(sb.2 b hb).trans (bM _ z);let et:List.take items.size (List.drop 0 items.toList)=items.toList:=by rw[U4];show Cp (by simp)
 rw[et];show jF (xr (by simp) (M (eV (wpAny_pyNext_list_end hd st (e1 _ k1) (by simp) λh2 eb=>jF (xr (by simp) (ao (h h2 λb o hb z=>eb b o hb (k1 b o hb z))))))))
section
variable{X:Cx}{pos:Pos}
inductive a2m(K:aJ)(n:Nat)(t:ê)(v:V)(σ:St)(H:Hp)(Q:St->Hp->Prop):Prop
 |mk (a xs:_) (_:v=.ref a) (_:bD K H a xs) (_:xs.length=n) (_:t xs σ H Q)
def a0U{es:bc}{k:Nat}{t:ê}{n:Nat}(hc:X.calm=true)(h:PGs X es t)
  (hn:@&((assignEach es X.env).length=n)) (hst:@&((assignEach es X.env).findIdx? (·.1)=none)):PG X (.Tuple es k pos) (a2m X.K n t):=by
 intro Y s σ H v u Q I r hw;let⟨a,xs,e1,hq,hl,hw⟩:=hw;subst e1;cases r;let⟨bY,rv,p,hz⟩:=I.list hq;rw[assign_Tuple];show M (Nx ?_);unfold unpack;show M (eV ?_);let e2:(assignEach es X.env).length=bY.toArray.size:=by simp[hn,<-hl,rv.length]
 rw[hst,e2];show Dr (I.ok.hd hc) p.isList λh' k=>?_;let hi:=I.Fx (aK s⁻¹) (I.hok.fresh (aK _));let⟨f0,f1,f2,f3,f4,f5⟩:=hi;let I1:bG X Y σ H (s•h'):=I.turned (t':=s.toks) k f0 f1 f3 f4 f5;show h Y _ σ H xs _ Q I1 (by simpa using rv) hw
def Q0{K:aJ}{es:bc}{k:Nat}{t:ê}{n:Nat}(e:X.K=K)(hc:X.calm=true)(h:PGs X es t)
  (hn:@&((assignEach es X.env).length=n)) (hst:@&((assignEach es X.env).findIdx? (·.1)=none)):PG X (.Tuple es k pos) (a2m K n t):=by subst e;show a0U hc h hn hst
end
end L2
namespace Dq
open PyProof.Rows
variable{I:Addr}{o:Obj}{es:Array DictEntry}{ep:Nat}
variable{prog:Program}{w:World}{A:Around}{E:∅}{s:Shared}
abbrev kO(d:Addr)(i n ep:Nat):Obj:={ cls:=.type "dict_keyiterator",data:=.fields #[.ref d,.int (i:Nat) 0,.int (n:Nat) 0,.int (ep:Nat) 0]}
def args_next(a:Value):argsOk "dict_keyiterator.__next__" ⟨[a],[]⟩:=by unfold argsOk;kernel_rfl
def XF:∃l,mroOf (.type "dict_keyiterator")=pure l/\(["dict_reversekeyiterator","dict_reversevalueiterator","dict_reverseitemiterator"].any λt=>l.contains (Value.type t))=false/\(["dict_keyiterator","dict_reversekeyiterator"].any λt=>l.contains (Value.type t))=true:=⟨_,Z,(),()⟩
def Ī{Q:Bool->Shared->Prop}(hT:s.TypeIs (.ref I) "dict_keyiterator")(h:Q false s):∎ (Builtin.Dict_items.isOneOf (.ref I) ["dict_reversekeyiterator","dict_reversevalueiterator","dict_reverseitemiterator"]) Q E s:=by
 let⟨l,e,n,_⟩:=XF;unfold Builtin.Dict_items.isOneOf;show M (rW hT ?_);rw[e];show M (ao (ao ?_));rw[n];show h
def Zk{Q:Bool->Shared->Prop}(hT:s.TypeIs (.ref I) "dict_keyiterator")(h:Q true s):∎ (Builtin.Dict_items.isOneOf (.ref I) ["dict_keyiterator","dict_reversekeyiterator"]) Q E s:=by
 let⟨l,e,_,n⟩:=XF;unfold Builtin.Dict_items.isOneOf;show M (rW hT ?_);rw[e];show M (ao (ao ?_));rw[n];show h
def item_at{d:Addr}{i:Nat}{e:DictEntry}{Q:Option Value->Shared->Prop}(ne:d≠I)(ho:s^^^d=some o)(hd:o.data=.dict es ep)(hI:s^^^I=some (kO d i es.size ep))(hx:es[i]?=some e)
  (h:∀h',h'.get? I=some (kO d (i+1) es.size ep)->Heap.SameBut I s.heap h'->Q (some e.key) (s•h')):∎ (pyNext (.ref I)) Q E s:=by
 let hT:s.TypeIs (.ref I) "dict_keyiterator" :=⟨_,hI,Z⟩;unfold pyNext;show M (uF (nF (name:=Str.ofString "__next__") hT Mj (gG Mj hT Õ ?_ (args_next _))));unfold Builtin.«dict_keyiterator.__next__»;show M (m:=Builtin.Dict_items.slot0 "__next__" _) (ao ?_);lk;show M (M (M (m:=typeNameOfWhole _) (Mh hT ?_)));rw[show(if Builtin.Dict_items.ownsTuple "dict_keyiterator" = true then 2 else 0)=0 from rfl];show ao (M (CK hI Z ?_));show wpAny _ _ (if(Value.ref d==Value.none)=true then _ else _) _ _ _;show jF (L2.xr (by simp) (M (m:=Builtin.Dict_items.addrOf _) (ao (M (rQ ho hd (jF (L2.xr (by simp) (M (m:=Builtin.Dict_items.addrOf _) (ao (M (wW ho hd (jF (L2.xr (by simp) (ao ?_))))))))))))));lk;let e1:(if(i:Int)<0 then none else es[(i:Int).toNat]?)=some e:=by
  rw[aA (),ig];show hx
 rw[e1];lk;show M (M (m:=typeNameOfWhole _) (Mh hT ?_));rw[show(if Builtin.Dict_items.ownsTuple "dict_keyiterator" = true then 2 else 0)=0 from rfl];show ao (M (Ī hT (M (j4 hI (by simp) λh1 hI1 QH=>?_))));let hT1:Shared.TypeIs (s•h1) (.ref I) "dict_keyiterator" :=⟨_,hI1,rfl⟩;show M (eV (M (Zk hT1 (jF (L2.a5R Z (ao (ao ⟨_,Z,ao (h h1 ?_ QH)⟩)))))));rw[hI1];simp[rawInt]
def Ie{d:Addr}{Q:Option Value->Shared->Prop}(hh:A.handled=none)(ne:d≠I)(ho:s^^^d=some o)(hd:o.data=.dict es ep)(hI:s^^^I=some (kO d es.size es.size ep))
  (h:∀h',Heap.ExtBut I s.heap h'->Q none (s•h')):∎ (pyNext (.ref I)) Q E s:=by
 let hT:s.TypeIs (.ref I) "dict_keyiterator" :=⟨_,hI,Z⟩;unfold pyNext;show M (uF (nF (name:=Str.ofString "__next__") hT Mj (gG Mj hT Õ ?_ (args_next _))));unfold Builtin.«dict_keyiterator.__next__»;show M (m:=Builtin.Dict_items.slot0 "__next__" _) (ao ?_);lk;show M (M (M (m:=typeNameOfWhole _) (Mh hT ?_)));rw[show(if Builtin.Dict_items.ownsTuple "dict_keyiterator" = true then 2 else 0)=0 from rfl];show ao (M (CK hI Z ?_));show wpAny _ _ (if(Value.ref d==Value.none)=true then _ else _) _ _ _;show jF (L2.xr (by simp) (M (m:=Builtin.Dict_items.addrOf _) (ao (M (rQ ho hd (jF (L2.xr (by simp) (M (m:=Builtin.Dict_items.addrOf _) (ao (M (wW ho hd (jF (L2.xr (by simp) (ao ?_))))))))))))));lk;let e1:(if(es.size:Int)<0 then none else es[(es.size:Int).toNat]?)=none:=by
  rw[aA (),ig];simp
 rw[e1];lk;show M (M (m:=typeNameOfWhole _) (Mh hT ?_));rw[show(if Builtin.Dict_items.ownsTuple "dict_keyiterator" = true then 2 else 0)=0 from rfl];show ao (M (j4 hI (by simp) λh1 hI1 QH=>M ?_));simp only[newExc,newTuple];show M (jR ?_ (by size_fits));show M (m:=firstArgMember _ _) (Hs (a:=Value.none) (by first|rfl|(simp only[firstArgMember];rfl)) ?_);show jR ?_ (by size_fits);simp only[raiseNew];show M (NK ?_);rw[show A.in1.handled=none from hh];show M (ao (N6 ?_));show M (vI (U:="StopIteration") (T:="StopIteration") (b:=true) ⟨_,cB _ Z,Z⟩ Hj (ao (h _ ((QH.extBut.push _).push _))))
def Bd{d:Addr}{Q:∅}(hs:(d==sysModules)=false)(ho:s^^^d=some o)(hx:o.ExactDict)(hd:o.data=.dict es ep)
  (h:Q (.ref s⁻¹) (s•s.heap.push (kO d 0 es.size ep))):∎ (pyIter (.ref d)) Q E s:=by
 let hT:s.TypeIs (.ref d) "dict" :=⟨_,ho,hx.1⟩;show M6 hT F.slot_dict_iter (gG F.slot_dict_iter hT F.entry_dict_iter ?_ (F.args_dict_iter_1 _));unfold Builtin.«dict.__iter__»;show M ?_;unfold Builtin.Dict.dictSlotNone;show M (Cr hT (M (m:=slotArgs "__iter__" 0 _) (ao (ao (M (m:=Builtin.Dict.addrOf _) (ao (M ?_)))))));unfold Builtin.Dict.showsAll;show jF (L2.xr () (ao (M (rQ ho hd (M (wW ho hd (M ?_)))))));unfold newFields;show jR (ao ⟨_,Z,"dict_keyiterator",_,⟨_,cB _ Z,Z⟩,F.slot_dict_keyiterator_next.lookup,h⟩)
end Dq
namespace L2
open PyProof.Rows
section
variable{X:Cx}{Y:aE}{σ:St}{H:Hp}{s:Shared}{d:Addr}{J:List (Key×V)}
def bG.OJ{o o':HO}(I:bG X Y σ H s)(e:H d=some o)(nt:∀xs,o≠.tup xs)(no:∀y,o≠.own y)(nb:∀ps,o≠.tbl ps)(nf:∀b u,X.H₀ d≠some (.gP b u))(q:fD X.prog X.w H s.heap d o'):bG X Y σ (cU H d o') s:=by
 let ne:∀b,H b=none->b≠d:=λb n z=>by rw[z,e]at n;cases n
 let nn:∀b,H b=none->cU H d o' b=none:=λb n=>by rw[aR (ne b n)];show n
 let ho:∀b c,H b=some (.own c)->cU H d o' b=some (.own c):=λb c r=>by
  rw[aR]
  ·show r
  ·intro z;rw[z,e]at r;show no c (dI r)
 let ht:∀b xs,H b= ~~~xs->cU H d o' b= ~~~xs:=λb xs r=>by
  rw[aR]
  ·show r
  ·intro z;rw[z,e]at r;show nt xs (dI r)
 show⟨I.ok,I.os,I.bare,⟨I.base.keep,I.base.slot,λb ob q1 q2 q3=>nn b (I.base.free b ob q1 q2 q3),I.base.there,λb xs r=>ht b xs (I.base.tups b xs r),λb ob u r=>?_,λb ps r=>?_⟩,I.loc,I.cell,nn _ I.free,λx c r=>nn c (I.rY x c r),λp hp=>?_,λb u r=>?_,I.len⟩
 ·rw[aR]
  ·show I.base.Hv b ob u r
  ·intro z;rw[z]at r;show nf ob u r
 ·let⟨m,r1⟩:=I.base.N8 b ps r;show⟨m,?_⟩;rw[aR]
  ·show r1
  ·intro z;rw[z,e]at r1;show nb _ (dI r1)
 ·let⟨p1,p2,p3⟩:=I.pin p hp;show⟨p1,nn _ p2,p3⟩
 ·by_cases c:b=d
  ·subst c;rw[dG]at r;cases r;show q.stay (λ_ _ _ z=>z) (λc r=>ho c b r) ht
  ·rw[aR c]at r;show(I.hok b u r).stay (λ_ _ _ z=>z) (λc r=>ho c b r) ht
def bG.Q5{o:HO}(I:bG X Y σ H s)(e:H d=some o)(nf:∀b u,o≠.gP b u):∀b u,X.H₀ d≠some (.gP b u):=λb u z=>by
 let:=I.base.Hv d b u z;grind
def bG.O1{o:Obj}{u:HO}(I:bG X Y σ H s)(nf:∀b u,X.H₀ d≠some (.gP b u))(e:H d=some (.gP o u)):bG X Y σ (cU H d u) s:=by
 let⟨_,q⟩:=I.hok d _ e;show I.OJ e (λ_ z=>by cases z) (λ_ z=>by cases z) (λ_ z=>by cases z) nf q
end
end L2
namespace L2
open PyProof.Rows Bg
noncomputable def Itp(o:Obj)(d:Addr)(u:HO)(as:aI):It :=
 ⟨λi H=>H d=some (.gP o u)/\i<as.length,λi H x H'=>H'=H/\(as.map V.ref)[i]?=some x,λi H=>H d=some (.gP o u)/\i=as.length⟩
def V7{P:Program}{w:World}{K:aJ}{tg:Expr}{o:Obj}{u:HO}(d it:Addr){as:aI}{es:Array DictEntry}{ep:Nat}(hd:o.data=.dict es ep)(ek:es.toList.map (·.key)=as.map Value.ref) :
  Turn P w K tg (Itp o d u as) [it] it (λi h=>h.get? it=some (Dq.kO d i es.size ep)) where
 mem:=by simp
 obj:=λi h st b hb=>by
  grind
 keep:=λi h h' st k=>k it (by simp) _ st
 item:=by
  intro X hP hw hK hc i Y s σ H E I hf st hg
  subst hP hw hK
  let⟨hq,hi⟩:=hg
  let⟨hd1,_⟩:=I.hok d _ hq
  let⟨f0,f1,f2,f3,f4,f5⟩:=hf it (by simp)
  let ne:d≠it:=λz=>by grind
  let lz:es.size=as.length:=by let:=congrArg List.length ek;grind
  let he:es[i]?=some (es[i]'()):=yQ ()
  let a3K:(es[i]'()).key=Value.ref as[i]:=by
   let:=congrArg (λl=>l[i]?) ek
   try dsimp only at this
   rw[cH,cH,GP,he,bI hi]at this
   show dI this
  show Dq.item_at ne hd1 hd st he λh' hI sb=>?_
  let I1:bG X Y σ H (s•h'):=I.turned (t':=s.toks) (λb o hb e=>(sb.2 b hb).trans e) f0 f1 f3 f4 f5
  show⟨_,Z,Xa (s:=(s•h')) hI rfl rfl () ⟨.ref as[i],H,I1,a3K,⟨rfl,by rw[cH,bI hi];rfl⟩,hI,λb hb=>(hf b hb).1⟩⟩
 done:=by
  intro X hP hw hK hc i Y s σ H E I hf st hg
  subst hP hw hK
  let⟨hq,hx⟩:=hg
  let⟨hd1,_⟩:=I.hok d _ hq
  let⟨f0,f1,f2,f3,f4,f5⟩:=hf it (by simp)
  let ne:d≠it:=λz=>by grind
  let lz:es.size=as.length:=by let:=congrArg List.length ek;grind
  rw[hx,<-lz]at st
  show Dq.Ie (I.ok.hd hc) ne hd1 hd st λh' eb=>⟨Z,I.turned (t':=s.toks) (λb o hb e=>eb b o hb e) f0 f1 f3 f4 f5⟩
 self:=λ_ _ _ _ _ st h=>wpAny_pyIter_keyiter ⟨_,st,Z,Z⟩ h
end L2
namespace L2
open PyProof.Rows Bg Srt
section
variable{X:Cx}
inductive a7S(x:V)(y:V)(H:Hp)(Q:VK):Prop
 |mk (b a:Addr) (k:aS) (J:List (aS×V)) (_:x=.ref b) (_:y=.ref a) (_:H b= ~~~(k.map kV)) (_:H a=some (.dT J)) (_:Q (.bl (dh J k).isSome) H)
def ī(hu:X.A.units+1<cLine):qY X (compareOp .In) a7S:=by
 intro Y s σ H x y v u Q I rx ry h;let⟨b,a,t,ts,rfl,rfl,hb,e,q⟩:=h;obtain rfl:u=Value.ref a:=ry;show a5J hu I (xq.t e hb) rx λs3 I3=>⟨.bl _,H,I3,Z,q⟩
inductive a5S(o:V)(i:V)(v:V)(H:Hp)(Q:Hp->Prop):Prop
 |mk (a b:Addr) (k:aS) (J:List (aS×V)) (_:o=.ref a) (_:i=.ref b) (_:H b= ~~~(k.map kV)) (_:H a=some (.dT J)) (_:J.length<=5000) (_:∀H',vB H a (.dT (putK J k v)) H'->Q H')
def Ds(hu:X.A.units+1<cLine):a2N X a5S:=by
 intro Y s σ H o i v ov iv u Q I ro ri rv h;let⟨a,b,t,ts,rfl,rfl,hb,e,z,q⟩:=h;obtain rfl:ov=Value.ref a:=ro;show KZ hu I (V5.t e hb (GR z ())) ri rv λs' I'=>⟨_,I',q _ vB.nD⟩
def Ĭ{P:Program}{w:World}{H':Hp}{h':Heap}{a:Addr}{J:List (aS×V)}{xs:List (aS×Addr×Value)}(z:J.length<=sizeLine)(hd:(a==sysModules)=false)(rel:KT H' J xs)(dd:h'.DictOfH (tupleKind (fK P w)) a xs) :
  fD P w H' h' a (.dT J):=by
 let⟨o,es,ep,h1,h2,h3,h4,_,h5⟩:=dd;show⟨z,hd,xs,rel,o,es,ep,h1,h2,h3,h4,h5⟩
end
section
variable{X:Cx}{tg:Expr}
def a3L(t:TE):TE:=λσ H Q=>t σ H λv H1=>∃d o J kvs',H d=some (.dT kvs')/\H1 d=some (.gP o (.dT J))/\Q v (cU H1 d (.dT J))
def ĭ{e:Expr}{t:TE}(h:PE X e t):PE X e (a3L t):=by
 intro Y s σ H Q I q;show jC (h Y s σ H _ I q) λv s1 z=>?_;let⟨x,H1,I1,r1,d,o,ts,ts',e0,e1,q1⟩:=z;show⟨x,_,I1.O1 (I.Q5 e0 λ_ _ z=>by cases z) e1,r1,q1⟩
def a0V(t:TS):TS:=λD σ H=>t { D with nx:=λσ1 H1=>∃d o J kvs',H d=some (.dT kvs')/\H1 d=some (.gP o (.dT J))/\D.nx σ1 (cU H1 d (.dT J))} σ H
def vd{st:Stmt}{t:TS}(h:PS X st t):PS X st (a0V t):=by
 intro Y s σ H D I q;show jC (h Y s σ H _ I q) λf s1 z=>?_;cases f with
 |next =>
  let⟨σ1,H1,I1,d,o,J,kvs',e0,e1,q1⟩:=z;show⟨σ1,_,I1.O1 (I.Q5 e0 λ_ _ z=>by cases z) e1,q1⟩
 |ret u=>show z
 |brk=>show z
 |cont=>show z
inductive PrL(H:Hp)(v:V)(kv:aS×V):Prop
 |mk (p kp:_) (_:v=.ref p) (_:H p= ~~~[.ref kp,kv.2]) (_:H kp= ~~~(kv.1.map kV))
inductive a3M(K:aJ)(xs:af)(H:Hp)(Q:VK):Prop
 |mk (l:Addr) (vs:af) (J:List (aS×V)) (_:xs=[.ref l]) (_:H l=↥vs) (_:Paired (PrL H) vs J) (_:(J.map (·.1)).Nodup) (_:∀p H',iG H p (.dT J) H'->Q (.ref p) H')
def a3N{P:Program}{w:World}{H:Hp}{h:Heap}(hok:xY P w H h):∀{vs:af}{J:List (aS×V)}{bY:aw},Paired (PrL H) vs J->cZ vs bY->
  ∃(L:List (aS×Addr×Value)) (bs:aI),bY=bs.map Value.ref/\KT H J L/\Paired (λ(b:Addr) (x:aS×Addr×Value)=>IsTup h b #[.ref x.2.1,x.2.2]) bs L:=by
 intro vs J bY hp
 induction hp generalizing bY with
 |nil=>intro hv;cases hv;show⟨[],[],Z,.nil,.nil⟩
 | @cons v kv vs J a t ih =>
  intro hv;cases hv with
  | @cons _ u _ us ru rus =>
   let⟨L,bs,e,kt,pt⟩:=ih rus;let⟨p,kp,rfl,hp,hk⟩:=a;obtain rfl:u=Value.ref p:=ru;let⟨_,its2,r2,tp⟩:=(show fD P w H h p (.tup [.ref kp,kv.2])from hok p _ hp);cases r2 with
   | @cons _ u1 _ us1 q1 q2 =>
    obtain rfl:u1=Value.ref kp:=q1;cases q2 with
    | @cons _ u2 _ us2 q3 q4 =>
     cases q4;show⟨(kv.1,kp,u2)::L,p::bs,by rw[e];rfl,.cons ⟨Z,hk,q3⟩ kt,.cons tp pt⟩
def V8{K:aJ}(ek:X.K=K)(cm:X.calm=true)(hu:X.A.units+2<cLine):jy X (.type "dict") (a3M K):=by
 subst ek;intro Y s σ H xs us Q I r h;let⟨l,vs,J,rfl,hL,pr,nd,q⟩:=h;let⟨u,rfl,rx⟩:=vals1 r;cases rx;let⟨z,bY,n,rv,ol⟩:=(show fD X.prog X.w H s.heap l (.lst vs)from I.hok l _ hL);let⟨L,bs,rfl,kt,pt⟩:=a3N I.hok pr rv;let ln:L.length=bs.length:=(aW pt).symm;let lv:vs.length=bs.length:=by let:=rv.length;grind
 let lk:J.length=vs.length:=(aW pr).symm;let ek:J.map (·.1)=L.map (·.1):=by
  clear nd pr pt ln lk q
  induction kt with
  |nil=>rfl
  |cons a b ih=>grind
 let hr:(tupleKind (fK X.prog X.w)).room X.A.in1.in1:=by
  show X.A.in1.in1.units<cLine;show X.A.units+1+1<cLine;show hu
 show Dy.a0T (knd:=tupleKind (fK X.prog X.w)) (L:=L) (bs:=λi=>bs.getD i 0) (I.ok.hd cm) hr ol Z Z Z (by rw[iJ,aH];show ln) (by rw[<-ek];show nd) (by rw[iJ,aH];omega) (λi v hv=>?_) (λh i x kp hx=>?_) λh' tk dd kp=>?_
 ·rw[TV,cH]at hv;cases c:bs[i]? with
  |none=>rw[c]at hv;show nomatch hv
  |some b =>
   rw[c]at hv;rw[fY,c];show(dI hv).symm
 ·constructor
  ·let⟨kv,hkv,a1,a2,a3⟩:=cO kt hx;let⟨o,bY,n,h1,h2,h3,h4⟩:=zx I.hok a2;rw[<-a1];show⟨o,bY,n,kp _ _ h1,h2,h3,h4⟩
  ·let⟨b,hb,o,h1,h2⟩:=cO pt hx;rw[fY,hb];show⟨o,kp _ _ h1,h2⟩
 ·let hf:H s⁻¹=none:=I.hok.fresh (aK _);let hs:(s⁻¹==sysModules)=false:=qI.mpr (Ne.symm (bV I.big));show⟨.ref s⁻¹,_,I.laid (t':=tk) (o:=.dT J) (λb o e=>kp b o e) (aK _) (Ĭ () hs (kt.keeps λc ys ec=>?_) dd),Z,q _ _ (iG.nD hf)⟩;rw[aR (dO ec hf)];show ec
end
end L2
namespace L2
open PyProof.Rows
def Gm{X:Cx}{Y:aE}{σ:St}{H:Hp}{s:Shared}(I:bG X Y σ H s){h2:Heap}(ch:aI)(fk:∀b∈ch,CV X Y H b)
  (kp:∀b o,b∉ch->s^^^b=some o->h2.get? b=some o):bG X Y σ H (s•h2):=by
 show I.step (t':=s.toks) (g':=s.gens) (d':=s.drawn) (H':=H) (ch:=ch) (λb hb=>?_) (λb o _ _ hc q _=>kp b o hc q) (λb o _ _ hc q _=>⟨o.slots,kp b o hc q⟩) (λ_ _ _ _ n=>n)
  (λb o hc q=>⟨o,kp b o hc q⟩) (λ_ _ q=>q) (λ_ _ _ q=>q) (λb ps q=>⟨#[],by rw[q];simp⟩) (λm hm=>?_) (λb o q=>?_) I.bare
 ·let⟨f0,f1,f2,f3,f4,f5⟩:=fk b hb;show⟨f3,f1,f4,f5⟩
 ·let⟨o,es,ep,q,r⟩:=hm;show⟨o,es,ep,kp _ o (λz=>(fk _ z).2.1 Z) q,r⟩
 ·let nb:∀c v,H c=some v->c∉ch:=λc v q z=>dO q (fk c z).1 rfl;show(I.hok b o q).stay (λc v hcc r=>kp c v ?_ r) (λ_ q=>q) λ_ _ q=>q;grind
section
variable{X:Cx}{K:aJ}
def boot_zip:bootBuiltins "zip" = some (.type "zip"):=by decide
end
end L2
namespace Zd
open PyProof.Rows
def Dt:typeLookup (.type "zip") "__getattr__" = pure none:=UG (by kernel_rfl)
def J0:typeLookup (.type "zip") "keys" = pure none:=UG (by kernel_rfl)
def Į:entryFor table "zip.__getattribute__" = some Builtin.«object.__getattribute__» := Nt (id':="object.__getattribute__") (by kernel_rfl) () () (by kernel_rfl)
def V9(a:Addr)(fs:Array Value)(u:Tok):Meets (Builtin.«object.__getattribute__» ⟨[.ref a,.str "keys" u],[]⟩) (λA R s=>s^^^a=some { cls:=.type "zip",dict:=none,data:=.fields fs,slots:=#[]}/\raisesAttr (.ref a) "keys" A R s) :=
 Meets.of_wp λprog w A R s hs=>by
  let⟨hp,g,d,tk,os⟩:=s;let⟨hx,hs⟩:=hs;let hT:(⟨hp,g,d,tk,os⟩:Shared).TypeIs (.ref a) "zip" :=⟨_,hx,Z⟩;let hm:=J0;let hname:(["__module__","__name__","__qualname__","__doc__","__annotations__"]:ag).contains "keys" = false:=()
  unfold Builtin.«object.__getattribute__»;repeat (any_goals (first|assumption|wp_step))
  show wpAny_raiseAttrError hs.1 hs.2 (attrMsg_fits () (by size_fits))
section
variable{prog:Program}{w:World}{A:Around}{E:∅}{s:Shared}
def a0W{a:Addr}{fs:Array Value}{Q:Option Value->Shared->Prop}(hx:s^^^a=some { cls:=.type "zip",dict:=none,data:=.fields fs,slots:=#[]})(hA:A.handled=none)
  (h:∀h' tk,(∀b o,s^^^b=some o->h'.get? b=some o)->Q none { s with heap:=h',toks:=tk}):∎ (getAttr? (.ref a) "keys") Q E s:=by
 let⟨hp,g,d,tk,os⟩:=s;let hT:∀tk',(⟨hp,g,d,tk',os⟩:Shared).TypeIs (.ref a) "zip" := λ_=>⟨_,hx,Z⟩;let f1:=sub_AttributeError;let f3:=F.slot_zip_getattribute.lookup;let f4:=F.slot_zip_getattribute.bind (.ref a);let f5:=Dt;unfold getAttr? getAttrBy? getAttrBy;repeat (any_goals (first|assumption|exact hT _|((with_reducible show wpAny _ _ (call (Value.builtin "zip.__getattribute__") _ _) _ _ _);show CQ F.slot_zip_getattribute (hT _) Į (F.args_zip_getattribute_2 _ _) (V9 a fs _) ⟨hx,hA,λh' tk' e hx'=>?_⟩)|wp_step))
 let⟨t',u',he⟩:=hx'.there;show wpAny _ _ (getattributeRaised _ _ _ _ _ _ _) _ _ _;unfold getattributeRaised;repeat (any_goals (first|assumption|wp_step))
 show h _ _ hx'.of.keeps
end
end Zd
namespace Zd
open PyProof.Rows
variable{n T:Nat}{b:Bool}{oT:Obj}
abbrev Out(h:Heap)(n T:Nat)(b:Bool):Prop:=h.get? (n+4)=some { cls:=.type "zip",dict:=none,data:=.fields #[rawInt T,.bool b,.bool false,.ref (n+2),.ref (n+3)],slots:=#[]}
section
variable{prog:Program}{w:World}{A:Around}{E:∅}{s:Shared}
def Q6{Q:Bool->Shared->Prop}(hz:Out s.heap n T b)(hT:s^^^T=some oT)(h:∀h',Out h' n T true->Heap.SameBut (n+4) s.heap h'->Q false (s•h')) :
  ∎ (Builtin.SmallTypes.ownedTupleIsFree (.ref (n+4))) Q E s:=by
 unfold Builtin.SmallTypes.ownedTupleIsFree;show M (gJ hz Z (x:=rawInt T) Z ?_);show wpAny _ _ (loadIfAlive ((T:Int).toNat) >>= _) _ _ _;rw[ig];show M (PySem.W.kdx_alive hT ?_);simp only[Option.isNone_some,if_false,Bool.false_eq_true];show M (gJ hz Z (x:=.bool b) Z ?_);cases b with
 |true =>
  let e:(Value.bool true != Value.bool true)=false:=()
  rw[e];simp only[if_false,Bool.false_eq_true];show ao (h s.heap hz ⟨Z,λ_ _=>rfl⟩)
 |false =>
  let e:(Value.bool false != Value.bool true)=true:=()
  rw[e];simp only[if_true];show M (j4 hz (by simp) λh1 hz1 s1=>ao (h h1 hz1 s1))
def Zm{l1 l2 k:Nat}{xs ys:Array Value}{x y:Value}{Q:Option Value->Shared->Prop}(q1:l1<n)(q2:l2<n)(hz:Out s.heap n T b)(hT:s^^^T=some oT)
  (hTI:IsPair s.heap (n+2) (.ref n) (.ref (n+1))) (h1:s.heap.IsListIter n l1 k) (h2:s.heap.IsListIter (n+1) l2 k) (hl1:s.heap.IsList l1 xs) (hl2:s.heap.IsList l2 ys) (hx:xs[k]?=some x) (hy:ys[k]?=some y)
  (hQ:∀h',Out h' n T true->h'.IsListIter n l1 (k+1)->h'.IsListIter (n+1) l2 (k+1)->IsPair h' s⁻¹ x y->(∀e o,e≠n->e≠n+1->e≠n+4->s^^^e=some o->h'.get? e=some o)->Q ⇑(s⁻¹) (s•h')) :
  ∎ (pyNext (.ref (n+4))) Q E s:=by
 let hTy:s.TypeIs (.ref (n+4)) "zip" :=⟨_,hz,Z⟩;let d40:(n+4:Nat)≠n:=()
 let d41:(n+4:Nat)≠n+1:=()
 let d10:(n+1:Nat)≠n:=()
 let d01:(n:Nat)≠n+1:=()
 unfold pyNext;show M (uF (nF (name:=Str.ofString "__next__") hTy wX (gG wX hTy Nj ?_ (M7 _))));show wpAny _ _ (field (.ref (n+4)) 2 >>= _) _ _ _;show M (gJ hz Z (x:=.bool false) Z ?_);show wpAny _ _ (field (.ref (n+4)) 3 >>= _) _ _ _;show M (gJ hz Z (x:=.ref (n+2)) Z (M (qM hTI Z ?_)));show wpAny _ _ (Builtin.SmallTypes.ownedTupleIsFree (.ref (n+4)) >>= _) _ _ _;show M (Q6 hz hT λg1 z1 s1=>?_);let k1:∀e o,e≠n+4->s^^^e=some o->g1.get? e=some o:=λe o he q=>s1.extBut e o he q;simp only[if_false,Bool.false_eq_true];show M ?_;try rw[<-Uk]
 simp only[List.forIn_cons,List.forIn_nil];show M (M (eV ?_));show wpAny _ _ (Builtin.SmallTypes.nextOf (.ref n) >>= _) _ _ _;show M (GK (h1.at λo q=>k1 _ o () q) (hl1.at λo q=>k1 _ o () q) hx λg2 i2 s2=>ao (ao ?_));let k2:∀e o,e≠n+4->e≠n->s^^^e=some o->g2.get? e=some o:=λe o he h0 q=>s2.extBut e o h0 (k1 e o he q);show M (M (eV ?_));show wpAny _ _ (Builtin.SmallTypes.nextOf (.ref (n+1)) >>= _) _ _ _;show M (GK (h2.at λo q=>k2 _ o () () q) (hl2.at λo q=>k2 _ o () () q) hy λg3 i3 s3=>ao (ao (ao ?_)));let k3:∀e o,e≠n->e≠n+1->e≠n+4->s^^^e=some o->g3.get? e=some o:=λe o a0 a1 a4 q=>s3.extBut e o a1 (k2 e o a4 a0 q);let z3:Out g3 n T true:=s3.extBut (n+4) _ d41 (s2.extBut (n+4) _ d40 z1);let i2':g3.IsListIter n l1 (k+1):=i2.at λo q=>s3.extBut n _ d01 q;let sz:g3.objs.size=s⁻¹:=by rw[s3.1,s2.1,s1.1]
 lk;show M (Nr ?_ (by show 2<=sizeLine;rw[gO];decide));show ao ⟨_,Z,ao ?_⟩;let up:∀{c:Nat}{o:Obj},g3.get? c=some o->(g3.push { cls:=.type "tuple",data:=.seq #[x,y]}).get? c=some o:=λe=>bM _ e;let hp:IsPair (g3.push { cls:=.type "tuple",data:=.seq #[x,y]}) g3.objs.size x y:=cB _ rfl;rw[sz]at hp ⊢;show hQ _ (up z3) (i2'.at λo q=>up q) (i3.at λo q=>up q) hp λe o a0 a1 a4 q=>up (k3 e o a0 a1 a4 q)
def į{l1 k:Nat}{xs:Array Value}{Q:Option Value->Shared->Prop}(hh:A.handled=none)(q1:l1<n)(hz:Out s.heap n T b)(hT:s^^^T=some oT)
  (hTI:IsPair s.heap (n+2) (.ref n) (.ref (n+1))) (h1:s.heap.IsListIter n l1 k) (hl1:s.heap.IsList l1 xs) (hx:xs[k]?=none)
  (hQ:∀h',(∀e o,e≠n->e≠n+4->s^^^e=some o->h'.get? e=some o)->Q none (s•h')) :
  ∎ (pyNext (.ref (n+4))) Q E s:=by
 let hTy:s.TypeIs (.ref (n+4)) "zip" :=⟨_,hz,Z⟩;unfold pyNext;show M (uF (nF (name:=Str.ofString "__next__") hTy wX (gG wX hTy Nj ?_ (M7 _))));show wpAny _ _ (field (.ref (n+4)) 2 >>= _) _ _ _;show M (gJ hz Z (x:=.bool false) Z ?_);show wpAny _ _ (field (.ref (n+4)) 3 >>= _) _ _ _;show M (gJ hz Z (x:=.ref (n+2)) Z (M (qM hTI Z ?_)));show wpAny _ _ (Builtin.SmallTypes.ownedTupleIsFree (.ref (n+4)) >>= _) _ _ _;show M (Q6 hz hT λg1 z1 s1=>?_);let k1:∀e o,e≠n+4->s^^^e=some o->g1.get? e=some o:=λe o he q=>s1.extBut e o he q;simp only[if_false,Bool.false_eq_true];show M ?_;try rw[<-Uk]
 simp only[List.forIn_cons,List.forIn_nil];show M (M (eV ?_));show wpAny _ _ (Builtin.SmallTypes.nextOf (.ref n) >>= _) _ _ _;show M (wpAny_nextOf_list_end (by simpa using hh) (h1.at λo q=>k1 _ o () q) (hl1.at λo q=>k1 _ o () q) hx λg2 e s2 he=>?_);let⟨oe,hoe,hce⟩:=he;show M (vI (U:="StopIteration") (T:="StopIteration") (b:=true) ⟨oe,hoe,hce⟩ Hj (ao (hQ _ λc o c0 c4 q=>s2 c o c0 (k1 c o c4 q))))
end
end Zd
namespace Zd
open PyProof.Rows
variable{n l1 l2:Nat}
section
variable{prog:Program}{w:World}{A:Around}{R:Result->Shared->Prop}{κ:Type} [DecidableEq κ] {knd:HeapKind prog w κ}
def ZSt(n d i:Nat)(h:Heap):Prop:=(i=0/\IsZip h (n+4) (n+2) (n+3) .none/\∃a b,IsPair h (n+3) a b)\/(∃(T:Nat) (b:Bool) (oT:Obj),Out h n T b/\h.get? T=some oT/\T≠d/\T≠n/\T≠n+1/\T≠n+4)
def apart(q1:l1<n)(q2:l2<n):ZipApart (n+4) (n+2) (n+3) n (n+1) l1 l2:=by
 constructor<;>(intro z;let z':(_:Nat)=_:=z;omega)
def turn{d i:Nat}{xs ys:Array Value}{x y:Value}{s:Shared}{E:∅}{Q:Option Value->Shared->Prop}(q1:l1<n)(q2:l2<n)(st:ZSt n d i s.heap)(nd:n+4<d)(ds:d<s⁻¹)
  (hTI:IsPair s.heap (n+2) (.ref n) (.ref (n+1))) (h1:s.heap.IsListIter n l1 i) (h2:s.heap.IsListIter (n+1) l2 i) (hl1:s.heap.IsList l1 xs) (hl2:s.heap.IsList l2 ys) (hx:xs[i]?=some x) (hy:ys[i]?=some y)
  (hQ:∀h',ZSt n d (i+1) h'->IsPair h' (n+2) (.ref n) (.ref (n+1))->h'.IsListIter n l1 (i+1)->h'.IsListIter (n+1) l2 (i+1)->IsPair h' s⁻¹ x y->(∀e o,e<n->s^^^e=some o->h'.get? e=some o)->(∀o,s^^^d=some o->h'.get? d=some o)->Q ⇑(s⁻¹) (s•h')) :
  ∎ (pyNext (.ref (n+4))) Q E s:=by
 rcases st with⟨rfl,hz,a,b,hTO⟩|⟨T,b,oT,hz,hT,nT,nT0,nT1,nT4⟩
 ·show wpAny_pyNext_zip_item (apart q1 q2) hz hTI hTO h1 h2 hl1 hl2 hx hy λh' a1 a2 a3 a4 a5 a6 hk0=>?_;let hk:∀(c:Nat) (o:Obj),c≠n+4->c≠n+3->c≠n->c≠n+1->s^^^c=some o->h'.get? c=some o:=hk0;show hQ h' (.inr ⟨s⁻¹,false,_,a1,a5,(),(),(),()⟩) (hk (n+2) _ () () () () hTI) a3 a4 a5 (λe o he q=>hk e o () () () () q) λo q=>hk d o () () () () q
 ·show Zm q1 q2 hz hT hTI h1 h2 hl1 hl2 hx hy λh' a1 a3 a4 a5 hk=>hQ h' (.inr ⟨T,true,oT,a1,hk T _ nT0 nT1 nT4 hT,nT,nT0,nT1,nT4⟩) (hk (n+2) _ () () () hTI) a3 a4 a5 (λe o he q=>hk e o () () () q) λo q=>hk d o () () () q
def a5T{d:Nat}{base:Heap}{xs ys:Array Value}(hh:A.handled=none)(hu:knd.room A.in1)(q1:l1<n)(q2:l2<n)(nd4:n+4<d)(hb:base.objs.size=n)(L:List (κ×Addr×Value))(nd:(L.map (·.1)).Nodup)(hz:L.length<=sizeLine)
  (hxs:xs.size=L.length) (hX:∀(i:Nat) (x:κ×Addr×Value),L[i]?=some x->xs[i]?=⇑(x.2.1)/\ys[i]?=some x.2.2) (hl1:base.IsList l1 xs) (hl2:base.IsList l2 ys) (hK:∀h x,x∈L->(∀b ob,base.get? b=some ob->h.get? b=some ob)->knd.is h x.1 x.2.1) :
  ∀(k i:Nat) (s:Shared) (j:Int) (t:Tok),L.length-i=k->i<=L.length->(∀b ob,base.get? b=some ob->s^^^b=some ob)->d<s⁻¹->ZSt n d i s.heap->IsPair s.heap (n+2) (.ref n) (.ref (n+1))->s.heap.IsListIter n l1 i->s.heap.IsListIter (n+1) l2 i->s.heap.DictOfH knd d (L.take i)->
   (∀h' tk,h'.DictOfH knd d L->(∀b ob,base.get? b=some ob->h'.get? b=some ob)->R (.ok (.ret .none)) { s with heap:=h',toks:=tk})->
   codeAny (model prog w) A (.builtin "dict.update.loop" ⟨[.ref d,.ref (n+4),.int j t,.none],[]⟩) R s:=by
 intro k
 induction k with
 |zero =>
  intro i s j t hk hi kp ds st hTI h1 h2 hD hR;obtain rfl:i=L.length:=()
  rw[gw]at hD;let e1:xs[L.length]?=none:=by rw[<-hxs];simp
  let L1:=hl1.at λo q=>kp _ o q;let fin:∀h',(∀e o,e≠n->e≠n+3->e≠n+1->e≠n+4->s^^^e=some o->h'.get? e=some o)->R (.ok (.ret .none)) (s•h'):=λh' kk=>by
   let⟨o,es,ep,ho,hc,hd,he,his,hn⟩:=hD;let kb:∀(b:Nat) ob,base.get? b=some ob->h'.get? b=some ob:=λb ob q=>by
    let lb:(b:Nat)<n:=by rw[<-hb];show bw q
    show kk b ob () () () () (kp b ob q)
   show hR h' s.toks ⟨o,es,ep,kk d o () () () () ho,hc,hd,he,λx hx=>hK _ x hx kb,hn⟩ kb
  show lW Dy.vY ?_;rw[mO Dy.kh _];show wpAny _ A.in1 (pyNext (.ref (n+4)) >>= _) _ _ s;rcases st with⟨i0,hz0,a,b,hTO⟩|⟨T,b,oT,hz0,hT,nT,nT0,nT1,nT4⟩
  ·show M (wpAny_pyNext_zip_end (by simpa using hh) (apart q1 q2) hz0 hTI hTO h1 h2 L1 (hl2.at λo q=>kp _ o q) (.inl e1) λh' kk=>?_);show wpAny _ _ (Builtin.Dict.addKeywords d [] >>= _) _ _ _;show M (ao (ao (fin h' λe o a0 a3 a1 a4 q=>kk e o a4 a3 a0 a1 q)))
  ·show M (į (by simpa using hh) q1 hz0 hT hTI h1 L1 e1 λh' kk=>?_);show wpAny _ _ (Builtin.Dict.addKeywords d [] >>= _) _ _ _;show M (ao (ao (fin h' λe o a0 _ _ a4 q=>kk e o a0 a4 q)))
 |succ k ih =>
  intro i s j t hk hi kp ds st hTI h1 h2 hD hR;let li:i<L.length:=()
  obtain⟨x,hx⟩:∃x,L[i]?=some x:=⟨L[i],bI li⟩;let⟨hx1,hx2⟩:=hX i x hx;show lW Dy.vY ?_;rw[mO Dy.kh _];show wpAny _ A.in1 (pyNext (.ref (n+4)) >>= _) _ _ s;show M (turn q1 q2 st nd4 ds hTI h1 h2 (hl1.at λo q=>kp _ o q) (hl2.at λo q=>kp _ o q) hx1 hx2 λh' st' a7T h1' h2' hP kk kd=>?_);let kb:∀(b:Nat) ob,base.get? b=some ob->h'.get? b=some ob:=λb ob q=>by
   let lb:(b:Nat)<n:=by rw[<-hb];show bw q
   show kk b ob lb (kp b ob q)
  let hTy:Shared.TypeIs (s•h') (.ref s⁻¹) "tuple" :=⟨_,hP,rfl⟩;let hk1:=hK h' x (gF hx) kb;let hD':h'.DictOfH knd d (L.take i):=by
   let⟨o,es,ep,ho,hc,hd,he,his,hn⟩:=hD;show⟨o,es,ep,kd o ho,hc,hd,he,λy hy=>hK _ y (jQ hy) kb,hn⟩
  show M (eV (M (wpAny_tryCatch ?_)));unfold Builtin.Dict.pairItems;show M (rW hTy ?_);let e1:((Value.type "tuple" == Value.type "list")||(Value.type "tuple" == Value.type "tuple"))=true:=()
  rw[aB e1];show M (qM hP Z (ao ?_));show wpAny _ _ (holding [Value.ref x.2.1,x.2.2] (dictSet d (.ref x.2.1) x.2.2)) _ _ _;show eV (wpAny_dictSet_heap (hsz:=by rw[dY];omega) hu hk1 hD' λg2 hD2 sb=>?_);let hD3:g2.DictOfH knd d (L.take (i+1)):=by
   rw[storedH_new (Dy.Ij nd hx)]at hD2;rw[List.take_add_one,hx];show hD2
  let up:∀(c:Nat) (o:Obj),c≠d->h'.get? c=some o->g2.get? c=some o:=λc o hc q=>by rw[sb.2 c hc];show q
  show ao ⟨nJ Dy.kh _,ih (i+1) _ _ _ () li (λb ob q=>?_) ?_ ?_ ?_ ?_ ?_ hD3 λh3 tk hD4 kb3=>hR h3 tk hD4 kb3⟩
  ·let lb:b<n:=by rw[<-hb];show bw q
   let bd:(b:Nat)≠d:=bV (qN lb (GR (Hg n 4) nd4));show up b ob bd (kb b ob q)
  ·show d<g2.objs.size;let⟨o,_,_,ho,_⟩:=hD3;show bw ho
  ·rcases st' with⟨z,_⟩|⟨T,b,oT,hz0,hT,nT,nT0,nT1,nT4⟩
   ·omega
   ·show .inr ⟨T,b,oT,up (n+4) _ () hz0,up T _ nT hT,nT,nT0,nT1,nT4⟩
  ·show up (n+2) _ () a7T
  ·show h1'.at λo q=>up n o () q
  ·show h2'.at λo q=>up (n+1) o () q
end
end Zd
namespace Zd
open PyProof.Rows
section
variable{prog:Program}{w:World}{A:Around}{E:∅}{s:Shared}{κ:Type} [DecidableEq κ] {knd:HeapKind prog w κ}
def a3O{n l1 l2:Nat}{base:Heap}{xs ys:Array Value}{L:List (κ×Addr×Value)}{Q:∅}(hh:A.handled=none)(hu:knd.room A.in1.in1)(q1:l1<n)(q2:l2<n)(hb:base.objs.size=n)(nd:(L.map (·.1)).Nodup)(hz:L.length<=sizeLine)
  (hxs:xs.size=L.length) (hX:∀(i:Nat) (x:κ×Addr×Value),L[i]?=some x->xs[i]?=⇑(x.2.1)/\ys[i]?=some x.2.2) (hl1:base.IsList l1 xs) (hl2:base.IsList l2 ys) (hK:∀h x,x∈L->(∀b ob,base.get? b=some ob->h.get? b=some ob)->knd.is h x.1 x.2.1)
  (kp:∀b ob,base.get? b=some ob->s^^^b=some ob) (z:IsZip s.heap (n+4) (n+2) (n+3) .none) (hTI:IsPair s.heap (n+2) (.ref n) (.ref (n+1))) (hTO:IsPair s.heap (n+3) .none .none) (h1:s.heap.IsListIter n l1 0) (h2:s.heap.IsListIter (n+1) l2 0)
  (h:∀(h':Heap) (tk:Nat),h'.DictOfH knd s⁻¹ L->(∀b ob,base.get? b=some ob->h'.get? b=some ob)->Q (.ref s⁻¹) { s with heap:=h',toks:=tk}) :
  ∎ (call (.type "dict") [.ref (n+4)]) Q E s:=by
 show callType_codes (Q₁:=λobj s₁=>obj=.ref s⁻¹/\s₁=(s•s.heap.push { cls:=.type "dict",data:=.dict #[]})) PySem.F.kt_called_dict (Ü _) PySem.F.entry_dict_init (kt_code_dict_new _ ⟨rfl,rfl⟩) ?_;rintro obj s₁ ⟨rfl,rfl⟩;let up:∀{c:Nat}{o:Obj},s^^^c=some o->(s.heap.push { cls:=.type "dict",data:=.dict #[]}).get? c=some o:=λe=>bM _ e;let hTd:Shared.TypeIs (s•s.heap.push { cls:=.type "dict",data:=.dict #[]}) (.ref s⁻¹) "dict" :=⟨_,cB _ rfl,rfl⟩;let z1:IsZip (s.heap.push { cls:=.type "dict",data:=.dict #[]}) (n+4) (n+2) (n+3) .none:=up z;let hTz:Shared.TypeIs (s•s.heap.push { cls:=.type "dict",data:=.dict #[]}) (.ref (n+4)) "zip" :=⟨_,z1,rfl⟩;show⟨hTd,â _ _,?_⟩;unfold Builtin.«dict.__init__»;show M ?_;unfold Builtin.Dict.selfAndRest;show M (Cr hTd ?_);show wpAny _ _ (pure (s⁻¹,[Value.ref (n+4)])) _ _ _;show ao ?_;show wpAny _ _ (Builtin.Dict.updateFrom "dict.__init__" s⁻¹ (.ref (n+4)) [] .none) _ _ _;unfold Builtin.Dict.updateFrom;show M (rW hTz ?_);rw[aB ()];show M (a0W z1 (by simp[hh]) λg1 tk1 k1=>?_);simp only[Option.isNone_none,if_true];show M (j5 ?_);let nz:n+4<s⁻¹:=bw z;let z2:IsZip g1 (n+4) (n+2) (n+3) .none:=k1 _ _ z1;let gd:g1.get? s⁻¹=some { cls:=.type "dict",data:=.dict #[]}:=k1 _ _ (cB _ Z);let dl:s⁻¹<g1.objs.size:=bw gd;show M (Uu (s:={ s with heap:=g1,toks:=tk1}) z2 (ao ⟨nJ Dy.kh _,a5T (knd:=knd) (n:=n) (d:=s⁻¹) (base:=base) (xs:=xs) (ys:=ys) (by simp[hh]) hu q1 q2 nz hb L nd hz hxs hX hl1 hl2 hK L.length 0 _ _ _ () (dF _) (λb ob q=>k1 _ _ (up (kp b ob q))) dl (.inl ⟨Z,z2,_,_,k1 _ _ (up hTO)⟩) (k1 _ _ (up hTI)) (h1.at λo q=>k1 _ _ (up q)) (h2.at λo q=>k1 _ _ (up q)) ?_ ?_⟩))
 ·rw[Nu];show⟨_,#[],_,gd,⟨Z,Z,Z⟩,Z,Z,λx hx=>absurd hx (by simp),vJ⟩
 ·intro g2 tk2 hD kb;show⟨Z,h g2 tk2 hD kb⟩
end
end Zd
namespace L2
open PyProof.Rows Bg
def Wa:bootBuiltins "dict" = some (.type "dict"):=by decide
def KyL(H:Hp)(v:V)(k:aS):Prop:=∃p,v=.ref p/\H p= ~~~(k.map kV)
def a3P(ta:TA):TE:=λσ H Q=>ta σ H λvs H1=>∃(a b:Addr) (xs ys:af) (ks:List (aS)),vs=[.ref a,.ref b]/\H1 a=↥xs/\H1 b=↥ys/\Paired (KyL H1) xs ks/\ks.length=ys.length/\ks.Nodup/\ks.length<=5000/\∀p H',iG H1 p (.dT (ks.zip ys)) H'->Q (.ref p) H'
def a3Q{P:Program}{w:World}{H:Hp}{h:Heap}(hok:xY P w H h):∀{xs ys:af}{ks:List (aS)}{us vs:aw},Paired (KyL H) xs ks->cZ xs us->cZ ys vs->ks.length=ys.length->
  ∃L:List (aS×Addr×Value),KT H (ks.zip ys) L/\L.map (·.1)=ks/\us=L.map (λx=>Value.ref x.2.1)/\vs=L.map (λx=>x.2.2):=by
 intro xs ys ks us vs hp
 induction hp generalizing ys us vs with
 |nil =>
  intro hu hv hl;cases hu;cases ys with
  |nil=>cases hv;show⟨[],.nil,Z,Z,Z⟩
  |cons=>cases hl
 | @cons x k xs ks a t ih =>
  intro hu hv hl;cases hu with
  | @cons _ u _ us ru rus =>
   cases hv with
   |nil=>cases hl
   | @cons y v _ vs rv rvs =>
    let⟨L,kt,e1,e2,e3⟩:=ih rus rvs (Nat.succ.inj hl);let⟨p,rfl,hp⟩:=a;obtain rfl:u=Value.ref p:=ru;show⟨(k,p,v)::L,.cons ⟨Z,hp,rv⟩ kt,(),(),()⟩
section
variable{X:Cx}
def İ{l m:Expr}{ta:TA}{p p2 pos pos2:Pos}(cm:X.calm=true)(hu:X.A.units+2<cLine)(hgd:Gl X "dict")(hmd:X.mg "dict" = none)(hg:Gl X "zip")(hm:X.mg "zip" = none)(ha:PA X [l,m] ta)
  (hs:@&(starEach [l,m] X.env=[(false,eval l X.env),(false,eval m X.env)])) (hs2:@&(starEach [m] X.env=[(false,eval m X.env)]))
  (hs3:@&(starEach [Expr.Call (.Name "zip" p2) [l,m] [] pos2] X.env=[(false,eval (.Call (.Name "zip" p2) [l,m] [] pos2) X.env)])) :
  PE X (.Call (.Name "dict" p) [.Call (.Name "zip" p2) [l,m] [] pos2] [] pos) (a3P ta):=by
 intro Y s σ H Q I h;show vD (uG I hgd hmd Wa ?_);show wL ?_ (by rw[hs3];rfl) (by rfl);rw[hs3];show wpAny _ _ (spliced [(false,eval (.Call (.Name "zip" p2) [l,m] [] pos2) X.env)]) _ _ _;show Calls.spliced_cons (vD (uG I hg hm boot_zip ?_));show wL (jC (ha pos2 Y s σ H _ I h) λus s1 ⟨vs,H1,I1,r1,q1⟩=>?_) (by rw[hs,hs2]) (by rw[hs2];rfl);let⟨a,b,xs,ys,ks,e,hA,hB,pk,lk,nd,l5,q⟩:=q1;subst e;let⟨u1,u2,rfl,r1,r2⟩:=vals2 r1;cases r1;cases r2;let⟨z1,a3R,n1,rv1,o1⟩:=(show fD X.prog X.w H1 s1.heap a (.lst xs)from I1.hok a _ hA);let⟨z2,its2,n2,rv2,o2⟩:=(show fD X.prog X.w H1 s1.heap b (.lst ys)from I1.hok b _ hB);let⟨L,kt,e1,rfl,rfl⟩:=a3Q I1.hok pk rv1 rv2 lk;let L1:s1.heap.IsList a (L.map λx=>Value.ref x.2.1).toArray:=⟨_,o1,Z,_,Z⟩;let L2':s1.heap.IsList b (L.map λx=>x.2.2).toArray:=⟨_,o2,Z,_,Z⟩;let la:a<s1⁻¹:=bw o1;let lb:b<s1⁻¹:=bw o2;let lL:L.length=ks.length:=()
 show call_zip_2 L1 L2' λh' hz hTI hTO h1 h2 hsz hk=>Calls.spliced_nil ?_;let hr:(tupleKind (fK X.prog X.w)).room X.A.in1.in1:=hu;show Zd.a3O (s:=(s1•h')) (knd:=tupleKind (fK X.prog X.w)) (n:=s1⁻¹) (base:=s1.heap) (L:=L) (I1.ok.hd cm) hr la lb rfl (by rw[e1];show nd) (by rw[gO];omega) (by simp) (λi x hx=>?_) L1 L2' (λg x hx kb=>?_) hk hz hTI hTO h1 h2 λg tk dd kb=>?_
 ·rw[TV,TV,cH,cH,hx];show⟨Z,Z⟩
 ·let⟨i,hi⟩:=TQ.mp hx;let⟨kv,hkv,a1,a2,a3⟩:=cO kt hi;let⟨o,bY,n,g1,g2,g3,g4⟩:=zx I1.hok a2;rw[<-a1];show⟨o,bY,n,kb _ _ g1,g2,g3,g4⟩
 ·let lt:s1⁻¹<=h'.objs.size:=by rw[hsz];show Hg _ _
  let hf:H1 h'.objs.size=none:=I1.hok.fresh lt;let hs:(h'.objs.size==sysModules)=false:=qI.mpr (Ne.symm (bV (jd I1.big lt)));show⟨.ref h'.objs.size,_,I1.laid (t':=tk) (o:=.dT (ks.zip ys)) (λc o e=>kb c o e) lt (Ĭ () hs (kt.keeps λc zs ec=>?_) dd),Z,q _ _ (iG.nD hf)⟩;rw[aR (dO ec hf)];show ec
end
end L2
namespace L2
open PySem.Calls PyProof.Rows
structure a3S(K:aJ)(x qual:Str)(st:Stmt)(f:Addr)(fd:FuncData):Prop where
 ex:∃(oc:Value) (od:Option Addr) (dV kV doc pm:Value) (an:Option Addr) (d7 ct:Value) (osl:Array (Option Value)),
  fd=fnOf x qual (gR st) (gh st) (aG st) dV kV doc pm an d7 ct/\K.lookup f=some ⟨oc,od,.func fd,osl⟩/\codeIn K d7 qual=true
 kp:keepIn K (.ref f)=true
section
variable{P:Program}{w:World}{K:aJ}{mg:Str->Option Value}{base:Heap}{x qual:Str}{st:Stmt}{f:Addr}{fd:FuncData}{N ps:ag}{k:Nat}{sp:Sp}
def a3S.ok(F:a3S K x qual st f fd)(S:bN N ps (aG st))(len:∀vs H Q E,sp vs H Q E->vs.length=ps.length)
  (hb:∀(d7:Value) (A:Around) (outer:List Env) (s:Shared) (H:Hp) (vs:af) (Q:VK) (E:XK),qZ k (A.deeper (envOfC qual (aG st) s⁻¹ f d7))->sp vs H Q E->
   ∃t,Qk (Vn fW P w K mg base N qual (aG st) f d7 A outer s H E).nox (gh st) t/\t { nx:=λ_ H'=>Q .non H',rt:=Q} (start N vs) H):⋯ (k+1) f fd ps sp:=by
 let⟨_,_,_,_,_,_,_,d7,_,_,rfl,lk,hcd⟩:=F.ex;show a2g lk hcd S len λA outer s H vs Q E hr hsp=>(hb d7 A outer s H vs Q E hr hsp).imp λt h=>⟨h.1.nox,h.2⟩
end
structure DmD(K:aJ)(C:Addr)(m qual:Str)(st:Stmt)(ps:ag) where
 f:Addr
 fd:FuncData
 F:a3S K m qual st f fd
 b:Binds K fd ps []
 b1:Binds K fd ps [.none]
 mt:Meth K C m f
def a3T{K:aJ}{C:Addr}{m qual:Str}{st:Stmt}{ps:ag}{f T:Addr}{oc oT:Value}{od an dT:Option Addr}{osl sT:Array (Option Value)}{kV doc pm d7 ct:Value}{nT:Nat}
  (a:findIn K (.ref C) m=some ⇑f) (i:isFn K (.ref f)=true)
  (l:K.lookup f=some ⟨oc,od,.func (fnOf m qual (gR st) (gh st) (aG st) (.ref T) kV doc pm an d7 ct),osl⟩) (c:codeIn K d7 qual=true) (k:keepIn K (.ref f)=true)
  (lT:K.lookup T=some ⟨oT,dT,.seq #[.none] nT,sT⟩)
  (h:∀(kV doc pm:Value) (an:Option Addr) (d7 ct:Value) (us:aw),us.length=ps.length->∃g,bindArgs (fnOf m qual (gR st) (gh st) (aG st) (.ref T) kV doc pm an d7 ct) ⟨us,[]⟩=seqItems? (.ref T) >>= g/\g (some #[.none])=pure (ps.zip us))
  (h1:∀(kV doc pm:Value) (an:Option Addr) (d7 ct:Value) (us:aw),us.length+1=ps.length->∃g,bindArgs (fnOf m qual (gR st) (gh st) (aG st) (.ref T) kV doc pm an d7 ct) ⟨us,[]⟩=seqItems? (.ref T) >>= g/\g (some #[.none])=pure (ps.zip (us++[.none]))):DmD K C m qual st ps :=
 {
  f:=f,fd:=_,F:=⟨⟨_,_,_,_,_,_,_,_,_,_,Z,l,c⟩,k⟩,
  b:=λs us X hl=>by
   rw[jE]at hl ⊢
   let⟨g,e1,e2⟩:=h kV doc pm an d7 ct us hl
   show BindsTo.of_defaults Z (X _ _ lT) Z e1 e2,
  b1:=λs us X hl=>by
   let⟨g,e1,e2⟩:=h1 kV doc pm an d7 ct us (by rw[cu]at hl;show hl)
   show BindsTo.of_defaults Z (X _ _ lT) Z e1 e2,
  mt:=⟨a,i,k⟩}
end L2
namespace Dy
open PyProof.Rows
section
variable{prog:Program}{w:World}{A:Around}{E:∅}{s:Shared}{κ:Type} [DecidableEq κ] {knd:HeapKind prog w κ}
def Q7{d a:Addr}{xs:List (κ×Addr×Value)}{k:κ}{v:Value}{Q:∅}(hu:knd.room A)(hkey:knd.is s.heap k a)(hm:s.heap.DictOfH knd d xs)(hz:xs.length<=sizeLine)
  (old:∀p tk,atKey xs k=some p->Q p.2 { s with toks:=tk}) (new:∀h' tk,atKey xs k=none->h'.DictOfH knd d (xs++[(k,a,v)])->Heap.SameBut d s.heap h'->Q v { s with heap:=h',toks:=tk}) :
  ∎ (dictSetDefault d (.ref a) v) Q E s:=by
 let⟨o,es,ep,ho,hc,hd,he,his,hn⟩:=hm;let hes:es.size<=sizeLine:=by let e:=UJ he;omega
 unfold dictSetDefault;try with_reducible show eV ?_
 show M (knd.pyHash hu hkey ?_);show M (wpAny_dictFind_heap (s:={ s with toks:=s.toks+knd.draws k}) hu hkey ho hd he his hn ?_ ?_)
 ·intro hno;let none_:=atKey_none_of_get hno;let hnot:k∉xs.map (·.1):=not_mem_keys_of_get hno;show M (j5 (M (wpAny_updateDictKeys (hz:=hes) (s:={ s with toks:=s.toks+knd.draws k}) ho hd (ao (new _ _ none_ ⟨_,_,ep+1,Cq _ ho (Obj.isFreed_of_dict (Obj.data_mapDictKeys hd _)),hc.mapDictKeys _,Obj.data_mapDictKeys hd _,?_,?_,?_⟩ (qJ ..))))))
  ·simp[he,entryOfKey]
  ·intro x hx;rcases cV.mp hx with hx|hx
   ·show knd.keeps (his x hx) ho hd (qJ ..)
   ·rw[bK.mp hx];show knd.keeps hkey ho hd (qJ ..)
  ·rw[cW];show uE.mpr ⟨hn,ur _ _,λx hx y hy e=>hnot (by rw[<-show y=k from bK.mp hy,<-e];show hx)⟩
 ·intro j q hj;let hej:es[j]?=some (entryOfKey knd (k,q)):=by rw[entry_at he j,hj];rfl
  show M (rQ (s:={ s with toks:=s.toks+knd.draws k}) ho hd ?_);rw[hej];show M (j5 (ao (old q _ (atKey_of_get hn hj))))
def Du{d a:Addr}{k:κ}{v:Value}(hs:(d==sysModules)=false):MeetsIn prog w (Builtin.«dict.setdefault» ⟨[.ref d,.ref a,v],[]⟩) (λA R s=>knd.room A.in1/\∃xs,knd.is s.heap k a/\s.heap.DictOfH knd d xs/\xs.length<=sizeLine/\
   (∀p tk,atKey xs k=some p->R (.ok (.ret p.2)) { s with toks:=tk})/\∀h' tk,atKey xs k=none->h'.DictOfH knd d (xs++[(k,a,v)])->Heap.SameBut d s.heap h'->R (.ok (.ret v)) { s with heap:=h',toks:=tk}) :=
 .of_wp λA R s h=>by
  let⟨hu,xs,hkey,hm,hz,old,new⟩:=h;let⟨o,es,ep,ho,hc,hd,he,his,hn⟩:=id hm;let hT:s.TypeIs (.ref d) "dict" :=⟨_,ho,hc.1⟩;unfold Builtin.«dict.setdefault»;show M ?_;unfold Builtin.Dict.keyAndDefault;show M (Cr hT ?_);show wpAny _ _ (pure (d,Value.ref a,some v)) _ _ s;show ao ?_;lk;rw[hs];simp only[Bool.false_eq_true,if_false];show M (Q7 hu hkey hm hz (λp tk e=>ao ⟨_,Z,old p tk e⟩) λh' tk e hD sb=>ao ⟨_,Z,new h' tk e hD sb⟩)
end
end Dy
namespace L2
open PyProof.Rows Bg
section
variable{X:Cx}
inductive a5U(x:V)(vs:af)(H:Hp)(Q:VK):Prop
 |mk (a b:Addr) (k:aS) (J:List (aS×V)) (v:V) (_:x=.ref a) (_:vs=[.ref b,v]) (_:H b= ~~~(k.map kV)) (_:H a=some (.dT J)) (_:Q ((dh J k).getD v) H)
def a0X(hu:X.A.units+1<cLine):Qp X "dict.get" a5U:=by
 intro Y s σ H x xs v us Q I rx rs h;let⟨a,b,k,J,y,rfl,rfl,hb,e,q⟩:=h;obtain rfl:v=Value.ref a:=rx;let⟨u,u2,rfl,ru,Zn⟩:=vals2 rs;obtain rfl:u=Value.ref b:=ru;let⟨z,hd,xs,rel,dd⟩:=Ew I.hok e;show Ho Cu dd.typeIs Tz (Tq _ _ _) (meetsH_dict_get_default (tupleKind (fK X.prog X.w)) a b hd u2) ⟨yV hu,k,xs,zx I.hok hb,dd,⟨_,H,I.tok _,(rel.val k).getD Zn,q⟩⟩
end
end L2
namespace Dk
open PyProof.Rows
variable{b:Bool}
noncomputable def a5V(b:Bool)(v:Value):Bool:=match v with
 |.bool c=>c==b
 |_=>false
def pI{v:Value}(h:a5V b v=true):v=.bool b:=by
 cases v with
 |bool c=>show congrArg Value.bool (eq_of_beq h)
 |_=>cases h
section
variable{prog:Program}{w:World}{A:Around}{E:∅}{s:Shared}
def Zo{Q : Int → Shared → Prop}(h : Q (if b then 1 else 0) { s with toks := s.toks + 1 }) : ∎ (pyHash (.bool b)) Q E s := by
  unfold pyHash;let hv : [Value.bool b].any Value.onHeap = false := rfl;show M ?_;rw [cRoomFor, aA ()]; show ao ?_;show M (Hi (CG s b) F.slot_bool_hash.lookup ?_);show wpAny _ _ (if (some (Value.builtin "int.__hash__") == some Value.none) = true then _ else _) Q E s;rw [aA ()];show M (Hi (CG s b) F.slot_bool_hash.lookup ?_);show wpAny _ _ (callSpecialIfBoundUnlessNone? (.bool b) "__hash__" _ >>= _) Q E s;cases b
  · show M (Ï (CG s false) Nk
      (gG Nk (CG s false) entry_int_hash
        (show wpAny _ _ (do ret (← mkInt 0)) _ _ s from wpAny_ret_mkInt ?_) (args_int_hash _)))
    show ao h
  · show M (Ï (CG s true) Nk
      (gG Nk (CG s true) entry_int_hash
        (show wpAny _ _ (do ret (← mkInt 1)) _ _ s from wpAny_ret_mkInt ?_) (args_int_hash _)))
    show ao h
def ı{a:Bool}{Q:Bool->Shared->Prop}(h:Q (decide (a=b)) s):∎ (eqBool (.bool a) (.bool b)) Q E s:=by
 unfold eqBool;show wpAny _ _ (if(Value.bool a==Value.bool b)=true then _ else _) Q E s;by_cases hab:(Value.bool a==Value.bool b)=true
 ·rw[aB hab];let e:a=b:=()
  subst e;show M (j5 (ao (by simpa using h)))
 ·rw[aA hab];show M (eq_bool (Cz ?_));grind
end
def Ik(prog:Program)(w:World):KeyKind prog w Bool where
 is:=a5V
 hash:=λb=>if b then 1 else 0
 inj:=λv a b h h'=>by
  let e:=pI h
  let e':=pI h'
  rw[e]at e'
  injection e'
 byValue:=λk v h=>by rw[pI h];rfl
 pyHash:=λhv h=>by rw[pI hv];show Zo h
 eqBool:=λhu hv h=>by rw[pI hu,pI hv];show ı h
 «strs» := λk x t v h=>by cases h
end Dk
namespace L2
open PyProof.Rows Bg
section
variable{P:Program}{w:World}{κ:Type} [DecidableEq κ]
inductive Zq(knd:KeyKind P w κ)(H:Hp)(b:Addr)(k:List κ):Prop
 |mk (vs:_) (_:H b= ~~~vs) (_:Paired (λv x=>∀u,cY v u->knd.is x u=true) vs k)
def Zq.same{knd:KeyKind P w κ}{H H':Hp}{b:Addr}{k:List κ}(e:∀c ys,H c= ~~~ys->H' c= ~~~ys)(h:Zq knd H b k):Zq knd H' b k:=by
 let⟨vs,h1,h2⟩:=h;show⟨vs,e _ _ h1,h2⟩
def a3U{knd:KeyKind P w κ}{vs:af}{k:List κ}{us:aw}(p:Paired (λv x=>∀u,cY v u->knd.is x u=true) vs k)(q:cZ vs us):ItemsAre knd k us:=by
 induction p generalizing us with
 |nil=>cases q;show .nil
 |cons h _ ih =>
  cases q with
  |cons r s=>show .cons (h _ r) (ih s)
def O3{knd:KeyKind P w κ}{H:Hp}{h:Heap}{b:Addr}{k:List κ}(ok:xY P w H h)(e:Zq knd H b k):(tupleKind knd).is h k b:=by
 let⟨vs,e1,e2⟩:=e;let⟨_,bY,r,o,h1,h2,n,h3⟩:=(show fD P w H h b (.tup vs)from ok b _ e1);show⟨o,bY.toArray,n,h1,h2,h3,by simpa using a3U e2 r⟩
def Ĵ(knd:KeyKind P w κ)(a:Addr)(xs:List (List κ×Addr×Value)):Heap->Prop:=λh=>(a==sysModules)=false/\∃o es ep,h.get? a=some o/\o.ExactDict/\o.data=.dict es ep/\es.toList=xs.map (entryOfKey (tupleKind knd))/\(xs.map (·.1)).Nodup
def DX(knd:KeyKind P w κ)(H:Hp)(a:Addr)(J:List (List κ×V)):Prop:=J.length<=5000/\((J=[]/\H a=some (.dT []))\/∃xs:List (List κ×Addr×Value),H a=some (.ext (Ĵ knd a xs))/\Paired (λp q=>p.1=q.1/\Zq knd H q.2.1 p.1/\cY p.2 q.2.2) J xs)
def DX.same{knd:KeyKind P w κ}{H H':Hp}{a:Addr}{J:List (List κ×V)}(e:aL H H')(h:DX knd H a J):DX knd H' a J:=by
 obtain⟨z,h|⟨xs,h1,h2⟩⟩:=h
 ·show⟨z,.inl ⟨h.1,e _ _ h.2⟩⟩
 ·show⟨z,.inr ⟨xs,e _ _ h1,Paired.cA h2 λ_ _ ⟨a,b,c⟩=>⟨a,b.same λ_ _ q=>e _ _ q,c⟩⟩⟩
def DX.a2H{knd:KeyKind P w κ}{H:Hp}{a:Addr}{J:List (List κ×V)}(h:DX knd H a J){ys:af}:H a≠~~~ys:=λe=>by
 obtain⟨z,h|⟨xs,h1,h2⟩⟩:=h
 ·grind
 grind
def DX.new{knd:KeyKind P w κ}{H:Hp}{a:Addr}(h:H a=some (.dT [])):DX knd H a []:=⟨dF _,.inl ⟨Z,h⟩⟩
def ĵ{knd:KeyKind P w κ}{H:Hp}{h:Heap}{a:Addr}{J:List (List κ×V)}(ok:xY P w H h)(d:DX knd H a J):(a==sysModules)=false/\∃xs,Paired (λp q=>p.1=q.1/\Zq knd H q.2.1 p.1/\cY p.2 q.2.2) J xs/\h.DictOfH (tupleKind knd) a xs:=by
 obtain⟨z,⟨rfl,h1⟩|⟨xs,h1,h2⟩⟩:=d
 ·let⟨_,hs,xs,r,o,es,ep,e1,e2,e3,e4,e5⟩:=(show fD P w H h a (.dT [])from ok a _ h1);cases r;show⟨hs,[],.nil,o,es,ep,e1,e2,e3,e4,(λx hx=>absurd hx dZ),vJ⟩
 ·let⟨⟨hs,o,es,ep,e1,e2,e3,e4,e5⟩,_⟩:=(show fD P w H h a (.ext (Ĵ knd a xs))from ok a _ h1);show⟨hs,xs,h2,o,es,ep,e1,e2,e3,e4,?_,e5⟩;let all:∀{l:List (List κ×V)}{m:List (List κ×Addr×Value)},Paired (λp q=>p.1=q.1/\Zq knd H q.2.1 p.1/\cY p.2 q.2.2) l m->∀x∈m,(tupleKind knd).is h x.1 x.2.1:=by
   intro l m q
   induction q with
   |nil=>grind
   |cons z _ ih =>
    intro x hx;rcases bO.mp hx with rfl|hx
    ·rw[<-z.1];show O3 ok z.2.1
    ·show ih x hx
  show all h2
def a0Y{knd:KeyKind P w κ}{H':Hp}{h':Heap}{a:Addr}{xs:List (List κ×Addr×Value)}(hs:(a==sysModules)=false)(dd:h'.DictOfH (tupleKind knd) a xs):fD P w H' h' a (.ext (Ĵ knd a xs)):=by
 let⟨o,es,ep,h1,h2,h3,h4,_,h5⟩:=dd;show⟨⟨hs,o,es,ep,h1,h2,h3,h4,h5⟩,⟨o,h1⟩,λg1 g2 q k=>?_⟩;let⟨hs,o,es,ep,h1,h2,h3,h4,h5⟩:=q;show⟨hs,o,es,ep,k _ h1,h2,h3,h4,h5⟩
def a5W{knd:KeyKind P w κ}{H:Hp}(k:List κ){J:List (List κ×V)}{xs:List (List κ×Addr×Value)}(h:Paired (λp q=>p.1=q.1/\Zq knd H q.2.1 p.1/\cY p.2 q.2.2) J xs):oY (dh J k) ((atKey xs k).map (·.2)):=by
 induction h with
 |nil=>show mQ
 | @cons p q J xs h t ih =>
  let⟨k1,v1⟩:=p;let⟨k2,a2,u2⟩:=q;let⟨e,_,r⟩:=h;let e:k1=k2:=e;subst e;unfold dh atKey at ih ⊢;by_cases c:k1=k
  ·rw[rO (),rO ()];show r
  ·rw[rP (by simpa using c),rP (by simpa using c)];show ih
end
section
variable{X:Cx}{κ:Type} [DecidableEq κ]
inductive Ķ{P:Program}{w:World}(knd:KeyKind P w κ)(x:V)(vs:af)(H:Hp)(Q:VK):Prop
 |mk (a b:Addr) (k:List κ) (J:List (List κ×V)) (v:V) (_:x=.ref a) (_:vs=[.ref b,v]) (_:Zq knd H b k) (_:DX knd H a J) (_:J.length<=4000) (_:(∀y,dh J k=some y->Q y H)) (_:(dh J k=none->∀H',(∀c,c≠a->H' c=H c)->DX knd H' a (J++[(k,v)])->Q v H'))
def Il(knd:KeyKind X.prog X.w κ)(hu:X.A.units+1<cLine):Qp X "dict.setdefault" (Ķ knd):=by
 intro Y s σ H x xs v us Q I rx rs h;let⟨a,b,k,J,y,rfl,rfl,hb,e,l5,old,new⟩:=h;obtain rfl:v=Value.ref a:=rx;let⟨u,u2,rfl,ru,Zn⟩:=vals2 rs;obtain rfl:u=Value.ref b:=ru;let⟨hd,xs,rel,dd⟩:=ĵ I.hok e;let lx:xs.length=J.length:=(aW rel).symm;let rv:=a5W k rel;let hr:(tupleKind knd).room X.A.in1:=yV hu;show Ho Ml dd.typeIs Ö (Ó _ _ _) (Dy.Du (knd:=tupleKind knd) (k:=k) hd) ⟨hr,xs,O3 I.hok hb,dd,by rw[gO];omega,λp tk ep=>?_,λh' tk en dd' hs=>?_⟩
 ·let ev:(atKey xs k).map (·.2)=some p.2:=by rw[ep];rfl
  cases c:dh J k with
  |none =>
   rw[c]at rv;let:=oY.none_of rv;grind
  |some y0 =>
   rw[c]at rv;let⟨w',hw,Vr⟩:=oY.some_of rv;rw[ev]at hw;cases hw;show⟨y0,H,I.tok tk,Vr,old y0 c⟩
 ·let he:∃q,h'.get? a=some q:=by
   let⟨q,_,_,hq,_⟩:=dd';show⟨q,hq⟩
  let cn:dh J k=none:=by
   cases c:dh J k with
   |none=>rfl
   |some y0 =>
    rw[c]at rv;let⟨w',hw,_⟩:=oY.some_of rv;grind
  let mu:Mut (H a):=by
   obtain⟨_,h|⟨xs,h1,_⟩⟩:=e
   ·rw[h.2];show mQ
   ·rw[h1];show mQ
  let nt:=λys=>e.a2H (ys:=ys);let keep:∀c ys,H c= ~~~ys->cU H a (.ext (Ĵ knd a (xs++[(k,b,u2)]))) c= ~~~ys:=λc ys hc=>by
   rw[aR (λz=>nt ys ())];show hc
  show⟨y,_,Gj I mu hs he (a0Y hd dd'),Zn,new cn _ (λc hc=>aR hc) ⟨(),.inr ⟨_,dG,?_⟩⟩⟩;let go:∀{ks:List (List κ×V)}{ys:List (List κ×Addr×Value)},Paired (λp q=>p.1=q.1/\Zq knd H q.2.1 p.1/\cY p.2 q.2.2) ks ys->Paired (λp q=>p.1=q.1/\Zq knd (cU H a (.ext (Ĵ knd a (xs++[(k,b,u2)])))) q.2.1 p.1/\cY p.2 q.2.2) (ks++[(k,y)]) (ys++[(k,b,u2)]):=λ{ks ys} r=>by
   induction r with
   |nil=>show .cons ⟨Z,hb.same keep,Zn⟩ .nil
   |cons a _ ih=>show .cons ⟨a.1,a.2.1.same keep,a.2.2⟩ ih
  show go rel
inductive a5X{P:Program}{w:World}(knd:KeyKind P w κ)(x:V)(vs:af)(H:Hp)(Q:VK):Prop
 |mk (a b:Addr) (k:List κ) (J:List (List κ×V)) (v:V) (_:x=.ref a) (_:vs=[.ref b,v]) (_:Zq knd H b k) (_:DX knd H a J) (_:Q ((dh J k).getD v) H)
def a0Z(knd:KeyKind X.prog X.w κ)(hu:X.A.units+1<cLine):Qp X "dict.get" (a5X knd):=by
 intro Y s σ H x xs v us Q I rx rs h;let⟨a,b,k,J,y,rfl,rfl,hb,e,q⟩:=h;obtain rfl:v=Value.ref a:=rx;let⟨u,u2,rfl,ru,Zn⟩:=vals2 rs;obtain rfl:u=Value.ref b:=ru;let⟨hd,xs,rel,dd⟩:=ĵ I.hok e;show Ho Cu dd.typeIs Tz (Tq _ _ _) (meetsH_dict_get_default (tupleKind knd) a b hd u2) ⟨yV hu,k,xs,O3 I.hok hb,dd,⟨_,H,I.tok _,(a5W k rel).getD Zn,q⟩⟩
def tBX{P:Program}{w:World}(knd:KeyKind P w κ)(r:V->af->Hp->VK->Prop)(to:TE)(t:TA):TE:=λσ H Q=>to σ H λx H1=>(∃a J,x=.ref a/\DX knd H1 a J)/\t σ H1 λxs H2=>r x xs H2 Q
def ķ{o e:Expr}{es:bc}{to:TE}{t:TA}{name:Str}{apos cpos:Pos}{id:String}{r:V->af->Hp->VK->Prop}(knd:KeyKind X.prog X.w κ)(pa:PlainAttrs "dict")(slot:Slot "dict" name id)(hty:typeOf (.builtin id)=pure (.type "method_descriptor"))(hm:Qp X id r)(ho:PE X o to)(ha:PA X (e::es) t)
  (hbase:@&(attributeBase o name X.env (eval o X.env)=eval o X.env))
  (hfew:@&(((backTo cpos (starEach (e::es) X.env)).all (λx=>!x.1)&&(backToKw cpos (keywordEach [] X.env)).all (λx=>x.1.isSome)
   && decide ((e::es).length+([]:List Keyword).length+(if([]:List Keyword).isEmpty then 0 else 1)<30))=true))
  (hline:@&((apos.endLine==cpos.line)=true)) (hs:@&(starEach (e::es) X.env=(false,eval e X.env)::starEach es X.env)) (hplain:@&((backTo cpos (starEach es X.env)).any (·.1)=false)) :
  PE X (.Call (.Attribute o name apos) (e::es) [] cpos) (tBX knd r to t):=by
 intro Y s σ H Q I h;show wpAny_Call_method_late hbase hfew hline Z (jC (ho Y s σ H _ I h) λv s1 ⟨x,H1,I1,r1,⟨a,J,ex,dx⟩,q1⟩=>?_);subst ex;obtain rfl:v=Value.ref a:=r1;let⟨_,xs,_,dd⟩:=ĵ I1.hok dx;show⟨"dict",id,pa,slot,hty,dd.typeIs,λb eb=>?_,?_⟩
 ·injection eb with eb
  subst eb;let⟨o,_,_,h1,h2,_⟩:=dd;show⟨o,h1,h2.2.1⟩
 let hA:=ha cpos Y s1 σ H1 _ I1 q1;rw[hs]at hA ⊢;show Tt (by show(false||(backTo cpos (starEach es X.env)).any (·.1))=false;rw[hplain]<;>rfl) (Calls.evalArgs_plain ?_);show jC hA λus s2 ⟨vs,H2,I2,r2,q2⟩=>hm Y s2 σ H2 (.ref a) vs _ us Q I2 Z r2 q2
end
end L2
namespace Di
open PyProof.Rows
variable{o:Obj}{es:Array DictEntry}{ep:Nat}
variable{prog:Program}{w:World}{A:Around}{E:∅}{s:Shared}
abbrev vO(d:Addr):Obj:={ cls:=.type "dict_items",data:=.fields #[.ref d]}
def Ĺ{d:Addr}{Q:∅}(hs:(d==sysModules)=false)(ho:s^^^d=some o)(hx:o.ExactDict)
  (h:Q (.ref s⁻¹) (s•s.heap.push (vO d))):∎ (call (.builtin "dict.items") [.ref d]) Q E s:=by
 let hT:s.TypeIs (.ref d) "dict" :=⟨_,ho,hx.1⟩;show gG F.slot_dict_items hT F.entry_dict_items ?_ (F.args_dict_items_1 _);unfold Builtin.«dict.items»;show M ?_;unfold Builtin.Dict.noArgs;show M (Cr hT (ao ?_));show M ?_;unfold Builtin.Dict.showsAll;show jF (L2.xr () (ao ?_));show M (jR (ao ⟨_,Z,h⟩))
def Bd{v d:Addr}{Q:∅}(hv:s^^^v=some (vO d))(ho:s^^^d=some o)(hd:o.data=.dict es ep)
  (h:∀h',IsItemIter h' s⁻¹ d 0 es.size ep .none .none->(∀b ob,s^^^b=some ob->h'.get? b=some ob)->Q (.ref s⁻¹) (s•h')):∎ (pyIter (.ref v)) Q E s:=by
 let hT:s.TypeIs (.ref v) "dict_items" :=⟨_,hv,Z⟩;show M6 hT F.slot_dict_items_iter (gG F.slot_dict_items_iter hT F.entry_dict_items_iter ?_ (F.args_dict_items_iter_1 _));unfold Builtin.«dict_items.__iter__»;show M (ao ?_);show M ?_;unfold Builtin.Dict_items.dictOf;show M (gJ hv Z (x:=.ref d) Z (ao ?_));show M ?_;unfold Builtin.Dict_items.newIterator;show M (rQ ho hd ?_);show M (wW ho hd ?_);let own:Builtin.Dict_items.ownsTuple "dict_itemiterator" = true:=()
 simp only[own,if_true];show jR ?_ (by simp only[sizeOk,sizeLine_eq,Builtin.Dict_items.ownedTupleFields,List.size_toArray,List.length_append,List.length_cons,List.length_nil];omega);show ao ⟨_,Z,"dict_itemiterator",_,⟨_,cB _ Z,Z⟩,F.slot_dict_itemiterator_next.lookup,h _ (cB _ Z) λb ob e=>bM _ e⟩
def item_at{it d:Addr}{i:Nat}{e:DictEntry}{ok ov:Value}{Q:Option Value->Shared->Prop}(ho:s^^^d=some o)(hd:o.data=.dict es ep)(hit:IsItemIter s.heap it d i es.size ep ok ov)(hx:es[i]?=some e)
  (h:∀h',IsItemIterOut h' it d (i+1) es.size ep e.key e.val s⁻¹->h'.get? s⁻¹=some { cls:=.type "tuple",data:=.seq #[e.key,e.val]}->h'.objs.size=s⁻¹+1->
   (∀b ob,b≠it->s^^^b=some ob->h'.get? b=some ob)->Q ⇑(s⁻¹) (s•h')):∎ (pyNext (.ref it)) Q E s:=by
 let hT:s.TypeIs (.ref it) "dict_itemiterator" :=⟨_,hit,Z⟩;let own:Builtin.Dict_items.ownsTuple "dict_itemiterator" = true:=()
 unfold pyNext;show M (uF (nF (name:=Str.ofString "__next__") hT Mi (gG Mi hT Ô ?_ (Ò _))));show M (ao ?_);show M ?_;show M ?_;show M (m:=typeNameOfWhole _) (Mg hT (ao ?_));show M (CK hit Z ?_);rw[aB own];show wpAny _ _ (if(Value.ref d==Value.none)=true then _ else _) _ _ _;show jF (L2.xr (by simp) ?_);show M (m:=Builtin.Dict_items.addrOf _) (ao ?_);show M (rQ ho hd ?_);show jF (L2.xr (by simp) ?_);show M (m:=Builtin.Dict_items.addrOf _) (ao ?_);show M (wW ho hd ?_);show jF (L2.xr (by simp) (ao ?_));lk;let e1:(if(i:Int)<0 then none else es[(i:Int).toNat]?)=some e:=by
  rw[aA (),ig];show hx
 rw[e1];lk;show M (M (m:=typeNameOfWhole _) (Mg hT (ao (M (TF hT ?_)))));show wpAny _ _ (setField (.ref it) 3 (rawInt ((i:Int)+1)) >>= _) _ _ _;show M (j4 hit (by simp) λh1 he1 QH=>?_);let q1:((i+1:Nat):Int)=(i:Int)+1:=()
 let a5Y:IsItemIter h1 it d (i+1) es.size ep ok ov:=by unfold IsItemIter;rw[q1];simpa [rawInt]using he1
 let hT1:Shared.TypeIs (s•h1) (.ref it) "dict_itemiterator" :=⟨_,a5Y,rfl⟩;let z1:h1.objs.size=s⁻¹:=QH.1;let il:it<s⁻¹:=bw hit;show M (eV (M (TF hT1 (M (TF hT1 ?_)))));show wpAny _ _ (Builtin.Dict_items.pairFromOwner (.ref it) 6 e.key e.val) _ _ (s•h1);unfold Builtin.Dict_items.pairFromOwner;show M (Nr ?_);let he2:IsItemIter (h1.push { cls:=.type "tuple",data:=.seq #[e.key,e.val]}) it d (i+1) es.size ep ok ov:=bM _ a5Y;let t2:(h1.push { cls:=.type "tuple",data:=.seq #[e.key,e.val]}).get? s⁻¹=some { cls:=.type "tuple",data:=.seq #[e.key,e.val]}:=by rw[<-z1];show cB _ rfl
 let z2:(h1.push { cls:=.type "tuple",data:=.seq #[e.key,e.val]}).objs.size=s⁻¹+1:=by rw[oW,z1]
 let k2:∀b ob,b≠it->s^^^b=some ob->(h1.push { cls:=.type "tuple",data:=.seq #[e.key,e.val]}).get? b=some ob:=λb ob hb q=>bM _ (QH.extBut b ob hb q);rw[z1];generalize h1.push { cls:=.type "tuple",data:=.seq #[e.key,e.val]}=h2 at he2 t2 z2 k2;show M ?_;unfold Builtin.Dict_items.ownedTupleIsFree;show M (gJ he2 Z (x:=.none) Z (ao ?_));simp only[if_true];show M (gJ he2 Z (x:=ok) Z (M (gJ he2 Z (x:=ov) Z ?_)));show M (j4 he2 (by simp) λh3 he3 s3=>?_);let he3:IsItemIter h3 it d (i+1) es.size ep e.key ov:=he3;show M (j4 he3 (by simp) λh4 he4 s4=>?_);let he4:IsItemIter h4 it d (i+1) es.size ep e.key e.val:=he4;show M (j4 he4 (by simp) λh5 he5 s5=>?_);let he5:IsItemIterOut h5 it d (i+1) es.size ep e.key e.val s⁻¹:=he5;show M (j4 he5 (by simp) λh6 he6 s6=>?_);let he6:IsItemIterOut h6 it d (i+1) es.size ep e.key e.val s⁻¹:=he6;let up:∀b ob,b≠it->h2.get? b=some ob->h6.get? b=some ob:=λb ob hb q=>s6.extBut b ob hb (s5.extBut b ob hb (s4.extBut b ob hb (s3.extBut b ob hb q)));show M (zj (ao (ao ⟨_,Z,ao (h h6 he6 (up _ _ (iM il) t2) ?_ λb ob hb q=>up b ob hb (k2 b ob hb q))⟩)));show h6.objs.size=_;rw[s6.1,s5.1,s4.1,s3.1];show z2
def Ie{it d:Addr}{ok ov:Value}{Q:Option Value->Shared->Prop}(hh:A.handled=none)(ho:s^^^d=some o)(hd:o.data=.dict es ep)(hit:IsItemIter s.heap it d es.size es.size ep ok ov)
  (h:∀h',Heap.ExtBut it s.heap h'->Q none (s•h')):∎ (pyNext (.ref it)) Q E s:=by
 let hT:s.TypeIs (.ref it) "dict_itemiterator" :=⟨_,hit,Z⟩;let own:Builtin.Dict_items.ownsTuple "dict_itemiterator" = true:=()
 unfold pyNext;show M (uF (nF (name:=Str.ofString "__next__") hT Mi (gG Mi hT Ô ?_ (Ò _))));show M (ao ?_);show M ?_;show M ?_;show M (m:=typeNameOfWhole _) (Mg hT (ao ?_));show M (CK hit Z ?_);rw[aB own];show wpAny _ _ (if(Value.ref d==Value.none)=true then _ else _) _ _ _;show jF (L2.xr (by simp) ?_);show M (m:=Builtin.Dict_items.addrOf _) (ao ?_);show M (rQ ho hd ?_);show jF (L2.xr (by simp) ?_);show M (m:=Builtin.Dict_items.addrOf _) (ao ?_);show M (wW ho hd ?_);show jF (L2.xr (by simp) (ao ?_));lk;let e1:(if(es.size:Int)<0 then none else es[(es.size:Int).toNat]?)=none:=by rw[aA (),ig];simp
 rw[e1];lk;show M (M (m:=typeNameOfWhole _) (Mg hT (ao ?_)));show wpAny _ _ (setField (.ref it) 2 .none >>= _) _ _ _;show M (j4 hit (by simp) λh1 hI1 QH=>?_);show M ?_;simp only[newExc,newTuple];show M (jR ?_ (by size_fits));show M (m:=firstArgMember _ _) (Hs (a:=Value.none) (by first|rfl|(simp only[firstArgMember];rfl)) ?_);show jR ?_ (by size_fits);simp only[raiseNew];show M (NK ?_);rw[show A.in1.handled=none from hh];show M (ao (N6 ?_));show M (vI (U:="StopIteration") (T:="StopIteration") (b:=true) ⟨_,cB _ Z,Z⟩ Hj (ao (h _ ((QH.extBut.push _).push _))))
end Di
namespace L2
open PyProof.Rows Bg
variable{o:Obj}{u:HO}{as:aI}
noncomputable def XH(p d:Addr):HO:=.ext (λh=>h.get? p=some (Di.vO d))
noncomputable def Iti(o:Obj)(d:Addr)(u:HO)(as:aI)(vs:af):It :=
 ⟨λi H=>H d=some (.gP o u)/\i<as.length,λi H x H'=>∃p a v,x=.ref p/\as[i]?=some a/\vs[i]?=some v/\iG H p (.tup [.ref a,v]) H',λi H=>H d=some (.gP o u)/\i=as.length⟩
def Wb{P:Program}{w:World}{K:aJ}{elts:bc}{k:Nat}{pos:Pos}(d it:Addr){vs:af}{es:Array DictEntry}{ep:Nat}(hd:o.data=.dict es ep)(ek:es.toList.map (·.key)=as.map Value.ref)(ev:cZ vs (es.toList.map (·.val))) :
  Turn P w K (.Tuple elts k pos) (Iti o d u as vs) [it] it (λi h=>∃ok ov,IsItemIter h it d i es.size ep ok ov) where
 mem:=by simp
 obj:=λi h st b hb=>by
  grind
 keep:=λi h h' ⟨ok,ov,st⟩ k=>⟨ok,ov,k it (by simp) _ st⟩
 item:=by
  intro X hP hw hK hc i Y s σ H E I hf st hg
  subst hP hw hK
  let⟨ok,ov,st⟩:=st
  let⟨hq,hi⟩:=hg
  let⟨hd1,_⟩:=I.hok d _ hq
  let⟨f0,f1,f2,f3,f4,f5⟩:=hf it (by simp)
  let ne:d≠it:=λz=>by grind
  let lz:es.size=as.length:=by let:=congrArg List.length ek;grind
  let he:es[i]?=some (es[i]'()):=yQ ()
  let a3K:(es[i]'()).key=Value.ref as[i]:=by
   let:=congrArg (λl=>l[i]?) ek
   grind
  let lv:vs.length=as.length:=by
   let:=ev.length
   grind
  obtain⟨v,hv⟩:∃v,vs[i]?=some v:=⟨vs[i]'(),bI _⟩
  let⟨u1,hu1,ru1⟩:=ev.get hv
  let a8u:(es[i]'()).val=u1:=by
   grind
  show Di.item_at hd1 hd st he λh' hI ht hz kp=>⟨_,Z,wpAny_letOwnedTupleGo_items hI λh3 hI3 sb3=>?_⟩
  let nit:s⁻¹≠it:=iM (bw st)
  let kp3:∀c oc,c∉[it]->s^^^c=some oc->h3.get? c=some oc:=λc oc hc q=>by
   let hc':c≠it:=()
   show(sb3.2 c hc').trans (kp c oc hc' q)
  let I1:bG X Y σ H (s•h3):=Gm I [it] (λc hc=>hf c hc) kp3
  let hfree:H s⁻¹=none:=I.hok.fresh (aK _)
  let ht3:h3.get? s⁻¹=some { cls:=.type "tuple",data:=.seq #[(es[i]'()).key,(es[i]'()).val]}:=(sb3.2 _ nit).trans ht
  let I2:bG X Y σ (cU H s⁻¹ (.tup [.ref as[i],v])) (s•h3):=by
   show bG.track I1 hfree I.sz (iM I.lt) (λy c q=>?_) (λp hp=>bV (bw (I.pin p hp).1)) ?_
   ·let⟨v,oc,q1,_⟩:=I.cell y c q
    grind
   ·show⟨(by show 2<=sizeLine;decide),[(es[i]'()).key,(es[i]'()).val],.cons a3K (.cons () .nil),⟨_,ht3,Z,_,Z⟩⟩
  show⟨.ref s⁻¹,_,I2,Z,⟨_,as[i],v,Z,bI hi,hv,iG.nD hfree⟩,⟨_,_,hI3⟩,λc hc=>?_⟩
  let e:c=it:=()
  subst e
  rw[aR (Ne.symm nit)]
  show f0
 done:=by
  intro X hP hw hK hc i Y s σ H E I hf st hg
  subst hP hw hK
  let⟨ok,ov,st⟩:=st
  let⟨hq,hx⟩:=hg
  let⟨hd1,_⟩:=I.hok d _ hq
  let⟨f0,f1,f2,f3,f4,f5⟩:=hf it (by simp)
  let lz:es.size=as.length:=by let:=congrArg List.length ek;grind
  rw[hx,<-lz]at st
  show Di.Ie (I.ok.hd hc) hd1 hd st λh' eb=>⟨Z,I.turned (t':=s.toks) (λb o hb e=>eb b o hb e) f0 f1 f3 f4 f5⟩
 self:=λ_ _ _ _ _ ⟨ok,ov,st⟩ h=>PySem.W.kcp_self st h
section
variable{X:Cx}
inductive a00(x:V)(vs:af)(H:Hp)(Q:VK):Prop
 |mk (d:Addr) (J:List (aS×V)) (_:x=.ref d) (_:vs=[]) (_:H d=some (.dT J)) (_:∀p H',iG H p (XH p d) H'->Q (.ref p) H')
def rJ:Qp X "dict.items" a00:=by
 intro Y s σ H x xs v us Q I rx rs h;let⟨d,J,rfl,rfl,e,q⟩:=h;obtain rfl:v=Value.ref d:=rx;cases rs;let⟨_,hs,xs,rel,o,es,ep,ho,hx,hdt,hes,_,_⟩:=Ew I.hok e;show Di.Ĺ hs ho hx ?_;let g:(s.heap.push (Di.vO d)).get? s⁻¹=some (Di.vO d):=cB _ rfl;show⟨.ref s⁻¹,_,I.laid (t':=s.toks) (o:=XH s⁻¹ d) (λb ob eb=>bM _ eb) (aK _) ⟨g,⟨_,g⟩,λh1 h2 e1 k=>k _ e1⟩,Z,q _ _ (iG.nD (I.hok.fresh (aK _)))⟩
def a01(tl:TE):TI:=λσ H R=>tl σ H λx H1=>∃p d J,x=.ref p/\H1 p=some (XH p d)/\H1 d=some (.dT J)/\
 ∀o as,Paired (λa (kv:aS×V)=>(cU H1 d (.gP o (.dT J))) a= ~~~(kv.1.map kV)) as J->R (Iti o d (.dT J) as (J.map (·.2))) (cU H1 d (.gP o (.dT J)))
def rK{elts:bc}{k:Nat}{tpos:Pos}{l:Expr}{tl:TE}(hl:PE X l tl):PI X (.Tuple elts k tpos) l (a01 tl):=by
 intro Y s σ H R I h;show jC (hl Y s σ H _ I h) λv s1 ⟨x,H1,I1,r1,q1⟩=>?_;let⟨p,d,J,e,hp,hd,q⟩:=q1;subst e;cases r1;let⟨_,hs,xs,rel,o,es,ep,ho,hx,hdt,hes,_,_⟩:=Ew I1.hok hd;let hv:s1^^^p=some (Di.vO d):=(show fD X.prog X.w H1 s1.heap p (XH p d)from I1.hok p _ hp).1;let I2:bG X Y σ (cU H1 d (.gP o (.dT J))) s1:=I1.OJ hd (λ_ z=>by cases z) (λ_ z=>by cases z) (λ_ z=>by cases z) (I1.Q5 hd λ_ _ z=>by cases z) ⟨ho,I1.hok d _ hd⟩;let ek:es.toList.map (·.key)=(xs.map λx=>x.2.1).map Value.ref:=by rw[hes,lY,lY];rfl
 let ev:cZ (J.map (·.2)) (es.toList.map (·.val)):=by
  rw[hes,lY];let go:∀{ks:List (aS×V)}{ys:List (aS×Addr×Value)},KT H1 ks ys->cZ (ks.map (·.2)) (ys.map λx=>x.2.2):=λ{ks ys} r=>by
   induction r with
   |nil=>show .nil
   |cons a _ ih=>show .cons a.2.2 ih
  show go rel
 let pk:Paired (λa (kv:aS×V)=>(cU H1 d (.gP o (.dT J))) a= ~~~(kv.1.map kV)) (xs.map λx=>x.2.1) J:=by
  let go:∀{ks:List (aS×V)}{ys:List (aS×Addr×Value)},KT H1 ks ys->Paired (λa (kv:aS×V)=>(cU H1 d (.gP o (.dT J))) a= ~~~(kv.1.map kV)) (ys.map λx=>x.2.1) ks:=λ{ks ys} r=>by
   induction r with
   |nil=>show .nil
   | @cons kv y _ _ a _ ih =>
    show .cons ?_ ih;let nb:y.2.1≠d:=λz=>by grind
    rw[aR nb];show a.2.1
  show go rel
 show Di.Bd hv ho hdt λh' hI kp=>⟨s1⁻¹,[s1⁻¹],_,_,_,Z,I2.kept (t':=s1.toks) (λb ob e=>kp b ob e),Wb d _ hdt ek ev,⟨_,_,hI⟩,λb hb=>?_,q o _ pk⟩;let e:b=s1⁻¹:=()
 subst e;show I2.Fx (aK _) (I2.hok.fresh (aK _))
end
def sU{d:Addr}{vs:af}{g:TG}{tb:TS}{D:Ends}{σ:St}{H:Hp}(Pv:Nat->St->Hp->Prop)(h0:Pv 0 σ H)(hl:∀i σ H,i<=as.length->Pv i σ H->H d=some (.gP o u))
  (hs:∀(i:Nat) a v σ H p H',as[i]?=some a->vs[i]?=some v->Pv i σ H->iG H p (.tup [.ref a,v]) H'->g (.ref p) σ H' λσ2 H2=>tb { D with nx:=Pv (i+1),ct:=Pv (i+1),bk:=D.nx} σ2 H2) (hd:∀σ H,Pv as.length σ H->D.nx σ H) :
  ∃W:Nat->Nat->St->Hp->Prop,(∃m,W 0 m σ H)/\∀i m σ H,W i m σ H->
   ((Iti o d u as vs).stop i H/\D.nx σ H)\/((Iti o d u as vs).go i H/\∃N:St->Hp->Prop,(∀σ' H',N σ' H'->∃m',m'<m/\W (i+1) m' σ' H')/\∀x H',(Iti o d u as vs).W9 i H x H'->g x σ H' λσ2 H2=>tb { D with nx:=N,ct:=N,bk:=D.nx} σ2 H2):=by
 show⟨λi m σ H=>m=as.length-i/\i<=as.length/\Pv i σ H,⟨as.length,by simp,dF _,h0⟩,?_⟩;rintro i m σ H ⟨rfl,hi,p⟩;let q1:=hl i σ H hi p;by_cases hlt:i<as.length
 ·show .inr ⟨⟨q1,hlt⟩,Pv (i+1),λσ' H' p'=>⟨as.length-(i+1),(),Z,hlt,p'⟩,λx H' y=>?_⟩;let⟨pp,a,v,rfl,ea,ev,nw⟩:=y;show hs i a v σ H pp H' ea ev p nw
 ·let e:i=as.length:=()
  subst e;show .inl ⟨⟨q1,Z⟩,hd σ H p⟩
def Zr{d:Addr}{vs:af}{ix:List (Option Nat)}{g:TG}{tt:TT}{te:TE}{σ:St}{H1:Hp}{Q:VK}(Pv:Nat->af->Hp->Prop)(h0:Pv 0 [] H1)(hl:∀i ys H,i<=as.length->Pv i ys H->H d=some (.gP o u)/\ys.length<=5000)
  (hs:∀i ys H a v p H',as[i]?=some a->vs[i]?=some v->Pv i ys H->iG H p (.tup [.ref a,v]) H'->g (.ref p) (pG ix σ) H' λσ2 H2=>tt σ2 H2 λb H3=>if b=true then te σ2 H3 λv H4=>Pv (i+1) (ys++[v]) H4 else Pv (i+1) ys H3)
  (hd:∀ys H p,Pv as.length ys H->H p=none->Q (.ref p) (cU H p (.lst ys))):j7 ix g tt te σ H1 Q (Iti o d u as vs):=by
 show⟨λi m ys H=>m=as.length-i/\i<=as.length/\Pv i ys H,⟨as.length,by simp,dF _,h0⟩,?_⟩;rintro i m ys H ⟨rfl,hi,pp⟩;let⟨hx,z⟩:=hl i ys H hi pp;let z':ys.length<=sizeLine:=by rw[gO];omega
 by_cases hlt:i<as.length
 ·show .inr ⟨⟨hx,hlt⟩,z',λys' H'=>Pv (i+1) ys' H',λys' H' p'=>⟨as.length-(i+1),(),Z,hlt,p'⟩,λx H' y=>?_⟩;let⟨p,a,v,rfl,ea,ev,nw⟩:=y;show hs i ys H a v p H' ea ev pp nw
 ·let ei:i=as.length:=()
  subst ei;show .inl ⟨⟨hx,Z⟩,z',λp hp=>hd ys H p pp hp⟩
end L2
namespace Z3
open PyProof.Rows
variable{a b c x:Value}{xs ys zs:Array Value}{n l1 l2 l3:Nat}
abbrev J5(h:Heap)(T:Addr)(a b c:Value):Prop:=h.get? T=some { cls:=.type "tuple",data:=.seq #[a,b,c]}
section
variable{prog:Program}{w:World}{A:Around}{E:∅}{s:Shared}
def put{T:Addr}{k:Nat}{Q:Unit->Shared->Prop}(hT:J5 s.heap T a b c)
  (h:∀h',h'.get? T=some { cls:=.type "tuple",data:=.seq ((#[a,b,c]:Array Value).setIfInBounds k x)}->Heap.SameBut T s.heap h'->Q ⟨⟩ (s•h')):∎ (updateSeq T (·.setIfInBounds k x)) Q E s:=by
 show Uz hT Z (h _ ?_ (qJ ..));rw[Cq _ hT rfl];simp[Obj.mapSeq]
def next_item{k:Nat}{y v:Value}{Q:∅}(q1:l1<n)(q2:l2<n)(q3:l3<n)
  (hz:IsZip s.heap (n+5) (n+3) (n+4) .none) (hTI:J5 s.heap (n+3) (.ref n) (.ref (n+1)) (.ref (n+2))) (hTO:J5 s.heap (n+4) a b c)
  (h1:s.heap.IsListIter n l1 k) (h2:s.heap.IsListIter (n+1) l2 k) (h3:s.heap.IsListIter (n+2) l3 k) (hl1:s.heap.IsList l1 xs) (hl2:s.heap.IsList l2 ys) (hl3:s.heap.IsList l3 zs) (hx:xs[k]?=some x) (hy:ys[k]?=some y) (hv:zs[k]?=some v)
  (hQ:∀h',IsZip h' (n+5) (n+3) (n+4) (rawInt s⁻¹)->J5 h' (n+4) x y v->h'.IsListIter n l1 (k+1)->h'.IsListIter (n+1) l2 (k+1)->h'.IsListIter (n+2) l3 (k+1)->J5 h' s⁻¹ x y v->
   (∀e o,e≠n->e≠n+1->e≠n+2->e≠n+4->e≠n+5->s^^^e=some o->h'.get? e=some o)->Q (.ref s⁻¹) (s•h')) :
  ∎ (Builtin.«zip.__next__» ⟨[.ref (n+5)],[]⟩) (λfin s'=>∃v,fin=.done (.ret v)/\Q v s') E s:=by
 let d41:((n+4):Nat)≠(n+1):=()
 let d42:((n+4):Nat)≠(n+2):=()
 let d54:((n+5):Nat)≠(n+4):=()
 let d52:((n+5):Nat)≠(n+2):=()
 let d51:((n+5):Nat)≠(n+1):=()
 let d50:((n+5):Nat)≠n:=()
 let d04:(n:Nat)≠(n+4):=()
 let d02:(n:Nat)≠(n+2):=()
 let d01:(n:Nat)≠(n+1):=()
 let d14:((n+1):Nat)≠(n+4):=()
 let d12:((n+1):Nat)≠(n+2):=()
 let d24:((n+2):Nat)≠(n+4):=()
 show wpAny _ _ (field (.ref (n+5)) 2 >>= _) _ _ _;show M (gJ hz Z (x:=.bool false) Z ?_);show wpAny _ _ (field (.ref (n+5)) 3 >>= _) _ _ _;show M (gJ hz Z (x:=.ref (n+3)) Z (M (qM hTI Z ?_)));show wpAny _ _ (Builtin.SmallTypes.ownedTupleIsFree (.ref (n+5)) >>= _) _ _ _;show M ?_;unfold Builtin.SmallTypes.ownedTupleIsFree;show M (gJ hz Z (x:=.none) Z (ao ?_));simp only[if_true];show M (j5 (M (gJ hz Z (x:=.ref (n+4)) Z ?_)));show M (j4 hz (by simp) λg1 z1 s1=>?_);let z1:IsZip g1 (n+5) (n+3) (n+4) .ellipsis:=z1;show M ?_;simp only[List.zipIdx_cons,List.zipIdx_nil,List.forIn_cons,List.forIn_nil];let k1:∀e o,e≠n+5->s^^^e=some o->g1.get? e=some o:=λe o he q=>s1.extBut e o he q;show M (M (NP ?_));show wpAny _ _ (Builtin.SmallTypes.nextOf (.ref n) >>= _) _ _ _;show M (GK (h1.at λo q=>k1 _ o () q) (hl1.at λo q=>k1 _ o () q) hx λg2 i2 s2=>ao ?_);let k2:∀e o,e≠n+5->e≠n->s^^^e=some o->g2.get? e=some o:=λe o he h0 q=>s2.extBut e o h0 (k1 e o he q);let t2:J5 g2 (n+4) a b c:=k2 _ _ () () hTO;show M (qM t2 Z (M (put t2 λg3 t3 s3=>?_)));let t3:J5 g3 (n+4) x b c:=t3;show M (zj (ao ?_));let k3:∀e o,e≠n+5->e≠n->e≠n+4->s^^^e=some o->g3.get? e=some o:=λe o he h0 h4 q=>s3.extBut e o h4 (k2 e o he h0 q);show M (M (NP ?_));show wpAny _ _ (Builtin.SmallTypes.nextOf (.ref (n+1)) >>= _) _ _ _;show M (GK (h2.at λo q=>k3 _ o () () () q) (hl2.at λo q=>k3 _ o () () () q) hy λg4 i4 s4=>ao ?_);let k4:∀e o,e≠n+5->e≠n->e≠n+4->e≠n+1->s^^^e=some o->g4.get? e=some o:=λe o he h0 h4 h5 q=>s4.extBut e o h5 (k3 e o he h0 h4 q);let t4:J5 g4 (n+4) x b c:=s4.extBut (n+4) _ d41 t3;show M (qM t4 Z (M (put t4 λg5 t5 s5=>?_)));let t5:J5 g5 (n+4) x y c:=t5;show M (zj (ao ?_));let k5:∀e o,e≠n+5->e≠n->e≠n+4->e≠n+1->s^^^e=some o->g5.get? e=some o:=λe o he h0 h4 h5 q=>s5.extBut e o h4 (k4 e o he h0 h4 h5 q);show M (M (NP ?_));show wpAny _ _ (Builtin.SmallTypes.nextOf (.ref (n+2)) >>= _) _ _ _;show M (GK (h3.at λo q=>k5 _ o () () () () q) (hl3.at λo q=>k5 _ o () () () () q) hv λg6 i6 s6=>ao ?_);let t6:J5 g6 (n+4) x y c:=s6.extBut (n+4) _ d42 t5;show M (qM t6 Z (M (put t6 λg7 t7 s7=>?_)));let t7:J5 g7 (n+4) x y v:=t7;show M (zj (ao (ao ?_)));let k7:∀e o,e≠n->e≠n+1->e≠n+2->e≠n+4->e≠n+5->s^^^e=some o->g7.get? e=some o:=λe o a0 a1 a2 a4 a5 q=>s7.extBut e o a4 (s6.extBut e o a2 (k5 e o a5 a0 a4 a1 q));show M (qM t7 Z (M (Nr ?_)));let sz:g7.objs.size=s⁻¹:=by rw[s7.1,s6.1,s5.1,s4.1,s3.1,s2.1,s1.1]
 let z7:IsZip g7 (n+5) (n+3) (n+4) .ellipsis:=s7.extBut (n+5) _ d54 (s6.extBut (n+5) _ d52 (s5.extBut (n+5) _ d54 (s4.extBut (n+5) _ d51 (s3.extBut (n+5) _ d54 (s2.extBut (n+5) _ d50 z1)))));let i2':g7.IsListIter n l1 (k+1):=i2.at λo q=>s7.extBut n _ d04 (s6.extBut n _ d02 (s5.extBut n _ d04 (s4.extBut n _ d01 (s3.extBut n _ d04 q))));let i4':g7.IsListIter (n+1) l2 (k+1):=i4.at λo q=>s7.extBut (n+1) _ d14 (s6.extBut (n+1) _ d12 (s5.extBut (n+1) _ d14 q));let i6':g7.IsListIter (n+2) l3 (k+1):=i6.at λo q=>s7.extBut (n+2) _ d24 q;let nl:n+5<g7.objs.size:=bw z7;show wpAny _ _ (Builtin.SmallTypes.ownedTupleHandOut (.ref (n+5)) (.ref g7.objs.size) >>= _) _ _ _;show M ?_;unfold Builtin.SmallTypes.ownedTupleHandOut;let z8:IsZip (g7.push { cls:=.type "tuple",data:=.seq #[x,y,v]}) (n+5) (n+3) (n+4) .ellipsis:=bM _ z7;show M (j4 z8 (by simp) λg9 z9 s9=>?_);let z9:IsZip g9 (n+5) (n+3) (n+4) (rawInt g7.objs.size):=z9;show j4 z9 (by simp) λg10 z10 s10=>?_;let z10:IsZip g10 (n+5) (n+3) (n+4) (rawInt g7.objs.size):=z10;let up:∀e o,e≠n+5->g7.get? e=some o->g10.get? e=some o:=λe o he q=>s10.extBut _ _ he (s9.extBut _ _ he (bM _ q));let ng:g7.objs.size≠n+5:=iM nl;let t10:J5 g10 g7.objs.size x y v:=s10.extBut g7.objs.size _ ng (s9.extBut g7.objs.size _ ng (cB _ Z));rw[sz]at z10 t10;show ao ⟨_,Z,?_⟩;show Q (.ref g7.objs.size) _;rw[sz];show hQ g10 z10 (up _ _ () t7) (i2'.at λo q=>up _ o () q) (i4'.at λo q=>up _ o () q) (i6'.at λo q=>up _ o () q) t10 λe o a0 a1 a2 a4 a5 q=>up e o a5 (k7 e o a0 a1 a2 a4 a5 q)
def Q8{k:Nat}{y v:Value}{Q:Option Value->Shared->Prop}(q1:l1<n)(q2:l2<n)(q3:l3<n)
  (hz:IsZip s.heap (n+5) (n+3) (n+4) .none) (hTI:J5 s.heap (n+3) (.ref n) (.ref (n+1)) (.ref (n+2))) (hTO:J5 s.heap (n+4) a b c)
  (h1:s.heap.IsListIter n l1 k) (h2:s.heap.IsListIter (n+1) l2 k) (h3:s.heap.IsListIter (n+2) l3 k) (hl1:s.heap.IsList l1 xs) (hl2:s.heap.IsList l2 ys) (hl3:s.heap.IsList l3 zs) (hx:xs[k]?=some x) (hy:ys[k]?=some y) (hv:zs[k]?=some v)
  (hQ:∀h',IsZip h' (n+5) (n+3) (n+4) (rawInt s⁻¹)->J5 h' (n+4) x y v->h'.IsListIter n l1 (k+1)->h'.IsListIter (n+1) l2 (k+1)->h'.IsListIter (n+2) l3 (k+1)->J5 h' s⁻¹ x y v->
   (∀e o,e≠n->e≠n+1->e≠n+2->e≠n+4->e≠n+5->s^^^e=some o->h'.get? e=some o)->Q ⇑(s⁻¹) (s•h')) :
  ∎ (pyNext (.ref (n+5))) Q E s:=by
 let hT:s.TypeIs (.ref (n+5)) "zip" :=⟨_,hz,Z⟩;unfold pyNext;show M (uF (nF (name:=Str.ofString "__next__") hT wX (gG wX hT Nj (next_item q1 q2 q3 hz hTI hTO h1 h2 h3 hl1 hl2 hl3 hx hy hv λh' a1 a2 a3 a4 a5 a6 a7=>ao (hQ h' a1 a2 a3 a4 a5 a6 a7)) (M7 _))))
def Wc{l2 l3 k:Nat}{a b c:Value}{Q:Option Value->Shared->Prop}(hh:A.handled=none)(q1:l1<n)
  (hz:IsZip s.heap (n+5) (n+3) (n+4) .none) (hTI:J5 s.heap (n+3) (.ref n) (.ref (n+1)) (.ref (n+2))) (h1:s.heap.IsListIter n l1 k) (hl1:s.heap.IsList l1 xs) (hx:xs[k]?=none)
  (hQ:∀h',(∀e o,e≠n->e≠n+5->s^^^e=some o->h'.get? e=some o)->Q none (s•h')) :
  ∎ (pyNext (.ref (n+5))) Q E s:=by
 let hT:s.TypeIs (.ref (n+5)) "zip" :=⟨_,hz,Z⟩;let d50:(n+5:Nat)≠n:=()
 unfold pyNext;show M (uF (nF (name:=Str.ofString "__next__") hT wX (gG wX hT Nj ?_ (M7 _))));show wpAny _ _ (field (.ref (n+5)) 2 >>= _) _ _ _;show M (gJ hz Z (x:=.bool false) Z ?_);show wpAny _ _ (field (.ref (n+5)) 3 >>= _) _ _ _;show M (gJ hz Z (x:=.ref (n+3)) Z (M (qM hTI Z ?_)));show wpAny _ _ (Builtin.SmallTypes.ownedTupleIsFree (.ref (n+5)) >>= _) _ _ _;show M ?_;unfold Builtin.SmallTypes.ownedTupleIsFree;show M (gJ hz Z (x:=.none) Z (ao ?_));simp only[if_true];show M (j5 (M (gJ hz Z (x:=.ref (n+4)) Z ?_)));show M (j4 hz (by simp) λg1 z1 s1=>?_);let z1:IsZip g1 (n+5) (n+3) (n+4) .ellipsis:=z1;show M ?_;simp only[List.zipIdx_cons,List.zipIdx_nil,List.forIn_cons,List.forIn_nil];let k1:∀e o,e≠n+5->s^^^e=some o->g1.get? e=some o:=λe o he q=>s1.extBut e o he q;show M (M (NP ?_));show wpAny _ _ (Builtin.SmallTypes.nextOf (.ref n) >>= _) _ _ _;show M (wpAny_nextOf_list_end () (h1.at λo q=>k1 _ o () q) (hl1.at λo q=>k1 _ o () q) hx λg2 e s2 he=>?_);let⟨oe,hoe,hce⟩:=he;let z2:IsZip g2 (n+5) (n+3) (n+4) .ellipsis:=s2 (n+5) _ d50 z1;let ne:e≠n+5:=λz=>by grind
 show j4 z2 (by simp) λg3 _ s3=>M (vI (U:="StopIteration") (T:="StopIteration") (b:=true) ⟨oe,s3.extBut e _ ne hoe,hce⟩ Hj (ao (hQ _ λc o c0 c5 q=>s3.extBut c o c5 (s2 c o c0 (k1 c o c5 q)))))
end
def Zt(a b c:Value):checkTypeCall "zip" ⟨[a,b,c],[]⟩=pure ⟨⟩:=by kernel_rfl
def ĺ(a b c:Value):checkBuiltinCall "zip.__new__" ⟨[.type "zip",a,b,c],[]⟩=pure ⟨⟩:=by kernel_rfl
def Wd(a b c d:Value):argsOk "object.__init__" ⟨[a,b,c,d],[]⟩:=by unfold argsOk;rw[signature?_of (id:="object.__init__") (n:=['_','_','t','i','n','i','_','_']) (o:=['t','c','e','j','b','o']) (by kernel_rfl) F.owner_object];kernel_rfl
abbrev p1(h:Heap)(l1:Addr):Heap:=h.push { cls:=.type "list_iterator",data:=.fields #[.ref l1,.int 0 0]}
abbrev p2(h:Heap)(l1 l2:Addr):Heap:=p1 (p1 h l1) l2
abbrev p3(h:Heap)(l1 l2 l3:Addr):Heap:=p1 (p2 h l1 l2) l3
abbrev p4(h:Heap)(l1 l2 l3:Addr):Heap:=(p3 h l1 l2 l3).push { cls:=.type "tuple",data:=.seq #[.ref h.objs.size,.ref (p1 h l1).objs.size,.ref (p2 h l1 l2).objs.size]}
abbrev p5(h:Heap)(l1 l2 l3:Addr):Heap:=(p4 h l1 l2 l3).push { cls:=.type "tuple",data:=.seq #[.none,.none,.none]}
abbrev p6(h:Heap)(l1 l2 l3:Addr):Heap:=(p5 h l1 l2 l3).push { cls:=.type "zip",data:=.fields #[.none,.bool false,.bool false,.ref (p3 h l1 l2 l3).objs.size,.ref (p4 h l1 l2 l3).objs.size]}
def Zu(l1 l2 l3:Addr)(xs ys zs:Array Value) :
  Meets (Builtin.«zip.__new__» ⟨[.type "zip",.ref l1,.ref l2,.ref l3],[]⟩) (λ_ R s=>s.heap.IsList l1 xs/\s.heap.IsList l2 ys/\s.heap.IsList l3 zs/\R (.ok (.ret (.ref (p5 s.heap l1 l2 l3).objs.size))) (s•p6 s.heap l1 l2 l3)) :=
 .of_wp λprog w A R s h=>by
  let⟨hp,g,d,tk,os⟩:=s;let⟨hl1,hl2,hl3,h⟩:=h;let hsub:=sub_zip;let a1:Heap.IsList (Shared.heap ⟨hp,g,d,tk,os⟩) l1 xs:=hl1;let a2:Heap.IsList (Shared.heap ⟨p1 hp l1,g,d,tk,os⟩) l2 ys:=Uv hl2 _;let a3:Heap.IsList (Shared.heap ⟨p2 hp l1 l2,g,d,tk,os⟩) l3 zs:=Uv (Uv hl3 _) _
  wp_walk using vG a1,vG a2,vG a3
  show⟨_,Z,h⟩
section
variable{prog:Program}{w:World}{A:Around}{E:∅}{s:Shared}
def a5Z{l1 l2 l3:Addr}{Q:∅}(hl1:s.heap.IsList l1 xs)(hl2:s.heap.IsList l2 ys)(hl3:s.heap.IsList l3 zs)
  (h:∀h',IsZip h' (s⁻¹+5) (s⁻¹+3) (s⁻¹+4) .none->J5 h' (s⁻¹+3) (.ref s⁻¹) (.ref (s⁻¹+1)) (.ref (s⁻¹+2))->
   J5 h' (s⁻¹+4) .none .none .none->h'.IsListIter s⁻¹ l1 0->h'.IsListIter (s⁻¹+1) l2 0->h'.IsListIter (s⁻¹+2) l3 0->
   (∀c o,s^^^c=some o->h'.get? c=some o)->Q (.ref (s⁻¹+5)) (s•h')) :
  ∎ (call (.type "zip") [.ref l1,.ref l2,.ref l3]) Q E s:=by
 show callType_new F.called_zip () (Zt _ _ _) (ĺ _ _ _) (λobj=>Wd obj _ _ _) F.entry_zip_new (Zu l1 l2 l3 xs ys zs) ⟨hl1,hl2,hl3,?_⟩;generalize hn:s⁻¹=n at h;let z1:(p1 s.heap l1).objs.size=n+1:=by rw[oW,hn]
 let z2:(p2 s.heap l1 l2).objs.size=n+2:=by rw[oW,z1]
 let z3:(p3 s.heap l1 l2 l3).objs.size=n+3:=by rw[oW,z2]
 let z4:(p4 s.heap l1 l2 l3).objs.size=n+4:=by rw[oW,z3]
 let z5:(p5 s.heap l1 l2 l3).objs.size=n+5:=by rw[oW,z4]
 let up:∀{h0:Heap}{c:Addr}{o ob:Obj},h0.get? c=some o->(h0.push ob).get? c=some o:=λe=>bM _ e;let g6:(p6 s.heap l1 l2 l3).get? (p5 s.heap l1 l2 l3).objs.size=some _:=cB _ rfl;let g5:(p6 s.heap l1 l2 l3).get? (p4 s.heap l1 l2 l3).objs.size=some _:=up (cB _ Z);let g4:(p6 s.heap l1 l2 l3).get? (p3 s.heap l1 l2 l3).objs.size=some _:=up (up (cB _ Z));let g3:(p6 s.heap l1 l2 l3).get? (p2 s.heap l1 l2).objs.size=some _:=up (up (up (cB _ Z)));let g2:(p6 s.heap l1 l2 l3).get? (p1 s.heap l1).objs.size=some _:=up (up (up (up (cB _ Z))));let g1:(p6 s.heap l1 l2 l3).get? s⁻¹=some _:=up (up (up (up (up (cB _ Z)))));show _/\_;rw[z3,z4,z5]at g6;rw[z4]at g5;rw[hn,z1,z2,z3]at g4;rw[z2]at g3;rw[z1]at g2;rw[hn]at g1;rw[z5];show⟨⟨_,g6,Z⟩,h _ g6 g4 g5 ⟨_,g1,Z,Z⟩ ⟨_,g2,Z,Z⟩ ⟨_,g3,Z,Z⟩ λc o q=>up (up (up (up (up (up q)))))⟩
end
end Z3
namespace L2
open PyProof.Rows
variable{K:aJ}{pos:Pos}
def Ļ(K:aJ)(a b c:Addr):It :=
 ⟨λi H=>∃xs ys zs x y z,bD K H a xs/\bD K H b ys/\bD K H c zs/\xs[i]?=some x/\ys[i]?=some y/\zs[i]?=some z,
 λi H v H'=>∃p x y z,v=.ref p/\iG H p (.tup [x,y,z]) H'/\(∀xs,bD K H a xs->xs[i]?=some x)/\(∀ys,bD K H b ys->ys[i]?=some y)/\∀zs,bD K H c zs->zs[i]?=some z,
 λi H=>∃xs,bD K H a xs/\xs.length<=i⟩
def Zv{P:Program}{w:World}{elts:bc}{k:Nat}(a b c n:Nat)(an:a<n)(bn:b<n)(cn:c<n) :
  Turn P w K (.Tuple elts k pos) (Ļ K a b c) [n,n+1,n+2,n+3,n+4,n+5] (n+5) (λi h=>IsZip h (n+5) (n+3) (n+4) .none/\Z3.J5 h (n+3) (.ref n) (.ref (n+1)) (.ref (n+2))/\(∃x y z,Z3.J5 h (n+4) x y z)/\h.IsListIter n a i/\h.IsListIter (n+1) b i/\h.IsListIter (n+2) c i) where
 mem:=by simp
 obj:=λi h st e he=>by
  let⟨hz,hTI,⟨x,y,z,hTO⟩,⟨o1,e1,c1,d1⟩,⟨o2,e2,c2,d2⟩,⟨o3,e3,c3,d3⟩⟩:=st
  grind
 keep:=λi h h' st kk=>by
  let⟨hz,hTI,⟨x,y,z,hTO⟩,h1,h2,h3⟩:=st
  show⟨kk (n+5) (by simp) _ hz,kk (n+3) (by simp) _ hTI,⟨x,y,z,kk (n+4) (by simp) _ hTO⟩,h1.at λo q=>kk n (by simp) o q,h2.at λo q=>kk (n+1) (by simp) o q,h3.at λo q=>kk (n+2) (by simp) o q⟩
 item:=by
  intro X hP hw hK hc i Y s σ H E I hf st hg
  subst hP hw hK
  let⟨xs,ys,zs,x,y,z,hq1,hq2,hq3,hx,hy,hz0⟩:=hg
  let⟨a3R,rv1,pl1,hz1⟩:=I.list hq1
  let⟨its2,rv2,pl2,hz2⟩:=I.list hq2
  let⟨a7U,rv3,pl3,hz3⟩:=I.list hq3
  let⟨u1,hu1,ru1⟩:=rv1.get hx
  let⟨u2,hu2,Zn⟩:=rv2.get hy
  let⟨u3,hu3,ru3⟩:=rv3.get hz0
  let⟨hz,hTI,⟨x0,y0,z0,hTO⟩,h1,h2,h3⟩:=st
  let nl:n+5<s⁻¹:=bw hz
  show Z3.Q8 an bn cn hz hTI hTO h1 h2 h3 pl1.isList pl2.isList pl3.isList (x:=u1) (y:=u2) (v:=u3) () () () λh' a1 a2 a3 a4 a5 a6 hk=>?_
  show⟨_,Z,wpAny_letOwnedTupleGo_zip a1 λg3 hg3 hs3=>?_⟩
  let n5:s⁻¹≠n+5:=iM nl
  let hT3:g3.get? s⁻¹=some { cls:=.type "tuple",data:=.seq #[u1,u2,u3]}:=(hs3.2 _ n5).trans a6
  let kp:∀e o,e∉[n,n+1,n+2,n+3,n+4,n+5]->s^^^e=some o->g3.get? e=some o:=λe o he q=>by
   simp only[List.mem_cons,List.not_mem_nil,or_false,not_or]at he
   show(hs3.2 e he.2.2.2.2.2).trans (hk e o he.1 he.2.1 he.2.2.1 he.2.2.2.2.1 he.2.2.2.2.2 q)
  let I1:bG X Y σ H (s•g3):=Gm I [n,n+1,n+2,n+3,n+4,n+5] (λe he=>hf e he) kp
  let hfree:H s⁻¹=none:=I.hok.fresh (aK _)
  let I2:bG X Y σ (cU H s⁻¹ (.tup [x,y,z])) (s•g3):=by
   show bG.track I1 hfree I.sz (iM I.lt) (λy c q=>?_) (λp hp=>bV (bw (I.pin p hp).1)) ?_
   ·let⟨v,oc,q1,_⟩:=I.cell y c q
    show bV (bw q1)
   ·show⟨(by show 3<=sizeLine;decide),[u1,u2,u3],.cons ru1 (.cons Zn (.cons ru3 .nil)),⟨_,hT3,Z,_,Z⟩⟩
  let d35:(n+3:Nat)≠n+5:=()
  let d45:(n+4:Nat)≠n+5:=()
  let d05:(n:Nat)≠n+5:=()
  let d15:(n+1:Nat)≠n+5:=()
  let d25:(n+2:Nat)≠n+5:=()
  let t3:h'.get? (n+3)=_:=hk (n+3) _ () () () () () hTI
  show⟨.ref s⁻¹,_,I2,Z,⟨_,x,y,z,Z,iG.nD hfree,λxs' hy'=>by rw[I.w5 hy' hq1];show hx,λys' hy'=>by rw[I.w5 hy' hq2];show hy,λzs' hy'=>by rw[I.w5 hy' hq3];show hz0⟩,
   ⟨hg3,(hs3.2 (n+3) d35).trans t3,⟨_,_,_,(hs3.2 (n+4) d45).trans a2⟩,a3.at λo q=>(hs3.2 n d05).trans q,a4.at λo q=>(hs3.2 (n+1) d15).trans q,a5.at λo q=>(hs3.2 (n+2) d25).trans q⟩,λe he=>?_⟩
  let f0:=(hf e he).1
  rw[aR ?_]
  ·show f0
  grind
 done:=by
  intro X hP hw hK hc i Y s σ H E I hf st hg
  subst hP hw hK
  let⟨xs,hq1,hl⟩:=hg
  let⟨a3R,rv1,pl1,hz1⟩:=I.list hq1
  let l1:=rv1.length
  let⟨hz,hTI,⟨x0,y0,z0,hTO⟩,h1,h2,h3⟩:=st
  show Z3.Wc (a:=x0) (b:=y0) (c:=z0) (l2:=b) (l3:=c) (I.ok.hd hc) an hz hTI h1 pl1.isList (by simp;omega) λh' hk=>⟨Z,Gm I [n,n+1,n+2,n+3,n+4,n+5] (λe he=>hf e he) λe o he q=>?_⟩
  grind
 self:=λ_ _ _ _ _ st h=>Uu st.1 h
section
variable{X:Cx}
def vals3{a b c:V}{us:aw}(h:cZ [a,b,c] us):∃u v w,us=[u,v,w]/\cY a u/\cY b v/\cY c w:=by
 cases h with
 |cons h1 t =>
  let⟨u2,u3,rfl,r2,r3⟩:=vals2 t;show⟨_,_,_,Z,h1,r2,r3⟩
def a6a(K:aJ)(ta:TA):TI:=λσ H R=>ta σ H λvs H1=>∃a b c,vs=[.ref a,.ref b,.ref c]/\(∃xs,bD K H1 a xs)/\(∃ys,bD K H1 b ys)/\(∃zs,bD K H1 c zs)/\R (Ļ K a b c) H1
def a02{elts:bc}{k:Nat}{tpos:Pos}{l m r:Expr}{ta:TA}{p:Pos}(e0:X.K=K)(hg:Gl X "zip")(hm:X.mg "zip" = none)(ha:PA X [l,m,r] ta)(hs:@&(starEach [l,m,r] X.env=[(false,eval l X.env),(false,eval m X.env),(false,eval r X.env)]))(hs2:@&(starEach [m,r] X.env=[(false,eval m X.env),(false,eval r X.env)])) :
  PI X (.Tuple elts k tpos) (.Call (.Name "zip" p) [l,m,r] [] pos) (a6a K ta):=by
 subst e0;intro Y s σ H R I h;show vD (uG I hg hm boot_zip ?_);show wL (jC (ha pos Y s σ H _ I h) λus s1 ⟨vs,H1,I1,r1,q1⟩=>?_) (by rw[hs,hs2]) (by rw[hs2];rfl);let⟨a,b,c,e,⟨xs,hq1⟩,⟨ys,hq2⟩,⟨zs,hq3⟩,q⟩:=q1;subst e;let⟨u1,u2,u3,rfl,r1,r2,r3⟩:=vals3 r1;cases r1;cases r2;cases r3;let⟨a3R,rv1,pl1,hz1⟩:=I1.list hq1;let⟨its2,rv2,pl2,hz2⟩:=I1.list hq2;let⟨a7U,rv3,pl3,hz3⟩:=I1.list hq3;show Z3.a5Z pl1.isList pl2.isList pl3.isList λh' hz hTI hTO h1 h2 h3 hk=>Uu hz ?_;let I2:bG X Y σ H1 (s1•h'):=I1.kept (t':=s1.toks) hk;let la:a<s1⁻¹:=by let⟨o,e,_⟩:=pl1.isList;show bw e
 let lb:b<s1⁻¹:=by let⟨o,e,_⟩:=pl2.isList;show bw e
 let lc:c<s1⁻¹:=by let⟨o,e,_⟩:=pl3.isList;show bw e
 show⟨s1⁻¹+5,_,_,_,H1,Z,I2,Zv a b c s1⁻¹ la lb lc,⟨hz,hTI,⟨_,_,_,hTO⟩,h1,h2,h3⟩,λe he=>?_,q⟩;let hb':s1⁻¹<=e:=by
  grind
 show I1.Fx hb' (I1.hok.fresh hb')
end
def ļ{a b c:Addr}{xs ys zs:af}{g:TG}{tb:TS}{D:Ends}{σ:St}{H:Hp}(el:xs.length=ys.length)(el2:xs.length=zs.length)(Pv:Nat->St->Hp->Prop)(h0:Pv 0 σ H)(hl:∀i σ H,i<=xs.length->Pv i σ H->bD K H a xs/\bD K H b ys/\bD K H c zs)
  (hs:∀(i:Nat) x y z σ H p H',xs[i]?=some x->ys[i]?=some y->zs[i]?=some z->Pv i σ H->iG H p (.tup [x,y,z]) H'->g (.ref p) σ H' λσ2 H2=>tb { D with nx:=Pv (i+1),ct:=Pv (i+1),bk:=D.nx} σ2 H2) (hd:∀σ H,Pv xs.length σ H->D.nx σ H) :
  ∃W:Nat->Nat->St->Hp->Prop,(∃m,W 0 m σ H)/\∀i m σ H,W i m σ H->
   ((Ļ K a b c).stop i H/\D.nx σ H)\/((Ļ K a b c).go i H/\∃N:St->Hp->Prop,(∀σ' H',N σ' H'->∃m',m'<m/\W (i+1) m' σ' H')/\∀x H',(Ļ K a b c).W9 i H x H'->g x σ H' λσ2 H2=>tb { D with nx:=N,ct:=N,bk:=D.nx} σ2 H2):=by
 show⟨λi m σ H=>m=xs.length-i/\i<=xs.length/\Pv i σ H,⟨xs.length,by simp,dF _,h0⟩,?_⟩;rintro i m σ H ⟨rfl,hi,p⟩;let⟨q1,q2,q3⟩:=hl i σ H hi p;by_cases hlt:i<xs.length
 ·show .inr ⟨⟨xs,ys,zs,xs[i],ys[i],zs[i],q1,q2,q3,by simp[hlt],by simp[el▸hlt],by simp[el2▸hlt]⟩,Pv (i+1),λσ' H' p'=>⟨xs.length-(i+1),(),Z,hlt,p'⟩,λx H' y=>?_⟩;let⟨pp,x0,y0,z0,rfl,nw,ex,ey,ez⟩:=y;show hs i x0 y0 z0 σ H pp H' (ex xs q1) (ey ys q2) (ez zs q3) p nw
 ·let e:i=xs.length:=()
  subst e;show .inl ⟨⟨xs,q1,aK _⟩,hd σ H p⟩
section
variable{X:Cx}{e:Expr}{f:Str}{ta:TE}
def Gn(e0:X.K=K)(he:PE X e ta)(hb:attributeBase e f X.env (eval e X.env)=eval e X.env):PE X (.Attribute e f pos) (a5i K ta f):=by subst e0;show a2Y he hb
end
end L2
namespace K
open L2 Lw Bg
abbrev jJ:ag:=["one","other"]
abbrev mD:ag:=["graph","steps"]
abbrev sV:ag:=["n","thing"]
abbrev sW:ag:=["_law_script","_law_ties_here","_law_rows_here","_law_k"]
abbrev xu:ag:=["self","one","other"]
abbrev xG:ag:=["_law_script","_law_k"]
abbrev xH:ag:=["_law_one","_law_other"]
abbrev yL:ag:=["self","state","spot","v"]
abbrev Bf:ag:=["question","table","state","row"]
abbrev Bh:ag:=["graph","done","step","used"]
abbrev Bj:ag:=["numbers","one","other"]
abbrev Ez:ag:=["question","old","step","bag"]
abbrev EY:ag:=["graph","steps","tops","pile"]
abbrev Fb:ag:=["state","spot","number"]
abbrev Fd:ag:=["state","spot"]
abbrev Im:ag:=["question","table","source","step","bag"]
abbrev Io:ag:=["question","table","source","another"]
abbrev Ip:ag:=["steps","question","tops","feeds"]
abbrev Ir:ag:=["many","weights"]
abbrev K3:ag:=["self","state"]
abbrev K4:ag:=["steps","question"]
abbrev K5:ag:=["n","places"]
abbrev K6:ag:=["ties","costs"]
abbrev Q9:ag:=["self","state","one","other","tie"]
abbrev Ra:ag:=["_law_found","_law_size"]
abbrev XJ:ag:=["is_better","shared","joined","put_in","tied","taken_out","thing"]
abbrev XM:ag:=["self","graph","leaf","whole"]
abbrev XQ:ag:=["self","graph","told","costs"]
abbrev XR:ag:=["_law_script","_law_n","_law_most"]
abbrev XS:ag:=["_law_v","_law_script"]
abbrev X3:ag:=["_law_script","_law_rows_here","_law_n"]
abbrev X4:ag:=["_law_found","_law_steps"]
noncomputable def top(i:Nat):Stmt:=PySem.Challenge.pw_bagwood_k72_links_laid_together.main.body.getD i (.Pass ⟨0,0,0,0⟩)
abbrev dW:=ae
structure gk where
 m:Int
 b:Int
 src:List dW
variable{R:V->gk->Prop}
abbrev b7:=List (dW×gk)
noncomputable def zy(T:b7)(s:dW):Option gk:=(T.find? λx=>decide (x.1=s)).map (·.2)
noncomputable def rz(T:b7)(s:dW)(r:gk):b7:=if(T.any λx=>decide (x.1=s))=true then T.map (λx=>if x.1=s then(x.1,r)else x)else T++[(s,r)]
noncomputable def wu(bt:Int->Int->Bool)(r o:gk):gk:=if bt r.b o.b=true then r else o
def nR(bt:Int->Int->Bool)(T:b7)(s:dW)(r:gk):b7:=match zy T s with
 |none=>rz T s r
 |some o=>rz T s ⟨o.m+r.m,(wu bt r o).b,(wu bt r o).src⟩
noncomputable def sX(s:dW):aS:=s.map Sum.inl
def a2n(s:dW):(sX s).map kV=s.map V.int:=by
 unfold sX;rw[lY];rfl
def Gp{s t:dW}(h:sX s=sX t):s=t:=by
 induction s generalizing t with
 |nil=>cases t with
  |nil=>rfl
  |cons a t=>cases h
 |cons a s ih=>cases t with
  |nil=>cases h
  |cons b t =>
   let h1:(Sum.inl a:Key)=Sum.inl b:=(NQ h).1;let h2:sX s=sX t:=(NQ h).2;grind
def oO(H:Hp)(a:Addr)(s:dW):Prop:=H a= ~~~(s.map V.int)
def oO.key{H:Hp}{a:Addr}{s:dW}(h:oO H a s):H a= ~~~((sX s).map kV):=by rw[a2n];show h
def oO.Iu{H:Hp}{a:Addr}{s:dW}(h:H a= ~~~((sX s).map kV)):oO H a s:=by rw[a2n]at h;show h
inductive J6(H:Hp)(v:V)(r:gk):Prop
 |mk (p q as:_) (_:v=.ref p) (_:H p= ~~~[.int r.m,.int r.b,.ref q]) (_:H q= ~~~(as.map V.ref)) (_:Paired (oO H) as r.src)
def pN(H:Hp):List (aS×V)->b7->Prop:=Paired λkv tr=>kv.1=sX tr.1/\J6 H kv.2 tr.2
def lG(H H':Hp):Prop:=∀c ys,H c= ~~~ys->H' c= ~~~ys
def lG.trans{H H' SN:Hp}(a:lG H H')(b:lG H' SN):lG H SN:=λc ys h=>b c ys (a c ys h)
def lG.of{H H':Hp}(a:aL H H'):lG H H':=λc ys h=>a c _ h
def oO.keep{H H':Hp}{a:Addr}{s:dW}(k:lG H H')(h:oO H a s):oO H' a s:=k _ _ h
def J6.keep{H H':Hp}{v:V}{r:gk}(k:lG H H')(h:J6 H v r):J6 H' v r:=by
 let⟨p,q,as,e,h1,h2,h3⟩:=h;show⟨p,q,as,e,k _ _ h1,k _ _ h2,Paired.cA h3 λ_ _ z=>z.keep k⟩
def pN.keep{H H':Hp}{J:List (aS×V)}{T:b7}(k:lG H H')(h:pN H J T):pN H' J T:=Paired.cA h λ_ _ z=>⟨z.1,z.2.keep k⟩
def Sd(t:Addr)(H H':Hp):Prop:=∀c o,c≠t->H c=some o->H' c=some o
def Sd.refl{t:Addr}{H:Hp}:Sd t H H:=λ_ _ _ h=>h
def Sd.trans{t:Addr}{H H' SN:Hp}(a:Sd t H H')(b:Sd t H' SN):Sd t H SN:=λc o n h=>b c o n (a c o n h)
def Sd.of{t:Addr}{H H':Hp}(a:aL H H'):Sd t H H':=λc o _ h=>a c o h
def Sd.tups{t:Addr}{H H':Hp}{J:List (aS×V)}(a:Sd t H H')(h:H t=some (.dT J)):lG H H':=λc ys e=>a c _ (λz=>by grind) e
def Sd.Rb{t:Addr}{H H':Hp}{o:HO}(c:vB H t o H'):Sd t H H':=λb u n h=>by rw[c.rest b n];show h
def Gq(s:dW){J:List (aS×V)}{T:b7}(h:Paired (λ(kv:aS×V) (tr:dW×gk)=>kv.1=sX tr.1/\R kv.2 tr.2) J T):(dh J (sX s)=none/\zy T s=none)\/∃v r,dh J (sX s)=some v/\zy T s=some r/\R v r:=by
 induction h with
 |nil=>show .inl ⟨Z,Z⟩
 | @cons p q J T h t ih =>
  let⟨k,v⟩:=p;let⟨s',r⟩:=q;let⟨e,hr⟩:=h;let e:k=sX s':=e;subst e;unfold dh zy at ih ⊢;by_cases c:s'=s
  ·rw[rO (by show aV (congrArg sX c)),rO (by show aV c)];show .inr ⟨v,r,Z,Z,hr⟩
  ·rw[rP (by show λz=>c (Gp (dw z))),rP (by show λz=>c (dw z))];show ih
def a03(s:dW){J:List (aS×V)}{T:b7}(h:Paired (λ(kv:aS×V) (tr:dW×gk)=>kv.1=sX tr.1/\R kv.2 tr.2) J T):(J.any λkv=>decide (kv.1=sX s))=(T.any λx=>decide (x.1=s)):=by
 induction h with
 |nil=>rfl
 | @cons p q J T h t ih =>
  let⟨k,v⟩:=p;let⟨s',r⟩:=q;let e:k=sX s':=h.1;subst e;rw[oX,oX,ih];congr 1;show Hh.mpr ⟨λz=>Gp z,λz=>congrArg sX z⟩
def X5{J:List (aS×V)}{T:b7}{s:dW}{v:V}{r:gk}(h:Paired (λ(kv:aS×V) (tr:dW×gk)=>kv.1=sX tr.1/\R kv.2 tr.2) J T)(hr:R v r):Paired (λ(kv:aS×V) (tr:dW×gk)=>kv.1=sX tr.1/\R kv.2 tr.2) (putK J (sX s) v) (rz T s r):=by
 unfold putK rz;rw[a03 s h];by_cases c:(T.any λx=>decide (x.1=s))=true
 ·rw[aB c,aB c];clear c
  induction h with
  |nil=>show .nil
  | @cons kv tr _ _ a _ ih =>
   show .cons ?_ ih;let⟨k,v0⟩:=kv;let⟨s',r0⟩:=tr;let⟨e,h0⟩:=a;let e:k=sX s':=e;subst e;lk;by_cases c:s'=s
   ·rw[aB (by rw[c]),aB c];show⟨Z,hr⟩
   ·rw[aA (λz=>c (Gp z)),aA c];show⟨Z,h0⟩
 ·rw[aA c,aA c];show Paired.snoc h ⟨Z,hr⟩
structure PQ(κ:Type) where
 leaf:dW
 whole:dW
 bt:Int->Int->Bool
 sh:dW->List κ
 jn:dW->dW->List dW
 inn:dW->Nat->Nat->List (dW×Int)
 tie:dW->Nat->Nat->Int×Int->List (dW×Int)
 out:dW->Nat->Nat->List (dW×Int)
 Ok:Nat->dW->Prop
inductive Ë(H:Hp)(v:V)(x:dW×Int):Prop
 |mk (p a:_) (_:v=.ref p) (_:H p= ~~~[.ref a,.int x.2]) (_:oO H a x.1)
def Ë.keep{H H':Hp}{v:V}{x:dW×Int}(k:lG H H')(h:Ë H v x):Ë H' v x:=by
 let⟨p,a,e,h1,h2⟩:=h;show⟨p,a,e,k _ _ h1,h2.keep k⟩
def SvL(H:Hp)(v:V)(x:dW):Prop:=∃a,v=.ref a/\oO H a x
section
variable{P:Program}{w:World}{κ:Type} [DecidableEq κ]
inductive Rc(pq:PQ κ)(At:Hp->Addr->Prop)(vs:af)(H:Hp)(Q:VK)(u_3:XK):Prop
 |mk (d:Addr) (a b:Int) (_:vs=[.ref d,.int a,.int b]) (_:At H d) (_:Q (.bl (pq.bt a b)) H)
inductive Rf(knd:KeyKind P w κ)(pq:PQ κ)(At:Hp->Addr->Prop)(vs:af)(H:Hp)(Q:VK)(u_3:XK):Prop
 |mk (d a:Addr) (m:Nat) (s:dW) (_:vs=[.ref d,.ref a]) (_:At H d) (_:oO H a s) (_:pq.Ok m s) (_:m<=4) (_:∀b H',aL H H'->Zq knd H' b (pq.sh s)->Q (.ref b) H')
inductive Rg(pq:PQ κ)(At:Hp->Addr->Prop)(vs:af)(H:Hp)(Q:VK)(u_3:XK):Prop
 |mk (d a b:Addr) (m:Nat) (s t:dW) (_:vs=[.ref d,.ref a,.ref b]) (_:At H d) (_:oO H a s) (_:oO H b t) (_:pq.Ok m s) (_:pq.Ok m t) (_:m<=4) (_:pq.sh s=pq.sh t) (_:∀r xs H',aL H H'->H' r=↥xs->Paired (SvL H') xs (pq.jn s t)->Q (.ref r) H')
inductive a2o(pq:PQ κ)(At:Hp->Addr->Prop)(vs:af)(H:Hp)(Q:VK)(u_3:XK):Prop
 |mk (d a:Addr) (m spot v:Nat) (s:dW) (_:vs=[.ref d,.ref a,.int spot,.int v]) (_:At H d) (_:oO H a s) (_:pq.Ok m s) (_:m<=4) (_:spot<=m) (_:∀r xs H',aL H H'->H' r=↥xs->Paired (Ë H') xs (pq.inn s spot v)->Q (.ref r) H')
inductive a2p(pq:PQ κ)(At:Hp->Addr->Prop)(Pl:Nat->Prop)(vs:af)(H:Hp)(Q:VK)(u_3:XK):Prop
 |mk (d a:Addr) (m spot v:Nat) (s:dW) (_:vs=[.ref d,.ref a,.int spot,.int v]) (_:At H d) (_:oO H a s) (_:pq.Ok m s) (_:m<=4) (_:spot<m) (_:Pl v) (_:∀r xs H',aL H H'->H' r=↥xs->Paired (Ë H') xs (pq.out s spot v)->Q (.ref r) H')
inductive a2q(pq:PQ κ)(At:Hp->Addr->Prop)(Ti:Int×Int->Prop)(vs:af)(H:Hp)(Q:VK)(u_3:XK):Prop
 |mk (d a p:Addr) (m fU cP:Nat) (t:Int×Int) (s:dW) (_:vs=[.ref d,.ref a,.int fU,.int cP,.ref p]) (_:At H d) (_:oO H a s) (_:pq.Ok m s) (_:m<=4) (_:fU<m) (_:cP<m) (_:fU≠cP) (_:Ti t) (_:H p= ~~~[.int t.1,.int t.2]) (_:∀r xs H',aL H H'->H' r=↥xs->Paired (Ë H') xs (pq.tie s fU cP t)->Q (.ref r) H')
structure QM(P:Program)(w:World)(K:aJ)(mg:Str->Option Value)(base:Heap)(C:Addr)(m:Str)(ps:ag)(k:Nat)(sp:Sp) where
 f:Addr
 fd:FuncData
 mt:Meth K C m f
 b:Binds K fd ps []
 ok:⋯ k f fd ps sp
set_option genInjectivity false in
structure J7(P:Program)(w:World)(K:aJ)(mg:Str->Option Value)(base:Heap)(κ:Type) [DecidableEq κ] where
 C:Addr
 cl:Cls K C
 knd:KeyKind P w κ
 pq:PQ κ
 At:Hp->Addr->Prop
 Pl:Nat->Prop
 Ti:Int×Int->Prop
 n:Nat
 ts:ar
 keep:∀{H H':Hp}{d:Addr},(∀c o,(∀J,o≠.dT J)->(∀φ,o≠.ext φ)->H c=some o->H' c=some o)->At H d->At H' d
 ins:∀{H:Hp}{d:Addr},At H d->∃dx fs,H d=some (.ins C dx fs)/\(∀m,m∈(XJ:ag)->fs.lookup m=none)/\
  (∃a,fs.lookup ("leaf" : Str)=⇑a/\oO H a pq.leaf)/\(∃a,fs.lookup ("whole" : Str)=⇑a/\oO H a pq.whole)/\∃g,fs.lookup ("graph" : Str)=some g/\uJ K H g n ts
 uK:jz K C "leaf"
 rA:jz K C "whole"
 qi:jz K C "graph"
 tZ:QM P w K mg base C "is_better" xu 8 (Rc pq At)
 vf:QM P w K mg base C "shared" K3 8 (Rf knd pq At)
 Bk:QM P w K mg base C "joined" xu 8 (Rg pq At)
 Bm:QM P w K mg base C "put_in" yL 8 (a2o pq At)
 uc:QM P w K mg base C "taken_out" yL 8 (a2p pq At Pl)
 O4:QM P w K mg base C "tied" Q9 8 (a2q pq At Ti)
end
abbrev uL:Stmt:=top 28
def Gr:bN ["question","table","state","row","old","better"] Bf (aG uL):={}
section
variable{P:Program}{w:World}{K:aJ}{mg:Str->Option Value}{base:Heap}{κ:Type} [DecidableEq κ]
inductive a3V(Qn:J7 P w K mg base κ)(vs:af)(H:Hp)(Q:VK)(u_3:XK):Prop
 |mk (d t a:Addr) (v:V) (J:List (aS×V)) (T:b7) (s:dW) (r:gk) (_:vs=[.ref d,.ref t,.ref a,v]) (_:Qn.At H d) (_:H t=some (.dT J)) (_:pN H J T) (_:T.length<=4000) (_:oO H a s) (_:J6 H v r) (_:∀kvs' H',Sd t H H'->H' t=some (.dT kvs')->pN H' kvs' (nR Qn.pq.bt T s r)->Q .non H')
def X6(Qn:J7 P w K mg base κ)(qO:Dn K mg "note" uL Bf):⋯ 9 qO.f qO.fd Bf (a3V Qn):=by
 let J8:⋯ 8 _ _ _ _:=Qn.tZ.ok;show qO.F.ok Gr λd7 A outer s H vs Q E hr h=>?_;let⟨d,t,a,v,J,T,st,r,rfl,hD,ht,hT,lT,ha,hv,q⟩:=h;let hw1:(A.deeper (PyProof.Rows.envOfC "note" (aG uL) s⁻¹ qO.f d7)).units+1<cLine:=by let:=hr.un;omega
 show⟨_,(jw (cM (aN (ī hw1) (pv 2) (pv 1) (by with_unfolding_all rfl))
   (aD (aX 4 Gr.nd (yj hw1 (pv 1) (pv 2) λ_ _=>rfl))
   (aD (aX 5 Gr.nd (nO (dN (K:=K) Z (vQ (pv 0) Qn.cl Qn.tZ.mt J8 hr Qn.tZ.b .nil bZ (O (aP (aO (K:=K) Z) (pv 3) aq) (O (aP (aO (K:=K) Z) (pv 4) aq) aj))) λ_=>rfl) (pv 3) (pv 4)))
   (aF (aX 3 Gr.nd (bL (O (bh cX (aP (aO (K:=K) Z) (pv 4) aq) (aP (aO (K:=K) Z) (pv 3) aq)) (O (aP (aO (K:=K) Z) (pv 5) aq) (O (aP (aO (K:=K) Z) (pv 5) aq) aj))))))))
   bA)
   (aF (vM (pv 3) (Ob (pv 1) (pv 2) (Ds hw1))))),?_⟩
 show⟨λσ' G=>∃v' r' o4 o5,σ'=[⇑d,⇑t,⇑a,some v',o4,o5]/\aL H G/\J6 G v' r'/\nR Qn.pq.bt T st r=rz T st r',?_,?_⟩
 ·show⟨_,Z,_,Z,a,t,sX st,J,Z,Z,ha.key,ht,_,Z,?_⟩;rcases Gq st hT with⟨e1,e2⟩|⟨v0,r0,e1,e2,h0⟩
  ·rw[e1];show dB ⟨v,r,none,none,Z,aL.refl _,hv,?_⟩;unfold nR;rw[e2]
  ·rw[e1];let⟨p,qs,as,rfl,hp,hq,hs⟩:=hv;let⟨p0,q0,as0,rfl,hp0,hq0,hs0⟩:=h0;show iQ ⟨_,Z,_,Z,t,.ref p0,Z,by rw[<-e1];show xq.t ht ha.key,?_⟩;let⟨dx,fs,hd,nom,_⟩:=Qn.ins hD;show⟨_,Z,d,dx,fs,Z,hd,nom _ (),⟨_,Z,p,_,_,.int r.b,Z,Z,cJ.of hp,Z,_,Z,p0,_,_,.int r0.b,Z,Z,cJ.of hp0,Z,⟨d,r.b,r0.b,Z,hD,_,Z,?_⟩⟩⟩;let fin:∀(pb:Addr) (rb:gk) (qb:Addr) (asb:aI),H pb= ~~~[.int rb.m,.int rb.b,.ref qb]->H qb= ~~~(asb.map V.ref)->Paired (oO H) asb rb.src->rb=wu Qn.pq.bt r r0->∀p' H',iG H p' (.tup [.int (r0.m+r.m),.int rb.b,.ref qb]) H'->∃v' r' o4 o5,[some (V.ref d),⇑t,⇑a,⇑p',⇑p0,⇑pb]=[⇑d,⇑t,⇑a,some v',o4,o5]/\aL H H'/\J6 H' v' r'/\nR Qn.pq.bt T st r=rz T st r':=λpb rb qb asb h1 h2 h3 e p' H' nw=>by
    show⟨_,⟨r0.m+r.m,rb.b,rb.src⟩,_,_,Z,nw.same,⟨p',qb,asb,Z,nw.here,nw.same _ _ h2,Paired.cA h3 λ_ _ z=>z.keep (.of nw.same)⟩,?_⟩;unfold nR;rw[e2,e]
   cases cb:Qn.pq.bt r.b r0.b with
   |true =>
    show iQ ⟨_,Z,?_⟩;show⟨_,Z,p0,_,_,.int r0.m,Z,Z,cJ.of hp0,Z,_,Z,p,_,_,.int r.m,Z,Z,cJ.of hp,Z,_,_,Z,Z,_,Z,p,_,_,.int r.b,Z,Z,cJ.of hp,Z,_,Z,p,_,_,.ref qs,Z,Z,cJ.of hp,Z,(),λp' H' nw=>?_⟩;show fin p r qs as hp hq hs (by unfold wu;rw[cb];rfl) p' H' nw
   |false =>
    show dB ⟨_,Z,?_⟩;show⟨_,Z,p0,_,_,.int r0.m,Z,Z,cJ.of hp0,Z,_,Z,p,_,_,.int r.m,Z,Z,cJ.of hp,Z,_,_,Z,Z,_,Z,p0,_,_,.int r0.b,Z,Z,cJ.of hp0,Z,_,Z,p0,_,_,.ref q0,Z,Z,cJ.of hp0,Z,(),λp' H' nw=>?_⟩;show fin p0 r0 q0 as0 hp0 hq0 hs0 (by unfold wu;rw[cb];rfl) p' H' nw
 rintro σ' G ⟨v',r',o4,o5,rfl,sG,hr',e⟩;let lk:=aW hT;show⟨_,Z,_,Z,_,Z,t,a,sX st,J,Z,Z,(ha.keep (.of sG)).key,sG _ _ ht,(),λG' c=>?_⟩;let ts:lG G G':=λc' ys hc=>by
  rw[c.rest c' (λz=>by rw[z,sG _ _ ht]at hc;cases hc)];show hc
 show q _ G' (Sd.trans (.of sG) (.Rb c)) c.here ?_;rw[e];show pN.keep ts (X5 (hT.keep (.of sG)) hr')
end
end K
namespace L2
open PySem.Calls PyProof.Rows
section
variable{X:Cx}
inductive a6b(x:V)(vs:af)(H:Hp)(Q:VK):Prop
 |mk (l:Addr) (ns:ae) (v:Int) (j:Nat) (_:x=.ref l) (_:vs=[.int v]) (_:H l=↥(List.map V.int ns)) (_:ns[j]?=some v) (_:(∀m:Nat,m<j->ns[m]?≠some v)) (_:ns.length<=1000) (_:Q (.int (j:Int)) H)
noncomputable def isV(v:Int):Value->Bool
 |.int a _=>a==v
 |_=>false
def Dv:Qp X "list.index" a6b:=by
 intro Y s σ H x vs w us Q I rx rv h;let⟨l,ns,v,j,rfl,rfl,hH,hj,hno,hz,q⟩:=h;cases rx;let⟨u,rfl,ru⟩:=vals1 rv;let⟨t,rfl⟩:=(show ∃t,u=Value.int v t from ru);let⟨z,bY,n,r,hl,e⟩:=I.YL hH;let hi:=ints_of r;let len:=hi.length;let at_:∀m (hm:m<bY.length),∃k tk,bY[m]=Value.int k tk/\ns[m]?=some k:=λm hm=>by
  let hm2:m<ns.length:=()
  let⟨tk,e⟩:=hi.get m ns[m] (bI hm2);rw[bI hm]at e;injection e with e
  show⟨ns[m],tk,e,bI hm2⟩
 let jl:j<bY.length:=by let:=(eG.mp hj).1;omega
 show CQ F.slot_list_index ⟨_,e,Z⟩ F.entry_list_index (F.args_list_index_2 _ _) (MeetsSeq.list_index l bY.toArray n (.int v t) (isV v) (λy hy=>?_) j (by simpa using jl) () ?_ λm hm hmj=>?_) ⟨e,?_⟩
 ·let⟨m,hm,em⟩:=oR (show y∈bY by simpa using hy);let⟨k,tk,e1,_⟩:=at_ m hm;rw[<-em,e1];show MeetsSeq.EqGives.int k v tk t
 ·let⟨k,tk,e1,e2⟩:=at_ j jl;rw[hj]at e2;injection e2 with e2
  simp only[List.getElem_toArray];rw[e1,<-e2];show Ng v
 ·let hm':m<bY.length:=by simpa using hm
  let⟨k,tk,e1,e2⟩:=at_ m hm';simp only[List.getElem_toArray];rw[e1];show(k==v)=false;let:k≠v:=λz=>hno m hmj (by rw[e2,z]);simpa using this
 ·show⟨.int j,H,I.tok _,⟨_,Z⟩,q⟩
end
end L2
namespace K
open L2 Lw Bg
inductive bT where
 |leaf
 |inn (v:Int)
 |tie (a b:Int)
 |out (v:Int)
 |join
deriving DecidableEq
abbrev ax:=List bT
variable{H:Hp}{K:aJ}
noncomputable def bT.vs:bT->af
 |.leaf=>[.str "leaf"]
 |.inn v=>[.str "in",.int v]
 |.tie a b=>[.str "tie",.int a,.int b]
 |.out v=>[.str "out",.int v]
 |.join=>[.str "join"]
noncomputable def bT.d:bT->PyData
 |.leaf=>.tuple [.str "leaf"]
 |.inn v=>.tuple [.str "in",.int v]
 |.tie a b=>.tuple [.str "tie",.int a,.int b]
 |.out v=>.tuple [.str "out",.int v]
 |.join=>.tuple [.str "join"]
noncomputable def bT.word:bT->Str
 |.leaf=>"leaf"
 |.inn _=>"in"
 |.tie _ _=>"tie"
 |.out _=>"out"
 |.join=>"join"
noncomputable def bT.need:bT->Nat
 |.leaf=>0
 |.join=>2
 |_=>1
def uM(K:aJ)(H:Hp)(v:V)(s:bT):Prop:=∃p,v=.ref p/\cJ K H p s.vs
def uM.same{H':Hp}{v:V}{s:bT}(e:aL H H')(h:uM K H v s):uM K H' v s:=by
 let⟨p,rfl,h⟩:=h;show⟨p,Z,e.vU h⟩
def uM.isD{v:V}{s:bT}(h:uM K H v s):JX K H v s.d:=by
 let⟨p,rfl,h⟩:=h;cases s with
 |leaf=>show .tup h (.cons (.str _) .nil)
 |inn v=>show .tup h (.cons (.str _) (.cons (.int _) .nil))
 |tie a b=>show .tup h (.cons (.str _) (.cons (.int _) (.cons (.int _) .nil)))
 |out v=>show .tup h (.cons (.str _) (.cons (.int _) .nil))
 |join=>show .tup h (.cons (.str _) .nil)
def Zw:dh Ey (.inr "leaf")=some (.int 0):=by decide
def a04:dh Ey (.inr "in")=some (.int 1):=by decide
def Ľ:dh Ey (.inr "tie")=some (.int 1):=by decide
def ľ:dh Ey (.inr "out")=some (.int 1):=by decide
def Zx:dh Ey (.inr "join")=some (.int 2):=by decide
def a05(s:bT):dh Ey (.inr s.word)=some (.int (s.need:Int)):=by
 cases s with
 |leaf=>show Zw
 |inn v=>show a04
 |tie a b=>show Ľ
 |out v=>show ľ
 |join=>show Zx
def yp(s:bT):Vq s.vs ((0:Nat):Int)=some (.str s.word):=by cases s<;>rfl
def a3W:∀x∈["leaf","in","tie","out","join"],PyData.strOk (Str.ofString x)=true:=by decide
def X7(s:bT):s.d.canLay0=true:=by
 let h:=a3W;cases s with
 |leaf=>simp[bT.d,PyData.canLay0,PyData.canLayAll0,h]
 |inn v=>simp[bT.d,PyData.canLay0,PyData.canLayAll0,h]
 |tie a b=>simp[bT.d,PyData.canLay0,PyData.canLayAll0,h]
 |out v=>simp[bT.d,PyData.canLay0,PyData.canLayAll0,h]
 |join=>simp[bT.d,PyData.canLay0,PyData.canLayAll0,h]
def K7(s:bT):s.d.depth<=1:=by cases s<;>simp[bT.d,PyData.depth,PyData.depthAll]
def Wf(s:bT):SeqAt.shaped s.d=true:=by
 unfold SeqAt.shaped;rw[X7,Hl];show aV (by let:=K7 s;omega)
def Rh(ss:ax):SeqAt.shaped (.list (ss.map bT.d))=true:=by
 unfold SeqAt.shaped;rw[PyData.canLay0,Gg X7,PyData.depth,Hl];show aV (by let:=u9 K7 ss;omega)
noncomputable def bT.tag:bT->Nat
 |.leaf=>0
 |.inn _=>1
 |.tie _ _=>2
 |.out _=>3
 |.join=>4
noncomputable def bT.args:bT->ae
 |.leaf=>[]
 |.inn v=>[v]
 |.tie a b=>[a,b]
 |.out v=>[v]
 |.join=>[]
noncomputable def Fe(i:Nat):Str:=Str.ofString (["leaf","in","tie","out","join"].getD i "")
def Iw:∀i,i<5->∀j,j<5->(Fe i==Fe j)=decide (i=j):=by decide
def Iz(s:bT):s.word=Fe s.tag:=by cases s<;>rfl
def Wg(s:bT):s.tag<5:=by cases s<;>simp[bT.tag]
def a2r(s:bT):s.d=.tuple (.str s.word::s.args.map PyData.int):=by cases s<;>rfl
def a3X{s t:bT}(h:s.tag=t.tag)(a:s.args=t.args):s=t:=by
 cases s<;>cases t<;>simp_all[bT.tag,bT.args]
theorem Fg:∀xs ys:ae,PyData.eqvAll (xs.map PyData.int) (ys.map PyData.int)=decide (xs=ys)
 | [],[]=>by simp[PyData.eqvAll]
 | [],_::_=>by simp[PyData.eqvAll]
 |_::_,[]=>by simp[PyData.eqvAll]
 |x::xs,y::ys=>by
  rw[cC,cC,PyData.eqvAll,Fg xs ys,PyData.eqv,rR]
  simp
def X8(s t:bT):PyData.eqv s.d t.d=decide (s=t):=by
 rw[a2r,a2r,PyData.eqv,PyData.eqvAll,Fg,PyData.eqv,Iz,Iz,Iw _ (Wg s) _ (Wg t),rR,gq,eO,eO,eO];show⟨λh=>a3X h.1 h.2,λh=>by grind⟩
def a06(ss:ax)(t:bT):(ss.map bT.d).any (λe=>PyData.eqv e t.d)=decide (t∈ss):=by
 rw[Hq,rR,List.any_eq_true,eO];constructor
 ·rintro⟨x,hx,e⟩;let:PyData.eqv x.d t.d=true:=e;rw[X8]at this;grind
 ·show λh=>⟨t,h,by show PyData.eqv t.d t.d=true;rw[X8];grind⟩
abbrev fQ:Stmt:=top 26
def vg:bN ["question","old","step","bag","spot"] Ez (aG fQ):={}
section
variable{P:Program}{w:World}{mg:Str->Option Value}{base:Heap}{κ:Type} [DecidableEq κ]
noncomputable def Wh(pq:PQ κ)(s:dW)(jM:bT)(B:ae):List (dW×Int):=match jM with
 |.inn v=>pq.inn s (B.idxOf v) v.toNat
 |.out v=>pq.out s (B.idxOf v) v.toNat
 |.tie a b=>pq.tie s (B.idxOf a) (B.idxOf b) (a,b)
 |_=>[]
def Gs(Qn:J7 P w K mg base κ)(jM:bT)(B:ae)(m:Nat):Prop:=match jM with
 |.inn v=>(∃n:Nat,v=(n:Int))/\v∈B/\B.length=m+1/\m<=4
 |.out v=>(∃n:Nat,v=(n:Int)/\Qn.Pl n)/\v∈B/\B.length=m/\m<=4
 |.tie a b=>a∈B/\b∈B/\a≠b/\B.length=m/\m<=4/\Qn.Ti (a,b)
 |_=>False
def zA{B:ae}{v:Int}(h:v∈B):B[B.idxOf v]?=some v/\∀m:Nat,m<B.idxOf v->B[m]?≠some v:=by
 induction B with
 |nil=>cases h
 |cons x B ih =>
  rw[UL];by_cases c:x=v
  ·subst c;rw[Ng];show⟨Z,λm hm=>absurd hm (CJ m)⟩
  ·rw[qI.mpr c];let⟨h1,h2⟩:=ih ((bO.mp h).resolve_left λz=>c z.symm);show⟨h1,λm hm=>?_⟩;cases m with
   |zero=>show λz=>c (dI z)
   |succ m=>show h2 m (by simpa using hm)
def a3Y{B:ae}{a b:Int}(h:a∈B)(h':b∈B)(n:a≠b):B.idxOf a≠B.idxOf b:=λe=>by
 let h1:=(zA h).1;let h2:=(zA h').1;rw[e,h2]at h1;show n (dI h1).symm
inductive Ŀ(Qn:J7 P w K mg base κ)(vs:af)(H:Hp)(Q:VK)(u_3:XK):Prop
 |mk (d a ps pb:Addr) (s:dW) (jM:bT) (B:ae) (m:Nat) (_:vs=[.ref d,.ref a,.ref ps,.ref pb]) (_:Qn.At H d) (_:oO H a s) (_:Qn.pq.Ok m s) (_:cJ K H ps jM.vs) (_:H pb=↥(B.map V.int)) (_:Gs Qn jM B m) (_:∀r xs H',aL H H'->H' r=↥xs->Paired (Ë H') xs (Wh Qn.pq s jM B)->Q (.ref r) H')
def Dw(Qn:J7 P w K mg base κ)(wC:Dn K mg "states_behind" fQ Ez):⋯ 9 wC.f wC.fd Ez (Ŀ Qn):=by
 let Wi:⋯ 8 _ _ _ _:=Qn.Bm.ok;let J9:⋯ 8 _ _ _ _:=Qn.uc.ok;let ŀ:⋯ 8 _ _ _ _:=Qn.O4.ok;show wC.F.ok vg λd7 A outer s H vs Q E hr h=>?_;let⟨d,a,ps,pb,st,jM,B,m,rfl,hD,ha,ok,hs,hb,fit,q⟩:=h;let⟨dx,fs,hd,nom,_⟩:=Qn.ins hD;show⟨_,(aD (aX 4 vg.nd (iR (K:=K) Z jc PySem.F.slot_list_index PySem.F.type_list_index Dv (pv 3) (O (aP (aO (K:=K) Z) (pv 2) aq) aj)))
   (aD (cM (aN jV (aP (aO (K:=K) Z) (pv 2) aq) fV)
   (aF (bH (vQ (pv 0) Qn.cl Qn.Bm.mt Wi hr Qn.Bm.b .nil bZ (O (pv 1) (O (pv 4) (O (aP (aO (K:=K) Z) (pv 2) aq) aj))))))
   bA)
   (aD (cM (aN jV (aP (aO (K:=K) Z) (pv 2) aq) fV)
   (aF (bH (vQ (pv 0) Qn.cl Qn.uc.mt J9 hr Qn.uc.b .nil bZ (O (pv 1) (O (pv 4) (O (aP (aO (K:=K) Z) (pv 2) aq) aj))))))
   bA)
   (aF (bH (vQ (pv 0) Qn.cl Qn.O4.mt ŀ hr Qn.O4.b .nil bZ (O (pv 1) (O (pv 4) (O (iR (K:=K) Z jc PySem.F.slot_list_index PySem.F.type_list_index Dv (pv 3) (O (aP (aO (K:=K) Z) (pv 2) aq) aj)) (O (fj (Gi (K:=K) Z) (pv 2) (gb aq) fZ) aj)))))))))),?_⟩
 let lB:B.length<=1000:=by
  cases jM<;>first|exact fit.elim|skip
  ·let⟨_,_,e,l⟩:=fit;omega
  ·let⟨_,_,_,e,l,_⟩:=fit;omega
  ·let⟨_,_,e,l⟩:=fit;omega
 let fld:∀(mth:Str),mth∈(XJ:ag)->fs.lookup mth=none:=nom;cases jM with
 |leaf=>show fit.elim
 |join=>show fit.elim
 |inn v =>
  let⟨⟨n,rfl⟩,hv,el,m4⟩:=fit;let ix:=zA hv;show⟨_,Z,.inl ⟨Z,_,bD.of hb⟩,_,Z,ps,_,_,_,Z,Z,hs,Z,pb,B,_,_,Z,Z,hb,ix.1,ix.2,lB,⟨_,Z,ps,_,_,_,Z,Z,hs,Z,Z,_,Z,iQ ⟨_,Z,d,dx,fs,Z,hd,fld _ (),_,Z,_,Z,_,Z,ps,_,_,_,Z,Z,hs,Z,⟨d,a,m,_,n,st,Z,hD,ha,ok,m4,?_,λr xs H' s' h1 h2=>q r xs H' s' h1 h2⟩⟩⟩⟩;grind
 |out v =>
  let⟨⟨n,rfl,pn⟩,hv,el,m5⟩:=fit;let ix:=zA hv;show⟨_,Z,.inl ⟨Z,_,bD.of hb⟩,_,Z,ps,_,_,_,Z,Z,hs,Z,pb,B,_,_,Z,Z,hb,ix.1,ix.2,lB,⟨_,Z,ps,_,_,_,Z,Z,hs,Z,Z,_,Z,dB ⟨_,Z,ps,_,_,_,Z,Z,hs,Z,Z,_,Z,iQ ⟨_,Z,d,dx,fs,Z,hd,fld _ (),_,Z,_,Z,_,Z,ps,_,_,_,Z,Z,hs,Z,⟨d,a,m,_,n,st,Z,hD,ha,ok,m5,?_,pn,λr xs H' s' h1 h2=>q r xs H' s' h1 h2⟩⟩⟩⟩⟩;grind
 |tie x y =>
  let⟨hx,hy,ne,el,m5,ti⟩:=fit;let ix:=zA hx;let iy:=zA hy;show⟨_,Z,.inl ⟨Z,_,bD.of hb⟩,_,Z,ps,_,_,_,Z,Z,hs,Z,pb,B,_,_,Z,Z,hb,ix.1,ix.2,lB,⟨_,Z,ps,_,_,_,Z,Z,hs,Z,Z,_,Z,dB ⟨_,Z,ps,_,_,_,Z,Z,hs,Z,Z,_,Z,dB ⟨_,Z,d,dx,fs,Z,hd,fld _ (),_,Z,_,Z,_,Z,.inl ⟨Z,_,bD.of hb⟩,_,Z,ps,_,_,_,Z,Z,hs,Z,pb,B,_,_,Z,Z,hb,iy.1,iy.2,lB,_,Z,?_⟩⟩⟩⟩;show⟨_,Z,ps,_,Z,hs,(λz=>absurd z.1 (show ¬(1:Nat)=0 by decide)),λpt H1 n1=>?_⟩;let s1:=n1.same;show⟨d,a,pt,m,_,_,(x,y),st,Z,Qn.keep (λc o _ _ e=>s1 c o e) hD,ha.keep (.of s1),ok,m5,?_,?_,a3Y hx hy ne,ti,n1.here,λr xs H' s' h1 h2=>q r xs H' (s1.trans s') h1 h2⟩
  ·grind
  grind
end
abbrev jH:Stmt:=top 25
def mF:bN ["question","table","source","step","bag","old","row","state","amount"] Im (aG jH):={}
section
variable{P:Program}{w:World}{mg:Str->Option Value}{base:Heap}{κ:Type} [DecidableEq κ]
def Nd(H H':Hp):Prop:=∀c o,(∀J,o≠.dT J)->(∀φ,o≠.ext φ)->H c=some o->H' c=some o
def Nd.trans{H' SN:Hp}(a:Nd H H')(b:Nd H' SN):Nd H SN:=λc o n m h=>b c o n m (a c o n m h)
def Nd.of{H':Hp}(a:aL H H'):Nd H H':=λc o _ _ h=>a c o h
def Nd.sd{t:Addr}{H':Hp}{J:List (aS×V)}(a:Sd t H H')(h:H t=some (.dT J)):Nd H H':=λc o n _ e=>a c o (λz=>by grind) e
def Nd.gP{t:Addr}{J:List (aS×V)}{u:HO}(h:H t=some (.dT J)):Nd H (cU H t u):=λc o n _ e=>by
 rw[aR (λz=>by grind)];show e
def Nd.O1{t:Addr}{ob:Obj}{J:List (aS×V)}{u:HO}(h:H t=some (.gP ob (.dT J)))(c:Addr)(ys:af)(e:H c= ~~~ys):cU H t u c= ~~~ys:=by
 rw[aR (λz=>by grind)];show e
def Nd.tups{H':Hp}(a:Nd H H'):lG H H':=λc ys e=>a c _ (λ_ z=>by cases z) (λ_ z=>by cases z) e
def Nd.lst{H H':Hp}(a:Nd H H'){c:Addr}{ys:af}(e:H c=↥ys):H' c=↥ys:=a c _ (λ_ z=>by cases z) (λ_ z=>by cases z) e
def Nd.sqt{H':Hp}(a:Nd H H'){c:Addr}{ys:af}(e:cJ K H c ys):cJ K H' c ys:=by
 rcases e with(e|⟨o,e⟩)|e
 ·show .inl (.inl (a c _ (λ_ z=>by cases z) (λ_ z=>by cases z) e))
 ·show .inl (.inr ⟨o,a c _ (λ_ z=>by cases z) (λ_ z=>by cases z) e⟩)
 ·show .inr e
def Nd.at(Qn:J7 P w K mg base κ){H':Hp}{d:Addr}(a:Nd H H')(h:Qn.At H d):Qn.At H' d:=Qn.keep a h
def qj(bt:Int->Int->Bool)(old:dW)(row:gk):List (dW×Int)->b7->b7
 | [],T=>T
 |x::l,T=>qj bt old row l (nR bt T x.1 ⟨row.m,row.b+x.2,[old]⟩)
def sY(pq:PQ κ)(jM:bT)(B:ae):b7->b7->b7
 | [],T=>T
 |x::S,T=>sY pq jM B S (qj pq.bt x.1 x.2 (Wh pq x.1 jM B) T)
theorem Bo(bt:Int->Int->Bool)(old:dW)(row:gk)(x:dW×Int):∀(l:List (dW×Int)) (T:b7),qj bt old row (l++[x]) T=nR bt (qj bt old row l T) x.1 ⟨row.m,row.b+x.2,[old]⟩
 | [],_=>rfl
 |_::l,T=>Bo bt old row x l _
theorem IK(pq:PQ κ)(jM:bT)(B:ae)(x:dW×gk):∀(S T:b7),sY pq jM B (S++[x]) T=qj pq.bt x.1 x.2 (Wh pq x.1 jM B) (sY pq jM B S T)
 | [],_=>rfl
 |_::S,T=>IK pq jM B x S _
def a3Z(pq:PQ κ)(jM:bT)(B:ae)(S T:b7):Prop:=∀i,i<=S.length->∀x,S[i]?=some x->∀j,j<=(Wh pq x.1 jM B).length->(qj pq.bt x.1 x.2 ((Wh pq x.1 jM B).take j) (sY pq jM B (S.take i) T)).length<=4000
inductive Ł(Qn:J7 P w K mg base κ)(vs:af)(H:Hp)(Q:VK)(u_3:XK):Prop
 |mk (d t sc ps pb:Addr) (J mR:List (aS×V)) (T S:b7) (jM:bT) (B:ae) (m:Nat) (_:vs=[.ref d,.ref t,.ref sc,.ref ps,.ref pb]) (_:Qn.At H d) (_:H t=some (.dT J)) (_:pN H J T) (_:H sc=some (.dT mR)) (_:pN H mR S) (_:t≠sc) (_:(∀x∈S,Qn.pq.Ok m x.1)) (_:cJ K H ps jM.vs) (_:H pb=↥(B.map V.int)) (_:Gs Qn jM B m) (_:S.length<=4000) (_:a3Z Qn.pq jM B S T) (_:∀kvs' H',Sd t H H'->H' t=some (.dT kvs')->pN H' kvs' (sY Qn.pq jM B S T)->Q .non H')
def Wj{P:Nat->St->Hp->Prop}{R:Prop}(h:∀Z97:Nat->St->Hp->Prop,(∀i σ H,P i σ H->Z97 i σ H)->(∀i σ H,Z97 i σ H->P i σ H)->R):R:=h P (λ_ _ _ z=>z) (λ_ _ _ z=>z)
def Ka(Qn:J7 P w K mg base κ)(wC:Dn K mg "states_behind" fQ Ez)(qO:Dn K mg "note" uL Bf)(yx:Dn K mg "fill_along" jH Im):⋯ 10 yx.f yx.fd Im (Ł Qn):=by
 let a7V:⋯ 9 _ _ _ _:=Dw Qn wC;let a4a:⋯ 9 _ _ _ _:=X6 Qn qO;show yx.F.ok mF λd7 A outer s H vs Q E hr h=>?_;let⟨d,t,sc,ps,pb,J,mR,T,S,jM,B,m,rfl,hD,ht,hT,hsc,hS,nts,ł,hs,hb,fit,lS,lim,q⟩:=h;show⟨_,(aF (vd (gQ gH Z (rK (nP (K:=K) Z rN Ck Cm rJ (pv 2))) (jr (K:=K) (n:=2) Z Z (bQ (aM 5 mF.nd) (bQ (aM 6 mF.nd) iD)))
   (aF (gQ gH Z (eE (K:=K) Z (bx a7V hr Z wC.m wC.F.kp wC.b .nil bZ (O (pv 0) (O (pv 5) (O (pv 3) (O (pv 4) aj)))))) (jr (K:=K) (n:=2) Z Z (bQ (aM 7 mF.nd) (bQ (aM 8 mF.nd) iD)))
   (aF (fL (bx a4a hr Z qO.m qO.F.kp qO.b .nil bZ (O (pv 0) (O (pv 1) (O (pv 7) (O (bL (O (aP (aO (K:=K) Z) (pv 6) aq) (O (bh cX (aP (aO (K:=K) Z) (pv 6) aq) (pv 8)) (O (bL (O (pv 5) aj)) aj)))) aj)))))))))))),?_⟩
 show⟨_,Z,.inr (.inr (.inl ⟨Z,.inr ⟨_,hsc⟩⟩)),sc,mR,Z,Z,hsc,λpv H1 n1=>⟨pv,sc,mR,Z,n1.here,n1.same _ _ hsc,λo as pk=>?_⟩⟩;let h1s:=n1.same _ _ hsc;let SQ:Nd H (cU H1 sc (.gP o (.dT mR))):=(Nd.of n1.same).trans (Nd.gP h1s);let g0s:cU H1 sc (.gP o (.dT mR)) sc=some (.gP o (.dT mR)):=dG;let SX:cU H1 sc (.gP o (.dT mR)) t=some (.dT J):=by rw[aR nts];show n1.same _ _ ht
 let Yb:∀c,c≠sc->cU H1 sc (.gP o (.dT mR)) c=H1 c:=λc hc=>aR hc;generalize cU H1 sc (.gP o (.dT mR))=G0 at pk SQ g0s SX Yb ⊢;let lk:=aW hS;let la:=aW pk;show Wj (P:=λi σ G=>P4 (T4 (λo5 o6 o7 o8=>[⇑d,⇑t,⇑sc,⇑ps,⇑pb,o5,o6,o7,o8]) σ) (Sd t G0 G) (λkt=>G t=some (.dT kt)) λkt=>pN G kt (sY Qn.pq jM B (S.take i) T)) λZ97 ji ij=>sU Z97 (ji _ _ _ ⟨⟨_,_,_,_,Z⟩,.refl,J,SX,hT.keep SQ.tups⟩) (λi σ G _ h=>(ij _ _ _ h).s _ _ (Ne.symm nts) g0s) ?_ ?_
 ·intro i a0 v0 σ G p G1 ha0 hv0 h nw;let⟨⟨o5,o6,o7,o8,rfl⟩,sG,kt,hkt,O5⟩:=ij _ _ _ h;let⟨kv,hkv,hak⟩:=bB pk ha0;let⟨⟨old,row⟩,hsx,ek,hrow⟩:=bB hS hkv;let ek:kv.1=sX old:=ek;let hv0':v0=kv.2:=by
   rw[cH,hkv]at hv0;show(dI hv0).symm
  subst hv0';rw[ek]at hak;let nG:Nd G0 G:=.sd sG SX;let n1':aL G G1:=nw.same;let Ń:Nd G0 G1:=nG.trans (.of n1');let nH1:Nd H G1:=SQ.trans Ń;let hold:oO G1 a0 old:=oO.Iu (Ń.tups _ _ hak);let yM:J6 G1 kv.2 row:=hrow.keep nH1.tups;let mem:(old,row)∈S:=gF hsx;show⟨p,_,Z,cJ.of nw.here,Z,_,_,Z,_,_,Z,Z,⟨_,Z,_,Z,_,Z,_,Z,d,a0,ps,pb,old,jM,B,m,Z,nH1.at Qn hD,hold,ł _ mem,nH1.sqt hs,nH1.lst hb,fit,λr xs G2 s2 hr2 pm=>⟨r,Z,⟨_,bD.of hr2⟩,?_⟩⟩⟩;let hT2:pN G2 kt (sY Qn.pq jM B (S.take i) T):=O5.keep (lG.of (n1'.trans s2));let ht2:G2 t=some (.dT kt):=(n1'.trans s2) _ _ hkt;let lpm:=aW pm;let a7W:=lim i (eY (eG.mp hsx).1) _ hsx;let hTi:S.take (i+1)=S.take i++[(old,row)]:=by rw[iz,hsx];rfl
  show Wj (P:=λj σ G'=>P4 (T2 (λo7 o8=>[⇑d,⇑t,⇑sc,⇑ps,⇑pb,⇑a0,some kv.2,o7,o8]) σ) (Sd t G2 G') (λRi=>G' t=some (.dT Ri)) λRi=>pN G' Ri (qj Qn.pq.bt old row ((Wh Qn.pq old jM B).take j) (sY Qn.pq jM B (S.take i) T))) λJ2 ji2 ij2=>sy (K:=K) (a:=r) (xs:=xs) J2 (ji2 _ _ _ ⟨⟨_,_,Z⟩,.refl,kt,ht2,hT2⟩) (λj σ G' _ h=>bD.of ((Nd.sd (ij2 _ _ _ h).s ht2).lst hr2)) ?_ ?_
  ·intro j x σ G' hx h2;let⟨⟨o7,o8,rfl⟩,Yc,Ri,O6,hT'⟩:=ij2 _ _ _ h2;let⟨⟨st',am⟩,hmx,pp,aa,rfl,Dz,haa⟩:=bB pm hx;let n2':Nd G2 G':=.sd Yc ht2;let nHG:Nd H G':=nH1.trans ((Nd.of s2).trans n2');let⟨pr,qr,asr,Wk,hpr,hqr,hsr⟩:=yM.keep ((lG.of s2).trans n2'.tups);show⟨pp,_,Z,cJ.of (n2'.tups _ _ Dz),Z,_,_,Z,_,_,Z,Z,?_⟩;rw[Wk];show⟨_,Z,_,Z,_,Z,_,Z,pr,_,_,.int row.m,Z,Z,cJ.of hpr,Z,_,Z,pr,_,_,.int row.b,Z,Z,cJ.of hpr,Z,_,Z,_,_,Z,Z,_,Z,(),λq1 G3 m3=>⟨(),λq2 G4 m4=>?_⟩⟩;let K8:=m3.same.trans m4.same;let a6c:oO G4 a0 old:=hold.keep ((lG.of s2).trans (n2'.tups.trans (.of K8)));show⟨d,t,aa,.ref q2,Ri,_,st',⟨row.m,row.b+am,[old]⟩,Z,(nHG.trans (.of K8)).at Qn hD,K8 _ _ O6,hT'.keep (.of K8),?_,haa.keep (n2'.tups.trans (.of K8)),⟨q2,q1,[a0],Z,m4.here,m4.same _ _ m3.here,.cons a6c .nil⟩,λZy G5 s5 h5 hT5=>?_⟩
   ·show a7W j (eY (eG.mp hmx).1)
   ·show ji2 _ _ _ ⟨⟨⇑aa,some (.int am),by rw[Wk];rfl⟩,Yc.trans ((Sd.of K8).trans s5),Zy,h5,?_⟩;rw[iz,hmx];show pN G5 Zy (qj Qn.pq.bt old row ((Wh Qn.pq old jM B).take j++[(st',am)]) _);rw[Bo];show hT5
  ·intro σ G' h2;let⟨⟨o7,o8,rfl⟩,Yc,Ri,O6,hT'⟩:=ij2 _ _ _ h2;show ji _ _ _ ⟨⟨_,_,_,_,Z⟩,sG.trans ((Sd.of (n1'.trans s2)).trans Yc),Ri,O6,?_⟩;rw[hTi,IK];rw[lpm,gw]at hT';show hT'
 ·intro σ G h;let⟨⟨o5,o6,o7,o8,rfl⟩,sG,kt,hkt,O5⟩:=ij _ _ _ h;let gs:=sG _ _ (Ne.symm nts) g0s;show⟨sc,o,mR,mR,hsc,gs,?_⟩;show q kt _ (λc u hc e=>?_) (by rw[aR nts];show hkt) ?_
  ·by_cases z:c=sc
   ·rw[z]at e ⊢;rw[dG,<-e,hsc]
   ·rw[aR z];show sG c u hc ?_;rw[Yb c z];show n1.same _ _ e
  ·rw[show S.take as.length=S by rw[la,lk,gw]]at O5;show O5.keep (Nd.O1 gs)
end
end K
namespace L2
open PyProof.Rows Bg
section
variable{X:Cx}{tg:Expr}
def a4b(td:TE):TI:=λσ H R=>td σ H λx H1=>∃d J,x=.ref d/\H1 d=some (.dT J)/\
 ∀o as,Paired (λa (kv:aS×V)=>(cU H1 d (.gP o (.dT J))) a= ~~~(kv.1.map kV)) as J->R (Itp o d (.dT J) as) (cU H1 d (.gP o (.dT J)))
def ń{l:Expr}{td:TE}(hl:PE X l td):PI X tg l (a4b td):=by
 intro Y s σ H R I h;show jC (hl Y s σ H _ I h) λv s1 ⟨x,H1,I1,r1,q1⟩=>?_;let⟨d,J,e,hd,q⟩:=q1;subst e;cases r1;let⟨_,hs,xs,rel,o,es,ep,ho,hx,hdt,hes,_,_⟩:=Ew I1.hok hd;let I2:bG X Y σ (cU H1 d (.gP o (.dT J))) s1:=I1.OJ hd (λ_ z=>by cases z) (λ_ z=>by cases z) (λ_ z=>by cases z) (I1.Q5 hd λ_ _ z=>by cases z) ⟨ho,I1.hok d _ hd⟩;let ek:es.toList.map (·.key)=(xs.map λx=>x.2.1).map Value.ref:=by rw[hes,lY,lY];rfl
 let pk:Paired (λa (kv:aS×V)=>(cU H1 d (.gP o (.dT J))) a= ~~~(kv.1.map kV)) (xs.map λx=>x.2.1) J:=by
  let go:∀{ks:List (aS×V)}{ys:List (aS×Addr×Value)},KT H1 ks ys->Paired (λa (kv:aS×V)=>(cU H1 d (.gP o (.dT J))) a= ~~~(kv.1.map kV)) (ys.map λx=>x.2.1) ks:=λ{ks ys} r=>by
   induction r with
   |nil=>show .nil
   | @cons kv y _ _ a _ ih =>
    show .cons ?_ ih;let nb:y.2.1≠d:=λz=>by grind
    rw[aR nb];show a.2.1
  show go rel
 show Dq.Bd hs ho hx hdt ⟨s1⁻¹,[s1⁻¹],_,_,_,Z,I2.kept (t':=s1.toks) λb o e=>bM _ e,V7 d _ hdt ek,cB _ Z,λb hb=>?_,q o _ pk⟩;let e:b=s1⁻¹:=()
 subst e;show I2.Fx (aK _) (I2.hok.fresh (aK _))
end
def Zz{o:Obj}{d:Addr}{u:HO}{as:aI}{g:TG}{tb:TS}{D:Ends}{σ:St}{H:Hp}(Pv:Nat->St->Hp->Prop)(h0:Pv 0 σ H)(hl:∀i σ H,i<=as.length->Pv i σ H->H d=some (.gP o u))
  (hs:∀(i:Nat) a σ H,as[i]?=some a->Pv i σ H->g (.ref a) σ H λσ2 H2=>tb { D with nx:=Pv (i+1),ct:=Pv (i+1),bk:=D.nx} σ2 H2) (hd:∀σ H,Pv as.length σ H->D.nx σ H) :
  ∃W:Nat->Nat->St->Hp->Prop,(∃m,W 0 m σ H)/\∀i m σ H,W i m σ H->
   ((Itp o d u as).stop i H/\D.nx σ H)\/((Itp o d u as).go i H/\∃N:St->Hp->Prop,(∀σ' H',N σ' H'->∃m',m'<m/\W (i+1) m' σ' H')/\∀x H',(Itp o d u as).W9 i H x H'->g x σ H' λσ2 H2=>tb { D with nx:=N,ct:=N,bk:=D.nx} σ2 H2):=by
 show⟨λi m σ H=>m=as.length-i/\i<=as.length/\Pv i σ H,⟨as.length,by simp,dF _,h0⟩,?_⟩;rintro i m σ H ⟨rfl,hi,p⟩;let q1:=hl i σ H hi p;by_cases hlt:i<as.length
 ·show .inr ⟨⟨q1,hlt⟩,Pv (i+1),λσ' H' p'=>⟨as.length-(i+1),(),Z,hlt,p'⟩,λx H' y=>?_⟩;let⟨eH,ex⟩:=y;subst eH;rw[cH,bI hlt]at ex;cases ex;show hs i as[i] σ H' (bI hlt) p
 ·let e:i=as.length:=()
  subst e;show .inl ⟨⟨q1,Z⟩,hd σ H p⟩
section
variable{X:Cx}
def Ņ(i j:Int):Prop:=i.natAbs<2^4000/\j.natAbs<2^4000
def K9{k:Int}(h:k.natAbs<2^4000):Builtin.Int.intBits k<=4000:=by
 unfold Builtin.Int.intBits;split
 ·grind
 ·let:k.natAbs.log2<4000:=by
   rcases Nat.eq_zero_or_pos k.natAbs with h0|hp
   ·rw[h0];decide
   ·show(Nat.log2_lt (iM hp)).mpr h
  omega
def Ņ.ok{i j:Int}(h:Ņ i j):IntMulOk i j:=by
 let h1:=K9 h.1;let h2:=K9 h.2;let:Builtin.Int.intTooBig ((Builtin.Int.intBits i:Int)+(Builtin.Int.intBits j:Int))=false:=by
  unfold Builtin.Int.intTooBig;show cI ?_;let e:((bitsLine:Nat):Int)=134217728:=()
  grind
 unfold IntMulOk;rw[this,Bool.and_false];show cN
def Yd:qY X (binaryOp .Mult) (rI Ņ λi j=>.int (i*j)):=opI λ_ _ _ _ _ _ _ hc q=>mul_int q hc.ok
end
end L2
namespace K
open L2 Lw Bg
variable{P:Program}{w:World}{mg:Str->Option Value}{base:Heap}{ex:aI}{F:Hp}{pa:Addr}
section
variable{κ:Type} [DecidableEq κ]
def xK(bt:Int->Int->Bool)(fU cP:dW)(row more:gk):List dW->b7->b7
 | [],T=>T
 |x::l,T=>xK bt fU cP row more l (nR bt T x ⟨row.m*more.m,row.b+more.b,[fU,cP]⟩)
def vh(pq:PQ κ)(fU:dW)(row:gk):b7->b7->b7
 | [],T=>T
 |x::A,T=>vh pq fU row A (xK pq.bt fU x.1 row x.2 (pq.jn fU x.1) T)
noncomputable def jB(pq:PQ κ)(fU:dW)(A:b7):b7:=A.filter λx=>decide (pq.sh x.1=pq.sh fU)
def sZ(pq:PQ κ)(A:b7):b7->b7->b7
 | [],T=>T
 |x::S,T=>sZ pq A S (vh pq x.1 x.2 (jB pq x.1 A) T)
theorem IV(bt:Int->Int->Bool)(fU cP:dW)(row more:gk)(x:dW):∀(l:List dW) (T:b7),xK bt fU cP row more (l++[x]) T=nR bt (xK bt fU cP row more l T) x ⟨row.m*more.m,row.b+more.b,[fU,cP]⟩
 | [],_=>rfl
 |_::l,T=>IV bt fU cP row more x l _
theorem IW(pq:PQ κ)(fU:dW)(row:gk)(x:dW×gk):∀(A T:b7),vh pq fU row (A++[x]) T=xK pq.bt fU x.1 row x.2 (pq.jn fU x.1) (vh pq fU row A T)
 | [],_=>rfl
 |_::A,T=>IW pq fU row x A _
theorem join_snoc(pq:PQ κ)(A:b7)(x:dW×gk):∀(S T:b7),sZ pq A (S++[x]) T=vh pq x.1 x.2 (jB pq x.1 A) (sZ pq A S T)
 | [],_=>rfl
 |_::S,T=>join_snoc pq A x S _
def a4c(pq:PQ κ)(A S T:b7):Prop:=∀i x,S[i]?=some x->∀j y,(jB pq x.1 A)[j]?=some y->∀l,l<=(pq.jn x.1 y.1).length->(xK pq.bt x.1 y.1 x.2 y.2 ((pq.jn x.1 y.1).take l) (vh pq x.1 x.2 ((jB pq x.1 A).take j) (sZ pq A (S.take i) T))).length<=4000
noncomputable def tB(pq:PQ κ)(L:List (Addr×dW))(k:List κ):aI:=(L.filter λx=>decide (pq.sh x.2=k)).map (·.1)
def La(pq:PQ κ)(L:List (Addr×dW))(x:Addr×dW)(k:List κ):tB pq (L++[x]) k=if pq.sh x.2=k then tB pq L k++[x.1]else tB pq L k:=by
 unfold tB;grind
def rH{J:List (List κ×V)}{k0:List κ}{v:V}(h:dh J k0=none)(k:List κ):dh (J++[(k0,v)]) k=if k0=k then some v else dh J k:=by
 unfold dh at h ⊢;rw[List.find?_append];by_cases c:k0=k
 ·subst c;rw[aB rfl];cases e:J.find? λkv=>decide (kv.1=k0)with
  |none=>rw[Option.none_or,rO (by show aV Z)];rfl
  |some y=>rw[e]at h;cases h
 ·rw[aA c,rP (by show λz=>c (dw z))];simp
end
section
variable{κ:Type} [DecidableEq κ]
structure Bp(knd:KeyKind P w κ)(pq:PQ κ)(F G:Hp)(pa:Addr)(L:List (Addr×dW))(J:List (List κ×V)):Prop where
 dx:DX knd G pa J
 len:J.length<=L.length
 val:∀k,(dh J k=none/\tB pq L k=[])\/∃l,dh J k=⇑l/\G l=↥((tB pq L k).map V.ref)
 inj:∀k k' l,dh J k=⇑l->dh J k'=⇑l->k=k'
 fr:∀k l,dh J k=⇑l->F l=none
def ņ(pq:PQ κ)(L:List (Addr×dW))(k:List κ):(tB pq L k).length<=L.length:=by
 unfold tB;grind
def Rj{knd:KeyKind P w κ}{H H':Hp}{a:Addr}{J:List (List κ×V)}(e:∀c o,(∀ys,o≠.lst ys)->H c=some o->H' c=some o)(h:DX knd H a J):DX knd H' a J:=by
 obtain⟨z,h|⟨xs,h1,h2⟩⟩:=h
 ·show⟨z,.inl ⟨h.1,e _ _ (λ_ z=>by cases z) h.2⟩⟩
 ·show⟨z,.inr ⟨xs,e _ _ (λ_ z=>by cases z) h1,Paired.cA h2 λ_ _ ⟨a,b,c⟩=>⟨a,b.same λ_ _ q=>e _ _ (λ_ z=>by cases z) q,c⟩⟩⟩
def O7{knd:KeyKind P w κ}{H:Hp}{a:Addr}{J:List (List κ×V)}(h:DX knd H a J){ys:af}:H a≠↥ys:=λe=>by
 obtain⟨z,h|⟨xs,h1,h2⟩⟩:=h
 ·grind
 grind
def Bp.same{knd:KeyKind P w κ}{pq:PQ κ}{F G G':Hp}{pa:Addr}{L:List (Addr×dW)}{J:List (List κ×V)}(I:Bp knd pq F G pa L J)(s:aL G G'):Bp knd pq F G' pa L J :=
 ⟨I.dx.same s,I.len,λk=>(I.val k).imp id λ⟨l,h1,h2⟩=>⟨l,h1,s _ _ h2⟩,I.inj,I.fr⟩
def a07{knd:KeyKind P w κ}{pq:PQ κ}{G G3:Hp}{L:List (Addr×dW)}{J:List (List κ×V)}{l a0:Addr}{st:dW}(I:Bp knd pq F G pa L J)(hv:dh J (pq.sh st)=⇑l)(c:vB G l (.lst ((tB pq L (pq.sh st)).map V.ref++[.ref a0])) G3)(hl:∃ys,G l=↥ys):Bp knd pq F G3 pa (L++[(a0,st)]) J:=by
 let⟨ys,hl⟩:=hl;show⟨Rj (λb o nl e=>?_) I.dx,by rw[cu];let:=I.len;omega,λk=>?_,I.inj,I.fr⟩
 ·rw[c.rest b (λz=>by grind)];show e
 ·rw[La];by_cases ck:pq.sh st=k
  ·subst ck;rw[aB rfl];show .inr ⟨l,hv,?_⟩;rw[c.here,cW];rfl
  ·rw[aA ck];show(I.val k).imp id λ⟨l',h1,h2⟩=>⟨l',h1,?_⟩;rw[c.rest l' (λz=>ck (I.inj _ _ l hv ()))];show h2
def a08{knd:KeyKind P w κ}{pq:PQ κ}{G H' G3:Hp}{L:List (Addr×dW)}{J:List (List κ×V)}{l0 a0:Addr}{st:dW}(I:Bp knd pq F G pa L J)(hv:dh J (pq.sh st)=none)(hl:G l0=↥[])(fl:F l0=none)(nl:∀k l,dh J k=⇑l->l≠l0)(hh:∀c,c≠pa->H' c=G c)(dx:DX knd H' pa (J++[(pq.sh st,.ref l0)]))(c:vB H' l0 (.lst ([]++[.ref a0])) G3):Bp knd pq F G3 pa (L++[(a0,st)]) (J++[(pq.sh st,.ref l0)]):=by
 let npa:l0≠pa:=λz=>O7 I.dx (ys:=[]) ();let hl':H' l0=↥[]:=()
 let lk0:tB pq L (pq.sh st)=[]:=by
  rcases I.val (pq.sh st)with h|⟨l,h,_⟩
  ·show h.2
  grind
 show⟨Rj (λb o nl e=>?_) dx,by rw[cu,cu];let:=I.len;simp;omega,λk=>?_,λk k' l h h'=>?_,λk l h=>?_⟩
 ·rw[c.rest b (λz=>by grind)];show e
 ·rw[La,rH hv];by_cases ck:pq.sh st=k
  ·subst ck;rw[aB Z,aB Z,lk0];show .inr ⟨l0,Z,c.here⟩
  ·rw[aA ck,aA ck];show(I.val k).imp id λ⟨l',h1,h2⟩=>⟨l',h1,?_⟩;rw[c.rest l' (nl k l' h1),hh l' (λz=>O7 I.dx (by rw[<-z];show h2))];show h2
 ·rw[rH hv]at h h';by_cases ck:pq.sh st=k
  ·grind
  ·by_cases ck':pq.sh st=k'
   ·grind
   ·rw[aA ck]at h;rw[aA ck']at h';show I.inj _ _ _ h h'
 ·rw[rH hv]at h;by_cases ck:pq.sh st=k
  ·grind
  ·rw[aA ck]at h;show I.fr _ _ h
def Bp.O1{knd:KeyKind P w κ}{pq:PQ κ}{G G':Hp}{L:List (Addr×dW)}{J:List (List κ×V)}(I:Bp knd pq F G pa L J)(e:∀c o,(∀ob u,o≠.gP ob u)->G c=some o->G' c=some o):Bp knd pq F G' pa L J:=by
 show⟨?_,I.len,λk=>(I.val k).imp id λ⟨l,h1,h2⟩=>⟨l,h1,e _ _ (λ_ _ z=>by cases z) h2⟩,I.inj,I.fr⟩;obtain⟨z,h|⟨xs,h1,h2⟩⟩:=I.dx
 ·show⟨z,.inl ⟨h.1,e _ _ (λ_ _ z=>by cases z) h.2⟩⟩
 ·show⟨z,.inr ⟨xs,e _ _ (λ_ _ z=>by cases z) h1,Paired.cA h2 λ_ _ ⟨a,b,c⟩=>⟨a,b.same λ_ _ q=>e _ _ (λ_ _ z=>by cases z) q,c⟩⟩⟩
def Rk{R:Addr->dW×gk->Prop}(pq:PQ κ)(k:List κ){as:aI}{A:b7}(h:Paired R as A):Paired R (tB pq (as.zip (A.map (·.1))) k) (A.filter λx=>decide (pq.sh x.1=k)):=by
 induction h with
 |nil=>show .nil
 | @cons a x as A h t ih =>
  unfold tB at ih ⊢;rw[cC,List.zip_cons_cons];by_cases c:pq.sh x.1=k
  ·rw[GF (by show aV c),GF (by show aV c),cC];show .cons h ih
  grind
theorem Ja:∀{A:b7}{x:dW×gk},(A.map (·.1)).Nodup->x∈A->zy A x.1=some x.2
 |y::A,x,nd,h=>by
  unfold zy
  rw[cC,je]at nd
  rcases bO.mp h with rfl|h
  ·grind
  ·rw[rP ()]
   show Ja nd.2 h
end
abbrev gW:Stmt:=top 27
def gC:bN ["question","table","source","another","alike","other","one","row","more","state"] Io (aG gW):={}
section
variable{K:aJ}{κ:Type} [DecidableEq κ]
def Jb(T:b7):Prop:=∀x∈T,x.2.m.natAbs<2^4000
inductive a09(Qn:J7 P w K mg base κ)(vs:af)(H:Hp)(Q:VK)(u_3:XK):Prop
 |mk (d t sc an:Addr) (J mR vo:List (aS×V)) (T S A:b7) (m:Nat) (_:vs=[.ref d,.ref t,.ref sc,.ref an]) (_:Qn.At H d) (_:H t=some (.dT J)) (_:pN H J T) (_:H sc=some (.dT mR)) (_:pN H mR S) (_:H an=some (.dT vo)) (_:pN H vo A) (_:t≠sc) (_:t≠an) (_:sc≠an) (_:(∀x∈S,Qn.pq.Ok m x.1)) (_:(∀x∈A,Qn.pq.Ok m x.1)) (_:m<=4) (_:(A.map (·.1)).Nodup) (_:S.length<=4000) (_:A.length<=900) (_:Jb S) (_:Jb A) (_:a4c Qn.pq A S T) (_:∀kvs' H',Sd t H H'->H' t=some (.dT kvs')->pN H' kvs' (sZ Qn.pq A S T)->Q .non H')
def Jc(Qn:J7 P w K mg base κ)(qO:Dn K mg "note" uL Bf)(xM:Dn K mg "fill_joined" gW Io):⋯ 10 xM.f xM.fd Io (a09 Qn):=by
 let Jd:⋯ 9 _ _ _ _:=Qn.vf.ok.mono ();let Wl:⋯ 9 _ _ _ _:=Qn.Bk.ok.mono ();let a4a:⋯ 9 _ _ _ _:=X6 Qn qO;show xM.F.ok gC λd7 A' outer s H vs Q E hr h=>?_;let⟨d,t,sc,an,J,mR,vo,T,S,A,m,rfl,hD,ht,hT,hsc,hS,han,hA,nts,nta,nsa,ł,okA,m5,ndA,lS,lA,smS,smA,lim,q⟩:=h;let hw1:(A'.deeper (PyProof.Rows.envOfC "fill_joined" (aG gW) s⁻¹ xM.f d7)).units+1<cLine:=by let:=hr.un;omega
 show⟨_,(aD (aX 4 gC.nd Ii)
   (aD (vd (gQ gH Z (ń (pv 3)) (aM 5 gC.nd)
   (aF (fL (iR (K:=K) Z jc PySem.F.slot_list_append PySem.F.type_list_append fC (ķ Qn.knd PySem.F.plainAttrs_dict PySem.F.slot_dict_setdefault PySem.F.type_dict_setdefault (Il Qn.knd hw1) (pv 4) (O (vQ (pv 0) Qn.cl Qn.vf.mt Jd hr Qn.vf.b .nil bZ (O (pv 5) aj)) (O (cF aj) aj))) (O (pv 5) aj))))))
   (aF (vd (gQ gH Z (rK (nP (K:=K) Z rN Ck Cm rJ (pv 2))) (jr (K:=K) (n:=2) Z Z (bQ (aM 6 gC.nd) (bQ (aM 7 gC.nd) iD)))
   (aF (gQ gH Z (eE (K:=K) Z (ķ Qn.knd rN Cu TX (a0Z Qn.knd hw1) (pv 4) (O (vQ (pv 0) Qn.cl Qn.vf.mt Jd hr Qn.vf.b .nil bZ (O (pv 6) aj)) (O (cF aj) aj)))) (aM 5 gC.nd)
   (aD (aX 8 gC.nd (yj hw1 (pv 3) (pv 5) λ_ _=>rfl))
   (aF (gQ gH Z (eE (K:=K) Z (vQ (pv 0) Qn.cl Qn.Bk.mt Wl hr Qn.Bk.b .nil bZ (O (pv 6) (O (pv 5) aj)))) (aM 9 gC.nd)
   (aF (fL (bx a4a hr Z qO.m qO.F.kp qO.b .nil bZ (O (pv 0) (O (pv 1) (O (pv 9) (O (bL (O (bh Yd (aP (aO (K:=K) Z) (pv 7) aq) (aP (aO (K:=K) Z) (pv 8) aq)) (O (bh cX (aP (aO (K:=K) Z) (pv 7) aq) (aP (aO (K:=K) Z) (pv 8) aq)) (O (bL (O (pv 6) (O (pv 5) aj))) aj)))) aj))))))))))))))))),?_⟩
 show λpa hpa=>?_;let n1:=iG.nD (o:=.dT []) hpa;generalize cU H pa (.dT [])=H1 at n1 ⊢;let h1a:=n1.same _ _ han;show⟨_,Z,an,vo,Z,h1a,λo as pk=>?_⟩;let npa:pa≠an:=λz=>by let:=n1.fresh;rw[z,han]at this;cases this
 let npt:pa≠t:=λz=>by let:=n1.fresh;rw[z,ht]at this;cases this
 let nps:pa≠sc:=λz=>by let:=n1.fresh;rw[z,hsc]at this;cases this
 let SQ:Nd H (cU H1 an (.gP o (.dT vo))):=(Nd.of n1.same).trans (Nd.gP h1a);let g0a:cU H1 an (.gP o (.dT vo)) an=some (.gP o (.dT vo)):=dG;let g0p:cU H1 an (.gP o (.dT vo)) pa=some (.dT []):=by rw[aR npa];show n1.here
 let Yb:∀c,c≠an->cU H1 an (.gP o (.dT vo)) c=H1 c:=λc hc=>aR hc;generalize cU H1 an (.gP o (.dT vo))=G0 at pk SQ g0a g0p Yb ⊢;let lk:=aW hA;let la:=aW pk;obtain⟨L,hL⟩:∃L:List (Addr×dW),L=as.zip (A.map (·.1)):=⟨_,Z⟩;let lL:L.length=as.length:=by rw[hL,List.length_zip,aH];omega
 let atL:∀i a0,as[i]?=some a0->∃st more,A[i]?=some (st,more)/\L[i]?=some (a0,st)/\G0 a0= ~~~((sX st).map kV):=λi a0 ha0=>by
  let⟨kv,hkv,hak⟩:=bB pk ha0;let⟨⟨st,more⟩,hsx,ek,hrow⟩:=bB hA hkv;let ek:kv.1=sX st:=ek;rw[ek]at hak;show⟨st,more,hsx,?_,hak⟩;rw[hL,List.getElem?_zip_eq_some];show⟨ha0,by rw[cH,hsx];rfl⟩
 show Wj (P:=λi σ G=>P3 (T1 (λo5=>[⇑d,⇑t,⇑sc,⇑an,⇑pa,o5,none,none,none,none]) σ) (Sd pa G0 G) λka=>Bp Qn.knd Qn.pq G0 G pa (L.take i) ka) λZ97 ji ij=>Zz Z97 (ji _ _ _ ⟨⟨_,Z⟩,.refl,[],⟨DX.new g0p,by simp,λk=>.inl ⟨Z,Z⟩,λk k' l h=>(by cases h),λk l h=>(by cases h)⟩⟩) (λi σ G _ h=>(ij _ _ _ h).s _ _ (Ne.symm npa) g0a) ?_ ?_
 ·intro i a0 σ G ha0 h1;let⟨⟨o5,rfl⟩,sG,ka,hK⟩:=ij _ _ _ h1;let⟨st,more,hAi,hLi,hak⟩:=atL i a0 ha0;let nG:Nd G0 G:=.sd sG g0p;let nHG:Nd H G:=SQ.trans nG;let hDG:=nHG.at Qn hD;let⟨dx',fs,hd,nom,_⟩:=Qn.ins hDG;let hst:oO G a0 st:=oO.Iu (nG.tups _ _ hak);let hTi:L.take (i+1)=L.take i++[(a0,st)]:=by rw[iz,hLi];rfl
  let li:(L.take i).length<=900:=by rw[dY];omega
  show⟨_,Z,⟨pa,ka,Z,hK.dx⟩,_,Z,d,dx',fs,Z,hd,nom _ (),_,Z,d,a0,m,st,Z,hDG,hst,okA _ (gF hAi),m5,λb G1 s1 hk=>⟨(),λl0 G2 n2=>?_⟩⟩;let s2:=s1.trans n2.same;let ZC:=hK.same s2;let lk0:=hK.len;show⟨pa,b,Qn.pq.sh st,ka,.ref l0,Z,Z,hk.same λ_ _ z=>n2.same _ _ z,ZC.dx,(),λy hy=>?_,λhn H' hh dxn=>?_⟩
  ·rcases ZC.val (Qn.pq.sh st)with h|⟨l,h1,h2⟩
   ·rw[h.1]at hy;cases hy
   ·rw[h1]at hy;cases hy;show⟨.inl ⟨Z,_,bD.of h2⟩,_,Z,l,_,_,Z,Z,h2,?_,λG3 c3=>?_⟩
    ·rw[aH];let:=ņ Qn.pq (L.take i) (Qn.pq.sh st);omega
    ·show ji _ _ _ ⟨⟨_,Z⟩,λc u hc e=>?_,ka,by rw[hTi];show a07 ZC h1 c3 ⟨_,h2⟩⟩;rw[c3.rest c (λz=>by let:=ZC.fr _ _ h1;rw[<-z,e]at this;cases this)];show s2 _ _ (sG c u hc e)
  ·let ZD:l0≠pa:=λz=>O7 ZC.dx (ys:=[]) (by rw[<-z];show n2.here);let hl0:H' l0=↥[]:=by rw[hh l0 ZD];show n2.here
   show⟨.inl ⟨Z,_,bD.of hl0⟩,_,Z,l0,[],_,Z,Z,hl0,(),λG3 c3=>?_⟩;let fl:G0 l0=none:=by
    cases e:G0 l0 with
    |none=>rfl
    |some u =>
     let h1:=s1 _ _ (sG l0 u ZD e);let h2:=n2.fresh;rw[h1]at h2;cases h2
   show ji _ _ _ ⟨⟨_,Z⟩,λc u hc e=>?_,_,by
    rw[hTi];show a08 ZC hn n2.here fl (λk l h z=>?_) hh dxn c3;rcases hK.val k with h'|⟨l',h1,h2⟩
    ·rw[h'.1]at h;cases h
    ·rw[h1]at h;cases h;let h3:=s1 _ _ h2;let h4:=n2.fresh;rw[<-z,h3]at h4;cases h4⟩
   rw[c3.rest c (λz=>by rw[z,fl]at e;cases e),hh c hc];show s2 _ _ (sG c u hc e)
 intro σ G h1;let⟨⟨o5,rfl⟩,sG,ka,hK⟩:=ij _ _ _ h1;clear ji ij;let ga:=sG _ _ (Ne.symm npa) g0a;show⟨an,o,vo,vo,h1a,ga,?_⟩;let sF:aL H (cU G an (.dT vo)):=λc u e=>by
  let ncp:c≠pa:=λz=>by rw[z,n1.fresh]at e;cases e
  by_cases z:c=an
  ·rw[z]at e ⊢;rw[dG,<-e,han]
  ·rw[aR z];show sG c u ncp ?_;rw[Yb c z];show n1.same _ _ e
 rw[show L.take as.length=L by rw[<-lL,gw]]at hK;let hKF:Bp Qn.knd Qn.pq G0 (cU G an (.dT vo)) pa L ka:=hK.O1 λc u nf e=>by
  rw[aR (λz=>by rw[z,ga]at e;show nf _ _ (dI e).symm)];show e
 let zB:Paired (λa (x:dW×gk)=>oO (cU G an (.dT vo)) a x.1) as A:=by
  let go:∀{as:aI}{ks:List (aS×V)}{B:b7},Paired (λa (kv:aS×V)=>G0 a= ~~~(kv.1.map kV)) as ks->pN H ks B->Paired (λa (x:dW×gk)=>oO (cU G an (.dT vo)) a x.1) as B:=λ{as ks B} p=>by
   induction p generalizing B with
   |nil=>intro h;cases h;show .nil
   | @cons a kv as ks h1 _ ih =>
    intro h;cases h with
    | @cons _ tr _ B' h2 t2 =>
     show .cons ?_ (ih t2);let e:kv.1=sX tr.1:=h2.1;rw[e]at h1;show oO.Iu (Nd.O1 ga _ _ ((Nd.sd sG g0p).tups _ _ h1))
  show go pk hA
 generalize cU G an (.dT vo)=F at sF hKF zB ⊢;let a1a:=sF _ _ hsc;show⟨_,Z,.inr (.inr (.inl ⟨Z,.inr ⟨_,a1a⟩⟩)),sc,mR,Z,Z,a1a,λpv H2 n2=>⟨pv,sc,mR,Z,n2.here,n2.same _ _ a1a,λo2 as2 pk2=>?_⟩⟩;let s2:=sF.trans n2.same;let h2s:=s2 _ _ hsc;let Ze:Nd H (cU H2 sc (.gP o2 (.dT mR))):=(Nd.of s2).trans (Nd.gP h2s);let f0s:cU H2 sc (.gP o2 (.dT mR)) sc=some (.gP o2 (.dT mR)):=dG;let f0t:cU H2 sc (.gP o2 (.dT mR)) t=some (.dT J):=by rw[aR nts];show s2 _ _ ht
 let f0a:cU H2 sc (.gP o2 (.dT mR)) an=some (.dT vo):=by rw[aR (Ne.symm nsa)];show s2 _ _ han
 let f0r:∀c,c≠sc->cU H2 sc (.gP o2 (.dT mR)) c=H2 c:=λc hc=>aR hc;let ZC:Bp Qn.knd Qn.pq G0 (cU H2 sc (.gP o2 (.dT mR))) pa L ka:=by
  let h:=hKF.same n2.same;show⟨?_,h.len,λk=>(h.val k).imp id λ⟨l,h1,h2⟩=>⟨l,h1,?_⟩,h.inj,h.fr⟩
  ·obtain⟨z,hh|⟨xs,h1,h2⟩⟩:=h.dx
   ·show⟨z,.inl ⟨hh.1,?_⟩⟩;rw[aR nps];show hh.2
   ·show⟨z,.inr ⟨xs,?_,Paired.cA h2 λ_ _ ⟨a,b,c⟩=>⟨a,b.same λc' ys q=>?_,c⟩⟩⟩
    ·rw[aR nps];show h1
    ·rw[aR (λz=>by rw[z,h2s]at q;cases q)];show q
  ·rw[aR (λz=>by rw[z,h2s]at h2;cases h2)];show h2
 let a6d:Paired (λa (x:dW×gk)=>oO (cU H2 sc (.gP o2 (.dT mR))) a x.1) as A:=Paired.cA zB λa x h=>by
  show cU H2 sc (.gP o2 (.dT mR)) a=_;let h':H2 a= ~~~(x.1.map V.int):=n2.same _ _ h;rw[aR (λz=>by rw[z,h2s]at h';cases h')];show h'
 generalize cU H2 sc (.gP o2 (.dT mR))=F0 at pk2 Ze f0s f0t f0a f0r ZC a6d ⊢;let lk2:=aW hS;let la2:=aW pk2;show Wj (P:=λi σ G=>P4 (T5 (λo5 o6 o7 o8 o9=>[⇑d,⇑t,⇑sc,⇑an,⇑pa,o5,o6,o7,o8,o9]) σ) (Sd t F0 G) (λkt=>G t=some (.dT kt)) λkt=>pN G kt (sZ Qn.pq A (S.take i) T)) λZ97 ji ij=>sU Z97 (ji _ _ _ ⟨⟨_,_,_,_,_,Z⟩,.refl,J,f0t,hT.keep Ze.tups⟩) (λi σ G _ h=>(ij _ _ _ h).s _ _ (Ne.symm nts) f0s) ?_ ?_
 ·intro i a0 v0 σ G p G1 ha0 hv0 h1 nw;let⟨⟨o5,o6,o7,o8,o9,rfl⟩,sG,kt,hkt,O5⟩:=ij _ _ _ h1;let⟨kv,hkv,hak⟩:=bB pk2 ha0;let⟨⟨fU,row⟩,hsx,ek,hrow⟩:=bB hS hkv;let ek:kv.1=sX fU:=ek;let hv0':v0=kv.2:=by
   rw[cH,hkv]at hv0;show(dI hv0).symm
  subst hv0';rw[ek]at hak;let nG:Nd F0 G:=.sd sG f0t;let s1:aL G G1:=nw.same;let Ń:Nd F0 G1:=nG.trans (.of s1);let nH1:Nd H G1:=Ze.trans Ń;let hone:oO G1 a0 fU:=oO.Iu (Ń.tups _ _ hak);let yM:J6 G1 kv.2 row:=hrow.keep nH1.tups;let mem:(fU,row)∈S:=gF hsx;let hDG:=nH1.at Qn hD;let⟨dx',fs,hd,nom,_⟩:=Qn.ins hDG;let hKG:Bp Qn.knd Qn.pq G0 G1 pa L ka:=by
   let ex:∀c u,c≠t->F0 c=some u->G1 c=some u:=λc u hc e=>s1 _ _ (sG c u hc e);show⟨?_,ZC.len,λk=>(ZC.val k).imp id λ⟨l,h1,h2⟩=>⟨l,h1,ex _ _ (λz=>by rw[z,f0t]at h2;cases h2) h2⟩,ZC.inj,ZC.fr⟩;obtain⟨z,hh|⟨xs,h1,h2⟩⟩:=ZC.dx
   ·show⟨z,.inl ⟨hh.1,ex _ _ npt hh.2⟩⟩
   ·show⟨z,.inr ⟨xs,ex _ _ npt h1,Paired.cA h2 λ_ _ ⟨a,b,c⟩=>⟨a,b.same λ_ _ q=>Ń.tups _ _ q,c⟩⟩⟩
  show⟨p,_,Z,cJ.of nw.here,Z,_,_,Z,_,_,Z,Z,?_⟩;show⟨_,Z,⟨pa,ka,Z,hKG.dx⟩,_,Z,d,dx',fs,Z,hd,nom _ (),_,Z,d,a0,m,fU,Z,hDG,hone,ł _ mem,m5,λb G2 t2 hk=>⟨(),λl0 G3 n3=>?_⟩⟩;let t3:=t2.trans n3.same;let hK3:=hKG.same t3;show⟨pa,b,Qn.pq.sh fU,ka,.ref l0,Z,Z,hk.same λ_ _ z=>n3.same _ _ z,hK3.dx,?_⟩;obtain⟨l,el,hl⟩:∃l,(dh ka (Qn.pq.sh fU)).getD (.ref l0)=.ref l/\G3 l=↥((tB Qn.pq L (Qn.pq.sh fU)).map V.ref):=by
   rcases hK3.val (Qn.pq.sh fU)with⟨h1,h2⟩|⟨l,h1,h2⟩
   ·rw[h1,h2];show⟨l0,Z,n3.here⟩
   ·rw[h1];show⟨l,Z,h2⟩
  rw[el];let nG3:Nd F0 G3:=Ń.trans (.of t3);let pO:Paired (λa (x:dW×gk)=>oO G3 a x.1) (tB Qn.pq L (Qn.pq.sh fU)) (jB Qn.pq fU A):=by
   rw[hL];show Paired.cA (Rk Qn.pq (Qn.pq.sh fU) a6d) λ_ _ h=>h.keep nG3.tups
  let lO:=aW pO;let st3:aL G G3:=s1.trans t3;let hT3:pN G3 kt (sZ Qn.pq A (S.take i) T):=O5.keep (.of st3);let ht3:G3 t=some (.dT kt):=st3 _ _ hkt;let hTi:S.take (i+1)=S.take i++[(fU,row)]:=by rw[iz,hsx];rfl
  show⟨l,Z,⟨_,bD.of hl⟩,Wj (P:=λj σ G'=>P4 (T3 (λo5 o8 o9=>[⇑d,⇑t,⇑sc,⇑an,⇑pa,o5,⇑a0,some kv.2,o8,o9]) σ) (Sd t G3 G') (λRi=>G' t=some (.dT Ri)) λRi=>pN G' Ri (vh Qn.pq fU row ((jB Qn.pq fU A).take j) (sZ Qn.pq A (S.take i) T))) λJ2 jk kj=>sy (K:=K) (a:=l) (xs:=(tB Qn.pq L (Qn.pq.sh fU)).map V.ref) J2 (jk _ _ _ ⟨⟨_,_,_,Z⟩,.refl,kt,ht3,hT3⟩) (λj σ G' _ h=>bD.of ((Nd.sd (kj _ _ _ h).s ht3).lst hl)) ?_ ?_⟩
  ·intro j x σ G' hx h1;let⟨⟨o5,o8,o9,rfl⟩,Yc,Ri,O6,hT'⟩:=kj _ _ _ h1;rw[cH]at hx;let⟨b0,hb0,rfl⟩:=jP.mp hx;let⟨⟨cP,more⟩,hox,hob⟩:=bB pO hb0;let a7X:(cP,more)∈jB Qn.pq fU A:=gF hox;let⟨a1b,shE⟩:=jT.mp a7X;let shE:Qn.pq.sh cP=Qn.pq.sh fU:=dw shE;let n3':Nd G3 G':=.sd Yc ht3;let nHG:Nd H G':=Ze.trans (nG3.trans n3');let hoG:oO G' b0 cP:=hob.keep n3'.tups;let a2s:oO G' a0 fU:=hone.keep ((lG.of t3).trans n3'.tups);let haG:G' an=some (.dT vo):=Yc _ _ (Ne.symm nta) (st3 _ _ (sG _ _ (Ne.symm nta) f0a));obtain⟨vm,em,hmore⟩:∃vm,dh vo (sX cP)=some vm/\J6 H vm more:=by
    rcases Gq cP hA with⟨_,e2⟩|⟨v,r,e1,e2,h⟩
    ·rw[Ja ndA a1b]at e2;cases e2
    ·rw[Ja ndA a1b]at e2;cases e2;show⟨v,e1,h⟩
   let a6e:=nHG.at Qn hD;let⟨dx2,fs2,hd2,a7Y,_⟩:=Qn.ins a6e;show⟨_,Z,_,Z,an,vm,Z,by rw[<-em];show xq.t haG hoG.key,?_⟩;show⟨_,Z,d,dx2,fs2,Z,hd2,a7Y _ (),_,Z,_,Z,d,a0,b0,m,fU,cP,Z,a6e,a2s,hoG,ł _ mem,okA _ a1b,m5,shE.symm,λr xs G4 s4 hr4 pm=>⟨r,Z,⟨_,bD.of hr4⟩,?_⟩⟩;let ht4:=s4 _ _ O6;let hT4:=hT'.keep (lG.of s4);let lpm:=aW pm;let a7Z:=lim i _ hsx j _ hox;let Wm:(jB Qn.pq fU A).take (j+1)=(jB Qn.pq fU A).take j++[(cP,more)]:=by rw[iz,hox];rfl
   show Wj (P:=λe σ G5=>P4 (T1 (λo9=>[⇑d,⇑t,⇑sc,⇑an,⇑pa,⇑b0,⇑a0,some kv.2,some vm,o9]) σ) (Sd t G4 G5) (λZy=>G5 t=some (.dT Zy)) λZy=>pN G5 Zy (xK Qn.pq.bt fU cP row more ((Qn.pq.jn fU cP).take e) (vh Qn.pq fU row ((jB Qn.pq fU A).take j) (sZ Qn.pq A (S.take i) T)))) λJ3 jm mj=>sy (K:=K) (a:=r) (xs:=xs) J3 (jm _ _ _ ⟨⟨_,Z⟩,.refl,Ri,ht4,hT4⟩) (λe σ G5 _ h=>bD.of ((Nd.sd (mj _ _ _ h).s ht4).lst hr4)) ?_ ?_
   ·intro e x σ G5 hx h1;let⟨⟨o9,rfl⟩,sG5,kt5,a4d,hT5⟩:=mj _ _ _ h1;let⟨st',hmx,aa,rfl,haa⟩:=bB pm hx;let n4':Nd G4 G5:=.sd sG5 ht4;let a6f:Nd H G5:=nHG.trans ((Nd.of s4).trans n4');let a4e:Nd G' G5:=(Nd.of s4).trans n4';let⟨pr,qr,asr,Wk,hpr,hqr,hsr⟩:=yM.keep ((lG.of t3).trans (n3'.tups.trans a4e.tups));let⟨pm',qm,asm,a2t,hpm,hqm,hsm⟩:=hmore.keep a6f.tups;rw[Wk,a2t];show⟨_,Z,_,Z,_,Z,_,Z,pr,_,_,.int row.m,Z,Z,cJ.of hpr,Z,_,Z,pm',_,_,.int more.m,Z,Z,cJ.of hpm,Z,_,_,Z,Z,⟨smS _ mem,smA _ a1b⟩,_,Z,pr,_,_,.int row.b,Z,Z,cJ.of hpr,Z,_,Z,pm',_,_,.int more.b,Z,Z,cJ.of hpm,Z,_,_,Z,Z,_,Z,_,Z,(),λq1 G6 m6=>⟨(),λq2 G7 m7=>?_⟩⟩;let s67:=m6.same.trans m7.same;show⟨d,t,aa,.ref q2,kt5,_,st',⟨row.m*more.m,row.b+more.b,[fU,cP]⟩,Z,(a6f.trans (.of s67)).at Qn hD,s67 _ _ a4d,hT5.keep (.of s67),?_,haa.keep (n4'.tups.trans (.of s67)),⟨q2,q1,[a0,b0],Z,m7.here,m7.same _ _ m6.here,.cons (a2s.keep (a4e.tups.trans (.of s67))) (.cons (hoG.keep (a4e.tups.trans (.of s67))) .nil)⟩,λkt8 G8 s8 h8 hT8=>?_⟩
    ·show a7Z e (eY (eG.mp hmx).1)
    ·show jm _ _ _ ⟨⟨_,by rw[Wk,a2t];rfl⟩,sG5.trans ((Sd.of s67).trans s8),kt8,h8,?_⟩;rw[iz,hmx];show pN G8 kt8 (xK Qn.pq.bt fU cP row more ((Qn.pq.jn fU cP).take e++[st']) _);rw[IV];show hT8
   ·intro σ G5 h1;let⟨⟨o9,rfl⟩,sG5,kt5,a4d,hT5⟩:=mj _ _ _ h1;show jk _ _ _ ⟨⟨_,_,_,Z⟩,Yc.trans ((Sd.of s4).trans sG5),kt5,a4d,?_⟩;rw[Wm,IW];rw[lpm,gw]at hT5;show hT5
  ·intro σ G' h1;let⟨⟨o5,o8,o9,rfl⟩,Yc,Ri,O6,hT'⟩:=kj _ _ _ h1;show ji _ _ _ ⟨⟨_,_,_,_,_,Z⟩,sG.trans ((Sd.of st3).trans Yc),Ri,O6,?_⟩;rw[hTi,join_snoc];rw[aH,lO,gw]at hT';show hT'
 ·intro σ G h1;let⟨⟨o5,o6,o7,o8,o9,rfl⟩,sG,kt,hkt,O5⟩:=ij _ _ _ h1;let gs:=sG _ _ (Ne.symm nts) f0s;show⟨sc,o2,mR,mR,a1a,gs,?_⟩;show q kt _ (λc u hc e=>?_) (by rw[aR nts];show hkt) ?_
  ·by_cases z:c=sc
   ·rw[z]at e ⊢;rw[dG,<-e,hsc]
   ·rw[aR z];show sG c u hc ?_;rw[f0r c z];show s2 _ _ e
  ·rw[show S.take as2.length=S by rw[la2,lk2,gw]]at O5;show O5.keep (Nd.O1 gs)
end
abbrev nU:Stmt:=top 4
def Ň:bN jJ jJ (aG nU):={}
def ZF{p q:Int->Bool}(h:∀v,0<=v->v<16->p v=q v):Qf p=Qf q:=by
 unfold Qf;show List.filter_congr λv hv=>?_;grind
def gK(xs ys:ae):ae:=Qf λv=>decide (v∈xs\/v∈ys)
inductive a1c(K:aJ)(vs:af)(H:Hp)(Q:VK)(u_3:XK):Prop
 |mk (a b:Addr) (xs ys:ae) (_:vs=[.ref a,.ref b]) (_:bD K H a (xs.map V.int)) (_:bD K H b (ys.map V.int)) (_:Small xs) (_:Small ys) (_:∀H0 p H',aL H H0->iG H0 p (.lst ((gK xs ys).map V.int)) H'->Q (.ref p) H')
section
variable{K:aJ}
def Rm(B:Bl mg)(oJ:Dn K mg "joint" nU jJ):⋯ 1 oJ.f oJ.fd jJ (a1c K):=by
 show oJ.F.ok Ň λd7 A outer s H vs Q E hr h=>?_;let⟨a,b,xs,ys,rfl,hA,hB,sA,sB,q⟩:=h;show⟨_,(aF (bH (aU (Oz (w:=w) Z Z) Z B.sorted () (O (bh (a3F (w:=w) Z) (jL (KR (K:=K) (w:=w) Z Z Z) Z B.set () (O (pv 0) aj)) (jL (KR (K:=K) (w:=w) Z Z Z) Z B.set () (O (pv 1) aj))) aj)))),⟨_,Z,a,xs,Z,hA,sA,λp1 L1 H1 n1 m1=>⟨_,Z,b,ys,Z,n1.same.seq hB,sB,λp2 L2 H2 n2 m2=>⟨p1,p2,L1,L2,Z,Z,n2.ne n1.here,n2.same _ _ n1.here,n2.here,λp3 L H3 n3 m3=>⟨p3,false,L,Z,n3.here,λp4 H4 n4=>?_⟩⟩⟩⟩⟩;let e:(Qf λv=>decide (v.toNat∈L))=gK xs ys:=ZF λv h0 h1=>by
  let ev:((v.toNat:Nat):Int)=v:=()
  rw[Hh,m3 v.toNat,m1 v.toNat,m2 v.toNat,ev]
 rw[e]at n4;show q H3 p4 H4 (n1.same.trans (n2.same.trans n3.same)) n4
end
abbrev mU:Stmt:=top 24
def mY:bN ["steps","question","tops","feeds","told","step","bag","used","table"] Ip (aG mU):={}
section
variable{K:aJ}{κ:Type} [DecidableEq κ]
noncomputable def Kc(pq:PQ κ)(aQ:List (ae))(cD:List b7)(jM:bT)(bC:ae)(used:ay):b7:=match used with
 | []=>[(pq.leaf,⟨1,0,[]⟩)]
 | [i]=>sY pq jM (gK bC (aQ.getD i [])) (cD.getD i []) []
 |i::j::_=>sZ pq (cD.getD j []) (cD.getD i []) []
def Kd(pq:PQ κ)(ss:ax)(aQ:List (ae))(dz:List (ay)):Nat->List b7
 |0=>[]
 |k+1=>Kd pq ss aQ dz k++[Kc pq aQ (Kd pq ss aQ dz k) (ss.getD k .leaf) (aQ.getD k []) (dz.getD k [])]
theorem lH(pq:PQ κ)(ss:ax)(aQ:List (ae))(dz:List (ay)):∀k,(Kd pq ss aQ dz k).length=k
 |0=>rfl
 |k+1=>by
  show(_++[_]).length=_
  rw[cu,lH pq ss aQ dz k]
  rfl
def xO(Qn:J7 P w K mg base κ)(aQ:List (ae))(cD:List b7)(jM:bT)(bC:ae)(used:ay):Prop:=match used with
 | []=>True
 | [i]=>jM≠.join/\i<cD.length/\(∀x∈cD.getD i [],Qn.pq.Ok (aQ.getD i []).length x.1)/\Gs Qn jM (gK bC (aQ.getD i [])) (aQ.getD i []).length/\(cD.getD i []).length<=4000/\a3Z Qn.pq jM (gK bC (aQ.getD i [])) (cD.getD i []) []
 | [i,j]=>jM=.join/\i<cD.length/\j<cD.length/\i≠j/\∃m≤4,(∀x∈cD.getD i [],Qn.pq.Ok m x.1)/\(∀x∈cD.getD j [],Qn.pq.Ok m x.1)/\((cD.getD j []).map (·.1)).Nodup/\(cD.getD i []).length<=4000/\(cD.getD j []).length<=900/\Jb (cD.getD i [])/\Jb (cD.getD j [])/\a4c Qn.pq (cD.getD j []) (cD.getD i []) []
 |_=>False
def ň(H:Hp)(p:Addr)(T:b7):Prop:=∃J,H p=some (.dT J)/\pN H J T
inductive a4f(Qn:J7 P w K mg base κ)(vs:af)(H:Hp)(Q:VK)(u_3:XK):Prop
 |mk (d a pt pf:Addr) (xs vt:af) (fs:aI) (ss:ax) (aQ:List (ae)) (dz:List (ay)) (_:vs=[.ref a,.ref d,.ref pt,.ref pf]) (_:Qn.At H d) (_:bD K H a xs) (_:Paired (uM K H) xs ss) (_:bD K H pt vt) (_:Paired (λv b=>∃p,v=.ref p/\bD K H p (b.map V.int)) vt aQ) (_:bD K H pf (fs.map V.ref)) (_:Paired (λf us=>H f=↥(us.map λj:Nat=>V.int (j:Int))) fs dz) (_:ss.length<=900) (_:aQ.length=ss.length) (_:dz.length=ss.length) (_:(∀b∈aQ,Small b)) (_:(∀k,k<ss.length->xO Qn aQ (Kd Qn.pq ss aQ dz k) (ss.getD k .leaf) (aQ.getD k []) (dz.getD k []))) (_:∀pl ps H',aL H H'->H pl=none->H' pl=↥(ps.map V.ref)->Paired (ň H') ps (Kd Qn.pq ss aQ dz ss.length)->ps.Nodup->(∀p∈ps,H p=none)->Q (.ref pl) H')
def ZG{α:Type}{ps:List α}{i j:Nat}{p:α}(nd:ps.Nodup)(h:ps[i]?=some p)(h':ps[j]?=some p):i=j:=by
 let h1:=eG.mp h;let h2:=eG.mp h';let pw:=Tj.mp nd;rcases Nat.lt_trichotomy i j with c|c|c
 ·show absurd (h1.2.trans h2.2.symm) (pw i j h1.1 h2.1 c)
 ·show c
 ·show absurd (h2.2.trans h1.2.symm) (pw j i h2.1 h1.1 c)
def ZJ:∀{s:bT},s.word=(Str.ofString "join")->s=.join
 |.leaf,h=>absurd (show Str.ofString "leaf" = Str.ofString "join" from h) ()
 |.inn _,h=>absurd (show Str.ofString "in" = Str.ofString "join" from h) ()
 |.tie _ _,h=>absurd (show Str.ofString "tie" = Str.ofString "join" from h) ()
 |.out _,h=>absurd (show Str.ofString "out" = Str.ofString "join" from h) ()
 |.join,_=>rfl
inductive Ŋ(a d pt pf pl:Addr)(H:Hp)(L:List b7)(σ:St)(G:Hp):Prop
 |mk (e:T4 (λo5 o6 o7 o8=>[⇑a,⇑d,⇑pt,⇑pf,⇑pl,o5,o6,o7,o8]) σ) (s:aL H G) (ps:aI) (_:G pl=↥(ps.map V.ref)) (_:Paired (ň G) ps L) (_:ps.Nodup) (_:∀p∈ps,H p=none)
def Ŋ.s{a d pt pf pl:Addr}{H:Hp}{L:List b7}{σ:St}{G:Hp}(h:Ŋ a d pt pf pl H L σ G):aL H G:=by cases h;assumption
def Bq{P:St->Hp->Prop}{R:Prop}(h:∀Z97:St->Hp->Prop,(∀σ H,P σ H->Z97 σ H)->(∀σ H,Z97 σ H->P σ H)->R):R:=h P (λ_ _ z=>z) (λ_ _ z=>z)
def Rn(B:Bl mg)(Bz:mg "zip" = none)(Qn:J7 P w K mg base κ)(oJ:Dn K mg "joint" nU jJ)(wC:Dn K mg "states_behind" fQ Ez)(qO:Dn K mg "note" uL Bf)(yx:Dn K mg "fill_along" jH Im)(xM:Dn K mg "fill_joined" gW Io)(zE:Dn K mg "going_up" mU Ip):⋯ 11 zE.f zE.fd Ip (a4f Qn):=by
 let a70:⋯ 10 _ _ _ _:=Ka Qn wC qO yx;let a71:⋯ 10 _ _ _ _:=Jc Qn qO xM;let a4g:⋯ 10 _ _ _ _:=(Rm B oJ).mono ();show zE.F.ok mY λd7 A outer s H vs Q E hr h=>?_;let⟨d,a,pt,pf,xs,vt,fs,ss,aQ,dz,rfl,hD,hA,pA,hP,pP,hF,pF,l9,lt,lf,smT,ok,q⟩:=h;let hw1:(A.deeper (PyProof.Rows.envOfC "going_up" (aG mU) s⁻¹ zE.f d7)).units+1<cLine:=by let:=hr.un;omega
 show⟨_,(aD (aX 4 mY.nd (cF aj))
   (aD (gQ gH Z (a02 (K:=K) Z Z Bz (O (pv 0) (O (pv 2) (O (pv 3) aj)))) (jr (K:=K) (n:=3) Z Z (bQ (aM 5 mY.nd) (bQ (aM 6 mY.nd) (bQ (aM 7 mY.nd) iD))))
   (aD (aX 8 mY.nd Ii)
   (jw (cM (pB (dN (K:=K) Z (pv 7) λ_=>rfl))
   (aF (vM (bL (O aq (O aq (O (bL aj) aj)))) (Ob (pv 8) (Gn (K:=K) Z (pv 1) Z) (Ds hw1))))
   (aF (cM (aN jV (aP (aO (K:=K) Z) (pv 5) aq) fV)
   (aF (fL (bx a71 hr Z xM.m xM.F.kp xM.b .nil bZ (O (pv 1) (O (pv 8) (O (aP (bf (K:=K) Z) (pv 4) (aP (bf (K:=K) Z) (pv 7) aq)) (O (aP (bf (K:=K) Z) (pv 4) (aP (bf (K:=K) Z) (pv 7) aq)) aj)))))))
   (aF (fL (bx a70 hr Z yx.m yx.F.kp yx.b .nil bZ (O (pv 1) (O (pv 8) (O (aP (bf (K:=K) Z) (pv 4) (aP (bf (K:=K) Z) (pv 7) aq)) (O (pv 5) (O (bx a4g hr Z oJ.m oJ.F.kp oJ.b .nil bZ (O (pv 6) (O (aP (bf (K:=K) Z) (pv 2) (aP (bf (K:=K) Z) (pv 7) aq)) aj))) aj)))))))))))
   (aF (fL (iR (K:=K) Z jc PySem.F.slot_list_append PySem.F.type_list_append fC (pv 4) (O (pv 8) aj)))))))
   (aF (bH (pv 4))))),?_⟩
 show⟨(),λpl H1 n1=>?_⟩;let s1:=n1.same;show⟨_,Z,_,Z,_,Z,a,pt,pf,Z,⟨_,s1.seq hA⟩,⟨_,s1.seq hP⟩,⟨_,s1.seq hF⟩,?_⟩;let lx:xs.length=ss.length:=aW pA;let lv:vt.length=ss.length:=(aW pP).trans lt;let lfs:(fs.map V.ref).length=ss.length:=by rw[aH];show(aW pF).trans lf
 show Wj (P:=λk σ G=>Ŋ a d pt pf pl H (Kd Qn.pq ss aQ dz k) σ G) λZ97 ji ij=>?_;show ļ (K:=K) (xs:=xs) (ys:=vt) (zs:=fs.map V.ref) (lx.trans lv.symm) (lx.trans lfs.symm) Z97 (ji _ _ _ ⟨⟨_,_,_,_,Z⟩,s1,[],n1.here,.nil,vJ,λ_ h=>absurd h dZ⟩) (λk σ G _ h=>have s:=(ij _ _ _ h).s;⟨s.seq hA,s.seq hP,s.seq hF⟩) ?_ ?_
 ·intro k x y z σ G p G1 hx hy hz hJ nw;let⟨⟨o5,o6,o7,o8,rfl⟩,sG,ps,hpl,pT,nd,fr⟩:=ij _ _ _ hJ;let⟨jM,a6g,ŋ,rfl,hst⟩:=bB pA hx;let⟨bC,a6h,pbg,rfl,hbg⟩:=bB pP hy;rw[cH]at hz;let⟨f,hf,rfl⟩:=jP.mp hz;let⟨used,a6i,hfu⟩:=bB pF hf;let kl:k<ss.length:=(eG.mp a6g).1;let okk:=ok k kl;let eS:ss.getD k .leaf=jM:=by rw[fY,a6g];rfl
  let eT:aQ.getD k []=bC:=by rw[fY,a6h];rfl
  let eF:dz.getD k []=used:=by rw[fY,a6i];rfl
  let go:Kd Qn.pq ss aQ dz (k+1)=Kd Qn.pq ss aQ dz k++[Kc Qn.pq aQ (Kd Qn.pq ss aQ dz k) jM bC used]:=by
   show _++[_]=_;rw[eS,eT,eF]
  rw[eS,eT,eF]at okk;let lps:ps.length=k:=(aW pT).trans (lH _ _ _ _ k);let Wn:aL H G1:=sG.trans nw.same;show⟨p,_,Z,cJ.of nw.here,Z,_,_,Z,_,_,Z,_,_,Z,Z,λt ht0=>?_⟩;let n2:=iG.nD (o:=.dT []) ht0;generalize cU G1 t (.dT [])=G2 at n2 ⊢;let S5:aL H G2:=Wn.trans n2.same;let g12:aL G G2:=nw.same.trans n2.same;let Ō:=g12 _ _ hpl;let pT2:Paired (ň G2) ps (Kd Qn.pq ss aQ dz k):=Paired.cA pT λ_ _ ⟨kv,h1,h2⟩=>⟨kv,g12 _ _ h1,h2.keep (.of g12)⟩;let hD2:Qn.At G2 d:=(Nd.of S5).at Qn hD;let Ht:H t=none:=by
   cases e:H t with
   |none=>rfl
   |some u=>rw[Wn _ _ e]at ht0;cases ht0
  let ntp:∀p∈ps,p≠t:=λp' hp' z=>by
   let⟨i,hi,e⟩:=oR hp';let⟨T',_,kv,h1,_⟩:=bB pT (eG.mpr ⟨hi,e⟩);let:=nw.same _ _ h1;rw[z,ht0]at this;cases this
  let ZD:pl≠t:=λz=>by let:=nw.same _ _ hpl;rw[z,ht0]at this;cases this
  let atT:∀i,i<k->∃pi kv,ps[i]?=some pi/\G2 pi=some (.dT kv)/\pN G2 kv ((Kd Qn.pq ss aQ dz k).getD i [])/\pi≠t:=λi hi=>by
   let hi':i<ps.length:=()
   let⟨T',hT',kv,h1,h2⟩:=bB pT2 (bI hi');show⟨ps[i],kv,bI hi',h1,?_,ntp _ (nH hi')⟩;rw[fY,hT'];show h2
  let ixT:∀(i:Nat) (pi:Addr),ps[i]?=some pi->Vq (ps.map V.ref) (i:Int)=⇑pi:=λi pi h=>by
   let hi:=(eG.mp h).1;show bW (by rw[cH,h];rfl)
  show Bq (P:=λσ' G'=>σ'=[⇑a,⇑d,⇑pt,⇑pf,⇑pl,⇑ŋ,⇑pbg,⇑f,⇑t]/\Sd t G2 G'/\∃kt,G' t=some (.dT kt)/\pN G' kt (Kc Qn.pq aQ (Kd Qn.pq ss aQ dz k) jM bC used)) λJ2 ji2 ij2=>⟨J2,?_,?_⟩
  ·let hf2:=S5 _ _ hfu;rcases used with _|⟨i,_|⟨j,_|⟨e,rest⟩⟩⟩
   ·show⟨_,Z,false,.inl ⟨_,bD.of hf2,Z⟩,iQ ?_⟩;let⟨dx',fs',hd,_,⟨al,hal,hlf⟩,_⟩:=Qn.ins hD2;show⟨(),λp3 G3 m3=>⟨(),λp4 G4 m4=>?_⟩⟩;let K8:=m3.same.trans m4.same;show⟨_,Z,_,Z,d,_,dx',fs',_,Z,K8 _ _ hd,Qn.cl,Qn.uK,hal,t,al,sX Qn.pq.leaf,[],Z,Z,(hlf.keep (.of K8)).key,K8 _ _ n2.here,(),λG5 c5=>?_⟩;let nd5:lG G4 G5:=λc' ys hc=>by
     rw[c5.rest c' (λz=>by rw[z,K8 _ _ n2.here]at hc;cases hc)];show hc
    show ji2 _ _ ⟨Z,(Sd.of K8).trans (.Rb c5),_,c5.here,.cons ⟨Z,p4,p3,[],Z,nd5 _ _ m4.here,nd5 _ _ (m4.same _ _ m3.here),.nil⟩ .nil⟩
   ·let⟨nj,il,ł,fit,lS,lim⟩:=okk;rw[lH]at il;let⟨pi,kv,hpi,hgi,hTi,nti⟩:=atT i il;show⟨_,Z,true,.inl ⟨_,bD.of hf2,Z⟩,dB ?_⟩;show⟨_,Z,ŋ,jM.vs,0,.str jM.word,Z,Z,S5.vU hst,by cases jM<;>rfl,Z,_,Z,?_⟩;rw[cI (show ¬V.str jM.word=V.str (Str.ofString "join")from λz=>nj (ZJ (V.str.inj z)))];show dB ⟨_,Z,_,Z,_,Z,_,Z,f,_,_,_,Z,Z,bD.of hf2,Z,pl,_,_,_,Z,Z,bD.of Ō,ixT i pi hpi,_,Z,_,Z,_,Z,_,Z,f,_,_,_,Z,Z,bD.of hf2,Z,?_⟩;let it:i<aQ.length:=()
    obtain⟨vb,hvb,pbi,rfl,hbi⟩:∃vb,vt[i]?=some vb/\∃q,vb=.ref q/\bD K H q ((aQ.getD i []).map V.int):=by
     let hi':i<vt.length:=()
     let⟨b',hb',q',e',h'⟩:=bB pP (bI hi');show⟨_,bI hi',q',e',?_⟩;rw[fY,hb'];show h'
    show⟨pt,vt,_,_,Z,Z,S5.seq hP,bW hvb,pbg,pbi,bC,aQ.getD i [],Z,S5.seq hbg,S5.seq hbi,smT _ (gF a6h),smT _ (by rw[fY,bI it];show nH it),λG3 pj G4 s3 n4=>?_⟩;let s24:=s3.trans n4.same;show⟨d,t,pi,ŋ,pj,[],kv,[],_,jM,gK bC (aQ.getD i []),(aQ.getD i []).length,Z,(Nd.of s24).at Qn hD2,s24 _ _ n2.here,.nil,s24 _ _ hgi,hTi.keep (.of s24),Ne.symm nti,ł,(S5.trans s24).vU hst,n4.here,fit,lS,lim,λkt G5 s5 h5 hT5=>ji2 _ _ ⟨Z,(Sd.of s24).trans s5,kt,h5,hT5⟩⟩
   ·let⟨ej,il,jl,ō,m,m5,ł,okA,ndA,lS,lA,smS,smA,lim⟩:=okk;rw[lH]at il jl;let⟨pi,kv,hpi,hgi,hTi,nti⟩:=atT i il;let⟨pj,kvj,hpj,hgj,Wm,ntj⟩:=atT j jl;let npp:pi≠pj:=λz=>ō (ZG nd hpi (by rw[z];show hpj));show⟨_,Z,true,.inl ⟨_,bD.of hf2,Z⟩,dB ?_⟩;subst ej;show⟨_,Z,ŋ,bT.join.vs,0,.str (Str.ofString "join"),Z,Z,S5.vU hst,Z,Z,_,Z,?_⟩;rw[aV (show V.str (Str.ofString "join")=V.str (Str.ofString "join")from Z)];show iQ ⟨_,Z,_,Z,_,Z,_,Z,f,_,_,_,Z,Z,bD.of hf2,Z,pl,_,_,_,Z,Z,bD.of Ō,ixT i pi hpi,_,Z,_,Z,f,_,_,_,Z,Z,bD.of hf2,Z,pl,_,_,_,Z,Z,bD.of Ō,ixT j pj hpj,⟨d,t,pi,pj,[],kv,kvj,[],_,_,m,Z,hD2,n2.here,.nil,hgi,hTi,hgj,Wm,Ne.symm nti,Ne.symm ntj,npp,ł,okA,m5,ndA,lS,lA,smS,smA,lim,λkt G5 s5 h5 hT5=>ji2 _ _ ⟨Z,s5,kt,h5,hT5⟩⟩⟩
   ·show okk.elim
  ·intro σ' G3 h2;let⟨rfl,s3,kt,hkt,hTn⟩:=ij2 _ _ h2;let Ŏ:=s3 _ _ ZD Ō;let tu3:lG G2 G3:=s3.tups n2.here;show⟨_,Z,.inl ⟨Z,_,bD.of Ŏ⟩,_,Z,pl,_,_,Z,Z,Ŏ,by rw[aH,lps];omega,λG4 c4=>?_⟩;let s4:∀c u,c≠pl->G3 c=some u->G4 c=some u:=λc u hc e=>by rw[c4.rest c hc];show e
   let tu4:lG G3 G4:=λc ys e=>s4 c _ (λz=>by rw[z,Ŏ]at e;cases e) e;let nlp:∀p∈ps,p≠pl:=λp' hp' z=>by
    let⟨i,hi,e⟩:=oR hp';let⟨T',_,kv,h1,_⟩:=bB pT2 (eG.mpr ⟨hi,e⟩);rw[z,Ō]at h1;cases h1
   show ji _ _ _ ⟨⟨_,_,_,_,Z⟩,λc u e=>?_,ps++[t],by rw[c4.here,cW];rfl,?_,?_,?_⟩
   ·let ncl:c≠pl:=λz=>by rw[z,n1.fresh]at e;cases e
    let nct:c≠t:=λz=>by rw[z,Ht]at e;cases e
    show s4 c u ncl (s3 c u nct (S5 _ _ e))
   ·rw[go];let a6j:∀{as:aI}{Ts:List b7},Paired (ň G2) as Ts->(∀p∈as,p≠t/\p≠pl)->Paired (ň G4) as Ts:=λ{as Ts} h=>by
     induction h with
     |nil=>intro _;show .nil
     | @cons p T _ _ h1 _ ih =>
      intro hh;let⟨kv,e1,e2⟩:=h1;let hn:=hh p (aZ ..);show .cons ⟨kv,s4 _ _ hn.2 (s3 _ _ hn.1 e1),e2.keep (tu3.trans tu4)⟩ (ih λp' hp'=>hh p' (bJ _ hp'))
    show eX (a6j pT2 λp' hp'=>⟨ntp p' hp',nlp p' hp'⟩) ⟨kt,s4 _ _ (Ne.symm ZD) hkt,hTn.keep tu4⟩
   ·show uE.mpr ⟨nd,ur _ _,λx hx y hy e=>ntp x hx (by rw[e,bK.mp hy])⟩
   ·intro p' hp';rcases cV.mp hp' with h|h
    ·show fr p' h
    ·rw[bK.mp h];show Ht
 ·intro σ G hJ;let⟨⟨o5,o6,o7,o8,rfl⟩,sG,ps,hpl,pT,nd,fr⟩:=ij _ _ _ hJ;rw[lx]at pT;show⟨_,Z,q pl ps G sG n1.fresh hpl pT nd fr⟩
end
abbrev zF:Stmt:=top 1
def Ro:bN ["thing"] ["thing"] (aG zF):={}
abbrev fM:Stmt:=top 2
def Rp:bN sV sV (aG fM):={}
inductive a1d(K:aJ)(vs:af)(H:Hp)(Q:VK)(u_3:XK):Prop
 |mk (x:V) (t:Value) (bi bb:Bool) (_:vs=[x]) (_:sE K H x t) (_:kitOne K t (.type "int")=some bi) (_:kitOne K t (.type "bool")=some bb) (_:Q (.bl (bi && !bb)) H)
inductive a1e(vs:af)(H:Hp)(Q:VK)(u_3:XK):Prop
 |mk (n:Int) (o:Option Int) (_:vs=[.int n,upV o]) (_:Q (.bl (pH n o)) H)
section
variable{K:aJ}
abbrev DG(K:PySem.W.Frag)(mg:Str->Option Value):=Dn K mg "is_whole" zF ["thing"]
def Rq(B:Bl mg)(lK:DG K mg):⋯ 1 lK.f lK.fd ["thing"] (a1d K):=by
 show lK.F.ok Ro λd7 A outer s H vs Q E hr h=>?_;let⟨x,t,bi,bb,rfl,ty,h1,h2,q⟩:=h;show⟨_,(aF (bH (ç (aU (iZ (K:=K) Z) Z B.isinstance () (O (pv 0) (O (tR (v:=.ty "int") (u:=.type "int") Z B.int () Z) aj))) (æ (a2J (aU (iZ (K:=K) Z) Z B.isinstance () (O (pv 0) (O (tR (v:=.ty "bool") (u:=.type "bool") Z B.bool () Z) aj)))))))),⟨_,Z,_,_,_,_,_,Z,Z,ty,h1,_,Z,?_⟩⟩;cases bi with
 |true =>
  show iQ ⟨_,Z,_,_,_,_,_,Z,Z,ty,h2,_,Z,q⟩
 |false=>show dB q
def xP(B:Bl mg)(lK:DG K mg)(jK:Dn K mg "is_below" fM sV):⋯ 2 jK.f jK.fd sV a1e:=by
 let a72:⋯ 1 _ _ _ _:=Rq B lK;show jK.F.ok Rp λd7 A outer s H vs Q E hr h=>?_;let⟨n,o,rfl,q⟩:=h;show⟨_,(aF (bH (ç (bx a72 hr Z lK.m lK.F.kp lK.b .nil bZ (O (pv 1) aj)) (æ (ò a5e Ae aq (pv 1) (pv 0)))))),?_⟩;cases o with
 |none=>show⟨_,Z,_,_,_,_,Z,sE.non,Qv,Om,_,Z,dB q⟩
 |some i =>
  show⟨_,Z,_,_,_,_,Z,sE.int i,Em,Aq,_,Z,iQ ⟨_,Z,_,_,Z,Z,_,Z,nC (λc=>?_) λc=>?_⟩⟩
  ·let c':0<=i:=dw c;show⟨_,Z,_,_,Z,Z,?_⟩;let e:pH n (some i)=decide (i<n):=by unfold pH;simp[c']
   rw[e]at q;show q
  ·let c':¬0<=i:=Uj (wR.mpr c);let e:pH n (some i)=false:=by unfold pH;simp[c']
   grind
end
noncomputable def nY(xs ys:ae):ae:=xs.filter λv=>!decide (v∈ys)
abbrev qP:Stmt:=top 5
def Ye:bN jJ jJ (aG qP):={}
inductive a1f(K:aJ)(vs:af)(H:Hp)(Q:VK)(u_3:XK):Prop
 |mk (a b:Addr) (xs ys:ae) (_:vs=[.ref a,.ref b]) (_:cJ K H a (xs.map V.int)) (_:bD K H b (ys.map V.int)) (_:xs.length<=1000) (_:∀H0 p H',aL H H0->iG H0 p (.lst ((nY xs ys).map V.int)) H'->Q (.ref p) H')
section
variable{K:aJ}
def ŏ(B:Bl mg)(mV:Dn K mg "less" qP jJ):⋯ 1 mV.f mV.fd jJ (a1f K):=by
 show mV.F.ok Ye λd7 A outer s H vs Q E hr h=>?_;let⟨a,b,xs,ys,rfl,hA,hB,hz,q⟩:=h;let hv:(A.deeper (PyProof.Rows.envOfC "less" (aG qP) s⁻¹ mV.f d7)).units+65<cLine:=by let:=hr.un;omega
 show⟨_,(aF (bH (lU ["v","other"] [none,some 1]  (by kernel_rfl) Z (Ar (K:=K) Z (pv 0)) (λ_ _ _ _ _=>(aM 0 (show(["v","other"]:ag).Nodup by decide))) (λ_ _ _ _ _=>(tU (aN (iC (K:=K) Z hv) (pv 0) (pv 1) (by with_unfolding_all rfl)))) λ_ _ _ _ _=>(pv 0)))),⟨_,Z,a,Z,⟨_,hA⟩,?_⟩⟩;show a0P (λx=>match x with |.int v=>if !decide (v∈ys)then some (.int v)else none|_=>none) hA (by rw[aH];show hz) (λx H1 N hx sm hN=>?_) (λH1 p H1' sm hp=>?_)
 ·let⟨v,hv,rfl⟩:=fH.mp hx;let hN':=hN H1 sm;show⟨_,Z,_,Z,rF (sm.seq hB) ⟨_,Z,?_⟩⟩;dsimp only at hN';cases c:decide (v∈ys)with
  |true=>rw[c]at hN';show dB hN'
  |false=>rw[c]at hN';show iQ ⟨_,Z,hN'⟩
 ·let e:(xs.map V.int).filterMap (λx=>match x with |.int v=>if !decide (v∈ys)then some (V.int v)else none|_=>none)=(nY xs ys).map V.int:=Dd λv _=>rfl;rw[e]at hp;show q _ _ _ sm hp
end
inductive a1g(K:aJ)(vs:af)(H:Hp)(Q:VK)(u_3:XK):Prop
 |mk (a b:Addr) (xs ys:ae) (_:vs=[.ref a,.ref b]) (_:bD K H a (xs.map V.int)) (_:cJ K H b (ys.map V.int)) (_:xs.length<=1000) (_:∀H0 p H',aL H H0->iG H0 p (.lst ((nY xs ys).map V.int)) H'->Q (.ref p) H')
theorem Rr(v:Int):∀ys:ae,inV (.int v) (ys.map V.int)=decide (v∈ys)
 | []=>rfl
 |y::r=>by
  let ih:=Rr v r
  unfold inV at ih ⊢
  rw[cC,oX,ih,rR,Nq,eO,eO,bO]
  let:eqV (V.int y) (V.int v)=decide (y=v):=rfl
  rw[this,eO]
  show or_congr_left eq_comm
def Lb(ys:ae):(ys.map V.int).all Ah=true:=iw.mpr λx hx=>by
 let⟨y,_,rfl⟩:=fH.mp hx;rfl
section
variable{K:aJ}
def Ő(B:Bl mg)(mV:Dn K mg "less" qP jJ):⋯ 1 mV.f mV.fd jJ (a1g K):=by
 show mV.F.ok Ye λd7 A outer s H vs Q E hr h=>?_;let⟨a,b,xs,ys,rfl,hA,hB,hz,q⟩:=h;show⟨_,(aF (bH (lU ["v","other"] [none,some 1]  (by kernel_rfl) Z (eE (K:=K) Z (pv 0)) (λ_ _ _ _ _=>(aM 0 (show(["v","other"]:ag).Nodup by decide))) (λ_ _ _ _ _=>(tU (aN (Vx (K:=K) Z) (pv 0) (pv 1) (by with_unfolding_all rfl)))) λ_ _ _ _ _=>(pv 0)))),⟨_,Z,a,Z,⟨_,hA⟩,?_⟩⟩;show HJ (λx=>match x with |.int v=>if !decide (v∈ys)then some (.int v)else none|_=>none) hA (by rw[aH];show hz) (λx H1 N hx sm hN=>?_) (λH1 p H1' sm hp=>?_)
 ·let⟨v,hv,rfl⟩:=fH.mp hx;let hN':=hN H1 sm;show⟨_,Z,_,Z,b,_,Z,.inr (sm.vU hB),Z,Lb _,_,Z,?_⟩;rw[aB Z,Rr];dsimp only at hN';cases c:decide (v∈ys)with
  |true=>rw[c]at hN';show dB hN'
  |false=>rw[c]at hN';show iQ ⟨_,Z,hN'⟩
 ·let e:(xs.map V.int).filterMap (λx=>match x with |.int v=>if !decide (v∈ys)then some (V.int v)else none|_=>none)=(nY xs ys).map V.int:=Dd λv _=>rfl;rw[e]at hp;show q _ _ _ sm hp
end
def bF.either{K:aJ}{CX:SM}{k:Nat}{f:Addr}{fd:FuncData}{ps:ag}{sp sp':Sp}(F:bF P w K mg base CX k f fd ps sp)(G:bF P w K mg base CX k f fd ps sp'):bF P w K mg base CX k f fd ps (λvs H Q E=>sp vs H Q E\/sp' vs H Q E) :=
 ⟨λvs H Q E h=>h.elim (F.len vs H Q E) (G.len vs H Q E),λA outer s H args us vs Q E hr he hb hv hs=>hs.elim (F.run A outer s H args us vs Q E hr he hb hv) (G.run A outer s H args us vs Q E hr he hb hv)⟩
def Yg(s t:Int×Int):PyData.eqv (vX s) (vX t)=decide (s=t):=by
 unfold vX;rw[PyData.eqv];let e:=PySem.W.ked_eqvAll [s.1,s.2] [t.1,t.2];grind
def a1h(ts:ar)(t:Int×Int):(ts.map vX).any (λe=>PyData.eqv e (vX t))=decide (t∈ts):=by
 rw[Hq];rw[rR,List.any_eq_true,eO];constructor
 ·rintro⟨s,hs,e⟩;let:PyData.eqv (vX s) (vX t)=true:=e;rw[Yg]at this;grind
 ·intro h;show⟨t,h,by show PyData.eqv (vX t) (vX t)=true;rw[Yg];simp⟩
def Wo(t:Int×Int):SeqAt.shaped (vX t)=true:=by
 unfold SeqAt.shaped;rw[Xp,Hl];show aV (by let:=KJ t;omega)
abbrev fO:Stmt:=top 16
def ql:bN ["graph","done","step","used","kind","bag","v"] Bh (aG fO):={}
noncomputable def oK(n:Nat)(ts:ar)(done:ax)(s:bT)(used:List (ae)):Option (ae) :=
 match s with
 |.leaf=>some []
 |.inn v=>if(0<=v/\v<(n:Int))/\v∉used.getD 0 []/\bT.out v∉done then some (gK (used.getD 0 []) [v])else none
 |.tie a b=>if(a,b)∈ts/\nY [a,b] (used.getD 0 [])=[]/\bT.tie a b∉done then some (used.getD 0 [])else none
 |.out v=>if v∈used.getD 0 []/\bT.out v∉done then some (nY (used.getD 0 []) [v])else none
 |.join=>if used.getD 0 []=used.getD 1 []then some (used.getD 0 [])else none
def a73(K:aJ)(H:Hp)(ux:af)(H':Hp)(v:V):Option (ae)->Prop
 |none=>v=.non
 |some b=>∃p,v=.ref p/\bD K H' p (b.map V.int)/\(H p=none\/V.ref p∈ux)
def Yh{ux:af}{k:Nat}{v:V}(h:Vq ux (k:Int)=some v):v∈ux:=by
 let⟨j,_,e,_⟩:=Og h;show gF e
inductive a4h(K:aJ)(vs:af)(H:Hp)(Q:VK)(u_3:XK):Prop
 |mk (g:V) (n:Nat) (ts:ar) (dn st us:Addr) (ds ux:af) (done:ax) (s:bT) (used:List (ae)) (_:vs=[g,.ref dn,.ref st,.ref us]) (_:uJ K H g n ts) (_:n<=10) (_:bD K H dn ds) (_:Paired (uM K H) ds done) (_:cJ K H st s.vs) (_:bD K H us ux) (_:Paired (V6 K H) ux used) (_:s.need<=used.length) (_:(∀b∈used,Small b/\b.length<=1000)) (_:∀r H',aL H H'->a73 K H ux H' r (oK n ts done s used)->Q r H')
def qp{i j:Nat}(hi:i<5)(hj:j<5)(h:i≠j):decide (V.str (Fe i)=V.str (Fe j))=false:=cI λe=>by
 let e':Fe i=Fe j:=by injection e
 let:=Iw i hi j hj;grind
def w10:decide (V.str (Str.ofString "in")=V.str (Str.ofString "leaf"))=false:=qp (i:=1) (j:=0) () () ()
def w20:decide (V.str (Str.ofString "tie")=V.str (Str.ofString "leaf"))=false:=qp (i:=2) (j:=0) () () ()
def w21:decide (V.str (Str.ofString "tie")=V.str (Str.ofString "in"))=false:=qp (i:=2) (j:=1) () () ()
def w30:decide (V.str (Str.ofString "out")=V.str (Str.ofString "leaf"))=false:=qp (i:=3) (j:=0) () () ()
def w31:decide (V.str (Str.ofString "out")=V.str (Str.ofString "in"))=false:=qp (i:=3) (j:=1) () () ()
def w32:decide (V.str (Str.ofString "out")=V.str (Str.ofString "tie"))=false:=qp (i:=3) (j:=2) () () ()
def w40:decide (V.str (Str.ofString "join")=V.str (Str.ofString "leaf"))=false:=qp (i:=4) (j:=0) () () ()
def w41:decide (V.str (Str.ofString "join")=V.str (Str.ofString "in"))=false:=qp (i:=4) (j:=1) () () ()
def w42:decide (V.str (Str.ofString "join")=V.str (Str.ofString "tie"))=false:=qp (i:=4) (j:=2) () () ()
def w43:decide (V.str (Str.ofString "join")=V.str (Str.ofString "out"))=false:=qp (i:=4) (j:=3) () () ()
def Rt{K:aJ}{H:Hp}{ux:af}{used:List (ae)}{k:Nat}(p:Paired (V6 K H) ux used)(h:k<used.length):∃b,Vq ux (k:Int)=⇑b/\bD K H b ((used.getD k []).map V.int)/\used.getD k []∈used:=by
 let⟨x,hx,⟨b,rfl,hb⟩⟩:=cO p (bI h);show⟨b,bW hx,?_,?_⟩
 ·rw[fY,bI h];show hb
 ·rw[fY,bI h];show nH h
def xQ{K:aJ}{H:Hp}{dn st:Addr}{ds:af}{done:ax}{s:bT}{Q:VK}(hD:bD K H dn ds)(pD:Paired (uM K H) ds done)(hS:cJ K H st s.vs)(q:Q (.bl (!decide (s∈done))) H):Vw K true (.ref st) (.ref dn) H Q:=by
 show⟨s.d,done.map bT.d,uM.isD ⟨st,Z,hS⟩,.lst hD (Aw (λ_ _ h=>uM.isD h) pD),Wf _,Rh _,?_⟩;rw[aB Z,a06];show q
section
variable{K:aJ}
def Ke(B:Bl mg)(lK:DG K mg)(jK:Dn K mg "is_below" fM sV)(oJ:Dn K mg "joint" nU jJ)(mV:Dn K mg "less" qP jJ)(tM:Dn K mg "bag_behind" fO Bh):⋯ 3 tM.f tM.fd Bh (a4h K):=by
 let ő:⋯ 2 _ _ _ _:=xP B lK jK;let a4g:⋯ 2 _ _ _ _:=(Rm B oJ).mono ();let a6k:⋯ 2 _ _ _ _:=(bF.either (ŏ B mV) (Ő B mV)).mono ();show tM.F.ok ql λd7 A outer s H vs Q E hr h=>?_;let⟨g,n,ts,dn,st,us,ds,ux,done,sp,used,rfl,hG,dJ,hD,pD,hS,hU,pU,nu,sm,q⟩:=h;let hu:(A.deeper (PyProof.Rows.envOfC "bag_behind" (aG fO) s⁻¹ tM.f d7)).units+64<cLine:=by let:=hr.un;omega
 let hv:(A.deeper (PyProof.Rows.envOfC "bag_behind" (aG fO) s⁻¹ tM.f d7)).units+65<cLine:=by let:=hr.un;omega
 let⟨pg,ta,rfl,hP,hT⟩:=id hG;show⟨_,(aD (aX 4 ql.nd (aP (aO (K:=K) Z) (pv 2) aq))
   (aD (cM (aN jV (pv 4) fV)
   (aF (bH (cF aj)))
   bA)
   (aD (aX 5 ql.nd (aP (bf (K:=K) Z) (pv 3) aq))
   (aD (cM (aN jV (pv 4) fV)
   (aD (aX 6 ql.nd (aP (aO (K:=K) Z) (pv 2) aq))
   (aF (bH (nO (PW.pt (oZ (dN (K:=K) Z (bx ő hr Z jK.m jK.F.kp jK.b .nil bZ (O (aP (aO (K:=K) Z) (pv 0) aq) (O (pv 6) aj))) λ_=>rfl) (oZ (aN (iC (K:=K) Z hv) (pv 6) (pv 5) (by with_unfolding_all rfl)) (qg (aN (iC (K:=K) Z hv) (bL (O fV (O (pv 6) aj))) (pv 1) (by with_unfolding_all rfl)))))) (bx a4g hr Z oJ.m oJ.F.kp oJ.b .nil bZ (O (pv 5) (O (cF (O (pv 6) aj)) aj))) nM))))
   bA)
   (aD (cM (aN jV (pv 4) fV)
   (aF (bH (nO (PW.pt (oZ (aN (yd (K:=K) Z hv) (fj (Gi (K:=K) Z) (pv 2) (gb aq) fZ) (aP (aO (K:=K) Z) (pv 0) aq) (by with_unfolding_all rfl)) (oZ (pB (dN (K:=K) Z (bx a6k hr Z mV.m mV.F.kp mV.b .nil bZ (O (fj (Gi (K:=K) Z) (pv 2) (gb aq) fZ) (O (pv 5) aj))) λ_=>rfl)) (qg (aN (iC (K:=K) Z hv) (pv 2) (pv 1) (by with_unfolding_all rfl)))))) (pv 5) nM)))
   bA)
   (aD (cM (aN jV (pv 4) fV)
   (aF (bH (nO (PW.pt (oZ (aN (yd (K:=K) Z hv) (aP (aO (K:=K) Z) (pv 2) aq) (pv 5) (by with_unfolding_all rfl)) (qg (aN (iC (K:=K) Z hv) (pv 2) (pv 1) (by with_unfolding_all rfl))))) (bx a6k hr Z mV.m mV.F.kp mV.b .nil bZ (O (pv 5) (O (fj (Gi (K:=K) Z) (pv 2) (gb aq) fZ) aj))) nM)))
   bA)
   (aF (bH (nO (aN (a0v (K:=K) Z hu) (pv 5) (aP (bf (K:=K) Z) (pv 3) aq)) (pv 5) nM))))))))),?_⟩
 cases sp with
 |leaf =>
  show⟨_,Z,st,_,_,_,Z,Z,hS,Z,⟨_,Z,Z,_,Z,?_⟩⟩;rw[aV rfl];show iQ ⟨(),λp1 H1 n1=>q _ H1 n1.same ⟨p1,Z,bD.of n1.here,.inl n1.fresh⟩⟩
 |inn v =>
  let⟨b0,a0,hb0,m0⟩:=Rt (k:=0) pU nu;let⟨sm0,l0⟩:=sm _ m0;show⟨_,Z,st,_,_,_,Z,Z,hS,Z,⟨_,Z,Z,_,Z,?_⟩⟩;rw[w10];show dB ⟨_,Z,us,_,_,_,Z,Z,hU,a0,⟨_,Z,Z,_,Z,?_⟩⟩;rw[aV rfl];show iQ ⟨_,Z,st,_,_,_,Z,Z,hS,Z,⟨_,Z,pg,_,_,_,Z,Z,hP,Z,_,Z,(n:Int),some v,Z,_,Z,?_⟩⟩;let eb:pH (n:Int) (some v)=decide (0<=v/\v<(n:Int)):=rfl;rw[eb];let no:∀{H'},aL H H'->¬((0<=v/\v<(n:Int))/\v∉used.getD 0 []/\bT.out v∉done)->Q .non H':=λs c=>q _ _ s (by
   unfold oK;lk;rw[aA c];show Z)
  by_cases c1:0<=v/\v<(n:Int)
  ·rw[aV c1];show iQ ⟨_,Z,_,Z,rF hb0 ⟨_,Z,?_⟩⟩;by_cases c2:v∈used.getD 0 []
   ·rw[aV c2];show dB (dB (no (aL.refl _) λh=>h.2.1 c2))
   ·rw[cI c2];show iQ ⟨_,Z,(),λp2 H2 n2=>?_⟩;show⟨_,Z,xQ (s:=.out v) (n2.same.seq hD) (Paired.cA pD λ_ _ h=>uM.same n2.same h) (cJ.of n2.here) ⟨_,Z,?_⟩⟩;by_cases c3:bT.out v∈done
    ·rw[aV c3];show dB (no n2.same λh=>h.2.2 c3)
    ·rw[cI c3];show iQ ⟨_,Z,_,Z,(),λp3 H3 n3=>?_⟩;show⟨b0,p3,_,[v],Z,(n2.same.trans n3.same).seq hb0,bD.of n3.here,sm0,λx hx=>by rw[bK.mp hx];omega,λH4 p5 H5 s4 n5=>?_⟩;show q _ H5 (n2.same.trans (n3.same.trans (s4.trans n5.same))) ?_;unfold oK;lk;rw[aB ⟨c1,c2,c3⟩];show⟨p5,Z,bD.of n5.here,.inl ((n2.same.trans (n3.same.trans s4)).free n5.fresh)⟩
  ·rw[cI c1];show dB (dB (no (aL.refl _) λh=>c1 h.1))
 |tie x y =>
  let⟨b0,a0,hb0,m0⟩:=Rt (k:=0) pU nu;show⟨_,Z,st,_,_,_,Z,Z,hS,Z,⟨_,Z,Z,_,Z,?_⟩⟩;rw[w20];show dB ⟨_,Z,us,_,_,_,Z,Z,hU,a0,⟨_,Z,Z,_,Z,?_⟩⟩;rw[w21];show dB ⟨_,Z,Z,_,Z,?_⟩;rw[aV rfl];let no:∀{H'},aL H H'->¬((x,y)∈ts/\nY [x,y] (used.getD 0 [])=[]/\bT.tie x y∉done)->Q .non H':=λs c=>q _ _ s (by
   unfold oK;lk;rw[aA c];show Z)
  show iQ ⟨_,Z,_,Z,st,_,Z,hS,λh=>absurd h.1 (by show ¬HT.j6 3 0 (some 1)=0;decide),λp1 H1 n1=>?_⟩;show⟨_,Z,pg,_,_,_,Z,Z,n1.same.vU hP,Z,vX (x,y),ts.map vX,VD.isD ⟨p1,Z,cJ.of n1.here⟩,(hT.same n1.same).isD,Wo _,tW _,_,Z,?_⟩;rw[aA cN,a1h];by_cases c1:(x,y)∈ts
  ·rw[aV c1];show iQ ⟨_,Z,_,Z,st,_,Z,n1.same.vU hS,λh=>absurd h.1 (by show ¬HT.j6 3 0 (some 1)=0;decide),λp2 H2 n2=>?_⟩;let s2:=n1.same.trans n2.same;show⟨_,Z,.inl ⟨p2,b0,[x,y],_,Z,cJ.of n2.here,s2.seq hb0,(),λH4 p5 H5 s4 n5=>?_⟩⟩;let s5:=s2.trans (s4.trans n5.same);show⟨_,.inl ⟨_,bD.of n5.here,Z⟩,?_⟩;by_cases c2:nY [x,y] (used.getD 0 [])=[]
   ·rw[c2];show iQ ⟨_,Z,_,Z,xQ (s:=.tie x y) (s5.seq hD) (Paired.cA pD λ_ _ h=>uM.same s5 h) (s5.vU hS) ⟨_,Z,?_⟩⟩;by_cases c3:bT.tie x y∈done
    ·rw[aV c3];show dB (no s5 λh=>h.2.2 c3)
    ·rw[cI c3];show iQ ⟨_,Z,q _ H5 s5 ?_⟩;unfold oK;lk;rw[aB ⟨c1,c2,c3⟩];show⟨b0,Z,s5.seq hb0,.inr (Yh a0)⟩
   ·let e:((nY [x,y] (used.getD 0 [])).map V.int).isEmpty=false:=by
     cases c4:nY [x,y] (used.getD 0 [])with
     |nil=>show absurd c4 c2
     |cons _ _=>rfl
    rw[e];show dB (dB (no s5 λh=>c2 h.2.1))
  ·rw[cI c1];show dB (dB (no n1.same λh=>c1 h.1))
 |out v =>
  let⟨b0,a0,hb0,m0⟩:=Rt (k:=0) pU nu;show⟨_,Z,st,_,_,_,Z,Z,hS,Z,⟨_,Z,Z,_,Z,?_⟩⟩;rw[w30];show dB ⟨_,Z,us,_,_,_,Z,Z,hU,a0,⟨_,Z,Z,_,Z,?_⟩⟩;rw[w31];show dB ⟨_,Z,Z,_,Z,?_⟩;rw[w32];show dB ⟨_,Z,Z,_,Z,?_⟩;rw[aV rfl];let no:∀{H'},aL H H'->¬(v∈used.getD 0 []/\bT.out v∉done)->Q .non H':=λs c=>q _ _ s (by
   unfold oK;lk;rw[aA c];show Z)
  show iQ ⟨_,Z,st,_,_,_,Z,Z,hS,Z,_,Z,HN hb0 ⟨_,Z,?_⟩⟩;by_cases c1:v∈used.getD 0 []
  ·rw[aV c1];show iQ ⟨_,Z,_,Z,xQ (s:=.out v) hD pD hS ⟨_,Z,?_⟩⟩;by_cases c2:bT.out v∈done
   ·rw[aV c2];show dB (no (aL.refl _) λh=>h.2 c2)
   ·rw[cI c2];show iQ ⟨_,Z,_,Z,_,Z,st,_,Z,hS,λh=>absurd h.1 (by show ¬HT.j6 2 0 (some 1)=0;decide),λp2 H2 n2=>?_⟩;show .inr ⟨b0,p2,_,[v],Z,n2.same.seq hb0,cJ.of n2.here,(sm _ m0).2,λH4 p5 H5 s4 n5=>q _ H5 (n2.same.trans (s4.trans n5.same)) ?_⟩;unfold oK;lk;rw[aB ⟨c1,c2⟩];show⟨p5,Z,bD.of n5.here,.inl ((n2.same.trans s4).free n5.fresh)⟩
  ·rw[cI c1];show dB (dB (no (aL.refl _) λh=>c1 h.1))
 |join =>
  let⟨b0,a0,hb0,m0⟩:=Rt (k:=0) pU (jd () nu);let⟨b1,a1,hb1,m1⟩:=Rt (k:=1) pU (jd () nu);show⟨_,Z,st,_,_,_,Z,Z,hS,Z,⟨_,Z,Z,_,Z,?_⟩⟩;rw[w40];show dB ⟨_,Z,us,_,_,_,Z,Z,hU,a0,⟨_,Z,Z,_,Z,?_⟩⟩;rw[w41];show dB ⟨_,Z,Z,_,Z,?_⟩;rw[w42];show dB ⟨_,Z,Z,_,Z,?_⟩;rw[w43];show dB ⟨_,Z,_,Z,us,_,_,_,Z,Z,hU,a1,_,_,.lst hb0 (Ao.ints _),.lst hb1 (Ao.ints _),shaped_ints _,shaped_ints _,_,Z,?_⟩;rw[aA cN,Qw];by_cases c:used.getD 0 []=used.getD 1 []
  ·rw[aV c];show iQ ⟨_,Z,q _ H (aL.refl _) ?_⟩;unfold oK;lk;rw[aB c];show⟨b0,Z,hb0,.inr (Yh a0)⟩
  ·rw[cI c];show dB (q _ H (aL.refl _) ?_);unfold oK;lk;rw[aA c];show rfl
end
abbrev Fi:Stmt:=top 15
def uN:bN ["graph","steps","tops","feeds","pile","k","step","left","bag"] mD (aG Fi):={}
structure RS where
 aQ:List (ae)
 dz:List (ay)
 pile:ay
noncomputable def dX(s:bT)(r:RS):Nat:=r.pile.length-s.need
def qX(s:bT)(r:RS):List (ae):=(r.pile.drop (dX s r)).map λj=>r.aQ.getD j []
noncomputable def qC(n:Nat)(ts:ar)(ss:ax)(k:Nat)(r:RS):Option RS :=
 if(ss.getD k .leaf).need<=r.pile.length then
  (oK n ts (ss.take k) (ss.getD k .leaf) (qX (ss.getD k .leaf) r)).map λb=>⟨r.aQ++[b],r.dz++[r.pile.drop (dX (ss.getD k .leaf) r)],r.pile.take (dX (ss.getD k .leaf) r)++[k]⟩
 else none
def aY(n:Nat)(ts:ar)(ss:ax):Nat->RS×Bool
 |0=>(⟨[],[],[]⟩,true)
 |k+1=>if(aY n ts ss k).2=true then
   match qC n ts ss k (aY n ts ss k).1 with
   |some r=>(r,true)
   |none=>((aY n ts ss k).1,false)
  else((aY n ts ss k).1,false)
def b8(n:Nat)(ts:ar)(ss:ax):RS:=(aY n ts ss ss.length).1
theorem Je{n:Nat}{ts:ar}{ss:ax}{k:Nat}(h:(aY n ts ss k).2=false):∀m,k<=m->aY n ts ss m=((aY n ts ss k).1,false)
 |0,hm=>by
  grind
 |m+1,hm=>by
  by_cases c:k=m+1
  ·grind
  ·let ih:=Je h m ()
   show(if(aY n ts ss m).2=true then _ else _)=_
   rw[ih]
   rfl
structure a1i(i:Nat)(r:RS):Prop where
 tl:r.aQ.length=i
 fl:r.dz.length=i
 pl:r.pile.length<=i
 lt:∀j∈r.pile,j<i
 sm:∀b∈r.aQ,Small b/\b.length<=1000
 ff:∀f∈r.dz,f.length<=2
def ZK{n:Nat}{ts:ar}{done:ax}{s:bT}{used:List (ae)}{b:ae}(dJ:n<=10)(sm:∀b∈used,Small b/\b.length<=1000)(h:oK n ts done s used=some b):Small b/\b.length<=1000:=by
 let g:∀k,Small (used.getD k [])/\(used.getD k []).length<=1000:=λk=>by
  by_cases c:k<used.length
  ·rw[fY,bI c];show sm _ (nH c)
  ·rw[fY,List.getElem?_eq_none ()];show⟨λx hx=>absurd hx dZ,()⟩
 unfold oK at h;cases s with
 |leaf =>
  let:b=[]:=(dI h).symm;subst this;show⟨λx hx=>absurd hx dZ,()⟩
 |inn v =>
  dsimp only at h;split at h
  ·rw[<-dI h];show⟨λx hx=>?_,?_⟩
   ·let⟨h1,h2,_⟩:=yh.mp hx;show⟨h1,h2⟩
   ·unfold gK Qf;grind
  ·cases h
 |tie x y =>
  dsimp only at h;split at h
  ·rw[<-dI h];show g 0
  ·cases h
 |out v =>
  dsimp only at h;split at h
  ·rw[<-dI h];show⟨λx hx=>(g 0).1 x (jT.mp hx).1,cG (yS _ _) (g 0).2⟩
  ·cases h
 |join =>
  dsimp only at h;split at h
  ·rw[<-dI h];show g 0
  ·cases h
theorem jx{n:Nat}{ts:ar}{ss:ax}(dJ:n<=10):∀{i:Nat},(aY n ts ss i).2=true->a1i i (aY n ts ss i).1
 |0,_=>⟨Z,Z,aK _,λj h=>absurd h dZ,λb h=>absurd h dZ,λb h=>absurd h dZ⟩
 |i+1,h=>by
  let e:aY n ts ss (i+1)=if(aY n ts ss i).2=true then
   (match qC n ts ss i (aY n ts ss i).1 with
   |some r=>(r,true)
   |none=>((aY n ts ss i).1,false))
  else((aY n ts ss i).1,false):=rfl
  rw[e]at h ⊢
  by_cases c:(aY n ts ss i).2=true
  ·let I:=jx dJ c
   rw[aB c]at h ⊢
   cases d:qC n ts ss i (aY n ts ss i).1 with
   |none=>grind
   |some r =>
    lk
    unfold qC at d
    split at d
    ·let⟨b,hb,er⟩:=jP.mp d
     rw[<-er]
     let sb:=ZK dJ (λx hx=>by
      let⟨j,hj,e⟩:=fH.mp hx
      let jl:=I.lt j (yU hj)
      rw[<-e,fY,bI (by rw[I.tl];show jl)]
      show I.sm _ (nH _)) hb
     show⟨?_,?_,?_,λj hj=>?_,λx hx=>?_,λf hf=>?_⟩
     ·show(_++[b]).length=_
      rw[cu,I.tl];rfl
     ·show(_++[_]).length=_
      rw[cu,I.fl];rfl
     ·show(_++[i]).length<=_
      rw[cu,dY]
      let:=I.pl
      show min _ _+1<=_
      omega
     ·rcases cV.mp hj with hj|hj
      ·let:=I.lt j (jQ hj)
       omega
      grind
     ·rcases cV.mp hx with hx|hx
      ·show I.sm x hx
      ·rw[bK.mp hx];show sb
     ·rcases cV.mp hf with hf|hf
      ·show I.ff f hf
      ·rw[bK.mp hf,iK]
       unfold dX
       let:(ss.getD i .leaf).need<=2:=by cases ss.getD i .leaf<;>simp[bT.need]
       omega
    ·cases d
  grind
def Œ{n:Nat}{ts:ar}{ss:ax}{i:Nat}{r:RS}(c:(aY n ts ss i).2=true)(d:qC n ts ss i (aY n ts ss i).1=some r):aY n ts ss (i+1)=(r,true):=by
 show(if(aY n ts ss i).2=true then _ else _)=_;grind
def a1j{n:Nat}{ts:ar}{ss:ax}{i:Nat}(il:i<ss.length)(c:(aY n ts ss i).2=true)(d:qC n ts ss i (aY n ts ss i).1=none):b8 n ts ss=(aY n ts ss i).1:=by
 let e:aY n ts ss (i+1)=((aY n ts ss i).1,false):=by
  show(if(aY n ts ss i).2=true then _ else _)=_;grind
 unfold b8;rw[Je (k:=i+1) (by rw[e]) ss.length il,e]
abbrev yC(l:ay):af:=l.map λ(x:Nat)=>V.int (x:Int)
def wD(ex:aI)(K:aJ)(H:Hp)(v:V)(b:ae):Prop:=∃p,v=.ref p/\bD K H p (b.map V.int)/\p∉ex
def wD.same{K:aJ}{H H':Hp}{v:V}{b:ae}(s:aL H H')(h:wD ex K H v b):wD ex K H' v b:=by
 let⟨p,e,q,n⟩:=h;show⟨p,e,s.seq q,n⟩
def wD.l{K:aJ}{H:Hp}{v:V}{b:ae}(h:wD ex K H v b):V6 K H v b:=by
 let⟨p,e,q,n⟩:=h;show⟨p,e,q⟩
def a1k{K:aJ}{H H':Hp}{a p:Addr}{o:HO}{xs:af}(c:vB H a o H')(n:p≠a)(h:bD K H p xs):bD K H' p xs:=by
 rcases h with h|h
 ·show .inl ?_;rcases h with h|⟨u,h⟩
  ·show .inl ((c.rest p n).trans h)
  ·show .inr ⟨u,(c.rest p n).trans h⟩
 ·show .inr h
def wD.chg{K:aJ}{H H':Hp}{a:Addr}{o:HO}{v:V}{b:ae}(c:vB H a o H')(ha:a∈ex)(h:wD ex K H v b):wD ex K H' v b:=by
 let⟨p,e,q,n⟩:=h;show⟨p,e,a1k c (λz=>n (z▸ha)) q,n⟩
def zG(ex:aI)(H:Hp)(q:Addr)(f:ay):Prop:=H q=↥(yC f)/\q∉ex
def zG.same{H H':Hp}{q:Addr}{f:ay}(s:aL H H')(h:zG ex H q f):zG ex H' q f:=⟨s _ _ h.1,h.2⟩
def zG.chg{H H':Hp}{a:Addr}{o:HO}{q:Addr}{f:ay}(c:vB H a o H')(ha:a∈ex)(h:zG ex H q f):zG ex H' q f:=⟨(c.rest q λz=>h.2 (z▸ha)).trans h.1,h.2⟩
def Ru(xs:af)(k:Nat)(h:k<=xs.length):uH xs none (some (k:Int))=xs.take k:=by
 unfold uH;let e1:HT.j6 xs.length xs.length (some (k:Int))=k:=by
  show min _ _=k;simp;omega
 let e2:HT.j6 xs.length 0 none=0:=rfl;rw[e1,e2,U4,wY]
def Rv(xs:af)(k:Nat)(h:k<=xs.length):uH xs (some (k:Int)) none=xs.drop k:=by
 unfold uH;let e1:HT.j6 xs.length 0 (some (k:Int))=k:=by
  show min _ _=k;grind
 let e2:HT.j6 xs.length xs.length none=xs.length:=rfl;rw[e1,e2,Cp (by rw[iK];omega)]
theorem Jf{α β:Type}{R:α->β->Prop}:∀{xs:List α}{ys:List β} (i:Nat),Paired R xs ys->Paired R (xs.take i) (ys.take i)
 |_,_,0,_=>.nil
 |_,_,_+1,.nil=>.nil
 |_,_,i+1,.cons q r=>.cons q (Jf i r)
def a74(ex:aI)(K:aJ)(H:Hp)(v:V):Option (ae)->Prop
 |none=>v=.non
 |some b=>wD ex K H v b
theorem Ld{ex:aI}{K:aJ}{H:Hp}{vt:af}{aQ:List (ae)}(p:Paired (wD ex K H) vt aQ):∀l:ay,(∀j∈l,j<aQ.length)->Paired (V6 K H) (l.map λj=>vt.getD j .non) (l.map λj=>aQ.getD j [])
 | [],_=>.nil
 |j::r,h=>by
  let jl:=h j aZ
  let⟨x,hx,hb⟩:=cO p (bI jl)
  show .cons ?_ (Ld p r λi hi=>h i (bJ _ hi))
  lk
  rw[fY,hx,fY,bI jl]
  show hb.l
inductive a6l(K:aJ)(vs:af)(H:Hp)(Q:VK)(u_3:XK):Prop
 |mk (g:V) (n:Nat) (ts:ar) (a:Addr) (xs:af) (ss:ax) (_:vs=[g,.ref a]) (_:uJ K H g n ts) (_:n<=10) (_:bD K H a xs) (_:Paired (uM K H) xs ss) (_:ss.length<=900) (_:∀r pt pf pp vt fs H',aL H H'->H' r= ~~~[.ref pt,.ref pf,.ref pp]->H pt=none->H pf=none->H pp=none->H' pt=↥vt->H' pf=↥(fs.map V.ref)->zG [pt,pf] H' pp (b8 n ts ss).pile->Paired (wD [pt,pf] K H') vt (b8 n ts ss).aQ->Paired (zG [pt,pf] H') fs (b8 n ts ss).dz->Q (.ref r) H')
inductive a6m(K:aJ)(g:V)(a p1 p2:Addr)(n:Nat)(ts:ar)(ss:ax)(H:Hp)(i:Nat)(σ:St)(H':Hp):Prop
 |mk (vt:af) (fs:aI) (pp:Addr) (a5 a6 a7 a8:Option V) (_:σ=[some g,⇑a,⇑p1,⇑p2,⇑pp,a5,a6,a7,a8]) (_:aL H H') (_:H' p1=↥vt) (_:H' p2=↥(fs.map V.ref)) (_:(aY n ts ss i).2=true) (_:H pp=none) (_:zG [p1,p2] H' pp (aY n ts ss i).1.pile) (_:Paired (wD [p1,p2] K H') vt (aY n ts ss i).1.aQ) (_:Paired (zG [p1,p2] H') fs (aY n ts ss i).1.dz)
section
variable{K:aJ}
def a4i(B:Bl mg)(U:Used w K mg)(lK:DG K mg)(jK:Dn K mg "is_below" fM sV)(oJ:Dn K mg "joint" nU jJ)(mV:Dn K mg "less" qP jJ)(tM:Dn K mg "bag_behind" fO Bh)(wF:Dn K mg "run" Fi mD):⋯ 4 wF.f wF.fd mD (a6l K):=by
 let a75:⋯ 3 _ _ _ _:=Ke B lK jK oJ mV tM;show wF.F.ok uN λd7 A outer s H vs Q E hr h=>?_;let⟨g,n,ts,a,xs,ss,rfl,hG,dJ,hA,pA,a6n,q⟩:=h;let lx:=aW pA;show⟨_,(aD (aX 2 uN.nd (cF aj))
   (aD (aX 3 uN.nd (cF aj))
   (aD (aX 4 uN.nd (cF aj))
   (aD (gQ gH Z (a0z (K:=K) Z Z B.enumerate (O (pv 1) aj)) (jr (K:=K) (n:=2) Z Z (bQ (aM 5 uN.nd) (bQ (aM 6 uN.nd) iD)))
   (aD (aX 7 uN.nd (bh Hw (aU (bR (K:=K) Z) Z B.len () (O (pv 4) aj)) (a0R U Z (aP (aO (K:=K) Z) (pv 6) aq) λ_ _=>rfl)))
   (aD (aX 8 uN.nd nM)
   (jw (cM (aN a5f (pv 7) aq)
   (aF (aX 8 uN.nd (bx a75 hr Z tM.m tM.F.kp tM.b .nil bZ (O (pv 0) (O (fj (w6 (K:=K) Z) (pv 1) fZ (gb (pv 5))) (O (pv 6) (O (lU ["j","tops"] [none,some 2]  (by kernel_rfl) Z (eE (K:=K) Z (fj (w6 (K:=K) Z) (pv 4) (gb (pv 7)) fZ)) (λ_ _ _ _ _=>(aM 0 (show(["j","tops"]:ag).Nodup by decide))) (λ_ _ _ _ _=>gj) λ_ _ _ _ _=>(aP (bf (K:=K) Z) (pv 1) (pv 0))) aj)))))))
   bA)
   (aD (cM (aN ï (pv 8) nM)
   (aF è)
   bA)
   (aD (fL (iR (K:=K) Z jc PySem.F.slot_list_append PySem.F.type_list_append fC (pv 2) (O (pv 8) aj)))
   (aD (fL (iR (K:=K) Z jc PySem.F.slot_list_append PySem.F.type_list_append fC (pv 3) (O (fj (w6 (K:=K) Z) (pv 4) (gb (pv 7)) fZ) aj)))
   (aF (aX 4 uN.nd (bh mJ (fj (w6 (K:=K) Z) (pv 4) fZ (gb (pv 7))) (cF (O (pv 5) aj))))))))))))
   (aF (bH (bL (O (pv 2) (O (pv 3) (O (pv 4) aj)))))))))),?_⟩
 show⟨(),λp1 H1 n1=>⟨(),λp2 H2 n2=>⟨(),λp3 H3 n3=>?_⟩⟩⟩;let s3:=n1.same.trans (n2.same.trans n3.same);let f1:H p1=none:=n1.fresh;let f2:H p2=none:=n1.same.free n2.fresh;let f3:H p3=none:=n1.same.free (n2.same.free n3.fresh);let n12:p1≠p2:=n2.ne n1.here;let n13:p3≠p1:=(n3.ne (n2.same _ _ n1.here)).symm;let n23:p3≠p2:=(n3.ne n2.here).symm;let ret:∀{H':Hp}{pp:Addr}{vt:af}{fs:aI}{a5 a6 a7 a8:Option V},aL H H'->H pp=none->H' p1=↥vt->H' p2=↥(fs.map V.ref)->zG [p1,p2] H' pp (b8 n ts ss).pile->Paired (wD [p1,p2] K H') vt (b8 n ts ss).aQ->Paired (zG [p1,p2] H') fs (b8 n ts ss).dz->a4Y (a2h (Xg (Vb 2) (Xg (Vb 3) (Xg (Vb 4) a5k)))) { nx:=λx H'=>Q V.non H',rt:=Q} [some g,⇑a,⇑p1,⇑p2,⇑pp,a5,a6,a7,a8] H':=λ{H' pp vt fs a5 a6 a7 a8} s fp h1 h2 h3 h4 h5=>by
  show⟨_,Z,_,Z,_,Z,(),λpr Hr nr=>?_⟩;show q pr p1 p2 pp vt fs Hr (s.trans nr.same) nr.here f1 f2 fp (nr.same _ _ h1) (nr.same _ _ h2) (h3.same nr.same) (Paired.cA h4 λ_ _ h=>h.same nr.same) (Paired.cA h5 λ_ _ h=>h.same nr.same)
 show⟨_,Z,a,Z,⟨_,s3.seq hA⟩,Wj (P:=λi σ H'=>a6m K g a p1 p2 n ts ss H i σ H') λZ97 ji ij=>?_⟩;show Ċ (xs:=xs) Z97 (ji _ _ _ ⟨[],[],p3,none,none,none,none,Z,s3,n3.same _ _ (n2.same _ _ n1.here),n3.same _ _ n2.here,Z,f3,⟨n3.here,by simp[n13,n23]⟩,.nil,.nil⟩) (λi σ H' _ h=>by
  let⟨_,_,_,_,_,_,_,_,s,_⟩:=ij _ _ _ h;show s.seq hA) ?_ ?_
 ·intro i x σ H4 pz H5 hi hJ nz;let⟨vt,fs,pp,a5,a6,a7,a8,rfl,s4,h1,h2,go,fp,Dz,pv,pf⟩:=ij _ _ _ hJ;let⟨sp,hsp,⟨ps,rfl,hps⟩⟩:=bB pA hi;let il:i<ss.length:=(eG.mp hsp).1;let esp:ss.getD i .leaf=sp:=by rw[fY,hsp];rfl
  let I:=jx (n:=n) (ts:=ts) (ss:=ss) dJ go;obtain⟨R,eR⟩:∃R,R=(aY n ts ss i).1:=⟨_,Z⟩;rw[<-eR]at I Dz pv pf;let s5:=s4.trans nz.same;show⟨pz,_,Z,cJ.of nz.here,Z,_,_,Z,_,_,Z,Z,?_⟩;let a6o:=(Dz.same nz.same).1;show⟨_,Z,pp,_,Z,.inl (bD.of a6o),_,Z,ps,_,((0:Nat):Int),_,Z,Z,s5.vU hps,yp sp,.inr sp.word,_,Z,a05 sp,_,_,Z,Z,?_⟩;lk;rw[aH];obtain⟨lf,elf⟩:∃lf:Int,((R.pile.length:Nat):Int)-((sp.need:Nat):Int)=lf:=⟨_,Z⟩;rw[elf];show⟨λσ' H'=>∃bv:V,σ'=[some g,⇑a,⇑p1,⇑p2,⇑pp,some (.int (i:Int)),⇑ps,some (.int lf),some bv]/\aL H5 H'/\((sp.need<=R.pile.length/\a74 [p1,p2] K H' bv (oK n ts (ss.take i) sp (qX sp R)))\/(¬sp.need<=R.pile.length/\bv=.non)),?_,?_⟩
  ·show⟨_,Z,_,_,Z,Z,_,Z,nC (λc=>?_) λc=>⟨.non,Z,aL.refl _,.inr ⟨?_,Z⟩⟩⟩
   ·let c':(0:Int)<=lf:=dw c;let nl:sp.need<=R.pile.length:=()
    let el:lf=((dX sp R:Nat):Int):=by unfold dX;omega
    let ll:dX sp R<=R.pile.length:=by unfold dX;omega
    rw[el];show⟨_,Z,_,Z,_,Z,_,Z,a,_,Z,s5.seq hA,λp6 H6 n6=>?_⟩;rw[Ru _ _ ()]at n6;show⟨_,Z,_,Z,_,Z,_,Z,pp,_,Z,bD.of (n6.same _ _ a6o),λp7 H7 n7=>?_⟩;rw[Rv _ _ (by rw[aH];show ll)]at n7;let s57:=n6.same.trans n7.same;let ed:(yC R.pile).drop (dX sp R)=yC (R.pile.drop (dX sp R)):=by unfold yC;rw[U8]
    rw[ed]at n7;let h17:=s57 _ _ (nz.same _ _ h1);let lv:=aW pv;let jt:∀j∈R.pile.drop (dX sp R),j<R.aQ.length:=λj hj=>by rw[I.tl];show I.lt j (yU hj)
    show⟨p7,Z,⟨_,bD.of n7.here⟩,?_⟩;show HJ (λv=>match v with |.int z=>some (vt.getD z.toNat .non)|_=>none) (bD.of n7.here) (by rw[aH,iK];let:=I.pl;omega) (λv H8 N hv8 s8 hN=>?_) (λH8 p9 H9 s8 n9=>?_)
    ·let⟨j,hj,rfl⟩:=fH.mp hv8;let jl:j<vt.length:=by rw[lv];show jt j hj
     let hN':=hN H8 s8;dsimp only at hN';rw[ig]at hN';show⟨_,Z,_,Z,p1,_,_,_,Z,Z,bD.of (s8 _ _ h17),bW (bI jl),?_⟩;rw[fY,bI jl]at hN';show hN'
    let e9:(yC (R.pile.drop (dX sp R))).filterMap (λv=>match v with |.int z=>some (vt.getD z.toNat .non)|_=>none)=(R.pile.drop (dX sp R)).map λj=>vt.getD j .non:=by
     unfold yC;rw[MN];show(vW λj _=>?_);show some (vt.getD ((j:Int)).toNat V.non)=_;rw[ig]
    rw[e9]at n9;let s59:=s57.trans (s8.trans n9.same);let s69:=n7.same.trans (s8.trans n9.same);let pv9:=Paired.cA pv λ_ _ h=>h.same (nz.same.trans s59);show⟨g,n,ts,p6,ps,p9,xs.take i,_,ss.take i,sp,qX sp R,Z,(hG.same s5).same s59,dJ,bD.of (s69 _ _ n6.here),Jf i (Paired.cA pA λ_ _ h=>(h.same s5).same s59),(s5.trans s59).vU hps,bD.of n9.here,Ld pv9 _ jt,?_,λb hb=>?_,λr H10 s10 bn=>?_⟩
    ·unfold qX;rw[aH,iK];unfold dX;omega
    ·let⟨j,hj,rfl⟩:=fH.mp hb;rw[fY,bI (jt j hj)];show I.sm _ (nH _)
    show⟨r,Z,s59.trans s10,.inl ⟨nl,?_⟩⟩;cases eb:oK n ts (ss.take i) sp (qX sp R)with
    |none=>rw[eb]at bn;show bn
    |some b =>
     rw[eb]at bn;let⟨p,e,hp,h⟩:=bn;show⟨p,e,hp,?_⟩;rcases h with h|h
     ·let k1:H9 p1=↥vt:=s59 _ _ (nz.same _ _ h1);let k2:H9 p2=↥(fs.map V.ref):=s59 _ _ (nz.same _ _ h2);intro hm;rcases bO.mp hm with hm|hm
      ·rw[hm,k1]at h;cases h
      ·rw[bK.mp hm,k2]at h;cases h
     ·let⟨j,hj,ej⟩:=fH.mp h;let jl:j<vt.length:=by rw[lv];show jt j hj
      let⟨b',_,⟨p',e',_,np⟩⟩:=bB pv (bI jl);rw[fY,bI jl,Option.getD_some,e']at ej;injection ej with ej
      rw[<-ej];show np
   ·let c':¬(0:Int)<=lf:=Uj (wR.mpr c);omega
  rintro σ' H6 ⟨bv,rfl,s6,wb⟩;let s46:=nz.same.trans s6;let h16:=s46 _ _ h1;let h26:=s46 _ _ h2;let a6p:=Dz.same s46;let pv6:=Paired.cA pv λ_ _ h=>h.same s46;let pf6:=Paired.cA pf λ_ _ h=>h.same s46;let sH6:=s4.trans s46;let stop:bv=.non->qC n ts ss i R=none:=λe=>by
   unfold qC;rw[esp];rcases wb with⟨nl,w⟩|⟨nl,_⟩
   ·rw[aB nl];cases eb:oK n ts (ss.take i) sp (qX sp R)with
    |none=>rfl
    |some b =>
     rw[eb]at w;let⟨p,e',_⟩:=w;rw[e]at e';cases e'
   ·rw[aA nl]
  show⟨_,Z,Z,_,Z,?_⟩;by_cases cn:bv=.non
  ·rw[aV cn];show iQ ?_;let ee:=a1j il go (by rw[<-eR];show stop cn);rw[<-eR]at ee;show ret sH6 fp h16 h26 ?_ ?_ ?_
   ·rw[ee];show a6p
   ·rw[ee];show pv6
   ·rw[ee];show pf6
  ·rw[cI cn];show dB ?_;obtain⟨nl,b,eb,p,rfl,hp,np⟩:sp.need<=R.pile.length/\∃b,oK n ts (ss.take i) sp (qX sp R)=some b/\wD [p1,p2] K H6 bv b:=by
    rcases wb with⟨nl,w⟩|⟨_,e⟩
    ·show⟨nl,?_⟩;cases eb:oK n ts (ss.take i) sp (qX sp R)with
     |none=>rw[eb]at w;show absurd w cn
     |some b=>rw[eb]at w;show⟨b,Z,w⟩
    ·show absurd e cn
   let el:lf=((dX sp R:Nat):Int):=by unfold dX;omega
   let ll:dX sp R<=R.pile.length:=by unfold dX;omega
   rw[el];let lv:=aW pv;let lff:=aW pf;let tl:=I.tl;let fl:=I.fl;let pl:=I.pl;let es:qC n ts ss i R=some ⟨R.aQ++[b],R.dz++[R.pile.drop (dX sp R)],R.pile.take (dX sp R)++[i]⟩:=by
    unfold qC;rw[esp,aB nl,eb];rfl
   let er:=Œ go (by rw[<-eR];show es);let m1:p1∈[p1,p2]:=aZ;let m2:p2∈[p1,p2]:=bJ _ (bK.mpr Z);show⟨_,Z,.inl ⟨Z,_,bD.of h16⟩,_,Z,p1,vt,_,Z,Z,h16,(),λH7 c7=>?_⟩;let h27:H7 p2=↥(fs.map V.ref):=(c7.rest p2 (Ne.symm n12)).trans h26;let a6q:=a6p.chg c7 m1;show⟨_,Z,.inl ⟨Z,_,bD.of h27⟩,_,Z,_,Z,_,Z,pp,_,Z,bD.of a6q.1,λp8 H8 n8=>?_⟩;rw[Rv _ _ (by rw[aH];show ll),show(yC R.pile).drop (dX sp R)=yC (R.pile.drop (dX sp R)) by unfold yC;rw[U8]]at n8;let h28:=n8.same _ _ h27;show⟨p2,_,_,Z,Z,h28,by rw[aH];omega,λH9 c9=>?_⟩;let n81:p8∉[p1,p2]:=λhm=>by
    let f8:=n8.fresh;rcases bO.mp hm with hm|hm
    ·rw[hm,c7.here]at f8;cases f8
    ·rw[bK.mp hm,h27]at f8;cases f8
   let h19:H9 p1=↥(vt++[.ref p]):=(c9.rest p1 n12).trans (n8.same _ _ c7.here);let a76:=(a6q.same n8.same).chg c9 m2;show⟨_,Z,_,Z,_,Z,pp,_,Z,bD.of a76.1,λp10 H10 wG=>?_⟩;rw[Ru _ _ (by rw[aH];show ll),show(yC R.pile).take (dX sp R)=yC (R.pile.take (dX sp R)) by unfold yC;rw[U9]]at wG;show⟨_,Z,(),λp11 H11 Cj=>?_⟩;show⟨p10,p11,_,_,Z,Z,Cj.same _ _ wG.here,Cj.here,by rw[aH,dY];show min _ _+1<=1000;omega,λp12 H12 a1l=>?_⟩;let Jg:=wG.same.trans (Cj.same.trans a1l.same);let sH9:aL H H9:=((sH6.chg f1 c7).trans n8.same).chg f2 c9;let f12:H p12=none:=sH9.free (wG.same.free (Cj.same.free a1l.fresh));show ji _ _ _ ⟨vt++[.ref p],fs++[p8],p12,_,_,_,_,Z,sH9.trans Jg,Jg _ _ h19,?_,by rw[er],f12,?_,?_,?_⟩
   ·let:=Jg _ _ c9.here;rw[this,cW];rfl
   ·rw[er];show⟨?_,λhm=>?_⟩
    ·rw[a1l.here];unfold yC;rw[cW];rfl
    ·let g:=a1l.fresh;rcases bO.mp hm with hm|hm
     ·rw[hm,Cj.same _ _ (wG.same _ _ h19)]at g;cases g
     ·rw[bK.mp hm,Cj.same _ _ (wG.same _ _ c9.here)]at g;cases g
   ·rw[er];show eX (Paired.cA pv6 λ_ _ h=>(((h.chg c7 m1).same n8.same).chg c9 m2).same Jg) ((((wD.chg c7 m1 ⟨p,Z,hp,np⟩).same n8.same).chg c9 m2).same Jg)
   ·rw[er];show eX (Paired.cA pf6 λ_ _ h=>(((h.chg c7 m1).same n8.same).chg c9 m2).same Jg) ((zG.chg c9 m2 ⟨n8.here,n81⟩).same Jg)
 ·intro σ H4 hJ;let⟨vt,fs,pp,a5,a6,a7,a8,rfl,s4,h1,h2,go,fp,Dz,pv,pf⟩:=ij _ _ _ hJ;rw[lx]at Dz pv pf;show ret s4 fp h1 h2 Dz pv pf
end
abbrev fu:Stmt:=top 17
def mK:bN ["graph","steps","tops","pile","v","a","b"] EY (aG fu):={}
inductive a6r where
 |ok
 |step (k:Nat)
 |pile
 |place (v:Nat)
 |tie (a b:Int)
noncomputable def Le(R:RS):List (ae):=R.pile.map λj=>R.aQ.getD j []
noncomputable def Br(n:Nat)(ts:ar)(ss:ax)(R:RS):a6r :=
 if R.aQ.length<ss.length then .step R.aQ.length
 else if Le R=[[]]then
  match(List.range n).find? λ(v:Nat)=>!decide (bT.inn (v:Int)∈ss)with
  |some v=>.place v
  |none=>match ts.find? λt=>!decide (bT.tie t.1 t.2∈ss)with
   |some t=>.tie t.1 t.2
   |none=>.ok
 else .pile
noncomputable def a6s(H:Hp)(v:V):a6r->Prop
 |.ok=>v=.non
 |.step k=>∃p,v=.ref p/\H p= ~~~[.str "step",.int (k:Int)]
 |.pile=>∃p,v=.ref p/\H p= ~~~[.str "pile"]
 |.place v'=>∃p,v=.ref p/\H p= ~~~[.str "place",.int (v':Int)]
 |.tie a b=>∃p,v=.ref p/\H p= ~~~[.str "tie",.int a,.int b]
noncomputable def Jh(b:ae):PyData:=.list (b.map PyData.int)
def a1m(b:ae):(Jh b).canLay0=true:=by
 let h:=shaped_ints b;unfold SeqAt.shaped at h;rw[gq]at h;show h.1
def ZL(b:ae):(Jh b).depth<=1:=by
 unfold Jh;rw[PyData.depth];let:=u9 (k:=0) (f:=PyData.int) (λb=>by simp[PyData.depth]) b;omega
def Fj(bs:List (ae)):SeqAt.shaped (.list (bs.map Jh))=true:=by
 unfold SeqAt.shaped;rw[PyData.canLay0,Gg a1m,PyData.depth,Hl];show aV (by let:=u9 ZL bs;omega)
theorem Rx:∀xs ys:List (ae),PyData.eqvAll (xs.map Jh) (ys.map Jh)=decide (xs=ys)
 | [],[]=>by simp[PyData.eqvAll]
 | [],_::_=>by simp[PyData.eqvAll]
 |_::_,[]=>by simp[PyData.eqvAll]
 |x::xs,y::ys=>by
  rw[cC,cC,PyData.eqvAll,Rx xs ys,show PyData.eqv (Jh x) (Jh y)=decide (x=y)from Qw x y,rR]
  simp
def œ{K:aJ}{H:Hp}{v:V}{s:ae}(h:V6 K H v s):JX K H v (Jh s):=by
 let⟨p,rfl,h⟩:=h;show .lst h (Ao.ints _)
inductive Ŕ(K:aJ)(vs:af)(H:Hp)(Q:VK)(u_3:XK):Prop
 |mk (g:V) (n:Nat) (ts:ar) (a pt pp:Addr) (xs vt:af) (ss:ax) (R:RS) (_:vs=[g,.ref a,.ref pt,.ref pp]) (_:uJ K H g n ts) (_:n<=10) (_:bD K H a xs) (_:Paired (uM K H) xs ss) (_:bD K H pt vt) (_:Paired (V6 K H) vt R.aQ) (_:bD K H pp (yC R.pile)) (_:(∀j∈R.pile,j<R.aQ.length)) (_:R.pile.length<=1000) (_:∀r H',aL H H'->a6s H' r (Br n ts ss R)->Q r H')
section
variable{K:aJ}
def Fz(B:Bl mg)(vp:Dn K mg "fault_behind" fu EY):⋯ 1 vp.f vp.fd EY (Ŕ K):=by
 show vp.F.ok mK λd7 A outer s H vs Q E hr h=>?_;let⟨g,n,ts,a,pt,pp,xs,vt,ss,R,rfl,hG,dJ,hA,pA,hV,pV,hPp,jl,a6t,q⟩:=h;let hu:(A.deeper (PyProof.Rows.envOfC "fault_behind" (aG fu) s⁻¹ vp.f d7)).units+64<cLine:=by let:=hr.un;omega
 let hv:(A.deeper (PyProof.Rows.envOfC "fault_behind" (aG fu) s⁻¹ vp.f d7)).units+65<cLine:=by let:=hr.un;omega
 let⟨pg,ta,rfl,hP,hT⟩:=id hG;let lx:=aW pA;let lv:=aW pV;show⟨_,(aD (cM (aN Ae (aU (bR (K:=K) Z) Z B.len () (O (pv 2) aj)) (aU (bR (K:=K) Z) Z B.len () (O (pv 1) aj)))
   (aF (bH (bL (O fV (O (aU (bR (K:=K) Z) Z B.len () (O (pv 2) aj)) aj)))))
   bA)
   (aD (cM (aN (Xm (K:=K) Z hu) (lU ["k","tops"] [none,some 2]  (by kernel_rfl) Z (eE (K:=K) Z (pv 3)) (λ_ _ _ _ _=>(aM 0 (show(["k","tops"]:ag).Nodup by decide))) (λ_ _ _ _ _=>gj) λ_ _ _ _ _=>(aP (bf (K:=K) Z) (pv 1) (pv 0))) (cF (O (cF aj) aj)))
   (aF (bH (bL (O fV aj))))
   bA)
   (aD (gQ gH Z (iV Z B.range (O (aP (aO (K:=K) Z) (pv 0) aq) aj)) (aM 4 mK.nd)
   (aF (cM (aN (iC (K:=K) Z hv) (bL (O fV (O (pv 4) aj))) (pv 1) (by with_unfolding_all rfl))
   (aF (bH (bL (O fV (O (pv 4) aj)))))
   bA)))
   (aD (gQ gH Z (eE (K:=K) Z (aP (aO (K:=K) Z) (pv 0) aq)) (jr (K:=K) (n:=2) Z Z (bQ (aM 5 mK.nd) (bQ (aM 6 mK.nd) iD)))
   (aF (cM (aN (iC (K:=K) Z hv) (bL (O fV (O (pv 5) (O (pv 6) aj)))) (pv 1) (by with_unfolding_all rfl))
   (aF (bH (bL (O fV (O (pv 5) (O (pv 6) aj))))))
   bA)))
   (aF (bH nM)))))),?_⟩
 show⟨_,Z,pt,_,Z,.inl hV,_,Z,a,_,Z,.inl hA,_,_,Z,Z,_,Z,?_⟩;rw[lv,lx];by_cases c1:R.aQ.length<ss.length
 ·rw[aV (show((R.aQ.length:Nat):Int)<((ss.length:Nat):Int) by omega)];show iQ ⟨_,Z,pt,_,Z,.inl hV,(),λp1 H1 n1=>q _ H1 n1.same ?_⟩;unfold Br;rw[aB c1];rw[lv]at n1;show⟨p1,Z,n1.here⟩
 ·rw[cI (show ¬((R.aQ.length:Nat):Int)<((ss.length:Nat):Int) by omega)];show dB ⟨_,Z,pp,Z,⟨_,hPp⟩,?_⟩;show HJ (λv=>match v with |.int z=>some (vt.getD z.toNat .non)|_=>none) hPp (by rw[aH];show a6t) (λv H8 N hv8 s8 hN=>?_) (λH8 p9 H9 s8 n9=>?_)
  ·let⟨j,hj,rfl⟩:=fH.mp hv8;let jv:j<vt.length:=by rw[lv];show jl j hj
   let hN':=hN H8 s8;dsimp only at hN';rw[ig]at hN';show⟨_,Z,_,Z,pt,_,_,_,Z,Z,s8.seq hV,bW (bI jv),?_⟩;rw[fY,bI jv]at hN';show hN'
  let e9:(yC R.pile).filterMap (λv=>match v with |.int z=>some (vt.getD z.toNat .non)|_=>none)=R.pile.map λj=>vt.getD j .non:=by
   unfold yC;rw[MN];show(vW λj _=>?_);show some (vt.getD ((j:Int)).toNat V.non)=_;rw[ig]
  rw[e9]at n9;let s09:=s8.trans n9.same;let laid:∀l:ay,(∀j∈l,j<R.aQ.length)->Paired (V6 K H9) (l.map λj=>vt.getD j .non) (l.map λj=>R.aQ.getD j []):=λl=>by
   induction l with
   |nil=>show λ_=>.nil
   |cons j r ih =>
    intro h;let jl:=h j aZ;let⟨x,hx,p,e,hb⟩:=cO pV (bI jl);show .cons ?_ (ih λi hi=>h i (bJ _ hi));lk;rw[fY,hx,fY,bI jl];show⟨p,e,s09.seq hb⟩
  show⟨(),λp10 H10 wG=>⟨(),λp11 H11 Cj=>?_⟩⟩;let ŕ:=wG.same.trans Cj.same;show⟨.list ((Le R).map Jh),.list ([[]].map Jh),.lst (bD.of (ŕ _ _ n9.here)) (Aw (λ_ _ h=>œ h) (Paired.cA (laid R.pile jl) λ_ _ ⟨p,e,hb⟩=>⟨p,e,ŕ.seq hb⟩)),.lst (bD.of Cj.here) (.cons (.lst (bD.of (Cj.same _ _ wG.here)) .nil) .nil),Fj _,Fj [[]],_,Z,?_⟩;rw[aB Z,PyData.eqv,Rx];let s11:=s09.trans ŕ;by_cases c2:Le R=[[]]
  ·rw[aV c2];show dB ?_;show⟨_,Z,pg,_,_,_,Z,Z,s11.vU hP,Z,_,Z,(),(),?_⟩;rw[ig];show uX (n:=n) (λi σ H'=>(∃vv:Option V,σ=[⇑pg,⇑a,⇑pt,⇑pp,vv,none,none])/\aL H H'/\∀j,j<i->bT.inn (j:Int)∈ss) ⟨⟨none,Z⟩,s11,λj h=>absurd h (CJ _)⟩ ?_ ?_
   ·rintro i σ H12 hi ⟨⟨vv,rfl⟩,s12,ok⟩;let ei:(0:Int)+(i:Int)=(i:Int):=()
    rw[ei];show⟨_,Z,(),λp13 H13 n13=>?_⟩;let wK:=s12.trans n13.same;show⟨_,Z,xQ (s:=.inn (i:Int)) (wK.seq hA) (Paired.cA pA λ_ _ h=>uM.same wK h) (cJ.of n13.here) ⟨_,Z,?_⟩⟩;by_cases c3:bT.inn (i:Int)∈ss
    ·rw[aV c3];show dB ⟨⟨_,Z⟩,wK,λj hj=>?_⟩;by_cases e:j=i
     ·rw[e];show c3
     ·show ok j ()
    ·rw[cI c3];show iQ ⟨_,Z,(),λp14 H14 n14=>q _ H14 (wK.trans n14.same) ?_⟩;unfold Br;let ef:(List.range n).find? (λ(v:Nat)=>!decide (bT.inn (v:Int)∈ss))=some i:=ã.mpr ⟨by rw[cI c3];rfl,gA.mpr hi,λj hj=>by rw[aV (ok j hj)];rfl⟩;rw[aA c1,aB c2,ef];show⟨p14,Z,n14.here⟩
   ·rintro σ H12 ⟨⟨vv,rfl⟩,s12,ok⟩;let ef:(List.range n).find? (λ(v:Nat)=>!decide (bT.inn (v:Int)∈ss))=none:=GX.mpr λj hj=>by rw[aV (ok j (gA.mp hj))];simp
    let⟨txs,htx,ptx,ltx⟩:=id (hT.same s12);let ltl:=aW ptx;show⟨_,Z,pg,_,_,_,Z,Z,s12.vU hP,Z,ta,Z,⟨_,htx⟩,sy (xs:=txs) (λi σ H'=>(∃va vb:Option V,σ=[⇑pg,⇑a,⇑pt,⇑pp,vv,va,vb])/\aL H12 H'/\∀t∈ts.take i,bT.tie t.1 t.2∈ss) ⟨⟨none,none,Z⟩,aL.refl _,λt h=>absurd h (by simp)⟩ (λi σ H' _ ⟨_,s,_⟩=>s.seq htx) ?_ ?_⟩
    ·rintro i x σ H13 hx ⟨⟨va,vb,rfl⟩,wK,ok2⟩;let⟨t,ht,⟨px,rfl,hpx⟩⟩:=bB ptx hx;let⟨til,tix⟩:=eG.mp ht;let et:ts.take (i+1)=ts.take i++[t]:=by rw[yO til,tix]
     show⟨px,_,Z,wK.vU hpx,Z,_,_,Z,_,_,Z,Z,?_⟩;show⟨_,Z,_,Z,(),λp14 H14 n14=>?_⟩;let Ì:=(s12.trans wK).trans n14.same;show⟨_,Z,xQ (s:=.tie t.1 t.2) (Ì.seq hA) (Paired.cA pA λ_ _ h=>uM.same Ì h) (cJ.of n14.here) ⟨_,Z,?_⟩⟩;by_cases c3:bT.tie t.1 t.2∈ss
     ·rw[aV c3];show dB ⟨⟨_,_,Z⟩,wK.trans n14.same,λt' h'=>?_⟩;rw[et]at h';rcases cV.mp h' with h'|h'
      ·show ok2 t' h'
      ·rw[bK.mp h'];show c3
     ·rw[cI c3];show iQ ⟨_,Z,_,Z,(),λp15 H15 n15=>q _ H15 (Ì.trans n15.same) ?_⟩;unfold Br;let eg:ts.find? (λt=>!decide (bT.tie t.1 t.2∈ss))=some t:=by
       rw[<-uw (i+1) ts,et,vH,List.find?_append,GX.mpr (λt' h'=>by rw[aV (ok2 t' h')];simp)];rw[Option.none_or];show List.find? _ (t::_)=_;rw[List.find?_cons,cI c3];rfl
      rw[aA c1,aB c2,ef,eg];show⟨p15,Z,n15.here⟩
    ·rintro σ H13 ⟨⟨va,vb,rfl⟩,wK,ok2⟩;rw[ltl,gw]at ok2;show q _ H13 (s12.trans wK) ?_;unfold Br;let eg:ts.find? (λt=>!decide (bT.tie t.1 t.2∈ss))=none:=GX.mpr λt h=>by rw[aV (ok2 t h)];simp
     rw[aA c1,aB c2,ef,eg];show rfl
  ·rw[cI c2];show iQ ⟨(),λp12 H12 n12=>q _ H12 (s11.trans n12.same) ?_⟩;unfold Br;rw[aA c1,aA c2];show⟨p12,Z,n12.here⟩
def a1n{n:Nat}{ts:ar}{ss:ax}(dJ:n<=10):∃i,i<=ss.length/\a1i i (b8 n ts ss)/\(i=ss.length\/i<ss.length):=by
 let h:∀m,m<=ss.length->∃i,i<=m/\a1i i (aY n ts ss m).1:=λm=>by
  induction m with
  |zero=>show λ_=>⟨0,aK _,jx dJ Z⟩
  |succ m ih =>
   intro hm;by_cases c:(aY n ts ss (m+1)).2=true
   ·show⟨m+1,aK _,jx dJ c⟩
   ·let⟨i,hi,I⟩:=ih ();show⟨i,(),?_⟩;let e:(aY n ts ss (m+1)).1=(aY n ts ss m).1:=by
     let e:aY n ts ss (m+1)=if(aY n ts ss m).2=true then
      (match qC n ts ss m (aY n ts ss m).1 with
      |some r=>(r,true)
      |none=>((aY n ts ss m).1,false))
     else((aY n ts ss m).1,false):=rfl
     grind
    grind
 let⟨i,hi,I⟩:=h ss.length (aK _);show⟨i,hi,I,()⟩
end
structure Cts(mg:Str->Option Value) where
 pQ:Value
 vq:mg "BEYOND_WEIGHTS" = some pQ
 vy:cY (.int 1000000000000000000000000000000) pQ
 qQ:Value
 wz:mg "MOST_IN_A_BAG" = some qQ
 wA:cY (.int 4) qQ
def a4j{K:aJ}{h:Heap}{DK:Tok}{FJ:Tok}(X:K.In h)(G:h.Ns mainGlobals mg)(DN:nsIn K mainGlobals "BEYOND_WEIGHTS" = some (some (Value.int 1000000000000000000000000000000 DK)))(FN:nsIn K mainGlobals "MOST_IN_A_BAG" = some (some (Value.int 4 FJ))):Nonempty (Cts mg) :=
 ⟨{ pQ:=_,vq:=Nz X G DN,vy:=⟨_,Z⟩,qQ:=_,wz:=Nz X G FN,wA:=⟨_,Z⟩}⟩
abbrev mq:Stmt:=inClass (top 37) 0
def xR:bN XM XM (aG mq):={}
abbrev jb:Stmt:=inClass (top 37) 1
def wH:bN xu xu (aG jb):={}
abbrev pY:Stmt:=inClass (top 40) 0
def Bs:bN XQ XQ (aG pY):={}
abbrev nZ:Stmt:=inClass (top 40) 1
def FP:bN K3 K3 (aG nZ):={}
abbrev oh:Stmt:=inClass (top 40) 2
def fB:bN ["self","one","other","low","high","numbers","firsts","spot","piece","first"] xu (aG oh):={}
abbrev kE:Stmt:=inClass (top 40) 3
def qR:bN ["self","state","spot","v","told","numbers"] yL (aG kE):={}
abbrev ou:Stmt:=inClass (top 40) 4
def uO:bN ["self","state","one","other","tie","numbers","told"] Q9 (aG ou):={}
abbrev jW:Stmt:=inClass (top 40) 5
def mW:bN ["self","state","spot","v","number","left"] yL (aG jW):={}
structure vZ(K:aJ)(mg:Str->Option Value) where
 C:Addr
 cl:Cls K C
 m:mg "Question" =⇑C
 fP:Dm K C "__init__" "Question.__init__" mq XM
 Fl:a5Q K C "__init__" fP.f
 mkd:Mk K C fP.f
set_option genInjectivity false in
structure Bt(K:aJ)(mg:Str->Option Value) where
 C:Addr
 cl:Cls K C
 m:mg "Links" =⇑C
 qi:jz K C "graph"
 uK:jz K C "leaf"
 rA:jz K C "whole"
 Ji:jz K C "told"
 Bu:jz K C "costs"
 fP:DmD K C "__init__" "Links.__init__" pY XQ
 uf:Dm K C "is_better" "Question.is_better" jb xu
 Bv:Dm K C "shared" "Links.shared" nZ K3
 Bw:Dm K C "joined" "Links.joined" oh xu
 Bx:Dm K C "put_in" "Links.put_in" kE yL
 O8:Dm K C "tied" "Links.tied" ou Q9
 ug:Dm K C "taken_out" "Links.taken_out" jW yL
 mkd:Mk K C fP.f
abbrev kI:Stmt:=top 18
def rB:bN ["graph","steps","tops","feeds","pile"] mD (aG kI):={}
abbrev uP:Stmt:=top 19
def Jj:bN ["bags"] ["bags"] (aG uP):={}
inductive a4k(K:aJ)(vs:af)(H:Hp)(Q:VK)(u_3:XK):Prop
 |mk (g:V) (n:Nat) (ts:ar) (a:Addr) (xs:af) (ss:ax) (_:vs=[g,.ref a]) (_:uJ K H g n ts) (_:n<=10) (_:bD K H a xs) (_:Paired (uM K H) xs ss) (_:ss.length<=900) (_:Br n ts ss (b8 n ts ss)=.ok) (_:∀r pt pf vt fs H',aL H H'->H' r= ~~~[.ref pt,.ref pf]->H pt=none->H pf=none->H' pt=↥vt->H' pf=↥(fs.map V.ref)->Paired (wD [pt,pf] K H') vt (b8 n ts ss).aQ->Paired (zG [pt,pf] H') fs (b8 n ts ss).dz->Q (.ref r) H')
def yq{n:Nat}{ts:ar}{ss:ax}(dJ:n<=10)(h:Br n ts ss (b8 n ts ss)=.ok):a1i ss.length (b8 n ts ss):=by
 let⟨i,il,I,_⟩:=a1n (n:=n) (ts:=ts) (ss:=ss) dJ;let e:¬(b8 n ts ss).aQ.length<ss.length:=λc=>by
  unfold Br at h;rw[aB c]at h;cases h
 rw[I.tl]at e;grind
def Ry(n:Nat)(ts:ar)(ss:ax)(m:Nat):aY n ts ss (m+1)=if(aY n ts ss m).2=true then
   (match qC n ts ss m (aY n ts ss m).1 with
   |some r=>(r,true)
   |none=>((aY n ts ss m).1,false))
  else((aY n ts ss m).1,false):=rfl
theorem Lf{n:Nat}{ts:ar}{ss:ax}(dJ:n<=10):∀m,(aY n ts ss m).2=false->(aY n ts ss m).1.aQ.length<m
 |0,h=>by cases h
 |m+1,h=>by
  rw[Ry]at h ⊢
  by_cases c:(aY n ts ss m).2=true
  ·rw[aB c]at h ⊢
   let I:=jx dJ c
   cases d:qC n ts ss m (aY n ts ss m).1 with
   |none=>show(aY n ts ss m).1.aQ.length<m+1;rw[I.tl];omega
   |some r=>grind
  ·rw[aA c]
   let:=Lf dJ m (wR.mpr c)
   grind
def Ŗ{n:Nat}{ts:ar}{ss:ax}(dJ:n<=10)(h:Br n ts ss (b8 n ts ss)=.ok):∀i,i<=ss.length->(aY n ts ss i).2=true:=by
 let e:¬(b8 n ts ss).aQ.length<ss.length:=λc=>by
  unfold Br at h;grind
 intro i il;cases c:(aY n ts ss i).2 with
 |true=>rfl
 |false =>
  let e2:=Je c ss.length il;let:=Lf dJ i c;unfold b8 at e;grind
section
variable{K:aJ}
def O9(B:Bl mg)(U:Used w K mg)(lK:DG K mg)(jK:Dn K mg "is_below" fM sV)(oJ:Dn K mg "joint" nU jJ)(mV:Dn K mg "less" qP jJ)(tM:Dn K mg "bag_behind" fO Bh)(wF:Dn K mg "run" Fi mD)(vp:Dn K mg "fault_behind" fu EY)(yD:Dn K mg "run_whole" kI mD):⋯ 5 yD.f yD.fd mD (a4k K):=by
 let a77:⋯ 4 _ _ _ _:=a4i B U lK jK oJ mV tM wF;let a78:⋯ 4 _ _ _ _:=(Fz B vp).mono ();show yD.F.ok rB λd7 A outer s H vs Q E hr h=>?_;let⟨g,n,ts,a,xs,ss,rfl,hG,dJ,hA,pA,a6n,ł,q⟩:=h;show⟨_,(aD (vM (bx a77 hr Z wF.m wF.F.kp wF.b .nil bZ (O (pv 0) (O (pv 1) aj))) (jr (K:=K) (n:=3) Z Z (bQ (aM 2 rB.nd) (bQ (aM 3 rB.nd) (bQ (aM 4 rB.nd) iD)))))
   (aD (cM (aN Xf (bx a78 hr Z vp.m vp.F.kp vp.b .nil bZ (O (pv 0) (O (pv 1) (O (pv 2) (O (pv 4) aj))))) nM)
   (aF Ad)
   bA)
   (aF (bH (bL (O (pv 2) (O (pv 3) aj))))))),?_⟩
 let I:=yq dJ ł;let pl:=I.pl;show⟨_,Z,_,Z,g,n,ts,a,xs,ss,Z,hG,dJ,hA,pA,a6n,λr pt pf pp vt fs H1 s1 hr1 ft ff fp ht hf hp pv pf'=>⟨r,_,Z,cJ.of hr1,Z,_,_,Z,_,_,Z,_,_,Z,Z,?_⟩⟩;show⟨_,Z,_,Z,_,Z,_,Z,g,n,ts,a,pt,pp,xs,vt,ss,b8 n ts ss,Z,hG.same s1,dJ,s1.seq hA,Paired.cA pA λ_ _ h=>h.same s1,bD.of ht,Paired.cA pv λ_ _ h=>h.l,bD.of hp.1,(λj hj=>by rw[I.tl];show I.lt j hj),(),λv H2 s2 fv=>?_⟩;rw[ł]at fv;obtain rfl:v=.non:=fv;show⟨Z,_,Z,dB ?_⟩;show⟨_,Z,_,Z,(),λp3 H3 n3=>?_⟩;let wK:=s2.trans n3.same;show q p3 pt pf vt fs H3 (s1.trans wK) n3.here ft ff (wK _ _ ht) (wK _ _ hf) (Paired.cA pv λ_ _ h=>h.same wK) (Paired.cA pf' λ_ _ h=>h.same wK)
end
inductive a4l(K:aJ)(vs:af)(H:Hp)(Q:VK)(u_3:XK):Prop
 |mk (a:Addr) (xs:af) (rs:ba) (_:vs=[.ref a]) (_:bD K H a xs) (_:Paired (λv r=>∃q,v=.ref q/\bD K H q (r.2.map V.int)) xs rs) (_:rs.length<=900) (_:(∀r∈rs,r.2.length<=4)) (_:∀H',aL H H'->Q .non H')
section
variable{K:aJ}
abbrev ŗ(K:PySem.W.Frag)(mg:Str->Option Value):=Dn K mg "refuse_wide" uP ["bags"]
def Jk(B:Bl mg)(Ct:Cts mg)(yE:ŗ K mg):⋯ 1 yE.f yE.fd ["bags"] (a4l K):=by
 show yE.F.ok Jj λd7 A outer s H vs Q E hr h=>?_;let⟨a,xs,rs,rfl,hx,hp,l9,h4,q⟩:=h;let lx:=aW hp;show⟨_,(aF (cM (dN (K:=K) Z (aU (Y0 (K:=K) Z Z) Z B.any () (O (lU ["bag"] [none]  (by kernel_rfl) Z (eE (K:=K) Z (pv 0)) (λ_ _ _ _ _=>(aM 0 (show(["bag"]:ag).Nodup by decide))) (λ_ _ _ _ _=>gj) λ_ _ _ _ _=>(yc uY (aU (bR (K:=K) Z) Z B.len () (O (pv 0) aj)) (W7 (v:=.int 4) Z Ct.wz Ct.wA))) aj)) λ_=>rfl)
   (aF Ad)
   bA)),?_⟩
 show⟨_,Z,a,Z,⟨_,hx⟩,ċ (λj=>some (.bl false)) hx () (λj x H3 N hj s3 hN=>?_) λH3 p H4 s3 nw=>?_⟩
 ·let⟨r,hr1,⟨b,rfl,hb⟩⟩:=bB hp hj;show⟨_,Z,b,_,Z,.inl (s3.seq hb),_,_,Z,Z,?_⟩;grind
 let e1:(List.range xs.length).filterMap (λj=>some (V.bl false))=((List.range rs.length).map λ_=>false).map V.bl:=by
  rw[lx,lY];show vW λ_ _=>rfl
 rw[e1]at nw;show⟨p,_,_,Z,bD.of nw.here,jf.bls _,_,Z,?_⟩;let e2:((List.range rs.length).map λ_=>false).any id=false:=by
  grind
 rw[e2];show dB (q H4 (s3.trans nw.same))
end
abbrev xT:Stmt:=top 21
def DP:bN Ip K4 (aG xT):={}
abbrev jX:Stmt:=top 22
def zH:bN ["table"] ["table"] (aG jX):={}
abbrev lM:Stmt:=top 23
def uQ:bN ["graph","steps","tops","feeds"] mD (aG lM):={}
def a1o{K:aJ}{H:Hp}{vs:af}{bs:List (ae)}(h:Paired (wD ex K H) vs bs):Paired (λv (r:xg)=>∃q,v=.ref q/\bD K H q (r.2.map V.int)) vs (bs.map λb=>(none,b)):=by
 induction h with
 |nil=>show .nil
 |cons h _ ih =>
  let⟨q,e,h,_⟩:=h;show .cons ⟨q,e,h⟩ ih
inductive a6u(K:aJ)(vs:af)(H:Hp)(Q:VK)(u_3:XK):Prop
 |mk (g:V) (n:Nat) (ts:ar) (a:Addr) (xs:af) (ss:ax) (_:vs=[g,.ref a]) (_:uJ K H g n ts) (_:n<=10) (_:bD K H a xs) (_:Paired (uM K H) xs ss) (_:ss.length<=800) (_:Br n ts ss (b8 n ts ss)=.ok) (_:(∀b∈(b8 n ts ss).aQ,b.length<=4)) (_:∀r pt pf vt fs H',aL H H'->H' r= ~~~[.ref pt,.ref pf]->H' pt=↥vt->H' pf=↥(fs.map V.ref)->Paired (wD [pt,pf] K H') vt (b8 n ts ss).aQ->Paired (zG [pt,pf] H') fs (b8 n ts ss).dz->Q (.ref r) H')
def a1p(H:Hp)(v:V)(r:gk):Prop:=∃p,v=.ref p/\H p= ~~~[.int r.m,.int r.b]
def tO(H:Hp):List (aS×V)->b7->Prop:=Paired λkv tr=>kv.1=sX tr.1/\a1p H kv.2 tr.2
inductive Wq(H:Hp)(v:V)(T:b7):Prop
 |mk (p J:_) (_:v=.ref p) (_:H p=some (.dT J)) (_:tO H J T)
def a1p.keep{H H':Hp}{v:V}{r:gk}(k:lG H H')(h:a1p H v r):a1p H' v r:=by
 let⟨p,e,h⟩:=h;show⟨p,e,k _ _ h⟩
def Wq.keep{H H':Hp}{v:V}{T:b7}(s:aL H H')(h:Wq H v T):Wq H' v T:=by
 let⟨p,J,e,h1,h2⟩:=h;show⟨p,J,e,s _ _ h1,Paired.cA h2 λ_ _ z=>⟨z.1,z.2.keep (.of s)⟩⟩
inductive ZM(vs:af)(H:Hp)(Q:VK)(u_3:XK):Prop
 |mk (t:Addr) (J:List (aS×V)) (T:b7) (_:vs=[.ref t]) (_:H t=some (.dT J)) (_:pN H J T) (_:T.length<=900) (_:(T.map (·.1)).Nodup) (_:∀p kvs' H',H p=none->aL H H'->H' p=some (.dT kvs')->tO H' kvs' T->Q (.ref p) H')
section
variable{K:aJ}{κ:Type} [DecidableEq κ]
def Kf(B:Bl mg)(Ct:Cts mg)(U:Used w K mg)(lK:DG K mg)(jK:Dn K mg "is_below" fM sV)(oJ:Dn K mg "joint" nU jJ)(mV:Dn K mg "less" qP jJ)(tM:Dn K mg "bag_behind" fO Bh)(wF:Dn K mg "run" Fi mD)(vp:Dn K mg "fault_behind" fu EY)(yD:Dn K mg "run_whole" kI mD)(yE:ŗ K mg)(BJ:Dn K mg "run_narrow" lM mD):⋯ 6 BJ.f BJ.fd mD (a6u K):=by
 let a79:⋯ 5 _ _ _ _:=O9 B U lK jK oJ mV tM wF vp yD;let a8a:⋯ 5 _ _ _ _:=(Jk B Ct yE).mono ();show BJ.F.ok uQ λd7 A outer s H vs Q E hr h=>?_;let⟨g,n,ts,a,xs,ss,rfl,hg,dJ,hA,pA,l8,wB,b4,q⟩:=h;show⟨_,(aD (vM (bx a79 hr Z yD.m yD.F.kp yD.b .nil bZ (O (pv 0) (O (pv 1) aj))) (jr (K:=K) (n:=2) Z Z (bQ (aM 2 uQ.nd) (bQ (aM 3 uQ.nd) iD))))
   (aD (fL (bx a8a hr Z yE.m yE.F.kp yE.b .nil bZ (O (pv 2) aj)))
   (aF (bH (bL (O (pv 2) (O (pv 3) aj))))))),?_⟩
 show⟨_,Z,_,Z,g,n,ts,a,xs,ss,Z,hg,dJ,hA,pA,(),wB,λr pt pf vt fs H1 s1 hr1 fpt fpf hpt hpf pT pF=>?_⟩;show⟨r,_,Z,cJ.of hr1,Z,_,_,Z,_,_,Z,Z,?_⟩;let lT:(b8 n ts ss).aQ.length<=900:=by
  let:=(yq dJ wB).tl;omega
 show⟨_,Z,pt,vt,(b8 n ts ss).aQ.map (λb=>(none,b)),Z,bD.of hpt,a1o pT,by rw[aH];show lT,?_,λH2 s2=>?_⟩
 ·intro r' hr';let⟨b,hb,rfl⟩:=fH.mp hr';show b4 b hb
 ·show⟨_,Z,_,Z,(),λp3 H3 n3=>?_⟩;let s23:=s2.trans n3.same;show q p3 pt pf vt fs H3 (s1.trans s23) n3.here (s23 _ _ hpt) (s23 _ _ hpf) (Paired.cA pT λ_ _ ⟨p,e,h,ne⟩=>⟨p,e,s23.seq h,ne⟩) (Paired.cA pF λ_ _ ⟨h,ne⟩=>⟨s23 _ _ h,ne⟩)
abbrev a1q(K:PySem.W.Frag)(mg:Str->Option Value):=Dn K mg "without_sources" jX ["table"]
def zJ(B:Bl mg)(zK:a1q K mg):⋯ 1 zK.f zK.fd ["table"] ZM:=by
 show zK.F.ok zH λd7 A outer s H vs Q E hr h=>?_;let⟨t,J,T,rfl,ht,hT,lT,nd,q⟩:=h;let hw2:(A.deeper (PyProof.Rows.envOfC "without_sources" (aG jX) s⁻¹ zK.f d7)).units+2<cLine:=by let:=hr.un;omega
 show⟨_,(aF (bH (jL (V8 (K:=K) Z Z hw2) Z B.dict () (O (ĭ (lU ["state","row"] [none,none]  (by kernel_rfl) Z (rK (nP (K:=K) Z rN Ck Cm rJ (pv 0))) (λ_ _ _ _ _=>(jr (K:=K) (n:=2) Z Z (bQ (aM 0 (show(["state","row"]:ag).Nodup by decide)) (bQ (aM 1 (show(["state","row"]:ag).Nodup by decide)) iD)))) (λ_ _ _ _ _=>gj) λ_ _ _ _ _=>(bL (O (pv 0) (O (bL (O (aP (aO (K:=K) Z) (pv 1) aq) (O (aP (aO (K:=K) Z) (pv 1) aq) aj))) aj))))) aj)))),⟨_,Z,.inr (.inr (.inl ⟨Z,.inr ⟨_,ht⟩⟩)),t,J,Z,Z,ht,λpv H1 n1=>⟨pv,t,J,Z,n1.here,n1.same _ _ ht,λo as pk=>?_⟩⟩⟩;let h1t:=n1.same _ _ ht;let SQ:Nd H (cU H1 t (.gP o (.dT J))):=(Nd.of n1.same).trans (Nd.gP h1t);let SX:cU H1 t (.gP o (.dT J)) t=some (.gP o (.dT J)):=dG;let Yb:∀c,c≠t->cU H1 t (.gP o (.dT J)) c=H1 c:=λc hc=>aR hc;generalize cU H1 t (.gP o (.dT J))=G0 at pk SQ SX Yb ⊢;let lk:=aW hT;let la:=aW pk;show Zr (λi ys G=>aL G0 G/\∃kw,Paired (PrL G) ys kw/\tO G kw (T.take i)) ⟨aL.refl _,[],.nil,.nil⟩ (λi ys G hi ⟨sG,kw,p1,p2⟩=>⟨sG _ _ SX,?_⟩) (λi ys G a0 v0 p G1 ha0 hv0 ⟨sG,kw,p1,p2⟩ nw=>?_) (λys G pl ⟨sG,kw,p1,p2⟩ hpl=>?_)
 ·rw[aW p1,aW p2,dY];omega
 ·let⟨kv,hkv,hak⟩:=bB pk ha0;let⟨⟨st,row⟩,hsx,ek,hrow⟩:=bB hT hkv;let ek:kv.1=sX st:=ek;let hv0':v0=kv.2:=by
   rw[cH,hkv]at hv0;show(dI hv0).symm
  subst hv0';rw[ek]at hak;let Wn:=sG.trans nw.same;let⟨pr,qr,asr,Wk,hpr,_⟩:=hrow.keep (SQ.tups.trans (.of Wn));show⟨p,_,Z,cJ.of nw.here,Z,_,_,Z,_,_,Z,Z,?_⟩;rw[Wk];show⟨_,Z,_,Z,pr,_,_,.int row.m,Z,Z,cJ.of hpr,Z,_,Z,pr,_,_,.int row.b,Z,Z,cJ.of hpr,Z,(),λq1 G2 m2=>⟨(),λq2 G3 m3=>?_⟩⟩;let wK:=nw.same.trans (m2.same.trans m3.same);show⟨sG.trans wK,kw++[(sX st,.ref q1)],eX (Paired.cA p1 λ_ _ ⟨pp,kp,e,h1,h2⟩=>⟨pp,kp,e,wK _ _ h1,wK _ _ h2⟩) ⟨q2,a0,Z,m3.here,(sG.trans wK) _ _ hak⟩,?_⟩;rw[iz,hsx];show eX (Paired.cA p2 λ_ _ z=>⟨z.1,z.2.keep (.of wK)⟩) ⟨Z,q1,Z,m3.same _ _ m2.here⟩
 ·let n2:=iG.nD (o:=.lst ys) hpl;generalize cU G pl (.lst ys)=G2 at n2 ⊢;let g2t:=n2.same _ _ (sG _ _ SX);rw[show T.take as.length=T by grind]at p2;let tu:lG G (cU G2 t (.dT J)):=λc zs e=>Nd.O1 g2t _ _ (n2.same _ _ e);let sF:aL H (cU G2 t (.dT J)):=λc u e=>by
   by_cases z:c=t
   ·rw[z]at e ⊢;rw[dG,<-e,ht]
   ·rw[aR z];show(sG.trans n2.same) c u ?_;rw[Yb c z];show n1.same _ _ e
  let ZD:pl≠t:=λz=>by let:=n2.here;grind
  show⟨t,o,J,J,ht,g2t,?_⟩;show⟨pl,ys,kw,Z,by rw[aR ZD];show n2.here,Paired.cA p1 λ_ _ ⟨pp,kp,e,h1,h2⟩=>⟨pp,kp,e,tu _ _ h1,tu _ _ h2⟩,?_,λpd H5 n5=>?_⟩
  ·let go:∀{kw:List (aS×V)}{T:b7},tO G kw T->kw.map (·.1)=T.map λx=>sX x.1:=λ{kw T} h=>by
    induction h with
    |nil=>rfl
    |cons a _ ih=>grind
   rw[go p2];let e2:(T.map λx=>sX x.1)=(T.map (·.1)).map sX:=by rw[lY];rfl
   rw[e2];show yX.mpr (nd.imp λ{a b} ne e=>ne (Gp e))
  ·show q pd kw H5 (sF.free n5.fresh) (sF.trans n5.same) n5.here (Paired.cA p2 λ_ _ z=>⟨z.1,z.2.keep (tu.trans (.of n5.same))⟩)
inductive Ř(Qn:J7 P w K mg base κ)(vs:af)(H:Hp)(Q:VK)(u_3:XK):Prop
 |mk (d a:Addr) (xs:af) (ss:ax) (_:vs=[.ref a,.ref d]) (_:Qn.At H d) (_:Qn.n<=10) (_:bD K H a xs) (_:Paired (uM K H) xs ss) (_:ss.length<=800) (_:Br Qn.n Qn.ts ss (b8 Qn.n Qn.ts ss)=.ok) (_:(∀b∈(b8 Qn.n Qn.ts ss).aQ,b.length<=4)) (_:(∀k,k<ss.length->xO Qn (b8 Qn.n Qn.ts ss).aQ (Kd Qn.pq ss (b8 Qn.n Qn.ts ss).aQ (b8 Qn.n Qn.ts ss).dz k) (ss.getD k .leaf) ((b8 Qn.n Qn.ts ss).aQ.getD k []) ((b8 Qn.n Qn.ts ss).dz.getD k []))) (_:(∀T∈Kd Qn.pq ss (b8 Qn.n Qn.ts ss).aQ (b8 Qn.n Qn.ts ss).dz ss.length,T.length<=900/\(T.map (·.1)).Nodup)) (_:∀pl ys H',aL H H'->H' pl=↥ys->Paired (Wq H') ys (Kd Qn.pq ss (b8 Qn.n Qn.ts ss).aQ (b8 Qn.n Qn.ts ss).dz ss.length)->ys.Nodup->Q (.ref pl) H')
def ZP(B:Bl mg)(Bz:mg "zip" = none)(Ct:Cts mg)(U:Used w K mg)(Qn:J7 P w K mg base κ)(lK:DG K mg)(jK:Dn K mg "is_below" fM sV)(oJ:Dn K mg "joint" nU jJ)(mV:Dn K mg "less" qP jJ)(tM:Dn K mg "bag_behind" fO Bh)(wF:Dn K mg "run" Fi mD)(vp:Dn K mg "fault_behind" fu EY)(yD:Dn K mg "run_whole" kI mD)(yE:ŗ K mg)(BJ:Dn K mg "run_narrow" lM mD)(wC:Dn K mg "states_behind" fQ Ez)(qO:Dn K mg "note" uL Bf)(yx:Dn K mg "fill_along" jH Im)(xM:Dn K mg "fill_joined" gW Io)(zE:Dn K mg "going_up" mU Ip)(zK:a1q K mg)(BK:Dn K mg "tables" xT K4):⋯ 12 BK.f BK.fd K4 (Ř Qn):=by
 let a8b:⋯ 11 _ _ _ _:=(Kf B Ct U lK jK oJ mV tM wF vp yD yE BJ).mono ();let a8c:⋯ 11 _ _ _ _:=Rn B Bz Qn oJ wC qO yx xM zE;let a8d:⋯ 11 _ _ _ _:=(zJ B zK).mono ();show BK.F.ok DP λd7 A outer s H vs Q E hr h=>?_;let⟨d,a,xs,ss,rfl,hD,dJ,hA,pA,l8,wB,b4,ok,sm,q⟩:=h;show⟨_,(aD (vM (bx a8b hr Z BJ.m BJ.F.kp BJ.b .nil bZ (O (Gn (K:=K) Z (pv 1) Z) (O (pv 0) aj))) (jr (K:=K) (n:=2) Z Z (bQ (aM 2 DP.nd) (bQ (aM 3 DP.nd) iD))))
   (aF (bH (lU ["table"] [none]  (by kernel_rfl) Z (eE (K:=K) Z (bx a8c hr Z zE.m zE.F.kp zE.b .nil bZ (O (pv 0) (O (pv 1) (O (pv 2) (O (pv 3) aj)))))) (λ_ _ _ _ _=>(aM 0 (show(["table"]:ag).Nodup by grind) Z (Or.inl Z))) (λ_ _ _ _ _=>gj) λ_ _ _ _ _=>(bx a8d hr Z zK.m zK.F.kp zK.b .nil bZ (O (pv 0) aj)))))),?_⟩
 let⟨dx,fs,hd,_,_,_,g,hgl,hg⟩:=Qn.ins hD;let RI:=yq dJ wB;show⟨_,Z,d,_,dx,fs,_,Z,hd,Qn.cl,Qn.qi,hgl,_,Z,⟨g,Qn.n,Qn.ts,a,xs,ss,Z,hg,dJ,hA,pA,l8,wB,b4,λr pt pf vt fs' H1 s1 hr1 hpt hpf pT pF=>⟨r,_,Z,cJ.of hr1,Z,_,_,Z,_,_,Z,Z,⟨_,Z,_,Z,_,Z,_,Z,?_⟩⟩⟩⟩;show⟨d,a,pt,pf,xs,vt,fs',ss,(b8 Qn.n Qn.ts ss).aQ,(b8 Qn.n Qn.ts ss).dz,Z,(Nd.of s1).at Qn hD,s1.seq hA,Paired.cA pA λ_ _ h=>h.same s1,bD.of hpt,Paired.cA pT λ_ _ ⟨p,e,h,_⟩=>⟨p,e,h⟩,bD.of hpf,Paired.cA pF λ_ _ ⟨h,_⟩=>h,(),RI.tl,RI.fl,λb hb=>(RI.sm b hb).1,ok,λpl ps H2 s2 fpl hpl pP nd fr=>⟨pl,Z,⟨_,bD.of hpl⟩,?_⟩⟩;let lg:=lH Qn.pq ss (b8 Qn.n Qn.ts ss).aQ (b8 Qn.n Qn.ts ss).dz ss.length;let lp:=aW pP;show tV (K:=K) (a:=pl) (xs:=ps.map V.ref) (λi ys G=>aL H2 G/\Paired (Wq G) ys ((Kd Qn.pq ss (b8 Qn.n Qn.ts ss).aQ (b8 Qn.n Qn.ts ss).dz ss.length).take i)/\ys.Nodup) ⟨aL.refl _,.nil,.nil⟩ (λi ys G hi ⟨sG,p,_⟩=>⟨bD.of (sG _ _ hpl),?_⟩) (λi x ys G hx ⟨sG,p,nd⟩=>?_) (λys G ⟨sG,p,nd⟩ pr hpr=>?_)
 ·rw[aW p,dY];show eY (cL ())
 ·rw[cH]at hx;let⟨p0,hp0,rfl⟩:=jP.mp hx;let⟨T,hT,kv,h1,h2⟩:=bB pP hp0;let⟨sl,sn⟩:=sm T (gF hT);show⟨_,Z,p0,kv,T,Z,sG _ _ h1,h2.keep (.of sG),sl,sn,λp' kv' G1 f' s' h1' h2'=>⟨sG.trans s',?_,?_⟩⟩
  ·rw[iz,hT];show eX (Paired.cA p λ_ _ h=>h.keep s') ⟨p',kv',Z,h1',h2'⟩
  ·show uE.mpr ⟨nd,ur _ _,λy hy z hz e=>?_⟩;rw[bK.mp hz]at e;let⟨j,hj,ej⟩:=oR hy;let⟨_,_,pq,kq,e1,e2,_⟩:=bB p (bI hj);rw[ej,e]at e1;cases e1;rw[f']at e2;cases e2
 ·let n3:=iG.nD (o:=.lst ys) hpr;rw[show(ps.map V.ref).length=ss.length by grind,show(Kd Qn.pq ss (b8 Qn.n Qn.ts ss).aQ (b8 Qn.n Qn.ts ss).dz ss.length).take ss.length=Kd Qn.pq ss (b8 Qn.n Qn.ts ss).aQ (b8 Qn.n Qn.ts ss).dz ss.length from Cp (NT lg)]at p;show q pr ys _ (s1.trans (s2.trans (sG.trans n3.same))) n3.here (Paired.cA p λ_ _ h=>h.keep n3.same) nd
end
end K
namespace L2
open PyProof.Rows Bg Srt
section
variable{X:Cx}{K:aJ}
inductive a4m(K:aJ)(x:V)(y:V)(H:Hp)(Q:VK):Prop
 |mk (a b xs ys:_) (_:x=.ref a) (_:y=.ref b) (_:cJ K H a xs) (_:cJ K H b ys) (_:xs≠[]) (_:ys≠[]) (_:xs.length+ys.length<=1000) (_:∀p H',iG H p (.tup (xs++ys)) H'->Q (.ref p) H')
def ř(e:X.K=K):qY X (binaryOp .Add) (a4m K):=by
 subst e;show Xj.weak λx y H Q ⟨a,b,xs,ys,e1,e2,h1,h2,n1,n2,z,q⟩=>⟨a,b,xs,ys,e1,e2,h1,h2,n1,eY (cL z),λe=>absurd e n2,λ_ p hp=>q p _ (iG.nD hp)⟩
end
end L2
namespace HT
open PyProof.Rows Bg
section
variable{prog:Program}{w:World}{A:Around}{E:∅}{s:Shared}
def a1r{t b:Addr}{vs ws:aw}{Q:∅}(ht:IsTup s.heap t vs.toArray)(hb:IsTup s.heap b ws.toArray)(hv:vs=[])(h1:Q (.ref b) s):∎ (binaryOp .Add (.ref t) (.ref b)) Q E s:=by
 let⟨⟨cls,dd,data,sl⟩,ho,hc,n,hd⟩:=id ht;let⟨⟨cls2,dd2,data2,sl2⟩,ho2,hc2,n2,hd2⟩:=id hb;simp only at hc hd hc2 hd2;subst hc hd hc2 hd2;show NZ ⟨_,ho,Z⟩ ⟨_,ho2,Z⟩ M8 Ny Mt Mr (Mp _ _)
   (tuple_addW0 t b vs.toArray ws.toArray n n2 dd dd2 sl sl2 (by simp[hv])) ⟨ho,ho2,h1⟩
def yF{t sl:Addr}{items:Array Value}{vl vu:Value}{lo hi:Option Int}{Q:∅}(ht:IsTup s.heap t items)(hs:s.heap.IsSliceOf sl vl vu .none)(pl:IsPart vl lo)(pu:IsPart vu hi)
  (hw:j6 items.size 0 lo=0/\j6 items.size items.size hi=items.size) (h:Q (.ref t) s):∎ (getItem (.ref t) (.ref sl)) Q E s:=by
 let⟨os,hos,hcs,hds⟩:=id hs;let hTs:s.TypeIs (.ref sl) "slice" :=⟨os,hos,hcs⟩;unfold getItem;try with_reducible show eV ?_
 first|refine M (ao ?_)|skip
 show M (wpAny_sequenceKey ht.typeIs () ?_);show M (nF (name:=Str.ofString "__getitem__") ht.typeIs Mf
  (gG Mf ht.typeIs entry_tuple_getitem ?_ (args_tuple_getitem _ _)))
 show wpAny _ _ (Builtin.Tuple.tupleItemsOf (.ref t) >>= _) _ _ s;show M (tupleItemsOf_ ht (M (rW hTs ?_)));rw[aB ()];show M (uZ hs pl pu ?_);show wpAny _ _ (if(((j6 items.size 0 lo:Nat):Int)==0&&(1:Int)==1&&(j6 items.size items.size hi-j6 items.size 0 lo)==items.size)=true then _ else _) _ _ s;rw[aB (by rw[hw.1,hw.2];simp)];show M (M (rW ht.typeIs (ao ?_)));rw[aB ()];show M (j5 (M (ao (ao ⟨_,Z,ao h⟩))))
end
end HT
namespace L2
open PyProof.Rows Bg
section
variable{X:Cx}
inductive a8e(x:V)(lo:Option Int)(hi:Option Int)(H:Hp)(Q:VK):Prop
 |mk (a xs:_) (_:x=.ref a) (_:H a= ~~~xs) (_:∀p H',aL H H'->H' p= ~~~(uH xs lo hi)->Q (.ref p) H')
def mL:SlR X a8e:=by
 intro Y s σ H x v vl vu lo hi sl Q I rx hs pl pu h;let⟨a,xs,rfl,hx,q⟩:=h;by_cases hw:HT.j6 xs.length 0 lo=0/\HT.j6 xs.length xs.length hi=xs.length
 ·cases rx;let⟨bY,r,ht,hz⟩:=I.tuple (cJ.of hx);let hlen:bY.toArray.size=xs.length:=by rw[iJ];show r.length.symm
  show⟨"tuple",_,PyProof.Rows.slot_tuple_getitem.lookup,ht.typeIs,?_⟩;show HT.yF ht hs pl pu (by rw[hlen];show hw) ⟨.ref a,H,I,Z,q a H (aL.refl _) ?_⟩;let e:uH xs lo hi=xs:=by
   unfold uH;grind
  grind
 ·show ú Y s σ H _ v vl vu lo hi sl Q I rx hs pl pu ⟨a,xs,Z,cJ.of hx,hw,λp hp=>q p _ (Lw.Av hp _) dG⟩
inductive a6v(x:V)(y:V)(H:Hp)(Q:VK):Prop
 |mk (a b xs ys:_) (_:x=.ref a) (_:y=.ref b) (_:H a= ~~~xs) (_:H b= ~~~ys) (_:xs.length+ys.length<=1000) (_:∀p H',aL H H'->H' p= ~~~(xs++ys)->Q (.ref p) H')
def uh:qY X (binaryOp .Add) a6v:=by
 intro Y s σ H x y v u Q I rx ry h;let⟨a,b,xs,ys,rfl,rfl,ha,hb,hz,q⟩:=h;by_cases hx:xs=[]
 ·cases rx;cases ry;let⟨bY,r1,p1,_⟩:=I.tuple (cJ.of ha);let⟨its2,r2,p2,_⟩:=I.tuple (cJ.of hb);show HT.a1r p1 p2 (r1.Ag.mpr hx) ⟨.ref b,H,I,Z,q b H (aL.refl _) (by rw[hx];show hb)⟩
 ·show Xj Y s σ H _ _ v u Q I rx ry ⟨a,b,xs,ys,Z,Z,cJ.of ha,cJ.of hb,hx,eY (cL hz),λe=>q a H (aL.refl _) (by rw[e,jE];show ha),λ_ p hp=>q p _ (Lw.Av hp _) dG⟩
end
end L2
namespace L2
open PyProof.Rows
section
variable{K:aJ}{a:Addr}{xs:af}{ix:List (Option Nat)}{g:TG}{tt:TT}{te:TE}{σ:St}{H1:Hp}{Q:VK}
def Pa(Pv:Nat->af->Hp->Prop)(h0:Pv 0 [] H1)(hl:∀i ys H,i<=xs.length->Pv i ys H->cJ K H a xs/\ys.length<=sizeLine)
  (hs:∀i x ys H,xs[i]?=some x->Pv i ys H->g x (pG ix σ) H λσ2 H2=>tt σ2 H2 λb H3=>if b=true then te σ2 H3 λv H4=>Pv (i+1) (ys++[v]) H4 else Pv (i+1) ys H3)
  (hd:∀ys H,Pv xs.length ys H->∀p,H p=none->Q (.ref p) (cU H p (.lst ys))):j7 ix g tt te σ H1 Q (Itt K a):=by
 show⟨λi m ys H=>m=xs.length-i/\i<=xs.length/\Pv i ys H,⟨xs.length,by simp,dF _,h0⟩,?_⟩;rintro i m ys H ⟨rfl,hi,p⟩;let⟨q,z⟩:=hl i ys H hi p;by_cases hlt:i<xs.length
 ·show .inr ⟨⟨xs,xs[i],q,by simp[hlt]⟩,z,λys' H'=>Pv (i+1) ys' H',λys' H' p'=>⟨xs.length-(i+1),(),Z,hlt,p'⟩,λx H' y=>?_⟩;let⟨e',y⟩:=y;subst e';show hs i x ys _ (y xs q) p
 ·let ei:i=xs.length:=()
  subst ei;show .inl ⟨⟨xs,q,aK _⟩,z,λpp hp=>hd ys H p pp hp⟩
end
end L2
namespace K
open L2 Lw Bg
variable{K:aJ}{c wd j':Nat}{P:Program}{w:World}{mg:Str->Option Value}{base:Heap}{σ:St}{T:b7}{E G zs us:ae}{α:Type}{pk:Int×Int->Nat}{B:ar}{Q:VK}
abbrev jo:Stmt:=top 33
def Jl:bN Fb Fb (aG jo):={}
abbrev fX:Stmt:=top 34
def BL:bN Fd Fd (aG fX):={}
noncomputable def zL(s:dW)(p:Nat)(x:Int):dW:=s.take p++([x]++s.drop p)
noncomputable def qD(s:dW)(p:Nat):dW:=s.take p++s.drop (p+1)
def Pb(s:dW)(p:Nat)(h:p<=s.length):uH (s.map V.int) none (some (p:Int))=(s.take p).map V.int:=by
 unfold uH;rw[HT.Oe,HT.Qo,U4,wY,aH,Nat.min_eq_left h,U9]
def rC(s:dW)(p:Nat)(h:p<=s.length):uH (s.map V.int) (some (p:Int)) none=(s.drop p).map V.int:=by
 unfold uH;rw[HT.Oe,HT.Qo,aH,Nat.min_eq_left h,U8];show Cp (by rw[iK,aH];show aK _)
inductive a1s(vs:af)(H:Hp)(Q:VK)(u_3:XK):Prop
 |mk (a:Addr) (s:dW) (p:Nat) (x:Int) (_:vs=[.ref a,.int p,.int x]) (_:oO H a s) (_:p<=s.length) (_:s.length<=100) (_:∀b H',aL H H'->oO H' b (zL s p x)->Q (.ref b) H')
inductive Wr(vs:af)(H:Hp)(Q:VK)(u_3:XK):Prop
 |mk (a:Addr) (s:dW) (p:Nat) (_:vs=[.ref a,.int p]) (_:oO H a s) (_:p<s.length) (_:s.length<=100) (_:∀b H',aL H H'->oO H' b (qD s p)->Q (.ref b) H')
def Jm(uR:Dn K mg "with_number" jo Fb):⋯ 1 uR.f uR.fd Fb a1s:=by
 show uR.F.ok Jl λd7 A outer s H vs Q E hr h=>?_;let⟨a,st,p,x,rfl,ha,hp,l1,q⟩:=h;show⟨_,(aF (bH (bh uh (bh uh (fj mL (pv 0) fZ (gb (pv 1))) (bL (O (pv 2) aj))) (fj mL (pv 0) (gb (pv 1)) fZ)))),⟨_,Z,_,Z,_,Z,a,_,Z,ha,λb1 H1 s1 h1=>?_⟩⟩;rw[Pb st p hp]at h1;show⟨_,Z,(),λb2 H2 n2=>⟨b1,b2,_,_,Z,Z,n2.same _ _ h1,n2.here,?_,λb3 H3 s3 h3=>?_⟩⟩
 ·grind
 let wK:=n2.same.trans s3;show⟨_,Z,_,Z,_,Z,a,_,Z,(s1.trans wK) _ _ ha,λb4 H4 s4 h4=>?_⟩;rw[rC st p hp]at h4;show⟨b3,b4,_,_,Z,Z,s4 _ _ h3,h4,?_,λb5 H5 s5 h5=>q b5 H5 (s1.trans (wK.trans (s4.trans s5))) ?_⟩
 ·grind
 ·show H5 b5= ~~~((zL st p x).map V.int);rw[h5];unfold zL;grind
def BP(wI:Dn K mg "without_number" fX Fd):⋯ 1 wI.f wI.fd Fd Wr:=by
 show wI.F.ok BL λd7 A outer s H vs Q E hr h=>?_;let⟨a,st,p,rfl,ha,hp,l1,q⟩:=h;show⟨_,(aF (bH (bh uh (fj mL (pv 0) fZ (gb (pv 1))) (fj mL (pv 0) (gb (bh cX (pv 1) aq)) fZ)))),⟨_,Z,_,Z,_,Z,a,_,Z,ha,λb1 H1 s1 h1=>?_⟩⟩;rw[Pb st p ()]at h1;show⟨_,Z,_,Z,_,_,Z,Z,_,Z,a,_,Z,s1 _ _ ha,λb4 H4 s4 h4=>?_⟩;try dsimp only at h4
 rw[show((p:Int)+1)=((p+1:Nat):Int) by omega,rC st (p+1) ()]at h4;show⟨b1,b4,_,_,Z,Z,s4 _ _ h1,h4,?_,λb5 H5 s5 h5=>q b5 H5 (s1.trans (s4.trans s5)) ?_⟩
 ·grind
 ·show H5 b5= ~~~((qD st p).map V.int);rw[h5];unfold qD;grind
abbrev lN:Stmt:=top 31
def Kg:bN Ir Ir (aG lN):={}
noncomputable def Pg:Int:=1000000000000000000000000000000
def WtV(K:aJ)(H:Hp)(v:V)(o:Option (ae)):Prop:=match o with
 |none=>v=.non
 |some ws=>∃a,v=.ref a/\bD K H a (ws.map V.int)
def Rz(m:Nat):Option (ae)->Bool
 |none=>true
 |some ws=>decide (ws.length=m)&&ws.all λx=>decide (0<=x)&&decide (x<Pg)
noncomputable def wtL(m:Nat):Option (ae)->ae
 |none=>List.replicate m 1
 |some ws=>ws
def btF:V->Option V
 |.int y=>some (.bl (pH Pg (some y)))
 |_=>none
theorem a2u:∀ws:ae,(ws.map V.int).filterMap btF=(ws.map λy=>pH Pg (some y)).map V.bl
 | []=>rfl
 |x::r=>by
  rw[cC,Mq (show btF (V.int x)=some (.bl (pH Pg (some x)))from Z),a2u r]
  rfl
def a1t(x:Int):pH Pg (some x)=(decide (0<=x)&&decide (x<Pg)):=by
 unfold pH;lk;show Bool.decide_and ..
inductive ZQ(K:aJ)(vs:af)(H:Hp)(Q:VK)(u_3:XK):Prop
 |mk (m:Nat) (v:V) (o:Option (ae)) (_:vs=[.int m,v]) (_:WtV K H v o) (_:m<=100) (_:(∀ws,o=some ws->ws.length<=200)) (_:Rz m o=true) (_:∀p H',aL H H'->H p=none->H' p=↥((wtL m o).map V.int)->Q (.ref p) H')
def Kh(B:Bl mg)(Ct:Cts mg)(lK:DG K mg)(jK:Dn K mg "is_below" fM sV)(BR:Dn K mg "weights_of" lN Ir):⋯ 3 BR.f BR.fd Ir (ZQ K):=by
 let ő:⋯ 2 _ _ _ _:=xP B lK jK;show BR.F.ok Kg λd7 A outer s H vs Q E hr h=>?_;let⟨m,v,o,rfl,hV,a8w,hw,ok,q⟩:=h;show⟨_,(aD (cM (aN ï (pv 1) nM)
   (aF (bH (lU ["k"] [none]  (by kernel_rfl) Z (iV Z B.range (O (pv 0) aj)) (λ_ _ _ _ _=>(aM 0 (show(["k"]:ag).Nodup by decide))) (λ_ _ _ _ _=>gj) λ_ _ _ _ _=>aq)))
   bA)
   (aD (cM (PW.pt (Ac (aN Hx (aU (bR (K:=K) Z) Z B.len () (O (pv 1) aj)) (pv 0)) (zp (pB (dN (K:=K) Z (aU (Dc (K:=K) Z Z) Z B.all () (O (lU ["weight"] [none]  (by kernel_rfl) Z (eE (K:=K) Z (pv 1)) (λ_ _ _ _ _=>(aM 0 (show(["weight"]:ag).Nodup by decide))) (λ_ _ _ _ _=>gj) λ_ _ _ _ _=>(bx ő hr Z jK.m jK.F.kp jK.b .nil bZ (O (W7 (v:=.int 1000000000000000000000000000000) Z Ct.vq Ct.vy) (O (pv 0) aj)))) aj)) λ_=>rfl)))))
   (aF Ad)
   bA)
   (aF (bH (jL (vV (K:=K) Z) Z B.list () (O (pv 1) aj)))))),?_⟩
 cases o with
 |none =>
  obtain rfl:v=.non:=hV;show⟨_,Z,Z,_,Z,iQ ?_⟩;show⟨_,Z,_,Z,(),(),?_⟩;rw[ig];show Xn (λ_=>some (V.int 1)) () (λi H' N hi s1 hN=>hN H' s1) (λH1 p H2 s1 n2=>q p H2 (s1.trans n2.same) (s1.free n2.fresh) ?_);rw[n2.here];show some (HO.lst _)=some (HO.lst ((List.replicate m (1:Int)).map V.int));rw[vW (f:=λ_=>some (V.int 1)) (g:=λ_=>V.int 1) (λ_ _=>rfl),List.map_const',oU,List.map_replicate]
 |some ws =>
  let⟨a,rfl,hA⟩:=hV;let lw:=hw ws rfl;let ok':=ok;unfold Rz at ok';rw[gq,eO,iw]at ok';let⟨e1,e2⟩:=ok';show⟨_,Z,Z,_,Z,dB ⟨_,Z,a,_,Z,.inl hA,_,Z,Z,_,Z,?_⟩⟩;rw[aH,e1,aV rfl];show dB ⟨_,Z,a,Z,⟨_,hA⟩,HJ btF hA () (λx G5 N hx s5 hN5=>?_) λG5 p6 H6 s5 n6=>?_⟩
  ·let⟨y,hy,rfl⟩:=fH.mp hx;show⟨_,Z,Pg,some y,Z,hN5 G5 s5⟩
  rw[a2u]at n6;show⟨p6,_,_,Z,bD.of n6.here,jf.bls _,?_⟩;let e7:(ws.map λy=>pH Pg (some y)).all id=true:=by
   rw[N5,iw];intro x hx;show pH Pg (some x)=true;rw[a1t];show e2 x hx
  rw[e7];show⟨_,Z,dB ⟨_,Z,a,_,Z,.inl ((s5.trans n6.same).seq hA),λp8 H8 n8=>q p8 H8 (s5.trans (n6.same.trans n8.same)) ((s5.trans n6.same).free n8.fresh) n8.here⟩⟩
noncomputable def fsQ(pg:Addr)(l u:V):be:=[("graph",.ref pg),("leaf",l),("whole",u)]
inductive a1u(K:aJ)(C:Addr)(vs:af)(H:Hp)(Q:VK)(u_3:XK):Prop
 |mk (d dx g t:Addr) (n:Nat) (xs:af) (l u:V) (_:vs=[.ref d,.ref g,l,u]) (_:H d=some (.ins C dx [])) (_:cJ K H g [.int n,.ref t]) (_:H t=↥xs) (_:xs.length<=1000) (_:∀pg pt H',Sd d H H'->H pt=none->H' d=some (.ins C dx (fsQ pg l u))->H' pg= ~~~[.int n,.ref pt]->H' pt=↥xs->Q .non H')
def DQ(B:Bl mg)(gM:vZ K mg){C:Addr}(cl:Cls K C)(qi:jz K C "graph")(uK:jz K C "leaf")(rA:jz K C "whole"):⋯ 1 gM.fP.f gM.fP.fd XM (a1u K C):=by
 show gM.fP.F.ok xR λd7 A outer s H vs Q E hr h=>?_;let⟨d,dx,g,t,n,xs,l,u,rfl,hd,hg,ht,lx,q⟩:=h;show⟨_,(aD (Hz (pv 0) (bL (O (aP (aO (K:=K) Z) (pv 1) aq) (O (jL (vV (K:=K) Z) Z B.list () (O (aP (aO (K:=K) Z) (pv 1) aq) aj)) aj))) Z)
   (aD (Hz (pv 0) (pv 2) Z)
   (aF (Hz (pv 0) (pv 3) Z)))),?_⟩
 show⟨_,Z,g,_,_,V.int n,Z,Z,hg,bW (j:=0) Z,_,Z,g,_,_,V.ref t,Z,Z,hg,bW (j:=1) Z,t,_,Z,.inl (bD.of ht),λpt H1 n1=>⟨(),λpg H2 n2=>?_⟩⟩;let h2:=n2.same _ _ (n1.same _ _ hd);show⟨_,Z,d,_,_,_,Z,h2,cl,qi,(),?_⟩;generalize hU1:cU H2 d _=U1;let u1:vB H2 d (.ins C dx (vP "graph" (.ref pg) [])) U1:=by rw[<-hU1];show vB.nD
 show⟨_,Z,_,Z,d,_,_,_,Z,u1.here,cl,uK,(by show 1<1000;decide),?_⟩;generalize hU2:cU U1 d _=U2;let u2:vB U1 d (.ins C dx (vP "leaf" l (vP "graph" (.ref pg) []))) U2:=by rw[<-hU2];show vB.nD
 show⟨_,Z,_,Z,d,_,_,_,Z,u2.here,cl,rA,(by show 2<1000;decide),?_⟩;generalize hU3:cU U2 d _=U3;let u3:vB U2 d (.ins C dx (fsQ pg l u)) U3:=by rw[<-hU3];show vB.nD
 let sr:∀c,c≠d->U3 c=H2 c:=λc hc=>by rw[u3.rest _ hc,u2.rest _ hc,u1.rest _ hc]
 let dt:pt≠d:=λe=>by let:=n1.fresh;grind
 let dg:pg≠d:=λe=>by let:=n2.fresh;rw[e,n1.same _ _ hd]at this;cases this
 show q pg pt U3 (λc o hc hh=>by rw[sr c hc];show n2.same _ _ (n1.same _ _ hh)) n1.fresh u3.here (by rw[sr _ dg];show n2.here) (by rw[sr _ dt];show n2.same _ _ n1.here)
def Ws{H H':Hp}{v:V}{t:Int×Int}(k:lG H H')(h:lZ H v t):lZ H' v t:=by
 let⟨p,e,h⟩:=h;show⟨p,e,k _ _ h⟩
noncomputable def dD(s:dW)(i:Nat):Int:=s.getD i 0
def S6{s:dW}{i:Nat}(h:i<s.length):Vq (s.map V.int) (i:Int)=some (.int (dD s i)):=by
 show bW ?_;rw[cH,bI h];unfold dD;grind
namespace Lk
noncomputable def firsts:ae->ae->ae
 |L,[]=>L
 |L,x::r=>firsts (if 0<x/\x∉L then L++[x]else L) r
def iI(ns:ae):ae:=ns.map λx=>if 0<x then(((firsts [] ns).idxOf x:Nat):Int)+1 else x
def S7(ns:ae)(a b:Nat):ae:=ns.map λx=>if x=dD ns b then dD ns a else x
def Ph(ms:ae):ay->ae->Option (ae)
 | [],ns=>some ns
 |k::r,ns=>if 0<dD ms k/\ms.idxOf (dD ms k)<k then(if dD ns (ms.idxOf (dD ms k))=dD ns k then none else Ph ms r (S7 ns (ms.idxOf (dD ms k)) k))else Ph ms r ns
def jnO(ns ms:ae):List dW:=match Ph ms (List.range ms.length) ns with
 |none=>[]
 |some r=>[0::iI r]
def jnL(s t:dW):List dW:=if dD s 0=1 then(if dD t 0=1 then []else [s])else if dD t 0=1 then [t]else jnO s.tail t.tail
def iH(m:Nat)(s:dW):Bool:=s.length==m+1&&((dD s 0==1&&s.tail.all λx=>x==0)||(dD s 0==0&&(s.tail.all λx=>decide (0<=x)&&decide (x<=(m:Int)))&&iI s.tail==s.tail))
noncomputable def tups(c:Nat):Nat->List (ae)
 |0=>[[]]
 |k+1=>(tups c k).flatMap λs=>(List.range (c+1)).map λ(x:Nat)=>(x:Int)::s
def ZR(m:Nat):List dW:=(1::List.replicate m 0)::((tups m m).filter λs=>iI s==s).map (0 :: ·)
theorem RB{c:Nat}:∀{k:Nat}{s:ae},s.length=k->(∀x∈s,0<=x/\x<=(c:Int))->s∈tups c k
 |0,[],_,_=>wO _
 |k+1,x::s,l,h=>by
  show List.mem_flatMap.mpr ⟨s,RB (by simpa using l) λy hy=>h y (bJ _ hy),fH.mpr ⟨x.toNat,gA.mpr ?_,?_⟩⟩
  ·let:=h x aZ;omega
  ·let:=h x aZ
   rw[show((x.toNat:Nat):Int)=x by omega]
def DR{m:Nat}{s:dW}(h:iH m s=true):s∈ZR m:=by
 unfold iH at h;rw[gq,Nq]at h;let⟨h0,h⟩:=h;let l:s.length=m+1:=by simpa using h0
 cases s with
 |nil=>cases l
 |cons a r =>
  let lr:r.length=m:=by simpa using l
  rcases h with h|h
  ·rw[gq,iw]at h;let e:a=1:=by simpa [dD]using h.1
   let:r=List.replicate m 0:=List.eq_replicate_iff.mpr ⟨lr,λx hx=>by simpa using h.2 x hx⟩;rw[e,this];show aZ
  ·rw[gq,gq,iw]at h;let e:a=0:=by simpa [dD]using h.1.1
   show bJ _ (fH.mpr ⟨r,jT.mpr ⟨RB lr λx hx=>?_,h.2⟩,by rw[e]⟩);simpa using h.1.2 x hx
def DW{P:Nat->dW->Bool}(h:((List.range c).all λm=>(ZR m).all (P m))=true){m:Nat}(hm:m<c){s:dW}(hs:iH m s=true):P m s=true :=
 iw.mp (iw.mp h m (gA.mpr hm)) s (DR hs)
end Lk
noncomputable def tQ(cD:ae)(cost:Int×Int->Int):PQ Bool where
 leaf:=[0]
 whole:=[1]
 bt:=λa b=>decide (a<b)
 sh:=λs=>s.tail.map λx=>decide (0<x)
 jn:=Lk.jnL
 inn:=λs p v=>(if(v:Int)∈cD then []else [(zL s (p+1) 0,0)])++if dD s 0=0 then [(0::Lk.iI (zL s.tail p (s.length:Int)),0)]else []
 tie:=λs a b t=>(s,0)::if 0<dD s (a+1)/\0<dD s (b+1)/\dD s (a+1)≠dD s (b+1)then [(0::Lk.iI (Lk.S7 s.tail a b),cost t)]else []
 out:=λs p _=>if dD s (p+1)=0\/dD s (p+1)∈qD s.tail p then [(s.take 1++Lk.iI (qD s.tail p),0)]else if(qD s.tail p).any (λx=>decide (x≠0))=true then []else [(1::qD s.tail p,0)]
 Ok:=λm s=>m<=4->Lk.iH m s=true
def a6w{t u:TT}{D:Ends}{H:Hp}{A B:TS}{c1 c2:Bool}(h1:∀Q:Bool->Hp->Prop,Q c1 H->t σ H Q)(h2:∀Q:Bool->Hp->Prop,Q c2 H->u σ H Q)(a:c1=true/\c2=true->A D σ H)(b:¬(c1=true/\c2=true)->B D σ H):a0d (a0b t u) A B D σ H:=by
 show h1 _ ?_;cases c1 with
 |false=>show b λh=>Bool.noConfusion h.1
 |true =>
  show h2 _ ?_;cases c2 with
  |false=>show b λh=>Bool.noConfusion h.2
  |true=>show a ⟨Z,Z⟩
namespace Go
theorem yr:∀{xs ys:ae},xs.Pairwise (· < ·)->ys.Pairwise (· < ·)->(∀v,v∈xs↔v∈ys)->xs=ys
 | [],[],_,_,_=>rfl
 | [],y::ys,_,_,h=>absurd ((h y).mpr aZ) dZ
 |x::xs,[],_,_,h=>absurd ((h x).mp aZ) dZ
 |x::xs,y::ys,hx,hy,h=>by
  rw[uD]at hx hy
  let e:x=y:=by
   rcases bO.mp ((h x).mp aZ)with h1|h1
   ·show h1
   ·rcases bO.mp ((h y).mpr aZ)with h2|h2
    ·show h2.symm
    ·let a:=hy.1 x h1
     let b:=hx.1 y h2
     omega
  subst e
  rw[yr hx.2 hy.2 λv=>⟨λhv=>?_,λhv=>?_⟩]
  ·grind
  grind
end Go
structure Jo{κ:Type}(pq:PQ κ):Prop where
 leaf:pq.Ok 0 pq.leaf
 inn:∀{m s p v},pq.Ok m s->p<=m->(pq.inn s p v).length<=4/\∀x∈pq.inn s p v,pq.Ok (m+1) x.1
 tie:∀{m s a b t},pq.Ok m s->a<m->b<m->(pq.tie s a b t).length<=4/\∀x∈pq.tie s a b t,pq.Ok m x.1
 out:∀{m s p v},pq.Ok (m+1) s->p<m+1->m+1<=4->(pq.out s p v).length<=4/\∀x∈pq.out s p v,pq.Ok m x.1
 jn:∀{m s t},pq.Ok m s->pq.Ok m t->(pq.jn s t).length<=4/\∀x∈pq.jn s t,pq.Ok m x
 fin:∀{m:Nat}{l:List dW},m<=4->l.Nodup->(∀s∈l,pq.Ok m s)->l.length<=900
noncomputable def dM(T:b7):Nat:=(T.map λx=>x.2.m.natAbs).sum
structure yG{κ:Type}(pq:PQ κ)(m:Nat)(T:b7):Prop where
 nd:(T.map (·.1)).Nodup
 ok:∀x∈T,pq.Ok m x.1
def yG.nil{κ:Type}{pq:PQ κ}{m:Nat}:yG pq m []:=⟨vJ,λ_ h=>absurd h dZ⟩
def yG.len{κ:Type}{pq:PQ κ}(pk:Jo pq){m:Nat}(h:yG pq m T)(m4:m<=4):T.length<=900:=by
 let:=pk.fin m4 h.nd (λs hs=>by
  let⟨x,hx,rfl⟩:=fH.mp hs;show h.ok x hx)
 rw[aH]at this;show this
def ZS(T:b7)(s:dW)(r:gk):(rz T s r).map (·.1)=if(T.any λx=>decide (x.1=s))=true then T.map (·.1)else T.map (·.1)++[s]:=by
 unfold rz;split
 ·rw[lY];show vC λx _=>?_;grind
 grind
set_option tactic.hygienic true in
def Pj{κ:Type}{pq:PQ κ}{m:Nat}{s:dW}{r:gk}(h:yG pq m T)(hs:pq.Ok m s):yG pq m (rz T s r):=by
 let e:=ZS T s r;show⟨?_,λx hx=>?_⟩
 ·rw[e];split
  ·show h.nd
  ·rename_i c;show uE.mpr ⟨h.nd,ur _ _,λa ha b hb ab=>?_⟩;grind
 ·let:x.1∈(rz T s r).map (·.1):=fH.mpr ⟨x,hx,Z⟩;rw[e]at this;split at this
  ·let⟨y,hy,ey⟩:=fH.mp this;rw[<-ey];show h.ok y hy
  ·rcases cV.mp this with z|z
   ·let⟨y,hy,ey⟩:=fH.mp z;rw[<-ey];show h.ok y hy
   grind
def Yi{κ:Type}{pq:PQ κ}{bt:Int->Int->Bool}{m:Nat}{s:dW}{r:gk}(h:yG pq m T)(hs:pq.Ok m s):yG pq m (nR bt T s r):=by
 unfold nR;split<;>show Pj h hs
def Yj{s:dW}{r:gk}(nd:(T.map (·.1)).Nodup):dM (rz T s r)+((zy T s).map λo=>o.m.natAbs).getD 0=dM T+r.m.natAbs:=by
 induction T with
 |nil=>show Nat.add_comm (r.m.natAbs+0) 0
 |cons x T ih =>
  rw[cC,je]at nd;let ih:=ih nd.2;unfold rz zy at ih ⊢;by_cases c:x.1=s
  ·rw[oX,aV c,Bool.true_or,aB Z,rO (by show aV c)];let e:(T.map λy=>if y.1=s then(y.1,r)else y)=T:=by
    let:∀y∈T,(λy:dW×gk=>if y.1=s then(y.1,r)else y) y=id y:=λy hy=>aA λz=>nd.1 (fH.mpr ⟨y,hy,z.trans c.symm⟩);rw[vC this,List.map_id]
   rw[cC,aB c,e];unfold dM;rw[cC,cC,vK,vK];show r.m.natAbs+_+x.2.m.natAbs=_;omega
  ·rw[oX,cI c,Bool.false_or,rP (by show λz=>c (dw z))];by_cases d:(T.any λy=>decide (y.1=s))=true
   ·rw[aB d]at ih ⊢;rw[cC,aA c];unfold dM at ih ⊢;rw[cC,cC,vK,vK];omega
   ·rw[aA d]at ih ⊢;unfold dM at ih ⊢;rw[List.cons_append,cC,cC,vK,vK];omega
set_option tactic.hygienic true in
def RD{bt:Int->Int->Bool}{s:dW}{r:gk}(nd:(T.map (·.1)).Nodup):dM (nR bt T s r)<=dM T+r.m.natAbs:=by
 unfold nR;split
 ·rename_i e;let:=Yj (s:=s) (r:=r) nd;omega
 ·rename_i o e;let:=Yj (s:=s) (r:=⟨o.m+r.m,(wu bt r o).b,(wu bt r o).src⟩) nd;rw[e]at this;let h2:(o.m+r.m).natAbs<=o.m.natAbs+r.m.natAbs:=Int.natAbs_add_le _ _;let e3:((some o).map λo:gk=>o.m.natAbs).getD 0=o.m.natAbs:=rfl;rw[e3]at this;show dM (rz T s _)<=_;let:dM (rz T s ⟨o.m+r.m,(wu bt r o).b,(wu bt r o).src⟩)+o.m.natAbs=dM T+(o.m+r.m).natAbs:=this;omega
section
variable{κ:Type} [DecidableEq κ]
theorem zM{pq:PQ κ}{bt:Int->Int->Bool}{m:Nat}{old:dW}{row:gk}:∀{l:List (dW×Int)}{T:b7},yG pq m T->(∀x∈l,pq.Ok m x.1)->yG pq m (qj bt old row l T)/\dM (qj bt old row l T)<=dM T+l.length*row.m.natAbs
 | [],T,h,_=>⟨h,by show dM T<=dM T+0*_;omega⟩
 |x::l,T,h,hl=>by
  let h1:yG pq m (nR bt T x.1 ⟨row.m,row.b+x.2,[old]⟩):=Yi h (hl x (aZ ..))
  let s1:=RD (bt:=bt) (s:=x.1) (r:=⟨row.m,row.b+x.2,[old]⟩) h.nd
  let s1:dM (nR bt T x.1 ⟨row.m,row.b+x.2,[old]⟩)<=dM T+row.m.natAbs:=s1
  let⟨h2,s2⟩:=zM (bt:=bt) (old:=old) (row:=row) h1 (λy hy=>hl y (bJ _ hy))
  show⟨h2,cG s2 ?_⟩
  rw[lV,Nat.succ_mul]
  omega
theorem Jp{pq:PQ κ}{jM:bT}{B:ae}{m m':Nat}:∀{S T:b7},yG pq m' T->(∀x∈S,pq.Ok m x.1)->(∀s,pq.Ok m s->(Wh pq s jM B).length<=4/\∀x∈Wh pq s jM B,pq.Ok m' x.1)->yG pq m' (sY pq jM B S T)/\dM (sY pq jM B S T)<=dM T+4*dM S
 | [],T,h,_,_=>⟨h,by show dM T<=dM T+_;omega⟩
 |x::S,T,h,hS,hb=>by
  let⟨l4,ob⟩:=hb x.1 (hS x (aZ ..))
  let⟨h1,s1⟩:=zM (bt:=pq.bt) (old:=x.1) (row:=x.2) h ob
  let⟨h2,s2⟩:=Jp h1 (λy hy=>hS y (bJ _ hy)) hb
  show⟨h2,cG s2 ?_⟩
  let e:dM (x::S)=x.2.m.natAbs+dM S:=by unfold dM;grind
  rw[e]
  let:(Wh pq x.1 jM B).length*x.2.m.natAbs<=4*x.2.m.natAbs:=Nat.mul_le_mul_right _ l4
  omega
def ZV{pq:PQ κ}(pk:Jo pq){jM:bT}{B:ae}{m m':Nat}(m4:m'<=4){S:b7}(hS:∀x∈S,pq.Ok m x.1)(hb:∀s,pq.Ok m s->(Wh pq s jM B).length<=4/\∀x∈Wh pq s jM B,pq.Ok m' x.1):a3Z pq jM B S []:=by
 intro i hi x hx j hj;let h1:=(Jp (pq:=pq) (jM:=jM) (B:=B) (m:=m) (m':=m') (S:=S.take i) yG.nil (λy hy=>hS y (jQ hy)) hb).1;let⟨_,ob⟩:=hb x.1 (hS x (gF hx));let h2:=(zM (bt:=pq.bt) (old:=x.1) (row:=x.2) (l:=(Wh pq x.1 jM B).take j) h1 λy hy=>ob y (jQ hy)).1;let:=h2.len pk m4;omega
theorem Jq{pq:PQ κ}{bt:Int->Int->Bool}{m:Nat}{fU cP:dW}{row more:gk}:∀{l:List dW}{T:b7},yG pq m T->(∀x∈l,pq.Ok m x)->yG pq m (xK bt fU cP row more l T)/\dM (xK bt fU cP row more l T)<=dM T+l.length*(row.m.natAbs*more.m.natAbs)
 | [],T,h,_=>⟨h,by show dM T<=dM T+0*_;omega⟩
 |x::l,T,h,hl=>by
  let h1:yG pq m (nR bt T x ⟨row.m*more.m,row.b+more.b,[fU,cP]⟩):=Yi h (hl x (aZ ..))
  let s1:=RD (bt:=bt) (s:=x) (r:=⟨row.m*more.m,row.b+more.b,[fU,cP]⟩) h.nd
  let s1:dM (nR bt T x ⟨row.m*more.m,row.b+more.b,[fU,cP]⟩)<=dM T+(row.m*more.m).natAbs:=s1
  rw[Int.natAbs_mul]at s1
  let⟨h2,s2⟩:=Jq (bt:=bt) (fU:=fU) (cP:=cP) (row:=row) (more:=more) h1 (λy hy=>hl y (bJ _ hy))
  show⟨h2,cG s2 ?_⟩
  rw[lV,Nat.succ_mul]
  omega
theorem Jr{pq:PQ κ}(pk:Jo pq){m:Nat}{fU:dW}{row:gk}(oo:pq.Ok m fU):∀{A T:b7},yG pq m T->(∀x∈A,pq.Ok m x.1)->yG pq m (vh pq fU row A T)/\dM (vh pq fU row A T)<=dM T+4*(row.m.natAbs*dM A)
 | [],T,h,_=>⟨h,by show dM T<=dM T+_;omega⟩
 |x::A,T,h,hA=>by
  let⟨l4,oj⟩:=pk.jn oo (hA x (aZ ..))
  let⟨h1,s1⟩:=Jq (bt:=pq.bt) (fU:=fU) (cP:=x.1) (row:=row) (more:=x.2) h oj
  let⟨h2,s2⟩:=Jr pk oo (row:=row) h1 (λy hy=>hA y (bJ _ hy))
  show⟨h2,cG s2 ?_⟩
  let e:dM (x::A)=x.2.m.natAbs+dM A:=by unfold dM;grind
  rw[e,Nat.mul_add]
  let:=Nat.mul_le_mul_right (row.m.natAbs*x.2.m.natAbs) l4
  omega
theorem sum_filter(p:dW×gk->Bool):∀A:b7,dM (A.filter p)<=dM A
 | []=>aK _
 |x::A=>by
  let ih:=sum_filter p A
  let e:dM (x::A)=x.2.m.natAbs+dM A:=by unfold dM;grind
  by_cases c:p x=true
  ·rw[GF c]
   let e':dM (x::A.filter p)=x.2.m.natAbs+dM (A.filter p):=by unfold dM;grind
   omega
  grind
theorem Pk{pq:PQ κ}(pk:Jo pq){m:Nat}{A:b7}(hA:∀x∈A,pq.Ok m x.1):∀{S T:b7},yG pq m T->(∀x∈S,pq.Ok m x.1)->yG pq m (sZ pq A S T)/\dM (sZ pq A S T)<=dM T+4*(dM S*dM A)
 | [],T,h,_=>⟨h,by show dM T<=dM T+_;omega⟩
 |x::S,T,h,hS=>by
  let hA':∀y∈jB pq x.1 A,pq.Ok m y.1:=λy hy=>hA y (jT.mp hy).1
  let⟨h1,s1⟩:=Jr pk (hS x (aZ ..)) (row:=x.2) h hA'
  let⟨h2,s2⟩:=Pk pk hA h1 (λy hy=>hS y (bJ _ hy))
  show⟨h2,cG s2 ?_⟩
  let e:dM (x::S)=x.2.m.natAbs+dM S:=by unfold dM;grind
  rw[e,Nat.add_mul]
  let f:dM (jB pq x.1 A)<=dM A:=sum_filter _ A
  let:=Nat.mul_le_mul_left x.2.m.natAbs f
  omega
def Ś{pq:PQ κ}(pk:Jo pq){m:Nat}(m4:m<=4){A S:b7}(hA:∀x∈A,pq.Ok m x.1)(hS:∀x∈S,pq.Ok m x.1):a4c pq A S []:=by
 intro i x hx j y hy l hl;let h1:=(Pk pk hA (S:=S.take i) yG.nil λz hz=>hS z (jQ hz)).1;let ox:=hS x (gF hx);let h2:=(Jr pk ox (row:=x.2) (A:=(jB pq x.1 A).take j) h1 λz hz=>hA z (jT.mp (jQ hz)).1).1;let oy:=hA y (jT.mp (gF hy)).1;let h3:=(Jq (bt:=pq.bt) (fU:=x.1) (cP:=y.1) (row:=x.2) (more:=y.2) (l:=(pq.jn x.1 y.1).take l) h2 λz hz=>(pk.jn ox oy).2 z (jQ hz)).1;let:=h3.len pk m4;omega
end
namespace Go
def getD_at{ss:ax}{i:Nat}{s:bT}(h:ss[i]?=some s):ss.getD i .leaf=s:=by
 rw[fY,h];rfl
section
variable{n:Nat}{ts:ar}{ss:ax}
def Js{i:Nat}{s:bT}(h:ss[i]?=some s)(g1:(aY n ts ss i).2=true)(g2:(aY n ts ss (i+1)).2=true):∃b,oK n ts (ss.take i) s (qX s (aY n ts ss i).1)=some b/\s.need<=(aY n ts ss i).1.pile.length/\(aY n ts ss (i+1)).1=⟨(aY n ts ss i).1.aQ++[b],(aY n ts ss i).1.dz++[(aY n ts ss i).1.pile.drop (dX s (aY n ts ss i).1)],(aY n ts ss i).1.pile.take (dX s (aY n ts ss i).1)++[i]⟩:=by
 rw[Ry,aB g1]at g2 ⊢;cases d:qC n ts ss i (aY n ts ss i).1 with
 |none=>grind
 |some r =>
  unfold qC at d;rw[getD_at h]at d;by_cases c:s.need<=(aY n ts ss i).1.pile.length
  ·rw[aB c]at d;let⟨b,hb,er⟩:=jP.mp d;show⟨b,hb,c,er.symm⟩
  ·rw[aA c]at d;cases d
theorem Yk(go:∀i,i<=ss.length->(aY n ts ss i).2=true)(dJ:n<=10){k:Nat}{s:bT}(h:ss[k]?=some s):∀j,k+1<=j->j<=ss.length->(aY n ts ss j).1.dz.getD k []=(aY n ts ss k).1.pile.drop (dX s (aY n ts ss k).1)
 |0,h1,_=>absurd h1 ()
 |j+1,h1,h2=>by
  let kl:=(eG.mp h).1
  let⟨b,_,_,e⟩:=Js (n:=n) (ts:=ts) (s:=ss[j]'()) (bI ()) (go j ()) (go (j+1) h2)
  let I:=jx dJ (go j ())
  rw[e]
  show((aY n ts ss j).1.dz++[_]).getD k []=_
  by_cases c:j=k
  ·subst c
   rw[fY,wM (by rw[I.fl];omega),I.fl,zf]
   grind
  ·rw[fY,yP (by rw[I.fl];omega),<-fY]
   show Yk go dJ h j () ()
abbrev gY(n:Nat)(ts:ar)(ss:ax)(k:Nat):ae:=(b8 n ts ss).aQ.getD k []
abbrev qt(n:Nat)(ts:ar)(ss:ax)(k:Nat):ay:=(b8 n ts ss).dz.getD k []
theorem Wt(go:∀i,i<=ss.length->(aY n ts ss i).2=true)(dJ:n<=10){k:Nat}:∀j,k+1<=j->j<=ss.length->(aY n ts ss j).1.aQ.getD k []=(aY n ts ss (k+1)).1.aQ.getD k []
 |0,h1,_=>absurd h1 ()
 |j+1,h1,h2=>by
  by_cases c:j=k
  ·rw[c]
  let⟨b,_,_,e⟩:=Js (n:=n) (ts:=ts) (s:=ss[j]'()) (bI ()) (go j ()) (go (j+1) h2)
  let I:=jx dJ (go j ())
  rw[e]
  show((aY n ts ss j).1.aQ++[_]).getD k []=_
  rw[fY,yP (by rw[I.tl];omega),<-fY]
  show Wt go dJ j () ()
def Pn(go:∀i,i<=ss.length->(aY n ts ss i).2=true)(dJ:n<=10){k j:Nat}(h1:k+1<=j)(h2:j<=ss.length):(aY n ts ss j).1.aQ.getD k []=gY n ts ss k:=by
 rw[Wt go dJ j h1 h2];show(Wt go dJ ss.length () (aK _)).symm
structure StE(n:Nat)(ts:ar)(ss:ax)(k:Nat)(s:bT):Prop where
 bC:oK n ts (ss.take k) s ((qt n ts ss k).map (gY n ts ss))=some (gY n ts ss k)
 len:(qt n ts ss k).length=s.need
 lt:∀j∈qt n ts ss k,j<k
 pile:(aY n ts ss (k+1)).1.pile=(aY n ts ss k).1.pile.take (dX s (aY n ts ss k).1)++[k]
 feed:qt n ts ss k=(aY n ts ss k).1.pile.drop (dX s (aY n ts ss k).1)
def zN(go:∀i,i<=ss.length->(aY n ts ss i).2=true)(dJ:n<=10){k:Nat}{s:bT}(h:ss[k]?=some s):StE n ts ss k s:=by
 let kl:=(eG.mp h).1;let⟨b,hb,hn,e⟩:=Js (n:=n) (ts:=ts) h (go k ()) (go (k+1) ());let I:=jx dJ (go k ());let ef:qt n ts ss k=(aY n ts ss k).1.pile.drop (dX s (aY n ts ss k).1):=Yk go dJ h ss.length () (aK _);let lt:∀j∈qt n ts ss k,j<k:=λj hj=>by
  rw[ef]at hj;show I.lt j (yU hj)
 let eu:qX s (aY n ts ss k).1=(qt n ts ss k).map (gY n ts ss):=by
  unfold qX;rw[<-ef];show vC λj hj=>Pn go dJ (lt j hj) ()
 let eb:gY n ts ss k=b:=by
  rw[<-Pn go dJ (Nat.le_refl (k+1)) (),e];show((aY n ts ss k).1.aQ++[b]).getD k []=b;rw[fY,wM (by rw[I.tl];omega),I.tl,zf];rfl
 show⟨by rw[eb,<-eu];show hb,?_,lt,by rw[e],ef⟩;rw[ef,iK];unfold dX;omega
def yu(p:Int->Bool):(Qf p).Pairwise (· < ·):=by
 unfold Qf;show GQ _ ?_;rw[yX];show List.pairwise_lt_range.imp λh=>by omega
def Wu{l:List α}(h:l.length=1):∃i,l=[i]:=by
 rcases l with _|⟨i,_|⟨j,l⟩⟩
 ·cases h
 ·grind
 ·cases h
def two_of{l:List α}(h:l.length=2):∃i j,l=[i,j]:=by
 rcases l with _|⟨i,_|⟨j,_|⟨x,l⟩⟩⟩
 ·cases h
 ·cases h
 ·grind
 ·cases h
inductive StB(n:Nat)(ts:ar)(ss:ax)(k:Nat):bT->Prop
 |leaf:qt n ts ss k=[]->gY n ts ss k=[]->StB n ts ss k .leaf
 |inn {i v}:qt n ts ss k=[i]->i<k->0<=v->v<(n:Int)->v∉gY n ts ss i->gY n ts ss k=gK (gY n ts ss i) [v]->bT.out v∉ss.take k->StB n ts ss k (.inn v)
 |tie {i a b}:qt n ts ss k=[i]->i<k->(a,b)∈ts->a∈gY n ts ss i->b∈gY n ts ss i->gY n ts ss k=gY n ts ss i->StB n ts ss k (.tie a b)
 |out {i v}:qt n ts ss k=[i]->i<k->v∈gY n ts ss i->gY n ts ss k=nY (gY n ts ss i) [v]->bT.out v∉ss.take k->StB n ts ss k (.out v)
 |join {i j}:qt n ts ss k=[i,j]->i<k->j<k->gY n ts ss i=gY n ts ss j->gY n ts ss k=gY n ts ss i->StB n ts ss k .join
set_option tactic.hygienic true in
def a1v{k:Nat}{s:bT}(S:StE n ts ss k s):StB n ts ss k s:=by
 let hb:=S.bC;cases s with
 |leaf=>show .leaf (Ms.mp S.len) (dI hb).symm
 |inn v =>
  let⟨i,ei⟩:=Wu S.len;let lt:=S.lt i ();rw[ei]at hb;unfold oK at hb;dsimp only at hb;split at hb
  ·rename_i c;show .inn ei lt c.1.1 c.1.2 c.2.1 (dI hb).symm c.2.2
  ·cases hb
 |tie a b =>
  let⟨i,ei⟩:=Wu S.len;let lt:=S.lt i ();rw[ei]at hb;unfold oK at hb;dsimp only at hb;split at hb
  ·rename_i c;let c2:nY [a,b] (gY n ts ss i)=[]:=c.2.1;let mm:∀x∈[a,b],x∈gY n ts ss i:=λx hx=>by
    cases d:decide (x∈gY n ts ss i)with
    |true=>grind
    |false =>
     let:x∈nY [a,b] (gY n ts ss i):=jT.mpr ⟨hx,by rw[d];rfl⟩;grind
   show .tie ei lt c.1 (mm a (by simp)) (mm b (by simp)) (dI hb).symm
  ·cases hb
 |out v =>
  let⟨i,ei⟩:=Wu S.len;let lt:=S.lt i ();rw[ei]at hb;unfold oK at hb;dsimp only at hb;split at hb
  ·rename_i c;show .out ei lt c.1 (dI hb).symm c.2
  ·cases hb
 |join =>
  let⟨i,j,ei⟩:=two_of S.len;let lt:=S.lt i (by rw[ei];simp);let lt':=S.lt j (by rw[ei];simp);rw[ei]at hb;unfold oK at hb;dsimp only at hb;split at hb
  ·rename_i c;show .join ei lt lt' c (dI hb).symm
  ·cases hb
def ś(dJ:n<=10)(all:∀(k:Nat) (s:bT),ss[k]?=some s->StB n ts ss k s):∀k,k<ss.length->(gY n ts ss k).Pairwise (· < ·)/\∀v∈gY n ts ss k,0<=v/\v<(n:Int):=by
 intro k
 induction k using Nat.strongRecOn with
 |_ k ih =>
  intro kl;let S:=all k _ (bI kl);generalize ss[k]=s at S;cases S with
  |leaf _ e=>rw[e];show⟨.nil,λv h=>absurd h dZ⟩
  | @inn i v _ lt v0 vn _ e _ =>
   rw[e];show⟨yu _,λx hx=>?_⟩;let:=(yh.mp hx).2.2;rcases dw this with h|h
   ·show(ih i lt ()).2 x h
   ·rw[bK.mp h];show⟨v0,vn⟩
  | @tie i a b _ lt _ _ _ e=>rw[e];show ih i lt ()
  | @out i v _ lt _ e _ =>
   rw[e];let:=ih i lt ();show⟨this.1.filter _,λx hx=>this.2 x (jT.mp hx).1⟩
  | @join i j _ lt _ _ e=>rw[e];show ih i lt ()
def vz(dJ:n<=10){p q:ae}(hp:∀v∈p,0<=v/\v<(n:Int))(hq:∀v∈q,0<=v/\v<(n:Int)){v:Int}:v∈gK p q↔v∈p\/v∈q:=by
 show⟨λh=>dw (yh.mp h).2.2,λh=>yh.mpr ?_⟩;grind
def DY(dJ:n<=10){p q:ae}(ap:p.Pairwise (· < ·))(hp:∀v∈p,0<=v/\v<(n:Int))(h:∀v∈q,v∈p):gK p q=p/\gK q p=p:=by
 let hq:=λv hv=>hp v (h v hv);show⟨yr (yu _) ap λv=>?_,yr (yu _) ap λv=>?_⟩
 ·rw[vz dJ hp hq];show⟨λz=>z.elim id (h v),.inl⟩
 ·rw[vz dJ hq hp];show⟨λz=>z.elim (h v) id,.inr⟩
def Jt{b:ae}(h:b.Pairwise (· < ·)):b.Nodup:=h.imp λh=>by omega
def Yl(dJ:n<=10){p:ae}{v:Int}(ap:p.Pairwise (· < ·))(hp:∀v∈p,0<=v/\v<(n:Int))(hv:0<=v/\v<(n:Int))(h:v∉p):(gK p [v]).length=p.length+1:=by
 let:(gK p [v]).Perm (v::p):=(GC (Jt (yu _)) (je.mpr ⟨h,Jt ap⟩)).mpr λx=>by
  show x∈gK p [v]↔_;rw[show x∈gK p [v]↔x∈p\/x∈[v]from vz dJ hp (λy hy=>by rw[bK.mp hy];show hv)];simp[or_comm]
 rw[this.length_eq];rfl
def a1w{p:ae}{v:Int}(ap:p.Pairwise (· < ·))(h:v∈p):(nY p [v]).length+1=p.length:=by
 let:(nY p [v]).Perm (p.erase v):=(GC ((Jt ap).filter _) ((Jt ap).erase v)).mpr λx=>by
  rw[(Jt ap).mem_erase_iff,jT];simp[and_comm]
 rw[this.length_eq,ä h];grind
theorem RG(go:∀i,i<=ss.length->(aY n ts ss i).2=true)(dJ:n<=10):∀i,i<=ss.length->(aY n ts ss i).1.pile.Pairwise (· < ·)
 |0,_=>.nil
 |i+1,il=>by
  let S:=zN (n:=n) (ts:=ts) go dJ (List.getElem?_eq_getElem (show i<ss.length by omega))
  let I:=jx dJ (go i ())
  rw[S.pile]
  show Mx.mpr ⟨(RG go dJ i ()).sublist (MP _ _),ur _ _,λa ha b hb=>?_⟩
  rw[bK.mp hb]
  show I.lt a (jQ ha)
end
end Go
namespace Go
section
variable{κ:Type} [DecidableEq κ]
variable{n:Nat}{ts:ar}{ss:ax}
abbrev xU(pq:PQ κ)(n:Nat)(ts:ar)(ss:ax)(k:Nat):List b7:=Kd pq ss (b8 n ts ss).aQ (b8 n ts ss).dz k
def Pq(pq:PQ κ){k j:Nat}(h:j<k):(xU pq n ts ss (k+1)).getD j []=(xU pq n ts ss k).getD j []:=by
 show(xU pq n ts ss k++[_]).getD j []=_;rw[fY,yP (by rw[lH];show h),<-fY]
def Pr(pq:PQ κ)(k:Nat):(xU pq n ts ss (k+1)).getD k []=Kc pq (b8 n ts ss).aQ (xU pq n ts ss k) (ss.getD k .leaf) (gY n ts ss k) (qt n ts ss k):=by
 show(xU pq n ts ss k++[_]).getD k []=_;rw[fY,wM (by rw[lH];grind),lH,zf];rfl
theorem uT(pq:PQ κ){j:Nat}:∀{k:Nat},j<k->(xU pq n ts ss k).getD j []=(xU pq n ts ss (j+1)).getD j []
 |0,h=>absurd h (CJ _)
 |k+1,h=>by
  by_cases c:j=k
  ·rw[c]
  ·rw[Pq pq (show j<k by omega)]
   show uT pq ()
structure GoI(pq:PQ κ)(n:Nat)(ts:ar)(ss:ax)(k:Nat):Prop where
 ok:∀j,j<k->yG pq (gY n ts ss j).length ((xU pq n ts ss k).getD j [])
 cost:∃c:Nat->Nat,(∀j,j<k->dM ((xU pq n ts ss k).getD j [])<=16^c j)/\((aY n ts ss k).1.pile.map c).sum<=k
theorem Ŝ{c:Nat->Nat}:∀{l:ay}{i:Nat},i∈l->c i<=(l.map c).sum
 |a::l,i,h=>by
  rw[cC,vK]
  rcases bO.mp h with h|h
  ·rw[h];omega
  ·let:=Ŝ (c:=c) h
   omega
theorem a6x:∀{T:b7}{x:dW×gk},x∈T->x.2.m.natAbs<=dM T
 |y::T,x,h=>by
  let e:dM (y::T)=y.2.m.natAbs+dM T:=by unfold dM;grind
  rw[e]
  rcases bO.mp h with h|h
  ·rw[h];omega
  ·let:=a6x h
   omega
def RJ(h:dM T<=16^c)(l:c<=800):Jb T:=λx hx=>by
 let h1:=a6x hx;let e:(16:Nat)^c=2^(4*c):=by rw[Nat.pow_mul]
 let:(2:Nat)^(4*c)<2^4000:=Nat.pow_lt_pow_right () ();omega
def Pu{B:ae}{v:Int}(h:v∈B):B.idxOf v<B.length:=Ù h
def Ju(Qn:J7 P w K mg base κ)(pk:Jo Qn.pq){aQ:List (ae)}{cD:List b7}{jM:bT}{bC:ae}{i:Nat}(nj:jM≠.join)(il:i<cD.length)(hT:yG Qn.pq (aQ.getD i []).length (cD.getD i []))(m4:(aQ.getD i []).length<=4)(b4:bC.length<=4)(fit:Gs Qn jM (gK bC (aQ.getD i [])) (aQ.getD i []).length)
  (hb:∀s,Qn.pq.Ok (aQ.getD i []).length s->(Wh Qn.pq s jM (gK bC (aQ.getD i []))).length<=4/\∀x∈Wh Qn.pq s jM (gK bC (aQ.getD i [])),Qn.pq.Ok bC.length x.1):xO Qn aQ cD jM bC [i]/\yG Qn.pq bC.length (Kc Qn.pq aQ cD jM bC [i])/\dM (Kc Qn.pq aQ cD jM bC [i])<=4*dM (cD.getD i []):=by
 let l9:=hT.len pk m4;let⟨h1,h2⟩:=Jp (pq:=Qn.pq) (jM:=jM) (B:=gK bC (aQ.getD i [])) (S:=cD.getD i []) yG.nil hT.ok hb;show⟨⟨nj,il,hT.ok,fit,(),ZV pk b4 hT.ok hb⟩,h1,?_⟩;let e:dM []=0:=rfl;rw[e,Nat.zero_add]at h2;show h2
def two_step(Qn:J7 P w K mg base κ)(pk:Jo Qn.pq){aQ:List (ae)}{cD:List b7}{bC:ae}{i j m ci cj:Nat}(il:i<cD.length)(jl:j<cD.length)(ō:i≠j)(em:bC.length=m)(m4:m<=4)(hi:yG Qn.pq m (cD.getD i []))(hj:yG Qn.pq m (cD.getD j []))(si:dM (cD.getD i [])<=16^ci)(sj:dM (cD.getD j [])<=16^cj)(li:ci<=800)(lj:cj<=800):xO Qn aQ cD .join bC [i,j]/\yG Qn.pq bC.length (Kc Qn.pq aQ cD .join bC [i,j])/\dM (Kc Qn.pq aQ cD .join bC [i,j])<=4*(dM (cD.getD i [])*dM (cD.getD j [])):=by
 let l1:=hi.len pk m4;let l2:=hj.len pk m4;let⟨h1,h2⟩:=Pk pk (A:=cD.getD j []) hj.ok (S:=cD.getD i []) yG.nil hi.ok;show⟨⟨Z,il,jl,ō,m,(),hi.ok,hj.ok,hj.nd,(),l2,RJ si li,RJ sj lj,Ś pk m4 hj.ok hi.ok⟩,by rw[em];show h1,?_⟩;let e:dM []=0:=rfl;rw[e,Nat.zero_add]at h2;show h2
def pow_step{x:Nat}(h:x<=16^c):4*x<=16^(1+c):=by
 grind
def Ym(Qn:J7 P w K mg base κ)(pk:Jo Qn.pq)(hPl:∀k:Nat,k<Qn.n->Qn.Pl k)(hTi:∀t∈Qn.ts,Qn.Ti t)(ne:∀t∈Qn.ts,t.1≠t.2)(dJ:Qn.n<=10)(l8:ss.length<=800)(wB:Br Qn.n Qn.ts ss (b8 Qn.n Qn.ts ss)=.ok)(b4:∀b∈(b8 Qn.n Qn.ts ss).aQ,b.length<=4){k:Nat}(kl:k<ss.length)(I:GoI Qn.pq Qn.n Qn.ts ss k):xO Qn (b8 Qn.n Qn.ts ss).aQ (xU Qn.pq Qn.n Qn.ts ss k) (ss.getD k .leaf) (gY Qn.n Qn.ts ss k) (qt Qn.n Qn.ts ss k)/\GoI Qn.pq Qn.n Qn.ts ss (k+1):=by
 let go:=Ŗ dJ wB;let RI:=yq dJ wB;let all:∀(k:Nat) (s:bT),ss[k]?=some s->StB Qn.n Qn.ts ss k s:=λk s h=>a1v (zN go dJ h);let tp:=ś dJ all;let t4:∀j,j<ss.length->(gY Qn.n Qn.ts ss j).length<=4:=λj hj=>by
  let hl:j<(b8 Qn.n Qn.ts ss).aQ.length:=by rw[RI.tl];show hj
  let e:gY Qn.n Qn.ts ss j=(b8 Qn.n Qn.ts ss).aQ[j]:=by
   show(b8 Qn.n Qn.ts ss).aQ.getD j []=_;rw[fY,bI hl];rfl
  rw[e];show b4 _ (nH hl)
 let hs:=bI kl;let S:=zN (n:=Qn.n) (ts:=Qn.ts) go dJ hs;let SB:=a1v S;let es:=getD_at hs;let⟨c,hc,hsum⟩:=I.cost;let c8:∀i∈qt Qn.n Qn.ts ss k,c i<=800:=λi hi=>by
  let:c i<=_:=Ŝ (c:=c) (l:=(aY Qn.n Qn.ts ss k).1.pile) (by rw[S.feed]at hi;show yU hi);omega
 suffices h:xO Qn (b8 Qn.n Qn.ts ss).aQ (xU Qn.pq Qn.n Qn.ts ss k) (ss.getD k .leaf) (gY Qn.n Qn.ts ss k) (qt Qn.n Qn.ts ss k)/\yG Qn.pq (gY Qn.n Qn.ts ss k).length (Kc Qn.pq (b8 Qn.n Qn.ts ss).aQ (xU Qn.pq Qn.n Qn.ts ss k) (ss.getD k .leaf) (gY Qn.n Qn.ts ss k) (qt Qn.n Qn.ts ss k))/\dM (Kc Qn.pq (b8 Qn.n Qn.ts ss).aQ (xU Qn.pq Qn.n Qn.ts ss k) (ss.getD k .leaf) (gY Qn.n Qn.ts ss k) (qt Qn.n Qn.ts ss k))<=16^(1+((qt Qn.n Qn.ts ss k).map c).sum) by
  let⟨h1,h2,h3⟩:=h;show⟨h1,⟨λj hj=>?_,λj=>if j=k then 1+((qt Qn.n Qn.ts ss k).map c).sum else c j,λj hj=>?_,?_⟩⟩
  ·by_cases e:j=k
   ·rw[e,Pr];show h2
   ·rw[Pq _ ()];show I.ok j ()
  ·show dM _<=16^(if j=k then 1+((qt Qn.n Qn.ts ss k).map c).sum else c j);by_cases e:j=k
   ·rw[aB e,e,Pr];show h3
   ·rw[aA e,Pq _ ()];show hc j ()
  ·let Z97:=jx dJ (go k ());rw[S.pile,cW,List.sum_append];let e1:((aY Qn.n Qn.ts ss k).1.pile.take (dX ss[k] (aY Qn.n Qn.ts ss k).1)).map (λj=>if j=k then 1+((qt Qn.n Qn.ts ss k).map c).sum else c j)=((aY Qn.n Qn.ts ss k).1.pile.take (dX ss[k] (aY Qn.n Qn.ts ss k).1)).map c:=vC λj hj=>aA (by let:=Z97.lt j (jQ hj);omega);let e2:([k].map λj=>if j=k then 1+((qt Qn.n Qn.ts ss k).map c).sum else c j).sum=1+((qt Qn.n Qn.ts ss k).map c).sum:=by
    show(if k=k then 1+((qt Qn.n Qn.ts ss k).map c).sum else c k)+0=_;rw[aB Z,Nat.add_zero]
   rw[e1,e2,S.feed];let e3:((aY Qn.n Qn.ts ss k).1.pile.map c).sum=(((aY Qn.n Qn.ts ss k).1.pile.take (dX ss[k] (aY Qn.n Qn.ts ss k).1)).map c).sum+(((aY Qn.n Qn.ts ss k).1.pile.drop (dX ss[k] (aY Qn.n Qn.ts ss k).1)).map c).sum:=by
    rw[<-List.sum_append,<-cW,uw]
   omega
 rw[es];let lk:(xU Qn.pq Qn.n Qn.ts ss k).length=k:=lH _ _ _ _ k;let pa:=RG (n:=Qn.n) (ts:=Qn.ts) go dJ k ();let fd:=S.feed;let⟨ak,bk⟩:=tp k kl;let k4:=t4 k kl;generalize ss[k]=s at SB fd ⊢;cases SB with
 |leaf ef et =>
  rw[ef,et];show⟨trivial,⟨ur _ _,λx hx=>?_⟩,by show 1<=16^1;decide⟩;rw[bK.mp hx];show pk.leaf
 | @inn i v ef lt v0 vn nv et _ =>
  let⟨ai,bi⟩:=tp i ();let ci:=hc i lt;let e1:gK (gY Qn.n Qn.ts ss k) (gY Qn.n Qn.ts ss i)=gY Qn.n Qn.ts ss k:=(DY dJ ak bk λx hx=>by rw[et];show(vz dJ bi λy hy=>by rw[bK.mp hy];show⟨v0,vn⟩).mpr (.inl hx)).1;let e2:(gY Qn.n Qn.ts ss k).length=(gY Qn.n Qn.ts ss i).length+1:=by rw[et];show Yl dJ ai bi ⟨v0,vn⟩ nv
  let vk:v∈gY Qn.n Qn.ts ss k:=by rw[et];show(vz dJ bi λy hy=>by rw[bK.mp hy];show⟨v0,vn⟩).mpr (.inr (wO v))
  rw[ef];let⟨h1,h2,h3⟩:=Ju Qn pk (aQ:=(b8 Qn.n Qn.ts ss).aQ) (cD:=xU Qn.pq Qn.n Qn.ts ss k) (jM:=.inn v) (bC:=gY Qn.n Qn.ts ss k) (i:=i) (λz=>by cases z) () (I.ok i lt) (t4 i ()) k4 (by
   rw[e1];show⟨⟨v.toNat,()⟩,vk,e2,t4 i ()⟩) (λs hs=>by
   rw[e1];let q:(gY Qn.n Qn.ts ss k).idxOf v<(gY Qn.n Qn.ts ss i).length+1:=by rw[<-e2];show Pu vk
   let⟨g1,g2⟩:=pk.inn (p:=(gY Qn.n Qn.ts ss k).idxOf v) (v:=v.toNat) hs (Nat.le_of_lt_succ q);show⟨g1,λx hx=>by rw[e2];show g2 x hx⟩)
  show⟨h1,h2,cG h3 (pow_step (by rw[Ul,Um];show ci))⟩
 | @tie i a b ef lt ht ma mb et =>
  let⟨ai,bi⟩:=tp i ();let ci:=hc i lt;let e1:gK (gY Qn.n Qn.ts ss k) (gY Qn.n Qn.ts ss i)=gY Qn.n Qn.ts ss i:=by rw[et];show(DY dJ ai bi λ_ h=>h).1
  rw[ef];let⟨h1,h2,h3⟩:=Ju Qn pk (aQ:=(b8 Qn.n Qn.ts ss).aQ) (cD:=xU Qn.pq Qn.n Qn.ts ss k) (jM:=.tie a b) (bC:=gY Qn.n Qn.ts ss k) (i:=i) (λz=>by cases z) () (I.ok i lt) (t4 i ()) k4 (by
   rw[e1];show⟨ma,mb,ne _ ht,Z,t4 i (),hTi _ ht⟩) (λs hs=>by
   rw[e1,et];show pk.tie hs (Pu ma) (Pu mb))
  show⟨h1,h2,cG h3 (pow_step (by rw[Ul,Um];show ci))⟩
 | @out i v ef lt mv et _ =>
  let⟨ai,bi⟩:=tp i ();let ci:=hc i lt;let e1:gK (gY Qn.n Qn.ts ss k) (gY Qn.n Qn.ts ss i)=gY Qn.n Qn.ts ss i:=(DY dJ ai bi λx hx=>by rw[et]at hx;show(jT.mp hx).1).2;let e2:(gY Qn.n Qn.ts ss k).length+1=(gY Qn.n Qn.ts ss i).length:=by rw[et];show a1w ai mv
  let bv:=bi v mv;rw[ef];let⟨h1,h2,h3⟩:=Ju Qn pk (aQ:=(b8 Qn.n Qn.ts ss).aQ) (cD:=xU Qn.pq Qn.n Qn.ts ss k) (jM:=.out v) (bC:=gY Qn.n Qn.ts ss k) (i:=i) (λz=>by cases z) () (I.ok i lt) (t4 i ()) k4 (by
   rw[e1];show⟨⟨v.toNat,(),hPl _ ()⟩,mv,Z,t4 i ()⟩) (λs hs=>by
   rw[e1];let hs':Qn.pq.Ok ((gY Qn.n Qn.ts ss k).length+1) s:=by rw[e2];show hs
   show pk.out hs' (by rw[e2];show Pu mv) (by rw[e2];show t4 i ()))
  show⟨h1,h2,cG h3 (pow_step (by rw[Ul,Um];show ci))⟩
 | @join i j ef lt lt' eij et =>
  let ō:i≠j:=λz=>by
   let pd:=pa.sublist (List.drop_sublist (dX .join (aY Qn.n Qn.ts ss k).1) _);rw[<-fd,ef]at pd;let:=(uD.mp pd).1 j (wO j);omega
  let ci:=hc i lt;let cj:=hc j lt';let c1:=c8 i (by rw[ef];simp);let c2:=c8 j (by rw[ef];simp);let oi:=I.ok i lt;let oj:=I.ok j lt';rw[<-et]at oi;rw[<-eij,<-et]at oj;rw[ef];let⟨h1,h2,h3⟩:=two_step Qn pk (aQ:=(b8 Qn.n Qn.ts ss).aQ) (cD:=xU Qn.pq Qn.n Qn.ts ss k) (bC:=gY Qn.n Qn.ts ss k) () () ō Z k4 oi oj ci cj c1 c2;show⟨h1,h2,cG h3 (pow_step ?_)⟩;let e4:([i,j].map c).sum=c i+c j:=by
   show c i+(c j+0)=_;omega
  rw[e4,Nat.pow_add];show Nat.mul_le_mul ci cj
theorem Wv(Qn:J7 P w K mg base κ)(pk:Jo Qn.pq)(hPl:∀k:Nat,k<Qn.n->Qn.Pl k)(hTi:∀t∈Qn.ts,Qn.Ti t)(ne:∀t∈Qn.ts,t.1≠t.2)(dJ:Qn.n<=10)(l8:ss.length<=800)(wB:Br Qn.n Qn.ts ss (b8 Qn.n Qn.ts ss)=.ok)(b4:∀b∈(b8 Qn.n Qn.ts ss).aQ,b.length<=4):∀k,k<=ss.length->GoI Qn.pq Qn.n Qn.ts ss k
 |0,_=>⟨λj h=>absurd h (CJ _),λ_=>0,λj h=>absurd h (CJ _),aK _⟩
 |k+1,h=>(Ym Qn pk hPl hTi ne dJ l8 wB b4 () (Wv Qn pk hPl hTi ne dJ l8 wB b4 k ())).2
def Ē(Qn:J7 P w K mg base κ)(pk:Jo Qn.pq)(hPl:∀k:Nat,k<Qn.n->Qn.Pl k)(hTi:∀t∈Qn.ts,Qn.Ti t)(ne:∀t∈Qn.ts,t.1≠t.2)(dJ:Qn.n<=10)(l8:ss.length<=800)(wB:Br Qn.n Qn.ts ss (b8 Qn.n Qn.ts ss)=.ok)(b4:∀b∈(b8 Qn.n Qn.ts ss).aQ,b.length<=4) :
  (∀k,k<ss.length->xO Qn (b8 Qn.n Qn.ts ss).aQ (Kd Qn.pq ss (b8 Qn.n Qn.ts ss).aQ (b8 Qn.n Qn.ts ss).dz k) (ss.getD k .leaf) ((b8 Qn.n Qn.ts ss).aQ.getD k []) ((b8 Qn.n Qn.ts ss).dz.getD k []))/\
  (∀T∈Kd Qn.pq ss (b8 Qn.n Qn.ts ss).aQ (b8 Qn.n Qn.ts ss).dz ss.length,T.length<=900/\(T.map (·.1)).Nodup):=by
 let A:=Wv Qn pk hPl hTi ne dJ l8 wB b4;show⟨λk hk=>(Ym Qn pk hPl hTi ne dJ l8 wB b4 hk (A k ())).1,λT hT=>?_⟩;let⟨j,hj,e⟩:=oR hT;rw[lH]at hj;let h:=(A ss.length (aK _)).ok j hj;let e2:(xU Qn.pq Qn.n Qn.ts ss ss.length).getD j []=T:=by
  rw[fY,bI (by rw[lH];show hj),<-e];rfl
 rw[e2]at h;let RI:=yq dJ wB;let hl:j<(b8 Qn.n Qn.ts ss).aQ.length:=by rw[RI.tl];show hj
 show⟨h.len pk ?_,h.nd⟩;show((b8 Qn.n Qn.ts ss).aQ.getD j []).length<=4;rw[fY,bI hl];show b4 _ (nH hl)
end
end Go
namespace Lk
def a6y:((List.range 4).all λm=>(ZR m).all λs=>(List.range (m+1)).all λp=>iH (m+1) (zL s (p+1) 0)&&(dD s 0 != 0||iH (m+1) (0::iI (zL s.tail p (s.length:Int)))))=true:=by decide
def a6z:((List.range 5).all λm=>(ZR m).all λs=>(List.range m).all λa=>(List.range m).all λb=>iH m (0::iI (S7 s.tail a b)))=true:=by decide
def a6A:((List.range 5).all λm=>(ZR m).all λs=>(List.range m).all λp=>iH (m-1) (s.take 1++iI (qD s.tail p))&&((qD s.tail p).any (λx=>decide (x≠0))||iH (m-1) (1::qD s.tail p)))=true:=by decide
def a8f:((List.range 5).all λm=>(ZR m).all λs=>(ZR m).all λt=>(jnL s t).all λx=>iH m x)=true:=by decide
def a6B:((List.range 5).all λm=>decide ((ZR m).length<=900))=true:=by decide
def pig [DecidableEq α] {l U:List α} (nd:l.Nodup) (h:∀x∈l,x∈U):l.length<=U.length:=by
 induction l generalizing U with
 |nil=>grind
 |cons a r ih =>
  let⟨n1,n2⟩:=je.mp nd;let am:=h a aZ;let:=ih (U:=U.erase a) n2 λx hx=>(T9 λe=>n1 ()).mpr (h x (bJ _ hx));grind
def a4n(s t:dW):(jnL s t).length<=1:=by
 unfold jnL jnO;grind
end Lk
def okL(cD:ae)(cost:Int×Int->Int):Jo (tQ cD cost) where
 leaf:=λ_=>by show Lk.iH 0 [0]=true;decide
 inn:=λ{m s p v} h hp=>by
  let g:m+1<=4->_:=λh4=>iw.mp (Lk.DW Lk.a6y (show m<4 by omega) (h ())) p (gA.mpr ())
  show((if(v:Int)∈cD then []else [(zL s (p+1) 0,(0:Int))])++if dD s 0=0 then [(0::Lk.iI (zL s.tail p (s.length:Int)),0)]else []).length<=4/\∀x∈((if(v:Int)∈cD then []else [(zL s (p+1) 0,(0:Int))])++if dD s 0=0 then [(0::Lk.iI (zL s.tail p (s.length:Int)),0)]else []),m+1<=4->Lk.iH (m+1) x.1=true
  grind
 tie:=λ{m s a b t} h ha hb=>by
  show((s,(0:Int))::if 0<dD s (a+1)/\0<dD s (b+1)/\dD s (a+1)≠dD s (b+1)then [(0::Lk.iI (Lk.S7 s.tail a b),cost t)]else []).length<=4/\∀x∈((s,(0:Int))::if 0<dD s (a+1)/\0<dD s (b+1)/\dD s (a+1)≠dD s (b+1)then [(0::Lk.iI (Lk.S7 s.tail a b),cost t)]else []),m<=4->Lk.iH m x.1=true
  show⟨(),λx hx m4=>?_⟩
  rcases bO.mp hx with z|z
  ·rw[z];show h m4
  ·split at z
   ·rw[bK.mp z]
    show iw.mp (iw.mp (Lk.DW Lk.a6z (show m<5 by omega) (h m4)) a (gA.mpr ha)) b (gA.mpr hb)
   ·cases z
 out:=λ{m s p v} h hp m4=>by
  let g:=iw.mp (Lk.DW Lk.a6A (show m+1<5 by omega) (h m4)) p (gA.mpr hp)
  rw[gq,Nq,Nat.add_sub_cancel]at g
  show(if dD s (p+1)=0\/dD s (p+1)∈qD s.tail p then [(s.take 1++Lk.iI (qD s.tail p),(0:Int))]else if(qD s.tail p).any (λx=>decide (x≠0))=true then []else [(1::qD s.tail p,0)]).length<=4/\∀x∈(if dD s (p+1)=0\/dD s (p+1)∈qD s.tail p then [(s.take 1++Lk.iI (qD s.tail p),(0:Int))]else if(qD s.tail p).any (λx=>decide (x≠0))=true then []else [(1::qD s.tail p,0)]),m<=4->Lk.iH m x.1=true
  grind
 jn:=λ{m s t} h h'=>⟨cG (Lk.a4n s t) (),λx hx m4=>iw.mp (iw.mp (Lk.DW Lk.a8f (show m<5 by omega) (h m4)) t (Lk.DR (h' m4))) x hx⟩
 fin:=λ{m l} m4 nd h=>by
  let g:=dw (iw.mp Lk.a6B m (gA.mpr ()))
  show cG (Lk.pig nd λs hs=>Lk.DR (h s hs m4)) g
def getD_at{ss:ax}{i:Nat}{s:bT}(h:ss[i]?=some s):ss.getD i .leaf=s:=by
 rw[fY,h];rfl
def Px{ss:ax}{i:Nat}{s:bT}(h:ss[i]?=some s):ss.take (i+1)=ss.take i++[s]:=by
 let⟨il,e⟩:=eG.mp h;rw[yO il,e]
structure Kp where
 P:List (ae)
 G:ae
 B:ar
variable{κ:Kp}
def Kp.top(κ:Kp):ae:=κ.P.getLastD []
def Can(n:Nat)(ts:ar)(κ:Kp):bT->Prop
 |.leaf=>True
 |.inn v=>κ.P≠[]/\(0<=v/\v<(n:Int))/\v∉κ.top/\v∉κ.G
 |.tie a b=>κ.P≠[]/\(a,b)∈ts/\(a,b)∉κ.B/\a∈κ.top/\b∈κ.top
 |.out v=>κ.P≠[]/\v∈κ.top/\v∉κ.G
 |.join=>1<κ.P.length/\κ.top.Perm (κ.P.getD (κ.P.length-2) [])
noncomputable def JV(κ:Kp):bT->Kp
 |.leaf=>{ κ with P:=κ.P++[[]]}
 |.inn v=>{ κ with P:=κ.P.dropLast++[κ.top++[v]]}
 |.tie a b=>{ κ with B:=κ.B++[(a,b)]}
 |.out v=>{ κ with P:=κ.P.dropLast++[κ.top.erase v],G:=κ.G++[v]}
 |.join=>{ κ with P:=κ.P.dropLast}
structure KOk(n c:Nat)(κ:Kp):Prop where
 nd:∀b∈κ.P,b.Nodup/\∀v∈b,0<=v/\v<(n:Int)
 pl:κ.P.length<=c
 gl:κ.G.length<=c
 bl:κ.B.length<=c
def rM{P:List (ae)}(h:P≠[]):P=P.dropLast++[P.getLastD []]:=by
 let e:=(List.dropLast_concat_getLast h).symm;grind
def KOk.Ww{n:Nat}(h:KOk n c κ):κ.top.Nodup/\∀v∈κ.top,0<=v/\v<(n:Int):=by
 by_cases e:κ.P=[]
 ·unfold Kp.top;rw[e];show⟨.nil,λv hv=>absurd hv dZ⟩
 ·show h.nd _ ?_;let:κ.P.getLastD []∈κ.P.dropLast++[κ.P.getLastD []]:=fG _ aZ
  rwa [<-rM e]at this
def KOk.do{n:Nat}{ts:ar}{s:bT}(h:KOk n c κ)(hc:Can n ts κ s):KOk n (c+1) (JV κ s):=by
 let dl:∀b∈κ.P.dropLast,b.Nodup/\∀v∈b,0<=v/\v<(n:Int):=λb hb=>h.nd b ((List.dropLast_sublist _).subset hb);let l1:κ.P.dropLast.length<=c:=by rw[T8];let:=h.pl;omega
 let h1:=h.pl;let h2:=h.gl;let h3:=h.bl;let cat:∀b:ae,b.Nodup->(∀v∈b,0<=v/\v<(n:Int))->∀x∈κ.P.dropLast++[b],x.Nodup/\∀v∈x,0<=v/\v<(n:Int):=λb hb hv x hx=>by
  rcases cV.mp hx with hx|hx
  ·show dl x hx
  ·rw[bK.mp hx];show⟨hb,hv⟩
 cases s with
 |leaf =>
  show⟨λb hb=>?_,by show(κ.P++[[]]).length<=_;grind,by show κ.G.length<=_;omega,by show κ.B.length<=_;omega⟩;rcases cV.mp hb with hb|hb
  ·show h.nd b hb
  grind
 |inn v =>
  let⟨_,hv,hn,_⟩:=hc;show⟨cat _ ?_ ?_,by show(κ.P.dropLast++[_]).length<=_;grind,by show κ.G.length<=_;omega,by show κ.B.length<=_;omega⟩
  ·rw[uE];show⟨h.Ww.1,by simp,λa ha b hb e=>?_⟩;grind
  ·intro x hx;rcases cV.mp hx with hx|hx
   ·show h.Ww.2 x hx
   ·rw[bK.mp hx];show hv
 |tie a b=>show⟨h.nd,by show κ.P.length<=_;omega,by show κ.G.length<=_;omega,by show(κ.B++[_]).length<=_;rw[cu];show κ.B.length+1<=_;omega⟩
 |out v =>
  show⟨cat _ (h.Ww.1.erase v) (λx hx=>h.Ww.2 x (List.mem_of_mem_erase hx)),by show(κ.P.dropLast++[_]).length<=_;grind,by show(κ.G++[v]).length<=_;grind,by show κ.B.length<=_;omega⟩
 |join=>show⟨dl,by show κ.P.dropLast.length<=_;omega,by show κ.G.length<=_;omega,by show κ.B.length<=_;omega⟩
theorem qu{α β:Type}{R:α->β->Prop}:∀{xs:List α}{ys:List β}{y:β},Paired R xs (ys++[y])->∃xs' x,xs=xs'++[x]/\Paired R xs' ys/\R x y
 | [],ys,y,h=>by
  let:=aW h
  rw[cu]at this
  show absurd this (by show ¬0=ys.length+1;omega)
 |x::r,[],y,h=>by
  cases h with
  |cons h1 h2 =>
   cases h2
   show⟨[],x,Z,.nil,h1⟩
 |x::r,z::ys,y,h=>by
  cases h with
  |cons h1 h2 =>
   let⟨xs',x',e,p,q⟩:=qu h2
   show⟨x::xs',x',by rw[e];rfl,.cons h1 p,q⟩
structure Py(n:Nat)(ts:ar)(ss:ax)(i:Nat)(κ:Kp)(E:ae):Prop where
 go:(aY n ts ss i).2=true
 rel:Paired (λj b=>∀v,v∈(aY n ts ss i).1.aQ.getD j []↔v∈b) (aY n ts ss i).1.pile κ.P
 asc:∀b∈(aY n ts ss i).1.aQ,b.Pairwise (· < ·)
 outs:∀v,bT.out v∈ss.take i↔v∈κ.G
 ties:∀a b,bT.tie a b∈ss.take i↔(a,b)∈κ.B
 ins:∀v,bT.inn v∈ss.take i↔v∈E
 ok:KOk n i κ
def a6C{n:Nat}{ts:ar}{ss:ax}:Py n ts ss 0 ⟨[],[],[]⟩ [] :=
 ⟨Z,.nil,λb h=>absurd h dZ,λv=>by simp,λa b=>by simp,λv=>by simp,⟨λb h=>absurd h dZ,aK _,aK _,aK _⟩⟩
def yu(p:Int->Bool):(Qf p).Pairwise (· < ·):=by
 unfold Qf;show GQ _ ?_;rw[yX];show List.pairwise_lt_range.imp λh=>by omega
theorem yr:∀{xs ys:ae},xs.Pairwise (· < ·)->ys.Pairwise (· < ·)->(∀v,v∈xs↔v∈ys)->xs=ys
 | [],[],_,_,_=>rfl
 | [],y::ys,_,_,h=>absurd ((h y).mpr aZ) dZ
 |x::xs,[],_,_,h=>absurd ((h x).mp aZ) dZ
 |x::xs,y::ys,hx,hy,h=>by
  rw[uD]at hx hy
  let e:x=y:=by
   rcases bO.mp ((h x).mp aZ)with h1|h1
   ·show h1
   ·rcases bO.mp ((h y).mpr aZ)with h2|h2
    ·show h2.symm
    ·let a:=hy.1 x h1
     let b:=hx.1 y h2
     omega
  subst e
  rw[yr hx.2 hy.2 λv=>⟨λhv=>?_,λhv=>?_⟩]
  ·grind
  grind
def BV{n:Nat}{ts:ar}{ss:ax}{i:Nat}{κ':Kp}{E':ae}{s:bT}{b:ae}{um:ay}(dJ:n<=10)(D:Py n ts ss i κ E)(h:ss[i]?=some s)(hn:s.need<=(aY n ts ss i).1.pile.length)(hl:(aY n ts ss i).1.pile.take (dX s (aY n ts ss i).1)=um)
  (hb:oK n ts (ss.take i) s (qX s (aY n ts ss i).1)=some b) (as:b.Pairwise (· < ·))
  (rel:Paired (λj b=>∀v,v∈(aY n ts ss i).1.aQ.getD j []↔v∈b) um κ'.P.dropLast) (ne:κ'.P≠[]) (mb:∀v,v∈b↔v∈κ'.top)
  (mo:∀v,bT.out v∈ss.take (i+1)↔v∈κ'.G) (mt:∀x y,bT.tie x y∈ss.take (i+1)↔(x,y)∈κ'.B) (mi:∀v,bT.inn v∈ss.take (i+1)↔v∈E') (ok:KOk n (i+1) κ'):Py n ts ss (i+1) κ' E':=by
 let d:qC n ts ss i (aY n ts ss i).1=some ⟨(aY n ts ss i).1.aQ++[b],(aY n ts ss i).1.dz++[(aY n ts ss i).1.pile.drop (dX s (aY n ts ss i).1)],um++[i]⟩:=by
  unfold qC;rw[getD_at h,aB hn,hb,hl];rfl
 let e:=Œ D.go d;let I:=jx dJ D.go;let tl:=I.tl;show⟨by rw[e],?_,?_,mo,mt,mi,ok⟩
 ·rw[e,rM ne];show eX ?_ ?_
  ·let lt:∀j∈um,j<i:=λj hj=>I.lt j (jQ (hl▸hj));let:∀{xs:ay}{ys:List (ae)},(∀j∈xs,j<i)->Paired (λj b=>∀v,v∈(aY n ts ss i).1.aQ.getD j []↔v∈b) xs ys->Paired (λj b'=>∀v,v∈((aY n ts ss i).1.aQ++[b]).getD j []↔v∈b') xs ys:=λ{xs}=>by
    induction xs with
    |nil=>intro ys _ h;cases h;show .nil
    |cons x r ih =>
     intro ys hx h;cases h with
     |cons h1 h2 =>
      show .cons (λv=>?_) (ih (λj hj=>hx j (bJ _ hj)) h2);rw[fY,yP (by rw[tl];show hx x aZ),<-fY];show h1 v
   show this lt rel
  ·intro v;show v∈((aY n ts ss i).1.aQ++[b]).getD i []↔_;rw[fY,wM (),tl,zf];show mb v
 ·rw[e];intro x hx;rcases cV.mp hx with hx|hx
  ·show D.asc x hx
  ·rw[bK.mp hx];show as
def Gu{n:Nat}{ts:ar}{ss:ax}{i:Nat}(dJ:n<=10)(D:Py n ts ss i κ E)(ne:κ.P≠[]):∃um j,(aY n ts ss i).1.pile=um++[j]/\Paired (λj b=>∀v,v∈(aY n ts ss i).1.aQ.getD j []↔v∈b) um κ.P.dropLast/\(∀v,v∈(aY n ts ss i).1.aQ.getD j []↔v∈κ.top)/\((aY n ts ss i).1.aQ.getD j []).Pairwise (· < ·):=by
 let r:=D.rel;rw[rM ne]at r;let⟨um,j,e,p,q⟩:=qu r;show⟨um,j,e,p,q,?_⟩;let I:=jx dJ D.go;let jl:j<(aY n ts ss i).1.aQ.length:=by rw[I.tl];show I.lt j (by rw[e];simp)
 rw[fY,bI jl];show D.asc _ (nH jl)
def Jv{s:bT}{r:RS}{um:ay}{j:Nat}(h1:s.need=1)(e:r.pile=um++[j]):s.need<=r.pile.length/\r.pile.take (dX s r)=um/\qX s r=[r.aQ.getD j []]:=by
 let el:dX s r=um.length:=by unfold dX;rw[e,h1,cu];show um.length+1-1=_;omega
 show⟨by rw[h1,e,cu];show 1<=um.length+1;omega,by rw[el,e,List.take_left],?_⟩;unfold qX;grind
def Jw{P:List (ae)}(h:P≠[]):P.getLastD []∈P:=by
 let:P.getLastD []∈P.dropLast++[P.getLastD []]:=fG _ aZ
 rwa [<-rM h]at this
def RK{P:List (ae)}(l2:1<P.length):P.getD (P.length-2) []=P.dropLast.getLastD []:=by
 grind
def join_split{n:Nat}{ts:ar}{ss:ax}{i:Nat}(dJ:n<=10)(D:Py n ts ss i κ E)(l2:1<κ.P.length):∃um j1 j2,(aY n ts ss i).1.pile=um++[j1,j2]/\bT.join.need<=(aY n ts ss i).1.pile.length/\(aY n ts ss i).1.pile.take (dX .join (aY n ts ss i).1)=um/\qX .join (aY n ts ss i).1=[(aY n ts ss i).1.aQ.getD j1 [],(aY n ts ss i).1.aQ.getD j2 []]/\Paired (λj b=>∀v,v∈(aY n ts ss i).1.aQ.getD j []↔v∈b) um κ.P.dropLast.dropLast/\(∀v,v∈(aY n ts ss i).1.aQ.getD j1 []↔v∈κ.P.dropLast.getLastD [])/\(∀v,v∈(aY n ts ss i).1.aQ.getD j2 []↔v∈κ.top)/\((aY n ts ss i).1.aQ.getD j1 []).Pairwise (· < ·)/\((aY n ts ss i).1.aQ.getD j2 []).Pairwise (· < ·)/\κ.P.dropLast≠[]/\κ.P.getD (κ.P.length-2) []=κ.P.dropLast.getLastD []:=by
 let ne:κ.P≠[]:=λz=>by grind
 let ne2:κ.P.dropLast≠[]:=λz=>by
  let:=T8 (xs:=κ.P);grind
 let⟨pl1,j2,e,p,q,as2⟩:=Gu dJ D ne;let I:=jx dJ D.go;rw[rM ne2]at p;let⟨um,j1,rfl,p0,q0⟩:=qu p;let e':(aY n ts ss i).1.pile=um++[j1,j2]:=by rw[e,vH];rfl
 let el:dX .join (aY n ts ss i).1=um.length:=by unfold dX;rw[e',cu];show um.length+2-2=_;omega
 let jl:j1<(aY n ts ss i).1.aQ.length:=by rw[I.tl];show I.lt j1 (by rw[e'];simp)
 show⟨um,j1,j2,e',by rw[e',cu];show 2<=um.length+2;omega,(),?_,p0,q0,q,?_,as2,ne2,?_⟩
 ·unfold qX;grind
 ·rw[fY,bI jl];show D.asc _ (nH jl)
 ·show RK l2
def a4o{n:Nat}{ts:ar}{ss:ax}{i:Nat}{s:bT}(dJ:n<=10)(D:Py n ts ss i κ E)(h:ss[i]?=some s)(c:Can n ts κ s):∃E',(E'=match s with |.inn v=>E++[v]|_=>E)/\Py n ts ss (i+1) (JV κ s) E':=by
 let tk:=Px h;let ok:=D.ok.do c
 let mo:∀v,bT.out v∈ss.take (i+1)↔v∈κ.G\/s=.out v:=λv=>by rw[tk,cV,D.outs,bK,eq_comm]
 let mt:∀a b,bT.tie a b∈ss.take (i+1)↔(a,b)∈κ.B\/s=.tie a b:=λa b=>by rw[tk,cV,D.ties,bK,eq_comm]
 let mi:∀v,bT.inn v∈ss.take (i+1)↔v∈E\/s=.inn v:=λv=>by rw[tk,cV,D.ins,bK,eq_comm]
 let dl:∀b:ae,(κ.P.dropLast++[b]).dropLast=κ.P.dropLast:=λb=>Cv;let gl:∀(P:List (ae)) (b:ae),(P++[b]).getLastD []=b:=λP b=>by rw[ß,Mz];rfl
 let ne:∀(P:List (ae)) (b:ae),P++[b]≠[]:=λP b z=>by simp at z
 cases s with
 |leaf =>
  show⟨E,Z,BV dJ D h (um:=(aY n ts ss i).1.pile) (b:=[]) (dF _) ?_ Z .nil ?_ (ne _ _) ?_ ?_ ?_ ?_ ok⟩
  ·show List.take ((aY n ts ss i).1.pile.length-0) _=_;rw[wY,gw]
  ·show Paired _ _ (κ.P++[[]]).dropLast;rw[Cv];show D.rel
  ·intro v;show _↔v∈(κ.P++[[]]).getLastD [];rw[gl]
  ·intro v;rw[mo];simp[JV]
  ·intro a b;rw[mt];simp[JV]
  ·intro v;rw[mi];simp
 |inn v =>
  let⟨hP,hv,hn,hg⟩:=c;let⟨um,j,e,p,q,as⟩:=Gu dJ D hP;let⟨u1,u2,u3⟩:=Jv (s:=.inn v) Z e;show⟨E++[v],Z,BV dJ D h (um:=um) (b:=gK ((aY n ts ss i).1.aQ.getD j []) [v]) u1 u2 ?_ (yu _) ?_ (ne _ _) ?_ ?_ ?_ ?_ ok⟩
  ·rw[u3];unfold oK;lk;rw[aB ⟨hv,λz=>hn ((q v).mp z),λz=>hg ((D.outs v).mp z)⟩];rfl
  ·show Paired _ _ (κ.P.dropLast++[_]).dropLast;rw[dl];show p
  ·intro x;show _↔x∈(κ.P.dropLast++[κ.top++[v]]).getLastD [];rw[gl];unfold gK;rw[yh,eO,q,cV];constructor
   ·show λz=>z.2.2
   ·intro z;let bd:=D.ok.Ww.2;show⟨?_,?_,z⟩
    ·rcases z with z|z
     ·show(bd x z).1
     ·rw[bK.mp z];show hv.1
    ·rcases z with z|z
     ·let:=(bd x z).2;omega
     ·rw[bK.mp z];let:=hv.2;omega
  ·intro x;rw[mo];simp[JV]
  ·intro a b;rw[mt];simp[JV]
  ·intro x;rw[mi];simp[eq_comm]
 |tie x y =>
  let⟨hP,ht,hb,h1,h2⟩:=c;let⟨um,j,e,p,q,as⟩:=Gu dJ D hP;let⟨u1,u2,u3⟩:=Jv (s:=.tie x y) Z e;show⟨E,Z,BV dJ D h (um:=um) (b:=(aY n ts ss i).1.aQ.getD j []) u1 u2 ?_ as p hP q ?_ ?_ ?_ ok⟩
  ·rw[u3];unfold oK;lk;rw[aB]
   ·rfl
   ·show⟨ht,?_,λz=>hb ((D.ties x y).mp z)⟩;unfold nY;rw[List.filter_eq_nil_iff];intro v hv;let:v∈(aY n ts ss i).1.aQ.getD j []:=by
     rcases bO.mp hv with rfl|hv
     ·show(q _).mpr h1
     ·rw[bK.mp hv];show(q _).mpr h2
    simpa using this
  ·intro v;rw[mo];simp[JV]
  ·intro a b;rw[mt];simp[JV,eq_comm]
  ·intro v;rw[mi];simp
 |out v =>
  let⟨hP,hv,hg⟩:=c;let⟨um,j,e,p,q,as⟩:=Gu dJ D hP;let⟨u1,u2,u3⟩:=Jv (s:=.out v) Z e;show⟨E,Z,BV dJ D h (um:=um) (b:=nY ((aY n ts ss i).1.aQ.getD j []) [v]) u1 u2 ?_ (GQ _ as) ?_ (ne _ _) ?_ ?_ ?_ ?_ ok⟩
  ·rw[u3];unfold oK;lk;rw[aB ⟨(q v).mpr hv,λz=>hg ((D.outs v).mp z)⟩];rfl
  ·show Paired _ _ (κ.P.dropLast++[_]).dropLast;rw[dl];show p
  ·intro x;show _↔x∈(κ.P.dropLast++[κ.top.erase v]).getLastD [];rw[gl,D.ok.Ww.1.mem_erase_iff];unfold nY;rw[jT,q];simp[and_comm]
  ·intro x;rw[mo];simp[JV,eq_comm]
  ·intro a b;rw[mt];simp[JV]
  ·intro x;rw[mi];simp
 |join =>
  let⟨l2,pm⟩:=c;let⟨um,j1,j2,e,u1,u2,u3,p,q1,q2,as1,as2,ne2,eg⟩:=join_split dJ D l2;let eb:(aY n ts ss i).1.aQ.getD j1 []=(aY n ts ss i).1.aQ.getD j2 []:=yr as1 as2 λv=>by
   rw[q1,q2,<-eg];show(pm.mem_iff).symm
  show⟨E,Z,BV dJ D h (um:=um) (b:=(aY n ts ss i).1.aQ.getD j1 []) u1 u2 ?_ as1 p ne2 q1 ?_ ?_ ?_ ok⟩
  ·rw[u3];unfold oK;lk;rw[aB]
   ·rfl
   ·show eb
  ·intro v;rw[mo];simp[JV]
  ·intro a b;rw[mt];simp[JV]
  ·intro v;rw[mi];simp
def a1x{n:Nat}{ts:ar}{ss:ax}(dJ:n<=10)(D:Py n ts ss ss.length κ E):(κ.P≠[[]]->Br n ts ss (b8 n ts ss)=.pile)/\(κ.P=[[]]->∀v:Nat,v<n->(∀j:Nat,j<v->(j:Int)∈E)->(v:Int)∉E->Br n ts ss (b8 n ts ss)=.place v)/\(κ.P=[[]]->(∀j:Nat,j<n->(j:Int)∈E)->Br n ts ss (b8 n ts ss)=match ts.find? λt=>!decide (t∈κ.B)with|some t=>.tie t.1 t.2|none=>.ok):=by
 let I:=jx dJ D.go;let l1:¬(b8 n ts ss).aQ.length<ss.length:=by unfold b8;rw[I.tl];omega
 let l2:Le (b8 n ts ss)=[[]]↔κ.P=[[]]:=by
  let r:=D.rel;unfold Le b8;generalize (aY n ts ss ss.length).1.pile=pl at *
  generalize (aY n ts ss ss.length).1.aQ=tp at *
  generalize κ.P=P at *
  cases r with
  |nil=>simp
  | @cons x b xs bs h1 h2 =>
   let e:tp.getD x []=[]↔b=[]:=by
    rw[Tf,Tf];show⟨λh v hv=>h v ((h1 v).mpr hv),λh v hv=>h v ((h1 v).mp hv)⟩
   cases h2 with
   |nil =>
    grind
   |cons h3 h4 =>
    grind
 let ins:∀v,bT.inn v∈ss↔v∈E:=λv=>by let:=D.ins v;grind
 let tis:∀a b,bT.tie a b∈ss↔(a,b)∈κ.B:=λa b=>by let:=D.ties a b;grind
 show⟨λh=>?_,λh v hv ok no=>?_,λh ok=>?_⟩
 ·unfold Br;grind
 ·let ef:(List.range n).find? (λ(v:Nat)=>!decide (bT.inn (v:Int)∈ss))=some v:=ã.mpr ⟨(),gA.mpr hv,λj hj=>by grind⟩;unfold Br;grind
 ·let ef:(List.range n).find? (λ(v:Nat)=>!decide (bT.inn (v:Int)∈ss))=none:=GX.mpr λj hj=>by grind
  let eg:(λt:Int×Int=>!decide (bT.tie t.1 t.2∈ss))=λt=>!decide (t∈κ.B):=funext λt=>by grind
  unfold Br;rw[aA l1,aB (l2.mpr h),ef,eg];try rfl
structure Tb(n m:Nat)(up:Nat->Nat)(bC:Nat->ae):Prop where
 pos:0<m
 ups:∀k,0<k->k<m->up k<k
 nd:∀k,(bC k).Nodup
 lt:∀k,∀v∈bC k,0<=v/\v<(n:Int)
 fr:∀k,0<k->k<m->∀v∈bC k,v∈bC (up k)\/∀j,j<k->v∉bC j
 no:∀k,m<=k->bC k=[]
inductive oH(m:Nat)(up:Nat->Nat)(k:Nat):Nat->Prop
 |self:k<m->oH m up k k
 |step {r:Nat}:0<r->r<m->oH m up k (up r)->oH m up k r
section
variable{n m:Nat}{up:Nat->Nat}{bC:Nat->ae}
def Tb.in_(T:Tb n m up bC){k:Nat}{v:Int}(h:v∈bC k):k<m:=by
 rcases wZ k m with c|c
 ·show c
 ·rw[T.no k c]at h;show absurd h dZ
def oH.le(T:Tb n m up bC){k r:Nat}(h:oH m up k r):k<=r:=by
 induction h with
 |self=>grind
 |step r0 rm _ ih=>have:=T.ups _ r0 rm;omega
def oH.trans{k j r:Nat}(h1:oH m up k j)(h2:oH m up j r):oH m up k r:=by
 induction h2 with
 |self=>show h1
 |step r0 rm _ ih=>show .step r0 rm ih
def oH.kid(T:Tb n m up bC){k r:Nat}(h:oH m up k r):r=k\/∃j,0<j/\j<m/\up j=k/\oH m up j r:=by
 induction h with
 |self=>show .inl rfl
 | @step r r0 rm _ ih =>
  rcases ih with e|⟨j,a,b,c,d⟩
  ·show .inr ⟨r,r0,rm,e,.self rm⟩
  ·show .inr ⟨j,a,b,c,.step r0 rm d⟩
def oH.cmp{j r:Nat}(h1:oH m up j r)(h2:oH m up j' r):oH m up j j'\/oH m up j' j:=by
 induction h1 with
 |self=>show .inr h2
 | @step r r0 rm h ih =>
  cases h2 with
  |self=>show .inl (.step r0 rm h)
  |step _ _ h'=>show ih h'
def Gv(T:Tb n m up bC){j r:Nat}(j0:0<j)(jm:j<m)(j0':0<j')(jm':j'<m)(e:up j=up j')(h1:oH m up j r)(h2:oH m up j' r):j=j':=by
 let fU:∀{a b:Nat},0<a->a<m->up a=up b->oH m up a b->a=b:=λ{a b} a0 am e h=>by
  cases h with
  |self=>rfl
  |step b0 bm h =>
   rw[<-e]at h;let l1:=h.le T;let l2:=T.ups a a0 am;omega
 rcases h1.cmp h2 with h|h
 ·show fU j0 jm e h
 ·show(fU j0' jm' e.symm h).symm
def Lg(T:Tb n m up bC){j:Nat}{v:Int}(h:v∈bC j)(fr:j=0\/v∉bC (up j)):∀q,v∈bC q->oH m up j q:=by
 let jm:=T.in_ h;let no:∀i,i<j->v∉bC i:=λi hi=>by
  rcases fr with e|e
  ·omega
  ·rcases T.fr j () jm v h with z|z
   ·show absurd z e
   ·show z i hi
 intro q
 induction q using Nat.strongRecOn with
 |ind q ih =>
  intro hq;let qm:=T.in_ hq;by_cases c:q=j
  ·rw[c];show .self jm
  ·let lj:j<q:=by
    grind
   rcases T.fr q () qm v hq with z|z
   ·show .step () qm (ih _ (T.ups q () qm) z)
   ·show absurd h (z j lj)
def conn(T:Tb n m up bC){j r:Nat}{v:Int}(b:oH m up j r)(h:v∈bC r):(v∈bC j/\v∈bC (up j))\/∀q,v∈bC q->oH m up j q:=by
 induction b with
 |self jm =>
  by_cases c:v∈bC (up j)
  ·show .inl ⟨h,c⟩
  ·show .inr (Lg T h (.inr c))
 | @step r r0 rm b ih =>
  by_cases c:v∈bC (up r)
  ·show ih c
  ·show .inr λq hq=>oH.trans (.step r0 rm b) (Lg T h (.inr c) q hq)
def Ea(m:Nat)(up:Nat->Nat)(bC:Nat->ae)(k:Nat)(v:Int):Prop:=∃r,oH m up k r/\v∈bC r
def ŝ(T:Tb n m up bC){j:Nat}{v:Int}(j0:0<j)(jm:j<m)(h:Ea m up bC j v)(hu:v∈bC (up j)):v∈bC j:=by
 let⟨r,b,hr⟩:=h;rcases conn T b hr with z|z
 ·show z.1
 ·let l1:=(z _ hu).le T;let l2:=T.ups j j0 jm;omega
def a1y(T:Tb n m up bC){j:Nat}{v:Int}(j0:0<j)(jm:j<m)(j0':0<j')(jm':j'<m)(e:up j=up j')(ne:j≠j')(h:Ea m up bC j v)(h':Ea m up bC j' v):v∈bC (up j):=by
 let⟨r,b,hr⟩:=h;let⟨r',b',hr'⟩:=h';rcases conn T b hr with z|z
 ·show z.2
 ·show absurd (Gv T j0 jm j0' jm' e (z _ hr') b') ne
def RL(T:Tb n m up bC):∀r,r<m->oH m up 0 r:=by
 intro r
 induction r using Nat.strongRecOn with
 |ind r ih =>
  intro rm;by_cases c:r=0
  ·rw[c];show .self T.pos
  ·let:=T.ups r () rm;show .step () rm (ih _ this ())
def gD(pk:Int×Int->Nat)(bC:Nat->ae)(r:Nat)(t:Int×Int):Prop:=t.1∈bC r/\t.2∈bC r/\pk t=r
instance (pk:Int×Int->Nat) (bC:Nat->ae) (r:Nat) (t:Int×Int):Decidable (gD pk bC r t):=by unfold gD;infer_instance
def tD(T:Tb n m up bC){r r':Nat}{t:Int×Int}(h:gD pk bC r t)(h':gD pk bC r' t):r=r':=h.2.2.symm.trans h'.2.2
end
def Jx(κ:Kp)(ss:ax):Kp:=ss.foldl JV κ
def tE(n wd:Nat)(ts:ar):Kp->ax->Prop
 |_,[]=>True
 |κ,s::r=>(Can n ts κ s/\(JV κ s).top.length<=wd)/\tE n wd ts (JV κ s) r
section
variable{n:Nat}{ts:ar}
def lQ(κ:Kp)(a b:ax):Jx κ (a++b)=Jx (Jx κ a) b:=List.foldl_append
theorem mH:∀{κ:Kp}{a b:ax},tE n wd ts κ a->tE n wd ts (Jx κ a) b->tE n wd ts κ (a++b)
 |_,[],_,_,h=>h
 |_,_::_,_,h,h'=>⟨h.1,mH h.2 h'⟩
theorem yw:∀{κ:Kp}{a b:ax},tE n wd ts κ (a++b)->tE n wd ts κ a/\tE n wd ts (Jx κ a) b
 |_,[],_,h=>⟨trivial,h⟩
 |_,_::_,_,h=>⟨⟨h.1,(yw h.2).1⟩,(yw h.2).2⟩
def pZ(P:List (ae))(b:ae)(G:ae)(B:ar):(Kp.mk (P++[b]) G B).top=b:=by
 show(P++[b]).getLastD []=b;grind
def Ş(P:List (ae))(b:ae)(G:ae)(B:ar):(Kp.mk (P++[b]) G B).P≠[]:=λz=>by
 let:P++[b]=[]:=z;simp at this
theorem Wx:∀(vs:ae) {P:List (ae)}{b G:ae}{B:ar},vs.Nodup->(∀v∈vs,0<=v/\v<(n:Int))->(∀v∈vs,v∉b)->(∀v∈vs,v∉G)->b.length+vs.length<=wd->tE n wd ts ⟨P++[b],G,B⟩ (vs.map .inn)/\Jx ⟨P++[b],G,B⟩ (vs.map .inn)=⟨P++[b++vs],G,B⟩
 | [],P,b,G,B,_,_,_,_,_=>⟨trivial,by rw[jE];rfl⟩
 |v::vs,P,b,G,B,nd,lt,nb,ng,hw=>by
  rw[lV]at hw
  let⟨n1,n2⟩:=je.mp nd
  let e:JV ⟨P++[b],G,B⟩ (.inn v)=⟨P++[b++[v]],G,B⟩:=by
   show Kp.mk ((P++[b]).dropLast++[(Kp.mk (P++[b]) G B).top++[v]]) G B=_
   rw[pZ,Cv]
  let⟨i1,i2⟩:=Wx vs (P:=P) (b:=b++[v]) (G:=G) (B:=B) n2 (λx hx=>lt x (bJ _ hx)) (λx hx z=>by
   grind) (λx hx=>ng x (bJ _ hx)) ()
  show⟨⟨⟨⟨Ş _ _ _ _,lt v aZ,?_,ng v aZ⟩,?_⟩,?_⟩,?_⟩
  ·rw[pZ];show nb v aZ
  ·rw[e,pZ,cu,yR];omega
  ·grind
  ·show Jx (JV ⟨P++[b],G,B⟩ (.inn v)) (vs.map .inn)=_
   rw[e,i2,vH];rfl
theorem Pz:∀(vs:ae) {P:List (ae)}{b G:ae}{B:ar},vs.Nodup->b.Nodup->(∀v∈vs,v∈b)->(∀v∈vs,v∉G)->b.length<=wd->tE n wd ts ⟨P++[b],G,B⟩ (vs.map .out)/\∃b',b'.Nodup/\(∀v,v∈b'↔v∈b/\v∉vs)/\Jx ⟨P++[b],G,B⟩ (vs.map .out)=⟨P++[b'],G++vs,B⟩
 | [],P,b,G,B,_,nb,_,_,_=>⟨trivial,b,nb,λv=>by simp,by rw[jE];rfl⟩
 |v::vs,P,b,G,B,nd,nb,mb,ng,hw=>by
  let⟨n1,n2⟩:=je.mp nd
  let e:JV ⟨P++[b],G,B⟩ (.out v)=⟨P++[b.erase v],G++[v],B⟩:=by
   show Kp.mk ((P++[b]).dropLast++[(Kp.mk (P++[b]) G B).top.erase v]) (G++[v]) B=_
   rw[pZ,Cv]
  let⟨i1,b',d1,d2,i2⟩:=Pz vs (P:=P) (b:=b.erase v) (G:=G++[v]) (B:=B) n2 (nb.erase v) (λx hx=>nb.mem_erase_iff.mpr ⟨λz=>n1 (z▸hx),mb x (bJ _ hx)⟩) (λx hx z=>by
   grind) (cG List.length_erase_le hw)
  show⟨⟨⟨⟨Ş _ _ _ _,?_,ng v aZ⟩,?_⟩,?_⟩,b',d1,λx=>?_,?_⟩
  ·rw[pZ];show mb v aZ
  ·rw[e,pZ];show cG List.length_erase_le hw
  ·rw[e];show i1
  ·rw[d2,nb.mem_erase_iff,bO]
   constructor
   ·rintro⟨⟨h1,h2⟩,h3⟩
    show⟨h2,λz=>z.elim h1 h3⟩
   ·rintro⟨h1,h2⟩
    show⟨⟨λz=>h2 (.inl z),h1⟩,λz=>h2 (.inr z)⟩
  ·show Jx (JV ⟨P++[b],G,B⟩ (.out v)) (vs.map .out)=_
   grind
theorem PB:∀(tl:ar) {P:List (ae)}{b G:ae}{B:ar},tl.Nodup->(∀t∈tl,t∈ts/\t∉B/\t.1∈b/\t.2∈b)->b.length<=wd->tE n wd ts ⟨P++[b],G,B⟩ (tl.map λt=>.tie t.1 t.2)/\Jx ⟨P++[b],G,B⟩ (tl.map λt=>.tie t.1 t.2)=⟨P++[b],G,B++tl⟩
 | [],P,b,G,B,_,_,_=>⟨trivial,by rw[jE];rfl⟩
 |t::tl,P,b,G,B,nd,ok,hw=>by
  let⟨n1,n2⟩:=je.mp nd
  let⟨o1,o2,o3,o4⟩:=ok t aZ
  let⟨i1,i2⟩:=PB tl (P:=P) (b:=b) (G:=G) (B:=B++[t]) n2 (λs hs=>by
   grind) hw
  show⟨⟨⟨⟨Ş _ _ _ _,o1,o2,?_,?_⟩,?_⟩,i1⟩,?_⟩
  ·rw[pZ];show o3
  ·rw[pZ];show o4
  ·show(Kp.mk (P++[b]) G (B++[t])).top.length<=wd
   rw[pZ];show hw
  ·show Jx ⟨P++[b],G,B++[t]⟩ (tl.map _)=_
   rw[i2,vH];rfl
def Yn{n:Nat}{ts:ar}{P:List (ae)}{b b':ae}(pm:b'.Perm b):Can n ts ⟨P++[b]++[b'],G,B⟩ .join/\JV ⟨P++[b]++[b'],G,B⟩ .join=⟨P++[b],G,B⟩:=by
 show⟨⟨?_,?_⟩,?_⟩
 ·show 1<(P++[b]++[b']).length;simp
 ·rw[pZ];show b'.Perm ((P++[b]++[b']).getD ((P++[b]++[b']).length-2) []);let:(P++[b]++[b']).getD ((P++[b]++[b']).length-2) []=b:=by
   rw[RK (by simp),Cv,ß,Mz];rfl
  rw[this];show pm
 ·show Kp.mk (P++[b]++[b']).dropLast G B=_;grind
end
noncomputable def vA(x y:ae):ae:=x.filter λv=>!decide (v∈y)
def kJ{x y:ae}{v:Int}:v∈vA x y↔v∈x/\v∉y:=by
 unfold vA;grind
def jU(bC:Nat->ae)(j k:Nat):ax:=(vA (bC j) (bC k)).map .out++(vA (bC k) (bC j)).map .inn
section
variable{n m:Nat}{up:Nat->Nat}{bC:Nat->ae}{ts:ar}
def ş(T:Tb n m up bC)(hW:∀k,(bC k).length<=wd){j k:Nat}{P:List (ae)}{b:ae}(pm:b.Perm (bC j))(h1:∀v∈bC j,v∉bC k->v∉G)(h2:∀v∈bC k,v∉bC j->v∉G):tE n wd ts ⟨P++[b],G,B⟩ (jU bC j k)/\∃b',b'.Perm (bC k)/\Jx ⟨P++[b],G,B⟩ (jU bC j k)=⟨P++[b'],G++vA (bC j) (bC k),B⟩:=by
 let nb:b.Nodup:=pm.nodup_iff.mpr (T.nd j);let⟨o1,b1,d1,d2,o2⟩:=Pz (n:=n) (ts:=ts) (vA (bC j) (bC k)) (P:=P) (b:=b) (G:=G) (B:=B) ((T.nd j).filter _) nb (λv hv=>pm.mem_iff.mpr (kJ.mp hv).1) (λv hv=>h1 v (kJ.mp hv).1 (kJ.mp hv).2) (by rw[pm.length_eq];show hW j);let m1:∀v,v∈b1↔v∈bC j/\v∈bC k:=λv=>by
  rw[d2,pm.mem_iff,kJ];grind
 let pk:(b1++vA (bC k) (bC j)).Perm (bC k):=by
  show(GC (uE.mpr ⟨d1,(show(vA (bC k) (bC j)).Nodup from(T.nd k).filter _),λx hx y hy e=>?_⟩) (T.nd k)).mpr λv=>?_
  ·subst e;show(kJ.mp hy).2 ((m1 x).mp hx).1
  ·rw[cV,m1];show _\/v∈vA (bC k) (bC j)↔_;rw[kJ];grind
 let⟨i1,i2⟩:=Wx (n:=n) (ts:=ts) (vA (bC k) (bC j)) (P:=P) (b:=b1) (G:=G++vA (bC j) (bC k)) (B:=B) ((T.nd k).filter _) (λv hv=>T.lt k v (kJ.mp hv).1) (λv hv z=>(kJ.mp hv).2 ((m1 v).mp z).1) (λv hv z=>by
  let⟨a,c⟩:=kJ.mp hv;rcases cV.mp z with z|z
  ·grind
  ·show(kJ.mp z).2 a) (by let h1:=pk.length_eq;let h2:=hW k;rw[cu]at h1;rw[h1];show h2)
 show⟨mH o1 (),b1++vA (bC k) (bC j),pk,by unfold jU;rw[lQ,o2,i2]⟩
def Jy(n wd m:Nat)(up:Nat->Nat)(pk:Int×Int->Nat)(bC:Nat->ae)(ts tb:ar)(j:Nat)(ss:ax):Prop :=
 ∀P G B,(∀v,Ea m up bC j v->v∉G)->(∀t∈B,∀r,oH m up j r->¬gD pk bC r t)->∃b G' B',b.Perm (bC j)/\tE n wd ts ⟨P,G,B⟩ ss/\Jx ⟨P,G,B⟩ ss=⟨P++[b],G',B'⟩/\(∀v,v∈G'↔v∈G\/(Ea m up bC j v/\v∉bC j))/\∀t,t∈B'↔t∈B\/(t∈tb/\∃r,oH m up j r/\gD pk bC r t)
def Eb(pk:Int×Int->Nat)(bC:Nat->ae)(tb:ar)(k:Nat):ar:=tb.filter λt=>decide (gD pk bC k t)
noncomputable def jD(m:Nat)(up:Nat->Nat)(k:Nat):ay:=(List.range m).filter λj=>decide (k<j)&&decide (up j=k)
def xV(T:Tb n m up bC){k j:Nat}:j∈jD m up k↔0<j/\j<m/\up j=k:=by
 unfold jD;rw[jT,gA,gq,eO,eO];constructor
 ·rintro⟨a,b,c⟩;show⟨(),a,c⟩
 ·rintro⟨a,b,c⟩;let:=T.ups j a b;show⟨b,(),c⟩
def PJ(m:Nat)(up:Nat->Nat)(k:Nat):(jD m up k).Nodup:=List.nodup_range.sublist Ue
end
section
variable{n:Nat}{ts:ar}{ss:ax}
theorem Jz(dJ:n<=10)(c:tE n wd ts ⟨[],[],[]⟩ ss):∀i,i<=ss.length->∃E,Py n ts ss i (Jx ⟨[],[],[]⟩ (ss.take i)) E
 |0,_=>⟨[],a6C⟩
 |i+1,il=>by
  let⟨E,D⟩:=Jz dJ c i ()
  let hs:ss[i]?=some (ss[i]'()):=bI ()
  let c1:tE n wd ts ⟨[],[],[]⟩ (ss.take i++ss.drop i):=by rw[uw];show c
  let c2:=(yw c1).2
  rw[wN (show i<ss.length by omega)]at c2
  let⟨E',_,D'⟩:=a4o dJ D hs c2.1.1
  show⟨E',?_⟩
  rw[Px hs,lQ]
  show D'
def a1z(c:tE n wd ts ⟨[],[],[]⟩ ss){i:Nat}(il:i<ss.length):(Jx ⟨[],[],[]⟩ (ss.take (i+1))).top.length<=wd:=by
 let c1:tE n wd ts ⟨[],[],[]⟩ (ss.take i++ss.drop i):=by rw[uw];show c
 let c2:=(yw c1).2;rw[wN il]at c2;let hs:ss[i]?=some (ss[i]'il):=bI il;rw[Px hs,lQ];show c2.1.2
end
section
variable{n:Nat}{ts:ar}
theorem Š:∀(a:ax) {κ:Kp}{pre:ax},tE n wd ts κ a->(∀v,(v∈κ.G\/∃b∈κ.P,v∈b)->bT.inn v∈pre)->∀v,(v∈(Jx κ a).G\/∃b∈(Jx κ a).P,v∈b)->bT.inn v∈pre++a
 | [],κ,pre,_,h,v,hv=>by rw[jE];show h v hv
 |s::r,κ,pre,c,h,v,hv=>by
  let e:pre++s::r=(pre++[s])++r:=by rw[vH];rfl
  rw[e]
  show Š r c.2 (λu hu=>?_) v hv
  let old:∀{u},(u∈κ.G\/∃b∈κ.P,u∈b)->bT.inn u∈pre++[s]:=λhu=>uy _ (h _ hu)
  let dl:∀{b:ae},b∈κ.P.dropLast->b∈κ.P:=λhb=>jQ (by rw[List.dropLast_eq_take]at hb;show hb)
  let can:=c.1.1
  cases s with
  |leaf =>
   rcases hu with hu|⟨b,hb,hu⟩
   ·show old (.inl hu)
   ·rcases cV.mp (show b∈κ.P++[[]]from hb)with hb|hb
    ·grind
    grind
  |inn x =>
   rcases hu with hu|⟨b,hb,hu⟩
   ·show old (.inl hu)
   ·rcases cV.mp (show b∈κ.P.dropLast++[κ.top++[x]]from hb)with hb|hb
    ·grind
    ·rw[bK.mp hb]at hu
     rcases cV.mp hu with hu|hu
     ·show old (.inr ⟨_,Jw can.1,hu⟩)
     grind
  |tie x y=>show old hu
  |out x =>
   rcases hu with hu|⟨b,hb,hu⟩
   ·rcases cV.mp (show u∈κ.G++[x]from hu)with hu|hu
    ·show old (.inl hu)
    ·rw[bK.mp hu]
     show old (.inr ⟨_,Jw can.1,can.2.1⟩)
   ·rcases cV.mp (show b∈κ.P.dropLast++[κ.top.erase x]from hb)with hb|hb
    ·grind
    ·rw[bK.mp hb]at hu
     show old (.inr ⟨_,Jw can.1,List.mem_of_mem_erase hu⟩)
  |join =>
   rcases hu with hu|⟨b,hb,hu⟩
   ·show old (.inl hu)
   ·show old (.inr ⟨b,dl hb,hu⟩)
end
section
variable{n:Nat}{ts:ar}{ss:ax}
def a6D(dJ:n<=10)(c:tE n wd ts ⟨[],[],[]⟩ ss)(h:Jx ⟨[],[],[]⟩ ss=⟨[[]],G,B⟩)(cov:∀v:Int,0<=v->v<(n:Int)->v∈G)(mB:∀t,t∈B↔t∈ts):Br n ts ss (b8 n ts ss)=.ok:=by
 let⟨E,D⟩:=Jz dJ c ss.length (aK _);rw[gw,h]at D;let hE:∀j:Nat,j<n->(j:Int)∈E:=λj hj=>by
  let h1:=Š ss c (pre:=[]) (λv hv=>by
   grind) (j:Int) (.inl ())
  let h2:=(D.ins (j:Int)).mp ();show h2
 let:=(a1x dJ D).2.2 Z hE;grind
def ZW(dJ:n<=10)(c:tE n wd ts ⟨[],[],[]⟩ ss)(wB:Br n ts ss (b8 n ts ss)=.ok):∀b∈(b8 n ts ss).aQ,b.length<=wd:=by
 let go:=Ŗ dJ wB;let I:=yq dJ wB;intro b hb;let⟨k,kl,e⟩:=oR hb;rw[I.tl]at kl;let eb:Go.gY n ts ss k=b:=by
  show(b8 n ts ss).aQ.getD k []=b;rw[fY,bI (by rw[I.tl];show kl),<-e];rfl
 let⟨E',D'⟩:=Jz dJ c (k+1) ();let S:=Go.zN (n:=n) (ts:=ts) go dJ (List.getElem?_eq_getElem kl);let r:=D'.rel;let wd':=a1z c kl;let ok':=D'.ok;generalize Jx ⟨[],[],[]⟩ (ss.take (k+1))=κ at r wd' ok';rw[S.pile]at r;let ne:κ.P≠[]:=λz=>by
  rw[z]at r;let:=aW r;simp at this
 rw[rM ne]at r;let⟨xs',x,ex,_,hx⟩:=qu r;let ex':=(List.append_inj' ex Z).2;cases ex';rw[Go.Pn go dJ (Nat.le_refl _) ()]at hx;let hx':∀v,v∈Go.gY n ts ss k↔v∈κ.top:=hx;let nd:=(Go.ś dJ (λk s h=>Go.a1v (Go.zN go dJ h)) k kl).1;rw[eb]at hx' nd;let pm:b.Perm κ.top:=(GC (Go.Jt nd) ok'.Ww.1).mpr hx';rw[pm.length_eq];show wd'
end
theorem Lh{α:Type}(p q:α->Bool)(h:∀x,p x=true->q x=true):∀l:List α,l.countP p+l.countP (λx=>q x && !p x)=l.countP q
 | []=>rfl
 |x::l=>by
  let ih:=Lh p q h l
  grind
theorem Ec{α:Type}(l:List α)(p:Nat->α->Bool):∀(js:ay) (q:α->Bool),js.Nodup->(∀j∈js,∀x,p j x=true->q x=true)->(∀j∈js,∀j'∈js,∀x,p j x=true->p j' x=true->j=j')->(js.map λj=>l.countP (p j)).sum<=l.countP q
 | [],_,_,_,_=>dF _
 |j::js,q,nd,hq,fU=>by
  let⟨n1,n2⟩:=je.mp nd
  let ih:=Ec l p js (λx=>q x && !p j x) n2 (λi hi x hx=>by
   grind) (λa ha b hb x h1 h2=>fU a (bJ _ ha) b (bJ _ hb) x h1 h2)
  let:=Lh (p j) q (hq j aZ) l
  grind
section
open Classical
variable{n m:Nat}{up:Nat->Nat}{bC:Nat->ae}
noncomputable def cR (m:Nat) (up:Nat->Nat) (k:Nat):Nat:=(List.range m).countP λr=>decide (oH m up k r)
noncomputable def cT (m:Nat) (up:Nat->Nat) (pk:Int×Int->Nat) (bC:Nat->ae) (tb:ar) (k:Nat):Nat:=tb.countP λt=>decide (∃r,oH m up k r/\gD pk bC r t)
def Yo(T:Tb n m up bC){k:Nat}(km:k<m):1+((jD m up k).map λj=>cR m up j).sum<=cR m up k:=by
 let kid:∀j∈jD m up k,0<j/\j<m/\up j=k:=λj hj=>(xV T).mp hj;let ne:∀j∈jD m up k,j≠k:=λj hj e=>by
  let⟨j0,jm,ju⟩:=kid j hj;let:=T.ups j j0 jm;omega
 let h:=Ec (List.range m) (λj r=>if j=k then decide (r=k)else decide (oH m up j r)) (k::jD m up k) (λr=>decide (oH m up k r)) (je.mpr ⟨λz=>ne k z Z,PJ _ _ _⟩) (λj hj x hx=>by
  by_cases c:j=k
  ·rw[aB c,eO]at hx;rw[hx];show aV (.self km)
  ·rw[aA c,eO]at hx;rcases bO.mp hj with e|hj
   ·grind
   ·let⟨j0,jm,ju⟩:=kid j hj;show aV (oH.trans (.step j0 jm (by rw[ju];show .self km)) hx)) (λa ha b hb x h1 h2=>by
  let nk:∀{j:Nat},j∈jD m up k->¬oH m up j k:=λ{j} hj z=>by
   let⟨j0,jm,ju⟩:=kid j hj;let:=T.ups j j0 jm;let:=z.le T;omega
  rcases bO.mp ha with ea|ha<;>rcases bO.mp hb with eb|hb
  ·rw[ea,eb]
  ·grind
  ·grind
  ·rw[aA (ne a ha),eO]at h1;rw[aA (ne b hb),eO]at h2;let⟨a0,am,au⟩:=kid a ha;let⟨b0,bm,bu⟩:=kid b hb;show Gv T a0 am b0 bm (au.trans bu.symm) h1 h2)
 rw[cC,vK]at h;let e1:(List.range m).countP (λr=>if k=k then decide (r=k)else decide (oH m up k r))=1:=by
  let:(λr=>if k=k then decide (r=k)else decide (oH m up k r))=λr=>decide (r=k):=funext λr=>aB rfl;rw[this];let h1:=Ut (n:=m);let h2:List.count k (List.range m)=1:=()
  rw[<-h2];unfold List.count;grind
 let e2:(jD m up k).map (λj=>(List.range m).countP λr=>if j=k then decide (r=k)else decide (oH m up j r))=(jD m up k).map λj=>cR m up j:=vC λj hj=>by
  unfold cR;congr 1;funext r;rw[aA (ne j hj)]
 rw[e1,e2]at h;show h
def a1A(T:Tb n m up bC){k:Nat}(km:k<m)(tb:ar):(Eb pk bC tb k).length+((jD m up k).map λj=>cT m up pk bC tb j).sum<=cT m up pk bC tb k:=by
 let kid:∀j∈jD m up k,0<j/\j<m/\up j=k:=λj hj=>(xV T).mp hj;let ne:∀j∈jD m up k,j≠k:=λj hj e=>by
  let⟨j0,jm,ju⟩:=kid j hj;let:=T.ups j j0 jm;omega
 let h:=Ec tb (λj t=>if j=k then decide (gD pk bC k t)else decide (∃r,oH m up j r/\gD pk bC r t)) (k::jD m up k) (λt=>decide (∃r,oH m up k r/\gD pk bC r t)) (je.mpr ⟨λz=>ne k z Z,PJ _ _ _⟩) (λj hj x hx=>by
  by_cases c:j=k
  ·rw[aB c,eO]at hx;show aV ⟨k,.self km,hx⟩
  ·rw[aA c,eO]at hx;let⟨r,br,hr⟩:=hx;rcases bO.mp hj with e|hj
   ·grind
   ·let⟨j0,jm,ju⟩:=kid j hj;show aV ⟨r,oH.trans (.step j0 jm (by rw[ju];show .self km)) br,hr⟩) (λa ha b hb x h1 h2=>by
  let nk:∀{j:Nat},j∈jD m up k->¬oH m up j k:=λ{j} hj z=>by
   let⟨j0,jm,ju⟩:=kid j hj;let:=T.ups j j0 jm;let:=z.le T;omega
  rcases bO.mp ha with ea|ha<;>rcases bO.mp hb with eb|hb
  ·rw[ea,eb]
  ·rw[aB ea,eO]at h1;rw[aA (ne b hb),eO]at h2;let⟨r,br,hr⟩:=h2;show absurd (tD T hr h1▸br) (nk hb)
  ·rw[aB eb,eO]at h2;rw[aA (ne a ha),eO]at h1;let⟨r,br,hr⟩:=h1;show absurd (tD T hr h2▸br) (nk ha)
  ·rw[aA (ne a ha),eO]at h1;rw[aA (ne b hb),eO]at h2;let⟨r,br,hr⟩:=h1;let⟨r',br',hr'⟩:=h2;let:=tD T hr hr';subst this;let⟨a0,am,au⟩:=kid a ha;let⟨b0,bm,bu⟩:=kid b hb;show Gv T a0 am b0 bm (au.trans bu.symm) br br')
 rw[cC,vK]at h;let e1:tb.countP (λt=>if k=k then decide (gD pk bC k t)else decide (∃r,oH m up k r/\gD pk bC r t))=(Eb pk bC tb k).length:=by
  unfold Eb;grind
 let e2:(jD m up k).map (λj=>tb.countP λt=>if j=k then decide (gD pk bC k t)else decide (∃r,oH m up j r/\gD pk bC r t))=(jD m up k).map λj=>cT m up pk bC tb j:=vC λj hj=>by
  unfold cT;congr 1;funext t;rw[aA (ne j hj)]
 rw[e1,e2]at h;show h
theorem Yp{α:Type}(L:Nat->List α)(c d:Nat->Nat):∀js:ay,(∀j∈js,(L j).length<=14*c j+d j)->(js.flatMap L).length<=14*(js.map c).sum+(js.map d).sum
 | [],_=>dF _
 |j::js,h=>by
  let ih:=Yp L c d js λi hi=>h i (bJ _ hi)
  grind
def ZX(hW:∀k,(bC k).length<=4)(j k:Nat):(jU bC j k).length<=8:=by
 let f1:(vA (bC j) (bC k)).length<=4:=cG (yS _ _) (hW j);let f2:(vA (bC k) (bC j)).length<=4:=cG (yS _ _) (hW k);unfold jU;grind
end
section
variable{n m:Nat}{up:Nat->Nat}{bC:Nat->ae}{ts tb:ar}
def Li(T:Tb n m up bC)(hW:∀k,(bC k).length<=wd){j k:Nat}{L:ax}(j0:0<j)(jm:j<m)(ju:up j=k)(ly:Jy n wd m up pk bC ts tb j L){P:List (ae)}(hK:∀v∈bC k,v∉G)(hG:∀v,Ea m up bC j v->v∉G)(hB:∀t∈B,∀r,oH m up j r->¬gD pk bC r t) :
  ∃b G' B',b.Perm (bC k)/\tE n wd ts ⟨P,G,B⟩ (L++jU bC j k)/\Jx ⟨P,G,B⟩ (L++jU bC j k)=⟨P++[b],G',B'⟩/\(∀v,v∈G'↔v∈G\/(Ea m up bC j v/\v∉bC k))/\∀t,t∈B'↔t∈B\/(t∈tb/\∃r,oH m up j r/\gD pk bC r t):=by
 let⟨bj,G1,B1,pj,a1,e1,š,mB1⟩:=ly P G B hG hB;let a2v:∀v∈bC j,Ea m up bC j v:=λv hv=>⟨j,.self jm,hv⟩;let⟨a2,b2,p2,e2⟩:=ş (ts:=ts) T hW (k:=k) (P:=P) (G:=G1) (B:=B1) pj (λv hv _ z=>by
  rcases(š v).mp z with z|z
  ·show hG v (a2v v hv) z
  ·show z.2 hv) (λv hv nv z=>by
  rcases(š v).mp z with z|z
  ·show hK v hv z
  ·show nv (ŝ T j0 jm z.1 (ju▸hv)))
 show⟨b2,_,B1,p2,mH a1 (by rw[e1];show a2),by rw[lQ,e1,e2],λv=>?_,mB1⟩;rw[cV,š,kJ];constructor
 ·rintro((z|⟨z1,z2⟩)|⟨z1,z2⟩)
  ·show .inl z
  ·show .inr ⟨z1,λz=>z2 (ŝ T j0 jm z1 (ju▸z))⟩
  ·show .inr ⟨a2v v z1,z2⟩
 ·rintro(z|⟨z1,z2⟩)
  ·show .inl (.inl z)
  ·by_cases c:v∈bC j
   ·show .inr ⟨c,z2⟩
   ·show .inl (.inr ⟨z1,c⟩)
def Fo(n wd m:Nat)(up:Nat->Nat)(pk:Int×Int->Nat)(bC:Nat->ae)(ts tb:ar)(k:Nat)(js:ay)(own:Bool)(ss:ax):Prop :=
 ∀P G B,(∀v∈bC k,v∉G)->(∀j∈js,∀v,Ea m up bC j v->v∉G)->(∀t∈B,∀j∈js,∀r,oH m up j r->¬gD pk bC r t)->(own=true->∀t∈B,¬gD pk bC k t)->∃b G' B',b.Perm (bC k)/\tE n wd ts ⟨P,G,B⟩ ss/\Jx ⟨P,G,B⟩ ss=⟨P++[b],G',B'⟩/\(∀v,v∈G'↔v∈G\/∃j∈js,Ea m up bC j v/\v∉bC k)/\∀t,t∈B'↔t∈B\/(t∈tb/\((∃j∈js,∃r,oH m up j r/\gD pk bC r t)\/(own=true/\gD pk bC k t)))
def Wy(pk:Int×Int->Nat)(bC:Nat->ae)(tb:ar)(k:Nat):ax:=(Eb pk bC tb k).map λt=>.tie t.1 t.2
def Gw{k:Nat}{t:Int×Int}:t∈Eb pk bC tb k↔t∈tb/\gD pk bC k t:=by
 unfold Eb;rw[jT,eO]
def a4p(T:Tb n m up bC)(hW:∀k,(bC k).length<=wd)(tn:tb.Nodup)(sub:∀t∈tb,t∈ts)(k:Nat)(own:Bool):Fo n wd m up pk bC ts tb k [] own ((.leaf::(bC k).map .inn)++if own=true then Wy pk bC tb k else []):=by
 intro P G B hK _ _ hO;let⟨i1,i2⟩:=Wx (n:=n) (wd:=wd) (ts:=ts) (bC k) (P:=P) (b:=[]) (G:=G) (B:=B) (T.nd k) (T.lt k) (λv _ z=>absurd z dZ) hK (by let:=hW k;show 0+_<=_;omega);let g1:Jx ⟨P,G,B⟩ (.leaf::(bC k).map .inn)=⟨P++[bC k],G,B⟩:=i2;let a0:tE n wd ts ⟨P,G,B⟩ (.leaf::(bC k).map .inn):=by
  show⟨⟨trivial,?_⟩,i1⟩;show(Kp.mk (P++[[]]) G B).top.length<=wd;rw[pZ];show dF _
 cases own with
 |false =>
  rw[aA cN,jE];show⟨bC k,G,B,Nv _,a0,g1,λv=>by simp,λt=>by simp⟩
 |true =>
  rw[aB rfl];let⟨a,e⟩:=PB (n:=n) (wd:=wd) (ts:=ts) (Eb pk bC tb k) (P:=P) (b:=bC k) (G:=G) (B:=B) (tn.sublist Ue) (λt ht=>by
   let⟨t1,h⟩:=Gw.mp ht;show⟨sub t t1,λz=>hO Z t z h,h.1,h.2.1⟩) (hW k)
  show⟨bC k,G,B++Eb pk bC tb k,Nv _,mH a0 (by rw[g1];show a),by rw[lQ,g1];show e,λv=>by simp,λt=>?_⟩;rw[cV,Gw];simp
def Ţ(T:Tb n m up bC)(hW:∀k,(bC k).length<=wd){j k:Nat}{js:ay}{own:Bool}{Z98 L:ax}(km:k<m)(j0:0<j)(jm:j<m)(ju:up j=k)(nj:j∉js)(kd:∀i∈js,0<i/\i<m/\up i=k)(lm:Fo n wd m up pk bC ts tb k js own Z98)(ly:Jy n wd m up pk bC ts tb j L) :
  Fo n wd m up pk bC ts tb k (j::js) own (Z98++(L++jU bC j k)++[.join])/\Fo n wd m up pk bC ts tb k (j::js) own ((L++jU bC j k)++Z98++[.join]):=by
 let jk:¬oH m up j k:=λz=>by
  let l1:=z.le T;let l2:=T.ups j j0 jm;omega
 let sib:∀i∈js,∀v,Ea m up bC i v->Ea m up bC j v->v∈bC k:=λi hi v h1 h2=>by
  let⟨i0,im,iu⟩:=kd i hi;show iu▸a1y T i0 im j0 jm (iu.trans ju.symm) (λz=>nj (z▸hi)) h1 h2
 let a6E:∀i∈js,∀{t:Int×Int}{r r':Nat},oH m up i r->gD pk bC r t->oH m up j r'->gD pk bC r' t->False:=λi hi {t r r'} b1 h1 b2 h2=>by
  let⟨i0,im,iu⟩:=kd i hi;let:=tD T h1 h2;subst this;show nj (Gv T i0 im j0 jm (iu.trans ju.symm) b1 b2▸hi)
 let mem:∀(P:Nat->Prop),(∃i∈j::js,P i)↔P j\/∃i∈js,P i:=λP=>by
  constructor
  ·rintro⟨i,hi,h⟩;rcases bO.mp hi with e|hi
   ·show .inl (e▸h)
   ·show .inr ⟨i,hi,h⟩
  ·rintro(h|⟨i,hi,h⟩)
   ·show⟨j,aZ,h⟩
   ·show⟨i,bJ _ hi,h⟩
 show⟨λP G B hK hG hB hO=>?_,λP G B hK hG hB hO=>?_⟩
 ·let⟨b,G1,B1,pb,a1,e1,š,mB1⟩:=lm P G B hK (λi hi=>hG i (bJ _ hi)) (λt ht i hi=>hB t ht i (bJ _ hi)) hO;let⟨b2,G2,B2,pb2,a2,e2,mG2,mB2⟩:=Li T hW j0 jm ju ly (P:=P++[b]) (G:=G1) (B:=B1) (λv hv z=>by
   rcases(š v).mp z with z|⟨i,hi,_,z⟩
   ·show hK v hv z
   ·show z hv) (λv hv z=>by
   rcases(š v).mp z with z|⟨i,hi,z1,z2⟩
   ·show hG j aZ v hv z
   ·show z2 (sib i hi v z1 hv)) (λt ht r br hr=>by
   rcases(mB1 t).mp ht with z|⟨_,⟨i,hi,r',br',hr'⟩|⟨_,hk⟩⟩
   ·show hB t z j aZ r br hr
   ·show a6E i hi br' hr' br hr
   ·show jk (tD T hr hk▸br))
  let⟨c3,e3⟩:=Yn (n:=n) (ts:=ts) (P:=P) (b:=b) (b':=b2) (G:=G2) (B:=B2) (pb2.trans pb.symm);let wide:(JV ⟨P++[b]++[b2],G2,B2⟩ .join).top.length<=wd:=by rw[e3,pZ,pb.length_eq];show hW k
  show⟨b,G2,B2,pb,?_,?_,λv=>?_,λt=>?_⟩
  ·show mH (mH a1 (by rw[e1];show a2)) (by rw[lQ,e1,e2];show⟨⟨c3,wide⟩,trivial⟩)
  ·rw[lQ,lQ,e1,e2];show e3
  ·rw[mG2,š,mem];constructor
   ·rintro((z|z)|z)
    ·show .inl z
    ·show .inr (.inr z)
    ·show .inr (.inl z)
   ·rintro(z|(z|z))
    ·show .inl (.inl z)
    ·show .inr z
    ·show .inl (.inr z)
  ·rw[mB2,mB1,mem];constructor
   ·rintro((z|⟨z0,z|z⟩)|⟨z0,z⟩)
    ·show .inl z
    ·show .inr ⟨z0,.inl (.inr z)⟩
    ·show .inr ⟨z0,.inr z⟩
    ·show .inr ⟨z0,.inl (.inl z)⟩
   ·rintro(z|⟨z0,(z|z)|z⟩)
    ·show .inl (.inl z)
    ·show .inr ⟨z0,z⟩
    ·show .inl (.inr ⟨z0,.inl z⟩)
    ·show .inl (.inr ⟨z0,.inr z⟩)
 ·let⟨b2,G2,B2,pb2,a2,e2,mG2,mB2⟩:=Li T hW j0 jm ju ly (P:=P) (G:=G) (B:=B) hK (hG j aZ) (λt ht=>hB t ht j aZ);let⟨b,G1,B1,pb,a1,e1,š,mB1⟩:=lm (P++[b2]) G2 B2 (λv hv z=>by
   rcases(mG2 v).mp z with z|z
   ·show hK v hv z
   ·show z.2 hv) (λi hi v hv z=>by
   rcases(mG2 v).mp z with z|⟨z1,z2⟩
   ·show hG i (bJ _ hi) v hv z
   ·show z2 (sib i hi v hv z1)) (λt ht i hi r br hr=>by
   rcases(mB2 t).mp ht with z|⟨_,r',br',hr'⟩
   ·show hB t z i (bJ _ hi) r br hr
   ·show a6E i hi br hr br' hr') (λho t ht hk=>by
   rcases(mB2 t).mp ht with z|⟨_,r',br',hr'⟩
   ·show hO ho t z hk
   ·show jk (tD T hr' hk▸br'))
  let⟨c3,e3⟩:=Yn (n:=n) (ts:=ts) (P:=P) (b:=b2) (b':=b) (G:=G1) (B:=B1) (pb.trans pb2.symm);let wide:(JV ⟨P++[b2]++[b],G1,B1⟩ .join).top.length<=wd:=by rw[e3,pZ,pb2.length_eq];show hW k
  show⟨b2,G1,B1,pb2,?_,?_,λv=>?_,λt=>?_⟩
  ·show mH (mH a2 (by rw[e2];show a1)) (by rw[lQ,e2,e1];show⟨⟨c3,wide⟩,trivial⟩)
  ·rw[lQ,lQ,e2,e1];show e3
  ·rw[š,mG2,mem];constructor
   ·rintro((z|z)|z)
    ·show .inl z
    ·show .inr (.inl z)
    ·show .inr (.inr z)
   ·rintro(z|(z|z))
    ·show .inl (.inl z)
    ·show .inl (.inr z)
    ·show .inr z
  ·rw[mB1,mB2,mem];constructor
   ·rintro((z|⟨z0,z⟩)|⟨z0,z|z⟩)
    ·show .inl z
    ·show .inr ⟨z0,.inl (.inl z)⟩
    ·show .inr ⟨z0,.inl (.inr z)⟩
    ·show .inr ⟨z0,.inr z⟩
   ·rintro(z|⟨z0,(z|z)|z⟩)
    ·show .inl (.inl z)
    ·show .inl (.inr ⟨z0,z⟩)
    ·show .inr ⟨z0,.inl z⟩
    ·show .inr ⟨z0,.inr z⟩
def ţ(T:Tb n m up bC)(hW:∀k,(bC k).length<=wd)(tn:tb.Nodup)(sub:∀t∈tb,t∈ts){k:Nat}{js:ay}{own:Bool}{Z98:ax}(km:k<m)(mj:∀j,j∈js↔0<j/\j<m/\up j=k)(lm:Fo n wd m up pk bC ts tb k js own Z98):Jy n wd m up pk bC ts tb k (Z98++if own=true then []else Wy pk bC tb k):=by
 intro P G B hG hB;let kb:∀j∈js,∀r,oH m up j r->oH m up k r:=λj hj r b=>by
  let⟨j0,jm,ju⟩:=(mj j).mp hj;show oH.trans (.step j0 jm (by rw[ju];show .self km)) b
 let jk:∀j∈js,¬oH m up j k:=λj hj z=>by
  let⟨j0,jm,ju⟩:=(mj j).mp hj;let l1:=z.le T;let l2:=T.ups j j0 jm;omega
 let ex:∀{r:Nat},oH m up k r->r≠k->∃j∈js,oH m up j r:=λ{r} b ne=>by
  rcases b.kid T with e|⟨j,j0,jm,ju,bj⟩
  ·show absurd e ne
  ·show⟨j,(mj j).mpr ⟨j0,jm,ju⟩,bj⟩
 let⟨b,G1,B1,pb,a1,e1,š,mB1⟩:=lm P G B (λv hv=>hG v ⟨k,.self km,hv⟩) (λj hj v ⟨r,br,hr⟩=>hG v ⟨r,kb j hj r br,hr⟩) (λt ht j hj r br=>hB t ht r (kb j hj r br)) (λ_ t ht=>hB t ht k (.self km));let mG:∀v,v∈G1↔v∈G\/(Ea m up bC k v/\v∉bC k):=λv=>by
  rw[š];constructor
  ·rintro(z|⟨j,hj,⟨r,br,hr⟩,z⟩)
   ·show .inl z
   ·show .inr ⟨⟨r,kb j hj r br,hr⟩,z⟩
  ·rintro(z|⟨⟨r,br,hr⟩,z⟩)
   ·show .inl z
   ·let⟨j,hj,bj⟩:=ex br (λe=>z (e▸hr));show .inr ⟨j,hj,⟨r,bj,hr⟩,z⟩
 let two:∀t,(∃r,oH m up k r/\gD pk bC r t)↔(∃j∈js,∃r,oH m up j r/\gD pk bC r t)\/gD pk bC k t:=λt=>by
  constructor
  ·rintro⟨r,br,hr⟩;by_cases c:r=k
   ·show .inr (c▸hr)
   ·let⟨j,hj,bj⟩:=ex br c;show .inl ⟨j,hj,r,bj,hr⟩
  ·rintro(⟨j,hj,r,br,hr⟩|h)
   ·show⟨r,kb j hj r br,hr⟩
   ·show⟨k,.self km,h⟩
 cases own with
 |true =>
  rw[aB Z,jE];show⟨b,G1,B1,pb,a1,e1,mG,λt=>?_⟩;rw[mB1,two];simp
 |false =>
  rw[aA cN];let⟨a,e⟩:=PB (n:=n) (wd:=wd) (ts:=ts) (Eb pk bC tb k) (P:=P) (b:=b) (G:=G1) (B:=B1) (tn.sublist Ue) (λt ht=>by
   let⟨t1,h⟩:=Gw.mp ht;show⟨sub t t1,λz=>?_,pb.mem_iff.mpr h.1,pb.mem_iff.mpr h.2.1⟩;rcases(mB1 t).mp z with z|⟨_,⟨j,hj,r,br,hr⟩|⟨z,_⟩⟩
   ·show hB t z k (.self km) h
   ·show jk j hj (tD T hr h▸br)
   ·cases z) (by rw[pb.length_eq];show hW k)
  show⟨b,G1,B1++Eb pk bC tb k,pb,mH a1 (by rw[e1];show a),by rw[lQ,e1];show e,mG,λt=>?_⟩;rw[cV,mB1,Gw,two];constructor
  ·rintro((z|⟨z0,z|⟨z,_⟩⟩)|⟨z0,z⟩)
   ·show .inl z
   ·show .inr ⟨z0,.inl z⟩
   ·cases z
   ·show .inr ⟨z0,.inr z⟩
  ·rintro(z|⟨z0,z|z⟩)
   ·show .inl (.inl z)
   ·show .inl (.inr ⟨z0,.inl z⟩)
   ·show .inr ⟨z0,z⟩
def yN(pr:Nat)(bC:Nat->ae)(L:Nat->ax)(k:Nat)(Z98:ax)(j:Nat):ax:=if j%2=pr then Z98++(L j++jU bC j k)++[.join]else(L j++jU bC j k)++Z98++[.join]
def qF(pr:Nat)(own:Bool)(tb:ar)(m:Nat)(up:Nat->Nat)(pk:Int×Int->Nat)(bC:Nat->ae):Nat->Nat->ax
 |0,_=>[]
 |f+1,k=>(jD m up k).foldl (yN pr bC (qF pr own tb m up pk bC f) k) ((.leaf::(bC k).map .inn)++if own=true then Wy pk bC tb k else [])++if own=true then []else Wy pk bC tb k
theorem Lj(T:Tb n m up bC)(hW:∀k,(bC k).length<=wd){k:Nat}{own:Bool}{pr:Nat}{L:Nat->ax}(km:k<m):∀(rest done:ay) (Z98:ax),(rest++done).Nodup->(∀i∈rest++done,0<i/\i<m/\up i=k)->(∀j∈rest,Jy n wd m up pk bC ts tb j (L j))->Fo n wd m up pk bC ts tb k done own Z98->Fo n wd m up pk bC ts tb k (rest.reverse++done) own (rest.foldl (yN pr bC L k) Z98)
 | [],done,Z98,_,_,_,h=>h
 |j::rest,done,Z98,nd,kd,ly,h=>by
  let⟨n1,n2⟩:=je.mp nd
  let⟨j0,jm,ju⟩:=kd j aZ
  let two:=Ţ T hW km j0 jm ju (λz=>n1 (fG _ z)) (λi hi=>kd i (bJ _ (fG _ hi))) h (ly j aZ)
  rw[List.reverse_cons,vH]
  show Fo n wd m up pk bC ts tb k (rest.reverse++(j::done)) own (rest.foldl (yN pr bC L k) (yN pr bC L k Z98 j))
  show Lj T hW km rest (j::done) _ ?_ (λi hi=>?_) (λi hi=>ly i (bJ _ hi)) ?_
  ·show(List.perm_middle.nodup_iff).mpr nd
  ·show kd i (List.perm_middle.mem_iff.mp hi)
  ·unfold yN
   split
   ·show two.1
   ·show two.2
theorem RM(T:Tb n m up bC)(hW:∀k,(bC k).length<=wd)(tn:tb.Nodup)(sub:∀t∈tb,t∈ts)(pr:Nat)(own:Bool):∀f k,k<m->m<=k+f->Jy n wd m up pk bC ts tb k (qF pr own tb m up pk bC f k)
 |0,k,km,mk=>absurd km ()
 |f+1,k,km,mk=>by
  let kid:∀j∈jD m up k,0<j/\j<m/\up j=k:=λj hj=>(xV T).mp hj
  let h:=Lj (ts:=ts) (tb:=tb) T hW (own:=own) (pr:=pr) (L:=qF pr own tb m up pk bC f) km (jD m up k) [] _ (by rw[jE];show PJ _ _ _) (λi hi=>kid i (by rwa [jE]at hi)) (λj hj=>by
   let⟨j0,jm,ju⟩:=kid j hj
   let:=T.ups j j0 jm
   show RM T hW tn sub pr own f j jm ()) (a4p (ts:=ts) T hW tn sub k own)
  rw[jE]at h
  show ţ T hW tn sub km (λj=>by rw[List.mem_reverse];show xV T) h
theorem JB(pr:Nat)(L:Nat->ax)(k:Nat):∀(js:ay) (Z98:ax),(js.foldl (yN pr bC L k) Z98).length=Z98.length+(js.flatMap λj=>L j++(jU bC j k++[.join])).length
 | [],Z98=>by simp
 |j::js,Z98=>by
  show(js.foldl (yN pr bC L k) (yN pr bC L k Z98 j)).length=_
  rw[JB pr L k js,List.flatMap_cons,cu]
  unfold yN
  split<;>simp only[List.length_append,List.length_singleton]<;>omega
theorem Ln(T:Tb n m up bC)(hW:∀k,(bC k).length<=4)(pr:Nat)(own:Bool)(tb:ar):∀f k,k<m->(qF pr own tb m up pk bC f k).length+9<=14*cR m up k+cT m up pk bC tb k
 |0,k,km=>by
  let h:=Yo T km
  show 0+9<=_
  omega
 |f+1,k,km=>by
  let h1:=Yo T km
  let h2:=a1A (pk:=pk) T km tb
  let hb:=hW k
  let h3:=Yp (λj=>qF pr own tb m up pk bC f j++(jU bC j k++[bT.join])) (λj=>cR m up j) (λj=>cT m up pk bC tb j) (jD m up k) λj hj=>by
   let⟨j0,jm,ju⟩:=(xV T).mp hj
   let ih:=Ln T hW pr own tb f j jm
   let:=ZX hW j k
   show(qF pr own tb m up pk bC f j++(jU bC j k++[bT.join])).length<=14*cR m up j+cT m up pk bC tb j
   rw[cu,cu,yR]
   omega
  unfold qF Wy
  let eo:(if own=true then(Eb pk bC tb k).map λt=>bT.tie t.1 t.2 else []).length+(if own=true then []else(Eb pk bC tb k).map λt=>bT.tie t.1 t.2).length=(Eb pk bC tb k).length:=by
   cases own with
   |true=>rw[aB Z,aB Z,aH];rfl
   |false=>rw[aA cN,aA cN,aH];show 0+_=_;omega
  rw[cu,JB,cu,lV,aH]
  omega
def Lp(T:Tb n m up bC)(hW:∀k,(bC k).length<=4)(m20:m<=20)(pr:Nat)(own:Bool){tb:ar}(Ť:tb.length<=100){f k:Nat}(km:k<m):(qF pr own tb m up pk bC f k).length<=400:=by
 let h:=Ln (pk:=pk) T hW pr own tb f k km;let h1:cR m up k<=m:=by
  unfold cR;show cG List.countP_le_length (by rw[oU];show aK _)
 let h2:cT m up pk bC tb k<=tb.length:=List.countP_le_length;omega
def zO(pr:Nat)(own:Bool)(tb:ar)(m:Nat)(up:Nat->Nat)(pk:Int×Int->Nat)(bC:Nat->ae)(d:Nat):ax:=qF pr own tb m up pk bC d 0++(bC 0).map .out
def Z0{d:Nat}(T:Tb n m up bC)(dJ:n<=10)(hW:∀k,(bC k).length<=wd)(tn:ts.Nodup)(inb:∀t∈ts,pk t<m/\t.1∈bC (pk t)/\t.2∈bC (pk t))(cov:∀v:Int,0<=v->v<(n:Int)->∃k,v∈bC k)(md:m<=d)(pr:Nat)(own:Bool):Br n ts (zO pr own ts m up pk bC d) (b8 n ts (zO pr own ts m up pk bC d))=.ok/\∀b∈(b8 n ts (zO pr own ts m up pk bC d)).aQ,b.length<=wd:=by
 let⟨b,G',B',pm,a,e,mG,mB⟩:=RM (ts:=ts) T hW tn (λ_ h=>h) pr own d 0 T.pos () [] [] [] (λv _ z=>absurd z dZ) (λt ht=>absurd ht dZ);let⟨o1,b',d1,d2,o2⟩:=Pz (n:=n) (wd:=wd) (ts:=ts) (bC 0) (P:=[]) (b:=b) (G:=G') (B:=B') (T.nd 0) (pm.nodup_iff.mpr (T.nd 0)) (λv hv=>pm.mem_iff.mpr hv) (λv hv z=>by
  rcases(mG v).mp z with z|z
  ·show absurd z dZ
  ·show z.2 hv) (by rw[pm.length_eq];show hW 0)
 let eb:b'=[]:=Tf.mpr λv hv=>((d2 v).mp hv).2 (pm.mem_iff.mp ((d2 v).mp hv).1);let A:tE n wd ts ⟨[],[],[]⟩ (zO pr own ts m up pk bC d):=mH a (by rw[e];show o1);let E:Jx ⟨[],[],[]⟩ (zO pr own ts m up pk bC d)=⟨[[]],G'++bC 0,B'⟩:=by
  unfold zO;rw[lQ,e,o2,eb];rfl
 let wB:=a6D dJ A E (λv v0 vn=>by
  let⟨k,hk⟩:=cov v v0 vn;by_cases c:v∈bC 0
  ·show fG _ c
  ·show uy _ ((mG v).mpr (.inr ⟨⟨k,RL T k (T.in_ hk),hk⟩,c⟩))) (λt=>by
  rw[mB];constructor
  ·rintro(z|z)
   ·show absurd z dZ
   ·show z.1
  ·intro z;let⟨rm,k1,k2⟩:=inb t z;show .inr ⟨z,pk t,RL T _ rm,k1,k2,Z⟩)
 show⟨wB,ZW dJ A wB⟩
end
abbrev rng(n:Nat):ae:=(List.range n).map λi=>((i:Nat):Int)
def Yq{n:Nat}{v:Int}:v∈rng n↔0<=v/\v<(n:Int):=by
 rw[fH];constructor
 ·grind
 ·rintro⟨h0,h1⟩;show⟨v.toNat,gA.mpr (),()⟩
def Z1(n:Nat):(rng n).Nodup:=by
 unfold List.Nodup;rw[yX];show List.pairwise_lt_range.imp λh=>by omega
def qw{rs:ba}{r:xg}{k:Nat}(h:k<rs.length):rowAt (rs++[r]) k=rowAt rs k:=by
 unfold rowAt;grind
def uU{rs:ba}{r:xg}:rowAt (rs++[r]) rs.length=r:=by
 unfold rowAt;rw[fY,wM (aK _),zf];rfl
def Fp(rs:ba)(k:Nat):Nat:=((rowAt rs k).1.getD 0).toNat
def dH(rs:ba)(k:Nat):ae:=(rowAt rs k).2
def BW{rs:ba}{k:Nat}(h:rs.length<=k):rowAt rs k=(none,[]):=by
 unfold rowAt;grind
def g8(rs:ba)(r:xg)(k:Nat):dH (rs++[r]) k=if k=rs.length then r.2 else dH rs k:=by
 unfold dH;by_cases c:k=rs.length
 ·rw[aB c,c,uU]
 ·rw[aA c];by_cases d:k<rs.length
  ·rw[qw d]
  ·rw[BW (),BW ()]
def BX(rs:ba)(r:xg)(k:Nat):Fp (rs++[r]) k=if k=rs.length then(r.1.getD 0).toNat else Fp rs k:=by
 unfold Fp;by_cases c:k=rs.length
 ·rw[aB c,c,uU]
 ·rw[aA c];by_cases d:k<rs.length
  ·rw[qw d]
  ·rw[BW (),BW ()]
structure Rw(n most:Nat)(rs:ba)(us:ae):Prop where
 T:Tb n rs.length (Fp rs) (dH rs)
 r0:(rowAt rs 0).1=none
 ru:∀k,0<k->k<rs.length->(rowAt rs k).1=some ((Fp rs k:Nat):Int)
 nd:us.Nodup
 lt:∀v∈us,0<=v/\v<(n:Int)
 dis:∀v∈us,∀k,v∉dH rs k
 cov:∀v:Int,0<=v->v<(n:Int)->v∈us\/∃k,v∈dH rs k
 few:∀k,(dH rs k).length<=most
def BZ(us:ae)(c:Nat):us.take (us.length-c)++us.drop (us.length-c)=us:=uw _ _
def a8g{n most:Nat}(pm:us.Perm (rng n))(cm:c<=most)(hz:zs.Perm (us.drop (us.length-c)).reverse):Rw n most [(none,zs)] (us.take (us.length-c)):=by
 let ndu:us.Nodup:=pm.nodup_iff.mpr (Z1 n);let inn:∀v∈us,0<=v/\v<(n:Int):=λv hv=>Yq.mp (pm.mem_iff.mp hv);let Ze:=ndu;rw[<-BZ us c]at Ze;let⟨n1,n2,dj⟩:=uE.mp Ze;let mz:∀v,v∈zs↔v∈us.drop (us.length-c):=λv=>by grind
 let bg:∀k,dH [(none,zs)] k=if k=0 then zs else []:=λk=>by
  cases k with
  |zero=>rfl
  |succ k=>rfl
 let lz:zs.length<=most:=by
  rw[hz.length_eq,Cy,iK];omega
 show⟨⟨Nat.zero_lt_one,λk h0 h1=>?_,λk=>?_,λk v hv=>?_,λk h0 h1=>?_,λk hk=>?_⟩,Z,λk h0 h1=>?_,n1,λv hv=>inn v (jQ hv),λv hv k hk=>?_,λv v0 v1=>?_,λk=>?_⟩
 ·grind
 ·grind
 ·grind
 ·grind
 ·grind
 ·grind
 ·grind
 ·let:v∈us:=pm.mem_iff.mpr (Yq.mpr ⟨v0,v1⟩);rw[<-BZ us c]at this;rcases cV.mp this with h|h
  ·show .inl h
  ·show .inr ⟨0,(mz v).mpr h⟩
 ·rw[bg];split
  ·show lz
  ·show dF _
def a4q{n most f:Nat}{rs:ba}{ks:ae}(W:Rw n most rs us)(fl:f<rs.length)(sb:List.Sublist ks (dH rs f))(lc:ks.length+c<=most)(hz:zs.Perm (ks++(us.drop (us.length-c)).reverse)):Rw n most (rs++[(some (f:Int),zs)]) (us.take (us.length-c)):=by
 let Ze:=W.nd;rw[<-BZ us c]at Ze;let⟨n1,n2,dj⟩:=uE.mp Ze;let mz:∀v,v∈zs↔v∈ks\/v∈us.drop (us.length-c):=λv=>by rw[hz.mem_iff,cV,Uw]
 let lz:zs.length<=most:=by
  rw[hz.length_eq,cu,Cy,iK];omega
 let ll:(rs++[((some (f:Int),zs):xg)]).length=rs.length+1:=by rw[cu,yR]
 let ndz:zs.Nodup:=hz.nodup_iff.mpr (uE.mpr ⟨(W.T.nd f).sublist sb,(List.reverse_perm _).nodup_iff.mpr n2,λx hx y hy e=>by
  subst e;show W.dis x (yU (Uw.mp hy)) f (sb.subset hx)⟩)
 let un:Fp (rs++[((some (f:Int),zs):xg)]) rs.length=f:=by
  rw[BX,aB rfl];rfl
 show⟨⟨(),λk h0 h1=>?_,λk=>?_,λk v hv=>?_,λk h0 h1 v hv=>?_,λk hk=>?_⟩,?_,λk h0 h1=>?_,n1,λv hv=>W.lt v (jQ hv),λv hv k hk=>?_,λv v0 v1=>?_,λk=>?_⟩
 ·rw[ll]at h1;by_cases e:k=rs.length
  ·subst e;rw[un];show fl
  ·rw[BX,aA e];show W.T.ups k h0 ()
 ·rw[g8];split
  ·show ndz
  ·show W.T.nd k
 ·rw[g8]at hv;split at hv
  ·rcases(mz v).mp hv with h|h
   ·show W.T.lt f v (sb.subset h)
   ·show W.lt v (yU h)
  ·show W.T.lt k v hv
 ·rw[ll]at h1;by_cases e:k=rs.length
  ·subst e;rw[un];rw[g8,aB rfl]at hv;rcases(mz v).mp hv with h|h
   ·show .inl ?_;rw[g8,aA ()];show sb.subset h
   ·show .inr λj hj=>?_;rw[g8,aA ()];show W.dis v (yU h) j
  ·let kl:k<rs.length:=()
   rw[g8,aA e]at hv;rw[BX,aA e];let ul:=W.T.ups k h0 kl;rcases W.T.fr k h0 kl v hv with h|h
   ·show .inl ?_;rw[g8,aA ()];show h
   ·show .inr λj hj=>?_;rw[g8,aA ()];show h j hj
 ·rw[ll]at hk;rw[g8,aA ()];show W.T.no k ()
 ·rw[qw W.T.pos];show W.r0
 ·rw[ll]at h1;by_cases e:k=rs.length
  ·subst e;rw[un,uU]
  ·rw[BX,aA e,qw ()];show W.ru k h0 ()
 ·rw[g8]at hk;split at hk
  ·rcases(mz v).mp hk with h|h
   ·show W.dis v (jQ hv) f (sb.subset h)
   ·show dj v hv v h rfl
  ·show W.dis v (jQ hv) k hk
 ·rcases W.cov v v0 v1 with h|⟨k,h⟩
  ·rw[<-BZ us c]at h;rcases cV.mp h with h|h
   ·show .inl h
   ·show .inr ⟨rs.length,?_⟩;rw[g8,aB rfl];show(mz v).mpr (.inr h)
  ·show .inr ⟨k,?_⟩;let kl:=W.T.in_ h;rw[g8,aA ()];show h
 ·rw[g8];split
  ·show lz
  ·show W.few k
def RwX(ex:aI)(H:Hp)(v:V)(r:xg):Prop:=∃p b,v=.ref p/\H p= ~~~[upV r.1,.ref b]/\H b=↥(r.2.map V.int)/\b∉ex/\r.2.length<=1000
def RwX.same{ex:aI}{H H':Hp}{v:V}{r:xg}(s:aL H H')(h:RwX ex H v r):RwX ex H' v r:=by
 let⟨p,b,e,h1,h2,h3⟩:=h;show⟨p,b,e,s _ _ h1,s _ _ h2,h3⟩
def RwX.chg{ex:aI}{H H':Hp}{l:Addr}{xs:af}{o:HO}{v:V}{r:xg}(hl:H l=↥xs)(c:vB H l o H')(m:l∈ex)(h:RwX ex H v r):RwX ex H' v r:=by
 let⟨p,b,e,h1,h2,h3,h4⟩:=h;show⟨p,b,e,(c.rest p λz=>by grind).trans h1,(c.rest b λz=>h3 (z▸m)).trans h2,h3,h4⟩
def RwX.l{ex:aI}{l:Addr}{H:Hp}{v:V}{r:xg}(m:l∈ex)(h:RwX ex H v r):HS l H v r:=by
 let⟨p,b,e,h1,h2,h3,h4⟩:=h;show⟨p,b,e,h1,h2,λz=>h3 (z▸m),h4⟩
def Yr{ix:List (Option Nat)}{g:TG}{tt:TT}{te:TE}{H:Hp}{pl:Addr}{lo:Int}(h:H pl=↥(us.map V.int))(hc:c<=us.length)(lu:us.length<=900)
  (hs:∀(i:Nat) (H':Hp) (xs:af) (y:V) (N:VK) (Z98:Hp->Prop),H' pl=↥(xs++[y])->(∀H2,vB H' pl (.lst xs) H2->N y H2)->g (.int (lo+i)) (pG ix σ) H' λσ2 H2=>tt σ2 H2 λb H3=>if b=true then te σ2 H3 N else Z98 H3)
  (hd:∀H1 p H2,vB H pl (.lst ((us.take (us.length-c)).map V.int)) H1->iG H1 p (.lst ((us.drop (us.length-c)).reverse.map V.int)) H2->Q (.ref p) H2):j7 ix g tt te σ H Q (SJ lo c):=by
 show u6 (λi ys H'=>ys=(us.drop (us.length-i)).reverse.map V.int/\vB H pl (.lst ((us.take (us.length-i)).map V.int)) H') ⟨?_,?_,λ_ _=>rfl⟩ (λi ys H' hi ⟨e,_⟩=>?_) (λi ys H' hi ⟨e,c1⟩=>?_) (λys H' ⟨e,c1⟩ p hp=>?_)
 ·rw[wY,List.drop_length];rfl
 ·rw[wY,gw];show h
 ·rw[e,aH,Cy,iK];show eY (cL ())
 ·let jl:us.length-(i+1)<us.length:=()
  let e1:us.length-i=us.length-(i+1)+1:=()
  let et:us.take (us.length-i)=us.take (us.length-(i+1))++[us[us.length-(i+1)]]:=by rw[e1,yO jl]
  let ed:us.drop (us.length-(i+1))=us[us.length-(i+1)]::us.drop (us.length-i):=by rw[wN jl,e1]
  let h1:=c1.here;rw[et,cW]at h1;show hs i H' _ _ (λv H4=>ys++[v]=(us.drop (us.length-(i+1))).reverse.map V.int/\vB H pl (.lst ((us.take (us.length-(i+1))).map V.int)) H4) _ h1 λH2 c2=>⟨?_,c2.here,λb hb=>(c2.rest b hb).trans (c1.rest b hb)⟩;rw[e,ed,List.reverse_cons,cW];rfl
 ·subst e;show hd H' p _ c1 (iG.nD hp)
abbrev jN:Stmt:=top 42
def zP:bN ["_law_script","_law_k","_law_base"] xG (aG jN):={}
noncomputable def Fq(ns:ae)(k:Int):Int:=if 0<ns.length then ns.getD ((k*33+5)%(ns.length:Int)).toNat 0%999623 else 167
def atF(ns:ae)(k:Int):Int:=if k<(ns.length:Int)then ns.getD k.toNat 0 else(Fq ns k+139*k+4)*(Fq ns k*3+k*k+107)%1000273
inductive a6F(K:aJ)(vs:af)(H:Hp)(Q:VK)(u_3:XK):Prop
 |mk (a:Addr) (ns:ae) (k:Int) (_:vs=[.ref a,.int k]) (_:Vz K H a ns) (_:ns.length<=63) (_:0<=k) (_:k<=1000) (_:Q (.int (atF ns k)) H)
inductive a8h(K:aJ)(vs:af)(H:Hp)(Q:VK)(u_3:XK):Prop
 |mk (a:Addr) (ns:ae) (k:Int) (_:vs=[.ref a,.int k]) (_:Vz K H a ns) (_:ns.length<=63) (_:0<=k) (_:k<=1000) (_:∀z,Q (.int z) H)
def bF.sub{CX:SM}{k:Nat}{f:Addr}{fd:FuncData}{ps:ag}{sp sp':Sp}(F:bF P w K mg base CX k f fd ps sp)(m:∀vs H Q E,sp' vs H Q E->sp vs H Q E):bF P w K mg base CX k f fd ps sp' :=
 ⟨λvs H Q E h=>F.len vs H Q E (m vs H Q E h),λA outer s H args us vs Q E hr he hb hv hs=>F.run A outer s H args us vs Q E hr he hb hv (m vs H Q E hs)⟩
inductive rD(H:Hp)(v:V)(s:bT):Prop
 |mk (p:_) (_:v=.ref p) (_:H p= ~~~(s.vs))
def rD.same{H H':Hp}{v:V}{s:bT}(e:aL H H')(h:rD H v s):rD H' v s:=by
 let⟨p,rfl,h⟩:=h;show⟨p,Z,e _ _ h⟩
def rD.v{K:aJ}{H:Hp}{v:V}{s:bT}(h:rD H v s):uM K H v s:=by
 let⟨p,rfl,h⟩:=h;show⟨p,Z,cJ.of h⟩
def Ft(B:Bl mg)(lD:Dn K mg "_law_at" jN xG):⋯ 1 lD.f lD.fd xG (a6F K):=by
 show lD.F.ok zP λd7 A outer s H vs Q E hr h=>?_;let⟨a,ns,k,rfl,hS,h63,k0,k1,q⟩:=h;let hA:=hS.seq;show⟨_,(aD (cM (aN Ae (pv 1) (aU (bR (K:=K) Z) Z B.len () (O (pv 0) aj)))
   (aF (bH (aP (bf (K:=K) Z) (pv 0) (pv 1))))
   bA)
   (aD (aX 2 zP.nd aq)
   (jw (cM (aN uY (aU (bR (K:=K) Z) Z B.len () (O (pv 0) aj)) aq)
   (aF (aX 2 zP.nd (bh jG (aP (bf (K:=K) Z) (pv 0) (bh jG (bh cX (bh vN (pv 1) aq) aq) (aU (bR (K:=K) Z) Z B.len () (O (pv 0) aj)))) aq)))
   bA)
   (aF (bH (bh jG (bh vN (bh cX (bh cX (pv 2) (bh vN aq (pv 1))) aq) (bh cX (bh cX (bh vN (pv 2) aq) (bh vN (pv 1) (pv 1))) aq)) aq)))))),?_⟩
 let hl:(ns.map V.int).length=ns.length:=aH _;show⟨_,Z,_,Z,a,_,Z,.inl hA,_,_,Z,Z,_,Z,?_⟩;unfold atF at q;show nC (λc=>?_) (λc=>?_)
 ·let c':k<(((ns.map V.int).length:Nat):Int):=dw c;rw[hl]at c';rw[aB c']at q;show⟨_,Z,_,Z,a,_,_,_,Z,Z,hA,Gf k0 c',q⟩
 let c':¬k<(ns.length:Int):=λz=>c (aV (by rw[hl];show z));rw[aA c']at q;let bb : -(2^32)<Fq ns k/\Fq ns k<2^32:=by
  unfold Fq;split
  ·let e0:=oV (ns.getD ((k*33+5)%(ns.length:Int)).toNat 0) (show(999623:Int)≠0 by decide);let e1:=qK (ns.getD ((k*33+5)%(ns.length:Int)).toNat 0) (show(0:Int)<999623 by decide);omega
  ·decide
 show⟨λσ' H'=>σ'=[⇑a,some (.int k),some (.int (Fq ns k))]/\H'=H,?_,?_⟩
 ·show⟨_,Z,a,_,Z,.inl hA,_,_,Z,Z,_,Z,?_⟩;unfold Fq;show nC (λc2=>?_) (λc2=>?_)
  ·let c2':(0:Int)<(((ns.map V.int).length:Nat):Int):=dw c2;rw[hl]at c2';let m0:=oV (k*33+5) (show(ns.length:Int)≠0 by omega);let m1:=qK (k*33+5) c2';show⟨_,Z,_,Z,_,_,Z,Z,.inr ⟨(),()⟩,_,_,Z,Z,_,Z,a,_,Z,.inl hA,_,_,Z,Z,(by rw[hl];show c2'),a,_,_,_,Z,Z,hA,(by rw[hl];show Gf m0 m1),_,_,Z,Z,(show(0:Int)<_ by decide),?_⟩;rw[aB (show 0<ns.length by omega)];show⟨Z,Z⟩
  ·rw[aA λz:0<ns.length=>c2 (aV (show(0:Int)<(((ns.map V.int).length:Nat):Int) by rw[hl];omega))];show⟨Z,Z⟩
 rintro σ' H' ⟨rfl,rfl⟩;generalize Fq ns k=b at bb q ⊢;let⟨b0,b1⟩:=bb;show⟨_,Z,_,Z,_,_,Z,Z,.inl ⟨(),()⟩,_,_,Z,Z,_,_,Z,Z,_,Z,_,_,Z,Z,.inr ⟨(),()⟩,_,Z,_,Z,_,_,Z,Z,.inl ⟨(),()⟩,_,_,Z,Z,_,_,Z,Z,_,_,Z,Z,.inl ⟨(),()⟩,_,_,Z,Z,(show(0:Int)<_ by decide),q⟩
def zQ(B:Bl mg)(lD:Dn K mg "_law_at" jN xG):⋯ 1 lD.f lD.fd xG (a8h K) :=
 _root_.K.bF.sub (Ft B lD) λvs H Q E h=>by
  let⟨a,ns,k,e,h1,h2,h3,h4,q⟩:=h;show⟨a,ns,k,e,h1,h2,h3,h4,q _⟩
abbrev uo:Stmt:=top 43
def gn:bN ["_law_script","_law_n","_law_most","_law_keys","_law_left","_law_many","_law_rows_here","_law_k","_law_up","_law_bag","_law_fresh"] XR (aG uo):={}
inductive ť(K:aJ)(vs:af)(H:Hp)(Q:VK)(u_3:XK):Prop
 |mk (a:Addr) (ns:ae) (n most:Nat) (_:vs=[.ref a,.int n,.int most]) (_:Vz K H a ns) (_:ns.length<=63) (_:n<=10) (_:1<=most) (_:most<=10) (_:∀l xs rs H',aL H H'->H l=none->H' l=↥xs->Paired (HS l H') xs rs->Rw n most rs []->rs.length<=20->Q (.ref l) H')
inductive RowW(K:aJ)(a l pl:Addr)(v3:Option V)(n most many:Nat)(H:Hp)(m:Nat)(σ:St)(H':Hp):Prop
 |mk (xs:af) (rs:ba) (us:ae) (v7 v8 v9 v10:Option V) (_:σ=[⇑a,some (.int n),some (.int most),v3,⇑pl,some (.int many),⇑l,v7,v8,v9,v10]) (_:aL H H') (_:H' l=↥xs) (_:H' pl=↥(us.map V.int)) (_:Paired (RwX [l,pl] H') xs rs) (_:Rw n most rs us) (_:m=(many-rs.length)+us.length) (_:rs.length<=many+(n-us.length)) (_:us.length<=n)
def Z2(xs:af)(k:Nat):uH xs none (some (k:Int))=xs.take k:=by
 unfold uH;let e1:HT.j6 xs.length xs.length (some (k:Int))=min k xs.length:=HT.Oe _ _ k;let e2:HT.j6 xs.length 0 none=0:=rfl;grind
def a1B{l:ay}{n:Nat}(h:l.Perm (List.range n)):(l.map λi=>((i:Nat):Int)).Perm (rng n):=h.map _
def a6G{B0 H1:Hp}{n:Nat}{ix:List (Option Nat)}{te:TE}{j:Nat}(dJ:n<=10)(s0:aL B0 H1)
  (hs:∀(i:Nat) (G:Hp) (R:VK),i<n->aL B0 G->(∀z p G',iG G p (.tup [.int z,.int (0+(i:Int))]) G'->R (.ref p) G')->te ((pG ix σ).set j (some (.int (0+(i:Int))))) G R)
  (hd:∀(ps:aI) (zs:ae) (G:Hp),ps.length=n->aL B0 G->(∀k p,ps[k]?=some p->G p= ~~~[.int (zs.getD k 0),.int (k:Int)])->∀pk,G pk=none->Q (.ref pk) (cU G pk (.lst (ps.map V.ref)))):j7 ix (yJ j) ă te σ H1 Q (SJ 0 n):=by
 show u6 (λi ys G=>∃(ps:aI) (zs:ae),ys=ps.map V.ref/\ps.length=i/\zs.length=i/\aL B0 G/\∀k p,ps[k]?=some p->G p= ~~~[.int (zs.getD k 0),.int (k:Int)]) ⟨[],[],Z,Z,Z,s0,λk p h=>by cases h⟩ (λi ys G hi ⟨ps,zs,e,l,_⟩=>?_) (λi ys G hi ⟨ps,zs,e,l,lz,s1,hp⟩=>?_) ?_
 ·rw[e,aH,l];show eY (cL ())
 ·show hs i G _ hi s1 λz p2 H2 nz=>⟨ps++[p2],zs++[z],by rw[e,cW];rfl,by rw[cu,l];rfl,by rw[cu,lz];rfl,s1.trans nz.same,λk p hk=>?_⟩;by_cases c:k<ps.length
  ·rw[yP c]at hk;rw[fY,yP (),<-fY];show nz.same _ _ (hp k p hk)
  ·let k1:=(eG.mp hk).1;rw[cu]at k1;let ek:k=i:=by
    let:k<ps.length+1:=k1;omega
   subst ek;rw[wM (),l,zf]at hk;cases hk;rw[fY,wM (),lz,zf];let:=nz.here;rw[show(0+(k:Int))=(k:Int) by omega]at this;show this
 rintro ys G ⟨ps,zs,rfl,l,lz,s1,hp⟩ pk hpk;show hd ps zs G l s1 hp pk hpk
def a6H{H2:Hp}{pk:Addr}{ps:aI}{n:Nat}{R:VK}(dJ:n<=10)(l:ps.length=n)(h2:H2 pk=↥(ps.map V.ref))(hp:∀k p,ps[k]?=some p->H2 p= ~~~[.int (zs.getD k 0),.int (k:Int)])
  (hd:∀(qq:ay) p3 H3,qq.Perm (List.range n)->iG H2 p3 (.lst (qq.map λi=>(ps.map V.ref).getD i V.non)) H3->R (.ref p3) H3):đ K [.ref pk] H2 R:=by
 show⟨pk,ps.map V.ref,(List.range n).map λk=>[zs.getD k 0,(k:Int)],Z,bD.of h2,?_,λns h=>?_,by rw[aH];omega,λqq p3 H3 pq _ n3=>hd qq p3 H3 (by rw[aH,l]at pq;show pq) n3⟩
 ·let all:∀(m:Nat),m<=n->Paired (a3s K H2) ((ps.take m).map V.ref) ((List.range m).map λk=>[zs.getD k 0,(k:Int)]):=λm=>by
   induction m with
   |zero=>intro _;show .nil
   |succ m ih =>
    intro hm;let hml:m<ps.length:=()
    rw[yO hml,cW,rU,cW];show eX (ih ()) ⟨ps[m],Z,cJ.of (hp m _ (bI hml))⟩
  let:=all n (aK _);rw[Cp ()]at this;show this
 ·let⟨k,_,rfl⟩:=fH.mp h;show λz=>by cases z
def a6I{H3:Hp}{p3:Addr}{ps:aI}{n:Nat}{qq:ay}(dJ:n<=10)(l:ps.length=n)(pq:qq.Perm (List.range n))(h3:H3 p3=↥(qq.map λi=>(ps.map V.ref).getD i V.non))(hp:∀k p,ps[k]?=some p->H3 p= ~~~[.int (zs.getD k 0),.int (k:Int)])
  (hd:∀p5 H5,iG H3 p5 (.lst ((qq.map λi=>((i:Nat):Int)).map V.int)) H5->Q (.ref p5) H5):j7 [none,none] (a2O K 2 (ë (yJ 0) (ë (yJ 1) a4Z))) ă (Vb 1) σ H3 Q (Ê K p3):=by
 let lq:qq.length=n:=by rw[pq.length_eq,oU]
 show tV (K:=K) (a:=p3) (xs:=qq.map λi=>(ps.map V.ref).getD i V.non) (λi ys G=>ys=((qq.take i).map λi=>((i:Nat):Int)).map V.int/\G=H3) ⟨Z,Z⟩ (λi ys G hi ⟨e,s⟩=>⟨by rw[s];show bD.of h3,?_⟩) (λi x ys G hx ⟨e,s⟩=>?_) (λys G ⟨e,s⟩ p5 hp5=>?_)
 ·rw[e,aH,aH,dY];show eY (cL ())
 ·subst s;rw[cH]at hx;let⟨k,hk,rfl⟩:=jP.mp hx;let kn:k<n:=gA.mp (pq.mem_iff.mp (gF hk));let kl:k<ps.length:=()
  let ex:(ps.map V.ref).getD k V.non=V.ref ps[k]:=by rw[fY,cH,bI kl];rfl
  rw[ex];show⟨ps[k],_,Z,cJ.of (hp k _ (bI kl)),Z,_,_,Z,_,_,Z,Z,_,Z,?_,Z⟩;let⟨hil,hik⟩:=eG.mp hk;rw[e,yO hil,hik,cW,cW];rfl
 ·subst s;rw[aH,gw]at e;rw[e];show hd p5 _ (iG.nD hp5)
def a4r{many r u:Nat}(h:r<many\/(many<=r/\0<u))(c3:0<u->1<=c):(many-(r+1))+(u-c)<(many-r)+u:=by
 rcases h with h|h
 ·show Nat.add_lt_add_of_lt_of_le (Nat.sub_lt_sub_left h (wU r)) (Nat.sub_le u c)
 ·show Nat.add_lt_add_of_le_of_lt (Nat.sub_le_sub_left (vL r) many) (Nat.sub_lt h.2 (c3 h.2))
def a4s{many r u n:Nat}(h:r<many\/(many<=r/\0<u))(c3:0<u->1<=c)(b1:r<=many+(n-u))(b2:u<=n):r+1<=many+(n-(u-c)):=by
 rcases h with h|h
 ·show cG h (Hg _ _)
 ·let s:=Nat.sub_lt h.2 (c3 h.2);show cG (Nat.succ_le_succ b1) (Nat.add_lt_add_left (Nat.sub_lt_sub_left (jd s b2) s) many)
def orQ{a b:TT}{H:Hp}{Q:Bool->Hp->Prop}{c1 c2:Bool}(h1:∀Q:Bool->Hp->Prop,Q c1 H->a σ H Q)(h2:∀Q:Bool->Hp->Prop,Q c2 H->b σ H Q)(h:Q (c1||c2) H):tOr a b σ H Q:=by
 show h1 _ ?_;cases c1 with
 |false=>show dB (h2 _ h)
 |true=>show iQ h
def PK(B:Bl mg)(lD:Dn K mg "_law_at" jN xG)(dZ7:Dn K mg "_law_rows" uo XR):⋯ 2 dZ7.f dZ7.fd XR (ť K):=by
 let Qg:⋯ 1 _ _ _ _:=zQ B lD;show dZ7.F.ok gn λd7 A outer s H vs Q E hr h=>?_;let⟨a,ns,n,most,rfl,hS,h63,dJ,m1,m10,q⟩:=h;show⟨_,(aD (aX 3 gn.nd (aU (Ax (K:=K) Z) Z B.sorted () (O (lU XS [none,some 0]  (by kernel_rfl) Z (iV Z B.range (O (pv 1) aj)) (λ_ _ _ _ _=>(aM 0 (show(XS:ag).Nodup by decide))) (λ_ _ _ _ _=>gj) λ_ _ _ _ _=>(bL (O (bh jG (bx Qg hr Z lD.m lD.F.kp lD.b .nil bZ (O (pv 1) (O (bh cX aq (pv 0)) aj))) aq) (O (pv 0) aj)))) aj)))
   (aD (aX 4 gn.nd (lU ["_law_key","_law_v"] [none,none]  (by kernel_rfl) Z (eE (K:=K) Z (pv 3)) (λ_ _ _ _ _=>(jr (K:=K) (n:=2) Z Z (bQ (aM 0 (show(["_law_key","_law_v"]:ag).Nodup by decide)) (bQ (aM 1 (show(["_law_key","_law_v"]:ag).Nodup by decide)) iD)))) (λ_ _ _ _ _=>gj) λ_ _ _ _ _=>(pv 1)))
   (aD (aX 5 gn.nd (bh cX aq (bh jG (bx Qg hr Z lD.m lD.F.kp lD.b .nil bZ (O (pv 0) (O aq aj))) aq)))
   (aD (aX 6 gn.nd (cF (O (bL (O nM (O (lU ["_law_k","_law_left"] [none,some 4]  (by kernel_rfl) Z (iV Z B.range (O (aU (Ku Z) Z B.min () (O (aU (bR (K:=K) Z) Z B.len () (O (pv 4) aj)) (O (bh cX aq (bh jG (bx Qg hr Z lD.m lD.F.kp lD.b .nil bZ (O (pv 0) (O aq aj))) (pv 2))) aj))) aj)) (λ_ _ _ _ _=>(aM 0 (show(["_law_k","_law_left"]:ag).Nodup by decide))) (λ_ _ _ _ _=>gj) λ_ _ _ _ _=>(nP (K:=K) Z jc TY T7 Gk (pv 1))) aj))) aj)))
   (aD (ì gH (PW.pt (Ac (aN Ae (aU (bR (K:=K) Z) Z B.len () (O (pv 6) aj)) (pv 5)) (zp (aN uY (aU (bR (K:=K) Z) Z B.len () (O (pv 4) aj)) aq))))
   (aD (aX 7 gn.nd (aU (bR (K:=K) Z) Z B.len () (O (pv 6) aj)))
   (aD (aX 8 gn.nd (bh jG (bx Qg hr Z lD.m lD.F.kp lD.b .nil bZ (O (pv 0) (O (bh cX aq (pv 7)) aj))) (pv 7)))
   (aD (sJ (i:=9) ["_law_v","_law_script","_law_k"] [none,some 0,some 7] gn.nd Z Z (by kernel_rfl) Z (eE (K:=K) Z (aP (aO (K:=K) Z) (aP (bf (K:=K) Z) (pv 6) (pv 8)) aq)) (λ_ _ _ _ _=>(aM 0 (show(["_law_v","_law_script","_law_k"]:ag).Nodup by decide))) (λ_ _ _ _ _=>(tU (aN uY (bh jG (bx Qg hr Z lD.m lD.F.kp lD.b .nil bZ (O (pv 1) (O (bh cX (bh cX aq (bh vN aq (pv 2))) (pv 0)) aj))) aq) aq))) (λ_ _ _ _ _=>(pv 0)) (by rfl))
   (jw (cM (aN uY (aU (bR (K:=K) Z) Z B.len () (O (pv 4) aj)) aq)
   (aF (aX 9 gn.nd (fj (w6 (K:=K) Z) (pv 9) fZ (gb (bh Hw (pv 2) aq)))))
   bA)
   (aD (aX 10 gn.nd (aU (Ku Z) Z B.min () (O (aU (bR (K:=K) Z) Z B.len () (O (pv 4) aj)) (O (bh cX aq (bh jG (bx Qg hr Z lD.m lD.F.kp lD.b .nil bZ (O (pv 0) (O (bh cX aq (pv 7)) aj))) (aU (YD Z) Z B.max () (O aq (O (bh Hw (pv 2) (aU (bR (K:=K) Z) Z B.len () (O (pv 9) aj))) aj))))) aj))))
   (aF (fL (iR (K:=K) Z jc PySem.F.slot_list_append PySem.F.type_list_append fC (pv 6) (O (bL (O (pv 8) (O (bh mJ (pv 9) (lU ["_law_j","_law_left"] [none,some 4]  (by kernel_rfl) Z (iV Z B.range (O (pv 10) aj)) (λ_ _ _ _ _=>(aM 0 (show(["_law_j","_law_left"]:ag).Nodup by decide))) (λ_ _ _ _ _=>gj) λ_ _ _ _ _=>(nP (K:=K) Z PySem.F.plainAttrs_list PySem.F.slot_list_pop PySem.F.type_list_pop Gk (pv 1)))) aj))) aj))))))))))
   (aF (bH (pv 6)))))))),?_⟩
 show⟨_,Z,_,Z,(),(),?_⟩;rw[ig];show a6G dJ (aL.refl H) (λi G R hi s1 hR=>⟨_,Z,_,Z,_,_,Z,Z,a,ns,_,Z,hS.same s1,h63,(),(),λz=>⟨_,_,Z,Z,(show(0:Int)<_ by decide),_,Z,(),λp2 H2 n2=>hR _ p2 H2 n2⟩⟩) λps zs H1 l s1 hp pk hpk=>?_;let n2:=iG.nD (H:=H1) (p:=pk) (o:=.lst (ps.map V.ref)) hpk;generalize cU H1 pk (.lst (ps.map V.ref))=H2 at n2 ⊢;show a6H (zs:=zs) dJ l n2.here (λk p h=>n2.same _ _ (hp k p h)) λqq p3 H3 pq' n3=>?_;let s3:aL H H3:=s1.trans (n2.same.trans n3.same);show⟨_,Z,p3,Z,⟨_,bD.of n3.here⟩,a6I (zs:=zs) dJ l pq' n3.here (λk p h=>(n2.same.trans n3.same) _ _ (hp k p h)) λp5 H5 n5=>?_⟩;let s5:=s3.trans n5.same;let pu:(qq.map λi=>((i:Nat):Int)).Perm (rng n):=a1B pq';generalize (qq.map λi=>((i:Nat):Int))=us at n5 pu;let lu:us.length=n:=by rw[pu.length_eq,aH,oU]
 let h5:=n5.here;let f5:H p5=none:=s3.free n5.fresh;show⟨_,Z,a,ns,2,Z,hS.same s5,h63,(),(),λzm=>⟨_,_,Z,Z,(show(0:Int)<_ by decide),_,_,Z,Z,?_⟩⟩;let y0:=oV zm (show(4:Int)≠0 by decide);let y1:=qK zm (show(0:Int)<4 by decide);obtain⟨many,em⟩:∃k:Nat,2+zm%4=(k:Int):=⟨(2+zm%4).toNat,()⟩;lk;rw[em];show⟨_,Z,p5,_,Z,.inl (bD.of h5),_,Z,a,ns,3,Z,hS.same s5,h63,(),(),λz3=>?_⟩;let w0:=oV z3 (show(most:Int)≠0 by omega);let w1:=qK z3 (show(0:Int)<(most:Int) by omega);show⟨_,Z,_,_,Z,Z,(show(0:Int)<(most:Int) by omega),_,_,Z,Z,_,_,Z,?_⟩;obtain⟨c,ec,c1,c2⟩:∃c:Nat,(if 1+z3%(most:Int)<(((us.map V.int).length:Nat):Int)then 1+z3%(most:Int)else(((us.map V.int).length:Nat):Int))=(c:Int)/\c<=most/\c<=us.length:=by
  rw[aH];split
  ·show⟨(1+z3%(most:Int)).toNat,(),(),()⟩
  ·show⟨us.length,Z,(),aK _⟩
 rw[ec];show⟨_,Z,(),(),?_⟩;rw[ig];show Yr h5 c2 () (λi H' xs y N Z98 h q=>⟨_,Z,.inl ⟨Z,_,bD.of h⟩,p5,xs,y,Z,Z,h,q⟩) (λH9 p9 H10 c9 dJ=>?_);show⟨(),λp11 H11 Cj=>⟨(),λpr H12 n12=>?_⟩⟩;let a8i:H12 p5=↥((us.take (us.length-c)).map V.int):=n12.same _ _ (Cj.same _ _ (dJ.same _ _ c9.here));let a6J:p5≠pr:=λz=>by let:=n12.fresh;rw[<-z,Cj.same _ _ (dJ.same _ _ c9.here)]at this;cases this
 let s12:aL H H12:=(s5.chg f5 c9).trans (dJ.same.trans (Cj.same.trans n12.same));let f8:H pr=none:=(s5.chg f5 c9).free (dJ.same.free (Cj.same.free n12.fresh));let ne9:p9∉[pr,p5]:=λhm=>by
  rcases bO.mp hm with hm|hm
  ·let:=n12.fresh;rw[<-hm,Cj.same _ _ dJ.here]at this;cases this
  ·let:=dJ.fresh;rw[bK.mp hm,c9.here]at this;cases this
 let W0:=a8g (most:=most) (c:=c) pu c1 (Nv _);let lt:(us.take (us.length-c)).length=us.length-c:=by rw[dY];omega
 show⟨RowW K a pr p5 ⇑p3 n most many H,⟨_,[.ref p11],[(none,(us.drop (us.length-c)).reverse)],_,none,none,none,none,Z,s12,n12.here,a8i,.cons ⟨p11,p9,Z,n12.same _ _ Cj.here,n12.same _ _ (Cj.same _ _ dJ.here),ne9,?_⟩ .nil,W0,Z,?_,?_⟩,?_⟩
 ·show((us.drop (us.length-c)).reverse).length<=1000;rw[Cy,iK];omega
 ·show 1<=_;omega
 ·rw[lt];omega
 rintro m σ H1 ⟨xs,rs,us,v7,v8,v9,v10,rfl,s1,hl,hpl,hpr,W,em',b1,b2⟩;let lx:xs.length=rs.length:=aW hpr;let hS1:=hS.same s1;let r1:=W.T.pos;show orQ (c1:=decide (((xs.length:Nat):Int)<(many:Int))) (c2:=decide ((((us.map V.int).length:Nat):Int)>0)) (λQ h=>⟨_,Z,pr,_,Z,.inl (bD.of hl),_,Z,_,_,Z,Z,_,Z,h⟩) (λQ h=>⟨_,Z,p5,_,Z,.inl (bD.of hpl),_,_,Z,Z,_,Z,h⟩) (nC (λc=>?_) λc=>?_)
 rotate_left
 ·let cd:¬((xs.length:Nat):Int)<(many:Int)/\¬(((us.map V.int).length:Nat):Int)>0:=by simpa using c
  rw[aH]at cd;let e0:us=[]:=List.eq_nil_of_length_eq_zero ();rw[e0]at W;show⟨_,Z,q pr xs rs H1 s1 f8 hl (Paired.cA hpr λ_ _ h=>h.l aZ) W ()⟩
 all_goals
  let hc:rs.length<many\/(many<=rs.length/\0<us.length):=by
   let cd:((xs.length:Nat):Int)<(many:Int)\/(((us.map V.int).length:Nat):Int)>0:=by
    rcases Bool.or_eq_true_iff.mp c with z|z
    ·show .inl (dw z)
    ·show .inr (dw z)
   rw[aH]at cd;omega
  let r14:rs.length<=15:=by clear hc;omega
  show⟨λσ' H'=>∃m',m'<m/\RowW K a pr p5 ⇑p3 n most many H m' σ' H',λ_ _ h=>h,⟨_,Z,pr,_,Z,.inl (bD.of hl),?_⟩⟩;rw[lx];show⟨_,Z,_,Z,_,_,Z,Z,a,ns,_,Z,hS1,h63,(),(),λz=>?_⟩;let u0:=oV z (show((rs.length:Nat):Int)≠0 by omega);let u1:=qK z (show(0:Int)<((rs.length:Nat):Int) by omega);show⟨_,Z,_,_,Z,Z,(show(0:Int)<((rs.length:Nat):Int) by omega),?_⟩;obtain⟨f,ef⟩:∃f:Nat,z%((rs.length:Nat):Int)=(f:Int):=⟨(z%((rs.length:Nat):Int)).toNat,()⟩;lk;rw[ef];let fl:f<rs.length:=()
  let⟨v,hx,⟨pt,bb,rfl,hT,hbb,hbl,_⟩⟩:=cO hpr (sO fl);let lf:(rowAt rs f).2.length<=most:=W.few f;show⟨_,Z,_,Z,pr,_,_,_,Z,Z,bD.of hl,bW hx,pt,_,_,_,Z,Z,cJ.of hT,Z,bb,Z,⟨_,bD.of hbb⟩,tV (K:=K) (a:=bb) (xs:=(rowAt rs f).2.map V.int) (λi ys H'=>∃ks:ae,ys=ks.map V.int/\List.Sublist ks ((rowAt rs f).2.take i)/\aL H1 H') ⟨[],Z,List.nil_sublist _,aL.refl _⟩ (λi ys H' hi ⟨ks,e,sb,s⟩=>⟨bD.of (s _ _ hbb),?_⟩) (λi x ys H2 hx ⟨ks,e,sb,s2⟩=>?_) λys H2 ⟨ks,e,sb,s2⟩ p3' hp3=>?_⟩
  ·let:=sb.length_le;rw[dY]at this;rw[e,aH];show eY (cL ())
  ·rw[cH]at hx;let⟨u,hu,rfl⟩:=jP.mp hx;let et:(rowAt rs f).2.take (i+1)=(rowAt rs f).2.take i++[u]:=by rw[iz,hu];rfl
   let ub:=W.T.lt f u (gF hu);show⟨_,Z,_,Z,_,_,Z,Z,.inl ⟨(),()⟩,_,_,Z,Z,_,Z,_,_,Z,Z,a,ns,_,Z,hS1.same s2,h63,(),(),λz4=>⟨_,_,Z,Z,(show(0:Int)<_ by decide),_,_,Z,Z,_,Z,nC (λc4=>⟨_,Z,ks++[u],by rw[e,cW];rfl,by rw[et];show sb.append (List.Sublist.refl _),s2⟩) λc4=>⟨ks,e,by rw[et];show sb.trans (List.sublist_append_left _ _),s2⟩⟩⟩
  subst e;rw[aH,gw]at sb;let n3:iG H2 p3' (.lst (ks.map V.int)) (cU H2 p3' (.lst (ks.map V.int))):=iG.nD hp3;generalize cU H2 p3' (.lst (ks.map V.int))=H3 at n3 ⊢;let wK:=s2.trans n3.same;let lk:=sb.length_le;let hl3:=wK _ _ hl;let Ŏ:=wK _ _ hpl;let s03:=s1.trans wK;show Bq (P:=λσ' G=>∃(pb:Addr) (ks':ae),σ'=[⇑a,some (.int n),some (.int most),⇑p3,⇑p5,some (.int many),⇑pr,some (.int ((rs.length:Nat):Int)),some (.int (f:Int)),⇑pb,v10]/\aL H3 G/\G pb=↥(ks'.map V.int)/\H1 pb=none/\List.Sublist ks' ((rowAt rs f).2)/\ks'.length<=most/\(0<us.length->ks'.length+1<=most)) λJ1 ji ij=>⟨J1,?_,?_⟩
  ·show⟨_,Z,p5,_,Z,.inl (bD.of Ŏ),_,_,Z,Z,_,Z,nC (λe=>?_) λe=>?_⟩
   ·show⟨_,Z,_,Z,_,_,Z,Z,_,Z,p3',_,Z,bD.of n3.here,λpb H4 n4=>?_⟩;let e1:(most:Int)-1=((most-1:Nat):Int):=()
    rw[e1,Z2,<-U9]at n4;show ji _ _ ⟨pb,ks.take (most-1),Z,n4.same,n4.here,wK.free n4.fresh,(MP (most-1) ks).trans sb,by rw[dY];omega,λ_=>by rw[dY];omega⟩
   ·show ji _ _ ⟨p3',ks,Z,.refl _,n3.here,s2.free n3.fresh,sb,cG sb.length_le lf,λh=>absurd (aV (show(((us.map V.int).length:Nat):Int)>0 by rw[aH];omega)) e⟩
  intro σ' H4 h4;let⟨pb,ks,rfl,K8,hpb,fpb,sb,kle,km⟩:=ij _ _ h4;clear ij ji h4;let Ì:=wK.trans K8;let a4t:=Ì _ _ hpl;let hl4:=Ì _ _ hl;show⟨_,Z,p5,_,Z,.inl (bD.of a4t),_,Z,_,Z,_,_,Z,Z,a,ns,_,Z,hS1.same Ì,h63,(),(),λz5=>⟨_,Z,_,Z,pb,_,Z,.inl (bD.of hpb),_,_,Z,Z,_,_,Z,?_⟩⟩;obtain⟨Z98,eM,M1,M2⟩:∃Z98:Int,(if(most:Int)-(((ks.map V.int).length:Nat):Int)>1 then(most:Int)-(((ks.map V.int).length:Nat):Int)else 1)=Z98/\1<=Z98/\(0<us.length->Z98=(most:Int)-(ks.length:Int)):=by
   show⟨_,Z,?_⟩;rw[aH];split
   ·show⟨(),λ_=>rfl⟩
   ·show⟨Int.le_refl _,λh=>by let:=km h;omega⟩
  lk;rw[eM];clear eM;let t0:=oV z5 (show Z98≠0 by omega);let t1:=qK z5 (show(0:Int)<Z98 by omega);show⟨_,_,Z,Z,(show(0:Int)<Z98 by omega),_,_,Z,Z,_,_,Z,?_⟩;obtain⟨c,ec,c1,c2,c3⟩:∃c:Nat,(if 1+z5%Z98<(((us.map V.int).length:Nat):Int)then 1+z5%Z98 else(((us.map V.int).length:Nat):Int))=(c:Int)/\ks.length+c<=most/\c<=us.length/\(0<us.length->1<=c):=by
   rw[aH];split
   ·let u0':0<us.length:=()
    let:=M2 u0';show⟨(1+z5%Z98).toNat,(),(),(),λ_=>by omega⟩
   ·show⟨us.length,Z,?_,aK _,λh=>h⟩;by_cases c0:0<us.length
    ·let:=M2 c0;omega
    ·omega
  rw[ec];clear ec;show⟨_,Z,.inl ⟨Z,_,bD.of hl4⟩,_,Z,_,Z,_,Z,_,Z,(),(),?_⟩;rw[ig];show Yr a4t c2 () (λi H' xs y N Z98 h q=>⟨_,Z,.inl ⟨Z,_,bD.of h⟩,p5,xs,y,Z,Z,h,q⟩) (λH6 p7 H7 c6 n7=>?_);let nb5:pb≠p5:=λz=>by rw[z,hpl]at fpb;cases fpb
  let nl5:pr≠p5:=a6J.symm;let hb7:=n7.same _ _ ((c6.rest pb nb5).trans hpb);show⟨pb,p7,_,_,Z,Z,hb7,n7.here,(by rw[aH,aH,Cy,iK];omega),λp8 H8 n8'=>?_⟩;rw[<-cW]at n8';let hl8:=n8'.same _ _ (n7.same _ _ ((c6.rest pr nl5).trans hl4));let hp8:=n8'.same _ _ (n7.same _ _ c6.here);show⟨(),λp10 H10 wG=>?_⟩;let a4u:=wG.same _ _ hl8;let a8j:=wG.same _ _ hp8;show⟨pr,_,_,Z,Z,a4u,(by rw[lx];show GR r14 ()),λH11 c11=>?_⟩;let lks:=sb.length_le;let W2:=a4q (c:=c) W fl sb () (Nv _);let lt2:(us.take (us.length-c)).length=us.length-c:=by rw[dY];omega
  let s8':aL H6 H10:=n7.same.trans (n8'.same.trans wG.same);let x8:p8∉[pr,p5]:=λhm=>by
   let f:=n8'.fresh;rcases bO.mp hm with hm|hm
   ·rw[hm,n7.same _ _ ((c6.rest pr nl5).trans hl4)]at f;cases f
   ·rw[bK.mp hm,n7.same _ _ c6.here]at f;cases f
  show⟨_,?_,xs++[.ref p10],rs++[(some (f:Int),ks++(us.drop (us.length-c)).reverse)],us.take (us.length-c),_,_,_,_,Z,(((s1.trans Ì).chg f5 c6).trans s8').chg f8 c11,c11.here,(c11.rest p5 a6J).trans a8j,?_,W2,Z,?_,?_⟩
  ·rw[em',cu,yR,lt2];show a4r hc c3
  ·show eX (Paired.cA hpr λv t q=>(((q.same Ì).chg a4t c6 (bJ _ aZ)).same s8').chg a4u c11 aZ) (RwX.chg a4u c11 aZ ⟨p10,p8,Z,wG.here,wG.same _ _ n8'.here,x8,?_⟩);show(ks++(us.drop (us.length-c)).reverse).length<=1000;rw[cu,Cy,iK];omega
  ·rw[cu,yR,lt2];show a4s hc c3 b1 b2
  ·rw[lt2];omega
def Ŧ(s t:Int×Int):Prop:=s.1<t.1\/(s.1=t.1/\s.2<t.2)
structure Web(n:Int)(ts:ar):Prop where
 ok:∀t∈ts,0<=t.1/\t.1<t.2/\t.2<n
 up:ts.Pairwise Ŧ
def a6K [DecidableEq α] {l U:List α} (nd:l.Nodup) (h:∀x∈l,x∈U):l.length<=U.length:=by
 induction l generalizing U with
 |nil=>grind
 |cons a r ih =>
  let⟨n1,n2⟩:=je.mp nd;let am:=h a aZ;let:=ih (U:=U.erase a) n2 λx hx=>(T9 λe=>n1 ()).mpr (h x (bJ _ hx));grind
noncomputable def a4v:ar:=(List.range 10).flatMap λ(a:Nat)=>((List.range 10).filter λ(b:Nat)=>decide (a<b)).map λ(b:Nat)=>(((a:Nat):Int),((b:Nat):Int))
def Ŧ.asymm{s t:Int×Int}(h:Ŧ s t)(h':Ŧ t s):False:=by
 unfold Ŧ at h h';omega
def Web.nd{n:Int}{ts:ar}(h:Web n ts):ts.Nodup:=h.up.imp λl e=>by
 subst e;show l.asymm l
def Web.few{n:Nat}{ts:ar}(h:Web n ts)(dJ:n<=10):ts.length<=45:=by
 let:=a6K (U:=a4v) h.nd λt ht=>by
  let o:=h.ok t ht;unfold a4v;show List.mem_flatMap.mpr ⟨t.1.toNat,gA.mpr (),fH.mpr ⟨t.2.toNat,jT.mpr ⟨gA.mpr (),aV ()⟩,?_⟩⟩;grind
 let e:a4v.length=45:=()
 omega
abbrev qG:Stmt:=top 44
def lR:bN ["_law_script","_law_rows_here","_law_n","_law_share","_law_found","_law_a","_law_b","_law_together"] X3 (aG qG):={}
def PL(rs:ba)(t:Int×Int):Prop:=∃k,t.1∈dH rs k/\t.2∈dH rs k
inductive ŧ(K:aJ)(vs:af)(H:Hp)(Q:VK)(u_3:XK):Prop
 |mk (a l:Addr) (ns:ae) (ys:af) (rs:ba) (n:Nat) (_:vs=[.ref a,.ref l,.int n]) (_:Vz K H a ns) (_:ns.length<=63) (_:H l=↥ys) (_:Paired (HS l H) ys rs) (_:rs.length<=40) (_:n<=10) (_:∀r xs ts H',aL H H'->H r=none->H' r=↥xs->Paired (lZ H') xs ts->(∀t∈ts,0<=t.1/\t.1<t.2/\t.2<(n:Int))->ts.Nodup->(∀t∈ts,PL rs t)->ts.length<=45->Q (.ref r) H')
def zR{lo:Int}{n:Nat}{g:TG}{tb:TS}{D:Ends}{H:Hp}(Pv:Nat->St->Hp->Prop)(h0:Pv 0 σ H)
  (hs:∀(D':Ends) i σ H,i<n->Pv i σ H->(∀σ2 H2,Pv (i+1) σ2 H2->D'.nx σ2 H2)->D'.rt=D.rt->g (.int (lo+i)) σ H λσ2 H2=>tb D' σ2 H2) (hd:∀σ H,Pv n σ H->D.nx σ H) :
  ∃W:Nat->Nat->St->Hp->Prop,(∃m,W 0 m σ H)/\∀i m σ H,W i m σ H->
   ((SJ lo n).stop i H/\D.nx σ H)\/((SJ lo n).go i H/\∃N:St->Hp->Prop,(∀σ' H',N σ' H'->∃m',m'<m/\W (i+1) m' σ' H')/\∀x H',(SJ lo n).W9 i H x H'->g x σ H' λσ2 H2=>tb { D with nx:=N,ct:=N,bk:=D.nx} σ2 H2) :=
 uX Pv h0 (λi σ H hi p=>hs _ i σ H hi p (λ_ _ h=>h) Z) hd
def PN(B:Bl mg)(lD:Dn K mg "_law_at" jN xG)(Ũ:Dn K mg "_law_ties" qG X3):⋯ 2 Ũ.f Ũ.fd X3 (ŧ K):=by
 let Qg:⋯ 1 _ _ _ _:=zQ B lD;show Ũ.F.ok lR λd7 A outer s H vs Q E hr h=>?_;let⟨a,l,ns,ys,rs,n,rfl,hS,h63,hy,hpr,r40,hn,q⟩:=h;let hv:(A.deeper (PyProof.Rows.envOfC "_law_ties" (aG qG) s⁻¹ Ũ.f d7)).units+65<cLine:=by let:=hr.un;omega
 let ly:ys.length=rs.length:=aW hpr;show⟨_,(aD (aX 3 lR.nd (bh cX aq (bh jG (bx Qg hr Z lD.m lD.F.kp lD.b .nil bZ (O (pv 0) (O aq aj))) aq)))
   (aD (aX 4 lR.nd (cF aj))
   (aD (gQ gH Z (iV Z B.range (O (pv 2) aj)) (aM 5 lR.nd)
   (aF (gQ gH Z (CW Z B.range (O (bh cX (pv 5) aq) (O (pv 2) aj))) (aM 6 lR.nd)
   (aD (sJ (i:=7) ["_law_row","_law_a","_law_b"] [none,some 5,some 6] lR.nd Z Z (by kernel_rfl) Z (eE (K:=K) Z (pv 1)) (λ_ _ _ _ _=>(aM 0 (show(["_law_row","_law_a","_law_b"]:ag).Nodup by decide))) (λ_ _ _ _ _=>(tU (PW.pt (oZ (aN (yd (K:=K) Z hv) (pv 1) (aP (aO (K:=K) Z) (pv 0) aq) (by with_unfolding_all rfl)) (qg (aN (yd (K:=K) Z hv) (pv 2) (aP (aO (K:=K) Z) (pv 0) aq) (by with_unfolding_all rfl))))))) (λ_ _ _ _ _=>(pv 0)) (by rfl))
   (aF (cM (PW.pt (oZ (aN uY (aU (bR (K:=K) Z) Z B.len () (O (pv 7) aj)) aq) (qg (aN Ae (bh jG (bx Qg hr Z lD.m lD.F.kp lD.b .nil bZ (O (pv 0) (O (bh cX (bh cX aq (bh vN aq (pv 5))) (pv 6)) aj))) aq) (pv 3)))))
   (aF (fL (iR (K:=K) Z jc PySem.F.slot_list_append PySem.F.type_list_append fC (pv 4) (O (bL (O (pv 5) (O (pv 6) aj))) aj))))
   bA))))))
   (aF (bH (pv 4)))))),?_⟩
 show⟨_,Z,a,ns,4,Z,hS,h63,(),(),λz0=>⟨_,_,Z,Z,(show(0:Int)<_ by decide),_,_,Z,Z,?_⟩⟩;obtain⟨sh,esh⟩:∃sh:Int,sh=2+z0%3:=⟨_,Z⟩;lk;rw[<-esh];show⟨(),λr H0 nw=>?_⟩;show⟨_,Z,_,Z,(),(),?_⟩;rw[ig];show zR (n:=n) (λi σ H2=>∃(aa bb bo:Option V) (xs:af) (ts:ar),σ=[⇑a,⇑l,some (.int n),some (.int sh),⇑r,aa,bb,bo]/\aL H H2/\H2 r=↥xs/\Paired (lZ H2) xs ts/\ts.length<=10*i/\Web n ts/\(∀t∈ts,t.1<(i:Int))/\∀t∈ts,PL rs t)
  ⟨none,none,none,[],[],Z,nw.same,nw.here,.nil,dF _,⟨λt h=>absurd h dZ,.nil⟩,λt h=>absurd h dZ,λt h=>absurd h dZ⟩ ?_ ?_
 ·rintro D1 i σ H2 hi ⟨aa,bb,bo,xs,ts,rfl,sm,hr2,hp,hz,hw,hlt,bi⟩ dn1 _;show⟨_,Z,_,_,Z,Z,_,Z,_,_,Z,⟨(),(),(),()⟩,?_⟩;show zR (n:=_) (λj σ H3=>∃(bb bo:Option V) (xs:af) (ts:ar),σ=[⇑a,⇑l,some (.int n),some (.int sh),⇑r,some (.int (0+(i:Int))),bb,bo]/\aL H H3/\H3 r=↥xs/\Paired (lZ H3) xs ts/\ts.length<=10*i+j/\Web n ts/\(∀t∈ts,t.1<(i:Int)\/(t.1=(i:Int)/\t.2<(i:Int)+1+j))/\∀t∈ts,PL rs t)
   ⟨bb,bo,xs,ts,Z,sm,hr2,hp,(),hw,λt h=>.inl (hlt t h),bi⟩ ?_ ?_
  ·rintro D2 j σ H3 hj ⟨bb,bo,xs,ts,rfl,sm,hr3,hp,hz,hw,hlt,bi⟩ dn _;let jn:(j:Int)+(0+(i:Int)+1)<n:=()
   let hy3:=sm _ _ hy;generalize eav:(0+(i:Int))=av;generalize ebv:(av+1+(j:Int))=bv;show⟨_,Z,l,Z,⟨_,bD.of hy3⟩,ċ (λk=>if(decide (av∈dH rs k)&&decide (bv∈dH rs k))=true then ys[k]? else none) (bD.of hy3) () (λk x H4 N hk s4 hN=>?_) λH4 p4 H5 s4 n4=>?_⟩
   ·let kl:k<rs.length:=by rw[<-ly];show(eG.mp hk).1
    let⟨v,hx,⟨pp,b,rfl,hTk,hb,_⟩⟩:=cO hpr (sO kl);rw[hk]at hx;cases hx;let s04:=sm.trans s4;let hN':=hN H4 s4;rw[hk]at hN';show⟨_,Z,_,Z,pp,_,_,_,Z,Z,cJ.of (s04 _ _ hTk),Z,HN (bD.of (s04 _ _ hb)) ⟨_,Z,nC (λc=>?_) λc=>?_⟩⟩
    ·show⟨_,Z,_,Z,pp,_,_,_,Z,Z,cJ.of (s04 _ _ hTk),Z,HN (bD.of (s04 _ _ hb)) ⟨_,Z,nC (λd=>?_) λd=>?_⟩⟩
     ·rw[aB (by unfold dH;rw[c,d];rfl)]at hN';show⟨_,Z,hN'⟩
     ·rw[aA (by unfold dH;rw[wR.mpr d];simp)]at hN';show hN'
    ·show dB ?_;rw[aA (by unfold dH;rw[wR.mpr c];simp)]at hN';show hN'
   let s05:=sm.trans (s4.trans n4.same);let hr5:H5 r=↥xs:=(s4.trans n4.same) _ _ hr3;let hp5:=Paired.cA hp λv t q=>lZ.same (s4.trans n4.same) q;let lxs:xs.length=ts.length:=aW hp;let no:=λbv=>dn [some (V.ref a),⇑l,some (.int n),some (.int sh),⇑r,some (.int av),bv,⇑p4] H5 ⟨bv,⇑p4,xs,ts,by rw[eav],s05,hr5,hp5,(),hw,λt ht=>by let:=hlt t ht;omega,bi⟩;show⟨_,Z,p4,_,Z,.inl (bD.of n4.here),_,_,Z,Z,_,Z,nC (λc=>?_) λc=>no _⟩;let c':=dw c;show⟨_,Z,_,Z,_,_,Z,Z,.inl ⟨(),()⟩,_,_,Z,Z,_,Z,_,_,Z,Z,a,ns,_,Z,hS.same s05,h63,(),(),λz5=>⟨_,_,Z,Z,(show(0:Int)<_ by decide),_,Z,_,_,Z,Z,_,Z,nC (λd=>?_) λd=>no _⟩⟩;let hrow:PL rs (av,bv):=by
    let c3:0<((List.range ys.length).filterMap λk=>if(decide (av∈dH rs k)&&decide (bv∈dH rs k))=true then ys[k]? else none).length:=()
    let⟨x,hx⟩:=List.exists_mem_of_length_pos c3;let⟨k,_,e⟩:=Uh.mp hx;by_cases d2:(decide (av∈dH rs k)&&decide (bv∈dH rs k))=true
    ·rw[gq]at d2;show⟨k,dw d2.1,dw d2.2⟩
    ·rw[aA d2]at e;cases e
   show⟨_,Z,.inl ⟨Z,_,bD.of hr5⟩,_,Z,_,Z,(),λp6 H6 n6=>?_⟩;let h6:=n6.same _ _ hr5;show⟨r,_,_,Z,Z,h6,(),λH7 c7=>?_⟩;show dn _ _ ⟨some (.int bv),⇑p4,xs++[.ref p6],ts++[(av,bv)],by rw[eav];rfl,(s05.trans n6.same).chg nw.fresh c7,c7.here,?_,?_,⟨λt ht=>?_,?_⟩,λt ht=>?_,λt ht=>?_⟩
   ·show eX (Paired.cA hp5 λv t q=>(lZ.same n6.same q).chg h6 c7) (lZ.chg h6 c7 ⟨p6,Z,n6.here⟩)
   ·rw[cu];show ts.length+1<=_;omega
   ·rcases cV.mp ht with ht|ht
    ·show hw.ok t ht
    ·rw[bK.mp ht];show⟨by show 0<=av;omega,by show av<bv;omega,by show bv<n;omega⟩
   ·show Mx.mpr ⟨hw.up,ur _ _,λt ht u hu=>?_⟩;rw[bK.mp hu];show t.1<av\/(t.1=av/\t.2<bv);let:=hlt t ht;omega
   ·rcases cV.mp ht with ht|ht
    ·let:=hlt t ht;omega
    ·rw[bK.mp ht];show av<(i:Int)\/(av=(i:Int)/\bv<(i:Int)+1+((j+1:Nat):Int));omega
   ·rcases cV.mp ht with ht|ht
    ·show bi t ht
    ·rw[bK.mp ht];show hrow
  ·rintro σ H3 ⟨bb,bo,xs,ts,rfl,sm,hr3,hp,hz,hw,hlt,bi⟩;show dn1 _ _ ⟨_,bb,bo,xs,ts,Z,sm,hr3,hp,(),hw,λt ht=>by let:=hlt t ht;omega,bi⟩
 ·rintro σ H2 ⟨aa,bb,bo,xs,ts,rfl,sm,hr2,hp,hz,hw,hlt,bi⟩;let few:=hw.few hn;show⟨_,Z,q r xs ts H2 sm nw.fresh hr2 hp (λt ht=>hw.ok t ht) hw.nd bi ()⟩
end K
namespace K
open L2 Lw Bg
namespace Go
section
variable{n:Nat}{ts:ar}{ss:ax}
structure a1C(n:Nat)(ts:ar)(ss:ax):Prop where
 dJ:n<=10
 go:∀i,i<=ss.length->(aY n ts ss i).2=true
 sb:∀(k:Nat) (s:bT),ss[k]?=some s->StB n ts ss k s
 se:∀(k:Nat) (s:bT),ss[k]?=some s->StE n ts ss k s
 last:∀j∈(aY n ts ss ss.length).1.pile,gY n ts ss j=[]
 ties:∀t∈ts,bT.tie t.1 t.2∈ss
set_option tactic.hygienic true in
def a2w(dJ:n<=10)(wB:Br n ts ss (b8 n ts ss)=.ok):a1C n ts ss:=by
 let go:=Ŗ dJ wB;show⟨dJ,go,λk s h=>a1v (zN go dJ h),λk s h=>zN go dJ h,λj hj=>?_,λt ht=>?_⟩
 ·unfold Br at wB;split at wB
  ·cases wB
  ·split at wB
   ·rename_i e;let:gY n ts ss j∈Le (b8 n ts ss):=fH.mpr ⟨j,hj,Z⟩;grind
   ·cases wB
 ·unfold Br at wB;grind
end
end Go
namespace Up
def Gx(s:bT){i:Nat}(hi:i<5):decide (V.str s.word=V.str (Fe i))=decide (s.tag=i):=by
 let h:=Iw s.tag (Wg s) i hi;rw[Iz];grind
def a4w(s:bT):decide (V.str s.word=V.str "leaf")=decide (s.tag=0):=Gx s (i:=0) ()
def a8k(s:bT):decide (V.str s.word=V.str "in")=decide (s.tag=1):=Gx s (i:=1) ()
def a6L(s:bT):decide (V.str s.word=V.str "out")=decide (s.tag=3):=Gx s (i:=3) ()
def ũ(s:bT):decide (V.str s.word=V.str "join")=decide (s.tag=4):=Gx s (i:=4) ()
end Up
noncomputable def NI(j:Nat):V:=.int (j:Int)
end K
namespace L2
open PyProof.Rows
section
variable{X:Cx}
def a6M:af->Hp->VK->Prop:=λxs H Q=>∃a J,xs=[.ref a]/\H a=some (.dK J)/\Q (.int ((J.length:Nat):Int)) H
def Z4:jy X (.builtin "len") a6M:=by
 intro Y s σ H xs us Q I r h;let⟨a,J,rfl,e,q⟩:=h;let⟨u,rfl,rx⟩:=vals1 r;cases rx;show a5K I (.inl e) λt s' I'=>⟨.int _,H,I',⟨t,Z⟩,q⟩
end
section
variable{X:Cx}{K:aJ}
inductive a4x(K:aJ)(x:V)(y:V)(H:Hp)(Q:VK):Prop
 |mk (a b xs ys:_) (_:x=.ref a) (_:y=.ref b) (_:cJ K H a xs) (_:cJ K H b ys) (_:ys≠[]) (_:xs.length+ys.length<=1000) (_:∀p H',aL H H'->cJ K H' p (xs++ys)->Q (.ref p) H')
def Ū(e:X.K=K):qY X (binaryOp .Add) (a4x K):=by
 subst e;intro Y s σ H x y v u Q I rx ry h;let⟨a,b,xs,ys,rfl,rfl,ha,hb,ny,hz,q⟩:=h;by_cases c:xs=[]
 ·cases rx;cases ry;let⟨bY,r1,p1,_⟩:=I.tuple ha;let⟨its2,r2,p2,_⟩:=I.tuple hb;let⟨⟨cls,dd,data,sl⟩,ho,hc,n,hd⟩:=id p1;let⟨⟨cls2,dd2,data2,sl2⟩,ho2,hc2,n2,hd2⟩:=id p2;simp only at hc hd hc2 hd2;subst hc hd hc2 hd2;show NZ ⟨_,ho,Z⟩ ⟨_,ho2,Z⟩ M8 Ny Mt Mr (Mp _ _)
   (tuple_addW0 a b bY.toArray its2.toArray n n2 dd dd2 sl sl2 (by simp[r1.Ag.mpr c])) ⟨ho,ho2,⟨.ref b,H,I,Z,q b H (aL.refl _) (by rw[c];show hb)⟩⟩
 ·show ř Z Y s σ H _ _ v u Q I rx ry ⟨a,b,xs,ys,Z,Z,ha,hb,c,ny,hz,λp H' n=>q p H' n.same (cJ.of n.here)⟩
end
end L2
namespace K
open L2 Lw Bg
variable{K:aJ}{P:Program}{w:World}{mg:Str->Option Value}{base:Heap}{T:b7}{σ:St}
abbrev jO:Stmt:=top 48
def oE:bN ["_law_found","_law_size","_law_state","_law_row","_law_one"] Ra (aG jO):={}
def a2x:kitOne K (.type "tuple") (.type "tuple")=some true:=by rfl
def a6N:kitOne K (.type "dict") (.type "dict")=some true:=by rfl
inductive Wz(vs:af)(H:Hp)(Q:VK)(u_3:XK):Prop
 |mk (t:Addr) (m:Nat) (J:List (aS×V)) (T:b7) (_:vs=[.ref t,.int m]) (_:H t=some (.dT J)) (_:tO H J T) (_:(∀x∈T,x.1.length=m)) (_:m<=10) (_:T.length<=900) (_:∀H',aL H H'->Q (.bl true) H')
def JC(B:Bl mg)(Z5:Dn K mg "_law_formed" jO Ra):⋯ 1 Z5.f Z5.fd Ra Wz:=by
 show Z5.F.ok oE λd7 A outer s H vs Q E hr h=>?_;let⟨t,m,J,T,rfl,ht,hT,hm,m10,lT,q⟩:=h;let hw1:(A.deeper (PyProof.Rows.envOfC "_law_formed" (aG jO) s⁻¹ Z5.f d7)).units+1<cLine:=by let:=hr.un;omega
 show⟨_,(aD (cM (pB (dN (K:=K) Z (aU (iZ (K:=K) Z) Z B.isinstance () (O (pv 0) (O (tR (v:=.ty "dict") (u:=.type "dict") Z B.dict () Z) aj))) λ_=>rfl))
   (aF (bH yI))
   bA)
   (aD (vd (gQ gH Z (rK (nP (K:=K) Z rN Ck Cm rJ (pv 0))) (jr (K:=K) (n:=2) Z Z (bQ (aM 2 oE.nd) (bQ (aM 3 oE.nd) iD)))
   (aD (cM (PW.pt (Ac (pB (dN (K:=K) Z (aU (iZ (K:=K) Z) Z B.isinstance () (O (pv 2) (O (tR (v:=.ty "tuple") (u:=.type "tuple") Z B.tuple () Z) aj))) λ_=>rfl)) (Ac (aN Hx (aU (bR (K:=K) Z) Z B.len () (O (pv 2) aj)) (pv 1)) (Ac (pB (dN (K:=K) Z (aU (iZ (K:=K) Z) Z B.isinstance () (O (pv 3) (O (tR (v:=.ty "tuple") (u:=.type "tuple") Z B.tuple () Z) aj))) λ_=>rfl)) (zp (aN Hx (aU (bR (K:=K) Z) Z B.len () (O (pv 3) aj)) aq))))))
   (aF (bH yI))
   bA)
   (aF (gQ gH Z (Ar (K:=K) Z (bh (Ū (K:=K) Z) (pv 2) (pv 3))) (aM 4 oE.nd)
   (aF (cM (PW.pt (Ac (pB (dN (K:=K) Z (aU (iZ (K:=K) Z) Z B.isinstance () (O (pv 4) (O (tR (v:=.ty "int") (u:=.type "int") Z B.int () Z) aj))) λ_=>rfl)) (zp (dN (K:=K) Z (aU (iZ (K:=K) Z) Z B.isinstance () (O (pv 4) (O (tR (v:=.ty "bool") (u:=.type "bool") Z B.bool () Z) aj))) λ_=>rfl))))
   (aF (bH yI))
   bA)))))))
   (aF (bH yI)))),?_⟩
 show⟨_,Z,_,_,_,_,_,Z,Z,sE.dT ht,a6N,_,Z,dB ⟨_,Z,.inr (.inr (.inl ⟨Z,.inr ⟨_,ht⟩⟩)),t,J,Z,Z,ht,λpv H1 n1=>⟨pv,t,J,Z,n1.here,n1.same _ _ ht,λo as pk=>?_⟩⟩⟩;let h1t:=n1.same _ _ ht;let SQ:Nd H (cU H1 t (.gP o (.dT J))):=(Nd.of n1.same).trans (Nd.gP h1t);let SX:cU H1 t (.gP o (.dT J)) t=some (.gP o (.dT J)):=dG;let Yb:∀c,c≠t->cU H1 t (.gP o (.dT J)) c=H1 c:=λc hc=>aR hc;generalize cU H1 t (.gP o (.dT J))=G0 at pk SQ SX Yb ⊢;let lk:=aW hT;let la:=aW pk;show sU (λi σ G=>(T3 (λo2 o3 o4=>[⇑t,some (.int m),o2,o3,o4]) σ)/\aL G0 G) ⟨⟨_,_,_,Z⟩,aL.refl _⟩ (λi σ G _ h=>h.2 _ _ SX) ?_ ?_
 ·rintro i a0 v0 σ G p G1 ha0 hv0 ⟨⟨o2,o3,o4,rfl⟩,sG⟩ nw;let⟨kv,hkv,hak⟩:=bB pk ha0;let⟨⟨st,row⟩,hsx,ek,p2,ep2,hrow⟩:=bB hT hkv;let ek:kv.1=sX st:=ek;let hv0':v0=kv.2:=by
   rw[cH,hkv]at hv0;show(dI hv0).symm
  let ep2:kv.2=.ref p2:=ep2;rw[ep2]at hv0';subst hv0';rw[ek]at hak;let s1:=sG.trans nw.same;let hold:G1 a0= ~~~(st.map V.int):=s1 _ _ (oO.Iu hak);let yM:G1 p2= ~~~[.int row.m,.int row.b]:=s1 _ _ (SQ.tups _ _ hrow);let ls:st.length=m:=hm _ (gF hsx);show⟨p,_,Z,cJ.of nw.here,Z,_,_,Z,_,_,Z,Z,⟨_,Z,_,_,_,_,_,Z,Z,sE.tup hold,a2x,_,Z,dB ⟨_,Z,a0,_,Z,.inr (cJ.of hold),_,Z,Z,_,Z,?_⟩⟩⟩;rw[show(!decide (V.int (((st.map V.int).length:Nat):Int)=V.int (m:Int)))=false by grind];show dB ⟨_,Z,_,_,_,_,_,Z,Z,sE.tup yM,a2x,_,Z,dB ⟨_,Z,p2,_,Z,.inr (cJ.of yM),Z,_,Z,dB ?_⟩⟩;let lst:([.int row.m,.int row.b]:af)=[row.m,row.b].map V.int:=rfl;rw[lst]at yM;show⟨_,Z,_,Z,a0,p2,_,_,Z,Z,cJ.of hold,cJ.of yM,(λz=>by cases z),(by rw[aH];show _+2<=1000;omega),λp3 G2 s2 h3=>?_⟩;rw[<-cW]at h3;show⟨p3,Z,⟨_,h3⟩,?_⟩;show Xc (xs:=(st++[row.m,row.b]).map V.int) (λi σ H'=>(T1 (λo4=>[⇑t,some (.int m),⇑a0,⇑p2,o4]) σ)/\H'=G2) ⟨⟨_,Z⟩,Z⟩ (λi σ H' _ ⟨_,e⟩=>by rw[e];show h3) ?_ ?_
  ·rintro i x σ H' hx ⟨⟨o3,rfl⟩,rfl⟩;rw[cH]at hx;let⟨z,_,rfl⟩:=jP.mp hx;show⟨_,Z,_,_,_,_,_,Z,Z,sE.int _,Em,_,Z,dB ⟨_,Z,_,_,_,_,_,Z,Z,sE.int _,Aq,_,Z,dB ⟨⟨_,Z⟩,Z⟩⟩⟩
  ·rintro σ H' ⟨⟨o4,rfl⟩,rfl⟩;show⟨⟨_,_,_,Z⟩,s1.trans s2⟩
 ·rintro σ G ⟨⟨o2,o3,o4,rfl⟩,sG⟩;show⟨t,o,J,J,ht,sG _ _ SX,q _ λc u e=>?_⟩;by_cases z:c=t
  ·rw[z]at e ⊢;rw[dG,<-e,ht]
  ·rw[aR z];show sG c u ?_;rw[Yb c z];show n1.same _ _ e
namespace D1
noncomputable def iU:ae->ae->ae
 |N,[]=>N
 |N,x::r=>iU (if x∈N then N else N++[x]) r
def nmd(c:Int)(ls:ae):dW:=c::ls.map λx=>(((iU [0] ls).idxOf x:Nat):Int)
theorem JD{x:Int}:∀{ls N:ae},iU N (ls++[x])=if x∈iU N ls then iU N ls else iU N ls++[x]
 | [],_=>rfl
 |_::ls,_=>JD (ls:=ls)
theorem Ed:∀{ls N:ae},∃Z98,iU N ls=N++Z98
 | [],N=>⟨[],(jE N).symm⟩
 |x::ls,N=>by
  let⟨Z98,e⟩:=Ed (ls:=ls) (N:=if x∈N then N else N++[x])
  show ∃Z98,iU (if x∈N then N else N++[x]) ls=_
  grind
def Z6{ls N:ae}{x:Int}(h:x∈N):(iU N ls).idxOf x=N.idxOf x:=by
 let⟨Z98,e⟩:=Ed (ls:=ls) (N:=N);rw[e,M5,aB h]
theorem Lq{b:ae}:∀{a N:ae},iU N (a++b)=iU (iU N a) b
 | [],_=>rfl
 |_::a,_=>Lq (a:=a)
theorem Lr{x:Int}:∀{ls N:ae},x∈ls->x∈iU N ls
 |y::ls,N,h=>by
  show x∈iU (if y∈N then N else N++[y]) ls
  let⟨Z98,e⟩:=Ed (ls:=ls) (N:=if y∈N then N else N++[y])
  rcases bO.mp h with rfl|h
  ·grind
  ·show Lr h
theorem Ef:∀(ls N:ae),(iU N ls).length<=N.length+ls.length
 | [],N=>aK _
 |x::ls,N=>by
  show cG (Ef ls _) ?_
  grind
noncomputable def rw0(r:gk):gk:=⟨r.m,r.b,[]⟩
def strip(T:b7):b7:=T.map λx=>(x.1,rw0 x.2)
noncomputable def Fv(kd b o:Int):Int:=if decide (o>b)=decide (kd=1)then o else b
def putD(kd:Int)(T:b7)(s:dW)(m b:Int):b7:=match zy T s with
 |none=>rz T s ⟨m+0,b,[]⟩
 |some o=>rz T s ⟨m+o.m,Fv kd b o.b,[]⟩
def Ls(T:b7)(s:dW):zy (strip T) s=(zy T s).map rw0:=by
 unfold zy strip
 induction T with
 |nil=>rfl
 |cons x T ih =>
  grind
def Lx(T:b7)(s:dW)(r:gk):strip (rz T s r)=rz (strip T) s (rw0 r):=by
 unfold strip rz;rw[Hq];show List.map _ (if(T.any λx=>decide (x.1=s))=true then _ else _)=if(T.any λx=>decide (x.1=s))=true then _ else _
 by_cases c:(T.any λx=>decide (x.1=s))=true
 ·rw[aB c,aB c,lY,lY];show vC λx _=>?_;grind
 grind
def a6O(kd:Int)(bt:Int->Int->Bool):Prop:=∀a b,(if bt a b=true then a else b)=Fv kd a b
def a6P{kd:Int}(h:kd≠1):a6O kd λa b=>decide (a<b):=λa b=>by
 unfold Fv;grind
def ū{kd:Int}{bt:Int->Int->Bool}(hb:a6O kd bt){s:dW}{m b:Int}{src:List dW}:strip (nR bt T s ⟨m,b,src⟩)=putD kd (strip T) s m b:=by
 unfold nR putD;rw[Ls];cases e:zy T s with
 |none=>rw[Lx];show rz _ _ ⟨m,b,[]⟩=rz _ _ ⟨m+0,b,[]⟩;grind
 |some o =>
  rw[Lx];show rz _ _ ⟨o.m+m,(wu bt ⟨m,b,src⟩ o).b,[]⟩=rz _ _ ⟨m+o.m,Fv kd b o.b,[]⟩;let:(wu bt ⟨m,b,src⟩ o).b=Fv kd b o.b:=by
   rw[<-hb];unfold wu;split<;>rfl
  grind
end D1
namespace D1
def RN(os:ae)(k:Nat):Option Nat:=(List.range k).reverse.find? λj=>decide (dD os j=dD os k)
def Ys(ls:ae)(j k:Nat):ae:=ls.map λx=>if x=dD ls k then dD ls j else x
def uq(os:ae):ay->ae->Option (ae)
 | [],ls=>some ls
 |k::r,ls=>if decide (dD ls k=0)=decide (dD os k=0)then(if 0<dD ls k then(match RN os k with
  |none=>uq os r ls
  |some j=>if dD ls j=dD ls k then none else uq os r (Ys ls j k))else uq os r ls)else none
def Ca(s t:dW):Option dW:=if 1<dD s 0+dD t 0 then none else(uq t.tail (List.range s.tail.length) (s.tail.map λx=>x*20)).map (nmd (dD s 0+dD t 0))
set_option maxRecDepth 100000 in
def a1D:((List.range 5).all λm=>(Lk.ZR m).all λs=>(Lk.ZR m).all λt=>decide ((Ca s t).toList=if t.tail.map (λx=>decide (0<x))=s.tail.map (λx=>decide (0<x))then Lk.jnL s t else []))=true:=by decide
end D1
namespace Lk
set_option maxRecDepth 100000 in
def a1E:((List.range 5).all λm=>decide ((ZR m).length<=400))=true:=by decide
def Ŭ{m:Nat}{l:List dW}(m4:m<=4)(nd:l.Nodup)(h:∀s∈l,iH m s=true):l.length<=400 :=
 cG (a6K nd λs hs=>DR (h s hs)) (dw (iw.mp a1E m (gA.mpr ())))
end Lk
namespace D1
def oF(x:dW×gk):b7->b7->b7
 | [],T=>T
 |y::B,T=>oF x B (match Ca x.1 y.1 with
  |none=>T
  |some s=>putD 0 T s (x.2.m*y.2.m) (x.2.b+y.2.b))
def zT(B:b7):b7->b7->b7
 | [],T=>T
 |x::A,T=>zT B A (oF x B T)
theorem JF{x y:dW×gk}:∀{B T:b7},oF x (B++[y]) T=(match Ca x.1 y.1 with
  |none=>oF x B T
  |some s=>putD 0 (oF x B T) s (x.2.m*y.2.m) (x.2.b+y.2.b))
 | [],_=>rfl
 |_::B,_=>JF (B:=B)
theorem Ly{B:b7}{x:dW×gk}:∀{A T:b7},zT B (A++[x]) T=oF x B (zT B A T)
 | [],_=>rfl
 |_::A,_=>Ly (A:=A)
def a4y{cD:ae}{cost:Int×Int->Int}{m:Nat}{s t:dW}(m4:m<=4)(hs:Lk.iH m s=true)(ht:Lk.iH m t=true):(Ca s t).toList=if(tQ cD cost).sh t=(tQ cD cost).sh s then(tQ cD cost).jn s t else []:=by
 let:=Lk.DW a1D (show m<5 by omega) hs;rw[iw]at this;show dw (this t (Lk.DR ht))
theorem ŭ{cD:ae}{cost:Int×Int->Int}{m:Nat}{fU:dW}{row:gk}(m4:m<=4)(ho:Lk.iH m fU=true) :
  ∀{A T:b7},(∀y∈A,Lk.iH m y.1=true)->strip (vh (tQ cD cost) fU row (jB (tQ cD cost) fU A) T)=oF (fU,rw0 row) (strip A) (strip T)
 | [],T,_=>rfl
 |y::A,T,h=>by
  let e:=a4y (cD:=cD) (cost:=cost) m4 ho (h y aZ)
  let ih:=λT=>ŭ (cD:=cD) (cost:=cost) (row:=row) m4 ho (A:=A) (T:=T) λz hz=>h z (bJ _ hz)
  show _=oF (fU,rw0 row) (strip A) (match Ca fU y.1 with
   |none=>strip T
   |some s=>putD 0 (strip T) s (row.m*y.2.m) (row.b+y.2.b))
  by_cases c:(tQ cD cost).sh y.1=(tQ cD cost).sh fU
  ·rw[aB c]at e
   rw[show jB (tQ cD cost) fU (y::A)=y::jB (tQ cD cost) fU A from GF (by show aV c)]
   show strip (vh (tQ cD cost) fU row (jB (tQ cD cost) fU A) (xK (tQ cD cost).bt fU y.1 row y.2 ((tQ cD cost).jn fU y.1) T))=_
   rw[ih,<-e]
   cases Ca fU y.1 with
   |none=>rfl
   |some s=>show congrArg (oF (fU,rw0 row) (strip A)) (ū (kd:=0) (a6P ()))
  ·rw[aA c]at e
   rw[show jB (tQ cD cost) fU (y::A)=jB (tQ cD cost) fU A from List.filter_cons_of_neg (by show λz=>c (dw z)),ih]
   cases em:Ca fU y.1 with
   |none=>rfl
   |some s=>rw[em]at e;cases e
theorem JG{cD:ae}{cost:Int×Int->Int}{m:Nat}(m4:m<=4){A:b7}(ha:∀y∈A,Lk.iH m y.1=true) :
  ∀{S T:b7},(∀x∈S,Lk.iH m x.1=true)->strip (sZ (tQ cD cost) A S T)=zT (strip A) (strip S) (strip T)
 | [],T,_=>rfl
 |x::S,T,h=>by
  show strip (sZ (tQ cD cost) A S (vh (tQ cD cost) x.1 x.2 (jB (tQ cD cost) x.1 A) T))=zT (strip A) (strip S) (oF (x.1,rw0 x.2) (strip A) (strip T))
  rw[JG m4 ha λy hy=>h y (bJ _ hy),ŭ m4 (h x aZ) ha]
set_option maxRecDepth 100000 in
def WD:((List.range 5).all λm=>(Lk.ZR m).all λs=>(Lk.ZR m).all λt=>(Ca s t).all (Lk.iH m))=true:=by decide
def a4z{m:Nat}{s t x:dW}(m4:m<=4)(hs:Lk.iH m s=true)(ht:Lk.iH m t=true)(e:Ca s t=some x):Lk.iH m x=true:=by
 let:=Lk.DW WD (show m<5 by omega) hs;rw[iw]at this;let:=this t (Lk.DR ht);rw[e]at this;show this
def tG{m:Nat}{s:dW}(h:Lk.iH m s=true):s.length=m+1:=by
 unfold Lk.iH at h;rw[gq]at h;show eq_of_beq h.1
structure Tk(m:Nat)(T:b7):Prop where
 nd:(T.map (·.1)).Nodup
 ok:∀x∈T,Lk.iH m x.1=true
def a1F{m:Nat}{s:dW}{a b:Int}(m4:m<=4)(h:Tk m T)(hs:Lk.iH m s=true):Tk m (putD 0 T s a b):=by
 let H:yG (tQ [] λ_=>0) m T:=⟨h.nd,λx hx _=>h.ok x hx⟩;unfold putD;split<;>show⟨(Pj H λ_=>hs).nd,λx hx=>(Pj H λ_=>hs).ok x hx m4⟩
theorem JH{m:Nat}{x:dW×gk}(m4:m<=4)(hx:Lk.iH m x.1=true):∀{B T:b7},(∀y∈B,Lk.iH m y.1=true)->Tk m T->Tk m (oF x B T)
 | [],_,_,h=>h
 |y::B,T,hB,h=>by
  show JH m4 hx (B:=B) (λz hz=>hB z (bJ _ hz)) ?_
  cases e:Ca x.1 y.1 with
  |none=>show h
  |some s=>show a1F m4 h (a4z m4 hx (hB y aZ) e)
theorem Yt{m:Nat}{B:b7}(m4:m<=4)(hB:∀y∈B,Lk.iH m y.1=true):∀{A T:b7},(∀x∈A,Lk.iH m x.1=true)->Tk m T->Tk m (zT B A T)
 | [],_,_,h=>h
 |x::A,T,hA,h=>Yt m4 hB (A:=A) (λz hz=>hA z (bJ _ hz)) (JH m4 (hA x aZ) hB h)
def Tk.len{m:Nat}(m4:m<=4)(h:Tk m T):T.length<=400:=by
 let:=Lk.Ŭ m4 h.nd λs hs=>by
  let⟨x,hx,rfl⟩:=fH.mp hs;show h.ok x hx
 rwa [aH]at this
end D1
abbrev mX:Stmt:=top 45
def mZ:bN ["_law_script","_law_ties_here","_law_rows_here","_law_k","_law_bag","_law_mine","_law_a","_law_b","_law_holding"] sW (aG mX):={}
noncomputable def m9(rs:ba)(t:Int×Int):ay:=(List.range rs.length).filter λj=>decide (t.1∈dH rs j)&&decide (t.2∈dH rs j)
def zB(ns:ae)(rs:ba)(t:Int×Int):Nat:=(m9 rs t).getD (atF ns (310+10*t.1+t.2)%((m9 rs t).length:Int)).toNat 0
def JK{rs:ba}{t:Int×Int}{j:Nat}:j∈m9 rs t↔j<rs.length/\t.1∈dH rs j/\t.2∈dH rs j:=by
 unfold m9;rw[jT,gA,gq,eO,eO]
def a2y{ns:ae}{rs:ba}{t:Int×Int}(h:m9 rs t≠[]):zB ns rs t∈m9 rs t:=by
 let l0:0<(m9 rs t).length:=Ud.mpr h;let m0:=oV (atF ns (310+10*t.1+t.2)) (show((m9 rs t).length:Int)≠0 by omega);let m1:=qK (atF ns (310+10*t.1+t.2)) (show(0:Int)<((m9 rs t).length:Int) by omega);unfold zB;rw[fY,bI (show _<(m9 rs t).length by omega)];show nH _
def jg{α β:Type}{R:α->β->Prop}{xs xs':List α}{ys ys':List β}(h:Paired R xs ys)(q:Paired R xs' ys'):Paired R (xs++xs') (ys++ys'):=by
 induction h with
 |nil=>show q
 |cons a _ ih=>show .cons a ih
def Ů{ta tb:TT}{H:Hp}{b1 b2:Bool}{Q:Bool->Hp->Prop}(h1:∀Q:Bool->Hp->Prop,Q b1 H->ta σ H Q)(h2:∀Q:Bool->Hp->Prop,Q b2 H->tb σ H Q)(h:Q (b1&&b2) H):a0b ta tb σ H Q:=by
 show h1 _ ?_;grind
def Gy{a:Addr}{ix:List (Option Nat)}{g:TG}{tt:TT}{te:TE}{H:Hp}{Q:VK}(xs:ae)(c:Int->Bool)(S:Int->bT)(hx:bD K H a (xs.map V.int))(l9:xs.length<=900)
  (hs:∀(v:Int) (H1:Hp) (N:VK) (Z98:Hp->Prop),v∈xs->aL H H1->(c v=true->∀p H2,iG H1 p (.tup (S v).vs) H2->N (.ref p) H2)->(c v=false->Z98 H1)->g (.int v) (pG ix σ) H1 λσ2 H2=>tt σ2 H2 λb H3=>if b=true then te σ2 H3 N else Z98 H3)
  (hd:∀H1 p ys H2,aL H H1->iG H1 p (.lst ys) H2->Paired (rD H2) ys ((xs.filter c).map S)->Q (.ref p) H2):j7 ix g tt te σ H Q (Ê K a):=by
 show tV (K:=K) (a:=a) (xs:=xs.map V.int) (λi ys H'=>aL H H'/\Paired (rD H') ys (((xs.take i).filter c).map S)) ⟨aL.refl _,.nil⟩ (λi ys H' hi ⟨s,p⟩=>⟨s.seq hx,?_⟩) (λi x ys H' hi ⟨s,p⟩=>?_) (λys H' ⟨s,p⟩ q hq=>?_)
 ·rw[aW p,aH];let:=yS c (xs.take i);rw[dY]at this;show eY (cL ())
 ·rw[cH]at hi;let⟨v,hv,rfl⟩:=jP.mp hi;let et:xs.take (i+1)=xs.take i++[v]:=by rw[iz,hv];rfl
  show hs v H' _ _ (gF hv) s (λcv p2 H2 n2=>⟨s.trans n2.same,?_⟩) (λcv=>⟨s,?_⟩)
  ·rw[et,yW,cW,Nh,cv];show eX (Paired.cA p λ_ _ h=>h.same n2.same) ⟨p2,Z,n2.here⟩
  ·rw[et,yW,cW,Nh,cv];simp only[Bool.false_eq_true,if_false,List.filter_nil,List.map_nil,List.append_nil];show p
 ·let nq:iG H' q (.lst ys) (cU H' q (.lst ys)):=iG.nD hq;rw[aH,gw]at p;show hd H' q ys _ s nq (Paired.cA p λ_ _ h=>h.same nq.same)
def Cd{G G0 G':Hp}{d:Addr}(s:aL G G0)(f:G d=none)(h:Sd d G0 G'):aL G G':=λc o e=>h c o (λz=>by rw[z,f]at e;cases e) (s c o e)
inductive a1G(K:aJ)(vs:af)(H:Hp)(Q:VK)(u_3:XK):Prop
 |mk (a r l:Addr) (ns:ae) (tx ys:af) (tb:ar) (rs:ba) (k:Nat) (_:vs=[.ref a,.ref r,.ref l,.int (k:Int)]) (_:Vz K H a ns) (_:ns.length<=63) (_:H r=↥tx) (_:Paired (lZ H) tx tb) (_:tb.length<=100) (_:∀t∈tb,m9 rs t≠[]/\0<=t.1/\t.1<10/\0<=t.2/\t.2<10) (_:H l=↥ys) (_:Paired (HS l H) ys rs) (_:rs.length<=20) (_:k<rs.length) (_:(dH rs k).length<=10) (_:∀p xs H',aL H H'->H p=none->H' p=↥xs->Paired (rD H') xs ((.leaf::(dH rs k).map .inn)++Wy (zB ns rs) (dH rs) tb k)->Q (.ref p) H')
def a1H{K:aJ}{ix:List (Option Nat)}{g:TG}{tt:TT}{te:TE}{H:Hp}{Q:VK}{n:Nat}(c:Nat->Bool)(n9:n<=900)
  (hs:∀(i:Nat) (G:Hp) (N:VK) (Z98:Hp->Prop),i<n->aL H G->(c i=true->N (.int (i:Int)) G)->(c i=false->Z98 G)->g (.int (0+(i:Int))) (pG ix σ) G λσ2 H2=>tt σ2 H2 λb H3=>if b=true then te σ2 H3 N else Z98 H3)
  (hd:∀p G H2,aL H G->iG G p (.lst (((List.range n).filter c).map λ(i:Nat)=>V.int (i:Int))) H2->Q (.ref p) H2):j7 ix g tt te σ H Q (SJ 0 n):=by
 show u6 (λi ys G=>aL H G/\ys=((List.range i).filter c).map λ(i:Nat)=>V.int (i:Int)) ⟨aL.refl _,Z⟩ (λi ys G hi ⟨s,e⟩=>?_) (λi ys G hi ⟨s,e⟩=>?_) ?_
 ·rw[e,aH];let:=yS c (List.range i);rw[oU]at this;show eY (cL ())
 ·show hs i G _ _ hi s (λh=>⟨s,?_⟩) (λh=>⟨s,?_⟩)
  ·rw[e,rU,yW,cW,GF h];rfl
  ·rw[e,rU,yW,cW,List.filter_cons_of_neg (by rw[h];show cN)];show(jE _).symm
 ·rintro ys G ⟨s,rfl⟩ p hp;show hd p G _ s (iG.nD hp)
def RQ(B:Bl mg)(lD:Dn K mg "_law_at" jN xG)(S8:Dn K mg "_law_own" mX sW):⋯ 2 S8.f S8.fd sW (a1G K):=by
 let Qg:⋯ 1 _ _ _ _:=Ft B lD;show S8.F.ok mZ λd7 A outer s H vs Q E hr h=>?_;let⟨a,r,l,ns,tx,ys,tb,rs,k,rfl,hS,h63,hT,pT,Ť,hold,hL,pL,r20,kl,b10,q⟩:=h;let hv:(A.deeper (PyProof.Rows.envOfC "_law_own" (aG mX) s⁻¹ S8.f d7)).units+65<cLine:=by let:=hr.un;omega
 let ly:=aW pL;let ltx:=aW pT;show⟨_,(aD (aX 4 mZ.nd (aP (aO (K:=K) Z) (aP (bf (K:=K) Z) (pv 2) (pv 3)) aq))
   (aD (aX 5 mZ.nd (cF aj))
   (aD (gQ gH Z (eE (K:=K) Z (pv 1)) (jr (K:=K) (n:=2) Z Z (bQ (aM 6 mZ.nd) (bQ (aM 7 mZ.nd) iD)))
   (aD (sJ (i:=8) ["_law_j","_law_a","_law_b","_law_rows_here"] [none,some 6,some 7,some 2] mZ.nd Z Z (by kernel_rfl) Z (iV Z B.range (O (aU (bR (K:=K) Z) Z B.len () (O (pv 2) aj)) aj)) (λ_ _ _ _ _=>(aM 0 (show(["_law_j","_law_a","_law_b","_law_rows_here"]:ag).Nodup by decide))) (λ_ _ _ _ _=>(tU (PW.pt (oZ (aN (yd (K:=K) Z hv) (pv 1) (aP (aO (K:=K) Z) (aP (bf (K:=K) Z) (pv 3) (pv 0)) aq) (by with_unfolding_all rfl)) (qg (aN (yd (K:=K) Z hv) (pv 2) (aP (aO (K:=K) Z) (aP (bf (K:=K) Z) (pv 3) (pv 0)) aq) (by with_unfolding_all rfl))))))) (λ_ _ _ _ _=>(pv 0)) (by rfl))
   (aF (cM (aN jV (aP (bf (K:=K) Z) (pv 8) (bh jG (bx Qg hr Z lD.m lD.F.kp lD.b .nil bZ (O (pv 0) (O (bh cX (bh cX aq (bh vN aq (pv 6))) (pv 7)) aj))) (aU (bR (K:=K) Z) Z B.len () (O (pv 8) aj)))) (pv 3))
   (aF (fL (iR (K:=K) Z jc PySem.F.slot_list_append PySem.F.type_list_append fC (pv 5) (O (bL (O fV (O (pv 6) (O (pv 7) aj)))) aj))))
   bA))))
   (aF (bH (bh mJ (bh mJ (cF (O (bL (O fV aj)) aj)) (lU ["_law_v"] [none]  (by kernel_rfl) Z (eE (K:=K) Z (pv 4)) (λ_ _ _ _ _=>(aM 0 (show(["_law_v"]:ag).Nodup by decide))) (λ_ _ _ _ _=>gj) λ_ _ _ _ _=>(bL (O fV (O (pv 0) aj))))) (pv 5))))))),?_⟩
 let⟨vk,hxk,⟨pk,bk,rfl,hTk,Í,nbk,lbk⟩⟩:=cO pL (sO kl);show⟨_,Z,_,Z,l,_,_,_,Z,Z,bD.of hL,bW hxk,pk,_,_,_,Z,Z,cJ.of hTk,Z,?_⟩;show⟨(),λpm H1 n1=>?_⟩;show⟨_,Z,r,Z,⟨_,bD.of (n1.same _ _ hT)⟩,?_⟩;let nrm:r≠pm:=λz=>by let:=n1.fresh;rw[<-z,hT]at this;cases this
 show Wj (P:=λi σ G=>P4 (T3 (λo6 o7 o8=>[⇑a,⇑r,⇑l,some (.int (k:Int)),⇑bk,⇑pm,o6,o7,o8]) σ) (Sd pm H1 G) (λxs:af=>G pm=↥xs) λxs=>Paired (rD G) xs (((tb.take i).filter λt=>decide (gD (zB ns rs) (dH rs) k t)).map λt=>.tie t.1 t.2)) λZ97 ji ij=>sy (K:=K) (a:=r) (xs:=tx) Z97 (ji _ _ _ ⟨⟨_,_,_,Z⟩,.refl,[],n1.here,.nil⟩) (λi σ G _ h=>bD.of ((ij _ _ _ h).s _ _ nrm (n1.same _ _ hT))) ?_ ?_
 ·intro i x σ G hx h1;let⟨⟨o6,o7,o8,rfl⟩,sG,xs,hm,pX⟩:=ij _ _ _ h1;let⟨t,ht,⟨px,rfl,hpx⟩⟩:=bB pT hx;let s0:=Cd n1.same n1.fresh sG;let⟨hne,a0,a1,c0,c1⟩:=hold t (gF ht);let et:tb.take (i+1)=tb.take i++[t]:=by rw[iz,ht];rfl
  let lX:=aW pX;rw[aH]at lX;let lX2:=yS (λt=>decide (gD (zB ns rs) (dH rs) k t)) (tb.take i);rw[dY]at lX2;show⟨px,_,Z,cJ.of (s0 _ _ hpx),Z,_,_,Z,_,_,Z,Z,?_⟩;show⟨_,Z,l,_,Z,.inl (bD.of (s0 _ _ hL)),_,Z,(),(),?_⟩;rw[ig];show a1H (K:=K) (λj=>decide (t.1∈dH rs j)&&decide (t.2∈dH rs j)) () (λj G1 N Z98 hj s1 hN hM=>?_) (λph G1 G2 s1 n2=>?_)
  ·rw[show(0:Int)+(j:Int)=(j:Int) by omega];let⟨vj,hxj,⟨pj,bj,rfl,Wm,hbj,nbj,lbj⟩⟩:=cO pL (sO (show j<rs.length by omega));let ů:=s0.trans s1;show Ů (b1:=decide (t.1∈dH rs j)) (b2:=decide (t.2∈dH rs j)) (λQ h=>⟨_,Z,_,Z,_,Z,l,_,_,_,Z,Z,bD.of (ů _ _ hL),bW hxj,pj,_,_,_,Z,Z,cJ.of (ů _ _ Wm),Z,HN (bD.of (ů _ _ hbj)) ⟨_,Z,h⟩⟩) (λQ h=>⟨_,Z,_,Z,_,Z,l,_,_,_,Z,Z,bD.of (ů _ _ hL),bW hxj,pj,_,_,_,Z,Z,cJ.of (ů _ _ Wm),Z,HN (bD.of (ů _ _ hbj)) ⟨_,Z,h⟩⟩) (nC (λc=>⟨_,Z,hN c⟩) λc=>hM (wR.mpr c))
  rw[ly]at n2;let hh:G2 ph=↥((m9 rs t).map λ(j:Nat)=>V.int (j:Int)):=n2.here;let s12:=s1.trans n2.same;let zU:=s0.trans s12;let l0:0<(m9 rs t).length:=Ud.mpr hne;let m0:=oV (atF ns (310+10*t.1+t.2)) (show((m9 rs t).length:Int)≠0 by omega);let m1:=qK (atF ns (310+10*t.1+t.2)) (show(0:Int)<((m9 rs t).length:Int) by omega);obtain⟨j,ej⟩:∃j:Nat,atF ns (310+10*t.1+t.2)%((m9 rs t).length:Int)=(j:Int):=⟨_,(Int.toNat_of_nonneg m0).symm⟩;let ep:zB ns rs t=(m9 rs t).getD j 0:=by unfold zB;rw[ej];rfl
  let hj:((m9 rs t).map λ(j:Nat)=>V.int (j:Int))[j]?=some (.int ((zB ns rs t:Nat):Int)):=by
   rw[cH,ep,fY,bI ()];rfl
  show⟨_,Z,_,Z,_,Z,_,_,Z,Z,.inl ⟨(),()⟩,_,_,Z,Z,_,Z,_,_,Z,Z,a,ns,_,Z,hS.same zU,h63,(),(),_,Z,ph,_,Z,.inl (bD.of hh),_,_,Z,Z,(by rw[aH];omega),?_⟩;rw[aH,ej];show⟨ph,_,_,_,Z,Z,bD.of hh,bW hj,_,Z,Z,_,Z,?_⟩;let hkp:=JK.mp (a2y (ns:=ns) hne);let eh:decide (V.int ((zB ns rs t:Nat):Int)=V.int (k:Int))=decide (gD (zB ns rs) (dH rs) k t):=by
   rw[rR,eO,eO];unfold gD;constructor
   ·intro z;let z:zB ns rs t=k:=by let:=V.int.inj z;omega
    rw[<-z];show⟨hkp.2.1,hkp.2.2,Z⟩
   ·rintro⟨_,_,z⟩;rw[z]
  rw[eh];let hm2:=s12 _ _ hm;let S5:Sd pm H1 G2:=sG.trans (.of s12);let eN:(((tb.take (i+1)).filter λt=>decide (gD (zB ns rs) (dH rs) k t)).map λt=>bT.tie t.1 t.2)=(((tb.take i).filter λt=>decide (gD (zB ns rs) (dH rs) k t)).map λt=>bT.tie t.1 t.2)++if decide (gD (zB ns rs) (dH rs) k t)=true then [.tie t.1 t.2]else []:=by
   rw[et,yW,cW,Nh];congr 1;split<;>rfl
  show nC (λc=>?_) (λc=>?_)
  ·show⟨_,Z,.inl ⟨Z,_,bD.of hm2⟩,_,Z,_,Z,(),λp3 G3 n3=>⟨pm,_,_,Z,Z,n3.same _ _ hm2,(),λG4 cg=>?_⟩⟩;let tu:lG G3 G4:=λc' ys hc=>by
    rw[cg.rest c' (λz=>by rw[z,n3.same _ _ hm2]at hc;cases hc)];show hc
   show ji _ _ _ ⟨⟨_,_,_,Z⟩,(S5.trans (.of n3.same)).trans (.Rb cg),_,cg.here,?_⟩;rw[eN,aB c];show eX (Paired.cA pX λ_ _ h=>?_) ⟨p3,Z,tu _ _ n3.here⟩;let⟨pp,e1,e2⟩:=h;show⟨pp,e1,tu _ _ ((s12.trans n3.same) _ _ e2)⟩
  ·show ji _ _ _ ⟨⟨_,_,_,Z⟩,S5,_,hm2,?_⟩;rw[eN,aA c,jE];show Paired.cA pX λ_ _ h=>h.same s12
 ·intro σ G h1;let⟨⟨o6,o7,o8,rfl⟩,sG,xs,hm,pX⟩:=ij _ _ _ h1;rw[ltx,gw]at pX;clear ij ji h1;let s0:=Cd n1.same n1.fresh sG;let lX:=aW pX;rw[aH]at lX;let lX2:=yS (λt=>decide (gD (zB ns rs) (dH rs) k t)) tb;show⟨(),λp1 G1 m1=>⟨(),λp2 G2 m2=>?_⟩⟩;let s2:=s0.trans (m1.same.trans m2.same);show⟨_,Z,bk,Z,⟨_,bD.of (s2 _ _ Í)⟩,Gy (dH rs k) (λ_=>true) bT.inn (bD.of (s2 _ _ Í)) () (λv H3 N Z98 _ s3 hN hM=>?_) λH3 p3 ys3 H4 s3 n4 p4=>?_⟩
  ·show⟨_,Z,(),λp H5 n5=>hN Z p H5 n5⟩
  rw[List.filter_eq_self.mpr (λ_ _=>rfl)]at p4;let s24:=s3.trans n4.same;let l4:=aW p4;rw[aH]at l4;show⟨p2,p3,_,_,Z,Z,s24 _ _ m2.here,n4.here,(by show 1+ys3.length<=1000;omega),λp5 H5 n5=>?_⟩;let sG5:=(m1.same.trans m2.same).trans (s24.trans n5.same);show⟨_,Z,p5,pm,_,_,Z,Z,n5.here,sG5 _ _ hm,(by rw[cu];show 1+ys3.length+_<=1000;omega),λp6 H6 n6=>q p6 _ H6 (s0.trans (sG5.trans n6.same)) ((s0.trans sG5).free n6.fresh) n6.here ?_⟩;let P5':Paired (rD H6) ([.ref p1]++ys3) (.leaf::(dH rs k).map bT.inn):=.cons ⟨p1,Z,n6.same _ _ (n5.same _ _ (s24 _ _ (m2.same _ _ m1.here)))⟩ (Paired.cA p4 λ_ _ h=>(h.same n5.same).same n6.same);show jg P5' (Paired.cA pX λ_ _ h=>h.same (sG5.trans n6.same))
abbrev kW:Stmt:=top 46
def gU:bN ["_law_script","_law_ties_here","_law_rows_here","_law_k","_law_bag","_law_steps","_law_j","_law_theirs"] sW (aG kW):={}
inductive Ce(K:aJ)(d:Nat)(vs:af)(H:Hp)(Q:VK)(u_3:XK):Prop
 |mk (a r l:Addr) (ns:ae) (tx ys:af) (tb:ar) (rs:ba) (n most k:Nat) (_:vs=[.ref a,.ref r,.ref l,.int (k:Int)]) (_:Vz K H a ns) (_:ns.length<=63) (_:H r=↥tx) (_:Paired (lZ H) tx tb) (_:tb.length<=100) (_:∀t∈tb,m9 rs t≠[]/\0<=t.1/\t.1<10/\0<=t.2/\t.2<10) (_:H l=↥ys) (_:Paired (HS l H) ys rs) (_:Rw n most rs []) (_:most<=4) (_:rs.length<=20) (_:n<=10) (_:k<rs.length) (_:rs.length<=k+d) (_:∀p xs H',aL H H'->H p=none->H' p=↥xs->Paired (rD H') xs (qF 0 true tb rs.length (Fp rs) (zB ns rs) (dH rs) d k)->Q (.ref p) H')
noncomputable def qd(m:Nat)(up:Nat->Nat)(k i:Nat):ay:=(List.range i).filter λj=>decide (k<j)&&decide (up j=k)
def a4A(m:Nat)(up:Nat->Nat)(k:Nat):qd m up k (k+1)=[]:=by
 unfold qd;rw[List.filter_eq_nil_iff];grind
def Ű{m:Nat}{up:Nat->Nat}{k i:Nat}(h:i<=m)(L:Nat->ax):((qd m up k i).flatMap L).length<=((jD m up k).flatMap L).length:=by
 unfold qd jD;let e:List.range m=List.range i++(List.range (m-i)).map (i + ·):=by
  rw[<-List.range_add];congr 1;omega
 rw[e,yW,List.flatMap_append,cu];omega
def Lz{m:Nat}{up:Nat->Nat}{k i:Nat}(h:k<i):qd m up k (i+1)=qd m up k i++if up i=k then [i]else []:=by
 unfold qd;rw[rU,yW];grind
def ű(Fw:Dn K mg "_law_laid" kW sW):⋯ 2 Fw.f Fw.fd sW (Ce K 0):=by
 show Fw.F.ok gU (len:=λvs H Q E h=>?_) (λd7 A outer s H vs Q E hr h=>?_)
 ·let⟨a,r,l,ns,tx,ys,tb,rs,n,most,k,_,_,_,_,_,_,_,_,_,_,_,_,_,h1,h2,_⟩:=h;omega
 ·let⟨a,r,l,ns,tx,ys,tb,rs,n,most,k,_,_,_,_,_,_,_,_,_,_,_,_,_,h1,h2,_⟩:=h;omega
def Ų(B:Bl mg)(lD:Dn K mg "_law_at" jN xG)(S8:Dn K mg "_law_own" mX sW)(Fw:Dn K mg "_law_laid" kW sW)(d:Nat)(gZ4:⋯ (d+2) Fw.f Fw.fd sW (Ce K d)):⋯ (d+3) Fw.f Fw.fd sW (Ce K (d+1)):=by
 let gZ6:⋯ (d+2) _ _ _ _:=(RQ B lD S8).mono ();show Fw.F.ok gU λd7 A outer s H vs Q E hr h=>?_;let⟨a,r,l,ns,tx,ys,tb,rs,n,most,k,rfl,a6Q,h63,hT,pT,Ť,hold,hL,pL,W,m4,r20,dJ,kl,dk,q⟩:=h;let hv:(A.deeper (PyProof.Rows.envOfC "_law_laid" (aG kW) s⁻¹ Fw.f d7)).units+65<cLine:=by let:=hr.un;omega
 let ly:=aW pL;let ltx:=aW pT;let T:=W.T;let⟨vk,hxk,⟨pk,bk,rfl,hTk,Í,nbk,lbk⟩⟩:=cO pL (sO kl);let hW4:∀j,(dH rs j).length<=4:=λj=>cG (W.few j) m4;let b10:∀j,(dH rs j).length<=10:=λj=>cG (hW4 j) ();let full:=Lp (pk:=zB ns rs) T hW4 r20 0 true Ť (f:=d+1) kl;obtain⟨L,eL⟩:∃L:Nat->ax,L=λj=>qF 0 true tb rs.length (Fp rs) (zB ns rs) (dH rs) d j++(jU (dH rs) j k++[.join]):=⟨_,Z⟩;obtain⟨M0,eM⟩:∃M0:ax,M0=(.leaf::(dH rs k).map .inn)++Wy (zB ns rs) (dH rs) tb k:=⟨_,Z⟩;obtain⟨F,eF⟩:∃F:ax->Nat->ax,F=yN 0 (dH rs) (qF 0 true tb rs.length (Fp rs) (zB ns rs) (dH rs) d) k:=⟨_,Z⟩;let fl:∀js:ay,(js.foldl F M0).length=M0.length+(js.flatMap L).length:=λjs=>by rw[eF,eL];show JB _ _ _ _ _
 let eS:qF 0 true tb rs.length (Fp rs) (zB ns rs) (dH rs) (d+1) k=(jD rs.length (Fp rs) k).foldl F M0:=by rw[eF,eM];show jE _
 rw[eS]at q full;rw[fl]at full;show⟨_,(aD (aX 4 gU.nd (aP (aO (K:=K) Z) (aP (bf (K:=K) Z) (pv 2) (pv 3)) aq))
   (aD (aX 5 gU.nd (bx gZ6 hr Z S8.m S8.F.kp S8.b .nil bZ (O (pv 0) (O (pv 1) (O (pv 2) (O (pv 3) aj))))))
   (aD (gQ gH Z (CW Z B.range (O (bh cX (pv 3) aq) (O (aU (bR (K:=K) Z) Z B.len () (O (pv 2) aj)) aj))) (aM 6 gU.nd)
   (aF (cM (aN jV (aP (aO (K:=K) Z) (aP (bf (K:=K) Z) (pv 2) (pv 6)) aq) (pv 3))
   (aD (aX 7 gU.nd (bh mJ (bx gZ4 hr Z Fw.m Fw.F.kp Fw.b .nil bZ (O (pv 0) (O (pv 1) (O (pv 2) (O (pv 6) aj))))) (lU ["_law_v","_law_bag"] [none,some 4]  (by kernel_rfl) Z (eE (K:=K) Z (aP (aO (K:=K) Z) (aP (bf (K:=K) Z) (pv 2) (pv 6)) aq)) (λ_ _ _ _ _=>(aM 0 (show(["_law_v","_law_bag"]:ag).Nodup by decide))) (λ_ _ _ _ _=>(tU (aN (iC (K:=K) Z hv) (pv 0) (pv 1) (by with_unfolding_all rfl)))) λ_ _ _ _ _=>(bL (O fV (O (pv 0) aj))))))
   (aD (aX 7 gU.nd (bh mJ (pv 7) (lU ["_law_v","_law_rows_here","_law_j"] [none,some 2,some 6]  (by kernel_rfl) Z (eE (K:=K) Z (pv 4)) (λ_ _ _ _ _=>(aM 0 (show(["_law_v","_law_rows_here","_law_j"]:ag).Nodup by decide))) (λ_ _ _ _ _=>(tU (aN (iC (K:=K) Z hv) (pv 0) (aP (aO (K:=K) Z) (aP (bf (K:=K) Z) (pv 1) (pv 2)) aq) (by with_unfolding_all rfl)))) λ_ _ _ _ _=>(bL (O fV (O (pv 0) aj))))))
   (aF (cM (aN jV (bh jG (pv 6) aq) aq)
   (aF (aX 5 gU.nd (bh mJ (bh mJ (pv 5) (pv 7)) (cF (O (bL (O fV aj)) aj)))))
   (aF (aX 5 gU.nd (bh mJ (bh mJ (pv 7) (pv 5)) (cF (O (bL (O fV aj)) aj)))))))))
   bA)))
   (aF (bH (pv 5)))))),?_⟩
 show⟨_,Z,_,Z,l,_,_,_,Z,Z,bD.of hL,bW hxk,pk,_,_,_,Z,Z,cJ.of hTk,Z,⟨_,Z,_,Z,_,Z,_,Z,a,r,l,ns,tx,ys,tb,rs,k,Z,a6Q,h63,hT,pT,Ť,hold,hL,pL,r20,kl,b10 k,λpS0 xs0 H5 s5 f5 hS0 P5=>?_⟩⟩;rw[<-eM]at P5;let hL5:=s5 _ _ hL;show⟨_,Z,_,_,Z,Z,_,Z,l,_,Z,.inl (bD.of hL5),_,_,Z,⟨(),(),(),()⟩,?_⟩;show uX (n:=_) (λi σ H'=>∃(jj th:Option V) (pS:Addr) (xs:af),σ=[⇑a,⇑r,⇑l,some (.int (k:Int)),⇑bk,⇑pS,jj,th]/\aL H H'/\H pS=none/\H' pS=↥xs/\Paired (rD H') xs ((qd rs.length (Fp rs) k (k+1+i)).foldl F M0))
  ⟨none,none,pS0,_,Z,s5,f5,hS0,by rw[a4A];show P5⟩ ?_ ?_
 ·rintro i σ H6 hi ⟨jj,th,pS,xs,rfl,s6,fS,hS,pS'⟩;let jl:k+1+i<rs.length:=by rw[ly]at hi;omega
  obtain⟨j,ej⟩:∃j,j=k+1+i:=⟨_,Z⟩;let ejI:(k:Int)+1+(i:Int)=(j:Int):=()
  rw[ejI];rw[<-ej]at jl pS';let ej2:k+1+(i+1)=j+1:=()
  rw[ej2,Lz (show k<j by omega)];let⟨vj,hxj,⟨pj,bj,rfl,Wm,hbj,nbj,lbj⟩⟩:=cO pL (sO jl);rw[W.ru j () jl]at Wm;let pre:=Ű (up:=Fp rs) (k:=k) (show j+1<=rs.length by omega) L;rw[Lz (show k<j by omega)]at pre;let lxs:=aW pS';rw[fl]at lxs;show⟨_,Z,_,Z,l,_,_,_,Z,Z,bD.of (s6 _ _ hL),bW hxj,pj,_,_,_,Z,Z,cJ.of (s6 _ _ Wm),Z,_,Z,Z,_,Z,?_⟩;by_cases c:Fp rs j=k
  ·rw[aB c]at pre ⊢;rw[show decide (upV (some ((Fp rs j:Nat):Int))=V.int (k:Int))=true from aV (by rw[c];rfl)];show iQ ?_;let eLj:L j=qF 0 true tb rs.length (Fp rs) (zB ns rs) (dH rs) d j++((vA (dH rs j) (dH rs k)).map .out++(vA (dH rs k) (dH rs j)).map .inn++[.join]):=by rw[eL];rfl
   rw[List.flatMap_append,cu,List.flatMap_singleton]at pre;let lLj:=congrArg List.length eLj;rw[cu,cu,cu,aH,aH]at lLj;let lJ1:[bT.join].length=1:=rfl;show⟨_,Z,_,Z,_,Z,_,Z,a,r,l,ns,tx,ys,tb,rs,n,most,j,Z,a6Q.same s6,h63,s6 _ _ hT,Paired.cA pT λ_ _ h=>lZ.same s6 h,Ť,hold,s6 _ _ hL,Paired.cA pL λ_ _ h=>HS.same s6 h,W,m4,r20,dJ,jl,(),λpJ xJ H8 s68 fJ hJ pJ'=>?_⟩;let lJ:=aW pJ';let s8:=s6.trans s68;show⟨_,Z,_,Z,l,_,_,_,Z,Z,bD.of (s8 _ _ hL),bW hxj,pj,_,_,_,Z,Z,cJ.of (s8 _ _ Wm),Z,bj,Z,⟨_,bD.of (s8 _ _ hbj)⟩,?_⟩;show Gy (dH rs j) (λv=>!decide (v∈dH rs k)) bT.out (bD.of (s8 _ _ hbj)) (by let:=b10 j;omega) (λv H9 N Z98 _ s9 hN hM=>?_) (λH9 p9 y9 H10 s9 wG p10=>?_)
   ·show⟨_,Z,_,Z,rF (bD.of ((s8.trans s9) _ _ Í)) ⟨_,Z,nC (λe=>?_) λe=>hM (wR.mpr e)⟩⟩;show⟨_,Z,(),λp H5 n5=>hN e p H5 n5⟩
   let l10:=aW p10;rw[aH]at l10;let a8x:y9.length=(vA (dH rs j) (dH rs k)).length:=l10;let a4B:=s9.trans wG.same;show⟨pJ,p9,_,_,Z,Z,a4B _ _ hJ,wG.here,(),λp11 H11 Cj=>?_⟩;let s11:=s8.trans (a4B.trans Cj.same);show⟨_,Z,_,Z,bk,Z,⟨_,bD.of (s11 _ _ Í)⟩,?_⟩;show Gy (dH rs k) (λv=>!decide (v∈dH rs j)) bT.inn (bD.of (s11 _ _ Í)) (by let:=b10 k;omega) (λv H12 N Z98 _ s12 hN hM=>?_) (λH12 p12 y12 H13 s12 n13 p13=>?_)
   ·show⟨_,Z,_,Z,_,Z,l,_,_,_,Z,Z,bD.of ((s11.trans s12) _ _ hL),bW hxj,pj,_,_,_,Z,Z,cJ.of ((s11.trans s12) _ _ Wm),Z,rF (bD.of ((s11.trans s12) _ _ hbj)) ⟨_,Z,nC (λe=>?_) λe=>hM (wR.mpr e)⟩⟩;show⟨_,Z,(),λp H5 n5=>hN e p H5 n5⟩
   let l13:=aW p13;rw[aH]at l13;let a8y:y12.length=(vA (dH rs k) (dH rs j)).length:=l13;let ų:=s12.trans n13.same;show⟨p11,p12,_,_,Z,Z,ų _ _ Cj.here,n13.here,by rw[cu];omega,λp14 H14 n14=>?_⟩;let a6R:=a4B.trans (Cj.same.trans (ų.trans n14.same));let a1I:=s68.trans a6R;let Ì:=s6.trans a1I;let a6S:Paired (rD H14) (xJ++y9++y12) (qF 0 true tb rs.length (Fp rs) (zB ns rs) (dH rs) d j++jU (dH rs) j k):=by
    show Paired _ _ (_++((vA (dH rs j) (dH rs k)).map bT.out++(vA (dH rs k) (dH rs j)).map bT.inn));rw[<-vH];show jg (jg (Paired.cA pJ' λ_ _ h=>h.same a6R) (Paired.cA p10 λ_ _ h=>h.same (Cj.same.trans (ų.trans n14.same)))) (Paired.cA p13 λ_ _ h=>h.same n14.same)
   let a6T:Paired (rD H14) xs ((qd rs.length (Fp rs) k j).foldl F M0):=Paired.cA pS' λ_ _ h=>h.same a1I;let fin:∀(p17:Addr) (us:af) (Ŵ:Hp),aL H14 Ŵ->H14 p17=none->Ŵ p17=↥us->Paired (rD Ŵ) us (F ((qd rs.length (Fp rs) k j).foldl F M0) j)->∃(jj th:Option V) (pS:Addr) (xs:af),[some (V.ref a),⇑r,⇑l,some (.int (k:Int)),⇑bk,⇑p17,some (.int (j:Int)),⇑p14]=[⇑a,⇑r,⇑l,some (.int (k:Int)),⇑bk,⇑pS,jj,th]/\aL H Ŵ/\H pS=none/\Ŵ pS=↥xs/\Paired (rD Ŵ) xs ((qd rs.length (Fp rs) k j++[j]).foldl F M0):=λp17 us Ŵ s17 f17 h17 q17 =>
    ⟨_,_,p17,us,Z,Ì.trans s17,Ì.free f17,h17,by rw[List.foldl_append];show q17⟩
   let j0:=oV (j:Int) (show(2:Int)≠0 by decide);show⟨_,Z,_,_,Z,Z,(show(0:Int)<_ by decide),Z,_,Z,?_⟩;by_cases c2:j%2=0
   ·rw[show decide (V.int ((j:Int)%2)=V.int 0)=true from aV (congrArg V.int ())];show iQ ⟨_,Z,_,Z,pS,p14,_,_,Z,Z,a1I _ _ hS,n14.here,(by simp only[List.length_append];omega),λp20 H20 n20=>?_⟩;show⟨(),λp15 H15 n15=>⟨(),λp16 H16 n16=>?_⟩⟩;let JL:=n15.same.trans n16.same;show⟨p20,p16,_,_,Z,Z,JL _ _ n20.here,n16.here,(by simp only[List.length_append,List.length_singleton];omega),λp17 Ŵ n17=>?_⟩;let JM:=n20.same.trans (JL.trans n17.same);show fin p17 _ Ŵ JM ((n20.same.trans JL).free n17.fresh) n17.here ?_;rw[show ∀Z98,F Z98 j=Z98++(qF 0 true tb rs.length (Fp rs) (zB ns rs) (dH rs) d j++jU (dH rs) j k)++[.join]from λZ98=>by rw[eF];show aB c2];show jg (jg (Paired.cA a6T λ_ _ h=>h.same JM) (Paired.cA a6S λ_ _ h=>h.same JM)) (.cons ⟨p15,Z,n17.same _ _ (n16.same _ _ n15.here)⟩ .nil)
   ·rw[show decide (V.int ((j:Int)%2)=V.int 0)=false from cI λz=>c2 (by let:=V.int.inj z;omega)];show dB ⟨_,Z,_,Z,p14,pS,_,_,Z,Z,n14.here,a1I _ _ hS,(by simp only[List.length_append];omega),λp20 H20 n20=>?_⟩;show⟨(),λp15 H15 n15=>⟨(),λp16 H16 n16=>?_⟩⟩;let JL:=n15.same.trans n16.same;show⟨p20,p16,_,_,Z,Z,JL _ _ n20.here,n16.here,(by simp only[List.length_append,List.length_singleton];omega),λp17 Ŵ n17=>?_⟩;let JM:=n20.same.trans (JL.trans n17.same);show fin p17 _ Ŵ JM ((n20.same.trans JL).free n17.fresh) n17.here ?_;rw[show ∀Z98,F Z98 j=(qF 0 true tb rs.length (Fp rs) (zB ns rs) (dH rs) d j++jU (dH rs) j k)++Z98++[.join]from λZ98=>by rw[eF];show aA c2];show jg (jg (Paired.cA a6S λ_ _ h=>h.same JM) (Paired.cA a6T λ_ _ h=>h.same JM)) (.cons ⟨p15,Z,n17.same _ _ (n16.same _ _ n15.here)⟩ .nil)
  ·rw[aA c,jE];rw[show decide (upV (some ((Fp rs j:Nat):Int))=V.int (k:Int))=false from cI (λz=>c (by let:=V.int.inj z;omega))];show dB ⟨_,_,pS,xs,Z,s6,fS,hS,pS'⟩
 rintro σ H6 ⟨jj,th,pS,xs,rfl,s6,fS,hS,pS'⟩;let eK:qd rs.length (Fp rs) k (k+1+((ys.length:Int)-((k:Int)+1)).toNat)=jD rs.length (Fp rs) k:=by
  unfold qd jD;congr 2;omega
 rw[eK]at pS';show⟨_,Z,q pS xs H6 s6 fS hS pS'⟩
theorem Cg(B:Bl mg)(lD:Dn K mg "_law_at" jN xG)(S8:Dn K mg "_law_own" mX sW)(Fw:Dn K mg "_law_laid" kW sW):∀d:Nat,⋯ (d+2) Fw.f Fw.fd sW (Ce K d)
 |0=>ű Fw
 |d+1=>Ų B lD S8 Fw d (Cg B lD S8 Fw d)
abbrev v5:Stmt:=top 47
def dU:bN ["_law_steps","_law_pile","_law_sizes","_law_works_here","_law_k","_law_work","_law_size"] ["_law_steps"] (aG v5):={}
def WK{B:ae}{v:Int}(nd:B.Nodup):B.erase v=nY B [v]:=by
 rw[nd.erase_eq_filter];show List.filter_congr λx _=>?_;grind
inductive ŵ(L:aI)(H:Hp)(v:V)(b:ae):Prop
 |mk (p:_) (_:v=.ref p) (_:H p=↥(b.map V.int)) (_:p∉L)
def ŵ.same{L:aI}{H H':Hp}{v:V}{b:ae}(s:aL H H')(h:ŵ L H v b):ŵ L H' v b:=by
 let⟨p,e,h1,h2⟩:=h;show⟨p,e,s _ _ h1,h2⟩
def ŵ.chg{L:aI}{H H':Hp}{v:V}{b:ae}{a:Addr}{o:HO}(m:a∈L)(c:vB H a o H')(h:ŵ L H v b):ŵ L H' v b:=by
 let⟨p,e,h1,h2⟩:=h;show⟨p,e,(c.rest p λz=>h2 ()).trans h1,h2⟩
noncomputable def szF(n:Nat)(ts:ar)(ss:ax)(fd:ay):Int:=match fd.getLast? with
 |some j=>((Go.gY n ts ss j).length:Int)
 |none=>0
noncomputable def wkI(fd:ay):ae:=fd.map λj=>((j:Nat):Int)
inductive a1J(H:Hp)(pS pp pz pw:Addr)(n:Nat)(ts:ar)(ss:ax)(i:Nat)(pl wk:ay)(sz:Int)(σ:St)(G:Hp):Prop
 |mk (pb:Addr) (wx:af) (_:σ=[⇑pS,⇑pp,⇑pz,⇑pw,some (.int (i:Int)),⇑pb,some (.int sz)]) (_:aL H G) (_:G pp=↥(pl.map NI)) (_:G pz=↥((List.range i).map λk=>V.int ((Go.gY n ts ss k).length:Int))) (_:G pw=↥wx) (_:Paired (ŵ [pp,pz,pw] G) wx ((List.range i).map λk=>wkI (Go.qt n ts ss k))) (_:G pb=↥((wkI wk).map V.int)) (_:pb≠pp) (_:pb≠pz) (_:pb≠pw)
inductive a4C(H:Hp)(pS pp pz pw:Addr)(n:Nat)(ts:ar)(ss:ax)(i:Nat)(σ:St)(G:Hp):Prop
 |mk (wx:af) (o4 o5 o6:Option V) (_:σ=[⇑pS,⇑pp,⇑pz,⇑pw,o4,o5,o6]) (_:aL H G) (_:G pp=↥((aY n ts ss i).1.pile.map NI)) (_:G pz=↥((List.range i).map λk=>V.int ((Go.gY n ts ss k).length:Int))) (_:G pw=↥wx) (_:Paired (ŵ [pp,pz,pw] G) wx ((List.range i).map λk=>wkI (Go.qt n ts ss k)))
inductive Z7(vs:af)(H:Hp)(Q:VK)(u_3:XK):Prop
 |mk (pS:Addr) (xs:af) (ss:ax) (n:Nat) (ts:ar) (_:vs=[.ref pS]) (_:H pS=↥xs) (_:Paired (rD H) xs ss) (_:ss.length<=800) (_:Go.a1C n ts ss) (_:∀r pz pw wx H',aL H H'->H' r=↥[.ref pz,.ref pw]->H' pz=↥((List.range ss.length).map λk=>V.int ((Go.gY n ts ss k).length:Int))->H' pw=↥wx->Paired (ŵ [] H') wx ((List.range ss.length).map λk=>wkI (Go.qt n ts ss k))->Q (.ref r) H')
abbrev DZ9(K:PySem.W.Frag)(mg:Str->Option Value):=Dn K mg "_law_works" v5 ["_law_steps"]
def Kl(B:Bl mg)(Î:DZ9 K mg):⋯ 1 Î.f Î.fd ["_law_steps"] Z7:=by
 show Î.F.ok dU λd7 A outer s H vs Q E hr h=>?_;let⟨pS,xs,ss,n,ts,rfl,hS,qS,l8,R,q⟩:=h;show⟨_,(aD (aX 1 dU.nd (cF aj))
   (aD (aX 2 dU.nd (cF aj))
   (aD (aX 3 dU.nd (cF aj))
   (aD (gQ gH Z (iV Z B.range (O (aU (bR (K:=K) Z) Z B.len () (O (pv 0) aj)) aj)) (aM 4 dU.nd)
   (aD (aX 5 dU.nd (cF aj))
   (aD (aX 6 dU.nd aq)
   (jw (cM (aN Hx (aP (aO (K:=K) Z) (aP (bf (K:=K) Z) (pv 0) (pv 4)) aq) fV)
   (aD (aX 5 dU.nd (cF (O (nP (K:=K) Z jc TY T7 Gk (pv 1)) aj)))
   (aF (aX 6 dU.nd (aP (bf (K:=K) Z) (pv 2) (aP (bf (K:=K) Z) (pv 5) aq)))))
   bA)
   (jw (cM (aN jV (aP (aO (K:=K) Z) (aP (bf (K:=K) Z) (pv 0) (pv 4)) aq) fV)
   (aF (aX 5 dU.nd (bh mJ (cF (O (nP (K:=K) Z jc TY T7 Gk (pv 1)) aj)) (pv 5))))
   bA)
   (jw (cM (aN jV (aP (aO (K:=K) Z) (aP (bf (K:=K) Z) (pv 0) (pv 4)) aq) fV)
   (aF (aX 6 dU.nd (bh cX (pv 6) aq)))
   bA)
   (jw (cM (aN jV (aP (aO (K:=K) Z) (aP (bf (K:=K) Z) (pv 0) (pv 4)) aq) fV)
   (aF (aX 6 dU.nd (bh Hw (pv 6) aq)))
   bA)
   (aD (fL (iR (K:=K) Z jc PySem.F.slot_list_append PySem.F.type_list_append fC (pv 2) (O (pv 6) aj)))
   (aD (fL (iR (K:=K) Z jc PySem.F.slot_list_append PySem.F.type_list_append fC (pv 3) (O (pv 5) aj)))
   (aF (fL (iR (K:=K) Z jc PySem.F.slot_list_append PySem.F.type_list_append fC (pv 1) (O (pv 4) aj)))))))))))))
   (aF (bH (cF (O (pv 2) (O (pv 3) aj))))))))),?_⟩
 show⟨(),λpp H1 n1=>⟨(),λpz H2 n2=>⟨(),λpw H3 n3=>?_⟩⟩⟩;let s3:=n1.same.trans (n2.same.trans n3.same);let fpp:H pp=none:=n1.fresh;let fpz:H pz=none:=n1.same.free n2.fresh;let fpw:H pw=none:=(n1.same.trans n2.same).free n3.fresh;let lx:=aW qS;let tp:=Go.ś R.dJ R.sb;let zpp:pz≠pp:=λz=>by let:=n2.fresh;rw[z,n1.here]at this;cases this
 let wpp:pw≠pp:=λz=>by let:=n3.fresh;rw[z,n2.same _ _ n1.here]at this;cases this
 let wpz:pw≠pz:=λz=>by let:=n3.fresh;rw[z,n2.here]at this;cases this
 show⟨_,Z,pS,_,Z,.inl (bD.of (s3 _ _ hS)),_,Z,(),(),?_⟩;rw[ig];show zR (n:=xs.length) (λi σ G=>a4C H pS pp pz pw n ts ss i σ G) ⟨[],_,_,_,Z,s3,n3.same _ _ (n2.same _ _ n1.here),n3.same _ _ n2.here,n3.here,.nil⟩ ?_ ?_
 ·rintro D i σ G0 hi ⟨wx,o4,o5,o6,rfl,sG0,WL,Ŷ,ŷ,pW0⟩ dn _;rw[show(0:Int)+(i:Int)=(i:Int) by omega];let kl:i<ss.length:=()
  let hs:=bI kl;let SB:=R.sb i _ hs;let SE:=R.se i _ hs;let⟨vx,hvx,ŋ,rfl,hst⟩:=cO qS hs;let split:=uw (dX ss[i] (aY n ts ss i).1) (aY n ts ss i).1.pile;rw[<-SE.feed]at split;let pil:=SE.pile;let lpl:=(jx R.dJ (R.go (i+1) ())).pl;let lp0:=(jx R.dJ (R.go i ())).pl;rw[pil,cu,yR]at lpl;generalize (aY n ts ss i).1.pile.take (dX ss[i] (aY n ts ss i).1)=um at split pil lpl;generalize ss[i]=st at hs SB hst;rw[<-split]at WL;show⟨(),λpb G1 m1=>?_⟩;let S9:pb≠pp:=λz=>by let:=m1.fresh;rw[z,WL]at this;cases this
  let WM:pb≠pz:=λz=>by let:=m1.fresh;rw[z,Ŷ]at this;cases this
  let WN:pb≠pw:=λz=>by let:=m1.fresh;rw[z,ŷ]at this;cases this
  let Wn:=sG0.trans m1.same;show Bq (P:=λσ' G'=>a1J H pS pp pz pw n ts ss i (um++(Go.qt n ts ss i).dropLast) (Go.qt n ts ss i).getLast?.toList (szF n ts ss (Go.qt n ts ss i)) σ' G') λJ1 ji ij=>⟨J1,?_,?_⟩
  ·show⟨_,Z,_,Z,pS,_,_,_,Z,Z,bD.of (Wn _ _ hS),bW hvx,ŋ,st.vs,0,.str st.word,Z,Z,cJ.of (Wn _ _ hst),yp st,Z,_,Z,?_⟩;rw[Up.a4w];by_cases c0:st.tag=0
   ·rw[aV c0];let ef:Go.qt n ts ss i=[]:=by cases SB<;>first|assumption|cases c0
    rw[ef]at WL;show dB (ji _ _ ?_);rw[ef];show⟨pb,wx,Z,Wn,m1.same _ _ WL,m1.same _ _ Ŷ,m1.same _ _ ŷ,Paired.cA pW0 λ_ _ z=>z.same m1.same,m1.here,S9,WM,WN⟩
   ·rw[cI c0];obtain⟨f0,j,ef,lt⟩:∃f0 j,Go.qt n ts ss i=f0++[j]/\j<i:=by
     cases SB with
     |leaf=>show absurd Z c0
     | @inn i' v ef lt=>show⟨[],i',ef,lt⟩
     | @tie i' a b ef lt=>show⟨[],i',ef,lt⟩
     | @out i' v ef lt=>show⟨[],i',ef,lt⟩
     | @join i' j' ef lt lt'=>show⟨[i'],j',ef,lt'⟩
    let e1:(Go.qt n ts ss i).dropLast=f0:=by rw[ef];show Cv
    let e2:szF n ts ss (Go.qt n ts ss i)=((Go.gY n ts ss j).length:Int):=by unfold szF;rw[ef,Mz]
    let e3:(Go.qt n ts ss i).getLast?.toList=[j]:=by rw[ef,Mz];rfl
    rw[ef,<-vH,cW]at WL;let a6U:G1 pp=↥((um++f0).map NI++[NI j]):=m1.same _ _ WL;show iQ ⟨_,Z,.inl ⟨Z,_,bD.of a6U⟩,pp,_,NI j,Z,Z,a6U,λG2 c2=>⟨(),λp3 G3 m3=>?_⟩⟩;let s2:=Wn.chg fpp c2;let hz3:G3 pz=_:=m3.same _ _ ((c2.rest pz zpp).trans (m1.same _ _ Ŷ));let hzj:((List.range i).map λk=>V.int ((Go.gY n ts ss k).length:Int))[j]?=some (.int ((Go.gY n ts ss j).length:Int)):=by rw[cH,Ug lt];rfl
    show⟨_,Z,_,Z,p3,_,_,NI j,Z,Z,bD.of m3.here,Z,pz,_,_,_,Z,Z,bD.of hz3,bW hzj,ji _ _ ?_⟩;rw[e1,e2,e3];show⟨p3,wx,Z,s2.trans m3.same,m3.same _ _ c2.here,hz3,m3.same _ _ ((c2.rest pw wpp).trans (m1.same _ _ ŷ)),Paired.cA pW0 λ_ _ z=>((z.same m1.same).chg aZ c2).same m3.same,m3.here,?_,?_,?_⟩
    ·intro z;let:=m3.fresh;rw[z,c2.here]at this;cases this
    ·intro z;let:=m3.fresh;rw[z,(c2.rest pz zpp).trans (m1.same _ _ Ŷ)]at this;cases this
    ·intro z;let:=m3.fresh;rw[z,(c2.rest pw wpp).trans (m1.same _ _ ŷ)]at this;cases this
  clear WL Ŷ ŷ pW0 m1 Wn S9 WM WN;intro σ1 G mj;let⟨pb,wx,rfl,sG,Dz,hpz,PX,pW,hb,S9,WM,WN⟩:=ij _ _ mj;clear ji ij mj;show Bq (P:=λσ' G'=>a1J H pS pp pz pw n ts ss i um (Go.qt n ts ss i) (szF n ts ss (Go.qt n ts ss i)) σ' G') λJ2 ji ij=>⟨J2,?_,?_⟩
  ·show⟨_,Z,_,Z,pS,_,_,_,Z,Z,bD.of (sG _ _ hS),bW hvx,ŋ,st.vs,0,.str st.word,Z,Z,cJ.of (sG _ _ hst),yp st,Z,_,Z,?_⟩;rw[Up.ũ];by_cases c0:st.tag=4
   ·rw[aV c0];obtain⟨i',j',ed⟩:∃i' j',Go.qt n ts ss i=[i',j']:=by
     cases SB with
     | @join i' j' ef=>show⟨i',j',ef⟩
     |_=>cases c0
    rw[ed]at Dz hb;rw[show [i',j'].dropLast=[i']from Z,cW]at Dz;show iQ ⟨_,Z,.inl ⟨Z,_,bD.of Dz⟩,pp,_,NI i',Z,Z,Dz,λG2 c2=>⟨(),λp4 G3 m3=>?_⟩⟩;let hb3:=m3.same _ _ ((c2.rest pb S9).trans hb);show⟨_,Z,p4,pb,_,_,Z,Z,m3.here,hb3,(),λp5 G4 m4=>?_⟩;let K8:=m3.same.trans m4.same;let ne:∀{p:Addr}{o:HO},G2 p=some o->p5≠p:=λh z=>by let:=m4.fresh;rw[z,m3.same _ _ h]at this;cases this
    let hz2:=(c2.rest pz zpp).trans hpz;let hw2:=(c2.rest pw wpp).trans PX;show ji _ _ ⟨p5,wx,Z,(sG.chg fpp c2).trans K8,K8 _ _ c2.here,K8 _ _ hz2,K8 _ _ hw2,Paired.cA pW λ_ _ z=>(z.chg aZ c2).same K8,(by rw[ed];show m4.here),ne c2.here,ne hz2,ne hw2⟩
   ·rw[cI c0];let ed:(Go.qt n ts ss i).dropLast=[]/\(Go.qt n ts ss i).getLast?.toList=Go.qt n ts ss i:=by
     cases SB with
     |join=>show absurd Z c0
     |leaf ef=>rw[ef];show⟨Z,Z⟩
     |inn ef=>rw[ef];show⟨Z,Z⟩
     |tie ef=>rw[ef];show⟨Z,Z⟩
     |out ef=>rw[ef];show⟨Z,Z⟩
    rw[ed.1,jE]at Dz;rw[ed.2]at hb;show dB (ji _ _ ⟨pb,wx,Z,sG,Dz,hpz,PX,pW,hb,S9,WM,WN⟩)
  clear Dz hpz PX pW hb sG S9 WM WN;intro σ1 G mj;let⟨pb,wx,rfl,sG,Dz,hpz,PX,pW,hb,S9,WM,WN⟩:=ij _ _ mj;clear ji ij mj;show Bq (P:=λσ' G'=>a1J H pS pp pz pw n ts ss i um (Go.qt n ts ss i) (if st.tag=1 then((Go.gY n ts ss i).length:Int)else szF n ts ss (Go.qt n ts ss i)) σ' G') λJ3 ji ij=>⟨J3,?_,?_⟩
  ·show⟨_,Z,_,Z,pS,_,_,_,Z,Z,bD.of (sG _ _ hS),bW hvx,ŋ,st.vs,0,.str st.word,Z,Z,cJ.of (sG _ _ hst),yp st,Z,_,Z,?_⟩;rw[Up.a8k];by_cases c0:st.tag=1
   ·rw[aV c0];rw[aB c0]at ji;let eu:szF n ts ss (Go.qt n ts ss i)+1=((Go.gY n ts ss i).length:Int):=by
     cases SB with
     | @inn i' v ef lt v0 vn nv et =>
      let:=Go.Yl R.dJ (tp i' ()).1 (tp i' ()).2 (v:=v) ⟨v0,vn⟩ nv;rw[ef,et];show((Go.gY n ts ss i').length:Int)+1=_;omega
     |_=>cases c0
    show iQ ⟨_,Z,_,_,Z,Z,?_⟩;dsimp only[yJ,List.set];rw[eu];show ji _ _ ⟨pb,wx,Z,sG,Dz,hpz,PX,pW,hb,S9,WM,WN⟩
   ·rw[cI c0];rw[aA c0]at ji;show dB (ji _ _ ⟨pb,wx,Z,sG,Dz,hpz,PX,pW,hb,S9,WM,WN⟩)
  clear Dz hpz PX pW hb sG S9 WM WN;intro σ1 G mj;let⟨pb,wx,rfl,sG,Dz,hpz,PX,pW,hb,S9,WM,WN⟩:=ij _ _ mj;clear ji ij mj;show Bq (P:=λσ' G'=>a1J H pS pp pz pw n ts ss i um (Go.qt n ts ss i) ((Go.gY n ts ss i).length:Int) σ' G') λJ4 ji ij=>⟨J4,?_,?_⟩
  ·show⟨_,Z,_,Z,pS,_,_,_,Z,Z,bD.of (sG _ _ hS),bW hvx,ŋ,st.vs,0,.str st.word,Z,Z,cJ.of (sG _ _ hst),yp st,Z,_,Z,?_⟩;rw[Up.a6L];by_cases c0:st.tag=3
   ·rw[aV c0];let eu:(if st.tag=1 then((Go.gY n ts ss i).length:Int)else szF n ts ss (Go.qt n ts ss i))-1=((Go.gY n ts ss i).length:Int):=by
     rw[aA ()];cases SB with
     | @out i' v ef lt mv et =>
      let e1:=ä mv;rw[WK (Go.Jt (tp i' ()).1),<-et]at e1;let:=List.length_pos_of_mem mv;rw[ef];show((Go.gY n ts ss i').length:Int)-1=_;omega
     |_=>cases c0
    show iQ ⟨_,Z,_,_,Z,Z,?_⟩;dsimp only[yJ,List.set];rw[eu];show ji _ _ ⟨pb,wx,Z,sG,Dz,hpz,PX,pW,hb,S9,WM,WN⟩
   ·rw[cI c0];let eb:(if st.tag=1 then((Go.gY n ts ss i).length:Int)else szF n ts ss (Go.qt n ts ss i))=((Go.gY n ts ss i).length:Int):=by
     cases SB with
     |leaf ef et=>rw[ef,et];rfl
     |inn=>rfl
     |tie ef lt _ _ _ et=>rw[ef,et];rfl
     |out=>show absurd Z c0
     |join ef lt lt' e1 et=>rw[ef,et,e1];rfl
    rw[eb];show dB (ji _ _ ⟨pb,wx,Z,sG,Dz,hpz,PX,pW,hb,S9,WM,WN⟩)
  clear Dz hpz PX pW hb sG S9 WM WN;intro σ1 G mj;let⟨pb,wx,rfl,sG,Dz,hpz,PX,pW,hb,S9,WM,WN⟩:=ij _ _ mj;clear ji ij mj;let lt0:wx.length=i:=by rw[aW pW,aH,oU]
  show⟨_,Z,.inl ⟨Z,_,bD.of hpz⟩,_,Z,pz,_,_,Z,Z,hpz,(by rw[aH,oU];omega),λG1 c1=>?_⟩;let hw1:=(c1.rest pw wpz).trans PX;show⟨_,Z,.inl ⟨Z,_,bD.of hw1⟩,_,Z,pw,_,_,Z,Z,hw1,(),λG2 c2=>?_⟩;let hp2:=(c2.rest pp wpp.symm).trans ((c1.rest pp zpp.symm).trans Dz);show⟨_,Z,.inl ⟨Z,_,bD.of hp2⟩,_,Z,pp,_,_,Z,Z,hp2,(by rw[aH];omega),λG3 c3=>?_⟩;let go:∀{v b},ŵ [pp,pz,pw] G v b->ŵ [pp,pz,pw] G3 v b:=λz=>((z.chg (bJ _ aZ) c1).chg (bJ _ (bJ _ aZ)) c2).chg aZ c3;show dn _ _ ⟨wx++[.ref pb],_,_,_,Z,((sG.chg fpz c1).chg fpw c2).chg fpp c3,?_,?_,(c3.rest pw wpp).trans c2.here,?_⟩
  ·rw[c3.here,pil,cW];rfl
  ·rw[(c3.rest pz zpp).trans ((c2.rest pz wpz.symm).trans c1.here),rU,cW];rfl
  ·rw[rU,cW];show eX (Paired.cA pW λ_ _ z=>go z) (go ⟨pb,Z,hb,λz=>?_⟩);rcases bO.mp z with z|z
   ·show S9 z
   ·rcases bO.mp z with z|z
    ·show WM z
    ·show WN (bK.mp z)
 ·rintro σ G ⟨wx,o4,o5,o6,rfl,sG,Dz,hpz,PX,pW⟩;rw[show xs.length=ss.length from lx]at pW hpz;show⟨_,Z,_,Z,(),λr G2 m2=>?_⟩;show q r pz pw wx G2 (sG.trans m2.same) m2.here (m2.same _ _ hpz) (m2.same _ _ PX) (Paired.cA pW λ_ _ z=>by
   let⟨p,e,h1,_⟩:=z;show⟨p,e,m2.same _ _ h1,dZ⟩)
abbrev kY:Stmt:=top 49
def gZ:bN ["_law_one","_law_other","_law_labels","_law_label","_law_firsts","_law_k","_law_to","_law_gone","_law_names","_law_state"] xH (aG kY):={}
inductive a1K(vs:af)(H:Hp)(Q:VK)(u_3:XK):Prop
 |mk (a b:Addr) (s t:dW) (m:Nat) (_:vs=[.ref a,.ref b]) (_:oO H a s) (_:oO H b t) (_:s.length=m+1) (_:t.length=m+1) (_:m<=10) (_:D1.Ca s t=none->∀H',aL H H'->Q .non H') (_:∀x,D1.Ca s t=some x->∀p H',aL H H'->oO H' p x->Q (.ref p) H')
set_option tactic.hygienic true in
def RT(B:Bl mg)(Tc:Dn K mg "_law_met" kY xH):⋯ 1 Tc.f Tc.fd xH a1K:=by
 show Tc.F.ok gZ λd7 A outer s H vs Q E hr h=>?_;let⟨a,b,st,tt,m,rfl,ha,hb,ls,lt,m10,qn,qs⟩:=h;let hv:(A.deeper (PyProof.Rows.envOfC "_law_met" (aG kY) s⁻¹ Tc.f d7)).units+65<cLine:=by let:=hr.un;omega
 let hw1:(A.deeper (PyProof.Rows.envOfC "_law_met" (aG kY) s⁻¹ Tc.f d7)).units+1<cLine:=()
 show⟨_,(aD (cM (aN uY (bh cX (aP (aO (K:=K) Z) (pv 0) aq) (aP (aO (K:=K) Z) (pv 1) aq)) aq)
   (aF (bH nM))
   bA)
   (aD (sJ (i:=2) ["_law_label"] [none] gZ.nd Z Z (by kernel_rfl) Z (Ar (K:=K) Z (fj mL (pv 0) (gb aq) fZ)) (λ_ _ _ _ _=>(aM 0 (show(["_law_label"]:ag).Nodup by decide))) (λ_ _ _ _ _=>gj) (λ_ _ _ _ _=>(bh vN (pv 0) aq)) (by rfl))
   (aD (aX 4 gZ.nd Ih)
   (aD (gQ gH Z (iV Z B.range (O (aU (bR (K:=K) Z) Z B.len () (O (pv 2) aj)) aj)) (aM 5 gZ.nd)
   (aD (cM (aN Hx (yc jV (aP (bf (K:=K) Z) (pv 2) (pv 5)) aq) (yc jV (aP (aO (K:=K) Z) (pv 1) (bh cX (pv 5) aq)) aq))
   (aF (bH nM))
   bA)
   (jw (cM (PW.pt (oZ (aN uY (aP (bf (K:=K) Z) (pv 2) (pv 5)) aq) (qg (aN (a3J hw1) (aP (aO (K:=K) Z) (pv 1) (bh cX (pv 5) aq)) (pv 4) (by with_unfolding_all rfl)))))
   (aD (aX 6 gZ.nd (aP (bf (K:=K) Z) (pv 2) (yj hw1 (pv 4) (aP (aO (K:=K) Z) (pv 1) (bh cX (pv 5) aq)) λ_ _=>rfl)))
   (aD (cM (aN jV (pv 6) (aP (bf (K:=K) Z) (pv 2) (pv 5)))
   (aF (bH nM))
   bA)
   (aD (aX 7 gZ.nd (aP (bf (K:=K) Z) (pv 2) (pv 5)))
   (aF (sJ (i:=2) ["_law_label","_law_to","_law_gone"] [none,some 6,some 7] gZ.nd Z Z (by kernel_rfl) Z (eE (K:=K) Z (pv 2)) (λ_ _ _ _ _=>(aM 0 (show(["_law_label","_law_to","_law_gone"]:ag).Nodup by decide))) (λ_ _ _ _ _=>gj) (λ_ _ _ _ _=>(nO (aN jV (pv 0) (pv 2)) (pv 1) (pv 0))) (by rfl))))))
   bA)
   (aF (vM (pv 5) (Ob (pv 4) (aP (aO (K:=K) Z) (pv 1) (bh cX (pv 5) aq)) (Zg hw1)))))))
   (aD (aX 8 gZ.nd (cF (O aq aj)))
   (aD (aX 9 gZ.nd (cF (O (bh cX (aP (aO (K:=K) Z) (pv 0) aq) (aP (aO (K:=K) Z) (pv 1) aq)) aj)))
   (aD (gQ gH Z (eE (K:=K) Z (pv 2)) (aM 3 gZ.nd)
   (jw (cM (aN (iC (K:=K) Z hv) (pv 3) (pv 8) (by with_unfolding_all rfl))
   (aF (fL (iR (K:=K) Z jc PySem.F.slot_list_append PySem.F.type_list_append fC (pv 8) (O (pv 3) aj))))
   bA)
   (aF (fL (iR (K:=K) Z jc PySem.F.slot_list_append PySem.F.type_list_append fC (pv 9) (O (iR (K:=K) Z PySem.F.plainAttrs_list PySem.F.slot_list_index PySem.F.type_list_index Dv (pv 8) (O (pv 3) aj)) aj))))))
   (aF (bH (jL uI Z B.tuple () (O (pv 9) aj))))))))))),?_⟩
 obtain⟨c0,r,rfl⟩:∃c r,st=c::r:=by
  cases st with
  |nil=>cases ls
  |cons c r=>show⟨c,r,Z⟩
 obtain⟨d0,os,rfl⟩:∃c r,tt=c::r:=by
  cases tt with
  |nil=>cases lt
  |cons c r=>show⟨c,r,Z⟩
 let lr:r.length=m:=Nat.succ.inj ls;let lo:os.length=m:=Nat.succ.inj lt;show⟨_,Z,a,_,_,.int c0,Z,Z,cJ.of ha,S6 (s:=c0::r) (i:=0) (),_,Z,b,_,_,.int d0,Z,Z,cJ.of hb,S6 (s:=d0::os) (i:=0) (),_,_,Z,Z,_,_,Z,Z,_,Z,nC (λc=>?_) λc=>?_⟩
 ·let c':1<c0+d0:=dw c;show qn (aB c') _ (.refl _)
 let eM:D1.Ca (c0::r) (d0::os)=(D1.uq os (List.range m) (r.map λx=>x*20)).map (D1.nmd (c0+d0)):=by
  show(if 1<c0+d0 then none else(D1.uq os (List.range r.length) (r.map λx=>x*20)).map (D1.nmd (c0+d0)))=_;rw[aA (λz:1<c0+d0=>c (aV z)),lr]
 rw[eM]at qn qs;clear eM c;show⟨_,Z,_,Z,a,_,Z,ha,λp1 G1 s1 h1=>?_⟩;try dsimp only at h1
 rw[show(1:Int)=((1:Nat):Int)from Z,rC (c0::r) 1 ()]at h1;show⟨p1,Z,⟨_,cJ.of h1⟩,?_⟩;show Pa (K:=K) (a:=p1) (xs:=r.map V.int) (λi ys G=>G=G1/\ys=((r.take i).map λx=>x*20).map V.int) ⟨Z,Z⟩ (λi ys G hi ⟨e,ey⟩=>⟨by rw[e];show cJ.of h1,by rw[ey,aH,aH,dY];show eY (cL ())⟩) (λi x ys G hx ⟨e,ey⟩=>?_) (λys G ⟨e,ey⟩ pl hpl=>?_)
 ·rw[cH]at hx;let⟨z,hz,rfl⟩:=jP.mp hx;let et:r.take (i+1)=r.take i++[z]:=by rw[iz,hz];rfl
  show⟨_,Z,_,_,Z,Z,.inr ⟨(),()⟩,e,by rw[et,cW,cW,ey];rfl⟩
 subst e;rw[aH,gw]at ey;rw[ey];let n2:=iG.nD (H:=G) (p:=pl) (o:=.lst ((r.map λx=>x*20).map V.int)) hpl;generalize cU G pl (.lst ((r.map λx=>x*20).map V.int))=G2 at n2 ⊢;let s2:=s1.trans n2.same;intro pd hd;let n3:=iG.nD (H:=G2) (p:=pd) (o:=.dK []) hd;generalize cU G2 pd (.dK [])=G3 at n3 ⊢;let s3:=s2.trans n3.same;let l20:(r.map λx=>x*20).length=m:=by rw[aH,lr]
 show⟨_,Z,pl,_,Z,.inl (bD.of (n3.same _ _ n2.here)),_,Z,(),(by rw[aH,l20];omega),?_⟩;rw[ig,aH,l20];generalize (r.map λx=>x*20)=ls0 at n2 l20 qn qs;let hb3:=s3 _ _ hb;let nbd:b≠pd:=λz=>by let:=n3.fresh;rw[<-z,s2 _ _ hb]at this;cases this
 let npd:pl≠pd:=λz=>by let:=n3.fresh;rw[<-z,n2.here]at this;cases this
 show Wj (P:=λi σ G=>∃(pl:Addr) (o5 o6 o7:Option V) (ls:ae) (J:List (Key×V)),σ=[⇑a,⇑b,⇑pl,none,⇑pd,o5,o6,o7,none,none]/\Sd pd G3 G/\G pl=↥(ls.map V.int)/\pl≠pd/\ls.length=m/\D1.uq os (List.range m) ls0=D1.uq os ((List.range m).drop i) ls/\G pd=some (.dK J)/\J.length<=i/\∀x:Int,dh J (.inl x)=(((List.range i).reverse.find? λj=>decide (dD os j=x)).map λj=>V.int ((j:Nat):Int))) λZ97 ji ij=>uX (n:=m) Z97 (ji _ _ _ ⟨pl,_,_,_,ls0,[],Z,.refl,n3.same _ _ n2.here,npd,l20,Z,n3.here,aK _,λx=>rfl⟩) ?_ ?_
 ·intro i σ G hi h1;let⟨pl,o5,o6,o7,oM,J,rfl,sG,hl,ZD,ll,eg,hk,lk,vk⟩:=ij _ _ _ h1;rw[show(0:Int)+(i:Int)=(i:Int) by omega];let sS:=Cd (s2.trans n3.same) (s2.free n3.fresh) (sG);let hbG:=sG _ _ nbd hb3;let hli:(oM.map V.int)[i]?=some (.int (dD oM i)):=by
   rw[cH,bI ()];unfold dD;rw[fY,bI ()];rfl
  let dr:(List.range m).drop i=i::(List.range m).drop (i+1):=by
   rw[wN (by rw[oU];show hi),List.getElem_range]
  rw[dr]at eg;show⟨_,Z,_,Z,pl,_,_,_,Z,Z,bD.of hl,bW hli,Z,_,Z,_,Z,_,_,Z,Z,b,_,_,.int (dD (d0::os) (i+1)),Z,Z,cJ.of hbG,S6 (i:=i+1) (by show i+1<os.length+1;omega),Z,Z,_,Z,nC (λc=>?_) λc=>?_⟩
  ·let c':decide (dD oM i=0)≠decide (dD os i=0):=by
    intro e;let e:decide (V.int (dD oM i)=V.int 0)=decide (V.int (dD (d0::os) (i+1))=V.int 0):=by
     rw[xZ,xZ];show(Mw _ _).trans (e.trans (Mw _ _).symm)
    rw[e]at c;simp at c
   show qn ?_ _ sS;rw[eg];show(if _=_ then _ else(none:Option (ae))).map _=none;rw[aA c'];rfl
  let c':decide (dD oM i=0)=decide (dD os i=0):=by
   let c:decide (V.int (dD oM i)=V.int 0)=decide (V.int (dD (d0::os) (i+1))=V.int 0):=by simpa using c
   rw[xZ,xZ]at c;show(Mw _ _).symm.trans (c.trans (Mw _ _))
  let eg:D1.uq os (List.range m) ls0=if 0<dD oM i then(match D1.RN os i with
    |none=>D1.uq os ((List.range m).drop (i+1)) oM
    |some j=>if dD oM j=dD oM i then none else D1.uq os ((List.range m).drop (i+1)) (D1.Ys oM j i))else D1.uq os ((List.range m).drop (i+1)) oM:=eg.trans (aB c')
  clear c c' dr;let vi:dh J (.inl (dD os i))=(D1.RN os i).map λj=>V.int ((j:Nat):Int):=vk _;show Bq (P:=λσ' G'=>∃(pl:Addr) (o6 o7:Option V) (ls2:ae),σ'=[⇑a,⇑b,⇑pl,none,⇑pd,some (.int (i:Int)),o6,o7,none,none]/\aL G G'/\G' pl=↥(ls2.map V.int)/\pl≠pd/\ls2.length=m/\D1.uq os (List.range m) ls0=D1.uq os ((List.range m).drop (i+1)) ls2) λJ1 jm mj=>⟨J1,?_,?_⟩
  ·show a6w (c1:=decide (0<dD oM i)) (c2:=(dh J (.inl (dD os i))).isSome) (λQ h=>⟨_,Z,_,Z,pl,_,_,_,Z,Z,bD.of hl,bW hli,_,_,Z,Z,_,Z,h⟩) (λQ h=>⟨_,Z,_,Z,_,_,Z,Z,b,_,_,.int (dD (d0::os) (i+1)),Z,Z,cJ.of hbG,S6 (i:=i+1) (by show i+1<os.length+1;omega),_,Z,dD (d0::os) (i+1),pd,J,Z,Z,hk,_,Z,h⟩) (λc=>?_) (λc=>?_)
   ·let c1:0<dD oM i:=dw c.1;rw[aB c1]at eg;rw[vi]at c;cases ej:D1.RN os i with
    |none=>rw[ej]at c;show absurd c.2 cN
    |some j =>
     rw[ej]at eg vi;dsimp only at eg;let ji':j<i:=by
      let:=List.mem_of_find?_eq_some ej;rw[Uw,gA]at this;show this
     let hlj:(oM.map V.int)[j]?=some (.int (dD oM j)):=by
      rw[cH,bI ()];unfold dD;rw[fY,bI ()];rfl
     let dg:xq G pd (.int (dD (d0::os) (i+1))) (some (.int (j:Int))):=by
      let:=xq.k (k:=.inl (dD os i)) hk;rw[vi]at this;show this
     show⟨_,Z,_,Z,_,Z,_,Z,_,_,Z,Z,b,_,_,.int (dD (d0::os) (i+1)),Z,Z,cJ.of hbG,S6 (i:=i+1) (by show i+1<os.length+1;omega),pd,.int (j:Int),Z,dg,pl,_,_,_,Z,Z,bD.of hl,bW hlj,?_⟩;show⟨_,Z,_,Z,_,Z,pl,_,_,_,Z,Z,bD.of hl,bW hli,Z,_,Z,nC (λc=>?_) λc=>?_⟩
     ·let c':dD oM j=dD oM i:=V.int.inj (dw c);show qn ?_ _ sS;rw[eg,aB c'];rfl
     let c':¬dD oM j=dD oM i:=λz=>c (aV (congrArg V.int z));rw[aA c']at eg;show⟨_,Z,_,Z,pl,_,_,_,Z,Z,bD.of hl,bW hli,⟨_,Z,pl,Z,⟨_,bD.of hl⟩,?_⟩⟩;show tV (K:=K) (a:=pl) (xs:=oM.map V.int) (λk ys G'=>G'=G/\ys=((oM.take k).map λx=>if x=dD oM i then dD oM j else x).map V.int) ⟨Z,Z⟩ (λk ys G' hi ⟨e,ey⟩=>⟨by rw[e];show bD.of hl,by rw[ey,aH,aH,dY];show eY (cL ())⟩) (λk x ys G' hx ⟨e,ey⟩=>?_) (λys G' ⟨e,ey⟩ p9 hp9=>?_)
     ·rw[cH]at hx;let⟨z,hz,rfl⟩:=jP.mp hx;let et:oM.take (k+1)=oM.take k++[z]:=by rw[iz,hz];rfl
      show⟨_,Z,_,Z,Z,_,Z,nC (λc=>?_) λc=>?_⟩
      ·let c':z=dD oM i:=V.int.inj (dw c);show⟨_,Z,e,?_⟩;rw[et,cW,cW,ey];show _=_++[V.int (if z=dD oM i then dD oM j else z)];rw[aB c']
      ·let c':¬z=dD oM i:=λe=>c (aV (congrArg V.int e));show⟨_,Z,e,?_⟩;rw[et,cW,cW,ey];show _=_++[V.int (if z=dD oM i then dD oM j else z)];rw[aA c']
     ·subst e;rw[aH,gw]at ey;let n9:=iG.nD (H:=G') (p:=p9) (o:=.lst ys) hp9;generalize cU G' p9 (.lst ys)=G9 at n9 ⊢;show jm _ _ ⟨p9,_,_,D1.Ys oM j i,Z,n9.same,by rw[n9.here,ey];rfl,(λz=>by let:=n9.fresh;rw[z,hk]at this;cases this),by unfold D1.Ys;rw[aH,ll],eg⟩
   ·show jm _ _ ⟨pl,_,_,oM,Z,.refl _,hl,ZD,ll,?_⟩;rw[eg];split
    ·rename_i c1;cases ej:D1.RN os i with
     |none=>rfl
     |some j=>show absurd ⟨aV c1,by rw[vi,ej];rfl⟩ c
    ·rfl
  intro σ' G' h2;let⟨pl,o6,o7,ls2,rfl,Yc,hl,ZD,ll,eg⟩:=mj _ _ h2;clear jm mj h2;let hk':=Yc _ _ hk;let a8l:=Yc _ _ hbG;show⟨_,Z,_,Z,_,Z,_,Z,_,_,Z,Z,b,_,_,.int (dD (d0::os) (i+1)),Z,Z,cJ.of a8l,S6 (i:=i+1) (by show i+1<os.length+1;omega),pd,_,J,Z,Z,hk',(),λG4 cg=>ji _ _ _ ⟨pl,_,_,_,ls2,_,Z,(sG.trans (.of Yc)).trans (.Rb cg),(cg.rest pl ZD).trans hl,ZD,ll,eg,cg.here,?_,λx=>?_⟩⟩
  ·let:=tY J (.inl (dD (d0::os) (i+1))) (V.int (i:Int));omega
  ·rw[QW,vk,rU,List.reverse_append];show(if(Sum.inl x:Key)=.inl (dD os i)then _ else _)=((i::(List.range i).reverse).find? _).map _;by_cases e:x=dD os i
   ·rw[aB (by rw[e]),rO (by show aV e.symm)];rfl
   ·rw[aA (λz=>e (Sum.inl.inj z)),rP (by show λz=>e (dw z).symm)]
 ·intro σ G h1;let⟨pl,o5,o6,o7,oM,J,rfl,sG,hl,ZD,ll,eg,hk,lk,vk⟩:=ij _ _ _ h1;clear ij ji h1;rw[Mu (by rw[oU];show aK _)]at eg;let qs:=qs (D1.nmd (c0+d0) oM) (by rw[eg];rfl);clear qn eg vk;let sS:=Cd (s2.trans n3.same) (s2.free n3.fresh) sG;let haG:=sS _ _ ha;let hbG:=sS _ _ hb;show⟨(),λpn K1 k1=>?_⟩;show⟨_,Z,a,_,_,.int c0,Z,Z,cJ.of (k1.same _ _ haG),S6 (s:=c0::r) (i:=0) (),_,Z,b,_,_,.int d0,Z,Z,cJ.of (k1.same _ _ hbG),S6 (s:=d0::os) (i:=0) (),_,_,Z,Z,(),λps K2 k2=>?_⟩;let ne:ps≠pn:=λz=>by let:=k2.fresh;rw[z,k1.here]at this;cases this
  let k12:=k1.same.trans k2.same;let hl2:=k12 _ _ hl;let nln:pl≠pn:=λz=>by let:=k1.fresh;rw[<-z,hl]at this;cases this
  let nls:pl≠ps:=λz=>by let:=k2.fresh;rw[<-z,k1.same _ _ hl]at this;cases this
  let fn:G pn=none:=k1.fresh;let fs:G ps=none:=k1.same.free k2.fresh;let up:∀{Z98:Hp},(∀b u,b≠pn->b≠ps->K2 b=some u->Z98 b=some u)->aL G Z98:=λ{Z98} s b u e=>s b u (λz=>by rw[z,fn]at e;cases e) (λz=>by rw[z,fs]at e;cases e) (k12 _ _ e);show⟨_,Z,pl,Z,⟨_,bD.of hl2⟩,Wj (P:=λi σ Z98=>P4 (T1 (λo3=>[⇑a,⇑b,⇑pl,o3,⇑pd,o5,o6,o7,⇑pn,⇑ps]) σ) (∀b u,b≠pn->b≠ps->K2 b=some u->Z98 b=some u) (λ_:Unit=>Z98 pn=↥((D1.iU [0] (oM.take i)).map V.int)) λ_=>Z98 ps=↥(((D1.nmd (c0+d0) oM).take (i+1)).map V.int)) λZ97 ji ij=>sy (K:=K) (a:=pl) (xs:=oM.map V.int) Z97 (ji _ _ _ ⟨⟨_,Z⟩,λ_ _ _ _ e=>e,⟨⟩,k2.same _ _ k1.here,k2.here⟩) (λi σ Z98 _ h=>bD.of ((ij _ _ _ h).s _ _ nln nls hl2)) ?_ ?_⟩
  ·intro i x σ Z98 hx h1;let⟨⟨o4,rfl⟩,sM,_,hN,hS⟩:=ij _ _ _ h1;rw[cH]at hx;let⟨z,hz,rfl⟩:=jP.mp hx;let il:i<oM.length:=(eG.mp hz).1;let et:oM.take (i+1)=oM.take i++[z]:=by rw[iz,hz];rfl
   let ln:=D1.Ef (oM.take i) [0];rw[dY]at ln;let l1:([0]:ae).length=1:=rfl;show Bq (P:=λσ' M'=>σ'=[⇑a,⇑b,⇑pl,some (.int z),⇑pd,o5,o6,o7,⇑pn,⇑ps]/\(∀b u,b≠pn->b≠ps->K2 b=some u->M' b=some u)/\M' pn=↥((D1.iU [0] (oM.take (i+1))).map V.int)/\M' ps=↥(((D1.nmd (c0+d0) oM).take (i+1)).map V.int)) λJ1 jm mj=>⟨J1,?_,?_⟩
   ·rw[et,D1.JD]at jm;show⟨_,Z,_,Z,rF (bD.of hN) ⟨_,Z,?_⟩⟩;by_cases c0:z∈D1.iU [0] (oM.take i)
    ·rw[aV c0];rw[aB c0]at jm;show dB (jm _ _ ⟨Z,sM,hN,hS⟩)
    ·rw[cI c0];rw[aA c0]at jm;show iQ ⟨_,Z,.inl ⟨Z,_,bD.of hN⟩,_,Z,pn,_,_,Z,Z,hN,(by rw[aH];omega),λM1 cg=>jm _ _ ⟨Z,λb u h1 h2 e=>(cg.rest b h1).trans (sM b u h1 h2 e),by rw[cg.here,cW];rfl,(cg.rest ps ne).trans hS⟩⟩
   intro σ1 M1 h2;let⟨rfl,sM1,hN1,hS1⟩:=mj _ _ h2;clear jm mj h2;let zm:z∈D1.iU [0] (oM.take (i+1)):=D1.Lr (by rw[et];show fG _ (wO z));let iv:=zA zm;let ln2:=D1.Ef (oM.take (i+1)) [0];rw[dY]at ln2;let ei:(D1.iU [0] (oM.take (i+1))).idxOf z=(D1.iU [0] oM).idxOf z:=by
    conv=>rhs;rw[<-uw (i+1) oM]
    rw[D1.Lq,D1.Z6 zm]
   let en:(D1.nmd (c0+d0) oM).take (i+1+1)=(D1.nmd (c0+d0) oM).take (i+1)++[(((D1.iU [0] oM).idxOf z:Nat):Int)]:=by
    rw[iz];congr 1;show(oM.map _)[i]?.toList=_;rw[cH,hz];rfl
   show⟨_,Z,.inl ⟨Z,_,bD.of hS1⟩,_,Z,.inl ⟨Z,_,bD.of hN1⟩,_,Z,pn,_,z,_,Z,Z,hN1,iv.1,iv.2,(),ps,_,_,Z,Z,hS1,(by rw[aH,dY];omega),λM2 cg=>ji _ _ _ ⟨⟨_,Z⟩,λb u h1 h2 e=>(cg.rest b h2).trans (sM1 b u h1 h2 e),⟨⟩,(cg.rest pn ne.symm).trans hN1,?_⟩⟩;rw[cg.here,en,cW,<-ei];rfl
  ·intro σ Z98 h1;let⟨⟨o4,rfl⟩,sM,_,hN,hS⟩:=ij _ _ _ h1;rw[aH,Cp (by show(oM.map _).length+1<=_;rw[aH];show aK _)]at hS;show⟨_,Z,ps,_,Z,.inl ⟨bD.of hS,λl hl=>?_⟩⟩;let n9:=iG.nD (H:=Z98) (p:=l) (o:=.tup ((D1.nmd (c0+d0) oM).map V.int)) hl;show qs l _ ((sS.trans (up sM)).trans n9.same) n9.here
abbrev nA:Stmt:=top 50
def gV:bN ["_law_one","_law_other","_law_due","_law_state","_law_row","_law_mate","_law_more","_law_new","_law_best"] xH (aG nA):={}
inductive Ÿ(vs:af)(H:Hp)(Q:VK)(u_3:XK):Prop
 |mk (t1 t2:Addr) (m:Nat) (k1 k2:List (aS×V)) (A B:b7) (_:vs=[.ref t1,.ref t2]) (_:t1≠t2) (_:H t1=some (.dT k1)) (_:tO H k1 A) (_:H t2=some (.dT k2)) (_:tO H k2 B) (_:∀x∈A,Lk.iH m x.1=true/\x.2.m.natAbs<2^4000) (_:∀x∈B,Lk.iH m x.1=true/\x.2.m.natAbs<2^4000) (_:m<=4) (_:∀d kd H',aL H H'->H' d=some (.dT kd)->tO H' kd (D1.zT B A [])->Q (.ref d) H')
def P0(B:Bl mg)(Tc:Dn K mg "_law_met" kY xH)(Z8:Dn K mg "_law_both" nA xH):bF P w K mg base fW 2 Z8.f Z8.fd xH Ÿ:=by
 have gZ5:bF P w K mg base fW 1 _ _ _ _:=RT B Tc
 refine Z8.F.ok gV λd7 A outer s H vs Q E hr h=>?_
 obtain⟨t1,t2,m,k1,k2,TA,TB,rfl,tne,ht,hA,hu,hB,a6V,a4D,m4,q⟩:=h
 have hw1:(A.deeper (PyProof.Rows.envOfC "_law_both" (aG nA) s.heap.objs.size Z8.f d7)).units+1<cLine:=by have:=hr.un;omega
 refine⟨_,(aD (aX 2 gV.nd Ii)
   (aD (vd (gQ gH Z (rK (nP (K:=K) Z rN Ck Cm rJ (pv 0))) (jr (K:=K) (n:=2) Z Z (bQ (aM 3 gV.nd) (bQ (aM 4 gV.nd) iD)))
   (aF (vd (gQ gH Z (rK (nP (K:=K) Z rN Ck Cm rJ (pv 1))) (jr (K:=K) (n:=2) Z Z (bQ (aM 5 gV.nd) (bQ (aM 6 gV.nd) iD)))
   (aD (aX 7 gV.nd (bx gZ5 hr Z Tc.m Tc.F.kp Tc.b .nil bZ (O (pv 3) (O (pv 5) aj))))
   (aF (cM (aN Xf (pv 7) nM)
   (aD (aX 8 gV.nd (bh cX (aP (aO (K:=K) Z) (pv 4) aq) (aP (aO (K:=K) Z) (pv 6) aq)))
   (jw (cM (PW.pt (oZ (aN (ī hw1) (pv 7) (pv 2) (by with_unfolding_all rfl)) (qg (aN Ae (aP (aO (K:=K) Z) (yj hw1 (pv 2) (pv 7) (λ_ _=>rfl)) aq) (pv 8)))))
   (aF (aX 8 gV.nd (aP (aO (K:=K) Z) (yj hw1 (pv 2) (pv 7) (λ_ _=>rfl)) aq)))
   bA)
   (aF (vM (bL (O (bh cX (bh Yd (aP (aO (K:=K) Z) (pv 4) aq) (aP (aO (K:=K) Z) (pv 6) aq)) (aP (aO (K:=K) Z) (iR (K:=K) Z rN Cu TX (a0X hw1) (pv 2) (O (pv 7) (O (bL (O aq (O aq aj))) aj))) aq)) (O (pv 8) aj))) (Ob (pv 2) (pv 7) (Ds hw1))))))
   bA))))))))
   (aF (bH (pv 2))))),?_⟩
 intro d hd
 have n0:=iG.nD (H:=H) (p:=d) (o:=.dT []) hd
 generalize cU H d (.dT [])=H0 at n0 ⊢
 have ht0:=n0.same _ _ ht
 refine⟨_,Z,.inr (.inr (.inl ⟨Z,.inr ⟨_,ht0⟩⟩)),t1,k1,Z,Z,ht0,λpv H1 n1=>⟨pv,t1,k1,Z,n1.here,n1.same _ _ ht0,λo as pk=>?_⟩⟩
 have h1t:=n1.same _ _ ht0
 have hd1:H1 d=some (.dT []):=n1.same _ _ n0.here
 have td:t1≠d:=λz=>by rw[z,hd]at ht;cases ht
 have ud:t2≠d:=λz=>by rw[z,hd]at hu;cases hu
 have SQ:Nd H (cU H1 t1 (.gP o (.dT k1))):=(Nd.of (n0.same.trans n1.same)).trans (Nd.gP h1t)
 have SX:cU H1 t1 (.gP o (.dT k1)) t1=some (.gP o (.dT k1)):=dG
 have g0d:cU H1 t1 (.gP o (.dT k1)) d=some (.dT []):=by rw[aR (Ne.symm td)];exact hd1
 have g0u:cU H1 t1 (.gP o (.dT k1)) t2=some (.dT k2):=by rw[aR (Ne.symm tne)];exact(n0.same.trans n1.same) _ _ hu
 have Yb:∀c,c≠t1->cU H1 t1 (.gP o (.dT k1)) c=H1 c:=λc hc=>aR hc
 generalize cU H1 t1 (.gP o (.dT k1))=G0 at pk SQ SX g0d g0u Yb ⊢
 have lk:=aW hA
 have la:=aW pk
 have hB0:tO G0 k2 TB:=Paired.cA hB λ_ _ z=>⟨z.1,z.2.keep SQ.tups⟩
 refine Wj (P:=λi σ G=>P4 (T6 (λo3 o4 o5 o6 o7 o8=>[some (.ref t1),some (.ref t2),some (.ref d),o3,o4,o5,o6,o7,o8]) σ) (Sd d G0 G) (λkt=>G d=some (.dT kt)) λkt=>tO G kt (D1.zT TB (TA.take i) [])) λZ97 ji ij=>?_
 refine sU Z97 (ji _ _ _ ⟨⟨_,_,_,_,_,_,Z⟩,.refl,[],g0d,.nil⟩) (λi σ G _ h=>(ij _ _ _ h).s _ _ td SX) ?_ ?_
 ·intro i a0 v0 σ G pq G1 ha0 hv0 h1 nw
  obtain⟨⟨o3,o4,o5,o6,o7,o8,rfl⟩,sG,kt,hkt,O5⟩:=ij _ _ _ h1
  obtain⟨kv,hkv,hak⟩:=bB pk ha0
  obtain⟨⟨st,row⟩,hsx,ek,p2,ep2,hrow⟩:=bB hA hkv
  have ek:kv.1=sX st:=ek
  have hv0':v0=kv.2:=by
   rw[cH,hkv]at hv0
   exact(dI hv0).symm
  have ep2:kv.2=.ref p2:=ep2
  rw[ep2]at hv0'
  subst hv0'
  rw[ek]at hak
  have n1':aL G G1:=nw.same
  have Ń:Nd G0 G1:=(Nd.sd sG g0d).trans (.of n1')
  have hold:oO G1 a0 st:=oO.Iu (Ń.tups _ _ hak)
  have yM:G1 p2=some (.tup [.int row.m,.int row.b]):=Ń.tups _ _ (SQ.tups _ _ hrow)
  obtain⟨is,mr⟩:=a6V _ (gF hsx)
  have ls:=D1.tG is
  have hTi:TA.take (i+1)=TA.take i++[(st,row)]:=by rw[iz,hsx];rfl
  have a8m:=n1' _ _ hkt
  have hT1:tO G1 kt (D1.zT TB (TA.take i) []):=Paired.cA O5 λ_ _ z=>⟨z.1,z.2.keep (.of n1')⟩
  have tkT:D1.Tk m (D1.zT TB (TA.take i) []):=D1.Yt m4 (λy hy=>(a4D y hy).1) (λx hx=>(a6V x (jQ hx)).1) ⟨.nil,λ_ h=>absurd h dZ⟩
  have eD:D1.zT TB (TA.take (i+1)) []=D1.oF (st,row) TB (D1.zT TB (TA.take i) []):=by rw[hTi,D1.Ly]
  generalize D1.zT TB (TA.take i) []=T0 at hT1 tkT eD
  have hu1:G1 t2=some (.dT k2):=n1' _ _ (sG _ _ ud g0u)
  have hB1:tO G1 k2 TB:=Paired.cA hB0 λ_ _ z=>⟨z.1,z.2.keep Ń.tups⟩
  have Wn:Sd d G0 G1:=sG.trans (.of n1')
  refine⟨pq,_,Z,cJ.of nw.here,Z,_,_,Z,_,_,Z,Z,?_⟩
  refine⟨_,Z,.inr (.inr (.inl ⟨Z,.inr ⟨_,hu1⟩⟩)),t2,k2,Z,Z,hu1,λpv2 L1 l1=>⟨pv2,t2,k2,Z,l1.here,l1.same _ _ hu1,λo2 as2 pk2=>?_⟩⟩
  have h1u:=l1.same _ _ hu1
  have l1d:=l1.same _ _ a8m
  have ndL:Nd G1 (cU L1 t2 (.gP o2 (.dT k2))):=(Nd.of l1.same).trans (Nd.gP h1u)
  have l0u:cU L1 t2 (.gP o2 (.dT k2)) t2=some (.gP o2 (.dT k2)):=dG
  have l0d:cU L1 t2 (.gP o2 (.dT k2)) d=some (.dT kt):=by rw[aR (Ne.symm ud)];exact l1d
  have l0r:∀c,c≠t2->cU L1 t2 (.gP o2 (.dT k2)) c=L1 c:=λc hc=>aR hc
  generalize cU L1 t2 (.gP o2 (.dT k2))=L0 at pk2 ndL l0u l0d l0r ⊢
  have lkB:=aW hB
  have laB:=aW pk2
  have hT0:tO L0 kt T0:=Paired.cA hT1 λ_ _ z=>⟨z.1,z.2.keep ndL.tups⟩
  have hBL:tO L0 k2 TB:=Paired.cA hB1 λ_ _ z=>⟨z.1,z.2.keep ndL.tups⟩
  refine Wj (P:=λj σ G=>P4 (T4 (λo5 o6 o7 o8=>[some (.ref t1),some (.ref t2),some (.ref d),some (.ref a0),some (.ref p2),o5,o6,o7,o8]) σ) (Sd d L0 G) (λkt=>G d=some (.dT kt)) λkt=>tO G kt (D1.oF (st,row) (TB.take j) T0)) λJ2 ji2 ij2=>?_
  refine sU J2 (ji2 _ _ _ ⟨⟨_,_,_,_,Z⟩,.refl,kt,l0d,hT0⟩) (λj σ G _ h=>(ij2 _ _ _ h).s _ _ ud l0u) ?_ ?_
  ·intro j b0 v2 σ Z98 pq2 M1 hb0 hv2 h2 nw2
   obtain⟨⟨o5,o6,o7,o8,rfl⟩,sM,kt,hkt,O5⟩:=ij2 _ _ _ h2
   obtain⟨kv2,a6W,Í⟩:=bB pk2 hb0
   obtain⟨⟨s2,row2⟩,hsy,ek2,p4,ep4,a6X⟩:=bB hBL a6W
   have ek2:kv2.1=sX s2:=ek2
   have a6Y:v2=kv2.2:=by
    rw[cH,a6W]at hv2
    exact(dI hv2).symm
   have ep4:kv2.2=.ref p4:=ep4
   rw[ep4]at a6Y
   subst a6Y
   rw[ek2]at Í
   have nM1:Nd L0 M1:=(Nd.sd sM l0d).trans (.of nw2.same)
   have a6Z:oO M1 b0 s2:=oO.Iu (nM1.tups _ _ Í)
   have hone:oO M1 a0 st:=(hold.keep ndL.tups).keep nM1.tups
   have hr1:=nM1.tups _ _ (ndL.tups _ _ yM)
   have hr2:=nM1.tups _ _ a6X
   obtain⟨is2,mr2⟩:=a4D _ (gF hsy)
   have ls2:=D1.tG is2
   have Wm:TB.take (j+1)=TB.take j++[(s2,row2)]:=by rw[iz,hsy];rfl
   have a65:=nw2.same _ _ hkt
   have hTM:tO M1 kt (D1.oF (st,row) (TB.take j) T0):=Paired.cA O5 λ_ _ z=>⟨z.1,z.2.keep (.of nw2.same)⟩
   have tkJ:D1.Tk m (D1.oF (st,row) (TB.take j) T0):=D1.JH m4 is (λy hy=>(a4D y (jQ hy)).1) tkT
   have lTj:=tkJ.len m4
   clear tkJ
   have eD1:D1.oF (st,row) (TB.take (j+1)) T0=(match D1.Ca st s2 with
     |none=>D1.oF (st,row) (TB.take j) T0
     |some s=>D1.putD 0 (D1.oF (st,row) (TB.take j) T0) s (row.m*row2.m) (row.b+row2.b)):=by rw[Wm,D1.JF]<;>rfl
   generalize D1.oF (st,row) (TB.take j) T0=T1 at hTM lTj eD1
   have sM1:Sd d L0 M1:=sM.trans (.of nw2.same)
   refine⟨pq2,_,Z,cJ.of nw2.here,Z,_,_,Z,_,_,Z,Z,?_⟩
   refine⟨_,Z,_,Z,a0,b0,st,s2,m,Z,hone,a6Z,ls,ls2,by omega,λen M2 sm=>?_,λs' en pn M2 sm hpn=>?_⟩
   ·rw[en]at eD1
    exact⟨_,Z,Z,_,Z,dB (ji2 _ _ _ ⟨⟨_,_,_,_,Z⟩,sM1.trans (.of sm),kt,sm _ _ a65,by rw[eD1];exact Paired.cA hTM λ_ _ z=>⟨z.1,z.2.keep (.of sm)⟩⟩)⟩
   rw[en]at eD1
   dsimp only at eD1
   have a1L:=sm _ _ a65
   have hT2:tO M2 kt T1:=Paired.cA hTM λ_ _ z=>⟨z.1,z.2.keep (.of sm)⟩
   have hr1:=sm _ _ hr1
   have hr2:=sm _ _ hr2
   have sM2:Sd d L0 M2:=sM1.trans (.of sm)
   have lkt:=aW hT2
   refine⟨_,Z,Z,_,Z,iQ ⟨_,Z,p2,_,_,.int row.b,Z,Z,cJ.of hr1,Z,_,Z,p4,_,_,.int row2.b,Z,Z,cJ.of hr2,Z,_,_,Z,Z,?_⟩⟩
   have emm:row.m*row2.m=row.m*row2.m:=rfl
   obtain⟨mm,emm⟩:∃mm,mm=row.m*row2.m:=⟨_,Z⟩
   obtain⟨bb,ebb⟩:∃bb,bb=row.b+row2.b:=⟨_,Z⟩
   rw[<-emm,<-ebb]at eD1
   dsimp only
   rw[<-ebb]
   have get:∀{G':Hp},aL M2 G'->oO G' pn s'/\G' d=some (.dT kt):=λ{G'} s=>⟨hpn.keep (.of s),s _ _ a1L⟩
   obtain⟨m0,bs,en,hv3⟩:∃m0 bs,D1.putD 0 T1 s' mm bb=rz T1 s' ⟨mm+m0,bs,[]⟩/\((dh kt (sX s')=none/\m0=0/\bs=bb)\/∃pr b0,dh kt (sX s')=some (.ref pr)/\M2 pr=some (.tup [.int m0,.int b0])/\bs=D1.Fv 0 bb b0):=by
    rcases Gq s' hT2 with⟨e1,e2⟩|⟨v0,r0,e1,e2,pr,rfl,hr0⟩
    ·exact⟨0,bb,by unfold D1.putD;rw[e2],.inl ⟨e1,Z,Z⟩⟩
    ·exact⟨r0.m,_,by unfold D1.putD;rw[e2],.inr ⟨pr,r0.b,e1,hr0,Z⟩⟩
   refine Bq (P:=λσ' G'=>σ'=[some (.ref t1),some (.ref t2),some (.ref d),some (.ref a0),some (.ref p2),some (.ref b0),some (.ref p4),some (.ref pn),some (.int bs)]/\G'=M2) λJ3 jm mj=>⟨J3,?_,?_⟩
   ·refine⟨_,Z,_,Z,pn,d,sX s',kt,Z,Z,hpn.key,a1L,_,Z,?_⟩
    rcases hv3 with⟨e1,_,e3⟩|⟨pr,b0',e1,hr0,e3⟩
    ·rw[e1]
     exact dB (dB (jm _ _ ⟨by rw[e3];rfl,Z⟩))
    ·rw[e1]
     have dg:xq M2 d (.ref pn) (some (.ref pr)):=by rw[<-e1];exact xq.t a1L hpn.key
     refine iQ ⟨_,Z,_,Z,d,.ref pr,Z,dg,pr,_,_,.int b0',Z,Z,cJ.of hr0,Z,_,Z,_,_,Z,Z,_,Z,nC (λc=>?_) (λc=>?_)⟩
     ·have c:b0'<bb:=dw c
      exact⟨_,Z,_,Z,d,.ref pr,Z,dg,pr,_,_,.int b0',Z,Z,cJ.of hr0,Z,jm _ _ ⟨by rw[e3];unfold D1.Fv;rw[cI (show ¬b0'>bb by omega),aB (by decide)];rfl,Z⟩⟩
     ·have c:¬b0'<bb:=λz=>c (aV z)
      refine jm _ _ ⟨?_,Z⟩
      rw[e3]
      unfold D1.Fv
      by_cases c3:b0'>bb
      ·rw[aV c3,aA (by decide)];rfl
      ·rw[cI c3,aB (by decide),show b0'=bb by omega];rfl
   intro σ' G' h3
   obtain⟨rfl,rfl⟩:=mj _ _ h3
   clear jm mj h3
   refine⟨_,Z,p2,_,_,.int row.m,Z,Z,cJ.of hr1,Z,_,Z,p4,_,_,.int row2.m,Z,Z,cJ.of hr2,Z,_,_,Z,Z,⟨mr,mr2⟩,_,Z,.inr (.inr (.inl ⟨Z,.inr ⟨_,a1L⟩⟩)),_,Z,(by show 2<=1000;decide),λp3 G3 n3=>?_⟩
   obtain⟨g5,g6⟩:=get n3.same
   refine⟨d,pn,sX s',kt,.ref p3,Z,Z,g5.key,g6,?_⟩
   obtain⟨pr,bz,eq1,hq⟩:∃pr bz,(dh kt (sX s')).getD (.ref p3)=.ref pr/\G3 pr=some (.tup [.int m0,.int bz]):=by
    rcases hv3 with⟨e1,e2,_⟩|⟨pr,b0',e1,hr0,_⟩
    ·exact⟨p3,0,by rw[e1];rfl,by rw[e2];exact n3.here⟩
    ·exact⟨pr,b0',by rw[e1];rfl,n3.same _ _ hr0⟩
   rw[eq1]
   refine⟨pr,_,_,.int m0,Z,Z,cJ.of hq,Z,_,_,Z,Z,_,Z,(by show 2<=1000;decide),λp5 G4 n4=>?_⟩
   have s4:=n3.same.trans n4.same
   obtain⟨g5,g6⟩:=get s4
   refine⟨_,Z,_,Z,d,pn,sX s',kt,Z,Z,g5.key,g6,(by have:=lkt;omega),λG5 c5=>?_⟩
   have ts:lG G4 G5:=λc' ys hc=>by
    rw[c5.rest c' (λz=>by rw[z,g6]at hc;cases hc)]
    exact hc
   refine ji2 _ _ _ ⟨⟨_,_,_,_,Z⟩,(sM2.trans (.of s4)).trans (.Rb c5),_,c5.here,?_⟩
   rw[eD1,en]
   exact X5 (Paired.cA hT2 λ_ _ z=>⟨z.1,z.2.keep ((lG.of s4).trans ts)⟩) ⟨p5,Z,ts _ _ (by rw[emm];exact n4.here)⟩
  ·intro σ Z98 h
   obtain⟨⟨o5,o6,o7,o8,rfl⟩,sM,Ri,O6,O5⟩:=ij2 _ _ _ h
   refine⟨t2,o2,k2,k2,hu1,sM _ _ ud l0u,?_⟩
   rw[laB.trans lkB,gw]at O5
   have tu:lG Z98 (cU Z98 t2 (.dT k2)):=λc ys hc=>by
    rw[aR (λz=>by rw[z,sM _ _ ud l0u]at hc;cases hc)];exact hc
   have sF:Sd d G1 (cU Z98 t2 (.dT k2)):=λc u hc e=>by
    by_cases z:c=t2
    ·rw[z]at e ⊢
     rw[dG,<-e,hu1]
    ·rw[aR z]
     refine sM c u hc ?_
     rw[l0r c z]
     exact l1.same _ _ e
   exact ji _ _ _ ⟨⟨_,_,_,_,_,_,Z⟩,Wn.trans sF,Ri,by rw[aR (Ne.symm ud)];exact O6,by rw[eD];exact Paired.cA O5 λ_ _ z=>⟨z.1,z.2.keep tu⟩⟩
 ·intro σ G h
  obtain⟨⟨o3,o4,o5,o6,o7,o8,rfl⟩,sG,kt,hkt,O5⟩:=ij _ _ _ h
  refine⟨t1,o,k1,k1,ht0,sG _ _ td SX,?_⟩
  rw[la.trans lk,gw]at O5
  have tu:lG G (cU G t1 (.dT k1)):=λc ys hc=>by
   rw[aR (λz=>by rw[z,sG _ _ td SX]at hc;cases hc)];exact hc
  refine⟨_,Z,q d kt _ (λc u e=>?_) (by rw[aR (Ne.symm td)];exact hkt) (Paired.cA O5 λ_ _ z=>⟨z.1,z.2.keep tu⟩)⟩
  by_cases z:c=t1
  ·rw[z]at e ⊢
   rw[dG,<-e,ht]
  ·rw[aR z]
   refine sG c u (λw=>by rw[w,hd]at e;cases e) ?_
   rw[Yb c z]
   exact(n0.same.trans n1.same) _ _ e
end K
namespace De
open PyProof.Rows
section
variable{prog:Program}{w:World}{A:Around}{E:∅}{s:Shared}{κ:Type} [DecidableEq κ] {knd:HeapKind prog w κ}
def WQ{nm:String}{a b:Addr}{xa xb:List (κ×Addr×Value)}{Q:Bool->Shared->Prop}(ha:(a==sysModules)=false)(hb:(b==sysModules)=false)(hu:knd.room A)
  (da:s.heap.DictOfH knd a xa) (db:s.heap.DictOfH knd b xb) (len:xa.length=xb.length) (hits:∀x∈xa,∃q,atKey xb x.1=some q/\SeqAt.EqAt A s x.2.2 q.2 true) (h:Q true s) :
  ∎ (Builtin.Dict.samePairs nm a b) Q E s:=by
 let⟨oa,es,ep,hoa,_,hda,hea,hia,hna⟩:=da;let⟨ob,fs,ep',hob,_,hdb,heb,hib,hnb⟩:=db;let la:=UJ hea;let lb:=UJ heb;unfold Builtin.Dict.samePairs Builtin.Dict.showsAll;rw[aA (by simp[ha]),aA (by simp[hb])];show M (ao (M (ao (M (rQ hoa hda ?_)))));lk;show M (rQ hob hdb ?_);rw[aA (by simp;omega)];show M (wW hoa hda (M ?_));rw[Std.Legacy.Range.forIn_eq_forIn_range'];simp only[Std.Legacy.Range.size,Nat.sub_zero,Nat.add_sub_cancel,Nat.div_one];show wpAny_forIn_list _ (λrest q s'=>s'=s/\q=(none,⟨⟩)/\∃i,rest=List.range' i (es.size-i)/\i<=es.size) _ ?_ ?_ _ _ ⟨Z,Z,0,by simp,dF _⟩
 ·rintro x rest q s' ⟨rfl,rfl,i,hr,hi⟩;let lt:i<es.size:=by
   by_cases c:i<es.size
   ·show c
   ·rw[show es.size-i=0 by omega]at hr;simp at hr
  obtain⟨rfl,hrest⟩:x=i/\rest=List.range' (i+1) (es.size-(i+1)):=by
   rw[show es.size-i=(es.size-(i+1))+1 by omega,List.range'_succ]at hr;show⟨(NQ hr).1,(NQ hr).2⟩
  let lx:x<xa.length:=()
  let ex:xa[x]?=some xa[x]:=bI lx;let ee:es[x]?=some (entryOfKey knd xa[x]):=by rw[entry_at hea x,ex];rfl
  let⟨q,hq,he⟩:=hits xa[x] (nH lx);show M (rQ hoa hda ?_);rw[ee];show wpAny _ _ (holding [Value.ref xa[x].2.1,xa[x].2.2] _ >>= _) _ _ _;show M (eV (M (wpAny_dictFind_heap hu (hia _ (nH lx)) hob hdb heb hib hnb ?_ ?_)))
  ·intro no;rw[atKey_none_of_get no]at hq;cases hq
  ·intro j p hj;let ep2:p=q:=dI ((atKey_of_get hnb hj).symm.trans hq);subst ep2;show M (rQ hob hdb ?_);let ef:fs[j]?=some (entryOfKey knd (xa[x].1,p)):=by rw[entry_at heb j,hj];rfl
   rw[ef];show eV (he prog w _ _ ?_);show wpAny _ _ (if(!true)=true then _ else _) _ _ _;rw[aA ()];show M (wW hoa hda ?_);rw[aA (by simp)];show ao ⟨Z,Z,x+1,hrest,lt⟩
 ·rintro q s' ⟨rfl,rfl,i,hr,hi⟩;show ao h
def Ź{a b:Addr}{xa xb:List (κ×Addr×Value)}{Q:∅}(ha:(a==sysModules)=false)(hb:(b==sysModules)=false)(hr:knd.room A.in1)
  (da:s.heap.DictOfH knd a xa) (db:s.heap.DictOfH knd b xb) (hu:A.units<cLine) (len:xa.length=xb.length) (hits:∀x∈xa,∃q,atKey xb x.1=some q/\SeqAt.EqAt A.in1 s x.2.2 q.2 true) (h:Q (.bool false) s) :
  ∎ (compareOp .NotEq (.ref a) (.ref b)) Q E s:=by
 show wpAny_richCompare_same_room (op:=.NotEq) da.typeIs db.typeIs PySem.F.slot_dict_ne (gG PySem.F.slot_dict_ne da.typeIs PySem.F.entry_dict_ne (M ?_) (PySem.F.args_dict_ne_2 _ _)) hu;unfold Builtin.Dict.dictSlotArgs;show M (Cr da.typeIs (ao (M (vI (T:="dict") db.typeIs PySem.F.sub_dict_dict ?_))));simp only[if_false,Bool.not_true,Bool.false_eq_true];show M (ao (M (ao (M (WQ ha hb hr da db len hits ?_)))));show ao ⟨_,Z,(λz=>by cases z),h⟩
end
end De
namespace L2
open PyProof.Rows Bg
section
variable{X:Cx}{K:aJ}
structure ź(K:aJ)(H:Hp)(ka kb:List (aS×V)):Prop where
 len:ka.length=kb.length
 hit:∀p∈ka,∃v d,dh kb p.1=some v/\JX K H p.2 d/\JX K H v d/\SeqAt.shaped d=true
noncomputable def a66(K:aJ)(neg:Bool):R2:=λx y H Q=>∃a b ka kb,x=.ref a/\y=.ref b/\H a=some (.dT ka)/\H b=some (.dT kb)/\ź K H ka kb/\Q (.bl (!neg)) H
def WR{Y:aE}{σ:St}{H:Hp}{s:Shared}{ka kb:List (aS×V)}{xa xb:List (aS×Addr×Value)}(I:bG X Y σ H s)(hu:X.A.units+66<cLine)(ra:KT H ka xa)(rb:KT H kb xb)(S:ź X.K H ka kb) :
  ∀x∈xa,∃q,atKey xb x.1=some q/\SeqAt.EqAt X.A.in1 s x.2.2 q.2 true:=by
 intro x hx;let⟨j,hj,rfl⟩:=oR hx;let⟨p,hp,ep,_,rp⟩:=cO ra (bI hj);let⟨v,d,hv,d1,d2,sd⟩:=S.hit p (gF hp);let rv:=rb.val p.1;rw[hv]at rv;let⟨u,hu2,ru⟩:=oY.some_of rv;rw[<-ep];cases c:atKey xb p.1 with
 |none=>rw[c]at hu2;cases hu2
 |some q =>
  rw[c]at hu2;cases hu2;let⟨as,r1⟩:=d1.reads I rp;let⟨bs,r2⟩:=d2.reads I ru;let:=PySem.W.keq_at (A:=X.A) r1 r2 sd sd ();rw[Qy sd]at this;show⟨q,Z,this⟩
def a4E(hu:X.A.units+66<cLine):qY X (compareOp .NotEq) (a66 X.K true):=by
 intro Y s σ H x y v u Q I rx ry h;let⟨a,b,ka,kb,rfl,rfl,ea,eb,S,q⟩:=h;obtain rfl:v=Value.ref a:=rx;obtain rfl:u=Value.ref b:=ry;let⟨za,sa,xa,ra,da⟩:=Ew I.hok ea;let⟨zb,sb,xb,rb,db⟩:=Ew I.hok eb;let l1:=aW ra;let l2:=aW rb;let l3:=S.len;show De.Ź sa sb (yV ()) da db () () (WR I hu ra rb S) ⟨.bl false,H,I,Z,q⟩
def a1M(e:X.K=K)(hu:X.A.units+66<cLine):qY X (compareOp .NotEq) (a66 K true):=by subst e;show a4E hu
end
end L2
namespace K
open L2 Lw Bg
variable{K:aJ}
abbrev kZ:Stmt:=top 51
def oG:bN ["_law_found","_law_steps","_law_sizes","_law_works_here","_law_k","_law_due"] X4 (aG kZ):={}
namespace D1
def a1N{T:b7}(nd:(T.map (·.1)).Nodup){x:dW×gk}(h:x∈T):zy T x.1=some x.2:=by
 unfold zy
 induction T with
 |nil=>cases h
 |cons y T ih =>
  rw[cC,je]at nd;rcases bO.mp h with e|h
  ·rw[e,rO (by show aV Z)];rfl
  ·rw[rP (by show λz=>nd.1 (fH.mpr ⟨x,h,(dw z).symm⟩))];show ih nd.2 h
end D1
def Ż{H:Hp}{ka kb:List (aS×V)}{A B:b7}(ha:tO H ka A)(hb:tO H kb B)(e:D1.strip A=B)(nd:(A.map (·.1)).Nodup):ź K H ka kb where
 len:=by
  rw[aW ha,aW hb,<-e]
  unfold D1.strip
  rw[aH]
 hit:=λp hp=>by
  let⟨j,hj,rfl⟩:=oR hp
  let⟨x,hx,ek,q,eq,hq⟩:=bB ha (bI hj)
  let g:=D1.Ls A x.1
  rw[D1.a1N nd (gF hx),e]at g
  let ek:ka[j].1=sX x.1:=ek
  let eq:ka[j].2=.ref q:=eq
  rcases Gq x.1 hb with⟨_,e2⟩|⟨v,r,e1,e2,q',rfl,hq'⟩
  ·rw[e2]at g;cases g
  ·rw[e2]at g
   let g:r=D1.rw0 x.2:=dI g
   rw[g]at hq'
   show⟨_,.tuple [.int x.2.m,.int x.2.b],by rw[ek];show e1,by rw[eq];show .tup (cJ.of hq) (.cons (.int _) (.cons (.int _) .nil)),.tup (cJ.of hq') (.cons (.int _) (.cons (.int _) .nil)),Z⟩
def JN{H:Hp}{J:List (aS×V)}{T:b7}(h:tO H J T):tO H J (D1.strip T):=by
 induction h with
 |nil=>show .nil
 |cons a _ ih=>show .cons a ih
def a67:kitOne K (.type "list") (.type "list")=some true:=by rfl
inductive ż(vs:af)(H:Hp)(Q:VK)(u_3:XK):Prop
 |mk (pT pS:Addr) (xs yt:af) (ss:ax) (Ts:List b7) (n:Nat) (ts:ar) (_:vs=[.ref pT,.ref pS]) (_:H pS=↥xs) (_:Paired (rD H) xs ss) (_:ss.length<=800) (_:H pT=↥yt) (_:Paired (Wq H) yt Ts) (_:yt.Nodup) (_:Ts.length=ss.length) (_:Go.a1C n ts ss) (_:(∀k,k<ss.length->(∀x∈Ts.getD k [],Lk.iH (Go.gY n ts ss k).length x.1=true)/\(Go.gY n ts ss k).length<=4/\(Ts.getD k []).length<=400/\((Ts.getD k []).map (·.1)).Nodup)) (_:(∀k i j:Nat,ss[k]?=some .join->Go.qt n ts ss k=[i,j]->i≠j/\(∀x∈Ts.getD i [],x.2.m.natAbs<2^4000)/\(∀x∈Ts.getD j [],x.2.m.natAbs<2^4000)/\D1.strip (Ts.getD k [])=D1.zT (D1.strip (Ts.getD j [])) (D1.strip (Ts.getD i [])) [])) (_:∀H',aL H H'->Q (.bl true) H')
section
variable{P:Program}{w:World}{mg:Str->Option Value}{base:Heap}
def Qa(B:Bl mg)(Î:DZ9 K mg)(Z5:Dn K mg "_law_formed" jO Ra)(Tc:Dn K mg "_law_met" kY xH)(Z8:Dn K mg "_law_both" nA xH)(Z9:Dn K mg "_law_fits" kZ X4):⋯ 3 Z9.f Z9.fd X4 ż:=by
 let gZ9:⋯ 2 _ _ _ _:=(Kl B Î).mono ();let gZ3:⋯ 2 _ _ _ _:=(JC B Z5).mono ();let gZ1:⋯ 2 _ _ _ _:=P0 B Tc Z8;show Z9.F.ok oG λd7 A outer s H vs Q E hr h=>?_;let⟨pT,pS,xs,yt,ss,Ts,n,ts,rfl,hS,qS,l8,hT,qT,ynd,lT,R,ok,due,q⟩:=h;let hu:(A.deeper (PyProof.Rows.envOfC "_law_fits" (aG kZ) s⁻¹ Z9.f d7)).units+66<cLine:=by let:=hr.un;omega
 let hv:(A.deeper (PyProof.Rows.envOfC "_law_fits" (aG kZ) s⁻¹ Z9.f d7)).units+65<cLine:=()
 let hw1:(A.deeper (PyProof.Rows.envOfC "_law_fits" (aG kZ) s⁻¹ Z9.f d7)).units+1<cLine:=by let:=hr.un;omega
 show⟨_,(aD (vM (bx gZ9 hr Z Î.m Î.F.kp Î.b .nil bZ (O (pv 1) aj)) (Q0 (K:=K) (n:=2) Z Z (bQ (aM 2 oG.nd) (bQ (aM 3 oG.nd) iD))))
   (aD (cM (PW.pt (Ac (pB (dN (K:=K) Z (aU (iZ (K:=K) Z) Z B.isinstance () (O (pv 0) (O (tR (v:=.ty "list") (u:=.type "list") Z B.list () Z) aj))) λ_=>rfl)) (zp (aN Hx (aU (bR (K:=K) Z) Z B.len () (O (pv 0) aj)) (aU (bR (K:=K) Z) Z B.len () (O (pv 1) aj))))))
   (aF (bH yI))
   bA)
   (aD (gQ gH Z (iV Z B.range (O (aU (bR (K:=K) Z) Z B.len () (O (pv 1) aj)) aj)) (aM 4 oG.nd)
   (aD (cM (pB (dN (K:=K) Z (bx gZ3 hr Z Z5.m Z5.F.kp Z5.b .nil bZ (O (aP (bf (K:=K) Z) (pv 0) (pv 4)) (O (bh cX (aP (bf (K:=K) Z) (pv 2) (pv 4)) aq) aj))) λ_=>rfl))
   (aF (bH yI))
   bA)
   (aF (cM (aN jV (aP (aO (K:=K) Z) (aP (bf (K:=K) Z) (pv 1) (pv 4)) aq) fV)
   (aD (aX 5 oG.nd (bx gZ1 hr Z Z8.m Z8.F.kp Z8.b .nil bZ (O (aP (bf (K:=K) Z) (pv 0) (aP (bf (K:=K) Z) (aP (bf (K:=K) Z) (pv 3) (pv 4)) aq)) (O (aP (bf (K:=K) Z) (pv 0) (aP (bf (K:=K) Z) (aP (bf (K:=K) Z) (pv 3) (pv 4)) aq)) aj))))
   (aF (cM (aN (a1M (K:=K) Z hu) (aP (bf (K:=K) Z) (pv 0) (pv 4)) (pv 5))
   (aF (bH yI))
   bA)))
   bA))))
   (aF (bH yI))))),?_⟩
 let lx:=aW qS;let lyt:yt.length=ss.length:=(aW qT).trans lT;show⟨_,Z,pS,xs,ss,n,ts,Z,hS,qS,l8,R,λr pz pw wx G sG hr hpz PX pW=>⟨r,[.ref pz,.ref pw],Z,bD.of hr,Z,_,_,Z,_,_,Z,Z,⟨_,Z,_,_,_,_,_,Z,Z,sE.lst (sG _ _ hT),a67,_,Z,dB ⟨_,Z,pT,_,Z,.inl (bD.of (sG _ _ hT)),_,Z,pS,_,Z,.inl (bD.of (sG _ _ hS)),Z,_,Z,?_⟩⟩⟩⟩;rw[show(!decide (V.int ((yt.length:Nat):Int)=V.int ((xs.length:Nat):Int)))=false by rw[lyt,lx];simp];show dB ⟨_,Z,pS,_,Z,.inl (bD.of (sG _ _ hS)),_,Z,(),(),?_⟩;rw[ig];show uX (n:=xs.length) (λi σ G'=>(∃o4 o5,σ=[⇑pT,⇑pS,⇑pz,⇑pw,o4,o5])/\aL G G') ⟨⟨_,_,Z⟩,aL.refl _⟩ ?_ ?_
 ·rintro k σ G1 hk ⟨⟨o4,o5,rfl⟩,s1⟩;rw[show(0:Int)+(k:Int)=(k:Int) by omega];let kl:k<ss.length:=()
  let hs:=bI kl;let⟨vx,hvx,ŋ,rfl,hst⟩:=cO qS hs;let SB:=R.sb k _ hs;generalize ss[k]=st at hs SB hst;let tabs:∀j,j<ss.length->∃p J,yt[j]?=⇑p/\H p=some (.dT J)/\tO H J (Ts.getD j []):=λj hj=>by
   let Wm:Ts[j]?=some (Ts.getD j []):=by rw[fY,bI ()];rfl
   let⟨v,hv,p,J,rfl,h1,h2⟩:=cO qT Wm;show⟨p,J,hv,h1,h2⟩
  let⟨p,J,hyk,hpk,hWk⟩:=tabs k kl;let ů:=sG.trans s1;let hzk:((List.range ss.length).map λk=>V.int ((Go.gY n ts ss k).length:Int))[k]?=some (.int ((Go.gY n ts ss k).length:Int)):=by rw[cH,Ug kl];rfl
  let⟨ok1,ok4,ok2,ok3⟩:=ok k kl;show⟨_,Z,_,Z,pT,_,_,_,Z,Z,bD.of (ů _ _ hT),bW hyk,_,Z,_,Z,pz,_,_,_,Z,Z,bD.of (s1 _ _ hpz),bW hzk,_,_,Z,Z,?_⟩;show⟨p,(Go.gY n ts ss k).length+1,J,Ts.getD k [],Z,ů _ _ hpk,Paired.cA hWk λ_ _ z=>⟨z.1,z.2.keep (.of ů)⟩,λx hx=>D1.tG (ok1 x hx),(),(),λG2 s2=>⟨_,Z,dB ?_⟩⟩;let s12:=s1.trans s2;let zU:=sG.trans s12;clear s1 s2 ů;show⟨_,Z,_,Z,pS,_,_,_,Z,Z,bD.of (zU _ _ hS),bW hvx,ŋ,st.vs,0,.str st.word,Z,Z,cJ.of (zU _ _ hst),yp st,Z,_,Z,?_⟩;rw[Up.ũ];by_cases c4:st.tag=4
  ·rw[aV c4];show iQ ?_;obtain⟨i',j',rfl,ef,lt,lt',eij,et⟩:∃i' j',st=.join/\Go.qt n ts ss k=[i',j']/\i'<k/\j'<k/\Go.gY n ts ss i'=Go.gY n ts ss j'/\Go.gY n ts ss k=Go.gY n ts ss i':=by
    cases SB with
    | @join i' j' ef lt lt' e1 et=>show⟨i',j',Z,ef,lt,lt',e1,et⟩
    |_=>cases c4
   let⟨ō,mi,mj,ec⟩:=due k i' j' hs ef;let⟨p1,kv1,hy1,hp1,hW1⟩:=tabs i' ();let⟨p2,kv2,hy2,hp2,hW2⟩:=tabs j' ();let⟨oi1,oi4,oi2,oi3⟩:=ok i' ();let⟨oj1,oj4,oj2,oj3⟩:=ok j' ();let np:p1≠p2:=λe=>by
    rw[e,<-hy2]at hy1;show ō ((List.getElem?_inj (by rw[lyt];omega) ynd).mp hy1)
   let htw:((List.range ss.length).map λk=>wkI (Go.qt n ts ss k))[k]?=some (wkI (Go.qt n ts ss k)):=by rw[cH,Ug kl];rfl
   let⟨vw,hvw,pwk,rfl,a68,_⟩:=cO pW htw;rw[ef]at a68;let a69:=s12 _ _ PX;let a7a:=s12 _ _ a68;let RV:∀{i:Nat},(∀x∈Ts.getD i [],Lk.iH (Go.gY n ts ss k).length x.1=true)->(∀x∈Ts.getD i [],x.2.m.natAbs<2^4000)->∀x∈D1.strip (Ts.getD i []),Lk.iH (Go.gY n ts ss k).length x.1=true/\x.2.m.natAbs<2^4000:=λh1 h2 x hx=>by
    let⟨y,hy,rfl⟩:=fH.mp hx;show⟨h1 y hy,h2 y hy⟩
   show⟨_,Z,_,Z,_,Z,pw,_,_,_,Z,Z,bD.of a69,bW hvw,pwk,_,_,_,Z,Z,bD.of a7a,bW (j:=0) (v:=.int (i':Int)) Z,pT,_,_,_,Z,Z,bD.of (zU _ _ hT),bW hy1,_,Z,_,Z,_,Z,pw,_,_,_,Z,Z,bD.of a69,bW hvw,pwk,_,_,_,Z,Z,bD.of a7a,bW (j:=1) (v:=.int (j':Int)) Z,pT,_,_,_,Z,Z,bD.of (zU _ _ hT),bW hy2,?_⟩;show⟨p1,p2,(Go.gY n ts ss k).length,kv1,kv2,D1.strip (Ts.getD i' []),D1.strip (Ts.getD j' []),Z,np,zU _ _ hp1,JN (Paired.cA hW1 λ_ _ z=>⟨z.1,z.2.keep (.of zU)⟩),zU _ _ hp2,JN (Paired.cA hW2 λ_ _ z=>⟨z.1,z.2.keep (.of zU)⟩),RV (λx hx=>by rw[et];show oi1 x hx) mi,RV (λx hx=>by rw[et,eij];show oj1 x hx) mj,ok4,λd kd2 G5 s5 hd hWd=>?_⟩;let s05:=zU.trans s5;rw[<-ec]at hWd;show⟨_,Z,_,Z,pT,_,_,_,Z,Z,bD.of (s05 _ _ hT),bW hyk,_,Z,p,d,J,kd2,Z,Z,s05 _ _ hpk,hd,Ż (Paired.cA hWk λ_ _ z=>⟨z.1,z.2.keep (.of s05)⟩) hWd Z ok3,_,Z,dB ⟨⟨_,_,Z⟩,s12.trans s5⟩⟩
  ·rw[cI c4];show dB ⟨⟨_,_,Z⟩,s12⟩
 ·rintro σ G1 ⟨⟨o4,o5,rfl⟩,s1⟩;show q _ (sG.trans s1)
end
end K
namespace L2
open PyProof.Rows
section
variable{X:Cx}
inductive RW(x:V)(vs:af)(H:Hp)(Q:VK):Prop
 |mk (a:Addr) (k:Key) (J:List (Key×V)) (v:V) (_:x=.ref a) (_:vs=[kV k,v]) (_:H a=some (.dK J)) (_:J.length<=900) (_:∀y,dh J k=some y->Q y H) (_:dh J k=none->∀H',vB H a (.dK (putK J k v)) H'->Q v H')
def xW:Qp X "dict.setdefault" RW:=by
 intro Y s σ H x xs v us Q I rx rs h;let⟨a,k,J,y,rfl,rfl,e,l9,old,new⟩:=h;obtain rfl:v=Value.ref a:=rx;let⟨u,u2,rfl,ru,Zn⟩:=vals2 rs;let⟨z,hd,vs,rel,dd⟩:=ĥ I.hok e;let lv:=rel.length;let rv:=rel.val k;show Ho Ml dd.typeIs Ö (Ó _ _ _) (kt_meets_setdefault (fK X.prog X.w) (k:=k) a (Ig ru) hd u2) ⟨vs,dd,(),λp ep=>?_,λen h' dd' hs=>?_⟩
 ·cases c:dh J k with
  |none =>
   rw[c]at rv;let:=oY.none_of rv;grind
  |some y0 =>
   rw[c]at rv;let⟨w',hw,Vr⟩:=oY.some_of rv;rw[ep]at hw;cases hw;show⟨y0,H,I.tok _,Vr,old y0 c⟩
 ·let he:∃q,h'.get? a=some q:=let⟨q,_,_,hq,_⟩:=dd';⟨q,hq⟩
  let cn:dh J k=none:=by
   cases c:dh J k with
   |none=>rfl
   |some y0 =>
    rw[c]at rv;let⟨w',hw,_⟩:=oY.some_of rv;grind
  let lp:(putK J k y).length<=J.length+1:=by
   unfold putK;split
   ·rw[aH];omega
   ·rw[cu];show aK _
  show⟨y,_,Gj I (by rw[e];show mQ) hs he (Ħ (by rw[gO];omega) hd (rel.put k Zn) dd'),Zn,new cn _ vB.nD⟩
inductive a7b(x:V)(vs:af)(H:Hp)(Q:VK):Prop
 |mk (a:Addr) (k:Key) (J:List (Key×V)) (v:V) (_:x=.ref a) (_:vs=[kV k,v]) (_:H a=some (.dK J)) (_:Q ((dh J k).getD v) H)
def a1O:Qp X "dict.get" a7b:=by
 intro Y s σ H x xs v us Q I rx rs h;let⟨a,k,J,y,rfl,rfl,e,q⟩:=h;obtain rfl:v=Value.ref a:=rx;let⟨u,u2,rfl,ru,Zn⟩:=vals2 rs;let⟨z,hd,vs,rel,dd⟩:=ĥ I.hok e;show Ho Cu dd.typeIs Tz (Tq _ _ _) (meets_dict_get_default (fK X.prog X.w) (k:=k) a (Ig ru) hd u2) ⟨_,dd.mapOf,⟨_,H,I.tok _,(rel.val k).getD Zn,q⟩⟩
end
end L2
namespace L2
open PyProof.Rows
section
variable{X:Cx}
def À{Y:aE}{σ:St}{H:Hp}{p it:Addr}{ys:af}{bs:List Bool}{R:Result->Shared->Prop}(hc:X.calm=true)(hq:cJ X.K H p ys)(ht:jf X.K H ys bs)(f:CV X Y H it) :
  ∀(k i:Nat) (s:Shared),ys.length-i=k->bG X Y σ H s->s.heap.IsTupleIter it p i->(∀s',bG X Y σ H s'->R (.ok (.ret (.bool ((bs.drop i).any id)))) s')->
  codeAny (model X.prog X.w) X.A (.builtin "any.loop" ⟨[.ref it],[]⟩) R s:=by
 let⟨f0,f1,f2,f3,f4,f5⟩:=f;intro k
 induction k with
 |zero =>
  intro i s hk I st hR;let⟨bY,rv,pl,hz⟩:=I.tuple hq;let hl:=rv.length;show lW Nb ?_;rw[mO wV _];show wpAny _ X.A.in1 (pyNext (.ref it) >>= _) _ _ s;show M (wpAny_pyNext_tuple_end (I.ok.hd hc) st (show s.heap.IsTuple p bY.toArray from pl) (by simp;omega) λh' eb=>?_);show M (j5 (ao ?_));let q:=hR _ (I.turned (t':=s.toks) (λb o hb e=>eb b o hb e) f0 f1 f3 f4 f5);let hlb:bs.length=ys.length:=(aW ht).symm;rw[Mu ()]at q;show q
 |succ k ih =>
  intro i s hk I st hR;let⟨bY,rv,pl,hz⟩:=I.tuple hq;let hl:=rv.length;let hlt:i<ys.length:=()
  let hx:ys[i]?=some ys[i]:=by simp[hlt]
  let⟨u,hu,ru⟩:=rv.get hx;let⟨b,hb,tb⟩:=ht.get hx;show lW Nb ?_;rw[mO wV _];show wpAny _ X.A.in1 (pyNext (.ref it) >>= _) _ _ s;show M (wpAny_pyNext_tuple_item st (show s.heap.IsTuple p bY.toArray from pl) (x:=u) () λh' st' sb=>?_);let I1:bG X Y σ H (s•h'):=I.turned (t':=s.toks) (λb o hb e=>(sb.2 b hb).trans e) f0 f1 f3 f4 f5;let hdb:bs.drop i=b::bs.drop (i+1):=by
   let⟨hlb,eb⟩:=eG.mp hb;rw[wN hlb,eb]
  rw[hdb]at hR;let I1p:bG X (Y++su [it] h') σ H (s•h'):=I1.pinned (fp:=[it]) (λc hcc=>by rw[bK.mp hcc];show⟨f0,f1,f2,f3,f4,f5⟩) λc hcc=>by
   rw[bK.mp hcc];let⟨o,e,c',d⟩:=st';grind
  show M (eV (iB (Od (X:=X.in1.nox) _ _ σ H ys[i] u (λc H'=>c=b/\H'=H) ((bG.in1 I1p).wish _) ru ⟨b,tb,Z,Z⟩) (λc s2 ⟨H',I2,e1,e2⟩=>?_) λ_ _ z=>False.elim z));rw[e2]at I2;subst e1;let I2':bG X (Y++su [it] h') σ H s2:=bG.of_in1 I2.rZ;let Qu:bG X Y σ H s2:=I2'.uW;let st2:s2.heap.IsTupleIter it p (i+1):=st'.at λo e=>(I2'.pin (it,o) (fG _ (fG _ (pC (bK.mpr Z) e)))).1;show M (zj ?_);cases c with
  |false =>
   simp only[Bool.false_eq_true,if_false];show ao ⟨nJ wV _,ih (i+1) s2 () Qu st2 λs' I'=>by simpa using hR s' I'⟩
  |true =>
   simp only[if_true];show M (j5 (ao ?_));simpa using hR s2 Qu
def RX(hc:X.calm=true):jy X (.builtin "any") (λxs H Q=>∃p ys bs,xs=[.ref p]/\cJ X.K H p ys/\jf X.K H ys bs/\Q (.bl (bs.any id)) H):=by
 intro Y s σ H xs us Q I r h;let⟨p,ys,bs,rfl,hq,ht,q⟩:=h;let⟨u,rfl,rx⟩:=vals1 r;cases rx;show Ui F.kind_any F.plain_any F.entry_any (F.args_any1 _) ?_;unfold Builtin.«any»;show M (m:=oneArg "any" _) (ao ?_);let⟨bY,rv,pl,hz⟩:=I.tuple hq;show M (MJ (show s.heap.IsTuple p bY.toArray from pl) ?_);let I1:bG X Y σ H (s•s.heap.push { cls:=.type "tuple_iterator",data:=.fields #[.ref p,.int 0 0]}):=I.kept (t':=s.toks) λb o e=>bM _ e;show ao ⟨nJ wV _,À hc hq ht (I.Fx (aK _) (I.hok.fresh (aK _))) ys.length 0 _ (wY _) I1 ⟨_,cB _ Z,Z,Z⟩ λs' I'=>?_⟩;show⟨.bl _,H,I',Z,by simpa using q⟩
end
def a7c(K:aJ):af->Hp->VK->Prop:=λxs H Q=>∃p ys bs,xs=[.ref p]/\cJ K H p ys/\jf K H ys bs/\Q (.bl (bs.any id)) H
def JQ{X:Cx}{K:aJ}(e:X.K=K)(hc:X.calm=true):jy X (.builtin "any") (a7c K):=by subst e;show RX hc
end L2
namespace L2
open PyProof.Rows Bg
section
variable{X:Cx}
def a7d(t:TS):TS:=λD σ H=>t { D with nx:=λσ1 H1=>∃d J,H1 d=some (.dT J)/\∀o,D.nx σ1 (cU H1 d (.gP o (.dT J)))} σ H
def a4F{st:Stmt}{t:TS}(h:PS X st t):PS X st (a7d t):=by
 intro Y s σ H D I q;show jC (h Y s σ H _ I q) λf s1 z=>?_;cases f with
 |next =>
  let⟨σ1,H1,I1,d,J,e,q1⟩:=z;let⟨_,_,xs,_,o,_,_,ho,_⟩:=Ew I1.hok e;show⟨σ1,_,I1.OJ (o':=.gP o (.dT J)) e (λ_ z=>by cases z) (λ_ z=>by cases z) (λ_ z=>by cases z) (I1.Q5 e λ_ _ z=>by cases z) ⟨ho,I1.hok d _ e⟩,q1 o⟩
 |brk=>show z
 |cont=>show z
 |ret u=>show z
end
end L2
namespace Te
open PyProof.Rows
open AutoSeq1 (wpAny_loadPart')
variable{Q:∅}
section
variable{prog:Program}{w:World}{A:Around}{E:∅}{s:Shared}{q t:Addr}{i:Nat}{ys:Array Value}
def nref(t:Addr):¬((Value.ref t==Value.none)=true):=cN
def more{y:Value}(hq:s.heap.IsTupleIter q t i)(ht:s.heap.IsTuple t ys)(hy:ys[i]?=some y)
  (k:∀g,g.IsTupleIter q t (i+1)->Heap.SameBut q s.heap g->Q y (s•g)):∎ (Builtin.SmallTypes.nextOf (.ref q)) Q E s:=by
 let ty:=hq.typeIs;let⟨oq,g1,g2,g3⟩:=hq;let⟨ot,g4,_,m,g5⟩:=ht;unfold Builtin.SmallTypes.nextOf;show M (nF (name:=Str.ofString "__next__") ty Ma (gG Ma ty Ñ ((show wpAny _ _ (field (.ref q) 0 >>= _) _ _ s from M (gJ g1 g3 (x:=.ref t) Z ((show wpAny _ _ (if(Value.ref t==Value.none)=true then _ else _) _ _ s from ?_))))) (Ð _)));rw[aA (nref t)];show(show wpAny _ _ (field (.ref q) 1 >>= _) _ _ s from M (gJ g1 g3 (x:=.int i 0) Z ((show wpAny _ _ (seqItems? (.ref t) >>= _) _ _ s from M (qM g4 g5 ?_)))));simp only[Int.toNat_natCast,hy];show M (wpAny_setField g1 g3 (by simp) (ao ⟨y,Z,ao (k _ ⟨_,Cq _ g1 (Obj.isFreed_of_fields (Obj.data_mapFields g3 _)),(Obj.cls_mapFields ..).trans g2,?_⟩ (qJ ..))⟩));rw[Obj.data_mapFields g3];simp[rawInt]
def a1P(hh:A.handled=none)(hq:s.heap.IsTupleIter q t i)(ht:s.heap.IsTuple t ys)(hy:ys[i]?=none)
  (k:∀g e,Heap.ExtBut q s.heap g->(∃o,g.get? e=some o/\o.cls=.type "StopIteration")->E (.ref e) (s•g)):∎ (Builtin.SmallTypes.nextOf (.ref q)) Q E s:=by
 let ty:=hq.typeIs;let⟨oq,g1,g2,g3⟩:=hq;let⟨ot,g4,_,m,g5⟩:=ht;unfold Builtin.SmallTypes.nextOf;show M (nF (name:=Str.ofString "__next__") ty Ma (gG Ma ty Ñ ((show wpAny _ _ (field (.ref q) 0 >>= _) _ _ s from M (gJ g1 g3 (x:=.ref t) Z ((show wpAny _ _ (if(Value.ref t==Value.none)=true then _ else _) _ _ s from ?_))))) (Ð _)));rw[aA (nref t)];show(show wpAny _ _ (field (.ref q) 1 >>= _) _ _ s from M (gJ g1 g3 (x:=.int i 0) Z ((show wpAny _ _ (seqItems? (.ref t) >>= _) _ _ s from M (qM g4 g5 ?_)))));simp only[Int.toNat_natCast,hy];show M (j5 (M (wpAny_setField g1 g3 (by simp) (show wpAny _ _ (newExc (.type "StopIteration") [] >>= _) _ _ _ from M ?_))));simp only[newExc,newTuple];show M (jR (M (m:=firstArgMember _ _) (Hs (a:=Value.none) (by first|rfl|(simp only[firstArgMember];rfl)) (jR ?_ (by size_fits)))) (by size_fits));simp only[raiseNew];show M (NK ?_);first
  |rw[show A.in1.handled=none from hh]
  |rw[hh]
 show M (ao (N6 (k _ _ (((qJ ..).extBut.push _).push _) ⟨_,cB _ Z,Z⟩)))
def keepI{h h':Heap}(x:h.IsTupleIter q t i)(k:∀o,h.get? q=some o->h'.get? q=some o):h'.IsTupleIter q t i:=by
 let⟨o,e,r⟩:=x;show⟨o,k o e,r⟩
def a2z{h h':Heap}(x:h.IsTuple t ys)(k:∀o,h.get? t=some o->h'.get? t=some o):h'.IsTuple t ys:=by
 let⟨o,e,r⟩:=x;show⟨o,k o e,r⟩
def draws(hh:A.handled=none)(q t:Addr)(ne:t≠q)(ys:Array Value):Draws prog w A q [q,t] ys.size (λj v=>ys[j]?=some v) (λj h=>h.IsTupleIter q t j/\h.IsTuple t ys) where
 live:=λ_ _ st=>by
  let⟨⟨o,e,_⟩,_⟩:=st
  grind
 frame:=λ_ _ _ st k=>⟨keepI st.1 λo e=>k q (by simp) o e,a2z st.2 λo e=>k t (by simp) o e⟩
 item:=λj s Q E lt st k=>more st.1 st.2 (y:=ys[j]) (by simp[lt]) λg hg sb=>k _ g s.toks (by simp[lt]) ⟨hg,a2z st.2 λo e=>sb.extBut _ _ ne e⟩ sb
 done:=λs Q E st k=>a1P hh st.1 st.2 (by simp) k
end
set_option tactic.hygienic true in
def Ž(t:Addr)(ys:Array Value)(m:Nat)(dct:Option Addr)(sl:Array (Option Value)) :
  Meets (Builtin.«enumerate.__new__» ⟨[.type "enumerate",.ref t],[]⟩) (λ_ R s=>s^^^t=some { cls:=.type "tuple",dict:=dct,data:=.seq ys m,slots:=sl}/\
   R (.ok (.ret (.ref (s.heap.push { cls:=.type "tuple_iterator",data:=.fields #[.ref t,.int 0 0]}).objs.size))) (s•(s.heap.push { cls:=.type "tuple_iterator",data:=.fields #[.ref t,.int 0 0]}).push { cls:=.type "enumerate",data:=.fields #[.none,.bool false,.ref s⁻¹,rawInt 0,.none,.none]})) :=
 .of_wp λprog w A R s h=>by
  let⟨hp,g,d,tk,os⟩:=s;let⟨hl,h⟩:=h;let sub:=sub_enumerate;let hT:Heap.IsTuple (Shared.heap ⟨hp,g,d,tk,os⟩) t ys:=⟨_,hl,Z,m,Z⟩
  wp_walk using UW hl
  show wpAny_stack_any λst=>ao ?_;split
  ·rename_i c _ _ _ _ _;cases(c==Value.type "enumerate")<;>(wp_walk using UW hl,MJ hT;show⟨_,Z,h⟩)
  ·wp_walk using UW hl,MJ hT
   show⟨_,Z,h⟩
section
variable{prog:Program}{w:World}{A:Around}{E:∅}{s:Shared}
def Á{t:Addr}{ys:Array Value}(hT:s.heap.IsTuple t ys)
  (h:∀g,IsEnum g (s⁻¹+1) s⁻¹ 0 .none->g.IsTupleIter s⁻¹ t 0->(∀b o,s^^^b=some o->g.get? b=some o)->Q (.ref (s⁻¹+1)) (s•g)) :
  ∎ (call (.type "enumerate") [.ref t]) Q E s:=by
 let⟨⟨c,dct,dt,sl⟩,hl,hc,n,hd⟩:=hT;replace hc:c=.type "tuple" := hc;replace hd:dt=.seq ys n:=hd;subst hc hd;show callType_new PySem.F.called_enumerate () (PySem.F.typeCall_enumerate_1 _) (PySem.F.newCall_enumerate_1 _) (λobj=>PySem.F.args_object_init_2 obj _) PySem.F.entry_enumerate_new (Ž t ys n dct sl) ⟨hl,?_⟩;let sz:(s.heap.push { cls:=.type "tuple_iterator",data:=.fields #[.ref t,.int 0 0]}).objs.size=s⁻¹+1:=oW ..;show _/\_;rw[sz];let he:IsEnum ((s.heap.push { cls:=.type "tuple_iterator",data:=.fields #[.ref t,.int 0 0]}).push { cls:=.type "enumerate",data:=.fields #[.none,.bool false,.ref s⁻¹,rawInt 0,.none,.none]}) (s⁻¹+1) s⁻¹ 0 .none:=by
  let:=cB (s.heap.push { cls:=.type "tuple_iterator",data:=.fields #[.ref t,.int 0 0]}) (o:={ cls:=.type "enumerate",data:=.fields #[.none,.bool false,.ref s⁻¹,rawInt 0,.none,.none]}) rfl;rw[sz]at this;show this
 show⟨⟨_,he,Z⟩,h _ he ⟨_,bM _ (cB _ Z),Z,Z⟩ λb o x=>bM _ (bM _ x)⟩
end
end Te
namespace L2
open PyProof.Rows
variable{K:aJ}
def ž(K:aJ)(a:Addr):It :=
 ⟨λi H=>∃xs x,cJ K H a xs/\xs[i]?=some x,λi H x H'=>∃p y,x=.ref p/\iG H p (.tup [.int i,y]) H'/\∀xs,cJ K H a xs->xs[i]?=some y,λi H=>∃xs,cJ K H a xs/\xs.length=i⟩
def LC{h:Heap}{a it:Addr}{ys:Array Value}{i:Nat}(ht:h.IsTuple a ys)(hi:h.IsTupleIter it a i):a≠it:=λz=>by
 let⟨o,e,c,_⟩:=ht;let⟨o',e',c',_⟩:=hi;grind
def WT{P:Program}{w:World}{elts:bc}{k:Nat}{pos:Pos}(a it e:Addr)(hei:e≠it):Turn P w K (.Tuple elts k pos) (ž K a) [e,it] e (λi h=>(∃old,IsEnum h e it i old)/\h.IsTupleIter it a i) where
 mem:=by simp
 obj:=λi h st b hb=>by
  let⟨⟨old,he⟩,hit⟩:=st
  rcases bO.mp hb with rfl|hb
  ·grind
  ·rw[bK.mp hb]
   let⟨o,e1,c,d⟩:=hit
   grind
 keep:=λi h h' st kk=>by
  let⟨⟨old,he⟩,hit⟩:=st
  show⟨⟨old,kk e (by simp) _ he⟩,Te.keepI hit λo q=>kk it (by simp) o q⟩
 item:=by
  intro X hP hw hK hc i Y s σ H E I hf st hg
  subst hP hw hK
  let⟨xs,x,hq,hx⟩:=hg
  let⟨bY,rv,pl,hz⟩:=I.tuple hq
  let pl:s.heap.IsTuple a bY.toArray:=pl
  let⟨u,hu,ru⟩:=rv.get hx
  let⟨⟨old,he⟩,hit⟩:=st
  let hlt:i<bY.toArray.size:=by
   grind
  let hea:e≠a:=λz=>by
   let⟨o,e1,c,_⟩:=pl
   grind
  show wpAny_pyNext_enum_itemD (Te.draws (show X.A.in1.handled=none from I.ok.hd hc) it a (LC pl hit) bY.toArray) he ⟨hit,pl⟩ hlt hei () λu' h' tk hu' ho hst hT hsz hk=>?_
  let eu:u'=u:=by
   let:bY[i]?=some u':=by simpa using hu'
   rw[hu]at this
   show(dI this).symm
  subst eu
  show⟨_,Z,Û ho λh2 he2 hs2=>?_⟩
  let eT:s⁻¹≠e:=iM (bw he)
  let iT:s⁻¹≠it:=by
   let⟨o,e1,_⟩:=hit
   show iM (bw e1)
  let hT2:h2.get? s⁻¹=some { cls:=.type "tuple",data:=.seq #[.int i tk,u']}:=(hs2.2 _ eT).trans hT
  let kp:∀b o,b∉[e,it]->s^^^b=some o->h2.get? b=some o:=λb o hb q=>by
   simp only[List.mem_cons,List.not_mem_nil,or_false,not_or]at hb
   show(hs2.2 b hb.1).trans (hk b o hb.1 hb.2 q)
  let I1:bG X Y σ H { s with heap:=h2,toks:=tk+1}:=(Gm I [e,it] (λc hc=>hf c hc) kp).tok (tk+1)
  let hfree:H s⁻¹=none:=I.hok.fresh (aK _)
  let I2:bG X Y σ (cU H s⁻¹ (.tup [.int i,x])) { s with heap:=h2,toks:=tk+1}:=by
   show bG.track I1 hfree I.sz (iM I.lt) (λy c q=>?_) (λp hp=>bV (bw (I.pin p hp).1)) ⟨(by show 2<=sizeLine;decide),[.int i tk,u'],.cons ⟨_,Z⟩ (.cons ru .nil),⟨_,hT2,Z,_,Z⟩⟩
   let⟨v,oc,q1,_⟩:=I.cell y c q
   show bV (bw q1)
  show⟨.ref s⁻¹,_,I2,Z,⟨_,x,Z,iG.nD hfree,λys hy=>by rw[I.Ks hy hq];show hx⟩,⟨⟨u',?_⟩,Te.keepI hst.1 λo q=>(hs2.2 it (Ne.symm hei)).trans q⟩,λb hb=>?_⟩
  ·grind
  ·let f0:=(hf b hb).1
   rw[aR ?_]
   ·show f0
   grind
 done:=by
  intro X hP hw hK hc i Y s σ H E I hf st hg
  subst hP hw hK
  let⟨xs,hq,hx⟩:=hg
  let⟨bY,rv,pl,hz⟩:=I.tuple hq
  let pl:s.heap.IsTuple a bY.toArray:=pl
  let⟨⟨old,he⟩,hit⟩:=st
  let⟨g0,g1,g2,g3,g4,g5⟩:=hf it (by simp)
  let hl:bY.toArray.size=i:=by rw[iJ,<-hx];show rv.length.symm
  show wpAny_pyNext_enum_endD (Te.draws (show X.A.in1.handled=none from I.ok.hd hc) it a (LC pl hit) bY.toArray) he ⟨(),pl⟩ λh' eb=>⟨Z,I.turned (t':=s.toks) (λb o hb q=>eb b o hb q) g0 g1 g3 g4 g5⟩
 self:=λ_ _ _ _ _ st h=>by
  let⟨⟨old,he⟩,_⟩:=st
  show MT he h
section
variable{X:Cx}
def a4G(K:aJ)(ta:TA):TI:=λσ H R=>ta σ H λvs H1=>∃a,vs=[.ref a]/\(∃xs,cJ K H1 a xs)/\R (ž K a) H1
def Α{elts:bc}{k:Nat}{tpos:Pos}{l:Expr}{ta:TA}{p pos:Pos}(e0:X.K=K)(hg:Gl X "enumerate")(hm:X.mg "enumerate" = none)(ha:PA X [l] ta)(hs:@&(starEach [l] X.env=[(false,eval l X.env)])) :
  PI X (.Tuple elts k tpos) (.Call (.Name "enumerate" p) [l] [] pos) (a4G K ta):=by
 subst e0;intro Y s σ H R I h;show vD (uG I hg hm boot_enumerate (wL (jC (ha pos Y s σ H _ I h) λus s1 ⟨vs,H1,I1,r1,q1⟩=>?_) hs (by rfl)));let⟨a,e,⟨xs,hq⟩,q⟩:=q1;subst e;let⟨u,rfl,ru⟩:=vals1 r1;cases ru;let⟨bY,rv,pl,hz⟩:=I1.tuple hq;show Te.Á (show s1.heap.IsTuple a bY.toArray from pl) λh' he hit hk=>MT he ?_;let I2:bG X Y σ H1 (s1•h'):=I1.kept (t':=s1.toks) hk;show⟨s1⁻¹+1,[s1⁻¹+1,s1⁻¹],_,_,H1,Z,I2,WT a s1⁻¹ (s1⁻¹+1) (iM (wU _)),⟨⟨_,he⟩,hit⟩,λb hb=>?_,q⟩;let hb':s1⁻¹<=b:=by
  grind
 show I1.Fx hb' (I1.hok.fresh hb')
end
def Â{a:Addr}{xs:af}{g:TG}{tb:TS}{D:Ends}{σ:St}{H:Hp}(Pv:Nat->St->Hp->Prop)(h0:Pv 0 σ H)(hl:∀i σ H,i<=xs.length->Pv i σ H->cJ K H a xs)
  (hs:∀(i:Nat) x σ H p H',xs[i]?=some x->Pv i σ H->iG H p (.tup [.int i,x]) H'->g (.ref p) σ H' λσ2 H2=>tb { D with nx:=Pv (i+1),ct:=Pv (i+1),bk:=D.nx} σ2 H2) (hd:∀σ H,Pv xs.length σ H->D.nx σ H) :
  ∃W:Nat->Nat->St->Hp->Prop,(∃m,W 0 m σ H)/\∀i m σ H,W i m σ H->
   ((ž K a).stop i H/\D.nx σ H)\/((ž K a).go i H/\∃N:St->Hp->Prop,(∀σ' H',N σ' H'->∃m',m'<m/\W (i+1) m' σ' H')/\∀x H',(ž K a).W9 i H x H'->g x σ H' λσ2 H2=>tb { D with nx:=N,ct:=N,bk:=D.nx} σ2 H2):=by
 show⟨λi m σ H=>m=xs.length-i/\i<=xs.length/\Pv i σ H,⟨xs.length,by simp,dF _,h0⟩,?_⟩;rintro i m σ H ⟨rfl,hi,p⟩;let q:=hl i σ H hi p;by_cases hlt:i<xs.length
 ·show .inr ⟨⟨xs,xs[i],q,by simp[hlt]⟩,Pv (i+1),λσ' H' p'=>⟨xs.length-(i+1),(),Z,hlt,p'⟩,λx H' y=>?_⟩;let⟨pp,y0,rfl,nw,ex⟩:=y;show hs i y0 σ H pp H' (ex xs q) p nw
 ·let e:i=xs.length:=()
  subst e;show .inl ⟨⟨xs,q,Z⟩,hd σ H p⟩
end L2
namespace K
open L2 Lw Bg
variable{P:Program}{w:World}{mg:Str->Option Value}{base:Heap}{a:Addr}{tup:Bool}{X:Cx}{cD cs ms:ae}{σ:St}{m:Nat}{cost:Int×Int->Int}{Q:VK}
abbrev wg:Stmt:=top 35
def uV:bN ["numbers","met","number"] ["numbers"] (aG wg):={}
abbrev qH:Stmt:=top 39
def Ã:bN Bj Bj (aG qH):={}
namespace Lk
noncomputable def kvI(L:ae):List (Key×V):=L.zipIdx.map λx=>((Sum.inl x.1:Key),V.int ((x.2:Int)+1))
def a1Q(L:ae):(kvI L).length=L.length:=by unfold kvI;rw[aH,List.length_zipIdx]
def Β(L:ae)(x:Int):kvI (L++[x])=kvI L++[((Sum.inl x:Key),V.int ((L.length:Int)+1))]:=by
 unfold kvI;grind
def Qc{L:ae}(nd:L.Nodup)(x:Int):dh (kvI L) (Sum.inl x)=if x∈L then some (.int (((L.idxOf x+0:Nat):Int)+1))else none:=by
 unfold kvI;let go:∀(L:ae) (k:Nat),L.Nodup->dh ((L.zipIdx k).map λx=>((Sum.inl x.1:Key),V.int ((x.2:Int)+1))) (Sum.inl x)=if x∈L then some (.int (((L.idxOf x+k:Nat):Int)+1))else none:=by
  intro L
  induction L with
  |nil=>intro k _;rfl
  |cons y L ih =>
   intro k nd;let nd':=je.mp nd;let ih:=ih (k+1) nd'.2;unfold dh at ih ⊢;rw[List.zipIdx_cons,cC];by_cases c:y=x
   ·subst c;rw[rO (by show aV Z),aB aZ,Ua,Nat.zero_add];rfl
   ·rw[rP (by show λz=>c (Sum.inl.inj (dw z))),ih];by_cases d:x∈L
    ·rw[aB d,aB (bJ _ d),UL,show(y==x)=false by simpa using c];show some (V.int (((L.idxOf x+(k+1):Nat):Int)+1))=some (V.int (((L.idxOf x+1+k:Nat):Int)+1));congr 3;omega
    ·rw[aA d,aA (λz=>by rcases bO.mp z with z|z;show c z.symm;show d z)]
 show go L 0 nd
def WW(L:ae)(a b:ae):firsts L (a++b)=firsts (firsts L a) b:=by
 induction a generalizing L with
 |nil=>rfl
 |cons x a ih=>show ih _
set_option tactic.hygienic true in
theorem Eg:∀{r L:ae},L.Nodup->(firsts L r).Nodup
 | [],_,h=>h
 |x::r,L,h=>by
  show(firsts (if 0<x/\x∉L then L++[x]else L) r).Nodup
  show Eg ?_
  split
  ·rename_i c
   show uE.mpr ⟨h,ur _ _,λa ha b hb e=>c.2 (by rw[<-bK.mp hb,<-e];show ha)⟩
  ·show h
theorem zV{y:Int}:∀{r L:ae},y∈firsts L r↔y∈L\/(0<y/\y∈r)
 | [],L=>by simp[firsts]
 |x::r,L=>by
  show y∈firsts (if 0<x/\x∉L then L++[x]else L) r↔_
  rw[zV (r:=r)]
  grind
theorem JR:∀{r L:ae},(firsts L r).length<=L.length+r.length
 | [],_=>aK _
 |x::r,L=>by
  show cG (JR (r:=r)) ?_
  rw[lV]
  split
  ·rw[cu];show L.length+1+_<=_;omega
  ·omega
end Lk
def tH(K:aJ)(tup:Bool)(H:Hp)(a:Addr)(ns:ae):Prop:=match tup with
 |true=>cJ K H a (ns.map V.int)
 |false=>bD K H a (ns.map V.int)
def tH.keep{K:aJ}{H H':Hp}{ns:ae}(s:aL H H')(h:tH K tup H a ns):tH K tup H' a ns:=by
 cases tup with
 |true=>show s.vU h
 |false=>show s.seq h
def ItN(K:aJ)(tup:Bool)(a:Addr):It:=match tup with
 |true=>Itt K a
 |false=>Ê K a
def a7e(K:aJ)(tup:Bool)(tl:TE):TI:=match tup with
 |true=>a2S K tl
 |false=>í K tl
noncomputable def a7f(K:aJ)(tup:Bool):R2:=match tup with
 |true=>a0p K
 |false=>a0o K
def WX{K:aJ}{tg l:Expr}{tl:TE}(e:X.K=K)(hl:PE X l tl):PI X tg l (a7e K tup tl):=by
 cases tup with
 |true=>show Ar e hl
 |false=>show eE e hl
def Δ{K:aJ}(e:X.K=K):IxR X (a7f K tup):=by
 cases tup with
 |true=>show aO e
 |false=>show bf e
def WY{K:aJ}{i:Nat}{H:Hp}{ns:ae}{R:It->Hp->Prop}(hv:σ[i]?=some ⇑a)(h:tH K tup H a ns)(q:R (ItN K tup a) H):a7e K tup (Vb i) σ H R:=by
 cases tup with
 |true=>show⟨_,hv,a,Z,⟨_,h⟩,q⟩
 |false=>show⟨_,hv,a,Z,⟨_,h⟩,q⟩
def Ε{K:aJ}{H:Hp}{ns:ae}{j:Nat}(h:tH K tup H a ns)(hj:j<ns.length)(q:Q (.int (dD ns j)) H):a7f K tup (.ref a) (.int j) H Q:=by
 cases tup with
 |true=>show⟨a,_,_,_,Z,Z,h,S6 hj,q⟩
 |false=>show⟨a,_,_,_,Z,Z,h,S6 hj,q⟩
def a1R{K:aJ}{ns:ae}{g:TG}{tb:TS}{D:Ends}{H:Hp}(Pv:Nat->St->Hp->Prop)(h0:Pv 0 σ H)(hl:∀i σ H,i<=(ns.map V.int).length->Pv i σ H->tH K tup H a ns)
  (hs:∀i x σ H,(ns.map V.int)[i]?=some x->Pv i σ H->g x σ H λσ2 H2=>tb { D with nx:=Pv (i+1),ct:=Pv (i+1),bk:=D.nx} σ2 H2) (hd:∀σ H,Pv (ns.map V.int).length σ H->D.nx σ H) :
  ∃W:Nat->Nat->St->Hp->Prop,(∃m,W 0 m σ H)/\∀i m σ H,W i m σ H->
   ((ItN K tup a).stop i H/\D.nx σ H)\/((ItN K tup a).go i H/\∃N:St->Hp->Prop,(∀σ' H',N σ' H'->∃m',m'<m/\W (i+1) m' σ' H')/\∀x H',(ItN K tup a).W9 i H x H'->g x σ H' λσ2 H2=>tb { D with nx:=N,ct:=N,bk:=D.nx} σ2 H2):=by
 cases tup with
 |true=>show Xc Pv h0 hl hs hd
 |false=>show sy Pv h0 hl hs hd
def Ζ{K:aJ}{ns:ae}{ix:List (Option Nat)}{g:TG}{tt:TT}{te:TE}{H1:Hp}(Pv:Nat->af->Hp->Prop)(h0:Pv 0 [] H1)(hl:∀i ys H,i<=(ns.map V.int).length->Pv i ys H->tH K tup H a ns/\ys.length<=sizeLine)
  (hs:∀i x ys H,(ns.map V.int)[i]?=some x->Pv i ys H->g x (pG ix σ) H λσ2 H2=>tt σ2 H2 λb H3=>if b=true then te σ2 H3 λv H4=>Pv (i+1) (ys++[v]) H4 else Pv (i+1) ys H3)
  (hd:∀ys H,Pv (ns.map V.int).length ys H->∀p,H p=none->Q (.ref p) (cU H p (.lst ys))):j7 ix g tt te σ H1 Q (ItN K tup a):=by
 cases tup with
 |true=>show Pa Pv h0 hl hs hd
 |false=>show tV Pv h0 hl hs hd
inductive a1S(K:aJ)(tup:Bool)(vs:af)(H:Hp)(Q:VK)(u_3:XK):Prop
 |mk (a:Addr) (ns:ae) (_:vs=[.ref a]) (_:tH K tup H a ns) (_:ns.length<=60) (_:∀p H',aL H H'->oO H' p (Lk.iI ns)->Q (.ref p) H')
inductive Η(K:aJ)(tup:Bool)(vs:af)(H:Hp)(Q:VK)(u_3:XK):Prop
 |mk (a:Addr) (ns:ae) (i j:Nat) (_:vs=[.ref a,.int i,.int j]) (_:tH K tup H a ns) (_:ns.length<=60) (_:i<ns.length) (_:j<ns.length) (_:∀p H',aL H H'->H p=none->H' p=↥((Lk.S7 ns i j).map V.int)->Q (.ref p) H')
section
variable{K:aJ}
abbrev RZ(K:PySem.W.Frag)(mg:Str->Option Value):=Dn K mg "renumbered" wg ["numbers"]
def qx(tup:Bool)(B:Bl mg)(jY:RZ K mg):⋯ 1 jY.f jY.fd ["numbers"] (a1S K tup):=by
 show jY.F.ok uV λd7 A outer s H vs Q E hr h=>?_;let⟨a,ns,rfl,ha,l6,q⟩:=h;show⟨_,(aD (aX 1 uV.nd Ih)
   (aD (gQ gH Z (WX (K:=K) (tup:=tup) Z (pv 0)) (aM 2 uV.nd)
   (aF (cM (aN uY (pv 2) aq)
   (aF (fL (iR (K:=K) Z rN Ml Ø xW (pv 1) (O (pv 2) (O (bh cX (aU Z4 Z B.len () (O (pv 1) aj)) aq) aj)))))
   bA)))
   (aF (bH (jL uI Z B.tuple () (O (lU ["number","met"] [none,some 1]  (by kernel_rfl) Z (WX (K:=K) (tup:=tup) Z (pv 0)) (λ_ _ _ _ _=>(aM 0 (show(["number","met"]:ag).Nodup by decide))) (λ_ _ _ _ _=>gj) λ_ _ _ _ _=>(iR (K:=K) Z rN Cu TX a1O (pv 1) (O (pv 0) (O (pv 0) aj)))) aj)))))),?_⟩
 intro m hm;let n0:=iG.nD (H:=H) (p:=m) (o:=.dK []) hm;generalize cU H m (.dK [])=H0 at n0 ⊢;let nd:=Lk.Eg (r:=ns) (L:=[]) vJ;let up:∀{G:Hp},(∀c o,c≠m->H0 c=some o->G c=some o)->aL H G:=λ{G} s c o e=>s c o (λz=>by grind) (n0.same _ _ e);show WY Z (ha.keep n0.same) (Wj (P:=λi σ G=>P3 (T1 (λo2=>[⇑a,⇑m,o2]) σ) (∀c o,c≠m->H0 c=some o->G c=some o) λ_:Unit=>G m=some (.dK (Lk.kvI (Lk.firsts [] (ns.take i))))) λZ97 ji ij=>a1R (ns:=ns) Z97 (ji _ _ _ ⟨⟨_,Z⟩,λ_ _ _ h=>h,⟨⟩,n0.here⟩) (λi σ G _ h=>ha.keep (up (ij _ _ _ h).s)) ?_ ?_)
 ·intro i x σ G hx h1;let⟨⟨o2,rfl⟩,sG,_,hG⟩:=ij _ _ _ h1;rw[cH]at hx;let⟨z,hz,rfl⟩:=jP.mp hx;let et:ns.take (i+1)=ns.take i++[z]:=by rw[iz,hz];rfl
  let nd':=Lk.Eg (r:=ns.take i) (L:=[]) vJ;let lf:=Lk.JR (r:=ns.take i) (L:=[]);rw[dY]at lf;let lk:=Lk.a1Q (Lk.firsts [] (ns.take i));let e2:Lk.firsts [] (ns.take (i+1))=if 0<z/\z∉Lk.firsts [] (ns.take i)then Lk.firsts [] (ns.take i)++[z]else Lk.firsts [] (ns.take i):=by rw[et,Lk.WW];rfl
  show⟨_,Z,_,_,Z,Z,_,Z,nC (λc=>?_) λc=>?_⟩
  ·let c:0<z:=dw c;show⟨_,Z,.inr (.inr (.inl ⟨Z,.inl ⟨_,hG⟩⟩)),_,Z,_,Z,m,_,Z,hG,_,_,Z,Z,m,.inl z,_,_,Z,Z,hG,?_,λy hy=>?_,λhn G1 cg=>?_⟩
   ·grind
   ·show ji _ _ _ ⟨⟨_,Z⟩,sG,⟨⟩,?_⟩;rw[e2,aA]
    ·show hG
    ·rintro⟨_,nz⟩;rw[Lk.Qc nd',aA nz]at hy;cases hy
   ·let nz:z∉Lk.firsts [] (ns.take i):=λmz=>by
     rw[Lk.Qc nd',aB mz]at hn;cases hn
    show ji _ _ _ ⟨⟨_,Z⟩,λc o hc e=>by rw[cg.rest c hc];show sG c o hc e,⟨⟩,?_⟩;rw[e2,aB ⟨c,nz⟩,cg.here,Lk.Β,Ĥ _ hn,lk]
  ·let c:¬0<z:=λh=>c (aV h);show ji _ _ _ ⟨⟨_,Z⟩,sG,⟨⟩,?_⟩;rw[e2,aA (λh=>c h.1)];show hG
 ·intro σ G h1;let⟨⟨o2,rfl⟩,sG,_,hG⟩:=ij _ _ _ h1;clear ji ij h1;rw[aH,gw]at hG;let sH:=up sG;show WY Z (ha.keep sH) ?_;show Ζ (ns:=ns) (λi ys G'=>G'=G/\ys=((Lk.iI ns).take i).map V.int) ⟨Z,Z⟩ (λi ys G' hi ⟨e,ey⟩=>⟨by rw[e];show ha.keep sH,?_⟩) (λi x ys G' hx ⟨e,ey⟩=>?_) (λys G' ⟨e,ey⟩ pr hpr=>?_)
  ·let:(Lk.iI ns).length=ns.length:=by unfold Lk.iI;grind
   rw[ey,aH,dY];show eY (cL ())
  ·subst e;rw[cH]at hx;let⟨z,hz,rfl⟩:=jP.mp hx;let er:(Lk.iI ns)[i]?=some (if 0<z then(((Lk.firsts [] ns).idxOf z:Nat):Int)+1 else z):=by unfold Lk.iI;rw[cH,hz];rfl
   show⟨_,Z,.inr (.inr (.inl ⟨Z,.inl ⟨_,hG⟩⟩)),_,Z,_,Z,m,.inl z,_,_,Z,Z,hG,Z,?_⟩;rw[ey,iz,er,cW];congr 1;show [(dh (Lk.kvI (Lk.firsts [] ns)) (.inl z)).getD (V.int z)]=[V.int (if 0<z then(((Lk.firsts [] ns).idxOf z:Nat):Int)+1 else z)];rw[Lk.Qc nd];by_cases c:0<z
   ·rw[aB c,aB (Lk.zV.mpr (.inr ⟨c,gF hz⟩))];rfl
   ·rw[aA c,aA (λmz=>by rcases Lk.zV.mp mz with z'|z';cases z';show c z'.1)];rfl
  ·subst e;rw[aH,show ns.length=(Lk.iI ns).length by unfold Lk.iI;grind,gw]at ey;let n1:=iG.nD (o:=.lst ys) hpr;generalize cU G' pr (.lst ys)=G1 at n1 ⊢;show⟨pr,ys,Z,.inl ⟨bD.of n1.here,λl hl=>?_⟩⟩;let n2:=iG.nD (o:=.tup ys) hl;show q l _ (sH.trans (n1.same.trans n2.same)) ?_;show _=some (HO.tup ((Lk.iI ns).map V.int));rw[<-ey];show n2.here
end
section
variable{K:aJ}
def LK(tup:Bool)(rE:Dn K mg "merged" qH Bj):⋯ 1 rE.f rE.fd Bj (Η K tup):=by
 show rE.F.ok Ã λd7 A outer s H vs Q E hr h=>?_;let⟨a,ns,i,j,rfl,ha,l6,li,lj,q⟩:=h;show⟨_,(aF (bH (lU ["number","numbers","one","other"] [none,some 0,some 1,some 2]  (by kernel_rfl) Z (WX (K:=K) (tup:=tup) Z (pv 0)) (λ_ _ _ _ _=>(aM 0 (show(["number","numbers","one","other"]:ag).Nodup by decide))) (λ_ _ _ _ _=>gj) λ_ _ _ _ _=>(nO (aN jV (pv 0) (aP (Δ (K:=K) (tup:=tup) Z) (pv 1) (pv 3))) (aP (Δ (K:=K) (tup:=tup) Z) (pv 1) (pv 2)) (pv 0))))),WY Z ha ?_⟩;let lm:(Lk.S7 ns i j).length=ns.length:=by unfold Lk.S7;rw[aH]
 show Ζ (ns:=ns) (λk ys G=>G=H/\ys=((Lk.S7 ns i j).take k).map V.int) ⟨Z,Z⟩ (λk ys G hk ⟨e,ey⟩=>⟨by rw[e];show ha,?_⟩) (λk x ys G hx ⟨e,ey⟩=>?_) (λys G ⟨e,ey⟩ pr hpr=>?_)
 ·rw[ey,aH,dY];show eY (cL ())
 ·subst e;rw[cH]at hx;let⟨z,hz,rfl⟩:=jP.mp hx;let er:(Lk.S7 ns i j)[k]?=some (if z=dD ns j then dD ns i else z):=by unfold Lk.S7;rw[cH,hz];rfl
  rw[ey,iz,er,cW];show⟨_,Z,_,Z,_,Z,Ε ha lj ⟨Z,_,Z,nC (λc=>?_) λc=>?_⟩⟩
  ·let c:z=dD ns j:=V.int.inj (dw c);rw[aB c];show⟨_,Z,_,Z,Ε ha li ⟨Z,Z⟩⟩
  ·let c:¬z=dD ns j:=λe=>c (aV (congrArg V.int e));rw[aA c];show⟨_,Z,Z,Z⟩
 ·subst e;rw[aH,<-lm,gw]at ey;let n1:=iG.nD (o:=.lst ys) hpr;show q pr _ n1.same n1.fresh (by rw[n1.here,ey])
end
namespace Lk
def tG{s:dW}(h:iH m s=true):s.length=m+1:=by
 unfold iH at h;rw[gq]at h;simpa using h.1
def R0{s:dW}(h:iH m s=true):(∃r,s=1::r/\r.length=m/\∀x∈r,x=0)\/∃r,s=0::r/\r.length=m/\(∀x∈r,0<=x/\x<=(m:Int))/\iI r=r:=by
 let l:=tG h;unfold iH at h;rw[gq,Nq]at h;cases s with
 |nil=>cases l
 |cons a r =>
  let lr:r.length=m:=by simpa using l
  rcases h.2 with h|h
  ·rw[gq,iw]at h;let e:a=1:=by simpa [dD]using h.1
   grind
  ·rw[gq,gq,iw]at h;let e:a=0:=by simpa [dD]using h.1.1
   show .inr ⟨r,by rw[e],lr,λx hx=>by simpa using h.1.2 x hx,by simpa using h.2⟩
end Lk
inductive Td(C:Addr)(n:Nat)(ts:ar)(cD cs:ae)(H:Hp)(d:Addr):Prop
 |mk (dx pg pt:Addr) (xs:af) (l u pw pc:Addr) (ob:Obj) (_:H d=some (.ins C dx (fsQ pg (.ref l) (.ref u)++[(("told" : Str),V.ref pw),(("costs" : Str),V.ref pc)]))) (_:H pg= ~~~[.int n,.ref pt]) (_:H pt=↥xs) (_:Paired (lZ H) xs ts) (_:ts.length<=1000) (_:oO H l [0]) (_:oO H u [1]) (_:H pw=↥(cD.map V.int)) (_:H pc=some (.gP ob (.dT ((ts.map pK).zip (cs.map V.int)))))
def Td.keep{C:Addr}{n:Nat}{ts:ar}{H H':Hp}{d:Addr}(a:Nd H H')(h:Td C n ts cD cs H d):Td C n ts cD cs H' d:=by
 let⟨dx,pg,pt,xs,l,u,pw,pc,ob,h1,h2,h3,h4,h5,h6,h7,h8,h9⟩:=h;show⟨dx,pg,pt,xs,l,u,pw,pc,ob,a _ _ (λ_ z=>by cases z) (λ_ z=>by cases z) h1,a.tups _ _ h2,a.lst h3,Paired.cA h4 λ_ _ z=>Ws a.tups z,h5,a.tups _ _ h6,a.tups _ _ h7,a.lst h8,a _ _ (λ_ z=>by cases z) (λ_ z=>by cases z) h9⟩
def Td.ins{K:aJ}{C:Addr}{n:Nat}{ts:ar}{cD cs:ae}{H:Hp}{d:Addr}(h:Td C n ts cD cs H d):∃dx fs,H d=some (.ins C dx fs)/\(∀m,m∈(XJ:ag)->fs.lookup m=none)/\
  (∃a,fs.lookup ("leaf" : Str)=⇑a/\oO H a [0])/\(∃a,fs.lookup ("whole" : Str)=⇑a/\oO H a [1])/\∃g,fs.lookup ("graph" : Str)=some g/\uJ K H g n ts:=by
 let⟨dx,pg,pt,xs,l,u,pw,pc,ob,h1,h2,h3,h4,h5,h6,h7,h8,h9⟩:=h;show⟨dx,_,h1,λm hm=>?_,⟨l,Z,h6⟩,⟨u,Z,h7⟩,.ref pg,Z,pg,pt,Z,cJ.of h2,xs,bD.of h3,Paired.cA h4 λ_ _ ⟨p,e,h⟩=>⟨p,e,cJ.of h⟩,h5⟩;let go:∀m∈(XJ:ag),(m==("graph" : Str))=false/\(m==("leaf" : Str))=false/\(m==("whole" : Str))=false/\(m==("told" : Str))=false/\(m==("costs" : Str))=false:=()
 let⟨g1,g2,g3,g4,g5⟩:=go m hm;unfold fsQ;simp only[List.cons_append,List.nil_append,List.lookup_cons,g1,g2,g3,g4,g5,List.lookup_nil]
def a1T{ts:ar}(l:cs.length=ts.length){t:Int×Int}(h:t∈ts):dh ((ts.map pK).zip (cs.map V.int)) (pK t)=some (.int (cs.getD (ts.idxOf t) 0)):=by
 induction ts generalizing cs with
 |nil=>cases h
 |cons a ts ih =>
  cases cs with
  |nil=>cases l
  |cons c cs =>
   unfold dh at ih ⊢;rw[cC,cC,List.zip_cons_cons];by_cases e:a=t
   ·subst e;rw[rO (by show aV Z),Ua];rfl
   ·rw[rP (by show λz=>e (ĩ (dw z))),ih (by simpa using l) ((bO.mp h).resolve_left λz=>e z.symm),UL,show(a==t)=false by simpa using e];rfl
noncomputable def lC(ts:ar)(cs:ae)(t:Int×Int):Int:=cs.getD (ts.idxOf t) 0
theorem LQ{P:Program}{w:World}:∀bs:List Bool,Paired (λv (x:Bool)=>∀u,cY v u->(Dk.Ik P w).is x u=true) (bs.map V.bl) bs
 | []=>.nil
 |b::bs=>.cons (λu e=>by
   let e:u=Value.bool b:=e
   rw[e]
   show Ng b) (LQ bs)
section
variable{K:aJ}{C:Addr}{n:Nat}{ts:ar}
def wJ{κ:Type} [DecidableEq κ] (d_:Dm K C "is_better" "Question.is_better" jb xu) (pq:PQ κ) (hb:pq.bt=λa b=>decide (a<b)) (At:Hp->Addr->Prop):⋯ 1 d_.f d_.fd xu (Rc pq At):=by
 show d_.F.ok wH λd7 A outer s H vs Q E hr h=>?_;let⟨d,a,b,rfl,hD,q⟩:=h;show⟨_,(aF (bH (yc Ae (pv 1) (pv 2)))),?_⟩;rw[hb]at q;show⟨_,Z,_,Z,_,_,Z,Z,q⟩
def FQ(B:Bl mg)(d_:Dm K C "shared" "Links.shared" nZ K3)(At:Hp->Addr->Prop):⋯ 1 d_.f d_.fd K3 (Rf (Dk.Ik P w) (tQ cD cost) At):=by
 show d_.F.ok FP λd7 A outer s H vs Q E hr h=>?_;let⟨d,a,m,st,rfl,hD,ha,ok,m4,q⟩:=h;let l1:=Lk.tG (ok m4);show⟨_,(aF (bH (jL uI Z B.tuple () (O (lU ["number"] [none]  (by kernel_rfl) Z (Ar (K:=K) Z (fj mL (pv 1) (gb aq) fZ)) (λ_ _ _ _ _=>(aM 0 (show(["number"]:ag).Nodup by decide))) (λ_ _ _ _ _=>gj) λ_ _ _ _ _=>(yc uY (pv 0) aq)) aj)))),⟨_,Z,_,Z,a,_,Z,ha,λb1 H1 s1 h1=>?_⟩⟩;try dsimp only at h1
 rw[show(1:Int)=((1:Nat):Int)from Z,rC st 1 ()]at h1;show⟨b1,Z,⟨_,cJ.of h1⟩,?_⟩;show Pa (K:=K) (a:=b1) (xs:=(st.drop 1).map V.int) (λi ys G=>G=H1/\ys=(((st.drop 1).take i).map λx=>decide (0<x)).map V.bl) ⟨Z,Z⟩ (λi ys G hi ⟨e,ey⟩=>⟨by rw[e];show cJ.of h1,?_⟩) (λi x ys G hx ⟨e,ey⟩=>?_) (λys G ⟨e,ey⟩ pr hpr=>?_)
 ·rw[ey,aH,aH,dY,iK];show eY (cL ())
 ·subst e;rw[cH]at hx;let⟨y,hy,rfl⟩:=jP.mp hx;show⟨_,Z,_,_,Z,Z,Z,?_⟩;rw[ey,iz,hy,cW,cW];rfl
 ·subst e;rw[aH,gw]at ey;let n1:=iG.nD (o:=.lst ys) hpr;generalize cU G pr (.lst ys)=G1 at n1 ⊢;show⟨pr,ys,Z,.inl ⟨bD.of n1.here,λl hl=>?_⟩⟩;let n2:=iG.nD (o:=.tup ys) hl;show q l _ (s1.trans (n1.same.trans n2.same)) ⟨ys,n2.here,?_⟩;rw[ey];show Paired _ _ (st.tail.map λx=>decide (0<x));rw[<-CN];show LQ _
end
section
variable{K:aJ}{C:Addr}{n:Nat}{ts:ar}
def Td.a7g{H:Hp}{d:Addr}(h:Td C n ts cD cs H d):∃dx fs pw,H d=some (.ins C dx fs)/\fs.lookup ("told" : Str)=⇑pw/\H pw=↥(cD.map V.int):=by
 let⟨dx,pg,pt,xs,l,u,pw,pc,ob,h1,h2,h3,h4,h5,h6,h7,h8,h9⟩:=h;show⟨dx,_,pw,h1,Z,h8⟩
def Td.costs{H:Hp}{d:Addr}(h:Td C n ts cD cs H d):∃dx fs pc ob,H d=some (.ins C dx fs)/\fs.lookup ("costs" : Str)=⇑pc/\H pc=some (.gP ob (.dT ((ts.map pK).zip (cs.map V.int)))):=by
 let⟨dx,pg,pt,xs,l,u,pw,pc,ob,h1,h2,h3,h4,h5,h6,h7,h8,h9⟩:=h;show⟨dx,_,pc,ob,h1,Z,h9⟩
def Yu(s:dW)(p:Nat)(x:Int):(zL s p x).length=s.length+1:=by
 unfold zL;grind
def Gz(ns:ae):(Lk.iI ns).length=ns.length:=by unfold Lk.iI;rw[aH]
def a7h{H:Hp}{b:Addr}{J:List (aS×V)}{k:aS}(e:Rd H a (.dT J))(eb:H b= ~~~(k.map kV)):xq H a (.ref b) (dh J k):=.inr ⟨J,k,b,e,Z,eb,Z⟩
def FT(B:Bl mg)(cl:Cls K C)(nt:jz K C "told")(d_:Dm K C "put_in" "Links.put_in" kE yL)(uR:Dn K mg "with_number" jo Fb)(jY:RZ K mg):⋯ 2 d_.f d_.fd yL (a2o (tQ cD cost) (Td C n ts cD cs)):=by
 let a7i:⋯ 1 _ _ _ _:=Jm uR;let W3:⋯ 1 _ _ _ _:=qx true B jY;show d_.F.ok qR λd7 A outer s H vs Q E hr h=>?_;let⟨d,a,m,spot,v,st,rfl,hD,ha,ok,m4,sp,q⟩:=h;let hv:(A.deeper (PyProof.Rows.envOfC "Links.put_in" (aG kE) s⁻¹ d_.f d7)).units+65<cLine:=by let:=hr.un;omega
 let ls:=Lk.tG (ok m4);show⟨_,(aD (aX 4 qR.nd (cF aj))
   (jw (cM (aN (iC (K:=K) Z hv) (pv 3) (Gn (K:=K) Z (pv 0) Z) (by with_unfolding_all rfl))
   (aF (fL (iR (K:=K) Z jc PySem.F.slot_list_append PySem.F.type_list_append fC (pv 4) (O (bL (O (bx a7i hr Z uR.m uR.F.kp uR.b .nil bZ (O (pv 1) (O (bh cX (pv 2) aq) (O aq aj)))) (O aq aj))) aj))))
   bA)
   (jw (cM (pB (dN (K:=K) Z (aP (aO (K:=K) Z) (pv 1) aq) λ_=>rfl))
   (aD (aX 5 qR.nd (bx a7i hr Z uR.m uR.F.kp uR.b .nil bZ (O (fj mL (pv 1) (gb aq) fZ) (O (pv 2) (O (aU (bR (K:=K) Z) Z B.len () (O (pv 1) aj)) aj)))))
   (aF (fL (iR (K:=K) Z jc PySem.F.slot_list_append PySem.F.type_list_append fC (pv 4) (O (bL (O (bh uh (bL (O aq aj)) (bx W3 hr Z jY.m jY.F.kp jY.b .nil bZ (O (pv 5) aj))) (O aq aj))) aj)))))
   bA)
   (aF (bH (pv 4)))))),?_⟩
 show⟨(),λpT H1 n1=>?_⟩;let⟨dx,fs,pw,h1,hl,hw⟩:=hD.a7g;obtain⟨L0,eL0⟩:∃L0:List (dW×Int),L0=if(v:Int)∈cD then []else [(zL st (spot+1) 0,(0:Int))]:=⟨_,Z⟩
 show Bq (P:=λσ' G=>∃xs,σ'=[⇑d,⇑a,some (.int (spot:Int)),some (.int (v:Int)),⇑pT,none]/\aL H G/\G pT=↥xs/\Paired (Ë G) xs L0/\H pT=none) λZ97 ji ij=>⟨Z97,?_,?_⟩
 ·show⟨_,Z,_,Z,d,C,dx,fs,.ref pw,Z,n1.same _ _ h1,cl,nt,hl,rF (bD.of (n1.same _ _ hw)) ⟨_,Z,?_⟩⟩;by_cases c:(v:Int)∈cD
  ·rw[aV c];show dB (ji _ _ ⟨[],Z,n1.same,n1.here,?_,n1.fresh⟩);rw[eL0,aB c];show .nil
  ·rw[cI c];show iQ ⟨_,Z,.inl ⟨Z,_,bD.of n1.here⟩,_,Z,_,Z,_,_,Z,Z,a,st,spot+1,0,Z,ha.keep (.of n1.same),(),(),λb G1 s1 hb=>⟨(),λp2 G2 n2=>⟨pT,[],_,Z,Z,n2.same _ _ (s1 _ _ n1.here),(),λG3 cg=>?_⟩⟩⟩;let s2:=s1.trans n2.same;let sT:=s2 _ _ n1.here;show ji _ _ ⟨_,Z,(n1.same.trans s2).chg n1.fresh cg,cg.here,?_,n1.fresh⟩;rw[eL0,aA c];let k3:lG G2 G3:=λc' ys hc=>by
    rw[cg.rest c' (λz=>by grind)];show hc
   show .cons ⟨p2,b,Z,k3 _ _ n2.here,(hb.keep (.of n2.same)).keep k3⟩ .nil
 intro σ' G h2;let⟨xs,rfl,sG,hT,pT',fT⟩:=ij _ _ h2;clear ji ij h2;let lx:xs.length<=1:=by
  rw[aW pT',eL0];split<;>simp
 let haG:=ha.keep (.of sG);obtain⟨L1,eL1⟩:∃L1:List (dW×Int),L1=L0++if dD st 0=0 then [(0::Lk.iI (zL st.tail spot (st.length:Int)),0)]else []:=⟨_,Z⟩
 let fin:∀(xs:af) (G':Hp),aL H G'->G' pT=↥xs->Paired (Ë G') xs L1->Q (.ref pT) G':=λxs G' s h p=>q pT xs G' s h (by rw[eL1,eL0]at p;show p);show Bq (P:=λσ' G=>(∃o5,σ'=[⇑d,⇑a,some (.int (spot:Int)),some (.int (v:Int)),⇑pT,o5])/\Q (.ref pT) G) λZ97 ji ij=>⟨Z97,?_,?_⟩
 ·show⟨_,Z,a,_,_,.int (dD st 0),Z,Z,cJ.of haG,S6 (i:=0) (),dD st 0 != 0,Z,?_⟩;by_cases c:dD st 0=0
  ·rw[c];rw[aB c]at eL1;show iQ ⟨_,Z,_,Z,a,_,Z,haG,λb1 G1 s1 h1=>?_⟩;try dsimp only at h1
   rw[show(1:Int)=((1:Nat):Int)from Z,rC st 1 ()]at h1;show⟨_,Z,_,Z,a,_,Z,.inr (cJ.of (haG.keep (.of s1))),?_⟩;rw[aH];show⟨b1,st.drop 1,spot,_,Z,h1,by rw[iK];omega,by rw[iK];omega,λb2 G2 s2 h2=>?_⟩;let zU:=s1.trans s2;let hT2:=zU _ _ hT;show⟨_,Z,.inl ⟨Z,_,bD.of hT2⟩,(),λp3 G3 n3=>⟨_,Z,b2,_,Z,cJ.of (h2.keep (.of n3.same)),?_,λp4 G4 s4 h4=>?_⟩⟩
   ·rw[Yu,iK];omega
   show⟨p3,p4,_,_,Z,Z,s4 _ _ n3.here,h4,?_,λp5 G5 s5 h5=>⟨(),λp6 G6 n6=>⟨pT,xs,_,Z,Z,n6.same _ _ (s5 _ _ (s4 _ _ (n3.same _ _ hT2))),(),λG7 cg=>?_⟩⟩⟩
   ·rw[aH,Gz,Yu,iK];show 1+_<=1000;omega
   let s36:=n3.same.trans (s4.trans (s5.trans n6.same));let sT:=(zU.trans s36) _ _ hT;let k7:lG G6 G7:=λc' ys hc=>by
    rw[cg.rest c' (λz=>by grind)];show hc
   show ji _ _ ⟨⟨_,Z⟩,fin (xs++[.ref p6]) G7 ((sG.trans (zU.trans s36)).chg fT cg) cg.here ?_⟩;rw[eL1];show eX (Paired.cA pT' λ_ _ z=>z.keep ((lG.of (zU.trans s36)).trans k7)) ⟨p6,p5,Z,k7 _ _ n6.here,k7 _ _ (n6.same _ _ ?_)⟩;rw[h5,<-CN];rfl
  ·rw[show(dD st 0 != 0)=true by simpa using c];rw[aA c,jE]at eL1;show dB (ji _ _ ⟨⟨_,Z⟩,fin xs G sG hT ()⟩)
 ·intro σ' G' h2;let⟨⟨o5,rfl⟩,h⟩:=ij _ _ h2;show⟨_,Z,h⟩
end
def a7j{a b:TT}{H:Hp}{Q:Bool->Hp->Prop}{c1 c2:Bool}(h1:∀Q:Bool->Hp->Prop,Q c1 H->a σ H Q)(h2:∀Q:Bool->Hp->Prop,Q c2 H->b σ H Q)(h:Q (c1&&c2) H):a0b a b σ H Q:=by
 show h1 _ ?_;cases c1 with
 |false=>show dB h
 |true=>show iQ (h2 _ h)
section
variable{K:aJ}{C:Addr}{n:Nat}{ts:ar}
def Km(B:Bl mg)(cl:Cls K C)(nc:jz K C "costs")(lc:cs.length=ts.length)(d_:Dm K C "tied" "Links.tied" ou Q9)(jY:RZ K mg)(rE:Dn K mg "merged" qH Bj):⋯ 2 d_.f d_.fd Q9 (a2q (tQ cD (lC ts cs)) (Td C n ts cD cs) (λt=>t∈ts)):=by
 let a4H:⋯ 1 _ _ _ _:=LK true rE;let W3:⋯ 1 _ _ _ _:=qx false B jY;show d_.F.ok uO λd7 A outer s H vs Q E hr h=>?_;let⟨d,a,p,m,fU,cP,t,st,rfl,hD,ha,ok,m4,o1,o2,ne,ti,hp,q⟩:=h;let hw1:(A.deeper (PyProof.Rows.envOfC "Links.tied" (aG ou) s⁻¹ d_.f d7)).units+1<cLine:=by let:=hr.un;omega
 let ls:=Lk.tG (ok m4);show⟨_,(aD (aX 5 uO.nd (fj mL (pv 1) (gb aq) fZ))
   (aD (aX 6 uO.nd (cF (O (bL (O (pv 1) (O aq aj))) aj)))
   (jw (cM (PW.pt (oZ (aN uY (aP (aO (K:=K) Z) (pv 5) (pv 2)) aq) (oZ (aN uY (aP (aO (K:=K) Z) (pv 5) (pv 3)) aq) (qg (aN Hx (aP (aO (K:=K) Z) (pv 5) (pv 2)) (aP (aO (K:=K) Z) (pv 5) (pv 3)))))))
   (aF (fL (iR (K:=K) Z jc PySem.F.slot_list_append PySem.F.type_list_append fC (pv 6) (O (bL (O (bh uh (bL (O aq aj)) (bx W3 hr Z jY.m jY.F.kp jY.b .nil bZ (O (bx a4H hr Z rE.m rE.F.kp rE.b .nil bZ (O (pv 5) (O (pv 2) (O (pv 3) aj)))) aj))) (O (yj hw1 (Gn (K:=K) Z (pv 0) Z) (pv 4) λ_ _=>rfl) aj))) aj))))
   bA)
   (aF (bH (pv 6)))))),?_⟩
 show⟨_,Z,_,Z,a,_,Z,ha,λb1 H1 s1 h1=>?_⟩;try dsimp only at h1
 rw[show(1:Int)=((1:Nat):Int)from Z,rC st 1 ()]at h1;let ln:(st.drop 1).length=m:=()
 let aa:∀i,dD (st.drop 1) i=dD st (i+1):=λi=>by
  unfold dD;grind
 show⟨_,Z,(),λp2 H2 n2=>⟨(),λpT H3 n3=>?_⟩⟩;let wK:=s1.trans (n2.same.trans n3.same);let hb3:cJ K H3 b1 ((st.drop 1).map V.int):=cJ.of (n3.same _ _ (n2.same _ _ h1));let fT:H pT=none:=(s1.trans n2.same).free n3.fresh;let base0:Ë H3 (.ref p2) (st,(0:Int)):=⟨p2,a,Z,n3.same _ _ n2.here,ha.keep (.of wK)⟩;obtain⟨L1,eL1⟩:∃L1:List (dW×Int),L1=(st,(0:Int))::if 0<dD st (fU+1)/\0<dD st (cP+1)/\dD st (fU+1)≠dD st (cP+1)then [(0::Lk.iI (Lk.S7 st.tail fU cP),lC ts cs t)]else []:=⟨_,Z⟩
 let fin:∀(xs:af) (G':Hp),aL H G'->G' pT=↥xs->Paired (Ë G') xs L1->Q (.ref pT) G':=λxs G' s h p=>q pT xs G' s h (by rw[eL1]at p;show p);show Bq (P:=λσ' G=>σ'=[⇑d,⇑a,some (.int (fU:Int)),some (.int (cP:Int)),⇑p,⇑b1,⇑pT]/\Q (.ref pT) G) λZ97 ji ij=>⟨Z97,?_,?_⟩
 ·let t1:Vq ((st.drop 1).map V.int) (fU:Int)=some (.int (dD st (fU+1))):=by rw[S6 (),aa]
  let t2:Vq ((st.drop 1).map V.int) (cP:Int)=some (.int (dD st (cP+1))):=by rw[S6 (),aa]
  dsimp only[W8,a0c,a0d];show a7j (c1:=decide (0<dD st (fU+1))) (c2:=decide (0<dD st (cP+1))&&decide (dD st (fU+1)≠dD st (cP+1))) (λQ h=>⟨_,Z,_,Z,b1,_,_,_,Z,Z,hb3,t1,_,_,Z,Z,_,Z,h⟩) (λQ h=>a7j (c1:=decide (0<dD st (cP+1))) (c2:=decide (dD st (fU+1)≠dD st (cP+1))) (λQ h=>⟨_,Z,_,Z,b1,_,_,_,Z,Z,hb3,t2,_,_,Z,Z,_,Z,h⟩) (λQ h=>⟨_,Z,_,Z,b1,_,_,_,Z,Z,hb3,t1,_,Z,_,Z,b1,_,_,_,Z,Z,hb3,t2,Z,_,Z,?_⟩) h) (nC (λc=>?_) λc=>?_)
  ·rw[show(!decide (V.int (dD st (fU+1))=V.int (dD st (cP+1))))=decide (dD st (fU+1)≠dD st (cP+1)) by grind];show h
  ·let c':0<dD st (fU+1)/\0<dD st (cP+1)/\dD st (fU+1)≠dD st (cP+1):=by
    grind
   rw[aB c']at eL1;let⟨dx,fs,pc,ob,g1,g2,g3⟩:=hD.costs;show⟨_,Z,.inl ⟨Z,_,bD.of n3.here⟩,(),λp4 G4 n4=>⟨_,Z,_,Z,_,Z,b1,st.drop 1,fU,cP,Z,n4.same.vU hb3,(),(),(),λp5 G5 s5 f5 h5=>⟨p5,_,Z,bD.of h5,?_,λp6 G6 s6 h6=>⟨p4,p6,_,_,Z,Z,s6 _ _ (s5 _ _ n4.here),h6,?_,λp7 G7 s7 h7=>?_⟩⟩⟩⟩
   ·unfold Lk.S7;rw[aH];omega
   ·rw[aH,Gz];unfold Lk.S7;rw[aH];show 1+_<=1000;omega
   let s47:=n4.same.trans (s5.trans (s6.trans s7));let s07:=wK.trans s47;show⟨_,Z,d,C,dx,fs,.ref pc,Z,s07 _ _ g1,cl,nc,g2,_,Z,pc,.int (lC ts cs t),Z,?_,(),λp8 G8 n8=>⟨pT,[.ref p2],_,Z,Z,n8.same _ _ (s47 _ _ n3.here),(by show 1<1000;decide),λG9 cg=>?_⟩⟩
   ·let e:=a1T lc ti;rw[show lC ts cs t=cs.getD (ts.idxOf t) 0 from Z,<-e];show a7h (.inr ⟨ob,s07 _ _ g3⟩) (s07 _ _ hp)
   let s48:=s47.trans n8.same;let sT:=s48 _ _ n3.here;let k9:lG G8 G9:=λc' ys hc=>by
    rw[cg.rest c' (λz=>by grind)];show hc
   show ji _ _ ⟨Z,fin [.ref p2,.ref p8] G9 ((wK.trans s48).chg fT cg) cg.here ?_⟩;rw[eL1];show .cons ((base0.keep (.of s48)).keep k9) (.cons ⟨p8,p7,Z,k9 _ _ n8.here,k9 _ _ (n8.same _ _ ?_)⟩ .nil);rw[h7,<-CN];rfl
  ·let c':¬(0<dD st (fU+1)/\0<dD st (cP+1)/\dD st (fU+1)≠dD st (cP+1)):=λh=>c (by
    grind)
   rw[aA c']at eL1;show ji _ _ ⟨Z,fin [.ref p2] H3 wK n3.here (by rw[eL1];show .cons base0 .nil)⟩
 ·intro σ' G' h2;let⟨rfl,h⟩:=ij _ _ h2;show⟨_,Z,h⟩
end
section
variable{K:aJ}{C:Addr}
def a4I{x:Int}{s:dW}:inV (V.int x) (s.map V.int)=decide (x∈s):=by
 induction s with
 |nil=>rfl
 |cons y s ih =>
  rw[cC];show(eqV (V.int y) (V.int x)||inV (V.int x) (s.map V.int))=_;rw[ih];show((y==x)||decide (x∈s))=_;grind
def a1U{s:dW}{p:Nat}(h:p<s.length):(qD s p).length+1=s.length:=by
 unfold qD;grind
def zW(B:Bl mg)(d_:Dm K C "taken_out" "Links.taken_out" jW yL)(At:Hp->Addr->Prop)(Pl:Nat->Prop)(wI:Dn K mg "without_number" fX Fd)(jY:RZ K mg):⋯ 2 d_.f d_.fd yL (a2p (tQ cD cost) At Pl):=by
 let a8n:⋯ 1 _ _ _ _:=BP wI;let W3:⋯ 1 _ _ _ _:=qx true B jY;show d_.F.ok mW λd7 A outer s H vs Q E hr h=>?_;let⟨d,a,m,spot,v,st,rfl,hD,ha,ok,m4,sp,pv0,q⟩:=h;let ls:=Lk.tG (ok m4);show⟨_,(aD (aX 4 mW.nd (aP (aO (K:=K) Z) (pv 1) (bh cX (pv 2) aq)))
   (aD (aX 5 mW.nd (bx a8n hr Z wI.m wI.F.kp wI.b .nil bZ (O (fj mL (pv 1) (gb aq) fZ) (O (pv 2) aj))))
   (aD (cM (PW.pt (Ac (aN jV (pv 4) aq) (zp (aN (a0w (K:=K) Z) (pv 4) (pv 5) (by with_unfolding_all rfl)))))
   (aF (bH (cF (O (bL (O (bh uh (fj mL (pv 1) fZ (gb aq)) (bx W3 hr Z jY.m jY.F.kp jY.b .nil bZ (O (pv 5) aj))) (O aq aj))) aj))))
   bA)
   (aF (bH (nO (dN (K:=K) Z (aU (JQ (K:=K) Z Z) Z B.any () (O (pv 5) aj)) λ_=>rfl) (cF aj) (cF (O (bL (O (bh uh (bL (O aq aj)) (pv 5)) (O aq aj))) aj)))))))),?_⟩
 show⟨_,Z,_,Z,_,_,Z,Z,a,_,_,.int (dD st (spot+1)),Z,Z,cJ.of ha,S6 (i:=spot+1) (),⟨_,Z,_,Z,a,_,Z,ha,λb1 H1 s1 h1=>?_⟩⟩;try dsimp only at h1
 rw[show(1:Int)=((1:Nat):Int)from Z,rC st 1 ()]at h1;show⟨_,Z,b1,st.drop 1,spot,Z,h1,(),(),λb2 H2 s2 h2=>?_⟩;rw[CN]at h2;let zU:=s1.trans s2;let ha2:=ha.keep (.of zU);let ld:(qD st.tail spot).length+1=m:=by
  let:=a1U (s:=st.tail) (p:=spot) ();grind
 let q:∀(r:Addr) (xs:af) (H':Hp),aL H H'->H' r=↥xs->Paired (Ë H') xs (if dD st (spot+1)=0\/dD st (spot+1)∈qD st.tail spot then [(st.take 1++Lk.iI (qD st.tail spot),(0:Int))]else if(qD st.tail spot).any (λx=>decide (x≠0))=true then []else [(1::qD st.tail spot,0)])->Q (.ref r) H':=q;generalize qD st.tail spot=left at h2 ld q;generalize dD st (spot+1)=nb at q ⊢;dsimp only[W8,a0c,a0d];show orQ (c1:=decide (nb=0)) (c2:=decide (nb∈left)) (λQ h=>⟨_,Z,Z,_,Z,by rw[show decide (V.int nb=V.int 0)=decide (nb=0)from Hh.mpr ⟨V.int.inj,congrArg _⟩];show h⟩) (λQ h=>⟨_,Z,_,Z,b2,_,Z,.inr (cJ.of h2),Z,Lb left,_,Z,by rw[aA cN,a4I];show h⟩) (nC (λc=>?_) λc=>?_)
 ·let c':nb=0\/nb∈left:=by
   grind
  rw[aB c']at q;show⟨_,Z,_,Z,a,_,Z,ha2,λb3 H3 s3 h3=>?_⟩;try dsimp only at h3
  rw[show(1:Int)=((1:Nat):Int)from Z,Pb st 1 ()]at h3;show⟨_,Z,b2,_,Z,cJ.of (s3 _ _ h2),(),λb4 H4 s4 h4=>⟨b3,b4,_,_,Z,Z,s4 _ _ h3,h4,?_,λb5 H5 s5 h5=>⟨(),λp6 H6 n6=>⟨(),λp7 H7 n7=>q p7 _ H7 (zU.trans (s3.trans (s4.trans (s5.trans (n6.same.trans n7.same))))) n7.here (.cons ⟨p6,b5,Z,n7.same _ _ n6.here,n7.same _ _ (n6.same _ _ ?_)⟩ .nil)⟩⟩⟩⟩
  ·rw[aH,aH,dY,Gz];omega
  grind
 ·let c':¬(nb=0\/nb∈left):=λh=>c (by
   grind)
  rw[aA c']at q;let tr:jf K H2 (left.map V.int) (left.map λx=>x != 0):=by
   clear c c' q h2 ld
   induction left with
   |nil=>show .nil
   |cons x s ih=>show .cons Z ih
  let ea:((left.map λx=>x != 0).any id)=left.any λx=>decide (x≠0):=by
   rw[Hq];congr 1;funext x;grind
  show⟨_,Z,b2,_,_,Z,cJ.of h2,tr,_,Z,?_⟩;rw[ea];show nC (λe=>?_) (λe=>?_)
  ·rw[aB e]at q;show⟨(),λp7 H7 n7=>q p7 _ H7 (zU.trans n7.same) n7.here .nil⟩
  ·rw[aA e]at q;show⟨(),λb3 H3 n3=>⟨_,Z,b3,b2,_,_,Z,Z,n3.here,n3.same _ _ h2,?_,λb5 H5 s5 h5=>⟨(),λp6 H6 n6=>⟨(),λp7 H7 n7=>q p7 _ H7 (zU.trans (n3.same.trans (s5.trans (n6.same.trans n7.same)))) n7.here (.cons ⟨p6,b5,Z,n7.same _ _ n6.here,n7.same _ _ (n6.same _ _ ?_)⟩ .nil)⟩⟩⟩⟩
   ·grind
   grind
end
def a2A{r1 r2:R2}(h1:IxR X r1)(h2:IxR X r2):IxR X (λx y H Q=>r1 x y H Q\/r2 x y H Q):=λa b c d e f g h i j k l m n o p=>o.elim (λo=>h1 a b c d e f g h i j k l m n o p) (λo=>h2 a b c d e f g h i j k l m n o p)
namespace Lk
def Yv{r r':ae}(e:(r.map λx=>decide (0<x))=r'.map λx=>decide (0<x))(z:∀x∈r,x=0)(p:∀x∈r',0<=x):∀x∈r',x=0:=by
 induction r generalizing r' with
 |nil=>cases r' with
  |nil=>grind
  |cons a s=>cases e
 |cons a r ih=>cases r' with
  |nil=>cases e
  |cons b s =>
   rw[cC,cC,List.cons.injEq]at e;intro x hx;rcases bO.mp hx with rfl|hx
   ·let h1:=e.1;rw[z a aZ]at h1;let:=p x aZ;let h2:¬0<x:=λh=>by rw[aV h]at h1;cases h1
    omega
   ·show ih e.2 (λx h=>z x (bJ _ h)) (λx h=>p x (bJ _ h)) x hx
def any_zero{s:ae}(h:∀x∈s,x=0):s.any (λx=>x != 0)=false:=by
 rw[List.any_eq_false];intro x hx;rw[h x hx];decide
def a1V{st t lo hi:dW}(h:iH m st=true)(h':iH m t=true)(sh:(st.tail.map λx=>decide (0<x))=t.tail.map λx=>decide (0<x))(e:(lo=st/\hi=t)\/(lo=t/\hi=st))(nl:¬hi<lo):(dD hi 0≠0/\jnL st t=if lo.any (λx=>x != 0)=true then []else [hi])\/(dD hi 0=0/\jnL st t=jnO st.tail t.tail):=by
 let lt:∀r r':ae,((0:Int)::r:ae)<(1:Int)::r':=λr r'=>by rw[TJ];show .inl ()
 rcases R0 h with⟨r,rfl,l1,z1⟩|⟨r,rfl,l1,z1,_⟩<;>rcases R0 h' with⟨r',rfl,l2,z2⟩|⟨r',rfl,l2,z2,_⟩
 ·left;rcases e with⟨rfl,rfl⟩|⟨rfl,rfl⟩
  ·show⟨by show(1:Int)≠0;decide,by rw[aB (by rw[oX];rfl)];rfl⟩
  ·show⟨by show(1:Int)≠0;decide,by rw[aB (by rw[oX];rfl)];rfl⟩
 ·let zz:=Yv sh z1 λx hx=>(z2 x hx).1;left;rcases e with⟨rfl,rfl⟩|⟨rfl,rfl⟩
  ·grind
  ·show⟨by show(1:Int)≠0;decide,by rw[any_zero (λx hx=>by grind),aA cN];rfl⟩
 ·let zz:=Yv sh.symm z2 λx hx=>(z1 x hx).1;left;rcases e with⟨rfl,rfl⟩|⟨rfl,rfl⟩
  ·show⟨by show(1:Int)≠0;decide,by rw[any_zero (λx hx=>by grind),aA cN];rfl⟩
  grind
 ·right;rcases e with⟨rfl,rfl⟩|⟨rfl,rfl⟩
  ·show⟨Z,Z⟩
  ·show⟨Z,Z⟩
def a7k{q:ay}(pm:q.Perm (List.range 2)):q=[0,1]\/q=[1,0]:=by
 let l:=pm.length_eq
 match q,l,pm with
 | [x,y],_,pm =>
  let hx:=gA.mp (pm.mem_iff.mp (aZ:x∈[x,y]));let hy:=gA.mp (pm.mem_iff.mp (bJ x (wO y)));let nd:=pm.nodup_iff.mpr Ut;let ne:x≠y:=λe=>(je.mp nd).1 (by rw[e];show wO y);let:(x=0/\y=1)\/(x=1/\y=0):=()
  rcases this with⟨rfl,rfl⟩|⟨rfl,rfl⟩
  ·show .inl rfl
  ·show .inr rfl
def Ä{k:Nat}{r:ay}{ns:ae}:Ph ms (k::r) ns=if 0<dD ms k/\ms.idxOf (dD ms k)<k then(if dD ns (ms.idxOf (dD ms k))=dD ns k then none else Ph ms r (S7 ns (ms.idxOf (dD ms k)) k))else Ph ms r ns:=rfl
def Θ{ns:ae}:Ph ms [] ns=some ns:=rfl
end Lk
def bF.exs{α:Type}{K:aJ}{CX:SM}{k:Nat}{f:Addr}{fd:FuncData}{ps:ag}{sp:α->Sp}(F:∀a,bF P w K mg base CX k f fd ps (sp a)):bF P w K mg base CX k f fd ps (λvs H Q E=>∃a,sp a vs H Q E) :=
 ⟨λvs H Q E ⟨a,h⟩=>(F a).len vs H Q E h,λA outer s H args us vs Q E hr he hb hv ⟨a,hs⟩=>(F a).run A outer s H args us vs Q E hr he hb hv hs⟩
def Qd{pd:Addr}{G:Hp}{J:List (Key×V)}{i:Nat}{z:Int}(hd:G pd=some (.dK J))(lk:J.length<=i)(l9:i<=900)(hv:∀x,dh J (.inl x)=if x∈ms.take i then some (.int (ms.idxOf x:Nat))else none)(hz:ms[i]?=some z)
  (h:∀kvs' G1,(∀c o,c≠pd->G c=some o->G1 c=some o)->G1 pd=some (.dK kvs')->kvs'.length<=i+1->(∀x,dh kvs' (.inl x)=if x∈ms.take (i+1)then some (.int (ms.idxOf x:Nat))else none)->Q (.int (ms.idxOf z:Nat)) G1):RW (.ref pd) [.int z,.int i] G Q:=by
 let et:ms.take (i+1)=ms.take i++[z]:=by rw[iz,hz];rfl
 show .mk pd (.inl z) J (.int i) Z Z hd () (λy hy=>?_) λhn G1 cg=>?_
 ·let m:z∈ms.take i:=by
   grind
  rw[hv,aB m]at hy;cases hy;show h J G (λ_ _ _ e=>e) hd () λx=>?_;grind
 ·let m:z∉ms.take i:=λm=>by grind
  let e:ms.idxOf z=i:=by
   let e2:ms=(ms.take i++[z])++ms.drop (i+1):=by rw[<-et,uw]
   let il:i<ms.length:=(eG.mp hz).1;rw[e2,M5,aB (fG _ aZ),M5,aA m,dY,Ua];omega
  let:=h (putK J (.inl z) (.int i)) G1 (λc o hc e=>(cg.rest c hc).trans e) cg.here (cG (tY _ _ _) ()) λx=>by
   rw[QW,hv,et];grind
  grind
inductive JnI(f:Option V->Option V->Option V->Option V->St)(H:Hp)(pd:Addr)(r0 ms:ae)(i:Nat)(σ:St)(G:Hp):Prop
 |mk (tup:Bool) (an:Addr) (ns:ae) (J:List (Key×V)) (o7 o8 o9:Option V) (_:σ=f ⇑an o7 o8 o9) (_:∀c o,c≠pd->H c=some o->G c=some o) (_:G an=some (bif tup then .tup (ns.map V.int)else .lst (ns.map V.int))) (_:G pd=some (.dK J)) (_:J.length<=i) (_:∀x,dh J (.inl x)=if x∈ms.take i then some (.int (ms.idxOf x:Nat))else none) (_:ns.length=ms.length) (_:Lk.Ph ms ((List.range ms.length).drop i) ns=Lk.Ph ms (List.range ms.length) r0)
section
variable{K:aJ}{C:Addr}
def FW(B:Bl mg)(d_:Dm K C "joined" "Links.joined" oh xu)(At:Hp->Addr->Prop)(jY:RZ K mg)(rE:Dn K mg "merged" qH Bj):⋯ 2 d_.f d_.fd xu (Rg (tQ cD cost) At):=by
 let W3:⋯ 1 _ _ _ _:=bF.exs λb:Bool=>qx b B jY;let a4H:⋯ 1 _ _ _ _:=bF.exs λb:Bool=>LK b rE;show d_.F.ok fB λd7 A outer s H vs Q E hr h=>?_;let⟨d,a,b,m,st,t,rfl,hD,ha,hb,ok,ok',m4,sh,q⟩:=h;show⟨_,(aD (vM (aU (Ax (K:=K) Z) Z B.sorted () (O (cF (O (pv 1) (O (pv 2) aj))) aj)) (Q0 (K:=K) (n:=2) Z Z (bQ (aM 3 fB.nd) (bQ (aM 4 fB.nd) iD))))
   (aD (cM (dN (K:=K) Z (aP (aO (K:=K) Z) (pv 4) aq) λ_=>rfl)
   (aF (bH (nO (dN (K:=K) Z (aU (JQ (K:=K) Z Z) Z B.any () (O (pv 3) aj)) λ_=>rfl) (cF aj) (cF (O (pv 4) aj)))))
   bA)
   (aD (aX 5 fB.nd (fj mL (pv 1) (gb aq) fZ))
   (aD (aX 6 fB.nd Ih)
   (aD (gQ gH Z (Α (K:=K) Z Z B.enumerate (O (fj mL (pv 2) (gb aq) fZ) aj)) (jr (K:=K) (n:=2) Z Z (bQ (aM 7 fB.nd) (bQ (aM 8 fB.nd) iD)))
   (aD (aX 9 fB.nd (iR (K:=K) Z rN Ml Ø xW (pv 6) (O (pv 8) (O (pv 7) aj))))
   (aF (cM (PW.pt (oZ (aN uY (pv 8) aq) (qg (aN Ae (pv 9) (pv 7)))))
   (aD (cM (aN jV (aP (a2A (bf (K:=K) Z) (aO (K:=K) Z)) (pv 5) (pv 9)) (aP (a2A (bf (K:=K) Z) (aO (K:=K) Z)) (pv 5) (pv 7)))
   (aF (bH (cF aj)))
   bA)
   (aF (aX 5 fB.nd (bx a4H hr Z rE.m rE.F.kp rE.b .nil bZ (O (pv 5) (O (pv 9) (O (pv 7) aj)))))))
   bA))))
   (aF (bH (cF (O (bh uh (bL (O aq aj)) (bx W3 hr Z jY.m jY.F.kp jY.b .nil bZ (O (pv 5) aj))) aj))))))))),?_⟩
 let os:=ok m4;let ot:=ok' m4;let lst:=Lk.tG os;let ltt:=Lk.tG ot;show⟨_,Z,_,Z,(),λp1 H1 n1=>?_⟩;show⟨p1,[.ref a,.ref b],[st,t],Z,bD.of n1.here,.cons ⟨a,Z,cJ.of (n1.same _ _ ha)⟩ (.cons ⟨b,Z,cJ.of (n1.same _ _ hb)⟩ .nil),λns hn=>?_,by show 2<64;decide,λqq p2 H2 pm pw n2=>?_⟩
 ·rcases bO.mp hn with e|e
  ·rw[e];intro z;rw[z]at lst;cases lst
  ·rw[bK.mp e];intro z;rw[z]at ltt;cases ltt
 let zU:=n1.same.trans n2.same;obtain⟨al,ah,lo,hi,hp2,hal,hah,el,nl⟩:∃(al ah:Addr) (lo hi:dW),H2 p2=↥[.ref al,.ref ah]/\oO H2 al lo/\oO H2 ah hi/\((lo=st/\hi=t)\/(lo=t/\hi=st))/\¬hi<lo:=by
  rcases Lk.a7k pm with rfl|rfl
  ·show⟨a,b,st,t,n2.here,ha.keep (.of zU),hb.keep (.of zU),.inl ⟨Z,Z⟩,(uD.mp pw).1 t (wO t)⟩
  ·show⟨b,a,t,st,n2.here,hb.keep (.of zU),ha.keep (.of zU),.inr ⟨Z,Z⟩,(uD.mp pw).1 st (wO st)⟩
 let llo:lo.length=m+1:=by rcases el with⟨e,_⟩|⟨e,_⟩<;>rw[e]<;>assumption
 let lhi:hi.length=m+1:=by rcases el with⟨_,e⟩|⟨_,e⟩<;>rw[e]<;>assumption
 let Z97:=Lk.a1V os ot sh el nl;show⟨p2,[.ref al,.ref ah],Z,bD.of hp2,Z,_,_,Z,_,_,Z,Z,⟨_,Z,ah,_,_,.int (dD hi 0),Z,Z,cJ.of hah,S6 (i:=0) (),dD hi 0 != 0,Z,?_⟩⟩;let q:∀(r:Addr) (xs:af) (H':Hp),aL H H'->H' r=↥xs->Paired (SvL H') xs (Lk.jnL st t)->Q (.ref r) H':=q;rcases Z97 with⟨h0,ej⟩|⟨h0,ej⟩
 ·rw[show(dD hi 0 != 0)=true by simpa using h0];let tr:jf K H2 (lo.map V.int) (lo.map λx=>x != 0):=by
   clear ej nl el llo hal
   induction lo with
   |nil=>show .nil
   |cons x s ih=>show .cons Z ih
  let ea:((lo.map λx=>x != 0).any id)=lo.any λx=>x != 0:=by rw[Hq];rfl
  show iQ ⟨_,Z,al,_,_,Z,cJ.of hal,tr,_,Z,?_⟩;rw[ea];show nC (λe=>?_) (λe=>?_)
  ·rw[aB e]at ej;show⟨(),λp7 H7 n7=>q p7 _ H7 (zU.trans n7.same) n7.here (by rw[ej];show .nil)⟩
  ·rw[aA e]at ej;show⟨_,Z,(),λp7 H7 n7=>q p7 _ H7 (zU.trans n7.same) n7.here (by rw[ej];show .cons ⟨ah,Z,hah.keep (.of n7.same)⟩ .nil)⟩
 rw[h0,show((0:Int) != 0)=false from rfl];show dB ?_;clear nl el hal hah llo lhi hp2;rw[ej]at q;let ha2:=ha.keep (.of zU);show⟨_,Z,_,Z,a,_,Z,ha2,λan H3 s3 h3=>?_⟩;try dsimp only at h3
 rw[show(1:Int)=((1:Nat):Int)from Z,rC st 1 (),CN]at h3;intro pd hd;let n4:=iG.nD (H:=H3) (p:=pd) (o:=.dK []) hd;generalize cU H3 pd (.dK [])=H4 at n4 ⊢;let s04:=zU.trans (s3.trans n4.same);show⟨_,Z,_,Z,b,_,Z,hb.keep (.of s04),λpo H5 s5 h5=>?_⟩;try dsimp only at h5
 rw[show(1:Int)=((1:Nat):Int)from Z,rC t 1 (),CN]at h5;let fpd:H2 pd=none:=s3.free n4.fresh;let ne:po≠pd:=λz=>by let:=s5 _ _ n4.here;rw[<-z,h5]at this;cases this
 let lr:st.tail.length=m:=by rw[List.length_tail];omega
 let lm:t.tail.length=m:=by rw[List.length_tail];omega
 generalize t.tail=ms at h5 q lm;generalize st.tail=r0 at h3 q lr;show⟨po,Z,⟨_,cJ.of h5⟩,?_⟩;let u5:∀{G:Hp},(∀c o,c≠pd->H5 c=some o->G c=some o)->aL H G:=λ{G} sG c o e=>by
  show sG c o (λz=>?_) (s5 _ _ (s04 _ _ e));let e2:=zU _ _ e;rw[z,fpd]at e2;cases e2
 show Wj (P:=λi σ G=>JnI (λo5 o7 o8 o9=>[⇑d,⇑a,⇑b,⇑al,⇑ah,o5,⇑pd,o7,o8,o9]) H5 pd r0 ms i σ G) λZ97 ji ij=>?_;show Â (K:=K) (a:=po) (xs:=ms.map V.int) Z97 (ji _ _ _ (.mk true an r0 [] none none none Z (λ_ _ _ e=>e) (s5 _ _ (n4.same _ _ h3)) (s5 _ _ n4.here) (dF _) (λx=>by rw[Nu,aA dZ];rfl) () Z)) (λi σ G _ h=>?_) ?_ ?_
 ·let⟨_,_,_,_,_,_,_,_,sG,_⟩:=ij _ _ _ h;show cJ.of (sG _ _ ne h5)
 ·intro i x σ G0 p G hx h1 nn;let⟨tup,an,ns,J,o7,o8,o9,rfl,sG0,hN0,hd0,lk,hv,ln,ej⟩:=ij _ _ _ h1;rw[cH]at hx;let⟨z,hz,rfl⟩:=jP.mp hx;let il:i<ms.length:=(eG.mp hz).1;let az:dD ms i=z:=by unfold dD;rw[fY,hz];rfl
  let sG:∀c o,c≠pd->H5 c=some o->G c=some o:=λc o hc e=>nn.same _ _ (sG0 c o hc e);let hN:=nn.same _ _ hN0;let hd1:=nn.same _ _ hd0;let nd:an≠pd:=λe=>by rw[e,hd0]at hN0;cases tup<;>cases hN0
  let et:ms.take (i+1)=ms.take i++[z]:=by rw[iz,hz];rfl
  let ix:z∈ms->ms.idxOf z<ms.length:=List.idxOf_lt_length_iff.mpr;let zm:z∈ms:=gF hz;let er:(List.range ms.length).drop i=i::(List.range ms.length).drop (i+1):=by
   rw[wN (by rw[oU];show il),List.getElem_range]
  rw[er,Lk.Ä,az]at ej;show⟨p,[.int i,.int z],Z,cJ.of nn.here,Z,_,_,Z,_,_,Z,Z,⟨_,Z,.inr (.inr (.inl ⟨Z,.inl ⟨_,hd1⟩⟩)),_,Z,_,Z,Qd hd1 lk () hv hz λkvs' G1 Wn hd2 lk' hv'=>?_⟩⟩;let S5:∀c o,c≠pd->H5 c=some o->G1 c=some o:=λc o hc e=>Wn c o hc (sG c o hc e);let hN1:=Wn _ _ nd hN;let lt2:=ix zm;dsimp only[yJ];show a6w (c1:=decide (0<z)) (c2:=decide (ms.idxOf z<i)) (λQ h=>⟨_,Z,_,_,Z,Z,_,Z,h⟩) (λQ h=>⟨_,Z,_,Z,_,_,Z,Z,_,Z,by rw[show decide (((ms.idxOf z:Nat):Int)<(i:Int))=decide (ms.idxOf z<i)from Hh.mpr Int.ofNat_lt];show h⟩) (λc=>?_) (λc=>?_)
  ·let c1:0<z:=dw c.1;let c2:ms.idxOf z<i:=dw c.2;rw[aB ⟨c1,c2⟩]at ej;let ixn:∀{j:Nat}{R:VK},j<ms.length->R (.int (dD ns j)) G1->a0o K (.ref an) (.int j) G1 R\/a0p K (.ref an) (.int j) G1 R:=λ{j R} hj h=>by
    let:=S6 (s:=ns) (i:=j) ();cases tup with
    |true=>show .inr ⟨an,_,_,_,Z,Z,cJ.of hN1,this,h⟩
    |false=>show .inl ⟨an,_,_,_,Z,Z,bD.of hN1,this,h⟩
   show⟨_,Z,_,Z,ixn lt2 ⟨_,Z,_,Z,ixn il ⟨Z,_,Z,?_⟩⟩⟩;rw[show decide (V.int (dD ns (ms.idxOf z))=V.int (dD ns i))=decide (dD ns (ms.idxOf z)=dD ns i)from Hh.mpr ⟨V.int.inj,congrArg _⟩];show nC (λe=>?_) (λe=>?_)
   ·rw[aB (dw e)]at ej;show⟨(),λp7 H7 n7=>q p7 _ H7 ((u5 S5).trans n7.same) n7.here ?_⟩;unfold Lk.jnO;rw[<-ej];show .nil
   ·rw[aA λh=>e (aV h)]at ej;show⟨_,Z,_,Z,_,Z,tup,an,ns,ms.idxOf z,i,Z,?_,(),(),(),λp6 H6 s6 f6 h6=>?_⟩
    ·unfold tH;cases tup with
     |true=>show cJ.of hN1
     |false=>show bD.of hN1
    ·show ji _ _ _ (.mk false p6 _ kvs' _ _ _ Z (λc o hc e=>s6 _ _ (S5 c o hc e)) h6 (s6 _ _ hd2) lk' hv' (by unfold Lk.S7;rw[aH];show ln) ej)
  ·let c':¬(0<z/\ms.idxOf z<i):=λh=>c ⟨aV h.1,aV h.2⟩;rw[aA c']at ej;show ji _ _ _ (.mk tup an ns kvs' _ _ _ Z S5 hN1 hd2 lk' hv' ln ej)
 ·intro σ G h1;let⟨tup,an,ns,J,o7,o8,o9,rfl,sG,hN,hd0,lk,hv,ln,ej⟩:=ij _ _ _ h1;rw[aH,List.drop_eq_nil_of_le (by rw[oU];omega),Lk.Θ]at ej;show⟨(),λb3 H3' n3=>⟨_,Z,tup,an,ns,Z,?_,(),λb4 H4' s4' h4=>⟨b3,b4,_,_,Z,Z,s4' _ _ n3.here,h4,?_,λb5 H5' s5' h5'=>⟨(),λp7 H7 n7=>q p7 _ H7 ((u5 sG).trans (n3.same.trans (s4'.trans (s5'.trans n7.same)))) n7.here ?_⟩⟩⟩⟩
  ·unfold tH;cases tup with
   |true=>show cJ.of (n3.same _ _ hN)
   |false=>show bD.of (n3.same _ _ hN)
  ·rw[aH,Gz];show 1+_<=1000;omega
  ·unfold Lk.jnO;rw[<-ej];show .cons ⟨b5,Z,n7.same _ _ h5'⟩ .nil
end
section
variable{K:aJ}
noncomputable def a4J(B:Bl mg)(D:Bt K mg)(n:Nat)(ts:ar)(cD cs:ae)(lc:cs.length=ts.length)(uR:Dn K mg "with_number" jo Fb)(wI:Dn K mg "without_number" fX Fd)(jY:RZ K mg)(rE:Dn K mg "merged" qH Bj):J7 P w K mg base Bool where
 C:=D.C
 cl:=D.cl
 knd:=Dk.Ik P w
 pq:=tQ cD (lC ts cs)
 At:=Td D.C n ts cD cs
 Pl:=λ_=>True
 Ti:=λt=>t∈ts
 n:=n
 ts:=ts
 keep:=λa h=>Td.keep a h
 ins:=λh=>Td.ins h
 uK:=D.uK
 rA:=D.rA
 qi:=D.qi
 tZ:=⟨_,_,D.uf.mt,D.uf.b,(wJ D.uf _ Z _).mono ()⟩
 vf:=⟨_,_,D.Bv.mt,D.Bv.b,(FQ B D.Bv _).mono ()⟩
 Bk:=⟨_,_,D.Bw.mt,D.Bw.b,(FW B D.Bw _ jY rE).mono ()⟩
 Bm:=⟨_,_,D.Bx.mt,D.Bx.b,(FT B D.cl D.Ji D.Bx uR jY).mono ()⟩
 uc:=⟨_,_,D.ug.mt,D.ug.b,(zW B D.ug _ _ wI jY).mono ()⟩
 O4:=⟨_,_,D.O8.mt,D.O8.b,(Km B D.cl D.Bu lc D.O8 jY rE).mono ()⟩
end
abbrev xX:Stmt:=top 3
def Å:bN K5 K5 (aG xX):={}
inductive a7l(K:aJ)(vs:af)(H:Hp)(Q:VK)(u_3:XK):Prop
 |mk (n:Int) (a:Addr) (ns:ae) (_:vs=[.int n,.ref a]) (_:bD K H a (ns.map V.int)) (_:ns.length<=1000) (_:∀H',aL H H'->Q (.bl (VB n ns)) H')
section
variable{K:aJ}
def Æ(B:Bl mg)(lK:DG K mg)(jK:Dn K mg "is_below" fM sV)(FZ:Dn K mg "is_set" xX K5):⋯ 3 FZ.f FZ.fd K5 (a7l K):=by
 let ő:⋯ 2 _ _ _ _:=xP B lK jK;show FZ.F.ok Å λd7 A outer s H vs Q E hr h=>?_;let⟨n,a,ns,rfl,hS,hz,q⟩:=h;show⟨_,(aD (cM (pB (dN (K:=K) Z (aU (Dc (K:=K) Z Z) Z B.all () (O (lU ["v","n"] [none,some 0]  (by kernel_rfl) Z (eE (K:=K) Z (pv 1)) (λ_ _ _ _ _=>(aM 0 (show(["v","n"]:ag).Nodup by decide))) (λ_ _ _ _ _=>gj) λ_ _ _ _ _=>(bx ő hr Z jK.m jK.F.kp jK.b .nil bZ (O (pv 1) (O (pv 0) aj)))) aj)) λ_=>rfl))
   (aF (bH yI))
   bA)
   (aF (bH (aU (Dc (K:=K) Z Z) Z B.all () (O (lU ["k","places"] [none,some 1]  (by kernel_rfl) Z (CW Z B.range (O aq (O (aU (bR (K:=K) Z) Z B.len () (O (pv 1) aj)) aj))) (λ_ _ _ _ _=>(aM 0 (show(["k","places"]:ag).Nodup by decide))) (λ_ _ _ _ _=>gj) λ_ _ _ _ _=>(yc Ae (aP (bf (K:=K) Z) (pv 1) (bh Hw (pv 0) aq)) (aP (bf (K:=K) Z) (pv 1) (pv 0)))) aj))))),?_⟩
 show⟨_,Z,a,Z,⟨_,hS⟩,?_⟩;show HJ (λx=>match x with |.int v=>some (.bl (decide (0<=v/\v<n)))|_=>none) hS (by rw[aH];show hz) (λx H1 N hx sm hN=>?_) (λH1 p H1' sm hp=>?_)
 ·let⟨v,hv,rfl⟩:=fH.mp hx;show⟨_,Z,_,Z,n,some v,Z,hN H1 sm⟩
 let e1:(ns.map V.int).filterMap (λx=>match x with |.int v=>some (V.bl (decide (0<=v/\v<n)))|_=>none)=(ns.map λv=>decide (0<=v/\v<n)).map V.bl:=by
  rw[lY];show a0y λv _=>rfl
 rw[e1]at hp;show⟨p,_,_,Z,bD.of hp.here,jf.bls _,_,Z,?_⟩;let s1:aL H H1':=sm.trans hp.same;let e2:((ns.map λv=>decide (0<=v/\v<n)).all id)=ns.all λv=>decide (0<=v/\v<n):=by rw[N5];rfl
 rw[e2];cases c:ns.all λv=>decide (0<=v/\v<n)with
 |false =>
  show iQ ?_;let e:VB n ns=false:=by unfold VB;rw[c];rfl
  rw[e]at q;show q _ s1
 |true =>
  show dB ?_;let hl:((ns.map V.int).length:Int)=ns.length:=()
  show⟨_,Z,a,_,Z,.inl (s1.seq hS),1,_,Z,⟨(),(),(),()⟩,?_⟩;let en:((((ns.map V.int).length:Nat):Int)-1).toNat=ns.length-1:=()
  rw[en];show Xn (λi=>some (.bl (decide (ns.getD i 0<ns.getD (i+1) 0)))) () (λi H2 N hi sm2 hN=>?_) (λH2 p2 H2' sm2 hp2=>?_)
  ·show⟨_,Z,_,Z,_,_,Z,Z,a,_,_,_,Z,Z,sm2.seq (s1.seq hS),Gf () (),_,Z,_,Z,a,_,_,_,Z,Z,sm2.seq (s1.seq hS),Gf () (),_,_,Z,Z,?_⟩;let z1:(1+(i:Int)-1).toNat=i:=()
   let z2:(1+(i:Int)).toNat=i+1:=()
   rw[z1,z2];show hN H2 sm2
  ·let e3:(List.range (ns.length-1)).filterMap (λi=>some (V.bl (decide (ns.getD i 0<ns.getD (i+1) 0))))=((List.range (ns.length-1)).map λi=>decide (ns.getD i 0<ns.getD (i+1) 0)).map V.bl:=by
    rw[lY];show vW λ_ _=>rfl
   rw[e3]at hp2;show⟨p2,_,_,Z,bD.of hp2.here,jf.bls _,?_⟩;let e:VB n ns=((List.range (ns.length-1)).map λi=>decide (ns.getD i 0<ns.getD (i+1) 0)).all id:=by
    unfold VB En;rw[c,N5];rfl
   rw[e]at q;show q _ (s1.trans (sm2.trans hp2.same))
end
def Kpt(H H' G:Hp):Prop:=∀c u,(H c=none\/∀ys,u≠.lst ys)->H' c=some u->G c=some u
def Sd.a8o{K:aJ}{d C dx:Addr}{fs:be}{H H':Hp}{xs:af}(e:Sd d H H')(hd:H d=some (.ins C dx fs))(h:bD K H a xs):bD K H' a xs:=by
 rcases h with(h|⟨o,h⟩)|h
 ·show .inl (.inl (e _ _ (λz=>by grind) h))
 ·show .inl (.inr ⟨o,e _ _ (λz=>by grind) h⟩)
 ·show .inr h
def Sd.tupI{K:aJ}{d C dx:Addr}{fs:be}{H H':Hp}{xs:af}(e:Sd d H H')(hd:H d=some (.ins C dx fs))(h:cJ K H a xs):cJ K H' a xs:=by
 rcases h with(h|⟨o,h⟩)|h
 ·show .inl (.inl (e _ _ (λz=>by grind) h))
 ·show .inl (.inr ⟨o,e _ _ (λz=>by grind) h⟩)
 ·show .inr h
def Sd.wtI{K:aJ}{d C dx:Addr}{fs:be}{H H':Hp}(e:Sd d H H')(hd:H d=some (.ins C dx fs)):∀{v:V}{o:Option (ae)},WtV K H v o->WtV K H' v o
 |_,none,h=>h
 |_,some _,⟨a,e1,h⟩=>⟨a,e1,e.a8o hd h⟩
def Sd.a7m{d C dx:Addr}{fs:be}{H H':Hp}(e:Sd d H H')(hd:H d=some (.ins C dx fs)){v:V}{t:Int×Int}(h:lZ H v t):lZ H' v t:=by
 let⟨p,e1,h⟩:=h;show⟨p,e1,e _ _ (λz=>by grind) h⟩
abbrev qe:Stmt:=top 32
def R3:bN K6 K6 (aG qe):={}
inductive a1W(K:aJ)(vs:af)(H:Hp)(Q:VK)(u_3:XK):Prop
 |mk (t:Addr) (xs:af) (ts:ar) (v:V) (o:Option (ae)) (_:vs=[.ref t,v]) (_:H t=↥xs) (_:Paired (lZ H) xs ts) (_:ts.Nodup) (_:ts.length<=100) (_:WtV K H v o) (_:∀ws,o=some ws->ws.length<=200) (_:Rz ts.length o=true) (_:∀p H',aL H H'->H p=none->H' p=some (.dT ((ts.map pK).zip ((wtL ts.length o).map V.int)))->Q (.ref p) H')
def a1X{H H1:Hp}(s:aL H H1){xs:af}{ts:ar}(h:Paired (lZ H) xs ts):Paired (KyL H1) xs (ts.map pK):=by
 induction h with
 |nil=>show .nil
 |cons a _ ih =>
  let⟨p,e,h⟩:=a;show .cons ⟨p,e,s _ _ h⟩ ih
def a1Y{o:Option (ae)}(h:Rz m o=true):(wtL m o).length=m:=by
 cases o with
 |none=>show List.length_replicate
 |some ws =>
  unfold Rz at h;rw[gq]at h;show dw h.1
section
variable{K:aJ}
def R4(B:Bl mg)(Bz:mg "zip" = none)(Ct:Cts mg)(lK:DG K mg)(jK:Dn K mg "is_below" fM sV)(BR:Dn K mg "weights_of" lN Ir)(Eh:Dn K mg "costs_of" qe K6):⋯ 4 Eh.f Eh.fd K6 (a1W K):=by
 let a8p:⋯ 3 _ _ _ _:=Kh B Ct lK jK BR;show Eh.F.ok R3 λd7 A outer s H vs Q E hr h=>?_;let⟨t,xs,ts,v,o,rfl,ht,pT,nd,l1,hV,hw,ok,q⟩:=h;let hw2:(A.deeper (PyProof.Rows.envOfC "costs_of" (aG qe) s⁻¹ Eh.f d7)).units+2<cLine:=by let:=hr.un;omega
 show⟨_,(aF (bH (İ Z hw2 Z B.dict Z Bz (O (pv 0) (O (bx a8p hr Z BR.m BR.F.kp BR.b .nil bZ (O (aU (bR (K:=K) Z) Z B.len () (O (pv 0) aj)) (O (pv 1) aj))) aj))))),?_⟩;let lx:=aW pT;show⟨_,Z,_,Z,t,_,Z,.inl (bD.of ht),_,Z,ts.length,v,o,by rw[lx];rfl,hV,l1,hw,ok,λpw H1 s1 f1 h1=>?_⟩;show⟨t,pw,xs,_,ts.map pK,Z,s1 _ _ ht,h1,?_,(by rw[aH,aH,a1Y ok]),?_,(by rw[aH];omega),λp H2 n2=>q p H2 (s1.trans n2.same) ?_ n2.here⟩
 ·show a1X s1 pT
 ·show yX.mpr (nd.imp λ{a b} h e=>h (ĩ e))
 ·show s1.free n2.fresh
end
inductive a1Z(K:aJ)(C:Addr)(vs:af)(H:Hp)(Q:VK)(u_3:XK):Prop
 |mk (d dx g t hv:Addr) (n:Nat) (xs:af) (ts:ar) (tl:ae) (v:V) (o:Option (ae)) (_:vs=[.ref d,.ref g,.ref hv,v]) (_:H d=some (.ins C dx [])) (_:cJ K H g [.int n,.ref t]) (_:H t=↥xs) (_:Paired (lZ H) xs ts) (_:ts.Nodup) (_:ts.length<=100) (_:H hv=↥(tl.map V.int)) (_:tl≠[]) (_:tl.Nodup) (_:∀x∈tl,0<=x/\x<(n:Int)) (_:tl.length<64) (_:WtV K H v o) (_:∀ws,o=some ws->ws.length<=200) (_:Rz ts.length o=true) (_:∀H',Sd d H H'->(∀G,Kpt H H' G->Td C n ts tl (wtL ts.length o) G d)->Q .non H')
section
variable{K:aJ}
def Ko(B:Bl mg)(Bz:mg "zip" = none)(Ct:Cts mg)(gM:vZ K mg)(cQ:Bt K mg)(lK:DG K mg)(jK:Dn K mg "is_below" fM sV)(FZ:Dn K mg "is_set" xX K5)(BR:Dn K mg "weights_of" lN Ir)(Eh:Dn K mg "costs_of" qe K6):⋯ 6 cQ.fP.f cQ.fP.fd XQ (a1Z K cQ.C):=by
 let yH:⋯ 5 _ _ _ _:=(DQ B gM cQ.cl cQ.qi cQ.uK cQ.rA).mono ();let a8q:⋯ 5 _ _ _ _:=(R4 B Bz Ct lK jK BR Eh).mono ();let a8r:⋯ 5 _ _ _ _:=(Æ B lK jK FZ).mono ();show cQ.fP.F.ok Bs (λvs H Q E h=>?_) (λd7 A outer s H vs Q E hr h=>?_)
 ·let⟨d,dx,g,t,hv,n,xs,ts,tl,v,o,rfl,_⟩:=h;rfl
 let⟨d,dx,g,t,hv,n,xs,ts,tl,v,o,rfl,hd,hg,ht,pT,nd,l1,hh,ne,tnd,tb,t64,hV,hw,ok,q⟩:=h;show⟨_,(aD (cM (PW.pt (Ac (pB (dN (K:=K) Z (pv 2) λ_=>rfl)) (zp (pB (dN (K:=K) Z (bx a8r hr Z FZ.m FZ.F.kp FZ.b .nil bZ (O (aP (aO (K:=K) Z) (pv 1) aq) (O (aU (OD (K:=K) Z) Z B.sorted () (O (pv 2) aj)) aj))) λ_=>rfl)))))
   (aF Ad)
   bA)
   (aD (fL (a0S Z gM.m gM.Fl yH hr gM.fP.b .nil bZ (O (pv 0) (O (pv 1) (O (bL (O aq aj)) (O (bL (O aq aj)) aj))))))
   (aD (Hz (pv 0) (jL (vV (K:=K) Z) Z B.list () (O (pv 2) aj)) Z)
   (aF (a4F (Hz (pv 0) (bx a8q hr Z Eh.m Eh.F.kp Eh.b .nil bZ (O (aP (aO (K:=K) Z) (pv 1) aq) (O (pv 3) aj))) Z)))))),?_⟩
 let lx:xs.length<=1000:=by rw[aW pT];omega
 let nhd:hv≠d:=λe=>by grind
 show⟨_,Z,true,.inl ⟨_,bD.of hh,?_⟩,dB ⟨_,Z,g,_,_,V.int n,Z,Z,hg,bW (j:=0) Z,_,Z,hv,tl,Z,bD.of hh,t64,λp9 H9 zs n9 pz pw9=>⟨n,p9,zs,Z,bD.of n9.here,?_,λH0 s0=>⟨true,?_,dB ?_⟩⟩⟩⟩
 ·cases tl with
  |nil=>grind
  |cons=>rfl
 ·rw[pz.length_eq];omega
 ·show Eq.symm ((a0A _ _).mpr ⟨λx hx=>tb x (pz.mem_iff.mp hx),?_⟩);show(pw9.and (pz.nodup_iff.mpr tnd)).imp λ{a b} h=>by omega
 let sA:aL H H0:=n9.same.trans s0;show⟨_,Z,_,Z,(),λp1 H1 m1=>⟨(),λp2 H2 m2=>?_⟩⟩;let s2:aL H H2:=sA.trans (m1.same.trans m2.same);show⟨d,dx,g,t,n,xs,.ref p1,.ref p2,Z,s2 _ _ hd,s2.vU hg,s2 _ _ ht,lx,λpg pt H3 s3 ft h3d h3g h3t=>?_⟩;let e3:Sd d H H3:=λc o hc hh=>s3 c o hc (s2 _ _ hh);let np1:p1≠d:=λe=>by let:=m1.fresh;rw[e,sA _ _ hd]at this;cases this
 let np2:p2≠d:=λe=>by let:=m2.fresh;rw[e,m1.same _ _ (sA _ _ hd)]at this;cases this
 let h3l:H3 p1= ~~~[.int 0]:=s3 _ _ np1 (m2.same _ _ m1.here);let h3u:H3 p2= ~~~[.int 1]:=s3 _ _ np2 m2.here;show⟨_,Z,hv,_,Z,.inl (bD.of (e3 _ _ nhd hh)),λpw H4 n4=>?_⟩;show⟨_,Z,d,_,_,_,Z,n4.same _ _ h3d,cQ.cl,cQ.Ji,(by show 3<1000;decide),?_⟩;generalize hU:cU H4 d _=U;let u1:vB H4 d (.ins cQ.C dx (fsQ pg (.ref p1) (.ref p2)++[(("told" : Str),V.ref pw)])) U:=by rw[<-hU];show vB.nD
 let e4:Sd d H U:=λc o hc hh=>(u1.rest c hc).trans (n4.same _ _ (e3 c o hc hh));let nt:t≠d:=λe=>by grind
 show⟨_,Z,g,_,_,V.ref t,Z,Z,e4.tupI hd hg,bW (j:=1) Z,_,Z,t,xs,ts,v,o,Z,e4 _ _ nt ht,Paired.cA pT λ_ _ h=>e4.a7m hd h,nd,l1,e4.wtI hd hV,hw,ok,λpc H5 s5 f5 h5=>?_⟩;show⟨_,Z,d,_,_,_,Z,s5 _ _ u1.here,cQ.cl,cQ.Bu,(by show 4<1000;decide),?_⟩;generalize hU2:cU H5 d _=U2;let u2:vB H5 d (.ins cQ.C dx (fsQ pg (.ref p1) (.ref p2)++[(("told" : Str),V.ref pw),(("costs" : Str),V.ref pc)])) U2:=by rw[<-hU2];show vB.nD
 let npc:pc≠d:=λe=>by rw[e,u1.here]at f5;cases f5
 show⟨pc,_,(u2.rest pc npc).trans h5,λob=>?_⟩;generalize hU3:cU U2 pc _=U3;let u3:vB U2 pc (.gP ob (.dT ((ts.map pK).zip ((wtL ts.length o).map V.int)))) U3:=by rw[<-hU3];show vB.nD
 let e3U:∀c u,c≠d->H3 c=some u->U c=some u:=λc u hc e=>(u1.rest c hc).trans (n4.same _ _ e);let eU:∀c u,c≠d->U c=some u->U3 c=some u:=λc u hc e=>by
  rw[u3.rest c (λz=>by grind),u2.rest c hc];show s5 _ _ e
 let up:∀c u,c≠d->H3 c=some u->U3 c=some u:=λc u hc e=>eU c u hc (e3U c u hc e);let nI:∀{c u},(∀dx fs,u≠.ins cQ.C dx fs)->H3 c=some u->c≠d:=λ{c u} hn e z=>by grind
 let fpw:H pw=none:=by
  cases hh:H pw with
  |none=>rfl
  |some u =>
   let f:=n4.fresh;let:=e3 pw u (λz=>by grind) hh;grind
 let npw:pw≠d:=λz=>by grind
 let hUd:U3 d=some (.ins cQ.C dx (fsQ pg (.ref p1) (.ref p2)++[(("told" : Str),V.ref pw),(("costs" : Str),V.ref pc)])):=(u3.rest d npc.symm).trans u2.here;let hUw:U3 pw=↥(tl.map V.int):=eU _ _ npw ((u1.rest pw npw).trans n4.here);let pT3:Paired (lZ U3) xs ts:=Paired.cA pT λ_ _ h=>by
  let⟨pp,e1,e2⟩:=e3.a7m hd h;show⟨pp,e1,up _ _ (nI (λ_ _ z=>by cases z) e2) e2⟩
 let hUg:=up _ _ (nI (λ_ _ z=>by cases z) h3g) h3g;let hUt:=up _ _ (nI (λ_ _ z=>by cases z) h3t) h3t;show q U3 (λc u hc e=>up c u hc (e3 c u hc e)) λG k=>⟨dx,pg,pt,xs,p1,p2,pw,pc,ob,k _ _ (.inr λ_ z=>by cases z) hUd,k _ _ (.inr λ_ z=>by cases z) hUg,k _ _ (.inl (s2.free ft)) hUt,Paired.cA pT3 λ_ _ ⟨p,e,h⟩=>⟨p,e,k _ _ (.inr λ_ z=>by cases z) h⟩,(),k _ _ (.inr λ_ z=>by cases z) (up _ _ np1 h3l),k _ _ (.inr λ_ z=>by cases z) (up _ _ np2 h3u),k _ _ (.inl fpw) hUw,k _ _ (.inr λ_ z=>by cases z) u3.here⟩
end
structure a2B(n:Nat)(ts:ar)(ss:ax)(Ts:List b7):Prop where
 len:Ts.length=ss.length
 ok:∀k,k<ss.length->(∀x∈Ts.getD k [],Lk.iH (Go.gY n ts ss k).length x.1=true)/\(Go.gY n ts ss k).length<=4/\(Ts.getD k []).length<=400/\((Ts.getD k []).map (·.1)).Nodup
 join:∀k i j:Nat,ss[k]?=some .join->Go.qt n ts ss k=[i,j]->i≠j/\(∀x∈Ts.getD i [],x.2.m.natAbs<2^4000)/\(∀x∈Ts.getD j [],x.2.m.natAbs<2^4000)/\D1.strip (Ts.getD k [])=D1.zT (D1.strip (Ts.getD j [])) (D1.strip (Ts.getD i [])) []
def tp4{n:Nat}{ts:ar}{ss:ax}(b4:∀b∈(b8 n ts ss).aQ,b.length<=4)(k:Nat):(Go.gY n ts ss k).length<=4:=by
 show((b8 n ts ss).aQ.getD k []).length<=4;rw[fY];by_cases c:k<(b8 n ts ss).aQ.length
 ·rw[bI c];show b4 _ (nH c)
 ·rw[List.getElem?_eq_none ()];show dF _
def a4K{n:Nat}{ts:ar}{ss:ax}{tl ws:ae}(R:Go.a1C n ts ss)(b4:∀b∈(b8 n ts ss).aQ,b.length<=4)(tk:∀j,j<ss.length->yG (tQ tl (lC ts ws)) (Go.gY n ts ss j).length ((Go.xU (tQ tl (lC ts ws)) n ts ss ss.length).getD j []))
  (sm:∀k i j:Nat,ss[k]?=some .join->Go.qt n ts ss k=[i,j]->i≠j/\(∀x∈(Go.xU (tQ tl (lC ts ws)) n ts ss ss.length).getD i [],x.2.m.natAbs<2^4000)/\(∀x∈(Go.xU (tQ tl (lC ts ws)) n ts ss ss.length).getD j [],x.2.m.natAbs<2^4000)):a2B n ts ss (Go.xU (tQ tl (lC ts ws)) n ts ss ss.length):=by
 let st:∀k,k<ss.length->∀x∈(Go.xU (tQ tl (lC ts ws)) n ts ss ss.length).getD k [],Lk.iH (Go.gY n ts ss k).length x.1=true:=λk kl x hx=>(tk k kl).ok x hx (tp4 b4 k);show⟨lH _ _ _ _ _,λk kl=>⟨st k kl,tp4 b4 k,?_,(tk k kl).nd⟩,λk i j hs ef=>?_⟩
 ·let:=Lk.Ŭ (tp4 b4 k) (tk k kl).nd λs hs=>by
   let⟨x,hx,rfl⟩:=fH.mp hs;show st k kl x hx
  rwa [aH]at this
 let kl:=(eG.mp hs).1;obtain⟨lt,lt',eij,et⟩:i<k/\j<k/\Go.gY n ts ss i=Go.gY n ts ss j/\Go.gY n ts ss k=Go.gY n ts ss i:=by
  let SB:=R.sb k _ hs;cases SB with
  |join ef' lt lt' eij et =>
   rw[ef]at ef';cases ef';show⟨lt,lt',eij,et⟩
 let⟨ō,mi,mj⟩:=sm k i j hs ef;let il:i<ss.length:=qN lt kl;let jl:j<ss.length:=qN lt' kl;let ei:(Go.xU (tQ tl (lC ts ws)) n ts ss k).getD i []=(Go.xU (tQ tl (lC ts ws)) n ts ss ss.length).getD i []:=(Go.uT _ lt).trans (Go.uT _ il).symm;let ej:(Go.xU (tQ tl (lC ts ws)) n ts ss k).getD j []=(Go.xU (tQ tl (lC ts ws)) n ts ss ss.length).getD j []:=(Go.uT _ lt').trans (Go.uT _ jl).symm;show⟨ō,mi,mj,?_⟩;rw[Go.uT _ kl,Go.Pr,ef];show D1.strip (sZ (tQ tl (lC ts ws)) ((Go.xU (tQ tl (lC ts ws)) n ts ss k).getD j []) ((Go.xU (tQ tl (lC ts ws)) n ts ss k).getD i []) [])=_;rw[ei,ej];show D1.JG (tp4 b4 i) (by rw[eij];show st j jl) (st i il)
structure Drw where
 n:Nat
 ts:ar
 tl:ae
 cs:ae
 lc:cs.length=ts.length
inductive a2a(K:aJ)(C:Addr)(vs:af)(H:Hp)(Q:VK)(u_3:XK):Prop
 |mk (pL d:Addr) (xs:af) (ss:ax) (n:Nat) (ts:ar) (tl cs:ae) (_:vs=[.ref pL,.ref d]) (_:cs.length=ts.length) (_:Td C n ts tl cs H d) (_:n<=10) (_:∀t∈ts,t.1≠t.2) (_:bD K H pL xs) (_:Paired (uM K H) xs ss) (_:ss.length<=800) (_:Br n ts ss (b8 n ts ss)=.ok) (_:∀b∈(b8 n ts ss).aQ,b.length<=4) (_:∀pT yt Ts H',a2B n ts ss Ts->aL H H'->H' pT=↥yt->Paired (Wq H') yt Ts->yt.Nodup->Q (.ref pT) H')
section
variable{K:aJ}
def Ç(B:Bl mg)(Bz:mg "zip" = none)(cQ:Bt K mg)(U:Used w K mg)(Ct:Cts mg)(lK:DG K mg)(jK:Dn K mg "is_below" fM sV)(oJ:Dn K mg "joint" nU jJ)(mV:Dn K mg "less" qP jJ)(tM:Dn K mg "bag_behind" fO Bh)(wF:Dn K mg "run" Fi mD)(vp:Dn K mg "fault_behind" fu EY)(yD:Dn K mg "run_whole" kI mD)(yE:ŗ K mg)(BJ:Dn K mg "run_narrow" lM mD)(wC:Dn K mg "states_behind" fQ Ez)(qO:Dn K mg "note" uL Bf)(yx:Dn K mg "fill_along" jH Im)(xM:Dn K mg "fill_joined" gW Io)(zE:Dn K mg "going_up" mU Ip)(zK:a1q K mg)(BK:Dn K mg "tables" xT K4)(uR:Dn K mg "with_number" jo Fb)(wI:Dn K mg "without_number" fX Fd)(jY:RZ K mg)(rE:Dn K mg "merged" qH Bj):⋯ 12 BK.f BK.fd K4 (a2a K cQ.C):=by
 let QL:=λx:Drw=>(ZP (P:=P) (base:=base) B Bz Ct U (a4J B cQ x.n x.ts x.tl x.cs x.lc uR wI jY rE) lK jK oJ mV tM wF vp yD yE BJ wC qO yx xM zE zK BK);show _root_.K.bF.sub (bF.exs QL) λvs H Q E h=>?_;let⟨pL,d,xs,ss,n,ts,tl,cs,rfl,lc,at0,dJ,ne,hL,pL',l8,wB,b4,q⟩:=h;let R:=Go.a2w dJ wB;let ga:=(Go.Wv (P:=P) (w:=w) (base:=base) (a4J B cQ n ts tl cs lc uR wI jY rE) (okL _ _) (λ_ _=>trivial) (λ_ h=>h) ne dJ l8 wB b4 ss.length (aK _)).ok;let g:=Go.Ē (P:=P) (w:=w) (base:=base) (a4J B cQ n ts tl cs lc uR wI jY rE) (okL _ _) (λ_ _=>trivial) (λ_ h=>h) ne dJ l8 wB b4;let Fc:=a4K R b4 ga λk i j hs ef=>by
  let kl:=(eG.mp hs).1;let S:=g.1 k kl;let ef':(b8 n ts ss).dz.getD k []=[i,j]:=ef;change xO _ _ _ _ _ ((b8 n ts ss).dz.getD k [])at S;rw[ef']at S;let⟨_,li,lj,ō,_,_,_,_,_,_,_,mi,mj,_⟩:=S;let lk:=lH (tQ tl (lC ts cs)) ss (b8 n ts ss).aQ (b8 n ts ss).dz k;let il:i<k:=lk▸li;let jl:j<k:=lk▸lj;let ei:(Go.xU (tQ tl (lC ts cs)) n ts ss k).getD i []=(Go.xU (tQ tl (lC ts cs)) n ts ss ss.length).getD i []:=(Go.uT _ il).trans (Go.uT _ (qN il kl)).symm;let ej:(Go.xU (tQ tl (lC ts cs)) n ts ss k).getD j []=(Go.xU (tQ tl (lC ts cs)) n ts ss ss.length).getD j []:=(Go.uT _ jl).trans (Go.uT _ (qN jl kl)).symm;show⟨ō,λx hx=>mi x (by rw[<-ei]at hx;show hx),λx hx=>mj x (by rw[<-ej]at hx;show hx)⟩
 show⟨⟨n,ts,tl,cs,lc⟩,d,pL,xs,ss,Z,at0,dJ,hL,pL',l8,wB,b4,g.1,g.2,λpT yt H' s hT qT nd=>q pT yt _ H' Fc s hT qT nd⟩
end
structure PSw(X:Cx)(s:Stmt)(t:TS):Prop where
 h:PS X s t
structure È(X:Cx)(ss:List Stmt)(t:TS):Prop where
 h:Qk X ss t
def Ι:È X [] W8:=⟨bA⟩
def iW{s:Stmt}{ss:List Stmt}{t:TS}{ts:TS}(h:PSw X s t)(hs:È X ss ts):È X (s::ss) (a0c t ts):=⟨aD h.h hs.h⟩
def R5{s:Stmt}{ss:List Stmt}{t:TS}{ts:TS}(h:PSw X s t)(hs:È X ss ts):È X (s::ss) (a5v t ts):=⟨jw h.h hs.h⟩
abbrev LR:Stmt:=top 52
def qU:bN ["_law_script","_law_n","_law_most","_law_rows_here","_law_web","_law_ties_here","_law_steps","_law_prices","_law_told","_law_question"] ["_law_script"] (aG LR):={}
section
variable{K:aJ}
def a4L(B:Bl mg)(Bz:mg "zip" = none)(gM:vZ K mg)(cQ:Bt K mg)(U:Used w K mg)(Ct:Cts mg)(lK:DG K mg)(jK:Dn K mg "is_below" fM sV)(FZ:Dn K mg "is_set" xX K5)(oJ:Dn K mg "joint" nU jJ)(mV:Dn K mg "less" qP jJ)(tM:Dn K mg "bag_behind" fO Bh)(wF:Dn K mg "run" Fi mD)(vp:Dn K mg "fault_behind" fu EY)(yD:Dn K mg "run_whole" kI mD)(yE:ŗ K mg)(BJ:Dn K mg "run_narrow" lM mD)(wC:Dn K mg "states_behind" fQ Ez)(qO:Dn K mg "note" uL Bf)(yx:Dn K mg "fill_along" jH Im)(xM:Dn K mg "fill_joined" gW Io)(zE:Dn K mg "going_up" mU Ip)(zK:a1q K mg)(BK:Dn K mg "tables" xT K4)(BR:Dn K mg "weights_of" lN Ir)(Eh:Dn K mg "costs_of" qe K6)(uR:Dn K mg "with_number" jo Fb)(wI:Dn K mg "without_number" fX Fd)(jY:RZ K mg)(rE:Dn K mg "merged" qH Bj)(lD:Dn K mg "_law_at" jN xG)(dZ7:Dn K mg "_law_rows" uo XR)(Ũ:Dn K mg "_law_ties" qG X3)(S8:Dn K mg "_law_own" mX sW)(Fw:Dn K mg "_law_laid" kW sW)(Î:DZ9 K mg)(Z5:Dn K mg "_law_formed" jO Ra)(Tc:Dn K mg "_law_met" kY xH)(Z8:Dn K mg "_law_both" nA xH)(Z9:Dn K mg "_law_fits" kZ X4)(Qe:Dn K mg "law" LR ["_law_script"]):⋯ 24 Qe.f Qe.fd ["_law_script"] (a2i K):=by
 let Qg:⋯ 23 _ _ _ _:=(zQ B lD).mono ();let gZ7:⋯ 23 _ _ _ _:=(PK B lD dZ7).mono ();let gZ8:⋯ 23 _ _ _ _:=(PN B lD Ũ).mono ();let gZ4:⋯ 23 _ _ _ _:=(Cg B lD S8 Fw 20).mono ();let gZ2:⋯ 23 _ _ _ _:=(Qa B Î Z5 Tc Z8 Z9).mono ();let Ei:⋯ 22 _ _ _ _:=(Ko B Bz Ct gM cQ lK jK FZ BR Eh).mono ();let a8s:⋯ 23 _ _ _ _:=(Ç B Bz cQ U Ct lK jK oJ mV tM wF vp yD yE BJ wC qO yx xM zE zK BK uR wI jY rE).mono ();show Qe.F.ok qU λd7 A outer s H vs Q E hr h=>?_;let⟨a,ns,rfl,hS,h63,q⟩:=h;let hu:(A.deeper (PyProof.Rows.envOfC "law" (aG LR) s⁻¹ Qe.f d7)).units+68<cLine:=by let:=hr.un;omega
 let hu:(A.deeper (PyProof.Rows.envOfC "law" (aG LR) s⁻¹ Qe.f d7)).units+64<cLine:=()
 let hw1:(A.deeper (PyProof.Rows.envOfC "law" (aG LR) s⁻¹ Qe.f d7)).units+1<cLine:=()
 show⟨_,(È.h (iW ⟨(aX 1 qU.nd (bh cX aq (bh jG (bx Qg hr Z lD.m lD.F.kp lD.b .nil bZ (O (pv 0) (O aq aj))) aq)))⟩
   (iW ⟨(aX 2 qU.nd (bh cX aq (bh jG (bx Qg hr Z lD.m lD.F.kp lD.b .nil bZ (O (pv 0) (O aq aj))) aq)))⟩
   (R5 ⟨(cM (aN jV (bh jG (bh a0g (bx Qg hr Z lD.m lD.F.kp lD.b .nil bZ (O (pv 0) (O aq aj))) aq) aq) aq)
   (aF (aX 1 qU.nd aq))
   bA)⟩
   (iW ⟨(aX 3 qU.nd (bx gZ7 hr Z dZ7.m dZ7.F.kp dZ7.b .nil bZ (O (pv 0) (O (pv 1) (O (pv 2) aj)))))⟩
   (iW ⟨(aX 4 qU.nd (bL (O (pv 1) (O (bx gZ8 hr Z Ũ.m Ũ.F.kp Ũ.b .nil bZ (O (pv 0) (O (pv 3) (O (pv 1) aj)))) aj))))⟩
   (iW ⟨(aX 5 qU.nd (jL (vV (K:=K) Z) Z B.list () (O (aP (aO (K:=K) Z) (pv 4) aq) aj)))⟩
   (iW ⟨(aX 6 qU.nd (bh mJ (bx gZ4 hr Z Fw.m Fw.F.kp Fw.b .nil bZ (O (pv 0) (O (pv 5) (O (pv 3) (O aq aj))))) (lU ["_law_v"] [none]  (by kernel_rfl) Z (eE (K:=K) Z (aP (aO (K:=K) Z) (aP (bf (K:=K) Z) (pv 3) aq) aq)) (λ_ _ _ _ _=>(aM 0 (show(["_law_v"]:ag).Nodup by decide))) (λ_ _ _ _ _=>gj) λ_ _ _ _ _=>(bL (O fV (O (pv 0) aj))))))⟩
   (iW ⟨(sJ (i:=7) ["_law_k","_law_script"] [none,some 0] qU.nd Z Z (by kernel_rfl) Z (iV Z B.range (O (aU (bR (K:=K) Z) Z B.len () (O (pv 5) aj)) aj)) (λ_ _ _ _ _=>(aM 0 (show(["_law_k","_law_script"]:ag).Nodup by decide))) (λ_ _ _ _ _=>gj) (λ_ _ _ _ _=>(bh jG (bx Qg hr Z lD.m lD.F.kp lD.b .nil bZ (O (pv 1) (O (bh cX aq (pv 0)) aj))) (bh a2W aq aq))) (by rfl))⟩
   (iW ⟨(sJ (i:=8) XS [none,some 0] qU.nd Z Z (by kernel_rfl) Z (iV Z B.range (O (pv 1) aj)) (λ_ _ _ _ _=>(aM 0 (show(XS:ag).Nodup by decide))) (λ_ _ _ _ _=>(tU (aN jV (bh jG (bx Qg hr Z lD.m lD.F.kp lD.b .nil bZ (O (pv 1) (O (bh cX aq (pv 0)) aj))) aq) aq))) (λ_ _ _ _ _=>(pv 0)) (by rfl))⟩
   (R5 ⟨(cM (aN jV (aU (bR (K:=K) Z) Z B.len () (O (pv 8) aj)) aq)
   (aF (aX 8 qU.nd (cF (O (bh jG (bx Qg hr Z lD.m lD.F.kp lD.b .nil bZ (O (pv 0) (O aq aj))) (pv 1)) aj))))
   bA)⟩
   (iW ⟨(aX 9 qU.nd (a0j cQ.mkd Ei hr Z cQ.m cQ.fP.b .nil bZ (O (pv 4) (O (pv 8) (O (pv 7) aj)))))⟩
   (iW ⟨(cM (aN (Xm (K:=K) Z hu) (aP (aO (K:=K) Z) (pv 4) aq) (pv 5))
   (aF (bH yI))
   bA)⟩
   (iW ⟨(fL (nP (K:=K) Z jc PySem.F.slot_list_clear PySem.F.type_list_clear Y4 (aP (aO (K:=K) Z) (pv 4) aq)))⟩
   (iW ⟨(bH (bx gZ2 hr Z Z9.m Z9.F.kp Z9.b .nil bZ (O (bx a8s hr Z BK.m BK.F.kp BK.b .nil bZ (O (pv 6) (O (pv 9) aj))) (O (pv 6) aj))))⟩
   Ι))))))))))))))),?_⟩
 show⟨_,Z,a,ns,0,Z,hS,h63,(),(),λz0=>⟨_,_,Z,Z,(show(0:Int)<_ by decide),_,_,Z,Z,?_⟩⟩;show⟨_,Z,a,ns,1,Z,hS,h63,(),(),λz1=>⟨_,_,Z,Z,(show(0:Int)<_ by decide),_,_,Z,Z,?_⟩⟩;let u0:=oV z0 (show(6:Int)≠0 by decide);let u1:=qK z0 (show(0:Int)<6 by decide);let w0:=oV z1 (show(3:Int)≠0 by decide);let w1:=qK z1 (show(0:Int)<3 by decide);show Bq (P:=λσ' H'=>∃(n most:Nat),σ'=[⇑a,some (.int (n:Int)),some (.int (most:Int)),none,none,none,none,none,none,none]/\H'=H/\1<=n/\n<=10/\2<=most/\most<=4) λJ1 ji ij=>⟨J1,?_,?_⟩
 ·obtain⟨n0,e0⟩:∃n0:Nat,1+z0%6=(n0:Int):=⟨(1+z0%6).toNat,()⟩;obtain⟨m0,e1⟩:∃m0:Nat,2+z1%3=(m0:Int):=⟨(2+z1%3).toNat,()⟩;show⟨_,Z,a,ns,0,Z,hS,h63,(),(),λz2=>⟨_,_,Z,Z,⟨(),()⟩,_,_,Z,Z,(show(0:Int)<_ by decide),Z,_,Z,nC (λc=>?_) λc=>?_⟩⟩
  ·show ji _ _ ⟨10,m0,by rw[<-e1];rfl,Z,(),(),(),()⟩
  ·show ji _ _ ⟨n0,m0,by rw[<-e0,<-e1];rfl,Z,(),(),(),()⟩
 intro σ1 H1 h1;let⟨n,most,rfl,rfl,n1,dJ,m2,m4⟩:=ij _ _ h1;clear ji ij h1;show⟨_,Z,_,Z,_,Z,a,ns,n,most,Z,hS,h63,dJ,(),(),λl ys rs H2 s2 fl hl pl R r20=>?_⟩;show⟨_,Z,_,Z,_,Z,_,Z,a,l,ns,ys,rs,n,Z,hS.same s2,h63,hl,pl,(),dJ,λr tx ts H4 s4 fr hr4 pt tbd nd bi l45=>?_⟩;show⟨(),λpg H5 n5=>?_⟩;let s25:=s4.trans n5.same;let s05:=s2.trans s25;let hr5:=n5.same _ _ hr4;let pt5:=Paired.cA pt λ_ _ h=>lZ.same n5.same h;let T:=R.T;let hl5:=s25 _ _ hl;let pl5:=Paired.cA pl λ_ _ h=>HS.same s25 h;let hg5:=n5.here;show⟨_,Z,pg,_,1,.ref r,Z,Z,cJ.of hg5,Z,r,_,Z,.inl (bD.of hr5),λpi H6 n6=>?_⟩;let s06:=s05.trans n6.same;let hi6:=n6.here;let pt6:=Paired.cA pt5 λ_ _ h=>lZ.same n6.same h;let hl6:=n6.same _ _ hl5;let pl6:=Paired.cA pl5 λ_ _ h=>HS.same n6.same h;let hW4:∀j,(dH rs j).length<=4:=λj=>cG (R.few j) m4;let a2C:∀t∈ts,m9 rs t≠[]/\0<=t.1/\t.1<10/\0<=t.2/\t.2<10:=λt ht=>by
  let⟨k,k1,k2⟩:=bi t ht;let:=tbd t ht;show⟨(λz=>by let:=JK.mpr ⟨T.in_ k1,k1,k2⟩;rw[z]at this;cases this),(),(),(),()⟩
 show⟨_,Z,_,Z,_,Z,a,pi,l,ns,tx,ys,ts,rs,n,most,0,Z,hS.same s06,h63,hi6,pt6,(),a2C,hl6,pl6,R,m4,r20,dJ,T.pos,(),λp4 x4 H7 s7 f4 h4 q4=>?_⟩;let⟨v0,hx0,⟨pk,bk,rfl,hTk,Í,nbk,lbk⟩⟩:=cO pl6 (sO T.pos);show⟨_,Z,l,_,_,_,Z,Z,bD.of (s7 _ _ hl6),bW (j:=0) hx0,pk,_,_,_,Z,Z,cJ.of (s7 _ _ hTk),Z,bk,Z,⟨_,bD.of (s7 _ _ Í)⟩,?_⟩;let b10:(dH rs 0).length<=4:=hW4 0;show Gy (dH rs 0) (λ_=>true) bT.out (bD.of (s7 _ _ Í)) () (λv H8 N Z98 _ s8 hN hM=>⟨_,Z,(),λp H9 n9=>hN Z p H9 n9⟩) (λH8 p5 x5 H9 s8 n9 q9=>?_);rw[List.filter_eq_self.mpr (λ_ _=>rfl)]at q9;let s79:=s8.trans n9.same;let l4:=aW q4;let l9:=aW q9;rw[aH]at l9;let ll:=Lp (pk:=zB ns rs) T hW4 r20 0 true (show ts.length<=100 by omega) (f:=20) T.pos;show⟨p4,p5,_,_,Z,Z,s79 _ _ h4,n9.here,(),λpW H10 nW=>?_⟩;let Κ:=s7.trans (s79.trans nW.same);obtain⟨ss,ess⟩:∃ss,ss=zO 0 true ts rs.length (Fp rs) (zB ns rs) (dH rs) 20:=⟨_,Z⟩;let qW:Paired (rD H10) (x4++x5) ss:=by
  rw[ess];show jg (Paired.cA q4 λ_ _ h=>rD.same (s79.trans nW.same) h) (Paired.cA q9 λ_ _ h=>rD.same nW.same h)
 let lss:ss.length<=800:=by
  rw[<-aW qW,cu];omega
 let⟨wB,b4⟩:=Z0 (n:=n) (wd:=4) (ts:=ts) (pk:=zB ns rs) T dJ hW4 nd (λt ht=>JK.mp (a2y (a2C t ht).1)) (λv v0 vn=>(R.cov v v0 vn).resolve_left dZ) (show rs.length<=20 from r20) 0 true;rw[<-ess]at wB b4;let RP:=Go.a2w dJ wB;let a7n:=s06.trans Κ;let xl:=aW qW;let a2b:=Κ _ _ (n6.same _ _ hr5);let a4M:=Κ _ _ (n6.same _ _ hg5);let a7o:=Κ _ _ hi6;let a7p:=Paired.cA pt6 λ_ _ h=>lZ.same Κ h;let ltx:=aW pt6;show⟨_,Z,pi,_,Z,.inl (bD.of a7o),_,Z,(),(),?_⟩;rw[ig];show u6 (λi zs H'=>H'=H10/\∃ws:ae,zs=ws.map V.int/\ws.length=i/\∀x∈ws,0<=x/\x<10^30) ⟨Z,[],Z,Z,λx h=>absurd h dZ⟩ (λi zs H' hi ⟨e,ws,e1,l1,_⟩=>?_) (λi zs H' hi ⟨e,ws,e1,l1,b1⟩=>?_) ?_
 ·rw[e1,aH,l1];show eY (cL ())
 ·subst e;show⟨_,Z,_,Z,_,_,Z,Z,a,ns,_,Z,hS.same a7n,h63,(),(),λz=>⟨_,_,Z,Z,⟨(),(),()⟩,_,_,Z,Z,(show(0:Int)<10^30 by decide),Z,ws++[z%10^30],?_,?_,λx hx=>?_⟩⟩
  ·rw[e1,cW];rfl
  ·rw[cu,l1];rfl
  ·rcases cV.mp hx with h|h
   ·show b1 x h
   ·rw[bK.mp h];show⟨oV z (),qK z ()⟩
 rintro zs a7q ⟨rfl,ws,rfl,lw,wb⟩ pw PX;let Cj:=iG.nD (H:=a7q) (p:=pw) (o:=.lst (ws.map V.int)) PX;generalize cU a7q pw (.lst (ws.map V.int))=H11 at Cj ⊢;rw[ltx]at lw;let wok:Rz ts.length (some ws)=true:=by
  unfold Rz;rw[gq,eO,iw];show⟨lw,λx hx=>?_⟩;let:=wb x hx;rw[gq,eO,eO];show⟨this.1,this.2⟩
 let a8t:=a7n.trans Cj.same;let a7r:=hS.same a8t;show⟨_,Z,_,Z,(),(),?_⟩;rw[ig];show u6 (λi zs G=>G=H11/\∃us:ae,zs=us.map V.int/\us.length<=i/\us.Pairwise (· < ·)/\∀x∈us,0<=x/\x<(i:Int)) ⟨Z,[],Z,aK _,.nil,λx h=>absurd h dZ⟩ (λi zs G hi ⟨e,us,e1,l1,_⟩=>?_) (λi zs G hi ⟨e,us,e1,l1,b1,b2⟩=>?_) ?_
 ·rw[e1,aH];show eY (cL ())
 ·subst e;show⟨_,Z,_,Z,_,_,Z,Z,a,ns,_,Z,a7r,h63,(),(),λz=>⟨_,_,Z,Z,(show(0:Int)<_ by decide),Z,_,Z,nC (λc=>?_) λc=>?_⟩⟩
  ·show⟨_,Z,Z,us++[0+(i:Int)],by rw[e1,cW];rfl,by rw[cu];show Nat.succ_le_succ l1,Mx.mpr ⟨b1,ur _ _,λx hx y hy=>by rw[bK.mp hy];let:=b2 x hx;omega⟩,λx hx=>by
    rcases cV.mp hx with h|h
    ·let:=b2 x h;omega
    ·rw[bK.mp h];omega⟩
  ·show⟨Z,us,e1,(),b1,λx hx=>by let:=b2 x hx;omega⟩
 rintro zs G9 ⟨rfl,us,rfl,lu,ub,ub2⟩ pu hpu;let n15:=iG.nD (H:=G9) (p:=pu) (o:=.lst (us.map V.int)) hpu;generalize cU G9 pu (.lst (us.map V.int))=H15 at n15 ⊢;show Bq (P:=λσ' G'=>∃(pu:Addr) (tl:ae),σ'=[⇑a,some (.int (n:Int)),some (.int (most:Int)),⇑l,⇑pg,⇑pi,⇑pW,⇑pw,⇑pu,none]/\aL G9 G'/\G9 pu=none/\G' pu=↥(tl.map V.int)/\tl≠[]/\tl.length<=10/\tl.Pairwise (· < ·)/\∀x∈tl,0<=x/\x<(n:Int)) λJ1 ji ij=>⟨J1,?_,?_⟩
 ·show⟨_,Z,pu,_,Z,.inl (bD.of n15.here),Z,_,Z,nC (λc=>?_) λc=>?_⟩
  ·show⟨_,Z,a,ns,5,Z,a7r.same n15.same,h63,(),(),λz5=>⟨_,Z,_,_,Z,Z,(show(0:Int)<(n:Int) by omega),(),λpu2 H16 n16=>ji _ _ ⟨pu2,[z5%(n:Int)],Z,n15.same.trans n16.same,n15.same.free n16.fresh,n16.here,(λz=>by cases z),(by show 1<=10;decide),ur _ _,λx hx=>?_⟩⟩⟩;rw[bK.mp hx];show⟨oV _ (),qK _ ()⟩
  ·show ji _ _ ⟨pu,us,Z,n15.same,n15.fresh,n15.here,(λz=>c (by rw[z];rfl)),(),ub,ub2⟩
 intro σ' G h3;let⟨pu,tl,rfl,s9G,fpu,hpt,tne,a8z,tup,tb⟩:=ij _ _ h3;clear ij ji h3 n15 hpu H15 us lu ub ub2;let a7s:=Cj.same.trans s9G;show⟨_,Z,_,Z,_,Z,λd dx fd fdx ned=>?_⟩;let s0:aL G (cU (cU G dx (.own d)) d (.ins cQ.C dx [])):=(Av fdx _).trans (Av (by rw[aR (Ne.symm ned)];show fd) _);let hd0:cU (cU G dx (.own d)) d (.ins cQ.C dx []) d=some (.ins cQ.C dx []):=dG;generalize cU (cU G dx (.own d)) d (.ins cQ.C dx [])=G0 at s0 hd0 ⊢;let sA:=a7s.trans s0;show⟨d,dx,pg,r,pu,n,tx,ts,tl,.ref pw,some ws,Z,hd0,cJ.of (sA _ _ a4M),sA _ _ a2b,Paired.cA a7p λ_ _ h=>lZ.same sA h,nd,(),s0 _ _ hpt,tne,tup.imp λ{a b} h=>by omega,tb,(),⟨pw,Z,bD.of (s0 _ _ (s9G _ _ Cj.here))⟩,(λws' e=>by cases e;omega),wok,λH8 sd at0=>⟨Z,?_⟩⟩;let s8:=Cd s0 fd sd;let sF:=a7s.trans s8;let hr8:=sF _ _ a2b;let hi8:=sF _ _ a7o;let pt8:=Paired.cA a7p λ_ _ h=>lZ.same sF h;show⟨_,Z,pg,_,1,.ref r,Z,Z,cJ.of (sF _ _ a4M),Z,_,Z,_,_,.lst (bD.of hr8) (Aw (λ_ _ h=>VD.isD (lZ.v h)) pt8),.lst (bD.of hi8) (Aw (λ_ _ h=>VD.isD (lZ.v h)) pt8),tW ts,tW ts,_,Z,?_⟩;let eqs:PyData.eqv (PyData.list (ts.map vX)) (PyData.list (ts.map vX))=true:=Qy (tW ts);rw[aB Z,eqs];show dB ⟨_,Z,pg,_,1,.ref r,Z,Z,cJ.of (sF _ _ a4M),Z,.inl ⟨Z,_,bD.of hr8⟩,r,_,Z,Z,hr8,λG2 c2=>?_⟩;let g2:∀c' u,c'≠r->H8 c'=some u->G2 c'=some u:=λc' u hc e=>(c2.rest c' hc).trans e;let nWr:pW≠r:=λz=>by let:=nW.fresh;rw[z,s79 _ _ (s7 _ _ (n6.same _ _ hr5))]at this;cases this
 let hW2:=g2 _ _ nWr (sF _ _ nW.here);let qL:Paired (rD G2) (x4++x5) ss:=Paired.cA qW λ_ _ h=>by
  let⟨p,e1,e2⟩:=h;show⟨p,e1,g2 p _ (λz=>by rw[z,a2b]at e2;cases e2) (sF _ _ e2)⟩
 show⟨_,Z,_,Z,pW,d,x4++x5,ss,n,ts,tl,ws,Z,lw,at0 G2 (λc u hc e=>g2 c u (λz=>?_) e),dJ,λt ht=>by let:=tbd t ht;omega,bD.of hW2,Paired.cA qL λ_ _ h=>rD.v h,lss,wB,b4,λpT yt Ts H9 Fc s9 hT qT ynd=>?_⟩
 ·rcases hc with hc|hc
  ·rw[z,sA _ _ a2b]at hc;cases hc
  ·rw[z,hr8]at e;show hc _ (dI e).symm
 show⟨_,Z,pT,pW,x4++x5,yt,ss,Ts,n,ts,Z,s9 _ _ hW2,Paired.cA qL λ_ _ h=>rD.same s9 h,lss,hT,qT,ynd,Fc.len,RP,Fc.ok,Fc.join,λH18 s18=>q _⟩
end
end K
namespace L2
open PyProof.Rows
noncomputable def É{A:Type}:Nat->(List A->Prop)->Prop
 |0,P=>P []
 |n+1,P=>∀a,É n λr=>P (a::r)
theorem Λ{A:Type}:∀(us:List A) {P:List A->Prop},É us.length P->P us
 | [],_,h=>h
 |a::r,_,h=>Λ r (h a)
def dR{K:aJ}{h:Heap}{mg:Str->Option Value}{x:Str}{st:Stmt}{ps:ag}{f:Addr}{oc:Value}{od an:Option Addr}{osl:Array (Option Value)}{kV doc pm d7 ct:Value}(X:K.In h)(G:h.Ns mainGlobals mg)
  (a:nsIn K mainGlobals x=some ⇑f) (l:K.lookup f=some ⟨oc,od,.func (fnOf x x (gR st) (gh st) (aG st) .none kV doc pm an d7 ct),osl⟩) (c:codeIn K d7 x=true) (k:keepIn K (.ref f)=true)
  (hb:∀(kV doc pm:Value) (an:Option Addr) (d7 ct:Value),É ps.length λus=>bindArgs (fnOf x x (gR st) (gh st) (aG st) .none kV doc pm an d7 ct) ⟨us,[]⟩=pure (ps.zip us)) :
  Nonempty (Dn K mg x st ps) :=
 a5A X G a l c k λ_ _ _ _ _ _ us hl=>Λ us (hl▸hb ..)
noncomputable def zX {K:aJ}{C:Addr}{m qual:Str}{st:Stmt}{ps:ag}{f:Addr}{oc:Value}{od an:Option Addr}{osl:Array (Option Value)}{kV doc pm d7 ct:Value}
  (a:findIn K (.ref C) m=some ⇑f) (i:isFn K (.ref f)=true)
  (l:K.lookup f=some ⟨oc,od,.func (fnOf m qual (gR st) (gh st) (aG st) .none kV doc pm an d7 ct),osl⟩) (c:codeIn K d7 qual=true) (k:keepIn K (.ref f)=true)
  (h:∀(kV doc pm:Value) (an:Option Addr) (d7 ct:Value),É ps.length λus=>bindArgs (fnOf m qual (gR st) (gh st) (aG st) .none kV doc pm an d7 ct) ⟨us,[]⟩=pure (ps.zip us)):Dm K C m qual st ps :=
 a5P a i l c k λ_ _ _ _ _ _ us hl=>Λ us (hl▸h ..)
noncomputable def a2c {K:aJ}{C:Addr}{m qual:Str}{st:Stmt}{ps:ag}{f T:Addr}{oc oT:Value}{od an dT:Option Addr}{osl sT:Array (Option Value)}{kV doc pm d7 ct:Value}{nT:Nat}
  (a:findIn K (.ref C) m=some ⇑f) (i:isFn K (.ref f)=true)
  (l:K.lookup f=some ⟨oc,od,.func (fnOf m qual (gR st) (gh st) (aG st) (.ref T) kV doc pm an d7 ct),osl⟩) (c:codeIn K d7 qual=true) (k:keepIn K (.ref f)=true)
  (lT:K.lookup T=some ⟨oT,dT,.seq #[.none] nT,sT⟩)
  (h:∀(kV doc pm:Value) (an:Option Addr) (d7 ct:Value),É ps.length λus=>∃g,bindArgs (fnOf m qual (gR st) (gh st) (aG st) (.ref T) kV doc pm an d7 ct) ⟨us,[]⟩=seqItems? (.ref T) >>= g/\g (some #[.none])=pure (ps.zip us))
  (h1:∀(kV doc pm:Value) (an:Option Addr) (d7 ct:Value),É (ps.length-1) λus=>∃g,bindArgs (fnOf m qual (gR st) (gh st) (aG st) (.ref T) kV doc pm an d7 ct) ⟨us,[]⟩=seqItems? (.ref T) >>= g/\g (some #[.none])=pure (ps.zip (us++[.none]))):DmD K C m qual st ps :=
 a3T a i l c k lT (λ_ _ _ _ _ _ us hl=>Λ us (hl▸h ..)) λ_ _ _ _ _ _ us hl=>Λ us (Nat.eq_sub_of_add_eq hl▸h1 ..)
end L2
open PySem.W PyProof.Rows
inductive PySem.W.Fast:Prop|tw17343792456593402895|tw11070767026491604669|tw16018571606711137976|tw10324968468807251103|tw3868801436152027160|tw10748410756159441438|tw10465140366895414101|tw710725105799158792|tw11195817575256722782|tw9746152317005208488|tw5762747458778709430|tw4765140897143843551|tw17780202577924594015|tw2590971788993286277|tw12262983371359636790|tw9579458726282761631|tw16927907931252082642|tw4681479606743002230|tw11855597934791837520|tw5579226102044346018|tw14750305526383255391|tw14795854031108531824|tw11832157089217134294|tw16196804174367954476|tw10234868006564691732|tw11549446728584782297|tw13231391997477782972|tw15601427621184297775|tw5560952790927391312|tw10707867308497479888|tw3248397167289410872|tw13647402890734074751|tw12589800695604239851|tw5944679509965546620|tw2536800797225574978|tw337106152854152073|tw12141021698448922408|tw626634435083761028|tw16017932864724069429|tw1378087954075759115|tw18088966018912769378|tw12911763635423323119|tw13312917892918084891|tw11954901478076830116|tw11999108401152614632|tw14038374301446574749|tw7285570017159403177|tw8481297606819763296|tw1569863208754450499|tw5140834118380622398|tw2534558698215226485|tw2906424925168412032|tw10421933803585001178|tw15282700588824106967|tw11094076542020447500|tw1210047275909203298|tw748985832644416568|tw10125619882993374176|tw11426562519339972815|tw3401471610851590531|tw16225071791552938521|tw9090661397948142117|tw9391079755128191481|tw9126704870643531312|tw17782811283229112102|tw9564823855648272382|tw5862954746665699646|tw1996044073904390076|tw1452961679241245834|tw12773550221788350597|tw3857737409685709673|tw8929723631650722156|tw18150030644592269454|tw13904506773609431153|tw15939478156993743307|tw6291952435499506467|tw1725163544806389042|tw15951132176985742841|tw571827576053094999|tw5093566691778525041|tw10174894690727212667|tw8027752144091061807|tw4744383220998076406|tw17183356135360871708|tw5422616478898013641|tw13523039065399690465|tw8532060462857940701|tw6031969227415576019|tw3142303081028801801|tw5324454418816126632|tw8689604834186977703|tw14619519830080571761|tw8564313483990921074|tw8744124449592008526|tw3612377647115351087|tw2873557938544953793|tw2269535865973451445|tw15577252932442898638|tw8207018988374416198|tw10499127733815846369|tw13299452299019704091|tw13572423103560806646|tw9352004954468538120|tw7441513035803565283|tw14089948393401301050|tw15048577932766263602|tw15024376599252056856|tw15495115484381711172|tw13921062221005707645|tw12511610200452346965|tw2339998693348661348|tw11290470528934129109|tw5608329399574692598|tw18358180590240870850|tw7784724328158436300|tw10274452704124597392|tw14116554850249476918|tw4856283200325275574|tw1370667847691956188|tw9935073929820424013|tw2615107108829840712|tw3498506803213375152|tw5327746381638793822|tw7981046907634032282|tw12389906306009622287|tw14244329844182238111|tw10501869244157852708|tw9046455741077687682|tw17526836477553418619|tw1709913474035494606|tw7237212185405496607|tw7252106390011518081|tw13811023403598839760|tw6274545473168930449|tw10023293888841791159|tw15708393621760454456|tw11824473926620301360|tw72756806638075865|tw17289736064035369152|tw17734950731752406859|tw17581915760056339728|tw1823051905959558437|tw18187761654466441445|tw3602275079296229919|tw9993358244819234010|tw7529559880690568659|tw2748678996425797609|tw2501371321628639456|tw17305035605319306285|tw16658479927015873581|tw4689111654665692513|tw15520157790455961147|tw15157681173588203144|tw5971713235551267285|tw11700497718434613020|tw6429017059757423640|tw13444256786257989566|tw16785308617893523753|tw12120083985375878421|tw10566711900799343291|tw13060260780916426432|tw7317509450234535368|tw6783069098157461512|tw3670153917630181005|tw11545374531232685802|tw4941478841966304969|tw14945682424076845372|tw2299205088562267611|tw6844282583416391120|tw9510900140030122155|tw2713961080443183506|tw15906387599507569497|tw9663040922814290456|tw17279665778894791926|tw1852008324562442917|tw3357125995556968202|tw2289282875393006502|tw17334455883186603993|tw12355579761533241201|tw6536116632270759749|tw1692620951612960622|tw12917070187974045985|tw12848362934138659433|tw11681120825434434312|tw10918087334500552538|tw10812786623180650903|tw1611783371110871322|tw3356773990822778072|tw12454434742873930567|tw9171760708827908591|tw3706224135082850963|tw8642709978680035612|tw526899729332418018|tw10465996763234640606|tw1840082559797452329|tw771101634199838041|tw3651528333434945823|tw3761851809590546269|tw14442689365747938218|tw7391394229353080761|tw4148317624687430907|tw2483589256057926588|tw2156623544468995312|tw17591678946596035866|tw17492052377157043451|tw17440054126580140080|tw15406902006750307195|tw11741897582108813398|tw11383298160822774682|tw16714780895525659969|tw9924920855787830941|tw9524975679623668775|tw8084448647535783855|tw7760130593665172965|tw6006311502864659728|tw4720554744071636243|tw40289881082287064|tw2928268830339761615|tw2916201716640402951|tw2692631447026490883|tw2273245794263870813|tw18150629262672036174|tw17332364972128756940|tw17074139929106433288|tw16496383724038206037|tw16182797084380892959|tw15922519959105660641|tw1283106283271860692|tw12791465399328322730|tw10922643666288097183|tw10896911286093667894|tw10568954110926428872|tw10097511774445623287|tw8545265893755958747|tw14354715871583799219|tw17133598852819268173|tw11701548762084776427|tw12226023126412808347|tw11601435893798104787|tw16998220064870642295|tw7808596526779079434|tw6692222583163407078|tw6506898842631378051|tw3861282221859348012|tw13765342995326863455|tw11314260392721049907|tw13862042893126655869|tw10322028766786552881|tw17610584086551442792|tw5173848898027587773
set_option maxRecDepth 100000 in
set_option maxHeartbeats 0 in
theorem PySem.Challenge.cw_bagwood_k72_links_laid_together_holds : PySem.Challenge.rw_bagwood_k72_links_laid_together.Holds := by
 w_on;o_law;k_head;(case hw=>w_witness2)
 k_fill
 refine L2.Ā (l:=PySem.Challenge.rw_bagwood_k72_links_laid_together) (n:=63) (k:=24) (x:="_law_script") (CX:=L2.fW) (sp:=Lw.a2i) rfl (by decide) rfl ⟨rfl,by decide,by decide⟩ (λw h Z99=>PySem.W.kIn_of Z99) ?F ?S ?C
 case F =>
  intro w mg fa h KX G hmg
  have B:L2.Bl mg:=by
   refine' L2.a5B KX G ?z1 ?z2 ?z3 ?z4 ?z5 ?z6 ?z7 ?z8 ?z9 ?z10 ?z11 ?z12 ?z13 ?z14 ?z15 ?z16 ?z17
   all_goals k_is
  have Bz:mg "zip" = none:=by
   refine' PySem.W.mg_none_of KX G ?z
   k_is
  obtain⟨lK⟩:Nonempty (L2.Dn (L2.KOf KX) mg "is_whole" K.zF ["thing"]):=by dsimp only[L2.KOf];refine' L2.dR KX G ?a ?l ?c ?k (λ_ _ _ _ _ _ _=>rfl);case a|l|c|k=>k_is
  obtain⟨jK⟩:Nonempty (L2.Dn (L2.KOf KX) mg "is_below" K.fM ["n","thing"]):=by dsimp only[L2.KOf];refine' L2.dR KX G ?a ?l ?c ?k (λ_ _ _ _ _ _ _ _=>rfl);case a|l|c|k=>k_is
  obtain⟨FZ⟩:Nonempty (L2.Dn (L2.KOf KX) mg "is_set" K.xX ["n","places"]):=by dsimp only[L2.KOf];refine' L2.dR KX G ?a ?l ?c ?k (λ_ _ _ _ _ _ _ _=>rfl);case a|l|c|k=>k_is
  obtain⟨oJ⟩:Nonempty (L2.Dn (L2.KOf KX) mg "joint" K.nU ["one","other"]):=by dsimp only[L2.KOf];refine' L2.dR KX G ?a ?l ?c ?k (λ_ _ _ _ _ _ _ _=>rfl);case a|l|c|k=>k_is
  obtain⟨mV⟩:Nonempty (L2.Dn (L2.KOf KX) mg "less" K.qP ["one","other"]):=by dsimp only[L2.KOf];refine' L2.dR KX G ?a ?l ?c ?k (λ_ _ _ _ _ _ _ _=>rfl);case a|l|c|k=>k_is
  obtain⟨tM⟩:Nonempty (L2.Dn (L2.KOf KX) mg "bag_behind" K.fO ["graph","done","step","used"]):=by dsimp only[L2.KOf];refine' L2.dR KX G ?a ?l ?c ?k (λ_ _ _ _ _ _ _ _ _ _=>rfl);case a|l|c|k=>k_is
  obtain⟨wF⟩:Nonempty (L2.Dn (L2.KOf KX) mg "run" K.Fi ["graph","steps"]):=by dsimp only[L2.KOf];refine' L2.dR KX G ?a ?l ?c ?k (λ_ _ _ _ _ _ _ _=>rfl);case a|l|c|k=>k_is
  obtain⟨vp⟩:Nonempty (L2.Dn (L2.KOf KX) mg "fault_behind" K.fu ["graph","steps","tops","pile"]):=by dsimp only[L2.KOf];refine' L2.dR KX G ?a ?l ?c ?k (λ_ _ _ _ _ _ _ _ _ _=>rfl);case a|l|c|k=>k_is
  obtain⟨yD⟩:Nonempty (L2.Dn (L2.KOf KX) mg "run_whole" K.kI ["graph","steps"]):=by dsimp only[L2.KOf];refine' L2.dR KX G ?a ?l ?c ?k (λ_ _ _ _ _ _ _ _=>rfl);case a|l|c|k=>k_is
  obtain⟨yE⟩:Nonempty (L2.Dn (L2.KOf KX) mg "refuse_wide" K.uP ["bags"]):=by dsimp only[L2.KOf];refine' L2.dR KX G ?a ?l ?c ?k (λ_ _ _ _ _ _ _=>rfl);case a|l|c|k=>k_is
  obtain⟨BJ⟩:Nonempty (L2.Dn (L2.KOf KX) mg "run_narrow" K.lM ["graph","steps"]):=by dsimp only[L2.KOf];refine' L2.dR KX G ?a ?l ?c ?k (λ_ _ _ _ _ _ _ _=>rfl);case a|l|c|k=>k_is
  obtain⟨wC⟩:Nonempty (L2.Dn (L2.KOf KX) mg "states_behind" K.fQ ["question","old","step","bag"]):=by dsimp only[L2.KOf];refine' L2.dR KX G ?a ?l ?c ?k (λ_ _ _ _ _ _ _ _ _ _=>rfl);case a|l|c|k=>k_is
  obtain⟨qO⟩:Nonempty (L2.Dn (L2.KOf KX) mg "note" K.uL ["question","table","state","row"]):=by dsimp only[L2.KOf];refine' L2.dR KX G ?a ?l ?c ?k (λ_ _ _ _ _ _ _ _ _ _=>rfl);case a|l|c|k=>k_is
  obtain⟨yx⟩:Nonempty (L2.Dn (L2.KOf KX) mg "fill_along" K.jH ["question","table","source","step","bag"]):=by dsimp only[L2.KOf];refine' L2.dR KX G ?a ?l ?c ?k (λ_ _ _ _ _ _ _ _ _ _ _=>rfl);case a|l|c|k=>k_is
  obtain⟨xM⟩:Nonempty (L2.Dn (L2.KOf KX) mg "fill_joined" K.gW ["question","table","source","another"]):=by dsimp only[L2.KOf];refine' L2.dR KX G ?a ?l ?c ?k (λ_ _ _ _ _ _ _ _ _ _=>rfl);case a|l|c|k=>k_is
  obtain⟨zE⟩:Nonempty (L2.Dn (L2.KOf KX) mg "going_up" K.mU ["steps","question","tops","feeds"]):=by dsimp only[L2.KOf];refine' L2.dR KX G ?a ?l ?c ?k (λ_ _ _ _ _ _ _ _ _ _=>rfl);case a|l|c|k=>k_is
  obtain⟨zK⟩:Nonempty (L2.Dn (L2.KOf KX) mg "without_sources" K.jX ["table"]):=by dsimp only[L2.KOf];refine' L2.dR KX G ?a ?l ?c ?k (λ_ _ _ _ _ _ _=>rfl);case a|l|c|k=>k_is
  obtain⟨BK⟩:Nonempty (L2.Dn (L2.KOf KX) mg "tables" K.xT ["steps","question"]):=by dsimp only[L2.KOf];refine' L2.dR KX G ?a ?l ?c ?k (λ_ _ _ _ _ _ _ _=>rfl);case a|l|c|k=>k_is
  obtain⟨BR⟩:Nonempty (L2.Dn (L2.KOf KX) mg "weights_of" K.lN ["many","weights"]):=by dsimp only[L2.KOf];refine' L2.dR KX G ?a ?l ?c ?k (λ_ _ _ _ _ _ _ _=>rfl);case a|l|c|k=>k_is
  obtain⟨Eh⟩:Nonempty (L2.Dn (L2.KOf KX) mg "costs_of" K.qe ["ties","costs"]):=by dsimp only[L2.KOf];refine' L2.dR KX G ?a ?l ?c ?k (λ_ _ _ _ _ _ _ _=>rfl);case a|l|c|k=>k_is
  obtain⟨uR⟩:Nonempty (L2.Dn (L2.KOf KX) mg "with_number" K.jo ["state","spot","number"]):=by dsimp only[L2.KOf];refine' L2.dR KX G ?a ?l ?c ?k (λ_ _ _ _ _ _ _ _ _=>rfl);case a|l|c|k=>k_is
  obtain⟨wI⟩:Nonempty (L2.Dn (L2.KOf KX) mg "without_number" K.fX ["state","spot"]):=by dsimp only[L2.KOf];refine' L2.dR KX G ?a ?l ?c ?k (λ_ _ _ _ _ _ _ _=>rfl);case a|l|c|k=>k_is
  obtain⟨jY⟩:Nonempty (L2.Dn (L2.KOf KX) mg "renumbered" K.wg ["numbers"]):=by dsimp only[L2.KOf];refine' L2.dR KX G ?a ?l ?c ?k (λ_ _ _ _ _ _ _=>rfl);case a|l|c|k=>k_is
  obtain⟨rE⟩:Nonempty (L2.Dn (L2.KOf KX) mg "merged" K.qH ["numbers","one","other"]):=by dsimp only[L2.KOf];refine' L2.dR KX G ?a ?l ?c ?k (λ_ _ _ _ _ _ _ _ _=>rfl);case a|l|c|k=>k_is
  obtain⟨lD⟩:Nonempty (L2.Dn (L2.KOf KX) mg "_law_at" K.jN ["_law_script","_law_k"]):=by dsimp only[L2.KOf];refine' L2.dR KX G ?a ?l ?c ?k (λ_ _ _ _ _ _ _ _=>rfl);case a|l|c|k=>k_is
  obtain⟨dZ7⟩:Nonempty (L2.Dn (L2.KOf KX) mg "_law_rows" K.uo ["_law_script","_law_n","_law_most"]):=by dsimp only[L2.KOf];refine' L2.dR KX G ?a ?l ?c ?k (λ_ _ _ _ _ _ _ _ _=>rfl);case a|l|c|k=>k_is
  obtain⟨Ũ⟩:Nonempty (L2.Dn (L2.KOf KX) mg "_law_ties" K.qG ["_law_script","_law_rows_here","_law_n"]):=by dsimp only[L2.KOf];refine' L2.dR KX G ?a ?l ?c ?k (λ_ _ _ _ _ _ _ _ _=>rfl);case a|l|c|k=>k_is
  obtain⟨S8⟩:Nonempty (L2.Dn (L2.KOf KX) mg "_law_own" K.mX ["_law_script","_law_ties_here","_law_rows_here","_law_k"]):=by dsimp only[L2.KOf];refine' L2.dR KX G ?a ?l ?c ?k (λ_ _ _ _ _ _ _ _ _ _=>rfl);case a|l|c|k=>k_is
  obtain⟨Fw⟩:Nonempty (L2.Dn (L2.KOf KX) mg "_law_laid" K.kW ["_law_script","_law_ties_here","_law_rows_here","_law_k"]):=by dsimp only[L2.KOf];refine' L2.dR KX G ?a ?l ?c ?k (λ_ _ _ _ _ _ _ _ _ _=>rfl);case a|l|c|k=>k_is
  obtain⟨Î⟩:Nonempty (L2.Dn (L2.KOf KX) mg "_law_works" K.v5 ["_law_steps"]):=by dsimp only[L2.KOf];refine' L2.dR KX G ?a ?l ?c ?k (λ_ _ _ _ _ _ _=>rfl);case a|l|c|k=>k_is
  obtain⟨Z5⟩:Nonempty (L2.Dn (L2.KOf KX) mg "_law_formed" K.jO ["_law_found","_law_size"]):=by dsimp only[L2.KOf];refine' L2.dR KX G ?a ?l ?c ?k (λ_ _ _ _ _ _ _ _=>rfl);case a|l|c|k=>k_is
  obtain⟨Tc⟩:Nonempty (L2.Dn (L2.KOf KX) mg "_law_met" K.kY ["_law_one","_law_other"]):=by dsimp only[L2.KOf];refine' L2.dR KX G ?a ?l ?c ?k (λ_ _ _ _ _ _ _ _=>rfl);case a|l|c|k=>k_is
  obtain⟨Z8⟩:Nonempty (L2.Dn (L2.KOf KX) mg "_law_both" K.nA ["_law_one","_law_other"]):=by dsimp only[L2.KOf];refine' L2.dR KX G ?a ?l ?c ?k (λ_ _ _ _ _ _ _ _=>rfl);case a|l|c|k=>k_is
  obtain⟨Z9⟩:Nonempty (L2.Dn (L2.KOf KX) mg "_law_fits" K.kZ ["_law_found","_law_steps"]):=by dsimp only[L2.KOf];refine' L2.dR KX G ?a ?l ?c ?k (λ_ _ _ _ _ _ _ _=>rfl);case a|l|c|k=>k_is
  obtain⟨Qe⟩:Nonempty (L2.Dn (L2.KOf KX) mg "law" K.LR ["_law_script"]):=by dsimp only[L2.KOf];refine' L2.dR KX G ?a ?l ?c ?k (λ_ _ _ _ _ _ _=>rfl);case a|l|c|k=>k_is
  obtain⟨U⟩:Nonempty (L2.Used w (L2.KOf KX) mg):=by
   dsimp only[L2.KOf]
   refine' L2.a0Q KX G ?a ?l ?c
   (case a=>k_is);(case l=>k_is);(case c=>exact⟨_,_,_,_,_,_,_,_,_,_,rfl⟩)
  obtain⟨gM⟩:Nonempty (K.vZ (L2.KOf KX) mg):=by dsimp only[L2.KOf];refine'⟨{C:=_,cl:=⟨?pg,?hd,?po,?sa⟩,m:=PySem.W.mg_of KX G ?a,fP:=L2.zX (st:=K.mq) (ps:=["self","graph","leaf","whole"]) ?tK ?tL ?zY ?zZ ?wj (λ_ _ _ _ _ _ _ _ _ _=>rfl),Fl:=⟨?ga,⟨.type "type",?R6,?R7⟩,?wj⟩,mkd:=⟨?mk,?tK,?tL,?kc⟩}⟩;case a|pg|hd|po|sa|mk|kc|tK|tL|zY|zZ|wj|ga|R7|R6=>k_is
  obtain⟨cQ⟩:Nonempty (K.Bt (L2.KOf KX) mg):=by dsimp only[L2.KOf];refine'⟨{C:=_,cl:=⟨?pg,?hd,?po,?sa⟩,m:=PySem.W.mg_of KX G ?a,qi:=?qi,uK:=?uK,rA:=?rA,Ji:=?Ji,Bu:=?Bu,fP:=L2.a2c (st:=K.pY) (ps:=["self","graph","told","costs"]) ?tK ?tL ?zY ?zZ ?wj ?W4 (λ_ _ _ _ _ _ _ _ _ _=>⟨_,rfl,rfl⟩) (λ_ _ _ _ _ _ _ _ _=>⟨_,rfl,rfl⟩),uf:=L2.zX (st:=K.jb) (ps:=["self","one","other"]) ?R8 ?R9 ?Sg ?Sh ?Sq (λ_ _ _ _ _ _ _ _ _=>rfl),Bv:=L2.zX (st:=K.nZ) (ps:=["self","state"]) ?Μ ?Ν ?Ξ ?Ο ?Ρ (λ_ _ _ _ _ _ _ _=>rfl),Bw:=L2.zX (st:=K.oh) (ps:=["self","one","other"]) ?Τ ?Υ ?Χ ?Ω ?η (λ_ _ _ _ _ _ _ _ _=>rfl),Bx:=L2.zX (st:=K.kE) (ps:=["self","state","spot","v"]) ?θ ?ξ ?ο ?ς ?υ (λ_ _ _ _ _ _ _ _ _ _=>rfl),O8:=L2.zX (st:=K.ou) (ps:=["self","state","one","other","tie"]) ?a4N ?a4O ?a4P ?a4Q ?a4R (λ_ _ _ _ _ _ _ _ _ _ _=>rfl),ug:=L2.zX (st:=K.jW) (ps:=["self","state","spot","v"]) ?Ss ?Sv ?Sw ?Sx ?Sy (λ_ _ _ _ _ _ _ _ _ _=>rfl),mkd:=⟨?mk,?tK,?tL,?kc⟩}⟩;(case a|pg|hd|po|sa|mk|kc|tK|tL|zY|zZ|wj|W4|R8|R9|Sg|Sh|Sq|Μ|Ν|Ξ|Ο|Ρ|Τ|Υ|Χ|Ω|η|θ|ξ|ο|ς|υ|a4N|a4O|a4P|a4Q|a4R|Ss|Sv|Sw|Sx|Sy=>k_is);case qi|uK|rA|Ji|Bu=>unfold L2.jz;k_is
  obtain⟨Ct⟩:Nonempty (K.Cts mg):=by
   refine' K.a4j KX G ?Ga ?JS
   case Ga|JS=>k_is
  exact L2.a3q hmg Qe λbase=>K.a4L B Bz gM cQ U Ct lK jK FZ oJ mV tM wF vp yD yE BJ wC qO yx xM zE zK BK BR Eh uR wI jY rE lD dZ7 Ũ S8 Fw Î Z5 Tc Z8 Z9 Qe
 case S=>exact λK H a ns hl hO hS=>⟨a,ns,rfl,Lw.Vz.of hO hS,hl,λ_=>rfl⟩
 case C=>exact λ_ _ _ _ z=>z
