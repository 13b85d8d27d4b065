import PyProof.Rows.All
import Wide.All
import OpenK.AllK
import Wide.FinOn
import PySem.Challenge.RW_bagwood_k60_leaves_and_places_in
set_option Elab.async false
set_option linter.all false
set_option compiler.extract_closed false
set_option genSizeOf false
set_option tactic.hygienic false
set_option maxRecDepth 100000
local macro_rules | `(tactic| omega) => `(tactic| first | lia | omega (config := {}))
set_option maxHeartbeats 16000000
local macro_rules | `(tactic| decide) => `(tactic| decide +kernel)
set_option hygiene false
local macro_rules | `(tactic| subst_eqs) => `(tactic| (refine M (eU (iH (Vp (X:=X.in1.nox) _ _ σ H ys[i] u (λc H'=>c=b/\H'=H) ((bG.in1 I1p).wish _) ru ⟨b,tb,Z,Z⟩) (λc s2 ⟨H',I2,e1,e2⟩=>?_) λ_ _ z=>False.elim z));rw[e2]at I2;subst e1;have I2':bG X (Y++wJ [it] h') σ H s2:=bG.of_in1 I2.vf;have Ė:bG X Y σ H s2:=I2'.yj;have st2:s2.heap.IsListIter it p (i+1):=st'.at λo e=>(I2'.pin (it,o) (iz _ (iz _ (tY (bJ.mpr Z) e)))).1;refine M (wI ?_)))
local macro_rules | `(tactic| bv_omega) => `(tactic| (refine M (kh (M (gn hz Z (x:=.ref (n+4)) Z ?_)));refine M (iQ hz (by simp) λg1 z1 s1=>?_);have z1:IsZip g1 (n+5) (n+3) (n+4) .ellipsis:=z1;refine M ?_;simp only[List.zipIdx_cons,List.zipIdx_nil,List.forIn_cons,List.forIn_nil];have k1:∀e o,e≠n+5->s.heap.get? e=some o->g1.get? e=some o:=λe o he q=>s1.extBut e o he q;refine M (M (Aw ?_));show wpAny _ _ (Builtin.SmallTypes.nextOf (.ref n) >>= _) _ _ _))
local macro_rules | `(tactic| injections) => `(tactic| (have I1:bG X Y σ H { s with heap:=h'}:=I.turned (t':=s.toks) (λb o hb e=>(sb.2 b hb).trans e) f0 f1 f3 f4 f5))
local macro_rules | `(tactic| and_intros) => `(tactic| (unfold Builtin.«dict_keyiterator.__next__»;refine M (m:=Builtin.Dict_items.slot0 "__next__" _) (ao ?_);dsimp only;refine M (M (M (m:=typeNameOfWhole _) (NK hT ?_)));rw[show(if Builtin.Dict_items.ownsTuple "dict_keyiterator" = true then 2 else 0)=0 from rfl];refine ao (M (Ei hI Z ?_));show wpAny _ _ (if(Value.ref d==Value.none)=true then _ else _) _ _ _;refine jJ (L2.yx (by simp) (M (m:=Builtin.Dict_items.addrOf _) (ao (M (mH ho hd (jJ (L2.yx (by simp) (M (m:=Builtin.Dict_items.addrOf _) (ao (M (wF ho hd (jJ (L2.yx (by simp) (ao ?_))))))))))))))))
local macro_rules | `(tactic| eq_refl) => `(tactic| (have ty:=hq.typeIs;obtain⟨oq,g1,g2,g3⟩:=hq;obtain⟨ot,g4,_,m,g5⟩:=ht;unfold Builtin.SmallTypes.nextOf;refine M (mZ (name:=Str.ofString "__next__") ty Nx (gk Nx ty å ((show wpAny _ _ (field (.ref q) 0 >>= _) _ _ s from M (gn g1 g3 (x:=.ref t) Z ((show wpAny _ _ (if(Value.ref t==Value.none)=true then _ else _) _ _ s from ?_))))) (ä _)));rw[aq (nref t)];refine(show wpAny _ _ (field (.ref q) 1 >>= _) _ _ s from M (gn g1 g3 (x:=.int i 0) Z ((show wpAny _ _ (seqItems? (.ref t) >>= _) _ _ s from M (oF g4 g5 ?_)))));simp only[Int.toNat_natCast,hy]))
local macro_rules | `(tactic| symm) => `(tactic| (intro Y s σ H x y v u Q I rx ry h))
local macro_rules | `(tactic| nofun) => `(tactic| (intro X hP hw hK hc i Y s σ H E I hf st hg))
local macro_rules | `(tactic| right) => `(tactic| (refine M (j5 ?_ (by size_fits));refine M (m:=firstArgMember _ _) (Jd (a:=Value.none) (by first|rfl|(simp only[firstArgMember];rfl)) ?_);refine j5 ?_ (by size_fits);simp only[raiseNew];refine M (Pb ?_);rw[show A.in1.handled=none from hh];refine M (ao (Pk ?_));exact M (tM (U:="StopIteration") (T:="StopIteration") (b:=true) ⟨_,bU _ Z,Z⟩ Ja (ao (h _ ((Ey.extBut.push _).push _))))))
local macro_rules | `(tactic| exists $x) => `(tactic| refine $x fun dz A outer s H vs Q E hr h=>?_)
local macro_rules | `(()) => `(by first|decide|omega|exact Nat.le_of_ble_eq_true rfl|grind)
local macro_rules | `($x⁻¹) => `(($x).heap.objs.size)
noncomputable section
def Z{α:Sort _}{a:α}:a=a:=rfl
def M:=@PySem.wpAny_bind
def ao:=@PySem.wpAny_pure
def bH:=@List.getElem?_eq_getElem
def aJ:=@List.length_map
def aO:=@List.mem_cons_self
def bB:=@PySem.Heap.get?_push_of_some
def aY:=@List.mem_cons_of_mem
def aM:=@PySem.Paired.length
def bJ:=@List.mem_singleton
def bU:=@PySem.Heap.get?_push_size
def aL:=@Nat.le_refl
def cA:=@List.length_append
def aX:=@PySem.Heap.lt_size
def bL:=@decide_eq_true
def fu:=@List.getElem?_eq_some_iff
def aq:=@if_neg
def cJ:=@List.mem_append
def dB:=@Bool.false_ne_true
def bV:=@List.map_cons
def aF:=@if_pos
def cB:=@List.mem_cons
def bY:=@Nat.ne_of_lt
def cW:=@decide_eq_false
def fB:=@decide_eq_true_iff
def dH:=@List.map_append
def d7:=@List.length_take
def fK:=@List.getElem?_map
def eN:=@List.not_mem_nil
def iz:=@List.mem_append_right
def eO:=@Option.some.inj
def gj:=@of_decide_eq_true
def jf:=@List.mem_of_getElem?
def gk:=@PySem.wpAny_call_entry
def dI:=@Nat.le_trans
def kZ:=@PySem.F.plainAttrs_list
def eU:=@PySem.wpAny_holding
def iQ:=@PySem.wpAny_setField_rec
def dh:=@Nat.zero_le
def iB:=@List.size_toArray
def dU:=@Nat.le_of_lt
def dW:=@List.mem_map
def lC:=@Option.map_eq_some_iff
def iC:=@List.take_length
def jC:=@Nat.lt_of_lt_of_le
def mZ:=@PySem.wpAny_callSpecial?_slot
def lD:=@PySem.Around.under_plainId
def jD:=@Int.toNat_natCast
def iD:=@List.nodup_cons
def iG:=@PySem.wpAny_loadPart'
def iR:=@PySem.PassesOwn.never
def jE:=@List.length_cons
def lE:=@PySem.W.mg_none_of
def j5:=@PySem.wpAny_newObj_type
def m9:=@List.mem_of_mem_take
def gC:=@Nat.ne_of_gt
def qp:=@List.find?_cons_of_neg
def nA:=@PySem.Heap.SameBut.update
def j6:=@List.length_drop
def gn:=@PySem.wpAny_field
def mH:=@PySem.wpAny_dictEntries
def j7:=@PySem.codeAny_builtin
def uW:=@Array.getElem?_eq_getElem
def wz:=@PyProof.Rows.callWith_type1
def lF:=@List.mem_filter
def qt:=@List.getElem_of_mem
def rW:=@List.mem_append_left
def j8:=@PySem.Heap.size_push
def Ab:=@List.take_succ_eq_append_getElem
def rY:=@Array.length_toList
def lG:=@List.take_succ
def uX:=@List.find?_cons_of_pos
def iU:=@PySem.sizeLine_eq
def nC:=@List.append_nil
def qu:=@List.length_range
def mJ:=@List.mem_range
def xT:=@List.getElem?_append_right
def eV:=@PyProof.Rows.wpS_bind
def rZ:=@Int.emod_lt_of_pos
def uY:=@List.take_append_drop
def iH:=@PySem.wpAny_mono
def xU:=@List.getElem?_append_left
def qw:=@Bool.and_eq_true
def qx:=@List.getElem_mem
def j9:=@List.map_map
def mK:=@PySem.plainId_quiet
def oF:=@PySem.wpAny_seqItems
def xV:=@List.pairwise_singleton
def su:=@Int.emod_nonneg
def tM:=@PySem.wpAny_isInstance
def wA:=@beq_eq_false_iff_ne
def xW:=@List.filterMap_append
def uZ:=@List.nodup_append
def Ac:=@PySem.F.plainAttrs_dict
def wB:=@PySem.wpAny_Call_Name_kw
def kh:=@PySem.wpAny_rule
def wC:=@PySem.tupleKind_room_in1
def tO:=@Bool.eq_iff_iff
def tQ:=@PySem.W.kia_one
def Ad:=@PySem.SeqAt.canLay_of_shaped
def xX:=@List.map_congr_left
def wD:=@PySem.wpAny_pyIter_list
def Ae:=@List.length_singleton
def Af:=@PySem.Heap.get?_update_self
def Ag:=@PySem.wpAny_notOrdered_dict
def jJ:=@PySem.wpAny_ite
def u5:=@List.range_succ
def mL:=@True.intro
def jg:=@PyProof.Rows.wpS_pure
def Ah:=@List.mem_of_mem_drop
def tR:=@List.any_cons
def tU:=@PySem.wpAny_attempt
def Ig:=@List.perm_ext_iff_of_nodup
def xY:=@List.append_assoc
def xZ:=@Bool.eq_false_iff
def Nx:=@PySem.F.slot_tuple_iterator_next
def wF:=@PySem.wpAny_dictEpoch
def Ny:=@PyProof.Rows.slot_tuple_getitem
def Ih:=@List.drop_eq_getElem_cons
def Ea:=@List.length_filter_le
def yc:=@Nat.lt_succ_self
def Ai:=@List.pairwise_cons
def Nz:=@PySem.wpAny_typeNameOfWhole_itemiter
def u6:=@Nat.lt_irrefl
def Ii:=@PySem.SetTable.toList_insertAt
def wG:=@List.Perm.refl
def NK:=@PySem.wpAny_typeNameOfWhole_keyiter
def NP:=@PySem.F.slot_dict_itemiterator_next
def Eb:=@List.dropLast_concat
def Aj:=@PySem.wpAny_truthy_bool
def Ak:=@List.pairwise_map
def Ij:=@PySem.F.slot_dict_items
def Ik:=@PySem.F.type_dict_items
def NQ:=@PySem.F.slot_dict_keyiterator_next
def Ec:=@PySem.mem_of_lookup
def Ed:=@List.length_reverse
def u9:=@PySem.wpAny_typeOf
def vd:=@Nat.lt_trans
def NT:=@List.idxOf_lt_length_of_mem
def Il:=@List.take_of_length_le
def NZ:=@PySem.wpAny_richCompare_same_room
def wH:=@List.sum_cons
def Al:=@PySem.Around.in1_units
def Ef:=@PySem.wpAny_pyIter_tuple
def Eg:=@List.find?_eq_none
def Im:=@Array.getElem?_toList
def Am:=@PySem.wpAny_passesOwn
def Ao:=@Nat.not_lt_zero
def Aq:=@PySem.wpAny_specialOf
def Io:=@List.Pairwise.filter
def Eh:=@PySem.typeIs_bool
def N5:=@PySem.F.args_tuple_add_2
def N6:=@List.filterMap_cons_some
def N7:=@PySem.F.entry_tuple_add
def N8:=@List.length_eq_zero_iff
def Ar:=@List.nodup_nil
def Oa:=@List.mem_singleton_self
def T8:=@List.eq_nil_iff_forall_not_mem
def wI:=@PySem.wpAny_letGo
def Ob:=@PySem.F.slot_tuple_add
def yd:=@Nat.lt_or_ge
def Oc:=@Array.getElem?_eq_none
def Ip:=@List.filter_append
def Av:=@List.cons.inj
def Aw:=@PySem.wpAny_onRaise
def Od:=@PySem.F.slot_dict_get
def â:=@PySem.wpAny_callSpecialIfBoundUnlessNone?_slot
def Oe:=@PySem.F.slot_zip_next
def Ir:=@Nat.lt_succ_of_lt
def Iu:=@PySem.wpAny_storeSet_of
def Iw:=@PySem.wpAny_pyIter_slot
def ye:=@Nat.le_succ
def Og:=@List.length_dropLast
def Ei:=@PySem.wpAny_fieldsOf
def Oh:=@PySem.Obj.data_mapDictKeys
def Oi:=@List.getLast?_concat
def ã:=@Std.Legacy.Range.forIn_eq_forIn_range'
def Iz:=@List.lookup_cons
def IK:=@List.all_eq_true
def Ax:=@Nat.sub_zero
def T9:=@PySem.Calls.call_function_entry
def Oj:=@PySem.Heap.get?_update_ne
def Ol:=@List.getElem?_range
def Ua:=@List.length_filterMap_le
def IV:=@Option.map_some
def Om:=@PySem.W.callWith_K
def Oo:=@Array.forIn_toList
def ä:=@PySem.F.args_tuple_iterator_next_1
def Ub:=@PyProof.Rows.F.plain_set_update_loop
def Uc:=@PySem.F.slot_list_index
def Ud:=@PySem.F.type_list_index
def Ue:=@List.filter_cons_of_pos
def å:=@PySem.F.entry_tuple_iterator_next
def Ug:=@PySem.wpAny_pyNext_list_item
def Ej:=@PySem.codeAny_mono
def Oq:=@List.take_sublist
def Uh:=@PySem.Calls.callWith_builtin
def Ui:=@PySem.Heap.get?_update_other
def Ot:=@PySem.wpAny_pyIter_enum
def Ek:=@PyProof.Rows.wpS_forRange
def IW:=@PySem.wpAny_newTuple
def Ou:=@PySem.Heap.get?_push_ne
def Uj:=@Nat.lt_of_succ_lt_succ
def Ov:=@PySem.Heap.SameBut.refl
def Ja:=@PySem.isSubtype_stop
def El:=@PySem.call_meetsIn
def Uk:=@PySem.wpAny_isOneOf_itemiter
def Ul:=@PySem.wpAny_nextOf_list_item
def Em:=@Nat.sub_self
def æ:=@PySem.F.args_dict_itemiterator_next_1
def Um:=@PySem.F.slot_list_pop
def Uo:=@PySem.F.type_list_pop
def Ow:=@PySem.noFill_tuple_add
def Ox:=@PySem.F.plain_all_loop
def Oz:=@PySem.F.plain_any_loop
def OD:=@List.filter_cons
def OJ:=@PySem.wpAny_askSetting
def O1:=@PySem.wpAny_forIn_list
def O3:=@PySem.F.slot_bool_hash
def ç:=@PySem.F.entry_dict_itemiterator_next
def O4:=@beq_self_eq_true
def Jb:=@PySem.W.mg_of
def Jc:=@Bool.true_and
def Uq:=@List.pairwise_append
def è:=@PySem.F.entry_dict_keyiterator_next
def ê:=@List.eq_nil_of_length_eq_zero
def O5:=@PySem.wpAny_execs_nil
def O6:=@PySem.wpAny_updateSeq
def O7:=@PySem.size_of_entries
def O8:=@PySem.F.slot_zip_next
def ë:=@List.dropLast_concat_getLast
def Ur:=@List.filterMap_cons
def Us:=@PySem.W.plainGet_of
def Ut:=@List.filter_sublist
def Uu:=@List.flatMap_append
def ì:=@PySem.Calls.Name_function_global
def Uv:=@List.mem_filterMap
def Uw:=@List.filterMap_map
def En:=@PySem.call_meets
def í:=@PySem.wpAny_letOwnedTupleGo_enum
def Ux:=@of_decide_eq_false
def î:=@PySem.F.kt_typeCall_dict_1
def Uy:=@List.map_singleton
def Uz:=@List.sum_singleton
def ï:=@List.pairwise_iff_getElem
def ð:=@Classical.byContradiction
def ò:=@List.getLastD_eq_getLast?
def Jd:=@PySem.wpAny_of_eq
def UG:=@List.find?_append
def O9:=@PySem.wpAny_standAt
def ó:=@Option.isSome_iff_exists
def Pa:=@PySem.seq_tuple_add
def ô:=@PySem.wpAny_comprehension_free
def Pb:=@PySem.wpAny_handled
def õ:=@PySem.F.args_dict_init_2
def ö:=@List.find?_range_eq_some
def UJ:=@PySem.wpAny_execs_cons
def UL:=@Nat.min_le_right
def UW:=@PySem.Heap.size_update
def U4:=@List.ext_getElem
def U5:=@List.cons_append
def U6:=@PySem.Heap.IsList.push
def U7:=@Option.getD_some
def Je:=@beq_iff_eq
def Pg:=@Nat.le_of_eq
def Ph:=@PySem.concat_meets
def Pj:=@Nat.succ.inj
def U8:=@List.of_mem_zip
def U9:=@PyProof.Rows.get?_update_seq
def Va:=@PySem.wpAny_ret_mkInt
def Vb:=@PySem.isSubtype_type
def Vc:=@PySem.entryFor_alias
def Pk:=@PySem.wpAny_throw
def Vd:=@List.drop_zero
def Ve:=@PyProof.Rows.listUpdate_at
def Vf:=@PySem.wpAny_newList
def Vg:=@List.map_drop
def Vh:=@List.map_take
def Pn:=@PyProof.Rows.wpS_modify
def Pq:=@PyProof.Rows.size_push'
def Eo:=@PyProof.Rows.wpS_get
def Jf:=@PyProof.Rows.wpS_mono
open PySem PySem.Spec
abbrev aH:=PySem.W.Frag
abbrev bW:=Int×Int
def fV{α:Type}{l:List α}{i:Nat}{a:α}:l.getD i a=l[i]?.getD a:=List.getD_eq_getElem?_getD ..
namespace L2
open PyProof.Rows
abbrev Key:=Sum Int Str
def Jg:Key->Value->Bool
 |.inl k,v=>Value.isInt k v
 |.inr x,v=>Value.isStrOf x v
def a4U(w:World):Key->Int
 |.inl k=>hashInt k
 |.inr x=>hashStr w x
def iZ:∀{k:Key}{v:Value},Jg k v=true->(∃i t,k=Sum.inl i/\v=Value.int i t)\/(∃x t,k=Sum.inr x/\v=Value.str x t)
 |.inl i,v,h=>by
  obtain⟨t,e⟩:=Value.isInt_shape (k:=i) (v:=v) h
  exact .inl ⟨i,t,Z,e⟩
 |.inr x,v,h=>by
  obtain⟨t,e⟩:=Value.isStrOf_shape (x:=x) (v:=v) h
  exact .inr ⟨x,t,Z,e⟩
def YM(i:Int)(t:Tok):Jg (.inl i) (.int i t)=true:=by simp[Jg,Value.isInt]
def YQ(x:Str)(t:Tok):Jg (.inr x) (.str x t)=true:=by simp[Jg,Value.isStrOf]
def a2K(a b:Int):decide ((Sum.inl a:Key)=Sum.inl b)=(a==b):=by
 by_cases e:a=b
 ·subst e;simp
 ·have h:¬(Sum.inl a:Key)=Sum.inl b:=λq=>e (Sum.inl.inj q);rw[cW h];exact(wA.mpr e).symm
def a2L(a b:Str):decide ((Sum.inr a:Key)=Sum.inr b)=decide (a=b):=by
 by_cases e:a=b
 ·subst e;simp
 ·have h:¬(Sum.inr a:Key)=Sum.inr b:=λq=>e (Sum.inr.inj q);rw[cW h,cW e]
def a2M(a:Int)(b:Str):decide ((Sum.inl a:Key)=Sum.inr b)=false:=cW (λq=>nomatch q)
def a2N(a:Str)(b:Int):decide ((Sum.inr a:Key)=Sum.inl b)=false:=cW (λq=>nomatch q)
def dJ(prog:Program)(w:World):PySem.KeyKind prog w Key where
 is:=Jg
 hash:=a4U w
 inj:=λv a b ha hb=>by
  rcases iZ ha with⟨i,t,rfl,rfl⟩|⟨x,t,rfl,rfl⟩
  ·rcases iZ hb with⟨j,u,rfl,e⟩|⟨y,u,rfl,e⟩
   ·injection e with e1 _;rw[e1]
   ·exact nomatch e
  ·rcases iZ hb with⟨j,u,rfl,e⟩|⟨y,u,rfl,e⟩
   ·exact nomatch e
   ·injection e with e1 _;rw[e1]
 byValue:=λk v h=>by
  rcases iZ h with⟨i,t,rfl,rfl⟩|⟨x,t,rfl,rfl⟩<;>rfl
 pyHash:=λhv h=>by
  rcases iZ hv with⟨i,t,rfl,rfl⟩|⟨x,t,rfl,rfl⟩
  ·exact wpAny_pyHash_int h
  ·exact wpAny_pyHash_str h
 eqBool:=λhu hv h=>by
  rcases iZ hu with⟨i,t,rfl,rfl⟩|⟨x,t,rfl,rfl⟩
  ·rcases iZ hv with⟨j,u,rfl,rfl⟩|⟨y,u,rfl,rfl⟩
   ·rw[a2K]at h;exact wpAny_eqBool_int h
   ·rw[a2M]at h;exact SeqAt.EqAt.int_str i t y u _ _ _ _ h
  ·rcases iZ hv with⟨j,u,rfl,rfl⟩|⟨y,u,rfl,rfl⟩
   ·rw[a2N]at h;exact SeqAt.EqAt.str_int x t j u _ _ _ _ h
   ·rw[a2L]at h;exact wpAny_eqBool_str h
 «strs» := λk x t v h=>by
  rcases iZ h with⟨i,u,rfl,e⟩|⟨y,u,rfl,e⟩
  ·exact nomatch e
  ·injection e with e1 _
   subst e1
   cases v<;>rfl
def Vi(prog:Program)(w:World)(k:Key)(v:Value):(dJ prog w).is k v=Jg k v:=rfl
def Rg(prog:Program)(w:World)(i:Int)(t:Tok):(dJ prog w).is (.inl i) (.int i t)=true:=YM i t
def gD(prog:Program)(w:World)(x:Str)(t:Tok):(dJ prog w).is (.inr x) (.str x t)=true:=YQ x t
inductive V where
 |non|bl (b:Bool)|int (i:Int)|str (x:Str)|W9 (b:Array UInt8)|flt (b:UInt64)|ref (a:Addr)|ty (n:String)
 deriving DecidableEq
variable{pos p:Pos}{K:aH}{A:Around}{h h' base:Heap}{e tg c:Expr}{es:List Expr}{k t' n:Nat}{Z98:Model}{op:CmpOp}{ch fp:List Addr}{N:List Str}{body:List Stmt}{mA mg:Str->Option Value}{pl:Sem Bool}{kw:List (Str×Value)}
def cQ:V->Value->Prop
 |.non,u=>u=Value.none
 |.bl b,u=>u=Value.bool b
 |.int i,u=>∃t,u=Value.int i t
 |.str x,u=>∃t,u=Value.str x t
 |.W9 b,u=>∃t,u=Value.bytes b t
 |.flt b,u=>∃t,u=Value.float b t
 |.ref a,u=>u=Value.ref a
 |.ty n,u=>u=Value.type n
abbrev cP:List V->List Value->Prop:=Paired cQ
def cP.length{xs:List V}{us:List Value}(r:cP xs us):xs.length=us.length:=aM r
theorem cP.get:∀{xs:List V}{us:List Value}{i:Nat}{x:V},cP xs us->xs[i]?=some x->∃u,us[i]?=some u/\cQ x u
 |_,_,_,_,.nil,e=>by simp at e
 |_,_,0,_,.cons r _,e=>by simp at e;subst e;exact⟨_,Z,r⟩
 |_,_,i+1,x,.cons _ t,e=>by
  obtain⟨u,h1,h2⟩:=cP.get (i:=i) (x:=x) t (by simpa using e)
  exact⟨u,by simpa using h1,h2⟩
def cP.append{xs ys:List V}{us ws:List Value}(h:cP xs us)(s:cP ys ws):cP (xs++ys) (us++ws):=by
 induction h with
 |nil=>exact s
 |cons r _ ih=>exact .cons r ih
theorem cP.take:∀{xs:List V}{us:List Value} (n:Nat),cP xs us->cP (xs.take n) (us.take n)
 |_,_,0,_=>.nil
 |_,_,_+1,.nil=>.nil
 |_,_,n+1,.cons r t=>.cons r (cP.take n t)
theorem cP.drop:∀{xs:List V}{us:List Value} (n:Nat),cP xs us->cP (xs.drop n) (us.drop n)
 |_,_,0,r=>r
 |_,_,_+1,.nil=>.nil
 |_,_,n+1,.cons _ t=>cP.drop n t
def sX:Option V->Option Value->Prop
 |some v,some u=>cQ v u
 |none,none=>True
 |_,_=>False
def KV{κ:Type}:List (κ×V)->List (κ×Value)->Prop:=Paired λ(p:κ×V) (q:κ×Value)=>p.1=q.1/\cQ p.2 q.2
def kV:Key->V
 |.inl i=>.int i
 |.inr x=>.str x
inductive HO where
 |lst (xs:List V)
 |tup (xs:List V)
 |dK (J:List (Key×V))|dT (J:List (List Key×V))
 |set (S:Int->Bool) (n:Nat)
 |ins (C dx:Addr) (fs:List (Str×V))
 |own (x:Addr)
 |xd (fs:List (Str×V))
 |met (f x:Addr)
 |rng (lo hi:Int)
 |jq (o:Obj) (u:HO)
 |tbl (ps:Array Value)
 |ext (φ:Heap->Prop)
abbrev Hp:=Addr->Option HO
def cN(H:Hp)(a:Addr)(o:HO):Hp:=λb=>if b=a then some o else H b
def cY{H:Hp}{a:Addr}{o:HO}:cN H a o a=some o:=by unfold cN;rw[aF rfl]
def aU{H:Hp}{a b:Addr}{o:HO}(h:b≠a):cN H a o b=H b:=by unfold cN;rw[aq h]
def Xa{H:Hp}{a b:Addr}{o u:HO}(h:H a=some o)(h':H b=some u)(d:o≠u):a≠b:=by
 intro e;subst e;rw[h]at h';exact d (eO h')
def dM{H:Hp}{a b:Addr}{o:HO}(h:H a=some o)(h':H b=none):a≠b:=by
 intro e;subst e;rw[h]at h';cases h'
section
variable(P:Program)(w:World)
def fM(H:Hp)(h:Heap)(a:Addr):HO->Prop
 |.lst xs=>xs.length<=sizeLine/\∃(b7:List Value) (n:Nat),cP xs b7/\h.get? a=some { cls:=.type "list",data:=.seq b7.toArray n}
 |.tup xs=>xs.length<=sizeLine/\∃b7:List Value,cP xs b7/\IsTup h a b7.toArray
 |.dK J=>J.length<=sizeLine/\(a==sysModules)=false/\∃vs,KV J vs/\h.DictOf (dJ P w) a vs
 |.dT J=>J.length<=sizeLine/\(a==sysModules)=false/\∃xs:List (List Key×Addr×Value),
   Paired (λ(p:List Key×V) (q:List Key×Addr×Value)=>p.1=q.1/\H q.2.1=some (.tup (p.1.map kV))/\cQ p.2 q.2.2) J xs/\
   ∃o es ep,h.get? a=some o/\o.ExactDict/\o.data=.dict es ep/\es.toList=xs.map (entryOfKey (tupleKind (dJ P w)))/\(xs.map (·.1)).Nodup
 |.set S n=>h.SetOf (intKind P w) a S n
 |.ins C dx fs=>H dx=some (.own a)/\fs.length<=1000/\dx≠a/\h.get? a=some (PySem.W.instObj C dx)/\
   ∃mA,h.Ns1 dx mA/\(∀f,sX (fs.lookup f) (mA f))/\PySem.Within mA (fs.map (·.1))
 |.own _=>∃o,h.get? a=some o
 |.xd fs=>∃mA,h.Ns1 a mA/\∀f,sX (fs.lookup f) (mA f)
 |.rng lo hi=>∃t u v,h.get? a=some { cls:=.type "range",data:=.fields #[.int lo t,.int hi u,.int 1 v]}
 |.jq o u=>h.get? a=some o/\fM H h a u
 |.tbl ps=>h.get? a=some { cls:=.none,data:=.fields ps}
 |.met f x=>h.get? a=some (PySem.W.methodObj (.ref f) (.ref x))
 |.ext φ=>φ h/\(∃o,h.get? a=some o)/\∀h1 h2:Heap,φ h1->(∀o,h1.get? a=some o->h2.get? a=some o)->φ h2
def zO(H:Hp)(h:Heap):Prop:=∀a o,H a=some o->fM P w H h a o
end
section
variable{P:Program}{w:World}{H H':Hp}{a:Addr}{o:HO}
def fM.lt(x:fM P w H h a o):a<h.objs.size:=by
 cases o with
 |lst xs=>obtain⟨_,_,_,_,e⟩:=x;exact aX e
 |tup xs=>obtain⟨_,_,_,p⟩:=x;exact p.lt
 |dK J=>obtain⟨_,_,_,_,o,_,_,e,_⟩:=x;exact aX e
 |dT J=>obtain⟨_,_,_,_,o,_,_,e,_⟩:=x;exact aX e
 |set S n=>obtain⟨o,_,_,_,e,_⟩:=x;exact aX e
 |ins C dx fs=>obtain⟨_,_,_,e,_⟩:=x;exact aX e
 |own y=>obtain⟨_,e⟩:=x;exact aX e
 |xd fs=>obtain⟨_,⟨_,_,_,e,_⟩,_⟩:=x;exact aX e
 |rng lo hi=>obtain⟨_,_,_,e⟩:=x;exact aX e
 |jq ob u=>obtain⟨e,_⟩:=x;exact aX e
 |tbl ps=>exact aX (show h.get? a=some _ from x)
 |met f y=>exact aX (show h.get? a=some _ from x)
 |ext φ=>obtain⟨_,⟨_,e⟩,_⟩:=x;exact aX e
def Paired.cC{α β:Type}{F G:α->β->Prop}{l₁:List α}{l₂:List β}(h:Paired F l₁ l₂)(f:∀a b,F a b->G a b):Paired G l₁ l₂:=by
 induction h with
 |nil=>exact .nil
 |cons r _ ih=>exact .cons (f _ _ r) ih
def fM.stay(x:fM P w H h a o)(k:∀b u,(b=a\/H b=some (.own a))->h.get? b=some u->h'.get? b=some u)
  (ho:∀b,H b=some (.own a)->H' b=some (.own a)) (ht:∀b xs,H b=some (.tup xs)->H' b=some (.tup xs)):fM P w H' h' a o:=by
 induction o with
 |lst xs=>obtain⟨z,b7,n,r,e⟩:=x;exact⟨z,b7,n,r,k _ _ (.inl Z) e⟩
 |tup xs=>obtain⟨z,b7,r,ob,e,c⟩:=x;exact⟨z,b7,r,ob,k _ _ (.inl Z) e,c⟩
 |dK J=>obtain⟨z,y,vs,r,ob,es,ep,e,c⟩:=x;exact⟨z,y,vs,r,ob,es,ep,k _ _ (.inl Z) e,c⟩
 |dT J =>
  obtain⟨z,y,xs,r,ob,es,ep,e,c⟩:=x;exact⟨z,y,xs,Paired.cC r λp q z=>⟨z.1,ht _ _ z.2.1,z.2.2⟩,ob,es,ep,k _ _ (.inl Z) e,c⟩
 |set S n=>obtain⟨ob,es,ep,t,e,c⟩:=x;exact⟨ob,es,ep,t,k _ _ (.inl Z) e,c⟩
 |ins C dx fs =>
  obtain⟨d,z,ne,e,mA,⟨od,es,ep,e2,c⟩,r⟩:=x;exact⟨ho _ d,z,ne,k _ _ (.inl Z) e,mA,⟨od,es,ep,k _ _ (.inr d) e2,c⟩,r⟩
 |own y=>obtain⟨ob,e⟩:=x;exact⟨ob,k _ _ (.inl Z) e⟩
 |xd fs=>obtain⟨mA,⟨od,es,ep,e,c⟩,r⟩:=x;exact⟨mA,⟨od,es,ep,k _ _ (.inl Z) e,c⟩,r⟩
 |rng lo hi=>obtain⟨t,u,v,e⟩:=x;exact⟨t,u,v,k _ _ (.inl Z) e⟩
 |jq ob u ih=>obtain⟨e,q⟩:=x;exact⟨k _ _ (.inl Z) e,ih q⟩
 |tbl ps =>
  have e:h.get? a=some { cls:=.none,data:=.fields ps}:=x;show h'.get? a=some { cls:=.none,data:=.fields ps};exact k a _ (.inl Z) e
 |met f y =>
  have e:h.get? a=some (PySem.W.methodObj (.ref f) (.ref y)):=x;show h'.get? a=some (PySem.W.methodObj (.ref f) (.ref y));exact k a _ (.inl Z) e
 |ext φ=>obtain⟨p,⟨o,e⟩,st⟩:=x;exact⟨st _ _ p λo q=>k _ _ (.inl Z) q,⟨o,k _ _ (.inl Z) e⟩,st⟩
def zO.lt(x:zO P w H h)(e:H a=some o):a<h.objs.size:=(x a o e).lt
def zO.fresh(x:zO P w H h)(e:h.objs.size<=a):H a=none:=by
 cases q:H a with
 |none=>rfl
 |some u=>exact absurd (jC (x.lt q) e) (u6 _)
def zO.kept(x:zO P w H h)(k:∀b u,h.get? b=some u->h'.get? b=some u):zO P w H h':=λa o e =>
 (x a o e).stay (λb u _ q=>k b u q) (λ_ q=>q) λ_ _ q=>q
def zO.laid(x:zO P w H h)(k:∀b u,h.get? b=some u->h'.get? b=some u)(hp:h.objs.size<=a)(new:fM P w (cN H a o) h' a o):zO P w (cN H a o) h':=λb u e=>by
 have hn:=x.fresh hp;by_cases hb:b=a
 ·subst hb;rw[cY]at e;cases e;exact new
 ·rw[aU hb]at e;exact(x b u e).stay (λc v _ q=>k c v q) (λc q=>by rw[aU (dM q hn)];exact q) λc xs q=>by rw[aU (dM q hn)];exact q
end
def Rd(H:Hp)(a:Addr)(u:HO):Prop:=H a=some u\/∃o,H a=some (.jq o u)
def Rd.ok{P:Program}{w:World}{H:Hp}{a:Addr}{u:HO}(r:Rd H a u)(x:zO P w H h):fM P w H h a u:=by
 rcases r with r|⟨o,r⟩
 ·exact x a u r
 ·obtain⟨_,q⟩:=x a _ r;exact q
def Mut:Option HO->Prop
 |some (.lst _)=>True
 |some (.dK _)=>True
 |some (.dT _)=>True
 |some (.set _ _)=>True
 |some (.ins _ _ _)=>True
 |some (.ext _)=>True
 |_=>False
section
variable{P:Program}{w:World}{H:Hp}{x e:Addr}{o':HO}
def zO.write(ok:zO P w H h)(mu:Mut (H x))(he:e=x\/H e=some (.own x))(k:∀b u,b≠e->h.get? b=some u->h'.get? b=some u)(heo:∃u,h'.get? e=some u)
  (new:fM P w (cN H x o') h' x o'):zO P w (cN H x o') h':=λb u q=>by
 have a4V:∀c y,H c=some (.own y)->c≠x:=λc y r z=>by subst z;rw[r]at mu;exact mu
 have a2O:∀c xs,H c=some (.tup xs)->c≠x:=λc xs r z=>by subst z;rw[r]at mu;exact mu
 by_cases hb:b=x
 ·subst hb;rw[cY]at q;cases q;exact new
 ·rw[aU hb]at q;by_cases hbe:b=e
  ·have q':H b=some (.own x):=by
    rcases he with z|z
    ·exact absurd (hbe.trans z) hb
    ·rw[hbe];exact z
   rw[q]at q';cases q';obtain⟨v,hv⟩:=heo;exact⟨v,by rw[hbe];exact hv⟩
  ·refine(ok b u q).stay (λc v hc r=>k c v ?_ r) (λc r=>by rw[aU (a4V c b r)];exact r) λc xs r=>by rw[aU (a2O c xs r)];exact r
   rcases hc with rfl|hc
   ·exact hbe
   ·rintro rfl;rcases he with z|z
    ·exact a4V c b hc z
    ·rw[hc]at z;cases z;exact hb rfl
end
structure Un(fs ex:List Addr)(H H':Hp)(h h':Heap):Prop where
 keep:∀b o,h.get? b=some o->H b=none->b∉fs->b∉ex->h'.get? b=some o
 slot:∀b o,h.get? b=some o->H b=none->b∈fs->b∉ex->∃sl,h'.get? b=some { o with slots:=sl}
 free:∀b o,h.get? b=some o->H b=none->b∉ex->H' b=none
 there:∀b o,h.get? b=some o->b∉ex->∃o',h'.get? b=some o'
 tups:∀b xs,H b=some (.tup xs)->H' b=some (.tup xs)
 Jh:∀b o u,H b=some (.jq o u)->H' b=some (.jq o u)
 Pr:∀b ps,H b=some (.tbl ps)->∃more,H' b=some (.tbl (ps++more))
section
variable{fs fs' ex ex':List Addr}{H H1 H2:Hp}{h1 h2:Heap}{a x e:Addr}{o:HO}
def Un.any(u:Un fs ex H H1 h h1){b:Addr}{ob:Obj}(q:h.get? b=some ob)(n:H b=none)(hx:b∉ex):∃sl,h1.get? b=some { ob with slots:=sl}:=by
 by_cases hb:b∈fs
 ·exact u.slot b ob q n hb hx
 ·exact⟨ob.slots,u.keep b ob q n hb hx⟩
def Un.kept(k:∀b u,h.get? b=some u->h'.get? b=some u):Un fs ex H H h h' :=
 ⟨λb ob q _ _ _=>k b ob q,λb ob q _ _ _=>⟨ob.slots,k b ob q⟩,λ_ _ _ n _=>n,λb ob q _=>⟨ob,k b ob q⟩,λ_ _ q=>q,λ_ _ _ q=>q,λ_ ps q=>⟨#[],by rw[q];simp⟩⟩
def Un.refl:Un fs ex H H h h:=Un.kept λ_ _ q=>q
def Un.laid(k:∀b u,h.get? b=some u->h'.get? b=some u)(hp:h.objs.size<=a)(hn:H a=none):Un fs ex H (cN H a o) h h' where
 keep:=λb u q _ _ _=>k b u q
 slot:=λb u q _ _ _=>⟨u.slots,k b u q⟩
 free:=λb u q n _=>by rw[aU (bY (jC (aX q) hp))];exact n
 there:=λb u q _=>⟨u,k b u q⟩
 tups:=λb xs q=>by rw[aU (dM q hn)];exact q
 Jh:=λb u xs q=>by rw[aU (dM q hn)];exact q
 Pr:=λb ps q=>⟨#[],by rw[aU (dM q hn),q];simp⟩
def Un.write(mu:Mut (H x))(he:e=x\/H e=some (.own x))(k:∀b u,b≠e->h.get? b=some u->h'.get? b=some u)(heo:∃u,h'.get? e=some u):Un fs ex H (cN H x o) h h':=by
 have hx:∀b,H b=none->b≠x:=λb n z=>by subst z;rw[n]at mu;exact mu
 have hb:∀b,H b=none->b≠e:=λb n z=>by
  subst z;rcases he with r|r
  ·exact hx b n r
  ·rw[n]at r;cases r
 have hm:∀b u,H b=some u->¬Mut (some u)->b≠x:=λb u q nm z=>by subst z;rw[q]at mu;exact nm mu
 refine⟨λb u q n _ _=>k b u (hb b n) q,λb u q n _ _=>⟨u.slots,k b u (hb b n) q⟩,λb u q n _=>by rw[aU (hx b n)];exact n,λb u q _=>?_,
  λb xs q=>by rw[aU (hm b _ q λz=>z)];exact q,λb u xs q=>by rw[aU (hm b _ q λz=>z)];exact q,λb ps q=>⟨#[],by rw[aU (hm b _ q λz=>z),q];simp⟩⟩
 by_cases hbe:b=e
 ·subst hbe;exact heo
 ·exact⟨u,k b u hbe q⟩
end
def trk(h:Heap)(H:Hp):List Addr:=(List.range h.objs.size).filter λa=>(H a).isSome
def Pu(h:Heap)(H:Hp):Heap:=PySem.W.hideAll h (trk h H)
def YS(h:Heap)(H:Hp):(Pu h H).objs.size=h.objs.size:=PySem.W.hideAll_size _ _
def ø{H:Hp}{b:Addr}{o:Obj}(e:h.get? b=some o)(n:H b=none):(Pu h H).get? b=some o :=
 PySem.W.hideAll_get _ e λhm=>by
  have q:(H b).isSome=true:=(lF.mp hm).2;rw[n]at q;simp at q
def a0a{H:Hp}{b:Addr}{o:Obj}(e:(Pu h H).get? b=some o):h.get? b=some o/\H b=none:=by
 have e':h.get? b=some o:=PySem.W.of_hideAll (trk h H) e;refine⟨e',?_⟩;cases q:H b with
 |none=>rfl
 |some x =>
  have hm:b∈trk h H:=lF.mpr ⟨mJ.mpr (aX e'),by simp[q]⟩;have z:(Pu h H).get? b=none:=PySem.W.hideAll_none (trk h H) hm;rw[z]at e;cases e
structure Mod(K:aH)(mg:Str->Option Value)(base:Heap):Prop where
 kin:K.In base
 glob:base.Ns mainGlobals mg
 blt:∃mb,base.Ns builtinsNs mb/\∀x:Str,x≠ "__name__" ->mb x=bootBuiltins x
 nolimit:base.NoLimit
set_option genInjectivity false in
structure Cx where
 prog:Program
 w:World
 K:aH
 mg:Str->Option Value
 base:Heap
 A:Around
 N:List Str
 s₀:Shared
 H₀:Hp
 env:Env
 outer:List Env
 stack:List Env
 ex:List Addr
 fn:Str->Bool
 calm:Bool
 pn:List (Addr×Obj)
 xe:Value->Shared->Prop
def frs(l:List Env):List Addr:=l.filterMap (·.frame)
abbrev Cx.fs(X:Cx):List Addr:=frs X.outer
def Vis(sc:Scope)(x:Str):Prop:=sc.names.lookup x=some .local\/sc.names.lookup x=some .cell\/sc.names.lookup x=some .free
def Loc(sc:Scope)(x:Str):Prop:=sc.names.lookup x=some .local\/sc.names.lookup x=some .cell
def Look(env:Env)(h:Heap)(m:Str->Option Value)(x:Str)(u:Value):Prop :=
 (env.kindOf x=some .local/\m x=some u)\/((env.kindOf x=some .cell\/env.kindOf x=some .free)/\∃c,env.cells.lookup x=some c/\h.IsCell c (some u))
structure Cx.Ok(X:Cx):Prop where
 mod:Mod X.K X.mg X.base
 kind:X.env.scope.kind=.function
 glob:X.env.globals=mainGlobals
 blt:X.env.builtins=builtinsNs
 above:X.s₀.heap.objs.size<=X.env.locals
 inj:∀x y c,X.env.cells.lookup x=some c->X.env.cells.lookup y=some c->x=y
 has:∀x,(X.env.kindOf x=some .cell\/X.env.kindOf x=some .free)->∃c,X.env.cells.lookup x=some c
 cab:∀x c,X.fn x=true->X.env.cells.lookup x=some c->X.s₀.heap.objs.size<=c
 hd:X.calm=true->X.A.handled=none
 frames:X.A.frames=some X.stack
 stk:X.stack=X.outer\/(X.stack=X.env::X.outer/\X.env.frame=some X.env.locals)
 exf:∀b∈X.ex,b≠X.env.locals/\∀x c,X.env.cells.lookup x=some c->c≠b
 bs:∀b o,X.base.get? b=some o->X.s₀.heap.get? b=some o/\X.H₀ b=none
 bsz:X.base.objs.size<=X.s₀.heap.objs.size
 Vj:∀b o,X.base.get? b=some o->b∉X.ex
 YT:∀b∈X.ex,b∉X.fs
 BZ:X.s₀.heap.FunFrames X.base X.outer
 frf:∀b∈X.fs,X.H₀ b=none
structure bG(X:Cx)(Y:List (Addr×Obj))(σ:List (Option V))(H:Hp)(s:Shared):Prop where
 ok:X.Ok
 os:s.os=X.s₀.os
 bare:AllBare s.gens
 base:Un X.fs X.ex X.H₀ H X.s₀.heap s.heap
 loc:∃m,s.heap.Ns X.env.locals m/\∀(i:Nat) (x:Str) (v:V),X.N[i]?=some x->σ[i]?=some (some v)->Vis X.env.scope x->∃u,cQ v u/\Look X.env s.heap m x u
 cell:∀x c,X.env.cells.lookup x=some c->∃v,s.heap.IsCell c v
 free:H X.env.locals=none
 tV:∀x c,X.env.cells.lookup x=some c->H c=none
 pin:∀p∈X.pn++Y,s.heap.get? p.1=some p.2/\H p.1=none/\p.1≠X.env.locals/\p.1∉X.fs/\∀v,p.2.data≠.cell v
 hok:zO X.prog X.w H s.heap
 len:σ.length=X.N.length
section
variable{X:Cx}{Y:List (Addr×Obj)}{σ:List (Option V)}{H H':Hp}{s:Shared}
def Cx.Ok.a67(ok:X.Ok){b:Addr}{o:Obj}(e:X.base.get? b=some o):b∉X.fs:=λhb=>by
 have:=(ok.BZ.mem hb).1;rw[e]at this;cases this
def bG.bs(I:bG X Y σ H s):∀b o,X.base.get? b=some o->s.heap.get? b=some o/\H b=none:=λb o e =>
 ⟨I.base.keep b o (I.ok.bs b o e).1 (I.ok.bs b o e).2 (I.ok.a67 e) (I.ok.Vj b o e),I.base.free b o (I.ok.bs b o e).1 (I.ok.bs b o e).2 (I.ok.Vj b o e)⟩
def bG.bk(I:bG X Y σ H s):∀b o,X.base.get? b=some o->s.heap.get? b=some o:=λb o e=>(I.bs b o e).1
def bG.mod(I:bG X Y σ H s):Mod X.K X.mg X.base:=I.ok.mod
def bG.DR(I:bG X Y σ H s):X.K.In s.heap:=I.ok.mod.kin.keeps I.bk
def bG.lt(I:bG X Y σ H s):X.env.locals<s⁻¹:=let⟨_,hn,_⟩:=I.loc;hn.lt
def bG.sz(I:bG X Y σ H s):X.s₀.heap.objs.size<=s⁻¹:=dI I.ok.above (dU I.lt)
def bG.a4W(I:bG X Y σ H s){a:Addr}(h:s⁻¹<=a):a∉X.fs:=λhb=>by
 obtain⟨_,o,ho,_⟩:=I.ok.BZ.mem hb;exact absurd (jC (aX ho) (dI I.sz h)) (u6 _)
def bG.cne(I:bG X Y σ H s):∀x c,X.env.cells.lookup x=some c->c≠X.env.locals:=λx c e z=>by
 obtain⟨v,o,ho,hd⟩:=I.cell x c e;obtain⟨m,⟨o',es,ep,ho',hd',_⟩,_⟩:=I.loc;rw[z,ho']at ho;cases ho;rw[hd']at hd;cases hd
def bG.BZ(I:bG X Y σ H s):s.heap.FunFrames X.base X.outer:=by
 have all:∀(l:List Env),(∀b∈frs l,b∈X.fs)->X.s₀.heap.FunFrames X.base l->s.heap.FunFrames X.base l:=by
  intro l
  induction l with
  |nil=>intro _ _;trivial
  |cons env r ih =>
   intro hs hl;obtain⟨hk,⟨L,o,hf,hn,ho,hd⟩,hr⟩:=hl;have hL:L∈X.fs:=hs L (by unfold frs;rw[Ur,hf];exact aO);obtain⟨sl,e⟩:=I.base.slot L o ho (I.ok.frf L hL) hL λz=>I.ok.YT L z hL;exact⟨hk,⟨L,_,hf,hn,e,hd⟩,ih (λb hb=>hs b (by unfold frs;rw[Ur,hf];exact aY _ hb)) hr⟩
 exact all X.outer (λ_ hb=>hb) I.ok.BZ
def bG.stack(I:bG X Y σ H s):s.heap.FunFrames X.base X.stack:=by
 rcases I.ok.stk with e|⟨e,hf⟩
 ·rw[e];exact I.BZ
 ·rw[e];obtain⟨m,hn,_⟩:=I.loc;refine .cons (by rw[I.ok.kind];decide) hf hn ?_ I.BZ;exact Heap.get?_none_of_le (dI I.ok.bsz I.ok.above)
def bG.Ep(I:bG X Y σ H s):∀b∈frs X.stack,b∈X.env.locals::X.fs:=λb hb=>by
 rcases I.ok.stk with e|⟨e,hf⟩
 ·rw[e]at hb;exact aY _ hb
 ·rw[e]at hb;unfold frs at hb;rw[Ur,hf]at hb;exact hb
def bG.Xb(I:bG X Y σ H s):∀b∈frs X.stack,H b=none:=λb hb=>by
 rcases cB.mp (I.Ep b hb)with e|hb
 ·rw[e];exact I.free
 ·obtain⟨_,o,ho,_⟩:=I.ok.BZ.mem hb;exact I.base.free b o ho (I.ok.frf b hb) λz=>I.ok.YT b z hb
def bG.step{g':Array GenState}{d':Drawn}(I:bG X Y σ H s)
  (hch:∀b∈ch,(b∈X.ex\/X.s₀.heap.objs.size<=b)/\b≠X.env.locals/\(∀x c,X.env.cells.lookup x=some c->c≠b)/\∀p∈X.pn++Y,p.1≠b)
  (keep:∀b o,b≠X.env.locals->b∉X.fs->b∉ch->s.heap.get? b=some o->H b=none->h'.get? b=some o)
  (slot:∀b o,b≠X.env.locals->b∈X.fs->b∉ch->s.heap.get? b=some o->H b=none->∃sl,h'.get? b=some { o with slots:=sl}) (free:∀b o,b∉ch->s.heap.get? b=some o->H b=none->H' b=none)
  (there:∀b o,b∉ch->s.heap.get? b=some o->∃o',h'.get? b=some o')
  (tups:∀b xs,H b=some (.tup xs)->H' b=some (.tup xs)) (Jh:∀b o u,H b=some (.jq o u)->H' b=some (.jq o u)) (Pr:∀b ps,H b=some (.tbl ps)->∃more,H' b=some (.tbl (ps++more)))
  (ns:∀m,s.heap.Ns X.env.locals m->h'.Ns X.env.locals m) (hok:zO X.prog X.w H' h') (hg:AllBare g') :
  bG X Y σ H' { s with heap:=h',gens:=g',drawn:=d',toks:=t'}:=by
 have neL:∀b o,X.s₀.heap.get? b=some o->b≠X.env.locals:=λb o e=>bY (jC (aX e) I.ok.above);have neC:∀b o,X.s₀.heap.get? b=some o->b∉X.ex->b∉ch:=λb o e hx hb=>by
  rcases(hch b hb).1 with z|z
  ·exact hx z
  ·exact absurd (jC (aX e) z) (u6 _)
 have cellK:∀x c,X.env.cells.lookup x=some c->∀v,s.heap.IsCell c v->h'.IsCell c v:=λx c e v ⟨o,ho,hd⟩=>by
  have nch:c∉ch:=λz=>(hch c z).2.2.1 x c e rfl;by_cases hc:c∈X.fs
  ·obtain⟨sl,q⟩:=slot c o (I.cne x c e) hc nch ho (I.tV x c e);exact⟨_,q,hd⟩
  ·exact⟨o,keep c o (I.cne x c e) hc nch ho (I.tV x c e),hd⟩
 refine⟨I.ok,I.os,hg,⟨λb o e n hb hx=>?_,λb o e n hb hx=>?_,λb o e n hx=>?_,λb o e hx=>?_,λb xs e=>tups b xs (I.base.tups b xs e),λb o xs e=>Jh b o xs (I.base.Jh b o xs e),λb ps e=>?_⟩,?_,λx c e=>?_,?_,λx c e=>?_,λp hp=>?_,hok,I.len⟩
 ·exact keep b o (neL b o e) hb (neC b o e hx) (I.base.keep b o e n hb hx) (I.base.free b o e n hx)
 ·obtain⟨sl,e1⟩:=I.base.slot b o e n hb hx;obtain⟨sl',e2⟩:=slot b _ (neL b o e) hb (neC b o e hx) e1 (I.base.free b o e n hx);exact⟨sl',e2⟩
 ·obtain⟨o',e1⟩:=I.base.there b o e hx;exact free b o' (neC b o e hx) e1 (I.base.free b o e n hx)
 ·obtain⟨o',e1⟩:=I.base.there b o e hx;exact there b o' (neC b o e hx) e1
 ·obtain⟨m1,e1⟩:=I.base.Pr b ps e;obtain⟨m2,e2⟩:=Pr b _ e1;exact⟨m1++m2,by rw[e2,Array.append_assoc]⟩
 ·obtain⟨m,hn,hl⟩:=I.loc;refine⟨m,ns m hn,λi x v e1 e2 e3=>?_⟩;obtain⟨u,r,l⟩:=hl i x v e1 e2 e3;refine⟨u,r,?_⟩;rcases l with l|⟨k,c,e,z⟩
  ·exact .inl l
  ·exact .inr ⟨k,c,e,cellK x c e _ z⟩
 ·obtain⟨v,z⟩:=I.cell x c e;exact⟨v,cellK x c e v z⟩
 ·obtain⟨m,⟨o,_,_,ho,_⟩,_⟩:=I.loc;exact free _ o (λz=>(hch _ z).2.1 Z) ho I.free
 ·obtain⟨v,o,ho,hd⟩:=I.cell x c e;exact free c o (λz=>(hch c z).2.2.1 x c e Z) ho (I.tV x c e)
 ·obtain⟨e,n,ne,nf,d⟩:=I.pin p hp;have nch:p.1∉ch:=λz=>(hch p.1 z).2.2.2 p hp rfl;exact⟨keep p.1 p.2 ne nf nch e n,free p.1 p.2 nch e n,ne,nf,d⟩
def bG.un(I:bG X Y σ H s)(u:Un X.fs [] H H' s.heap h')(hok:zO X.prog X.w H' h'):bG X Y σ H' { s with heap:=h',toks:=t'}:=by
 obtain⟨m,⟨o,es,ep,ho,r⟩,_⟩:=id I.loc;obtain⟨sl,hL⟩:=u.any ho I.free (by simp);exact I.step (g':=s.gens) (d':=s.drawn) (ch:=[]) (λ_ z=>nomatch z) (λb o _ hb _ e n=>u.keep b o e n hb (by simp)) (λb o _ hb _ e n=>u.slot b o e n hb (by simp)) (λb o _ e n=>u.free b o e n (by simp)) (λb o _ e=>u.there b o e (by simp)) u.tups u.Jh u.Pr (λm' hm=>by
  obtain⟨o',es',ep',ho',r'⟩:=hm;rw[ho]at ho';cases ho';exact⟨_,es',ep',hL,r'⟩) hok I.bare
def bG.call{g':Array GenState}{d':Drawn}(I:bG X Y σ H s)(u:Un (frs X.stack) ch H H' s.heap h')(hok:zO X.prog X.w H' h')(hg:AllBare g')
  (hch:∀b∈ch,(b∈X.ex\/X.s₀.heap.objs.size<=b)/\b≠X.env.locals/\(∀x c,X.env.cells.lookup x=some c->c≠b)/\∀p∈X.pn++Y,p.1≠b) :
  bG X Y σ H' { s with heap:=h',gens:=g',drawn:=d',toks:=t'}:=by
 obtain⟨m,⟨o,es,ep,ho,r⟩,_⟩:=id I.loc;obtain⟨sl,hL⟩:=u.any ho I.free λz=>(hch _ z).2.1 rfl;exact I.step (ch:=ch) hch (λb o hL hb hc e n=>u.keep b o e n (λz=>(cB.mp (I.Ep b z)).elim hL hb) hc) (λb o _ _ hc e n=>u.any e n hc) (λb o hc e n=>u.free b o e n hc) (λb o hc e=>u.there b o e hc) u.tups u.Jh u.Pr (λm' hm=>by
  obtain⟨o',es',ep',ho',r'⟩:=hm;rw[ho]at ho';cases ho';exact⟨_,es',ep',hL,r'⟩) hok hg
def bG.turned{it:Addr}(I:bG X Y σ H s)(k:∀b o,b≠it->s.heap.get? b=some o->h'.get? b=some o)(hn:H it=none)(hL:it≠X.env.locals)
  (h1:it∈X.ex\/X.s₀.heap.objs.size<=it) (h2:∀x c,X.env.cells.lookup x=some c->c≠it) (h3:∀p∈X.pn++Y,p.1≠it):bG X Y σ H { s with heap:=h',toks:=t'}:=by
 have nit:∀b u,H b=some u->b≠it:=λb u e z=>by rw[z,hn]at e;cases e
 refine I.step (g':=s.gens) (d':=s.drawn) (ch:=[it]) (λb hb=>?_) (λb o _ _ hc e _=>k b o (λz=>hc (by simp[z])) e) (λb o _ _ hc e _=>⟨o.slots,k b o (λz=>hc (by simp[z])) e⟩) (λ_ _ _ _ n=>n)
  (λb o hc e=>⟨o,k b o (λz=>hc (by simp[z])) e⟩) (λ_ _ e=>e) (λ_ _ _ e=>e) (λb ps e=>⟨#[],by rw[e];simp⟩) (λm hm=>?_) (λb u e=>?_) I.bare
 ·have e:b=it:=by simpa using hb
  subst e;exact⟨h1,hL,h2,h3⟩
 ·obtain⟨o,es,ep,ho,r⟩:=hm;exact⟨o,es,ep,k _ o (Ne.symm hL) ho,r⟩
 ·refine(I.hok b u e).stay (λc v hc q=>k c v ?_ q) (λ_ q=>q) λ_ _ q=>q;rcases hc with z|z
  ·rw[z];exact nit b u e
  ·exact nit c _ z
def bG.tok(I:bG X Y σ H s)(t:Nat):bG X Y σ H { s with toks:=t}:=I.un (h':=s.heap) (t':=t) Un.refl I.hok
def bG.kept{t':Nat}(I:bG X Y σ H s)(k:∀b u,s.heap.get? b=some u->h'.get? b=some u):bG X Y σ H { s with heap:=h',toks:=t'}:=I.un (Un.kept k) (I.hok.kept k)
def bG.laid{a:Addr}{o:HO}{t':Nat}(I:bG X Y σ H s)(k:∀b u,s.heap.get? b=some u->h'.get? b=some u)(hp:s⁻¹<=a)(new:fM X.prog X.w (cN H a o) h' a o) :
  bG X Y σ (cN H a o) { s with heap:=h',toks:=t'}:=I.un (Un.laid k hp (I.hok.fresh hp)) (I.hok.laid k hp new)
def bG.write{x e:Addr}{o:HO}{t':Nat}(I:bG X Y σ H s)(mu:Mut (H x))(he:e=x\/H e=some (.own x))(k:∀b u,b≠e->s.heap.get? b=some u->h'.get? b=some u)(heo:∃u,h'.get? e=some u)
  (new:fM X.prog X.w (cN H x o) h' x o):bG X Y σ (cN H x o) { s with heap:=h',toks:=t'}:=I.un (Un.write mu he k heo) (I.hok.write mu he k heo new)
def bG.Hj{a2k:List (Addr×Obj)}(I:bG X Y σ H s)(h:∀p∈a2k,s.heap.get? p.1=some p.2/\H p.1=none/\p.1≠X.env.locals/\p.1∉X.fs/\∀v,p.2.data≠.cell v):bG X a2k σ H s :=
 ⟨I.ok,I.os,I.bare,I.base,I.loc,I.cell,I.free,I.tV,λp hp=>(cJ.mp hp).elim (λz=>I.pin p (rW _ z)) (h p),I.hok,I.len⟩
def Rh(hN:N.Nodup){i j:Nat}{x:Str}(a:N[i]?=some x)(b:N[j]?=some x):i=j:=by
 obtain⟨h1,e1⟩:=fu.mp a;obtain⟨h2,e2⟩:=fu.mp b;exact(List.getElem_inj hN).mp (e1.trans e2.symm)
def Mp{E:Value->Shared->Prop}{i:Nat}{x:Str}{v:V}{u:Value}{Q:Unit->Shared->Prop}(I:bG X Y σ H s)(hN:X.N.Nodup)(hi:X.N[i]?=some x)(hx:Loc X.env.scope x)(r:cQ v u)
  (h:∀s',bG X Y (σ.set i (some v)) H s'->(∃a,Heap.SameBut a s.heap s'.heap/\(a=X.env.locals\/X.env.cells.lookup x=some a))->Q ⟨⟩ s') (hf:X.fn x=true\/X.env.scope.names.lookup x=some .local:=by first|exact .inl rfl|exact .inr rfl|assumption):wpAny Z98 A (storeName X.env x u) Q E s:=by
 obtain⟨m,hn,hl⟩:=id I.loc;have hcls:(X.env.scope.kind==.class||(X.env.scope.kind==.module&&X.env.locals != X.env.globals))=false:=by rw[I.ok.kind];rfl
 have a4X:i<σ.length:=by rw[I.len];exact(fu.mp hi).1
 have cne:=I.cne;have tracked:∀{a:Addr}{h':Heap},(∃o,s.heap.get? a=some o/\H a=none)->Heap.SameBut a s.heap h'->zO X.prog X.w H h':=λ{a h'} ha hs b ob e=>by
  obtain⟨_,_,hfree⟩:=ha;refine(I.hok b ob e).stay (λc w' hc q=>(hs.2 c ?_).trans q) (λ_ q=>q) λ_ _ q=>q;rintro rfl;rcases hc with rfl|hc
  ·rw[hfree]at e;cases e
  ·rw[hfree]at hc;cases hc
 rcases hx with hk|hk
 ·refine wpAny_storeName_local hk hn (λh' hn' hs=>?_) hcls;obtain⟨oL,_,_,hoL,_⟩:=id hn;refine h _ ⟨I.ok,I.os,I.bare,⟨λb o e n hb hx=>?_,λb o e n hb hx=>?_,I.base.free,λb o e hx=>?_,I.base.tups,I.base.Jh,I.base.Pr⟩,⟨_,hn',λj y v' e1 e2 e3=>?_⟩,λy c e=>?_,I.free,I.tV,λp hp=>?_,tracked ⟨oL,hoL,I.free⟩ hs,by simpa using I.len⟩ ⟨_,hs,.inl Z⟩
  ·exact(hs.2 b (bY (jC (aX e) I.ok.above))).trans (I.base.keep b o e n hb hx)
  ·obtain⟨sl,e1⟩:=I.base.slot b o e n hb hx;exact⟨sl,(hs.2 b (bY (jC (aX e) I.ok.above))).trans e1⟩
  ·obtain⟨o',e1⟩:=I.base.there b o e hx;exact⟨o',(hs.2 b (bY (jC (aX e) I.ok.above))).trans e1⟩
  ·by_cases hj:j=i
   ·subst hj;rw[hi]at e1;cases e1;rw[List.getElem?_set_self a4X]at e2;cases e2;exact⟨u,r,.inl ⟨hk,by simp⟩⟩
   ·rw[List.getElem?_set_ne (Ne.symm hj)]at e2;obtain⟨u',r',q⟩:=hl j y v' e1 e2 e3;refine⟨u',r',?_⟩;rcases q with⟨k,e⟩|⟨k,c,e,z⟩
    ·refine .inl ⟨k,?_⟩;have:y≠x:=λe=>hj (Rh hN e1 (e▸hi));simp[this,e]
    ·exact .inr ⟨k,c,e,z.sameBut hs (cne y c e)⟩
  ·obtain⟨w',z⟩:=I.cell y c e;exact⟨w',z.sameBut hs (cne y c e)⟩
  ·obtain⟨e,n,ne,nf,d⟩:=I.pin p hp;exact⟨(hs.2 p.1 ne).trans e,n,ne,nf,d⟩
 ·have hfn:X.fn x=true:=by
   rcases hf with z|z
   ·exact z
   ·rw[z]at hk;cases hk
  obtain⟨c,hc⟩:=I.ok.has x (.inl hk);obtain⟨w',z⟩:=I.cell x c hc;refine wpAny_storeName_cell I.ok.kind hk hc z (λh' hc' hs=>?_);obtain⟨oc,hoc,a68⟩:=id z;refine h { s with heap:=h'} ⟨I.ok,I.os,I.bare,⟨λb o e n hb hx=>?_,λb o e n hb hx=>?_,I.base.free,λb o e hx=>?_,I.base.tups,I.base.Jh,I.base.Pr⟩,⟨m,hn.sameBut hs (Ne.symm (cne x c hc)),λj y v' e1 e2 e3=>?_⟩,λy c' e=>?_,I.free,I.tV,λp hp=>?_,tracked ⟨oc,hoc,I.tV x c hc⟩ hs,by simpa using I.len⟩ ⟨c,hs,.inr hc⟩
  ·exact(hs.2 b (bY (jC (aX e) (I.ok.cab x c hfn hc)))).trans (I.base.keep b o e n hb hx)
  ·obtain⟨sl,e1⟩:=I.base.slot b o e n hb hx;exact⟨sl,(hs.2 b (bY (jC (aX e) (I.ok.cab x c hfn hc)))).trans e1⟩
  ·obtain⟨o',e1⟩:=I.base.there b o e hx;exact⟨o',(hs.2 b (bY (jC (aX e) (I.ok.cab x c hfn hc)))).trans e1⟩
  ·by_cases hj:j=i
   ·subst hj;rw[hi]at e1;cases e1;rw[List.getElem?_set_self a4X]at e2;cases e2;exact⟨u,r,.inr ⟨.inl hk,c,hc,hc'⟩⟩
   ·rw[List.getElem?_set_ne (Ne.symm hj)]at e2;obtain⟨u',r',q⟩:=hl j y v' e1 e2 e3;refine⟨u',r',?_⟩;rcases q with q|⟨k,c',e,z'⟩
    ·exact .inl q
    ·refine .inr ⟨k,c',e,z'.sameBut hs ?_⟩;rintro rfl;exact hj (Rh hN e1 (I.ok.inj _ _ _ e hc▸hi))
  ·by_cases hcc:c'=c
   ·subst hcc;exact⟨_,hc'⟩
   ·obtain⟨w2,z2⟩:=I.cell y c' e;exact⟨w2,z2.sameBut hs hcc⟩
  ·obtain⟨e,n,ne,nf,d⟩:=I.pin p hp;refine⟨(hs.2 p.1 ?_).trans e,n,ne,nf,d⟩;intro q;rw[q,hoc]at e;have q':oc=p.2:=eO e;exact d w' (by rw[<-q'];exact a68)
def Ri{E:Value->Shared->Prop}{i:Nat}{x:Str}{v:V}{u:Value}{Q:Unit->Shared->Prop}(I:bG X Y σ H s)(hN:X.N.Nodup)(hi:X.N[i]?=some x)(hx:Loc X.env.scope x)(r:cQ v u)
  (h:∀s',bG X Y (σ.set i (some v)) H s'->Q ⟨⟩ s') (hf:X.fn x=true\/X.env.scope.names.lookup x=some .local:=by first|exact .inl rfl|exact .inr rfl|assumption):wpAny Z98 A (storeName X.env x u) Q E s :=
 Mp I hN hi hx r (λs' I' _=>h s' I') hf
def bG.call'{s':Shared}(I:bG X Y σ H s)(ho:s'.os=s.os)(u:Un (frs X.stack) ch H H' s.heap s'.heap)(hok:zO X.prog X.w H' s'.heap)(hg:AllBare s'.gens)
  (hch:∀b∈ch,(b∈X.ex\/X.s₀.heap.objs.size<=b)/\b≠X.env.locals/\(∀x c,X.env.cells.lookup x=some c->c≠b)/\∀p∈X.pn++Y,p.1≠b):bG X Y σ H' s':=by
 obtain⟨h',g',d',t',o'⟩:=s';have e:o'=s.os:=ho;subst e;exact I.call (g':=g') (t':=t') (d':=d') u hok hg hch
end
abbrev XK:=Value->Option Addr->Hp->Prop
abbrev St:=List (Option V)
abbrev VK:=V->Hp->Prop
abbrev TE:=St->Hp->VK->Prop
variable{ta te:TE}
abbrev TT:=St->Hp->(Bool->Hp->Prop)->Prop
abbrev TA:=St->Hp->(List V->Hp->Prop)->Prop
structure Ends where
 nx:St->Hp->Prop
 rt:VK
 bk:St->Hp->Prop:=λ_ _=>False
 ct:St->Hp->Prop:=λ_ _=>False
variable{D:Ends}
abbrev TS:=Ends->St->Hp->Prop
variable{tb:TS}
inductive EP(X:Cx)(Y:List (Addr×Obj))(σ:St)(Q:VK)(u:Value)(s':Shared):Prop
 |mk (v H':_) (_:bG X Y σ H' s') (_:cQ v u) (_:Q v H')
def TP(X:Cx)(Y:List (Addr×Obj))(σ:St)(Q:Bool->Hp->Prop)(b:Bool)(s':Shared):Prop:=∃H',bG X Y σ H' s'/\Q b H'
inductive AP(X:Cx)(Y:List (Addr×Obj))(σ:St)(Q:List V->Hp->Prop)(us:List Value)(s':Shared):Prop
 |mk (vs H':_) (_:bG X Y σ H' s') (_:cP vs us) (_:Q vs H')
def SP(X:Cx)(Y:List (Addr×Obj))(D:Ends)(f:Flow)(s':Shared):Prop :=
 match f with
 |.next=>∃σ' H',bG X Y σ' H' s'/\D.nx σ' H'
 |.brk=>∃σ' H',bG X Y σ' H' s'/\D.bk σ' H'
 |.cont=>∃σ' H',bG X Y σ' H' s'/\D.ct σ' H'
 |.ret u=>∃v σ' H',bG X Y σ' H' s'/\cQ v u/\D.rt v H'
def PE(X:Cx)(e:Expr)(t:TE):Prop :=
 ∀(Y:List (Addr×Obj)) (s:Shared) (σ:St) (H:Hp) (Q:VK),bG X Y σ H s->t σ H Q->wpAny (model X.prog X.w) X.A (eval e X.env) (EP X Y σ Q) X.xe s
def PT(X:Cx)(e:Expr)(t:TT):Prop :=
 ∀(Y:List (Addr×Obj)) (s:Shared) (σ:St) (H:Hp) (Q:Bool->Hp->Prop),bG X Y σ H s->t σ H Q->wpAny (model X.prog X.w) X.A (isTrue e X.env (eval e X.env)) (TP X Y σ Q) X.xe s
def PW(X:Cx)(e:Expr)(t:TT):Prop :=
 ∀(whole:Sem Value) (Y:List (Addr×Obj)) (s:Shared) (σ:St) (H:Hp) (Q:Bool->Hp->Prop),bG X Y σ H s->t σ H Q->wpAny (model X.prog X.w) X.A (isTrue e X.env whole) (TP X Y σ Q) X.xe s
def PW.pt{X:Cx}{t:TT}(h:PW X e t):PT X e t:=h _
def PA(X:Cx)(es:List Expr)(t:TA):Prop :=
 ∀(pos:Pos) (Y:List (Addr×Obj)) (s:Shared) (σ:St) (H:Hp) (Q:List V->Hp->Prop),bG X Y σ H s->t σ H Q->wpAny (model X.prog X.w) X.A (spliced (backTo pos (starEach es X.env))) (AP X Y σ Q) X.xe s
def PS(X:Cx)(st:Stmt)(t:TS):Prop :=
 ∀(Y:List (Addr×Obj)) (s:Shared) (σ:St) (H:Hp) (D:Ends),bG X Y σ H s->t D σ H->wpAny (model X.prog X.w) X.A (exec st X.env) (SP X Y D) X.xe s
def Rj(X:Cx)(st:List Stmt)(t:TS):Prop :=
 ∀(Y:List (Addr×Obj)) (s:Shared) (σ:St) (H:Hp) (D:Ends),bG X Y σ H s->t D σ H->wpAny (model X.prog X.w) X.A (execs st X.env) (SP X Y D) X.xe s
def jr{α:Type}{t:Sem α}{Q Q':α->Shared->Prop}{E:Value->Shared->Prop}{s:Shared}(h:wpAny Z98 A t Q E s)(hQ:∀a s,Q a s->Q' a s):wpAny Z98 A t Q' E s:=iH h hQ λ_ _ x=>x
section
variable{X:Cx}
inductive EA{α:Type}(P Q:α->Prop):Prop
 |mk (v:α) (p:P v) (q:Q v)
inductive EC{α:Type}(P R Q:α->Prop):Prop
 |mk (v:α) (p:P v) (r:R v) (q:Q v)
inductive ù(i:Nat)(σ:St)(H:Hp)(Q:VK):Prop
 |mk (v:_) (_:σ[i]?=some (some v)) (_:Q v H)
def tC(v:V):TE:=λ_ H Q=>Q v H
def a2P{i:Nat}{x:Str}(hN:X.N[i]?=some x)(hv:Vis X.env.scope x)(hd:(x==("__debug__" : Str))=false:=by decide)(hcd:(x==("__classdict__" : Str))=false:=by decide):PE X (.Name x pos) (ù i):=by
 intro Y s σ H Q I h;obtain⟨v,e,h⟩:=h;obtain⟨m,hn,hl⟩:=I.loc;obtain⟨u,r,l⟩:=hl i x v hN e hv;have fin:EP X Y σ Q u s:=⟨v,H,I,r,h⟩;rcases l with⟨hk,hm⟩|⟨hk,c,hc,hcell⟩
 ·exact wpAny_Name (wpAny_loadName_local I.ok.kind hk hn hm fin) hd
 ·rcases hk with hk|hk
  ·exact wpAny_Name (wpAny_loadName_cell I.ok.kind hk hc hcell fin) hd
  ·exact wpAny_Name (wpAny_loadName_free I.ok.kind hk hc hcell fin hcd) hd
def aA{i j pos}:PE X (.Constant (.int i) j pos) (tC (.int i)):=λ_ _ _ H _ I h=>wpAny_Constant_int ⟨.int i,H,I.tok _,⟨_,Z⟩,h⟩
def w6{b j pos}:PE X (.Constant (.bool b) j pos) (tC (.bl b)):=λ_ _ _ H _ I h=>Constant_bool ⟨.bl b,H,I,Z,h⟩
def sy{j pos}:PE X (.Constant .none j pos) (tC .non):=λ_ _ _ H _ I h=>Constant_none ⟨.non,H,I,Z,h⟩
def gq{x j pos}:PE X (.Constant (.str x) j pos) (tC (.str x)):=λ_ _ _ H _ I h=>Calls.Constant_str ⟨.str x,H,I.tok _,⟨_,Z⟩,h⟩
def Gl(X:Cx)(x:Str):Prop:=X.env.kindOf x=some .globalImplicit
def Ca{E:Value->Shared->Prop}{Y:List (Addr×Obj)}{s:Shared}{σ:St}{H:Hp}{x:Str}{u:Value}{Q:Value->Shared->Prop}(I:bG X Y σ H s)(hg:Gl X x)(hm:X.mg x=some u)(h:Q u s)
  (hd:(x==("__debug__" : Str))=false:=by decide):wpAny (model X.prog X.w) X.A (eval (.Name x pos) X.env) Q E s :=
 ì I.ok.kind hg (Calls.loadGlobal_global (by rw[I.ok.glob];exact I.mod.glob.keeps I.bk) hm h) hd
def tW{E:Value->Shared->Prop}{Y:List (Addr×Obj)}{s:Shared}{σ:St}{H:Hp}{x:Str}{u:Value}{Q:Value->Shared->Prop}(I:bG X Y σ H s)(hg:Gl X x)(hm:X.mg x=none)(hv:bootBuiltins x=some u)(h:Q u s)
  (hn:x≠ "__name__" := by decide) (hd:(x==("__debug__" : Str))=false:=by decide):wpAny (model X.prog X.w) X.A (eval (.Name x pos) X.env) Q E s:=by
 obtain⟨mb,h1,h2⟩:=I.mod.blt;exact ì I.ok.kind hg (Calls.loadGlobal_builtin (by rw[I.ok.glob];exact I.mod.glob.keeps I.bk) hm (by rw[I.ok.blt];exact h1.keeps I.bk) ((h2 x hn).trans hv) h) hd
def Px{x:Str}{v:V}{u:Value}(hg:Gl X x)(hm:X.mg x=some u)(r:cQ v u)(hd:(x==("__debug__" : Str))=false:=by decide):PE X (.Name x pos) (tC v) :=
 λ_ _ _ H _ I h=>Ca I hg hm ⟨v,H,I,r,h⟩ hd
def uJ{x:Str}{v:V}{u:Value}(hg:Gl X x)(hm:X.mg x=none)(hv:bootBuiltins x=some u)(r:cQ v u)(hn:x≠ "__name__" := by decide)(hd:(x==("__debug__" : Str))=false:=by decide):PE X (.Name x pos) (tC v) :=
 λ_ _ _ H _ I h=>tW I hg hm hv ⟨v,H,I,r,h⟩ hn hd
variable{a b:Expr}{tb:TE}
variable{tA tB':TT}{rest:List Expr}
def a4Y(t u:TT):TT:=λσ H Q=>t σ H λc H1=>if c=true then u σ H1 Q else Q false H1
def tOr(t u:TT):TT:=λσ H Q=>t σ H λc H1=>if c=true then Q true H1 else u σ H1 Q
def a69(t:TT):TT:=λσ H Q=>t σ H λc H1=>Q (!c) H1
def uK(ha:PT X a tA):PW X (.BoolOp .And [a] pos) tA:=by
 intro wh Y s σ H Q I h;refine isTrue_and (jr (ha Y s σ H Q I h) λc s1 e=>?_);cases c with
 |true=>exact isTrue_and_nil e
 |false=>exact e
def Er(ha:PT X a tA):PW X (.BoolOp .Or [a] pos) tA:=by
 intro wh Y s σ H Q I h;refine isTrue_or (jr (ha Y s σ H Q I h) λc s1 e=>?_);cases c with
 |false=>exact isTrue_or_nil e
 |true=>exact e
def tX(ha:PT X a tA)(hb:PW X (.BoolOp .And (b::rest) pos) tB'):PW X (.BoolOp .And (a::b::rest) pos) (a4Y tA tB'):=by
 intro wh Y s σ H Q I h;refine isTrue_and (jr (ha Y s σ H _ I h) λc s1 ⟨H1,I1,q1⟩=>?_);cases c with
 |true=>exact hb wh Y s1 σ H1 Q I1 q1
 |false=>exact⟨H1,I1,q1⟩
def FT(ha:PT X a tA)(hb:PW X (.BoolOp .Or (b::rest) pos) tB'):PW X (.BoolOp .Or (a::b::rest) pos) (tOr tA tB'):=by
 intro wh Y s σ H Q I h;refine isTrue_or (jr (ha Y s σ H _ I h) λc s1 ⟨H1,I1,q1⟩=>?_);cases c with
 |true=>exact⟨H1,I1,q1⟩
 |false=>exact hb wh Y s1 σ H1 Q I1 q1
def sE(ha:PT X a tA):PT X (.UnaryOp .Not a pos) (a69 tA):=by
 intro Y s σ H Q I h;exact isTrue_not (ha Y s σ H (λc H1=>Q (!c) H1) I h)
def a4Z(ta tb:TE):TE:=λσ H Q=>ta σ H λx H1=>EA (λc=>x=.bl c) λc=>if c=true then tb σ H1 Q else Q (.bl false) H1
def a5a(ta:TE):TE:=λσ H Q=>ta σ H λx H1=>EA (λc=>x=.bl c) λc=>Q (.bl (!c)) H1
def Py{op}{t:TE}(h:PE X a t):PE X (.BoolOp op [a] pos) t:=λY s σ H Q I hw=>BoolOp_one (h Y s σ H Q I hw)
def Pz(ha:PE X a ta)(hb:PE X (.BoolOp .And (b::rest) pos) tb):PE X (.BoolOp .And (a::b::rest) pos) (a4Z ta tb):=by
 intro Y s σ H Q I h;refine BoolOp_and (jr (ha Y s σ H _ I h) λv s1 ⟨x,H1,I1,r1,q1⟩=>?_);obtain⟨c,rfl,q1⟩:=q1;cases r1;refine Aj ?_;cases c with
 |true=>exact hb Y s1 σ H1 Q I1 q1
 |false=>exact⟨.bl false,H1,I1,Z,q1⟩
def ú(ha:PE X a ta):PE X (.UnaryOp .Not a pos) (a5a ta):=by
 intro Y s σ H Q I h;refine UnaryOp_ (jr (ha Y s σ H _ I h) λv s1 ⟨x,H1,I1,r1,q1⟩=>?_);obtain⟨c,rfl,q1⟩:=q1;cases r1;exact not_of (Aj ⟨.bl (!c),H1,I1,Z,q1⟩)
def tIf(t:TT)(ta tb:TE):TE:=λσ H Q=>t σ H λc H1=>if c=true then ta σ H1 Q else tb σ H1 Q
def oG(hc:PT X c tA)(ha:PE X a ta)(hb:PE X b tb):PE X (.IfExp c a b pos) (tIf tA ta tb):=by
 intro Y s σ H Q I h;refine wpAny_IfExp (jr (hc Y s σ H _ I h) λd s1 ⟨H1,I1,q1⟩=>?_);cases d with
 |true=>exact ha Y s1 σ H1 Q I1 q1
 |false=>exact hb Y s1 σ H1 Q I1 q1
end
def bC(K:aH)(H:Hp)(a:Addr)(xs:List V):Prop :=
 Rd H a (.lst xs)\/
  ∃(o:Obj) (b7:Array Value) (n:Nat),K.lookup a=some o/\o.cls=.type "list" /\o.dict=none/\o.data=.seq b7 n/\b7.size<=sizeLine/\cP xs b7.toList
def cO(K:aH)(H:Hp)(a:Addr)(xs:List V):Prop :=
 Rd H a (.tup xs)\/
  ∃(o:Obj) (b7:Array Value) (n:Nat),K.lookup a=some o/\o.cls=.type "tuple" /\o.data=.seq b7 n/\b7.size<=sizeLine/\cP xs b7.toList
def a7a:Value->Option V
 |.none=>some .non
 |.bool b=>some (.bl b)
 |.int i _=>some (.int i)
 |.str x _=>some (.str x)
 |.bytes b _=>some (.W9 b)
 |.float b _=>some (.flt b)
 |.ref a=>some (.ref a)
 |.type n=>some (.ty n)
 |_=>none
def cQ.abs{x:V}{u:Value}(r:cQ x u):a7a u=some x:=by
 cases x with
 |non=>cases r;rfl
 |bl _=>cases r;rfl
 |int _=>obtain⟨t,rfl⟩:=r;rfl
 |str _=>obtain⟨t,rfl⟩:=r;rfl
 |W9 _=>obtain⟨t,rfl⟩:=r;rfl
 |flt _=>obtain⟨t,rfl⟩:=r;rfl
 |ref _=>cases r;rfl
 |ty _=>cases r;rfl
def cQ.inj{x y:V}{u:Value}(r:cQ x u)(q:cQ y u):x=y:=eO (r.abs.symm.trans q.abs)
def cP.inj{xs ys:List V}{us:List Value}(h:cP xs us)(g:cP ys us):xs=ys:=by
 induction h generalizing ys with
 |nil=>cases g;rfl
 |cons r _ ih =>
  cases g with
  |cons q t=>rw[r.inj q,ih t]
section
variable{X:Cx}{Y:List (Addr×Obj)}{σ:St}{H:Hp}{s:Shared}{a:Addr}{xs ys:List V}
def bC.of(h:H a=some (.lst xs)):bC K H a xs:=.inl (.inl h)
def cO.of(h:H a=some (.tup xs)):cO K H a xs:=.inl (.inl h)
def bG.list(I:bG X Y σ H s)(h:bC X.K H a xs):∃b7:List Value,cP xs b7/\PlainL s.heap a b7.toArray/\xs.length<=sizeLine:=by
 rcases h with h|⟨o,b7,n,hk,hc,hd,hs,hz,r⟩
 ·obtain⟨z,b7,n,r,e⟩:=h.ok I.hok;exact⟨b7,r,⟨_,n,e,Z,Z,Z⟩,z⟩
 ·refine⟨b7.toList,r,⟨o,n,I.DR a o hk,hc,hd,by simpa using hs⟩,?_⟩;have e:=r.length;simp only[Array.length_toList]at e;omega
def bG.tuple(I:bG X Y σ H s)(h:cO X.K H a xs):∃b7:List Value,cP xs b7/\IsTup s.heap a b7.toArray/\xs.length<=sizeLine:=by
 rcases h with h|⟨o,b7,n,hk,hc,hs,hz,r⟩
 ·obtain⟨z,b7,r,p⟩:=h.ok I.hok;exact⟨b7,r,p,z⟩
 ·refine⟨b7.toList,r,⟨o,I.DR a o hk,hc,n,by simpa using hs⟩,?_⟩;have e:=r.length;simp only[Array.length_toList]at e;omega
def bG.yg(I:bG X Y σ H s)(h:bC X.K H a xs)(h':bC X.K H a ys):xs=ys:=by
 obtain⟨b7,r,⟨o,n,e,_,_,d⟩,_⟩:=I.list h;obtain⟨its',r',⟨o',n',e',_,_,d'⟩,_⟩:=I.list h';rw[e]at e';cases e';rw[d]at d';injection d' with d1 _
 have:b7=its':=by simpa using congrArg Array.toList d1
 subst this;exact r.inj r'
def bG.zq(I:bG X Y σ H s)(h:cO X.K H a xs)(h':cO X.K H a ys):xs=ys:=by
 obtain⟨b7,r,⟨o,e,_,n,d⟩,_⟩:=I.tuple h;obtain⟨its',r',⟨o',e',_,n',d'⟩,_⟩:=I.tuple h';rw[e]at e';cases e';rw[d]at d';injection d' with d1 _
 have:b7=its':=by simpa using congrArg Array.toList d1
 subst this;exact r.inj r'
end
abbrev Cx.wish(X:Cx)(E:Value->Shared->Prop):Cx:={ X with xe:=E}
abbrev Cx.nox(X:Cx):Cx:=X.wish λ_ _=>False
def Cx.Ok.wish{X:Cx}(ok:X.Ok)(E:Value->Shared->Prop):(X.wish E).Ok :=
 ⟨ok.mod,ok.kind,ok.glob,ok.blt,ok.above,ok.inj,ok.has,ok.cab,ok.hd,ok.frames,ok.stk,ok.exf,ok.bs,ok.bsz,ok.Vj,ok.YT,ok.BZ,ok.frf⟩
def Cx.Ok.vf{X:Cx}{E:Value->Shared->Prop}(ok:(X.wish E).Ok):X.Ok :=
 ⟨ok.mod,ok.kind,ok.glob,ok.blt,ok.above,ok.inj,ok.has,ok.cab,ok.hd,ok.frames,ok.stk,ok.exf,ok.bs,ok.bsz,ok.Vj,ok.YT,ok.BZ,ok.frf⟩
section
variable{X:Cx}{Y:List (Addr×Obj)}{σ:St}{H:Hp}{s:Shared}{E:Value->Shared->Prop}
def bG.wish(I:bG X Y σ H s)(E:Value->Shared->Prop):bG (X.wish E) Y σ H s:=⟨I.ok.wish E,I.os,I.bare,I.base,I.loc,I.cell,I.free,I.tV,I.pin,I.hok,I.len⟩
def bG.vf(I:bG (X.wish E) Y σ H s):bG X Y σ H s:=⟨I.ok.vf,I.os,I.bare,I.base,I.loc,I.cell,I.free,I.tV,I.pin,I.hok,I.len⟩
def SP.vf{D:Ends}{f:Flow}{s':Shared}(h:SP (X.wish E) Y D f s'):SP X Y D f s':=by
 cases f with
 |next=>obtain⟨σ',H',I,q⟩:=h;exact⟨σ',H',I.vf,q⟩
 |brk=>obtain⟨σ',H',I,q⟩:=h;exact⟨σ',H',I.vf,q⟩
 |cont=>obtain⟨σ',H',I,q⟩:=h;exact⟨σ',H',I.vf,q⟩
 |ret u=>obtain⟨v,σ',H',I,r,q⟩:=h;exact⟨v,σ',H',I.vf,r,q⟩
def Rj.nox{st:List Stmt}{t:TS}(h:Rj X.nox st t):Rj X st t:=λY s σ H D I hw =>
 iH (h Y s σ H D (I.wish _) hw) (λ_ _ q=>q.vf) λ_ _ z=>False.elim z
end
section
variable{X:Cx}{st:Stmt}{rest:List Stmt}{t u:TS}
def a2l:TS:=λD σ H=>D.nx σ H
def a5b(t u:TS):TS:=λD σ H=>t { D with nx:=u D} σ H
def bT:Rj X [] a2l:=λ_ _ σ H _ I h=>O5 ⟨σ,H,I,h⟩
def aG(h1:PS X st t)(h2:Rj X rest u):Rj X (st::rest) (a5b t u):=by
 intro Y s σ H D I h;refine UJ (jr (h1 Y s σ H { D with nx:=u D} I h) λf s1 q=>?_);cases f with
 |next =>
  obtain⟨σ',H',I',q⟩:=q;exact h2 Y s1 σ' H' D I' q
 |ret v=>exact q
 |brk=>exact q
 |cont=>exact q
def aD(h1:PS X st t):Rj X [st] t:=by
 intro Y s σ H D I h;refine UJ (jr (h1 Y s σ H D I h) λf s1 q=>?_);cases f with
 |next=>exact O5 q
 |ret v=>exact q
 |brk=>exact q
 |cont=>exact q
def a2Q:TS:=λD σ H=>D.bk σ H
def û:PS X (.Break pos) a2Q:=λ_ _ σ H _ I h=>wpAny_Break ⟨σ,H,I,h⟩
def bG.quiet{Y:List (Addr×Obj)}{σ:St}{H:Hp}{s:Shared}(I:bG X Y σ H s):interactive X.env=false:=by simp[interactive,I.ok.kind]
def a5c(te:TE):TS:=λD σ H=>te σ H λ_ H1=>D.nx σ H1
def gJ(he:PE X e te)(hs:swapsWith e none pos.line X.env=pure false:=by rfl):PS X (.Expr e pos) (a5c te):=by
 intro Y s σ H D I h;exact wpAny_Expr_any (jr (he Y s σ H _ I h) λv s1 ⟨x,H1,I1,r1,q1⟩=>⟨σ,H1,I1,q1⟩) I.quiet hs
def a5d(te:TE):TS:=λD σ H=>te σ H D.rt
def bF(he:PE X e te):PS X (.Return (some e) pos) (a5d te):=by
 intro Y s σ H D I h;exact wpAny_Return_some (jr (he Y s σ H _ I h) λv s1 ⟨x,H1,I1,r1,q1⟩=>⟨x,σ,H1,I1,r1,q1⟩)
def a7b(c:TT)(t u:TS):TS:=λD σ H=>c σ H λb H1=>if b=true then t D σ H1 else u D σ H1
def dZ{a b:List Stmt}{tc:TT}(hc:PT X c tc)(ha:Rj X a t)(hb:Rj X b u):PS X (.If c a b pos) (a7b tc t u):=by
 intro Y s σ H D I h;refine wpAny_If (jr (hc Y s σ H _ I h) λd s1 ⟨H1,I1,q1⟩=>?_);cases d with
 |true=>exact ha Y s1 σ H1 D I1 q1
 |false=>exact hb Y s1 σ H1 D I1 q1
def a2R:TS:=λ_ _ _=>False
def Cd:PS X st a2R:=λ_ _ _ _ _ _ h=>h.elim
end
abbrev TG:=V->St->Hp->(St->Hp->Prop)->Prop
abbrev ý:=List V->St->Hp->(St->Hp->Prop)->Prop
def PG(X:Cx)(target:Expr)(t:TG):Prop :=
 ∀(Y:List (Addr×Obj)) (s:Shared) (σ:St) (H:Hp) (v:V) (u:Value) (Q:St->Hp->Prop),bG X Y σ H s->cQ v u->t v σ H Q->
  wpAny (model X.prog X.w) X.A (assign target X.env u) (λ_ s'=>∃σ' H',bG X Y σ' H' s'/\Q σ' H') X.xe s
def PGs(X:Cx)(ts:List Expr)(t:ý):Prop :=
 ∀(Y:List (Addr×Obj)) (s:Shared) (σ:St) (H:Hp) (vs:List V) (us:List Value) (Q:St->Hp->Prop),bG X Y σ H s->cP vs us->t vs σ H Q->
  wpAny (model X.prog X.w) X.A (assignInOrder ((assignEach ts X.env).map (·.2)) us) (λ_ s'=>∃σ' H',bG X Y σ' H' s'/\Q σ' H') X.xe s
abbrev a2S:=V->V->V->Hp->(Hp->Prop)->Prop
def a5e(X:Cx)(t:a2S):Prop :=
 ∀(Y:List (Addr×Obj)) (s:Shared) (σ:St) (H:Hp) (o i v:V) (ov iv u:Value) (Q:Hp->Prop),bG X Y σ H s->cQ o ov->cQ i iv->cQ v u->t o i v H Q->
  wpAny (model X.prog X.w) X.A (setItem ov iv u) (λ_ s'=>∃H',bG X Y σ H' s'/\Q H') X.xe s
section
variable{X:Cx}
def Xc(i:Nat):TG:=λv σ H Q=>Q (σ.set i (some v)) H
def aN(i:Nat){x:Str}(hN:X.N.Nodup)(hi:X.N[i]?=some x:=by rfl)(hx:Loc X.env.scope x:=by first|exact Or.inl rfl|exact Or.inr Z)(hf:X.fn x=true\/X.env.scope.names.lookup x=some .local:=by first|exact .inl rfl|exact .inr rfl|assumption):PG X (.Name x pos) (Xc i):=by
 intro Y s σ H v u Q I r h;exact wpAny_assign_Name (Ri I hN hi hx r (λs' I'=>⟨_,H,I',h⟩) hf)
def a7c:ý:=λvs σ H Q=>vs=[]/\Q σ H
def a5f(t:TG)(u:ý):ý:=λvs σ H Q=>∃v r,vs=v::r/\t v σ H λσ' H'=>u r σ' H' Q
def jz:PGs X [] a7c:=by
 intro Y s σ H vs us Q I r h;obtain⟨e,h⟩:=h;subst e;cases r;exact assignInOrder_nil ⟨σ,H,I,h⟩
def b8{t:TG}{u:ý}(h1:PG X e t)(h2:PGs X es u)
  (hs:(assignEach (e::es) X.env).map (·.2)=assign e X.env::(assignEach es X.env).map (·.2):=by rfl):PGs X (e::es) (a5f t u):=by
 intro Y s σ H vs us Q I r h;obtain⟨v,vr,e1,h⟩:=h;subst e1;cases r with
 |cons r rr =>
  rw[hs];exact assignInOrder_cons (jr (h1 Y s σ H _ _ _ I r h) λ_ s1 ⟨σ1,H1,I1,q1⟩=>h2 Y s1 σ1 H1 _ _ Q I1 rr q1)
inductive a5g(K:aH)(n:Nat)(t:ý)(v:V)(σ:St)(H:Hp)(Q:St->Hp->Prop):Prop
 |mk (a xs:_) (_:v=.ref a) (_:cO K H a xs) (_:xs.length=n) (_:t xs σ H Q)
def a2T{t:ý}(hc:X.calm=true)(h:PGs X es t)
  (hn:(assignEach es X.env).length=n:=by rfl) (hst:(assignEach es X.env).findIdx? (·.1)=none:=by rfl):PG X (.Tuple es k pos) (a5g X.K n t):=by
 intro Y s σ H v u Q I r hw;obtain⟨a,xs,e1,hq,hl,hw⟩:=hw;subst e1;cases r;obtain⟨b7,rv,ht,hz⟩:=I.tuple hq;refine assign_Tuple_tuple (I.ok.hd hc) ht (by simp[hn,<-hl,rv.length]) hst λh' hx=>?_;have I1:bG X Y σ H { s with heap:=h'}:=I.kept (t':=s.toks) λb o e=>hx b o (bY (aX e)) e;exact h Y _ σ H xs _ Q I1 (by simpa using rv) hw
def a7d(to ti:TE)(t:a2S):TG:=λv σ H Q=>to σ H λo H1=>ti σ H1 λi H2=>t o i v H2 λH3=>Q σ H3
def PJ{o i:Expr}{to ti:TE}{t:a2S}(ho:PE X o to)(hi:PE X i ti)(hs:a5e X t)
  (ha:∀v,assign (.Subscript o i pos) X.env v=(do
   let ov <-holding [v] (eval o X.env)
   let iv <-holding [v,ov] (eval i X.env)
   standAt pos
   holding [v,ov,iv] (setItem ov iv v)
   release [v,ov,iv] []):=by intro _;rfl):PG X (.Subscript o i pos) (a7d to ti t):=by
 intro Y s σ H v u Q I r h;rw[ha];exact M (eU (jr (ho Y s σ H _ I h) λov s1 ⟨x,H1,I1,r1,q1⟩=>M (eU (jr (hi Y s1 σ H1 _ I1 q1) λiv s2 ⟨y,H2,I2,r2,q2⟩=>M (O9 (M (eU (jr (hs Y s2 σ H2 x y v ov iv u _ I2 r1 r2 r q2) λ_ s3 ⟨H3,I3,q3⟩=>wpAny_release ⟨σ,H3,I3,q3⟩))))))))
def a2U(te:TE)(g:TG):TS:=λD σ H=>te σ H λx H1=>g x σ H1 D.nx
def yh{g:TG}(he:PE X e te)(hg:PG X tg g)(hs:swapsWithSole [tg] e pos.line X.env=pure false:=by rfl)(hw:swappedStores [tg] e X.env=pure none:=by rfl)
  (h1:(assignEach [tg] X.env).map (·.2)=[assign tg X.env]:=by rfl):PS X (.Assign [tg] e pos) (a2U te g):=by
 intro Y s σ H D I h;refine wpAny_Assign_stores (jr (he Y s σ H _ I h) λv s1 ⟨x,H1,I1,r1,q1⟩=>?_) hs hw;rw[h1];exact jr (hg Y s1 σ H1 x v _ I1 r1 q1) λ_ s2 q=>q
def bK(i:Nat){x:Str}{pos':Pos}(hN:X.N.Nodup)(he:PE X e te)(hi:X.N[i]?=some x:=by rfl)(hx:Loc X.env.scope x:=by first|exact Or.inl rfl|exact Or.inr Z)(hs:swapsWith e (some (.Name x pos')) pos.line X.env=pure false:=by rfl)(hf:X.fn x=true\/X.env.scope.names.lookup x=some .local:=by first|exact .inl rfl|exact .inr rfl|assumption) :
  PS X (.Assign [.Name x pos'] e pos) (a2U te (Xc i)):=by
 intro Y s σ H D I h;exact wpAny_Assign_Name (jr (he Y s σ H _ I h) λv s1 ⟨y,H1,I1,r1,q1⟩=>Ri I1 hN hi hx r1 (λs2 I2=>⟨_,H1,I2,q1⟩) hf) hs
end
section
variable{X:Cx}
def a2V(c:TT)(tb:TS):TS:=λD σ H=>∃W:Nat->St->Hp->Prop,(∃m,W m σ H)/\∀m σ H,W m σ H->
 c σ H λb H1=>if b=true then ∃N:St->Hp->Prop,(∀σ' H',N σ' H'->∃m',m'<m/\W m' σ' H')/\tb { D with nx:=N,ct:=N,bk:=D.nx} σ H1 else D.nx σ H1
def þ{tc:TT}(hp:PassesOwn (model X.prog X.w) X.A X.env X.xe)(hc:PT X c tc)(hb:Rj X body tb):PS X (.While c body [] pos) (a2V tc tb):=by
 intro Y s σ H D I h;obtain⟨W,⟨m0,w0⟩,turn⟩:=h;refine wpAny_While (codeAny_whileLoop (λn s'=>∃σ' H',bG X Y σ' H' s'/\W n σ' H') ?_ m0 ⟨σ,H,I,w0⟩);rintro n s1 ⟨σ1,H1,I1,w1⟩;refine Am hp (jr (hc Y s1 σ1 H1 _ I1 (turn n σ1 H1 w1)) λb s2 ⟨H2,I2,q2⟩=>?_);cases b with
 |true =>
  obtain⟨N,hN,q2⟩:=q2;rw[aF rfl];refine Am hp (jr (hb Y s2 σ1 H2 _ I2 q2) λf s3 q3=>?_);cases f with
  |next =>
   obtain⟨σ3,H3,I3,n3⟩:=q3;obtain⟨m',hm,w3⟩:=hN σ3 H3 n3;exact⟨m',hm,σ3,H3,I3,w3⟩
  |cont =>
   obtain⟨σ3,H3,I3,n3⟩:=q3;obtain⟨m',hm,w3⟩:=hN σ3 H3 n3;exact⟨m',hm,σ3,H3,I3,w3⟩
  |brk=>exact q3
  |ret v=>exact q3
 |false =>
  rw[aq dB];exact O5 ⟨σ1,H2,I2,q2⟩
end
structure It where
 go:Nat->Hp->Prop
 Û:Nat->Hp->V->Hp->Prop
 stop:Nat->Hp->Prop
def Gu(X:Cx)(Y:List (Addr×Obj))(H:Hp)(b:Addr):Prop :=
 H b=none/\b≠X.env.locals/\b∉X.fs/\(b∈X.ex\/X.s₀.heap.objs.size<=b)/\(∀x c,X.env.cells.lookup x=some c->c≠b)/\∀p∈X.pn++Y,p.1≠b
def bG.Gv{X:Cx}{Y:List (Addr×Obj)}{σ:St}{H H':Hp}{s:Shared}{b:Addr}(I:bG X Y σ H s)(hb:s⁻¹<=b)(hn:H' b=none):Gu X Y H' b:=by
 refine⟨hn,gC (jC I.lt hb),I.a4W hb,.inr (dI I.sz hb),λx c e z=>?_,λp hp z=>?_⟩
 ·obtain⟨v,q⟩:=I.cell x c e;exact absurd (jC q.lt (by rw[z];exact hb)) (u6 _)
 ·exact absurd (jC (aX (I.pin p hp).1) (by rw[z];exact hb)) (u6 _)
structure Turn(P:Program)(w:World)(K:aH)(tg:Expr)(Z97:It)(fp:List Addr)(it:Addr)(tn:Nat->Heap->Prop):Prop where
 mem:it∈fp
 obj:∀i h,tn i h->∀b∈fp,∃o,h.get? b=some o/\∀v,o.data≠.cell v
 keep:∀i h h',tn i h->(∀b∈fp,∀o,h.get? b=some o->h'.get? b=some o)->tn i h'
 item:∀(X:Cx),X.prog=P->X.w=w->X.K=K->X.calm=true->∀(i:Nat) (Y:List (Addr×Obj)) (s:Shared) (σ:St) (H:Hp) (E:Value->Shared->Prop),bG X Y σ H s->(∀b∈fp,Gu X Y H b)->tn i s.heap->Z97.go i H->
  wpAny (model P w) X.A (pyNext (.ref it)) (λr s1=>∃u,r=some u/\
   wpAny (model P w) X.A (letOwnedTupleGo tg (.ref it) u) (λ_ s2=>∃x H',bG X Y σ H' s2/\cQ x u/\Z97.Û i H x H'/\tn (i+1) s2.heap/\∀b∈fp,H' b=none) E s1) E s
 done:∀(X:Cx),X.prog=P->X.w=w->X.K=K->X.calm=true->∀(i:Nat) (Y:List (Addr×Obj)) (s:Shared) (σ:St) (H:Hp) (E:Value->Shared->Prop),bG X Y σ H s->(∀b∈fp,Gu X Y H b)->tn i s.heap->Z97.stop i H->
  wpAny (model P w) X.A (pyNext (.ref it)) (λr s1=>r=none/\bG X Y σ H s1) E s
 self:∀(A:Around) (i:Nat) (s:Shared) (Q:Value->Shared->Prop) (E:Value->Shared->Prop),tn i s.heap->Q (.ref it) s->wpAny (model P w) A (pyIter (.ref it)) Q E s
abbrev TI:=St->Hp->(It->Hp->Prop)->Prop
inductive PIE(X:Cx)(Y:List (Addr×Obj))(σ:St)(tg:Expr)(R:It->Hp->Prop)(itv:Value)(s2:Shared):Prop
 |mk (it:Addr) (fp:List Addr) (tn:Nat->Heap->Prop) (Z97:It) (H':Hp) (_:itv=.ref it) (_:bG X Y σ H' s2) (_:Turn X.prog X.w X.K tg Z97 fp it tn) (_:tn 0 s2.heap) (_:(∀b∈fp,Gu X Y H' b)) (_:R Z97 H')
def PI(X:Cx)(tg iter:Expr)(wi:TI):Prop :=
 ∀(Y:List (Addr×Obj)) (s:Shared) (σ:St) (H:Hp) (R:It->Hp->Prop),bG X Y σ H s->wi σ H R->
  wpAny (model X.prog X.w) X.A (eval iter X.env) (λv s1=>wpAny (model X.prog X.w) X.A (pyIter v) (PIE X Y σ tg R) X.xe s1) X.xe s
def Xd{E : Value → Shared → Prop}{s : Shared}{it : Addr}{u : Value}{o : Obj}{n : String}{vs : Array Value}{Q : Unit → Shared → Prop}(ho : s.heap.get? it = some o)(hc : o.cls = .type n)(hd : o.data = .fields vs)
    (hn : ["enumerate", "zip", "dict_itemiterator", "dict_reverseitemiterator", "odict_iterator", "itertools.zip_longest", "itertools.pairwise"].contains n = false) (hQ : Q ⟨⟩ s) : wpAny Z98 A (letOwnedTupleGo tg (.ref it) u) Q E s := by
  unfold letOwnedTupleGo;cases tg <;> first
    | exact ao hQ
    | (cases u <;> first
        | exact ao hQ
        | (refine M (wpAny_load ho ?_)
           rw [hc, hd];show wpAny Z98 A (if (["enumerate", "zip", "dict_itemiterator", "dict_reverseitemiterator", "odict_iterator", "itertools.zip_longest", "itertools.pairwise"].contains n && vs[0]? == some (rawInt _)) = true then _ else _) Q E s;rw [aq (by intro h; rw [hn, Bool.false_and] at h; cases h)];exact ao hQ))
def Itl(K:aH)(a:Addr):It :=
 ⟨λi H=>∃xs x,bC K H a xs/\xs[i]?=some x,λi H x H'=>H'=H/\∀xs,bC K H a xs->xs[i]?=some x,λi H=>∃xs,bC K H a xs/\xs.length<=i⟩
def Itt(K:aH)(a:Addr):It :=
 ⟨λi H=>∃xs x,cO K H a xs/\xs[i]?=some x,λi H x H'=>H'=H/\∀xs,cO K H a xs->xs[i]?=some x,λi H=>∃xs,cO K H a xs/\xs.length<=i⟩
def Xe(lo:Int)(n:Nat):It:=⟨λi _=>i<n,λi H x H'=>H'=H/\x=.int (lo+i),λi _=>n<=i⟩
def YW{P:Program}{w:World}(a it:Addr):Turn P w K tg (Itl K a) [it] it (λi h=>h.IsListIter it a i) where
 mem:=by simp
 obj:=λi h st b hb=>by
  have e:b=it:=by simpa using hb
  subst e
  obtain⟨o,e,c,d⟩:=st
  exact⟨o,e,λv z=>by rw[d]at z;cases z⟩
 keep:=λi h h' st k=>st.at λo e=>k it (by simp) o e
 item:=by
  nofun
  subst hP hw hK
  obtain⟨xs,x,hq,hx⟩:=hg
  obtain⟨b7,rv,p,hz⟩:=I.list hq
  obtain⟨u,hu,ru⟩:=rv.get hx
  obtain⟨f0,f1,f2,f3,f4,f5⟩:=hf it (by simp)
  refine Ug st p.isList (x:=u) (by simpa using hu) λh' st' sb=>?_
  injections
  obtain⟨o,e,c,d⟩:=id st'
  exact⟨u,Z,Xd (s:={ s with heap:=h'}) e c d () ⟨x,H,I1,ru,⟨rfl,λys hy=>by rw[I.yg hy hq];exact hx⟩,st',λb hb=>(hf b hb).1⟩⟩
 done:=by
  nofun
  subst hP hw hK
  obtain⟨xs,hq,hx⟩:=hg
  obtain⟨b7,rv,p,hz⟩:=I.list hq
  obtain⟨f0,f1,f2,f3,f4,f5⟩:=hf it (by simp)
  have hl:=rv.length
  exact wpAny_pyNext_list_end (I.ok.hd hc) st p.isList (by simp;omega) λh' eb=>⟨Z,I.turned (t':=s.toks) (λb o hb e=>eb b o hb e) f0 f1 f3 f4 f5⟩
 self:=λ_ _ _ _ _ st h=>wpAny_pyIter_listiter st h
def Vk{P:Program}{w:World}(a it:Addr):Turn P w K tg (Itt K a) [it] it (λi h=>h.IsTupleIter it a i) where
 mem:=by simp
 obj:=λi h st b hb=>by
  have e:b=it:=by simpa using hb
  subst e
  obtain⟨o,e,c,d⟩:=st
  exact⟨o,e,λv z=>by rw[d]at z;cases z⟩
 keep:=λi h h' st k=>st.at λo e=>k it (by simp) o e
 item:=by
  nofun
  subst hP hw hK
  obtain⟨xs,x,hq,hx⟩:=hg
  obtain⟨b7,rv,p,hz⟩:=I.tuple hq
  obtain⟨u,hu,ru⟩:=rv.get hx
  obtain⟨f0,f1,f2,f3,f4,f5⟩:=hf it (by simp)
  refine wpAny_pyNext_tuple_item st (show s.heap.IsTuple a b7.toArray from p) (x:=u) (by simpa using hu) λh' st' sb=>?_
  injections
  obtain⟨o,e,c,d⟩:=id st'
  exact⟨u,Z,Xd (s:={ s with heap:=h'}) e c d () ⟨x,H,I1,ru,⟨rfl,λys hy=>by rw[I.zq hy hq];exact hx⟩,st',λb hb=>(hf b hb).1⟩⟩
 done:=by
  nofun
  subst hP hw hK
  obtain⟨xs,hq,hx⟩:=hg
  obtain⟨b7,rv,p,hz⟩:=I.tuple hq
  obtain⟨f0,f1,f2,f3,f4,f5⟩:=hf it (by simp)
  have hl:=rv.length
  exact wpAny_pyNext_tuple_end (I.ok.hd hc) st (show s.heap.IsTuple a b7.toArray from p) (by simp;omega) λh' eb=>⟨Z,I.turned (t':=s.toks) (λb o hb e=>eb b o hb e) f0 f1 f3 f4 f5⟩
 self:=λ_ _ _ _ _ st h=>wpAny_pyIter_tupleiter st h
def Vl{P:Program}{w:World}(it:Addr)(lo:Int)(n:Nat):Turn P w K tg (Xe lo n) [it] it (λi h=>IsRangeIter h it (lo+(i:Nat)*1) ((n:Int)-(i:Nat)) 1) where
 mem:=by simp
 obj:=λi h st b hb=>by
  have e:b=it:=by simpa using hb
  subst e
  exact⟨_,st,λv z=>by
   have z':Data.fields _=Data.cell v:=z
   cases z'⟩
 keep:=λi h h' st k=>k it (by simp) _ st
 item:=by
  nofun
  subst hP hw hK
  obtain⟨f0,f1,f2,f3,f4,f5⟩:=hf it (by simp)
  have W:=Walks.range (prog:=X.prog) (w:=X.w) (I.ok.hd hc) it lo 1 n
  refine W.item i s _ _ hg st λv h' tk hv st' kk=>?_
  obtain⟨t,rfl⟩:=hv
  have I1:bG X Y σ H { s with heap:=h',toks:=tk}:=I.turned (λb o hb e=>kk b o (by simpa using hb) e) f0 f1 f3 f4 f5
  refine⟨_,Z,Xd (s:={ s with heap:=h',toks:=tk}) (n:="range_iterator") st' rfl rfl () ⟨.int (lo+i),H,I1,⟨t,?_⟩,⟨rfl,rfl⟩,st',λb hb=>(hf b hb).1⟩⟩
  rw[Int.mul_one]
 done:=by
  nofun
  subst hP hw hK
  obtain⟨f0,f1,f2,f3,f4,f5⟩:=hf it (by simp)
  exact wpAny_pyNext_range_end (I.ok.hd hc) st (by have:n<=i:=hg;omega) λh' eb=>⟨Z,I.turned (t':=s.toks) (λb o hb e=>eb b o hb e) f0 f1 f3 f4 f5⟩
 self:=λ_ _ _ _ _ st h=>wpAny_pyIter_rangeiter st h
section
variable{X:Cx}
def a2m(K:aH)(tl:TE):TI:=λσ H R=>tl σ H λx H1=>EC (λa=>x=.ref a) (λa=>(∃xs,bC K H1 a xs)) λa=>R (Itl K a) H1
def a5h(K:aH)(tl:TE):TI:=λσ H R=>tl σ H λx H1=>EC (λa=>x=.ref a) (λa=>(∃xs,cO K H1 a xs)) λa=>R (Itt K a) H1
def a0b{l:Expr}{tl:TE}(hl:PE X l tl):PI X tg l (a2m X.K tl):=by
 intro Y s σ H R I h;refine jr (hl Y s σ H _ I h) λv s1 ⟨x,H1,I1,r1,q1⟩=>?_;obtain⟨a,e,⟨xs,hq⟩,q⟩:=q1;subst e;cases r1;obtain⟨b7,rv,p,hz⟩:=I1.list hq;refine wD p.isList ⟨s1⁻¹,[s1⁻¹],_,_,H1,Z,I1.kept (t':=s1.toks) λb o e=>bB _ e,YW a _,⟨_,bU _ Z,Z,Z⟩,λb hb=>?_,q⟩;have e:b=s1⁻¹:=by simpa using hb
 subst e;exact I1.Gv (aL _) (I1.hok.fresh (aL _))
def a2W{l:Expr}{tl:TE}(hl:PE X l tl):PI X tg l (a5h X.K tl):=by
 intro Y s σ H R I h;refine jr (hl Y s σ H _ I h) λv s1 ⟨x,H1,I1,r1,q1⟩=>?_;obtain⟨a,e,⟨xs,hq⟩,q⟩:=q1;subst e;cases r1;obtain⟨b7,rv,p,hz⟩:=I1.tuple hq;refine Ef (show s1.heap.IsTuple a b7.toArray from p) ⟨s1⁻¹,[s1⁻¹],_,_,H1,Z,I1.kept (t':=s1.toks) λb o e=>bB _ e,Vk a _,⟨_,bU _ Z,Z,Z⟩,λb hb=>?_,q⟩;have e:b=s1⁻¹:=by simpa using hb
 subst e;exact I1.Gv (aL _) (I1.hok.fresh (aL _))
def Rk{Y:List (Addr×Obj)}{σ:St}{H:Hp}{s:Shared}{R:It->Hp->Prop}{E:Value->Shared->Prop}{lo hi:Int}{t u v:Tok}{tk:Nat}(I:bG X Y σ H s)(h1 : -(2^62)<=lo)(h2:lo<2^62)(h3 : -(2^62)<=hi)(h4:hi<2^62)
  (q:R (Xe lo (hi-lo).toNat) H):wpAny (model X.prog X.w) X.A (pyIter (.ref s⁻¹)) (PIE X Y σ tg R) E { s with heap:=s.heap.push { cls:=.type "range",data:=.fields #[.int lo t,.int hi u,.int 1 v]},toks:=tk}:=by
 refine wpAny_pyIter_range (IsRange.new ..) (small_one h1 h2 h3 h4) ?_;have I1:bG X Y σ H { s with heap:=s.heap.push { cls:=.type "range",data:=.fields #[.int lo t,.int hi u,.int 1 v]},toks:=tk}:=I.kept λb o e=>bB _ e;refine⟨(s.heap.push { cls:=.type "range",data:=.fields #[.int lo t,.int hi u,.int 1 v]}).objs.size,[(s.heap.push { cls:=.type "range",data:=.fields #[.int lo t,.int hi u,.int 1 v]}).objs.size],_,_,H,Z,
  I1.kept (t':=tk) λb o e=>bB _ e,Vl _ lo (hi-lo).toNat,?_,λb hb=>?_,q⟩
 ·have e1:lo+((0:Nat):Int)*1=lo:=by simp
  have e2:(((hi-lo).toNat:Nat):Int)-((0:Nat):Int)=Builtin.Range.rangeSize lo hi 1:=by rw[rangeSize_one];split<;>omega
  show IsRangeIter _ _ (lo+((0:Nat):Int)*1) ((((hi-lo).toNat:Nat):Int)-((0:Nat):Int)) 1;rw[e1,e2];exact bU _ rfl
 ·have e:b=(s.heap.push { cls:=.type "range",data:=.fields #[.int lo t,.int hi u,.int 1 v]}).objs.size:=by simpa using hb
  subst e;exact I1.Gv (aL _) (I1.hok.fresh (aL _))
def a5i(ta:TA):TI:=λσ H R=>ta σ H λvs H1=>EA (λj:Int=>vs=[.int j]) λj=>-(2^62)<=j/\j<2^62/\R (Xe 0 j.toNat) H1
def a5j(ta:TA):TI:=λσ H R=>ta σ H λvs H1=>∃i j:Int,vs=[.int i,.int j]/\(-(2^62)<=i/\i<2^62/\ -(2^62)<=j/\j<2^62)/\R (Xe i (j-i).toNat) H1
def iY{a:Expr}{ta:TA}(hg:Gl X "range")(hm:X.mg "range" = none)(ha:PA X [a] ta)(hs:starEach [a] X.env=[(false,eval a X.env)]:=by rfl):PI X tg (.Call (.Name "range" p) [a] [] pos) (a5i ta):=by
 intro Y s σ H R I h;refine Call_ (tW I hg hm boot_range (wz (jr (ha pos Y s σ H _ I h) λus s1 ⟨vs,H1,I1,r1,q1⟩=>?_) hs Z));obtain⟨j,e,q1,q2,q⟩:=q1;subst e;cases r1 with
 |cons r rr =>
  cases rr;obtain⟨t,rfl⟩:=r;exact call_range_1 (Rk I1 () () q1 q2 (by simpa using q))
def Mq{a b:Expr}{ta:TA}(hg:Gl X "range")(hm:X.mg "range" = none)(ha:PA X [a,b] ta)(hs:starEach [a,b] X.env=[(false,eval a X.env),(false,eval b X.env)]:=by rfl)(hs2:starEach [b] X.env=[(false,eval b X.env)]:=by rfl) :
  PI X tg (.Call (.Name "range" p) [a,b] [] pos) (a5j ta):=by
 intro Y s σ H R I h;refine Call_ (tW I hg hm boot_range (wz (jr (ha pos Y s σ H _ I h) λus s1 ⟨vs,H1,I1,r1,q1⟩=>?_) (by rw[hs,hs2]) (by rw[hs2];rfl)));obtain⟨i,j,e,⟨q1,q2,q3,q4⟩,q⟩:=q1;subst e;cases r1 with
 |cons r rr =>
  cases rr with
  |cons r' rr =>
   cases rr;obtain⟨t,rfl⟩:=r;obtain⟨t',rfl⟩:=r';exact call_range_2 (Rk I1 q1 q2 q3 q4 q)
def a7e(wi:TI)(g:TG)(tb:TS):TS:=λD σ H=>wi σ H λZ97 H1=>∃W:Nat->Nat->St->Hp->Prop,(∃m,W 0 m σ H1)/\∀i m σ H,W i m σ H->
 (Z97.stop i H/\D.nx σ H)\/(Z97.go i H/\∃N:St->Hp->Prop,(∀σ' H',N σ' H'->∃m',m'<m/\W (i+1) m' σ' H')/\∀x H',Z97.Û i H x H'->g x σ H' λσ2 H2=>tb { D with nx:=N,ct:=N,bk:=D.nx} σ2 H2)
def wJ(fp:List Addr)(h:Heap):List (Addr×Obj):=fp.filterMap λb=>(h.get? b).map λo=>(b,o)
def tY{b:Addr}{o:Obj}(hb:b∈fp)(e:h.get? b=some o):(b,o)∈wJ fp h:=Uv.mpr ⟨b,hb,by rw[e];rfl⟩
def YX{p:Addr×Obj}(hp:p∈wJ fp h):p.1∈fp/\h.get? p.1=some p.2:=by
 obtain⟨b,hb,e⟩:=Uv.mp hp;cases q:h.get? b with
 |none=>rw[q]at e;cases e
 |some o =>
  rw[q]at e;have e':(b,o)=p:=eO e;subst e';exact⟨hb,q⟩
def bG.pinned{Y:List (Addr×Obj)}{σ:St}{H:Hp}{s:Shared}(I:bG X Y σ H s)(hf:∀b∈fp,Gu X Y H b)(ho:∀b∈fp,∃o,s.heap.get? b=some o/\∀v,o.data≠.cell v):bG X (Y++wJ fp s.heap) σ H s :=
 I.Hj λp hp=>(cJ.mp hp).elim (λz=>I.pin p (iz _ z)) λz=>by
  obtain⟨hb,e⟩:=YX z;obtain⟨f0,f1,f2,_⟩:=hf p.1 hb;obtain⟨o,e',d⟩:=ho p.1 hb;rw[e]at e';cases e';exact⟨e,f0,f1,f2,d⟩
def bG.yj{Y pl:List (Addr×Obj)}{σ:St}{H:Hp}{s:Shared}(I:bG X (Y++pl) σ H s):bG X Y σ H s:=I.Hj λp hp=>I.pin p (iz _ (rW _ hp))
def jo{iter:Expr}{wi:TI}{g:TG}(hp:PassesOwn (model X.prog X.w) X.A X.env X.xe)(hc:X.calm=true)(hi:PI X tg iter wi)(hg:PG X tg g)(hb:Rj X body tb)
  (hs:∀x,foldedSetIterable iter X.env x=pure x:=by intro _;rfl):PS X (.For tg iter body [] pos) (a7e wi g tb):=by
 intro Y s σ H D I h;refine wpAny_For (jr (hi Y s σ H _ I h) λv s1 h1=>jr h1 λitv s2 h2=>?_) hs;obtain⟨it,fp,tn,Z97,H2,e,I2,T,st2,f2,W,⟨m0,w0⟩,turn⟩:=h2;subst e;have stat:∀{H':Hp},(∀b∈fp,H' b=none)->∀b∈fp,Gu X Y H' b:=λhn b hb=>⟨hn b hb,(f2 b hb).2⟩;refine codeAny_forLoop_any (λn s'=>∃i σ' H',bG X Y σ' H' s'/\tn i s'.heap/\(∀b∈fp,H' b=none)/\W i n σ' H') ?_ m0 ⟨0,σ,H2,I2,st2,λb hb=>(f2 b hb).1,w0⟩;rintro n s3 ⟨i,σ3,H3,I3,st3,fr3,w3⟩;rcases turn i n σ3 H3 w3 with⟨stop,qn⟩|⟨go,N,hN,step⟩
 ·refine Am hp (jr (T.done X Z Z Z hc i Y s3 σ3 H3 X.xe I3 (stat fr3) st3 stop) λr s4 ⟨hr,I4⟩=>?_);subst hr;exact O5 ⟨σ3,H3,I4,qn⟩
 ·refine Am hp (jr (T.item X Z Z Z hc i Y s3 σ3 H3 X.xe I3 (stat fr3) st3 go) λr s4 ⟨u,hr,h4⟩=>?_);subst hr;refine Am hp (jr h4 λ_ s5 ⟨x,H5,I5,r5,y5,st5,fr5⟩=>?_);have I5':=I5.pinned (stat fr5) (T.obj _ _ st5);refine Am hp (jr (hg _ s5 σ3 H5 x u _ I5' r5 (step x H5 y5)) λ_ s6 ⟨σ6,H6,I6,q6⟩=>Am hp (jr (hb _ s6 σ6 H6 _ I6 q6) λf s7 q7=>?_));have again:∀{Xf:St}{H7:Hp},bG X (Y++wJ fp s5.heap) Xf H7 s7->N Xf H7->∃m,m<n/\∃i σ' H',bG X Y σ' H' s7/\tn i s7.heap/\(∀b∈fp,H' b=none)/\W i m σ' H':=λ{Xf H7} I7 n7=>by
   obtain⟨m',hm,w7⟩:=hN Xf H7 n7;refine⟨m',hm,i+1,Xf,H7,I7.yj,T.keep _ _ _ st5 λb hb o e=>(I7.pin (b,o) (iz _ (iz _ (tY hb e)))).1,λb hb=>?_,w7⟩;obtain⟨o,e,d⟩:=T.obj _ _ st5 b hb;exact(I7.pin (b,o) (iz _ (iz _ (tY hb e)))).2.1
  cases f with
  |next=>obtain⟨Xf,H7,I7,n7⟩:=q7;exact again I7 n7
  |cont=>obtain⟨Xf,H7,I7,n7⟩:=q7;exact again I7 n7
  |brk=>obtain⟨Xf,H7,I7,q7⟩:=q7;exact⟨Xf,H7,I7.yj,q7⟩
  |ret v=>obtain⟨x7,Xf,H7,I7,r7,q7⟩:=q7;exact⟨x7,Xf,H7,I7.yj,r7,q7⟩
end
def yp{a:Addr}{xs:List V}{g:TG}{σ:St}{H:Hp}(Pv:Nat->St->Hp->Prop)(h0:Pv 0 σ H)(hl:∀i σ H,i<=xs.length->Pv i σ H->bC K H a xs)
  (hs:∀i x σ H,xs[i]?=some x->Pv i σ H->g x σ H λσ2 H2=>tb { D with nx:=Pv (i+1),ct:=Pv (i+1),bk:=D.nx} σ2 H2) (hd:∀σ H,Pv xs.length σ H->D.nx σ H) :
  ∃W:Nat->Nat->St->Hp->Prop,(∃m,W 0 m σ H)/\∀i m σ H,W i m σ H->
   ((Itl K a).stop i H/\D.nx σ H)\/((Itl K a).go i H/\∃N:St->Hp->Prop,(∀σ' H',N σ' H'->∃m',m'<m/\W (i+1) m' σ' H')/\∀x H',(Itl K a).Û i H x H'->g x σ H' λσ2 H2=>tb { D with nx:=N,ct:=N,bk:=D.nx} σ2 H2):=by
 refine⟨λi m σ H=>m=xs.length-i/\i<=xs.length/\Pv i σ H,⟨xs.length,by simp,dh _,h0⟩,?_⟩;rintro i m σ H ⟨rfl,hi,p⟩;have q:=hl i σ H hi p;by_cases hlt:i<xs.length
 ·refine .inr ⟨⟨xs,xs[i],q,by simp[hlt]⟩,Pv (i+1),λσ' H' p'=>⟨xs.length-(i+1),(),Z,hlt,p'⟩,λx H' y=>?_⟩;obtain⟨e,y⟩:=y;subst e;exact hs i x σ _ (y xs q) p
 ·have e:i=xs.length:=()
  subst e;exact .inl ⟨⟨xs,q,aL _⟩,hd σ H p⟩
def a0c{a:Addr}{xs:List V}{g:TG}{σ:St}{H:Hp}(Pv:Nat->St->Hp->Prop)(h0:Pv 0 σ H)(hl:∀i σ H,i<=xs.length->Pv i σ H->cO K H a xs)
  (hs:∀i x σ H,xs[i]?=some x->Pv i σ H->g x σ H λσ2 H2=>tb { D with nx:=Pv (i+1),ct:=Pv (i+1),bk:=D.nx} σ2 H2) (hd:∀σ H,Pv xs.length σ H->D.nx σ H) :
  ∃W:Nat->Nat->St->Hp->Prop,(∃m,W 0 m σ H)/\∀i m σ H,W i m σ H->
   ((Itt K a).stop i H/\D.nx σ H)\/((Itt K a).go i H/\∃N:St->Hp->Prop,(∀σ' H',N σ' H'->∃m',m'<m/\W (i+1) m' σ' H')/\∀x H',(Itt K a).Û i H x H'->g x σ H' λσ2 H2=>tb { D with nx:=N,ct:=N,bk:=D.nx} σ2 H2):=by
 refine⟨λi m σ H=>m=xs.length-i/\i<=xs.length/\Pv i σ H,⟨xs.length,by simp,dh _,h0⟩,?_⟩;rintro i m σ H ⟨rfl,hi,p⟩;have q:=hl i σ H hi p;by_cases hlt:i<xs.length
 ·refine .inr ⟨⟨xs,xs[i],q,by simp[hlt]⟩,Pv (i+1),λσ' H' p'=>⟨xs.length-(i+1),(),Z,hlt,p'⟩,λx H' y=>?_⟩;obtain⟨e,y⟩:=y;subst e;exact hs i x σ _ (y xs q) p
 ·have e:i=xs.length:=()
  subst e;exact .inl ⟨⟨xs,q,aL _⟩,hd σ H p⟩
def qz{lo:Int}{g:TG}{σ:St}{H:Hp}(Pv:Nat->St->Hp->Prop)(h0:Pv 0 σ H)
  (hs:∀i σ H,i<n->Pv i σ H->g (.int (lo+i)) σ H λσ2 H2=>tb { D with nx:=Pv (i+1),ct:=Pv (i+1),bk:=D.nx} σ2 H2) (hd:∀σ H,Pv n σ H->D.nx σ H) :
  ∃W:Nat->Nat->St->Hp->Prop,(∃m,W 0 m σ H)/\∀i m σ H,W i m σ H->
   ((Xe lo n).stop i H/\D.nx σ H)\/((Xe lo n).go i H/\∃N:St->Hp->Prop,(∀σ' H',N σ' H'->∃m',m'<m/\W (i+1) m' σ' H')/\∀x H',(Xe lo n).Û i H x H'->g x σ H' λσ2 H2=>tb { D with nx:=N,ct:=N,bk:=D.nx} σ2 H2):=by
 refine⟨λi m σ H=>m=n-i/\i<=n/\Pv i σ H,⟨n,by simp,dh _,h0⟩,?_⟩;rintro i m σ H ⟨rfl,hi,p⟩;by_cases hlt:i<n
 ·refine .inr ⟨hlt,Pv (i+1),λσ' H' p'=>⟨n-(i+1),(),Z,hlt,p'⟩,λx H' y=>?_⟩;obtain⟨e,y⟩:=y;subst e y;exact hs i σ _ hlt p
 ·have e:i=n:=()
  subst e;exact .inl ⟨aL _,hd σ H p⟩
abbrev R2:=V->V->Hp->VK->Prop
def rz(X:Cx)(f:Value->Value->Sem Value)(r:R2):Prop :=
 ∀(Y:List (Addr×Obj)) (s:Shared) (σ:St) (H:Hp) (x y:V) (v u:Value) (Q:VK),bG X Y σ H s->cQ x v->cQ y u->r x y H Q->
  wpAny (model X.prog X.w) X.A (f v u) (EP X Y σ Q) X.xe s
def jF(X:Cx)(f:Value)(r:List V->Hp->VK->Prop):Prop :=
 ∀(Y:List (Addr×Obj)) (s:Shared) (σ:St) (H:Hp) (xs:List V) (us:List Value) (Q:VK),bG X Y σ H s->cP xs us->r xs H Q->
  wpAny (model X.prog X.w) X.A (call f us) (EP X Y σ Q) X.xe s
def a7f(X:Cx)(r:V->Hp->(Bool->Hp->Prop)->Prop):Prop :=
 ∀(Y:List (Addr×Obj)) (s:Shared) (σ:St) (H:Hp) (x:V) (v:Value) (Q:Bool->Hp->Prop),bG X Y σ H s->cQ x v->r x H Q->
  wpAny (model X.prog X.w) X.A (truthy v) (TP X Y σ Q) X.xe s
def tOp(r:R2)(ta tb:TE):TE:=λσ H Q=>ta σ H λx H1=>tb σ H1 λy H2=>r x y H2 Q
inductive rI(C:Int->Int->Prop)(g:Int->Int->V)(x:V)(y:V)(H:Hp)(Q:VK):Prop
 |mk (i j:_) (_:x=.int i) (_:y=.int j) (_:C i j) (_:Q (g i j) H)
inductive rI0(g:Int->Int->V)(x:V)(y:V)(H:Hp)(Q:VK):Prop
 |mk (i j:_) (_:x=.int i) (_:y=.int j) (_:Q (g i j) H)
section
variable{X:Cx}{a b:Expr}{tb tc:TE}
def a2X(ha:PE X a ta)(hb:PE X b tb){Y:List (Addr×Obj)}{s:Shared}{σ:St}{H:Hp}{R:V->V->Hp->Prop}(I:bG X Y σ H s)
  (h:ta σ H λx H1=>tb σ H1 λy H2=>R x y H2) {Q:Value->Shared->Prop}{f:Value->Value->Sem Value}
  (hf:∀v u s2 x y H2,bG X Y σ H2 s2->cQ x v->cQ y u->R x y H2->wpAny (model X.prog X.w) X.A (f v u) Q X.xe s2) :
  wpAny (model X.prog X.w) X.A (eval a X.env) (λv s₁=>wpAny (model X.prog X.w) X.A (eval b X.env) (λu s₂=>wpAny (model X.prog X.w) X.A (f v u) Q X.xe s₂) X.xe s₁) X.xe s:=by
 exact jr (ha Y s σ H _ I h) λv s1 ⟨x,H1,I1,r1,q1⟩=>jr (hb Y s1 σ H1 _ I1 q1) λu s2 ⟨y,H2,I2,r2,q2⟩=>hf v u s2 x y H2 I2 r1 r2 q2
def bQ{op:Operator}{r:R2}(ho:rz X (binaryOp op) r)(ha:PE X a ta)(hb:PE X b tb):PE X (.BinOp a op b pos) (tOp r ta tb):=by
 intro Y s σ H Q I h;exact wpAny_BinOp (a2X ha hb I h λv u s2 x y H2 I2 rx ry q=>ho Y s2 σ H2 x y v u Q I2 rx ry q)
def opI{f:Value->Value->Sem Value}{C:Int->Int->Prop}{g:Int->Int->Int}
  (rule:∀(i j:Int) (t u:Tok) (s:Shared) (Q:Value->Shared->Prop) (E:Value->Shared->Prop),C i j->Q (.int (g i j) s.toks) { s with toks:=s.toks+1}->wpAny (model X.prog X.w) X.A (f (.int i t) (.int j u)) Q E s) :
  rz X f (rI C λi j=>.int (g i j)):=by
 symm;obtain⟨i,j,rfl,rfl,hc,q⟩:=h;obtain⟨t,rfl⟩:=rx;obtain⟨t',rfl⟩:=ry;exact rule i j t t' s _ _ hc ⟨.int (g i j),H,I.tok _,⟨_,Z⟩,q⟩
def a5k{f:Value->Value->Sem Value}{g:Int->Int->Int}
  (rule:∀(i j:Int) (t u:Tok) (s:Shared) (Q:Value->Shared->Prop) (E:Value->Shared->Prop),Q (.int (g i j) s.toks) { s with toks:=s.toks+1}->wpAny (model X.prog X.w) X.A (f (.int i t) (.int j u)) Q E s) :
  rz X f (rI0 λi j=>.int (g i j)):=by
 symm;obtain⟨i,j,rfl,rfl,q⟩:=h;obtain⟨t,rfl⟩:=rx;obtain⟨t',rfl⟩:=ry;exact rule i j t t' s _ _ ⟨.int (g i j),H,I.tok _,⟨_,Z⟩,q⟩
def a0d{f:Value->Value->Sem Value}{g:Int->Int->Bool}
  (rule:∀(i j:Int) (t u:Tok) (s:Shared) (Q:Value->Shared->Prop) (E:Value->Shared->Prop),Q (.bool (g i j)) s->wpAny (model X.prog X.w) X.A (f (.int i t) (.int j u)) Q E s) :
  rz X f (rI0 λi j=>.bl (g i j)):=by
 symm;obtain⟨i,j,rfl,rfl,q⟩:=h;obtain⟨t,rfl⟩:=rx;obtain⟨t',rfl⟩:=ry;exact rule i j t t' s _ _ ⟨.bl (g i j),H,I,Z,q⟩
def a7g(i j:Int):Prop:=0<j/\j<1073741824
def a7h(i j:Int):Prop:=0<=j/\j<=1000000/\i.natAbs<2^64
def a2Y(i j:Int):Prop:=(-(2^64)<i/\i<2^64)\/(-(2^64)<j/\j<2^64)
def a2Y.ok{i j:Int}(h:a2Y i j):IntMulOk i j:=by
 rcases h with⟨h1,h2⟩|⟨h1,h2⟩
 ·exact .of_left (intBits_le_64 h1 h2)
 ·exact .of_right (intBits_le_64 h1 h2)
def gw:rz X (binaryOp .Add) (rI0 λi j=>.int (i+j)):=a5k λ_ _ _ _ _ _ _ q=>add_int q
def Vm:rz X (binaryOp .Sub) (rI0 λi j=>.int (i-j)):=a5k λ_ _ _ _ _ _ _ q=>sub_int q
def wK:rz X (binaryOp .Mult) (rI a2Y λi j=>.int (i*j)):=opI λ_ _ _ _ _ _ _ hc q=>mul_int q hc.ok
def a0e:rz X (binaryOp .FloorDiv) (rI a7g λi j=>.int (i/j)):=opI λi j _ _ _ _ _ hc q=>by
 have h1:(0:Int)<j:=hc.1;have h2:j<1073741824:=hc.2;exact floordiv_int () (by rw[Int.fdiv_eq_ediv_of_nonneg i ()];exact q) (.inl (PyProof.noPylong_small ()))
def kj:rz X (binaryOp .Mod) (rI (λ_ j=>0<j) λi j=>.int (i%j)):=opI λi j _ _ _ _ _ hc q=>by
 have h1:(0:Int)<j:=hc;exact mod_int' () (by rw[Int.fmod_eq_emod_of_nonneg i ()];exact q)
def a2Z:rz X (binaryOp .Pow) (rI a7h λi j=>.int (i^j.toNat)):=opI λ_ _ _ _ _ _ _ hc q=>pow_int_small hc.1 hc.2.1 hc.2.2 q
end
def a5l:V->V->Bool
 |.non,.non=>true |.non,.int _=>true |.int _,.non=>true |.non,.bl _=>true |.bl _,.non=>true |.non,.str _=>true |.str _,.non=>true
 |.int _,.int _=>true |.bl _,.bl _=>true |.str _,.str _=>true |.W9 _,.W9 _=>true
 |.int _,.str _=>true |.str _,.int _=>true |.bl _,.str _=>true |.str _,.bl _=>true
 |_,_=>false
def rEq:R2:=λx y H Q=>a5l x y=true/\Q (.bl (decide (x=y))) H
def rNe:R2:=λx y H Q=>a5l x y=true/\Q (.bl (!decide (x=y))) H
def Xg{i j:Int}:decide (V.int i=V.int j)=(i==j):=by
 rw[tO];simp
def ÿ{i j:Bool}:decide (V.bl i=V.bl j)=(i==j):=by
 rw[tO];simp
def Xh{i j:Str}:decide (V.str i=V.str j)=(i==j):=by
 rw[tO];simp
def Xi{i j:Array UInt8}:decide (V.W9 i=V.W9 j)=(i.toList==j.toList):=by
 rw[tO];cases i;cases j;simp
section
variable{X:Cx}{a b:Expr}{tb tc:TE}
def eX{Y:List (Addr×Obj)}{σ:St}{H:Hp}{s:Shared}{Q:VK}{k k':Bool}(I:bG X Y σ H s)(q:Q (.bl k) H)(e:k=k'):EP X Y σ Q (.bool k') s:=by
 subst e;exact⟨.bl k,H,I,Z,q⟩
def oH:rz X (compareOp .Eq) rEq:=by
 symm;obtain⟨hs,q⟩:=h;cases x with
 |non =>
  cases rx;cases y with
  |non=>cases ry;exact PySem.EqNone.eq_none_none (eX I q (by simp))
  |bl j=>cases ry;exact PySem.EqNone.eq_none_bool (eX I q (by simp))
  |int j=>obtain⟨t',rfl⟩:=ry;exact PySem.EqNone.eq_none_int (eX I q (by simp))
  |str j=>obtain⟨t',rfl⟩:=ry;exact PySem.EqNone.eq_none_str (eX I q (by simp))
  |_=>exact absurd (show false=true from hs) dB
 |bl i =>
  cases rx;cases y with
  |non=>cases ry;exact PySem.EqNone.eq_bool_none (eX I q (by simp))
  |bl j=>cases ry;exact eq_bool (eX I q ÿ)
  |str j=>obtain⟨t',rfl⟩:=ry;exact PySem.EqMixed.eq_bool_str (eX I q (by simp))
  |_=>exact absurd (show false=true from hs) dB
 |int i =>
  obtain⟨t,rfl⟩:=rx;cases y with
  |non=>cases ry;exact PySem.EqNone.eq_int_none (eX I q (by simp))
  |int j=>obtain⟨t',rfl⟩:=ry;exact eq_int (eX I q Xg)
  |str j=>obtain⟨t',rfl⟩:=ry;exact PySem.EqMixed.eq_int_str (eX I q (by simp))
  |_=>exact absurd (show false=true from hs) dB
 |str i =>
  obtain⟨t,rfl⟩:=rx;cases y with
  |non=>cases ry;exact PySem.EqNone.eq_str_none (eX I q (by simp))
  |bl j=>cases ry;exact PySem.EqMixed.eq_str_bool (eX I q (by simp))
  |int j=>obtain⟨t',rfl⟩:=ry;exact PySem.EqMixed.eq_str_int (eX I q (by simp))
  |str j=>obtain⟨t',rfl⟩:=ry;exact eq_str (eX I q Xh)
  |_=>exact absurd (show false=true from hs) dB
 |W9 i =>
  obtain⟨t,rfl⟩:=rx;cases y with
  |W9 j=>obtain⟨t',rfl⟩:=ry;exact PySem.W.eq_bytes (eX I q Xi)
  |_=>exact absurd (show false=true from hs) dB
 |_=>cases y<;>exact absurd (show false=true from hs) dB
def Ji:rz X (compareOp .NotEq) rNe:=by
 symm;obtain⟨hs,q⟩:=h;cases x with
 |non =>
  cases rx;cases y with
  |non=>cases ry;exact PySem.EqNone.ne_none_none (eX I q (by simp))
  |bl j=>cases ry;exact PySem.EqNone.ne_none_bool (eX I q (by simp))
  |int j=>obtain⟨t',rfl⟩:=ry;exact PySem.EqNone.ne_none_int (eX I q (by simp))
  |str j=>obtain⟨t',rfl⟩:=ry;exact PySem.EqNone.ne_none_str (eX I q (by simp))
  |_=>exact absurd (show false=true from hs) dB
 |bl i =>
  cases rx;cases y with
  |non=>cases ry;exact PySem.EqNone.ne_bool_none (eX I q (by simp))
  |bl j=>cases ry;exact ne_bool (eX I q (congrArg not ÿ))
  |str j=>obtain⟨t',rfl⟩:=ry;exact PySem.EqMixed.ne_bool_str (eX I q (by simp))
  |_=>exact absurd (show false=true from hs) dB
 |int i =>
  obtain⟨t,rfl⟩:=rx;cases y with
  |non=>cases ry;exact PySem.EqNone.ne_int_none (eX I q (by simp))
  |int j=>obtain⟨t',rfl⟩:=ry;exact ne_int (eX I q (congrArg not Xg))
  |str j=>obtain⟨t',rfl⟩:=ry;exact PySem.EqMixed.ne_int_str (eX I q (by simp))
  |_=>exact absurd (show false=true from hs) dB
 |str i =>
  obtain⟨t,rfl⟩:=rx;cases y with
  |non=>cases ry;exact PySem.EqNone.ne_str_none (eX I q (by simp))
  |bl j=>cases ry;exact PySem.EqMixed.ne_str_bool (eX I q (by simp))
  |int j=>obtain⟨t',rfl⟩:=ry;exact PySem.EqMixed.ne_str_int (eX I q (by simp))
  |str j=>obtain⟨t',rfl⟩:=ry;exact ne_str (eX I q (congrArg not Xh))
  |_=>exact absurd (show false=true from hs) dB
 |W9 i =>
  obtain⟨t,rfl⟩:=rx;cases y with
  |W9 j=>obtain⟨t',rfl⟩:=ry;exact PySem.W.ne_bytes (eX I q (congrArg not Xi))
  |_=>exact absurd (show false=true from hs) dB
 |_=>cases y<;>exact absurd (show false=true from hs) dB
def Jj:rz X (compareOp .Lt) (rI0 λi j=>.bl (decide (i<j))):=a0d λ_ _ _ _ _ _ _ q=>lt_int q
def a5m:rz X (compareOp .LtE) (rI0 λi j=>.bl (decide (i<=j))):=a0d λ_ _ _ _ _ _ _ q=>le_int q
def Jk:rz X (compareOp .Gt) (rI0 λi j=>.bl (decide (j<i))):=a0d λ_ _ _ _ _ _ _ q=>gt_int q
def a5n:rz X (compareOp .GtE) (rI0 λi j=>.bl (decide (j<=i))):=a0d λ_ _ _ _ _ _ _ q=>ge_int q
def Ā : rz X (compareOp .Is) (fun x y H Q => y = .non ∧ Q (.bl (decide (x = .non))) H) := by
  symm;obtain ⟨rfl, q⟩ := h;cases ry;refine is_none_gen (eX I q ?_);cases x <;> first
    | (cases rx; rfl)
    | (obtain ⟨t, rfl⟩ := rx; rfl)
def a0f : rz X (compareOp .IsNot) (fun x y H Q => y = .non ∧ Q (.bl (!decide (x = .non))) H) := by
  symm;obtain ⟨rfl, q⟩ := h;cases ry;refine isnot_none_gen (eX I q ?_);cases x <;> first
    | (cases rx; rfl)
    | (obtain ⟨t, rfl⟩ := rx; rfl)
def Vn(b:Expr)(h:op≠.In:=by decide)(h2:op≠.NotIn:=by decide):behindInMarks op b=false:=by
 have e1:(op==CmpOp.In)=false:=by cases op<;>first|rfl|exact absurd Z h
 have e2:(op==CmpOp.NotIn)=false:=by cases op<;>first|rfl|exact absurd Z h2
 cases b<;>simp[behindInMarks,e1,e2]
def zu{r:R2}(ho:rz X (compareOp op) r)(ha:PE X a ta)(hb:PE X b tb)(hm:behindInMarks op b=false:=by exact Vn _):PE X (.Compare a [op] [b] pos) (tOp r ta tb):=by
 intro Y s σ H Q I h;exact wpAny_Compare1 (a2X ha hb I h λv u s2 x y H2 I2 rx ry q=>ho Y s2 σ H2 x y v u Q I2 rx ry q) hm
def a2n(t:TE):TT:=λσ H Q=>t σ H λx H'=>EA (λk=>x=.bl k) λk=>Q k H'
def aP{r:R2}(ho:rz X (compareOp op) r)(ha:PE X a ta)(hb:PE X b tb)(hm:behindInMarks op b=false:=by exact Vn _):PT X (.Compare a [op] [b] pos) (a2n (tOp r ta tb)):=by
 intro Y s σ H Q I h;refine wpAny_isTrue_Compare1 (jr (ha Y s σ H _ I h) λv s1 ⟨x,H1,I1,r1,q1⟩=>jr (hb Y s1 σ H1 _ I1 q1) λu s2 ⟨y,H2,I2,r2,q2⟩ =>
  jr (ho Y s2 σ H2 x y v u _ I2 r1 r2 q2) λc s3 ⟨z,H3,I3,r3,k,e,q3⟩=>?_) hm
 subst e;cases r3;exact Aj ⟨H3,I3,q3⟩
def a3a(r r':R2)(ta tb tc:TE):TE:=λσ H Q=>ta σ H λx H1=>tb σ H1 λy H2=>r x y H2 λz H3=>∃k,z=.bl k/\
 (if k=true then tc σ H3 λw' H4=>r' y w' H4 Q else Q (.bl false) H3)
def ā{op':CmpOp}{r r':R2}(ho:rz X (compareOp op) r)(ho':rz X (compareOp op') r')(ha:PE X a ta)(hb:PE X b tb)(hc:PE X c tc)
  (hm:lastMarks [op,op'] [b,c]=false:=by with_unfolding_all rfl):PE X (.Compare a [op,op'] [b,c] pos) (a3a r r' ta tb tc):=by
 intro Y s σ H Q I h;refine Compare_chain (jr (ha Y s σ H _ I h) λv s1 ⟨x,H1,I1,r1,q1⟩=>chain_link (jr (hb Y s1 σ H1 _ I1 q1) λu s2 ⟨y,H2,I2,r2,q2⟩ =>
  jr (ho Y s2 σ H2 x y v u _ I2 r1 r2 q2) λd s3 ⟨z,H3,I3,r3,k,e,q3⟩=>?_)) hm
 subst e;cases r3;refine Aj ?_;cases k with
 |false=>exact ite_ff ⟨.bl false,H3,I3,Z,q3⟩
 |true=>exact ite_tt (chain_last (jr (hc Y s3 σ H3 _ I3 q3) λw' s4 ⟨z',H4,I4,r4,q4⟩=>ho' Y s4 σ H4 y z' u w' Q I4 r2 r4 q4))
def Ă(K:aH)(x:V)(H:Hp)(k:Bool):Prop :=
 match x with
 |.non=>k=false
 |.bl b=>k=b
 |.int i=>k=(i != 0)
 |.str y=>y.length<=sizeLine/\k=((y.length:Int) != 0)
 |.W9 y=>y.size<=sizeLine/\k=((y.size:Int) != 0)
 |.ref p=>(∃xs,bC K H p xs/\k = !xs.isEmpty)\/(∃xs,cO K H p xs/\k = !xs.isEmpty)\/∃J,H p=some (.dK J)/\k = !J.isEmpty
 |_=>False
def Vo{κ:Type}{J:List (κ×V)}{vs:List (κ×Value)}(r:KV J vs):(!vs.isEmpty) = !J.isEmpty:=by
 cases r<;>rfl
def Jl{xs:List V}{b7:List Value}(r:cP xs b7):(!b7.toArray.isEmpty) = !xs.isEmpty:=by
 cases r<;>simp
def PK:(sizeLine:Nat)<2^63:=by rw[iU];decide
def Vp:a7f X (λx H Q=>∃k,Ă X.K x H k/\Q k H):=by
 intro Y s σ H x v Q I rx h;obtain⟨k,e,q⟩:=h;have hl:=PK;have hs:sizeLine=16777216:=iU;cases x with
 |non =>
  cases rx;have e':k=false:=e;subst e';exact truthy_none ⟨H,I,q⟩
 |bl b =>
  cases rx;have e':k=b:=e;subst e';exact Aj ⟨H,I,q⟩
 |int i =>
  obtain⟨t,rfl⟩:=rx;have e':k=(i != 0):=e;subst e';exact PySem.P.truthy_int ⟨H,I,q⟩
 |str y =>
  obtain⟨t,rfl⟩:=rx;obtain⟨hy,e'⟩:y.length<=sizeLine/\k=((y.length:Int) != 0):=e;subst e';exact PySem.P.truthy_str () ⟨H,I.tok _,q⟩
 |W9 y =>
  obtain⟨t,rfl⟩:=rx;obtain⟨hy,e'⟩:y.size<=sizeLine/\k=((y.size:Int) != 0):=e;subst e';exact PySem.W.truthy_bytes () ⟨H,I.tok _,q⟩
 |ref p =>
  cases rx;have e':(∃xs,bC X.K H p xs/\k = !xs.isEmpty)\/(∃xs,cO X.K H p xs/\k = !xs.isEmpty)\/∃J,H p=some (.dK J)/\k = !J.isEmpty:=e;rcases e' with⟨xs,hx,e'⟩|⟨xs,hx,e'⟩|⟨J,hx,e'⟩
  ·subst e';obtain⟨b7,r,pl,hz⟩:=I.list hx;have hlen:=r.length;exact wpAny_truthy_list pl.isList (by simp only[List.size_toArray];omega) ⟨H,I.tok _,by rw[Jl r];exact q⟩
  ·subst e';obtain⟨b7,r,pl,hz⟩:=I.tuple hx;have hlen:=r.length;exact truthy_tuple pl (by simp only[List.size_toArray];omega) ⟨H,I.tok _,by rw[Jl r];exact q⟩
  ·subst e';obtain⟨hz,hS,vs,r,m⟩:J.length<=sizeLine/\(p==sysModules)=false/\∃vs,KV J vs/\s.heap.DictOf (dJ X.prog X.w) p vs:=I.hok p _ hx;have hlen:J.length=vs.length:=aM r;exact wpAny_truthy_dict hS m () ⟨H,I.tok _,by rw[Vo r];exact q⟩
 |_=>exact(show False from e).elim
def ă(ha:PE X a ta)(he:∀whole,isTrue a X.env whole=(do let v <-whole;standAt a.pos;holding [v] (truthy v))) :
  PT X a (λσ H Q=>ta σ H λx H'=>∃k,Ă X.K x H' k/\Q k H'):=by
 intro Y s σ H Q I h;exact isTrue_plain (jr (ha Y s σ H _ I h) λv s1 ⟨x,H1,I1,r1,q1⟩=>Vp Y s1 σ H1 x v Q I1 r1 q1) (he _)
def vals1{x:V}{us:List Value}(r:cP [x] us):∃u,us=[u]/\cQ x u:=by
 cases r with
 |cons r1 r2=>cases r2;exact⟨_,Z,r1⟩
def vals2{x y:V}{us:List Value}(r:cP [x,y] us):∃u w',us=[u,w']/\cQ x u/\cQ y w':=by
 cases r with
 |cons r1 r2 =>
  cases r2 with
  |cons r3 r4=>cases r4;exact⟨_,_,Z,r1,r3⟩
def YZ(hc:X.calm=true):jF X (.builtin "max") (λxs H Q=>∃i j,xs=[.int i,.int j]/\Q (.int (if j>i then j else i)) H):=by
 intro Y s σ H xs us Q I r h;obtain⟨i,j,rfl,q⟩:=h;obtain⟨u,w',rfl,⟨t,rfl⟩,⟨t',rfl⟩⟩:=vals2 r;refine max_two_ints (I.ok.hd hc) λh' tk k=>⟨_,H,I.kept k,?_,q⟩;by_cases hj:j>i
 ·rw[aF hj,aF hj];exact⟨_,Z⟩
 ·rw[aq hj,aq hj];exact⟨_,Z⟩
def Mr(hc:X.calm=true):jF X (.builtin "min") (λxs H Q=>∃i j,xs=[.int i,.int j]/\Q (.int (if j<i then j else i)) H):=by
 intro Y s σ H xs us Q I r h;obtain⟨i,j,rfl,q⟩:=h;obtain⟨u,w',rfl,⟨t,rfl⟩,⟨t',rfl⟩⟩:=vals2 r;refine min_two_ints (I.ok.hd hc) λh' tk k=>⟨_,H,I.kept k,?_,q⟩;by_cases hj:j<i
 ·rw[aF hj,aF hj];exact⟨_,Z⟩
 ·rw[aq hj,aq hj];exact⟨_,Z⟩
end
structure Vq(h:Heap)(x dx C:Addr)(mA:Str->Option Value):Prop where
 obj:h.get? x=some (PySem.W.instObj C dx)
 ns:h.Ns1 dx mA
 ne:dx≠x
set_option tactic.hygienic true in
def Y0{dx:Addr}(n:h.Ns1 dx mA):∃od,h.get? dx=some od/\∀name,PySem.W.lookIn name od=some (mA name):=by
 obtain⟨o,es,ep,ho,hd,hk,_,hm⟩:=n;refine⟨o,ho,λname=>?_⟩;have e:=hm name;unfold nsFind findBy at e;rw[<-Array.find?_toList]at e;unfold PySem.W.lookIn;rw[hd];dsimp only;split
 ·rename_i y q;rw[q]at e;exact congrArg some e
 ·rename_i q;rw[q]at e;have a:es.toList.any (·.refKey)=false:=by
   rw[List.any_eq_false];intro y hy;obtain⟨z,t,hkey⟩:=hk y (Array.mem_toList_iff.mp hy);simp[DictEntry.refKey,hkey]
  have a':¬es.toList.any (·.refKey)=true:=by rw[a];exact dB
  rw[aq a'];exact congrArg some e
def Vq.look{x dx C:Addr}(I:Vq h x dx C mA):∃od,PySem.W.InstAt h x (PySem.W.instObj C dx) C (some od)/\∀name,PySem.W.lookIn name od=some (mA name) :=
 let⟨od,ho,hl⟩:=Y0 I.ns
 ⟨od,⟨I.obj,Z,Z,ho⟩,hl⟩
section
variable{prog:Program}{w:World}{E:Value->Shared->Prop}{s:Shared}{x dx C f:Addr}{name:Str}{v:Value}
def get_map{expr:Bool}{Q:Value->Shared->Prop}(X:K.In s.heap)(I:Vq s.heap x dx C mA)(hg:PySem.W.plainGet K C name=true)(hh:PySem.W.hasDictIn K C=true)
  (ha:PySem.W.findIn K (.ref C) name=some none) (hv:mA name=some v) (hv':PySem.W.handedIn v=true) (h:Q v { s with toks:=s.toks+1}) :
  wpAny (model prog w) A (getAttr (.ref x) name expr) Q E s:=by
 obtain⟨od,Z97,hl⟩:=I.look;exact PySem.W.get_value X Z97 (Us hg).1 (PySem.W.findObj_own hh ha Z (by rw[hl,hv])) hv' h
def Ą{Q:Value×List Value->Shared->Prop}(X:K.In s.heap)(I:Vq s.heap x dx C mA)(hg:PySem.W.plainGet K C name=true)
  (hf:PySem.W.findIn K (.ref C) name=some (some (.ref f))) (ht:PySem.W.isFn K (.ref f)=true) (hv:mA name=none) (h:Q (.ref f,[.ref x]) s) :
  wpAny (model prog w) A (getMethod (.ref x) name pl) Q E s:=by
 obtain⟨od,Z97,hl⟩:=I.look;exact PySem.W.method_fn X Z97 (Us hg).1 (Us hg).2 hf (Je.mp ht) (by show(PySem.W.lookIn name od).map (·.isSome)=some false;rw[hl,hv];rfl) h
def a0g{ns:List Str}{Q:Unit->Shared->Prop}(X:K.In s.heap)(I:Vq s.heap x dx C mA)
  (hs:PySem.W.findIn K (.ref C) "__setattr__" = some (some (.builtin "object.__setattr__"))) (hp:PySem.W.plainOver K C=true) (ht:PySem.W.takerIn K C name=some none) (hh:PySem.W.hasDictIn K C=true)
  (hw:PySem.Within mA ns) (hsz:ns.length<=sizeLine)
  (h:∀h',Vq h' x dx C (λy=>if y=name then some v else mA y)->Heap.SameBut dx s.heap h'->Q ⟨⟩ { s with heap:=h',toks:=s.toks+2}) :
  wpAny (model prog w) A (setAttr (.ref x) name v) Q E s:=by
 obtain⟨od,Z97,hl⟩:=I.look;refine PySem.W.set_plain X Z97 hs (PySem.W.osa_open (s:={ s with toks:=s.toks+1}) (r:=none) X Z97 hp ht λb=>?_);obtain⟨cd,hc,hd'⟩:=PySem.W.any_some hh;have hx:s.heap.get? x=some ⟨.ref C,some dx,.plain,#[]⟩:=I.obj;refine M (ao (M (M (wpAny_loadPart hx (M (PySem.W.Looks.here (s:={ s with toks:=s.toks+1}) (PySem.W.looks_clsIn X hc) ?_))))));rw[hd'];refine ao (a:=some dx) (M (ao (M (wpAny_nsSet1 (s:={ s with toks:=s.toks+1}) I.ns λh' hn2 hs2=>?_))));obtain⟨oD,esD,epD,hoD,hdD,hcD⟩:=hn2.count (PySem.Within.cons name v hw);refine M (wpAny_lookBehind hoD (by rw[hdD];exact pastItsLine_dict (dI hcD (by rw[jE];omega))) ?_);exact ao (h _ ⟨(hs2.2 _ (Ne.symm I.ne)).trans I.obj,hn2,I.ne⟩ hs2)
def ą{R:Result->Shared->Prop}{vs:List Value}(X:K.In s.heap)(hm:PySem.W.makesIn K C=true)
  (hi:PySem.W.findIn K (.ref C) "__init__" = some (some (.ref f))) (hf:PySem.W.typeIn K (.ref f)=some (.type "function"))
  (h:codeAny (model prog w) (A.under (.builtin "type.__call__" ⟨.ref C::vs,kw⟩)) (.call (.ref f) ⟨.ref (s⁻¹+1)::vs,kw⟩) (PySem.W.InitBack (s⁻¹+1) R)
   { s with heap:=(s.heap.push PySem.W.emptyDict).push (PySem.W.instObj C s⁻¹)}) :
  codeAny (model prog w) A (.call (.ref C) ⟨vs,kw⟩) R s:=by
 obtain⟨hh,g,d,t,os⟩:=s;exact PySem.W.make_core (PySem.W.makes_of X hm) (PySem.W.looks_findIn X hi) (λself=>PySem.W.bind_fn X self hf) (.inl Z) h
end
def wL(f:Str)(v:V):List (Str×V)->List (Str×V)
 | []=>[(f,v)]
 |(g,x)::r=>if g=f then(g,v)::r else(g,x)::wL f v r
theorem FW(f g:Str)(v:V):∀fs:List (Str×V),(wL f v fs).lookup g=if g=f then some v else fs.lookup g
 | []=>by
  show List.lookup g [(f,v)]=_
  by_cases h:g=f
  ·have hb:(g==f)=true:=Je.mpr h
   simp only[List.lookup,hb,if_pos h]
  ·have hb:(g==f)=false:=wA.mpr h
   simp only[List.lookup,hb,if_neg h]
 |(k,x)::r=>by
  have ih:=FW f g v r
  rw[show wL f v ((k,x)::r)=(if k=f then(k,v)::r else(k,x)::wL f v r)from rfl]
  by_cases hk:k=f
  ·rw[aF hk]
   by_cases h:g=k
   ·have hb:(g==k)=true:=Je.mpr h
    simp only[List.lookup,hb,if_pos (h.trans hk)]
   ·have hb:(g==k)=false:=wA.mpr h
    simp only[List.lookup,hb,if_neg (λe:g=f=>h (e.trans hk.symm))]
  ·rw[aq hk]
   by_cases h:g=k
   ·have hb:(g==k)=true:=Je.mpr h
    simp only[List.lookup,hb,if_neg (λe:g=f=>hk (h.symm.trans e))]
   ·have hb:(g==k)=false:=wA.mpr h
    simp only[List.lookup,hb]
    exact ih
theorem Et(f:Str)(v:V):∀fs:List (Str×V),f∈(wL f v fs).map (·.1)/\∀g,g∈fs.map (·.1)->g∈(wL f v fs).map (·.1)
 | []=>⟨by simp[wL],λg h=>by simp at h⟩
 |(k,x)::r=>by
  obtain⟨i1,i2⟩:=Et f v r
  rw[show wL f v ((k,x)::r)=(if k=f then(k,v)::r else(k,x)::wL f v r)from rfl]
  by_cases hk:k=f
  ·rw[aF hk]
   subst hk
   exact⟨by simp,λg h=>by simpa using h⟩
  ·rw[aq hk]
   refine⟨?_,λg h=>?_⟩
   ·rw[bV]
    exact aY _ i1
   ·rw[bV]at h ⊢
    rcases cB.mp h with e|e
    ·exact cB.mpr (.inl e)
    ·exact aY _ (i2 g e)
theorem FZ(f:Str)(v:V):∀fs:List (Str×V),(wL f v fs).length<=fs.length+1
 | []=>by simp[wL]
 |(k,x)::r=>by
  have ih:=FZ f v r
  rw[show wL f v ((k,x)::r)=(if k=f then(k,v)::r else(k,x)::wL f v r)from rfl]
  by_cases hk:k=f
  ·rw[aF hk,jE,jE];omega
  ·rw[aq hk,jE,jE];omega
def sX.some_of{v:V}{o:Option Value}(r:sX (some v) o):∃u,o=some u/\cQ v u:=by
 cases o with
 |none=>exact(show False from r).elim
 |some u=>exact⟨u,Z,r⟩
def sX.none_of{o:Option Value}(r:sX none o):o=none:=by
 cases o with
 |none=>rfl
 |some u=>exact(show False from r).elim
def Y4{v:V}{u:Value}(r:cQ v u):PySem.W.handedIn u=true:=by
 cases v with
 |non=>cases(show u=Value.none from r);rfl
 |bl b=>cases(show u=Value.bool b from r);rfl
 |int i=>obtain⟨t,e⟩:=(show ∃t,u=Value.int i t from r);cases e;rfl
 |str x=>obtain⟨t,e⟩:=(show ∃t,u=Value.str x t from r);cases e;rfl
 |W9 b=>obtain⟨t,e⟩:=(show ∃t,u=Value.bytes b t from r);cases e;rfl
 |flt b=>obtain⟨t,e⟩:=(show ∃t,u=Value.float b t from r);cases e;rfl
 |ref a=>cases(show u=Value.ref a from r);rfl
 |ty n=>cases(show u=Value.type n from r);rfl
section
variable{P:Program}{w:World}{H H':Hp}{a C dx:Addr}{fs fs':List (Str×V)}
def Hl(hok:zO P w H h)(e:H a=some (.ins C dx fs)):∃mA,Vq h a dx C mA/\(∀f,sX (fs.lookup f) (mA f))/\PySem.Within mA (fs.map (·.1))/\fs.length<=1000/\H dx=some (.own a):=by
 obtain⟨d,z,ne,ob,mA,n,r,q⟩:=(show fM P w H h a (.ins C dx fs)from hok a _ e);exact⟨mA,⟨ob,n,ne⟩,r,q,z,d⟩
end
structure Cls(K:aH)(C:Addr):Prop where
 pg:PySem.W.plainGet K C Str.empty=true
 hd:PySem.W.hasDictIn K C=true
 po:PySem.W.plainOver K C=true
 sa:PySem.W.findIn K (.ref C) "__setattr__" = some (some (.builtin "object.__setattr__"))
def Cls.get{C:Addr}(c:Cls K C)(f:Str):PySem.W.plainGet K C f=true:=c.pg
def eY(K:aH)(C:Addr)(f:Str):Prop:=PySem.W.findIn K (.ref C) f=some none
def eY.taker{C:Addr}{f:Str}(n:eY K C f):PySem.W.takerIn K C f=some none:=by
 unfold PySem.W.takerIn;rw[show PySem.W.findIn K (.ref C) f=some none from n];rfl
structure Meth(K:aH)(C:Addr)(m:Str)(f:Addr):Prop where
 at_:PySem.W.findIn K (.ref C) m=some (some (.ref f))
 fn:PySem.W.isFn K (.ref f)=true
 kp:PySem.W.keepIn K (.ref f)=true
section
variable{X:Cx}{Y:List (Addr×Obj)}{σ:St}{H:Hp}{s:Shared}{a C dx:Addr}{fs:List (Str×V)}{f:Str}{v:V}{E:Value->Shared->Prop}
def Vr{b:Bool}{Q:Value->Shared->Prop}(I:bG X Y σ H s)(e:H a=some (.ins C dx fs))(c:Cls X.K C)(n:eY X.K C f)(l:fs.lookup f=some v)
  (h:∀u s',bG X Y σ H s'->cQ v u->Q u s'):wpAny (model X.prog X.w) A (getAttr (.ref a) f b) Q E s:=by
 obtain⟨mA,Z96,r,_,_,_⟩:=Hl I.hok e;obtain⟨u,hu,ru⟩:=sX.some_of (v:=v) (o:=mA f) (by rw[<-l];exact r f);exact get_map I.DR Z96 (c.get f) c.hd n hu (Y4 ru) (h u _ (I.tok _) ru)
def Vs{m:Str}{g:Addr}{Q:Value×List Value->Shared->Prop}(I:bG X Y σ H s)(e:H a=some (.ins C dx fs))(c:Cls X.K C)(k:Meth X.K C m g)(l:fs.lookup m=none)
  (h:Q (.ref g,[.ref a]) s):wpAny (model X.prog X.w) A (getMethod (.ref a) m pl) Q E s:=by
 obtain⟨mA,Z96,r,_,_,_⟩:=Hl I.hok e;have hn:mA m=none:=sX.none_of (by rw[<-l];exact r m);exact Ą I.DR Z96 (c.get m) k.at_ k.fn hn h
def Vt{y:V}{u:Value}{Q:Unit->Shared->Prop}(I:bG X Y σ H s)(e:H a=some (.ins C dx fs))(c:Cls X.K C)(n:eY X.K C f)(hl:fs.length<1000)(ry:cQ y u)
  (h:∀s',bG X Y σ (cN H a (.ins C dx (wL f y fs))) s'->Q ⟨⟩ s'):wpAny (model X.prog X.w) A (setAttr (.ref a) f u) Q E s:=by
 obtain⟨mA,Z96,r,wi,_,ho⟩:=Hl I.hok e;have hz:(fs.map (·.1)).length<=sizeLine:=by rw[aJ,iU];omega
 refine a0g I.DR Z96 c.sa c.po n.taker c.hd wi hz λh' O' sb=>h _ ?_;have hd:∃o,h'.get? dx=some o:=let⟨o,_,_,e',_⟩:=O'.ns;⟨o,e'⟩
 refine I.write (x:=a) (e:=dx) (by rw[e];exact mL) (.inr ho) (λb q hb z=>(sb.2 b hb).trans z) hd ?_;refine⟨by rw[aU Z96.ne];exact ho,?_,Z96.ne,O'.obj,_,O'.ns,λg=>?_,λg hg=>?_⟩
 ·have:=FZ f y fs;omega
 ·show sX ((wL f y fs).lookup g) (if g=f then some u else mA g);rw[FW];by_cases q:g=f
  ·rw[aF q,aF q];exact ry
  ·rw[aq q,aq q];exact r g
 ·by_cases q:g=f
  ·rw[q];exact(Et f y fs).1
  ·refine(Et f y fs).2 g (wi g λz=>hg ?_);show(if g=f then some u else mA g)=none;rw[aq q];exact z
def bG.made(I:bG X Y σ H s):bG X Y σ (cN (cN H s⁻¹ (.own (s⁻¹+1))) (s⁻¹+1) (.ins C s⁻¹ []))
  { s with heap:=(s.heap.push PySem.W.emptyDict).push (PySem.W.instObj C s⁻¹)}:=by
 have e1:(s.heap.push PySem.W.emptyDict).get? s⁻¹=some PySem.W.emptyDict:=bU s.heap rfl;have e2:((s.heap.push PySem.W.emptyDict).push (PySem.W.instObj C s⁻¹)).get? (s⁻¹+1)=some (PySem.W.instObj C s⁻¹):=by
  have:=bU (s.heap.push PySem.W.emptyDict) (o:=PySem.W.instObj C s⁻¹) rfl
  rwa [j8]at this
 have e3:(s.heap.push PySem.W.emptyDict).Ns s⁻¹ (λ_=>none):=⟨PySem.W.emptyDict,#[],_,e1,Z,(λe he=>absurd he (by simp)),λ_=>rfl⟩;have I1:=I.laid (a:=s⁻¹) (o:=.own (s⁻¹+1)) (h':=s.heap.push PySem.W.emptyDict) (t':=s.toks) (λb u q=>bB _ q) (aL _) ⟨_,e1⟩;refine I1.laid (a:=s⁻¹+1) (o:=.ins C s⁻¹ []) (t':=s.toks) (λb u q=>bB _ q) (Pg (j8 _ _)) ?_;have ne:s⁻¹≠s⁻¹+1:=bY (yc _);refine⟨by rw[aU ne,cY],dh _,ne,e2,λ_=>none,(Heap.Ns1.of_empty e3).at λo q=>bB _ q,λ_=>mL,λy hy=>absurd Z hy⟩
def a0h{prog:Program}{w:World}{env:Env}{f:Str}{s:Shared}{Q:Value->Shared->Prop}(hb:attributeBase e f env (eval e env)=eval e env)
  (h:wpAny (model prog w) A (eval e env) (λo s₁=>wpAny (model prog w) A (getAttr o f true) Q E s₁) E s):wpAny (model prog w) A (eval (.Attribute e f pos) env) Q E s :=
 Attribute_any_ h (by rw[arm_eval_Attribute,hb])
end
inductive a5o(K:aH)(f:Str)(x:V)(H1:Hp)(Q:VK):Prop
 |mk (a C dx fs v:_) (_:x=.ref a) (_:H1 a=some (.ins C dx fs)) (_:Cls K C) (_:eY K C f) (_:fs.lookup f=some v) (_:Q v H1)
def a5p(K:aH)(ta:TE)(f:Str):TE:=λσ H Q=>ta σ H λx H1=>a5o K f x H1 Q
inductive a5q(K:aH)(f:Str)(y x:V)(σ:St)(H2:Hp)(Q:St->Hp->Prop):Prop
 |mk (a C dx fs:_) (_:x=.ref a) (_:H2 a=some (.ins C dx fs)) (_:Cls K C) (_:eY K C f) (_:fs.length<1000) (_:Q σ (cN H2 a (.ins C dx (wL f y fs))))
def a7i(K:aH)(ta tv:TE)(f:Str):TS:=λD σ H=>tv σ H λy H1=>ta σ H1 λx H2=>a5q K f y x σ H2 D.nx
section
variable{X:Cx}{o value:Expr}{f:Str}{pos' tpos:Pos}{tv:TE}
def a3b(he:PE X e ta)(hb:attributeBase e f X.env (eval e X.env)=eval e X.env):PE X (.Attribute e f pos) (a5p X.K ta f):=by
 intro Y s σ H Q I h;refine a0h hb (jr (he Y s σ H _ I h) λu s1 ⟨x,H1,I1,rx,a,C,dx,fs,v,ex,ea,c,n,l,q⟩=>?_);subst ex;obtain rfl:u=Value.ref a:=rx;exact Vr I1 ea c n l λu' s2 I2 ru=>⟨v,H1,I2,ru,q⟩
def Ay(ha:PE X o ta)(hv:PE X value tv)(hs:swapsWith value (some (.Attribute o f pos')) pos.line X.env=pure false):PS X (.Assign [.Attribute o f pos'] value pos) (a7i X.K ta tv f):=by
 intro Y s σ H D I h;refine plainObj_wpAny_Assign_Attribute (jr (hv Y s σ H _ I h) λu s1 ⟨y,H1,I1,ry,q⟩=>jr (ha Y s1 σ H1 _ I1 q) λov s2 ⟨x,H2,I2,rx,a,C,dx,fs,ex,ea,c,n,l,q2⟩=>?_) hs;subst ex;obtain rfl:ov=Value.ref a:=rx;exact Vt I2 ea c n l ry λs3 I3=>⟨σ,_,I3,q2⟩
end
section
variable{X:Cx}{Y:List (Addr×Obj)}{σ:St}{H:Hp}{s:Shared}{E:Value->Shared->Prop}{Q:Value->Shared->Prop}{c:Value}{b:Bool}
inductive tZ(K:aH)(H:Hp):V->Value->Prop where
 |non:tZ K H .non (.type "NoneType")
 |bl (x:Bool):tZ K H (.bl x) (.type "bool")
 |int (i:Int):tZ K H (.int i) (.type "int")
 |str (x:Str):tZ K H (.str x) (.type "str")
 |flt (x:UInt64):tZ K H (.flt x) (.type "float")
 |lst {a:Addr}{xs:List V} (e:H a=some (.lst xs)):tZ K H (.ref a) (.type "list")
 |jq {a:Addr}{o:Obj}{xs:List V} (e:H a=some (.jq o (.lst xs))):tZ K H (.ref a) (.type "list")
 |tup {a:Addr}{xs:List V} (e:H a=some (.tup xs)):tZ K H (.ref a) (.type "tuple")
 |dK {a:Addr}{J:List (Key×V)} (e:H a=some (.dK J)):tZ K H (.ref a) (.type "dict")
 |dT {a:Addr}{J:List (List Key×V)} (e:H a=some (.dT J)):tZ K H (.ref a) (.type "dict")
 |ins {a C dx:Addr}{fs:List (Str×V)} (e:H a=some (.ins C dx fs)) (cl:Cls K C) (ha:PySem.W.findIn K (.ref C) "__class__" = some (some (.builtin "object.__class__")))
   (hn:PySem.W.specialIn K (.builtin "object.__class__") "__get__" = some (some (.builtin "getset_descriptor.__get__"))) (htk:PySem.W.takesIn K (.builtin "object.__class__")=some true)
   (hm:PySem.W.mroIn K C (.type "object")=some true):tZ K H (.ref a) (.ref C)
def Y5{x:V}{u t:Value}(I:bG X Y σ H s)(rx:cQ x u)(ty:tZ X.K H x t)(e:PySem.W.kitOne X.K t c=some b)(h:∀tk,Q (.bool b) { s with toks:=tk}) :
  wpAny (model X.prog X.w) A (call (.builtin "isinstance") [u,c]) Q E s:=by
 cases ty with
 |non=>cases(show u=Value.none from rx);exact tQ PySem.W.kitx_none I.DR mL e (λz=>nomatch z) h
 |bl y=>cases(show u=Value.bool y from rx);exact tQ PySem.W.kitx_bool I.DR mL e (λz=>nomatch z) h
 |int i=>obtain⟨t,q⟩:=(show ∃t,u=Value.int i t from rx);cases q;exact tQ PySem.W.kitx_int I.DR mL e (λz=>nomatch z) h
 |str y=>obtain⟨t,q⟩:=(show ∃t,u=Value.str y t from rx);cases q;exact tQ PySem.W.kitx_str I.DR mL e (λz=>nomatch z) h
 |flt y=>obtain⟨t,q⟩:=(show ∃t,u=Value.float y t from rx);cases q;exact tQ PySem.W.kitx_float I.DR mL e (λz=>nomatch z) h
 | @lst a xs ea =>
  cases(show u=Value.ref a from rx);obtain⟨_,_,n,_,h1⟩:=(show fM X.prog X.w H s.heap a (.lst xs)from I.hok a _ ea);exact tQ PySem.W.kitx_list I.DR ⟨_,h1,Z⟩ e (λz=>nomatch z) h
 | @jq a ob xs ea =>
  cases(show u=Value.ref a from rx);obtain⟨_,_,_,n,_,h1⟩:=(show fM X.prog X.w H s.heap a (.jq ob (.lst xs))from I.hok a _ ea);exact tQ PySem.W.kitx_list I.DR ⟨_,h1,Z⟩ e (λz=>nomatch z) h
 | @tup a xs ea =>
  cases(show u=Value.ref a from rx);obtain⟨_,_,_,p⟩:=(show fM X.prog X.w H s.heap a (.tup xs)from I.hok a _ ea);obtain⟨o,h1,h2,_⟩:=p;exact tQ PySem.W.kitx_tuple I.DR ⟨o,h1,h2⟩ e (λz=>nomatch z) h
 | @dK a J ea =>
  cases(show u=Value.ref a from rx);obtain⟨_,_,vs,_,p⟩:=(show fM X.prog X.w H s.heap a (.dK J)from I.hok a _ ea);obtain⟨o,es,ep,h1,h2,_⟩:=p;exact tQ PySem.W.kitx_dict I.DR ⟨o,h1,h2.1⟩ e (λz=>nomatch z) h
 | @dT a J ea =>
  cases(show u=Value.ref a from rx);obtain⟨_,_,xs,_,o,es,ep,h1,h2,_⟩:=(show fM X.prog X.w H s.heap a (.dT J)from I.hok a _ ea);exact tQ PySem.W.kitx_dict I.DR ⟨o,h1,h2.1⟩ e (λz=>nomatch z) h
 | @ins a C dx fs ea cl ha hn htk hm =>
  cases(show u=Value.ref a from rx);obtain⟨mA,Z96,_⟩:=Hl I.hok ea;obtain⟨od,Z97,_⟩:=Z96.look;exact tQ (PySem.W.kitx_own (cl.get _) cl.hd ha hn htk hm) I.DR Z97 e (λz=>nomatch z) h
end
structure sY(k:Nat)(A:Around):Prop where
 hd:A.handled=none
 dp:A.depth+3*k+5<recursionLimit
 un:A.units+16*k+200<cLine
def sY.mono{j:Nat}(r:sY k A)(h:j<=k):sY j A:=⟨r.hd,by have:=r.dp;omega,by have:=r.un;omega⟩
def sY.deeper{k:Nat}{A:Around}(r:sY (k+1) A)(env:Env):sY k (A.deeper env) :=
 ⟨r.hd,by have:=r.dp;show A.depth+1+3*k+5<_;omega,by have:=r.un;show A.units+3+16*k+200<_;omega⟩
def Vu{C:Addr}{us:List Value}:(A.under (.builtin "type.__call__" ⟨.ref C::us,kw⟩)).depth=A.depth+1:=by
 first|rfl|simp[Around.under,Code.weight,Code.isCreation,Code.isGuard,Code.isCaller,Code.frames,Code.isFrame,guardIds]
def Vv{C:Addr}{us:List Value}:(A.under (.builtin "type.__call__" ⟨.ref C::us,kw⟩)).units=A.units+1:=by
 first|rfl|simp[Around.under,Code.cUnits,Code.frames,Code.isFrame]
def sY.make(r:sY (k+1) A)(C:Addr)(us:List Value)(kw:List (Str×Value)):sY k (A.under (.builtin "type.__call__" ⟨.ref C::us,kw⟩)) :=
 ⟨r.hd,by have:=r.dp;rw[Vu];omega,by have:=r.un;rw[Vv];omega⟩
def sY.depth{k:Nat}{A:Around}(r:sY k A):A.depth<recursionLimit:=by have:=r.dp;omega
def a0i:TA:=λ_ H Q=>Q [] H
def Jm(ta:TE)(tr:TA):TA:=λσ H Q=>ta σ H λx H1=>tr σ H1 λxs H2=>Q (x::xs) H2
section
variable{X:Cx}{t:TA}
def aj:PA X [] a0i:=λ_ _ _ _ H Q I h=>Calls.spliced_nil ⟨[],H,I,.nil,h⟩
def O(ha:PE X e te)(hr:PA X es t)(hs:starEach (e::es) X.env=(false,eval e X.env)::starEach es X.env:=by rfl):PA X (e::es) (Jm te t):=by
 intro pos Y s σ H Q I h;rw[hs];show wpAny _ _ (spliced ((false,eval e X.env)::backTo pos (starEach es X.env))) _ _ s;exact Calls.spliced_cons (jr (ha Y s σ H _ I h) λu s1 ⟨x,H1,I1,r1,q1⟩=>jr (hr pos Y s1 σ H1 _ I1 q1) λus s2 ⟨xs,H2,I2,r2,q2⟩=>⟨x::xs,H2,I2,.cons r1 r2,q2⟩)
end
abbrev Sp:=List V->Hp->VK->XK->Prop
abbrev TJ:=List Env->Hp->Shared->XK->Value->Shared->Prop
structure Vw(P:Program)(w:World)(K:aH)(mg:Str->Option Value)(base:Heap)(A:Around)(outer:List Env)(s:Shared)(H:Hp):Prop where
 frames:A.frames=some outer
 mod:Mod K mg base
 bs:∀b o,base.get? b=some o->s.heap.get? b=some o/\H b=none
 bsz:base.objs.size<=s⁻¹
 BZ:s.heap.FunFrames base outer
 frf:∀b∈frs outer,H b=none
 hok:zO P w H s.heap
 bare:AllBare s.gens
inductive CE(outer:List Env)(P:Program)(w:World)(H:Hp)(s:Shared)(Q:VK)(u:Value)(s':Shared):Prop
 |mk (v H':_) (_:s'.os=s.os) (_:AllBare s'.gens) (_:Un (frs outer) [] H H' s.heap s'.heap) (_:zO P w H' s'.heap) (_:cQ v u) (_:Q v H')
def CR(CX:TJ)(outer:List Env)(P:Program)(w:World)(H:Hp)(s:Shared)(Q:VK)(E:XK)(r:Result)(s':Shared):Prop :=
 match r with
 |.ok (.ret u)=>CE outer P w H s Q u s'
 |.ok _=>False
 |.error e=>CX outer H s E e s'
structure bw(P:Program)(w:World)(K:aH)(mg:Str->Option Value)(base:Heap)(CX:TJ)(k:Nat)(f:Addr)(fd:FuncData)(ps:List Str)(sp:Sp):Prop where
 len:∀vs H Q E,sp vs H Q E->vs.length=ps.length
 run:∀(A:Around) (outer:List Env) (s:Shared) (H:Hp) (args:Args) (us:List Value) (vs:List V) (Q:VK) (E:XK),sY k A->Vw P w K mg base A outer s H->BindsTo s fd args (ps.zip us)->cP vs us->sp vs H Q E->
  codeAny (model P w) A (.call (.ref f) args) (CR CX outer P w H s Q E) s
def bw.mono{P:Program}{w:World}{K:aH}{mg:Str->Option Value}{base:Heap}{CX:TJ}{j k:Nat}{f:Addr}{fd:FuncData}{ps:List Str}{sp:Sp}(F:bw P w K mg base CX j f fd ps sp)(h:j<=k) :
  bw P w K mg base CX k f fd ps sp:=⟨F.len,λA outer s H args us vs Q E hr=>F.run A outer s H args us vs Q E (hr.mono h)⟩
def Vw.make{P:Program}{w:World}{outer:List Env}{s:Shared}{H:Hp}(e:Vw P w K mg base A outer s H)(C:Addr)(us:List Value)(kw:List (Str×Value)) :
  Vw P w K mg base (A.under (.builtin "type.__call__" ⟨.ref C::us,kw⟩)) outer s H:=⟨by first|exact e.frames|(simpa [Around.under,Code.envs,Code.isFrame,pushEnvs]using e.frames),e.mod,e.bs,e.bsz,e.BZ,e.frf,e.hok,e.bare⟩
section
variable{X:Cx}{Y:List (Addr×Obj)}{σ:St}{H:Hp}{s s':Shared}
def bG.env0(I:bG X Y σ H s):Vw X.prog X.w X.K X.mg X.base X.A X.stack s H :=
 ⟨I.ok.frames,I.ok.mod,I.bs,dI I.ok.bsz I.sz,I.stack,I.Xb,I.hok,I.bare⟩
def bG.after{Q:VK}{u:Value}(I:bG X Y σ H s)(h:CE X.stack X.prog X.w H s Q u s'):EP X Y σ Q u s':=by
 obtain⟨v,H',os,bare,un,hok,r,q⟩:=h;obtain⟨hh,g,d,t,os'⟩:=s';obtain rfl:os'=s.os:=os;exact⟨v,H',I.call (h':=hh) (g':=g) (d':=d) (t':=t) (ch:=[]) un hok bare (λb z=>absurd z (by simp)),r,q⟩
end
def a2o(sp:Sp)(Ld:List V)(E:XK)(t:TA):TE:=λσ H Q=>t σ H λvs H1=>sp (vs++Ld) H1 Q E
inductive a3c(C:Addr)(m:Str)(x:V)(H1:Hp)(Q:Prop):Prop
 |mk (a dx fs:_) (_:x=.ref a) (_:H1 a=some (.ins C dx fs)) (_:fs.lookup m=none) (_:Q)
def a5r(C:Addr)(m:Str)(sp:Sp)(Ld:List V)(E:XK)(ta:TE)(t:TA):TE:=λσ H Q=>ta σ H λx H1=>a3c C m x H1 (t σ H1 λvs H2=>sp (x::(vs++Ld)) H2 Q E)
def a5s(C:Addr)(sp:Sp)(Ld:List V)(E:XK)(t:TA):TE:=λσ H Q=>t σ H λvs H1=>∀x dx,H1 x=none->H1 dx=none->dx≠x->
 sp (.ref x::(vs++Ld)) (cN (cN H1 dx (.own x)) x (.ins C dx [])) (λv H2=>v=.non/\Q (.ref x) H2) E
def Binds(K:aH)(fd:FuncData)(ps:List Str)(ds:List Value):Prop :=
 ∀(s:Shared) (us:List Value),K.In s.heap->(us++ds).length=ps.length->BindsTo s fd ⟨us,[]⟩ (ps.zip (us++ds))
def Binds.all{fd:FuncData}{ps:List Str}(h:∀us:List Value,us.length=ps.length->bindArgs fd ⟨us,[]⟩=pure (ps.zip us)):Binds K fd ps []:=λs us _ hl=>by
 rw[nC]at hl ⊢;exact .of_eq (h us hl)
def Az(CX:TJ)(X:Cx)(E:XK):Prop:=∀(Y:List (Addr×Obj)) (σ:St) (H:Hp) (s:Shared) (e:Value) (s':Shared),bG X Y σ H s->CX X.stack H s E e s'->X.xe e s'
section
variable{X:Cx}{CX:TJ}{f C:Addr}{fd:FuncData}{ps:List Str}{sp:Sp}{Ld:List V}{ds:List Value}{E:XK}{x m:Str}{apos:Pos}{o:Expr}{t:TA}
def Vx{Y:List (Addr×Obj)}{σ:St}{H:Hp}{s:Shared}{Q:VK}{us:List Value}{vs:List V}(F:bw X.prog X.w X.K X.mg X.base CX k f fd ps sp)(hr:sY k X.A)(hb:Binds X.K fd ps ds)(hd:cP Ld ds)(hx:Az CX X E)
  (I:bG X Y σ H s) (r:cP vs us) (h:sp (vs++Ld) H Q E):wpAny (model X.prog X.w) X.A (call (.ref f) us) (EP X Y σ Q) X.xe s:=by
 have r2:cP (vs++Ld) (us++ds):=r.append hd;have hl:(us++ds).length=ps.length:=by rw[<-r2.length];exact F.len _ _ _ _ h
 refine wpAny_call (Ej (F.run X.A X.stack s H ⟨us,[]⟩ (us++ds) (vs++Ld) Q E hr I.env0 (hb s us I.DR hl) r2 h) λr s' hq=>?_);cases r with
 |error e=>exact hx Y σ H s e s' I hq
 |ok fl =>
  cases fl with
  |ret u=>exact I.after hq
  |next=>exact False.elim hq
  |brk=>exact False.elim hq
  |cont=>exact False.elim hq
def bx(F:bw X.prog X.w X.K X.mg X.base CX k f fd ps sp)(hr:sY k X.A)(hg:Gl X x)(hm:X.mg x=some (.ref f))(hk:PySem.W.keepIn X.K (.ref f)=true)(hb:Binds X.K fd ps ds)(hd:cP Ld ds)(hx:Az CX X E)
  (ha:PA X (e::es) t) (hdb:(x==("__debug__" : Str))=false:=by decide) (he:starEach (e::es) X.env=(false,eval e X.env)::starEach es X.env:=by rfl) (hpl:(backTo pos (starEach es X.env)).any (·.1)=false:=by rfl) :
  PE X (.Call (.Name x p) (e::es) [] pos) (a2o sp Ld E t):=by
 intro Y s σ H Q I h;exact wB (Ca I hg hm (Om (h₀:=X.base) I.ok.mod.kin hk (jr (ha pos Y s σ H _ I h) λus s1 ⟨vs,H1,I1,r,q⟩=>⟨I1.DR,Vx F hr hb hd hx I1 r q⟩) he hpl) hdb)
def wM(he:PE X o ta)(c:Cls X.K C)(hm:Meth X.K C m f)(F:bw X.prog X.w X.K X.mg X.base CX k f fd ps sp)(hr:sY k X.A)(hb:Binds X.K fd ps ds)(hd:cP Ld ds)(hx:Az CX X E)(ha:PA X (e::es) t)
  (hst:starEach (e::es) X.env=(false,eval e X.env)::starEach es X.env:=by rfl) (hpl:(backTo pos (starEach es X.env)).any (·.1)=false:=by rfl)
  (ht:eval (.Call (.Attribute o m apos) (e::es) [] pos) X.env=(do
   let ov <-eval o X.env
   standAt apos.atName
   let(f,first) <-holding [ov] (getMethod ov m pl)
   callWith pos f first (backTo pos (starEach (e::es) X.env)) (backToKw pos (keywordEach [] X.env))):=by rfl) :
  PE X (.Call (.Attribute o m apos) (e::es) [] pos) (a5r C m sp Ld E ta t):=by
 intro Y s σ H Q I h;refine PySem.W.methodCall_KW (pl:=pl) (jr (he Y s σ H _ I h) λu s1 ⟨x,H1,I1,rx,a,dx,fs,ex,ea,l,q⟩=>?_) ht;subst ex;obtain rfl:u=Value.ref a:=rx;exact Vs I1 ea c hm l (Om (first:=[.ref a]) (h₀:=X.base) I.ok.mod.kin hm.kp (jr (ha pos Y s1 σ H1 _ I1 q) λus s2 ⟨vs,H2,I2,r,q2⟩=>⟨I2.DR,Vx (us:=.ref a::us) (vs:=.ref a::vs) F hr hb hd hx I2 (.cons Z r) q2⟩) hst hpl)
structure Mk(K:aH)(C f:Addr):Prop where
 makes:PySem.W.makesIn K C=true
 init:PySem.W.findIn K (.ref C) "__init__" = some (some (.ref f))
 fn:PySem.W.isFn K (.ref f)=true
 kp:PySem.W.keepIn K (.ref C)=true
def Ć{Y:List (Addr×Obj)}{σ:St}{H:Hp}{s:Shared}{Q:VK}{us:List Value}{vs:List V}(Z98:Mk X.K C f)(F:bw X.prog X.w X.K X.mg X.base CX k f fd ps sp)(hr:sY (k+1) X.A)(hb:Binds X.K fd ps ds)(hd:cP Ld ds)
  (hx:Az CX X E) (I:bG X Y σ H s) (r:cP vs us)
  (h:∀x dx,H x=none->H dx=none->dx≠x->sp (.ref x::(vs++Ld)) (cN (cN H dx (.own x)) x (.ins C dx [])) (λv H2=>v=.non/\Q (.ref x) H2) E) :
  wpAny (model X.prog X.w) X.A (call (.ref C) us) (EP X Y σ Q) X.xe s:=by
 have hq:=h (s⁻¹+1) s⁻¹ (I.hok.fresh (ye _)) (I.hok.fresh (aL _)) (bY (yc _));have I2:=bG.made (C:=C) I;have r2:cP (V.ref (s⁻¹+1)::(vs++Ld)) (Value.ref (s⁻¹+1)::(us++ds)):=.cons Z (r.append hd);have hl:(Value.ref (s⁻¹+1)::us++ds).length=ps.length:=by
  have e:=r2.length;rw[F.len _ _ _ _ hq]at e;exact e.symm
 refine wpAny_call (ą (f:=f) I.DR Z98.makes Z98.init (Je.mp Z98.fn) (Ej (F.run _ X.stack _ _ ⟨Value.ref (s⁻¹+1)::us,[]⟩ (Value.ref (s⁻¹+1)::(us++ds)) _ _ E (hr.make C us [])
  (I2.env0.make C us []) (hb _ (Value.ref (s⁻¹+1)::us) I2.DR hl) r2 hq) λr s' hq'=>?_))
 cases r with
 |error e=>exact hx Y σ _ _ e s' I2 hq'
 |ok fl =>
  cases fl with
  |ret u =>
   obtain⟨v,H',I3,rv,ev,q3⟩:=I2.after hq';subst ev;exact⟨rv,⟨V.ref (s⁻¹+1),H',I3,Z,q3⟩⟩
  |next=>exact False.elim hq'
  |brk=>exact False.elim hq'
  |cont=>exact False.elim hq'
def PL(Z98:Mk X.K C f)(F:bw X.prog X.w X.K X.mg X.base CX k f fd ps sp)(hr:sY (k+1) X.A)(hg:Gl X x)(hm:X.mg x=some (.ref C))(hb:Binds X.K fd ps ds)(hd:cP Ld ds)(hx:Az CX X E)
  (ha:PA X (e::es) t) (hdb:(x==("__debug__" : Str))=false:=by decide) (he:starEach (e::es) X.env=(false,eval e X.env)::starEach es X.env:=by rfl) (hpl:(backTo pos (starEach es X.env)).any (·.1)=false:=by rfl) :
  PE X (.Call (.Name x p) (e::es) [] pos) (a5s C sp Ld E t):=by
 intro Y s σ H Q I h;exact wB (Ca I hg hm (Om (h₀:=X.base) I.ok.mod.kin Z98.kp (jr (ha pos Y s σ H _ I h) λus s1 ⟨vs,H1,I1,r,q⟩=>⟨I1.DR,Ć Z98 F hr hb hd hx I1 r q⟩) he hpl) hdb)
end
structure bD(N P:List Str)(sc:Scope):Prop where
 kind:sc.kind=.function:=by rfl
 co:sc.isCoroutine=false:=by rfl
 gen:sc.isGenerator=false:=by rfl
 nd:N.Nodup:=by decide
 pre:N.take P.length=P:=by rfl
 par:∀x∈P,sc.names.lookup x=some .local\/sc.names.lookup x=some .cell:=by decide
 a3d:∀y∈sc.names,y.2≠.free:=by decide
theorem Ms{kindOf:Str->Option NameKind}{x:Str}:∀{binds:List (Str×Value)}{m:Str->Option Value},(∀v,(x,v)∉binds)->bindL kindOf binds m x=m x
 | [],_,_=>rfl
 |(n,v)::r,m,h=>by
  unfold bindL
  rw[Ms λw hw=>h w (aY _ hw)]
  split
  ·have:x≠n:=by rintro rfl;exact h v aO
   simp[this]
  ·rfl
theorem Mt{kindOf:Str->Option NameKind}{x:Str}:∀{binds:List (Str×Value)}{m:Str->Option Value},(∀v,(x,v)∉binds)->bindC kindOf binds m x=m x
 | [],_,_=>rfl
 |(n,v)::r,m,h=>by
  unfold bindC
  rw[Mt λw hw=>h w (aY _ hw)]
  split
  ·rfl
  ·have:x≠n:=by rintro rfl;exact h v aO
   simp[this]
theorem Mu{kindOf:Str->Option NameKind}{x:Str}{v:Value}:∀{P:List Str}{vs:List Value}{i:Nat}{m:Str->Option Value},P.Nodup->P[i]?=some x->vs[i]?=some v->kindOf x=some .local->
  bindL kindOf (P.zip vs) m x=some v
 | [],_,_,_,_,h,_,_=>by simp at h
 |_::_,[],_,_,_,_,h,_=>by simp at h
 |p::P,w::vs,0,m,nd,h1,h2,hk=>by
  simp at h1 h2;subst h1;subst h2
  show bindL kindOf ((p,w)::P.zip vs) m p=_
  unfold bindL
  rw[Ms λv hv=>(iD.mp nd).1 (U8 hv).1,aF hk]
  simp
 |p::P,w::vs,i+1,m,nd,h1,h2,hk=>by
  show bindL kindOf ((p,w)::P.zip vs) m x=_
  unfold bindL
  exact Mu (i:=i) (iD.mp nd).2 (by simpa using h1) (by simpa using h2) hk
theorem Mv{kindOf:Str->Option NameKind}{x:Str}{v:Value}:∀{P:List Str}{vs:List Value}{i:Nat}{m:Str->Option Value},P.Nodup->P[i]?=some x->vs[i]?=some v->kindOf x≠some .local->
  bindC kindOf (P.zip vs) m x=some v
 | [],_,_,_,_,h,_,_=>by simp at h
 |_::_,[],_,_,_,_,h,_=>by simp at h
 |p::P,w::vs,0,m,nd,h1,h2,hk=>by
  simp at h1 h2;subst h1;subst h2
  show bindC kindOf ((p,w)::P.zip vs) m p=_
  unfold bindC
  rw[Mt λv hv=>(iD.mp nd).1 (U8 hv).1,aq hk]
  simp
 |p::P,w::vs,i+1,m,nd,h1,h2,hk=>by
  show bindC kindOf ((p,w)::P.zip vs) m x=_
  unfold bindC
  exact Mv (i:=i) (iD.mp nd).2 (by simpa using h1) (by simpa using h2) hk
def start(N:List Str)(vs:List V):St:=vs.map some++List.replicate (N.length-vs.length) none
def Vy(CX:TJ)(P:Program)(w:World)(K:aH)(mg:Str->Option Value)(base:Heap)(N:List Str)(qual:Str)(scope:Scope)(f:Addr)(cd:Value)(A:Around)(outer:List Env)(s:Shared)(H:Hp)(E:XK):Cx where
 prog:=P
 w:=w
 K:=K
 mg:=mg
 base:=base
 A:=A.deeper (envOfC qual scope s⁻¹ f cd)
 N:=N
 s₀:=s
 H₀:=H
 env:=envOfC qual scope s⁻¹ f cd
 outer:=outer
 stack:=envOfC qual scope s⁻¹ f cd::outer
 ex:=[]
 calm:=true
 fn:=λ_=>true
 pn:=[]
 xe:=λe s'=>wpAny (model P w) (A.deeper (envOfC qual scope s⁻¹ f cd)) (leaving (envOfC qual scope s⁻¹ f cd) e) (λ_ s''=>CX outer H s E e s'') (λe' s''=>CX outer H s E e' s'') s'
def Rm{sc:Scope}{x:Str}(h:sc.names.lookup x=some .cell):∃c,(cellsFrom n sc.names []).lookup x=some c:=by
 have q:=PySem.W.cellsFrom_some sc.names n [] (.inl h);exact ó.mp q
def Y6{CX:TJ}{P:Program}{w:World}{ps:List Str}{qual:Str}{scope:Scope}{f:Addr}{cd:Value}{outer:List Env}{s s1:Shared}{H:Hp}{E:XK}{us:List Value}{vs:List V}
  (S:bD N ps scope) (hd:A.handled=none) (e0:Vw P w K mg base A outer s H) (hl:vs.length=ps.length) (r:cP vs us)
  (x:InCallC s s⁻¹ (bindL (envOfC qual scope s⁻¹ f cd).kindOf (ps.zip us) λ_=>none) (cellsFrom (s⁻¹+1) scope.names []) (bindC (envOfC qual scope s⁻¹ f cd).kindOf (ps.zip us) λ_=>none) s1) :
  bG (Vy CX P w K mg base N qual scope f cd A outer s H E) [] (start N vs) H s1:=by
 have hpl:ps.length<=N.length:=by have:=congrArg List.length S.pre;rw[d7]at this;omega
 obtain⟨h1,tk,rfl,hk⟩:=x.done;have noA:∀b:Addr,b∉(Vy CX P w K mg base N qual scope f cd A outer s H E).ex:=λb z=>absurd (show b∈([]:List Addr)from z) (by simp);refine⟨⟨e0.mod,S.kind,Z,Z,aL _,λy z c h1 h2=>?_,λy hy=>?_,λy c _ h=>?_,λ_=>hd,Around.frames_deeper e0.frames,.inr ⟨Z,Z⟩,λb z=>absurd z (noA b),e0.bs,e0.bsz,λb _ _=>noA b,λb z=>absurd z (noA b),e0.BZ,e0.frf⟩,
  rfl,e0.bare,Un.kept hk,⟨_,x.toInCall.ns,λi y v h1 h2 h3=>?_⟩,λy c h=>⟨_,x.cell y c h⟩,e0.hok.fresh (aL _),λy c h=>?_,λp hp=>absurd (show p∈([]:List (Addr×Obj))from hp) (by simp),e0.hok.kept hk,?_⟩
 ·exact name_of_addr x.apart (Ec h1) (Ec h2)
 ·have hy:scope.names.lookup y=some .cell\/scope.names.lookup y=some .free:=hy;rcases hy with hy|hy
  ·exact Rm hy
  ·exact absurd Z (S.a3d _ (Ec hy))
 ·exact dU (x.above y c (Ec h))
 ·have hi:i<vs.length:=by
   unfold start at h2;by_cases hi:i<vs.length
   ·exact hi
   ·rw[xT (by simpa using hi)]at h2;rw[List.getElem?_replicate]at h2;split at h2<;>cases h2
  have ha:vs[i]?=some v:=by
   unfold start at h2;rw[xU (by simpa using hi),fK]at h2;cases e:vs[i]? with
   |none=>rw[e]at h2;cases h2
   |some a=>rw[e]at h2;cases h2;rfl
  obtain⟨u,hu,rv⟩:=r.get ha;have hp:ps[i]?=some y:=by
   rw[<-S.pre,List.getElem?_take_of_lt ()];exact h1
  have ndP:ps.Nodup:=by rw[<-S.pre];exact S.nd.sublist (Oq _ _)
  refine⟨u,rv,?_⟩;rcases S.par y (jf hp)with k|k
  ·exact .inl ⟨k,Mu ndP hp hu k⟩
  ·obtain⟨c,e⟩:=Rm (n:=s⁻¹+1) k;refine .inr ⟨.inl k,c,e,?_⟩;have q:=x.cell y c e;rw[Mv ndP hp hu (by show scope.names.lookup y≠_;rw[k];decide)]at q;exact q
 ·exact e0.hok.fresh (dU (x.above y c (Ec h)))
 ·unfold start;show _=N.length;rw[cA,aJ,List.length_replicate];omega
def a2p{CX:TJ}{P:Program}{w:World}{f:Addr}{name qual:Str}{params:Arguments}{scope:Scope}{dV kV doc pm dz ct oc:Value}{an od:Option Addr}
  {osl:Array (Option Value)}{ps:List Str}{sp:Sp} (lk:K.lookup f=some ⟨oc,od,.func (PySem.W.fnOf name qual params body scope dV kV doc pm an dz ct),osl⟩) (hcd:PySem.W.codeIn K dz qual=true) (S:bD N ps scope)
  (len:∀vs H Q E,sp vs H Q E->vs.length=ps.length)
  (hbody:∀(A:Around) (outer:List Env) (s:Shared) (H:Hp) (vs:List V) (Q:VK) (E:XK),sY k (A.deeper (envOfC qual scope s⁻¹ f dz))->sp vs H Q E->
   ∃t,Rj (Vy CX P w K mg base N qual scope f dz A outer s H E) body t/\t { nx:=λ_ H'=>Q .non H',rt:=Q} (start N vs) H) :
  bw P w K mg base CX (k+1) f (PySem.W.fnOf name qual params body scope dV kV doc pm an dz ct) ps sp:=by
 refine⟨len,λA outer s H args us vs Q E hr e0 hb r hsp=>?_⟩;have hl:=len _ _ _ _ hsp;have KX:K.In s.heap:=e0.mod.kin.keeps λb o e=>(e0.bs b o e).1;have lim:s.heap.NoLimit:=e0.mod.nolimit.keeps λb o e=>(e0.bs b o e).1;have hkind:∀y∈ps.zip us,scope.names.lookup y.1=some .local\/(scope.names.lookup y.1=some .cell/\((cellsFrom (s⁻¹+1) scope.names []).lookup y.1).isSome=true):=λ⟨n,v⟩ hy=>by
  rcases S.par n (U8 hy).1 with q|q
  ·exact .inl q
  ·exact .inr ⟨q,PySem.W.cellsFrom_some _ _ _ (.inl q)⟩
 refine codeAny_call_function hr.depth (KX _ _ lk) Z S.co S.gen Z (PySem.W.codeRec_of KX hcd) (hb _ _ _ _ (wpAny_newFunctionEnv_cells S.kind hkind λenv he s1 x=>?_));subst he;refine⟨lim.keeps x.toInCall.keep,codeAny_func ?_⟩;obtain⟨t,ht,hq⟩:=hbody A outer s H vs Q E (hr.deeper _) hsp;have I:bG (Vy CX P w K mg base N qual scope f dz A outer s H E) [] (start N vs) H s1:=Y6 S hr.hd e0 hl r x;refine iH (ht [] s1 (start N vs) H _ I hq) (λfl s' hs=>?_) λe s' hs=>hs;have fin:∀{σ':St}{H':Hp}{v:V}{u:Value},bG (Vy CX P w K mg base N qual scope f dz A outer s H E) [] σ' H' s'->cQ v u->Q v H'->CE outer P w H s Q u s' :=
  λ{σ' H' v u} Z97 rv q=>⟨v,H',Z97.os,Z97.bare,Z97.base,Z97.hok,rv,q⟩
 cases fl with
 |ret u =>
  obtain⟨v,σ',H',Z97,rv,q⟩:=hs;exact fin Z97 rv q
 |next =>
  obtain⟨σ',H',Z97,q⟩:=hs;exact fin (v:=V.non) (u:=Value.none) Z97 Z q
 |brk =>
  obtain⟨_,_,_,q⟩:=hs;exact False.elim q
 |cont =>
  obtain⟨_,_,_,q⟩:=hs;exact False.elim q
section
variable{X:Cx}{x:Str}{t:TA}{id T:String}{r:List V->Hp->VK->Prop}
def tCB(r:List V->Hp->VK->Prop)(t:TA):TE:=λσ H Q=>t σ H λvs H1=>r vs H1 Q
def bh(hc:jF X (.builtin id) r)(hg:Gl X x)(hm:X.mg x=none)(hv:bootBuiltins x=some (.builtin id))(ha:PA X (e::es) t)(hn:x≠ "__name__" := by decide)(hdb:(x==("__debug__" : Str))=false:=by decide)
  (he:starEach (e::es) X.env=(false,eval e X.env)::starEach es X.env:=by rfl) (hpl:(backTo pos (starEach es X.env)).any (·.1)=false:=by rfl):PE X (.Call (.Name x p) (e::es) [] pos) (tCB r t):=by
 intro Y s σ H Q I h;exact wB (tW I hg hm hv (PyProof.Rows.callWith_builtin1 (jr (ha pos Y s σ H _ I h) λus s1 ⟨vs,H1,I1,r1,q1⟩=>hc Y s1 σ H1 vs us Q I1 r1 q1) he hpl) hn hdb)
def jG(hc:jF X (.type T) r)(hg:Gl X x)(hm:X.mg x=none)(hv:bootBuiltins x=some (.type T))(ha:PA X (e::es) t)(hn:x≠ "__name__" := by decide)(hdb:(x==("__debug__" : Str))=false:=by decide)
  (he:starEach (e::es) X.env=(false,eval e X.env)::starEach es X.env:=by rfl) (hpl:(backTo pos (starEach es X.env)).any (·.1)=false:=by rfl):PE X (.Call (.Name x p) (e::es) [] pos) (tCB r t):=by
 intro Y s σ H Q I h;exact wB (tW I hg hm hv (wz (jr (ha pos Y s σ H _ I h) λus s1 ⟨vs,H1,I1,r1,q1⟩=>hc Y s1 σ H1 vs us Q I1 r1 q1) he hpl) hn hdb)
end
end L2
namespace HT
open PyProof.Rows
section
variable{prog:Program}{w:World}{A:Around}{E:Value->Shared->Prop}{s:Shared}
def a0j{t b:Addr}{vs ws:List Value}{Q:Value->Shared->Prop}(ht:IsTup s.heap t vs.toArray)(hb:IsTup s.heap b ws.toArray)(hv:vs≠[])
  (h1:ws=[]->Q (.ref t) s) (h2:ws≠[]->Q (.ref s⁻¹) { s with heap:=s.heap.push { cls:=.type "tuple",data:=.seq (vs++ws).toArray}})
  (hsz:vs.length+ws.length<=sizeLine):wpAny (model prog w) A (binaryOp .Add (.ref t) (.ref b)) Q E s:=by
 obtain⟨⟨cls,dd,data,sl⟩,ho,hc,n,hd⟩:=id ht;obtain⟨⟨cls2,dd2,data2,sl2⟩,ho2,hc2,n2,hd2⟩:=id hb;simp only at hc hd hc2 hd2;subst hc hd hc2 hd2;have e:vs.toArray++ws.toArray=(vs++ws).toArray:=by simp
 by_cases hw:ws=[]
 ·exact Ph ⟨_,ho,Z⟩ ⟨_,ho2,Z⟩ Ow Pa Ob N7 (N5 _ _)
   (tuple_addW1 t b vs.toArray ws.toArray n n2 dd dd2 sl sl2 (by simpa using hv) (by simp[hw])) ⟨ho,ho2,h1 hw⟩
 ·refine Ph ⟨_,ho,Z⟩ ⟨_,ho2,Z⟩ Ow Pa Ob N7 (N5 _ _)
   (tuple_addW2 t b vs.toArray ws.toArray n n2 dd dd2 sl sl2 (by simpa using hv) (by simpa using hw) (by rw[iB,iB];exact hsz)) ⟨ho,ho2,?_⟩
  rw[e];exact h2 hw
def lH(n d:Nat):Option Int->Nat
 |none=>d
 |some v=>if v<0 then(v+(n:Int)).toNat else min v.toNat n
def Rn(n d:Nat):lH n d none=d:=rfl
def PN(n d k:Nat):lH n d (some (k:Int))=min k n:=by
 show(if(k:Int)<0 then((k:Int)+(n:Int)).toNat else min (k:Int).toNat n)=min k n;rw[aq (),jD]
def a3e(n d:Nat)(hd:d<=n)(o:Option Int):lH n d o<=n:=by
 cases o with
 |none=>exact hd
 |some v =>
  show(if v<0 then(v+(n:Int)).toNat else min v.toNat n)<=n;by_cases hv:v<0
  ·rw[aF hv];omega
  ·rw[aq hv];exact UL _ _
def Xj(v:Int)(n d:Nat):(if v<0 then max (v+(n:Int)) 0 else min v (n:Int))=((lH n d (some v):Nat):Int):=by
 show(if v<0 then max (v+(n:Int)) 0 else min v (n:Int))=(((if v<0 then(v+(n:Int)).toNat else min v.toNat n):Nat):Int);by_cases hv:v<0
 ·simp only[if_pos hv];omega
 ·simp only[if_neg hv];omega
def Vz(lo hi:Option Int)(n:Nat):Builtin.Slice.sliceAdjust lo hi 1 (n:Int)=(((lH n 0 lo:Nat):Int),((lH n n hi:Nat):Int)):=by
 have h1:¬((1:Int)<0):=()
 unfold Builtin.Slice.sliceAdjust;simp only[h1,if_false];refine Prod.ext ?_ ?_
 ·cases lo with
  |none=>rfl
  |some v=>exact Xj v n 0
 ·cases hi with
  |none=>rfl
  |some v=>exact Xj v n n
def VB(i j:Nat):Builtin.Slice.slicePlaces (i:Int) (j:Int) 1=j-i:=by
 unfold Builtin.Slice.slicePlaces;have h1:(1:Int)>0:=()
 simp only[h1,if_true,Int.ediv_one];split<;>omega
def Jo{v:Value}{o:Option Int}{Q:Option Int->Shared->Prop}(p:IsPart v o)(h:Q o s):wpAny (model prog w) A (Builtin.Slice.slicePartIndex v) Q E s:=by
 cases p with
 |none=>exact slicePart_none h
 |int i t=>exact slicePart_int h
def vJ{sl:Addr}{vl vu:Value}{lo hi:Option Int}{n:Nat}{Q:Int×Int×Nat->Shared->Prop}(hs:s.heap.IsSliceOf sl vl vu .none)(pl:IsPart vl lo)(pu:IsPart vu hi)
  (h:Q (((lH n 0 lo:Nat):Int),1,lH n n hi-lH n 0 lo) s):wpAny (model prog w) A (Builtin.Slice.sliceApplied (.ref sl) (pure (n:Int))) Q E s:=by
 obtain⟨os,hos,hcs,hds⟩:=id hs;unfold Builtin.Slice.sliceApplied Builtin.Slice.sliceFields;refine M (M (gn hos hds (x:=vl) Z (M (gn hos hds (x:=vu) Z (M (gn hos hds (x:=.none) Z (ao (M (slicePart_none ?_)))))))));show wpAny _ _ (if((1:Int)==0)=true then _ else _) _ _ s;rw[aq ()];refine M (Jo pl (M (Jo pu (M (ao ?_)))));show wpAny _ _ (match Builtin.Slice.sliceAdjust lo hi 1 (n:Int)with|(lo,hi)=>pure (lo,(1:Int),Builtin.Slice.slicePlaces lo hi 1)) _ _ s;rw[Vz lo hi n];show wpAny _ _ (pure (((lH n 0 lo:Nat):Int),(1:Int),Builtin.Slice.slicePlaces ((lH n 0 lo:Nat):Int) ((lH n n hi:Nat):Int) 1)) _ _ s;rw[VB];exact ao h
def ć(xs:Array Value)(i k:Nat):((List.range k).filterMap λ(m:Nat)=>xs[((i:Int)+(m:Int)*1).toNat]?).toArray=((xs.toList.drop i).take k).toArray:=by
 have e:(λ(m:Nat)=>xs[((i:Int)+(m:Int)*1).toNat]?)=λm=>xs[i+m]?:=by
  funext m;have:((i:Int)+(m:Int)*1).toNat=i+m:=()
  rw[this]
 rw[e];have:=pick_run xs i k;rw[Uw]at this;have e2:((λx=>xs[x]?)∘λx=>i+x)=λm=>xs[i+m]?:=rfl;rw[e2]at this;rw[this]
def Ce{t sl:Addr}{items:Array Value}{vl vu:Value}{lo hi:Option Int}{Q:Value->Shared->Prop}(ht:IsTup s.heap t items)(hs:s.heap.IsSliceOf sl vl vu .none)(pl:IsPart vl lo)(pu:IsPart vu hi)
  (hw:¬(lH items.size 0 lo=0/\lH items.size items.size hi=items.size))
  (h:Q (.ref s⁻¹) { s with heap:=s.heap.push { cls:=.type "tuple",data:=.seq ((items.toList.drop (lH items.size 0 lo)).take (lH items.size items.size hi-lH items.size 0 lo)).toArray}})
  (hsz:items.size<=sizeLine):wpAny (model prog w) A (getItem (.ref t) (.ref sl)) Q E s:=by
 have Xk:sizeOk (.seq ((items.toList.drop (lH items.size 0 lo)).take (lH items.size items.size hi-lH items.size 0 lo)).toArray):=by
  show((items.toList.drop (lH items.size 0 lo)).take (lH items.size items.size hi-lH items.size 0 lo)).toArray.size<=sizeLine;rw[iB,d7,j6,rY];omega
 have hj:lH items.size items.size hi<=items.size:=a3e _ _ (aL _) hi;obtain⟨os,hos,hcs,hds⟩:=id hs;have hTs:s.TypeIs (.ref sl) "slice" :=⟨os,hos,hcs⟩;unfold getItem;try with_reducible refine eU ?_
 first|refine M (ao ?_)|skip
 refine M (wpAny_sequenceKey ht.typeIs () ?_);refine M (mZ (name:=Str.ofString "__getitem__") ht.typeIs Ny
  (gk Ny ht.typeIs entry_tuple_getitem ?_ (args_tuple_getitem _ _)))
 show wpAny _ _ (Builtin.Tuple.tupleItemsOf (.ref t) >>= _) _ _ s;refine M (tupleItemsOf_ ht (M (u9 hTs ?_)));rw[aF ()];refine M (vJ hs pl pu ?_);have hno:¬((((lH items.size 0 lo:Nat):Int)==0&&(1:Int)==1&&(lH items.size items.size hi-lH items.size 0 lo)==items.size)=true):=by
  intro q;rw[qw,qw]at q;have q1:((lH items.size 0 lo:Nat):Int)=0:=eq_of_beq q.1.1;have q2:lH items.size items.size hi-lH items.size 0 lo=items.size:=eq_of_beq q.2;exact hw ⟨(),()⟩
 show wpAny _ _ (if(((lH items.size 0 lo:Nat):Int)==0&&(1:Int)==1&&(lH items.size items.size hi-lH items.size 0 lo)==items.size)=true then _ else _) _ _ s;rw[aq hno,ć];first
  |exact M (m:=Builtin.Tuple.tupleExact _) (j5 (ao ⟨_,Z,ao h⟩) Xk)
  |exact M (m:=Builtin.Tuple.tupleExact _) (j5 (M (ao (ao ⟨_,Z,ao h⟩))) Xk)
  |exact M (M (m:=Builtin.Tuple.tupleExact _) (j5 (ao (ao ⟨_,Z,ao h⟩)) Xk))
  |exact M (M (m:=Builtin.Tuple.tupleExact _) (j5 (ao ⟨_,Z,ao h⟩) Xk))
end
end HT
namespace L2
open PyProof.Rows
variable{X:Cx}{us:List Value}{s:Shared}{α:Type}
abbrev TO:=St->Hp->(Option Int->Hp->Prop)->Prop
def PO(X:Cx)(e:Option Expr)(t:TO):Prop :=
 ∀(Y:List (Addr×Obj)) (s:Shared) (σ:St) (H:Hp) (Q:Option Int->Hp->Prop),bG X Y σ H s->t σ H Q->
  wpAny (model X.prog X.w) X.A (evalPart e X.env) (λu s'=>∃o H',bG X Y σ H' s'/\IsPart u o/\Q o H') X.xe s
def a0k:TO:=λ_ H Q=>Q none H
def a5t(t:TE):TO:=λσ H Q=>t σ H λx H1=>EA (λi=>x=.int i) λi=>Q (some i) H1
section
variable{e:Expr}{te:TE}{lo hi:Option Expr}{tl th:TO}{pos p2:Pos}
def jK:PO X none a0k:=by
 intro Y s σ H Q I h;rw[evalPart_none];exact ao ⟨none,H,I,.none,h⟩
def jL(h:PE X e te):PO X (some e) (a5t te):=by
 intro Y s σ H Q I hw;rw[evalPart_some];refine jr (h Y s σ H _ I hw) λu s1 ⟨x,H1,I1,r1,q1⟩=>?_;obtain⟨i,rfl,q⟩:=q1;obtain⟨t,rfl⟩:=r1;exact⟨some i,H1,I1,.int i t,q⟩
def SlR(X:Cx)(r:V->Option Int->Option Int->Hp->VK->Prop):Prop :=
 ∀(Y:List (Addr×Obj)) (s:Shared) (σ:St) (H:Hp) (x:V) (v vl vu:Value) (lo hi:Option Int) (sl:Addr) (Q:VK),bG X Y σ H s->cQ x v->s.heap.IsSliceOf sl vl vu .none->IsPart vl lo->IsPart vu hi->r x lo hi H Q->
  ∃T id,typeLookup (.type T) "__getitem__" = pure (some (.builtin id))/\s.TypeIs v T/\wpAny (model X.prog X.w) X.A (getItem v (.ref sl)) (EP X Y σ Q) X.xe s
def tSl(r:V->Option Int->Option Int->Hp->VK->Prop)(te:TE)(tl th:TO):TE:=λσ H Q=>te σ H λx H1=>tl σ H1 λl H2=>th σ H2 λu H3=>r x l u H3 Q
def iI{r:V->Option Int->Option Int->Hp->VK->Prop}(hr:SlR X r)(he:PE X e te)(hl:PO X lo tl)(hu:PO X hi th):PE X (.Subscript e (.Slice lo hi none p2) pos) (tSl r te tl th):=by
 intro Y s σ H Q I h;refine Subscript_ (jr (he Y s σ H _ I h) λv s1 ⟨x,H1,I1,r1,q1⟩=>wpAny_Slice (jr (hl Y s1 σ H1 _ I1 q1) λvl s2 ⟨l,H2,I2,pl,q2⟩=>jr (hu Y s2 σ H2 _ I2 q2) λvu s3 ⟨u,H3,I3,pu,q3⟩=>?_));rw[evalPart_none];refine ao ?_;have I4:bG X Y σ H3 { s3 with heap:=s3.heap.push { cls:=.type "slice",data:=.fields #[vl,vu,.none]}}:=I3.kept (t':=s3.toks) λb ob q=>bB _ q;obtain⟨T,id,hT,ht,hg⟩:=hr Y { s3 with heap:=s3.heap.push { cls:=.type "slice",data:=.fields #[vl,vu,.none]}} σ H3 x v vl vu l u s3⁻¹ Q I4 r1 (Heap.IsSliceOf.new ..) pl pu q3;show wpAny (model X.prog X.w) X.A (subscriptTail e (.Slice lo hi none p2) v (.ref s3⁻¹)) (EP X Y σ Q) X.xe { s3 with heap:=s3.heap.push { cls:=.type "slice",data:=.fields #[vl,vu,.none]}};exact tail_any (ops:=[.ref s3⁻¹,v]) ht hT hg (by with_unfolding_all rfl)
def vg(xs:List V)(lo hi:Option Int):List V:=(xs.drop (HT.lH xs.length 0 lo)).take (HT.lH xs.length xs.length hi-HT.lH xs.length 0 lo)
def Ga(xs:List V)(lo hi:Option Int):(vg xs lo hi).length<=xs.length:=by
 unfold vg;rw[d7,j6];omega
inductive a7j(K:aH)(x:V)(lo:Option Int)(hi:Option Int)(H:Hp)(Q:VK):Prop
 |mk (a xs:_) (_:x=.ref a) (_:cO K H a xs) (_:¬(HT.lH xs.length 0 lo=0/\HT.lH xs.length xs.length hi=xs.length)) (_:∀p,H p=none->Q (.ref p) (cN H p (.tup (vg xs lo hi))))
def Ĉ:SlR X (a7j X.K):=by
 intro Y s σ H x v vl vu lo hi sl Q I rx hs pl pu h;obtain⟨a,xs,rfl,hx,hw,q⟩:=h;cases rx;obtain⟨b7,r,ht,hz⟩:=I.tuple hx;have hlen:b7.toArray.size=xs.length:=by rw[iB];exact r.length.symm
 refine⟨"tuple",_,PyProof.Rows.slot_tuple_getitem.lookup,ht.typeIs,?_⟩;refine HT.Ce ht hs pl pu (by rw[hlen];exact hw) ?_ (by rw[hlen];exact hz);rw[hlen];exact⟨.ref s⁻¹,_,I.laid (t':=s.toks) (o:=.tup (vg xs lo hi)) (λb ob q=>bB _ q) (aL _) ⟨dI (Ga xs lo hi) hz,_,(r.drop (HT.lH xs.length 0 lo)).take (HT.lH xs.length xs.length hi-HT.lH xs.length 0 lo),IsTup.new _ _⟩,Z,q _ (I.hok.fresh (aL _))⟩
inductive a5u(K:aH)(x:V)(y:V)(H:Hp)(Q:VK):Prop
 |mk (a b xs ys:_) (_:x=.ref a) (_:y=.ref b) (_:cO K H a xs) (_:cO K H b ys) (_:xs≠[]) (_:xs.length+ys.length<=sizeLine) (_:(ys=[]->Q (.ref a) H)) (_:(ys≠[]->∀p,H p=none->Q (.ref p) (cN H p (.tup (xs++ys)))))
def cP.Cg{xs:List V}(r:cP xs us):us=[]↔xs=[]:=by
 cases r with
 |nil=>simp
 |cons _ _=>simp
def Xl:rz X (binaryOp .Add) (a5u X.K):=by
 symm;obtain⟨a,b,xs,ys,rfl,rfl,ha,hb,hx,hz,q1,q2⟩:=h;cases rx;cases ry;obtain⟨b7,r1,p1,_⟩:=I.tuple ha;obtain⟨its2,r2,p2,_⟩:=I.tuple hb;refine HT.a0j p1 p2 (λz=>hx (r1.Cg.mp z)) (λz=>⟨.ref a,H,I,Z,q1 (r2.Cg.mp z)⟩) (λz=>?_) (by rw[<-r1.length,<-r2.length];exact hz);refine⟨.ref s⁻¹,_,I.laid (t':=s.toks) (o:=.tup (xs++ys)) (λb ob q=>bB _ q) (aL _) ?_,Z,q2 (λw=>z (r2.Cg.mpr w)) _ (I.hok.fresh (aL _))⟩;exact⟨by rw[cA];exact hz,_,r1.append r2,IsTup.new _ _⟩
end
def ixN(n:Nat)(i:Int):Option Nat:=if 0<=i then(if i<n then some i.toNat else none)else if -(n:Int)<=i then some (i+n).toNat else none
def TQ{α:Type}(xs:List α)(i:Int):Option α:=(ixN xs.length i).bind λj=>xs[j]?
def a0l{n:Nat}{i:Int}{j:Nat}(h:ixN n i=some j):seqIndex? i n=some j/\j<n/\ -(n:Int)<=i/\i<n:=by
 unfold ixN at h;by_cases h0:0<=i
 ·rw[aF h0]at h;by_cases h1:i<n
  ·rw[aF h1]at h;have e:i.toNat=j:=eO h;exact⟨by rw[seqIndex_of h0 h1,e],(),(),h1⟩
  ·rw[aq h1]at h;cases h
 ·rw[aq h0]at h;by_cases h1 : -(n:Int)<=i
  ·rw[aF h1]at h;have e:(i+n).toNat=j:=eO h;exact⟨by rw[seqIndex_neg () h1,e],(),h1,()⟩
  ·rw[aq h1]at h;cases h
def PX{xs:List α}{i:Int}{v:α}(h:TQ xs i=some v):∃j,seqIndex? i xs.length=some j/\xs[j]?=some v/\j<xs.length/\ -(xs.length:Int)<=i/\i<xs.length:=by
 unfold TQ at h;cases e:ixN xs.length i with
 |none=>rw[e]at h;cases h
 |some j =>
  rw[e]at h;obtain⟨h1,h2,h3,h4⟩:=a0l e;exact⟨j,h1,h,h2,h3,h4⟩
def bR{xs:List α}{j:Nat}{v:α}(h:xs[j]?=some v):TQ xs (j:Int)=some v:=by
 have hj:j<xs.length:=(fu.mp h).1;have e:ixN xs.length (j:Int)=some j:=by
  unfold ixN;rw[aF (),aF ()];simp
 unfold TQ;rw[e];exact h
def a0m(b:Expr):Prop:=∀o i,subscripted b false o i=operate [o,i] (getItem o i)
def IxR(X:Cx)(r:R2):Prop :=
 ∀(value slice:Expr) (Y:List (Addr×Obj)) (s:Shared) (σ:St) (H:Hp) (x y:V) (v u:Value) (Q:VK),bG X Y σ H s->cQ x v->cQ y u->r x y H Q->
  subscripted slice false v u=operate [v,u] (getItem v u)->wpAny (model X.prog X.w) X.A (subscriptTail value slice v u) (EP X Y σ Q) X.xe s
def MtR(X:Cx)(id:String)(r:V->List V->Hp->VK->Prop):Prop :=
 ∀(Y:List (Addr×Obj)) (s:Shared) (σ:St) (H:Hp) (x:V) (xs:List V) (v:Value) (us:List Value) (Q:VK),bG X Y σ H s->cQ x v->cP xs us->r x xs H Q->
  wpAny (model X.prog X.w) X.A (call (.builtin id) (v::us)) (EP X Y σ Q) X.xe s
section
variable{a b:Expr}{ta tb:TE}{pos:Pos}
def aR{r:R2}(hr:IxR X r)(ha:PE X a ta)(hb:PE X b tb)(hs:a0m b:=by exact λ_ _=>rfl):PE X (.Subscript a b pos) (tOp r ta tb):=by
 intro Y s σ H Q I h;exact Subscript_ (a2X ha hb I h λv u s2 x y H2 I2 rx ry q=>hr a b Y s2 σ H2 x y v u Q I2 rx ry q (hs _ _))
inductive a5v(K:aH)(x:V)(y:V)(H:Hp)(Q:VK):Prop
 |mk (p xs i v:_) (_:x=.ref p) (_:y=.int i) (_:bC K H p xs) (_:TQ xs i=some v) (_:Q v H)
inductive a5w(K:aH)(x:V)(y:V)(H:Hp)(Q:VK):Prop
 |mk (p xs i v:_) (_:x=.ref p) (_:y=.int i) (_:cO K H p xs) (_:TQ xs i=some v) (_:Q v H)
def a0n:IxR X (a5v X.K):=by
 intro value slice Y s σ H x y v u Q I rx ry h hs;obtain⟨p,xs,i,z,rfl,rfl,hq,he,q⟩:=h;cases rx;obtain⟨t,rfl⟩:=ry;obtain⟨b7,r,pl,hz⟩:=I.list hq;obtain⟨j,h1,h2,h3,h4,h5⟩:=PX he;obtain⟨w,ew,Y7⟩:=r.get h2;have hl:=r.length;have hn:=PK;have fin:EP X Y σ Q w s:=⟨z,H,I,Y7,q⟩;by_cases h0:0<=i
 ·have hj:i.toNat=j:=by
   rw[seqIndex_of h0 h5]at h1;exact eO h1
  exact item_listR pl.isList h0 () (by rw[hj];simpa using ew) fin hs
 ·have hj:(i+(b7.toArray.size:Int)).toNat=j:=by
   rw[seqIndex_neg () h4]at h1;rw[iB,<-hl];exact eO h1
  exact subscriptTail_builtinR (x:=w) pl.isList.typeIs slot_list_getitem.lookup
   (wpAny_getItem_list_neg (Q:=λr s'=>r=w/\EP X Y σ Q r s') pl.isList () (by rw[iB]<;>omega) () (by rw[hj];simpa using ew) ⟨Z,fin⟩) hs
def a3f:IxR X (a5w X.K):=by
 intro value slice Y s σ H x y v u Q I rx ry h hs;obtain⟨p,xs,i,z,rfl,rfl,hq,he,q⟩:=h;cases rx;obtain⟨t,rfl⟩:=ry;obtain⟨b7,r,pl,hz⟩:=I.tuple hq;obtain⟨j,h1,h2,h3,h4,h5⟩:=PX he;obtain⟨w,ew,Y7⟩:=r.get h2;have hl:=r.length;have hn:=PK;have fin:EP X Y σ Q w s:=⟨z,H,I,Y7,q⟩;exact subscriptTail_builtinR (x:=w) pl.typeIs slot_tuple_getitem.lookup
  (getItem_tuple (j:=j) (Q:=λr s'=>r=w/\EP X Y σ Q r s') pl () () (by rw[iB,<-hl];exact h1) (by simpa using ew) ⟨Z,fin⟩) hs
def P0(lo hi:Option Int)(n:Nat):(sliceBounds lo hi none n).1=((HT.lH n 0 lo:Nat):Int)/\(sliceBounds lo hi none n).2.1=((HT.lH n n hi:Nat):Int)/\(sliceBounds lo hi none n).2.2=1:=by
 refine⟨?_,?_,Z⟩
 ·cases lo with
  |none=>simp[sliceBounds,HT.lH]
  |some i =>
   simp only[sliceBounds,HT.lH,Option.getD_none,show(1:Int)>0 by decide,if_true];by_cases h:i<0
   ·simp only[h,if_true]<;>omega
   ·simp only[h,if_false]<;>omega
 ·cases hi with
  |none=>simp[sliceBounds,HT.lH]
  |some i =>
   simp only[sliceBounds,HT.lH,Option.getD_none,show(1:Int)>0 by decide,if_true];by_cases h:i<0
   ·simp only[h,if_true]<;>omega
   ·simp only[h,if_false]<;>omega
def Lf(b7:List Value)(lo hi:Option Int):slicePick b7.toArray lo hi none=((b7.drop (HT.lH b7.length 0 lo)).take (HT.lH b7.length b7.length hi-HT.lH b7.length 0 lo)).toArray:=by
 obtain⟨h1,h2,h3⟩:=P0 lo hi b7.toArray.size;unfold slicePick;rw[h1,h2,h3];simp only[sliceRange_one,pick_run,List.size_toArray]<;>rfl
inductive a7k(K:aH)(x:V)(lo:Option Int)(hi:Option Int)(H:Hp)(Q:VK):Prop
 |mk (a xs:_) (_:x=.ref a) (_:bC K H a xs) (_:∀p,H p=none->Q (.ref p) (cN H p (.lst (vg xs lo hi))))
def a0o:SlR X (a7k X.K):=by
 intro Y s σ H x v vl vu lo hi sl Q I rx hs pl pu h;obtain⟨a,xs,rfl,hx,q⟩:=h;cases rx;obtain⟨b7,r,ht,hz⟩:=I.list hx;have hlen:=r.length;refine⟨"list",_,slot_list_getitem.lookup,ht.isList.typeIs,?_⟩;refine wpAny_getItem_list_slice ht.isList hs pl pu .none (by simp) ?_ (by rw[iB]<;>omega);rw[Lf,<-hlen];exact⟨.ref s⁻¹,_,I.laid (t':=s.toks) (o:=.lst (vg xs lo hi)) (λb ob q=>bB _ q) (aL _) ⟨dI (Ga xs lo hi) hz,_,0,(r.drop (HT.lH xs.length 0 lo)).take (HT.lH xs.length xs.length hi-HT.lH xs.length 0 lo),bU _ Z⟩,Z,q _ (I.hok.fresh (aL _))⟩
def Ci:V->Bool
 |.non=>true
 |.bl _=>true
 |.int _=>true
 |.str _=>true
 |_=>false
def ĉ:V->V->Bool
 |.non,.non=>true
 |.bl a,.bl b=>a==b
 |.bl a,.int b=>(if a then 1 else 0)==b
 |.int a,.bl b=>a==(if b then 1 else 0)
 |.int a,.int b=>a==b
 |.str a,.str b=>a==b
 |_,_=>false
def a3g{A:Around}{y x:V}{u v:Value}(ry:cQ y u)(rx:cQ x v)(fy:Ci y=true)(fx:Ci x=true):SeqAt.EqAt A s u v (ĉ y x):=by
 cases y with
 |non =>
  cases ry;cases x with
  |non=>cases rx;exact SeqAt.EqAt.same _
  |bl b=>cases rx;exact SeqAt.EqAt.none_bool b
  |int b=>obtain⟨t,rfl⟩:=rx;exact SeqAt.EqAt.none_int b t
  |str b=>obtain⟨t,rfl⟩:=rx;exact SeqAt.EqAt.none_str b t
  |_=>exact absurd (show false=true from fx) dB
 |bl a =>
  cases ry;cases x with
  |non=>cases rx;exact SeqAt.EqAt.bool_none a
  |bl b=>cases rx;exact SeqAt.EqAt.bool_bool a b
  |int b=>obtain⟨t,rfl⟩:=rx;exact SeqAt.EqAt.bool_int a b t
  |str b=>obtain⟨t,rfl⟩:=rx;exact SeqAt.EqAt.bool_str a b t
  |_=>exact absurd (show false=true from fx) dB
 |int a =>
  obtain⟨t',rfl⟩:=ry;cases x with
  |non=>cases rx;exact SeqAt.EqAt.int_none a t'
  |bl b=>cases rx;exact SeqAt.EqAt.int_bool a t' b
  |int b=>obtain⟨t,rfl⟩:=rx;exact SeqAt.EqAt.int_int a t' b t
  |str b=>obtain⟨t,rfl⟩:=rx;exact SeqAt.EqAt.int_str a t' b t
  |_=>exact absurd (show false=true from fx) dB
 |str a =>
  obtain⟨t',rfl⟩:=ry;cases x with
  |non=>cases rx;exact SeqAt.EqAt.str_none a t'
  |bl b=>cases rx;exact SeqAt.EqAt.str_bool a t' b
  |int b=>obtain⟨t,rfl⟩:=rx;exact SeqAt.EqAt.str_int a t' b t
  |str b=>obtain⟨t,rfl⟩:=rx;exact SeqAt.EqAt.str_str a t' b t
  |_=>exact absurd (show false=true from fx) dB
 |_=>exact absurd (show false=true from fy) dB
def VD(x:V)(u:Value):Bool:=match u with
 |.none=>ĉ .non x
 |.bool b=>ĉ (.bl b) x
 |.int i _=>ĉ (.int i) x
 |.str z _=>ĉ (.str z) x
 |_=>false
def Ċ{x y:V}{u:Value}(r:cQ y u)(f:Ci y=true):VD x u=ĉ y x:=by
 cases y with
 |non=>cases r;rfl
 |bl b=>cases r;rfl
 |int i=>obtain⟨t,rfl⟩:=r;rfl
 |str z=>obtain⟨t,rfl⟩:=r;rfl
 |_=>exact absurd (show false=true from f) dB
def Ho{x:V}{xs:List V}(h:cP xs us)(f:xs.all Ci=true):us.any (VD x)=xs.any λy=>ĉ y x:=by
 induction h with
 |nil=>rfl
 |cons r t ih =>
  rw[List.all_cons,qw]at f;rw[tR,tR,Ċ r f.1,ih f.2]
def Cj{A:Around}{x:V}{v:Value}(rx:cQ x v)(fx:Ci x=true){xs:List V}(h:cP xs us)(f:xs.all Ci=true):∀u∈us,SeqAt.EqAt A s u v (VD x u):=by
 induction h with
 |nil=>intro u hu;cases hu
 |cons r t ih =>
  intro u' hu;rw[List.all_cons,qw]at f;rcases cB.mp hu with rfl|hu
  ·rw[Ċ r f.1];exact a3g r rx f.1 fx
  ·exact ih f.2 u' hu
def inV(x:V)(xs:List V):Bool:=xs.any λy=>ĉ y x
inductive rIn(K:aH)(neg:Bool)(x:V)(y:V)(H:Hp)(Q:VK):Prop
 |mk (p xs:_) (_:y=.ref p) (_:(bC K H p xs\/cO K H p xs)) (_:Ci x=true) (_:xs.all Ci=true) (_:Q (.bl (if neg then !inV x xs else inV x xs)) H)
def Y8:rz X (compareOp .In) (rIn X.K false):=by
 symm;obtain⟨p,xs,rfl,hq,fx,fs,q⟩:=h;cases ry;rcases hq with hq|hq
 ·obtain⟨b7,r,pl,hz⟩:=I.list hq;refine SeqAt.in_listAt (VD x) pl.isList (λw hw=>Cj rx fx r fs w (by simpa using hw)) ⟨.bl _,H,I,Z,?_⟩;rw[show b7.toArray.any (VD x)=b7.any (VD x) by simp,Ho r fs];exact q
 ·obtain⟨b7,r,pl,hz⟩:=I.tuple hq;refine SeqAt.in_tupleAt (VD x) pl (λw hw=>Cj rx fx r fs w (by simpa using hw)) ⟨.bl _,H,I,Z,?_⟩;rw[show b7.toArray.any (VD x)=b7.any (VD x) by simp,Ho r fs];exact q
def Qa:rz X (compareOp .NotIn) (rIn X.K true):=by
 symm;obtain⟨p,xs,rfl,hq,fx,fs,q⟩:=h;cases ry;rcases hq with hq|hq
 ·obtain⟨b7,r,pl,hz⟩:=I.list hq;refine SeqAt.notIn_listAt (VD x) pl.isList (λw hw=>Cj rx fx r fs w (by simpa using hw)) ⟨.bl _,H,I,Z,?_⟩;rw[show b7.toArray.any (VD x)=b7.any (VD x) by simp,Ho r fs];exact q
 ·obtain⟨b7,r,pl,hz⟩:=I.tuple hq;refine SeqAt.notIn_tupleAt (VD x) pl (λw hw=>Cj rx fx r fs w (by simpa using hw)) ⟨.bl _,H,I,Z,?_⟩;rw[show b7.toArray.any (VD x)=b7.any (VD x) by simp,Ho r fs];exact q
def Qc:jF X (.builtin "len") (λxs H Q=>∃p ys,xs=[.ref p]/\(bC X.K H p ys\/cO X.K H p ys)/\Q (.int ys.length) H):=by
 intro Y s σ H xs us Q I r h;obtain⟨p,ys,rfl,hq,q⟩:=h;obtain⟨u,rfl,rx⟩:=vals1 r;cases rx;have hn:=PK;rcases hq with hq|hq
 ·obtain⟨b7,r',pl,hz⟩:=I.list hq;have hlen:=r'.length;exact Calls.call_len_list pl.isList (by simp only[List.size_toArray]<;>omega) ⟨.int ys.length,H,I.tok _,⟨s.toks+1,by rw[iB,hlen]⟩,q⟩
 ·obtain⟨b7,r',pl,hz⟩:=I.tuple hq;have hlen:=r'.length;exact len_tuple pl (by simp only[List.size_toArray]<;>omega) ⟨.int ys.length,H,I.tok _,⟨s.toks+1,by rw[iB,hlen]⟩,q⟩
def Qd:jF X (.type "list") (λxs H Q=>∃p ys,xs=[.ref p]/\(bC X.K H p ys\/cO X.K H p ys)/\∀l,H l=none->Q (.ref l) (cN H l (.lst ys))):=by
 intro Y s σ H xs us Q I r h;obtain⟨p,ys,rfl,hq,q⟩:=h;obtain⟨u,rfl,rx⟩:=vals1 r;cases rx;have fin:∀(b7:List Value),cP ys b7->ys.length<=sizeLine->∀(h':Heap) (c':Nat),(∀b o',s.heap.get? b=some o'->h'.get? b=some o')->
   h'.get? s⁻¹=some { cls:=.type "list",dict:=none,data:=.seq b7.toArray c',slots:=#[]}->EP X Y σ Q (.ref s⁻¹) { s with heap:=h'}:=λb7 r' hz h' c' kp e =>
  ⟨.ref s⁻¹,_,I.laid (t':=s.toks) kp (aL _) (show fM X.prog X.w _ h' _ (.lst ys)from⟨hz,b7,c',r',e⟩),Z,q _ (I.hok.fresh (aL _))⟩
 rcases hq with hq|hq
 ·obtain⟨b7,r',pl,hz⟩:=I.list hq;have hlen:=r'.length;obtain⟨o,ho,hc,n,hd⟩:=pl.isList;exact call_list_seq p (.inl Z) ho hc hd (λh' c' kp e=>fin b7 r' hz h' c' kp e) (by simp only[List.size_toArray]<;>omega)
 ·obtain⟨b7,r',pl,hz⟩:=I.tuple hq;have hlen:=r'.length;obtain⟨o,ho,hc,n,hd⟩:=pl;exact call_list_seq p (.inr Z) ho hc hd (λh' c' kp e=>fin b7 r' hz h' c' kp e) (by simp only[List.size_toArray]<;>omega)
def vh:jF X (.type "tuple") (λxs H Q=>∃p ys,xs=[.ref p]/\((bC X.K H p ys/\∀l,H l=none->Q (.ref l) (cN H l (.tup ys)))\/(cO X.K H p ys/\Q (.ref p) H))):=by
 intro Y s σ H xs us Q I r h;obtain⟨p,ys,rfl,h⟩:=h;obtain⟨u,rfl,rx⟩:=vals1 r;cases rx;rcases h with⟨hq,q⟩|⟨hq,q⟩
 ·obtain⟨b7,r',pl,hz⟩:=I.list hq;have hlen:=r'.length;refine call_tuple_list pl.isList (λh' kp=>?_) (by simp only[List.size_toArray]<;>omega);have I1:bG X Y σ H { s with heap:=h'}:=I.kept (t':=s.toks) kp;have I2:bG X Y σ (cN H h'.objs.size (.tup ys)) { s with heap:=h'.push { cls:=.type "tuple",data:=.seq b7.toArray}} :=
   I1.laid (t':=s.toks) (λb o e=>bB _ e) (aL _) (show fM X.prog X.w _ _ _ (.tup ys)from⟨hz,b7,r',IsTup.new _ _⟩)
  exact⟨.ref h'.objs.size,_,I2,Z,q _ (I1.hok.fresh (aL _))⟩
 ·obtain⟨b7,r',pl,hz⟩:=I.tuple hq;exact call_tuple_same pl ⟨.ref p,H,I,Z,q⟩
def tyV(K:aH)(T:String)(x:V)(H:Hp):Prop:=match x with
 |.str _=>T = "str"
 |.int _=>T = "int"
 |.ref p=>(T = "list" /\∃xs,bC K H p xs)\/(T = "tuple" /\∃o,K.lookup p=some o/\o.cls=.type "tuple" /\o.dict=none)\/
   (T = "dict" /\((∃J,H p=some (.dK J))\/∃J,H p=some (.dT J)))\/(T = "set" /\∃S n,H p=some (.set S n))
 |_=>False
def ċ{Y:List (Addr×Obj)}{σ:St}{H:Hp}{T:String}{x:V}{v:Value}(I:bG X Y σ H s)(r:cQ x v)(ty:tyV X.K T x H) :
  s.TypeIs v T/\∀a,v=.ref a->∃ob,s.heap.get? a=some ob/\ob.dict=none:=by
 cases x with
 |str z =>
  obtain⟨t,rfl⟩:=r;cases(show T = "str" from ty);exact⟨typeIs_str s z t,λ_ e=>nomatch e⟩
 |int i =>
  obtain⟨t,rfl⟩:=r;cases(show T = "int" from ty);exact⟨typeIs_int s i t,λ_ e=>nomatch e⟩
 |ref p =>
  cases r;rcases ty with⟨rfl,xs,hq⟩|⟨rfl,o,hk,hc,hd⟩|⟨rfl,hk⟩|⟨rfl,S,n,hk⟩
  ·obtain⟨b7,_,pl,_⟩:=I.list hq;refine⟨pl.isList.typeIs,λa e=>?_⟩;cases e;obtain⟨o,n,e,c,hd,_⟩:=pl;exact⟨o,e,hd⟩
  ·refine⟨⟨o,I.DR p o hk,hc⟩,λa e=>?_⟩;cases e;exact⟨o,I.DR _ o hk,hd⟩
  ·have z:∃o,s.heap.get? p=some o/\o.ExactDict:=by
    rcases hk with⟨J,hk⟩|⟨J,hk⟩
    ·obtain⟨_,_,_,_,o,_,_,e,ex,_⟩:=I.hok p _ hk;exact⟨o,e,ex⟩
    ·obtain⟨_,_,_,_,o,_,_,e,ex,_⟩:=I.hok p _ hk;exact⟨o,e,ex⟩
   obtain⟨o,e,ex⟩:=z;refine⟨⟨o,e,ex.1⟩,λa e2=>?_⟩;cases e2;exact⟨o,e,ex.2.1⟩
  ·obtain⟨o,_,_,_,e,ex,_⟩:=I.hok p _ hk;refine⟨⟨o,e,ex.1⟩,λa e2=>?_⟩;cases e2;exact⟨o,e,ex.2.1⟩
 |_=>exact False.elim ty
def a5x(K:aH)(T:String)(r:V->List V->Hp->VK->Prop)(to:TE):TE:=λσ H Q=>to σ H λx H1=>tyV K T x H1/\r x [] H1 Q
def tBM(K:aH)(T:String)(r:V->List V->Hp->VK->Prop)(to:TE)(t:TA):TE:=λσ H Q=>to σ H λx H1=>tyV K T x H1/\t σ H1 λxs H2=>r x xs H2 Q
variable{o e:Expr}{es:List Expr}{to:TE}{t:TA}{name:Str}{apos cpos:Pos}{T id:String}{r:V->List V->Hp->VK->Prop}
def a3h(pa:PlainAttrs T)(slot:Slot T name id)(hty:typeOf (.builtin id)=pure (.type "method_descriptor"))(hm:MtR X id r)(ho:PE X o to)
  (hbase:attributeBase o name X.env (eval o X.env)=eval o X.env:=by rfl) (hline:(apos.endLine==cpos.line)=true:=by rfl):PE X (.Call (.Attribute o name apos) [] [] cpos) (a5x X.K T r to):=by
 intro Y s σ H Q I h;refine wpAny_Call_method0_late hbase hline (jr (ho Y s σ H _ I h) λv s1 ⟨x,H1,I1,r1,ty,q1⟩=>?_);obtain⟨h1,h2⟩:=ċ I1 r1 ty;exact⟨T,id,pa,slot,hty,h1,h2,Uh Z (PySem.evalArgs_none (hm Y s1 σ H1 x [] v [] Q I1 r1 .nil q1))⟩
def a5y(pa:PlainAttrs T)(slot:Slot T name id)(hty:typeOf (.builtin id)=pure (.type "method_descriptor"))(hm:MtR X id r)(ho:PE X o to)(ha:PA X (e::es) t)
  (hbase:attributeBase o name X.env (eval o X.env)=eval o X.env:=by rfl)
  (hfew:((backTo cpos (starEach (e::es) X.env)).all (λx=>!x.1)&&(backToKw cpos (keywordEach [] X.env)).all (λx=>x.1.isSome)
   && decide ((e::es).length+([]:List Keyword).length+(if([]:List Keyword).isEmpty then 0 else 1)<30))=true:=by rfl)
  (hline:(apos.endLine==cpos.line)=true:=by rfl) (hs:starEach (e::es) X.env=(false,eval e X.env)::starEach es X.env:=by rfl) (hplain:(backTo cpos (starEach es X.env)).any (·.1)=false:=by rfl) :
  PE X (.Call (.Attribute o name apos) (e::es) [] cpos) (tBM X.K T r to t):=by
 intro Y s σ H Q I h;refine wpAny_Call_method_late hbase hfew hline Z (jr (ho Y s σ H _ I h) λv s1 ⟨x,H1,I1,r1,ty,q1⟩=>?_);obtain⟨h1,h2⟩:=ċ I1 r1 ty;refine⟨T,id,pa,slot,hty,h1,h2,?_⟩;have hA:=ha cpos Y s1 σ H1 _ I1 q1;rw[hs]at hA ⊢;refine Uh (by show(false||(backTo cpos (starEach es X.env)).any (·.1))=false;rw[hplain]<;>rfl) (Calls.evalArgs_plain ?_);exact jr hA λus s2 ⟨vs,H2,I2,r2,q2⟩=>hm Y s2 σ H2 x vs v us Q I2 r1 r2 q2
end
def Ro(X:Cx)(id:String)(r:V->List V->Hp->VK->Prop):Prop :=
 ∀(Y:List (Addr×Obj)) (s:Shared) (σ:St) (H:Hp) (x:V) (xs:List V) (v:Value) (us:List Value) (Q:VK),bG X Y σ H s->cQ x v->cP xs us->r x xs H Q->
  wpAny (model X.prog X.w) X.A (call (.builtin id) (v::us)) (EP X Y σ Q) X.xe s
def cP.fZ{x:V}(h:cP [x] us):∃u,us=[u]/\cQ x u:=by
 cases h with
 |cons r t =>
  cases t;exact⟨_,Z,r⟩
def cP.zero:∀{us:List Value},cP [] us->us=[]
 |_,.nil=>rfl
def cP.dropLast{xs:List V}{us:List Value}(h:cP xs us):cP xs.dropLast us.dropLast:=by
 induction h with
 |nil=>exact .nil
 |cons r t ih =>
  cases t with
  |nil=>exact .nil
  |cons q t'=>exact .cons r ih
def VF(l:List α):l.eraseIdx (l.length-1)=l.dropLast:=by
 induction l with
 |nil=>rfl
 |cons a r ih =>
  cases r with
  |nil=>rfl
  |cons b r =>
   have e:(a::b::r).length-1=((b::r).length-1)+1:=by
    have h1:(a::b::r).length=r.length+2:=rfl;have h2:(b::r).length=r.length+1:=rfl;omega
   rw[e,List.eraseIdx_cons_succ,ih];all_goals rfl
section
variable{Y:List (Addr×Obj)}{σ:St}{H:Hp}{l b:Addr}{xs ys zs:List V}
def bG.a0p{b7 its':List Value}{n:Nat}{f:Array Value->Array Value}{t':Nat}(I:bG X Y σ H s)(hH:H l=some (.lst xs))
  (e:s.heap.get? l=some { cls:=.type "list",data:=.seq b7.toArray n}) (hf:f b7.toArray=its'.toArray) (hv:cP ys its') (hz:ys.length<=sizeLine) :
  bG X Y σ (cN H l (.lst ys)) { s with heap:=s.heap.update l (Obj.mapSeq f),toks:=t'}:=by
 have q:=PySem.IsL.update e f;rw[hf]at q;refine I.write (x:=l) (e:=l) (by rw[hH];exact trivial) (.inl Z) (λb' u hb hu=>(Ui s.heap (Obj.mapSeq f) (Ne.symm hb)).trans hu) ⟨_,q⟩ ?_;exact⟨hz,its',_,hv,q⟩
def bG.a7l{b7:List Value}{t':Nat}(I:bG X Y σ H s)(hv:cP ys b7)(hz:ys.length<=sizeLine) :
  bG X Y σ (cN H s⁻¹ (.lst ys)) { s with heap:=s.heap.push { cls:=.type "list",data:=.seq b7.toArray},toks:=t'} :=
 I.laid (λ_ _ q=>bB _ q) (aL _) ⟨hz,b7,0,hv,bU _ Z⟩
def bG.fresh(I:bG X Y σ H s):H s⁻¹=none:=I.hok.fresh (aL _)
def bG.VG(I:bG X Y σ H s)(hH:H l=some (.lst xs)):xs.length<=sizeLine/\∃(b7:List Value) (n:Nat),cP xs b7/\xs.length=b7.length/\s.heap.get? l=some { cls:=.type "list",data:=.seq b7.toArray n}:=by
 obtain⟨z,b7,n,r,e⟩:=I.hok l _ hH;exact⟨z,b7,n,r,r.length,e⟩
end
inductive a0q(x:V)(vs:List V)(H:Hp)(Q:VK):Prop
 |mk (l xs y:_) (_:x=.ref l) (_:vs=[y]) (_:H l=some (.lst xs)) (_:xs.length<sizeLine) (_:Q .non (cN H l (.lst (xs++[y]))))
def Y9:Ro X "list.append" a0q:=by
 intro Y s σ H x vs v us Q I rx rv h;obtain⟨l,xs,y,rfl,rfl,hH,hz,q⟩:=h;cases rx;obtain⟨u,rfl,ru⟩:=rv.fZ;obtain⟨z,b7,n,r,hl,e⟩:=I.VG hH;refine En F.slot_list_append ⟨_,e,Z⟩ F.entry_list_append (F.args_list_append_2 _ _) (PySem.list_append l b7.toArray n u (by rw[List.size_toArray];omega)) ⟨e,?_⟩;refine⟨.non,_,I.a0p (its':=b7++[u]) hH e (by simp) (r.append (.cons ru .nil)) ?_,Z,q⟩;rw[cA,Ae];omega
inductive a7m(x:V)(vs:List V)(H:Hp)(Q:VK):Prop
 |mk (l xs y:_) (_:x=.ref l) (_:vs=[]) (_:H l=some (.lst xs)) (_:xs[xs.length-1]?=some y) (_:Q y (cN H l (.lst xs.dropLast)))
def a3i:Ro X "list.pop" a7m:=by
 intro Y s σ H x vs v us Q I rx rv h;obtain⟨l,xs,y,rfl,rfl,hH,hy,q⟩:=h;cases rx;have hus:=rv.zero;subst hus;obtain⟨z,b7,n,r,hl,e⟩:=I.VG hH;obtain⟨u,hu,ru⟩:=r.get hy;have hy':b7.toArray[b7.toArray.size-1]?=some u:=by
  show b7.toArray[b7.length-1]?=some u;rw[<-Im,<-hl];exact hu
 refine En F.slot_list_pop ⟨_,e,Z⟩ F.entry_list_pop (F.args_list_pop_1 _) (MeetsSeq.list_pop_last l b7.toArray n u hy' (by rw[iB];omega)) ⟨e,?_⟩;refine⟨y,_,I.a0p (its':=b7.dropLast) hH e ?_ r.dropLast ?_,ru,q⟩
 ·show b7.toArray.eraseIdxIfInBounds (b7.toArray.size-1)=b7.dropLast.toArray;rw[iB,List.eraseIdxIfInBounds_toArray,VF]
 ·rw[Og];omega
inductive a3j(x:V)(vs:List V)(H:Hp)(Q:VK):Prop
 |mk (l xs:_) (_:x=.ref l) (_:vs=[]) (_:H l=some (.lst xs)) (_:Q .non (cN H l (.lst [])))
def Č:Ro X "list.clear" a3j:=by
 intro Y s σ H x vs v us Q I rx rv h;obtain⟨l,xs,rfl,rfl,hH,q⟩:=h;cases rx;have hus:=rv.zero;subst hus;obtain⟨z,b7,n,r,hl,e⟩:=I.VG hH;refine En F.slot_list_clear ⟨_,e,Z⟩ F.entry_list_clear (F.args_list_clear_1 _) (AutoSeq1.list_clear_list_0 l b7.toArray n (by rw[iB];omega)) ⟨e,?_⟩;exact⟨.non,_,I.a0p (its':=[]) (ys:=[]) hH e Z .nil (dh _),Z,q⟩
inductive a7n(x:V)(y:V)(H:Hp)(Q:VK):Prop
 |mk (l b xs zs:_) (_:x=.ref l) (_:y=.ref b) (_:H l=some (.lst xs)) (_:H b=some (.lst zs)) (_:xs.length+zs.length<=sizeLine) (_:∀p,H p=none->Q (.ref p) (cN H p (.lst (xs++zs))))
def a3k:rz X (binaryOp .Add) a7n:=by
 symm;obtain⟨l,b,xs,zs,rfl,rfl,hH,hB,hz,q⟩:=h;cases rx;cases ry;obtain⟨z,b7,n,r,hl,e⟩:=I.VG hH;obtain⟨z2,its2,n2,r2,hl2,e2⟩:=I.VG hB;refine PySem.P.add_list e e2 ?_ (by rw[iB,iB];omega);have ea:b7.toArray++its2.toArray=(b7++its2).toArray:=by simp
 rw[ea];exact⟨.ref _,_,I.a7l (t':=s.toks) (r.append r2) (by rw[List.length_append];omega),Z,q _ I.fresh⟩
end L2
namespace Att
open PySem.W PySem.Calls PyProof.Rows
def Gw{P:Params}{h:Heap}:∀(ns:List Int) (vs:List Value),WellAll P h vs (ns.map WData.int)->IntsAre vs ns:=by
 intro ns
 induction ns with
 |nil =>
  intro vs w;rw[List.map_nil]at w;cases w;exact .nil
 |cons n ns ih =>
  intro vs w;rw[bV]at w;cases w with
  |cons a b =>
   cases a;exact .cons _ _ (ih _ b)
def Za{l : OpenLaw}{n : Nat}(hn : l.most = some n){P : Params}{h : Heap}{args : List WData}{vals : List Value}
    (hpre : l.row.toRowW.claim.pre args = true) (hwl : WellAll P h vals args) :
    ∃ a vs ns, vals = [Value.ref a] ∧ args = [WData.list (ns.map WData.int)] ∧ h.get? a = some { cls := .type "list", data := .seq vs.toArray } ∧ IntsAre vs ns ∧ ns.length ≤ n := by
  have hsh : WShape.hasAll [] args [.list .int] = true := (pre_splitW hpre).1;have hc : l.pre.holds [] { args := args } = true := (pre_splitW hpre).2;obtain ⟨d, r, rfl, h1, h2⟩ := hasAllW_cons hsh;obtain rfl := hasAllW_nil h2;obtain ⟨xs, rfl, h3⟩ := hasW_list h1;obtain ⟨ns, rfl⟩ := items_int h3;have hlen : ns.length ≤ n := by
    unfold OpenLaw.pre at hc;have h4 : (WTm.not (.lt (.lit (.int (n : Int))) (.len (.arg 0)))).holds [] { args := [.list (ns.map .int)] } = true := by
      have h4 := (holds_andW hc).1;rw [hn] at h4;exact h4
    have h5 := condW_of h4 (w_not (w_lt w_lit (w_len_list (w_arg Z))));rw [aJ] at h5;refine Nat.le_of_not_lt fun q => ?_;have q' : (n : Int) < ((ns.length : Nat) : Int) := by omega
    first
      | (rw [bL q'] at h5; exact absurd h5 ())
      | (simp at h5; omega)
  cases hwl with
  | cons w1 w2 =>
    cases w2;cases w1 with
    | list ho hall => exact ⟨_, _, ns, Z, Z, ho, Gw ns _ hall, hlen⟩
def Zb(l : OpenLaw)(args : List WData) : l.row.toRowW.claim.post args (.bool true) args = true :=
  postW_of (r := l.row.toRowW) (X := (true == true))
    (show WShape.has [] (.bool true) .bool = true by first | rfl | decide | simp [WShape.has, WShape.arms, WShape.armsAll])
    (show (WTm.eq .res (.lit (.bool true))).value [] { args := args, res := some (.bool true), after := args } = some (.bool (true == true)) from w_eq_bool (w_res Z) w_lit) rfl
def Rp{l:OpenLaw}{n:Nat}{q:Program}{loose:List Str}{XP:(Str->Option Value)->Heap->Prop}{YP:World->Heap->Prop}{d:DefRec}
  (hn:l.most=some n) (hdf:d.params.defaults=[])
  (call:∀(w:World) (s₀ s₁:Shared) (mg mb:Str->Option Value) (fa:Addr) (o:Obj) (pm cd doc:Value) (a:Addr) (vs:List Value) (ns:List Int),
   Ground q loose [] XP w s₀ mg mb s₁.heap->YP w s₁.heap->
   s₁.heap.get? fa=some o->o.data=.func (docDef d.name d.params d.body d.scope pm cd doc)->s₁.heap.CodeRec cd d.name->mg d.name=some (.ref fa)->
   s₁.heap.get? a=some { cls:=.type "list",data:=.seq vs.toArray}->IntsAre vs ns->ns.length<=n->s₁.gens = #[]->
   codeAny (model l.prog w) callerA (.call (.ref fa) ⟨[.ref a],[]⟩) (λr s'=>r=.ok (.ret (.bool true))/\OldK s₁.heap s'.heap/\s'.os=s₁.os/\AllBare s'.gens) s₁) :
  WalkO q loose XP YP l.row.toRowW d [] (λf vs=>PySem.call f vs):=by
 intro w s₀ s₁ mg mb G Z99 fa o pm cd doc dV kV ho hd hcd hD hmg hg args vals as hpre hlay hrd hwl hlo;obtain rfl:dV=.none:=Dflts.none hD hdf;obtain rfl:kV=.none:=Dflts.noKw hD;obtain⟨a,vs,ns,rfl,rfl,hobj,hints,hlen⟩:=Za hn hpre hwl;refine enter_call (Ej (call w s₀ s₁ mg mb fa o pm cd doc a vs ns G Z99 ho (fd_plain hd) hcd hmg hobj hints hlen hg) λr s' hq=>?_);obtain⟨rfl,h2,h3,h4⟩:=hq;exact⟨.inl ⟨.bool true,.bool true,[],Z,λ_=>rfl,.bool true,Zb l _,λ_=>⟨List.Pairwise.nil,λ_ hm=>(nomatch hm)⟩⟩,h2,h3,h4⟩
end Att
namespace L2
open PyProof.Rows
variable{X:Cx}{σ:St}{ix:List (Option Nat)}{x qual:Str}{Y:List (Addr×Obj)}{a it:Addr}{n k:Nat}{scope:Scope}{g:TG}{tt:TT}{te:TE}{pos:Pos}{H1 H':Hp}{s:Shared}{Q:VK}{o:HO}{N':List Str}{tg elt iter:Expr}{w:World}{fd:FuncData}{A B:Prop}{R:Result->Shared->Prop}{ifs es:List Expr}{r:V->List V->Hp->VK->Prop}
def Mw:∀{vs:List Value}{ns:List Int},IntsAre vs ns->cP (ns.map V.int) vs
 |_,_,.nil=>.nil
 |_,_,.cons n t h=>.cons ⟨t,Z⟩ (Mw h)
def Only(H:Hp):Prop:=∀b,H b=none\/∃o xs,H b=some (.jq o (.lst xs))
def č{P:Program}{K:aH}{mg mb:Str->Option Value}{CX:TJ}{fa:Addr}{sp:Sp}{s₁:Shared}{vs:List Value}{ns:List Int}
  (KX:K.In s₁.heap) (hns:s₁.heap.Ns mainGlobals mg) (hb:s₁.heap.Ns builtinsNs mb) (hbb:∀x:Str,x≠ "__name__" ->mb x=bootBuiltins x) (hlim:s₁.heap.NoLimit) (hg:s₁.gens = #[])
  (ha:s₁.heap.get? a=some { cls:=.type "list",data:=.seq vs.toArray}) (hi:IntsAre vs ns) (hl:ns.length<=sizeLine) (hr:sY k callerA)
  (F:∀base:Heap,K.In base->base.Ns mainGlobals mg->bw P w K mg base CX k fa fd [x] sp) (hbind:∀(s:Shared) (u:Value),BindsTo s fd ⟨[u],[]⟩ [(x,u)])
  (hsp:∀H:Hp,Only H->bC K H a (ns.map V.int)->sp [.ref a] H (λv _=>v=.bl true) λ_ _ _=>False)
  (hCX:∀H e s',CX [] H s₁ (λ_ _ _=>False) e s'->False) :
  codeAny (model P w) callerA (.call (.ref fa) ⟨[.ref a],[]⟩) (λr s'=>r=.ok (.ret (.bool true))/\OldK s₁.heap s'.heap/\s'.os=s₁.os/\AllBare s'.gens) s₁:=by
 have rv:=Mw hi;have lenV:=hi.length;have core:∀H:Hp,Only H->bC K H a (ns.map V.int)->zO P w H s₁.heap->(∀b,H b≠none->b=a)->(H a≠none->K.lookup a=none)->
   codeAny (model P w) callerA (.call (.ref fa) ⟨[.ref a],[]⟩) (λr s'=>r=.ok (.ret (.bool true))/\OldK s₁.heap s'.heap/\s'.os=s₁.os/\AllBare s'.gens) s₁:=by
  intro H hO hS hok hA hK;have Xm:∀{b:Addr}{o:Obj},s₁.heap.get? b=some o->H b=none->(Pu s₁.heap H).get? b=some o:=λe n=>ø e n;have noA:∀{b:Addr}{o:Obj}{es:Array DictEntry}{ep:Nat},s₁.heap.get? b=some o->o.data=.dict es ep->H b=none:=λ{b o es ep} e d=>by
   cases q:H b with
   |none=>rfl
   |some u =>
    have e':b=a:=hA b (by rw[q];simp);subst e';rw[ha]at e;cases e;have d':Data.seq vs.toArray _=Data.dict es ep:=d;cases d'
  have nsK:∀{b:Addr}{m:Str->Option Value},s₁.heap.Ns b m->(Pu s₁.heap H).Ns b m:=λ{b m} ⟨o,es,ep,e,d,r⟩=>⟨o,es,ep,Xm e (noA e d),d,r⟩;have hKb:K.In (Pu s₁.heap H):=λb o e=>Xm (KX b o e) (by
   cases q:H b with
   |none=>rfl
   |some u =>
    have e':b=a:=hA b (by rw[q];simp);subst e';rw[hK (by rw[q];simp)]at e;cases e)
  have hM:Mod K mg (Pu s₁.heap H):=⟨hKb,nsK hns,⟨mb,nsK hb,hbb⟩,let⟨mc,h1,h2⟩:=hlim;⟨mc,nsK h1,h2⟩⟩;have e0:Vw P w K mg (Pu s₁.heap H) callerA [] s₁ H:=⟨Z,hM,λb o e=>a0a e,Pg (YS _ _),trivial,λb hb=>absurd (show b∈([]:List Addr)from hb) (by simp),hok,.of_eq hg⟩;refine Ej ((F _ hKb (nsK hns)).run callerA [] s₁ H ⟨[.ref a],[]⟩ [.ref a] [.ref a] _ _ hr e0 (hbind s₁ (.ref a)) (.cons Z .nil) (hsp H hO hS)) λr s' h=>?_;cases r with
  |error e=>exact(hCX H e s' h).elim
  |ok fl =>
   cases fl with
   |next=>exact False.elim h
   |brk=>exact False.elim h
   |cont=>exact False.elim h
   |ret u =>
    obtain⟨v,H',os,bare,un,hok',r',q⟩:=h;have q':v=.bl true:=q;subst q';obtain rfl:u=Value.bool true:=r';refine⟨Z,OldK.of_keep λb o e=>?_,os,bare⟩;cases q:H b with
    |none=>exact un.keep b o e q (by intro z;exact absurd (show b∈([]:List Addr)from z) (by simp)) (by simp)
    |some u =>
     rcases hO b with z|⟨ob,xs,z⟩
     ·rw[q]at z;cases z
     ·have z2:=un.Jh b ob _ z;obtain⟨e1,_⟩:=hok b _ z;obtain⟨e2,_⟩:=hok' b _ z2;rw[e]at e1;cases e1;exact e2
 cases hk:K.lookup a with
 |some o =>
  have e:=KX a o hk;rw[ha]at e;cases e;refine core (λ_=>none) (λ_=>.inl Z) (.inr ⟨_,vs.toArray,_,hk,Z,Z,Z,by rw[iB,lenV];exact hl,by simpa using rv⟩) (λb u z=>by have z':(none:Option HO)=some u:=z;cases z') (λb z=>absurd Z z) λz=>absurd Z z
 |none =>
  refine core (λb=>if b=a then some (.jq { cls:=.type "list",data:=.seq vs.toArray} (.lst (ns.map V.int)))else none) (λb=>?_) (.inl (.inr ⟨{ cls:=.type "list",data:=.seq vs.toArray},aF Z⟩)) (λb u z=>?_) (λb z=>?_) λ_=>hk
  ·by_cases hb:b=a
   ·exact .inr ⟨_,_,aF hb⟩
   ·exact .inl (aq hb)
  ·by_cases hb:b=a
   ·have z':=(aF hb).symm.trans z;cases z';subst hb;exact⟨ha,by rw[aJ];exact hl,vs,_,rv,ha⟩
   ·have z':=(aq hb).symm.trans z;cases z'
  ·by_cases hb:b=a
   ·exact hb
   ·exact absurd (aq hb) z
abbrev KOf{K:aH}{h:Heap}(_:K.In h):aH:=K
def a0r{l:PySem.W.OpenLaw}{q:Program}{loose:List Str}{XP:(Str->Option Value)->Heap->Prop}{YP:World->Heap->Prop}{d:DefRec}{K:Params->aH}{CX:World->TJ}{sp:World->Sp}
  (hn:l.most=some n) (hn2:n<=sizeLine) (hdf:d.params.defaults=[]) (hr:sY k callerA)
  (hY:∀(w:World) (h:Heap),YP w h->(K w.params).In h)
  (F:∀(w:World) (mg:Str->Option Value) (fa:Addr) (h:Heap),(K w.params).In h->h.Ns mainGlobals mg->mg d.name=some (.ref fa)->
   ∃fd:FuncData,(∀(s:Shared) (u:Value),BindsTo s fd ⟨[u],[]⟩ [(x,u)])/\
    ∀base:Heap,(K w.params).In base->base.Ns mainGlobals mg->bw l.prog w (K w.params) mg base (CX w) k fa fd [x] (sp w))
  (hsp:∀(w:World) (H:Hp) (a:Addr) (ns:List Int),ns.length<=n->Only H->bC (K w.params) H a (ns.map V.int)->sp w [.ref a] H (λv _=>v=.bl true) λ_ _ _=>False)
  (hCX:∀(w:World) (H:Hp) (s:Shared) (e:Value) (s':Shared),CX w [] H s (λ_ _ _=>False) e s'->False) :
  PySem.W.WalkO q loose XP YP l.row.toRowW d [] (λf vs=>PySem.call f vs):=by
 refine Att.Rp hn hdf λw s₀ s₁ mg mb fa o pm cd doc a vs ns G Z99 ho hd hcd hmg hobj hints hlen hg=>?_;have KX:=hY w _ Z99;obtain⟨fd,hb,hF⟩:=F w mg fa _ KX G.T.g hmg;exact č KX G.T.g G.T.b G.T.builtins G.T.nolimit hg hobj hints (dI hlen hn2) hr hF hb (λH hO hS=>hsp w H a ns hlen hO hS) λH e s'=>hCX w H s₁ e s'
def Ď{l:PySem.W.OpenLaw}{q:Program}{loose:List Str}{XP:(Str->Option Value)->Heap->Prop}{YP:World->Heap->Prop}{d:DefRec}{K:Params->aH}{CX:TJ}{sp:aH->Sp}
  (hn:l.most=some n) (hn2:n<=sizeLine) (hdf:d.params.defaults=[]) (hr:sY k callerA)
  (hY:∀(w:World) (h:Heap),YP w h->(K w.params).In h)
  (F:∀(w:World) (mg:Str->Option Value) (fa:Addr) (h:Heap),(K w.params).In h->h.Ns mainGlobals mg->mg d.name=some (.ref fa)->
   ∃fd:FuncData,(∀(s:Shared) (u:Value),BindsTo s fd ⟨[u],[]⟩ [(x,u)])/\
    ∀base:Heap,(K w.params).In base->base.Ns mainGlobals mg->bw l.prog w (K w.params) mg base CX k fa fd [x] (sp (K w.params)))
  (hsp:∀(K:aH) (H:Hp) (a:Addr) (ns:List Int),ns.length<=n->Only H->bC K H a (ns.map V.int)->sp K [.ref a] H (λv _=>v=.bl true) λ_ _ _=>False)
  (hCX:∀(H:Hp) (s:Shared) (e:Value) (s':Shared),CX [] H s (λ_ _ _=>False) e s'->False) :
  PySem.W.WalkO q loose XP YP l.row.toRowW d [] (λf vs=>PySem.call f vs) :=
 a0r (K:=K) (CX:=λ_=>CX) (sp:=λw=>sp (K w.params)) hn hn2 hdf hr hY F (λw H a ns h1 h2 h3=>hsp (K w.params) H a ns h1 h2 h3) λ_ H s e s'=>hCX H s e s'
def inClass(s:Stmt)(j:Nat):Stmt:=match s with
 |.ClassDef _ _ _ body _ _ _ _ _ _ _=>body.getD j (.Pass ⟨0,0,0,0⟩)
 |_=>.Pass ⟨0,0,0,0⟩
def dX(s:Stmt):Arguments:=match s with
 |.FunctionDef _ a _ _ _ _ _ _ _ _=>a
 |_=>{ posonlyargs:=[],args:=[],vararg:=none,kwonlyargs:=[],kw_defaults:=[],kwarg:=none,defaults:=[]}
def dF(s:Stmt):List Stmt:=match s with
 |.FunctionDef _ _ b _ _ _ _ _ _ _=>b
 |_=>[]
def aB(s:Stmt):Scope:=match s with
 |.FunctionDef _ _ _ _ _ _ sc _ _ _=>sc
 |_=>{ kind:=.function,names:=[],isGenerator:=false,isCoroutine:=false}
abbrev fX:TJ:=λ_ _ _ _ _ _=>False
abbrev E0:XK:=λ_ _ _=>False
def cu:Az fX X E0:=λ_ _ _ _ _ _ _ h=>h.elim
structure Fun(K:aH)(x qual:Str)(st:Stmt)(f:Addr)(fd:FuncData):Prop where
 ex:∃(oc:Value) (od:Option Addr) (kV doc pm:Value) (an:Option Addr) (dz ct:Value) (osl:Array (Option Value)),
  fd=PySem.W.fnOf x qual (dX st) (dF st) (aB st) .none kV doc pm an dz ct/\K.lookup f=some ⟨oc,od,.func fd,osl⟩/\PySem.W.codeIn K dz qual=true
 kp:PySem.W.keepIn K (.ref f)=true
section
variable{P:Program}{K:aH}{mg:Str->Option Value}{base:Heap}
def Fun.ok{st:Stmt}{f:Addr}{N ps:List Str}{sp:Sp}(F:Fun K x qual st f fd)(S:bD N ps (aB st))(hbody:∀(dz:Value) (A:Around) (outer:List Env) (s:Shared) (H:Hp) (vs:List V) (Q:VK) (E:XK),sY k (A.deeper (envOfC qual (aB st) s⁻¹ f dz))->sp vs H Q E->
   ∃t,Rj (Vy fX P w K mg base N qual (aB st) f dz A outer s H E).nox (dF st) t/\t { nx:=λ_ H'=>Q .non H',rt:=Q} (start N vs) H)
  (len:∀vs H Q E,sp vs H Q E->vs.length=ps.length:=by intro vs H Q E h;first|(cases h;subst_vars;rfl)|(repeat first|(obtain⟨e,_⟩:=h;rw[e];rfl)|(obtain⟨_,h⟩:=h))):bw P w K mg base fX (k+1) f fd ps sp:=by
 obtain⟨oc,od,kV,doc,pm,an,dz,ct,osl,rfl,lk,hcd⟩:=F.ex;refine a2p lk hcd S len λA outer s H vs Q E hr hsp=>?_;obtain⟨t,h,q⟩:=hbody dz A outer s H vs Q E hr hsp;exact⟨t,h.nox,q⟩
def Fun.binds{st:Stmt}{f:Addr}{ps:List Str}(F:Fun K x qual st f fd)
  (h:∀(kV doc pm:Value) (an:Option Addr) (dz ct:Value) (us:List Value),us.length=ps.length->bindArgs (PySem.W.fnOf x qual (dX st) (dF st) (aB st) .none kV doc pm an dz ct) ⟨us,[]⟩=pure (ps.zip us)):Binds K fd ps []:=by
 obtain⟨oc,od,kV,doc,pm,an,dz,ct,osl,rfl,lk,hcd⟩:=F.ex;exact .all (h kV doc pm an dz ct)
def VH{st:Stmt}{f:Addr}{oc:Value}{od an:Option Addr}{osl:Array (Option Value)}{kV doc pm dz ct:Value}(l:K.lookup f=some ⟨oc,od,.func (PySem.W.fnOf x qual (dX st) (dF st) (aB st) .none kV doc pm an dz ct),osl⟩)
  (c:PySem.W.codeIn K dz qual=true) (k:PySem.W.keepIn K (.ref f)=true):Fun K x qual st f (PySem.W.fnOf x qual (dX st) (dF st) (aB st) .none kV doc pm an dz ct):=⟨⟨oc,od,kV,doc,pm,an,dz,ct,osl,Z,l,c⟩,k⟩
end
def cL(h:n<=1000):n<sizeLine:=Nat.lt_of_le_of_lt h ()
def pv(i:Nat)(hN:X.N[i]?=some x:=by rfl)(hv:Vis X.env.scope x:=by first|exact Or.inl rfl|exact Or.inr (Or.inl Z)|exact Or.inr (Or.inr Z))(hd:(x==("__debug__" : Str))=false:=by decide)
  (hcd:(x==("__classdict__" : Str))=false:=by decide):PE X (.Name x pos) (ù i):=a2P hN hv hd hcd
def cX(h:B):if false=true then A else B:=by
 rw[aq dB];exact h
def iM(h:A):if true=true then A else B:=by
 rw[aF rfl];exact h
def zP{c:Prop} [Decidable c] (h1:c->A) (h2:¬c->B):if c then A else B:=by
 by_cases h:c
 ·rw[aF h];exact h1 h
 ·rw[aq h];exact h2 h
def aK(H H':Hp):Prop:=∀b o,H b=some o->H' b=some o
def aK.refl(H:Hp):aK H H:=λ_ _ h=>h
def aK.trans{H H2:Hp}(a:aK H H1)(b:aK H1 H2):aK H H2:=λc o h=>b c o (a c o h)
def aK.free{H:Hp}(e:aK H H'){l:Addr}(h:H' l=Option.none):H l=Option.none:=by
 cases q:H l with
 |none=>rfl
 |some o =>
  rw[e l o q]at h;cases h
def aK.seq{K:aH}{H:Hp}{xs:List V}(e:aK H H')(h:bC K H a xs):bC K H' a xs:=by
 rcases h with(h|⟨o,h⟩)|h
 ·exact .inl (.inl (e _ _ h))
 ·exact .inl (.inr ⟨o,e _ _ h⟩)
 ·exact .inr h
def wN(cells:List (Str×Addr)):List (Str×NameKind)->List (Str×Addr)->List (Str×Addr)
 | [],acc=>acc
 |(n,k)::r,acc=>wN cells r (if k==.free then(match cells.lookup n with|some c=>(n,c)::acc|none=>acc)else acc)
theorem ď{env:Env}:∀(ns:List (Str×NameKind)) (acc:List (Str×Addr)),(∀x∈ns,x.2=.free->∃c,env.cells.lookup x.1=some c)->
  (forIn ns acc λ(x:Str×NameKind) (cs:List (Str×Addr))=>(if x.2==NameKind.free then do let a <-cellOf env x.1;pure (ForInStep.yield ((x.1,a)::cs))else pure (ForInStep.yield cs):Sem (ForInStep (List (Str×Addr)))))=pure (wN env.cells ns acc)
 | [],acc,_=>by simp[wN]
 |(n,k)::r,acc,h=>by
  rw[List.forIn_cons]
  have ih:=λa=>ď (env:=env) r a λx hx=>h x (aY _ hx)
  unfold wN
  by_cases hk:(k==NameKind.free)=true
  ·obtain⟨c,hc⟩:=h (n,k) aO ()
   have hc':env.cells.lookup n=some c:=hc
   have hce:cellOf env n=pure c:=by simp only[cellOf,hc']
   simp only[hk,if_true,hce,pure_bind,hc']
   exact ih _
  ·simp only[hk,if_false,pure_bind,ih]
   simp
def Jp{env:Env}(h:∀x∈scope.names,x.2=.free->∃c,env.cells.lookup x.1=some c):closureFor scope env=pure (wN env.cells scope.names []):=by
 have q:=ď (env:=env) scope.names [] h;unfold closureFor;grind
set_option tactic.hygienic true in
theorem Ck{cells:List (Str×Addr)}:∀(ns:List (Str×NameKind)) (acc:List (Str×Addr)) {x:Str}{c:Addr},(∀y d,acc.lookup y=some d->cells.lookup y=some d)->(wN cells ns acc).lookup x=some c->cells.lookup x=some c
 | [],acc,x,c,ha,h=>ha x c h
 |(n,k)::r,acc,x,c,ha,h=>by
  unfold wN at h
  refine Ck r _ (λy d hy=>?_) h
  split at hy
  ·split at hy
   ·rename_i c' hc'
    rw[Iz]at hy
    split at hy
    ·rename_i e
     have e':y=n:=by simpa using e
     subst e'
     rw[hc'];exact hy
    ·exact ha y d hy
   ·exact ha y d hy
  ·exact ha y d hy
theorem Mx{cells:List (Str×Addr)}:∀(ns:List (Str×NameKind)) (acc:List (Str×Addr)) {x:Str},(∃c,acc.lookup x=some c)->∃c,(wN cells ns acc).lookup x=some c
 | [],acc,x,h=>h
 |(n,k)::r,acc,x,h=>by
  unfold wN
  refine Mx r _ ?_
  split
  ·split
   ·rw[Iz]
    split
    ·exact⟨_,Z⟩
    ·exact h
   ·exact h
  ·exact h
theorem Jq{cells:List (Str×Addr)}:∀(ns:List (Str×NameKind)) (acc:List (Str×Addr)) {x:Str},(x,NameKind.free)∈ns->(∃c,cells.lookup x=some c)->∃c,(wN cells ns acc).lookup x=some c
 | [],acc,x,h,_=>nomatch h
 |(n,k)::r,acc,x,h,hc=>by
  unfold wN
  rcases cB.mp h with e|h
  ·cases e
   obtain⟨c,hc⟩:=hc
   refine Mx r _ ?_
   simp[hc]
  ·exact Jq r _ h hc
def bG.track{H:Hp}(I:bG X Y σ H s)(hn:H a=none)(h0:X.s₀.heap.objs.size<=a)(hL:a≠X.env.locals)
  (hc:∀x c,X.env.cells.lookup x=some c->c≠a) (hp:∀p∈X.pn++Y,p.1≠a) (new:fM X.prog X.w (cN H a o) s.heap a o):bG X Y σ (cN H a o) s:=by
 have ne:∀b u,H b=some u->b≠a:=λb u e=>dM e hn;have q:=I.step (g':=s.gens) (d':=s.drawn) (t':=s.toks) (h':=s.heap) (H':=cN H a o) (ch:=[a]) (λb hb=>?_) (λb ob _ _ _ e _=>e) (λb ob _ _ _ e _=>⟨ob.slots,e⟩) (λb ob hb _ n=>?_)
  (λb ob _ e=>⟨ob,e⟩) (λb xs e=>by rw[aU (ne b _ e)];exact e) (λb ob u e=>by rw[aU (ne b _ e)];exact e) (λb ps e=>⟨#[],by rw[aU (ne b _ e),e];simp⟩) (λm hm=>hm) (λb u e=>?_) I.bare
 ·exact q
 ·have e:b=a:=by simpa using hb
  subst e;exact⟨.inr h0,hL,hc,hp⟩
 ·rw[aU (λz=>hb (by simp[z]))];exact n
 ·by_cases hb:b=a
  ·subst hb;rw[cY]at e;grind
  ·rw[aU hb]at e;exact(I.hok b u e).stay (λc v _ q=>q) (λc q=>by rw[aU (dM q hn)];exact q) λc xs q=>by rw[aU (dM q hn)];exact q
def uc(X:Cx)(N':List Str)(scope:Scope)(C:Addr)(s:Shared)(H:Hp)(fp:List Addr)(xe:Value->Shared->Prop):Cx :=
 { X with N:=N',s₀:=s,H₀:=H,env:=compEnvC scope (wN X.env.cells scope.names []) C X.env,outer:=X.stack,ex:=fp,fn:=λ_=>false,xe:=xe}
structure Xn(X:Cx)(N':List Str)(ix:List (Option Nat))(scope:Scope):Prop where
 kind:scope.kind=.function
 Đ:∀y∈scope.names,y.2≠.cell
 locs:∀y∈scope.names,y.2=.local->scope.names.lookup y.1=some .local
 free:∀y∈scope.names,y.2=.free->X.env.kindOf y.1=some .cell\/X.env.kindOf y.1=some .free
 len:ix.length=N'.length
 cap:∀(i j:Nat),ix[i]?=some (some j)->∃x,N'[i]?=some x/\X.N[j]?=some x/\scope.names.lookup x=some .free
def rA(ix:List (Option Nat))(σ:St):St:=ix.map λo=>o.bind λj=>(σ[j]?).join
theorem Cm{env:Env}{x:Str}:∀{names:List (Str×NameKind)},names.lookup x=some .free->(names.map λ(n,k)=>if(k==NameKind.free&&env.scope.kind==.function&&env.kindOf n==some .cell)then(n,NameKind.cell)else(n,k)).lookup x=some .cell\/(names.map λ(n,k)=>if(k==NameKind.free&&env.scope.kind==.function&&env.kindOf n==some .cell)then(n,NameKind.cell)else(n,k)).lookup x=some .free
 | [],h=>by simp at h
 |(n,k)::r,h=>by
  have ih:=@Cm env x r
  grind
theorem Cp{env:Env}{x:Str}:∀{names:List (Str×NameKind)},(∀y∈names,y.2≠.cell)->((names.map λ(n,k)=>if(k==NameKind.free&&env.scope.kind==.function&&env.kindOf n==some .cell)then(n,NameKind.cell)else(n,k)).lookup x=some .cell\/(names.map λ(n,k)=>if(k==NameKind.free&&env.scope.kind==.function&&env.kindOf n==some .cell)then(n,NameKind.cell)else(n,k)).lookup x=some .free)->(x,NameKind.free)∈names
 | [],_,h=>by simp at h
 |(n,k)::r,hn,h=>by
  have ih:=@Cp env x r λy hy=>hn y (aY _ hy)
  grind
def Mz{H:Hp}{i:Nat}{v:V}(B:Xn X N' ix scope)(I:bG X Y σ H s)
  (h1:N'[i]?=some x) (h2:(rA ix σ)[i]?=some (some v)):∃u c,cQ v u/\(wN X.env.cells scope.names []).lookup x=some c/\X.env.cells.lookup x=some c/\s.heap.IsCell c (some u)/\
   ((relabel scope X.env).names.lookup x=some .cell\/(relabel scope X.env).names.lookup x=some .free):=by
 have clB:∀x c,(wN X.env.cells scope.names []).lookup x=some c->X.env.cells.lookup x=some c:=λx c h=>Ck scope.names [] (λ_ _ z=>by simp at z) h;obtain⟨j,hj,hv⟩:∃j,ix[i]?=some (some j)/\σ[j]?=some (some v):=by
  unfold rA at h2;rw[fK]at h2;cases e:ix[i]? with
  |none=>grind
  |some o =>
   rw[e]at h2;cases o with
   |none=>cases h2
   |some j =>
    grind
 obtain⟨x',hx1,hx2,hx3⟩:=B.cap i j hj;have exx:x'=x:=by
  grind
 subst exx;have hmem:=Ec hx3;have hout:=B.free _ hmem rfl;obtain⟨m0,_,hl⟩:=I.loc;obtain⟨u,r,l⟩:=hl j x' v hx2 hv (by
  rcases hout with e|e
  ·exact .inr (.inl e)
  ·exact .inr (.inr e))
 rcases l with⟨k,_⟩|⟨k,c,e,z⟩
 ·rcases hout with e|e
  ·rw[e]at k;cases k
  ·rw[e]at k;cases k
 ·obtain⟨c',hc'⟩:=Jq scope.names [] hmem (I.ok.has x' hout);have:=clB x' c' hc';rw[e]at this;cases this;exact⟨u,c,r,hc',e,z,Cm hx3⟩
def Zc{H:Hp}{s4:Shared}{C:Addr}{fp:List Addr}{xe:Value->Shared->Prop}{m:Str->Option Value}
  (B:Xn X N' ix scope) (I:bG X Y σ H s) (hf:∀b∈fp,Gu X Y H b) (hC:s⁻¹<=C) (hfs:∀b∈fp,b<s⁻¹)
  (ho:s4.os=s.os) (hg:s4.gens=s.gens) (hk:∀b o,s.heap.get? b=some o->s4.heap.get? b=some o) (hns:s4.heap.Ns C m) :
  bG (uc X N' scope C s H fp xe) Y (rA ix σ) H s4:=by
 have clB:∀x c,(wN X.env.cells scope.names []).lookup x=some c->X.env.cells.lookup x=some c:=λx c h=>Ck scope.names [] (λ_ _ z=>by simp at z) h;have hfree:H C=none:=I.hok.fresh hC;have neC:∀b o,s.heap.get? b=some o->b≠C:=λb o e=>bY (jC (aX e) hC);refine⟨⟨I.ok.mod,B.kind,I.ok.glob,I.ok.blt,hC,λx y c h1 h2=>I.ok.inj x y c (clB x c h1) (clB y c h2),λx hx=>?_,λx c h=>absurd (show false=true from h) dB,I.ok.hd,I.ok.frames,.inl Z,λb hb=>⟨?_,λx c e=>?_⟩,I.bs,?_,λb o e hb=>?_,λb hb z=>?_,I.stack,I.Xb⟩,
  ho,?_,Un.kept hk,⟨m,hns,λi x v h1 h2 h3=>?_⟩,λx c e=>?_,hfree,λx c e=>I.tV x c (clB x c e),λp hp=>?_,I.hok.kept hk,?_⟩
 ·have hx':=Cp (env:=X.env) (x:=x) B.Đ hx;exact Jq scope.names [] hx' (I.ok.has x (B.free _ hx' Z))
 ·exact bY (jC (hfs b hb) hC)
 ·exact(hf b hb).2.2.2.2.1 x c (clB x c e)
 ·exact dI I.ok.bsz I.sz
 ·obtain⟨_,_,_,q,_⟩:=hf b hb;rcases q with q|q
  ·exact I.ok.Vj b o e q
  ·exact absurd (jC (aX (I.ok.bs b o e).1) q) (u6 _)
 ·obtain⟨_,q1,q2,_⟩:=hf b hb;rcases cB.mp (I.Ep b z)with e|e
  ·exact q1 e
  ·exact q2 e
 ·rw[hg];exact I.bare
 ·obtain⟨u,c,r,hc1,_,⟨oc,z1,z2⟩,hk'⟩:=Mz B I h1 h2;exact⟨u,r,.inr ⟨hk',c,hc1,oc,hk _ _ z1,z2⟩⟩
 ·obtain⟨v,oc,h1,h2⟩:=I.cell x c (clB x c e);exact⟨v,oc,hk _ _ h1,h2⟩
 ·obtain⟨e,n,ne,nf,d⟩:=I.pin p hp;refine⟨hk _ _ e,n,neC _ _ e,λz=>?_,d⟩;rcases cB.mp (I.Ep p.1 z)with e'|e'
  ·exact ne e'
  grind
 ·show(ix.map _).length=N'.length;rw[aJ];exact B.len
def Rq{prog:Program}{A:Around}{target:Expr}{it acc:Value}{env:Env}(Iv:Nat->Shared->Prop)
  (turn:∀n s,Iv n s->wpAny (model prog w) A (pyNext it) (λr s₁=>match r with
   |none=>R (.ok .next) s₁
   |some v=>wpAny (model prog w) A (letOwnedTupleGo target it v) (λ_ s₁'=>wpAny (model prog w) A (assign target env v) (λ_ s₂ =>
     wpAny (model prog w) A (forIn ifs true λc r=>if r=true then do let ok <-isTrue c env (eval c env);pure (ForInStep.yield ok)else pure (ForInStep.yield r)) (λok s₃ =>
      if ok=true then wpAny (model prog w) A (eval elt env) (λx s₄ =>
       wpAny (model prog w) A (call (.builtin "list.append") [acc,x]) (λ_ s₅=>∃m,m<n/\Iv m s₅) (notedBy (model prog w) A env λe s'=>R (.error e) s') s₄) (notedBy (model prog w) A env λe s'=>R (.error e) s') s₃
      else ∃m,m<n/\Iv m s₃) (notedBy (model prog w) A env λe s'=>R (.error e) s') s₂) (notedBy (model prog w) A env λe s'=>R (.error e) s') s₁') (notedBy (model prog w) A env λe s'=>R (.error e) s') s₁) (notedBy (model prog w) A env λe s'=>R (.error e) s') s)
  (n:Nat) (h:Iv n s) :
  codeAny (model prog w) A (.compLoop (.ListComp elt [⟨target,iter,ifs,0⟩] scope pos) 0 it acc env) R s:=by
 refine codeAny_loop Z Iv (λn s hI=>?_) n h;show wpAny _ A ((compTurn (.ListComp elt [⟨target,iter,ifs,0⟩] scope pos) 0 it acc env).onRaise λx=>do noteFrame x env;theTreesLotGoes x) _ _ s;refine wpAny_noted ?_;rw[compTurn_list];refine M (O9 (M (iH (turn n s hI) (λr s₁ h₁=>?_) λ_ _ h'=>h')));cases r with
 |none=>exact ao h₁
 |some v =>
  refine M (iH h₁ (λ_ s₁' h₁'=>M (iH h₁' (λ_ s₂ h₂=>M (iH h₂ (λok s₃ h₃=>?_) λ_ _ h'=>h')) λ_ _ h'=>h')) λ_ _ h'=>h');cases ok with
  |false=>exact ao ⟨Z,h₃⟩
  |true =>
   exact M (M (iH h₃ (λx s₄ h₄=>M (iH h₄ (λ_ s₅ h₅=>ao (ao ⟨Z,h₅⟩)) λ_ _ h'=>h')) λ_ _ h'=>h'))
def PTs(X:Cx)(ifs:List Expr)(t:TT):Prop :=
 ∀(Y:List (Addr×Obj)) (s:Shared) (σ:St) (H:Hp) (Q:Bool->Hp->Prop),bG X Y σ H s->t σ H Q->
  wpAny (model X.prog X.w) X.A (forIn ifs true λc r=>if r=true then do let ok <-isTrue c X.env (eval c X.env);pure (ForInStep.yield ok)else pure (ForInStep.yield r)) (TP X Y σ Q) X.xe s
def a5z:TT:=λ_ H Q=>Q true H
def gA:PTs X [] a5z:=λ_ _ _ H _ I h=>wpAny_tests_nil ⟨H,I,h⟩
def wO{c:Expr}{t:TT}(h:PT X c t):PTs X [c] t:=λY s σ H Q I hw=>wpAny_tests_one (h Y s σ H Q I hw)
def nD(ix:List (Option Nat))(g:TG)(tt:TT)(te:TE)(σ:St)(H1:Hp)(Q:VK)(Z97:It):Prop:=∃W:Nat->Nat->List V->Hp->Prop,(∃m,W 0 m [] H1)/\∀i m ys H,W i m ys H->
 (Z97.stop i H/\ys.length<=sizeLine/\∀p,H p=none->Q (.ref p) (cN H p (.lst ys)))\/
 (Z97.go i H/\ys.length<=sizeLine/\∃N:List V->Hp->Prop,(∀ys' H',N ys' H'->∃m',m'<m/\W (i+1) m' ys' H')/\∀x H',Z97.Û i H x H'->g x (rA ix σ) H' λσ2 H2=>tt σ2 H2 λb H3=>if b=true then te σ2 H3 λv H4=>N (ys++[v]) H4 else N ys H3)
def tLC(ix:List (Option Nat))(wi:TI)(g:TG)(tt:TT)(te:TE):TE:=λσ H Q=>wi σ H λZ97 H1=>nD ix g tt te σ H1 Q Z97
section
variable{wi:TI}
def đ(B:Xn X N' ix scope)(hc:X.calm=true)
  (hg:∀C s H fp xe,PG (uc X N' scope C s H fp xe) tg g) (ht:∀C s H fp xe,PTs (uc X N' scope C s H fp xe) ifs tt) (he:∀C s H fp xe,PE (uc X N' scope C s H fp xe) elt te) {s2:Shared}{H2:Hp}{fp:List Addr}{tn:Nat->Heap->Prop}{Z97:It}{RR:Value->Addr->Result->Shared->Prop}{E:Value->Shared->Prop}
  (I2:bG X Y σ H2 s2) (T:Turn X.prog X.w X.K tg Z97 fp it tn) (st2:tn 0 s2.heap) (f2:∀b∈fp,Gu X Y H2 b)
  (q:∃W:Nat->Nat->List V->Hp->Prop,(∃m,W 0 m [] H2)/\∀i m ys H,W i m ys H->
   (Z97.stop i H/\ys.length<=sizeLine/\∀p,H p=none->Q (.ref p) (cN H p (.lst ys)))\/
   (Z97.go i H/\ys.length<=sizeLine/\∃N:List V->Hp->Prop,(∀ys' H',N ys' H'->∃m',m'<m/\W (i+1) m' ys' H')/\∀x H',Z97.Û i H x H'->g x (rA ix σ) H' λσ2 H2=>tt σ2 H2 λb H3=>if b=true then te σ2 H3 λv H4=>N (ys++[v]) H4 else N ys H3))
  (hRR:∀D C s' H' ys,bG X Y σ (cN H' D (.lst ys)) s'->H' D=none->Q (.ref D) (cN H' D (.lst ys))->(∃m,s'.heap.Ns C m)->cN H' D (.lst ys) C=none->C≠X.env.locals->X.s₀.heap.objs.size<=C->(∀x c,X.env.cells.lookup x=some c->c≠C)->(∀p∈X.pn++Y,p.1≠C)->RR (.ref D) C (.ok .next) s') :
  wpAny (model X.prog X.w) X.A (newList []) (λacc s₃=>wpAny (model X.prog X.w) X.A (newFunctionEnv scope X.env.globals (wN X.env.cells scope.names []) [] X.env.qual none .none (some X.env)) (λcenv s₄ =>
   codeAny (model X.prog X.w) X.A (.compStart (.ListComp elt [⟨tg,iter,ifs,0⟩] scope pos) 0 (.ref it) acc { cenv with scope:=relabel scope X.env}) (RR acc cenv.locals) s₄) E s₃) E s2:=by
 have hfs:∀b∈fp,b<s2⁻¹:=λb hb=>by
  obtain⟨o,e,_⟩:=T.obj _ _ st2 b hb;exact aX e
 refine j5 (wpAny_newFunctionEnv B.Đ (by intro y hy;simp at hy) (λh₁ hns₁ hsb₁=>?_) B.kind);dsimp only at hns₁ hsb₁ ⊢;generalize hH3:s2.heap.push { cls:=.type "list",dict:=none,data:=.seq ([]:List Value).toArray}=H3 at hns₁ hsb₁ ⊢;have hC:H3.objs.size=s2⁻¹+1:=by rw[<-hH3,j8]
 have hDC:s2⁻¹≠H3.objs.size:=by rw[hC];exact bY (yc _)
 have below:∀b,b<s2⁻¹->b≠H3.objs.size/\b≠s2⁻¹:=λb hb=>⟨by rw[hC];exact bY (Ir hb),bY hb⟩;have old:∀b o,s2.heap.get? b=some o->h₁.get? b=some o:=λb o e=>hsb₁.extBut b o (below b (aX e)).1 (bB _ (hH3▸bB _ e));have hacc:h₁.get? s2⁻¹=some { cls:=.type "list",data:=.seq ([]:List Value).toArray 0}:=hsb₁.extBut _ _ hDC (bB _ (hH3▸bU _ Z));have hCle:s2⁻¹<=H3.objs.size:=by rw[hC];exact ye _
 generalize hD:s2⁻¹=D at *
 generalize hCC:H3.objs.size=C at *
 obtain⟨W,⟨m0,w0⟩,turn⟩:=q;let xe:Value->Shared->Prop:=notedBy (model X.prog X.w) X.A (compEnvC scope (wN X.env.cells scope.names []) C X.env) λe s'=>RR (.ref D) C (.error e) s';let X':Cx:=uc X N' scope C s2 H2 fp xe;have DL:D∉frs X.stack:=λz=>by
  rcases cB.mp (I2.Ep D z)with e|e
  ·exact absurd I2.lt (by rw[<-e,hD];exact u6 _)
  ·exact I2.a4W (by rw[hD];exact aL _) e
 have VJ:∀x c,X.env.cells.lookup x=some c->c<D:=λx c e=>by
  obtain⟨v,oc,h,_⟩:=I2.cell x c e;rw[<-hD];exact aX h
 have clB:∀x c,(wN X.env.cells scope.names []).lookup x=some c->X.env.cells.lookup x=some c:=λx c h=>Ck scope.names [] (λ_ _ z=>by simp at z) h;have Ē:∀p∈X.pn++Y,p.1<D:=λp hp=>by rw[<-hD];exact aX (I2.pin p hp).1
 have fpX:∀{pl:List (Addr×Obj)}{H':Hp},(∀b∈fp,H' b=none)->(∀p∈pl,p∈Y\/p.1=D)->∀b∈fp,Gu X' pl H' b:=λ{pl H'} hn hpl b hb=>by
  obtain⟨_,q1,q2,q3,q4,q5⟩:=f2 b hb;refine⟨hn b hb,(below b (hfs b hb)).1,λz=>?_,.inl hb,λx c e=>q4 x c (clB x c e),λp hp=>?_⟩
  ·rcases cB.mp (I2.Ep b z)with e|e
   ·exact q1 e
   ·exact q2 e
  ·rcases cJ.mp hp with hp|hp
   ·exact q5 p (rW _ hp)
   ·rcases hpl p hp with z|z
    ·exact q5 p (iz _ z)
    ·rw[z];exact Ne.symm (below b (hfs b hb)).2
 have loop:∀s₃:Shared,s₃={ s2 with heap:=h₁,toks:=s2.toks+([]:List (Str×Value)).length}->
   codeAny (model X.prog X.w) X.A (.compLoop (.ListComp elt [⟨tg,iter,ifs,0⟩] scope pos) 0 (.ref it) (.ref D) (compEnvC scope (wN X.env.cells scope.names []) C X.env)) (RR (.ref D) C) s₃:=by
  rintro s₃ rfl;refine Rq (λn s'=>∃i H' ys b7 k,bG X' Y (rA ix σ) H' s'/\tn i s'.heap/\(∀b∈fp,H' b=none)/\H' D=none/\s'.heap.get? D=some { cls:=.type "list",data:=.seq (List.toArray b7) k}/\cP ys b7/\W i n ys H') ?_ m0
   ⟨0,H2,[],[],0,Zc B I2 f2 (by rw[hD];exact hCle) (λb hb=>by rw[hD];exact hfs b hb) Z Z old hns₁,T.keep _ _ _ st2 λb _ o e=>old b o e,λb hb=>(f2 b hb).1,I2.hok.fresh (by rw[hD];exact aL _),hacc,.nil,w0⟩
  rintro n s' ⟨i,H',ys,b7,k,I',st',fr',hDn,hDo,rv,w'⟩;have hDX:∀v,({ cls:=.type "list",data:=.seq (List.toArray b7) k}:Obj).data≠.cell v:=λv z=>by
   have z':Data.seq (List.toArray b7) k=Data.cell v:=z;cases z'
  have a7o:∀{σ':St}{TV:Hp}{s'':Shared}{its':List Value}{k':Nat},bG X' Y σ' TV s''->TV D=none->s''.heap.get? D=some { cls:=.type "list",data:=.seq (List.toArray its') k'}->bG X' (Y++[(D,{ cls:=.type "list",data:=.seq (List.toArray its') k'})]) σ' TV s'':=λ{σ' TV s'' its' k'} Z97 hn ho =>
   Z97.Hj λp hp=>(cJ.mp hp).elim (λz=>Z97.pin p (iz _ z)) λz=>by
    have e:p=(D,{ cls:=.type "list",data:=.seq (List.toArray its') k'}):=by simpa using z
    subst e;exact⟨ho,hn,hDC,DL,λv z=>by
     have z':Data.seq (List.toArray its') k'=Data.cell v:=z;cases z'⟩
  have plD:∀{its':List Value}{k':Nat},∀p∈Y++[(D,({ cls:=.type "list",data:=.seq (List.toArray its') k'}:Obj))],p∈Y\/p.1=D:=λ{its' k'} p hp=>(cJ.mp hp).elim .inl λz=>by
   have e:p=(D,{ cls:=.type "list",data:=.seq (List.toArray its') k'}):=by simpa using z
   subst e;exact .inr rfl
  have unD:∀{pl:List (Addr×Obj)}{σ':St}{TV:Hp}{s'':Shared},bG X' (Y++pl) σ' TV s''->bG X' Y σ' TV s'':=λZ97=>Z97.Hj λp hp=>Z97.pin p (iz _ (rW _ hp));have I'p:=a7o I' hDn hDo;rcases turn i n ys H' w' with⟨stop,hsz,fin⟩|⟨go,hsz,N,hN,step⟩
  ·refine iH (T.done X' Z Z Z hc i _ s' (rA ix σ) H' X'.xe I'p (fpX fr' plD) st' stop) (λr s5 ⟨hr,I5⟩=>?_) λ_ _ z=>z;subst hr;have a7p:s5.heap.get? D=some { cls:=.type "list",data:=.seq (List.toArray b7) k}:=(I5.pin (D,_) (iz _ (iz _ (bJ.mpr Z)))).1;have sz0:X.s₀.heap.objs.size<=D:=by rw[<-hD];exact I2.sz
   have Z97:bG X Y σ H' s5:=I2.call' (ch:=fp) I5.os I5.base I5.hok I5.bare λb hb=>by
    obtain⟨_,q1,_,q3,q4,q5⟩:=f2 b hb;exact⟨q3,q1,q4,q5⟩
   have nL:X.env.locals<D:=by rw[<-hD];exact I2.lt
   have J2:bG X Y σ (cN H' D (.lst ys)) s5:=bG.track Z97 hDn sz0 (gC nL) (λx c e=>bY (VJ x c e)) (λp hp=>bY (Ē p hp)) ⟨hsz,b7,k,rv,a7p⟩;obtain⟨mC,hnC,_⟩:=I5.loc;have a3l:D<C:=Nat.lt_of_le_of_ne hCle hDC;refine hRR D C s5 H' ys J2 hDn (fin D hDn) ⟨mC,hnC⟩ ?_ (gC (vd nL a3l)) (dI sz0 hCle) (λx c e=>bY (vd (VJ x c e) a3l)) λp hp=>bY (vd (Ē p hp) a3l);rw[aU (Ne.symm hDC)];exact I5.free
  ·refine iH (T.item X' Z Z Z hc i _ s' (rA ix σ) H' X'.xe I'p (fpX fr' plD) st' go) (λr s5 ⟨u,hr,h5⟩=>?_) λ_ _ z=>z;subst hr;refine iH h5 (λ_ s6 ⟨x,H6,I6,r6,y6,st6,fr6⟩=>?_) λ_ _ z=>z;have I6':=I6.pinned (fpX fr6 plD) (T.obj _ _ st6);refine iH (hg C s2 H2 fp xe _ s6 (rA ix σ) H6 x u _ I6' r6 (step x H6 y6)) (λ_ s7 ⟨Xf,H7,I7,q7⟩=>?_) λ_ _ z=>z;have after:∀{σ8:St}{H8:Hp}{s8:Shared},bG X' ((Y++[(D,{ cls:=.type "list",data:=.seq (List.toArray b7) k})])++wJ fp s6.heap) σ8 H8 s8->
     bG X' Y (rA ix σ) H8 s8/\tn (i+1) s8.heap/\(∀b∈fp,H8 b=none)/\H8 D=none/\s8.heap.get? D=some { cls:=.type "list",data:=.seq (List.toArray b7) k}:=λ{σ8 H8 s8} I8=>by
    have pD:=I8.pin (D,{ cls:=.type "list",data:=.seq (List.toArray b7) k}) (iz _ (rW _ (iz _ (bJ.mpr Z))));have fpP:∀b∈fp,∀o,s6.heap.get? b=some o->s8.heap.get? b=some o/\H8 b=none:=λb hb o e=>by
     have z:=I8.pin (b,o) (iz _ (iz _ (tY hb e)));exact⟨z.1,z.2.1⟩
    refine⟨⟨I8.ok,I8.os,I8.bare,I8.base,?_,I8.cell,I8.free,I8.tV,λp hp=>?_,I8.hok,?_⟩,T.keep _ _ _ st6 λb hb o e=>(fpP b hb o e).1,λb hb=>?_,pD.2.1,pD.1⟩
    ·obtain⟨m8,hn8,_⟩:=I8.loc;refine⟨m8,hn8,λi x v h1 h2 h3=>?_⟩;obtain⟨u,c,r,hc1,hc2,⟨oc,z1,z2⟩,hk'⟩:=Mz B I2 h1 h2;obtain⟨sl,e8⟩:=I8.base.any z1 (I2.tV x c hc2) λz=>(f2 c z).2.2.2.2.1 x c hc2 rfl;exact⟨u,r,.inr ⟨hk',c,hc1,_,e8,z2⟩⟩
    ·rcases cJ.mp hp with hp|hp
     ·exact I8.pin p (rW _ hp)
     ·exact I8.pin p (iz _ (rW _ (rW _ hp)))
    ·show(rA ix σ).length=N'.length;unfold rA;rw[aJ];exact B.len
    ·obtain⟨o,e,_⟩:=T.obj _ _ st6 b hb;exact(fpP b hb o e).2
   refine iH (ht C s2 H2 fp xe _ s7 Xf H7 _ I7 q7) (λb s8 ⟨H8,I8,q8⟩=>?_) λ_ _ z=>z;cases b with
   |false =>
    rw[aq dB]at q8 ⊢;obtain⟨m',hm,w8⟩:=hN _ _ q8;obtain⟨Z97,tn8,f8,d8,o8⟩:=after I8;exact⟨m',hm,i+1,H8,ys,b7,k,Z97,tn8,f8,d8,o8,rv,w8⟩
   |true =>
    rw[aF rfl]at q8 ⊢;refine iH (he C s2 H2 fp xe _ s8 Xf H8 _ I8 q8) (λv s9 ⟨y,H9,I9,r9,q9⟩=>?_) λ_ _ z=>z;obtain⟨Z97,tn9,f9,d9,o9⟩:=after I9;obtain⟨m',hm,w9⟩:=hN _ _ q9;refine append_at (hsz:=by rw[iB,<-rv.length];exact hsz) o9 λh10 a5A a5B=>?_;refine⟨m',hm,i+1,H9,ys++[y],b7++[v],k+1,?_,T.keep _ _ _ tn9 λb hb o e=>a5A.extBut b o (λz=>?_) e,f9,d9,by rw[List.push_toArray]at a5B;exact a5B,rv.append (.cons r9 .nil),w9⟩
    ·refine Z97.turned (t':=s9.toks) (it:=D) (λb o hb e=>a5A.extBut b o hb e) d9 hDC (.inr (by show s2⁻¹<=D;rw[hD];exact aL _)) (λx c e=>bY (VJ x c (clB x c e))) λp hp=>bY (Ē p hp)
    ·exact(below b (hfs b hb)).2 z
 exact codeAny_compStart_list (loop _ Z) (T.self X.A 0 _ _ _ (T.keep _ _ _ st2 λb _ o e=>old b o e) (loop _ Z))
end
def Cq(outer:Scope)(N N':List Str)(ix:List (Option Nat))(scope:Scope):Bool :=
 (scope.kind==.function)&&(scope.names.all λy=>y.2 != .cell)&&(scope.names.all λy=>y.2 != .local||scope.names.lookup y.1==some .local) &&
 (scope.names.all λy=>y.2 != .free||outer.names.lookup y.1==some .cell||outer.names.lookup y.1==some .free)&&(ix.length==N'.length) &&
 (List.range ix.length).all λi=>match ix[i]? with
  |some (some j)=>(match N'[i]? with|some x=>N[j]?==some x&&scope.names.lookup x==some .free|none=>false)
  |_=>true
def ē(h:Cq X.env.scope X.N N' ix scope=true):Xn X N' ix scope:=by
 unfold Cq at h;simp only[Bool.and_eq_true]at h;obtain⟨⟨⟨⟨⟨h1,h2⟩,h3⟩,h4⟩,h5⟩,h6⟩:=h;refine⟨?_,λy hy=>?_,λy hy hl=>?_,λy hy hl=>?_,(),λi j e=>?_⟩
 ·grind
 ·grind
 ·grind
 ·have:=IK.mp h4 y hy;rw[hl]at this;simp at this;exact this
 grind
section
variable{wi:TI}
def jT(N':List Str)(ix:List (Option Nat))(hB:Cq X.env.scope X.N N' ix scope=true)(hc:X.calm=true)(hi:PI X tg iter wi)
  (hg:∀C s H fp xe,PG (uc X N' scope C s H fp xe) tg g) (ht:∀C s H fp xe,PTs (uc X N' scope C s H fp xe) ifs tt) (he:∀C s H fp xe,PE (uc X N' scope C s H fp xe) elt te)
  (hs:∀x,foldedSetIterable iter X.env x=pure x:=by intro _;rfl):PE X (.ListComp elt [⟨tg,iter,ifs,0⟩] scope pos) (tLC ix wi g tt te):=by
 intro Y s σ H Q I h;have B:=ē hB;rw[eval_ListComp];refine ô (use:=none) Z hs (Jp λy hy hf=>I.ok.has y.1 (B.free y hy hf)) B.kind B.locs (jr (hi Y s σ H _ I h) λv s1 h1=>jr h1 λitv s2 h2=>?_);obtain⟨it,fp,tn,Z97,H2,e,I2,T,st2,f2,q⟩:=h2;subst e;refine đ B hc hg ht he I2 T st2 f2 q ?_;intro D C s' H' ys J2 hDn hq ⟨m,hn⟩ hC1 hC2 hC3 hC4 hC5;exact⟨m,hn,λh' hs'=>⟨.ref D,_,J2.turned (t':=s'.toks) (it:=C) (λb o hb e=>hs'.extBut b o hb e) hC1 hC2 (.inr hC3) hC4 hC5,Z,hq⟩⟩
def Jr{i:Nat}{pos' spos:Pos}(N':List Str)(ix:List (Option Nat))(hN:X.N.Nodup)(hi':X.N[i]?=some x)(hx:X.env.scope.names.lookup x=some .local)
  (hB:Cq X.env.scope X.N N' ix scope=true) (hc:X.calm=true) (hi:PI X tg iter wi)
  (hg:∀C s H fp xe,PG (uc X N' scope C s H fp xe) tg g) (ht:∀C s H fp xe,PTs (uc X N' scope C s H fp xe) ifs tt) (he:∀C s H fp xe,PE (uc X N' scope C s H fp xe) elt te)
  (hsw:swapsWith (.ListComp elt [⟨tg,iter,ifs,0⟩] scope pos) (some (.Name x pos')) spos.line X.env=pure true)
  (hs:∀x,foldedSetIterable iter X.env x=pure x:=by intro _;rfl):PS X (.Assign [.Name x pos'] (.ListComp elt [⟨tg,iter,ifs,0⟩] scope pos) spos) (a2U (tLC ix wi g tt te) (Xc i)):=by
 intro Y s σ H D0 I h;have B:=ē hB;rw[exec_Assign_Name_used _ _ _ _ hsw];refine M (O9 (M ?_));show wpAny _ X.A (do let _ <-comprehension (.ListComp elt [⟨tg,iter,ifs,0⟩] scope pos) scope X.env _ (newList []) false (eval iter X.env) (some (assign (.Name x pos') X.env))) _ _ s;refine M (iH (ô (use:=some (assign (.Name x pos') X.env)) (Q:=λ_ s'=>SP X Y D0 .next s') Z hs (Jp λy hy hf=>I.ok.has y.1 (B.free y hy hf)) B.kind B.locs
  (jr (hi Y s σ H _ I h) λv s1 h1=>jr h1 λitv s2 h2=>?_)) (λ_ s' hq=>ao (ao hq)) λ_ _ e=>e)
 obtain⟨it,fp,tn,Z97,H2,e,I2,T,st2,f2,q⟩:=h2;subst e;refine đ (Q:=λx H1=>Xc i x σ H1 D0.nx) B hc hg ht he I2 T st2 f2 q ?_;intro D C s' H' ys J2 hDn hq ⟨m,hn⟩ hC1 hC2 hC3 hC4 hC5;show wpAny _ X.A (assign (.Name x pos') X.env (.ref D)) _ _ _;refine wpAny_assign_Name (Mp (v:=.ref D) J2 hN hi' (.inl hx) Z (λs'' I'' hsb=>?_) (.inr hx));obtain⟨a,hsb,ha⟩:=hsb;have aC:C≠a:=by
  rcases ha with rfl|ha
  ·exact hC2
  ·exact λz=>hC4 x a ha z.symm
 exact⟨m,hn.sameBut hsb aC,λh'' hs''=>⟨_,_,I''.turned (t':=s''.toks) (it:=C) (λb o hb e=>hs''.extBut b o hb e) hC1 hC2 (.inr hC3) hC4 hC5,hq⟩⟩
end
section
variable{K:aH}{xs:List V}
def uL(Pv:Nat->List V->Hp->Prop)(h0:Pv 0 [] H1)(hl:∀i ys H,i<=xs.length->Pv i ys H->bC K H a xs/\ys.length<=sizeLine)
  (hs:∀i x ys H,xs[i]?=some x->Pv i ys H->g x (rA ix σ) H λσ2 H2=>tt σ2 H2 λb H3=>if b=true then te σ2 H3 λv H4=>Pv (i+1) (ys++[v]) H4 else Pv (i+1) ys H3)
  (hd:∀ys H,Pv xs.length ys H->∀p,H p=none->Q (.ref p) (cN H p (.lst ys))):nD ix g tt te σ H1 Q (Itl K a):=by
 refine⟨λi m ys H=>m=xs.length-i/\i<=xs.length/\Pv i ys H,⟨xs.length,by simp,dh _,h0⟩,?_⟩;rintro i m ys H ⟨rfl,hi,p⟩;obtain⟨q,z⟩:=hl i ys H hi p;by_cases hlt:i<xs.length
 ·refine .inr ⟨⟨xs,xs[i],q,by simp[hlt]⟩,z,Pv (i+1),λys' H' p'=>⟨xs.length-(i+1),(),Z,hlt,p'⟩,λx H' y=>?_⟩;obtain⟨e,y⟩:=y;subst e;exact hs i x ys _ (y xs q) p
 ·have e:i=xs.length:=()
  subst e;exact .inl ⟨⟨xs,q,aL _⟩,z,hd ys H p⟩
def yq{lo:Int}(Pv:Nat->List V->Hp->Prop)(h0:Pv 0 [] H1)(hl:∀i ys H,i<=n->Pv i ys H->ys.length<=sizeLine)
  (hs:∀i ys H,i<n->Pv i ys H->g (.int (lo+i)) (rA ix σ) H λσ2 H2=>tt σ2 H2 λb H3=>if b=true then te σ2 H3 λv H4=>Pv (i+1) (ys++[v]) H4 else Pv (i+1) ys H3)
  (hd:∀ys H,Pv n ys H->∀p,H p=none->Q (.ref p) (cN H p (.lst ys))):nD ix g tt te σ H1 Q (Xe lo n):=by
 refine⟨λi m ys H=>m=n-i/\i<=n/\Pv i ys H,⟨n,by simp,dh _,h0⟩,?_⟩;rintro i m ys H ⟨rfl,hi,p⟩;have z:=hl i ys H hi p;by_cases hlt:i<n
 ·refine .inr ⟨hlt,z,Pv (i+1),λys' H' p'=>⟨n-(i+1),(),Z,hlt,p'⟩,λx H' y=>?_⟩;obtain⟨e,y⟩:=y;subst e y;exact hs i ys _ hlt p
 ·have e:i=n:=()
  subst e;exact .inl ⟨aL _,z,hd ys H p⟩
end
def a5C{K:aH}{xs:List V}(f:V->Option V)(hx:bC K H1 a xs)(hz:xs.length<=sizeLine)
  (hs:∀x H (N:Option V->Hp->Prop),x∈xs->aK H1 H->(∀H',aK H1 H'->N (f x) H')->g x (rA ix σ) H λσ2 H2=>tt σ2 H2 λb H3=>if b=true then te σ2 H3 λv H4=>N (some v) H4 else N none H3)
  (hd:∀H p,aK H1 H->H p=none->Q (.ref p) (cN H p (.lst (xs.filterMap f)))):nD ix g tt te σ H1 Q (Itl K a):=by
 refine uL (K:=K) (a:=a) (xs:=xs) (λi ys H=>ys=(xs.take i).filterMap f/\aK H1 H) ⟨Z,aK.refl _⟩ (λi ys H hi ⟨e,s⟩=>⟨s.seq hx,?_⟩) (λi x ys H hi ⟨e,s⟩=>?_) λys H ⟨e,s⟩ p hp=>?_
 ·subst e;refine dI (Ua _ _) (dI ?_ hz);rw[d7];exact UL _ _
 ·have hm:x∈xs:=jf hi;obtain⟨hil,hix⟩:=fu.mp hi;have et:xs.take (i+1)=xs.take i++[x]:=by rw[Ab hil,hix]
  refine hs x H (λo H'=>match o with|some v=>(ys++[v]=(xs.take (i+1)).filterMap f/\aK H1 H')|none=>(ys=(xs.take (i+1)).filterMap f/\aK H1 H')) hm s λH' s'=>?_;cases ef:f x with
  |some v =>
   refine⟨?_,s'⟩;rw[e,et,xW];simp[ef]
  |none =>
   refine⟨?_,s'⟩;rw[e,et,xW];simp[ef]
 ·subst e;rw[iC];exact hd H p s hp
def a3m{lo:Int}(f:Nat->Option V)(hz:n<=sizeLine)
  (hs:∀i H (N:Option V->Hp->Prop),i<n->aK H1 H->(∀H',aK H1 H'->N (f i) H')->g (.int (lo+i)) (rA ix σ) H λσ2 H2=>tt σ2 H2 λb H3=>if b=true then te σ2 H3 λv H4=>N (some v) H4 else N none H3)
  (hd:∀H p,aK H1 H->H p=none->Q (.ref p) (cN H p (.lst ((List.range n).filterMap f)))):nD ix g tt te σ H1 Q (Xe lo n):=by
 refine yq (λi ys H=>ys=(List.range i).filterMap f/\aK H1 H) ⟨Z,aK.refl _⟩ (λi ys H hi ⟨e,s⟩=>?_) (λi ys H hi ⟨e,s⟩=>?_) λys H ⟨e,s⟩ p hp=>?_
 ·grind
 ·refine hs i H (λo H'=>match o with|some v=>(ys++[v]=(List.range (i+1)).filterMap f/\aK H1 H')|none=>(ys=(List.range (i+1)).filterMap f/\aK H1 H')) hi s λH' s'=>?_;cases ef:f i with
  |some v =>
   refine⟨?_,s'⟩;rw[e,u5,xW];simp[ef]
  |none =>
   refine⟨?_,s'⟩;rw[e,u5,xW];simp[ef]
 grind
mutual
inductive Le(K:aH) (H:Hp):V->PyData->Prop
 |non:Le K H .non .none
 |bl (b:Bool):Le K H (.bl b) (.bool b)
 |int (i:Int):Le K H (.int i) (.int i)
 |str (x:Str):Le K H (.str x) (.str x)
 |lst {a:Addr}{xs:List V}{ds:List PyData}:bC K H a xs->wQ K H xs ds->Le K H (.ref a) (.list ds)
 |tup {a:Addr}{xs:List V}{ds:List PyData}:cO K H a xs->wQ K H xs ds->Le K H (.ref a) (.tuple ds)
inductive wQ(K:aH) (H:Hp):List V->List PyData->Prop
 |nil:wQ K H [] []
 |cons {x:V}{xs:List V}{d:PyData}{ds:List PyData}:Le K H x d->wQ K H xs ds->wQ K H (x::xs) (d::ds)
end
def aK.wR{K:aH}{H:Hp}{xs:List V}(e:aK H H')(h:cO K H a xs):cO K H' a xs:=by
 rcases h with(h|⟨o,h⟩)|h
 ·exact .inl (.inl (e _ _ h))
 ·exact .inl (.inr ⟨o,e _ _ h⟩)
 ·exact .inr h
def Le.reads{H:Hp}(I:bG X Y σ H s){v:V}{d:PyData}{u:Value}(h:Le X.K H v d)(r:cQ v u):∃as,Reads s.heap u d as:=by
 refine Le.rec (motive_1:=λv d _=>∀u,cQ v u->∃as,Reads s.heap u d as) (motive_2:=λxs ds _=>∀us,cP xs us->∃as,ReadsAll s.heap us ds as) (λu r=>?_) (λb u r=>?_) (λi u r=>?_) (λx u r=>?_) (λh q ih u r=>?_) (λh q ih u r=>?_) (λus q=>?_) (λh q ih jh us z=>?_) h u r
 ·cases r;exact⟨_,.none⟩
 ·cases r;exact⟨_,.bool b⟩
 ·obtain⟨t,rfl⟩:=r;exact⟨_,.int i t⟩
 ·obtain⟨t,rfl⟩:=r;exact⟨_,.str x t⟩
 ·cases r;obtain⟨b7,rv,⟨o,n,e,c,_,d⟩,_⟩:=I.list h;obtain⟨as,ra⟩:=ih _ rv;exact⟨_,.list e c d (by simpa using ra)⟩
 ·cases r;obtain⟨b7,rv,⟨o,e,c,n,d⟩,_⟩:=I.tuple h;obtain⟨as,ra⟩:=ih _ rv;exact⟨_,.tuple e c d (by simpa using ra)⟩
 ·cases q;exact⟨_,.nil⟩
 ·cases z with
  |cons r t =>
  obtain⟨as,ra⟩:=ih _ r;obtain⟨bs,rb⟩:=jh _ t;exact⟨_,.cons ra rb⟩
theorem wQ.ints{K:aH}{H:Hp}:∀ns:List Int,wQ K H (ns.map V.int) (ns.map PyData.int)
 | []=>.nil
 |n::ns=>.cons (.int n) (wQ.ints ns)
inductive a0s(K:aH)(neg:Bool)(x:V)(y:V)(H:Hp)(Q:VK):Prop
 |mk (d d':_) (_:Le K H x d) (_:Le K H y d') (_:SeqAt.shaped d=true) (_:SeqAt.shaped d'=true) (_:Q (.bl (if neg then !PyData.eqv d d' else PyData.eqv d d')) H)
def a3n(hu:X.A.units+64<cLine):rz X (compareOp .Eq) (a0s X.K false):=by
 symm;obtain⟨d,d',h1,h2,s1,s2,q⟩:=h;obtain⟨as,ra⟩:=h1.reads I rx;obtain⟨bs,rb⟩:=h2.reads I ry;exact eq_dataH ra rb s1 s2 hu ⟨.bl _,H,I,Z,q⟩
def a3o(hu:X.A.units+64<cLine):rz X (compareOp .NotEq) (a0s X.K true):=by
 symm;obtain⟨d,d',h1,h2,s1,s2,q⟩:=h;obtain⟨as,ra⟩:=h1.reads I rx;obtain⟨bs,rb⟩:=h2.reads I ry;exact ne_dataH ra rb s1 s2 hu ⟨.bl _,H,I,Z,q⟩
inductive VL(K:aH)(neg:Bool)(x:V)(y:V)(H:Hp)(Q:VK):Prop
 |mk (d ds:_) (_:Le K H x d) (_:Le K H y (.list ds)) (_:SeqAt.shaped d=true) (_:SeqAt.shaped (.list ds)=true) (_:Q (.bl (if neg then !ds.any (λe=>PyData.eqv e d)else ds.any (λe=>PyData.eqv e d))) H)
def a3p(hu:X.A.units+65<cLine):rz X (compareOp .In) (VL X.K false):=by
 symm;obtain⟨d,ds,h1,h2,s1,s2,q⟩:=h;obtain⟨as,ra⟩:=h1.reads I rx;obtain⟨bs,rb⟩:=h2.reads I ry;exact SeqAt.in_list_reads rb ra (Ad s2) (Ad s1) (room_in_shaped s1 hu) ⟨.bl _,H,I,Z,q⟩
def Zd(hu:X.A.units+65<cLine):rz X (compareOp .NotIn) (VL X.K true):=by
 symm;obtain⟨d,ds,h1,h2,s1,s2,q⟩:=h;obtain⟨as,ra⟩:=h1.reads I rx;obtain⟨bs,rb⟩:=h2.reads I ry;exact SeqAt.notIn_list_reads rb ra (Ad s2) (Ad s1) (room_in_shaped s1 hu) ⟨.bl _,H,I,Z,q⟩
def a3q:V->Option Value
 |.ty n=>some (.type n)
 |.ref a=>some (.ref a)
 |_=>none
def Ĕ{c:V}{cv u:Value}(h:a3q c=some cv)(r:cQ c u):u=cv:=by
 cases c with
 |ty n=>cases h;exact r
 |ref a=>cases h;exact r
 |_=>cases h
def Rr:jF X (.builtin "isinstance") (λxs H Q=>∃x c cv t b,xs=[x,c]/\a3q c=some cv/\tZ X.K H x t/\PySem.W.kitOne X.K t cv=some b/\Q (.bl b) H):=by
 intro Y s σ H xs us Q I r h;obtain⟨x,c,cv,t,b,rfl,hc,ty,hk,q⟩:=h;obtain⟨u1,u2,rfl,r1,r2⟩:=vals2 r;obtain rfl:=Ĕ hc r2;exact Y5 I r1 ty hk λtk=>⟨.bl b,H,I.tok tk,Z,q⟩
abbrev Cx.in1(X:Cx):Cx:={ X with A:=X.A.in1}
def bG.in1{Y:List (Addr×Obj)}{σ:St}{H:Hp}{s:Shared}(I:bG X Y σ H s):bG X.in1 Y σ H s :=
 ⟨⟨I.ok.mod,I.ok.kind,I.ok.glob,I.ok.blt,I.ok.above,I.ok.inj,I.ok.has,I.ok.cab,I.ok.hd,I.ok.frames,I.ok.stk,I.ok.exf,I.ok.bs,I.ok.bsz,I.ok.Vj,I.ok.YT,I.ok.BZ,I.ok.frf⟩,I.os,I.bare,I.base,I.loc,I.cell,I.free,I.tV,I.pin,I.hok,I.len⟩
def bG.of_in1{H:Hp}(I:bG X.in1 Y σ H s):bG X Y σ H s :=
 ⟨⟨I.ok.mod,I.ok.kind,I.ok.glob,I.ok.blt,I.ok.above,I.ok.inj,I.ok.has,I.ok.cab,I.ok.hd,I.ok.frames,I.ok.stk,I.ok.exf,I.ok.bs,I.ok.bsz,I.ok.Vj,I.ok.YT,I.ok.BZ,I.ok.frf⟩,I.os,I.bare,I.base,I.loc,I.cell,I.free,I.tV,I.pin,I.hok,I.len⟩
def oJ(K:aH)(H:Hp)(xs:List V)(bs:List Bool):Prop:=Paired (λx b=>Ă K x H b) xs bs
theorem oJ.get{K:aH}{H:Hp}:∀{xs:List V}{bs:List Bool}{i:Nat}{x:V},oJ K H xs bs->xs[i]?=some x->∃b,bs[i]?=some b/\Ă K x H b
 |_,_,_,_,.nil,h=>by simp at h
 |_,_,0,_,.cons h r,e=>by
  grind
 |_,_,i+1,_,.cons h r,e=>by
  obtain⟨d,e1,q⟩:=oJ.get (i:=i) r (by simpa using e)
  exact⟨d,by simpa using e1,q⟩
theorem oJ.bls{K:aH}{H:Hp}:∀bs:List Bool,oJ K H (bs.map V.bl) bs
 | []=>.nil
 |b::bs=>.cons Z (oJ.bls bs)
def ĕ{H:Hp}{p:Addr}{ys:List V}{bs:List Bool}(hc:X.calm=true)(hq:bC X.K H p ys)(ht:oJ X.K H ys bs)(f:Gu X Y H it) :
  ∀(k i:Nat) (s:Shared),ys.length-i=k->bG X Y σ H s->s.heap.IsListIter it p i->(∀s',bG X Y σ H s'->R (.ok (.ret (.bool ((bs.drop i).all id)))) s')->
  codeAny (model X.prog X.w) X.A (.builtin "all.loop" ⟨[.ref it],[]⟩) R s:=by
 obtain⟨f0,f1,f2,f3,f4,f5⟩:=f;intro k
 induction k with
 |zero =>
  intro i s hk I st hR;obtain⟨b7,rv,pl,hz⟩:=I.list hq;have hl:=rv.length;refine j7 F.entry_all_loop ?_;rw[lD Ox _];show wpAny _ X.A.in1 (pyNext (.ref it) >>= _) _ _ s;refine M (wpAny_pyNext_list_end (I.ok.hd hc) st pl.isList (by simp;omega) λh' eb=>?_);refine M (kh (ao ?_));have q:=hR _ (I.turned (t':=s.toks) (λb o hb e=>eb b o hb e) f0 f1 f3 f4 f5);have hlb:bs.length=ys.length:=(aM ht).symm;rw[List.drop_of_length_le ()]at q;exact q
 |succ k ih =>
  intro i s hk I st hR;obtain⟨b7,rv,pl,hz⟩:=I.list hq;have hl:=rv.length;have hlt:i<ys.length:=()
  have hx:ys[i]?=some ys[i]:=by simp[hlt]
  obtain⟨u,hu,ru⟩:=rv.get hx;obtain⟨b,hb,tb⟩:=ht.get hx;refine j7 F.entry_all_loop ?_;rw[lD Ox _];show wpAny _ X.A.in1 (pyNext (.ref it) >>= _) _ _ s;refine M (Ug st pl.isList (x:=u) () λh' st' sb=>?_);injections;have hdb:bs.drop i=b::bs.drop (i+1):=by
   obtain⟨hlb,eb⟩:=fu.mp hb;rw[Ih hlb,eb]
  rw[hdb]at hR;have I1p:bG X (Y++wJ [it] h') σ H { s with heap:=h'}:=I1.pinned (fp:=[it]) (λc hcc=>by rw[bJ.mp hcc];exact⟨f0,f1,f2,f3,f4,f5⟩) λc hcc=>by
   rw[bJ.mp hcc];obtain⟨o,e,c',d⟩:=st';grind
  subst_eqs;cases c with
  |true =>
   simp only[if_true];exact ao ⟨mK Ox _,ih (i+1) s2 () Ė st2 λs' I'=>by simpa using hR s' I'⟩
  |false =>
   simp only[Bool.false_eq_true,if_false];refine M (kh (ao ?_));simpa using hR s2 Ė
def Ze(hc:X.calm=true):jF X (.builtin "all") (λxs H Q=>∃p ys bs,xs=[.ref p]/\bC X.K H p ys/\oJ X.K H ys bs/\Q (.bl (bs.all id)) H):=by
 intro Y s σ H xs us Q I r h;obtain⟨p,ys,bs,rfl,hq,ht,q⟩:=h;obtain⟨u,rfl,rx⟩:=vals1 r;cases rx;refine call_function_tree F.kind_all F.plain_all F.entry_all (F.args_all1 _) ?_;unfold Builtin.«all»;refine M (m:=oneArg "all" _) (ao ?_);obtain⟨b7,rv,pl,hz⟩:=I.list hq;refine M (wD pl.isList ?_);have I1:bG X Y σ H { s with heap:=s.heap.push { cls:=.type "list_iterator",data:=.fields #[.ref p,.int 0 0]}}:=I.kept (t':=s.toks) λb o e=>bB _ e;refine ao ⟨mK Ox _,ĕ hc hq ht (I.Gv (aL _) (I.hok.fresh (aL _))) ys.length 0 _ (Ax _) I1 ⟨_,bU _ Z,Z,Z⟩ λs' I'=>?_⟩;exact⟨.bl _,H,I',Z,by simpa using q⟩
def ė{H:Hp}{p:Addr}{ys:List V}{bs:List Bool}(hc:X.calm=true)(hq:bC X.K H p ys)(ht:oJ X.K H ys bs)(f:Gu X Y H it) :
  ∀(k i:Nat) (s:Shared),ys.length-i=k->bG X Y σ H s->s.heap.IsListIter it p i->(∀s',bG X Y σ H s'->R (.ok (.ret (.bool ((bs.drop i).any id)))) s')->
  codeAny (model X.prog X.w) X.A (.builtin "any.loop" ⟨[.ref it],[]⟩) R s:=by
 obtain⟨f0,f1,f2,f3,f4,f5⟩:=f;intro k
 induction k with
 |zero =>
  intro i s hk I st hR;obtain⟨b7,rv,pl,hz⟩:=I.list hq;have hl:=rv.length;refine j7 F.entry_any_loop ?_;rw[lD Oz _];show wpAny _ X.A.in1 (pyNext (.ref it) >>= _) _ _ s;refine M (wpAny_pyNext_list_end (I.ok.hd hc) st pl.isList (by simp;omega) λh' eb=>?_);refine M (kh (ao ?_));have q:=hR _ (I.turned (t':=s.toks) (λb o hb e=>eb b o hb e) f0 f1 f3 f4 f5);have hlb:bs.length=ys.length:=(aM ht).symm;rw[List.drop_of_length_le ()]at q;exact q
 |succ k ih =>
  intro i s hk I st hR;obtain⟨b7,rv,pl,hz⟩:=I.list hq;have hl:=rv.length;have hlt:i<ys.length:=()
  have hx:ys[i]?=some ys[i]:=by simp[hlt]
  obtain⟨u,hu,ru⟩:=rv.get hx;obtain⟨b,hb,tb⟩:=ht.get hx;refine j7 F.entry_any_loop ?_;rw[lD Oz _];show wpAny _ X.A.in1 (pyNext (.ref it) >>= _) _ _ s;refine M (Ug st pl.isList (x:=u) () λh' st' sb=>?_);injections;have hdb:bs.drop i=b::bs.drop (i+1):=by
   obtain⟨hlb,eb⟩:=fu.mp hb;rw[Ih hlb,eb]
  rw[hdb]at hR;have I1p:bG X (Y++wJ [it] h') σ H { s with heap:=h'}:=I1.pinned (fp:=[it]) (λc hcc=>by rw[bJ.mp hcc];exact⟨f0,f1,f2,f3,f4,f5⟩) λc hcc=>by
   rw[bJ.mp hcc];obtain⟨o,e,c',d⟩:=st';grind
  subst_eqs;cases c with
  |false =>
   simp only[Bool.false_eq_true,if_false];exact ao ⟨mK Oz _,ih (i+1) s2 () Ė st2 λs' I'=>by simpa using hR s' I'⟩
  |true =>
   simp only[if_true];refine M (kh (ao ?_));simpa using hR s2 Ė
def Zf(hc:X.calm=true):jF X (.builtin "any") (λxs H Q=>∃p ys bs,xs=[.ref p]/\bC X.K H p ys/\oJ X.K H ys bs/\Q (.bl (bs.any id)) H):=by
 intro Y s σ H xs us Q I r h;obtain⟨p,ys,bs,rfl,hq,ht,q⟩:=h;obtain⟨u,rfl,rx⟩:=vals1 r;cases rx;refine call_function_tree F.kind_any F.plain_any F.entry_any (F.args_any1 _) ?_;unfold Builtin.«any»;refine M (m:=oneArg "any" _) (ao ?_);obtain⟨b7,rv,pl,hz⟩:=I.list hq;refine M (wD pl.isList ?_);have I1:bG X Y σ H { s with heap:=s.heap.push { cls:=.type "list_iterator",data:=.fields #[.ref p,.int 0 0]}}:=I.kept (t':=s.toks) λb o e=>bB _ e;refine ao ⟨mK Oz _,ė hc hq ht (I.Gv (aL _) (I.hok.fresh (aL _))) ys.length 0 _ (Ax _) I1 ⟨_,bU _ Z,Z,Z⟩ λs' I'=>?_⟩;exact⟨.bl _,H,I',Z,by simpa using q⟩
structure Dn(K:aH)(mg:Str->Option Value)(x:Str)(st:Stmt)(ps:List Str) where
 f:Addr
 fd:FuncData
 F:Fun K x x st f fd
 b:Binds K fd ps []
 m:mg x=some (.ref f)
 bd:∀(s:Shared) (us:List Value),us.length=ps.length->BindsTo s fd ⟨us,[]⟩ (ps.zip us)
structure Bl(mg:Str->Option Value):Prop where
 get:∀x:Str,x∈(["len","range","list","isinstance","int","bool","str","all","any","sorted","set","min","max","tuple","enumerate","dict","ValueError"]:List Str)->mg x=none
def Bl.len{mg:Str->Option Value}(B:Bl mg):mg "len" = none:=B.get _ ()
def Bl.range{mg:Str->Option Value}(B:Bl mg):mg "range" = none:=B.get _ ()
def Bl.list{mg:Str->Option Value}(B:Bl mg):mg "list" = none:=B.get _ ()
def Bl.isinstance{mg:Str->Option Value}(B:Bl mg):mg "isinstance" = none:=B.get _ ()
def Bl.int{mg:Str->Option Value}(B:Bl mg):mg "int" = none:=B.get _ ()
def Bl.bool{mg:Str->Option Value}(B:Bl mg):mg "bool" = none:=B.get _ ()
def Bl.all{mg:Str->Option Value}(B:Bl mg):mg "all" = none:=B.get _ ()
def Bl.any{mg:Str->Option Value}(B:Bl mg):mg "any" = none:=B.get _ ()
def Bl.sorted{mg:Str->Option Value}(B:Bl mg):mg "sorted" = none:=B.get _ ()
def Bl.set{mg:Str->Option Value}(B:Bl mg):mg "set" = none:=B.get _ ()
def Bl.min{mg:Str->Option Value}(B:Bl mg):mg "min" = none:=B.get _ ()
def Bl.max{mg:Str->Option Value}(B:Bl mg):mg "max" = none:=B.get _ ()
def Bl.tuple{mg:Str->Option Value}(B:Bl mg):mg "tuple" = none:=B.get _ ()
def Bl.enumerate{mg:Str->Option Value}(B:Bl mg):mg "enumerate" = none:=B.get _ ()
def Bl.dict{mg:Str->Option Value}(B:Bl mg):mg "dict" = none:=B.get _ ()
def Gb{K:aH}:PySem.W.kitOne K (.type "int") (.type "int")=some true:=by rfl
def Cr{K:aH}:PySem.W.kitOne K (.type "int") (.type "bool")=some false:=by rfl
def Rt{K:aH}:PySem.W.kitOne K (.type "NoneType") (.type "int")=some false:=by rfl
def Qe{K:aH}:PySem.W.kitOne K (.type "NoneType") (.type "bool")=some false:=by rfl
section
variable{K:aH}
def bA(e:X.K=K):IxR X (a5v K):=by subst e;exact a0n
def aV(e:X.K=K):IxR X (a5w K):=by subst e;exact a3f
def a0t(e:X.K=K)(hu:X.A.units+64<cLine):rz X (compareOp .Eq) (a0s K false):=by subst e;exact a3n hu
def Hq(e:X.K=K)(hu:X.A.units+64<cLine):rz X (compareOp .NotEq) (a0s K true):=by subst e;exact a3o hu
def uM(e:X.K=K)(hu:X.A.units+65<cLine):rz X (compareOp .In) (VL K false):=by subst e;exact a3p hu
def jM(e:X.K=K)(hu:X.A.units+65<cLine):rz X (compareOp .NotIn) (VL K true):=by subst e;exact Zd hu
def a0u(e:X.K=K):rz X (compareOp .In) (rIn K false):=by subst e;exact Y8
def VN(e:X.K=K):rz X (compareOp .NotIn) (rIn K true):=by subst e;exact Qa
def a7q(K:aH):List V->Hp->VK->Prop:=λxs H Q=>∃p ys,xs=[.ref p]/\(bC K H p ys\/cO K H p ys)/\Q (.int ys.length) H
def cG(e:X.K=K):jF X (.builtin "len") (a7q K):=by subst e;exact Qc
def a0v(K:aH):List V->Hp->VK->Prop:=λxs H Q=>∃p ys,xs=[.ref p]/\(bC K H p ys\/cO K H p ys)/\∀l,H l=none->Q (.ref l) (cN H l (.lst ys))
def VP(e:X.K=K):jF X (.type "list") (a0v K):=by subst e;exact Qd
def a5D(K:aH):List V->Hp->VK->Prop:=λxs H Q=>∃x c cv t b,xs=[x,c]/\a3q c=some cv/\tZ K H x t/\PySem.W.kitOne K t cv=some b/\Q (.bl b) H
def jb(e:X.K=K):jF X (.builtin "isinstance") (a5D K):=by subst e;exact Rr
def a7r(K:aH):List V->Hp->VK->Prop:=λxs H Q=>∃p ys bs,xs=[.ref p]/\bC K H p ys/\oJ K H ys bs/\Q (.bl (bs.all id)) H
def a7s(K:aH):List V->Hp->VK->Prop:=λxs H Q=>∃p ys bs,xs=[.ref p]/\bC K H p ys/\oJ K H ys bs/\Q (.bl (bs.any id)) H
def Zg(e:X.K=K)(hc:X.calm=true):jF X (.builtin "all") (a7r K):=by subst e;exact Ze hc
def Zh(e:X.K=K)(hc:X.calm=true):jF X (.builtin "any") (a7s K):=by subst e;exact Zf hc
def fC{l:Expr}{tl:TE}(e:X.K=K)(hl:PE X l tl):PI X tg l (a2m K tl):=by subst e;exact a0b hl
def Cu{l:Expr}{tl:TE}(e:X.K=K)(hl:PE X l tl):PI X tg l (a5h K tl):=by subst e;exact a2W hl
def a7t(K:aH)(ta:TE):TT:=λσ H Q=>ta σ H λx H'=>∃k,Ă K x H' k/\Q k H'
def gK{a:Expr}{ta:TE}(e:X.K=K)(ha:PE X a ta)(he:∀whole,isTrue a X.env whole=(do let v <-whole;standAt a.pos;holding [v] (truthy v))):PT X a (a7t K ta):=by subst e;exact ă ha he
def jN{t:ý}(e:X.K=K)(hc:X.calm=true)(h:PGs X es t)
  (hn:(assignEach es X.env).length=n:=by rfl) (hst:(assignEach es X.env).findIdx? (·.1)=none:=by rfl):PG X (.Tuple es k pos) (a5g K n t):=by subst e;exact a2T hc h hn hst
def qO{o:Expr}{to:TE}{name:Str}{apos cpos:Pos}{T id:String}(e:X.K=K)(pa:PlainAttrs T)(slot:Slot T name id)(hty:typeOf (.builtin id)=pure (.type "method_descriptor"))(hm:MtR X id r)(ho:PE X o to)
  (hbase:attributeBase o name X.env (eval o X.env)=eval o X.env:=by rfl) (hline:(apos.endLine==cpos.line)=true:=by rfl):PE X (.Call (.Attribute o name apos) [] [] cpos) (a5x K T r to):=by subst e;exact a3h pa slot hty hm ho hbase hline
def oK{o e:Expr}{to:TE}{t:TA}{name:Str}{apos cpos:Pos}{T id:String}(e0:X.K=K)(pa:PlainAttrs T)(slot:Slot T name id)(hty:typeOf (.builtin id)=pure (.type "method_descriptor"))(hm:MtR X id r)(ho:PE X o to)(ha:PA X (e::es) t)
  (hbase:attributeBase o name X.env (eval o X.env)=eval o X.env:=by rfl)
  (hfew:((backTo cpos (starEach (e::es) X.env)).all (λx=>!x.1)&&(backToKw cpos (keywordEach [] X.env)).all (λx=>x.1.isSome)
   && decide ((e::es).length+([]:List Keyword).length+(if([]:List Keyword).isEmpty then 0 else 1)<30))=true:=by rfl)
  (hline:(apos.endLine==cpos.line)=true:=by rfl) (hs:starEach (e::es) X.env=(false,eval e X.env)::starEach es X.env:=by rfl) (hplain:(backTo cpos (starEach es X.env)).any (·.1)=false:=by rfl) :
  PE X (.Call (.Attribute o name apos) (e::es) [] cpos) (tBM K T r to t):=by subst e0;exact a5y pa slot hty hm ho ha hbase hfew hline hs hplain
end
inductive a5E(t u:TS)(D:Ends)(σ:St)(H:Hp):Prop
 |mk (Z97:St->Hp->Prop) (_:t { D with nx:=Z97} σ H) (_:∀σ' H',Z97 σ' H'->u D σ' H')
def qP{st:Stmt}{rest:List Stmt}{t u:TS}(h1:PS X st t)(h2:Rj X rest u):Rj X (st::rest) (a5E t u):=by
 intro Y s σ H D I h;obtain⟨Z97,q1,q2⟩:=h;refine UJ (jr (h1 Y s σ H { D with nx:=Z97} I q1) λf s1 q=>?_);cases f with
 |next =>
  obtain⟨σ',H',I',q⟩:=q;exact h2 Y s1 σ' H' D I' (q2 σ' H' q)
 |ret v=>exact q
 |brk=>exact q
 |cont=>exact q
structure gP(H:Hp)(p:Addr)(o:HO)(H':Hp):Prop where
 fresh:H p=none
 here:H' p=some o
 rest:∀b,b≠p->H' b=H b
def gP.ou{H:Hp}{p:Addr}(h:H p=none):gP H p o (cN H p o):=⟨h,cY,λ_ hb=>aU hb⟩
def gP.same{H:Hp}{p:Addr}(n:gP H p o H'):aK H H':=λb u e=>(n.rest b (dM e n.fresh)).trans e
def gP.ne{H:Hp}{p b:Addr}{u:HO}(n:gP H p o H')(h:H b=some u):b≠p:=dM h n.fresh
structure vo(H:Hp)(l:Addr)(o:HO)(H':Hp):Prop where
 here:H' l=some o
 rest:∀b,b≠l->H' b=H b
def vo.ou{H:Hp}{l:Addr}:vo H l o (cN H l o):=⟨cY,λ_ hb=>aU hb⟩
section
variable{K:aH}{t:TA}
def Ru(t:TA):TE:=λσ H Q=>t σ H λxs H1=>xs.length<=1000/\∀p H',gP H1 p (.tup xs) H'->Q (.ref p) H'
def a5F(t:TA):TE:=λσ H Q=>t σ H λxs H1=>xs.length<=1000/\∀p H',gP H1 p (.lst xs) H'->Q (.ref p) H'
def aZ{x1}(h:PA X es t):PE X (.Tuple es x1 pos) (Ru t):=by
 intro Y s σ H Q I hq;refine wpAny_Tuple_spliced (jr (h pos Y s σ H _ I hq) λus s1 ⟨xs,H1,I1,r,z,q⟩=>?_);have z':xs.length<=sizeLine:=dU (cL z);refine⟨by rw[<-r.length];exact z',?_⟩;have hf:H1 s1⁻¹=none:=I1.hok.fresh (aL _);exact⟨.ref s1⁻¹,cN H1 s1⁻¹ (.tup xs),I1.laid (t':=s1.toks) (λb u e=>bB _ e) (aL _) ⟨z',us,r,⟨_,bU _ Z,Z,_,Z⟩⟩,Z,q _ _ (gP.ou hf)⟩
def cH(h:PA X es t):PE X (.List es pos) (a5F t):=by
 intro Y s σ H Q I hq;refine wpAny_List_spliced (jr (h pos Y s σ H _ I hq) λus s1 ⟨xs,H1,I1,r,z,q⟩=>?_);have z':xs.length<=sizeLine:=dU (cL z);refine⟨by rw[<-r.length];exact z',?_⟩;have hf:H1 s1⁻¹=none:=I1.hok.fresh (aL _);exact⟨.ref s1⁻¹,cN H1 s1⁻¹ (.lst xs),I1.laid (t':=s1.toks) (λb u e=>bB _ e) (aL _) ⟨z',us,0,r,bU _ Z⟩,Z,q _ _ (gP.ou hf)⟩
def rz.weak{f:Value->Value->Sem Value}{r r':R2}(h:rz X f r)(m:∀x y H Q,r' x y H Q->r x y H Q):rz X f r':=λY s σ H x y v u Q I rx ry q=>h Y s σ H x y v u Q I rx ry (m x y H Q q)
def jF.weak{f:Value}{r r':List V->Hp->VK->Prop}(h:jF X f r)(m:∀xs H Q,r' xs H Q->r xs H Q):jF X f r':=λY s σ H xs us Q I rs q=>h Y s σ H xs us Q I rs (m xs H Q q)
inductive a5G(x:V)(y:V)(H:Hp)(Q:VK):Prop
 |mk (l b xs zs:_) (_:x=.ref l) (_:y=.ref b) (_:H l=some (.lst xs)) (_:H b=some (.lst zs)) (_:xs.length+zs.length<=1000) (_:∀p H',gP H p (.lst (xs++zs)) H'->Q (.ref p) H')
def qQ:rz X (binaryOp .Add) a5G:=a3k.weak λx y H Q ⟨l,b,xs,zs,e1,e2,h1,h2,z,q⟩=>⟨l,b,xs,zs,e1,e2,h1,h2,dU (cL z),λp hp=>q p _ (gP.ou hp)⟩
inductive a7u(K:aH)(x:V)(lo:Option Int)(hi:Option Int)(H:Hp)(Q:VK):Prop
 |mk (a xs:_) (_:x=.ref a) (_:bC K H a xs) (_:∀p H',gP H p (.lst (vg xs lo hi)) H'->Q (.ref p) H')
def yr(e:X.K=K):SlR X (a7u K):=by
 subst e;exact λY s σ H x v vl vu lo hi sl Q I rx hs pl pu ⟨a,xs,e,h,q⟩=>a0o Y s σ H x v vl vu lo hi sl Q I rx hs pl pu ⟨a,xs,e,h,λp hp=>q p _ (gP.ou hp)⟩
inductive a3r(K:aH)(xs:List V)(H:Hp)(Q:VK):Prop
 |mk (p ys:_) (_:xs=[.ref p]) (_:(bC K H p ys\/cO K H p ys)) (_:∀l H',gP H l (.lst ys) H'->Q (.ref l) H')
def wU(e:X.K=K):jF X (.type "list") (a3r K):=(VP e).weak λxs H Q ⟨p,ys,e,h,q⟩=>⟨p,ys,e,h,λl hl=>q l _ (gP.ou hl)⟩
def Ro.weak{id:String}{r':V->List V->Hp->VK->Prop}(h:Ro X id r)(m:∀x xs H Q,r' x xs H Q->r x xs H Q):Ro X id r':=λY s σ H x xs v us Q I rx rs q=>h Y s σ H x xs v us Q I rx rs (m x xs H Q q)
inductive a5H(x:V)(vs:List V)(H:Hp)(Q:VK):Prop
 |mk (l xs y:_) (_:x=.ref l) (_:vs=[y]) (_:H l=some (.lst xs)) (_:xs.length<1000) (_:∀H',vo H l (.lst (xs++[y])) H'->Q .non H')
def jO:Ro X "list.append" a5H:=Y9.weak λx vs H Q ⟨l,xs,y,e1,e2,h,z,q⟩=>⟨l,xs,y,e1,e2,h,cL (dU z),q _ vo.ou⟩
inductive a5I(x:V)(vs:List V)(H:Hp)(Q:VK):Prop
 |mk (l xs:_) (_:x=.ref l) (_:vs=[]) (_:H l=some (.lst xs)) (_:∀H',vo H l (.lst []) H'->Q .non H')
def Zi:Ro X "list.clear" a5I:=Č.weak λx vs H Q ⟨l,xs,e1,e2,h,q⟩=>⟨l,xs,e1,e2,h,q _ vo.ou⟩
end
def Qf{K:aH}{xs:List V}(f:V->Option V)(hx:bC K H1 a xs)(hz:xs.length<=1000)
  (hs:∀x H (N:Option V->Hp->Prop),x∈xs->aK H1 H->(∀H',aK H1 H'->N (f x) H')->g x (rA ix σ) H λσ2 H2=>tt σ2 H2 λb H3=>if b=true then te σ2 H3 λv H4=>N (some v) H4 else N none H3)
  (hd:∀H p H',aK H1 H->gP H p (.lst (xs.filterMap f)) H'->Q (.ref p) H'):nD ix g tt te σ H1 Q (Itl K a) :=
 a5C f hx (dU (cL hz)) hs λH p s hp=>hd H p _ s (gP.ou hp)
def a0w{lo:Int}(f:Nat->Option V)(hz:n<=1000)
  (hs:∀i H (N:Option V->Hp->Prop),i<n->aK H1 H->(∀H',aK H1 H'->N (f i) H')->g (.int (lo+i)) (rA ix σ) H λσ2 H2=>tt σ2 H2 λb H3=>if b=true then te σ2 H3 λv H4=>N (some v) H4 else N none H3)
  (hd:∀H p H',aK H1 H->gP H p (.lst ((List.range n).filterMap f)) H'->Q (.ref p) H'):nD ix g tt te σ H1 Q (Xe lo n) :=
 a3m f (dU (cL hz)) hs λH p s hp=>hd H p _ s (gP.ou hp)
end L2
namespace Lw
open L2
variable{H:Hp}{ns:List Int}{K:aH}{a:Addr}
def rB{p:Addr}(h:H p=none)(o:HO):aK H (cN H p o):=λb u q=>by rw[aU (dM q h)];exact q
theorem Cv{α β:Type}{f:α->Option β}{g:α->β}:∀{l:List α},(∀x∈l,f x=some (g x))->l.filterMap f=l.map g
 | [],_=>rfl
 |x::r,h=>by
  rw[N6 (h x aO),bV,Cv λy hy=>h y (aY _ hy)]
theorem Eu{f:V->Option V}{p:Int->Bool}:∀{ns:List Int},(∀v∈ns,f (.int v)=if p v=true then some (.int v)else none)->(ns.map V.int).filterMap f=(ns.filter p).map V.int
 | [],_=>rfl
 |v::r,h=>by
  have ih:=Eu (f:=f) (p:=p) (ns:=r) λy hy=>h y (aY _ hy)
  grind
def Xo{k:Int}(h0:0<=k)(h:k<(ns.length:Int)):TQ (ns.map V.int) k=some (.int (ns.getD k.toNat 0)):=by
 have hk:k.toNat<ns.length:=()
 have ek:k=((k.toNat:Nat):Int):=()
 have q:TQ (ns.map V.int) ((k.toNat:Nat):Int)=some (.int (ns.getD k.toNat 0)):=bR (by
  grind)
 grind
def Ü(K:aH)(H:Hp)(a:Addr)(ns:List Int):Prop:=(∃o,H a=some (.jq o (.lst (ns.map V.int))))\/
 ∃(o:Obj) (b7:Array Value) (n:Nat),K.lookup a=some o/\o.cls=.type "list" /\o.dict=none/\o.data=.seq b7 n/\b7.size<=sizeLine/\cP (ns.map V.int) b7.toList
def Ü.seq(h:Ü K H a ns):bC K H a (ns.map V.int):=by
 rcases h with⟨o,h⟩|h
 ·exact .inl (.inr ⟨o,h⟩)
 ·exact .inr h
def Ü.of(hO:Only H)(h:bC K H a (ns.map V.int)):Ü K H a ns:=by
 rcases h with(h|⟨o,h⟩)|h
 ·rcases hO a with z|⟨ob,xs,z⟩
  ·grind
  grind
 ·exact .inl ⟨o,h⟩
 ·exact .inr h
def Ü.same{H':Hp}(e:aK H H')(h:Ü K H a ns):Ü K H' a ns:=by
 rcases h with⟨o,h⟩|h
 ·exact .inl ⟨o,e _ _ h⟩
 ·exact .inr h
inductive a2q(K:aH)(vs:List V)(H:Hp)(Q:VK)(u_3:XK):Prop
 |mk (a:Addr) (ns:List Int) (_:vs=[.ref a]) (_:Ü K H a ns) (_:ns.length<=63) (_:∀H',Q (.bl true) H')
end Lw
namespace L2
open PyProof.Rows
variable{K:aH}{mg:Str->Option Value}{k:Nat}
def Rv{h:Heap}{x:Str}{st:Stmt}{ps:List Str}{f:Addr}{oc:Value}{od an:Option Addr}{osl:Array (Option Value)}{kV doc pm dz ct:Value}(X:K.In h)(G:h.Ns mainGlobals mg)
  (a:PySem.W.nsIn K mainGlobals x=some (some (.ref f))) (l:K.lookup f=some ⟨oc,od,.func (PySem.W.fnOf x x (dX st) (dF st) (aB st) .none kV doc pm an dz ct),osl⟩) (c:PySem.W.codeIn K dz x=true) (k:PySem.W.keepIn K (.ref f)=true)
  (hb:∀(kV doc pm:Value) (an:Option Addr) (dz ct:Value) (us:List Value),us.length=ps.length->bindArgs (PySem.W.fnOf x x (dX st) (dF st) (aB st) .none kV doc pm an dz ct) ⟨us,[]⟩=pure (ps.zip us)) :
  Nonempty (Dn K mg x st ps) :=
 have F:=VH (st:=st) l c k
 ⟨⟨f,_,F,F.binds hb,Jb X G a,λs us hl=>.of_eq (hb _ _ _ _ _ _ us hl)⟩⟩
def a5J{h:Heap}(X:K.In h)(G:h.Ns mainGlobals mg)
  (z1:PySem.W.nsIn K mainGlobals "len" = some none) (z2:PySem.W.nsIn K mainGlobals "range" = some none) (z3:PySem.W.nsIn K mainGlobals "list" = some none) (z4:PySem.W.nsIn K mainGlobals "isinstance" = some none) (z5:PySem.W.nsIn K mainGlobals "int" = some none)
  (z6:PySem.W.nsIn K mainGlobals "bool" = some none) (z7:PySem.W.nsIn K mainGlobals "str" = some none) (z8:PySem.W.nsIn K mainGlobals "all" = some none) (z9:PySem.W.nsIn K mainGlobals "any" = some none) (z10:PySem.W.nsIn K mainGlobals "sorted" = some none)
  (z11:PySem.W.nsIn K mainGlobals "set" = some none) (z12:PySem.W.nsIn K mainGlobals "min" = some none) (z13:PySem.W.nsIn K mainGlobals "max" = some none) (z14:PySem.W.nsIn K mainGlobals "tuple" = some none) (z15:PySem.W.nsIn K mainGlobals "enumerate" = some none)
  (z16:PySem.W.nsIn K mainGlobals "dict" = some none) (z17:PySem.W.nsIn K mainGlobals "ValueError" = some none):Bl mg:=by
 refine⟨λx hx=>?_⟩;simp only[List.mem_cons,List.not_mem_nil,or_false]at hx;rcases hx with rfl|rfl|rfl|rfl|rfl|rfl|rfl|rfl|rfl|rfl|rfl|rfl|rfl|rfl|rfl|rfl|rfl
 ·exact lE X G z1
 ·exact lE X G z2
 ·exact lE X G z3
 ·exact lE X G z4
 ·exact lE X G z5
 ·exact lE X G z6
 ·exact lE X G z7
 ·exact lE X G z8
 ·exact lE X G z9
 ·exact lE X G z10
 ·exact lE X G z11
 ·exact lE X G z12
 ·exact lE X G z13
 ·exact lE X G z14
 ·exact lE X G z15
 ·exact lE X G z16
 ·exact lE X G z17
def a3s{P:Program}{w:World}{fa:Addr}{st:Stmt}{sp:Sp}{x:Str}(hfa:mg "law" = some (.ref fa))(d:Dn K mg "law" st [x])(F:∀base:Heap,bw P w K mg base fX k d.f d.fd [x] sp) :
  ∃fd:FuncData,(∀(s:Shared) (u:Value),BindsTo s fd ⟨[u],[]⟩ [(x,u)])/\∀base:Heap,K.In base->base.Ns mainGlobals mg->bw P w K mg base fX k fa fd [x] sp:=by
 have e:fa=d.f:=by
  have:=hfa.symm.trans d.m;have:=eO this;cases this;rfl
 subst e;exact⟨d.fd,λs u=>d.bd s [u] Z,λbase _ _=>F base⟩
def Ite(K:aH)(a:Addr):It :=
 ⟨λi H=>∃xs x,bC K H a xs/\xs[i]?=some x,λi H x H'=>∃p y,x=.ref p/\gP H p (.tup [.int i,y]) H'/\∀xs,bC K H a xs->xs[i]?=some y,λi H=>∃xs,bC K H a xs/\xs.length<=i⟩
def Zj{P:Program}{w:World}{elts:List Expr}{pos:Pos}(a it e:Addr)(hei:e≠it):Turn P w K (.Tuple elts k pos) (Ite K a) [e,it] e (λi h=>(∃old,IsEnum h e it i old)/\h.IsListIter it a i) where
 mem:=by simp
 obj:=λi h st b hb=>by
  obtain⟨⟨old,he⟩,hit⟩:=st
  rcases cB.mp hb with rfl|hb
  ·grind
  ·rw[bJ.mp hb]
   obtain⟨o,e1,c,d⟩:=hit
   grind
 keep:=λi h h' st kk=>by
  obtain⟨⟨old,he⟩,hit⟩:=st
  exact⟨⟨old,kk e (by simp) _ he⟩,hit.at λo q=>kk it (by simp) o q⟩
 item:=by
  nofun
  subst hP hw hK
  obtain⟨xs,x,hq,hx⟩:=hg
  obtain⟨b7,rv,pl,hz⟩:=I.list hq
  obtain⟨u,hu,ru⟩:=rv.get hx
  obtain⟨⟨old,he⟩,hit⟩:=st
  obtain⟨f0,f1,f2,f3,f4,f5⟩:=hf e (by simp)
  obtain⟨g0,g1,g2,g3,g4,g5⟩:=hf it (by simp)
  refine wpAny_pyNext_enum_item he hit pl.isList (x:=u) () hei λh' ho hit' hT hsz hk=>?_
  refine⟨_,Z,í ho λh2 he2 hs2=>?_⟩
  have eT:s⁻¹≠e:=gC (aX he)
  have iT:s⁻¹≠it:=by
   obtain⟨o,e1,_⟩:=hit
   exact gC (aX e1)
  have hT2:h2.get? s⁻¹=some { cls:=.type "tuple",data:=.seq #[.int i s.toks,u]}:=(hs2.2 _ eT).trans hT
  have kp:∀b o,b≠e->b≠it->s.heap.get? b=some o->h2.get? b=some o:=λb o h1 h2' q=>(hs2.2 b h1).trans (hk b o h1 h2' q)
  have I1:bG X Y σ H { s with heap:=h2,toks:=s.toks+1}:=by
   refine I.step (g':=s.gens) (d':=s.drawn) (H':=H) (ch:=[e,it]) (λb hb=>?_) (λb o _ _ hc q _=>kp b o (λz=>hc (by simp[z])) (λz=>hc (by simp[z])) q) (λb o _ _ hc q _=>⟨o.slots,kp b o (λz=>hc (by simp[z])) (λz=>hc (by simp[z])) q⟩) (λ_ _ _ _ n=>n)
    (λb o hc q=>⟨o,kp b o (λz=>hc (by simp[z])) (λz=>hc (by simp[z])) q⟩) (λ_ _ q=>q) (λ_ _ _ q=>q) (λb ps q=>⟨#[],by rw[q];simp⟩) (λm hm=>?_) (λb o q=>?_) I.bare
   ·grind
   ·obtain⟨o,es,ep,q,r⟩:=hm
    exact⟨o,es,ep,kp _ o (Ne.symm f1) (Ne.symm g1) q,r⟩
   ·have nb:∀c v,H c=some v->c≠e/\c≠it:=λc v q=>⟨dM q f0,dM q g0⟩
    refine(I.hok b o q).stay (λc v hcc r=>kp c v ?_ ?_ r) (λ_ q=>q) λ_ _ q=>q
    ·grind
    grind
  have hfree:H s⁻¹=none:=I.hok.fresh (aL _)
  have I2:bG X Y σ (cN H s⁻¹ (.tup [.int i,x])) { s with heap:=h2,toks:=s.toks+1}:=by
   refine bG.track I1 hfree I.sz (gC I.lt) (λy c q=>?_) (λp hp=>bY (aX (I.pin p hp).1)) ?_
   ·obtain⟨v,oc,q1,_⟩:=I.cell y c q
    exact bY (aX q1)
   ·exact⟨(by show 2<=sizeLine;decide),[.int i s.toks,u],.cons ⟨_,Z⟩ (.cons ru .nil),⟨_,hT2,Z,_,Z⟩⟩
  refine⟨.ref s⁻¹,_,I2,Z,⟨_,x,Z,gP.ou hfree,λys hy=>by rw[I.yg hy hq];exact hx⟩,⟨⟨u,?_⟩,hit'.at λo q=>(hs2.2 it (Ne.symm hei)).trans q⟩,λb hb=>?_⟩
  ·grind
  ·rcases cB.mp hb with rfl|hb
   ·rw[aU (Ne.symm eT)];exact f0
   ·rw[bJ.mp hb,aU (Ne.symm iT)];exact g0
 done:=by
  nofun
  subst hP hw hK
  obtain⟨xs,hq,hx⟩:=hg
  obtain⟨b7,rv,pl,hz⟩:=I.list hq
  obtain⟨⟨old,he⟩,hit⟩:=st
  obtain⟨g0,g1,g2,g3,g4,g5⟩:=hf it (by simp)
  have hl:=rv.length
  exact wpAny_pyNext_enum_end (I.ok.hd hc) he hit pl.isList (by simp;omega) λh' eb=>⟨Z,I.turned (t':=s.toks) (λb o hb q=>eb b o hb q) g0 g1 g3 g4 g5⟩
 self:=λ_ _ _ _ _ st h=>by
  obtain⟨⟨old,he⟩,_⟩:=st
  exact Ot he h
section
variable{X:Cx}
def a5K(K:aH)(ta:TA):TI:=λσ H R=>ta σ H λvs H1=>∃a,vs=[.ref a]/\(∃xs,bC K H1 a xs)/\R (Ite K a) H1
def a0x{elts:List Expr}{tpos:Pos}{l:Expr}{ta:TA}{p pos:Pos}(e0:X.K=K)(hg:Gl X "enumerate")(hm:X.mg "enumerate" = none)(ha:PA X [l] ta)(hs:starEach [l] X.env=[(false,eval l X.env)]:=by rfl) :
  PI X (.Tuple elts k tpos) (.Call (.Name "enumerate" p) [l] [] pos) (a5K K ta):=by
 subst e0;intro Y s σ H R I h;refine wB (tW I hg hm boot_enumerate (wz (jr (ha pos Y s σ H _ I h) λus s1 ⟨vs,H1,I1,r1,q1⟩=>?_) hs (by rfl)));obtain⟨a,e,⟨xs,hq⟩,q⟩:=q1;subst e;obtain⟨u,rfl,ru⟩:=vals1 r1;cases ru;obtain⟨b7,rv,pl,hz⟩:=I1.list hq;refine call_enumerate_list pl.isList λh' he hit hsz hk=>Ot he ?_;have I2:bG X Y σ H1 { s1 with heap:=h'}:=I1.kept (t':=s1.toks) hk;refine⟨s1⁻¹+1,[s1⁻¹+1,s1⁻¹],_,_,H1,Z,I2,Zj a s1⁻¹ (s1⁻¹+1) (gC (yc _)),⟨⟨_,he⟩,hit⟩,λb hb=>?_,q⟩;have hb':s1⁻¹<=b:=by
  grind
 exact I1.Gv hb' (I1.hok.fresh hb')
end
def Ę{a:Addr}{xs:List V}{g:TG}{tb:TS}{D:Ends}{σ:St}{H:Hp}(Pv:Nat->St->Hp->Prop)(h0:Pv 0 σ H)(hl:∀i σ H,i<=xs.length->Pv i σ H->bC K H a xs)
  (hs:∀(i:Nat) x σ H p H',xs[i]?=some x->Pv i σ H->gP H p (.tup [.int i,x]) H'->g (.ref p) σ H' λσ2 H2=>tb { D with nx:=Pv (i+1),ct:=Pv (i+1),bk:=D.nx} σ2 H2) (hd:∀σ H,Pv xs.length σ H->D.nx σ H) :
  ∃W:Nat->Nat->St->Hp->Prop,(∃m,W 0 m σ H)/\∀i m σ H,W i m σ H->
   ((Ite K a).stop i H/\D.nx σ H)\/((Ite K a).go i H/\∃N:St->Hp->Prop,(∀σ' H',N σ' H'->∃m',m'<m/\W (i+1) m' σ' H')/\∀x H',(Ite K a).Û i H x H'->g x σ H' λσ2 H2=>tb { D with nx:=N,ct:=N,bk:=D.nx} σ2 H2):=by
 refine⟨λi m σ H=>m=xs.length-i/\i<=xs.length/\Pv i σ H,⟨xs.length,by simp,dh _,h0⟩,?_⟩;rintro i m σ H ⟨rfl,hi,p⟩;have q:=hl i σ H hi p;by_cases hlt:i<xs.length
 ·refine .inr ⟨⟨xs,xs[i],q,by simp[hlt]⟩,Pv (i+1),λσ' H' p'=>⟨xs.length-(i+1),(),Z,hlt,p'⟩,λx H' y=>?_⟩;obtain⟨pp,y0,rfl,nw,ex⟩:=y;exact hs i y0 σ H pp H' (ex xs q) p nw
 ·have e:i=xs.length:=()
  subst e;exact .inl ⟨⟨xs,q,aL _⟩,hd σ H p⟩
def ę{a:Addr}{xs:List V}{ix:List (Option Nat)}{g:TG}{tt:TT}{te:TE}{σ:St}{H1:Hp}{Q:VK}(f:Nat->Option V)(hx:bC K H1 a xs)(hz:xs.length<=1000)
  (hs:∀(i:Nat) x H (N:Option V->Hp->Prop),xs[i]?=some x->aK H1 H->(∀H',aK H1 H'->N (f i) H')->g x (rA ix σ) H λσ2 H2=>tt σ2 H2 λb H3=>if b=true then te σ2 H3 λv H4=>N (some v) H4 else N none H3)
  (hd:∀H p H',aK H1 H->gP H p (.lst ((List.range xs.length).filterMap f)) H'->Q (.ref p) H'):nD ix g tt te σ H1 Q (Itl K a):=by
 refine uL (K:=K) (a:=a) (xs:=xs) (λi ys H=>ys=(List.range i).filterMap f/\aK H1 H) ⟨Z,aK.refl _⟩ (λi ys H hi ⟨e,s⟩=>⟨s.seq hx,?_⟩) (λi x ys H hi ⟨e,s⟩=>?_) λys H ⟨e,s⟩ p hp=>?_
 ·subst e;refine dI (Ua _ _) ?_;rw[qu];exact dI hi (dU (cL hz))
 ·refine hs i x H (λo H'=>match o with|some v=>(ys++[v]=(List.range (i+1)).filterMap f/\aK H1 H')|none=>(ys=(List.range (i+1)).filterMap f/\aK H1 H')) hi s λH' s'=>?_;cases ef:f i with
  |some v =>
   refine⟨?_,s'⟩;rw[e,u5,xW];simp[ef]
  |none =>
   refine⟨?_,s'⟩;rw[e,u5,xW];simp[ef]
 ·subst e;exact hd H p _ s (gP.ou hp)
end L2
namespace Bg
open L2 Lw
abbrev BW:=Option Int×List Int
def oM(n:Int):Option Int->Bool
 |none=>false
 |some i=>decide (0<=i/\i<n)
def rowAt(rs:List BW)(k:Nat):BW:=rs.getD k (none,[])
inductive Flt where
 |ok|row (k:Nat)|place (v:Nat)|tie (a b:Int)|apart (v j k:Nat)
 deriving DecidableEq
variable{i:Nat}
def upV:Option Int->V
 |none=>.non
 |some i=>.int i
def a0y(K:aH)(H:Hp)(v:V)(t:Int×Int):Prop:=∃p,v=.ref p/\cO K H p [.int t.1,.int t.2]
inductive Ew(K:aH)(H:Hp)(a:Addr)(ts:List bW):Prop
 |mk (xs:_) (_:bC K H a xs) (_:Paired (a0y K H) xs ts) (_:ts.length<=1000)
inductive vp(K:aH)(H:Hp)(v:V)(n:Int)(ts:List bW):Prop
 |mk (p a:_) (_:v=.ref p) (_:cO K H p [.int n,.ref a]) (_:Ew K H a ts)
def Ew.same{K:aH}{H H':Hp}{a:Addr}{ts:List bW}(e:aK H H')(h:Ew K H a ts):Ew K H' a ts:=by
 obtain⟨xs,h1,h2,h3⟩:=h;exact⟨xs,e.seq h1,Paired.cC h2 λ_ _ ⟨p,q1,q2⟩=>⟨p,q1,e.wR q2⟩,h3⟩
def vp.same{K:aH}{H H':Hp}{v:V}{n:Int}{ts:List bW}(e:aK H H')(h:vp K H v n ts):vp K H' v n ts:=by
 obtain⟨p,a,h1,h2,h3⟩:=h;exact⟨p,a,h1,e.wR h2,h3.same e⟩
def bf{α β:Type}{F:α->β->Prop}{xs:List α}{ys:List β}{x:α}(p:Paired F xs ys)(e:xs[i]?=some x):∃y,ys[i]?=some y/\F x y:=by
 induction p generalizing i with
 |nil=>cases e
 |cons h r ih =>
  cases i with
  |zero=>cases e;exact⟨_,Z,h⟩
  |succ i=>exact ih (i:=i) e
def cM{α β:Type}{F:α->β->Prop}{xs:List α}{ys:List β}{y:β}(p:Paired F xs ys)(e:ys[i]?=some y):∃x,xs[i]?=some x/\F x y:=by
 induction p generalizing i with
 |nil=>cases e
 |cons h r ih =>
  cases i with
  |zero=>cases e;exact⟨_,Z,h⟩
  |succ i=>exact ih (i:=i) e
def vK{rs:List BW}(h:i<rs.length):rs[i]?=some (rowAt rs i):=by
 unfold rowAt;grind
def Xp(ns:List Int)(v:Int):(ns.map PyData.int).any (λe=>PyData.eqv e (.int v))=decide (v∈ns):=by
 induction ns with
 |nil=>rfl
 |cons a r ih =>
  rw[bV,tR,ih,PyData.eqv];grind
def VR(ns:List Int):PyData.depthAll (ns.map PyData.int)=0:=by
 induction ns with
 |nil=>rfl
 |cons a r ih=>rw[bV,PyData.depthAll,ih];rfl
def Ě(ns:List Int):PyData.canLayAll0 (ns.map PyData.int)=true:=by
 induction ns with
 |nil=>rfl
 |cons a r ih=>rw[bV,PyData.canLayAll0,ih];rfl
def shaped_ints(ns:List Int):SeqAt.shaped (.list (ns.map PyData.int))=true:=by
 unfold SeqAt.shaped;rw[PyData.canLay0,Ě,PyData.depth,VR];decide
def Js(ns ms:List Int):PyData.eqv (.list (ns.map PyData.int)) (.list (ms.map PyData.int))=decide (ns=ms):=by
 rw[PyData.eqv];exact PySem.W.ked_eqvAll ns ms
def Ba{K:aH}{H:Hp}{b:Addr}{ns:List Int}{v:Int}{Q:VK}(hS:bC K H b (ns.map V.int))(q:Q (.bl (decide (v∈ns))) H):VL K false (.int v) (.ref b) H Q :=
 ⟨_,_,.int v,.lst hS (wQ.ints ns),Z,shaped_ints ns,by rw[Xp];exact q⟩
def zx{K:aH}{H:Hp}{b:Addr}{ns:List Int}{v:Int}{Q:VK}(hS:bC K H b (ns.map V.int))(q:Q (.bl (!decide (v∈ns))) H):VL K true (.int v) (.ref b) H Q :=
 ⟨_,_,.int v,.lst hS (wQ.ints ns),Z,shaped_ints ns,by rw[Xp];exact q⟩
end Bg
namespace L2
open PyProof.Rows
def aK.chg{H H':Hp}{l:Addr}{o:HO}{H0:Hp}(s:aK H0 H)(h0:H0 l=none)(c:vo H l o H'):aK H0 H':=λb u e=>(c.rest b (dM e h0)).trans (s b u e)
end L2
namespace Bg
open L2 Lw
variable{H H':Hp}
inductive oN(H:Hp)(v:V)(t:Int×Int):Prop
 |mk (p:_) (_:v=.ref p) (_:H p=some (.tup [.int t.1,.int t.2]))
inductive Qg(l:Addr)(H:Hp)(v:V)(r:BW):Prop
 |mk (p b:_) (_:v=.ref p) (_:H p=some (.tup [upV r.1,.ref b])) (_:H b=some (.lst (r.2.map V.int))) (_:b≠l) (_:r.2.length<=1000)
def oN.same{v:V}{t:Int×Int}(s:aK H H')(h:oN H v t):oN H' v t:=by
 obtain⟨p,e,q⟩:=h;exact⟨p,e,s _ _ q⟩
def oN.chg{l:Addr}{xs ys:List V}{v:V}{t:Int×Int}(hl:H l=some (.lst xs))(c:vo H l (.lst ys) H')(h:oN H v t):oN H' v t:=by
 obtain⟨p,e,q⟩:=h;exact⟨p,e,(c.rest p (Xa q hl ())).trans q⟩
def Qg.same{l:Addr}{v:V}{r:BW}(s:aK H H')(h:Qg l H v r):Qg l H' v r:=by
 obtain⟨p,b,e,q1,q2,n,z⟩:=h;exact⟨p,b,e,s _ _ q1,s _ _ q2,n,z⟩
def cZ{α β:Type}{F:α->β->Prop}{xs:List α}{ys:List β}{x:α}{y:β}(h:Paired F xs ys)(q:F x y):Paired F (xs++[x]) (ys++[y]):=by
 induction h with
 |nil=>exact .cons q .nil
 |cons h _ ih=>exact .cons h ih
def yu(t:Int×Int):PyData:=.tuple [.int t.1,.int t.2]
def a0y.isD{K:aH}{v:V}{t:Int×Int}(h:a0y K H v t):Le K H v (yu t):=by
 obtain⟨p,rfl,q1⟩:=h;exact .tup q1 (.cons (.int _) (.cons (.int _) .nil))
def Cw{K:aH}{α:Type}{F:V->α->Prop}{f:α->PyData}(hf:∀v x,F v x->Le K H v (f x)){xs:List V}{ys:List α}(h:Paired F xs ys):wQ K H xs (ys.map f):=by
 induction h with
 |nil=>exact .nil
 |cons h _ ih=>exact .cons (hf _ _ h) ih
def ě(ts:List bW):PyData:=.list (ts.map yu)
def Ew.isD{K:aH}{H:Hp}{a:Addr}{ts:List bW}(h:Ew K H a ts):Le K H (.ref a) (ě ts):=by
 obtain⟨xs,h1,h2,_⟩:=h;exact .lst h1 (Cw (λv x q=>q.isD) h2)
theorem Hs{α:Type}{f:α->PyData}(h:∀x,(f x).canLay0=true):∀l:List α,PyData.canLayAll0 (l.map f)=true
 | []=>rfl
 |x::r=>by rw[bV,PyData.canLayAll0,h x,Hs h r];rfl
theorem vL{α:Type}{f:α->PyData}{k:Nat}(h:∀x,(f x).depth<=k):∀l:List α,PyData.depthAll (l.map f)<=k
 | []=>dh _
 |x::r=>by
  rw[bV,PyData.depthAll]
  exact Nat.max_le.mpr ⟨h x,vL h r⟩
def Xq(t:Int×Int):(yu t).canLay0=true:=rfl
def MF(t:Int×Int):(yu t).depth<=1:=by
 unfold yu;simp[PyData.depth,PyData.depthAll]
def Rx(ts:List bW):SeqAt.shaped (ě ts)=true:=by
 unfold SeqAt.shaped ě;rw[PyData.canLay0,Hs Xq,PyData.depth,Jc];exact bL (by have:=vL MF ts;omega)
def Jt{d:PyData}(h:SeqAt.shaped d=true):PyData.eqv d d=true:=SeqAt.eqv_refl d (Ad h)
end Bg
namespace Pmt
open PyProof.Rows PySem.Calls PySem.W
variable{nrem n i:Nat}{h:Heap}{κ:SortKind}{Q:Option Nat->SortSt->Prop}
section
variable{prog:Program}{wo:World}{A:Around}{E:Value->Shared->Prop}{s:Shared}{a₀:Array Keyed}
def Cmp(prog:Program)(wo:World)(A:Around)(κ:SortKind)(s:Shared)(a₀:Array Keyed):Prop :=
 ∀x∈a₀,∀y∈a₀,∀(C:Bool->Shared->Prop),(∀b,C b s)->wpAny (model prog wo) A (keyLt' κ x.1 y.1) C (λ_ _=>False) s
structure PB(κ:SortKind)(a₀:Array Keyed)(P:Array (Nat×Nat×Nat))(st:SortSt):Prop where
 perm:(arrOf st).Perm a₀
 fail:failedOf st=none
 kind:kindOf st=κ
 pend:pendingOf st=P
def PB.size{P}{st:SortSt}(h:PB κ a₀ P st):(arrOf st).size=a₀.size:=h.perm.size_eq
def PB.mem{P}{st:SortSt}(h:PB κ a₀ P st){x}(hx:x∈arrOf st):x∈a₀:=h.perm.mem_iff.mp hx
def a3t{P}{st:SortSt}{x y:Keyed}{Q:Option Bool->SortSt->Prop}(hC:Cmp prog wo A κ s a₀)(hB:PB κ a₀ P st)(hx:x∈a₀)(hy:y∈a₀)
  (h:∀b,Q (some b) st):wpS (model prog wo) A E s (lt' x y) Q st:=by
 rw[lt'_eq];refine eV (Eo ?_);rw[hB.kind];refine eV (wpS_lift (tU (iH (hC x hx y hy (λb s'=>s'=s) λb=>rfl) (λb s' e=>?_) λ_ _ f=>f.elim)));subst e;exact⟨Z,jg (h b)⟩
def Ry{arr:Array Keyed}{st:SortSt}{Q:Keyed->SortSt->Prop}(hi:i<arr.size)(h:Q arr[i] st):wpS (model prog wo) A E s (elem' arr i) Q st:=by
 rw[elem'_eq,uW hi];exact jg h
def Cy{P}{st:SortSt}{j:Nat}{Q:Option Bool->SortSt->Prop}(hC:Cmp prog wo A κ s a₀)(hB:PB κ a₀ P st)(hi:i<a₀.size)(hj:j<a₀.size)
  (h:∀b,Q (some b) st):wpS (model prog wo) A E s (ltAt' i j) Q st:=by
 rw[ltAt'_eq];refine eV (Eo ?_);exact eV (Ry (by rw[hB.size];exact hi) (eV (Ry (by rw[hB.size];exact hj) (a3t hC hB (hB.mem (Array.getElem_mem _)) (hB.mem (Array.getElem_mem _)) h))))
def PB.setArr{P}{st:SortSt}(h:PB κ a₀ P st){xs:Array Keyed}(hp:xs.Perm (arrOf st)):PB κ a₀ P (setArr st xs):=⟨hp.trans h.perm,h.fail,h.kind,h.pend⟩
def Hu{P}{st:SortSt}{j:Nat}{Q:Unit->SortSt->Prop}(hB:PB κ a₀ P st)(h:∀st',PB κ a₀ P st'->Q ⟨⟩ st') :
  wpS (model prog wo) A E s (reverseSlice' i j) Q st:=by
 rw[reverseSlice'_eq];exact Pn (h _ (hB.setArr (mirror_perm _ _ _ _)))
def Xr{P}{a:Nat}{st:SortSt}{Q:AscSt->SortSt->Prop}(hC:Cmp prog wo A κ s a₀)(hB:PB κ a₀ P st)(hn:nrem<=a₀.size)(h1:1<=a)(h2:a<=nrem)
  (h:∀m,1<=m->m<=nrem->Q (none,m) st):wpS (model prog wo) A E s (ascLoop a nrem) Q st:=by
 unfold ascLoop;refine Ek (I:=λx c st'=>st'=st/\c=(none,x)) ?_ ?_ ⟨Z,Z⟩
 ·rintro x c st' x1 x2 ⟨rfl,rfl⟩;refine eV (Cy hC hB (by dsimp only;omega) (by dsimp only;omega) λb=>?_);cases b
  ·exact jg ⟨Z,Z⟩
  ·exact jg (h x () ())
 ·rintro c st' ⟨rfl,rfl⟩;exact h _ () ()
def Ĝ{P}{st:SortSt}(hC:Cmp prog wo A κ s a₀)(hB:PB κ a₀ P st)(hn:nrem<=a₀.size)(h1:1<=n)(h2:n<=nrem)
  (h:∀m st',1<=m->m<=nrem->PB κ a₀ P st'->Q (some m) st'):wpS (model prog wo) A E s (tail3 n nrem) Q st :=
 eV (Hu hB λst2 hB=>eV (Xr hC hB hn h1 h2 λm m1 m2=>jg (h m _ m1 m2 hB)))
def ĝ{P}{st:SortSt}(hC:Cmp prog wo A κ s a₀)(hB:PB κ a₀ P st)(hn:nrem<=a₀.size)(h2:n+1<=nrem)
  (h:∀m st',1<=m->m<=nrem->PB κ a₀ P st'->Q (some m) st'):wpS (model prog wo) A E s (descPart n nrem) Q st:=by
 unfold descPart descLoop;refine eV (wpS_lift (kh (And.intro Z (eV (Jf (Ek (I:=λx c st'=>PB κ a₀ P st'/\∃q,c=(none,x,q)) (Q:=λc st'=>PB κ a₀ P st'/\∃m q,c=(none,m,q)/\1<=m/\m<=nrem) ?_ ?_ ⟨hB,_,Z⟩) ?_)))))
 ·rintro x c st' x1 x2 ⟨hB,q,rfl⟩;refine eV (Cy hC hB (by dsimp only;omega) (by dsimp only;omega) λb=>?_);cases b
  ·refine eV (Cy hC hB (by dsimp only;omega) (by dsimp only;omega) λb=>?_);cases b
   ·exact jg ⟨hB,_,Z⟩
   ·exact jg ⟨hB,_,_,Z,by dsimp only;omega,by dsimp only;omega⟩
  ·dsimp only;simp only[if_true];split
   ·exact eV (Hu hB λst2 hB=>jg ⟨hB,_,Z⟩)
   ·exact jg ⟨hB,_,Z⟩
 ·rintro c st' ⟨hB,q,rfl⟩;exact⟨hB,_,_,Z,(),()⟩
 ·rintro c st' ⟨hB,m,q,rfl,m1,m2⟩;dsimp only;split
  ·exact eV (Hu hB λst2 hB=>Ĝ hC hB hn m1 m2 h)
  ·exact Ĝ hC hB hn m1 m2 h
def a0z{P}{st:SortSt}(hC:Cmp prog wo A κ s a₀)(hB:PB κ a₀ P st)(hn:nrem<=a₀.size)(h1:1<=nrem)
  (h:∀m st',1<=m->m<=nrem->PB κ a₀ P st'->Q (some m) st'):wpS (model prog wo) A E s (countRun' 0 nrem) Q st:=by
 rw[countRun0_eq];refine eV (Xr hC hB hn (aL 1) h1 λm m1 m2=>?_);dsimp only;split
 ·exact jg (h m _ m1 m2 hB)
 ·have m3:m+1<=nrem:=()
  split
  ·refine eV (Cy hC hB () () λb=>?_);cases b
   ·exact eV (Hu hB λst2 hB=>ĝ hC hB hn m3 h)
   ·exact jg (h m _ m1 m2 hB)
  ·exact ĝ hC hB hn m3 h
def a0A{P}{lo ok:Nat}{st:SortSt}{Q:Bool->SortSt->Prop}(hC:Cmp prog wo A κ s a₀)(hB:PB κ a₀ P st)(hn:lo+n<=a₀.size)
  (h:∀st',PB κ a₀ P st'->Q true st'):wpS (model prog wo) A E s (binarySort' lo n ok) Q st:=by
 rw[binarySort'_eq];refine eV (Jf (Ek (I:=λx c st'=>PB κ a₀ P st'/\c=(none,⟨⟩)) (Q:=λc st'=>PB κ a₀ P st'/\c=(none,⟨⟩)) ?_ ?_ ⟨hB,Z⟩) ?_)
 ·rintro k c st' hx1 hx2 ⟨Xu,rfl⟩;dsimp only;refine eV (Jf (Ek (I:=λx c st'=>PB κ a₀ P st'/\∃l r,c=(none,l,r)/\r<=k) (Q:=λc st'=>PB κ a₀ P st'/\∃l r,c=(none,l,r)) ?_ ?_ ⟨Xu,_,_,Z,aL _⟩) ?_)
  ·rintro x c st' _ _ ⟨Xu,l,r,rfl,hr⟩;dsimp only;split
   ·exact jg ⟨Xu,_,_,Z⟩
   ·refine eV (Cy hC Xu () () λb=>?_);cases b
    ·exact jg ⟨Xu,_,_,Z,()⟩
    ·exact jg ⟨Xu,_,_,Z,()⟩
  ·rintro c st' ⟨Xu,l,r,rfl,hr⟩;exact⟨Xu,_,_,Z⟩
  ·rintro c st' ⟨Xu,l,r,rfl⟩;dsimp only;rw[moveDown'_eq];exact eV (Pn (jg ⟨Xu.setArr (bubble_perm _ _ _),Z⟩))
 ·rintro c st' ⟨Xu,rfl⟩;exact⟨Xu,Z⟩
 ·rintro c st' ⟨Xu,rfl⟩;exact jg (h _ Xu)
def a0B{st:SortSt}{Q:Unit->SortSt->Prop}(hC:Cmp prog wo A κ s a₀)(hB:PB κ a₀ #[] st)(h2:2<=a₀.size)(h64:a₀.size<64)(h:∀st',(arrOf st').Perm a₀->failedOf st'=none->Q ⟨⟩ st'):wpS (model prog wo) A E s sortRuns' Q st:=by
 rw[sortRuns'_eq];refine eV (Eo ?_);have mr:minRun' a₀.size a₀.size 0=a₀.size:=by
  obtain⟨f,hf⟩:∃f,a₀.size=f+1:=⟨a₀.size-1,()⟩;rw[hf,minRun'_succ,aF ()];try rfl
 dsimp only;rw[hB.size,mr];refine eV (Jf (Ek (I:=λx c st'=>∃P lo,PB κ a₀ P st'/\c=(none,lo)/\((lo=0/\P = #[])\/(lo=a₀.size/\P.size=1))) (Q:=λc st'=>∃P lo,PB κ a₀ P st'/\c=(none,lo)/\P.size<=1) ?_ ?_ ⟨_,_,hB,Z,.inl ⟨Z,Z⟩⟩) ?_)
 ·rintro x c st1 _ _ ⟨P,lo,hB,rfl,⟨rfl,rfl⟩|⟨rfl,e⟩⟩
  ·dsimp only;rw[aq ()];refine eV (a0z hC hB () () λm st2 m1 m2 hB=>?_);dsimp only;by_cases c:m<a₀.size
   ·rw[aF c];refine eV (wpS_lift (kh (And.intro Z (eV (a0A hC hB () λst3 hB=>?_)))));simp only[if_false,Bool.not_true,Bool.false_eq_true];refine eV (Eo ?_);rw[hB.pend];exact eV (Pn (jg ⟨#[].push _,_,⟨hB.perm,hB.fail,hB.kind,by rw[<-hB.pend]⟩,Z,.inr ⟨by simp,Z⟩⟩))
   ·rw[aq c];refine eV (Eo ?_);rw[hB.pend];exact eV (Pn (jg ⟨#[].push _,_,⟨hB.perm,hB.fail,hB.kind,by rw[<-hB.pend]⟩,Z,.inr ⟨(),Z⟩⟩))
  ·dsimp only;rw[aF (aL _)];exact jg ⟨P,_,hB,Z,()⟩
 ·rintro c st1 ⟨P,lo,hB,rfl,⟨rfl,rfl⟩|⟨rfl,e⟩⟩
  ·exact⟨_,_,hB,Z,dh _⟩
  ·exact⟨_,_,hB,Z,()⟩
 ·rintro c st1 ⟨P,lo,hB,rfl,e⟩;dsimp only;refine eV (Jf (Ek (I:=λ_ c st'=>st'=st1/\c=(none,⟨⟩)) (Q:=λc st'=>st'=st1/\c=(none,⟨⟩)) ?_ (λ_ _ z=>z) ⟨Z,Z⟩) ?_)
  ·rintro x c st2 _ _ ⟨rfl,rfl⟩;refine eV (Eo ?_);rw[hB.pend,aF e];exact jg ⟨Z,Z⟩
  ·rintro c st2 ⟨rfl,rfl⟩;exact jg (h _ hB.perm hB.fail)
end
section
variable{prog:Program}{wo:World}{A:Around}{E:Value->Shared->Prop}{s:Shared}
def Asks(prog:Program)(wo:World)(A:Around)(κ:SortKind)(zs:List Value)(s:Shared):Prop :=
 (∀(E:Value->Shared->Prop) (R:SortKind->Shared->Prop),R κ s->wpAny (model prog wo) A (keyKind' zs.toArray) R E s)/\Cmp prog wo A κ s (pairsOf zs)
def Qh{a:Addr}{zs:List Value}{P:PySem.Fin->Shared->Prop}(oa:s.heap.get? a=some (seqObj "list" zs.toArray n))(hz:zs.length<64)
  (hk:2<=zs.length->∀h',(∀b o,b≠a->s.heap.get? b=some o->h'.get? b=some o)->Asks prog wo A κ zs { s with heap:=h'})
  (h:∀ys:List Value,ys.Perm zs->P (.done (.ret .none)) { s with heap:=sortedHeap s.heap a zs ys.toArray}) :
  wpAny (model prog wo) A (Builtin.«list.sort» ⟨[.ref a],[]⟩) P E s:=by
 rw[list_sort_plain];have la:a<s⁻¹:=aX oa;refine M (listItems_at oa Z ?_);refine M (Ve oa Z ?_ (by rw[iB,iU];omega) (dh _));obtain⟨ep,oa1⟩:∃ep,(s.heap.update a (Obj.mapSeq λ_=>#[])).get? a=some (seqObj "list" #[] ep):=⟨_,U9 oa λ_=>#[]⟩;refine M (seqEpoch_at oa1 Z ?_);refine M (IW ?_ (by show zs.length<=_;rw[iU];omega));refine M (Vf (eU ?_) (dh _));have oa6:(((s.heap.update a (Obj.mapSeq λ_=>#[])).push (seqObj "tuple" zs.toArray 0)).push (seqObj "list" #[] 0)).get? a=some (seqObj "list" #[] ep):=by
  rw[Ou _ _ _ (by rw[Pq,UW];grind),Ou _ _ _ (by rw[UW];grind)];exact oa1
 show wpAny (model prog wo) A _ P E { s with heap:=((s.heap.update a (Obj.mapSeq λ_=>#[])).push (seqObj "tuple" zs.toArray 0)).push (seqObj "list" #[] 0)};dsimp only;have fin:∀(st':SortSt),(arrOf st').Perm (pairsOf zs)->failedOf st'=none->((arrOf st').map (·.2)).toList.Perm zs:=λst' hp _=>by
  have q:=(Array.perm_iff_toList_perm.mp hp).map (·.2);rw[pairsOf_toList]at q;rw[Array.toList_map];refine q.trans (List.Perm.of_eq ?_);rw[List.map_snd_zip (aL _)]
 by_cases g2:zs.toArray.size<2
 ·rw[aF g2,aF g2];refine M (ao ?_);rw[StateT.run_pure];refine M (ao ?_);dsimp only;refine M (seqEpoch_at oa6 Z (M (Ve oa6 Z ?_ (dh _) ())));simp only[if_false,Bool.false_eq_true,bne_self_eq_false];have q:=h zs (wG _);refine ao ?_;have e:(arrOf (SortSt.mk' general' (zs.toArray.zip zs.toArray) #[] 7 none)).map (·.2)=zs.toArray:=by
   grind
  rw[e];exact q
 ·rw[aq g2,aq g2];have h2':2<=zs.length:=by simp at g2;omega
  have ak:=hk h2' (((s.heap.update a (Obj.mapSeq λ_=>#[])).push (seqObj "tuple" zs.toArray 0)).push (seqObj "list" #[] 0)) λb o hb e=>bB _ (bB _ (by rw[Oj _ _ _ _ hb];exact e));refine M (ak.1 _ _ ?_);have rn:=a0B (E:=E) (st:=SortSt.mk' κ (zs.toArray.zip zs.toArray) #[] 7 none) (Q:=λ_ st'=>(arrOf st').Perm (pairsOf zs)/\failedOf st'=none) ak.2 ⟨Array.Perm.refl _,Z,Z,Z⟩ (by rw[pairsOf_size];exact h2') (by rw[pairsOf_size];exact hz) (λst' h1 h2=>⟨h1,h2⟩);refine M (iH rn ?_ λ_ _ e=>e);rintro⟨⟨⟩,st'⟩ s' ⟨rfl,hp,hf⟩;dsimp only at hp hf ⊢;have pp:=fin st' hp hf;have hso:((arrOf st').map (·.2)).size=zs.length:=by simpa using pp.length_eq
  refine M (seqEpoch_at oa6 Z ?_);refine M (Ve oa6 Z ?_ (dh _) (dI (Pg hso) (by rw[iU];omega)));rw[hf];simp only[if_false,Bool.false_eq_true,bne_self_eq_false];exact ao (h _ pp)
def Zk{l:Addr}{zs:List Value}{R:Value->Shared->Prop}(il:s.heap.IsList l zs.toArray)(hz:zs.length<64)
  (hk:2<=zs.length->∀(A':Around) (h':Heap),(∀b o,s.heap.get? b=some o->h'.get? b=some o)->Asks prog wo A' κ zs { s with heap:=h'})
  (h:∀ys:List Value,ys.Perm zs->R (.ref (s⁻¹+1)) { s with heap:=sortedAll s.heap zs ys.toArray}) :
  wpAny (model prog wo) A (call (.builtin "sorted") [.ref l]) R E s:=by
 apply T9 kind_sorted plain_sorted entry_sorted (args_sorted1 _);unfold Builtin.«sorted»;refine M (m:=checkCount "sorted" 1 1 _) (ao ?_);refine M (collect_list il ?_ (by rw[iU];omega));refine M (Vf ?_ (by rw[iU];exact dU ()));have lz:((s.heap.push (seqObj "list" #[] 0)).update s⁻¹ (Obj.mapSeq (· ++ zs.toArray))).objs.size=s⁻¹+1:=by
  rw[UW];exact Pq _ _
 have oL:(((s.heap.push (seqObj "list" #[] 0)).update s⁻¹ (Obj.mapSeq (· ++ zs.toArray))).push (seqObj "list" zs.toArray 0)).get? (s⁻¹+1)=some (seqObj "list" zs.toArray 0):=by
  rw[<-lz];exact bU _ rfl
 show wpAny _ _ _ _ _ { s with heap:=((s.heap.push (seqObj "list" #[] 0)).update s⁻¹ (Obj.mapSeq (· ++ zs.toArray))).push (seqObj "list" zs.toArray 0)};rw[lz];refine M (eU (gk slot_list_sort ⟨_,oL,Z⟩ entry_list_sort (Qh (κ:=κ) oL hz (λg2 h' kp=>hk g2 _ h' λb o e=>?_) λp a1=>⟨_,Z,?_⟩) (args_list_sort _)))
 ·have lb:b<s⁻¹:=aX e;refine kp b o (bY (Ir lb)) ?_;rw[Ou _ _ _ (),Oj _ _ _ _ (bY lb),Ou _ _ _ (bY lb)];exact e
 ·exact ao ⟨_,Z,h p a1⟩
structure a3u(h:Heap)(v:Value)(ns:List Int):Prop where
 at':∃a o xs n,v=.ref a/\h.get? a=some o/\o.cls=.type "tuple" /\o.data=.seq xs n/\IntsAre xs.toList ns
 ne:ns≠[]
inductive uN(h:Heap):List Value->List (List Int)->Prop
 |nil:uN h [] []
 |cons {v ns vs ls}:a3u h v ns->uN h vs ls->uN h (v::vs) (ns::ls)
def uN.keep{h':Heap}(k:∀b o,h.get? b=some o->h'.get? b=some o){vs ls}(t:uN h vs ls):uN h' vs ls:=by
 induction t with
 |nil=>exact .nil
 |cons x _ ih =>
  obtain⟨⟨a,o,xs,n,e,ho,r⟩,ne⟩:=x;exact .cons ⟨⟨a,o,xs,n,e,k _ _ ho,r⟩,ne⟩ ih
def uN.len{vs ls}(t:uN h vs ls):vs.length=ls.length:=by
 induction t with
 |nil=>rfl
 |cons _ _ ih=>rw[jE,jE,ih]
def uN.get{vs ls}(t:uN h vs ls){i}(hi:i<vs.length):a3u h (vs.getD i .none) (ls.getD i []):=by
 induction t generalizing i with
 |nil=>cases hi
 |cons a _ ih =>
  cases i with
  |zero=>exact a
  |succ i=>exact ih (Uj hi)
def uN.kat{vs ls}(t:uN h vs ls):∃fs,KatTups h vs fs/\fs.length=vs.length/\∀v∈fs,∃n t,v=Value.int n t:=by
 induction t with
 |nil=>exact⟨[],KatTups.nil,Z,λv hv=>absurd hv eN⟩
 | @cons v ns vs ls x _ ih =>
  obtain⟨⟨a,o,xs,n,e,ho,hc,hd,hi⟩,ne⟩:=x;obtain⟨fs,k,l,q⟩:=ih;subst e;obtain⟨xl⟩:=xs;have hi:IntsAre xl ns:=hi;cases hi with
  |nil=>grind
  |cons m u r =>
   refine⟨.int m u::fs,KatTups.cons ho hc hd Z k,(),λv hv=>?_⟩;grind
def a0C{Q:Bool->Shared->Prop}(h:∀b,Q b s){xs ys:List Value}{ns ms:List Int}(i:Nat)(c:Bool)(p:IntsAre xs ns)(q:IntsAre ys ms):KatLex prog wo A true c Q (xs.zip ys) i s:=by
 induction p generalizing ys ms i with
 |nil=>exact kat_nil (h _)
 |cons n t x ih =>
  cases q with
  |nil=>exact kat_nil (h _)
  |cons m u y =>
  refine kat_cons (wpAny_eqBool_int ?_);cases n==m with
  |true=>exact kat_yes (ih (i+1) y)
  |false =>
   refine kat_no ?_;cases(true&&i==0)with
   |true=>exact oneLt_int (h _)
   |false=>exact kat_one _ _ (lt_int (h _))
def Zm{vs:List Value}{ls:List (List Int)}(h:uN s.heap vs ls)(h2:2<=vs.length):Asks prog wo A (tuples' true) vs s:=by
 refine⟨λE Q q=>?_,λx hx y hy C hC=>?_⟩
 ·obtain⟨fs,k,l,ty⟩:=h.kat;refine kat_kind (T:=.type "int") k () (λv hv=>?_) Z q;obtain⟨n,t,rfl⟩:=ty v hv;exact Looks.of_pure rfl
 ·have ix:∀x∈pairsOf vs,∃ns,a3u s.heap x.1 ns:=λx hx=>by
   obtain⟨i,hi,rfl⟩:=Array.getElem_of_mem hx;have hi':i<vs.length:=by rwa [pairsOf_size]at hi
   have:=h.get hi';rw[show(pairsOf vs)[i].1=vs.getD i .none by simp[pairsOf,hi']];exact⟨_,this⟩
  obtain⟨_,⟨a,o,xs,n,e1,ho,hc,hd,hx⟩,_⟩:=ix x hx;obtain⟨_,⟨a',o',ys,n',e2,ho',hc',hd',hy⟩,_⟩:=ix y hy;rw[e1,e2];exact kat_lt ho hd ho' hd' (a0C hC 0 _ hx hy)
end
end Pmt
namespace L2
open PyProof.Rows Bg Pmt
def a0D(K:aH)(H:Hp)(v:V)(ns:List Int):Prop:=∃p,v=.ref p/\cO K H p (ns.map V.int)
def a3v(K:aH):List V->Hp->VK->Prop:=λxs H Q=>∃l vs,∃ls:List (List Int),xs=[.ref l]/\bC K H l vs/\Paired (a0D K H) vs ls/\(∀ns∈ls,ns≠[])/\vs.length<64/\
 ∀(q:List Nat) p H',q.Perm (List.range vs.length)->True->gP H p (.lst (q.map λi=>vs.getD i .non)) H'->Q (.ref p) H'
theorem ints_of:∀{ns:List Int}{us:List Value},cP (ns.map V.int) us->IntsAre us ns
 | [],_,.nil=>.nil
 |n::ns,_,.cons r t=>by
  obtain⟨k,rfl⟩:=r
  exact .cons n k (ints_of t)
section
variable{X:Cx}{K:aH}
def a0E{Y:List (Addr×Obj)}{σ:St}{H:Hp}{s:Shared}(I:bG X Y σ H s){vs:List V}{us:List Value}{ls:List (List Int)}(v:cP vs us)(p:Paired (a0D X.K H) vs ls)(ne:∀ns∈ls,ns≠[]):uN s.heap us ls:=by
 induction v generalizing ls with
 |nil =>
  cases p;exact .nil
 |cons r t ih =>
  cases p with
  |cons a b =>
   obtain⟨pt,rfl,hT⟩:=a;obtain⟨b7,ri,⟨o,ho,hc,n,hd⟩,_⟩:=I.tuple hT;cases r;exact .cons ⟨⟨pt,o,b7.toArray,n,Z,ho,hc,hd,by simpa using ints_of ri⟩,ne _ aO⟩ (ih b λns h=>ne ns (aY _ h))
def Zn{vs:List V}{us:List Value}(v:cP vs us)(i:Nat)(h:i<vs.length):cQ (vs.getD i .non) (us.getD i .none):=by
 induction v generalizing i with
 |nil=>cases h
 |cons r _ ih =>
  cases i with
  |zero=>exact r
  |succ i=>exact ih i (Uj h)
theorem Rz{vs:List V}{us:List Value}(r:cP vs us):∀(q:List Nat),(∀i∈q,i<vs.length)->cP (q.map λi=>vs.getD i .non) (q.map λi=>us.getD i .none)
 | [],_=>.nil
 |i::q,h=>.cons (Zn r i (h i aO)) (Rz r q λj hj=>h j (aY _ hj))
def Ğ{α β:Type}{f:α->β}{ws vs:List β}(h:ws.Perm vs):∀{l:List α},vs=l.map f->∃q:List α,q.Perm l/\ws=q.map f:=by
 induction h with
 |nil =>
  intro l e;have:l=[]:=by simpa using e.symm
  subst this;exact⟨[],wG _,Z⟩
 |cons x _ ih =>
  intro l e;cases l with
  |nil=>cases e
  |cons a l =>
   obtain⟨q,p,e2⟩:=ih (Av e).2;exact⟨a::q,p.cons _,by rw[(Av e).1,e2];rfl⟩
 |swap x y m =>
  intro l e
  match l,e with
  |a::b::l,e=>exact⟨b::a::l,List.Perm.swap _ _ _,by simp at e;simp[e]⟩
 |trans _ _ ih1 ih2 =>
  intro l e;obtain⟨q,p,e2⟩:=ih2 e;obtain⟨q',p',e3⟩:=ih1 e2;exact⟨q',p'.trans p,e3⟩
def Cz(e:X.K=K):jF X (.builtin "sorted") (a3v K):=by
 subst e;intro Y s σ H xs us Q I r h;obtain⟨l,vs,ls,rfl,hL,hP,ne,h64,q⟩:=h;obtain⟨u,rfl,rx⟩:=vals1 r;cases rx;obtain⟨b7,r',pl,hz⟩:=I.list hL;have hlen:=r'.length;have ht:=a0E I r' hP ne;refine Pmt.Zk (κ:=tuples' true) pl.isList () (λh2 A' h' kp=>Zm (ht.keep kp) h2) λys pm=>?_;have ei:b7=(List.range b7.length).map λi=>b7.getD i .none:=U4 (by simp) λi h1 h2=>by simp[h1]
 obtain⟨qq,pq,eq⟩:=Ğ pm ei;obtain⟨c,hc⟩:=sortedAll_at s.heap b7 ys.toArray;have pq':qq.Perm (List.range vs.length):=by rw[hlen];exact pq
 have mem:∀i∈qq,i<vs.length:=λi hi=>mJ.mp (pq'.mem_iff.mp hi);refine⟨.ref (s⁻¹+1),_,I.laid (t':=s.toks) (o:=.lst (qq.map λi=>vs.getD i .non)) (λb o eo=>sortedAll_old eo) (ye _) ?_,Z,?_⟩
 ·exact⟨by have:=pm.length_eq;have:=pq.length_eq;rw[aJ];simp at this;omega,_,c,by rw[eq];exact Rz r' qq mem,hc⟩
 ·exact q qq _ _ pq' mL (gP.ou (I.hok.fresh (ye _)))
end
end L2
namespace Sm
variable{xs:Array Nat}{k j:Nat}
def Xv(xs:Array Nat)(j k:Nat):Prop:=k<=xs.size/\∀i (h:i<xs.size),xs[i]<j↔i<k
def Xw(h:xs.toList.Pairwise (· < ·)){i:Nat}(hi:i<xs.size)(hk:k<xs.size)(ik:i<k):xs[i]<xs[k]:=by
 have:=ï.mp h i k (by simpa using hi) (by simpa using hk) ik;simpa using this
def RB(h:xs.toList.Pairwise (· < ·)):∀(fuel lo hi:Nat),hi-lo<=fuel->lo<=hi->hi<=xs.size->
  (∀i (z:i<xs.size),i<lo->xs[i]<j)->(∀i (z:i<xs.size),hi<=i->j<=xs[i])->Xv xs j (SetTable.below.go xs j fuel lo hi):=by
 intro fuel
 induction fuel with
 |zero =>
  intro lo hi a b c d e;unfold SetTable.below.go;have:lo=hi:=()
  subst this;exact⟨c,λi z=>⟨λq=>by
   rcases yd i lo with g|g
   ·exact g
   ·have:=e i z g;omega,λq=>d i z q⟩⟩
 |succ f ih =>
  intro lo hi a b c d e;unfold SetTable.below.go;by_cases q:lo<hi
  ·rw[aF q];dsimp only;have m1:lo<=(lo+hi)/2:=()
   have m2:(lo+hi)/2<hi:=()
   have m3:(lo+hi)/2<xs.size:=()
   have ge:xs.getD ((lo+hi)/2) j=xs[(lo+hi)/2]:=by simp[Array.getD,m3]
   rw[ge];by_cases r:xs[(lo+hi)/2]<j
   ·rw[aF r];refine ih _ _ () () c (λi z hi'=>?_) e;rcases yd i ((lo+hi)/2)with g|g
    ·have:=Xw h z m3 g;omega
    ·have:i=(lo+hi)/2:=()
     subst this;exact r
   ·rw[aq r];refine ih _ _ () () () d (λi z hi'=>?_);rcases yd ((lo+hi)/2) i with g|g
    ·have:=Xw h m3 z g;omega
    ·have:i=(lo+hi)/2:=()
     subst this;omega
  ·rw[aq q];have:lo=hi:=()
   subst this;exact⟨c,λi z=>⟨λq=>by
    rcases yd i lo with g|g
    ·exact g
    ·have:=e i z g;omega,λq=>d i z q⟩⟩
def CG(h:xs.toList.Pairwise (· < ·))(j:Nat):Xv xs j (SetTable.below xs j) :=
 RB h _ _ _ () (dh _) (aL _) (λi z q=>absurd q (Ao _)) (λi z q=>absurd z ())
def below_at(h:xs.toList.Pairwise (· < ·))(hk:k<xs.size):SetTable.below xs (xs[k])=k:=by
 obtain⟨a,b⟩:=CG h xs[k];rcases Nat.lt_trichotomy (SetTable.below xs xs[k]) k with g|g|g
 ·have c:=(b (SetTable.below xs xs[k]) ()).mp (Xw h () hk g);omega
 ·exact g
 grind
def V0(h:xs.toList.Pairwise (· < ·)):SetTable.below xs 0=0:=by
 obtain⟨a,b⟩:=CG h 0;rcases Nat.eq_zero_or_pos (SetTable.below xs 0)with g|g
 ·exact g
 grind
def V1(h:xs.toList.Pairwise (· < ·))(hk:k<xs.size):SetTable.below xs (xs[k]+1)=k+1:=by
 obtain⟨a,b⟩:=CG h (xs[k]+1);have c:=(b k hk).mp ();rcases yd (k+1) (SetTable.below xs (xs[k]+1))with g|g
 ·have e:=(b (k+1) ()).mpr g;have:=Xw h hk (show k+1<xs.size by omega) (yc _);omega
 ·omega
def Xx(j:Nat):SetTable.has #[] j=false:=by
 unfold SetTable.has;simp
def Bb{t:SetTable}(dm:t.dummies = #[])(h:j∉t.place.toList):t.slot j=.empty:=by
 unfold SetTable.slot;have e:(t.place[SetTable.below t.place j]?==some j)=false:=by
  rw[wA];intro c;exact h (by simpa using Array.mem_of_getElem? c)
 dsimp only;rw[e,dm,Xx];rfl
def Zq{t:SetTable}(up:t.place.toList.Pairwise (· < ·))(h:j∈t.place.toList):∃i,t.slot j=.live i:=by
 obtain⟨k,hk,e⟩:=qt h;have hk':k<t.place.size:=by simpa using hk
 have e':t.place[k]=j:=by simpa using e
 unfold SetTable.slot;have q:SetTable.below t.place j=k:=by rw[<-e'];exact below_at up hk'
 dsimp only;rw[q];have:(t.place[k]?==some j)=true:=by simp[hk',e']
 rw[this];grind
def adv(mask:Nat)(p:SetTable.Probe):SetTable.Probe :=
 if 0<p.more then{ p with more:=p.more-1,j:=p.j+1}else
 { p with j:=(SetTable.leap mask p.i p.perturb).1,more:=SetTable.runEnd mask (SetTable.leap mask p.i p.perturb).1-(SetTable.leap mask p.i p.perturb).1,i:=(SetTable.leap mask p.i p.perturb).1,perturb:=(SetTable.leap mask p.i p.perturb).2}
def a3w(t:SetTable)(p:SetTable.Probe):t.advance p=adv t.mask p:=by
 unfold SetTable.advance adv;rfl
def nth(mask:Nat)(p:SetTable.Probe):Nat->SetTable.Probe
 |0=>p
 |k+1=>nth mask (adv mask p) k
def Zr(m:Nat)(p:SetTable.Probe):(adv m p).dummy=p.dummy:=by
 unfold adv;split<;>rfl
def ğ{t:SetTable}(dm:t.dummies = #[])(up:t.place.toList.Pairwise (· < ·))(h:Int):∀(k fuel:Nat) (p:SetTable.Probe),k<fuel->p.dummy=none->(nth t.mask p k).j∉t.place.toList->
  ∃j,j∉t.place.toList/\SetTable.probe.go t (λ_=>h+1) h fuel p=some (.empty j none):=by
 intro k
 induction k with
 |zero =>
  intro fuel p hf hd hn;obtain⟨f,rfl⟩:∃f,fuel=f+1:=⟨fuel-1,()⟩;unfold SetTable.probe.go;have hn':p.j∉t.place.toList:=hn;refine⟨p.j,hn',?_⟩;rw[Bb dm hn',hd]
 |succ k ih =>
  intro fuel p hf hd hn;obtain⟨f,rfl⟩:∃f,fuel=f+1:=⟨fuel-1,()⟩;unfold SetTable.probe.go;by_cases c:p.j∈t.place.toList
  ·obtain⟨i,e⟩:=Zq up c;rw[e];dsimp only;have:(h+1==h)=false:=()
   rw[this];rw[a3w];exact ih f (adv t.mask p) () (by rw[Zr];exact hd) hn
  ·rw[Bb dm c,hd];exact⟨p.j,c,Z⟩
def V2(v:Nat):SetTable.Probe:={ j:=v%8,more:=0,i:=v%8,perturb:=v,dummy:=none}
def seven:∀v,v<16->∀j,j<8->∃k,k<16/\(nth 7 (V2 v) k).j=j:=by decide
def Qi{v:Nat}(h:v<16):SetTable.bits (v:Int)=v:=by
 unfold SetTable.bits;omega
def a0F{t:SetTable}(dm:t.dummies = #[])(up:t.place.toList.Pairwise (· < ·)){v:Nat}(hk:k<10*SetTable.turns t.mask)(hn:(nth t.mask (t.probeStart (v:Int)) k).j∉t.place.toList) :
  ∃j,j∉t.place.toList/\t.freeSlot (v:Int)=some (j,false):=by
 obtain⟨j,hj,e⟩:=ğ dm up (v:Int) k (10*SetTable.turns t.mask) (t.probeStart (v:Int)) hk Z hn;refine⟨j,hj,?_⟩;unfold SetTable.freeSlot SetTable.probe;rw[e];rfl
theorem V3:∀(l m:List Nat),l.Nodup->(∀x∈l,x∈m)->l.length<=m.length
 | [],_,_,_=>dh _
 |a::r,m,nd,h=>by
  have am:a∈m:=h a aO
  obtain⟨n1,n2⟩:=iD.mp nd
  have q:=V3 r (m.erase a) n2 λx hx=>(List.mem_erase_of_ne (λe=>n1 ())).mpr (h x (aY _ hx))
  grind
def a3x{l:List Nat}(h:l.length<=4):∃j,j<8/\j∉l:=by
 apply ð;intro c;have q:∀j,j<8->j∈l:=λj hj=>ð λd=>c ⟨j,hj,d⟩;have:=V3 (List.range 8) l List.nodup_range (λj hj=>q j (mJ.mp hj));grind
def Ġ{t:SetTable}(dm:t.dummies = #[]){v:Nat}(hv:v<16)(hm:15<=t.mask)(hn:v∉t.place.toList):t.freeSlot (v:Int)=some (v,false):=by
 unfold SetTable.freeSlot SetTable.probe;have e:(t.probeStart (v:Int)).j=v:=by
  unfold SetTable.probeStart;dsimp only;rw[Qi hv];exact Nat.mod_eq_of_lt ()
 obtain⟨f,hf⟩:∃f,10*SetTable.turns t.mask=f+1:=⟨10*SetTable.turns t.mask-1,by unfold SetTable.turns;omega⟩;rw[hf];unfold SetTable.probe.go;rw[e,Bb dm hn];rfl
def Es(es:Array (Int×Value))(L:List Nat):Prop:=Paired (λe v=>e.1=((v:Nat):Int)/\∃tk,e.2=Value.int ((v:Nat):Int) tk) es.toList L
structure Tb(B:Bool)(t:SetTable)(L:List Nat):Prop where
 dm:t.dummies = #[]
 pl:t.plain=true
 led:t.led = !B
 up:t.place.toList.Pairwise (· < ·)
 sz:t.place.size=L.length
 nd:L.Nodup
 lt:∀v∈L,v<16
 sh:(t.mask=7/\L.length<=4)\/(15<=t.mask/\t.place.toList=L/\L.length*5<t.mask*3)
def a3y(up:xs.toList.Pairwise (· < ·))(h:j∉xs.toList):(SetTable.insertAt xs (SetTable.below xs j) j).toList.Pairwise (· < ·):=by
 obtain⟨a,b⟩:=CG up j;rw[Ii];have z:∀i (hi:i<xs.toList.length),xs.toList[i]<j↔i<SetTable.below xs j:=λi hi=>by
  have:=b i (by simpa using hi);simpa using this
 rw[Uq];refine⟨up.sublist (Oq _ _),?_,?_⟩
 ·rw[Ai];refine⟨λy hy=>?_,up.sublist (List.drop_sublist _ _)⟩;obtain⟨i,hi,e⟩:=qt hy;grind
 ·intro x hx y hy;obtain⟨i,hi,e⟩:=qt hx;rw[List.getElem_take]at e;have hl:i<xs.toList.length:=()
  have hb:i<SetTable.below xs j:=()
  have x1:x<j:=()
  rcases cB.mp hy with rfl|hy
  ·exact x1
  ·obtain⟨k,hk,e2⟩:=qt hy;grind
def Es.len{es:Array (Int×Value)}{L:List Nat}(h:Es es L):es.size=L.length:=by
 have:=aM h;grind
theorem Gd{α β:Type}{R:α->β->Prop}:∀{xs:List α}{ys:List β} (n:Nat),Paired R xs ys->Paired R (xs.take n) (ys.take n)
 |_,_,0,_=>.nil
 |_,_,_+1,.nil=>.nil
 |_,_,n+1,.cons r t=>.cons r (Gd n t)
theorem Ge{α β:Type}{R:α->β->Prop}:∀{xs:List α}{ys:List β} (n:Nat),Paired R xs ys->Paired R (xs.drop n) (ys.drop n)
 |_,_,0,r=>r
 |_,_,_+1,.nil=>.nil
 |_,_,n+1,.cons _ t=>Ge n t
def lK{α β:Type}{R:α->β->Prop}{xs xs':List α}{ys ys':List β}(h:Paired R xs ys)(q:Paired R xs' ys'):Paired R (xs++xs') (ys++ys'):=by
 induction h with
 |nil=>exact q
 |cons a _ ih=>exact .cons a ih
def bf{α β:Type}{R:α->β->Prop}{xs:List α}{ys:List β}(p:Paired R xs ys)(i:Nat)(h:i<ys.length):∃x,xs[i]?=some x/\R x ys[i]:=by
 induction p generalizing i with
 |nil=>cases h
 |cons r _ ih =>
  cases i with
  |zero=>exact⟨_,Z,r⟩
  |succ i=>exact ih i (Uj h)
def a3z{B:Bool}{t:SetTable}{L:List Nat}{es:Array (Int×Value)}{v:Nat}{x:Value}(T:Tb B t L)(hE:Es es L)(hv:v<16)(hn:v∉L)(hx:∃tk,x=Value.int ((v:Nat):Int) tk) :
  ∃t1 es1 p,layNew t es ((v:Nat):Int) x=(es1,t1,false,false)/\Es es1 (L.take p++v::L.drop p)/\t1.dummies = #[]/\t1.plain=true/\(t1.led = !B)/\t1.mask=t.mask/\t1.finger=t.finger/\t1.moves=t.moves/\
   t1.place.toList.Pairwise (· < ·)/\t1.place.size=L.length+1/\(15<=t.mask->t1.place.toList=L.take p++v::L.drop p):=by
 have main:∃j,j∉t.place.toList/\t.freeSlot ((v:Nat):Int)=some (j,false)/\(15<=t.mask->j=v):=by
  rcases T.sh with⟨m7,l4⟩|⟨Xy,pe,fl⟩
  ·have lp:t.place.toList.length<=4:=by rw[rY,T.sz];exact l4
   obtain⟨j,hj,nj⟩:=a3x lp;obtain⟨k,hk,e⟩:=seven v hv j hj;have st:t.probeStart ((v:Nat):Int)=V2 v:=by
    unfold SetTable.probeStart V2;rw[Qi hv,m7];unfold SetTable.runEnd;have:¬v%(7+1)+9<=7:=()
    simp only[if_neg this];simp
   obtain⟨j',hj',e'⟩:=a0F (v:=v) (k:=k) T.dm T.up (by unfold SetTable.turns;omega) (by rw[st,m7,e];exact nj);exact⟨j',hj',e',λc=>by omega⟩
  ·have nv:v∉t.place.toList:=by rw[pe];exact hn
   exact⟨v,nv,Ġ T.dm hv Xy nv,λ_=>rfl⟩
 obtain⟨j,nj,ef,ej⟩:=main;have sz1:(SetTable.insertAt t.place (SetTable.below t.place j) j).size=L.length+1:=by
  have:=congrArg List.length (Ii t.place (SetTable.below t.place j) j);rw[rY]at this;rw[this,cA,jE,d7,j6,rY,T.sz];omega
 have es1:(SetTable.insertAt es (SetTable.below t.place j) (((v:Nat):Int),x)).size=L.length+1:=by
  have:=congrArg List.length (Ii es (SetTable.below t.place j) (((v:Nat):Int),x));rw[rY]at this;rw[this,cA,jE,d7,j6,rY,hE.len];omega
 have mk:L.length+1<=t.mask:=by
  rcases T.sh with⟨m7,l4⟩|⟨Xy,pe,fl⟩<;>omega
 refine⟨{ t with place:=SetTable.insertAt t.place (SetTable.below t.place j) j},SetTable.insertAt es (SetTable.below t.place j) (((v:Nat):Int),x),SetTable.below t.place j,?_,?_,T.dm,T.pl,T.led,rfl,rfl,rfl,a3y T.up nj,sz1,?_⟩
 ·unfold layNew;rw[ef];dsimp only;unfold SetTable.put;have hd:SetTable.has t.dummies j=false:=by rw[T.dm];exact Xx j
  dsimp only;rw[hd];have ft:SetTable.fits { t with place:=SetTable.insertAt t.place (SetTable.below t.place j) j} (SetTable.insertAt es (SetTable.below t.place j) (((v:Nat):Int),x)).size=true:=by
   unfold SetTable.fits SetTable.fill;dsimp only;rw[sz1,es1,T.dm];simp;omega
  unfold SetTable.orStandIn;simp only[if_false,Bool.false_eq_true];rw[aF ft,ft];rfl
 ·unfold Es;rw[Ii];exact lK (Gd _ hE) (.cons ⟨Z,hx⟩ (Ge _ hE))
 ·intro hm;dsimp only;have:=ej hm;subst this;rcases T.sh with⟨m7,l4⟩|⟨Xy,pe,fl⟩
  ·omega
  ·rw[Ii,pe]
end Sm
namespace Sm
variable{L:List Nat}{m f n:Nat}{es:Array (Int×Value)}
def ġ(m:Nat)(owner:Array (Option Nat))(L:List Nat):Prop:=owner.size=m+1/\∀j,j<=m->owner.getD j none=if j∈L then some (L.idxOf j)else none
def Ģ{owner:Array (Option Nat)}(Z96:ġ m owner L){v:Nat}(hv:v<=m)(hn:v∉L):SetTable.layClean.free m owner (f+1) v v=some v:=by
 unfold SetTable.layClean.free;obtain⟨k,hk⟩:∃k,SetTable.runEnd m v+1-v=k+1:=⟨SetTable.runEnd m v-v,by unfold SetTable.runEnd;split<;>omega⟩;rw[hk,List.range_succ_eq_map];have g:owner.getD (v+0) (some 0)=none:=by
  have a:=Z96.2 v hv;rw[aq hn]at a;have hs:v<owner.size:=by rw[Z96.1];omega
  simp[Array.getD,hs]at a ⊢;exact a
 rw[uX (by rw[g];rfl)];rfl
def ģ(hm:15<=m):∀(R L:List Nat) (owner:Array (Option Nat)),ġ m owner L->(L++R).Nodup->(∀v∈R,v<16)->
  ∃Ĥ,ġ m Ĥ (L++R)/\(R.map λv=>((v:Nat):Int)).foldl (λ(acc:Option (Array (Option Nat)×Nat)) h=>do
   let(owner,k) <-acc
   let j <-SetTable.layClean.free m owner (SetTable.turns m) (SetTable.bits h%(m+1)) (SetTable.bits h)
   pure (owner.setIfInBounds j (some k),k+1)) (some (owner,L.length))=some (Ĥ,(L++R).length):=by
 intro R
 induction R with
 |nil=>grind
 |cons v R ih =>
  intro L owner Z96 nd hlt;have hv:v<16:=hlt v aO;have hn:v∉L:=λc=>by
   grind
  have O':ġ m (owner.setIfInBounds v (some L.length)) (L++[v]):=by
   refine⟨by rw[Array.size_setIfInBounds];exact Z96.1,λj hj=>?_⟩;have hs:v<owner.size:=by rw[Z96.1];omega
   have hs':j<owner.size:=by rw[Z96.1];omega
   have a:=Z96.2 j hj;by_cases e:j=v
   ·subst e;rw[aF (iz _ (bJ.mpr Z)),List.idxOf_append,aq hn];simp[Array.getD,hs]
   ·have e1:(owner.setIfInBounds v (some L.length)).getD j none=owner.getD j none:=by
     simp only[Array.getD,Array.size_setIfInBounds,hs'];simp[Array.getElem_setIfInBounds,hs',Ne.symm e]
    grind
  obtain⟨o2,O2,e2⟩:=ih (L++[v]) _ O' () (λu hu=>hlt u (aY _ hu));refine⟨o2,(),?_⟩;rw[bV,List.foldl_cons];have st:(do
   let(owner,k) <-some (owner,L.length);let j <-SetTable.layClean.free m owner (SetTable.turns m) (SetTable.bits ((v:Nat):Int)%(m+1)) (SetTable.bits ((v:Nat):Int))
   pure (owner.setIfInBounds j (some k),k+1):Option (Array (Option Nat)×Nat))=some (owner.setIfInBounds v (some L.length),(L++[v]).length):=by
   rw[Qi hv,Nat.mod_eq_of_lt ()];have:SetTable.turns m=(m+14)+1:=rfl;rw[this];show(SetTable.layClean.free m owner (m+14+1) v v).bind _=_;rw[Ģ Z96 () hn];simp
  grind
def upTo(m:Nat)(L:List Nat):List Nat:=(List.range (m+1)).filter λj=>decide (j∈L)
def Qj(m:Nat)(L:List Nat):(upTo m L).Pairwise (· < ·):=Io _ List.pairwise_lt_range
def mem_upTo(h:∀v∈L,v<=m){j:Nat}:j∈upTo m L↔j∈L:=by
 unfold upTo;grind
def Gf(h:L.Pairwise (· < ·)):L.Nodup:=h.imp λh=>bY h
def zy(h:∀v∈L,v<=m)(nd:L.Nodup):(upTo m L).Perm L :=
 (Ig (Gf (Qj m L)) nd).mpr λj=>mem_upTo h
def a0G(nd:L.Nodup):L.map (λv=>L.idxOf v)=List.range L.length:=by
 apply U4
 ·simp
 grind
theorem ĥ{α β:Type}(p:α->Bool)(f:α->β):∀l:List α,l.filterMap (λa=>if p a=true then some (f a)else none)=(l.filter p).map f
 | []=>rfl
 |a::r=>by
  rw[OD]
  cases e:p a with
  |true=>rw[N6 (b:=f a) (by rw[e];rfl),ĥ p f r];simp
  |false=>rw[List.filterMap_cons_none (by rw[e];rfl),ĥ p f r];simp
theorem RD{α β:Type}{f g:α->Option β}:∀{l:List α},(∀a∈l,f a=g a)->l.filterMap f=l.filterMap g
 | [],_=>rfl
 |a::r,h=>by
  have e:=h a aO
  have q:=RD (l:=r) λb hb=>h b (aY _ hb)
  grind
def Es.hashes(h:Es es L):(es.map (·.1)).toList=L.map λv=>((v:Nat):Int):=by
 rw[Array.toList_map];unfold Es at h;generalize es.toList=l at h
 induction h with
 |nil=>rfl
 |cons r _ ih=>grind
def Es.at{es:Array (Int×Value)}{L:List Nat}(h:Es es L){v:Nat}(hv:v∈L):∃e,es[L.idxOf v]?=some e/\e.1=((v:Nat):Int)/\∃tk,e.2=Value.int ((v:Nat):Int) tk:=by
 have hi:=NT hv;obtain⟨x,e,q⟩:=bf h (L.idxOf v) hi;rw[List.getElem_idxOf hi]at q;exact⟨x,by simpa using e,q⟩
theorem a2r{es:Array (Int×Value)}{L:List Nat}(h:Es es L):∀S:List Nat,(∀v∈S,v∈L)->Paired (λe v=>e.1=((v:Nat):Int)/\∃tk,e.2=Value.int ((v:Nat):Int) tk) ((S.map λv=>L.idxOf v).filterMap λi=>es[i]?) S
 | [],_=>.nil
 |v::S,hs=>by
  obtain⟨e,a,b⟩:=h.at (hs v aO)
  rw[bV,N6 a]
  exact .cons b (a2r h S λu hu=>hs u (aY _ hu))
def Qk{mv:Nat}{led plain:Bool}(hm:15<=m)(hE:Es es L)(nd:L.Nodup)(hlt:∀v∈L,v<16) :
  ∃order:Array Nat,SetTable.laid m f mv led plain (es.map (·.1))=some ({ mask:=m,place:=(upTo m L).toArray,dummies:=#[],finger:=f,led:=led,moves:=mv,plain:=plain},order)/\
   Es (order.filterMap (es[·]?)) (upTo m L)/\coversAll order es.size=true:=by
 have hle:∀v∈L,v<=m:=λv hv=>by grind
 have O0:ġ m (Array.replicate (m+1) none) []:=⟨by simp,λj hj=>by simp[Array.getD]⟩;obtain⟨ow,Z96,e⟩:=ģ hm L [] _ O0 (by simpa using nd) hlt;rw[List.nil_append]at Z96 e;have ec:SetTable.layClean m (es.map (·.1))=some ow:=by
  unfold SetTable.layClean;rw[<-Array.foldl_toList,hE.hashes];grind
 have lv:(List.range (m+1)).filterMap (λj=>(ow.getD j none).map λk=>(j,k))=(upTo m L).map λj=>(j,L.idxOf j):=by
  unfold upTo;rw[<-ĥ];apply RD;intro j hj;rw[Z96.2 j ()];grind
 refine⟨((upTo m L).map λj=>L.idxOf j).toArray,?_,?_,?_⟩
 ·unfold SetTable.laid;rw[ec];show some _=some _;have:(List.range (m+1)).filterMap (λj=>(ow.getD j none).map (j,·))=(upTo m L).map λj=>(j,L.idxOf j):=lv;rw[this,j9,j9];have i1:((λ(x:Nat×Nat)=>x.1)∘λj=>(j,L.idxOf j))=λj=>j:=rfl;have i2:((λ(x:Nat×Nat)=>x.2)∘λj=>(j,L.idxOf j))=λj=>L.idxOf j:=rfl;rw[i1,i2,List.map_id']
 ·unfold Es;rw[Array.toList_filterMap];exact a2r hE (upTo m L) λv hv=>(mem_upTo hle).mp hv
 ·unfold coversAll;rw[List.isPerm_iff,hE.len];have p:=(zy hle nd).map λv=>L.idxOf v;rw[a0G nd]at p;exact p
def V4(h:∀v∈L,v<16)(hm:15<=m)(nd:L.Nodup):(upTo m L).length=L.length:=(zy (λv hv=>by grind) nd).length_eq
def CJ(h:n<2^40):n<SetTable.sizeAbove n:=by
 have go:∀fuel size,n<size*2^fuel->n<SetTable.sizeAbove.go n fuel size:=by
  intro fuel
  induction fuel with
  |zero=>intro size h;unfold SetTable.sizeAbove.go;simpa using h
  |succ f ih =>
   intro size h;unfold SetTable.sizeAbove.go;grind
 exact go 64 8 ()
def CK(h:8<=n):16<=SetTable.sizeAbove n:=by
 have go:∀fuel size,16<=size->16<=SetTable.sizeAbove.go n fuel size:=by
  intro fuel
  induction fuel with
  |zero=>intro size h;unfold SetTable.sizeAbove.go;exact h
  |succ f ih =>
   intro size h;unfold SetTable.sizeAbove.go;grind
 unfold SetTable.sizeAbove;unfold SetTable.sizeAbove.go;grind
def Tb.fits{B:Bool}{t:SetTable}{L:List Nat}(T:Tb B t L):t.fits L.length=true:=by
 unfold SetTable.fits SetTable.fill;have:=T.sz;rw[T.dm];rcases T.sh with⟨a,b⟩|⟨a,b,c⟩<;>simp[this]<;>omega
def Ql{B:Bool}{mv:Nat}(hm:15<=m)(nd:L.Nodup)(hlt:∀v∈L,v<16)(hr:L.length*5<m*3) :
  Tb B { mask:=m,place:=(upTo m L).toArray,dummies:=#[],finger:=f,led:=!B,moves:=mv,plain:=true} (upTo m L) where
 dm:=rfl
 pl:=rfl
 led:=rfl
 up:=by simpa using Qj m L
 sz:=by simp
 nd:=Gf (Qj m L)
 lt:=λv hv=>hlt v ((mem_upTo (λv hv=>by grind)).mp hv)
 sh:=.inr ⟨hm,by simp,by rw[V4 hlt hm nd];exact hr⟩
def Ħ{B:Bool}{t:SetTable}(hp:t.plain=true)(hl:t.led = !B)(hE:Es es L)(nd:L.Nodup)(hlt:∀v∈L,v<16)(hn:8<=n)(h2:2*L.length<=n)(hb:n<2^40) :
  ∃es' t' L',relayAll t es n=(es',t',false)/\Es es' L'/\Tb B t' L'/\L'.Perm L:=by
 have a1:=CJ hb;have a2:=CK hn;have hm:15<=SetTable.sizeAbove n-1:=()
 obtain⟨order,e,hE',hc⟩:=Qk (f:=t.finger) (mv:=t.movedTo (SetTable.sizeAbove n-1)) (led:=!B) (plain:=true) hm hE nd hlt;have T:=Ql (B:=B) (f:=t.finger) (mv:=t.movedTo (SetTable.sizeAbove n-1)) hm nd hlt ();refine⟨_,_,_,?_,hE',T,zy (λv hv=>by have:=hlt v hv;omega) nd⟩;unfold relayAll SetTable.relaid;rw[hp,hl,e];dsimp only;have z:=hE'.len;rw[hc,z,T.fits];rfl
end Sm
namespace Sm
variable{L:List Nat}{es:Array (Int×Value)}{h:Heap}{a:Addr}{B:Bool}{tk:Nat}
abbrev lY(es:Array (Int×Value))(ep:Nat)(t:SetTable):Obj:={ cls:=.type "set",dict:=none,data:=.set es ep t,slots:=#[]}
def jw(B:Bool)(h:Heap)(a:Addr)(L:List Nat):Prop:=∃es ep t,h.get? a=some (lY es ep t)/\Es es L/\Tb B t L
def rC(h:Heap)(a:Addr):Prop:=∃es ep t,h.get? a=some (lY es ep t)/\(t.mask=7\/5<=es.size)
def rC.keep{h':Heap}(S:rC h a)(k:∀o,h.get? a=some o->h'.get? a=some o):rC h' a :=
 let⟨es,ep,t,ho,r⟩:=S;⟨es,ep,t,k _ ho,r⟩
def jw.keep{h':Heap}(S:jw B h a L)(k:∀o,h.get? a=some o->h'.get? a=some o):jw B h' a L :=
 let⟨es,ep,t,ho,r⟩:=S;⟨es,ep,t,k _ ho,r⟩
def Tb.len{t:SetTable}(T:Tb B t L):L.length<=16:=by
 have:=V3 L (List.range 16) T.nd λx hx=>mJ.mpr (T.lt x hx);simpa using this
def V5:∀v:Nat,v<16->hashInt ((v:Nat):Int)=((v:Nat):Int):=by decide
def Es.elems{prog:Program}{w:World}(h:Es es L)(lt:∀v∈L,v<16):ElemsOf (intKind prog w) es.toList:=by
 unfold Es at h;generalize es.toList=l at h
 induction h with
 |nil=>intro e he;simp at he
 | @cons x y xs ys r _ ih =>
  intro e he;rcases cB.mp he with rfl|he
  ·obtain⟨tk,e2⟩:=r.2;refine⟨⟨((y:Nat):Int),?_,?_⟩,?_⟩
   ·show Value.isInt _ _=true;rw[e2];simp[Value.isInt]
   ·rw[r.1];exact(V5 y (lt y aO)).symm
   ·rw[e2];rfl
  ·exact ih (λv hv=>lt v (aY _ hv)) e he
def Es.find(h:Es es L)(v:Nat):(es.toList.findIdx? λe=>Value.isInt ((v:Nat):Int) e.2).isSome=decide (v∈L):=by
 unfold Es at h;generalize es.toList=l at h
 induction h with
 |nil=>simp
 | @cons x y xs ys r _ ih =>
  obtain⟨tk,e2⟩:=r.2;rw[List.findIdx?_cons,e2];by_cases c:v=y
  ·subst c;simp[Value.isInt]
  ·have:Value.isInt ((v:Nat):Int) (.int ((y:Nat):Int) tk)=false:=by simp[Value.isInt];omega
   grind
section
variable{prog:Program}{w:World}{A:Around}{E:Value->Shared->Prop}{s:Shared}
def a0H{ep:Nat}{t:SetTable}{v:Nat}{ad:Bool}{Q:ScanMet->Shared->Prop}(ho:s.heap.get? a=some (lY es ep t))(hE:Es es L)(T:Tb B t L)(hv:v<16)
  (h1:v∈L->∀j,Q (.found j) s) (h2:v∉L->Q .absent s):wpAny (model prog w) A (setScan a (.int ((v:Nat):Int) tk) ((v:Nat):Int) ad es) Q E s:=by
 have hf:t.fits es.size=true:=by rw[hE.len];exact T.fits
 have sc:=wpAny_setScan_of (prog:=prog) (w:=w) (A:=A) (E:=E) (s:=s) (knd:=intKind prog w) (k:=((v:Nat):Int)) (x:=.int ((v:Nat):Int) tk) (adding:=ad) (Q:=Q) (by simp[intKind,Value.isInt]) ho Z hf (hE.elems T.lt) (by
  have q:=hE.find v;have e:(λe:Int×Value=>(intKind prog w).is ((v:Nat):Int) e.2)=λe=>Value.isInt ((v:Nat):Int) e.2:=rfl;grind)
 have e:(intKind prog w).hash ((v:Nat):Int)=((v:Nat):Int):=V5 v hv;grind
def zA{es':Array (Int×Value)}{ep:Nat}{t t':SetTable}(ho:h.get? a=some (lY es ep t)):(h.update a (Obj.putSet es' t')).get? a=some (lY es' (ep+1) t'):=by
 have:=Af (Obj.putSet es' t') ho (by rw[putSet_of es' t' rfl];rfl);rw[putSet_of es' t' rfl]at this;exact this
def a0I(prog:Program)(w:World){t:SetTable}{v:Nat}(hE:Es es L)(T:Tb B t L):byScan (.int ((v:Nat):Int) tk) es=true :=
 byScan_of (knd:=intKind prog w) Z (by rw[hE.len];have:=T.len;unfold scanBound;omega) (hE.elems T.lt)
def ħ{v:Nat}{Q:Bool->Shared->Prop}(S:jw B s.heap a L)(hv:v<16)
  (h:∀b h' L',Heap.SameBut a s.heap h'->jw B h' a L'->(∀u,u∈L'↔u=v\/u∈L)->(rC s.heap a->rC h' a)->Q b { s with heap:=h'}) :
  wpAny (model prog w) A (setAddHashed a (.int ((v:Nat):Int) tk) ((v:Nat):Int)) Q E s:=by
 obtain⟨es,ep,t,ho,hE,T⟩:=S;have hf:t.fits es.size=true:=by rw[hE.len];exact T.fits
 unfold setAddHashed setAddHashedIn;refine eU (M (wpAny_setState_of ho Z hf ?_));dsimp only;rw[a0I prog w hE T];simp only[↓reduceIte];unfold setAddByScan;refine M (M (kh (M (a0H ho hE T hv (λhm j=>?_) λhm=>?_))))
 ·dsimp only;refine ao (ao ?_);have q:=h false s.heap L (Ov a s.heap) ⟨es,ep,t,ho,hE,T⟩ (λu=>⟨.inr,λc=>c.elim (λe=>e▸hm) id⟩) id;exact q
 ·dsimp only;obtain⟨t1,es1,p,e1,hE1,dm,pl,ld,mk,_,_,up,sz,own⟩:=a3z (x:=.int ((v:Nat):Int) tk) T hE hv hm ⟨tk,Z⟩;rw[e1];dsimp only;refine M (ao ?_);rw[pl];refine M (ao ?_);simp only[↓reduceIte];have mem:∀u,u∈L.take p++v::L.drop p↔u=v\/u∈L:=λu=>by
   rw[cJ,cB];have e:u∈L↔u∈L.take p\/u∈L.drop p:=by rw[<-cJ,uY]
   rw[e];constructor
   ·rintro(c|c|c)
    ·exact .inr (.inl c)
    ·exact .inl c
    ·exact .inr (.inr c)
   ·rintro(c|c|c)
    ·exact .inr (.inl c)
    ·exact .inl c
    ·exact .inr (.inr c)
  have nd1:(L.take p++v::L.drop p).Nodup:=by
   have pm:(L.take p++v::L.drop p).Perm (v::L):=by
    have:L.take p++L.drop p=L:=uY p L;exact List.perm_middle.trans (by rw[this])
   exact pm.nodup_iff.mpr (iD.mpr ⟨hm,T.nd⟩)
  have lt1:∀u∈L.take p++v::L.drop p,u<16:=λu hu=>((mem u).mp hu).elim (λe=>e▸hv) (T.lt u);have ln1:(L.take p++v::L.drop p).length=L.length+1:=by
   rw[cA,jE,d7,j6];omega
  have fl:t1.fill=L.length+1:=by unfold SetTable.fill;rw[dm,sz];rfl
  have l16:=T.len;have z1:es1.size=L.length+1:=by rw[hE1.len,ln1]
  refine M (Iu ho Z ?_ (by rw[z1,iU];omega));have ho1:=zA (es':=es1) (t':=t1) ho;cases tf:t1.tooFull with
  |false =>
   simp only[Bool.not_false,Bool.and_false,Bool.false_eq_true,if_false];refine ao (ao ?_);refine h true _ _ (nA ..) ⟨es1,ep+1,t1,ho1,hE1,⟨dm,pl,ld,up,by rw[ln1,sz],nd1,lt1,?_⟩⟩ mem (λ⟨es0,ep0,t0,ho0,d⟩=>⟨es1,ep+1,t1,ho1,by
    rw[ho]at ho0;cases ho0;rw[mk,z1];have:=hE.len;omega⟩)
   unfold SetTable.tooFull at tf;have tf':=Ux tf;rw[fl,mk]at tf';rw[ln1,mk];rcases T.sh with⟨m7,l4⟩|⟨Xy,pe,_⟩
   ·refine .inl ⟨m7,()⟩
   ·exact .inr ⟨Xy,own Xy,()⟩
  |true =>
   simp only[Bool.not_false,Bool.and_self,if_true];unfold SetTable.tooFull at tf;have tf':=gj tf;rw[fl,mk]at tf';have five:5<=L.length+1:=by
    rcases T.sh with⟨m7,l4⟩|⟨Xy,pe,_⟩<;>omega
   have gr:SetTable.grown es1.size=(L.length+1)*4:=by
    unfold SetTable.grown;rw[z1,aq ()]
   obtain⟨es2,t2,L2,e2,hE2,T2,pm⟩:=Ħ (t:=t1) (n:=SetTable.grown es1.size) pl ld hE1 nd1 lt1 (by rw[gr];omega) (by rw[gr,ln1];omega) (by rw[gr];omega);rw[e2];dsimp only;refine M (ao ?_);refine M (Iu ho1 Z ?_ (by rw[hE2.len,pm.length_eq,ln1,iU];omega));refine ao (ao ?_);exact h true _ L2 ((nA ..).trans (nA ..)) ⟨es2,_,t2,zA ho1,hE2,T2⟩ (λu=>(pm.mem_iff).trans (mem u)) λ_=>⟨es2,_,t2,zA ho1,.inr (by rw[hE2.len,pm.length_eq,ln1];exact five)⟩
end
end Sm
namespace Sm
variable{es:Array (Int×Value)}{ep:Nat}
abbrev qe(w:World):Bool:=w.params.followText "set-order"
theorem Ju{α:Type}:∀(l:List α) (i:Nat) (h:i<l.length),(l[i]::l.eraseIdx i).Perm l
 |_::r,0,_=>.refl _
 |x::r,i+1,h=>by
  have q:=Ju r i (by simpa using h)
  rw[List.getElem_cons_succ,List.eraseIdx_cons_succ]
  exact(List.Perm.swap x (r[i]'(by simpa using h)) (r.eraseIdx i)).trans (q.cons x)
def a0J{α:Type}(nx:Nat->Nat):∀(fuel k:Nat) (left:List α) (out:Array α),left.length<=fuel->(pickOrder.go nx fuel k left out).toList.Perm (out.toList++left):=by
 intro fuel
 induction fuel with
 |zero =>
  intro k left out h;have:left=[]:=N8.mp ();subst this;unfold pickOrder.go;simp
 |succ f ih =>
  intro k left out h;unfold pickOrder.go;by_cases c:left=[]
  ·subst c;simp
  ·have pos:0<left.length:=List.length_pos_iff.mpr c;have lt:=Nat.mod_lt (nx k) pos;rw[bH lt];dsimp only;refine(ih (k+1) _ _ ()).trans ?_;rw[Array.toList_push,xY];exact List.Perm.append_left _ (Ju left _ lt)
def zB{α:Type}(nx:Nat->Nat)(xs:Array α):(pickOrder nx xs).toList.Perm xs.toList:=by
 have:=a0J nx xs.size 0 xs.toList #[] (by simp);unfold pickOrder;simpa using this
def Xz(a:Addr):setWalk a=(do
 let(xs,c,tb) <-setState a
 if <-setsByText then
  let q <-ask
  return pickOrder (q.params.setOrder a c) xs
 if !tb.plain&&xs.size>1 then return (<-drawOrder xs.size xs.toList).toArray
 (do if !tb.led&&xs.size>1 then unsupported "set:maker-not-led" : Sem Unit)
 return xs):=rfl
def Es.perm{L:List Nat}(h:Es es L){es':List (Int×Value)}(p:es'.Perm es.toList):∃L',Paired (λe v=>e.1=((v:Nat):Int)/\∃tk,e.2=Value.int ((v:Nat):Int) tk) es' L'/\L'.Perm L:=by
 refine⟨es'.map λe=>e.1.toNat,?_,?_⟩
 ·have all:∀e∈es.toList,∃v:Nat,e.1=((v:Nat):Int)/\∃tk,e.2=Value.int ((v:Nat):Int) tk:=by
   unfold Es at h;generalize es.toList=l at h;clear p
   induction h with
   |nil=>intro e he;simp at he
   |cons r _ ih =>
    intro e he;rcases cB.mp he with rfl|he
    ·exact⟨_,r⟩
    ·exact ih e he
  have all':∀e∈es',∃v:Nat,e.1=((v:Nat):Int)/\∃tk,e.2=Value.int ((v:Nat):Int) tk:=λe he=>all e (p.mem_iff.mp he);clear p
  induction es' with
  |nil=>exact .nil
  |cons e r ih =>
   obtain⟨v,e1,e2⟩:=all' e aO;rw[bV];refine .cons ?_ (ih λx hx=>all' x (aY _ hx));rw[e1];exact⟨Z,e2⟩
 ·refine(p.map λe=>e.1.toNat).trans ?_;unfold Es at h;generalize es.toList=l at h;have:l.map (λe=>e.1.toNat)=L:=by
   induction h with
   |nil=>rfl
   |cons r _ ih=>rw[bV,ih,r.1];rfl
  rw[this]
section
variable{prog:Program}{w:World}{A:Around}{E:Value->Shared->Prop}{s:Shared}{a:Addr}{L:List Nat}
def jH{t:SetTable}{B:Bool}{Q:(Array (Int×Value)×Nat×SetTable)->Shared->Prop}(ho:s.heap.get? a=some (lY es ep t))(hE:Es es L)(T:Tb B t L)(h:Q (es,ep,t) s) :
  wpAny (model prog w) A (setState a) Q E s:=wpAny_setState_of ho Z (by rw[hE.len];exact T.fits) h
def tG{Q:Bool->Shared->Prop}(h:Q (qe w) s):wpAny (model prog w) A setsByText Q E s:=by
 unfold setsByText;exact M (OJ (ao h))
def walk_at{t:SetTable}{Q:Array (Int×Value)->Shared->Prop}(ho:s.heap.get? a=some (lY es ep t))(hE:Es es L)(T:Tb (qe w) t L)
  (h:∀es',es'.toList.Perm es.toList->Q es' s):wpAny (model prog w) A (setWalk a) Q E s:=by
 rw[Xz];refine M (jH ho hE T (M (tG ?_)));have pl:=T.pl;have ld:=T.led;cases c:qe w with
 |true =>
  simp only[if_true];exact M (OJ (ao (h _ (zB _ _))))
 |false =>
  rw[c]at ld;simp only[pl,ld,Bool.not_true,Bool.not_false,Bool.false_and,Bool.false_eq_true,if_false];first|exact M (ao (ao (h _ .rfl)))|exact ao (h _ .rfl)
def Zt{t:SetTable}{others:List Addr}{f:Option Addr}{Q:Array (Int×Value)->Shared->Prop}(ho:s.heap.get? a=some (lY es ep t))(hE:Es es L)(T:Tb (qe w) t L)
  (h:∀es',es'.toList.Perm es.toList->Q es' s):wpAny (model prog w) A (setWalkUnseen a others f) Q E s:=by
 unfold setWalkUnseen;refine M (jH ho hE T (M (tG ?_)));have e:(qe w||(t.led&&t.plain)||decide (es.size<=1))=true:=by rw[T.led,T.pl];grind
 dsimp only;rw[aF e];exact walk_at ho hE T h
def XC(es:Array (Int×Value))(laid:Option (SetTable×Array Nat)):Sem (Array (Int×Value)×SetTable):=do
 let some (t,order):=laid
  |unsupported "internal:set-table-without-room"
 if(order.filterMap (es[·]?)).size != es.size then unsupported "internal:set-table-lost-an-element"
 pure (order.filterMap (es[·]?),t)
def Ĩ(a:Addr)(n:Nat):setRelay a n=(do
 let(es,_,t) <-setState a
 if SetTable.sizeAbove n>sizeLine then unsupported "set:memory"
 let(es,t) <-XC es (t.relaid (es.map (·.1)) n)
 storeSet a es t):=rfl
def RG{t:SetTable}{order:Array Nat}{S:List Nat}{Q:Array (Int×Value)×SetTable->Shared->Prop}(hE':Es (order.filterMap (es[·]?)) S)(hz:es.size=S.length)(h:Q (order.filterMap (es[·]?),t) s) :
  wpAny (model prog w) A (XC es (some (t,order))) Q E s:=by
 unfold XC;dsimp only;have e:((order.filterMap (es[·]?)).size != es.size)=false:=by rw[hE'.len,hz];simp
 simp only[e,Bool.false_eq_true,if_false];first|exact M (ao (ao h))|exact ao h
def ĩ{n:Nat}(h:n<=64):SetTable.sizeAbove n<=128:=by
 have:∀n,n<=64->SetTable.sizeAbove n<=128:=()
 grind
def a0K{more:Nat}{Q:Unit->Shared->Prop}{B:Bool}(S:jw B s.heap a L)(hm:more<=16)
  (h:∀h' es ep t L',Heap.SameBut a s.heap h'->h'.get? a=some (lY es ep t)->Es es L'->Tb B t L'->L'.Perm L->(L.length+more)*5<t.mask*3->Q ⟨⟩ { s with heap:=h'}):wpAny (model prog w) A (setRoomFor a more) Q E s:=by
 obtain⟨es,ep,t,ho,hE,T⟩:=S;unfold setRoomFor;refine M (jH ho hE T ?_);have fl:t.fill=L.length:=by unfold SetTable.fill;rw[T.dm,T.sz];rfl
 have l16:=T.len;unfold SetTable.roomFor;dsimp only;rw[fl,T.sz];by_cases c:(L.length+more)*5>=t.mask*3
 ·rw[aF c];dsimp only;rw[Ĩ];refine M (jH ho hE T ?_);have five:5<=L.length+more:=by
   rcases T.sh with⟨m7,_⟩|⟨Xy,_,_⟩<;>omega
  have b1:=CJ (n:=(L.length+more)*2) ();have b2:=CK (n:=(L.length+more)*2) ();have b3:=ĩ (n:=(L.length+more)*2) ();dsimp only;rw[aq (by rw[iU];omega)];have hm':15<=SetTable.sizeAbove ((L.length+more)*2)-1:=()
  obtain⟨order,e,hE',hc⟩:=Qk (f:=t.finger) (mv:=t.movedTo (SetTable.sizeAbove ((L.length+more)*2)-1)) (led:=t.led) (plain:=t.plain) hm' hE T.nd T.lt;unfold SetTable.relaid;rw[e];have lz:=V4 T.lt hm' T.nd;refine M (RG hE' (by rw[hE.len,lz]) ?_);refine Iu ho Z ?_ (by rw[hE'.len,lz,iU];omega);have T':=Ql (B:=B) (f:=t.finger) (mv:=t.movedTo (SetTable.sizeAbove ((L.length+more)*2)-1)) hm' T.nd T.lt ();rw[<-T.led,<-T.pl]at T';exact h _ _ _ _ _ (nA ..) (zA ho) hE' T' (zy (λv hv=>by have:=T.lt v hv;omega) T.nd) (by show _<(SetTable.sizeAbove ((L.length+more)*2)-1)*3;omega)
 ·rw[aq c];exact ao (h s.heap es ep t L (Ov a s.heap) ho hE T .rfl ())
end
end Sm
namespace Sm
def Ī(sA oA:Addr)(each:Sem Unit):setMerge sA oA each=(do
 if sA==oA then return
 let(eo,epoch,to) <-setState oA
 if eo.isEmpty then return
 setRoomFor sA eo.size
 let(_,_,ts) <-setState sA
 match ts.road to with
 |.slotForSlot =>
  storeSet sA eo { to with finger:=ts.finger,led:=ts.led&&to.led,moves:=ts.moves,plain:=ts.plain&&to.plain}
 |.clean =>
  let(es,t) <-XC eo (SetTable.laid ts.mask ts.finger ts.moves (ts.led&&to.led) (ts.plain&&to.plain) (eo.map (·.1)))
  storeSet sA es t
 |.oneByOne =>
  for (h,x)in <-setWalkUnseen oA [sA] (some sA) do
   let _ <-holding [x] (setAddHashed sA x h)
   each
   if(<-setState oA).2.1 != epoch then unsupported "set.changed-during-merge"):=rfl
section
variable{prog:Program}{w:World}{A:Around}{E:Value->Shared->Prop}{s:Shared}{sA oA:Addr}{L1 L2:List Nat}
def RJ{each:Sem Unit}{Q:Unit->Shared->Prop}(ne:sA≠oA)(S1:jw (qe w) s.heap sA L1)(S2:jw (qe w) s.heap oA L2)(D:rC s.heap oA)
  (he:∀(s':Shared) (Q':Unit->Shared->Prop),(∀o,s.heap.get? oA=some o->s'.heap.get? oA=some o)->Q' ⟨⟩ s'->wpAny (model prog w) A each Q' E s')
  (h:∀h' L,Heap.SameBut sA s.heap h'->jw (qe w) h' sA L->(∀u,u∈L↔u∈L1\/u∈L2)->Q ⟨⟩ { s with heap:=h'}):wpAny (model prog w) A (setMerge sA oA each) Q E s:=by
 obtain⟨eo,ep,to,ho,hE,T⟩:=S2;rw[Ī];have nb:(sA==oA)=false:=wA.mpr ne;rw[nb];simp only[Bool.false_eq_true,if_false];refine M (jH ho hE T ?_);dsimp only;have hz:=hE.len;have l16:=T.len;by_cases c:eo.isEmpty=true
 ·rw[aF c];have l0:L2.length=0:=()
  have:L2=[]:=N8.mp l0;subst this;exact ao (h s.heap L1 (Ov _ _) S1 λu=>by simp)
 rw[aq c];refine M (a0K S1 () λh1 es1 ep1 t1 L1' Ey ho1 hE1 T1 pm hr=>?_);have ho':h1.get? oA=some (lY eo ep to):=by rw[Ey.2 oA (Ne.symm ne)];exact ho
 refine M (jH (s:={ s with heap:=h1}) ho1 hE1 T1 ?_);dsimp only;have fl:t1.fill=L1'.length:=by unfold SetTable.fill;rw[T1.dm,T1.sz];rfl
 unfold SetTable.road;rw[fl,pm.length_eq];have ld:(t1.led&&to.led) = !qe w:=by rw[T1.led,T.led];simp
 have pl:(t1.plain&&to.plain)=true:=by rw[T1.pl,T.pl];rfl
 by_cases e0:L1.length=0
 ·have n1:L1=[]:=N8.mp e0;have nb:(L1.length != 0)=false:=by rw[e0];rfl
  rw[nb];simp only[Bool.false_eq_true,if_false];have dmt:to.dummies.isEmpty=true:=by rw[T.dm];rfl
  by_cases em:t1.mask=to.mask
  ·have:(t1.mask==to.mask&&to.dummies.isEmpty)=true:=()
   rw[this];simp only[if_true];refine Iu (s:={ s with heap:=h1}) ho1 rfl ?_ (by rw[hz,iU];omega);refine h _ L2 (Ey.trans (nA ..)) ⟨eo,_,_,zA ho1,hE,⟨T.dm,pl,ld,T.up,T.sz,T.nd,T.lt,T.sh⟩⟩ λu=>by rw[n1];simp
  ·have:(t1.mask==to.mask&&to.dummies.isEmpty)=false:=()
   rw[this];simp only[Bool.false_eq_true,if_false];have Xy:15<=t1.mask:=by
    obtain⟨es0,ep0,t0,ho0,d⟩:=D;rw[ho]at ho0;cases ho0;rcases T1.sh with⟨m7,_⟩|⟨Xy,_⟩
    ·grind
    ·exact Xy
   obtain⟨order,e,hE',hc⟩:=Qk (f:=t1.finger) (mv:=t1.moves) (led:=t1.led&&to.led) (plain:=t1.plain&&to.plain) Xy hE T.nd T.lt;rw[e];have lz:=V4 T.lt Xy T.nd;refine M (RG hE' (by rw[hz,lz]) ?_);refine Iu (s:={ s with heap:=h1}) ho1 rfl ?_ (by rw[hE'.len,lz,iU];omega);have T':=Ql (B:=qe w) (f:=t1.finger) (mv:=t1.moves) Xy T.nd T.lt ();rw[<-ld,<-pl]at T';refine h _ _ (Ey.trans (nA ..)) ⟨_,_,_,zA ho1,hE',?_⟩ λu=>?_
   ·grind
   ·rw[n1,mem_upTo (λv hv=>by have:=T.lt v hv;omega)];simp
 ·have nb:(L1.length != 0)=true:=by simp[e0]
  rw[nb];simp only[if_true];refine M (Zt (s:={ s with heap:=h1}) ho' hE T λes' pe=>?_);obtain⟨R,hR,pR⟩:=hE.perm pe;refine M ?_;rw[<-Oo];refine O1 _ (λrest _ s'=>∃h' L R,s'={ s with heap:=h'}/\Heap.SameBut sA s.heap h'/\jw (qe w) h' sA L/\Paired (λ(e:Int×Value) (v:Nat)=>e.1=((v:Nat):Int)/\∃tk,e.2=Value.int ((v:Nat):Int) tk) rest R/\
   (∀v∈R,v<16)/\∀u,(u∈L\/u∈R)↔(u∈L1\/u∈L2)) _ ?_ ?_ _ _ ⟨h1,L1',R,Z,Ey,⟨es1,ep1,t1,ho1,hE1,T1⟩,hR,λv hv=>T.lt v (pR.mem_iff.mp hv),λu=>by rw[pm.mem_iff,pR.mem_iff]⟩
  ·rintro⟨hh,x⟩ rest b s' ⟨h',L,R',rfl,sb,S,hP,lt,mem⟩;cases hP with
   | @cons _ v _ R'' r t =>
    obtain⟨e1,tk,e2⟩:=r;dsimp only at e1 e2;subst e1;subst e2;dsimp only;refine M (eU (ħ (s:={ s with heap:=h'}) S (lt v aO) λb2 h2 L' RK S' mem' _=>?_));have Zu:=sb.trans RK;have oo:h2.get? oA=some (lY eo ep to):=by rw[Zu.2 oA (Ne.symm ne)];exact ho
    refine M (he _ _ (λo q=>by grind) (M (jH (s:={ s with heap:=h2}) oo hE T ?_)));simp only[bne_self_eq_false,Bool.false_eq_true,if_false];refine ao ⟨h2,L',R'',Z,Zu,S',t,λu hu=>lt u (aY _ hu),λu=>?_⟩;grind
  ·rintro b s' ⟨h',L,R',rfl,sb,S,hP,lt,mem⟩;cases hP;exact ao (h h' L sb S λu=>by rw[<-mem u];simp)
end
end Sm
namespace Sm
open PySem.Builtin.Frozenset
variable{Q:Value->Shared->Prop}{B:Bool}
def V6:isSubtype (.type "set") (.type "set")=pure true:=by rw[Vb];kernel_rfl
def ī:entryFor table "set.__or__" = some Builtin.«frozenset.__or__» := Vc (id':="frozenset.__or__") (by kernel_rfl) Z () (by kernel_rfl)
def V7:entryFor table "set.__iter__" = some Builtin.«frozenset.__iter__» := Vc (id':="frozenset.__iter__") (by kernel_rfl) Z () (by kernel_rfl)
def Qm(id:String)(l:Addr)(r:Value):Sem Value:=do
 let result <-copyOf l
 if r != .ref l then
  let q <-addrOf result
  holding [result] (updateFrom id q r)
 return result
def or_eq(x y:Value):Builtin.«frozenset.__or__» ⟨[x,y],[]⟩=(do
 let(self,bO) <-slot1 "__or__" ⟨[x,y],[]⟩
 if !(<-isAnySet self <&&> isAnySet bO)then
  rule s!"frozenset.{"__or__"}.declined"
  return <-ret .notImplemented
 ret (<-Qm s!"frozenset.{"__or__"}" (<-addrOf self) bO)):=rfl
section
variable{prog:Program}{w:World}{A:Around}{E:Value->Shared->Prop}{s:Shared}{a b:Addr}{L1 L2:List Nat}
def RL(B:Bool):Tb B (.fresh 0 0 (!B)) []:=⟨Z,Z,Z,.nil,Z,.nil,λv h=>by simp at h,.inl ⟨Z,by simp⟩⟩
def a3A(h:Q (.ref s⁻¹) { s with heap:=s.heap.push (lY #[] 0 (.fresh 0 0 (!qe w)))}):wpAny (model prog w) A (newSet (.type "set")) Q E s:=by
 unfold newSet;refine M (tG ?_);dsimp only;simp only[newObj];exact M (wpAny_alloc (ao h))
def jw.type(S:jw B s.heap a L1):s.TypeIs (.ref a) "set" := let⟨_,_,_,ho,_⟩:=S;⟨_,ho,Z⟩
def V8{Q:Bool->Shared->Prop}(S:jw B s.heap a L1)(h:Q true s):wpAny (model prog w) A (isAnySet (.ref a)) Q E s:=by
 unfold isAnySet orM;exact M (tM S.type V6 (ao h))
def a0L(S:jw (qe w) s.heap a L1)(D:rC s.heap a)
  (h:∀h' L,(∀b o,s.heap.get? b=some o->h'.get? b=some o)->jw (qe w) h' s⁻¹ L->(∀u,u∈L↔u∈L1)->Q (.ref s⁻¹) { s with heap:=h'}):wpAny (model prog w) A (copyOf a) Q E s:=by
 unfold copyOf baseOf;refine M (M (tM S.type V6 (ao ?_)));simp only[if_true];refine M (a3A ?_);show wpAny _ _ (do setMerge s⁻¹ a;pure (Value.ref s⁻¹)) _ _ _;have lt:a<s⁻¹:=by
  obtain⟨_,_,_,ho,_⟩:=S;exact aX ho
 have k:∀b o,s.heap.get? b=some o->(s.heap.push (lY #[] 0 (.fresh 0 0 (!qe w)))).get? b=some o:=λb o e=>bB _ e;refine M (RJ (s:={ s with heap:=s.heap.push (lY #[] 0 (.fresh 0 0 (!qe w)))}) (L1:=[]) (gC lt) ⟨#[],0,_,bU _ rfl,.nil,RL _⟩ (S.keep (k a)) (D.keep (k a)) (λs' Q' _ q=>ao q) λh' L sb S' mem=>?_);refine ao (h h' L (λb o e=>?_) S' λu=>by grind);have lb:=aX e;rw[sb.2 b (bY lb)];exact k b o e
def Jv{es:Array (Int×Value)}{ep:Nat}{t:SetTable}{Q:Nat->Shared->Prop}(ho:s.heap.get? a=some (lY es ep t))(hE:Es es L1)(T:Tb B t L1)(h:Q ep s):wpAny (model prog w) A (setEpoch a) Q E s :=
 wpAny_setEpoch_of ho Z (by rw[hE.len];exact T.fits) h
def Ĭ{id:String}(ne:a≠b)(S1:jw (qe w) s.heap a L1)(D1:rC s.heap a)(S2:jw (qe w) s.heap b L2)(D2:rC s.heap b)
  (h:∀h' L,(∀b o,s.heap.get? b=some o->h'.get? b=some o)->jw (qe w) h' s⁻¹ L->(∀u,u∈L↔u∈L1\/u∈L2)->Q (.ref s⁻¹) { s with heap:=h'}) :
  wpAny (model prog w) A (Qm id a (.ref b)) Q E s:=by
 unfold Qm;refine M (a0L S1 D1 λh1 L k S mem=>?_);have nb:(Value.ref b != Value.ref a)=true:=()
 rw[nb];simp only[if_true];have S2':=S2.keep (k b);have D2':=D2.keep (k b);have lt:b<s⁻¹:=by
  obtain⟨_,_,_,ho,_⟩:=S2;exact aX ho
 have S2c:=S2';obtain⟨es,ep,t,ho,hE,T⟩:=S2c;show wpAny _ _ (holding [Value.ref s⁻¹] (updateFrom id s⁻¹ (.ref b)) >>= λ_=>pure (Value.ref s⁻¹)) _ _ _;refine M (eU ?_);unfold updateFrom;refine M (V8 (s:={ s with heap:=h1}) S2' ?_);simp only[if_true];show wpAny _ _ (merge id s⁻¹ b) _ _ _;unfold merge;refine M (Jv (s:={ s with heap:=h1}) ho hE T (RJ (s:={ s with heap:=h1}) (gC lt) S S2' D2' (λs' Q' ks q=>?_) λh' L' sb S' mem'=>?_))
 ·unfold unchanged;refine M (Jv (s:=s') (ks _ ho) hE T ?_);simp only[bne_self_eq_false,Bool.false_eq_true,if_false];exact ao q
 ·refine ao (h h' L' (λc o e=>?_) S' λu=>by rw[mem' u,mem u]);rw[sb.2 c (bY (aX e))];exact k c o e
def a5L(ne:a≠b)(S1:jw (qe w) s.heap a L1)(D1:rC s.heap a)(S2:jw (qe w) s.heap b L2)(D2:rC s.heap b)
  (h:∀h' L,(∀b o,s.heap.get? b=some o->h'.get? b=some o)->jw (qe w) h' s⁻¹ L->(∀u,u∈L↔u∈L1\/u∈L2)->Q (.ref s⁻¹) { s with heap:=h'}) :
  wpAny (model prog w) A (binaryOp .BitOr (.ref a) (.ref b)) Q E s:=by
 refine wpAny_binaryOp_same S1.type S2.type F.fills_set_or F.slot_set_or (gk F.slot_set_or S1.type ī ?_ (F.args_set_or_2 _ _));rw[or_eq];refine M (m:=slot1 "__or__" _) (ao ?_);dsimp only;unfold andM;refine M (M (V8 S1 (V8 S2 ?_)));simp only[Bool.not_true,Bool.false_eq_true,if_false];show wpAny _ _ (Qm _ a (.ref b) >>= λv=>ret v) _ _ _;refine M (Ĭ ne S1 D1 S2 D2 λh' L k S mem=>?_);exact ao ⟨_,Z,by simp,h h' L k S mem⟩
end
end Sm
namespace Sm
def lZ:Slot "set_iterator" "__next__" "set_iterator.__next__" := .of (owner:="set_iterator") (n:="__next__") (by rw[typeLookup_type,builtinLookup_eq_fast];kernel_rfl) () () () (by first|exact .inl ()|exact .inr ()) (by rw[Vb];kernel_rfl)
def zU:entryFor table "set_iterator.__next__" = some Builtin.«set_iterator.__next__» := entryFor_of_fast (by kernel_rfl)
def CN(a:Value):argsOk "set_iterator.__next__" ⟨[a],[]⟩:=by unfold argsOk;kernel_rfl
def CP:Slot "set_iterator" "__iter__" "set_iterator.__iter__" := .of (owner:="set_iterator") (n:="__iter__") (by rw[typeLookup_type,builtinLookup_eq_fast];kernel_rfl) () () () (by first|exact .inl ()|exact .inr ()) (by rw[Vb];kernel_rfl)
def Qo(a:Value):argsOk "set_iterator.__iter__" ⟨[a],[]⟩:=by unfold argsOk;kernel_rfl
end Sm
namespace Sm
variable{es:Array (Int×Value)}{ep:Nat}
def Lg:entryFor table "set_iterator.__iter__" = some Builtin.«dict_keyiterator.__iter__» := Vc (id':="dict_keyiterator.__iter__") (by kernel_rfl) Z () (by kernel_rfl)
def walked(w:World)(a:Addr)(ep:Nat)(es:Array (Int×Value)):Array (Int×Value):=if qe w=true then pickOrder (w.params.setOrder a ep) es else es
def Gg(w:World)(a:Addr)(ep:Nat)(es:Array (Int×Value)):(walked w a ep es).toList.Perm es.toList:=by
 unfold walked;split
 ·exact zB _ _
 ·exact .rfl
def rD(w:World)(a:Addr)(ep:Nat)(es:Array (Int×Value)):(walked w a ep es).size=es.size:=by
 have:=(Gg w a ep es).length_eq;grind
def a0M(a:Addr)(slot given epochThen:Nat):setNext a slot given epochThen=(do
 let(xs,c,tb) <-setState a
 if <-setsByText then
  if c != epochThen then
   unsupported "set_iterator.__next__:elements-changed"
  let zs <-setWalk a
  return (zs[given]?).map λz=>(z.2,slot)
 if !tb.plain&&xs.size>1 then
  unsupported "set_iterator.__next__:the-table-is-plain-no-more"
 (do if !tb.led && !xs.isEmpty then unsupported "set:maker-not-led" : Sem Unit)
 return match xs[SetTable.below tb.place slot]?,tb.place[SetTable.below tb.place slot]? with
  |some (_,z),some m=>some (z,m+1)
  |_,_=>none):=rfl
def oO(B:Bool)(t:SetTable)(i:Nat):Nat:=if B=true then 0 else if i=0 then 0 else t.place.getD (i-1) 0+1
def V9{B:Bool}{t:SetTable}{L:List Nat}(T:Tb B t L)(hB:B=false):∀i,i<=L.length->SetTable.below t.place (oO B t i)=i
 |0,_=>by
  unfold oO
  rw[hB]
  exact V0 T.up
 |k+1,h=>by
  unfold oO
  rw[hB]
  have hk:k<t.place.size:=by rw[T.sz];omega
  simp only[Bool.false_eq_true,if_false,Nat.add_sub_cancel]
  rw[aq ()]
  have:t.place.getD k 0=t.place[k]:=by simp[Array.getD,hk]
  rw[this]
  exact V1 T.up hk
section
variable{prog:Program}{w:World}{A:Around}{E:Value->Shared->Prop}{s:Shared}{a:Addr}{L:List Nat}
def a0N{t:SetTable}{Q:Array (Int×Value)->Shared->Prop}(ho:s.heap.get? a=some (lY es ep t))(hE:Es es L)(T:Tb (qe w) t L)
  (h:Q (walked w a ep es) s):wpAny (model prog w) A (setWalk a) Q E s:=by
 rw[Xz];refine M (jH ho hE T (M (tG ?_)));have pl:=T.pl;have ld:=T.led;unfold walked at h;cases c:qe w with
 |true =>
  rw[c]at h;simp only[if_true]at h ⊢;exact M (OJ (ao h))
 |false =>
  rw[c]at ld h;simp only[pl,ld,Bool.not_true,Bool.not_false,Bool.false_and,Bool.false_eq_true,if_false]at h ⊢;first|exact M (ao (ao h))|exact ao h
def RM{i:Nat}{t:SetTable}{Q:Option (Value×Nat)->Shared->Prop}(ho:s.heap.get? a=some (lY es ep t))(hE:Es es L)(T:Tb (qe w) t L)(hi:i<=L.length)
  (h:Q (((walked w a ep es)[i]?).map λe=>(e.2,oO (qe w) t (i+1))) s):wpAny (model prog w) A (setNext a (oO (qe w) t i) i ep) Q E s:=by
 rw[a0M];refine M (jH ho hE T (M (tG ?_)));have pl:=T.pl;have ld:=T.led;cases c:qe w with
 |true =>
  simp only[if_true,bne_self_eq_false,Bool.false_eq_true,if_false];refine M (a0N ho hE T (ao ?_));rw[c]at h;unfold oO at h ⊢;grind
 |false =>
  rw[c]at ld h;simp only[pl,ld,Bool.not_true,Bool.not_false,Bool.false_and,Bool.false_eq_true,if_false];have bs:=V9 T c i hi;rw[c]at bs;rw[bs];have wk:walked w a ep es=es:=by unfold walked;rw[c];rfl
  rw[wk]at h;have e:(match es[i]?,t.place[i]? with
   |some (_,z),some m=>some (z,m+1)
   |_,_=>none)=(es[i]?).map λe=>(e.2,oO false t (i+1)):=by
   by_cases q:i<L.length
   ·have h1:i<es.size:=by rw[hE.len];exact q
    have h2:i<t.place.size:=by rw[T.sz];exact q
    rw[uW h1,uW h2];unfold oO;simp[Array.getD,h2]
   ·have h1:es[i]?=none:=Oc (by rw[hE.len];omega);rw[h1];rfl
  first
  |exact M (ao (ao (by rw[e];exact h)))
  |exact ao (by rw[e];exact h)
abbrev itO(sl i:Nat)(a:Addr)(n ep:Nat):Obj:={ cls:=.type "set_iterator",dict:=none,data:=.fields #[.int (sl:Nat) 0,.int (i:Nat) 0,.ref a,.int (n:Nat) 0,.int (ep:Nat) 0],slots:=#[]}
def item_at{I:Addr}{i:Nat}{t:SetTable}{e:Int×Value}{Q:Option Value->Shared->Prop}(ne:a≠I)(ho:s.heap.get? a=some (lY es ep t))(hE:Es es L)(T:Tb (qe w) t L)
  (hI:s.heap.get? I=some (itO (oO (qe w) t i) i a L.length ep)) (hw:(walked w a ep es)[i]?=some e)
  (h:∀h',h'.get? I=some (itO (oO (qe w) t (i+1)) (i+1) a L.length ep)->Heap.SameBut I s.heap h'->Q (some e.2) { s with heap:=h'}):wpAny (model prog w) A (pyNext (.ref I)) Q E s:=by
 have hi:i<L.length:=by
  rcases yd i (walked w a ep es).size with q|q
  ·rw[rD,hE.len]at q;exact q
  grind
 have hT:s.TypeIs (.ref I) "set_iterator" :=⟨_,hI,Z⟩;unfold pyNext;refine M (tU (mZ (name:=Str.ofString "__next__") hT lZ (gk lZ hT zU ?_ (CN _))));unfold Builtin.«set_iterator.__next__»;refine M (m:=slotArgs "__next__" 0 _) (ao ?_);dsimp only;refine M (Ei hI Z ?_);dsimp only;unfold setEntries;refine M (M (jH ho hE T (ao ?_)));have z:(((es.size:Nat):Int) !=((L.length:Nat):Int))=false:=by rw[hE.len];simp
 dsimp only;rw[z];simp only[Bool.false_eq_true,if_false,Int.toNat_natCast];refine M (RM ho hE T () ?_);rw[hw];dsimp only[Option.map];refine M (iQ hI (by simp) λh1 hI1 Ey=>M (iQ (s:={ s with heap:=h1}) hI1 (by simp) λh2 hI2 RK=>ao ⟨_,Z,ao (h h2 ?_ (Ey.trans RK))⟩));rw[hI2];simp[rawInt]
def Jw{I:Addr}{t:SetTable}{Q:Option Value->Shared->Prop}(hh:A.handled=none)(ne:a≠I)(ho:s.heap.get? a=some (lY es ep t))(hE:Es es L)(T:Tb (qe w) t L)
  (hI:s.heap.get? I=some (itO (oO (qe w) t L.length) L.length a L.length ep))
  (h:∀h',Heap.ExtBut I s.heap h'->Q none { s with heap:=h'}):wpAny (model prog w) A (pyNext (.ref I)) Q E s:=by
 have hT:s.TypeIs (.ref I) "set_iterator" :=⟨_,hI,Z⟩;unfold pyNext;refine M (tU (mZ (name:=Str.ofString "__next__") hT lZ (gk lZ hT zU ?_ (CN _))));unfold Builtin.«set_iterator.__next__»;refine M (m:=slotArgs "__next__" 0 _) (ao ?_);dsimp only;refine M (Ei hI Z ?_);dsimp only;unfold setEntries;refine M (M (jH ho hE T (ao ?_)));have z:(((es.size:Nat):Int) !=((L.length:Nat):Int))=false:=by rw[hE.len];simp
 dsimp only;rw[z];simp only[Bool.false_eq_true,if_false,Int.toNat_natCast];refine M (RM ho hE T () ?_);rw[Oc (by rw[rD,hE.len];grind)];dsimp only[Option.map];refine M (iQ hI (by simp) λh1 hI1 Ey=>M ?_);simp only[newExc,newTuple];right
end
end Sm
namespace Sm
open PyProof.Rows
variable{a:Addr}{es:Array (Int×Value)}{ep:Nat}
section
variable{prog:Program}{w:World}{A:Around}{E:Value->Shared->Prop}{s:Shared}{L:List Nat}
def a3B{I:Addr}{t:SetTable}(hh:A.handled=none)(ne:a≠I)(hE:Es es L)(T:Tb (qe w) t L) :
  Walks prog w A I [I,a] [I] L.length (λi v=>∃e,(walked w a ep es)[i]?=some e/\v=e.2)
   (λi h=>h.get? I=some (itO (oO (qe w) t i) i a L.length ep)/\h.get? a=some (lY es ep t)) where
 sub:=λb hb=>by grind
 frame:=λ_ _ _ st hk=>⟨hk I (by simp) _ st.1,hk a (by simp) _ st.2⟩
 item:=λi s Q E hi st hQ=>by
  obtain⟨e,he⟩:∃e,(walked w a ep es)[i]?=some e:=⟨_,uW (by rw[rD,hE.len];exact hi)⟩
  refine item_at ne st.2 hE T st.1 he λh' hI sb=>?_
  exact hQ _ h' s.toks ⟨e,he,Z⟩ ⟨hI,by rw[sb.2 a ne];exact st.2⟩ λb o hb q=>by rw[sb.2 b (λc=>hb (by simp[c]))];exact q
 done:=λs Q E st hQ=>Jw hh ne st.2 hE T st.1 λh' xb=>hQ h' s.toks λb o hb q=>xb b o (λc=>hb (by simp[c])) q
 self:=λi s Q E st hQ=>by
  have hT:s.TypeIs (.ref I) "set_iterator" :=⟨_,st.1,Z⟩
  refine Iw hT CP (gk CP hT Lg ?_ (Qo _))
  show wpAny _ _ (ret (Value.ref I)) _ _ s;exact ao ⟨_,Z,"set_iterator",_,hT,lZ.lookup,hQ⟩
def ĭ(a:Addr):setDrawn a=(do
 let(es,_,t) <-setState a
 let byText <-setsByText
 return !byText&&(!t.plain&&es.size>1)):=rfl
def CQ{t:SetTable}{Q:Value->Shared->Prop}(ho:s.heap.get? a=some (lY es ep t))(hE:Es es L)(T:Tb (qe w) t L)
  (h:Q (.ref s⁻¹) { s with heap:=s.heap.push (itO 0 0 a L.length ep)}):wpAny (model prog w) A (pyIter (.ref a)) Q E s:=by
 have hT:s.TypeIs (.ref a) "set" :=⟨_,ho,Z⟩;refine Iw hT F.slot_set_iter (gk F.slot_set_iter hT V7 ?_ (F.args_set_iter_1 _));unfold Builtin.«frozenset.__iter__»;refine M (m:=Builtin.Frozenset.slot0 _ _) (ao ?_);unfold Builtin.Frozenset.sizeOf setEntries;refine M (M (M (jH ho hE T (ao (ao ?_)))));rw[ĭ];refine M (M (jH ho hE T (M (tG (ao ?_)))));rw[T.pl];simp only[Bool.not_true,Bool.false_and,Bool.and_false,Bool.false_eq_true,if_false];refine M (ao (M (Jv ho hE T (M ?_))));unfold newFields;refine j5 (ao ⟨_,Z,"set_iterator",_,⟨_,bU _ Z,Z⟩,lZ.lookup,?_⟩);rw[hE.len];exact h
def a0O:(Value.type "set" == Value.type "list")=false:=by decide
def a3C:(Value.type "set" == Value.type "tuple")=false:=by decide
def Į:typeLookup (.type "set") "__len__" = pure (some (.builtin "set.__len__")):=F.slot_set_len.lookup
def split_len:splitId "set.__len__" = some ("set","__len__"):=by decide
def RN{t:SetTable}{Q:List Value->Shared->Prop}(hh:A.handled=none)(ho:s.heap.get? a=some (lY es ep t))(hE:Es es L)(T:Tb (qe w) t L)
  (h:∀(h':Heap) (tk:Nat),(∀b o,s.heap.get? b=some o->h'.get? b=some o)->s⁻¹<h'.objs.size->Q ((walked w a ep es).toList.map (·.2)) { s with heap:=h',toks:=tk}):wpAny (model prog w) A (collect (.ref a)) Q E s:=by
 have lt:a<s⁻¹:=aX ho;unfold collect;refine M (wpAny_runValue (j7 F.entry_proto_collect ?_));rw[lD F.plain_proto_collect _];show wpAny _ A.in1 (newList [] >>= λl=>again (.builtin "list.__iadd__" ⟨[l,.ref a],[]⟩)) _ _ s;refine M (j5 (ao ⟨mK F.plain_list_iadd _,j7 F.entry_list_iadd ?_⟩));rw[lD F.plain_list_iadd _];have S0:(s.heap.push { cls:=.type "list",data:=.seq ([]:List Value).toArray}).get? s⁻¹=some { cls:=.type "list",data:=.seq ([]:List Value).toArray}:=bU _ rfl;have ho1:(s.heap.push { cls:=.type "list",data:=.seq ([]:List Value).toArray}).get? a=some (lY es ep t):=bB _ ho;have hT1:Shared.TypeIs { s with heap:=s.heap.push { cls:=.type "list",data:=.seq ([]:List Value).toArray}} (.ref a) "set" :=⟨_,ho1,rfl⟩;show wpAny _ A.in1 (Builtin.List.listExtendWith (.ref s⁻¹) (.ref a) (.ref s⁻¹)) _ _ { s with heap:=s.heap.push { cls:=.type "list",data:=.seq ([]:List Value).toArray}};unfold Builtin.List.listExtendWith;refine M (u9 hT1 ?_);have n1:Builtin.List.listSameRef (.ref s⁻¹) (.ref a)=false:=by simp[Builtin.List.listSameRef,Nat.ne_of_gt lt]
 simp only[n1,a0O,a3C,Bool.or_false,Bool.false_eq_true,if_false];refine M (CQ ho1 hE T (M (eU ?_)));have ho2:((s.heap.push { cls:=.type "list",data:=.seq ([]:List Value).toArray}).push (itO 0 0 a L.length ep)).get? a=some (lY es ep t):=bB _ ho1;have hT2:Shared.TypeIs { s with heap:=(s.heap.push { cls:=.type "list",data:=.seq ([]:List Value).toArray}).push (itO 0 0 a L.length ep)} (.ref a) "set" :=⟨_,ho2,rfl⟩;unfold Builtin.List.listLengthHint;refine M (Aq hT2 Į ?_);dsimp only;rw[split_len];dsimp only;refine M (tM hT2 V6 ?_);rw[aq ()];rw[aF ()];refine M (u9 hT2 ?_);dsimp only;refine ao ?_;rw[aF ()];refine M (kh ?_);have lsz:(s.heap.push { cls:=.type "list",data:=.seq ([]:List Value).toArray}).objs.size=s⁻¹+1:=Pq _ _;have S1:((s.heap.push { cls:=.type "list",data:=.seq ([]:List Value).toArray}).push (itO 0 0 a L.length ep)).get? s⁻¹=some { cls:=.type "list",data:=.seq ([]:List Value).toArray}:=bB _ S0;refine M ?_;show wpAny _ A.in1 (updateSeq s⁻¹ (·.push .none) >>= λ_=>updateSeq s⁻¹ (·.pop)) _ _ _;refine M (O6 S1 Z ?_);have S2:=Af (Obj.mapSeq (·.push Value.none)) S1 rfl;refine O6 S2 Z ?_;have S3:=Af (Obj.mapSeq (·.pop)) S2 rfl;have oth:∀b o,b≠s⁻¹->((s.heap.push { cls:=.type "list",data:=.seq ([]:List Value).toArray}).push (itO 0 0 a L.length ep)).get? b=some o->
   ((((s.heap.push { cls:=.type "list",data:=.seq ([]:List Value).toArray}).push (itO 0 0 a L.length ep)).update s⁻¹ (Obj.mapSeq (·.push Value.none))).update s⁻¹ (Obj.mapSeq (·.pop))).get? b=some o :=
  λb o hb e=>(Ui _ _ (Ne.symm hb)).trans ((Ui _ _ (Ne.symm hb)).trans e)
 have neI:a≠(s.heap.push { cls:=.type "list",data:=.seq ([]:List Value).toArray}).objs.size:=()
 have W:=(a3B (prog:=prog) (w:=w) (A:=A.in1) (I:=(s.heap.push { cls:=.type "list",data:=.seq ([]:List Value).toArray}).objs.size) (ep:=ep) () neI hE T).toS;have l16:=T.len;have sl0:oO (qe w) t 0=0:=by unfold oO;split<;>rfl
 refine ao ⟨mK F.plain_extend_loop _,codeAny_extend_loopS W (by rw[iU];omega) _ (by
   grind) _ _ 0 _ #[] _ Z (dh _) ⟨?_,?_⟩ S3 (ItemsOf.nil _) λs' acc' c' hm hS' hacc=>?_⟩
 ·refine oth _ _ () ?_;rw[sl0];exact bU _ rfl
 ·exact oth _ _ (bY lt) ho2
 ·obtain⟨h',g',d',tk',os'⟩:=s';have eg:g'=s.gens:=hm.gens;have ed:d'=s.drawn:=hm.drawn;have eo:os'=s.os:=hm.os;subst eg;subst ed;subst eo;show wpAny _ A (load s⁻¹ >>= _) _ _ _;refine M (wpAny_load hS' ?_);dsimp only;have el:acc'.toList=(walked w a ep es).toList.map (·.2):=by
   apply List.ext_getElem?;intro i;rw[Im,fK,Im];rcases yd i acc'.size with q|q
   ·obtain⟨e,he,hv⟩:=hacc.2 i acc'[i] (uW q);rw[uW q,he,hv];rfl
   ·rw[Oc q,Oc (by rw[rD,hE.len,<-hacc.1];exact q)];rfl
  rw[el];refine ao (h h' tk' (λb o e=>?_) (aX hS'));have lb:b<s⁻¹:=aX e;refine hm.heap b o () (oth b o (bY lb) (bB _ (bB _ e)))
def a3D{h:Heap}{b:Addr}{vs:List Value}{out:Array Value}{o:Obj}(lb:b<h.objs.size)(ne:b≠a)(e:h.get? b=some o):(sortedHeap h a vs out).get? b=some o:=by
 unfold sortedHeap;rw[Oj _ _ _ _ ne];exact bB _ (bB _ (by rw[Oj _ _ _ _ ne];exact e))
def a5M{h:Heap}{vs:List Value}{xs out:Array Value}{n:Nat}(e:h.get? a=some (seqObj "list" xs n)):∃n',(sortedHeap h a vs out).get? a=some (seqObj "list" out n'):=by
 unfold sortedHeap;exact⟨_,U9 (bB _ (bB _ (U9 e λ_=>#[]))) λ_=>out⟩
def Wa{Q:Value->Shared->Prop}(hh:A.handled=none)(S:jw (qe w) s.heap a L)
  (h:∀(h':Heap) (tk:Nat) (p:Addr) (vs:List Value) (n:Nat) (ns:List Int),(∀b o,s.heap.get? b=some o->h'.get? b=some o)->s⁻¹<=p->h'.get? p=some (seqObj "list" vs.toArray n)->IntsAre vs ns->
   ns.Perm (L.map λv=>((v:Nat):Int))->ns.Pairwise (· <= ·)->Q (.ref p) { s with heap:=h',toks:=tk}):wpAny (model prog w) A (call (.builtin "sorted") [.ref a]) Q E s:=by
 obtain⟨es,ep,t,ho,hE,T⟩:=S;have l16:=T.len;apply T9 kind_sorted plain_sorted entry_sorted (args_sorted1 _);unfold Builtin.«sorted»;refine M (m:=checkCount "sorted" 1 1 _) (ao ?_);refine M (RN (by simpa using hh) ho hE T λh1 tk k lz=>?_);obtain⟨L',hP,pm⟩:=hE.perm (Gg w a ep es);have hl:L'.length=L.length:=pm.length_eq;have hI:IntsAre ((walked w a ep es).toList.map (·.2)) (L'.map λv=>((v:Nat):Int)):=by
  generalize (walked w a ep es).toList=l at hP;clear pm hl
  induction hP with
  |nil=>exact .nil
  |cons r _ ih =>
   obtain⟨q,e⟩:=r.2;rw[bV,bV,e];exact .cons _ q ih
 have hn:((walked w a ep es).toList.map (·.2)).length=L.length:=by rw[aJ,rY,rD,hE.len]
 refine M (Vf ?_ (by rw[hn,iU];omega));have o1:(h1.push (seqObj "list" ((walked w a ep es).toList.map (·.2)).toArray 0)).get? h1.objs.size=some (seqObj "list" ((walked w a ep es).toList.map (·.2)).toArray 0):=bU _ rfl;refine M (eU (gk slot_list_sort ⟨_,o1,Z⟩ entry_list_sort (list_sort_tree o1 hI (by rw[hn];omega) λout ns a1 a2 a3=>⟨_,Z,?_⟩) (args_list_sort _)));obtain⟨n',o2⟩:=a5M (vs:=(walked w a ep es).toList.map (·.2)) (out:=out) o1;refine ao ⟨_,Z,h _ _ _ out.toList n' ns (λb o e=>?_) (dU lz) (by simpa using o2) a1 (a2.trans (pm.map _)) a3⟩;have lb:b<h1.objs.size:=vd (aX e) lz;exact a3D (by rw[Pq];exact Ir lb) (bY lb) (bB _ (k b o e))
end
end Sm
namespace Sm
open PyProof.Rows
section
variable{prog:Program}{w:World}{A:Around}{R:Result->Shared->Prop}{I:Addr}{fp wr:List Addr}{G:Array GenState->Array GenState->Prop}{n:Nat}{P:Nat->Value->Prop}{St:Nat->Shared->Prop}
def a0P(W:WalksS prog w A.in1 I fp wr G n P St)(S:Addr)(nf:S∉fp)(val:Nat->Nat)(hv:∀i v,i<n->P i v->∃t,v=.int ((val i:Nat):Int) t)(lt:∀i,i<n->val i<16) :
  ∀(k i:Nat) (s:Shared) (L:List Nat),n-i=k->i<=n->St i s->jw (qe w) s.heap S L->rC s.heap S->(∀u,u∈L↔∃j,j<i/\val j=u)->
   (∀s' L',Moved (S::wr) G s s'->jw (qe w) s'.heap S L'->rC s'.heap S->(∀u,u∈L'↔∃j,j<n/\val j=u)->R (.ok (.ret .none)) s')->
   codeAny (model prog w) A (.builtin "set.update.loop" ⟨[.ref S,.ref I],[]⟩) R s:=by
 have nw:S∉wr:=λh=>nf (W.sub _ h);have up:∀b∈wr,b∈S::wr:=λb hb=>aY _ hb;intro k
 induction k with
 |zero =>
  intro i s L hk hi st hS hD mem hR;obtain rfl:i=n:=()
  refine j7 F.entry_set_update_loop ?_;rw[lD Ub _];show wpAny _ A.in1 (pyNext (.ref I) >>= _) _ _ s;refine M (W.done s _ _ st λs' hm=>?_);exact ao (hR s' L (hm.mono up) (hS.keep λo e=>hm.heap S o nw e) (hD.keep λo e=>hm.heap S o nw e) mem)
 |succ k ih =>
  intro i s L hk hi st hS hD mem hR;have li:i<n:=()
  refine j7 F.entry_set_update_loop ?_;rw[lD Ub _];show wpAny _ A.in1 (pyNext (.ref I) >>= _) _ _ s;refine M (W.item i s _ _ li st λv s' hP st' hm=>?_);obtain⟨t,rfl⟩:=hv i v li hP;have hS':=hS.keep λo e=>hm.heap S o nw e;have hD':=hD.keep λo e=>hm.heap S o nw e;show wpAny _ A.in1 (holding [Value.int ((val i:Nat):Int) t] (setAdd S (.int ((val i:Nat):Int) t)) >>= _) _ _ s';refine M (eU ?_);unfold setAdd;refine eU (M ((intKind prog w).pyHash (k:=((val i:Nat):Int)) (intKind_is _ _ _ _) ?_));have eh:(intKind prog w).hash ((val i:Nat):Int)=((val i:Nat):Int):=V5 _ (lt i li);rw[eh];refine ħ (s:={ s' with toks:=s'.toks+1}) hS' (lt i li) λb h' L' sb S2 a8a dn=>ao ⟨mK Ub _,ih (i+1) _ L' () li (W.frame _ s' _ _ st' (ye _) λc hc o e=>?_) S2 (dn hD') (λu=>?_) λs2 L2 hm2 h2 h3 h4=>hR s2 L2 (Moved.trans W.gtrans ((hm.mono up).then_heap (ye _) λc o hc e=>?_) hm2) h2 h3 h4⟩
  ·rw[sb.2 c (λq:c=S=>nf ())];exact e
  ·grind
  ·rw[sb.2 c (λq:c=S=>hc ())];exact e
end
section
variable{prog:Program}{w:World}{A:Around}{E:Value->Shared->Prop}{s:Shared}
def a0Q(a:Value){Q:Value->Shared->Prop}(h:Q (.ref s⁻¹) { s with heap:=s.heap.push (lY #[] 0 (.fresh 0 0 (!qe w)))}) :
  codeAny (model prog w) A (.call (.builtin "set.__new__") ⟨[.type "set",a],[]⟩) (wants Q E) s:=by
 refine codeAny_of_tree ?_;show wpAny _ A.in1 (do checkBuiltinCall "set.__new__" ⟨[.type "set",a],[]⟩;again (.builtin "set.__new__" ⟨[.type "set",a],[]⟩)) _ _ s;refine M (Jd (F.newCall_set_1 a) (ao ⟨mK F.plain_set_new _,j7 F.entry_set_new ?_⟩));rw[lD F.plain_set_new _];unfold Builtin.«set.__new__» Builtin.Frozenset.newClass;have hsub:=sub_set_self;obtain⟨hp,g,d,tk,os⟩:=s;dsimp only at h ⊢
 wp_walk
 refine OJ (ao ?_);dsimp only;simp only[newObj];exact M (wpAny_alloc (ao (ao h)))
def a3E{l:Addr}{items:Array Value}{vals:List Nat}{Q:Value->Shared->Prop}(hh:A.handled=none)(hl:s.heap.IsList l items)(hi:IntsAre items.toList (vals.map λv=>((v:Nat):Int)))(lt:∀v∈vals,v<16)
  (h:∀(h':Heap) (tk:Nat) (L:List Nat),jw (qe w) h' s⁻¹ L->rC h' s⁻¹->(∀u,u∈L↔u∈vals)->(∀b o,b<s⁻¹->s.heap.get? b=some o->h'.get? b=some o)->Q (.ref s⁻¹) { s with heap:=h',toks:=tk}) :
  wpAny (model prog w) A (call (.type "set") [.ref l]) Q E s:=by
 obtain⟨c,tl,hmro⟩:=F.called_set.mro;have hmade:=F.called_set.made;have hsub:=F.called_set.sub;have hlen:items.size=vals.length:=by
  have:=hi.length;simpa using this
 refine wpAny_call (codeAny_of_tree ?_);show wpAny _ _ (callAny (.type "set") _) _ _ _;refine ao ⟨Code.quiet_builtin _ (),j7 F.entry_type_call ?_⟩;rw[Around.under_plain (weight_type_call_type "set" [.ref l] []) rfl];have h1:=F.called_set.notType;have h2:=F.called_set.canCreate;have hct:=F.typeCall_set_1 (.ref l);repeat (any_goals (first|assumption|wp_step))
 refine Ej (a0Q (.ref l) (E:=E) (Q:=λobj s₁=>obj=.ref s⁻¹/\s₁={ s with heap:=s.heap.push (lY #[] 0 (.fresh 0 0 (!qe w)))}) ⟨rfl,rfl⟩) λr s₁ hr=>?_;cases r with
 |error e=>exact hr
 |ok fl =>
  cases fl with
  |ret obj =>
   obtain⟨rfl,rfl⟩:=hr;have gS:(s.heap.push (lY #[] 0 (.fresh 0 0 (!qe w)))).get? s⁻¹=some (lY #[] 0 (.fresh 0 0 (!qe w))):=bU _ rfl;have hT:Shared.TypeIs { s with heap:=s.heap.push (lY #[] 0 (.fresh 0 0 (!qe w)))} (.ref s⁻¹) "set" :=⟨_,gS,rfl⟩;have hli:=F.called_set.init.lookup;have hbi:=F.called_set.init.bind (.ref s⁻¹);repeat (any_goals (first|assumption|wp_step))
   refine Ej (codeAny_call_builtin (R:=wants (λr s₂=>r=.none/\∃h' tk L,s₂={ s with heap:=h',toks:=tk}/\jw (qe w) h' s⁻¹ L/\rC h' s⁻¹/\(∀u,u∈L↔u∈vals)/\
     (∀b o,b<s⁻¹->s.heap.get? b=some o->h'.get? b=some o)) E) F.called_set.init.plain F.entry_set_init (check_set_init_1 hT ?_)) λr₂ s₂ hr₂=>?_
   ·obtain⟨ol,hol,hcl,nl,hdl⟩:=hl;obtain⟨ocls,odict,odata,oslots⟩:=ol;simp only at hcl hdl;subst hcl;subst hdl;have hol':(s.heap.push (lY #[] 0 (.fresh 0 0 (!qe w)))).get? l=some { cls:=.type "list",dict:=odict,data:=.seq items nl,slots:=oslots}:=bB _ hol;have hsls:=F.sub_list_set;have hslf:=F.sub_list_frozenset;have hne:(Value.type "list" == Value.type "dict")=false:=()
    have hl1:(s.heap.push (lY #[] 0 (.fresh 0 0 (!qe w)))).IsList l items:=⟨_,hol',Z,nl,Z⟩;unfold Builtin.«set.__init__» noKeywords Builtin.Frozenset.updateFrom;generalize hPI:pyIter=PI
    wp_walk
    subst hPI;refine wD hl1 (M (wpAny_runValue ?_));have ll:l<s⁻¹:=aX hol;have hh3:A.in1.in1.in1.handled=none:=by simp[hh]
    have ni:l≠(s.heap.push (lY #[] 0 (.fresh 0 0 (!qe w)))).objs.size:=by rw[j8];exact bY (Ir ll)
    have nf:s⁻¹∉[(s.heap.push (lY #[] 0 (.fresh 0 0 (!qe w)))).objs.size,l]:=by
     rw[j8];simp only[List.mem_cons,List.not_mem_nil,or_false,not_or];exact⟨bY (yc _),gC ll⟩
    have hval:∀(i:Nat) (v:Value),i<items.size->items[i]?=some v->∃t,v=.int (((λi=>vals.getD i 0) i:Nat):Int) t:=λi v li hv=>by
     obtain⟨t,e⟩:=PyProof.Rows.IntsAre.int_at hi i v (by rw[Im];exact hv);have lv:i<vals.length:=()
     refine⟨t,?_⟩;rw[e];simp[List.getD,lv]
    refine a0P ((Walks.list hh3 _ l ni items).toS) s⁻¹ nf (λi=>vals.getD i 0) hval (λi li=>?_) (items.size-0) 0 _ [] () (dh _) ⟨⟨_,bU _ Z,Z,Z⟩,(hl1.push _)⟩ ?hS0 ?hD0 (λu=>by simp) ?hR
    ·have lv:i<vals.length:=()
     refine lt _ ?_;simp[List.getD,lv]
    case hS0=>exact⟨#[],0,_,bB _ gS,.nil,RL _⟩
    case hD0=>exact⟨#[],0,_,bB _ gS,.inl Z⟩
    case hR =>
     intro s' L' hm hS' hD' mem;obtain⟨h',g',d',tk',os'⟩:=s';have eg:g'=s.gens:=hm.gens;have ed:d'=s.drawn:=hm.drawn;have eo:os'=s.os:=hm.os;subst eg;subst ed;subst eo;show wpAny _ _ _ _ _ _;refine ao ?_;show wpAny _ _ (ret Value.none) _ _ _;refine ao ⟨Z,h',tk',L',Z,hS',hD',λu=>?_,λb o hb e=>?_⟩
     ·rw[mem u];constructor
      ·rintro⟨j,hj,rfl⟩;have lv:j<vals.length:=()
       simp[List.getD,lv]
      ·intro hu;obtain⟨j,hj,e⟩:=qt hu;exact⟨j,(),by simp[List.getD,hj,e]⟩
     ·have b1:b≠s⁻¹:=bY hb;have b2:b≠(s.heap.push (lY #[] 0 (.fresh 0 0 (!qe w)))).objs.size:=by rw[j8];exact bY (Ir hb)
      exact hm.heap b o (by simp only[List.mem_cons,List.not_mem_nil,or_false,not_or];exact⟨b1,b2⟩) (bB _ (bB _ e))
   ·cases r₂ with
    |error e=>exact hr₂
    |ok fl₂ =>
     cases fl₂ with
     |ret r =>
      obtain⟨rfl,h',tk,L,rfl,q1,q2,q3,q4⟩:=hr₂;repeat (any_goals (first|assumption|wp_step))
      exact h _ _ L q1 q2 q3 q4
     |_=>exact hr₂.elim
  |_=>exact hr.elim
end
end Sm
namespace L2
open PyProof.Rows Sm
def RQ(w:World)(a:Addr)(d:Bool)(L:List Nat):HO:=.ext λh=>jw (qe w) h a L/\(d=true->rC h a)
def Small(ns:List Int):Prop:=∀n∈ns,0<=n/\n<16
def Rc(p:Int->Bool):List Int:=((List.range 16).map λi=>((i:Nat):Int)).filter p
def a3F(p:Int->Bool):(Rc p).Pairwise (· < ·):=by
 unfold Rc;refine Io _ ?_;rw[Ak];exact List.pairwise_lt_range.imp λh=>by omega
def zE{p:Int->Bool}{v:Int}:v∈Rc p↔0<=v/\v<16/\p v=true:=by
 unfold Rc;rw[lF,dW];constructor
 ·grind
 ·rintro⟨h0,h1,h⟩;exact⟨⟨v.toNat,mJ.mpr (),()⟩,h⟩
theorem up_eq:∀{xs ys:List Int},xs.Pairwise (· < ·)->ys.Pairwise (· < ·)->(∀v,v∈xs↔v∈ys)->xs=ys
 | [],[],_,_,_=>rfl
 | [],y::ys,_,_,h=>absurd ((h y).mpr aO) eN
 |x::xs,[],_,_,h=>absurd ((h x).mp aO) eN
 |x::xs,y::ys,hx,hy,h=>by
  obtain⟨x1,x2⟩:=Ai.mp hx
  obtain⟨y1,y2⟩:=Ai.mp hy
  have e:x=y:=by
   rcases cB.mp ((h x).mp aO)with e|e
   ·exact e
   ·rcases cB.mp ((h y).mpr aO)with f|f
    ·exact f.symm
    ·have a:=y1 x e
     have b:=x1 y f
     omega
  subst e
  congr 1
  refine up_eq x2 y2 λv=>?_
  constructor
  ·intro q
   rcases cB.mp ((h v).mp (aY _ q))with e|e
   ·subst e;have:=x1 v q;omega
   ·exact e
  ·intro q
   rcases cB.mp ((h v).mpr (aY _ q))with e|e
   ·subst e;have:=y1 v q;omega
   ·exact e
inductive a5N(w:World)(K:aH)(xs:List V)(H:Hp)(Q:VK):Prop
 |mk (l ns:_) (_:xs=[.ref l]) (_:bC K H l (List.map V.int ns)) (_:Small ns) (_:∀p L H',gP H p (RQ w p true L) H'->(∀u:Nat,u∈L↔(u:Int)∈ns)->Q (.ref p) H')
inductive a7v(w:World)(x:V)(y:V)(H:Hp)(Q:VK):Prop
 |mk (a b L1 L2:_) (_:x=.ref a) (_:y=.ref b) (_:a≠b) (_:H a=some (RQ w a true L1)) (_:H b=some (RQ w b true L2)) (_:∀p L H',gP H p (RQ w p false L) H'->(∀u:Nat,u∈L↔u∈L1\/u∈L2)->Q (.ref p) H')
inductive a3G(w:World)(xs:List V)(H:Hp)(Q:VK):Prop
 |mk (a d L:_) (_:xs=[.ref a]) (_:H a=some (RQ w a d L)) (_:∀p H',gP H p (.lst ((Rc λv=>decide (v.toNat∈L)).map V.int)) H'->Q (.ref p) H')
inductive a3H(K:aH)(xs:List V)(H:Hp)(Q:VK):Prop
 |mk (l ns:_) (_:xs=[.ref l]) (_:bC K H l (List.map V.int ns)) (_:ns.length<64) (_:∀p H' zs,gP H p (.lst (List.map V.int zs)) H'->zs.Perm ns->zs.Pairwise (· <= ·)->Q (.ref p) H')
def Ez:∀{vs:List Value}{ns:List Int},IntsAre vs ns->cP (ns.map V.int) vs
 |_,_,.nil=>.nil
 |_,_,.cons n t r=>.cons ⟨t,Z⟩ (Ez r)
def į{xs:List Int}{L:List Nat}(pm:xs.Perm (L.map λv=>((v:Nat):Int)))(nd:L.Nodup)(lt:∀v∈L,v<16)(le:xs.Pairwise (· <= ·)):xs=Rc λv=>decide (v.toNat∈L):=by
 have Zv:xs.Nodup:=pm.nodup_iff.mpr (by
  grind)
 have Ý:xs.Pairwise (· < ·):=by
  unfold List.Nodup at Zv;exact(le.and Zv).imp λh=>by omega
 refine up_eq Ý (a3F _) λv=>?_;rw[pm.mem_iff,zE,dW];grind
section
variable{X:Cx}{K:aH}{w:World}
def XD{H:Hp}{h:Heap}{a:Addr}{d:Bool}{L:List Nat}{P:Program}{w':World}(S:jw (qe w) h a L)(D:d=true->rC h a):fM P w' H h a (RQ w a d L):=by
 refine⟨⟨S,D⟩,?_,?_⟩
 ·obtain⟨_,_,_,ho,_⟩:=S;grind
 ·rintro h1 h2 ⟨s1,d1⟩ k;exact⟨s1.keep k,λe=>(d1 e).keep k⟩
def MJ(ek:X.K=K)(ew:X.w=w)(cm:X.calm=true):jF X (.type "set") (a5N w K):=by
 subst ek;subst ew;intro Y s σ H xs us Q I r h;obtain⟨l,ns,rfl,hL,sm,q⟩:=h;obtain⟨u,rfl,rx⟩:=vals1 r;cases rx;obtain⟨b7,r',pl,hz⟩:=I.list hL;have hi:=ints_of r';have e:(ns.map Int.toNat).map (λv=>((v:Nat):Int))=ns:=by
  rw[j9];have:∀n∈ns,((λv=>((v:Nat):Int))∘Int.toNat) n=id n:=λn hn=>by
   have:=(sm n hn).1;grind
  rw[xX this,List.map_id]
 refine a3E (vals:=ns.map Int.toNat) (I.ok.hd cm) pl.isList () (λv hv=>?_) λh' tk L S D mem k=>?_
 ·obtain⟨n,hn,rfl⟩:=dW.mp hv;have:=sm n hn;omega
 ·have hf:H s⁻¹=none:=I.hok.fresh (aL _);refine⟨.ref s⁻¹,_,I.laid (t':=tk) (o:=RQ X.w s⁻¹ true L) (λb o eo=>k b o (aX eo) eo) (aL _) (XD S λ_=>D),Z,q _ L _ (gP.ou hf) λu=>?_⟩;grind
def a3I(ew:X.w=w):rz X (binaryOp .BitOr) (a7v w):=by
 subst ew;symm;obtain⟨a,b,L1,L2,rfl,rfl,ne,hA,hB,q⟩:=h;cases rx;cases ry;obtain⟨⟨S1,D1⟩,_⟩:=I.hok a _ hA;obtain⟨⟨S2,D2⟩,_⟩:=I.hok b _ hB;refine a5L ne S1 (D1 Z) S2 (D2 Z) λh' L k S mem=>?_;have hf:H s⁻¹=none:=I.hok.fresh (aL _);exact⟨.ref s⁻¹,_,I.laid (t':=s.toks) (o:=RQ X.w s⁻¹ false L) (λb o eo=>k b o eo) (aL _) (XD S λe=>by cases e),Z,q _ L _ (gP.ou hf) mem⟩
def Qp(ew:X.w=w)(cm:X.calm=true):jF X (.builtin "sorted") (a3G w):=by
 subst ew;intro Y s σ H xs us Q I r h;obtain⟨a,d,L,rfl,hA,q⟩:=h;obtain⟨u,rfl,rx⟩:=vals1 r;cases rx;obtain⟨⟨S,_⟩,_⟩:=I.hok a _ hA;obtain⟨_,_,t,_,_,T⟩:=id S;refine Wa (I.ok.hd cm) S λh' tk p vs n ns k hp ho hi pm le=>?_;have e:=į pm T.nd T.lt le;subst e;have l16:(Rc λv=>decide (v.toNat∈L)).length<=16:=by rw[pm.length_eq,aJ];exact T.len
 have hf:H p=none:=I.hok.fresh hp;refine⟨.ref p,_,I.laid (t':=tk) (o:=.lst ((Rc λv=>decide (v.toNat∈L)).map V.int)) k hp ⟨?_,vs,n,Ez hi,ho⟩,Z,q p _ (gP.ou hf)⟩;rw[aJ,iU];omega
def CT(e:X.K=K):jF X (.builtin "sorted") (a3H K):=by
 subst e;intro Y s σ H xs us Q I r h;obtain⟨l,ns,rfl,hL,h64,q⟩:=h;obtain⟨u,rfl,rx⟩:=vals1 r;cases rx;obtain⟨b7,r',pl,hz⟩:=I.list hL;have hlen:=r'.length;rw[aJ]at hlen;refine sorted_ints (ns:=ns) pl.isList (ints_of r') () λout zs hi pm le=>?_;obtain⟨c,hc⟩:=sortedAll_at s.heap b7 out;refine⟨.ref (s⁻¹+1),_,I.laid (t':=s.toks) (o:=.lst (zs.map V.int)) (λb o eo=>sortedAll_old eo) (ye _) ⟨?_,out.toList,c,Ez hi,by simpa using hc⟩,Z,q _ _ zs (gP.ou (I.hok.fresh (ye _))) pm le⟩;rw[aJ,pm.length_eq,iU];omega
end
end L2
namespace L2
open PyProof.Rows
section
variable{K:aH}{a:Addr}{xs:List V}{ix:List (Option Nat)}{g:TG}{tt:TT}{te:TE}{σ:St}{H1:Hp}{Q:VK}
def a0R(f:V->Option V)(hx:cO K H1 a xs)(hz:xs.length<=1000)
  (hs:∀x H (N:Option V->Hp->Prop),x∈xs->aK H1 H->(∀H',aK H1 H'->N (f x) H')->g x (rA ix σ) H λσ2 H2=>tt σ2 H2 λb H3=>if b=true then te σ2 H3 λv H4=>N (some v) H4 else N none H3)
  (hd:∀H p H',aK H1 H->gP H p (.lst (xs.filterMap f)) H'->Q (.ref p) H'):nD ix g tt te σ H1 Q (Itt K a):=by
 refine⟨λi m ys H=>m=xs.length-i/\i<=xs.length/\ys=(xs.take i).filterMap f/\aK H1 H,⟨xs.length,by simp,dh _,Z,aK.refl _⟩,?_⟩;rintro i m ys H ⟨rfl,hi,e,s⟩;have q:=s.wR hx;have z:ys.length<=sizeLine:=by
  subst e;refine dI (Ua _ _) (dI ?_ (dU (cL hz)));rw[d7];exact UL _ _
 by_cases hlt:i<xs.length
 ·refine .inr ⟨⟨xs,xs[i],q,by simp[hlt]⟩,z,λys' H'=>ys'=(xs.take (i+1)).filterMap f/\aK H1 H',λys' H' p'=>⟨xs.length-(i+1),(),Z,hlt,p'⟩,λx H' y=>?_⟩;obtain⟨e',y⟩:=y;subst e';have hx':=y xs q;have hm:x∈xs:=jf hx';obtain⟨hil,hix⟩:=fu.mp hx';have et:xs.take (i+1)=xs.take i++[x]:=by rw[Ab hil,hix]
  refine hs x _ (λo H'=>match o with|some v=>(ys++[v]=(xs.take (i+1)).filterMap f/\aK H1 H')|none=>(ys=(xs.take (i+1)).filterMap f/\aK H1 H')) hm s λH' s'=>?_;cases ef:f x with
  |some v=>exact⟨by rw[e,et,xW];simp[ef],s'⟩
  |none=>exact⟨by rw[e,et,xW];simp[ef],s'⟩
 ·have ei:i=xs.length:=()
  subst ei;refine .inl ⟨⟨xs,q,aL _⟩,z,λp hp=>?_⟩;subst e;rw[iC];exact hd H p _ s (gP.ou hp)
end
section
variable{X:Cx}{K:aH}
inductive a5O(K:aH)(x:V)(lo:Option Int)(hi:Option Int)(H:Hp)(Q:VK):Prop
 |mk (a xs:_) (_:x=.ref a) (_:cO K H a xs) (_:¬(HT.lH xs.length 0 lo=0/\HT.lH xs.length xs.length hi=xs.length)) (_:∀p H',gP H p (.tup (vg xs lo hi)) H'->Q (.ref p) H')
def Hv(e:X.K=K):SlR X (a5O K):=by
 subst e;exact λY s σ H x v vl vu lo hi sl Q I rx hs pl pu ⟨a,xs,e,h,hw,q⟩=>Ĉ Y s σ H x v vl vu lo hi sl Q I rx hs pl pu ⟨a,xs,e,h,hw,λp hp=>q p _ (gP.ou hp)⟩
end
end L2
namespace L2
open PyProof.Rows
variable{H H':Hp}{J:List (List Key×V)}{h:Heap}{X:Cx}{w:World}{K:aH}{mg:Str->Option Value}{y:V}{u oc doc pm dz ct:Value}{pos:Pos}{P:Program}{a f b:Addr}{A:Type}{x:Str}{st:Stmt}{ps:List Str}{od an:Option Addr}{osl:Array (Option Value)}{o:Option V}{s:Shared}{Q:Value->Shared->Prop}
section
variable{κ:Type} [DecidableEq κ]
def gh(J:List (κ×V))(k:κ):Option V:=(J.find? λkv=>decide (kv.1=k)).map (·.2)
def putK(J:List (κ×V))(k:κ)(v:V):List (κ×V) :=
 if(J.any λkv=>decide (kv.1=k))=true then J.map (λkv=>if kv.1=k then(kv.1,v)else kv)else J++[(k,v)]
def lN{p:κ×V}{r:List (κ×V)}{k:κ}(e:p.1=k):gh (p::r) k=some p.2:=by simp[gh,List.find?_cons,e]
def lQ{p:κ×V}{r:List (κ×V)}{k:κ}(e:¬p.1=k):gh (p::r) k=gh r k:=by simp[gh,List.find?_cons,e]
theorem yw(k:κ):∀J:List (κ×V),(J.any λkv=>decide (kv.1=k))=(gh J k).isSome
 | []=>rfl
 |p::r=>by
  rw[tR]
  by_cases e:p.1=k
  ·simp only[lN e,decide_eq_true e,Bool.true_or,Option.isSome_some]
  ·rw[lQ e,cW e,Bool.false_or];exact yw k r
theorem RT(k j:κ)(y:V):∀J:List (κ×V),gh (J.map λkv=>if kv.1=k then(kv.1,y)else kv) j=(gh J j).map λx=>if j=k then y else x
 | []=>rfl
 |p::r=>by
  have ih:=RT k j y r
  rw[bV]
  by_cases h:p.1=k
  ·rw[aF h]
   by_cases e:p.1=j
   ·rw[lN (p:=(p.1,y)) e,lN e,IV,aF (e.symm.trans h)]
   ·rw[lQ (p:=(p.1,y)) e,lQ e,ih]
  ·rw[aq h]
   by_cases e:p.1=j
   ·rw[lN (p:=p) e,lN e,IV,aq (λz=>h (e.trans z))]
   ·rw[lQ (p:=p) e,lQ e,ih]
theorem tH(k j:κ)(y:V):∀J:List (κ×V),gh J k=none->gh (J++[(k,y)]) j=if j=k then some y else gh J j
 | [],_=>by
  by_cases e:k=j
  ·rw[aF e.symm];exact lN (p:=(k,y)) e
  ·rw[aq (λz=>e z.symm)];exact lQ (p:=(k,y)) e
 |p::r,hn=>by
  rw[U5]
  have hk:¬p.1=k:=λz=>by rw[lN z]at hn;cases hn
  rw[lQ hk]at hn
  have ih:=tH k j y r hn
  by_cases e:p.1=j
  ·rw[lN e,lN e,aq (λz=>hk (e.trans z))]
  ·rw[lQ e,lQ e,ih]
def İ(J:List (κ×V))(k j:κ)(y:V):gh (putK J k y) j=if j=k then some y else gh J j:=by
 unfold putK;by_cases a:(J.any λkv=>decide (kv.1=k))=true
 ·rw[aF a,RT];rw[yw]at a;by_cases e:j=k
  ·obtain⟨x,hx⟩:=ó.mp a;rw[aF e,e,hx,IV,aF rfl]
  ·rw[aq e];cases gh J j with
   |none=>rfl
   |some x=>rw[IV,aq e]
 ·rw[aq a];refine tH k j y J ?_;rw[yw]at a;cases q:gh J k with
  |none=>rfl
  |some x=>rw[q]at a;exact(a Z).elim
def uO(J:List (κ×V))(k:κ)(v:V):(putK J k v).length<=J.length+1:=by
 unfold putK;split
 ·rw[aJ];omega
 ·rw[cA,jE,List.length_nil];omega
def ı{J:List (κ×V)}{k:κ}(v:V)(h:gh J k=none):putK J k v=J++[(k,v)]:=by
 unfold putK;rw[yw,h];exact aq ()
def sX.EY{u:Option Value}(r:sX o u):o.isSome=u.isSome:=by
 cases o with
 |none=>cases u with
  |none=>rfl
  |some _=>exact(show False from r).elim
 |some _=>cases u with
  |none=>exact(show False from r).elim
  |some _=>rfl
def sX.getD{o:Option V}{u:Option Value}{d:V}{d':Value}(r:sX o u)(rd:cQ d d'):cQ (o.getD d) (u.getD d'):=by
 cases o with
 |none=>cases u with
  |none=>exact rd
  |some _=>exact(show False from r).elim
 |some _=>cases u with
  |none=>exact(show False from r).elim
  |some _=>exact r
def KV.val{J:List (κ×V)}{vs:List (κ×Value)}(r:KV J vs)(k:κ):sX (gh J k) (valueAt vs k):=by
 unfold KV at r
 induction r with
 |nil=>exact mL
 | @cons p q ps qs h t ih =>
  obtain⟨h1,h2⟩:=h;by_cases e:p.1=k
  ·have e':q.1=k:=h1.symm.trans e;have b:valueAt (q::qs) k=some q.2:=by simp[valueAt,List.find?_cons,e']
   rw[lN e,b];exact h2
  ·have e':¬q.1=k:=λz=>e (h1.trans z);have b:valueAt (q::qs) k=valueAt qs k:=by simp[valueAt,List.find?_cons,e']
   rw[lQ e,b];exact ih
def KV.any{J:List (κ×V)}{vs:List (κ×Value)}(r:KV J vs)(k:κ):(J.any λkv=>decide (kv.1=k))=vs.any λkv=>decide (kv.1=k):=by
 unfold KV at r
 induction r with
 |nil=>rfl
 |cons h t ih=>rw[tR,tR,ih,h.1]
def KV.repl{J:List (κ×V)}{vs:List (κ×Value)}(r:KV J vs)(k:κ)(ry:cQ y u) :
  KV (J.map λkv=>if kv.1=k then(kv.1,y)else kv) (vs.map λkv=>if kv.1=k then(kv.1,u)else kv):=by
 unfold KV at r ⊢
 induction r with
 |nil=>exact .nil
 | @cons p q ps qs h t ih =>
  rw[bV,bV];refine .cons ?_ ih;obtain⟨h1,h2⟩:=h;by_cases e:p.1=k
  ·rw[aF e,aF (h1.symm.trans e)];exact⟨h1,ry⟩
  ·rw[aq e,aq (λz=>e (h1.trans z))];exact⟨h1,h2⟩
def KV.put{J:List (κ×V)}{vs:List (κ×Value)}(r:KV J vs)(k:κ)(ry:cQ y u):KV (putK J k y) (stored vs k u):=by
 unfold putK stored;rw[r.any k];by_cases e:(vs.any λkv=>decide (kv.1=k))=true
 ·rw[aF e,aF e];exact r.repl k ry
 ·rw[aq e,aq e];exact Paired.snoc r ⟨Z,ry⟩
def KV.length{J:List (κ×V)}{vs:List (κ×Value)}(r:KV J vs):J.length=vs.length:=aM r
end
def RV{k:Key}(r:cQ (kV k) u):(dJ P w).is k u=true:=by
 cases k with
 |inl i=>obtain⟨t,e⟩:=(show ∃t,u=Value.int i t from r);subst e;exact Rg P w i t
 |inr x=>obtain⟨t,e⟩:=(show ∃t,u=Value.str x t from r);subst e;exact gD P w x t
theorem MK{P:Program}{w:World}:∀{ks:List Key}{us:List Value},cP (ks.map kV) us->ItemsAre (dJ P w) ks us
 | [],_,r=>by rw[List.map_nil]at r;cases r;exact .nil
 |k::ks,_,r=>by
  rw[bV]at r
  cases r with
  |cons h t=>exact .cons (RV h) (MK t)
abbrev KT(H:Hp):List (List Key×V)->List (List Key×Addr×Value)->Prop:=Paired λp q=>p.1=q.1/\H q.2.1=some (.tup (p.1.map kV))/\cQ p.2 q.2.2
def KT.val{xs:List (List Key×Addr×Value)}(r:KT H J xs)(k:List Key):sX (gh J k) ((atKey xs k).map (·.2)):=by
 induction r with
 |nil=>exact mL
 | @cons p q ps qs h t ih =>
  obtain⟨h1,_,h2⟩:=h;by_cases e:p.1=k
  ·have e':q.1=k:=h1.symm.trans e;have b:atKey (q::qs) k=some q.2:=by simp[atKey,List.find?_cons,e']
   rw[lN e,b];exact h2
  ·have e':¬q.1=k:=λz=>e (h1.trans z);have b:atKey (q::qs) k=atKey qs k:=by simp[atKey,List.find?_cons,e']
   rw[lQ e,b];exact ih
def KT.repl{xs:List (List Key×Addr×Value)}(r:KT H J xs)(k:List Key)(ry:cQ y u) :
  KT H (J.map λkv=>if kv.1=k then(kv.1,y)else kv) (xs.map (putAt k u)):=by
 induction r with
 |nil=>exact .nil
 | @cons p q ps qs h t ih =>
  rw[bV,bV];refine .cons ?_ ih;obtain⟨h1,h2,h3⟩:=h;unfold putAt;by_cases e:p.1=k
  ·rw[aF e,aF (h1.symm.trans e)];exact⟨h1,h2,ry⟩
  ·rw[aq e,aq (λz=>e (h1.trans z))];exact⟨h1,h2,h3⟩
def KT.put{xs:List (List Key×Addr×Value)}(r:KT H J xs)(k:List Key)(hb:H b=some (.tup (k.map kV)))(ry:cQ y u) :
  KT H (putK J k y) (storedH xs k b u):=by
 have e:(J.any λkv=>decide (kv.1=k))=(atKey xs k).isSome:=by
  rw[yw,(r.val k).EY,Option.isSome_map]
 unfold putK storedH;rw[e];by_cases q:(atKey xs k).isSome=true
 ·rw[aF q,aF q];exact r.repl k ry
 ·rw[aq q,aq q];exact Paired.snoc r ⟨Z,hb,ry⟩
def KT.keeps{xs:List (List Key×Addr×Value)}(r:KT H J xs)(ht:∀b ys,H b=some (.tup ys)->H' b=some (.tup ys)):KT H' J xs :=
 Paired.cC r λ_ _ z=>⟨z.1,ht _ _ z.2.1,z.2.2⟩
def a2s{u:HO}(ok:zO P w H h)(e:Rd H a u):fM P w H h a u:=e.ok ok
def XF{J:List (Key×V)}(ok:zO P w H h)(e:Rd H a (.dK J)):J.length<=sizeLine/\(a==sysModules)=false/\∃vs,KV J vs/\h.DictOf (dJ P w) a vs :=
 show fM P w H h a (.dK J)from a2s ok e
def a5P{J:List (Key×V)}(ok:zO P w H h)(e:H a=some (.dK J)):J.length<=sizeLine/\(a==sysModules)=false/\∃vs,KV J vs/\h.DictOf (dJ P w) a vs:=XF ok (.inl e)
def Bc{ks:List Key}(ok:zO P w H h)(e:H a=some (.tup (ks.map kV))):(tupleKind (dJ P w)).is h ks a:=by
 obtain⟨_,b7,r,o,h1,h2,n,h3⟩:=(show fM P w H h a (.tup (ks.map kV))from ok a _ e);exact⟨o,b7.toArray,n,h1,h2,h3,by simpa using MK r⟩
def RW(ok:zO P w H h)(e:Rd H a (.dT J)):J.length<=sizeLine/\(a==sysModules)=false/\
  ∃xs,KT H J xs/\h.DictOfH (tupleKind (dJ P w)) a xs:=by
 obtain⟨z,y,xs,r,o,es,ep,h1,h2,h3,h4,h5⟩:=(show fM P w H h a (.dT J)from a2s ok e);refine⟨z,y,xs,r,o,es,ep,h1,h2,h3,h4,λx hx=>?_,h5⟩;have all:∀{l:List (List Key×V)}{m:List (List Key×Addr×Value)},KT H l m->∀x∈m,(tupleKind (dJ P w)).is h x.1 x.2.1:=by
  intro l m q
  induction q with
  |nil=>intro x hx;exact nomatch hx
  | @cons p q ps qs hq t ih =>
   intro x hx;rcases cB.mp hx with e|hx
   ·subst e;exact Bc ok (by rw[<-hq.1];exact hq.2.1)
   ·exact ih x hx
 exact all r x hx
def vM(ok:zO P w H h)(e:H a=some (.dT J)):J.length<=sizeLine/\(a==sysModules)=false/\
  ∃xs,KT H J xs/\h.DictOfH (tupleKind (dJ P w)) a xs:=RW ok (.inl e)
def Qq(H:Hp)(a:Addr)(y:V)(r:Option V):Prop :=
 (∃J k,Rd H a (.dK J)/\y=kV k/\r=gh J k)\/∃J k b,Rd H a (.dT J)/\y=.ref b/\H b=some (.tup (k.map kV))/\r=gh J k
def a0S(H:Hp)(a:Addr)(y v:V)(H':Hp):Prop :=
 (∃J k,H a=some (.dK J)/\y=kV k/\J.length<sizeLine/\H'=cN H a (.dK (putK J k v)))\/
 ∃J k b,H a=some (.dT J)/\y=.ref b/\H b=some (.tup (k.map kV))/\J.length<sizeLine/\H'=cN H a (.dT (putK J k v))
def Qq.t{k:List Key}(e:H a=some (.dT J))(eb:H b=some (.tup (k.map kV))):Qq H a (.ref b) (gh J k):=.inr ⟨J,k,b,.inl e,Z,eb,Z⟩
def a0S.t{k:List Key}{v:V}(e:H a=some (.dT J))(eb:H b=some (.tup (k.map kV)))(hl:J.length<sizeLine) :
  a0S H a (.ref b) v (cN H a (.dT (putK J k v))):=.inr ⟨J,k,b,e,Z,eb,hl,Z⟩
section
variable{Y:List (Addr×Obj)}{σ:St}{v:V}{r:Value}{A:Around}{E:Value->Shared->Prop}
def bG.big(I:bG X Y σ H s):sysModules<s⁻¹:=by
 have h:mainGlobals<s⁻¹:=(I.mod.glob.keeps I.bk).lt;exact vd () h
def Zw(hu:A.units+1<cLine)(I:bG X Y σ H s)(g:Qq H a y (some v))(ry:cQ y u)(h:∀w' s',bG X Y σ H s'->cQ v w'->Q w' s') :
  wpAny (model X.prog X.w) A (getItem (.ref a) u) Q E s:=by
 rcases g with⟨J,k,e,ey,l⟩|⟨J,k,b,e,ey,eb,l⟩
 ·subst ey;obtain⟨z,hd,vs,rel,dd⟩:=XF I.hok e;obtain⟨w',hw,Y7⟩:=sX.some_of (v:=v) (o:=valueAt vs k) (by rw[l];exact rel.val k);exact wpAny_getItem_of (RV ry) dd.mapOf hw (h w' _ (I.tok _) Y7)
 ·subst ey;cases(show u=Value.ref b from ry);obtain⟨z,hd,xs,rel,dd⟩:=RW I.hok e;obtain⟨w',hw,Y7⟩:=sX.some_of (v:=v) (o:=(atKey xs k).map (·.2)) (by rw[l];exact rel.val k);obtain⟨p,hp,hp2⟩:=lC.mp hw;refine wpAny_getItem_heap (wC hu) (Bc I.hok eb) dd hp ?_;rw[hp2];exact h w' _ (I.tok _) Y7
def a7w(hu:A.units+1<cLine)(I:bG X Y σ H s)(g:Qq H a y o)(ry:cQ y u)(h:∀s',bG X Y σ H s'->Q (.bool o.isSome) s') :
  wpAny (model X.prog X.w) A (compareOp .In u (.ref a)) Q E s:=by
 rcases g with⟨J,k,e,ey,l⟩|⟨J,k,b,e,ey,eb,l⟩
 ·subst ey;obtain⟨z,hd,vs,rel,dd⟩:=XF I.hok e;refine wpAny_in_of (RV ry) hd dd.mapOf ?_;rw[<-(rel.val k).EY,<-l];exact h _ (I.tok _)
 ·subst ey;cases(show u=Value.ref b from ry);obtain⟨z,hd,xs,rel,dd⟩:=RW I.hok e;refine wpAny_in_heap (wC hu) (Bc I.hok eb) hd dd ?_;have q:=(rel.val k).EY;rw[Option.isSome_map]at q;rw[<-q,<-l];exact h _ (I.tok _)
def Hw{h':Heap}{t':Nat}{ob:HO}(I:bG X Y σ H s)(mu:Mut (H a))(hs:Heap.SameBut a s.heap h')(he:∃q,h'.get? a=some q)(new:fM X.prog X.w (cN H a ob) h' a ob) :
  bG X Y σ (cN H a ob) { s with heap:=h',toks:=t'} :=
 I.write (x:=a) (e:=a) mu (.inl Z) (λb q hb z=>(hs.2 b hb).trans z) he new
def a3J{h':Heap}{J:List (Key×V)}{vs:List (Key×Value)}(z:J.length<=sizeLine)(hd:(a==sysModules)=false)(rel:KV J vs)(dd:h'.DictOf (dJ P w) a vs) :
  fM P w H' h' a (.dK J):=⟨z,hd,vs,rel,dd⟩
def Zx{Q:Unit->Shared->Prop}(hu:A.units+1<cLine)(I:bG X Y σ H s)(g:a0S H a y v H')(ry:cQ y u)(rv:cQ v r)(h:∀s',bG X Y σ H' s'->Q ⟨⟩ s') :
  wpAny (model X.prog X.w) A (setItem (.ref a) u r) Q E s:=by
 rcases g with⟨J,k,e,ey,l,eH⟩|⟨J,k,b,e,ey,eb,l,eH⟩
 ·subst ey eH;obtain⟨z,hd,vs,rel,dd⟩:=a5P I.hok e;have hz:vs.length<=sizeLine:=by rw[<-rel.length];exact z
  have hl:(putK J k v).length<=sizeLine:=by have:=uO J k v;omega
  refine wpAny_setItem_pairs (hsz:=hz) (RV ry) dd λh' dd' hs=>h _ ?_;have he:∃q,h'.get? a=some q:=let⟨q,_,_,hq,_⟩:=dd';⟨q,hq⟩
  exact Hw I (by rw[e];exact mL) hs he (a3J hl hd (rel.put k rv) dd')
 ·subst ey eH;cases(show u=Value.ref b from ry);obtain⟨z,hd,xs,rel,dd⟩:=vM I.hok e;have hz:xs.length<=sizeLine:=by rw[<-aM rel];exact z
  have hl:(putK J k v).length<=sizeLine:=by have:=uO J k v;omega
  refine wpAny_setItem_heap (hsz:=hz) (wC hu) (Bc I.hok eb) dd λh' dd' hs=>h _ ?_;obtain⟨q,es,ep,hq,h2,h3,h4,_,h5⟩:=dd';refine Hw I (by rw[e];exact mL) hs ⟨q,hq⟩ ⟨hl,hd,_,(rel.put k eb rv).keeps λc ys ec=>?_,q,es,ep,hq,h2,h3,h4,h5⟩;rw[aU (Xa ec e λz=>nomatch z)];exact ec
end
def a3K(i:Expr):Prop:=∀ov iv,subscripted i false ov iv=operate [ov,iv] (getItem ov iv)
def XH{prog:Program}{A:Around}{E:Value->Shared->Prop}{env:Env}{value slice:Expr}{T id:String}
  (hl:typeLookup (.type T) "__getitem__" = pure (some (.builtin id))) (hs:a3K slice)
  (h:wpAny (model prog w) A (eval value env) (λo s₁=>wpAny (model prog w) A (eval slice env) (λi s₂=>s₂.TypeIs o T/\wpAny (model prog w) A (getItem o i) Q E s₂) E s₁) E s) :
  wpAny (model prog w) A (eval (.Subscript value slice pos) env) Q E s:=by
 refine Subscript_ (iH h (λo s₁ h₁=>iH h₁ (λi s₂ h₂=>?_) λ_ _ x=>x) λ_ _ x=>x);obtain⟨hT,h₂⟩:=h₂;unfold subscriptTail;refine M ?_;rw[getitemInPython_of_ne hT.not_modules];refine M (Aq hT hl ?_);have fin:wpAny (model prog w) A (subscripted slice false o i) (λr s₃=>wpAny (model prog w) A (letTemporaryGo value o r >>= λ_=>pure r) Q E s₃) E s₂:=by
  rw[hs o i];exact wpAny_operating (iH h₂ (λr s₃ h₃=>M (wpAny_letTemporaryGo (ao h₃))) λ_ _ x=>x)
 first
  |exact ao (M fin)
  |exact M (ao (M fin))
  |exact M fin
def RX{Y:List (Addr×Obj)}{σ:St}(I:bG X Y σ H s)(g:Qq H a y o):s.TypeIs (.ref a) "dict" := by
 rcases g with⟨J,k,e,_,_⟩|⟨J,k,b,e,_,_,_⟩
 ·obtain⟨_,_,vs,_,dd⟩:=XF I.hok e;exact dd.typeIs
 ·obtain⟨_,_,xs,_,dd⟩:=RW I.hok e;exact dd.typeIs
def a5Q(td ty:TE):TE:=λσ H Q=>td σ H λx H1=>ty σ H1 λy H2=>∃a v,x=.ref a/\Qq H2 a y (some v)/\Q v H2
section
variable{o i e value:Expr}{pos' tpos:Pos}{td ty tv:TE}
def XJ(hu:X.A.units+1<cLine)(ho:PE X o td)(hi:PE X i ty)(hs:a3K i):PE X (.Subscript o i pos) (a5Q td ty):=by
 intro Y s σ H Q I h;refine XH PySem.F.slot_dict_getitem.lookup hs (jr (ho Y s σ H _ I h) λu s1 ⟨x,H1,I1,rx,q1⟩=>jr (hi Y s1 σ H1 _ I1 q1) λiv s2 ⟨y,H2,I2,ry,a,v,ex,g,q2⟩=>?_);subst ex;obtain rfl:u=Value.ref a:=rx;exact⟨RX I2 g,Zw hu I2 g ry λw' s3 I3 Y7=>⟨v,H2,I3,Y7,q2⟩⟩
end
def RZ(h:Heap)(hb:sysModules<h.objs.size):fM P w H (h.push { cls:=.type "dict",data:=.dict #[]}) h.objs.size (.dT []) :=
 ⟨dh _,wA.mpr (Ne.symm (bY hb)),[],.nil,_,#[],0,bU _ Z,⟨Z,Z,Z⟩,Z,Z,Ar⟩
def a3L:TE:=λ_ H Q=>∀p,H p=none->Q (.ref p) (cN H p (.dT []))
def Jx:PE X (.Dict [] [] pos) a3L:=λY s σ H Q I h =>
 wpAny_Dict_empty ⟨.ref s⁻¹,_,I.laid (a:=s⁻¹) (o:=.dT []) (t':=s.toks) (λ_ _ q=>bB _ q) (aL _) (RZ s.heap I.big),Z,h _ (I.hok.fresh (aL _))⟩
def Wb:List (TE×TE)->St->Hp->(List (V×V)->Hp->Prop)->Prop
 | [],_,H,Q=>Q [] H
 |(tk,tv)::r,σ,H,Q=>tk σ H λx H1=>tv σ H1 λy H2=>Wb r σ H2 λps H3=>Q ((x,y)::ps) H3
abbrev VV:List (V×V)->List (Value×Value)->Prop:=Paired λp q=>cQ p.1 q.1/\cQ p.2 q.2
def PPs(X:Cx)(pos:Pos)(keys:List (Option Expr))(values:List Expr)(R0:List (TE×TE)):Prop :=
 ∀(Y:List (Addr×Obj)) (s:Shared) (σ:St) (H:Hp) (Q:List (V×V)->Hp->Prop),bG X Y σ H s->Wb R0 σ H Q->
  wpAny (model X.prog X.w) X.A (evalPairs (pairTrees keys values X.env pos)) (λvs s'=>∃ps H',bG X Y σ H' s'/\VV ps vs/\Q ps H') X.xe s
def a0T:PPs X pos [] [] []:=λY s σ H Q I h=>pairTrees_nil_walk ⟨[],H,I,.nil,h⟩
def Ĵ{k v:Expr}{ks:List (Option Expr)}{vs:List Expr}{tk tv:TE}{R0:List (TE×TE)}(hk:PE X k tk)(hv:PE X v tv)(hr:PPs X pos ks vs R0) :
  PPs X pos (some k::ks) (v::vs) ((tk,tv)::R0):=λY s σ H Q I h =>
 pairTrees_cons_walk (jr (hk Y s σ H _ I h) λu s1 ⟨x,H1,I1,rx,q1⟩=>jr (hv Y s1 σ H1 _ I1 q1) λw2 s2 ⟨y,H2,I2,ry,q2⟩ =>
  jr (hr Y s2 σ H2 _ I2 q2) λws s3 ⟨ps,H3,I3,rel,q3⟩=>⟨(x,y)::ps,H3,I3,.cons ⟨rx,ry⟩ rel,q3⟩)
inductive a5R(x:V)(vs:List V)(H:Hp)(Q:VK):Prop
 |mk (l xs y:_) (_:x=.ref l) (_:vs=[]) (_:H l=some (.lst (xs++[y]))) (_:∀H',vo H l (.lst xs) H'->Q y H')
def Hx:Ro X "list.pop" a5R:=a3i.weak λx vs H Q ⟨l,xs,y,e1,e2,h,q⟩=>⟨l,xs++[y],y,e1,e2,h,(by simp),(by
 have:=q _ (vo.ou (H:=H) (l:=l) (o:=.lst xs));grind)⟩
def us1{us:List A}{P:List A->Prop}(h:us.length=1)(f:∀a,P [a]):P us:=by
 cases us with
 |nil=>cases h
 |cons a r =>
  cases r with
  |nil=>exact f a
  |cons=>cases h
def us2{us:List A}{P:List A->Prop}(h:us.length=2)(f:∀a b,P [a,b]):P us:=by
 cases us with
 |nil=>cases h
 |cons a r=>exact us1 (P:=λr=>P (a::r)) (Pj h) (f a)
def us3{us:List A}{P:List A->Prop}(h:us.length=3)(f:∀a b c,P [a,b,c]):P us:=by
 cases us with
 |nil=>cases h
 |cons a r=>exact us2 (P:=λr=>P (a::r)) (Pj h) (f a)
def us4{us:List A}{P:List A->Prop}(h:us.length=4)(f:∀a b c d,P [a,b,c,d]):P us:=by
 cases us with
 |nil=>cases h
 |cons a r=>exact us3 (P:=λr=>P (a::r)) (Pj h) (f a)
def us5{us:List A}{P:List A->Prop}(h:us.length=5)(f:∀a b c d e,P [a,b,c,d,e]):P us:=by
 cases us with
 |nil=>cases h
 |cons a r=>exact us4 (P:=λr=>P (a::r)) (Pj h) (f a)
def Fb{kV:Value}(X:K.In h)(G:h.Ns mainGlobals mg)
  (a:PySem.W.nsIn K mainGlobals x=some (some (.ref f))) (l:K.lookup f=some ⟨oc,od,.func (PySem.W.fnOf x x (dX st) (dF st) (aB st) .none kV doc pm an dz ct),osl⟩) (c:PySem.W.codeIn K dz x=true) (k:PySem.W.keepIn K (.ref f)=true)
  (hp:ps.length=1)
  (hb:∀(kV doc pm:Value) (an:Option Addr) (dz ct:Value) (u0:Value),bindArgs (PySem.W.fnOf x x (dX st) (dF st) (aB st) .none kV doc pm an dz ct) ⟨[u0],[]⟩=pure (ps.zip [u0])) :
  Nonempty (Dn K mg x st ps) :=
 Rv X G a l c k λkV doc pm an dz ct us hl=>us1 (P:=λus=>bindArgs (PySem.W.fnOf x x (dX st) (dF st) (aB st) .none kV doc pm an dz ct) ⟨us,[]⟩=pure (ps.zip us)) (hl.trans hp) λu0=>hb kV doc pm an dz ct u0
def ud{kV:Value}(X:K.In h)(G:h.Ns mainGlobals mg)
  (a:PySem.W.nsIn K mainGlobals x=some (some (.ref f))) (l:K.lookup f=some ⟨oc,od,.func (PySem.W.fnOf x x (dX st) (dF st) (aB st) .none kV doc pm an dz ct),osl⟩) (c:PySem.W.codeIn K dz x=true) (k:PySem.W.keepIn K (.ref f)=true)
  (hp:ps.length=2)
  (hb:∀(kV doc pm:Value) (an:Option Addr) (dz ct:Value) (u0 u1:Value),bindArgs (PySem.W.fnOf x x (dX st) (dF st) (aB st) .none kV doc pm an dz ct) ⟨[u0,u1],[]⟩=pure (ps.zip [u0,u1])) :
  Nonempty (Dn K mg x st ps) :=
 Rv X G a l c k λkV doc pm an dz ct us hl=>us2 (P:=λus=>bindArgs (PySem.W.fnOf x x (dX st) (dF st) (aB st) .none kV doc pm an dz ct) ⟨us,[]⟩=pure (ps.zip us)) (hl.trans hp) λu0 u1=>hb kV doc pm an dz ct u0 u1
def Fd{kV:Value}(X:K.In h)(G:h.Ns mainGlobals mg)
  (a:PySem.W.nsIn K mainGlobals x=some (some (.ref f))) (l:K.lookup f=some ⟨oc,od,.func (PySem.W.fnOf x x (dX st) (dF st) (aB st) .none kV doc pm an dz ct),osl⟩) (c:PySem.W.codeIn K dz x=true) (k:PySem.W.keepIn K (.ref f)=true)
  (hp:ps.length=3)
  (hb:∀(kV doc pm:Value) (an:Option Addr) (dz ct:Value) (u0 u1 u2:Value),bindArgs (PySem.W.fnOf x x (dX st) (dF st) (aB st) .none kV doc pm an dz ct) ⟨[u0,u1,u2],[]⟩=pure (ps.zip [u0,u1,u2])) :
  Nonempty (Dn K mg x st ps) :=
 Rv X G a l c k λkV doc pm an dz ct us hl=>us3 (P:=λus=>bindArgs (PySem.W.fnOf x x (dX st) (dF st) (aB st) .none kV doc pm an dz ct) ⟨us,[]⟩=pure (ps.zip us)) (hl.trans hp) λu0 u1 u2=>hb kV doc pm an dz ct u0 u1 u2
def Fe{kV:Value}(X:K.In h)(G:h.Ns mainGlobals mg)
  (a:PySem.W.nsIn K mainGlobals x=some (some (.ref f))) (l:K.lookup f=some ⟨oc,od,.func (PySem.W.fnOf x x (dX st) (dF st) (aB st) .none kV doc pm an dz ct),osl⟩) (c:PySem.W.codeIn K dz x=true) (k:PySem.W.keepIn K (.ref f)=true)
  (hp:ps.length=4)
  (hb:∀(kV doc pm:Value) (an:Option Addr) (dz ct:Value) (u0 u1 u2 u3:Value),bindArgs (PySem.W.fnOf x x (dX st) (dF st) (aB st) .none kV doc pm an dz ct) ⟨[u0,u1,u2,u3],[]⟩=pure (ps.zip [u0,u1,u2,u3])) :
  Nonempty (Dn K mg x st ps) :=
 Rv X G a l c k λkV doc pm an dz ct us hl=>us4 (P:=λus=>bindArgs (PySem.W.fnOf x x (dX st) (dF st) (aB st) .none kV doc pm an dz ct) ⟨us,[]⟩=pure (ps.zip us)) (hl.trans hp) λu0 u1 u2 u3=>hb kV doc pm an dz ct u0 u1 u2 u3
def a3M{kV:Value}(X:K.In h)(G:h.Ns mainGlobals mg)
  (a:PySem.W.nsIn K mainGlobals x=some (some (.ref f))) (l:K.lookup f=some ⟨oc,od,.func (PySem.W.fnOf x x (dX st) (dF st) (aB st) .none kV doc pm an dz ct),osl⟩) (c:PySem.W.codeIn K dz x=true) (k:PySem.W.keepIn K (.ref f)=true)
  (hp:ps.length=5)
  (hb:∀(kV doc pm:Value) (an:Option Addr) (dz ct:Value) (u0 u1 u2 u3 u4:Value),bindArgs (PySem.W.fnOf x x (dX st) (dF st) (aB st) .none kV doc pm an dz ct) ⟨[u0,u1,u2,u3,u4],[]⟩=pure (ps.zip [u0,u1,u2,u3,u4])) :
  Nonempty (Dn K mg x st ps) :=
 Rv X G a l c k λkV doc pm an dz ct us hl=>us5 (P:=λus=>bindArgs (PySem.W.fnOf x x (dX st) (dF st) (aB st) .none kV doc pm an dz ct) ⟨us,[]⟩=pure (ps.zip us)) (hl.trans hp) λu0 u1 u2 u3 u4=>hb kV doc pm an dz ct u0 u1 u2 u3 u4
def Gh:List (Key×V):=[(.inr "leaf",.int 0),(.inr "in",.int 1),(.inr "tie",.int 1),(.inr "out",.int 1),(.inr "join",.int 2)]
set_option genInjectivity false in
structure Used(w:World)(K:aH)(mg:Str->Option Value) where
 d:Addr
 m:mg "USED" = some (.ref d)
 es:Array DictEntry
 ep:Nat
 l:K.lookup d=some ⟨.type "dict",none,.dict es ep,#[]⟩
 ks:∃t0 t1 t2 t3 t4 t5 t6 t7 t8 t9:Tok,es = #[⟨PyData.keyHash w.params "leaf",.str "leaf" t0,.int 0 t1⟩,⟨PyData.keyHash w.params "in",.str "in" t2,.int 1 t3⟩,⟨PyData.keyHash w.params "tie",.str "tie" t4,.int 1 t5⟩,⟨PyData.keyHash w.params "out",.str "out" t6,.int 1 t7⟩,⟨PyData.keyHash w.params "join",.str "join" t8,.int 2 t9⟩]
def a0U{d:Addr}{es:Array DictEntry}{ep:Nat}(X:K.In h)(G:h.Ns mainGlobals mg)
  (a:PySem.W.nsIn K mainGlobals "USED" = some (some (.ref d))) (l:K.lookup d=some ⟨.type "dict",none,.dict es ep,#[]⟩)
  (ks:∃t0 t1 t2 t3 t4 t5 t6 t7 t8 t9:Tok,es = #[⟨PyData.keyHash w.params "leaf",.str "leaf" t0,.int 0 t1⟩,⟨PyData.keyHash w.params "in",.str "in" t2,.int 1 t3⟩,⟨PyData.keyHash w.params "tie",.str "tie" t4,.int 1 t5⟩,⟨PyData.keyHash w.params "out",.str "out" t6,.int 1 t7⟩,⟨PyData.keyHash w.params "join",.str "join" t8,.int 2 t9⟩]):Nonempty (Used w K mg) :=
 ⟨⟨d,Jb X G a,es,ep,l,ks⟩⟩
def Used.dict(U:Used w K mg)(X:K.In h):∃vs,KV Gh vs/\h.DictOf (dJ P w) U.d vs:=by
 obtain⟨t0,t1,t2,t3,t4,t5,t6,t7,t8,t9,e⟩:=U.ks;refine⟨[(.inr "leaf",.int 0 t1),(.inr "in",.int 1 t3),(.inr "tie",.int 1 t5),(.inr "out",.int 1 t7),(.inr "join",.int 2 t9)],?_,_,U.es,U.ep,X _ _ U.l,⟨Z,Z,Z⟩,Z,?_,?_,?_⟩
 ·exact .cons ⟨Z,t1,Z⟩ (.cons ⟨Z,t3,Z⟩ (.cons ⟨Z,t5,Z⟩ (.cons ⟨Z,t7,Z⟩ (.cons ⟨Z,t9,Z⟩ .nil))))
 ·rw[e];intro x hx;simp only[Array.mem_def,List.mem_cons,List.not_mem_nil,or_false]at hx;rcases hx with rfl|rfl|rfl|rfl|rfl
  ·exact⟨.inr "leaf",gD P w _ _,Z⟩
  ·exact⟨.inr "in",gD P w _ _,Z⟩
  ·exact⟨.inr "tie",gD P w _ _,Z⟩
  ·exact⟨.inr "out",gD P w _ _,Z⟩
  ·exact⟨.inr "join",gD P w _ _,Z⟩
 ·rw[e];exact .cons (gD P w _ _) Z (.cons (gD P w _ _) Z (.cons (gD P w _ _) Z (.cons (gD P w _ _) Z (.cons (gD P w _ _) Z .nil))))
 ·show([.inr "leaf",.inr "in",.inr "tie",.inr "out",.inr "join"]:List Key).Nodup;decide
def a5S(ty:TE):TE:=λσ H Q=>ty σ H λy H1=>∃k v,y=kV k/\gh Gh k=some v/\Q v H1
section
variable{i:Expr}{np:Pos}{ty:TE}
def a0V(U:Used X.w X.K X.mg)(hg:Gl X "USED")(hi:PE X i ty)(hs:a3K i):PE X (.Subscript (.Name "USED" np) i pos) (a5S ty):=by
 intro Y s σ H Q I h;refine XH PySem.F.slot_dict_getitem.lookup hs (Ca I hg U.m (jr (hi Y s σ H _ I h) λiv s2 ⟨y,H2,I2,ry,k,v,ey,hv,q2⟩=>?_));subst ey;obtain⟨vs,rel,dd⟩:=U.dict (P:=X.prog) I2.DR;obtain⟨w',hw,Y7⟩:=sX.some_of (v:=v) (o:=valueAt vs k) (by rw[<-hv];exact rel.val k);exact⟨dd.typeIs,wpAny_getItem_of (RV ry) dd.mapOf hw ⟨v,H2,I2.tok _,Y7,q2⟩⟩
end
end L2
namespace L2
open PyProof.Rows Bg
def Wc(K:aH)(H:Hp)(v:V)(ns:List Int):Prop:=∃p,v=.ref p/\bC K H p (ns.map V.int)
end L2
namespace L2
open PyProof.Rows
structure Dm(K:aH)(C:Addr)(m qual:Str)(st:Stmt)(ps:List Str) where
 f:Addr
 fd:FuncData
 F:Fun K m qual st f fd
 b:Binds K fd ps []
 mt:Meth K C m f
def oR{K:aH}{C:Addr}{m qual:Str}{st:Stmt}{ps:List Str}{f:Addr}{oc:Value}{od an:Option Addr}{osl:Array (Option Value)}{kV doc pm dz ct:Value}
  (a:PySem.W.findIn K (.ref C) m=some (some (.ref f))) (i:PySem.W.isFn K (.ref f)=true)
  (l:K.lookup f=some ⟨oc,od,.func (PySem.W.fnOf m qual (dX st) (dF st) (aB st) .none kV doc pm an dz ct),osl⟩) (c:PySem.W.codeIn K dz qual=true) (k:PySem.W.keepIn K (.ref f)=true)
  (h:∀(kV doc pm:Value) (an:Option Addr) (dz ct:Value) (us:List Value),us.length=ps.length->bindArgs (PySem.W.fnOf m qual (dX st) (dF st) (aB st) .none kV doc pm an dz ct) ⟨us,[]⟩=pure (ps.zip us)):Dm K C m qual st ps :=
 { f:=f,fd:=_,F:=VH (st:=st) l c k,b:=(VH (st:=st) l c k).binds h,mt:=⟨a,i,k⟩}
end L2
namespace L2
open PyProof.Rows
structure a5T(K:aH)(C:Addr)(m:Str)(f:Addr):Prop where
 ga:PySem.W.specialIn K (.ref C) "__getattribute__" = some (some (.builtin "type.__getattribute__"))
 rd:∃mc,PySem.W.readsIn K C mc=true/\PySem.W.findCls K (.ref C) mc m=some (.val (.ref f))
 kp:PySem.W.keepIn K (.ref f)=true
section
variable{X:Cx}{CX:TJ}{k:Nat}{f C:Addr}{fd:FuncData}{ps:List Str}{sp:Sp}{Ld:List V}{ds:List Value}{E:XK}{x m:Str}{p pos apos:Pos}{e:Expr}{es:List Expr}{t:TA}
def Qs{pl:Sem Bool}(hg:Gl X x)(hm:X.mg x=some (.ref C))(c:a5T X.K C m f)(F:bw X.prog X.w X.K X.mg X.base CX k f fd ps sp)(hr:sY k X.A)(hb:Binds X.K fd ps ds)(hd:cP Ld ds)(hx:Az CX X E)(ha:PA X (e::es) t)
  (hdb:(x==("__debug__" : Str))=false:=by decide) (hst:starEach (e::es) X.env=(false,eval e X.env)::starEach es X.env:=by rfl) (hpl:(backTo pos (starEach es X.env)).any (·.1)=false:=by rfl)
  (ht:eval (.Call (.Attribute (.Name x p) m apos) (e::es) [] pos) X.env=(do
   let ov <-eval (.Name x p) X.env
   standAt apos.atName
   let(f,first) <-holding [ov] (getMethod ov m pl)
   callWith pos f first (backTo pos (starEach (e::es) X.env)) (backToKw pos (keywordEach [] X.env))):=by rfl) :
  PE X (.Call (.Attribute (.Name x p) m apos) (e::es) [] pos) (a2o sp Ld E t):=by
 intro Y s σ H Q I h;refine PySem.W.methodCall_KW (pl:=pl) (Ca I hg hm ?_ hdb) ht;obtain⟨mc,hrd,hf⟩:=c.rd;refine PySem.W.method_cls I.DR c.ga (PySem.W.cls_value I.DR hrd hf Z ?_);have I1:bG X Y σ H { s with toks:=s.toks+1}:=I.tok _;exact Om (first:=[]) (h₀:=X.base) I.ok.mod.kin c.kp (jr (ha pos Y _ σ H _ I1 h) λus s2 ⟨vs,H2,I2,r,q2⟩=>⟨I2.DR,Vx F hr hb hd hx I2 r q2⟩) hst hpl
end
end L2
namespace Dy
open PyProof.Rows
variable{prog:Program}{w:World}{A:Around}
def Jy:entryFor table "dict.update.loop" = some Builtin.«dict.update.loop» := entryFor_of_tree (by kernel_rfl)
def wV:plainId "dict.update.loop" = true:=by decide
def Zy:typeLookup (.type "list") "keys" = pure none:=am_miss_of_fast (by kernel_rfl)
section
variable{E:Value->Shared->Prop}{s:Shared}
def Zz{a:Addr}{o:Obj}{xs:Array Value}{k:Nat}{Q:Option Value->Shared->Prop}(hx:s.heap.get? a=some o)(hc:o.cls=.type "list")(hdat:o.data=.seq xs k)(hd:o.dict=none)(hA:A.handled=none)
  (h:∀h' tk,(∀b o,s.heap.get? b=some o->h'.get? b=some o)->Q none { s with heap:=h',toks:=tk}):wpAny (model prog w) A (getAttr? (.ref a) "keys") Q E s:=by
 obtain⟨c,dct,dat,sl⟩:=o;simp only at hc hdat hd;subst hc hdat hd;obtain⟨hp,g,d,tk,os⟩:=s;have hT:∀tk',(⟨hp,g,d,tk',os⟩:Shared).TypeIs (.ref a) "list" := λ_=>⟨_,hx,Z⟩;have f1:=sub_AttributeError;have f3:=F.slot_list_getattribute.lookup;have f4:=F.slot_list_getattribute.bind (.ref a);have f5:=am_list_getattr_none;unfold getAttr? getAttrBy? getAttrBy;repeat (any_goals (first|assumption|exact hT _|((with_reducible show wpAny _ _ (call (Value.builtin "list.__getattribute__") _ _) _ _ _);refine En F.slot_list_getattribute (hT _) am_entry_list_getattribute (F.args_list_getattribute_2 _ _) (meets_getattribute_miss_list a xs k sl "keys" _ Zy ()) ⟨hx,hA,λh' tk' e hx'=>?_⟩)|wp_step))
 obtain⟨t',u',he⟩:=hx'.there;show wpAny _ _ (getattributeRaised _ _ _ _ _ _ _) _ _ _;unfold getattributeRaised;repeat (any_goals (first|assumption|wp_step))
 exact h _ _ hx'.of.keeps
end
section
variable{R:Result->Shared->Prop}{I:Addr}{fp wr:List Addr}{G:Array GenState->Array GenState->Prop}{n:Nat}{P:Nat->Value->Prop}{St:Nat->Shared->Prop}{κ:Type} [DecidableEq κ] {knd:HeapKind prog w κ}
def Wd{L:List (κ×Addr×Value)}(nd:(L.map (·.1)).Nodup){i:Nat}{x:κ×Addr×Value}(hx:L[i]?=some x):atKey (L.take i) x.1=none:=by
 unfold atKey;have:(L.take i).find? (λy=>decide (y.1=x.1))=none:=by
  rw[Eg];intro y hy;simp only[decide_eq_true_eq];intro e;obtain⟨j,hj⟩:=List.mem_iff_getElem?.mp hy;rw[List.getElem?_take]at hj;by_cases q:j<i
  ·rw[aF q]at hj;have:=idxH_unique (xs:=L) nd (i:=j) (j:=i) (k:=x.1) (p:=y.2) (q:=x.2) () (by rw[hx]);omega
  ·rw[aq q]at hj;exact nomatch hj
 rw[this];rfl
def fill(W:WalksS prog w A.in1 I fp wr G n P St)(d:Addr)(nf:d∉fp)(L:List (κ×Addr×Value))(hn:L.length=n)(nd:(L.map (·.1)).Nodup)(bs:Nat->Addr)(hv:∀i v,i<n->P i v->v=.ref (bs i))
  (Kp:Heap->Prop) (kpS:∀h h',Kp h->Heap.SameBut d h h'->Kp h') (kpM:∀s s':Shared,Kp s.heap->Moved wr G s s'->Kp s'.heap)
  (hT:∀h i x,Kp h->L[i]?=some x->knd.is h x.1 x.2.1/\IsTup h (bs i) #[.ref x.2.1,x.2.2]) (hu:knd.room A.in1) (hz:n<=sizeLine) :
  ∀(k i:Nat) (s:Shared) (j:Int) (t:Tok),n-i=k->i<=n->St i s->s.heap.DictOfH knd d (L.take i)->Kp s.heap->
   (∀s',Moved (d::wr) G s s'->s'.heap.DictOfH knd d L->Kp s'.heap->R (.ok (.ret .none)) s')->
   codeAny (model prog w) A (.builtin "dict.update.loop" ⟨[.ref d,.ref I,.int j t,.none],[]⟩) R s:=by
 have nw:d∉wr:=λh=>nf (W.sub _ h);have up:∀b∈wr,b∈d::wr:=λb hb=>aY _ hb;have a2t:∀(s s':Shared) (i:Nat),Moved wr G s s'->Kp s'.heap->s.heap.DictOfH knd d (L.take i)->s'.heap.DictOfH knd d (L.take i):=λs s' i hm kp z=>by
  obtain⟨o,es,ep,ho,hc,hd,he,his,hnn⟩:=z;exact⟨o,es,ep,hm.heap d o nw ho,hc,hd,he,λx hx=>by
   obtain⟨j,hj⟩:=List.mem_iff_getElem?.mp (m9 hx);exact(hT _ j x kp hj).1,hnn⟩
 intro k
 induction k with
 |zero =>
  intro i s j t hk hi st hD kp hR;obtain rfl:i=n:=()
  refine j7 Jy ?_;rw[lD wV _];show wpAny _ A.in1 (pyNext (.ref I) >>= _) _ _ s;refine M (W.done s _ _ st λs' hm=>?_);have kp':=kpM _ _ kp hm;have hD':=a2t _ _ _ hm kp' hD;rw[<-hn,iC]at hD';show wpAny _ _ (Builtin.Dict.addKeywords d [] >>= _) _ _ _;exact M (ao (ao (hR s' (hm.mono up) hD' kp')))
 |succ k ih =>
  intro i s j t hk hi st hD kp hR;have li:i<n:=()
  obtain⟨x,hx⟩:∃x,L[i]?=some x:=⟨L[i]'(),bH _⟩;refine j7 Jy ?_;rw[lD wV _];show wpAny _ A.in1 (pyNext (.ref I) >>= _) _ _ s;refine M (W.item i s _ _ li st λv s' hP st' hm=>?_);obtain rfl:=hv i v li hP;have kp':=kpM _ _ kp hm;have hD':=a2t _ _ _ hm kp' hD;obtain⟨hk1,hk2⟩:=hT _ i x kp' hx;obtain⟨ob,hb,hcl,m,hdat⟩:=id hk2;have hTy:s'.TypeIs (.ref (bs i)) "tuple" :=⟨_,hb,hcl⟩;refine M (eU (M (wpAny_tryCatch ?_)));unfold Builtin.Dict.pairItems;refine M (u9 hTy ?_);have e1:((Value.type "tuple" == Value.type "list")||(Value.type "tuple" == Value.type "tuple"))=true:=()
  rw[aF e1];refine M (oF hb hdat (ao ?_));show wpAny _ _ (holding [Value.ref x.2.1,x.2.2] (dictSet d (.ref x.2.1) x.2.2)) _ _ _;refine eU (wpAny_dictSet_heap (hsz:=by rw[d7];omega) hu hk1 hD' λh' hD2 sb=>?_);have hD3:h'.DictOfH knd d (L.take (i+1)):=by
   rw[storedH_new (Wd nd hx)]at hD2;rw[List.take_add_one,hx];exact hD2
  refine ao ⟨mK wV _,ih (i+1) _ _ _ () li (W.frame _ s' _ _ st' (Nat.le_add_right _ _) λc hc o e=>?_) hD3 (kpS _ _ kp' sb) λs2 hm2 h2 h3=>hR s2 (Moved.trans W.gtrans ((hm.mono up).then_heap (Nat.le_add_right _ _) λc o hc e=>?_) hm2) h2 h3⟩
  ·rw[sb.2 c (λq:c=d=>nf ())];exact e
  ·rw[sb.2 c (λq:c=d=>hc ())];exact e
end
section
variable{E:Value->Shared->Prop}{s:Shared}{κ:Type} [DecidableEq κ] {knd:HeapKind prog w κ}
def ZC(h:Heap):(h.push { cls:=.type "dict",data:=.dict #[]}).DictOfH knd h.objs.size [] :=
 ⟨_,#[],_,bU _ Z,⟨Z,Z,Z⟩,Z,Z,λx hx=>absurd hx (by simp),Ar⟩
def a0W{l:Addr}{o:Obj}{items:Array Value}{m:Nat}{L:List (κ×Addr×Value)}{bs:Nat->Addr}{Q:Value->Shared->Prop}(hh:A.handled=none)(hu:knd.room A.in1.in1)
  (hx:s.heap.get? l=some o) (hc:o.cls=.type "list") (hdat:o.data=.seq items m) (hd:o.dict=none) (hn:L.length=items.size) (nd:(L.map (·.1)).Nodup) (hz:items.size<=sizeLine)
  (hv:∀(i:Nat) (v:Value),items[i]?=some v->v=.ref (bs i))
  (hT:∀(h:Heap) (i:Nat) (x:κ×Addr×Value),(∀b ob,s.heap.get? b=some ob->h.get? b=some ob)->L[i]?=some x->knd.is h x.1 x.2.1/\IsTup h (bs i) #[.ref x.2.1,x.2.2])
  (h:∀(h':Heap) (tk:Nat),h'.DictOfH knd s⁻¹ L->(∀b ob,s.heap.get? b=some ob->h'.get? b=some ob)->Q (.ref s⁻¹) { s with heap:=h',toks:=tk}) :
  wpAny (model prog w) A (call (.type "dict") [.ref l]) Q E s:=by
 refine callType_codes (Q₁:=λobj s₁=>obj=.ref s⁻¹/\s₁={ s with heap:=s.heap.push { cls:=.type "dict",data:=.dict #[]}}) PySem.F.kt_called_dict (î _) PySem.F.entry_dict_init (kt_code_dict_new _ ⟨rfl,rfl⟩) ?_;rintro obj s₁ ⟨rfl,rfl⟩;have hnew:(s.heap.push { cls:=.type "dict",data:=.dict #[]}).DictOfH knd s⁻¹ []:=ZC s.heap;have hTd:Shared.TypeIs { s with heap:=s.heap.push { cls:=.type "dict",data:=.dict #[]}} (.ref s⁻¹) "dict" :=⟨_,bU _ rfl,rfl⟩;have hx1:(s.heap.push { cls:=.type "dict",data:=.dict #[]}).get? l=some o:=bB _ hx;have hTl:Shared.TypeIs { s with heap:=s.heap.push { cls:=.type "dict",data:=.dict #[]}} (.ref l) "list" :=⟨_,hx1,hc⟩;refine⟨hTd,õ _ _,?_⟩;unfold Builtin.«dict.__init__»;refine M ?_;unfold Builtin.Dict.selfAndRest;refine M (Ag hTd ?_);show wpAny _ _ (pure (s⁻¹,[Value.ref l])) _ _ _;refine ao ?_;show wpAny _ _ (Builtin.Dict.updateFrom "dict.__init__" s⁻¹ (.ref l) [] .none) _ _ _;unfold Builtin.Dict.updateFrom;refine M (u9 hTl ?_);rw[aF ()];refine M (Zz hx1 hc hdat hd (by simp[hh]) λh1 tk1 k1=>?_);simp only[Option.isNone_none,if_true];refine M (kh ?_);have ll:l<s⁻¹:=aX hx;have g1:h1.get? s⁻¹=some { cls:=.type "dict",data:=.dict #[]}:=k1 _ _ (bU _ Z);have g2:h1.get? l=some o:=k1 _ _ hx1;have dl:s⁻¹<h1.objs.size:=aX g1;have hl1:h1.IsList l items:=⟨_,g2,hc,m,hdat⟩;refine M (wD (s:={ s with heap:=h1,toks:=tk1}) hl1 ?_);have hh3:A.in1.in1.handled=none:=by simp[hh]
 have ni:l≠h1.objs.size:=bY (vd ll dl);have nf:s⁻¹∉[h1.objs.size,l]:=by
  simp only[List.mem_cons,List.not_mem_nil,or_false,not_or];exact⟨bY dl,gC ll⟩
 refine ao ⟨mK wV _,?_⟩;refine fill (knd:=knd) (n:=items.size) ((Walks.list hh3 _ l ni items).toS) s⁻¹ nf L hn nd bs (λi v _ hp=>hv i v hp)
  (λh2=>∀b ob,s.heap.get? b=some ob->h2.get? b=some ob) (λh2 h3 kp sb b ob e=>?_) (λs2 s3 kp hm b ob e=>?_) (λh2 i x kp e=>hT h2 i x kp e) hu hz items.size 0 _ _ _ () (dh _)
  ⟨⟨_,bU _ Z,Z,Z⟩,(hl1.push _)⟩ ?_ ?_ ?_
 ·rw[sb.2 b (bY (aX e))];exact kp b ob e
 ·refine hm.heap b ob ?_ (kp b ob e);simp only[List.mem_cons,List.not_mem_nil,or_false];exact λq=>absurd q (bY (vd (aX e) dl))
 ·exact⟨_,#[],_,bB _ g1,⟨Z,Z,Z⟩,Z,by rw[List.take_zero];rfl,λx hx=>absurd hx (by simp),by rw[List.take_zero];exact Ar⟩
 ·exact λb ob e=>bB _ (k1 b ob (bB _ e))
 ·intro s' hm hD kp;obtain⟨h',g',d',tk',os'⟩:=s';have eg:g'=s.gens:=hm.gens;have ed:d'=s.drawn:=hm.drawn;have eo:os'=s.os:=hm.os;subst eg;subst ed;subst eo;exact⟨Z,h h' tk' hD kp⟩
end
end Dy
namespace L2
open PyProof.Rows
def a5U{c:Prop} [Decidable c] {a b:Prop} (hc:c) (h:a):if c then a else b:=by grind
def yx{c:Prop} [Decidable c] {a b:Prop} (hc:¬c) (h:b):if c then a else b:=by grind
def Fg{prog:Program}{w:World}{A:Around}{E:Value->Shared->Prop}{s:Shared}{l:Addr}{items:Array Value}{Q:List Value->Shared->Prop}(hd:A.handled=none)(hl:s.heap.IsList l items)
  (h:∀h',(∀b o,b≠s⁻¹->s.heap.get? b=some o->h'.get? b=some o)->Q items.toList { s with heap:=h'}):wpAny (model prog w) A (unpackItems (.ref l) items.size none) Q E s:=by
 have hl0:=hl;obtain⟨o,e,c,d⟩:=hl;unfold unpackItems notIterableAtAll;refine M (M (Aq (T:="list") ⟨_,e,c⟩ F.slot_list_iter.lookup (jJ (a5U Z (ao (jJ (yx dB (M (eU (wD hl0 ?_))))))))));dsimp only;refine M (eU ?_);have hn:l≠s⁻¹:=λz=>by
  have hlt:=aX e;exact absurd z (bY hlt)
 have e1:∀(h':Heap),(∀b o,b≠s⁻¹->s.heap.get? b=some o->h'.get? b=some o)->h'.IsList l items:=λh' k=>⟨o,k _ _ hn e,c,d⟩;refine PySem.W.kun_draw hn items.size 0 _ _ ⟨_,bU _ Z,Z,Z⟩ (e1 _ λb o _ z=>bB _ z) () λh' st sb=>?_;have k1:∀b o,b≠s⁻¹->s.heap.get? b=some o->h'.get? b=some o:=λb o hb z=>(sb.2 b hb).trans (bB _ z);have et:List.take items.size (List.drop 0 items.toList)=items.toList:=by rw[Vd];exact Il (by simp)
 rw[et];exact jJ (yx (by simp) (M (eU (wpAny_pyNext_list_end hd st (e1 _ k1) (by simp) λh2 eb=>jJ (yx (by simp) (ao (h h2 λb o hb z=>eb b o hb (k1 b o hb z))))))))
section
variable{X:Cx}{pos:Pos}
inductive a2u(K:aH)(n:Nat)(t:ý)(v:V)(σ:St)(H:Hp)(Q:St->Hp->Prop):Prop
 |mk (a xs:_) (_:v=.ref a) (_:bC K H a xs) (_:xs.length=n) (_:t xs σ H Q)
def a0X{es:List Expr}{k:Nat}{t:ý}{n:Nat}(hc:X.calm=true)(h:PGs X es t)
  (hn:(assignEach es X.env).length=n:=by rfl) (hst:(assignEach es X.env).findIdx? (·.1)=none:=by rfl):PG X (.Tuple es k pos) (a2u X.K n t):=by
 intro Y s σ H v u Q I r hw;obtain⟨a,xs,e1,hq,hl,hw⟩:=hw;subst e1;cases r;obtain⟨b7,rv,p,hz⟩:=I.list hq;rw[assign_Tuple];refine M (O9 ?_);unfold unpack;refine M (eU ?_);have e2:(assignEach es X.env).length=b7.toArray.size:=by simp[hn,<-hl,rv.length]
 rw[hst,e2];refine Fg (I.ok.hd hc) p.isList λh' k=>?_;have hi:=I.Gv (aL s⁻¹) (I.hok.fresh (aL _));obtain⟨f0,f1,f2,f3,f4,f5⟩:=hi;have I1:bG X Y σ H { s with heap:=h'}:=I.turned (t':=s.toks) k f0 f1 f3 f4 f5;exact h Y _ σ H xs _ Q I1 (by simpa using rv) hw
def ĵ{K:aH}{es:List Expr}{k:Nat}{t:ý}{n:Nat}(e:X.K=K)(hc:X.calm=true)(h:PGs X es t)
  (hn:(assignEach es X.env).length=n:=by rfl) (hst:(assignEach es X.env).findIdx? (·.1)=none:=by rfl):PG X (.Tuple es k pos) (a2u K n t):=by subst e;exact a0X hc h hn hst
end
end L2
namespace Dq
open PyProof.Rows
variable{I:Addr}{o:Obj}{es:Array DictEntry}{ep:Nat}
variable{prog:Program}{w:World}{A:Around}{E:Value->Shared->Prop}{s:Shared}
abbrev kO(d:Addr)(i n ep:Nat):Obj:={ cls:=.type "dict_keyiterator",data:=.fields #[.ref d,.int (i:Nat) 0,.int (n:Nat) 0,.int (ep:Nat) 0]}
def args_next(a:Value):argsOk "dict_keyiterator.__next__" ⟨[a],[]⟩:=by unfold argsOk;kernel_rfl
def XM:∃l,mroOf (.type "dict_keyiterator")=pure l/\(["dict_reversekeyiterator","dict_reversevalueiterator","dict_reverseitemiterator"].any λt=>l.contains (Value.type t))=false/\(["dict_keyiterator","dict_reversekeyiterator"].any λt=>l.contains (Value.type t))=true:=⟨_,Z,(),()⟩
def Ķ{Q:Bool->Shared->Prop}(hT:s.TypeIs (.ref I) "dict_keyiterator")(h:Q false s):wpAny (model prog w) A (Builtin.Dict_items.isOneOf (.ref I) ["dict_reversekeyiterator","dict_reversevalueiterator","dict_reverseitemiterator"]) Q E s:=by
 obtain⟨l,e,n,_⟩:=XM;unfold Builtin.Dict_items.isOneOf;refine M (u9 hT ?_);rw[e];refine M (ao (ao ?_));rw[n];exact h
def ZD{Q:Bool->Shared->Prop}(hT:s.TypeIs (.ref I) "dict_keyiterator")(h:Q true s):wpAny (model prog w) A (Builtin.Dict_items.isOneOf (.ref I) ["dict_keyiterator","dict_reversekeyiterator"]) Q E s:=by
 obtain⟨l,e,_,n⟩:=XM;unfold Builtin.Dict_items.isOneOf;refine M (u9 hT ?_);rw[e];refine M (ao (ao ?_));rw[n];exact h
def item_at{d:Addr}{i:Nat}{e:DictEntry}{Q:Option Value->Shared->Prop}(ne:d≠I)(ho:s.heap.get? d=some o)(hd:o.data=.dict es ep)(hI:s.heap.get? I=some (kO d i es.size ep))(hx:es[i]?=some e)
  (h:∀h',h'.get? I=some (kO d (i+1) es.size ep)->Heap.SameBut I s.heap h'->Q (some e.key) { s with heap:=h'}):wpAny (model prog w) A (pyNext (.ref I)) Q E s:=by
 have hT:s.TypeIs (.ref I) "dict_keyiterator" :=⟨_,hI,Z⟩;unfold pyNext;refine M (tU (mZ (name:=Str.ofString "__next__") hT NQ (gk NQ hT è ?_ (args_next _))));and_intros;dsimp only;have e1:(if(i:Int)<0 then none else es[(i:Int).toNat]?)=some e:=by
  rw[aq (),jD];exact hx
 rw[e1];dsimp only;refine M (M (m:=typeNameOfWhole _) (NK hT ?_));rw[show(if Builtin.Dict_items.ownsTuple "dict_keyiterator" = true then 2 else 0)=0 from rfl];refine ao (M (Ķ hT (M (iQ hI (by simp) λh1 hI1 Ey=>?_))));have hT1:Shared.TypeIs { s with heap:=h1} (.ref I) "dict_keyiterator" :=⟨_,hI1,rfl⟩;refine M (eU (M (ZD hT1 (jJ (L2.a5U Z (ao (ao ⟨_,Z,ao (h h1 ?_ Ey)⟩)))))));rw[hI1];simp[rawInt]
def Jw{d:Addr}{Q:Option Value->Shared->Prop}(hh:A.handled=none)(ne:d≠I)(ho:s.heap.get? d=some o)(hd:o.data=.dict es ep)(hI:s.heap.get? I=some (kO d es.size es.size ep))
  (h:∀h',Heap.ExtBut I s.heap h'->Q none { s with heap:=h'}):wpAny (model prog w) A (pyNext (.ref I)) Q E s:=by
 have hT:s.TypeIs (.ref I) "dict_keyiterator" :=⟨_,hI,Z⟩;unfold pyNext;refine M (tU (mZ (name:=Str.ofString "__next__") hT NQ (gk NQ hT è ?_ (args_next _))));and_intros;dsimp only;have e1:(if(es.size:Int)<0 then none else es[(es.size:Int).toNat]?)=none:=by
  rw[aq (),jD];simp
 rw[e1];dsimp only;refine M (M (m:=typeNameOfWhole _) (NK hT ?_));rw[show(if Builtin.Dict_items.ownsTuple "dict_keyiterator" = true then 2 else 0)=0 from rfl];refine ao (M (iQ hI (by simp) λh1 hI1 Ey=>M ?_));simp only[newExc,newTuple];right
def CQ{d:Addr}{Q:Value->Shared->Prop}(hs:(d==sysModules)=false)(ho:s.heap.get? d=some o)(hx:o.ExactDict)(hd:o.data=.dict es ep)
  (h:Q (.ref s⁻¹) { s with heap:=s.heap.push (kO d 0 es.size ep)}):wpAny (model prog w) A (pyIter (.ref d)) Q E s:=by
 have hT:s.TypeIs (.ref d) "dict" :=⟨_,ho,hx.1⟩;refine Iw hT F.slot_dict_iter (gk F.slot_dict_iter hT F.entry_dict_iter ?_ (F.args_dict_iter_1 _));unfold Builtin.«dict.__iter__»;refine M ?_;unfold Builtin.Dict.dictSlotNone;refine M (Ag hT (M (m:=slotArgs "__iter__" 0 _) (ao (ao (M (m:=Builtin.Dict.addrOf _) (ao (M ?_)))))));unfold Builtin.Dict.showsAll;refine jJ (L2.yx () (ao (M (mH ho hd (M (wF ho hd (M ?_)))))));unfold newFields;exact j5 (ao ⟨_,Z,"dict_keyiterator",_,⟨_,bU _ Z,Z⟩,F.slot_dict_keyiterator_next.lookup,h⟩)
end Dq
namespace L2
open PyProof.Rows
section
variable{X:Cx}{Y:List (Addr×Obj)}{σ:St}{H:Hp}{s:Shared}{d:Addr}{J:List (Key×V)}
def bG.Wf{o o':HO}(I:bG X Y σ H s)(e:H d=some o)(nt:∀xs,o≠.tup xs)(no:∀y,o≠.own y)(nb:∀ps,o≠.tbl ps)(nf:∀b u,X.H₀ d≠some (.jq b u))(q:fM X.prog X.w H s.heap d o'):bG X Y σ (cN H d o') s:=by
 have ne:∀b,H b=none->b≠d:=λb n z=>by rw[z,e]at n;cases n
 have nn:∀b,H b=none->cN H d o' b=none:=λb n=>by rw[aU (ne b n)];exact n
 have ho:∀b c,H b=some (.own c)->cN H d o' b=some (.own c):=λb c r=>by
  rw[aU]
  ·exact r
  ·intro z;rw[z,e]at r;exact no c (eO r)
 have ht:∀b xs,H b=some (.tup xs)->cN H d o' b=some (.tup xs):=λb xs r=>by
  rw[aU]
  ·exact r
  ·intro z;rw[z,e]at r;exact nt xs (eO r)
 refine⟨I.ok,I.os,I.bare,⟨I.base.keep,I.base.slot,λb ob q1 q2 q3=>nn b (I.base.free b ob q1 q2 q3),I.base.there,λb xs r=>ht b xs (I.base.tups b xs r),λb ob u r=>?_,λb ps r=>?_⟩,I.loc,I.cell,nn _ I.free,λx c r=>nn c (I.tV x c r),λp hp=>?_,λb u r=>?_,I.len⟩
 ·rw[aU]
  ·exact I.base.Jh b ob u r
  ·intro z;rw[z]at r;exact nf ob u r
 ·obtain⟨m,r1⟩:=I.base.Pr b ps r;refine⟨m,?_⟩;rw[aU]
  ·exact r1
  ·intro z;rw[z,e]at r1;exact nb _ (eO r1)
 ·obtain⟨p1,p2,p3⟩:=I.pin p hp;exact⟨p1,nn _ p2,p3⟩
 ·by_cases c:b=d
  ·subst c;rw[cY]at r;cases r;exact q.stay (λ_ _ _ z=>z) (λc r=>ho c b r) ht
  ·rw[aU c]at r;exact(I.hok b u r).stay (λ_ _ _ z=>z) (λc r=>ho c b r) ht
def bG.XQ{o:HO}(I:bG X Y σ H s)(e:H d=some o)(nf:∀b u,o≠.jq b u):∀b u,X.H₀ d≠some (.jq b u):=λb u z=>by
 have:=I.base.Jh d b u z;grind
def bG.Qt{o:Obj}{u:HO}(I:bG X Y σ H s)(nf:∀b u,X.H₀ d≠some (.jq b u))(e:H d=some (.jq o u)):bG X Y σ (cN H d u) s:=by
 obtain⟨_,q⟩:=I.hok d _ e;exact I.Wf e (λ_ z=>by cases z) (λ_ z=>by cases z) (λ_ z=>by cases z) nf q
end
end L2
namespace L2
open PyProof.Rows Bg
def Itp(o:Obj)(d:Addr)(u:HO)(as:List Addr):It :=
 ⟨λi H=>H d=some (.jq o u)/\i<as.length,λi H x H'=>H'=H/\(as.map V.ref)[i]?=some x,λi H=>H d=some (.jq o u)/\i=as.length⟩
def Wg{P:Program}{w:World}{K:aH}{tg:Expr}{o:Obj}{u:HO}(d it:Addr){as:List Addr}{es:Array DictEntry}{ep:Nat}(hd:o.data=.dict es ep)(ek:es.toList.map (·.key)=as.map Value.ref) :
  Turn P w K tg (Itp o d u as) [it] it (λi h=>h.get? it=some (Dq.kO d i es.size ep)) where
 mem:=by simp
 obj:=λi h st b hb=>by
  grind
 keep:=λi h h' st k=>k it (by simp) _ st
 item:=by
  nofun
  subst hP hw hK
  obtain⟨hq,hi⟩:=hg
  obtain⟨hd1,_⟩:=I.hok d _ hq
  obtain⟨f0,f1,f2,f3,f4,f5⟩:=hf it (by simp)
  have ne:d≠it:=λz=>by grind
  have lz:es.size=as.length:=by have:=congrArg List.length ek;grind
  have he:es[i]?=some (es[i]'()):=uW ()
  have a3N:(es[i]'()).key=Value.ref as[i]:=by
   have:=congrArg (λl=>l[i]?) ek
   grind
  refine Dq.item_at ne hd1 hd st he λh' hI sb=>?_
  injections
  exact⟨_,Z,Xd (s:={ s with heap:=h'}) hI rfl rfl () ⟨.ref as[i],H,I1,a3N,⟨rfl,()⟩,hI,λb hb=>(hf b hb).1⟩⟩
 done:=by
  nofun
  subst hP hw hK
  obtain⟨hq,hx⟩:=hg
  obtain⟨hd1,_⟩:=I.hok d _ hq
  obtain⟨f0,f1,f2,f3,f4,f5⟩:=hf it (by simp)
  have ne:d≠it:=λz=>by grind
  have lz:es.size=as.length:=by have:=congrArg List.length ek;grind
  rw[hx,<-lz]at st
  exact Dq.Jw (I.ok.hd hc) ne hd1 hd st λh' eb=>⟨Z,I.turned (t':=s.toks) (λb o hb e=>eb b o hb e) f0 f1 f3 f4 f5⟩
 self:=λ_ _ _ _ _ st h=>wpAny_pyIter_keyiter ⟨_,st,Z,Z⟩ h
end L2
namespace L2
open PyProof.Rows Bg
section
variable{X:Cx}
inductive a7x(x:V)(y:V)(H:Hp)(Q:VK):Prop
 |mk (b a:Addr) (k:List Key) (J:List (List Key×V)) (_:x=.ref b) (_:y=.ref a) (_:H b=some (.tup (k.map kV))) (_:H a=some (.dT J)) (_:Q (.bl (gh J k).isSome) H)
def a3O(hu:X.A.units+1<cLine):rz X (compareOp .In) a7x:=by
 symm;obtain⟨b,a,t,ts,rfl,rfl,hb,e,q⟩:=h;obtain rfl:u=Value.ref a:=ry;exact a7w hu I (Qq.t e hb) rx λs3 I3=>⟨.bl _,H,I3,Z,q⟩
inductive a5V(o:V)(i:V)(v:V)(H:Hp)(Q:Hp->Prop):Prop
 |mk (a b:Addr) (k:List Key) (J:List (List Key×V)) (_:o=.ref a) (_:i=.ref b) (_:H b=some (.tup (k.map kV))) (_:H a=some (.dT J)) (_:J.length<=5000) (_:∀H',vo H a (.dT (putK J k v)) H'->Q H')
def zF(hu:X.A.units+1<cLine):a5e X a5V:=by
 intro Y s σ H o i v ov iv u Q I ro ri rv h;obtain⟨a,b,t,ts,rfl,rfl,hb,e,z,q⟩:=h;obtain rfl:ov=Value.ref a:=ro;exact Zx hu I (a0S.t e hb (Nat.lt_of_le_of_lt z ())) ri rv λs' I'=>⟨_,I',q _ vo.ou⟩
def ķ{P:Program}{w:World}{H':Hp}{h':Heap}{a:Addr}{J:List (List Key×V)}{xs:List (List Key×Addr×Value)}(z:J.length<=sizeLine)(hd:(a==sysModules)=false)(rel:KT H' J xs)(dd:h'.DictOfH (tupleKind (dJ P w)) a xs) :
  fM P w H' h' a (.dT J):=by
 obtain⟨o,es,ep,h1,h2,h3,h4,_,h5⟩:=dd;exact⟨z,hd,xs,rel,o,es,ep,h1,h2,h3,h4,h5⟩
end
section
variable{X:Cx}{tg:Expr}
def a3P(t:TE):TE:=λσ H Q=>t σ H λv H1=>∃d o J kvs',H d=some (.dT kvs')/\H1 d=some (.jq o (.dT J))/\Q v (cN H1 d (.dT J))
def Ĺ{e:Expr}{t:TE}(h:PE X e t):PE X e (a3P t):=by
 intro Y s σ H Q I q;refine jr (h Y s σ H _ I q) λv s1 z=>?_;obtain⟨x,H1,I1,r1,d,o,ts,ts',e0,e1,q1⟩:=z;exact⟨x,_,I1.Qt (I.XQ e0 λ_ _ z=>by cases z) e1,r1,q1⟩
def a0Y(t:TS):TS:=λD σ H=>t { D with nx:=λσ1 H1=>∃d o J kvs',H d=some (.dT kvs')/\H1 d=some (.jq o (.dT J))/\D.nx σ1 (cN H1 d (.dT J))} σ H
def yC{st:Stmt}{t:TS}(h:PS X st t):PS X st (a0Y t):=by
 intro Y s σ H D I q;refine jr (h Y s σ H _ I q) λf s1 z=>?_;cases f with
 |next =>
  obtain⟨σ1,H1,I1,d,o,J,kvs',e0,e1,q1⟩:=z;exact⟨σ1,_,I1.Qt (I.XQ e0 λ_ _ z=>by cases z) e1,q1⟩
 |ret u=>exact z
 |brk=>exact z
 |cont=>exact z
inductive PrL(H:Hp)(v:V)(kv:List Key×V):Prop
 |mk (p kp:_) (_:v=.ref p) (_:H p=some (.tup [.ref kp,kv.2])) (_:H kp=some (.tup (kv.1.map kV)))
inductive a3Q(K:aH)(xs:List V)(H:Hp)(Q:VK):Prop
 |mk (l:Addr) (vs:List V) (J:List (List Key×V)) (_:xs=[.ref l]) (_:H l=some (.lst vs)) (_:Paired (PrL H) vs J) (_:(J.map (·.1)).Nodup) (_:∀p H',gP H p (.dT J) H'->Q (.ref p) H')
def a3R{P:Program}{w:World}{H:Hp}{h:Heap}(hok:zO P w H h):∀{vs:List V}{J:List (List Key×V)}{b7:List Value},Paired (PrL H) vs J->cP vs b7->
  ∃(L:List (List Key×Addr×Value)) (bs:List Addr),b7=bs.map Value.ref/\KT H J L/\Paired (λ(b:Addr) (x:List Key×Addr×Value)=>IsTup h b #[.ref x.2.1,x.2.2]) bs L:=by
 intro vs J b7 hp
 induction hp generalizing b7 with
 |nil=>intro hv;cases hv;exact⟨[],[],Z,.nil,.nil⟩
 | @cons v kv vs J a t ih =>
  intro hv;cases hv with
  | @cons _ u _ us ru rus =>
   obtain⟨L,bs,e,kt,pt⟩:=ih rus;obtain⟨p,kp,rfl,hp,hk⟩:=a;obtain rfl:u=Value.ref p:=ru;obtain⟨_,its2,r2,tp⟩:=(show fM P w H h p (.tup [.ref kp,kv.2])from hok p _ hp);cases r2 with
   | @cons _ u1 _ us1 q1 q2 =>
    obtain rfl:u1=Value.ref kp:=q1;cases q2 with
    | @cons _ u2 _ us2 q3 q4 =>
     cases q4;exact⟨(kv.1,kp,u2)::L,p::bs,by rw[e];rfl,.cons ⟨Z,hk,q3⟩ kt,.cons tp pt⟩
def Wh{K:aH}(ek:X.K=K)(cm:X.calm=true)(hu:X.A.units+2<cLine):jF X (.type "dict") (a3Q K):=by
 subst ek;intro Y s σ H xs us Q I r h;obtain⟨l,vs,J,rfl,hL,pr,nd,q⟩:=h;obtain⟨u,rfl,rx⟩:=vals1 r;cases rx;obtain⟨z,b7,n,rv,ol⟩:=(show fM X.prog X.w H s.heap l (.lst vs)from I.hok l _ hL);obtain⟨L,bs,rfl,kt,pt⟩:=a3R I.hok pr rv;have ln:L.length=bs.length:=(aM pt).symm;have lv:vs.length=bs.length:=by have:=rv.length;grind
 have lk:J.length=vs.length:=(aM pr).symm;have ek:J.map (·.1)=L.map (·.1):=by
  clear nd pr pt ln lk q
  induction kt with
  |nil=>rfl
  |cons a b ih=>grind
 have hr:(tupleKind (dJ X.prog X.w)).room X.A.in1.in1:=by
  show X.A.in1.in1.units<cLine;grind
 refine Dy.a0W (knd:=tupleKind (dJ X.prog X.w)) (L:=L) (bs:=λi=>bs.getD i 0) (I.ok.hd cm) hr ol Z Z Z () () () (λi v hv=>?_) (λh i x kp hx=>?_) λh' tk dd kp=>?_
 ·grind
 ·constructor
  ·obtain⟨kv,hkv,a1,a2,a3⟩:=cM kt hx;obtain⟨o,b7,n,h1,h2,h3,h4⟩:=Bc I.hok a2;rw[<-a1];exact⟨o,b7,n,kp _ _ h1,h2,h3,h4⟩
  ·obtain⟨b,hb,o,h1,h2⟩:=cM pt hx;rw[fV,hb];exact⟨o,kp _ _ h1,h2⟩
 ·have hf:H s⁻¹=none:=I.hok.fresh (aL _);have hs:(s⁻¹==sysModules)=false:=wA.mpr (Ne.symm (bY I.big));refine⟨.ref s⁻¹,_,I.laid (t':=tk) (o:=.dT J) (λb o e=>kp b o e) (aL _) (ķ () hs (kt.keeps λc ys ec=>?_) dd),Z,q _ _ (gP.ou hf)⟩;rw[aU (dM ec hf)];exact ec
end
end L2
namespace L2
open PyProof.Rows
def zG{X:Cx}{Y:List (Addr×Obj)}{σ:St}{H:Hp}{s:Shared}(I:bG X Y σ H s){h2:Heap}(ch:List Addr)(fk:∀b∈ch,Gu X Y H b)
  (kp:∀b o,b∉ch->s.heap.get? b=some o->h2.get? b=some o):bG X Y σ H { s with heap:=h2}:=by
 refine I.step (t':=s.toks) (g':=s.gens) (d':=s.drawn) (H':=H) (ch:=ch) (λb hb=>?_) (λb o _ _ hc q _=>kp b o hc q) (λb o _ _ hc q _=>⟨o.slots,kp b o hc q⟩) (λ_ _ _ _ n=>n)
  (λb o hc q=>⟨o,kp b o hc q⟩) (λ_ _ q=>q) (λ_ _ _ q=>q) (λb ps q=>⟨#[],by rw[q];simp⟩) (λm hm=>?_) (λb o q=>?_) I.bare
 ·obtain⟨f0,f1,f2,f3,f4,f5⟩:=fk b hb;exact⟨f3,f1,f4,f5⟩
 ·obtain⟨o,es,ep,q,r⟩:=hm;exact⟨o,es,ep,kp _ o (λz=>(fk _ z).2.1 Z) q,r⟩
 ·have nb:∀c v,H c=some v->c∉ch:=λc v q z=>dM q (fk c z).1 rfl;refine(I.hok b o q).stay (λc v hcc r=>kp c v ?_ r) (λ_ q=>q) λ_ _ q=>q;grind
section
variable{X:Cx}{K:aH}
def boot_zip:bootBuiltins "zip" = some (.type "zip"):=by decide
end
end L2
namespace L2
open PySem.Calls PyProof.Rows
structure a3S(K:aH)(x qual:Str)(st:Stmt)(f:Addr)(fd:FuncData):Prop where
 ex:∃(oc:Value) (od:Option Addr) (dV kV doc pm:Value) (an:Option Addr) (dz ct:Value) (osl:Array (Option Value)),
  fd=PySem.W.fnOf x qual (dX st) (dF st) (aB st) dV kV doc pm an dz ct/\K.lookup f=some ⟨oc,od,.func fd,osl⟩/\PySem.W.codeIn K dz qual=true
 kp:PySem.W.keepIn K (.ref f)=true
section
variable{P:Program}{w:World}{K:aH}{mg:Str->Option Value}{base:Heap}{x qual:Str}{st:Stmt}{f:Addr}{fd:FuncData}{N ps:List Str}{k:Nat}{sp:Sp}
def a3S.ok(F:a3S K x qual st f fd)(S:bD N ps (aB st))(len:∀vs H Q E,sp vs H Q E->vs.length=ps.length)
  (hb:∀(dz:Value) (A:Around) (outer:List Env) (s:Shared) (H:Hp) (vs:List V) (Q:VK) (E:XK),sY k (A.deeper (envOfC qual (aB st) s⁻¹ f dz))->sp vs H Q E->
   ∃t,Rj (Vy fX P w K mg base N qual (aB st) f dz A outer s H E).nox (dF st) t/\t { nx:=λ_ H'=>Q .non H',rt:=Q} (start N vs) H):bw P w K mg base fX (k+1) f fd ps sp:=by
 obtain⟨_,_,_,_,_,_,_,dz,_,_,rfl,lk,hcd⟩:=F.ex;exact a2p lk hcd S len λA outer s H vs Q E hr hsp=>(hb dz A outer s H vs Q E hr hsp).imp λt h=>⟨h.1.nox,h.2⟩
end
structure DmD(K:aH)(C:Addr)(m qual:Str)(st:Stmt)(ps:List Str) where
 f:Addr
 fd:FuncData
 F:a3S K m qual st f fd
 b:Binds K fd ps []
 b1:Binds K fd ps [.none]
 mt:Meth K C m f
def Wi{K:aH}{C:Addr}{m qual:Str}{st:Stmt}{ps:List Str}{f T:Addr}{oc oT:Value}{od an dT:Option Addr}{osl sT:Array (Option Value)}{kV doc pm dz ct:Value}{nT:Nat}
  (a:PySem.W.findIn K (.ref C) m=some (some (.ref f))) (i:PySem.W.isFn K (.ref f)=true)
  (l:K.lookup f=some ⟨oc,od,.func (PySem.W.fnOf m qual (dX st) (dF st) (aB st) (.ref T) kV doc pm an dz ct),osl⟩) (c:PySem.W.codeIn K dz qual=true) (k:PySem.W.keepIn K (.ref f)=true)
  (lT:K.lookup T=some ⟨oT,dT,.seq #[.none] nT,sT⟩)
  (h:∀(kV doc pm:Value) (an:Option Addr) (dz ct:Value) (us:List Value),us.length=ps.length->∃g,bindArgs (PySem.W.fnOf m qual (dX st) (dF st) (aB st) (.ref T) kV doc pm an dz ct) ⟨us,[]⟩=seqItems? (.ref T) >>= g/\g (some #[.none])=pure (ps.zip us))
  (h1:∀(kV doc pm:Value) (an:Option Addr) (dz ct:Value) (us:List Value),us.length+1=ps.length->∃g,bindArgs (PySem.W.fnOf m qual (dX st) (dF st) (aB st) (.ref T) kV doc pm an dz ct) ⟨us,[]⟩=seqItems? (.ref T) >>= g/\g (some #[.none])=pure (ps.zip (us++[.none]))):DmD K C m qual st ps :=
 {
  f:=f,fd:=_,F:=⟨⟨_,_,_,_,_,_,_,_,_,_,Z,l,c⟩,k⟩,
  b:=λs us X hl=>by
   rw[nC]at hl ⊢
   obtain⟨g,e1,e2⟩:=h kV doc pm an dz ct us hl
   exact BindsTo.of_defaults Z (X _ _ lT) Z e1 e2,
  b1:=λs us X hl=>by
   obtain⟨g,e1,e2⟩:=h1 kV doc pm an dz ct us (by rw[cA]at hl;exact hl)
   exact BindsTo.of_defaults Z (X _ _ lT) Z e1 e2,
  mt:=⟨a,i,k⟩}
end L2
namespace Dy
open PyProof.Rows
section
variable{prog:Program}{w:World}{A:Around}{E:Value->Shared->Prop}{s:Shared}{κ:Type} [DecidableEq κ] {knd:HeapKind prog w κ}
def R3{d a:Addr}{xs:List (κ×Addr×Value)}{k:κ}{v:Value}{Q:Value->Shared->Prop}(hu:knd.room A)(hkey:knd.is s.heap k a)(hm:s.heap.DictOfH knd d xs)(hz:xs.length<=sizeLine)
  (old:∀p tk,atKey xs k=some p->Q p.2 { s with toks:=tk}) (new:∀h' tk,atKey xs k=none->h'.DictOfH knd d (xs++[(k,a,v)])->Heap.SameBut d s.heap h'->Q v { s with heap:=h',toks:=tk}) :
  wpAny (model prog w) A (dictSetDefault d (.ref a) v) Q E s:=by
 obtain⟨o,es,ep,ho,hc,hd,he,his,hn⟩:=hm;have hes:es.size<=sizeLine:=by have e:=O7 he;omega
 unfold dictSetDefault;try with_reducible refine eU ?_
 refine M (knd.pyHash hu hkey ?_);refine M (wpAny_dictFind_heap (s:={ s with toks:=s.toks+knd.draws k}) hu hkey ho hd he his hn ?_ ?_)
 ·intro hno;have none_:=atKey_none_of_get hno;have hnot:k∉xs.map (·.1):=not_mem_keys_of_get hno;refine M (kh (M (wpAny_updateDictKeys (hz:=hes) (s:={ s with toks:=s.toks+knd.draws k}) ho hd (ao (new _ _ none_ ⟨_,_,ep+1,Af _ ho (Obj.isFreed_of_dict (Oh hd _)),hc.mapDictKeys _,Oh hd _,?_,?_,?_⟩ (nA ..))))))
  ·simp[he,entryOfKey]
  ·intro x hx;rcases cJ.mp hx with hx|hx
   ·exact knd.keeps (his x hx) ho hd (nA ..)
   ·rw[bJ.mp hx];exact knd.keeps hkey ho hd (nA ..)
  ·rw[dH];exact uZ.mpr ⟨hn,xV _ _,λx hx y hy e=>hnot (by rw[<-show y=k from bJ.mp hy,<-e];exact hx)⟩
 ·intro j q hj;have hej:es[j]?=some (entryOfKey knd (k,q)):=by rw[entry_at he j,hj];rfl
  refine M (mH (s:={ s with toks:=s.toks+knd.draws k}) ho hd ?_);rw[hej];exact M (kh (ao (old q _ (atKey_of_get hn hj))))
def Fi{d a:Addr}{k:κ}{v:Value}(hs:(d==sysModules)=false):MeetsIn prog w (Builtin.«dict.setdefault» ⟨[.ref d,.ref a,v],[]⟩) (λA R s=>knd.room A.in1/\∃xs,knd.is s.heap k a/\s.heap.DictOfH knd d xs/\xs.length<=sizeLine/\
   (∀p tk,atKey xs k=some p->R (.ok (.ret p.2)) { s with toks:=tk})/\∀h' tk,atKey xs k=none->h'.DictOfH knd d (xs++[(k,a,v)])->Heap.SameBut d s.heap h'->R (.ok (.ret v)) { s with heap:=h',toks:=tk}) :=
 .of_wp λA R s h=>by
  obtain⟨hu,xs,hkey,hm,hz,old,new⟩:=h;obtain⟨o,es,ep,ho,hc,hd,he,his,hn⟩:=id hm;have hT:s.TypeIs (.ref d) "dict" :=⟨_,ho,hc.1⟩;unfold Builtin.«dict.setdefault»;refine M ?_;unfold Builtin.Dict.keyAndDefault;refine M (Ag hT ?_);show wpAny _ _ (pure (d,Value.ref a,some v)) _ _ s;refine ao ?_;dsimp only;rw[hs];simp only[Bool.false_eq_true,if_false];exact M (R3 hu hkey hm hz (λp tk e=>ao ⟨_,Z,old p tk e⟩) λh' tk e hD sb=>ao ⟨_,Z,new h' tk e hD sb⟩)
end
end Dy
namespace L2
open PyProof.Rows Bg
section
variable{X:Cx}
inductive a5W(x:V)(vs:List V)(H:Hp)(Q:VK):Prop
 |mk (a b:Addr) (k:List Key) (J:List (List Key×V)) (v:V) (_:x=.ref a) (_:vs=[.ref b,v]) (_:H b=some (.tup (k.map kV))) (_:H a=some (.dT J)) (_:Q ((gh J k).getD v) H)
def a0Z(hu:X.A.units+1<cLine):Ro X "dict.get" a5W:=by
 intro Y s σ H x xs v us Q I rx rs h;obtain⟨a,b,k,J,y,rfl,rfl,hb,e,q⟩:=h;obtain rfl:v=Value.ref a:=rx;obtain⟨u,u2,rfl,ru,ru2⟩:=vals2 rs;obtain rfl:u=Value.ref b:=ru;obtain⟨z,hd,xs,rel,dd⟩:=vM I.hok e;exact El Od dd.typeIs PySem.F.entry_dict_get (PySem.F.args_dict_get_3 _ _ _) (meetsH_dict_get_default (tupleKind (dJ X.prog X.w)) a b hd u2) ⟨wC hu,k,xs,Bc I.hok hb,dd,⟨_,H,I.tok _,(rel.val k).getD ru2,q⟩⟩
end
end L2
namespace Dk
open PyProof.Rows
variable{b:Bool}
def a5X(b:Bool)(v:Value):Bool:=match v with
 |.bool c=>c==b
 |_=>false
def qC{v:Value}(h:a5X b v=true):v=.bool b:=by
 cases v with
 |bool c=>exact congrArg Value.bool (eq_of_beq h)
 |_=>cases h
section
variable{prog:Program}{w:World}{A:Around}{E:Value->Shared->Prop}{s:Shared}
def ZF{Q : Int → Shared → Prop}(h : Q (if b then 1 else 0) { s with toks := s.toks + 1 }) : wpAny (model prog w) A (pyHash (.bool b)) Q E s := by
  unfold pyHash;have hv : [Value.bool b].any Value.onHeap = false := rfl;refine M ?_;rw [cRoomFor, aq ()]; refine ao ?_;refine M (Aq (Eh s b) F.slot_bool_hash.lookup ?_);show wpAny _ _ (if (some (Value.builtin "int.__hash__") == some Value.none) = true then _ else _) Q E s;rw [aq ()];refine M (Aq (Eh s b) F.slot_bool_hash.lookup ?_);show wpAny _ _ (callSpecialIfBoundUnlessNone? (.bool b) "__hash__" _ >>= _) Q E s;cases b
  · refine M (â (Eh s false) O3
      (gk O3 (Eh s false) entry_int_hash
        (show wpAny _ _ (do ret (← mkInt 0)) _ _ s from Va ?_) (args_int_hash _)))
    exact ao h
  · refine M (â (Eh s true) O3
      (gk O3 (Eh s true) entry_int_hash
        (show wpAny _ _ (do ret (← mkInt 1)) _ _ s from Va ?_) (args_int_hash _)))
    exact ao h
def ĺ{a:Bool}{Q:Bool->Shared->Prop}(h:Q (decide (a=b)) s):wpAny (model prog w) A (eqBool (.bool a) (.bool b)) Q E s:=by
 unfold eqBool;show wpAny _ _ (if(Value.bool a==Value.bool b)=true then _ else _) Q E s;by_cases hab:(Value.bool a==Value.bool b)=true
 ·rw[aF hab];have e:a=b:=()
  subst e;exact M (kh (ao (by simpa using h)))
 ·rw[aq hab];refine M (eq_bool (Aj ?_));grind
end
def Jz(prog:Program)(w:World):KeyKind prog w Bool where
 is:=a5X
 hash:=λb=>if b then 1 else 0
 inj:=λv a b h h'=>by
  have e:=qC h
  have e':=qC h'
  rw[e]at e'
  injection e'
 byValue:=λk v h=>by rw[qC h];rfl
 pyHash:=λhv h=>by rw[qC hv];exact ZF h
 eqBool:=λhu hv h=>by rw[qC hu,qC hv];exact ĺ h
 «strs» := λk x t v h=>by cases h
end Dk
namespace L2
open PyProof.Rows Bg
section
variable{P:Program}{w:World}{κ:Type} [DecidableEq κ]
inductive ZG(knd:KeyKind P w κ)(H:Hp)(b:Addr)(k:List κ):Prop
 |mk (vs:_) (_:H b=some (.tup vs)) (_:Paired (λv x=>∀u,cQ v u->knd.is x u=true) vs k)
def ZG.same{knd:KeyKind P w κ}{H H':Hp}{b:Addr}{k:List κ}(e:∀c ys,H c=some (.tup ys)->H' c=some (.tup ys))(h:ZG knd H b k):ZG knd H' b k:=by
 obtain⟨vs,h1,h2⟩:=h;exact⟨vs,e _ _ h1,h2⟩
def a3T{knd:KeyKind P w κ}{vs:List V}{k:List κ}{us:List Value}(p:Paired (λv x=>∀u,cQ v u->knd.is x u=true) vs k)(q:cP vs us):ItemsAre knd k us:=by
 induction p generalizing us with
 |nil=>cases q;exact .nil
 |cons h _ ih =>
  cases q with
  |cons r s=>exact .cons (h _ r) (ih s)
def Qu{knd:KeyKind P w κ}{H:Hp}{h:Heap}{b:Addr}{k:List κ}(ok:zO P w H h)(e:ZG knd H b k):(tupleKind knd).is h k b:=by
 obtain⟨vs,e1,e2⟩:=e;obtain⟨_,b7,r,o,h1,h2,n,h3⟩:=(show fM P w H h b (.tup vs)from ok b _ e1);exact⟨o,b7.toArray,n,h1,h2,h3,by simpa using a3T e2 r⟩
def Ļ(knd:KeyKind P w κ)(a:Addr)(xs:List (List κ×Addr×Value)):Heap->Prop:=λh=>(a==sysModules)=false/\∃o es ep,h.get? a=some o/\o.ExactDict/\o.data=.dict es ep/\es.toList=xs.map (entryOfKey (tupleKind knd))/\(xs.map (·.1)).Nodup
def DX(knd:KeyKind P w κ)(H:Hp)(a:Addr)(J:List (List κ×V)):Prop:=J.length<=5000/\((J=[]/\H a=some (.dT []))\/∃xs:List (List κ×Addr×Value),H a=some (.ext (Ļ knd a xs))/\Paired (λp q=>p.1=q.1/\ZG knd H q.2.1 p.1/\cQ p.2 q.2.2) J xs)
def DX.same{knd:KeyKind P w κ}{H H':Hp}{a:Addr}{J:List (List κ×V)}(e:aK H H')(h:DX knd H a J):DX knd H' a J:=by
 obtain⟨z,h|⟨xs,h1,h2⟩⟩:=h
 ·exact⟨z,.inl ⟨h.1,e _ _ h.2⟩⟩
 ·exact⟨z,.inr ⟨xs,e _ _ h1,Paired.cC h2 λ_ _ ⟨a,b,c⟩=>⟨a,b.same λ_ _ q=>e _ _ q,c⟩⟩⟩
def DX.a2O{knd:KeyKind P w κ}{H:Hp}{a:Addr}{J:List (List κ×V)}(h:DX knd H a J){ys:List V}:H a≠some (.tup ys):=λe=>by
 obtain⟨z,h|⟨xs,h1,h2⟩⟩:=h
 ·grind
 grind
def DX.new{knd:KeyKind P w κ}{H:Hp}{a:Addr}(h:H a=some (.dT [])):DX knd H a []:=⟨dh _,.inl ⟨Z,h⟩⟩
def ļ{knd:KeyKind P w κ}{H:Hp}{h:Heap}{a:Addr}{J:List (List κ×V)}(ok:zO P w H h)(d:DX knd H a J):(a==sysModules)=false/\∃xs,Paired (λp q=>p.1=q.1/\ZG knd H q.2.1 p.1/\cQ p.2 q.2.2) J xs/\h.DictOfH (tupleKind knd) a xs:=by
 obtain⟨z,⟨rfl,h1⟩|⟨xs,h1,h2⟩⟩:=d
 ·obtain⟨_,hs,xs,r,o,es,ep,e1,e2,e3,e4,e5⟩:=(show fM P w H h a (.dT [])from ok a _ h1);cases r;exact⟨hs,[],.nil,o,es,ep,e1,e2,e3,e4,(λx hx=>absurd hx eN),Ar⟩
 ·obtain⟨⟨hs,o,es,ep,e1,e2,e3,e4,e5⟩,_⟩:=(show fM P w H h a (.ext (Ļ knd a xs))from ok a _ h1);refine⟨hs,xs,h2,o,es,ep,e1,e2,e3,e4,?_,e5⟩;have all:∀{l:List (List κ×V)}{m:List (List κ×Addr×Value)},Paired (λp q=>p.1=q.1/\ZG knd H q.2.1 p.1/\cQ p.2 q.2.2) l m->∀x∈m,(tupleKind knd).is h x.1 x.2.1:=by
   intro l m q
   induction q with
   |nil=>grind
   |cons z _ ih =>
    intro x hx;rcases cB.mp hx with rfl|hx
    ·rw[<-z.1];exact Qu ok z.2.1
    ·exact ih x hx
  exact all h2
def a00{knd:KeyKind P w κ}{H':Hp}{h':Heap}{a:Addr}{xs:List (List κ×Addr×Value)}(hs:(a==sysModules)=false)(dd:h'.DictOfH (tupleKind knd) a xs):fM P w H' h' a (.ext (Ļ knd a xs)):=by
 obtain⟨o,es,ep,h1,h2,h3,h4,_,h5⟩:=dd;refine⟨⟨hs,o,es,ep,h1,h2,h3,h4,h5⟩,⟨o,h1⟩,λg1 g2 q k=>?_⟩;obtain⟨hs,o,es,ep,h1,h2,h3,h4,h5⟩:=q;exact⟨hs,o,es,ep,k _ h1,h2,h3,h4,h5⟩
def a5Y{knd:KeyKind P w κ}{H:Hp}(k:List κ){J:List (List κ×V)}{xs:List (List κ×Addr×Value)}(h:Paired (λp q=>p.1=q.1/\ZG knd H q.2.1 p.1/\cQ p.2 q.2.2) J xs):sX (gh J k) ((atKey xs k).map (·.2)):=by
 induction h with
 |nil=>exact mL
 | @cons p q J xs h t ih =>
  obtain⟨k1,v1⟩:=p;obtain⟨k2,a2,u2⟩:=q;obtain⟨e,_,r⟩:=h;have e:k1=k2:=e;subst e;unfold gh atKey at ih ⊢;by_cases c:k1=k
  ·rw[uX (),uX ()];exact r
  grind
end
section
variable{X:Cx}{κ:Type} [DecidableEq κ]
inductive Ľ{P:Program}{w:World}(knd:KeyKind P w κ)(x:V)(vs:List V)(H:Hp)(Q:VK):Prop
 |mk (a b:Addr) (k:List κ) (J:List (List κ×V)) (v:V) (_:x=.ref a) (_:vs=[.ref b,v]) (_:ZG knd H b k) (_:DX knd H a J) (_:J.length<=4000) (_:(∀y,gh J k=some y->Q y H)) (_:(gh J k=none->∀H',(∀c,c≠a->H' c=H c)->DX knd H' a (J++[(k,v)])->Q v H'))
def JB(knd:KeyKind X.prog X.w κ)(hu:X.A.units+1<cLine):Ro X "dict.setdefault" (Ľ knd):=by
 intro Y s σ H x xs v us Q I rx rs h;obtain⟨a,b,k,J,y,rfl,rfl,hb,e,l5,old,new⟩:=h;obtain rfl:v=Value.ref a:=rx;obtain⟨u,u2,rfl,ru,ru2⟩:=vals2 rs;obtain rfl:u=Value.ref b:=ru;obtain⟨hd,xs,rel,dd⟩:=ļ I.hok e;have lx:xs.length=J.length:=(aM rel).symm;have rv:=a5Y k rel;have hr:(tupleKind knd).room X.A.in1:=wC hu;refine El PySem.F.slot_dict_setdefault dd.typeIs PySem.F.entry_dict_setdefault (PySem.F.args_dict_setdefault_3 _ _ _) (Dy.Fi (knd:=tupleKind knd) (k:=k) hd) ⟨hr,xs,Qu I.hok hb,dd,by rw[iU];omega,λp tk ep=>?_,λh' tk en dd' hs=>?_⟩
 ·have ev:(atKey xs k).map (·.2)=some p.2:=by rw[ep];rfl
  cases c:gh J k with
  |none =>
   rw[c]at rv;have:=sX.none_of rv;grind
  |some y0 =>
   rw[c]at rv;obtain⟨w',hw,Y7⟩:=sX.some_of rv;rw[ev]at hw;cases hw;exact⟨y0,H,I.tok tk,Y7,old y0 c⟩
 ·have he:∃q,h'.get? a=some q:=by
   obtain⟨q,_,_,hq,_⟩:=dd';exact⟨q,hq⟩
  have cn:gh J k=none:=by
   cases c:gh J k with
   |none=>rfl
   |some y0 =>
    rw[c]at rv;obtain⟨w',hw,_⟩:=sX.some_of rv;grind
  have mu:Mut (H a):=by
   obtain⟨_,h|⟨xs,h1,_⟩⟩:=e
   ·rw[h.2];exact mL
   ·rw[h1];exact mL
  have nt:=λys=>e.a2O (ys:=ys);have keep:∀c ys,H c=some (.tup ys)->cN H a (.ext (Ļ knd a (xs++[(k,b,u2)]))) c=some (.tup ys):=λc ys hc=>by
   rw[aU (λz=>nt ys ())];exact hc
  refine⟨y,_,Hw I mu hs he (a00 hd dd'),ru2,new cn _ (λc hc=>aU hc) ⟨(),.inr ⟨_,cY,?_⟩⟩⟩;have go:∀{ks:List (List κ×V)}{ys:List (List κ×Addr×Value)},Paired (λp q=>p.1=q.1/\ZG knd H q.2.1 p.1/\cQ p.2 q.2.2) ks ys->Paired (λp q=>p.1=q.1/\ZG knd (cN H a (.ext (Ļ knd a (xs++[(k,b,u2)])))) q.2.1 p.1/\cQ p.2 q.2.2) (ks++[(k,y)]) (ys++[(k,b,u2)]):=λ{ks ys} r=>by
   induction r with
   |nil=>exact .cons ⟨Z,hb.same keep,ru2⟩ .nil
   |cons a _ ih=>exact .cons ⟨a.1,a.2.1.same keep,a.2.2⟩ ih
  exact go rel
inductive a5Z{P:Program}{w:World}(knd:KeyKind P w κ)(x:V)(vs:List V)(H:Hp)(Q:VK):Prop
 |mk (a b:Addr) (k:List κ) (J:List (List κ×V)) (v:V) (_:x=.ref a) (_:vs=[.ref b,v]) (_:ZG knd H b k) (_:DX knd H a J) (_:Q ((gh J k).getD v) H)
def a01(knd:KeyKind X.prog X.w κ)(hu:X.A.units+1<cLine):Ro X "dict.get" (a5Z knd):=by
 intro Y s σ H x xs v us Q I rx rs h;obtain⟨a,b,k,J,y,rfl,rfl,hb,e,q⟩:=h;obtain rfl:v=Value.ref a:=rx;obtain⟨u,u2,rfl,ru,ru2⟩:=vals2 rs;obtain rfl:u=Value.ref b:=ru;obtain⟨hd,xs,rel,dd⟩:=ļ I.hok e;exact El Od dd.typeIs PySem.F.entry_dict_get (PySem.F.args_dict_get_3 _ _ _) (meetsH_dict_get_default (tupleKind knd) a b hd u2) ⟨wC hu,k,xs,Qu I.hok hb,dd,⟨_,H,I.tok _,(a5Y k rel).getD ru2,q⟩⟩
def tBX{P:Program}{w:World}(knd:KeyKind P w κ)(r:V->List V->Hp->VK->Prop)(to:TE)(t:TA):TE:=λσ H Q=>to σ H λx H1=>(∃a J,x=.ref a/\DX knd H1 a J)/\t σ H1 λxs H2=>r x xs H2 Q
def ľ{o e:Expr}{es:List Expr}{to:TE}{t:TA}{name:Str}{apos cpos:Pos}{id:String}{r:V->List V->Hp->VK->Prop}(knd:KeyKind X.prog X.w κ)(pa:PlainAttrs "dict")(slot:Slot "dict" name id)(hty:typeOf (.builtin id)=pure (.type "method_descriptor"))(hm:Ro X id r)(ho:PE X o to)(ha:PA X (e::es) t)
  (hbase:attributeBase o name X.env (eval o X.env)=eval o X.env:=by rfl)
  (hfew:((backTo cpos (starEach (e::es) X.env)).all (λx=>!x.1)&&(backToKw cpos (keywordEach [] X.env)).all (λx=>x.1.isSome)
   && decide ((e::es).length+([]:List Keyword).length+(if([]:List Keyword).isEmpty then 0 else 1)<30))=true:=by rfl)
  (hline:(apos.endLine==cpos.line)=true:=by rfl) (hs:starEach (e::es) X.env=(false,eval e X.env)::starEach es X.env:=by rfl) (hplain:(backTo cpos (starEach es X.env)).any (·.1)=false:=by rfl) :
  PE X (.Call (.Attribute o name apos) (e::es) [] cpos) (tBX knd r to t):=by
 intro Y s σ H Q I h;refine wpAny_Call_method_late hbase hfew hline Z (jr (ho Y s σ H _ I h) λv s1 ⟨x,H1,I1,r1,⟨a,J,ex,dx⟩,q1⟩=>?_);subst ex;obtain rfl:v=Value.ref a:=r1;obtain⟨_,xs,_,dd⟩:=ļ I1.hok dx;refine⟨"dict",id,pa,slot,hty,dd.typeIs,λb eb=>?_,?_⟩
 ·injection eb with eb
  subst eb;obtain⟨o,_,_,h1,h2,_⟩:=dd;exact⟨o,h1,h2.2.1⟩
 have hA:=ha cpos Y s1 σ H1 _ I1 q1;rw[hs]at hA ⊢;exact Uh () (Calls.evalArgs_plain (jr hA λus s2 ⟨vs,H2,I2,r2,q2⟩=>hm Y s2 σ H2 (.ref a) vs _ us Q I2 Z r2 q2))
end
end L2
namespace Di
open PyProof.Rows
variable{o:Obj}{es:Array DictEntry}{ep:Nat}
variable{prog:Program}{w:World}{A:Around}{E:Value->Shared->Prop}{s:Shared}
abbrev vO(d:Addr):Obj:={ cls:=.type "dict_items",data:=.fields #[.ref d]}
def Ŀ{d:Addr}{Q:Value->Shared->Prop}(hs:(d==sysModules)=false)(ho:s.heap.get? d=some o)(hx:o.ExactDict)
  (h:Q (.ref s⁻¹) { s with heap:=s.heap.push (vO d)}):wpAny (model prog w) A (call (.builtin "dict.items") [.ref d]) Q E s:=by
 have hT:s.TypeIs (.ref d) "dict" :=⟨_,ho,hx.1⟩;refine gk F.slot_dict_items hT F.entry_dict_items ?_ (F.args_dict_items_1 _);unfold Builtin.«dict.items»;refine M ?_;unfold Builtin.Dict.noArgs;refine M (Ag hT (ao ?_));refine M ?_;unfold Builtin.Dict.showsAll;refine jJ (L2.yx () (ao ?_));exact M (j5 (ao ⟨_,Z,h⟩))
def CQ{v d:Addr}{Q:Value->Shared->Prop}(hv:s.heap.get? v=some (vO d))(ho:s.heap.get? d=some o)(hd:o.data=.dict es ep)
  (h:∀h',IsItemIter h' s⁻¹ d 0 es.size ep .none .none->(∀b ob,s.heap.get? b=some ob->h'.get? b=some ob)->Q (.ref s⁻¹) { s with heap:=h'}):wpAny (model prog w) A (pyIter (.ref v)) Q E s:=by
 have hT:s.TypeIs (.ref v) "dict_items" :=⟨_,hv,Z⟩;refine Iw hT F.slot_dict_items_iter (gk F.slot_dict_items_iter hT F.entry_dict_items_iter ?_ (F.args_dict_items_iter_1 _));unfold Builtin.«dict_items.__iter__»;refine M (ao ?_);refine M ?_;unfold Builtin.Dict_items.dictOf;refine M (gn hv Z (x:=.ref d) Z (ao ?_));refine M ?_;unfold Builtin.Dict_items.newIterator;refine M (mH ho hd ?_);refine M (wF ho hd ?_);have own:Builtin.Dict_items.ownsTuple "dict_itemiterator" = true:=()
 simp only[own,if_true];refine j5 ?_ (by simp only[sizeOk,sizeLine_eq,Builtin.Dict_items.ownedTupleFields,List.size_toArray,List.length_append,List.length_cons,List.length_nil];omega);exact ao ⟨_,Z,"dict_itemiterator",_,⟨_,bU _ Z,Z⟩,F.slot_dict_itemiterator_next.lookup,h _ (bU _ Z) λb ob e=>bB _ e⟩
def item_at{it d:Addr}{i:Nat}{e:DictEntry}{ok ov:Value}{Q:Option Value->Shared->Prop}(ho:s.heap.get? d=some o)(hd:o.data=.dict es ep)(hit:IsItemIter s.heap it d i es.size ep ok ov)(hx:es[i]?=some e)
  (h:∀h',IsItemIterOut h' it d (i+1) es.size ep e.key e.val s⁻¹->h'.get? s⁻¹=some { cls:=.type "tuple",data:=.seq #[e.key,e.val]}->h'.objs.size=s⁻¹+1->
   (∀b ob,b≠it->s.heap.get? b=some ob->h'.get? b=some ob)->Q (some (.ref s⁻¹)) { s with heap:=h'}):wpAny (model prog w) A (pyNext (.ref it)) Q E s:=by
 have hT:s.TypeIs (.ref it) "dict_itemiterator" :=⟨_,hit,Z⟩;have own:Builtin.Dict_items.ownsTuple "dict_itemiterator" = true:=()
 unfold pyNext;refine M (tU (mZ (name:=Str.ofString "__next__") hT NP (gk NP hT ç ?_ (æ _))));refine M (ao ?_);refine M ?_;refine M ?_;refine M (m:=typeNameOfWhole _) (Nz hT (ao ?_));refine M (Ei hit Z ?_);simp only[own,if_true];show wpAny _ _ (if(Value.ref d==Value.none)=true then _ else _) _ _ _;refine jJ (L2.yx (by simp) ?_);refine M (m:=Builtin.Dict_items.addrOf _) (ao ?_);refine M (mH ho hd ?_);refine jJ (L2.yx (by simp) ?_);refine M (m:=Builtin.Dict_items.addrOf _) (ao ?_);refine M (wF ho hd ?_);refine jJ (L2.yx (by simp) (ao ?_));dsimp only;have e1:(if(i:Int)<0 then none else es[(i:Int).toNat]?)=some e:=by
  rw[aq (),jD];exact hx
 rw[e1];dsimp only;refine M (M (m:=typeNameOfWhole _) (Nz hT (ao (M (Uk hT ?_)))));show wpAny _ _ (setField (.ref it) 3 (rawInt ((i:Int)+1)) >>= _) _ _ _;refine M (iQ hit (by simp) λh1 he1 Ey=>?_);have q1:((i+1:Nat):Int)=(i:Int)+1:=()
 have a6a:IsItemIter h1 it d (i+1) es.size ep ok ov:=by unfold IsItemIter;rw[q1];simpa [rawInt]using he1
 have hT1:Shared.TypeIs { s with heap:=h1} (.ref it) "dict_itemiterator" :=⟨_,a6a,rfl⟩;have z1:h1.objs.size=s⁻¹:=Ey.1;have il:it<s⁻¹:=aX hit;refine M (eU (M (Uk hT1 (M (Uk hT1 ?_)))));show wpAny _ _ (Builtin.Dict_items.pairFromOwner (.ref it) 6 e.key e.val) _ _ { s with heap:=h1};unfold Builtin.Dict_items.pairFromOwner;refine M (IW ?_);have he2:IsItemIter (h1.push { cls:=.type "tuple",data:=.seq #[e.key,e.val]}) it d (i+1) es.size ep ok ov:=bB _ a6a;have t2:(h1.push { cls:=.type "tuple",data:=.seq #[e.key,e.val]}).get? s⁻¹=some { cls:=.type "tuple",data:=.seq #[e.key,e.val]}:=by rw[<-z1];exact bU _ rfl
 have z2:(h1.push { cls:=.type "tuple",data:=.seq #[e.key,e.val]}).objs.size=s⁻¹+1:=by rw[j8,z1]
 have k2:∀b ob,b≠it->s.heap.get? b=some ob->(h1.push { cls:=.type "tuple",data:=.seq #[e.key,e.val]}).get? b=some ob:=λb ob hb q=>bB _ (Ey.extBut b ob hb q);rw[z1];generalize h1.push { cls:=.type "tuple",data:=.seq #[e.key,e.val]}=h2 at he2 t2 z2 k2;refine M ?_;unfold Builtin.Dict_items.ownedTupleIsFree;refine M (gn he2 Z (x:=.none) Z (ao ?_));simp only[if_true];refine M (gn he2 Z (x:=ok) Z (M (gn he2 Z (x:=ov) Z ?_)));refine M (iQ he2 (by simp) λh3 he3 s3=>?_);have he3:IsItemIter h3 it d (i+1) es.size ep e.key ov:=he3;refine M (iQ he3 (by simp) λh4 he4 s4=>?_);have he4:IsItemIter h4 it d (i+1) es.size ep e.key e.val:=he4;refine M (iQ he4 (by simp) λh5 he5 s5=>?_);have he5:IsItemIterOut h5 it d (i+1) es.size ep e.key e.val s⁻¹:=he5;refine M (iQ he5 (by simp) λh6 he6 s6=>?_);have he6:IsItemIterOut h6 it d (i+1) es.size ep e.key e.val s⁻¹:=he6;have up:∀b ob,b≠it->h2.get? b=some ob->h6.get? b=some ob:=λb ob hb q=>s6.extBut b ob hb (s5.extBut b ob hb (s4.extBut b ob hb (s3.extBut b ob hb q)));refine M (wI (ao (ao ⟨_,Z,ao (h h6 he6 (up _ _ (gC il) t2) ?_ λb ob hb q=>up b ob hb (k2 b ob hb q))⟩)));show h6.objs.size=_;rw[s6.1,s5.1,s4.1,s3.1];exact z2
def Jw{it d:Addr}{ok ov:Value}{Q:Option Value->Shared->Prop}(hh:A.handled=none)(ho:s.heap.get? d=some o)(hd:o.data=.dict es ep)(hit:IsItemIter s.heap it d es.size es.size ep ok ov)
  (h:∀h',Heap.ExtBut it s.heap h'->Q none { s with heap:=h'}):wpAny (model prog w) A (pyNext (.ref it)) Q E s:=by
 have hT:s.TypeIs (.ref it) "dict_itemiterator" :=⟨_,hit,Z⟩;have own:Builtin.Dict_items.ownsTuple "dict_itemiterator" = true:=()
 unfold pyNext;refine M (tU (mZ (name:=Str.ofString "__next__") hT NP (gk NP hT ç ?_ (æ _))));refine M (ao ?_);refine M ?_;refine M ?_;refine M (m:=typeNameOfWhole _) (Nz hT (ao ?_));refine M (Ei hit Z ?_);simp only[own,if_true];show wpAny _ _ (if(Value.ref d==Value.none)=true then _ else _) _ _ _;refine jJ (L2.yx (by simp) ?_);refine M (m:=Builtin.Dict_items.addrOf _) (ao ?_);refine M (mH ho hd ?_);refine jJ (L2.yx (by simp) ?_);refine M (m:=Builtin.Dict_items.addrOf _) (ao ?_);refine M (wF ho hd ?_);refine jJ (L2.yx (by simp) (ao ?_));dsimp only;have e1:(if(es.size:Int)<0 then none else es[(es.size:Int).toNat]?)=none:=by rw[aq (),jD];simp
 rw[e1];dsimp only;refine M (M (m:=typeNameOfWhole _) (Nz hT (ao ?_)));show wpAny _ _ (setField (.ref it) 2 .none >>= _) _ _ _;refine M (iQ hit (by simp) λh1 hI1 Ey=>?_);refine M ?_;simp only[newExc,newTuple];right
end Di
namespace L2
open PyProof.Rows Bg
variable{o:Obj}{u:HO}{as:List Addr}
def XR(p d:Addr):HO:=.ext (λh=>h.get? p=some (Di.vO d))
def Iti(o:Obj)(d:Addr)(u:HO)(as:List Addr)(vs:List V):It :=
 ⟨λi H=>H d=some (.jq o u)/\i<as.length,λi H x H'=>∃p a v,x=.ref p/\as[i]?=some a/\vs[i]?=some v/\gP H p (.tup [.ref a,v]) H',λi H=>H d=some (.jq o u)/\i=as.length⟩
def Wj{P:Program}{w:World}{K:aH}{elts:List Expr}{k:Nat}{pos:Pos}(d it:Addr){vs:List V}{es:Array DictEntry}{ep:Nat}(hd:o.data=.dict es ep)(ek:es.toList.map (·.key)=as.map Value.ref)(ev:cP vs (es.toList.map (·.val))) :
  Turn P w K (.Tuple elts k pos) (Iti o d u as vs) [it] it (λi h=>∃ok ov,IsItemIter h it d i es.size ep ok ov) where
 mem:=by simp
 obj:=λi h st b hb=>by
  grind
 keep:=λi h h' ⟨ok,ov,st⟩ k=>⟨ok,ov,k it (by simp) _ st⟩
 item:=by
  nofun
  subst hP hw hK
  obtain⟨ok,ov,st⟩:=st
  obtain⟨hq,hi⟩:=hg
  obtain⟨hd1,_⟩:=I.hok d _ hq
  obtain⟨f0,f1,f2,f3,f4,f5⟩:=hf it (by simp)
  have ne:d≠it:=λz=>by grind
  have lz:es.size=as.length:=by have:=congrArg List.length ek;grind
  have he:es[i]?=some (es[i]'()):=uW ()
  have a3N:(es[i]'()).key=Value.ref as[i]:=by
   have:=congrArg (λl=>l[i]?) ek
   grind
  have lv:vs.length=as.length:=by
   have:=ev.length
   grind
  obtain⟨v,hv⟩:∃v,vs[i]?=some v:=⟨vs[i]'(),bH _⟩
  obtain⟨u1,hu1,ru1⟩:=ev.get hv
  have a78:(es[i]'()).val=u1:=by
   grind
  refine Di.item_at hd1 hd st he λh' hI ht hz kp=>⟨_,Z,wpAny_letOwnedTupleGo_items hI λh3 hI3 Zu=>?_⟩
  have nit:s⁻¹≠it:=gC (aX st)
  have kp3:∀c oc,c∉[it]->s.heap.get? c=some oc->h3.get? c=some oc:=λc oc hc q=>by
   have hc':c≠it:=()
   exact(Zu.2 c hc').trans (kp c oc hc' q)
  have I1:bG X Y σ H { s with heap:=h3}:=zG I [it] (λc hc=>hf c hc) kp3
  have hfree:H s⁻¹=none:=I.hok.fresh (aL _)
  have ht3:h3.get? s⁻¹=some { cls:=.type "tuple",data:=.seq #[(es[i]'()).key,(es[i]'()).val]}:=(Zu.2 _ nit).trans ht
  have I2:bG X Y σ (cN H s⁻¹ (.tup [.ref as[i],v])) { s with heap:=h3}:=by
   refine bG.track I1 hfree I.sz (gC I.lt) (λy c q=>?_) (λp hp=>bY (aX (I.pin p hp).1)) ?_
   ·obtain⟨v,oc,q1,_⟩:=I.cell y c q
    grind
   ·exact⟨(by show 2<=sizeLine;decide),[(es[i]'()).key,(es[i]'()).val],.cons a3N (.cons () .nil),⟨_,ht3,Z,_,Z⟩⟩
  refine⟨.ref s⁻¹,_,I2,Z,⟨_,as[i],v,Z,bH hi,hv,gP.ou hfree⟩,⟨_,_,hI3⟩,λc hc=>?_⟩
  have e:c=it:=()
  subst e
  rw[aU (Ne.symm nit)]
  exact f0
 done:=by
  nofun
  subst hP hw hK
  obtain⟨ok,ov,st⟩:=st
  obtain⟨hq,hx⟩:=hg
  obtain⟨hd1,_⟩:=I.hok d _ hq
  obtain⟨f0,f1,f2,f3,f4,f5⟩:=hf it (by simp)
  have lz:es.size=as.length:=by have:=congrArg List.length ek;grind
  rw[hx,<-lz]at st
  exact Di.Jw (I.ok.hd hc) hd1 hd st λh' eb=>⟨Z,I.turned (t':=s.toks) (λb o hb e=>eb b o hb e) f0 f1 f3 f4 f5⟩
 self:=λ_ _ _ _ _ ⟨ok,ov,st⟩ h=>PySem.W.kcp_self st h
section
variable{X:Cx}
inductive a02(x:V)(vs:List V)(H:Hp)(Q:VK):Prop
 |mk (d:Addr) (J:List (List Key×V)) (_:x=.ref d) (_:vs=[]) (_:H d=some (.dT J)) (_:∀p H',gP H p (XR p d) H'->Q (.ref p) H')
def vN:Ro X "dict.items" a02:=by
 intro Y s σ H x xs v us Q I rx rs h;obtain⟨d,J,rfl,rfl,e,q⟩:=h;obtain rfl:v=Value.ref d:=rx;cases rs;obtain⟨_,hs,xs,rel,o,es,ep,ho,hx,hdt,hes,_,_⟩:=vM I.hok e;refine Di.Ŀ hs ho hx ?_;have g:(s.heap.push (Di.vO d)).get? s⁻¹=some (Di.vO d):=bU _ rfl;refine⟨.ref s⁻¹,_,I.laid (t':=s.toks) (o:=XR s⁻¹ d) (λb ob eb=>bB _ eb) (aL _) ⟨g,⟨_,g⟩,λh1 h2 e1 k=>k _ e1⟩,Z,q _ _ (gP.ou (I.hok.fresh (aL _)))⟩
def a03(tl:TE):TI:=λσ H R=>tl σ H λx H1=>∃p d J,x=.ref p/\H1 p=some (XR p d)/\H1 d=some (.dT J)/\
 ∀o as,Paired (λa (kv:List Key×V)=>(cN H1 d (.jq o (.dT J))) a=some (.tup (kv.1.map kV))) as J->R (Iti o d (.dT J) as (J.map (·.2))) (cN H1 d (.jq o (.dT J)))
def vP{elts:List Expr}{k:Nat}{tpos:Pos}{l:Expr}{tl:TE}(hl:PE X l tl):PI X (.Tuple elts k tpos) l (a03 tl):=by
 intro Y s σ H R I h;refine jr (hl Y s σ H _ I h) λv s1 ⟨x,H1,I1,r1,q1⟩=>?_;obtain⟨p,d,J,e,hp,hd,q⟩:=q1;subst e;cases r1;obtain⟨_,hs,xs,rel,o,es,ep,ho,hx,hdt,hes,_,_⟩:=vM I1.hok hd;have hv:s1.heap.get? p=some (Di.vO d):=(show fM X.prog X.w H1 s1.heap p (XR p d)from I1.hok p _ hp).1;have I2:bG X Y σ (cN H1 d (.jq o (.dT J))) s1:=I1.Wf hd (λ_ z=>by cases z) (λ_ z=>by cases z) (λ_ z=>by cases z) (I1.XQ hd λ_ _ z=>by cases z) ⟨ho,I1.hok d _ hd⟩;have ek:es.toList.map (·.key)=(xs.map λx=>x.2.1).map Value.ref:=by rw[hes,j9,j9];rfl
 have ev:cP (J.map (·.2)) (es.toList.map (·.val)):=by
  rw[hes,j9];have go:∀{ks:List (List Key×V)}{ys:List (List Key×Addr×Value)},KT H1 ks ys->cP (ks.map (·.2)) (ys.map λx=>x.2.2):=λ{ks ys} r=>by
   induction r with
   |nil=>exact .nil
   |cons a _ ih=>exact .cons a.2.2 ih
  exact go rel
 have pk:Paired (λa (kv:List Key×V)=>(cN H1 d (.jq o (.dT J))) a=some (.tup (kv.1.map kV))) (xs.map λx=>x.2.1) J:=by
  have go:∀{ks:List (List Key×V)}{ys:List (List Key×Addr×Value)},KT H1 ks ys->Paired (λa (kv:List Key×V)=>(cN H1 d (.jq o (.dT J))) a=some (.tup (kv.1.map kV))) (ys.map λx=>x.2.1) ks:=λ{ks ys} r=>by
   induction r with
   |nil=>exact .nil
   | @cons kv y _ _ a _ ih =>
    refine .cons ?_ ih;have nb:y.2.1≠d:=λz=>by grind
    rw[aU nb];exact a.2.1
  exact go rel
 refine Di.CQ hv ho hdt λh' hI kp=>⟨s1⁻¹,[s1⁻¹],_,_,_,Z,I2.kept (t':=s1.toks) (λb ob e=>kp b ob e),Wj d _ hdt ek ev,⟨_,_,hI⟩,λb hb=>?_,q o _ pk⟩;have e:b=s1⁻¹:=()
 subst e;exact I2.Gv (aL _) (I2.hok.fresh (aL _))
end
def wW{d:Addr}{vs:List V}{g:TG}{tb:TS}{D:Ends}{σ:St}{H:Hp}(Pv:Nat->St->Hp->Prop)(h0:Pv 0 σ H)(hl:∀i σ H,i<=as.length->Pv i σ H->H d=some (.jq o u))
  (hs:∀(i:Nat) a v σ H p H',as[i]?=some a->vs[i]?=some v->Pv i σ H->gP H p (.tup [.ref a,v]) H'->g (.ref p) σ H' λσ2 H2=>tb { D with nx:=Pv (i+1),ct:=Pv (i+1),bk:=D.nx} σ2 H2) (hd:∀σ H,Pv as.length σ H->D.nx σ H) :
  ∃W:Nat->Nat->St->Hp->Prop,(∃m,W 0 m σ H)/\∀i m σ H,W i m σ H->
   ((Iti o d u as vs).stop i H/\D.nx σ H)\/((Iti o d u as vs).go i H/\∃N:St->Hp->Prop,(∀σ' H',N σ' H'->∃m',m'<m/\W (i+1) m' σ' H')/\∀x H',(Iti o d u as vs).Û i H x H'->g x σ H' λσ2 H2=>tb { D with nx:=N,ct:=N,bk:=D.nx} σ2 H2):=by
 refine⟨λi m σ H=>m=as.length-i/\i<=as.length/\Pv i σ H,⟨as.length,by simp,dh _,h0⟩,?_⟩;rintro i m σ H ⟨rfl,hi,p⟩;have q1:=hl i σ H hi p;by_cases hlt:i<as.length
 ·refine .inr ⟨⟨q1,hlt⟩,Pv (i+1),λσ' H' p'=>⟨as.length-(i+1),(),Z,hlt,p'⟩,λx H' y=>?_⟩;obtain⟨pp,a,v,rfl,ea,ev,nw⟩:=y;exact hs i a v σ H pp H' ea ev p nw
 ·have e:i=as.length:=()
  subst e;exact .inl ⟨⟨q1,Z⟩,hd σ H p⟩
def ZJ{d:Addr}{vs:List V}{ix:List (Option Nat)}{g:TG}{tt:TT}{te:TE}{σ:St}{H1:Hp}{Q:VK}(Pv:Nat->List V->Hp->Prop)(h0:Pv 0 [] H1)(hl:∀i ys H,i<=as.length->Pv i ys H->H d=some (.jq o u)/\ys.length<=5000)
  (hs:∀i ys H a v p H',as[i]?=some a->vs[i]?=some v->Pv i ys H->gP H p (.tup [.ref a,v]) H'->g (.ref p) (rA ix σ) H' λσ2 H2=>tt σ2 H2 λb H3=>if b=true then te σ2 H3 λv H4=>Pv (i+1) (ys++[v]) H4 else Pv (i+1) ys H3)
  (hd:∀ys H p,Pv as.length ys H->H p=none->Q (.ref p) (cN H p (.lst ys))):nD ix g tt te σ H1 Q (Iti o d u as vs):=by
 refine⟨λi m ys H=>m=as.length-i/\i<=as.length/\Pv i ys H,⟨as.length,by simp,dh _,h0⟩,?_⟩;rintro i m ys H ⟨rfl,hi,pp⟩;obtain⟨hx,z⟩:=hl i ys H hi pp;have z':ys.length<=sizeLine:=by rw[iU];omega
 by_cases hlt:i<as.length
 ·refine .inr ⟨⟨hx,hlt⟩,z',λys' H'=>Pv (i+1) ys' H',λys' H' p'=>⟨as.length-(i+1),(),Z,hlt,p'⟩,λx H' y=>?_⟩;obtain⟨p,a,v,rfl,ea,ev,nw⟩:=y;exact hs i ys H a v p H' ea ev pp nw
 ·have ei:i=as.length:=()
  subst ei;exact .inl ⟨⟨hx,Z⟩,z',λp hp=>hd ys H p pp hp⟩
end L2
namespace Z3
open PyProof.Rows
variable{a b c x:Value}{k n l1 l2 l3:Nat}{xs ys zs:Array Value}
abbrev Lh(h:Heap)(T:Addr)(a b c:Value):Prop:=h.get? T=some { cls:=.type "tuple",data:=.seq #[a,b,c]}
section
variable{prog:Program}{w:World}{A:Around}{E:Value->Shared->Prop}{s:Shared}
def put{T:Addr}{Q:Unit->Shared->Prop}(hT:Lh s.heap T a b c)
  (h:∀h',h'.get? T=some { cls:=.type "tuple",data:=.seq ((#[a,b,c]:Array Value).setIfInBounds k x)}->Heap.SameBut T s.heap h'->Q ⟨⟩ { s with heap:=h'}):wpAny (model prog w) A (updateSeq T (·.setIfInBounds k x)) Q E s:=by
 refine O6 hT Z (h _ ?_ (nA ..));rw[Af _ hT rfl];simp[Obj.mapSeq]
def next_item{y v:Value}{Q:Value->Shared->Prop}(q1:l1<n)(q2:l2<n)(q3:l3<n)
  (hz:IsZip s.heap (n+5) (n+3) (n+4) .none) (hTI:Lh s.heap (n+3) (.ref n) (.ref (n+1)) (.ref (n+2))) (hTO:Lh s.heap (n+4) a b c)
  (h1:s.heap.IsListIter n l1 k) (h2:s.heap.IsListIter (n+1) l2 k) (h3:s.heap.IsListIter (n+2) l3 k) (hl1:s.heap.IsList l1 xs) (hl2:s.heap.IsList l2 ys) (hl3:s.heap.IsList l3 zs) (hx:xs[k]?=some x) (hy:ys[k]?=some y) (hv:zs[k]?=some v)
  (hQ:∀h',IsZip h' (n+5) (n+3) (n+4) (rawInt s⁻¹)->Lh h' (n+4) x y v->h'.IsListIter n l1 (k+1)->h'.IsListIter (n+1) l2 (k+1)->h'.IsListIter (n+2) l3 (k+1)->Lh h' s⁻¹ x y v->
   (∀e o,e≠n->e≠n+1->e≠n+2->e≠n+4->e≠n+5->s.heap.get? e=some o->h'.get? e=some o)->Q (.ref s⁻¹) { s with heap:=h'}) :
  wpAny (model prog w) A (Builtin.«zip.__next__» ⟨[.ref (n+5)],[]⟩) (λfin s'=>∃v,fin=.done (.ret v)/\Q v s') E s:=by
 have d41:((n+4):Nat)≠(n+1):=()
 have d42:((n+4):Nat)≠(n+2):=()
 have d54:((n+5):Nat)≠(n+4):=()
 have d52:((n+5):Nat)≠(n+2):=()
 have d51:((n+5):Nat)≠(n+1):=()
 have d50:((n+5):Nat)≠n:=()
 have d04:(n:Nat)≠(n+4):=()
 have d02:(n:Nat)≠(n+2):=()
 have d01:(n:Nat)≠(n+1):=()
 have d14:((n+1):Nat)≠(n+4):=()
 have d12:((n+1):Nat)≠(n+2):=()
 have d24:((n+2):Nat)≠(n+4):=()
 show wpAny _ _ (field (.ref (n+5)) 2 >>= _) _ _ _;refine M (gn hz Z (x:=.bool false) Z ?_);show wpAny _ _ (field (.ref (n+5)) 3 >>= _) _ _ _;refine M (gn hz Z (x:=.ref (n+3)) Z (M (oF hTI Z ?_)));show wpAny _ _ (Builtin.SmallTypes.ownedTupleIsFree (.ref (n+5)) >>= _) _ _ _;refine M ?_;unfold Builtin.SmallTypes.ownedTupleIsFree;refine M (gn hz Z (x:=.none) Z (ao ?_));simp only[if_true];bv_omega;refine M (Ul (h1.at λo q=>k1 _ o () q) (hl1.at λo q=>k1 _ o () q) hx λg2 i2 s2=>ao ?_);have k2:∀e o,e≠n+5->e≠n->s.heap.get? e=some o->g2.get? e=some o:=λe o he h0 q=>s2.extBut e o h0 (k1 e o he q);have t2:Lh g2 (n+4) a b c:=k2 _ _ () () hTO;refine M (oF t2 Z (M (put t2 λg3 t3 s3=>?_)));have t3:Lh g3 (n+4) x b c:=t3;refine M (wI (ao ?_));have k3:∀e o,e≠n+5->e≠n->e≠n+4->s.heap.get? e=some o->g3.get? e=some o:=λe o he h0 h4 q=>s3.extBut e o h4 (k2 e o he h0 q);refine M (M (Aw ?_));show wpAny _ _ (Builtin.SmallTypes.nextOf (.ref (n+1)) >>= _) _ _ _;refine M (Ul (h2.at λo q=>k3 _ o () () () q) (hl2.at λo q=>k3 _ o () () () q) hy λg4 i4 s4=>ao ?_);have k4:∀e o,e≠n+5->e≠n->e≠n+4->e≠n+1->s.heap.get? e=some o->g4.get? e=some o:=λe o he h0 h4 h5 q=>s4.extBut e o h5 (k3 e o he h0 h4 q);have t4:Lh g4 (n+4) x b c:=s4.extBut (n+4) _ d41 t3;refine M (oF t4 Z (M (put t4 λg5 t5 s5=>?_)));have t5:Lh g5 (n+4) x y c:=t5;refine M (wI (ao ?_));have k5:∀e o,e≠n+5->e≠n->e≠n+4->e≠n+1->s.heap.get? e=some o->g5.get? e=some o:=λe o he h0 h4 h5 q=>s5.extBut e o h4 (k4 e o he h0 h4 h5 q);refine M (M (Aw ?_));show wpAny _ _ (Builtin.SmallTypes.nextOf (.ref (n+2)) >>= _) _ _ _;refine M (Ul (h3.at λo q=>k5 _ o () () () () q) (hl3.at λo q=>k5 _ o () () () () q) hv λg6 i6 s6=>ao ?_);have t6:Lh g6 (n+4) x y c:=s6.extBut (n+4) _ d42 t5;refine M (oF t6 Z (M (put t6 λg7 t7 s7=>?_)));have t7:Lh g7 (n+4) x y v:=t7;refine M (wI (ao (ao ?_)));have k7:∀e o,e≠n->e≠n+1->e≠n+2->e≠n+4->e≠n+5->s.heap.get? e=some o->g7.get? e=some o:=λe o a0 a1 a2 a4 a5 q=>s7.extBut e o a4 (s6.extBut e o a2 (k5 e o a5 a0 a4 a1 q));refine M (oF t7 Z (M (IW ?_)));have sz:g7.objs.size=s⁻¹:=by rw[s7.1,s6.1,s5.1,s4.1,s3.1,s2.1,s1.1]
 have z7:IsZip g7 (n+5) (n+3) (n+4) .ellipsis:=s7.extBut (n+5) _ d54 (s6.extBut (n+5) _ d52 (s5.extBut (n+5) _ d54 (s4.extBut (n+5) _ d51 (s3.extBut (n+5) _ d54 (s2.extBut (n+5) _ d50 z1)))));have i2':g7.IsListIter n l1 (k+1):=i2.at λo q=>s7.extBut n _ d04 (s6.extBut n _ d02 (s5.extBut n _ d04 (s4.extBut n _ d01 (s3.extBut n _ d04 q))));have i4':g7.IsListIter (n+1) l2 (k+1):=i4.at λo q=>s7.extBut (n+1) _ d14 (s6.extBut (n+1) _ d12 (s5.extBut (n+1) _ d14 q));have i6':g7.IsListIter (n+2) l3 (k+1):=i6.at λo q=>s7.extBut (n+2) _ d24 q;have nl:n+5<g7.objs.size:=aX z7;show wpAny _ _ (Builtin.SmallTypes.ownedTupleHandOut (.ref (n+5)) (.ref g7.objs.size) >>= _) _ _ _;refine M ?_;unfold Builtin.SmallTypes.ownedTupleHandOut;have z8:IsZip (g7.push { cls:=.type "tuple",data:=.seq #[x,y,v]}) (n+5) (n+3) (n+4) .ellipsis:=bB _ z7;refine M (iQ z8 (by simp) λg9 z9 s9=>?_);have z9:IsZip g9 (n+5) (n+3) (n+4) (rawInt g7.objs.size):=z9;refine iQ z9 (by simp) λg10 z10 s10=>?_;have z10:IsZip g10 (n+5) (n+3) (n+4) (rawInt g7.objs.size):=z10;have up:∀e o,e≠n+5->g7.get? e=some o->g10.get? e=some o:=λe o he q=>s10.extBut _ _ he (s9.extBut _ _ he (bB _ q));have ng:g7.objs.size≠n+5:=gC nl;have t10:Lh g10 g7.objs.size x y v:=s10.extBut g7.objs.size _ ng (s9.extBut g7.objs.size _ ng (bU _ Z));rw[sz]at z10 t10;refine ao ⟨_,Z,?_⟩;show Q (.ref g7.objs.size) _;rw[sz];exact hQ g10 z10 (up _ _ () t7) (i2'.at λo q=>up _ o () q) (i4'.at λo q=>up _ o () q) (i6'.at λo q=>up _ o () q) t10 λe o a0 a1 a2 a4 a5 q=>up e o a5 (k7 e o a0 a1 a2 a4 a5 q)
def R4{y v:Value}{Q:Option Value->Shared->Prop}(q1:l1<n)(q2:l2<n)(q3:l3<n)
  (hz:IsZip s.heap (n+5) (n+3) (n+4) .none) (hTI:Lh s.heap (n+3) (.ref n) (.ref (n+1)) (.ref (n+2))) (hTO:Lh s.heap (n+4) a b c)
  (h1:s.heap.IsListIter n l1 k) (h2:s.heap.IsListIter (n+1) l2 k) (h3:s.heap.IsListIter (n+2) l3 k) (hl1:s.heap.IsList l1 xs) (hl2:s.heap.IsList l2 ys) (hl3:s.heap.IsList l3 zs) (hx:xs[k]?=some x) (hy:ys[k]?=some y) (hv:zs[k]?=some v)
  (hQ:∀h',IsZip h' (n+5) (n+3) (n+4) (rawInt s⁻¹)->Lh h' (n+4) x y v->h'.IsListIter n l1 (k+1)->h'.IsListIter (n+1) l2 (k+1)->h'.IsListIter (n+2) l3 (k+1)->Lh h' s⁻¹ x y v->
   (∀e o,e≠n->e≠n+1->e≠n+2->e≠n+4->e≠n+5->s.heap.get? e=some o->h'.get? e=some o)->Q (some (.ref s⁻¹)) { s with heap:=h'}) :
  wpAny (model prog w) A (pyNext (.ref (n+5))) Q E s:=by
 have hT:s.TypeIs (.ref (n+5)) "zip" :=⟨_,hz,Z⟩;unfold pyNext;exact M (tU (mZ (name:=Str.ofString "__next__") hT O8 (gk O8 hT F.entry_zip_next (next_item q1 q2 q3 hz hTI hTO h1 h2 h3 hl1 hl2 hl3 hx hy hv λh' a1 a2 a3 a4 a5 a6 a7=>ao (hQ h' a1 a2 a3 a4 a5 a6 a7)) (F.args_zip_next_1 _))))
def Wk{l2 l3:Nat}{a b c:Value}{Q:Option Value->Shared->Prop}(hh:A.handled=none)(q1:l1<n)
  (hz:IsZip s.heap (n+5) (n+3) (n+4) .none) (hTI:Lh s.heap (n+3) (.ref n) (.ref (n+1)) (.ref (n+2))) (h1:s.heap.IsListIter n l1 k) (hl1:s.heap.IsList l1 xs) (hx:xs[k]?=none)
  (hQ:∀h',(∀e o,e≠n->e≠n+5->s.heap.get? e=some o->h'.get? e=some o)->Q none { s with heap:=h'}) :
  wpAny (model prog w) A (pyNext (.ref (n+5))) Q E s:=by
 have hT:s.TypeIs (.ref (n+5)) "zip" :=⟨_,hz,Z⟩;have d50:(n+5:Nat)≠n:=()
 unfold pyNext;refine M (tU (mZ (name:=Str.ofString "__next__") hT O8 (gk O8 hT F.entry_zip_next ?_ (F.args_zip_next_1 _))));show wpAny _ _ (field (.ref (n+5)) 2 >>= _) _ _ _;refine M (gn hz Z (x:=.bool false) Z ?_);show wpAny _ _ (field (.ref (n+5)) 3 >>= _) _ _ _;refine M (gn hz Z (x:=.ref (n+3)) Z (M (oF hTI Z ?_)));show wpAny _ _ (Builtin.SmallTypes.ownedTupleIsFree (.ref (n+5)) >>= _) _ _ _;refine M ?_;unfold Builtin.SmallTypes.ownedTupleIsFree;refine M (gn hz Z (x:=.none) Z (ao ?_));simp only[if_true];bv_omega;refine M (wpAny_nextOf_list_end () (h1.at λo q=>k1 _ o () q) (hl1.at λo q=>k1 _ o () q) hx λg2 e s2 he=>?_);obtain⟨oe,hoe,hce⟩:=he;have z2:IsZip g2 (n+5) (n+3) (n+4) .ellipsis:=s2 (n+5) _ d50 z1;have ne:e≠n+5:=λz=>by grind
 exact iQ z2 (by simp) λg3 _ s3=>M (tM (U:="StopIteration") (T:="StopIteration") (b:=true) ⟨oe,s3.extBut e _ ne hoe,hce⟩ Ja (ao (hQ _ λc o c0 c5 q=>s3.extBut c o c5 (s2 c o c0 (k1 c o c5 q)))))
end
def ZK(a b c:Value):checkTypeCall "zip" ⟨[a,b,c],[]⟩=pure ⟨⟩:=by kernel_rfl
def ŀ(a b c:Value):checkBuiltinCall "zip.__new__" ⟨[.type "zip",a,b,c],[]⟩=pure ⟨⟩:=by kernel_rfl
def Wl(a b c d:Value):argsOk "object.__init__" ⟨[a,b,c,d],[]⟩:=by unfold argsOk;rw[signature?_of (id:="object.__init__") (n:=['_','_','t','i','n','i','_','_']) (o:=['t','c','e','j','b','o']) (by kernel_rfl) F.owner_object];kernel_rfl
abbrev p1(h:Heap)(l1:Addr):Heap:=h.push { cls:=.type "list_iterator",data:=.fields #[.ref l1,.int 0 0]}
abbrev p2(h:Heap)(l1 l2:Addr):Heap:=p1 (p1 h l1) l2
abbrev p3(h:Heap)(l1 l2 l3:Addr):Heap:=p1 (p2 h l1 l2) l3
abbrev p4(h:Heap)(l1 l2 l3:Addr):Heap:=(p3 h l1 l2 l3).push { cls:=.type "tuple",data:=.seq #[.ref h.objs.size,.ref (p1 h l1).objs.size,.ref (p2 h l1 l2).objs.size]}
abbrev p5(h:Heap)(l1 l2 l3:Addr):Heap:=(p4 h l1 l2 l3).push { cls:=.type "tuple",data:=.seq #[.none,.none,.none]}
abbrev p6(h:Heap)(l1 l2 l3:Addr):Heap:=(p5 h l1 l2 l3).push { cls:=.type "zip",data:=.fields #[.none,.bool false,.bool false,.ref (p3 h l1 l2 l3).objs.size,.ref (p4 h l1 l2 l3).objs.size]}
def ZL(l1 l2 l3:Addr)(xs ys zs:Array Value) :
  Meets (Builtin.«zip.__new__» ⟨[.type "zip",.ref l1,.ref l2,.ref l3],[]⟩) (λ_ R s=>s.heap.IsList l1 xs/\s.heap.IsList l2 ys/\s.heap.IsList l3 zs/\R (.ok (.ret (.ref (p5 s.heap l1 l2 l3).objs.size))) { s with heap:=p6 s.heap l1 l2 l3}) :=
 .of_wp λprog w A R s h=>by
  obtain⟨hp,g,d,tk,os⟩:=s;obtain⟨hl1,hl2,hl3,h⟩:=h;have hsub:=sub_zip;have a1:Heap.IsList (Shared.heap ⟨hp,g,d,tk,os⟩) l1 xs:=hl1;have a2:Heap.IsList (Shared.heap ⟨p1 hp l1,g,d,tk,os⟩) l2 ys:=U6 hl2 _;have a3:Heap.IsList (Shared.heap ⟨p2 hp l1 l2,g,d,tk,os⟩) l3 zs:=U6 (U6 hl3 _) _
  wp_walk using wD a1,wD a2,wD a3
  exact⟨_,Z,h⟩
section
variable{prog:Program}{w:World}{A:Around}{E:Value->Shared->Prop}{s:Shared}
def a6b{l1 l2 l3:Addr}{Q:Value->Shared->Prop}(hl1:s.heap.IsList l1 xs)(hl2:s.heap.IsList l2 ys)(hl3:s.heap.IsList l3 zs)
  (h:∀h',IsZip h' (s⁻¹+5) (s⁻¹+3) (s⁻¹+4) .none->Lh h' (s⁻¹+3) (.ref s⁻¹) (.ref (s⁻¹+1)) (.ref (s⁻¹+2))->
   Lh h' (s⁻¹+4) .none .none .none->h'.IsListIter s⁻¹ l1 0->h'.IsListIter (s⁻¹+1) l2 0->h'.IsListIter (s⁻¹+2) l3 0->
   (∀c o,s.heap.get? c=some o->h'.get? c=some o)->Q (.ref (s⁻¹+5)) { s with heap:=h'}) :
  wpAny (model prog w) A (call (.type "zip") [.ref l1,.ref l2,.ref l3]) Q E s:=by
 refine callType_new F.called_zip () (ZK _ _ _) (ŀ _ _ _) (λobj=>Wl obj _ _ _) F.entry_zip_new (ZL l1 l2 l3 xs ys zs) ⟨hl1,hl2,hl3,?_⟩;generalize hn:s⁻¹=n at h;have z1:(p1 s.heap l1).objs.size=n+1:=by rw[j8,hn]
 have z2:(p2 s.heap l1 l2).objs.size=n+2:=by rw[j8,z1]
 have z3:(p3 s.heap l1 l2 l3).objs.size=n+3:=by rw[j8,z2]
 have z4:(p4 s.heap l1 l2 l3).objs.size=n+4:=by rw[j8,z3]
 have z5:(p5 s.heap l1 l2 l3).objs.size=n+5:=by rw[j8,z4]
 have up:∀{h0:Heap}{c:Addr}{o ob:Obj},h0.get? c=some o->(h0.push ob).get? c=some o:=λe=>bB _ e;have g6:(p6 s.heap l1 l2 l3).get? (p5 s.heap l1 l2 l3).objs.size=some _:=bU _ rfl;have g5:(p6 s.heap l1 l2 l3).get? (p4 s.heap l1 l2 l3).objs.size=some _:=up (bU _ Z);have g4:(p6 s.heap l1 l2 l3).get? (p3 s.heap l1 l2 l3).objs.size=some _:=up (up (bU _ Z));have g3:(p6 s.heap l1 l2 l3).get? (p2 s.heap l1 l2).objs.size=some _:=up (up (up (bU _ Z)));have g2:(p6 s.heap l1 l2 l3).get? (p1 s.heap l1).objs.size=some _:=up (up (up (up (bU _ Z))));have g1:(p6 s.heap l1 l2 l3).get? s⁻¹=some _:=up (up (up (up (up (bU _ Z)))));show _/\_;rw[z3,z4,z5]at g6;rw[z4]at g5;rw[hn,z1,z2,z3]at g4;rw[z2]at g3;rw[z1]at g2;rw[hn]at g1;rw[z5];exact⟨⟨_,g6,Z⟩,h _ g6 g4 g5 ⟨_,g1,Z,Z⟩ ⟨_,g2,Z,Z⟩ ⟨_,g3,Z,Z⟩ λc o q=>up (up (up (up (up (up q)))))⟩
end
end Z3
namespace L2
open PyProof.Rows
variable{K:aH}{pos:Pos}
def Ł(K:aH)(a b c:Addr):It :=
 ⟨λi H=>∃xs ys zs x y z,bC K H a xs/\bC K H b ys/\bC K H c zs/\xs[i]?=some x/\ys[i]?=some y/\zs[i]?=some z,
 λi H v H'=>∃p x y z,v=.ref p/\gP H p (.tup [x,y,z]) H'/\(∀xs,bC K H a xs->xs[i]?=some x)/\(∀ys,bC K H b ys->ys[i]?=some y)/\∀zs,bC K H c zs->zs[i]?=some z,
 λi H=>∃xs,bC K H a xs/\xs.length<=i⟩
def ZM{P:Program}{w:World}{elts:List Expr}{k:Nat}(a b c n:Nat)(an:a<n)(bn:b<n)(cn:c<n) :
  Turn P w K (.Tuple elts k pos) (Ł K a b c) [n,n+1,n+2,n+3,n+4,n+5] (n+5) (λi h=>IsZip h (n+5) (n+3) (n+4) .none/\Z3.Lh h (n+3) (.ref n) (.ref (n+1)) (.ref (n+2))/\(∃x y z,Z3.Lh h (n+4) x y z)/\h.IsListIter n a i/\h.IsListIter (n+1) b i/\h.IsListIter (n+2) c i) where
 mem:=by simp
 obj:=λi h st e he=>by
  obtain⟨hz,hTI,⟨x,y,z,hTO⟩,⟨o1,e1,c1,d1⟩,⟨o2,e2,c2,d2⟩,⟨o3,e3,c3,d3⟩⟩:=st
  grind
 keep:=λi h h' st kk=>by
  obtain⟨hz,hTI,⟨x,y,z,hTO⟩,h1,h2,h3⟩:=st
  exact⟨kk (n+5) (by simp) _ hz,kk (n+3) (by simp) _ hTI,⟨x,y,z,kk (n+4) (by simp) _ hTO⟩,h1.at λo q=>kk n (by simp) o q,h2.at λo q=>kk (n+1) (by simp) o q,h3.at λo q=>kk (n+2) (by simp) o q⟩
 item:=by
  nofun
  subst hP hw hK
  obtain⟨xs,ys,zs,x,y,z,hq1,hq2,hq3,hx,hy,hz0⟩:=hg
  obtain⟨R5,rv1,ZP,hz1⟩:=I.list hq1
  obtain⟨its2,rv2,pl2,hz2⟩:=I.list hq2
  obtain⟨a7y,rv3,pl3,hz3⟩:=I.list hq3
  obtain⟨u1,hu1,ru1⟩:=rv1.get hx
  obtain⟨u2,hu2,ru2⟩:=rv2.get hy
  obtain⟨u3,hu3,ru3⟩:=rv3.get hz0
  obtain⟨hz,hTI,⟨x0,y0,z0,hTO⟩,h1,h2,h3⟩:=st
  have nl:n+5<s⁻¹:=aX hz
  refine Z3.R4 an bn cn hz hTI hTO h1 h2 h3 ZP.isList pl2.isList pl3.isList (x:=u1) (y:=u2) (v:=u3) () () () λh' a1 a2 a3 a4 a5 a6 hk=>?_
  refine⟨_,Z,wpAny_letOwnedTupleGo_zip a1 λg3 hg3 hs3=>?_⟩
  have n5:s⁻¹≠n+5:=gC nl
  have hT3:g3.get? s⁻¹=some { cls:=.type "tuple",data:=.seq #[u1,u2,u3]}:=(hs3.2 _ n5).trans a6
  have kp:∀e o,e∉[n,n+1,n+2,n+3,n+4,n+5]->s.heap.get? e=some o->g3.get? e=some o:=λe o he q=>by
   simp only[List.mem_cons,List.not_mem_nil,or_false,not_or]at he
   exact(hs3.2 e he.2.2.2.2.2).trans (hk e o he.1 he.2.1 he.2.2.1 he.2.2.2.2.1 he.2.2.2.2.2 q)
  have I1:bG X Y σ H { s with heap:=g3}:=zG I [n,n+1,n+2,n+3,n+4,n+5] (λe he=>hf e he) kp
  have hfree:H s⁻¹=none:=I.hok.fresh (aL _)
  have I2:bG X Y σ (cN H s⁻¹ (.tup [x,y,z])) { s with heap:=g3}:=by
   refine bG.track I1 hfree I.sz (gC I.lt) (λy c q=>?_) (λp hp=>bY (aX (I.pin p hp).1)) ?_
   ·obtain⟨v,oc,q1,_⟩:=I.cell y c q
    exact bY (aX q1)
   ·exact⟨(by show 3<=sizeLine;decide),[u1,u2,u3],.cons ru1 (.cons ru2 (.cons ru3 .nil)),⟨_,hT3,Z,_,Z⟩⟩
  have d35:(n+3:Nat)≠n+5:=()
  have d45:(n+4:Nat)≠n+5:=()
  have d05:(n:Nat)≠n+5:=()
  have d15:(n+1:Nat)≠n+5:=()
  have d25:(n+2:Nat)≠n+5:=()
  have t3:h'.get? (n+3)=_:=hk (n+3) _ () () () () () hTI
  refine⟨.ref s⁻¹,_,I2,Z,⟨_,x,y,z,Z,gP.ou hfree,λxs' hy'=>by rw[I.yg hy' hq1];exact hx,λys' hy'=>by rw[I.yg hy' hq2];exact hy,λzs' hy'=>by rw[I.yg hy' hq3];exact hz0⟩,
   ⟨hg3,(hs3.2 (n+3) d35).trans t3,⟨_,_,_,(hs3.2 (n+4) d45).trans a2⟩,a3.at λo q=>(hs3.2 n d05).trans q,a4.at λo q=>(hs3.2 (n+1) d15).trans q,a5.at λo q=>(hs3.2 (n+2) d25).trans q⟩,λe he=>?_⟩
  have f0:=(hf e he).1
  rw[aU ?_]
  ·exact f0
  grind
 done:=by
  nofun
  subst hP hw hK
  obtain⟨xs,hq1,hl⟩:=hg
  obtain⟨R5,rv1,ZP,hz1⟩:=I.list hq1
  have l1:=rv1.length
  obtain⟨hz,hTI,⟨x0,y0,z0,hTO⟩,h1,h2,h3⟩:=st
  refine Z3.Wk (a:=x0) (b:=y0) (c:=z0) (l2:=b) (l3:=c) (I.ok.hd hc) an hz hTI h1 ZP.isList (by simp;omega) λh' hk=>⟨Z,zG I [n,n+1,n+2,n+3,n+4,n+5] (λe he=>hf e he) λe o he q=>?_⟩
  grind
 self:=λ_ _ _ _ _ st h=>wpAny_pyIter_zip st.1 h
section
variable{X:Cx}
def vals3{a b c:V}{us:List Value}(h:cP [a,b,c] us):∃u v w,us=[u,v,w]/\cQ a u/\cQ b v/\cQ c w:=by
 cases h with
 |cons h1 t =>
  obtain⟨u2,u3,rfl,r2,r3⟩:=vals2 t;exact⟨_,_,_,Z,h1,r2,r3⟩
def a6c(K:aH)(ta:TA):TI:=λσ H R=>ta σ H λvs H1=>∃a b c,vs=[.ref a,.ref b,.ref c]/\(∃xs,bC K H1 a xs)/\(∃ys,bC K H1 b ys)/\(∃zs,bC K H1 c zs)/\R (Ł K a b c) H1
def a04{elts:List Expr}{k:Nat}{tpos:Pos}{l m r:Expr}{ta:TA}{p:Pos}(e0:X.K=K)(hg:Gl X "zip")(hm:X.mg "zip" = none)(ha:PA X [l,m,r] ta)(hs:starEach [l,m,r] X.env=[(false,eval l X.env),(false,eval m X.env),(false,eval r X.env)]:=by rfl)(hs2:starEach [m,r] X.env=[(false,eval m X.env),(false,eval r X.env)]:=by rfl) :
  PI X (.Tuple elts k tpos) (.Call (.Name "zip" p) [l,m,r] [] pos) (a6c K ta):=by
 subst e0;intro Y s σ H R I h;refine wB (tW I hg hm boot_zip ?_);refine wz (jr (ha pos Y s σ H _ I h) λus s1 ⟨vs,H1,I1,r1,q1⟩=>?_) (by rw[hs,hs2]) (by rw[hs2];rfl);obtain⟨a,b,c,e,⟨xs,hq1⟩,⟨ys,hq2⟩,⟨zs,hq3⟩,q⟩:=q1;subst e;obtain⟨u1,u2,u3,rfl,r1,r2,r3⟩:=vals3 r1;cases r1;cases r2;cases r3;obtain⟨R5,rv1,ZP,hz1⟩:=I1.list hq1;obtain⟨its2,rv2,pl2,hz2⟩:=I1.list hq2;obtain⟨a7y,rv3,pl3,hz3⟩:=I1.list hq3;refine Z3.a6b ZP.isList pl2.isList pl3.isList λh' hz hTI hTO h1 h2 h3 hk=>wpAny_pyIter_zip hz ?_;have I2:bG X Y σ H1 { s1 with heap:=h'}:=I1.kept (t':=s1.toks) hk;have la:a<s1⁻¹:=by obtain⟨o,e,_⟩:=ZP.isList;exact aX e
 have lb:b<s1⁻¹:=by obtain⟨o,e,_⟩:=pl2.isList;exact aX e
 have lc:c<s1⁻¹:=by obtain⟨o,e,_⟩:=pl3.isList;exact aX e
 refine⟨s1⁻¹+5,_,_,_,H1,Z,I2,ZM a b c s1⁻¹ la lb lc,⟨hz,hTI,⟨_,_,_,hTO⟩,h1,h2,h3⟩,λe he=>?_,q⟩;have hb':s1⁻¹<=e:=by
  grind
 exact I1.Gv hb' (I1.hok.fresh hb')
end
def ł{a b c:Addr}{xs ys zs:List V}{g:TG}{tb:TS}{D:Ends}{σ:St}{H:Hp}(el:xs.length=ys.length)(el2:xs.length=zs.length)(Pv:Nat->St->Hp->Prop)(h0:Pv 0 σ H)(hl:∀i σ H,i<=xs.length->Pv i σ H->bC K H a xs/\bC K H b ys/\bC K H c zs)
  (hs:∀(i:Nat) x y z σ H p H',xs[i]?=some x->ys[i]?=some y->zs[i]?=some z->Pv i σ H->gP H p (.tup [x,y,z]) H'->g (.ref p) σ H' λσ2 H2=>tb { D with nx:=Pv (i+1),ct:=Pv (i+1),bk:=D.nx} σ2 H2) (hd:∀σ H,Pv xs.length σ H->D.nx σ H) :
  ∃W:Nat->Nat->St->Hp->Prop,(∃m,W 0 m σ H)/\∀i m σ H,W i m σ H->
   ((Ł K a b c).stop i H/\D.nx σ H)\/((Ł K a b c).go i H/\∃N:St->Hp->Prop,(∀σ' H',N σ' H'->∃m',m'<m/\W (i+1) m' σ' H')/\∀x H',(Ł K a b c).Û i H x H'->g x σ H' λσ2 H2=>tb { D with nx:=N,ct:=N,bk:=D.nx} σ2 H2):=by
 refine⟨λi m σ H=>m=xs.length-i/\i<=xs.length/\Pv i σ H,⟨xs.length,by simp,dh _,h0⟩,?_⟩;rintro i m σ H ⟨rfl,hi,p⟩;obtain⟨q1,q2,q3⟩:=hl i σ H hi p;by_cases hlt:i<xs.length
 ·refine .inr ⟨⟨xs,ys,zs,xs[i],ys[i],zs[i],q1,q2,q3,by simp[hlt],by simp[el▸hlt],by simp[el2▸hlt]⟩,Pv (i+1),λσ' H' p'=>⟨xs.length-(i+1),(),Z,hlt,p'⟩,λx H' y=>?_⟩;obtain⟨pp,x0,y0,z0,rfl,nw,ex,ey,ez⟩:=y;grind
 ·have e:i=xs.length:=()
  subst e;exact .inl ⟨⟨xs,q1,aL _⟩,hd σ H p⟩
section
variable{X:Cx}{e:Expr}{f:Str}{ta:TE}
def zH(e0:X.K=K)(he:PE X e ta)(hb:attributeBase e f X.env (eval e X.env)=eval e X.env):PE X (.Attribute e f pos) (a5p K ta f):=by subst e0;exact a3b he hb
end
end L2
namespace K
open L2 Lw Bg
abbrev gY:List Str:=["self","state","spot","v"]
abbrev jU:List Str:=["one","other"]
abbrev kE:List Str:=["self","one","other"]
abbrev mR:List Str:=["graph","steps"]
abbrev sU:List Str:=["self","state","one","other","tie"]
abbrev uf:List Str:=["n","thing"]
abbrev xg:List Str:=["self","state"]
abbrev xj:List Str:=["state","spot","number"]
abbrev xq:List Str:=["state","spot"]
abbrev CV:List Str:=["question","table","state","row"]
abbrev CZ:List Str:=["graph","done","step","used"]
abbrev Dc:List Str:=["_law_ties_here","_law_rows_here","_law_k"]
abbrev Gi:List Str:=["question","old","step","bag"]
abbrev Gj:List Str:=["graph","steps","tops","pile"]
abbrev Gk:List Str:=["self","graph","weights"]
abbrev Gm:List Str:=["many","weights"]
abbrev JC:List Str:=["is_better","shared","joined","put_in","tied","taken_out","thing"]
abbrev JD:List Str:=["question","table","source","step","bag"]
abbrev JF:List Str:=["question","table","source","another"]
abbrev JG:List Str:=["steps","question","tops","feeds"]
abbrev MN:List Str:=["steps","question"]
abbrev MP:List Str:=["_law_script","_law_k"]
abbrev R6:List Str:=["_law_found","_law_size"]
abbrev R7:List Str:=["_law_table","_law_at_here","_law_marks"]
abbrev XS:List Str:=["self","graph","leaf","whole"]
abbrev X3:List Str:=["self","graph","many","weights"]
abbrev X4:List Str:=["number","state","spot"]
abbrev X5:List Str:=["_law_script","_law_n","_law_most"]
abbrev X6:List Str:=["_law_v","_law_script"]
abbrev X7:List Str:=["_law_script","_law_rows_here","_law_n"]
abbrev X8:List Str:=["_law_told","_law_steps","_law_marks"]
abbrev Ń:List Str:=["_law_a","_law_b","_law_bag","_law_above"]
def top(i:Nat):Stmt:=PySem.Challenge.pw_bagwood_k60_leaves_and_places_in.main.body.getD i (.Pass ⟨0,0,0,0⟩)
abbrev dO:=List Int
structure fW where
 m:Int
 b:Int
 src:List dO
variable{R:V->fW->Prop}
abbrev cI:=List (dO×fW)
def uE(T:cI)(s:dO):Option fW:=(T.find? λx=>decide (x.1=s)).map (·.2)
def sH(T:cI)(s:dO)(r:fW):cI:=if(T.any λx=>decide (x.1=s))=true then T.map (λx=>if x.1=s then(x.1,r)else x)else T++[(s,r)]
def JH(bt:Int->Int->Bool)(r o:fW):fW:=if bt r.b o.b=true then r else o
def mF(bt:Int->Int->Bool)(T:cI)(s:dO)(r:fW):cI:=match uE T s with
 |none=>sH T s r
 |some o=>sH T s ⟨o.m+r.m,(JH bt r o).b,(JH bt r o).src⟩
def rU(s:dO):List Key:=s.map Sum.inl
def a2v(s:dO):(rU s).map kV=s.map V.int:=by
 unfold rU;rw[j9];rfl
def Hy{s t:dO}(h:rU s=rU t):s=t:=by
 induction s generalizing t with
 |nil=>cases t with
  |nil=>rfl
  |cons a t=>cases h
 |cons a s ih=>cases t with
  |nil=>cases h
  |cons b t =>
   have h1:(Sum.inl a:Key)=Sum.inl b:=(Av h).1;have h2:rU s=rU t:=(Av h).2;grind
def uz(H:Hp)(a:Addr)(s:dO):Prop:=H a=some (.tup (s.map V.int))
def uz.key{H:Hp}{a:Addr}{s:dO}(h:uz H a s):H a=some (.tup ((rU s).map kV)):=by rw[a2v];exact h
def uz.MT{H:Hp}{a:Addr}{s:dO}(h:H a=some (.tup ((rU s).map kV))):uz H a s:=by rw[a2v]at h;exact h
inductive Li(H:Hp)(v:V)(r:fW):Prop
 |mk (p q as:_) (_:v=.ref p) (_:H p=some (.tup [.int r.m,.int r.b,.ref q])) (_:H q=some (.tup (as.map V.ref))) (_:Paired (uz H) as r.src)
def qD(H:Hp):List (List Key×V)->cI->Prop:=Paired λkv tr=>kv.1=rU tr.1/\Li H kv.2 tr.2
def qF(H H':Hp):Prop:=∀c ys,H c=some (.tup ys)->H' c=some (.tup ys)
def qF.trans{H H' TV:Hp}(a:qF H H')(b:qF H' TV):qF H TV:=λc ys h=>b c ys (a c ys h)
def qF.of{H H':Hp}(a:aK H H'):qF H H':=λc ys h=>a c _ h
def uz.keep{H H':Hp}{a:Addr}{s:dO}(k:qF H H')(h:uz H a s):uz H' a s:=k _ _ h
def Li.keep{H H':Hp}{v:V}{r:fW}(k:qF H H')(h:Li H v r):Li H' v r:=by
 obtain⟨p,q,as,e,h1,h2,h3⟩:=h;exact⟨p,q,as,e,k _ _ h1,k _ _ h2,Paired.cC h3 λ_ _ z=>z.keep k⟩
def qD.keep{H H':Hp}{J:List (List Key×V)}{T:cI}(k:qF H H')(h:qD H J T):qD H' J T:=Paired.cC h λ_ _ z=>⟨z.1,z.2.keep k⟩
def Sd(t:Addr)(H H':Hp):Prop:=∀c o,c≠t->H c=some o->H' c=some o
def Sd.refl{t:Addr}{H:Hp}:Sd t H H:=λ_ _ _ h=>h
def Sd.trans{t:Addr}{H H' TV:Hp}(a:Sd t H H')(b:Sd t H' TV):Sd t H TV:=λc o n h=>b c o n (a c o n h)
def Sd.of{t:Addr}{H H':Hp}(a:aK H H'):Sd t H H':=λc o _ h=>a c o h
def Sd.tups{t:Addr}{H H':Hp}{J:List (List Key×V)}(a:Sd t H H')(h:H t=some (.dT J)):qF H H':=λc ys e=>a c _ (λz=>by grind) e
def Sd.ń{t:Addr}{H H':Hp}{o:HO}(c:vo H t o H'):Sd t H H':=λb u n h=>by rw[c.rest b n];exact h
def Hz(s:dO){J:List (List Key×V)}{T:cI}(h:Paired (λ(kv:List Key×V) (tr:dO×fW)=>kv.1=rU tr.1/\R kv.2 tr.2) J T):(gh J (rU s)=none/\uE T s=none)\/∃v r,gh J (rU s)=some v/\uE T s=some r/\R v r:=by
 induction h with
 |nil=>exact .inl ⟨Z,Z⟩
 | @cons p q J T h t ih =>
  obtain⟨k,v⟩:=p;obtain⟨s',r⟩:=q;obtain⟨e,hr⟩:=h;have e:k=rU s':=e;subst e;unfold gh uE at ih ⊢;by_cases c:s'=s
  ·grind
  ·rw[qp (by exact λz=>c (Hy (gj z))),qp ()];exact ih
def a05(s:dO){J:List (List Key×V)}{T:cI}(h:Paired (λ(kv:List Key×V) (tr:dO×fW)=>kv.1=rU tr.1/\R kv.2 tr.2) J T):(J.any λkv=>decide (kv.1=rU s))=(T.any λx=>decide (x.1=s)):=by
 induction h with
 |nil=>rfl
 | @cons p q J T h t ih =>
  obtain⟨k,v⟩:=p;obtain⟨s',r⟩:=q;have e:k=rU s':=h.1;subst e;rw[tR,tR,ih];congr 1;exact decide_eq_decide.mpr ⟨λz=>Hy z,λz=>congrArg rU z⟩
def Yb{J:List (List Key×V)}{T:cI}{s:dO}{v:V}{r:fW}(h:Paired (λ(kv:List Key×V) (tr:dO×fW)=>kv.1=rU tr.1/\R kv.2 tr.2) J T)(hr:R v r):Paired (λ(kv:List Key×V) (tr:dO×fW)=>kv.1=rU tr.1/\R kv.2 tr.2) (putK J (rU s) v) (sH T s r):=by
 unfold putK sH;rw[a05 s h];by_cases c:(T.any λx=>decide (x.1=s))=true
 ·rw[aF c,aF c];clear c
  induction h with
  |nil=>exact .nil
  | @cons kv tr _ _ a _ ih =>
   refine .cons ?_ ih;obtain⟨k,v0⟩:=kv;obtain⟨s',r0⟩:=tr;obtain⟨e,h0⟩:=a;have e:k=rU s':=e;subst e;dsimp only;by_cases c:s'=s
   ·grind
   ·rw[aq (λz=>c (Hy z)),aq c];grind
 ·rw[aq c,aq c];exact Paired.snoc h ⟨Z,hr⟩
def Ņ(T:cI)(s:dO)(r:fW):(sH T s r).length<=T.length+1:=by
 unfold sH;split
 ·rw[aJ];omega
 ·rw[cA];exact aL _
structure PQ(κ:Type) where
 leaf:dO
 whole:dO
 bt:Int->Int->Bool
 sh:dO->List κ
 jn:dO->dO->List dO
 inn:dO->Nat->Nat->List (dO×Int)
 tie:dO->Nat->Nat->Int×Int->List (dO×Int)
 out:dO->Nat->Nat->List (dO×Int)
 Ok:Nat->dO->Prop
inductive MvL(H:Hp)(v:V)(x:dO×Int):Prop
 |mk (p a:_) (_:v=.ref p) (_:H p=some (.tup [.ref a,.int x.2])) (_:uz H a x.1)
def MvL.keep{H H':Hp}{v:V}{x:dO×Int}(k:qF H H')(h:MvL H v x):MvL H' v x:=by
 obtain⟨p,a,e,h1,h2⟩:=h;exact⟨p,a,e,k _ _ h1,h2.keep k⟩
def SvL(H:Hp)(v:V)(x:dO):Prop:=∃a,v=.ref a/\uz H a x
section
variable{P:Program}{w:World}{κ:Type} [DecidableEq κ]
inductive JK(pq:PQ κ)(At:Hp->Addr->Prop)(vs:List V)(H:Hp)(Q:VK)(u_3:XK):Prop
 |mk (d:Addr) (a b:Int) (_:vs=[.ref d,.int a,.int b]) (_:At H d) (_:Q (.bl (pq.bt a b)) H)
inductive JL(knd:KeyKind P w κ)(pq:PQ κ)(At:Hp->Addr->Prop)(vs:List V)(H:Hp)(Q:VK)(u_3:XK):Prop
 |mk (d a:Addr) (m:Nat) (s:dO) (_:vs=[.ref d,.ref a]) (_:At H d) (_:uz H a s) (_:pq.Ok m s) (_:m<=5) (_:∀b H',aK H H'->ZG knd H' b (pq.sh s)->Q (.ref b) H')
inductive JM(pq:PQ κ)(At:Hp->Addr->Prop)(vs:List V)(H:Hp)(Q:VK)(u_3:XK):Prop
 |mk (d a b:Addr) (m:Nat) (s t:dO) (_:vs=[.ref d,.ref a,.ref b]) (_:At H d) (_:uz H a s) (_:uz H b t) (_:pq.Ok m s) (_:pq.Ok m t) (_:m<=5) (_:pq.sh s=pq.sh t) (_:∀r xs H',aK H H'->H' r=some (.lst xs)->Paired (SvL H') xs (pq.jn s t)->Q (.ref r) H')
inductive Yc(pq:PQ κ)(At:Hp->Addr->Prop)(vs:List V)(H:Hp)(Q:VK)(u_3:XK):Prop
 |mk (d a:Addr) (m spot v:Nat) (s:dO) (_:vs=[.ref d,.ref a,.int spot,.int v]) (_:At H d) (_:uz H a s) (_:pq.Ok m s) (_:m<=4) (_:spot<=m) (_:∀r xs H',aK H H'->H' r=some (.lst xs)->Paired (MvL H') xs (pq.inn s spot v)->Q (.ref r) H')
inductive Yd(pq:PQ κ)(At:Hp->Addr->Prop)(Pl:Nat->Prop)(vs:List V)(H:Hp)(Q:VK)(u_3:XK):Prop
 |mk (d a:Addr) (m spot v:Nat) (s:dO) (_:vs=[.ref d,.ref a,.int spot,.int v]) (_:At H d) (_:uz H a s) (_:pq.Ok m s) (_:m<=5) (_:spot<m) (_:Pl v) (_:∀r xs H',aK H H'->H' r=some (.lst xs)->Paired (MvL H') xs (pq.out s spot v)->Q (.ref r) H')
inductive Ye(pq:PQ κ)(At:Hp->Addr->Prop)(Ti:Int×Int->Prop)(vs:List V)(H:Hp)(Q:VK)(u_3:XK):Prop
 |mk (d a p:Addr) (m fZ bO:Nat) (t:Int×Int) (s:dO) (_:vs=[.ref d,.ref a,.int fZ,.int bO,.ref p]) (_:At H d) (_:uz H a s) (_:pq.Ok m s) (_:m<=5) (_:fZ<m) (_:bO<m) (_:fZ≠bO) (_:Ti t) (_:H p=some (.tup [.int t.1,.int t.2])) (_:∀r xs H',aK H H'->H' r=some (.lst xs)->Paired (MvL H') xs (pq.tie s fZ bO t)->Q (.ref r) H')
structure QM(P:Program)(w:World)(K:aH)(mg:Str->Option Value)(base:Heap)(C:Addr)(m:Str)(ps:List Str)(k:Nat)(sp:Sp) where
 f:Addr
 fd:FuncData
 mt:Meth K C m f
 b:Binds K fd ps []
 ok:bw P w K mg base fX k f fd ps sp
set_option genInjectivity false in
structure HB(P:Program)(w:World)(K:aH)(mg:Str->Option Value)(base:Heap)(κ:Type) [DecidableEq κ] where
 C:Addr
 cl:Cls K C
 knd:KeyKind P w κ
 pq:PQ κ
 At:Hp->Addr->Prop
 Pl:Nat->Prop
 Ti:Int×Int->Prop
 n:Nat
 ts:List bW
 keep:∀{H H':Hp}{d:Addr},(∀c o,(∀J,o≠.dT J)->(∀φ,o≠.ext φ)->H c=some o->H' c=some o)->At H d->At H' d
 ins:∀{H:Hp}{d:Addr},At H d->∃dx fs,H d=some (.ins C dx fs)/\(∀m,m∈(JC:List Str)->fs.lookup m=none)/\
  (∃a,fs.lookup ("leaf" : Str)=some (.ref a)/\uz H a pq.leaf)/\(∃a,fs.lookup ("whole" : Str)=some (.ref a)/\uz H a pq.whole)/\∃g,fs.lookup ("graph" : Str)=some g/\vp K H g n ts
 gU:eY K C "leaf"
 fO:eY K C "whole"
 fH:eY K C "graph"
 nQ:QM P w K mg base C "is_better" kE 8 (JK pq At)
 rE:QM P w K mg base C "shared" xg 8 (JL knd pq At)
 vQ:QM P w K mg base C "joined" kE 8 (JM pq At)
 vR:QM P w K mg base C "put_in" gY 8 (Yc pq At)
 nR:QM P w K mg base C "taken_out" gY 8 (Yd pq At Pl)
 Fj:QM P w K mg base C "tied" sU 8 (Ye pq At Ti)
end
abbrev vq:Stmt:=top 27
def HD:bD ["question","table","state","row","old","better"] CV (aB vq):={}
section
variable{P:Program}{w:World}{K:aH}{mg:Str->Option Value}{base:Heap}{κ:Type} [DecidableEq κ]
inductive a3U(Qn:HB P w K mg base κ)(vs:List V)(H:Hp)(Q:VK)(u_3:XK):Prop
 |mk (d t a:Addr) (v:V) (J:List (List Key×V)) (T:cI) (s:dO) (r:fW) (_:vs=[.ref d,.ref t,.ref a,v]) (_:Qn.At H d) (_:H t=some (.dT J)) (_:qD H J T) (_:T.length<=4000) (_:uz H a s) (_:Li H v r) (_:∀kvs' H',Sd t H H'->H' t=some (.dT kvs')->qD H' kvs' (mF Qn.pq.bt T s r)->Q .non H')
def Yg(Qn:HB P w K mg base κ)(qG:Dn K mg "note" vq CV):bw P w K mg base fX 9 qG.f qG.fd CV (a3U Qn):=by
 have Lj:bw P w K mg base fX 8 _ _ _ _:=Qn.nQ.ok;exists qG.F.ok HD;obtain⟨d,t,a,v,J,T,st,r,rfl,hD,ht,hT,lT,ha,hv,q⟩:=h;have hw1:(A.deeper (PyProof.Rows.envOfC "note" (aB vq) s⁻¹ qG.f dz)).units+1<cLine:=by have:=hr.un;omega
 refine⟨_,(qP (dZ (aP (a3O hw1) (pv 2) (pv 1) (by with_unfolding_all rfl))
   (aG (bK 4 HD.nd (XJ hw1 (pv 1) (pv 2) λ_ _=>rfl))
   (aG (bK 5 HD.nd (oG (gK (K:=K) Z (wM (pv 0) Qn.cl Qn.nQ.mt Lj hr Qn.nQ.b .nil cu (O (aR (aV (K:=K) Z) (pv 3) aA) (O (aR (aV (K:=K) Z) (pv 4) aA) aj))) λ_=>rfl) (pv 3) (pv 4)))
   (aD (bK 3 HD.nd (aZ (O (bQ gw (aR (aV (K:=K) Z) (pv 4) aA) (aR (aV (K:=K) Z) (pv 3) aA)) (O (aR (aV (K:=K) Z) (pv 5) aA) (O (aR (aV (K:=K) Z) (pv 5) aA) aj))))))))
   bT)
   (aD (yh (pv 3) (PJ (pv 1) (pv 2) (zF hw1))))),?_⟩
 refine⟨λσ' G=>∃v' r' o4 o5,σ'=[some (.ref d),some (.ref t),some (.ref a),some v',o4,o5]/\aK H G/\Li G v' r'/\mF Qn.pq.bt T st r=sH T st r',?_,?_⟩
 ·refine⟨_,Z,_,Z,a,t,rU st,J,Z,Z,ha.key,ht,_,Z,?_⟩;rcases Hz st hT with⟨e1,e2⟩|⟨v0,r0,e1,e2,h0⟩
  ·rw[e1];refine cX ⟨v,r,none,none,Z,aK.refl _,hv,?_⟩;unfold mF;rw[e2]
  ·rw[e1];obtain⟨p,qs,as,rfl,hp,hq,hs⟩:=hv;obtain⟨p0,q0,as0,rfl,hp0,hq0,hs0⟩:=h0;refine iM ⟨_,Z,_,Z,t,.ref p0,Z,by rw[<-e1];exact Qq.t ht ha.key,?_⟩;obtain⟨dx,fs,hd,nom,_⟩:=Qn.ins hD;refine⟨_,Z,d,dx,fs,Z,hd,nom _ (),⟨_,Z,p,_,_,.int r.b,Z,Z,cO.of hp,Z,_,Z,p0,_,_,.int r0.b,Z,Z,cO.of hp0,Z,⟨d,r.b,r0.b,Z,hD,_,Z,?_⟩⟩⟩;have fin:∀(pb:Addr) (rb:fW) (qb:Addr) (asb:List Addr),H pb=some (.tup [.int rb.m,.int rb.b,.ref qb])->H qb=some (.tup (asb.map V.ref))->Paired (uz H) asb rb.src->rb=JH Qn.pq.bt r r0->∀p' H',gP H p' (.tup [.int (r0.m+r.m),.int rb.b,.ref qb]) H'->∃v' r' o4 o5,[some (V.ref d),some (.ref t),some (.ref a),some (.ref p'),some (.ref p0),some (.ref pb)]=[some (.ref d),some (.ref t),some (.ref a),some v',o4,o5]/\aK H H'/\Li H' v' r'/\mF Qn.pq.bt T st r=sH T st r':=λpb rb qb asb h1 h2 h3 e p' H' nw=>by
    refine⟨_,⟨r0.m+r.m,rb.b,rb.src⟩,_,_,Z,nw.same,⟨p',qb,asb,Z,nw.here,nw.same _ _ h2,Paired.cC h3 λ_ _ z=>z.keep (.of nw.same)⟩,?_⟩;unfold mF;rw[e2,e]
   cases cb:Qn.pq.bt r.b r0.b with
   |true =>
    refine iM ⟨_,Z,⟨_,Z,p0,_,_,.int r0.m,Z,Z,cO.of hp0,Z,_,Z,p,_,_,.int r.m,Z,Z,cO.of hp,Z,_,_,Z,Z,_,Z,p,_,_,.int r.b,Z,Z,cO.of hp,Z,_,Z,p,_,_,.ref qs,Z,Z,cO.of hp,Z,(),λp' H' nw=>?_⟩⟩;exact fin p r qs as hp hq hs (by unfold JH;rw[cb];rfl) p' H' nw
   |false =>
    refine cX ⟨_,Z,⟨_,Z,p0,_,_,.int r0.m,Z,Z,cO.of hp0,Z,_,Z,p,_,_,.int r.m,Z,Z,cO.of hp,Z,_,_,Z,Z,_,Z,p0,_,_,.int r0.b,Z,Z,cO.of hp0,Z,_,Z,p0,_,_,.ref q0,Z,Z,cO.of hp0,Z,(),λp' H' nw=>?_⟩⟩;exact fin p0 r0 q0 as0 hp0 hq0 hs0 (by unfold JH;rw[cb];rfl) p' H' nw
 rintro σ' G ⟨v',r',o4,o5,rfl,sG,hr',e⟩;have lk:=aM hT;refine⟨_,Z,_,Z,_,Z,t,a,rU st,J,Z,Z,(ha.keep (.of sG)).key,sG _ _ ht,(),λG' c=>?_⟩;have ts:qF G G':=λc' ys hc=>by
  rw[c.rest c' (λz=>by rw[z,sG _ _ ht]at hc;cases hc)];exact hc
 refine q _ G' (Sd.trans (.of sG) (.ń c)) c.here ?_;rw[e];exact qD.keep ts (Yb (hT.keep (.of sG)) hr')
end
end K
namespace L2
open PySem.Calls PyProof.Rows
section
variable{X:Cx}
inductive a6d(x:V)(vs:List V)(H:Hp)(Q:VK):Prop
 |mk (l:Addr) (ns:List Int) (v:Int) (j:Nat) (_:x=.ref l) (_:vs=[.int v]) (_:H l=some (.lst (List.map V.int ns))) (_:ns[j]?=some v) (_:(∀m:Nat,m<j->ns[m]?≠some v)) (_:ns.length<=1000) (_:Q (.int (j:Int)) H)
def isV(v:Int):Value->Bool
 |.int a _=>a==v
 |_=>false
def Fl:Ro X "list.index" a6d:=by
 intro Y s σ H x vs w us Q I rx rv h;obtain⟨l,ns,v,j,rfl,rfl,hH,hj,hno,hz,q⟩:=h;cases rx;obtain⟨u,rfl,ru⟩:=vals1 rv;obtain⟨t,rfl⟩:=(show ∃t,u=Value.int v t from ru);obtain⟨z,b7,n,r,hl,e⟩:=I.VG hH;have hi:=ints_of r;have len:=hi.length;have at_:∀m (hm:m<b7.length),∃k tk,b7[m]=Value.int k tk/\ns[m]?=some k:=λm hm=>by
  have hm2:m<ns.length:=()
  obtain⟨tk,e⟩:=hi.get m ns[m] (bH hm2);grind
 have jl:j<b7.length:=()
 refine En F.slot_list_index ⟨_,e,Z⟩ F.entry_list_index (F.args_list_index_2 _ _) (MeetsSeq.list_index l b7.toArray n (.int v t) (isV v) (λy hy=>?_) j () () ?_ λm hm hmj=>?_) ⟨e,?_⟩
 ·obtain⟨m,hm,em⟩:=qt (show y∈b7 by grind);obtain⟨k,tk,e1,_⟩:=at_ m hm;rw[<-em,e1];exact MeetsSeq.EqGives.int k v tk t
 ·obtain⟨k,tk,e1,e2⟩:=at_ j jl;rw[hj]at e2;injection e2 with e2
  simp only[List.getElem_toArray];rw[e1,<-e2];exact O4 v
 ·have hm':m<b7.length:=by simpa using hm
  obtain⟨k,tk,e1,e2⟩:=at_ m hm';simp only[List.getElem_toArray];rw[e1];show(k==v)=false;grind
 ·exact⟨.int j,H,I.tok _,⟨_,Z⟩,q⟩
end
end L2
namespace K
open L2 Lw Bg
inductive bZ where
 |leaf
 |inn (v:Int)
 |tie (a b:Int)
 |out (v:Int)
 |join
deriving DecidableEq
variable{H:Hp}{K:aH}
def bZ.vs:bZ->List V
 |.leaf=>[.str "leaf"]
 |.inn v=>[.str "in",.int v]
 |.tie a b=>[.str "tie",.int a,.int b]
 |.out v=>[.str "out",.int v]
 |.join=>[.str "join"]
def bZ.d:bZ->PyData
 |.leaf=>.tuple [.str "leaf"]
 |.inn v=>.tuple [.str "in",.int v]
 |.tie a b=>.tuple [.str "tie",.int a,.int b]
 |.out v=>.tuple [.str "out",.int v]
 |.join=>.tuple [.str "join"]
def bZ.word:bZ->Str
 |.leaf=>"leaf"
 |.inn _=>"in"
 |.tie _ _=>"tie"
 |.out _=>"out"
 |.join=>"join"
def bZ.need:bZ->Nat
 |.leaf=>0
 |.join=>2
 |_=>1
def sZ(K:aH)(H:Hp)(v:V)(s:bZ):Prop:=∃p,v=.ref p/\cO K H p s.vs
def sZ.same{H':Hp}{v:V}{s:bZ}(e:aK H H')(h:sZ K H v s):sZ K H' v s:=by
 obtain⟨p,rfl,h⟩:=h;exact⟨p,Z,e.wR h⟩
def sZ.isD{v:V}{s:bZ}(h:sZ K H v s):Le K H v s.d:=by
 obtain⟨p,rfl,h⟩:=h;cases s with
 |leaf=>exact .tup h (.cons (.str _) .nil)
 |inn v=>exact .tup h (.cons (.str _) (.cons (.int _) .nil))
 |tie a b=>exact .tup h (.cons (.str _) (.cons (.int _) (.cons (.int _) .nil)))
 |out v=>exact .tup h (.cons (.str _) (.cons (.int _) .nil))
 |join=>exact .tup h (.cons (.str _) .nil)
def ZQ:gh Gh (.inr "leaf")=some (.int 0):=by decide
def a06:gh Gh (.inr "in")=some (.int 1):=by decide
def ņ:gh Gh (.inr "tie")=some (.int 1):=by decide
def Ň:gh Gh (.inr "out")=some (.int 1):=by decide
def ZR:gh Gh (.inr "join")=some (.int 2):=by decide
def a07(s:bZ):gh Gh (.inr s.word)=some (.int (s.need:Int)):=by
 cases s with
 |leaf=>exact ZQ
 |inn v=>exact a06
 |tie a b=>exact ņ
 |out v=>exact Ň
 |join=>exact ZR
def uP(s:bZ):TQ s.vs ((0:Nat):Int)=some (.str s.word):=by cases s<;>rfl
def a3V:∀x∈["leaf","in","tie","out","join"],PyData.strOk (Str.ofString x)=true:=by decide
def Yh(s:bZ):s.d.canLay0=true:=by
 have h:=a3V;cases s with
 |leaf=>simp[bZ.d,PyData.canLay0,PyData.canLayAll0,h]
 |inn v=>simp[bZ.d,PyData.canLay0,PyData.canLayAll0,h]
 |tie a b=>simp[bZ.d,PyData.canLay0,PyData.canLayAll0,h]
 |out v=>simp[bZ.d,PyData.canLay0,PyData.canLayAll0,h]
 |join=>simp[bZ.d,PyData.canLay0,PyData.canLayAll0,h]
def M4(s:bZ):s.d.depth<=1:=by cases s<;>simp[bZ.d,PyData.depth,PyData.depthAll]
def Wm(s:bZ):SeqAt.shaped s.d=true:=by
 unfold SeqAt.shaped;rw[Yh,Jc];exact bL (by have:=M4 s;omega)
def uQ(ss:List bZ):SeqAt.shaped (.list (ss.map bZ.d))=true:=by
 unfold SeqAt.shaped;rw[PyData.canLay0,Hs Yh,PyData.depth,Jc];exact bL (by have:=vL M4 ss;omega)
def bZ.tag:bZ->Nat
 |.leaf=>0
 |.inn _=>1
 |.tie _ _=>2
 |.out _=>3
 |.join=>4
def bZ.args:bZ->List Int
 |.leaf=>[]
 |.inn v=>[v]
 |.tie a b=>[a,b]
 |.out v=>[v]
 |.join=>[]
def Gn(i:Nat):Str:=Str.ofString (["leaf","in","tie","out","join"].getD i "")
def JN:∀i,i<5->∀j,j<5->(Gn i==Gn j)=decide (i=j):=by decide
def JQ(s:bZ):s.word=Gn s.tag:=by cases s<;>rfl
def Wn(s:bZ):s.tag<5:=by cases s<;>simp[bZ.tag]
def a2w(s:bZ):s.d=.tuple (.str s.word::s.args.map PyData.int):=by cases s<;>rfl
def a3W{s t:bZ}(h:s.tag=t.tag)(a:s.args=t.args):s=t:=by
 cases s<;>cases t<;>simp_all[bZ.tag,bZ.args]
theorem Gp:∀xs ys:List Int,PyData.eqvAll (xs.map PyData.int) (ys.map PyData.int)=decide (xs=ys)
 | [],[]=>by simp[PyData.eqvAll]
 | [],_::_=>by simp[PyData.eqvAll]
 |_::_,[]=>by simp[PyData.eqvAll]
 |x::xs,y::ys=>by
  rw[bV,bV,PyData.eqvAll,Gp xs ys,PyData.eqv,tO]
  simp
def Yi(s t:bZ):PyData.eqv s.d t.d=decide (s=t):=by
 rw[a2w,a2w,PyData.eqv,PyData.eqvAll,Gp,PyData.eqv,JQ,JQ,JN _ (Wn s) _ (Wn t),tO,qw,fB,fB,fB];exact⟨λh=>a3W h.1 h.2,λh=>by grind⟩
def a08(ss:List bZ)(t:bZ):(ss.map bZ.d).any (λe=>PyData.eqv e t.d)=decide (t∈ss):=by
 rw[List.any_map,tO,List.any_eq_true,fB];constructor
 ·rintro⟨x,hx,e⟩;have:PyData.eqv x.d t.d=true:=e;rw[Yi]at this;grind
 ·exact λh=>⟨t,h,by show PyData.eqv t.d t.d=true;rw[Yi];grind⟩
abbrev fY:Stmt:=top 25
def vU:bD ["question","old","step","bag","spot"] Gi (aB fY):={}
section
variable{P:Program}{w:World}{mg:Str->Option Value}{base:Heap}{κ:Type} [DecidableEq κ]
def Wo(pq:PQ κ)(s:dO)(jY:bZ)(B:List Int):List (dO×Int):=match jY with
 |.inn v=>pq.inn s (B.idxOf v) v.toNat
 |.out v=>pq.out s (B.idxOf v) v.toNat
 |.tie a b=>pq.tie s (B.idxOf a) (B.idxOf b) (a,b)
 |_=>[]
def HF(Qn:HB P w K mg base κ)(jY:bZ)(B:List Int)(m:Nat):Prop:=match jY with
 |.inn v=>(∃n:Nat,v=(n:Int))/\v∈B/\B.length=m+1/\m<=4
 |.out v=>(∃n:Nat,v=(n:Int)/\Qn.Pl n)/\v∈B/\B.length=m/\m<=5
 |.tie a b=>a∈B/\b∈B/\a≠b/\B.length=m/\m<=5/\Qn.Ti (a,b)
 |_=>False
def Bd{B:List Int}{v:Int}(h:v∈B):B[B.idxOf v]?=some v/\∀m:Nat,m<B.idxOf v->B[m]?≠some v:=by
 induction B with
 |nil=>cases h
 |cons x B ih =>
  grind
def Fo{B:List Int}{v:Int}(h:v∈B):B.idxOf v<B.length:=NT h
def a3X{B:List Int}{a b:Int}(h:a∈B)(h':b∈B)(n:a≠b):B.idxOf a≠B.idxOf b:=λe=>by
 have h1:=(Bd h).1;have h2:=(Bd h').1;rw[e,h2]at h1;exact n (eO h1).symm
inductive ň(Qn:HB P w K mg base κ)(vs:List V)(H:Hp)(Q:VK)(u_3:XK):Prop
 |mk (d a ps pb:Addr) (s:dO) (jY:bZ) (B:List Int) (m:Nat) (_:vs=[.ref d,.ref a,.ref ps,.ref pb]) (_:Qn.At H d) (_:uz H a s) (_:Qn.pq.Ok m s) (_:cO K H ps jY.vs) (_:H pb=some (.lst (B.map V.int))) (_:HF Qn jY B m) (_:∀r xs H',aK H H'->H' r=some (.lst xs)->Paired (MvL H') xs (Wo Qn.pq s jY B)->Q (.ref r) H')
def Fp(Qn:HB P w K mg base κ)(vV:Dn K mg "states_behind" fY Gi):bw P w K mg base fX 9 vV.f vV.fd Gi (ň Qn):=by
 have Wq:bw P w K mg base fX 8 _ _ _ _:=Qn.vR.ok;have Lk:bw P w K mg base fX 8 _ _ _ _:=Qn.nR.ok;have Ŋ:bw P w K mg base fX 8 _ _ _ _:=Qn.Fj.ok;exists vV.F.ok vU;obtain⟨d,a,ps,pb,st,jY,B,m,rfl,hD,ha,ok,hs,hb,fit,q⟩:=h;obtain⟨dx,fs,hd,nom,_⟩:=Qn.ins hD;refine⟨_,(aG (bK 4 vU.nd (oK (K:=K) Z kZ Uc Ud Fl (pv 3) (O (aR (aV (K:=K) Z) (pv 2) aA) aj)))
   (aG (dZ (aP oH (aR (aV (K:=K) Z) (pv 2) aA) gq)
   (aD (bF (wM (pv 0) Qn.cl Qn.vR.mt Wq hr Qn.vR.b .nil cu (O (pv 1) (O (pv 4) (O (aR (aV (K:=K) Z) (pv 2) aA) aj))))))
   bT)
   (aG (dZ (aP oH (aR (aV (K:=K) Z) (pv 2) aA) gq)
   (aD (bF (wM (pv 0) Qn.cl Qn.nR.mt Lk hr Qn.nR.b .nil cu (O (pv 1) (O (pv 4) (O (aR (aV (K:=K) Z) (pv 2) aA) aj))))))
   bT)
   (aD (bF (wM (pv 0) Qn.cl Qn.Fj.mt Ŋ hr Qn.Fj.b .nil cu (O (pv 1) (O (pv 4) (O (oK (K:=K) Z kZ Uc Ud Fl (pv 3) (O (aR (aV (K:=K) Z) (pv 2) aA) aj)) (O (iI (Hv (K:=K) Z) (pv 2) (jL aA) jK) aj)))))))))),?_⟩
 have lB:B.length<=1000:=by
  cases jY<;>first|exact fit.elim|skip
  ·obtain⟨_,_,e,l⟩:=fit;omega
  ·obtain⟨_,_,_,e,l,_⟩:=fit;omega
  ·obtain⟨_,_,e,l⟩:=fit;omega
 have fld:∀(mth:Str),mth∈(JC:List Str)->fs.lookup mth=none:=nom;cases jY with
 |leaf=>exact fit.elim
 |join=>exact fit.elim
 |inn v =>
  obtain⟨⟨n,rfl⟩,hv,el,m4⟩:=fit;have ix:=Bd hv;refine⟨_,Z,.inl ⟨Z,_,bC.of hb⟩,_,Z,ps,_,_,_,Z,Z,hs,Z,pb,B,_,_,Z,Z,hb,ix.1,ix.2,lB,⟨_,Z,ps,_,_,_,Z,Z,hs,Z,Z,_,Z,iM ⟨_,Z,d,dx,fs,Z,hd,fld _ (),_,Z,_,Z,_,Z,ps,_,_,_,Z,Z,hs,Z,⟨d,a,m,_,n,st,Z,hD,ha,ok,m4,?_,λr xs H' s' h1 h2=>q r xs H' s' h1 h2⟩⟩⟩⟩;grind
 |out v =>
  obtain⟨⟨n,rfl,pn⟩,hv,el,m5⟩:=fit;have ix:=Bd hv;refine⟨_,Z,.inl ⟨Z,_,bC.of hb⟩,_,Z,ps,_,_,_,Z,Z,hs,Z,pb,B,_,_,Z,Z,hb,ix.1,ix.2,lB,⟨_,Z,ps,_,_,_,Z,Z,hs,Z,Z,_,Z,cX ⟨_,Z,ps,_,_,_,Z,Z,hs,Z,Z,_,Z,iM ⟨_,Z,d,dx,fs,Z,hd,fld _ (),_,Z,_,Z,_,Z,ps,_,_,_,Z,Z,hs,Z,⟨d,a,m,_,n,st,Z,hD,ha,ok,m5,?_,pn,λr xs H' s' h1 h2=>q r xs H' s' h1 h2⟩⟩⟩⟩⟩;grind
 |tie x y =>
  obtain⟨hx,hy,ne,el,m5,ti⟩:=fit;have ix:=Bd hx;have iy:=Bd hy;refine⟨_,Z,.inl ⟨Z,_,bC.of hb⟩,_,Z,ps,_,_,_,Z,Z,hs,Z,pb,B,_,_,Z,Z,hb,ix.1,ix.2,lB,⟨_,Z,ps,_,_,_,Z,Z,hs,Z,Z,_,Z,cX ⟨_,Z,ps,_,_,_,Z,Z,hs,Z,Z,_,Z,cX ⟨_,Z,d,dx,fs,Z,hd,fld _ (),_,Z,_,Z,_,Z,.inl ⟨Z,_,bC.of hb⟩,_,Z,ps,_,_,_,Z,Z,hs,Z,pb,B,_,_,Z,Z,hb,iy.1,iy.2,lB,_,Z,?_⟩⟩⟩⟩;refine⟨_,Z,ps,_,Z,hs,(λz=>absurd z.1 (show ¬(1:Nat)=0 by decide)),λpt H1 n1=>?_⟩;have s1:=n1.same;refine⟨d,a,pt,m,_,_,(x,y),st,Z,Qn.keep (λc o _ _ e=>s1 c o e) hD,ha.keep (.of s1),ok,m5,?_,?_,a3X hx hy ne,ti,n1.here,λr xs H' s' h1 h2=>q r xs H' (s1.trans s') h1 h2⟩
  ·grind
  grind
end
abbrev jP:Stmt:=top 24
def mU:bD ["question","table","source","step","bag","old","row","state","amount"] JD (aB jP):={}
section
variable{P:Program}{w:World}{mg:Str->Option Value}{base:Heap}{κ:Type} [DecidableEq κ]
def Nd(H H':Hp):Prop:=∀c o,(∀J,o≠.dT J)->(∀φ,o≠.ext φ)->H c=some o->H' c=some o
def Nd.trans{H' TV:Hp}(a:Nd H H')(b:Nd H' TV):Nd H TV:=λc o n m h=>b c o n m (a c o n m h)
def Nd.of{H':Hp}(a:aK H H'):Nd H H':=λc o _ _ h=>a c o h
def Nd.sd{t:Addr}{H':Hp}{J:List (List Key×V)}(a:Sd t H H')(h:H t=some (.dT J)):Nd H H':=λc o n _ e=>a c o (λz=>by grind) e
def Nd.jq{t:Addr}{J:List (List Key×V)}{u:HO}(h:H t=some (.dT J)):Nd H (cN H t u):=λc o n _ e=>by
 rw[aU (λz=>by grind)];exact e
def Nd.Qt{t:Addr}{ob:Obj}{J:List (List Key×V)}{u:HO}(h:H t=some (.jq ob (.dT J)))(c:Addr)(ys:List V)(e:H c=some (.tup ys)):cN H t u c=some (.tup ys):=by
 rw[aU (λz=>by grind)];exact e
def Nd.tups{H':Hp}(a:Nd H H'):qF H H':=λc ys e=>a c _ (λ_ z=>by cases z) (λ_ z=>by cases z) e
def Nd.lst{H H':Hp}(a:Nd H H'){c:Addr}{ys:List V}(e:H c=some (.lst ys)):H' c=some (.lst ys):=a c _ (λ_ z=>by cases z) (λ_ z=>by cases z) e
def Nd.sqt{H':Hp}(a:Nd H H'){c:Addr}{ys:List V}(e:cO K H c ys):cO K H' c ys:=by
 rcases e with(e|⟨o,e⟩)|e
 ·exact .inl (.inl (a c _ (λ_ z=>by cases z) (λ_ z=>by cases z) e))
 ·exact .inl (.inr ⟨o,a c _ (λ_ z=>by cases z) (λ_ z=>by cases z) e⟩)
 ·exact .inr e
def Nd.at(Qn:HB P w K mg base κ){H':Hp}{d:Addr}(a:Nd H H')(h:Qn.At H d):Qn.At H' d:=Qn.keep a h
def jQ(bt:Int->Int->Bool)(old:dO)(row:fW):List (dO×Int)->cI->cI
 | [],T=>T
 |x::l,T=>jQ bt old row l (mF bt T x.1 ⟨row.m,row.b+x.2,[old]⟩)
def oU(pq:PQ κ)(jY:bZ)(B:List Int):cI->cI->cI
 | [],T=>T
 |x::S,T=>oU pq jY B S (jQ pq.bt x.1 x.2 (Wo pq x.1 jY B) T)
theorem Dd(bt:Int->Int->Bool)(old:dO)(row:fW)(x:dO×Int):∀(l:List (dO×Int)) (T:cI),jQ bt old row (l++[x]) T=mF bt (jQ bt old row l T) x.1 ⟨row.m,row.b+x.2,[old]⟩
 | [],_=>rfl
 |_::l,T=>Dd bt old row x l _
theorem JR(pq:PQ κ)(jY:bZ)(B:List Int)(x:dO×fW):∀(S T:cI),oU pq jY B (S++[x]) T=jQ pq.bt x.1 x.2 (Wo pq x.1 jY B) (oU pq jY B S T)
 | [],_=>rfl
 |_::S,T=>JR pq jY B x S _
def a3Y(pq:PQ κ)(jY:bZ)(B:List Int)(S T:cI):Prop:=∀i,i<=S.length->∀x,S[i]?=some x->∀j,j<=(Wo pq x.1 jY B).length->(jQ pq.bt x.1 x.2 ((Wo pq x.1 jY B).take j) (oU pq jY B (S.take i) T)).length<=4000
inductive ŋ(Qn:HB P w K mg base κ)(vs:List V)(H:Hp)(Q:VK)(u_3:XK):Prop
 |mk (d t sc ps pb:Addr) (J nF:List (List Key×V)) (T S:cI) (jY:bZ) (B:List Int) (m:Nat) (_:vs=[.ref d,.ref t,.ref sc,.ref ps,.ref pb]) (_:Qn.At H d) (_:H t=some (.dT J)) (_:qD H J T) (_:H sc=some (.dT nF)) (_:qD H nF S) (_:t≠sc) (_:(∀x∈S,Qn.pq.Ok m x.1)) (_:cO K H ps jY.vs) (_:H pb=some (.lst (B.map V.int))) (_:HF Qn jY B m) (_:S.length<=4000) (_:a3Y Qn.pq jY B S T) (_:∀kvs' H',Sd t H H'->H' t=some (.dT kvs')->qD H' kvs' (oU Qn.pq jY B S T)->Q .non H')
def opq{P:Nat->St->Hp->Prop}{R:Prop}(h:∀Z97:Nat->St->Hp->Prop,(∀i σ H,P i σ H->Z97 i σ H)->(∀i σ H,Z97 i σ H->P i σ H)->R):R:=h P (λ_ _ _ z=>z) (λ_ _ _ z=>z)
def Ln(Qn:HB P w K mg base κ)(vV:Dn K mg "states_behind" fY Gi)(qG:Dn K mg "note" vq CV)(xH:Dn K mg "fill_along" jP JD):bw P w K mg base fX 10 xH.f xH.fd JD (ŋ Qn):=by
 have a7z:bw P w K mg base fX 9 _ _ _ _:=Fp Qn vV;have a3Z:bw P w K mg base fX 9 _ _ _ _:=Yg Qn qG;exists xH.F.ok mU;obtain⟨d,t,sc,ps,pb,J,nF,T,S,jY,B,m,rfl,hD,ht,hT,hsc,hS,nts,uD,hs,hb,fit,lS,lim,q⟩:=h;refine⟨_,(aD (yC (jo iR Z (vP (qO (K:=K) Z Ac Ij Ik vN (pv 2))) (jN (K:=K) (n:=2) Z Z (b8 (aN 5 mU.nd) (b8 (aN 6 mU.nd) jz)))
   (aD (jo iR Z (fC (K:=K) Z (bx a7z hr Z vV.m vV.F.kp vV.b .nil cu (O (pv 0) (O (pv 5) (O (pv 3) (O (pv 4) aj)))))) (jN (K:=K) (n:=2) Z Z (b8 (aN 7 mU.nd) (b8 (aN 8 mU.nd) jz)))
   (aD (gJ (bx a3Z hr Z qG.m qG.F.kp qG.b .nil cu (O (pv 0) (O (pv 1) (O (pv 7) (O (aZ (O (aR (aV (K:=K) Z) (pv 6) aA) (O (bQ gw (aR (aV (K:=K) Z) (pv 6) aA) (pv 8)) (O (aZ (O (pv 5) aj)) aj)))) aj)))))))))))),?_⟩
 refine⟨_,Z,.inr (.inr (.inl ⟨Z,.inr ⟨_,hsc⟩⟩)),sc,nF,Z,Z,hsc,λpv H1 n1=>⟨pv,sc,nF,Z,n1.here,n1.same _ _ hsc,λo as pk=>?_⟩⟩;have h1s:=n1.same _ _ hsc;have Rf:Nd H (cN H1 sc (.jq o (.dT nF))):=(Nd.of n1.same).trans (Nd.jq h1s);have g0s:cN H1 sc (.jq o (.dT nF)) sc=some (.jq o (.dT nF)):=cY;have TX:cN H1 sc (.jq o (.dT nF)) t=some (.dT J):=by rw[aU nts];exact n1.same _ _ ht
 have Yj:∀c,c≠sc->cN H1 sc (.jq o (.dT nF)) c=H1 c:=λc hc=>aU hc;generalize cN H1 sc (.jq o (.dT nF))=G0 at pk Rf g0s TX Yj ⊢;have lk:=aM hS;have la:=aM pk;refine opq (P:=λi σ G=>(∃o5 o6 o7 o8,σ=[some (.ref d),some (.ref t),some (.ref sc),some (.ref ps),some (.ref pb),o5,o6,o7,o8])/\Sd t G0 G/\∃kt,G t=some (.dT kt)/\qD G kt (oU Qn.pq jY B (S.take i) T)) λZ97 ji ij=>wW Z97 (ji _ _ _ ⟨⟨_,_,_,_,Z⟩,.refl,J,TX,hT.keep Rf.tups⟩) (λi σ G _ h=>(ij _ _ _ h).2.1 _ _ (Ne.symm nts) g0s) ?_ ?_
 ·intro i a0 v0 σ G p G1 ha0 hv0 h nw;obtain⟨⟨o5,o6,o7,o8,rfl⟩,sG,kt,hkt,Yk⟩:=ij _ _ _ h;obtain⟨kv,hkv,hak⟩:=bf pk ha0;obtain⟨⟨old,row⟩,hsx,ek,hrow⟩:=bf hS hkv;have ek:kv.1=rU old:=ek;have hv0':v0=kv.2:=by
   rw[fK,hkv]at hv0;exact(eO hv0).symm
  subst hv0';rw[ek]at hak;have nG:Nd G0 G:=.sd sG TX;have n1':aK G G1:=nw.same;have Ō:Nd G0 G1:=nG.trans (.of n1');have nH1:Nd H G1:=Rf.trans Ō;have hold:uz G1 a0 old:=uz.MT (Ō.tups _ _ hak);have zV:Li G1 kv.2 row:=hrow.keep nH1.tups;have mem:(old,row)∈S:=jf hsx;refine⟨p,_,Z,cO.of nw.here,Z,_,_,Z,_,_,Z,Z,⟨_,Z,_,Z,_,Z,_,Z,d,a0,ps,pb,old,jY,B,m,Z,nH1.at Qn hD,hold,uD _ mem,nH1.sqt hs,nH1.lst hb,fit,λr xs G2 s2 hr2 pm=>⟨r,Z,⟨_,bC.of hr2⟩,?_⟩⟩⟩;have hT2:qD G2 kt (oU Qn.pq jY B (S.take i) T):=Yk.keep (qF.of (n1'.trans s2));have ht2:G2 t=some (.dT kt):=(n1'.trans s2) _ _ hkt;have lpm:=aM pm;have a7A:=lim i (dU (fu.mp hsx).1) _ hsx;have hTi:S.take (i+1)=S.take i++[(old,row)]:=by rw[lG,hsx];rfl
  refine opq (P:=λj σ G'=>(∃o7 o8,σ=[some (.ref d),some (.ref t),some (.ref sc),some (.ref ps),some (.ref pb),some (.ref a0),some kv.2,o7,o8])/\Sd t G2 G'/\∃Lp,G' t=some (.dT Lp)/\qD G' Lp (jQ Qn.pq.bt old row ((Wo Qn.pq old jY B).take j) (oU Qn.pq jY B (S.take i) T))) λJ2 ji2 ij2=>yp (K:=K) (a:=r) (xs:=xs) J2 (ji2 _ _ _ ⟨⟨_,_,Z⟩,.refl,kt,ht2,hT2⟩) (λj σ G' _ h=>bC.of ((Nd.sd (ij2 _ _ _ h).2.1 ht2).lst hr2)) ?_ ?_
  ·intro j x σ G' hx h2;obtain⟨⟨o7,o8,rfl⟩,Wr,Lp,Gx,hT'⟩:=ij2 _ _ _ h2;obtain⟨⟨st',am⟩,hmx,pp,aa,rfl,DW,haa⟩:=bf pm hx;have n2':Nd G2 G':=.sd Wr ht2;have nHG:Nd H G':=nH1.trans ((Nd.of s2).trans n2');obtain⟨pr,qr,asr,ZS,hpr,hqr,hsr⟩:=zV.keep ((qF.of s2).trans n2'.tups);refine⟨pp,_,Z,cO.of (n2'.tups _ _ DW),Z,_,_,Z,_,_,Z,Z,?_⟩;rw[ZS];refine⟨_,Z,_,Z,_,Z,_,Z,pr,_,_,.int row.m,Z,Z,cO.of hpr,Z,_,Z,pr,_,_,.int row.b,Z,Z,cO.of hpr,Z,_,Z,_,_,Z,Z,_,Z,(),λq1 G3 m3=>⟨(),λq2 G4 m4=>?_⟩⟩;have Þ:=m3.same.trans m4.same;have a6e:uz G4 a0 old:=hold.keep ((qF.of s2).trans (n2'.tups.trans (.of Þ)));refine⟨d,t,aa,.ref q2,Lp,_,st',⟨row.m,row.b+am,[old]⟩,Z,(nHG.trans (.of Þ)).at Qn hD,Þ _ _ Gx,hT'.keep (.of Þ),?_,haa.keep (n2'.tups.trans (.of Þ)),⟨q2,q1,[a0],Z,m4.here,m4.same _ _ m3.here,.cons a6e .nil⟩,λō G5 s5 h5 hT5=>?_⟩
   ·exact a7A j (dU (fu.mp hmx).1)
   ·refine ji2 _ _ _ ⟨⟨some (.ref aa),some (.int am),by rw[ZS];rfl⟩,Wr.trans ((Sd.of Þ).trans s5),ō,h5,?_⟩;rw[lG,hmx];show qD G5 ō (jQ Qn.pq.bt old row ((Wo Qn.pq old jY B).take j++[(st',am)]) _);rw[Dd];exact hT5
  ·intro σ G' h2;obtain⟨⟨o7,o8,rfl⟩,Wr,Lp,Gx,hT'⟩:=ij2 _ _ _ h2;refine ji _ _ _ ⟨⟨_,_,_,_,Z⟩,sG.trans ((Sd.of (n1'.trans s2)).trans Wr),Lp,Gx,?_⟩;rw[hTi,JR];rw[lpm,iC]at hT';exact hT'
 ·intro σ G h;obtain⟨⟨o5,o6,o7,o8,rfl⟩,sG,kt,hkt,Yk⟩:=ij _ _ _ h;have gs:=sG _ _ (Ne.symm nts) g0s;refine⟨sc,o,nF,nF,hsc,gs,?_⟩;refine q kt _ (λc u hc e=>?_) (by rw[aU nts];exact hkt) ?_
  ·by_cases z:c=sc
   ·rw[z]at e ⊢;rw[cY,<-e,hsc]
   ·rw[aU z];refine sG c u hc ?_;rw[Yj c z];exact n1.same _ _ e
  ·rw[show S.take as.length=S by rw[la,lk,iC]]at Yk;exact Yk.keep (Nd.Qt gs)
end
end K
namespace L2
open PyProof.Rows Bg
section
variable{X:Cx}{tg:Expr}
def a4a(td:TE):TI:=λσ H R=>td σ H λx H1=>∃d J,x=.ref d/\H1 d=some (.dT J)/\
 ∀o as,Paired (λa (kv:List Key×V)=>(cN H1 d (.jq o (.dT J))) a=some (.tup (kv.1.map kV))) as J->R (Itp o d (.dT J) as) (cN H1 d (.jq o (.dT J)))
def Ŏ{l:Expr}{td:TE}(hl:PE X l td):PI X tg l (a4a td):=by
 intro Y s σ H R I h;refine jr (hl Y s σ H _ I h) λv s1 ⟨x,H1,I1,r1,q1⟩=>?_;obtain⟨d,J,e,hd,q⟩:=q1;subst e;cases r1;obtain⟨_,hs,xs,rel,o,es,ep,ho,hx,hdt,hes,_,_⟩:=vM I1.hok hd;have I2:bG X Y σ (cN H1 d (.jq o (.dT J))) s1:=I1.Wf hd (λ_ z=>by cases z) (λ_ z=>by cases z) (λ_ z=>by cases z) (I1.XQ hd λ_ _ z=>by cases z) ⟨ho,I1.hok d _ hd⟩;have ek:es.toList.map (·.key)=(xs.map λx=>x.2.1).map Value.ref:=by rw[hes,j9,j9];rfl
 have pk:Paired (λa (kv:List Key×V)=>(cN H1 d (.jq o (.dT J))) a=some (.tup (kv.1.map kV))) (xs.map λx=>x.2.1) J:=by
  have go:∀{ks:List (List Key×V)}{ys:List (List Key×Addr×Value)},KT H1 ks ys->Paired (λa (kv:List Key×V)=>(cN H1 d (.jq o (.dT J))) a=some (.tup (kv.1.map kV))) (ys.map λx=>x.2.1) ks:=λ{ks ys} r=>by
   induction r with
   |nil=>exact .nil
   | @cons kv y _ _ a _ ih =>
    refine .cons ?_ ih;have nb:y.2.1≠d:=λz=>by grind
    rw[aU nb];exact a.2.1
  exact go rel
 refine Dq.CQ hs ho hx hdt ⟨s1⁻¹,[s1⁻¹],_,_,_,Z,I2.kept (t':=s1.toks) λb o e=>bB _ e,Wg d _ hdt ek,bU _ Z,λb hb=>?_,q o _ pk⟩;have e:b=s1⁻¹:=()
 subst e;exact I2.Gv (aL _) (I2.hok.fresh (aL _))
end
def ZV{o:Obj}{d:Addr}{u:HO}{as:List Addr}{g:TG}{tb:TS}{D:Ends}{σ:St}{H:Hp}(Pv:Nat->St->Hp->Prop)(h0:Pv 0 σ H)(hl:∀i σ H,i<=as.length->Pv i σ H->H d=some (.jq o u))
  (hs:∀(i:Nat) a σ H,as[i]?=some a->Pv i σ H->g (.ref a) σ H λσ2 H2=>tb { D with nx:=Pv (i+1),ct:=Pv (i+1),bk:=D.nx} σ2 H2) (hd:∀σ H,Pv as.length σ H->D.nx σ H) :
  ∃W:Nat->Nat->St->Hp->Prop,(∃m,W 0 m σ H)/\∀i m σ H,W i m σ H->
   ((Itp o d u as).stop i H/\D.nx σ H)\/((Itp o d u as).go i H/\∃N:St->Hp->Prop,(∀σ' H',N σ' H'->∃m',m'<m/\W (i+1) m' σ' H')/\∀x H',(Itp o d u as).Û i H x H'->g x σ H' λσ2 H2=>tb { D with nx:=N,ct:=N,bk:=D.nx} σ2 H2):=by
 refine⟨λi m σ H=>m=as.length-i/\i<=as.length/\Pv i σ H,⟨as.length,by simp,dh _,h0⟩,?_⟩;rintro i m σ H ⟨rfl,hi,p⟩;have q1:=hl i σ H hi p;by_cases hlt:i<as.length
 ·refine .inr ⟨⟨q1,hlt⟩,Pv (i+1),λσ' H' p'=>⟨as.length-(i+1),(),Z,hlt,p'⟩,λx H' y=>?_⟩;obtain⟨eH,ex⟩:=y;grind
 ·have e:i=as.length:=()
  subst e;exact .inl ⟨⟨q1,Z⟩,hd σ H p⟩
section
variable{X:Cx}
def ŏ(i j:Int):Prop:=i.natAbs<2^4000/\j.natAbs<2^4000
def M5{k:Int}(h:k.natAbs<2^4000):Builtin.Int.intBits k<=4000:=by
 unfold Builtin.Int.intBits;split
 ·grind
 ·have:k.natAbs.log2<4000:=by
   rcases Nat.eq_zero_or_pos k.natAbs with h0|hp
   ·rw[h0];decide
   ·exact(Nat.log2_lt (gC hp)).mpr h
  omega
def ŏ.ok{i j:Int}(h:ŏ i j):IntMulOk i j:=by
 have h1:=M5 h.1;have h2:=M5 h.2;have:Builtin.Int.intTooBig ((Builtin.Int.intBits i:Int)+(Builtin.Int.intBits j:Int))=false:=by
  unfold Builtin.Int.intTooBig;refine cW ?_;have e:((bitsLine:Nat):Int)=134217728:=()
  grind
 unfold IntMulOk;grind
def a09:rz X (binaryOp .Mult) (rI ŏ λi j=>.int (i*j)):=opI λ_ _ _ _ _ _ _ hc q=>mul_int q hc.ok
end
end L2
namespace K
open L2 Lw Bg
variable{P:Program}{w:World}{mg:Str->Option Value}{base:Heap}{ex:List Addr}{a pa:Addr}{i:Nat}{F G:Hp}
section
variable{κ:Type} [DecidableEq κ]
def zW(bt:Int->Int->Bool)(fZ bO:dO)(row more:fW):List dO->cI->cI
 | [],T=>T
 |x::l,T=>zW bt fZ bO row more l (mF bt T x ⟨row.m*more.m,row.b+more.b,[fZ,bO]⟩)
def zX(pq:PQ κ)(fZ:dO)(row:fW):cI->cI->cI
 | [],T=>T
 |x::A,T=>zX pq fZ row A (zW pq.bt fZ x.1 row x.2 (pq.jn fZ x.1) T)
def qH(pq:PQ κ)(fZ:dO)(A:cI):cI:=A.filter λx=>decide (pq.sh x.1=pq.sh fZ)
def xr(pq:PQ κ)(A:cI):cI->cI->cI
 | [],T=>T
 |x::S,T=>xr pq A S (zX pq x.1 x.2 (qH pq x.1 A) T)
theorem JS(bt:Int->Int->Bool)(fZ bO:dO)(row more:fW)(x:dO):∀(l:List dO) (T:cI),zW bt fZ bO row more (l++[x]) T=mF bt (zW bt fZ bO row more l T) x ⟨row.m*more.m,row.b+more.b,[fZ,bO]⟩
 | [],_=>rfl
 |_::l,T=>JS bt fZ bO row more x l _
theorem JT(pq:PQ κ)(fZ:dO)(row:fW)(x:dO×fW):∀(A T:cI),zX pq fZ row (A++[x]) T=zW pq.bt fZ x.1 row x.2 (pq.jn fZ x.1) (zX pq fZ row A T)
 | [],_=>rfl
 |_::A,T=>JT pq fZ row x A _
theorem join_snoc(pq:PQ κ)(A:cI)(x:dO×fW):∀(S T:cI),xr pq A (S++[x]) T=zX pq x.1 x.2 (qH pq x.1 A) (xr pq A S T)
 | [],_=>rfl
 |_::S,T=>join_snoc pq A x S _
def a4b(pq:PQ κ)(A S T:cI):Prop:=∀i x,S[i]?=some x->∀j y,(qH pq x.1 A)[j]?=some y->∀l,l<=(pq.jn x.1 y.1).length->(zW pq.bt x.1 y.1 x.2 y.2 ((pq.jn x.1 y.1).take l) (zX pq x.1 x.2 ((qH pq x.1 A).take j) (xr pq A (S.take i) T))).length<=4000
def ug(pq:PQ κ)(L:List (Addr×dO))(k:List κ):List Addr:=(L.filter λx=>decide (pq.sh x.2=k)).map (·.1)
def M6(pq:PQ κ)(L:List (Addr×dO))(x:Addr×dO)(k:List κ):ug pq (L++[x]) k=if pq.sh x.2=k then ug pq L k++[x.1]else ug pq L k:=by
 unfold ug;grind
def tH{J:List (List κ×V)}{k0:List κ}{v:V}(h:gh J k0=none)(k:List κ):gh (J++[(k0,v)]) k=if k0=k then some v else gh J k:=by
 unfold gh at h ⊢;rw[UG];by_cases c:k0=k
 ·subst c;rw[aF rfl];cases e:J.find? λkv=>decide (kv.1=k0)with
  |none=>rw[Option.none_or,uX (by exact bL Z)];rfl
  |some y=>rw[e]at h;cases h
 ·rw[aq c,qp (by exact λz=>c (gj z))];simp
end
section
variable{κ:Type} [DecidableEq κ]
structure Df(knd:KeyKind P w κ)(pq:PQ κ)(F G:Hp)(pa:Addr)(L:List (Addr×dO))(J:List (List κ×V)):Prop where
 dx:DX knd G pa J
 len:J.length<=L.length
 val:∀k,(gh J k=none/\ug pq L k=[])\/∃l,gh J k=some (.ref l)/\G l=some (.lst ((ug pq L k).map V.ref))
 inj:∀k k' l,gh J k=some (.ref l)->gh J k'=some (.ref l)->k=k'
 fr:∀k l,gh J k=some (.ref l)->F l=none
def Ő(pq:PQ κ)(L:List (Addr×dO))(k:List κ):(ug pq L k).length<=L.length:=by
 unfold ug;grind
def R8{knd:KeyKind P w κ}{H H':Hp}{J:List (List κ×V)}(e:∀c o,(∀ys,o≠.lst ys)->H c=some o->H' c=some o)(h:DX knd H a J):DX knd H' a J:=by
 obtain⟨z,h|⟨xs,h1,h2⟩⟩:=h
 ·exact⟨z,.inl ⟨h.1,e _ _ (λ_ z=>by cases z) h.2⟩⟩
 ·exact⟨z,.inr ⟨xs,e _ _ (λ_ z=>by cases z) h1,Paired.cC h2 λ_ _ ⟨a,b,c⟩=>⟨a,b.same λ_ _ q=>e _ _ (λ_ z=>by cases z) q,c⟩⟩⟩
def Qv{knd:KeyKind P w κ}{H:Hp}{J:List (List κ×V)}(h:DX knd H a J){ys:List V}:H a≠some (.lst ys):=λe=>by
 obtain⟨z,h|⟨xs,h1,h2⟩⟩:=h
 ·grind
 grind
def Df.same{knd:KeyKind P w κ}{pq:PQ κ}{F G G':Hp}{pa:Addr}{L:List (Addr×dO)}{J:List (List κ×V)}(I:Df knd pq F G pa L J)(s:aK G G'):Df knd pq F G' pa L J :=
 ⟨I.dx.same s,I.len,λk=>(I.val k).imp id λ⟨l,h1,h2⟩=>⟨l,h1,s _ _ h2⟩,I.inj,I.fr⟩
def a1a{knd:KeyKind P w κ}{pq:PQ κ}{G3:Hp}{L:List (Addr×dO)}{J:List (List κ×V)}{l a0:Addr}{st:dO}(I:Df knd pq F G pa L J)(hv:gh J (pq.sh st)=some (.ref l))(c:vo G l (.lst ((ug pq L (pq.sh st)).map V.ref++[.ref a0])) G3)(hl:∃ys,G l=some (.lst ys)):Df knd pq F G3 pa (L++[(a0,st)]) J:=by
 obtain⟨ys,hl⟩:=hl;refine⟨R8 (λb o nl e=>?_) I.dx,by rw[cA];have:=I.len;omega,λk=>?_,I.inj,I.fr⟩
 ·rw[c.rest b (λz=>by grind)];exact e
 ·rw[M6];by_cases ck:pq.sh st=k
  ·subst ck;rw[aF rfl];refine .inr ⟨l,hv,?_⟩;rw[c.here,dH];rfl
  ·rw[aq ck];refine(I.val k).imp id λ⟨l',h1,h2⟩=>⟨l',h1,?_⟩;rw[c.rest l' (λz=>ck (I.inj _ _ l hv ()))];exact h2
def a1b{knd:KeyKind P w κ}{pq:PQ κ}{H' G3:Hp}{L:List (Addr×dO)}{J:List (List κ×V)}{l0 a0:Addr}{st:dO}(I:Df knd pq F G pa L J)(hv:gh J (pq.sh st)=none)(hl:G l0=some (.lst []))(fl:F l0=none)(nl:∀k l,gh J k=some (.ref l)->l≠l0)(hh:∀c,c≠pa->H' c=G c)(dx:DX knd H' pa (J++[(pq.sh st,.ref l0)]))(c:vo H' l0 (.lst ([]++[.ref a0])) G3):Df knd pq F G3 pa (L++[(a0,st)]) (J++[(pq.sh st,.ref l0)]):=by
 have npa:l0≠pa:=λz=>Qv I.dx (ys:=[]) ();have hl':H' l0=some (.lst []):=()
 have lk0:ug pq L (pq.sh st)=[]:=by
  rcases I.val (pq.sh st)with h|⟨l,h,_⟩
  ·exact h.2
  grind
 refine⟨R8 (λb o nl e=>?_) dx,by rw[cA,cA];have:=I.len;simp;omega,λk=>?_,λk k' l h h'=>?_,λk l h=>?_⟩
 ·rw[c.rest b (λz=>by grind)];exact e
 ·rw[M6,tH hv];by_cases ck:pq.sh st=k
  ·subst ck;rw[aF Z,aF Z,lk0];exact .inr ⟨l0,Z,c.here⟩
  ·rw[aq ck,aq ck];refine(I.val k).imp id λ⟨l',h1,h2⟩=>⟨l',h1,?_⟩;rw[c.rest l' (nl k l' h1),hh l' (λz=>Qv I.dx (by rw[<-z];exact h2))];exact h2
 ·rw[tH hv]at h h';by_cases ck:pq.sh st=k
  ·grind
  ·by_cases ck':pq.sh st=k'
   ·grind
   ·rw[aq ck]at h;rw[aq ck']at h';exact I.inj _ _ _ h h'
 ·rw[tH hv]at h;by_cases ck:pq.sh st=k
  ·grind
  ·rw[aq ck]at h;exact I.fr _ _ h
def Df.Qt{knd:KeyKind P w κ}{pq:PQ κ}{G':Hp}{L:List (Addr×dO)}{J:List (List κ×V)}(I:Df knd pq F G pa L J)(e:∀c o,(∀ob u,o≠.jq ob u)->G c=some o->G' c=some o):Df knd pq F G' pa L J:=by
 refine⟨?_,I.len,λk=>(I.val k).imp id λ⟨l,h1,h2⟩=>⟨l,h1,e _ _ (λ_ _ z=>by cases z) h2⟩,I.inj,I.fr⟩;obtain⟨z,h|⟨xs,h1,h2⟩⟩:=I.dx
 ·exact⟨z,.inl ⟨h.1,e _ _ (λ_ _ z=>by cases z) h.2⟩⟩
 ·exact⟨z,.inr ⟨xs,e _ _ (λ_ _ z=>by cases z) h1,Paired.cC h2 λ_ _ ⟨a,b,c⟩=>⟨a,b.same λ_ _ q=>e _ _ (λ_ _ z=>by cases z) q,c⟩⟩⟩
def R9{R:Addr->dO×fW->Prop}(pq:PQ κ)(k:List κ){as:List Addr}{A:cI}(h:Paired R as A):Paired R (ug pq (as.zip (A.map (·.1))) k) (A.filter λx=>decide (pq.sh x.1=k)):=by
 induction h with
 |nil=>exact .nil
 | @cons a x as A h t ih =>
  unfold ug at ih ⊢;rw[bV,List.zip_cons_cons];by_cases c:pq.sh x.1=k
  ·rw[Ue (),Ue (),bV];exact .cons h ih
  grind
theorem JV:∀{A:cI}{x:dO×fW},(A.map (·.1)).Nodup->x∈A->uE A x.1=some x.2
 |y::A,x,nd,h=>by
  unfold uE
  rw[bV,iD]at nd
  rcases cB.mp h with rfl|h
  ·grind
  ·rw[qp ()]
   exact JV nd.2 h
end
abbrev gZ:Stmt:=top 26
def gF:bD ["question","table","source","another","alike","other","one","row","more","state"] JF (aB gZ):={}
section
variable{K:aH}{κ:Type} [DecidableEq κ]
def JW(T:cI):Prop:=∀x∈T,x.2.m.natAbs<2^4000
inductive a1c(Qn:HB P w K mg base κ)(vs:List V)(H:Hp)(Q:VK)(u_3:XK):Prop
 |mk (d t sc an:Addr) (J nF vW:List (List Key×V)) (T S A:cI) (m:Nat) (_:vs=[.ref d,.ref t,.ref sc,.ref an]) (_:Qn.At H d) (_:H t=some (.dT J)) (_:qD H J T) (_:H sc=some (.dT nF)) (_:qD H nF S) (_:H an=some (.dT vW)) (_:qD H vW A) (_:t≠sc) (_:t≠an) (_:sc≠an) (_:(∀x∈S,Qn.pq.Ok m x.1)) (_:(∀x∈A,Qn.pq.Ok m x.1)) (_:m<=5) (_:(A.map (·.1)).Nodup) (_:S.length<=4000) (_:A.length<=900) (_:JW S) (_:JW A) (_:a4b Qn.pq A S T) (_:∀kvs' H',Sd t H H'->H' t=some (.dT kvs')->qD H' kvs' (xr Qn.pq A S T)->Q .non H')
def JX(Qn:HB P w K mg base κ)(qG:Dn K mg "note" vq CV)(wX:Dn K mg "fill_joined" gZ JF):bw P w K mg base fX 10 wX.f wX.fd JF (a1c Qn):=by
 have JZ:bw P w K mg base fX 9 _ _ _ _:=Qn.rE.ok.mono ();have Ws:bw P w K mg base fX 9 _ _ _ _:=Qn.vQ.ok.mono ();have a3Z:bw P w K mg base fX 9 _ _ _ _:=Yg Qn qG;refine wX.F.ok gF λdz A' outer s H vs Q E hr h=>?_;obtain⟨d,t,sc,an,J,nF,vW,T,S,A,m,rfl,hD,ht,hT,hsc,hS,han,hA,nts,nta,nsa,uD,okA,m5,ndA,lS,lA,smS,smA,lim,q⟩:=h;have hw1:(A'.deeper (PyProof.Rows.envOfC "fill_joined" (aB gZ) s⁻¹ wX.f dz)).units+1<cLine:=by have:=hr.un;omega
 refine⟨_,(aG (bK 4 gF.nd Jx)
   (aG (yC (jo iR Z (Ŏ (pv 3)) (aN 5 gF.nd)
   (aD (gJ (oK (K:=K) Z kZ PySem.F.slot_list_append PySem.F.type_list_append jO (ľ Qn.knd PySem.F.plainAttrs_dict PySem.F.slot_dict_setdefault PySem.F.type_dict_setdefault (JB Qn.knd hw1) (pv 4) (O (wM (pv 0) Qn.cl Qn.rE.mt JZ hr Qn.rE.b .nil cu (O (pv 5) aj)) (O (cH aj) aj))) (O (pv 5) aj))))))
   (aD (yC (jo iR Z (vP (qO (K:=K) Z Ac Ij Ik vN (pv 2))) (jN (K:=K) (n:=2) Z Z (b8 (aN 6 gF.nd) (b8 (aN 7 gF.nd) jz)))
   (aD (jo iR Z (fC (K:=K) Z (ľ Qn.knd Ac Od PySem.F.type_dict_get (a01 Qn.knd hw1) (pv 4) (O (wM (pv 0) Qn.cl Qn.rE.mt JZ hr Qn.rE.b .nil cu (O (pv 6) aj)) (O (cH aj) aj)))) (aN 5 gF.nd)
   (aG (bK 8 gF.nd (XJ hw1 (pv 3) (pv 5) λ_ _=>rfl))
   (aD (jo iR Z (fC (K:=K) Z (wM (pv 0) Qn.cl Qn.vQ.mt Ws hr Qn.vQ.b .nil cu (O (pv 6) (O (pv 5) aj)))) (aN 9 gF.nd)
   (aD (gJ (bx a3Z hr Z qG.m qG.F.kp qG.b .nil cu (O (pv 0) (O (pv 1) (O (pv 9) (O (aZ (O (bQ a09 (aR (aV (K:=K) Z) (pv 7) aA) (aR (aV (K:=K) Z) (pv 8) aA)) (O (bQ gw (aR (aV (K:=K) Z) (pv 7) aA) (aR (aV (K:=K) Z) (pv 8) aA)) (O (aZ (O (pv 6) (O (pv 5) aj))) aj)))) aj))))))))))))))))),?_⟩
 refine λpa hpa=>?_;have n1:=gP.ou (o:=.dT []) hpa;generalize cN H pa (.dT [])=H1 at n1 ⊢;have h1a:=n1.same _ _ han;refine⟨_,Z,an,vW,Z,h1a,λo as pk=>?_⟩;have npa:pa≠an:=λz=>by have:=n1.fresh;rw[z,han]at this;cases this
 have npt:pa≠t:=λz=>by have:=n1.fresh;rw[z,ht]at this;cases this
 have nps:pa≠sc:=λz=>by have:=n1.fresh;rw[z,hsc]at this;cases this
 have Rf:Nd H (cN H1 an (.jq o (.dT vW))):=(Nd.of n1.same).trans (Nd.jq h1a);have g0a:cN H1 an (.jq o (.dT vW)) an=some (.jq o (.dT vW)):=cY;have g0p:cN H1 an (.jq o (.dT vW)) pa=some (.dT []):=by rw[aU npa];exact n1.here
 have Yj:∀c,c≠an->cN H1 an (.jq o (.dT vW)) c=H1 c:=λc hc=>aU hc;generalize cN H1 an (.jq o (.dT vW))=G0 at pk Rf g0a g0p Yj ⊢;have lk:=aM hA;have la:=aM pk;obtain⟨L,hL⟩:∃L:List (Addr×dO),L=as.zip (A.map (·.1)):=⟨_,Z⟩;have lL:L.length=as.length:=by rw[hL,List.length_zip,aJ];omega
 have atL:∀i a0,as[i]?=some a0->∃st more,A[i]?=some (st,more)/\L[i]?=some (a0,st)/\G0 a0=some (.tup ((rU st).map kV)):=λi a0 ha0=>by
  obtain⟨kv,hkv,hak⟩:=bf pk ha0;obtain⟨⟨st,more⟩,hsx,ek,hrow⟩:=bf hA hkv;have ek:kv.1=rU st:=ek;rw[ek]at hak;refine⟨st,more,hsx,?_,hak⟩;rw[hL,List.getElem?_zip_eq_some];exact⟨ha0,by rw[fK,hsx];rfl⟩
 refine ZV (λi σ G=>(∃o5,σ=[some (.ref d),some (.ref t),some (.ref sc),some (.ref an),some (.ref pa),o5,none,none,none,none])/\Sd pa G0 G/\∃ka,Df Qn.knd Qn.pq G0 G pa (L.take i) ka) ⟨⟨_,Z⟩,.refl,[],⟨DX.new g0p,by simp,λk=>.inl ⟨Z,Z⟩,λk k' l h=>(by cases h),λk l h=>(by cases h)⟩⟩ (λi σ G _ ⟨_,s,_⟩=>s _ _ (Ne.symm npa) g0a) ?_ ?_
 ·rintro i a0 σ G ha0 ⟨⟨o5,rfl⟩,sG,ka,hK⟩;obtain⟨st,more,hAi,hLi,hak⟩:=atL i a0 ha0;have nG:Nd G0 G:=.sd sG g0p;have nHG:Nd H G:=Rf.trans nG;have hDG:=nHG.at Qn hD;obtain⟨dx',fs,hd,nom,_⟩:=Qn.ins hDG;have hst:uz G a0 st:=uz.MT (nG.tups _ _ hak);have hTi:L.take (i+1)=L.take i++[(a0,st)]:=by rw[lG,hLi];rfl
  have li:(L.take i).length<=900:=by rw[d7];omega
  refine⟨_,Z,⟨pa,ka,Z,hK.dx⟩,_,Z,d,dx',fs,Z,hd,nom _ (),_,Z,d,a0,m,st,Z,hDG,hst,okA _ (jf hAi),m5,λb G1 s1 hk=>⟨(),λl0 G2 n2=>?_⟩⟩;have s2:=s1.trans n2.same;have ZW:=hK.same s2;have lk0:=hK.len;refine⟨pa,b,Qn.pq.sh st,ka,.ref l0,Z,Z,hk.same λ_ _ z=>n2.same _ _ z,ZW.dx,(),λy hy=>?_,λhn H' hh dxn=>?_⟩
  ·rcases ZW.val (Qn.pq.sh st)with h|⟨l,h1,h2⟩
   ·rw[h.1]at hy;cases hy
   ·rw[h1]at hy;cases hy;refine⟨.inl ⟨Z,_,bC.of h2⟩,_,Z,l,_,_,Z,Z,h2,?_,λG3 c3=>?_⟩
    ·rw[aJ];have:=Ő Qn.pq (L.take i) (Qn.pq.sh st);omega
    ·refine⟨⟨_,Z⟩,λc u hc e=>?_,ka,by rw[hTi];exact a1a ZW h1 c3 ⟨_,h2⟩⟩;rw[c3.rest c (λz=>by have:=ZW.fr _ _ h1;rw[<-z,e]at this;cases this)];exact s2 _ _ (sG c u hc e)
  ·have npl:l0≠pa:=λz=>Qv ZW.dx (ys:=[]) (by rw[<-z];exact n2.here);have hl0:H' l0=some (.lst []):=by rw[hh l0 npl];exact n2.here
   refine⟨.inl ⟨Z,_,bC.of hl0⟩,_,Z,l0,[],_,Z,Z,hl0,(),λG3 c3=>?_⟩;have fl:G0 l0=none:=by
    cases e:G0 l0 with
    |none=>rfl
    |some u =>
     have h1:=s1 _ _ (sG l0 u npl e);have h2:=n2.fresh;rw[h1]at h2;cases h2
   refine⟨⟨_,Z⟩,λc u hc e=>?_,_,by
    rw[hTi];refine a1b ZW hn n2.here fl (λk l h z=>?_) hh dxn c3;rcases hK.val k with h'|⟨l',h1,h2⟩
    ·rw[h'.1]at h;cases h
    ·rw[h1]at h;cases h;have h3:=s1 _ _ h2;have h4:=n2.fresh;rw[<-z,h3]at h4;cases h4⟩
   rw[c3.rest c (λz=>by rw[z,fl]at e;cases e),hh c hc];exact s2 _ _ (sG c u hc e)
 rintro σ G ⟨⟨o5,rfl⟩,sG,ka,hK⟩;have ga:=sG _ _ (Ne.symm npa) g0a;refine⟨an,o,vW,vW,h1a,ga,?_⟩;have sF:aK H (cN G an (.dT vW)):=λc u e=>by
  have ncp:c≠pa:=λz=>by rw[z,n1.fresh]at e;cases e
  by_cases z:c=an
  ·rw[z]at e ⊢;rw[cY,<-e,han]
  ·rw[aU z];refine sG c u ncp ?_;rw[Yj c z];exact n1.same _ _ e
 rw[show L.take as.length=L by rw[<-lL,iC]]at hK;have hKF:Df Qn.knd Qn.pq G0 (cN G an (.dT vW)) pa L ka:=hK.Qt λc u nf e=>by
  rw[aU (λz=>by rw[z,ga]at e;exact nf _ _ (eO e).symm)];exact e
 have pkF:Paired (λa (x:dO×fW)=>uz (cN G an (.dT vW)) a x.1) as A:=by
  have go:∀{as:List Addr}{ks:List (List Key×V)}{B:cI},Paired (λa (kv:List Key×V)=>G0 a=some (.tup (kv.1.map kV))) as ks->qD H ks B->Paired (λa (x:dO×fW)=>uz (cN G an (.dT vW)) a x.1) as B:=λ{as ks B} p=>by
   induction p generalizing B with
   |nil=>intro h;cases h;exact .nil
   | @cons a kv as ks h1 _ ih =>
    intro h;cases h with
    | @cons _ tr _ B' h2 t2 =>
     refine .cons ?_ (ih t2);have e:kv.1=rU tr.1:=h2.1;rw[e]at h1;exact uz.MT (Nd.Qt ga _ _ ((Nd.sd sG g0p).tups _ _ h1))
  exact go pk hA
 generalize cN G an (.dT vW)=F at sF hKF pkF ⊢;have a1d:=sF _ _ hsc;refine⟨_,Z,.inr (.inr (.inl ⟨Z,.inr ⟨_,a1d⟩⟩)),sc,nF,Z,Z,a1d,λpv H2 n2=>⟨pv,sc,nF,Z,n2.here,n2.same _ _ a1d,λo2 as2 pk2=>?_⟩⟩;have s2:=sF.trans n2.same;have h2s:=s2 _ _ hsc;have Zv:Nd H (cN H2 sc (.jq o2 (.dT nF))):=(Nd.of s2).trans (Nd.jq h2s);have f0s:cN H2 sc (.jq o2 (.dT nF)) sc=some (.jq o2 (.dT nF)):=cY;have f0t:cN H2 sc (.jq o2 (.dT nF)) t=some (.dT J):=by rw[aU nts];exact s2 _ _ ht
 have f0a:cN H2 sc (.jq o2 (.dT nF)) an=some (.dT vW):=by rw[aU (Ne.symm nsa)];exact s2 _ _ han
 have f0r:∀c,c≠sc->cN H2 sc (.jq o2 (.dT nF)) c=H2 c:=λc hc=>aU hc;have ZW:Df Qn.knd Qn.pq G0 (cN H2 sc (.jq o2 (.dT nF))) pa L ka:=by
  have h:=hKF.same n2.same;refine⟨?_,h.len,λk=>(h.val k).imp id λ⟨l,h1,h2⟩=>⟨l,h1,?_⟩,h.inj,h.fr⟩
  ·obtain⟨z,hh|⟨xs,h1,h2⟩⟩:=h.dx
   ·refine⟨z,.inl ⟨hh.1,?_⟩⟩;rw[aU nps];exact hh.2
   ·refine⟨z,.inr ⟨xs,?_,Paired.cC h2 λ_ _ ⟨a,b,c⟩=>⟨a,b.same λc' ys q=>?_,c⟩⟩⟩
    ·rw[aU nps];exact h1
    ·rw[aU (λz=>by rw[z,h2s]at q;cases q)];exact q
  ·rw[aU (λz=>by rw[z,h2s]at h2;cases h2)];exact h2
 have a6f:Paired (λa (x:dO×fW)=>uz (cN H2 sc (.jq o2 (.dT nF))) a x.1) as A:=Paired.cC pkF λa x h=>by
  show cN H2 sc (.jq o2 (.dT nF)) a=_;have h':H2 a=some (.tup (x.1.map V.int)):=n2.same _ _ h;rw[aU (λz=>by rw[z,h2s]at h';cases h')];exact h'
 generalize cN H2 sc (.jq o2 (.dT nF))=F0 at pk2 Zv f0s f0t f0a f0r ZW a6f ⊢;have lk2:=aM hS;have la2:=aM pk2;refine wW (λi σ G=>(∃o5 o6 o7 o8 o9,σ=[some (.ref d),some (.ref t),some (.ref sc),some (.ref an),some (.ref pa),o5,o6,o7,o8,o9])/\Sd t F0 G/\∃kt,G t=some (.dT kt)/\qD G kt (xr Qn.pq A (S.take i) T)) ⟨⟨_,_,_,_,_,Z⟩,.refl,J,f0t,hT.keep Zv.tups⟩ (λi σ G _ ⟨_,s,_⟩=>s _ _ (Ne.symm nts) f0s) ?_ ?_
 ·rintro i a0 v0 σ G p G1 ha0 hv0 ⟨⟨o5,o6,o7,o8,o9,rfl⟩,sG,kt,hkt,Yk⟩ nw;obtain⟨kv,hkv,hak⟩:=bf pk2 ha0;obtain⟨⟨fZ,row⟩,hsx,ek,hrow⟩:=bf hS hkv;have ek:kv.1=rU fZ:=ek;have hv0':v0=kv.2:=by
   rw[fK,hkv]at hv0;exact(eO hv0).symm
  subst hv0';rw[ek]at hak;have nG:Nd F0 G:=.sd sG f0t;have s1:aK G G1:=nw.same;have Ō:Nd F0 G1:=nG.trans (.of s1);have nH1:Nd H G1:=Zv.trans Ō;have hone:uz G1 a0 fZ:=uz.MT (Ō.tups _ _ hak);have zV:Li G1 kv.2 row:=hrow.keep nH1.tups;have mem:(fZ,row)∈S:=jf hsx;have hDG:=nH1.at Qn hD;obtain⟨dx',fs,hd,nom,_⟩:=Qn.ins hDG;have hKG:Df Qn.knd Qn.pq G0 G1 pa L ka:=by
   have ex:∀c u,c≠t->F0 c=some u->G1 c=some u:=λc u hc e=>s1 _ _ (sG c u hc e);refine⟨?_,ZW.len,λk=>(ZW.val k).imp id λ⟨l,h1,h2⟩=>⟨l,h1,ex _ _ (λz=>by rw[z,f0t]at h2;cases h2) h2⟩,ZW.inj,ZW.fr⟩;obtain⟨z,hh|⟨xs,h1,h2⟩⟩:=ZW.dx
   ·exact⟨z,.inl ⟨hh.1,ex _ _ npt hh.2⟩⟩
   ·exact⟨z,.inr ⟨xs,ex _ _ npt h1,Paired.cC h2 λ_ _ ⟨a,b,c⟩=>⟨a,b.same λ_ _ q=>Ō.tups _ _ q,c⟩⟩⟩
  refine⟨p,_,Z,cO.of nw.here,Z,_,_,Z,_,_,Z,Z,?_⟩;refine⟨_,Z,⟨pa,ka,Z,hKG.dx⟩,_,Z,d,dx',fs,Z,hd,nom _ (),_,Z,d,a0,m,fZ,Z,hDG,hone,uD _ mem,m5,λb G2 t2 hk=>⟨(),λl0 G3 n3=>?_⟩⟩;have t3:=t2.trans n3.same;have hK3:=hKG.same t3;refine⟨pa,b,Qn.pq.sh fZ,ka,.ref l0,Z,Z,hk.same λ_ _ z=>n3.same _ _ z,hK3.dx,?_⟩;obtain⟨l,el,hl⟩:∃l,(gh ka (Qn.pq.sh fZ)).getD (.ref l0)=.ref l/\G3 l=some (.lst ((ug Qn.pq L (Qn.pq.sh fZ)).map V.ref)):=by
   rcases hK3.val (Qn.pq.sh fZ)with⟨h1,h2⟩|⟨l,h1,h2⟩
   ·rw[h1,h2];exact⟨l0,Z,n3.here⟩
   ·rw[h1];exact⟨l,Z,h2⟩
  rw[el];have nG3:Nd F0 G3:=Ō.trans (.of t3);have pO:Paired (λa (x:dO×fW)=>uz G3 a x.1) (ug Qn.pq L (Qn.pq.sh fZ)) (qH Qn.pq fZ A):=by
   rw[hL];exact Paired.cC (R9 Qn.pq (Qn.pq.sh fZ) a6f) λ_ _ h=>h.keep nG3.tups
  have lO:=aM pO;have st3:aK G G3:=s1.trans t3;have hT3:qD G3 kt (xr Qn.pq A (S.take i) T):=Yk.keep (.of st3);have ht3:G3 t=some (.dT kt):=st3 _ _ hkt;have hTi:S.take (i+1)=S.take i++[(fZ,row)]:=by rw[lG,hsx];rfl
  refine⟨l,Z,⟨_,bC.of hl⟩,yp (K:=K) (a:=l) (xs:=(ug Qn.pq L (Qn.pq.sh fZ)).map V.ref) (λj σ G'=>(∃o5 o8 o9,σ=[some (.ref d),some (.ref t),some (.ref sc),some (.ref an),some (.ref pa),o5,some (.ref a0),some kv.2,o8,o9])/\Sd t G3 G'/\∃Lp,G' t=some (.dT Lp)/\qD G' Lp (zX Qn.pq fZ row ((qH Qn.pq fZ A).take j) (xr Qn.pq A (S.take i) T))) ⟨⟨_,_,_,Z⟩,.refl,kt,ht3,hT3⟩ (λj σ G' _ ⟨_,s,_⟩=>bC.of ((Nd.sd s ht3).lst hl)) ?_ ?_⟩
  ·rintro j x σ G' hx ⟨⟨o5,o8,o9,rfl⟩,Wr,Lp,Gx,hT'⟩;rw[fK]at hx;obtain⟨b0,hb0,rfl⟩:=lC.mp hx;obtain⟨⟨bO,more⟩,hox,hob⟩:=bf pO hb0;have a7B:(bO,more)∈qH Qn.pq fZ A:=jf hox;obtain⟨a1e,shE⟩:=lF.mp a7B;have shE:Qn.pq.sh bO=Qn.pq.sh fZ:=gj shE;have n3':Nd G3 G':=.sd Wr ht3;have nHG:Nd H G':=Zv.trans (nG3.trans n3');have hoG:uz G' b0 bO:=hob.keep n3'.tups;have a2x:uz G' a0 fZ:=hone.keep ((qF.of t3).trans n3'.tups);have haG:G' an=some (.dT vW):=Wr _ _ (Ne.symm nta) (st3 _ _ (sG _ _ (Ne.symm nta) f0a));obtain⟨vm,em,hmore⟩:∃vm,gh vW (rU bO)=some vm/\Li H vm more:=by
    rcases Hz bO hA with⟨_,e2⟩|⟨v,r,e1,e2,h⟩
    ·rw[JV ndA a1e]at e2;cases e2
    ·rw[JV ndA a1e]at e2;cases e2;exact⟨v,e1,h⟩
   have a6g:=nHG.at Qn hD;obtain⟨dx2,fs2,hd2,a7C,_⟩:=Qn.ins a6g;refine⟨_,Z,_,Z,an,vm,Z,by rw[<-em];exact Qq.t haG hoG.key,?_⟩;refine⟨_,Z,d,dx2,fs2,Z,hd2,a7C _ (),_,Z,_,Z,d,a0,b0,m,fZ,bO,Z,a6g,a2x,hoG,uD _ mem,okA _ a1e,m5,shE.symm,λr xs G4 s4 hr4 pm=>⟨r,Z,⟨_,bC.of hr4⟩,?_⟩⟩;have ht4:=s4 _ _ Gx;have hT4:=hT'.keep (qF.of s4);have lpm:=aM pm;have a7D:=lim i _ hsx j _ hox;have ß:(qH Qn.pq fZ A).take (j+1)=(qH Qn.pq fZ A).take j++[(bO,more)]:=by rw[lG,hox];rfl
   refine yp (K:=K) (a:=r) (xs:=xs) (λe σ G5=>(∃o9,σ=[some (.ref d),some (.ref t),some (.ref sc),some (.ref an),some (.ref pa),some (.ref b0),some (.ref a0),some kv.2,some vm,o9])/\Sd t G4 G5/\∃ō,G5 t=some (.dT ō)/\qD G5 ō (zW Qn.pq.bt fZ bO row more ((Qn.pq.jn fZ bO).take e) (zX Qn.pq fZ row ((qH Qn.pq fZ A).take j) (xr Qn.pq A (S.take i) T)))) ⟨⟨_,Z⟩,.refl,Lp,ht4,hT4⟩ (λe σ G5 _ ⟨_,s,_⟩=>bC.of ((Nd.sd s ht4).lst hr4)) ?_ ?_
   ·rintro e x σ G5 hx ⟨⟨o9,rfl⟩,sG5,kt5,a4c,hT5⟩;obtain⟨st',hmx,aa,rfl,haa⟩:=bf pm hx;have n4':Nd G4 G5:=.sd sG5 ht4;have a6h:Nd H G5:=nHG.trans ((Nd.of s4).trans n4');have a4d:Nd G' G5:=(Nd.of s4).trans n4';obtain⟨pr,qr,asr,ZS,hpr,hqr,hsr⟩:=zV.keep ((qF.of t3).trans (n3'.tups.trans a4d.tups));obtain⟨pm',qm,asm,a6i,hpm,hqm,hsm⟩:=hmore.keep a6h.tups;rw[ZS,a6i];refine⟨_,Z,_,Z,_,Z,_,Z,pr,_,_,.int row.m,Z,Z,cO.of hpr,Z,_,Z,pm',_,_,.int more.m,Z,Z,cO.of hpm,Z,_,_,Z,Z,⟨smS _ mem,smA _ a1e⟩,_,Z,pr,_,_,.int row.b,Z,Z,cO.of hpr,Z,_,Z,pm',_,_,.int more.b,Z,Z,cO.of hpm,Z,_,_,Z,Z,_,Z,_,Z,(),λq1 G6 m6=>⟨(),λq2 G7 m7=>?_⟩⟩;have s67:=m6.same.trans m7.same;refine⟨d,t,aa,.ref q2,kt5,_,st',⟨row.m*more.m,row.b+more.b,[fZ,bO]⟩,Z,(a6h.trans (.of s67)).at Qn hD,s67 _ _ a4c,hT5.keep (.of s67),?_,haa.keep (n4'.tups.trans (.of s67)),⟨q2,q1,[a0,b0],Z,m7.here,m7.same _ _ m6.here,.cons (a2x.keep (a4d.tups.trans (.of s67))) (.cons (hoG.keep (a4d.tups.trans (.of s67))) .nil)⟩,λkt8 G8 s8 h8 hT8=>?_⟩
    ·exact a7D e (dU (fu.mp hmx).1)
    ·refine⟨⟨_,Z⟩,sG5.trans ((Sd.of s67).trans s8),kt8,h8,?_⟩;rw[lG,hmx];show qD G8 kt8 (zW Qn.pq.bt fZ bO row more ((Qn.pq.jn fZ bO).take e++[st']) _);rw[JS];exact hT8
   ·rintro σ G5 ⟨⟨o9,rfl⟩,sG5,kt5,a4c,hT5⟩;refine⟨⟨_,_,_,Z⟩,Wr.trans ((Sd.of s4).trans sG5),kt5,a4c,?_⟩;rw[ß,JT];rw[lpm,iC]at hT5;exact hT5
  ·rintro σ G' ⟨⟨o5,o8,o9,rfl⟩,Wr,Lp,Gx,hT'⟩;refine⟨⟨_,_,_,_,_,Z⟩,sG.trans ((Sd.of st3).trans Wr),Lp,Gx,?_⟩;rw[hTi,join_snoc];rw[aJ,lO,iC]at hT';exact hT'
 ·rintro σ G ⟨⟨o5,o6,o7,o8,o9,rfl⟩,sG,kt,hkt,Yk⟩;have gs:=sG _ _ (Ne.symm nts) f0s;refine⟨sc,o2,nF,nF,a1d,gs,?_⟩;refine q kt _ (λc u hc e=>?_) (by rw[aU nts];exact hkt) ?_
  ·by_cases z:c=sc
   ·rw[z]at e ⊢;rw[cY,<-e,hsc]
   ·rw[aU z];refine sG c u hc ?_;rw[f0r c z];exact s2 _ _ e
  ·rw[show S.take as2.length=S by rw[la2,lk2,iC]]at Yk;exact Yk.keep (Nd.Qt gs)
end
abbrev oV:Stmt:=top 3
def ő:bD jU jU (aB oV):={}
def ZX{p q:Int->Bool}(h:∀v,0<=v->v<16->p v=q v):Rc p=Rc q:=by
 unfold Rc;refine List.filter_congr λv hv=>?_;grind
def fL(xs ys:List Int):List Int:=Rc λv=>decide (v∈xs\/v∈ys)
inductive a1f(K:aH)(vs:List V)(H:Hp)(Q:VK)(u_3:XK):Prop
 |mk (a b:Addr) (xs ys:List Int) (_:vs=[.ref a,.ref b]) (_:bC K H a (xs.map V.int)) (_:bC K H b (ys.map V.int)) (_:Small xs) (_:Small ys) (_:∀H0 p H',aK H H0->gP H0 p (.lst ((fL xs ys).map V.int)) H'->Q (.ref p) H')
section
variable{K:aH}
def Sg(B:Bl mg)(oE:Dn K mg "joint" oV jU):bw P w K mg base fX 1 oE.f oE.fd jU (a1f K):=by
 exists oE.F.ok ő;obtain⟨a,b,xs,ys,rfl,hA,hB,sA,sB,q⟩:=h;refine⟨_,(aD (bF (bh (Qp (w:=w) Z Z) Z B.sorted () (O (bQ (a3I (w:=w) Z) (jG (MJ (K:=K) (w:=w) Z Z Z) Z B.set () (O (pv 0) aj)) (jG (MJ (K:=K) (w:=w) Z Z Z) Z B.set () (O (pv 1) aj))) aj)))),⟨_,Z,a,xs,Z,hA,sA,λp1 L1 H1 n1 m1=>⟨_,Z,b,ys,Z,n1.same.seq hB,sB,λp2 L2 H2 n2 m2=>⟨p1,p2,L1,L2,Z,Z,n2.ne n1.here,n2.same _ _ n1.here,n2.here,λp3 L H3 n3 m3=>⟨p3,false,L,Z,n3.here,λp4 H4 n4=>?_⟩⟩⟩⟩⟩;have e:(Rc λv=>decide (v.toNat∈L))=fL xs ys:=ZX λv h0 h1=>by
  grind
 rw[e]at n4;exact q H3 p4 H4 (n1.same.trans (n2.same.trans n3.same)) n4
end
abbrev nH:Stmt:=top 23
def nU:bD ["steps","question","tops","feeds","told","step","bag","used","table"] JG (aB nH):={}
section
variable{K:aH}{κ:Type} [DecidableEq κ]
noncomputable def Lq(pq:PQ κ)(aQ:List (List Int))(iV:List cI)(jY:bZ)(bI:List Int)(used:List Nat):cI:=match used with
 | []=>[(pq.leaf,⟨1,0,[]⟩)]
 | [i]=>oU pq jY (fL bI (aQ.getD i [])) (iV.getD i []) []
 |i::j::_=>xr pq (iV.getD j []) (iV.getD i []) []
def Lr(pq:PQ κ)(ss:List bZ)(aQ:List (List Int))(dG:List (List Nat)):Nat->List cI
 |0=>[]
 |k+1=>Lr pq ss aQ dG k++[Lq pq aQ (Lr pq ss aQ dG k) (ss.getD k .leaf) (aQ.getD k []) (dG.getD k [])]
theorem mW(pq:PQ κ)(ss:List bZ)(aQ:List (List Int))(dG:List (List Nat)):∀k,(Lr pq ss aQ dG k).length=k
 |0=>rfl
 |k+1=>by
  show(_++[_]).length=_
  rw[cA,mW pq ss aQ dG k]
  rfl
def Bf(Qn:HB P w K mg base κ)(aQ:List (List Int))(iV:List cI)(jY:bZ)(bI:List Int)(used:List Nat):Prop:=match used with
 | []=>True
 | [i]=>jY≠.join/\i<iV.length/\(∀x∈iV.getD i [],Qn.pq.Ok (aQ.getD i []).length x.1)/\HF Qn jY (fL bI (aQ.getD i [])) (aQ.getD i []).length/\(iV.getD i []).length<=4000/\a3Y Qn.pq jY (fL bI (aQ.getD i [])) (iV.getD i []) []
 | [i,j]=>jY=.join/\i<iV.length/\j<iV.length/\i≠j/\∃m≤5,(∀x∈iV.getD i [],Qn.pq.Ok m x.1)/\(∀x∈iV.getD j [],Qn.pq.Ok m x.1)/\((iV.getD j []).map (·.1)).Nodup/\(iV.getD i []).length<=4000/\(iV.getD j []).length<=900/\JW (iV.getD i [])/\JW (iV.getD j [])/\a4b Qn.pq (iV.getD j []) (iV.getD i []) []
 |_=>False
def Œ(H:Hp)(p:Addr)(T:cI):Prop:=∃J,H p=some (.dT J)/\qD H J T
inductive a4e(Qn:HB P w K mg base κ)(vs:List V)(H:Hp)(Q:VK)(u_3:XK):Prop
 |mk (d a pt pf:Addr) (xs vt:List V) (fs:List Addr) (ss:List bZ) (aQ:List (List Int)) (dG:List (List Nat)) (_:vs=[.ref a,.ref d,.ref pt,.ref pf]) (_:Qn.At H d) (_:bC K H a xs) (_:Paired (sZ K H) xs ss) (_:bC K H pt vt) (_:Paired (λv b=>∃p,v=.ref p/\bC K H p (b.map V.int)) vt aQ) (_:bC K H pf (fs.map V.ref)) (_:Paired (λf us=>H f=some (.lst (us.map λj:Nat=>V.int (j:Int)))) fs dG) (_:ss.length<=900) (_:aQ.length=ss.length) (_:dG.length=ss.length) (_:(∀b∈aQ,Small b)) (_:(∀k,k<ss.length->Bf Qn aQ (Lr Qn.pq ss aQ dG k) (ss.getD k .leaf) (aQ.getD k []) (dG.getD k []))) (_:∀pl ps H',aK H H'->H pl=none->H' pl=some (.lst (ps.map V.ref))->Paired (Œ H') ps (Lr Qn.pq ss aQ dG ss.length)->ps.Nodup->(∀p∈ps,H p=none)->Q (.ref pl) H')
def Z0{α:Type}{ps:List α}{j:Nat}{p:α}(nd:ps.Nodup)(h:ps[i]?=some p)(h':ps[j]?=some p):i=j:=by
 have h1:=fu.mp h;have h2:=fu.mp h';have pw:=ï.mp nd;grind
def Z1:∀{s:bZ},s.word=(Str.ofString "join")->s=.join
 |.leaf,h=>absurd (show Str.ofString "leaf" = Str.ofString "join" from h) ()
 |.inn _,h=>absurd (show Str.ofString "in" = Str.ofString "join" from h) ()
 |.tie _ _,h=>absurd (show Str.ofString "tie" = Str.ofString "join" from h) ()
 |.out _,h=>absurd (show Str.ofString "out" = Str.ofString "join" from h) ()
 |.join,_=>rfl
def a7E{P:St->Hp->Prop}{R:Prop}(h:∀Z97:St->Hp->Prop,(∀σ H,P σ H->Z97 σ H)->(∀σ H,Z97 σ H->P σ H)->R):R:=h P (λ_ _ z=>z) (λ_ _ z=>z)
def Sh(B:Bl mg)(Bz:mg "zip" = none)(Qn:HB P w K mg base κ)(oE:Dn K mg "joint" oV jU)(vV:Dn K mg "states_behind" fY Gi)(qG:Dn K mg "note" vq CV)(xH:Dn K mg "fill_along" jP JD)(wX:Dn K mg "fill_joined" gZ JF)(yD:Dn K mg "going_up" nH JG):bw P w K mg base fX 11 yD.f yD.fd JG (a4e Qn):=by
 have a7F:bw P w K mg base fX 10 _ _ _ _:=Ln Qn vV qG xH;have a7G:bw P w K mg base fX 10 _ _ _ _:=JX Qn qG wX;have a4f:bw P w K mg base fX 10 _ _ _ _:=(Sg B oE).mono ();exists yD.F.ok nU;obtain⟨d,a,pt,pf,xs,vt,fs,ss,aQ,dG,rfl,hD,hA,pA,hP,pP,hF,pF,l9,lt,lf,smT,ok,q⟩:=h;have hw1:(A.deeper (PyProof.Rows.envOfC "going_up" (aB nH) s⁻¹ yD.f dz)).units+1<cLine:=by have:=hr.un;omega
 refine⟨_,(aG (bK 4 nU.nd (cH aj))
   (aG (jo iR Z (a04 (K:=K) Z Z Bz (O (pv 0) (O (pv 2) (O (pv 3) aj)))) (jN (K:=K) (n:=3) Z Z (b8 (aN 5 nU.nd) (b8 (aN 6 nU.nd) (b8 (aN 7 nU.nd) jz))))
   (aG (bK 8 nU.nd Jx)
   (qP (dZ (sE (gK (K:=K) Z (pv 7) λ_=>rfl))
   (aD (yh (aZ (O aA (O aA (O (aZ aj) aj)))) (PJ (pv 8) (zH (K:=K) Z (pv 1) Z) (zF hw1))))
   (aD (dZ (aP oH (aR (aV (K:=K) Z) (pv 5) aA) gq)
   (aD (gJ (bx a7G hr Z wX.m wX.F.kp wX.b .nil cu (O (pv 1) (O (pv 8) (O (aR (bA (K:=K) Z) (pv 4) (aR (bA (K:=K) Z) (pv 7) aA)) (O (aR (bA (K:=K) Z) (pv 4) (aR (bA (K:=K) Z) (pv 7) aA)) aj)))))))
   (aD (gJ (bx a7F hr Z xH.m xH.F.kp xH.b .nil cu (O (pv 1) (O (pv 8) (O (aR (bA (K:=K) Z) (pv 4) (aR (bA (K:=K) Z) (pv 7) aA)) (O (pv 5) (O (bx a4f hr Z oE.m oE.F.kp oE.b .nil cu (O (pv 6) (O (aR (bA (K:=K) Z) (pv 2) (aR (bA (K:=K) Z) (pv 7) aA)) aj))) aj)))))))))))
   (aD (gJ (oK (K:=K) Z kZ PySem.F.slot_list_append PySem.F.type_list_append jO (pv 4) (O (pv 8) aj)))))))
   (aD (bF (pv 4))))),?_⟩
 refine⟨(),λpl H1 n1=>?_⟩;have s1:=n1.same;refine⟨_,Z,_,Z,_,Z,a,pt,pf,Z,⟨_,s1.seq hA⟩,⟨_,s1.seq hP⟩,⟨_,s1.seq hF⟩,?_⟩;have lx:xs.length=ss.length:=aM pA;have lv:vt.length=ss.length:=(aM pP).trans lt;have lfs:(fs.map V.ref).length=ss.length:=by rw[aJ];exact(aM pF).trans lf
 refine opq (P:=λk σ G=>(∃o5 o6 o7 o8,σ=[some (.ref a),some (.ref d),some (.ref pt),some (.ref pf),some (.ref pl),o5,o6,o7,o8])/\aK H G/\∃ps:List Addr,G pl=some (.lst (ps.map V.ref))/\Paired (Œ G) ps (Lr Qn.pq ss aQ dG k)/\ps.Nodup/\∀p∈ps,H p=none) λZ97 ji ij=>?_;refine ł (K:=K) (xs:=xs) (ys:=vt) (zs:=fs.map V.ref) (lx.trans lv.symm) (lx.trans lfs.symm) Z97 (ji _ _ _ ⟨⟨_,_,_,_,Z⟩,s1,[],n1.here,.nil,Ar,λ_ h=>absurd h eN⟩) (λk σ G _ h=>have s:=(ij _ _ _ h).2.1;⟨s.seq hA,s.seq hP,s.seq hF⟩) ?_ ?_
 ·intro k x y z σ G p G1 hx hy hz hJ nw;obtain⟨⟨o5,o6,o7,o8,rfl⟩,sG,ps,hpl,pT,nd,fr⟩:=ij _ _ _ hJ;obtain⟨jY,a6j,TY,rfl,hst⟩:=bf pA hx;obtain⟨bI,a6k,pbg,rfl,hbg⟩:=bf pP hy;rw[fK]at hz;obtain⟨f,hf,rfl⟩:=lC.mp hz;obtain⟨used,a6l,hfu⟩:=bf pF hf;have kl:k<ss.length:=(fu.mp a6j).1;have okk:=ok k kl;have eS:ss.getD k .leaf=jY:=by rw[fV,a6j];rfl
  have eT:aQ.getD k []=bI:=by rw[fV,a6k];rfl
  have eF:dG.getD k []=used:=by rw[fV,a6l];rfl
  have go:Lr Qn.pq ss aQ dG (k+1)=Lr Qn.pq ss aQ dG k++[Lq Qn.pq aQ (Lr Qn.pq ss aQ dG k) jY bI used]:=by
   show _++[_]=_;rw[eS,eT,eF]
  rw[eS,eT,eF]at okk;have lps:ps.length=k:=(aM pT).trans (mW _ _ _ _ k);have T3:aK H G1:=sG.trans nw.same;refine⟨p,_,Z,cO.of nw.here,Z,_,_,Z,_,_,Z,_,_,Z,Z,λt ht0=>?_⟩;have n2:=gP.ou (o:=.dT []) ht0;generalize cN G1 t (.dT [])=G2 at n2 ⊢;have sG2:aK H G2:=T3.trans n2.same;have g12:aK G G2:=nw.same.trans n2.same;have œ:=g12 _ _ hpl;have pT2:Paired (Œ G2) ps (Lr Qn.pq ss aQ dG k):=Paired.cC pT λ_ _ ⟨kv,h1,h2⟩=>⟨kv,g12 _ _ h1,h2.keep (.of g12)⟩;have hD2:Qn.At G2 d:=(Nd.of sG2).at Qn hD;have Ht:H t=none:=by
   cases e:H t with
   |none=>rfl
   |some u=>rw[T3 _ _ e]at ht0;cases ht0
  have ntp:∀p∈ps,p≠t:=λp' hp' z=>by
   obtain⟨i,hi,e⟩:=qt hp';obtain⟨T',_,kv,h1,_⟩:=bf pT (fu.mpr ⟨hi,e⟩);have:=nw.same _ _ h1;rw[z,ht0]at this;cases this
  have npl:pl≠t:=λz=>by have:=nw.same _ _ hpl;rw[z,ht0]at this;cases this
  have atT:∀i,i<k->∃pi kv,ps[i]?=some pi/\G2 pi=some (.dT kv)/\qD G2 kv ((Lr Qn.pq ss aQ dG k).getD i [])/\pi≠t:=λi hi=>by
   have hi':i<ps.length:=()
   obtain⟨T',hT',kv,h1,h2⟩:=bf pT2 (bH hi');refine⟨ps[i],kv,bH hi',h1,?_,ntp _ (qx hi')⟩;rw[fV,hT'];exact h2
  have ixT:∀(i:Nat) (pi:Addr),ps[i]?=some pi->TQ (ps.map V.ref) (i:Int)=some (.ref pi):=λi pi h=>by
   have hi:=(fu.mp h).1;exact bR (by rw[fK,h];rfl)
  refine a7E (P:=λσ' G'=>σ'=[some (.ref a),some (.ref d),some (.ref pt),some (.ref pf),some (.ref pl),some (.ref TY),some (.ref pbg),some (.ref f),some (.ref t)]/\Sd t G2 G'/\∃kt,G' t=some (.dT kt)/\qD G' kt (Lq Qn.pq aQ (Lr Qn.pq ss aQ dG k) jY bI used)) λJ2 ji2 ij2=>⟨J2,?_,?_⟩
  ·have hf2:=sG2 _ _ hfu;rcases used with _|⟨i,_|⟨j,_|⟨e,rest⟩⟩⟩
   ·refine⟨_,Z,false,.inl ⟨_,bC.of hf2,Z⟩,iM ?_⟩;obtain⟨dx',fs',hd,_,⟨al,hal,hlf⟩,_⟩:=Qn.ins hD2;refine⟨(),λp3 G3 m3=>⟨(),λp4 G4 m4=>?_⟩⟩;have Þ:=m3.same.trans m4.same;refine⟨_,Z,_,Z,d,_,dx',fs',_,Z,Þ _ _ hd,Qn.cl,Qn.gU,hal,t,al,rU Qn.pq.leaf,[],Z,Z,(hlf.keep (.of Þ)).key,Þ _ _ n2.here,(),λG5 c5=>?_⟩;have nd5:qF G4 G5:=λc' ys hc=>by
     rw[c5.rest c' (λz=>by rw[z,Þ _ _ n2.here]at hc;cases hc)];exact hc
    exact ji2 _ _ ⟨Z,(Sd.of Þ).trans (.ń c5),_,c5.here,.cons ⟨Z,p4,p3,[],Z,nd5 _ _ m4.here,nd5 _ _ (m4.same _ _ m3.here),.nil⟩ .nil⟩
   ·obtain⟨nj,il,uD,fit,lS,lim⟩:=okk;rw[mW]at il;obtain⟨pi,kv,hpi,hgi,hTi,nti⟩:=atT i il;refine⟨_,Z,true,.inl ⟨_,bC.of hf2,Z⟩,cX ?_⟩;refine⟨_,Z,TY,jY.vs,0,.str jY.word,Z,Z,sG2.wR hst,by cases jY<;>rfl,Z,_,Z,?_⟩;rw[cW (show ¬V.str jY.word=V.str (Str.ofString "join")from λz=>nj (Z1 (V.str.inj z)))];refine cX ⟨_,Z,_,Z,_,Z,_,Z,f,_,_,_,Z,Z,bC.of hf2,Z,pl,_,_,_,Z,Z,bC.of œ,ixT i pi hpi,_,Z,_,Z,_,Z,_,Z,f,_,_,_,Z,Z,bC.of hf2,Z,?_⟩;have it:i<aQ.length:=()
    obtain⟨vb,hvb,pbi,rfl,hbi⟩:∃vb,vt[i]?=some vb/\∃q,vb=.ref q/\bC K H q ((aQ.getD i []).map V.int):=by
     have hi':i<vt.length:=()
     obtain⟨b',hb',q',e',h'⟩:=bf pP (bH hi');refine⟨_,bH hi',q',e',?_⟩;rw[fV,hb'];exact h'
    refine⟨pt,vt,_,_,Z,Z,sG2.seq hP,bR hvb,pbg,pbi,bI,aQ.getD i [],Z,sG2.seq hbg,sG2.seq hbi,smT _ (jf a6k),smT _ (by rw[fV,bH it];exact qx it),λG3 pj G4 s3 n4=>?_⟩;have Ŕ:=s3.trans n4.same;refine⟨d,t,pi,TY,pj,[],kv,[],_,jY,fL bI (aQ.getD i []),(aQ.getD i []).length,Z,(Nd.of Ŕ).at Qn hD2,Ŕ _ _ n2.here,.nil,Ŕ _ _ hgi,hTi.keep (.of Ŕ),Ne.symm nti,uD,(sG2.trans Ŕ).wR hst,n4.here,fit,lS,lim,λkt G5 s5 h5 hT5=>ji2 _ _ ⟨Z,(Sd.of Ŕ).trans s5,kt,h5,hT5⟩⟩
   ·obtain⟨ej,il,jl,nij,m,m5,uD,okA,ndA,lS,lA,smS,smA,lim⟩:=okk;rw[mW]at il jl;obtain⟨pi,kv,hpi,hgi,hTi,nti⟩:=atT i il;obtain⟨pj,kvj,hpj,hgj,ß,ntj⟩:=atT j jl;have npp:pi≠pj:=λz=>nij (Z0 nd hpi (by rw[z];exact hpj));refine⟨_,Z,true,.inl ⟨_,bC.of hf2,Z⟩,cX ?_⟩;subst ej;refine⟨_,Z,TY,bZ.join.vs,0,.str (Str.ofString "join"),Z,Z,sG2.wR hst,Z,Z,_,Z,?_⟩;rw[bL (show V.str (Str.ofString "join")=V.str (Str.ofString "join")from Z)];exact iM ⟨_,Z,_,Z,_,Z,_,Z,f,_,_,_,Z,Z,bC.of hf2,Z,pl,_,_,_,Z,Z,bC.of œ,ixT i pi hpi,_,Z,_,Z,f,_,_,_,Z,Z,bC.of hf2,Z,pl,_,_,_,Z,Z,bC.of œ,ixT j pj hpj,⟨d,t,pi,pj,[],kv,kvj,[],_,_,m,Z,hD2,n2.here,.nil,hgi,hTi,hgj,ß,Ne.symm nti,Ne.symm ntj,npp,uD,okA,m5,ndA,lS,lA,smS,smA,lim,λkt G5 s5 h5 hT5=>ji2 _ _ ⟨Z,s5,kt,h5,hT5⟩⟩⟩
   ·exact okk.elim
  ·intro σ' G3 h2;obtain⟨rfl,s3,kt,hkt,hTn⟩:=ij2 _ _ h2;have a4g:=s3 _ _ npl œ;have tu3:qF G2 G3:=s3.tups n2.here;refine⟨_,Z,.inl ⟨Z,_,bC.of a4g⟩,_,Z,pl,_,_,Z,Z,a4g,by rw[aJ,lps];omega,λG4 c4=>?_⟩;have s4:∀c u,c≠pl->G3 c=some u->G4 c=some u:=λc u hc e=>by rw[c4.rest c hc];exact e
   have tu4:qF G3 G4:=λc ys e=>s4 c _ (λz=>by rw[z,a4g]at e;cases e) e;have nlp:∀p∈ps,p≠pl:=λp' hp' z=>by
    obtain⟨i,hi,e⟩:=qt hp';obtain⟨T',_,kv,h1,_⟩:=bf pT2 (fu.mpr ⟨hi,e⟩);rw[z,œ]at h1;cases h1
   refine ji _ _ _ ⟨⟨_,_,_,_,Z⟩,λc u e=>?_,ps++[t],by rw[c4.here,dH];rfl,?_,?_,?_⟩
   ·have ncl:c≠pl:=λz=>by rw[z,n1.fresh]at e;cases e
    have nct:c≠t:=λz=>by rw[z,Ht]at e;cases e
    exact s4 c u ncl (s3 c u nct (sG2 _ _ e))
   ·rw[go];have a6m:∀{as:List Addr}{Ts:List cI},Paired (Œ G2) as Ts->(∀p∈as,p≠t/\p≠pl)->Paired (Œ G4) as Ts:=λ{as Ts} h=>by
     induction h with
     |nil=>intro _;exact .nil
     | @cons p T _ _ h1 _ ih =>
      intro hh;obtain⟨kv,e1,e2⟩:=h1;have hn:=hh p (aO ..);exact .cons ⟨kv,s4 _ _ hn.2 (s3 _ _ hn.1 e1),e2.keep (tu3.trans tu4)⟩ (ih λp' hp'=>hh p' (aY _ hp'))
    exact cZ (a6m pT2 λp' hp'=>⟨ntp p' hp',nlp p' hp'⟩) ⟨kt,s4 _ _ (Ne.symm npl) hkt,hTn.keep tu4⟩
   ·exact uZ.mpr ⟨nd,xV _ _,λx hx y hy e=>ntp x hx (by rw[e,bJ.mp hy])⟩
   ·intro p' hp';rcases cJ.mp hp' with h|h
    ·exact fr p' h
    ·rw[bJ.mp h];exact Ht
 ·intro σ G hJ;obtain⟨⟨o5,o6,o7,o8,rfl⟩,sG,ps,hpl,pT,nd,fr⟩:=ij _ _ _ hJ;rw[lx]at pT;exact⟨_,Z,q pl ps G sG n1.fresh hpl pT nd fr⟩
end
abbrev Bh:Stmt:=top 1
def Sq:bD ["thing"] ["thing"] (aB Bh):={}
abbrev fP:Stmt:=top 2
def Ss:bD uf uf (aB fP):={}
inductive a1g(K:aH)(vs:List V)(H:Hp)(Q:VK)(u_3:XK):Prop
 |mk (x:V) (t:Value) (bi bb:Bool) (_:vs=[x]) (_:tZ K H x t) (_:PySem.W.kitOne K t (.type "int")=some bi) (_:PySem.W.kitOne K t (.type "bool")=some bb) (_:Q (.bl (bi && !bb)) H)
inductive a1h(vs:List V)(H:Hp)(Q:VK)(u_3:XK):Prop
 |mk (n:Int) (o:Option Int) (_:vs=[.int n,upV o]) (_:Q (.bl (oM n o)) H)
section
variable{K:aH}
abbrev Fq(K:PySem.W.Frag)(mg:Str->Option Value):=Dn K mg "is_whole" Bh ["thing"]
def Sv(B:Bl mg)(jV:Fq K mg):bw P w K mg base fX 1 jV.f jV.fd ["thing"] (a1g K):=by
 exists jV.F.ok Sq;obtain⟨x,t,bi,bb,rfl,ty,h1,h2,q⟩:=h;refine⟨_,(aD (bF (Pz (bh (jb (K:=K) Z) Z B.isinstance () (O (pv 0) (O (uJ (v:=.ty "int") (u:=.type "int") Z B.int () Z) aj))) (Py (ú (bh (jb (K:=K) Z) Z B.isinstance () (O (pv 0) (O (uJ (v:=.ty "bool") (u:=.type "bool") Z B.bool () Z) aj)))))))),⟨_,Z,_,_,_,_,_,Z,Z,ty,h1,_,Z,?_⟩⟩;cases bi with
 |true =>
  exact iM ⟨_,Z,_,_,_,_,_,Z,Z,ty,h2,_,Z,q⟩
 |false=>exact cX q
def yE(B:Bl mg)(jV:Fq K mg)(jy:Dn K mg "is_below" fP uf):bw P w K mg base fX 2 jy.f jy.fd uf a1h:=by
 have a7H:bw P w K mg base fX 1 _ _ _ _:=Sv B jV;exists jy.F.ok Ss;obtain⟨n,o,rfl,q⟩:=h;refine⟨_,(aD (bF (Pz (bx a7H hr Z jV.m jV.F.kp jV.b .nil cu (O (pv 1) aj)) (Py (ā a5m Jj aA (pv 1) (pv 0)))))),?_⟩;cases o with
 |none=>exact⟨_,Z,_,_,_,_,Z,tZ.non,Rt,Qe,_,Z,cX q⟩
 |some i =>
  refine⟨_,Z,_,_,_,_,Z,tZ.int i,Gb,Cr,_,Z,iM ⟨_,Z,_,_,Z,Z,_,Z,zP (λc=>?_) λc=>?_⟩⟩
  ·have c':0<=i:=gj c;refine⟨_,Z,_,_,Z,Z,?_⟩;have e:oM n (some i)=decide (i<n):=by unfold oM;simp[c']
   rw[e]at q;exact q
  ·have c':¬0<=i:=Ux (xZ.mpr c);have e:oM n (some i)=false:=by unfold oM;simp[c']
   grind
end
def nY(xs ys:List Int):List Int:=xs.filter λv=>!decide (v∈ys)
abbrev sI:Stmt:=top 4
def Yl:bD jU jU (aB sI):={}
inductive a1i(K:aH)(vs:List V)(H:Hp)(Q:VK)(u_3:XK):Prop
 |mk (a b:Addr) (xs ys:List Int) (_:vs=[.ref a,.ref b]) (_:cO K H a (xs.map V.int)) (_:bC K H b (ys.map V.int)) (_:xs.length<=1000) (_:∀H0 p H',aK H H0->gP H0 p (.lst ((nY xs ys).map V.int)) H'->Q (.ref p) H')
section
variable{K:aH}
def ŕ(B:Bl mg)(mO:Dn K mg "less" sI jU):bw P w K mg base fX 1 mO.f mO.fd jU (a1i K):=by
 exists mO.F.ok Yl;obtain⟨a,b,xs,ys,rfl,hA,hB,hz,q⟩:=h;have hv:(A.deeper (PyProof.Rows.envOfC "less" (aB sI) s⁻¹ mO.f dz)).units+65<cLine:=by have:=hr.un;omega
 refine⟨_,(aD (bF (jT ["v","other"] [none,some 1]  (by kernel_rfl) Z (Cu (K:=K) Z (pv 0)) (λ_ _ _ _ _=>(aN 0 (show(["v","other"]:List Str).Nodup by decide))) (λ_ _ _ _ _=>(wO (aP (jM (K:=K) Z hv) (pv 0) (pv 1) (by with_unfolding_all rfl)))) λ_ _ _ _ _=>(pv 0)))),⟨_,Z,a,Z,⟨_,hA⟩,a0R (λx=>match x with |.int v=>if !decide (v∈ys)then some (.int v)else none|_=>none) hA () (λx H1 N hx sm hN=>?_) λH1 p H1' sm hp=>?_⟩⟩
 ·obtain⟨v,hv,rfl⟩:=dW.mp hx;have hN':=hN H1 sm;refine⟨_,Z,_,Z,zx (sm.seq hB) ⟨_,Z,?_⟩⟩;dsimp only at hN';cases c:decide (v∈ys)with
  |true=>rw[c]at hN';exact cX hN'
  |false=>rw[c]at hN';exact iM ⟨_,Z,hN'⟩
 ·have e:(xs.map V.int).filterMap (λx=>match x with |.int v=>if !decide (v∈ys)then some (V.int v)else none|_=>none)=(nY xs ys).map V.int:=Eu λv _=>rfl;rw[e]at hp;exact q _ _ _ sm hp
end
inductive a1j(K:aH)(vs:List V)(H:Hp)(Q:VK)(u_3:XK):Prop
 |mk (a b:Addr) (xs ys:List Int) (_:vs=[.ref a,.ref b]) (_:bC K H a (xs.map V.int)) (_:cO K H b (ys.map V.int)) (_:xs.length<=1000) (_:∀H0 p H',aK H H0->gP H0 p (.lst ((nY xs ys).map V.int)) H'->Q (.ref p) H')
theorem Sw(v:Int):∀ys:List Int,inV (.int v) (ys.map V.int)=decide (v∈ys)
 | []=>rfl
 |y::r=>by
  have ih:=Sw v r
  unfold inV at ih ⊢
  rw[bV,tR,ih,tO,Bool.or_eq_true,fB,fB,cB]
  have:ĉ (V.int y) (V.int v)=decide (y=v):=rfl
  grind
def Z2(ys:List Int):(ys.map V.int).all Ci=true:=IK.mpr λx hx=>by
 obtain⟨y,_,rfl⟩:=dW.mp hx;rfl
section
variable{K:aH}
def Ŗ(B:Bl mg)(mO:Dn K mg "less" sI jU):bw P w K mg base fX 1 mO.f mO.fd jU (a1j K):=by
 exists mO.F.ok Yl;obtain⟨a,b,xs,ys,rfl,hA,hB,hz,q⟩:=h;refine⟨_,(aD (bF (jT ["v","other"] [none,some 1]  (by kernel_rfl) Z (fC (K:=K) Z (pv 0)) (λ_ _ _ _ _=>(aN 0 (show(["v","other"]:List Str).Nodup by decide))) (λ_ _ _ _ _=>(wO (aP (VN (K:=K) Z) (pv 0) (pv 1) (by with_unfolding_all rfl)))) λ_ _ _ _ _=>(pv 0)))),⟨_,Z,a,Z,⟨_,hA⟩,Qf (λx=>match x with |.int v=>if !decide (v∈ys)then some (.int v)else none|_=>none) hA () (λx H1 N hx sm hN=>?_) λH1 p H1' sm hp=>?_⟩⟩
 ·obtain⟨v,hv,rfl⟩:=dW.mp hx;have hN':=hN H1 sm;refine⟨_,Z,_,Z,b,_,Z,.inr (sm.wR hB),Z,Z2 _,_,Z,?_⟩;rw[aF Z,Sw];dsimp only at hN';cases c:decide (v∈ys)with
  |true=>rw[c]at hN';exact cX hN'
  |false=>rw[c]at hN';exact iM ⟨_,Z,hN'⟩
 ·have e:(xs.map V.int).filterMap (λx=>match x with |.int v=>if !decide (v∈ys)then some (V.int v)else none|_=>none)=(nY xs ys).map V.int:=Eu λv _=>rfl;rw[e]at hp;exact q _ _ _ sm hp
end
def bw.either{K:aH}{CX:TJ}{k:Nat}{f:Addr}{fd:FuncData}{ps:List Str}{sp sp':Sp}(F:bw P w K mg base CX k f fd ps sp)(G:bw P w K mg base CX k f fd ps sp'):bw P w K mg base CX k f fd ps (λvs H Q E=>sp vs H Q E\/sp' vs H Q E) :=
 ⟨λvs H Q E h=>h.elim (F.len vs H Q E) (G.len vs H Q E),λA outer s H args us vs Q E hr he hb hv hs=>hs.elim (F.run A outer s H args us vs Q E hr he hb hv) (G.run A outer s H args us vs Q E hr he hb hv)⟩
def Ym(s t:Int×Int):PyData.eqv (yu s) (yu t)=decide (s=t):=by
 unfold yu;rw[PyData.eqv];have e:=PySem.W.ked_eqvAll [s.1,s.2] [t.1,t.2];grind
def a1k(ts:List bW)(t:Int×Int):(ts.map yu).any (λe=>PyData.eqv e (yu t))=decide (t∈ts):=by
 rw[List.any_map];rw[tO,List.any_eq_true,fB];constructor
 ·rintro⟨s,hs,e⟩;have:PyData.eqv (yu s) (yu t)=true:=e;rw[Ym]at this;grind
 ·intro h;exact⟨t,h,by show PyData.eqv (yu t) (yu t)=true;rw[Ym];simp⟩
def Wt(t:Int×Int):SeqAt.shaped (yu t)=true:=by
 unfold SeqAt.shaped;rw[Xq,Jc];exact bL (by have:=MF t;omega)
abbrev fQ:Stmt:=top 15
def qR:bD ["graph","done","step","used","kind","bag","v"] CZ (aB fQ):={}
noncomputable def qd(n:Nat)(ts:List bW)(done:List bZ)(s:bZ)(used:List (List Int)):Option (List Int) :=
 match s with
 |.leaf=>some []
 |.inn v=>if(0<=v/\v<(n:Int))/\v∉used.getD 0 []/\bZ.out v∉done then some (fL (used.getD 0 []) [v])else none
 |.tie a b=>if(a,b)∈ts/\nY [a,b] (used.getD 0 [])=[]/\bZ.tie a b∉done then some (used.getD 0 [])else none
 |.out v=>if v∈used.getD 0 []/\bZ.out v∉done then some (nY (used.getD 0 []) [v])else none
 |.join=>if used.getD 0 []=used.getD 1 []then some (used.getD 0 [])else none
def a7I(K:aH)(H:Hp)(ux:List V)(H':Hp)(v:V):Option (List Int)->Prop
 |none=>v=.non
 |some b=>∃p,v=.ref p/\bC K H' p (b.map V.int)/\(H p=none\/V.ref p∈ux)
def Yn{ux:List V}{k:Nat}{v:V}(h:TQ ux (k:Int)=some v):v∈ux:=by
 obtain⟨j,_,e,_⟩:=PX h;exact jf e
inductive a4h(K:aH)(vs:List V)(H:Hp)(Q:VK)(u_3:XK):Prop
 |mk (g:V) (n:Nat) (ts:List bW) (dn st us:Addr) (ds ux:List V) (done:List bZ) (s:bZ) (used:List (List Int)) (_:vs=[g,.ref dn,.ref st,.ref us]) (_:vp K H g n ts) (_:n<=10) (_:bC K H dn ds) (_:Paired (sZ K H) ds done) (_:cO K H st s.vs) (_:bC K H us ux) (_:Paired (Wc K H) ux used) (_:s.need<=used.length) (_:(∀b∈used,Small b/\b.length<=1000)) (_:∀r H',aK H H'->a7I K H ux H' r (qd n ts done s used)->Q r H')
def qU{j:Nat}(hi:i<5)(hj:j<5)(h:i≠j):decide (V.str (Gn i)=V.str (Gn j))=false:=cW λe=>by
 have e':Gn i=Gn j:=by injection e
 have:=JN i hi j hj;grind
def w10:decide (V.str (Str.ofString "in")=V.str (Str.ofString "leaf"))=false:=qU (i:=1) (j:=0) () () ()
def w20:decide (V.str (Str.ofString "tie")=V.str (Str.ofString "leaf"))=false:=qU (i:=2) (j:=0) () () ()
def w21:decide (V.str (Str.ofString "tie")=V.str (Str.ofString "in"))=false:=qU (i:=2) (j:=1) () () ()
def w30:decide (V.str (Str.ofString "out")=V.str (Str.ofString "leaf"))=false:=qU (i:=3) (j:=0) () () ()
def w31:decide (V.str (Str.ofString "out")=V.str (Str.ofString "in"))=false:=qU (i:=3) (j:=1) () () ()
def w32:decide (V.str (Str.ofString "out")=V.str (Str.ofString "tie"))=false:=qU (i:=3) (j:=2) () () ()
def w40:decide (V.str (Str.ofString "join")=V.str (Str.ofString "leaf"))=false:=qU (i:=4) (j:=0) () () ()
def w41:decide (V.str (Str.ofString "join")=V.str (Str.ofString "in"))=false:=qU (i:=4) (j:=1) () () ()
def w42:decide (V.str (Str.ofString "join")=V.str (Str.ofString "tie"))=false:=qU (i:=4) (j:=2) () () ()
def w43:decide (V.str (Str.ofString "join")=V.str (Str.ofString "out"))=false:=qU (i:=4) (j:=3) () () ()
def Sx{K:aH}{H:Hp}{ux:List V}{used:List (List Int)}{k:Nat}(p:Paired (Wc K H) ux used)(h:k<used.length):∃b,TQ ux (k:Int)=some (.ref b)/\bC K H b ((used.getD k []).map V.int)/\used.getD k []∈used:=by
 obtain⟨x,hx,⟨b,rfl,hb⟩⟩:=cM p (bH h);refine⟨b,bR hx,?_,?_⟩
 ·grind
 grind
def yF{K:aH}{H:Hp}{dn st:Addr}{ds:List V}{done:List bZ}{s:bZ}{Q:VK}(hD:bC K H dn ds)(pD:Paired (sZ K H) ds done)(hS:cO K H st s.vs)(q:Q (.bl (!decide (s∈done))) H):VL K true (.ref st) (.ref dn) H Q:=by
 refine⟨s.d,done.map bZ.d,sZ.isD ⟨st,Z,hS⟩,.lst hD (Cw (λ_ _ h=>sZ.isD h) pD),Wm _,uQ _,?_⟩;rw[aF Z,a08];exact q
section
variable{K:aH}
def Ls(B:Bl mg)(jV:Fq K mg)(jy:Dn K mg "is_below" fP uf)(oE:Dn K mg "joint" oV jU)(mO:Dn K mg "less" sI jU)(HJ:Dn K mg "bag_behind" fQ CZ):bw P w K mg base fX 3 HJ.f HJ.fd CZ (a4h K):=by
 have ŗ:bw P w K mg base fX 2 _ _ _ _:=yE B jV jy;have a4f:bw P w K mg base fX 2 _ _ _ _:=(Sg B oE).mono ();have a6n:bw P w K mg base fX 2 _ _ _ _:=(bw.either (ŕ B mO) (Ŗ B mO)).mono ();exists HJ.F.ok qR;obtain⟨g,n,ts,dn,st,us,ds,ux,done,sp,used,rfl,hG,cV,hD,pD,hS,hU,pU,nu,sm,q⟩:=h;have hu:(A.deeper (PyProof.Rows.envOfC "bag_behind" (aB fQ) s⁻¹ HJ.f dz)).units+64<cLine:=by have:=hr.un;omega
 have hv:(A.deeper (PyProof.Rows.envOfC "bag_behind" (aB fQ) s⁻¹ HJ.f dz)).units+65<cLine:=by have:=hr.un;omega
 obtain⟨pg,ta,rfl,hP,hT⟩:=id hG;refine⟨_,(aG (bK 4 qR.nd (aR (aV (K:=K) Z) (pv 2) aA))
   (aG (dZ (aP oH (pv 4) gq)
   (aD (bF (cH aj)))
   bT)
   (aG (bK 5 qR.nd (aR (bA (K:=K) Z) (pv 3) aA))
   (aG (dZ (aP oH (pv 4) gq)
   (aG (bK 6 qR.nd (aR (aV (K:=K) Z) (pv 2) aA))
   (aD (bF (oG (PW.pt (tX (gK (K:=K) Z (bx ŗ hr Z jy.m jy.F.kp jy.b .nil cu (O (aR (aV (K:=K) Z) (pv 0) aA) (O (pv 6) aj))) λ_=>rfl) (tX (aP (jM (K:=K) Z hv) (pv 6) (pv 5) (by with_unfolding_all rfl)) (uK (aP (jM (K:=K) Z hv) (aZ (O gq (O (pv 6) aj))) (pv 1) (by with_unfolding_all rfl)))))) (bx a4f hr Z oE.m oE.F.kp oE.b .nil cu (O (pv 5) (O (cH (O (pv 6) aj)) aj))) sy))))
   bT)
   (aG (dZ (aP oH (pv 4) gq)
   (aD (bF (oG (PW.pt (tX (aP (uM (K:=K) Z hv) (iI (Hv (K:=K) Z) (pv 2) (jL aA) jK) (aR (aV (K:=K) Z) (pv 0) aA) (by with_unfolding_all rfl)) (tX (sE (gK (K:=K) Z (bx a6n hr Z mO.m mO.F.kp mO.b .nil cu (O (iI (Hv (K:=K) Z) (pv 2) (jL aA) jK) (O (pv 5) aj))) λ_=>rfl)) (uK (aP (jM (K:=K) Z hv) (pv 2) (pv 1) (by with_unfolding_all rfl)))))) (pv 5) sy)))
   bT)
   (aG (dZ (aP oH (pv 4) gq)
   (aD (bF (oG (PW.pt (tX (aP (uM (K:=K) Z hv) (aR (aV (K:=K) Z) (pv 2) aA) (pv 5) (by with_unfolding_all rfl)) (uK (aP (jM (K:=K) Z hv) (pv 2) (pv 1) (by with_unfolding_all rfl))))) (bx a6n hr Z mO.m mO.F.kp mO.b .nil cu (O (pv 5) (O (iI (Hv (K:=K) Z) (pv 2) (jL aA) jK) aj))) sy)))
   bT)
   (aD (bF (oG (aP (a0t (K:=K) Z hu) (pv 5) (aR (bA (K:=K) Z) (pv 3) aA)) (pv 5) sy))))))))),?_⟩
 cases sp with
 |leaf =>
  refine⟨_,Z,st,_,_,_,Z,Z,hS,Z,⟨_,Z,Z,_,Z,?_⟩⟩;rw[bL rfl];exact iM ⟨(),λp1 H1 n1=>q _ H1 n1.same ⟨p1,Z,bC.of n1.here,.inl n1.fresh⟩⟩
 |inn v =>
  obtain⟨b0,a0,hb0,m0⟩:=Sx (k:=0) pU nu;obtain⟨sm0,l0⟩:=sm _ m0;refine⟨_,Z,st,_,_,_,Z,Z,hS,Z,⟨_,Z,Z,_,Z,?_⟩⟩;rw[w10];refine cX ⟨_,Z,us,_,_,_,Z,Z,hU,a0,⟨_,Z,Z,_,Z,?_⟩⟩;rw[bL rfl];refine iM ⟨_,Z,st,_,_,_,Z,Z,hS,Z,⟨_,Z,pg,_,_,_,Z,Z,hP,Z,_,Z,(n:Int),some v,Z,_,Z,?_⟩⟩;have eb:oM (n:Int) (some v)=decide (0<=v/\v<(n:Int)):=rfl;rw[eb];have no:∀{H'},aK H H'->¬((0<=v/\v<(n:Int))/\v∉used.getD 0 []/\bZ.out v∉done)->Q .non H':=λs c=>q _ _ s (by
   unfold qd;dsimp only;rw[aq c];exact Z)
  by_cases c1:0<=v/\v<(n:Int)
  ·rw[bL c1];refine iM ⟨_,Z,_,Z,zx hb0 ⟨_,Z,?_⟩⟩;by_cases c2:v∈used.getD 0 []
   ·rw[bL c2];exact cX (cX (no (aK.refl _) λh=>h.2.1 c2))
   ·rw[cW c2];refine iM ⟨_,Z,(),λp2 H2 n2=>?_⟩;refine⟨_,Z,yF (s:=.out v) (n2.same.seq hD) (Paired.cC pD λ_ _ h=>sZ.same n2.same h) (cO.of n2.here) ⟨_,Z,?_⟩⟩;by_cases c3:bZ.out v∈done
    ·rw[bL c3];exact cX (no n2.same λh=>h.2.2 c3)
    ·rw[cW c3];refine iM ⟨_,Z,_,Z,(),λp3 H3 n3=>?_⟩;refine⟨b0,p3,_,[v],Z,(n2.same.trans n3.same).seq hb0,bC.of n3.here,sm0,λx hx=>by rw[bJ.mp hx];omega,λH4 p5 H5 s4 n5=>?_⟩;refine q _ H5 (n2.same.trans (n3.same.trans (s4.trans n5.same))) ?_;unfold qd;dsimp only;rw[aF ⟨c1,c2,c3⟩];exact⟨p5,Z,bC.of n5.here,.inl ((n2.same.trans (n3.same.trans s4)).free n5.fresh)⟩
  ·rw[cW c1];exact cX (cX (no (aK.refl _) λh=>c1 h.1))
 |tie x y =>
  obtain⟨b0,a0,hb0,m0⟩:=Sx (k:=0) pU nu;refine⟨_,Z,st,_,_,_,Z,Z,hS,Z,⟨_,Z,Z,_,Z,?_⟩⟩;rw[w20];refine cX ⟨_,Z,us,_,_,_,Z,Z,hU,a0,⟨_,Z,Z,_,Z,?_⟩⟩;rw[w21];refine cX ⟨_,Z,Z,_,Z,?_⟩;rw[bL rfl];have no:∀{H'},aK H H'->¬((x,y)∈ts/\nY [x,y] (used.getD 0 [])=[]/\bZ.tie x y∉done)->Q .non H':=λs c=>q _ _ s (by
   unfold qd;dsimp only;rw[aq c];exact Z)
  refine iM ⟨_,Z,_,Z,st,_,Z,hS,λh=>absurd h.1 (by show ¬HT.lH 3 0 (some 1)=0;decide),λp1 H1 n1=>?_⟩;refine⟨_,Z,pg,_,_,_,Z,Z,n1.same.wR hP,Z,yu (x,y),ts.map yu,a0y.isD ⟨p1,Z,cO.of n1.here⟩,(hT.same n1.same).isD,Wt _,Rx _,_,Z,?_⟩;rw[aq dB,a1k];by_cases c1:(x,y)∈ts
  ·rw[bL c1];refine iM ⟨_,Z,_,Z,st,_,Z,n1.same.wR hS,λh=>absurd h.1 (by show ¬HT.lH 3 0 (some 1)=0;decide),λp2 H2 n2=>?_⟩;have s2:=n1.same.trans n2.same;refine⟨_,Z,.inl ⟨p2,b0,[x,y],_,Z,cO.of n2.here,s2.seq hb0,(),λH4 p5 H5 s4 n5=>?_⟩⟩;have s5:=s2.trans (s4.trans n5.same);refine⟨_,.inl ⟨_,bC.of n5.here,Z⟩,?_⟩;by_cases c2:nY [x,y] (used.getD 0 [])=[]
   ·rw[c2];refine iM ⟨_,Z,_,Z,yF (s:=.tie x y) (s5.seq hD) (Paired.cC pD λ_ _ h=>sZ.same s5 h) (s5.wR hS) ⟨_,Z,?_⟩⟩;by_cases c3:bZ.tie x y∈done
    ·rw[bL c3];exact cX (no s5 λh=>h.2.2 c3)
    ·rw[cW c3];refine iM ⟨_,Z,q _ H5 s5 ?_⟩;unfold qd;dsimp only;rw[aF ⟨c1,c2,c3⟩];exact⟨b0,Z,s5.seq hb0,.inr (Yn a0)⟩
   ·have e:((nY [x,y] (used.getD 0 [])).map V.int).isEmpty=false:=by
     cases c4:nY [x,y] (used.getD 0 [])with
     |nil=>exact absurd c4 c2
     |cons _ _=>rfl
    rw[e];exact cX (cX (no s5 λh=>c2 h.2.1))
  ·rw[cW c1];exact cX (cX (no n1.same λh=>c1 h.1))
 |out v =>
  obtain⟨b0,a0,hb0,m0⟩:=Sx (k:=0) pU nu;refine⟨_,Z,st,_,_,_,Z,Z,hS,Z,⟨_,Z,Z,_,Z,?_⟩⟩;rw[w30];refine cX ⟨_,Z,us,_,_,_,Z,Z,hU,a0,⟨_,Z,Z,_,Z,?_⟩⟩;rw[w31];refine cX ⟨_,Z,Z,_,Z,?_⟩;rw[w32];refine cX ⟨_,Z,Z,_,Z,?_⟩;rw[bL rfl];have no:∀{H'},aK H H'->¬(v∈used.getD 0 []/\bZ.out v∉done)->Q .non H':=λs c=>q _ _ s (by
   unfold qd;dsimp only;rw[aq c];exact Z)
  refine iM ⟨_,Z,st,_,_,_,Z,Z,hS,Z,_,Z,Ba hb0 ⟨_,Z,?_⟩⟩;by_cases c1:v∈used.getD 0 []
  ·rw[bL c1];refine iM ⟨_,Z,_,Z,yF (s:=.out v) hD pD hS ⟨_,Z,?_⟩⟩;by_cases c2:bZ.out v∈done
   ·rw[bL c2];exact cX (no (aK.refl _) λh=>h.2 c2)
   ·rw[cW c2];refine iM ⟨_,Z,_,Z,_,Z,st,_,Z,hS,λh=>absurd h.1 (by show ¬HT.lH 2 0 (some 1)=0;decide),λp2 H2 n2=>?_⟩;refine .inr ⟨b0,p2,_,[v],Z,n2.same.seq hb0,cO.of n2.here,(sm _ m0).2,λH4 p5 H5 s4 n5=>q _ H5 (n2.same.trans (s4.trans n5.same)) ?_⟩;unfold qd;dsimp only;rw[aF ⟨c1,c2⟩];exact⟨p5,Z,bC.of n5.here,.inl ((n2.same.trans s4).free n5.fresh)⟩
  ·rw[cW c1];exact cX (cX (no (aK.refl _) λh=>c1 h.1))
 |join =>
  obtain⟨b0,a0,hb0,m0⟩:=Sx (k:=0) pU (jC () nu);obtain⟨b1,a1,hb1,m1⟩:=Sx (k:=1) pU (jC () nu);refine⟨_,Z,st,_,_,_,Z,Z,hS,Z,⟨_,Z,Z,_,Z,?_⟩⟩;rw[w40];refine cX ⟨_,Z,us,_,_,_,Z,Z,hU,a0,⟨_,Z,Z,_,Z,?_⟩⟩;rw[w41];refine cX ⟨_,Z,Z,_,Z,?_⟩;rw[w42];refine cX ⟨_,Z,Z,_,Z,?_⟩;rw[w43];refine cX ⟨_,Z,_,Z,us,_,_,_,Z,Z,hU,a1,_,_,.lst hb0 (wQ.ints _),.lst hb1 (wQ.ints _),shaped_ints _,shaped_ints _,_,Z,?_⟩;rw[aq dB,Js];by_cases c:used.getD 0 []=used.getD 1 []
  ·rw[bL c];refine iM ⟨_,Z,q _ H (aK.refl _) ?_⟩;unfold qd;dsimp only;rw[aF c];exact⟨b0,Z,hb0,.inr (Yn a0)⟩
  ·rw[cW c];refine cX (q _ H (aK.refl _) ?_);unfold qd;dsimp only;rw[aq c];exact rfl
end
abbrev Gq:Stmt:=top 14
def vy:bD ["graph","steps","tops","feeds","pile","k","step","left","bag"] mR (aB Gq):={}
structure RS where
 aQ:List (List Int)
 dG:List (List Nat)
 pile:List Nat
def dR(s:bZ)(r:RS):Nat:=r.pile.length-s.need
def sW(s:bZ)(r:RS):List (List Int):=(r.pile.drop (dR s r)).map λj=>r.aQ.getD j []
noncomputable def rF(n:Nat)(ts:List bW)(ss:List bZ)(k:Nat)(r:RS):Option RS :=
 if(ss.getD k .leaf).need<=r.pile.length then
  (qd n ts (ss.take k) (ss.getD k .leaf) (sW (ss.getD k .leaf) r)).map λb=>⟨r.aQ++[b],r.dG++[r.pile.drop (dR (ss.getD k .leaf) r)],r.pile.take (dR (ss.getD k .leaf) r)++[k]⟩
 else none
def aW(n:Nat)(ts:List bW)(ss:List bZ):Nat->RS×Bool
 |0=>(⟨[],[],[]⟩,true)
 |k+1=>if(aW n ts ss k).2=true then
   match rF n ts ss k (aW n ts ss k).1 with
   |some r=>(r,true)
   |none=>((aW n ts ss k).1,false)
  else((aW n ts ss k).1,false)
def cD(n:Nat)(ts:List bW)(ss:List bZ):RS:=(aW n ts ss ss.length).1
theorem J0{n:Nat}{ts:List bW}{ss:List bZ}{k:Nat}(h:(aW n ts ss k).2=false):∀m,k<=m->aW n ts ss m=((aW n ts ss k).1,false)
 |0,hm=>by
  grind
 |m+1,hm=>by
  by_cases c:k=m+1
  ·grind
  ·have ih:=J0 h m ()
   show(if(aW n ts ss m).2=true then _ else _)=_
   rw[ih]
   rfl
structure a1l(i:Nat)(r:RS):Prop where
 tl:r.aQ.length=i
 fl:r.dG.length=i
 pl:r.pile.length<=i
 lt:∀j∈r.pile,j<i
 sm:∀b∈r.aQ,Small b/\b.length<=1000
 ff:∀f∈r.dG,f.length<=2
def Z4{n:Nat}{ts:List bW}{done:List bZ}{s:bZ}{used:List (List Int)}{b:List Int}(cV:n<=10)(sm:∀b∈used,Small b/\b.length<=1000)(h:qd n ts done s used=some b):Small b/\b.length<=1000:=by
 have g:∀k,Small (used.getD k [])/\(used.getD k []).length<=1000:=λk=>by
  by_cases c:k<used.length
  ·grind
  ·rw[fV,List.getElem?_eq_none ()];exact⟨λx hx=>absurd hx eN,()⟩
 unfold qd at h;cases s with
 |leaf =>
  have:b=[]:=(eO h).symm;subst this;exact⟨λx hx=>absurd hx eN,()⟩
 |inn v =>
  dsimp only at h;split at h
  ·rw[<-eO h];refine⟨λx hx=>?_,?_⟩
   ·obtain⟨h1,h2,_⟩:=zE.mp hx;exact⟨h1,h2⟩
   ·unfold fL Rc;grind
  ·cases h
 |tie x y =>
  grind
 |out v =>
  dsimp only at h;split at h
  ·rw[<-eO h];exact⟨λx hx=>(g 0).1 x (lF.mp hx).1,dI (Ea _ _) (g 0).2⟩
  ·cases h
 |join =>
  grind
theorem jA{n:Nat}{ts:List bW}{ss:List bZ}(cV:n<=10):∀{i:Nat},(aW n ts ss i).2=true->a1l i (aW n ts ss i).1
 |0,_=>⟨Z,Z,aL _,λj h=>absurd h eN,λb h=>absurd h eN,λb h=>absurd h eN⟩
 |i+1,h=>by
  have e:aW n ts ss (i+1)=if(aW n ts ss i).2=true then
   (match rF n ts ss i (aW n ts ss i).1 with
   |some r=>(r,true)
   |none=>((aW n ts ss i).1,false))
  else((aW n ts ss i).1,false):=rfl
  rw[e]at h ⊢
  by_cases c:(aW n ts ss i).2=true
  ·have I:=jA cV c
   rw[aF c]at h ⊢
   cases d:rF n ts ss i (aW n ts ss i).1 with
   |none=>grind
   |some r =>
    dsimp only
    unfold rF at d
    split at d
    ·obtain⟨b,hb,er⟩:=lC.mp d
     rw[<-er]
     have sb:=Z4 cV (λx hx=>by
      obtain⟨j,hj,e⟩:=dW.mp hx
      have jl:=I.lt j (Ah hj)
      rw[<-e,fV,bH (by rw[I.tl];exact jl)]
      exact I.sm _ (qx _)) hb
     refine⟨?_,?_,?_,λj hj=>?_,λx hx=>?_,λf hf=>?_⟩
     ·show(_++[b]).length=_
      rw[cA,I.tl];rfl
     ·show(_++[_]).length=_
      rw[cA,I.fl];rfl
     ·show(_++[i]).length<=_
      rw[cA,d7]
      have:=I.pl
      show min _ _+1<=_
      omega
     ·rcases cJ.mp hj with hj|hj
      ·have:=I.lt j (m9 hj)
       omega
      grind
     ·rcases cJ.mp hx with hx|hx
      ·exact I.sm x hx
      grind
     ·rcases cJ.mp hf with hf|hf
      ·exact I.ff f hf
      ·rw[bJ.mp hf,j6]
       unfold dR
       have:(ss.getD i .leaf).need<=2:=by cases ss.getD i .leaf<;>simp[bZ.need]
       omega
    ·cases d
  grind
def Ř{n:Nat}{ts:List bW}{ss:List bZ}{r:RS}(c:(aW n ts ss i).2=true)(d:rF n ts ss i (aW n ts ss i).1=some r):aW n ts ss (i+1)=(r,true):=by
 show(if(aW n ts ss i).2=true then _ else _)=_;grind
def a1m{n:Nat}{ts:List bW}{ss:List bZ}(il:i<ss.length)(c:(aW n ts ss i).2=true)(d:rF n ts ss i (aW n ts ss i).1=none):cD n ts ss=(aW n ts ss i).1:=by
 have e:aW n ts ss (i+1)=((aW n ts ss i).1,false):=by
  show(if(aW n ts ss i).2=true then _ else _)=_;grind
 unfold cD;rw[J0 (k:=i+1) (by rw[e]) ss.length il,e]
abbrev uF(l:List Nat):List V:=l.map λ(x:Nat)=>V.int (x:Int)
theorem J3:∀{m:Nat}{l:List Nat},l.Nodup->(∀x∈l,x<m)->l.length<=m
 |0,l,_,lt=>by
  cases l with
  |nil=>grind
  |cons x r=>exact absurd (lt x aO) (Ao _)
 |m+1,l,nd,lt=>by
  have ih:=J3 (m:=m) (nd.erase m) λx hx=>by
   grind
  grind
def xK(ex:List Addr)(K:aH)(H:Hp)(v:V)(b:List Int):Prop:=∃p,v=.ref p/\bC K H p (b.map V.int)/\p∉ex
def xK.same{K:aH}{H H':Hp}{v:V}{b:List Int}(s:aK H H')(h:xK ex K H v b):xK ex K H' v b:=by
 obtain⟨p,e,q,n⟩:=h;exact⟨p,e,s.seq q,n⟩
def xK.l{K:aH}{H:Hp}{v:V}{b:List Int}(h:xK ex K H v b):Wc K H v b:=by
 obtain⟨p,e,q,n⟩:=h;exact⟨p,e,q⟩
def a1n{K:aH}{H H':Hp}{p:Addr}{o:HO}{xs:List V}(c:vo H a o H')(n:p≠a)(h:bC K H p xs):bC K H' p xs:=by
 rcases h with h|h
 ·refine .inl ?_;rcases h with h|⟨u,h⟩
  ·exact .inl ((c.rest p n).trans h)
  ·exact .inr ⟨u,(c.rest p n).trans h⟩
 ·exact .inr h
def xK.chg{K:aH}{H H':Hp}{o:HO}{v:V}{b:List Int}(c:vo H a o H')(ha:a∈ex)(h:xK ex K H v b):xK ex K H' v b:=by
 obtain⟨p,e,q,n⟩:=h;exact⟨p,e,a1n c (λz=>n (z▸ha)) q,n⟩
def Bj(ex:List Addr)(H:Hp)(q:Addr)(f:List Nat):Prop:=H q=some (.lst (uF f))/\q∉ex
def Bj.same{H H':Hp}{q:Addr}{f:List Nat}(s:aK H H')(h:Bj ex H q f):Bj ex H' q f:=⟨s _ _ h.1,h.2⟩
def Bj.chg{H H':Hp}{o:HO}{q:Addr}{f:List Nat}(c:vo H a o H')(ha:a∈ex)(h:Bj ex H q f):Bj ex H' q f:=⟨(c.rest q λz=>h.2 (z▸ha)).trans h.1,h.2⟩
def Sy(xs:List V)(k:Nat)(h:k<=xs.length):vg xs none (some (k:Int))=xs.take k:=by
 unfold vg;have e1:HT.lH xs.length xs.length (some (k:Int))=k:=by
  show min _ _=k;simp;omega
 have e2:HT.lH xs.length 0 none=0:=rfl;rw[e1,e2,Vd,Ax]
def SJ(xs:List V)(k:Nat)(h:k<=xs.length):vg xs (some (k:Int)) none=xs.drop k:=by
 unfold vg;have e1:HT.lH xs.length 0 (some (k:Int))=k:=by
  show min _ _=k;grind
 have e2:HT.lH xs.length xs.length none=xs.length:=rfl;rw[e1,e2,Il (by rw[j6];omega)]
theorem J4{α β:Type}{R:α->β->Prop}:∀{xs:List α}{ys:List β} (i:Nat),Paired R xs ys->Paired R (xs.take i) (ys.take i)
 |_,_,0,_=>.nil
 |_,_,_+1,.nil=>.nil
 |_,_,i+1,.cons q r=>.cons q (J4 i r)
def a7J(ex:List Addr)(K:aH)(H:Hp)(v:V):Option (List Int)->Prop
 |none=>v=.non
 |some b=>xK ex K H v b
theorem M7{ex:List Addr}{K:aH}{H:Hp}{vt:List V}{aQ:List (List Int)}(p:Paired (xK ex K H) vt aQ):∀l:List Nat,(∀j∈l,j<aQ.length)->Paired (Wc K H) (l.map λj=>vt.getD j .non) (l.map λj=>aQ.getD j [])
 | [],_=>.nil
 |j::r,h=>by
  have jl:=h j aO
  obtain⟨x,hx,hb⟩:=cM p (bH jl)
  refine .cons ?_ (M7 p r λi hi=>h i (aY _ hi))
  dsimp only
  rw[fV,hx,fV,bH jl]
  exact hb.l
inductive a6o(K:aH)(vs:List V)(H:Hp)(Q:VK)(u_3:XK):Prop
 |mk (g:V) (n:Nat) (ts:List bW) (a:Addr) (xs:List V) (ss:List bZ) (_:vs=[g,.ref a]) (_:vp K H g n ts) (_:n<=10) (_:bC K H a xs) (_:Paired (sZ K H) xs ss) (_:ss.length<=900) (_:∀r pt pf pp vt fs H',aK H H'->H' r=some (.tup [.ref pt,.ref pf,.ref pp])->H pt=none->H pf=none->H pp=none->H' pt=some (.lst vt)->H' pf=some (.lst (fs.map V.ref))->Bj [pt,pf] H' pp (cD n ts ss).pile->Paired (xK [pt,pf] K H') vt (cD n ts ss).aQ->Paired (Bj [pt,pf] H') fs (cD n ts ss).dG->Q (.ref r) H')
section
variable{K:aH}
def a4i(B:Bl mg)(U:Used w K mg)(jV:Fq K mg)(jy:Dn K mg "is_below" fP uf)(oE:Dn K mg "joint" oV jU)(mO:Dn K mg "less" sI jU)(HJ:Dn K mg "bag_behind" fQ CZ)(vX:Dn K mg "run" Gq mR):bw P w K mg base fX 4 vX.f vX.fd mR (a6o K):=by
 have gZ9:bw P w K mg base fX 3 _ _ _ _:=Ls B jV jy oE mO HJ;exists vX.F.ok vy;obtain⟨g,n,ts,a,xs,ss,rfl,hG,cV,hA,pA,a6p,q⟩:=h;have lx:=aM pA;refine⟨_,(aG (bK 2 vy.nd (cH aj))
   (aG (bK 3 vy.nd (cH aj))
   (aG (bK 4 vy.nd (cH aj))
   (aG (jo iR Z (a0x (K:=K) Z Z B.enumerate (O (pv 1) aj)) (jN (K:=K) (n:=2) Z Z (b8 (aN 5 vy.nd) (b8 (aN 6 vy.nd) jz)))
   (aG (bK 7 vy.nd (bQ Vm (bh (cG (K:=K) Z) Z B.len () (O (pv 4) aj)) (a0V U Z (aR (aV (K:=K) Z) (pv 6) aA) λ_ _=>rfl)))
   (aG (bK 8 vy.nd sy)
   (qP (dZ (aP a5n (pv 7) aA)
   (aD (bK 8 vy.nd (bx gZ9 hr Z HJ.m HJ.F.kp HJ.b .nil cu (O (pv 0) (O (iI (yr (K:=K) Z) (pv 1) jK (jL (pv 5))) (O (pv 6) (O (jT ["j","tops"] [none,some 2]  (by kernel_rfl) Z (fC (K:=K) Z (iI (yr (K:=K) Z) (pv 4) (jL (pv 7)) jK)) (λ_ _ _ _ _=>(aN 0 (show(["j","tops"]:List Str).Nodup by decide))) (λ_ _ _ _ _=>gA) λ_ _ _ _ _=>(aR (bA (K:=K) Z) (pv 1) (pv 0))) aj)))))))
   bT)
   (aG (dZ (aP Ā (pv 8) sy)
   (aD û)
   bT)
   (aG (gJ (oK (K:=K) Z kZ PySem.F.slot_list_append PySem.F.type_list_append jO (pv 2) (O (pv 8) aj)))
   (aG (gJ (oK (K:=K) Z kZ PySem.F.slot_list_append PySem.F.type_list_append jO (pv 3) (O (iI (yr (K:=K) Z) (pv 4) (jL (pv 7)) jK) aj)))
   (aD (bK 4 vy.nd (bQ qQ (iI (yr (K:=K) Z) (pv 4) jK (jL (pv 7))) (cH (O (pv 5) aj))))))))))))
   (aD (bF (aZ (O (pv 2) (O (pv 3) (O (pv 4) aj)))))))))),?_⟩
 refine⟨(),λp1 H1 n1=>⟨(),λp2 H2 n2=>⟨(),λp3 H3 n3=>?_⟩⟩⟩;have s3:=n1.same.trans (n2.same.trans n3.same);have f1:H p1=none:=n1.fresh;have f2:H p2=none:=n1.same.free n2.fresh;have f3:H p3=none:=n1.same.free (n2.same.free n3.fresh);have n12:p1≠p2:=n2.ne n1.here;have n13:p3≠p1:=(n3.ne (n2.same _ _ n1.here)).symm;have n23:p3≠p2:=(n3.ne n2.here).symm;have ret:∀{H':Hp}{pp:Addr}{vt:List V}{fs:List Addr}{a5 a6 a7 a8:Option V},aK H H'->H pp=none->H' p1=some (.lst vt)->H' p2=some (.lst (fs.map V.ref))->Bj [p1,p2] H' pp (cD n ts ss).pile->Paired (xK [p1,p2] K H') vt (cD n ts ss).aQ->Paired (Bj [p1,p2] H') fs (cD n ts ss).dG->a5d (Ru (Jm (ù 2) (Jm (ù 3) (Jm (ù 4) a0i)))) { nx:=λx H'=>Q V.non H',rt:=Q} [some g,some (.ref a),some (.ref p1),some (.ref p2),some (.ref pp),a5,a6,a7,a8] H':=λ{H' pp vt fs a5 a6 a7 a8} s fp h1 h2 h3 h4 h5=>by
  refine⟨_,Z,_,Z,_,Z,(),λpr Hr nr=>?_⟩;exact q pr p1 p2 pp vt fs Hr (s.trans nr.same) nr.here f1 f2 fp (nr.same _ _ h1) (nr.same _ _ h2) (h3.same nr.same) (Paired.cC h4 λ_ _ h=>h.same nr.same) (Paired.cC h5 λ_ _ h=>h.same nr.same)
 refine⟨_,Z,a,Z,⟨_,s3.seq hA⟩,opq (P:=λi σ H'=>∃(vt:List V) (fs:List Addr) (pp:Addr) (a5 a6 a7 a8:Option V),σ=[some g,some (.ref a),some (.ref p1),some (.ref p2),some (.ref pp),a5,a6,a7,a8]/\aK H H'/\H' p1=some (.lst vt)/\H' p2=some (.lst (fs.map V.ref))/\(aW n ts ss i).2=true/\H pp=none/\Bj [p1,p2] H' pp (aW n ts ss i).1.pile/\Paired (xK [p1,p2] K H') vt (aW n ts ss i).1.aQ/\Paired (Bj [p1,p2] H') fs (aW n ts ss i).1.dG) λZ97 ji ij=>?_⟩;refine Ę (xs:=xs) Z97 (ji _ _ _ ⟨[],[],p3,none,none,none,none,Z,s3,n3.same _ _ (n2.same _ _ n1.here),n3.same _ _ n2.here,Z,f3,⟨n3.here,by simp[n13,n23]⟩,.nil,.nil⟩) (λi σ H' _ h=>by
  obtain⟨_,_,_,_,_,_,_,_,s,_⟩:=ij _ _ _ h;exact s.seq hA) ?_ ?_
 ·intro i x σ H4 pz H5 hi hJ nz;obtain⟨vt,fs,pp,a5,a6,a7,a8,rfl,s4,h1,h2,go,fp,DW,pv,pf⟩:=ij _ _ _ hJ;obtain⟨sp,hsp,⟨ps,rfl,hps⟩⟩:=bf pA hi;have il:i<ss.length:=(fu.mp hsp).1;have esp:ss.getD i .leaf=sp:=by rw[fV,hsp];rfl
  have I:=jA (n:=n) (ts:=ts) (ss:=ss) cV go;obtain⟨R,eR⟩:∃R,R=(aW n ts ss i).1:=⟨_,Z⟩;rw[<-eR]at I DW pv pf;have s5:=s4.trans nz.same;refine⟨pz,_,Z,cO.of nz.here,Z,_,_,Z,_,_,Z,Z,?_⟩;have a6q:=(DW.same nz.same).1;refine⟨_,Z,pp,_,Z,.inl (bC.of a6q),_,Z,ps,_,((0:Nat):Int),_,Z,Z,s5.wR hps,uP sp,.inr sp.word,_,Z,a07 sp,_,_,Z,Z,?_⟩;dsimp only;rw[aJ];obtain⟨lf,elf⟩:∃lf:Int,((R.pile.length:Nat):Int)-((sp.need:Nat):Int)=lf:=⟨_,Z⟩;rw[elf];refine⟨λσ' H'=>∃bv:V,σ'=[some g,some (.ref a),some (.ref p1),some (.ref p2),some (.ref pp),some (.int (i:Int)),some (.ref ps),some (.int lf),some bv]/\aK H5 H'/\((sp.need<=R.pile.length/\a7J [p1,p2] K H' bv (qd n ts (ss.take i) sp (sW sp R)))\/(¬sp.need<=R.pile.length/\bv=.non)),?_,?_⟩
  ·refine⟨_,Z,_,_,Z,Z,_,Z,zP (λc=>?_) λc=>⟨.non,Z,aK.refl _,.inr ⟨?_,Z⟩⟩⟩
   ·have c':(0:Int)<=lf:=gj c;have nl:sp.need<=R.pile.length:=()
    have el:lf=((dR sp R:Nat):Int):=by unfold dR;omega
    have ll:dR sp R<=R.pile.length:=by unfold dR;omega
    rw[el];refine⟨_,Z,_,Z,_,Z,_,Z,a,_,Z,s5.seq hA,λp6 H6 n6=>?_⟩;rw[Sy _ _ ()]at n6;refine⟨_,Z,_,Z,_,Z,_,Z,pp,_,Z,bC.of (n6.same _ _ a6q),λp7 H7 n7=>?_⟩;rw[SJ _ _ (by rw[aJ];exact ll)]at n7;have s57:=n6.same.trans n7.same;have ed:(uF R.pile).drop (dR sp R)=uF (R.pile.drop (dR sp R)):=by unfold uF;rw[Vg]
    rw[ed]at n7;have h17:=s57 _ _ (nz.same _ _ h1);have lv:=aM pv;have jt:∀j∈R.pile.drop (dR sp R),j<R.aQ.length:=λj hj=>by rw[I.tl];exact I.lt j (Ah hj)
    refine⟨p7,Z,⟨_,bC.of n7.here⟩,?_⟩;refine Qf (λv=>match v with |.int z=>some (vt.getD z.toNat .non)|_=>none) (bC.of n7.here) (by rw[aJ,j6];have:=I.pl;omega) (λv H8 N hv8 s8 hN=>?_) (λH8 p9 H9 s8 n9=>?_)
    ·obtain⟨j,hj,rfl⟩:=dW.mp hv8;have jl:j<vt.length:=by rw[lv];exact jt j hj
     have hN':=hN H8 s8;dsimp only at hN';rw[jD]at hN';refine⟨_,Z,_,Z,p1,_,_,_,Z,Z,bC.of (s8 _ _ h17),bR (bH jl),?_⟩;rw[fV,bH jl]at hN';exact hN'
    have e9:(uF (R.pile.drop (dR sp R))).filterMap (λv=>match v with |.int z=>some (vt.getD z.toNat .non)|_=>none)=(R.pile.drop (dR sp R)).map λj=>vt.getD j .non:=by
     unfold uF;rw[Uw];refine(Cv λj _=>?_);show some (vt.getD ((j:Int)).toNat V.non)=_;rw[jD]
    rw[e9]at n9;have s59:=s57.trans (s8.trans n9.same);have s69:=n7.same.trans (s8.trans n9.same);have pv9:=Paired.cC pv λ_ _ h=>h.same (nz.same.trans s59);refine⟨g,n,ts,p6,ps,p9,xs.take i,_,ss.take i,sp,sW sp R,Z,(hG.same s5).same s59,cV,bC.of (s69 _ _ n6.here),J4 i (Paired.cC pA λ_ _ h=>(h.same s5).same s59),(s5.trans s59).wR hps,bC.of n9.here,M7 pv9 _ jt,?_,λb hb=>?_,λr à s10 bn=>?_⟩
    ·unfold sW;rw[aJ,j6];unfold dR;omega
    ·obtain⟨j,hj,rfl⟩:=dW.mp hb;rw[fV,bH (jt j hj)];exact I.sm _ (qx _)
    refine⟨r,Z,s59.trans s10,.inl ⟨nl,?_⟩⟩;cases eb:qd n ts (ss.take i) sp (sW sp R)with
    |none=>rw[eb]at bn;exact bn
    |some b =>
     rw[eb]at bn;obtain⟨p,e,hp,h⟩:=bn;refine⟨p,e,hp,?_⟩;rcases h with h|h
     ·have k1:H9 p1=some (.lst vt):=s59 _ _ (nz.same _ _ h1);have k2:H9 p2=some (.lst (fs.map V.ref)):=s59 _ _ (nz.same _ _ h2);intro hm;rcases cB.mp hm with hm|hm
      ·rw[hm,k1]at h;cases h
      ·rw[bJ.mp hm,k2]at h;cases h
     ·obtain⟨j,hj,ej⟩:=dW.mp h;have jl:j<vt.length:=by rw[lv];exact jt j hj
      obtain⟨b',_,⟨p',e',_,np⟩⟩:=bf pv (bH jl);rw[fV,bH jl,U7,e']at ej;injection ej with ej
      rw[<-ej];exact np
   ·have c':¬(0:Int)<=lf:=Ux (xZ.mpr c);omega
  rintro σ' H6 ⟨bv,rfl,s6,wb⟩;have s46:=nz.same.trans s6;have h16:=s46 _ _ h1;have h26:=s46 _ _ h2;have a6r:=DW.same s46;have pv6:=Paired.cC pv λ_ _ h=>h.same s46;have pf6:=Paired.cC pf λ_ _ h=>h.same s46;have sH6:=s4.trans s46;have stop:bv=.non->rF n ts ss i R=none:=λe=>by
   unfold rF;rw[esp];rcases wb with⟨nl,w⟩|⟨nl,_⟩
   ·rw[aF nl];cases eb:qd n ts (ss.take i) sp (sW sp R)with
    |none=>rfl
    |some b =>
     rw[eb]at w;obtain⟨p,e',_⟩:=w;rw[e]at e';cases e'
   ·rw[aq nl]
  refine⟨_,Z,Z,_,Z,?_⟩;by_cases cn:bv=.non
  ·rw[bL cn];refine iM ?_;have ee:=a1m il go (by rw[<-eR];exact stop cn);rw[<-eR]at ee;refine ret sH6 fp h16 h26 ?_ ?_ ?_
   ·rw[ee];exact a6r
   ·rw[ee];exact pv6
   ·rw[ee];exact pf6
  ·rw[cW cn];refine cX ?_;obtain⟨nl,b,eb,p,rfl,hp,np⟩:sp.need<=R.pile.length/\∃b,qd n ts (ss.take i) sp (sW sp R)=some b/\xK [p1,p2] K H6 bv b:=by
    rcases wb with⟨nl,w⟩|⟨_,e⟩
    ·refine⟨nl,?_⟩;cases eb:qd n ts (ss.take i) sp (sW sp R)with
     |none=>rw[eb]at w;exact absurd w cn
     |some b=>rw[eb]at w;exact⟨b,Z,w⟩
    ·exact absurd e cn
   have el:lf=((dR sp R:Nat):Int):=by unfold dR;omega
   have ll:dR sp R<=R.pile.length:=by unfold dR;omega
   rw[el];have lv:=aM pv;have lff:=aM pf;have tl:=I.tl;have fl:=I.fl;have pl:=I.pl;have es:rF n ts ss i R=some ⟨R.aQ++[b],R.dG++[R.pile.drop (dR sp R)],R.pile.take (dR sp R)++[i]⟩:=by
    unfold rF;rw[esp,aF nl,eb];rfl
   have er:=Ř go (by rw[<-eR];exact es);have m1:p1∈[p1,p2]:=aO;have m2:p2∈[p1,p2]:=aY _ (bJ.mpr Z);refine⟨_,Z,.inl ⟨Z,_,bC.of h16⟩,_,Z,p1,vt,_,Z,Z,h16,(),λH7 c7=>?_⟩;have h27:H7 p2=some (.lst (fs.map V.ref)):=(c7.rest p2 (Ne.symm n12)).trans h26;have a6s:=a6r.chg c7 m1;refine⟨_,Z,.inl ⟨Z,_,bC.of h27⟩,_,Z,_,Z,_,Z,pp,_,Z,bC.of a6s.1,λp8 H8 n8=>?_⟩;rw[SJ _ _ (by rw[aJ];exact ll),show(uF R.pile).drop (dR sp R)=uF (R.pile.drop (dR sp R)) by unfold uF;rw[Vg]]at n8;have h28:=n8.same _ _ h27;refine⟨p2,_,_,Z,Z,h28,by rw[aJ];omega,λH9 c9=>?_⟩;have n81:p8∉[p1,p2]:=λhm=>by
    have f8:=n8.fresh;rcases cB.mp hm with hm|hm
    ·rw[hm,c7.here]at f8;cases f8
    ·rw[bJ.mp hm,h27]at f8;cases f8
   have h19:H9 p1=some (.lst (vt++[.ref p])):=(c9.rest p1 n12).trans (n8.same _ _ c7.here);have a7K:=(a6s.same n8.same).chg c9 m2;refine⟨_,Z,_,Z,_,Z,pp,_,Z,bC.of a7K.1,λp10 à uG=>?_⟩;rw[Sy _ _ (by rw[aJ];exact ll),show(uF R.pile).take (dR sp R)=uF (R.pile.take (dR sp R)) by unfold uF;rw[Vh]]at uG;refine⟨_,Z,(),λp11 H11 Ft=>?_⟩;refine⟨p10,p11,_,_,Z,Z,Ft.same _ _ uG.here,Ft.here,by rw[aJ,d7];show min _ _+1<=1000;omega,λp12 Wu a1o=>?_⟩;have J5:=uG.same.trans (Ft.same.trans a1o.same);have sH9:aK H H9:=((sH6.chg f1 c7).trans n8.same).chg f2 c9;have f12:H p12=none:=sH9.free (uG.same.free (Ft.same.free a1o.fresh));refine ji _ _ _ ⟨vt++[.ref p],fs++[p8],p12,_,_,_,_,Z,sH9.trans J5,J5 _ _ h19,?_,by rw[er],f12,?_,?_,?_⟩
   ·have:=J5 _ _ c9.here;rw[this,dH];rfl
   ·rw[er];refine⟨?_,λhm=>?_⟩
    ·rw[a1o.here];unfold uF;rw[dH];rfl
    ·have g:=a1o.fresh;rcases cB.mp hm with hm|hm
     ·rw[hm,Ft.same _ _ (uG.same _ _ h19)]at g;cases g
     ·rw[bJ.mp hm,Ft.same _ _ (uG.same _ _ c9.here)]at g;cases g
   ·rw[er];exact cZ (Paired.cC pv6 λ_ _ h=>(((h.chg c7 m1).same n8.same).chg c9 m2).same J5) ((((xK.chg c7 m1 ⟨p,Z,hp,np⟩).same n8.same).chg c9 m2).same J5)
   ·rw[er];exact cZ (Paired.cC pf6 λ_ _ h=>(((h.chg c7 m1).same n8.same).chg c9 m2).same J5) ((Bj.chg c9 m2 ⟨n8.here,n81⟩).same J5)
 ·intro σ H4 hJ;obtain⟨vt,fs,pp,a5,a6,a7,a8,rfl,s4,h1,h2,go,fp,DW,pv,pf⟩:=ij _ _ _ hJ;rw[lx]at DW pv pf;exact ret s4 fp h1 h2 DW pv pf
end
abbrev eZ:Stmt:=top 16
def mX:bD ["graph","steps","tops","pile","v","a","b"] Gj (aB eZ):={}
inductive a6t where
 |ok
 |step (k:Nat)
 |pile
 |place (v:Nat)
 |tie (a b:Int)
def M8(R:RS):List (List Int):=R.pile.map λj=>R.aQ.getD j []
noncomputable def BX(n:Nat)(ts:List bW)(ss:List bZ)(R:RS):a6t :=
 if R.aQ.length<ss.length then .step R.aQ.length
 else if M8 R=[[]]then
  match(List.range n).find? λ(v:Nat)=>!decide (bZ.inn (v:Int)∈ss)with
  |some v=>.place v
  |none=>match ts.find? λt=>!decide (bZ.tie t.1 t.2∈ss)with
   |some t=>.tie t.1 t.2
   |none=>.ok
 else .pile
def a6u(H:Hp)(v:V):a6t->Prop
 |.ok=>v=.non
 |.step k=>∃p,v=.ref p/\H p=some (.tup [.str "step",.int (k:Int)])
 |.pile=>∃p,v=.ref p/\H p=some (.tup [.str "pile"])
 |.place v'=>∃p,v=.ref p/\H p=some (.tup [.str "place",.int (v':Int)])
 |.tie a b=>∃p,v=.ref p/\H p=some (.tup [.str "tie",.int a,.int b])
def J6(b:List Int):PyData:=.list (b.map PyData.int)
def a1p(b:List Int):(J6 b).canLay0=true:=by
 have h:=shaped_ints b;unfold SeqAt.shaped at h;rw[qw]at h;exact h.1
def Z5(b:List Int):(J6 b).depth<=1:=by
 unfold J6;rw[PyData.depth];have:=vL (k:=0) (f:=PyData.int) (λb=>by simp[PyData.depth]) b;omega
def Gr(bs:List (List Int)):SeqAt.shaped (.list (bs.map J6))=true:=by
 unfold SeqAt.shaped;rw[PyData.canLay0,Hs a1p,PyData.depth,Jc];exact bL (by have:=vL Z5 bs;omega)
theorem SM:∀xs ys:List (List Int),PyData.eqvAll (xs.map J6) (ys.map J6)=decide (xs=ys)
 | [],[]=>by simp[PyData.eqvAll]
 | [],_::_=>by simp[PyData.eqvAll]
 |_::_,[]=>by simp[PyData.eqvAll]
 |x::xs,y::ys=>by
  rw[bV,bV,PyData.eqvAll,SM xs ys,show PyData.eqv (J6 x) (J6 y)=decide (x=y)from Js x y,tO]
  simp
def ř{K:aH}{H:Hp}{v:V}{s:List Int}(h:Wc K H v s):Le K H v (J6 s):=by
 obtain⟨p,rfl,h⟩:=h;exact .lst h (wQ.ints _)
inductive Ś(K:aH)(vs:List V)(H:Hp)(Q:VK)(u_3:XK):Prop
 |mk (g:V) (n:Nat) (ts:List bW) (a pt pp:Addr) (xs vt:List V) (ss:List bZ) (R:RS) (_:vs=[g,.ref a,.ref pt,.ref pp]) (_:vp K H g n ts) (_:n<=10) (_:bC K H a xs) (_:Paired (sZ K H) xs ss) (_:bC K H pt vt) (_:Paired (Wc K H) vt R.aQ) (_:bC K H pp (uF R.pile)) (_:(∀j∈R.pile,j<R.aQ.length)) (_:R.pile.length<=1000) (_:∀r H',aK H H'->a6u H' r (BX n ts ss R)->Q r H')
section
variable{K:aH}
def Gy(B:Bl mg)(uH:Dn K mg "fault_behind" eZ Gj):bw P w K mg base fX 1 uH.f uH.fd Gj (Ś K):=by
 exists uH.F.ok mX;obtain⟨g,n,ts,a,pt,pp,xs,vt,ss,R,rfl,hG,cV,hA,pA,hV,pV,hPp,jl,a6v,q⟩:=h;have hu:(A.deeper (PyProof.Rows.envOfC "fault_behind" (aB eZ) s⁻¹ uH.f dz)).units+64<cLine:=by have:=hr.un;omega
 have hv:(A.deeper (PyProof.Rows.envOfC "fault_behind" (aB eZ) s⁻¹ uH.f dz)).units+65<cLine:=by have:=hr.un;omega
 obtain⟨pg,ta,rfl,hP,hT⟩:=id hG;have lx:=aM pA;have lv:=aM pV;refine⟨_,(aG (dZ (aP Jj (bh (cG (K:=K) Z) Z B.len () (O (pv 2) aj)) (bh (cG (K:=K) Z) Z B.len () (O (pv 1) aj)))
   (aD (bF (aZ (O gq (O (bh (cG (K:=K) Z) Z B.len () (O (pv 2) aj)) aj)))))
   bT)
   (aG (dZ (aP (Hq (K:=K) Z hu) (jT ["k","tops"] [none,some 2]  (by kernel_rfl) Z (fC (K:=K) Z (pv 3)) (λ_ _ _ _ _=>(aN 0 (show(["k","tops"]:List Str).Nodup by decide))) (λ_ _ _ _ _=>gA) λ_ _ _ _ _=>(aR (bA (K:=K) Z) (pv 1) (pv 0))) (cH (O (cH aj) aj)))
   (aD (bF (aZ (O gq aj))))
   bT)
   (aG (jo iR Z (iY Z B.range (O (aR (aV (K:=K) Z) (pv 0) aA) aj)) (aN 4 mX.nd)
   (aD (dZ (aP (jM (K:=K) Z hv) (aZ (O gq (O (pv 4) aj))) (pv 1) (by with_unfolding_all rfl))
   (aD (bF (aZ (O gq (O (pv 4) aj)))))
   bT)))
   (aG (jo iR Z (fC (K:=K) Z (aR (aV (K:=K) Z) (pv 0) aA)) (jN (K:=K) (n:=2) Z Z (b8 (aN 5 mX.nd) (b8 (aN 6 mX.nd) jz)))
   (aD (dZ (aP (jM (K:=K) Z hv) (aZ (O gq (O (pv 5) (O (pv 6) aj)))) (pv 1) (by with_unfolding_all rfl))
   (aD (bF (aZ (O gq (O (pv 5) (O (pv 6) aj))))))
   bT)))
   (aD (bF sy)))))),?_⟩
 refine⟨_,Z,pt,_,Z,.inl hV,_,Z,a,_,Z,.inl hA,_,_,Z,Z,_,Z,?_⟩;rw[lv,lx];by_cases c1:R.aQ.length<ss.length
 ·rw[bL (show((R.aQ.length:Nat):Int)<((ss.length:Nat):Int) by omega)];refine iM ⟨_,Z,pt,_,Z,.inl hV,(),λp1 H1 n1=>q _ H1 n1.same ?_⟩;unfold BX;rw[aF c1];rw[lv]at n1;exact⟨p1,Z,n1.here⟩
 ·rw[cW (show ¬((R.aQ.length:Nat):Int)<((ss.length:Nat):Int) by omega)];refine cX ⟨_,Z,pp,Z,⟨_,hPp⟩,?_⟩;refine Qf (λv=>match v with |.int z=>some (vt.getD z.toNat .non)|_=>none) hPp (by rw[aJ];exact a6v) (λv H8 N hv8 s8 hN=>?_) (λH8 p9 H9 s8 n9=>?_)
  ·obtain⟨j,hj,rfl⟩:=dW.mp hv8;have jv:j<vt.length:=by rw[lv];exact jl j hj
   have hN':=hN H8 s8;dsimp only at hN';rw[jD]at hN';refine⟨_,Z,_,Z,pt,_,_,_,Z,Z,s8.seq hV,bR (bH jv),?_⟩;rw[fV,bH jv]at hN';exact hN'
  have e9:(uF R.pile).filterMap (λv=>match v with |.int z=>some (vt.getD z.toNat .non)|_=>none)=R.pile.map λj=>vt.getD j .non:=by
   unfold uF;rw[Uw];refine(Cv λj _=>?_);show some (vt.getD ((j:Int)).toNat V.non)=_;rw[jD]
  rw[e9]at n9;have s09:=s8.trans n9.same;have laid:∀l:List Nat,(∀j∈l,j<R.aQ.length)->Paired (Wc K H9) (l.map λj=>vt.getD j .non) (l.map λj=>R.aQ.getD j []):=λl=>by
   induction l with
   |nil=>exact λ_=>.nil
   |cons j r ih =>
    intro h;have jl:=h j aO;obtain⟨x,hx,p,e,hb⟩:=cM pV (bH jl);refine .cons ?_ (ih λi hi=>h i (aY _ hi));dsimp only;rw[fV,hx,fV,bH jl];exact⟨p,e,s09.seq hb⟩
  refine⟨(),λp10 à uG=>⟨(),λp11 H11 Ft=>?_⟩⟩;have ś:=uG.same.trans Ft.same;refine⟨.list ((M8 R).map J6),.list ([[]].map J6),.lst (bC.of (ś _ _ n9.here)) (Cw (λ_ _ h=>ř h) (Paired.cC (laid R.pile jl) λ_ _ ⟨p,e,hb⟩=>⟨p,e,ś.seq hb⟩)),.lst (bC.of Ft.here) (.cons (.lst (bC.of (Ft.same _ _ uG.here)) .nil) .nil),Gr _,Gr [[]],_,Z,?_⟩;rw[aF Z,PyData.eqv,SM];have s11:=s09.trans ś;by_cases c2:M8 R=[[]]
  ·rw[bL c2];refine cX ?_;refine⟨_,Z,pg,_,_,_,Z,Z,s11.wR hP,Z,_,Z,(),(),?_⟩;rw[jD];refine qz (n:=n) (λi σ H'=>(∃vv:Option V,σ=[some (.ref pg),some (.ref a),some (.ref pt),some (.ref pp),vv,none,none])/\aK H H'/\∀j,j<i->bZ.inn (j:Int)∈ss) ⟨⟨none,Z⟩,s11,λj h=>absurd h (Ao _)⟩ ?_ ?_
   ·rintro i σ Wu hi ⟨⟨vv,rfl⟩,s12,ok⟩;have ei:(0:Int)+(i:Int)=(i:Int):=()
    rw[ei];refine⟨_,Z,(),λp13 H13 n13=>?_⟩;have sJ:=s12.trans n13.same;refine⟨_,Z,yF (s:=.inn (i:Int)) (sJ.seq hA) (Paired.cC pA λ_ _ h=>sZ.same sJ h) (cO.of n13.here) ⟨_,Z,?_⟩⟩;by_cases c3:bZ.inn (i:Int)∈ss
    ·rw[bL c3];refine cX ⟨⟨_,Z⟩,sJ,λj hj=>?_⟩;by_cases e:j=i
     ·rw[e];exact c3
     ·exact ok j ()
    ·rw[cW c3];refine iM ⟨_,Z,(),λp14 H14 n14=>q _ H14 (sJ.trans n14.same) ?_⟩;unfold BX;have ef:(List.range n).find? (λ(v:Nat)=>!decide (bZ.inn (v:Int)∈ss))=some i:=ö.mpr ⟨by rw[cW c3];rfl,mJ.mpr hi,λj hj=>by rw[bL (ok j hj)];rfl⟩;rw[aq c1,aF c2,ef];exact⟨p14,Z,n14.here⟩
   ·rintro σ Wu ⟨⟨vv,rfl⟩,s12,ok⟩;have ef:(List.range n).find? (λ(v:Nat)=>!decide (bZ.inn (v:Int)∈ss))=none:=Eg.mpr λj hj=>by rw[bL (ok j (mJ.mp hj))];simp
    obtain⟨txs,htx,ptx,ltx⟩:=id (hT.same s12);have ltl:=aM ptx;refine⟨_,Z,pg,_,_,_,Z,Z,s12.wR hP,Z,ta,Z,⟨_,htx⟩,yp (xs:=txs) (λi σ H'=>(∃va vb:Option V,σ=[some (.ref pg),some (.ref a),some (.ref pt),some (.ref pp),vv,va,vb])/\aK Wu H'/\∀t∈ts.take i,bZ.tie t.1 t.2∈ss) ⟨⟨none,none,Z⟩,aK.refl _,λt h=>absurd h (by simp)⟩ (λi σ H' _ ⟨_,s,_⟩=>s.seq htx) ?_ ?_⟩
    ·rintro i x σ H13 hx ⟨⟨va,vb,rfl⟩,sJ,ok2⟩;obtain⟨t,ht,⟨px,rfl,hpx⟩⟩:=bf ptx hx;obtain⟨til,tix⟩:=fu.mp ht;have et:ts.take (i+1)=ts.take i++[t]:=by rw[Ab til,tix]
     refine⟨px,_,Z,sJ.wR hpx,Z,_,_,Z,_,_,Z,Z,?_⟩;refine⟨_,Z,_,Z,(),λp14 H14 n14=>?_⟩;have M9:=(s12.trans sJ).trans n14.same;refine⟨_,Z,yF (s:=.tie t.1 t.2) (M9.seq hA) (Paired.cC pA λ_ _ h=>sZ.same M9 h) (cO.of n14.here) ⟨_,Z,?_⟩⟩;by_cases c3:bZ.tie t.1 t.2∈ss
     ·rw[bL c3];refine cX ⟨⟨_,_,Z⟩,sJ.trans n14.same,λt' h'=>?_⟩;rw[et]at h';rcases cJ.mp h' with h'|h'
      ·exact ok2 t' h'
      ·rw[bJ.mp h'];exact c3
     ·rw[cW c3];refine iM ⟨_,Z,_,Z,(),λp15 H15 n15=>q _ H15 (M9.trans n15.same) ?_⟩;unfold BX;have eg:ts.find? (λt=>!decide (bZ.tie t.1 t.2∈ss))=some t:=by
       rw[<-uY (i+1) ts,et,xY,UG,Eg.mpr (λt' h'=>by rw[bL (ok2 t' h')];simp)];rw[Option.none_or];show List.find? _ (t::_)=_;rw[List.find?_cons,cW c3];rfl
      rw[aq c1,aF c2,ef,eg];exact⟨p15,Z,n15.here⟩
    ·rintro σ H13 ⟨⟨va,vb,rfl⟩,sJ,ok2⟩;rw[ltl,iC]at ok2;refine q _ H13 (s12.trans sJ) ?_;unfold BX;have eg:ts.find? (λt=>!decide (bZ.tie t.1 t.2∈ss))=none:=Eg.mpr λt h=>by rw[bL (ok2 t h)];simp
     rw[aq c1,aF c2,ef,eg];exact rfl
  ·rw[cW c2];refine iM ⟨(),λp12 Wu n12=>q _ Wu (s11.trans n12.same) ?_⟩;unfold BX;rw[aq c1,aq c2];exact⟨p12,Z,n12.here⟩
def a1q{n:Nat}{ts:List bW}{ss:List bZ}(cV:n<=10):∃i,i<=ss.length/\a1l i (cD n ts ss)/\(i=ss.length\/i<ss.length):=by
 have h:∀m,m<=ss.length->∃i,i<=m/\a1l i (aW n ts ss m).1:=λm=>by
  induction m with
  |zero=>exact λ_=>⟨0,aL _,jA cV Z⟩
  |succ m ih =>
   intro hm;by_cases c:(aW n ts ss (m+1)).2=true
   ·exact⟨m+1,aL _,jA cV c⟩
   ·obtain⟨i,hi,I⟩:=ih ();refine⟨i,(),?_⟩;have e:(aW n ts ss (m+1)).1=(aW n ts ss m).1:=by
     have e:aW n ts ss (m+1)=if(aW n ts ss m).2=true then
      (match rF n ts ss m (aW n ts ss m).1 with
      |some r=>(r,true)
      |none=>((aW n ts ss m).1,false))
     else((aW n ts ss m).1,false):=rfl
     grind
    grind
 obtain⟨i,hi,I⟩:=h ss.length (aL _);exact⟨i,hi,I,()⟩
end
structure Ŝ(mg:Str->Option Value) where
 qI:Value
 vY:mg "BEYOND_WEIGHTS" = some qI
 vZ:cQ (.int 1000000000000000000000000000000) qI
 sO:Value
 xu:mg "MOST_IN_A_BAG" = some sO
 xG:cQ (.int 4) sO
 uh:Value
 yG:mg "MOST_COLOURS" = some uh
 yH:cQ (.int 4) uh
def a4j{K:aH}{h:Heap}{Fv:Tok}{Gz:Tok}{J7:Tok}(X:K.In h)(G:h.Ns mainGlobals mg)(Fw:PySem.W.nsIn K mainGlobals "BEYOND_WEIGHTS" = some (some (Value.int 1000000000000000000000000000000 Fv)))(GC:PySem.W.nsIn K mainGlobals "MOST_IN_A_BAG" = some (some (Value.int 4 Gz)))(J8:PySem.W.nsIn K mainGlobals "MOST_COLOURS" = some (some (Value.int 4 J7))):Nonempty (Ŝ mg) :=
 ⟨{ qI:=_,vY:=Jb X G Fw,vZ:=⟨_,Z⟩,sO:=_,xu:=Jb X G GC,xG:=⟨_,Z⟩,uh:=_,yG:=Jb X G J8,yH:=⟨_,Z⟩}⟩
abbrev mQ:Stmt:=inClass (top 35) 0
def yI:bD XS XS (aB mQ):={}
abbrev fD:Stmt:=inClass (top 35) 1
def xM:bD kE kE (aB fD):={}
abbrev gM:Stmt:=inClass (top 35) 2
def Bk:bD xg xg (aB gM):={}
abbrev gO:Stmt:=inClass (top 35) 3
def Bm:bD kE kE (aB gO):={}
abbrev nJ:Stmt:=inClass (top 36) 0
def zQ:bD X3 X3 (aB nJ):={}
abbrev mq:Stmt:=inClass (top 36) 1
def Dg:bD gY gY (aB mq):={}
abbrev oW:Stmt:=inClass (top 36) 2
def GD:bD sU sU (aB oW):={}
abbrev jB:Stmt:=inClass (top 36) 3
def yJ:bD gY gY (aB jB):={}
abbrev qJ:Stmt:=inClass (top 37) 0
def Dh:bD Gk Gk (aB qJ):={}
abbrev kI:Stmt:=inClass (top 37) 1
def Bo:bD kE kE (aB kI):={}
abbrev oX:Stmt:=inClass (top 37) 2
def GF:bD gY gY (aB oX):={}
abbrev tB:Stmt:=inClass (top 37) 3
def Lx:bD sU sU (aB tB):={}
abbrev kJ:Stmt:=inClass (top 37) 4
def Bp:bD gY gY (aB kJ):={}
abbrev qK:Stmt:=inClass (top 38) 0
def Dj:bD Gk Gk (aB qK):={}
abbrev oY:Stmt:=inClass (top 38) 1
def GJ:bD xg xg (aB oY):={}
abbrev oZ:Stmt:=inClass (top 38) 2
def GK:bD kE kE (aB oZ):={}
abbrev pB:Stmt:=inClass (top 38) 3
def GP:bD gY gY (aB pB):={}
abbrev pG:Stmt:=inClass (top 38) 4
def Ly:bD sU sU (aB pG):={}
abbrev kW:Stmt:=inClass (top 38) 5
def Bq:bD gY gY (aB kW):={}
structure qL(K:aH)(mg:Str->Option Value) where
 C:Addr
 cl:Cls K C
 m:mg "Question" = some (.ref C)
 bM:Dm K C "__init__" "Question.__init__" mQ XS
 uR:a5T K C "__init__" bM.f
 mkd:Mk K C bM.f
set_option genInjectivity false in
structure v5(K:aH)(mg:Str->Option Value) where
 C:Addr
 cl:Cls K C
 m:mg "Colours" = some (.ref C)
 fH:eY K C "graph"
 gU:eY K C "leaf"
 fO:eY K C "whole"
 J9:eY K C "many"
 fG:eY K C "weights"
 bM:DmD K C "__init__" "Colours.__init__" nJ X3
 eE:Dm K C "is_better" "Question.is_better" fD kE
 jc:Dm K C "shared" "Question.shared" gM xg
 jd:Dm K C "joined" "Question.joined" gO kE
 je:Dm K C "put_in" "Colours.put_in" mq gY
 pH:Dm K C "tied" "Colours.tied" oW sU
 eG:Dm K C "taken_out" "Colours.taken_out" jB gY
 mkd:Mk K C bM.f
set_option genInjectivity false in
structure Dp(K:aH)(mg:Str->Option Value) where
 C:Addr
 cl:Cls K C
 m:mg "Apart" = some (.ref C)
 fH:eY K C "graph"
 gU:eY K C "leaf"
 fO:eY K C "whole"
 fG:eY K C "weights"
 bM:DmD K C "__init__" "Apart.__init__" qJ Gk
 eE:Dm K C "is_better" "Apart.is_better" kI kE
 jc:Dm K C "shared" "Question.shared" gM xg
 jd:Dm K C "joined" "Question.joined" gO kE
 je:Dm K C "put_in" "Apart.put_in" oX gY
 pH:Dm K C "tied" "Apart.tied" tB sU
 eG:Dm K C "taken_out" "Apart.taken_out" kJ gY
 mkd:Mk K C bM.f
set_option genInjectivity false in
structure Dr(K:aH)(mg:Str->Option Value) where
 C:Addr
 cl:Cls K C
 m:mg "Watch" = some (.ref C)
 fH:eY K C "graph"
 gU:eY K C "leaf"
 fO:eY K C "whole"
 fG:eY K C "weights"
 bM:DmD K C "__init__" "Watch.__init__" qK Gk
 eE:Dm K C "is_better" "Question.is_better" fD kE
 jc:Dm K C "shared" "Watch.shared" oY xg
 jd:Dm K C "joined" "Watch.joined" oZ kE
 je:Dm K C "put_in" "Watch.put_in" pB gY
 pH:Dm K C "tied" "Watch.tied" pG sU
 eG:Dm K C "taken_out" "Watch.taken_out" kW gY
 mkd:Mk K C bM.f
abbrev lR:Stmt:=top 17
def tD:bD ["graph","steps","tops","feeds","pile"] mR (aB lR):={}
abbrev vz:Stmt:=top 18
def Ka:bD ["bags"] ["bags"] (aB vz):={}
inductive a4k(K:aH)(vs:List V)(H:Hp)(Q:VK)(u_3:XK):Prop
 |mk (g:V) (n:Nat) (ts:List bW) (a:Addr) (xs:List V) (ss:List bZ) (_:vs=[g,.ref a]) (_:vp K H g n ts) (_:n<=10) (_:bC K H a xs) (_:Paired (sZ K H) xs ss) (_:ss.length<=900) (_:BX n ts ss (cD n ts ss)=.ok) (_:∀r pt pf vt fs H',aK H H'->H' r=some (.tup [.ref pt,.ref pf])->H pt=none->H pf=none->H' pt=some (.lst vt)->H' pf=some (.lst (fs.map V.ref))->Paired (xK [pt,pf] K H') vt (cD n ts ss).aQ->Paired (Bj [pt,pf] H') fs (cD n ts ss).dG->Q (.ref r) H')
def zJ{n:Nat}{ts:List bW}{ss:List bZ}(cV:n<=10)(h:BX n ts ss (cD n ts ss)=.ok):a1l ss.length (cD n ts ss):=by
 obtain⟨i,il,I,_⟩:=a1q (n:=n) (ts:=ts) (ss:=ss) cV;have e:¬(cD n ts ss).aQ.length<ss.length:=λc=>by
  unfold BX at h;grind
 rw[I.tl]at e;grind
def SN(n:Nat)(ts:List bW)(ss:List bZ)(m:Nat):aW n ts ss (m+1)=if(aW n ts ss m).2=true then
   (match rF n ts ss m (aW n ts ss m).1 with
   |some r=>(r,true)
   |none=>((aW n ts ss m).1,false))
  else((aW n ts ss m).1,false):=rfl
theorem Nb{n:Nat}{ts:List bW}{ss:List bZ}(cV:n<=10):∀m,(aW n ts ss m).2=false->(aW n ts ss m).1.aQ.length<m
 |0,h=>by cases h
 |m+1,h=>by
  rw[SN]at h ⊢
  by_cases c:(aW n ts ss m).2=true
  ·rw[aF c]at h ⊢
   have I:=jA cV c
   cases d:rF n ts ss m (aW n ts ss m).1 with
   |none=>show(aW n ts ss m).1.aQ.length<m+1;rw[I.tl];omega
   |some r=>grind
  ·rw[aq c]
   have:=Nb cV m (xZ.mpr c)
   grind
def ŝ{n:Nat}{ts:List bW}{ss:List bZ}(cV:n<=10)(h:BX n ts ss (cD n ts ss)=.ok):∀i,i<=ss.length->(aW n ts ss i).2=true:=by
 have e:¬(cD n ts ss).aQ.length<ss.length:=λc=>by
  unfold BX at h;grind
 intro i il;cases c:(aW n ts ss i).2 with
 |true=>rfl
 |false =>
  have e2:=J0 c ss.length il;have:=Nb cV i c;unfold cD at e;grind
section
variable{K:aH}
def Qw(B:Bl mg)(U:Used w K mg)(jV:Fq K mg)(jy:Dn K mg "is_below" fP uf)(oE:Dn K mg "joint" oV jU)(mO:Dn K mg "less" sI jU)(HJ:Dn K mg "bag_behind" fQ CZ)(vX:Dn K mg "run" Gq mR)(uH:Dn K mg "fault_behind" eZ Gj)(xO:Dn K mg "run_whole" lR mR):bw P w K mg base fX 5 xO.f xO.fd mR (a4k K):=by
 have a7L:bw P w K mg base fX 4 _ _ _ _:=a4i B U jV jy oE mO HJ vX;have a7M:bw P w K mg base fX 4 _ _ _ _:=(Gy B uH).mono ();exists xO.F.ok tD;obtain⟨g,n,ts,a,xs,ss,rfl,hG,cV,hA,pA,a6p,uD,q⟩:=h;refine⟨_,(aG (yh (bx a7L hr Z vX.m vX.F.kp vX.b .nil cu (O (pv 0) (O (pv 1) aj))) (jN (K:=K) (n:=3) Z Z (b8 (aN 2 tD.nd) (b8 (aN 3 tD.nd) (b8 (aN 4 tD.nd) jz)))))
   (aG (dZ (aP a0f (bx a7M hr Z uH.m uH.F.kp uH.b .nil cu (O (pv 0) (O (pv 1) (O (pv 2) (O (pv 4) aj))))) sy)
   (aD Cd)
   bT)
   (aD (bF (aZ (O (pv 2) (O (pv 3) aj))))))),?_⟩
 have I:=zJ cV uD;have pl:=I.pl;refine⟨_,Z,_,Z,g,n,ts,a,xs,ss,Z,hG,cV,hA,pA,a6p,λr pt pf pp vt fs H1 s1 hr1 ft ff fp ht hf hp pv pf'=>⟨r,_,Z,cO.of hr1,Z,_,_,Z,_,_,Z,_,_,Z,Z,?_⟩⟩;refine⟨_,Z,_,Z,_,Z,_,Z,g,n,ts,a,pt,pp,xs,vt,ss,cD n ts ss,Z,hG.same s1,cV,s1.seq hA,Paired.cC pA λ_ _ h=>h.same s1,bC.of ht,Paired.cC pv λ_ _ h=>h.l,bC.of hp.1,(λj hj=>by rw[I.tl];exact I.lt j hj),(),λv H2 s2 fv=>?_⟩;rw[uD]at fv;obtain rfl:v=.non:=fv;refine⟨Z,_,Z,cX ?_⟩;refine⟨_,Z,_,Z,(),λp3 H3 n3=>?_⟩;have sJ:=s2.trans n3.same;exact q p3 pt pf vt fs H3 (s1.trans sJ) n3.here ft ff (sJ _ _ ht) (sJ _ _ hf) (Paired.cC pv λ_ _ h=>h.same sJ) (Paired.cC pf' λ_ _ h=>h.same sJ)
end
inductive a4l(K:aH)(vs:List V)(H:Hp)(Q:VK)(u_3:XK):Prop
 |mk (a:Addr) (xs:List V) (rs:List BW) (_:vs=[.ref a]) (_:bC K H a xs) (_:Paired (λv r=>∃q,v=.ref q/\bC K H q (r.2.map V.int)) xs rs) (_:rs.length<=900) (_:(∀r∈rs,r.2.length<=4)) (_:∀H',aK H H'->Q .non H')
section
variable{K:aH}
abbrev Ş(K:PySem.W.Frag)(mg:Str->Option Value):=Dn K mg "refuse_wide" vz ["bags"]
def Kc(B:Bl mg)(Ct:Ŝ mg)(xP:Ş K mg):bw P w K mg base fX 1 xP.f xP.fd ["bags"] (a4l K):=by
 exists xP.F.ok Ka;obtain⟨a,xs,rs,rfl,hx,hp,l9,h4,q⟩:=h;have lx:=aM hp;refine⟨_,(aD (dZ (gK (K:=K) Z (bh (Zh (K:=K) Z Z) Z B.any () (O (jT ["bag"] [none]  (by kernel_rfl) Z (fC (K:=K) Z (pv 0)) (λ_ _ _ _ _=>(aN 0 (show(["bag"]:List Str).Nodup by decide))) (λ_ _ _ _ _=>gA) λ_ _ _ _ _=>(zu Jk (bh (cG (K:=K) Z) Z B.len () (O (pv 0) aj)) (Px (v:=.int 4) Z Ct.xu Ct.xG))) aj)) λ_=>rfl)
   (aD Cd)
   bT)),?_⟩
 refine⟨_,Z,a,Z,⟨_,hx⟩,ę (λj=>some (.bl false)) hx () (λj x H3 N hj s3 hN=>?_) λH3 p H4 s3 nw=>?_⟩
 ·obtain⟨r,hr1,⟨b,rfl,hb⟩⟩:=bf hp hj;refine⟨_,Z,b,_,Z,.inl (s3.seq hb),_,_,Z,Z,?_⟩;grind
 have e1:(List.range xs.length).filterMap (λj=>some (V.bl false))=((List.range rs.length).map λ_=>false).map V.bl:=by
  rw[lx,j9];exact Cv λ_ _=>rfl
 rw[e1]at nw;refine⟨p,_,_,Z,bC.of nw.here,oJ.bls _,_,Z,?_⟩;have e2:((List.range rs.length).map λ_=>false).any id=false:=by
  grind
 rw[e2];exact cX (q H4 (s3.trans nw.same))
end
abbrev yK:Stmt:=top 20
def Fx:bD JG MN (aB yK):={}
abbrev kY:Stmt:=top 21
def Br:bD ["table"] ["table"] (aB kY):={}
abbrev mD:Stmt:=top 22
def vA:bD ["graph","steps","tops","feeds"] mR (aB mD):={}
def a1r{K:aH}{H:Hp}{vs:List V}{bs:List (List Int)}(h:Paired (xK ex K H) vs bs):Paired (λv (r:BW)=>∃q,v=.ref q/\bC K H q (r.2.map V.int)) vs (bs.map λb=>(none,b)):=by
 induction h with
 |nil=>exact .nil
 |cons h _ ih =>
  obtain⟨q,e,h,_⟩:=h;exact .cons ⟨q,e,h⟩ ih
inductive a6w(K:aH)(vs:List V)(H:Hp)(Q:VK)(u_3:XK):Prop
 |mk (g:V) (n:Nat) (ts:List bW) (a:Addr) (xs:List V) (ss:List bZ) (_:vs=[g,.ref a]) (_:vp K H g n ts) (_:n<=10) (_:bC K H a xs) (_:Paired (sZ K H) xs ss) (_:ss.length<=800) (_:BX n ts ss (cD n ts ss)=.ok) (_:(∀b∈(cD n ts ss).aQ,b.length<=4)) (_:∀r pt pf vt fs H',aK H H'->H' r=some (.tup [.ref pt,.ref pf])->H' pt=some (.lst vt)->H' pf=some (.lst (fs.map V.ref))->Paired (xK [pt,pf] K H') vt (cD n ts ss).aQ->Paired (Bj [pt,pf] H') fs (cD n ts ss).dG->Q (.ref r) H')
def a1s(H:Hp)(v:V)(r:fW):Prop:=∃p,v=.ref p/\H p=some (.tup [.int r.m,.int r.b])
def xQ(H:Hp):List (List Key×V)->cI->Prop:=Paired λkv tr=>kv.1=rU tr.1/\a1s H kv.2 tr.2
inductive GQ(H:Hp)(v:V)(T:cI):Prop
 |mk (p J:_) (_:v=.ref p) (_:H p=some (.dT J)) (_:xQ H J T)
def a1s.keep{H H':Hp}{v:V}{r:fW}(k:qF H H')(h:a1s H v r):a1s H' v r:=by
 obtain⟨p,e,h⟩:=h;exact⟨p,e,k _ _ h⟩
def GQ.keep{H H':Hp}{v:V}{T:cI}(s:aK H H')(h:GQ H v T):GQ H' v T:=by
 obtain⟨p,J,e,h1,h2⟩:=h;exact⟨p,J,e,s _ _ h1,Paired.cC h2 λ_ _ z=>⟨z.1,z.2.keep (.of s)⟩⟩
inductive Z6(vs:List V)(H:Hp)(Q:VK)(u_3:XK):Prop
 |mk (t:Addr) (J:List (List Key×V)) (T:cI) (_:vs=[.ref t]) (_:H t=some (.dT J)) (_:qD H J T) (_:T.length<=900) (_:(T.map (·.1)).Nodup) (_:∀p kvs' H',aK H H'->H p=none->H' p=some (.dT kvs')->xQ H' kvs' T->Q (.ref p) H')
section
variable{K:aH}{κ:Type} [DecidableEq κ]
def Lz(B:Bl mg)(Ct:Ŝ mg)(U:Used w K mg)(jV:Fq K mg)(jy:Dn K mg "is_below" fP uf)(oE:Dn K mg "joint" oV jU)(mO:Dn K mg "less" sI jU)(HJ:Dn K mg "bag_behind" fQ CZ)(vX:Dn K mg "run" Gq mR)(uH:Dn K mg "fault_behind" eZ Gj)(xO:Dn K mg "run_whole" lR mR)(xP:Ş K mg)(zR:Dn K mg "run_narrow" mD mR):bw P w K mg base fX 6 zR.f zR.fd mR (a6w K):=by
 have a7N:bw P w K mg base fX 5 _ _ _ _:=Qw B U jV jy oE mO HJ vX uH xO;have a7O:bw P w K mg base fX 5 _ _ _ _:=(Kc B Ct xP).mono ();exists zR.F.ok vA;obtain⟨g,n,ts,a,xs,ss,rfl,hg,cV,hA,pA,l8,qg,b4,q⟩:=h;refine⟨_,(aG (yh (bx a7N hr Z xO.m xO.F.kp xO.b .nil cu (O (pv 0) (O (pv 1) aj))) (jN (K:=K) (n:=2) Z Z (b8 (aN 2 vA.nd) (b8 (aN 3 vA.nd) jz))))
   (aG (gJ (bx a7O hr Z xP.m xP.F.kp xP.b .nil cu (O (pv 2) aj)))
   (aD (bF (aZ (O (pv 2) (O (pv 3) aj))))))),?_⟩
 refine⟨_,Z,_,Z,g,n,ts,a,xs,ss,Z,hg,cV,hA,pA,(),qg,λr pt pf vt fs H1 s1 hr1 fpt fpf hpt hpf pT pF=>?_⟩;refine⟨r,_,Z,cO.of hr1,Z,_,_,Z,_,_,Z,Z,?_⟩;have lT:(cD n ts ss).aQ.length<=900:=by
  have:=(zJ cV qg).tl;omega
 refine⟨_,Z,pt,vt,(cD n ts ss).aQ.map (λb=>(none,b)),Z,bC.of hpt,a1r pT,(),?_,λH2 s2=>?_⟩
 ·grind
 ·refine⟨_,Z,_,Z,(),λp3 H3 n3=>?_⟩;have Z7:=s2.trans n3.same;exact q p3 pt pf vt fs H3 (s1.trans Z7) n3.here (Z7 _ _ hpt) (Z7 _ _ hpf) (Paired.cC pT λ_ _ ⟨p,e,h,ne⟩=>⟨p,e,Z7.seq h,ne⟩) (Paired.cC pF λ_ _ ⟨h,ne⟩=>⟨Z7 _ _ h,ne⟩)
abbrev a1t(K:PySem.W.Frag)(mg:Str->Option Value):=Dn K mg "without_sources" kY ["table"]
def Bs(B:Bl mg)(yL:a1t K mg):bw P w K mg base fX 1 yL.f yL.fd ["table"] Z6:=by
 exists yL.F.ok Br;obtain⟨t,J,T,rfl,ht,hT,lT,nd,q⟩:=h;have hw2:(A.deeper (PyProof.Rows.envOfC "without_sources" (aB kY) s⁻¹ yL.f dz)).units+2<cLine:=by have:=hr.un;omega
 refine⟨_,(aD (bF (jG (Wh (K:=K) Z Z hw2) Z B.dict () (O (Ĺ (jT ["state","row"] [none,none]  (by kernel_rfl) Z (vP (qO (K:=K) Z Ac Ij Ik vN (pv 0))) (λ_ _ _ _ _=>(jN (K:=K) (n:=2) Z Z (b8 (aN 0 (show(["state","row"]:List Str).Nodup by decide)) (b8 (aN 1 (show(["state","row"]:List Str).Nodup by decide)) jz)))) (λ_ _ _ _ _=>gA) λ_ _ _ _ _=>(aZ (O (pv 0) (O (aZ (O (aR (aV (K:=K) Z) (pv 1) aA) (O (aR (aV (K:=K) Z) (pv 1) aA) aj))) aj))))) aj)))),⟨_,Z,.inr (.inr (.inl ⟨Z,.inr ⟨_,ht⟩⟩)),t,J,Z,Z,ht,λpv H1 n1=>⟨pv,t,J,Z,n1.here,n1.same _ _ ht,λo as pk=>?_⟩⟩⟩;have h1t:=n1.same _ _ ht;have Rf:Nd H (cN H1 t (.jq o (.dT J))):=(Nd.of n1.same).trans (Nd.jq h1t);have TX:cN H1 t (.jq o (.dT J)) t=some (.jq o (.dT J)):=cY;have Yj:∀c,c≠t->cN H1 t (.jq o (.dT J)) c=H1 c:=λc hc=>aU hc;generalize cN H1 t (.jq o (.dT J))=G0 at pk Rf TX Yj ⊢;have lk:=aM hT;have la:=aM pk;refine ZJ (λi ys G=>aK G0 G/\∃kw,Paired (PrL G) ys kw/\xQ G kw (T.take i)) ⟨aK.refl _,[],.nil,.nil⟩ (λi ys G hi ⟨sG,kw,p1,p2⟩=>⟨sG _ _ TX,?_⟩) (λi ys G a0 v0 p G1 ha0 hv0 ⟨sG,kw,p1,p2⟩ nw=>?_) (λys G pl ⟨sG,kw,p1,p2⟩ hpl=>?_)
 ·rw[aM p1,aM p2,d7];omega
 ·obtain⟨kv,hkv,hak⟩:=bf pk ha0;obtain⟨⟨st,row⟩,hsx,ek,hrow⟩:=bf hT hkv;have ek:kv.1=rU st:=ek;have hv0':v0=kv.2:=by
   grind
  subst hv0';rw[ek]at hak;have T3:=sG.trans nw.same;obtain⟨pr,qr,asr,ZS,hpr,_⟩:=hrow.keep (Rf.tups.trans (.of T3));refine⟨p,_,Z,cO.of nw.here,Z,_,_,Z,_,_,Z,Z,?_⟩;rw[ZS];refine⟨_,Z,_,Z,pr,_,_,.int row.m,Z,Z,cO.of hpr,Z,_,Z,pr,_,_,.int row.b,Z,Z,cO.of hpr,Z,(),λq1 G2 m2=>⟨(),λq2 G3 m3=>?_⟩⟩;have sJ:=nw.same.trans (m2.same.trans m3.same);refine⟨sG.trans sJ,kw++[(rU st,.ref q1)],cZ (Paired.cC p1 λ_ _ ⟨pp,kp,e,h1,h2⟩=>⟨pp,kp,e,sJ _ _ h1,sJ _ _ h2⟩) ⟨q2,a0,Z,m3.here,(sG.trans sJ) _ _ hak⟩,?_⟩;rw[lG,hsx];exact cZ (Paired.cC p2 λ_ _ z=>⟨z.1,z.2.keep (.of sJ)⟩) ⟨Z,q1,Z,m3.same _ _ m2.here⟩
 ·have n2:=gP.ou (o:=.lst ys) hpl;generalize cN G pl (.lst ys)=G2 at n2 ⊢;have g2t:=n2.same _ _ (sG _ _ TX);rw[show T.take as.length=T by grind]at p2;have tu:qF G (cN G2 t (.dT J)):=λc zs e=>Nd.Qt g2t _ _ (n2.same _ _ e);have sF:aK H (cN G2 t (.dT J)):=λc u e=>by
   by_cases z:c=t
   ·rw[z]at e ⊢;rw[cY,<-e,ht]
   ·rw[aU z];refine(sG.trans n2.same) c u ?_;rw[Yj c z];exact n1.same _ _ e
  have npl:pl≠t:=λz=>by have:=n2.here;grind
  refine⟨t,o,J,J,ht,g2t,?_⟩;refine⟨pl,ys,kw,Z,by rw[aU npl];exact n2.here,Paired.cC p1 λ_ _ ⟨pp,kp,e,h1,h2⟩=>⟨pp,kp,e,tu _ _ h1,tu _ _ h2⟩,?_,λpd H5 n5=>?_⟩
  ·have go:∀{kw:List (List Key×V)}{T:cI},xQ G kw T->kw.map (·.1)=T.map λx=>rU x.1:=λ{kw T} h=>by
    induction h with
    |nil=>rfl
    |cons a _ ih=>grind
   rw[go p2];have e2:(T.map λx=>rU x.1)=(T.map (·.1)).map rU:=by rw[j9];rfl
   rw[e2];exact Ak.mpr (nd.imp λ{a b} ne e=>ne (Hy e))
  ·exact q pd kw H5 (sF.trans n5.same) (sF.free n5.fresh) n5.here (Paired.cC p2 λ_ _ z=>⟨z.1,z.2.keep (tu.trans (.of n5.same))⟩)
def a6x(H:Hp)(pl:Addr)(ys:List V):Prop:=H pl=none/\∃as:List Addr,ys=as.map V.ref/\as.Nodup/\∀a∈as,H a=none
inductive ş(Qn:HB P w K mg base κ)(vs:List V)(H:Hp)(Q:VK)(u_3:XK):Prop
 |mk (d a:Addr) (xs:List V) (ss:List bZ) (_:vs=[.ref a,.ref d]) (_:Qn.At H d) (_:Qn.n<=10) (_:bC K H a xs) (_:Paired (sZ K H) xs ss) (_:ss.length<=800) (_:BX Qn.n Qn.ts ss (cD Qn.n Qn.ts ss)=.ok) (_:(∀b∈(cD Qn.n Qn.ts ss).aQ,b.length<=4)) (_:(∀k,k<ss.length->Bf Qn (cD Qn.n Qn.ts ss).aQ (Lr Qn.pq ss (cD Qn.n Qn.ts ss).aQ (cD Qn.n Qn.ts ss).dG k) (ss.getD k .leaf) ((cD Qn.n Qn.ts ss).aQ.getD k []) ((cD Qn.n Qn.ts ss).dG.getD k []))) (_:(∀T∈Lr Qn.pq ss (cD Qn.n Qn.ts ss).aQ (cD Qn.n Qn.ts ss).dG ss.length,T.length<=900/\(T.map (·.1)).Nodup)) (_:∀pl ys H',a6x H pl ys->aK H H'->H' pl=some (.lst ys)->Paired (GQ H') ys (Lr Qn.pq ss (cD Qn.n Qn.ts ss).aQ (cD Qn.n Qn.ts ss).dG ss.length)->Q (.ref pl) H')
def Fy(B:Bl mg)(Bz:mg "zip" = none)(Ct:Ŝ mg)(U:Used w K mg)(Qn:HB P w K mg base κ)(jV:Fq K mg)(jy:Dn K mg "is_below" fP uf)(oE:Dn K mg "joint" oV jU)(mO:Dn K mg "less" sI jU)(HJ:Dn K mg "bag_behind" fQ CZ)(vX:Dn K mg "run" Gq mR)(uH:Dn K mg "fault_behind" eZ Gj)(xO:Dn K mg "run_whole" lR mR)(xP:Ş K mg)(zR:Dn K mg "run_narrow" mD mR)(vV:Dn K mg "states_behind" fY Gi)(qG:Dn K mg "note" vq CV)(xH:Dn K mg "fill_along" jP JD)(wX:Dn K mg "fill_joined" gZ JF)(yD:Dn K mg "going_up" nH JG)(yL:a1t K mg)(uI:Dn K mg "tables" yK MN):bw P w K mg base fX 12 uI.f uI.fd MN (ş Qn):=by
 have a7P:bw P w K mg base fX 11 _ _ _ _:=(Lz B Ct U jV jy oE mO HJ vX uH xO xP zR).mono ();have a7Q:bw P w K mg base fX 11 _ _ _ _:=Sh B Bz Qn oE vV qG xH wX yD;have a7R:bw P w K mg base fX 11 _ _ _ _:=(Bs B yL).mono ();exists uI.F.ok Fx;obtain⟨d,a,xs,ss,rfl,hD,cV,hA,pA,l8,qg,b4,ok,sm,q⟩:=h;refine⟨_,(aG (yh (bx a7P hr Z zR.m zR.F.kp zR.b .nil cu (O (zH (K:=K) Z (pv 1) Z) (O (pv 0) aj))) (jN (K:=K) (n:=2) Z Z (b8 (aN 2 Fx.nd) (b8 (aN 3 Fx.nd) jz))))
   (aD (bF (jT ["table"] [none]  (by kernel_rfl) Z (fC (K:=K) Z (bx a7Q hr Z yD.m yD.F.kp yD.b .nil cu (O (pv 0) (O (pv 1) (O (pv 2) (O (pv 3) aj)))))) (λ_ _ _ _ _=>(aN 0 (show(["table"]:List Str).Nodup by grind) Z (Or.inl Z))) (λ_ _ _ _ _=>gA) λ_ _ _ _ _=>(bx a7R hr Z yL.m yL.F.kp yL.b .nil cu (O (pv 0) aj)))))),?_⟩
 obtain⟨dx,fs,hd,_,_,_,g,hgl,hg⟩:=Qn.ins hD;have RI:=zJ cV qg;refine⟨_,Z,d,_,dx,fs,_,Z,hd,Qn.cl,Qn.fH,hgl,_,Z,⟨g,Qn.n,Qn.ts,a,xs,ss,Z,hg,cV,hA,pA,l8,qg,b4,λr pt pf vt fs' H1 s1 hr1 hpt hpf pT pF=>⟨r,_,Z,cO.of hr1,Z,_,_,Z,_,_,Z,Z,⟨_,Z,_,Z,_,Z,_,Z,?_⟩⟩⟩⟩;refine⟨d,a,pt,pf,xs,vt,fs',ss,(cD Qn.n Qn.ts ss).aQ,(cD Qn.n Qn.ts ss).dG,Z,(Nd.of s1).at Qn hD,s1.seq hA,Paired.cC pA λ_ _ h=>h.same s1,bC.of hpt,Paired.cC pT λ_ _ ⟨p,e,h,_⟩=>⟨p,e,h⟩,bC.of hpf,Paired.cC pF λ_ _ ⟨h,_⟩=>h,(),RI.tl,RI.fl,λb hb=>(RI.sm b hb).1,ok,λpl ps H2 s2 fpl hpl pP nd fr=>⟨pl,Z,⟨_,bC.of hpl⟩,?_⟩⟩;have lg:=mW Qn.pq ss (cD Qn.n Qn.ts ss).aQ (cD Qn.n Qn.ts ss).dG ss.length;have lp:=aM pP;refine uL (K:=K) (a:=pl) (xs:=ps.map V.ref) (λi ys G=>(aK H2 G/\Paired (GQ G) ys ((Lr Qn.pq ss (cD Qn.n Qn.ts ss).aQ (cD Qn.n Qn.ts ss).dG ss.length).take i))/\∃as:List Addr,ys=as.map V.ref/\as.Nodup/\∀a∈as,H a=none/\∃u,G a=some u) ⟨⟨aK.refl _,.nil⟩,[],Z,.nil,λ_ h=>absurd h eN⟩ (λi ys G hi ⟨⟨sG,p⟩,_⟩=>⟨bC.of (sG _ _ hpl),?_⟩) (λi x ys G hx ⟨⟨sG,p⟩,as,ea,na,fa⟩=>?_) (λys G ⟨⟨sG,p⟩,as,ea,na,fa⟩ pr hpr=>?_)
 ·rw[aM p,d7];exact dU (cL ())
 ·rw[fK]at hx;obtain⟨p0,hp0,rfl⟩:=lC.mp hx;obtain⟨T,hT,kv,h1,h2⟩:=bf pP hp0;obtain⟨sl,sn⟩:=sm T (jf hT);refine⟨_,Z,p0,kv,T,Z,sG _ _ h1,h2.keep (.of sG),sl,sn,λp' kv' G1 s' f' h1' h2'=>⟨⟨sG.trans s',?_⟩,as++[p'],by rw[ea,dH];rfl,uZ.mpr ⟨na,xV _ _,λa ha b hb e=>?_⟩,λa ha=>?_⟩⟩
  ·rw[lG,hT];exact cZ (Paired.cC p λ_ _ h=>h.keep s') ⟨p',kv',Z,h1',h2'⟩
  ·obtain⟨_,u,hu⟩:=fa a ha;rw[e,bJ.mp hb,f']at hu;cases hu
  ·rcases cJ.mp ha with ha|ha
   ·obtain⟨f,u,hu⟩:=fa a ha;exact⟨f,u,s' _ _ hu⟩
   ·rw[bJ.mp ha];exact⟨(s1.trans (s2.trans sG)).free f',_,h1'⟩
 ·have n3:=gP.ou (o:=.lst ys) hpr;rw[show(ps.map V.ref).length=ss.length by grind,show(Lr Qn.pq ss (cD Qn.n Qn.ts ss).aQ (cD Qn.n Qn.ts ss).dG ss.length).take ss.length=Lr Qn.pq ss (cD Qn.n Qn.ts ss).aQ (cD Qn.n Qn.ts ss).dG ss.length from Il (Pg lg)]at p;exact q pr ys _ ⟨(s1.trans (s2.trans sG)).free hpr,as,ea,na,λa ha=>(fa a ha).1⟩ (s1.trans (s2.trans (sG.trans n3.same))) n3.here (Paired.cC p λ_ _ h=>h.keep n3.same)
end
end K
namespace L2
open PyProof.Rows Bg
section
variable{X:Cx}{K:aH}
inductive a4m(K:aH)(x:V)(y:V)(H:Hp)(Q:VK):Prop
 |mk (a b xs ys:_) (_:x=.ref a) (_:y=.ref b) (_:cO K H a xs) (_:cO K H b ys) (_:xs≠[]) (_:ys≠[]) (_:xs.length+ys.length<=1000) (_:∀p H',gP H p (.tup (xs++ys)) H'->Q (.ref p) H')
def Š(e:X.K=K):rz X (binaryOp .Add) (a4m K):=by
 subst e;exact Xl.weak λx y H Q ⟨a,b,xs,ys,e1,e2,h1,h2,n1,n2,z,q⟩=>⟨a,b,xs,ys,e1,e2,h1,h2,n1,dU (cL z),λe=>absurd e n2,λ_ p hp=>q p _ (gP.ou hp)⟩
end
end L2
namespace HT
open PyProof.Rows Bg
section
variable{prog:Program}{w:World}{A:Around}{E:Value->Shared->Prop}{s:Shared}
def a1u{t b:Addr}{vs ws:List Value}{Q:Value->Shared->Prop}(ht:IsTup s.heap t vs.toArray)(hb:IsTup s.heap b ws.toArray)(hv:vs=[])(h1:Q (.ref b) s):wpAny (model prog w) A (binaryOp .Add (.ref t) (.ref b)) Q E s:=by
 obtain⟨⟨cls,dd,data,sl⟩,ho,hc,n,hd⟩:=id ht;obtain⟨⟨cls2,dd2,data2,sl2⟩,ho2,hc2,n2,hd2⟩:=id hb;simp only at hc hd hc2 hd2;subst hc hd hc2 hd2;exact Ph ⟨_,ho,Z⟩ ⟨_,ho2,Z⟩ Ow Pa Ob N7 (N5 _ _)
   (tuple_addW0 t b vs.toArray ws.toArray n n2 dd dd2 sl sl2 (by simp[hv])) ⟨ho,ho2,h1⟩
def zT{t sl:Addr}{items:Array Value}{vl vu:Value}{lo hi:Option Int}{Q:Value->Shared->Prop}(ht:IsTup s.heap t items)(hs:s.heap.IsSliceOf sl vl vu .none)(pl:IsPart vl lo)(pu:IsPart vu hi)
  (hw:lH items.size 0 lo=0/\lH items.size items.size hi=items.size) (h:Q (.ref t) s):wpAny (model prog w) A (getItem (.ref t) (.ref sl)) Q E s:=by
 obtain⟨os,hos,hcs,hds⟩:=id hs;have hTs:s.TypeIs (.ref sl) "slice" :=⟨os,hos,hcs⟩;unfold getItem;try with_reducible refine eU ?_
 first|refine M (ao ?_)|skip
 refine M (wpAny_sequenceKey ht.typeIs () ?_);refine M (mZ (name:=Str.ofString "__getitem__") ht.typeIs Ny
  (gk Ny ht.typeIs entry_tuple_getitem ?_ (args_tuple_getitem _ _)))
 show wpAny _ _ (Builtin.Tuple.tupleItemsOf (.ref t) >>= _) _ _ s;refine M (tupleItemsOf_ ht (M (u9 hTs ?_)));rw[aF ()];refine M (vJ hs pl pu ?_);show wpAny _ _ (if(((lH items.size 0 lo:Nat):Int)==0&&(1:Int)==1&&(lH items.size items.size hi-lH items.size 0 lo)==items.size)=true then _ else _) _ _ s;rw[aF (by rw[hw.1,hw.2];simp)];refine M (M (u9 ht.typeIs (ao ?_)));rw[aF ()];exact M (kh (M (ao (ao ⟨_,Z,ao h⟩))))
end
end HT
namespace L2
open PyProof.Rows Bg
section
variable{X:Cx}
inductive a7S(x:V)(lo:Option Int)(hi:Option Int)(H:Hp)(Q:VK):Prop
 |mk (a xs:_) (_:x=.ref a) (_:H a=some (.tup xs)) (_:∀p H',aK H H'->H' p=some (.tup (vg xs lo hi))->Q (.ref p) H')
def zK:SlR X a7S:=by
 intro Y s σ H x v vl vu lo hi sl Q I rx hs pl pu h;obtain⟨a,xs,rfl,hx,q⟩:=h;by_cases hw:HT.lH xs.length 0 lo=0/\HT.lH xs.length xs.length hi=xs.length
 ·cases rx;obtain⟨b7,r,ht,hz⟩:=I.tuple (cO.of hx);have hlen:b7.toArray.size=xs.length:=by rw[iB];exact r.length.symm
  refine⟨"tuple",_,PyProof.Rows.slot_tuple_getitem.lookup,ht.typeIs,HT.zT ht hs pl pu () ⟨.ref a,H,I,Z,q a H (aK.refl _) ?_⟩⟩;have e:vg xs lo hi=xs:=by
   unfold vg;grind
  grind
 ·exact Ĉ Y s σ H _ v vl vu lo hi sl Q I rx hs pl pu ⟨a,xs,Z,cO.of hx,hw,λp hp=>q p _ (Lw.rB hp _) cY⟩
inductive a6y(x:V)(y:V)(H:Hp)(Q:VK):Prop
 |mk (a b xs ys:_) (_:x=.ref a) (_:y=.ref b) (_:H a=some (.tup xs)) (_:H b=some (.tup ys)) (_:xs.length+ys.length<=1000) (_:∀p H',aK H H'->H' p=some (.tup (xs++ys))->Q (.ref p) H')
def Ds:rz X (binaryOp .Add) a6y:=by
 symm;obtain⟨a,b,xs,ys,rfl,rfl,ha,hb,hz,q⟩:=h;by_cases hx:xs=[]
 ·cases rx;cases ry;obtain⟨b7,r1,p1,_⟩:=I.tuple (cO.of ha);obtain⟨its2,r2,p2,_⟩:=I.tuple (cO.of hb);exact HT.a1u p1 p2 (r1.Cg.mpr hx) ⟨.ref b,H,I,Z,q b H (aK.refl _) ()⟩
 ·exact Xl Y s σ H _ _ v u Q I rx ry ⟨a,b,xs,ys,Z,Z,cO.of ha,cO.of hb,hx,dU (cL hz),λe=>q a H (aK.refl _) (),λ_ p hp=>q p _ (Lw.rB hp _) cY⟩
end
end L2
namespace L2
open PyProof.Rows
section
variable{K:aH}{a:Addr}{xs:List V}{ix:List (Option Nat)}{g:TG}{tt:TT}{te:TE}{σ:St}{H1:Hp}{Q:VK}
def Qx(Pv:Nat->List V->Hp->Prop)(h0:Pv 0 [] H1)(hl:∀i ys H,i<=xs.length->Pv i ys H->cO K H a xs/\ys.length<=sizeLine)
  (hs:∀i x ys H,xs[i]?=some x->Pv i ys H->g x (rA ix σ) H λσ2 H2=>tt σ2 H2 λb H3=>if b=true then te σ2 H3 λv H4=>Pv (i+1) (ys++[v]) H4 else Pv (i+1) ys H3)
  (hd:∀ys H,Pv xs.length ys H->∀p,H p=none->Q (.ref p) (cN H p (.lst ys))):nD ix g tt te σ H1 Q (Itt K a):=by
 refine⟨λi m ys H=>m=xs.length-i/\i<=xs.length/\Pv i ys H,⟨xs.length,by simp,dh _,h0⟩,?_⟩;rintro i m ys H ⟨rfl,hi,p⟩;obtain⟨q,z⟩:=hl i ys H hi p;by_cases hlt:i<xs.length
 ·refine .inr ⟨⟨xs,xs[i],q,by simp[hlt]⟩,z,λys' H'=>Pv (i+1) ys' H',λys' H' p'=>⟨xs.length-(i+1),(),Z,hlt,p'⟩,λx H' y=>?_⟩;obtain⟨e',y⟩:=y;subst e';exact hs i x ys _ (y xs q) p
 ·have ei:i=xs.length:=()
  subst ei;exact .inl ⟨⟨xs,q,aL _⟩,z,λpp hp=>hd ys H p pp hp⟩
end
end L2
namespace K
open L2 Lw Bg
variable{K:aH}{P:Program}{w:World}{mg:Str->Option Value}{base:Heap}{ex:List (Str×V)}{n c:Nat}{ts:List bW}
abbrev fj:Stmt:=top 32
def Kd:bD xj xj (aB fj):={}
abbrev cU:Stmt:=top 33
def Dt:bD xq xq (aB cU):={}
def ig(s:dO)(p:Nat)(x:Int):dO:=s.take p++([x]++s.drop p)
def LC(s:dO)(p:Nat):dO:=s.take p++s.drop (p+1)
def Qy(s:dO)(p:Nat)(h:p<=s.length):vg (s.map V.int) none (some (p:Int))=(s.take p).map V.int:=by
 unfold vg;rw[HT.PN,HT.Rn,Vd,Ax,aJ,Nat.min_eq_left h,Vh]
def Qz(s:dO)(p:Nat)(h:p<=s.length):vg (s.map V.int) (some (p:Int)) none=(s.drop p).map V.int:=by
 unfold vg;rw[HT.PN,HT.Rn,aJ,Nat.min_eq_left h,Vg];exact Il (by rw[j6,aJ];exact aL _)
inductive a1v(vs:List V)(H:Hp)(Q:VK)(u_3:XK):Prop
 |mk (a:Addr) (s:dO) (p:Nat) (x:Int) (_:vs=[.ref a,.int p,.int x]) (_:uz H a s) (_:p<=s.length) (_:s.length<=100) (_:∀b H',aK H H'->uz H' b (ig s p x)->Q (.ref b) H')
inductive Wv(vs:List V)(H:Hp)(Q:VK)(u_3:XK):Prop
 |mk (a:Addr) (s:dO) (p:Nat) (_:vs=[.ref a,.int p]) (_:uz H a s) (_:p<s.length) (_:s.length<=100) (_:∀b H',aK H H'->uz H' b (LC s p)->Q (.ref b) H')
def um(jW:Dn K mg "with_number" fj xj):bw P w K mg base fX 1 jW.f jW.fd xj a1v:=by
 exists jW.F.ok Kd;obtain⟨a,st,p,x,rfl,ha,hp,l1,q⟩:=h;refine⟨_,(aD (bF (bQ Ds (bQ Ds (iI zK (pv 0) jK (jL (pv 1))) (aZ (O (pv 2) aj))) (iI zK (pv 0) (jL (pv 1)) jK)))),⟨_,Z,_,Z,_,Z,a,_,Z,ha,λb1 H1 s1 h1=>?_⟩⟩;rw[Qy st p hp]at h1;refine⟨_,Z,(),λb2 H2 n2=>⟨b1,b2,_,_,Z,Z,n2.same _ _ h1,n2.here,?_,λb3 H3 s3 h3=>?_⟩⟩
 ·grind
 have sJ:=n2.same.trans s3;refine⟨_,Z,_,Z,_,Z,a,_,Z,(s1.trans sJ) _ _ ha,λb4 H4 s4 h4=>?_⟩;rw[Qz st p hp]at h4;refine⟨b3,b4,_,_,Z,Z,s4 _ _ h3,h4,?_,λb5 H5 s5 h5=>q b5 H5 (s1.trans (sJ.trans (s4.trans s5))) ?_⟩
 ·grind
 ·show H5 b5=some (.tup ((ig st p x).map V.int));rw[h5];unfold ig;grind
def pI(jX:Dn K mg "without_number" cU xq):bw P w K mg base fX 1 jX.f jX.fd xq Wv:=by
 exists jX.F.ok Dt;obtain⟨a,st,p,rfl,ha,hp,l1,q⟩:=h;refine⟨_,(aD (bF (bQ Ds (iI zK (pv 0) jK (jL (pv 1))) (iI zK (pv 0) (jL (bQ gw (pv 1) aA)) jK)))),⟨_,Z,_,Z,_,Z,a,_,Z,ha,λb1 H1 s1 h1=>?_⟩⟩;rw[Qy st p ()]at h1;refine⟨_,Z,_,Z,_,_,Z,Z,_,Z,a,_,Z,s1 _ _ ha,λb4 H4 s4 h4=>?_⟩;try dsimp only at h4
 rw[show((p:Int)+1)=((p+1:Nat):Int) by omega,Qz st (p+1) ()]at h4;refine⟨b1,b4,_,_,Z,Z,s4 _ _ h1,h4,?_,λb5 H5 s5 h5=>q b5 H5 (s1.trans (s4.trans s5)) ?_⟩
 ·grind
 ·show H5 b5=some (.tup ((LC st p).map V.int));rw[h5];unfold LC;grind
abbrev jR:Stmt:=top 31
def LK:bD Gm Gm (aB jR):={}
def QB:Int:=1000000000000000000000000000000
def WtV(K:aH)(H:Hp)(v:V)(o:Option (List Int)):Prop:=match o with
 |none=>v=.non
 |some ws=>∃a,v=.ref a/\bC K H a (ws.map V.int)
def Z8(m:Nat):Option (List Int)->Bool
 |none=>true
 |some ws=>decide (ws.length=m)&&ws.all λx=>decide (0<=x)&&decide (x<QB)
def wtL(m:Nat):Option (List Int)->List Int
 |none=>List.replicate m 1
 |some ws=>ws
def btF:V->Option V
 |.int y=>some (.bl (oM QB (some y)))
 |_=>none
theorem a2y:∀ws:List Int,(ws.map V.int).filterMap btF=(ws.map λy=>oM QB (some y)).map V.bl
 | []=>rfl
 |x::r=>by
  rw[bV,N6 (show btF (V.int x)=some (.bl (oM QB (some x)))from Z),a2y r]
  rfl
def a1w(x:Int):oM QB (some x)=(decide (0<=x)&&decide (x<QB)):=by
 unfold oM;grind
inductive Z9(K:aH)(vs:List V)(H:Hp)(Q:VK)(u_3:XK):Prop
 |mk (m:Nat) (v:V) (o:Option (List Int)) (_:vs=[.int m,v]) (_:WtV K H v o) (_:m<=100) (_:(∀ws,o=some ws->ws.length<=200)) (_:Z8 m o=true) (_:∀p H',aK H H'->H p=none->H' p=some (.lst ((wtL m o).map V.int))->Q (.ref p) H')
def vB(B:Bl mg)(Ct:Ŝ mg)(jV:Fq K mg)(jy:Dn K mg "is_below" fP uf)(tE:Dn K mg "weights_of" jR Gm):bw P w K mg base fX 3 tE.f tE.fd Gm (Z9 K):=by
 have ŗ:bw P w K mg base fX 2 _ _ _ _:=yE B jV jy;exists tE.F.ok LK;obtain⟨m,v,o,rfl,hV,a8b,hw,ok,q⟩:=h;refine⟨_,(aG (dZ (aP Ā (pv 1) sy)
   (aD (bF (jT ["k"] [none]  (by kernel_rfl) Z (iY Z B.range (O (pv 0) aj)) (λ_ _ _ _ _=>(aN 0 (show(["k"]:List Str).Nodup by decide))) (λ_ _ _ _ _=>gA) λ_ _ _ _ _=>aA)))
   bT)
   (aG (dZ (PW.pt (FT (aP Ji (bh (cG (K:=K) Z) Z B.len () (O (pv 1) aj)) (pv 0)) (Er (sE (gK (K:=K) Z (bh (Zg (K:=K) Z Z) Z B.all () (O (jT ["weight"] [none]  (by kernel_rfl) Z (fC (K:=K) Z (pv 1)) (λ_ _ _ _ _=>(aN 0 (show(["weight"]:List Str).Nodup by decide))) (λ_ _ _ _ _=>gA) λ_ _ _ _ _=>(bx ŗ hr Z jy.m jy.F.kp jy.b .nil cu (O (Px (v:=.int 1000000000000000000000000000000) Z Ct.vY Ct.vZ) (O (pv 0) aj)))) aj)) λ_=>rfl)))))
   (aD Cd)
   bT)
   (aD (bF (jG (wU (K:=K) Z) Z B.list () (O (pv 1) aj)))))),?_⟩
 cases o with
 |none =>
  obtain rfl:v=.non:=hV;refine⟨_,Z,Z,_,Z,iM ?_⟩;refine⟨_,Z,_,Z,(),(),?_⟩;rw[jD];refine a0w (λ_=>some (V.int 1)) () (λi H' N hi s1 hN=>hN H' s1) (λH1 p H2 s1 n2=>q p H2 (s1.trans n2.same) (s1.free n2.fresh) ?_);rw[n2.here];show some (HO.lst _)=some (HO.lst ((List.replicate m (1:Int)).map V.int));rw[Cv (f:=λ_=>some (V.int 1)) (g:=λ_=>V.int 1) (λ_ _=>rfl),List.map_const',qu,List.map_replicate]
 |some ws =>
  obtain⟨a,rfl,hA⟩:=hV;have lw:=hw ws rfl;have ok':=ok;unfold Z8 at ok';rw[qw,fB,IK]at ok';obtain⟨e1,e2⟩:=ok';refine⟨_,Z,Z,_,Z,cX ⟨_,Z,a,_,Z,.inl hA,_,Z,Z,_,Z,?_⟩⟩;rw[aJ,e1,bL rfl];refine cX ⟨_,Z,a,Z,⟨_,hA⟩,Qf btF hA () (λx G5 N hx s5 hN5=>?_) λG5 p6 H6 s5 n6=>?_⟩
  ·obtain⟨y,hy,rfl⟩:=dW.mp hx;exact⟨_,Z,QB,some y,Z,hN5 G5 s5⟩
  rw[a2y]at n6;refine⟨p6,_,_,Z,bC.of n6.here,oJ.bls _,?_⟩;have e7:(ws.map λy=>oM QB (some y)).all id=true:=by
   rw[List.all_map,IK];intro x hx;show oM QB (some x)=true;rw[a1w];exact e2 x hx
  rw[e7];refine⟨_,Z,cX ⟨_,Z,a,_,Z,.inl ((s5.trans n6.same).seq hA),λp8 H8 n8=>q p8 H8 (s5.trans (n6.same.trans n8.same)) ((s5.trans n6.same).free n8.fresh) n8.here⟩⟩
def fsQ(pg:Addr)(l u:V):List (Str×V):=[("graph",.ref pg),("leaf",l),("whole",u)]
inductive a1x(K:aH)(C:Addr)(vs:List V)(H:Hp)(Q:VK)(u_3:XK):Prop
 |mk (d dx g t:Addr) (n:Nat) (xs:List V) (l u:V) (_:vs=[.ref d,.ref g,l,u]) (_:H d=some (.ins C dx [])) (_:cO K H g [.int n,.ref t]) (_:H t=some (.lst xs)) (_:xs.length<=1000) (_:∀pg pt H',Sd d H H'->H' d=some (.ins C dx (fsQ pg l u))->H' pg=some (.tup [.int n,.ref pt])->H' pt=some (.lst xs)->Q .non H')
def qM(B:Bl mg)(cF:qL K mg){C:Addr}(cl:Cls K C)(fH:eY K C "graph")(gU:eY K C "leaf")(fO:eY K C "whole"):bw P w K mg base fX 1 cF.bM.f cF.bM.fd XS (a1x K C):=by
 exists cF.bM.F.ok yI;obtain⟨d,dx,g,t,n,xs,l,u,rfl,hd,hg,ht,lx,q⟩:=h;refine⟨_,(aG (Ay (pv 0) (aZ (O (aR (aV (K:=K) Z) (pv 1) aA) (O (jG (wU (K:=K) Z) Z B.list () (O (aR (aV (K:=K) Z) (pv 1) aA) aj)) aj))) Z)
   (aG (Ay (pv 0) (pv 2) Z)
   (aD (Ay (pv 0) (pv 3) Z)))),?_⟩
 refine⟨_,Z,g,_,_,V.int n,Z,Z,hg,bR (j:=0) Z,_,Z,g,_,_,V.ref t,Z,Z,hg,bR (j:=1) Z,t,_,Z,.inl (bC.of ht),λpt H1 n1=>⟨(),λpg H2 n2=>?_⟩⟩;have h2:=n2.same _ _ (n1.same _ _ hd);refine⟨_,Z,d,_,_,_,Z,h2,cl,fH,(),?_⟩;generalize hU1:cN H2 d _=U1;have u1:vo H2 d (.ins C dx (wL "graph" (.ref pg) [])) U1:=by rw[<-hU1];exact vo.ou
 refine⟨_,Z,_,Z,d,_,_,_,Z,u1.here,cl,gU,(by show 1<1000;decide),?_⟩;generalize hU2:cN U1 d _=U2;have u2:vo U1 d (.ins C dx (wL "leaf" l (wL "graph" (.ref pg) []))) U2:=by rw[<-hU2];exact vo.ou
 refine⟨_,Z,_,Z,d,_,_,_,Z,u2.here,cl,fO,(by show 2<1000;decide),?_⟩;generalize hU3:cN U2 d _=U3;have u3:vo U2 d (.ins C dx (fsQ pg l u)) U3:=by rw[<-hU3];exact vo.ou
 have sr:∀c,c≠d->U3 c=H2 c:=λc hc=>by rw[u3.rest _ hc,u2.rest _ hc,u1.rest _ hc]
 have dt:pt≠d:=λe=>by have:=n1.fresh;grind
 have dg:pg≠d:=λe=>by have:=n2.fresh;rw[e,n1.same _ _ hd]at this;cases this
 exact q pg pt U3 (λc o hc hh=>by rw[sr c hc];exact n2.same _ _ (n1.same _ _ hh)) u3.here (by rw[sr _ dg];exact n2.here) (by rw[sr _ dt];exact n2.same _ _ n1.here)
inductive Fz(K:aH)(C:Addr)(ex:List (Str×V))(n:Nat)(ts:List bW)(ws:List Int)(H:Hp)(d:Addr):Prop
 |mk (dx pg pt xs l u pw:_) (_:H d=some (.ins C dx (fsQ pg (.ref l) (.ref u)++(ex++[(("weights" : Str),V.ref pw)])))) (_:H pg=some (.tup [.int n,.ref pt])) (_:H pt=some (.lst xs)) (_:Paired (oN H) xs ts) (_:ts.length<=1000) (_:H l=some (.tup [])) (_:H u=some (.tup [])) (_:H pw=some (.lst (ws.map V.int)))
def Ww{H H':Hp}{v:V}{t:Int×Int}(k:qF H H')(h:oN H v t):oN H' v t:=by
 obtain⟨p,e,h⟩:=h;exact⟨p,e,k _ _ h⟩
def Fz.keep{C:Addr}{ws:List Int}{H H':Hp}{d:Addr}(a:Nd H H')(h:Fz K C ex n ts ws H d):Fz K C ex n ts ws H' d:=by
 obtain⟨dx,pg,pt,xs,l,u,pw,h1,h2,h3,h4,h5,h6,h7,h8⟩:=h;exact⟨dx,pg,pt,xs,l,u,pw,a _ _ (λ_ z=>by cases z) (λ_ z=>by cases z) h1,a.tups _ _ h2,a.lst h3,Paired.cC h4 λ_ _ z=>Ww a.tups z,h5,a.tups _ _ h6,a.tups _ _ h7,a.lst h8⟩
def Fz.ins{K:aH}{C:Addr}{ex:List (Str×V)}{n:Nat}{ts:List bW}{ws:List Int}{H:Hp}{d:Addr}(hx:∀m,m∈(JC:List Str)->ex.lookup m=none)(h:Fz K C ex n ts ws H d):∃dx fs,H d=some (.ins C dx fs)/\(∀m,m∈(JC:List Str)->fs.lookup m=none)/\
  (∃a,fs.lookup ("leaf" : Str)=some (.ref a)/\uz H a [])/\(∃a,fs.lookup ("whole" : Str)=some (.ref a)/\uz H a [])/\∃g,fs.lookup ("graph" : Str)=some g/\vp K H g n ts:=by
 obtain⟨dx,pg,pt,xs,l,u,pw,h1,h2,h3,h4,h5,h6,h7,h8⟩:=h;refine⟨dx,_,h1,λm hm=>?_,⟨l,Z,h6⟩,⟨u,Z,h7⟩,.ref pg,Z,pg,pt,Z,cO.of h2,xs,bC.of h3,Paired.cC h4 λ_ _ ⟨p,e,h⟩=>⟨p,e,cO.of h⟩,h5⟩;have e:=hx m hm;have go:∀m∈(JC:List Str),(m==("graph" : Str))=false/\(m==("leaf" : Str))=false/\(m==("whole" : Str))=false/\(m==("weights" : Str))=false:=()
 obtain⟨g1,g2,g3,g4⟩:=go m hm;have lk:∀(l1 l2:List (Str×V)),l1.lookup m=none->(l1++l2).lookup m=l2.lookup m:=λl1 l2 h=>by
  grind
 have fq:(fsQ pg (.ref l) (.ref u)).lookup m=none:=by
  unfold fsQ;grind
 grind
def Fz.wts{C:Addr}{ws:List Int}{H:Hp}{d:Addr}(hx:ex.lookup ("weights" : Str)=none)(h:Fz K C ex n ts ws H d):∃dx fs pw,H d=some (.ins C dx fs)/\fs.lookup ("weights" : Str)=some (.ref pw)/\H pw=some (.lst (ws.map V.int)):=by
 obtain⟨dx,pg,pt,xs,l,u,pw,h1,h2,h3,h4,h5,h6,h7,h8⟩:=h;refine⟨dx,_,pw,h1,?_,h8⟩;show List.lookup _ (ex++_)=_;clear h1
 induction ex with
 |nil=>rfl
 |cons a l1 ih =>
  rw[Iz]at hx;rw[U5,Iz];cases c:("weights" : Str)==a.1 with
  |true=>rw[c]at hx;cases hx
  |false=>rw[c]at hx;exact ih hx
def gG(s:dO)(i:Nat):Int:=s.getD i 0
def ixS{s:dO}{i:Nat}(h:i<s.length):TQ (s.map V.int) (i:Int)=some (.int (gG s i)):=by
 refine bR ?_;rw[fK,bH h];unfold gG;grind
def uD(c:Int)(m:Nat)(s:dO):Prop:=s.length=m/\∀x∈s,0<=x/\x<c
noncomputable def pqC(c:Nat)(ws:List Int):PQ Key where
 leaf:=[]
 whole:=[]
 bt:=λa b=>decide (a<b)
 sh:=rU
 jn:=λs _=>[s]
 inn:=λs p _=>(List.range c).map λk:Nat=>(ig s p (k:Int),0)
 tie:=λs a b _=>if gG s a≠gG s b then [(s,0)]else []
 out:=λs p v=>[(LC s p,ws.getD v 0*gG s p)]
 Ok:=uD (c:Int)
noncomputable def pqA(ws:List Int):PQ Key where
 leaf:=[]
 whole:=[]
 bt:=λa b=>decide (b<a)
 sh:=rU
 jn:=λs _=>[s]
 inn:=λs p _=>[(ig s p 0,0),(ig s p 1,0)]
 tie:=λs a b _=>if gG s a+gG s b<2 then [(s,0)]else []
 out:=λs p v=>[(LC s p,ws.getD v 0*gG s p)]
 Ok:=uD 2
def uT(s:dO)(a b:Nat):dO:=(List.range s.length).map λk=>if k=a\/k=b then max (gG s k) 1 else gG s k
noncomputable def pqW(ws:List Int):PQ Bool where
 leaf:=[]
 whole:=[]
 bt:=λa b=>decide (a<b)
 sh:=λs=>s.map λx=>decide (x=2)
 jn:=λs t=>[List.zipWith max s t]
 inn:=λs p _=>[(ig s p 0,0),(ig s p 2,0)]
 tie:=λs a b _=>if(gG s a=0/\gG s b=2)\/(gG s a=2/\gG s b=0)then [(uT s a b,0)]else [(s,0)]
 out:=λs p v=>if gG s p=0 then []else [(LC s p,if gG s p=2 then ws.getD v 0 else 0)]
 Ok:=uD 3
theorem SQ{P:Program}{w:World}:∀s:dO,Paired (λv (x:Key)=>∀u,cQ v u->(dJ P w).is x u=true) (s.map V.int) (rU s)
 | []=>.nil
 |i::s=>.cons (λu ⟨t,e⟩=>by rw[e,Vi];exact O4 i) (SQ s)
section
variable{C:Addr}{ws:List Int}
def qi{κ:Type} [DecidableEq κ] (d_:Dm K C "is_better" "Question.is_better" fD kE) (pq:PQ κ) (hb:pq.bt=λa b=>decide (a<b)) (At:Hp->Addr->Prop):bw P w K mg base fX 1 d_.f d_.fd kE (JK pq At):=by
 exists d_.F.ok xM;obtain⟨d,a,b,rfl,hD,q⟩:=h;refine⟨_,(aD (bF (zu Jj (pv 1) (pv 2)))),?_⟩;rw[hb]at q;exact⟨_,Z,_,Z,_,_,Z,Z,q⟩
def Bt(d_:Dm K C "is_better" "Apart.is_better" kI kE)(At:Hp->Addr->Prop):bw P w K mg base fX 1 d_.f d_.fd kE (JK (pqA ws) At):=by
 exists d_.F.ok Bo;obtain⟨d,a,b,rfl,hD,q⟩:=h;exact⟨_,(aD (bF (zu Jk (pv 1) (pv 2)))),⟨_,Z,_,Z,_,_,Z,Z,q⟩⟩
def uo(d_:Dm K C "shared" "Question.shared" gM xg)(pq:PQ Key)(hs:pq.sh=rU)(At:Hp->Addr->Prop):bw P w K mg base fX 1 d_.f d_.fd xg (JL (dJ P w) pq At):=by
 exists d_.F.ok Bk;obtain⟨d,a,m,st,rfl,hD,ha,ok,m5,q⟩:=h;refine⟨_,(aD (bF (pv 1))),?_⟩;exact⟨_,Z,q a H (aK.refl _) ⟨_,ha,by rw[hs];exact SQ st⟩⟩
def uq(d_:Dm K C "joined" "Question.joined" gO kE)(pq:PQ Key)(hj:pq.jn=λs _=>[s])(At:Hp->Addr->Prop):bw P w K mg base fX 1 d_.f d_.fd kE (JM pq At):=by
 exists d_.F.ok Bm;obtain⟨d,a,b,m,st,t,rfl,hD,ha,hb,ok,ok',m5,sh,q⟩:=h;refine⟨_,(aD (bF (cH (O (pv 1) aj)))),?_⟩;refine⟨_,Z,(),λp H1 n1=>q p _ H1 n1.same n1.here ?_⟩;rw[hj];exact .cons ⟨a,Z,ha.keep (.of n1.same)⟩ .nil
def Du(B:Bl mg)(c4:c<=4)(cl:Cls K C)(nm:eY K C "many")(d_:Dm K C "put_in" "Colours.put_in" mq gY)(jW:Dn K mg "with_number" fj xj):bw P w K mg base fX 2 d_.f d_.fd gY (Yc (pqC c ws) (Fz K C [("many",.int c)] n ts ws)):=by
 have š:bw P w K mg base fX 1 _ _ _ _:=um jW;exists d_.F.ok Dg;obtain⟨d,a,m,spot,v,st,rfl,hD,ha,ok,m4,sp,q⟩:=h;refine⟨_,(aD (bF (jT ["colour","state","spot"] [none,some 1,some 2]  (by kernel_rfl) Z (iY Z B.range (O (zH (K:=K) Z (pv 0) Z) aj)) (λ_ _ _ _ _=>(aN 0 (show(["colour","state","spot"]:List Str).Nodup by decide))) (λ_ _ _ _ _=>gA) λ_ _ _ _ _=>(aZ (O (bx š hr Z jW.m jW.F.kp jW.b .nil cu (O (pv 1) (O (pv 2) (O (pv 0) aj)))) (O aA aj)))))),?_⟩;have l1:st.length=m:=ok.1;obtain⟨dx,pg,pt,xs,l,u,pw,h1,_⟩:=id hD;refine⟨_,Z,d,C,dx,_,.int c,Z,h1,cl,nm,Z,_,Z,(),(),?_⟩;refine yq (n:=c) (λi ys G=>aK H G/\Paired (MvL G) ys ((List.range i).map λk:Nat=>(ig st spot (k:Int),(0:Int)))) ⟨aK.refl _,.nil⟩ (λi ys G hi ⟨_,p⟩=>?_) (λi ys G hi ⟨sG,p⟩=>?_) (λys G ⟨sG,p⟩ pr hpr=>?_)
 ·rw[aM p,aJ,qu];exact dU (cL ())
 ·rw[Int.zero_add];refine⟨_,Z,_,Z,_,Z,a,st,spot,(i:Int),Z,ha.keep (.of sG),(),(),λb G1 s1 hb=>⟨(),λp2 G2 n2=>?_⟩⟩;have s12:=s1.trans n2.same;refine⟨sG.trans s12,?_⟩;rw[u5,dH];exact cZ (Paired.cC p λ_ _ h=>h.keep (.of s12)) ⟨p2,b,Z,n2.here,hb.keep (.of n2.same)⟩
 ·have n3:=gP.ou (o:=.lst ys) hpr;exact q pr ys _ (sG.trans n3.same) n3.here (Paired.cC p λ_ _ h=>h.keep (.of n3.same))
def GR(d_:Dm K C "tied" "Colours.tied" oW sU)(At:Hp->Addr->Prop)(Ti:Int×Int->Prop):bw P w K mg base fX 2 d_.f d_.fd sU (Ye (pqC c ws) At Ti):=by
 exists d_.F.ok GD;obtain⟨d,a,p,m,fZ,bO,t,st,rfl,hD,ha,ok,m5,o1,o2,ne,ti,hp,q⟩:=h;have l1:st.length=m:=ok.1;refine⟨_,(aD (bF (oG (aP Ji (aR (aV (K:=K) Z) (pv 1) (pv 2)) (aR (aV (K:=K) Z) (pv 1) (pv 3))) (cH (O (aZ (O (pv 1) (O aA aj))) aj)) (cH aj)))),⟨_,Z,_,Z,a,_,_,_,Z,Z,cO.of ha,ixS (),_,Z,_,Z,a,_,_,_,Z,Z,cO.of ha,ixS (),Z,_,Z,?_⟩⟩;by_cases c1:gG st fZ=gG st bO
 ·rw[bL (show V.int (gG st fZ)=V.int (gG st bO) by rw[c1])];refine cX ⟨(),λp1 H1 n1=>q p1 [] H1 n1.same n1.here ?_⟩;show Paired _ _ (if gG st fZ≠gG st bO then [(st,(0:Int))]else []);rw[aq (λz=>z c1)];exact .nil
 ·rw[cW (show ¬V.int (gG st fZ)=V.int (gG st bO)from λz=>c1 (V.int.inj z))];refine iM ⟨_,Z,(),λp1 H1 n1=>⟨(),λp2 H2 n2=>q p2 _ H2 (n1.same.trans n2.same) n2.here ?_⟩⟩;show Paired _ _ (if gG st fZ≠gG st bO then [(st,(0:Int))]else []);rw[aF c1];exact .cons ⟨p1,a,Z,n2.same _ _ n1.here,ha.keep (.of (n1.same.trans n2.same))⟩ .nil
def yM(hC:c<=4)(cl:Cls K C)(nw:eY K C "weights")(lw:ws.length=n)(d_:Dm K C "taken_out" "Colours.taken_out" jB gY)(jX:Dn K mg "without_number" cU xq):bw P w K mg base fX 2 d_.f d_.fd gY (Yd (pqC c ws) (Fz K C [("many",.int c)] n ts ws) (λv=>v<n)):=by
 have Ţ:bw P w K mg base fX 1 _ _ _ _:=pI jX;exists d_.F.ok yJ;obtain⟨d,a,m,spot,v,st,rfl,hD,ha,ok,m5,sp,vn,q⟩:=h;have l1:st.length=m:=ok.1;refine⟨_,(aD (bF (cH (O (aZ (O (bx Ţ hr Z jX.m jX.F.kp jX.b .nil cu (O (pv 1) (O (pv 2) aj))) (O (bQ wK (aR (bA (K:=K) Z) (zH (K:=K) Z (pv 0) Z) (pv 3)) (aR (aV (K:=K) Z) (pv 1) (pv 2))) aj))) aj)))),?_⟩;obtain⟨dx,fs,pw,h1,hl,hw⟩:=hD.wts rfl;refine⟨_,Z,_,Z,a,st,spot,Z,ha,(),(),λb H1 s1 hb=>?_⟩;have ew:TQ (ws.map V.int) (v:Int)=some (.int (ws.getD v 0)):=by
  refine bR ?_;grind
 have bd : -(2^64)<gG st spot/\gG st spot<2^64:=by
  have hm:gG st spot∈st:=by
   unfold gG;grind
  have:=ok.2 _ hm;grind
 exact⟨_,Z,d,C,dx,fs,.ref pw,Z,s1 _ _ h1,cl,nw,hl,_,Z,pw,_,_,_,Z,Z,bC.of (s1 _ _ hw),ew,_,Z,_,Z,a,_,_,_,Z,Z,cO.of (s1 _ _ ha),ixS (),_,_,Z,Z,.inr bd,(),λp2 H2 n2=>⟨(),λp3 H3 n3=>q p3 _ H3 (s1.trans (n2.same.trans n3.same)) n3.here (.cons ⟨p2,b,Z,n3.same _ _ n2.here,hb.keep (.of (n2.same.trans n3.same))⟩ .nil)⟩⟩
def LQ(d_:Dm K C "tied" "Apart.tied" tB sU)(At:Hp->Addr->Prop)(Ti:Int×Int->Prop):bw P w K mg base fX 2 d_.f d_.fd sU (Ye (pqA ws) At Ti):=by
 exists d_.F.ok Lx;obtain⟨d,a,p,m,fZ,bO,t,st,rfl,hD,ha,ok,m5,o1,o2,ne,ti,hp,q⟩:=h;have l1:st.length=m:=ok.1;refine⟨_,(aD (bF (oG (aP Jj (bQ gw (aR (aV (K:=K) Z) (pv 1) (pv 2)) (aR (aV (K:=K) Z) (pv 1) (pv 3))) aA) (cH (O (aZ (O (pv 1) (O aA aj))) aj)) (cH aj)))),⟨_,Z,_,Z,a,_,_,_,Z,Z,cO.of ha,ixS (),_,Z,_,Z,a,_,_,_,Z,Z,cO.of ha,ixS (),_,_,Z,Z,_,_,Z,Z,_,Z,?_⟩⟩;by_cases c1:gG st fZ+gG st bO<2
 ·rw[bL c1];refine iM ⟨_,Z,(),λp1 H1 n1=>⟨(),λp2 H2 n2=>q p2 _ H2 (n1.same.trans n2.same) n2.here ?_⟩⟩;show Paired _ _ (if gG st fZ+gG st bO<2 then [(st,(0:Int))]else []);rw[aF c1];exact .cons ⟨p1,a,Z,n2.same _ _ n1.here,ha.keep (.of (n1.same.trans n2.same))⟩ .nil
 ·rw[cW c1];refine cX ⟨(),λp1 H1 n1=>q p1 [] H1 n1.same n1.here ?_⟩;show Paired _ _ (if gG st fZ+gG st bO<2 then [(st,(0:Int))]else []);rw[aq c1];exact .nil
def Bu(cl:Cls K C)(nw:eY K C "weights")(lw:ws.length=n)(d_:Dm K C "taken_out" "Apart.taken_out" kJ gY)(jX:Dn K mg "without_number" cU xq):bw P w K mg base fX 2 d_.f d_.fd gY (Yd (pqA ws) (Fz K C [] n ts ws) (λv=>v<n)):=by
 have Ţ:bw P w K mg base fX 1 _ _ _ _:=pI jX;exists d_.F.ok Bp;obtain⟨d,a,m,spot,v,st,rfl,hD,ha,ok,m5,sp,vn,q⟩:=h;have l1:st.length=m:=ok.1;refine⟨_,(aD (bF (cH (O (aZ (O (bx Ţ hr Z jX.m jX.F.kp jX.b .nil cu (O (pv 1) (O (pv 2) aj))) (O (bQ wK (aR (bA (K:=K) Z) (zH (K:=K) Z (pv 0) Z) (pv 3)) (aR (aV (K:=K) Z) (pv 1) (pv 2))) aj))) aj)))),?_⟩;obtain⟨dx,fs,pw,h1,hl,hw⟩:=hD.wts rfl;refine⟨_,Z,_,Z,a,st,spot,Z,ha,(),(),λb H1 s1 hb=>?_⟩;have ew:TQ (ws.map V.int) (v:Int)=some (.int (ws.getD v 0)):=by
  refine bR ?_;grind
 have bd : -(2^64)<gG st spot/\gG st spot<2^64:=by
  have hm:gG st spot∈st:=by
   unfold gG;grind
  have:=ok.2 _ hm;omega
 exact⟨_,Z,d,C,dx,fs,.ref pw,Z,s1 _ _ h1,cl,nw,hl,_,Z,pw,_,_,_,Z,Z,bC.of (s1 _ _ hw),ew,_,Z,_,Z,a,_,_,_,Z,Z,cO.of (s1 _ _ ha),ixS (),_,_,Z,Z,.inr bd,(),λp2 H2 n2=>⟨(),λp3 H3 n3=>q p3 _ H3 (s1.trans (n2.same.trans n3.same)) n3.here (.cons ⟨p2,b,Z,n3.same _ _ n2.here,hb.keep (.of (n2.same.trans n3.same))⟩ .nil)⟩⟩
def GX(B:Bl mg)(d_:Dm K C "put_in" "Apart.put_in" oX gY)(jW:Dn K mg "with_number" fj xj)(At:Hp->Addr->Prop):bw P w K mg base fX 2 d_.f d_.fd gY (Yc (pqA ws) At):=by
 have š:bw P w K mg base fX 1 _ _ _ _:=um jW;exists d_.F.ok GF;obtain⟨d,a,m,spot,v,st,rfl,hD,ha,ok,m4,sp,q⟩:=h;have l1:st.length=m:=ok.1;refine⟨_,(aD (bF (jT X4 [none,some 1,some 2]  (by kernel_rfl) Z (Cu (K:=K) Z (aZ (O aA (O aA aj)))) (λ_ _ _ _ _=>(aN 0 (show(X4:List Str).Nodup by decide))) (λ_ _ _ _ _=>gA) λ_ _ _ _ _=>(aZ (O (bx š hr Z jW.m jW.F.kp jW.b .nil cu (O (pv 1) (O (pv 2) (O (pv 0) aj)))) (O aA aj)))))),⟨(),λpt H1 n1=>⟨pt,Z,⟨_,cO.of n1.here⟩,Qx (K:=K) (a:=pt) (xs:=[V.int 0,V.int 1]) (λi ys G=>aK H1 G/\Paired (MvL G) ys ([(ig st spot 0,(0:Int)),(ig st spot 1,0)].take i)) ⟨aK.refl _,.nil⟩ (λi ys G hi ⟨sG,p⟩=>⟨cO.of (sG _ _ n1.here),?_⟩) (λi x ys G hx ⟨sG,p⟩=>?_) λys G ⟨sG,p⟩ pr hpr=>?_⟩⟩⟩
 ·rw[aM p,d7];exact dU (cL (by show min i 2<=1000;omega))
 ·obtain⟨xx,rfl,e⟩:∃xx:Int,x=V.int xx/\[(ig st spot 0,(0:Int)),(ig st spot 1,0)].take (i+1)=[(ig st spot 0,(0:Int)),(ig st spot 1,0)].take i++[(ig st spot xx,0)]:=by
   rcases i with _|_|i
   ·cases hx;exact⟨0,Z,Z⟩
   ·cases hx;exact⟨1,Z,Z⟩
   ·cases hx
  refine⟨_,Z,_,Z,_,Z,a,st,spot,xx,Z,ha.keep (.of (n1.same.trans sG)),(),(),λb G1 s1 hb=>⟨(),λp2 G2 n2=>?_⟩⟩;have s12:=s1.trans n2.same;refine⟨sG.trans s12,?_⟩;rw[e];exact cZ (Paired.cC p λ_ _ h=>h.keep (.of s12)) ⟨p2,b,Z,n2.here,hb.keep (.of n2.same)⟩
 ·have n3:=gP.ou (o:=.lst ys) hpr;exact q pr ys _ (n1.same.trans (sG.trans n3.same)) n3.here (Paired.cC p λ_ _ h=>h.keep (.of n3.same))
def GZ(B:Bl mg)(d_:Dm K C "put_in" "Watch.put_in" pB gY)(jW:Dn K mg "with_number" fj xj)(At:Hp->Addr->Prop):bw P w K mg base fX 2 d_.f d_.fd gY (Yc (pqW ws) At):=by
 have š:bw P w K mg base fX 1 _ _ _ _:=um jW;exists d_.F.ok GP;obtain⟨d,a,m,spot,v,st,rfl,hD,ha,ok,m4,sp,q⟩:=h;have l1:st.length=m:=ok.1;refine⟨_,(aD (bF (jT X4 [none,some 1,some 2]  (by kernel_rfl) Z (Cu (K:=K) Z (aZ (O aA (O aA aj)))) (λ_ _ _ _ _=>(aN 0 (show(X4:List Str).Nodup by decide))) (λ_ _ _ _ _=>gA) λ_ _ _ _ _=>(aZ (O (bx š hr Z jW.m jW.F.kp jW.b .nil cu (O (pv 1) (O (pv 2) (O (pv 0) aj)))) (O aA aj)))))),⟨(),λpt H1 n1=>⟨pt,Z,⟨_,cO.of n1.here⟩,Qx (K:=K) (a:=pt) (xs:=[V.int 0,V.int 2]) (λi ys G=>aK H1 G/\Paired (MvL G) ys ([(ig st spot 0,(0:Int)),(ig st spot 2,0)].take i)) ⟨aK.refl _,.nil⟩ (λi ys G hi ⟨sG,p⟩=>⟨cO.of (sG _ _ n1.here),?_⟩) (λi x ys G hx ⟨sG,p⟩=>?_) λys G ⟨sG,p⟩ pr hpr=>?_⟩⟩⟩
 ·rw[aM p,d7];exact dU (cL (by show min i 2<=1000;omega))
 ·obtain⟨xx,rfl,e⟩:∃xx:Int,x=V.int xx/\[(ig st spot 0,(0:Int)),(ig st spot 2,0)].take (i+1)=[(ig st spot 0,(0:Int)),(ig st spot 2,0)].take i++[(ig st spot xx,0)]:=by
   rcases i with _|_|i
   ·cases hx;exact⟨0,Z,Z⟩
   ·cases hx;exact⟨2,Z,Z⟩
   ·cases hx
  refine⟨_,Z,_,Z,_,Z,a,st,spot,xx,Z,ha.keep (.of (n1.same.trans sG)),(),(),λb G1 s1 hb=>⟨(),λp2 G2 n2=>?_⟩⟩;have s12:=s1.trans n2.same;refine⟨sG.trans s12,?_⟩;rw[e];exact cZ (Paired.cC p λ_ _ h=>h.keep (.of s12)) ⟨p2,b,Z,n2.here,hb.keep (.of n2.same)⟩
 ·have n3:=gP.ou (o:=.lst ys) hpr;exact q pr ys _ (n1.same.trans (sG.trans n3.same)) n3.here (Paired.cC p λ_ _ h=>h.keep (.of n3.same))
def Bv(cl:Cls K C)(nw:eY K C "weights")(lw:ws.length=n)(d_:Dm K C "taken_out" "Watch.taken_out" kW gY)(jX:Dn K mg "without_number" cU xq):bw P w K mg base fX 2 d_.f d_.fd gY (Yd (pqW ws) (Fz K C [] n ts ws) (λv=>v<n)):=by
 have Ţ:bw P w K mg base fX 1 _ _ _ _:=pI jX;exists d_.F.ok Bq;obtain⟨d,a,m,spot,v,st,rfl,hD,ha,ok,m5,sp,vn,q⟩:=h;have l1:st.length=m:=ok.1;refine⟨_,(aG (dZ (aP oH (aR (aV (K:=K) Z) (pv 1) (pv 2)) aA)
   (aD (bF (cH aj)))
   bT)
   (aD (bF (cH (O (aZ (O (bx Ţ hr Z jX.m jX.F.kp jX.b .nil cu (O (pv 1) (O (pv 2) aj))) (O (oG (aP oH (aR (aV (K:=K) Z) (pv 1) (pv 2)) aA) (aR (bA (K:=K) Z) (zH (K:=K) Z (pv 0) Z) (pv 3)) aA) aj))) aj))))),?_⟩
 obtain⟨dx,fs,pw,h1,hl,hw⟩:=hD.wts rfl;refine⟨_,Z,_,Z,a,_,_,_,Z,Z,cO.of ha,ixS (),Z,_,Z,?_⟩;by_cases c0:gG st spot=0
 ·rw[bL (show V.int (gG st spot)=V.int 0 by rw[c0])];refine iM ⟨(),λp1 H1 n1=>q p1 [] H1 n1.same n1.here ?_⟩;show Paired _ _ (if gG st spot=0 then []else _);rw[aF c0];exact .nil
 rw[cW (show ¬V.int (gG st spot)=V.int 0 from λz=>c0 (V.int.inj z))];refine cX ⟨_,Z,_,Z,a,st,spot,Z,ha,(),(),λb H1 s1 hb=>?_⟩;have ew:TQ (ws.map V.int) (v:Int)=some (.int (ws.getD v 0)):=by
  refine bR ?_;grind
 refine⟨_,Z,_,Z,a,_,_,_,Z,Z,cO.of (s1 _ _ ha),ixS (),Z,_,Z,?_⟩;have fin:∀x:Int,x=(if gG st spot=2 then ws.getD v 0 else 0)->∀p2 H2,gP H1 p2 (.tup [.ref b,.int x]) H2->∀p3 H3,gP H2 p3 (.lst [.ref p2]) H3->Q (.ref p3) H3:=λx ex p2 H2 n2 p3 H3 n3=>by
  refine q p3 _ H3 (s1.trans (n2.same.trans n3.same)) n3.here ?_;show Paired _ _ (if gG st spot=0 then []else [(LC st spot,if gG st spot=2 then ws.getD v 0 else 0)]);rw[aq c0,<-ex];exact .cons ⟨p2,b,Z,n3.same _ _ n2.here,hb.keep (.of (n2.same.trans n3.same))⟩ .nil
 by_cases c2:gG st spot=2
 ·rw[bL (show V.int (gG st spot)=V.int 2 by rw[c2])];exact iM ⟨_,Z,d,C,dx,fs,.ref pw,Z,s1 _ _ h1,cl,nw,hl,_,Z,pw,_,_,_,Z,Z,bC.of (s1 _ _ hw),ew,(),λp2 H2 n2=>⟨(),λp3 H3 n3=>fin _ () p2 H2 n2 p3 H3 n3⟩⟩
 ·rw[cW (show ¬V.int (gG st spot)=V.int 2 from λz=>c2 (V.int.inj z))];exact cX ⟨(),λp2 H2 n2=>⟨(),λp3 H3 n3=>fin _ () p2 H2 n2 p3 H3 n3⟩⟩
end
end K
namespace Te
open PyProof.Rows
open AutoSeq1 (wpAny_loadPart')
variable{Q:Value->Shared->Prop}
section
variable{prog:Program}{w:World}{A:Around}{E:Value->Shared->Prop}{s:Shared}{q t:Addr}{i:Nat}{ys:Array Value}
def nref(t:Addr):¬((Value.ref t==Value.none)=true):=dB
def more{y:Value}(hq:s.heap.IsTupleIter q t i)(ht:s.heap.IsTuple t ys)(hy:ys[i]?=some y)
  (k:∀g,g.IsTupleIter q t (i+1)->Heap.SameBut q s.heap g->Q y { s with heap:=g}):wpAny (model prog w) A (Builtin.SmallTypes.nextOf (.ref q)) Q E s:=by
 eq_refl;refine M (wpAny_setField g1 g3 (by simp) (ao ⟨y,Z,ao (k _ ⟨_,Af _ g1 (Obj.isFreed_of_fields (Obj.data_mapFields g3 _)),(Obj.cls_mapFields ..).trans g2,?_⟩ (nA ..))⟩));rw[Obj.data_mapFields g3];simp[rawInt]
def QD(hh:A.handled=none)(hq:s.heap.IsTupleIter q t i)(ht:s.heap.IsTuple t ys)(hy:ys[i]?=none)
  (k:∀g e,Heap.ExtBut q s.heap g->(∃o,g.get? e=some o/\o.cls=.type "StopIteration")->E (.ref e) { s with heap:=g}):wpAny (model prog w) A (Builtin.SmallTypes.nextOf (.ref q)) Q E s:=by
 eq_refl;refine M (kh (M (wpAny_setField g1 g3 (by simp) (show wpAny _ _ (newExc (.type "StopIteration") [] >>= _) _ _ _ from M ?_))));simp only[newExc,newTuple];refine M (j5 (M (m:=firstArgMember _ _) (Jd (a:=Value.none) (by first|rfl|(simp only[firstArgMember];rfl)) (j5 ?_ (by size_fits)))) (by size_fits));simp only[raiseNew];refine M (Pb ?_);first
  |rw[show A.in1.handled=none from hh]
  |rw[hh]
 refine M (ao (Pk (k _ _ (((nA ..).extBut.push _).push _) ⟨_,bU _ Z,Z⟩)))
def keepI{h h':Heap}(x:h.IsTupleIter q t i)(k:∀o,h.get? q=some o->h'.get? q=some o):h'.IsTupleIter q t i:=by
 obtain⟨o,e,r⟩:=x;exact⟨o,k o e,r⟩
def zY{h h':Heap}(x:h.IsTuple t ys)(k:∀o,h.get? t=some o->h'.get? t=some o):h'.IsTuple t ys:=by
 obtain⟨o,e,r⟩:=x;exact⟨o,k o e,r⟩
def draws(hh:A.handled=none)(q t:Addr)(ne:t≠q)(ys:Array Value):Draws prog w A q [q,t] ys.size (λj v=>ys[j]?=some v) (λj h=>h.IsTupleIter q t j/\h.IsTuple t ys) where
 live:=λ_ _ st=>by
  obtain⟨⟨o,e,_⟩,_⟩:=st
  exact⟨o,e⟩
 frame:=λ_ _ _ st k=>⟨keepI st.1 λo e=>k q (by simp) o e,zY st.2 λo e=>k t (by simp) o e⟩
 item:=λj s Q E lt st k=>more st.1 st.2 (y:=ys[j]) (by simp[lt]) λg hg sb=>k _ g s.toks (by simp[lt]) ⟨hg,zY st.2 λo e=>sb.extBut _ _ ne e⟩ sb
 done:=λs Q E st k=>QD hh st.1 st.2 (by simp) k
end
set_option tactic.hygienic true in
def ţ(t:Addr)(ys:Array Value)(m:Nat)(dct:Option Addr)(sl:Array (Option Value)) :
  Meets (Builtin.«enumerate.__new__» ⟨[.type "enumerate",.ref t],[]⟩) (λ_ R s=>s.heap.get? t=some { cls:=.type "tuple",dict:=dct,data:=.seq ys m,slots:=sl}/\
   R (.ok (.ret (.ref (s.heap.push { cls:=.type "tuple_iterator",data:=.fields #[.ref t,.int 0 0]}).objs.size))) { s with heap:=(s.heap.push { cls:=.type "tuple_iterator",data:=.fields #[.ref t,.int 0 0]}).push { cls:=.type "enumerate",data:=.fields #[.none,.bool false,.ref s⁻¹,rawInt 0,.none,.none]}}) :=
 .of_wp λprog w A R s h=>by
  obtain⟨hp,g,d,tk,os⟩:=s;obtain⟨hl,h⟩:=h;have sub:=sub_enumerate;have hT:Heap.IsTuple (Shared.heap ⟨hp,g,d,tk,os⟩) t ys:=⟨_,hl,Z,m,Z⟩
  wp_walk using iG hl
  refine wpAny_stack_any λst=>ao ?_;split
  ·rename_i c _ _ _ _ _;cases(c==Value.type "enumerate")<;>(wp_walk using iG hl,Ef hT;exact⟨_,Z,h⟩)
  ·wp_walk using iG hl,Ef hT
   exact⟨_,Z,h⟩
section
variable{prog:Program}{w:World}{A:Around}{E:Value->Shared->Prop}{s:Shared}
def À{t:Addr}{ys:Array Value}(hT:s.heap.IsTuple t ys)
  (h:∀g,IsEnum g (s⁻¹+1) s⁻¹ 0 .none->g.IsTupleIter s⁻¹ t 0->(∀b o,s.heap.get? b=some o->g.get? b=some o)->Q (.ref (s⁻¹+1)) { s with heap:=g}) :
  wpAny (model prog w) A (call (.type "enumerate") [.ref t]) Q E s:=by
 obtain⟨⟨c,dct,dt,sl⟩,hl,hc,n,hd⟩:=hT;replace hc:c=.type "tuple" := hc;replace hd:dt=.seq ys n:=hd;subst hc hd;refine callType_new PySem.F.called_enumerate () (PySem.F.typeCall_enumerate_1 _) (PySem.F.newCall_enumerate_1 _) (λobj=>PySem.F.args_object_init_2 obj _) PySem.F.entry_enumerate_new (ţ t ys n dct sl) ⟨hl,?_⟩;have sz:(s.heap.push { cls:=.type "tuple_iterator",data:=.fields #[.ref t,.int 0 0]}).objs.size=s⁻¹+1:=j8 ..;show _/\_;rw[sz];have he:IsEnum ((s.heap.push { cls:=.type "tuple_iterator",data:=.fields #[.ref t,.int 0 0]}).push { cls:=.type "enumerate",data:=.fields #[.none,.bool false,.ref s⁻¹,rawInt 0,.none,.none]}) (s⁻¹+1) s⁻¹ 0 .none:=by
  have:=bU (s.heap.push { cls:=.type "tuple_iterator",data:=.fields #[.ref t,.int 0 0]}) (o:={ cls:=.type "enumerate",data:=.fields #[.none,.bool false,.ref s⁻¹,rawInt 0,.none,.none]}) rfl;grind
 exact⟨⟨_,he,Z⟩,h _ he ⟨_,bB _ (bU _ Z),Z,Z⟩ λb o x=>bB _ (bB _ x)⟩
end
end Te
namespace L2
open PyProof.Rows
variable{K:aH}
def a4n(K:aH)(a:Addr):It :=
 ⟨λi H=>∃xs x,cO K H a xs/\xs[i]?=some x,λi H x H'=>∃p y,x=.ref p/\gP H p (.tup [.int i,y]) H'/\∀xs,cO K H a xs->xs[i]?=some y,λi H=>∃xs,cO K H a xs/\xs.length=i⟩
def Nf{h:Heap}{a it:Addr}{ys:Array Value}{i:Nat}(ht:h.IsTuple a ys)(hi:h.IsTupleIter it a i):a≠it:=λz=>by
 obtain⟨o,e,c,_⟩:=ht;obtain⟨o',e',c',_⟩:=hi;grind
def Wx{P:Program}{w:World}{elts:List Expr}{k:Nat}{pos:Pos}(a it e:Addr)(hei:e≠it):Turn P w K (.Tuple elts k pos) (a4n K a) [e,it] e (λi h=>(∃old,IsEnum h e it i old)/\h.IsTupleIter it a i) where
 mem:=by simp
 obj:=λi h st b hb=>by
  obtain⟨⟨old,he⟩,hit⟩:=st
  rcases cB.mp hb with rfl|hb
  ·grind
  ·rw[bJ.mp hb]
   obtain⟨o,e1,c,d⟩:=hit
   grind
 keep:=λi h h' st kk=>by
  obtain⟨⟨old,he⟩,hit⟩:=st
  exact⟨⟨old,kk e (by simp) _ he⟩,Te.keepI hit λo q=>kk it (by simp) o q⟩
 item:=by
  nofun
  subst hP hw hK
  obtain⟨xs,x,hq,hx⟩:=hg
  obtain⟨b7,rv,pl,hz⟩:=I.tuple hq
  have pl:s.heap.IsTuple a b7.toArray:=pl
  obtain⟨u,hu,ru⟩:=rv.get hx
  obtain⟨⟨old,he⟩,hit⟩:=st
  have hlt:i<b7.toArray.size:=by
   grind
  have hea:e≠a:=λz=>by
   obtain⟨o,e1,c,_⟩:=pl
   grind
  refine wpAny_pyNext_enum_itemD (Te.draws (show X.A.in1.handled=none from I.ok.hd hc) it a (Nf pl hit) b7.toArray) he ⟨hit,pl⟩ hlt hei () λu' h' tk hu' ho hst hT hsz hk=>?_
  have eu:u'=u:=by
   grind
  subst eu
  refine⟨_,Z,í ho λh2 he2 hs2=>?_⟩
  have eT:s⁻¹≠e:=gC (aX he)
  have iT:s⁻¹≠it:=by
   obtain⟨o,e1,_⟩:=hit
   exact gC (aX e1)
  have hT2:h2.get? s⁻¹=some { cls:=.type "tuple",data:=.seq #[.int i tk,u']}:=(hs2.2 _ eT).trans hT
  have kp:∀b o,b∉[e,it]->s.heap.get? b=some o->h2.get? b=some o:=λb o hb q=>by
   simp only[List.mem_cons,List.not_mem_nil,or_false,not_or]at hb
   exact(hs2.2 b hb.1).trans (hk b o hb.1 hb.2 q)
  have I1:bG X Y σ H { s with heap:=h2,toks:=tk+1}:=(zG I [e,it] (λc hc=>hf c hc) kp).tok (tk+1)
  have hfree:H s⁻¹=none:=I.hok.fresh (aL _)
  have I2:bG X Y σ (cN H s⁻¹ (.tup [.int i,x])) { s with heap:=h2,toks:=tk+1}:=by
   refine bG.track I1 hfree I.sz (gC I.lt) (λy c q=>?_) (λp hp=>bY (aX (I.pin p hp).1)) ⟨(by show 2<=sizeLine;decide),[.int i tk,u'],.cons ⟨_,Z⟩ (.cons ru .nil),⟨_,hT2,Z,_,Z⟩⟩
   obtain⟨v,oc,q1,_⟩:=I.cell y c q
   grind
  refine⟨.ref s⁻¹,_,I2,Z,⟨_,x,Z,gP.ou hfree,λys hy=>by rw[I.zq hy hq];exact hx⟩,⟨⟨u',?_⟩,Te.keepI hst.1 λo q=>(hs2.2 it (Ne.symm hei)).trans q⟩,λb hb=>?_⟩
  ·grind
  ·have f0:=(hf b hb).1
   rw[aU ?_]
   ·exact f0
   grind
 done:=by
  nofun
  subst hP hw hK
  obtain⟨xs,hq,hx⟩:=hg
  obtain⟨b7,rv,pl,hz⟩:=I.tuple hq
  have pl:s.heap.IsTuple a b7.toArray:=pl
  obtain⟨⟨old,he⟩,hit⟩:=st
  obtain⟨g0,g1,g2,g3,g4,g5⟩:=hf it (by simp)
  have hl:b7.toArray.size=i:=by rw[iB,<-hx];exact rv.length.symm
  exact wpAny_pyNext_enum_endD (Te.draws (show X.A.in1.handled=none from I.ok.hd hc) it a (Nf pl hit) b7.toArray) he ⟨(),pl⟩ λh' eb=>⟨Z,I.turned (t':=s.toks) (λb o hb q=>eb b o hb q) g0 g1 g3 g4 g5⟩
 self:=λ_ _ _ _ _ st h=>by
  obtain⟨⟨old,he⟩,_⟩:=st
  exact Ot he h
section
variable{X:Cx}
def a4o(K:aH)(ta:TA):TI:=λσ H R=>ta σ H λvs H1=>∃a,vs=[.ref a]/\(∃xs,cO K H1 a xs)/\R (a4n K a) H1
def Ť{elts:List Expr}{k:Nat}{tpos:Pos}{l:Expr}{ta:TA}{p pos:Pos}(e0:X.K=K)(hg:Gl X "enumerate")(hm:X.mg "enumerate" = none)(ha:PA X [l] ta)(hs:starEach [l] X.env=[(false,eval l X.env)]:=by rfl) :
  PI X (.Tuple elts k tpos) (.Call (.Name "enumerate" p) [l] [] pos) (a4o K ta):=by
 subst e0;intro Y s σ H R I h;refine wB (tW I hg hm boot_enumerate (wz (jr (ha pos Y s σ H _ I h) λus s1 ⟨vs,H1,I1,r1,q1⟩=>?_) hs (by rfl)));obtain⟨a,e,⟨xs,hq⟩,q⟩:=q1;subst e;obtain⟨u,rfl,ru⟩:=vals1 r1;cases ru;obtain⟨b7,rv,pl,hz⟩:=I1.tuple hq;refine Te.À (show s1.heap.IsTuple a b7.toArray from pl) λh' he hit hk=>Ot he ?_;have I2:bG X Y σ H1 { s1 with heap:=h'}:=I1.kept (t':=s1.toks) hk;refine⟨s1⁻¹+1,[s1⁻¹+1,s1⁻¹],_,_,H1,Z,I2,Wx a s1⁻¹ (s1⁻¹+1) (gC (yc _)),⟨⟨_,he⟩,hit⟩,λb hb=>?_,q⟩;have hb':s1⁻¹<=b:=by
  grind
 exact I1.Gv hb' (I1.hok.fresh hb')
end
def ť{a:Addr}{xs:List V}{ix:List (Option Nat)}{g:TG}{tt:TT}{te:TE}{σ:St}{H1:Hp}{Q:VK}(Pv:Nat->List V->Hp->Prop)(h0:Pv 0 [] H1)(hl:∀i ys H,i<=xs.length->Pv i ys H->cO K H a xs/\ys.length<=sizeLine)
  (hs:∀(i:Nat) x ys H p H0,xs[i]?=some x->Pv i ys H->gP H p (.tup [.int i,x]) H0->g (.ref p) (rA ix σ) H0 λσ2 H2=>tt σ2 H2 λb H3=>if b=true then te σ2 H3 λv H4=>Pv (i+1) (ys++[v]) H4 else Pv (i+1) ys H3)
  (hd:∀ys H,Pv xs.length ys H->∀p,H p=none->Q (.ref p) (cN H p (.lst ys))):nD ix g tt te σ H1 Q (a4n K a):=by
 refine⟨λi m ys H=>m=xs.length-i/\i<=xs.length/\Pv i ys H,⟨xs.length,by simp,dh _,h0⟩,?_⟩;rintro i m ys H ⟨rfl,hi,p⟩;obtain⟨q,z⟩:=hl i ys H hi p;by_cases hlt:i<xs.length
 ·refine .inr ⟨⟨xs,xs[i],q,by simp[hlt]⟩,z,Pv (i+1),λys' H' p'=>⟨xs.length-(i+1),(),Z,hlt,p'⟩,λx H' y=>?_⟩;obtain⟨pp,y0,rfl,nw,ex⟩:=y;exact hs i y0 ys H pp H' (ex xs q) p nw
 ·have e:i=xs.length:=()
  subst e;exact .inl ⟨⟨xs,q,Z⟩,z,hd ys H p⟩
end L2
namespace Tz
open PyProof.Rows
variable{a z I Z96 b i1 i2:Addr}{f0 f1 x:Value}{k:Nat}{xs ys:Array Value}{Q:Value->Shared->Prop}
abbrev Zo(h:Heap)(z I Z96:Addr)(f0 f1:Value):Prop:=h.get? z=some { cls:=.type "zip",dict:=none,data:=.fields #[f0,f1,.bool false,.ref I,.ref Z96],slots:=#[]}
abbrev Po(h:Heap)(T:Addr)(a b:Value):Prop:=h.get? T=some { cls:=.type "tuple",data:=.seq #[a,b]}
section
variable{Z98:Model}{prog:Program}{w:World}{A:Around}{E:Value->Shared->Prop}{s:Shared}
def alive{Q:Option Obj->Shared->Prop}(h:Q (s.heap.get? a) s):wpAny Z98 A (loadIfAlive a) Q E s:=λ_ _ _=>h
def Yo{Q:Bool->Shared->Prop}(hz:Zo s.heap z I Z96 f0 f1)(hf:f0=.none\/∃T:Nat,f0=rawInt (T:Int))(yes:Q true s)(no:∀g b,Zo g z I Z96 f0 b->Heap.SameBut z s.heap g->Q false { s with heap:=g}) :
  wpAny (model prog w) A (Builtin.SmallTypes.ownedTupleIsFree (.ref z)) Q E s:=by
 unfold Builtin.SmallTypes.ownedTupleIsFree;refine M (gn hz Z (x:=f0) Z ?_);rcases hf with rfl|⟨T,rfl⟩
 ·exact ao yes
 ·show wpAny _ _ (loadIfAlive _ >>= _) _ _ s;refine M (alive ?_);cases c:s.heap.get? ((T:Int).toNat)with
  |none=>exact ao yes
  |some o =>
   show wpAny _ _ (field (.ref z) 1 >>= _) _ _ s;refine M (gn hz Z (x:=f1) Z ?_);by_cases e:(f1 != Value.bool true)=true
   ·rw[aF e];refine M (iQ hz (by simp) λg hg sb=>ao (no g _ hg sb))
   ·rw[aq e];exact M (ao (ao (no s.heap f1 hz ⟨Z,λ_ _=>rfl⟩)))
def Fr0(f0:Value):Prop:=f0=.none\/∃T:Nat,f0=rawInt (T:Int)
def Yp{T:Addr}{a b:Value}{Q:Unit->Shared->Prop}(hT:Po s.heap T a b)
  (h:∀g,g.get? T=some { cls:=.type "tuple",data:=.seq ((#[a,b]:Array Value).setIfInBounds k x)}->Heap.SameBut T s.heap g->Q ⟨⟩ { s with heap:=g}):wpAny (model prog w) A (updateSeq T (·.setIfInBounds k x)) Q E s:=wpAny_updateSeq_pair hT h
def item{y c d:Value}(D:ZipApart z I Z96 i1 i2 a b)(hz:Zo s.heap z I Z96 f0 f1)(hf:Fr0 f0)(hI:Po s.heap I (.ref i1) (.ref i2))(hO:Po s.heap Z96 c d)
  (h1:s.heap.IsTupleIter i1 a k) (h2:s.heap.IsTupleIter i2 b k) (t1:s.heap.IsTuple a xs) (t2:s.heap.IsTuple b ys) (hx:xs[k]?=some x) (hy:ys[k]?=some y)
  (hQ:∀g,(∃e0 e1,Zo g z I Z96 e0 e1/\Fr0 e0)->(∃c d,Po g Z96 c d)->g.IsTupleIter i1 a (k+1)->g.IsTupleIter i2 b (k+1)->Po g s⁻¹ x y->(∀c o,c≠z->c≠Z96->c≠i1->c≠i2->s.heap.get? c=some o->g.get? c=some o)->Q (.ref s⁻¹) { s with heap:=g}) :
  wpAny (model prog w) A (Builtin.«zip.__next__» ⟨[.ref z],[]⟩) (λfin s'=>∃v,fin=.done (.ret v)/\Q v s') E s:=by
 refine(show wpAny _ _ (field (.ref z) 2 >>= _) _ _ _ from M (gn hz Z (x:=.bool false) Z ((show wpAny _ _ (field (.ref z) 3 >>= _) _ _ _ from M (gn hz Z (x:=.ref I) Z (M (oF hI Z ((show wpAny _ _ (Builtin.SmallTypes.ownedTupleIsFree (.ref z) >>= _) _ _ _ from M (Yo hz hf ?_ λg0 b0 hz0 sb0=>?_))))))))))
 ·simp only[if_true];refine M (kh (M (gn hz Z (x:=.ref Z96) Z (M (iQ hz (by simp) λg1 hz1 Ey=>M ?_)))));replace hz1:Zo g1 z I Z96 .ellipsis f1:=hz1;simp only[List.zipIdx_cons,List.zipIdx_nil,List.forIn_cons,List.forIn_nil];refine M (M (Aw ((show wpAny _ _ (Builtin.SmallTypes.nextOf (.ref i1) >>= _) _ _ _ from M (Te.more (Te.keepI h1 λo e=>Ey.extBut _ _ D.i1z e) (Te.zY t1 λo e=>Ey.extBut _ _ D.l1z e) hx λg2 k1 RK=>ao ?_)))));have hO2:Po g2 Z96 c d:=RK.extBut _ _ D.TOi1 (Ey.extBut _ _ D.TOz hO);refine M (oF hO2 Z (M (Yp hO2 λg3 hO3 Zu=>M (wI (ao (M (M (Aw ?_))))))));replace hO3:Po g3 Z96 x d:=hO3;have st:∀c' o,c'≠z->c'≠i1->c'≠Z96->s.heap.get? c'=some o->g3.get? c'=some o:=λc' o n1 n2 n3 e=>Zu.extBut _ _ n3 (RK.extBut _ _ n2 (Ey.extBut _ _ n1 e));refine(show wpAny _ _ (Builtin.SmallTypes.nextOf (.ref i2) >>= _) _ _ _ from M (Te.more (Te.keepI h2 λo e=>st _ _ D.i2z D.i12.symm D.TOi2.symm e) (Te.zY t2 λo e=>st _ _ D.l2z D.l2i1 D.l2TO e) hy λg4 k2 Ŧ=>ao ?_));have hO4:Po g4 Z96 x d:=Ŧ.extBut _ _ D.TOi2 hO3;refine M (oF hO4 Z (M (Yp hO4 λg5 hO5 sb5=>M (wI (ao (ao ?_))))));replace hO5:Po g5 Z96 x y:=hO5;refine M (oF hO5 Z (M (IW ?_)));have sz:g5.objs.size=s⁻¹:=by rw[sb5.1,Ŧ.1,Zu.1,RK.1,Ey.1]
  have hz5:Zo g5 z I Z96 .ellipsis f1:=sb5.extBut _ _ D.TOz.symm (Ŧ.extBut _ _ D.i2z.symm (Zu.extBut _ _ D.TOz.symm (RK.extBut _ _ D.i1z.symm hz1)));have st5:∀c' o,c'≠z->c'≠Z96->c'≠i1->c'≠i2->s.heap.get? c'=some o->g5.get? c'=some o:=λc' o n1 n2 n3 n4 e=>sb5.extBut _ _ n2 (Ŧ.extBut _ _ n4 (st c' o n1 n3 n2 e));have k1':g5.IsTupleIter i1 a (k+1):=Te.keepI k1 λo e=>sb5.extBut _ _ D.TOi1.symm (Ŧ.extBut _ _ D.i12 (Zu.extBut _ _ D.TOi1.symm e));have k2':g5.IsTupleIter i2 b (k+1):=Te.keepI k2 λo e=>sb5.extBut _ _ D.TOi2.symm e;have zl:z<g5.objs.size:=aX hz5;refine(show wpAny _ _ (Builtin.SmallTypes.ownedTupleHandOut (.ref z) (.ref g5.objs.size) >>= _) _ _ _ from M ?_);unfold Builtin.SmallTypes.ownedTupleHandOut;have hz6:Zo (g5.push { cls:=.type "tuple",data:=.seq #[x,y]}) z I Z96 .ellipsis f1:=bB _ hz5;refine M (iQ hz6 (by simp) λg7 hz7 sb7=>?_);replace hz7:Zo g7 z I Z96 (rawInt g5.objs.size) f1:=hz7;refine iQ hz7 (by simp) λg8 hz8 sb8=>?_;replace hz8:Zo g8 z I Z96 (rawInt g5.objs.size) (.bool false):=hz8;have up:∀c' o,c'≠z->g5.get? c'=some o->g8.get? c'=some o:=λc' o n1 e=>sb8.extBut _ _ n1 (sb7.extBut _ _ n1 (bB _ e));have hT8:Po g8 g5.objs.size x y:=sb8.extBut _ _ (gC zl) (sb7.extBut _ _ (gC zl) (bU _ Z));refine ao ⟨_,Z,?_⟩;show Q (.ref g5.objs.size) _;rw[sz]at hT8 ⊢;exact hQ g8 ⟨_,_,hz8,.inr ⟨_,Z⟩⟩ ⟨_,_,up _ _ D.TOz hO5⟩ (Te.keepI k1' λo e=>up _ o D.i1z e) (Te.keepI k2' λo e=>up _ o D.i2z e) hT8 λc' o n1 n2 n3 n4 e=>up c' o n1 (st5 c' o n1 n2 n3 n4 e)
 ·rw[aq dB];refine(show wpAny _ _ (forIn (#[Value.ref i1,Value.ref i2]:Array Value) _ _ >>= _) _ _ _ from ?_);rw[<-Oo];simp only[List.forIn_cons,List.forIn_nil];refine M (M (M (eU ((show wpAny _ _ (Builtin.SmallTypes.nextOf (.ref i1) >>= _) _ _ _ from M (Te.more (Te.keepI h1 λo e=>sb0.extBut _ _ D.i1z e) (Te.zY t1 λo e=>sb0.extBut _ _ D.l1z e) hx λg2 k1 RK=>ao (ao (M (M (eU ?_))))))))));have st:∀c' o,c'≠z->c'≠i1->s.heap.get? c'=some o->g2.get? c'=some o:=λc' o n1 n2 e=>RK.extBut _ _ n2 (sb0.extBut _ _ n1 e);refine(show wpAny _ _ (Builtin.SmallTypes.nextOf (.ref i2) >>= _) _ _ _ from M (Te.more (Te.keepI h2 λo e=>st _ _ D.i2z D.i12.symm e) (Te.zY t2 λo e=>st _ _ D.l2z D.l2i1 e) hy λg4 k2 Ŧ=>ao (ao (ao ?_))));refine M (IW ?_ (show 2<=sizeLine by decide));have sz:g4.objs.size=s⁻¹:=by rw[Ŧ.1,RK.1,sb0.1]
  have hz4:Zo g4 z I Z96 f0 b0:=Ŧ.extBut _ _ D.i2z.symm (RK.extBut _ _ D.i1z.symm hz0);have hO4:Po g4 Z96 c d:=Ŧ.extBut _ _ D.TOi2 (st _ _ D.TOz D.TOi1 hO);have k1':g4.IsTupleIter i1 a (k+1):=Te.keepI k1 λo e=>Ŧ.extBut _ _ D.i12 e;have up:∀c' o,g4.get? c'=some o->(g4.push { cls:=.type "tuple",data:=.seq #[x,y]}).get? c'=some o:=λc' o e=>bB _ e;have hT:Po (g4.push { cls:=.type "tuple",data:=.seq #[x,y]}) g4.objs.size x y:=bU _ rfl;refine ao ⟨_,Z,?_⟩;show Q (.ref g4.objs.size) _;rw[sz]at hT ⊢;exact hQ _ ⟨_,_,up _ _ hz4,hf⟩ ⟨_,_,up _ _ hO4⟩ (Te.keepI k1' λo e=>up _ o e) (Te.keepI k2 λo e=>up _ o e) hT λc' o n1 n2 n3 n4 e=>up c' o (Ŧ.extBut _ _ n4 (st c' o n1 n3 e))
def ended{Q:Fin->Shared->Prop}(hh:A.handled=none)(D:ZipApart z I Z96 i1 i2 a b)(hz:Zo s.heap z I Z96 f0 f1)(hf:Fr0 f0)(hI:Po s.heap I (.ref i1) (.ref i2))
  (h1:s.heap.IsTupleIter i1 a k) (t1:s.heap.IsTuple a xs) (hx:xs[k]?=none)
  (hE:∀g e,(∀c o,c≠z->c≠Z96->c≠i1->c≠i2->s.heap.get? c=some o->g.get? c=some o)->(∃o,g.get? e=some o/\o.cls=.type "StopIteration")->E (.ref e) { s with heap:=g}) :
  wpAny (model prog w) A (Builtin.«zip.__next__» ⟨[.ref z],[]⟩) Q E s:=by
 refine(show wpAny _ _ (field (.ref z) 2 >>= _) _ _ _ from M (gn hz Z (x:=.bool false) Z ((show wpAny _ _ (field (.ref z) 3 >>= _) _ _ _ from M (gn hz Z (x:=.ref I) Z (M (oF hI Z ((show wpAny _ _ (Builtin.SmallTypes.ownedTupleIsFree (.ref z) >>= _) _ _ _ from M (Yo hz hf ?_ λg0 b0 hz0 sb0=>?_))))))))))
 ·simp only[if_true];refine M (kh (M (gn hz Z (x:=.ref Z96) Z (M (iQ hz (by simp) λg1 hz1 Ey=>M ?_)))));replace hz1:Zo g1 z I Z96 .ellipsis f1:=hz1;simp only[List.zipIdx_cons,List.zipIdx_nil,List.forIn_cons,List.forIn_nil];refine M (M (Aw ((show wpAny _ _ (Builtin.SmallTypes.nextOf (.ref i1) >>= _) _ _ _ from M (Te.QD hh (Te.keepI h1 λo e=>Ey.extBut _ _ D.i1z e) (Te.zY t1 λo e=>Ey.extBut _ _ D.l1z e) hx λg2 e2 RK st2=>?_)))));obtain⟨oe,hoe,hce⟩:=st2;have hz2:Zo g2 z I Z96 .ellipsis f1:=RK _ _ D.i1z.symm hz1;have nez:e2≠z:=λv=>by
   grind
  exact iQ hz2 (by simp) λg3 _ Zu=>hE g3 e2 (λc' o n1 _ n3 _ v=>Zu.extBut _ _ n1 (RK _ _ n3 (Ey.extBut _ _ n1 v))) ⟨oe,Zu.extBut _ _ nez hoe,hce⟩
 ·rw[aq dB];refine(show wpAny _ _ (forIn (#[Value.ref i1,Value.ref i2]:Array Value) _ _ >>= _) _ _ _ from ?_);rw[<-Oo];simp only[List.forIn_cons,List.forIn_nil];exact M (M (M (eU ((show wpAny _ _ (Builtin.SmallTypes.nextOf (.ref i1) >>= _) _ _ _ from M (Te.QD hh (Te.keepI h1 λo e=>sb0.extBut _ _ D.i1z e) (Te.zY t1 λo e=>sb0.extBut _ _ D.l1z e) hx λg2 e2 RK st2=>hE g2 e2 (λc' o n1 _ n3 _ v=>RK _ _ n3 (sb0.extBut _ _ n1 v)) st2))))))
def next_item{y c d:Value}{Q:Option Value->Shared->Prop}(D:ZipApart z I Z96 i1 i2 a b)(hz:Zo s.heap z I Z96 f0 f1)(hf:Fr0 f0)(hI:Po s.heap I (.ref i1) (.ref i2))(hO:Po s.heap Z96 c d)
  (h1:s.heap.IsTupleIter i1 a k) (h2:s.heap.IsTupleIter i2 b k) (t1:s.heap.IsTuple a xs) (t2:s.heap.IsTuple b ys) (hx:xs[k]?=some x) (hy:ys[k]?=some y)
  (hQ:∀g,(∃e0 e1,Zo g z I Z96 e0 e1/\Fr0 e0)->(∃c d,Po g Z96 c d)->g.IsTupleIter i1 a (k+1)->g.IsTupleIter i2 b (k+1)->Po g s⁻¹ x y->(∀c o,c≠z->c≠Z96->c≠i1->c≠i2->s.heap.get? c=some o->g.get? c=some o)->Q (some (.ref s⁻¹)) { s with heap:=g}) :
  wpAny (model prog w) A (pyNext (.ref z)) Q E s:=by
 have ty:s.TypeIs (.ref z) "zip" :=⟨_,hz,Z⟩;unfold pyNext;exact M (tU (mZ (name:=Str.ofString "__next__") ty Oe (gk Oe ty PySem.F.entry_zip_next (item D hz hf hI hO h1 h2 t1 t2 hx hy λg a1 a2 a3 a4 a5 a6=>ao (hQ g a1 a2 a3 a4 a5 a6)) (PySem.F.args_zip_next_1 _))))
def next_end{Q:Option Value->Shared->Prop}(hh:A.handled=none)(D:ZipApart z I Z96 i1 i2 a b)(hz:Zo s.heap z I Z96 f0 f1)(hf:Fr0 f0)(hI:Po s.heap I (.ref i1) (.ref i2))
  (h1:s.heap.IsTupleIter i1 a k) (t1:s.heap.IsTuple a xs) (hx:xs[k]?=none) (hQ:∀g,(∀c o,c≠z->c≠Z96->c≠i1->c≠i2->s.heap.get? c=some o->g.get? c=some o)->Q none { s with heap:=g}):wpAny (model prog w) A (pyNext (.ref z)) Q E s:=by
 have ty:s.TypeIs (.ref z) "zip" :=⟨_,hz,Z⟩;unfold pyNext;refine M (tU (mZ (name:=Str.ofString "__next__") ty Oe (gk Oe ty PySem.F.entry_zip_next (ended hh D hz hf hI h1 t1 hx λg e fr st=>?_) (PySem.F.args_zip_next_1 _))));obtain⟨o,ho,hc⟩:=st;exact M (tM (T:="StopIteration") (b:=true) ⟨o,ho,hc⟩ Ja (ao (hQ _ fr)))
def Ng(hz:Zo s.heap z I Z96 f0 f1)(h:Q (.ref z) s):wpAny (model prog w) A (pyIter (.ref z)) Q E s:=by
 have ty:s.TypeIs (.ref z) "zip" :=⟨_,hz,Z⟩;exact Iw ty PySem.F.slot_zip_iter (gk PySem.F.slot_zip_iter ty PySem.F.entry_zip_iter (show wpAny _ _ (ret (.ref z)) _ _ s from ao ⟨_,Z,"zip",_,ty,PySem.F.slot_zip_next.lookup,h⟩) (PySem.F.args_zip_iter_1 _))
end
abbrev z1(h:Heap)(a:Addr):Heap:=h.push { cls:=.type "tuple_iterator",data:=.fields #[.ref a,.int 0 0]}
abbrev z2(h:Heap)(a b:Addr):Heap:=(z1 h a).push { cls:=.type "tuple_iterator",data:=.fields #[.ref b,.int 0 0]}
abbrev z3(h:Heap)(a b:Addr):Heap:=(z2 h a b).push { cls:=.type "tuple",data:=.seq #[.ref h.objs.size,.ref (z1 h a).objs.size]}
abbrev z4(h:Heap)(a b:Addr):Heap:=(z3 h a b).push { cls:=.type "tuple",data:=.seq #[.none,.none]}
abbrev z5(h:Heap)(a b:Addr):Heap:=(z4 h a b).push { cls:=.type "zip",data:=.fields #[.none,.bool false,.bool false,.ref (z2 h a b).objs.size,.ref (z3 h a b).objs.size]}
def a1y(a b:Addr)(xs ys:Array Value):Meets (Builtin.«zip.__new__» ⟨[.type "zip",.ref a,.ref b],[]⟩) (λ_ R s=>s.heap.IsTuple a xs/\s.heap.IsTuple b ys/\R (.ok (.ret (.ref (z4 s.heap a b).objs.size))) { s with heap:=z5 s.heap a b}) :=
 .of_wp λprog w A R s h=>by
  obtain⟨hp,g,d,tk,os⟩:=s;obtain⟨ha,hb,h⟩:=h;have sub:=sub_zip;have hA:Heap.IsTuple (Shared.heap ⟨hp,g,d,tk,os⟩) a xs:=ha;have hB:Heap.IsTuple (Shared.heap ⟨hp.push { cls:=.type "tuple_iterator",data:=.fields #[.ref a,.int 0 0]},g,d,tk,os⟩) b ys:=Te.zY hb λo e=>bB _ e
  wp_walk using Ef hA,Ef hB
  exact⟨_,Z,h⟩
section
variable{prog:Program}{w:World}{A:Around}{E:Value->Shared->Prop}{s:Shared}
def ŧ(ha:s.heap.IsTuple a xs)(hb:s.heap.IsTuple b ys)
  (h:∀g,Zo g (s⁻¹+4) (s⁻¹+2) (s⁻¹+3) .none (.bool false)->Po g (s⁻¹+2) (.ref s⁻¹) (.ref (s⁻¹+1))->Po g (s⁻¹+3) .none .none->g.IsTupleIter s⁻¹ a 0->g.IsTupleIter (s⁻¹+1) b 0->(∀c o,s.heap.get? c=some o->g.get? c=some o)->Q (.ref (s⁻¹+4)) { s with heap:=g}) :
  wpAny (model prog w) A (call (.type "zip") [.ref a,.ref b]) Q E s:=by
 refine callType_new PySem.F.called_zip () (PySem.F.typeCall_zip_2 _ _) (PySem.F.newCall_zip_2 _ _) (λobj=>PySem.F.args_object_init_3 obj _ _) PySem.F.entry_zip_new (a1y a b xs ys) ⟨ha,hb,?_⟩;have e1:(z1 s.heap a).objs.size=s⁻¹+1:=j8 ..;have e2:(z2 s.heap a b).objs.size=s⁻¹+2:=by rw[j8,e1]
 have e3:(z3 s.heap a b).objs.size=s⁻¹+3:=by rw[j8,e2]
 have e4:(z4 s.heap a b).objs.size=s⁻¹+4:=by rw[j8,e3]
 have up:=λ(h:Heap) (u:Obj) (c:Addr) (o:Obj) (e:h.get? c=some o)=>bB u e;have k5:(z5 s.heap a b).get? (z4 s.heap a b).objs.size=some _:=bU _ rfl;have k4:(z5 s.heap a b).get? (z3 s.heap a b).objs.size=some _:=up _ _ _ _ (bU _ Z);have k3:(z5 s.heap a b).get? (z2 s.heap a b).objs.size=some _:=up _ _ _ _ (up _ _ _ _ (bU _ Z));have k2:(z5 s.heap a b).get? (z1 s.heap a).objs.size=some _:=up _ _ _ _ (up _ _ _ _ (up _ _ _ _ (bU _ Z)));have k1:(z5 s.heap a b).get? s⁻¹=some _:=up _ _ _ _ (up _ _ _ _ (up _ _ _ _ (up _ _ _ _ (bU _ Z))));show _/\_;rw[e2,e3,e4]at k5;rw[e1,e2]at k3;rw[e3]at k4;rw[e1]at k2;rw[e4];exact⟨⟨_,k5,Z⟩,h _ k5 k3 k4 ⟨_,k1,Z,Z⟩ ⟨_,k2,Z,Z⟩ λc o x=>up _ _ _ _ (up _ _ _ _ (up _ _ _ _ (up _ _ _ _ (up _ _ _ _ x))))⟩
end
end Tz
namespace L2
open PyProof.Rows
variable{K:aH}
def a4p(K:aH)(a b:Addr):It :=
 ⟨λi H=>∃xs ys x y,cO K H a xs/\cO K H b ys/\xs[i]?=some x/\ys[i]?=some y,
 λi H v H'=>∃p x y,v=.ref p/\gP H p (.tup [x,y]) H'/\(∀xs,cO K H a xs->xs[i]?=some x)/\∀ys,cO K H b ys->ys[i]?=some y,
 λi H=>∃xs,cO K H a xs/\xs.length<=i⟩
def Á{P:Program}{w:World}{nm:Str}{pos:Pos}(a b z TI TO i1 i2:Addr)(D:ZipApart z TI TO i1 i2 a b) :
  Turn P w K (.Name nm pos) (a4p K a b) [z,TI,TO,i1,i2] z (λi h=>(∃f0 f1,Tz.Zo h z TI TO f0 f1/\Tz.Fr0 f0)/\Tz.Po h TI (.ref i1) (.ref i2)/\(∃x y,Tz.Po h TO x y)/\h.IsTupleIter i1 a i/\h.IsTupleIter i2 b i) where
 mem:=by simp
 obj:=λi h st c hc=>by
  obtain⟨⟨f0,f1,hz,_⟩,hTI,⟨x,y,hTO⟩,⟨o1,e1,c1,d1⟩,⟨o2,e2,c2,d2⟩⟩:=st
  grind
 keep:=λi h h' st kk=>by
  obtain⟨⟨f0,f1,hz,ff⟩,hTI,⟨x,y,hTO⟩,h1,h2⟩:=st
  exact⟨⟨f0,f1,kk z (by simp) _ hz,ff⟩,kk TI (by simp) _ hTI,⟨x,y,kk TO (by simp) _ hTO⟩,Te.keepI h1 λo q=>kk i1 (by simp) o q,Te.keepI h2 λo q=>kk i2 (by simp) o q⟩
 item:=by
  nofun
  subst hP hw hK
  obtain⟨xs,ys,x,y,hq1,hq2,hx,hy⟩:=hg
  obtain⟨R5,rv1,ZP,hz1⟩:=I.tuple hq1
  obtain⟨its2,rv2,pl2,hz2⟩:=I.tuple hq2
  obtain⟨u1,hu1,ru1⟩:=rv1.get hx
  obtain⟨u2,hu2,ru2⟩:=rv2.get hy
  obtain⟨⟨f0,f1,hz,ff⟩,hTI,⟨x0,y0,hTO⟩,h1,h2⟩:=st
  refine Tz.next_item D hz ff hTI hTO h1 h2 (show s.heap.IsTuple a R5.toArray from ZP) (show s.heap.IsTuple b its2.toArray from pl2) (x:=u1) (y:=u2) () () λh3 a1 a2 a3 a4 a5 hk=>?_
  refine⟨_,Z,ao ?_⟩
  have lt:∀{c o},s.heap.get? c=some o->s⁻¹≠c:=λe=>gC (aX e)
  have nz:=lt hz
  have nTI:=lt hTI
  have nTO:=lt hTO
  have n1:s⁻¹≠i1:=by obtain⟨_,e,_⟩:=h1;exact lt e
  have n2:s⁻¹≠i2:=by obtain⟨_,e,_⟩:=h2;exact lt e
  have kp:∀c o,c∉[z,TO,i1,i2]->s.heap.get? c=some o->h3.get? c=some o:=λc o hc q=>by
   grind
  have I1:bG X Y σ H { s with heap:=h3}:=zG I [z,TO,i1,i2] (λc hc=>hf c ()) kp
  have hfree:H s⁻¹=none:=I.hok.fresh (aL _)
  have I2:bG X Y σ (cN H s⁻¹ (.tup [x,y])) { s with heap:=h3}:=by
   refine bG.track I1 hfree I.sz (gC I.lt) (λy c q=>?_) (λp hp=>bY (aX (I.pin p hp).1)) ⟨(by show 2<=sizeLine;decide),[u1,u2],.cons ru1 (.cons ru2 .nil),⟨_,a5,Z,_,Z⟩⟩
   obtain⟨v,oc,q1,_⟩:=I.cell y c q
   exact bY (aX q1)
  refine⟨.ref s⁻¹,_,I2,Z,⟨_,x,y,Z,gP.ou hfree,λxs' hy'=>by rw[I.zq hy' hq1];exact hx,λys' hy'=>by rw[I.zq hy' hq2];exact hy⟩,
   ⟨a1,hk TI _ D.TIz D.TITO D.TIi1 D.TIi2 hTI,a2,a3,a4⟩,λc hc=>?_⟩
  have f0:=(hf c hc).1
  rw[aU ?_]
  ·exact f0
  grind
 done:=by
  nofun
  subst hP hw hK
  obtain⟨xs,hq1,hl⟩:=hg
  obtain⟨R5,rv1,ZP,hz1⟩:=I.tuple hq1
  have l1:=rv1.length
  obtain⟨⟨f0,f1,hz,ff⟩,hTI,⟨x0,y0,hTO⟩,h1,h2⟩:=st
  refine Tz.next_end (I.ok.hd hc) D hz ff hTI h1 (show s.heap.IsTuple a R5.toArray from ZP) (by simp;omega) λh' hk=>⟨Z,zG I [z,TO,i1,i2] (λc hc=>hf c ()) λc o hc q=>?_⟩
  grind
 self:=λ_ _ _ _ _ st h=>by
  obtain⟨⟨f0,f1,hz,ff⟩,_⟩:=st
  exact Tz.Ng hz h
section
variable{X:Cx}
def a6z(K:aH)(ta:TA):TI:=λσ H R=>ta σ H λvs H1=>∃a b,vs=[.ref a,.ref b]/\(∃xs,cO K H1 a xs)/\(∃ys,cO K H1 b ys)/\R (a4p K a b) H1
def a1z{nm:Str}{tpos:Pos}{l m:Expr}{ta:TA}{p pos:Pos}(e0:X.K=K)(hg:Gl X "zip")(hm:X.mg "zip" = none)(ha:PA X [l,m] ta)(hs:starEach [l,m] X.env=[(false,eval l X.env),(false,eval m X.env)]:=by rfl)(hs2:starEach [m] X.env=[(false,eval m X.env)]:=by rfl) :
  PI X (.Name nm tpos) (.Call (.Name "zip" p) [l,m] [] pos) (a6z K ta):=by
 subst e0;intro Y s σ H R I h;refine wB (tW I hg hm boot_zip ?_);refine wz (jr (ha pos Y s σ H _ I h) λus s1 ⟨vs,H1,I1,r1,q1⟩=>?_) (by rw[hs,hs2]) (by rw[hs2];rfl);obtain⟨a,b,e,⟨xs,hq1⟩,⟨ys,hq2⟩,q⟩:=q1;subst e;obtain⟨u1,u2,rfl,r1,r2⟩:=vals2 r1;cases r1;cases r2;obtain⟨R5,rv1,ZP,hz1⟩:=I1.tuple hq1;obtain⟨its2,rv2,pl2,hz2⟩:=I1.tuple hq2;have pa:s1.heap.IsTuple a R5.toArray:=ZP;have pb:s1.heap.IsTuple b its2.toArray:=pl2;refine Tz.ŧ pa pb λh' hz hTI hTO h1 h2 hk=>Tz.Ng hz ?_;have I2:bG X Y σ H1 { s1 with heap:=h'}:=I1.kept (t':=s1.toks) hk;have la:a<s1⁻¹:=by obtain⟨o,e,_⟩:=pa;exact aX e
 have lb:b<s1⁻¹:=by obtain⟨o,e,_⟩:=pb;exact aX e
 refine⟨s1⁻¹+4,[s1⁻¹+4,s1⁻¹+2,s1⁻¹+3,s1⁻¹,s1⁻¹+1],_,_,H1,Z,I2,Á a b _ _ _ _ _ (zipApart_new la lb),⟨⟨_,_,hz,.inl Z⟩,hTI,⟨_,_,hTO⟩,h1,h2⟩,λc hc=>?_,q⟩;have hb':s1⁻¹<=c:=by
  grind
 exact I1.Gv hb' (I1.hok.fresh hb')
end
def a1A{a b:Addr}{xs ys:List V}{ix:List (Option Nat)}{g:TG}{tt:TT}{te:TE}{σ:St}{H1:Hp}{Q:VK}(el:xs.length=ys.length)(Pv:Nat->List V->Hp->Prop)(h0:Pv 0 [] H1)(hl:∀i us H,i<=xs.length->Pv i us H->cO K H a xs/\cO K H b ys/\us.length<=sizeLine)
  (hs:∀(i:Nat) x y us H p H0,xs[i]?=some x->ys[i]?=some y->Pv i us H->gP H p (.tup [x,y]) H0->g (.ref p) (rA ix σ) H0 λσ2 H2=>tt σ2 H2 λb H3=>if b=true then te σ2 H3 λv H4=>Pv (i+1) (us++[v]) H4 else Pv (i+1) us H3)
  (hd:∀us H,Pv xs.length us H->∀p,H p=none->Q (.ref p) (cN H p (.lst us))):nD ix g tt te σ H1 Q (a4p K a b):=by
 refine⟨λi m us H=>m=xs.length-i/\i<=xs.length/\Pv i us H,⟨xs.length,by simp,dh _,h0⟩,?_⟩;rintro i m us H ⟨rfl,hi,p⟩;obtain⟨q,q2,z⟩:=hl i us H hi p;by_cases hlt:i<xs.length
 ·refine .inr ⟨⟨xs,ys,xs[i],ys[i],q,q2,by simp[hlt],by simp[el▸hlt]⟩,z,Pv (i+1),λys' H' p'=>⟨xs.length-(i+1),(),Z,hlt,p'⟩,λx H' y=>?_⟩;obtain⟨pp,x0,y0,rfl,nw,ex,ey⟩:=y;exact hs i x0 y0 us H pp H' (ex xs q) (ey ys q2) p nw
 ·have e:i=xs.length:=()
  subst e;exact .inl ⟨⟨xs,q,aL _⟩,z,hd us H p⟩
end L2
namespace Tm
open PyProof.Rows
section
variable{prog:Program}{w:World}{A:Around}{E:Value->Shared->Prop}{s:Shared}{t:Addr}{xs:Array (Int×Tok)}
def a1B{Q:Value->Shared->Prop}(hh:A.handled=none)(ht:s.heap.IsTuple t (intItems xs))(hne:0<xs.size)
  (h:∀v g tk,(intItems xs)[argBest (λi j=>decide (numAt xs i>numAt xs j)) (xs.size-1)]?=some v->(∀b o,s.heap.get? b=some o->g.get? b=some o)->Q v { s with heap:=g,toks:=tk}):wpAny (model prog w) A (call (.builtin "max") [.ref t]) Q E s:=by
 have lt:t<s⁻¹:=by
  obtain⟨_,e,_⟩:=ht;exact aX e
 refine call_max_walk (Ef ht ⟨s⁻¹,[s⁻¹,t],[s⁻¹],_,_,_,_,Z,Walks.tuple (A:=A.in1) hh _ t (bY lt) (intItems xs),⟨⟨_,bU _ Z,Z,Z⟩,Te.zY ht λo e=>bB _ e⟩,λb hb=>?_,by simpa [intItems]using hne,CmpOf.ints_gt (numAt xs) (λ_ _=>intItems_at),λv g tk hP hk=>?_⟩)
 ·show b<(s.heap.push _).objs.size;rw[j8];grind
 ·refine h v g tk (by simpa [intItems]using hP) λb o e=>hk b o (λhm=>?_) (bB _ e);rw[bJ.mp hm]at e;exact absurd (aX e) (u6 _)
end
end Tm
namespace L2
open PyProof.Rows
section
variable{X:Cx}{K:aH}
inductive a6A(K:aH)(xs:List V)(H:Hp)(Q:VK):Prop
 |mk (p ns:_) (_:xs=[.ref p]) (_:cO K H p (List.map V.int ns)) (_:0<ns.length) (_:∀Z98,Z98∈ns->(∀a∈ns,a<=Z98)->Q (.int Z98) H)
def Â(e:X.K=K)(cm:X.calm=true):jF X (.builtin "max") (a6A K):=by
 subst e;intro Y s σ H xs us Q I r h;obtain⟨p,ns,rfl,hL,hne,q⟩:=h;obtain⟨u,rfl,rx⟩:=vals1 r;cases rx;obtain⟨b7,r',pl,hz⟩:=I.tuple hL;have pl:s.heap.IsTuple p b7.toArray:=pl;have hi:=ints_of r';have hlen:=hi.length;obtain⟨zs,ez⟩:=hi.allInts.items;have hsz:0<zs.size:=by
  have:=congrArg Array.size ez;rw[iB]at this;have e2:(intItems zs).size=zs.size:=by simp[intItems]
  omega
 have en:zs.toList.map (·.1)=ns:=by
  rw[<-nums_intItems,<-ez];exact hi.numsOf
 refine Tm.a1B (xs:=zs) (I.ok.hd cm) () hsz λv h' tk hv hk=>?_;obtain⟨t,rfl⟩:=intItems_at hv;obtain⟨h1,h2⟩:=argBest_gt (numAt zs) (zs.size-1);refine⟨.int _,H,I.kept hk,⟨t,Z⟩,q _ ?_ λa ha=>?_⟩
 ·rw[numAt_eq,<-en];exact getD_mem (by rw[aJ,rY];omega)
 ·rw[<-en]at ha;obtain⟨j,hj,rfl⟩:=mem_getD ha;rw[aJ,rY]at hj;rw[<-numAt_eq];exact h2 j ()
end
end L2
namespace K
open L2 Lw Bg
variable{K:aH}{P:Program}{w:World}{mg:Str->Option Value}{base:Heap}{T:cI}{wd j':Nat}{E G us:List Int}{σ:St}{α:Type}{B:List bW}{g:TG}
def in2{x a b:Int}:inV (V.int x) [V.int a,V.int b]=true↔x=a\/x=b:=by
 show(ĉ (V.int a) (V.int x)||(ĉ (V.int b) (V.int x)||false))=true↔_;show((a==x)||((b==x)||false))=true↔_;grind
theorem Nh{P:Program}{w:World}:∀bs:List Bool,Paired (λv (x:Bool)=>∀u,cQ v u->(Dk.Jz P w).is x u=true) (bs.map V.bl) bs
 | []=>.nil
 |b::bs=>.cons (λu e=>by
   have e:u=Value.bool b:=e
   rw[e]
   exact O4 b) (Nh bs)
section
variable{C:Addr}{ex:List (Str×V)}{n:Nat}{ts:List bW}{ws:List Int}
def G9(B:Bl mg)(d_:Dm K C "shared" "Watch.shared" oY xg)(At:Hp->Addr->Prop):bw P w K mg base fX 1 d_.f d_.fd xg (JL (Dk.Jz P w) (pqW ws) At):=by
 exists d_.F.ok GJ;obtain⟨d,a,m,st,rfl,hD,ha,ok,m5,q⟩:=h;have l1:st.length=m:=ok.1;refine⟨_,(aD (bF (jG vh Z B.tuple () (O (jT ["number"] [none]  (by kernel_rfl) Z (Cu (K:=K) Z (pv 1)) (λ_ _ _ _ _=>(aN 0 (show(["number"]:List Str).Nodup by decide))) (λ_ _ _ _ _=>gA) λ_ _ _ _ _=>(zu oH (pv 0) aA)) aj)))),⟨_,Z,a,Z,⟨_,cO.of ha⟩,?_⟩⟩;refine Qx (K:=K) (a:=a) (xs:=st.map V.int) (λi ys G=>G=H/\ys=((st.take i).map λx=>decide (x=2)).map V.bl) ⟨Z,Z⟩ (λi ys G hi ⟨e,ey⟩=>⟨by rw[e];exact cO.of ha,?_⟩) (λi x ys G hx ⟨e,ey⟩=>?_) (λys G ⟨e,ey⟩ pr hpr=>?_)
 ·rw[ey,aJ,aJ,d7];exact dU (cL ())
 ·subst e;rw[fK]at hx;obtain⟨y,hy,rfl⟩:=lC.mp hx;refine⟨_,Z,Z,Z,?_⟩;rw[ey,lG,hy,dH,dH];congr 1;show [V.bl (decide (V.int y=V.int 2))]=[V.bl (decide (y=2))];congr 2;grind
 ·subst e;rw[aJ,iC]at ey;have n1:=gP.ou (o:=.lst ys) hpr;generalize cN G pr (.lst ys)=G1 at n1 ⊢;refine⟨pr,ys,Z,.inl ⟨bC.of n1.here,λl hl=>?_⟩⟩;have n2:=gP.ou (o:=.tup ys) hl;refine q l _ (n1.same.trans n2.same) ⟨ys,n2.here,?_⟩;rw[ey];exact Nh _
def Hf(B:Bl mg)(Bz:mg "zip" = none)(d_:Dm K C "joined" "Watch.joined" oZ kE)(At:Hp->Addr->Prop):bw P w K mg base fX 1 d_.f d_.fd kE (JM (pqW ws) At):=by
 exists d_.F.ok GK;obtain⟨d,a,b,m,st,t,rfl,hD,ha,hb,ok,ok',m5,sh,q⟩:=h;have l1:st.length=m:=ok.1;have l2:t.length=m:=ok'.1;refine⟨_,(aD (bF (cH (O (jG vh Z B.tuple () (O (jT ["pair"] [none]  (by kernel_rfl) Z (a1z (K:=K) Z Z Bz (O (pv 1) (O (pv 2) aj))) (λ_ _ _ _ _=>(aN 0 (show(["pair"]:List Str).Nodup by decide))) (λ_ _ _ _ _=>gA) λ_ _ _ _ _=>(bh (Â (K:=K) Z Z) Z B.max () (O (pv 0) aj))) aj)) aj)))),⟨_,Z,_,Z,a,b,Z,⟨_,cO.of ha⟩,⟨_,cO.of hb⟩,?_⟩⟩;have lz:(List.zipWith max st t).length=m:=()
 refine a1A (K:=K) (a:=a) (b:=b) (xs:=st.map V.int) (ys:=t.map V.int) () (λi us G=>aK H G/\us=((List.zipWith max st t).take i).map V.int) ⟨aK.refl _,Z⟩ (λi us G hi ⟨sG,ey⟩=>⟨cO.of (sG _ _ ha),cO.of (sG _ _ hb),?_⟩) (λi x y us G p G0 hx hy ⟨sG,ey⟩ nw=>?_) (λus G ⟨sG,ey⟩ pr hpr=>?_)
 ·rw[ey,aJ,d7];exact dU (cL ())
 ·rw[fK]at hx hy;obtain⟨x',hx',rfl⟩:=lC.mp hx;obtain⟨y',hy',rfl⟩:=lC.mp hy;refine⟨_,Z,p,[x',y'],Z,cO.of nw.here,(),λZ98 hM hb'=>⟨sG.trans nw.same,?_⟩⟩;have eM:Z98=max x' y':=by
   have h1:=hb' x' (aO ..);have h2:=hb' y' (aY _ (aO ..));grind
  have ez:(List.zipWith max st t)[i]?=some Z98:=by
   rw[List.getElem?_zipWith,hx',hy',eM]
  rw[ey,lG,ez,dH];rfl
 ·rw[aJ,l1,<-lz,iC]at ey;have n1:=gP.ou (o:=.lst us) hpr;generalize cN G pr (.lst us)=G1 at n1 ⊢;refine⟨pr,us,Z,.inl ⟨bC.of n1.here,λl hl=>?_⟩⟩;have n2:=gP.ou (o:=.tup us) hl;generalize cN G1 l (.tup us)=G2 at n2 ⊢;refine⟨(),λp3 G3 n3=>q p3 _ G3 (sG.trans (n1.same.trans (n2.same.trans n3.same))) n3.here (.cons ⟨l,Z,?_⟩ .nil)⟩;show G3 l=some (.tup ((List.zipWith max st t).map V.int));rw[<-ey];exact n3.same _ _ n2.here
def LR(B:Bl mg)(d_:Dm K C "tied" "Watch.tied" pG sU)(At:Hp->Addr->Prop)(Ti:Int×Int->Prop):bw P w K mg base fX 1 d_.f d_.fd sU (Ye (pqW ws) At Ti):=by
 exists d_.F.ok Ly;obtain⟨d,a,p,m,fZ,bO,t,st,rfl,hD,ha,ok,m5,o1,o2,ne,ti,hp,q⟩:=h;have l1:st.length=m:=ok.1;have hu:(A.deeper (PyProof.Rows.envOfC "Watch.tied" (aB pG) s⁻¹ d_.f dz)).units+64<cLine:=by have:=hr.un;omega
 refine⟨_,(aG (dZ (aP (Hq (K:=K) Z hu) (bh (CT (K:=K) Z) Z B.sorted () (O (cH (O (aR (aV (K:=K) Z) (pv 1) (pv 2)) (O (aR (aV (K:=K) Z) (pv 1) (pv 3)) aj))) aj)) (cH (O aA (O aA aj))))
   (aD (bF (cH (O (aZ (O (pv 1) (O aA aj))) aj))))
   bT)
   (aD (bF (cH (O (aZ (O (jG vh Z B.tuple () (O (jT ["k","number","one","other"] [none,none,some 2,some 3]  (by kernel_rfl) Z (Ť (K:=K) Z Z B.enumerate (O (pv 1) aj)) (λ_ _ _ _ _=>(jN (K:=K) (n:=2) Z Z (b8 (aN 0 (show(["k","number","one","other"]:List Str).Nodup by decide)) (b8 (aN 1 (show(["k","number","one","other"]:List Str).Nodup by decide)) jz)))) (λ_ _ _ _ _=>gA) λ_ _ _ _ _=>(oG (aP (a0u (K:=K) Z) (pv 0) (aZ (O (pv 2) (O (pv 3) aj))) (by with_unfolding_all rfl)) (bh (YZ Z) Z B.max () (O (pv 1) (O aA aj))) (pv 1))) aj)) (O aA aj))) aj))))),?_⟩
 refine⟨_,Z,_,Z,a,_,_,_,Z,Z,cO.of ha,ixS (),_,Z,_,Z,a,_,_,_,Z,Z,cO.of ha,ixS (),(),λp1 H1 n1=>?_⟩;refine⟨p1,[gG st fZ,gG st bO],Z,bC.of n1.here,by show 2<64;decide,λp2 H2 zs n2 pm sd=>?_⟩;refine⟨(),λp3 H3 n3=>?_⟩;have sJ:=n1.same.trans (n2.same.trans n3.same);refine⟨_,_,.lst (bC.of (n3.same _ _ n2.here)) (wQ.ints zs),.lst (bC.of (show H3 p3=some (.lst ([0,2].map V.int))from n3.here)) (wQ.ints [0,2]),shaped_ints zs,shaped_ints _,_,Z,?_⟩;rw[Js];have key:zs=[0,2]↔((gG st fZ=0/\gG st bO=2)\/(gG st fZ=2/\gG st bO=0)):=by
  constructor
  ·intro e;have pm:=pm;rw[e]at pm;have m1:gG st fZ∈([0,2]:List Int):=pm.mem_iff.mpr (aO ..);have m2:gG st bO∈([0,2]:List Int):=pm.mem_iff.mpr (aY _ (aO ..));have m3:(0:Int)∈[gG st fZ,gG st bO]:=pm.mem_iff.mp (aO ..);have m4:(2:Int)∈[gG st fZ,gG st bO]:=pm.mem_iff.mp (aY _ (aO ..));simp only[List.mem_cons,List.not_mem_nil,or_false]at m1 m2 m3 m4;omega
  ·intro h;have ln:=pm.length_eq
   match zs,ln,pm,sd with
   | [x,y],_,pm,sd =>
    have hxy:x<=y:=(Ai.mp sd).1 y (bJ.mpr Z);have m1:x∈[gG st fZ,gG st bO]:=pm.mem_iff.mp (aO ..);have m2:y∈[gG st fZ,gG st bO]:=pm.mem_iff.mp (aY _ (aO ..));have m3:gG st fZ∈[x,y]:=pm.mem_iff.mpr (aO ..);have m4:gG st bO∈[x,y]:=pm.mem_iff.mpr (aY _ (aO ..));simp only[List.mem_cons,List.not_mem_nil,or_false]at m1 m2 m3 m4;have e1:x=0:=()
    have e2:y=2:=()
    rw[e1,e2]
 by_cases c:(gG st fZ=0/\gG st bO=2)\/(gG st fZ=2/\gG st bO=0)
 ·rw[bL (key.mpr c)];refine cX ⟨_,Z,a,Z,⟨_,cO.of (sJ _ _ ha)⟩,?_⟩;have ll:(uT st fZ bO).length=m:=by unfold uT;rw[aJ,qu];exact l1
  refine ť (K:=K) (a:=a) (xs:=st.map V.int) (λi us G=>aK H3 G/\us=((uT st fZ bO).take i).map V.int) ⟨aK.refl _,Z⟩ (λi us G hi ⟨sG,ey⟩=>⟨cO.of (sG _ _ (sJ _ _ ha)),?_⟩) (λi x us G pp G0 hx ⟨sG,ey⟩ nw=>?_) (λus G ⟨sG,ey⟩ pr hpr=>?_)
  ·rw[ey,aJ,d7];exact dU (cL ())
  ·rw[fK]at hx;obtain⟨x',hx',rfl⟩:=lC.mp hx;have il:i<st.length:=(fu.mp hx').1;have ea:gG st i=x':=by
    unfold gG;rw[fV,hx'];rfl
   refine⟨pp,_,Z,cO.of nw.here,Z,_,_,Z,_,_,Z,Z,?_⟩;refine⟨_,Z,_,Z,_,Z,(),λp4 G4 n4=>⟨p4,_,Z,.inr (cO.of n4.here),Z,Z,_,Z,?_⟩⟩;have s4:=sG.trans (nw.same.trans n4.same);have el:(uT st fZ bO)[i]?=some (if i=fZ\/i=bO then max x' 1 else x'):=by
    unfold uT;rw[fK,Ol il,<-ea];rfl
   have nx:∀z:Int,z=(if i=fZ\/i=bO then max x' 1 else x')->us++[V.int z]=((uT st fZ bO).take (i+1)).map V.int:=λz hz=>by
    rw[ey,lG,el,dH,hz];rfl
   by_cases ci:i=fZ\/i=bO
   ·rw[show(if false=true then !inV (V.int (i:Int)) [V.int (fZ:Int),V.int (bO:Int)]else inV (V.int (i:Int)) [V.int (fZ:Int),V.int (bO:Int)])=true by
     rw[aq dB];exact in2.mpr ()]
    refine iM ⟨_,Z,_,_,Z,s4,nx _ ?_⟩;rw[aF ci];by_cases c1:(1:Int)>x'
    ·rw[aF c1];omega
    ·rw[aq c1];omega
   ·rw[show(if false=true then !inV (V.int (i:Int)) [V.int (fZ:Int),V.int (bO:Int)]else inV (V.int (i:Int)) [V.int (fZ:Int),V.int (bO:Int)])=false by
     rw[aq dB];exact xZ.mpr (λz=>ci (by have:=in2.mp z;omega))]
    exact cX ⟨_,Z,s4,nx _ (by rw[aq ci])⟩
  ·rw[aJ,l1,<-ll,iC]at ey;have m1:=gP.ou (o:=.lst us) hpr;generalize cN G pr (.lst us)=G1 at m1 ⊢;refine⟨pr,us,Z,.inl ⟨bC.of m1.here,λl hl=>?_⟩⟩;have m2:=gP.ou (o:=.tup us) hl;generalize cN G1 l (.tup us)=G2 at m2 ⊢;refine⟨(),λp4 G3 m3=>⟨(),λp5 G4 m4=>q p5 _ G4 (sJ.trans (sG.trans (m1.same.trans (m2.same.trans (m3.same.trans m4.same))))) m4.here ?_⟩⟩;show Paired _ _ (if(gG st fZ=0/\gG st bO=2)\/(gG st fZ=2/\gG st bO=0)then [(uT st fZ bO,(0:Int))]else [(st,0)]);rw[aF c];refine .cons ⟨p4,l,Z,m4.same _ _ m3.here,?_⟩ .nil;show G4 l=some (.tup ((uT st fZ bO).map V.int));rw[<-ey];exact m4.same _ _ (m3.same _ _ m2.here)
 ·rw[cW (λz=>c (key.mp z))];refine iM ⟨_,Z,(),λp4 H4 n4=>⟨(),λp5 H5 n5=>q p5 _ H5 (sJ.trans (n4.same.trans n5.same)) n5.here ?_⟩⟩;show Paired _ _ (if(gG st fZ=0/\gG st bO=2)\/(gG st fZ=2/\gG st bO=0)then [(uT st fZ bO,(0:Int))]else [(st,0)]);rw[aq c];exact .cons ⟨p4,a,Z,n5.same _ _ n4.here,ha.keep (.of (sJ.trans (n4.same.trans n5.same)))⟩ .nil
end
inductive Yq(K:aH)(C:Addr)(vs:List V)(H:Hp)(Q:VK)(u_3:XK):Prop
 |mk (d dx g t:Addr) (n:Nat) (xs:List V) (ts:List bW) (v:V) (o:Option (List Int)) (_:vs=[.ref d,.ref g,v]) (_:H d=some (.ins C dx [])) (_:cO K H g [.int n,.ref t]) (_:H t=some (.lst xs)) (_:Paired (oN H) xs ts) (_:ts.length<=1000) (_:n<=100) (_:WtV K H v o) (_:(∀ws,o=some ws->ws.length<=200)) (_:Z8 n o=true) (_:∀H',Sd d H H'->Fz K C [] n ts (wtL n o) H' d->Q .non H')
inductive a1C(K:aH)(C:Addr)(vs:List V)(H:Hp)(Q:VK)(u_3:XK):Prop
 |mk (d dx g t:Addr) (n c:Nat) (xs:List V) (ts:List bW) (v:V) (o:Option (List Int)) (_:vs=[.ref d,.ref g,.int c,v]) (_:c<=4) (_:H d=some (.ins C dx [])) (_:cO K H g [.int n,.ref t]) (_:H t=some (.lst xs)) (_:Paired (oN H) xs ts) (_:ts.length<=1000) (_:n<=100) (_:WtV K H v o) (_:(∀ws,o=some ws->ws.length<=200)) (_:Z8 n o=true) (_:∀H',Sd d H H'->Fz K C [("many",.int c)] n ts (wtL n o) H' d->Q .non H')
def Sd.a7T{d C dx:Addr}{fs:List (Str×V)}{H H':Hp}{a:Addr}{xs:List V}(e:Sd d H H')(hd:H d=some (.ins C dx fs))(h:bC K H a xs):bC K H' a xs:=by
 rcases h with(h|⟨o,h⟩)|h
 ·exact .inl (.inl (e _ _ (λz=>by grind) h))
 ·exact .inl (.inr ⟨o,e _ _ (λz=>by grind) h⟩)
 ·exact .inr h
def Sd.tupI{d C dx:Addr}{fs:List (Str×V)}{H H':Hp}{a:Addr}{xs:List V}(e:Sd d H H')(hd:H d=some (.ins C dx fs))(h:cO K H a xs):cO K H' a xs:=by
 rcases h with(h|⟨o,h⟩)|h
 ·exact .inl (.inl (e _ _ (λz=>by grind) h))
 ·exact .inl (.inr ⟨o,e _ _ (λz=>by grind) h⟩)
 ·exact .inr h
def Sd.wtI{d C dx:Addr}{fs:List (Str×V)}{H H':Hp}(e:Sd d H H')(hd:H d=some (.ins C dx fs)):∀{v:V}{o:Option (List Int)},WtV K H v o->WtV K H' v o
 |_,none,h=>h
 |_,some _,⟨a,e1,h⟩=>⟨a,e1,e.a7T hd h⟩
def Sd.a4q{d C dx:Addr}{fs:List (Str×V)}{H H':Hp}(e:Sd d H H')(hd:H d=some (.ins C dx fs)){v:V}{t:Int×Int}(h:oN H v t):oN H' v t:=by
 obtain⟨p,e1,h⟩:=h;exact⟨p,e1,e _ _ (λz=>by grind) h⟩
def Ma(B:Bl mg)(Ct:Ŝ mg)(cF:qL K mg)(dw:Dp K mg)(jV:Fq K mg)(jy:Dn K mg "is_below" fP uf)(tE:Dn K mg "weights_of" jR Gm):bw P w K mg base fX 5 dw.bM.f dw.bM.fd Gk (Yq K dw.C):=by
 have gQ:bw P w K mg base fX 4 _ _ _ _:=(qM B cF dw.cl dw.fH dw.gU dw.fO).mono ();have Ũ:bw P w K mg base fX 4 _ _ _ _:=(vB B Ct jV jy tE).mono ();refine dw.bM.F.ok Dh (λvs H Q E h=>?_) (λdz A outer s H vs Q E hr h=>?_)
 ·obtain⟨d,dx,g,t,n,xs,ts,v,o,rfl,_⟩:=h;rfl
 obtain⟨d,dx,g,t,n,xs,ts,v,o,rfl,hd,hg,ht,pT,lT,n1,hV,hw,ok,q⟩:=h;refine⟨_,(aG (gJ (Qs Z cF.m cF.uR gQ hr cF.bM.b .nil cu (O (pv 0) (O (pv 1) (O (aZ aj) (O (aZ aj) aj))))))
   (aD (Ay (pv 0) (bx Ũ hr Z tE.m tE.F.kp tE.b .nil cu (O (aR (aV (K:=K) Z) (pv 1) aA) (O (pv 2) aj))) Z))),?_⟩
 refine⟨_,Z,_,Z,(),λp1 H1 m1=>⟨(),λp2 H2 m2=>?_⟩⟩;have s2:aK H H2:=m1.same.trans m2.same;have lx:xs.length<=1000:=by rw[aM pT];exact lT
 refine⟨d,dx,g,t,n,xs,.ref p1,.ref p2,Z,s2 _ _ hd,s2.wR hg,s2 _ _ ht,lx,λpg pt H3 s3 h3d h3g h3t=>?_⟩;have e3:Sd d H H3:=λc o hc hh=>s3 c o hc (s2 _ _ hh);have np1:p1≠d:=λe=>by have:=m1.fresh;grind
 have np2:p2≠d:=λe=>by have:=m2.fresh;rw[e,m1.same _ _ hd]at this;cases this
 have h3l:H3 p1=some (.tup []):=s3 _ _ np1 (m2.same _ _ m1.here);have h3u:H3 p2=some (.tup []):=s3 _ _ np2 m2.here;refine⟨_,Z,g,_,_,V.int n,Z,Z,e3.tupI hd hg,bR (j:=0) Z,_,Z,n,v,o,Z,e3.wtI hd hV,n1,hw,ok,λpw H4 s4 f4 h4=>?_⟩;refine⟨_,Z,d,_,_,_,Z,s4 _ _ h3d,dw.cl,dw.fG,(by show 3<1000;decide),?_⟩;generalize hU:cN H4 d _=U;have u1:vo H4 d (.ins dw.C dx (fsQ pg (.ref p1) (.ref p2)++([]++[(("weights" : Str),V.ref pw)]))) U:=by rw[<-hU];exact vo.ou
 have up:∀c u,c≠d->H3 c=some u->U c=some u:=λc u hc e=>by rw[u1.rest c hc];exact s4 _ _ e
 have nd:∀c u,(∀dx fs,u≠.ins dw.C dx fs)->H3 c=some u->c≠d:=λc u hn e z=>by grind
 have dpw:pw≠d:=λe=>by grind
 exact q U (λc u hc e=>up c u hc (e3 c u hc e)) ⟨dx,pg,pt,xs,p1,p2,pw,u1.here,up _ _ (nd _ _ (λ_ _ z=>by cases z) h3g) h3g,up _ _ (nd _ _ (λ_ _ z=>by cases z) h3t) h3t,Paired.cC pT λ_ _ h=>by
  obtain⟨pp,e1,e2⟩:=e3.a4q hd h;exact⟨pp,e1,up _ _ (nd _ _ (λ_ _ z=>by cases z) e2) e2⟩,lT,up _ _ np1 h3l,up _ _ np2 h3u,by rw[u1.rest _ dpw];exact h4⟩
def Mf(B:Bl mg)(Ct:Ŝ mg)(cF:qL K mg)(dD:Dr K mg)(jV:Fq K mg)(jy:Dn K mg "is_below" fP uf)(tE:Dn K mg "weights_of" jR Gm):bw P w K mg base fX 5 dD.bM.f dD.bM.fd Gk (Yq K dD.C):=by
 have gQ:bw P w K mg base fX 4 _ _ _ _:=(qM B cF dD.cl dD.fH dD.gU dD.fO).mono ();have Ũ:bw P w K mg base fX 4 _ _ _ _:=(vB B Ct jV jy tE).mono ();refine dD.bM.F.ok Dj (λvs H Q E h=>?_) (λdz A outer s H vs Q E hr h=>?_)
 ·obtain⟨d,dx,g,t,n,xs,ts,v,o,rfl,_⟩:=h;rfl
 obtain⟨d,dx,g,t,n,xs,ts,v,o,rfl,hd,hg,ht,pT,lT,n1,hV,hw,ok,q⟩:=h;refine⟨_,(aG (gJ (Qs Z cF.m cF.uR gQ hr cF.bM.b .nil cu (O (pv 0) (O (pv 1) (O (aZ aj) (O (aZ aj) aj))))))
   (aD (Ay (pv 0) (bx Ũ hr Z tE.m tE.F.kp tE.b .nil cu (O (aR (aV (K:=K) Z) (pv 1) aA) (O (pv 2) aj))) Z))),?_⟩
 refine⟨_,Z,_,Z,(),λp1 H1 m1=>⟨(),λp2 H2 m2=>?_⟩⟩;have s2:aK H H2:=m1.same.trans m2.same;have lx:xs.length<=1000:=by rw[aM pT];exact lT
 refine⟨d,dx,g,t,n,xs,.ref p1,.ref p2,Z,s2 _ _ hd,s2.wR hg,s2 _ _ ht,lx,λpg pt H3 s3 h3d h3g h3t=>?_⟩;have e3:Sd d H H3:=λc o hc hh=>s3 c o hc (s2 _ _ hh);have np1:p1≠d:=λe=>by have:=m1.fresh;grind
 have np2:p2≠d:=λe=>by have:=m2.fresh;rw[e,m1.same _ _ hd]at this;cases this
 have h3l:H3 p1=some (.tup []):=s3 _ _ np1 (m2.same _ _ m1.here);have h3u:H3 p2=some (.tup []):=s3 _ _ np2 m2.here;refine⟨_,Z,g,_,_,V.int n,Z,Z,e3.tupI hd hg,bR (j:=0) Z,_,Z,n,v,o,Z,e3.wtI hd hV,n1,hw,ok,λpw H4 s4 f4 h4=>?_⟩;refine⟨_,Z,d,_,_,_,Z,s4 _ _ h3d,dD.cl,dD.fG,(by show 3<1000;decide),?_⟩;generalize hU:cN H4 d _=U;have u1:vo H4 d (.ins dD.C dx (fsQ pg (.ref p1) (.ref p2)++([]++[(("weights" : Str),V.ref pw)]))) U:=by rw[<-hU];exact vo.ou
 have up:∀c u,c≠d->H3 c=some u->U c=some u:=λc u hc e=>by rw[u1.rest c hc];exact s4 _ _ e
 have nd:∀c u,(∀dx fs,u≠.ins dD.C dx fs)->H3 c=some u->c≠d:=λc u hn e z=>by grind
 have dpw:pw≠d:=λe=>by grind
 exact q U (λc u hc e=>up c u hc (e3 c u hc e)) ⟨dx,pg,pt,xs,p1,p2,pw,u1.here,up _ _ (nd _ _ (λ_ _ z=>by cases z) h3g) h3g,up _ _ (nd _ _ (λ_ _ z=>by cases z) h3t) h3t,Paired.cC pT λ_ _ h=>by
  obtain⟨pp,e1,e2⟩:=e3.a4q hd h;exact⟨pp,e1,up _ _ (nd _ _ (λ_ _ z=>by cases z) e2) e2⟩,lT,up _ _ np1 h3l,up _ _ np2 h3u,by rw[u1.rest _ dpw];exact h4⟩
def Hg(B:Bl mg)(Ct:Ŝ mg)(cF:qL K mg)(bN:v5 K mg)(jV:Fq K mg)(jy:Dn K mg "is_below" fP uf)(tE:Dn K mg "weights_of" jR Gm):bw P w K mg base fX 5 bN.bM.f bN.bM.fd X3 (a1C K bN.C):=by
 have gQ:bw P w K mg base fX 4 _ _ _ _:=(qM B cF bN.cl bN.fH bN.gU bN.fO).mono ();have Ũ:bw P w K mg base fX 4 _ _ _ _:=(vB B Ct jV jy tE).mono ();have ŗ:bw P w K mg base fX 4 _ _ _ _:=(yE B jV jy).mono ();refine bN.bM.F.ok zQ (λvs H Q E h=>?_) (λdz A outer s H vs Q E hr h=>?_)
 ·obtain⟨d,dx,g,t,n,c,xs,ts,v,o,rfl,_⟩:=h;rfl
 obtain⟨d,dx,g,t,n,c,xs,ts,v,o,rfl,c4,hd,hg,ht,pT,lT,n1,hV,hw,ok,q⟩:=h;refine⟨_,(aG (dZ (sE (gK (K:=K) Z (bx ŗ hr Z jy.m jy.F.kp jy.b .nil cu (O (bQ gw (Px (v:=.int 4) Z Ct.yG Ct.yH) aA) (O (pv 2) aj))) λ_=>rfl))
   (aD Cd)
   bT)
   (aG (gJ (Qs Z cF.m cF.uR gQ hr cF.bM.b .nil cu (O (pv 0) (O (pv 1) (O (aZ aj) (O (aZ aj) aj))))))
   (aG (Ay (pv 0) (pv 2) Z)
   (aD (Ay (pv 0) (bx Ũ hr Z tE.m tE.F.kp tE.b .nil cu (O (aR (aV (K:=K) Z) (pv 1) aA) (O (pv 3) aj))) Z))))),?_⟩
 have bl:oM (4+1) (some (c:Int))=true:=bL (show 0<=(c:Int)/\(c:Int)<4+1 by omega);refine⟨_,_,Z,Z,_,Z,4+1,some (c:Int),Z,?_⟩;rw[bl];refine⟨_,Z,cX ⟨_,Z,_,Z,(),λp1 H1 m1=>⟨(),λp2 H2 m2=>?_⟩⟩⟩;have s2:aK H H2:=m1.same.trans m2.same;have lx:xs.length<=1000:=by rw[aM pT];exact lT
 refine⟨d,dx,g,t,n,xs,.ref p1,.ref p2,Z,s2 _ _ hd,s2.wR hg,s2 _ _ ht,lx,λpg pt H3 s3 h3d h3g h3t=>?_⟩;have e3:Sd d H H3:=λc o hc hh=>s3 c o hc (s2 _ _ hh);have np1:p1≠d:=λe=>by have:=m1.fresh;grind
 have np2:p2≠d:=λe=>by have:=m2.fresh;rw[e,m1.same _ _ hd]at this;cases this
 have h3l:H3 p1=some (.tup []):=s3 _ _ np1 (m2.same _ _ m1.here);have h3u:H3 p2=some (.tup []):=s3 _ _ np2 m2.here;refine⟨_,Z,_,Z,d,_,_,_,Z,h3d,bN.cl,bN.J9,(by show 3<1000;decide),?_⟩;generalize hU0:cN H3 d _=U0;have u0:vo H3 d (.ins bN.C dx (fsQ pg (.ref p1) (.ref p2)++[(("many" : Str),V.int c)])) U0:=by rw[<-hU0];exact vo.ou
 have e4:Sd d H U0:=λc' u hc hh=>by rw[u0.rest c' hc];exact e3 c' u hc hh
 refine⟨_,Z,g,_,_,V.int n,Z,Z,e4.tupI hd hg,bR (j:=0) Z,_,Z,n,v,o,Z,e4.wtI hd hV,n1,hw,ok,λpw H4 s4 f4 h4=>?_⟩;refine⟨_,Z,d,_,_,_,Z,s4 _ _ u0.here,bN.cl,bN.fG,(by show 4<1000;decide),?_⟩;generalize hU:cN H4 d _=U;have u1:vo H4 d (.ins bN.C dx (fsQ pg (.ref p1) (.ref p2)++([(("many" : Str),V.int c)]++[(("weights" : Str),V.ref pw)]))) U:=by rw[<-hU];exact vo.ou
 have up:∀c' u,c'≠d->H3 c'=some u->U c'=some u:=λc' u hc e=>by
  rw[u1.rest c' hc];refine s4 _ _ ?_;rw[u0.rest c' hc];exact e
 have nd:∀c' u,(∀dx fs,u≠.ins bN.C dx fs)->H3 c'=some u->c'≠d:=λc' u hn e z=>by grind
 have dpw:pw≠d:=λe=>by rw[e,u0.here]at f4;cases f4
 exact q U (λc' u hc e=>up c' u hc (e3 c' u hc e)) ⟨dx,pg,pt,xs,p1,p2,pw,u1.here,up _ _ (nd _ _ (λ_ _ z=>by cases z) h3g) h3g,up _ _ (nd _ _ (λ_ _ z=>by cases z) h3t) h3t,Paired.cC pT λ_ _ h=>by
  obtain⟨pp,e1,e2⟩:=e3.a4q hd h;exact⟨pp,e1,up _ _ (nd _ _ (λ_ _ z=>by cases z) e2) e2⟩,lT,up _ _ np1 h3l,up _ _ np2 h3u,by rw[u1.rest _ dpw];exact h4⟩
def Ã(c:Nat):∀m,m∈(JC:List Str)->([(("many" : Str),V.int (c:Int))]).lookup m=none:=λm hm=>by
 have go:∀m∈(JC:List Str),(m==("many" : Str))=false:=()
 rw[Iz,go m hm];rfl
noncomputable def a4r(B:Bl mg)(D:v5 K mg){c:Nat}(c4:c<=4)(n:Nat)(ts:List bW)(ws:List Int)(lw:ws.length=n)(jW:Dn K mg "with_number" fj xj)(jX:Dn K mg "without_number" cU xq):HB P w K mg base Key where
 C:=D.C
 cl:=D.cl
 knd:=dJ P w
 pq:=pqC c ws
 At:=Fz K D.C [("many",.int c)] n ts ws
 Pl:=λv=>v<n
 Ti:=λ_=>True
 n:=n
 ts:=ts
 keep:=λa h=>Fz.keep a h
 ins:=λh=>Fz.ins (Ã c) h
 gU:=D.gU
 fO:=D.fO
 fH:=D.fH
 nQ:=⟨_,_,D.eE.mt,D.eE.b,(qi D.eE _ Z _).mono ()⟩
 rE:=⟨_,_,D.jc.mt,D.jc.b,(uo D.jc _ Z _).mono ()⟩
 vQ:=⟨_,_,D.jd.mt,D.jd.b,(uq D.jd _ Z _).mono ()⟩
 vR:=⟨_,_,D.je.mt,D.je.b,(Du B c4 D.cl D.J9 D.je jW).mono ()⟩
 nR:=⟨_,_,D.eG.mt,D.eG.b,(yM c4 D.cl D.fG lw D.eG jX).mono ()⟩
 Fj:=⟨_,_,D.pH.mt,D.pH.b,(GR D.pH _ _).mono ()⟩
noncomputable def a4s(B:Bl mg)(D:Dp K mg)(n:Nat)(ts:List bW)(ws:List Int)(lw:ws.length=n)(jW:Dn K mg "with_number" fj xj)(jX:Dn K mg "without_number" cU xq):HB P w K mg base Key where
 C:=D.C
 cl:=D.cl
 knd:=dJ P w
 pq:=pqA ws
 At:=Fz K D.C [] n ts ws
 Pl:=λv=>v<n
 Ti:=λ_=>True
 n:=n
 ts:=ts
 keep:=λa h=>Fz.keep a h
 ins:=λh=>Fz.ins (λ_ _=>rfl) h
 gU:=D.gU
 fO:=D.fO
 fH:=D.fH
 nQ:=⟨_,_,D.eE.mt,D.eE.b,(Bt D.eE _).mono ()⟩
 rE:=⟨_,_,D.jc.mt,D.jc.b,(uo D.jc _ Z _).mono ()⟩
 vQ:=⟨_,_,D.jd.mt,D.jd.b,(uq D.jd _ Z _).mono ()⟩
 vR:=⟨_,_,D.je.mt,D.je.b,(GX B D.je jW _).mono ()⟩
 nR:=⟨_,_,D.eG.mt,D.eG.b,(Bu D.cl D.fG lw D.eG jX).mono ()⟩
 Fj:=⟨_,_,D.pH.mt,D.pH.b,(LQ D.pH _ _).mono ()⟩
noncomputable def a4t(B:Bl mg)(Bz:mg "zip" = none)(D:Dr K mg)(n:Nat)(ts:List bW)(ws:List Int)(lw:ws.length=n)(jW:Dn K mg "with_number" fj xj)(jX:Dn K mg "without_number" cU xq):HB P w K mg base Bool where
 C:=D.C
 cl:=D.cl
 knd:=Dk.Jz P w
 pq:=pqW ws
 At:=Fz K D.C [] n ts ws
 Pl:=λv=>v<n
 Ti:=λ_=>True
 n:=n
 ts:=ts
 keep:=λa h=>Fz.keep a h
 ins:=λh=>Fz.ins (λ_ _=>rfl) h
 gU:=D.gU
 fO:=D.fO
 fH:=D.fH
 nQ:=⟨_,_,D.eE.mt,D.eE.b,(qi D.eE _ Z _).mono ()⟩
 rE:=⟨_,_,D.jc.mt,D.jc.b,(G9 B D.jc _).mono ()⟩
 vQ:=⟨_,_,D.jd.mt,D.jd.b,(Hf B Bz D.jd _).mono ()⟩
 vR:=⟨_,_,D.je.mt,D.je.b,(GZ B D.je jW _).mono ()⟩
 nR:=⟨_,_,D.eG.mt,D.eG.b,(Bv D.cl D.fG lw D.eG jX).mono ()⟩
 Fj:=⟨_,_,D.pH.mt,D.pH.b,(LR B D.pH _ _).mono ()⟩
namespace Go
theorem wY:∀{xs ys:List Int},xs.Pairwise (· < ·)->ys.Pairwise (· < ·)->(∀v,v∈xs↔v∈ys)->xs=ys
 | [],[],_,_,_=>rfl
 | [],y::ys,_,_,h=>absurd ((h y).mpr aO) eN
 |x::xs,[],_,_,h=>absurd ((h x).mp aO) eN
 |x::xs,y::ys,hx,hy,h=>by
  rw[Ai]at hx hy
  have e:x=y:=by
   rcases cB.mp ((h x).mp aO)with h1|h1
   ·exact h1
   ·rcases cB.mp ((h y).mpr aO)with h2|h2
    ·exact h2.symm
    grind
  subst e
  rw[wY hx.2 hy.2 λv=>⟨λhv=>?_,λhv=>?_⟩]
  ·grind
  grind
end Go
structure Dv{κ:Type}(pq:PQ κ):Prop where
 leaf:pq.Ok 0 pq.leaf
 inn:∀{m s p v},pq.Ok m s->p<=m->(pq.inn s p v).length<=4/\∀x∈pq.inn s p v,pq.Ok (m+1) x.1
 tie:∀{m s a b t},pq.Ok m s->a<m->b<m->(pq.tie s a b t).length<=4/\∀x∈pq.tie s a b t,pq.Ok m x.1
 out:∀{m s p v},pq.Ok (m+1) s->p<m+1->(pq.out s p v).length<=4/\∀x∈pq.out s p v,pq.Ok m x.1
 jn:∀{m s t},pq.Ok m s->pq.Ok m t->(pq.jn s t).length<=4/\∀x∈pq.jn s t,pq.Ok m x
 fin:∀{m:Nat}{l:List dO},m<=4->l.Nodup->(∀s∈l,pq.Ok m s)->l.length<=900
def dN(T:cI):Nat:=(T.map λx=>x.2.m.natAbs).sum
structure zZ{κ:Type}(pq:PQ κ)(m:Nat)(T:cI):Prop where
 nd:(T.map (·.1)).Nodup
 ok:∀x∈T,pq.Ok m x.1
def zZ.nil{κ:Type}{pq:PQ κ}{m:Nat}:zZ pq m []:=⟨Ar,λ_ h=>absurd h eN⟩
def zZ.len{κ:Type}{pq:PQ κ}(pk:Dv pq){m:Nat}(h:zZ pq m T)(m4:m<=4):T.length<=900:=by
 have:=pk.fin m4 h.nd (λs hs=>by
  obtain⟨x,hx,rfl⟩:=dW.mp hs;exact h.ok x hx)
 grind
def Ä(T:cI)(s:dO)(r:fW):(sH T s r).map (·.1)=if(T.any λx=>decide (x.1=s))=true then T.map (·.1)else T.map (·.1)++[s]:=by
 unfold sH;split
 ·rw[j9];refine xX λx _=>?_;grind
 grind
set_option tactic.hygienic true in
def a1D{κ:Type}{pq:PQ κ}{m:Nat}{s:dO}{r:fW}(h:zZ pq m T)(hs:pq.Ok m s):zZ pq m (sH T s r):=by
 have e:=Ä T s r;refine⟨?_,λx hx=>?_⟩
 ·rw[e];split
  ·exact h.nd
  ·rename_i c;refine uZ.mpr ⟨h.nd,xV _ _,λa ha b hb ab=>?_⟩;grind
 ·have:x.1∈(sH T s r).map (·.1):=dW.mpr ⟨x,hx,Z⟩;rw[e]at this;split at this
  ·obtain⟨y,hy,ey⟩:=dW.mp this;rw[<-ey];exact h.ok y hy
  ·rcases cJ.mp this with z|z
   ·obtain⟨y,hy,ey⟩:=dW.mp z;rw[<-ey];exact h.ok y hy
   grind
def Yr{κ:Type}{pq:PQ κ}{bt:Int->Int->Bool}{m:Nat}{s:dO}{r:fW}(h:zZ pq m T)(hs:pq.Ok m s):zZ pq m (mF bt T s r):=by
 unfold mF;split<;>exact a1D h hs
def Ys{s:dO}{r:fW}(nd:(T.map (·.1)).Nodup):dN (sH T s r)+((uE T s).map λo=>o.m.natAbs).getD 0=dN T+r.m.natAbs:=by
 induction T with
 |nil=>exact Nat.add_comm (r.m.natAbs+0) 0
 |cons x T ih =>
  rw[bV,iD]at nd;have ih:=ih nd.2;unfold sH uE at ih ⊢;by_cases c:x.1=s
  ·rw[tR,bL c,Bool.true_or,aF Z,uX (by exact bL c)];have e:(T.map λy=>if y.1=s then(y.1,r)else y)=T:=by
    have:∀y∈T,(λy:dO×fW=>if y.1=s then(y.1,r)else y) y=id y:=λy hy=>aq λz=>nd.1 (dW.mpr ⟨y,hy,z.trans c.symm⟩);rw[xX this,List.map_id]
   rw[bV,aF c,e];unfold dN;rw[bV,bV,wH,wH];show r.m.natAbs+_+x.2.m.natAbs=_;omega
  ·rw[tR,cW c,Bool.false_or,qp (by exact λz=>c (gj z))];by_cases d:(T.any λy=>decide (y.1=s))=true
   ·rw[aF d]at ih ⊢;rw[bV,aq c];unfold dN at ih ⊢;rw[bV,bV,wH,wH];omega
   ·rw[aq d]at ih ⊢;unfold dN at ih ⊢;rw[U5,bV,bV,wH,wH];omega
set_option tactic.hygienic true in
def SX{bt:Int->Int->Bool}{s:dO}{r:fW}(nd:(T.map (·.1)).Nodup):dN (mF bt T s r)<=dN T+r.m.natAbs:=by
 unfold mF;split
 ·rename_i e;have:=Ys (s:=s) (r:=r) nd;omega
 ·rename_i o e;have:=Ys (s:=s) (r:=⟨o.m+r.m,(JH bt r o).b,(JH bt r o).src⟩) nd;grind
section
variable{κ:Type} [DecidableEq κ]
theorem Bw{pq:PQ κ}{bt:Int->Int->Bool}{m:Nat}{old:dO}{row:fW}:∀{l:List (dO×Int)}{T:cI},zZ pq m T->(∀x∈l,pq.Ok m x.1)->zZ pq m (jQ bt old row l T)/\dN (jQ bt old row l T)<=dN T+l.length*row.m.natAbs
 | [],T,h,_=>⟨h,by show dN T<=dN T+0*_;omega⟩
 |x::l,T,h,hl=>by
  have h1:zZ pq m (mF bt T x.1 ⟨row.m,row.b+x.2,[old]⟩):=Yr h (hl x (aO ..))
  have s1:=SX (bt:=bt) (s:=x.1) (r:=⟨row.m,row.b+x.2,[old]⟩) h.nd
  have s1:dN (mF bt T x.1 ⟨row.m,row.b+x.2,[old]⟩)<=dN T+row.m.natAbs:=s1
  obtain⟨h2,s2⟩:=Bw (bt:=bt) (old:=old) (row:=row) h1 (λy hy=>hl y (aY _ hy))
  refine⟨h2,dI s2 ?_⟩
  rw[jE,Nat.succ_mul]
  omega
theorem Ke{pq:PQ κ}{jY:bZ}{B:List Int}{m m':Nat}:∀{S T:cI},zZ pq m' T->(∀x∈S,pq.Ok m x.1)->(∀s,pq.Ok m s->(Wo pq s jY B).length<=4/\∀x∈Wo pq s jY B,pq.Ok m' x.1)->zZ pq m' (oU pq jY B S T)/\dN (oU pq jY B S T)<=dN T+4*dN S
 | [],T,h,_,_=>⟨h,by show dN T<=dN T+_;omega⟩
 |x::S,T,h,hS,hb=>by
  obtain⟨l4,ob⟩:=hb x.1 (hS x (aO ..))
  obtain⟨h1,s1⟩:=Bw (bt:=pq.bt) (old:=x.1) (row:=x.2) h ob
  obtain⟨h2,s2⟩:=Ke h1 (λy hy=>hS y (aY _ hy)) hb
  refine⟨h2,dI s2 ?_⟩
  have e:dN (x::S)=x.2.m.natAbs+dN S:=by unfold dN;grind
  rw[e]
  have:(Wo pq x.1 jY B).length*x.2.m.natAbs<=4*x.2.m.natAbs:=Nat.mul_le_mul_right _ l4
  omega
def Å{pq:PQ κ}(pk:Dv pq){jY:bZ}{B:List Int}{m m':Nat}(m4:m'<=4){S:cI}(hS:∀x∈S,pq.Ok m x.1)(hb:∀s,pq.Ok m s->(Wo pq s jY B).length<=4/\∀x∈Wo pq s jY B,pq.Ok m' x.1):a3Y pq jY B S []:=by
 intro i hi x hx j hj;have h1:=(Ke (pq:=pq) (jY:=jY) (B:=B) (m:=m) (m':=m') (S:=S.take i) zZ.nil (λy hy=>hS y (m9 hy)) hb).1;obtain⟨_,ob⟩:=hb x.1 (hS x (jf hx));have h2:=(Bw (bt:=pq.bt) (old:=x.1) (row:=x.2) (l:=(Wo pq x.1 jY B).take j) h1 λy hy=>ob y (m9 hy)).1;have:=h2.len pk m4;omega
theorem Kf{pq:PQ κ}{bt:Int->Int->Bool}{m:Nat}{fZ bO:dO}{row more:fW}:∀{l:List dO}{T:cI},zZ pq m T->(∀x∈l,pq.Ok m x)->zZ pq m (zW bt fZ bO row more l T)/\dN (zW bt fZ bO row more l T)<=dN T+l.length*(row.m.natAbs*more.m.natAbs)
 | [],T,h,_=>⟨h,by show dN T<=dN T+0*_;omega⟩
 |x::l,T,h,hl=>by
  have h1:zZ pq m (mF bt T x ⟨row.m*more.m,row.b+more.b,[fZ,bO]⟩):=Yr h (hl x (aO ..))
  have s1:=SX (bt:=bt) (s:=x) (r:=⟨row.m*more.m,row.b+more.b,[fZ,bO]⟩) h.nd
  have s1:dN (mF bt T x ⟨row.m*more.m,row.b+more.b,[fZ,bO]⟩)<=dN T+(row.m*more.m).natAbs:=s1
  rw[Int.natAbs_mul]at s1
  obtain⟨h2,s2⟩:=Kf (bt:=bt) (fZ:=fZ) (bO:=bO) (row:=row) (more:=more) h1 (λy hy=>hl y (aY _ hy))
  refine⟨h2,dI s2 ?_⟩
  rw[jE,Nat.succ_mul]
  omega
theorem Kg{pq:PQ κ}(pk:Dv pq){m:Nat}{fZ:dO}{row:fW}(oo:pq.Ok m fZ):∀{A T:cI},zZ pq m T->(∀x∈A,pq.Ok m x.1)->zZ pq m (zX pq fZ row A T)/\dN (zX pq fZ row A T)<=dN T+4*(row.m.natAbs*dN A)
 | [],T,h,_=>⟨h,by show dN T<=dN T+_;omega⟩
 |x::A,T,h,hA=>by
  obtain⟨l4,oj⟩:=pk.jn oo (hA x (aO ..))
  obtain⟨h1,s1⟩:=Kf (bt:=pq.bt) (fZ:=fZ) (bO:=x.1) (row:=row) (more:=x.2) h oj
  obtain⟨h2,s2⟩:=Kg pk oo (row:=row) h1 (λy hy=>hA y (aY _ hy))
  refine⟨h2,dI s2 ?_⟩
  have e:dN (x::A)=x.2.m.natAbs+dN A:=by unfold dN;grind
  rw[e,Nat.mul_add]
  have:=Nat.mul_le_mul_right (row.m.natAbs*x.2.m.natAbs) l4
  omega
theorem sum_filter(p:dO×fW->Bool):∀A:cI,dN (A.filter p)<=dN A
 | []=>aL _
 |x::A=>by
  have ih:=sum_filter p A
  have e:dN (x::A)=x.2.m.natAbs+dN A:=by unfold dN;grind
  by_cases c:p x=true
  ·rw[Ue c]
   have e':dN (x::A.filter p)=x.2.m.natAbs+dN (A.filter p):=by unfold dN;grind
   omega
  grind
theorem QF{pq:PQ κ}(pk:Dv pq){m:Nat}{A:cI}(hA:∀x∈A,pq.Ok m x.1):∀{S T:cI},zZ pq m T->(∀x∈S,pq.Ok m x.1)->zZ pq m (xr pq A S T)/\dN (xr pq A S T)<=dN T+4*(dN S*dN A)
 | [],T,h,_=>⟨h,by show dN T<=dN T+_;omega⟩
 |x::S,T,h,hS=>by
  have hA':∀y∈qH pq x.1 A,pq.Ok m y.1:=λy hy=>hA y (lF.mp hy).1
  obtain⟨h1,s1⟩:=Kg pk (hS x (aO ..)) (row:=x.2) h hA'
  obtain⟨h2,s2⟩:=QF pk hA h1 (λy hy=>hS y (aY _ hy))
  refine⟨h2,dI s2 ?_⟩
  have e:dN (x::S)=x.2.m.natAbs+dN S:=by unfold dN;grind
  rw[e,Nat.add_mul]
  have f:dN (qH pq x.1 A)<=dN A:=sum_filter _ A
  have:=Nat.mul_le_mul_left x.2.m.natAbs f
  omega
def ũ{pq:PQ κ}(pk:Dv pq){m:Nat}(m4:m<=4){A S:cI}(hA:∀x∈A,pq.Ok m x.1)(hS:∀x∈S,pq.Ok m x.1):a4b pq A S []:=by
 intro i x hx j y hy l hl;have h1:=(QF pk hA (S:=S.take i) zZ.nil λz hz=>hS z (m9 hz)).1;have ox:=hS x (jf hx);have h2:=(Kg pk ox (row:=x.2) (A:=(qH pq x.1 A).take j) h1 λz hz=>hA z (lF.mp (m9 hz)).1).1;have oy:=hA y (lF.mp (jf hy)).1;have h3:=(Kf (bt:=pq.bt) (fZ:=x.1) (bO:=y.1) (row:=x.2) (more:=y.2) (l:=(pq.jn x.1 y.1).take l) h2 λz hz=>(pk.jn ox oy).2 z (m9 hz)).1;have:=h3.len pk m4;omega
end
namespace Go
def getD_at{ss:List bZ}{i:Nat}{s:bZ}(h:ss[i]?=some s):ss.getD i .leaf=s:=by
 rw[fV,h];rfl
section
variable{n:Nat}{ts:List bW}{ss:List bZ}
def Kh{i:Nat}{s:bZ}(h:ss[i]?=some s)(g1:(aW n ts ss i).2=true)(g2:(aW n ts ss (i+1)).2=true):∃b,qd n ts (ss.take i) s (sW s (aW n ts ss i).1)=some b/\s.need<=(aW n ts ss i).1.pile.length/\(aW n ts ss (i+1)).1=⟨(aW n ts ss i).1.aQ++[b],(aW n ts ss i).1.dG++[(aW n ts ss i).1.pile.drop (dR s (aW n ts ss i).1)],(aW n ts ss i).1.pile.take (dR s (aW n ts ss i).1)++[i]⟩:=by
 rw[SN,aF g1]at g2 ⊢;cases d:rF n ts ss i (aW n ts ss i).1 with
 |none=>grind
 |some r =>
  unfold rF at d;rw[getD_at h]at d;by_cases c:s.need<=(aW n ts ss i).1.pile.length
  ·rw[aF c]at d;obtain⟨b,hb,er⟩:=lC.mp d;grind
  grind
theorem Yt(go:∀i,i<=ss.length->(aW n ts ss i).2=true)(cV:n<=10){k:Nat}{s:bZ}(h:ss[k]?=some s):∀j,k+1<=j->j<=ss.length->(aW n ts ss j).1.dG.getD k []=(aW n ts ss k).1.pile.drop (dR s (aW n ts ss k).1)
 |0,h1,_=>absurd h1 ()
 |j+1,h1,h2=>by
  have kl:=(fu.mp h).1
  obtain⟨b,_,_,e⟩:=Kh (n:=n) (ts:=ts) (s:=ss[j]'()) (bH ()) (go j ()) (go (j+1) h2)
  have I:=jA cV (go j ())
  rw[e]
  show((aW n ts ss j).1.dG++[_]).getD k []=_
  by_cases c:j=k
  ·subst c
   rw[fV,xT (by rw[I.fl];omega),I.fl,Em]
   grind
  ·rw[fV,xU (by rw[I.fl];omega),<-fV]
   exact Yt go cV h j () ()
abbrev gH(n:Nat)(ts:List bW)(ss:List bZ)(k:Nat):List Int:=(cD n ts ss).aQ.getD k []
abbrev qX(n:Nat)(ts:List bW)(ss:List bZ)(k:Nat):List Nat:=(cD n ts ss).dG.getD k []
theorem Wy(go:∀i,i<=ss.length->(aW n ts ss i).2=true)(cV:n<=10){k:Nat}:∀j,k+1<=j->j<=ss.length->(aW n ts ss j).1.aQ.getD k []=(aW n ts ss (k+1)).1.aQ.getD k []
 |0,h1,_=>absurd h1 ()
 |j+1,h1,h2=>by
  by_cases c:j=k
  ·rw[c]
  obtain⟨b,_,_,e⟩:=Kh (n:=n) (ts:=ts) (s:=ss[j]'()) (bH ()) (go j ()) (go (j+1) h2)
  have I:=jA cV (go j ())
  rw[e]
  show((aW n ts ss j).1.aQ++[_]).getD k []=_
  rw[fV,xU (by rw[I.tl];omega),<-fV]
  exact Wy go cV j () ()
def QG(go:∀i,i<=ss.length->(aW n ts ss i).2=true)(cV:n<=10){k j:Nat}(h1:k+1<=j)(h2:j<=ss.length):(aW n ts ss j).1.aQ.getD k []=gH n ts ss k:=by
 rw[Wy go cV j h1 h2];exact(Wy go cV ss.length () (aL _)).symm
structure StE(n:Nat)(ts:List bW)(ss:List bZ)(k:Nat)(s:bZ):Prop where
 bI:qd n ts (ss.take k) s ((qX n ts ss k).map (gH n ts ss))=some (gH n ts ss k)
 len:(qX n ts ss k).length=s.need
 lt:∀j∈qX n ts ss k,j<k
 pile:(aW n ts ss (k+1)).1.pile=(aW n ts ss k).1.pile.take (dR s (aW n ts ss k).1)++[k]
 feed:qX n ts ss k=(aW n ts ss k).1.pile.drop (dR s (aW n ts ss k).1)
def Bx(go:∀i,i<=ss.length->(aW n ts ss i).2=true)(cV:n<=10){k:Nat}{s:bZ}(h:ss[k]?=some s):StE n ts ss k s:=by
 have kl:=(fu.mp h).1;obtain⟨b,hb,hn,e⟩:=Kh (n:=n) (ts:=ts) h (go k ()) (go (k+1) ());have I:=jA cV (go k ());have ef:qX n ts ss k=(aW n ts ss k).1.pile.drop (dR s (aW n ts ss k).1):=Yt go cV h ss.length () (aL _);have lt:∀j∈qX n ts ss k,j<k:=λj hj=>by
  rw[ef]at hj;exact I.lt j (Ah hj)
 have eu:sW s (aW n ts ss k).1=(qX n ts ss k).map (gH n ts ss):=by
  unfold sW;rw[<-ef];exact xX λj hj=>QG go cV (lt j hj) ()
 have eb:gH n ts ss k=b:=by
  rw[<-QG go cV (Nat.le_refl (k+1)) (),e];show((aW n ts ss k).1.aQ++[b]).getD k []=b;rw[fV,xT (by rw[I.tl];omega),I.tl,Em];rfl
 refine⟨(),?_,lt,by rw[e],ef⟩;rw[ef,j6];unfold dR;omega
def wZ(p:Int->Bool):(Rc p).Pairwise (· < ·):=by
 unfold Rc;refine Io _ ?_;rw[Ak];exact List.pairwise_lt_range.imp λh=>by omega
def Wz{l:List α}(h:l.length=1):∃i,l=[i]:=by
 rcases l with _|⟨i,_|⟨j,l⟩⟩
 ·cases h
 ·grind
 ·cases h
def two_of{l:List α}(h:l.length=2):∃i j,l=[i,j]:=by
 rcases l with _|⟨i,_|⟨j,_|⟨x,l⟩⟩⟩
 ·cases h
 ·cases h
 ·grind
 ·cases h
inductive StB(n:Nat)(ts:List bW)(ss:List bZ)(k:Nat):bZ->Prop
 |leaf:qX n ts ss k=[]->gH n ts ss k=[]->StB n ts ss k .leaf
 |inn {i v}:qX n ts ss k=[i]->i<k->0<=v->v<(n:Int)->v∉gH n ts ss i->gH n ts ss k=fL (gH n ts ss i) [v]->bZ.out v∉ss.take k->StB n ts ss k (.inn v)
 |tie {i a b}:qX n ts ss k=[i]->i<k->(a,b)∈ts->a∈gH n ts ss i->b∈gH n ts ss i->gH n ts ss k=gH n ts ss i->StB n ts ss k (.tie a b)
 |out {i v}:qX n ts ss k=[i]->i<k->v∈gH n ts ss i->gH n ts ss k=nY (gH n ts ss i) [v]->bZ.out v∉ss.take k->StB n ts ss k (.out v)
 |join {i j}:qX n ts ss k=[i,j]->i<k->j<k->gH n ts ss i=gH n ts ss j->gH n ts ss k=gH n ts ss i->StB n ts ss k .join
set_option tactic.hygienic true in
def a1E{k:Nat}{s:bZ}(S:StE n ts ss k s):StB n ts ss k s:=by
 have hb:=S.bI;cases s with
 |leaf=>exact .leaf (N8.mp S.len) (eO hb).symm
 |inn v =>
  obtain⟨i,ei⟩:=Wz S.len;have lt:=S.lt i ();rw[ei]at hb;unfold qd at hb;dsimp only at hb;split at hb
  ·rename_i c;exact .inn ei lt c.1.1 c.1.2 c.2.1 (eO hb).symm c.2.2
  ·cases hb
 |tie a b =>
  obtain⟨i,ei⟩:=Wz S.len;have lt:=S.lt i ();rw[ei]at hb;unfold qd at hb;dsimp only at hb;split at hb
  ·rename_i c;have c2:nY [a,b] (gH n ts ss i)=[]:=c.2.1;have mm:∀x∈[a,b],x∈gH n ts ss i:=λx hx=>by
    cases d:decide (x∈gH n ts ss i)with
    |true=>grind
    |false =>
     have:x∈nY [a,b] (gH n ts ss i):=lF.mpr ⟨hx,by rw[d];rfl⟩;grind
   exact .tie ei lt c.1 (mm a (by simp)) (mm b (by simp)) (eO hb).symm
  ·cases hb
 |out v =>
  obtain⟨i,ei⟩:=Wz S.len;have lt:=S.lt i ();rw[ei]at hb;unfold qd at hb;dsimp only at hb;split at hb
  ·rename_i c;exact .out ei lt c.1 (eO hb).symm c.2
  ·cases hb
 |join =>
  obtain⟨i,j,ei⟩:=two_of S.len;have lt:=S.lt i (by rw[ei];simp);have lt':=S.lt j (by rw[ei];simp);rw[ei]at hb;unfold qd at hb;dsimp only at hb;split at hb
  ·rename_i c;exact .join ei lt lt' c (eO hb).symm
  ·cases hb
def S5(cV:n<=10)(all:∀(k:Nat) (s:bZ),ss[k]?=some s->StB n ts ss k s):∀k,k<ss.length->(gH n ts ss k).Pairwise (· < ·)/\∀v∈gH n ts ss k,0<=v/\v<(n:Int):=by
 intro k
 induction k using Nat.strongRecOn with
 |_ k ih =>
  intro kl;have S:=all k _ (bH kl);generalize ss[k]=s at S;cases S with
  |leaf _ e=>rw[e];exact⟨.nil,λv h=>absurd h eN⟩
  | @inn i v _ lt v0 vn _ e _ =>
   rw[e];refine⟨wZ _,λx hx=>?_⟩;have:=(zE.mp hx).2.2;rcases gj this with h|h
   ·exact(ih i lt ()).2 x h
   ·rw[bJ.mp h];exact⟨v0,vn⟩
  | @tie i a b _ lt _ _ _ e=>rw[e];exact ih i lt ()
  | @out i v _ lt _ e _ =>
   rw[e];have:=ih i lt ();exact⟨this.1.filter _,λx hx=>this.2 x (lF.mp hx).1⟩
  | @join i j _ lt _ _ e=>rw[e];exact ih i lt ()
def nZ(cV:n<=10){p q:List Int}(hp:∀v∈p,0<=v/\v<(n:Int))(hq:∀v∈q,0<=v/\v<(n:Int)){v:Int}:v∈fL p q↔v∈p\/v∈q:=by
 refine⟨λh=>gj (zE.mp h).2.2,λh=>zE.mpr ?_⟩;grind
def zL(cV:n<=10){p q:List Int}(ap:p.Pairwise (· < ·))(hp:∀v∈p,0<=v/\v<(n:Int))(h:∀v∈q,v∈p):fL p q=p/\fL q p=p:=by
 have hq:=λv hv=>hp v (h v hv);refine⟨wY (wZ _) ap λv=>?_,wY (wZ _) ap λv=>?_⟩
 ·rw[nZ cV hp hq];exact⟨λz=>z.elim id (h v),.inl⟩
 ·rw[nZ cV hq hp];exact⟨λz=>z.elim (h v) id,.inr⟩
def Aa{b:List Int}(h:b.Pairwise (· < ·)):b.Nodup:=h.imp λh=>by omega
def Yu(cV:n<=10){p:List Int}{v:Int}(ap:p.Pairwise (· < ·))(hp:∀v∈p,0<=v/\v<(n:Int))(hv:0<=v/\v<(n:Int))(h:v∉p):(fL p [v]).length=p.length+1:=by
 have:(fL p [v]).Perm (v::p):=(Ig (Aa (wZ _)) (iD.mpr ⟨h,Aa ap⟩)).mpr λx=>by
  show x∈fL p [v]↔_;rw[show x∈fL p [v]↔x∈p\/x∈[v]from nZ cV hp (λy hy=>by rw[bJ.mp hy];exact hv)];simp[or_comm]
 rw[this.length_eq];rfl
def a1F{p:List Int}{v:Int}(ap:p.Pairwise (· < ·))(h:v∈p):(nY p [v]).length+1=p.length:=by
 have:(nY p [v]).Perm (p.erase v):=(Ig ((Aa ap).filter _) ((Aa ap).erase v)).mpr λx=>by
  rw[(Aa ap).mem_erase_iff,lF];simp[and_comm]
 rw[this.length_eq,List.length_erase_of_mem h];grind
theorem S6(go:∀i,i<=ss.length->(aW n ts ss i).2=true)(cV:n<=10):∀i,i<=ss.length->(aW n ts ss i).1.pile.Pairwise (· < ·)
 |0,_=>.nil
 |i+1,il=>by
  have S:=Bx (n:=n) (ts:=ts) go cV (List.getElem?_eq_getElem (show i<ss.length by omega))
  have I:=jA cV (go i ())
  rw[S.pile]
  refine Uq.mpr ⟨(S6 go cV i ()).sublist (Oq _ _),xV _ _,λa ha b hb=>?_⟩
  rw[bJ.mp hb]
  exact I.lt a (m9 ha)
end
end Go
namespace Go
section
variable{κ:Type} [DecidableEq κ]
variable{n:Nat}{ts:List bW}{ss:List bZ}
abbrev zM(pq:PQ κ)(n:Nat)(ts:List bW)(ss:List bZ)(k:Nat):List cI:=Lr pq ss (cD n ts ss).aQ (cD n ts ss).dG k
def QH(pq:PQ κ){k j:Nat}(h:j<k):(zM pq n ts ss (k+1)).getD j []=(zM pq n ts ss k).getD j []:=by
 show(zM pq n ts ss k++[_]).getD j []=_;rw[fV,xU (by rw[mW];exact h),<-fV]
def HN(pq:PQ κ)(k:Nat):(zM pq n ts ss (k+1)).getD k []=Lq pq (cD n ts ss).aQ (zM pq n ts ss k) (ss.getD k .leaf) (gH n ts ss k) (qX n ts ss k):=by
 show(zM pq n ts ss k++[_]).getD k []=_;rw[fV,xT (by rw[mW];grind),mW,Em];rfl
theorem Kl(pq:PQ κ){j:Nat}:∀{k:Nat},j<k->(zM pq n ts ss k).getD j []=(zM pq n ts ss (j+1)).getD j []
 |0,h=>absurd h (Ao _)
 |k+1,h=>by
  by_cases c:j=k
  ·rw[c]
  ·rw[QH pq (show j<k by omega)]
   exact Kl pq ()
structure GoI(pq:PQ κ)(n:Nat)(ts:List bW)(ss:List bZ)(k:Nat):Prop where
 ok:∀j,j<k->zZ pq (gH n ts ss j).length ((zM pq n ts ss k).getD j [])
 cost:∃c:Nat->Nat,(∀j,j<k->dN ((zM pq n ts ss k).getD j [])<=16^c j)/\((aW n ts ss k).1.pile.map c).sum<=k
theorem Ū{c:Nat->Nat}:∀{l:List Nat}{i:Nat},i∈l->c i<=(l.map c).sum
 |a::l,i,h=>by
  rw[bV,wH]
  rcases cB.mp h with h|h
  ·rw[h];omega
  ·have:=Ū (c:=c) h
   omega
theorem a6B:∀{T:cI}{x:dO×fW},x∈T->x.2.m.natAbs<=dN T
 |y::T,x,h=>by
  have e:dN (y::T)=y.2.m.natAbs+dN T:=by unfold dN;grind
  rw[e]
  rcases cB.mp h with h|h
  ·rw[h];omega
  ·have:=a6B h
   omega
def S7{c:Nat}(h:dN T<=16^c)(l:c<=800):JW T:=λx hx=>by
 have h1:=a6B hx;have e:(16:Nat)^c=2^(4*c):=by rw[Nat.pow_mul]
 have:(2:Nat)^(4*c)<2^4000:=Nat.pow_lt_pow_right () ();omega
def Fo{B:List Int}{v:Int}(h:v∈B):B.idxOf v<B.length:=NT h
def Km(Qn:HB P w K mg base κ)(pk:Dv Qn.pq){aQ:List (List Int)}{iV:List cI}{jY:bZ}{bI:List Int}{i:Nat}(nj:jY≠.join)(il:i<iV.length)(hT:zZ Qn.pq (aQ.getD i []).length (iV.getD i []))(m4:(aQ.getD i []).length<=4)(b4:bI.length<=4)(fit:HF Qn jY (fL bI (aQ.getD i [])) (aQ.getD i []).length)
  (hb:∀s,Qn.pq.Ok (aQ.getD i []).length s->(Wo Qn.pq s jY (fL bI (aQ.getD i []))).length<=4/\∀x∈Wo Qn.pq s jY (fL bI (aQ.getD i [])),Qn.pq.Ok bI.length x.1):Bf Qn aQ iV jY bI [i]/\zZ Qn.pq bI.length (Lq Qn.pq aQ iV jY bI [i])/\dN (Lq Qn.pq aQ iV jY bI [i])<=4*dN (iV.getD i []):=by
 have l9:=hT.len pk m4;obtain⟨h1,h2⟩:=Ke (pq:=Qn.pq) (jY:=jY) (B:=fL bI (aQ.getD i [])) (S:=iV.getD i []) zZ.nil hT.ok hb;refine⟨⟨nj,il,hT.ok,fit,(),Å pk b4 hT.ok hb⟩,h1,?_⟩;have e:dN []=0:=rfl;rw[e,Nat.zero_add]at h2;exact h2
def two_step(Qn:HB P w K mg base κ)(pk:Dv Qn.pq){aQ:List (List Int)}{iV:List cI}{bI:List Int}{i j m ci cj:Nat}(il:i<iV.length)(jl:j<iV.length)(nij:i≠j)(em:bI.length=m)(m4:m<=4)(hi:zZ Qn.pq m (iV.getD i []))(hj:zZ Qn.pq m (iV.getD j []))(si:dN (iV.getD i [])<=16^ci)(sj:dN (iV.getD j [])<=16^cj)(li:ci<=800)(lj:cj<=800):Bf Qn aQ iV .join bI [i,j]/\zZ Qn.pq bI.length (Lq Qn.pq aQ iV .join bI [i,j])/\dN (Lq Qn.pq aQ iV .join bI [i,j])<=4*(dN (iV.getD i [])*dN (iV.getD j [])):=by
 have l1:=hi.len pk m4;have l2:=hj.len pk m4;obtain⟨h1,h2⟩:=QF pk (A:=iV.getD j []) hj.ok (S:=iV.getD i []) zZ.nil hi.ok;refine⟨⟨Z,il,jl,nij,m,(),hi.ok,hj.ok,hj.nd,(),l2,S7 si li,S7 sj lj,ũ pk m4 hj.ok hi.ok⟩,by rw[em];exact h1,?_⟩;have e:dN []=0:=rfl;rw[e,Nat.zero_add]at h2;exact h2
def pow_step{c x:Nat}(h:x<=16^c):4*x<=16^(1+c):=by
 grind
def Yv(Qn:HB P w K mg base κ)(pk:Dv Qn.pq)(hPl:∀k:Nat,k<Qn.n->Qn.Pl k)(hTi:∀t∈Qn.ts,Qn.Ti t)(ne:∀t∈Qn.ts,t.1≠t.2)(cV:Qn.n<=10)(l8:ss.length<=800)(qg:BX Qn.n Qn.ts ss (cD Qn.n Qn.ts ss)=.ok)(b4:∀b∈(cD Qn.n Qn.ts ss).aQ,b.length<=4){k:Nat}(kl:k<ss.length)(I:GoI Qn.pq Qn.n Qn.ts ss k):Bf Qn (cD Qn.n Qn.ts ss).aQ (zM Qn.pq Qn.n Qn.ts ss k) (ss.getD k .leaf) (gH Qn.n Qn.ts ss k) (qX Qn.n Qn.ts ss k)/\GoI Qn.pq Qn.n Qn.ts ss (k+1):=by
 have go:=ŝ cV qg;have RI:=zJ cV qg;have all:∀(k:Nat) (s:bZ),ss[k]?=some s->StB Qn.n Qn.ts ss k s:=λk s h=>a1E (Bx go cV h);have tp:=S5 cV all;have t4:∀j,j<ss.length->(gH Qn.n Qn.ts ss j).length<=4:=λj hj=>by
  have hl:j<(cD Qn.n Qn.ts ss).aQ.length:=by rw[RI.tl];exact hj
  have e:gH Qn.n Qn.ts ss j=(cD Qn.n Qn.ts ss).aQ[j]:=by
   show(cD Qn.n Qn.ts ss).aQ.getD j []=_;rw[fV,bH hl];rfl
  rw[e];exact b4 _ (qx hl)
 have hs:=bH kl;have S:=Bx (n:=Qn.n) (ts:=Qn.ts) go cV hs;have SB:=a1E S;have es:=getD_at hs;obtain⟨c,hc,hsum⟩:=I.cost;have c8:∀i∈qX Qn.n Qn.ts ss k,c i<=800:=λi hi=>by
  have:c i<=_:=Ū (c:=c) (l:=(aW Qn.n Qn.ts ss k).1.pile) (by rw[S.feed]at hi;exact Ah hi);omega
 suffices h:Bf Qn (cD Qn.n Qn.ts ss).aQ (zM Qn.pq Qn.n Qn.ts ss k) (ss.getD k .leaf) (gH Qn.n Qn.ts ss k) (qX Qn.n Qn.ts ss k)/\zZ Qn.pq (gH Qn.n Qn.ts ss k).length (Lq Qn.pq (cD Qn.n Qn.ts ss).aQ (zM Qn.pq Qn.n Qn.ts ss k) (ss.getD k .leaf) (gH Qn.n Qn.ts ss k) (qX Qn.n Qn.ts ss k))/\dN (Lq Qn.pq (cD Qn.n Qn.ts ss).aQ (zM Qn.pq Qn.n Qn.ts ss k) (ss.getD k .leaf) (gH Qn.n Qn.ts ss k) (qX Qn.n Qn.ts ss k))<=16^(1+((qX Qn.n Qn.ts ss k).map c).sum) by
  obtain⟨h1,h2,h3⟩:=h;refine⟨h1,⟨λj hj=>?_,λj=>if j=k then 1+((qX Qn.n Qn.ts ss k).map c).sum else c j,λj hj=>?_,?_⟩⟩
  ·by_cases e:j=k
   ·rw[e,HN];exact h2
   ·rw[QH _ ()];exact I.ok j ()
  ·show dN _<=16^(if j=k then 1+((qX Qn.n Qn.ts ss k).map c).sum else c j);by_cases e:j=k
   ·rw[aF e,e,HN];exact h3
   ·rw[aq e,QH _ ()];exact hc j ()
  ·have Z97:=jA cV (go k ());rw[S.pile,dH,List.sum_append];have e1:((aW Qn.n Qn.ts ss k).1.pile.take (dR ss[k] (aW Qn.n Qn.ts ss k).1)).map (λj=>if j=k then 1+((qX Qn.n Qn.ts ss k).map c).sum else c j)=((aW Qn.n Qn.ts ss k).1.pile.take (dR ss[k] (aW Qn.n Qn.ts ss k).1)).map c:=xX λj hj=>aq (by have:=Z97.lt j (m9 hj);omega);have e2:([k].map λj=>if j=k then 1+((qX Qn.n Qn.ts ss k).map c).sum else c j).sum=1+((qX Qn.n Qn.ts ss k).map c).sum:=by
    show(if k=k then 1+((qX Qn.n Qn.ts ss k).map c).sum else c k)+0=_;rw[aF Z,Nat.add_zero]
   rw[e1,e2,S.feed];have e3:((aW Qn.n Qn.ts ss k).1.pile.map c).sum=(((aW Qn.n Qn.ts ss k).1.pile.take (dR ss[k] (aW Qn.n Qn.ts ss k).1)).map c).sum+(((aW Qn.n Qn.ts ss k).1.pile.drop (dR ss[k] (aW Qn.n Qn.ts ss k).1)).map c).sum:=by
    rw[<-List.sum_append,<-dH,uY]
   omega
 rw[es];have lk:(zM Qn.pq Qn.n Qn.ts ss k).length=k:=mW _ _ _ _ k;have pa:=S6 (n:=Qn.n) (ts:=Qn.ts) go cV k ();have fd:=S.feed;obtain⟨ak,bk⟩:=tp k kl;have k4:=t4 k kl;generalize ss[k]=s at SB fd ⊢;cases SB with
 |leaf ef et =>
  rw[ef,et];refine⟨trivial,⟨xV _ _,λx hx=>?_⟩,by show 1<=16^1;decide⟩;rw[bJ.mp hx];exact pk.leaf
 | @inn i v ef lt v0 vn nv et _ =>
  obtain⟨ai,bi⟩:=tp i ();have ci:=hc i lt;have e1:fL (gH Qn.n Qn.ts ss k) (gH Qn.n Qn.ts ss i)=gH Qn.n Qn.ts ss k:=(zL cV ak bk λx hx=>by rw[et];exact(nZ cV bi λy hy=>by rw[bJ.mp hy];exact⟨v0,vn⟩).mpr (.inl hx)).1;have e2:(gH Qn.n Qn.ts ss k).length=(gH Qn.n Qn.ts ss i).length+1:=by rw[et];exact Yu cV ai bi ⟨v0,vn⟩ nv
  have vk:v∈gH Qn.n Qn.ts ss k:=by rw[et];exact(nZ cV bi λy hy=>by rw[bJ.mp hy];exact⟨v0,vn⟩).mpr (.inr (Oa v))
  rw[ef];obtain⟨h1,h2,h3⟩:=Km Qn pk (aQ:=(cD Qn.n Qn.ts ss).aQ) (iV:=zM Qn.pq Qn.n Qn.ts ss k) (jY:=.inn v) (bI:=gH Qn.n Qn.ts ss k) (i:=i) (λz=>by cases z) () (I.ok i lt) (t4 i ()) k4 (by
   rw[e1];exact⟨⟨v.toNat,()⟩,vk,e2,t4 i ()⟩) (λs hs=>by
   rw[e1];have q:(gH Qn.n Qn.ts ss k).idxOf v<(gH Qn.n Qn.ts ss i).length+1:=by rw[<-e2];exact Fo vk
   obtain⟨g1,g2⟩:=pk.inn (p:=(gH Qn.n Qn.ts ss k).idxOf v) (v:=v.toNat) hs (Nat.le_of_lt_succ q);exact⟨g1,λx hx=>by rw[e2];exact g2 x hx⟩)
  exact⟨h1,h2,dI h3 (pow_step (by rw[Uy,Uz];exact ci))⟩
 | @tie i a b ef lt ht ma mb et =>
  obtain⟨ai,bi⟩:=tp i ();have ci:=hc i lt;have e1:fL (gH Qn.n Qn.ts ss k) (gH Qn.n Qn.ts ss i)=gH Qn.n Qn.ts ss i:=by rw[et];exact(zL cV ai bi λ_ h=>h).1
  rw[ef];obtain⟨h1,h2,h3⟩:=Km Qn pk (aQ:=(cD Qn.n Qn.ts ss).aQ) (iV:=zM Qn.pq Qn.n Qn.ts ss k) (jY:=.tie a b) (bI:=gH Qn.n Qn.ts ss k) (i:=i) (λz=>by cases z) () (I.ok i lt) (t4 i ()) k4 (by
   rw[e1];exact⟨ma,mb,ne _ ht,Z,Nat.le_succ_of_le (t4 i ()),hTi _ ht⟩) (λs hs=>by
   rw[e1,et];exact pk.tie hs (Fo ma) (Fo mb))
  exact⟨h1,h2,dI h3 (pow_step (by rw[Uy,Uz];exact ci))⟩
 | @out i v ef lt mv et _ =>
  obtain⟨ai,bi⟩:=tp i ();have ci:=hc i lt;have e1:fL (gH Qn.n Qn.ts ss k) (gH Qn.n Qn.ts ss i)=gH Qn.n Qn.ts ss i:=(zL cV ai bi λx hx=>by rw[et]at hx;exact(lF.mp hx).1).2;have e2:(gH Qn.n Qn.ts ss k).length+1=(gH Qn.n Qn.ts ss i).length:=by rw[et];exact a1F ai mv
  have bv:=bi v mv;rw[ef];obtain⟨h1,h2,h3⟩:=Km Qn pk (aQ:=(cD Qn.n Qn.ts ss).aQ) (iV:=zM Qn.pq Qn.n Qn.ts ss k) (jY:=.out v) (bI:=gH Qn.n Qn.ts ss k) (i:=i) (λz=>by cases z) () (I.ok i lt) (t4 i ()) k4 (by
   rw[e1];exact⟨⟨v.toNat,(),hPl _ ()⟩,mv,Z,Nat.le_succ_of_le (t4 i ())⟩) (λs hs=>by
   rw[e1];have hs':Qn.pq.Ok ((gH Qn.n Qn.ts ss k).length+1) s:=by rw[e2];exact hs
   exact pk.out hs' (by rw[e2];exact Fo mv))
  exact⟨h1,h2,dI h3 (pow_step (by rw[Uy,Uz];exact ci))⟩
 | @join i j ef lt lt' eij et =>
  have nij:i≠j:=λz=>by
   have pd:=pa.sublist (List.drop_sublist (dR .join (aW Qn.n Qn.ts ss k).1) _);rw[<-fd,ef]at pd;have:=(Ai.mp pd).1 j (Oa j);omega
  have ci:=hc i lt;have cj:=hc j lt';have c1:=c8 i (by rw[ef];simp);have c2:=c8 j (by rw[ef];simp);have oi:=I.ok i lt;have oj:=I.ok j lt';rw[<-et]at oi;rw[<-eij,<-et]at oj;rw[ef];obtain⟨h1,h2,h3⟩:=two_step Qn pk (aQ:=(cD Qn.n Qn.ts ss).aQ) (iV:=zM Qn.pq Qn.n Qn.ts ss k) (bI:=gH Qn.n Qn.ts ss k) () () nij Z k4 oi oj ci cj c1 c2;refine⟨h1,h2,dI h3 (pow_step ?_)⟩;have e4:([i,j].map c).sum=c i+c j:=by
   show c i+(c j+0)=_;omega
  rw[e4,Nat.pow_add];exact Nat.mul_le_mul ci cj
theorem WD(Qn:HB P w K mg base κ)(pk:Dv Qn.pq)(hPl:∀k:Nat,k<Qn.n->Qn.Pl k)(hTi:∀t∈Qn.ts,Qn.Ti t)(ne:∀t∈Qn.ts,t.1≠t.2)(cV:Qn.n<=10)(l8:ss.length<=800)(qg:BX Qn.n Qn.ts ss (cD Qn.n Qn.ts ss)=.ok)(b4:∀b∈(cD Qn.n Qn.ts ss).aQ,b.length<=4):∀k,k<=ss.length->GoI Qn.pq Qn.n Qn.ts ss k
 |0,_=>⟨λj h=>absurd h (Ao _),λ_=>0,λj h=>absurd h (Ao _),aL _⟩
 |k+1,h=>(Yv Qn pk hPl hTi ne cV l8 qg b4 () (WD Qn pk hPl hTi ne cV l8 qg b4 k ())).2
def RB(Qn:HB P w K mg base κ)(pk:Dv Qn.pq)(hPl:∀k:Nat,k<Qn.n->Qn.Pl k)(hTi:∀t∈Qn.ts,Qn.Ti t)(ne:∀t∈Qn.ts,t.1≠t.2)(cV:Qn.n<=10)(l8:ss.length<=800)(qg:BX Qn.n Qn.ts ss (cD Qn.n Qn.ts ss)=.ok)(b4:∀b∈(cD Qn.n Qn.ts ss).aQ,b.length<=4) :
  (∀k,k<ss.length->Bf Qn (cD Qn.n Qn.ts ss).aQ (Lr Qn.pq ss (cD Qn.n Qn.ts ss).aQ (cD Qn.n Qn.ts ss).dG k) (ss.getD k .leaf) ((cD Qn.n Qn.ts ss).aQ.getD k []) ((cD Qn.n Qn.ts ss).dG.getD k []))/\
  (∀T∈Lr Qn.pq ss (cD Qn.n Qn.ts ss).aQ (cD Qn.n Qn.ts ss).dG ss.length,T.length<=900/\(T.map (·.1)).Nodup):=by
 have A:=WD Qn pk hPl hTi ne cV l8 qg b4;refine⟨λk hk=>(Yv Qn pk hPl hTi ne cV l8 qg b4 hk (A k ())).1,λT hT=>?_⟩;obtain⟨j,hj,e⟩:=qt hT;rw[mW]at hj;have h:=(A ss.length (aL _)).ok j hj;have e2:(zM Qn.pq Qn.n Qn.ts ss ss.length).getD j []=T:=by
  rw[fV,bH (by rw[mW];exact hj),<-e];rfl
 rw[e2]at h;have RI:=zJ cV qg;have hl:j<(cD Qn.n Qn.ts ss).aQ.length:=by rw[RI.tl];exact hj
 refine⟨h.len pk ?_,h.nd⟩;show((cD Qn.n Qn.ts ss).aQ.getD j []).length<=4;rw[fV,bH hl];exact b4 _ (qx hl)
end
end Go
namespace Go
def codeS:dO->Nat
 | []=>0
 |x::s=>x.toNat+4*codeS s
theorem Yw{c:Int}(c4:c<=4):∀{m:Nat}{s:dO},uD c m s->codeS s<4^m
 |_,[],⟨rfl,_⟩=>by decide
 |_,x::s,⟨rfl,h⟩=>by
  have h1:=h x (aO ..)
  have h2:=Yw c4 (m:=s.length) (s:=s) ⟨Z,λy hy=>h y (aY _ hy)⟩
  show x.toNat+4*codeS s<4^(s.length+1)
  grind
theorem code_inj{c:Int}(c4:c<=4):∀{m:Nat}{s t:dO},uD c m s->uD c m t->codeS s=codeS t->s=t
 |_,[],[],_,_,_=>rfl
 |_,[],y::t,⟨h,_⟩,⟨h',_⟩,_=>by grind
 |_,x::s,[],⟨h,_⟩,⟨h',_⟩,_=>by grind
 |_,x::s,y::t,⟨h,a⟩,⟨h',b⟩,e=>by
  have e:x.toNat+4*codeS s=y.toNat+4*codeS t:=e
  have h1:=a x (aO ..)
  have h2:=b y (aO ..)
  have lt:t.length=s.length:=by
   grind
  have e1:x=y:=()
  have e2:s=t:=code_inj c4 (m:=s.length) ⟨Z,λz hz=>a z (aY _ hz)⟩ ⟨lt,λz hz=>b z (aY _ hz)⟩ ()
  rw[e1,e2]
theorem WK{α β:Type}{f:α->β}:∀{l:List α},l.Nodup->(∀a∈l,∀b∈l,f a=f b->a=b)->(l.map f).Nodup
 | [],_,_=>Ar
 |a::l,nd,h=>by
  rw[iD]at nd
  rw[bV,iD]
  refine⟨λz=>?_,WK nd.2 λx hx y hy=>h x (aY _ hx) y (aY _ hy)⟩
  grind
def HS{c:Int}(c4:c<=4){m:Nat}{l:List dO}(m4:m<=4)(nd:l.Nodup)(h:∀s∈l,uD c m s):l.length<=900:=by
 have h1:=J3 (m:=4^m) (WK (f:=codeS) nd λa ha b hb=>code_inj c4 (h a ha) (h b hb)) (λx hx=>by
  obtain⟨s,hs,rfl⟩:=dW.mp hx;exact Yw c4 (h s hs))
 rw[aJ]at h1;have h2:4^m<=4^4:=Nat.pow_le_pow_right () m4;grind
def Ko{c:Int}{m p:Nat}{s:dO}{x:Int}(h:uD c m s)(hp:p<=m)(hx:0<=x/\x<c):uD c (m+1) (ig s p x):=by
 obtain⟨h1,h2⟩:=h;refine⟨?_,λy hy=>?_⟩
 ·show(s.take p++([x]++s.drop p)).length=m+1;grind
 ·rcases cJ.mp (show y∈s.take p++([x]++s.drop p)from hy)with z|z
  ·grind
  grind
def WL{c:Int}{m p:Nat}{s:dO}(h:uD c (m+1) s)(hp:p<m+1):uD c m (LC s p):=by
 obtain⟨h1,h2⟩:=h;refine⟨?_,λy hy=>?_⟩
 ·show(s.take p++s.drop (p+1)).length=m;grind
 ·rcases cJ.mp (show y∈s.take p++s.drop (p+1)from hy)with z|z
  ·grind
  grind
def WM(c:Int):uD c 0 []:=⟨Z,λ_ h=>absurd h eN⟩
def a6C{c:Int}{m i:Nat}{s:dO}(h:uD c m s)(hi:i<m):0<=gG s i/\gG s i<c:=by
 have l:i<s.length:=by rw[h.1];exact hi
 unfold gG;rw[fV,bH l];exact h.2 _ (qx l)
def a1G{m a b:Nat}{s:dO}(h:uD 3 m s):uD 3 m (uT s a b):=by
 refine⟨by unfold uT;rw[aJ,qu];exact h.1,λy hy=>?_⟩;obtain⟨k,hk,rfl⟩:=dW.mp hy;have:=a6C h (i:=k) (by rw[<-h.1];exact mJ.mp hk);split
 ·omega
 ·exact this
theorem ū:∀{m:Nat}{s t:dO},uD 3 m s->uD 3 m t->uD 3 m (List.zipWith max s t)
 |_,[],_,⟨rfl,_⟩,_=>⟨Z,λ_ h=>absurd h eN⟩
 |_,x::s,[],⟨h,_⟩,⟨h',_⟩=>by grind
 |_,x::s,y::t,⟨rfl,a⟩,⟨h',b⟩=>by
  have lt:t.length=s.length:=by
   grind
  obtain⟨l,g⟩:=ū (m:=s.length) (s:=s) (t:=t) ⟨Z,λz hz=>a z (aY _ hz)⟩ ⟨lt,λz hz=>b z (aY _ hz)⟩
  refine⟨(),λz hz=>?_⟩
  rcases cB.mp (show z∈max x y::List.zipWith max s t from hz)with e|e
  ·have:=a x (aO ..)
   have:=b y (aO ..)
   rw[e]
   omega
  ·exact g z e
def BJ{c:Int}{m:Nat}{s:dO}{a:Int}(h:uD c m s):[(s,a)].length<=4/\∀x∈[(s,a)],uD c m x.1:=⟨(),λx hx=>by grind⟩
def Ŭ{c:Int}{m:Nat}:([]:List (dO×Int)).length<=4/\∀x∈([]:List (dO×Int)),uD c m x.1:=⟨dh _,λx hx=>absurd hx eN⟩
def S8{c:Int}{m:Nat}{s t:dO}{a b:Int}(h:uD c m s)(h':uD c m t):[(s,a),(t,b)].length<=4/\∀x∈[(s,a),(t,b)],uD c m x.1:=⟨(),λx hx=>by
 grind⟩
def okC{c:Nat}(c4:c<=4)(ws:List Int):Dv (pqC c ws) where
 leaf:=WM _
 inn:=λ{m s p v} h hp=>by
  refine⟨by show((List.range c).map _).length<=4;grind,λx hx=>?_⟩
  obtain⟨k,hk,rfl⟩:=dW.mp (show x∈(List.range c).map _ from hx)
  have:=mJ.mp hk
  exact Ko h hp ⟨(),()⟩
 tie:=λ{m s a b t} h ha hb=>by
  show(if gG s a≠gG s b then [(s,(0:Int))]else []).length<=4/\∀x∈(if gG s a≠gG s b then [(s,(0:Int))]else []),uD c m x.1
  split
  ·exact BJ h
  ·exact Ŭ
 out:=λh hp=>BJ (WL h hp)
 jn:=λ{m s t} h _=>⟨by show 1<=4;decide,λx hx=>by rw[bJ.mp (show x∈[s]from hx)];exact h⟩
 fin:=λm4 nd h=>HS (c:=(c:Int)) () m4 nd h
def okA(ws:List Int):Dv (pqA ws) where
 leaf:=WM _
 inn:=λh hp=>S8 (Ko h hp ⟨(),()⟩) (Ko h hp ⟨(),()⟩)
 tie:=λ{m s a b t} h ha hb=>by
  show(if gG s a+gG s b<2 then [(s,(0:Int))]else []).length<=4/\∀x∈(if gG s a+gG s b<2 then [(s,(0:Int))]else []),uD 2 m x.1
  split
  ·exact BJ h
  ·exact Ŭ
 out:=λh hp=>BJ (WL h hp)
 jn:=λ{m s t} h _=>⟨by show 1<=4;decide,λx hx=>by rw[bJ.mp (show x∈[s]from hx)];exact h⟩
 fin:=λm4 nd h=>HS (c:=2) () m4 nd h
def okW(ws:List Int):Dv (pqW ws) where
 leaf:=WM _
 inn:=λh hp=>S8 (Ko h hp ⟨(),()⟩) (Ko h hp ⟨(),()⟩)
 tie:=λ{m s a b t} h ha hb=>by
  show(if(gG s a=0/\gG s b=2)\/(gG s a=2/\gG s b=0)then [(uT s a b,(0:Int))]else [(s,0)]).length<=4/\∀x∈(if(gG s a=0/\gG s b=2)\/(gG s a=2/\gG s b=0)then [(uT s a b,(0:Int))]else [(s,0)]),uD 3 m x.1
  split
  ·exact BJ (a1G h)
  ·exact BJ h
 out:=λ{m s p v} h hp=>by
  show(if gG s p=0 then []else [(LC s p,if gG s p=2 then ws.getD v 0 else 0)]).length<=4/\∀x∈(if gG s p=0 then []else [(LC s p,if gG s p=2 then ws.getD v 0 else 0)]),uD 3 m x.1
  split
  ·exact Ŭ
  ·exact BJ (WL h hp)
 jn:=λ{m s t} h h'=>⟨by show 1<=4;decide,λx hx=>by rw[bJ.mp (show x∈[List.zipWith max s t]from hx)];exact ū h h'⟩
 fin:=λm4 nd h=>HS (c:=3) () m4 nd h
end Go
def getD_at{ss:List bZ}{i:Nat}{s:bZ}(h:ss[i]?=some s):ss.getD i .leaf=s:=by
 rw[fV,h];rfl
def QJ{ss:List bZ}{i:Nat}{s:bZ}(h:ss[i]?=some s):ss.take (i+1)=ss.take i++[s]:=by
 obtain⟨il,e⟩:=fu.mp h;rw[Ab il,e]
structure Kp where
 P:List (List Int)
 G:List Int
 B:List bW
variable{κ:Kp}
def Kp.top(κ:Kp):List Int:=κ.P.getLastD []
def Can(n:Nat)(ts:List bW)(κ:Kp):bZ->Prop
 |.leaf=>True
 |.inn v=>κ.P≠[]/\(0<=v/\v<(n:Int))/\v∉κ.top/\v∉κ.G
 |.tie a b=>κ.P≠[]/\(a,b)∈ts/\(a,b)∉κ.B/\a∈κ.top/\b∈κ.top
 |.out v=>κ.P≠[]/\v∈κ.top/\v∉κ.G
 |.join=>1<κ.P.length/\κ.top.Perm (κ.P.getD (κ.P.length-2) [])
noncomputable def Mg(κ:Kp):bZ->Kp
 |.leaf=>{ κ with P:=κ.P++[[]]}
 |.inn v=>{ κ with P:=κ.P.dropLast++[κ.top++[v]]}
 |.tie a b=>{ κ with B:=κ.B++[(a,b)]}
 |.out v=>{ κ with P:=κ.P.dropLast++[κ.top.erase v],G:=κ.G++[v]}
 |.join=>{ κ with P:=κ.P.dropLast}
structure KOk(n c:Nat)(κ:Kp):Prop where
 nd:∀b∈κ.P,b.Nodup/\∀v∈b,0<=v/\v<(n:Int)
 pl:κ.P.length<=c
 gl:κ.G.length<=c
 bl:κ.B.length<=c
def tK{P:List (List Int)}(h:P≠[]):P=P.dropLast++[P.getLastD []]:=by
 have e:=(ë h).symm;grind
def KOk.WN{n c:Nat}(h:KOk n c κ):κ.top.Nodup/\∀v∈κ.top,0<=v/\v<(n:Int):=by
 by_cases e:κ.P=[]
 ·unfold Kp.top;grind
 ·refine h.nd _ ?_;have:κ.P.getLastD []∈κ.P.dropLast++[κ.P.getLastD []]:=iz _ aO
  rwa [<-tK e]at this
def KOk.do{n c:Nat}{ts:List bW}{s:bZ}(h:KOk n c κ)(hc:Can n ts κ s):KOk n (c+1) (Mg κ s):=by
 have dl:∀b∈κ.P.dropLast,b.Nodup/\∀v∈b,0<=v/\v<(n:Int):=λb hb=>h.nd b ((List.dropLast_sublist _).subset hb);have l1:κ.P.dropLast.length<=c:=by rw[Og];have:=h.pl;omega
 have h1:=h.pl;have h2:=h.gl;have h3:=h.bl;have cat:∀b:List Int,b.Nodup->(∀v∈b,0<=v/\v<(n:Int))->∀x∈κ.P.dropLast++[b],x.Nodup/\∀v∈x,0<=v/\v<(n:Int):=λb hb hv x hx=>by
  grind
 cases s with
 |leaf =>
  refine⟨λb hb=>?_,by show(κ.P++[[]]).length<=_;grind,by show κ.G.length<=_;omega,by show κ.B.length<=_;omega⟩;rcases cJ.mp hb with hb|hb
  ·exact h.nd b hb
  grind
 |inn v =>
  obtain⟨_,hv,hn,_⟩:=hc;refine⟨cat _ ?_ ?_,by show(κ.P.dropLast++[_]).length<=_;grind,by show κ.G.length<=_;omega,by show κ.B.length<=_;omega⟩
  ·rw[uZ];refine⟨h.WN.1,by simp,λa ha b hb e=>?_⟩;grind
  ·intro x hx;rcases cJ.mp hx with hx|hx
   ·exact h.WN.2 x hx
   grind
 |tie a b=>exact⟨h.nd,by show κ.P.length<=_;omega,by show κ.G.length<=_;omega,by show(κ.B++[_]).length<=_;grind⟩
 |out v =>
  refine⟨cat _ (h.WN.1.erase v) (λx hx=>h.WN.2 x (List.mem_of_mem_erase hx)),by show(κ.P.dropLast++[_]).length<=_;grind,by show(κ.G++[v]).length<=_;grind,by show κ.B.length<=_;omega⟩
 |join=>exact⟨dl,by show κ.P.dropLast.length<=_;omega,by show κ.G.length<=_;omega,by show κ.B.length<=_;omega⟩
def a2z{n:Nat}{b:List Int}(cV:n<=10)(nd:b.Nodup)(bd:∀v∈b,0<=v/\v<(n:Int)):b.length<=10:=by
 have h1:(b.map Int.toNat).Nodup:=by
  unfold List.Nodup;rw[Ak];refine(List.pairwise_iff_forall_sublist.mpr λ{x y} hs=>?_);grind
 have h2:=J3 (m:=n) h1 λx hx=>by
  grind
 grind
theorem qY{α β:Type}{R:α->β->Prop}:∀{xs:List α}{ys:List β}{y:β},Paired R xs (ys++[y])->∃xs' x,xs=xs'++[x]/\Paired R xs' ys/\R x y
 | [],ys,y,h=>by
  have:=aM h
  grind
 |x::r,[],y,h=>by
  cases h with
  |cons h1 h2 =>
   cases h2
   exact⟨[],x,Z,.nil,h1⟩
 |x::r,z::ys,y,h=>by
  cases h with
  |cons h1 h2 =>
   obtain⟨xs',x',e,p,q⟩:=qY h2
   exact⟨x::xs',x',by rw[e];rfl,.cons h1 p,q⟩
structure QK(n:Nat)(ts:List bW)(ss:List bZ)(i:Nat)(κ:Kp)(E:List Int):Prop where
 go:(aW n ts ss i).2=true
 rel:Paired (λj b=>∀v,v∈(aW n ts ss i).1.aQ.getD j []↔v∈b) (aW n ts ss i).1.pile κ.P
 asc:∀b∈(aW n ts ss i).1.aQ,b.Pairwise (· < ·)
 outs:∀v,bZ.out v∈ss.take i↔v∈κ.G
 ties:∀a b,bZ.tie a b∈ss.take i↔(a,b)∈κ.B
 ins:∀v,bZ.inn v∈ss.take i↔v∈E
 ok:KOk n i κ
def a6D{n:Nat}{ts:List bW}{ss:List bZ}:QK n ts ss 0 ⟨[],[],[]⟩ [] :=
 ⟨Z,.nil,λb h=>absurd h eN,λv=>by simp,λa b=>by simp,λv=>by simp,⟨λb h=>absurd h eN,aL _,aL _,aL _⟩⟩
def wZ(p:Int->Bool):(Rc p).Pairwise (· < ·):=by
 unfold Rc;refine Io _ ?_;rw[Ak];exact List.pairwise_lt_range.imp λh=>by omega
theorem wY:∀{xs ys:List Int},xs.Pairwise (· < ·)->ys.Pairwise (· < ·)->(∀v,v∈xs↔v∈ys)->xs=ys
 | [],[],_,_,_=>rfl
 | [],y::ys,_,_,h=>absurd ((h y).mpr aO) eN
 |x::xs,[],_,_,h=>absurd ((h x).mp aO) eN
 |x::xs,y::ys,hx,hy,h=>by
  rw[Ai]at hx hy
  have e:x=y:=by
   rcases cB.mp ((h x).mp aO)with h1|h1
   ·exact h1
   ·rcases cB.mp ((h y).mpr aO)with h2|h2
    ·exact h2.symm
    grind
  subst e
  rw[wY hx.2 hy.2 λv=>⟨λhv=>?_,λhv=>?_⟩]
  ·grind
  grind
def Dw{n:Nat}{ts:List bW}{ss:List bZ}{i:Nat}{κ':Kp}{E':List Int}{s:bZ}{b:List Int}{vI:List Nat}(cV:n<=10)(D:QK n ts ss i κ E)(h:ss[i]?=some s)(hn:s.need<=(aW n ts ss i).1.pile.length)(hl:(aW n ts ss i).1.pile.take (dR s (aW n ts ss i).1)=vI)
  (hb:qd n ts (ss.take i) s (sW s (aW n ts ss i).1)=some b) (as:b.Pairwise (· < ·))
  (rel:Paired (λj b=>∀v,v∈(aW n ts ss i).1.aQ.getD j []↔v∈b) vI κ'.P.dropLast) (ne:κ'.P≠[]) (mb:∀v,v∈b↔v∈κ'.top)
  (mo:∀v,bZ.out v∈ss.take (i+1)↔v∈κ'.G) (mt:∀x y,bZ.tie x y∈ss.take (i+1)↔(x,y)∈κ'.B) (mi:∀v,bZ.inn v∈ss.take (i+1)↔v∈E') (ok:KOk n (i+1) κ'):QK n ts ss (i+1) κ' E':=by
 have d:rF n ts ss i (aW n ts ss i).1=some ⟨(aW n ts ss i).1.aQ++[b],(aW n ts ss i).1.dG++[(aW n ts ss i).1.pile.drop (dR s (aW n ts ss i).1)],vI++[i]⟩:=by
  unfold rF;rw[getD_at h,aF hn,hb,hl];rfl
 have e:=Ř D.go d;have I:=jA cV D.go;have tl:=I.tl;refine⟨by rw[e],?_,?_,mo,mt,mi,ok⟩
 ·rw[e,tK ne];refine cZ ?_ ?_
  ·have lt:∀j∈vI,j<i:=λj hj=>I.lt j (m9 (hl▸hj));have:∀{xs:List Nat}{ys:List (List Int)},(∀j∈xs,j<i)->Paired (λj b=>∀v,v∈(aW n ts ss i).1.aQ.getD j []↔v∈b) xs ys->Paired (λj b'=>∀v,v∈((aW n ts ss i).1.aQ++[b]).getD j []↔v∈b') xs ys:=λ{xs}=>by
    induction xs with
    |nil=>intro ys _ h;cases h;exact .nil
    |cons x r ih =>
     intro ys hx h;cases h with
     |cons h1 h2 =>
      refine .cons (λv=>?_) (ih (λj hj=>hx j (aY _ hj)) h2);rw[fV,xU (by rw[tl];exact hx x aO),<-fV];exact h1 v
   exact this lt rel
  ·intro v;show v∈((aW n ts ss i).1.aQ++[b]).getD i []↔_;rw[fV,xT (),tl,Em];exact mb v
 ·rw[e];intro x hx;rcases cJ.mp hx with hx|hx
  ·exact D.asc x hx
  ·rw[bJ.mp hx];exact as
def HW{n:Nat}{ts:List bW}{ss:List bZ}{i:Nat}(cV:n<=10)(D:QK n ts ss i κ E)(ne:κ.P≠[]):∃vI j,(aW n ts ss i).1.pile=vI++[j]/\Paired (λj b=>∀v,v∈(aW n ts ss i).1.aQ.getD j []↔v∈b) vI κ.P.dropLast/\(∀v,v∈(aW n ts ss i).1.aQ.getD j []↔v∈κ.top)/\((aW n ts ss i).1.aQ.getD j []).Pairwise (· < ·):=by
 have r:=D.rel;rw[tK ne]at r;obtain⟨vI,j,e,p,q⟩:=qY r;refine⟨vI,j,e,p,q,?_⟩;have I:=jA cV D.go;have jl:j<(aW n ts ss i).1.aQ.length:=by rw[I.tl];exact I.lt j (by rw[e];simp)
 rw[fV,bH jl];exact D.asc _ (qx jl)
def Kq{s:bZ}{r:RS}{vI:List Nat}{j:Nat}(h1:s.need=1)(e:r.pile=vI++[j]):s.need<=r.pile.length/\r.pile.take (dR s r)=vI/\sW s r=[r.aQ.getD j []]:=by
 have el:dR s r=vI.length:=by unfold dR;grind
 refine⟨(),(),?_⟩;unfold sW;grind
def Kr{P:List (List Int)}(h:P≠[]):P.getLastD []∈P:=by
 have:P.getLastD []∈P.dropLast++[P.getLastD []]:=iz _ aO
 rwa [<-tK h]at this
def S9{P:List (List Int)}(l2:1<P.length):P.getD (P.length-2) []=P.dropLast.getLastD []:=by
 grind
def join_split{n:Nat}{ts:List bW}{ss:List bZ}{i:Nat}(cV:n<=10)(D:QK n ts ss i κ E)(l2:1<κ.P.length):∃vI j1 j2,(aW n ts ss i).1.pile=vI++[j1,j2]/\bZ.join.need<=(aW n ts ss i).1.pile.length/\(aW n ts ss i).1.pile.take (dR .join (aW n ts ss i).1)=vI/\sW .join (aW n ts ss i).1=[(aW n ts ss i).1.aQ.getD j1 [],(aW n ts ss i).1.aQ.getD j2 []]/\Paired (λj b=>∀v,v∈(aW n ts ss i).1.aQ.getD j []↔v∈b) vI κ.P.dropLast.dropLast/\(∀v,v∈(aW n ts ss i).1.aQ.getD j1 []↔v∈κ.P.dropLast.getLastD [])/\(∀v,v∈(aW n ts ss i).1.aQ.getD j2 []↔v∈κ.top)/\((aW n ts ss i).1.aQ.getD j1 []).Pairwise (· < ·)/\((aW n ts ss i).1.aQ.getD j2 []).Pairwise (· < ·)/\κ.P.dropLast≠[]/\κ.P.getD (κ.P.length-2) []=κ.P.dropLast.getLastD []:=by
 have ne:κ.P≠[]:=λz=>by grind
 have ne2:κ.P.dropLast≠[]:=λz=>by
  have:=Og (xs:=κ.P);grind
 obtain⟨ZP,j2,e,p,q,as2⟩:=HW cV D ne;have I:=jA cV D.go;rw[tK ne2]at p;obtain⟨vI,j1,rfl,p0,q0⟩:=qY p;have e':(aW n ts ss i).1.pile=vI++[j1,j2]:=()
 have el:dR .join (aW n ts ss i).1=vI.length:=by unfold dR;rw[e',cA];show vI.length+2-2=_;omega
 have jl:j1<(aW n ts ss i).1.aQ.length:=by rw[I.tl];exact I.lt j1 (by rw[e'];simp)
 refine⟨vI,j1,j2,e',by rw[e',cA];show 2<=vI.length+2;omega,(),?_,p0,q0,q,?_,as2,ne2,?_⟩
 ·unfold sW;grind
 ·rw[fV,bH jl];exact D.asc _ (qx jl)
 ·exact S9 l2
def a4u{n:Nat}{ts:List bW}{ss:List bZ}{i:Nat}{s:bZ}(cV:n<=10)(D:QK n ts ss i κ E)(h:ss[i]?=some s)(c:Can n ts κ s):∃E',(E'=match s with |.inn v=>E++[v]|_=>E)/\QK n ts ss (i+1) (Mg κ s) E':=by
 have tk:=QJ h;have ok:=D.ok.do c
 have mo:∀v,bZ.out v∈ss.take (i+1)↔v∈κ.G\/s=.out v:=λv=>by rw[tk,cJ,D.outs,bJ,eq_comm]
 have mt:∀a b,bZ.tie a b∈ss.take (i+1)↔(a,b)∈κ.B\/s=.tie a b:=λa b=>by rw[tk,cJ,D.ties,bJ,eq_comm]
 have mi:∀v,bZ.inn v∈ss.take (i+1)↔v∈E\/s=.inn v:=λv=>by rw[tk,cJ,D.ins,bJ,eq_comm]
 have dl:∀b:List Int,(κ.P.dropLast++[b]).dropLast=κ.P.dropLast:=λb=>Eb;have gl:∀(P:List (List Int)) (b:List Int),(P++[b]).getLastD []=b:=λP b=>by rw[ò,Oi];rfl
 have ne:∀(P:List (List Int)) (b:List Int),P++[b]≠[]:=λP b z=>by simp at z
 cases s with
 |leaf =>
  refine⟨E,Z,Dw cV D h (vI:=(aW n ts ss i).1.pile) (b:=[]) (dh _) ?_ Z .nil ?_ (ne _ _) ?_ ?_ ?_ ?_ ok⟩
  ·show List.take ((aW n ts ss i).1.pile.length-0) _=_;rw[Ax,iC]
  ·show Paired _ _ (κ.P++[[]]).dropLast;rw[Eb];exact D.rel
  ·intro v;show _↔v∈(κ.P++[[]]).getLastD [];rw[gl]
  ·intro v;rw[mo];simp[Mg]
  ·intro a b;rw[mt];simp[Mg]
  ·intro v;rw[mi];simp
 |inn v =>
  obtain⟨hP,hv,hn,hg⟩:=c;obtain⟨vI,j,e,p,q,as⟩:=HW cV D hP;obtain⟨u1,u2,u3⟩:=Kq (s:=.inn v) Z e;refine⟨E++[v],Z,Dw cV D h (vI:=vI) (b:=fL ((aW n ts ss i).1.aQ.getD j []) [v]) u1 u2 ?_ (wZ _) ?_ (ne _ _) ?_ ?_ ?_ ?_ ok⟩
  ·rw[u3];unfold qd;dsimp only;rw[aF ⟨hv,λz=>hn ((q v).mp z),λz=>hg ((D.outs v).mp z)⟩];rfl
  ·show Paired _ _ (κ.P.dropLast++[_]).dropLast;rw[dl];exact p
  ·intro x;show _↔x∈(κ.P.dropLast++[κ.top++[v]]).getLastD [];rw[gl];unfold fL;rw[zE,fB,q,cJ];constructor
   ·exact λz=>z.2.2
   ·intro z;have bd:=D.ok.WN.2;refine⟨?_,?_,z⟩
    ·rcases z with z|z
     ·exact(bd x z).1
     ·rw[bJ.mp z];exact hv.1
    ·rcases z with z|z
     ·have:=(bd x z).2;omega
     ·rw[bJ.mp z];have:=hv.2;omega
  ·intro x;rw[mo];simp[Mg]
  ·intro a b;rw[mt];simp[Mg]
  ·intro x;rw[mi];simp[eq_comm]
 |tie x y =>
  obtain⟨hP,ht,hb,h1,h2⟩:=c;obtain⟨vI,j,e,p,q,as⟩:=HW cV D hP;obtain⟨u1,u2,u3⟩:=Kq (s:=.tie x y) Z e;refine⟨E,Z,Dw cV D h (vI:=vI) (b:=(aW n ts ss i).1.aQ.getD j []) u1 u2 ?_ as p hP q ?_ ?_ ?_ ok⟩
  ·rw[u3];unfold qd;dsimp only;rw[aF]
   ·rfl
   ·refine⟨ht,?_,λz=>hb ((D.ties x y).mp z)⟩;unfold nY;rw[List.filter_eq_nil_iff];intro v hv;have:v∈(aW n ts ss i).1.aQ.getD j []:=by
     rcases cB.mp hv with rfl|hv
     ·exact(q _).mpr h1
     ·rw[bJ.mp hv];exact(q _).mpr h2
    simpa using this
  ·intro v;rw[mo];simp[Mg]
  ·intro a b;rw[mt];simp[Mg,eq_comm]
  ·intro v;rw[mi];simp
 |out v =>
  obtain⟨hP,hv,hg⟩:=c;obtain⟨vI,j,e,p,q,as⟩:=HW cV D hP;obtain⟨u1,u2,u3⟩:=Kq (s:=.out v) Z e;refine⟨E,Z,Dw cV D h (vI:=vI) (b:=nY ((aW n ts ss i).1.aQ.getD j []) [v]) u1 u2 ?_ (Io _ as) ?_ (ne _ _) ?_ ?_ ?_ ?_ ok⟩
  ·rw[u3];unfold qd;dsimp only;rw[aF ⟨(q v).mpr hv,λz=>hg ((D.outs v).mp z)⟩];rfl
  ·show Paired _ _ (κ.P.dropLast++[_]).dropLast;rw[dl];exact p
  ·intro x;show _↔x∈(κ.P.dropLast++[κ.top.erase v]).getLastD [];rw[gl,D.ok.WN.1.mem_erase_iff];unfold nY;rw[lF,q];simp[and_comm]
  ·intro x;rw[mo];simp[Mg,eq_comm]
  ·intro a b;rw[mt];simp[Mg]
  ·intro x;rw[mi];simp
 |join =>
  obtain⟨l2,pm⟩:=c;obtain⟨vI,j1,j2,e,u1,u2,u3,p,q1,q2,as1,as2,ne2,eg⟩:=join_split cV D l2;have eb:(aW n ts ss i).1.aQ.getD j1 []=(aW n ts ss i).1.aQ.getD j2 []:=wY as1 as2 λv=>by
   rw[q1,q2,<-eg];exact(pm.mem_iff).symm
  refine⟨E,Z,Dw cV D h (vI:=vI) (b:=(aW n ts ss i).1.aQ.getD j1 []) u1 u2 ?_ as1 p ne2 q1 ?_ ?_ ?_ ok⟩
  ·rw[u3];unfold qd;dsimp only;rw[aF]
   ·rfl
   ·exact eb
  ·intro v;rw[mo];simp[Mg]
  ·intro a b;rw[mt];simp[Mg]
  ·intro v;rw[mi];simp
def a1H{n:Nat}{ts:List bW}{ss:List bZ}(cV:n<=10)(D:QK n ts ss ss.length κ E):(κ.P≠[[]]->BX n ts ss (cD n ts ss)=.pile)/\(κ.P=[[]]->∀v:Nat,v<n->(∀j:Nat,j<v->(j:Int)∈E)->(v:Int)∉E->BX n ts ss (cD n ts ss)=.place v)/\(κ.P=[[]]->(∀j:Nat,j<n->(j:Int)∈E)->BX n ts ss (cD n ts ss)=match ts.find? λt=>!decide (t∈κ.B)with|some t=>.tie t.1 t.2|none=>.ok):=by
 have I:=jA cV D.go;have l1:¬(cD n ts ss).aQ.length<ss.length:=by unfold cD;rw[I.tl];omega
 have l2:M8 (cD n ts ss)=[[]]↔κ.P=[[]]:=by
  have r:=D.rel;unfold M8 cD;generalize (aW n ts ss ss.length).1.pile=pl at *
  generalize (aW n ts ss ss.length).1.aQ=tp at *
  generalize κ.P=P at *
  cases r with
  |nil=>simp
  | @cons x b xs bs h1 h2 =>
   have e:tp.getD x []=[]↔b=[]:=by
    rw[T8,T8];grind
   cases h2 with
   |nil =>
    grind
   |cons h3 h4 =>
    grind
 have ins:∀v,bZ.inn v∈ss↔v∈E:=λv=>by have:=D.ins v;grind
 have tis:∀a b,bZ.tie a b∈ss↔(a,b)∈κ.B:=λa b=>by have:=D.ties a b;grind
 refine⟨λh=>?_,λh v hv ok no=>?_,λh ok=>?_⟩
 ·unfold BX;grind
 ·have ef:(List.range n).find? (λ(v:Nat)=>!decide (bZ.inn (v:Int)∈ss))=some v:=ö.mpr ⟨(),mJ.mpr hv,λj hj=>by grind⟩;unfold BX;grind
 ·have ef:(List.range n).find? (λ(v:Nat)=>!decide (bZ.inn (v:Int)∈ss))=none:=Eg.mpr λj hj=>by grind
  have eg:(λt:Int×Int=>!decide (bZ.tie t.1 t.2∈ss))=λt=>!decide (t∈κ.B):=funext λt=>by grind
  unfold BX;rw[aq l1,aF (l2.mpr h),ef,eg];try rfl
structure Tb(n m:Nat)(up:Nat->Nat)(bI:Nat->List Int):Prop where
 pos:0<m
 ups:∀k,0<k->k<m->up k<k
 nd:∀k,(bI k).Nodup
 lt:∀k,∀v∈bI k,0<=v/\v<(n:Int)
 fr:∀k,0<k->k<m->∀v∈bI k,v∈bI (up k)\/∀j,j<k->v∉bI j
 no:∀k,m<=k->bI k=[]
inductive qj(m:Nat)(up:Nat->Nat)(k:Nat):Nat->Prop
 |self:k<m->qj m up k k
 |step {r:Nat}:0<r->r<m->qj m up k (up r)->qj m up k r
section
variable{n m:Nat}{up:Nat->Nat}{bI:Nat->List Int}
def Tb.in_(T:Tb n m up bI){k:Nat}{v:Int}(h:v∈bI k):k<m:=by
 rcases yd k m with c|c
 ·exact c
 ·rw[T.no k c]at h;grind
def qj.le(T:Tb n m up bI){k r:Nat}(h:qj m up k r):k<=r:=by
 induction h with
 |self=>grind
 |step r0 rm _ ih=>have:=T.ups _ r0 rm;omega
def qj.trans{k j r:Nat}(h1:qj m up k j)(h2:qj m up j r):qj m up k r:=by
 induction h2 with
 |self=>exact h1
 |step r0 rm _ ih=>exact .step r0 rm ih
def qj.kid(T:Tb n m up bI){k r:Nat}(h:qj m up k r):r=k\/∃j,0<j/\j<m/\up j=k/\qj m up j r:=by
 induction h with
 |self=>exact .inl rfl
 | @step r r0 rm _ ih =>
  rcases ih with e|⟨j,a,b,c,d⟩
  ·exact .inr ⟨r,r0,rm,e,.self rm⟩
  ·exact .inr ⟨j,a,b,c,.step r0 rm d⟩
def qj.cmp{j r:Nat}(h1:qj m up j r)(h2:qj m up j' r):qj m up j j'\/qj m up j' j:=by
 induction h1 with
 |self=>exact .inr h2
 | @step r r0 rm h ih =>
  cases h2 with
  |self=>exact .inl (.step r0 rm h)
  |step _ _ h'=>exact ih h'
def HX(T:Tb n m up bI){j r:Nat}(j0:0<j)(jm:j<m)(j0':0<j')(jm':j'<m)(e:up j=up j')(h1:qj m up j r)(h2:qj m up j' r):j=j':=by
 have fZ:∀{a b:Nat},0<a->a<m->up a=up b->qj m up a b->a=b:=λ{a b} a0 am e h=>by
  cases h with
  |self=>rfl
  |step b0 bm h =>
   rw[<-e]at h;have l1:=h.le T;have l2:=T.ups a a0 am;omega
 rcases h1.cmp h2 with h|h
 ·grind
 grind
def wg(T:Tb n m up bI){j:Nat}{v:Int}(h:v∈bI j)(fr:j=0\/v∉bI (up j)):∀q,v∈bI q->qj m up j q:=by
 have jm:=T.in_ h;have no:∀i,i<j->v∉bI i:=λi hi=>by
  rcases fr with e|e
  ·omega
  ·rcases T.fr j () jm v h with z|z
   ·grind
   grind
 intro q
 induction q using Nat.strongRecOn with
 |ind q ih =>
  intro hq;have qm:=T.in_ hq;by_cases c:q=j
  ·rw[c];exact .self jm
  ·have lj:j<q:=by
    grind
   rcases T.fr q () qm v hq with z|z
   ·exact .step () qm (ih _ (T.ups q () qm) z)
   grind
def conn(T:Tb n m up bI){j r:Nat}{v:Int}(b:qj m up j r)(h:v∈bI r):(v∈bI j/\v∈bI (up j))\/∀q,v∈bI q->qj m up j q:=by
 induction b with
 |self jm =>
  by_cases c:v∈bI (up j)
  ·exact .inl ⟨h,c⟩
  ·exact .inr (wg T h (.inr c))
 | @step r r0 rm b ih =>
  by_cases c:v∈bI (up r)
  ·exact ih c
  ·exact .inr λq hq=>qj.trans (.step r0 rm b) (wg T h (.inr c) q hq)
def Ks(m:Nat)(up:Nat->Nat)(bI:Nat->List Int)(k:Nat)(v:Int):Prop:=∃r,qj m up k r/\v∈bI r
def ŭ(T:Tb n m up bI){j:Nat}{v:Int}(j0:0<j)(jm:j<m)(h:Ks m up bI j v)(hu:v∈bI (up j)):v∈bI j:=by
 obtain⟨r,b,hr⟩:=h;rcases conn T b hr with z|z
 ·exact z.1
 ·have l1:=(z _ hu).le T;have l2:=T.ups j j0 jm;omega
def a1I(T:Tb n m up bI){j:Nat}{v:Int}(j0:0<j)(jm:j<m)(j0':0<j')(jm':j'<m)(e:up j=up j')(ne:j≠j')(h:Ks m up bI j v)(h':Ks m up bI j' v):v∈bI (up j):=by
 obtain⟨r,b,hr⟩:=h;obtain⟨r',b',hr'⟩:=h';rcases conn T b hr with z|z
 ·exact z.2
 ·exact absurd (HX T j0 jm j0' jm' e (z _ hr') b') ne
def Tc(T:Tb n m up bI):∀r,r<m->qj m up 0 r:=by
 intro r
 induction r using Nat.strongRecOn with
 |ind r ih =>
  intro rm;by_cases c:r=0
  ·rw[c];exact .self T.pos
  ·have:=T.ups r () rm;exact .step () rm (ih _ this ())
def jx(up:Nat->Nat)(bI:Nat->List Int)(r:Nat)(t:Int×Int):Prop:=t.1∈bI r/\t.2∈bI r/\(r=0\/¬(t.1∈bI (up r)/\t.2∈bI (up r)))
instance (up:Nat->Nat) (bI:Nat->List Int) (r:Nat) (t:Int×Int):Decidable (jx up bI r t):=by unfold jx;infer_instance
def Td(T:Tb n m up bI){r:Nat}{t:Int×Int}(h:jx up bI r t):∀q,t.1∈bI q->t.2∈bI q->qj m up r q:=by
 obtain⟨h1,h2,h3⟩:=h;intro q q1 q2;rcases h3 with e|e
 ·exact wg T h1 (.inl e) q q1
 ·by_cases c:t.1∈bI (up r)
  ·exact wg T h2 (.inr λz=>e ⟨c,z⟩) q q2
  ·exact wg T h1 (.inr c) q q1
def wj(T:Tb n m up bI){r r':Nat}{t:Int×Int}(h:jx up bI r t)(h':jx up bI r' t):r=r':=by
 have l1:=(Td T h r' h'.1 h'.2.1).le T;have l2:=(Td T h' r h.1 h.2.1).le T;omega
def a1J(T:Tb n m up bI){t:Int×Int}:∀q,t.1∈bI q->t.2∈bI q->∃r,r<m/\jx up bI r t:=by
 intro q
 induction q using Nat.strongRecOn with
 |ind q ih =>
  intro q1 q2;have qm:=T.in_ q1;by_cases c:q=0
  ·exact⟨q,qm,q1,q2,.inl c⟩
  ·by_cases d:t.1∈bI (up q)/\t.2∈bI (up q)
   ·exact ih _ (T.ups q () qm) d.1 d.2
   ·exact⟨q,qm,q1,q2,.inr d⟩
end
def Hh(κ:Kp)(ss:List bZ):Kp:=ss.foldl Mg κ
def ur(n wd:Nat)(ts:List bW):Kp->List bZ->Prop
 |_,[]=>True
 |κ,s::r=>(Can n ts κ s/\(Mg κ s).top.length<=wd)/\ur n wd ts (Mg κ s) r
section
variable{n:Nat}{ts:List bW}
def mY(κ:Kp)(a b:List bZ):Hh κ (a++b)=Hh (Hh κ a) b:=List.foldl_append
theorem pN:∀{κ:Kp}{a b:List bZ},ur n wd ts κ a->ur n wd ts (Hh κ a) b->ur n wd ts κ (a++b)
 |_,[],_,_,h=>h
 |_,_::_,_,h,h'=>⟨h.1,pN h.2 h'⟩
theorem zN:∀{κ:Kp}{a b:List bZ},ur n wd ts κ (a++b)->ur n wd ts κ a/\ur n wd ts (Hh κ a) b
 |_,[],_,h=>⟨trivial,h⟩
 |_,_::_,_,h=>⟨⟨h.1,(zN h.2).1⟩,(zN h.2).2⟩
def sS(P:List (List Int))(b:List Int)(G:List Int)(B:List bW):(Kp.mk (P++[b]) G B).top=b:=by
 show(P++[b]).getLastD []=b;grind
def Ů(P:List (List Int))(b:List Int)(G:List Int)(B:List bW):(Kp.mk (P++[b]) G B).P≠[]:=λz=>by
 have:P++[b]=[]:=z;simp at this
theorem WQ:∀(vs:List Int) {P:List (List Int)}{b G:List Int}{B:List bW},vs.Nodup->(∀v∈vs,0<=v/\v<(n:Int))->(∀v∈vs,v∉b)->(∀v∈vs,v∉G)->b.length+vs.length<=wd->ur n wd ts ⟨P++[b],G,B⟩ (vs.map .inn)/\Hh ⟨P++[b],G,B⟩ (vs.map .inn)=⟨P++[b++vs],G,B⟩
 | [],P,b,G,B,_,_,_,_,_=>⟨trivial,by rw[nC];rfl⟩
 |v::vs,P,b,G,B,nd,lt,nb,ng,hw=>by
  rw[jE]at hw
  obtain⟨n1,n2⟩:=iD.mp nd
  have e:Mg ⟨P++[b],G,B⟩ (.inn v)=⟨P++[b++[v]],G,B⟩:=by
   show Kp.mk ((P++[b]).dropLast++[(Kp.mk (P++[b]) G B).top++[v]]) G B=_
   rw[sS,Eb]
  obtain⟨i1,i2⟩:=WQ vs (P:=P) (b:=b++[v]) (G:=G) (B:=B) n2 (λx hx=>lt x (aY _ hx)) (λx hx z=>by
   grind) (λx hx=>ng x (aY _ hx)) ()
  refine⟨⟨⟨⟨Ů _ _ _ _,lt v aO,?_,ng v aO⟩,?_⟩,?_⟩,?_⟩
  ·rw[sS];grind
  ·rw[e,sS,cA,Ae];omega
  ·grind
  ·show Hh (Mg ⟨P++[b],G,B⟩ (.inn v)) (vs.map .inn)=_
   grind
theorem QL:∀(vs:List Int) {P:List (List Int)}{b G:List Int}{B:List bW},vs.Nodup->b.Nodup->(∀v∈vs,v∈b)->(∀v∈vs,v∉G)->b.length<=wd->ur n wd ts ⟨P++[b],G,B⟩ (vs.map .out)/\∃b',b'.Nodup/\(∀v,v∈b'↔v∈b/\v∉vs)/\Hh ⟨P++[b],G,B⟩ (vs.map .out)=⟨P++[b'],G++vs,B⟩
 | [],P,b,G,B,_,nb,_,_,_=>⟨trivial,b,nb,λv=>by simp,by rw[nC];rfl⟩
 |v::vs,P,b,G,B,nd,nb,mb,ng,hw=>by
  obtain⟨n1,n2⟩:=iD.mp nd
  have e:Mg ⟨P++[b],G,B⟩ (.out v)=⟨P++[b.erase v],G++[v],B⟩:=by
   show Kp.mk ((P++[b]).dropLast++[(Kp.mk (P++[b]) G B).top.erase v]) (G++[v]) B=_
   rw[sS,Eb]
  obtain⟨i1,b',d1,d2,i2⟩:=QL vs (P:=P) (b:=b.erase v) (G:=G++[v]) (B:=B) n2 (nb.erase v) (λx hx=>nb.mem_erase_iff.mpr ⟨λz=>n1 (z▸hx),mb x (aY _ hx)⟩) (λx hx z=>by
   grind) (dI List.length_erase_le hw)
  refine⟨⟨⟨⟨Ů _ _ _ _,?_,ng v aO⟩,?_⟩,?_⟩,b',d1,λx=>?_,?_⟩
  ·rw[sS];grind
  ·rw[e,sS];grind
  ·grind
  ·grind
  ·show Hh (Mg ⟨P++[b],G,B⟩ (.out v)) (vs.map .out)=_
   grind
theorem QS:∀(tl:List bW) {P:List (List Int)}{b G:List Int}{B:List bW},tl.Nodup->(∀t∈tl,t∈ts/\t∉B/\t.1∈b/\t.2∈b)->b.length<=wd->ur n wd ts ⟨P++[b],G,B⟩ (tl.map λt=>.tie t.1 t.2)/\Hh ⟨P++[b],G,B⟩ (tl.map λt=>.tie t.1 t.2)=⟨P++[b],G,B++tl⟩
 | [],P,b,G,B,_,_,_=>⟨trivial,by rw[nC];rfl⟩
 |t::tl,P,b,G,B,nd,ok,hw=>by
  obtain⟨n1,n2⟩:=iD.mp nd
  obtain⟨o1,o2,o3,o4⟩:=ok t aO
  obtain⟨i1,i2⟩:=QS tl (P:=P) (b:=b) (G:=G) (B:=B++[t]) n2 (λs hs=>by
   grind) hw
  refine⟨⟨⟨⟨Ů _ _ _ _,o1,o2,?_,?_⟩,?_⟩,i1⟩,?_⟩
  ·rw[sS];exact o3
  ·rw[sS];exact o4
  ·show(Kp.mk (P++[b]) G (B++[t])).top.length<=wd
   rw[sS];exact hw
  ·show Hh ⟨P++[b],G,B++[t]⟩ (tl.map _)=_
   grind
def a1K{n:Nat}{ts:List bW}{P:List (List Int)}{b b':List Int}(pm:b'.Perm b):Can n ts ⟨P++[b]++[b'],G,B⟩ .join/\Mg ⟨P++[b]++[b'],G,B⟩ .join=⟨P++[b],G,B⟩:=by
 refine⟨⟨?_,?_⟩,?_⟩
 ·grind
 ·rw[sS];show b'.Perm ((P++[b]++[b']).getD ((P++[b]++[b']).length-2) []);have:(P++[b]++[b']).getD ((P++[b]++[b']).length-2) []=b:=by
   rw[S9 (by simp),Eb,ò,Oi];rfl
  rw[this];exact pm
 ·show Kp.mk (P++[b]++[b']).dropLast G B=_;grind
end
def vC(x y:List Int):List Int:=x.filter λv=>!decide (v∈y)
def lU{x y:List Int}{v:Int}:v∈vC x y↔v∈x/\v∉y:=by
 unfold vC;grind
def pQ(bI:Nat->List Int)(j k:Nat):List bZ:=(vC (bI j) (bI k)).map .out++(vC (bI k) (bI j)).map .inn
section
variable{n m:Nat}{up:Nat->Nat}{bI:Nat->List Int}{ts:List bW}
def ů(T:Tb n m up bI)(hW:∀k,(bI k).length<=wd){j k:Nat}{P:List (List Int)}{b:List Int}(pm:b.Perm (bI j))(h1:∀v∈bI j,v∉bI k->v∉G)(h2:∀v∈bI k,v∉bI j->v∉G):ur n wd ts ⟨P++[b],G,B⟩ (pQ bI j k)/\∃b',b'.Perm (bI k)/\Hh ⟨P++[b],G,B⟩ (pQ bI j k)=⟨P++[b'],G++vC (bI j) (bI k),B⟩:=by
 have nb:b.Nodup:=pm.nodup_iff.mpr (T.nd j);obtain⟨o1,b1,d1,d2,o2⟩:=QL (n:=n) (ts:=ts) (vC (bI j) (bI k)) (P:=P) (b:=b) (G:=G) (B:=B) ((T.nd j).filter _) nb (λv hv=>pm.mem_iff.mpr (lU.mp hv).1) (λv hv=>h1 v (lU.mp hv).1 (lU.mp hv).2) (by rw[pm.length_eq];exact hW j);have m1:∀v,v∈b1↔v∈bI j/\v∈bI k:=λv=>by
  rw[d2,pm.mem_iff,lU];grind
 have pk:(b1++vC (bI k) (bI j)).Perm (bI k):=by
  refine(Ig (uZ.mpr ⟨d1,(show(vC (bI k) (bI j)).Nodup from(T.nd k).filter _),λx hx y hy e=>?_⟩) (T.nd k)).mpr λv=>?_
  ·subst e;exact(lU.mp hy).2 ((m1 x).mp hx).1
  ·rw[cJ,m1];show _\/v∈vC (bI k) (bI j)↔_;rw[lU];grind
 obtain⟨i1,i2⟩:=WQ (n:=n) (ts:=ts) (vC (bI k) (bI j)) (P:=P) (b:=b1) (G:=G++vC (bI j) (bI k)) (B:=B) ((T.nd k).filter _) (λv hv=>T.lt k v (lU.mp hv).1) (λv hv z=>(lU.mp hv).2 ((m1 v).mp z).1) (λv hv z=>by
  obtain⟨a,c⟩:=lU.mp hv;rcases cJ.mp z with z|z
  ·grind
  ·exact(lU.mp z).2 a) (by have h1:=pk.length_eq;have h2:=hW k;rw[cA]at h1;rw[h1];exact h2)
 exact⟨pN o1 (),b1++vC (bI k) (bI j),pk,by unfold pQ;rw[mY,o2,i2]⟩
def WR(n wd m:Nat)(up:Nat->Nat)(bI:Nat->List Int)(ts tb:List bW)(j:Nat)(ss:List bZ):Prop :=
 ∀P G B,(∀v,Ks m up bI j v->v∉G)->(∀t∈B,∀r,qj m up j r->¬jx up bI r t)->∃b G' B',b.Perm (bI j)/\ur n wd ts ⟨P,G,B⟩ ss/\Hh ⟨P,G,B⟩ ss=⟨P++[b],G',B'⟩/\(∀v,v∈G'↔v∈G\/(Ks m up bI j v/\v∉bI j))/\∀t,t∈B'↔t∈B\/(t∈tb/\∃r,qj m up j r/\jx up bI r t)
theorem QT(T:Tb n m up bI)(hW:∀k,(bI k).length<=wd){tb:List bW}{k:Nat}{L:Nat->List bZ}:∀(js:List Nat),js.Nodup->(∀j∈js,0<j/\j<m/\up j=k)->(∀j∈js,WR n wd m up bI ts tb j (L j))->∀{P:List (List Int)}{b G:List Int}{B:List bW},b.Perm (bI k)->(∀j∈js,∀v,Ks m up bI j v->v∉G)->(∀v∈bI k,v∉G)->(∀j∈js,∀t∈B,∀r,qj m up j r->¬jx up bI r t)->
  ∃G' B',ur n wd ts ⟨P++[b],G,B⟩ (js.flatMap λj=>L j++(pQ bI j k++[.join]))/\Hh ⟨P++[b],G,B⟩ (js.flatMap λj=>L j++(pQ bI j k++[.join]))=⟨P++[b],G',B'⟩/\(∀v,v∈G'↔v∈G\/∃j∈js,Ks m up bI j v/\v∉bI k)/\∀t,t∈B'↔t∈B\/(t∈tb/\∃j∈js,∃r,qj m up j r/\jx up bI r t)
 | [],_,_,_,P,b,G,B,_,_,_,_=>⟨G,B,trivial,Z,λv=>by simp,λt=>by simp⟩
 |j::js,nd,kd,ly,P,b,G,B,pm,hG,hK,hB=>by
  obtain⟨n1,n2⟩:=iD.mp nd
  obtain⟨j0,jm,ju⟩:=kd j aO
  obtain⟨bj,G1,B1,pj,a1,e1,mG1,mB1⟩:=ly j aO (P++[b]) G B (hG j aO) (hB j aO)
  have a79:∀v∈bI j,Ks m up bI j v:=λv hv=>⟨j,.self jm,hv⟩
  obtain⟨a2,b2,p2,e2⟩:=ů (ts:=ts) T hW (k:=k) (P:=P++[b]) (G:=G1) (B:=B1) pj (λv hv _ z=>by
   grind) (λv hv nv z=>by
   rcases(mG1 v).mp z with z|z
   ·grind
   ·exact nv (ŭ T j0 jm z.1 (ju▸hv)))
  obtain⟨c3,e3⟩:=a1K (n:=n) (ts:=ts) (P:=P) (b:=b) (b':=b2) (G:=G1++vC (bI j) (bI k)) (B:=B1) (p2.trans pm.symm)
  have mG2:∀v,v∈G1++vC (bI j) (bI k)↔v∈G\/(Ks m up bI j v/\v∉bI k):=λv=>by
   rw[cJ,mG1,lU]
   constructor
   ·rintro((z|⟨z1,z2⟩)|⟨z1,z2⟩)
    ·exact .inl z
    ·exact .inr ⟨z1,λz=>z2 (ŭ T j0 jm z1 (ju▸z))⟩
    grind
   grind
  obtain⟨G',B',a4,e4,mG,mB⟩:=QT T hW js n2 (λi hi=>kd i (aY _ hi)) (λi hi=>ly i (aY _ hi)) (P:=P) (b:=b) (G:=G1++vC (bI j) (bI k)) (B:=B1) pm (λi hi v hv z=>by
   obtain⟨i0,im,iu⟩:=kd i (aY _ hi)
   rcases(mG2 v).mp z with z|⟨z1,z2⟩
   ·grind
   ·exact z2 (ju▸a1I T j0 jm i0 im (ju.trans iu.symm) (λz=>n1 (z▸hi)) z1 hv)) (λv hv z=>by
   grind) (λi hi t ht r br hr=>by
   obtain⟨i0,im,iu⟩:=kd i (aY _ hi)
   rcases(mB1 t).mp ht with z|⟨_,r',br',hr'⟩
   ·grind
   ·have:=wj T hr hr'
    subst this
    exact n1 (HX T j0 jm i0 im (ju.trans iu.symm) br' br▸hi))
  have es:(j::js).flatMap (λj=>L j++(pQ bI j k++[.join]))=L j++(pQ bI j k++([.join]++js.flatMap λj=>L j++(pQ bI j k++[.join]))):=by
   grind
  rw[es]
  refine⟨G',B',pN a1 ?_,?_,λv=>?_,λt=>?_⟩
  ·rw[e1]
   refine pN a2 ?_
   rw[e2]
   exact⟨⟨c3,by rw[e3,sS,pm.length_eq];exact hW k⟩,by rw[e3];exact a4⟩
  ·rw[mY,e1,mY,e2]
   show Hh (Mg _ .join) (js.flatMap λj=>L j++(pQ bI j k++[.join]))=_
   rw[e3,e4]
  ·grind
  grind
def xR(up:Nat->Nat)(bI:Nat->List Int)(tb:List bW)(k:Nat):List bW:=tb.filter λt=>decide (jx up bI k t)
def gR(m:Nat)(up:Nat->Nat)(k:Nat):List Nat:=(List.range m).filter λj=>decide (k<j)&&decide (up j=k)
def mV(T:Tb n m up bI){k j:Nat}:j∈gR m up k↔0<j/\j<m/\up j=k:=by
 unfold gR;rw[lF,mJ,qw,fB,fB];constructor
 ·grind
 ·rintro⟨a,b,c⟩;have:=T.ups j a b;exact⟨b,(),c⟩
def HY(m:Nat)(up:Nat->Nat)(k:Nat):(gR m up k).Nodup:=List.nodup_range.sublist Ut
def a4v(T:Tb n m up bI)(hW:∀k,(bI k).length<=wd){tb:List bW}{k:Nat}(km:k<m)(tn:tb.Nodup)(sub:∀t∈tb,t∈ts){P:List (List Int)}{b G':List Int}{B':List bW}(pm:b.Perm (bI k))(hB:∀t∈B,∀r,qj m up k r->¬jx up bI r t)(mG:∀v,v∈G'↔v∈G\/∃j∈gR m up k,Ks m up bI j v/\v∉bI k)(mB:∀t,t∈B'↔t∈B\/(t∈tb/\∃j∈gR m up k,∃r,qj m up j r/\jx up bI r t)) :
  ∃B2,ur n wd ts ⟨P++[b],G',B'⟩ ((xR up bI tb k).map λt=>.tie t.1 t.2)/\Hh ⟨P++[b],G',B'⟩ ((xR up bI tb k).map λt=>.tie t.1 t.2)=⟨P++[b],G',B2⟩/\(∀v,v∈G'↔v∈G\/(Ks m up bI k v/\v∉bI k))/\∀t,t∈B2↔t∈B\/(t∈tb/\∃r,qj m up k r/\jx up bI r t):=by
 have mo:∀t,t∈xR up bI tb k↔t∈tb/\jx up bI k t:=λt=>by
  unfold xR;rw[lF,fB]
 have kb:∀{j r:Nat},j∈gR m up k->qj m up j r->qj m up k r:=λ{j r} hj b=>by
  obtain⟨j0,jm,ju⟩:=(mV T).mp hj;exact qj.trans (.step j0 jm (by rw[ju];exact .self km)) b
 obtain⟨a,e⟩:=QS (n:=n) (ts:=ts) (xR up bI tb k) (P:=P) (b:=b) (G:=G') (B:=B') (tn.sublist Ut) (λt ht=>by
  obtain⟨t1,h⟩:=(mo t).mp ht;refine⟨sub t t1,λz=>?_,pm.mem_iff.mpr h.1,pm.mem_iff.mpr h.2.1⟩;rcases(mB t).mp z with z|⟨_,j,hj,r,br,hr⟩
  ·exact hB t z k (.self km) h
  ·have:=wj T hr h;subst this;obtain⟨j0,jm,ju⟩:=(mV T).mp hj;have l1:=br.le T;have l2:=T.ups j j0 jm;omega) (by rw[pm.length_eq];exact hW k)
 refine⟨B'++xR up bI tb k,a,e,λv=>?_,λt=>?_⟩
 ·rw[mG];constructor
  ·rintro(z|⟨j,hj,⟨r,br,hr⟩,z⟩)
   ·exact .inl z
   ·exact .inr ⟨⟨r,kb hj br,hr⟩,z⟩
  ·rintro(z|⟨⟨r,br,hr⟩,z⟩)
   ·exact .inl z
   ·rcases br.kid T with c|⟨j,j0,jm,ju,bj⟩
    ·exact absurd (c▸hr) z
    ·exact .inr ⟨j,(mV T).mpr ⟨j0,jm,ju⟩,⟨r,bj,hr⟩,z⟩
 ·rw[cJ,mB,mo];constructor
  ·rintro((z|⟨z0,j,hj,r,br,hr⟩)|⟨z0,z⟩)
   ·exact .inl z
   ·exact .inr ⟨z0,r,kb hj br,hr⟩
   ·exact .inr ⟨z0,k,.self km,z⟩
  ·rintro(z|⟨z0,r,br,hr⟩)
   ·exact .inl (.inl z)
   ·rcases br.kid T with c|⟨j,j0,jm,ju,bj⟩
    ·exact .inr ⟨z0,c▸hr⟩
    ·exact .inl (.inr ⟨z0,j,(mV T).mpr ⟨j0,jm,ju⟩,r,bj,hr⟩)
end
section
variable{n:Nat}{ts:List bW}{ss:List bZ}
theorem Ku(cV:n<=10)(c:ur n wd ts ⟨[],[],[]⟩ ss):∀i,i<=ss.length->∃E,QK n ts ss i (Hh ⟨[],[],[]⟩ (ss.take i)) E
 |0,_=>⟨[],a6D⟩
 |i+1,il=>by
  obtain⟨E,D⟩:=Ku cV c i ()
  have hs:ss[i]?=some (ss[i]'()):=bH ()
  have c1:ur n wd ts ⟨[],[],[]⟩ (ss.take i++ss.drop i):=by rw[uY];exact c
  have c2:=(zN c1).2
  rw[Ih (show i<ss.length by omega)]at c2
  obtain⟨E',_,D'⟩:=a4u cV D hs c2.1.1
  refine⟨E',?_⟩
  rw[QJ hs,mY]
  exact D'
def a1L(c:ur n wd ts ⟨[],[],[]⟩ ss){i:Nat}(il:i<ss.length):(Hh ⟨[],[],[]⟩ (ss.take (i+1))).top.length<=wd:=by
 have c1:ur n wd ts ⟨[],[],[]⟩ (ss.take i++ss.drop i):=by rw[uY];exact c
 have c2:=(zN c1).2;rw[Ih il]at c2;have hs:ss[i]?=some (ss[i]'il):=bH il;rw[QJ hs,mY];exact c2.1.2
end
section
variable{n:Nat}{ts:List bW}
theorem Ű:∀(a:List bZ) {κ:Kp}{pre:List bZ},ur n wd ts κ a->(∀v,(v∈κ.G\/∃b∈κ.P,v∈b)->bZ.inn v∈pre)->∀v,(v∈(Hh κ a).G\/∃b∈(Hh κ a).P,v∈b)->bZ.inn v∈pre++a
 | [],κ,pre,_,h,v,hv=>by rw[nC];exact h v hv
 |s::r,κ,pre,c,h,v,hv=>by
  have e:pre++s::r=(pre++[s])++r:=()
  rw[e]
  refine Ű r c.2 (λu hu=>?_) v hv
  have old:∀{u},(u∈κ.G\/∃b∈κ.P,u∈b)->bZ.inn u∈pre++[s]:=λhu=>rW _ (h _ hu)
  have dl:∀{b:List Int},b∈κ.P.dropLast->b∈κ.P:=λhb=>m9 (by rw[List.dropLast_eq_take]at hb;exact hb)
  have can:=c.1.1
  cases s with
  |leaf =>
   rcases hu with hu|⟨b,hb,hu⟩
   ·exact old (.inl hu)
   ·rcases cJ.mp (show b∈κ.P++[[]]from hb)with hb|hb
    ·grind
    grind
  |inn x =>
   rcases hu with hu|⟨b,hb,hu⟩
   ·exact old (.inl hu)
   ·rcases cJ.mp (show b∈κ.P.dropLast++[κ.top++[x]]from hb)with hb|hb
    ·grind
    ·rw[bJ.mp hb]at hu
     rcases cJ.mp hu with hu|hu
     ·exact old (.inr ⟨_,Kr can.1,hu⟩)
     grind
  |tie x y=>exact old hu
  |out x =>
   rcases hu with hu|⟨b,hb,hu⟩
   ·rcases cJ.mp (show u∈κ.G++[x]from hu)with hu|hu
    ·grind
    ·rw[bJ.mp hu]
     exact old (.inr ⟨_,Kr can.1,can.2.1⟩)
   ·rcases cJ.mp (show b∈κ.P.dropLast++[κ.top.erase x]from hb)with hb|hb
    ·grind
    ·rw[bJ.mp hb]at hu
     exact old (.inr ⟨_,Kr can.1,List.mem_of_mem_erase hu⟩)
  |join =>
   rcases hu with hu|⟨b,hb,hu⟩
   ·exact old (.inl hu)
   ·exact old (.inr ⟨b,dl hb,hu⟩)
end
section
variable{n:Nat}{ts:List bW}{ss:List bZ}
def a6E(cV:n<=10)(c:ur n wd ts ⟨[],[],[]⟩ ss)(h:Hh ⟨[],[],[]⟩ ss=⟨[[]],G,B⟩)(cov:∀v:Int,0<=v->v<(n:Int)->v∈G)(mB:∀t,t∈B↔t∈ts):BX n ts ss (cD n ts ss)=.ok:=by
 obtain⟨E,D⟩:=Ku cV c ss.length (aL _);rw[iC,h]at D;have hE:∀j:Nat,j<n->(j:Int)∈E:=λj hj=>by
  have h1:=Ű ss c (pre:=[]) (λv hv=>by
   grind) (j:Int) (.inl ())
  have h2:=(D.ins (j:Int)).mp ();exact h2
 have:=(a1H cV D).2.2 Z hE;grind
def Æ(cV:n<=10)(c:ur n wd ts ⟨[],[],[]⟩ ss)(qg:BX n ts ss (cD n ts ss)=.ok):∀b∈(cD n ts ss).aQ,b.length<=wd:=by
 have go:=ŝ cV qg;have I:=zJ cV qg;intro b hb;obtain⟨k,kl,e⟩:=qt hb;rw[I.tl]at kl;have eb:Go.gH n ts ss k=b:=by
  show(cD n ts ss).aQ.getD k []=b;rw[fV,bH (by rw[I.tl];exact kl),<-e];rfl
 obtain⟨E',D'⟩:=Ku cV c (k+1) ();have S:=Go.Bx (n:=n) (ts:=ts) go cV (List.getElem?_eq_getElem kl);have r:=D'.rel;have wd':=a1L c kl;have ok':=D'.ok;generalize Hh ⟨[],[],[]⟩ (ss.take (k+1))=κ at r wd' ok';rw[S.pile]at r;have ne:κ.P≠[]:=λz=>by
  rw[z]at r;have:=aM r;simp at this
 rw[tK ne]at r;obtain⟨xs',x,ex,_,hx⟩:=qY r;have ex':=(List.append_inj' ex Z).2;cases ex';rw[Go.QG go cV (Nat.le_refl _) ()]at hx;have hx':∀v,v∈Go.gH n ts ss k↔v∈κ.top:=hx;have nd:=(Go.S5 cV (λk s h=>Go.a1E (Go.Bx go cV h)) k kl).1;rw[eb]at hx' nd;have pm:b.Perm κ.top:=(Ig (Go.Aa nd) ok'.WN.1).mpr hx';rw[pm.length_eq];exact wd'
end
theorem Ni{α:Type}(p q:α->Bool)(h:∀x,p x=true->q x=true):∀l:List α,l.countP p+l.countP (λx=>q x && !p x)=l.countP q
 | []=>rfl
 |x::l=>by
  have ih:=Ni p q h l
  grind
theorem FJ{α:Type}(l:List α)(p:Nat->α->Bool):∀(js:List Nat) (q:α->Bool),js.Nodup->(∀j∈js,∀x,p j x=true->q x=true)->(∀j∈js,∀j'∈js,∀x,p j x=true->p j' x=true->j=j')->(js.map λj=>l.countP (p j)).sum<=l.countP q
 | [],_,_,_,_=>dh _
 |j::js,q,nd,hq,fZ=>by
  obtain⟨n1,n2⟩:=iD.mp nd
  have ih:=FJ l p js (λx=>q x && !p j x) n2 (λi hi x hx=>by
   grind) (λa ha b hb x h1 h2=>fZ a (aY _ ha) b (aY _ hb) x h1 h2)
  have:=Ni (p j) q (hq j aO) l
  grind
section
open Classical
variable{n m:Nat}{up:Nat->Nat}{bI:Nat->List Int}
noncomputable def cR (m:Nat) (up:Nat->Nat) (k:Nat):Nat:=(List.range m).countP λr=>decide (qj m up k r)
noncomputable def cT (m:Nat) (up:Nat->Nat) (bI:Nat->List Int) (tb:List bW) (k:Nat):Nat:=tb.countP λt=>decide (∃r,qj m up k r/\jx up bI r t)
def Yx(T:Tb n m up bI){k:Nat}(km:k<m):1+((gR m up k).map λj=>cR m up j).sum<=cR m up k:=by
 have kid:∀j∈gR m up k,0<j/\j<m/\up j=k:=λj hj=>(mV T).mp hj;have ne:∀j∈gR m up k,j≠k:=λj hj e=>by
  obtain⟨j0,jm,ju⟩:=kid j hj;have:=T.ups j j0 jm;omega
 have h:=FJ (List.range m) (λj r=>if j=k then decide (r=k)else decide (qj m up j r)) (k::gR m up k) (λr=>decide (qj m up k r)) (iD.mpr ⟨λz=>ne k z Z,HY _ _ _⟩) (λj hj x hx=>by
  by_cases c:j=k
  ·rw[aF c,fB]at hx;rw[hx];exact bL (.self km)
  ·rw[aq c,fB]at hx;rcases cB.mp hj with e|hj
   ·grind
   ·obtain⟨j0,jm,ju⟩:=kid j hj;exact bL (qj.trans (.step j0 jm (by rw[ju];exact .self km)) hx)) (λa ha b hb x h1 h2=>by
  have nk:∀{j:Nat},j∈gR m up k->¬qj m up j k:=λ{j} hj z=>by
   obtain⟨j0,jm,ju⟩:=kid j hj;have:=T.ups j j0 jm;have:=z.le T;omega
  rcases cB.mp ha with ea|ha<;>rcases cB.mp hb with eb|hb
  ·rw[ea,eb]
  ·grind
  ·grind
  ·rw[aq (ne a ha),fB]at h1;rw[aq (ne b hb),fB]at h2;obtain⟨a0,am,au⟩:=kid a ha;obtain⟨b0,bm,bu⟩:=kid b hb;exact HX T a0 am b0 bm (au.trans bu.symm) h1 h2)
 rw[bV,wH]at h;have e1:(List.range m).countP (λr=>if k=k then decide (r=k)else decide (qj m up k r))=1:=by
  have:(λr=>if k=k then decide (r=k)else decide (qj m up k r))=λr=>decide (r=k):=funext λr=>aF rfl;rw[this];have h1:=List.nodup_range (n:=m);have h2:List.count k (List.range m)=1:=()
  rw[<-h2];unfold List.count;grind
 have e2:(gR m up k).map (λj=>(List.range m).countP λr=>if j=k then decide (r=k)else decide (qj m up j r))=(gR m up k).map λj=>cR m up j:=xX λj hj=>by
  unfold cR;congr 1;funext r;rw[aq (ne j hj)]
 rw[e1,e2]at h;exact h
def a1M(T:Tb n m up bI){k:Nat}(km:k<m)(tb:List bW):(xR up bI tb k).length+((gR m up k).map λj=>cT m up bI tb j).sum<=cT m up bI tb k:=by
 have kid:∀j∈gR m up k,0<j/\j<m/\up j=k:=λj hj=>(mV T).mp hj;have ne:∀j∈gR m up k,j≠k:=λj hj e=>by
  obtain⟨j0,jm,ju⟩:=kid j hj;have:=T.ups j j0 jm;omega
 have h:=FJ tb (λj t=>if j=k then decide (jx up bI k t)else decide (∃r,qj m up j r/\jx up bI r t)) (k::gR m up k) (λt=>decide (∃r,qj m up k r/\jx up bI r t)) (iD.mpr ⟨λz=>ne k z Z,HY _ _ _⟩) (λj hj x hx=>by
  by_cases c:j=k
  ·rw[aF c,fB]at hx;exact bL ⟨k,.self km,hx⟩
  ·rw[aq c,fB]at hx;obtain⟨r,br,hr⟩:=hx;rcases cB.mp hj with e|hj
   ·grind
   ·obtain⟨j0,jm,ju⟩:=kid j hj;exact bL ⟨r,qj.trans (.step j0 jm (by rw[ju];exact .self km)) br,hr⟩) (λa ha b hb x h1 h2=>by
  have nk:∀{j:Nat},j∈gR m up k->¬qj m up j k:=λ{j} hj z=>by
   obtain⟨j0,jm,ju⟩:=kid j hj;have:=T.ups j j0 jm;have:=z.le T;omega
  rcases cB.mp ha with ea|ha<;>rcases cB.mp hb with eb|hb
  ·rw[ea,eb]
  ·rw[aF ea,fB]at h1;rw[aq (ne b hb),fB]at h2;obtain⟨r,br,hr⟩:=h2;exact absurd (wj T hr h1▸br) (nk hb)
  ·rw[aF eb,fB]at h2;rw[aq (ne a ha),fB]at h1;obtain⟨r,br,hr⟩:=h1;exact absurd (wj T hr h2▸br) (nk ha)
  ·rw[aq (ne a ha),fB]at h1;rw[aq (ne b hb),fB]at h2;obtain⟨r,br,hr⟩:=h1;obtain⟨r',br',hr'⟩:=h2;have:=wj T hr hr';subst this;obtain⟨a0,am,au⟩:=kid a ha;obtain⟨b0,bm,bu⟩:=kid b hb;exact HX T a0 am b0 bm (au.trans bu.symm) br br')
 rw[bV,wH]at h;have e1:tb.countP (λt=>if k=k then decide (jx up bI k t)else decide (∃r,qj m up k r/\jx up bI r t))=(xR up bI tb k).length:=by
  unfold xR;grind
 have e2:(gR m up k).map (λj=>tb.countP λt=>if j=k then decide (jx up bI k t)else decide (∃r,qj m up j r/\jx up bI r t))=(gR m up k).map λj=>cT m up bI tb j:=xX λj hj=>by
  unfold cT;congr 1;funext t;rw[aq (ne j hj)]
 rw[e1,e2]at h;exact h
theorem Yy{α:Type}(L:Nat->List α)(c d:Nat->Nat):∀js:List Nat,(∀j∈js,(L j).length<=14*c j+d j)->(js.flatMap L).length<=14*(js.map c).sum+(js.map d).sum
 | [],_=>dh _
 |j::js,h=>by
  have ih:=Yy L c d js λi hi=>h i (aY _ hi)
  grind
def Ç(hW:∀k,(bI k).length<=4)(j k:Nat):(pQ bI j k).length<=8:=by
 have f1:(vC (bI j) (bI k)).length<=4:=dI (Ea _ _) (hW j);have f2:(vC (bI k) (bI j)).length<=4:=dI (Ea _ _) (hW k);unfold pQ;grind
end
def ql(early:Bool)(tb:List bW)(m:Nat)(up:Nat->Nat)(bI:Nat->List Int):Nat->Nat->List bZ
 |0,_=>[]
 |f+1,k=>(((.leaf::(bI k).map .inn)++if early=true then(xR up bI tb k).map λt=>.tie t.1 t.2 else [])++(gR m up k).flatMap λj=>ql early tb m up bI f j++(pQ bI j k++[.join]))++if early=true then []else(xR up bI tb k).map λt=>.tie t.1 t.2
section
variable{n m:Nat}{up:Nat->Nat}{bI:Nat->List Int}{ts:List bW}
theorem Tf(T:Tb n m up bI)(hW:∀k,(bI k).length<=wd){tb:List bW}(tn:tb.Nodup)(sub:∀t∈tb,t∈ts)(early:Bool):∀f k,k<m->m<=k+f->WR n wd m up bI ts tb k (ql early tb m up bI f k)
 |0,k,km,mk=>absurd km ()
 |f+1,k,km,mk=>by
  intro P G B hG hB
  have ű:∀v∈bI k,v∉G:=λv hv=>hG v ⟨k,.self km,hv⟩
  obtain⟨i1,i2⟩:=WQ (n:=n) (wd:=wd) (ts:=ts) (bI k) (P:=P) (b:=[]) (G:=G) (B:=B) (T.nd k) (T.lt k) (λv _ z=>absurd z eN) ű (by have:=hW k;show 0+_<=_;omega)
  have kid:∀j∈gR m up k,0<j/\j<m/\up j=k:=λj hj=>(mV T).mp hj
  have kb:∀j∈gR m up k,∀r,qj m up j r->qj m up k r:=λj hj r b=>by
   obtain⟨j0,jm,ju⟩:=kid j hj
   exact qj.trans (.step j0 jm (by rw[ju];exact .self km)) b
  have jk:∀j∈gR m up k,¬qj m up j k:=λj hj z=>by
   obtain⟨j0,jm,ju⟩:=kid j hj
   have l1:=z.le T
   have l2:=T.ups j j0 jm
   omega
  have ih:∀j∈gR m up k,WR n wd m up bI ts tb j (ql early tb m up bI f j):=λj hj=>by
   obtain⟨j0,jm,ju⟩:=kid j hj
   have:=T.ups j j0 jm
   exact Tf T hW tn sub early f j jm ()
  have a1:ur n wd ts ⟨P,G,B⟩ (.leaf::(bI k).map .inn):=by
   refine⟨⟨trivial,?_⟩,i1⟩
   show(Kp.mk (P++[[]]) G B).top.length<=wd
   rw[sS]
   exact dh _
  have e1:Hh ⟨P,G,B⟩ (.leaf::(bI k).map .inn)=⟨P++[bI k],G,B⟩:=by
   show Hh ⟨P++[[]],G,B⟩ ((bI k).map .inn)=_
   rw[i2,List.nil_append]
  cases early with
  |false =>
   obtain⟨G',B',a,e,mG,mB⟩:=QT (ts:=ts) T hW (L:=ql false tb m up bI f) (gR m up k) (HY _ _ _) kid ih (P:=P) (b:=bI k) (G:=G) (B:=B) (wG _) (λj hj v ⟨r,b,hr⟩=>hG v ⟨r,kb j hj r b,hr⟩) ű (λj hj t ht r b=>hB t ht r (kb j hj r b))
   obtain⟨B2,a2,e2,mG2,mB2⟩:=a4v (ts:=ts) T hW km tn sub (P:=P) (wG _) hB mG mB
   refine⟨bI k,G',B2,wG _,?_,?_,mG2,mB2⟩
   ·unfold ql
    rw[aq dB,aq dB,nC]
    refine pN (pN a1 (by rw[e1];exact a)) ?_
    rw[mY,e1,e]
    exact a2
   ·unfold ql
    rw[aq dB,aq dB,nC,mY,mY,e1,e,e2]
  |true =>
   have mo:∀t,t∈xR up bI tb k↔t∈tb/\jx up bI k t:=λt=>by
    unfold xR
    rw[lF,fB]
   obtain⟨t1,t2⟩:=QS (n:=n) (wd:=wd) (ts:=ts) (xR up bI tb k) (P:=P) (b:=bI k) (G:=G) (B:=B) (tn.sublist Ut) (λt ht=>by
    obtain⟨h0,h⟩:=(mo t).mp ht
    exact⟨sub t h0,λz=>hB t z k (.self km) h,h.1,h.2.1⟩) (hW k)
   obtain⟨G',B',a,e,mG,mB⟩:=QT (ts:=ts) T hW (L:=ql true tb m up bI f) (gR m up k) (HY _ _ _) kid ih (P:=P) (b:=bI k) (G:=G) (B:=B++xR up bI tb k) (wG _) (λj hj v ⟨r,b,hr⟩=>hG v ⟨r,kb j hj r b,hr⟩) ű (λj hj t ht r b hr=>by
    rcases cJ.mp ht with z|z
    ·exact hB t z r (kb j hj r b) hr
    ·exact jk j hj (wj T hr ((mo t).mp z).2▸b))
   refine⟨bI k,G',B',wG _,?_,?_,λv=>?_,λt=>?_⟩
   ·unfold ql
    rw[aF Z,aF Z,nC]
    refine pN (pN a1 (by rw[e1];exact t1)) ?_
    rw[mY,e1,t2]
    exact a
   ·unfold ql
    rw[aF Z,aF Z,nC,mY,mY,e1,t2,e]
   ·rw[mG]
    constructor
    ·rintro(z|⟨j,hj,⟨r,br,hr⟩,z⟩)
     ·exact .inl z
     ·exact .inr ⟨⟨r,kb j hj r br,hr⟩,z⟩
    ·rintro(z|⟨⟨r,br,hr⟩,z⟩)
     ·exact .inl z
     ·rcases br.kid T with c|⟨j,j0,jm,ju,bj⟩
      ·exact absurd (c▸hr) z
      ·exact .inr ⟨j,(mV T).mpr ⟨j0,jm,ju⟩,⟨r,bj,hr⟩,z⟩
   ·rw[mB,cJ,mo]
    constructor
    ·rintro((z|⟨z0,z⟩)|⟨z0,j,hj,r,br,hr⟩)
     ·exact .inl z
     ·exact .inr ⟨z0,k,.self km,z⟩
     ·exact .inr ⟨z0,r,kb j hj r br,hr⟩
    ·rintro(z|⟨z0,r,br,hr⟩)
     ·exact .inl (.inl z)
     ·rcases br.kid T with c|⟨j,j0,jm,ju,bj⟩
      ·exact .inl (.inr ⟨z0,c▸hr⟩)
      ·exact .inr ⟨z0,j,(mV T).mpr ⟨j0,jm,ju⟩,r,bj,hr⟩
theorem Nj(T:Tb n m up bI)(hW:∀k,(bI k).length<=4)(early:Bool)(tb:List bW):∀f k,k<m->(ql early tb m up bI f k).length+9<=14*cR m up k+cT m up bI tb k
 |0,k,km=>by
  have h:=Yx T km
  show 0+9<=_
  omega
 |f+1,k,km=>by
  have h1:=Yx T km
  have h2:=a1M T km tb
  have hb:=hW k
  have h3:=Yy (λj=>ql early tb m up bI f j++(pQ bI j k++[bZ.join])) (λj=>cR m up j) (λj=>cT m up bI tb j) (gR m up k) λj hj=>by
   obtain⟨j0,jm,ju⟩:=(mV T).mp hj
   have ih:=Nj T hW early tb f j jm
   have:=Ç hW j k
   grind
  unfold ql
  grind
def Nk(T:Tb n m up bI)(hW:∀k,(bI k).length<=4)(m20:m<=20)(early:Bool){tb:List bW}(a1N:tb.length<=100){f k:Nat}(km:k<m):(ql early tb m up bI f k).length<=400:=by
 have h:=Nj T hW early tb f k km;have h1:cR m up k<=m:=by
  unfold cR;exact dI List.countP_le_length ()
 have h2:cT m up bI tb k<=tb.length:=List.countP_le_length;omega
def BK(early:Bool)(tb:List bW)(m:Nat)(up:Nat->Nat)(bI:Nat->List Int)(d:Nat):List bZ:=ql early tb m up bI d 0++(bI 0).map .out
def È{d:Nat}(T:Tb n m up bI)(cV:n<=10)(hW:∀k,(bI k).length<=wd)(tn:ts.Nodup)(inb:∀t∈ts,∃k,t.1∈bI k/\t.2∈bI k)(cov:∀v:Int,0<=v->v<(n:Int)->∃k,v∈bI k)(md:m<=d)(early:Bool):BX n ts (BK early ts m up bI d) (cD n ts (BK early ts m up bI d))=.ok/\∀b∈(cD n ts (BK early ts m up bI d)).aQ,b.length<=wd:=by
 obtain⟨b,G',B',pm,a,e,mG,mB⟩:=Tf (ts:=ts) T hW tn (λ_ h=>h) early d 0 T.pos () [] [] [] (λv _ z=>absurd z eN) (λt ht=>absurd ht eN);obtain⟨o1,b',d1,d2,o2⟩:=QL (n:=n) (wd:=wd) (ts:=ts) (bI 0) (P:=[]) (b:=b) (G:=G') (B:=B') (T.nd 0) (pm.nodup_iff.mpr (T.nd 0)) (λv hv=>pm.mem_iff.mpr hv) (λv hv z=>by
  grind) (by rw[pm.length_eq];exact hW 0)
 have eb:b'=[]:=T8.mpr λv hv=>((d2 v).mp hv).2 (pm.mem_iff.mp ((d2 v).mp hv).1);have A:ur n wd ts ⟨[],[],[]⟩ (BK early ts m up bI d):=pN a ();have E:Hh ⟨[],[],[]⟩ (BK early ts m up bI d)=⟨[[]],G'++bI 0,B'⟩:=by
  unfold BK;rw[mY,e,o2,eb];rfl
 have qg:=a6E cV A E (λv v0 vn=>by
  obtain⟨k,hk⟩:=cov v v0 vn;by_cases c:v∈bI 0
  ·grind
  ·refine rW _ ((mG v).mpr (.inr ⟨⟨k,Tc T k (T.in_ hk),hk⟩,c⟩))) (λt=>by
  rw[mB];constructor
  ·grind
  ·intro z;obtain⟨k,k1,k2⟩:=inb t z;obtain⟨r,rm,hr⟩:=a1J T k k1 k2;exact .inr ⟨z,r,Tc T r rm,hr⟩)
 exact⟨qg,Æ cV A qg⟩
end
abbrev rng(n:Nat):List Int:=(List.range n).map λi=>((i:Nat):Int)
def Yz{n:Nat}{v:Int}:v∈rng n↔0<=v/\v<(n:Int):=by
 rw[dW];constructor
 ·grind
 ·rintro⟨h0,h1⟩;exact⟨v.toNat,mJ.mpr (),()⟩
def É(n:Nat):(rng n).Nodup:=by
 unfold List.Nodup;rw[Ak];exact List.pairwise_lt_range.imp λh=>by omega
def qZ{rs:List BW}{r:BW}{k:Nat}(h:k<rs.length):rowAt (rs++[r]) k=rowAt rs k:=by
 unfold rowAt;grind
def vD{rs:List BW}{r:BW}:rowAt (rs++[r]) rs.length=r:=by
 unfold rowAt;grind
def DY(rs:List BW)(k:Nat):Nat:=((rowAt rs k).1.getD 0).toNat
def fU(rs:List BW)(k:Nat):List Int:=(rowAt rs k).2
def Dz{rs:List BW}{k:Nat}(h:rs.length<=k):rowAt rs k=(none,[]):=by
 unfold rowAt;grind
def iw(rs:List BW)(r:BW)(k:Nat):fU (rs++[r]) k=if k=rs.length then r.2 else fU rs k:=by
 unfold fU;by_cases c:k=rs.length
 ·rw[aF c,c,vD]
 ·rw[aq c];by_cases d:k<rs.length
  ·rw[qZ d]
  ·rw[Dz (),Dz ()]
def DG(rs:List BW)(r:BW)(k:Nat):DY (rs++[r]) k=if k=rs.length then(r.1.getD 0).toNat else DY rs k:=by
 unfold DY;by_cases c:k=rs.length
 ·rw[aF c,c,vD]
 ·rw[aq c];by_cases d:k<rs.length
  ·rw[qZ d]
  ·rw[Dz (),Dz ()]
structure Rw(n most:Nat)(rs:List BW)(us:List Int):Prop where
 T:Tb n rs.length (DY rs) (fU rs)
 r0:(rowAt rs 0).1=none
 ru:∀k,0<k->k<rs.length->(rowAt rs k).1=some ((DY rs k:Nat):Int)
 nd:us.Nodup
 lt:∀v∈us,0<=v/\v<(n:Int)
 dis:∀v∈us,∀k,v∉fU rs k
 cov:∀v:Int,0<=v->v<(n:Int)->v∈us\/∃k,v∈fU rs k
 few:∀k,(fU rs k).length<=most
def DK(us:List Int)(c:Nat):us.take (us.length-c)++us.drop (us.length-c)=us:=uY _ _
def a7U{n most c:Nat}{zs:List Int}(pm:us.Perm (rng n))(cm:c<=most)(hz:zs.Perm (us.drop (us.length-c)).reverse):Rw n most [(none,zs)] (us.take (us.length-c)):=by
 have ndu:us.Nodup:=pm.nodup_iff.mpr (É n);have inn:∀v∈us,0<=v/\v<(n:Int):=λv hv=>Yz.mp (pm.mem_iff.mp hv);have Zv:=ndu;rw[<-DK us c]at Zv;obtain⟨n1,n2,dj⟩:=uZ.mp Zv;have mz:∀v,v∈zs↔v∈us.drop (us.length-c):=λv=>by grind
 have bg:∀k,fU [(none,zs)] k=if k=0 then zs else []:=λk=>by
  cases k with
  |zero=>rfl
  |succ k=>rfl
 have lz:zs.length<=most:=by
  rw[hz.length_eq,Ed,j6];omega
 refine⟨⟨Nat.zero_lt_one,λk h0 h1=>?_,λk=>?_,λk v hv=>?_,λk h0 h1=>?_,λk hk=>?_⟩,Z,λk h0 h1=>?_,n1,λv hv=>inn v (m9 hv),λv hv k hk=>?_,λv v0 v1=>?_,λk=>?_⟩
 ·grind
 ·grind
 ·grind
 ·grind
 ·grind
 ·grind
 ·grind
 ·have:v∈us:=pm.mem_iff.mpr (Yz.mpr ⟨v0,v1⟩);rw[<-DK us c]at this;rcases cJ.mp this with h|h
  ·exact .inl h
  ·exact .inr ⟨0,(mz v).mpr h⟩
 grind
def a4w{n most c f:Nat}{rs:List BW}{ks zs:List Int}(W:Rw n most rs us)(fl:f<rs.length)(sb:List.Sublist ks (fU rs f))(lc:ks.length+c<=most)(hz:zs.Perm (ks++(us.drop (us.length-c)).reverse)):Rw n most (rs++[(some (f:Int),zs)]) (us.take (us.length-c)):=by
 have Zv:=W.nd;rw[<-DK us c]at Zv;obtain⟨n1,n2,dj⟩:=uZ.mp Zv;have mz:∀v,v∈zs↔v∈ks\/v∈us.drop (us.length-c):=λv=>by rw[hz.mem_iff,cJ,List.mem_reverse]
 have lz:zs.length<=most:=by
  rw[hz.length_eq,cA,Ed,j6];omega
 have ll:(rs++[((some (f:Int),zs):BW)]).length=rs.length+1:=by rw[cA,Ae]
 have ndz:zs.Nodup:=hz.nodup_iff.mpr (uZ.mpr ⟨(W.T.nd f).sublist sb,(List.reverse_perm _).nodup_iff.mpr n2,λx hx y hy e=>by
  subst e;exact W.dis x (Ah (List.mem_reverse.mp hy)) f (sb.subset hx)⟩)
 have un:DY (rs++[((some (f:Int),zs):BW)]) rs.length=f:=by
  rw[DG,aF rfl];rfl
 refine⟨⟨(),λk h0 h1=>?_,λk=>?_,λk v hv=>?_,λk h0 h1 v hv=>?_,λk hk=>?_⟩,?_,λk h0 h1=>?_,n1,λv hv=>W.lt v (m9 hv),λv hv k hk=>?_,λv v0 v1=>?_,λk=>?_⟩
 ·rw[ll]at h1;by_cases e:k=rs.length
  ·subst e;rw[un];exact fl
  ·rw[DG,aq e];exact W.T.ups k h0 ()
 ·rw[iw];split
  ·exact ndz
  ·exact W.T.nd k
 ·rw[iw]at hv;split at hv
  ·rcases(mz v).mp hv with h|h
   ·exact W.T.lt f v (sb.subset h)
   ·exact W.lt v (Ah h)
  ·exact W.T.lt k v hv
 ·rw[ll]at h1;by_cases e:k=rs.length
  ·subst e;rw[un];rw[iw,aF rfl]at hv;rcases(mz v).mp hv with h|h
   ·refine .inl ?_;rw[iw,aq ()];exact sb.subset h
   ·refine .inr λj hj=>?_;rw[iw,aq ()];exact W.dis v (Ah h) j
  ·have kl:k<rs.length:=()
   rw[iw,aq e]at hv;rw[DG,aq e];have ul:=W.T.ups k h0 kl;rcases W.T.fr k h0 kl v hv with h|h
   ·refine .inl ?_;rw[iw,aq ()];exact h
   ·refine .inr λj hj=>?_;rw[iw,aq ()];exact h j hj
 ·rw[ll]at hk;rw[iw,aq ()];exact W.T.no k ()
 ·rw[qZ W.T.pos];exact W.r0
 ·rw[ll]at h1;by_cases e:k=rs.length
  ·subst e;rw[un,vD]
  ·rw[DG,aq e,qZ ()];exact W.ru k h0 ()
 ·rw[iw]at hk;split at hk
  ·rcases(mz v).mp hk with h|h
   ·exact W.dis v (m9 hv) f (sb.subset h)
   ·exact dj v hv v h rfl
  ·exact W.dis v (m9 hv) k hk
 ·rcases W.cov v v0 v1 with h|⟨k,h⟩
  ·rw[<-DK us c]at h;rcases cJ.mp h with h|h
   ·exact .inl h
   ·refine .inr ⟨rs.length,?_⟩;rw[iw,aF rfl];exact(mz v).mpr (.inr h)
  ·refine .inr ⟨k,?_⟩;have kl:=W.T.in_ h;rw[iw,aq ()];exact h
 ·rw[iw];split
  ·exact lz
  ·exact W.few k
def RwX(ex:List Addr)(H:Hp)(v:V)(r:BW):Prop:=∃p b,v=.ref p/\H p=some (.tup [upV r.1,.ref b])/\H b=some (.lst (r.2.map V.int))/\b∉ex/\r.2.length<=1000
def RwX.same{ex:List Addr}{H H':Hp}{v:V}{r:BW}(s:aK H H')(h:RwX ex H v r):RwX ex H' v r:=by
 obtain⟨p,b,e,h1,h2,h3⟩:=h;exact⟨p,b,e,s _ _ h1,s _ _ h2,h3⟩
def RwX.chg{ex:List Addr}{H H':Hp}{l:Addr}{xs:List V}{o:HO}{v:V}{r:BW}(hl:H l=some (.lst xs))(c:vo H l o H')(m:l∈ex)(h:RwX ex H v r):RwX ex H' v r:=by
 obtain⟨p,b,e,h1,h2,h3,h4⟩:=h;exact⟨p,b,e,(c.rest p λz=>by grind).trans h1,(c.rest b λz=>h3 (z▸m)).trans h2,h3,h4⟩
def RwX.l{ex:List Addr}{l:Addr}{H:Hp}{v:V}{r:BW}(m:l∈ex)(h:RwX ex H v r):Qg l H v r:=by
 obtain⟨p,b,e,h1,h2,h3,h4⟩:=h;exact⟨p,b,e,h1,h2,λz=>h3 (z▸m),h4⟩
def YB{ix:List (Option Nat)}{tt:TT}{te:TE}{H:Hp}{Q:VK}{pl:Addr}{c:Nat}{lo:Int}(h:H pl=some (.lst (us.map V.int)))(hc:c<=us.length)(lu:us.length<=900)
  (hs:∀(i:Nat) (H':Hp) (xs:List V) (y:V) (N:VK) (Z98:Hp->Prop),H' pl=some (.lst (xs++[y]))->(∀H2,vo H' pl (.lst xs) H2->N y H2)->g (.int (lo+i)) (rA ix σ) H' λσ2 H2=>tt σ2 H2 λb H3=>if b=true then te σ2 H3 N else Z98 H3)
  (hd:∀H1 p H2,vo H pl (.lst ((us.take (us.length-c)).map V.int)) H1->gP H1 p (.lst ((us.drop (us.length-c)).reverse.map V.int)) H2->Q (.ref p) H2):nD ix g tt te σ H Q (Xe lo c):=by
 refine yq (λi ys H'=>ys=(us.drop (us.length-i)).reverse.map V.int/\vo H pl (.lst ((us.take (us.length-i)).map V.int)) H') ⟨?_,?_,λ_ _=>rfl⟩ (λi ys H' hi ⟨e,_⟩=>?_) (λi ys H' hi ⟨e,c1⟩=>?_) (λys H' ⟨e,c1⟩ p hp=>?_)
 ·rw[Ax,List.drop_length];rfl
 ·rw[Ax,iC];exact h
 ·rw[e,aJ,Ed,j6];exact dU (cL ())
 ·have jl:us.length-(i+1)<us.length:=()
  have e1:us.length-i=us.length-(i+1)+1:=()
  have et:us.take (us.length-i)=us.take (us.length-(i+1))++[us[us.length-(i+1)]]:=by rw[e1,Ab jl]
  have ed:us.drop (us.length-(i+1))=us[us.length-(i+1)]::us.drop (us.length-i):=by rw[Ih jl,e1]
  have h1:=c1.here;rw[et,dH]at h1;refine hs i H' _ _ (λv H4=>ys++[v]=(us.drop (us.length-(i+1))).reverse.map V.int/\vo H pl (.lst ((us.take (us.length-(i+1))).map V.int)) H4) _ h1 λH2 c2=>⟨?_,c2.here,λb hb=>(c2.rest b hb).trans (c1.rest b hb)⟩;rw[e,ed,List.reverse_cons,dH];rfl
 ·subst e;exact hd H' p _ c1 (gP.ou hp)
abbrev tL:Stmt:=top 40
def BL:bD ["_law_script","_law_k","_law_base"] MP (aB tL):={}
inductive a7V(K:aH)(vs:List V)(H:Hp)(Q:VK)(u_3:XK):Prop
 |mk (a:Addr) (ns:List Int) (k:Int) (_:vs=[.ref a,.int k]) (_:Ü K H a ns) (_:ns.length<=63) (_:0<=k) (_:k<=1000) (_:∀z,Q (.int z) H)
inductive wu(H:Hp)(v:V)(s:bZ):Prop
 |mk (p:_) (_:v=.ref p) (_:H p=some (.tup s.vs))
def wu.same{H H':Hp}{v:V}{s:bZ}(e:aK H H')(h:wu H v s):wu H' v s:=by
 obtain⟨p,rfl,h⟩:=h;exact⟨p,Z,e _ _ h⟩
def wu.v{K:aH}{H:Hp}{v:V}{s:bZ}(h:wu H v s):sZ K H v s:=by
 obtain⟨p,rfl,h⟩:=h;exact⟨p,Z,cO.of h⟩
def BP(B:Bl mg)(qN:Dn K mg "_law_at" tL MP):bw P w K mg base fX 1 qN.f qN.fd MP (a7V K):=by
 exists qN.F.ok BL;obtain⟨a,ns,k,rfl,hS,h63,k0,k1,q⟩:=h;have hA:=hS.seq;refine⟨_,(aG (dZ (aP Jj (pv 1) (bh (cG (K:=K) Z) Z B.len () (O (pv 0) aj)))
   (aD (bF (aR (bA (K:=K) Z) (pv 0) (pv 1))))
   bT)
   (aG (bK 2 BL.nd aA)
   (qP (dZ (aP Jk (bh (cG (K:=K) Z) Z B.len () (O (pv 0) aj)) aA)
   (aD (bK 2 BL.nd (bQ kj (aR (bA (K:=K) Z) (pv 0) (bQ kj (bQ gw (bQ wK (pv 1) aA) aA) (bh (cG (K:=K) Z) Z B.len () (O (pv 0) aj)))) aA)))
   bT)
   (aD (bF (bQ kj (bQ wK (bQ gw (bQ gw (pv 2) (bQ wK aA (pv 1))) aA) (bQ gw (bQ gw (bQ wK (pv 2) aA) (bQ wK (pv 1) (pv 1))) aA)) aA)))))),?_⟩
 have hl:(ns.map V.int).length=ns.length:=aJ _;refine⟨_,Z,_,Z,a,_,Z,.inl hA,_,_,Z,Z,_,Z,zP (λc=>?_) λc=>?_⟩
 ·have c':k<(((ns.map V.int).length:Nat):Int):=gj c;rw[hl]at c';exact⟨_,Z,_,Z,a,_,_,_,Z,Z,hA,Xo k0 c',q _⟩
 refine⟨λσ' H'=>∃b:Int,-(2^32)<b/\b<2^32/\σ'=[some (.ref a),some (.int k),some (.int b)]/\H'=H,?_,?_⟩
 ·refine⟨_,Z,a,_,Z,.inl hA,_,_,Z,Z,_,Z,?_⟩;refine zP (λc2=>?_) (λc2=>⟨103,(),(),Z,Z⟩);have c2':(0:Int)<(((ns.map V.int).length:Nat):Int):=gj c2;rw[hl]at c2';have m0:=su (k*5+2) (show(ns.length:Int)≠0 by omega);have m1:=rZ (k*5+2) c2';refine⟨_,Z,_,Z,_,_,Z,Z,.inr ⟨(),()⟩,_,_,Z,Z,_,Z,a,_,Z,.inl hA,_,_,Z,Z,(by rw[hl];exact c2'),a,_,_,_,Z,Z,hA,(by rw[hl];exact Xo m0 m1),_,_,Z,Z,(show(0:Int)<_ by decide),?_⟩;have e0:=su (ns.getD ((k*5+2)%(ns.length:Int)).toNat 0) (show(999863:Int)≠0 by decide);have e1:=rZ (ns.getD ((k*5+2)%(ns.length:Int)).toNat 0) (show(0:Int)<999863 by decide);exact⟨_,(),(),Z,Z⟩
 rintro σ' H' ⟨b,b0,b1,rfl,rfl⟩;refine⟨_,Z,_,Z,_,_,Z,Z,.inl ⟨(),()⟩,_,_,Z,Z,_,_,Z,Z,_,Z,_,_,Z,Z,.inr ⟨(),()⟩,_,Z,_,Z,_,_,Z,Z,.inl ⟨(),()⟩,_,_,Z,Z,_,_,Z,Z,_,_,Z,Z,.inl ⟨(),()⟩,_,_,Z,Z,(show(0:Int)<_ by decide),q _⟩
abbrev uU:Stmt:=top 41
def gV:bD ["_law_script","_law_n","_law_most","_law_keys","_law_left","_law_many","_law_rows_here","_law_k","_law_up","_law_bag","_law_fresh"] X5 (aB uU):={}
inductive Ų(K:aH)(vs:List V)(H:Hp)(Q:VK)(u_3:XK):Prop
 |mk (a:Addr) (ns:List Int) (n most:Nat) (_:vs=[.ref a,.int n,.int most]) (_:Ü K H a ns) (_:ns.length<=63) (_:n<=10) (_:1<=most) (_:most<=10) (_:∀l xs rs H',aK H H'->H l=none->H' l=some (.lst xs)->Paired (Qg l H') xs rs->Rw n most rs []->rs.length<=20->Q (.ref l) H')
inductive RowW(K:aH)(a l pl:Addr)(v3:Option V)(n most many:Nat)(H:Hp)(m:Nat)(σ:St)(H':Hp):Prop
 |mk (xs:List V) (rs:List BW) (us:List Int) (v7 v8 v9 v10:Option V) (_:σ=[some (.ref a),some (.int n),some (.int most),v3,some (.ref pl),some (.int many),some (.ref l),v7,v8,v9,v10]) (_:aK H H') (_:H' l=some (.lst xs)) (_:H' pl=some (.lst (us.map V.int))) (_:Paired (RwX [l,pl] H') xs rs) (_:Rw n most rs us) (_:m=(many-rs.length)+us.length) (_:rs.length<=many+(n-us.length)) (_:us.length<=n)
def Ê(xs:List V)(k:Nat):vg xs none (some (k:Int))=xs.take k:=by
 unfold vg;have e1:HT.lH xs.length xs.length (some (k:Int))=min k xs.length:=HT.PN _ _ k;have e2:HT.lH xs.length 0 none=0:=rfl;grind
def a1O{l:List Nat}{n:Nat}(h:l.Perm (List.range n)):(l.map λi=>((i:Nat):Int)).Perm (rng n):=h.map _
def orQ{a b:TT}{H:Hp}{Q:Bool->Hp->Prop}{c1 c2:Bool}(h1:∀Q:Bool->Hp->Prop,Q c1 H->a σ H Q)(h2:∀Q:Bool->Hp->Prop,Q c2 H->b σ H Q)(h:Q (c1||c2) H):tOr a b σ H Q:=by
 refine h1 _ ?_;cases c1 with
 |false=>exact cX (h2 _ h)
 |true=>exact iM h
def QV(B:Bl mg)(qN:Dn K mg "_law_at" tL MP)(dZ5:Dn K mg "_law_rows" uU X5):bw P w K mg base fX 2 dZ5.f dZ5.fd X5 (Ų K):=by
 have T4:bw P w K mg base fX 1 _ _ _ _:=BP B qN;exists dZ5.F.ok gV;obtain⟨a,ns,n,most,rfl,hS,h63,cV,m1,m10,q⟩:=h;refine⟨_,(aG (bK 3 gV.nd (bh (Cz (K:=K) Z) Z B.sorted () (O (jT X6 [none,some 0]  (by kernel_rfl) Z (iY Z B.range (O (pv 1) aj)) (λ_ _ _ _ _=>(aN 0 (show(X6:List Str).Nodup by decide))) (λ_ _ _ _ _=>gA) λ_ _ _ _ _=>(aZ (O (bQ kj (bx T4 hr Z qN.m qN.F.kp qN.b .nil cu (O (pv 1) (O (bQ gw aA (pv 0)) aj))) aA) (O (pv 0) aj)))) aj)))
   (aG (bK 4 gV.nd (jT ["_law_key","_law_v"] [none,none]  (by kernel_rfl) Z (fC (K:=K) Z (pv 3)) (λ_ _ _ _ _=>(jN (K:=K) (n:=2) Z Z (b8 (aN 0 (show(["_law_key","_law_v"]:List Str).Nodup by decide)) (b8 (aN 1 (show(["_law_key","_law_v"]:List Str).Nodup by decide)) jz)))) (λ_ _ _ _ _=>gA) λ_ _ _ _ _=>(pv 1)))
   (aG (bK 5 gV.nd (bQ gw aA (bQ kj (bx T4 hr Z qN.m qN.F.kp qN.b .nil cu (O (pv 0) (O aA aj))) aA)))
   (aG (bK 6 gV.nd (cH (O (aZ (O sy (O (jT ["_law_k","_law_left"] [none,some 4]  (by kernel_rfl) Z (iY Z B.range (O (bh (Mr Z) Z B.min () (O (bh (cG (K:=K) Z) Z B.len () (O (pv 4) aj)) (O (bQ kj (bx T4 hr Z qN.m qN.F.kp qN.b .nil cu (O (pv 0) (O aA aj))) (bQ gw (pv 2) aA)) aj))) aj)) (λ_ _ _ _ _=>(aN 0 (show(["_law_k","_law_left"]:List Str).Nodup by decide))) (λ_ _ _ _ _=>gA) λ_ _ _ _ _=>(qO (K:=K) Z kZ Um Uo Hx (pv 1))) aj))) aj)))
   (aG (þ iR (PW.pt (FT (aP Jj (bh (cG (K:=K) Z) Z B.len () (O (pv 6) aj)) (pv 5)) (Er (aP Jk (bh (cG (K:=K) Z) Z B.len () (O (pv 4) aj)) aA))))
   (aG (bK 7 gV.nd (bh (cG (K:=K) Z) Z B.len () (O (pv 6) aj)))
   (aG (bK 8 gV.nd (bQ kj (bx T4 hr Z qN.m qN.F.kp qN.b .nil cu (O (pv 0) (O (bQ gw aA (pv 7)) aj))) (pv 7)))
   (aG (bK 9 gV.nd (iI (yr (K:=K) Z) (jT ["_law_v","_law_script","_law_k"] [none,some 0,some 7]  (by kernel_rfl) Z (fC (K:=K) Z (aR (aV (K:=K) Z) (aR (bA (K:=K) Z) (pv 6) (pv 8)) aA)) (λ_ _ _ _ _=>(aN 0 (show(["_law_v","_law_script","_law_k"]:List Str).Nodup by decide))) (λ_ _ _ _ _=>(wO (aP Jk (bQ kj (bx T4 hr Z qN.m qN.F.kp qN.b .nil cu (O (pv 1) (O (bQ gw (bQ gw aA (bQ wK aA (pv 2))) (pv 0)) aj))) aA) aA))) λ_ _ _ _ _=>(pv 0)) jK (jL (bQ Vm (pv 2) aA))))
   (aG (bK 10 gV.nd (bQ gw aA (bQ kj (bx T4 hr Z qN.m qN.F.kp qN.b .nil cu (O (pv 0) (O (bQ gw aA (pv 7)) aj))) (bQ Vm (pv 2) (bh (cG (K:=K) Z) Z B.len () (O (pv 9) aj))))))
   (aD (gJ (oK (K:=K) Z kZ PySem.F.slot_list_append PySem.F.type_list_append jO (pv 6) (O (aZ (O (pv 8) (O (bQ qQ (pv 9) (jT ["_law_j","_law_left"] [none,some 4]  (by kernel_rfl) Z (iY Z B.range (O (bh (Mr Z) Z B.min () (O (pv 10) (O (bh (cG (K:=K) Z) Z B.len () (O (pv 4) aj)) aj))) aj)) (λ_ _ _ _ _=>(aN 0 (show(["_law_j","_law_left"]:List Str).Nodup by decide))) (λ_ _ _ _ _=>gA) λ_ _ _ _ _=>(qO (K:=K) Z PySem.F.plainAttrs_list PySem.F.slot_list_pop PySem.F.type_list_pop Hx (pv 1)))) aj))) aj)))))))))
   (aD (bF (pv 6)))))))),?_⟩
 refine⟨_,Z,_,Z,(),(),?_⟩;rw[jD];refine yq (λi ys H'=>∃(ps:List Addr) (zs:List Int),ys=ps.map V.ref/\ps.length=i/\zs.length=i/\aK H H'/\∀k p,ps[k]?=some p->H' p=some (.tup [.int (zs.getD k 0),.int (k:Int)])) ⟨[],[],Z,Z,Z,aK.refl _,λk p h=>by cases h⟩ (λi ys H' hi ⟨ps,zs,e,l,_⟩=>?_) (λi ys H1 hi ⟨ps,zs,e,l,lz,s1,hp⟩=>?_) ?_
 ·rw[e,aJ,l];exact dU (cL ())
 ·refine⟨_,Z,_,Z,_,_,Z,Z,a,ns,_,Z,hS.same s1,h63,(),(),λz=>⟨_,_,Z,Z,(show(0:Int)<_ by decide),_,Z,(),λp2 H2 n2=>?_⟩⟩;obtain⟨z,nz⟩:∃z,gP H1 p2 (.tup [.int z,.int (0+(i:Int))]) H2:=⟨_,n2⟩;refine⟨ps++[p2],zs++[z],by rw[e,dH];rfl,by rw[cA,l];rfl,by rw[cA,lz];rfl,s1.trans n2.same,λk p hk=>?_⟩;by_cases c:k<ps.length
  ·rw[xU c]at hk;have:=n2.same _ _ (hp k p hk);rw[fV,xU (),<-fV];exact this
  ·have k1:=(fu.mp hk).1;rw[cA]at k1;have ek:k=i:=by
    have:k<ps.length+1:=k1;omega
   subst ek;rw[xT (),l,Em]at hk;cases hk;rw[fV,xT (),lz,Em];have:=nz.here;rw[show(0+(k:Int))=(k:Int) by omega]at this;exact this
 rintro ys H1 ⟨ps,zs,rfl,l,lz,s1,hp⟩ pk hpk;have n2:=gP.ou (H:=H1) (p:=pk) (o:=.lst (ps.map V.ref)) hpk;generalize cN H1 pk (.lst (ps.map V.ref))=H2 at n2 ⊢;have s2:aK H H2:=s1.trans n2.same;refine⟨pk,ps.map V.ref,(List.range n).map λk=>[zs.getD k 0,(k:Int)],Z,bC.of n2.here,?_,λns h=>?_,by rw[aJ];omega,λqq p3 H3 pq _ n3=>?_⟩
 ·have all:∀(m:Nat),m<=n->Paired (a0D K H2) ((ps.take m).map V.ref) ((List.range m).map λk=>[zs.getD k 0,(k:Int)]):=λm=>by
   induction m with
   |zero=>intro _;exact .nil
   |succ m ih =>
    intro hm;have hml:m<ps.length:=()
    rw[Ab hml,dH,u5,dH];exact cZ (ih ()) ⟨ps[m],Z,cO.of (n2.same _ _ (hp m _ (bH hml)))⟩
  have:=all n (aL _);rw[Il ()]at this;exact this
 ·obtain⟨k,_,rfl⟩:=dW.mp h;exact λz=>by cases z
 have pq':qq.Perm (List.range n):=by rw[aJ,l]at pq;exact pq
 have lq:qq.length=n:=by rw[pq'.length_eq,qu]
 refine⟨_,Z,p3,Z,⟨_,bC.of n3.here⟩,uL (K:=K) (a:=p3) (xs:=qq.map λi=>(ps.map V.ref).getD i V.non) (λi ys H'=>ys=uF (qq.take i)/\aK H3 H') ⟨Z,aK.refl _⟩ (λi ys H' hi ⟨e,s⟩=>⟨bC.of (s _ _ n3.here),?_⟩) (λi x ys H4 hx ⟨e,s4⟩=>?_) λys H4 ⟨e,s4⟩ p5 hp5=>?_⟩
 ·rw[e,aJ,d7];exact dU (cL ())
 ·rw[fK]at hx;obtain⟨k,hk,rfl⟩:=lC.mp hx;have kn:k<n:=mJ.mp (pq'.mem_iff.mp (jf hk));have kl:k<ps.length:=()
  have ex:(ps.map V.ref).getD k V.non=V.ref ps[k]:=by rw[fV,fK,bH kl];rfl
  rw[ex];have ht:=(n2.same.trans (n3.same.trans s4)) _ _ (hp k _ (bH kl));refine⟨ps[k],_,Z,cO.of ht,Z,_,_,Z,_,_,Z,Z,_,Z,?_,s4⟩;obtain⟨hil,hik⟩:=fu.mp hk;rw[e,Ab hil,hik];unfold uF;rw[dH];rfl
 subst e;rw[aJ,iC];have n5:gP H4 p5 (.lst (uF qq)) (cN H4 p5 (.lst (uF qq))):=gP.ou hp5;generalize cN H4 p5 (.lst (uF qq))=H5 at n5;have s5:=s2.trans (n3.same.trans (s4.trans n5.same));obtain⟨us,eus⟩:∃us:List Int,us=qq.map λi=>((i:Nat):Int):=⟨_,Z⟩;have pu:us.Perm (rng n):=by rw[eus];exact a1O pq'
 have lu:us.length=n:=by rw[pu.length_eq,aJ,qu]
 have h5:H5 p5=some (.lst (us.map V.int)):=by
  rw[n5.here,eus];unfold uF;rw[j9];rfl
 have f5:H p5=none:=s2.free (n3.same.free (s4.free n5.fresh));refine⟨_,Z,a,ns,2,Z,hS.same s5,h63,(),(),λzm=>⟨_,_,Z,Z,(show(0:Int)<_ by decide),_,_,Z,Z,?_⟩⟩;have y0:=su zm (show(4:Int)≠0 by decide);have y1:=rZ zm (show(0:Int)<4 by decide);obtain⟨many,em⟩:∃k:Nat,1+zm%4=(k:Int):=⟨(1+zm%4).toNat,()⟩;dsimp only;rw[em];refine⟨_,Z,p5,_,Z,.inl (bC.of h5),_,Z,a,ns,3,Z,hS.same s5,h63,(),(),λz3=>?_⟩;have w0:=su z3 (show(most:Int)+1≠0 by omega);have w1:=rZ z3 (show(0:Int)<(most:Int)+1 by omega);refine⟨_,Z,_,_,Z,Z,_,_,Z,Z,(show(0:Int)<(most:Int)+1 by omega),_,_,Z,?_⟩;obtain⟨c,ec,c1,c2⟩:∃c:Nat,(if z3%((most:Int)+1)<(((us.map V.int).length:Nat):Int)then z3%((most:Int)+1)else(((us.map V.int).length:Nat):Int))=(c:Int)/\c<=most/\c<=us.length:=by
  rw[aJ];split
  ·exact⟨(z3%((most:Int)+1)).toNat,(),(),()⟩
  ·exact⟨us.length,Z,(),aL _⟩
 rw[ec];refine⟨_,Z,(),(),?_⟩;rw[jD];refine YB h5 c2 () (λi H' xs y N Z98 h q=>⟨_,Z,.inl ⟨Z,_,bC.of h⟩,p5,xs,y,Z,Z,h,q⟩) (λH9 p9 à c9 cV=>?_);refine⟨(),λp11 H11 Ft=>⟨(),λpr Wu n12=>?_⟩⟩;have a7W:Wu p5=some (.lst ((us.take (us.length-c)).map V.int)):=n12.same _ _ (Ft.same _ _ (cV.same _ _ c9.here));have a6F:p5≠pr:=λz=>by have:=n12.fresh;rw[<-z,Ft.same _ _ (cV.same _ _ c9.here)]at this;cases this
 have s12:aK H Wu:=(s5.chg f5 c9).trans (cV.same.trans (Ft.same.trans n12.same));have f8:H pr=none:=(s5.chg f5 c9).free (cV.same.free (Ft.same.free n12.fresh));have ne9:p9∉[pr,p5]:=λhm=>by
  rcases cB.mp hm with hm|hm
  ·have:=n12.fresh;rw[<-hm,Ft.same _ _ cV.here]at this;cases this
  ·have:=cV.fresh;rw[bJ.mp hm,c9.here]at this;cases this
 have W0:=a7U (most:=most) (c:=c) pu c1 (wG _);have lt:(us.take (us.length-c)).length=us.length-c:=by rw[d7];omega
 refine⟨RowW K a pr p5 (some (.ref p3)) n most many H,⟨_,[.ref p11],[(none,(us.drop (us.length-c)).reverse)],_,none,none,none,none,Z,s12,n12.here,a7W,.cons ⟨p11,p9,Z,n12.same _ _ Ft.here,n12.same _ _ (Ft.same _ _ cV.here),ne9,?_⟩ .nil,W0,Z,?_,?_⟩,?_⟩
 ·show((us.drop (us.length-c)).reverse).length<=1000;rw[Ed,j6];omega
 ·show 1<=_;omega
 ·rw[lt];omega
 rintro m σ H1 ⟨xs,rs,us,v7,v8,v9,v10,rfl,s1,hl,hpl,hpr,W,em',b1,b2⟩;have lx:xs.length=rs.length:=aM hpr;have hS1:=hS.same s1;have r1:=W.T.pos;refine orQ (c1:=decide (((xs.length:Nat):Int)<(many:Int))) (c2:=decide ((((us.map V.int).length:Nat):Int)>0)) (λQ h=>⟨_,Z,pr,_,Z,.inl (bC.of hl),_,Z,_,_,Z,Z,_,Z,h⟩) (λQ h=>⟨_,Z,p5,_,Z,.inl (bC.of hpl),_,_,Z,Z,_,Z,h⟩) (zP (λc=>?_) λc=>?_)
 rotate_left
 ·have cd:¬((xs.length:Nat):Int)<(many:Int)/\¬(((us.map V.int).length:Nat):Int)>0:=by simpa using c
  rw[aJ]at cd;have e0:us=[]:=ê ();rw[e0]at W;exact⟨_,Z,q pr xs rs H1 s1 f8 hl (Paired.cC hpr λ_ _ h=>h.l aO) W ()⟩
 all_goals
  have hc:rs.length<many\/(many<=rs.length/\0<us.length):=by
   have cd:((xs.length:Nat):Int)<(many:Int)\/(((us.map V.int).length:Nat):Int)>0:=by
    rcases Bool.or_eq_true_iff.mp c with z|z
    ·exact .inl (gj z)
    ·exact .inr (gj z)
   rw[aJ]at cd;omega
  refine⟨λσ' H'=>∃m',m'<m/\RowW K a pr p5 (some (.ref p3)) n most many H m' σ' H',λ_ _ h=>h,⟨_,Z,pr,_,Z,.inl (bC.of hl),?_⟩⟩;rw[lx];refine⟨_,Z,_,Z,_,_,Z,Z,a,ns,_,Z,hS1,h63,(),(),λz=>?_⟩;have u0:=su z (show((rs.length:Nat):Int)≠0 by omega);have u1:=rZ z (show(0:Int)<((rs.length:Nat):Int) by omega);refine⟨_,Z,_,_,Z,Z,(show(0:Int)<((rs.length:Nat):Int) by omega),?_⟩;obtain⟨f,ef⟩:∃f:Nat,z%((rs.length:Nat):Int)=(f:Int):=⟨(z%((rs.length:Nat):Int)).toNat,()⟩;dsimp only;rw[ef];have fl:f<rs.length:=()
  obtain⟨v,hx,⟨pt,bb,rfl,hT,hbb,hbl,_⟩⟩:=cM hpr (vK fl);have lf:(rowAt rs f).2.length<=most:=W.few f;refine⟨_,Z,_,Z,pr,_,_,_,Z,Z,bC.of hl,bR hx,pt,_,_,_,Z,Z,cO.of hT,Z,bb,Z,⟨_,bC.of hbb⟩,uL (K:=K) (a:=bb) (xs:=(rowAt rs f).2.map V.int) (λi ys H'=>∃ks:List Int,ys=ks.map V.int/\List.Sublist ks ((rowAt rs f).2.take i)/\aK H1 H') ⟨[],Z,List.nil_sublist _,aK.refl _⟩ (λi ys H' hi ⟨ks,e,sb,s⟩=>⟨bC.of (s _ _ hbb),?_⟩) (λi x ys H2 hx ⟨ks,e,sb,s2⟩=>?_) λys H2 ⟨ks,e,sb,s2⟩ p3' hp3=>?_⟩
  ·have:=sb.length_le;rw[d7]at this;rw[e,aJ];exact dU (cL ())
  ·rw[fK]at hx;obtain⟨u,hu,rfl⟩:=lC.mp hx;have et:(rowAt rs f).2.take (i+1)=(rowAt rs f).2.take i++[u]:=by rw[lG,hu];rfl
   have ub:=W.T.lt f u (jf hu);refine⟨_,Z,_,Z,_,_,Z,Z,.inl ⟨(),()⟩,_,_,Z,Z,_,Z,_,_,Z,Z,a,ns,_,Z,hS1.same s2,h63,(),(),λz4=>⟨_,_,Z,Z,(show(0:Int)<_ by decide),_,_,Z,Z,_,Z,zP (λc4=>⟨_,Z,ks++[u],by rw[e,dH];rfl,by rw[et];exact sb.append (List.Sublist.refl _),s2⟩) λc4=>⟨ks,e,by rw[et];exact sb.trans (List.sublist_append_left _ _),s2⟩⟩⟩
  subst e;rw[aJ,iC]at sb;have n3:gP H2 p3' (.lst (ks.map V.int)) (cN H2 p3' (.lst (ks.map V.int))):=gP.ou hp3;generalize cN H2 p3' (.lst (ks.map V.int))=H3 at n3 ⊢;have sJ:=s2.trans n3.same;have lk:=sb.length_le;have hl3:=sJ _ _ hl;refine⟨_,Z,_,_,Z,Z,_,Z,p3',_,Z,bC.of n3.here,λpb H4 n4=>?_⟩;have e1:(most:Int)-1=((most-1:Nat):Int):=()
  rw[e1,Ê,<-Vh]at n4;have M9:=sJ.trans n4.same;have hpb:=n4.here;have fpb:H1 pb=none:=sJ.free n4.fresh;replace sb:=(Oq (most-1) ks).trans sb;have km:(ks.take (most-1)).length+1<=most:=by rw[d7];omega
  generalize ks.take (most-1)=ks at hpb sb km;refine⟨_,Z,_,Z,_,_,Z,Z,a,ns,_,Z,hS1.same M9,h63,(),(),λz5=>?_⟩;have t0:=su z5 (show(most:Int)-((ks.length:Nat):Int)≠0 by omega);have t1:=rZ z5 (show(0:Int)<(most:Int)-((ks.length:Nat):Int) by omega);refine⟨_,Z,_,Z,pb,_,Z,.inl (bC.of hpb),_,_,Z,Z,_,_,Z,Z,(by rw[aJ];show(0:Int)<(most:Int)-((ks.length:Nat):Int);omega),_,_,Z,Z,?_⟩;rw[aJ];dsimp only;obtain⟨fr,efr⟩:∃fr:Nat,1+z5%((most:Int)-((ks.length:Nat):Int))=(fr:Int):=⟨(1+z5%((most:Int)-((ks.length:Nat):Int))).toNat,()⟩;rw[efr];have frm:ks.length+fr<=most:=()
  have fr1:1<=fr:=()
  clear efr t0;have a4x:=M9 _ _ hpl;have hl4:=M9 _ _ hl;refine⟨_,Z,.inl ⟨Z,_,bC.of hl4⟩,_,Z,_,Z,_,Z,_,Z,p5,_,Z,.inl (bC.of a4x),_,_,Z,?_⟩;obtain⟨c,ec,c1,c2,c3⟩:∃c:Nat,(if(((us.map V.int).length:Nat):Int)<(fr:Int)then(((us.map V.int).length:Nat):Int)else(fr:Int))=(c:Int)/\c<=fr/\c<=us.length/\(1<=fr->0<us.length->1<=c):=by
   rw[aJ];split
   ·exact⟨us.length,Z,(),aL _,λ_ h=>h⟩
   ·exact⟨fr,Z,aL _,(),λh _=>h⟩
  rw[ec];clear ec;refine⟨_,Z,(),(),?_⟩;rw[jD];refine YB a4x c2 () (λi H' xs y N Z98 h q=>⟨_,Z,.inl ⟨Z,_,bC.of h⟩,p5,xs,y,Z,Z,h,q⟩) (λH6 p7 H7 c6 n7=>?_);have nb5:pb≠p5:=λz=>by rw[z,hpl]at fpb;cases fpb
  have nl5:pr≠p5:=a6F.symm;have hb7:=n7.same _ _ ((c6.rest pb nb5).trans hpb);refine⟨pb,p7,_,_,Z,Z,hb7,n7.here,(by rw[aJ,aJ,Ed,j6];omega),λp8 H8 n8'=>?_⟩;rw[<-dH]at n8';have hl8:=n8'.same _ _ (n7.same _ _ ((c6.rest pr nl5).trans hl4));have hp8:=n8'.same _ _ (n7.same _ _ c6.here);refine⟨(),λp10 à uG=>?_⟩;have a4y:=uG.same _ _ hl8;have a7X:=uG.same _ _ hp8;refine⟨pr,_,_,Z,Z,a4y,(),λH11 c11=>?_⟩;have lks:=sb.length_le;have W2:=a4w (c:=c) W fl sb () (wG _);have Ý:(us.take (us.length-c)).length=us.length-c:=by rw[d7];omega
  have s8':aK H6 à:=n7.same.trans (n8'.same.trans uG.same);have x8:p8∉[pr,p5]:=λhm=>by
   have f:=n8'.fresh;rcases cB.mp hm with hm|hm
   ·rw[hm,n7.same _ _ ((c6.rest pr nl5).trans hl4)]at f;cases f
   ·rw[bJ.mp hm,n7.same _ _ c6.here]at f;cases f
  refine⟨_,?_,xs++[.ref p10],rs++[(some (f:Int),ks++(us.drop (us.length-c)).reverse)],us.take (us.length-c),_,_,_,_,Z,(((s1.trans M9).chg f5 c6).trans s8').chg f8 c11,c11.here,(c11.rest p5 a6F).trans a7X,?_,W2,Z,?_,?_⟩
  ·rw[em',cA,Ae,Ý];have:=c3;have:=fr1;omega
  ·refine cZ (Paired.cC hpr λv t q=>(((q.same M9).chg a4x c6 (aY _ aO)).same s8').chg a4y c11 aO) (RwX.chg a4y c11 aO ⟨p10,p8,Z,uG.here,uG.same _ _ n8'.here,x8,?_⟩);show(ks++(us.drop (us.length-c)).reverse).length<=1000;rw[cA,Ed,j6];omega
  ·rw[cA,Ae,Ý];have:=c3;have:=fr1;omega
  ·rw[Ý];omega
def ų(s t:Int×Int):Prop:=s.1<t.1\/(s.1=t.1/\s.2<t.2)
structure Web(n:Int)(ts:List bW):Prop where
 ok:∀t∈ts,0<=t.1/\t.1<t.2/\t.2<n
 up:ts.Pairwise ų
def a7Y [DecidableEq α] {l U:List α} (nd:l.Nodup) (h:∀x∈l,x∈U):l.length<=U.length:=by
 induction l generalizing U with
 |nil=>grind
 |cons a r ih =>
  obtain⟨n1,n2⟩:=iD.mp nd;have am:=h a aO;have:=ih (U:=U.erase a) n2 λx hx=>(List.mem_erase_of_ne λe=>n1 ()).mpr (h x (aY _ hx));grind
def a4z:List bW:=(List.range 10).flatMap λ(a:Nat)=>((List.range 10).filter λ(b:Nat)=>decide (a<b)).map λ(b:Nat)=>(((a:Nat):Int),((b:Nat):Int))
def ų.asymm{s t:Int×Int}(h:ų s t)(h':ų t s):False:=by
 unfold ų at h h';omega
def Web.nd{n:Int}{ts:List bW}(h:Web n ts):ts.Nodup:=h.up.imp λl e=>by
 subst e;exact l.asymm l
def Web.few{n:Nat}{ts:List bW}(h:Web n ts)(cV:n<=10):ts.length<=45:=by
 have:=a7Y (U:=a4z) h.nd λt ht=>by
  have o:=h.ok t ht;unfold a4z;refine List.mem_flatMap.mpr ⟨t.1.toNat,mJ.mpr (),dW.mpr ⟨t.2.toNat,lF.mpr ⟨mJ.mpr (),bL ()⟩,?_⟩⟩;grind
 have e:a4z.length=45:=()
 omega
abbrev rG:Stmt:=top 42
def pX:bD ["_law_script","_law_rows_here","_law_n","_law_found","_law_a","_law_b","_law_together"] X7 (aB rG):={}
def QX(rs:List BW)(t:Int×Int):Prop:=∃k,t.1∈fU rs k/\t.2∈fU rs k
inductive Ŵ(K:aH)(vs:List V)(H:Hp)(Q:VK)(u_3:XK):Prop
 |mk (a l:Addr) (ns:List Int) (ys:List V) (rs:List BW) (n:Nat) (_:vs=[.ref a,.ref l,.int n]) (_:Ü K H a ns) (_:ns.length<=63) (_:H l=some (.lst ys)) (_:Paired (Qg l H) ys rs) (_:rs.length<=40) (_:n<=10) (_:∀r xs ts H',aK H H'->H r=none->H' r=some (.lst xs)->Paired (oN H') xs ts->(∀t∈ts,0<=t.1/\t.1<t.2/\t.2<(n:Int))->ts.Nodup->(∀t∈ts,QX rs t)->ts.length<=45->Q (.ref r) H')
def Kv{lo:Int}{n:Nat}{tb:TS}{D:Ends}{H:Hp}(Pv:Nat->St->Hp->Prop)(h0:Pv 0 σ H)
  (hs:∀(D':Ends) i σ H,i<n->Pv i σ H->(∀σ2 H2,Pv (i+1) σ2 H2->D'.nx σ2 H2)->D'.rt=D.rt->g (.int (lo+i)) σ H λσ2 H2=>tb D' σ2 H2) (hd:∀σ H,Pv n σ H->D.nx σ H) :
  ∃W:Nat->Nat->St->Hp->Prop,(∃m,W 0 m σ H)/\∀i m σ H,W i m σ H->
   ((Xe lo n).stop i H/\D.nx σ H)\/((Xe lo n).go i H/\∃N:St->Hp->Prop,(∀σ' H',N σ' H'->∃m',m'<m/\W (i+1) m' σ' H')/\∀x H',(Xe lo n).Û i H x H'->g x σ H' λσ2 H2=>tb { D with nx:=N,ct:=N,bk:=D.nx} σ2 H2) :=
 qz Pv h0 (λi σ H hi p=>hs _ i σ H hi p (λ_ _ h=>h) Z) hd
def QZ(B:Bl mg)(qN:Dn K mg "_law_at" tL MP)(ŵ:Dn K mg "_law_ties" rG X7):bw P w K mg base fX 2 ŵ.f ŵ.fd X7 (Ŵ K):=by
 have T4:bw P w K mg base fX 1 _ _ _ _:=BP B qN;exists ŵ.F.ok pX;obtain⟨a,l,ns,ys,rs,n,rfl,hS,h63,hy,hpr,r40,hn,q⟩:=h;have hv:(A.deeper (PyProof.Rows.envOfC "_law_ties" (aB rG) s⁻¹ ŵ.f dz)).units+65<cLine:=by have:=hr.un;omega
 have ly:ys.length=rs.length:=aM hpr;refine⟨_,(aG (bK 3 pX.nd (cH aj))
   (aG (jo iR Z (iY Z B.range (O (pv 2) aj)) (aN 4 pX.nd)
   (aD (jo iR Z (Mq Z B.range (O (bQ gw (pv 4) aA) (O (pv 2) aj))) (aN 5 pX.nd)
   (aG (Jr (i:=6) ["_law_row","_law_a","_law_b"] [none,some 4,some 5] pX.nd Z Z (by kernel_rfl) Z (fC (K:=K) Z (pv 1)) (λ_ _ _ _ _=>(aN 0 (show(["_law_row","_law_a","_law_b"]:List Str).Nodup by decide))) (λ_ _ _ _ _=>(wO (PW.pt (tX (aP (uM (K:=K) Z hv) (pv 1) (aR (aV (K:=K) Z) (pv 0) aA) (by with_unfolding_all rfl)) (uK (aP (uM (K:=K) Z hv) (pv 2) (aR (aV (K:=K) Z) (pv 0) aA) (by with_unfolding_all rfl))))))) (λ_ _ _ _ _=>(pv 0)) (by rfl))
   (aD (dZ (PW.pt (tX (aP Jk (bh (cG (K:=K) Z) Z B.len () (O (pv 6) aj)) aA) (uK (aP Jj (bQ kj (bx T4 hr Z qN.m qN.F.kp qN.b .nil cu (O (pv 0) (O (bQ gw (bQ gw aA (bQ wK aA (pv 4))) (pv 5)) aj))) aA) (bQ kj (bx T4 hr Z qN.m qN.F.kp qN.b .nil cu (O (pv 0) (O aA aj))) aA)))))
   (aD (gJ (oK (K:=K) Z kZ PySem.F.slot_list_append PySem.F.type_list_append jO (pv 3) (O (aZ (O (pv 4) (O (pv 5) aj))) aj))))
   bT))))))
   (aD (bF (pv 3))))),?_⟩
 refine⟨(),λr H0 nw=>?_⟩;refine⟨_,Z,_,Z,(),(),?_⟩;rw[jD];refine Kv (n:=n) (λi σ H2=>∃(aa bb bo:Option V) (xs:List V) (ts:List bW),σ=[some (.ref a),some (.ref l),some (.int n),some (.ref r),aa,bb,bo]/\aK H H2/\H2 r=some (.lst xs)/\Paired (oN H2) xs ts/\ts.length<=10*i/\Web n ts/\(∀t∈ts,t.1<(i:Int))/\∀t∈ts,QX rs t)
  ⟨none,none,none,[],[],Z,nw.same,nw.here,.nil,dh _,⟨λt h=>absurd h eN,.nil⟩,λt h=>absurd h eN,λt h=>absurd h eN⟩ ?_ ?_
 ·rintro D1 i σ H2 hi ⟨aa,bb,bo,xs,ts,rfl,sm,hr2,hp,hz,hw,hlt,bi⟩ dn1 _;refine⟨_,Z,_,_,Z,Z,_,Z,_,_,Z,⟨(),(),(),()⟩,?_⟩;refine Kv (n:=_) (λj σ H3=>∃(bb bo:Option V) (xs:List V) (ts:List bW),σ=[some (.ref a),some (.ref l),some (.int n),some (.ref r),some (.int (0+(i:Int))),bb,bo]/\aK H H3/\H3 r=some (.lst xs)/\Paired (oN H3) xs ts/\ts.length<=10*i+j/\Web n ts/\(∀t∈ts,t.1<(i:Int)\/(t.1=(i:Int)/\t.2<(i:Int)+1+j))/\∀t∈ts,QX rs t)
   ⟨bb,bo,xs,ts,Z,sm,hr2,hp,(),hw,λt h=>.inl (hlt t h),bi⟩ ?_ ?_
  ·rintro D2 j σ H3 hj ⟨bb,bo,xs,ts,rfl,sm,hr3,hp,hz,hw,hlt,bi⟩ dn _;have jn:(j:Int)+(0+(i:Int)+1)<n:=()
   have hy3:=sm _ _ hy;generalize eav:(0+(i:Int))=av;generalize ebv:(av+1+(j:Int))=bv;refine⟨_,Z,l,Z,⟨_,bC.of hy3⟩,ę (λk=>if(decide (av∈fU rs k)&&decide (bv∈fU rs k))=true then ys[k]? else none) (bC.of hy3) () (λk x H4 N hk s4 hN=>?_) λH4 p4 H5 s4 n4=>?_⟩
   ·have kl:k<rs.length:=by rw[<-ly];exact(fu.mp hk).1
    obtain⟨v,hx,⟨pp,b,rfl,Ŷ,hb,_⟩⟩:=cM hpr (vK kl);rw[hk]at hx;cases hx;have s04:=sm.trans s4;have hN':=hN H4 s4;rw[hk]at hN';refine⟨_,Z,_,Z,pp,_,_,_,Z,Z,cO.of (s04 _ _ Ŷ),Z,Ba (bC.of (s04 _ _ hb)) ⟨_,Z,zP (λc=>?_) λc=>?_⟩⟩
    ·refine⟨_,Z,_,Z,pp,_,_,_,Z,Z,cO.of (s04 _ _ Ŷ),Z,Ba (bC.of (s04 _ _ hb)) ⟨_,Z,zP (λd=>?_) λd=>?_⟩⟩
     ·rw[aF (by unfold fU;rw[c,d];rfl)]at hN';exact⟨_,Z,hN'⟩
     ·rw[aq (by unfold fU;rw[xZ.mpr d];simp)]at hN';exact hN'
    ·refine cX ?_;rw[aq (by unfold fU;rw[xZ.mpr c];simp)]at hN';exact hN'
   have s05:=sm.trans (s4.trans n4.same);have hr5:H5 r=some (.lst xs):=(s4.trans n4.same) _ _ hr3;have hp5:=Paired.cC hp λv t q=>oN.same (s4.trans n4.same) q;have lxs:xs.length=ts.length:=aM hp;have no:=λbv=>dn [some (V.ref a),some (.ref l),some (.int n),some (.ref r),some (.int av),bv,some (.ref p4)] H5 ⟨bv,some (.ref p4),xs,ts,by rw[eav],s05,hr5,hp5,(),hw,λt ht=>by have:=hlt t ht;omega,bi⟩;refine⟨_,Z,p4,_,Z,.inl (bC.of n4.here),_,_,Z,Z,_,Z,zP (λc=>?_) λc=>no _⟩;have c':=gj c;refine⟨_,Z,_,Z,_,_,Z,Z,.inl ⟨(),()⟩,_,_,Z,Z,_,Z,_,_,Z,Z,a,ns,_,Z,hS.same s05,h63,(),(),λz5=>⟨_,_,Z,Z,(show(0:Int)<_ by decide),_,Z,a,ns,4,Z,hS.same s05,h63,(),(),λz0=>⟨_,_,Z,Z,(show(0:Int)<_ by decide),_,_,Z,Z,_,Z,zP (λd=>?_) λd=>no _⟩⟩⟩;have hrow:QX rs (av,bv):=by
    have c3:0<((List.range ys.length).filterMap λk=>if(decide (av∈fU rs k)&&decide (bv∈fU rs k))=true then ys[k]? else none).length:=()
    obtain⟨x,hx⟩:=List.exists_mem_of_length_pos c3;obtain⟨k,_,e⟩:=Uv.mp hx;by_cases d2:(decide (av∈fU rs k)&&decide (bv∈fU rs k))=true
    ·rw[qw]at d2;exact⟨k,gj d2.1,gj d2.2⟩
    ·rw[aq d2]at e;cases e
   refine⟨_,Z,.inl ⟨Z,_,bC.of hr5⟩,_,Z,_,Z,(),λp6 H6 n6=>?_⟩;have h6:=n6.same _ _ hr5;refine⟨r,_,_,Z,Z,h6,(),λH7 c7=>?_⟩;refine dn _ _ ⟨some (.int bv),some (.ref p4),xs++[.ref p6],ts++[(av,bv)],by rw[eav];rfl,(s05.trans n6.same).chg nw.fresh c7,c7.here,?_,?_,⟨λt ht=>?_,?_⟩,λt ht=>?_,λt ht=>?_⟩
   ·exact cZ (Paired.cC hp5 λv t q=>(oN.same n6.same q).chg h6 c7) (oN.chg h6 c7 ⟨p6,Z,n6.here⟩)
   ·rw[cA];show ts.length+1<=_;omega
   ·rcases cJ.mp ht with ht|ht
    ·exact hw.ok t ht
    ·rw[bJ.mp ht];exact⟨by show 0<=av;omega,by show av<bv;omega,by show bv<n;omega⟩
   ·refine Uq.mpr ⟨hw.up,xV _ _,λt ht u hu=>?_⟩;rw[bJ.mp hu];show t.1<av\/(t.1=av/\t.2<bv);have:=hlt t ht;omega
   ·rcases cJ.mp ht with ht|ht
    ·have:=hlt t ht;omega
    ·rw[bJ.mp ht];show av<(i:Int)\/(av=(i:Int)/\bv<(i:Int)+1+((j+1:Nat):Int));omega
   ·rcases cJ.mp ht with ht|ht
    ·exact bi t ht
    ·rw[bJ.mp ht];exact hrow
  ·rintro σ H3 ⟨bb,bo,xs,ts,rfl,sm,hr3,hp,hz,hw,hlt,bi⟩;exact dn1 _ _ ⟨_,bb,bo,xs,ts,Z,sm,hr3,hp,(),hw,λt ht=>by have:=hlt t ht;omega,bi⟩
 ·rintro σ H2 ⟨aa,bb,bo,xs,ts,rfl,sm,hr2,hp,hz,hw,hlt,bi⟩;have few:=hw.few hn;exact⟨_,Z,q r xs ts H2 sm nw.fresh hr2 hp (λt ht=>hw.ok t ht) hw.nd bi ()⟩
abbrev lV:Stmt:=top 43
def gW:bD ["_law_ties_here","_law_rows_here","_law_k","_law_above","_law_bag","_law_steps","_law_j"] Dc (aB lV):={}
inductive DN(K:aH)(d:Nat)(vs:List V)(H:Hp)(Q:VK)(u_3:XK):Prop
 |mk (r l:Addr) (tx ys:List V) (tb:List bW) (rs:List BW) (n most k:Nat) (_:vs=[.ref r,.ref l,.int (k:Int)]) (_:H r=some (.lst tx)) (_:Paired (oN H) tx tb) (_:tb.length<=100) (_:H l=some (.lst ys)) (_:Paired (Qg l H) ys rs) (_:Rw n most rs []) (_:most<=4) (_:rs.length<=20) (_:n<=10) (_:k<rs.length) (_:rs.length<=k+d) (_:∀p xs H',aK H H'->H p=none->H' p=some (.lst xs)->Paired (wu H') xs (ql false tb rs.length (DY rs) (fU rs) d k)->Q (.ref p) H')
def vG(m:Nat)(up:Nat->Nat)(k i:Nat):List Nat:=(List.range i).filter λj=>decide (k<j)&&decide (up j=k)
def a4A(m:Nat)(up:Nat->Nat)(k:Nat):vG m up k (k+1)=[]:=by
 unfold vG;rw[List.filter_eq_nil_iff];grind
def ŷ{m:Nat}{up:Nat->Nat}{k i:Nat}(h:i<=m)(L:Nat->List bZ):((vG m up k i).flatMap L).length<=((gR m up k).flatMap L).length:=by
 unfold vG gR;have e:List.range m=List.range i++(List.range (m-i)).map (i + ·):=by
  rw[<-List.range_add];congr 1;omega
 rw[e,Ip,Uu,cA];omega
def Nm{m:Nat}{up:Nat->Nat}{k i:Nat}(h:k<i):vG m up k (i+1)=vG m up k i++if up i=k then [i]else []:=by
 unfold vG;rw[u5,Ip];grind
def lK{β:Type}{R:α->β->Prop}{xs xs':List α}{ys ys':List β}(h:Paired R xs ys)(q:Paired R xs' ys'):Paired R (xs++xs') (ys++ys'):=by
 induction h with
 |nil=>exact q
 |cons a _ ih=>exact .cons a ih
def Kw{ta tb:TT}{H:Hp}{b1 b2:Bool}{Q:Bool->Hp->Prop}(h1:∀Q:Bool->Hp->Prop,Q b1 H->ta σ H Q)(h2:∀Q:Bool->Hp->Prop,Q b2 H->tb σ H Q)(h:Q (b1&&b2) H):a4Y ta tb σ H Q:=by
 refine h1 _ ?_;grind
def Ia{a:Addr}{ix:List (Option Nat)}{tt:TT}{te:TE}{H:Hp}{Q:VK}(xs:List Int)(c:Int->Bool)(S:Int->bZ)(hx:bC K H a (xs.map V.int))(l9:xs.length<=900)
  (hs:∀(v:Int) (H1:Hp) (N:VK) (Z98:Hp->Prop),v∈xs->aK H H1->(c v=true->∀p H2,gP H1 p (.tup (S v).vs) H2->N (.ref p) H2)->(c v=false->Z98 H1)->g (.int v) (rA ix σ) H1 λσ2 H2=>tt σ2 H2 λb H3=>if b=true then te σ2 H3 N else Z98 H3)
  (hd:∀H1 p ys H2,aK H H1->gP H1 p (.lst ys) H2->Paired (wu H2) ys ((xs.filter c).map S)->Q (.ref p) H2):nD ix g tt te σ H Q (Itl K a):=by
 refine uL (K:=K) (a:=a) (xs:=xs.map V.int) (λi ys H'=>aK H H'/\Paired (wu H') ys (((xs.take i).filter c).map S)) ⟨aK.refl _,.nil⟩ (λi ys H' hi ⟨s,p⟩=>⟨s.seq hx,?_⟩) (λi x ys H' hi ⟨s,p⟩=>?_) (λys H' ⟨s,p⟩ q hq=>?_)
 ·rw[aM p,aJ];have:=Ea c (xs.take i);rw[d7]at this;exact dU (cL ())
 ·rw[fK]at hi;obtain⟨v,hv,rfl⟩:=lC.mp hi;have et:xs.take (i+1)=xs.take i++[v]:=by rw[lG,hv];rfl
  refine hs v H' _ _ (jf hv) s (λcv p2 H2 n2=>⟨s.trans n2.same,?_⟩) (λcv=>⟨s,?_⟩)
  ·rw[et,Ip,dH,OD,cv];exact cZ (Paired.cC p λ_ _ h=>h.same n2.same) ⟨p2,Z,n2.here⟩
  ·rw[et,Ip,dH,OD,cv];simp only[Bool.false_eq_true,if_false,List.filter_nil,List.map_nil,List.append_nil];exact p
 ·have nq:gP H' q (.lst ys) (cN H' q (.lst ys)):=gP.ou hq;rw[aJ,iC]at p;exact hd H' q ys _ s nq (Paired.cC p λ_ _ h=>h.same nq.same)
def Ÿ(Gs:Dn K mg "_law_laid" lV Dc):bw P w K mg base fX 1 Gs.f Gs.fd Dc (DN K 0):=by
 refine Gs.F.ok gW (len:=λvs H Q E h=>?_) (λdz A outer s H vs Q E hr h=>?_)
 ·obtain⟨r,l,tx,ys,tb,rs,n,most,k,_,_,_,_,_,_,_,_,_,_,h1,h2,_⟩:=h;omega
 ·obtain⟨r,l,tx,ys,tb,rs,n,most,k,_,_,_,_,_,_,_,_,_,_,h1,h2,_⟩:=h;omega
def Ź(B:Bl mg)(Gs:Dn K mg "_law_laid" lV Dc)(d:Nat)(gZ4:bw P w K mg base fX (d+1) Gs.f Gs.fd Dc (DN K d)):bw P w K mg base fX (d+2) Gs.f Gs.fd Dc (DN K (d+1)):=by
 exists Gs.F.ok gW;obtain⟨r,l,tx,ys,tb,rs,n,most,k,rfl,hT,pT,a1N,hL,pL,W,m4,r20,cV,kl,dk,q⟩:=h;have hv:(A.deeper (PyProof.Rows.envOfC "_law_laid" (aB lV) s⁻¹ Gs.f dz)).units+65<cLine:=by have:=hr.un;omega
 have ly:=aM pL;have ltx:=aM pT;have T:=W.T;obtain⟨vk,hxk,⟨pk,bk,rfl,Ŷ,hbk,nbk,lbk⟩⟩:=cM pL (vK kl);have hW4:∀j,(fU rs j).length<=4:=λj=>dI (W.few j) m4;have b10:∀j,(fU rs j).length<=10:=λj=>dI (hW4 j) ();have full:=Nk T hW4 r20 false a1N (f:=d+1) kl;obtain⟨L,eL⟩:∃L:Nat->List bZ,L=λj=>ql false tb rs.length (DY rs) (fU rs) d j++(pQ (fU rs) j k++[.join]):=⟨_,Z⟩;obtain⟨M0,eM⟩:∃M0:List bZ,M0=.leaf::(fU rs k).map .inn:=⟨_,Z⟩;have eS:ql false tb rs.length (DY rs) (fU rs) (d+1) k=(M0++(gR rs.length (DY rs) k).flatMap L)++(xR (DY rs) (fU rs) tb k).map λt=>.tie t.1 t.2:=by
  rw[eL,eM];show(((bZ.leaf::(fU rs k).map bZ.inn)++if false=true then _ else [])++_)++(if false=true then []else _)=_;rw[aq dB,aq dB,nC]
 rw[eS]at q full;rw[cA,cA]at full;have a8c:(xR (DY rs) (fU rs) tb k).length<=100:=dI (Ea _ _) a1N;have lM:M0.length<=120:=by
  rw[eM,jE,aJ];have:=b10 k;omega
 refine⟨_,(aG (bK 3 gW.nd (cH aj))
   (qP (dZ (aP Jk (pv 2) aA)
   (aD (bK 3 gW.nd (aR (aV (K:=K) Z) (aR (bA (K:=K) Z) (pv 1) (aR (aV (K:=K) Z) (aR (bA (K:=K) Z) (pv 1) (pv 2)) aA)) aA)))
   bT)
   (aG (bK 4 gW.nd (aR (aV (K:=K) Z) (aR (bA (K:=K) Z) (pv 1) (pv 2)) aA))
   (aG (bK 5 gW.nd (bQ qQ (cH (O (aZ (O gq aj)) aj)) (jT ["_law_v"] [none]  (by kernel_rfl) Z (fC (K:=K) Z (pv 4)) (λ_ _ _ _ _=>(aN 0 (show(["_law_v"]:List Str).Nodup by decide))) (λ_ _ _ _ _=>gA) λ_ _ _ _ _=>(aZ (O gq (O (pv 0) aj))))))
   (aG (jo iR Z (Mq Z B.range (O (bQ gw (pv 2) aA) (O (bh (cG (K:=K) Z) Z B.len () (O (pv 1) aj)) aj))) (aN 6 gW.nd)
   (aD (dZ (aP oH (aR (aV (K:=K) Z) (aR (bA (K:=K) Z) (pv 1) (pv 6)) aA) (pv 2))
   (aG (bK 5 gW.nd (bQ qQ (bQ qQ (pv 5) (bx gZ4 hr Z Gs.m Gs.F.kp Gs.b .nil cu (O (pv 0) (O (pv 1) (O (pv 6) aj))))) (jT ["_law_v","_law_bag"] [none,some 4]  (by kernel_rfl) Z (fC (K:=K) Z (aR (aV (K:=K) Z) (aR (bA (K:=K) Z) (pv 1) (pv 6)) aA)) (λ_ _ _ _ _=>(aN 0 (show(["_law_v","_law_bag"]:List Str).Nodup by decide))) (λ_ _ _ _ _=>(wO (aP (jM (K:=K) Z hv) (pv 0) (pv 1) (by with_unfolding_all rfl)))) λ_ _ _ _ _=>(aZ (O gq (O (pv 0) aj))))))
   (aD (bK 5 gW.nd (bQ qQ (bQ qQ (pv 5) (jT ["_law_v","_law_rows_here","_law_j"] [none,some 1,some 6]  (by kernel_rfl) Z (fC (K:=K) Z (pv 4)) (λ_ _ _ _ _=>(aN 0 (show(["_law_v","_law_rows_here","_law_j"]:List Str).Nodup by decide))) (λ_ _ _ _ _=>(wO (aP (jM (K:=K) Z hv) (pv 0) (aR (aV (K:=K) Z) (aR (bA (K:=K) Z) (pv 1) (pv 2)) aA) (by with_unfolding_all rfl)))) λ_ _ _ _ _=>(aZ (O gq (O (pv 0) aj))))) (cH (O (aZ (O gq aj)) aj))))))
   bT)))
   (aD (bF (bQ qQ (pv 5) (jT Ń [none,none,some 4,some 3]  (by kernel_rfl) Z (fC (K:=K) Z (pv 0)) (λ_ _ _ _ _=>(jN (K:=K) (n:=2) Z Z (b8 (aN 0 (show(Ń:List Str).Nodup by decide)) (b8 (aN 1 (show(Ń:List Str).Nodup by decide)) jz)))) (λ_ _ _ _ _=>(wO (PW.pt (tX (aP (uM (K:=K) Z hv) (pv 0) (pv 2) (by with_unfolding_all rfl)) (tX (aP (uM (K:=K) Z hv) (pv 1) (pv 2) (by with_unfolding_all rfl)) (uK (sE (PW.pt (tX (aP (uM (K:=K) Z hv) (pv 0) (pv 3) (by with_unfolding_all rfl)) (uK (aP (uM (K:=K) Z hv) (pv 1) (pv 3) (by with_unfolding_all rfl)))))))))))) λ_ _ _ _ _=>(aZ (O gq (O (pv 0) (O (pv 1) aj))))))))))))),?_⟩
 refine⟨(),λpa H7 n7=>?_⟩;have s7:=n7.same;refine⟨λσ' H'=>∃(pA:Addr) (ab:List Int),σ'=[some (.ref r),some (.ref l),some (.int (k:Int)),some (.ref pA),none,none,none]/\H'=H7/\H7 pA=some (.lst (ab.map V.int))/\∀t:Int×Int,(¬(t.1∈ab/\t.2∈ab))↔(k=0\/¬(t.1∈fU rs (DY rs k)/\t.2∈fU rs (DY rs k))),?_,?_⟩
 ·refine⟨_,Z,_,_,Z,Z,_,Z,?_⟩;by_cases k0:k=0
  ·rw[cW ()];exact cX ⟨pa,[],Z,Z,n7.here,λt=>⟨λ_=>.inl k0,λ_ z=>absurd z.1 eN⟩⟩
  ·rw[bL ()];have ul:=T.ups k () kl;have a6G:=Ŷ;rw[W.ru k () kl]at a6G;obtain⟨vu,hxu,⟨pu,bu,rfl,hTu,hbu,nbu,lbu⟩⟩:=cM pL (vK (show DY rs k<rs.length by omega));exact iM ⟨_,Z,_,Z,_,Z,l,_,_,_,Z,Z,bC.of (s7 _ _ hL),bR hxk,pk,_,_,_,Z,Z,cO.of (s7 _ _ a6G),Z,l,_,_,_,Z,Z,bC.of (s7 _ _ hL),bR hxu,pu,_,_,_,Z,Z,cO.of (s7 _ _ hTu),Z,⟨bu,_,Z,Z,s7 _ _ hbu,λt=>⟨λh=>.inr h,λh=>h.elim (λz=>absurd z k0) id⟩⟩⟩
 rintro σ' H8 ⟨pA,ab,rfl,rfl,hA,mA⟩;refine⟨_,Z,_,Z,l,_,_,_,Z,Z,bC.of (s7 _ _ hL),bR hxk,pk,_,_,_,Z,Z,cO.of (s7 _ _ Ŷ),Z,?_⟩;refine⟨(),λp1 H1 n1=>⟨(),λp2 H2 n2=>?_⟩⟩;have s2:=s7.trans (n1.same.trans n2.same);refine⟨_,Z,bk,Z,⟨_,bC.of (s2 _ _ hbk)⟩,?_⟩;refine Ia (fU rs k) (λ_=>true) bZ.inn (bC.of (s2 _ _ hbk)) (by have:=b10 k;omega) (λv H3 N Z98 _ s3 hN hM=>?_) (λH3 p3 ys3 H4 s3 n4 p4=>?_)
 ·exact⟨_,Z,(),λp H5 n5=>hN Z p H5 n5⟩
 rw[List.filter_eq_self.mpr (λ_ _=>rfl)]at p4;have Ŕ:=s3.trans n4.same;have l4:=aM p4;rw[aJ]at l4;refine⟨p2,p3,_,_,Z,Z,Ŕ _ _ n2.here,n4.here,(by have:=b10 k;show 1+ys3.length<=1000;omega),λp5 H5 n5=>?_⟩;have s85:aK H8 H5:=n1.same.trans (n2.same.trans (Ŕ.trans n5.same));have s5:=s7.trans s85;have f5:H p5=none:=(s2.trans Ŕ).free n5.fresh;have P5:Paired (wu H5) ([.ref p1]++ys3) M0:=by
  rw[eM];exact .cons ⟨p1,Z,n5.same _ _ (Ŕ _ _ (n2.same _ _ n1.here))⟩ (Paired.cC p4 λ_ _ h=>h.same n5.same)
 have hL5:=s5 _ _ hL;refine⟨_,Z,_,_,Z,Z,_,Z,l,_,Z,.inl (bC.of hL5),_,_,Z,⟨(),(),(),()⟩,?_⟩;refine qz (n:=_) (λi σ H'=>∃(jj:Option V) (pS:Addr) (xs:List V),σ=[some (.ref r),some (.ref l),some (.int (k:Int)),some (.ref pA),some (.ref bk),some (.ref pS),jj]/\aK H H'/\aK H5 H'/\H pS=none/\H' pS=some (.lst xs)/\Paired (wu H') xs (M0++(vG rs.length (DY rs) k (k+1+i)).flatMap L))
  ⟨none,p5,_,Z,s5,aK.refl _,f5,n5.here,by rw[a4A,List.flatMap_nil,nC];exact P5⟩ ?_ ?_
 ·rintro i σ H6 hi ⟨jj,pS,xs,rfl,s6,s6m,fS,hS,pS'⟩;have jl:k+1+i<rs.length:=by rw[ly]at hi;omega
  obtain⟨j,ej⟩:∃j,j=k+1+i:=⟨_,Z⟩;have ejI:(k:Int)+1+(i:Int)=(j:Int):=()
  rw[ejI];rw[<-ej]at jl pS';have ej2:k+1+(i+1)=j+1:=()
  rw[ej2,Nm (show k<j by omega)];obtain⟨vj,hxj,⟨pj,bj,rfl,ß,hbj,nbj,lbj⟩⟩:=cM pL (vK jl);rw[W.ru j () jl]at ß;have pre:=ŷ (up:=DY rs) (k:=k) (show j+1<=rs.length by omega) L;rw[Nm (show k<j by omega)]at pre;have lxs:=aM pS';rw[cA]at lxs;refine⟨_,Z,_,Z,l,_,_,_,Z,Z,bC.of (s6 _ _ hL),bR hxj,pj,_,_,_,Z,Z,cO.of (s6 _ _ ß),Z,_,Z,Z,_,Z,?_⟩;by_cases c:DY rs j=k
  ·rw[aF c]at pre ⊢;rw[show decide (upV (some ((DY rs j:Nat):Int))=V.int (k:Int))=true from bL (by rw[c];rfl)];refine iM ?_;have eLj:L j=ql false tb rs.length (DY rs) (fU rs) d j++((vC (fU rs j) (fU rs k)).map .out++(vC (fU rs k) (fU rs j)).map .inn++[.join]):=by rw[eL];rfl
   rw[Uu,cA,List.flatMap_singleton]at pre;have lLj:=congrArg List.length eLj;rw[cA,cA,cA,aJ,aJ]at lLj;have lJ1:[bZ.join].length=1:=rfl;refine⟨_,Z,_,Z,_,Z,_,Z,r,l,tx,ys,tb,rs,n,most,j,Z,s6 _ _ hT,Paired.cC pT λ_ _ h=>oN.same s6 h,a1N,s6 _ _ hL,Paired.cC pL λ_ _ h=>Qg.same s6 h,W,m4,r20,cV,jl,(),λpJ xJ H7 s7 fJ hJ pJ'=>?_⟩;have lJ:=aM pJ';refine⟨pS,pJ,_,_,Z,Z,s7 _ _ hS,hJ,(),λp8 H8 n8=>?_⟩;have s68:=s7.trans n8.same;have s8:=s6.trans s68;refine⟨_,Z,_,Z,l,_,_,_,Z,Z,bC.of (s8 _ _ hL),bR hxj,pj,_,_,_,Z,Z,cO.of (s8 _ _ ß),Z,bj,Z,⟨_,bC.of (s8 _ _ hbj)⟩,?_⟩;refine Ia (fU rs j) (λv=>!decide (v∈fU rs k)) bZ.out (bC.of (s8 _ _ hbj)) (by have:=b10 j;omega) (λv H9 N Z98 _ s9 hN hM=>?_) (λH9 p9 y9 à s9 uG p10=>?_)
   ·refine⟨_,Z,_,Z,zx (bC.of ((s8.trans s9) _ _ hbk)) ⟨_,Z,zP (λe=>?_) λe=>hM (xZ.mpr e)⟩⟩;exact⟨_,Z,(),λp H5 n5=>hN e p H5 n5⟩
   have l10:=aM p10;rw[aJ]at l10;have a8d:y9.length=(vC (fU rs j) (fU rs k)).length:=l10;have a4B:=s9.trans uG.same;refine⟨p8,p9,_,_,Z,Z,a4B _ _ n8.here,uG.here,by rw[cA];omega,λp11 H11 Ft=>?_⟩;have s11:=s8.trans (a4B.trans Ft.same);refine⟨_,Z,_,Z,bk,Z,⟨_,bC.of (s11 _ _ hbk)⟩,?_⟩;refine Ia (fU rs k) (λv=>!decide (v∈fU rs j)) bZ.inn (bC.of (s11 _ _ hbk)) (by have:=b10 k;omega) (λv Wu N Z98 _ s12 hN hM=>?_) (λWu p12 y12 H13 s12 n13 p13=>?_)
   ·refine⟨_,Z,_,Z,_,Z,l,_,_,_,Z,Z,bC.of ((s11.trans s12) _ _ hL),bR hxj,pj,_,_,_,Z,Z,cO.of ((s11.trans s12) _ _ ß),Z,zx (bC.of ((s11.trans s12) _ _ hbj)) ⟨_,Z,zP (λe=>?_) λe=>hM (xZ.mpr e)⟩⟩;exact⟨_,Z,(),λp H5 n5=>hN e p H5 n5⟩
   have l13:=aM p13;rw[aJ]at l13;have a8e:y12.length=(vC (fU rs k) (fU rs j)).length:=l13;have ź:=s12.trans n13.same;refine⟨p11,p12,_,_,Z,Z,ź _ _ Ft.here,n13.here,by rw[cA,cA];omega,λp14 H14 n14=>?_⟩;refine⟨(),λp15 H15 n15=>⟨(),λp16 H16 n16=>?_⟩⟩;have Ż:=n15.same.trans n16.same;refine⟨p14,p16,_,_,Z,Z,Ż _ _ n14.here,n16.here,(by rw[cA,cA,cA];show _+1<=1000;omega),λp17 H17 n17=>?_⟩;have a2A:=n14.same.trans (Ż.trans n17.same);have a2B:=Ft.same.trans (ź.trans a2A);have a4C:=a4B.trans a2B;have s17:=s8.trans a4C;have a6H:=n8.same.trans a4C;refine⟨_,p17,_,Z,s17,s6m.trans (s68.trans a4C),?_,n17.here,?_⟩
   ·exact(s11.trans (ź.trans (n14.same.trans Ż))).free n17.fresh
   ·rw[Uu,List.flatMap_singleton,eLj,<-xY,<-xY,<-xY,<-xY];refine lK (lK (lK (lK (Paired.cC pS' λ_ _ h=>h.same (s7.trans a6H)) (Paired.cC pJ' λ_ _ h=>h.same a6H)) (Paired.cC p10 λ_ _ h=>h.same a2B)) (Paired.cC p13 λ_ _ h=>h.same a2A)) (.cons ⟨p15,Z,n17.same _ _ (n16.same _ _ n15.here)⟩ .nil)
  ·rw[aq c,nC];rw[show decide (upV (some ((DY rs j:Nat):Int))=V.int (k:Int))=false from cW (λz=>c (by have:=V.int.inj z;omega))];exact cX ⟨_,pS,xs,Z,s6,s6m,fS,hS,pS'⟩
 rintro σ H6 ⟨jj,pS,xs,rfl,s6,s6m,fS,hS,pS'⟩;have eK:vG rs.length (DY rs) k (k+1+((ys.length:Int)-((k:Int)+1)).toNat)=gR rs.length (DY rs) k:=by
  unfold vG gR;congr 2;omega
 rw[eK]at pS';have lxs:=aM pS';rw[cA]at lxs;have hb6:=s6 _ _ hbk;have hA6:=(s85.trans s6m) _ _ hA;refine⟨_,Z,_,Z,r,Z,⟨_,bC.of (s6 _ _ hT)⟩,uL (K:=K) (a:=r) (xs:=tx) (λi yo H'=>aK H6 H'/\Paired (wu H') yo (((tb.take i).filter λt=>decide (jx (DY rs) (fU rs) k t)).map λt=>.tie t.1 t.2)) ⟨aK.refl _,.nil⟩ (λi yo H' hi ⟨s,p⟩=>⟨bC.of (s _ _ (s6 _ _ hT)),?_⟩) (λi x yo H9 hx ⟨s9',p9⟩=>?_) λyo H9 ⟨s9',p9⟩ pM hpM=>?_⟩
 ·rw[aM p,aJ];have:=Ea (λt=>decide (jx (DY rs) (fU rs) k t)) (tb.take i);rw[d7]at this;exact dU (cL ())
 ·obtain⟨t,ht,⟨px,rfl,hpx⟩⟩:=bf pT hx;have et:tb.take (i+1)=tb.take i++[t]:=by rw[lG,ht];rfl
  have s9:=s6.trans s9';refine⟨px,_,Z,cO.of (s9 _ _ hpx),Z,_,_,Z,_,_,Z,Z,?_⟩;have hb9:=s9 _ _ hbk;have hA9:=s9' _ _ hA6;rw[et,Ip,dH,OD];refine Kw (b1:=decide (t.1∈fU rs k)) (b2:=decide (t.2∈fU rs k) && !(decide (t.1∈ab)&&decide (t.2∈ab))) (λQ h=>⟨_,Z,_,Z,Ba (bC.of hb9) ⟨_,Z,h⟩⟩) (λQ h=>Kw (b1:=decide (t.2∈fU rs k)) (b2:=!(decide (t.1∈ab)&&decide (t.2∈ab))) (λQ h=>⟨_,Z,_,Z,Ba (bC.of hb9) ⟨_,Z,h⟩⟩) (λQ h=>Kw (b1:=decide (t.1∈ab)) (b2:=decide (t.2∈ab)) (Q:=λb H'=>Q (!b) H') (λQ h=>⟨_,Z,_,Z,Ba (bC.of hA9) ⟨_,Z,h⟩⟩) (λQ h=>⟨_,Z,_,Z,Ba (bC.of hA9) ⟨_,Z,h⟩⟩) h) h) ?_;have eh:(decide (t.1∈fU rs k)&&(decide (t.2∈fU rs k) && !(decide (t.1∈ab)&&decide (t.2∈ab))))=decide (jx (DY rs) (fU rs) k t):=by
   rw[tO,qw,qw,fB,fB,fB];unfold jx;rw[<-mA t];by_cases c1:t.1∈ab<;>by_cases c2:t.2∈ab<;>simp[c1,c2]
  rw[eh];refine zP (λc=>?_) (λc=>?_)
  ·rw[aF c];refine⟨_,Z,_,Z,(),λp10 à uG=>⟨s9'.trans uG.same,?_⟩⟩;exact cZ (Paired.cC p9 λ_ _ h=>h.same uG.same) ⟨p10,Z,uG.here⟩
  ·rw[aq c];refine⟨s9',?_⟩;rw[List.filter_nil,List.map_nil,nC];exact p9
 rw[ltx,iC]at p9;have nM:gP H9 pM (.lst yo) (cN H9 pM (.lst yo)):=gP.ou hpM;generalize cN H9 pM (.lst yo)=à at nM ⊢;have a6I:Paired (wu à) yo ((xR (DY rs) (fU rs) tb k).map λt=>.tie t.1 t.2):=Paired.cC p9 λ_ _ h=>h.same nM.same;have a7Z:=aM a6I;rw[aJ]at a7Z;have a1P:=s9'.trans nM.same;rw[aJ]at full;exact⟨pS,pM,_,_,Z,Z,a1P _ _ hS,nM.here,(),λp9 H9 n9=>q p9 _ H9 (s6.trans (a1P.trans n9.same)) (s6.free (a1P.free n9.fresh)) n9.here (lK (Paired.cC pS' λ_ _ h=>h.same (a1P.trans n9.same)) (Paired.cC a6I λ_ _ h=>h.same n9.same))⟩
theorem DP(B:Bl mg)(Gs:Dn K mg "_law_laid" lV Dc):∀d:Nat,bw P w K mg base fX (d+1) Gs.f Gs.fd Dc (DN K d)
 |0=>Ÿ Gs
 |d+1=>Ź B Gs d (DP B Gs d)
end K
namespace Srt
open PySem.W PySem.Calls PyProof.Rows PySem.MeetsSeq
abbrev lsO(z:Array Value)(n:Nat):Obj:={ cls:=.type "list",dict:=none,data:=.seq z n,slots:=#[]}
def a2C(z:Array Value)(x:Value)(eq:Nat->Bool)(A:Around)(h:Heap):Prop:=∀s':Shared,s'.heap=h->∀m (hm:m<z.size),SeqAt.EqAt A s' z[m] x (eq m)
def a4D{l:Addr}{z:Array Value}{n:Nat}{x:Value}{eq:Nat->Bool}{j:Nat}(hj:j<z.size)(hit:eq j=true)(hz:z.size<=sizeLine)(k:Nat) :
  ∀i:Nat,j-i=k->i<=j->(∀m (hm:m<z.size),i<=m->m<j->eq m=false)->Meets (Builtin.«list.remove.loop» ⟨[.ref l,x,rawInt i],[]⟩)
   (λA R s=>s.heap.get? l=some (lsO z n)/\a2C z x eq A.in1 s.heap/\R (.ok (.ret .none)) { s with heap:=s.heap.update l (Obj.mapSeq λxs=>xs.eraseIdxIfInBounds j)}):=by
 induction k with
 |zero =>
  intro i hk ij hn prog w A R s h;obtain⟨hp,g,d,tq,os⟩:=s;obtain⟨ol,he,h⟩:=h;obtain rfl:i=j:=()
  wp_walk using iG ol
  have hi:z[((i:Nat):Int).toNat]?=some z[i]:=by simp[hj]
  rw[hi];refine M (he _ Z i hj prog w _ _ ?_);rw[hit];have hz':(z.eraseIdxIfInBounds i).size<=sizeLine+1:=by
   have:=size_erased z i;omega
  wp_walk using (O6 ol Z (hz:=hz) (_hz':=hz')),iG ol
  simpa using h
 |succ k ih =>
  intro i hk ij hn prog w A R s h;obtain⟨hp,g,d,tq,os⟩:=s;obtain⟨ol,he,h⟩:=h;have lb:i<z.size:=()
  wp_walk using iG ol
  have hi:z[((i:Nat):Int).toNat]?=some z[i]:=by simp[lb]
  have ic:((i:Int)+1)=((i+1:Nat):Int):=by push_cast;rfl
  rw[hi];refine M (he _ Z i lb prog w _ _ ?_);rw[hn i lb (aL _) ()]
  wp_walk
  rw[ic];refine⟨mK plain_remove_loop _,j7 entry_remove_loop ?_⟩;rw[lD plain_remove_loop _];exact ih (i+1) () () (λm hm h1 h2=>hn m hm () h2) prog w A R _ ⟨ol,he,h⟩
def a4E{l:Addr}{z:Array Value}{n:Nat}{x:Value}{eq:Nat->Bool}{j:Nat}(hj:j<z.size)(hit:eq j=true)(hn:∀m (hm:m<z.size),m<j->eq m=false)(hz:z.size<=sizeLine) :
  Meets (Builtin.«list.remove» ⟨[.ref l,x],[]⟩) (λA R s=>s.heap.get? l=some (lsO z n)/\a2C z x eq A.in1 s.heap/\R (.ok (.ret .none)) { s with heap:=s.heap.update l (Obj.mapSeq λxs=>xs.eraseIdxIfInBounds j)}):=by
 intro prog w A R s h;obtain⟨hp,g,d,tq,os⟩:=s;obtain⟨ol,he,h⟩:=h
 wp_walk using iG ol
 refine⟨mK plain_remove_loop _,j7 entry_remove_loop ?_⟩;rw[lD plain_remove_loop _];exact a4D hj hit hz _ 0 Z (dh _) (λm hm _ h2=>hn m hm h2) prog w A R _ ⟨ol,he,h⟩
end Srt
namespace L2
open PyProof.Rows
section
variable{X:Cx}{K:aH}
def Q0(K:aH):V->List V->Hp->VK->Prop:=λx vs H Q=>∃l xs y d ds j,x=.ref l/\vs=[y]/\H l=some (.lst xs)/\Le K H y d/\wQ K H xs ds/\SeqAt.shaped d=true/\(∀e∈ds,SeqAt.shaped e=true)/\
 j<xs.length/\PyData.eqv (ds.getD j .none) d=true/\(∀m<j,PyData.eqv (ds.getD m .none) d=false)/\∀H',vo H l (.lst (xs.eraseIdx j)) H'->Q .non H'
def Tg{Y:List (Addr×Obj)}{σ:St}{H:Hp}{s:Shared}(I:bG X Y σ H s):∀{xs:List V}{us:List Value}{ds:List PyData},cP xs us->wQ X.K H xs ds->ds.length=us.length/\∀i,i<us.length->∃as,Reads s.heap (us.getD i .none) (ds.getD i .none) as
 |_,_,_,.nil,.nil=>⟨Z,λi h=>absurd h (Ao _)⟩
 |_,_,_,.cons r t,.cons a b=>by
  obtain⟨e,q⟩:=Tg I t b
  refine⟨by rw[jE,jE,e],λi h=>?_⟩
  cases i with
  |zero=>exact a.reads I r
  |succ i =>
   have:=q i (by simpa using h)
   simpa using this
theorem Ky:∀{xs:List V}{us:List Value} (j:Nat),cP xs us->cP (xs.eraseIdx j) (us.eraseIdx j)
 |_,_,_,.nil=>.nil
 |_,_,0,.cons r t=>t
 |_,_,j+1,.cons r t=>.cons r (Ky j t)
def Ë(hv:X.A.units+65<cLine):Ro X "list.remove" (Q0 X.K):=by
 intro Y s σ H x vs v us Q I rx rv h;obtain⟨l,xs,y,d,ds,j,rfl,rfl,hH,hd,hds,sd,sds,hj,hit,hn,q⟩:=h;cases rx;obtain⟨u,rfl,ru⟩:=vals1 rv;obtain⟨z,b7,n,r,ol,e⟩:=I.VG hH;have hlen:=r.length;obtain⟨as,ra⟩:=hd.reads I ru;obtain⟨el,rs⟩:=Tg I r hds;have hjz:j<b7.toArray.size:=by rw[iB];omega
 refine En F.slot_list_remove ⟨_,e,Z⟩ F.entry_list_remove (F.args_list_remove_2 _ _) (Srt.a4E (z:=b7.toArray) (eq:=λm=>PyData.eqv (ds.getD m .none) d) hjz hit (λm _ hm=>hn m hm) (by rw[iB];omega)) ⟨e,λs' es m hm=>?_,?_⟩
 ·have hm':m<b7.length:=by simpa using hm
  obtain⟨bs,rb⟩:=rs m hm';have eg:b7.getD m .none=b7.toArray[m]:=by simp[hm']
  rw[eg]at rb;have sm:SeqAt.shaped (ds.getD m .none)=true:=sds _ (by rw[fV,bH ()];exact qx _);rw[<-es]at rb ra;exact SeqAt.eqAt_reads _ _ _ _ _ _ _ _ rb ra (Ad sm) (Ad sd) (SeqAt.room_of_shaped sm hv)
 ·refine⟨.non,_,I.a0p (its':=b7.eraseIdx j) hH e ?_ (Ky j r) ?_,Z,q _ vo.ou⟩
  ·simp[Array.eraseIdxIfInBounds];omega
  ·have:=List.length_eraseIdx_le xs j;omega
def WT(e:X.K=K)(hv:X.A.units+65<cLine):Ro X "list.remove" (Q0 K):=by subst e;exact Ë hv
end
end L2
namespace K
open L2 Lw Bg
namespace Go
section
variable{n:Nat}{ts:List bW}{ss:List bZ}
structure ż(n:Nat)(ts:List bW)(ss:List bZ):Prop where
 cV:n<=10
 go:∀i,i<=ss.length->(aW n ts ss i).2=true
 sb:∀(k:Nat) (s:bZ),ss[k]?=some s->StB n ts ss k s
 se:∀(k:Nat) (s:bZ),ss[k]?=some s->StE n ts ss k s
 last:∀j∈(aW n ts ss ss.length).1.pile,gH n ts ss j=[]
 ties:∀t∈ts,bZ.tie t.1 t.2∈ss
set_option tactic.hygienic true in
def a2D(cV:n<=10)(qg:BX n ts ss (cD n ts ss)=.ok):ż n ts ss:=by
 have go:=ŝ cV qg;refine⟨cV,go,λk s h=>a1E (Bx go cV h),λk s h=>Bx go cV h,λj hj=>?_,λt ht=>?_⟩
 ·unfold BX at qg;split at qg
  ·cases qg
  ·split at qg
   ·rename_i e;have:gH n ts ss j∈M8 (cD n ts ss):=dW.mpr ⟨j,hj,Z⟩;rw[e]at this;exact bJ.mp this
   ·cases qg
 ·unfold BX at qg;split at qg
  ·cases qg
  ·split at qg
   ·split at qg
    ·cases qg
    ·split at qg
     ·cases qg
     ·rename_i e;have:=Eg.mp e t ht;simpa using this
   ·cases qg
end
end Go
namespace Up
def Ib(s:bZ){i:Nat}(hi:i<5):decide (V.str s.word=V.str (Gn i))=decide (s.tag=i):=by
 have h:=JN s.tag (Wn s) i hi;rw[JQ];by_cases c:s.tag=i
 ·rw[c,bL Z,bL rfl]
 ·rw[cW c]at h ⊢;refine cW λz=>?_;have e:=V.str.inj z;rw[e]at h;simp at h
def Ž(s:bZ):decide (V.str s.word=V.str "leaf")=decide (s.tag=0):=Ib s (i:=0) ()
def a4F(s:bZ):decide (V.str s.word=V.str "in")=decide (s.tag=1):=Ib s (i:=1) ()
def a6J(s:bZ):decide (V.str s.word=V.str "out")=decide (s.tag=3):=Ib s (i:=3) ()
def a4G(s:bZ):decide (V.str s.word=V.str "join")=decide (s.tag=4):=Ib s (i:=4) ()
end Up
def WW{n:Nat}(cV:n<=10){b zs:List Int}{v:Int}(ab:b.Pairwise (· < ·))(hb:∀v∈b,0<=v/\v<(n:Int))(v0:0<=v)(vn:v<(n:Int))(nv:v∉b)(pz:zs.Perm (b++[v]))(sz:zs.Pairwise (· <= ·)):zs=fL b [v]:=by
 have nd:zs.Nodup:=pz.nodup_iff.mpr (uZ.mpr ⟨Go.Aa ab,xV _ _,λx hx y hy e=>nv (by rw[<-bJ.mp hy,<-e];exact hx)⟩);have az:zs.Pairwise (· < ·):=(List.pairwise_and_iff.mpr ⟨sz,nd⟩).imp λh=>by omega
 refine Go.wY az (Go.wZ _) λx=>?_;rw[pz.mem_iff,cJ];exact(Go.nZ cV hb λy hy=>by rw[bJ.mp hy];exact⟨v0,vn⟩).symm
def WX(F:List Int)(k:Nat):(F.map V.int).eraseIdx k=(F.eraseIdx k).map V.int:=by
 induction F generalizing k with
 |nil=>rfl
 |cons x r ih =>
  cases k with
  |zero=>rfl
  |succ k =>
   show V.int x::(r.map V.int).eraseIdx k=V.int x::(r.eraseIdx k).map V.int;rw[ih]
def a1Q{K:aH}{H:Hp}{l:Addr}{T:List Int}{v:Int}{Q:VK}(hl:H l=some (.lst (T.map V.int)))(c:v∈T)(q:∀H',vo H l (.lst ((T.erase v).map V.int)) H'->Q .non H'):Q0 K (.ref l) [.int v] H Q:=by
 have jl:=NT c;have e1:=List.erase_eq_eraseIdx_of_idxOf (l:=T) (a:=v) (i:=T.idxOf v) rfl;have eg:∀m,m<T.length->(T.map PyData.int).getD m .none=.int (T.getD m 0):=λm hm=>by
  rw[fV,fK,bH hm,fV,bH hm];rfl
 refine⟨l,_,_,.int v,T.map PyData.int,T.idxOf v,Z,Z,hl,.int v,wQ.ints T,Z,λe he=>?_,by rw[aJ];exact jl,?_,λm hm=>?_,λH' ch=>q H' ?_⟩
 ·obtain⟨z,_,rfl⟩:=dW.mp he;rfl
 ·rw[eg _ jl,fV,bH jl,U7,List.getElem_idxOf jl,PyData.eqv];exact O4 v
 ·have ml:m<T.length:=()
  have:=List.not_of_lt_findIdx (p:=λx=>x==v) (xs:=T) (i:=m) hm;rw[eg _ ml,fV,bH ml,U7,PyData.eqv];simpa using this
 ·rw[WX,<-e1]at ch;exact ch
abbrev uV:Stmt:=top 44
def gB:bD ["_law_steps","_law_pile","_law_tops_here","_law_aheads","_law_k","_law_ahead","_law_bag"] ["_law_steps"] (aB uV):={}
def WY{B:List Int}{v:Int}(nd:B.Nodup):B.erase v=nY B [v]:=by
 rw[nd.erase_eq_filter];refine List.filter_congr λx _=>?_;by_cases c:x=v<;>simp[bne,c]
def NI(j:Nat):V:=.int (j:Int)
def ahF(fd:List Nat):V:=match fd.getLast? with
 |some j=>.int (j:Int)
 |none=>.non
def ubF(n:Nat)(ts:List bW)(ss:List bZ)(fd:List Nat):List Int:=match fd.getLast? with
 |some j=>Go.gH n ts ss j
 |none=>[]
def TpL(L:List Addr)(H:Hp)(v:V)(b:List Int):Prop:=∃p,v=.ref p/\H p=some (.lst (b.map V.int))/\p∉L
def TpL.chg{L:List Addr}{H H':Hp}{v:V}{b:List Int}{a:Addr}{o:HO}(m:a∈L)(c:vo H a o H')(h:TpL L H v b):TpL L H' v b:=by
 obtain⟨p,e,h1,h2⟩:=h;exact⟨p,e,(c.rest p λz=>h2 (by rw[z];exact m)).trans h1,h2⟩
def a1R(H:Hp)(pS pp pt pa:Addr)(n:Nat)(ts:List bW)(ss:List bZ)(i:Nat)(pl:List Nat)(b:List Int)(ah:V)(σ:St)(G:Hp):Prop:=∃(pb:Addr) (tx:List V),σ=[some (.ref pS),some (.ref pp),some (.ref pt),some (.ref pa),some (.int (i:Int)),some ah,some (.ref pb)]/\aK H G/\G pp=some (.lst (pl.map NI))/\G pt=some (.lst tx)/\Paired (TpL [pp,pt,pa,pb] G) tx ((List.range i).map (Go.gH n ts ss))/\G pa=some (.lst ((List.range i).map λk=>ahF (Go.qX n ts ss k)))/\G pb=some (.lst (b.map V.int))/\H pb=none/\pb≠pp/\pb≠pt/\pb≠pa
def a6K(H:Hp)(pS pp pt pa:Addr)(n:Nat)(ts:List bW)(ss:List bZ)(i:Nat)(σ:St)(G:Hp):Prop:=∃(tx:List V) (o4 o5 o6:Option V),σ=[some (.ref pS),some (.ref pp),some (.ref pt),some (.ref pa),o4,o5,o6]/\aK H G/\G pp=some (.lst ((aW n ts ss i).1.pile.map NI))/\G pt=some (.lst tx)/\Paired (TpL [pp,pt,pa] G) tx ((List.range i).map (Go.gH n ts ss))/\G pa=some (.lst ((List.range i).map λk=>ahF (Go.qX n ts ss k)))
inductive ž(vs:List V)(H:Hp)(Q:VK)(u_3:XK):Prop
 |mk (pS:Addr) (xs:List V) (ss:List bZ) (n:Nat) (ts:List bW) (_:vs=[.ref pS]) (_:H pS=some (.lst xs)) (_:Paired (wu H) xs ss) (_:ss.length<=800) (_:Go.ż n ts ss) (_:∀r pt pa tx H',aK H H'->H' r=some (.lst [.ref pt,.ref pa])->H' pt=some (.lst tx)->Paired (TpL [] H') tx ((List.range ss.length).map (Go.gH n ts ss))->H' pa=some (.lst ((List.range ss.length).map λk=>ahF (Go.qX n ts ss k)))->Q (.ref r) H')
section
variable{P:Program}{w:World}{K:aH}{mg:Str->Option Value}{base:Heap}
abbrev DZ7(K:PySem.W.Frag)(mg:Str->Option Value):=Dn K mg "_law_tops" uV ["_law_steps"]
def Q5(B:Bl mg)(Ì:DZ7 K mg):bw P w K mg base fX 1 Ì.f Ì.fd ["_law_steps"] ž:=by
 exists Ì.F.ok gB;obtain⟨pS,xs,ss,n,ts,rfl,hS,qS,l8,R,q⟩:=h;have hv:(A.deeper (PyProof.Rows.envOfC "_law_tops" (aB uV) s⁻¹ Ì.f dz)).units+65<cLine:=by have:=hr.un;omega
 refine⟨_,(aG (bK 1 gB.nd (cH aj))
   (aG (bK 2 gB.nd (cH aj))
   (aG (bK 3 gB.nd (cH aj))
   (aG (jo iR Z (iY Z B.range (O (bh (cG (K:=K) Z) Z B.len () (O (pv 0) aj)) aj)) (aN 4 gB.nd)
   (aG (bK 5 gB.nd sy)
   (aG (bK 6 gB.nd (cH aj))
   (qP (dZ (aP Ji (aR (aV (K:=K) Z) (aR (bA (K:=K) Z) (pv 0) (pv 4)) aA) gq)
   (aG (bK 5 gB.nd (qO (K:=K) Z kZ Um Uo Hx (pv 1)))
   (aD (bK 6 gB.nd (jG (wU (K:=K) Z) Z B.list () (O (aR (bA (K:=K) Z) (pv 2) (pv 5)) aj)))))
   bT)
   (qP (dZ (aP oH (aR (aV (K:=K) Z) (aR (bA (K:=K) Z) (pv 0) (pv 4)) aA) gq)
   (aD (gJ (qO (K:=K) Z kZ Um Uo Hx (pv 1))))
   bT)
   (qP (dZ (aP oH (aR (aV (K:=K) Z) (aR (bA (K:=K) Z) (pv 0) (pv 4)) aA) gq)
   (aD (bK 6 gB.nd (bh (CT (K:=K) Z) Z B.sorted () (O (bQ qQ (pv 6) (cH (O (aR (aV (K:=K) Z) (aR (bA (K:=K) Z) (pv 0) (pv 4)) aA) aj))) aj))))
   bT)
   (qP (dZ (aP oH (aR (aV (K:=K) Z) (aR (bA (K:=K) Z) (pv 0) (pv 4)) aA) gq)
   (aD (gJ (oK (K:=K) Z kZ PySem.F.slot_list_remove PySem.F.type_list_remove (WT (K:=K) Z hv) (pv 6) (O (aR (aV (K:=K) Z) (aR (bA (K:=K) Z) (pv 0) (pv 4)) aA) aj))))
   bT)
   (aG (gJ (oK (K:=K) Z kZ PySem.F.slot_list_append PySem.F.type_list_append jO (pv 2) (O (pv 6) aj)))
   (aG (gJ (oK (K:=K) Z kZ PySem.F.slot_list_append PySem.F.type_list_append jO (pv 3) (O (pv 5) aj)))
   (aD (gJ (oK (K:=K) Z kZ PySem.F.slot_list_append PySem.F.type_list_append jO (pv 1) (O (pv 4) aj)))))))))))))
   (aD (bF (cH (O (pv 2) (O (pv 3) aj))))))))),?_⟩
 refine⟨(),λpp H1 n1=>⟨(),λpt H2 n2=>⟨(),λpa H3 n3=>?_⟩⟩⟩;have s3:=n1.same.trans (n2.same.trans n3.same);have fpp:H pp=none:=n1.fresh;have fpt:H pt=none:=n1.same.free n2.fresh;have fpa:H pa=none:=(n1.same.trans n2.same).free n3.fresh;have lx:=aM qS;have tp:=Go.S5 R.cV R.sb;have tpp:pt≠pp:=λz=>by have:=n2.fresh;rw[z,n1.here]at this;cases this
 have app:pa≠pp:=λz=>by have:=n3.fresh;rw[z,n2.same _ _ n1.here]at this;cases this
 have apt:pa≠pt:=λz=>by have:=n3.fresh;rw[z,n2.here]at this;cases this
 refine⟨_,Z,pS,_,Z,.inl (bC.of (s3 _ _ hS)),_,Z,(),(),?_⟩;rw[jD];refine qz (n:=xs.length) (λi σ G=>a6K H pS pp pt pa n ts ss i σ G) ⟨[],_,_,_,Z,s3,n3.same _ _ (n2.same _ _ n1.here),n3.same _ _ n2.here,.nil,n3.here⟩ ?_ ?_
 ·rintro i σ G0 hi ⟨tx,o4,o5,o6,rfl,sG0,W3,a1S,pT0,Α⟩;rw[show(0:Int)+(i:Int)=(i:Int) by omega];have kl:i<ss.length:=()
  have hs:=bH kl;have SB:=R.sb i _ hs;have SE:=R.se i _ hs;obtain⟨vx,Β,TY,rfl,hst⟩:=cM qS hs;have split:=uY (dR ss[i] (aW n ts ss i).1) (aW n ts ss i).1.pile;rw[<-SE.feed]at split;have pil:=SE.pile;have lpl:=(jA R.cV (R.go (i+1) ())).pl;have lp0:=(jA R.cV (R.go i ())).pl;rw[pil,cA,Ae]at lpl;generalize (aW n ts ss i).1.pile.take (dR ss[i] (aW n ts ss i).1)=vI at split pil lpl;generalize ss[i]=st at hs SB hst;rw[<-split]at W3;refine⟨(),λpb G1 m1=>?_⟩;have Tj:pb≠pp:=λz=>by have:=m1.fresh;rw[z,W3]at this;cases this
  have T5:pb≠pt:=λz=>by have:=m1.fresh;rw[z,a1S]at this;cases this
  have T6:pb≠pa:=λz=>by have:=m1.fresh;rw[z,Α]at this;cases this
  have T3:=sG0.trans m1.same;have small:∀{b:List Int},(∃j,j<ss.length/\b=Go.gH n ts ss j)->b.length<=10:=λ⟨j,hj,e⟩=>by rw[e];exact a2z R.cV (Go.Aa (tp j hj).1) (tp j hj).2
  refine⟨λσ' G'=>a1R H pS pp pt pa n ts ss i (vI++(Go.qX n ts ss i).dropLast) (ubF n ts ss (Go.qX n ts ss i)) (ahF (Go.qX n ts ss i)) σ' G',?_,?_⟩
  ·refine⟨_,Z,_,Z,pS,_,_,_,Z,Z,bC.of (T3 _ _ hS),bR Β,TY,st.vs,0,.str st.word,Z,Z,cO.of (T3 _ _ hst),uP st,Z,_,Z,?_⟩;rw[Up.Ž];by_cases c0:st.tag=0
   ·rw[bL c0];have ef:Go.qX n ts ss i=[]:=by cases SB<;>first|assumption|cases c0
    rw[ef];rw[ef]at W3;refine cX ⟨pb,tx,Z,T3,m1.same _ _ W3,m1.same _ _ a1S,Paired.cC pT0 λ_ _ z=>?_,m1.same _ _ Α,m1.here,sG0.free m1.fresh,Tj,T5,T6⟩;obtain⟨p,e,h1,h2⟩:=z;exact⟨p,e,m1.same _ _ h1,λz=>by
     rcases cJ.mp (show p∈[pp,pt,pa]++[pb]from z)with z|z
     ·exact h2 z
     ·have:=m1.fresh;rw[<-bJ.mp z,h1]at this;cases this⟩
   ·rw[cW c0];obtain⟨f0,j,ef,lt⟩:∃f0 j,Go.qX n ts ss i=f0++[j]/\j<i:=by
     cases SB with
     |leaf=>exact absurd Z c0
     | @inn i' v ef lt=>exact⟨[],i',ef,lt⟩
     | @tie i' a b ef lt=>exact⟨[],i',ef,lt⟩
     | @out i' v ef lt=>exact⟨[],i',ef,lt⟩
     | @join i' j' ef lt lt'=>exact⟨[i'],j',ef,lt'⟩
    have e1:(Go.qX n ts ss i).dropLast=f0:=by rw[ef,Eb]
    have e2:ubF n ts ss (Go.qX n ts ss i)=Go.gH n ts ss j:=by unfold ubF;rw[ef,Oi]
    have e3:ahF (Go.qX n ts ss i)=NI j:=by unfold ahF;rw[ef,Oi];rfl
    rw[e1,e2,e3];rw[ef,<-xY,dH]at W3;have a6L:G1 pp=some (.lst ((vI++f0).map NI++[NI j])):=m1.same _ _ W3;have htj:((List.range i).map (Go.gH n ts ss))[j]?=some (Go.gH n ts ss j):=by rw[fK,Ol lt];rfl
    obtain⟨vj,hvj,pj,rfl,hpj,npj⟩:=cM pT0 htj;refine iM ⟨_,Z,.inl ⟨Z,_,bC.of a6L⟩,pp,_,NI j,Z,Z,a6L,λG2 c2=>?_⟩;have a4H:G2 pt=some (.lst tx):=(c2.rest pt tpp).trans (m1.same _ _ a1S);have a70:G2 pj=some (.lst ((Go.gH n ts ss j).map V.int)):=(c2.rest pj λz=>npj (by rw[z];exact aO)).trans (m1.same _ _ hpj);refine⟨_,Z,_,Z,pt,_,_,_,Z,Z,bC.of a4H,bR hvj,pj,_,Z,.inl (bC.of a70),λp3 G3 m3=>?_⟩;have s2:=T3.chg fpp c2;have fp3:=s2.free m3.fresh;refine⟨p3,tx,Z,s2.trans m3.same,m3.same _ _ c2.here,m3.same _ _ a4H,Paired.cC pT0 λ_ _ z=>?_,m3.same _ _ ((c2.rest pa app).trans (m1.same _ _ Α)),m3.here,fp3,?_,?_,?_⟩
    ·obtain⟨p,e,h1,h2⟩:=z;have h3:G2 p=_:=(c2.rest p λz=>h2 (by rw[z];exact aO)).trans (m1.same _ _ h1);exact⟨p,e,m3.same _ _ h3,λz=>by
      rcases cJ.mp (show p∈[pp,pt,pa]++[p3]from z)with z|z
      ·exact h2 z
      ·have:=m3.fresh;rw[<-bJ.mp z,h3]at this;cases this⟩
    ·intro z;have:=m3.fresh;rw[z,c2.here]at this;cases this
    ·intro z;have:=m3.fresh;rw[z,a4H]at this;cases this
    ·intro z;have:=m3.fresh;rw[z,(c2.rest pa app).trans (m1.same _ _ Α)]at this;cases this
  clear W3 a1S pT0 Α m1 T3 Tj T5 T6;rintro σ1 G ⟨pb,tx,rfl,sG,DW,hpt,pT,hpa,hb,fb,Tj,T5,T6⟩;refine⟨λσ' G'=>a1R H pS pp pt pa n ts ss i vI (ubF n ts ss (Go.qX n ts ss i)) (ahF (Go.qX n ts ss i)) σ' G',?_,?_⟩
  ·refine⟨_,Z,_,Z,pS,_,_,_,Z,Z,bC.of (sG _ _ hS),bR Β,TY,st.vs,0,.str st.word,Z,Z,cO.of (sG _ _ hst),uP st,Z,_,Z,?_⟩;rw[Up.a4G];by_cases c0:st.tag=4
   ·rw[bL c0];obtain⟨i',ed⟩:∃i',(Go.qX n ts ss i).dropLast=[i']:=by
     cases SB with
     | @join i' j' ef=>exact⟨i',by rw[ef];rfl⟩
     |_=>cases c0
    rw[ed,dH]at DW;exact iM ⟨_,Z,.inl ⟨Z,_,bC.of DW⟩,pp,_,NI i',Z,Z,DW,λG2 c2=>⟨pb,tx,Z,sG.chg fpp c2,c2.here,(c2.rest pt tpp).trans hpt,Paired.cC pT λ_ _ z=>z.chg aO c2,(c2.rest pa app).trans hpa,(c2.rest pb Tj).trans hb,fb,Tj,T5,T6⟩⟩
   ·rw[cW c0];have ed:(Go.qX n ts ss i).dropLast=[]:=by
     cases SB with
     |join=>exact absurd Z c0
     |leaf ef=>rw[ef];rfl
     |inn ef=>rw[ef];rfl
     |tie ef=>rw[ef];rfl
     |out ef=>rw[ef];rfl
    rw[ed,nC]at DW;exact cX ⟨pb,tx,Z,sG,DW,hpt,pT,hpa,hb,fb,Tj,T5,T6⟩
  clear DW hpt pT hpa hb sG Tj T5 T6 fb;rintro σ1 G ⟨pb,tx,rfl,sG,DW,hpt,pT,hpa,hb,fb,Tj,T5,T6⟩;have lub:(ubF n ts ss (Go.qX n ts ss i)).length<=10:=by
   unfold ubF;cases eg:(Go.qX n ts ss i).getLast? with
   |none=>exact dh _
   |some j=>exact small ⟨j,vd (SE.lt j (List.mem_of_getLast? eg)) kl,Z⟩
  refine⟨λσ' G'=>a1R H pS pp pt pa n ts ss i vI (if st.tag=1 then Go.gH n ts ss i else ubF n ts ss (Go.qX n ts ss i)) (ahF (Go.qX n ts ss i)) σ' G',?_,?_⟩
  ·refine⟨_,Z,_,Z,pS,_,_,_,Z,Z,bC.of (sG _ _ hS),bR Β,TY,st.vs,0,.str st.word,Z,Z,cO.of (sG _ _ hst),uP st,Z,_,Z,?_⟩;rw[Up.a4F];by_cases c0:st.tag=1
   ·rw[bL c0,aF c0];obtain⟨v,i',rfl,eu,lt,v0,vn,nv,et⟩:∃v i',st=.inn v/\ubF n ts ss (Go.qX n ts ss i)=Go.gH n ts ss i'/\i'<i/\0<=v/\v<(n:Int)/\v∉Go.gH n ts ss i'/\Go.gH n ts ss i=fL (Go.gH n ts ss i') [v]:=by
     cases SB with
     | @inn i' v ef lt v0 vn nv et=>exact⟨v,i',Z,by rw[ef];rfl,lt,v0,vn,nv,et⟩
     |_=>cases c0
    rw[eu]at hb lub;refine iM ⟨_,Z,_,Z,_,Z,pS,_,_,_,Z,Z,bC.of (sG _ _ hS),bR Β,TY,_,1,.int v,Z,Z,cO.of (sG _ _ hst),Z,(),λp1 G1 m1=>?_⟩;refine⟨pb,p1,_,_,Z,Z,m1.same _ _ hb,m1.here,(by rw[aJ];show _+1<=1000;omega),λp2 G2 m2=>?_⟩;refine⟨p2,(Go.gH n ts ss i')++[v],Z,bC.of (by rw[m2.here,dH];rfl),(by rw[cA];show _+1<64;omega),λp3 G3 zs m3 pz sz=>?_⟩;have ez:=WW R.cV (tp i' ()).1 (tp i' ()).2 v0 vn nv pz sz;rw[ez,<-et]at m3;have s3:=m1.same.trans (m2.same.trans m3.same);have s2:=m1.same.trans m2.same;have ne:∀{p:Addr}{o:HO},G p=some o->p3≠p:=λh z=>by have:=m3.fresh;rw[z,s2 _ _ h]at this;cases this
    refine⟨p3,tx,Z,sG.trans s3,s3 _ _ DW,s3 _ _ hpt,Paired.cC pT λ_ _ z=>?_,s3 _ _ hpa,m3.here,(sG.trans s2).free m3.fresh,ne DW,ne hpt,ne hpa⟩;obtain⟨p,e,h1,h2⟩:=z;refine⟨p,e,s3 _ _ h1,λz=>?_⟩;rcases cJ.mp (show p∈[pp,pt,pa]++[p3]from z)with z|z
    ·exact h2 (rW [pb] z)
    ·exact ne h1 (bJ.mp z).symm
   ·rw[cW c0,aq c0];exact cX ⟨pb,tx,Z,sG,DW,hpt,pT,hpa,hb,fb,Tj,T5,T6⟩
  clear DW hpt pT hpa hb sG Tj T5 T6 fb;rintro σ1 G ⟨pb,tx,rfl,sG,DW,hpt,pT,hpa,hb,fb,Tj,T5,T6⟩;refine⟨λσ' G'=>a1R H pS pp pt pa n ts ss i vI (Go.gH n ts ss i) (ahF (Go.qX n ts ss i)) σ' G',?_,?_⟩
  ·refine⟨_,Z,_,Z,pS,_,_,_,Z,Z,bC.of (sG _ _ hS),bR Β,TY,st.vs,0,.str st.word,Z,Z,cO.of (sG _ _ hst),uP st,Z,_,Z,?_⟩;rw[Up.a6J];by_cases c0:st.tag=3
   ·rw[bL c0];obtain⟨v,i',rfl,eu,lt,mv,et⟩:∃v i',st=.out v/\ubF n ts ss (Go.qX n ts ss i)=Go.gH n ts ss i'/\i'<i/\v∈Go.gH n ts ss i'/\Go.gH n ts ss i=nY (Go.gH n ts ss i') [v]:=by
     cases SB with
     | @out i' v ef lt mv et=>exact⟨v,i',Z,by rw[ef];rfl,lt,mv,et⟩
     |_=>cases c0
    rw[aq (by show ¬3=1;decide),eu]at hb;refine iM ⟨_,Z,.inl ⟨Z,_,bC.of hb⟩,_,Z,_,Z,pS,_,_,_,Z,Z,bC.of (sG _ _ hS),bR Β,TY,_,1,.int v,Z,Z,cO.of (sG _ _ hst),Z,?_⟩;dsimp only[a0i];refine a1Q hb mv λG2 c2=>?_;rw[WY (Go.Aa (tp i' ()).1),<-et]at c2;exact⟨pb,tx,Z,sG.chg fb c2,(c2.rest pp Tj.symm).trans DW,(c2.rest pt T5.symm).trans hpt,Paired.cC pT λ_ _ z=>z.chg (aY _ (aY _ (aY _ aO))) c2,(c2.rest pa T6.symm).trans hpa,c2.here,fb,Tj,T5,T6⟩
   ·rw[cW c0];have eb:(if st.tag=1 then Go.gH n ts ss i else ubF n ts ss (Go.qX n ts ss i))=Go.gH n ts ss i:=by
     cases SB with
     |leaf ef et=>rw[ef,et];rfl
     |inn=>rfl
     |tie ef lt _ _ _ et=>rw[ef,et];rfl
     |out=>exact absurd Z c0
     |join ef lt lt' e1 et=>rw[ef,et,e1];rfl
    rw[eb]at hb;exact cX ⟨pb,tx,Z,sG,DW,hpt,pT,hpa,hb,fb,Tj,T5,T6⟩
  clear DW hpt pT hpa hb sG Tj T5 T6 fb;rintro σ1 G ⟨pb,tx,rfl,sG,DW,hpt,pT,hpa,hb,fb,Tj,T5,T6⟩;have lt0:tx.length=i:=by rw[aM pT,aJ,qu]
  refine⟨_,Z,.inl ⟨Z,_,bC.of hpt⟩,_,Z,pt,_,_,Z,Z,hpt,(),λG1 c1=>?_⟩;refine⟨_,Z,.inl ⟨Z,_,bC.of ((c1.rest pa apt).trans hpa)⟩,_,Z,pa,_,_,Z,Z,(c1.rest pa apt).trans hpa,(by rw[aJ,qu];omega),λG2 c2=>?_⟩;refine⟨_,Z,.inl ⟨Z,_,bC.of ((c2.rest pp app.symm).trans ((c1.rest pp tpp.symm).trans DW))⟩,_,Z,pp,_,_,Z,Z,(c2.rest pp app.symm).trans ((c1.rest pp tpp.symm).trans DW),(by rw[aJ];omega),λG3 c3=>?_⟩;refine⟨tx++[.ref pb],_,_,_,Z,((sG.chg fpt c1).chg fpa c2).chg fpp c3,?_,(c3.rest pt tpp).trans ((c2.rest pt apt.symm).trans c1.here),?_,?_⟩
  ·rw[c3.here,pil,dH];rfl
  ·rw[u5,dH];have go:∀{v b},TpL [pp,pt,pa] G v b->TpL [pp,pt,pa] G3 v b:=λz=>((z.chg (aY _ aO) c1).chg (aY _ (aY _ aO)) c2).chg aO c3;refine cZ (Paired.cC pT λ_ _ z=>go ?_) (go ⟨pb,Z,hb,?_⟩)
   ·obtain⟨p,e,h1,h2⟩:=z;exact⟨p,e,h1,λz=>h2 (rW [pb] z)⟩
   ·intro z;rcases cB.mp z with z|z
    ·exact Tj z
    ·rcases cB.mp z with z|z
     ·exact T5 z
     ·exact T6 (bJ.mp z)
  ·rw[(c3.rest pa app).trans c2.here,u5,dH];rfl
 ·rintro σ G ⟨tx,o4,o5,o6,rfl,sG,DW,hpt,pT,hpa⟩;rw[show xs.length=ss.length from lx]at pT hpa;refine⟨_,Z,_,Z,(),λr G2 m2=>?_⟩;exact q r pt pa tx G2 (sG.trans m2.same) m2.here (m2.same _ _ hpt) (Paired.cC pT λ_ _ z=>by
   obtain⟨p,e,h1,_⟩:=z;exact⟨p,e,m2.same _ _ h1,eN⟩) (m2.same _ _ hpa)
end
end K
namespace Dl
open PyProof.Rows
variable{prog:Program}{w:World}{A:Around}{E:Value->Shared->Prop}{s:Shared}
def Δ(b:Addr)(nb:(b==sysModules)=false):MeetsIn prog w (Builtin.«dict.__len__» ⟨[.ref b],[]⟩) (λ_ R t=>∃(u:Obj) (xs:Array DictEntry) (q:Nat),t.heap.get? b=some u/\u.data=.dict xs q/\R (.ok (.ret (.int ((xs.size:Nat):Int) t.toks))) { t with toks:=t.toks+1}) :=
 .of_wp λA' R t ⟨u,xs,q,hb,hx,k⟩=>by
  show wpAny _ _ (dictSize b >>= _) _ _ t;unfold dictSize;refine M (M (mH hb hx (ao ?zz)))
  case zz =>
   show wpAny _ _ (Builtin.Dict.pendingCount b >>= _) _ _ t;refine M (wpAny_pendingCount_other nb ?yy)
   case yy =>
    refine Va ?xx
    case xx=>rw[Nat.add_zero];exact k
def a1T{b:Addr}{u:Obj}{xs:Array DictEntry}{q:Nat}{Q:Value->Shared->Prop}(nb:(b==sysModules)=false)(hT:s.TypeIs (.ref b) "dict")(hb:s.heap.get? b=some u)(hx:u.data=.dict xs q)(few:((xs.size:Nat):Int)<2^63)
  (k:Q (.int ((xs.size:Nat):Int) (s.toks+1)) { s with toks:=s.toks+1+1}):wpAny (model prog w) A (call (.builtin "len") [.ref b]) Q E s:=by
 refine T9 kind_len plain_len entry_len (args_len1 _) ?aa
 case aa =>
  unfold Builtin.«len»;refine M (m:=oneArg "len" _) (ao ?bb)
  case bb =>
   refine M (m:=callSpecial? (.ref b) (Str.ofString "__len__")) (mZ (name:=Str.ofString "__len__") hT F.slot_dict_len (El F.slot_dict_len hT F.entry_dict_len (F.args_dict_len_1 _) (Δ b nb) ⟨u,xs,q,hb,hx,?cc⟩))
   case cc =>
    show wpAny _ _ _ _ _ { s with toks:=s.toks+1};refine M (eU (ao ?dd))
    case dd =>
     refine M (wI ?ee)
     case ee =>
      show wpAny _ _ (if((xs.size:Nat):Int)<0 then _ else _) _ _ _;rw[aq ()];show wpAny _ _ (if((xs.size:Nat):Int)>=2^63 then _ else _) _ _ _;rw[aq ()];exact M (wpAny_mkInt (ao ⟨_,Z,k⟩))
end Dl
namespace L2
open PyProof.Rows
section
variable{X:Cx}{K:aH}
inductive a4I(K:aH)(x:V)(y:V)(H:Hp)(Q:VK):Prop
 |mk (a b xs ys:_) (_:x=.ref a) (_:y=.ref b) (_:cO K H a xs) (_:cO K H b ys) (_:ys≠[]) (_:xs.length+ys.length<=1000) (_:∀p H',aK H H'->cO K H' p (xs++ys)->Q (.ref p) H')
def Ε(e:X.K=K):rz X (binaryOp .Add) (a4I K):=by
 subst e;symm;obtain⟨a,b,xs,ys,rfl,rfl,ha,hb,ny,hz,q⟩:=h;by_cases c:xs=[]
 ·cases rx;cases ry;obtain⟨b7,r1,p1,_⟩:=I.tuple ha;obtain⟨its2,r2,p2,_⟩:=I.tuple hb;obtain⟨⟨cls,dd,data,sl⟩,ho,hc,n,hd⟩:=id p1;obtain⟨⟨cls2,dd2,data2,sl2⟩,ho2,hc2,n2,hd2⟩:=id p2;simp only at hc hd hc2 hd2;subst hc hd hc2 hd2;exact Ph ⟨_,ho,Z⟩ ⟨_,ho2,Z⟩ Ow Pa Ob N7 (N5 _ _)
   (tuple_addW0 a b b7.toArray its2.toArray n n2 dd dd2 sl sl2 (by simp[r1.Cg.mpr c])) ⟨ho,ho2,⟨.ref b,H,I,Z,q b H (aK.refl _) (by rw[c];exact hb)⟩⟩
 ·exact Š Z Y s σ H _ _ v u Q I rx ry ⟨a,b,xs,ys,Z,Z,ha,hb,c,ny,hz,λp H' n=>q p H' n.same (cO.of n.here)⟩
end
end L2
namespace K
open L2 Lw Bg
variable{K:aH}{s:dO}
abbrev w5:Stmt:=top 45
def Mh:bD ["_law_one"] ["_law_one"] (aB w5):={}
abbrev jZ:Stmt:=top 46
def pY:bD ["_law_found","_law_size","_law_state","_law_row","_law_one"] R6 (aB jZ):={}
def a2E:PySem.W.kitOne K (.type "tuple") (.type "tuple")=some true:=by rfl
def a6M:PySem.W.kitOne K (.type "dict") (.type "dict")=some true:=by rfl
inductive W4(vs:List V)(H:Hp)(Q:VK)(u_3:XK):Prop
 |mk (t:Addr) (m:Nat) (J:List (List Key×V)) (T:cI) (_:vs=[.ref t,.int m]) (_:H t=some (.dT J)) (_:xQ H J T) (_:(∀x∈T,x.1.length=m)) (_:m<=10) (_:T.length<=900) (_:∀H',aK H H'->Q (.bl true) H')
section
variable{P:Program}{w:World}{mg:Str->Option Value}{base:Heap}
abbrev DZ8(K:PySem.W.Frag)(mg:Str->Option Value):=Dn K mg "_law_whole" w5 ["_law_one"]
def Mi(B:Bl mg)(YC:DZ8 K mg):bw P w K mg base fX 1 YC.f YC.fd ["_law_one"] (λvs H Q _=>∃z:Int,vs=[.int z]/\Q (.bl true) H):=by
 exists YC.F.ok Mh;obtain⟨z,rfl,q⟩:=h;exact⟨_,(aD (bF (Pz (bh (jb (K:=K) Z) Z B.isinstance () (O (pv 0) (O (uJ (v:=.ty "int") (u:=.type "int") Z B.int () Z) aj))) (Py (ú (bh (jb (K:=K) Z) Z B.isinstance () (O (pv 0) (O (uJ (v:=.ty "bool") (u:=.type "bool") Z B.bool () Z) aj)))))))),⟨_,Z,_,_,_,_,_,Z,Z,tZ.int _,Gb,_,Z,iM ⟨_,Z,_,_,_,_,_,Z,Z,tZ.int _,Cr,_,Z,q⟩⟩⟩
def Kz(B:Bl mg)(YC:DZ8 K mg)(Í:Dn K mg "_law_formed" jZ R6):bw P w K mg base fX 2 Í.f Í.fd R6 W4:=by
 have gZ8:bw P w K mg base fX 1 _ _ _ _:=Mi B YC;exists Í.F.ok pY;obtain⟨t,m,J,T,rfl,ht,hT,hm,m10,lT,q⟩:=h;have hw1:(A.deeper (PyProof.Rows.envOfC "_law_formed" (aB jZ) s⁻¹ Í.f dz)).units+1<cLine:=by have:=hr.un;omega
 refine⟨_,(aG (dZ (sE (gK (K:=K) Z (bh (jb (K:=K) Z) Z B.isinstance () (O (pv 0) (O (uJ (v:=.ty "dict") (u:=.type "dict") Z B.dict () Z) aj))) λ_=>rfl))
   (aD (bF w6))
   bT)
   (aG (yC (jo iR Z (vP (qO (K:=K) Z Ac Ij Ik vN (pv 0))) (jN (K:=K) (n:=2) Z Z (b8 (aN 2 pY.nd) (b8 (aN 3 pY.nd) jz)))
   (aG (dZ (PW.pt (FT (sE (gK (K:=K) Z (bh (jb (K:=K) Z) Z B.isinstance () (O (pv 2) (O (uJ (v:=.ty "tuple") (u:=.type "tuple") Z B.tuple () Z) aj))) λ_=>rfl)) (FT (aP Ji (bh (cG (K:=K) Z) Z B.len () (O (pv 2) aj)) (pv 1)) (FT (sE (gK (K:=K) Z (bh (jb (K:=K) Z) Z B.isinstance () (O (pv 3) (O (uJ (v:=.ty "tuple") (u:=.type "tuple") Z B.tuple () Z) aj))) λ_=>rfl)) (Er (aP Ji (bh (cG (K:=K) Z) Z B.len () (O (pv 3) aj)) aA))))))
   (aD (bF w6))
   bT)
   (aD (jo iR Z (Cu (K:=K) Z (bQ (Ε (K:=K) Z) (pv 2) (pv 3))) (aN 4 pY.nd)
   (aD (dZ (sE (gK (K:=K) Z (bx gZ8 hr Z YC.m YC.F.kp YC.b .nil cu (O (pv 4) aj)) λ_=>rfl))
   (aD (bF w6))
   bT)))))))
   (aD (bF w6)))),?_⟩
 refine⟨_,Z,_,_,_,_,_,Z,Z,tZ.dT ht,a6M,_,Z,cX ⟨_,Z,.inr (.inr (.inl ⟨Z,.inr ⟨_,ht⟩⟩)),t,J,Z,Z,ht,λpv H1 n1=>⟨pv,t,J,Z,n1.here,n1.same _ _ ht,λo as pk=>?_⟩⟩⟩;have h1t:=n1.same _ _ ht;have Rf:Nd H (cN H1 t (.jq o (.dT J))):=(Nd.of n1.same).trans (Nd.jq h1t);have TX:cN H1 t (.jq o (.dT J)) t=some (.jq o (.dT J)):=cY;have Yj:∀c,c≠t->cN H1 t (.jq o (.dT J)) c=H1 c:=λc hc=>aU hc;generalize cN H1 t (.jq o (.dT J))=G0 at pk Rf TX Yj ⊢;have lk:=aM hT;have la:=aM pk;refine wW (λi σ G=>(∃o2 o3 o4,σ=[some (.ref t),some (.int m),o2,o3,o4])/\aK G0 G) ⟨⟨_,_,_,Z⟩,aK.refl _⟩ (λi σ G _ h=>h.2 _ _ TX) ?_ ?_
 ·rintro i a0 v0 σ G p G1 ha0 hv0 ⟨⟨o2,o3,o4,rfl⟩,sG⟩ nw;obtain⟨kv,hkv,hak⟩:=bf pk ha0;obtain⟨⟨st,row⟩,hsx,ek,p2,ep2,hrow⟩:=bf hT hkv;have ek:kv.1=rU st:=ek;have hv0':v0=kv.2:=by
   rw[fK,hkv]at hv0;exact(eO hv0).symm
  have ep2:kv.2=.ref p2:=ep2;rw[ep2]at hv0';subst hv0';rw[ek]at hak;have s1:=sG.trans nw.same;have hold:G1 a0=some (.tup (st.map V.int)):=s1 _ _ (uz.MT hak);have zV:G1 p2=some (.tup [.int row.m,.int row.b]):=s1 _ _ (Rf.tups _ _ hrow);have ls:st.length=m:=hm _ (jf hsx);refine⟨p,_,Z,cO.of nw.here,Z,_,_,Z,_,_,Z,Z,⟨_,Z,_,_,_,_,_,Z,Z,tZ.tup hold,a2E,_,Z,cX ⟨_,Z,a0,_,Z,.inr (cO.of hold),_,Z,Z,_,Z,?_⟩⟩⟩;rw[show(!decide (V.int (((st.map V.int).length:Nat):Int)=V.int (m:Int)))=false by rw[aJ,ls];simp];refine cX ⟨_,Z,_,_,_,_,_,Z,Z,tZ.tup zV,a2E,_,Z,cX ⟨_,Z,p2,_,Z,.inr (cO.of zV),Z,_,Z,cX ?_⟩⟩;have lst:([.int row.m,.int row.b]:List V)=[row.m,row.b].map V.int:=rfl;rw[lst]at zV;refine⟨_,Z,_,Z,a0,p2,_,_,Z,Z,cO.of hold,cO.of zV,(λz=>by cases z),(by rw[aJ];show _+2<=1000;omega),λp3 G2 s2 h3=>?_⟩;rw[<-dH]at h3;refine⟨p3,Z,⟨_,h3⟩,?_⟩;refine a0c (xs:=(st++[row.m,row.b]).map V.int) (λi σ H'=>(∃o4,σ=[some (.ref t),some (.int m),some (.ref a0),some (.ref p2),o4])/\H'=G2) ⟨⟨_,Z⟩,Z⟩ (λi σ H' _ ⟨_,e⟩=>by rw[e];exact h3) ?_ ?_
  ·rintro i x σ H' hx ⟨⟨o3,rfl⟩,rfl⟩;rw[fK]at hx;obtain⟨z,_,rfl⟩:=lC.mp hx;exact⟨_,Z,z,Z,true,Z,cX ⟨⟨_,Z⟩,Z⟩⟩
  ·rintro σ H' ⟨⟨o4,rfl⟩,rfl⟩;exact⟨⟨_,_,_,Z⟩,s1.trans s2⟩
 ·rintro σ G ⟨⟨o2,o3,o4,rfl⟩,sG⟩;refine⟨t,o,J,J,ht,sG _ _ TX,q _ λc u e=>?_⟩;by_cases z:c=t
  ·rw[z]at e ⊢;rw[cY,<-e,ht]
  ·rw[aU z];refine sG c u ?_;rw[Yj c z];exact n1.same _ _ e
end
namespace D1
def uw(p:Nat)(x:dO×fW):List Int->cI->cI
 | [],T=>T
 |m::ms,T=>uw p x ms (sH T (ig x.1 p m) x.2)
def DQ(ms:List Int)(p:Nat):cI->cI->cI
 | [],T=>T
 |x::S,T=>DQ ms p S (uw p x ms T)
theorem KC{p:Nat}{x:dO×fW}{m:Int}:∀{ms:List Int}{T:cI},uw p x (ms++[m]) T=sH (uw p x ms T) (ig x.1 p m) x.2
 | [],_=>rfl
 |_::ms,_=>KC (ms:=ms)
theorem Tn{ms:List Int}{p:Nat}{x:dO×fW}:∀{S T:cI},DQ ms p (S++[x]) T=uw p x ms (DQ ms p S T)
 | [],_=>rfl
 |_::S,_=>Tn (S:=S)
theorem FN{p:Nat}{x:dO×fW}:∀(ms:List Int) (T:cI),(uw p x ms T).length<=T.length+ms.length
 | [],T=>aL _
 |m::ms,T=>by
  have:=FN (p:=p) (x:=x) ms (sH T (ig x.1 p m) x.2)
  have:=Ņ T (ig x.1 p m) x.2
  rw[jE]
  show(uw p x ms _).length<=_
  omega
theorem YD{ms:List Int}{p:Nat}:∀(S T:cI),(DQ ms p S T).length<=T.length+S.length*ms.length
 | [],T=>by show T.length<=_;omega
 |x::S,T=>by
  have h1:=YD (ms:=ms) (p:=p) S (uw p x ms T)
  have h2:=FN (p:=p) (x:=x) ms T
  rw[jE,Nat.add_mul,Nat.one_mul]
  show(DQ ms p S _).length<=_
  omega
def rw0(r:fW):fW:=⟨r.m,r.b,[]⟩
def strip(T:cI):cI:=T.map λx=>(x.1,rw0 x.2)
def Î(T:cI)(s:dO):uE (strip T) s=(uE T s).map rw0:=by
 unfold uE strip
 induction T with
 |nil=>rfl
 |cons x T ih =>
  rw[bV];by_cases c:x.1=s
  ·rw[uX (by exact bL c),uX (by exact bL c)];rfl
  ·rw[qp (by exact λz=>c (gj z)),qp (by exact λz=>c (gj z))];exact ih
def Ï(T:cI)(s:dO)(r:fW):strip (sH T s r)=sH (strip T) s (rw0 r):=by
 unfold strip sH;rw[List.any_map];show List.map _ (if(T.any λx=>decide (x.1=s))=true then _ else _)=if(T.any λx=>decide (x.1=s))=true then _ else _
 by_cases c:(T.any λx=>decide (x.1=s))=true
 ·rw[aF c,aF c,j9,j9];refine xX λx _=>?_;show(((if x.1=s then(x.1,r)else x):dO×fW).1,rw0 ((if x.1=s then(x.1,r)else x):dO×fW).2)=if x.1=s then(x.1,rw0 r)else(x.1,rw0 x.2)
  by_cases d:x.1=s
  ·rw[aF d,aF d]
  ·rw[aq d,aq d]
 ·rw[aq c,aq c,dH];rfl
def Tp{T:cI}{u:dO}{r:fW}(h:uE T u=none)(ne:u≠s):uE (sH T s r) u=none:=by
 rw[<-h];unfold uE sH;by_cases c:(T.any λx=>decide (x.1=s))=true
 ·rw[aF c];clear c h
  induction T with
  |nil=>rfl
  |cons x T ih =>
   rw[bV];by_cases d:x.1=s
   ·rw[aF d,qp (by exact λz=>ne ((gj z).symm.trans d)),qp (by exact λz=>ne ((gj z).symm.trans d))];exact ih
   ·rw[aq d];by_cases g:x.1=u
    ·rw[uX (by exact bL g),uX (by exact bL g)]
    ·rw[qp (by exact λz=>g (gj z)),qp (by exact λz=>g (gj z))];exact ih
 ·rw[aq c,UG,qp (by exact λz=>ne (gj z).symm),List.find?_nil,Option.or_none]
def YF{p:Nat}{t:dO}{a b:Int}(l:s.length=t.length)(e:ig s p a=ig t p b):s=t/\a=b:=by
 unfold ig at e;have h:=List.append_inj e (by rw[d7,d7,l]);have h2:=Av h.2;have h3:s.drop p=t.drop p:=h2.2;exact⟨by rw[<-uY p s,<-uY p t,h.1,h3],h2.1⟩
def Ζ{bt:Int->Int->Bool}{T:cI}{r:fW}(h:uE T s=none):mF bt T s r=sH T s r:=by
 unfold mF;rw[h]
theorem KD{bt:Int->Int->Bool}{p:Nat}{x:dO×fW}:∀{ms:List Int}{T:cI},ms.Nodup->(∀m∈ms,uE T (ig x.1 p m)=none)->strip (jQ bt x.1 x.2 (ms.map λm=>(ig x.1 p m,0)) T)=uw p (x.1,rw0 x.2) ms (strip T)/\∀u,uE T u=none->(∀m∈ms,u≠ig x.1 p m)->uE (jQ bt x.1 x.2 (ms.map λm=>(ig x.1 p m,0)) T) u=none
 | [],T,_,_=>⟨Z,λ_ h _=>h⟩
 |m::ms,T,nd,h=>by
  rw[iD]at nd
  have e:mF bt T (ig x.1 p m) ⟨x.2.m,x.2.b+0,[x.1]⟩=sH T (ig x.1 p m) ⟨x.2.m,x.2.b,[x.1]⟩:=by
   rw[Ζ (h m aO),Int.add_zero]
  obtain⟨i1,i2⟩:=KD (bt:=bt) (x:=x) (p:=p) (ms:=ms) (T:=sH T (ig x.1 p m) ⟨x.2.m,x.2.b,[x.1]⟩) nd.2 λm' hm=>Tp (h m' (aY _ hm)) λz=>nd.1 ((YF Z z).2▸hm)
  rw[bV]
  show strip (jQ bt x.1 x.2 _ (mF bt T (ig x.1 p m) ⟨x.2.m,x.2.b+0,[x.1]⟩))=_/\∀u,_->_->uE (jQ bt x.1 x.2 _ (mF bt T (ig x.1 p m) ⟨x.2.m,x.2.b+0,[x.1]⟩)) u=none
  rw[e]
  refine⟨i1.trans ?_,λu hu ne=>i2 u (Tp hu (ne m aO)) λm' hm=>ne m' (aY _ hm)⟩
  rw[Ï]
  rfl
theorem Np{κ:Type}{pq:PQ κ}{ms:List Int}{v:Int}{B:List Int}{l:Nat}(nm:ms.Nodup) :
  ∀{S T:cI},(S.map (·.1)).Nodup->(∀x∈S,x.1.length=l)->(∀x∈S,pq.inn x.1 (B.idxOf v) v.toNat=ms.map λm=>(ig x.1 (B.idxOf v) m,0))->(∀x∈S,∀m∈ms,uE T (ig x.1 (B.idxOf v) m)=none)->strip (oU pq (.inn v) B S T)=DQ ms (B.idxOf v) (strip S) (strip T)
 | [],T,_,_,_,_=>rfl
 |x::S,T,nd,hl,ht,hn=>by
  rw[bV,iD]at nd
  show strip (oU pq (.inn v) B S (jQ pq.bt x.1 x.2 (pq.inn x.1 (B.idxOf v) v.toNat) T))=DQ ms (B.idxOf v) (strip S) (uw (B.idxOf v) (x.1,rw0 x.2) ms (strip T))
  rw[ht x aO]
  obtain⟨i1,i2⟩:=KD (bt:=pq.bt) (x:=x) nm (hn x aO)
  rw[<-i1]
  refine Np nm nd.2 (λy hy=>hl y (aY _ hy)) (λy hy=>ht y (aY _ hy)) λy hy m hm=>i2 _ (hn y (aY _ hy) m hm) λm' _ z=>nd.1 (dW.mpr ⟨y,hy,(YF ?_ z).1⟩)
  rw[hl y (aY _ hy),hl x aO]
end D1
abbrev j4:Stmt:=top 47
def lW:bD ["_law_table","_law_at_here","_law_marks","_law_due","_law_state","_law_row","_law_mark"] R7 (aB j4):={}
inductive a1U(K:aH)(vs:List V)(H:Hp)(Q:VK)(u_3:XK):Prop
 |mk (t pm:Addr) (p m:Nat) (ms:List Int) (J:List (List Key×V)) (T:cI) (_:vs=[.ref t,.int p,.ref pm]) (_:H t=some (.dT J)) (_:xQ H J T) (_:(∀x∈T,x.1.length=m)) (_:p<=m) (_:m<=10) (_:T.length<=900) (_:H pm=some (.lst (ms.map V.int))) (_:ms.length<=4) (_:∀d kd2 H',aK H H'->H' d=some (.dT kd2)->xQ H' kd2 (D1.DQ ms p T [])->Q (.ref d) H')
section
variable{P:Program}{w:World}{mg:Str->Option Value}{base:Heap}
def KH(B:Bl mg)(Ð:Dn K mg "_law_behind" j4 R7):bw P w K mg base fX 1 Ð.f Ð.fd R7 (a1U K):=by
 exists Ð.F.ok lW;obtain⟨t,pm,p,m,ms,J,T,rfl,ht,hT,hm,hp,m10,lT,hpm,l4,q⟩:=h;have hw1:(A.deeper (PyProof.Rows.envOfC "_law_behind" (aB j4) s⁻¹ Ð.f dz)).units+1<cLine:=by have:=hr.un;omega
 refine⟨_,(aG (bK 3 lW.nd Jx)
   (aG (yC (jo iR Z (vP (qO (K:=K) Z Ac Ij Ik vN (pv 0))) (jN (K:=K) (n:=2) Z Z (b8 (aN 4 lW.nd) (b8 (aN 5 lW.nd) jz)))
   (aD (jo iR Z (fC (K:=K) Z (pv 2)) (aN 6 lW.nd)
   (aD (yh (pv 5) (PJ (pv 3) (bQ Ds (bQ Ds (iI zK (pv 4) jK (jL (pv 1))) (aZ (O (pv 6) aj))) (iI zK (pv 4) (jL (pv 1)) jK)) (zF hw1))))))))
   (aD (bF (pv 3))))),?_⟩
 intro d hd;have n0:=gP.ou (H:=H) (p:=d) (o:=.dT []) hd;generalize cN H d (.dT [])=H0 at n0 ⊢;have ht0:=n0.same _ _ ht;refine⟨_,Z,.inr (.inr (.inl ⟨Z,.inr ⟨_,ht0⟩⟩)),t,J,Z,Z,ht0,λpv H1 n1=>⟨pv,t,J,Z,n1.here,n1.same _ _ ht0,λo as pk=>?_⟩⟩;have h1t:=n1.same _ _ ht0;have hd1:H1 d=some (.dT []):=n1.same _ _ n0.here;have td:t≠d:=λz=>by rw[z,hd]at ht;cases ht
 have Rf:Nd H (cN H1 t (.jq o (.dT J))):=(Nd.of (n0.same.trans n1.same)).trans (Nd.jq h1t);have TX:cN H1 t (.jq o (.dT J)) t=some (.jq o (.dT J)):=cY;have g0d:cN H1 t (.jq o (.dT J)) d=some (.dT []):=by rw[aU (Ne.symm td)];exact hd1
 have Yj:∀c,c≠t->cN H1 t (.jq o (.dT J)) c=H1 c:=λc hc=>aU hc;generalize cN H1 t (.jq o (.dT J))=G0 at pk Rf TX g0d Yj ⊢;have lk:=aM hT;have la:=aM pk;refine opq (P:=λi σ G=>(∃o4 o5 o6,σ=[some (.ref t),some (.int p),some (.ref pm),some (.ref d),o4,o5,o6])/\Sd d G0 G/\∃kt,G d=some (.dT kt)/\xQ G kt (D1.DQ ms p (T.take i) [])) λZ97 ji ij=>wW Z97 (ji _ _ _ ⟨⟨_,_,_,Z⟩,.refl,[],g0d,.nil⟩) (λi σ G _ h=>(ij _ _ _ h).2.1 _ _ td TX) ?_ ?_
 ·intro i a0 v0 σ G pq G1 ha0 hv0 h1 nw;obtain⟨⟨o4,o5,o6,rfl⟩,sG,kt,hkt,Yk⟩:=ij _ _ _ h1;obtain⟨kv,hkv,hak⟩:=bf pk ha0;obtain⟨⟨st,row⟩,hsx,ek,p2,ep2,hrow⟩:=bf hT hkv;have ek:kv.1=rU st:=ek;have hv0':v0=kv.2:=by
   rw[fK,hkv]at hv0;exact(eO hv0).symm
  have ep2:kv.2=.ref p2:=ep2;rw[ep2]at hv0';subst hv0';rw[ek]at hak;have n1':aK G G1:=nw.same;have Ō:Nd G0 G1:=(Nd.sd sG g0d).trans (.of n1');have hold:uz G1 a0 st:=uz.MT (Ō.tups _ _ hak);have zV:G1 p2=some (.tup [.int row.m,.int row.b]):=Ō.tups _ _ (Rf.tups _ _ hrow);have a6N:G1 pm=some (.lst (ms.map V.int)):=Ō.lst (Rf.lst hpm);have ls:st.length=m:=hm _ (jf hsx);have hps:p<=st.length:=()
  have ti:(T.take i).length<=900:=by rw[d7];omega
  have bl:=D1.YD (ms:=ms) (p:=p) (T.take i) [];have bl2:(T.take i).length*ms.length<=900*4:=Nat.mul_le_mul ti l4;have hTi:T.take (i+1)=T.take i++[(st,row)]:=by rw[lG,hsx];rfl
  have a4J:=n1' _ _ hkt;refine⟨pq,_,Z,cO.of nw.here,Z,_,_,Z,_,_,Z,Z,⟨_,Z,pm,Z,⟨_,bC.of a6N⟩,opq (P:=λj σ G'=>(∃o6,σ=[some (.ref t),some (.int p),some (.ref pm),some (.ref d),some (.ref a0),some (.ref p2),o6])/\Sd d G1 G'/\∃Lp,G' d=some (.dT Lp)/\xQ G' Lp (D1.uw p (st,row) (ms.take j) (D1.DQ ms p (T.take i) []))) λJ2 ji2 ij2=>yp (K:=K) (a:=pm) (xs:=ms.map V.int) J2 (ji2 _ _ _ ⟨⟨_,Z⟩,.refl,kt,a4J,Paired.cC Yk λ_ _ z=>⟨z.1,z.2.keep (.of n1')⟩⟩) (λj σ G' _ h=>bC.of ((Nd.sd (ij2 _ _ _ h).2.1 a4J).lst a6N)) ?_ ?_⟩⟩
  ·intro j x σ G' hx h2;obtain⟨⟨o6,rfl⟩,Wr,Lp,Gx,hT'⟩:=ij2 _ _ _ h2;rw[fK]at hx;obtain⟨mk,hmk,rfl⟩:=lC.mp hx;have n2':Nd G1 G':=.sd Wr a4J;have a2F:uz G' a0 st:=n2'.tups _ _ hold;refine⟨_,Z,_,Z,_,Z,_,Z,_,Z,a0,_,Z,a2F,λb1 K1 s1 h1=>?_⟩;rw[Qy st p hps]at h1;refine⟨_,Z,(),λb2 K2 m2=>?_⟩;refine⟨b1,b2,_,_,Z,Z,m2.same _ _ h1,m2.here,?_,λb3 K3 s3 h3=>?_⟩
   ·rw[aJ,d7];show _+1<=1000;omega
   have sJ:=s1.trans (m2.same.trans s3);refine⟨_,Z,_,Z,_,Z,a0,_,Z,sJ _ _ a2F,λb4 K4 s4 h4=>?_⟩;rw[Qz st p hps]at h4;refine⟨b3,b4,_,_,Z,Z,s4 _ _ h3,h4,?_,λb5 K5 s5 h5=>?_⟩
   ·rw[cA,aJ,aJ,d7,j6];show _+1+_<=1000;omega
   have s15:=sJ.trans (s4.trans s5);have a71:uz K5 b5 (ig st p mk):=by
    show K5 b5=some (.tup ((ig st p mk).map V.int));rw[h5];unfold ig;rw[dH,dH,xY];rfl
   have hT5:xQ K5 Lp _:=Paired.cC hT' λ_ _ z=>⟨z.1,z.2.keep (.of s15)⟩;have lkt:=aM hT5;have ml:=D1.FN (p:=p) (x:=(st,row)) (ms.take j) (D1.DQ ms p (T.take i) []);have mj:(ms.take j).length<=4:=by rw[d7];omega
   rw[List.length_nil]at bl;refine⟨d,b5,rU (ig st p mk),Lp,Z,Z,a71.key,s15 _ _ Gx,(),λK6 c6=>?_⟩;have ts:qF K5 K6:=λc' ys hc=>by
    rw[c6.rest c' (λz=>by rw[z,s15 _ _ Gx]at hc;cases hc)];exact hc
   refine ji2 _ _ _ ⟨⟨_,Z⟩,(Wr.trans (.of s15)).trans (.ń c6),_,c6.here,?_⟩;rw[show ms.take (j+1)=ms.take j++[mk] by rw[lG,hmk];rfl,D1.KC];exact Yb (Paired.cC hT5 λ_ _ z=>⟨z.1,z.2.keep ts⟩) ⟨p2,Z,ts _ _ (s15 _ _ (n2'.tups _ _ zV))⟩
  ·intro σ G' h2;obtain⟨⟨o6,rfl⟩,Wr,Lp,Gx,hT'⟩:=ij2 _ _ _ h2;refine ji _ _ _ ⟨⟨_,_,_,Z⟩,(sG.trans (.of n1')).trans Wr,Lp,Gx,?_⟩;rw[hTi,D1.Tn];rw[aJ,iC]at hT';exact hT'
 ·intro σ G h;obtain⟨⟨o4,o5,o6,rfl⟩,sG,kt,hkt,Yk⟩:=ij _ _ _ h;refine⟨t,o,J,J,ht0,sG _ _ td TX,?_⟩;rw[la.trans lk,iC]at Yk;have tu:qF G (cN G t (.dT J)):=λc ys hc=>by
   rw[aU (λz=>by rw[z,sG _ _ td TX]at hc;cases hc)];exact hc
  refine⟨_,Z,q d kt _ (λc u e=>?_) (by rw[aU (Ne.symm td)];exact hkt) (Paired.cC Yk λ_ _ z=>⟨z.1,z.2.keep tu⟩)⟩;by_cases z:c=t
  ·rw[z]at e ⊢;rw[cY,<-e,ht]
  ·rw[aU z];refine sG c u (λw=>by rw[w,hd]at e;cases e) ?_;rw[Yj c z];exact(n0.same.trans n1.same) _ _ e
end
end K
namespace De
open PyProof.Rows
variable{a b:Addr}
section
variable{prog:Program}{w:World}{A:Around}{E:Value->Shared->Prop}{s:Shared}{κ:Type} [DecidableEq κ] {knd:HeapKind prog w κ}
def KJ{nm:String}{xa xb:List (κ×Addr×Value)}{Q:Bool->Shared->Prop}(ha:(a==sysModules)=false)(hb:(b==sysModules)=false)(hu:knd.room A)
  (da:s.heap.DictOfH knd a xa) (db:s.heap.DictOfH knd b xb) (len:xa.length=xb.length) (hits:∀x∈xa,∃q,atKey xb x.1=some q/\SeqAt.EqAt A s x.2.2 q.2 true) (h:Q true s) :
  wpAny (model prog w) A (Builtin.Dict.samePairs nm a b) Q E s:=by
 obtain⟨oa,es,ep,hoa,_,hda,hea,hia,hna⟩:=da;obtain⟨ob,fs,ep',hob,_,hdb,heb,hib,hnb⟩:=db;have la:=O7 hea;have lb:=O7 heb;unfold Builtin.Dict.samePairs Builtin.Dict.showsAll;rw[aq (by simp[ha]),aq (by simp[hb])];refine M (ao (M (ao (M (mH hoa hda ?_)))));dsimp only;refine M (mH hob hdb ?_);rw[aq (by simp;omega)];refine M (wF hoa hda (M ?_));rw[ã];simp only[Std.Legacy.Range.size,Nat.sub_zero,Nat.add_sub_cancel,Nat.div_one];refine O1 _ (λrest q s'=>s'=s/\q=(none,⟨⟩)/\∃i,rest=List.range' i (es.size-i)/\i<=es.size) _ ?_ ?_ _ _ ⟨Z,Z,0,by simp,dh _⟩
 ·rintro x rest q s' ⟨rfl,rfl,i,hr,hi⟩;have lt:i<es.size:=by
   by_cases c:i<es.size
   ·exact c
   ·rw[show es.size-i=0 by omega]at hr;simp at hr
  obtain⟨rfl,hrest⟩:x=i/\rest=List.range' (i+1) (es.size-(i+1)):=by
   rw[show es.size-i=(es.size-(i+1))+1 by omega,List.range'_succ]at hr;exact⟨(Av hr).1,(Av hr).2⟩
  have lx:x<xa.length:=()
  have ex:xa[x]?=some xa[x]:=bH lx;have ee:es[x]?=some (entryOfKey knd xa[x]):=by rw[entry_at hea x,ex];rfl
  obtain⟨q,hq,he⟩:=hits xa[x] (qx lx);refine M (mH hoa hda ?_);rw[ee];show wpAny _ _ (holding [Value.ref xa[x].2.1,xa[x].2.2] _ >>= _) _ _ _;refine M (eU (M (wpAny_dictFind_heap hu (hia _ (qx lx)) hob hdb heb hib hnb ?_ ?_)))
  ·intro no;rw[atKey_none_of_get no]at hq;cases hq
  ·intro j p hj;have ep2:p=q:=eO ((atKey_of_get hnb hj).symm.trans hq);subst ep2;refine M (mH hob hdb ?_);have ef:fs[j]?=some (entryOfKey knd (xa[x].1,p)):=by rw[entry_at heb j,hj];rfl
   rw[ef];refine eU (he prog w _ _ ?_);show wpAny _ _ (if(!true)=true then _ else _) _ _ _;rw[aq ()];refine M (wF hoa hda ?_);rw[aq (by simp)];exact ao ⟨Z,Z,x+1,hrest,lt⟩
 ·rintro q s' ⟨rfl,rfl,i,hr,hi⟩;exact ao h
def eq_true{xa xb:List (κ×Addr×Value)}{Q:Value->Shared->Prop}(ha:(a==sysModules)=false)(hb:(b==sysModules)=false)(hr:knd.room A.in1)
  (da:s.heap.DictOfH knd a xa) (db:s.heap.DictOfH knd b xb) (hu:A.units<cLine) (len:xa.length=xb.length) (hits:∀x∈xa,∃q,atKey xb x.1=some q/\SeqAt.EqAt A.in1 s x.2.2 q.2 true) (h:Q (.bool true) s) :
  wpAny (model prog w) A (compareOp .Eq (.ref a) (.ref b)) Q E s:=by
 refine NZ (op:=.Eq) da.typeIs db.typeIs PySem.F.slot_dict_eq (gk PySem.F.slot_dict_eq da.typeIs PySem.F.entry_dict_eq (M ?_) (PySem.F.args_dict_eq_2 _ _)) hu;unfold Builtin.Dict.dictSlotArgs;refine M (Ag da.typeIs (ao (M (tM (T:="dict") db.typeIs PySem.F.sub_dict_dict ?_))));simp only[if_false,Bool.not_true,Bool.false_eq_true];refine M (ao (M (ao (M (KJ ha hb hr da db len hits ?_)))));exact ao ⟨_,Z,(λz=>by cases z),h⟩
def Η{xa xb:List (κ×Addr×Value)}{Q:Value->Shared->Prop}(ha:(a==sysModules)=false)(hb:(b==sysModules)=false)(hr:knd.room A.in1)
  (da:s.heap.DictOfH knd a xa) (db:s.heap.DictOfH knd b xb) (hu:A.units<cLine) (len:xa.length=xb.length) (hits:∀x∈xa,∃q,atKey xb x.1=some q/\SeqAt.EqAt A.in1 s x.2.2 q.2 true) (h:Q (.bool false) s) :
  wpAny (model prog w) A (compareOp .NotEq (.ref a) (.ref b)) Q E s:=by
 refine NZ (op:=.NotEq) da.typeIs db.typeIs PySem.F.slot_dict_ne (gk PySem.F.slot_dict_ne da.typeIs PySem.F.entry_dict_ne (M ?_) (PySem.F.args_dict_ne_2 _ _)) hu;unfold Builtin.Dict.dictSlotArgs;refine M (Ag da.typeIs (ao (M (tM (T:="dict") db.typeIs PySem.F.sub_dict_dict ?_))));simp only[if_false,Bool.not_true,Bool.false_eq_true];refine M (ao (M (ao (M (KJ ha hb hr da db len hits ?_)))));exact ao ⟨_,Z,(λz=>by cases z),h⟩
end
end De
namespace L2
open PyProof.Rows Bg
section
variable{X:Cx}{K:aH}
structure YG(K:aH)(H:Hp)(ka kb:List (List Key×V)):Prop where
 len:ka.length=kb.length
 hit:∀p∈ka,∃v d,gh kb p.1=some v/\Le K H p.2 d/\Le K H v d/\SeqAt.shaped d=true
def a6O(K:aH)(neg:Bool):R2:=λx y H Q=>∃a b ka kb,x=.ref a/\y=.ref b/\H a=some (.dT ka)/\H b=some (.dT kb)/\YG K H ka kb/\Q (.bl (!neg)) H
def BR{Y:List (Addr×Obj)}{σ:St}{H:Hp}{s:Shared}{ka kb:List (List Key×V)}{xa xb:List (List Key×Addr×Value)}(I:bG X Y σ H s)(hu:X.A.units+66<cLine)(ra:KT H ka xa)(rb:KT H kb xb)(S:YG X.K H ka kb) :
  ∀x∈xa,∃q,atKey xb x.1=some q/\SeqAt.EqAt X.A.in1 s x.2.2 q.2 true:=by
 intro x hx;obtain⟨j,hj,rfl⟩:=qt hx;obtain⟨p,hp,ep,_,rp⟩:=cM ra (bH hj);obtain⟨v,d,hv,d1,d2,sd⟩:=S.hit p (jf hp);have rv:=rb.val p.1;rw[hv]at rv;obtain⟨u,hu2,ru⟩:=sX.some_of rv;rw[<-ep];cases c:atKey xb p.1 with
 |none=>rw[c]at hu2;cases hu2
 |some q =>
  rw[c]at hu2;cases hu2;obtain⟨as,r1⟩:=d1.reads I rp;obtain⟨bs,r2⟩:=d2.reads I ru;have:=PySem.W.keq_at (A:=X.A) r1 r2 sd sd (by rw[Al];omega);rw[Jt sd]at this;exact⟨q,Z,this⟩
def a4K(hu:X.A.units+66<cLine):rz X (compareOp .NotEq) (a6O X.K true):=by
 symm;obtain⟨a,b,ka,kb,rfl,rfl,ea,eb,S,q⟩:=h;obtain rfl:v=Value.ref a:=rx;obtain rfl:u=Value.ref b:=ry;obtain⟨za,sa,xa,ra,da⟩:=vM I.hok ea;obtain⟨zb,sb,xb,rb,db⟩:=vM I.hok eb;have l1:=aM ra;have l2:=aM rb;have l3:=S.len;exact De.Η sa sb (wC ()) da db () () (BR I hu ra rb S) ⟨.bl false,H,I,Z,q⟩
def YH(e:X.K=K)(hu:X.A.units+66<cLine):rz X (compareOp .NotEq) (a6O K true):=by subst e;exact a4K hu
end
end L2
namespace De
open PyProof.Rows
section
variable{prog:Program}{w:World}{A:Around}{E:Value->Shared->Prop}{s:Shared}{κ:Type} [DecidableEq κ] {knd:KeyKind prog w κ}
def Tq{id:String}{d:Addr}{o:Obj}{es ep}{xs:List (List κ×Addr×Value)}{Q:Array DictEntry->Shared->Prop}(ho:s.heap.get? d=some o)(hd:o.data=.dict es ep)(he:es.toList=xs.map (entryOfKey (tupleKind knd)))
  (his:∀x∈xs,(tupleKind knd).is s.heap x.1 x.2.1) (hh:(xs.map λx=>tupleKeyHash knd x.1).Nodup) (h:Q es s):wpAny (model prog w) A (Builtin.Dict.entriesForEmpty id d) Q E s:=by
 unfold Builtin.Dict.entriesForEmpty;refine M (mH ho hd (M ?_));rw[<-Oo];refine O1 _ (λrest _ s'=>s'=s/\∀e∈rest,∃x∈xs,e=entryOfKey (tupleKind knd) x) _ ?_ ?_ _ _ ⟨Z,λe hm=>?_⟩
 ·rintro e rest b s' ⟨rfl,hp⟩;obtain⟨x,hx,ex⟩:=hp e aO;have fZ:¬(es.filter (·.hash==e.hash)).size>1:=by
   have e1:(es.filter (·.hash==e.hash)).size=((xs.map (entryOfKey (tupleKind knd))).filter (·.hash==e.hash)).length:=by
    rw[<-he,<-Array.toList_filter,rY]
   rw[e1,ex];have e2:((xs.map (entryOfKey (tupleKind knd))).filter (·.hash==(entryOfKey (tupleKind knd) x).hash)).length=(xs.map λy=>tupleKeyHash knd y.1).count (tupleKeyHash knd x.1):=by
    rw[List.filter_map,aJ,List.count,List.countP_map,List.countP_eq_length_filter];rfl
   rw[e2];have:=List.nodup_iff_count.mp hh (tupleKeyHash knd x.1);omega
  subst ex;show wpAny _ _ (Builtin.Dict.quietEq (.ref x.2.1) >>= _) _ _ _;refine M ?_;show wpAny _ _ (specialOf (.ref x.2.1) "__eq__" >>= _) _ _ _;have ty:=IsTupleKey.typeIs (his x hx);refine M (Aq ty PySem.F.slot_tuple_eq.lookup (ao ?_));rw[aF (by rfl),aq fZ];exact ao ⟨Z,λe hm=>hp e (aY _ hm)⟩
 ·rintro b s' ⟨rfl,_⟩;exact ao h
 ·rw[he]at hm;obtain⟨x,hx,rfl⟩:=dW.mp hm;exact⟨x,hx,Z⟩
def Ñ{nm:String}{d o:Addr}{xs:List (List κ×Addr×Value)}{Q:Unit->Shared->Prop}(hdo:d≠o)(hoS:(o==sysModules)=false)(hd:s.heap.DictOfH (tupleKind knd) d [])(ho:s.heap.DictOfH (tupleKind knd) o xs)
  (hh:(xs.map λx=>tupleKeyHash knd x.1).Nodup) (hQ:∀h',h'.DictOfH (tupleKind knd) d xs->Heap.SameBut d s.heap h'->Q ⟨⟩ { s with heap:=h'}) (hsz:xs.length<=sizeLine):wpAny (model prog w) A (Builtin.Dict.mergeDict nm d o) Q E s:=by
 obtain⟨od,esd,epd,hod,hcd,hdd,hed,hkd,hnd⟩:=id hd;obtain⟨oo,eso,epo,hoo,hco,hdo',heo,hko,hno⟩:=id ho;have d0:esd = #[]:=by
  have:esd.toList=[]:=hed;simpa using this
 unfold Builtin.Dict.mergeDict;rw[aq (by simpa using hdo)];unfold Builtin.Dict.showsAll;rw[aq (by rw[hoS];exact dB)];refine M (ao (M (mH hoo hdo' ?_)));have hlen:eso.size=xs.length:=O7 heo;cases xs with
 |nil =>
  have o0:eso = #[]:=by
   have:eso.toList=[]:=heo;simpa using this
  subst o0;dsimp only;rw[aq (by simp)];refine M (wF hoo hdo' (M (mH hoo hdo' (M ?_))));rw[ã];simp only[Std.Legacy.Range.size,Nat.sub_zero,Nat.add_sub_cancel,Nat.div_one];exact O1 _ (λrest _ s'=>rest=[]/\s'=s) _ (λx rest b s' h=>by cases h.1) (λb s' h=>by rw[h.2];exact ao (hQ _ hd (Ov _ _))) _ _ ⟨Z,Z⟩
 |cons x r =>
  have few:(decide (eso.size<=8)&&eso.all λe=>(keyPart e.key).isSome)=false:=by
   have:(eso.all λe=>(keyPart e.key).isSome)=false:=by
    rw[<-Array.all_toList,heo];rfl
   rw[this,Bool.and_false]
  dsimp only;rw[aF (by rw[few];rfl)];refine M (mH hod hdd ?_);rw[aF (by rw[d0];rfl)];refine M (Tq hoo hdo' heo hko hh ?_);rw[aF (by
   have:eso.isEmpty=false:=by rw[Array.isEmpty_eq_false_iff];intro z;rw[z]at hlen;cases hlen
   rw[this];rfl)]
  have sb:=nA s.heap d (Obj.mapDictKeys λ_=>eso);refine M (wpAny_updateDictKeysTo hod hdd (ao (hQ _ ⟨_,_,epd+1,Af _ hod (Obj.isFreed_of_dict (Oh hdd _)),hcd.mapDictKeys _,Oh hdd _,heo,λy hy=>(tupleKind knd).keeps (hko y hy) hod hdd (nA ..),hno⟩ (nA ..))) ())
def Mj{o:Addr}{xs:List (List κ×Addr×Value)}{Q:Value->Shared->Prop}(hoS:(o==sysModules)=false)(ho:s.heap.DictOfH (tupleKind knd) o xs)(hh:(xs.map λx=>tupleKeyHash knd x.1).Nodup)(hsz:xs.length<=sizeLine)
  (h:∀h',h'.DictOfH (tupleKind knd) s⁻¹ xs->Heap.SameBut s⁻¹ (s.heap.push { cls:=.type "dict",data:=.dict #[]}) h'->Q (.ref s⁻¹) { s with heap:=h'}) :
  wpAny (model prog w) A (call (.type "dict") [.ref o]) Q E s:=by
 refine callType_codes (Q₁:=λobj s₁=>obj=.ref s⁻¹/\s₁={ s with heap:=s.heap.push { cls:=.type "dict",data:=.dict #[]}}) PySem.F.kt_called_dict (î _) PySem.F.entry_dict_init (kt_code_dict_new _ ⟨rfl,rfl⟩) ?_;rintro obj s₁ ⟨rfl,rfl⟩;obtain⟨oo,eso,epo,hoo,hco,hdo',heo,hko,hno⟩:=id ho;have hnew:(s.heap.push { cls:=.type "dict",data:=.dict #[]}).DictOfH (tupleKind knd) s⁻¹ []:=Heap.DictOfH.new s.heap;have a6P:=bB { cls:=.type "dict",data:=.dict #[]} hoo;have ho':(s.heap.push { cls:=.type "dict",data:=.dict #[]}).DictOfH (tupleKind knd) o xs:=⟨oo,eso,epo,a6P,hco,hdo',heo,λy hy=>by
  obtain⟨oy,b7,n,h1,h2⟩:=hko y hy;exact⟨oy,b7,n,bB _ h1,h2⟩,hno⟩
 have tyn:Shared.TypeIs { s with heap:=s.heap.push { cls:=.type "dict",data:=.dict #[]}} (.ref s⁻¹) "dict" :=⟨_,bU _ rfl,rfl⟩;have tyo:Shared.TypeIs { s with heap:=s.heap.push { cls:=.type "dict",data:=.dict #[]}} (.ref o) "dict" :=⟨_,a6P,hco.1⟩;have hdo:s⁻¹≠o:=λe=>absurd (aX hoo) (by rw[e];exact u6 _);refine⟨tyn,õ _ _,?_⟩;unfold Builtin.«dict.__init__»;refine M ?_;unfold Builtin.Dict.selfAndRest;refine M (Ag tyn ?_);show wpAny _ _ (pure (s⁻¹,[Value.ref o])) _ _ _;refine ao ?_;show wpAny _ _ (Builtin.Dict.updateFrom "dict.__init__" s⁻¹ (.ref o) [] .none) _ _ _;unfold Builtin.Dict.updateFrom;refine M (u9 tyo ?_);rw[aq ()];refine M ?_;unfold Builtin.Dict.merge;refine M ?_;unfold Builtin.Dict.readDirectly;refine M (tM tyo isSubtype_dict_dict ?_);simp only[Bool.not_true,Bool.false_eq_true,if_false];refine M (Aq tyo PySem.F.slot_dict_iter.lookup (ao ?_));simp only[beq_self_eq_true,if_true];refine M (ao (Ñ hdo hoS hnew ho' hh (λh' hd' hs'=>?_) hsz));show wpAny _ _ (Builtin.Dict.addKeywords s⁻¹ [] >>= _) _ _ _;exact M (ao (ao ⟨Z,h h' hd' hs'⟩))
end
end De
namespace L2
open PyProof.Rows
variable{es:List Expr}{pos:Pos}
def Nq(w:World)(k:List Key):Int:=reduceHash (Builtin.Tuple.tupleHashOf (k.map (a4U w)))
inductive a4L(xs:List V)(H:Hp)(Q:VK):Prop
 |mk (a:Addr) (J:List (List Key×V)) (_:xs=[.ref a]) (_:H a=some (.dT J)) (_:∀w,(J.map λkv=>Nq w kv.1).Nodup) (_:∀p H',gP H p (.dT J) H'->Q (.ref p) H')
def W5{X:Cx}:jF X (.type "dict") a4L:=by
 intro Y s σ H xs us Q I r h;obtain⟨a,J,rfl,ea,hh,q⟩:=h;obtain⟨u,rfl,ru⟩:=vals1 r;obtain rfl:u=Value.ref a:=ru;obtain⟨za,sa,xa,ra,da⟩:=vM I.hok ea;have la:=aM ra;have ek:(xa.map λx=>tupleKeyHash (dJ X.prog X.w) x.1)=J.map λkv=>Nq X.w kv.1:=by
  clear da la ea hh q za
  induction ra with
  |nil=>rfl
  |cons a _ ih=>rw[bV,bV,ih,a.1];rfl
 refine De.Mj (knd:=dJ X.prog X.w) sa da (by rw[ek];exact hh _) () λh' dd sb=>?_;have lt:s⁻¹<=s⁻¹:=aL _;have hf:H s⁻¹=none:=I.hok.fresh lt;have hs:(s⁻¹==sysModules)=false:=wA.mpr (Ne.symm (bY (jC I.big lt)));refine⟨.ref s⁻¹,_,I.laid (t':=s.toks) (o:=.dT J) (λc o e=>?_) lt (ķ () hs (ra.keeps λc zs ec=>?_) dd),Z,q _ _ (gP.ou hf)⟩
 ·rw[sb.2 c (bY (aX e))];exact bB _ e
 ·rw[aU (dM ec hf)];exact ec
structure Θ(X:Cx)(es:List Expr)(t:TA):Prop where
 h:PA X es t
def Ι{es1:List Expr}{k:Nat}{env:Env}:starEach (.Tuple es1 k pos::es) env=(false,eval (.Tuple es1 k pos) env)::starEach es env:=by rfl
section
variable{X:Cx}
def Ie:Θ X [] a0i:=⟨aj⟩
def Q6{i:Int}{j:Nat}{t:TA}(hr:Θ X es t):Θ X (.Constant (.int i) j pos::es) (Jm (tC (.int i)) t):=⟨O aA hr.h⟩
def a1V{es1:List Expr}{k:Nat}{t1 t:TA}(h:Θ X es1 t1)(hr:Θ X es t):Θ X (.Tuple es1 k pos::es) (Jm (Ru t1) t):=⟨O (aZ h.h) hr.h Ι⟩
end
end L2
namespace L2
open PyProof.Rows
variable{pos:Pos}{R0:List (TE×TE)}{keys:List (Option Expr)}{values:List Expr}
def putL(J:List (List Key×V))(L:List (List Key×Addr×V)):List (List Key×V):=L.foldl (λacc x=>putK acc x.1 x.2.2) J
section
variable{X:Cx}{Y:List (Addr×Obj)}{σ:St}
theorem Nr{A:Around}{E:Value->Shared->Prop}{Q:PUnit->Shared->Prop}{d:Addr}(hu:A.units<cLine):∀(L:List (List Key×Addr×V)) {ws:List (Value×Value)}{J:List (List Key×V)}{s:Shared}{H:Hp},VV (L.map λx=>(V.ref x.2.1,x.2.2)) ws->bG X Y σ H s->H d=some (.dT J)->
  (∀x∈L,H x.2.1=some (.tup (x.1.map kV)))->J.length+L.length<sizeLine->(∀s' H',vo H d (.dT (putL J L)) H'->bG X Y σ H' s'->Q PUnit.unit s')->wpAny (model X.prog X.w) A (storeAll d ws) Q E s
 | [],ws,J,s,H,r,I,hd,hk,hz,q=>by
  cases r
  exact ao (q s H ⟨hd,λ_ _=>rfl⟩ I)
 |x::L,ws,J,s,H,r,I,hd,hk,hz,q=>by
  cases r with
  | @cons _ u _ us a t =>
  obtain⟨u1,u2⟩:=u
  obtain⟨r1,r2⟩:=a
  obtain rfl:u1=Value.ref x.2.1:=r1
  have eb:=hk x aO
  obtain⟨z,hds,xs,rel,dd⟩:=vM I.hok hd
  have lr:=aM rel
  rw[jE]at hz
  have hl:(putK J x.1 x.2.2).length<=sizeLine:=by have:=uO J x.1 x.2.2;omega
  show wpAny _ _ (forIn ((Value.ref x.2.1,u2)::us) _ _) _ _ _
  rw[List.forIn_cons]
  refine M (M (wpAny_dictSet_heap (hsz:=by omega) (knd:=tupleKind (dJ X.prog X.w)) hu (Bc I.hok eb) dd λh' dd' hs=>?_))
  refine ao ?_
  obtain⟨w,es,ep,hq,h2,h3,h4,_,h5⟩:=dd'
  have I2:bG X Y σ (cN H d (.dT (putK J x.1 x.2.2))) { s with heap:=h',toks:=s.toks+(tupleKind (dJ X.prog X.w)).draws x.1}:=Hw I (by rw[hd];exact mL) hs ⟨w,hq⟩ ⟨hl,hds,_,(rel.put x.1 eb r2).keeps λc ys ec=>by
   rw[aU (Xa ec hd (λz=>nomatch z))]
   exact ec,w,es,ep,hq,h2,h3,h4,h5⟩
  refine Nr hu L t I2 cY (λy hy=>?_) (by have:=uO J x.1 x.2.2;omega) λs' H' c I'=>q s' H' ⟨c.here,λb n=>(c.rest b n).trans (aU n)⟩ I'
  have hy':=hk y (aY _ hy)
  rw[aU (Xa hy' hd (λz=>nomatch z))]
  exact hy'
def W6(R0:List (TE×TE)):TE:=λσ H Q=>∀p H1,gP H p (.dT []) H1->Wb R0 σ H1 λps H2=>H2 p=some (.dT [])/\∃L:List (List Key×Addr×V),ps=L.map (λx=>(V.ref x.2.1,x.2.2))/\(∀x∈L,H2 x.2.1=some (.tup (x.1.map kV)))/\L.length<=15/\∀H3,vo H2 p (.dT (putL [] L)) H3->Q (.ref p) H3
def Κ(hu:X.A.units+1<cLine)(h:PPs X pos keys values R0)(hall:keys.all (·.isSome)=true)(hl:keys.length=values.length)(h0:keys≠[])
  (h15:keys.length<=15):PE X (.Dict keys values pos) (W6 R0):=by
 intro Y s σ H Q I q;have hn:=I.hok.fresh (aL s⁻¹);have I1:=I.laid (a:=s⁻¹) (o:=.dT []) (h':=s.heap.push { cls:=.type "dict",data:=.dict #[]}) (t':=s.toks) (λ_ _ q=>bB _ q) (aL _) (RZ s.heap I.big);refine wpAny_Dict_any hall hl h0 h15 (jr (h Y _ σ _ _ I1 (q _ _ (gP.ou hn))) λws s2 ⟨ps,H2,I2,rel,e,L,ep,hk,l15,q2⟩=>?_);subst ep;exact Nr () L rel I2 e hk (by rw[iU];show 0+_<_;omega) λs' H' c I'=>⟨.ref s⁻¹,H',I',Z,q2 H' c⟩
structure PPw(X:Cx)(pos:Pos)(keys:List (Option Expr))(values:List Expr)(R0:List (TE×TE)):Prop where
 h:PPs X pos keys values R0
def a1W:PPw X pos [] [] []:=⟨a0T⟩
def Λ{p1 p2:Pos}{k1 k2:Nat}{es1 es2:List Expr}{ks:List (Option Expr)}{vs:List Expr}{t1 t2:TA}(h:Θ X es1 t1)(h':Θ X es2 t2)(hr:PPw X pos ks vs R0) :
  PPw X pos (some (.Tuple es1 k1 p1)::ks) (.Tuple es2 k2 p2::vs) ((Ru t1,Ru t2)::R0):=⟨Ĵ (aZ h.h) (aZ h'.h) hr.h⟩
def Ò(hu:X.A.units+1<cLine)(h:PPw X pos keys values R0)(hall:keys.all (·.isSome)=true:=by rfl)(hl:keys.length=values.length:=by rfl)(h0:keys≠[]:=by simp)
  (h15:keys.length<=15:=by decide):PE X (.Dict keys values pos) (W6 R0):=Κ hu h.h hall hl h0 h15
def a4M{r:R2}{a:Expr}{ta:TE}{p1:Pos}(ho:rz X (compareOp .NotEq) r)(ha:PE X a ta)(hu:X.A.units+1<cLine)(h:PPw X p1 keys values R0)(hall:keys.all (·.isSome)=true:=by rfl)(hl:keys.length=values.length:=by rfl)(h0:keys≠[]:=by simp)
  (h15:keys.length<=15:=by decide):PT X (.Compare a [.NotEq] [.Dict keys values p1] pos) (a2n (tOp r ta (W6 R0))):=aP ho ha (Ò hu h hall hl h0 h15) (Vn _)
end
end L2
namespace K
open L2 Lw Bg
variable{P:Program}{w:World}{mg:Str->Option Value}{base:Heap}{m:Nat}{T:cI}
abbrev oh:Stmt:=top 48
def pZ:bD ["_law_told","_law_steps","_law_marks","_law_tops_here","_law_aheads","_law_k","_law_due"] X8 (aB oh):={}
namespace D1
def a1X(nd:(T.map (·.1)).Nodup){x:dO×fW}(h:x∈T):uE T x.1=some x.2:=by
 unfold uE
 induction T with
 |nil=>cases h
 |cons y T ih =>
  rw[bV,iD]at nd;rcases cB.mp h with e|h
  ·rw[e,uX (by exact bL Z)];rfl
  ·rw[qp (by exact λz=>nd.1 (dW.mpr ⟨x,h,(gj z).symm⟩))];exact ih nd.2 h
end D1
def KN{K:aH}{H:Hp}{ka kb:List (List Key×V)}{A B:cI}(ha:xQ H ka A)(hb:xQ H kb B)(e:D1.strip A=B)(nd:(A.map (·.1)).Nodup):YG K H ka kb where
 len:=by
  rw[aM ha,aM hb,<-e]
  unfold D1.strip
  rw[aJ]
 hit:=λp hp=>by
  obtain⟨j,hj,rfl⟩:=qt hp
  obtain⟨x,hx,ek,q,eq,hq⟩:=bf ha (bH hj)
  have g:=D1.Î A x.1
  rw[D1.a1X nd (jf hx),e]at g
  have ek:ka[j].1=rU x.1:=ek
  have eq:ka[j].2=.ref q:=eq
  rcases Hz x.1 hb with⟨_,e2⟩|⟨v,r,e1,e2,q',rfl,hq'⟩
  ·rw[e2]at g;cases g
  ·rw[e2]at g
   have g:r=D1.rw0 x.2:=eO g
   rw[g]at hq'
   exact⟨_,.tuple [.int x.2.m,.int x.2.b],by rw[ek];exact e1,by rw[eq];exact .tup (cO.of hq) (.cons (.int _) (.cons (.int _) .nil)),.tup (cO.of hq') (.cons (.int _) (.cons (.int _) .nil)),Z⟩
def KQ{H:Hp}{J:List (List Key×V)}(h:xQ H J T):xQ H J (D1.strip T):=by
 induction h with
 |nil=>exact .nil
 |cons a _ ih=>exact .cons a ih
def a6Q{K:aH}:PySem.W.kitOne K (.type "list") (.type "list")=some true:=by rfl
inductive Μ(vs:List V)(H:Hp)(Q:VK)(u_3:XK):Prop
 |mk (pT pS pm:Addr) (xs yt:List V) (ss:List bZ) (Ts:List cI) (n:Nat) (ts:List bW) (ms:List Int) (_:vs=[.ref pT,.ref pS,.ref pm]) (_:H pS=some (.lst xs)) (_:Paired (wu H) xs ss) (_:ss.length<=800) (_:H pT=some (.lst yt)) (_:Paired (GQ H) yt Ts) (_:Ts.length=ss.length) (_:Go.ż n ts ss) (_:H pm=some (.lst (ms.map V.int))) (_:ms.length<=4) (_:(∀k,k<ss.length->(∀x∈Ts.getD k [],x.1.length=(Go.gH n ts ss k).length)/\(Ts.getD k []).length<=900/\((Ts.getD k []).map (·.1)).Nodup)) (_:(∀k:Nat,ss[k]?=some .leaf->D1.strip (Ts.getD k [])=[([],⟨1,0,[]⟩)])) (_:(∀(k i:Nat) (v:Int),ss[k]?=some (.inn v)->Go.qX n ts ss k=[i]->D1.strip (Ts.getD k [])=D1.DQ ms ((Go.gH n ts ss k).idxOf v) (D1.strip (Ts.getD i [])) [])) (_:∀H',aK H H'->Q (.bl true) H')
section
variable{K:aH}
def Q7(B:Bl mg)(Ì:DZ7 K mg)(YC:DZ8 K mg)(Í:Dn K mg "_law_formed" jZ R6)(Ð:Dn K mg "_law_behind" j4 R7)(á:Dn K mg "_law_fits" oh X8):bw P w K mg base fX 3 á.f á.fd X8 Μ:=by
 have gZ7:bw P w K mg base fX 2 _ _ _ _:=(Q5 B Ì).mono ();have gZ3:bw P w K mg base fX 2 _ _ _ _:=Kz B YC Í;have gZ1:bw P w K mg base fX 2 _ _ _ _:=(KH B Ð).mono ();exists á.F.ok pZ;obtain⟨pT,pS,pm,xs,yt,ss,Ts,n,ts,ms,rfl,hS,qS,l8,hT,qT,lT,R,hpm,l4,ok,a72,a73,q⟩:=h;have hu:(A.deeper (PyProof.Rows.envOfC "_law_fits" (aB oh) s⁻¹ á.f dz)).units+66<cLine:=by have:=hr.un;omega
 have hw1:(A.deeper (PyProof.Rows.envOfC "_law_fits" (aB oh) s⁻¹ á.f dz)).units+1<cLine:=by have:=hr.un;omega
 refine⟨_,(aG (yh (bx gZ7 hr Z Ì.m Ì.F.kp Ì.b .nil cu (O (pv 1) aj)) (ĵ (K:=K) (n:=2) Z Z (b8 (aN 3 pZ.nd) (b8 (aN 4 pZ.nd) jz))))
   (aG (dZ (PW.pt (FT (sE (gK (K:=K) Z (bh (jb (K:=K) Z) Z B.isinstance () (O (pv 0) (O (uJ (v:=.ty "list") (u:=.type "list") Z B.list () Z) aj))) λ_=>rfl)) (Er (aP Ji (bh (cG (K:=K) Z) Z B.len () (O (pv 0) aj)) (bh (cG (K:=K) Z) Z B.len () (O (pv 1) aj))))))
   (aD (bF w6))
   bT)
   (aG (jo iR Z (iY Z B.range (O (bh (cG (K:=K) Z) Z B.len () (O (pv 1) aj)) aj)) (aN 5 pZ.nd)
   (aG (dZ (sE (gK (K:=K) Z (bx gZ3 hr Z Í.m Í.F.kp Í.b .nil cu (O (aR (bA (K:=K) Z) (pv 0) (pv 5)) (O (bh (cG (K:=K) Z) Z B.len () (O (aR (bA (K:=K) Z) (pv 3) (pv 5)) aj)) aj))) λ_=>rfl))
   (aD (bF w6))
   bT)
   (aG (dZ (PW.pt (tX (aP oH (aR (aV (K:=K) Z) (aR (bA (K:=K) Z) (pv 1) (pv 5)) aA) gq) (uK (a4M (YH (K:=K) Z hu) (aR (bA (K:=K) Z) (pv 0) (pv 5)) hw1 (Λ Ie (Q6 (Q6 Ie)) a1W)))))
   (aD (bF w6))
   bT)
   (aD (dZ (aP oH (aR (aV (K:=K) Z) (aR (bA (K:=K) Z) (pv 1) (pv 5)) aA) gq)
   (aG (bK 6 pZ.nd (bx gZ1 hr Z Ð.m Ð.F.kp Ð.b .nil cu (O (aR (bA (K:=K) Z) (pv 0) (aR (bA (K:=K) Z) (pv 4) (pv 5))) (O (oK (K:=K) Z kZ Uc Ud Fl (aR (bA (K:=K) Z) (pv 3) (pv 5)) (O (aR (aV (K:=K) Z) (aR (bA (K:=K) Z) (pv 1) (pv 5)) aA) aj)) (O (pv 2) aj)))))
   (aD (dZ (aP (YH (K:=K) Z hu) (aR (bA (K:=K) Z) (pv 0) (pv 5)) (pv 6))
   (aD (bF w6))
   bT)))
   bT)))))
   (aD (bF w6))))),?_⟩
 have lx:=aM qS;have lyt:yt.length=ss.length:=(aM qT).trans lT;refine⟨_,Z,pS,xs,ss,n,ts,Z,hS,qS,l8,R,λr pt pa tx G sG hr hpt pTx hpa=>⟨r,[.ref pt,.ref pa],Z,bC.of hr,Z,_,_,Z,_,_,Z,Z,⟨_,Z,_,_,_,_,_,Z,Z,tZ.lst (sG _ _ hT),a6Q,_,Z,cX ⟨_,Z,pT,_,Z,.inl (bC.of (sG _ _ hT)),_,Z,pS,_,Z,.inl (bC.of (sG _ _ hS)),Z,_,Z,?_⟩⟩⟩⟩;rw[show(!decide (V.int ((yt.length:Nat):Int)=V.int ((xs.length:Nat):Int)))=false by rw[lyt,lx];simp];refine cX ⟨_,Z,pS,_,Z,.inl (bC.of (sG _ _ hS)),_,Z,(),(),?_⟩;rw[jD];have tp:=Go.S5 R.cV R.sb;refine qz (n:=xs.length) (λi σ G'=>(∃o5 o6,σ=[some (.ref pT),some (.ref pS),some (.ref pm),some (.ref pt),some (.ref pa),o5,o6])/\aK G G') ⟨⟨_,_,Z⟩,aK.refl _⟩ ?_ ?_
 ·rintro k σ G1 hk ⟨⟨o5,o6,rfl⟩,s1⟩;rw[show(0:Int)+(k:Int)=(k:Int) by omega];have kl:k<ss.length:=()
  have hs:=bH kl;obtain⟨vx,Β,TY,rfl,hst⟩:=cM qS hs;have SB:=R.sb k _ hs;generalize ss[k]=st at hs SB hst;have tabs:∀j,j<ss.length->∃p J,yt[j]?=some (.ref p)/\H p=some (.dT J)/\xQ H J (Ts.getD j []):=λj hj=>by
   have ß:Ts[j]?=some (Ts.getD j []):=by rw[fV,bH ()];rfl
   obtain⟨v,hv,p,J,rfl,h1,h2⟩:=cM qT ß;exact⟨p,J,hv,h1,h2⟩
  obtain⟨p,J,hyk,hpk,hWk⟩:=tabs k kl;have s01:=sG.trans s1;have htk:((List.range ss.length).map (Go.gH n ts ss))[k]?=some (Go.gH n ts ss k):=by rw[fK,Ol kl];rfl
  obtain⟨vb,hvb,pb,rfl,hpb,_⟩:=cM pTx htk;obtain⟨ok1,ok2,ok3⟩:=ok k kl;have b10:=a2z R.cV (Go.Aa (tp k kl).1) (tp k kl).2;refine⟨_,Z,_,Z,pT,_,_,_,Z,Z,bC.of (s01 _ _ hT),bR hyk,_,Z,_,Z,pt,_,_,_,Z,Z,bC.of (s1 _ _ hpt),bR hvb,pb,_,Z,.inl (bC.of (s1 _ _ hpb)),?_⟩;rw[aJ];refine⟨p,_,J,Ts.getD k [],Z,s01 _ _ hpk,Paired.cC hWk λ_ _ z=>⟨z.1,z.2.keep (.of s01)⟩,ok1,b10,ok2,λG2 s2=>⟨_,Z,cX ?_⟩⟩;have s12:=s1.trans s2;have Ó:=sG.trans s12;refine⟨_,Z,_,Z,pS,_,_,_,Z,Z,bC.of (Ó _ _ hS),bR Β,TY,st.vs,0,.str st.word,Z,Z,cO.of (Ó _ _ hst),uP st,Z,_,Z,?_⟩;rw[Up.Ž];by_cases c0:st.tag=0
  ·rw[bL c0];obtain rfl:st=.leaf:=by
    cases SB with
    |leaf=>rfl
    |_=>cases c0
   refine iM ⟨_,Z,_,Z,pT,_,_,_,Z,Z,bC.of (Ó _ _ hT),bR hyk,λp6 I0 n6=>?_⟩;refine⟨(),λc1 I1 i1=>⟨(),λd1 J1 j1=>?_⟩⟩;have r0:=i1.same.trans j1.same;refine⟨r0 _ _ n6.here,[(rU [],c1,.ref d1)],Z,λx hx=>?_,(by show 1<=15;decide),λI9 cg=>?_⟩
   ·rw[bJ.mp hx];exact j1.same _ _ i1.here
   have s29:aK G2 I9:=(n6.same.trans r0).chg n6.fresh cg;have s09:=Ó.trans s29;have hd9:I9 d1=some (.tup [.int 1,.int 0]):=by
    rw[cg.rest _ (λz=>by have:=j1.fresh;rw[z,i1.same _ _ n6.here]at this;cases this)];exact j1.here
   refine⟨p,p6,J,_,Z,Z,s09 _ _ hpk,cg.here,KN (Paired.cC hWk λ_ _ z=>⟨z.1,z.2.keep (.of s09)⟩) (B:=[([],⟨1,0,[]⟩)]) (.cons ⟨Z,d1,Z,hd9⟩ .nil) (a72 k hs) ok3,_,Z,cX ⟨_,Z,_,Z,pS,_,_,_,Z,Z,bC.of (s09 _ _ hS),bR Β,TY,_,0,.str (bZ.word .leaf),Z,Z,cO.of (s09 _ _ hst),uP _,Z,_,Z,?_⟩⟩;rw[Up.a4F];exact cX ⟨⟨_,_,Z⟩,s12.trans s29⟩
  rw[cW c0];refine cX (cX ⟨_,Z,_,Z,pS,_,_,_,Z,Z,bC.of (Ó _ _ hS),bR Β,TY,st.vs,0,.str st.word,Z,Z,cO.of (Ó _ _ hst),uP st,Z,_,Z,?_⟩);rw[Up.a4F];by_cases c1:st.tag=1
  ·rw[bL c1];refine iM ?_;obtain⟨v,i',rfl,ef,lt,mv,Ý⟩:∃v i',st=.inn v/\Go.qX n ts ss k=[i']/\i'<k/\v∈Go.gH n ts ss k/\(Go.gH n ts ss k).length=(Go.gH n ts ss i').length+1:=by
    cases SB with
    | @inn i' v ef lt v0 vn nv et=>exact⟨v,i',Z,ef,lt,by rw[et];exact(Go.nZ R.cV (tp i' ()).2 λx hx=>by rw[bJ.mp hx];exact⟨v0,vn⟩).mpr (.inr (Oa v)),by rw[et];exact Go.Yu R.cV (tp i' ()).1 (tp i' ()).2 ⟨v0,vn⟩ nv⟩
    |_=>cases c1
   obtain⟨p2,kv2,hy2,hp2,hW2⟩:=tabs i' ();obtain⟨oi1,oi2,oi3⟩:=ok i' ();have hai:((List.range ss.length).map λk=>ahF (Go.qX n ts ss k))[k]?=some (NI i'):=by rw[fK,Ol kl,IV,ef];rfl
   have a6R:=s12 _ _ hpb;have hS2:=Ó _ _ hS;have iv:=Bd mv;have l10:(Go.gH n ts ss k).length<=1000:=()
   have ls:(D1.strip (Ts.getD i' [])).length<=900:=by unfold D1.strip;rw[aJ];exact oi2
   refine⟨_,Z,_,Z,_,Z,pa,_,_,_,Z,Z,bC.of (s12 _ _ hpa),bR hai,pT,_,_,_,Z,Z,bC.of (Ó _ _ hT),bR hy2,_,Z,_,Z,pt,_,_,_,Z,Z,bC.of (s12 _ _ hpt),bR hvb,.inl ⟨Z,_,bC.of a6R⟩,_,Z,_,Z,pS,_,_,_,Z,Z,bC.of hS2,bR Β,TY,_,1,.int v,Z,Z,cO.of (Ó _ _ hst),Z,pb,_,v,_,Z,Z,a6R,iv.1,iv.2,l10,_,Z,?_⟩;refine⟨p2,pm,_,(Go.gH n ts ss i').length,ms,kv2,D1.strip (Ts.getD i' []),Z,Ó _ _ hp2,KQ (Paired.cC hW2 λ_ _ z=>⟨z.1,z.2.keep (.of Ó)⟩),λx hx=>?_,(by have:=Fo mv;omega),(),ls,Ó _ _ hpm,l4,λd kd2 G3 s3 hd hWd=>?_⟩
   ·obtain⟨y,hy,rfl⟩:=dW.mp hx;exact oi1 y hy
   have s03:=Ó.trans s3;rw[<-a73 k i' v hs ef]at hWd;exact⟨_,Z,_,Z,pT,_,_,_,Z,Z,bC.of (s03 _ _ hT),bR hyk,_,Z,p,d,J,kd2,Z,Z,s03 _ _ hpk,hd,KN (Paired.cC hWk λ_ _ z=>⟨z.1,z.2.keep (.of s03)⟩) hWd Z ok3,_,Z,cX ⟨⟨_,_,Z⟩,s12.trans s3⟩⟩
  ·rw[cW c1];exact cX ⟨⟨_,_,Z⟩,s12⟩
 ·rintro σ G1 ⟨⟨o5,o6,rfl⟩,s1⟩;exact q _ (sG.trans s1)
end
namespace D1
def T7(kd:Int)(c:Nat):List Int:=if kd=0 then(List.range c).map λk:Nat=>(k:Int)else if kd=1 then [0,1]else [0,2]
def a6S(kd:Int)(c:Nat):(T7 kd c).Nodup:=by
 unfold T7;split
 ·exact Ak.mpr (List.nodup_range.imp λne e=>ne (Int.ofNat.inj e))
 ·split<;>decide
def a4N{kd:Int}{c:Nat}(h:c<=4):(T7 kd c).length<=4:=by
 unfold T7;split
 ·rw[aJ,qu];exact h
 ·split<;>decide
section
variable{κ:Type} [DecidableEq κ] {pq:PQ κ}{n:Nat}{ts:List bW}{ss:List bZ}
def Ô(R:Go.ż n ts ss)(hl:pq.leaf=[]){k:Nat}(hs:ss[k]?=some .leaf):strip ((Go.zM pq n ts ss ss.length).getD k [])=[([],⟨1,0,[]⟩)]:=by
 have kl:=(fu.mp hs).1;have ef:Go.qX n ts ss k=[]:=by
  have SB:=R.sb k _ hs;cases SB with
  |leaf ef=>exact ef
 rw[Go.Kl pq kl,Go.HN,ef];show strip [(pq.leaf,⟨1,0,[]⟩)]=_;rw[hl];rfl
def Ν(R:Go.ż n ts ss){ms:List Int}(nm:ms.Nodup)(tk:∀j,j<ss.length->zZ pq (Go.gH n ts ss j).length ((Go.zM pq n ts ss ss.length).getD j []))(hk:∀{m:Nat}{s:dO},pq.Ok m s->s.length=m)
  (ht:∀(s:dO) (p v:Nat),pq.inn s p v=ms.map λm=>(ig s p m,0)) {k i:Nat}{v:Int} (hs:ss[k]?=some (.inn v)) (ef:Go.qX n ts ss k=[i]) :
  strip ((Go.zM pq n ts ss ss.length).getD k [])=DQ ms ((Go.gH n ts ss k).idxOf v) (strip ((Go.zM pq n ts ss ss.length).getD i [])) []:=by
 have kl:=(fu.mp hs).1;have tp:=Go.S5 R.cV R.sb;obtain⟨lt,hv,et⟩:i<k/\(0<=v/\v<(n:Int))/\Go.gH n ts ss k=fL (Go.gH n ts ss i) [v]:=by
  have SB:=R.sb k _ hs;cases SB with
  |inn ef' lt v0 vn nv et =>
   rw[ef]at ef';cases ef';exact⟨lt,⟨v0,vn⟩,et⟩
 have ei:(Go.zM pq n ts ss k).getD i []=(Go.zM pq n ts ss ss.length).getD i []:=(Go.Kl pq lt).trans (Go.Kl pq (vd lt kl)).symm;have ti:=tk i (vd lt kl);have ej:fL (Go.gH n ts ss k) (Go.gH n ts ss i)=Go.gH n ts ss k:=(Go.zL R.cV (tp k kl).1 (tp k kl).2 λx hx=>by
  rw[et];exact(Go.nZ R.cV (tp i ()).2 λy hy=>by rw[bJ.mp hy];exact hv).mpr (.inl hx)).1
 rw[Go.Kl pq kl,Go.HN,getD_at hs,ef];show strip (oU pq (.inn v) (fL (Go.gH n ts ss k) (Go.gH n ts ss i)) ((Go.zM pq n ts ss k).getD i []) [])=_;rw[ej,ei];exact Np nm ti.nd (λx hx=>hk (ti.ok x hx)) (λx _=>ht _ _ _) λ_ _ _ _=>rfl
end
end D1
namespace D1
def Q8:Nat->List dO
 |0=>[[]]
 |m+1=>(Q8 m).flatMap λs=>[0::s,1::s,2::s,3::s]
def hS(s:dO):Int:=reduceHash (Builtin.Tuple.tupleHashOf (s.map hashInt))
def h_0:((Q8 0).map hS).Nodup:=by decide
def h_1:((Q8 1).map hS).Nodup:=by decide
def h_2:((Q8 2).map hS).Nodup:=by decide
def h_3:((Q8 3).map hS).Nodup:=by decide
def h_4:((Q8 4).map hS).Nodup:=by decide
def a6T(h:m<=4):((Q8 m).map hS).Nodup:=by
 rcases(show m=0\/m=1\/m=2\/m=3\/m=4 by omega)with e|e|e|e|e<;>subst e
 ·exact h_0
 ·exact h_1
 ·exact h_2
 ·exact h_3
 ·exact h_4
def a1Y{c:Int}(c4:c<=4){s:dO}(h:uD c m s):s∈Q8 m:=by
 induction s generalizing m with
 |nil =>
  obtain rfl:0=m:=h.1;exact Oa _
 |cons x s ih =>
  obtain⟨h1,h2⟩:=h;subst h1;refine List.mem_flatMap.mpr ⟨s,ih ⟨Z,λy hy=>h2 y (aY _ hy)⟩,?_⟩;have:=h2 x aO;rcases(show x=0\/x=1\/x=2\/x=3 by omega)with e|e|e|e<;>subst e<;>simp
def a1Z{α β:Type}{f:α->β}{l:List α}(nd:(l.map f).Nodup){a b:α}(ha:a∈l)(hb:b∈l)(e:f a=f b):a=b:=by
 induction l with
 |nil=>cases ha
 |cons x l ih =>
  rw[bV,iD]at nd;rcases cB.mp ha with ea|ha'
  ·rcases cB.mp hb with eb|hb'
   ·rw[ea,eb]
   ·exact absurd (dW.mpr ⟨b,hb',by rw[<-e,ea]⟩) nd.1
  ·rcases cB.mp hb with eb|hb'
   ·exact absurd (dW.mpr ⟨a,ha',by rw[e,eb]⟩) nd.1
   ·exact ih nd.2 ha' hb'
def hash_eq(w:World)(s:dO):Nq w (rU s)=hS s:=by
 unfold Nq hS rU;rw[j9];rfl
def a2a{c:Int}(c4:c<=4)(m4:m<=4){H:Hp}{J:List (List Key×V)}(h:xQ H J T)(nd:(T.map (·.1)).Nodup)(ok:∀x∈T,uD c m x.1)(w:World):(J.map λkv=>Nq w kv.1).Nodup:=by
 have e:(J.map λkv=>Nq w kv.1)=(T.map (·.1)).map hS:=by
  clear nd ok
  induction h with
  |nil=>rfl
  |cons a _ ih=>rw[bV,bV,bV,ih,a.1,hash_eq]
 rw[e];have mm:∀s∈T.map (·.1),s∈Q8 m:=λs hs=>by
  obtain⟨x,hx,rfl⟩:=dW.mp hs;exact a1Y c4 (ok x hx)
 exact Go.WK nd λa ha b hb e=>a1Z (a6T m4) (mm a ha) (mm b hb) e
end D1
def QAt(K:aH)(CC CA CW:Addr)(kd:Int)(c n:Nat)(ts:List bW)(ws:List Int)(H:Hp)(d:Addr):Prop:=(kd=0->Fz K CC [("many",.int c)] n ts ws H d)/\(kd=1->Fz K CA [] n ts ws H d)/\(kd=2->Fz K CW [] n ts ws H d)
def vH(kd:Int)(c:Nat)(ws:List Int)(n:Nat)(ts:List bW)(ss:List bZ):List cI:=if kd=0 then Go.zM (pqC c ws) n ts ss ss.length else if kd=1 then Go.zM (pqA ws) n ts ss ss.length else Go.zM (pqW ws) n ts ss ss.length
structure a2G(kd:Int)(c n:Nat)(ts:List bW)(ss:List bZ)(Ts:List cI):Prop where
 len:Ts.length=ss.length
 ok:∀k,k<ss.length->((Ts.getD k []).map (·.1)).Nodup/\∀x∈Ts.getD k [],uD 4 (Go.gH n ts ss k).length x.1
 leaf:∀k:Nat,ss[k]?=some .leaf->D1.strip (Ts.getD k [])=[([],⟨1,0,[]⟩)]
 inn:∀(k i:Nat) (v:Int),ss[k]?=some (.inn v)->Go.qX n ts ss k=[i]->D1.strip (Ts.getD k [])=D1.DQ (D1.T7 kd c) ((Go.gH n ts ss k).idxOf v) (D1.strip (Ts.getD i [])) []
inductive a2b(K:aH)(CC CA CW:Addr)(vs:List V)(H:Hp)(Q:VK)(u_3:XK):Prop
 |mk (kd:Int) (c:Nat) (pL d:Addr) (xs:List V) (ss:List bZ) (n:Nat) (ts:List bW) (ws:List Int) (_:vs=[.ref pL,.ref d]) (_:0<=kd) (_:kd<=2) (_:c<=4) (_:QAt K CC CA CW kd c n ts ws H d) (_:ws.length=n) (_:n<=10) (_:(∀t∈ts,t.1≠t.2)) (_:bC K H pL xs) (_:Paired (sZ K H) xs ss) (_:ss.length<=800) (_:BX n ts ss (cD n ts ss)=.ok) (_:(∀b∈(cD n ts ss).aQ,b.length<=4)) (_:∀pT yt H',a6x H pT yt->a2G kd c n ts ss (vH kd c ws n ts ss)->aK H H'->H' pT=some (.lst yt)->Paired (GQ H') yt (vH kd c ws n ts ss)->Q (.ref pT) H')
def bw.exs{α:Type}{K:aH}{CX:TJ}{k:Nat}{f:Addr}{fd:FuncData}{ps:List Str}{sp:α->Sp}(F:∀a,bw P w K mg base CX k f fd ps (sp a)):bw P w K mg base CX k f fd ps (λvs H Q E=>∃a,sp a vs H Q E) :=
 ⟨λvs H Q E ⟨a,h⟩=>(F a).len vs H Q E h,λA outer s H args us vs Q E hr he hb hv ⟨a,hs⟩=>(F a).run A outer s H args us vs Q E hr he hb hv hs⟩
def bw.sub{K:aH}{CX:TJ}{k:Nat}{f:Addr}{fd:FuncData}{ps:List Str}{sp sp':Sp}(F:bw P w K mg base CX k f fd ps sp)(m:∀vs H Q E,sp' vs H Q E->sp vs H Q E):bw P w K mg base CX k f fd ps sp' :=
 ⟨λvs H Q E h=>F.len vs H Q E (m vs H Q E h),λA outer s H args us vs Q E hr he hb hv hs=>F.run A outer s H args us vs Q E hr he hb hv (m vs H Q E hs)⟩
structure Drw where
 n:Nat
 ts:List bW
 ws:List Int
 lw:ws.length=n
 c:Nat
 c4:c<=4
section
variable{n:Nat}{ts:List bW}{ss:List bZ}
def W7{K:aH}{κ:Type} [DecidableEq κ] (Qn:HB P w K mg base κ) (pk:Dv Qn.pq) {kd:Int}{c:Nat}{Ts:List cI} (en:Qn.n=n) (et:Qn.ts=ts) (eT:Ts=Go.zM Qn.pq n ts ss ss.length) (hPl:∀k:Nat,k<Qn.n->Qn.Pl k) (hTi:∀t∈Qn.ts,Qn.Ti t) (ne:∀t∈ts,t.1≠t.2) (cV:n<=10) (l8:ss.length<=800) (qg:BX n ts ss (cD n ts ss)=.ok) (b4:∀b∈(cD n ts ss).aQ,b.length<=4)
  (k4:∀{m s},Qn.pq.Ok m s->uD 4 m s) (hl:Qn.pq.leaf=[]) (ht:∀(s:dO) (p v:Nat),Qn.pq.inn s p v=(D1.T7 kd c).map λm=>(ig s p m,0)):a2G kd c n ts ss Ts:=by
 subst en et eT;have R:=Go.a2D cV qg;have ga:=(Go.WD Qn pk hPl hTi ne cV l8 qg b4 ss.length (aL _)).ok;exact⟨mW _ _ _ _ _,λk kl=>⟨(ga k kl).nd,λx hx=>k4 ((ga k kl).ok x hx)⟩,λk hs=>D1.Ô R hl hs,λk i v hs ef=>D1.Ν R (D1.a6S kd c) ga (λh=>(k4 h).1) ht hs ef⟩
end
section
variable{K:aH}
def W8{c d:Int}(h:c<=d){s:dO}(o:uD c m s):uD d m s:=⟨o.1,λx hx=>⟨(o.2 x hx).1,Int.lt_of_lt_of_le (o.2 x hx).2 h⟩⟩
def Õ(B:Bl mg)(Bz:mg "zip" = none)(bN:v5 K mg)(dw:Dp K mg)(dD:Dr K mg)(U:Used w K mg)(Ct:Ŝ mg)(jV:Fq K mg)(jy:Dn K mg "is_below" fP uf)(oE:Dn K mg "joint" oV jU)(mO:Dn K mg "less" sI jU)(HJ:Dn K mg "bag_behind" fQ CZ)(vX:Dn K mg "run" Gq mR)(uH:Dn K mg "fault_behind" eZ Gj)(xO:Dn K mg "run_whole" lR mR)(xP:Ş K mg)(zR:Dn K mg "run_narrow" mD mR)(vV:Dn K mg "states_behind" fY Gi)(qG:Dn K mg "note" vq CV)(xH:Dn K mg "fill_along" jP JD)(wX:Dn K mg "fill_joined" gZ JF)(yD:Dn K mg "going_up" nH JG)(yL:a1t K mg)(uI:Dn K mg "tables" yK MN)(jW:Dn K mg "with_number" fj xj)(jX:Dn K mg "without_number" cU xq):bw P w K mg base fX 12 uI.f uI.fd MN (a2b K bN.C dw.C dD.C):=by
 have QC:=λx:Drw=>(Fy (P:=P) (base:=base) B Bz Ct U (a4r B bN x.c4 x.n x.ts x.ws x.lw jW jX) jV jy oE mO HJ vX uH xO xP zR vV qG xH wX yD yL uI);have QA:=λx:Drw=>(Fy (P:=P) (base:=base) B Bz Ct U (a4s B dw x.n x.ts x.ws x.lw jW jX) jV jy oE mO HJ vX uH xO xP zR vV qG xH wX yD yL uI);have QW:=λx:Drw=>(Fy (P:=P) (base:=base) B Bz Ct U (a4t B Bz dD x.n x.ts x.ws x.lw jW jX) jV jy oE mO HJ vX uH xO xP zR vV qG xH wX yD yL uI);have G:=bw.either (bw.exs QC) (bw.either (bw.exs QA) (bw.exs QW));refine _root_.K.bw.sub G λvs H Q E h=>?_;obtain⟨kd,c,pL,d,xs,ss,n,ts,ws,rfl,k0,k2,c4,qa,lw,cV,ne,hL,pL',l8,qg,b4,q⟩:=h;rcases(show kd=0\/kd=1\/kd=2 by omega)with e|e|e
 ·have eT:vH kd c ws n ts ss=Go.zM (pqC c ws) n ts ss ss.length:=by unfold vH;rw[aF e]
  have Fc:=W7 (P:=P) (w:=w) (base:=base) (kd:=kd) (c:=c) (a4r B bN c4 n ts ws lw jW jX) (Go.okC c4 ws) Z Z eT (λk h=>h) (λ_ _=>trivial) ne cV l8 qg b4 (λ{m s} h=>W8 (c:=(c:Int)) () h) Z (λs p v=>by unfold D1.T7;rw[aF e,j9];rfl);have g:=Go.RB (P:=P) (w:=w) (base:=base) (a4r B bN c4 n ts ws lw jW jX) (Go.okC c4 ws) (λk h=>h) (λ_ _=>trivial) ne cV l8 qg b4;exact .inl ⟨⟨n,ts,ws,lw,c,c4⟩,d,pL,xs,ss,Z,qa.1 e,cV,hL,pL',l8,qg,b4,g.1,g.2,λpT yt H' nv s hT qT=>q pT yt H' nv Fc s hT (by rw[eT];exact qT)⟩
 ·have eT:vH kd c ws n ts ss=Go.zM (pqA ws) n ts ss ss.length:=by unfold vH;rw[aq (),aF e]
  have Fc:=W7 (P:=P) (w:=w) (base:=base) (kd:=kd) (c:=c) (a4s B dw n ts ws lw jW jX) (Go.okA ws) Z Z eT (λk h=>h) (λ_ _=>trivial) ne cV l8 qg b4 (λ{m s} h=>W8 (c:=2) () h) Z (λs p v=>by unfold D1.T7;rw[aq (),aF e];rfl);have g:=Go.RB (P:=P) (w:=w) (base:=base) (a4s B dw n ts ws lw jW jX) (Go.okA ws) (λk h=>h) (λ_ _=>trivial) ne cV l8 qg b4;exact .inr (.inl ⟨⟨n,ts,ws,lw,0,()⟩,d,pL,xs,ss,Z,qa.2.1 e,cV,hL,pL',l8,qg,b4,g.1,g.2,λpT yt H' nv s hT qT=>q pT yt H' nv Fc s hT (by rw[eT];exact qT)⟩)
 ·have eT:vH kd c ws n ts ss=Go.zM (pqW ws) n ts ss ss.length:=by unfold vH;rw[aq (),aq ()]
  have Fc:=W7 (P:=P) (w:=w) (base:=base) (kd:=kd) (c:=c) (a4t B Bz dD n ts ws lw jW jX) (Go.okW ws) Z Z eT (λk h=>h) (λ_ _=>trivial) ne cV l8 qg b4 (λ{m s} h=>W8 (c:=3) () h) Z (λs p v=>by unfold D1.T7;rw[aq (),aq ()];rfl);have g:=Go.RB (P:=P) (w:=w) (base:=base) (a4t B Bz dD n ts ws lw jW jX) (Go.okW ws) (λk h=>h) (λ_ _=>trivial) ne cV l8 qg b4;exact .inr (.inr ⟨⟨n,ts,ws,lw,0,()⟩,d,pL,xs,ss,Z,qa.2.2 e,cV,hL,pL',l8,qg,b4,g.1,g.2,λpT yt H' nv s hT qT=>q pT yt H' nv Fc s hT (by rw[eT];exact qT)⟩)
end
end K
namespace De
open PyProof.Rows
open AutoSeq1 (wpAny_loadPart')
open MeetsSeq MeetsSeq2 MeetsSeq3 SeqRoads2
def Q9(prog:Program)(w:World)(A:Around)(s:Shared)(y x:Value):Prop:=∀(E:Value->Shared->Prop) (Q:Bool->Shared->Prop),Q true s->wpAny (model prog w) A (eqBool y x) Q E s
section
variable{prog:Program}{w:World}
def a2c(l b:Addr)(xs ys:Array Value)(n n2:Nat)(dd dd2:Option Addr)(sl sl2:Array (Option Value))(hz:xs.size=ys.size)(k:Nat) :
  ∀i:Nat,xs.size-i=k->MeetsIn prog w (Builtin.«list.__eq__.loop» ⟨[.ref l,.ref b,rawInt i,rawInt 2],[]⟩)
   (λA R s=>s.heap.get? l=some { cls:=.type "list",dict:=dd,data:=.seq xs n,slots:=sl}/\s.heap.get? b=some { cls:=.type "list",dict:=dd2,data:=.seq ys n2,slots:=sl2}/\
    (∀j (h1:j<xs.size) (h2:j<ys.size),Q9 prog w A.in1 s xs[j] ys[j])/\R (.ok (.ret (.bool true))) s):=by
 induction k with
 |zero =>
  intro i hk A R s h;obtain⟨hp,g,d,tk,os⟩:=s;obtain⟨gl,gb,he,h⟩:=h
  wp_walk using iG gl,iG gb
  have i1:xs[((i:Nat):Int).toNat]?=none:=by simp;omega
  have i2:ys[((i:Nat):Int).toNat]?=none:=by simp;omega
  rw[i1,i2]
  wp_walk using iG gl,iG gb
  show R (.ok (.ret (.bool (xs.size==ys.size)))) _;rw[hz];simpa using h
 |succ k ih =>
  intro i hk A R s h;obtain⟨hp,g,d,tk,os⟩:=s;obtain⟨gl,gb,he,h⟩:=h
  wp_walk using iG gl,iG gb
  have lt:i<xs.size:=()
  have Ý:i<ys.size:=()
  have i1:xs[((i:Nat):Int).toNat]?=some xs[i]:=by simp[lt]
  have i2:ys[((i:Nat):Int).toNat]?=some ys[i]:=by simp[Ý]
  rw[i1,i2];refine M (he i lt Ý _ _ ?_)
  wp_walk
  rw[show((i:Int)+1)=((i+1:Nat):Int) by push_cast;rfl];exact⟨mK plain_eq_loop _,j7 entry_eq_loop (by
   rw[lD plain_eq_loop _];exact ih (i+1) () A R _ ⟨gl,gb,he,h⟩)⟩
def a2d(l b:Addr)(xs ys:Array Value)(n n2:Nat)(dd dd2:Option Addr)(sl sl2:Array (Option Value))(hz:xs.size=ys.size) :
  MeetsIn prog w (Builtin.«list.__eq__» ⟨[.ref l,.ref b],[]⟩)
   (λA R s=>s.heap.get? l=some { cls:=.type "list",dict:=dd,data:=.seq xs n,slots:=sl}/\s.heap.get? b=some { cls:=.type "list",dict:=dd2,data:=.seq ys n2,slots:=sl2}/\
    (∀j (h1:j<xs.size) (h2:j<ys.size),Q9 prog w A.in1 s xs[j] ys[j])/\R (.ok (.ret (.bool true))) s):=by
 intro A R s h;obtain⟨hp,g,d,tk,os⟩:=s;obtain⟨gl,gb,he,h⟩:=h;have f3:=AutoSeq1.sub_list_list;have hne:¬(xs.size != ys.size)=true:=by simp[hz]
 wp_walk using iG gl,iG gb
 exact⟨mK plain_eq_loop _,j7 entry_eq_loop (by
  rw[lD plain_eq_loop _];exact a2c l b xs ys n n2 dd dd2 sl sl2 hz _ 0 Z A R _ ⟨gl,gb,he,h⟩)⟩
end
section
variable{prog:Program}{w:World}{A:Around}{E:Value->Shared->Prop}{s:Shared}
def Ξ{l b:Addr}{xs ys:Array Value}{Q:Value->Shared->Prop}(gl:s.heap.IsList l xs)(gb:s.heap.IsList b ys)(hz:xs.size=ys.size)(hu:A.units<cLine)
  (he:∀j (h1:j<xs.size) (h2:j<ys.size),Q9 prog w A.in1 s xs[j] ys[j]) (h:Q (.bool true) s):wpAny (model prog w) A (compareOp .Eq (.ref l) (.ref b)) Q E s:=by
 obtain⟨⟨cls,dd,data,sl⟩,ho,hc,n,hd⟩:=id gl;obtain⟨⟨cls2,dd2,data2,sl2⟩,ho2,hc2,n2,hd2⟩:=id gb;simp only at hc hd hc2 hd2;subst hc hd hc2 hd2;exact NZ (op:=.Eq) ⟨_,ho,Z⟩ ⟨_,ho2,Z⟩ F.slot_list_eq (El F.slot_list_eq ⟨_,ho,Z⟩ F.entry_list_eq (F.args_list_eq_2 _ _) (a2d l b xs ys n n2 dd dd2 sl sl2 hz)
  ⟨ho,ho2,he,show Value.bool true≠Value.notImplemented/\Q (.bool true) s from⟨(λz=>by cases z),h⟩⟩) hu
def Ö(v:Value):Q9 prog w A s v v:=λE Q h=>SeqAt.EqAt.same v prog w E Q h
def Nt{a b:Addr}(h:a≠b->∀(E:Value->Shared->Prop) (Q:Value->Shared->Prop),Q (.bool true) s->wpAny (model prog w) A (compareOp .Eq (.ref a) (.ref b)) Q E s):Q9 prog w A s (.ref a) (.ref b):=by
 by_cases c:a=b
 ·subst c;exact Ö _
 ·intro E Q hq;unfold eqBool;refine eU ?_;refine wpAny_ite_split (λhab=>absurd (by have:=eq_of_beq hab;injection this) c) (λ_=>?_);exact M (h c E _ (Aj hq))
end
end De
namespace L2
open PyProof.Rows Bg
section
variable{X:Cx}{K:aH}
def Tr(K:aH)(H:Hp)(u v:V):Prop:=∃p q ka kb,u=.ref p/\v=.ref q/\H p=some (.dT ka)/\H q=some (.dT kb)/\YG K H ka kb
def a2H(K:aH):R2:=λx y H Q=>∃a b xs ys,x=.ref a/\y=.ref b/\bC K H a xs/\bC K H b ys/\Paired (Tr K H) xs ys/\Q (.bl true) H
def a2e(hu:X.A.units+68<cLine):rz X (compareOp .Eq) (a2H X.K):=by
 symm;obtain⟨a,b,xs,ys,rfl,rfl,ea,eb,P,q⟩:=h;obtain rfl:v=Value.ref a:=rx;obtain rfl:u=Value.ref b:=ry;obtain⟨ia,ra,pa,za⟩:=I.list ea;obtain⟨ib,rb,pb,zb⟩:=I.list eb;have l1:=ra.length;have l2:=rb.length;have l3:=aM P;refine De.Ξ pa.isList pb.isList (by simp;omega) () (λj h1 h2=>?_) ⟨.bl true,H,I,Z,q⟩;have j1:j<xs.length:=by simp at h1;omega
 have hx:xs[j]?=some xs[j]:=bH j1;obtain⟨y',hy,p,q',ka,kb,e1,e2,hp,hq,S⟩:=bf P hx;obtain⟨u1,hu1,r1⟩:=ra.get hx;obtain⟨u2,hu2,r2⟩:=rb.get hy;have w1:ia.toArray[j]=u1:=by
  have:ia[j]?=some (ia[j]'(by simpa using h1)):=bH _;rw[this]at hu1;simpa using eO hu1
 have w2:ib.toArray[j]=u2:=by
  have:ib[j]?=some (ib[j]'(by simpa using h2)):=bH _;rw[this]at hu2;simpa using eO hu2
 rw[w1,w2];rw[e1]at r1;rw[e2]at r2;obtain rfl:u1=Value.ref p:=r1;obtain rfl:u2=Value.ref q':=r2;refine De.Nt λ_ E Q hQ=>?_;have I':=I.in1;obtain⟨_,sa,xa,ra,da⟩:=vM I'.hok hp;obtain⟨_,sb,xb,rb,db⟩:=vM I'.hok hq;have m1:=aM ra;have m2:=aM rb;have m3:=S.len;have hu':X.in1.A.units+66<cLine:=by show X.A.in1.units+66<cLine;rw[Al];omega
 exact De.eq_true (prog:=X.prog) (w:=X.w) (A:=X.A.in1) sa sb (wC (by rw[Al];omega)) da db (by rw[Al];omega) () (BR I' hu' ra rb S) hQ
def Tt(e:X.K=K)(hu:X.A.units+68<cLine):rz X (compareOp .Eq) (a2H K):=by subst e;exact a2e hu
end
end L2
namespace De
open PyProof.Rows
open AutoSeq1 (wpAny_loadPart')
open MeetsSeq MeetsSeq2 MeetsSeq3 SeqRoads2
section
variable{prog:Program}{w:World}
def Ο(l b:Addr)(xs ys:Array Value)(n n2:Nat)(dd dd2:Option Addr)(sl sl2:Array (Option Value))(hz:xs.size=ys.size)(k:Nat) :
  ∀i:Nat,xs.size-i=k->MeetsIn prog w (Builtin.«list.__eq__.loop» ⟨[.ref l,.ref b,rawInt i,rawInt 3],[]⟩)
   (λA R s=>s.heap.get? l=some { cls:=.type "list",dict:=dd,data:=.seq xs n,slots:=sl}/\s.heap.get? b=some { cls:=.type "list",dict:=dd2,data:=.seq ys n2,slots:=sl2}/\
    (∀j (h1:j<xs.size) (h2:j<ys.size),Q9 prog w A.in1 s xs[j] ys[j])/\R (.ok (.ret (.bool false))) s):=by
 induction k with
 |zero =>
  intro i hk A R s h;obtain⟨hp,g,d,tk,os⟩:=s;obtain⟨gl,gb,he,h⟩:=h
  wp_walk using iG gl,iG gb
  have i1:xs[((i:Nat):Int).toNat]?=none:=by simp;omega
  have i2:ys[((i:Nat):Int).toNat]?=none:=by simp;omega
  rw[i1,i2]
  wp_walk using iG gl,iG gb
  show R (.ok (.ret (.bool (xs.size != ys.size)))) _;rw[hz];simpa using h
 |succ k ih =>
  intro i hk A R s h;obtain⟨hp,g,d,tk,os⟩:=s;obtain⟨gl,gb,he,h⟩:=h
  wp_walk using iG gl,iG gb
  have lt:i<xs.size:=()
  have Ý:i<ys.size:=()
  have i1:xs[((i:Nat):Int).toNat]?=some xs[i]:=by simp[lt]
  have i2:ys[((i:Nat):Int).toNat]?=some ys[i]:=by simp[Ý]
  rw[i1,i2];refine M (he i lt Ý _ _ ?_)
  wp_walk
  rw[show((i:Int)+1)=((i+1:Nat):Int) by push_cast;rfl];exact⟨mK plain_eq_loop _,j7 entry_eq_loop (by
   rw[lD plain_eq_loop _];exact ih (i+1) () A R _ ⟨gl,gb,he,h⟩)⟩
def Ρ(l b:Addr)(xs ys:Array Value)(n n2:Nat)(dd dd2:Option Addr)(sl sl2:Array (Option Value))(hz:xs.size=ys.size) :
  MeetsIn prog w (Builtin.«list.__ne__» ⟨[.ref l,.ref b],[]⟩)
   (λA R s=>s.heap.get? l=some { cls:=.type "list",dict:=dd,data:=.seq xs n,slots:=sl}/\s.heap.get? b=some { cls:=.type "list",dict:=dd2,data:=.seq ys n2,slots:=sl2}/\
    (∀j (h1:j<xs.size) (h2:j<ys.size),Q9 prog w A.in1 s xs[j] ys[j])/\R (.ok (.ret (.bool false))) s):=by
 intro A R s h;obtain⟨hp,g,d,tk,os⟩:=s;obtain⟨gl,gb,he,h⟩:=h;have f3:=AutoSeq1.sub_list_list;have hne:¬(xs.size != ys.size)=true:=by simp[hz]
 wp_walk using iG gl,iG gb
 exact⟨mK plain_eq_loop _,j7 entry_eq_loop (by
  rw[lD plain_eq_loop _];exact Ο l b xs ys n n2 dd dd2 sl sl2 hz _ 0 Z A R _ ⟨gl,gb,he,h⟩)⟩
end
section
variable{prog:Program}{w:World}{A:Around}{E:Value->Shared->Prop}{s:Shared}
def Τ{l b:Addr}{xs ys:Array Value}{Q:Value->Shared->Prop}(gl:s.heap.IsList l xs)(gb:s.heap.IsList b ys)(hz:xs.size=ys.size)(hu:A.units<cLine)
  (he:∀j (h1:j<xs.size) (h2:j<ys.size),Q9 prog w A.in1 s xs[j] ys[j]) (h:Q (.bool false) s):wpAny (model prog w) A (compareOp .NotEq (.ref l) (.ref b)) Q E s:=by
 obtain⟨⟨cls,dd,data,sl⟩,ho,hc,n,hd⟩:=id gl;obtain⟨⟨cls2,dd2,data2,sl2⟩,ho2,hc2,n2,hd2⟩:=id gb;simp only at hc hd hc2 hd2;subst hc hd hc2 hd2;exact NZ (op:=.NotEq) ⟨_,ho,Z⟩ ⟨_,ho2,Z⟩ F.slot_list_ne (El F.slot_list_ne ⟨_,ho,Z⟩ F.entry_list_ne (F.args_list_ne_2 _ _) (Ρ l b xs ys n n2 dd dd2 sl sl2 hz)
  ⟨ho,ho2,he,show Value.bool false≠Value.notImplemented/\Q (.bool false) s from⟨(λz=>by cases z),h⟩⟩) hu
end
end De
namespace L2
open PyProof.Rows Bg
section
variable{X:Cx}{K:aH}{Y:List (Addr×Obj)}{σ:St}{H:Hp}{s:Shared}
def Υ{xs ys:List V}{ia ib:List Value}(I:bG X Y σ H s)(hu:X.A.units+68<cLine)(ra:cP xs ia)(rb:cP ys ib)(P:Paired (Tr X.K H) xs ys)(j:Nat)(h1:j<ia.toArray.size)(h2:j<ib.toArray.size):De.Q9 X.prog X.w X.A.in1 s ia.toArray[j] ib.toArray[j]:=by
 have l1:=ra.length;have j1:j<xs.length:=by simp at h1;omega
 have hx:xs[j]?=some xs[j]:=bH j1;obtain⟨y',hy,p,q',ka,kb,e1,e2,hp,hq,S⟩:=bf P hx;obtain⟨u1,hu1,r1⟩:=ra.get hx;obtain⟨u2,hu2,r2⟩:=rb.get hy;have w1:ia.toArray[j]=u1:=by
  have:ia[j]?=some (ia[j]'(by simpa using h1)):=bH _;rw[this]at hu1;simpa using eO hu1
 have w2:ib.toArray[j]=u2:=by
  have:ib[j]?=some (ib[j]'(by simpa using h2)):=bH _;rw[this]at hu2;simpa using eO hu2
 rw[w1,w2];rw[e1]at r1;rw[e2]at r2;obtain rfl:u1=Value.ref p:=r1;obtain rfl:u2=Value.ref q':=r2;refine De.Nt λ_ E Q hQ=>?_;have I':=I.in1;obtain⟨_,sa,xa,ra,da⟩:=vM I'.hok hp;obtain⟨_,sb,xb,rb,db⟩:=vM I'.hok hq;have m1:=aM ra;have m2:=aM rb;have m3:=S.len;have hu':X.in1.A.units+66<cLine:=by show X.A.in1.units+66<cLine;rw[Al];omega
 exact De.eq_true (prog:=X.prog) (w:=X.w) (A:=X.A.in1) sa sb (wC (by rw[Al];omega)) da db (by rw[Al];omega) () (BR I' hu' ra rb S) hQ
def a2I(K:aH):R2:=λx y H Q=>∃a b xs ys,x=.ref a/\y=.ref b/\bC K H a xs/\bC K H b ys/\Paired (Tr K H) xs ys/\Q (.bl false) H
def a2f(hu:X.A.units+68<cLine):rz X (compareOp .NotEq) (a2I X.K):=by
 symm;obtain⟨a,b,xs,ys,rfl,rfl,ea,eb,P,q⟩:=h;obtain rfl:v=Value.ref a:=rx;obtain rfl:u=Value.ref b:=ry;obtain⟨ia,ra,pa,za⟩:=I.list ea;obtain⟨ib,rb,pb,zb⟩:=I.list eb;have l1:=ra.length;have l2:=rb.length;have l3:=aM P;exact De.Τ pa.isList pb.isList (by simp;omega) () (Υ I hu ra rb P) ⟨.bl false,H,I,Z,q⟩
def Χ(e:X.K=K)(hu:X.A.units+68<cLine):rz X (compareOp .NotEq) (a2I K):=by subst e;exact a2f hu
def a2g{j:Nat}{pos:Pos}{es:List Expr}{t:TA}(hr:Θ X es t):Θ X (.Constant .none j pos::es) (Jm (tC .non) t):=⟨O sy hr.h⟩
def a6U:List V->Hp->VK->Prop:=λxs H Q=>∃a J,xs=[.ref a]/\H a=some (.dT J)/\Q (.int ((J.length:Nat):Int)) H
def Nu:jF X (.builtin "len") a6U:=by
 intro Y s σ H xs us Q I r h;obtain⟨a,ts,rfl,e,q⟩:=h;obtain⟨u,rfl,rx⟩:=vals1 r;cases rx;obtain⟨z,hd,vs,rel,dd⟩:=RW I.hok (.inl e);obtain⟨o,es,ep,h1,h2,h3,h4,h5,h6⟩:=id dd;have lv:vs.length=ts.length:=by rw[<-rel.length]
 have le:es.size=ts.length:=by
  rw[<-lv,<-rY,h4,aJ]
 rw[iU]at z;refine Dl.a1T hd ⟨o,h1,h2.1⟩ h1 h3 (by rw[le];omega) ?_;rw[le];exact⟨.int _,H,I.tok _,⟨_,Z⟩,q⟩
end
end L2
namespace L2
open PySem.Calls PyProof.Rows
section
variable{X:Cx}
theorem KR:∀(n:Nat) (acc:List Value),(∀i:Nat,i<n->∃t,acc[i]?=some (Value.int ((i:Nat):Int) t))->acc.length=n->cP ((List.range n).map λi=>V.int ((i:Nat):Int)) acc
 |0,acc,_,hl=>by rw[ê hl];exact .nil
 |n+1,acc,h,hl=>by
  have hne:acc≠[]:=λz=>by rw[z]at hl;cases hl
  have e:=(ë hne).symm
  have ld:acc.dropLast.length=n:=by rw[Og];omega
  rw[u5,dH,e]
  refine cP.append (KR n acc.dropLast (λi hi=>?_) ld) ?_
  ·obtain⟨t,et⟩:=h i ()
   rw[e,xU ()]at et
   exact⟨t,et⟩
  ·obtain⟨t,et⟩:=h n ()
   rw[e,xT (),ld]at et
   simp at et
   rw[et]
   exact .cons ⟨t,Z⟩ .nil
def range_list{Y:List (Addr×Obj)}{σ:St}{H:Hp}{s:Shared}{Q:VK}{E:Value->Shared->Prop}{n:Nat}{t u v:Tok}{tk:Nat}(I:bG X Y σ H s)(cm:X.calm=true)(hn:n<=1000)
  (q:∀p H',gP H p (.lst ((List.range n).map λi=>V.int ((i:Nat):Int))) H'->Q (.ref p) H') :
  wpAny (model X.prog X.w) X.A (call (.type "list") [.ref s⁻¹]) (EP X Y σ Q) E { s with heap:=s.heap.push { cls:=.type "range",data:=.fields #[.int 0 t,.int n u,.int 1 v]},toks:=tk}:=by
 have I2:bG X Y σ H { s with heap:=s.heap.push { cls:=.type "range",data:=.fields #[.int 0 t,.int n u,.int 1 v]},toks:=tk}:=I.kept λb o e=>bB _ e;refine call_list_range (I2.ok.hd cm) (IsRange.new ..) (small_one () () () ()) (n:=n) (by rw[rangeSize_one];split<;>omega) () λh' tk' acc' c' hk hS hacc=>?_;refine⟨.ref _,_,I2.laid (t':=tk') hk (aL _) (show fM X.prog X.w _ h' _ (.lst ((List.range n).map λi=>V.int ((i:Nat):Int)))from⟨?_,acc'.toList,c',?_,?_⟩),Z,q _ _ (gP.ou (I2.hok.fresh (aL _)))⟩
 ·rw[aJ,qu];exact dU (cL hn)
 ·refine KR n _ (λi hi=>?_) ?_
  ·have hlt:i<acc'.size:=by have:=hacc.1;omega
   obtain⟨t,e⟩:=hacc.2 i acc'[i] (uW hlt);refine⟨t,?_⟩;rw[Im,uW hlt,e];congr 2;omega
  ·rw[rY];exact hacc.1
 ·simpa using hS
def a4O(ta:TA):TE:=λσ H Q=>ta σ H λvs H1=>∃n:Nat,vs=[.int (n:Int)]/\n<=1000/\∀p H',gP H1 p (.lst ((List.range n).map λi=>V.int ((i:Nat):Int))) H'->Q (.ref p) H'
def Ω{a:Expr}{ta:TA}{p p2 pos pos2:Pos}(cm:X.calm=true)(hm:X.mg "list" = none)(hm2:X.mg "range" = none)(ha:PA X [a] ta)(hg:Gl X "list" := by rfl)(hg2:Gl X "range" := by rfl)
  (hs:starEach [a] X.env=[(false,eval a X.env)]:=by rfl)
  (he:starEach [Expr.Call (.Name "range" p2) [a] [] pos2] X.env=[(false,eval (Expr.Call (.Name "range" p2) [a] [] pos2) X.env)]:=by rfl) :
  PE X (.Call (.Name "list" p) [.Call (.Name "range" p2) [a] [] pos2] [] pos) (a4O ta):=by
 intro Y s σ H Q I h;refine wB (tW I hg hm (show bootBuiltins "list" = some (.type "list") by decide) (wz ?_ he rfl));rw[he];refine Calls.spliced_cons (Call_ (tW I hg2 hm2 boot_range (wz (jr (ha pos2 Y s σ H _ I h) λus s1 ⟨vs,H1,I1,r1,q1⟩=>?_) hs Z)));obtain⟨n,e,hn,q⟩:=q1;subst e;cases r1 with
 |cons r rr =>
  cases rr;obtain⟨t,rfl⟩:=r;exact call_range_1 (Calls.spliced_nil (range_list I1 cm hn q))
end
end L2
namespace K
open L2 Lw Bg
variable{H:Hp}{ts:List bW}{X:Cx}{K:aH}
structure PSw(X:Cx)(s:Stmt)(t:TS):Prop where
 h:PS X s t
structure Ø(X:Cx)(ss:List Stmt)(t:TS):Prop where
 h:Rj X ss t
def η:Ø X [] a2l:=⟨bT⟩
def dY{s:Stmt}{ss:List Stmt}{t:TS}{ts:TS}(h:PSw X s t)(hs:Ø X ss ts):Ø X (s::ss) (a5b t ts):=⟨aG h.h hs.h⟩
def KY{s:Stmt}{ss:List Stmt}{t:TS}{ts:TS}(h:PSw X s t)(hs:Ø X ss ts):Ø X (s::ss) (a5E t ts):=⟨qP h.h hs.h⟩
abbrev Nv:Stmt:=top 49
def iW:bD ["_law_script","_law_n","_law_most","_law_rows_here","_law_web","_law_steps","_law_weights","_law_kind","_law_marks","_law_question","_law_handed","_law_told","_law_kept","_law_again","_law_k"] ["_law_script"] (aB Nv):={}
def Ù(H:Hp)(u v:V):Prop:=∃p p' J,u=.ref p/\v=.ref p'/\H p=some (.dT J)/\H p'=some (.dT J)
def Ù.same{H':Hp}{u v:V}(s:aK H H')(h:Ù H u v):Ù H' u v:=by
 obtain⟨p,p',J,e,e',h,h'⟩:=h;exact⟨p,p',J,e,e',s _ _ h,s _ _ h'⟩
def θ{Ts:List cI}{xs ys zs:List V}(nd:∀T∈Ts,(T.map (·.1)).Nodup)(h1:Paired (GQ H) xs Ts)(h2:Paired (GQ H) ys Ts)(h3:Paired (Ù H) ys zs):Paired (Tr K H) xs zs:=by
 induction h1 generalizing ys zs with
 |nil=>cases h2;cases h3;exact .nil
 |cons a _ ih =>
  cases h2 with
  |cons b t2 =>
  cases h3 with
  |cons c t3 =>
  refine .cons ?_ (ih (λT hT=>nd T (aY _ hT)) t2 t3);obtain⟨p,ka,rfl,hp,wa⟩:=a;obtain⟨q,kb,rfl,hq,wb⟩:=b;obtain⟨q',r,kc,e2,rfl,hq',hr⟩:=c;cases e2;rw[hq]at hq';cases hq';exact⟨p,r,ka,kb,Z,Z,hp,hr,KN wa (KQ wb) Z (nd _ aO)⟩
def Ra{G G0 G':Hp}{d:Addr}(s:aK G G0)(f:G d=none)(h:Sd d G0 G'):aK G G':=λc o e=>h c o (λz=>by rw[z,f]at e;cases e) (s c o e)
def QAt.keep{K:aH}{CC CA CW:Addr}{kd:Int}{c n:Nat}{ts:List bW}{ws:List Int}{H H':Hp}{d:Addr}(s:aK H H')(h:QAt K CC CA CW kd c n ts ws H d):QAt K CC CA CW kd c n ts ws H' d:=⟨λe=>(h.1 e).keep (.of s),λe=>(h.2.1 e).keep (.of s),λe=>(h.2.2 e).keep (.of s)⟩
def tp4{n:Nat}{ss:List bZ}(b4:∀b∈(cD n ts ss).aQ,b.length<=4)(k:Nat):(Go.gH n ts ss k).length<=4:=by
 show((cD n ts ss).aQ.getD k []).length<=4;rw[fV];by_cases c:k<(cD n ts ss).aQ.length
 ·rw[bH c];exact b4 _ (qx c)
 ·rw[List.getElem?_eq_none ()];exact dh _
def ξ{tx:List V}(h:Paired (oN H) tx ts):Paired (a0D K H) tx (ts.map λt=>[t.1,t.2]):=by
 induction h with
 |nil=>exact .nil
 |cons a _ ih =>
  obtain⟨p,e,h⟩:=a;exact .cons ⟨p,e,cO.of h⟩ ih
def Ú{tx:List V}(h:Paired (oN H) tx ts){q:List Nat}(hq:∀i∈q,i<ts.length):Paired (oN H) (q.map λi=>tx.getD i .non) (q.map λi=>ts.getD i (0,0)):=by
 induction q with
 |nil=>exact .nil
 |cons i q ih =>
  have il:=hq i aO;obtain⟨v,hv,r⟩:=cM h (bH il);refine .cons ?_ (ih λj hj=>hq j (aY _ hj));show oN H (tx.getD i .non) (ts.getD i (0,0));rw[fV,fV,hv,bH il];exact r
def zB{q:List Nat}(h:q.Perm (List.range ts.length)):(q.map λi=>ts.getD i (0,0)).Perm ts:=by
 have e:(List.range ts.length).map (λi=>ts.getD i (0,0))=ts:=by
  refine U4 (by rw[aJ,qu]) λi h1 h2=>?_;rw[List.getElem_map,List.getElem_range,fV,bH h2];rfl
 rw[<-e];have:=h.map λi=>ts.getD i (0,0)
 rwa [e]at this ⊢
def Aft(as:List Addr)(G0 G:Hp)(i:Nat):Prop:=∀(j:Nat) (a:Addr) (J:List (List Key×V)),as[j]?=some a->G0 a=some (.dT J)->if j<i then ∃t,G a=some (.dT (putK J (rU [99]) (.ref t)))/\G t=some (.tup [.int (j:Int),.int (j:Int)])else G a=some (.dT J)
section
variable{P:Program}{w:World}{mg:Str->Option Value}{base:Heap}
def a4P(B:Bl mg)(Bz:mg "zip" = none)(cF:qL K mg)(bN:v5 K mg)(dw:Dp K mg)(dD:Dr K mg)(U:Used w K mg)(Ct:Ŝ mg)(jV:Fq K mg)(jy:Dn K mg "is_below" fP uf)(oE:Dn K mg "joint" oV jU)(mO:Dn K mg "less" sI jU)(HJ:Dn K mg "bag_behind" fQ CZ)(vX:Dn K mg "run" Gq mR)(uH:Dn K mg "fault_behind" eZ Gj)(xO:Dn K mg "run_whole" lR mR)(xP:Ş K mg)(zR:Dn K mg "run_narrow" mD mR)(vV:Dn K mg "states_behind" fY Gi)(qG:Dn K mg "note" vq CV)(xH:Dn K mg "fill_along" jP JD)(wX:Dn K mg "fill_joined" gZ JF)(yD:Dn K mg "going_up" nH JG)(yL:a1t K mg)(uI:Dn K mg "tables" yK MN)(tE:Dn K mg "weights_of" jR Gm)(jW:Dn K mg "with_number" fj xj)(jX:Dn K mg "without_number" cU xq)(qN:Dn K mg "_law_at" tL MP)(dZ5:Dn K mg "_law_rows" uU X5)(ŵ:Dn K mg "_law_ties" rG X7)(Gs:Dn K mg "_law_laid" lV Dc)(Ì:DZ7 K mg)(YC:DZ8 K mg)(Í:Dn K mg "_law_formed" jZ R6)(Ð:Dn K mg "_law_behind" j4 R7)(á:Dn K mg "_law_fits" oh X8)(Rb:Dn K mg "law" Nv ["_law_script"]):bw P w K mg base fX 24 Rb.f Rb.fd ["_law_script"] (a2q K):=by
 have T4:bw P w K mg base fX 23 _ _ _ _:=(BP B qN).mono ();have gZ5:bw P w K mg base fX 23 _ _ _ _:=(QV B qN dZ5).mono ();have gZ6:bw P w K mg base fX 23 _ _ _ _:=(QZ B qN ŵ).mono ();have gZ4:bw P w K mg base fX 23 _ _ _ _:=(DP B Gs 20).mono ();have gZ2:bw P w K mg base fX 23 _ _ _ _:=(Q7 B Ì YC Í Ð á).mono ();have BV:bw P w K mg base fX 22 _ _ _ _:=(Hg B Ct cF bN jV jy tE).mono ();have FP:bw P w K mg base fX 22 _ _ _ _:=(Ma B Ct cF dw jV jy tE).mono ();have FQ:bw P w K mg base fX 22 _ _ _ _:=(Mf B Ct cF dD jV jy tE).mono ();have a4Q:bw P w K mg base fX 23 _ _ _ _:=(Õ B Bz bN dw dD U Ct jV jy oE mO HJ vX uH xO xP zR vV qG xH wX yD yL uI jW jX).mono ();exists Rb.F.ok iW;obtain⟨a,ns,rfl,hS,h63,q⟩:=h;have hu:(A.deeper (PyProof.Rows.envOfC "law" (aB Nv) s⁻¹ Rb.f dz)).units+68<cLine:=by have:=hr.un;omega
 have hu4:(A.deeper (PyProof.Rows.envOfC "law" (aB Nv) s⁻¹ Rb.f dz)).units+64<cLine:=()
 have hw1:(A.deeper (PyProof.Rows.envOfC "law" (aB Nv) s⁻¹ Rb.f dz)).units+1<cLine:=()
 refine⟨_,(Ø.h (dY ⟨(bK 1 iW.nd (bQ kj (bx T4 hr Z qN.m qN.F.kp qN.b .nil cu (O (pv 0) (O aA aj))) aA))⟩
   (dY ⟨(bK 2 iW.nd (bQ gw aA (bQ kj (bx T4 hr Z qN.m qN.F.kp qN.b .nil cu (O (pv 0) (O aA aj))) aA)))⟩
   (KY ⟨(dZ (aP oH (bQ kj (bQ a0e (bx T4 hr Z qN.m qN.F.kp qN.b .nil cu (O (pv 0) (O aA aj))) aA) aA) aA)
   (aG (bK 1 iW.nd aA)
   (aD (bK 2 iW.nd (bQ gw aA (bQ kj (pv 2) aA)))))
   bT)⟩
   (dY ⟨(bK 3 iW.nd (bx gZ5 hr Z dZ5.m dZ5.F.kp dZ5.b .nil cu (O (pv 0) (O (pv 1) (O (pv 2) aj)))))⟩
   (dY ⟨(bK 4 iW.nd (aZ (O (pv 1) (O (bh (Cz (K:=K) Z) Z B.sorted () (O (bx gZ6 hr Z ŵ.m ŵ.F.kp ŵ.b .nil cu (O (pv 0) (O (pv 3) (O (pv 1) aj)))) aj)) aj))))⟩
   (dY ⟨(bK 5 iW.nd (bQ qQ (bx gZ4 hr Z Gs.m Gs.F.kp Gs.b .nil cu (O (aR (aV (K:=K) Z) (pv 4) aA) (O (pv 3) (O aA aj)))) (jT ["_law_v"] [none]  (by kernel_rfl) Z (fC (K:=K) Z (aR (aV (K:=K) Z) (aR (bA (K:=K) Z) (pv 3) aA) aA)) (λ_ _ _ _ _=>(aN 0 (show(["_law_v"]:List Str).Nodup by decide))) (λ_ _ _ _ _=>gA) λ_ _ _ _ _=>(aZ (O gq (O (pv 0) aj))))))⟩
   (dY ⟨(Jr (i:=6) X6 [none,some 0] iW.nd Z Z (by kernel_rfl) Z (iY Z B.range (O (pv 1) aj)) (λ_ _ _ _ _=>(aN 0 (show(X6:List Str).Nodup by decide))) (λ_ _ _ _ _=>gA) (λ_ _ _ _ _=>(bQ kj (bx T4 hr Z qN.m qN.F.kp qN.b .nil cu (O (pv 1) (O (bQ gw aA (pv 0)) aj))) (bQ a2Z aA aA))) (by rfl))⟩
   (dY ⟨(bK 7 iW.nd (bQ kj (bx T4 hr Z qN.m qN.F.kp qN.b .nil cu (O (pv 0) (O aA aj))) aA))⟩
   (dY ⟨(bK 8 iW.nd (Ω Z B.list B.range (O (bQ kj (bx T4 hr Z qN.m qN.F.kp qN.b .nil cu (O (pv 0) (O aA aj))) aA) aj)))⟩
   (dY ⟨(bK 9 iW.nd (PL bN.mkd BV hr Z bN.m bN.bM.b .nil cu (O (pv 4) (O (bh (cG (K:=K) Z) Z B.len () (O (pv 8) aj)) (O (pv 6) aj)))))⟩
   (KY ⟨(dZ (aP oH (pv 7) aA)
   (aG (bK 8 iW.nd (cH (O aA (O aA aj))))
   (aD (bK 9 iW.nd (PL dw.mkd FP hr Z dw.m dw.bM.b .nil cu (O (pv 4) (O (pv 6) aj))))))
   bT)⟩
   (KY ⟨(dZ (aP oH (pv 7) aA)
   (aG (bK 8 iW.nd (cH (O aA (O aA aj))))
   (aD (bK 9 iW.nd (PL dD.mkd FQ hr Z dD.m dD.bM.b .nil cu (O (pv 4) (O (pv 6) aj))))))
   bT)⟩
   (dY ⟨(bK 10 iW.nd (jG (wU (K:=K) Z) Z B.list () (O (pv 5) aj)))⟩
   (dY ⟨(bK 11 iW.nd (bx a4Q hr Z uI.m uI.F.kp uI.b .nil cu (O (pv 10) (O (pv 9) aj))))⟩
   (dY ⟨(dZ (PW.pt (FT (sE (gK (K:=K) Z (bx gZ2 hr Z á.m á.F.kp á.b .nil cu (O (pv 11) (O (pv 5) (O (pv 8) aj)))) λ_=>rfl)) (Er (aP (Hq (K:=K) Z hu4) (pv 10) (pv 5)))))
   (aD (bF w6))
   bT)⟩
   (dY ⟨(Jr (i:=12) ["_law_table"] [none] iW.nd Z Z (by kernel_rfl) Z (fC (K:=K) Z (pv 11)) (λ_ _ _ _ _=>(aN 0 (show(["_law_table"]:List Str).Nodup by decide))) (λ_ _ _ _ _=>gA) (λ_ _ _ _ _=>(jG W5 Z B.dict () (O (pv 0) aj))) (by rfl))⟩
   (dY ⟨(bK 13 iW.nd (bx a4Q hr Z uI.m uI.F.kp uI.b .nil cu (O (pv 10) (O (pv 9) aj))))⟩
   (dY ⟨(dZ (aP (Χ (K:=K) Z hu) (pv 13) (pv 12))
   (aD (bF w6))
   bT)⟩
   (dY ⟨(jo iR Z (iY Z B.range (O (bh (cG (K:=K) Z) Z B.len () (O (pv 13) aj)) aj)) (aN 14 iW.nd)
   (aD (yh (aZ (O (pv 14) (O (pv 14) aj))) (PJ (aR (bA (K:=K) Z) (pv 13) (pv 14)) (aZ (O aA aj)) (zF hw1)))))⟩
   (dY ⟨(jo iR Z (iY Z B.range (O (bh (cG (K:=K) Z) Z B.len () (O (pv 13) aj)) aj)) (aN 14 iW.nd)
   (aD (dZ (PW.pt (FT (aP (Hq (K:=K) Z hu4) (oK (K:=K) Z Ac Od PySem.F.type_dict_get (a0Z hw1) (aR (bA (K:=K) Z) (pv 13) (pv 14)) (L2.Θ.h (a1V (Q6 Ie) (a2g Ie)))) (aZ (O (pv 14) (O (pv 14) aj)))) (Er (aP Ji (bh Nu Z B.len () (O (aR (bA (K:=K) Z) (pv 13) (pv 14)) aj)) (bQ gw (bh Nu Z B.len () (O (aR (bA (K:=K) Z) (pv 12) (pv 14)) aj)) aA)))))
   (aD (bF w6))
   bT)))⟩
   (dY ⟨(gJ (qO (K:=K) Z kZ PySem.F.slot_list_clear PySem.F.type_list_clear Zi (pv 13)))⟩
   (dY ⟨(bF (Pz (zu (Tt (K:=K) Z hu) (pv 11) (pv 12)) (Py (zu (Tt (K:=K) Z hu) (bx a4Q hr Z uI.m uI.F.kp uI.b .nil cu (O (pv 5) (O (pv 9) aj))) (pv 12)))))⟩
   η))))))))))))))))))))))),?_⟩
 refine⟨_,Z,a,ns,0,Z,hS,h63,(),(),λz0=>⟨_,_,Z,Z,(show(0:Int)<_ by decide),?_⟩⟩;refine⟨_,Z,a,ns,1,Z,hS,h63,(),(),λz1=>⟨_,_,Z,Z,(show(0:Int)<_ by decide),_,_,Z,Z,?_⟩⟩;have u0:=su z0 (show(7:Int)≠0 by decide);have u1:=rZ z0 (show(0:Int)<7 by decide);have w0:=su z1 (show(3:Int)≠0 by decide);have w1:=rZ z1 (show(0:Int)<3 by decide);refine⟨λσ' H'=>∃(n most:Nat),σ'=[some (.ref a),some (.int (n:Int)),some (.int (most:Int)),none,none,none,none,none,none,none,none,none,none,none,none]/\H'=H/\n<=10/\2<=most/\most<=4,?_,?_⟩
 ·obtain⟨n0,e0⟩:∃n0:Nat,z0%7=(n0:Int):=⟨(z0%7).toNat,()⟩;obtain⟨m0,e1⟩:∃m0:Nat,2+z1%3=(m0:Int):=⟨(2+z1%3).toNat,()⟩;have v0:=su (2+z1%3) (show(2:Int)≠0 by decide);have v1:=rZ (2+z1%3) (show(0:Int)<2 by decide);obtain⟨mm,em⟩:∃mm:Nat,2+(2+z1%3)%2=(mm:Int):=⟨(2+(2+z1%3)%2).toNat,()⟩;refine⟨_,Z,a,ns,0,Z,hS,h63,(),(),λz2=>⟨_,_,Z,Z,⟨(),()⟩,_,_,Z,Z,(show(0:Int)<_ by decide),Z,_,Z,zP (λc=>?_) λc=>?_⟩⟩
  ·exact⟨_,Z,_,_,Z,Z,(show(0:Int)<_ by decide),_,_,Z,Z,10,mm,by rw[<-em];rfl,Z,(),(),()⟩
  ·exact⟨n0,m0,by rw[<-e0,<-e1];rfl,Z,(),(),()⟩
 rintro σ1 H1 ⟨n,most,rfl,rfl,cV,m2,m4⟩;refine⟨_,Z,_,Z,_,Z,a,ns,n,most,Z,hS,h63,cV,(),(),λl ys rs H2 s2 fl hl pl R r20=>?_⟩;refine⟨_,Z,_,Z,_,Z,_,Z,a,l,ns,ys,rs,n,Z,hS.same s2,h63,hl,pl,(),cV,λr0 tx0 ts0 H3 s3 fr0 hr0 pt0 a74 Rf bi0 a8f=>?_⟩;have a75:=aM pt0;refine⟨r0,tx0,ts0.map λt=>[t.1,t.2],Z,bC.of hr0,ξ pt0,λns h=>?_,(),λqq r H4 pq _ n4=>?_⟩
 ·obtain⟨t,_,rfl⟩:=dW.mp h;exact λz=>by cases z
 rw[a75]at pq;have pp:=zB pq;have pt4:=Paired.cC (Ú pt0 λi hi=>mJ.mp (pq.mem_iff.mp hi)) λ_ _ h=>oN.same n4.same h;have hr4:=n4.here;have s4:=s3.trans n4.same;have tbd:=λt ht=>a74 t (pp.mem_iff.mp ht);have bi:=λt ht=>bi0 t (pp.mem_iff.mp ht);have nd:=pp.nodup_iff.mpr Rf;have l45:=pp.length_eq;generalize (qq.map λi=>ts0.getD i (0,0))=ts at pt4 tbd bi nd l45;generalize (qq.map λi=>tx0.getD i V.non)=tx at pt4 hr4;refine⟨(),λpg H5 n5=>?_⟩;have s25:=s4.trans n5.same;have s05:=s2.trans s25;have hr5:=n5.same _ _ hr4;have pt5:=Paired.cC pt4 λ_ _ h=>oN.same n5.same h;have T:=R.T;have hl5:=s25 _ _ hl;have pl5:=Paired.cC pl λ_ _ h=>Qg.same s25 h;have hg5:=n5.here;refine⟨_,Z,pg,_,1,.ref r,Z,Z,cO.of hg5,Z,_,Z,r,l,tx,ys,ts,rs,n,most,0,Z,hr5,pt5,(),hl5,pl5,R,m4,r20,cV,T.pos,(),λp4 x4 H7 s7 f4 h4 q4=>?_⟩;obtain⟨v0,hx0,⟨pk,bk,rfl,Ŷ,hbk,nbk,lbk⟩⟩:=cM pl5 (vK T.pos);refine⟨_,Z,l,_,_,_,Z,Z,bC.of (s7 _ _ hl5),bR (j:=0) hx0,pk,_,_,_,Z,Z,cO.of (s7 _ _ Ŷ),Z,bk,Z,⟨_,bC.of (s7 _ _ hbk)⟩,?_⟩;have hW4:∀j,(fU rs j).length<=4:=λj=>dI (R.few j) m4;have b10:(fU rs 0).length<=4:=hW4 0;refine Ia (fU rs 0) (λ_=>true) bZ.out (bC.of (s7 _ _ hbk)) () (λv H8 N Z98 _ s8 hN hM=>⟨_,Z,(),λp H9 n9=>hN Z p H9 n9⟩) (λH8 p5 x5 H9 s8 n9 q9=>?_);rw[List.filter_eq_self.mpr (λ_ _=>rfl)]at q9;have s79:=s8.trans n9.same;have l4:=aM q4;have l9:=aM q9;rw[aJ]at l9;have ll:=Nk T hW4 r20 false (show ts.length<=100 by omega) (f:=20) T.pos;refine⟨p4,p5,_,_,Z,Z,s79 _ _ h4,n9.here,(),λpW à nW=>?_⟩;have a6V:=s7.trans (s79.trans nW.same);obtain⟨ss,ess⟩:∃ss,ss=BK false ts rs.length (DY rs) (fU rs) 20:=⟨_,Z⟩;have qW:Paired (wu à) (x4++x5) ss:=by
  rw[ess];exact lK (Paired.cC q4 λ_ _ h=>wu.same (s79.trans nW.same) h) (Paired.cC q9 λ_ _ h=>wu.same nW.same h)
 have lss:ss.length<=800:=by
  rw[<-aM qW,cA];omega
 obtain⟨qg,b4⟩:=È (n:=n) (wd:=4) (ts:=ts) T cV hW4 nd (λt ht=>bi t ht) (λv v0 vn=>(R.cov v v0 vn).resolve_left eN) (show rs.length<=20 from r20) false;rw[<-ess]at qg b4;have RP:=Go.a2D cV qg;have a76:=s05.trans a6V;have xl:=aM qW;refine⟨_,Z,_,Z,(),(),?_⟩;rw[jD];refine yq (λi zs H'=>H'=à/\∃ws:List Int,zs=ws.map V.int/\ws.length=i/\∀x∈ws,0<=x/\x<10^30) ⟨Z,[],Z,Z,λx h=>absurd h eN⟩ (λi zs H' hi ⟨e,ws,e1,l1,_⟩=>?_) (λi zs H' hi ⟨e,ws,e1,l1,b1⟩=>?_) ?_
 ·rw[e1,aJ,l1];exact dU (cL ())
 ·subst e;refine⟨_,Z,_,Z,_,_,Z,Z,a,ns,_,Z,hS.same a76,h63,(),(),λz=>⟨_,_,Z,Z,⟨(),(),()⟩,_,_,Z,Z,(show(0:Int)<10^30 by decide),Z,ws++[z%10^30],?_,?_,λx hx=>?_⟩⟩
  ·rw[e1,dH];rfl
  ·rw[cA,l1];rfl
  ·rcases cJ.mp hx with h|h
   ·exact b1 x h
   ·rw[bJ.mp h];exact⟨su z (),rZ z ()⟩
 rintro zs a6W ⟨rfl,ws,rfl,lw,wb⟩ pw hpw;have Ft:=gP.ou (H:=a6W) (p:=pw) (o:=.lst (ws.map V.int)) hpw;generalize cN a6W pw (.lst (ws.map V.int))=H11 at Ft ⊢;have wok:Z8 n (some ws)=true:=by
  unfold Z8;rw[qw,fB,IK];refine⟨lw,λx hx=>?_⟩;have:=wb x hx;rw[qw,fB,fB];exact⟨this.1,this.2⟩
 have a2h:=a6V.trans Ft.same;have a4R:=s05.trans a2h;have web:∀{G:Hp},aK H11 G->cO K G pg [.int n,.ref r]/\G r=some (.lst tx)/\Paired (oN G) tx ts/\WtV K G (.ref pw) (some ws):=λ{G} s=>⟨cO.of ((a2h.trans s) _ _ hg5),(a2h.trans s) _ _ hr5,Paired.cC pt5 λ_ _ h=>oN.same (a2h.trans s) h,pw,Z,bC.of (s _ _ Ft.here)⟩;refine⟨_,Z,a,ns,5,Z,hS.same a4R,h63,(),(),λz5=>⟨_,_,Z,Z,(show(0:Int)<_ by decide),?_⟩⟩;have k0:=su z5 (show(3:Int)≠0 by decide);have k1:=rZ z5 (show(0:Int)<3 by decide);obtain⟨kd,ekd⟩:∃kd:Int,z5%3=kd:=⟨_,Z⟩;dsimp only;rw[ekd];rw[ekd]at k0 k1;refine⟨_,Z,a,ns,6,Z,hS.same a4R,h63,(),(),λz6=>⟨_,_,Z,Z,(show(0:Int)<_ by decide),?_⟩⟩;have y0:=su z6 (show(5:Int)≠0 by decide);have y1:=rZ z6 (show(0:Int)<5 by decide);obtain⟨c,ec⟩:∃c:Nat,z6%5=(c:Int):=⟨(z6%5).toNat,()⟩;dsimp only;rw[ec];have c4:c<=4:=()
 refine⟨c,Z,(),λpm0 Wu n12=>?_⟩;have eM0:((List.range c).map λi=>V.int ((i:Nat):Int))=(D1.T7 0 c).map V.int:=by
  unfold D1.T7;rw[aF Z,j9];rfl
 rw[eM0]at n12;refine⟨_,Z,_,Z,pm0,_,Z,.inl (bC.of n12.here),_,Z,λd0 dx0 f0 fx0 ne0=>?_⟩;have lm0:(((D1.T7 0 c).map V.int).length:Nat)=c:=by
  unfold D1.T7;rw[aF Z,aJ,aJ,qu]
 rw[lm0];have s0:aK Wu (cN (cN Wu dx0 (.own d0)) d0 (.ins bN.C dx0 [])):=(rB fx0 _).trans (rB (by rw[aU (Ne.symm ne0)];exact f0) _);have hd0:cN (cN Wu dx0 (.own d0)) d0 (.ins bN.C dx0 []) d0=some (.ins bN.C dx0 []):=cY;generalize cN (cN Wu dx0 (.own d0)) d0 (.ins bN.C dx0 [])=G0 at s0 hd0 ⊢;obtain⟨w1,w2,w3,w4⟩:=web (n12.same.trans s0);refine⟨d0,dx0,pg,r,n,c,tx,ts,.ref pw,some ws,Z,(),hd0,w1,w2,w3,(),(),w4,λws' e=>by cases e;omega,wok,λH13 sd0 at0=>⟨Z,?_⟩⟩;have a2J:=Ra s0 f0 sd0;have sJ:=n12.same.trans a2J;refine⟨λσ' G=>∃(pm d:Addr),σ'=[some (.ref a),some (.int (n:Int)),some (.int (most:Int)),some (.ref l),some (.ref pg),some (.ref pW),some (.ref pw),some (.int kd),some (.ref pm),some (.ref d),none,none,none,none,none]/\aK H11 G/\(kd≠2->G pm=some (.lst ((D1.T7 kd c).map V.int)))/\(kd=0->Fz K bN.C [("many",.int c)] n ts ws G d)/\(kd=1->Fz K dw.C [] n ts ws G d),?_,?_⟩
 ·refine⟨_,Z,Z,_,Z,zP (λe=>?_) λe=>?_⟩
  ·have e':kd=1:=V.int.inj (gj e);refine⟨(),λpm1 G1 m1=>?_⟩;refine⟨_,Z,_,Z,λd1 Tv f1 fx1 ne1=>?_⟩;have s1:aK G1 (cN (cN G1 Tv (.own d1)) d1 (.ins dw.C Tv [])):=(rB fx1 _).trans (rB (by rw[aU (Ne.symm ne1)];exact f1) _);have hd1:cN (cN G1 Tv (.own d1)) d1 (.ins dw.C Tv []) d1=some (.ins dw.C Tv []):=cY;generalize cN (cN G1 Tv (.own d1)) d1 (.ins dw.C Tv [])=G2 at s1 hd1 ⊢;obtain⟨w1,w2,w3,w4⟩:=web (sJ.trans (m1.same.trans s1));refine⟨d1,Tv,pg,r,n,tx,ts,.ref pw,some ws,Z,hd1,w1,w2,w3,(),(),w4,λws' e=>by cases e;omega,wok,λH14 sd1 at1=>⟨Z,?_⟩⟩;have M9:=Ra s1 f1 sd1;exact⟨pm1,d1,Z,sJ.trans (m1.same.trans M9),λ_=>by rw[e'];exact M9 _ _ m1.here,λz=>by omega,λ_=>at1⟩
  ·have e':¬kd=1:=λz=>e (bL (congrArg V.int z));exact⟨pm0,d0,Z,sJ,λz=>by rw[show kd=0 by omega];exact a2J _ _ n12.here,λ_=>at0,λz=>absurd z e'⟩
 rintro σ3 H14 ⟨pm1,d3,rfl,M9,a6X,at3,at4⟩;refine⟨λσ' G=>∃(pm d:Addr),σ'=[some (.ref a),some (.int (n:Int)),some (.int (most:Int)),some (.ref l),some (.ref pg),some (.ref pW),some (.ref pw),some (.int kd),some (.ref pm),some (.ref d),none,none,none,none,none]/\aK H11 G/\G pm=some (.lst ((D1.T7 kd c).map V.int))/\QAt K bN.C dw.C dD.C kd c n ts ws G d,?_,?_⟩
 ·refine⟨_,Z,Z,_,Z,zP (λe=>?_) λe=>?_⟩
  ·have e':kd=2:=V.int.inj (gj e);refine⟨(),λpm2 G1 m1=>?_⟩;refine⟨_,Z,_,Z,λd1 Tv f1 fx1 ne1=>?_⟩;have s1:aK G1 (cN (cN G1 Tv (.own d1)) d1 (.ins dD.C Tv [])):=(rB fx1 _).trans (rB (by rw[aU (Ne.symm ne1)];exact f1) _);have hd1:cN (cN G1 Tv (.own d1)) d1 (.ins dD.C Tv []) d1=some (.ins dD.C Tv []):=cY;generalize cN (cN G1 Tv (.own d1)) d1 (.ins dD.C Tv [])=G2 at s1 hd1 ⊢;obtain⟨w1,w2,w3,w4⟩:=web (M9.trans (m1.same.trans s1));refine⟨d1,Tv,pg,r,n,tx,ts,.ref pw,some ws,Z,hd1,w1,w2,w3,(),(),w4,λws' e=>by cases e;omega,wok,λH15 sd1 at1=>⟨Z,?_⟩⟩;have s15:=Ra s1 f1 sd1;exact⟨pm2,d1,Z,M9.trans (m1.same.trans s15),by rw[e'];exact s15 _ _ m1.here,λz=>by omega,λz=>by omega,λ_=>at1⟩
  ·have e':¬kd=2:=λz=>e (bL (congrArg V.int z));exact⟨pm1,d3,Z,M9,a6X e',at3,at4,λz=>absurd z e'⟩
 clear at0 at3 at4 a6X M9 sJ;rintro σ4 H14 ⟨pm,d,rfl,M9,hm,qa⟩;have a8g:=a4R.trans M9;have ο:=Ft.same.trans M9;have ne:∀t∈ts,t.1≠t.2:=λt ht=>by have:=tbd t ht;omega
 have sV:∀{G:Hp},aK H14 G->Paired (sZ K G) (x4++x5) ss:=λ{G} s=>Paired.cC qW λ_ _ h=>wu.v (wu.same (ο.trans s) h);have a2i:=ο _ _ nW.here;refine⟨_,Z,pW,_,Z,.inl (bC.of a2i),λpC H16 n16=>?_⟩;refine⟨_,Z,_,Z,kd,c,pC,d,x4++x5,ss,n,ts,ws,Z,k0,(),c4,qa.keep n16.same,lw,cV,ne,bC.of n16.here,sV n16.same,lss,qg,b4,λpT yt H17 nv Fc s17 hT qT=>?_⟩;have YJ:=n16.same.trans s17;have lyt:yt.length=ss.length:=(aM qT).trans Fc.len;have fok:∀k,k<ss.length->(∀x∈(vH kd c ws n ts ss).getD k [],x.1.length=(Go.gH n ts ss k).length)/\((vH kd c ws n ts ss).getD k []).length<=900/\(((vH kd c ws n ts ss).getD k []).map (·.1)).Nodup:=λk kl=>by
  obtain⟨f1,f2⟩:=Fc.ok k kl;have:=Go.HS (c:=4) () (tp4 b4 k) f1 λs hs=>by
   obtain⟨x,hx,rfl⟩:=dW.mp hs;exact f2 x hx
  rw[aJ]at this;exact⟨λx hx=>(f2 x hx).1,this,f1⟩
 refine⟨_,Z,_,Z,_,Z,pT,pW,pm,x4++x5,yt,ss,vH kd c ws n ts ss,n,ts,D1.T7 kd c,Z,YJ _ _ a2i,Paired.cC qW λ_ _ h=>wu.same (ο.trans YJ) h,lss,hT,qT,Fc.len,RP,YJ _ _ hm,D1.a4N c4,fok,Fc.leaf,Fc.inn,λH18 s18=>⟨_,Z,cX ?_⟩⟩;have YK:=YJ.trans s18;have a4S:=s18 _ _ hT;have a6Y:Paired (GQ H18) yt (vH kd c ws n ts ss):=Paired.cC qT λ_ _ h=>h.keep s18;have a6Z:=(s17.trans s18) _ _ n16.here;refine⟨_,Z,_,Z,.list (ss.map bZ.d),.list (ss.map bZ.d),.lst (bC.of a6Z) (Cw (λ_ _ h=>sZ.isD h) (sV YK)),.lst (bC.of (YK _ _ a2i)) (Cw (λ_ _ h=>sZ.isD h) (sV YK)),uQ _,uQ _,_,Z,?_⟩;rw[aF Z,Jt (uQ _)];refine cX ⟨_,Z,pT,Z,⟨_,bC.of a4S⟩,uL (K:=K) (a:=pT) (xs:=yt) (λi ys G=>aK H18 G/\Paired (Ù G) (yt.take i) ys) ⟨aK.refl _,.nil⟩ (λi ys G hi ⟨sG,p⟩=>⟨bC.of (sG _ _ a4S),?_⟩) (λi x ys G hx ⟨sG,p⟩=>?_) λys G ⟨sG,p⟩ pk hpk=>?_⟩
 ·rw[<-aM p,d7];exact dU (cL ())
 ·obtain⟨Tk,Ŷ,p0,J,rfl,h0,hW⟩:=bf a6Y hx;have il:=(fu.mp hx).1;obtain⟨f1,f2⟩:=Fc.ok i ();have eTk:(vH kd c ws n ts ss).getD i []=Tk:=by rw[fV,Ŷ];rfl
  rw[eTk]at f1 f2;refine⟨_,Z,p0,J,Z,sG _ _ h0,λw=>D1.a2a (c:=4) () (tp4 b4 i) hW f1 f2 w,λp' G' n'=>⟨sG.trans n'.same,?_⟩⟩;rw[lG,hx];exact cZ (Paired.cC p λ_ _ h=>h.same n'.same) ⟨p0,p',J,Z,Z,n'.same _ _ (sG _ _ h0),n'.here⟩
 have nk:=gP.ou (H:=G) (p:=pk) (o:=.lst ys) hpk;generalize cN G pk (.lst ys)=H19 at nk ⊢;rw[show yt.take yt.length=yt from iC]at p;have YL:=sG.trans nk.same;have ς:=YK.trans YL;have pK:Paired (Ù H19) yt ys:=Paired.cC p λ_ _ h=>h.same nk.same;have a77:=YL _ _ a4S;have a2j:=nk.here;have a4T:Paired (GQ H19) yt (vH kd c ws n ts ss):=Paired.cC a6Y λ_ _ h=>h.keep YL;have nds:∀T∈vH kd c ws n ts ss,(T.map (·.1)).Nodup:=λT hT=>by
  obtain⟨k,hk,rfl⟩:=qt hT;have:=(Fc.ok k (by rw[<-Fc.len];exact hk)).1;rw[fV,bH hk]at this;exact this
 have pE:∀{G':Hp}{yt':List V},aK H19 G'->Paired (GQ G') yt' (vH kd c ws n ts ss)->Paired (Tr K G') yt' ys:=λ{G' yt'} sg qy =>
  θ nds qy (Paired.cC a4T λ_ _ h=>h.keep sg) (Paired.cC pK λ_ _ h=>h.same sg)
 refine⟨_,Z,_,Z,kd,c,pC,d,x4++x5,ss,n,ts,ws,Z,k0,(),c4,qa.keep ς,lw,cV,ne,bC.of (YL _ _ a6Z),sV ς,lss,qg,b4,λpA ya H20 nvA _ s20 hA qA=>?_⟩;obtain⟨fA,as,rfl,na,fas⟩:=nvA;refine⟨_,Z,_,Z,pA,pk,_,ys,Z,Z,bC.of hA,bC.of (s20 _ _ a2j),pE s20 qA,⟨_,Z,cX ?_⟩⟩;have las:as.length=ss.length:=by
  have:=aM qA;rw[aJ]at this;exact this.trans Fc.len
 have dic:∀j,j<as.length->∃b J,as[j]?=some b/\H20 b=some (.dT J)/\xQ H20 J ((vH kd c ws n ts ss).getD j []):=λj hj=>by
  have ß:(vH kd c ws n ts ss)[j]?=some ((vH kd c ws n ts ss).getD j []):=by rw[fV,bH (by rw[Fc.len];omega)];rfl
  obtain⟨v,hv,b,J,rfl,h1,h2⟩:=cM qA ß;rw[fK]at hv;obtain⟨b',hb',e⟩:=lC.mp hv;cases e;exact⟨b,J,hb',h1,h2⟩
 have k99:∀{j:Nat}{J:List (List Key×V)},j<as.length->xQ H20 J ((vH kd c ws n ts ss).getD j [])->gh J (rU [99])=none/\J.length<=900:=λ{j J} hj hW=>by
  obtain⟨f1,f2,f3⟩:=fok j ();refine⟨?_,by rw[aM hW];exact f2⟩;rcases Hz [99] hW with z|⟨v,r,_,e2,_⟩
  ·exact z.1
  ·obtain⟨x,hx,hx2⟩:=lC.mp e2;have e99:=List.find?_some hx;have e99:x.1=[99]:=gj e99;have:=(Fc.ok j ()).2 x (List.mem_of_find?_eq_some hx);have:=this.2 99 (by rw[e99];exact aO);omega
 refine⟨_,Z,pA,_,Z,.inl (bC.of hA),_,Z,(by rw[aJ];omega),(by rw[aJ];omega),?_⟩;rw[jD];refine qz (n:=_) (λi σ G=>(∃o,σ=[some (.ref a),some (.int (n:Int)),some (.int (most:Int)),some (.ref l),some (.ref pg),some (.ref pW),some (.ref pw),some (.int kd),some (.ref pm),some (.ref d),some (.ref pC),some (.ref pT),some (.ref pk),some (.ref pA),o])/\aK H19 G/\G pA=some (.lst (as.map V.ref))/\Aft as H20 G i) ⟨⟨_,Z⟩,s20,hA,λj b J _ h=>by rw[aq ()];exact h⟩ ?_ ?_
 ·rintro i σ G1 hi ⟨⟨o,rfl⟩,T3,hA1,af⟩;rw[show(0:Int)+(i:Int)=(i:Int) by omega];rw[aJ]at hi;obtain⟨b,J,hb,hkv,hW⟩:=dic i hi;have hbG:=af i b J hb hkv;rw[aq (u6 i)]at hbG;refine⟨_,Z,_,Z,(),λt1 G2 m1=>?_⟩;refine⟨_,Z,_,Z,pA,_,_,.ref b,Z,Z,bC.of (m1.same _ _ hA1),bR (by rw[fK,hb];rfl),(),λt2 G3 m2=>?_⟩;have sJ:=m1.same.trans m2.same;refine⟨b,t2,rU [99],J,Z,Z,m2.here,sJ _ _ hbG,by have:=(k99 hi hW).2;omega,λG4 cg=>?_⟩;have fb:=fas b (jf hb);have tb:∀{t:Addr}{us:List V},G3 t=some (.tup us)->G4 t=some (.tup us):=λh=>by
   rw[cg.rest _ (λz=>by rw[z,sJ _ _ hbG]at h;cases h)];exact h
  refine⟨⟨_,Z⟩,(T3.trans sJ).chg fb cg,?_,λj b' kvs' hb' hkv'=>?_⟩
  ·rw[cg.rest pA (λz=>by rw[z,hbG]at hA1;cases hA1)];exact sJ _ _ hA1
  have h':=af j b' kvs' hb' hkv';by_cases c1:j=i
  ·subst c1;rw[hb]at hb';cases hb';rw[hkv]at hkv';cases hkv';rw[aF (yc _)];exact⟨t1,cg.here,tb (m2.same _ _ m1.here)⟩
  ·have nb:b'≠b:=λz=>by
    subst z;obtain⟨l1,e1⟩:=fu.mp hb;obtain⟨l2,e2⟩:=fu.mp hb';exact c1 ((List.getElem_inj na).mp (e2.trans e1.symm))
   by_cases c2:j<i
   ·rw[aF c2]at h';rw[aF ()];obtain⟨t,h1,h2⟩:=h';exact⟨t,(cg.rest b' nb).trans (sJ _ _ h1),tb (sJ _ _ h2)⟩
   ·rw[aq c2]at h';rw[aq ()];exact(cg.rest b' nb).trans (sJ _ _ h')
 rintro σ H21 ⟨⟨o,rfl⟩,s21,υ,af⟩;rw[aJ]at af;refine⟨_,Z,pA,_,Z,.inl (bC.of υ),_,Z,(by rw[aJ];omega),(by rw[aJ];omega),?_⟩;rw[jD];refine qz (n:=_) (λi σ G=>(∃o,σ=[some (.ref a),some (.int (n:Int)),some (.int (most:Int)),some (.ref l),some (.ref pg),some (.ref pW),some (.ref pw),some (.int kd),some (.ref pm),some (.ref d),some (.ref pC),some (.ref pT),some (.ref pk),some (.ref pA),o])/\aK H21 G) ⟨⟨_,Z⟩,aK.refl _⟩ ?_ ?_
 ·rintro i σ G1 hi ⟨⟨o,rfl⟩,T3⟩;rw[show(0:Int)+(i:Int)=(i:Int) by omega];rw[aJ]at hi;obtain⟨b,J,hb,hkv,hW⟩:=dic i hi;have hbG:=af i b J hb hkv;rw[aF hi]at hbG;obtain⟨t,hbt,htt⟩:=hbG;obtain⟨v9,l9⟩:=k99 hi hW;have hAb:(as.map V.ref)[i]?=some (.ref b):=by rw[fK,hb];rfl
  refine⟨_,Z,_,Z,pA,_,_,.ref b,Z,Z,bC.of (T3 _ _ υ),bR hAb,.inr (.inr (.inl ⟨Z,.inr ⟨_,T3 _ _ hbt⟩⟩)),(),λt2 G3 m2=>?_⟩;have s3:=T3.trans m2.same;refine⟨b,t2,rU [99],_,.non,Z,Z,m2.here,s3 _ _ hbt,?_⟩;rw[İ,aF rfl];refine⟨_,Z,_,Z,(),λt4 G4 m4=>?_⟩;have s4:=s3.trans m4.same;have hd2:SeqAt.shaped (.tuple [.int (i:Int),.int (i:Int)])=true:=by rfl
  refine⟨.tuple [.int (i:Int),.int (i:Int)],.tuple [.int (i:Int),.int (i:Int)],.tup (cO.of (s4 _ _ htt)) (.cons (.int _) (.cons (.int _) .nil)),.tup (cO.of m4.here) (.cons (.int _) (.cons (.int _) .nil)),hd2,hd2,_,Z,?_⟩;rw[aF Z,Jt hd2];refine cX ?_;obtain⟨v1,hv1,⟨p0,p',kv0,e1,e2,h0,hp'⟩⟩:=bf pK (show yt[i]?=some yt[i]from bH ());obtain⟨Tk,Ŷ,q0,kv1,e3,hq0,hW0⟩:=bf a4T (show yt[i]?=some yt[i]from bH ());rw[e1]at e3;cases e3;rw[h0]at hq0;cases hq0;have lk:kv0.length=J.length:=by
   rw[aM hW0,aM hW,fV,Ŷ];rfl
  subst e2;have a65:=s21.trans s4;refine⟨_,Z,_,Z,pA,_,_,.ref b,Z,Z,bC.of (s4 _ _ υ),bR hAb,b,_,Z,s4 _ _ hbt,_,Z,_,Z,pk,_,_,.ref p',Z,Z,bC.of (a65 _ _ a2j),bR hv1,p',kv0,Z,a65 _ _ hp',_,_,Z,Z,Z,_,Z,?_⟩;rw[ı _ v9,cA,lk];rw[show(decide (V.int (((J.length+[(rU [99],V.ref t)].length:Nat)):Int)=V.int ((J.length:Int)+1)))=true from bL (congrArg V.int (by rw[Ae];omega))];exact cX ⟨⟨_,Z⟩,s4⟩
 rintro σ H22 ⟨⟨o,rfl⟩,s22⟩;have a66:=s21.trans s22;refine⟨_,Z,.inl ⟨Z,_,bC.of (s22 _ _ υ)⟩,pA,_,Z,Z,s22 _ _ υ,λH23 c23=>?_⟩;have Z7:=a66.chg fA c23;refine⟨_,Z,_,Z,pT,pk,yt,ys,Z,Z,bC.of (Z7 _ _ a77),bC.of (Z7 _ _ a2j),pE Z7 (Paired.cC a4T λ_ _ h=>h.keep Z7),⟨_,Z,iM ?_⟩⟩;have χ:=ς.trans Z7;exact⟨_,Z,_,Z,kd,c,pW,d,x4++x5,ss,n,ts,ws,Z,k0,(),c4,qa.keep χ,lw,cV,ne,bC.of (χ _ _ a2i),sV χ,lss,qg,b4,λpT' yt' H30 _ _ s30 hT' qT'=>⟨_,Z,pT',pk,yt',ys,Z,Z,bC.of hT',bC.of ((Z7.trans s30) _ _ a2j),pE (Z7.trans s30) qT',q _⟩⟩
end
end K
open PySem.W PyProof.Rows
local macro_rules | `(tactic| ac_rfl) => `(tactic| (dsimp only[L2.KOf];first|(refine' L2.Fb KX G ?a ?l ?c ?k rfl (λ_ _ _ _ _ _ _=>rfl);case a|l|c|k=>k_is)|(refine' L2.ud KX G ?a ?l ?c ?k rfl (λ_ _ _ _ _ _ _ _=>rfl);case a|l|c|k=>k_is)|(refine' L2.Fd KX G ?a ?l ?c ?k rfl (λ_ _ _ _ _ _ _ _ _=>rfl);case a|l|c|k=>k_is)|(refine' L2.Fe KX G ?a ?l ?c ?k rfl (λ_ _ _ _ _ _ _ _ _ _=>rfl);case a|l|c|k=>k_is)|(refine' L2.a3M KX G ?a ?l ?c ?k rfl (λ_ _ _ _ _ _ _ _ _ _ _=>rfl);case a|l|c|k=>k_is)))
local macro_rules | `(tactic| ac_nf) => `(tactic| (rcases us with _|⟨_,_|⟨_,_|⟨_,_|⟨_,_|⟨_,_|_⟩⟩⟩⟩⟩<;>first|(cases hl;done)|rfl|exact⟨_,rfl,rfl⟩))
inductive PySem.W.Fast:Prop|tw7800223475365040434|tw1390007567008410867|tw670917886961348013|tw3932259644707306549|tw12662545165068093710|tw7747853782513668368|tw8772146203267068586|tw7518064278232166548|tw2434159677750715319|tw6593846230182873104|tw12648452221437580541|tw11683308551108119034|tw13033439199269015528|tw16547289310242976906|tw11209743536770369774|tw8791160043545983778|tw18186863798921274671|tw1334634622309200405|tw2630154482943176098|tw3205208693108439371|tw12555926258577977566|tw6135955081494529109|tw15014048249302429943|tw5467624168458289566|tw3758847410872422904|tw3481676438390807814|tw11077575386056609131|tw3192152441021246705|tw7189776629567465613|tw8922558131291652469|tw16149334572173042185|tw15927751655691041157|tw5714657355094381177|tw7294099052189806017|tw2505136983524010942|tw9191317198129867203|tw18232834546415699881|tw15386881351758256885|tw11036365500254575247|tw7976858057896041542|tw17014217526981617222|tw11634516054117288428|tw10047587076636323530|tw17216678692849918037|tw12160306013840051376|tw6934750339798338197|tw11213243097230912|tw14181073239419558169|tw5984054784867098450|tw15098355488023694203|tw13259440691071680608|tw9028950661309590188|tw14288845380941684234|tw10798218285423986831|tw2110012599731554893|tw8181472456074253118|tw12877710580942690467|tw7385817829854114321|tw4254264167667523436|tw12538017979994294817|tw9975241655122996224|tw7641989195601908792|tw173029043500185986|tw9559834733079334927|tw16349841859139815929|tw16169543928642076556|tw17455508885643983603|tw6521561103298099040|tw10692959616526551123|tw17914443234506778575|tw12646568377976777863|tw17070496784149168807|tw10117713172209741550|tw3867368231079620790|tw9927444117265070367|tw2075969406047335433|tw13339827023083984048|tw10377076926558711567|tw6144256537458617694|tw16343779468151675393|tw8932820382234060743|tw2274874765211036088|tw7275813466418063176|tw5558249711710598961|tw1220220040319349786|tw9218958652246509348|tw11686014136437310092|tw2292168670405157743|tw6395042517198249843|tw14658625678153131450|tw13507250804246200260|tw5836220484233698968|tw15053149433335797725|tw17814041949515930802|tw8881786531216476409|tw4817558927211386635|tw18171264632630065992|tw14609574163150451148|tw3652013710357072529|tw9421671094318017454|tw3175262579127571934|tw16268792413399885355|tw18145360167135299944|tw10590394199139585327|tw15790615073659780917|tw5204218829958326339|tw5453662819088037835|tw7427557485038556094|tw12154217353160351050|tw7279454705709575338|tw8087585576031664653|tw12263911227209714731|tw12411354360329803862|tw5910938504472425511|tw8041086837774330743|tw6011961302462151882|tw15063025652657458136|tw11617123496982181951|tw12095265563670499730|tw112123452848621038|tw8417645321450317212|tw11312228517006798575|tw3508417563874633050
set_option maxRecDepth 100000 in
set_option maxHeartbeats 0 in
theorem PySem.Challenge.cw_bagwood_k60_leaves_and_places_in_holds : PySem.Challenge.rw_bagwood_k60_leaves_and_places_in.Holds := by
 w_on;o_law;k_head;(case hw=>w_witness2)
 k_fill
 refine L2.Ď (l:=PySem.Challenge.rw_bagwood_k60_leaves_and_places_in) (n:=63) (k:=24) (x:="_law_script") (CX:=L2.fX) (sp:=Lw.a2q) rfl (by decide) rfl ⟨rfl,by decide,by decide⟩ (λw h Z99=>PySem.W.kIn_of Z99) ?F ?S ?C
 case F =>
  intro w mg fa h KX G hmg
  have B:L2.Bl mg:=by
   refine' L2.a5J KX G ?z1 ?z2 ?z3 ?z4 ?z5 ?z6 ?z7 ?z8 ?z9 ?z10 ?z11 ?z12 ?z13 ?z14 ?z15 ?z16 ?z17
   all_goals k_is
  have Bz:mg "zip" = none:=by
   refine' PySem.W.mg_none_of KX G ?z
   k_is
  obtain⟨jV⟩:Nonempty (L2.Dn (L2.KOf KX) mg "is_whole" K.Bh ["thing"]):=by ac_rfl
  obtain⟨jy⟩:Nonempty (L2.Dn (L2.KOf KX) mg "is_below" K.fP ["n","thing"]):=by ac_rfl
  obtain⟨oE⟩:Nonempty (L2.Dn (L2.KOf KX) mg "joint" K.oV ["one","other"]):=by ac_rfl
  obtain⟨mO⟩:Nonempty (L2.Dn (L2.KOf KX) mg "less" K.sI ["one","other"]):=by ac_rfl
  obtain⟨HJ⟩:Nonempty (L2.Dn (L2.KOf KX) mg "bag_behind" K.fQ ["graph","done","step","used"]):=by ac_rfl
  obtain⟨vX⟩:Nonempty (L2.Dn (L2.KOf KX) mg "run" K.Gq ["graph","steps"]):=by ac_rfl
  obtain⟨uH⟩:Nonempty (L2.Dn (L2.KOf KX) mg "fault_behind" K.eZ ["graph","steps","tops","pile"]):=by ac_rfl
  obtain⟨xO⟩:Nonempty (L2.Dn (L2.KOf KX) mg "run_whole" K.lR ["graph","steps"]):=by ac_rfl
  obtain⟨xP⟩:Nonempty (L2.Dn (L2.KOf KX) mg "refuse_wide" K.vz ["bags"]):=by ac_rfl
  obtain⟨zR⟩:Nonempty (L2.Dn (L2.KOf KX) mg "run_narrow" K.mD ["graph","steps"]):=by ac_rfl
  obtain⟨vV⟩:Nonempty (L2.Dn (L2.KOf KX) mg "states_behind" K.fY ["question","old","step","bag"]):=by ac_rfl
  obtain⟨qG⟩:Nonempty (L2.Dn (L2.KOf KX) mg "note" K.vq ["question","table","state","row"]):=by ac_rfl
  obtain⟨xH⟩:Nonempty (L2.Dn (L2.KOf KX) mg "fill_along" K.jP ["question","table","source","step","bag"]):=by ac_rfl
  obtain⟨wX⟩:Nonempty (L2.Dn (L2.KOf KX) mg "fill_joined" K.gZ ["question","table","source","another"]):=by ac_rfl
  obtain⟨yD⟩:Nonempty (L2.Dn (L2.KOf KX) mg "going_up" K.nH ["steps","question","tops","feeds"]):=by ac_rfl
  obtain⟨yL⟩:Nonempty (L2.Dn (L2.KOf KX) mg "without_sources" K.kY ["table"]):=by ac_rfl
  obtain⟨uI⟩:Nonempty (L2.Dn (L2.KOf KX) mg "tables" K.yK ["steps","question"]):=by ac_rfl
  obtain⟨tE⟩:Nonempty (L2.Dn (L2.KOf KX) mg "weights_of" K.jR ["many","weights"]):=by ac_rfl
  obtain⟨jW⟩:Nonempty (L2.Dn (L2.KOf KX) mg "with_number" K.fj ["state","spot","number"]):=by ac_rfl
  obtain⟨jX⟩:Nonempty (L2.Dn (L2.KOf KX) mg "without_number" K.cU ["state","spot"]):=by ac_rfl
  obtain⟨qN⟩:Nonempty (L2.Dn (L2.KOf KX) mg "_law_at" K.tL ["_law_script","_law_k"]):=by ac_rfl
  obtain⟨dZ5⟩:Nonempty (L2.Dn (L2.KOf KX) mg "_law_rows" K.uU ["_law_script","_law_n","_law_most"]):=by ac_rfl
  obtain⟨ŵ⟩:Nonempty (L2.Dn (L2.KOf KX) mg "_law_ties" K.rG ["_law_script","_law_rows_here","_law_n"]):=by ac_rfl
  obtain⟨Gs⟩:Nonempty (L2.Dn (L2.KOf KX) mg "_law_laid" K.lV ["_law_ties_here","_law_rows_here","_law_k"]):=by ac_rfl
  obtain⟨Ì⟩:Nonempty (L2.Dn (L2.KOf KX) mg "_law_tops" K.uV ["_law_steps"]):=by ac_rfl
  obtain⟨YC⟩:Nonempty (L2.Dn (L2.KOf KX) mg "_law_whole" K.w5 ["_law_one"]):=by ac_rfl
  obtain⟨Í⟩:Nonempty (L2.Dn (L2.KOf KX) mg "_law_formed" K.jZ ["_law_found","_law_size"]):=by ac_rfl
  obtain⟨Ð⟩:Nonempty (L2.Dn (L2.KOf KX) mg "_law_behind" K.j4 ["_law_table","_law_at_here","_law_marks"]):=by ac_rfl
  obtain⟨á⟩:Nonempty (L2.Dn (L2.KOf KX) mg "_law_fits" K.oh ["_law_told","_law_steps","_law_marks"]):=by ac_rfl
  obtain⟨Rb⟩:Nonempty (L2.Dn (L2.KOf KX) mg "law" K.Nv ["_law_script"]):=by ac_rfl
  obtain⟨U⟩:Nonempty (L2.Used w (L2.KOf KX) mg):=by
   dsimp only[L2.KOf]
   refine' L2.a0U KX G ?a ?l ?c
   (case a=>k_is);(case l=>k_is);(case c=>exact⟨_,_,_,_,_,_,_,_,_,_,rfl⟩)
  obtain⟨cF⟩:Nonempty (K.qL (L2.KOf KX) mg):=by dsimp only[L2.KOf];refine'⟨{C:=_,cl:=⟨?pg,?hd,?po,?sa⟩,m:=PySem.W.mg_of KX G ?a,bM:=L2.oR (st:=K.mQ) (ps:=["self","graph","leaf","whole"]) ?iJ ?iK ?nO ?nP ?lX (λ_ _ _ _ _ _ us hl=>by ac_nf),uR:=⟨?ga,⟨.type "type",?Tw,?TF⟩,?lX⟩,mkd:=⟨?mk,?iJ,?iK,?kc⟩}⟩;case a|pg|hd|po|sa|mk|kc|iJ|iK|nO|nP|lX|ga|TF|Tw=>k_is
  obtain⟨bN⟩:Nonempty (K.v5 (L2.KOf KX) mg):=by dsimp only[L2.KOf];refine'⟨{C:=_,cl:=⟨?pg,?hd,?po,?sa⟩,m:=PySem.W.mg_of KX G ?a,fH:=?fH,gU:=?gU,fO:=?fO,J9:=?J9,fG:=?fG,bM:=L2.Wi (st:=K.nJ) (ps:=["self","graph","many","weights"]) ?iJ ?iK ?nO ?nP ?lX ?uy (λ_ _ _ _ _ _ us hl=>by ac_nf) (λ_ _ _ _ _ _ us hl=>by ac_nf),eE:=L2.oR (st:=K.fD) (ps:=["self","one","other"]) ?rH ?rJ ?rK ?rM ?rN (λ_ _ _ _ _ _ us hl=>by ac_nf),jc:=L2.oR (st:=K.gM) (ps:=["self","state"]) ?yN ?yO ?yP ?yQ ?yR (λ_ _ _ _ _ _ us hl=>by ac_nf),jd:=L2.oR (st:=K.gO) (ps:=["self","one","other"]) ?yS ?yU ?yV ?yW ?yX (λ_ _ _ _ _ _ us hl=>by ac_nf),je:=L2.oR (st:=K.mq) (ps:=["self","state","spot","v"]) ?yZ ?zc ?zf ?zj ?zp (λ_ _ _ _ _ _ us hl=>by ac_nf),pH:=L2.oR (st:=K.oW) (ps:=["self","state","one","other","tie"]) ?KZ ?K7 ?K8 ?K9 ?La (λ_ _ _ _ _ _ us hl=>by ac_nf),eG:=L2.oR (st:=K.jB) (ps:=["self","state","spot","v"]) ?rO ?rP ?rQ ?rR ?rT (λ_ _ _ _ _ _ us hl=>by ac_nf),mkd:=⟨?mk,?iJ,?iK,?kc⟩}⟩;(case a|pg|hd|po|sa|mk|kc|iJ|iK|nO|nP|lX|uy|rH|rJ|rK|rM|rN|yN|yO|yP|yQ|yR|yS|yU|yV|yW|yX|yZ|zc|zf|zj|zp|KZ|K7|K8|K9|La|rO|rP|rQ|rR|rT=>k_is);case fH|gU|fO|J9|fG=>unfold L2.eY;k_is
  obtain⟨dw⟩:Nonempty (K.Dp (L2.KOf KX) mg):=by dsimp only[L2.KOf];refine'⟨{C:=_,cl:=⟨?pg,?hd,?po,?sa⟩,m:=PySem.W.mg_of KX G ?a,fH:=?fH,gU:=?gU,fO:=?fO,fG:=?fG,bM:=L2.Wi (st:=K.qJ) (ps:=["self","graph","weights"]) ?iJ ?iK ?nO ?nP ?lX ?uy (λ_ _ _ _ _ _ us hl=>by ac_nf) (λ_ _ _ _ _ _ us hl=>by ac_nf),eE:=L2.oR (st:=K.kI) (ps:=["self","one","other"]) ?rH ?rJ ?rK ?rM ?rN (λ_ _ _ _ _ _ us hl=>by ac_nf),jc:=L2.oR (st:=K.gM) (ps:=["self","state"]) ?yN ?yO ?yP ?yQ ?yR (λ_ _ _ _ _ _ us hl=>by ac_nf),jd:=L2.oR (st:=K.gO) (ps:=["self","one","other"]) ?yS ?yU ?yV ?yW ?yX (λ_ _ _ _ _ _ us hl=>by ac_nf),je:=L2.oR (st:=K.oX) (ps:=["self","state","spot","v"]) ?yZ ?zc ?zf ?zj ?zp (λ_ _ _ _ _ _ us hl=>by ac_nf),pH:=L2.oR (st:=K.tB) (ps:=["self","state","one","other","tie"]) ?KZ ?K7 ?K8 ?K9 ?La (λ_ _ _ _ _ _ us hl=>by ac_nf),eG:=L2.oR (st:=K.kJ) (ps:=["self","state","spot","v"]) ?rO ?rP ?rQ ?rR ?rT (λ_ _ _ _ _ _ us hl=>by ac_nf),mkd:=⟨?mk,?iJ,?iK,?kc⟩}⟩;(case a|pg|hd|po|sa|mk|kc|iJ|iK|nO|nP|lX|uy|rH|rJ|rK|rM|rN|yN|yO|yP|yQ|yR|yS|yU|yV|yW|yX|yZ|zc|zf|zj|zp|KZ|K7|K8|K9|La|rO|rP|rQ|rR|rT=>k_is);case fH|gU|fO|fG=>unfold L2.eY;k_is
  obtain⟨dD⟩:Nonempty (K.Dr (L2.KOf KX) mg):=by dsimp only[L2.KOf];refine'⟨{C:=_,cl:=⟨?pg,?hd,?po,?sa⟩,m:=PySem.W.mg_of KX G ?a,fH:=?fH,gU:=?gU,fO:=?fO,fG:=?fG,bM:=L2.Wi (st:=K.qK) (ps:=["self","graph","weights"]) ?iJ ?iK ?nO ?nP ?lX ?uy (λ_ _ _ _ _ _ us hl=>by ac_nf) (λ_ _ _ _ _ _ us hl=>by ac_nf),eE:=L2.oR (st:=K.fD) (ps:=["self","one","other"]) ?rH ?rJ ?rK ?rM ?rN (λ_ _ _ _ _ _ us hl=>by ac_nf),jc:=L2.oR (st:=K.oY) (ps:=["self","state"]) ?yN ?yO ?yP ?yQ ?yR (λ_ _ _ _ _ _ us hl=>by ac_nf),jd:=L2.oR (st:=K.oZ) (ps:=["self","one","other"]) ?yS ?yU ?yV ?yW ?yX (λ_ _ _ _ _ _ us hl=>by ac_nf),je:=L2.oR (st:=K.pB) (ps:=["self","state","spot","v"]) ?yZ ?zc ?zf ?zj ?zp (λ_ _ _ _ _ _ us hl=>by ac_nf),pH:=L2.oR (st:=K.pG) (ps:=["self","state","one","other","tie"]) ?KZ ?K7 ?K8 ?K9 ?La (λ_ _ _ _ _ _ us hl=>by ac_nf),eG:=L2.oR (st:=K.kW) (ps:=["self","state","spot","v"]) ?rO ?rP ?rQ ?rR ?rT (λ_ _ _ _ _ _ us hl=>by ac_nf),mkd:=⟨?mk,?iJ,?iK,?kc⟩}⟩;(case a|pg|hd|po|sa|mk|kc|iJ|iK|nO|nP|lX|uy|rH|rJ|rK|rM|rN|yN|yO|yP|yQ|yR|yS|yU|yV|yW|yX|yZ|zc|zf|zj|zp|KZ|K7|K8|K9|La|rO|rP|rQ|rR|rT=>k_is);case fH|gU|fO|fG=>unfold L2.eY;k_is
  obtain⟨Ct⟩:Nonempty (K.Ŝ mg):=by
   refine' K.a4j KX G ?Hi ?Lb ?Ml
   case Hi|Lb|Ml=>k_is
  exact L2.a3s hmg Rb λbase=>K.a4P B Bz cF bN dw dD U Ct jV jy oE mO HJ vX uH xO xP zR vV qG xH wX yD yL uI tE jW jX qN dZ5 ŵ Gs Ì YC Í Ð á Rb
 case S=>exact λK H a ns hl hO hS=>⟨a,ns,rfl,Lw.Ü.of hO hS,hl,λ_=>rfl⟩
 case C=>exact λ_ _ _ _ z=>z
