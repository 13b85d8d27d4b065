import PyProof.Rows.All
import Wide.All
import OpenK.AllK
import Wide.FinOn
import PySem.Challenge.RW_bagwood_k65_drawn_things_go_up
set_option Elab.async false
set_option linter.all false
set_option compiler.extract_closed false
set_option genSizeOf false
set_option tactic.hygienic false
set_option maxRecDepth 100000
local macro_rules | `(tactic| omega) => `(tactic| first | lia | omega (config := {}))
set_option maxHeartbeats 16000000
local macro_rules | `(tactic| decide) => `(tactic| decide +kernel)
def Z{α:Sort _}{a:α}:a=a:=rfl
def M:=@PySem.wpAny_bind
def ao:=@PySem.wpAny_pure
def bL:=@PySem.Heap.get?_push_of_some
def bV:=@List.getElem?_eq_getElem
def aN:=@List.length_map
def aW:=@List.mem_cons_self
def bM:=@List.mem_cons_of_mem
def bw:=@List.mem_singleton
def bZ:=@PySem.Heap.get?_push_size
def bW:=@List.length_append
def bJ:=@decide_eq_false
def aO:=@Nat.le_refl
def aY:=@PySem.Paired.length
def aX:=@PySem.Heap.lt_size
def bO:=@decide_eq_true
def fG:=@List.getElem?_eq_some_iff
def b7:=@List.mem_append
def aB:=@if_neg
def dw:=@Bool.false_ne_true
def aG:=@if_pos
def cH:=@List.mem_cons
def dY:=@decide_eq_true_iff
def cu:=@Nat.ne_of_lt
def gF:=@List.mem_append_right
def cL:=@List.map_cons
def dF:=@List.map_append
def eZ:=@of_decide_eq_true
def dZ:=@List.length_take
def d7:=@List.not_mem_nil
def cW:=@Nat.le_trans
def gh:=@Option.some.inj
def jA:=@List.mem_of_getElem?
def iV:=@PySem.wpAny_setField_rec
def dH:=@Nat.le_of_lt
def gP:=@PySem.wpAny_call_entry
def iG:=@List.size_toArray
def kI:=@Option.map_eq_some_iff
def gZ:=@List.take_length
def iW:=@List.getElem?_map
def jB:=@Nat.lt_of_lt_of_le
def dI:=@Nat.zero_le
def iH:=@List.mem_filter
def oG:=@PySem.wpAny_callSpecial?_slot
def jO:=@Int.toNat_natCast
def qw:=@PySem.F.plainAttrs_list
def kJ:=@PySem.W.mg_none_of
def jU:=@PySem.wpAny_newObj_type
def gn:=@List.mem_map
def m9:=@List.mem_of_mem_take
def ig:=@PySem.wpAny_holding
def gG:=@Nat.ne_of_gt
def jC:=@List.nodup_cons
def gq:=@PySem.wpAny_field
def kW:=@List.length_drop
def jV:=@PySem.PassesOwn.never
def rR:=@List.take_append_drop
def jW:=@PySem.Heap.size_push
def jX:=@List.take_succ
def nA:=@List.length_cons
def zO:=@List.take_succ_eq_append_getElem
def mD:=@List.append_nil
def qx:=@Int.emod_lt_of_pos
def rT:=@PySem.Heap.SameBut.update
def tK:=@List.mem_append_left
def tL:=@PySem.Around.under_plainId
def oH:=@Bool.and_eq_true
def mF:=@List.mem_range
def wZ:=@List.getElem?_append_right
def eE:=@PyProof.Rows.wpS_bind
def vV:=@List.mem_singleton_self
def tM:=@List.map_congr_left
def iI:=@PySem.wpAny_mono
def w5:=@List.getElem?_append_left
def xg:=@Array.getElem?_eq_getElem
def qy:=@List.getElem_mem
def jD:=@PySem.sizeLine_eq
def zP:=@PyProof.Rows.callWith_type1
def uO:=@List.getElem_of_mem
def qz:=@Int.emod_nonneg
def oJ:=@PySem.wpAny_seqItems
def tO:=@Bool.eq_false_iff
def xj:=@List.find?_cons_of_neg
def rU:=@Bool.eq_iff_iff
def rW:=@PySem.codeAny_builtin
def vW:=@Array.length_toList
def xq:=@List.filterMap_append
def nC:=@List.map_map
def zQ:=@List.pairwise_singleton
def jY:=@PySem.wpAny_rule
def xr:=@List.mem_of_mem_drop
def tQ:=@PySem.W.kia_one
def xu:=@beq_eq_false_iff_ne
def vX:=@List.nodup_append
def zR:=@PySem.Heap.get?_update_self
def zT:=@List.length_filter_le
def xG:=@PySem.wpAny_Call_Name_kw
def jg:=@PyProof.Rows.wpS_pure
def DR:=@List.filter_cons_of_pos
def tR:=@List.any_cons
def tU:=@PySem.wpAny_attempt
def xH:=@PySem.wpAny_pyIter_list
def nD:=@True.intro
def Ik:=@List.perm_ext_iff_of_nodup
def Nu:=@PySem.F.slot_tuple_iterator_next
def Nv:=@PyProof.Rows.slot_tuple_getitem
def Il:=@List.drop_eq_getElem_cons
def DW:=@List.length_singleton
def DY:=@List.mem_iff_getElem?
def zU:=@List.pairwise_cons
def xK:=@PySem.wpAny_isInstance
def Nx:=@PySem.wpAny_typeNameOfWhole_itemiter
def zV:=@List.map_singleton
def zW:=@List.sum_singleton
def zX:=@List.filter_append
def uP:=@PySem.plainId_quiet
def Im:=@PySem.SetTable.toList_insertAt
def uQ:=@List.sum_cons
def vY:=@List.Perm.refl
def Ny:=@PySem.wpAny_typeNameOfWhole_keyiter
def Nz:=@PySem.F.slot_dict_itemiterator_next
def zY:=@PySem.wpAny_truthy_bool
def zZ:=@List.length_range
def Aa:=@List.append_assoc
def nF:=@PySem.wpAny_ite
def Ab:=@PySem.wpAny_dictEntries
def NK:=@PySem.F.slot_dict_keyiterator_next
def Ea:=@PySem.mem_of_lookup
def Eb:=@List.length_reverse
def Io:=@List.find?_cons_of_pos
def Ac:=@Nat.lt_succ_self
def Ad:=@List.any_eq_true
def Ec:=@PySem.wpAny_pyIter_tuple
def Ed:=@of_decide_eq_false
def Ef:=@PySem.tupleKind_room_in1
def Ae:=@PySem.wpAny_passesOwn
def Af:=@List.range_succ
def Ag:=@Nat.not_lt_zero
def vZ:=@PySem.wpAny_typeOf
def Ip:=@List.Pairwise.filter
def Eg:=@List.pairwise_map
def Eh:=@PySem.typeIs_bool
def Ir:=@List.dropLast_concat
def xM:=@Nat.lt_irrefl
def NP:=@List.filterMap_cons_some
def Ei:=@List.filter_cons
def NQ:=@List.length_eq_zero_iff
def Ah:=@List.nodup_nil
def NT:=@PySem.F.plainAttrs_dict
def Td:=@List.eq_nil_iff_forall_not_mem
def NZ:=@PySem.Heap.get?_update_other
def N5:=@PySem.SeqAt.canLay_of_shaped
def xO:=@Nat.lt_or_ge
def N6:=@Array.getElem?_eq_none
def Iu:=@List.find?_eq_none
def N7:=@List.take_of_length_le
def Ej:=@PySem.wpAny_dictEpoch
def Ai:=@PySem.wpAny_onRaise
def N8:=@Array.getElem?_toList
def Oa:=@PySem.wpAny_notOrdered_dict
def Ê:=@PySem.wpAny_callSpecialIfBoundUnlessNone?_slot
def Ob:=@PySem.F.slot_zip_next
def Iw:=@Nat.lt_succ_of_lt
def Iz:=@PySem.wpAny_storeSet_of
def IK:=@PySem.wpAny_pyIter_slot
def xP:=@Nat.le_succ
def xQ:=@PySem.wpAny_letGo
def Ek:=@PySem.wpAny_fieldsOf
def IV:=@List.lookup_cons
def Aj:=@Nat.lt_trans
def IW:=@List.all_eq_true
def Ak:=@Nat.sub_zero
def Al:=@Nat.sub_self
def Oc:=@PySem.Heap.get?_update_ne
def Tf:=@List.getElem?_take_of_lt
def Tg:=@PySem.F.args_tuple_add_2
def Tj:=@List.length_filterMap_le
def Ja:=@List.sum_append
def Od:=@PySem.W.callWith_K
def Ë:=@PySem.F.args_tuple_iterator_next_1
def Tn:=@PySem.F.entry_tuple_add
def Tp:=@PyProof.Rows.F.plain_set_update_loop
def Tq:=@PySem.F.slot_dict_items
def Tr:=@PySem.F.type_dict_items
def Ì:=@PySem.F.entry_tuple_iterator_next
def Tt:=@PySem.wpAny_pyNext_list_item
def El:=@PySem.codeAny_mono
def Oe:=@List.take_sublist
def Tv:=@PySem.F.slot_tuple_add
def Tw:=@PySem.Calls.callWith_builtin
def Og:=@PySem.wpAny_pyIter_enum
def Em:=@PyProof.Rows.wpS_forRange
def Jb:=@PySem.wpAny_newTuple
def Oh:=@PySem.Heap.get?_push_ne
def Jc:=@PySem.isSubtype_stop
def TF:=@PySem.wpAny_isOneOf_itemiter
def TJ:=@PySem.wpAny_nextOf_list_item
def Í:=@PySem.F.args_dict_itemiterator_next_1
def TQ:=@PySem.F.slot_list_pop
def TV:=@PySem.F.type_list_pop
def Oi:=@PySem.F.plain_all_loop
def Oj:=@PySem.F.plain_any_loop
def Ol:=@PySem.wpAny_askSetting
def Om:=@PySem.F.slot_bool_hash
def Î:=@PySem.F.entry_dict_itemiterator_next
def Oo:=@beq_self_eq_true
def Jd:=@PySem.W.mg_of
def Je:=@Bool.true_and
def TX:=@List.length_dropLast
def TY:=@List.pairwise_append
def Ï:=@PySem.F.entry_dict_keyiterator_next
def Oq:=@PySem.wpAny_execs_nil
def Ot:=@PySem.wpAny_specialOf
def Ou:=@PySem.F.slot_zip_next
def T3:=@List.filterMap_cons
def T4:=@PySem.W.plainGet_of
def T5:=@List.filter_eq_self
def T6:=@List.filter_sublist
def T7:=@List.flatMap_append
def Ð:=@List.idxOf_lt_length_of_mem
def Ñ:=@PySem.Calls.Name_function_global
def T8:=@List.mem_filterMap
def T9:=@List.filterMap_map
def Ò:=@PySem.wpAny_letOwnedTupleGo_enum
def Ua:=@Array.forIn_toList
def Ó:=@PySem.Calls.call_function_entry
def Ô:=@List.pairwise_iff_getElem
def Õ:=@Classical.byContradiction
def Ö:=@List.getLastD_eq_getLast?
def Ub:=@PySem.Heap.SameBut.refl
def Jf:=@PySem.wpAny_of_eq
def Uc:=@Option.isSome_map
def Ø:=@PySem.wpAny_comprehension_free
def Ov:=@List.cons.inj
def Ow:=@PySem.wpAny_handled
def Ox:=@Bool.false_or
def Oz:=@List.map_drop
def OD:=@List.map_take
def Ù:=@List.find?_range_eq_some
def Ud:=@PySem.wpAny_execs_cons
def Ue:=@PySem.noFill_tuple_add
def Ug:=@Nat.min_le_right
def Uh:=@PySem.Heap.size_update
def Ui:=@List.ext_getElem
def Uj:=@PySem.Heap.IsList.push
def Jg:=@beq_iff_eq
def OJ:=@Nat.le_of_eq
def Uk:=@List.of_mem_zip
def Ul:=@PyProof.Rows.get?_update_seq
def Um:=@PySem.wpAny_updateSeq
def Uo:=@Bool.or_eq_true
def Uq:=@PySem.wpAny_loadPart'
def Ur:=@PySem.isSubtype_type
def Us:=@PySem.entryFor_alias
def O1:=@PySem.wpAny_throw
def Ut:=@PySem.wpAny_standAt
def Uu:=@PySem.seq_tuple_add
def Uv:=@PyProof.Rows.listUpdate_at
def Uw:=@PySem.wpAny_newList
def O3:=@PySem.call_meets
def O4:=@PyProof.Rows.wpS_modify
def O5:=@PyProof.Rows.size_push'
def En:=@PyProof.Rows.wpS_get
def Jh:=@PyProof.Rows.wpS_mono
open PySem PySem.Spec
abbrev aK:=PySem.W.Frag
abbrev bA:=Int×Int
def gB{α:Type}{l:List α}{i:Nat}{a:α}:l.getD i a=l[i]?.getD a:=List.getD_eq_getElem?_getD ..
namespace L2
open PyProof.Rows
abbrev Key:=Sum Int Str
def Ji:Key->Value->Bool
 |.inl k,v=>Value.isInt k v
 |.inr x,v=>Value.isStrOf x v
def a5D(w:World):Key->Int
 |.inl k=>hashInt k
 |.inr x=>hashStr w x
def iZ:∀{k:Key}{v:Value},Ji k v=true->(∃i t,k=Sum.inl i/\v=Value.int i t)\/(∃x t,k=Sum.inr x/\v=Value.str x t)
 |.inl i,v,h=>by
  obtain⟨t,e⟩:=Value.isInt_shape (k:=i) (v:=v) h
  exact .inl ⟨i,t,Z,e⟩
 |.inr x,v,h=>by
  obtain⟨t,e⟩:=Value.isStrOf_shape (x:=x) (v:=v) h
  exact .inr ⟨x,t,Z,e⟩
def Yr(i:Int)(t:Tok):Ji (.inl i) (.int i t)=true:=by simp[Ji,Value.isInt]
def Ys(x:Str)(t:Tok):Ji (.inr x) (.str x t)=true:=by simp[Ji,Value.isStrOf]
def a1P(a b:Int):decide ((Sum.inl a:Key)=Sum.inl b)=(a==b):=by
 by_cases e:a=b
 ·subst e;simp
 ·have h:¬(Sum.inl a:Key)=Sum.inl b:=λq=>e (Sum.inl.inj q);rw[bJ h];exact(xu.mpr e).symm
def a1Q(a b:Str):decide ((Sum.inr a:Key)=Sum.inr b)=decide (a=b):=by
 by_cases e:a=b
 ·subst e;simp
 ·have h:¬(Sum.inr a:Key)=Sum.inr b:=λq=>e (Sum.inr.inj q);rw[bJ h,bJ e]
def a1R(a:Int)(b:Str):decide ((Sum.inl a:Key)=Sum.inr b)=false:=bJ (λq=>nomatch q)
def a1S(a:Str)(b:Int):decide ((Sum.inr a:Key)=Sum.inl b)=false:=bJ (λq=>nomatch q)
def fU(prog:Program)(w:World):PySem.KeyKind prog w Key where
 is:=Ji
 hash:=a5D w
 inj:=λv a b ha hb=>by
  rcases iZ ha with⟨i,t,rfl,rfl⟩|⟨x,t,rfl,rfl⟩
  ·rcases iZ hb with⟨j,u,rfl,e⟩|⟨y,u,rfl,e⟩
   ·injection e with e1 _;rw[e1]
   ·exact nomatch e
  ·rcases iZ hb with⟨j,u,rfl,e⟩|⟨y,u,rfl,e⟩
   ·exact nomatch e
   ·injection e with e1 _;rw[e1]
 byValue:=λk v h=>by
  rcases iZ h with⟨i,t,rfl,rfl⟩|⟨x,t,rfl,rfl⟩<;>rfl
 pyHash:=λhv h=>by
  rcases iZ hv with⟨i,t,rfl,rfl⟩|⟨x,t,rfl,rfl⟩
  ·exact wpAny_pyHash_int h
  ·exact wpAny_pyHash_str h
 eqBool:=λhu hv h=>by
  rcases iZ hu with⟨i,t,rfl,rfl⟩|⟨x,t,rfl,rfl⟩
  ·rcases iZ hv with⟨j,u,rfl,rfl⟩|⟨y,u,rfl,rfl⟩
   ·rw[a1P]at h;exact wpAny_eqBool_int h
   ·rw[a1R]at h;exact SeqAt.EqAt.int_str i t y u _ _ _ _ h
  ·rcases iZ hv with⟨j,u,rfl,rfl⟩|⟨y,u,rfl,rfl⟩
   ·rw[a1S]at h;exact SeqAt.EqAt.str_int x t j u _ _ _ _ h
   ·rw[a1Q]at h;exact wpAny_eqBool_str h
 «strs» := λk x t v h=>by
  rcases iZ h with⟨i,u,rfl,e⟩|⟨y,u,rfl,e⟩
  ·exact nomatch e
  ·injection e with e1 _
   subst e1
   cases v<;>rfl
def Ux(prog:Program)(w:World)(k:Key)(v:Value):(fU prog w).is k v=Ji k v:=rfl
def QJ(prog:Program)(w:World)(i:Int)(t:Tok):(fU prog w).is (.inl i) (.int i t)=true:=Yr i t
def gH(prog:Program)(w:World)(x:Str)(t:Tok):(fU prog w).is (.inr x) (.str x t)=true:=Ys x t
inductive V where
 |non|bl (b:Bool)|int (i:Int)|str (x:Str)|Ww (b:Array UInt8)|flt (b:UInt64)|ref (a:Addr)|ty (n:String)
 deriving DecidableEq
variable{pos p:Pos}{K:aK}{A:Around}{h h' base:Heap}{e tg c:Expr}{es:List Expr}{k t' n:Nat}{Z98:Model}{op:CmpOp}{ch fp:List Addr}{N:List Str}{body:List Stmt}{mA mg:Str->Option Value}{pl:Sem Bool}{kw:List (Str×Value)}
def cP:V->Value->Prop
 |.non,u=>u=Value.none
 |.bl b,u=>u=Value.bool b
 |.int i,u=>∃t,u=Value.int i t
 |.str x,u=>∃t,u=Value.str x t
 |.Ww b,u=>∃t,u=Value.bytes b t
 |.flt b,u=>∃t,u=Value.float b t
 |.ref a,u=>u=Value.ref a
 |.ty n,u=>u=Value.type n
abbrev cM:List V->List Value->Prop:=Paired cP
def cM.length{xs:List V}{us:List Value}(r:cM xs us):xs.length=us.length:=aY r
theorem cM.get:∀{xs:List V}{us:List Value}{i:Nat}{x:V},cM xs us->xs[i]?=some x->∃u,us[i]?=some u/\cP x u
 |_,_,_,_,.nil,e=>by simp at e
 |_,_,0,_,.cons r _,e=>by simp at e;subst e;exact⟨_,Z,r⟩
 |_,_,i+1,x,.cons _ t,e=>by
  obtain⟨u,h1,h2⟩:=cM.get (i:=i) (x:=x) t (by simpa using e)
  exact⟨u,by simpa using h1,h2⟩
theorem cM.set{x:V}{u:Value}(r:cP x u):∀{xs:List V}{us:List Value} (i:Nat),cM xs us->cM (xs.set i x) (us.set i u)
 |_,_,_,.nil=>.nil
 |_,_,0,.cons _ t=>.cons r t
 |_,_,i+1,.cons q t=>.cons q (cM.set r i t)
def cM.append{xs ys:List V}{us ws:List Value}(h:cM xs us)(s:cM ys ws):cM (xs++ys) (us++ws):=by
 induction h with
 |nil=>exact s
 |cons r _ ih=>exact .cons r ih
theorem cM.take:∀{xs:List V}{us:List Value} (n:Nat),cM xs us->cM (xs.take n) (us.take n)
 |_,_,0,_=>.nil
 |_,_,_+1,.nil=>.nil
 |_,_,n+1,.cons r t=>.cons r (cM.take n t)
theorem cM.drop:∀{xs:List V}{us:List Value} (n:Nat),cM xs us->cM (xs.drop n) (us.drop n)
 |_,_,0,r=>r
 |_,_,_+1,.nil=>.nil
 |_,_,n+1,.cons _ t=>cM.drop n t
def tV:Option V->Option Value->Prop
 |some v,some u=>cP v u
 |none,none=>True
 |_,_=>False
def KV{κ:Type}:List (κ×V)->List (κ×Value)->Prop:=Paired λ(p:κ×V) (q:κ×Value)=>p.1=q.1/\cP p.2 q.2
def kV:Key->V
 |.inl i=>.int i
 |.inr x=>.str x
inductive HO where
 |lst (xs:List V)
 |tup (xs:List V)
 |dK (O:List (Key×V))|dT (O:List (List Key×V))
 |set (S:Int->Bool) (n:Nat)
 |ins (C dx:Addr) (fs:List (Str×V))
 |own (x:Addr)
 |xd (fs:List (Str×V))
 |met (f x:Addr)
 |rng (lo hi:Int)
 |kj (o:Obj) (u:HO)
 |tbl (ps:Array Value)
 |ext (φ:Heap->Prop)
abbrev Hp:=Addr->Option HO
def cO(H:Hp)(a:Addr)(o:HO):Hp:=λb=>if b=a then some o else H b
def eG{H:Hp}{a:Addr}{o:HO}:cO H a o a=some o:=by unfold cO;rw[aG rfl]
def aZ{H:Hp}{a b:Addr}{o:HO}(h:b≠a):cO H a o b=H b:=by unfold cO;rw[aB h]
def a1x{H:Hp}{a b:Addr}{o u:HO}(h:H a=some o)(h':H b=some u)(d:o≠u):a≠b:=by
 intro e;subst e;rw[h]at h';exact d (gh h')
def dU{H:Hp}{a b:Addr}{o:HO}(h:H a=some o)(h':H b=none):a≠b:=by
 intro e;subst e;rw[h]at h';cases h'
section
variable(P:Program)(w:World)
def fZ(H:Hp)(h:Heap)(a:Addr):HO->Prop
 |.lst xs=>xs.length<=sizeLine/\∃(cg:List Value) (n:Nat),cM xs cg/\h.get? a=some { cls:=.type "list",data:=.seq cg.toArray n}
 |.tup xs=>xs.length<=sizeLine/\∃cg:List Value,cM xs cg/\IsTup h a cg.toArray
 |.dK O=>O.length<=sizeLine/\(a==sysModules)=false/\∃vs,KV O vs/\h.DictOf (fU P w) a vs
 |.dT O=>O.length<=sizeLine/\(a==sysModules)=false/\∃xs:List (List Key×Addr×Value),
   Paired (λ(p:List Key×V) (q:List Key×Addr×Value)=>p.1=q.1/\H q.2.1=some (.tup (p.1.map kV))/\cP p.2 q.2.2) O xs/\
   ∃o es ep,h.get? a=some o/\o.ExactDict/\o.data=.dict es ep/\es.toList=xs.map (entryOfKey (tupleKind (fU P w)))/\(xs.map (·.1)).Nodup
 |.set S n=>h.SetOf (intKind P w) a S n
 |.ins C dx fs=>H dx=some (.own a)/\fs.length<=1000/\dx≠a/\h.get? a=some (PySem.W.instObj C dx)/\
   ∃mA,h.Ns1 dx mA/\(∀f,tV (fs.lookup f) (mA f))/\PySem.Within mA (fs.map (·.1))
 |.own _=>∃o,h.get? a=some o
 |.xd fs=>∃mA,h.Ns1 a mA/\∀f,tV (fs.lookup f) (mA f)
 |.rng lo hi=>∃t u v,h.get? a=some { cls:=.type "range",data:=.fields #[.int lo t,.int hi u,.int 1 v]}
 |.kj o u=>h.get? a=some o/\fZ H h a u
 |.tbl ps=>h.get? a=some { cls:=.none,data:=.fields ps}
 |.met f x=>h.get? a=some (PySem.W.methodObj (.ref f) (.ref x))
 |.ext φ=>φ h/\(∃o,h.get? a=some o)/\∀h1 h2:Heap,φ h1->(∀o,h1.get? a=some o->h2.get? a=some o)->φ h2
def zA(H:Hp)(h:Heap):Prop:=∀a o,H a=some o->fZ P w H h a o
end
section
variable{P:Program}{w:World}{H H':Hp}{a:Addr}{o:HO}
def fZ.lt(x:fZ P w H h a o):a<h.objs.size:=by
 cases o with
 |lst xs=>obtain⟨_,_,_,_,e⟩:=x;exact aX e
 |tup xs=>obtain⟨_,_,_,p⟩:=x;exact p.lt
 |dK O=>obtain⟨_,_,_,_,o,_,_,e,_⟩:=x;exact aX e
 |dT O=>obtain⟨_,_,_,_,o,_,_,e,_⟩:=x;exact aX e
 |set S n=>obtain⟨o,_,_,_,e,_⟩:=x;exact aX e
 |ins C dx fs=>obtain⟨_,_,_,e,_⟩:=x;exact aX e
 |own y=>obtain⟨_,e⟩:=x;exact aX e
 |xd fs=>obtain⟨_,⟨_,_,_,e,_⟩,_⟩:=x;exact aX e
 |rng lo hi=>obtain⟨_,_,_,e⟩:=x;exact aX e
 |kj ob u=>obtain⟨e,_⟩:=x;exact aX e
 |tbl ps=>exact aX (show h.get? a=some _ from x)
 |met f y=>exact aX (show h.get? a=some _ from x)
 |ext φ=>obtain⟨_,⟨_,e⟩,_⟩:=x;exact aX e
def Paired.bU{α β:Type}{F G:α->β->Prop}{l₁:List α}{l₂:List β}(h:Paired F l₁ l₂)(f:∀a b,F a b->G a b):Paired G l₁ l₂:=by
 induction h with
 |nil=>exact .nil
 |cons r _ ih=>exact .cons (f _ _ r) ih
def fZ.stay(x:fZ P w H h a o)(k:∀b u,(b=a\/H b=some (.own a))->h.get? b=some u->h'.get? b=some u)
  (ho:∀b,H b=some (.own a)->H' b=some (.own a)) (ht:∀b xs,H b=some (.tup xs)->H' b=some (.tup xs)):fZ P w H' h' a o:=by
 induction o with
 |lst xs=>obtain⟨z,cg,n,r,e⟩:=x;exact⟨z,cg,n,r,k _ _ (.inl Z) e⟩
 |tup xs=>obtain⟨z,cg,r,ob,e,c⟩:=x;exact⟨z,cg,r,ob,k _ _ (.inl Z) e,c⟩
 |dK O=>obtain⟨z,y,vs,r,ob,es,ep,e,c⟩:=x;exact⟨z,y,vs,r,ob,es,ep,k _ _ (.inl Z) e,c⟩
 |dT O =>
  obtain⟨z,y,xs,r,ob,es,ep,e,c⟩:=x;exact⟨z,y,xs,Paired.bU r λp q z=>⟨z.1,ht _ _ z.2.1,z.2.2⟩,ob,es,ep,k _ _ (.inl Z) e,c⟩
 |set S n=>obtain⟨ob,es,ep,t,e,c⟩:=x;exact⟨ob,es,ep,t,k _ _ (.inl Z) e,c⟩
 |ins C dx fs =>
  obtain⟨d,z,ne,e,mA,⟨od,es,ep,e2,c⟩,r⟩:=x;exact⟨ho _ d,z,ne,k _ _ (.inl Z) e,mA,⟨od,es,ep,k _ _ (.inr d) e2,c⟩,r⟩
 |own y=>obtain⟨ob,e⟩:=x;exact⟨ob,k _ _ (.inl Z) e⟩
 |xd fs=>obtain⟨mA,⟨od,es,ep,e,c⟩,r⟩:=x;exact⟨mA,⟨od,es,ep,k _ _ (.inl Z) e,c⟩,r⟩
 |rng lo hi=>obtain⟨t,u,v,e⟩:=x;exact⟨t,u,v,k _ _ (.inl Z) e⟩
 |kj ob u ih=>obtain⟨e,q⟩:=x;exact⟨k _ _ (.inl Z) e,ih q⟩
 |tbl ps =>
  have e:h.get? a=some { cls:=.none,data:=.fields ps}:=x;show h'.get? a=some { cls:=.none,data:=.fields ps};exact k a _ (.inl Z) e
 |met f y =>
  have e:h.get? a=some (PySem.W.methodObj (.ref f) (.ref y)):=x;show h'.get? a=some (PySem.W.methodObj (.ref f) (.ref y));exact k a _ (.inl Z) e
 |ext φ=>obtain⟨p,⟨o,e⟩,st⟩:=x;exact⟨st _ _ p λo q=>k _ _ (.inl Z) q,⟨o,k _ _ (.inl Z) e⟩,st⟩
def zA.lt(x:zA P w H h)(e:H a=some o):a<h.objs.size:=(x a o e).lt
def zA.fresh(x:zA P w H h)(e:h.objs.size<=a):H a=none:=by
 cases q:H a with
 |none=>rfl
 |some u=>exact absurd (jB (x.lt q) e) (xM _)
def zA.kept(x:zA P w H h)(k:∀b u,h.get? b=some u->h'.get? b=some u):zA P w H h':=λa o e =>
 (x a o e).stay (λb u _ q=>k b u q) (λ_ q=>q) λ_ _ q=>q
def zA.laid(x:zA P w H h)(k:∀b u,h.get? b=some u->h'.get? b=some u)(hp:h.objs.size<=a)(new:fZ P w (cO H a o) h' a o):zA P w (cO H a o) h':=λb u e=>by
 have hn:=x.fresh hp;by_cases hb:b=a
 ·subst hb;rw[eG]at e;cases e;exact new
 ·rw[aZ hb]at e;exact(x b u e).stay (λc v _ q=>k c v q) (λc q=>by rw[aZ (dU q hn)];exact q) λc xs q=>by rw[aZ (dU q hn)];exact q
end
def Rd(H:Hp)(a:Addr)(u:HO):Prop:=H a=some u\/∃o,H a=some (.kj o u)
def Rd.ok{P:Program}{w:World}{H:Hp}{a:Addr}{u:HO}(r:Rd H a u)(x:zA P w H h):fZ P w H h a u:=by
 rcases r with r|⟨o,r⟩
 ·exact x a u r
 ·obtain⟨_,q⟩:=x a _ r;exact q
def Mut:Option HO->Prop
 |some (.lst _)=>True
 |some (.dK _)=>True
 |some (.dT _)=>True
 |some (.set _ _)=>True
 |some (.ins _ _ _)=>True
 |some (.ext _)=>True
 |_=>False
section
variable{P:Program}{w:World}{H:Hp}{x e:Addr}{o':HO}
def zA.write(ok:zA P w H h)(mu:Mut (H x))(he:e=x\/H e=some (.own x))(k:∀b u,b≠e->h.get? b=some u->h'.get? b=some u)(heo:∃u,h'.get? e=some u)
  (new:fZ P w (cO H x o') h' x o'):zA P w (cO H x o') h':=λb u q=>by
 have a3N:∀c y,H c=some (.own y)->c≠x:=λc y r z=>by subst z;rw[r]at mu;exact mu
 have a1T:∀c xs,H c=some (.tup xs)->c≠x:=λc xs r z=>by subst z;rw[r]at mu;exact mu
 by_cases hb:b=x
 ·subst hb;rw[eG]at q;cases q;exact new
 ·rw[aZ hb]at q;by_cases hbe:b=e
  ·have q':H b=some (.own x):=by
    rcases he with z|z
    ·exact absurd (hbe.trans z) hb
    ·rw[hbe];exact z
   rw[q]at q';cases q';obtain⟨v,hv⟩:=heo;exact⟨v,by rw[hbe];exact hv⟩
  ·refine(ok b u q).stay (λc v hc r=>k c v ?_ r) (λc r=>by rw[aZ (a3N c b r)];exact r) λc xs r=>by rw[aZ (a1T c xs r)];exact r
   rcases hc with rfl|hc
   ·exact hbe
   ·rintro rfl;rcases he with z|z
    ·exact a3N c b hc z
    ·rw[hc]at z;cases z;exact hb rfl
end
structure Un(fs ex:List Addr)(H H':Hp)(h h':Heap):Prop where
 keep:∀b o,h.get? b=some o->H b=none->b∉fs->b∉ex->h'.get? b=some o
 slot:∀b o,h.get? b=some o->H b=none->b∈fs->b∉ex->∃sl,h'.get? b=some { o with slots:=sl}
 free:∀b o,h.get? b=some o->H b=none->b∉ex->H' b=none
 there:∀b o,h.get? b=some o->b∉ex->∃o',h'.get? b=some o'
 tups:∀b xs,H b=some (.tup xs)->H' b=some (.tup xs)
 Jj:∀b o u,H b=some (.kj o u)->H' b=some (.kj o u)
 O6:∀b ps,H b=some (.tbl ps)->∃more,H' b=some (.tbl (ps++more))
section
variable{fs fs' ex ex':List Addr}{H H1 H2:Hp}{h1 h2:Heap}{a x e:Addr}{o:HO}
def Un.any(u:Un fs ex H H1 h h1){b:Addr}{ob:Obj}(q:h.get? b=some ob)(n:H b=none)(hx:b∉ex):∃sl,h1.get? b=some { ob with slots:=sl}:=by
 by_cases hb:b∈fs
 ·exact u.slot b ob q n hb hx
 ·exact⟨ob.slots,u.keep b ob q n hb hx⟩
def Un.kept(k:∀b u,h.get? b=some u->h'.get? b=some u):Un fs ex H H h h' :=
 ⟨λb ob q _ _ _=>k b ob q,λb ob q _ _ _=>⟨ob.slots,k b ob q⟩,λ_ _ _ n _=>n,λb ob q _=>⟨ob,k b ob q⟩,λ_ _ q=>q,λ_ _ _ q=>q,λ_ ps q=>⟨#[],by rw[q];simp⟩⟩
def Un.refl:Un fs ex H H h h:=Un.kept λ_ _ q=>q
def Un.laid(k:∀b u,h.get? b=some u->h'.get? b=some u)(hp:h.objs.size<=a)(hn:H a=none):Un fs ex H (cO H a o) h h' where
 keep:=λb u q _ _ _=>k b u q
 slot:=λb u q _ _ _=>⟨u.slots,k b u q⟩
 free:=λb u q n _=>by rw[aZ (cu (jB (aX q) hp))];exact n
 there:=λb u q _=>⟨u,k b u q⟩
 tups:=λb xs q=>by rw[aZ (dU q hn)];exact q
 Jj:=λb u xs q=>by rw[aZ (dU q hn)];exact q
 O6:=λb ps q=>⟨#[],by rw[aZ (dU q hn),q];simp⟩
def Un.write(mu:Mut (H x))(he:e=x\/H e=some (.own x))(k:∀b u,b≠e->h.get? b=some u->h'.get? b=some u)(heo:∃u,h'.get? e=some u):Un fs ex H (cO H x o) h h':=by
 have hx:∀b,H b=none->b≠x:=λb n z=>by subst z;rw[n]at mu;exact mu
 have hb:∀b,H b=none->b≠e:=λb n z=>by
  subst z;rcases he with r|r
  ·exact hx b n r
  ·rw[n]at r;cases r
 have hm:∀b u,H b=some u->¬Mut (some u)->b≠x:=λb u q nm z=>by subst z;rw[q]at mu;exact nm mu
 refine⟨λb u q n _ _=>k b u (hb b n) q,λb u q n _ _=>⟨u.slots,k b u (hb b n) q⟩,λb u q n _=>by rw[aZ (hx b n)];exact n,λb u q _=>?_,
  λb xs q=>by rw[aZ (hm b _ q λz=>z)];exact q,λb u xs q=>by rw[aZ (hm b _ q λz=>z)];exact q,λb ps q=>⟨#[],by rw[aZ (hm b _ q λz=>z),q];simp⟩⟩
 by_cases hbe:b=e
 ·subst hbe;exact heo
 ·exact⟨u,k b u hbe q⟩
end
def trk(h:Heap)(H:Hp):List Addr:=(List.range h.objs.size).filter λa=>(H a).isSome
def O7(h:Heap)(H:Hp):Heap:=PySem.W.hideAll h (trk h H)
def Yt(h:Heap)(H:Hp):(O7 h H).objs.size=h.objs.size:=PySem.W.hideAll_size _ _
def Ú{H:Hp}{b:Addr}{o:Obj}(e:h.get? b=some o)(n:H b=none):(O7 h H).get? b=some o :=
 PySem.W.hideAll_get _ e λhm=>by
  have q:(H b).isSome=true:=(iH.mp hm).2;rw[n]at q;simp at q
def ź{H:Hp}{b:Addr}{o:Obj}(e:(O7 h H).get? b=some o):h.get? b=some o/\H b=none:=by
 have e':h.get? b=some o:=PySem.W.of_hideAll (trk h H) e;refine⟨e',?_⟩;cases q:H b with
 |none=>rfl
 |some x =>
  have hm:b∈trk h H:=iH.mpr ⟨mF.mpr (aX e'),by simp[q]⟩;have z:(O7 h H).get? b=none:=PySem.W.hideAll_none (trk h H) hm;rw[z]at e;cases e
structure Mod(K:aK)(mg:Str->Option Value)(base:Heap):Prop where
 kin:K.In base
 glob:base.Ns mainGlobals mg
 blt:∃mb,base.Ns builtinsNs mb/\∀x:Str,x≠ "__name__" ->mb x=bootBuiltins x
 nolimit:base.NoLimit
set_option genInjectivity false in
structure Cx where
 prog:Program
 w:World
 K:aK
 mg:Str->Option Value
 base:Heap
 A:Around
 N:List Str
 s₀:Shared
 H₀:Hp
 env:Env
 outer:List Env
 stack:List Env
 ex:List Addr
 fn:Str->Bool
 calm:Bool
 pn:List (Addr×Obj)
 xe:Value->Shared->Prop
def frs(l:List Env):List Addr:=l.filterMap (·.frame)
abbrev Cx.fs(X:Cx):List Addr:=frs X.outer
def Vis(sc:Scope)(x:Str):Prop:=sc.names.lookup x=some .local\/sc.names.lookup x=some .cell\/sc.names.lookup x=some .free
def Loc(sc:Scope)(x:Str):Prop:=sc.names.lookup x=some .local\/sc.names.lookup x=some .cell
def Look(env:Env)(h:Heap)(m:Str->Option Value)(x:Str)(u:Value):Prop :=
 (env.kindOf x=some .local/\m x=some u)\/((env.kindOf x=some .cell\/env.kindOf x=some .free)/\∃c,env.cells.lookup x=some c/\h.IsCell c (some u))
structure Cx.Ok(X:Cx):Prop where
 mod:Mod X.K X.mg X.base
 kind:X.env.scope.kind=.function
 glob:X.env.globals=mainGlobals
 blt:X.env.builtins=builtinsNs
 above:X.s₀.heap.objs.size<=X.env.locals
 inj:∀x y c,X.env.cells.lookup x=some c->X.env.cells.lookup y=some c->x=y
 has:∀x,(X.env.kindOf x=some .cell\/X.env.kindOf x=some .free)->∃c,X.env.cells.lookup x=some c
 cab:∀x c,X.fn x=true->X.env.cells.lookup x=some c->X.s₀.heap.objs.size<=c
 hd:X.calm=true->X.A.handled=none
 frames:X.A.frames=some X.stack
 stk:X.stack=X.outer\/(X.stack=X.env::X.outer/\X.env.frame=some X.env.locals)
 exf:∀b∈X.ex,b≠X.env.locals/\∀x c,X.env.cells.lookup x=some c->c≠b
 bs:∀b o,X.base.get? b=some o->X.s₀.heap.get? b=some o/\X.H₀ b=none
 ũ:X.base.objs.size<=X.s₀.heap.objs.size
 Uy:∀b o,X.base.get? b=some o->b∉X.ex
 Yu:∀b∈X.ex,b∉X.fs
 BX:X.s₀.heap.FunFrames X.base X.outer
 Ż:∀b∈X.fs,X.H₀ b=none
structure bH(X:Cx)(Y:List (Addr×Obj))(σ:List (Option V))(H:Hp)(s:Shared):Prop where
 ok:X.Ok
 os:s.os=X.s₀.os
 bare:AllBare s.gens
 base:Un X.fs X.ex X.H₀ H X.s₀.heap s.heap
 loc:∃m,s.heap.Ns X.env.locals m/\∀(i:Nat) (x:Str) (v:V),X.N[i]?=some x->σ[i]?=some (some v)->Vis X.env.scope x->∃u,cP v u/\Look X.env s.heap m x u
 cell:∀x c,X.env.cells.lookup x=some c->∃v,s.heap.IsCell c v
 free:H X.env.locals=none
 tW:∀x c,X.env.cells.lookup x=some c->H c=none
 pin:∀p∈X.pn++Y,s.heap.get? p.1=some p.2/\H p.1=none/\p.1≠X.env.locals/\p.1∉X.fs/\∀v,p.2.data≠.cell v
 hok:zA X.prog X.w H s.heap
 len:σ.length=X.N.length
section
variable{X:Cx}{Y:List (Addr×Obj)}{σ:List (Option V)}{H H':Hp}{s:Shared}
def Cx.Ok.a5E(ok:X.Ok){b:Addr}{o:Obj}(e:X.base.get? b=some o):b∉X.fs:=λhb=>by
 have:=(ok.BX.mem hb).1;rw[e]at this;cases this
def bH.bs(I:bH X Y σ H s):∀b o,X.base.get? b=some o->s.heap.get? b=some o/\H b=none:=λb o e =>
 ⟨I.base.keep b o (I.ok.bs b o e).1 (I.ok.bs b o e).2 (I.ok.a5E e) (I.ok.Uy b o e),I.base.free b o (I.ok.bs b o e).1 (I.ok.bs b o e).2 (I.ok.Uy b o e)⟩
def bH.bk(I:bH X Y σ H s):∀b o,X.base.get? b=some o->s.heap.get? b=some o:=λb o e=>(I.bs b o e).1
def bH.mod(I:bH X Y σ H s):Mod X.K X.mg X.base:=I.ok.mod
def bH.DN(I:bH X Y σ H s):X.K.In s.heap:=I.ok.mod.kin.keeps I.bk
def bH.lt(I:bH X Y σ H s):X.env.locals<s.heap.objs.size:=let⟨_,hn,_⟩:=I.loc;hn.lt
def bH.sz(I:bH X Y σ H s):X.s₀.heap.objs.size<=s.heap.objs.size:=cW I.ok.above (dH I.lt)
def bH.a3O(I:bH X Y σ H s){a:Addr}(h:s.heap.objs.size<=a):a∉X.fs:=λhb=>by
 obtain⟨_,o,ho,_⟩:=I.ok.BX.mem hb;exact absurd (jB (aX ho) (cW I.sz h)) (xM _)
def bH.cne(I:bH X Y σ H s):∀x c,X.env.cells.lookup x=some c->c≠X.env.locals:=λx c e z=>by
 obtain⟨v,o,ho,hd⟩:=I.cell x c e;obtain⟨m,⟨o',es,ep,ho',hd',_⟩,_⟩:=I.loc;rw[z,ho']at ho;cases ho;rw[hd']at hd;cases hd
def bH.BX(I:bH X Y σ H s):s.heap.FunFrames X.base X.outer:=by
 have all:∀(l:List Env),(∀b∈frs l,b∈X.fs)->X.s₀.heap.FunFrames X.base l->s.heap.FunFrames X.base l:=by
  intro l
  induction l with
  |nil=>intro _ _;trivial
  |cons env r ih =>
   intro hs hl;obtain⟨hk,⟨L,o,hf,hn,ho,hd⟩,hr⟩:=hl;have hL:L∈X.fs:=hs L (by unfold frs;rw[T3,hf];exact aW);obtain⟨sl,e⟩:=I.base.slot L o ho (I.ok.Ż L hL) hL λz=>I.ok.Yu L z hL;exact⟨hk,⟨L,_,hf,hn,e,hd⟩,ih (λb hb=>hs b (by unfold frs;rw[T3,hf];exact bM _ hb)) hr⟩
 exact all X.outer (λ_ hb=>hb) I.ok.BX
def bH.stack(I:bH X Y σ H s):s.heap.FunFrames X.base X.stack:=by
 rcases I.ok.stk with e|⟨e,hf⟩
 ·rw[e];exact I.BX
 ·rw[e];obtain⟨m,hn,_⟩:=I.loc;refine .cons (by rw[I.ok.kind];decide) hf hn ?_ I.BX;exact Heap.get?_none_of_le (cW I.ok.ũ I.ok.above)
def bH.Eo(I:bH X Y σ H s):∀b∈frs X.stack,b∈X.env.locals::X.fs:=λb hb=>by
 rcases I.ok.stk with e|⟨e,hf⟩
 ·rw[e]at hb;exact bM _ hb
 ·rw[e]at hb;unfold frs at hb;rw[T3,hf]at hb;exact hb
def bH.Wx(I:bH X Y σ H s):∀b∈frs X.stack,H b=none:=λb hb=>by
 rcases cH.mp (I.Eo b hb)with e|hb
 ·rw[e];exact I.free
 ·obtain⟨_,o,ho,_⟩:=I.ok.BX.mem hb;exact I.base.free b o ho (I.ok.Ż b hb) λz=>I.ok.Yu b z hb
def bH.step{g':Array GenState}{d':Drawn}(I:bH X Y σ H s)
  (hch:∀b∈ch,(b∈X.ex\/X.s₀.heap.objs.size<=b)/\b≠X.env.locals/\(∀x c,X.env.cells.lookup x=some c->c≠b)/\∀p∈X.pn++Y,p.1≠b)
  (keep:∀b o,b≠X.env.locals->b∉X.fs->b∉ch->s.heap.get? b=some o->H b=none->h'.get? b=some o)
  (slot:∀b o,b≠X.env.locals->b∈X.fs->b∉ch->s.heap.get? b=some o->H b=none->∃sl,h'.get? b=some { o with slots:=sl}) (free:∀b o,b∉ch->s.heap.get? b=some o->H b=none->H' b=none)
  (there:∀b o,b∉ch->s.heap.get? b=some o->∃o',h'.get? b=some o')
  (tups:∀b xs,H b=some (.tup xs)->H' b=some (.tup xs)) (Jj:∀b o u,H b=some (.kj o u)->H' b=some (.kj o u)) (O6:∀b ps,H b=some (.tbl ps)->∃more,H' b=some (.tbl (ps++more)))
  (ns:∀m,s.heap.Ns X.env.locals m->h'.Ns X.env.locals m) (hok:zA X.prog X.w H' h') (hg:AllBare g') :
  bH X Y σ H' { s with heap:=h',gens:=g',drawn:=d',toks:=t'}:=by
 have neL:∀b o,X.s₀.heap.get? b=some o->b≠X.env.locals:=λb o e=>cu (jB (aX e) I.ok.above);have neC:∀b o,X.s₀.heap.get? b=some o->b∉X.ex->b∉ch:=λb o e hx hb=>by
  rcases(hch b hb).1 with z|z
  ·exact hx z
  ·exact absurd (jB (aX e) z) (xM _)
 have cellK:∀x c,X.env.cells.lookup x=some c->∀v,s.heap.IsCell c v->h'.IsCell c v:=λx c e v ⟨o,ho,hd⟩=>by
  have nch:c∉ch:=λz=>(hch c z).2.2.1 x c e rfl;by_cases hc:c∈X.fs
  ·obtain⟨sl,q⟩:=slot c o (I.cne x c e) hc nch ho (I.tW x c e);exact⟨_,q,hd⟩
  ·exact⟨o,keep c o (I.cne x c e) hc nch ho (I.tW x c e),hd⟩
 refine⟨I.ok,I.os,hg,⟨λb o e n hb hx=>?_,λb o e n hb hx=>?_,λb o e n hx=>?_,λb o e hx=>?_,λb xs e=>tups b xs (I.base.tups b xs e),λb o xs e=>Jj b o xs (I.base.Jj b o xs e),λb ps e=>?_⟩,?_,λx c e=>?_,?_,λx c e=>?_,λp hp=>?_,hok,I.len⟩
 ·exact keep b o (neL b o e) hb (neC b o e hx) (I.base.keep b o e n hb hx) (I.base.free b o e n hx)
 ·obtain⟨sl,e1⟩:=I.base.slot b o e n hb hx;obtain⟨sl',e2⟩:=slot b _ (neL b o e) hb (neC b o e hx) e1 (I.base.free b o e n hx);exact⟨sl',e2⟩
 ·obtain⟨o',e1⟩:=I.base.there b o e hx;exact free b o' (neC b o e hx) e1 (I.base.free b o e n hx)
 ·obtain⟨o',e1⟩:=I.base.there b o e hx;exact there b o' (neC b o e hx) e1
 ·obtain⟨m1,e1⟩:=I.base.O6 b ps e;obtain⟨m2,e2⟩:=O6 b _ e1;exact⟨m1++m2,by rw[e2,Array.append_assoc]⟩
 ·obtain⟨m,hn,hl⟩:=I.loc;refine⟨m,ns m hn,λi x v e1 e2 e3=>?_⟩;obtain⟨u,r,l⟩:=hl i x v e1 e2 e3;refine⟨u,r,?_⟩;rcases l with l|⟨k,c,e,z⟩
  ·exact .inl l
  ·exact .inr ⟨k,c,e,cellK x c e _ z⟩
 ·obtain⟨v,z⟩:=I.cell x c e;exact⟨v,cellK x c e v z⟩
 ·obtain⟨m,⟨o,_,_,ho,_⟩,_⟩:=I.loc;exact free _ o (λz=>(hch _ z).2.1 Z) ho I.free
 ·obtain⟨v,o,ho,hd⟩:=I.cell x c e;exact free c o (λz=>(hch c z).2.2.1 x c e Z) ho (I.tW x c e)
 ·obtain⟨e,n,ne,nf,d⟩:=I.pin p hp;have nch:p.1∉ch:=λz=>(hch p.1 z).2.2.2 p hp rfl;exact⟨keep p.1 p.2 ne nf nch e n,free p.1 p.2 nch e n,ne,nf,d⟩
def bH.un(I:bH X Y σ H s)(u:Un X.fs [] H H' s.heap h')(hok:zA X.prog X.w H' h'):bH X Y σ H' { s with heap:=h',toks:=t'}:=by
 obtain⟨m,⟨o,es,ep,ho,r⟩,_⟩:=id I.loc;obtain⟨sl,hL⟩:=u.any ho I.free (by simp);exact I.step (g':=s.gens) (d':=s.drawn) (ch:=[]) (λ_ z=>nomatch z) (λb o _ hb _ e n=>u.keep b o e n hb (by simp)) (λb o _ hb _ e n=>u.slot b o e n hb (by simp)) (λb o _ e n=>u.free b o e n (by simp)) (λb o _ e=>u.there b o e (by simp)) u.tups u.Jj u.O6 (λm' hm=>by
  obtain⟨o',es',ep',ho',r'⟩:=hm;rw[ho]at ho';cases ho';exact⟨_,es',ep',hL,r'⟩) hok I.bare
def bH.call{g':Array GenState}{d':Drawn}(I:bH X Y σ H s)(u:Un (frs X.stack) ch H H' s.heap h')(hok:zA X.prog X.w H' h')(hg:AllBare g')
  (hch:∀b∈ch,(b∈X.ex\/X.s₀.heap.objs.size<=b)/\b≠X.env.locals/\(∀x c,X.env.cells.lookup x=some c->c≠b)/\∀p∈X.pn++Y,p.1≠b) :
  bH X Y σ H' { s with heap:=h',gens:=g',drawn:=d',toks:=t'}:=by
 obtain⟨m,⟨o,es,ep,ho,r⟩,_⟩:=id I.loc;obtain⟨sl,hL⟩:=u.any ho I.free λz=>(hch _ z).2.1 rfl;exact I.step (ch:=ch) hch (λb o hL hb hc e n=>u.keep b o e n (λz=>(cH.mp (I.Eo b z)).elim hL hb) hc) (λb o _ _ hc e n=>u.any e n hc) (λb o hc e n=>u.free b o e n hc) (λb o hc e=>u.there b o e hc) u.tups u.Jj u.O6 (λm' hm=>by
  obtain⟨o',es',ep',ho',r'⟩:=hm;rw[ho]at ho';cases ho';exact⟨_,es',ep',hL,r'⟩) hok hg
def bH.turned{it:Addr}(I:bH X Y σ H s)(k:∀b o,b≠it->s.heap.get? b=some o->h'.get? b=some o)(hn:H it=none)(hL:it≠X.env.locals)
  (h1:it∈X.ex\/X.s₀.heap.objs.size<=it) (h2:∀x c,X.env.cells.lookup x=some c->c≠it) (h3:∀p∈X.pn++Y,p.1≠it):bH X Y σ H { s with heap:=h',toks:=t'}:=by
 have nit:∀b u,H b=some u->b≠it:=λb u e z=>by rw[z,hn]at e;cases e
 refine I.step (g':=s.gens) (d':=s.drawn) (ch:=[it]) (λb hb=>?_) (λb o _ _ hc e _=>k b o (λz=>hc (by simp[z])) e) (λb o _ _ hc e _=>⟨o.slots,k b o (λz=>hc (by simp[z])) e⟩) (λ_ _ _ _ n=>n)
  (λb o hc e=>⟨o,k b o (λz=>hc (by simp[z])) e⟩) (λ_ _ e=>e) (λ_ _ _ e=>e) (λb ps e=>⟨#[],by rw[e];simp⟩) (λm hm=>?_) (λb u e=>?_) I.bare
 ·have e:b=it:=by simpa using hb
  subst e;exact⟨h1,hL,h2,h3⟩
 ·obtain⟨o,es,ep,ho,r⟩:=hm;exact⟨o,es,ep,k _ o (Ne.symm hL) ho,r⟩
 ·refine(I.hok b u e).stay (λc v hc q=>k c v ?_ q) (λ_ q=>q) λ_ _ q=>q;rcases hc with z|z
  ·rw[z];exact nit b u e
  ·exact nit c _ z
def bH.tok(I:bH X Y σ H s)(t:Nat):bH X Y σ H { s with toks:=t}:=I.un (h':=s.heap) (t':=t) Un.refl I.hok
def bH.kept{t':Nat}(I:bH X Y σ H s)(k:∀b u,s.heap.get? b=some u->h'.get? b=some u):bH X Y σ H { s with heap:=h',toks:=t'}:=I.un (Un.kept k) (I.hok.kept k)
def bH.laid{a:Addr}{o:HO}{t':Nat}(I:bH X Y σ H s)(k:∀b u,s.heap.get? b=some u->h'.get? b=some u)(hp:s.heap.objs.size<=a)(new:fZ X.prog X.w (cO H a o) h' a o) :
  bH X Y σ (cO H a o) { s with heap:=h',toks:=t'}:=I.un (Un.laid k hp (I.hok.fresh hp)) (I.hok.laid k hp new)
def bH.write{x e:Addr}{o:HO}{t':Nat}(I:bH X Y σ H s)(mu:Mut (H x))(he:e=x\/H e=some (.own x))(k:∀b u,b≠e->s.heap.get? b=some u->h'.get? b=some u)(heo:∃u,h'.get? e=some u)
  (new:fZ X.prog X.w (cO H x o) h' x o):bH X Y σ (cO H x o) { s with heap:=h',toks:=t'}:=I.un (Un.write mu he k heo) (I.hok.write mu he k heo new)
def bH.Hy{a1y:List (Addr×Obj)}(I:bH X Y σ H s)(h:∀p∈a1y,s.heap.get? p.1=some p.2/\H p.1=none/\p.1≠X.env.locals/\p.1∉X.fs/\∀v,p.2.data≠.cell v):bH X a1y σ H s :=
 ⟨I.ok,I.os,I.bare,I.base,I.loc,I.cell,I.free,I.tW,λp hp=>(b7.mp hp).elim (λz=>I.pin p (tK _ z)) (h p),I.hok,I.len⟩
def QK(hN:N.Nodup){i j:Nat}{x:Str}(a:N[i]?=some x)(b:N[j]?=some x):i=j:=by
 obtain⟨h1,e1⟩:=fG.mp a;obtain⟨h2,e2⟩:=fG.mp b;exact(List.getElem_inj hN).mp (e1.trans e2.symm)
def Ly{E:Value->Shared->Prop}{i:Nat}{x:Str}{v:V}{u:Value}{Q:Unit->Shared->Prop}(I:bH X Y σ H s)(hN:X.N.Nodup)(hi:X.N[i]?=some x)(hx:Loc X.env.scope x)(r:cP v u)
  (h:∀s',bH X Y (σ.set i (some v)) H s'->(∃a,Heap.SameBut a s.heap s'.heap/\(a=X.env.locals\/X.env.cells.lookup x=some a))->Q () s') (hf:X.fn x=true\/X.env.scope.names.lookup x=some .local:=by first|exact .inl rfl|exact .inr rfl|assumption):wpAny Z98 A (storeName X.env x u) Q E s:=by
 obtain⟨m,hn,hl⟩:=id I.loc;have hcls:(X.env.scope.kind==.class||(X.env.scope.kind==.module&&X.env.locals != X.env.globals))=false:=by rw[I.ok.kind];rfl
 have a3P:i<σ.length:=by rw[I.len];exact(fG.mp hi).1
 have cne:=I.cne;have tracked:∀{a:Addr}{h':Heap},(∃o,s.heap.get? a=some o/\H a=none)->Heap.SameBut a s.heap h'->zA X.prog X.w H h':=λ{a h'} ha hs b ob e=>by
  obtain⟨_,_,hfree⟩:=ha;refine(I.hok b ob e).stay (λc w' hc q=>(hs.2 c ?_).trans q) (λ_ q=>q) λ_ _ q=>q;rintro rfl;rcases hc with rfl|hc
  ·rw[hfree]at e;cases e
  ·rw[hfree]at hc;cases hc
 rcases hx with hk|hk
 ·refine wpAny_storeName_local hk hn (λh' hn' hs=>?_) hcls;obtain⟨oL,_,_,hoL,_⟩:=id hn;refine h _ ⟨I.ok,I.os,I.bare,⟨λb o e n hb hx=>?_,λb o e n hb hx=>?_,I.base.free,λb o e hx=>?_,I.base.tups,I.base.Jj,I.base.O6⟩,⟨_,hn',λj y v' e1 e2 e3=>?_⟩,λy c e=>?_,I.free,I.tW,λp hp=>?_,tracked ⟨oL,hoL,I.free⟩ hs,by simpa using I.len⟩ ⟨_,hs,.inl Z⟩
  ·exact(hs.2 b (cu (jB (aX e) I.ok.above))).trans (I.base.keep b o e n hb hx)
  ·obtain⟨sl,e1⟩:=I.base.slot b o e n hb hx;exact⟨sl,(hs.2 b (cu (jB (aX e) I.ok.above))).trans e1⟩
  ·obtain⟨o',e1⟩:=I.base.there b o e hx;exact⟨o',(hs.2 b (cu (jB (aX e) I.ok.above))).trans e1⟩
  ·by_cases hj:j=i
   ·subst hj;rw[hi]at e1;cases e1;rw[List.getElem?_set_self a3P]at e2;cases e2;exact⟨u,r,.inl ⟨hk,by simp⟩⟩
   ·rw[List.getElem?_set_ne (Ne.symm hj)]at e2;obtain⟨u',r',q⟩:=hl j y v' e1 e2 e3;refine⟨u',r',?_⟩;rcases q with⟨k,e⟩|⟨k,c,e,z⟩
    ·refine .inl ⟨k,?_⟩;have:y≠x:=λe=>hj (QK hN e1 (e▸hi));simp[this,e]
    ·exact .inr ⟨k,c,e,z.sameBut hs (cne y c e)⟩
  ·obtain⟨w',z⟩:=I.cell y c e;exact⟨w',z.sameBut hs (cne y c e)⟩
  ·obtain⟨e,n,ne,nf,d⟩:=I.pin p hp;exact⟨(hs.2 p.1 ne).trans e,n,ne,nf,d⟩
 ·have hfn:X.fn x=true:=by
   rcases hf with z|z
   ·exact z
   ·rw[z]at hk;cases hk
  obtain⟨c,hc⟩:=I.ok.has x (.inl hk);obtain⟨w',z⟩:=I.cell x c hc;refine wpAny_storeName_cell I.ok.kind hk hc z (λh' hc' hs=>?_);obtain⟨oc,hoc,a5F⟩:=id z;refine h { s with heap:=h'} ⟨I.ok,I.os,I.bare,⟨λb o e n hb hx=>?_,λb o e n hb hx=>?_,I.base.free,λb o e hx=>?_,I.base.tups,I.base.Jj,I.base.O6⟩,⟨m,hn.sameBut hs (Ne.symm (cne x c hc)),λj y v' e1 e2 e3=>?_⟩,λy c' e=>?_,I.free,I.tW,λp hp=>?_,tracked ⟨oc,hoc,I.tW x c hc⟩ hs,by simpa using I.len⟩ ⟨c,hs,.inr hc⟩
  ·exact(hs.2 b (cu (jB (aX e) (I.ok.cab x c hfn hc)))).trans (I.base.keep b o e n hb hx)
  ·obtain⟨sl,e1⟩:=I.base.slot b o e n hb hx;exact⟨sl,(hs.2 b (cu (jB (aX e) (I.ok.cab x c hfn hc)))).trans e1⟩
  ·obtain⟨o',e1⟩:=I.base.there b o e hx;exact⟨o',(hs.2 b (cu (jB (aX e) (I.ok.cab x c hfn hc)))).trans e1⟩
  ·by_cases hj:j=i
   ·subst hj;rw[hi]at e1;cases e1;rw[List.getElem?_set_self a3P]at e2;cases e2;exact⟨u,r,.inr ⟨.inl hk,c,hc,hc'⟩⟩
   ·rw[List.getElem?_set_ne (Ne.symm hj)]at e2;obtain⟨u',r',q⟩:=hl j y v' e1 e2 e3;refine⟨u',r',?_⟩;rcases q with q|⟨k,c',e,z'⟩
    ·exact .inl q
    ·refine .inr ⟨k,c',e,z'.sameBut hs ?_⟩;rintro rfl;exact hj (QK hN e1 (I.ok.inj _ _ _ e hc▸hi))
  ·by_cases hcc:c'=c
   ·subst hcc;exact⟨_,hc'⟩
   ·obtain⟨w2,z2⟩:=I.cell y c' e;exact⟨w2,z2.sameBut hs hcc⟩
  ·obtain⟨e,n,ne,nf,d⟩:=I.pin p hp;refine⟨(hs.2 p.1 ?_).trans e,n,ne,nf,d⟩;intro q;rw[q,hoc]at e;have q':oc=p.2:=gh e;exact d w' (by rw[<-q'];exact a5F)
def QL{E:Value->Shared->Prop}{i:Nat}{x:Str}{v:V}{u:Value}{Q:Unit->Shared->Prop}(I:bH X Y σ H s)(hN:X.N.Nodup)(hi:X.N[i]?=some x)(hx:Loc X.env.scope x)(r:cP v u)
  (h:∀s',bH X Y (σ.set i (some v)) H s'->Q () s') (hf:X.fn x=true\/X.env.scope.names.lookup x=some .local:=by first|exact .inl rfl|exact .inr rfl|assumption):wpAny Z98 A (storeName X.env x u) Q E s :=
 Ly I hN hi hx r (λs' I' _=>h s' I') hf
def bH.call'{s':Shared}(I:bH X Y σ H s)(ho:s'.os=s.os)(u:Un (frs X.stack) ch H H' s.heap s'.heap)(hok:zA X.prog X.w H' s'.heap)(hg:AllBare s'.gens)
  (hch:∀b∈ch,(b∈X.ex\/X.s₀.heap.objs.size<=b)/\b≠X.env.locals/\(∀x c,X.env.cells.lookup x=some c->c≠b)/\∀p∈X.pn++Y,p.1≠b):bH X Y σ H' s':=by
 obtain⟨h',g',d',t',o'⟩:=s';have e:o'=s.os:=ho;subst e;exact I.call (g':=g') (t':=t') (d':=d') u hok hg hch
end
abbrev XK:=Value->Option Addr->Hp->Prop
abbrev St:=List (Option V)
abbrev VK:=V->Hp->Prop
abbrev TE:=St->Hp->VK->Prop
variable{ta te:TE}
abbrev TT:=St->Hp->(Bool->Hp->Prop)->Prop
abbrev TA:=St->Hp->(List V->Hp->Prop)->Prop
structure Ends where
 nx:St->Hp->Prop
 rt:VK
 bk:St->Hp->Prop:=λ_ _=>False
 ct:St->Hp->Prop:=λ_ _=>False
variable{D:Ends}
abbrev TS:=Ends->St->Hp->Prop
variable{tb:TS}
inductive EP(X:Cx)(Y:List (Addr×Obj))(σ:St)(Q:VK)(u:Value)(s':Shared):Prop
 |mk (v H':_) (_:bH X Y σ H' s') (_:cP v u) (_:Q v H')
def TP(X:Cx)(Y:List (Addr×Obj))(σ:St)(Q:Bool->Hp->Prop)(b:Bool)(s':Shared):Prop:=∃H',bH X Y σ H' s'/\Q b H'
inductive AP(X:Cx)(Y:List (Addr×Obj))(σ:St)(Q:List V->Hp->Prop)(us:List Value)(s':Shared):Prop
 |mk (vs H':_) (_:bH X Y σ H' s') (_:cM vs us) (_:Q vs H')
def SP(X:Cx)(Y:List (Addr×Obj))(D:Ends)(f:Flow)(s':Shared):Prop :=
 match f with
 |.next=>∃σ' H',bH X Y σ' H' s'/\D.nx σ' H'
 |.brk=>∃σ' H',bH X Y σ' H' s'/\D.bk σ' H'
 |.cont=>∃σ' H',bH X Y σ' H' s'/\D.ct σ' H'
 |.ret u=>∃v σ' H',bH X Y σ' H' s'/\cP v u/\D.rt v H'
def PE(X:Cx)(e:Expr)(t:TE):Prop :=
 ∀(Y:List (Addr×Obj)) (s:Shared) (σ:St) (H:Hp) (Q:VK),bH X Y σ H s->t σ H Q->wpAny (model X.prog X.w) X.A (eval e X.env) (EP X Y σ Q) X.xe s
def PT(X:Cx)(e:Expr)(t:TT):Prop :=
 ∀(Y:List (Addr×Obj)) (s:Shared) (σ:St) (H:Hp) (Q:Bool->Hp->Prop),bH X Y σ H s->t σ H Q->wpAny (model X.prog X.w) X.A (isTrue e X.env (eval e X.env)) (TP X Y σ Q) X.xe s
def PW(X:Cx)(e:Expr)(t:TT):Prop :=
 ∀(whole:Sem Value) (Y:List (Addr×Obj)) (s:Shared) (σ:St) (H:Hp) (Q:Bool->Hp->Prop),bH X Y σ H s->t σ H Q->wpAny (model X.prog X.w) X.A (isTrue e X.env whole) (TP X Y σ Q) X.xe s
def PW.pt{X:Cx}{t:TT}(h:PW X e t):PT X e t:=h _
def PA(X:Cx)(es:List Expr)(t:TA):Prop :=
 ∀(pos:Pos) (Y:List (Addr×Obj)) (s:Shared) (σ:St) (H:Hp) (Q:List V->Hp->Prop),bH X Y σ H s->t σ H Q->wpAny (model X.prog X.w) X.A (spliced (backTo pos (starEach es X.env))) (AP X Y σ Q) X.xe s
def PS(X:Cx)(st:Stmt)(t:TS):Prop :=
 ∀(Y:List (Addr×Obj)) (s:Shared) (σ:St) (H:Hp) (D:Ends),bH X Y σ H s->t D σ H->wpAny (model X.prog X.w) X.A (exec st X.env) (SP X Y D) X.xe s
def S7(X:Cx)(st:List Stmt)(t:TS):Prop :=
 ∀(Y:List (Addr×Obj)) (s:Shared) (σ:St) (H:Hp) (D:Ends),bH X Y σ H s->t D σ H->wpAny (model X.prog X.w) X.A (execs st X.env) (SP X Y D) X.xe s
def jK{α:Type}{t:Sem α}{Q Q':α->Shared->Prop}{E:Value->Shared->Prop}{s:Shared}(h:wpAny Z98 A t Q E s)(hQ:∀a s,Q a s->Q' a s):wpAny Z98 A t Q' E s:=iI h hQ λ_ _ x=>x
section
variable{X:Cx}
inductive EA{α:Type}(P Q:α->Prop):Prop
 |mk (v:α) (p:P v) (q:Q v)
inductive EC{α:Type}(P R Q:α->Prop):Prop
 |mk (v:α) (p:P v) (r:R v) (q:Q v)
inductive tX(i:Nat)(σ:St)(H:Hp)(Q:VK):Prop
 |mk (v:_) (_:σ[i]?=some (some v)) (_:Q v H)
def tC(v:V):TE:=λ_ H Q=>Q v H
def a1U{i:Nat}{x:Str}(hN:X.N[i]?=some x)(hv:Vis X.env.scope x)(hd:(x==("__debug__" : Str))=false:=by decide)(hcd:(x==("__classdict__" : Str))=false:=by decide):PE X (.Name x pos) (tX i):=by
 intro Y s σ H Q I h;obtain⟨v,e,h⟩:=h;obtain⟨m,hn,hl⟩:=I.loc;obtain⟨u,r,l⟩:=hl i x v hN e hv;have fin:EP X Y σ Q u s:=⟨v,H,I,r,h⟩;rcases l with⟨hk,hm⟩|⟨hk,c,hc,hcell⟩
 ·exact wpAny_Name (wpAny_loadName_local I.ok.kind hk hn hm fin) hd
 ·rcases hk with hk|hk
  ·exact wpAny_Name (wpAny_loadName_cell I.ok.kind hk hc hcell fin) hd
  ·exact wpAny_Name (wpAny_loadName_free I.ok.kind hk hc hcell fin hcd) hd
def aq{i j pos}:PE X (.Constant (.int i) j pos) (tC (.int i)):=λ_ _ _ H _ I h=>wpAny_Constant_int ⟨.int i,H,I.tok _,⟨_,Z⟩,h⟩
def Wy{b j pos}:PE X (.Constant (.bool b) j pos) (tC (.bl b)):=λ_ _ _ H _ I h=>Constant_bool ⟨.bl b,H,I,Z,h⟩
def oK{j pos}:PE X (.Constant .none j pos) (tC .non):=λ_ _ _ H _ I h=>Constant_none ⟨.non,H,I,Z,h⟩
def gJ{x j pos}:PE X (.Constant (.str x) j pos) (tC (.str x)):=λ_ _ _ H _ I h=>Calls.Constant_str ⟨.str x,H,I.tok _,⟨_,Z⟩,h⟩
def Gl(X:Cx)(x:Str):Prop:=X.env.kindOf x=some .globalImplicit
def BZ{E:Value->Shared->Prop}{Y:List (Addr×Obj)}{s:Shared}{σ:St}{H:Hp}{x:Str}{u:Value}{Q:Value->Shared->Prop}(I:bH X Y σ H s)(hg:Gl X x)(hm:X.mg x=some u)(h:Q u s)
  (hd:(x==("__debug__" : Str))=false:=by decide):wpAny (model X.prog X.w) X.A (eval (.Name x pos) X.env) Q E s :=
 Ñ I.ok.kind hg (Calls.loadGlobal_global (by rw[I.ok.glob];exact I.mod.glob.keeps I.bk) hm h) hd
def v5{E:Value->Shared->Prop}{Y:List (Addr×Obj)}{s:Shared}{σ:St}{H:Hp}{x:Str}{u:Value}{Q:Value->Shared->Prop}(I:bH X Y σ H s)(hg:Gl X x)(hm:X.mg x=none)(hv:bootBuiltins x=some u)(h:Q u s)
  (hn:x≠ "__name__" := by decide) (hd:(x==("__debug__" : Str))=false:=by decide):wpAny (model X.prog X.w) X.A (eval (.Name x pos) X.env) Q E s:=by
 obtain⟨mb,h1,h2⟩:=I.mod.blt;exact Ñ I.ok.kind hg (Calls.loadGlobal_builtin (by rw[I.ok.glob];exact I.mod.glob.keeps I.bk) hm (by rw[I.ok.blt];exact h1.keeps I.bk) ((h2 x hn).trans hv) h) hd
def O8{x:Str}{v:V}{u:Value}(hg:Gl X x)(hm:X.mg x=some u)(r:cP v u)(hd:(x==("__debug__" : Str))=false:=by decide):PE X (.Name x pos) (tC v) :=
 λ_ _ _ H _ I h=>BZ I hg hm ⟨v,H,I,r,h⟩ hd
def wg{x:Str}{v:V}{u:Value}(hg:Gl X x)(hm:X.mg x=none)(hv:bootBuiltins x=some u)(r:cP v u)(hn:x≠ "__name__" := by decide)(hd:(x==("__debug__" : Str))=false:=by decide):PE X (.Name x pos) (tC v) :=
 λ_ _ _ H _ I h=>v5 I hg hm hv ⟨v,H,I,r,h⟩ hn hd
variable{a b:Expr}{tb:TE}
variable{tA tB':TT}{rest:List Expr}
def ż(t u:TT):TT:=λσ H Q=>t σ H λc H1=>if c=true then u σ H1 Q else Q false H1
def tOr(t u:TT):TT:=λσ H Q=>t σ H λc H1=>if c=true then Q true H1 else u σ H1 Q
def a5G(t:TT):TT:=λσ H Q=>t σ H λc H1=>Q (!c) H1
def qM(ha:PT X a tA):PW X (.BoolOp .And [a] pos) tA:=by
 intro wh Y s σ H Q I h;refine isTrue_and (jK (ha Y s σ H Q I h) λc s1 e=>?_);cases c with
 |true=>exact isTrue_and_nil e
 |false=>exact e
def uR(ha:PT X a tA):PW X (.BoolOp .Or [a] pos) tA:=by
 intro wh Y s σ H Q I h;refine isTrue_or (jK (ha Y s σ H Q I h) λc s1 e=>?_);cases c with
 |false=>exact isTrue_or_nil e
 |true=>exact e
def oM(ha:PT X a tA)(hb:PW X (.BoolOp .And (b::rest) pos) tB'):PW X (.BoolOp .And (a::b::rest) pos) (ż tA tB'):=by
 intro wh Y s σ H Q I h;refine isTrue_and (jK (ha Y s σ H _ I h) λc s1 ⟨H1,I1,q1⟩=>?_);cases c with
 |true=>exact hb wh Y s1 σ H1 Q I1 q1
 |false=>exact⟨H1,I1,q1⟩
def zK(ha:PT X a tA)(hb:PW X (.BoolOp .Or (b::rest) pos) tB'):PW X (.BoolOp .Or (a::b::rest) pos) (tOr tA tB'):=by
 intro wh Y s σ H Q I h;refine isTrue_or (jK (ha Y s σ H _ I h) λc s1 ⟨H1,I1,q1⟩=>?_);cases c with
 |true=>exact⟨H1,I1,q1⟩
 |false=>exact hb wh Y s1 σ H1 Q I1 q1
def wj(ha:PT X a tA):PT X (.UnaryOp .Not a pos) (a5G tA):=by
 intro Y s σ H Q I h;exact isTrue_not (ha Y s σ H (λc H1=>Q (!c) H1) I h)
def a3Q(ta tb:TE):TE:=λσ H Q=>ta σ H λx H1=>EA (λc=>x=.bl c) λc=>if c=true then tb σ H1 Q else Q (.bl false) H1
def a5H(ta tb:TE):TE:=λσ H Q=>ta σ H λx H1=>EA (λc=>x=.bl c) λc=>if c=true then Q (.bl true) H1 else tb σ H1 Q
def a3R(ta:TE):TE:=λσ H Q=>ta σ H λx H1=>EA (λc=>x=.bl c) λc=>Q (.bl (!c)) H1
def Uz{op}{t:TE}(h:PE X a t):PE X (.BoolOp op [a] pos) t:=λY s σ H Q I hw=>BoolOp_one (h Y s σ H Q I hw)
def Û(ha:PE X a ta)(hb:PE X (.BoolOp .And (b::rest) pos) tb):PE X (.BoolOp .And (a::b::rest) pos) (a3Q ta tb):=by
 intro Y s σ H Q I h;refine BoolOp_and (jK (ha Y s σ H _ I h) λv s1 ⟨x,H1,I1,r1,q1⟩=>?_);obtain⟨c,rfl,q1⟩:=q1;cases r1;refine zY ?_;cases c with
 |true=>exact hb Y s1 σ H1 Q I1 q1
 |false=>exact⟨.bl false,H1,I1,Z,q1⟩
def a3S(ha:PE X a ta)(hb:PE X (.BoolOp .Or (b::rest) pos) tb):PE X (.BoolOp .Or (a::b::rest) pos) (a5H ta tb):=by
 intro Y s σ H Q I h;refine BoolOp_or (jK (ha Y s σ H _ I h) λv s1 ⟨x,H1,I1,r1,q1⟩=>?_);obtain⟨c,rfl,q1⟩:=q1;cases r1;refine zY ?_;cases c with
 |false=>exact hb Y s1 σ H1 Q I1 q1
 |true=>exact⟨.bl true,H1,I1,Z,q1⟩
def a1V(ha:PE X a ta):PE X (.UnaryOp .Not a pos) (a3R ta):=by
 intro Y s σ H Q I h;refine UnaryOp_ (jK (ha Y s σ H _ I h) λv s1 ⟨x,H1,I1,r1,q1⟩=>?_);obtain⟨c,rfl,q1⟩:=q1;cases r1;exact not_of (zY ⟨.bl (!c),H1,I1,Z,q1⟩)
def tIf(t:TT)(ta tb:TE):TE:=λσ H Q=>t σ H λc H1=>if c=true then ta σ H1 Q else tb σ H1 Q
def oN(hc:PT X c tA)(ha:PE X a ta)(hb:PE X b tb):PE X (.IfExp c a b pos) (tIf tA ta tb):=by
 intro Y s σ H Q I h;refine wpAny_IfExp (jK (hc Y s σ H _ I h) λd s1 ⟨H1,I1,q1⟩=>?_);cases d with
 |true=>exact ha Y s1 σ H1 Q I1 q1
 |false=>exact hb Y s1 σ H1 Q I1 q1
end
def bG(K:aK)(H:Hp)(a:Addr)(xs:List V):Prop :=
 Rd H a (.lst xs)\/
  ∃(o:Obj) (cg:Array Value) (n:Nat),K.lookup a=some o/\o.cls=.type "list" /\o.dict=none/\o.data=.seq cg n/\cg.size<=sizeLine/\cM xs cg.toList
def cG(K:aK)(H:Hp)(a:Addr)(xs:List V):Prop :=
 Rd H a (.tup xs)\/
  ∃(o:Obj) (cg:Array Value) (n:Nat),K.lookup a=some o/\o.cls=.type "tuple" /\o.data=.seq cg n/\cg.size<=sizeLine/\cM xs cg.toList
def a5I:Value->Option V
 |.none=>some .non
 |.bool b=>some (.bl b)
 |.int i _=>some (.int i)
 |.str x _=>some (.str x)
 |.bytes b _=>some (.Ww b)
 |.float b _=>some (.flt b)
 |.ref a=>some (.ref a)
 |.type n=>some (.ty n)
 |_=>none
def cP.abs{x:V}{u:Value}(r:cP x u):a5I u=some x:=by
 cases x with
 |non=>cases r;rfl
 |bl _=>cases r;rfl
 |int _=>obtain⟨t,rfl⟩:=r;rfl
 |str _=>obtain⟨t,rfl⟩:=r;rfl
 |Ww _=>obtain⟨t,rfl⟩:=r;rfl
 |flt _=>obtain⟨t,rfl⟩:=r;rfl
 |ref _=>cases r;rfl
 |ty _=>cases r;rfl
def cP.inj{x y:V}{u:Value}(r:cP x u)(q:cP y u):x=y:=gh (r.abs.symm.trans q.abs)
def cM.inj{xs ys:List V}{us:List Value}(h:cM xs us)(g:cM ys us):xs=ys:=by
 induction h generalizing ys with
 |nil=>cases g;rfl
 |cons r _ ih =>
  cases g with
  |cons q t=>rw[r.inj q,ih t]
section
variable{X:Cx}{Y:List (Addr×Obj)}{σ:St}{H:Hp}{s:Shared}{a:Addr}{xs ys:List V}
def bG.of(h:H a=some (.lst xs)):bG K H a xs:=.inl (.inl h)
def cG.of(h:H a=some (.tup xs)):cG K H a xs:=.inl (.inl h)
def bH.list(I:bH X Y σ H s)(h:bG X.K H a xs):∃cg:List Value,cM xs cg/\PlainL s.heap a cg.toArray/\xs.length<=sizeLine:=by
 rcases h with h|⟨o,cg,n,hk,hc,hd,hs,hz,r⟩
 ·obtain⟨z,cg,n,r,e⟩:=h.ok I.hok;exact⟨cg,r,⟨_,n,e,Z,Z,Z⟩,z⟩
 ·refine⟨cg.toList,r,⟨o,n,I.DN a o hk,hc,hd,by simpa using hs⟩,?_⟩;have e:=r.length;simp only[Array.length_toList]at e;omega
def bH.tuple(I:bH X Y σ H s)(h:cG X.K H a xs):∃cg:List Value,cM xs cg/\IsTup s.heap a cg.toArray/\xs.length<=sizeLine:=by
 rcases h with h|⟨o,cg,n,hk,hc,hs,hz,r⟩
 ·obtain⟨z,cg,r,p⟩:=h.ok I.hok;exact⟨cg,r,p,z⟩
 ·refine⟨cg.toList,r,⟨o,I.DN a o hk,hc,n,by simpa using hs⟩,?_⟩;have e:=r.length;simp only[Array.length_toList]at e;omega
def bH.xR(I:bH X Y σ H s)(h:bG X.K H a xs)(h':bG X.K H a ys):xs=ys:=by
 obtain⟨cg,r,⟨o,n,e,_,_,d⟩,_⟩:=I.list h;obtain⟨its',r',⟨o',n',e',_,_,d'⟩,_⟩:=I.list h';rw[e]at e';cases e';rw[d]at d';injection d' with d1 _
 have:cg=its':=by simpa using congrArg Array.toList d1
 subst this;exact r.inj r'
def bH.yW(I:bH X Y σ H s)(h:cG X.K H a xs)(h':cG X.K H a ys):xs=ys:=by
 obtain⟨cg,r,⟨o,e,_,n,d⟩,_⟩:=I.tuple h;obtain⟨its',r',⟨o',e',_,n',d'⟩,_⟩:=I.tuple h';rw[e]at e';cases e';rw[d]at d';injection d' with d1 _
 have:cg=its':=by simpa using congrArg Array.toList d1
 subst this;exact r.inj r'
end
abbrev Cx.wish(X:Cx)(E:Value->Shared->Prop):Cx:={ X with xe:=E}
abbrev Cx.nox(X:Cx):Cx:=X.wish λ_ _=>False
def Cx.Ok.wish{X:Cx}(ok:X.Ok)(E:Value->Shared->Prop):(X.wish E).Ok :=
 ⟨ok.mod,ok.kind,ok.glob,ok.blt,ok.above,ok.inj,ok.has,ok.cab,ok.hd,ok.frames,ok.stk,ok.exf,ok.bs,ok.ũ,ok.Uy,ok.Yu,ok.BX,ok.Ż⟩
def Cx.Ok.uT{X:Cx}{E:Value->Shared->Prop}(ok:(X.wish E).Ok):X.Ok :=
 ⟨ok.mod,ok.kind,ok.glob,ok.blt,ok.above,ok.inj,ok.has,ok.cab,ok.hd,ok.frames,ok.stk,ok.exf,ok.bs,ok.ũ,ok.Uy,ok.Yu,ok.BX,ok.Ż⟩
section
variable{X:Cx}{Y:List (Addr×Obj)}{σ:St}{H:Hp}{s:Shared}{E:Value->Shared->Prop}
def bH.wish(I:bH X Y σ H s)(E:Value->Shared->Prop):bH (X.wish E) Y σ H s:=⟨I.ok.wish E,I.os,I.bare,I.base,I.loc,I.cell,I.free,I.tW,I.pin,I.hok,I.len⟩
def bH.uT(I:bH (X.wish E) Y σ H s):bH X Y σ H s:=⟨I.ok.uT,I.os,I.bare,I.base,I.loc,I.cell,I.free,I.tW,I.pin,I.hok,I.len⟩
def SP.uT{D:Ends}{f:Flow}{s':Shared}(h:SP (X.wish E) Y D f s'):SP X Y D f s':=by
 cases f with
 |next=>obtain⟨σ',H',I,q⟩:=h;exact⟨σ',H',I.uT,q⟩
 |brk=>obtain⟨σ',H',I,q⟩:=h;exact⟨σ',H',I.uT,q⟩
 |cont=>obtain⟨σ',H',I,q⟩:=h;exact⟨σ',H',I.uT,q⟩
 |ret u=>obtain⟨v,σ',H',I,r,q⟩:=h;exact⟨v,σ',H',I.uT,r,q⟩
def S7.nox{st:List Stmt}{t:TS}(h:S7 X.nox st t):S7 X st t:=λY s σ H D I hw =>
 iI (h Y s σ H D (I.wish _) hw) (λ_ _ q=>q.uT) λ_ _ z=>False.elim z
end
section
variable{X:Cx}{st:Stmt}{rest:List Stmt}{t u:TS}
def Wz:TS:=λD σ H=>D.nx σ H
def Ž(t u:TS):TS:=λD σ H=>t { D with nx:=u D} σ H
def bR:S7 X [] Wz:=λ_ _ σ H _ I h=>Oq ⟨σ,H,I,h⟩
def aA(h1:PS X st t)(h2:S7 X rest u):S7 X (st::rest) (Ž t u):=by
 intro Y s σ H D I h;refine Ud (jK (h1 Y s σ H { D with nx:=u D} I h) λf s1 q=>?_);cases f with
 |next =>
  obtain⟨σ',H',I',q⟩:=q;exact h2 Y s1 σ' H' D I' q
 |ret v=>exact q
 |brk=>exact q
 |cont=>exact q
def aD(h1:PS X st t):S7 X [st] t:=by
 intro Y s σ H D I h;refine Ud (jK (h1 Y s σ H D I h) λf s1 q=>?_);cases f with
 |next=>exact Oq q
 |ret v=>exact q
 |brk=>exact q
 |cont=>exact q
def a1W:TS:=λD σ H=>D.bk σ H
def Ü:PS X (.Break pos) a1W:=λ_ _ σ H _ I h=>wpAny_Break ⟨σ,H,I,h⟩
def bH.quiet{Y:List (Addr×Obj)}{σ:St}{H:Hp}{s:Shared}(I:bH X Y σ H s):interactive X.env=false:=by simp[interactive,I.ok.kind]
def a1z(te:TE):TS:=λD σ H=>te σ H λ_ H1=>D.nx σ H1
def jw(he:PE X e te)(hs:swapsWith e none pos.line X.env=pure false:=by rfl):PS X (.Expr e pos) (a1z te):=by
 intro Y s σ H D I h;exact wpAny_Expr_any (jK (he Y s σ H _ I h) λv s1 ⟨x,H1,I1,r1,q1⟩=>⟨σ,H1,I1,q1⟩) I.quiet hs
def ž(te:TE):TS:=λD σ H=>te σ H D.rt
def bI(he:PE X e te):PS X (.Return (some e) pos) (ž te):=by
 intro Y s σ H D I h;exact wpAny_Return_some (jK (he Y s σ H _ I h) λv s1 ⟨x,H1,I1,r1,q1⟩=>⟨x,σ,H1,I1,r1,q1⟩)
def Α(c:TT)(t u:TS):TS:=λD σ H=>c σ H λb H1=>if b=true then t D σ H1 else u D σ H1
def dN{a b:List Stmt}{tc:TT}(hc:PT X c tc)(ha:S7 X a t)(hb:S7 X b u):PS X (.If c a b pos) (Α tc t u):=by
 intro Y s σ H D I h;refine wpAny_If (jK (hc Y s σ H _ I h) λd s1 ⟨H1,I1,q1⟩=>?_);cases d with
 |true=>exact ha Y s1 σ H1 D I1 q1
 |false=>exact hb Y s1 σ H1 D I1 q1
def a1X:TS:=λ_ _ _=>False
def Ca:PS X st a1X:=λ_ _ _ _ _ _ h=>h.elim
end
abbrev TG:=V->St->Hp->(St->Hp->Prop)->Prop
abbrev TGs:=List V->St->Hp->(St->Hp->Prop)->Prop
def PG(X:Cx)(target:Expr)(t:TG):Prop :=
 ∀(Y:List (Addr×Obj)) (s:Shared) (σ:St) (H:Hp) (v:V) (u:Value) (Q:St->Hp->Prop),bH X Y σ H s->cP v u->t v σ H Q->
  wpAny (model X.prog X.w) X.A (assign target X.env u) (λ_ s'=>∃σ' H',bH X Y σ' H' s'/\Q σ' H') X.xe s
def PGs(X:Cx)(ts:List Expr)(t:TGs):Prop :=
 ∀(Y:List (Addr×Obj)) (s:Shared) (σ:St) (H:Hp) (vs:List V) (us:List Value) (Q:St->Hp->Prop),bH X Y σ H s->cM vs us->t vs σ H Q->
  wpAny (model X.prog X.w) X.A (assignInOrder ((assignEach ts X.env).map (·.2)) us) (λ_ s'=>∃σ' H',bH X Y σ' H' s'/\Q σ' H') X.xe s
abbrev a1Y:=V->V->V->Hp->(Hp->Prop)->Prop
def Β(X:Cx)(t:a1Y):Prop :=
 ∀(Y:List (Addr×Obj)) (s:Shared) (σ:St) (H:Hp) (o i v:V) (ov iv u:Value) (Q:Hp->Prop),bH X Y σ H s->cP o ov->cP i iv->cP v u->t o i v H Q->
  wpAny (model X.prog X.w) X.A (setItem ov iv u) (λ_ s'=>∃H',bH X Y σ H' s'/\Q H') X.xe s
section
variable{X:Cx}
def QS(i:Nat):TG:=λv σ H Q=>Q (σ.set i (some v)) H
def aL(i:Nat){x:Str}(hN:X.N.Nodup)(hi:X.N[i]?=some x:=by rfl)(hx:Loc X.env.scope x:=by first|exact Or.inl rfl|exact Or.inr Z)(hf:X.fn x=true\/X.env.scope.names.lookup x=some .local:=by first|exact .inl rfl|exact .inr rfl|assumption):PG X (.Name x pos) (QS i):=by
 intro Y s σ H v u Q I r h;exact wpAny_assign_Name (QL I hN hi hx r (λs' I'=>⟨_,H,I',h⟩) hf)
def a5J:TGs:=λvs σ H Q=>vs=[]/\Q σ H
def a3T(t:TG)(u:TGs):TGs:=λvs σ H Q=>∃v r,vs=v::r/\t v σ H λσ' H'=>u r σ' H' Q
def jx:PGs X [] a5J:=by
 intro Y s σ H vs us Q I r h;obtain⟨e,h⟩:=h;subst e;cases r;exact assignInOrder_nil ⟨σ,H,I,h⟩
def bY{t:TG}{u:TGs}(h1:PG X e t)(h2:PGs X es u)
  (hs:(assignEach (e::es) X.env).map (·.2)=assign e X.env::(assignEach es X.env).map (·.2):=by rfl):PGs X (e::es) (a3T t u):=by
 intro Y s σ H vs us Q I r h;obtain⟨v,vr,e1,h⟩:=h;subst e1;cases r with
 |cons r rr =>
  rw[hs];exact assignInOrder_cons (jK (h1 Y s σ H _ _ _ I r h) λ_ s1 ⟨σ1,H1,I1,q1⟩=>h2 Y s1 σ1 H1 _ _ Q I1 rr q1)
inductive a3U(K:aK)(n:Nat)(t:TGs)(v:V)(σ:St)(H:Hp)(Q:St->Hp->Prop):Prop
 |mk (a xs:_) (_:v=.ref a) (_:cG K H a xs) (_:xs.length=n) (_:t xs σ H Q)
def a1Z{t:TGs}(hc:X.calm=true)(h:PGs X es t)
  (hn:(assignEach es X.env).length=n:=by rfl) (hst:(assignEach es X.env).findIdx? (·.1)=none:=by rfl):PG X (.Tuple es k pos) (a3U X.K n t):=by
 intro Y s σ H v u Q I r hw;obtain⟨a,xs,e1,hq,hl,hw⟩:=hw;subst e1;cases r;obtain⟨cg,rv,ht,hz⟩:=I.tuple hq;refine assign_Tuple_tuple (I.ok.hd hc) ht (by simp[hn,<-hl,rv.length]) hst λh' hx=>?_;have I1:bH X Y σ H { s with heap:=h'}:=I.kept (t':=s.toks) λb o e=>hx b o (cu (aX e)) e;exact h Y _ σ H xs _ Q I1 (by simpa using rv) hw
def a5K(to ti:TE)(t:a1Y):TG:=λv σ H Q=>to σ H λo H1=>ti σ H1 λi H2=>t o i v H2 λH3=>Q σ H3
def UG{o i:Expr}{to ti:TE}{t:a1Y}(ho:PE X o to)(hi:PE X i ti)(hs:Β X t)
  (ha:∀v,assign (.Subscript o i pos) X.env v=(do
   let ov <-holding [v] (eval o X.env)
   let iv <-holding [v,ov] (eval i X.env)
   standAt pos
   holding [v,ov,iv] (setItem ov iv v)
   release [v,ov,iv] []):=by intro _;rfl):PG X (.Subscript o i pos) (a5K to ti t):=by
 intro Y s σ H v u Q I r h;rw[ha];exact M (ig (jK (ho Y s σ H _ I h) λov s1 ⟨x,H1,I1,r1,q1⟩=>M (ig (jK (hi Y s1 σ H1 _ I1 q1) λiv s2 ⟨y,H2,I2,r2,q2⟩=>M (Ut (M (ig (jK (hs Y s2 σ H2 x y v ov iv u _ I2 r1 r2 r q2) λ_ s3 ⟨H3,I3,q3⟩=>wpAny_release ⟨σ,H3,I3,q3⟩))))))))
def Δ(te:TE)(g:TG):TS:=λD σ H=>te σ H λx H1=>g x σ H1 D.nx
def Am{g:TG}(he:PE X e te)(hg:PG X tg g)(hs:swapsWithSole [tg] e pos.line X.env=pure false:=by rfl)(hw:swappedStores [tg] e X.env=pure none:=by rfl)
  (h1:(assignEach [tg] X.env).map (·.2)=[assign tg X.env]:=by rfl):PS X (.Assign [tg] e pos) (Δ te g):=by
 intro Y s σ H D I h;refine wpAny_Assign_stores (jK (he Y s σ H _ I h) λv s1 ⟨x,H1,I1,r1,q1⟩=>?_) hs hw;rw[h1];exact jK (hg Y s1 σ H1 x v _ I1 r1 q1) λ_ s2 q=>q
def bF(i:Nat){x:Str}{pos':Pos}(hN:X.N.Nodup)(he:PE X e te)(hi:X.N[i]?=some x:=by rfl)(hx:Loc X.env.scope x:=by first|exact Or.inl rfl|exact Or.inr Z)(hs:swapsWith e (some (.Name x pos')) pos.line X.env=pure false:=by rfl)(hf:X.fn x=true\/X.env.scope.names.lookup x=some .local:=by first|exact .inl rfl|exact .inr rfl|assumption) :
  PS X (.Assign [.Name x pos'] e pos) (Δ te (QS i)):=by
 intro Y s σ H D I h;exact wpAny_Assign_Name (jK (he Y s σ H _ I h) λv s1 ⟨y,H1,I1,r1,q1⟩=>QL I1 hN hi hx r1 (λs2 I2=>⟨_,H1,I2,q1⟩) hf) hs
end
section
variable{X:Cx}
def a2a(c:TT)(tb:TS):TS:=λD σ H=>∃W:Nat->St->Hp->Prop,(∃m,W m σ H)/\∀m σ H,W m σ H->
 c σ H λb H1=>if b=true then ∃N:St->Hp->Prop,(∀σ' H',N σ' H'->∃m',m'<m/\W m' σ' H')/\tb { D with nx:=N,ct:=N,bk:=D.nx} σ H1 else D.nx σ H1
def Ý{tc:TT}(hp:PassesOwn (model X.prog X.w) X.A X.env X.xe)(hc:PT X c tc)(hb:S7 X body tb):PS X (.While c body [] pos) (a2a tc tb):=by
 intro Y s σ H D I h;obtain⟨W,⟨m0,w0⟩,turn⟩:=h;refine wpAny_While (codeAny_whileLoop (λn s'=>∃σ' H',bH X Y σ' H' s'/\W n σ' H') ?_ m0 ⟨σ,H,I,w0⟩);rintro n s1 ⟨σ1,H1,I1,w1⟩;refine Ae hp (jK (hc Y s1 σ1 H1 _ I1 (turn n σ1 H1 w1)) λb s2 ⟨H2,I2,q2⟩=>?_);cases b with
 |true =>
  obtain⟨N,hN,q2⟩:=q2;rw[aG rfl];refine Ae hp (jK (hb Y s2 σ1 H2 _ I2 q2) λf s3 q3=>?_);cases f with
  |next =>
   obtain⟨σ3,H3,I3,n3⟩:=q3;obtain⟨m',hm,w3⟩:=hN σ3 H3 n3;exact⟨m',hm,σ3,H3,I3,w3⟩
  |cont =>
   obtain⟨σ3,H3,I3,n3⟩:=q3;obtain⟨m',hm,w3⟩:=hN σ3 H3 n3;exact⟨m',hm,σ3,H3,I3,w3⟩
  |brk=>exact q3
  |ret v=>exact q3
 |false =>
  rw[aB dw];exact Oq ⟨σ1,H2,I2,q2⟩
end
structure It where
 go:Nat->Hp->Prop
 Ã:Nat->Hp->V->Hp->Prop
 stop:Nat->Hp->Prop
def GC(X:Cx)(Y:List (Addr×Obj))(H:Hp)(b:Addr):Prop :=
 H b=none/\b≠X.env.locals/\b∉X.fs/\(b∈X.ex\/X.s₀.heap.objs.size<=b)/\(∀x c,X.env.cells.lookup x=some c->c≠b)/\∀p∈X.pn++Y,p.1≠b
def bH.Jk{X:Cx}{Y:List (Addr×Obj)}{σ:St}{H H':Hp}{s:Shared}{b:Addr}(I:bH X Y σ H s)(hb:s.heap.objs.size<=b)(hn:H' b=none):GC X Y H' b:=by
 refine⟨hn,gG (jB I.lt hb),I.a3O hb,.inr (cW I.sz hb),λx c e z=>?_,λp hp z=>?_⟩
 ·obtain⟨v,q⟩:=I.cell x c e;exact absurd (jB q.lt (by rw[z];exact hb)) (xM _)
 ·exact absurd (jB (aX (I.pin p hp).1) (by rw[z];exact hb)) (xM _)
structure Turn(P:Program)(w:World)(K:aK)(tg:Expr)(Z97:It)(fp:List Addr)(it:Addr)(tn:Nat->Heap->Prop):Prop where
 mem:it∈fp
 obj:∀i h,tn i h->∀b∈fp,∃o,h.get? b=some o/\∀v,o.data≠.cell v
 keep:∀i h h',tn i h->(∀b∈fp,∀o,h.get? b=some o->h'.get? b=some o)->tn i h'
 item:∀(X:Cx),X.prog=P->X.w=w->X.K=K->X.calm=true->∀(i:Nat) (Y:List (Addr×Obj)) (s:Shared) (σ:St) (H:Hp) (E:Value->Shared->Prop),bH X Y σ H s->(∀b∈fp,GC X Y H b)->tn i s.heap->Z97.go i H->
  wpAny (model P w) X.A (pyNext (.ref it)) (λr s1=>∃u,r=some u/\
   wpAny (model P w) X.A (letOwnedTupleGo tg (.ref it) u) (λ_ s2=>∃x H',bH X Y σ H' s2/\cP x u/\Z97.Ã i H x H'/\tn (i+1) s2.heap/\∀b∈fp,H' b=none) E s1) E s
 done:∀(X:Cx),X.prog=P->X.w=w->X.K=K->X.calm=true->∀(i:Nat) (Y:List (Addr×Obj)) (s:Shared) (σ:St) (H:Hp) (E:Value->Shared->Prop),bH X Y σ H s->(∀b∈fp,GC X Y H b)->tn i s.heap->Z97.stop i H->
  wpAny (model P w) X.A (pyNext (.ref it)) (λr s1=>r=none/\bH X Y σ H s1) E s
 self:∀(A:Around) (i:Nat) (s:Shared) (Q:Value->Shared->Prop) (E:Value->Shared->Prop),tn i s.heap->Q (.ref it) s->wpAny (model P w) A (pyIter (.ref it)) Q E s
abbrev TI:=St->Hp->(It->Hp->Prop)->Prop
inductive PIE(X:Cx)(Y:List (Addr×Obj))(σ:St)(tg:Expr)(R:It->Hp->Prop)(itv:Value)(s2:Shared):Prop
 |mk (it:Addr) (fp:List Addr) (tn:Nat->Heap->Prop) (Z97:It) (H':Hp) (_:itv=.ref it) (_:bH X Y σ H' s2) (_:Turn X.prog X.w X.K tg Z97 fp it tn) (_:tn 0 s2.heap) (_:(∀b∈fp,GC X Y H' b)) (_:R Z97 H')
def PI(X:Cx)(tg iter:Expr)(wi:TI):Prop :=
 ∀(Y:List (Addr×Obj)) (s:Shared) (σ:St) (H:Hp) (R:It->Hp->Prop),bH X Y σ H s->wi σ H R->
  wpAny (model X.prog X.w) X.A (eval iter X.env) (λv s1=>wpAny (model X.prog X.w) X.A (pyIter v) (PIE X Y σ tg R) X.xe s1) X.xe s
def WD{E : Value → Shared → Prop}{s : Shared}{it : Addr}{u : Value}{o : Obj}{n : String}{vs : Array Value}{Q : Unit → Shared → Prop}(ho : s.heap.get? it = some o)(hc : o.cls = .type n)(hd : o.data = .fields vs)
    (hn : ["enumerate", "zip", "dict_itemiterator", "dict_reverseitemiterator", "odict_iterator", "itertools.zip_longest", "itertools.pairwise"].contains n = false) (hQ : Q () s) : wpAny Z98 A (letOwnedTupleGo tg (.ref it) u) Q E s := by
  unfold letOwnedTupleGo;cases tg <;> first
    | exact ao hQ
    | (cases u <;> first
        | exact ao hQ
        | (refine M (wpAny_load ho ?_)
           rw [hc, hd];show wpAny Z98 A (if (["enumerate", "zip", "dict_itemiterator", "dict_reverseitemiterator", "odict_iterator", "itertools.zip_longest", "itertools.pairwise"].contains n && vs[0]? == some (rawInt _)) = true then _ else _) Q E s;rw [aB (by intro h; rw [hn, Bool.false_and] at h; cases h)];exact ao hQ))
def Ä(K:aK)(a:Addr):It :=
 ⟨λi H=>∃xs x,bG K H a xs/\xs[i]?=some x,λi H x H'=>H'=H/\∀xs,bG K H a xs->xs[i]?=some x,λi H=>∃xs,bG K H a xs/\xs.length<=i⟩
def Itt(K:aK)(a:Addr):It :=
 ⟨λi H=>∃xs x,cG K H a xs/\xs[i]?=some x,λi H x H'=>H'=H/\∀xs,cG K H a xs->xs[i]?=some x,λi H=>∃xs,cG K H a xs/\xs.length<=i⟩
def WK(lo:Int)(n:Nat):It:=⟨λi _=>i<n,λi H x H'=>H'=H/\x=.int (lo+i),λi _=>n<=i⟩
def Yv{P:Program}{w:World}(a it:Addr):Turn P w K tg (Ä K a) [it] it (λi h=>h.IsListIter it a i) where
 mem:=by simp
 obj:=λi h st b hb=>by
  have e:b=it:=by simpa using hb
  subst e
  obtain⟨o,e,c,d⟩:=st
  exact⟨o,e,λv z=>by rw[d]at z;cases z⟩
 keep:=λi h h' st k=>st.at λo e=>k it (by simp) o e
 item:=by
  intro X hP hw hK hc i Y s σ H E I hf st hg
  subst hP hw hK
  obtain⟨xs,x,hq,hx⟩:=hg
  obtain⟨cg,rv,p,hz⟩:=I.list hq
  obtain⟨u,hu,ru⟩:=rv.get hx
  obtain⟨f0,f1,f2,f3,f4,f5⟩:=hf it (by simp)
  refine Tt st p.isList (x:=u) (by simpa using hu) λh' st' sb=>?_
  have I1:bH X Y σ H { s with heap:=h'}:=I.turned (t':=s.toks) (λb o hb e=>(sb.2 b hb).trans e) f0 f1 f3 f4 f5
  obtain⟨o,e,c,d⟩:=id st'
  exact⟨u,Z,WD (s:={ s with heap:=h'}) e c d (by decide) ⟨x,H,I1,ru,⟨rfl,λys hy=>by rw[I.xR hy hq];exact hx⟩,st',λb hb=>(hf b hb).1⟩⟩
 done:=by
  intro X hP hw hK hc i Y s σ H E I hf st hg
  subst hP hw hK
  obtain⟨xs,hq,hx⟩:=hg
  obtain⟨cg,rv,p,hz⟩:=I.list hq
  obtain⟨f0,f1,f2,f3,f4,f5⟩:=hf it (by simp)
  have hl:=rv.length
  exact wpAny_pyNext_list_end (I.ok.hd hc) st p.isList (by simp;omega) λh' eb=>⟨Z,I.turned (t':=s.toks) (λb o hb e=>eb b o hb e) f0 f1 f3 f4 f5⟩
 self:=λ_ _ _ _ _ st h=>wpAny_pyIter_listiter st h
def UJ{P:Program}{w:World}(a it:Addr):Turn P w K tg (Itt K a) [it] it (λi h=>h.IsTupleIter it a i) where
 mem:=by simp
 obj:=λi h st b hb=>by
  have e:b=it:=by simpa using hb
  subst e
  obtain⟨o,e,c,d⟩:=st
  exact⟨o,e,λv z=>by rw[d]at z;cases z⟩
 keep:=λi h h' st k=>st.at λo e=>k it (by simp) o e
 item:=by
  intro X hP hw hK hc i Y s σ H E I hf st hg
  subst hP hw hK
  obtain⟨xs,x,hq,hx⟩:=hg
  obtain⟨cg,rv,p,hz⟩:=I.tuple hq
  obtain⟨u,hu,ru⟩:=rv.get hx
  obtain⟨f0,f1,f2,f3,f4,f5⟩:=hf it (by simp)
  refine wpAny_pyNext_tuple_item st (show s.heap.IsTuple a cg.toArray from p) (x:=u) (by simpa using hu) λh' st' sb=>?_
  have I1:bH X Y σ H { s with heap:=h'}:=I.turned (t':=s.toks) (λb o hb e=>(sb.2 b hb).trans e) f0 f1 f3 f4 f5
  obtain⟨o,e,c,d⟩:=id st'
  exact⟨u,Z,WD (s:={ s with heap:=h'}) e c d (by decide) ⟨x,H,I1,ru,⟨rfl,λys hy=>by rw[I.yW hy hq];exact hx⟩,st',λb hb=>(hf b hb).1⟩⟩
 done:=by
  intro X hP hw hK hc i Y s σ H E I hf st hg
  subst hP hw hK
  obtain⟨xs,hq,hx⟩:=hg
  obtain⟨cg,rv,p,hz⟩:=I.tuple hq
  obtain⟨f0,f1,f2,f3,f4,f5⟩:=hf it (by simp)
  have hl:=rv.length
  exact wpAny_pyNext_tuple_end (I.ok.hd hc) st (show s.heap.IsTuple a cg.toArray from p) (by simp;omega) λh' eb=>⟨Z,I.turned (t':=s.toks) (λb o hb e=>eb b o hb e) f0 f1 f3 f4 f5⟩
 self:=λ_ _ _ _ _ st h=>wpAny_pyIter_tupleiter st h
def UL{P:Program}{w:World}(it:Addr)(lo:Int)(n:Nat):Turn P w K tg (WK lo n) [it] it (λi h=>IsRangeIter h it (lo+(i:Nat)*1) ((n:Int)-(i:Nat)) 1) where
 mem:=by simp
 obj:=λi h st b hb=>by
  have e:b=it:=by simpa using hb
  subst e
  exact⟨_,st,λv z=>by
   have z':Data.fields _=Data.cell v:=z
   cases z'⟩
 keep:=λi h h' st k=>k it (by simp) _ st
 item:=by
  intro X hP hw hK hc i Y s σ H E I hf st hg
  subst hP hw hK
  obtain⟨f0,f1,f2,f3,f4,f5⟩:=hf it (by simp)
  have W:=Walks.range (prog:=X.prog) (w:=X.w) (I.ok.hd hc) it lo 1 n
  refine W.item i s _ _ hg st λv h' tk hv st' kk=>?_
  obtain⟨t,rfl⟩:=hv
  have I1:bH X Y σ H { s with heap:=h',toks:=tk}:=I.turned (λb o hb e=>kk b o (by simpa using hb) e) f0 f1 f3 f4 f5
  refine⟨_,Z,WD (s:={ s with heap:=h',toks:=tk}) (n:="range_iterator") st' rfl rfl (by decide) ⟨.int (lo+i),H,I1,⟨t,?_⟩,⟨rfl,rfl⟩,st',λb hb=>(hf b hb).1⟩⟩
  rw[Int.mul_one]
 done:=by
  intro X hP hw hK hc i Y s σ H E I hf st hg
  subst hP hw hK
  obtain⟨f0,f1,f2,f3,f4,f5⟩:=hf it (by simp)
  exact wpAny_pyNext_range_end (I.ok.hd hc) st (by have:n<=i:=hg;omega) λh' eb=>⟨Z,I.turned (t':=s.toks) (λb o hb e=>eb b o hb e) f0 f1 f3 f4 f5⟩
 self:=λ_ _ _ _ _ st h=>wpAny_pyIter_rangeiter st h
section
variable{X:Cx}
def a1A(K:aK)(tl:TE):TI:=λσ H R=>tl σ H λx H1=>EC (λa=>x=.ref a) (λa=>(∃xs,bG K H1 a xs)) λa=>R (Ä K a) H1
def a3V(K:aK)(tl:TE):TI:=λσ H R=>tl σ H λx H1=>EC (λa=>x=.ref a) (λa=>(∃xs,cG K H1 a xs)) λa=>R (Itt K a) H1
def Ε{l:Expr}{tl:TE}(hl:PE X l tl):PI X tg l (a1A X.K tl):=by
 intro Y s σ H R I h;refine jK (hl Y s σ H _ I h) λv s1 ⟨x,H1,I1,r1,q1⟩=>?_;obtain⟨a,e,⟨xs,hq⟩,q⟩:=q1;subst e;cases r1;obtain⟨cg,rv,p,hz⟩:=I1.list hq;refine xH p.isList ⟨s1.heap.objs.size,[s1.heap.objs.size],_,_,H1,Z,I1.kept (t':=s1.toks) λb o e=>bL _ e,Yv a _,⟨_,bZ _ Z,Z,Z⟩,λb hb=>?_,q⟩;have e:b=s1.heap.objs.size:=by simpa using hb
 subst e;exact I1.Jk (aO _) (I1.hok.fresh (aO _))
def a2b{l:Expr}{tl:TE}(hl:PE X l tl):PI X tg l (a3V X.K tl):=by
 intro Y s σ H R I h;refine jK (hl Y s σ H _ I h) λv s1 ⟨x,H1,I1,r1,q1⟩=>?_;obtain⟨a,e,⟨xs,hq⟩,q⟩:=q1;subst e;cases r1;obtain⟨cg,rv,p,hz⟩:=I1.tuple hq;refine Ec (show s1.heap.IsTuple a cg.toArray from p) ⟨s1.heap.objs.size,[s1.heap.objs.size],_,_,H1,Z,I1.kept (t':=s1.toks) λb o e=>bL _ e,UJ a _,⟨_,bZ _ Z,Z,Z⟩,λb hb=>?_,q⟩;have e:b=s1.heap.objs.size:=by simpa using hb
 subst e;exact I1.Jk (aO _) (I1.hok.fresh (aO _))
def QT{Y:List (Addr×Obj)}{σ:St}{H:Hp}{s:Shared}{R:It->Hp->Prop}{E:Value->Shared->Prop}{lo hi:Int}{t u v:Tok}{tk:Nat}(I:bH X Y σ H s)(h1 : -(2^62)<=lo)(h2:lo<2^62)(h3 : -(2^62)<=hi)(h4:hi<2^62)
  (q:R (WK lo (hi-lo).toNat) H):wpAny (model X.prog X.w) X.A (pyIter (.ref s.heap.objs.size)) (PIE X Y σ tg R) E { s with heap:=s.heap.push { cls:=.type "range",data:=.fields #[.int lo t,.int hi u,.int 1 v]},toks:=tk}:=by
 refine wpAny_pyIter_range (IsRange.new ..) (small_one h1 h2 h3 h4) ?_;have I1:bH X Y σ H { s with heap:=s.heap.push { cls:=.type "range",data:=.fields #[.int lo t,.int hi u,.int 1 v]},toks:=tk}:=I.kept λb o e=>bL _ e;refine⟨(s.heap.push { cls:=.type "range",data:=.fields #[.int lo t,.int hi u,.int 1 v]}).objs.size,[(s.heap.push { cls:=.type "range",data:=.fields #[.int lo t,.int hi u,.int 1 v]}).objs.size],_,_,H,Z,
  I1.kept (t':=tk) λb o e=>bL _ e,UL _ lo (hi-lo).toNat,?_,λb hb=>?_,q⟩
 ·have e1:lo+((0:Nat):Int)*1=lo:=by simp
  have e2:(((hi-lo).toNat:Nat):Int)-((0:Nat):Int)=Builtin.Range.rangeSize lo hi 1:=by rw[rangeSize_one];split<;>omega
  show IsRangeIter _ _ (lo+((0:Nat):Int)*1) ((((hi-lo).toNat:Nat):Int)-((0:Nat):Int)) 1;rw[e1,e2];exact bZ _ rfl
 ·have e:b=(s.heap.push { cls:=.type "range",data:=.fields #[.int lo t,.int hi u,.int 1 v]}).objs.size:=by simpa using hb
  subst e;exact I1.Jk (aO _) (I1.hok.fresh (aO _))
def a3W(ta:TA):TI:=λσ H R=>ta σ H λvs H1=>EA (λj:Int=>vs=[.int j]) λj=>-(2^62)<=j/\j<2^62/\R (WK 0 j.toNat) H1
def a3X(ta:TA):TI:=λσ H R=>ta σ H λvs H1=>∃i j:Int,vs=[.int i,.int j]/\(-(2^62)<=i/\i<2^62/\ -(2^62)<=j/\j<2^62)/\R (WK i (j-i).toNat) H1
def jE{a:Expr}{ta:TA}(hg:Gl X "range")(hm:X.mg "range" = none)(ha:PA X [a] ta)(hs:starEach [a] X.env=[(false,eval a X.env)]:=by rfl):PI X tg (.Call (.Name "range" p) [a] [] pos) (a3W ta):=by
 intro Y s σ H R I h;refine Call_ (v5 I hg hm boot_range (zP (jK (ha pos Y s σ H _ I h) λus s1 ⟨vs,H1,I1,r1,q1⟩=>?_) hs Z));obtain⟨j,e,q1,q2,q⟩:=q1;subst e;cases r1 with
 |cons r rr =>
  cases rr;obtain⟨t,rfl⟩:=r;exact call_range_1 (QT I1 (by omega) (by omega) q1 q2 (by simpa using q))
def Lz{a b:Expr}{ta:TA}(hg:Gl X "range")(hm:X.mg "range" = none)(ha:PA X [a,b] ta)(hs:starEach [a,b] X.env=[(false,eval a X.env),(false,eval b X.env)]:=by rfl)(hs2:starEach [b] X.env=[(false,eval b X.env)]:=by rfl) :
  PI X tg (.Call (.Name "range" p) [a,b] [] pos) (a3X ta):=by
 intro Y s σ H R I h;refine Call_ (v5 I hg hm boot_range (zP (jK (ha pos Y s σ H _ I h) λus s1 ⟨vs,H1,I1,r1,q1⟩=>?_) (by rw[hs,hs2]) (by rw[hs2];rfl)));obtain⟨i,j,e,⟨q1,q2,q3,q4⟩,q⟩:=q1;subst e;cases r1 with
 |cons r rr =>
  cases rr with
  |cons r' rr =>
   cases rr;obtain⟨t,rfl⟩:=r;obtain⟨t',rfl⟩:=r';exact call_range_2 (QT I1 q1 q2 q3 q4 q)
def a5L(wi:TI)(g:TG)(tb:TS):TS:=λD σ H=>wi σ H λZ97 H1=>∃W:Nat->Nat->St->Hp->Prop,(∃m,W 0 m σ H1)/\∀i m σ H,W i m σ H->
 (Z97.stop i H/\D.nx σ H)\/(Z97.go i H/\∃N:St->Hp->Prop,(∀σ' H',N σ' H'->∃m',m'<m/\W (i+1) m' σ' H')/\∀x H',Z97.Ã i H x H'->g x σ H' λσ2 H2=>tb { D with nx:=N,ct:=N,bk:=D.nx} σ2 H2)
def wu(fp:List Addr)(h:Heap):List (Addr×Obj):=fp.filterMap λb=>(h.get? b).map λo=>(b,o)
def tY{b:Addr}{o:Obj}(hb:b∈fp)(e:h.get? b=some o):(b,o)∈wu fp h:=T8.mpr ⟨b,hb,by rw[e];rfl⟩
def Yw{p:Addr×Obj}(hp:p∈wu fp h):p.1∈fp/\h.get? p.1=some p.2:=by
 obtain⟨b,hb,e⟩:=T8.mp hp;cases q:h.get? b with
 |none=>rw[q]at e;cases e
 |some o =>
  rw[q]at e;have e':(b,o)=p:=gh e;subst e';exact⟨hb,q⟩
def bH.pinned{Y:List (Addr×Obj)}{σ:St}{H:Hp}{s:Shared}(I:bH X Y σ H s)(hf:∀b∈fp,GC X Y H b)(ho:∀b∈fp,∃o,s.heap.get? b=some o/\∀v,o.data≠.cell v):bH X (Y++wu fp s.heap) σ H s :=
 I.Hy λp hp=>(b7.mp hp).elim (λz=>I.pin p (gF _ z)) λz=>by
  obtain⟨hb,e⟩:=Yw z;obtain⟨f0,f1,f2,_⟩:=hf p.1 hb;obtain⟨o,e',d⟩:=ho p.1 hb;rw[e]at e';cases e';exact⟨e,f0,f1,f2,d⟩
def bH.xT{Y pl:List (Addr×Obj)}{σ:St}{H:Hp}{s:Shared}(I:bH X (Y++pl) σ H s):bH X Y σ H s:=I.Hy λp hp=>I.pin p (gF _ (tK _ hp))
def kY{iter:Expr}{wi:TI}{g:TG}(hp:PassesOwn (model X.prog X.w) X.A X.env X.xe)(hc:X.calm=true)(hi:PI X tg iter wi)(hg:PG X tg g)(hb:S7 X body tb)
  (hs:∀x,foldedSetIterable iter X.env x=pure x:=by intro _;rfl):PS X (.For tg iter body [] pos) (a5L wi g tb):=by
 intro Y s σ H D I h;refine wpAny_For (jK (hi Y s σ H _ I h) λv s1 h1=>jK h1 λitv s2 h2=>?_) hs;obtain⟨it,fp,tn,Z97,H2,e,I2,T,st2,f2,W,⟨m0,w0⟩,turn⟩:=h2;subst e;have stat:∀{H':Hp},(∀b∈fp,H' b=none)->∀b∈fp,GC X Y H' b:=λhn b hb=>⟨hn b hb,(f2 b hb).2⟩;refine codeAny_forLoop_any (λn s'=>∃i σ' H',bH X Y σ' H' s'/\tn i s'.heap/\(∀b∈fp,H' b=none)/\W i n σ' H') ?_ m0 ⟨0,σ,H2,I2,st2,λb hb=>(f2 b hb).1,w0⟩;rintro n s3 ⟨i,σ3,H3,I3,st3,fr3,w3⟩;rcases turn i n σ3 H3 w3 with⟨stop,qn⟩|⟨go,N,hN,step⟩
 ·refine Ae hp (jK (T.done X Z Z Z hc i Y s3 σ3 H3 X.xe I3 (stat fr3) st3 stop) λr s4 ⟨hr,I4⟩=>?_);subst hr;exact Oq ⟨σ3,H3,I4,qn⟩
 ·refine Ae hp (jK (T.item X Z Z Z hc i Y s3 σ3 H3 X.xe I3 (stat fr3) st3 go) λr s4 ⟨u,hr,h4⟩=>?_);subst hr;refine Ae hp (jK h4 λ_ s5 ⟨x,H5,I5,r5,y5,st5,fr5⟩=>?_);have I5':=I5.pinned (stat fr5) (T.obj _ _ st5);refine Ae hp (jK (hg _ s5 σ3 H5 x u _ I5' r5 (step x H5 y5)) λ_ s6 ⟨σ6,H6,I6,q6⟩=>Ae hp (jK (hb _ s6 σ6 H6 _ I6 q6) λf s7 q7=>?_));have again:∀{WL:St}{H7:Hp},bH X (Y++wu fp s5.heap) WL H7 s7->N WL H7->∃m,m<n/\∃i σ' H',bH X Y σ' H' s7/\tn i s7.heap/\(∀b∈fp,H' b=none)/\W i m σ' H':=λ{WL H7} I7 n7=>by
   obtain⟨m',hm,w7⟩:=hN WL H7 n7;refine⟨m',hm,i+1,WL,H7,I7.xT,T.keep _ _ _ st5 λb hb o e=>(I7.pin (b,o) (gF _ (gF _ (tY hb e)))).1,λb hb=>?_,w7⟩;obtain⟨o,e,d⟩:=T.obj _ _ st5 b hb;exact(I7.pin (b,o) (gF _ (gF _ (tY hb e)))).2.1
  cases f with
  |next=>obtain⟨WL,H7,I7,n7⟩:=q7;exact again I7 n7
  |cont=>obtain⟨WL,H7,I7,n7⟩:=q7;exact again I7 n7
  |brk=>obtain⟨WL,H7,I7,q7⟩:=q7;exact⟨WL,H7,I7.xT,q7⟩
  |ret v=>obtain⟨x7,WL,H7,I7,r7,q7⟩:=q7;exact⟨x7,WL,H7,I7.xT,r7,q7⟩
end
def xU{a:Addr}{xs:List V}{g:TG}{σ:St}{H:Hp}(Pv:Nat->St->Hp->Prop)(h0:Pv 0 σ H)(hl:∀i σ H,i<=xs.length->Pv i σ H->bG K H a xs)
  (hs:∀i x σ H,xs[i]?=some x->Pv i σ H->g x σ H λσ2 H2=>tb { D with nx:=Pv (i+1),ct:=Pv (i+1),bk:=D.nx} σ2 H2) (hd:∀σ H,Pv xs.length σ H->D.nx σ H) :
  ∃W:Nat->Nat->St->Hp->Prop,(∃m,W 0 m σ H)/\∀i m σ H,W i m σ H->
   ((Ä K a).stop i H/\D.nx σ H)\/((Ä K a).go i H/\∃N:St->Hp->Prop,(∀σ' H',N σ' H'->∃m',m'<m/\W (i+1) m' σ' H')/\∀x H',(Ä K a).Ã i H x H'->g x σ H' λσ2 H2=>tb { D with nx:=N,ct:=N,bk:=D.nx} σ2 H2):=by
 refine⟨λi m σ H=>m=xs.length-i/\i<=xs.length/\Pv i σ H,⟨xs.length,by simp,dI _,h0⟩,?_⟩;rintro i m σ H ⟨rfl,hi,p⟩;have q:=hl i σ H hi p;by_cases hlt:i<xs.length
 ·refine .inr ⟨⟨xs,xs[i],q,by simp[hlt]⟩,Pv (i+1),λσ' H' p'=>⟨xs.length-(i+1),by omega,Z,hlt,p'⟩,λx H' y=>?_⟩;obtain⟨e,y⟩:=y;subst e;exact hs i x σ _ (y xs q) p
 ·have e:i=xs.length:=by omega
  subst e;exact .inl ⟨⟨xs,q,aO _⟩,hd σ H p⟩
def Ζ{a:Addr}{xs:List V}{g:TG}{σ:St}{H:Hp}(Pv:Nat->St->Hp->Prop)(h0:Pv 0 σ H)(hl:∀i σ H,i<=xs.length->Pv i σ H->cG K H a xs)
  (hs:∀i x σ H,xs[i]?=some x->Pv i σ H->g x σ H λσ2 H2=>tb { D with nx:=Pv (i+1),ct:=Pv (i+1),bk:=D.nx} σ2 H2) (hd:∀σ H,Pv xs.length σ H->D.nx σ H) :
  ∃W:Nat->Nat->St->Hp->Prop,(∃m,W 0 m σ H)/\∀i m σ H,W i m σ H->
   ((Itt K a).stop i H/\D.nx σ H)\/((Itt K a).go i H/\∃N:St->Hp->Prop,(∀σ' H',N σ' H'->∃m',m'<m/\W (i+1) m' σ' H')/\∀x H',(Itt K a).Ã i H x H'->g x σ H' λσ2 H2=>tb { D with nx:=N,ct:=N,bk:=D.nx} σ2 H2):=by
 refine⟨λi m σ H=>m=xs.length-i/\i<=xs.length/\Pv i σ H,⟨xs.length,by simp,dI _,h0⟩,?_⟩;rintro i m σ H ⟨rfl,hi,p⟩;have q:=hl i σ H hi p;by_cases hlt:i<xs.length
 ·refine .inr ⟨⟨xs,xs[i],q,by simp[hlt]⟩,Pv (i+1),λσ' H' p'=>⟨xs.length-(i+1),by omega,Z,hlt,p'⟩,λx H' y=>?_⟩;obtain⟨e,y⟩:=y;subst e;exact hs i x σ _ (y xs q) p
 ·have e:i=xs.length:=by omega
  subst e;exact .inl ⟨⟨xs,q,aO _⟩,hd σ H p⟩
def vp{lo:Int}{g:TG}{σ:St}{H:Hp}(Pv:Nat->St->Hp->Prop)(h0:Pv 0 σ H)
  (hs:∀i σ H,i<n->Pv i σ H->g (.int (lo+i)) σ H λσ2 H2=>tb { D with nx:=Pv (i+1),ct:=Pv (i+1),bk:=D.nx} σ2 H2) (hd:∀σ H,Pv n σ H->D.nx σ H) :
  ∃W:Nat->Nat->St->Hp->Prop,(∃m,W 0 m σ H)/\∀i m σ H,W i m σ H->
   ((WK lo n).stop i H/\D.nx σ H)\/((WK lo n).go i H/\∃N:St->Hp->Prop,(∀σ' H',N σ' H'->∃m',m'<m/\W (i+1) m' σ' H')/\∀x H',(WK lo n).Ã i H x H'->g x σ H' λσ2 H2=>tb { D with nx:=N,ct:=N,bk:=D.nx} σ2 H2):=by
 refine⟨λi m σ H=>m=n-i/\i<=n/\Pv i σ H,⟨n,by simp,dI _,h0⟩,?_⟩;rintro i m σ H ⟨rfl,hi,p⟩;by_cases hlt:i<n
 ·refine .inr ⟨hlt,Pv (i+1),λσ' H' p'=>⟨n-(i+1),by omega,Z,hlt,p'⟩,λx H' y=>?_⟩;obtain⟨e,y⟩:=y;subst e y;exact hs i σ _ hlt p
 ·have e:i=n:=by omega
  subst e;exact .inl ⟨aO _,hd σ H p⟩
abbrev R2:=V->V->Hp->VK->Prop
def uE(X:Cx)(f:Value->Value->Sem Value)(r:R2):Prop :=
 ∀(Y:List (Addr×Obj)) (s:Shared) (σ:St) (H:Hp) (x y:V) (v u:Value) (Q:VK),bH X Y σ H s->cP x v->cP y u->r x y H Q->
  wpAny (model X.prog X.w) X.A (f v u) (EP X Y σ Q) X.xe s
def jN(X:Cx)(f:Value)(r:List V->Hp->VK->Prop):Prop :=
 ∀(Y:List (Addr×Obj)) (s:Shared) (σ:St) (H:Hp) (xs:List V) (us:List Value) (Q:VK),bH X Y σ H s->cM xs us->r xs H Q->
  wpAny (model X.prog X.w) X.A (call f us) (EP X Y σ Q) X.xe s
def a5M(X:Cx)(r:V->Hp->(Bool->Hp->Prop)->Prop):Prop :=
 ∀(Y:List (Addr×Obj)) (s:Shared) (σ:St) (H:Hp) (x:V) (v:Value) (Q:Bool->Hp->Prop),bH X Y σ H s->cP x v->r x H Q->
  wpAny (model X.prog X.w) X.A (truthy v) (TP X Y σ Q) X.xe s
def WM(r:R2)(ta tb:TE):TE:=λσ H Q=>ta σ H λx H1=>tb σ H1 λy H2=>r x y H2 Q
inductive rI(C:Int->Int->Prop)(g:Int->Int->V)(x:V)(y:V)(H:Hp)(Q:VK):Prop
 |mk (i j:_) (_:x=.int i) (_:y=.int j) (_:C i j) (_:Q (g i j) H)
inductive Þ(g:Int->Int->V)(x:V)(y:V)(H:Hp)(Q:VK):Prop
 |mk (i j:_) (_:x=.int i) (_:y=.int j) (_:Q (g i j) H)
section
variable{X:Cx}{a b:Expr}{tb tc:TE}
def a2c(ha:PE X a ta)(hb:PE X b tb){Y:List (Addr×Obj)}{s:Shared}{σ:St}{H:Hp}{R:V->V->Hp->Prop}(I:bH X Y σ H s)
  (h:ta σ H λx H1=>tb σ H1 λy H2=>R x y H2) {Q:Value->Shared->Prop}{f:Value->Value->Sem Value}
  (hf:∀v u s2 x y H2,bH X Y σ H2 s2->cP x v->cP y u->R x y H2->wpAny (model X.prog X.w) X.A (f v u) Q X.xe s2) :
  wpAny (model X.prog X.w) X.A (eval a X.env) (λv s₁=>wpAny (model X.prog X.w) X.A (eval b X.env) (λu s₂=>wpAny (model X.prog X.w) X.A (f v u) Q X.xe s₂) X.xe s₁) X.xe s:=by
 exact jK (ha Y s σ H _ I h) λv s1 ⟨x,H1,I1,r1,q1⟩=>jK (hb Y s1 σ H1 _ I1 q1) λu s2 ⟨y,H2,I2,r2,q2⟩=>hf v u s2 x y H2 I2 r1 r2 q2
def bC{op:Operator}{r:R2}(ho:uE X (binaryOp op) r)(ha:PE X a ta)(hb:PE X b tb):PE X (.BinOp a op b pos) (WM r ta tb):=by
 intro Y s σ H Q I h;exact wpAny_BinOp (a2c ha hb I h λv u s2 x y H2 I2 rx ry q=>ho Y s2 σ H2 x y v u Q I2 rx ry q)
def opI{f:Value->Value->Sem Value}{C:Int->Int->Prop}{g:Int->Int->Int}
  (rule:∀(i j:Int) (t u:Tok) (s:Shared) (Q:Value->Shared->Prop) (E:Value->Shared->Prop),C i j->Q (.int (g i j) s.toks) { s with toks:=s.toks+1}->wpAny (model X.prog X.w) X.A (f (.int i t) (.int j u)) Q E s) :
  uE X f (rI C λi j=>.int (g i j)):=by
 intro Y s σ H x y v u Q I rx ry h;obtain⟨i,j,rfl,rfl,hc,q⟩:=h;obtain⟨t,rfl⟩:=rx;obtain⟨t',rfl⟩:=ry;exact rule i j t t' s _ _ hc ⟨.int (g i j),H,I.tok _,⟨_,Z⟩,q⟩
def a3Y{f:Value->Value->Sem Value}{g:Int->Int->Int}
  (rule:∀(i j:Int) (t u:Tok) (s:Shared) (Q:Value->Shared->Prop) (E:Value->Shared->Prop),Q (.int (g i j) s.toks) { s with toks:=s.toks+1}->wpAny (model X.prog X.w) X.A (f (.int i t) (.int j u)) Q E s) :
  uE X f (Þ λi j=>.int (g i j)):=by
 intro Y s σ H x y v u Q I rx ry h;obtain⟨i,j,rfl,rfl,q⟩:=h;obtain⟨t,rfl⟩:=rx;obtain⟨t',rfl⟩:=ry;exact rule i j t t' s _ _ ⟨.int (g i j),H,I.tok _,⟨_,Z⟩,q⟩
def Η{f:Value->Value->Sem Value}{g:Int->Int->Bool}
  (rule:∀(i j:Int) (t u:Tok) (s:Shared) (Q:Value->Shared->Prop) (E:Value->Shared->Prop),Q (.bool (g i j)) s->wpAny (model X.prog X.w) X.A (f (.int i t) (.int j u)) Q E s) :
  uE X f (Þ λi j=>.bl (g i j)):=by
 intro Y s σ H x y v u Q I rx ry h;obtain⟨i,j,rfl,rfl,q⟩:=h;obtain⟨t,rfl⟩:=rx;obtain⟨t',rfl⟩:=ry;exact rule i j t t' s _ _ ⟨.bl (g i j),H,I,Z,q⟩
def a5N(i j:Int):Prop:=0<j/\j<1073741824
def a5O(i j:Int):Prop:=0<=j/\j<=1000000/\i.natAbs<2^64
def a2d(i j:Int):Prop:=(-(2^64)<i/\i<2^64)\/(-(2^64)<j/\j<2^64)
def a2d.ok{i j:Int}(h:a2d i j):IntMulOk i j:=by
 rcases h with⟨h1,h2⟩|⟨h1,h2⟩
 ·exact .of_left (intBits_le_64 h1 h2)
 ·exact .of_right (intBits_le_64 h1 h2)
def dO:uE X (binaryOp .Add) (Þ λi j=>.int (i+j)):=a3Y λ_ _ _ _ _ _ _ q=>add_int q
def Jl:uE X (binaryOp .Sub) (Þ λi j=>.int (i-j)):=a3Y λ_ _ _ _ _ _ _ q=>sub_int q
def uU:uE X (binaryOp .Mult) (rI a2d λi j=>.int (i*j)):=opI λ_ _ _ _ _ _ _ hc q=>mul_int q hc.ok
def Θ:uE X (binaryOp .FloorDiv) (rI a5N λi j=>.int (i/j)):=opI λi j _ _ _ _ _ hc q=>by
 have h1:(0:Int)<j:=hc.1;have h2:j<1073741824:=hc.2;exact floordiv_int (by omega) (by rw[Int.fdiv_eq_ediv_of_nonneg i (by omega)];exact q) (.inl (PyProof.noPylong_small (by omega)))
def jF:uE X (binaryOp .Mod) (rI (λ_ j=>0<j) λi j=>.int (i%j)):=opI λi j _ _ _ _ _ hc q=>by
 have h1:(0:Int)<j:=hc;exact mod_int' (by omega) (by rw[Int.fmod_eq_emod_of_nonneg i (by omega)];exact q)
def a2e:uE X (binaryOp .Pow) (rI a5O λi j=>.int (i^j.toNat)):=opI λ_ _ _ _ _ _ _ hc q=>pow_int_small hc.1 hc.2.1 hc.2.2 q
end
def a3Z:V->V->Bool
 |.non,.non=>true |.non,.int _=>true |.int _,.non=>true |.non,.bl _=>true |.bl _,.non=>true |.non,.str _=>true |.str _,.non=>true
 |.int _,.int _=>true |.bl _,.bl _=>true |.str _,.str _=>true |.Ww _,.Ww _=>true
 |.int _,.str _=>true |.str _,.int _=>true |.bl _,.str _=>true |.str _,.bl _=>true
 |_,_=>false
def rEq:R2:=λx y H Q=>a3Z x y=true/\Q (.bl (decide (x=y))) H
def rNe:R2:=λx y H Q=>a3Z x y=true/\Q (.bl (!decide (x=y))) H
def WN{i j:Int}:decide (V.int i=V.int j)=(i==j):=by
 rw[rU];simp
def ß{i j:Bool}:decide (V.bl i=V.bl j)=(i==j):=by
 rw[rU];simp
def WQ{i j:Str}:decide (V.str i=V.str j)=(i==j):=by
 rw[rU];simp
def WR{i j:Array UInt8}:decide (V.Ww i=V.Ww j)=(i.toList==j.toList):=by
 rw[rU];cases i;cases j;simp
section
variable{X:Cx}{a b:Expr}{tb tc:TE}
def eN{Y:List (Addr×Obj)}{σ:St}{H:Hp}{s:Shared}{Q:VK}{k k':Bool}(I:bH X Y σ H s)(q:Q (.bl k) H)(e:k=k'):EP X Y σ Q (.bool k') s:=by
 subst e;exact⟨.bl k,H,I,Z,q⟩
def jb:uE X (compareOp .Eq) rEq:=by
 intro Y s σ H x y v u Q I rx ry h;obtain⟨hs,q⟩:=h;cases x with
 |non =>
  cases rx;cases y with
  |non=>cases ry;exact PySem.EqNone.eq_none_none (eN I q (by simp))
  |bl j=>cases ry;exact PySem.EqNone.eq_none_bool (eN I q (by simp))
  |int j=>obtain⟨t',rfl⟩:=ry;exact PySem.EqNone.eq_none_int (eN I q (by simp))
  |str j=>obtain⟨t',rfl⟩:=ry;exact PySem.EqNone.eq_none_str (eN I q (by simp))
  |_=>exact absurd (show false=true from hs) dw
 |bl i =>
  cases rx;cases y with
  |non=>cases ry;exact PySem.EqNone.eq_bool_none (eN I q (by simp))
  |bl j=>cases ry;exact eq_bool (eN I q ß)
  |str j=>obtain⟨t',rfl⟩:=ry;exact PySem.EqMixed.eq_bool_str (eN I q (by simp))
  |_=>exact absurd (show false=true from hs) dw
 |int i =>
  obtain⟨t,rfl⟩:=rx;cases y with
  |non=>cases ry;exact PySem.EqNone.eq_int_none (eN I q (by simp))
  |int j=>obtain⟨t',rfl⟩:=ry;exact eq_int (eN I q WN)
  |str j=>obtain⟨t',rfl⟩:=ry;exact PySem.EqMixed.eq_int_str (eN I q (by simp))
  |_=>exact absurd (show false=true from hs) dw
 |str i =>
  obtain⟨t,rfl⟩:=rx;cases y with
  |non=>cases ry;exact PySem.EqNone.eq_str_none (eN I q (by simp))
  |bl j=>cases ry;exact PySem.EqMixed.eq_str_bool (eN I q (by simp))
  |int j=>obtain⟨t',rfl⟩:=ry;exact PySem.EqMixed.eq_str_int (eN I q (by simp))
  |str j=>obtain⟨t',rfl⟩:=ry;exact eq_str (eN I q WQ)
  |_=>exact absurd (show false=true from hs) dw
 |Ww i =>
  obtain⟨t,rfl⟩:=rx;cases y with
  |Ww j=>obtain⟨t',rfl⟩:=ry;exact PySem.W.eq_bytes (eN I q WR)
  |_=>exact absurd (show false=true from hs) dw
 |_=>cases y<;>exact absurd (show false=true from hs) dw
def FZ:uE X (compareOp .NotEq) rNe:=by
 intro Y s σ H x y v u Q I rx ry h;obtain⟨hs,q⟩:=h;cases x with
 |non =>
  cases rx;cases y with
  |non=>cases ry;exact PySem.EqNone.ne_none_none (eN I q (by simp))
  |bl j=>cases ry;exact PySem.EqNone.ne_none_bool (eN I q (by simp))
  |int j=>obtain⟨t',rfl⟩:=ry;exact PySem.EqNone.ne_none_int (eN I q (by simp))
  |str j=>obtain⟨t',rfl⟩:=ry;exact PySem.EqNone.ne_none_str (eN I q (by simp))
  |_=>exact absurd (show false=true from hs) dw
 |bl i =>
  cases rx;cases y with
  |non=>cases ry;exact PySem.EqNone.ne_bool_none (eN I q (by simp))
  |bl j=>cases ry;exact ne_bool (eN I q (congrArg not ß))
  |str j=>obtain⟨t',rfl⟩:=ry;exact PySem.EqMixed.ne_bool_str (eN I q (by simp))
  |_=>exact absurd (show false=true from hs) dw
 |int i =>
  obtain⟨t,rfl⟩:=rx;cases y with
  |non=>cases ry;exact PySem.EqNone.ne_int_none (eN I q (by simp))
  |int j=>obtain⟨t',rfl⟩:=ry;exact ne_int (eN I q (congrArg not WN))
  |str j=>obtain⟨t',rfl⟩:=ry;exact PySem.EqMixed.ne_int_str (eN I q (by simp))
  |_=>exact absurd (show false=true from hs) dw
 |str i =>
  obtain⟨t,rfl⟩:=rx;cases y with
  |non=>cases ry;exact PySem.EqNone.ne_str_none (eN I q (by simp))
  |bl j=>cases ry;exact PySem.EqMixed.ne_str_bool (eN I q (by simp))
  |int j=>obtain⟨t',rfl⟩:=ry;exact PySem.EqMixed.ne_str_int (eN I q (by simp))
  |str j=>obtain⟨t',rfl⟩:=ry;exact ne_str (eN I q (congrArg not WQ))
  |_=>exact absurd (show false=true from hs) dw
 |Ww i =>
  obtain⟨t,rfl⟩:=rx;cases y with
  |Ww j=>obtain⟨t',rfl⟩:=ry;exact PySem.W.ne_bytes (eN I q (congrArg not WR))
  |_=>exact absurd (show false=true from hs) dw
 |_=>cases y<;>exact absurd (show false=true from hs) dw
def xV:uE X (compareOp .Lt) (Þ λi j=>.bl (decide (i<j))):=Η λ_ _ _ _ _ _ _ q=>lt_int q
def a4a:uE X (compareOp .LtE) (Þ λi j=>.bl (decide (i<=j))):=Η λ_ _ _ _ _ _ _ q=>le_int q
def zL:uE X (compareOp .Gt) (Þ λi j=>.bl (decide (j<i))):=Η λ_ _ _ _ _ _ _ q=>gt_int q
def a4b:uE X (compareOp .GtE) (Þ λi j=>.bl (decide (j<=i))):=Η λ_ _ _ _ _ _ _ q=>ge_int q
def UW : uE X (compareOp .Is) (fun x y H Q => y = .non ∧ Q (.bl (decide (x = .non))) H) := by
  intro Y s σ H x y v u Q I rx ry h;obtain ⟨rfl, q⟩ := h;cases ry;refine is_none_gen (eN I q ?_);cases x <;> first
    | (cases rx; rfl)
    | (obtain ⟨t, rfl⟩ := rx; rfl)
def Ι : uE X (compareOp .IsNot) (fun x y H Q => y = .non ∧ Q (.bl (!decide (x = .non))) H) := by
  intro Y s σ H x y v u Q I rx ry h;obtain ⟨rfl, q⟩ := h;cases ry;refine isnot_none_gen (eN I q ?_);cases x <;> first
    | (cases rx; rfl)
    | (obtain ⟨t, rfl⟩ := rx; rfl)
def à(b:Expr)(h:op≠.In:=by decide)(h2:op≠.NotIn:=by decide):behindInMarks op b=false:=by
 have e1:(op==CmpOp.In)=false:=by cases op<;>first|rfl|exact absurd Z h
 have e2:(op==CmpOp.NotIn)=false:=by cases op<;>first|rfl|exact absurd Z h2
 cases b<;>simp[behindInMarks,e1,e2]
def sS{r:R2}(ho:uE X (compareOp op) r)(ha:PE X a ta)(hb:PE X b tb)(hm:behindInMarks op b=false:=by exact à _):PE X (.Compare a [op] [b] pos) (WM r ta tb):=by
 intro Y s σ H Q I h;exact wpAny_Compare1 (a2c ha hb I h λv u s2 x y H2 I2 rx ry q=>ho Y s2 σ H2 x y v u Q I2 rx ry q) hm
def Jm(t:TE):TT:=λσ H Q=>t σ H λx H'=>EA (λk=>x=.bl k) λk=>Q k H'
def aJ{r:R2}(ho:uE X (compareOp op) r)(ha:PE X a ta)(hb:PE X b tb)(hm:behindInMarks op b=false:=by exact à _):PT X (.Compare a [op] [b] pos) (Jm (WM r ta tb)):=by
 intro Y s σ H Q I h;refine wpAny_isTrue_Compare1 (jK (ha Y s σ H _ I h) λv s1 ⟨x,H1,I1,r1,q1⟩=>jK (hb Y s1 σ H1 _ I1 q1) λu s2 ⟨y,H2,I2,r2,q2⟩ =>
  jK (ho Y s2 σ H2 x y v u _ I2 r1 r2 q2) λc s3 ⟨z,H3,I3,r3,k,e,q3⟩=>?_) hm
 subst e;cases r3;exact zY ⟨H3,I3,q3⟩
def a2f(r r':R2)(ta tb tc:TE):TE:=λσ H Q=>ta σ H λx H1=>tb σ H1 λy H2=>r x y H2 λz H3=>∃k,z=.bl k/\
 (if k=true then tc σ H3 λw' H4=>r' y w' H4 Q else Q (.bl false) H3)
def á{op':CmpOp}{r r':R2}(ho:uE X (compareOp op) r)(ho':uE X (compareOp op') r')(ha:PE X a ta)(hb:PE X b tb)(hc:PE X c tc)
  (hm:lastMarks [op,op'] [b,c]=false:=by with_unfolding_all rfl):PE X (.Compare a [op,op'] [b,c] pos) (a2f r r' ta tb tc):=by
 intro Y s σ H Q I h;refine Compare_chain (jK (ha Y s σ H _ I h) λv s1 ⟨x,H1,I1,r1,q1⟩=>chain_link (jK (hb Y s1 σ H1 _ I1 q1) λu s2 ⟨y,H2,I2,r2,q2⟩ =>
  jK (ho Y s2 σ H2 x y v u _ I2 r1 r2 q2) λd s3 ⟨z,H3,I3,r3,k,e,q3⟩=>?_)) hm
 subst e;cases r3;refine zY ?_;cases k with
 |false=>exact ite_ff ⟨.bl false,H3,I3,Z,q3⟩
 |true=>exact ite_tt (chain_last (jK (hc Y s3 σ H3 _ I3 q3) λw' s4 ⟨z',H4,I4,r4,q4⟩=>ho' Y s4 σ H4 y z' u w' Q I4 r2 r4 q4))
def â(K:aK)(x:V)(H:Hp)(k:Bool):Prop :=
 match x with
 |.non=>k=false
 |.bl b=>k=b
 |.int i=>k=(i != 0)
 |.str y=>y.length<=sizeLine/\k=((y.length:Int) != 0)
 |.Ww y=>y.size<=sizeLine/\k=((y.size:Int) != 0)
 |.ref p=>(∃xs,bG K H p xs/\k = !xs.isEmpty)\/(∃xs,cG K H p xs/\k = !xs.isEmpty)\/∃O,H p=some (.dK O)/\k = !O.isEmpty
 |_=>False
def U4{κ:Type}{O:List (κ×V)}{vs:List (κ×Value)}(r:KV O vs):(!vs.isEmpty) = !O.isEmpty:=by
 cases r<;>rfl
def Jo{xs:List V}{cg:List Value}(r:cM xs cg):(!cg.toArray.isEmpty) = !xs.isEmpty:=by
 cases r<;>simp
def Jp:(sizeLine:Nat)<2^63:=by rw[jD];decide
def U5:a5M X (λx H Q=>∃k,â X.K x H k/\Q k H):=by
 intro Y s σ H x v Q I rx h;obtain⟨k,e,q⟩:=h;have hl:=Jp;have hs:sizeLine=16777216:=jD;cases x with
 |non =>
  cases rx;have e':k=false:=e;subst e';exact truthy_none ⟨H,I,q⟩
 |bl b =>
  cases rx;have e':k=b:=e;subst e';exact zY ⟨H,I,q⟩
 |int i =>
  obtain⟨t,rfl⟩:=rx;have e':k=(i != 0):=e;subst e';exact PySem.P.truthy_int ⟨H,I,q⟩
 |str y =>
  obtain⟨t,rfl⟩:=rx;obtain⟨hy,e'⟩:y.length<=sizeLine/\k=((y.length:Int) != 0):=e;subst e';exact PySem.P.truthy_str (by omega) ⟨H,I.tok _,q⟩
 |Ww y =>
  obtain⟨t,rfl⟩:=rx;obtain⟨hy,e'⟩:y.size<=sizeLine/\k=((y.size:Int) != 0):=e;subst e';exact PySem.W.truthy_bytes (by omega) ⟨H,I.tok _,q⟩
 |ref p =>
  cases rx;have e':(∃xs,bG X.K H p xs/\k = !xs.isEmpty)\/(∃xs,cG X.K H p xs/\k = !xs.isEmpty)\/∃O,H p=some (.dK O)/\k = !O.isEmpty:=e;rcases e' with⟨xs,hx,e'⟩|⟨xs,hx,e'⟩|⟨O,hx,e'⟩
  ·subst e';obtain⟨cg,r,pl,hz⟩:=I.list hx;have hlen:=r.length;exact wpAny_truthy_list pl.isList (by simp only[List.size_toArray];omega) ⟨H,I.tok _,by rw[Jo r];exact q⟩
  ·subst e';obtain⟨cg,r,pl,hz⟩:=I.tuple hx;have hlen:=r.length;exact truthy_tuple pl (by simp only[List.size_toArray];omega) ⟨H,I.tok _,by rw[Jo r];exact q⟩
  ·subst e';obtain⟨hz,hS,vs,r,m⟩:O.length<=sizeLine/\(p==sysModules)=false/\∃vs,KV O vs/\s.heap.DictOf (fU X.prog X.w) p vs:=I.hok p _ hx;have hlen:O.length=vs.length:=aY r;exact wpAny_truthy_dict hS m (by omega) ⟨H,I.tok _,by rw[U4 r];exact q⟩
 |_=>exact(show False from e).elim
def ã(ha:PE X a ta)(he:∀whole,isTrue a X.env whole=(do let v <-whole;standAt a.pos;holding [v] (truthy v))) :
  PT X a (λσ H Q=>ta σ H λx H'=>∃k,â X.K x H' k/\Q k H'):=by
 intro Y s σ H Q I h;exact isTrue_plain (jK (ha Y s σ H _ I h) λv s1 ⟨x,H1,I1,r1,q1⟩=>U5 Y s1 σ H1 x v Q I1 r1 q1) (he _)
def vals1{x:V}{us:List Value}(r:cM [x] us):∃u,us=[u]/\cP x u:=by
 cases r with
 |cons r1 r2=>cases r2;exact⟨_,Z,r1⟩
def vals2{x y:V}{us:List Value}(r:cM [x,y] us):∃u w',us=[u,w']/\cP x u/\cP y w':=by
 cases r with
 |cons r1 r2 =>
  cases r2 with
  |cons r3 r4=>cases r4;exact⟨_,_,Z,r1,r3⟩
def LC(hc:X.calm=true):jN X (.builtin "max") (λxs H Q=>∃i j,xs=[.int i,.int j]/\Q (.int (if j>i then j else i)) H):=by
 intro Y s σ H xs us Q I r h;obtain⟨i,j,rfl,q⟩:=h;obtain⟨u,w',rfl,⟨t,rfl⟩,⟨t',rfl⟩⟩:=vals2 r;refine max_two_ints (I.ok.hd hc) λh' tk k=>⟨_,H,I.kept k,?_,q⟩;by_cases hj:j>i
 ·rw[aG hj,aG hj];exact⟨_,Z⟩
 ·rw[aB hj,aB hj];exact⟨_,Z⟩
def LK(hc:X.calm=true):jN X (.builtin "min") (λxs H Q=>∃i j,xs=[.int i,.int j]/\Q (.int (if j<i then j else i)) H):=by
 intro Y s σ H xs us Q I r h;obtain⟨i,j,rfl,q⟩:=h;obtain⟨u,w',rfl,⟨t,rfl⟩,⟨t',rfl⟩⟩:=vals2 r;refine min_two_ints (I.ok.hd hc) λh' tk k=>⟨_,H,I.kept k,?_,q⟩;by_cases hj:j<i
 ·rw[aG hj,aG hj];exact⟨_,Z⟩
 ·rw[aB hj,aB hj];exact⟨_,Z⟩
def Yx:jN X (.type "int") (λxs H Q=>(∃i,xs=[.int i]/\Q (.int i) H)\/∃k,xs=[.bl k]/\Q (.int (if k then 1 else 0)) H):=by
 intro Y s σ H xs us Q I r h;rcases h with⟨i,rfl,q⟩|⟨k,rfl,q⟩
 ·obtain⟨u,rfl,t,rfl⟩:=vals1 r;exact call_int_int ⟨.int i,H,I,⟨_,Z⟩,q⟩
 ·obtain⟨u,rfl,r1⟩:=vals1 r;cases r1;exact call_int_bool ⟨.int (if k then 1 else 0),H,I.tok _,⟨_,Z⟩,q⟩
end
structure U6(h:Heap)(x dx C:Addr)(mA:Str->Option Value):Prop where
 obj:h.get? x=some (PySem.W.instObj C dx)
 ns:h.Ns1 dx mA
 ne:dx≠x
set_option tactic.hygienic true in
def Yy{dx:Addr}(n:h.Ns1 dx mA):∃od,h.get? dx=some od/\∀name,PySem.W.lookIn name od=some (mA name):=by
 obtain⟨o,es,ep,ho,hd,hk,_,hm⟩:=n;refine⟨o,ho,λname=>?_⟩;have e:=hm name;unfold nsFind findBy at e;rw[<-Array.find?_toList]at e;unfold PySem.W.lookIn;rw[hd];dsimp only;split
 ·rename_i y q;rw[q]at e;exact congrArg some e
 ·rename_i q;rw[q]at e;have a:es.toList.any (·.refKey)=false:=by
   rw[List.any_eq_false];intro y hy;obtain⟨z,t,hkey⟩:=hk y (Array.mem_toList_iff.mp hy);simp[DictEntry.refKey,hkey]
  have a':¬es.toList.any (·.refKey)=true:=by rw[a];exact dw
  rw[aB a'];exact congrArg some e
def U6.look{x dx C:Addr}(I:U6 h x dx C mA):∃od,PySem.W.InstAt h x (PySem.W.instObj C dx) C (some od)/\∀name,PySem.W.lookIn name od=some (mA name) :=
 let⟨od,ho,hl⟩:=Yy I.ns
 ⟨od,⟨I.obj,Z,Z,ho⟩,hl⟩
section
variable{prog:Program}{w:World}{E:Value->Shared->Prop}{s:Shared}{x dx C f:Addr}{name:Str}{v:Value}
def get_map{expr:Bool}{Q:Value->Shared->Prop}(X:K.In s.heap)(I:U6 s.heap x dx C mA)(hg:PySem.W.plainGet K C name=true)(hh:PySem.W.hasDictIn K C=true)
  (ha:PySem.W.findIn K (.ref C) name=some none) (hv:mA name=some v) (hv':PySem.W.handedIn v=true) (h:Q v { s with toks:=s.toks+1}) :
  wpAny (model prog w) A (getAttr (.ref x) name expr) Q E s:=by
 obtain⟨od,Z97,hl⟩:=I.look;exact PySem.W.get_value X Z97 (T4 hg).1 (PySem.W.findObj_own hh ha Z (by rw[hl,hv])) hv' h
def ä{Q:Value×List Value->Shared->Prop}(X:K.In s.heap)(I:U6 s.heap x dx C mA)(hg:PySem.W.plainGet K C name=true)
  (hf:PySem.W.findIn K (.ref C) name=some (some (.ref f))) (ht:PySem.W.isFn K (.ref f)=true) (hv:mA name=none) (h:Q (.ref f,[.ref x]) s) :
  wpAny (model prog w) A (getMethod (.ref x) name pl) Q E s:=by
 obtain⟨od,Z97,hl⟩:=I.look;exact PySem.W.method_fn X Z97 (T4 hg).1 (T4 hg).2 hf (Jg.mp ht) (by show(PySem.W.lookIn name od).map (·.isSome)=some false;rw[hl,hv];rfl) h
def Κ{ns:List Str}{Q:Unit->Shared->Prop}(X:K.In s.heap)(I:U6 s.heap x dx C mA)
  (hs:PySem.W.findIn K (.ref C) "__setattr__" = some (some (.builtin "object.__setattr__"))) (hp:PySem.W.plainOver K C=true) (ht:PySem.W.takerIn K C name=some none) (hh:PySem.W.hasDictIn K C=true)
  (hw:PySem.Within mA ns) (hsz:ns.length<=sizeLine)
  (h:∀h',U6 h' x dx C (λy=>if y=name then some v else mA y)->Heap.SameBut dx s.heap h'->Q () { s with heap:=h',toks:=s.toks+2}) :
  wpAny (model prog w) A (setAttr (.ref x) name v) Q E s:=by
 obtain⟨od,Z97,hl⟩:=I.look;refine PySem.W.set_plain X Z97 hs (PySem.W.osa_open (s:={ s with toks:=s.toks+1}) (r:=none) X Z97 hp ht λb=>?_);obtain⟨cd,hc,hd'⟩:=PySem.W.any_some hh;have hx:s.heap.get? x=some ⟨.ref C,some dx,.plain,#[]⟩:=I.obj;refine M (ao (M (M (wpAny_loadPart hx (M (PySem.W.Looks.here (s:={ s with toks:=s.toks+1}) (PySem.W.looks_clsIn X hc) ?_))))));rw[hd'];refine ao (a:=some dx) (M (ao (M (wpAny_nsSet1 (s:={ s with toks:=s.toks+1}) I.ns λh' hn2 hs2=>?_))));obtain⟨oD,esD,epD,hoD,hdD,hcD⟩:=hn2.count (PySem.Within.cons name v hw);refine M (wpAny_lookBehind hoD (by rw[hdD];exact pastItsLine_dict (cW hcD (by rw[nA];omega))) ?_);exact ao (h _ ⟨(hs2.2 _ (Ne.symm I.ne)).trans I.obj,hn2,I.ne⟩ hs2)
def å{R:Result->Shared->Prop}{vs:List Value}(X:K.In s.heap)(hm:PySem.W.makesIn K C=true)
  (hi:PySem.W.findIn K (.ref C) "__init__" = some (some (.ref f))) (hf:PySem.W.typeIn K (.ref f)=some (.type "function"))
  (h:codeAny (model prog w) (A.under (.builtin "type.__call__" ⟨.ref C::vs,kw⟩)) (.call (.ref f) ⟨.ref (s.heap.objs.size+1)::vs,kw⟩) (PySem.W.InitBack (s.heap.objs.size+1) R)
   { s with heap:=(s.heap.push PySem.W.emptyDict).push (PySem.W.instObj C s.heap.objs.size)}) :
  codeAny (model prog w) A (.call (.ref C) ⟨vs,kw⟩) R s:=by
 obtain⟨hh,g,d,t,os⟩:=s;exact PySem.W.make_core (PySem.W.makes_of X hm) (PySem.W.looks_findIn X hi) (λself=>PySem.W.bind_fn X self hf) (.inl Z) h
end
def wz(f:Str)(v:V):List (Str×V)->List (Str×V)
 | []=>[(f,v)]
 |(g,x)::r=>if g=f then(g,v)::r else(g,x)::wz f v r
theorem Ga(f g:Str)(v:V):∀fs:List (Str×V),(wz f v fs).lookup g=if g=f then some v else fs.lookup g
 | []=>by
  show List.lookup g [(f,v)]=_
  by_cases h:g=f
  ·have hb:(g==f)=true:=Jg.mpr h
   simp only[List.lookup,hb,if_pos h]
  ·have hb:(g==f)=false:=xu.mpr h
   simp only[List.lookup,hb,if_neg h]
 |(k,x)::r=>by
  have ih:=Ga f g v r
  rw[show wz f v ((k,x)::r)=(if k=f then(k,v)::r else(k,x)::wz f v r)from rfl]
  by_cases hk:k=f
  ·rw[aG hk]
   by_cases h:g=k
   ·have hb:(g==k)=true:=Jg.mpr h
    simp only[List.lookup,hb,if_pos (h.trans hk)]
   ·have hb:(g==k)=false:=xu.mpr h
    simp only[List.lookup,hb,if_neg (λe:g=f=>h (e.trans hk.symm))]
  ·rw[aB hk]
   by_cases h:g=k
   ·have hb:(g==k)=true:=Jg.mpr h
    simp only[List.lookup,hb,if_neg (λe:g=f=>hk (h.symm.trans e))]
   ·have hb:(g==k)=false:=xu.mpr h
    simp only[List.lookup,hb]
    exact ih
theorem Er(f:Str)(v:V):∀fs:List (Str×V),f∈(wz f v fs).map (·.1)/\∀g,g∈fs.map (·.1)->g∈(wz f v fs).map (·.1)
 | []=>⟨by simp[wz],λg h=>by simp at h⟩
 |(k,x)::r=>by
  obtain⟨i1,i2⟩:=Er f v r
  rw[show wz f v ((k,x)::r)=(if k=f then(k,v)::r else(k,x)::wz f v r)from rfl]
  by_cases hk:k=f
  ·rw[aG hk]
   subst hk
   exact⟨by simp,λg h=>by simpa using h⟩
  ·rw[aB hk]
   refine⟨?_,λg h=>?_⟩
   ·rw[cL]
    exact bM _ i1
   ·rw[cL]at h ⊢
    rcases cH.mp h with e|e
    ·exact cH.mpr (.inl e)
    ·exact bM _ (i2 g e)
theorem Gb(f:Str)(v:V):∀fs:List (Str×V),(wz f v fs).length<=fs.length+1
 | []=>by simp[wz]
 |(k,x)::r=>by
  have ih:=Gb f v r
  rw[show wz f v ((k,x)::r)=(if k=f then(k,v)::r else(k,x)::wz f v r)from rfl]
  by_cases hk:k=f
  ·rw[aG hk,nA,nA];omega
  ·rw[aB hk,nA,nA];omega
def tV.some_of{v:V}{o:Option Value}(r:tV (some v) o):∃u,o=some u/\cP v u:=by
 cases o with
 |none=>exact(show False from r).elim
 |some u=>exact⟨u,Z,r⟩
def tV.none_of{o:Option Value}(r:tV none o):o=none:=by
 cases o with
 |none=>rfl
 |some u=>exact(show False from r).elim
def Yz{v:V}{u:Value}(r:cP v u):PySem.W.handedIn u=true:=by
 cases v with
 |non=>cases(show u=Value.none from r);rfl
 |bl b=>cases(show u=Value.bool b from r);rfl
 |int i=>obtain⟨t,e⟩:=(show ∃t,u=Value.int i t from r);cases e;rfl
 |str x=>obtain⟨t,e⟩:=(show ∃t,u=Value.str x t from r);cases e;rfl
 |Ww b=>obtain⟨t,e⟩:=(show ∃t,u=Value.bytes b t from r);cases e;rfl
 |flt b=>obtain⟨t,e⟩:=(show ∃t,u=Value.float b t from r);cases e;rfl
 |ref a=>cases(show u=Value.ref a from r);rfl
 |ty n=>cases(show u=Value.type n from r);rfl
section
variable{P:Program}{w:World}{H H':Hp}{a C dx:Addr}{fs fs':List (Str×V)}
def Hz(hok:zA P w H h)(e:H a=some (.ins C dx fs)):∃mA,U6 h a dx C mA/\(∀f,tV (fs.lookup f) (mA f))/\PySem.Within mA (fs.map (·.1))/\fs.length<=1000/\H dx=some (.own a):=by
 obtain⟨d,z,ne,ob,mA,n,r,q⟩:=(show fZ P w H h a (.ins C dx fs)from hok a _ e);exact⟨mA,⟨ob,n,ne⟩,r,q,z,d⟩
end
structure Cls(K:aK)(C:Addr):Prop where
 pg:PySem.W.plainGet K C Str.empty=true
 hd:PySem.W.hasDictIn K C=true
 po:PySem.W.plainOver K C=true
 sa:PySem.W.findIn K (.ref C) "__setattr__" = some (some (.builtin "object.__setattr__"))
def Cls.get{C:Addr}(c:Cls K C)(f:Str):PySem.W.plainGet K C f=true:=c.pg
def eO(K:aK)(C:Addr)(f:Str):Prop:=PySem.W.findIn K (.ref C) f=some none
def eO.taker{C:Addr}{f:Str}(n:eO K C f):PySem.W.takerIn K C f=some none:=by
 unfold PySem.W.takerIn;rw[show PySem.W.findIn K (.ref C) f=some none from n];rfl
structure Meth(K:aK)(C:Addr)(m:Str)(f:Addr):Prop where
 at_:PySem.W.findIn K (.ref C) m=some (some (.ref f))
 fn:PySem.W.isFn K (.ref f)=true
 kp:PySem.W.keepIn K (.ref f)=true
section
variable{X:Cx}{Y:List (Addr×Obj)}{σ:St}{H:Hp}{s:Shared}{a C dx:Addr}{fs:List (Str×V)}{f:Str}{v:V}{E:Value->Shared->Prop}
def U7{b:Bool}{Q:Value->Shared->Prop}(I:bH X Y σ H s)(e:H a=some (.ins C dx fs))(c:Cls X.K C)(n:eO X.K C f)(l:fs.lookup f=some v)
  (h:∀u s',bH X Y σ H s'->cP v u->Q u s'):wpAny (model X.prog X.w) A (getAttr (.ref a) f b) Q E s:=by
 obtain⟨mA,Z96,r,_,_,_⟩:=Hz I.hok e;obtain⟨u,hu,ru⟩:=tV.some_of (v:=v) (o:=mA f) (by rw[<-l];exact r f);exact get_map I.DN Z96 (c.get f) c.hd n hu (Yz ru) (h u _ (I.tok _) ru)
def U8{m:Str}{g:Addr}{Q:Value×List Value->Shared->Prop}(I:bH X Y σ H s)(e:H a=some (.ins C dx fs))(c:Cls X.K C)(k:Meth X.K C m g)(l:fs.lookup m=none)
  (h:Q (.ref g,[.ref a]) s):wpAny (model X.prog X.w) A (getMethod (.ref a) m pl) Q E s:=by
 obtain⟨mA,Z96,r,_,_,_⟩:=Hz I.hok e;have hn:mA m=none:=tV.none_of (by rw[<-l];exact r m);exact ä I.DN Z96 (c.get m) k.at_ k.fn hn h
def U9{y:V}{u:Value}{Q:Unit->Shared->Prop}(I:bH X Y σ H s)(e:H a=some (.ins C dx fs))(c:Cls X.K C)(n:eO X.K C f)(hl:fs.length<1000)(ry:cP y u)
  (h:∀s',bH X Y σ (cO H a (.ins C dx (wz f y fs))) s'->Q () s'):wpAny (model X.prog X.w) A (setAttr (.ref a) f u) Q E s:=by
 obtain⟨mA,Z96,r,wi,_,ho⟩:=Hz I.hok e;have hz:(fs.map (·.1)).length<=sizeLine:=by rw[aN,jD];omega
 refine Κ I.DN Z96 c.sa c.po n.taker c.hd wi hz λh' O' sb=>h _ ?_;have hd:∃o,h'.get? dx=some o:=let⟨o,_,_,e',_⟩:=O'.ns;⟨o,e'⟩
 refine I.write (x:=a) (e:=dx) (by rw[e];exact nD) (.inr ho) (λb q hb z=>(sb.2 b hb).trans z) hd ?_;refine⟨by rw[aZ Z96.ne];exact ho,?_,Z96.ne,O'.obj,_,O'.ns,λg=>?_,λg hg=>?_⟩
 ·have:=Gb f y fs;omega
 ·show tV ((wz f y fs).lookup g) (if g=f then some u else mA g);rw[Ga];by_cases q:g=f
  ·rw[aG q,aG q];exact ry
  ·rw[aB q,aB q];exact r g
 ·by_cases q:g=f
  ·rw[q];exact(Er f y fs).1
  ·refine(Er f y fs).2 g (wi g λz=>hg ?_);show(if g=f then some u else mA g)=none;rw[aB q];exact z
def bH.made(I:bH X Y σ H s):bH X Y σ (cO (cO H s.heap.objs.size (.own (s.heap.objs.size+1))) (s.heap.objs.size+1) (.ins C s.heap.objs.size []))
  { s with heap:=(s.heap.push PySem.W.emptyDict).push (PySem.W.instObj C s.heap.objs.size)}:=by
 have e1:(s.heap.push PySem.W.emptyDict).get? s.heap.objs.size=some PySem.W.emptyDict:=bZ s.heap rfl;have e2:((s.heap.push PySem.W.emptyDict).push (PySem.W.instObj C s.heap.objs.size)).get? (s.heap.objs.size+1)=some (PySem.W.instObj C s.heap.objs.size):=by
  have:=bZ (s.heap.push PySem.W.emptyDict) (o:=PySem.W.instObj C s.heap.objs.size) rfl
  rwa [jW]at this
 have e3:(s.heap.push PySem.W.emptyDict).Ns s.heap.objs.size (λ_=>none):=⟨PySem.W.emptyDict,#[],_,e1,Z,(λe he=>absurd he (by simp)),λ_=>rfl⟩;have I1:=I.laid (a:=s.heap.objs.size) (o:=.own (s.heap.objs.size+1)) (h':=s.heap.push PySem.W.emptyDict) (t':=s.toks) (λb u q=>bL _ q) (aO _) ⟨_,e1⟩;refine I1.laid (a:=s.heap.objs.size+1) (o:=.ins C s.heap.objs.size []) (t':=s.toks) (λb u q=>bL _ q) (OJ (jW _ _)) ?_;have ne:s.heap.objs.size≠s.heap.objs.size+1:=cu (Ac _);refine⟨by rw[aZ ne,eG],dI _,ne,e2,λ_=>none,(Heap.Ns1.of_empty e3).at λo q=>bL _ q,λ_=>nD,λy hy=>absurd Z hy⟩
def Λ{prog:Program}{w:World}{env:Env}{f:Str}{s:Shared}{Q:Value->Shared->Prop}(hb:attributeBase e f env (eval e env)=eval e env)
  (h:wpAny (model prog w) A (eval e env) (λo s₁=>wpAny (model prog w) A (getAttr o f true) Q E s₁) E s):wpAny (model prog w) A (eval (.Attribute e f pos) env) Q E s :=
 Attribute_any_ h (by rw[arm_eval_Attribute,hb])
end
inductive a4c(K:aK)(f:Str)(x:V)(H1:Hp)(Q:VK):Prop
 |mk (a C dx fs v:_) (_:x=.ref a) (_:H1 a=some (.ins C dx fs)) (_:Cls K C) (_:eO K C f) (_:fs.lookup f=some v) (_:Q v H1)
def a4d(K:aK)(ta:TE)(f:Str):TE:=λσ H Q=>ta σ H λx H1=>a4c K f x H1 Q
inductive a4e(K:aK)(f:Str)(y x:V)(σ:St)(H2:Hp)(Q:St->Hp->Prop):Prop
 |mk (a C dx fs:_) (_:x=.ref a) (_:H2 a=some (.ins C dx fs)) (_:Cls K C) (_:eO K C f) (_:fs.length<1000) (_:Q σ (cO H2 a (.ins C dx (wz f y fs))))
def a5P(K:aK)(ta tv:TE)(f:Str):TS:=λD σ H=>tv σ H λy H1=>ta σ H1 λx H2=>a4e K f y x σ H2 D.nx
section
variable{X:Cx}{o value:Expr}{f:Str}{pos' tpos:Pos}{tv:TE}
def a2g(he:PE X e ta)(hb:attributeBase e f X.env (eval e X.env)=eval e X.env):PE X (.Attribute e f pos) (a4d X.K ta f):=by
 intro Y s σ H Q I h;refine Λ hb (jK (he Y s σ H _ I h) λu s1 ⟨x,H1,I1,rx,a,C,dx,fs,v,ex,ea,c,n,l,q⟩=>?_);subst ex;obtain rfl:u=Value.ref a:=rx;exact U7 I1 ea c n l λu' s2 I2 ru=>⟨v,H1,I2,ru,q⟩
def Ao(ha:PE X o ta)(hv:PE X value tv)(hs:swapsWith value (some (.Attribute o f pos')) pos.line X.env=pure false):PS X (.Assign [.Attribute o f pos'] value pos) (a5P X.K ta tv f):=by
 intro Y s σ H D I h;refine plainObj_wpAny_Assign_Attribute (jK (hv Y s σ H _ I h) λu s1 ⟨y,H1,I1,ry,q⟩=>jK (ha Y s1 σ H1 _ I1 q) λov s2 ⟨x,H2,I2,rx,a,C,dx,fs,ex,ea,c,n,l,q2⟩=>?_) hs;subst ex;obtain rfl:ov=Value.ref a:=rx;exact U9 I2 ea c n l ry λs3 I3=>⟨σ,_,I3,q2⟩
end
section
variable{X:Cx}{Y:List (Addr×Obj)}{σ:St}{H:Hp}{s:Shared}{E:Value->Shared->Prop}{Q:Value->Shared->Prop}{c:Value}{b:Bool}
inductive sU(K:aK)(H:Hp):V->Value->Prop where
 |non:sU K H .non (.type "NoneType")
 |bl (x:Bool):sU K H (.bl x) (.type "bool")
 |int (i:Int):sU K H (.int i) (.type "int")
 |str (x:Str):sU K H (.str x) (.type "str")
 |flt (x:UInt64):sU K H (.flt x) (.type "float")
 |lst {a:Addr}{xs:List V} (e:H a=some (.lst xs)):sU K H (.ref a) (.type "list")
 |kj {a:Addr}{o:Obj}{xs:List V} (e:H a=some (.kj o (.lst xs))):sU K H (.ref a) (.type "list")
 |tup {a:Addr}{xs:List V} (e:H a=some (.tup xs)):sU K H (.ref a) (.type "tuple")
 |dK {a:Addr}{O:List (Key×V)} (e:H a=some (.dK O)):sU K H (.ref a) (.type "dict")
 |dT {a:Addr}{O:List (List Key×V)} (e:H a=some (.dT O)):sU K H (.ref a) (.type "dict")
 |ins {a C dx:Addr}{fs:List (Str×V)} (e:H a=some (.ins C dx fs)) (cl:Cls K C) (ha:PySem.W.findIn K (.ref C) "__class__" = some (some (.builtin "object.__class__")))
   (hn:PySem.W.specialIn K (.builtin "object.__class__") "__get__" = some (some (.builtin "getset_descriptor.__get__"))) (htk:PySem.W.takesIn K (.builtin "object.__class__")=some true)
   (hm:PySem.W.mroIn K C (.type "object")=some true):sU K H (.ref a) (.ref C)
def YB{x:V}{u t:Value}(I:bH X Y σ H s)(rx:cP x u)(ty:sU X.K H x t)(e:PySem.W.kitOne X.K t c=some b)(h:∀tk,Q (.bool b) { s with toks:=tk}) :
  wpAny (model X.prog X.w) A (call (.builtin "isinstance") [u,c]) Q E s:=by
 cases ty with
 |non=>cases(show u=Value.none from rx);exact tQ PySem.W.kitx_none I.DN nD e (λz=>nomatch z) h
 |bl y=>cases(show u=Value.bool y from rx);exact tQ PySem.W.kitx_bool I.DN nD e (λz=>nomatch z) h
 |int i=>obtain⟨t,q⟩:=(show ∃t,u=Value.int i t from rx);cases q;exact tQ PySem.W.kitx_int I.DN nD e (λz=>nomatch z) h
 |str y=>obtain⟨t,q⟩:=(show ∃t,u=Value.str y t from rx);cases q;exact tQ PySem.W.kitx_str I.DN nD e (λz=>nomatch z) h
 |flt y=>obtain⟨t,q⟩:=(show ∃t,u=Value.float y t from rx);cases q;exact tQ PySem.W.kitx_float I.DN nD e (λz=>nomatch z) h
 | @lst a xs ea =>
  cases(show u=Value.ref a from rx);obtain⟨_,_,n,_,h1⟩:=(show fZ X.prog X.w H s.heap a (.lst xs)from I.hok a _ ea);exact tQ PySem.W.kitx_list I.DN ⟨_,h1,Z⟩ e (λz=>nomatch z) h
 | @kj a ob xs ea =>
  cases(show u=Value.ref a from rx);obtain⟨_,_,_,n,_,h1⟩:=(show fZ X.prog X.w H s.heap a (.kj ob (.lst xs))from I.hok a _ ea);exact tQ PySem.W.kitx_list I.DN ⟨_,h1,Z⟩ e (λz=>nomatch z) h
 | @tup a xs ea =>
  cases(show u=Value.ref a from rx);obtain⟨_,_,_,p⟩:=(show fZ X.prog X.w H s.heap a (.tup xs)from I.hok a _ ea);obtain⟨o,h1,h2,_⟩:=p;exact tQ PySem.W.kitx_tuple I.DN ⟨o,h1,h2⟩ e (λz=>nomatch z) h
 | @dK a O ea =>
  cases(show u=Value.ref a from rx);obtain⟨_,_,vs,_,p⟩:=(show fZ X.prog X.w H s.heap a (.dK O)from I.hok a _ ea);obtain⟨o,es,ep,h1,h2,_⟩:=p;exact tQ PySem.W.kitx_dict I.DN ⟨o,h1,h2.1⟩ e (λz=>nomatch z) h
 | @dT a O ea =>
  cases(show u=Value.ref a from rx);obtain⟨_,_,xs,_,o,es,ep,h1,h2,_⟩:=(show fZ X.prog X.w H s.heap a (.dT O)from I.hok a _ ea);exact tQ PySem.W.kitx_dict I.DN ⟨o,h1,h2.1⟩ e (λz=>nomatch z) h
 | @ins a C dx fs ea cl ha hn htk hm =>
  cases(show u=Value.ref a from rx);obtain⟨mA,Z96,_⟩:=Hz I.hok ea;obtain⟨od,Z97,_⟩:=Z96.look;exact tQ (PySem.W.kitx_own (cl.get _) cl.hd ha hn htk hm) I.DN Z97 e (λz=>nomatch z) h
end
structure sV(k:Nat)(A:Around):Prop where
 hd:A.handled=none
 dp:A.depth+3*k+5<recursionLimit
 un:A.units+16*k+200<cLine
def sV.mono{j:Nat}(r:sV k A)(h:j<=k):sV j A:=⟨r.hd,by have:=r.dp;omega,by have:=r.un;omega⟩
def sV.deeper{k:Nat}{A:Around}(r:sV (k+1) A)(env:Env):sV k (A.deeper env) :=
 ⟨r.hd,by have:=r.dp;show A.depth+1+3*k+5<_;omega,by have:=r.un;show A.units+3+16*k+200<_;omega⟩
def Va{C:Addr}{us:List Value}:(A.under (.builtin "type.__call__" ⟨.ref C::us,kw⟩)).depth=A.depth+1:=by
 first|rfl|simp[Around.under,Code.weight,Code.isCreation,Code.isGuard,Code.isCaller,Code.frames,Code.isFrame,guardIds]
def Vb{C:Addr}{us:List Value}:(A.under (.builtin "type.__call__" ⟨.ref C::us,kw⟩)).units=A.units+1:=by
 first|rfl|simp[Around.under,Code.cUnits,Code.frames,Code.isFrame]
def sV.make(r:sV (k+1) A)(C:Addr)(us:List Value)(kw:List (Str×Value)):sV k (A.under (.builtin "type.__call__" ⟨.ref C::us,kw⟩)) :=
 ⟨r.hd,by have:=r.dp;rw[Va];omega,by have:=r.un;rw[Vb];omega⟩
def sV.depth{k:Nat}{A:Around}(r:sV k A):A.depth<recursionLimit:=by have:=r.dp;omega
def YC:TA:=λ_ H Q=>Q [] H
def uH(ta:TE)(tr:TA):TA:=λσ H Q=>ta σ H λx H1=>tr σ H1 λxs H2=>Q (x::xs) H2
section
variable{X:Cx}{t:TA}
def aj:PA X [] YC:=λ_ _ _ _ H Q I h=>Calls.spliced_nil ⟨[],H,I,.nil,h⟩
def J(ha:PE X e te)(hr:PA X es t)(hs:starEach (e::es) X.env=(false,eval e X.env)::starEach es X.env:=by rfl):PA X (e::es) (uH te t):=by
 intro pos Y s σ H Q I h;rw[hs];show wpAny _ _ (spliced ((false,eval e X.env)::backTo pos (starEach es X.env))) _ _ s;exact Calls.spliced_cons (jK (ha Y s σ H _ I h) λu s1 ⟨x,H1,I1,r1,q1⟩=>jK (hr pos Y s1 σ H1 _ I1 q1) λus s2 ⟨xs,H2,I2,r2,q2⟩=>⟨x::xs,H2,I2,.cons r1 r2,q2⟩)
end
abbrev Sp:=List V->Hp->VK->XK->Prop
abbrev Vc:=List Env->Hp->Shared->XK->Value->Shared->Prop
structure Vd(P:Program)(w:World)(K:aK)(mg:Str->Option Value)(base:Heap)(A:Around)(outer:List Env)(s:Shared)(H:Hp):Prop where
 frames:A.frames=some outer
 mod:Mod K mg base
 bs:∀b o,base.get? b=some o->s.heap.get? b=some o/\H b=none
 ũ:base.objs.size<=s.heap.objs.size
 BX:s.heap.FunFrames base outer
 Ż:∀b∈frs outer,H b=none
 hok:zA P w H s.heap
 bare:AllBare s.gens
inductive CE(outer:List Env)(P:Program)(w:World)(H:Hp)(s:Shared)(Q:VK)(u:Value)(s':Shared):Prop
 |mk (v H':_) (_:s'.os=s.os) (_:AllBare s'.gens) (_:Un (frs outer) [] H H' s.heap s'.heap) (_:zA P w H' s'.heap) (_:cP v u) (_:Q v H')
def CR(CX:Vc)(outer:List Env)(P:Program)(w:World)(H:Hp)(s:Shared)(Q:VK)(E:XK)(r:Result)(s':Shared):Prop :=
 match r with
 |.ok (.ret u)=>CE outer P w H s Q u s'
 |.ok _=>False
 |.error e=>CX outer H s E e s'
structure bh(P:Program)(w:World)(K:aK)(mg:Str->Option Value)(base:Heap)(CX:Vc)(k:Nat)(f:Addr)(fd:FuncData)(ps:List Str)(sp:Sp):Prop where
 len:∀vs H Q E,sp vs H Q E->vs.length=ps.length
 run:∀(A:Around) (outer:List Env) (s:Shared) (H:Hp) (args:Args) (us:List Value) (vs:List V) (Q:VK) (E:XK),sV k A->Vd P w K mg base A outer s H->BindsTo s fd args (ps.zip us)->cM vs us->sp vs H Q E->
  codeAny (model P w) A (.call (.ref f) args) (CR CX outer P w H s Q E) s
def bh.mono{P:Program}{w:World}{K:aK}{mg:Str->Option Value}{base:Heap}{CX:Vc}{j k:Nat}{f:Addr}{fd:FuncData}{ps:List Str}{sp:Sp}(F:bh P w K mg base CX j f fd ps sp)(h:j<=k) :
  bh P w K mg base CX k f fd ps sp:=⟨F.len,λA outer s H args us vs Q E hr=>F.run A outer s H args us vs Q E (hr.mono h)⟩
def Vd.make{P:Program}{w:World}{outer:List Env}{s:Shared}{H:Hp}(e:Vd P w K mg base A outer s H)(C:Addr)(us:List Value)(kw:List (Str×Value)) :
  Vd P w K mg base (A.under (.builtin "type.__call__" ⟨.ref C::us,kw⟩)) outer s H:=⟨by first|exact e.frames|(simpa [Around.under,Code.envs,Code.isFrame,pushEnvs]using e.frames),e.mod,e.bs,e.ũ,e.BX,e.Ż,e.hok,e.bare⟩
section
variable{X:Cx}{Y:List (Addr×Obj)}{σ:St}{H:Hp}{s s':Shared}
def bH.env0(I:bH X Y σ H s):Vd X.prog X.w X.K X.mg X.base X.A X.stack s H :=
 ⟨I.ok.frames,I.ok.mod,I.bs,cW I.ok.ũ I.sz,I.stack,I.Wx,I.hok,I.bare⟩
def bH.after{Q:VK}{u:Value}(I:bH X Y σ H s)(h:CE X.stack X.prog X.w H s Q u s'):EP X Y σ Q u s':=by
 obtain⟨v,H',os,bare,un,hok,r,q⟩:=h;obtain⟨hh,g,d,t,os'⟩:=s';obtain rfl:os'=s.os:=os;exact⟨v,H',I.call (h':=hh) (g':=g) (d':=d) (t':=t) (ch:=[]) un hok bare (λb z=>absurd z (by simp)),r,q⟩
end
def WT(sp:Sp)(K4:List V)(E:XK)(t:TA):TE:=λσ H Q=>t σ H λvs H1=>sp (vs++K4) H1 Q E
inductive a2h(C:Addr)(m:Str)(x:V)(H1:Hp)(Q:Prop):Prop
 |mk (a dx fs:_) (_:x=.ref a) (_:H1 a=some (.ins C dx fs)) (_:fs.lookup m=none) (_:Q)
def a4f(C:Addr)(m:Str)(sp:Sp)(K4:List V)(E:XK)(ta:TE)(t:TA):TE:=λσ H Q=>ta σ H λx H1=>a2h C m x H1 (t σ H1 λvs H2=>sp (x::(vs++K4)) H2 Q E)
def a4g(C:Addr)(sp:Sp)(K4:List V)(E:XK)(t:TA):TE:=λσ H Q=>t σ H λvs H1=>∀x dx,H1 x=none->H1 dx=none->dx≠x->
 sp (.ref x::(vs++K4)) (cO (cO H1 dx (.own x)) x (.ins C dx [])) (λv H2=>v=.non/\Q (.ref x) H2) E
def Binds(K:aK)(fd:FuncData)(ps:List Str)(ds:List Value):Prop :=
 ∀(s:Shared) (us:List Value),K.In s.heap->(us++ds).length=ps.length->BindsTo s fd ⟨us,[]⟩ (ps.zip (us++ds))
def Binds.all{fd:FuncData}{ps:List Str}(h:∀us:List Value,us.length=ps.length->bindArgs fd ⟨us,[]⟩=pure (ps.zip us)):Binds K fd ps []:=λs us _ hl=>by
 rw[mD]at hl ⊢;exact .of_eq (h us hl)
def Aq(CX:Vc)(X:Cx)(E:XK):Prop:=∀(Y:List (Addr×Obj)) (σ:St) (H:Hp) (s:Shared) (e:Value) (s':Shared),bH X Y σ H s->CX X.stack H s E e s'->X.xe e s'
section
variable{X:Cx}{CX:Vc}{f C:Addr}{fd:FuncData}{ps:List Str}{sp:Sp}{K4:List V}{ds:List Value}{E:XK}{x m:Str}{apos:Pos}{o:Expr}{t:TA}
def Ve{Y:List (Addr×Obj)}{σ:St}{H:Hp}{s:Shared}{Q:VK}{us:List Value}{vs:List V}(F:bh X.prog X.w X.K X.mg X.base CX k f fd ps sp)(hr:sV k X.A)(hb:Binds X.K fd ps ds)(hd:cM K4 ds)(hx:Aq CX X E)
  (I:bH X Y σ H s) (r:cM vs us) (h:sp (vs++K4) H Q E):wpAny (model X.prog X.w) X.A (call (.ref f) us) (EP X Y σ Q) X.xe s:=by
 have r2:cM (vs++K4) (us++ds):=r.append hd;have hl:(us++ds).length=ps.length:=by rw[<-r2.length];exact F.len _ _ _ _ h
 refine wpAny_call (El (F.run X.A X.stack s H ⟨us,[]⟩ (us++ds) (vs++K4) Q E hr I.env0 (hb s us I.DN hl) r2 h) λr s' hq=>?_);cases r with
 |error e=>exact hx Y σ H s e s' I hq
 |ok fl =>
  cases fl with
  |ret u=>exact I.after hq
  |next=>exact False.elim hq
  |brk=>exact False.elim hq
  |cont=>exact False.elim hq
def bf(F:bh X.prog X.w X.K X.mg X.base CX k f fd ps sp)(hr:sV k X.A)(hg:Gl X x)(hm:X.mg x=some (.ref f))(hk:PySem.W.keepIn X.K (.ref f)=true)(hb:Binds X.K fd ps ds)(hd:cM K4 ds)(hx:Aq CX X E)
  (ha:PA X (e::es) t) (hdb:(x==("__debug__" : Str))=false:=by decide) (he:starEach (e::es) X.env=(false,eval e X.env)::starEach es X.env:=by rfl) (hpl:(backTo pos (starEach es X.env)).any (·.1)=false:=by rfl) :
  PE X (.Call (.Name x p) (e::es) [] pos) (WT sp K4 E t):=by
 intro Y s σ H Q I h;exact xG (BZ I hg hm (Od (h₀:=X.base) I.ok.mod.kin hk (jK (ha pos Y s σ H _ I h) λus s1 ⟨vs,H1,I1,r,q⟩=>⟨I1.DN,Ve F hr hb hd hx I1 r q⟩) he hpl) hdb)
def wA(he:PE X o ta)(c:Cls X.K C)(hm:Meth X.K C m f)(F:bh X.prog X.w X.K X.mg X.base CX k f fd ps sp)(hr:sV k X.A)(hb:Binds X.K fd ps ds)(hd:cM K4 ds)(hx:Aq CX X E)(ha:PA X (e::es) t)
  (hst:starEach (e::es) X.env=(false,eval e X.env)::starEach es X.env:=by rfl) (hpl:(backTo pos (starEach es X.env)).any (·.1)=false:=by rfl)
  (ht:eval (.Call (.Attribute o m apos) (e::es) [] pos) X.env=(do
   let ov <-eval o X.env
   standAt apos.atName
   let(f,first) <-holding [ov] (getMethod ov m pl)
   callWith pos f first (backTo pos (starEach (e::es) X.env)) (backToKw pos (keywordEach [] X.env))):=by rfl) :
  PE X (.Call (.Attribute o m apos) (e::es) [] pos) (a4f C m sp K4 E ta t):=by
 intro Y s σ H Q I h;refine PySem.W.methodCall_KW (pl:=pl) (jK (he Y s σ H _ I h) λu s1 ⟨x,H1,I1,rx,a,dx,fs,ex,ea,l,q⟩=>?_) ht;subst ex;obtain rfl:u=Value.ref a:=rx;exact U8 I1 ea c hm l (Od (first:=[.ref a]) (h₀:=X.base) I.ok.mod.kin hm.kp (jK (ha pos Y s1 σ H1 _ I1 q) λus s2 ⟨vs,H2,I2,r,q2⟩=>⟨I2.DN,Ve (us:=.ref a::us) (vs:=.ref a::vs) F hr hb hd hx I2 (.cons Z r) q2⟩) hst hpl)
structure Mk(K:aK)(C f:Addr):Prop where
 makes:PySem.W.makesIn K C=true
 init:PySem.W.findIn K (.ref C) "__init__" = some (some (.ref f))
 fn:PySem.W.isFn K (.ref f)=true
 kp:PySem.W.keepIn K (.ref C)=true
def æ{Y:List (Addr×Obj)}{σ:St}{H:Hp}{s:Shared}{Q:VK}{us:List Value}{vs:List V}(Z98:Mk X.K C f)(F:bh X.prog X.w X.K X.mg X.base CX k f fd ps sp)(hr:sV (k+1) X.A)(hb:Binds X.K fd ps ds)(hd:cM K4 ds)
  (hx:Aq CX X E) (I:bH X Y σ H s) (r:cM vs us)
  (h:∀x dx,H x=none->H dx=none->dx≠x->sp (.ref x::(vs++K4)) (cO (cO H dx (.own x)) x (.ins C dx [])) (λv H2=>v=.non/\Q (.ref x) H2) E) :
  wpAny (model X.prog X.w) X.A (call (.ref C) us) (EP X Y σ Q) X.xe s:=by
 have hq:=h (s.heap.objs.size+1) s.heap.objs.size (I.hok.fresh (xP _)) (I.hok.fresh (aO _)) (cu (Ac _));have I2:=bH.made (C:=C) I;have r2:cM (V.ref (s.heap.objs.size+1)::(vs++K4)) (Value.ref (s.heap.objs.size+1)::(us++ds)):=.cons Z (r.append hd);have hl:(Value.ref (s.heap.objs.size+1)::us++ds).length=ps.length:=by
  have e:=r2.length;rw[F.len _ _ _ _ hq]at e;exact e.symm
 refine wpAny_call (å (f:=f) I.DN Z98.makes Z98.init (Jg.mp Z98.fn) (El (F.run _ X.stack _ _ ⟨Value.ref (s.heap.objs.size+1)::us,[]⟩ (Value.ref (s.heap.objs.size+1)::(us++ds)) _ _ E (hr.make C us [])
  (I2.env0.make C us []) (hb _ (Value.ref (s.heap.objs.size+1)::us) I2.DN hl) r2 hq) λr s' hq'=>?_))
 cases r with
 |error e=>exact hx Y σ _ _ e s' I2 hq'
 |ok fl =>
  cases fl with
  |ret u =>
   obtain⟨v,H',I3,rv,ev,q3⟩:=I2.after hq';subst ev;exact⟨rv,⟨V.ref (s.heap.objs.size+1),H',I3,Z,q3⟩⟩
  |next=>exact False.elim hq'
  |brk=>exact False.elim hq'
  |cont=>exact False.elim hq'
def O9(Z98:Mk X.K C f)(F:bh X.prog X.w X.K X.mg X.base CX k f fd ps sp)(hr:sV (k+1) X.A)(hg:Gl X x)(hm:X.mg x=some (.ref C))(hb:Binds X.K fd ps ds)(hd:cM K4 ds)(hx:Aq CX X E)
  (ha:PA X (e::es) t) (hdb:(x==("__debug__" : Str))=false:=by decide) (he:starEach (e::es) X.env=(false,eval e X.env)::starEach es X.env:=by rfl) (hpl:(backTo pos (starEach es X.env)).any (·.1)=false:=by rfl) :
  PE X (.Call (.Name x p) (e::es) [] pos) (a4g C sp K4 E t):=by
 intro Y s σ H Q I h;exact xG (BZ I hg hm (Od (h₀:=X.base) I.ok.mod.kin Z98.kp (jK (ha pos Y s σ H _ I h) λus s1 ⟨vs,H1,I1,r,q⟩=>⟨I1.DN,æ Z98 F hr hb hd hx I1 r q⟩) he hpl) hdb)
end
structure bD(N P:List Str)(sc:Scope):Prop where
 kind:sc.kind=.function:=by rfl
 co:sc.isCoroutine=false:=by rfl
 gen:sc.isGenerator=false:=by rfl
 nd:N.Nodup:=by decide
 pre:N.take P.length=P:=by rfl
 par:∀x∈P,sc.names.lookup x=some .local\/sc.names.lookup x=some .cell:=by decide
 a2i:∀y∈sc.names,y.2≠.free:=by decide
theorem LQ{kindOf:Str->Option NameKind}{x:Str}:∀{binds:List (Str×Value)}{m:Str->Option Value},(∀v,(x,v)∉binds)->bindL kindOf binds m x=m x
 | [],_,_=>rfl
 |(n,v)::r,m,h=>by
  unfold bindL
  rw[LQ λw hw=>h w (bM _ hw)]
  split
  ·have:x≠n:=by rintro rfl;exact h v aW
   simp[this]
  ·rfl
theorem LR{kindOf:Str->Option NameKind}{x:Str}:∀{binds:List (Str×Value)}{m:Str->Option Value},(∀v,(x,v)∉binds)->bindC kindOf binds m x=m x
 | [],_,_=>rfl
 |(n,v)::r,m,h=>by
  unfold bindC
  rw[LR λw hw=>h w (bM _ hw)]
  split
  ·rfl
  ·have:x≠n:=by rintro rfl;exact h v aW
   simp[this]
theorem Ma{kindOf:Str->Option NameKind}{x:Str}{v:Value}:∀{P:List Str}{vs:List Value}{i:Nat}{m:Str->Option Value},P.Nodup->P[i]?=some x->vs[i]?=some v->kindOf x=some .local->
  bindL kindOf (P.zip vs) m x=some v
 | [],_,_,_,_,h,_,_=>by simp at h
 |_::_,[],_,_,_,_,h,_=>by simp at h
 |p::P,w::vs,0,m,nd,h1,h2,hk=>by
  simp at h1 h2;subst h1;subst h2
  show bindL kindOf ((p,w)::P.zip vs) m p=_
  unfold bindL
  rw[LQ λv hv=>(jC.mp nd).1 (Uk hv).1,aG hk]
  simp
 |p::P,w::vs,i+1,m,nd,h1,h2,hk=>by
  show bindL kindOf ((p,w)::P.zip vs) m x=_
  unfold bindL
  exact Ma (i:=i) (jC.mp nd).2 (by simpa using h1) (by simpa using h2) hk
theorem Mf{kindOf:Str->Option NameKind}{x:Str}{v:Value}:∀{P:List Str}{vs:List Value}{i:Nat}{m:Str->Option Value},P.Nodup->P[i]?=some x->vs[i]?=some v->kindOf x≠some .local->
  bindC kindOf (P.zip vs) m x=some v
 | [],_,_,_,_,h,_,_=>by simp at h
 |_::_,[],_,_,_,_,h,_=>by simp at h
 |p::P,w::vs,0,m,nd,h1,h2,hk=>by
  simp at h1 h2;subst h1;subst h2
  show bindC kindOf ((p,w)::P.zip vs) m p=_
  unfold bindC
  rw[LR λv hv=>(jC.mp nd).1 (Uk hv).1,aB hk]
  simp
 |p::P,w::vs,i+1,m,nd,h1,h2,hk=>by
  show bindC kindOf ((p,w)::P.zip vs) m x=_
  unfold bindC
  exact Mf (i:=i) (jC.mp nd).2 (by simpa using h1) (by simpa using h2) hk
def start(N:List Str)(vs:List V):St:=vs.map some++List.replicate (N.length-vs.length) none
def Vf(CX:Vc)(P:Program)(w:World)(K:aK)(mg:Str->Option Value)(base:Heap)(N:List Str)(qual:Str)(scope:Scope)(f:Addr)(cd:Value)(A:Around)(outer:List Env)(s:Shared)(H:Hp)(E:XK):Cx where
 prog:=P
 w:=w
 K:=K
 mg:=mg
 base:=base
 A:=A.deeper (envOfC qual scope s.heap.objs.size f cd)
 N:=N
 s₀:=s
 H₀:=H
 env:=envOfC qual scope s.heap.objs.size f cd
 outer:=outer
 stack:=envOfC qual scope s.heap.objs.size f cd::outer
 ex:=[]
 calm:=true
 fn:=λ_=>true
 pn:=[]
 xe:=λe s'=>wpAny (model P w) (A.deeper (envOfC qual scope s.heap.objs.size f cd)) (leaving (envOfC qual scope s.heap.objs.size f cd) e) (λ_ s''=>CX outer H s E e s'') (λe' s''=>CX outer H s E e' s'') s'
def QV{sc:Scope}{x:Str}(h:sc.names.lookup x=some .cell):∃c,(cellsFrom n sc.names []).lookup x=some c:=by
 have q:=PySem.W.cellsFrom_some sc.names n [] (.inl h);exact Option.isSome_iff_exists.mp q
def YD{CX:Vc}{P:Program}{w:World}{ps:List Str}{qual:Str}{scope:Scope}{f:Addr}{cd:Value}{outer:List Env}{s s1:Shared}{H:Hp}{E:XK}{us:List Value}{vs:List V}
  (S:bD N ps scope) (hd:A.handled=none) (e0:Vd P w K mg base A outer s H) (hl:vs.length=ps.length) (r:cM vs us)
  (x:InCallC s s.heap.objs.size (bindL (envOfC qual scope s.heap.objs.size f cd).kindOf (ps.zip us) λ_=>none) (cellsFrom (s.heap.objs.size+1) scope.names []) (bindC (envOfC qual scope s.heap.objs.size f cd).kindOf (ps.zip us) λ_=>none) s1) :
  bH (Vf CX P w K mg base N qual scope f cd A outer s H E) [] (start N vs) H s1:=by
 have hpl:ps.length<=N.length:=by have:=congrArg List.length S.pre;rw[dZ]at this;omega
 obtain⟨h1,tk,rfl,hk⟩:=x.done;have noA:∀b:Addr,b∉(Vf CX P w K mg base N qual scope f cd A outer s H E).ex:=λb z=>absurd (show b∈([]:List Addr)from z) (by simp);refine⟨⟨e0.mod,S.kind,Z,Z,aO _,λy z c h1 h2=>?_,λy hy=>?_,λy c _ h=>?_,λ_=>hd,Around.frames_deeper e0.frames,.inr ⟨Z,Z⟩,λb z=>absurd z (noA b),e0.bs,e0.ũ,λb _ _=>noA b,λb z=>absurd z (noA b),e0.BX,e0.Ż⟩,
  rfl,e0.bare,Un.kept hk,⟨_,x.toInCall.ns,λi y v h1 h2 h3=>?_⟩,λy c h=>⟨_,x.cell y c h⟩,e0.hok.fresh (aO _),λy c h=>?_,λp hp=>absurd (show p∈([]:List (Addr×Obj))from hp) (by simp),e0.hok.kept hk,?_⟩
 ·exact name_of_addr x.apart (Ea h1) (Ea h2)
 ·have hy:scope.names.lookup y=some .cell\/scope.names.lookup y=some .free:=hy;rcases hy with hy|hy
  ·exact QV hy
  ·exact absurd Z (S.a2i _ (Ea hy))
 ·exact dH (x.above y c (Ea h))
 ·have hi:i<vs.length:=by
   unfold start at h2;by_cases hi:i<vs.length
   ·exact hi
   ·rw[wZ (by simpa using hi)]at h2;rw[List.getElem?_replicate]at h2;split at h2<;>cases h2
  have ha:vs[i]?=some v:=by
   unfold start at h2;rw[w5 (by simpa using hi),iW]at h2;cases e:vs[i]? with
   |none=>rw[e]at h2;cases h2
   |some a=>rw[e]at h2;cases h2;rfl
  obtain⟨u,hu,rv⟩:=r.get ha;have hp:ps[i]?=some y:=by
   rw[<-S.pre,Tf (by omega)];exact h1
  have ndP:ps.Nodup:=by rw[<-S.pre];exact S.nd.sublist (Oe _ _)
  refine⟨u,rv,?_⟩;rcases S.par y (jA hp)with k|k
  ·exact .inl ⟨k,Ma ndP hp hu k⟩
  ·obtain⟨c,e⟩:=QV (n:=s.heap.objs.size+1) k;refine .inr ⟨.inl k,c,e,?_⟩;have q:=x.cell y c e;rw[Mf ndP hp hu (by show scope.names.lookup y≠_;rw[k];decide)]at q;exact q
 ·exact e0.hok.fresh (dH (x.above y c (Ea h)))
 ·unfold start;show _=N.length;rw[bW,aN,List.length_replicate];omega
def a1B{CX:Vc}{P:Program}{w:World}{f:Addr}{name qual:Str}{params:Arguments}{scope:Scope}{dV kV doc pm cZ ct oc:Value}{an od:Option Addr}
  {osl:Array (Option Value)}{ps:List Str}{sp:Sp} (lk:K.lookup f=some ⟨oc,od,.func (PySem.W.fnOf name qual params body scope dV kV doc pm an cZ ct),osl⟩) (hcd:PySem.W.codeIn K cZ qual=true) (S:bD N ps scope)
  (len:∀vs H Q E,sp vs H Q E->vs.length=ps.length)
  (hbody:∀(A:Around) (outer:List Env) (s:Shared) (H:Hp) (vs:List V) (Q:VK) (E:XK),sV k (A.deeper (envOfC qual scope s.heap.objs.size f cZ))->sp vs H Q E->
   ∃t,S7 (Vf CX P w K mg base N qual scope f cZ A outer s H E) body t/\t { nx:=λ_ H'=>Q .non H',rt:=Q} (start N vs) H) :
  bh P w K mg base CX (k+1) f (PySem.W.fnOf name qual params body scope dV kV doc pm an cZ ct) ps sp:=by
 refine⟨len,λA outer s H args us vs Q E hr e0 hb r hsp=>?_⟩;have hl:=len _ _ _ _ hsp;have KX:K.In s.heap:=e0.mod.kin.keeps λb o e=>(e0.bs b o e).1;have lim:s.heap.NoLimit:=e0.mod.nolimit.keeps λb o e=>(e0.bs b o e).1;have hkind:∀y∈ps.zip us,scope.names.lookup y.1=some .local\/(scope.names.lookup y.1=some .cell/\((cellsFrom (s.heap.objs.size+1) scope.names []).lookup y.1).isSome=true):=λ⟨n,v⟩ hy=>by
  rcases S.par n (Uk hy).1 with q|q
  ·exact .inl q
  ·exact .inr ⟨q,PySem.W.cellsFrom_some _ _ _ (.inl q)⟩
 refine codeAny_call_function hr.depth (KX _ _ lk) Z S.co S.gen Z (PySem.W.codeRec_of KX hcd) (hb _ _ _ _ (wpAny_newFunctionEnv_cells S.kind hkind λenv he s1 x=>?_));subst he;refine⟨lim.keeps x.toInCall.keep,codeAny_func ?_⟩;obtain⟨t,ht,hq⟩:=hbody A outer s H vs Q E (hr.deeper _) hsp;have I:bH (Vf CX P w K mg base N qual scope f cZ A outer s H E) [] (start N vs) H s1:=YD S hr.hd e0 hl r x;refine iI (ht [] s1 (start N vs) H _ I hq) (λfl s' hs=>?_) λe s' hs=>hs;have fin:∀{σ':St}{H':Hp}{v:V}{u:Value},bH (Vf CX P w K mg base N qual scope f cZ A outer s H E) [] σ' H' s'->cP v u->Q v H'->CE outer P w H s Q u s' :=
  λ{σ' H' v u} Z97 rv q=>⟨v,H',Z97.os,Z97.bare,Z97.base,Z97.hok,rv,q⟩
 cases fl with
 |ret u =>
  obtain⟨v,σ',H',Z97,rv,q⟩:=hs;exact fin Z97 rv q
 |next =>
  obtain⟨σ',H',Z97,q⟩:=hs;exact fin (v:=V.non) (u:=Value.none) Z97 Z q
 |brk =>
  obtain⟨_,_,_,q⟩:=hs;exact False.elim q
 |cont =>
  obtain⟨_,_,_,q⟩:=hs;exact False.elim q
section
variable{X:Cx}{x:Str}{t:TA}{id T:String}{r:List V->Hp->VK->Prop}
def tCB(r:List V->Hp->VK->Prop)(t:TA):TE:=λσ H Q=>t σ H λvs H1=>r vs H1 Q
def bK(hc:jN X (.builtin id) r)(hg:Gl X x)(hm:X.mg x=none)(hv:bootBuiltins x=some (.builtin id))(ha:PA X (e::es) t)(hn:x≠ "__name__" := by decide)(hdb:(x==("__debug__" : Str))=false:=by decide)
  (he:starEach (e::es) X.env=(false,eval e X.env)::starEach es X.env:=by rfl) (hpl:(backTo pos (starEach es X.env)).any (·.1)=false:=by rfl):PE X (.Call (.Name x p) (e::es) [] pos) (tCB r t):=by
 intro Y s σ H Q I h;exact xG (v5 I hg hm hv (PyProof.Rows.callWith_builtin1 (jK (ha pos Y s σ H _ I h) λus s1 ⟨vs,H1,I1,r1,q1⟩=>hc Y s1 σ H1 vs us Q I1 r1 q1) he hpl) hn hdb)
def iC(hc:jN X (.type T) r)(hg:Gl X x)(hm:X.mg x=none)(hv:bootBuiltins x=some (.type T))(ha:PA X (e::es) t)(hn:x≠ "__name__" := by decide)(hdb:(x==("__debug__" : Str))=false:=by decide)
  (he:starEach (e::es) X.env=(false,eval e X.env)::starEach es X.env:=by rfl) (hpl:(backTo pos (starEach es X.env)).any (·.1)=false:=by rfl):PE X (.Call (.Name x p) (e::es) [] pos) (tCB r t):=by
 intro Y s σ H Q I h;exact xG (v5 I hg hm hv (zP (jK (ha pos Y s σ H _ I h) λus s1 ⟨vs,H1,I1,r1,q1⟩=>hc Y s1 σ H1 vs us Q I1 r1 q1) he hpl) hn hdb)
end
end L2
namespace HT
open PyProof.Rows
section
variable{prog:Program}{w:World}{A:Around}{E:Value->Shared->Prop}{s:Shared}
def Μ{t b:Addr}{vs ws:List Value}{Q:Value->Shared->Prop}(ht:IsTup s.heap t vs.toArray)(hb:IsTup s.heap b ws.toArray)(hv:vs≠[])
  (h1:ws=[]->Q (.ref t) s) (h2:ws≠[]->Q (.ref s.heap.objs.size) { s with heap:=s.heap.push { cls:=.type "tuple",data:=.seq (vs++ws).toArray}})
  (hsz:vs.length+ws.length<=sizeLine):wpAny (model prog w) A (binaryOp .Add (.ref t) (.ref b)) Q E s:=by
 obtain⟨⟨cls,dd,data,sl⟩,ho,hc,n,hd⟩:=id ht;obtain⟨⟨cls2,dd2,data2,sl2⟩,ho2,hc2,n2,hd2⟩:=id hb;simp only at hc hd hc2 hd2;subst hc hd hc2 hd2;have e:vs.toArray++ws.toArray=(vs++ws).toArray:=by simp
 by_cases hw:ws=[]
 ·exact concat_meets ⟨_,ho,Z⟩ ⟨_,ho2,Z⟩ Ue Uu Tv Tn (Tg _ _)
   (tuple_addW1 t b vs.toArray ws.toArray n n2 dd dd2 sl sl2 (by simpa using hv) (by simp[hw])) ⟨ho,ho2,h1 hw⟩
 ·refine concat_meets ⟨_,ho,Z⟩ ⟨_,ho2,Z⟩ Ue Uu Tv Tn (Tg _ _)
   (tuple_addW2 t b vs.toArray ws.toArray n n2 dd dd2 sl sl2 (by simpa using hv) (by simpa using hw) (by rw[iG,iG];exact hsz)) ⟨ho,ho2,?_⟩
  rw[e];exact h2 hw
def kZ(n d:Nat):Option Int->Nat
 |none=>d
 |some v=>if v<0 then(v+(n:Int)).toNat else min v.toNat n
def QX(n d:Nat):kZ n d none=d:=rfl
def Pa(n d k:Nat):kZ n d (some (k:Int))=min k n:=by
 show(if(k:Int)<0 then((k:Int)+(n:Int)).toNat else min (k:Int).toNat n)=min k n;rw[aB (by omega),jO]
def a2j(n d:Nat)(hd:d<=n)(o:Option Int):kZ n d o<=n:=by
 cases o with
 |none=>exact hd
 |some v =>
  show(if v<0 then(v+(n:Int)).toNat else min v.toNat n)<=n;by_cases hv:v<0
  ·rw[aG hv];omega
  ·rw[aB hv];exact Ug _ _
def WW(v:Int)(n d:Nat):(if v<0 then max (v+(n:Int)) 0 else min v (n:Int))=((kZ n d (some v):Nat):Int):=by
 show(if v<0 then max (v+(n:Int)) 0 else min v (n:Int))=(((if v<0 then(v+(n:Int)).toNat else min v.toNat n):Nat):Int);by_cases hv:v<0
 ·simp only[if_pos hv];omega
 ·simp only[if_neg hv];omega
def Vg(lo hi:Option Int)(n:Nat):Builtin.Slice.sliceAdjust lo hi 1 (n:Int)=(((kZ n 0 lo:Nat):Int),((kZ n n hi:Nat):Int)):=by
 have h1:¬((1:Int)<0):=by omega
 unfold Builtin.Slice.sliceAdjust;simp only[h1,if_false];refine Prod.ext ?_ ?_
 ·cases lo with
  |none=>rfl
  |some v=>exact WW v n 0
 ·cases hi with
  |none=>rfl
  |some v=>exact WW v n n
def Vh(i j:Nat):Builtin.Slice.slicePlaces (i:Int) (j:Int) 1=j-i:=by
 unfold Builtin.Slice.slicePlaces;have h1:(1:Int)>0:=by omega
 simp only[h1,if_true,Int.ediv_one];split<;>omega
def Jq{v:Value}{o:Option Int}{Q:Option Int->Shared->Prop}(p:IsPart v o)(h:Q o s):wpAny (model prog w) A (Builtin.Slice.slicePartIndex v) Q E s:=by
 cases p with
 |none=>exact slicePart_none h
 |int i t=>exact slicePart_int h
def vq{sl:Addr}{vl vu:Value}{lo hi:Option Int}{n:Nat}{Q:Int×Int×Nat->Shared->Prop}(hs:s.heap.IsSliceOf sl vl vu .none)(pl:IsPart vl lo)(pu:IsPart vu hi)
  (h:Q (((kZ n 0 lo:Nat):Int),1,kZ n n hi-kZ n 0 lo) s):wpAny (model prog w) A (Builtin.Slice.sliceApplied (.ref sl) (pure (n:Int))) Q E s:=by
 obtain⟨os,hos,hcs,hds⟩:=id hs;unfold Builtin.Slice.sliceApplied Builtin.Slice.sliceFields;refine M (M (gq hos hds (x:=vl) Z (M (gq hos hds (x:=vu) Z (M (gq hos hds (x:=.none) Z (ao (M (slicePart_none ?_)))))))));show wpAny _ _ (if((1:Int)==0)=true then _ else _) _ _ s;rw[aB (by decide)];refine M (Jq pl (M (Jq pu (M (ao ?_)))));show wpAny _ _ (match Builtin.Slice.sliceAdjust lo hi 1 (n:Int)with|(lo,hi)=>pure (lo,(1:Int),Builtin.Slice.slicePlaces lo hi 1)) _ _ s;rw[Vg lo hi n];show wpAny _ _ (pure (((kZ n 0 lo:Nat):Int),(1:Int),Builtin.Slice.slicePlaces ((kZ n 0 lo:Nat):Int) ((kZ n n hi:Nat):Int) 1)) _ _ s;rw[Vh];exact ao h
def ç(xs:Array Value)(i k:Nat):((List.range k).filterMap λ(m:Nat)=>xs[((i:Int)+(m:Int)*1).toNat]?).toArray=((xs.toList.drop i).take k).toArray:=by
 have e:(λ(m:Nat)=>xs[((i:Int)+(m:Int)*1).toNat]?)=λm=>xs[i+m]?:=by
  funext m;have:((i:Int)+(m:Int)*1).toNat=i+m:=by omega
  rw[this]
 rw[e];have:=pick_run xs i k;rw[T9]at this;have e2:((λx=>xs[x]?)∘λx=>i+x)=λm=>xs[i+m]?:=rfl;rw[e2]at this;rw[this]
def Cd{t sl:Addr}{items:Array Value}{vl vu:Value}{lo hi:Option Int}{Q:Value->Shared->Prop}(ht:IsTup s.heap t items)(hs:s.heap.IsSliceOf sl vl vu .none)(pl:IsPart vl lo)(pu:IsPart vu hi)
  (hw:¬(kZ items.size 0 lo=0/\kZ items.size items.size hi=items.size))
  (h:Q (.ref s.heap.objs.size) { s with heap:=s.heap.push { cls:=.type "tuple",data:=.seq ((items.toList.drop (kZ items.size 0 lo)).take (kZ items.size items.size hi-kZ items.size 0 lo)).toArray}})
  (hsz:items.size<=sizeLine):wpAny (model prog w) A (getItem (.ref t) (.ref sl)) Q E s:=by
 have WX:sizeOk (.seq ((items.toList.drop (kZ items.size 0 lo)).take (kZ items.size items.size hi-kZ items.size 0 lo)).toArray):=by
  show((items.toList.drop (kZ items.size 0 lo)).take (kZ items.size items.size hi-kZ items.size 0 lo)).toArray.size<=sizeLine;rw[iG,dZ,kW,vW];omega
 have hj:kZ items.size items.size hi<=items.size:=a2j _ _ (aO _) hi;obtain⟨os,hos,hcs,hds⟩:=id hs;have hTs:s.TypeIs (.ref sl) "slice" :=⟨os,hos,hcs⟩;unfold getItem;try with_reducible refine ig ?_
 first|refine M (ao ?_)|skip
 refine M (wpAny_sequenceKey ht.typeIs (by decide) ?_);refine M (oG (name:=Str.ofString "__getitem__") ht.typeIs Nv
  (gP Nv ht.typeIs entry_tuple_getitem ?_ (args_tuple_getitem _ _)))
 show wpAny _ _ (Builtin.Tuple.tupleItemsOf (.ref t) >>= _) _ _ s;refine M (tupleItemsOf_ ht (M (vZ hTs ?_)));rw[aG (by decide)];refine M (vq hs pl pu ?_);have hno:¬((((kZ items.size 0 lo:Nat):Int)==0&&(1:Int)==1&&(kZ items.size items.size hi-kZ items.size 0 lo)==items.size)=true):=by
  intro q;rw[oH,oH]at q;have q1:((kZ items.size 0 lo:Nat):Int)=0:=eq_of_beq q.1.1;have q2:kZ items.size items.size hi-kZ items.size 0 lo=items.size:=eq_of_beq q.2;exact hw ⟨by omega,by omega⟩
 show wpAny _ _ (if(((kZ items.size 0 lo:Nat):Int)==0&&(1:Int)==1&&(kZ items.size items.size hi-kZ items.size 0 lo)==items.size)=true then _ else _) _ _ s;rw[aB hno,ç];first
  |exact M (m:=Builtin.Tuple.tupleExact _) (jU (ao ⟨_,Z,ao h⟩) WX)
  |exact M (m:=Builtin.Tuple.tupleExact _) (jU (M (ao (ao ⟨_,Z,ao h⟩))) WX)
  |exact M (M (m:=Builtin.Tuple.tupleExact _) (jU (ao (ao ⟨_,Z,ao h⟩)) WX))
  |exact M (M (m:=Builtin.Tuple.tupleExact _) (jU (ao ⟨_,Z,ao h⟩) WX))
end
end HT
namespace L2
open PyProof.Rows
variable{X:Cx}{s:Shared}{n:Nat}{α:Type}{Y:List (Addr×Obj)}{σ:St}{cg:List Value}
abbrev TO:=St->Hp->(Option Int->Hp->Prop)->Prop
def PO(X:Cx)(e:Option Expr)(t:TO):Prop :=
 ∀(Y:List (Addr×Obj)) (s:Shared) (σ:St) (H:Hp) (Q:Option Int->Hp->Prop),bH X Y σ H s->t σ H Q->
  wpAny (model X.prog X.w) X.A (evalPart e X.env) (λu s'=>∃o H',bH X Y σ H' s'/\IsPart u o/\Q o H') X.xe s
def Ν:TO:=λ_ H Q=>Q none H
def a4h(t:TE):TO:=λσ H Q=>t σ H λx H1=>EA (λi=>x=.int i) λi=>Q (some i) H1
section
variable{e:Expr}{te:TE}{lo hi:Option Expr}{tl th:TO}{pos p2:Pos}
def lQ:PO X none Ν:=by
 intro Y s σ H Q I h;rw[evalPart_none];exact ao ⟨none,H,I,.none,h⟩
def lR(h:PE X e te):PO X (some e) (a4h te):=by
 intro Y s σ H Q I hw;rw[evalPart_some];refine jK (h Y s σ H _ I hw) λu s1 ⟨x,H1,I1,r1,q1⟩=>?_;obtain⟨i,rfl,q⟩:=q1;obtain⟨t,rfl⟩:=r1;exact⟨some i,H1,I1,.int i t,q⟩
def SlR(X:Cx)(r:V->Option Int->Option Int->Hp->VK->Prop):Prop :=
 ∀(Y:List (Addr×Obj)) (s:Shared) (σ:St) (H:Hp) (x:V) (v vl vu:Value) (lo hi:Option Int) (sl:Addr) (Q:VK),bH X Y σ H s->cP x v->s.heap.IsSliceOf sl vl vu .none->IsPart vl lo->IsPart vu hi->r x lo hi H Q->
  ∃T id,typeLookup (.type T) "__getitem__" = pure (some (.builtin id))/\s.TypeIs v T/\wpAny (model X.prog X.w) X.A (getItem v (.ref sl)) (EP X Y σ Q) X.xe s
def tSl(r:V->Option Int->Option Int->Hp->VK->Prop)(te:TE)(tl th:TO):TE:=λσ H Q=>te σ H λx H1=>tl σ H1 λl H2=>th σ H2 λu H3=>r x l u H3 Q
def jG{r:V->Option Int->Option Int->Hp->VK->Prop}(hr:SlR X r)(he:PE X e te)(hl:PO X lo tl)(hu:PO X hi th):PE X (.Subscript e (.Slice lo hi none p2) pos) (tSl r te tl th):=by
 intro Y s σ H Q I h;refine Subscript_ (jK (he Y s σ H _ I h) λv s1 ⟨x,H1,I1,r1,q1⟩=>wpAny_Slice (jK (hl Y s1 σ H1 _ I1 q1) λvl s2 ⟨l,H2,I2,pl,q2⟩=>jK (hu Y s2 σ H2 _ I2 q2) λvu s3 ⟨u,H3,I3,pu,q3⟩=>?_));rw[evalPart_none];refine ao ?_;have I4:bH X Y σ H3 { s3 with heap:=s3.heap.push { cls:=.type "slice",data:=.fields #[vl,vu,.none]}}:=I3.kept (t':=s3.toks) λb ob q=>bL _ q;obtain⟨T,id,hT,ht,hg⟩:=hr Y { s3 with heap:=s3.heap.push { cls:=.type "slice",data:=.fields #[vl,vu,.none]}} σ H3 x v vl vu l u s3.heap.objs.size Q I4 r1 (Heap.IsSliceOf.new ..) pl pu q3;show wpAny (model X.prog X.w) X.A (subscriptTail e (.Slice lo hi none p2) v (.ref s3.heap.objs.size)) (EP X Y σ Q) X.xe { s3 with heap:=s3.heap.push { cls:=.type "slice",data:=.fields #[vl,vu,.none]}};exact tail_any (ops:=[.ref s3.heap.objs.size,v]) ht hT hg (by with_unfolding_all rfl)
def uV(xs:List V)(lo hi:Option Int):List V:=(xs.drop (HT.kZ xs.length 0 lo)).take (HT.kZ xs.length xs.length hi-HT.kZ xs.length 0 lo)
def Gd(xs:List V)(lo hi:Option Int):(uV xs lo hi).length<=xs.length:=by
 unfold uV;rw[dZ,kW];omega
inductive a5Q(K:aK)(x:V)(lo:Option Int)(hi:Option Int)(H:Hp)(Q:VK):Prop
 |mk (a xs:_) (_:x=.ref a) (_:cG K H a xs) (_:¬(HT.kZ xs.length 0 lo=0/\HT.kZ xs.length xs.length hi=xs.length)) (_:∀p,H p=none->Q (.ref p) (cO H p (.tup (uV xs lo hi))))
def è:SlR X (a5Q X.K):=by
 intro Y s σ H x v vl vu lo hi sl Q I rx hs pl pu h;obtain⟨a,xs,rfl,hx,hw,q⟩:=h;cases rx;obtain⟨cg,r,ht,hz⟩:=I.tuple hx;have hlen:cg.toArray.size=xs.length:=by rw[iG];exact r.length.symm
 refine⟨"tuple",_,PyProof.Rows.slot_tuple_getitem.lookup,ht.typeIs,?_⟩;refine HT.Cd ht hs pl pu (by rw[hlen];exact hw) ?_ (by rw[hlen];exact hz);rw[hlen];exact⟨.ref s.heap.objs.size,_,I.laid (t':=s.toks) (o:=.tup (uV xs lo hi)) (λb ob q=>bL _ q) (aO _) ⟨cW (Gd xs lo hi) hz,_,(r.drop (HT.kZ xs.length 0 lo)).take (HT.kZ xs.length xs.length hi-HT.kZ xs.length 0 lo),IsTup.new _ _⟩,Z,q _ (I.hok.fresh (aO _))⟩
inductive a4i(K:aK)(x:V)(y:V)(H:Hp)(Q:VK):Prop
 |mk (a b xs ys:_) (_:x=.ref a) (_:y=.ref b) (_:cG K H a xs) (_:cG K H b ys) (_:xs≠[]) (_:xs.length+ys.length<=sizeLine) (_:(ys=[]->Q (.ref a) H)) (_:(ys≠[]->∀p,H p=none->Q (.ref p) (cO H p (.tup (xs++ys)))))
def cM.HB{xs:List V}{us:List Value}(r:cM xs us):us=[]↔xs=[]:=by
 cases r with
 |nil=>simp
 |cons _ _=>simp
def Ξ:uE X (binaryOp .Add) (a4i X.K):=by
 intro Y s σ H x y v u Q I rx ry h;obtain⟨a,b,xs,ys,rfl,rfl,ha,hb,hx,hz,q1,q2⟩:=h;cases rx;cases ry;obtain⟨cg,r1,p1,_⟩:=I.tuple ha;obtain⟨its2,r2,p2,_⟩:=I.tuple hb;refine HT.Μ p1 p2 (λz=>hx (r1.HB.mp z)) (λz=>⟨.ref a,H,I,Z,q1 (r2.HB.mp z)⟩) (λz=>?_) (by rw[<-r1.length,<-r2.length];exact hz);refine⟨.ref s.heap.objs.size,_,I.laid (t':=s.toks) (o:=.tup (xs++ys)) (λb ob q=>bL _ q) (aO _) ?_,Z,q2 (λw=>z (r2.HB.mpr w)) _ (I.hok.fresh (aO _))⟩;exact⟨by rw[bW];exact hz,_,r1.append r2,IsTup.new _ _⟩
end
def Ū(n:Nat)(i:Int):Option Nat:=if 0<=i then(if i<n then some i.toNat else none)else if -(n:Int)<=i then some (i+n).toNat else none
def S8{α:Type}(xs:List α)(i:Int):Option α:=(Ū xs.length i).bind λj=>xs[j]?
def WY{i:Int}{j:Nat}(h:Ū n i=some j):seqIndex? i n=some j/\j<n/\ -(n:Int)<=i/\i<n:=by
 unfold Ū at h;by_cases h0:0<=i
 ·rw[aG h0]at h;by_cases h1:i<n
  ·rw[aG h1]at h;have e:i.toNat=j:=gh h;exact⟨by rw[seqIndex_of h0 h1,e],by omega,by omega,h1⟩
  ·rw[aB h1]at h;cases h
 ·rw[aB h0]at h;by_cases h1 : -(n:Int)<=i
  ·rw[aG h1]at h;have e:(i+n).toNat=j:=gh h;exact⟨by rw[seqIndex_neg (by omega) h1,e],by omega,h1,by omega⟩
  ·rw[aB h1]at h;cases h
def Pb{xs:List α}{i:Int}{v:α}(h:S8 xs i=some v):∃j,seqIndex? i xs.length=some j/\xs[j]?=some v/\j<xs.length/\ -(xs.length:Int)<=i/\i<xs.length:=by
 unfold S8 at h;cases e:Ū xs.length i with
 |none=>rw[e]at h;cases h
 |some j =>
  rw[e]at h;obtain⟨h1,h2,h3,h4⟩:=WY e;exact⟨j,h1,h,h2,h3,h4⟩
def eV{xs:List α}{j:Nat}{v:α}(h:xs[j]?=some v):S8 xs (j:Int)=some v:=by
 have hj:j<xs.length:=(fG.mp h).1;have e:Ū xs.length (j:Int)=some j:=by
  unfold Ū;rw[aG (by omega),aG (by omega)];simp
 unfold S8;rw[e];exact h
def Ο(b:Expr):Prop:=∀o i,subscripted b false o i=operate [o,i] (getItem o i)
def IxR(X:Cx)(r:R2):Prop :=
 ∀(value slice:Expr) (Y:List (Addr×Obj)) (s:Shared) (σ:St) (H:Hp) (x y:V) (v u:Value) (Q:VK),bH X Y σ H s->cP x v->cP y u->r x y H Q->
  subscripted slice false v u=operate [v,u] (getItem v u)->wpAny (model X.prog X.w) X.A (subscriptTail value slice v u) (EP X Y σ Q) X.xe s
def MtR(X:Cx)(id:String)(r:V->List V->Hp->VK->Prop):Prop :=
 ∀(Y:List (Addr×Obj)) (s:Shared) (σ:St) (H:Hp) (x:V) (xs:List V) (v:Value) (us:List Value) (Q:VK),bH X Y σ H s->cP x v->cM xs us->r x xs H Q->
  wpAny (model X.prog X.w) X.A (call (.builtin id) (v::us)) (EP X Y σ Q) X.xe s
section
variable{a b:Expr}{ta tb:TE}{pos:Pos}
def aQ{r:R2}(hr:IxR X r)(ha:PE X a ta)(hb:PE X b tb)(hs:Ο b:=by exact λ_ _=>rfl):PE X (.Subscript a b pos) (WM r ta tb):=by
 intro Y s σ H Q I h;exact Subscript_ (a2c ha hb I h λv u s2 x y H2 I2 rx ry q=>hr a b Y s2 σ H2 x y v u Q I2 rx ry q (hs _ _))
inductive a2k(K:aK)(x:V)(y:V)(H:Hp)(Q:VK):Prop
 |mk (p xs i v:_) (_:x=.ref p) (_:y=.int i) (_:bG K H p xs) (_:S8 xs i=some v) (_:Q v H)
inductive ê(K:aK)(x:V)(y:V)(H:Hp)(Q:VK):Prop
 |mk (p xs i v:_) (_:x=.ref p) (_:y=.int i) (_:cG K H p xs) (_:S8 xs i=some v) (_:Q v H)
def Ρ:IxR X (a2k X.K):=by
 intro value slice Y s σ H x y v u Q I rx ry h hs;obtain⟨p,xs,i,z,rfl,rfl,hq,he,q⟩:=h;cases rx;obtain⟨t,rfl⟩:=ry;obtain⟨cg,r,pl,hz⟩:=I.list hq;obtain⟨j,h1,h2,h3,h4,h5⟩:=Pb he;obtain⟨w,ew,YF⟩:=r.get h2;have hl:=r.length;have hn:=Jp;have fin:EP X Y σ Q w s:=⟨z,H,I,YF,q⟩;by_cases h0:0<=i
 ·have hj:i.toNat=j:=by
   rw[seqIndex_of h0 h5]at h1;exact gh h1
  exact item_listR pl.isList h0 (by omega) (by rw[hj];simpa using ew) fin hs
 ·have hj:(i+(cg.toArray.size:Int)).toNat=j:=by
   rw[seqIndex_neg (by omega) h4]at h1;rw[iG,<-hl];exact gh h1
  exact subscriptTail_builtinR (x:=w) pl.isList.typeIs slot_list_getitem.lookup
   (wpAny_getItem_list_neg (Q:=λr s'=>r=w/\EP X Y σ Q r s') pl.isList (by omega) (by rw[iG]<;>omega) (by omega) (by rw[hj];simpa using ew) ⟨Z,fin⟩) hs
def a2l:IxR X (ê X.K):=by
 intro value slice Y s σ H x y v u Q I rx ry h hs;obtain⟨p,xs,i,z,rfl,rfl,hq,he,q⟩:=h;cases rx;obtain⟨t,rfl⟩:=ry;obtain⟨cg,r,pl,hz⟩:=I.tuple hq;obtain⟨j,h1,h2,h3,h4,h5⟩:=Pb he;obtain⟨w,ew,YF⟩:=r.get h2;have hl:=r.length;have hn:=Jp;have fin:EP X Y σ Q w s:=⟨z,H,I,YF,q⟩;exact subscriptTail_builtinR (x:=w) pl.typeIs slot_tuple_getitem.lookup
  (getItem_tuple (j:=j) (Q:=λr s'=>r=w/\EP X Y σ Q r s') pl (by omega) (by omega) (by rw[iG,<-hl];exact h1) (by simpa using ew) ⟨Z,fin⟩) hs
def Vi(cg:List Value)(n j:Nat)(u:Value):Obj.mapSeq (·.setIfInBounds j u) { cls:=.type "list",data:=.seq cg.toArray n}={ cls:=.type "list",data:=.seq (cg.set j u).toArray n}:=by
 simp[Obj.mapSeq]
def bH.lst{Y:List (Addr×Obj)}{σ:St}{H:Hp}{s:Shared}{p:Addr}{xs:List V}(I:bH X Y σ H s)(h:H p=some (.lst xs)) :
  ∃(cg:List Value) (n:Nat),cM xs cg/\s.heap.get? p=some { cls:=.type "list",data:=.seq cg.toArray n}/\xs.length<=sizeLine:=by
 obtain⟨z,cg,n,r,e⟩:=I.hok p _ h;exact⟨cg,n,r,e,z⟩
def bH.a2m{H:Hp}{p:Addr}{xs ys:List V}{its':List Value}{n':Nat}{f:Obj->Obj}(I:bH X Y σ H s)(h:H p=some (.lst xs))
  (ho:s.heap.get? p=some { cls:=.type "list",data:=.seq cg.toArray n}) (hf:f { cls:=.type "list",data:=.seq cg.toArray n}={ cls:=.type "list",data:=.seq its'.toArray n'}) (r:cM ys its') (hz:ys.length<=sizeLine) (t:Nat) :
  bH X Y σ (cO H p (.lst ys)) { s with heap:=s.heap.update p f,toks:=t}:=by
 have e:(s.heap.update p f).get? p=some { cls:=.type "list",data:=.seq its'.toArray n'}:=by
  rw[zR f ho (by rw[hf]<;>rfl),hf]
 refine I.write (x:=p) (e:=p) (by rw[h];trivial) (.inl Z) (λb u hb q=>(NZ _ _ (Ne.symm hb)).trans q) ⟨_,e⟩ ?_;exact⟨hz,its',n',r,e⟩
inductive a4j(o:V)(i:V)(v:V)(H:Hp)(Q:Hp->Prop):Prop
 |mk (p xs k j:_) (_:o=.ref p) (_:i=.int k) (_:H p=some (.lst xs)) (_:Ū xs.length k=some j) (_:Q (cO H p (.lst (xs.set j v))))
def set_list:Β X a4j:=by
 intro Y s σ H o i v ov iv u Q I ro ri rv h;obtain⟨p,xs,k,j,rfl,rfl,hp,hj,q⟩:=h;cases ro;obtain⟨t,rfl⟩:=ri;obtain⟨cg,n,r,ho,hz⟩:=I.lst hp;obtain⟨h1,h2,h3,h4⟩:=WY hj;have hl:=r.length;have hn:=Jp;have I':bH X Y σ (cO H p (.lst (xs.set j v))) { s with heap:=s.heap.update p (Obj.mapSeq (·.setIfInBounds j u))} :=
  I.a2m hp ho (Vi cg n j u) (r.set rv j) (by rw[List.length_set];exact hz) s.toks
 by_cases h0:0<=k
 ·have hk:k.toNat=j:=by
   rw[seqIndex_of h0 h4]at h1;exact gh h1
  exact PySem.W.ki_setAt ho h0 (by omega) (by rw[iG,<-hl];exact h4) (by rw[hk];exact⟨_,I',q⟩)
 ·have hk:(k+(cg.toArray.size:Int)).toNat=j:=by
   rw[seqIndex_neg (by omega) h3]at h1;rw[iG,<-hl];exact gh h1
  exact PySem.W.ki_setBack ho (by omega) (by rw[iG,<-hl];exact h3) (by omega) (by rw[hk];exact⟨_,I',q⟩)
def Pg(lo hi:Option Int)(n:Nat):(sliceBounds lo hi none n).1=((HT.kZ n 0 lo:Nat):Int)/\(sliceBounds lo hi none n).2.1=((HT.kZ n n hi:Nat):Int)/\(sliceBounds lo hi none n).2.2=1:=by
 refine⟨?_,?_,Z⟩
 ·cases lo with
  |none=>simp[sliceBounds,HT.kZ]
  |some i =>
   simp only[sliceBounds,HT.kZ,Option.getD_none,show(1:Int)>0 by decide,if_true];by_cases h:i<0
   ·simp only[h,if_true]<;>omega
   ·simp only[h,if_false]<;>omega
 ·cases hi with
  |none=>simp[sliceBounds,HT.kZ]
  |some i =>
   simp only[sliceBounds,HT.kZ,Option.getD_none,show(1:Int)>0 by decide,if_true];by_cases h:i<0
   ·simp only[h,if_true]<;>omega
   ·simp only[h,if_false]<;>omega
def K6(cg:List Value)(lo hi:Option Int):slicePick cg.toArray lo hi none=((cg.drop (HT.kZ cg.length 0 lo)).take (HT.kZ cg.length cg.length hi-HT.kZ cg.length 0 lo)).toArray:=by
 obtain⟨h1,h2,h3⟩:=Pg lo hi cg.toArray.size;unfold slicePick;rw[h1,h2,h3];simp only[sliceRange_one,pick_run,List.size_toArray]<;>rfl
inductive a5R(K:aK)(x:V)(lo:Option Int)(hi:Option Int)(H:Hp)(Q:VK):Prop
 |mk (a xs:_) (_:x=.ref a) (_:bG K H a xs) (_:∀p,H p=none->Q (.ref p) (cO H p (.lst (uV xs lo hi))))
def Τ:SlR X (a5R X.K):=by
 intro Y s σ H x v vl vu lo hi sl Q I rx hs pl pu h;obtain⟨a,xs,rfl,hx,q⟩:=h;cases rx;obtain⟨cg,r,ht,hz⟩:=I.list hx;have hlen:=r.length;refine⟨"list",_,slot_list_getitem.lookup,ht.isList.typeIs,?_⟩;refine wpAny_getItem_list_slice ht.isList hs pl pu .none (by simp) ?_ (by rw[iG]<;>omega);rw[K6,<-hlen];exact⟨.ref s.heap.objs.size,_,I.laid (t':=s.toks) (o:=.lst (uV xs lo hi)) (λb ob q=>bL _ q) (aO _) ⟨cW (Gd xs lo hi) hz,_,0,(r.drop (HT.kZ xs.length 0 lo)).take (HT.kZ xs.length xs.length hi-HT.kZ xs.length 0 lo),bZ _ Z⟩,Z,q _ (I.hok.fresh (aO _))⟩
def Ce:V->Bool
 |.non=>true
 |.bl _=>true
 |.int _=>true
 |.str _=>true
 |_=>false
def ë:V->V->Bool
 |.non,.non=>true
 |.bl a,.bl b=>a==b
 |.bl a,.int b=>(if a then 1 else 0)==b
 |.int a,.bl b=>a==(if b then 1 else 0)
 |.int a,.int b=>a==b
 |.str a,.str b=>a==b
 |_,_=>false
def a2n{A:Around}{y x:V}{u v:Value}(ry:cP y u)(rx:cP x v)(fy:Ce y=true)(fx:Ce x=true):SeqAt.EqAt A s u v (ë y x):=by
 cases y with
 |non =>
  cases ry;cases x with
  |non=>cases rx;exact SeqAt.EqAt.same _
  |bl b=>cases rx;exact SeqAt.EqAt.none_bool b
  |int b=>obtain⟨t,rfl⟩:=rx;exact SeqAt.EqAt.none_int b t
  |str b=>obtain⟨t,rfl⟩:=rx;exact SeqAt.EqAt.none_str b t
  |_=>exact absurd (show false=true from fx) dw
 |bl a =>
  cases ry;cases x with
  |non=>cases rx;exact SeqAt.EqAt.bool_none a
  |bl b=>cases rx;exact SeqAt.EqAt.bool_bool a b
  |int b=>obtain⟨t,rfl⟩:=rx;exact SeqAt.EqAt.bool_int a b t
  |str b=>obtain⟨t,rfl⟩:=rx;exact SeqAt.EqAt.bool_str a b t
  |_=>exact absurd (show false=true from fx) dw
 |int a =>
  obtain⟨t',rfl⟩:=ry;cases x with
  |non=>cases rx;exact SeqAt.EqAt.int_none a t'
  |bl b=>cases rx;exact SeqAt.EqAt.int_bool a t' b
  |int b=>obtain⟨t,rfl⟩:=rx;exact SeqAt.EqAt.int_int a t' b t
  |str b=>obtain⟨t,rfl⟩:=rx;exact SeqAt.EqAt.int_str a t' b t
  |_=>exact absurd (show false=true from fx) dw
 |str a =>
  obtain⟨t',rfl⟩:=ry;cases x with
  |non=>cases rx;exact SeqAt.EqAt.str_none a t'
  |bl b=>cases rx;exact SeqAt.EqAt.str_bool a t' b
  |int b=>obtain⟨t,rfl⟩:=rx;exact SeqAt.EqAt.str_int a t' b t
  |str b=>obtain⟨t,rfl⟩:=rx;exact SeqAt.EqAt.str_str a t' b t
  |_=>exact absurd (show false=true from fx) dw
 |_=>exact absurd (show false=true from fy) dw
def Vj(x:V)(u:Value):Bool:=match u with
 |.none=>ë .non x
 |.bool b=>ë (.bl b) x
 |.int i _=>ë (.int i) x
 |.str z _=>ë (.str z) x
 |_=>false
def ì{x y:V}{u:Value}(r:cP y u)(f:Ce y=true):Vj x u=ë y x:=by
 cases y with
 |non=>cases r;rfl
 |bl b=>cases r;rfl
 |int i=>obtain⟨t,rfl⟩:=r;rfl
 |str z=>obtain⟨t,rfl⟩:=r;rfl
 |_=>exact absurd (show false=true from f) dw
def Cg{x:V}:∀{xs:List V}{us:List Value},cM xs us->xs.all Ce=true->us.any (Vj x)=xs.any λy=>ë y x
 |_,_,.nil,_=>rfl
 |y::xs,u::us,.cons r t,f=>by
  rw[List.all_cons,oH]at f
  rw[tR,tR,ì r f.1,Cg t f.2]
def xW{A:Around}{s:Shared}{x:V}{v:Value}(rx:cP x v)(fx:Ce x=true):∀{xs:List V}{us:List Value},cM xs us->xs.all Ce=true->∀u∈us,SeqAt.EqAt A s u v (Vj x u)
 |_,_,.nil,_=>λu hu=>by cases hu
 |y::xs,u::us,.cons r t,f=>λu' hu=>by
  rw[List.all_cons,oH]at f
  rcases cH.mp hu with rfl|hu
  ·rw[ì r f.1];exact a2n r rx f.1 fx
  ·exact xW rx fx t f.2 u' hu
def inV(x:V)(xs:List V):Bool:=xs.any λy=>ë y x
inductive rIn(K:aK)(neg:Bool)(x:V)(y:V)(H:Hp)(Q:VK):Prop
 |mk (p xs:_) (_:y=.ref p) (_:(bG K H p xs\/cG K H p xs)) (_:Ce x=true) (_:xs.all Ce=true) (_:Q (.bl (if neg then !inV x xs else inV x xs)) H)
def YG:uE X (compareOp .In) (rIn X.K false):=by
 intro Y s σ H x y v u Q I rx ry h;obtain⟨p,xs,rfl,hq,fx,fs,q⟩:=h;cases ry;rcases hq with hq|hq
 ·obtain⟨cg,r,pl,hz⟩:=I.list hq;refine SeqAt.in_listAt (Vj x) pl.isList (λw hw=>xW rx fx r fs w (by simpa using hw)) ⟨.bl _,H,I,Z,?_⟩;rw[show cg.toArray.any (Vj x)=cg.any (Vj x) by simp,Cg r fs];exact q
 ·obtain⟨cg,r,pl,hz⟩:=I.tuple hq;refine SeqAt.in_tupleAt (Vj x) pl (λw hw=>xW rx fx r fs w (by simpa using hw)) ⟨.bl _,H,I,Z,?_⟩;rw[show cg.toArray.any (Vj x)=cg.any (Vj x) by simp,Cg r fs];exact q
def Ph:uE X (compareOp .NotIn) (rIn X.K true):=by
 intro Y s σ H x y v u Q I rx ry h;obtain⟨p,xs,rfl,hq,fx,fs,q⟩:=h;cases ry;rcases hq with hq|hq
 ·obtain⟨cg,r,pl,hz⟩:=I.list hq;refine SeqAt.notIn_listAt (Vj x) pl.isList (λw hw=>xW rx fx r fs w (by simpa using hw)) ⟨.bl _,H,I,Z,?_⟩;rw[show cg.toArray.any (Vj x)=cg.any (Vj x) by simp,Cg r fs];exact q
 ·obtain⟨cg,r,pl,hz⟩:=I.tuple hq;refine SeqAt.notIn_tupleAt (Vj x) pl (λw hw=>xW rx fx r fs w (by simpa using hw)) ⟨.bl _,H,I,Z,?_⟩;rw[show cg.toArray.any (Vj x)=cg.any (Vj x) by simp,Cg r fs];exact q
def Pj:jN X (.builtin "len") (λxs H Q=>∃p ys,xs=[.ref p]/\(bG X.K H p ys\/cG X.K H p ys)/\Q (.int ys.length) H):=by
 intro Y s σ H xs us Q I r h;obtain⟨p,ys,rfl,hq,q⟩:=h;obtain⟨u,rfl,rx⟩:=vals1 r;cases rx;have hn:=Jp;rcases hq with hq|hq
 ·obtain⟨cg,r',pl,hz⟩:=I.list hq;have hlen:=r'.length;exact Calls.call_len_list pl.isList (by simp only[List.size_toArray]<;>omega) ⟨.int ys.length,H,I.tok _,⟨s.toks+1,by rw[iG,hlen]⟩,q⟩
 ·obtain⟨cg,r',pl,hz⟩:=I.tuple hq;have hlen:=r'.length;exact len_tuple pl (by simp only[List.size_toArray]<;>omega) ⟨.int ys.length,H,I.tok _,⟨s.toks+1,by rw[iG,hlen]⟩,q⟩
def Pk:jN X (.type "list") (λxs H Q=>∃p ys,xs=[.ref p]/\(bG X.K H p ys\/cG X.K H p ys)/\∀l,H l=none->Q (.ref l) (cO H l (.lst ys))):=by
 intro Y s σ H xs us Q I r h;obtain⟨p,ys,rfl,hq,q⟩:=h;obtain⟨u,rfl,rx⟩:=vals1 r;cases rx;have fin:∀(cg:List Value),cM ys cg->ys.length<=sizeLine->∀(h':Heap) (c':Nat),(∀b o',s.heap.get? b=some o'->h'.get? b=some o')->
   h'.get? s.heap.objs.size=some { cls:=.type "list",dict:=none,data:=.seq cg.toArray c',slots:=#[]}->EP X Y σ Q (.ref s.heap.objs.size) { s with heap:=h'}:=λcg r' hz h' c' kp e =>
  ⟨.ref s.heap.objs.size,_,I.laid (t':=s.toks) kp (aO _) (show fZ X.prog X.w _ h' _ (.lst ys)from⟨hz,cg,c',r',e⟩),Z,q _ (I.hok.fresh (aO _))⟩
 rcases hq with hq|hq
 ·obtain⟨cg,r',pl,hz⟩:=I.list hq;have hlen:=r'.length;obtain⟨o,ho,hc,n,hd⟩:=pl.isList;exact call_list_seq p (.inl Z) ho hc hd (λh' c' kp e=>fin cg r' hz h' c' kp e) (by simp only[List.size_toArray]<;>omega)
 ·obtain⟨cg,r',pl,hz⟩:=I.tuple hq;have hlen:=r'.length;obtain⟨o,ho,hc,n,hd⟩:=pl;exact call_list_seq p (.inr Z) ho hc hd (λh' c' kp e=>fin cg r' hz h' c' kp e) (by simp only[List.size_toArray]<;>omega)
def mO:jN X (.type "tuple") (λxs H Q=>∃p ys,xs=[.ref p]/\((bG X.K H p ys/\∀l,H l=none->Q (.ref l) (cO H l (.tup ys)))\/(cG X.K H p ys/\Q (.ref p) H))):=by
 intro Y s σ H xs us Q I r h;obtain⟨p,ys,rfl,h⟩:=h;obtain⟨u,rfl,rx⟩:=vals1 r;cases rx;rcases h with⟨hq,q⟩|⟨hq,q⟩
 ·obtain⟨cg,r',pl,hz⟩:=I.list hq;have hlen:=r'.length;refine call_tuple_list pl.isList (λh' kp=>?_) (by simp only[List.size_toArray]<;>omega);have I1:bH X Y σ H { s with heap:=h'}:=I.kept (t':=s.toks) kp;have I2:bH X Y σ (cO H h'.objs.size (.tup ys)) { s with heap:=h'.push { cls:=.type "tuple",data:=.seq cg.toArray}} :=
   I1.laid (t':=s.toks) (λb o e=>bL _ e) (aO _) (show fZ X.prog X.w _ _ _ (.tup ys)from⟨hz,cg,r',IsTup.new _ _⟩)
  exact⟨.ref h'.objs.size,_,I2,Z,q _ (I1.hok.fresh (aO _))⟩
 ·obtain⟨cg,r',pl,hz⟩:=I.tuple hq;exact call_tuple_same pl ⟨.ref p,H,I,Z,q⟩
def tyV(K:aK)(T:String)(x:V)(H:Hp):Prop:=match x with
 |.str _=>T = "str"
 |.int _=>T = "int"
 |.ref p=>(T = "list" /\∃xs,bG K H p xs)\/(T = "tuple" /\∃o,K.lookup p=some o/\o.cls=.type "tuple" /\o.dict=none)\/
   (T = "dict" /\((∃O,H p=some (.dK O))\/∃O,H p=some (.dT O)))\/(T = "set" /\∃S n,H p=some (.set S n))
 |_=>False
def í{H:Hp}{T:String}{x:V}{v:Value}(I:bH X Y σ H s)(r:cP x v)(ty:tyV X.K T x H) :
  s.TypeIs v T/\∀a,v=.ref a->∃ob,s.heap.get? a=some ob/\ob.dict=none:=by
 cases x with
 |str z =>
  obtain⟨t,rfl⟩:=r;cases(show T = "str" from ty);exact⟨typeIs_str s z t,λ_ e=>nomatch e⟩
 |int i =>
  obtain⟨t,rfl⟩:=r;cases(show T = "int" from ty);exact⟨typeIs_int s i t,λ_ e=>nomatch e⟩
 |ref p =>
  cases r;rcases ty with⟨rfl,xs,hq⟩|⟨rfl,o,hk,hc,hd⟩|⟨rfl,hk⟩|⟨rfl,S,n,hk⟩
  ·obtain⟨cg,_,pl,_⟩:=I.list hq;refine⟨pl.isList.typeIs,λa e=>?_⟩;cases e;obtain⟨o,n,e,c,hd,_⟩:=pl;exact⟨o,e,hd⟩
  ·refine⟨⟨o,I.DN p o hk,hc⟩,λa e=>?_⟩;cases e;exact⟨o,I.DN _ o hk,hd⟩
  ·have z:∃o,s.heap.get? p=some o/\o.ExactDict:=by
    rcases hk with⟨O,hk⟩|⟨O,hk⟩
    ·obtain⟨_,_,_,_,o,_,_,e,ex,_⟩:=I.hok p _ hk;exact⟨o,e,ex⟩
    ·obtain⟨_,_,_,_,o,_,_,e,ex,_⟩:=I.hok p _ hk;exact⟨o,e,ex⟩
   obtain⟨o,e,ex⟩:=z;refine⟨⟨o,e,ex.1⟩,λa e2=>?_⟩;cases e2;exact⟨o,e,ex.2.1⟩
  ·obtain⟨o,_,_,_,e,ex,_⟩:=I.hok p _ hk;refine⟨⟨o,e,ex.1⟩,λa e2=>?_⟩;cases e2;exact⟨o,e,ex.2.1⟩
 |_=>exact False.elim ty
def a4k(K:aK)(T:String)(r:V->List V->Hp->VK->Prop)(to:TE):TE:=λσ H Q=>to σ H λx H1=>tyV K T x H1/\r x [] H1 Q
def tBM(K:aK)(T:String)(r:V->List V->Hp->VK->Prop)(to:TE)(t:TA):TE:=λσ H Q=>to σ H λx H1=>tyV K T x H1/\t σ H1 λxs H2=>r x xs H2 Q
variable{o e:Expr}{es:List Expr}{to:TE}{t:TA}{name:Str}{apos cpos:Pos}{T id:String}{r:V->List V->Hp->VK->Prop}
def a2o(pa:PlainAttrs T)(slot:Slot T name id)(hty:typeOf (.builtin id)=pure (.type "method_descriptor"))(hm:MtR X id r)(ho:PE X o to)
  (hbase:attributeBase o name X.env (eval o X.env)=eval o X.env:=by rfl) (hline:(apos.endLine==cpos.line)=true:=by rfl):PE X (.Call (.Attribute o name apos) [] [] cpos) (a4k X.K T r to):=by
 intro Y s σ H Q I h;refine wpAny_Call_method0_late hbase hline (jK (ho Y s σ H _ I h) λv s1 ⟨x,H1,I1,r1,ty,q1⟩=>?_);obtain⟨h1,h2⟩:=í I1 r1 ty;exact⟨T,id,pa,slot,hty,h1,h2,Tw Z (PySem.evalArgs_none (hm Y s1 σ H1 x [] v [] Q I1 r1 .nil q1))⟩
def a4l(pa:PlainAttrs T)(slot:Slot T name id)(hty:typeOf (.builtin id)=pure (.type "method_descriptor"))(hm:MtR X id r)(ho:PE X o to)(ha:PA X (e::es) t)
  (hbase:attributeBase o name X.env (eval o X.env)=eval o X.env:=by rfl)
  (hfew:((backTo cpos (starEach (e::es) X.env)).all (λx=>!x.1)&&(backToKw cpos (keywordEach [] X.env)).all (λx=>x.1.isSome)
   && decide ((e::es).length+([]:List Keyword).length+(if([]:List Keyword).isEmpty then 0 else 1)<30))=true:=by rfl)
  (hline:(apos.endLine==cpos.line)=true:=by rfl) (hs:starEach (e::es) X.env=(false,eval e X.env)::starEach es X.env:=by rfl) (hplain:(backTo cpos (starEach es X.env)).any (·.1)=false:=by rfl) :
  PE X (.Call (.Attribute o name apos) (e::es) [] cpos) (tBM X.K T r to t):=by
 intro Y s σ H Q I h;refine wpAny_Call_method_late hbase hfew hline Z (jK (ho Y s σ H _ I h) λv s1 ⟨x,H1,I1,r1,ty,q1⟩=>?_);obtain⟨h1,h2⟩:=í I1 r1 ty;refine⟨T,id,pa,slot,hty,h1,h2,?_⟩;have hA:=ha cpos Y s1 σ H1 _ I1 q1;rw[hs]at hA ⊢;refine Tw (by show(false||(backTo cpos (starEach es X.env)).any (·.1))=false;rw[hplain]<;>rfl) (Calls.evalArgs_plain ?_);exact jK hA λus s2 ⟨vs,H2,I2,r2,q2⟩=>hm Y s2 σ H2 x vs v us Q I2 r1 r2 q2
end
def Å(X:Cx)(id:String)(r:V->List V->Hp->VK->Prop):Prop :=
 ∀(Y:List (Addr×Obj)) (s:Shared) (σ:St) (H:Hp) (x:V) (xs:List V) (v:Value) (us:List Value) (Q:VK),bH X Y σ H s->cP x v->cM xs us->r x xs H Q->
  wpAny (model X.prog X.w) X.A (call (.builtin id) (v::us)) (EP X Y σ Q) X.xe s
def cM.dG:∀{x:V}{us:List Value},cM [x] us->∃u,us=[u]/\cP x u
 |_,_,.cons r .nil=>⟨_,Z,r⟩
def cM.zero:∀{us:List Value},cM [] us->us=[]
 |_,.nil=>rfl
def cM.dropLast{xs:List V}{us:List Value}(h:cM xs us):cM xs.dropLast us.dropLast:=by
 induction h with
 |nil=>exact .nil
 |cons r t ih =>
  cases t with
  |nil=>exact .nil
  |cons q t'=>exact .cons r ih
def Vk(l:List α):l.eraseIdx (l.length-1)=l.dropLast:=by
 induction l with
 |nil=>rfl
 |cons a r ih =>
  cases r with
  |nil=>rfl
  |cons b r =>
   have e:(a::b::r).length-1=((b::r).length-1)+1:=by
    have h1:(a::b::r).length=r.length+2:=rfl;have h2:(b::r).length=r.length+1:=rfl;omega
   rw[e,List.eraseIdx_cons_succ,ih];all_goals rfl
section
variable{H:Hp}{l b:Addr}{xs ys zs:List V}
def bH.a4m{its':List Value}{f:Array Value->Array Value}{t':Nat}(I:bH X Y σ H s)(hH:H l=some (.lst xs))
  (e:s.heap.get? l=some { cls:=.type "list",data:=.seq cg.toArray n}) (hf:f cg.toArray=its'.toArray) (hv:cM ys its') (hz:ys.length<=sizeLine) :
  bH X Y σ (cO H l (.lst ys)) { s with heap:=s.heap.update l (Obj.mapSeq f),toks:=t'}:=by
 have q:=PySem.IsL.update e f;rw[hf]at q;refine I.write (x:=l) (e:=l) (by rw[hH];exact trivial) (.inl Z) (λb' u hb hu=>(NZ s.heap (Obj.mapSeq f) (Ne.symm hb)).trans hu) ⟨_,q⟩ ?_;exact⟨hz,its',_,hv,q⟩
def bH.a5S{t':Nat}(I:bH X Y σ H s)(hv:cM ys cg)(hz:ys.length<=sizeLine) :
  bH X Y σ (cO H s.heap.objs.size (.lst ys)) { s with heap:=s.heap.push { cls:=.type "list",data:=.seq cg.toArray},toks:=t'} :=
 I.laid (λ_ _ q=>bL _ q) (aO _) ⟨hz,cg,0,hv,bZ _ Z⟩
def bH.fresh(I:bH X Y σ H s):H s.heap.objs.size=none:=I.hok.fresh (aO _)
def bH.î(I:bH X Y σ H s)(hH:H l=some (.lst xs)):xs.length<=sizeLine/\∃(cg:List Value) (n:Nat),cM xs cg/\xs.length=cg.length/\s.heap.get? l=some { cls:=.type "list",data:=.seq cg.toArray n}:=by
 obtain⟨z,cg,n,r,e⟩:=I.hok l _ hH;exact⟨z,cg,n,r,r.length,e⟩
end
inductive Υ(x:V)(vs:List V)(H:Hp)(Q:VK):Prop
 |mk (l xs y:_) (_:x=.ref l) (_:vs=[y]) (_:H l=some (.lst xs)) (_:xs.length<sizeLine) (_:Q .non (cO H l (.lst (xs++[y]))))
def YH:Å X "list.append" Υ:=by
 intro Y s σ H x vs v us Q I rx rv h;obtain⟨l,xs,y,rfl,rfl,hH,hz,q⟩:=h;cases rx;obtain⟨u,rfl,ru⟩:=rv.dG;obtain⟨z,cg,n,r,hl,e⟩:=I.î hH;refine O3 F.slot_list_append ⟨_,e,Z⟩ F.entry_list_append (F.args_list_append_2 _ _) (PySem.list_append l cg.toArray n u (by rw[List.size_toArray];omega)) ⟨e,?_⟩;refine⟨.non,_,I.a4m (its':=cg++[u]) hH e (by simp) (r.append (.cons ru .nil)) ?_,Z,q⟩;rw[bW,DW];omega
inductive a5T(x:V)(vs:List V)(H:Hp)(Q:VK):Prop
 |mk (l xs y:_) (_:x=.ref l) (_:vs=[]) (_:H l=some (.lst xs)) (_:xs[xs.length-1]?=some y) (_:Q y (cO H l (.lst xs.dropLast)))
def a2p:Å X "list.pop" a5T:=by
 intro Y s σ H x vs v us Q I rx rv h;obtain⟨l,xs,y,rfl,rfl,hH,hy,q⟩:=h;cases rx;have hus:=rv.zero;subst hus;obtain⟨z,cg,n,r,hl,e⟩:=I.î hH;obtain⟨u,hu,ru⟩:=r.get hy;have hy':cg.toArray[cg.toArray.size-1]?=some u:=by
  show cg.toArray[cg.length-1]?=some u;rw[<-N8,<-hl];exact hu
 refine O3 F.slot_list_pop ⟨_,e,Z⟩ F.entry_list_pop (F.args_list_pop_1 _) (MeetsSeq.list_pop_last l cg.toArray n u hy' (by rw[iG];omega)) ⟨e,?_⟩;refine⟨y,_,I.a4m (its':=cg.dropLast) hH e ?_ r.dropLast ?_,ru,q⟩
 ·show cg.toArray.eraseIdxIfInBounds (cg.toArray.size-1)=cg.dropLast.toArray;rw[iG,List.eraseIdxIfInBounds_toArray,Vk]
 ·rw[TX];omega
inductive a5U(x:V)(y:V)(H:Hp)(Q:VK):Prop
 |mk (l b xs zs:_) (_:x=.ref l) (_:y=.ref b) (_:H l=some (.lst xs)) (_:H b=some (.lst zs)) (_:xs.length+zs.length<=sizeLine) (_:∀p,H p=none->Q (.ref p) (cO H p (.lst (xs++zs))))
def a2q:uE X (binaryOp .Add) a5U:=by
 intro Y s σ H x y v u Q I rx ry h;obtain⟨l,b,xs,zs,rfl,rfl,hH,hB,hz,q⟩:=h;cases rx;cases ry;obtain⟨z,cg,n,r,hl,e⟩:=I.î hH;obtain⟨z2,its2,n2,r2,hl2,e2⟩:=I.î hB;refine PySem.P.add_list e e2 ?_ (by rw[iG,iG];omega);have ea:cg.toArray++its2.toArray=(cg++its2).toArray:=by simp
 rw[ea];exact⟨.ref _,_,I.a5S (t':=s.toks) (r.append r2) (by rw[List.length_append];omega),Z,q _ I.fresh⟩
end L2
namespace Att
open PySem.W PySem.Calls PyProof.Rows
def GD{P:Params}{h:Heap}:∀(ns:List Int) (vs:List Value),WellAll P h vs (ns.map WData.int)->IntsAre vs ns:=by
 intro ns
 induction ns with
 |nil =>
  intro vs w;rw[List.map_nil]at w;cases w;exact .nil
 |cons n ns ih =>
  intro vs w;rw[cL]at w;cases w with
  |cons a b =>
   cases a;exact .cons _ _ (ih _ b)
def YJ{l : OpenLaw}{n : Nat}(hn : l.most = some n){P : Params}{h : Heap}{args : List WData}{vals : List Value}
    (hpre : l.row.toRowW.claim.pre args = true) (hwl : WellAll P h vals args) :
    ∃ a vs ns, vals = [Value.ref a] ∧ args = [WData.list (ns.map WData.int)] ∧ h.get? a = some { cls := .type "list", data := .seq vs.toArray } ∧ IntsAre vs ns ∧ ns.length ≤ n := by
  have hsh : WShape.hasAll [] args [.list .int] = true := (pre_splitW hpre).1;have hc : l.pre.holds [] { args := args } = true := (pre_splitW hpre).2;obtain ⟨d, r, rfl, h1, h2⟩ := hasAllW_cons hsh;obtain rfl := hasAllW_nil h2;obtain ⟨xs, rfl, h3⟩ := hasW_list h1;obtain ⟨ns, rfl⟩ := items_int h3;have hlen : ns.length ≤ n := by
    unfold OpenLaw.pre at hc;have h4 : (WTm.not (.lt (.lit (.int (n : Int))) (.len (.arg 0)))).holds [] { args := [.list (ns.map .int)] } = true := by
      have h4 := (holds_andW hc).1;rw [hn] at h4;exact h4
    have h5 := condW_of h4 (w_not (w_lt w_lit (w_len_list (w_arg Z))));rw [aN] at h5;refine Nat.le_of_not_lt fun q => ?_;have q' : (n : Int) < ((ns.length : Nat) : Int) := by omega
    first
      | (rw [bO q'] at h5; exact absurd h5 (by decide))
      | (simp at h5; omega)
  cases hwl with
  | cons w1 w2 =>
    cases w2;cases w1 with
    | list ho hall => exact ⟨_, _, ns, Z, Z, ho, GD ns _ hall, hlen⟩
def YK(l : OpenLaw)(args : List WData) : l.row.toRowW.claim.post args (.bool true) args = true :=
  postW_of (r := l.row.toRowW) (X := (true == true))
    (show WShape.has [] (.bool true) .bool = true by first | rfl | decide | simp [WShape.has, WShape.arms, WShape.armsAll])
    (show (WTm.eq .res (.lit (.bool true))).value [] { args := args, res := some (.bool true), after := args } = some (.bool (true == true)) from w_eq_bool (w_res Z) w_lit) rfl
def QZ{l:OpenLaw}{n:Nat}{q:Program}{loose:List Str}{XP:(Str->Option Value)->Heap->Prop}{YP:World->Heap->Prop}{d:DefRec}
  (hn:l.most=some n) (hdf:d.params.defaults=[])
  (call:∀(w:World) (s₀ s₁:Shared) (mg mb:Str->Option Value) (fa:Addr) (o:Obj) (pm cd doc:Value) (a:Addr) (vs:List Value) (ns:List Int),
   Ground q loose [] XP w s₀ mg mb s₁.heap->YP w s₁.heap->
   s₁.heap.get? fa=some o->o.data=.func (docDef d.name d.params d.body d.scope pm cd doc)->s₁.heap.CodeRec cd d.name->mg d.name=some (.ref fa)->
   s₁.heap.get? a=some { cls:=.type "list",data:=.seq vs.toArray}->IntsAre vs ns->ns.length<=n->s₁.gens = #[]->
   codeAny (model l.prog w) callerA (.call (.ref fa) ⟨[.ref a],[]⟩) (λr s'=>r=.ok (.ret (.bool true))/\OldK s₁.heap s'.heap/\s'.os=s₁.os/\AllBare s'.gens) s₁) :
  WalkO q loose XP YP l.row.toRowW d [] (λf vs=>PySem.call f vs):=by
 intro w s₀ s₁ mg mb G Z99 fa o pm cd doc dV kV ho hd hcd hD hmg hg args vals as hpre hlay hrd hwl hlo;obtain rfl:dV=.none:=Dflts.none hD hdf;obtain rfl:kV=.none:=Dflts.noKw hD;obtain⟨a,vs,ns,rfl,rfl,hobj,hints,hlen⟩:=YJ hn hpre hwl;refine enter_call (El (call w s₀ s₁ mg mb fa o pm cd doc a vs ns G Z99 ho (fd_plain hd) hcd hmg hobj hints hlen hg) λr s' hq=>?_);obtain⟨rfl,h2,h3,h4⟩:=hq;exact⟨.inl ⟨.bool true,.bool true,[],Z,λ_=>rfl,.bool true,YK l _,λ_=>⟨List.Pairwise.nil,λ_ hm=>(nomatch hm)⟩⟩,h2,h3,h4⟩
end Att
namespace L2
open PyProof.Rows
variable{X:Cx}{σ:St}{ix:List (Option Nat)}{x qual:Str}{a it:Addr}{n k:Nat}{scope:Scope}{Y:List (Addr×Obj)}{g:TG}{tt:TT}{te:TE}{pos:Pos}{H1 H':Hp}{Q:VK}{s:Shared}{o:HO}{N':List Str}{tg elt iter:Expr}{w:World}{fd:FuncData}{A B:Prop}{R:Result->Shared->Prop}{ifs es:List Expr}{r:V->List V->Hp->VK->Prop}
def Mg:∀{vs:List Value}{ns:List Int},IntsAre vs ns->cM (ns.map V.int) vs
 |_,_,.nil=>.nil
 |_,_,.cons n t h=>.cons ⟨t,Z⟩ (Mg h)
def Only(H:Hp):Prop:=∀b,H b=none\/∃o xs,H b=some (.kj o (.lst xs))
def ï{P:Program}{K:aK}{mg mb:Str->Option Value}{CX:Vc}{fa:Addr}{sp:Sp}{s₁:Shared}{vs:List Value}{ns:List Int}
  (KX:K.In s₁.heap) (hns:s₁.heap.Ns mainGlobals mg) (hb:s₁.heap.Ns builtinsNs mb) (hbb:∀x:Str,x≠ "__name__" ->mb x=bootBuiltins x) (hlim:s₁.heap.NoLimit) (hg:s₁.gens = #[])
  (ha:s₁.heap.get? a=some { cls:=.type "list",data:=.seq vs.toArray}) (hi:IntsAre vs ns) (hl:ns.length<=sizeLine) (hr:sV k callerA)
  (F:∀base:Heap,K.In base->base.Ns mainGlobals mg->bh P w K mg base CX k fa fd [x] sp) (hbind:∀(s:Shared) (u:Value),BindsTo s fd ⟨[u],[]⟩ [(x,u)])
  (hsp:∀H:Hp,Only H->bG K H a (ns.map V.int)->sp [.ref a] H (λv _=>v=.bl true) λ_ _ _=>False)
  (hCX:∀H e s',CX [] H s₁ (λ_ _ _=>False) e s'->False) :
  codeAny (model P w) callerA (.call (.ref fa) ⟨[.ref a],[]⟩) (λr s'=>r=.ok (.ret (.bool true))/\OldK s₁.heap s'.heap/\s'.os=s₁.os/\AllBare s'.gens) s₁:=by
 have rv:=Mg hi;have lenV:=hi.length;have core:∀H:Hp,Only H->bG K H a (ns.map V.int)->zA P w H s₁.heap->(∀b,H b≠none->b=a)->(H a≠none->K.lookup a=none)->
   codeAny (model P w) callerA (.call (.ref fa) ⟨[.ref a],[]⟩) (λr s'=>r=.ok (.ret (.bool true))/\OldK s₁.heap s'.heap/\s'.os=s₁.os/\AllBare s'.gens) s₁:=by
  intro H hO hS hok hA hK;have W3:∀{b:Addr}{o:Obj},s₁.heap.get? b=some o->H b=none->(O7 s₁.heap H).get? b=some o:=λe n=>Ú e n;have noA:∀{b:Addr}{o:Obj}{es:Array DictEntry}{ep:Nat},s₁.heap.get? b=some o->o.data=.dict es ep->H b=none:=λ{b o es ep} e d=>by
   cases q:H b with
   |none=>rfl
   |some u =>
    have e':b=a:=hA b (by rw[q];simp);subst e';rw[ha]at e;cases e;have d':Data.seq vs.toArray _=Data.dict es ep:=d;cases d'
  have nsK:∀{b:Addr}{m:Str->Option Value},s₁.heap.Ns b m->(O7 s₁.heap H).Ns b m:=λ{b m} ⟨o,es,ep,e,d,r⟩=>⟨o,es,ep,W3 e (noA e d),d,r⟩;have hKb:K.In (O7 s₁.heap H):=λb o e=>W3 (KX b o e) (by
   cases q:H b with
   |none=>rfl
   |some u =>
    have e':b=a:=hA b (by rw[q];simp);subst e';rw[hK (by rw[q];simp)]at e;cases e)
  have hM:Mod K mg (O7 s₁.heap H):=⟨hKb,nsK hns,⟨mb,nsK hb,hbb⟩,let⟨mc,h1,h2⟩:=hlim;⟨mc,nsK h1,h2⟩⟩;have e0:Vd P w K mg (O7 s₁.heap H) callerA [] s₁ H:=⟨Z,hM,λb o e=>ź e,OJ (Yt _ _),trivial,λb hb=>absurd (show b∈([]:List Addr)from hb) (by simp),hok,.of_eq hg⟩;refine El ((F _ hKb (nsK hns)).run callerA [] s₁ H ⟨[.ref a],[]⟩ [.ref a] [.ref a] _ _ hr e0 (hbind s₁ (.ref a)) (.cons Z .nil) (hsp H hO hS)) λr s' h=>?_;cases r with
  |error e=>exact(hCX H e s' h).elim
  |ok fl =>
   cases fl with
   |next=>exact False.elim h
   |brk=>exact False.elim h
   |cont=>exact False.elim h
   |ret u =>
    obtain⟨v,H',os,bare,un,hok',r',q⟩:=h;have q':v=.bl true:=q;subst q';obtain rfl:u=Value.bool true:=r';refine⟨Z,OldK.of_keep λb o e=>?_,os,bare⟩;cases q:H b with
    |none=>exact un.keep b o e q (by intro z;exact absurd (show b∈([]:List Addr)from z) (by simp)) (by simp)
    |some u =>
     rcases hO b with z|⟨ob,xs,z⟩
     ·rw[q]at z;cases z
     ·have z2:=un.Jj b ob _ z;obtain⟨e1,_⟩:=hok b _ z;obtain⟨e2,_⟩:=hok' b _ z2;rw[e]at e1;cases e1;exact e2
 cases hk:K.lookup a with
 |some o =>
  have e:=KX a o hk;rw[ha]at e;cases e;refine core (λ_=>none) (λ_=>.inl Z) (.inr ⟨_,vs.toArray,_,hk,Z,Z,Z,by rw[iG,lenV];exact hl,by simpa using rv⟩) (λb u z=>by have z':(none:Option HO)=some u:=z;cases z') (λb z=>absurd Z z) λz=>absurd Z z
 |none =>
  refine core (λb=>if b=a then some (.kj { cls:=.type "list",data:=.seq vs.toArray} (.lst (ns.map V.int)))else none) (λb=>?_) (.inl (.inr ⟨{ cls:=.type "list",data:=.seq vs.toArray},aG Z⟩)) (λb u z=>?_) (λb z=>?_) λ_=>hk
  ·by_cases hb:b=a
   ·exact .inr ⟨_,_,aG hb⟩
   ·exact .inl (aB hb)
  ·by_cases hb:b=a
   ·have z':=(aG hb).symm.trans z;cases z';subst hb;exact⟨ha,by rw[aN];exact hl,vs,_,rv,ha⟩
   ·have z':=(aB hb).symm.trans z;cases z'
  ·by_cases hb:b=a
   ·exact hb
   ·exact absurd (aB hb) z
abbrev KOf{K:aK}{h:Heap}(_:K.In h):aK:=K
def Χ{l:PySem.W.OpenLaw}{q:Program}{loose:List Str}{XP:(Str->Option Value)->Heap->Prop}{YP:World->Heap->Prop}{d:DefRec}{K:Params->aK}{CX:World->Vc}{sp:World->Sp}
  (hn:l.most=some n) (hn2:n<=sizeLine) (hdf:d.params.defaults=[]) (hr:sV k callerA)
  (hY:∀(w:World) (h:Heap),YP w h->(K w.params).In h)
  (F:∀(w:World) (mg:Str->Option Value) (fa:Addr) (h:Heap),(K w.params).In h->h.Ns mainGlobals mg->mg d.name=some (.ref fa)->
   ∃fd:FuncData,(∀(s:Shared) (u:Value),BindsTo s fd ⟨[u],[]⟩ [(x,u)])/\
    ∀base:Heap,(K w.params).In base->base.Ns mainGlobals mg->bh l.prog w (K w.params) mg base (CX w) k fa fd [x] (sp w))
  (hsp:∀(w:World) (H:Hp) (a:Addr) (ns:List Int),ns.length<=n->Only H->bG (K w.params) H a (ns.map V.int)->sp w [.ref a] H (λv _=>v=.bl true) λ_ _ _=>False)
  (hCX:∀(w:World) (H:Hp) (s:Shared) (e:Value) (s':Shared),CX w [] H s (λ_ _ _=>False) e s'->False) :
  PySem.W.WalkO q loose XP YP l.row.toRowW d [] (λf vs=>PySem.call f vs):=by
 refine Att.QZ hn hdf λw s₀ s₁ mg mb fa o pm cd doc a vs ns G Z99 ho hd hcd hmg hobj hints hlen hg=>?_;have KX:=hY w _ Z99;obtain⟨fd,hb,hF⟩:=F w mg fa _ KX G.T.g hmg;exact ï KX G.T.g G.T.b G.T.builtins G.T.nolimit hg hobj hints (cW hlen hn2) hr hF hb (λH hO hS=>hsp w H a ns hlen hO hS) λH e s'=>hCX w H s₁ e s'
def ð{l:PySem.W.OpenLaw}{q:Program}{loose:List Str}{XP:(Str->Option Value)->Heap->Prop}{YP:World->Heap->Prop}{d:DefRec}{K:Params->aK}{CX:Vc}{sp:aK->Sp}
  (hn:l.most=some n) (hn2:n<=sizeLine) (hdf:d.params.defaults=[]) (hr:sV k callerA)
  (hY:∀(w:World) (h:Heap),YP w h->(K w.params).In h)
  (F:∀(w:World) (mg:Str->Option Value) (fa:Addr) (h:Heap),(K w.params).In h->h.Ns mainGlobals mg->mg d.name=some (.ref fa)->
   ∃fd:FuncData,(∀(s:Shared) (u:Value),BindsTo s fd ⟨[u],[]⟩ [(x,u)])/\
    ∀base:Heap,(K w.params).In base->base.Ns mainGlobals mg->bh l.prog w (K w.params) mg base CX k fa fd [x] (sp (K w.params)))
  (hsp:∀(K:aK) (H:Hp) (a:Addr) (ns:List Int),ns.length<=n->Only H->bG K H a (ns.map V.int)->sp K [.ref a] H (λv _=>v=.bl true) λ_ _ _=>False)
  (hCX:∀(H:Hp) (s:Shared) (e:Value) (s':Shared),CX [] H s (λ_ _ _=>False) e s'->False) :
  PySem.W.WalkO q loose XP YP l.row.toRowW d [] (λf vs=>PySem.call f vs) :=
 Χ (K:=K) (CX:=λ_=>CX) (sp:=λw=>sp (K w.params)) hn hn2 hdf hr hY F (λw H a ns h1 h2 h3=>hsp (K w.params) H a ns h1 h2 h3) λ_ H s e s'=>hCX H s e s'
def inClass(s:Stmt)(j:Nat):Stmt:=match s with
 |.ClassDef _ _ _ body _ _ _ _ _ _ _=>body.getD j (.Pass ⟨0,0,0,0⟩)
 |_=>.Pass ⟨0,0,0,0⟩
def dR(s:Stmt):Arguments:=match s with
 |.FunctionDef _ a _ _ _ _ _ _ _ _=>a
 |_=>{ posonlyargs:=[],args:=[],vararg:=none,kwonlyargs:=[],kw_defaults:=[],kwarg:=none,defaults:=[]}
def dB(s:Stmt):List Stmt:=match s with
 |.FunctionDef _ _ b _ _ _ _ _ _ _=>b
 |_=>[]
def aF(s:Stmt):Scope:=match s with
 |.FunctionDef _ _ _ _ _ _ sc _ _ _=>sc
 |_=>{ kind:=.function,names:=[],isGenerator:=false,isCoroutine:=false}
abbrev gj:Vc:=λ_ _ _ _ _ _=>False
abbrev E0:XK:=λ_ _ _=>False
def b8:Aq gj X E0:=λ_ _ _ _ _ _ _ h=>h.elim
structure Fun(K:aK)(x qual:Str)(st:Stmt)(f:Addr)(fd:FuncData):Prop where
 ex:∃(oc:Value) (od:Option Addr) (kV doc pm:Value) (an:Option Addr) (cZ ct:Value) (osl:Array (Option Value)),
  fd=PySem.W.fnOf x qual (dR st) (dB st) (aF st) .none kV doc pm an cZ ct/\K.lookup f=some ⟨oc,od,.func fd,osl⟩/\PySem.W.codeIn K cZ qual=true
 kp:PySem.W.keepIn K (.ref f)=true
section
variable{P:Program}{K:aK}{mg:Str->Option Value}{base:Heap}
def Fun.ok{st:Stmt}{f:Addr}{N ps:List Str}{sp:Sp}(F:Fun K x qual st f fd)(S:bD N ps (aF st))(hbody:∀(cZ:Value) (A:Around) (outer:List Env) (s:Shared) (H:Hp) (vs:List V) (Q:VK) (E:XK),sV k (A.deeper (envOfC qual (aF st) s.heap.objs.size f cZ))->sp vs H Q E->
   ∃t,S7 (Vf gj P w K mg base N qual (aF st) f cZ A outer s H E).nox (dB st) t/\t { nx:=λ_ H'=>Q .non H',rt:=Q} (start N vs) H)
  (len:∀vs H Q E,sp vs H Q E->vs.length=ps.length:=by intro vs H Q E h;first|(cases h;subst_vars;rfl)|(repeat first|(obtain⟨e,_⟩:=h;rw[e];rfl)|(obtain⟨_,h⟩:=h))):bh P w K mg base gj (k+1) f fd ps sp:=by
 obtain⟨oc,od,kV,doc,pm,an,cZ,ct,osl,rfl,lk,hcd⟩:=F.ex;refine a1B lk hcd S len λA outer s H vs Q E hr hsp=>?_;obtain⟨t,h,q⟩:=hbody cZ A outer s H vs Q E hr hsp;exact⟨t,h.nox,q⟩
def Fun.binds{st:Stmt}{f:Addr}{ps:List Str}(F:Fun K x qual st f fd)
  (h:∀(kV doc pm:Value) (an:Option Addr) (cZ ct:Value) (us:List Value),us.length=ps.length->bindArgs (PySem.W.fnOf x qual (dR st) (dB st) (aF st) .none kV doc pm an cZ ct) ⟨us,[]⟩=pure (ps.zip us)):Binds K fd ps []:=by
 obtain⟨oc,od,kV,doc,pm,an,cZ,ct,osl,rfl,lk,hcd⟩:=F.ex;exact .all (h kV doc pm an cZ ct)
def Vl{st:Stmt}{f:Addr}{oc:Value}{od an:Option Addr}{osl:Array (Option Value)}{kV doc pm cZ ct:Value}(l:K.lookup f=some ⟨oc,od,.func (PySem.W.fnOf x qual (dR st) (dB st) (aF st) .none kV doc pm an cZ ct),osl⟩)
  (c:PySem.W.codeIn K cZ qual=true) (k:PySem.W.keepIn K (.ref f)=true):Fun K x qual st f (PySem.W.fnOf x qual (dR st) (dB st) (aF st) .none kV doc pm an cZ ct):=⟨⟨oc,od,kV,doc,pm,an,cZ,ct,osl,Z,l,c⟩,k⟩
end
def cC(h:n<=1000):n<sizeLine:=Nat.lt_of_le_of_lt h (by decide)
def pv(i:Nat)(hN:X.N[i]?=some x:=by rfl)(hv:Vis X.env.scope x:=by first|exact Or.inl rfl|exact Or.inr (Or.inl Z)|exact Or.inr (Or.inr Z))(hd:(x==("__debug__" : Str))=false:=by decide)
  (hcd:(x==("__classdict__" : Str))=false:=by decide):PE X (.Name x pos) (tX i):=a1U hN hv hd hcd
def cN(h:B):if false=true then A else B:=by
 rw[aB dw];exact h
def gQ(h:A):if true=true then A else B:=by
 rw[aG rfl];exact h
def tZ{c:Prop} [Decidable c] (h1:c->A) (h2:¬c->B):if c then A else B:=by
 by_cases h:c
 ·rw[aG h];exact h1 h
 ·rw[aB h];exact h2 h
def aH(H H':Hp):Prop:=∀b o,H b=some o->H' b=some o
def aH.refl(H:Hp):aH H H:=λ_ _ h=>h
def aH.trans{H H2:Hp}(a:aH H H1)(b:aH H1 H2):aH H H2:=λc o h=>b c o (a c o h)
def aH.free{H:Hp}(e:aH H H'){l:Addr}(h:H' l=Option.none):H l=Option.none:=by
 cases q:H l with
 |none=>rfl
 |some o =>
  rw[e l o q]at h;cases h
def aH.seq{K:aK}{H:Hp}{xs:List V}(e:aH H H')(h:bG K H a xs):bG K H' a xs:=by
 rcases h with(h|⟨o,h⟩)|h
 ·exact .inl (.inl (e _ _ h))
 ·exact .inl (.inr ⟨o,e _ _ h⟩)
 ·exact .inr h
def wB(cells:List (Str×Addr)):List (Str×NameKind)->List (Str×Addr)->List (Str×Addr)
 | [],acc=>acc
 |(n,k)::r,acc=>wB cells r (if k==.free then(match cells.lookup n with|some c=>(n,c)::acc|none=>acc)else acc)
theorem ò{env:Env}:∀(ns:List (Str×NameKind)) (acc:List (Str×Addr)),(∀x∈ns,x.2=.free->∃c,env.cells.lookup x.1=some c)->
  (forIn ns acc λ(x:Str×NameKind) (cs:List (Str×Addr))=>(if x.2==NameKind.free then do let a <-cellOf env x.1;pure (ForInStep.yield ((x.1,a)::cs))else pure (ForInStep.yield cs):Sem (ForInStep (List (Str×Addr)))))=pure (wB env.cells ns acc)
 | [],acc,_=>by simp[wB]
 |(n,k)::r,acc,h=>by
  rw[List.forIn_cons]
  have ih:=λa=>ò (env:=env) r a λx hx=>h x (bM _ hx)
  unfold wB
  by_cases hk:(k==NameKind.free)=true
  ·obtain⟨c,hc⟩:=h (n,k) aW (by grind)
   have hc':env.cells.lookup n=some c:=hc
   have hce:cellOf env n=pure c:=by simp only[cellOf,hc']
   simp only[hk,if_true,hce,pure_bind,hc']
   exact ih _
  ·simp only[hk,if_false,pure_bind,ih]
   simp
def Jr{env:Env}(h:∀x∈scope.names,x.2=.free->∃c,env.cells.lookup x.1=some c):closureFor scope env=pure (wB env.cells scope.names []):=by
 have q:=ò (env:=env) scope.names [] h;unfold closureFor;grind
set_option tactic.hygienic true in
theorem Ci{cells:List (Str×Addr)}:∀(ns:List (Str×NameKind)) (acc:List (Str×Addr)) {x:Str}{c:Addr},(∀y d,acc.lookup y=some d->cells.lookup y=some d)->(wB cells ns acc).lookup x=some c->cells.lookup x=some c
 | [],acc,x,c,ha,h=>ha x c h
 |(n,k)::r,acc,x,c,ha,h=>by
  unfold wB at h
  refine Ci r _ (λy d hy=>?_) h
  split at hy
  ·split at hy
   ·rename_i c' hc'
    rw[IV]at hy
    split at hy
    ·rename_i e
     have e':y=n:=by simpa using e
     subst e'
     rw[hc'];exact hy
    ·exact ha y d hy
   ·exact ha y d hy
  ·exact ha y d hy
theorem Mh{cells:List (Str×Addr)}:∀(ns:List (Str×NameKind)) (acc:List (Str×Addr)) {x:Str},(∃c,acc.lookup x=some c)->∃c,(wB cells ns acc).lookup x=some c
 | [],acc,x,h=>h
 |(n,k)::r,acc,x,h=>by
  unfold wB
  refine Mh r _ ?_
  split
  ·split
   ·rw[IV]
    split
    ·exact⟨_,Z⟩
    ·exact h
   ·exact h
  ·exact h
theorem Js{cells:List (Str×Addr)}:∀(ns:List (Str×NameKind)) (acc:List (Str×Addr)) {x:Str},(x,NameKind.free)∈ns->(∃c,cells.lookup x=some c)->∃c,(wB cells ns acc).lookup x=some c
 | [],acc,x,h,_=>nomatch h
 |(n,k)::r,acc,x,h,hc=>by
  unfold wB
  rcases cH.mp h with e|h
  ·cases e
   obtain⟨c,hc⟩:=hc
   refine Mh r _ ?_
   simp[hc]
  ·exact Js r _ h hc
def bH.track{H:Hp}(I:bH X Y σ H s)(hn:H a=none)(h0:X.s₀.heap.objs.size<=a)(hL:a≠X.env.locals)
  (hc:∀x c,X.env.cells.lookup x=some c->c≠a) (hp:∀p∈X.pn++Y,p.1≠a) (new:fZ X.prog X.w (cO H a o) s.heap a o):bH X Y σ (cO H a o) s:=by
 have ne:∀b u,H b=some u->b≠a:=λb u e=>dU e hn;have q:=I.step (g':=s.gens) (d':=s.drawn) (t':=s.toks) (h':=s.heap) (H':=cO H a o) (ch:=[a]) (λb hb=>?_) (λb ob _ _ _ e _=>e) (λb ob _ _ _ e _=>⟨ob.slots,e⟩) (λb ob hb _ n=>?_)
  (λb ob _ e=>⟨ob,e⟩) (λb xs e=>by rw[aZ (ne b _ e)];exact e) (λb ob u e=>by rw[aZ (ne b _ e)];exact e) (λb ps e=>⟨#[],by rw[aZ (ne b _ e),e];simp⟩) (λm hm=>hm) (λb u e=>?_) I.bare
 ·exact q
 ·have e:b=a:=by simpa using hb
  subst e;exact⟨.inr h0,hL,hc,hp⟩
 ·rw[aZ (λz=>hb (by simp[z]))];exact n
 ·by_cases hb:b=a
  ·subst hb;rw[eG]at e;grind
  ·rw[aZ hb]at e;exact(I.hok b u e).stay (λc v _ q=>q) (λc q=>by rw[aZ (dU q hn)];exact q) λc xs q=>by rw[aZ (dU q hn)];exact q
def uc(X:Cx)(N':List Str)(scope:Scope)(C:Addr)(s:Shared)(H:Hp)(fp:List Addr)(xe:Value->Shared->Prop):Cx :=
 { X with N:=N',s₀:=s,H₀:=H,env:=compEnvC scope (wB X.env.cells scope.names []) C X.env,outer:=X.stack,ex:=fp,fn:=λ_=>false,xe:=xe}
structure W4(X:Cx)(N':List Str)(ix:List (Option Nat))(scope:Scope):Prop where
 kind:scope.kind=.function
 ó:∀y∈scope.names,y.2≠.cell
 locs:∀y∈scope.names,y.2=.local->scope.names.lookup y.1=some .local
 free:∀y∈scope.names,y.2=.free->X.env.kindOf y.1=some .cell\/X.env.kindOf y.1=some .free
 len:ix.length=N'.length
 cap:∀(i j:Nat),ix[i]?=some (some j)->∃x,N'[i]?=some x/\X.N[j]?=some x/\scope.names.lookup x=some .free
def qd(ix:List (Option Nat))(σ:St):St:=ix.map λo=>o.bind λj=>(σ[j]?).join
theorem Cj{env:Env}{x:Str}:∀{names:List (Str×NameKind)},names.lookup x=some .free->(names.map λ(n,k)=>if(k==NameKind.free&&env.scope.kind==.function&&env.kindOf n==some .cell)then(n,NameKind.cell)else(n,k)).lookup x=some .cell\/(names.map λ(n,k)=>if(k==NameKind.free&&env.scope.kind==.function&&env.kindOf n==some .cell)then(n,NameKind.cell)else(n,k)).lookup x=some .free
 | [],h=>by simp at h
 |(n,k)::r,h=>by
  have ih:=@Cj env x r
  grind
theorem Ck{env:Env}{x:Str}:∀{names:List (Str×NameKind)},(∀y∈names,y.2≠.cell)->((names.map λ(n,k)=>if(k==NameKind.free&&env.scope.kind==.function&&env.kindOf n==some .cell)then(n,NameKind.cell)else(n,k)).lookup x=some .cell\/(names.map λ(n,k)=>if(k==NameKind.free&&env.scope.kind==.function&&env.kindOf n==some .cell)then(n,NameKind.cell)else(n,k)).lookup x=some .free)->(x,NameKind.free)∈names
 | [],_,h=>by simp at h
 |(n,k)::r,hn,h=>by
  have ih:=@Ck env x r λy hy=>hn y (bM _ hy)
  grind
def Mi{H:Hp}{i:Nat}{v:V}(B:W4 X N' ix scope)(I:bH X Y σ H s)
  (h1:N'[i]?=some x) (h2:(qd ix σ)[i]?=some (some v)):∃u c,cP v u/\(wB X.env.cells scope.names []).lookup x=some c/\X.env.cells.lookup x=some c/\s.heap.IsCell c (some u)/\
   ((relabel scope X.env).names.lookup x=some .cell\/(relabel scope X.env).names.lookup x=some .free):=by
 have ū:∀x c,(wB X.env.cells scope.names []).lookup x=some c->X.env.cells.lookup x=some c:=λx c h=>Ci scope.names [] (λ_ _ z=>by simp at z) h;obtain⟨j,hj,hv⟩:∃j,ix[i]?=some (some j)/\σ[j]?=some (some v):=by
  unfold qd at h2;rw[iW]at h2;cases e:ix[i]? with
  |none=>grind
  |some o =>
   rw[e]at h2;cases o with
   |none=>cases h2
   |some j =>
    grind
 obtain⟨x',hx1,hx2,hx3⟩:=B.cap i j hj;have exx:x'=x:=by
  grind
 subst exx;have hmem:=Ea hx3;have hout:=B.free _ hmem rfl;obtain⟨m0,_,hl⟩:=I.loc;obtain⟨u,r,l⟩:=hl j x' v hx2 hv (by
  rcases hout with e|e
  ·exact .inr (.inl e)
  ·exact .inr (.inr e))
 rcases l with⟨k,_⟩|⟨k,c,e,z⟩
 ·rcases hout with e|e
  ·rw[e]at k;cases k
  ·rw[e]at k;cases k
 ·obtain⟨c',hc'⟩:=Js scope.names [] hmem (I.ok.has x' hout);have:=ū x' c' hc';rw[e]at this;cases this;exact⟨u,c,r,hc',e,z,Cj hx3⟩
def YL{H:Hp}{s4:Shared}{C:Addr}{fp:List Addr}{xe:Value->Shared->Prop}{m:Str->Option Value}
  (B:W4 X N' ix scope) (I:bH X Y σ H s) (hf:∀b∈fp,GC X Y H b) (hC:s.heap.objs.size<=C) (hfs:∀b∈fp,b<s.heap.objs.size)
  (ho:s4.os=s.os) (hg:s4.gens=s.gens) (hk:∀b o,s.heap.get? b=some o->s4.heap.get? b=some o) (hns:s4.heap.Ns C m) :
  bH (uc X N' scope C s H fp xe) Y (qd ix σ) H s4:=by
 have ū:∀x c,(wB X.env.cells scope.names []).lookup x=some c->X.env.cells.lookup x=some c:=λx c h=>Ci scope.names [] (λ_ _ z=>by simp at z) h;have hfree:H C=none:=I.hok.fresh hC;have neC:∀b o,s.heap.get? b=some o->b≠C:=λb o e=>cu (jB (aX e) hC);refine⟨⟨I.ok.mod,B.kind,I.ok.glob,I.ok.blt,hC,λx y c h1 h2=>I.ok.inj x y c (ū x c h1) (ū y c h2),λx hx=>?_,λx c h=>absurd (show false=true from h) dw,I.ok.hd,I.ok.frames,.inl Z,λb hb=>⟨?_,λx c e=>?_⟩,I.bs,?_,λb o e hb=>?_,λb hb z=>?_,I.stack,I.Wx⟩,
  ho,?_,Un.kept hk,⟨m,hns,λi x v h1 h2 h3=>?_⟩,λx c e=>?_,hfree,λx c e=>I.tW x c (ū x c e),λp hp=>?_,I.hok.kept hk,?_⟩
 ·have hx':=Ck (env:=X.env) (x:=x) B.ó hx;exact Js scope.names [] hx' (I.ok.has x (B.free _ hx' Z))
 ·exact cu (jB (hfs b hb) hC)
 ·exact(hf b hb).2.2.2.2.1 x c (ū x c e)
 ·exact cW I.ok.ũ I.sz
 ·obtain⟨_,_,_,q,_⟩:=hf b hb;rcases q with q|q
  ·exact I.ok.Uy b o e q
  ·exact absurd (jB (aX (I.ok.bs b o e).1) q) (xM _)
 ·obtain⟨_,q1,q2,_⟩:=hf b hb;rcases cH.mp (I.Eo b z)with e|e
  ·exact q1 e
  ·exact q2 e
 ·rw[hg];exact I.bare
 ·obtain⟨u,c,r,hc1,_,⟨oc,z1,z2⟩,hk'⟩:=Mi B I h1 h2;exact⟨u,r,.inr ⟨hk',c,hc1,oc,hk _ _ z1,z2⟩⟩
 ·obtain⟨v,oc,h1,h2⟩:=I.cell x c (ū x c e);exact⟨v,oc,hk _ _ h1,h2⟩
 ·obtain⟨e,n,ne,nf,d⟩:=I.pin p hp;refine⟨hk _ _ e,n,neC _ _ e,λz=>?_,d⟩;rcases cH.mp (I.Eo p.1 z)with e'|e'
  ·exact ne e'
  grind
 ·show(ix.map _).length=N'.length;rw[aN];exact B.len
def Q0{prog:Program}{A:Around}{target:Expr}{it acc:Value}{env:Env}(Iv:Nat->Shared->Prop)
  (turn:∀n s,Iv n s->wpAny (model prog w) A (pyNext it) (λr s₁=>match r with
   |none=>R (.ok .next) s₁
   |some v=>wpAny (model prog w) A (letOwnedTupleGo target it v) (λ_ s₁'=>wpAny (model prog w) A (assign target env v) (λ_ s₂ =>
     wpAny (model prog w) A (forIn ifs true λc r=>if r=true then do let ok <-isTrue c env (eval c env);pure (ForInStep.yield ok)else pure (ForInStep.yield r)) (λok s₃ =>
      if ok=true then wpAny (model prog w) A (eval elt env) (λx s₄ =>
       wpAny (model prog w) A (call (.builtin "list.append") [acc,x]) (λ_ s₅=>∃m,m<n/\Iv m s₅) (notedBy (model prog w) A env λe s'=>R (.error e) s') s₄) (notedBy (model prog w) A env λe s'=>R (.error e) s') s₃
      else ∃m,m<n/\Iv m s₃) (notedBy (model prog w) A env λe s'=>R (.error e) s') s₂) (notedBy (model prog w) A env λe s'=>R (.error e) s') s₁') (notedBy (model prog w) A env λe s'=>R (.error e) s') s₁) (notedBy (model prog w) A env λe s'=>R (.error e) s') s)
  (n:Nat) (h:Iv n s) :
  codeAny (model prog w) A (.compLoop (.ListComp elt [⟨target,iter,ifs,0⟩] scope pos) 0 it acc env) R s:=by
 refine codeAny_loop Z Iv (λn s hI=>?_) n h;show wpAny _ A ((compTurn (.ListComp elt [⟨target,iter,ifs,0⟩] scope pos) 0 it acc env).onRaise λx=>do noteFrame x env;theTreesLotGoes x) _ _ s;refine wpAny_noted ?_;rw[compTurn_list];refine M (Ut (M (iI (turn n s hI) (λr s₁ h₁=>?_) λ_ _ h'=>h')));cases r with
 |none=>exact ao h₁
 |some v =>
  refine M (iI h₁ (λ_ s₁' h₁'=>M (iI h₁' (λ_ s₂ h₂=>M (iI h₂ (λok s₃ h₃=>?_) λ_ _ h'=>h')) λ_ _ h'=>h')) λ_ _ h'=>h');cases ok with
  |false=>exact ao ⟨Z,h₃⟩
  |true =>
   exact M (M (iI h₃ (λx s₄ h₄=>M (iI h₄ (λ_ s₅ h₅=>ao (ao ⟨Z,h₅⟩)) λ_ _ h'=>h')) λ_ _ h'=>h'))
def PTs(X:Cx)(ifs:List Expr)(t:TT):Prop :=
 ∀(Y:List (Addr×Obj)) (s:Shared) (σ:St) (H:Hp) (Q:Bool->Hp->Prop),bH X Y σ H s->t σ H Q->
  wpAny (model X.prog X.w) X.A (forIn ifs true λc r=>if r=true then do let ok <-isTrue c X.env (eval c X.env);pure (ForInStep.yield ok)else pure (ForInStep.yield r)) (TP X Y σ Q) X.xe s
def a4n:TT:=λ_ H Q=>Q true H
def gk:PTs X [] a4n:=λ_ _ _ H _ I h=>wpAny_tests_nil ⟨H,I,h⟩
def mV{c:Expr}{t:TT}(h:PT X c t):PTs X [c] t:=λY s σ H Q I hw=>wpAny_tests_one (h Y s σ H Q I hw)
def lC(ix:List (Option Nat))(g:TG)(tt:TT)(te:TE)(σ:St)(H1:Hp)(Q:VK)(Z97:It):Prop:=∃W:Nat->Nat->List V->Hp->Prop,(∃m,W 0 m [] H1)/\∀i m ys H,W i m ys H->
 (Z97.stop i H/\ys.length<=sizeLine/\∀p,H p=none->Q (.ref p) (cO H p (.lst ys)))\/
 (Z97.go i H/\ys.length<=sizeLine/\∃N:List V->Hp->Prop,(∀ys' H',N ys' H'->∃m',m'<m/\W (i+1) m' ys' H')/\∀x H',Z97.Ã i H x H'->g x (qd ix σ) H' λσ2 H2=>tt σ2 H2 λb H3=>if b=true then te σ2 H3 λv H4=>N (ys++[v]) H4 else N ys H3)
def tLC(ix:List (Option Nat))(wi:TI)(g:TG)(tt:TT)(te:TE):TE:=λσ H Q=>wi σ H λZ97 H1=>lC ix g tt te σ H1 Q Z97
section
variable{wi:TI}
def ô(B:W4 X N' ix scope)(hc:X.calm=true)
  (hg:∀C s H fp xe,PG (uc X N' scope C s H fp xe) tg g) (ht:∀C s H fp xe,PTs (uc X N' scope C s H fp xe) ifs tt) (he:∀C s H fp xe,PE (uc X N' scope C s H fp xe) elt te) {s2:Shared}{H2:Hp}{fp:List Addr}{tn:Nat->Heap->Prop}{Z97:It}{RR:Value->Addr->Result->Shared->Prop}{E:Value->Shared->Prop}
  (I2:bH X Y σ H2 s2) (T:Turn X.prog X.w X.K tg Z97 fp it tn) (st2:tn 0 s2.heap) (f2:∀b∈fp,GC X Y H2 b)
  (q:∃W:Nat->Nat->List V->Hp->Prop,(∃m,W 0 m [] H2)/\∀i m ys H,W i m ys H->
   (Z97.stop i H/\ys.length<=sizeLine/\∀p,H p=none->Q (.ref p) (cO H p (.lst ys)))\/
   (Z97.go i H/\ys.length<=sizeLine/\∃N:List V->Hp->Prop,(∀ys' H',N ys' H'->∃m',m'<m/\W (i+1) m' ys' H')/\∀x H',Z97.Ã i H x H'->g x (qd ix σ) H' λσ2 H2=>tt σ2 H2 λb H3=>if b=true then te σ2 H3 λv H4=>N (ys++[v]) H4 else N ys H3))
  (hRR:∀D C s' H' ys,bH X Y σ (cO H' D (.lst ys)) s'->H' D=none->Q (.ref D) (cO H' D (.lst ys))->(∃m,s'.heap.Ns C m)->cO H' D (.lst ys) C=none->C≠X.env.locals->X.s₀.heap.objs.size<=C->(∀x c,X.env.cells.lookup x=some c->c≠C)->(∀p∈X.pn++Y,p.1≠C)->RR (.ref D) C (.ok .next) s') :
  wpAny (model X.prog X.w) X.A (newList []) (λacc s₃=>wpAny (model X.prog X.w) X.A (newFunctionEnv scope X.env.globals (wB X.env.cells scope.names []) [] X.env.qual none .none (some X.env)) (λcenv s₄ =>
   codeAny (model X.prog X.w) X.A (.compStart (.ListComp elt [⟨tg,iter,ifs,0⟩] scope pos) 0 (.ref it) acc { cenv with scope:=relabel scope X.env}) (RR acc cenv.locals) s₄) E s₃) E s2:=by
 have hfs:∀b∈fp,b<s2.heap.objs.size:=λb hb=>by
  obtain⟨o,e,_⟩:=T.obj _ _ st2 b hb;exact aX e
 refine jU (wpAny_newFunctionEnv B.ó (by intro y hy;simp at hy) (λh₁ hns₁ hsb₁=>?_) B.kind);dsimp only at hns₁ hsb₁ ⊢;generalize hH3:s2.heap.push { cls:=.type "list",dict:=none,data:=.seq ([]:List Value).toArray}=H3 at hns₁ hsb₁ ⊢;have hC:H3.objs.size=s2.heap.objs.size+1:=by rw[<-hH3,jW]
 have hDC:s2.heap.objs.size≠H3.objs.size:=by rw[hC];exact cu (Ac _)
 have below:∀b,b<s2.heap.objs.size->b≠H3.objs.size/\b≠s2.heap.objs.size:=λb hb=>⟨by rw[hC];exact cu (Iw hb),cu hb⟩;have old:∀b o,s2.heap.get? b=some o->h₁.get? b=some o:=λb o e=>hsb₁.extBut b o (below b (aX e)).1 (bL _ (hH3▸bL _ e));have hacc:h₁.get? s2.heap.objs.size=some { cls:=.type "list",data:=.seq ([]:List Value).toArray 0}:=hsb₁.extBut _ _ hDC (bL _ (hH3▸bZ _ Z));have hCle:s2.heap.objs.size<=H3.objs.size:=by rw[hC];exact xP _
 generalize hD:s2.heap.objs.size=D at *
 generalize hCC:H3.objs.size=C at *
 obtain⟨W,⟨m0,w0⟩,turn⟩:=q;let xe:Value->Shared->Prop:=notedBy (model X.prog X.w) X.A (compEnvC scope (wB X.env.cells scope.names []) C X.env) λe s'=>RR (.ref D) C (.error e) s';let X':Cx:=uc X N' scope C s2 H2 fp xe;have DL:D∉frs X.stack:=λz=>by
  rcases cH.mp (I2.Eo D z)with e|e
  ·exact absurd I2.lt (by rw[<-e,hD];exact xM _)
  ·exact I2.a3O (by rw[hD];exact aO _) e
 have Vm:∀x c,X.env.cells.lookup x=some c->c<D:=λx c e=>by
  obtain⟨v,oc,h,_⟩:=I2.cell x c e;rw[<-hD];exact aX h
 have ū:∀x c,(wB X.env.cells scope.names []).lookup x=some c->X.env.cells.lookup x=some c:=λx c h=>Ci scope.names [] (λ_ _ z=>by simp at z) h;have õ:∀p∈X.pn++Y,p.1<D:=λp hp=>by rw[<-hD];exact aX (I2.pin p hp).1
 have fpX:∀{pl:List (Addr×Obj)}{H':Hp},(∀b∈fp,H' b=none)->(∀p∈pl,p∈Y\/p.1=D)->∀b∈fp,GC X' pl H' b:=λ{pl H'} hn hpl b hb=>by
  obtain⟨_,q1,q2,q3,q4,q5⟩:=f2 b hb;refine⟨hn b hb,(below b (hfs b hb)).1,λz=>?_,.inl hb,λx c e=>q4 x c (ū x c e),λp hp=>?_⟩
  ·rcases cH.mp (I2.Eo b z)with e|e
   ·exact q1 e
   ·exact q2 e
  ·rcases b7.mp hp with hp|hp
   ·exact q5 p (tK _ hp)
   ·rcases hpl p hp with z|z
    ·exact q5 p (gF _ z)
    ·rw[z];exact Ne.symm (below b (hfs b hb)).2
 have loop:∀s₃:Shared,s₃={ s2 with heap:=h₁,toks:=s2.toks+([]:List (Str×Value)).length}->
   codeAny (model X.prog X.w) X.A (.compLoop (.ListComp elt [⟨tg,iter,ifs,0⟩] scope pos) 0 (.ref it) (.ref D) (compEnvC scope (wB X.env.cells scope.names []) C X.env)) (RR (.ref D) C) s₃:=by
  rintro s₃ rfl;refine Q0 (λn s'=>∃i H' ys cg k,bH X' Y (qd ix σ) H' s'/\tn i s'.heap/\(∀b∈fp,H' b=none)/\H' D=none/\s'.heap.get? D=some { cls:=.type "list",data:=.seq (List.toArray cg) k}/\cM ys cg/\W i n ys H') ?_ m0
   ⟨0,H2,[],[],0,YL B I2 f2 (by rw[hD];exact hCle) (λb hb=>by rw[hD];exact hfs b hb) Z Z old hns₁,T.keep _ _ _ st2 λb _ o e=>old b o e,λb hb=>(f2 b hb).1,I2.hok.fresh (by rw[hD];exact aO _),hacc,.nil,w0⟩
  rintro n s' ⟨i,H',ys,cg,k,I',st',fr',hDn,hDo,rv,w'⟩;have hDX:∀v,({ cls:=.type "list",data:=.seq (List.toArray cg) k}:Obj).data≠.cell v:=λv z=>by
   have z':Data.seq (List.toArray cg) k=Data.cell v:=z;cases z'
  have a5V:∀{σ':St}{S9:Hp}{s'':Shared}{its':List Value}{k':Nat},bH X' Y σ' S9 s''->S9 D=none->s''.heap.get? D=some { cls:=.type "list",data:=.seq (List.toArray its') k'}->bH X' (Y++[(D,{ cls:=.type "list",data:=.seq (List.toArray its') k'})]) σ' S9 s'':=λ{σ' S9 s'' its' k'} Z97 hn ho =>
   Z97.Hy λp hp=>(b7.mp hp).elim (λz=>Z97.pin p (gF _ z)) λz=>by
    have e:p=(D,{ cls:=.type "list",data:=.seq (List.toArray its') k'}):=by simpa using z
    subst e;exact⟨ho,hn,hDC,DL,λv z=>by
     have z':Data.seq (List.toArray its') k'=Data.cell v:=z;cases z'⟩
  have plD:∀{its':List Value}{k':Nat},∀p∈Y++[(D,({ cls:=.type "list",data:=.seq (List.toArray its') k'}:Obj))],p∈Y\/p.1=D:=λ{its' k'} p hp=>(b7.mp hp).elim .inl λz=>by
   have e:p=(D,{ cls:=.type "list",data:=.seq (List.toArray its') k'}):=by simpa using z
   subst e;exact .inr rfl
  have unD:∀{pl:List (Addr×Obj)}{σ':St}{S9:Hp}{s'':Shared},bH X' (Y++pl) σ' S9 s''->bH X' Y σ' S9 s'':=λZ97=>Z97.Hy λp hp=>Z97.pin p (gF _ (tK _ hp));have I'p:=a5V I' hDn hDo;rcases turn i n ys H' w' with⟨stop,hsz,fin⟩|⟨go,hsz,N,hN,step⟩
  ·refine iI (T.done X' Z Z Z hc i _ s' (qd ix σ) H' X'.xe I'p (fpX fr' plD) st' stop) (λr s5 ⟨hr,I5⟩=>?_) λ_ _ z=>z;subst hr;have a5W:s5.heap.get? D=some { cls:=.type "list",data:=.seq (List.toArray cg) k}:=(I5.pin (D,_) (gF _ (gF _ (bw.mpr Z)))).1;have sz0:X.s₀.heap.objs.size<=D:=by rw[<-hD];exact I2.sz
   have Z97:bH X Y σ H' s5:=I2.call' (ch:=fp) I5.os I5.base I5.hok I5.bare λb hb=>by
    obtain⟨_,q1,_,q3,q4,q5⟩:=f2 b hb;exact⟨q3,q1,q4,q5⟩
   have nL:X.env.locals<D:=by rw[<-hD];exact I2.lt
   have J2:bH X Y σ (cO H' D (.lst ys)) s5:=bH.track Z97 hDn sz0 (gG nL) (λx c e=>cu (Vm x c e)) (λp hp=>cu (õ p hp)) ⟨hsz,cg,k,rv,a5W⟩;obtain⟨mC,hnC,_⟩:=I5.loc;have a2r:D<C:=Nat.lt_of_le_of_ne hCle hDC;refine hRR D C s5 H' ys J2 hDn (fin D hDn) ⟨mC,hnC⟩ ?_ (gG (Aj nL a2r)) (cW sz0 hCle) (λx c e=>cu (Aj (Vm x c e) a2r)) λp hp=>cu (Aj (õ p hp) a2r);rw[aZ (Ne.symm hDC)];exact I5.free
  ·refine iI (T.item X' Z Z Z hc i _ s' (qd ix σ) H' X'.xe I'p (fpX fr' plD) st' go) (λr s5 ⟨u,hr,h5⟩=>?_) λ_ _ z=>z;subst hr;refine iI h5 (λ_ s6 ⟨x,H6,I6,r6,y6,st6,fr6⟩=>?_) λ_ _ z=>z;have I6':=I6.pinned (fpX fr6 plD) (T.obj _ _ st6);refine iI (hg C s2 H2 fp xe _ s6 (qd ix σ) H6 x u _ I6' r6 (step x H6 y6)) (λ_ s7 ⟨WL,H7,I7,q7⟩=>?_) λ_ _ z=>z;have after:∀{σ8:St}{H8:Hp}{s8:Shared},bH X' ((Y++[(D,{ cls:=.type "list",data:=.seq (List.toArray cg) k})])++wu fp s6.heap) σ8 H8 s8->
     bH X' Y (qd ix σ) H8 s8/\tn (i+1) s8.heap/\(∀b∈fp,H8 b=none)/\H8 D=none/\s8.heap.get? D=some { cls:=.type "list",data:=.seq (List.toArray cg) k}:=λ{σ8 H8 s8} I8=>by
    have pD:=I8.pin (D,{ cls:=.type "list",data:=.seq (List.toArray cg) k}) (gF _ (tK _ (gF _ (bw.mpr Z))));have fpP:∀b∈fp,∀o,s6.heap.get? b=some o->s8.heap.get? b=some o/\H8 b=none:=λb hb o e=>by
     have z:=I8.pin (b,o) (gF _ (gF _ (tY hb e)));exact⟨z.1,z.2.1⟩
    refine⟨⟨I8.ok,I8.os,I8.bare,I8.base,?_,I8.cell,I8.free,I8.tW,λp hp=>?_,I8.hok,?_⟩,T.keep _ _ _ st6 λb hb o e=>(fpP b hb o e).1,λb hb=>?_,pD.2.1,pD.1⟩
    ·obtain⟨m8,hn8,_⟩:=I8.loc;refine⟨m8,hn8,λi x v h1 h2 h3=>?_⟩;obtain⟨u,c,r,hc1,hc2,⟨oc,z1,z2⟩,hk'⟩:=Mi B I2 h1 h2;obtain⟨sl,e8⟩:=I8.base.any z1 (I2.tW x c hc2) λz=>(f2 c z).2.2.2.2.1 x c hc2 rfl;exact⟨u,r,.inr ⟨hk',c,hc1,_,e8,z2⟩⟩
    ·rcases b7.mp hp with hp|hp
     ·exact I8.pin p (tK _ hp)
     ·exact I8.pin p (gF _ (tK _ (tK _ hp)))
    ·show(qd ix σ).length=N'.length;unfold qd;rw[aN];exact B.len
    ·obtain⟨o,e,_⟩:=T.obj _ _ st6 b hb;exact(fpP b hb o e).2
   refine iI (ht C s2 H2 fp xe _ s7 WL H7 _ I7 q7) (λb s8 ⟨H8,I8,q8⟩=>?_) λ_ _ z=>z;cases b with
   |false =>
    rw[aB dw]at q8 ⊢;obtain⟨m',hm,w8⟩:=hN _ _ q8;obtain⟨Z97,tn8,f8,d8,o8⟩:=after I8;exact⟨m',hm,i+1,H8,ys,cg,k,Z97,tn8,f8,d8,o8,rv,w8⟩
   |true =>
    rw[aG rfl]at q8 ⊢;refine iI (he C s2 H2 fp xe _ s8 WL H8 _ I8 q8) (λv s9 ⟨y,H9,I9,r9,q9⟩=>?_) λ_ _ z=>z;obtain⟨Z97,tn9,f9,d9,o9⟩:=after I9;obtain⟨m',hm,w9⟩:=hN _ _ q9;refine append_at (hsz:=by rw[iG,<-rv.length];exact hsz) o9 λh10 a4o a4p=>?_;refine⟨m',hm,i+1,H9,ys++[y],cg++[v],k+1,?_,T.keep _ _ _ tn9 λb hb o e=>a4o.extBut b o (λz=>?_) e,f9,d9,by rw[List.push_toArray]at a4p;exact a4p,rv.append (.cons r9 .nil),w9⟩
    ·refine Z97.turned (t':=s9.toks) (it:=D) (λb o hb e=>a4o.extBut b o hb e) d9 hDC (.inr (by show s2.heap.objs.size<=D;rw[hD];exact aO _)) (λx c e=>cu (Vm x c (ū x c e))) λp hp=>cu (õ p hp)
    ·exact(below b (hfs b hb)).2 z
 exact codeAny_compStart_list (loop _ Z) (T.self X.A 0 _ _ _ (T.keep _ _ _ st2 λb _ o e=>old b o e) (loop _ Z))
end
def Cm(outer:Scope)(N N':List Str)(ix:List (Option Nat))(scope:Scope):Bool :=
 (scope.kind==.function)&&(scope.names.all λy=>y.2 != .cell)&&(scope.names.all λy=>y.2 != .local||scope.names.lookup y.1==some .local) &&
 (scope.names.all λy=>y.2 != .free||outer.names.lookup y.1==some .cell||outer.names.lookup y.1==some .free)&&(ix.length==N'.length) &&
 (List.range ix.length).all λi=>match ix[i]? with
  |some (some j)=>(match N'[i]? with|some x=>N[j]?==some x&&scope.names.lookup x==some .free|none=>false)
  |_=>true
def ö(h:Cm X.env.scope X.N N' ix scope=true):W4 X N' ix scope:=by
 unfold Cm at h;simp only[Bool.and_eq_true]at h;obtain⟨⟨⟨⟨⟨h1,h2⟩,h3⟩,h4⟩,h5⟩,h6⟩:=h;refine⟨?_,λy hy=>?_,λy hy hl=>?_,λy hy hl=>?_,by grind,λi j e=>?_⟩
 ·grind
 ·grind
 ·grind
 ·have:=IW.mp h4 y hy;rw[hl]at this;simp at this;exact this
 grind
section
variable{wi:TI}
def jH(N':List Str)(ix:List (Option Nat))(hB:Cm X.env.scope X.N N' ix scope=true)(hc:X.calm=true)(hi:PI X tg iter wi)
  (hg:∀C s H fp xe,PG (uc X N' scope C s H fp xe) tg g) (ht:∀C s H fp xe,PTs (uc X N' scope C s H fp xe) ifs tt) (he:∀C s H fp xe,PE (uc X N' scope C s H fp xe) elt te)
  (hs:∀x,foldedSetIterable iter X.env x=pure x:=by intro _;rfl):PE X (.ListComp elt [⟨tg,iter,ifs,0⟩] scope pos) (tLC ix wi g tt te):=by
 intro Y s σ H Q I h;have B:=ö hB;rw[eval_ListComp];refine Ø (use:=none) Z hs (Jr λy hy hf=>I.ok.has y.1 (B.free y hy hf)) B.kind B.locs (jK (hi Y s σ H _ I h) λv s1 h1=>jK h1 λitv s2 h2=>?_);obtain⟨it,fp,tn,Z97,H2,e,I2,T,st2,f2,q⟩:=h2;subst e;refine ô B hc hg ht he I2 T st2 f2 q ?_;intro D C s' H' ys J2 hDn hq ⟨m,hn⟩ hC1 hC2 hC3 hC4 hC5;exact⟨m,hn,λh' hs'=>⟨.ref D,_,J2.turned (t':=s'.toks) (it:=C) (λb o hb e=>hs'.extBut b o hb e) hC1 hC2 (.inr hC3) hC4 hC5,Z,hq⟩⟩
def ud{i:Nat}{pos' spos:Pos}(N':List Str)(ix:List (Option Nat))(hN:X.N.Nodup)(hi':X.N[i]?=some x)(hx:X.env.scope.names.lookup x=some .local)
  (hB:Cm X.env.scope X.N N' ix scope=true) (hc:X.calm=true) (hi:PI X tg iter wi)
  (hg:∀C s H fp xe,PG (uc X N' scope C s H fp xe) tg g) (ht:∀C s H fp xe,PTs (uc X N' scope C s H fp xe) ifs tt) (he:∀C s H fp xe,PE (uc X N' scope C s H fp xe) elt te)
  (hsw:swapsWith (.ListComp elt [⟨tg,iter,ifs,0⟩] scope pos) (some (.Name x pos')) spos.line X.env=pure true)
  (hs:∀x,foldedSetIterable iter X.env x=pure x:=by intro _;rfl):PS X (.Assign [.Name x pos'] (.ListComp elt [⟨tg,iter,ifs,0⟩] scope pos) spos) (Δ (tLC ix wi g tt te) (QS i)):=by
 intro Y s σ H D0 I h;have B:=ö hB;rw[exec_Assign_Name_used _ _ _ _ hsw];refine M (Ut (M ?_));show wpAny _ X.A (do let _ <-comprehension (.ListComp elt [⟨tg,iter,ifs,0⟩] scope pos) scope X.env _ (newList []) false (eval iter X.env) (some (assign (.Name x pos') X.env))) _ _ s;refine M (iI (Ø (use:=some (assign (.Name x pos') X.env)) (Q:=λ_ s'=>SP X Y D0 .next s') Z hs (Jr λy hy hf=>I.ok.has y.1 (B.free y hy hf)) B.kind B.locs
  (jK (hi Y s σ H _ I h) λv s1 h1=>jK h1 λitv s2 h2=>?_)) (λ_ s' hq=>ao (ao hq)) λ_ _ e=>e)
 obtain⟨it,fp,tn,Z97,H2,e,I2,T,st2,f2,q⟩:=h2;subst e;refine ô (Q:=λx H1=>QS i x σ H1 D0.nx) B hc hg ht he I2 T st2 f2 q ?_;intro D C s' H' ys J2 hDn hq ⟨m,hn⟩ hC1 hC2 hC3 hC4 hC5;show wpAny _ X.A (assign (.Name x pos') X.env (.ref D)) _ _ _;refine wpAny_assign_Name (Ly (v:=.ref D) J2 hN hi' (.inl hx) Z (λs'' I'' hsb=>?_) (.inr hx));obtain⟨a,hsb,ha⟩:=hsb;have aC:C≠a:=by
  rcases ha with rfl|ha
  ·exact hC2
  ·exact λz=>hC4 x a ha z.symm
 exact⟨m,hn.sameBut hsb aC,λh'' hs''=>⟨_,_,I''.turned (t':=s''.toks) (it:=C) (λb o hb e=>hs''.extBut b o hb e) hC1 hC2 (.inr hC3) hC4 hC5,hq⟩⟩
end
section
variable{K:aK}{xs:List V}
def qN(Pv:Nat->List V->Hp->Prop)(h0:Pv 0 [] H1)(hl:∀i ys H,i<=xs.length->Pv i ys H->bG K H a xs/\ys.length<=sizeLine)
  (hs:∀i x ys H,xs[i]?=some x->Pv i ys H->g x (qd ix σ) H λσ2 H2=>tt σ2 H2 λb H3=>if b=true then te σ2 H3 λv H4=>Pv (i+1) (ys++[v]) H4 else Pv (i+1) ys H3)
  (hd:∀ys H,Pv xs.length ys H->∀p,H p=none->Q (.ref p) (cO H p (.lst ys))):lC ix g tt te σ H1 Q (Ä K a):=by
 refine⟨λi m ys H=>m=xs.length-i/\i<=xs.length/\Pv i ys H,⟨xs.length,by simp,dI _,h0⟩,?_⟩;rintro i m ys H ⟨rfl,hi,p⟩;obtain⟨q,z⟩:=hl i ys H hi p;by_cases hlt:i<xs.length
 ·refine .inr ⟨⟨xs,xs[i],q,by simp[hlt]⟩,z,Pv (i+1),λys' H' p'=>⟨xs.length-(i+1),by omega,Z,hlt,p'⟩,λx H' y=>?_⟩;obtain⟨e,y⟩:=y;subst e;exact hs i x ys _ (y xs q) p
 ·have e:i=xs.length:=by omega
  subst e;exact .inl ⟨⟨xs,q,aO _⟩,z,hd ys H p⟩
def vy{lo:Int}(Pv:Nat->List V->Hp->Prop)(h0:Pv 0 [] H1)(hl:∀i ys H,i<=n->Pv i ys H->ys.length<=sizeLine)
  (hs:∀i ys H,i<n->Pv i ys H->g (.int (lo+i)) (qd ix σ) H λσ2 H2=>tt σ2 H2 λb H3=>if b=true then te σ2 H3 λv H4=>Pv (i+1) (ys++[v]) H4 else Pv (i+1) ys H3)
  (hd:∀ys H,Pv n ys H->∀p,H p=none->Q (.ref p) (cO H p (.lst ys))):lC ix g tt te σ H1 Q (WK lo n):=by
 refine⟨λi m ys H=>m=n-i/\i<=n/\Pv i ys H,⟨n,by simp,dI _,h0⟩,?_⟩;rintro i m ys H ⟨rfl,hi,p⟩;have z:=hl i ys H hi p;by_cases hlt:i<n
 ·refine .inr ⟨hlt,z,Pv (i+1),λys' H' p'=>⟨n-(i+1),by omega,Z,hlt,p'⟩,λx H' y=>?_⟩;obtain⟨e,y⟩:=y;subst e y;exact hs i ys _ hlt p
 ·have e:i=n:=by omega
  subst e;exact .inl ⟨aO _,z,hd ys H p⟩
end
def a4q{K:aK}{xs:List V}(f:V->Option V)(hx:bG K H1 a xs)(hz:xs.length<=sizeLine)
  (hs:∀x H (N:Option V->Hp->Prop),x∈xs->aH H1 H->(∀H',aH H1 H'->N (f x) H')->g x (qd ix σ) H λσ2 H2=>tt σ2 H2 λb H3=>if b=true then te σ2 H3 λv H4=>N (some v) H4 else N none H3)
  (hd:∀H p,aH H1 H->H p=none->Q (.ref p) (cO H p (.lst (xs.filterMap f)))):lC ix g tt te σ H1 Q (Ä K a):=by
 refine qN (K:=K) (a:=a) (xs:=xs) (λi ys H=>ys=(xs.take i).filterMap f/\aH H1 H) ⟨Z,aH.refl _⟩ (λi ys H hi ⟨e,s⟩=>⟨s.seq hx,?_⟩) (λi x ys H hi ⟨e,s⟩=>?_) λys H ⟨e,s⟩ p hp=>?_
 ·subst e;refine cW (Tj _ _) (cW ?_ hz);rw[dZ];exact Ug _ _
 ·have hm:x∈xs:=jA hi;obtain⟨hil,hix⟩:=fG.mp hi;have et:xs.take (i+1)=xs.take i++[x]:=by rw[zO hil,hix]
  refine hs x H (λo H'=>match o with|some v=>(ys++[v]=(xs.take (i+1)).filterMap f/\aH H1 H')|none=>(ys=(xs.take (i+1)).filterMap f/\aH H1 H')) hm s λH' s'=>?_;cases ef:f x with
  |some v =>
   refine⟨?_,s'⟩;rw[e,et,xq];simp[ef]
  |none =>
   refine⟨?_,s'⟩;rw[e,et,xq];simp[ef]
 ·subst e;rw[gZ];exact hd H p s hp
def a2s{lo:Int}(f:Nat->Option V)(hz:n<=sizeLine)
  (hs:∀i H (N:Option V->Hp->Prop),i<n->aH H1 H->(∀H',aH H1 H'->N (f i) H')->g (.int (lo+i)) (qd ix σ) H λσ2 H2=>tt σ2 H2 λb H3=>if b=true then te σ2 H3 λv H4=>N (some v) H4 else N none H3)
  (hd:∀H p,aH H1 H->H p=none->Q (.ref p) (cO H p (.lst ((List.range n).filterMap f)))):lC ix g tt te σ H1 Q (WK lo n):=by
 refine vy (λi ys H=>ys=(List.range i).filterMap f/\aH H1 H) ⟨Z,aH.refl _⟩ (λi ys H hi ⟨e,s⟩=>?_) (λi ys H hi ⟨e,s⟩=>?_) λys H ⟨e,s⟩ p hp=>?_
 ·grind
 ·refine hs i H (λo H'=>match o with|some v=>(ys++[v]=(List.range (i+1)).filterMap f/\aH H1 H')|none=>(ys=(List.range (i+1)).filterMap f/\aH H1 H')) hi s λH' s'=>?_;cases ef:f i with
  |some v =>
   refine⟨?_,s'⟩;rw[e,Af,xq];simp[ef]
  |none =>
   refine⟨?_,s'⟩;rw[e,Af,xq];simp[ef]
 grind
mutual
inductive Pn(K:aK) (H:Hp):V->PyData->Prop
 |non:Pn K H .non .none
 |bl (b:Bool):Pn K H (.bl b) (.bool b)
 |int (i:Int):Pn K H (.int i) (.int i)
 |str (x:Str):Pn K H (.str x) (.str x)
 |lst {a:Addr}{xs:List V}{ds:List PyData}:bG K H a xs->uW K H xs ds->Pn K H (.ref a) (.list ds)
 |tup {a:Addr}{xs:List V}{ds:List PyData}:cG K H a xs->uW K H xs ds->Pn K H (.ref a) (.tuple ds)
inductive uW(K:aK) (H:Hp):List V->List PyData->Prop
 |nil:uW K H [] []
 |cons {x:V}{xs:List V}{d:PyData}{ds:List PyData}:Pn K H x d->uW K H xs ds->uW K H (x::xs) (d::ds)
end
def aH.wC{K:aK}{H:Hp}{xs:List V}(e:aH H H')(h:cG K H a xs):cG K H' a xs:=by
 rcases h with(h|⟨o,h⟩)|h
 ·exact .inl (.inl (e _ _ h))
 ·exact .inl (.inr ⟨o,e _ _ h⟩)
 ·exact .inr h
mutual
def Pn.reads{X:Cx}{Y:List (Addr×Obj)}{σ:St}{H:Hp}{s:Shared} (I:bH X Y σ H s):∀{v:V}{d:PyData}{u:Value},Pn X.K H v d->cP v u->∃as,Reads s.heap u d as
 |_,_,_,.non,r=>by cases r;exact⟨_,.none⟩
 |_,_,_,.bl b,r=>by cases r;exact⟨_,.bool b⟩
 |_,_,_,.int i,r=>by obtain⟨t,rfl⟩:=r;exact⟨_,.int i t⟩
 |_,_,_,.str x,r=>by obtain⟨t,rfl⟩:=r;exact⟨_,.str x t⟩
 |_,_,_,.lst h q,r=>by
  cases r
  obtain⟨cg,rv,⟨o,n,e,c,_,d⟩,_⟩:=I.list h
  obtain⟨as,ra⟩:=uW.reads I q rv
  exact⟨_,.list e c d (by simpa using ra)⟩
 |_,_,_,.tup h q,r=>by
  cases r
  obtain⟨cg,rv,⟨o,e,c,n,d⟩,_⟩:=I.tuple h
  obtain⟨as,ra⟩:=uW.reads I q rv
  exact⟨_,.tuple e c d (by simpa using ra)⟩
def uW.reads{X:Cx}{Y:List (Addr×Obj)}{σ:St}{H:Hp}{s:Shared} (I:bH X Y σ H s):∀{xs:List V}{ds:List PyData}{us:List Value},uW X.K H xs ds->cM xs us->∃as,ReadsAll s.heap us ds as
 |_,_,_,.nil,.nil=>⟨_,.nil⟩
 |_,_,_,.cons h q,.cons r t=>by
  obtain⟨as,ra⟩:=Pn.reads I h r
  obtain⟨bs,rb⟩:=uW.reads I q t
  exact⟨_,.cons ra rb⟩
end
theorem uW.ints{K:aK}{H:Hp}:∀ns:List Int,uW K H (ns.map V.int) (ns.map PyData.int)
 | []=>.nil
 |n::ns=>.cons (.int n) (uW.ints ns)
inductive Ω(K:aK)(neg:Bool)(x:V)(y:V)(H:Hp)(Q:VK):Prop
 |mk (d d':_) (_:Pn K H x d) (_:Pn K H y d') (_:SeqAt.shaped d=true) (_:SeqAt.shaped d'=true) (_:Q (.bl (if neg then !PyData.eqv d d' else PyData.eqv d d')) H)
def a2t(hu:X.A.units+64<cLine):uE X (compareOp .Eq) (Ω X.K false):=by
 intro Y s σ H x y v u Q I rx ry h;obtain⟨d,d',h1,h2,s1,s2,q⟩:=h;obtain⟨as,ra⟩:=h1.reads I rx;obtain⟨bs,rb⟩:=h2.reads I ry;exact eq_dataH ra rb s1 s2 hu ⟨.bl _,H,I,Z,q⟩
def a2u(hu:X.A.units+64<cLine):uE X (compareOp .NotEq) (Ω X.K true):=by
 intro Y s σ H x y v u Q I rx ry h;obtain⟨d,d',h1,h2,s1,s2,q⟩:=h;obtain⟨as,ra⟩:=h1.reads I rx;obtain⟨bs,rb⟩:=h2.reads I ry;exact ne_dataH ra rb s1 s2 hu ⟨.bl _,H,I,Z,q⟩
inductive Vn(K:aK)(neg:Bool)(x:V)(y:V)(H:Hp)(Q:VK):Prop
 |mk (d ds:_) (_:Pn K H x d) (_:Pn K H y (.list ds)) (_:SeqAt.shaped d=true) (_:SeqAt.shaped (.list ds)=true) (_:Q (.bl (if neg then !ds.any (λe=>PyData.eqv e d)else ds.any (λe=>PyData.eqv e d))) H)
def a2v(hu:X.A.units+65<cLine):uE X (compareOp .In) (Vn X.K false):=by
 intro Y s σ H x y v u Q I rx ry h;obtain⟨d,ds,h1,h2,s1,s2,q⟩:=h;obtain⟨as,ra⟩:=h1.reads I rx;obtain⟨bs,rb⟩:=h2.reads I ry;exact SeqAt.in_list_reads rb ra (N5 s2) (N5 s1) (room_in_shaped s1 hu) ⟨.bl _,H,I,Z,q⟩
def YM(hu:X.A.units+65<cLine):uE X (compareOp .NotIn) (Vn X.K true):=by
 intro Y s σ H x y v u Q I rx ry h;obtain⟨d,ds,h1,h2,s1,s2,q⟩:=h;obtain⟨as,ra⟩:=h1.reads I rx;obtain⟨bs,rb⟩:=h2.reads I ry;exact SeqAt.notIn_list_reads rb ra (N5 s2) (N5 s1) (room_in_shaped s1 hu) ⟨.bl _,H,I,Z,q⟩
def a2w:V->Option Value
 |.ty n=>some (.type n)
 |.ref a=>some (.ref a)
 |_=>none
def ø{c:V}{cv u:Value}(h:a2w c=some cv)(r:cP c u):u=cv:=by
 cases c with
 |ty n=>cases h;exact r
 |ref a=>cases h;exact r
 |_=>cases h
def Q5:jN X (.builtin "isinstance") (λxs H Q=>∃x c cv t b,xs=[x,c]/\a2w c=some cv/\sU X.K H x t/\PySem.W.kitOne X.K t cv=some b/\Q (.bl b) H):=by
 intro Y s σ H xs us Q I r h;obtain⟨x,c,cv,t,b,rfl,hc,ty,hk,q⟩:=h;obtain⟨u1,u2,rfl,r1,r2⟩:=vals2 r;obtain rfl:=ø hc r2;exact YB I r1 ty hk λtk=>⟨.bl b,H,I.tok tk,Z,q⟩
abbrev Cx.in1(X:Cx):Cx:={ X with A:=X.A.in1}
def bH.in1{Y:List (Addr×Obj)}{σ:St}{H:Hp}{s:Shared}(I:bH X Y σ H s):bH X.in1 Y σ H s :=
 ⟨⟨I.ok.mod,I.ok.kind,I.ok.glob,I.ok.blt,I.ok.above,I.ok.inj,I.ok.has,I.ok.cab,I.ok.hd,I.ok.frames,I.ok.stk,I.ok.exf,I.ok.bs,I.ok.ũ,I.ok.Uy,I.ok.Yu,I.ok.BX,I.ok.Ż⟩,I.os,I.bare,I.base,I.loc,I.cell,I.free,I.tW,I.pin,I.hok,I.len⟩
def bH.of_in1{H:Hp}(I:bH X.in1 Y σ H s):bH X Y σ H s :=
 ⟨⟨I.ok.mod,I.ok.kind,I.ok.glob,I.ok.blt,I.ok.above,I.ok.inj,I.ok.has,I.ok.cab,I.ok.hd,I.ok.frames,I.ok.stk,I.ok.exf,I.ok.bs,I.ok.ũ,I.ok.Uy,I.ok.Yu,I.ok.BX,I.ok.Ż⟩,I.os,I.bare,I.base,I.loc,I.cell,I.free,I.tW,I.pin,I.hok,I.len⟩
def oO(K:aK)(H:Hp)(xs:List V)(bs:List Bool):Prop:=Paired (λx b=>â K x H b) xs bs
theorem oO.get{K:aK}{H:Hp}:∀{xs:List V}{bs:List Bool}{i:Nat}{x:V},oO K H xs bs->xs[i]?=some x->∃b,bs[i]?=some b/\â K x H b
 |_,_,_,_,.nil,h=>by simp at h
 |_,_,0,_,.cons h r,e=>by
  grind
 |_,_,i+1,_,.cons h r,e=>by
  obtain⟨d,e1,q⟩:=oO.get (i:=i) r (by simpa using e)
  exact⟨d,by simpa using e1,q⟩
theorem oO.bls{K:aK}{H:Hp}:∀bs:List Bool,oO K H (bs.map V.bl) bs
 | []=>.nil
 |b::bs=>.cons Z (oO.bls bs)
def ù{H:Hp}{p:Addr}{ys:List V}{bs:List Bool}(hc:X.calm=true)(hq:bG X.K H p ys)(ht:oO X.K H ys bs)(f:GC X Y H it) :
  ∀(k i:Nat) (s:Shared),ys.length-i=k->bH X Y σ H s->s.heap.IsListIter it p i->(∀s',bH X Y σ H s'->R (.ok (.ret (.bool ((bs.drop i).all id)))) s')->
  codeAny (model X.prog X.w) X.A (.builtin "all.loop" ⟨[.ref it],[]⟩) R s:=by
 obtain⟨f0,f1,f2,f3,f4,f5⟩:=f;intro k
 induction k with
 |zero =>
  intro i s hk I st hR;obtain⟨cg,rv,pl,hz⟩:=I.list hq;have hl:=rv.length;refine rW F.entry_all_loop ?_;rw[tL Oi _];show wpAny _ X.A.in1 (pyNext (.ref it) >>= _) _ _ s;refine M (wpAny_pyNext_list_end (I.ok.hd hc) st pl.isList (by simp;omega) λh' eb=>?_);refine M (jY (ao ?_));have q:=hR _ (I.turned (t':=s.toks) (λb o hb e=>eb b o hb e) f0 f1 f3 f4 f5);have hlb:bs.length=ys.length:=(aY ht).symm;rw[List.drop_of_length_le (by omega)]at q;exact q
 |succ k ih =>
  intro i s hk I st hR;obtain⟨cg,rv,pl,hz⟩:=I.list hq;have hl:=rv.length;have hlt:i<ys.length:=by omega
  have hx:ys[i]?=some ys[i]:=by simp[hlt]
  obtain⟨u,hu,ru⟩:=rv.get hx;obtain⟨b,hb,tb⟩:=ht.get hx;refine rW F.entry_all_loop ?_;rw[tL Oi _];show wpAny _ X.A.in1 (pyNext (.ref it) >>= _) _ _ s;refine M (Tt st pl.isList (x:=u) (by grind) λh' st' sb=>?_);have I1:bH X Y σ H { s with heap:=h'}:=I.turned (t':=s.toks) (λb o hb e=>(sb.2 b hb).trans e) f0 f1 f3 f4 f5;have hdb:bs.drop i=b::bs.drop (i+1):=by
   obtain⟨hlb,eb⟩:=fG.mp hb;rw[Il hlb,eb]
  rw[hdb]at hR;have I1p:bH X (Y++wu [it] h') σ H { s with heap:=h'}:=I1.pinned (fp:=[it]) (λc hcc=>by rw[bw.mp hcc];exact⟨f0,f1,f2,f3,f4,f5⟩) λc hcc=>by
   rw[bw.mp hcc];obtain⟨o,e,c',d⟩:=st';grind
  refine M (ig (iI (U5 (X:=X.in1.nox) _ _ σ H ys[i] u (λc H'=>c=b/\H'=H) ((bH.in1 I1p).wish _) ru ⟨b,tb,Z,Z⟩) (λc s2 ⟨H',I2,e1,e2⟩=>?_) λ_ _ z=>False.elim z));rw[e2]at I2;subst e1;have I2':bH X (Y++wu [it] h') σ H s2:=bH.of_in1 I2.uT;have ú:bH X Y σ H s2:=I2'.xT;have st2:s2.heap.IsListIter it p (i+1):=st'.at λo e=>(I2'.pin (it,o) (gF _ (gF _ (tY (bw.mpr Z) e)))).1;refine M (xQ ?_);cases c with
  |true =>
   simp only[if_true];exact ao ⟨uP Oi _,ih (i+1) s2 (by omega) ú st2 λs' I'=>by simpa using hR s' I'⟩
  |false =>
   simp only[Bool.false_eq_true,if_false];refine M (jY (ao ?_));simpa using hR s2 ú
def YQ(hc:X.calm=true):jN X (.builtin "all") (λxs H Q=>∃p ys bs,xs=[.ref p]/\bG X.K H p ys/\oO X.K H ys bs/\Q (.bl (bs.all id)) H):=by
 intro Y s σ H xs us Q I r h;obtain⟨p,ys,bs,rfl,hq,ht,q⟩:=h;obtain⟨u,rfl,rx⟩:=vals1 r;cases rx;refine call_function_tree F.kind_all F.plain_all F.entry_all (F.args_all1 _) ?_;unfold Builtin.«all»;refine M (m:=oneArg "all" _) (ao ?_);obtain⟨cg,rv,pl,hz⟩:=I.list hq;refine M (xH pl.isList ?_);have I1:bH X Y σ H { s with heap:=s.heap.push { cls:=.type "list_iterator",data:=.fields #[.ref p,.int 0 0]}}:=I.kept (t':=s.toks) λb o e=>bL _ e;refine ao ⟨uP Oi _,ù hc hq ht (I.Jk (aO _) (I.hok.fresh (aO _))) ys.length 0 _ (Ak _) I1 ⟨_,bZ _ Z,Z,Z⟩ λs' I'=>?_⟩;exact⟨.bl _,H,I',Z,by simpa using q⟩
def û{H:Hp}{p:Addr}{ys:List V}{bs:List Bool}(hc:X.calm=true)(hq:bG X.K H p ys)(ht:oO X.K H ys bs)(f:GC X Y H it) :
  ∀(k i:Nat) (s:Shared),ys.length-i=k->bH X Y σ H s->s.heap.IsListIter it p i->(∀s',bH X Y σ H s'->R (.ok (.ret (.bool ((bs.drop i).any id)))) s')->
  codeAny (model X.prog X.w) X.A (.builtin "any.loop" ⟨[.ref it],[]⟩) R s:=by
 obtain⟨f0,f1,f2,f3,f4,f5⟩:=f;intro k
 induction k with
 |zero =>
  intro i s hk I st hR;obtain⟨cg,rv,pl,hz⟩:=I.list hq;have hl:=rv.length;refine rW F.entry_any_loop ?_;rw[tL Oj _];show wpAny _ X.A.in1 (pyNext (.ref it) >>= _) _ _ s;refine M (wpAny_pyNext_list_end (I.ok.hd hc) st pl.isList (by simp;omega) λh' eb=>?_);refine M (jY (ao ?_));have q:=hR _ (I.turned (t':=s.toks) (λb o hb e=>eb b o hb e) f0 f1 f3 f4 f5);have hlb:bs.length=ys.length:=(aY ht).symm;rw[List.drop_of_length_le (by omega)]at q;exact q
 |succ k ih =>
  intro i s hk I st hR;obtain⟨cg,rv,pl,hz⟩:=I.list hq;have hl:=rv.length;have hlt:i<ys.length:=by omega
  have hx:ys[i]?=some ys[i]:=by simp[hlt]
  obtain⟨u,hu,ru⟩:=rv.get hx;obtain⟨b,hb,tb⟩:=ht.get hx;refine rW F.entry_any_loop ?_;rw[tL Oj _];show wpAny _ X.A.in1 (pyNext (.ref it) >>= _) _ _ s;refine M (Tt st pl.isList (x:=u) (by grind) λh' st' sb=>?_);have I1:bH X Y σ H { s with heap:=h'}:=I.turned (t':=s.toks) (λb o hb e=>(sb.2 b hb).trans e) f0 f1 f3 f4 f5;have hdb:bs.drop i=b::bs.drop (i+1):=by
   obtain⟨hlb,eb⟩:=fG.mp hb;rw[Il hlb,eb]
  rw[hdb]at hR;have I1p:bH X (Y++wu [it] h') σ H { s with heap:=h'}:=I1.pinned (fp:=[it]) (λc hcc=>by rw[bw.mp hcc];exact⟨f0,f1,f2,f3,f4,f5⟩) λc hcc=>by
   rw[bw.mp hcc];obtain⟨o,e,c',d⟩:=st';grind
  refine M (ig (iI (U5 (X:=X.in1.nox) _ _ σ H ys[i] u (λc H'=>c=b/\H'=H) ((bH.in1 I1p).wish _) ru ⟨b,tb,Z,Z⟩) (λc s2 ⟨H',I2,e1,e2⟩=>?_) λ_ _ z=>False.elim z));rw[e2]at I2;subst e1;have I2':bH X (Y++wu [it] h') σ H s2:=bH.of_in1 I2.uT;have ú:bH X Y σ H s2:=I2'.xT;have st2:s2.heap.IsListIter it p (i+1):=st'.at λo e=>(I2'.pin (it,o) (gF _ (gF _ (tY (bw.mpr Z) e)))).1;refine M (xQ ?_);cases c with
  |false =>
   simp only[Bool.false_eq_true,if_false];exact ao ⟨uP Oj _,ih (i+1) s2 (by omega) ú st2 λs' I'=>by simpa using hR s' I'⟩
  |true =>
   simp only[if_true];refine M (jY (ao ?_));simpa using hR s2 ú
def YS(hc:X.calm=true):jN X (.builtin "any") (λxs H Q=>∃p ys bs,xs=[.ref p]/\bG X.K H p ys/\oO X.K H ys bs/\Q (.bl (bs.any id)) H):=by
 intro Y s σ H xs us Q I r h;obtain⟨p,ys,bs,rfl,hq,ht,q⟩:=h;obtain⟨u,rfl,rx⟩:=vals1 r;cases rx;refine call_function_tree F.kind_any F.plain_any F.entry_any (F.args_any1 _) ?_;unfold Builtin.«any»;refine M (m:=oneArg "any" _) (ao ?_);obtain⟨cg,rv,pl,hz⟩:=I.list hq;refine M (xH pl.isList ?_);have I1:bH X Y σ H { s with heap:=s.heap.push { cls:=.type "list_iterator",data:=.fields #[.ref p,.int 0 0]}}:=I.kept (t':=s.toks) λb o e=>bL _ e;refine ao ⟨uP Oj _,û hc hq ht (I.Jk (aO _) (I.hok.fresh (aO _))) ys.length 0 _ (Ak _) I1 ⟨_,bZ _ Z,Z,Z⟩ λs' I'=>?_⟩;exact⟨.bl _,H,I',Z,by simpa using q⟩
structure Dn(K:aK)(mg:Str->Option Value)(x:Str)(st:Stmt)(ps:List Str) where
 f:Addr
 fd:FuncData
 F:Fun K x x st f fd
 b:Binds K fd ps []
 m:mg x=some (.ref f)
 bd:∀(s:Shared) (us:List Value),us.length=ps.length->BindsTo s fd ⟨us,[]⟩ (ps.zip us)
structure Bl(mg:Str->Option Value):Prop where
 get:∀x:Str,x∈(["len","range","list","isinstance","int","bool","str","all","any","sorted","set","min","max","tuple","enumerate","dict","ValueError"]:List Str)->mg x=none
def Bl.len{mg:Str->Option Value}(B:Bl mg):mg "len" = none:=B.get _ (by grind)
def Bl.range{mg:Str->Option Value}(B:Bl mg):mg "range" = none:=B.get _ (by decide)
def Bl.list{mg:Str->Option Value}(B:Bl mg):mg "list" = none:=B.get _ (by decide)
def Bl.isinstance{mg:Str->Option Value}(B:Bl mg):mg "isinstance" = none:=B.get _ (by decide)
def Bl.int{mg:Str->Option Value}(B:Bl mg):mg "int" = none:=B.get _ (by decide)
def Bl.bool{mg:Str->Option Value}(B:Bl mg):mg "bool" = none:=B.get _ (by decide)
def Bl.all{mg:Str->Option Value}(B:Bl mg):mg "all" = none:=B.get _ (by decide)
def Bl.any{mg:Str->Option Value}(B:Bl mg):mg "any" = none:=B.get _ (by decide)
def Bl.sorted{mg:Str->Option Value}(B:Bl mg):mg "sorted" = none:=B.get _ (by decide)
def Bl.set{mg:Str->Option Value}(B:Bl mg):mg "set" = none:=B.get _ (by decide)
def Bl.min{mg:Str->Option Value}(B:Bl mg):mg "min" = none:=B.get _ (by decide)
def Bl.max{mg:Str->Option Value}(B:Bl mg):mg "max" = none:=B.get _ (by decide)
def Bl.tuple{mg:Str->Option Value}(B:Bl mg):mg "tuple" = none:=B.get _ (by decide)
def Bl.enumerate{mg:Str->Option Value}(B:Bl mg):mg "enumerate" = none:=B.get _ (by decide)
def Bl.dict{mg:Str->Option Value}(B:Bl mg):mg "dict" = none:=B.get _ (by decide)
def Ge{K:aK}:PySem.W.kitOne K (.type "int") (.type "int")=some true:=by rfl
def Cp{K:aK}:PySem.W.kitOne K (.type "int") (.type "bool")=some false:=by rfl
def Q6{K:aK}:PySem.W.kitOne K (.type "NoneType") (.type "int")=some false:=by rfl
def Pq{K:aK}:PySem.W.kitOne K (.type "NoneType") (.type "bool")=some false:=by rfl
section
variable{K:aK}
def bQ(e:X.K=K):IxR X (a2k K):=by subst e;exact Ρ
def aM(e:X.K=K):IxR X (ê K):=by subst e;exact a2l
def η(e:X.K=K)(hu:X.A.units+64<cLine):uE X (compareOp .Eq) (Ω K false):=by subst e;exact a2t hu
def W5(e:X.K=K)(hu:X.A.units+64<cLine):uE X (compareOp .NotEq) (Ω K true):=by subst e;exact a2u hu
def uI(e:X.K=K)(hu:X.A.units+65<cLine):uE X (compareOp .In) (Vn K false):=by subst e;exact a2v hu
def jP(e:X.K=K)(hu:X.A.units+65<cLine):uE X (compareOp .NotIn) (Vn K true):=by subst e;exact YM hu
def θ(e:X.K=K):uE X (compareOp .In) (rIn K false):=by subst e;exact YG
def Vo(e:X.K=K):uE X (compareOp .NotIn) (rIn K true):=by subst e;exact Ph
def a5X(K:aK):List V->Hp->VK->Prop:=λxs H Q=>∃p ys,xs=[.ref p]/\(bG K H p ys\/cG K H p ys)/\Q (.int ys.length) H
def cQ(e:X.K=K):jN X (.builtin "len") (a5X K):=by subst e;exact Pj
def ξ(K:aK):List V->Hp->VK->Prop:=λxs H Q=>∃p ys,xs=[.ref p]/\(bG K H p ys\/cG K H p ys)/\∀l,H l=none->Q (.ref l) (cO H l (.lst ys))
def Vp(e:X.K=K):jN X (.type "list") (ξ K):=by subst e;exact Pk
def a4r(K:aK):List V->Hp->VK->Prop:=λxs H Q=>∃x c cv t b,xs=[x,c]/\a2w c=some cv/\sU K H x t/\PySem.W.kitOne K t cv=some b/\Q (.bl b) H
def jQ(e:X.K=K):jN X (.builtin "isinstance") (a4r K):=by subst e;exact Q5
def a5Y(K:aK):List V->Hp->VK->Prop:=λxs H Q=>∃p ys bs,xs=[.ref p]/\bG K H p ys/\oO K H ys bs/\Q (.bl (bs.all id)) H
def a5Z(K:aK):List V->Hp->VK->Prop:=λxs H Q=>∃p ys bs,xs=[.ref p]/\bG K H p ys/\oO K H ys bs/\Q (.bl (bs.any id)) H
def YT(e:X.K=K)(hc:X.calm=true):jN X (.builtin "all") (a5Y K):=by subst e;exact YQ hc
def YW(e:X.K=K)(hc:X.calm=true):jN X (.builtin "any") (a5Z K):=by subst e;exact YS hc
def cX{l:Expr}{tl:TE}(e:X.K=K)(hl:PE X l tl):PI X tg l (a1A K tl):=by subst e;exact Ε hl
def Cq{l:Expr}{tl:TE}(e:X.K=K)(hl:PE X l tl):PI X tg l (a3V K tl):=by subst e;exact a2b hl
def a6a(K:aK)(ta:TE):TT:=λσ H Q=>ta σ H λx H'=>∃k,â K x H' k/\Q k H'
def gw{a:Expr}{ta:TE}(e:X.K=K)(ha:PE X a ta)(he:∀whole,isTrue a X.env whole=(do let v <-whole;standAt a.pos;holding [v] (truthy v))):PT X a (a6a K ta):=by subst e;exact ã ha he
def jy{t:TGs}(e:X.K=K)(hc:X.calm=true)(h:PGs X es t)
  (hn:(assignEach es X.env).length=n:=by rfl) (hst:(assignEach es X.env).findIdx? (·.1)=none:=by rfl):PG X (.Tuple es k pos) (a3U K n t):=by subst e;exact a1Z hc h hn hst
def wD{o:Expr}{to:TE}{name:Str}{apos cpos:Pos}{T id:String}(e:X.K=K)(pa:PlainAttrs T)(slot:Slot T name id)(hty:typeOf (.builtin id)=pure (.type "method_descriptor"))(hm:MtR X id r)(ho:PE X o to)
  (hbase:attributeBase o name X.env (eval o X.env)=eval o X.env:=by rfl) (hline:(apos.endLine==cpos.line)=true:=by rfl):PE X (.Call (.Attribute o name apos) [] [] cpos) (a4k K T r to):=by subst e;exact a2o pa slot hty hm ho hbase hline
def uX{o e:Expr}{to:TE}{t:TA}{name:Str}{apos cpos:Pos}{T id:String}(e0:X.K=K)(pa:PlainAttrs T)(slot:Slot T name id)(hty:typeOf (.builtin id)=pure (.type "method_descriptor"))(hm:MtR X id r)(ho:PE X o to)(ha:PA X (e::es) t)
  (hbase:attributeBase o name X.env (eval o X.env)=eval o X.env:=by rfl)
  (hfew:((backTo cpos (starEach (e::es) X.env)).all (λx=>!x.1)&&(backToKw cpos (keywordEach [] X.env)).all (λx=>x.1.isSome)
   && decide ((e::es).length+([]:List Keyword).length+(if([]:List Keyword).isEmpty then 0 else 1)<30))=true:=by rfl)
  (hline:(apos.endLine==cpos.line)=true:=by rfl) (hs:starEach (e::es) X.env=(false,eval e X.env)::starEach es X.env:=by rfl) (hplain:(backTo cpos (starEach es X.env)).any (·.1)=false:=by rfl) :
  PE X (.Call (.Attribute o name apos) (e::es) [] cpos) (tBM K T r to t):=by subst e0;exact a4l pa slot hty hm ho ha hbase hfew hline hs hplain
end
inductive a4s(t u:TS)(D:Ends)(σ:St)(H:Hp):Prop
 |mk (Z97:St->Hp->Prop) (_:t { D with nx:=Z97} σ H) (_:∀σ' H',Z97 σ' H'->u D σ' H')
def j4{st:Stmt}{rest:List Stmt}{t u:TS}(h1:PS X st t)(h2:S7 X rest u):S7 X (st::rest) (a4s t u):=by
 intro Y s σ H D I h;obtain⟨Z97,q1,q2⟩:=h;refine Ud (jK (h1 Y s σ H { D with nx:=Z97} I q1) λf s1 q=>?_);cases f with
 |next =>
  obtain⟨σ',H',I',q⟩:=q;exact h2 Y s1 σ' H' D I' (q2 σ' H' q)
 |ret v=>exact q
 |brk=>exact q
 |cont=>exact q
structure gV(H:Hp)(p:Addr)(o:HO)(H':Hp):Prop where
 fresh:H p=none
 here:H' p=some o
 rest:∀b,b≠p->H' b=H b
def gV.oF{H:Hp}{p:Addr}(h:H p=none):gV H p o (cO H p o):=⟨h,eG,λ_ hb=>aZ hb⟩
def gV.same{H:Hp}{p:Addr}(n:gV H p o H'):aH H H':=λb u e=>(n.rest b (dU e n.fresh)).trans e
def gV.ne{H:Hp}{p b:Addr}{u:HO}(n:gV H p o H')(h:H b=some u):b≠p:=dU h n.fresh
structure wF(H:Hp)(l:Addr)(o:HO)(H':Hp):Prop where
 here:H' l=some o
 rest:∀b,b≠l->H' b=H b
def wF.oF{H:Hp}{l:Addr}:wF H l o (cO H l o):=⟨eG,λ_ hb=>aZ hb⟩
section
variable{K:aK}{t:TA}
def ý(t:TA):TE:=λσ H Q=>t σ H λxs H1=>xs.length<=1000/\∀p H',gV H1 p (.tup xs) H'->Q (.ref p) H'
def a4t(t:TA):TE:=λσ H Q=>t σ H λxs H1=>xs.length<=1000/\∀p H',gV H1 p (.lst xs) H'->Q (.ref p) H'
def bx{x1}(h:PA X es t):PE X (.Tuple es x1 pos) (ý t):=by
 intro Y s σ H Q I hq;refine wpAny_Tuple_spliced (jK (h pos Y s σ H _ I hq) λus s1 ⟨xs,H1,I1,r,z,q⟩=>?_);have z':xs.length<=sizeLine:=dH (cC z);refine⟨by rw[<-r.length];exact z',?_⟩;have hf:H1 s1.heap.objs.size=none:=I1.hok.fresh (aO _);exact⟨.ref s1.heap.objs.size,cO H1 s1.heap.objs.size (.tup xs),I1.laid (t':=s1.toks) (λb u e=>bL _ e) (aO _) ⟨z',us,r,⟨_,bZ _ Z,Z,_,Z⟩⟩,Z,q _ _ (gV.oF hf)⟩
def cJ(h:PA X es t):PE X (.List es pos) (a4t t):=by
 intro Y s σ H Q I hq;refine wpAny_List_spliced (jK (h pos Y s σ H _ I hq) λus s1 ⟨xs,H1,I1,r,z,q⟩=>?_);have z':xs.length<=sizeLine:=dH (cC z);refine⟨by rw[<-r.length];exact z',?_⟩;have hf:H1 s1.heap.objs.size=none:=I1.hok.fresh (aO _);exact⟨.ref s1.heap.objs.size,cO H1 s1.heap.objs.size (.lst xs),I1.laid (t':=s1.toks) (λb u e=>bL _ e) (aO _) ⟨z',us,0,r,bZ _ Z⟩,Z,q _ _ (gV.oF hf)⟩
def uE.weak{f:Value->Value->Sem Value}{r r':R2}(h:uE X f r)(m:∀x y H Q,r' x y H Q->r x y H Q):uE X f r':=λY s σ H x y v u Q I rx ry q=>h Y s σ H x y v u Q I rx ry (m x y H Q q)
def jN.weak{f:Value}{r r':List V->Hp->VK->Prop}(h:jN X f r)(m:∀xs H Q,r' xs H Q->r xs H Q):jN X f r':=λY s σ H xs us Q I rs q=>h Y s σ H xs us Q I rs (m xs H Q q)
inductive a4u(x:V)(y:V)(H:Hp)(Q:VK):Prop
 |mk (l b xs zs:_) (_:x=.ref l) (_:y=.ref b) (_:H l=some (.lst xs)) (_:H b=some (.lst zs)) (_:xs.length+zs.length<=1000) (_:∀p H',gV H p (.lst (xs++zs)) H'->Q (.ref p) H')
def lU:uE X (binaryOp .Add) a4u:=a2q.weak λx y H Q ⟨l,b,xs,zs,e1,e2,h1,h2,z,q⟩=>⟨l,b,xs,zs,e1,e2,h1,h2,dH (cC z),λp hp=>q p _ (gV.oF hp)⟩
inductive a6b(K:aK)(x:V)(lo:Option Int)(hi:Option Int)(H:Hp)(Q:VK):Prop
 |mk (a xs:_) (_:x=.ref a) (_:bG K H a xs) (_:∀p H',gV H p (.lst (uV xs lo hi)) H'->Q (.ref p) H')
def xX(e:X.K=K):SlR X (a6b K):=by
 subst e;exact λY s σ H x v vl vu lo hi sl Q I rx hs pl pu ⟨a,xs,e,h,q⟩=>Τ Y s σ H x v vl vu lo hi sl Q I rx hs pl pu ⟨a,xs,e,h,λp hp=>q p _ (gV.oF hp)⟩
inductive a2x(K:aK)(xs:List V)(H:Hp)(Q:VK):Prop
 |mk (p ys:_) (_:xs=[.ref p]) (_:(bG K H p ys\/cG K H p ys)) (_:∀l H',gV H l (.lst ys) H'->Q (.ref l) H')
def wG(e:X.K=K):jN X (.type "list") (a2x K):=(Vp e).weak λxs H Q ⟨p,ys,e,h,q⟩=>⟨p,ys,e,h,λl hl=>q l _ (gV.oF hl)⟩
def Å.weak{id:String}{r':V->List V->Hp->VK->Prop}(h:Å X id r)(m:∀x xs H Q,r' x xs H Q->r x xs H Q):Å X id r':=λY s σ H x xs v us Q I rx rs q=>h Y s σ H x xs v us Q I rx rs (m x xs H Q q)
inductive a1C(x:V)(vs:List V)(H:Hp)(Q:VK):Prop
 |mk (l xs y:_) (_:x=.ref l) (_:vs=[y]) (_:H l=some (.lst xs)) (_:xs.length<1000) (_:∀H',wF H l (.lst (xs++[y])) H'->Q .non H')
def lD:Å X "list.append" a1C:=YH.weak λx vs H Q ⟨l,xs,y,e1,e2,h,z,q⟩=>⟨l,xs,y,e1,e2,h,cC (dH z),q _ wF.oF⟩
end
def Pr{K:aK}{xs:List V}(f:V->Option V)(hx:bG K H1 a xs)(hz:xs.length<=1000)
  (hs:∀x H (N:Option V->Hp->Prop),x∈xs->aH H1 H->(∀H',aH H1 H'->N (f x) H')->g x (qd ix σ) H λσ2 H2=>tt σ2 H2 λb H3=>if b=true then te σ2 H3 λv H4=>N (some v) H4 else N none H3)
  (hd:∀H p H',aH H1 H->gV H p (.lst (xs.filterMap f)) H'->Q (.ref p) H'):lC ix g tt te σ H1 Q (Ä K a) :=
 a4q f hx (dH (cC hz)) hs λH p s hp=>hd H p _ s (gV.oF hp)
def ο{lo:Int}(f:Nat->Option V)(hz:n<=1000)
  (hs:∀i H (N:Option V->Hp->Prop),i<n->aH H1 H->(∀H',aH H1 H'->N (f i) H')->g (.int (lo+i)) (qd ix σ) H λσ2 H2=>tt σ2 H2 λb H3=>if b=true then te σ2 H3 λv H4=>N (some v) H4 else N none H3)
  (hd:∀H p H',aH H1 H->gV H p (.lst ((List.range n).filterMap f)) H'->Q (.ref p) H'):lC ix g tt te σ H1 Q (WK lo n) :=
 a2s f (dH (cC hz)) hs λH p s hp=>hd H p _ s (gV.oF hp)
end L2
namespace Lw
open L2
variable{H:Hp}{ns:List Int}{K:aK}{a:Addr}
def qX{p:Addr}(h:H p=none)(o:HO):aH H (cO H p o):=λb u q=>by rw[aZ (dU q h)];exact q
theorem Cr{α β:Type}{f:α->Option β}{g:α->β}:∀{l:List α},(∀x∈l,f x=some (g x))->l.filterMap f=l.map g
 | [],_=>rfl
 |x::r,h=>by
  rw[NP (h x aW),cL,Cr λy hy=>h y (bM _ hy)]
theorem Et{f:V->Option V}{p:Int->Bool}:∀{ns:List Int},(∀v∈ns,f (.int v)=if p v=true then some (.int v)else none)->(ns.map V.int).filterMap f=(ns.filter p).map V.int
 | [],_=>rfl
 |v::r,h=>by
  have ih:=Et (f:=f) (p:=p) (ns:=r) λy hy=>h y (bM _ hy)
  grind
def oR{k:Int}(h0:0<=k)(h:k<(ns.length:Int)):S8 (ns.map V.int) k=some (.int (ns.getD k.toNat 0)):=by
 have q:S8 (ns.map V.int) ((k.toNat:Nat):Int)=some (.int (ns.getD k.toNat 0)):=eV (by
  grind)
 grind
def Æ(K:aK)(H:Hp)(a:Addr)(ns:List Int):Prop:=(∃o,H a=some (.kj o (.lst (ns.map V.int))))\/
 ∃(o:Obj) (cg:Array Value) (n:Nat),K.lookup a=some o/\o.cls=.type "list" /\o.dict=none/\o.data=.seq cg n/\cg.size<=sizeLine/\cM (ns.map V.int) cg.toList
def Æ.seq(h:Æ K H a ns):bG K H a (ns.map V.int):=by
 rcases h with⟨o,h⟩|h
 ·exact .inl (.inr ⟨o,h⟩)
 ·exact .inr h
def Æ.of(hO:Only H)(h:bG K H a (ns.map V.int)):Æ K H a ns:=by
 rcases h with(h|⟨o,h⟩)|h
 ·rcases hO a with z|⟨ob,xs,z⟩
  ·grind
  grind
 ·exact .inl ⟨o,h⟩
 ·exact .inr h
def Æ.same{H':Hp}(e:aH H H')(h:Æ K H a ns):Æ K H' a ns:=by
 rcases h with⟨o,h⟩|h
 ·exact .inl ⟨o,e _ _ h⟩
 ·exact .inr h
inductive a1D(K:aK)(vs:List V)(H:Hp)(Q:VK)(u_3:XK):Prop
 |mk (a:Addr) (ns:List Int) (_:vs=[.ref a]) (_:Æ K H a ns) (_:ns.length<=63) (_:∀H',Q (.bl true) H')
end Lw
namespace L2
open PyProof.Rows
variable{K:aK}{mg:Str->Option Value}{k:Nat}
def Q7{h:Heap}{x:Str}{st:Stmt}{ps:List Str}{f:Addr}{oc:Value}{od an:Option Addr}{osl:Array (Option Value)}{kV doc pm cZ ct:Value}(X:K.In h)(G:h.Ns mainGlobals mg)
  (a:PySem.W.nsIn K mainGlobals x=some (some (.ref f))) (l:K.lookup f=some ⟨oc,od,.func (PySem.W.fnOf x x (dR st) (dB st) (aF st) .none kV doc pm an cZ ct),osl⟩) (c:PySem.W.codeIn K cZ x=true) (k:PySem.W.keepIn K (.ref f)=true)
  (hb:∀(kV doc pm:Value) (an:Option Addr) (cZ ct:Value) (us:List Value),us.length=ps.length->bindArgs (PySem.W.fnOf x x (dR st) (dB st) (aF st) .none kV doc pm an cZ ct) ⟨us,[]⟩=pure (ps.zip us)) :
  Nonempty (Dn K mg x st ps) :=
 have F:=Vl (st:=st) l c k
 ⟨⟨f,_,F,F.binds hb,Jd X G a,λs us hl=>.of_eq (hb _ _ _ _ _ _ us hl)⟩⟩
def a4v{h:Heap}(X:K.In h)(G:h.Ns mainGlobals mg)
  (z1:PySem.W.nsIn K mainGlobals "len" = some none) (z2:PySem.W.nsIn K mainGlobals "range" = some none) (z3:PySem.W.nsIn K mainGlobals "list" = some none) (z4:PySem.W.nsIn K mainGlobals "isinstance" = some none) (z5:PySem.W.nsIn K mainGlobals "int" = some none)
  (z6:PySem.W.nsIn K mainGlobals "bool" = some none) (z7:PySem.W.nsIn K mainGlobals "str" = some none) (z8:PySem.W.nsIn K mainGlobals "all" = some none) (z9:PySem.W.nsIn K mainGlobals "any" = some none) (z10:PySem.W.nsIn K mainGlobals "sorted" = some none)
  (z11:PySem.W.nsIn K mainGlobals "set" = some none) (z12:PySem.W.nsIn K mainGlobals "min" = some none) (z13:PySem.W.nsIn K mainGlobals "max" = some none) (z14:PySem.W.nsIn K mainGlobals "tuple" = some none) (z15:PySem.W.nsIn K mainGlobals "enumerate" = some none)
  (z16:PySem.W.nsIn K mainGlobals "dict" = some none) (z17:PySem.W.nsIn K mainGlobals "ValueError" = some none):Bl mg:=by
 refine⟨λx hx=>?_⟩;simp only[List.mem_cons,List.not_mem_nil,or_false]at hx;rcases hx with rfl|rfl|rfl|rfl|rfl|rfl|rfl|rfl|rfl|rfl|rfl|rfl|rfl|rfl|rfl|rfl|rfl
 ·exact kJ X G z1
 ·exact kJ X G z2
 ·exact kJ X G z3
 ·exact kJ X G z4
 ·exact kJ X G z5
 ·exact kJ X G z6
 ·exact kJ X G z7
 ·exact kJ X G z8
 ·exact kJ X G z9
 ·exact kJ X G z10
 ·exact kJ X G z11
 ·exact kJ X G z12
 ·exact kJ X G z13
 ·exact kJ X G z14
 ·exact kJ X G z15
 ·exact kJ X G z16
 ·exact kJ X G z17
def a2y{P:Program}{w:World}{fa:Addr}{st:Stmt}{sp:Sp}{x:Str}(hfa:mg "law" = some (.ref fa))(d:Dn K mg "law" st [x])(F:∀base:Heap,bh P w K mg base gj k d.f d.fd [x] sp) :
  ∃fd:FuncData,(∀(s:Shared) (u:Value),BindsTo s fd ⟨[u],[]⟩ [(x,u)])/\∀base:Heap,K.In base->base.Ns mainGlobals mg->bh P w K mg base gj k fa fd [x] sp:=by
 have e:fa=d.f:=by
  have:=hfa.symm.trans d.m;have:=gh this;cases this;rfl
 subst e;exact⟨d.fd,λs u=>d.bd s [u] Z,λbase _ _=>F base⟩
def Ite(K:aK)(a:Addr):It :=
 ⟨λi H=>∃xs x,bG K H a xs/\xs[i]?=some x,λi H x H'=>∃p y,x=.ref p/\gV H p (.tup [.int i,y]) H'/\∀xs,bG K H a xs->xs[i]?=some y,λi H=>∃xs,bG K H a xs/\xs.length<=i⟩
def YX{P:Program}{w:World}{elts:List Expr}{pos:Pos}(a it e:Addr)(hei:e≠it):Turn P w K (.Tuple elts k pos) (Ite K a) [e,it] e (λi h=>(∃old,IsEnum h e it i old)/\h.IsListIter it a i) where
 mem:=by simp
 obj:=λi h st b hb=>by
  obtain⟨⟨old,he⟩,hit⟩:=st
  rcases cH.mp hb with rfl|hb
  ·grind
  ·rw[bw.mp hb]
   obtain⟨o,e1,c,d⟩:=hit
   grind
 keep:=λi h h' st kk=>by
  obtain⟨⟨old,he⟩,hit⟩:=st
  exact⟨⟨old,kk e (by simp) _ he⟩,hit.at λo q=>kk it (by simp) o q⟩
 item:=by
  intro X hP hw hK hc i Y s σ H E I hf st hg
  subst hP hw hK
  obtain⟨xs,x,hq,hx⟩:=hg
  obtain⟨cg,rv,pl,hz⟩:=I.list hq
  obtain⟨u,hu,ru⟩:=rv.get hx
  obtain⟨⟨old,he⟩,hit⟩:=st
  obtain⟨f0,f1,f2,f3,f4,f5⟩:=hf e (by simp)
  obtain⟨g0,g1,g2,g3,g4,g5⟩:=hf it (by simp)
  refine wpAny_pyNext_enum_item he hit pl.isList (x:=u) (by grind) hei λh' ho hit' hT hsz hk=>?_
  refine⟨_,Z,Ò ho λh2 he2 hs2=>?_⟩
  have eT:s.heap.objs.size≠e:=gG (aX he)
  have iT:s.heap.objs.size≠it:=by
   obtain⟨o,e1,_⟩:=hit
   exact gG (aX e1)
  have hT2:h2.get? s.heap.objs.size=some { cls:=.type "tuple",data:=.seq #[.int i s.toks,u]}:=(hs2.2 _ eT).trans hT
  have kp:∀b o,b≠e->b≠it->s.heap.get? b=some o->h2.get? b=some o:=λb o h1 h2' q=>(hs2.2 b h1).trans (hk b o h1 h2' q)
  have I1:bH X Y σ H { s with heap:=h2,toks:=s.toks+1}:=by
   refine I.step (g':=s.gens) (d':=s.drawn) (H':=H) (ch:=[e,it]) (λb hb=>?_) (λb o _ _ hc q _=>kp b o (λz=>hc (by simp[z])) (λz=>hc (by simp[z])) q) (λb o _ _ hc q _=>⟨o.slots,kp b o (λz=>hc (by simp[z])) (λz=>hc (by simp[z])) q⟩) (λ_ _ _ _ n=>n)
    (λb o hc q=>⟨o,kp b o (λz=>hc (by simp[z])) (λz=>hc (by simp[z])) q⟩) (λ_ _ q=>q) (λ_ _ _ q=>q) (λb ps q=>⟨#[],by rw[q];simp⟩) (λm hm=>?_) (λb o q=>?_) I.bare
   ·grind
   ·obtain⟨o,es,ep,q,r⟩:=hm
    exact⟨o,es,ep,kp _ o (Ne.symm f1) (Ne.symm g1) q,r⟩
   ·have nb:∀c v,H c=some v->c≠e/\c≠it:=λc v q=>⟨dU q f0,dU q g0⟩
    refine(I.hok b o q).stay (λc v hcc r=>kp c v ?_ ?_ r) (λ_ q=>q) λ_ _ q=>q
    ·grind
    grind
  have hfree:H s.heap.objs.size=none:=I.hok.fresh (aO _)
  have I2:bH X Y σ (cO H s.heap.objs.size (.tup [.int i,x])) { s with heap:=h2,toks:=s.toks+1}:=by
   refine bH.track I1 hfree I.sz (gG I.lt) (λy c q=>?_) (λp hp=>cu (aX (I.pin p hp).1)) ?_
   ·obtain⟨v,oc,q1,_⟩:=I.cell y c q
    exact cu (aX q1)
   ·exact⟨(by show 2<=sizeLine;decide),[.int i s.toks,u],.cons ⟨_,Z⟩ (.cons ru .nil),⟨_,hT2,Z,_,Z⟩⟩
  refine⟨.ref s.heap.objs.size,_,I2,Z,⟨_,x,Z,gV.oF hfree,λys hy=>by rw[I.xR hy hq];exact hx⟩,⟨⟨u,?_⟩,hit'.at λo q=>(hs2.2 it (Ne.symm hei)).trans q⟩,λb hb=>?_⟩
  ·grind
  ·rcases cH.mp hb with rfl|hb
   ·rw[aZ (Ne.symm eT)];exact f0
   ·rw[bw.mp hb,aZ (Ne.symm iT)];exact g0
 done:=by
  intro X hP hw hK hc i Y s σ H E I hf st hg
  subst hP hw hK
  obtain⟨xs,hq,hx⟩:=hg
  obtain⟨cg,rv,pl,hz⟩:=I.list hq
  obtain⟨⟨old,he⟩,hit⟩:=st
  obtain⟨g0,g1,g2,g3,g4,g5⟩:=hf it (by simp)
  have hl:=rv.length
  exact wpAny_pyNext_enum_end (I.ok.hd hc) he hit pl.isList (by simp;omega) λh' eb=>⟨Z,I.turned (t':=s.toks) (λb o hb q=>eb b o hb q) g0 g1 g3 g4 g5⟩
 self:=λ_ _ _ _ _ st h=>by
  obtain⟨⟨old,he⟩,_⟩:=st
  exact Og he h
section
variable{X:Cx}
def a4w(K:aK)(ta:TA):TI:=λσ H R=>ta σ H λvs H1=>∃a,vs=[.ref a]/\(∃xs,bG K H1 a xs)/\R (Ite K a) H1
def ς{elts:List Expr}{tpos:Pos}{l:Expr}{ta:TA}{p pos:Pos}(e0:X.K=K)(hg:Gl X "enumerate")(hm:X.mg "enumerate" = none)(ha:PA X [l] ta)(hs:starEach [l] X.env=[(false,eval l X.env)]:=by rfl) :
  PI X (.Tuple elts k tpos) (.Call (.Name "enumerate" p) [l] [] pos) (a4w K ta):=by
 subst e0;intro Y s σ H R I h;refine xG (v5 I hg hm boot_enumerate (zP (jK (ha pos Y s σ H _ I h) λus s1 ⟨vs,H1,I1,r1,q1⟩=>?_) hs (by rfl)));obtain⟨a,e,⟨xs,hq⟩,q⟩:=q1;subst e;obtain⟨u,rfl,ru⟩:=vals1 r1;cases ru;obtain⟨cg,rv,pl,hz⟩:=I1.list hq;refine call_enumerate_list pl.isList λh' he hit hsz hk=>Og he ?_;have I2:bH X Y σ H1 { s1 with heap:=h'}:=I1.kept (t':=s1.toks) hk;refine⟨s1.heap.objs.size+1,[s1.heap.objs.size+1,s1.heap.objs.size],_,_,H1,Z,I2,YX a s1.heap.objs.size (s1.heap.objs.size+1) (gG (Ac _)),⟨⟨_,he⟩,hit⟩,λb hb=>?_,q⟩;have hb':s1.heap.objs.size<=b:=by
  grind
 exact I1.Jk hb' (I1.hok.fresh hb')
end
def þ{a:Addr}{xs:List V}{g:TG}{tb:TS}{D:Ends}{σ:St}{H:Hp}(Pv:Nat->St->Hp->Prop)(h0:Pv 0 σ H)(hl:∀i σ H,i<=xs.length->Pv i σ H->bG K H a xs)
  (hs:∀(i:Nat) x σ H p H',xs[i]?=some x->Pv i σ H->gV H p (.tup [.int i,x]) H'->g (.ref p) σ H' λσ2 H2=>tb { D with nx:=Pv (i+1),ct:=Pv (i+1),bk:=D.nx} σ2 H2) (hd:∀σ H,Pv xs.length σ H->D.nx σ H) :
  ∃W:Nat->Nat->St->Hp->Prop,(∃m,W 0 m σ H)/\∀i m σ H,W i m σ H->
   ((Ite K a).stop i H/\D.nx σ H)\/((Ite K a).go i H/\∃N:St->Hp->Prop,(∀σ' H',N σ' H'->∃m',m'<m/\W (i+1) m' σ' H')/\∀x H',(Ite K a).Ã i H x H'->g x σ H' λσ2 H2=>tb { D with nx:=N,ct:=N,bk:=D.nx} σ2 H2):=by
 refine⟨λi m σ H=>m=xs.length-i/\i<=xs.length/\Pv i σ H,⟨xs.length,by simp,dI _,h0⟩,?_⟩;rintro i m σ H ⟨rfl,hi,p⟩;have q:=hl i σ H hi p;by_cases hlt:i<xs.length
 ·refine .inr ⟨⟨xs,xs[i],q,by simp[hlt]⟩,Pv (i+1),λσ' H' p'=>⟨xs.length-(i+1),by omega,Z,hlt,p'⟩,λx H' y=>?_⟩;obtain⟨pp,y0,rfl,nw,ex⟩:=y;exact hs i y0 σ H pp H' (ex xs q) p nw
 ·have e:i=xs.length:=by omega
  subst e;exact .inl ⟨⟨xs,q,aO _⟩,hd σ H p⟩
def ÿ{a:Addr}{xs:List V}{ix:List (Option Nat)}{g:TG}{tt:TT}{te:TE}{σ:St}{H1:Hp}{Q:VK}(f:Nat->Option V)(hx:bG K H1 a xs)(hz:xs.length<=1000)
  (hs:∀(i:Nat) x H (N:Option V->Hp->Prop),xs[i]?=some x->aH H1 H->(∀H',aH H1 H'->N (f i) H')->g x (qd ix σ) H λσ2 H2=>tt σ2 H2 λb H3=>if b=true then te σ2 H3 λv H4=>N (some v) H4 else N none H3)
  (hd:∀H p H',aH H1 H->gV H p (.lst ((List.range xs.length).filterMap f)) H'->Q (.ref p) H'):lC ix g tt te σ H1 Q (Ä K a):=by
 refine qN (K:=K) (a:=a) (xs:=xs) (λi ys H=>ys=(List.range i).filterMap f/\aH H1 H) ⟨Z,aH.refl _⟩ (λi ys H hi ⟨e,s⟩=>⟨s.seq hx,?_⟩) (λi x ys H hi ⟨e,s⟩=>?_) λys H ⟨e,s⟩ p hp=>?_
 ·subst e;refine cW (Tj _ _) ?_;rw[zZ];exact cW hi (dH (cC hz))
 ·refine hs i x H (λo H'=>match o with|some v=>(ys++[v]=(List.range (i+1)).filterMap f/\aH H1 H')|none=>(ys=(List.range (i+1)).filterMap f/\aH H1 H')) hi s λH' s'=>?_;cases ef:f i with
  |some v =>
   refine⟨?_,s'⟩;rw[e,Af,xq];simp[ef]
  |none =>
   refine⟨?_,s'⟩;rw[e,Af,xq];simp[ef]
 ·subst e;exact hd H p _ s (gV.oF hp)
end L2
namespace Bg
open L2 Lw
abbrev BR:=Option Int×List Int
def oU(n:Int):Option Int->Bool
 |none=>false
 |some i=>decide (0<=i/\i<n)
def rowAt(rs:List BR)(k:Nat):BR:=rs.getD k (none,[])
inductive Flt where
 |ok|row (k:Nat)|place (v:Nat)|tie (a b:Int)|apart (v j k:Nat)
 deriving DecidableEq
variable{i:Nat}
def upV:Option Int->V
 |none=>.non
 |some i=>.int i
def υ(K:aK)(H:Hp)(v:V)(t:Int×Int):Prop:=∃p,v=.ref p/\cG K H p [.int t.1,.int t.2]
inductive Eu(K:aK)(H:Hp)(a:Addr)(ts:List bA):Prop
 |mk (xs:_) (_:bG K H a xs) (_:Paired (υ K H) xs ts) (_:ts.length<=1000)
inductive uY(K:aK)(H:Hp)(v:V)(n:Int)(ts:List bA):Prop
 |mk (p a:_) (_:v=.ref p) (_:cG K H p [.int n,.ref a]) (_:Eu K H a ts)
def Eu.same{K:aK}{H H':Hp}{a:Addr}{ts:List bA}(e:aH H H')(h:Eu K H a ts):Eu K H' a ts:=by
 obtain⟨xs,h1,h2,h3⟩:=h;exact⟨xs,e.seq h1,Paired.bU h2 λ_ _ ⟨p,q1,q2⟩=>⟨p,q1,e.wC q2⟩,h3⟩
def uY.same{K:aK}{H H':Hp}{v:V}{n:Int}{ts:List bA}(e:aH H H')(h:uY K H v n ts):uY K H' v n ts:=by
 obtain⟨p,a,h1,h2,h3⟩:=h;exact⟨p,a,h1,e.wC h2,h3.same e⟩
def bT{α β:Type}{F:α->β->Prop}{xs:List α}{ys:List β}{x:α}(p:Paired F xs ys)(e:xs[i]?=some x):∃y,ys[i]?=some y/\F x y:=by
 induction p generalizing i with
 |nil=>cases e
 |cons h r ih =>
  cases i with
  |zero=>cases e;exact⟨_,Z,h⟩
  |succ i=>exact ih (i:=i) e
def fu{α β:Type}{F:α->β->Prop}{xs:List α}{ys:List β}{y:β}(p:Paired F xs ys)(e:ys[i]?=some y):∃x,xs[i]?=some x/\F x y:=by
 induction p generalizing i with
 |nil=>cases e
 |cons h r ih =>
  cases i with
  |zero=>cases e;exact⟨_,Z,h⟩
  |succ i=>exact ih (i:=i) e
def vz{rs:List BR}(h:i<rs.length):rs[i]?=some (rowAt rs i):=by
 unfold rowAt;grind
def W6(ns:List Int)(v:Int):(ns.map PyData.int).any (λe=>PyData.eqv e (.int v))=decide (v∈ns):=by
 induction ns with
 |nil=>rfl
 |cons a r ih =>
  rw[cL,tR,ih,PyData.eqv];grind
def Vq(ns:List Int):PyData.depthAll (ns.map PyData.int)=0:=by
 induction ns with
 |nil=>rfl
 |cons a r ih=>rw[cL,PyData.depthAll,ih];rfl
def Ā(ns:List Int):PyData.canLayAll0 (ns.map PyData.int)=true:=by
 induction ns with
 |nil=>rfl
 |cons a r ih=>rw[cL,PyData.canLayAll0,ih];rfl
def shaped_ints(ns:List Int):SeqAt.shaped (.list (ns.map PyData.int))=true:=by
 unfold SeqAt.shaped;rw[PyData.canLay0,Ā,PyData.depth,Vq];decide
def Jt(ns ms:List Int):PyData.eqv (.list (ns.map PyData.int)) (.list (ms.map PyData.int))=decide (ns=ms):=by
 rw[PyData.eqv];exact PySem.W.ked_eqvAll ns ms
def Ar{K:aK}{H:Hp}{b:Addr}{ns:List Int}{v:Int}{Q:VK}(hS:bG K H b (ns.map V.int))(q:Q (.bl (decide (v∈ns))) H):Vn K false (.int v) (.ref b) H Q :=
 ⟨_,_,.int v,.lst hS (uW.ints ns),Z,shaped_ints ns,by rw[W6];exact q⟩
def yX{K:aK}{H:Hp}{b:Addr}{ns:List Int}{v:Int}{Q:VK}(hS:bG K H b (ns.map V.int))(q:Q (.bl (!decide (v∈ns))) H):Vn K true (.int v) (.ref b) H Q :=
 ⟨_,_,.int v,.lst hS (uW.ints ns),Z,shaped_ints ns,by rw[W6];exact q⟩
end Bg
namespace L2
open PyProof.Rows
inductive a4x(o:V)(i:V)(v:V)(H:Hp)(Q:Hp->Prop):Prop
 |mk (p xs k j:_) (_:o=.ref p) (_:i=.int k) (_:H p=some (.lst xs)) (_:Ū xs.length k=some j) (_:∀H',wF H p (.lst (xs.set j v)) H'->Q H')
def YZ{X:Cx}:Β X a4x:=λY s σ H o i v ov iv u Q I ro ri rv ⟨p,xs,k,j,e1,e2,h1,h2,q⟩=>set_list Y s σ H o i v ov iv u Q I ro ri rv ⟨p,xs,k,j,e1,e2,h1,h2,q _ wF.oF⟩
def χ{n j:Nat}(h:j<n):Ū n (j:Int)=some j:=by
 unfold Ū;rw[aG (by omega),aG (by omega)];simp
def aH.chg{H H':Hp}{l:Addr}{o:HO}{H0:Hp}(s:aH H0 H)(h0:H0 l=none)(c:wF H l o H'):aH H0 H':=λb u e=>(c.rest b (dU e h0)).trans (s b u e)
end L2
namespace Bg
open L2 Lw
variable{H H':Hp}
inductive gR(H:Hp)(v:V)(t:Int×Int):Prop
 |mk (p:_) (_:v=.ref p) (_:H p=some (.tup [.int t.1,.int t.2]))
inductive K7(l:Addr)(H:Hp)(v:V)(r:BR):Prop
 |mk (p b:_) (_:v=.ref p) (_:H p=some (.tup [upV r.1,.ref b])) (_:H b=some (.lst (r.2.map V.int))) (_:b≠l) (_:r.2.length<=1000)
def gR.same{v:V}{t:Int×Int}(s:aH H H')(h:gR H v t):gR H' v t:=by
 obtain⟨p,e,q⟩:=h;exact⟨p,e,s _ _ q⟩
def gR.chg{l:Addr}{xs ys:List V}{v:V}{t:Int×Int}(hl:H l=some (.lst xs))(c:wF H l (.lst ys) H')(h:gR H v t):gR H' v t:=by
 obtain⟨p,e,q⟩:=h;exact⟨p,e,(c.rest p (a1x q hl (by grind))).trans q⟩
def K7.same{l:Addr}{v:V}{r:BR}(s:aH H H')(h:K7 l H v r):K7 l H' v r:=by
 obtain⟨p,b,e,q1,q2,n,z⟩:=h;exact⟨p,b,e,s _ _ q1,s _ _ q2,n,z⟩
def cV{α β:Type}{F:α->β->Prop}{xs:List α}{ys:List β}{x:α}{y:β}(h:Paired F xs ys)(q:F x y):Paired F (xs++[x]) (ys++[y]):=by
 induction h with
 |nil=>exact .cons q .nil
 |cons h _ ih=>exact .cons h ih
def xY(t:Int×Int):PyData:=.tuple [.int t.1,.int t.2]
def υ.isD{K:aK}{v:V}{t:Int×Int}(h:υ K H v t):Pn K H v (xY t):=by
 obtain⟨p,rfl,q1⟩:=h;exact .tup q1 (.cons (.int _) (.cons (.int _) .nil))
def Pu{K:aK}{α:Type}{F:V->α->Prop}{f:α->PyData}(hf:∀v x,F v x->Pn K H v (f x)){xs:List V}{ys:List α}(h:Paired F xs ys):uW K H xs (ys.map f):=by
 induction h with
 |nil=>exact .nil
 |cons h _ ih=>exact .cons (hf _ _ h) ih
def ā(ts:List bA):PyData:=.list (ts.map xY)
def Eu.isD{K:aK}{H:Hp}{a:Addr}{ts:List bA}(h:Eu K H a ts):Pn K H (.ref a) (ā ts):=by
 obtain⟨xs,h1,h2,_⟩:=h;exact .lst h1 (Pu (λv x q=>q.isD) h2)
theorem HD{α:Type}{f:α->PyData}(h:∀x,(f x).canLay0=true):∀l:List α,PyData.canLayAll0 (l.map f)=true
 | []=>rfl
 |x::r=>by rw[cL,PyData.canLayAll0,h x,HD h r];rfl
theorem vA{α:Type}{f:α->PyData}{k:Nat}(h:∀x,(f x).depth<=k):∀l:List α,PyData.depthAll (l.map f)<=k
 | []=>dI _
 |x::r=>by
  rw[cL,PyData.depthAll]
  exact Nat.max_le.mpr ⟨h x,vA h r⟩
def W7(t:Int×Int):(xY t).canLay0=true:=rfl
def Mj(t:Int×Int):(xY t).depth<=1:=by
 unfold xY;simp[PyData.depth,PyData.depthAll]
def Q8(ts:List bA):SeqAt.shaped (ā ts)=true:=by
 unfold SeqAt.shaped ā;rw[PyData.canLay0,HD W7,PyData.depth,Je];exact bO (by have:=vA Mj ts;omega)
end Bg
namespace Pmt
open PyProof.Rows PySem.Calls PySem.W
variable{nrem n i:Nat}{κ:SortKind}{Q:Option Nat->SortSt->Prop}
section
variable{prog:Program}{wo:World}{A:Around}{E:Value->Shared->Prop}{s:Shared}{a₀:Array Keyed}
def Cmp(prog:Program)(wo:World)(A:Around)(κ:SortKind)(s:Shared)(a₀:Array Keyed):Prop :=
 ∀x∈a₀,∀y∈a₀,∀(C:Bool->Shared->Prop),(∀b,C b s)->wpAny (model prog wo) A (keyLt' κ x.1 y.1) C (λ_ _=>False) s
structure PB(κ:SortKind)(a₀:Array Keyed)(P:Array (Nat×Nat×Nat))(st:SortSt):Prop where
 perm:(arrOf st).Perm a₀
 fail:failedOf st=none
 kind:kindOf st=κ
 pend:pendingOf st=P
def PB.size{P}{st:SortSt}(h:PB κ a₀ P st):(arrOf st).size=a₀.size:=h.perm.size_eq
def PB.mem{P}{st:SortSt}(h:PB κ a₀ P st){x}(hx:x∈arrOf st):x∈a₀:=h.perm.mem_iff.mp hx
def a2z{P}{st:SortSt}{x y:Keyed}{Q:Option Bool->SortSt->Prop}(hC:Cmp prog wo A κ s a₀)(hB:PB κ a₀ P st)(hx:x∈a₀)(hy:y∈a₀)
  (h:∀b,Q (some b) st):wpS (model prog wo) A E s (lt' x y) Q st:=by
 rw[lt'_eq];refine eE (En ?_);rw[hB.kind];refine eE (wpS_lift (tU (iI (hC x hx y hy (λb s'=>s'=s) λb=>rfl) (λb s' e=>?_) λ_ _ f=>f.elim)));subst e;exact⟨Z,jg (h b)⟩
def Q9{arr:Array Keyed}{st:SortSt}{Q:Keyed->SortSt->Prop}(hi:i<arr.size)(h:Q arr[i] st):wpS (model prog wo) A E s (elem' arr i) Q st:=by
 rw[elem'_eq,xg hi];exact jg h
def Cu{P}{st:SortSt}{j:Nat}{Q:Option Bool->SortSt->Prop}(hC:Cmp prog wo A κ s a₀)(hB:PB κ a₀ P st)(hi:i<a₀.size)(hj:j<a₀.size)
  (h:∀b,Q (some b) st):wpS (model prog wo) A E s (ltAt' i j) Q st:=by
 rw[ltAt'_eq];refine eE (En ?_);exact eE (Q9 (by rw[hB.size];exact hi) (eE (Q9 (by rw[hB.size];exact hj) (a2z hC hB (hB.mem (Array.getElem_mem _)) (hB.mem (Array.getElem_mem _)) h))))
def PB.setArr{P}{st:SortSt}(h:PB κ a₀ P st){xs:Array Keyed}(hp:xs.Perm (arrOf st)):PB κ a₀ P (setArr st xs):=⟨hp.trans h.perm,h.fail,h.kind,h.pend⟩
def HF{P}{st:SortSt}{j:Nat}{Q:Unit->SortSt->Prop}(hB:PB κ a₀ P st)(h:∀st',PB κ a₀ P st'->Q () st') :
  wpS (model prog wo) A E s (reverseSlice' i j) Q st:=by
 rw[reverseSlice'_eq];exact O4 (h _ (hB.setArr (mirror_perm _ _ _ _)))
def W8{P}{a:Nat}{st:SortSt}{Q:AscSt->SortSt->Prop}(hC:Cmp prog wo A κ s a₀)(hB:PB κ a₀ P st)(hn:nrem<=a₀.size)(h1:1<=a)(h2:a<=nrem)
  (h:∀m,1<=m->m<=nrem->Q (none,m) st):wpS (model prog wo) A E s (ascLoop a nrem) Q st:=by
 unfold ascLoop;refine Em (I:=λx c st'=>st'=st/\c=(none,x)) ?_ ?_ ⟨Z,Z⟩
 ·rintro x c st' x1 x2 ⟨rfl,rfl⟩;refine eE (Cu hC hB (by dsimp only;omega) (by dsimp only;omega) λb=>?_);cases b
  ·exact jg ⟨Z,Z⟩
  ·exact jg (h x (by omega) (by omega))
 ·rintro c st' ⟨rfl,rfl⟩;exact h _ (by omega) (by omega)
def Ă{P}{st:SortSt}(hC:Cmp prog wo A κ s a₀)(hB:PB κ a₀ P st)(hn:nrem<=a₀.size)(h1:1<=n)(h2:n<=nrem)
  (h:∀m st',1<=m->m<=nrem->PB κ a₀ P st'->Q (some m) st'):wpS (model prog wo) A E s (tail3 n nrem) Q st :=
 eE (HF hB λst2 hB=>eE (W8 hC hB hn h1 h2 λm m1 m2=>jg (h m _ m1 m2 hB)))
def ă{P}{st:SortSt}(hC:Cmp prog wo A κ s a₀)(hB:PB κ a₀ P st)(hn:nrem<=a₀.size)(h2:n+1<=nrem)
  (h:∀m st',1<=m->m<=nrem->PB κ a₀ P st'->Q (some m) st'):wpS (model prog wo) A E s (descPart n nrem) Q st:=by
 unfold descPart descLoop;refine eE (wpS_lift (jY (And.intro Z (eE (Jh (Em (I:=λx c st'=>PB κ a₀ P st'/\∃q,c=(none,x,q)) (Q:=λc st'=>PB κ a₀ P st'/\∃m q,c=(none,m,q)/\1<=m/\m<=nrem) ?_ ?_ ⟨hB,_,Z⟩) ?_)))))
 ·rintro x c st' x1 x2 ⟨hB,q,rfl⟩;refine eE (Cu hC hB (by dsimp only;omega) (by dsimp only;omega) λb=>?_);cases b
  ·refine eE (Cu hC hB (by dsimp only;omega) (by dsimp only;omega) λb=>?_);cases b
   ·exact jg ⟨hB,_,Z⟩
   ·exact jg ⟨hB,_,_,Z,by dsimp only;omega,by dsimp only;omega⟩
  ·dsimp only;simp only[if_true];split
   ·exact eE (HF hB λst2 hB=>jg ⟨hB,_,Z⟩)
   ·exact jg ⟨hB,_,Z⟩
 ·rintro c st' ⟨hB,q,rfl⟩;exact⟨hB,_,_,Z,by omega,by omega⟩
 ·rintro c st' ⟨hB,m,q,rfl,m1,m2⟩;dsimp only;split
  ·exact eE (HF hB λst2 hB=>Ă hC hB hn m1 m2 h)
  ·exact Ă hC hB hn m1 m2 h
def a0a{P}{st:SortSt}(hC:Cmp prog wo A κ s a₀)(hB:PB κ a₀ P st)(hn:nrem<=a₀.size)(h1:1<=nrem)
  (h:∀m st',1<=m->m<=nrem->PB κ a₀ P st'->Q (some m) st'):wpS (model prog wo) A E s (countRun' 0 nrem) Q st:=by
 rw[countRun0_eq];refine eE (W8 hC hB hn (aO 1) h1 λm m1 m2=>?_);dsimp only;split
 ·exact jg (h m _ m1 m2 hB)
 ·have m3:m+1<=nrem:=by grind
  split
  ·refine eE (Cu hC hB (by omega) (by omega) λb=>?_);cases b
   ·exact eE (HF hB λst2 hB=>ă hC hB hn m3 h)
   ·exact jg (h m _ m1 m2 hB)
  ·exact ă hC hB hn m3 h
def a0b{P}{lo ok:Nat}{st:SortSt}{Q:Bool->SortSt->Prop}(hC:Cmp prog wo A κ s a₀)(hB:PB κ a₀ P st)(hn:lo+n<=a₀.size)
  (h:∀st',PB κ a₀ P st'->Q true st'):wpS (model prog wo) A E s (binarySort' lo n ok) Q st:=by
 rw[binarySort'_eq];refine eE (Jh (Em (I:=λx c st'=>PB κ a₀ P st'/\c=(none,())) (Q:=λc st'=>PB κ a₀ P st'/\c=(none,())) ?_ ?_ ⟨hB,Z⟩) ?_)
 ·rintro k c st' hx1 hx2 ⟨W9,rfl⟩;dsimp only;refine eE (Jh (Em (I:=λx c st'=>PB κ a₀ P st'/\∃l r,c=(none,l,r)/\r<=k) (Q:=λc st'=>PB κ a₀ P st'/\∃l r,c=(none,l,r)) ?_ ?_ ⟨W9,_,_,Z,aO _⟩) ?_)
  ·rintro x c st' _ _ ⟨W9,l,r,rfl,hr⟩;dsimp only;split
   ·exact jg ⟨W9,_,_,Z⟩
   ·refine eE (Cu hC W9 (by omega) (by omega) λb=>?_);cases b
    ·exact jg ⟨W9,_,_,Z,by omega⟩
    ·exact jg ⟨W9,_,_,Z,by omega⟩
  ·rintro c st' ⟨W9,l,r,rfl,hr⟩;exact⟨W9,_,_,Z⟩
  ·rintro c st' ⟨W9,l,r,rfl⟩;dsimp only;rw[moveDown'_eq];exact eE (O4 (jg ⟨W9.setArr (bubble_perm _ _ _),Z⟩))
 ·rintro c st' ⟨W9,rfl⟩;exact⟨W9,Z⟩
 ·rintro c st' ⟨W9,rfl⟩;exact jg (h _ W9)
def a0c{st:SortSt}{Q:Unit->SortSt->Prop}(hC:Cmp prog wo A κ s a₀)(hB:PB κ a₀ #[] st)(h2:2<=a₀.size)(h64:a₀.size<64)(h:∀st',(arrOf st').Perm a₀->failedOf st'=none->Q () st'):wpS (model prog wo) A E s sortRuns' Q st:=by
 rw[sortRuns'_eq];refine eE (En ?_);have mr:minRun' a₀.size a₀.size 0=a₀.size:=by
  obtain⟨f,hf⟩:∃f,a₀.size=f+1:=⟨a₀.size-1,by omega⟩;rw[hf,minRun'_succ,aG (by omega)];try rfl
 dsimp only;rw[hB.size,mr];refine eE (Jh (Em (I:=λx c st'=>∃P lo,PB κ a₀ P st'/\c=(none,lo)/\((lo=0/\P = #[])\/(lo=a₀.size/\P.size=1))) (Q:=λc st'=>∃P lo,PB κ a₀ P st'/\c=(none,lo)/\P.size<=1) ?_ ?_ ⟨_,_,hB,Z,.inl ⟨Z,Z⟩⟩) ?_)
 ·rintro x c st1 _ _ ⟨P,lo,hB,rfl,⟨rfl,rfl⟩|⟨rfl,e⟩⟩
  ·dsimp only;rw[aB (by omega)];refine eE (a0a hC hB (by omega) (by omega) λm st2 m1 m2 hB=>?_);dsimp only;by_cases c:m<a₀.size
   ·rw[aG c];refine eE (wpS_lift (jY (And.intro Z (eE (a0b hC hB (by omega) λst3 hB=>?_)))));simp only[if_false,Bool.not_true,Bool.false_eq_true];refine eE (En ?_);rw[hB.pend];exact eE (O4 (jg ⟨#[].push _,_,⟨hB.perm,hB.fail,hB.kind,by rw[<-hB.pend]⟩,Z,.inr ⟨by simp,Z⟩⟩))
   ·rw[aB c];refine eE (En ?_);rw[hB.pend];exact eE (O4 (jg ⟨#[].push _,_,⟨hB.perm,hB.fail,hB.kind,by rw[<-hB.pend]⟩,Z,.inr ⟨by omega,Z⟩⟩))
  ·dsimp only;rw[aG (aO _)];exact jg ⟨P,_,hB,Z,by omega⟩
 ·rintro c st1 ⟨P,lo,hB,rfl,⟨rfl,rfl⟩|⟨rfl,e⟩⟩
  ·exact⟨_,_,hB,Z,dI _⟩
  ·exact⟨_,_,hB,Z,by omega⟩
 ·rintro c st1 ⟨P,lo,hB,rfl,e⟩;dsimp only;refine eE (Jh (Em (I:=λ_ c st'=>st'=st1/\c=(none,())) (Q:=λc st'=>st'=st1/\c=(none,())) ?_ (λ_ _ z=>z) ⟨Z,Z⟩) ?_)
  ·rintro x c st2 _ _ ⟨rfl,rfl⟩;refine eE (En ?_);rw[hB.pend,aG e];exact jg ⟨Z,Z⟩
  ·rintro c st2 ⟨rfl,rfl⟩;exact jg (h _ hB.perm hB.fail)
end
section
variable{prog:Program}{wo:World}{A:Around}{E:Value->Shared->Prop}{s:Shared}
def Asks(prog:Program)(wo:World)(A:Around)(κ:SortKind)(zs:List Value)(s:Shared):Prop :=
 (∀(E:Value->Shared->Prop) (R:SortKind->Shared->Prop),R κ s->wpAny (model prog wo) A (keyKind' zs.toArray) R E s)/\Cmp prog wo A κ s (pairsOf zs)
def Px{a:Addr}{zs:List Value}{P:PySem.Fin->Shared->Prop}(oa:s.heap.get? a=some (seqObj "list" zs.toArray n))(hz:zs.length<64)
  (hk:2<=zs.length->∀h',(∀b o,b≠a->s.heap.get? b=some o->h'.get? b=some o)->Asks prog wo A κ zs { s with heap:=h'})
  (h:∀ys:List Value,ys.Perm zs->P (.done (.ret .none)) { s with heap:=sortedHeap s.heap a zs ys.toArray}) :
  wpAny (model prog wo) A (Builtin.«list.sort» ⟨[.ref a],[]⟩) P E s:=by
 rw[list_sort_plain];have la:a<s.heap.objs.size:=aX oa;refine M (listItems_at oa Z ?_);refine M (Uv oa Z ?_ (by rw[iG,jD];omega) (dI _));obtain⟨ep,oa1⟩:∃ep,(s.heap.update a (Obj.mapSeq λ_=>#[])).get? a=some (seqObj "list" #[] ep):=⟨_,Ul oa λ_=>#[]⟩;refine M (seqEpoch_at oa1 Z ?_);refine M (Jb ?_ (by show zs.length<=_;rw[jD];omega));refine M (Uw (ig ?_) (dI _));have oa6:(((s.heap.update a (Obj.mapSeq λ_=>#[])).push (seqObj "tuple" zs.toArray 0)).push (seqObj "list" #[] 0)).get? a=some (seqObj "list" #[] ep):=by
  rw[Oh _ _ _ (by rw[O5,Uh];grind),Oh _ _ _ (by rw[Uh];grind)];exact oa1
 show wpAny (model prog wo) A _ P E { s with heap:=((s.heap.update a (Obj.mapSeq λ_=>#[])).push (seqObj "tuple" zs.toArray 0)).push (seqObj "list" #[] 0)};dsimp only;have fin:∀(st':SortSt),(arrOf st').Perm (pairsOf zs)->failedOf st'=none->((arrOf st').map (·.2)).toList.Perm zs:=λst' hp _=>by
  have q:=(Array.perm_iff_toList_perm.mp hp).map (·.2);rw[pairsOf_toList]at q;rw[Array.toList_map];refine q.trans (List.Perm.of_eq ?_);rw[List.map_snd_zip (aO _)]
 by_cases g2:zs.toArray.size<2
 ·rw[aG g2,aG g2];refine M (ao ?_);rw[StateT.run_pure];refine M (ao ?_);dsimp only;refine M (seqEpoch_at oa6 Z (M (Uv oa6 Z ?_ (dI _) (by grind))));simp only[if_false,Bool.false_eq_true,bne_self_eq_false];have q:=h zs (vY _);refine ao ?_;have e:(arrOf (SortSt.mk' general' (zs.toArray.zip zs.toArray) #[] 7 none)).map (·.2)=zs.toArray:=by
   grind
  rw[e];exact q
 ·rw[aB g2,aB g2];have h2':2<=zs.length:=by simp at g2;omega
  have ak:=hk h2' (((s.heap.update a (Obj.mapSeq λ_=>#[])).push (seqObj "tuple" zs.toArray 0)).push (seqObj "list" #[] 0)) λb o hb e=>bL _ (bL _ (by rw[Oc _ _ _ _ hb];exact e));refine M (ak.1 _ _ ?_);have rn:=a0c (E:=E) (st:=SortSt.mk' κ (zs.toArray.zip zs.toArray) #[] 7 none) (Q:=λ_ st'=>(arrOf st').Perm (pairsOf zs)/\failedOf st'=none) ak.2 ⟨Array.Perm.refl _,Z,Z,Z⟩ (by rw[pairsOf_size];exact h2') (by rw[pairsOf_size];exact hz) (λst' h1 h2=>⟨h1,h2⟩);refine M (iI rn ?_ λ_ _ e=>e);rintro⟨⟨⟩,st'⟩ s' ⟨rfl,hp,hf⟩;dsimp only at hp hf ⊢;have pp:=fin st' hp hf;have hso:((arrOf st').map (·.2)).size=zs.length:=by simpa using pp.length_eq
  refine M (seqEpoch_at oa6 Z ?_);refine M (Uv oa6 Z ?_ (dI _) (cW (OJ hso) (by rw[jD];omega)));rw[hf];simp only[if_false,Bool.false_eq_true,bne_self_eq_false];exact ao (h _ pp)
def Y0{l:Addr}{zs:List Value}{R:Value->Shared->Prop}(il:s.heap.IsList l zs.toArray)(hz:zs.length<64)
  (hk:2<=zs.length->∀(A':Around) (h':Heap),(∀b o,s.heap.get? b=some o->h'.get? b=some o)->Asks prog wo A' κ zs { s with heap:=h'})
  (h:∀ys:List Value,ys.Perm zs->R (.ref (s.heap.objs.size+1)) { s with heap:=sortedAll s.heap zs ys.toArray}) :
  wpAny (model prog wo) A (call (.builtin "sorted") [.ref l]) R E s:=by
 apply Ó kind_sorted plain_sorted entry_sorted (args_sorted1 _);unfold Builtin.«sorted»;refine M (m:=checkCount "sorted" 1 1 _) (ao ?_);refine M (collect_list il ?_ (by rw[jD];omega));refine M (Uw ?_ (by rw[jD];exact dH (by omega)));have lz:((s.heap.push (seqObj "list" #[] 0)).update s.heap.objs.size (Obj.mapSeq (· ++ zs.toArray))).objs.size=s.heap.objs.size+1:=by
  rw[Uh];exact O5 _ _
 have oL:(((s.heap.push (seqObj "list" #[] 0)).update s.heap.objs.size (Obj.mapSeq (· ++ zs.toArray))).push (seqObj "list" zs.toArray 0)).get? (s.heap.objs.size+1)=some (seqObj "list" zs.toArray 0):=by
  rw[<-lz];exact bZ _ rfl
 show wpAny _ _ _ _ _ { s with heap:=((s.heap.push (seqObj "list" #[] 0)).update s.heap.objs.size (Obj.mapSeq (· ++ zs.toArray))).push (seqObj "list" zs.toArray 0)};rw[lz];refine M (ig (gP slot_list_sort ⟨_,oL,Z⟩ entry_list_sort (Px (κ:=κ) oL hz (λg2 h' kp=>hk g2 _ h' λb o e=>?_) λp a1=>⟨_,Z,?_⟩) (args_list_sort _)))
 ·have lb:b<s.heap.objs.size:=aX e;refine kp b o (cu (Iw lb)) ?_;rw[Oh _ _ _ (by grind),Oc _ _ _ _ (cu lb),Oh _ _ _ (cu lb)];exact e
 ·exact ao ⟨_,Z,h p a1⟩
structure a2A(h:Heap)(v:Value)(ns:List Int):Prop where
 at':∃a o xs n,v=.ref a/\h.get? a=some o/\o.cls=.type "tuple" /\o.data=.seq xs n/\IntsAre xs.toList ns
 ne:ns≠[]
inductive uf(h:Heap):List Value->List (List Int)->Prop
 |nil:uf h [] []
 |cons {v ns vs ls}:a2A h v ns->uf h vs ls->uf h (v::vs) (ns::ls)
def uf.keep{h h':Heap}(k:∀b o,h.get? b=some o->h'.get? b=some o):∀{vs ls},uf h vs ls->uf h' vs ls
 |_,_,.nil=>.nil
 |_,_,.cons ⟨⟨a,o,xs,n,e,ho,r⟩,ne⟩ t=>.cons ⟨⟨a,o,xs,n,e,k _ _ ho,r⟩,ne⟩ (uf.keep k t)
def uf.len{h:Heap}:∀{vs ls},uf h vs ls->vs.length=ls.length
 |_,_,.nil=>rfl
 |_,_,.cons _ t=>by rw[nA,nA,t.len]
def uf.get{h:Heap}:∀{vs ls},uf h vs ls->∀{i},i<vs.length->a2A h (vs.getD i .none) (ls.getD i [])
 |_,_,.cons a t,0,_=>a
 |_,_,.cons a t,i+1,hi=>by
  have:=t.get (i:=i) (by grind)
  grind
def uf.kat{h:Heap}:∀{vs ls},uf h vs ls->∃fs,KatTups h vs fs/\fs.length=vs.length/\∀v∈fs,∃n t,v=Value.int n t
 |_,_,.nil=>⟨[],KatTups.nil,Z,λv hv=>absurd hv d7⟩
 |_,_,.cons (ns:=ns) ⟨⟨a,o,xs,n,e,ho,hc,hd,hi⟩,ne⟩ t=>by
  obtain⟨fs,k,l,q⟩:=t.kat
  subst e
  obtain⟨xl⟩:=xs
  have hi:IntsAre xl ns:=hi
  cases hi with
  |nil=>grind
  |cons m u r =>
   refine⟨.int m u::fs,KatTups.cons ho hc hd Z k,by grind,λv hv=>?_⟩
   grind
def Xa{Q:Bool->Shared->Prop}(h:∀b,Q b s):∀{xs ys:List Value}{ns ms:List Int} (i:Nat) (c:Bool),IntsAre xs ns->IntsAre ys ms->KatLex prog wo A true c Q (xs.zip ys) i s
 |_,_,_,_,i,c,.nil,_=>kat_nil (h _)
 |_,_,_,_,i,c,.cons _ _ _,.nil=>kat_nil (h _)
 |_,_,_,_,i,c,.cons (vs:=xs) (ns:=ns) n t x,.cons (vs:=ys) (ns:=ms) m u y=>by
  refine kat_cons (wpAny_eqBool_int ?_)
  cases n==m with
  |true=>exact kat_yes (Xa h (i+1) c x y)
  |false =>
   refine kat_no ?_
   cases(true&&i==0)with
   |true=>exact oneLt_int (h _)
   |false=>exact kat_one _ _ (lt_int (h _))
def Y4{vs:List Value}{ls:List (List Int)}(h:uf s.heap vs ls)(h2:2<=vs.length):Asks prog wo A (tuples' true) vs s:=by
 refine⟨λE Q q=>?_,λx hx y hy C hC=>?_⟩
 ·obtain⟨fs,k,l,ty⟩:=h.kat;refine kat_kind (T:=.type "int") k (by omega) (λv hv=>?_) Z q;obtain⟨n,t,rfl⟩:=ty v hv;exact Looks.of_pure rfl
 ·have ix:∀x∈pairsOf vs,∃ns,a2A s.heap x.1 ns:=λx hx=>by
   obtain⟨i,hi,rfl⟩:=Array.getElem_of_mem hx;have hi':i<vs.length:=by rwa [pairsOf_size]at hi
   have:=h.get hi';rw[show(pairsOf vs)[i].1=vs.getD i .none by simp[pairsOf,hi']];exact⟨_,this⟩
  obtain⟨_,⟨a,o,xs,n,e1,ho,hc,hd,hx⟩,_⟩:=ix x hx;obtain⟨_,⟨a',o',ys,n',e2,ho',hc',hd',hy⟩,_⟩:=ix y hy;rw[e1,e2];exact kat_lt ho hd ho' hd' (Xa hC 0 _ hx hy)
end
end Pmt
namespace L2
open PyProof.Rows Bg Pmt
def a2B(K:aK)(H:Hp)(v:V)(ns:List Int):Prop:=∃p,v=.ref p/\cG K H p (ns.map V.int)
def a2C(K:aK):List V->Hp->VK->Prop:=λxs H Q=>∃l vs,∃ls:List (List Int),xs=[.ref l]/\bG K H l vs/\Paired (a2B K H) vs ls/\(∀ns∈ls,ns≠[])/\vs.length<64/\
 ∀(q:List Nat) p H',q.Perm (List.range vs.length)->True->gV H p (.lst (q.map λi=>vs.getD i .non)) H'->Q (.ref p) H'
theorem ints_of:∀{ns:List Int}{us:List Value},cM (ns.map V.int) us->IntsAre us ns
 | [],_,.nil=>.nil
 |n::ns,_,.cons r t=>by
  obtain⟨k,rfl⟩:=r
  exact .cons n k (ints_of t)
section
variable{X:Cx}{K:aK}
def Xb{Y:List (Addr×Obj)}{σ:St}{H:Hp}{s:Shared}(I:bH X Y σ H s):∀{vs:List V}{us:List Value}{ls:List (List Int)},cM vs us->Paired (a2B X.K H) vs ls->(∀ns∈ls,ns≠[])->uf s.heap us ls
 |_,_,_,.nil,p,_=>by
  cases p
  exact .nil
 |_,_,_,.cons r t,p,ne=>by
  cases p with
  |cons a b =>
   obtain⟨pt,rfl,hT⟩:=a
   obtain⟨cg,ri,⟨o,ho,hc,n,hd⟩,_⟩:=I.tuple hT
   cases r
   exact .cons ⟨⟨pt,o,cg.toArray,n,Z,ho,hc,hd,by simpa using ints_of ri⟩,ne _ aW⟩ (Xb I t b λns h=>ne ns (bM _ h))
def Ml:∀{vs:List V}{us:List Value},cM vs us->∀i,i<vs.length->cP (vs.getD i .non) (us.getD i .none)
 |_,_,.cons r t,0,_=>r
 |_,_,.cons r t,i+1,hi=>by
  have:=Ml t i (by grind)
  grind
theorem Ra{vs:List V}{us:List Value}(r:cM vs us):∀(q:List Nat),(∀i∈q,i<vs.length)->cM (q.map λi=>vs.getD i .non) (q.map λi=>us.getD i .none)
 | [],_=>.nil
 |i::q,h=>.cons (Ml r i (h i aW)) (Ra r q λj hj=>h j (bM _ hj))
def Ą{α β:Type}{f:α->β}{ws vs:List β}(h:ws.Perm vs):∀{l:List α},vs=l.map f->∃q:List α,q.Perm l/\ws=q.map f:=by
 induction h with
 |nil =>
  intro l e;have:l=[]:=by simpa using e.symm
  subst this;exact⟨[],vY _,Z⟩
 |cons x _ ih =>
  intro l e;cases l with
  |nil=>cases e
  |cons a l =>
   obtain⟨q,p,e2⟩:=ih (Ov e).2;exact⟨a::q,p.cons _,by rw[(Ov e).1,e2];rfl⟩
 |swap x y m =>
  intro l e
  match l,e with
  |a::b::l,e=>exact⟨b::a::l,List.Perm.swap _ _ _,by simp at e;simp[e]⟩
 |trans _ _ ih1 ih2 =>
  intro l e;obtain⟨q,p,e2⟩:=ih2 e;obtain⟨q',p',e3⟩:=ih1 e2;exact⟨q',p'.trans p,e3⟩
def Py(e:X.K=K):jN X (.builtin "sorted") (a2C K):=by
 subst e;intro Y s σ H xs us Q I r h;obtain⟨l,vs,ls,rfl,hL,hP,ne,h64,q⟩:=h;obtain⟨u,rfl,rx⟩:=vals1 r;cases rx;obtain⟨cg,r',pl,hz⟩:=I.list hL;have hlen:=r'.length;have ht:=Xb I r' hP ne;refine Pmt.Y0 (κ:=tuples' true) pl.isList (by omega) (λh2 A' h' kp=>Y4 (ht.keep kp) h2) λys pm=>?_;have ei:cg=(List.range cg.length).map λi=>cg.getD i .none:=Ui (by simp) λi h1 h2=>by simp[h1]
 obtain⟨qq,pq,eq⟩:=Ą pm ei;obtain⟨c,hc⟩:=sortedAll_at s.heap cg ys.toArray;have pq':qq.Perm (List.range vs.length):=by rw[hlen];exact pq
 have mem:∀i∈qq,i<vs.length:=λi hi=>mF.mp (pq'.mem_iff.mp hi);refine⟨.ref (s.heap.objs.size+1),_,I.laid (t':=s.toks) (o:=.lst (qq.map λi=>vs.getD i .non)) (λb o eo=>sortedAll_old eo) (xP _) ?_,Z,?_⟩
 ·exact⟨by have:=pm.length_eq;have:=pq.length_eq;rw[aN];simp at this;omega,_,c,by rw[eq];exact Ra r' qq mem,hc⟩
 ·exact q qq _ _ pq' nD (gV.oF (I.hok.fresh (xP _)))
end
end L2
namespace Sm
variable{xs:Array Nat}{k j:Nat}
def Xc(xs:Array Nat)(j k:Nat):Prop:=k<=xs.size/\∀i (h:i<xs.size),xs[i]<j↔i<k
def Xd(h:xs.toList.Pairwise (· < ·)){i:Nat}(hi:i<xs.size)(hk:k<xs.size)(ik:i<k):xs[i]<xs[k]:=by
 have:=Ô.mp h i k (by simpa using hi) (by simpa using hk) ik;simpa using this
def Rb(h:xs.toList.Pairwise (· < ·)):∀(fuel lo hi:Nat),hi-lo<=fuel->lo<=hi->hi<=xs.size->
  (∀i (z:i<xs.size),i<lo->xs[i]<j)->(∀i (z:i<xs.size),hi<=i->j<=xs[i])->Xc xs j (SetTable.below.go xs j fuel lo hi):=by
 intro fuel
 induction fuel with
 |zero =>
  intro lo hi a b c d e;unfold SetTable.below.go;have:lo=hi:=by omega
  subst this;exact⟨c,λi z=>⟨λq=>by
   rcases xO i lo with g|g
   ·exact g
   ·have:=e i z g;omega,λq=>d i z q⟩⟩
 |succ f ih =>
  intro lo hi a b c d e;unfold SetTable.below.go;by_cases q:lo<hi
  ·rw[aG q];dsimp only;have m1:lo<=(lo+hi)/2:=by omega
   have m3:(lo+hi)/2<xs.size:=by omega
   have ge:xs.getD ((lo+hi)/2) j=xs[(lo+hi)/2]:=by simp[Array.getD,m3]
   rw[ge];by_cases r:xs[(lo+hi)/2]<j
   ·rw[aG r];refine ih _ _ (by omega) (by omega) c (λi z hi'=>?_) e;rcases xO i ((lo+hi)/2)with g|g
    ·have:=Xd h z m3 g;omega
    ·have:i=(lo+hi)/2:=by omega
     subst this;exact r
   ·rw[aB r];refine ih _ _ (by omega) (by omega) (by omega) d (λi z hi'=>?_);rcases xO ((lo+hi)/2) i with g|g
    ·have:=Xd h m3 z g;omega
    ·have:i=(lo+hi)/2:=by omega
     subst this;omega
  ·rw[aB q];have:lo=hi:=by omega
   subst this;exact⟨c,λi z=>⟨λq=>by
    rcases xO i lo with g|g
    ·exact g
    ·have:=e i z g;omega,λq=>d i z q⟩⟩
def Cv(h:xs.toList.Pairwise (· < ·))(j:Nat):Xc xs j (SetTable.below xs j) :=
 Rb h _ _ _ (by omega) (dI _) (aO _) (λi z q=>absurd q (Ag _)) (λi z q=>absurd z (by omega))
def below_at(h:xs.toList.Pairwise (· < ·))(hk:k<xs.size):SetTable.below xs (xs[k])=k:=by
 obtain⟨a,b⟩:=Cv h xs[k];rcases Nat.lt_trichotomy (SetTable.below xs xs[k]) k with g|g|g
 ·have c:=(b (SetTable.below xs xs[k]) (by omega)).mp (Xd h (by omega) hk g);omega
 ·exact g
 grind
def Vr(h:xs.toList.Pairwise (· < ·)):SetTable.below xs 0=0:=by
 obtain⟨a,b⟩:=Cv h 0;rcases Nat.eq_zero_or_pos (SetTable.below xs 0)with g|g
 ·exact g
 grind
def Vs(h:xs.toList.Pairwise (· < ·))(hk:k<xs.size):SetTable.below xs (xs[k]+1)=k+1:=by
 obtain⟨a,b⟩:=Cv h (xs[k]+1);have c:=(b k hk).mp (by omega);rcases xO (k+1) (SetTable.below xs (xs[k]+1))with g|g
 ·have e:=(b (k+1) (by omega)).mpr g;have:=Xd h hk (show k+1<xs.size by omega) (Ac _);omega
 ·omega
def Xe(j:Nat):SetTable.has #[] j=false:=by
 unfold SetTable.has;simp
def Av{t:SetTable}(dm:t.dummies = #[])(h:j∉t.place.toList):t.slot j=.empty:=by
 unfold SetTable.slot;have e:(t.place[SetTable.below t.place j]?==some j)=false:=by
  rw[xu];intro c;exact h (by simpa using Array.mem_of_getElem? c)
 dsimp only;rw[e,dm,Xe];rfl
def Y5{t:SetTable}(up:t.place.toList.Pairwise (· < ·))(h:j∈t.place.toList):∃i,t.slot j=.live i:=by
 obtain⟨k,hk,e⟩:=uO h;have hk':k<t.place.size:=by simpa using hk
 have e':t.place[k]=j:=by simpa using e
 unfold SetTable.slot;have q:SetTable.below t.place j=k:=by rw[<-e'];exact below_at up hk'
 dsimp only;rw[q];have:(t.place[k]?==some j)=true:=by simp[hk',e']
 rw[this];grind
def adv(mask:Nat)(p:SetTable.Probe):SetTable.Probe :=
 if 0<p.more then{ p with more:=p.more-1,j:=p.j+1}else
 { p with j:=(SetTable.leap mask p.i p.perturb).1,more:=SetTable.runEnd mask (SetTable.leap mask p.i p.perturb).1-(SetTable.leap mask p.i p.perturb).1,i:=(SetTable.leap mask p.i p.perturb).1,perturb:=(SetTable.leap mask p.i p.perturb).2}
def a2D(t:SetTable)(p:SetTable.Probe):t.advance p=adv t.mask p:=by
 unfold SetTable.advance adv;rfl
def nth(mask:Nat)(p:SetTable.Probe):Nat->SetTable.Probe
 |0=>p
 |k+1=>nth mask (adv mask p) k
def Y6(m:Nat)(p:SetTable.Probe):(adv m p).dummy=p.dummy:=by
 unfold adv;split<;>rfl
def ą{t:SetTable}(dm:t.dummies = #[])(up:t.place.toList.Pairwise (· < ·))(h:Int):∀(k fuel:Nat) (p:SetTable.Probe),k<fuel->p.dummy=none->(nth t.mask p k).j∉t.place.toList->
  ∃j,j∉t.place.toList/\SetTable.probe.go t (λ_=>h+1) h fuel p=some (.empty j none):=by
 intro k
 induction k with
 |zero =>
  intro fuel p hf hd hn;obtain⟨f,rfl⟩:∃f,fuel=f+1:=⟨fuel-1,by omega⟩;unfold SetTable.probe.go;have hn':p.j∉t.place.toList:=hn;refine⟨p.j,hn',?_⟩;rw[Av dm hn',hd]
 |succ k ih =>
  intro fuel p hf hd hn;obtain⟨f,rfl⟩:∃f,fuel=f+1:=⟨fuel-1,by omega⟩;unfold SetTable.probe.go;by_cases c:p.j∈t.place.toList
  ·obtain⟨i,e⟩:=Y5 up c;rw[e];dsimp only;have:(h+1==h)=false:=by grind
   rw[this];rw[a2D];exact ih f (adv t.mask p) (by omega) (by rw[Y6];exact hd) hn
  ·rw[Av dm c,hd];exact⟨p.j,c,Z⟩
def Vt(v:Nat):SetTable.Probe:={ j:=v%8,more:=0,i:=v%8,perturb:=v,dummy:=none}
def seven:∀v,v<16->∀j,j<8->∃k,k<16/\(nth 7 (Vt v) k).j=j:=by decide
def Pz{v:Nat}(h:v<16):SetTable.bits (v:Int)=v:=by
 unfold SetTable.bits;omega
def a0d{t:SetTable}(dm:t.dummies = #[])(up:t.place.toList.Pairwise (· < ·)){v:Nat}(hk:k<10*SetTable.turns t.mask)(hn:(nth t.mask (t.probeStart (v:Int)) k).j∉t.place.toList) :
  ∃j,j∉t.place.toList/\t.freeSlot (v:Int)=some (j,false):=by
 obtain⟨j,hj,e⟩:=ą dm up (v:Int) k (10*SetTable.turns t.mask) (t.probeStart (v:Int)) hk Z hn;refine⟨j,hj,?_⟩;unfold SetTable.freeSlot SetTable.probe;rw[e];rfl
theorem Vu:∀(l m:List Nat),l.Nodup->(∀x∈l,x∈m)->l.length<=m.length
 | [],_,_,_=>dI _
 |a::r,m,nd,h=>by
  have am:a∈m:=h a aW
  obtain⟨n1,n2⟩:=jC.mp nd
  have q:=Vu r (m.erase a) n2 λx hx=>(List.mem_erase_of_ne (λe=>n1 (by grind))).mpr (h x (bM _ hx))
  grind
def a2E{l:List Nat}(h:l.length<=4):∃j,j<8/\j∉l:=by
 apply Õ;intro c;have q:∀j,j<8->j∈l:=λj hj=>Õ λd=>c ⟨j,hj,d⟩;have:=Vu (List.range 8) l List.nodup_range (λj hj=>q j (mF.mp hj));grind
def Ć{t:SetTable}(dm:t.dummies = #[]){v:Nat}(hv:v<16)(hm:15<=t.mask)(hn:v∉t.place.toList):t.freeSlot (v:Int)=some (v,false):=by
 unfold SetTable.freeSlot SetTable.probe;have e:(t.probeStart (v:Int)).j=v:=by
  unfold SetTable.probeStart;dsimp only;rw[Pz hv];exact Nat.mod_eq_of_lt (by omega)
 obtain⟨f,hf⟩:∃f,10*SetTable.turns t.mask=f+1:=⟨10*SetTable.turns t.mask-1,by unfold SetTable.turns;omega⟩;rw[hf];unfold SetTable.probe.go;rw[e,Av dm hn];rfl
def Es(es:Array (Int×Value))(L:List Nat):Prop:=Paired (λe v=>e.1=((v:Nat):Int)/\∃tk,e.2=Value.int ((v:Nat):Int) tk) es.toList L
structure Tb(B:Bool)(t:SetTable)(L:List Nat):Prop where
 dm:t.dummies = #[]
 pl:t.plain=true
 led:t.led = !B
 up:t.place.toList.Pairwise (· < ·)
 sz:t.place.size=L.length
 nd:L.Nodup
 lt:∀v∈L,v<16
 sh:(t.mask=7/\L.length<=4)\/(15<=t.mask/\t.place.toList=L/\L.length*5<t.mask*3)
def a2F(up:xs.toList.Pairwise (· < ·))(h:j∉xs.toList):(SetTable.insertAt xs (SetTable.below xs j) j).toList.Pairwise (· < ·):=by
 obtain⟨a,b⟩:=Cv up j;rw[Im];have z:∀i (hi:i<xs.toList.length),xs.toList[i]<j↔i<SetTable.below xs j:=λi hi=>by
  have:=b i (by simpa using hi);simpa using this
 rw[TY];refine⟨up.sublist (Oe _ _),?_,?_⟩
 ·rw[zU];refine⟨λy hy=>?_,up.sublist (List.drop_sublist _ _)⟩;obtain⟨i,hi,e⟩:=uO hy;grind
 ·intro x hx y hy;obtain⟨i,hi,e⟩:=uO hx;rw[List.getElem_take]at e;have hl:i<xs.toList.length:=by grind
  have x1:x<j:=by grind
  rcases cH.mp hy with rfl|hy
  ·exact x1
  ·obtain⟨k,hk,e2⟩:=uO hy;grind
def Es.len{es:Array (Int×Value)}{L:List Nat}(h:Es es L):es.size=L.length:=by
 have:=aY h;grind
theorem Gf{α β:Type}{R:α->β->Prop}:∀{xs:List α}{ys:List β} (n:Nat),Paired R xs ys->Paired R (xs.take n) (ys.take n)
 |_,_,0,_=>.nil
 |_,_,_+1,.nil=>.nil
 |_,_,n+1,.cons r t=>.cons r (Gf n t)
theorem Gg{α β:Type}{R:α->β->Prop}:∀{xs:List α}{ys:List β} (n:Nat),Paired R xs ys->Paired R (xs.drop n) (ys.drop n)
 |_,_,0,r=>r
 |_,_,_+1,.nil=>.nil
 |_,_,n+1,.cons _ t=>Gg n t
def jh{α β:Type}{R:α->β->Prop}{xs xs':List α}{ys ys':List β}(h:Paired R xs ys)(q:Paired R xs' ys'):Paired R (xs++xs') (ys++ys'):=by
 induction h with
 |nil=>exact q
 |cons a _ ih=>exact .cons a ih
def bT{α β:Type}{R:α->β->Prop}{xs:List α}{ys:List β}(p:Paired R xs ys)(i:Nat)(h:i<ys.length):∃x,xs[i]?=some x/\R x ys[i]:=by
 induction p generalizing i with
 |nil=>cases h
 |cons r _ ih =>
  cases i with
  |zero=>exact⟨_,Z,r⟩
  |succ i=>exact ih i (Nat.lt_of_succ_lt_succ h)
def a2G{B:Bool}{t:SetTable}{L:List Nat}{es:Array (Int×Value)}{v:Nat}{x:Value}(T:Tb B t L)(hE:Es es L)(hv:v<16)(hn:v∉L)(hx:∃tk,x=Value.int ((v:Nat):Int) tk) :
  ∃t1 es1 p,layNew t es ((v:Nat):Int) x=(es1,t1,false,false)/\Es es1 (L.take p++v::L.drop p)/\t1.dummies = #[]/\t1.plain=true/\(t1.led = !B)/\t1.mask=t.mask/\t1.finger=t.finger/\t1.moves=t.moves/\
   t1.place.toList.Pairwise (· < ·)/\t1.place.size=L.length+1/\(15<=t.mask->t1.place.toList=L.take p++v::L.drop p):=by
 have main:∃j,j∉t.place.toList/\t.freeSlot ((v:Nat):Int)=some (j,false)/\(15<=t.mask->j=v):=by
  rcases T.sh with⟨m7,l4⟩|⟨Xf,pe,fl⟩
  ·have lp:t.place.toList.length<=4:=by rw[vW,T.sz];exact l4
   obtain⟨j,hj,nj⟩:=a2E lp;obtain⟨k,hk,e⟩:=seven v hv j hj;have st:t.probeStart ((v:Nat):Int)=Vt v:=by
    unfold SetTable.probeStart Vt;rw[Pz hv,m7];unfold SetTable.runEnd;have:¬v%(7+1)+9<=7:=by omega
    simp only[if_neg this];simp
   obtain⟨j',hj',e'⟩:=a0d (v:=v) (k:=k) T.dm T.up (by unfold SetTable.turns;omega) (by rw[st,m7,e];exact nj);exact⟨j',hj',e',λc=>by omega⟩
  ·have nv:v∉t.place.toList:=by rw[pe];exact hn
   exact⟨v,nv,Ć T.dm hv Xf nv,λ_=>rfl⟩
 obtain⟨j,nj,ef,ej⟩:=main;have sz1:(SetTable.insertAt t.place (SetTable.below t.place j) j).size=L.length+1:=by
  have:=congrArg List.length (Im t.place (SetTable.below t.place j) j);rw[vW]at this;rw[this,bW,nA,dZ,kW,vW,T.sz];omega
 have es1:(SetTable.insertAt es (SetTable.below t.place j) (((v:Nat):Int),x)).size=L.length+1:=by
  have:=congrArg List.length (Im es (SetTable.below t.place j) (((v:Nat):Int),x));rw[vW]at this;rw[this,bW,nA,dZ,kW,vW,hE.len];omega
 have mk:L.length+1<=t.mask:=by
  rcases T.sh with⟨m7,l4⟩|⟨Xf,pe,fl⟩<;>omega
 refine⟨{ t with place:=SetTable.insertAt t.place (SetTable.below t.place j) j},SetTable.insertAt es (SetTable.below t.place j) (((v:Nat):Int),x),SetTable.below t.place j,?_,?_,T.dm,T.pl,T.led,rfl,rfl,rfl,a2F T.up nj,sz1,?_⟩
 ·unfold layNew;rw[ef];dsimp only;unfold SetTable.put;have hd:SetTable.has t.dummies j=false:=by rw[T.dm];exact Xe j
  dsimp only;rw[hd];have ft:SetTable.fits { t with place:=SetTable.insertAt t.place (SetTable.below t.place j) j} (SetTable.insertAt es (SetTable.below t.place j) (((v:Nat):Int),x)).size=true:=by
   unfold SetTable.fits SetTable.fill;dsimp only;rw[sz1,es1,T.dm];simp;omega
  unfold SetTable.orStandIn;simp only[if_false,Bool.false_eq_true];rw[aG ft,ft];rfl
 ·unfold Es;rw[Im];exact jh (Gf _ hE) (.cons ⟨Z,hx⟩ (Gg _ hE))
 ·intro hm;dsimp only;have:=ej hm;subst this;rcases T.sh with⟨m7,l4⟩|⟨Xf,pe,fl⟩
  ·omega
  ·rw[Im,pe]
end Sm
namespace Sm
variable{L:List Nat}{m f n:Nat}{es:Array (Int×Value)}
def ć(m:Nat)(owner:Array (Option Nat))(L:List Nat):Prop:=owner.size=m+1/\∀j,j<=m->owner.getD j none=if j∈L then some (L.idxOf j)else none
def Ĉ{owner:Array (Option Nat)}(Z96:ć m owner L){v:Nat}(hv:v<=m)(hn:v∉L):SetTable.layClean.free m owner (f+1) v v=some v:=by
 unfold SetTable.layClean.free;obtain⟨k,hk⟩:∃k,SetTable.runEnd m v+1-v=k+1:=⟨SetTable.runEnd m v-v,by unfold SetTable.runEnd;split<;>omega⟩;rw[hk,List.range_succ_eq_map];have g:owner.getD (v+0) (some 0)=none:=by
  have a:=Z96.2 v hv;rw[aB hn]at a;have hs:v<owner.size:=by rw[Z96.1];omega
  simp[Array.getD,hs]at a ⊢;exact a
 rw[Io (by rw[g];rfl)];rfl
def ĉ(hm:15<=m):∀(R L:List Nat) (owner:Array (Option Nat)),ć m owner L->(L++R).Nodup->(∀v∈R,v<16)->
  ∃Ċ,ć m Ċ (L++R)/\(R.map λv=>((v:Nat):Int)).foldl (λ(acc:Option (Array (Option Nat)×Nat)) h=>do
   let(owner,k) <-acc
   let j <-SetTable.layClean.free m owner (SetTable.turns m) (SetTable.bits h%(m+1)) (SetTable.bits h)
   pure (owner.setIfInBounds j (some k),k+1)) (some (owner,L.length))=some (Ċ,(L++R).length):=by
 intro R
 induction R with
 |nil=>grind
 |cons v R ih =>
  intro L owner Z96 nd hlt;have hv:v<16:=hlt v aW;have hn:v∉L:=λc=>by
   grind
  have O':ć m (owner.setIfInBounds v (some L.length)) (L++[v]):=by
   refine⟨by rw[Array.size_setIfInBounds];exact Z96.1,λj hj=>?_⟩;have hs:v<owner.size:=by rw[Z96.1];omega
   have hs':j<owner.size:=by rw[Z96.1];omega
   have a:=Z96.2 j hj;by_cases e:j=v
   ·subst e;rw[aG (gF _ (bw.mpr Z)),List.idxOf_append,aB hn];simp[Array.getD,hs]
   ·have e1:(owner.setIfInBounds v (some L.length)).getD j none=owner.getD j none:=by
     simp only[Array.getD,Array.size_setIfInBounds,hs'];simp[Array.getElem_setIfInBounds,hs',Ne.symm e]
    grind
  obtain⟨o2,O2,e2⟩:=ih (L++[v]) _ O' (by grind) (λu hu=>hlt u (bM _ hu));refine⟨o2,by grind,?_⟩;rw[cL,List.foldl_cons];have st:(do
   let(owner,k) <-some (owner,L.length);let j <-SetTable.layClean.free m owner (SetTable.turns m) (SetTable.bits ((v:Nat):Int)%(m+1)) (SetTable.bits ((v:Nat):Int))
   pure (owner.setIfInBounds j (some k),k+1):Option (Array (Option Nat)×Nat))=some (owner.setIfInBounds v (some L.length),(L++[v]).length):=by
   rw[Pz hv,Nat.mod_eq_of_lt (by omega)];have:SetTable.turns m=(m+14)+1:=rfl;rw[this];show(SetTable.layClean.free m owner (m+14+1) v v).bind _=_;rw[Ĉ Z96 (by omega) hn];simp
  grind
def upTo(m:Nat)(L:List Nat):List Nat:=(List.range (m+1)).filter λj=>decide (j∈L)
def PJ(m:Nat)(L:List Nat):(upTo m L).Pairwise (· < ·):=Ip _ List.pairwise_lt_range
def mem_upTo(h:∀v∈L,v<=m){j:Nat}:j∈upTo m L↔j∈L:=by
 unfold upTo;grind
def Gh(h:L.Pairwise (· < ·)):L.Nodup:=h.imp λh=>cu h
def yZ(h:∀v∈L,v<=m)(nd:L.Nodup):(upTo m L).Perm L :=
 (Ik (Gh (PJ m L)) nd).mpr λj=>mem_upTo h
def a0e(nd:L.Nodup):L.map (λv=>L.idxOf v)=List.range L.length:=by
 apply Ui
 ·simp
 grind
theorem ċ{α β:Type}(p:α->Bool)(f:α->β):∀l:List α,l.filterMap (λa=>if p a=true then some (f a)else none)=(l.filter p).map f
 | []=>rfl
 |a::r=>by
  rw[Ei]
  cases e:p a with
  |true=>rw[NP (b:=f a) (by rw[e];rfl),ċ p f r];simp
  |false=>rw[List.filterMap_cons_none (by rw[e];rfl),ċ p f r];simp
theorem Rc{α β:Type}{f g:α->Option β}:∀{l:List α},(∀a∈l,f a=g a)->l.filterMap f=l.filterMap g
 | [],_=>rfl
 |a::r,h=>by
  have e:=h a aW
  have q:=Rc (l:=r) λb hb=>h b (bM _ hb)
  grind
def Es.hashes(h:Es es L):(es.map (·.1)).toList=L.map λv=>((v:Nat):Int):=by
 rw[Array.toList_map];unfold Es at h;generalize es.toList=l at h
 induction h with
 |nil=>rfl
 |cons r _ ih=>grind
def Es.at{es:Array (Int×Value)}{L:List Nat}(h:Es es L){v:Nat}(hv:v∈L):∃e,es[L.idxOf v]?=some e/\e.1=((v:Nat):Int)/\∃tk,e.2=Value.int ((v:Nat):Int) tk:=by
 have hi:=Ð hv;obtain⟨x,e,q⟩:=bT h (L.idxOf v) hi;rw[List.getElem_idxOf hi]at q;exact⟨x,by simpa using e,q⟩
theorem a1E{es:Array (Int×Value)}{L:List Nat}(h:Es es L):∀S:List Nat,(∀v∈S,v∈L)->Paired (λe v=>e.1=((v:Nat):Int)/\∃tk,e.2=Value.int ((v:Nat):Int) tk) ((S.map λv=>L.idxOf v).filterMap λi=>es[i]?) S
 | [],_=>.nil
 |v::S,hs=>by
  obtain⟨e,a,b⟩:=h.at (hs v aW)
  rw[cL,NP a]
  exact .cons b (a1E h S λu hu=>hs u (bM _ hu))
def PK{mv:Nat}{led plain:Bool}(hm:15<=m)(hE:Es es L)(nd:L.Nodup)(hlt:∀v∈L,v<16) :
  ∃order:Array Nat,SetTable.laid m f mv led plain (es.map (·.1))=some ({ mask:=m,place:=(upTo m L).toArray,dummies:=#[],finger:=f,led:=led,moves:=mv,plain:=plain},order)/\
   Es (order.filterMap (es[·]?)) (upTo m L)/\coversAll order es.size=true:=by
 have hle:∀v∈L,v<=m:=λv hv=>by grind
 have O0:ć m (Array.replicate (m+1) none) []:=⟨by simp,λj hj=>by simp[Array.getD]⟩;obtain⟨ow,Z96,e⟩:=ĉ hm L [] _ O0 (by simpa using nd) hlt;rw[List.nil_append]at Z96 e;have ec:SetTable.layClean m (es.map (·.1))=some ow:=by
  unfold SetTable.layClean;rw[<-Array.foldl_toList,hE.hashes];grind
 have lv:(List.range (m+1)).filterMap (λj=>(ow.getD j none).map λk=>(j,k))=(upTo m L).map λj=>(j,L.idxOf j):=by
  unfold upTo;rw[<-ċ];apply Rc;intro j hj;rw[Z96.2 j (by grind)];grind
 refine⟨((upTo m L).map λj=>L.idxOf j).toArray,?_,?_,?_⟩
 ·unfold SetTable.laid;rw[ec];show some _=some _;have:(List.range (m+1)).filterMap (λj=>(ow.getD j none).map (j,·))=(upTo m L).map λj=>(j,L.idxOf j):=lv;rw[this,nC,nC];have i1:((λ(x:Nat×Nat)=>x.1)∘λj=>(j,L.idxOf j))=λj=>j:=rfl;have i2:((λ(x:Nat×Nat)=>x.2)∘λj=>(j,L.idxOf j))=λj=>L.idxOf j:=rfl;rw[i1,i2,List.map_id']
 ·unfold Es;rw[Array.toList_filterMap];exact a1E hE (upTo m L) λv hv=>(mem_upTo hle).mp hv
 ·unfold coversAll;rw[List.isPerm_iff,hE.len];have p:=(yZ hle nd).map λv=>L.idxOf v;rw[a0e nd]at p;exact p
def Vv(h:∀v∈L,v<16)(hm:15<=m)(nd:L.Nodup):(upTo m L).length=L.length:=(yZ (λv hv=>by grind) nd).length_eq
def Cw(h:n<2^40):n<SetTable.sizeAbove n:=by
 have go:∀fuel size,n<size*2^fuel->n<SetTable.sizeAbove.go n fuel size:=by
  intro fuel
  induction fuel with
  |zero=>intro size h;unfold SetTable.sizeAbove.go;simpa using h
  |succ f ih =>
   intro size h;unfold SetTable.sizeAbove.go;grind
 exact go 64 8 (by omega)
def Cy(h:8<=n):16<=SetTable.sizeAbove n:=by
 have go:∀fuel size,16<=size->16<=SetTable.sizeAbove.go n fuel size:=by
  intro fuel
  induction fuel with
  |zero=>intro size h;unfold SetTable.sizeAbove.go;exact h
  |succ f ih =>
   intro size h;unfold SetTable.sizeAbove.go;grind
 unfold SetTable.sizeAbove;unfold SetTable.sizeAbove.go;grind
def Tb.fits{B:Bool}{t:SetTable}{L:List Nat}(T:Tb B t L):t.fits L.length=true:=by
 unfold SetTable.fits SetTable.fill;have:=T.sz;rw[T.dm];rcases T.sh with⟨a,b⟩|⟨a,b,c⟩<;>simp[this]<;>omega
def PL{B:Bool}{mv:Nat}(hm:15<=m)(nd:L.Nodup)(hlt:∀v∈L,v<16)(hr:L.length*5<m*3) :
  Tb B { mask:=m,place:=(upTo m L).toArray,dummies:=#[],finger:=f,led:=!B,moves:=mv,plain:=true} (upTo m L) where
 dm:=rfl
 pl:=rfl
 led:=rfl
 up:=by simpa using PJ m L
 sz:=by simp
 nd:=Gh (PJ m L)
 lt:=λv hv=>hlt v ((mem_upTo (λv hv=>by grind)).mp hv)
 sh:=.inr ⟨hm,by simp,by rw[Vv hlt hm nd];exact hr⟩
def Č{B:Bool}{t:SetTable}(hp:t.plain=true)(hl:t.led = !B)(hE:Es es L)(nd:L.Nodup)(hlt:∀v∈L,v<16)(hn:8<=n)(h2:2*L.length<=n)(hb:n<2^40) :
  ∃es' t' L',relayAll t es n=(es',t',false)/\Es es' L'/\Tb B t' L'/\L'.Perm L:=by
 have a1:=Cw hb;have a2:=Cy hn;have hm:15<=SetTable.sizeAbove n-1:=by omega
 obtain⟨order,e,hE',hc⟩:=PK (f:=t.finger) (mv:=t.movedTo (SetTable.sizeAbove n-1)) (led:=!B) (plain:=true) hm hE nd hlt;have T:=PL (B:=B) (f:=t.finger) (mv:=t.movedTo (SetTable.sizeAbove n-1)) hm nd hlt (by omega);refine⟨_,_,_,?_,hE',T,yZ (λv hv=>by have:=hlt v hv;omega) nd⟩;unfold relayAll SetTable.relaid;rw[hp,hl,e];dsimp only;have z:=hE'.len;rw[hc,z,T.fits];rfl
end Sm
namespace Sm
variable{L:List Nat}{es:Array (Int×Value)}{h:Heap}{a:Addr}{B:Bool}{tk:Nat}
abbrev lV(es:Array (Int×Value))(ep:Nat)(t:SetTable):Obj:={ cls:=.type "set",dict:=none,data:=.set es ep t,slots:=#[]}
def jq(B:Bool)(h:Heap)(a:Addr)(L:List Nat):Prop:=∃es ep t,h.get? a=some (lV es ep t)/\Es es L/\Tb B t L
def qY(h:Heap)(a:Addr):Prop:=∃es ep t,h.get? a=some (lV es ep t)/\(t.mask=7\/5<=es.size)
def qY.keep{h':Heap}(S:qY h a)(k:∀o,h.get? a=some o->h'.get? a=some o):qY h' a :=
 let⟨es,ep,t,ho,r⟩:=S;⟨es,ep,t,k _ ho,r⟩
def jq.keep{h':Heap}(S:jq B h a L)(k:∀o,h.get? a=some o->h'.get? a=some o):jq B h' a L :=
 let⟨es,ep,t,ho,r⟩:=S;⟨es,ep,t,k _ ho,r⟩
def Tb.len{t:SetTable}(T:Tb B t L):L.length<=16:=by
 have:=Vu L (List.range 16) T.nd λx hx=>mF.mpr (T.lt x hx);simpa using this
def Vw:∀v:Nat,v<16->hashInt ((v:Nat):Int)=((v:Nat):Int):=by decide
def Es.elems{prog:Program}{w:World}(h:Es es L)(lt:∀v∈L,v<16):ElemsOf (intKind prog w) es.toList:=by
 unfold Es at h;generalize es.toList=l at h
 induction h with
 |nil=>intro e he;simp at he
 | @cons x y xs ys r _ ih =>
  intro e he;rcases cH.mp he with rfl|he
  ·obtain⟨tk,e2⟩:=r.2;refine⟨⟨((y:Nat):Int),?_,?_⟩,?_⟩
   ·show Value.isInt _ _=true;rw[e2];simp[Value.isInt]
   ·rw[r.1];exact(Vw y (lt y aW)).symm
   ·rw[e2];rfl
  ·exact ih (λv hv=>lt v (bM _ hv)) e he
def Es.find(h:Es es L)(v:Nat):(es.toList.findIdx? λe=>Value.isInt ((v:Nat):Int) e.2).isSome=decide (v∈L):=by
 unfold Es at h;generalize es.toList=l at h
 induction h with
 |nil=>simp
 | @cons x y xs ys r _ ih =>
  obtain⟨tk,e2⟩:=r.2;rw[List.findIdx?_cons,e2];by_cases c:v=y
  ·subst c;simp[Value.isInt]
  ·have:Value.isInt ((v:Nat):Int) (.int ((y:Nat):Int) tk)=false:=by simp[Value.isInt];omega
   grind
section
variable{prog:Program}{w:World}{A:Around}{E:Value->Shared->Prop}{s:Shared}
def a0f{ep:Nat}{t:SetTable}{v:Nat}{ad:Bool}{Q:ScanMet->Shared->Prop}(ho:s.heap.get? a=some (lV es ep t))(hE:Es es L)(T:Tb B t L)(hv:v<16)
  (h1:v∈L->∀j,Q (.found j) s) (h2:v∉L->Q .absent s):wpAny (model prog w) A (setScan a (.int ((v:Nat):Int) tk) ((v:Nat):Int) ad es) Q E s:=by
 have hf:t.fits es.size=true:=by rw[hE.len];exact T.fits
 have sc:=wpAny_setScan_of (prog:=prog) (w:=w) (A:=A) (E:=E) (s:=s) (knd:=intKind prog w) (k:=((v:Nat):Int)) (x:=.int ((v:Nat):Int) tk) (adding:=ad) (Q:=Q) (by simp[intKind,Value.isInt]) ho Z hf (hE.elems T.lt) (by
  have q:=hE.find v;have e:(λe:Int×Value=>(intKind prog w).is ((v:Nat):Int) e.2)=λe=>Value.isInt ((v:Nat):Int) e.2:=rfl;grind)
 have e:(intKind prog w).hash ((v:Nat):Int)=((v:Nat):Int):=Vw v hv;grind
def za{es':Array (Int×Value)}{ep:Nat}{t t':SetTable}(ho:h.get? a=some (lV es ep t)):(h.update a (Obj.putSet es' t')).get? a=some (lV es' (ep+1) t'):=by
 have:=zR (Obj.putSet es' t') ho (by rw[putSet_of es' t' rfl];rfl);rw[putSet_of es' t' rfl]at this;exact this
def a0g(prog:Program)(w:World){t:SetTable}{v:Nat}(hE:Es es L)(T:Tb B t L):byScan (.int ((v:Nat):Int) tk) es=true :=
 byScan_of (knd:=intKind prog w) Z (by rw[hE.len];have:=T.len;unfold scanBound;omega) (hE.elems T.lt)
def č{v:Nat}{Q:Bool->Shared->Prop}(S:jq B s.heap a L)(hv:v<16)
  (h:∀b h' L',Heap.SameBut a s.heap h'->jq B h' a L'->(∀u,u∈L'↔u=v\/u∈L)->(qY s.heap a->qY h' a)->Q b { s with heap:=h'}) :
  wpAny (model prog w) A (setAddHashed a (.int ((v:Nat):Int) tk) ((v:Nat):Int)) Q E s:=by
 obtain⟨es,ep,t,ho,hE,T⟩:=S;have hf:t.fits es.size=true:=by rw[hE.len];exact T.fits
 unfold setAddHashed setAddHashedIn;refine ig (M (wpAny_setState_of ho Z hf ?_));dsimp only;rw[a0g prog w hE T];simp only[↓reduceIte];unfold setAddByScan;refine M (M (jY (M (a0f ho hE T hv (λhm j=>?_) λhm=>?_))))
 ·dsimp only;refine ao (ao ?_);have q:=h false s.heap L (Ub a s.heap) ⟨es,ep,t,ho,hE,T⟩ (λu=>⟨.inr,λc=>c.elim (λe=>e▸hm) id⟩) id;exact q
 ·dsimp only;obtain⟨t1,es1,p,e1,hE1,dm,pl,ld,mk,_,_,up,sz,own⟩:=a2G (x:=.int ((v:Nat):Int) tk) T hE hv hm ⟨tk,Z⟩;rw[e1];dsimp only;refine M (ao ?_);rw[pl];refine M (ao ?_);simp only[↓reduceIte];have mem:∀u,u∈L.take p++v::L.drop p↔u=v\/u∈L:=λu=>by
   rw[b7,cH];have e:u∈L↔u∈L.take p\/u∈L.drop p:=by rw[<-b7,rR]
   rw[e];constructor
   ·rintro(c|c|c)
    ·exact .inr (.inl c)
    ·exact .inl c
    ·exact .inr (.inr c)
   ·rintro(c|c|c)
    ·exact .inr (.inl c)
    ·exact .inl c
    ·exact .inr (.inr c)
  have nd1:(L.take p++v::L.drop p).Nodup:=by
   have pm:(L.take p++v::L.drop p).Perm (v::L):=by
    have:L.take p++L.drop p=L:=rR p L;exact List.perm_middle.trans (by rw[this])
   exact pm.nodup_iff.mpr (jC.mpr ⟨hm,T.nd⟩)
  have lt1:∀u∈L.take p++v::L.drop p,u<16:=λu hu=>((mem u).mp hu).elim (λe=>e▸hv) (T.lt u);have ln1:(L.take p++v::L.drop p).length=L.length+1:=by
   rw[bW,nA,dZ,kW];omega
  have fl:t1.fill=L.length+1:=by unfold SetTable.fill;rw[dm,sz];rfl
  have l16:=T.len;have z1:es1.size=L.length+1:=by rw[hE1.len,ln1]
  refine M (Iz ho Z ?_ (by rw[z1,jD];omega));have ho1:=za (es':=es1) (t':=t1) ho;cases tf:t1.tooFull with
  |false =>
   simp only[Bool.not_false,Bool.and_false,Bool.false_eq_true,if_false];refine ao (ao ?_);refine h true _ _ (rT ..) ⟨es1,ep+1,t1,ho1,hE1,⟨dm,pl,ld,up,by rw[ln1,sz],nd1,lt1,?_⟩⟩ mem (λ⟨Tc,ep0,t0,ho0,d⟩=>⟨es1,ep+1,t1,ho1,by
    rw[ho]at ho0;cases ho0;rw[mk,z1];have:=hE.len;omega⟩)
   unfold SetTable.tooFull at tf;have tf':=Ed tf;rw[fl,mk]at tf';rw[ln1,mk];rcases T.sh with⟨m7,l4⟩|⟨Xf,pe,_⟩
   ·refine .inl ⟨m7,by omega⟩
   ·exact .inr ⟨Xf,own Xf,by omega⟩
  |true =>
   simp only[Bool.not_false,Bool.and_self,if_true];unfold SetTable.tooFull at tf;have tf':=eZ tf;rw[fl,mk]at tf';have five:5<=L.length+1:=by
    rcases T.sh with⟨m7,l4⟩|⟨Xf,pe,_⟩<;>omega
   have gr:SetTable.grown es1.size=(L.length+1)*4:=by
    unfold SetTable.grown;rw[z1,aB (by omega)]
   obtain⟨es2,t2,L2,e2,hE2,T2,pm⟩:=Č (t:=t1) (n:=SetTable.grown es1.size) pl ld hE1 nd1 lt1 (by rw[gr];omega) (by rw[gr,ln1];omega) (by rw[gr];omega);rw[e2];dsimp only;refine M (ao ?_);refine M (Iz ho1 Z ?_ (by rw[hE2.len,pm.length_eq,ln1,jD];omega));refine ao (ao ?_);exact h true _ L2 ((rT ..).trans (rT ..)) ⟨es2,_,t2,za ho1,hE2,T2⟩ (λu=>(pm.mem_iff).trans (mem u)) λ_=>⟨es2,_,t2,za ho1,.inr (by rw[hE2.len,pm.length_eq,ln1];exact five)⟩
end
end Sm
namespace Sm
variable{es:Array (Int×Value)}{ep:Nat}
abbrev qi(w:World):Bool:=w.params.followText "set-order"
theorem Ju{α:Type}:∀(l:List α) (i:Nat) (h:i<l.length),(l[i]::l.eraseIdx i).Perm l
 |_::r,0,_=>.refl _
 |x::r,i+1,h=>by
  have q:=Ju r i (by simpa using h)
  rw[List.getElem_cons_succ,List.eraseIdx_cons_succ]
  exact(List.Perm.swap x (r[i]'(by simpa using h)) (r.eraseIdx i)).trans (q.cons x)
def a0h{α:Type}(nx:Nat->Nat):∀(fuel k:Nat) (left:List α) (out:Array α),left.length<=fuel->(pickOrder.go nx fuel k left out).toList.Perm (out.toList++left):=by
 intro fuel
 induction fuel with
 |zero =>
  intro k left out h;have:left=[]:=NQ.mp (by omega);subst this;unfold pickOrder.go;simp
 |succ f ih =>
  intro k left out h;unfold pickOrder.go;by_cases c:left=[]
  ·subst c;simp
  ·have pos:0<left.length:=List.length_pos_iff.mpr c;have lt:=Nat.mod_lt (nx k) pos;rw[bV lt];dsimp only;refine(ih (k+1) _ _ (by grind)).trans ?_;rw[Array.toList_push,Aa];exact List.Perm.append_left _ (Ju left _ lt)
def Mp{α:Type}(nx:Nat->Nat)(xs:Array α):(pickOrder nx xs).toList.Perm xs.toList:=by
 have:=a0h nx xs.size 0 xs.toList #[] (by simp);unfold pickOrder;simpa using this
def Xg(a:Addr):setWalk a=(do
 let(xs,c,tb) <-setState a
 if <-setsByText then
  let q <-ask
  return pickOrder (q.params.setOrder a c) xs
 if !tb.plain&&xs.size>1 then return (<-drawOrder xs.size xs.toList).toArray
 (do if !tb.led&&xs.size>1 then unsupported "set:maker-not-led" : Sem Unit)
 return xs):=rfl
def Es.perm{L:List Nat}(h:Es es L){es':List (Int×Value)}(p:es'.Perm es.toList):∃L',Paired (λe v=>e.1=((v:Nat):Int)/\∃tk,e.2=Value.int ((v:Nat):Int) tk) es' L'/\L'.Perm L:=by
 refine⟨es'.map λe=>e.1.toNat,?_,?_⟩
 ·have all:∀e∈es.toList,∃v:Nat,e.1=((v:Nat):Int)/\∃tk,e.2=Value.int ((v:Nat):Int) tk:=by
   unfold Es at h;generalize es.toList=l at h;clear p
   induction h with
   |nil=>intro e he;simp at he
   |cons r _ ih =>
    intro e he;rcases cH.mp he with rfl|he
    ·exact⟨_,r⟩
    ·exact ih e he
  have all':∀e∈es',∃v:Nat,e.1=((v:Nat):Int)/\∃tk,e.2=Value.int ((v:Nat):Int) tk:=λe he=>all e (p.mem_iff.mp he);clear p
  induction es' with
  |nil=>exact .nil
  |cons e r ih =>
   obtain⟨v,e1,e2⟩:=all' e aW;rw[cL];refine .cons ?_ (ih λx hx=>all' x (bM _ hx));rw[e1];exact⟨Z,e2⟩
 ·refine(p.map λe=>e.1.toNat).trans ?_;unfold Es at h;generalize es.toList=l at h;have:l.map (λe=>e.1.toNat)=L:=by
   induction h with
   |nil=>rfl
   |cons r _ ih=>rw[cL,ih,r.1];rfl
  rw[this]
section
variable{prog:Program}{w:World}{A:Around}{E:Value->Shared->Prop}{s:Shared}{a:Addr}{L:List Nat}
def jJ{t:SetTable}{B:Bool}{Q:(Array (Int×Value)×Nat×SetTable)->Shared->Prop}(ho:s.heap.get? a=some (lV es ep t))(hE:Es es L)(T:Tb B t L)(h:Q (es,ep,t) s) :
  wpAny (model prog w) A (setState a) Q E s:=wpAny_setState_of ho Z (by rw[hE.len];exact T.fits) h
def tB{Q:Bool->Shared->Prop}(h:Q (qi w) s):wpAny (model prog w) A setsByText Q E s:=by
 unfold setsByText;exact M (Ol (ao h))
def walk_at{t:SetTable}{Q:Array (Int×Value)->Shared->Prop}(ho:s.heap.get? a=some (lV es ep t))(hE:Es es L)(T:Tb (qi w) t L)
  (h:∀es',es'.toList.Perm es.toList->Q es' s):wpAny (model prog w) A (setWalk a) Q E s:=by
 rw[Xg];refine M (jJ ho hE T (M (tB ?_)));have pl:=T.pl;have ld:=T.led;cases c:qi w with
 |true =>
  simp only[if_true];exact M (Ol (ao (h _ (Mp _ _))))
 |false =>
  rw[c]at ld;simp only[pl,ld,Bool.not_true,Bool.not_false,Bool.false_and,Bool.false_eq_true,if_false];first|exact M (ao (ao (h _ .rfl)))|exact ao (h _ .rfl)
def Y7{t:SetTable}{others:List Addr}{f:Option Addr}{Q:Array (Int×Value)->Shared->Prop}(ho:s.heap.get? a=some (lV es ep t))(hE:Es es L)(T:Tb (qi w) t L)
  (h:∀es',es'.toList.Perm es.toList->Q es' s):wpAny (model prog w) A (setWalkUnseen a others f) Q E s:=by
 unfold setWalkUnseen;refine M (jJ ho hE T (M (tB ?_)));have e:(qi w||(t.led&&t.plain)||decide (es.size<=1))=true:=by rw[T.led,T.pl];grind
 dsimp only;rw[aG e];exact walk_at ho hE T h
def Xh(es:Array (Int×Value))(laid:Option (SetTable×Array Nat)):Sem (Array (Int×Value)×SetTable):=do
 let some (t,order):=laid
  |unsupported "internal:set-table-without-room"
 if(order.filterMap (es[·]?)).size != es.size then unsupported "internal:set-table-lost-an-element"
 pure (order.filterMap (es[·]?),t)
def Ď(a:Addr)(n:Nat):setRelay a n=(do
 let(es,_,t) <-setState a
 if SetTable.sizeAbove n>sizeLine then unsupported "set:memory"
 let(es,t) <-Xh es (t.relaid (es.map (·.1)) n)
 storeSet a es t):=rfl
def Rf{t:SetTable}{order:Array Nat}{S:List Nat}{Q:Array (Int×Value)×SetTable->Shared->Prop}(hE':Es (order.filterMap (es[·]?)) S)(hz:es.size=S.length)(h:Q (order.filterMap (es[·]?),t) s) :
  wpAny (model prog w) A (Xh es (some (t,order))) Q E s:=by
 unfold Xh;dsimp only;have e:((order.filterMap (es[·]?)).size != es.size)=false:=by rw[hE'.len,hz];simp
 simp only[e,Bool.false_eq_true,if_false];first|exact M (ao (ao h))|exact ao h
def ď{n:Nat}(h:n<=64):SetTable.sizeAbove n<=128:=by
 have:∀n,n<=64->SetTable.sizeAbove n<=128:=by decide
 grind
def a0i{more:Nat}{Q:Unit->Shared->Prop}{B:Bool}(S:jq B s.heap a L)(hm:more<=16)
  (h:∀h' es ep t L',Heap.SameBut a s.heap h'->h'.get? a=some (lV es ep t)->Es es L'->Tb B t L'->L'.Perm L->(L.length+more)*5<t.mask*3->Q () { s with heap:=h'}):wpAny (model prog w) A (setRoomFor a more) Q E s:=by
 obtain⟨es,ep,t,ho,hE,T⟩:=S;unfold setRoomFor;refine M (jJ ho hE T ?_);have fl:t.fill=L.length:=by unfold SetTable.fill;rw[T.dm,T.sz];rfl
 have l16:=T.len;unfold SetTable.roomFor;dsimp only;rw[fl,T.sz];by_cases c:(L.length+more)*5>=t.mask*3
 ·rw[aG c];dsimp only;rw[Ď];refine M (jJ ho hE T ?_);have five:5<=L.length+more:=by
   rcases T.sh with⟨m7,_⟩|⟨Xf,_,_⟩<;>omega
  have b1:=Cw (n:=(L.length+more)*2) (by omega);have b2:=Cy (n:=(L.length+more)*2) (by omega);have b3:=ď (n:=(L.length+more)*2) (by omega);dsimp only;rw[aB (by rw[jD];omega)];have hm':15<=SetTable.sizeAbove ((L.length+more)*2)-1:=by omega
  obtain⟨order,e,hE',hc⟩:=PK (f:=t.finger) (mv:=t.movedTo (SetTable.sizeAbove ((L.length+more)*2)-1)) (led:=t.led) (plain:=t.plain) hm' hE T.nd T.lt;unfold SetTable.relaid;rw[e];have lz:=Vv T.lt hm' T.nd;refine M (Rf hE' (by rw[hE.len,lz]) ?_);refine Iz ho Z ?_ (by rw[hE'.len,lz,jD];omega);have T':=PL (B:=B) (f:=t.finger) (mv:=t.movedTo (SetTable.sizeAbove ((L.length+more)*2)-1)) hm' T.nd T.lt (by omega);rw[<-T.led,<-T.pl]at T';exact h _ _ _ _ _ (rT ..) (za ho) hE' T' (yZ (λv hv=>by have:=T.lt v hv;omega) T.nd) (by show _<(SetTable.sizeAbove ((L.length+more)*2)-1)*3;omega)
 ·rw[aB c];exact ao (h s.heap es ep t L (Ub a s.heap) ho hE T .rfl (by omega))
end
end Sm
namespace Sm
def Đ(sA oA:Addr)(each:Sem Unit):setMerge sA oA each=(do
 if sA==oA then return
 let(eo,epoch,to) <-setState oA
 if eo.isEmpty then return
 setRoomFor sA eo.size
 let(_,_,ts) <-setState sA
 match ts.road to with
 |.slotForSlot =>
  storeSet sA eo { to with finger:=ts.finger,led:=ts.led&&to.led,moves:=ts.moves,plain:=ts.plain&&to.plain}
 |.clean =>
  let(es,t) <-Xh eo (SetTable.laid ts.mask ts.finger ts.moves (ts.led&&to.led) (ts.plain&&to.plain) (eo.map (·.1)))
  storeSet sA es t
 |.oneByOne =>
  for (h,x)in <-setWalkUnseen oA [sA] (some sA) do
   let _ <-holding [x] (setAddHashed sA x h)
   each
   if(<-setState oA).2.1 != epoch then unsupported "set.changed-during-merge"):=rfl
section
variable{prog:Program}{w:World}{A:Around}{E:Value->Shared->Prop}{s:Shared}{sA oA:Addr}{L1 L2:List Nat}
def Rg{each:Sem Unit}{Q:Unit->Shared->Prop}(ne:sA≠oA)(S1:jq (qi w) s.heap sA L1)(S2:jq (qi w) s.heap oA L2)(D:qY s.heap oA)
  (he:∀(s':Shared) (Q':Unit->Shared->Prop),(∀o,s.heap.get? oA=some o->s'.heap.get? oA=some o)->Q' () s'->wpAny (model prog w) A each Q' E s')
  (h:∀h' L,Heap.SameBut sA s.heap h'->jq (qi w) h' sA L->(∀u,u∈L↔u∈L1\/u∈L2)->Q () { s with heap:=h'}):wpAny (model prog w) A (setMerge sA oA each) Q E s:=by
 obtain⟨eo,ep,to,ho,hE,T⟩:=S2;rw[Đ];have nb:(sA==oA)=false:=xu.mpr ne;rw[nb];simp only[Bool.false_eq_true,if_false];refine M (jJ ho hE T ?_);dsimp only;have hz:=hE.len;have l16:=T.len;by_cases c:eo.isEmpty=true
 ·rw[aG c];have l0:L2.length=0:=by grind
  have:L2=[]:=NQ.mp l0;subst this;exact ao (h s.heap L1 (Ub _ _) S1 λu=>by simp)
 rw[aB c];refine M (a0i S1 (by omega) λh1 es1 ep1 t1 L1' Ew ho1 hE1 T1 pm hr=>?_);have ho':h1.get? oA=some (lV eo ep to):=by rw[Ew.2 oA (Ne.symm ne)];exact ho
 refine M (jJ (s:={ s with heap:=h1}) ho1 hE1 T1 ?_);dsimp only;have fl:t1.fill=L1'.length:=by unfold SetTable.fill;rw[T1.dm,T1.sz];rfl
 unfold SetTable.road;rw[fl,pm.length_eq];have ld:(t1.led&&to.led) = !qi w:=by rw[T1.led,T.led];simp
 have pl:(t1.plain&&to.plain)=true:=by rw[T1.pl,T.pl];rfl
 by_cases e0:L1.length=0
 ·have n1:L1=[]:=NQ.mp e0;have nb:(L1.length != 0)=false:=by rw[e0];rfl
  rw[nb];simp only[Bool.false_eq_true,if_false];have dmt:to.dummies.isEmpty=true:=by rw[T.dm];rfl
  by_cases em:t1.mask=to.mask
  ·have:(t1.mask==to.mask&&to.dummies.isEmpty)=true:=by grind
   rw[this];simp only[if_true];refine Iz (s:={ s with heap:=h1}) ho1 rfl ?_ (by rw[hz,jD];omega);refine h _ L2 (Ew.trans (rT ..)) ⟨eo,_,_,za ho1,hE,⟨T.dm,pl,ld,T.up,T.sz,T.nd,T.lt,T.sh⟩⟩ λu=>by rw[n1];simp
  ·have:(t1.mask==to.mask&&to.dummies.isEmpty)=false:=by grind
   rw[this];simp only[Bool.false_eq_true,if_false];have Xf:15<=t1.mask:=by
    obtain⟨Tc,ep0,t0,ho0,d⟩:=D;rw[ho]at ho0;cases ho0;rcases T1.sh with⟨m7,_⟩|⟨Xf,_⟩
    ·grind
    ·exact Xf
   obtain⟨order,e,hE',hc⟩:=PK (f:=t1.finger) (mv:=t1.moves) (led:=t1.led&&to.led) (plain:=t1.plain&&to.plain) Xf hE T.nd T.lt;rw[e];have lz:=Vv T.lt Xf T.nd;refine M (Rf hE' (by rw[hz,lz]) ?_);refine Iz (s:={ s with heap:=h1}) ho1 rfl ?_ (by rw[hE'.len,lz,jD];omega);have T':=PL (B:=qi w) (f:=t1.finger) (mv:=t1.moves) Xf T.nd T.lt (by grind);rw[<-ld,<-pl]at T';refine h _ _ (Ew.trans (rT ..)) ⟨_,_,_,za ho1,hE',?_⟩ λu=>?_
   ·grind
   ·rw[n1,mem_upTo (λv hv=>by have:=T.lt v hv;omega)];simp
 ·have nb:(L1.length != 0)=true:=by simp[e0]
  rw[nb];simp only[if_true];refine M (Y7 (s:={ s with heap:=h1}) ho' hE T λes' pe=>?_);obtain⟨R,hR,pR⟩:=hE.perm pe;refine M ?_;rw[<-Ua];refine wpAny_forIn_list _ (λrest _ s'=>∃h' L R,s'={ s with heap:=h'}/\Heap.SameBut sA s.heap h'/\jq (qi w) h' sA L/\Paired (λ(e:Int×Value) (v:Nat)=>e.1=((v:Nat):Int)/\∃tk,e.2=Value.int ((v:Nat):Int) tk) rest R/\
   (∀v∈R,v<16)/\∀u,(u∈L\/u∈R)↔(u∈L1\/u∈L2)) _ ?_ ?_ _ _ ⟨h1,L1',R,Z,Ew,⟨es1,ep1,t1,ho1,hE1,T1⟩,hR,λv hv=>T.lt v (pR.mem_iff.mp hv),λu=>by rw[pm.mem_iff,pR.mem_iff]⟩
  ·rintro⟨hh,x⟩ rest b s' ⟨h',L,R',rfl,sb,S,hP,lt,mem⟩;cases hP with
   | @cons _ v _ R'' r t =>
    obtain⟨e1,tk,e2⟩:=r;dsimp only at e1 e2;subst e1;subst e2;dsimp only;refine M (ig (č (s:={ s with heap:=h'}) S (lt v aW) λb2 h2 L' Rh S' mem' _=>?_));have Y8:=sb.trans Rh;have oo:h2.get? oA=some (lV eo ep to):=by rw[Y8.2 oA (Ne.symm ne)];exact ho
    refine M (he _ _ (λo q=>by grind) (M (jJ (s:={ s with heap:=h2}) oo hE T ?_)));simp only[bne_self_eq_false,Bool.false_eq_true,if_false];refine ao ⟨h2,L',R'',Z,Y8,S',t,λu hu=>lt u (bM _ hu),λu=>?_⟩;grind
  ·rintro b s' ⟨h',L,R',rfl,sb,S,hP,lt,mem⟩;cases hP;exact ao (h h' L sb S λu=>by rw[<-mem u];simp)
end
end Sm
namespace Sm
open PySem.Builtin.Frozenset
variable{Q:Value->Shared->Prop}{B:Bool}
def Vx:isSubtype (.type "set") (.type "set")=pure true:=by rw[Ur];kernel_rfl
def đ:entryFor table "set.__or__" = some Builtin.«frozenset.__or__» := Us (id':="frozenset.__or__") (by kernel_rfl) Z (by decide) (by kernel_rfl)
def Vy:entryFor table "set.__iter__" = some Builtin.«frozenset.__iter__» := Us (id':="frozenset.__iter__") (by kernel_rfl) Z (by decide) (by kernel_rfl)
def PN(id:String)(l:Addr)(r:Value):Sem Value:=do
 let result <-copyOf l
 if r != .ref l then
  let q <-addrOf result
  holding [result] (updateFrom id q r)
 return result
def or_eq(x y:Value):Builtin.«frozenset.__or__» ⟨[x,y],[]⟩=(do
 let(self,aV) <-slot1 "__or__" ⟨[x,y],[]⟩
 if !(<-isAnySet self <&&> isAnySet aV)then
  rule s!"frozenset.{"__or__"}.declined"
  return <-ret .notImplemented
 ret (<-PN s!"frozenset.{"__or__"}" (<-addrOf self) aV)):=rfl
section
variable{prog:Program}{w:World}{A:Around}{E:Value->Shared->Prop}{s:Shared}{a b:Addr}{L1 L2:List Nat}
def Ri(B:Bool):Tb B (.fresh 0 0 (!B)) []:=⟨Z,Z,Z,.nil,Z,.nil,λv h=>by simp at h,.inl ⟨Z,by simp⟩⟩
def a2H(h:Q (.ref s.heap.objs.size) { s with heap:=s.heap.push (lV #[] 0 (.fresh 0 0 (!qi w)))}):wpAny (model prog w) A (newSet (.type "set")) Q E s:=by
 unfold newSet;refine M (tB ?_);dsimp only;simp only[newObj];exact M (wpAny_alloc (ao h))
def jq.type(S:jq B s.heap a L1):s.TypeIs (.ref a) "set" := let⟨_,_,_,ho,_⟩:=S;⟨_,ho,Z⟩
def Vz{Q:Bool->Shared->Prop}(S:jq B s.heap a L1)(h:Q true s):wpAny (model prog w) A (isAnySet (.ref a)) Q E s:=by
 unfold isAnySet orM;exact M (xK S.type Vx (ao h))
def a0j(S:jq (qi w) s.heap a L1)(D:qY s.heap a)
  (h:∀h' L,(∀b o,s.heap.get? b=some o->h'.get? b=some o)->jq (qi w) h' s.heap.objs.size L->(∀u,u∈L↔u∈L1)->Q (.ref s.heap.objs.size) { s with heap:=h'}):wpAny (model prog w) A (copyOf a) Q E s:=by
 unfold copyOf baseOf;refine M (M (xK S.type Vx (ao ?_)));simp only[if_true];refine M (a2H ?_);show wpAny _ _ (do setMerge s.heap.objs.size a;pure (Value.ref s.heap.objs.size)) _ _ _;have lt:a<s.heap.objs.size:=by
  obtain⟨_,_,_,ho,_⟩:=S;exact aX ho
 have k:∀b o,s.heap.get? b=some o->(s.heap.push (lV #[] 0 (.fresh 0 0 (!qi w)))).get? b=some o:=λb o e=>bL _ e;refine M (Rg (s:={ s with heap:=s.heap.push (lV #[] 0 (.fresh 0 0 (!qi w)))}) (L1:=[]) (gG lt) ⟨#[],0,_,bZ _ rfl,.nil,Ri _⟩ (S.keep (k a)) (D.keep (k a)) (λs' Q' _ q=>ao q) λh' L sb S' mem=>?_);refine ao (h h' L (λb o e=>?_) S' λu=>by grind);have lb:=aX e;rw[sb.2 b (cu lb)];exact k b o e
def Jv{es:Array (Int×Value)}{ep:Nat}{t:SetTable}{Q:Nat->Shared->Prop}(ho:s.heap.get? a=some (lV es ep t))(hE:Es es L1)(T:Tb B t L1)(h:Q ep s):wpAny (model prog w) A (setEpoch a) Q E s :=
 wpAny_setEpoch_of ho Z (by rw[hE.len];exact T.fits) h
def Ē{id:String}(ne:a≠b)(S1:jq (qi w) s.heap a L1)(D1:qY s.heap a)(S2:jq (qi w) s.heap b L2)(D2:qY s.heap b)
  (h:∀h' L,(∀b o,s.heap.get? b=some o->h'.get? b=some o)->jq (qi w) h' s.heap.objs.size L->(∀u,u∈L↔u∈L1\/u∈L2)->Q (.ref s.heap.objs.size) { s with heap:=h'}) :
  wpAny (model prog w) A (PN id a (.ref b)) Q E s:=by
 unfold PN;refine M (a0j S1 D1 λh1 L k S mem=>?_);have nb:(Value.ref b != Value.ref a)=true:=by grind
 rw[nb];simp only[if_true];have S2':=S2.keep (k b);have D2':=D2.keep (k b);have lt:b<s.heap.objs.size:=by
  obtain⟨_,_,_,ho,_⟩:=S2;exact aX ho
 have S2c:=S2';obtain⟨es,ep,t,ho,hE,T⟩:=S2c;show wpAny _ _ (holding [Value.ref s.heap.objs.size] (updateFrom id s.heap.objs.size (.ref b)) >>= λ_=>pure (Value.ref s.heap.objs.size)) _ _ _;refine M (ig ?_);unfold updateFrom;refine M (Vz (s:={ s with heap:=h1}) S2' ?_);simp only[if_true];show wpAny _ _ (merge id s.heap.objs.size b) _ _ _;unfold merge;refine M (Jv (s:={ s with heap:=h1}) ho hE T (Rg (s:={ s with heap:=h1}) (gG lt) S S2' D2' (λs' Q' ks q=>?_) λh' L' sb S' mem'=>?_))
 ·unfold unchanged;refine M (Jv (s:=s') (ks _ ho) hE T ?_);simp only[bne_self_eq_false,Bool.false_eq_true,if_false];exact ao q
 ·refine ao (h h' L' (λc o e=>?_) S' λu=>by rw[mem' u,mem u]);rw[sb.2 c (cu (aX e))];exact k c o e
def a4y(ne:a≠b)(S1:jq (qi w) s.heap a L1)(D1:qY s.heap a)(S2:jq (qi w) s.heap b L2)(D2:qY s.heap b)
  (h:∀h' L,(∀b o,s.heap.get? b=some o->h'.get? b=some o)->jq (qi w) h' s.heap.objs.size L->(∀u,u∈L↔u∈L1\/u∈L2)->Q (.ref s.heap.objs.size) { s with heap:=h'}) :
  wpAny (model prog w) A (binaryOp .BitOr (.ref a) (.ref b)) Q E s:=by
 refine wpAny_binaryOp_same S1.type S2.type F.fills_set_or F.slot_set_or (gP F.slot_set_or S1.type đ ?_ (F.args_set_or_2 _ _));rw[or_eq];refine M (m:=slot1 "__or__" _) (ao ?_);dsimp only;unfold andM;refine M (M (Vz S1 (Vz S2 ?_)));simp only[Bool.not_true,Bool.false_eq_true,if_false];show wpAny _ _ (PN _ a (.ref b) >>= λv=>ret v) _ _ _;refine M (Ē ne S1 D1 S2 D2 λh' L k S mem=>?_);exact ao ⟨_,Z,by simp,h h' L k S mem⟩
end
end Sm
namespace Sm
def lW:Slot "set_iterator" "__next__" "set_iterator.__next__" := .of (owner:="set_iterator") (n:="__next__") (by rw[typeLookup_type,builtinLookup_eq_fast];kernel_rfl) (by decide) (by decide) (by decide) (by first|exact .inl (by decide)|exact .inr (by decide)) (by rw[Ur];kernel_rfl)
def zM:entryFor table "set_iterator.__next__" = some Builtin.«set_iterator.__next__» := entryFor_of_fast (by kernel_rfl)
def Cz(a:Value):argsOk "set_iterator.__next__" ⟨[a],[]⟩:=by unfold argsOk;kernel_rfl
def CG:Slot "set_iterator" "__iter__" "set_iterator.__iter__" := .of (owner:="set_iterator") (n:="__iter__") (by rw[typeLookup_type,builtinLookup_eq_fast];kernel_rfl) (by decide) (by decide) (by decide) (by first|exact .inl (by decide)|exact .inr (by decide)) (by rw[Ur];kernel_rfl)
def PX(a:Value):argsOk "set_iterator.__iter__" ⟨[a],[]⟩:=by unfold argsOk;kernel_rfl
end Sm
namespace Sm
variable{es:Array (Int×Value)}{ep:Nat}
def K8:entryFor table "set_iterator.__iter__" = some Builtin.«dict_keyiterator.__iter__» := Us (id':="dict_keyiterator.__iter__") (by kernel_rfl) Z (by decide) (by kernel_rfl)
def walked(w:World)(a:Addr)(ep:Nat)(es:Array (Int×Value)):Array (Int×Value):=if qi w=true then pickOrder (w.params.setOrder a ep) es else es
def Gi(w:World)(a:Addr)(ep:Nat)(es:Array (Int×Value)):(walked w a ep es).toList.Perm es.toList:=by
 unfold walked;split
 ·exact Mp _ _
 ·exact .rfl
def qZ(w:World)(a:Addr)(ep:Nat)(es:Array (Int×Value)):(walked w a ep es).size=es.size:=by
 have:=(Gi w a ep es).length_eq;grind
def a0k(a:Addr)(slot given epochThen:Nat):setNext a slot given epochThen=(do
 let(xs,c,tb) <-setState a
 if <-setsByText then
  if c != epochThen then
   unsupported "set_iterator.__next__:elements-changed"
  let zs <-setWalk a
  return (zs[given]?).map λz=>(z.2,slot)
 if !tb.plain&&xs.size>1 then
  unsupported "set_iterator.__next__:the-table-is-plain-no-more"
 (do if !tb.led && !xs.isEmpty then unsupported "set:maker-not-led" : Sem Unit)
 return match xs[SetTable.below tb.place slot]?,tb.place[SetTable.below tb.place slot]? with
  |some (_,z),some m=>some (z,m+1)
  |_,_=>none):=rfl
def oV(B:Bool)(t:SetTable)(i:Nat):Nat:=if B=true then 0 else if i=0 then 0 else t.place.getD (i-1) 0+1
def VB{B:Bool}{t:SetTable}{L:List Nat}(T:Tb B t L)(hB:B=false):∀i,i<=L.length->SetTable.below t.place (oV B t i)=i
 |0,_=>by
  unfold oV
  rw[hB]
  exact Vr T.up
 |k+1,h=>by
  unfold oV
  rw[hB]
  have hk:k<t.place.size:=by rw[T.sz];omega
  simp only[Bool.false_eq_true,if_false,Nat.add_sub_cancel]
  rw[aB (by omega)]
  have:t.place.getD k 0=t.place[k]:=by simp[Array.getD,hk]
  rw[this]
  exact Vs T.up hk
section
variable{prog:Program}{w:World}{A:Around}{E:Value->Shared->Prop}{s:Shared}{a:Addr}{L:List Nat}
def a0l{t:SetTable}{Q:Array (Int×Value)->Shared->Prop}(ho:s.heap.get? a=some (lV es ep t))(hE:Es es L)(T:Tb (qi w) t L)
  (h:Q (walked w a ep es) s):wpAny (model prog w) A (setWalk a) Q E s:=by
 rw[Xg];refine M (jJ ho hE T (M (tB ?_)));have pl:=T.pl;have ld:=T.led;unfold walked at h;cases c:qi w with
 |true =>
  rw[c]at h;simp only[if_true]at h ⊢;exact M (Ol (ao h))
 |false =>
  rw[c]at ld h;simp only[pl,ld,Bool.not_true,Bool.not_false,Bool.false_and,Bool.false_eq_true,if_false]at h ⊢;first|exact M (ao (ao h))|exact ao h
def Rj{i:Nat}{t:SetTable}{Q:Option (Value×Nat)->Shared->Prop}(ho:s.heap.get? a=some (lV es ep t))(hE:Es es L)(T:Tb (qi w) t L)(hi:i<=L.length)
  (h:Q (((walked w a ep es)[i]?).map λe=>(e.2,oV (qi w) t (i+1))) s):wpAny (model prog w) A (setNext a (oV (qi w) t i) i ep) Q E s:=by
 rw[a0k];refine M (jJ ho hE T (M (tB ?_)));have pl:=T.pl;have ld:=T.led;cases c:qi w with
 |true =>
  simp only[if_true,bne_self_eq_false,Bool.false_eq_true,if_false];refine M (a0l ho hE T (ao ?_));rw[c]at h;unfold oV at h ⊢;grind
 |false =>
  rw[c]at ld h;simp only[pl,ld,Bool.not_true,Bool.not_false,Bool.false_and,Bool.false_eq_true,if_false];have bs:=VB T c i hi;rw[c]at bs;rw[bs];have wk:walked w a ep es=es:=by unfold walked;rw[c];rfl
  rw[wk]at h;have e:(match es[i]?,t.place[i]? with
   |some (_,z),some m=>some (z,m+1)
   |_,_=>none)=(es[i]?).map λe=>(e.2,oV false t (i+1)):=by
   by_cases q:i<L.length
   ·have h1:i<es.size:=by rw[hE.len];exact q
    have h2:i<t.place.size:=by rw[T.sz];exact q
    rw[xg h1,xg h2];unfold oV;simp[Array.getD,h2]
   ·have h1:es[i]?=none:=N6 (by rw[hE.len];omega);rw[h1];rfl
  first
  |exact M (ao (ao (by rw[e];exact h)))
  |exact ao (by rw[e];exact h)
abbrev Ŭ(sl i:Nat)(a:Addr)(n ep:Nat):Obj:={ cls:=.type "set_iterator",dict:=none,data:=.fields #[.int (sl:Nat) 0,.int (i:Nat) 0,.ref a,.int (n:Nat) 0,.int (ep:Nat) 0],slots:=#[]}
def item_at{I:Addr}{i:Nat}{t:SetTable}{e:Int×Value}{Q:Option Value->Shared->Prop}(ne:a≠I)(ho:s.heap.get? a=some (lV es ep t))(hE:Es es L)(T:Tb (qi w) t L)
  (hI:s.heap.get? I=some (Ŭ (oV (qi w) t i) i a L.length ep)) (hw:(walked w a ep es)[i]?=some e)
  (h:∀h',h'.get? I=some (Ŭ (oV (qi w) t (i+1)) (i+1) a L.length ep)->Heap.SameBut I s.heap h'->Q (some e.2) { s with heap:=h'}):wpAny (model prog w) A (pyNext (.ref I)) Q E s:=by
 have hi:i<L.length:=by
  rcases xO i (walked w a ep es).size with q|q
  ·rw[qZ,hE.len]at q;exact q
  grind
 have hT:s.TypeIs (.ref I) "set_iterator" :=⟨_,hI,Z⟩;unfold pyNext;refine M (tU (oG (name:=Str.ofString "__next__") hT lW (gP lW hT zM ?_ (Cz _))));unfold Builtin.«set_iterator.__next__»;refine M (m:=slotArgs "__next__" 0 _) (ao ?_);dsimp only;refine M (Ek hI Z ?_);dsimp only;unfold setEntries;refine M (M (jJ ho hE T (ao ?_)));have z:(((es.size:Nat):Int) !=((L.length:Nat):Int))=false:=by rw[hE.len];simp
 dsimp only;rw[z];simp only[Bool.false_eq_true,if_false,Int.toNat_natCast];refine M (Rj ho hE T (by omega) ?_);rw[hw];dsimp only[Option.map];refine M (iV hI (by simp) λh1 hI1 Ew=>M (iV (s:={ s with heap:=h1}) hI1 (by simp) λh2 hI2 Rh=>ao ⟨_,Z,ao (h h2 ?_ (Ew.trans Rh))⟩));rw[hI2];simp[rawInt]
def Jw{I:Addr}{t:SetTable}{Q:Option Value->Shared->Prop}(hh:A.handled=none)(ne:a≠I)(ho:s.heap.get? a=some (lV es ep t))(hE:Es es L)(T:Tb (qi w) t L)
  (hI:s.heap.get? I=some (Ŭ (oV (qi w) t L.length) L.length a L.length ep))
  (h:∀h',Heap.ExtBut I s.heap h'->Q none { s with heap:=h'}):wpAny (model prog w) A (pyNext (.ref I)) Q E s:=by
 have hT:s.TypeIs (.ref I) "set_iterator" :=⟨_,hI,Z⟩;unfold pyNext;refine M (tU (oG (name:=Str.ofString "__next__") hT lW (gP lW hT zM ?_ (Cz _))));unfold Builtin.«set_iterator.__next__»;refine M (m:=slotArgs "__next__" 0 _) (ao ?_);dsimp only;refine M (Ek hI Z ?_);dsimp only;unfold setEntries;refine M (M (jJ ho hE T (ao ?_)));have z:(((es.size:Nat):Int) !=((L.length:Nat):Int))=false:=by rw[hE.len];simp
 dsimp only;rw[z];simp only[Bool.false_eq_true,if_false,Int.toNat_natCast];refine M (Rj ho hE T (by omega) ?_);rw[N6 (by rw[qZ,hE.len];grind)];dsimp only[Option.map];refine M (iV hI (by simp) λh1 hI1 Ew=>M ?_);simp only[newExc,newTuple];refine M (jU ?_ (by size_fits));refine M (m:=firstArgMember _ _) (Jf (a:=Value.none) (by first|rfl|(simp only[firstArgMember];rfl)) ?_);refine jU ?_ (by size_fits);simp only[raiseNew];refine M (Ow ?_);rw[show A.in1.handled=none from hh];refine M (ao (O1 ?_));exact M (xK (U:="StopIteration") (T:="StopIteration") (b:=true) ⟨_,bZ _ Z,Z⟩ Jc (ao (h _ ((Ew.extBut.push _).push _))))
end
end Sm
namespace Sm
open PyProof.Rows
variable{a:Addr}{es:Array (Int×Value)}{ep:Nat}
section
variable{prog:Program}{w:World}{A:Around}{E:Value->Shared->Prop}{s:Shared}{L:List Nat}
def a2I{I:Addr}{t:SetTable}(hh:A.handled=none)(ne:a≠I)(hE:Es es L)(T:Tb (qi w) t L) :
  Walks prog w A I [I,a] [I] L.length (λi v=>∃e,(walked w a ep es)[i]?=some e/\v=e.2)
   (λi h=>h.get? I=some (Ŭ (oV (qi w) t i) i a L.length ep)/\h.get? a=some (lV es ep t)) where
 sub:=λb hb=>by grind
 frame:=λ_ _ _ st hk=>⟨hk I (by simp) _ st.1,hk a (by simp) _ st.2⟩
 item:=λi s Q E hi st hQ=>by
  obtain⟨e,he⟩:∃e,(walked w a ep es)[i]?=some e:=⟨_,xg (by rw[qZ,hE.len];exact hi)⟩
  refine item_at ne st.2 hE T st.1 he λh' hI sb=>?_
  exact hQ _ h' s.toks ⟨e,he,Z⟩ ⟨hI,by rw[sb.2 a ne];exact st.2⟩ λb o hb q=>by rw[sb.2 b (λc=>hb (by simp[c]))];exact q
 done:=λs Q E st hQ=>Jw hh ne st.2 hE T st.1 λh' xb=>hQ h' s.toks λb o hb q=>xb b o (λc=>hb (by simp[c])) q
 self:=λi s Q E st hQ=>by
  have hT:s.TypeIs (.ref I) "set_iterator" :=⟨_,st.1,Z⟩
  refine IK hT CG (gP CG hT K8 ?_ (PX _))
  show wpAny _ _ (ret (Value.ref I)) _ _ s;exact ao ⟨_,Z,"set_iterator",_,hT,lW.lookup,hQ⟩
def ē(a:Addr):setDrawn a=(do
 let(es,_,t) <-setState a
 let byText <-setsByText
 return !byText&&(!t.plain&&es.size>1)):=rfl
def CJ{t:SetTable}{Q:Value->Shared->Prop}(ho:s.heap.get? a=some (lV es ep t))(hE:Es es L)(T:Tb (qi w) t L)
  (h:Q (.ref s.heap.objs.size) { s with heap:=s.heap.push (Ŭ 0 0 a L.length ep)}):wpAny (model prog w) A (pyIter (.ref a)) Q E s:=by
 have hT:s.TypeIs (.ref a) "set" :=⟨_,ho,Z⟩;refine IK hT F.slot_set_iter (gP F.slot_set_iter hT Vy ?_ (F.args_set_iter_1 _));unfold Builtin.«frozenset.__iter__»;refine M (m:=Builtin.Frozenset.slot0 _ _) (ao ?_);unfold Builtin.Frozenset.sizeOf setEntries;refine M (M (M (jJ ho hE T (ao (ao ?_)))));rw[ē];refine M (M (jJ ho hE T (M (tB (ao ?_)))));rw[T.pl];simp only[Bool.not_true,Bool.false_and,Bool.and_false,Bool.false_eq_true,if_false];refine M (ao (M (Jv ho hE T (M ?_))));unfold newFields;refine jU (ao ⟨_,Z,"set_iterator",_,⟨_,bZ _ Z,Z⟩,lW.lookup,?_⟩);rw[hE.len];exact h
def a0m:(Value.type "set" == Value.type "list")=false:=by decide
def a2J:(Value.type "set" == Value.type "tuple")=false:=by decide
def Ĕ:typeLookup (.type "set") "__len__" = pure (some (.builtin "set.__len__")):=F.slot_set_len.lookup
def split_len:splitId "set.__len__" = some ("set","__len__"):=by decide
def Rk{t:SetTable}{Q:List Value->Shared->Prop}(hh:A.handled=none)(ho:s.heap.get? a=some (lV es ep t))(hE:Es es L)(T:Tb (qi w) t L)
  (h:∀(h':Heap) (tk:Nat),(∀b o,s.heap.get? b=some o->h'.get? b=some o)->s.heap.objs.size<h'.objs.size->Q ((walked w a ep es).toList.map (·.2)) { s with heap:=h',toks:=tk}):wpAny (model prog w) A (collect (.ref a)) Q E s:=by
 have lt:a<s.heap.objs.size:=aX ho;unfold collect;refine M (wpAny_runValue (rW F.entry_proto_collect ?_));rw[tL F.plain_proto_collect _];show wpAny _ A.in1 (newList [] >>= λl=>again (.builtin "list.__iadd__" ⟨[l,.ref a],[]⟩)) _ _ s;refine M (jU (ao ⟨uP F.plain_list_iadd _,rW F.entry_list_iadd ?_⟩));rw[tL F.plain_list_iadd _];have S0:(s.heap.push { cls:=.type "list",data:=.seq ([]:List Value).toArray}).get? s.heap.objs.size=some { cls:=.type "list",data:=.seq ([]:List Value).toArray}:=bZ _ rfl;have ho1:(s.heap.push { cls:=.type "list",data:=.seq ([]:List Value).toArray}).get? a=some (lV es ep t):=bL _ ho;have hT1:Shared.TypeIs { s with heap:=s.heap.push { cls:=.type "list",data:=.seq ([]:List Value).toArray}} (.ref a) "set" :=⟨_,ho1,rfl⟩;show wpAny _ A.in1 (Builtin.List.listExtendWith (.ref s.heap.objs.size) (.ref a) (.ref s.heap.objs.size)) _ _ { s with heap:=s.heap.push { cls:=.type "list",data:=.seq ([]:List Value).toArray}};unfold Builtin.List.listExtendWith;refine M (vZ hT1 ?_);have n1:Builtin.List.listSameRef (.ref s.heap.objs.size) (.ref a)=false:=by simp[Builtin.List.listSameRef,Nat.ne_of_gt lt]
 simp only[n1,a0m,a2J,Bool.or_false,Bool.false_eq_true,if_false];refine M (CJ ho1 hE T (M (ig ?_)));have ho2:((s.heap.push { cls:=.type "list",data:=.seq ([]:List Value).toArray}).push (Ŭ 0 0 a L.length ep)).get? a=some (lV es ep t):=bL _ ho1;have hT2:Shared.TypeIs { s with heap:=(s.heap.push { cls:=.type "list",data:=.seq ([]:List Value).toArray}).push (Ŭ 0 0 a L.length ep)} (.ref a) "set" :=⟨_,ho2,rfl⟩;unfold Builtin.List.listLengthHint;refine M (Ot hT2 Ĕ ?_);dsimp only;rw[split_len];dsimp only;refine M (xK hT2 Vx ?_);rw[aB (by decide)];rw[aG (by decide)];refine M (vZ hT2 ?_);dsimp only;refine ao ?_;rw[aG (by decide)];refine M (jY ?_);have lsz:(s.heap.push { cls:=.type "list",data:=.seq ([]:List Value).toArray}).objs.size=s.heap.objs.size+1:=O5 _ _;have S1:((s.heap.push { cls:=.type "list",data:=.seq ([]:List Value).toArray}).push (Ŭ 0 0 a L.length ep)).get? s.heap.objs.size=some { cls:=.type "list",data:=.seq ([]:List Value).toArray}:=bL _ S0;refine M ?_;show wpAny _ A.in1 (updateSeq s.heap.objs.size (·.push .none) >>= λ_=>updateSeq s.heap.objs.size (·.pop)) _ _ _;refine M (Um S1 Z ?_);have S2:=zR (Obj.mapSeq (·.push Value.none)) S1 rfl;refine Um S2 Z ?_;have S3:=zR (Obj.mapSeq (·.pop)) S2 rfl;have oth:∀b o,b≠s.heap.objs.size->((s.heap.push { cls:=.type "list",data:=.seq ([]:List Value).toArray}).push (Ŭ 0 0 a L.length ep)).get? b=some o->
   ((((s.heap.push { cls:=.type "list",data:=.seq ([]:List Value).toArray}).push (Ŭ 0 0 a L.length ep)).update s.heap.objs.size (Obj.mapSeq (·.push Value.none))).update s.heap.objs.size (Obj.mapSeq (·.pop))).get? b=some o :=
  λb o hb e=>(NZ _ _ (Ne.symm hb)).trans ((NZ _ _ (Ne.symm hb)).trans e)
 have neI:a≠(s.heap.push { cls:=.type "list",data:=.seq ([]:List Value).toArray}).objs.size:=by grind
 have W:=(a2I (prog:=prog) (w:=w) (A:=A.in1) (I:=(s.heap.push { cls:=.type "list",data:=.seq ([]:List Value).toArray}).objs.size) (ep:=ep) (by grind) neI hE T).toS;have l16:=T.len;have sl0:oV (qi w) t 0=0:=by unfold oV;split<;>rfl
 refine ao ⟨uP F.plain_extend_loop _,codeAny_extend_loopS W (by rw[jD];omega) _ (by
   grind) _ _ 0 _ #[] _ Z (dI _) ⟨?_,?_⟩ S3 (ItemsOf.nil _) λs' acc' c' hm hS' hacc=>?_⟩
 ·refine oth _ _ (by grind) ?_;rw[sl0];exact bZ _ rfl
 ·exact oth _ _ (cu lt) ho2
 ·obtain⟨h',g',d',tk',os'⟩:=s';have eg:g'=s.gens:=hm.gens;have ed:d'=s.drawn:=hm.drawn;have eo:os'=s.os:=hm.os;subst eg;subst ed;subst eo;show wpAny _ A (load s.heap.objs.size >>= _) _ _ _;refine M (wpAny_load hS' ?_);dsimp only;have el:acc'.toList=(walked w a ep es).toList.map (·.2):=by
   apply List.ext_getElem?;intro i;rw[N8,iW,N8];rcases xO i acc'.size with q|q
   ·obtain⟨e,he,hv⟩:=hacc.2 i acc'[i] (xg q);rw[xg q,he,hv];rfl
   ·rw[N6 q,N6 (by rw[qZ,hE.len,<-hacc.1];exact q)];rfl
  rw[el];refine ao (h h' tk' (λb o e=>?_) (aX hS'));have lb:b<s.heap.objs.size:=aX e;refine hm.heap b o (by grind) (oth b o (cu lb) (bL _ (bL _ e)))
def a2K{h:Heap}{b:Addr}{vs:List Value}{out:Array Value}{o:Obj}(lb:b<h.objs.size)(ne:b≠a)(e:h.get? b=some o):(sortedHeap h a vs out).get? b=some o:=by
 unfold sortedHeap;rw[Oc _ _ _ _ ne];exact bL _ (bL _ (by rw[Oc _ _ _ _ ne];exact e))
def a4z{h:Heap}{vs:List Value}{xs out:Array Value}{n:Nat}(e:h.get? a=some (seqObj "list" xs n)):∃n',(sortedHeap h a vs out).get? a=some (seqObj "list" out n'):=by
 unfold sortedHeap;exact⟨_,Ul (bL _ (bL _ (Ul e λ_=>#[]))) λ_=>out⟩
def VD{Q:Value->Shared->Prop}(hh:A.handled=none)(S:jq (qi w) s.heap a L)
  (h:∀(h':Heap) (tk:Nat) (p:Addr) (vs:List Value) (n:Nat) (ns:List Int),(∀b o,s.heap.get? b=some o->h'.get? b=some o)->s.heap.objs.size<=p->h'.get? p=some (seqObj "list" vs.toArray n)->IntsAre vs ns->
   ns.Perm (L.map λv=>((v:Nat):Int))->ns.Pairwise (· <= ·)->Q (.ref p) { s with heap:=h',toks:=tk}):wpAny (model prog w) A (call (.builtin "sorted") [.ref a]) Q E s:=by
 obtain⟨es,ep,t,ho,hE,T⟩:=S;have l16:=T.len;apply Ó kind_sorted plain_sorted entry_sorted (args_sorted1 _);unfold Builtin.«sorted»;refine M (m:=checkCount "sorted" 1 1 _) (ao ?_);refine M (Rk (by simpa using hh) ho hE T λh1 tk k lz=>?_);obtain⟨L',hP,pm⟩:=hE.perm (Gi w a ep es);have hl:L'.length=L.length:=pm.length_eq;have hI:IntsAre ((walked w a ep es).toList.map (·.2)) (L'.map λv=>((v:Nat):Int)):=by
  generalize (walked w a ep es).toList=l at hP;clear pm hl
  induction hP with
  |nil=>exact .nil
  |cons r _ ih =>
   obtain⟨q,e⟩:=r.2;rw[cL,cL,e];exact .cons _ q ih
 have hn:((walked w a ep es).toList.map (·.2)).length=L.length:=by rw[aN,vW,qZ,hE.len]
 refine M (Uw ?_ (by rw[hn,jD];omega));have o1:(h1.push (seqObj "list" ((walked w a ep es).toList.map (·.2)).toArray 0)).get? h1.objs.size=some (seqObj "list" ((walked w a ep es).toList.map (·.2)).toArray 0):=bZ _ rfl;refine M (ig (gP slot_list_sort ⟨_,o1,Z⟩ entry_list_sort (list_sort_tree o1 hI (by rw[hn];omega) λout ns a1 a2 a3=>⟨_,Z,?_⟩) (args_list_sort _)));obtain⟨n',o2⟩:=a4z (vs:=(walked w a ep es).toList.map (·.2)) (out:=out) o1;refine ao ⟨_,Z,h _ _ _ out.toList n' ns (λb o e=>?_) (dH lz) (by simpa using o2) a1 (a2.trans (pm.map _)) a3⟩;have lb:b<h1.objs.size:=Aj (aX e) lz;exact a2K (by rw[O5];exact Iw lb) (cu lb) (bL _ (k b o e))
end
end Sm
namespace Sm
open PyProof.Rows
section
variable{prog:Program}{w:World}{A:Around}{R:Result->Shared->Prop}{I:Addr}{fp wr:List Addr}{G:Array GenState->Array GenState->Prop}{n:Nat}{P:Nat->Value->Prop}{St:Nat->Shared->Prop}
def a0n(W:WalksS prog w A.in1 I fp wr G n P St)(S:Addr)(nf:S∉fp)(val:Nat->Nat)(hv:∀i v,i<n->P i v->∃t,v=.int ((val i:Nat):Int) t)(lt:∀i,i<n->val i<16) :
  ∀(k i:Nat) (s:Shared) (L:List Nat),n-i=k->i<=n->St i s->jq (qi w) s.heap S L->qY s.heap S->(∀u,u∈L↔∃j,j<i/\val j=u)->
   (∀s' L',Moved (S::wr) G s s'->jq (qi w) s'.heap S L'->qY s'.heap S->(∀u,u∈L'↔∃j,j<n/\val j=u)->R (.ok (.ret .none)) s')->
   codeAny (model prog w) A (.builtin "set.update.loop" ⟨[.ref S,.ref I],[]⟩) R s:=by
 have nw:S∉wr:=λh=>nf (W.sub _ h);have up:∀b∈wr,b∈S::wr:=λb hb=>bM _ hb;intro k
 induction k with
 |zero =>
  intro i s L hk hi st hS hD mem hR;obtain rfl:i=n:=by omega
  refine rW F.entry_set_update_loop ?_;rw[tL Tp _];show wpAny _ A.in1 (pyNext (.ref I) >>= _) _ _ s;refine M (W.done s _ _ st λs' hm=>?_);exact ao (hR s' L (hm.mono up) (hS.keep λo e=>hm.heap S o nw e) (hD.keep λo e=>hm.heap S o nw e) mem)
 |succ k ih =>
  intro i s L hk hi st hS hD mem hR;have li:i<n:=by omega
  refine rW F.entry_set_update_loop ?_;rw[tL Tp _];show wpAny _ A.in1 (pyNext (.ref I) >>= _) _ _ s;refine M (W.item i s _ _ li st λv s' hP st' hm=>?_);obtain⟨t,rfl⟩:=hv i v li hP;have hS':=hS.keep λo e=>hm.heap S o nw e;have hD':=hD.keep λo e=>hm.heap S o nw e;show wpAny _ A.in1 (holding [Value.int ((val i:Nat):Int) t] (setAdd S (.int ((val i:Nat):Int) t)) >>= _) _ _ s';refine M (ig ?_);unfold setAdd;refine ig (M ((intKind prog w).pyHash (k:=((val i:Nat):Int)) (intKind_is _ _ _ _) ?_));have eh:(intKind prog w).hash ((val i:Nat):Int)=((val i:Nat):Int):=Vw _ (lt i li);rw[eh];refine č (s:={ s' with toks:=s'.toks+1}) hS' (lt i li) λb h' L' sb S2 a6M dn=>ao ⟨uP Tp _,ih (i+1) _ L' (by omega) li (W.frame _ s' _ _ st' (xP _) λc hc o e=>?_) S2 (dn hD') (λu=>?_) λs2 L2 hm2 h2 h3 h4=>hR s2 L2 (Moved.trans W.gtrans ((hm.mono up).then_heap (xP _) λc o hc e=>?_) hm2) h2 h3 h4⟩
  ·rw[sb.2 c (λq:c=S=>nf (by grind))];exact e
  ·grind
  ·rw[sb.2 c (λq:c=S=>hc (by grind))];exact e
end
section
variable{prog:Program}{w:World}{A:Around}{E:Value->Shared->Prop}{s:Shared}
def a0o(a:Value){Q:Value->Shared->Prop}(h:Q (.ref s.heap.objs.size) { s with heap:=s.heap.push (lV #[] 0 (.fresh 0 0 (!qi w)))}) :
  codeAny (model prog w) A (.call (.builtin "set.__new__") ⟨[.type "set",a],[]⟩) (wants Q E) s:=by
 refine codeAny_of_tree ?_;show wpAny _ A.in1 (do checkBuiltinCall "set.__new__" ⟨[.type "set",a],[]⟩;again (.builtin "set.__new__" ⟨[.type "set",a],[]⟩)) _ _ s;refine M (Jf (F.newCall_set_1 a) (ao ⟨uP F.plain_set_new _,rW F.entry_set_new ?_⟩));rw[tL F.plain_set_new _];unfold Builtin.«set.__new__» Builtin.Frozenset.newClass;have hsub:=sub_set_self;obtain⟨hp,g,d,tk,os⟩:=s;dsimp only at h ⊢
 wp_walk
 refine Ol (ao ?_);dsimp only;simp only[newObj];exact M (wpAny_alloc (ao (ao h)))
def a2L{l:Addr}{items:Array Value}{vals:List Nat}{Q:Value->Shared->Prop}(hh:A.handled=none)(hl:s.heap.IsList l items)(hi:IntsAre items.toList (vals.map λv=>((v:Nat):Int)))(lt:∀v∈vals,v<16)
  (h:∀(h':Heap) (tk:Nat) (L:List Nat),jq (qi w) h' s.heap.objs.size L->qY h' s.heap.objs.size->(∀u,u∈L↔u∈vals)->(∀b o,b<s.heap.objs.size->s.heap.get? b=some o->h'.get? b=some o)->Q (.ref s.heap.objs.size) { s with heap:=h',toks:=tk}) :
  wpAny (model prog w) A (call (.type "set") [.ref l]) Q E s:=by
 obtain⟨c,tl,hmro⟩:=F.called_set.mro;have hmade:=F.called_set.made;have hsub:=F.called_set.sub;have hlen:items.size=vals.length:=by
  have:=hi.length;simpa using this
 refine wpAny_call (codeAny_of_tree ?_);show wpAny _ _ (callAny (.type "set") _) _ _ _;refine ao ⟨Code.quiet_builtin _ (by decide),rW F.entry_type_call ?_⟩;rw[Around.under_plain (weight_type_call_type "set" [.ref l] []) rfl];have h1:=F.called_set.notType;have h2:=F.called_set.canCreate;have hct:=F.typeCall_set_1 (.ref l);repeat (any_goals (first|assumption|wp_step))
 refine El (a0o (.ref l) (E:=E) (Q:=λobj s₁=>obj=.ref s.heap.objs.size/\s₁={ s with heap:=s.heap.push (lV #[] 0 (.fresh 0 0 (!qi w)))}) ⟨rfl,rfl⟩) λr s₁ hr=>?_;cases r with
 |error e=>exact hr
 |ok fl =>
  cases fl with
  |ret obj =>
   obtain⟨rfl,rfl⟩:=hr;have gS:(s.heap.push (lV #[] 0 (.fresh 0 0 (!qi w)))).get? s.heap.objs.size=some (lV #[] 0 (.fresh 0 0 (!qi w))):=bZ _ rfl;have hT:Shared.TypeIs { s with heap:=s.heap.push (lV #[] 0 (.fresh 0 0 (!qi w)))} (.ref s.heap.objs.size) "set" :=⟨_,gS,rfl⟩;have hli:=F.called_set.init.lookup;have hbi:=F.called_set.init.bind (.ref s.heap.objs.size);repeat (any_goals (first|assumption|wp_step))
   refine El (codeAny_call_builtin (R:=wants (λr s₂=>r=.none/\∃h' tk L,s₂={ s with heap:=h',toks:=tk}/\jq (qi w) h' s.heap.objs.size L/\qY h' s.heap.objs.size/\(∀u,u∈L↔u∈vals)/\
     (∀b o,b<s.heap.objs.size->s.heap.get? b=some o->h'.get? b=some o)) E) F.called_set.init.plain F.entry_set_init (check_set_init_1 hT ?_)) λr₂ s₂ hr₂=>?_
   ·obtain⟨ol,hol,hcl,nl,hdl⟩:=hl;obtain⟨ocls,odict,odata,oslots⟩:=ol;simp only at hcl hdl;subst hcl;subst hdl;have hol':(s.heap.push (lV #[] 0 (.fresh 0 0 (!qi w)))).get? l=some { cls:=.type "list",dict:=odict,data:=.seq items nl,slots:=oslots}:=bL _ hol;have hsls:=F.sub_list_set;have hslf:=F.sub_list_frozenset;have hne:(Value.type "list" == Value.type "dict")=false:=by decide
    have hl1:(s.heap.push (lV #[] 0 (.fresh 0 0 (!qi w)))).IsList l items:=⟨_,hol',Z,nl,Z⟩;unfold Builtin.«set.__init__» noKeywords Builtin.Frozenset.updateFrom;generalize hPI:pyIter=PI
    wp_walk
    subst hPI;refine xH hl1 (M (wpAny_runValue ?_));have ll:l<s.heap.objs.size:=aX hol;have hh3:A.in1.in1.in1.handled=none:=by simp[hh]
    have ni:l≠(s.heap.push (lV #[] 0 (.fresh 0 0 (!qi w)))).objs.size:=by rw[jW];exact cu (Iw ll)
    have nf:s.heap.objs.size∉[(s.heap.push (lV #[] 0 (.fresh 0 0 (!qi w)))).objs.size,l]:=by
     rw[jW];simp only[List.mem_cons,List.not_mem_nil,or_false,not_or];exact⟨cu (Ac _),gG ll⟩
    have hval:∀(i:Nat) (v:Value),i<items.size->items[i]?=some v->∃t,v=.int (((λi=>vals.getD i 0) i:Nat):Int) t:=λi v li hv=>by
     obtain⟨t,e⟩:=PyProof.Rows.IntsAre.int_at hi i v (by rw[N8];exact hv);have lv:i<vals.length:=by omega
     refine⟨t,?_⟩;rw[e];simp[List.getD,lv]
    refine a0n ((Walks.list hh3 _ l ni items).toS) s.heap.objs.size nf (λi=>vals.getD i 0) hval (λi li=>?_) (items.size-0) 0 _ [] (by omega) (dI _) ⟨⟨_,bZ _ Z,Z,Z⟩,(hl1.push _)⟩ ?hS0 ?hD0 (λu=>by simp) ?hR
    ·have lv:i<vals.length:=by omega
     refine lt _ ?_;simp[List.getD,lv]
    case hS0=>exact⟨#[],0,_,bL _ gS,.nil,Ri _⟩
    case hD0=>exact⟨#[],0,_,bL _ gS,.inl Z⟩
    case hR =>
     intro s' L' hm hS' hD' mem;obtain⟨h',g',d',tk',os'⟩:=s';have eg:g'=s.gens:=hm.gens;have ed:d'=s.drawn:=hm.drawn;have eo:os'=s.os:=hm.os;subst eg;subst ed;subst eo;show wpAny _ _ _ _ _ _;refine ao ?_;show wpAny _ _ (ret Value.none) _ _ _;refine ao ⟨Z,h',tk',L',Z,hS',hD',λu=>?_,λb o hb e=>?_⟩
     ·rw[mem u];constructor
      ·rintro⟨j,hj,rfl⟩;have lv:j<vals.length:=by omega
       simp[List.getD,lv]
      ·intro hu;obtain⟨j,hj,e⟩:=uO hu;exact⟨j,by omega,by simp[List.getD,hj,e]⟩
     ·have b1:b≠s.heap.objs.size:=cu hb;have b2:b≠(s.heap.push (lV #[] 0 (.fresh 0 0 (!qi w)))).objs.size:=by rw[jW];exact cu (Iw hb)
      exact hm.heap b o (by simp only[List.mem_cons,List.not_mem_nil,or_false,not_or];exact⟨b1,b2⟩) (bL _ (bL _ e))
   ·cases r₂ with
    |error e=>exact hr₂
    |ok fl₂ =>
     cases fl₂ with
     |ret r =>
      obtain⟨rfl,h',tk,L,rfl,q1,q2,q3,q4⟩:=hr₂;repeat (any_goals (first|assumption|wp_step))
      exact h _ _ L q1 q2 q3 q4
     |_=>exact hr₂.elim
  |_=>exact hr.elim
end
end Sm
namespace L2
open PyProof.Rows Sm
def Rm(w:World)(a:Addr)(d:Bool)(L:List Nat):HO:=.ext λh=>jq (qi w) h a L/\(d=true->qY h a)
def Small(ns:List Int):Prop:=∀n∈ns,0<=n/\n<16
def Mq(p:Int->Bool):List Int:=((List.range 16).map λi=>((i:Nat):Int)).filter p
def a2M(p:Int->Bool):(Mq p).Pairwise (· < ·):=by
 unfold Mq;refine Ip _ ?_;rw[Eg];exact List.pairwise_lt_range.imp λh=>by omega
def zc{p:Int->Bool}{v:Int}:v∈Mq p↔0<=v/\v<16/\p v=true:=by
 unfold Mq;rw[iH,gn];constructor
 ·grind
 ·rintro⟨h0,h1,h⟩;exact⟨⟨v.toNat,mF.mpr (by omega),by omega⟩,h⟩
theorem up_eq:∀{xs ys:List Int},xs.Pairwise (· < ·)->ys.Pairwise (· < ·)->(∀v,v∈xs↔v∈ys)->xs=ys
 | [],[],_,_,_=>rfl
 | [],y::ys,_,_,h=>absurd ((h y).mpr aW) d7
 |x::xs,[],_,_,h=>absurd ((h x).mp aW) d7
 |x::xs,y::ys,hx,hy,h=>by
  obtain⟨x1,x2⟩:=zU.mp hx
  obtain⟨y1,y2⟩:=zU.mp hy
  have e:x=y:=by
   rcases cH.mp ((h x).mp aW)with e|e
   ·exact e
   ·rcases cH.mp ((h y).mpr aW)with f|f
    ·exact f.symm
    ·have a:=y1 x e
     have b:=x1 y f
     omega
  subst e
  congr 1
  refine up_eq x2 y2 λv=>?_
  constructor
  ·intro q
   rcases cH.mp ((h v).mp (bM _ q))with e|e
   ·subst e;have:=x1 v q;omega
   ·exact e
  ·intro q
   rcases cH.mp ((h v).mpr (bM _ q))with e|e
   ·subst e;have:=y1 v q;omega
   ·exact e
inductive a4A(w:World)(K:aK)(xs:List V)(H:Hp)(Q:VK):Prop
 |mk (l ns:_) (_:xs=[.ref l]) (_:bG K H l (List.map V.int ns)) (_:Small ns) (_:∀p L H',gV H p (Rm w p true L) H'->(∀u:Nat,u∈L↔(u:Int)∈ns)->Q (.ref p) H')
inductive a6c(w:World)(x:V)(y:V)(H:Hp)(Q:VK):Prop
 |mk (a b L1 L2:_) (_:x=.ref a) (_:y=.ref b) (_:a≠b) (_:H a=some (Rm w a true L1)) (_:H b=some (Rm w b true L2)) (_:∀p L H',gV H p (Rm w p false L) H'->(∀u:Nat,u∈L↔u∈L1\/u∈L2)->Q (.ref p) H')
inductive a2N(w:World)(xs:List V)(H:Hp)(Q:VK):Prop
 |mk (a d L:_) (_:xs=[.ref a]) (_:H a=some (Rm w a d L)) (_:∀p H',gV H p (.lst ((Mq λv=>decide (v.toNat∈L)).map V.int)) H'->Q (.ref p) H')
inductive a2O(K:aK)(xs:List V)(H:Hp)(Q:VK):Prop
 |mk (l ns:_) (_:xs=[.ref l]) (_:bG K H l (List.map V.int ns)) (_:ns.length<64) (_:∀p H' zs,gV H p (.lst (List.map V.int zs)) H'->zs.Perm ns->zs.Pairwise (· <= ·)->Q (.ref p) H')
def Ey:∀{vs:List Value}{ns:List Int},IntsAre vs ns->cM (ns.map V.int) vs
 |_,_,.nil=>.nil
 |_,_,.cons n t r=>.cons ⟨t,Z⟩ (Ey r)
def ĕ{xs:List Int}{L:List Nat}(pm:xs.Perm (L.map λv=>((v:Nat):Int)))(nd:L.Nodup)(lt:∀v∈L,v<16)(le:xs.Pairwise (· <= ·)):xs=Mq λv=>decide (v.toNat∈L):=by
 have Y9:xs.Nodup:=pm.nodup_iff.mpr (by
  grind)
 have lt2:xs.Pairwise (· < ·):=by
  unfold List.Nodup at Y9;exact(le.and Y9).imp λh=>by omega
 refine up_eq lt2 (a2M _) λv=>?_;rw[pm.mem_iff,zc,gn];grind
section
variable{X:Cx}{K:aK}{w:World}
def Xi{H:Hp}{h:Heap}{a:Addr}{d:Bool}{L:List Nat}{P:Program}{w':World}(S:jq (qi w) h a L)(D:d=true->qY h a):fZ P w' H h a (Rm w a d L):=by
 refine⟨⟨S,D⟩,?_,?_⟩
 ·obtain⟨_,_,_,ho,_⟩:=S;grind
 ·rintro h1 h2 ⟨s1,d1⟩ k;exact⟨s1.keep k,λe=>(d1 e).keep k⟩
def Mr(ek:X.K=K)(ew:X.w=w)(cm:X.calm=true):jN X (.type "set") (a4A w K):=by
 subst ek;subst ew;intro Y s σ H xs us Q I r h;obtain⟨l,ns,rfl,hL,sm,q⟩:=h;obtain⟨u,rfl,rx⟩:=vals1 r;cases rx;obtain⟨cg,r',pl,hz⟩:=I.list hL;have hi:=ints_of r';have e:(ns.map Int.toNat).map (λv=>((v:Nat):Int))=ns:=by
  rw[nC];have:∀n∈ns,((λv=>((v:Nat):Int))∘Int.toNat) n=id n:=λn hn=>by
   have:=(sm n hn).1;grind
  rw[tM this,List.map_id]
 refine a2L (vals:=ns.map Int.toNat) (I.ok.hd cm) pl.isList (by grind) (λv hv=>?_) λh' tk L S D mem k=>?_
 ·obtain⟨n,hn,rfl⟩:=gn.mp hv;have:=sm n hn;omega
 ·have hf:H s.heap.objs.size=none:=I.hok.fresh (aO _);refine⟨.ref s.heap.objs.size,_,I.laid (t':=tk) (o:=Rm X.w s.heap.objs.size true L) (λb o eo=>k b o (aX eo) eo) (aO _) (Xi S λ_=>D),Z,q _ L _ (gV.oF hf) λu=>?_⟩;grind
def a2P(ew:X.w=w):uE X (binaryOp .BitOr) (a6c w):=by
 subst ew;intro Y s σ H x y v u Q I rx ry h;obtain⟨a,b,L1,L2,rfl,rfl,ne,hA,hB,q⟩:=h;cases rx;cases ry;obtain⟨⟨S1,D1⟩,_⟩:=I.hok a _ hA;obtain⟨⟨S2,D2⟩,_⟩:=I.hok b _ hB;refine a4y ne S1 (D1 Z) S2 (D2 Z) λh' L k S mem=>?_;have hf:H s.heap.objs.size=none:=I.hok.fresh (aO _);exact⟨.ref s.heap.objs.size,_,I.laid (t':=s.toks) (o:=Rm X.w s.heap.objs.size false L) (λb o eo=>k b o eo) (aO _) (Xi S λe=>by cases e),Z,q _ L _ (gV.oF hf) mem⟩
def P0(ew:X.w=w)(cm:X.calm=true):jN X (.builtin "sorted") (a2N w):=by
 subst ew;intro Y s σ H xs us Q I r h;obtain⟨a,d,L,rfl,hA,q⟩:=h;obtain⟨u,rfl,rx⟩:=vals1 r;cases rx;obtain⟨⟨S,_⟩,_⟩:=I.hok a _ hA;obtain⟨_,_,t,_,_,T⟩:=id S;refine VD (I.ok.hd cm) S λh' tk p vs n ns k hp ho hi pm le=>?_;have e:=ĕ pm T.nd T.lt le;subst e;have l16:(Mq λv=>decide (v.toNat∈L)).length<=16:=by rw[pm.length_eq,aN];exact T.len
 have hf:H p=none:=I.hok.fresh hp;refine⟨.ref p,_,I.laid (t':=tk) (o:=.lst ((Mq λv=>decide (v.toNat∈L)).map V.int)) k hp ⟨?_,vs,n,Ey hi,ho⟩,Z,q p _ (gV.oF hf)⟩;rw[aN,jD];omega
def CK(e:X.K=K):jN X (.builtin "sorted") (a2O K):=by
 subst e;intro Y s σ H xs us Q I r h;obtain⟨l,ns,rfl,hL,h64,q⟩:=h;obtain⟨u,rfl,rx⟩:=vals1 r;cases rx;obtain⟨cg,r',pl,hz⟩:=I.list hL;have hlen:=r'.length;rw[aN]at hlen;refine sorted_ints (ns:=ns) pl.isList (ints_of r') (by omega) λout zs hi pm le=>?_;obtain⟨c,hc⟩:=sortedAll_at s.heap cg out;refine⟨.ref (s.heap.objs.size+1),_,I.laid (t':=s.toks) (o:=.lst (zs.map V.int)) (λb o eo=>sortedAll_old eo) (xP _) ⟨?_,out.toList,c,Ey hi,by simpa using hc⟩,Z,q _ _ zs (gV.oF (I.hok.fresh (xP _))) pm le⟩;rw[aN,pm.length_eq,jD];omega
end
end L2
namespace L2
open PyProof.Rows
section
variable{K:aK}{a:Addr}{xs:List V}{ix:List (Option Nat)}{g:TG}{tt:TT}{te:TE}{σ:St}{H1:Hp}{Q:VK}
def a0p(f:V->Option V)(hx:cG K H1 a xs)(hz:xs.length<=1000)
  (hs:∀x H (N:Option V->Hp->Prop),x∈xs->aH H1 H->(∀H',aH H1 H'->N (f x) H')->g x (qd ix σ) H λσ2 H2=>tt σ2 H2 λb H3=>if b=true then te σ2 H3 λv H4=>N (some v) H4 else N none H3)
  (hd:∀H p H',aH H1 H->gV H p (.lst (xs.filterMap f)) H'->Q (.ref p) H'):lC ix g tt te σ H1 Q (Itt K a):=by
 refine⟨λi m ys H=>m=xs.length-i/\i<=xs.length/\ys=(xs.take i).filterMap f/\aH H1 H,⟨xs.length,by simp,dI _,Z,aH.refl _⟩,?_⟩;rintro i m ys H ⟨rfl,hi,e,s⟩;have q:=s.wC hx;have z:ys.length<=sizeLine:=by
  subst e;refine cW (Tj _ _) (cW ?_ (dH (cC hz)));rw[dZ];exact Ug _ _
 by_cases hlt:i<xs.length
 ·refine .inr ⟨⟨xs,xs[i],q,by simp[hlt]⟩,z,λys' H'=>ys'=(xs.take (i+1)).filterMap f/\aH H1 H',λys' H' p'=>⟨xs.length-(i+1),by omega,Z,hlt,p'⟩,λx H' y=>?_⟩;obtain⟨e',y⟩:=y;subst e';have hx':=y xs q;have hm:x∈xs:=jA hx';obtain⟨hil,hix⟩:=fG.mp hx';have et:xs.take (i+1)=xs.take i++[x]:=by rw[zO hil,hix]
  refine hs x _ (λo H'=>match o with|some v=>(ys++[v]=(xs.take (i+1)).filterMap f/\aH H1 H')|none=>(ys=(xs.take (i+1)).filterMap f/\aH H1 H')) hm s λH' s'=>?_;cases ef:f x with
  |some v=>exact⟨by rw[e,et,xq];simp[ef],s'⟩
  |none=>exact⟨by rw[e,et,xq];simp[ef],s'⟩
 ·have ei:i=xs.length:=by omega
  subst ei;refine .inl ⟨⟨xs,q,aO _⟩,z,λp hp=>?_⟩;subst e;rw[gZ];exact hd H p _ s (gV.oF hp)
end
section
variable{X:Cx}{K:aK}
inductive a4B(K:aK)(x:V)(lo:Option Int)(hi:Option Int)(H:Hp)(Q:VK):Prop
 |mk (a xs:_) (_:x=.ref a) (_:cG K H a xs) (_:¬(HT.kZ xs.length 0 lo=0/\HT.kZ xs.length xs.length hi=xs.length)) (_:∀p H',gV H p (.tup (uV xs lo hi)) H'->Q (.ref p) H')
def HJ(e:X.K=K):SlR X (a4B K):=by
 subst e;exact λY s σ H x v vl vu lo hi sl Q I rx hs pl pu ⟨a,xs,e,h,hw,q⟩=>è Y s σ H x v vl vu lo hi sl Q I rx hs pl pu ⟨a,xs,e,h,hw,λp hp=>q p _ (gV.oF hp)⟩
end
end L2
namespace L2
open PyProof.Rows
variable{H H':Hp}{O:List (List Key×V)}{h:Heap}{w:World}{K:aK}{mg:Str->Option Value}{y:V}{u oc doc pm cZ ct:Value}{X:Cx}{P:Program}{a f b:Addr}{A:Type}{x:Str}{st:Stmt}{ps:List Str}{od an:Option Addr}{osl:Array (Option Value)}{Q:Value->Shared->Prop}{pos:Pos}{o:Option V}{s:Shared}
section
variable{κ:Type} [DecidableEq κ]
def iJ(O:List (κ×V))(k:κ):Option V:=(O.find? λkv=>decide (kv.1=k)).map (·.2)
def putK(O:List (κ×V))(k:κ)(v:V):List (κ×V) :=
 if(O.any λkv=>decide (kv.1=k))=true then O.map (λkv=>if kv.1=k then(kv.1,v)else kv)else O++[(k,v)]
def Jx{p:κ×V}{r:List (κ×V)}{k:κ}(e:p.1=k):iJ (p::r) k=some p.2:=by simp[iJ,List.find?_cons,e]
def Jy{p:κ×V}{r:List (κ×V)}{k:κ}(e:¬p.1=k):iJ (p::r) k=iJ r k:=by simp[iJ,List.find?_cons,e]
theorem Rn(k:κ):∀O:List (κ×V),(O.any λkv=>decide (kv.1=k))=(iJ O k).isSome
 | []=>rfl
 |p::r=>by
  rw[tR]
  by_cases e:p.1=k
  ·simp only[Jx e,decide_eq_true e,Bool.true_or,Option.isSome_some]
  ·rw[Jy e,bJ e,Ox];exact Rn k r
def Gj(O:List (κ×V))(k:κ)(v:V):(putK O k v).length<=O.length+1:=by
 unfold putK;split
 ·rw[aN];omega
 ·rw[bW,nA,List.length_nil];omega
def tV.vB{u:Option Value}(r:tV o u):o.isSome=u.isSome:=by
 cases o with
 |none=>cases u with
  |none=>rfl
  |some _=>exact(show False from r).elim
 |some _=>cases u with
  |none=>exact(show False from r).elim
  |some _=>rfl
def tV.getD{o:Option V}{u:Option Value}{d:V}{d':Value}(r:tV o u)(rd:cP d d'):cP (o.getD d) (u.getD d'):=by
 cases o with
 |none=>cases u with
  |none=>exact rd
  |some _=>exact(show False from r).elim
 |some _=>cases u with
  |none=>exact(show False from r).elim
  |some _=>exact r
def KV.val{O:List (κ×V)}{vs:List (κ×Value)}(r:KV O vs)(k:κ):tV (iJ O k) (valueAt vs k):=by
 unfold KV at r
 induction r with
 |nil=>exact nD
 | @cons p q ps qs h t ih =>
  obtain⟨h1,h2⟩:=h;by_cases e:p.1=k
  ·have e':q.1=k:=h1.symm.trans e;have b:valueAt (q::qs) k=some q.2:=by simp[valueAt,List.find?_cons,e']
   rw[Jx e,b];exact h2
  ·have e':¬q.1=k:=λz=>e (h1.trans z);have b:valueAt (q::qs) k=valueAt qs k:=by simp[valueAt,List.find?_cons,e']
   rw[Jy e,b];exact ih
def KV.any{O:List (κ×V)}{vs:List (κ×Value)}(r:KV O vs)(k:κ):(O.any λkv=>decide (kv.1=k))=vs.any λkv=>decide (kv.1=k):=by
 unfold KV at r
 induction r with
 |nil=>rfl
 |cons h t ih=>rw[tR,tR,ih,h.1]
def KV.repl{O:List (κ×V)}{vs:List (κ×Value)}(r:KV O vs)(k:κ)(ry:cP y u) :
  KV (O.map λkv=>if kv.1=k then(kv.1,y)else kv) (vs.map λkv=>if kv.1=k then(kv.1,u)else kv):=by
 unfold KV at r ⊢
 induction r with
 |nil=>exact .nil
 | @cons p q ps qs h t ih =>
  rw[cL,cL];refine .cons ?_ ih;obtain⟨h1,h2⟩:=h;by_cases e:p.1=k
  ·rw[aG e,aG (h1.symm.trans e)];exact⟨h1,ry⟩
  ·rw[aB e,aB (λz=>e (h1.trans z))];exact⟨h1,h2⟩
def KV.put{O:List (κ×V)}{vs:List (κ×Value)}(r:KV O vs)(k:κ)(ry:cP y u):KV (putK O k y) (stored vs k u):=by
 unfold putK stored;rw[r.any k];by_cases e:(vs.any λkv=>decide (kv.1=k))=true
 ·rw[aG e,aG e];exact r.repl k ry
 ·rw[aB e,aB e];exact Paired.snoc r ⟨Z,ry⟩
def KV.length{O:List (κ×V)}{vs:List (κ×Value)}(r:KV O vs):O.length=vs.length:=aY r
end
def Ms{k:Key}(r:cP (kV k) u):(fU P w).is k u=true:=by
 cases k with
 |inl i=>obtain⟨t,e⟩:=(show ∃t,u=Value.int i t from r);subst e;exact QJ P w i t
 |inr x=>obtain⟨t,e⟩:=(show ∃t,u=Value.str x t from r);subst e;exact gH P w x t
theorem Mt{P:Program}{w:World}:∀{ks:List Key}{us:List Value},cM (ks.map kV) us->ItemsAre (fU P w) ks us
 | [],_,r=>by rw[List.map_nil]at r;cases r;exact .nil
 |k::ks,_,r=>by
  rw[cL]at r
  cases r with
  |cons h t=>exact .cons (Ms h) (Mt t)
abbrev KT(H:Hp):List (List Key×V)->List (List Key×Addr×Value)->Prop:=Paired λp q=>p.1=q.1/\H q.2.1=some (.tup (p.1.map kV))/\cP p.2 q.2.2
def KT.val{xs:List (List Key×Addr×Value)}(r:KT H O xs)(k:List Key):tV (iJ O k) ((atKey xs k).map (·.2)):=by
 induction r with
 |nil=>exact nD
 | @cons p q ps qs h t ih =>
  obtain⟨h1,_,h2⟩:=h;by_cases e:p.1=k
  ·have e':q.1=k:=h1.symm.trans e;have b:atKey (q::qs) k=some q.2:=by simp[atKey,List.find?_cons,e']
   rw[Jx e,b];exact h2
  ·have e':¬q.1=k:=λz=>e (h1.trans z);have b:atKey (q::qs) k=atKey qs k:=by simp[atKey,List.find?_cons,e']
   rw[Jy e,b];exact ih
def KT.repl{xs:List (List Key×Addr×Value)}(r:KT H O xs)(k:List Key)(ry:cP y u) :
  KT H (O.map λkv=>if kv.1=k then(kv.1,y)else kv) (xs.map (putAt k u)):=by
 induction r with
 |nil=>exact .nil
 | @cons p q ps qs h t ih =>
  rw[cL,cL];refine .cons ?_ ih;obtain⟨h1,h2,h3⟩:=h;unfold putAt;by_cases e:p.1=k
  ·rw[aG e,aG (h1.symm.trans e)];exact⟨h1,h2,ry⟩
  ·rw[aB e,aB (λz=>e (h1.trans z))];exact⟨h1,h2,h3⟩
def KT.put{xs:List (List Key×Addr×Value)}(r:KT H O xs)(k:List Key)(hb:H b=some (.tup (k.map kV)))(ry:cP y u) :
  KT H (putK O k y) (storedH xs k b u):=by
 have e:(O.any λkv=>decide (kv.1=k))=(atKey xs k).isSome:=by
  rw[Rn,(r.val k).vB,Uc]
 unfold putK storedH;rw[e];by_cases q:(atKey xs k).isSome=true
 ·rw[aG q,aG q];exact r.repl k ry
 ·rw[aB q,aB q];exact Paired.snoc r ⟨Z,hb,ry⟩
def KT.keeps{xs:List (List Key×Addr×Value)}(r:KT H O xs)(ht:∀b ys,H b=some (.tup ys)->H' b=some (.tup ys)):KT H' O xs :=
 Paired.bU r λ_ _ z=>⟨z.1,ht _ _ z.2.1,z.2.2⟩
def a1F{u:HO}(ok:zA P w H h)(e:Rd H a u):fZ P w H h a u:=e.ok ok
def Ro{O:List (Key×V)}(ok:zA P w H h)(e:Rd H a (.dK O)):O.length<=sizeLine/\(a==sysModules)=false/\∃vs,KV O vs/\h.DictOf (fU P w) a vs :=
 show fZ P w H h a (.dK O)from a1F ok e
def a4C{O:List (Key×V)}(ok:zA P w H h)(e:H a=some (.dK O)):O.length<=sizeLine/\(a==sysModules)=false/\∃vs,KV O vs/\h.DictOf (fU P w) a vs:=Ro ok (.inl e)
def Ez{ks:List Key}(ok:zA P w H h)(e:H a=some (.tup (ks.map kV))):(tupleKind (fU P w)).is h ks a:=by
 obtain⟨_,cg,r,o,h1,h2,n,h3⟩:=(show fZ P w H h a (.tup (ks.map kV))from ok a _ e);exact⟨o,cg.toArray,n,h1,h2,h3,by simpa using Mt r⟩
def Rp(ok:zA P w H h)(e:Rd H a (.dT O)):O.length<=sizeLine/\(a==sysModules)=false/\
  ∃xs,KT H O xs/\h.DictOfH (tupleKind (fU P w)) a xs:=by
 obtain⟨z,y,xs,r,o,es,ep,h1,h2,h3,h4,h5⟩:=(show fZ P w H h a (.dT O)from a1F ok e);refine⟨z,y,xs,r,o,es,ep,h1,h2,h3,h4,λx hx=>?_,h5⟩;have all:∀{l:List (List Key×V)}{m:List (List Key×Addr×Value)},KT H l m->∀x∈m,(tupleKind (fU P w)).is h x.1 x.2.1:=by
  intro l m q
  induction q with
  |nil=>intro x hx;exact nomatch hx
  | @cons p q ps qs hq t ih =>
   intro x hx;rcases cH.mp hx with e|hx
   ·subst e;exact Ez ok (by rw[<-hq.1];exact hq.2.1)
   ·exact ih x hx
 exact all r x hx
def Xj(ok:zA P w H h)(e:H a=some (.dT O)):O.length<=sizeLine/\(a==sysModules)=false/\
  ∃xs,KT H O xs/\h.DictOfH (tupleKind (fU P w)) a xs:=Rp ok (.inl e)
def GF(H:Hp)(a:Addr)(y:V)(r:Option V):Prop :=
 (∃O k,Rd H a (.dK O)/\y=kV k/\r=iJ O k)\/∃O k b,Rd H a (.dT O)/\y=.ref b/\H b=some (.tup (k.map kV))/\r=iJ O k
def a0q(H:Hp)(a:Addr)(y v:V)(H':Hp):Prop :=
 (∃O k,H a=some (.dK O)/\y=kV k/\O.length<sizeLine/\H'=cO H a (.dK (putK O k v)))\/
 ∃O k b,H a=some (.dT O)/\y=.ref b/\H b=some (.tup (k.map kV))/\O.length<sizeLine/\H'=cO H a (.dT (putK O k v))
def GF.t{k:List Key}(e:H a=some (.dT O))(eb:H b=some (.tup (k.map kV))):GF H a (.ref b) (iJ O k):=.inr ⟨O,k,b,.inl e,Z,eb,Z⟩
def a0q.t{k:List Key}{v:V}(e:H a=some (.dT O))(eb:H b=some (.tup (k.map kV)))(hl:O.length<sizeLine) :
  a0q H a (.ref b) v (cO H a (.dT (putK O k v))):=.inr ⟨O,k,b,e,Z,eb,hl,Z⟩
section
variable{Y:List (Addr×Obj)}{σ:St}{v:V}{r:Value}{A:Around}{E:Value->Shared->Prop}
def bH.big(I:bH X Y σ H s):sysModules<s.heap.objs.size:=by
 have h:mainGlobals<s.heap.objs.size:=(I.mod.glob.keeps I.bk).lt;exact Aj (by decide) h
def Za(hu:A.units+1<cLine)(I:bH X Y σ H s)(g:GF H a y (some v))(ry:cP y u)(h:∀w' s',bH X Y σ H s'->cP v w'->Q w' s') :
  wpAny (model X.prog X.w) A (getItem (.ref a) u) Q E s:=by
 rcases g with⟨O,k,e,ey,l⟩|⟨O,k,b,e,ey,eb,l⟩
 ·subst ey;obtain⟨z,hd,vs,rel,dd⟩:=Ro I.hok e;obtain⟨w',hw,YF⟩:=tV.some_of (v:=v) (o:=valueAt vs k) (by rw[l];exact rel.val k);exact wpAny_getItem_of (Ms ry) dd.mapOf hw (h w' _ (I.tok _) YF)
 ·subst ey;cases(show u=Value.ref b from ry);obtain⟨z,hd,xs,rel,dd⟩:=Rp I.hok e;obtain⟨w',hw,YF⟩:=tV.some_of (v:=v) (o:=(atKey xs k).map (·.2)) (by rw[l];exact rel.val k);obtain⟨p,hp,hp2⟩:=kI.mp hw;refine wpAny_getItem_heap (Ef hu) (Ez I.hok eb) dd hp ?_;rw[hp2];exact h w' _ (I.tok _) YF
def a6d(hu:A.units+1<cLine)(I:bH X Y σ H s)(g:GF H a y o)(ry:cP y u)(h:∀s',bH X Y σ H s'->Q (.bool o.isSome) s') :
  wpAny (model X.prog X.w) A (compareOp .In u (.ref a)) Q E s:=by
 rcases g with⟨O,k,e,ey,l⟩|⟨O,k,b,e,ey,eb,l⟩
 ·subst ey;obtain⟨z,hd,vs,rel,dd⟩:=Ro I.hok e;refine wpAny_in_of (Ms ry) hd dd.mapOf ?_;rw[<-(rel.val k).vB,<-l];exact h _ (I.tok _)
 ·subst ey;cases(show u=Value.ref b from ry);obtain⟨z,hd,xs,rel,dd⟩:=Rp I.hok e;refine wpAny_in_heap (Ef hu) (Ez I.hok eb) hd dd ?_;have q:=(rel.val k).vB;rw[Uc]at q;rw[<-q,<-l];exact h _ (I.tok _)
def a0r(hu:A.units+1<cLine)(I:bH X Y σ H s)(g:GF H a y o)(ry:cP y u)(h:∀s',bH X Y σ H s'->Q (.bool (!o.isSome)) s') :
  wpAny (model X.prog X.w) A (compareOp .NotIn u (.ref a)) Q E s:=by
 rcases g with⟨O,k,e,ey,l⟩|⟨O,k,b,e,ey,eb,l⟩
 ·subst ey;obtain⟨z,hd,vs,rel,dd⟩:=Ro I.hok e;refine wpAny_notIn_of (Ms ry) hd dd.mapOf ?_;rw[<-(rel.val k).vB,<-l];exact h _ (I.tok _)
 ·subst ey;cases(show u=Value.ref b from ry);obtain⟨z,hd,xs,rel,dd⟩:=Rp I.hok e;refine wpAny_notIn_heap (Ef hu) (Ez I.hok eb) hd dd ?_;have q:=(rel.val k).vB;rw[Uc]at q;rw[<-q,<-l];exact h _ (I.tok _)
def Qa{h':Heap}{t':Nat}{ob:HO}(I:bH X Y σ H s)(mu:Mut (H a))(hs:Heap.SameBut a s.heap h')(he:∃q,h'.get? a=some q)(new:fZ X.prog X.w (cO H a ob) h' a ob) :
  bH X Y σ (cO H a ob) { s with heap:=h',toks:=t'} :=
 I.write (x:=a) (e:=a) mu (.inl Z) (λb q hb z=>(hs.2 b hb).trans z) he new
def a2Q{h':Heap}{O:List (Key×V)}{vs:List (Key×Value)}(z:O.length<=sizeLine)(hd:(a==sysModules)=false)(rel:KV O vs)(dd:h'.DictOf (fU P w) a vs) :
  fZ P w H' h' a (.dK O):=⟨z,hd,vs,rel,dd⟩
def Zb{Q:Unit->Shared->Prop}(hu:A.units+1<cLine)(I:bH X Y σ H s)(g:a0q H a y v H')(ry:cP y u)(rv:cP v r)(h:∀s',bH X Y σ H' s'->Q () s') :
  wpAny (model X.prog X.w) A (setItem (.ref a) u r) Q E s:=by
 rcases g with⟨O,k,e,ey,l,eH⟩|⟨O,k,b,e,ey,eb,l,eH⟩
 ·subst ey eH;obtain⟨z,hd,vs,rel,dd⟩:=a4C I.hok e;have hz:vs.length<=sizeLine:=by rw[<-rel.length];exact z
  have hl:(putK O k v).length<=sizeLine:=by have:=Gj O k v;omega
  refine wpAny_setItem_pairs (hsz:=hz) (Ms ry) dd λh' dd' hs=>h _ ?_;have he:∃q,h'.get? a=some q:=let⟨q,_,_,hq,_⟩:=dd';⟨q,hq⟩
  exact Qa I (by rw[e];exact nD) hs he (a2Q hl hd (rel.put k rv) dd')
 ·subst ey eH;cases(show u=Value.ref b from ry);obtain⟨z,hd,xs,rel,dd⟩:=Xj I.hok e;have hz:xs.length<=sizeLine:=by rw[<-aY rel];exact z
  have hl:(putK O k v).length<=sizeLine:=by have:=Gj O k v;omega
  refine wpAny_setItem_heap (hsz:=hz) (Ef hu) (Ez I.hok eb) dd λh' dd' hs=>h _ ?_;obtain⟨q,es,ep,hq,h2,h3,h4,_,h5⟩:=dd';refine Qa I (by rw[e];exact nD) hs ⟨q,hq⟩ ⟨hl,hd,_,(rel.put k eb rv).keeps λc ys ec=>?_,q,es,ep,hq,h2,h3,h4,h5⟩;rw[aZ (a1x ec e λz=>nomatch z)];exact ec
end
def a2R(i:Expr):Prop:=∀ov iv,subscripted i false ov iv=operate [ov,iv] (getItem ov iv)
def Xk{prog:Program}{A:Around}{E:Value->Shared->Prop}{env:Env}{value slice:Expr}{T id:String}
  (hl:typeLookup (.type T) "__getitem__" = pure (some (.builtin id))) (hs:a2R slice)
  (h:wpAny (model prog w) A (eval value env) (λo s₁=>wpAny (model prog w) A (eval slice env) (λi s₂=>s₂.TypeIs o T/\wpAny (model prog w) A (getItem o i) Q E s₂) E s₁) E s) :
  wpAny (model prog w) A (eval (.Subscript value slice pos) env) Q E s:=by
 refine Subscript_ (iI h (λo s₁ h₁=>iI h₁ (λi s₂ h₂=>?_) λ_ _ x=>x) λ_ _ x=>x);obtain⟨hT,h₂⟩:=h₂;unfold subscriptTail;refine M ?_;rw[getitemInPython_of_ne hT.not_modules];refine M (Ot hT hl ?_);have fin:wpAny (model prog w) A (subscripted slice false o i) (λr s₃=>wpAny (model prog w) A (letTemporaryGo value o r >>= λ_=>pure r) Q E s₃) E s₂:=by
  rw[hs o i];exact wpAny_operating (iI h₂ (λr s₃ h₃=>M (wpAny_letTemporaryGo (ao h₃))) λ_ _ x=>x)
 first
  |exact ao (M fin)
  |exact M (ao (M fin))
  |exact M fin
def Rq{Y:List (Addr×Obj)}{σ:St}(I:bH X Y σ H s)(g:GF H a y o):s.TypeIs (.ref a) "dict" := by
 rcases g with⟨O,k,e,_,_⟩|⟨O,k,b,e,_,_,_⟩
 ·obtain⟨_,_,vs,_,dd⟩:=Ro I.hok e;exact dd.typeIs
 ·obtain⟨_,_,xs,_,dd⟩:=Rp I.hok e;exact dd.typeIs
def a4D(td ty:TE):TE:=λσ H Q=>td σ H λx H1=>ty σ H1 λy H2=>∃a v,x=.ref a/\GF H2 a y (some v)/\Q v H2
section
variable{o i e value:Expr}{pos' tpos:Pos}{td ty tv:TE}
def Qc(hu:X.A.units+1<cLine)(ho:PE X o td)(hi:PE X i ty)(hs:a2R i):PE X (.Subscript o i pos) (a4D td ty):=by
 intro Y s σ H Q I h;refine Xk PySem.F.slot_dict_getitem.lookup hs (jK (ho Y s σ H _ I h) λu s1 ⟨x,H1,I1,rx,q1⟩=>jK (hi Y s1 σ H1 _ I1 q1) λiv s2 ⟨y,H2,I2,ry,a,v,ex,g,q2⟩=>?_);subst ex;obtain rfl:u=Value.ref a:=rx;exact⟨Rq I2 g,Za hu I2 g ry λw' s3 I3 YF=>⟨v,H2,I3,YF,q2⟩⟩
end
def Ė(h:Heap)(hb:sysModules<h.objs.size):fZ P w H (h.push { cls:=.type "dict",data:=.dict #[]}) h.objs.size (.dT []) :=
 ⟨dI _,xu.mpr (Ne.symm (cu hb)),[],.nil,_,#[],0,bZ _ Z,⟨Z,Z,Z⟩,Z,Z,Ah⟩
def a2S:TE:=λ_ H Q=>∀p,H p=none->Q (.ref p) (cO H p (.dT []))
def Rr:PE X (.Dict [] [] pos) a2S:=λY s σ H Q I h =>
 wpAny_Dict_empty ⟨.ref s.heap.objs.size,_,I.laid (a:=s.heap.objs.size) (o:=.dT []) (t':=s.toks) (λ_ _ q=>bL _ q) (aO _) (Ė s.heap I.big),Z,h _ (I.hok.fresh (aO _))⟩
inductive a4E(x:V)(vs:List V)(H:Hp)(Q:VK):Prop
 |mk (l xs y:_) (_:x=.ref l) (_:vs=[]) (_:H l=some (.lst (xs++[y]))) (_:∀H',wF H l (.lst xs) H'->Q y H')
def HN:Å X "list.pop" a4E:=a2p.weak λx vs H Q ⟨l,xs,y,e1,e2,h,q⟩=>⟨l,xs++[y],y,e1,e2,h,(by simp),(by
 have:=q _ (wF.oF (H:=H) (l:=l) (o:=.lst xs));grind)⟩
def us1{us:List A}{P:List A->Prop}(h:us.length=1)(f:∀a,P [a]):P us:=by
 match us,h with
 | [a],_=>exact f a
def us2{us:List A}{P:List A->Prop}(h:us.length=2)(f:∀a b,P [a,b]):P us:=by
 match us,h with
 | [a,b],_=>exact f a b
def us3{us:List A}{P:List A->Prop}(h:us.length=3)(f:∀a b c,P [a,b,c]):P us:=by
 match us,h with
 | [a,b,c],_=>exact f a b c
def us4{us:List A}{P:List A->Prop}(h:us.length=4)(f:∀a b c d,P [a,b,c,d]):P us:=by
 match us,h with
 | [a,b,c,d],_=>grind
def us5{us:List A}{P:List A->Prop}(h:us.length=5)(f:∀a b c d e,P [a,b,c,d,e]):P us:=by
 match us,h with
 | [a,b,c,d,e],_=>grind
def Qd{kV:Value}(X:K.In h)(G:h.Ns mainGlobals mg)
  (a:PySem.W.nsIn K mainGlobals x=some (some (.ref f))) (l:K.lookup f=some ⟨oc,od,.func (PySem.W.fnOf x x (dR st) (dB st) (aF st) .none kV doc pm an cZ ct),osl⟩) (c:PySem.W.codeIn K cZ x=true) (k:PySem.W.keepIn K (.ref f)=true)
  (hp:ps.length=1)
  (hb:∀(kV doc pm:Value) (an:Option Addr) (cZ ct:Value) (u0:Value),bindArgs (PySem.W.fnOf x x (dR st) (dB st) (aF st) .none kV doc pm an cZ ct) ⟨[u0],[]⟩=pure (ps.zip [u0])) :
  Nonempty (Dn K mg x st ps) :=
 Q7 X G a l c k λkV doc pm an cZ ct us hl=>us1 (P:=λus=>bindArgs (PySem.W.fnOf x x (dR st) (dB st) (aF st) .none kV doc pm an cZ ct) ⟨us,[]⟩=pure (ps.zip us)) (hl.trans hp) λu0=>hb kV doc pm an cZ ct u0
def rY{kV:Value}(X:K.In h)(G:h.Ns mainGlobals mg)
  (a:PySem.W.nsIn K mainGlobals x=some (some (.ref f))) (l:K.lookup f=some ⟨oc,od,.func (PySem.W.fnOf x x (dR st) (dB st) (aF st) .none kV doc pm an cZ ct),osl⟩) (c:PySem.W.codeIn K cZ x=true) (k:PySem.W.keepIn K (.ref f)=true)
  (hp:ps.length=2)
  (hb:∀(kV doc pm:Value) (an:Option Addr) (cZ ct:Value) (u0 u1:Value),bindArgs (PySem.W.fnOf x x (dR st) (dB st) (aF st) .none kV doc pm an cZ ct) ⟨[u0,u1],[]⟩=pure (ps.zip [u0,u1])) :
  Nonempty (Dn K mg x st ps) :=
 Q7 X G a l c k λkV doc pm an cZ ct us hl=>us2 (P:=λus=>bindArgs (PySem.W.fnOf x x (dR st) (dB st) (aF st) .none kV doc pm an cZ ct) ⟨us,[]⟩=pure (ps.zip us)) (hl.trans hp) λu0 u1=>hb kV doc pm an cZ ct u0 u1
def ė{kV:Value}(X:K.In h)(G:h.Ns mainGlobals mg)
  (a:PySem.W.nsIn K mainGlobals x=some (some (.ref f))) (l:K.lookup f=some ⟨oc,od,.func (PySem.W.fnOf x x (dR st) (dB st) (aF st) .none kV doc pm an cZ ct),osl⟩) (c:PySem.W.codeIn K cZ x=true) (k:PySem.W.keepIn K (.ref f)=true)
  (hp:ps.length=3)
  (hb:∀(kV doc pm:Value) (an:Option Addr) (cZ ct:Value) (u0 u1 u2:Value),bindArgs (PySem.W.fnOf x x (dR st) (dB st) (aF st) .none kV doc pm an cZ ct) ⟨[u0,u1,u2],[]⟩=pure (ps.zip [u0,u1,u2])) :
  Nonempty (Dn K mg x st ps) :=
 Q7 X G a l c k λkV doc pm an cZ ct us hl=>us3 (P:=λus=>bindArgs (PySem.W.fnOf x x (dR st) (dB st) (aF st) .none kV doc pm an cZ ct) ⟨us,[]⟩=pure (ps.zip us)) (hl.trans hp) λu0 u1 u2=>hb kV doc pm an cZ ct u0 u1 u2
def wH{kV:Value}(X:K.In h)(G:h.Ns mainGlobals mg)
  (a:PySem.W.nsIn K mainGlobals x=some (some (.ref f))) (l:K.lookup f=some ⟨oc,od,.func (PySem.W.fnOf x x (dR st) (dB st) (aF st) .none kV doc pm an cZ ct),osl⟩) (c:PySem.W.codeIn K cZ x=true) (k:PySem.W.keepIn K (.ref f)=true)
  (hp:ps.length=4)
  (hb:∀(kV doc pm:Value) (an:Option Addr) (cZ ct:Value) (u0 u1 u2 u3:Value),bindArgs (PySem.W.fnOf x x (dR st) (dB st) (aF st) .none kV doc pm an cZ ct) ⟨[u0,u1,u2,u3],[]⟩=pure (ps.zip [u0,u1,u2,u3])) :
  Nonempty (Dn K mg x st ps) :=
 Q7 X G a l c k λkV doc pm an cZ ct us hl=>us4 (P:=λus=>bindArgs (PySem.W.fnOf x x (dR st) (dB st) (aF st) .none kV doc pm an cZ ct) ⟨us,[]⟩=pure (ps.zip us)) (hl.trans hp) λu0 u1 u2 u3=>hb kV doc pm an cZ ct u0 u1 u2 u3
def VF{kV:Value}(X:K.In h)(G:h.Ns mainGlobals mg)
  (a:PySem.W.nsIn K mainGlobals x=some (some (.ref f))) (l:K.lookup f=some ⟨oc,od,.func (PySem.W.fnOf x x (dR st) (dB st) (aF st) .none kV doc pm an cZ ct),osl⟩) (c:PySem.W.codeIn K cZ x=true) (k:PySem.W.keepIn K (.ref f)=true)
  (hp:ps.length=5)
  (hb:∀(kV doc pm:Value) (an:Option Addr) (cZ ct:Value) (u0 u1 u2 u3 u4:Value),bindArgs (PySem.W.fnOf x x (dR st) (dB st) (aF st) .none kV doc pm an cZ ct) ⟨[u0,u1,u2,u3,u4],[]⟩=pure (ps.zip [u0,u1,u2,u3,u4])) :
  Nonempty (Dn K mg x st ps) :=
 Q7 X G a l c k λkV doc pm an cZ ct us hl=>us5 (P:=λus=>bindArgs (PySem.W.fnOf x x (dR st) (dB st) (aF st) .none kV doc pm an cZ ct) ⟨us,[]⟩=pure (ps.zip us)) (hl.trans hp) λu0 u1 u2 u3 u4=>hb kV doc pm an cZ ct u0 u1 u2 u3 u4
def Gk:List (Key×V):=[(.inr "leaf",.int 0),(.inr "in",.int 1),(.inr "tie",.int 1),(.inr "out",.int 1),(.inr "join",.int 2)]
set_option genInjectivity false in
structure Used(w:World)(K:aK)(mg:Str->Option Value) where
 d:Addr
 m:mg "USED" = some (.ref d)
 es:Array DictEntry
 ep:Nat
 l:K.lookup d=some ⟨.type "dict",none,.dict es ep,#[]⟩
 ks:∃t0 t1 t2 t3 t4 t5 t6 t7 t8 t9:Tok,es = #[⟨PyData.keyHash w.params "leaf",.str "leaf" t0,.int 0 t1⟩,⟨PyData.keyHash w.params "in",.str "in" t2,.int 1 t3⟩,⟨PyData.keyHash w.params "tie",.str "tie" t4,.int 1 t5⟩,⟨PyData.keyHash w.params "out",.str "out" t6,.int 1 t7⟩,⟨PyData.keyHash w.params "join",.str "join" t8,.int 2 t9⟩]
def a0s{d:Addr}{es:Array DictEntry}{ep:Nat}(X:K.In h)(G:h.Ns mainGlobals mg)
  (a:PySem.W.nsIn K mainGlobals "USED" = some (some (.ref d))) (l:K.lookup d=some ⟨.type "dict",none,.dict es ep,#[]⟩)
  (ks:∃t0 t1 t2 t3 t4 t5 t6 t7 t8 t9:Tok,es = #[⟨PyData.keyHash w.params "leaf",.str "leaf" t0,.int 0 t1⟩,⟨PyData.keyHash w.params "in",.str "in" t2,.int 1 t3⟩,⟨PyData.keyHash w.params "tie",.str "tie" t4,.int 1 t5⟩,⟨PyData.keyHash w.params "out",.str "out" t6,.int 1 t7⟩,⟨PyData.keyHash w.params "join",.str "join" t8,.int 2 t9⟩]):Nonempty (Used w K mg) :=
 ⟨⟨d,Jd X G a,es,ep,l,ks⟩⟩
def Used.dict(U:Used w K mg)(X:K.In h):∃vs,KV Gk vs/\h.DictOf (fU P w) U.d vs:=by
 obtain⟨t0,t1,t2,t3,t4,t5,t6,t7,t8,t9,e⟩:=U.ks;refine⟨[(.inr "leaf",.int 0 t1),(.inr "in",.int 1 t3),(.inr "tie",.int 1 t5),(.inr "out",.int 1 t7),(.inr "join",.int 2 t9)],?_,_,U.es,U.ep,X _ _ U.l,⟨Z,Z,Z⟩,Z,?_,?_,?_⟩
 ·exact .cons ⟨Z,t1,Z⟩ (.cons ⟨Z,t3,Z⟩ (.cons ⟨Z,t5,Z⟩ (.cons ⟨Z,t7,Z⟩ (.cons ⟨Z,t9,Z⟩ .nil))))
 ·rw[e];intro x hx;simp only[Array.mem_def,List.mem_cons,List.not_mem_nil,or_false]at hx;rcases hx with rfl|rfl|rfl|rfl|rfl
  ·exact⟨.inr "leaf",gH P w _ _,Z⟩
  ·exact⟨.inr "in",gH P w _ _,Z⟩
  ·exact⟨.inr "tie",gH P w _ _,Z⟩
  ·exact⟨.inr "out",gH P w _ _,Z⟩
  ·exact⟨.inr "join",gH P w _ _,Z⟩
 ·rw[e];exact .cons (gH P w _ _) Z (.cons (gH P w _ _) Z (.cons (gH P w _ _) Z (.cons (gH P w _ _) Z (.cons (gH P w _ _) Z .nil))))
 ·show([.inr "leaf",.inr "in",.inr "tie",.inr "out",.inr "join"]:List Key).Nodup;decide
def a4F(ty:TE):TE:=λσ H Q=>ty σ H λy H1=>∃k v,y=kV k/\iJ Gk k=some v/\Q v H1
section
variable{i:Expr}{np:Pos}{ty:TE}
def a0t(U:Used X.w X.K X.mg)(hg:Gl X "USED")(hi:PE X i ty)(hs:a2R i):PE X (.Subscript (.Name "USED" np) i pos) (a4F ty):=by
 intro Y s σ H Q I h;refine Xk PySem.F.slot_dict_getitem.lookup hs (BZ I hg U.m (jK (hi Y s σ H _ I h) λiv s2 ⟨y,H2,I2,ry,k,v,ey,hv,q2⟩=>?_));subst ey;obtain⟨vs,rel,dd⟩:=U.dict (P:=X.prog) I2.DN;obtain⟨w',hw,YF⟩:=tV.some_of (v:=v) (o:=valueAt vs k) (by rw[<-hv];exact rel.val k);exact⟨dd.typeIs,wpAny_getItem_of (Ms ry) dd.mapOf hw ⟨v,H2,I2.tok _,YF,q2⟩⟩
end
end L2
namespace L2
open PyProof.Rows Bg
def VG(K:aK)(H:Hp)(v:V)(ns:List Int):Prop:=∃p,v=.ref p/\bG K H p (ns.map V.int)
end L2
namespace L2
open PyProof.Rows
structure Dm(K:aK)(C:Addr)(m qual:Str)(st:Stmt)(ps:List Str) where
 f:Addr
 fd:FuncData
 F:Fun K m qual st f fd
 b:Binds K fd ps []
 mt:Meth K C m f
def oW{K:aK}{C:Addr}{m qual:Str}{st:Stmt}{ps:List Str}{f:Addr}{oc:Value}{od an:Option Addr}{osl:Array (Option Value)}{kV doc pm cZ ct:Value}
  (a:PySem.W.findIn K (.ref C) m=some (some (.ref f))) (i:PySem.W.isFn K (.ref f)=true)
  (l:K.lookup f=some ⟨oc,od,.func (PySem.W.fnOf m qual (dR st) (dB st) (aF st) .none kV doc pm an cZ ct),osl⟩) (c:PySem.W.codeIn K cZ qual=true) (k:PySem.W.keepIn K (.ref f)=true)
  (h:∀(kV doc pm:Value) (an:Option Addr) (cZ ct:Value) (us:List Value),us.length=ps.length->bindArgs (PySem.W.fnOf m qual (dR st) (dB st) (aF st) .none kV doc pm an cZ ct) ⟨us,[]⟩=pure (ps.zip us)):Dm K C m qual st ps :=
 { f:=f,fd:=_,F:=Vl (st:=st) l c k,b:=(Vl (st:=st) l c k).binds h,mt:=⟨a,i,k⟩}
end L2
namespace L2
open PyProof.Rows
structure a4G(K:aK)(C:Addr)(m:Str)(f:Addr):Prop where
 ga:PySem.W.specialIn K (.ref C) "__getattribute__" = some (some (.builtin "type.__getattribute__"))
 rd:∃mc,PySem.W.readsIn K C mc=true/\PySem.W.findCls K (.ref C) mc m=some (.val (.ref f))
 kp:PySem.W.keepIn K (.ref f)=true
section
variable{X:Cx}{CX:Vc}{k:Nat}{f C:Addr}{fd:FuncData}{ps:List Str}{sp:Sp}{K4:List V}{ds:List Value}{E:XK}{x m:Str}{p pos apos:Pos}{e:Expr}{es:List Expr}{t:TA}
def Qe{pl:Sem Bool}(hg:Gl X x)(hm:X.mg x=some (.ref C))(c:a4G X.K C m f)(F:bh X.prog X.w X.K X.mg X.base CX k f fd ps sp)(hr:sV k X.A)(hb:Binds X.K fd ps ds)(hd:cM K4 ds)(hx:Aq CX X E)(ha:PA X (e::es) t)
  (hdb:(x==("__debug__" : Str))=false:=by decide) (hst:starEach (e::es) X.env=(false,eval e X.env)::starEach es X.env:=by rfl) (hpl:(backTo pos (starEach es X.env)).any (·.1)=false:=by rfl)
  (ht:eval (.Call (.Attribute (.Name x p) m apos) (e::es) [] pos) X.env=(do
   let ov <-eval (.Name x p) X.env
   standAt apos.atName
   let(f,first) <-holding [ov] (getMethod ov m pl)
   callWith pos f first (backTo pos (starEach (e::es) X.env)) (backToKw pos (keywordEach [] X.env))):=by rfl) :
  PE X (.Call (.Attribute (.Name x p) m apos) (e::es) [] pos) (WT sp K4 E t):=by
 intro Y s σ H Q I h;refine PySem.W.methodCall_KW (pl:=pl) (BZ I hg hm ?_ hdb) ht;obtain⟨mc,hrd,hf⟩:=c.rd;refine PySem.W.method_cls I.DN c.ga (PySem.W.cls_value I.DN hrd hf Z ?_);have I1:bH X Y σ H { s with toks:=s.toks+1}:=I.tok _;exact Od (first:=[]) (h₀:=X.base) I.ok.mod.kin c.kp (jK (ha pos Y _ σ H _ I1 h) λus s2 ⟨vs,H2,I2,r,q2⟩=>⟨I2.DN,Ve F hr hb hd hx I2 r q2⟩) hst hpl
end
end L2
namespace Dy
open PyProof.Rows
variable{prog:Program}{w:World}{A:Around}
def Jz:entryFor table "dict.update.loop" = some Builtin.«dict.update.loop» := entryFor_of_tree (by kernel_rfl)
def wI:plainId "dict.update.loop" = true:=by decide
def Zc:typeLookup (.type "list") "keys" = pure none:=am_miss_of_fast (by kernel_rfl)
section
variable{E:Value->Shared->Prop}{s:Shared}
def Zd{a:Addr}{o:Obj}{xs:Array Value}{k:Nat}{Q:Option Value->Shared->Prop}(hx:s.heap.get? a=some o)(hc:o.cls=.type "list")(hdat:o.data=.seq xs k)(hd:o.dict=none)(hA:A.handled=none)
  (h:∀h' tk,(∀b o,s.heap.get? b=some o->h'.get? b=some o)->Q none { s with heap:=h',toks:=tk}):wpAny (model prog w) A (getAttr? (.ref a) "keys") Q E s:=by
 obtain⟨c,dct,dat,sl⟩:=o;simp only at hc hdat hd;subst hc hdat hd;obtain⟨hp,g,d,tk,os⟩:=s;have hT:∀tk',(⟨hp,g,d,tk',os⟩:Shared).TypeIs (.ref a) "list" := λ_=>⟨_,hx,Z⟩;have f1:=sub_AttributeError;have f3:=F.slot_list_getattribute.lookup;have f4:=F.slot_list_getattribute.bind (.ref a);have f5:=am_list_getattr_none;unfold getAttr? getAttrBy? getAttrBy;repeat (any_goals (first|assumption|exact hT _|((with_reducible show wpAny _ _ (call (Value.builtin "list.__getattribute__") _ _) _ _ _);refine O3 F.slot_list_getattribute (hT _) am_entry_list_getattribute (F.args_list_getattribute_2 _ _) (meets_getattribute_miss_list a xs k sl "keys" _ Zc (by decide)) ⟨hx,hA,λh' tk' e hx'=>?_⟩)|wp_step))
 obtain⟨t',u',he⟩:=hx'.there;show wpAny _ _ (getattributeRaised _ _ _ _ _ _ _) _ _ _;unfold getattributeRaised;repeat (any_goals (first|assumption|wp_step))
 exact h _ _ hx'.of.keeps
end
section
variable{R:Result->Shared->Prop}{I:Addr}{fp wr:List Addr}{G:Array GenState->Array GenState->Prop}{n:Nat}{P:Nat->Value->Prop}{St:Nat->Shared->Prop}{κ:Type} [DecidableEq κ] {knd:HeapKind prog w κ}
def VH{L:List (κ×Addr×Value)}(nd:(L.map (·.1)).Nodup){i:Nat}{x:κ×Addr×Value}(hx:L[i]?=some x):atKey (L.take i) x.1=none:=by
 unfold atKey;have:(L.take i).find? (λy=>decide (y.1=x.1))=none:=by
  rw[Iu];intro y hy;simp only[decide_eq_true_eq];intro e;obtain⟨j,hj⟩:=DY.mp hy;rw[List.getElem?_take]at hj;by_cases q:j<i
  ·rw[aG q]at hj;have:=idxH_unique (xs:=L) nd (i:=j) (j:=i) (k:=x.1) (p:=y.2) (q:=x.2) (by grind) (by rw[hx]);omega
  ·rw[aB q]at hj;exact nomatch hj
 rw[this];rfl
def fill(W:WalksS prog w A.in1 I fp wr G n P St)(d:Addr)(nf:d∉fp)(L:List (κ×Addr×Value))(hn:L.length=n)(nd:(L.map (·.1)).Nodup)(bs:Nat->Addr)(hv:∀i v,i<n->P i v->v=.ref (bs i))
  (Kp:Heap->Prop) (kpS:∀h h',Kp h->Heap.SameBut d h h'->Kp h') (kpM:∀s s':Shared,Kp s.heap->Moved wr G s s'->Kp s'.heap)
  (hT:∀h i x,Kp h->L[i]?=some x->knd.is h x.1 x.2.1/\IsTup h (bs i) #[.ref x.2.1,x.2.2]) (hu:knd.room A.in1) (hz:n<=sizeLine) :
  ∀(k i:Nat) (s:Shared) (j:Int) (t:Tok),n-i=k->i<=n->St i s->s.heap.DictOfH knd d (L.take i)->Kp s.heap->
   (∀s',Moved (d::wr) G s s'->s'.heap.DictOfH knd d L->Kp s'.heap->R (.ok (.ret .none)) s')->
   codeAny (model prog w) A (.builtin "dict.update.loop" ⟨[.ref d,.ref I,.int j t,.none],[]⟩) R s:=by
 have nw:d∉wr:=λh=>nf (W.sub _ h);have up:∀b∈wr,b∈d::wr:=λb hb=>bM _ hb;have a1G:∀(s s':Shared) (i:Nat),Moved wr G s s'->Kp s'.heap->s.heap.DictOfH knd d (L.take i)->s'.heap.DictOfH knd d (L.take i):=λs s' i hm kp ⟨o,es,ep,ho,hc,hd,he,his,hnn⟩ =>
  ⟨o,es,ep,hm.heap d o nw ho,hc,hd,he,λx hx=>by
   obtain⟨j,hj⟩:=DY.mp (m9 hx);exact(hT _ j x kp hj).1,hnn⟩
 intro k
 induction k with
 |zero =>
  intro i s j t hk hi st hD kp hR;obtain rfl:i=n:=by omega
  refine rW Jz ?_;rw[tL wI _];show wpAny _ A.in1 (pyNext (.ref I) >>= _) _ _ s;refine M (W.done s _ _ st λs' hm=>?_);have kp':=kpM _ _ kp hm;have hD':=a1G _ _ _ hm kp' hD;rw[<-hn,gZ]at hD';show wpAny _ _ (Builtin.Dict.addKeywords d [] >>= _) _ _ _;exact M (ao (ao (hR s' (hm.mono up) hD' kp')))
 |succ k ih =>
  intro i s j t hk hi st hD kp hR;have li:i<n:=by omega
  obtain⟨x,hx⟩:∃x,L[i]?=some x:=⟨L[i]'(by omega),bV _⟩;refine rW Jz ?_;rw[tL wI _];show wpAny _ A.in1 (pyNext (.ref I) >>= _) _ _ s;refine M (W.item i s _ _ li st λv s' hP st' hm=>?_);obtain rfl:=hv i v li hP;have kp':=kpM _ _ kp hm;have hD':=a1G _ _ _ hm kp' hD;obtain⟨hk1,hk2⟩:=hT _ i x kp' hx;obtain⟨ob,hb,hcl,m,hdat⟩:=id hk2;have hTy:s'.TypeIs (.ref (bs i)) "tuple" :=⟨_,hb,hcl⟩;refine M (ig (M (wpAny_tryCatch ?_)));unfold Builtin.Dict.pairItems;refine M (vZ hTy ?_);have e1:((Value.type "tuple" == Value.type "list")||(Value.type "tuple" == Value.type "tuple"))=true:=by grind
  rw[aG e1];refine M (oJ hb hdat (ao ?_));show wpAny _ _ (holding [Value.ref x.2.1,x.2.2] (dictSet d (.ref x.2.1) x.2.2)) _ _ _;refine ig (wpAny_dictSet_heap (hsz:=by rw[dZ];omega) hu hk1 hD' λh' hD2 sb=>?_);have hD3:h'.DictOfH knd d (L.take (i+1)):=by
   rw[storedH_new (VH nd hx)]at hD2;rw[List.take_add_one,hx];exact hD2
  refine ao ⟨uP wI _,ih (i+1) _ _ _ (by omega) li (W.frame _ s' _ _ st' (Nat.le_add_right _ _) λc hc o e=>?_) hD3 (kpS _ _ kp' sb) λs2 hm2 h2 h3=>hR s2 (Moved.trans W.gtrans ((hm.mono up).then_heap (Nat.le_add_right _ _) λc o hc e=>?_) hm2) h2 h3⟩
  ·rw[sb.2 c (λq:c=d=>nf (by grind))];exact e
  ·rw[sb.2 c (λq:c=d=>hc (by grind))];exact e
end
section
variable{E:Value->Shared->Prop}{s:Shared}{κ:Type} [DecidableEq κ] {knd:HeapKind prog w κ}
def Ze(h:Heap):(h.push { cls:=.type "dict",data:=.dict #[]}).DictOfH knd h.objs.size [] :=
 ⟨_,#[],_,bZ _ Z,⟨Z,Z,Z⟩,Z,Z,λx hx=>absurd hx (by simp),Ah⟩
def a0u{l:Addr}{o:Obj}{items:Array Value}{m:Nat}{L:List (κ×Addr×Value)}{bs:Nat->Addr}{Q:Value->Shared->Prop}(hh:A.handled=none)(hu:knd.room A.in1.in1)
  (hx:s.heap.get? l=some o) (hc:o.cls=.type "list") (hdat:o.data=.seq items m) (hd:o.dict=none) (hn:L.length=items.size) (nd:(L.map (·.1)).Nodup) (hz:items.size<=sizeLine)
  (hv:∀(i:Nat) (v:Value),items[i]?=some v->v=.ref (bs i))
  (hT:∀(h:Heap) (i:Nat) (x:κ×Addr×Value),(∀b ob,s.heap.get? b=some ob->h.get? b=some ob)->L[i]?=some x->knd.is h x.1 x.2.1/\IsTup h (bs i) #[.ref x.2.1,x.2.2])
  (h:∀(h':Heap) (tk:Nat),h'.DictOfH knd s.heap.objs.size L->(∀b ob,s.heap.get? b=some ob->h'.get? b=some ob)->Q (.ref s.heap.objs.size) { s with heap:=h',toks:=tk}) :
  wpAny (model prog w) A (call (.type "dict") [.ref l]) Q E s:=by
 refine callType_codes (Q₁:=λobj s₁=>obj=.ref s.heap.objs.size/\s₁={ s with heap:=s.heap.push { cls:=.type "dict",data:=.dict #[]}}) PySem.F.kt_called_dict (PySem.F.kt_typeCall_dict_1 _) PySem.F.entry_dict_init (kt_code_dict_new _ ⟨rfl,rfl⟩) ?_;rintro obj s₁ ⟨rfl,rfl⟩;have hnew:(s.heap.push { cls:=.type "dict",data:=.dict #[]}).DictOfH knd s.heap.objs.size []:=Ze s.heap;have hTd:Shared.TypeIs { s with heap:=s.heap.push { cls:=.type "dict",data:=.dict #[]}} (.ref s.heap.objs.size) "dict" :=⟨_,bZ _ rfl,rfl⟩;have hx1:(s.heap.push { cls:=.type "dict",data:=.dict #[]}).get? l=some o:=bL _ hx;have hTl:Shared.TypeIs { s with heap:=s.heap.push { cls:=.type "dict",data:=.dict #[]}} (.ref l) "list" :=⟨_,hx1,hc⟩;refine⟨hTd,PySem.F.args_dict_init_2 _ _,?_⟩;unfold Builtin.«dict.__init__»;refine M ?_;unfold Builtin.Dict.selfAndRest;refine M (Oa hTd ?_);show wpAny _ _ (pure (s.heap.objs.size,[Value.ref l])) _ _ _;refine ao ?_;show wpAny _ _ (Builtin.Dict.updateFrom "dict.__init__" s.heap.objs.size (.ref l) [] .none) _ _ _;unfold Builtin.Dict.updateFrom;refine M (vZ hTl ?_);rw[aG (by decide)];refine M (Zd hx1 hc hdat hd (by simp[hh]) λh1 tk1 k1=>?_);simp only[Option.isNone_none,if_true];refine M (jY ?_);have ll:l<s.heap.objs.size:=aX hx;have g1:h1.get? s.heap.objs.size=some { cls:=.type "dict",data:=.dict #[]}:=k1 _ _ (bZ _ Z);have g2:h1.get? l=some o:=k1 _ _ hx1;have dl:s.heap.objs.size<h1.objs.size:=aX g1;have hl1:h1.IsList l items:=⟨_,g2,hc,m,hdat⟩;refine M (xH (s:={ s with heap:=h1,toks:=tk1}) hl1 ?_);have hh3:A.in1.in1.handled=none:=by simp[hh]
 have ni:l≠h1.objs.size:=cu (Aj ll dl);have nf:s.heap.objs.size∉[h1.objs.size,l]:=by
  simp only[List.mem_cons,List.not_mem_nil,or_false,not_or];exact⟨cu dl,gG ll⟩
 refine ao ⟨uP wI _,?_⟩;refine fill (knd:=knd) (n:=items.size) ((Walks.list hh3 _ l ni items).toS) s.heap.objs.size nf L hn nd bs (λi v _ hp=>hv i v hp)
  (λh2=>∀b ob,s.heap.get? b=some ob->h2.get? b=some ob) (λh2 h3 kp sb b ob e=>?_) (λs2 s3 kp hm b ob e=>?_) (λh2 i x kp e=>hT h2 i x kp e) hu hz items.size 0 _ _ _ (by omega) (dI _)
  ⟨⟨_,bZ _ Z,Z,Z⟩,(hl1.push _)⟩ ?_ ?_ ?_
 ·rw[sb.2 b (cu (aX e))];exact kp b ob e
 ·refine hm.heap b ob ?_ (kp b ob e);simp only[List.mem_cons,List.not_mem_nil,or_false];exact λq=>absurd q (cu (Aj (aX e) dl))
 ·exact⟨_,#[],_,bL _ g1,⟨Z,Z,Z⟩,Z,by rw[List.take_zero];rfl,λx hx=>absurd hx (by simp),by rw[List.take_zero];exact Ah⟩
 ·exact λb ob e=>bL _ (k1 b ob (bL _ e))
 ·intro s' hm hD kp;obtain⟨h',g',d',tk',os'⟩:=s';have eg:g'=s.gens:=hm.gens;have ed:d'=s.drawn:=hm.drawn;have eo:os'=s.os:=hm.os;subst eg;subst ed;subst eo;exact⟨Z,h h' tk' hD kp⟩
end
end Dy
namespace L2
open PyProof.Rows
def a6e{c:Prop} [Decidable c] {a b:Prop} (hc:c) (h:a):if c then a else b:=by grind
def CN{c:Prop} [Decidable c] {a b:Prop} (hc:¬c) (h:b):if c then a else b:=by grind
end L2
namespace Dq
open PyProof.Rows
variable{I:Addr}{o:Obj}{es:Array DictEntry}{ep:Nat}
variable{prog:Program}{w:World}{A:Around}{E:Value->Shared->Prop}{s:Shared}
abbrev kO(d:Addr)(i n ep:Nat):Obj:={ cls:=.type "dict_keyiterator",data:=.fields #[.ref d,.int (i:Nat) 0,.int (n:Nat) 0,.int (ep:Nat) 0]}
def args_next(a:Value):argsOk "dict_keyiterator.__next__" ⟨[a],[]⟩:=by unfold argsOk;kernel_rfl
def Xl:∃l,mroOf (.type "dict_keyiterator")=pure l/\(["dict_reversekeyiterator","dict_reversevalueiterator","dict_reverseitemiterator"].any λt=>l.contains (Value.type t))=false/\(["dict_keyiterator","dict_reversekeyiterator"].any λt=>l.contains (Value.type t))=true:=⟨_,Z,by decide,by decide⟩
def Ę{Q:Bool->Shared->Prop}(hT:s.TypeIs (.ref I) "dict_keyiterator")(h:Q false s):wpAny (model prog w) A (Builtin.Dict_items.isOneOf (.ref I) ["dict_reversekeyiterator","dict_reversevalueiterator","dict_reverseitemiterator"]) Q E s:=by
 obtain⟨l,e,n,_⟩:=Xl;unfold Builtin.Dict_items.isOneOf;refine M (vZ hT ?_);rw[e];refine M (ao (ao ?_));rw[n];exact h
def Zf{Q:Bool->Shared->Prop}(hT:s.TypeIs (.ref I) "dict_keyiterator")(h:Q true s):wpAny (model prog w) A (Builtin.Dict_items.isOneOf (.ref I) ["dict_keyiterator","dict_reversekeyiterator"]) Q E s:=by
 obtain⟨l,e,_,n⟩:=Xl;unfold Builtin.Dict_items.isOneOf;refine M (vZ hT ?_);rw[e];refine M (ao (ao ?_));rw[n];exact h
def item_at{d:Addr}{i:Nat}{e:DictEntry}{Q:Option Value->Shared->Prop}(ne:d≠I)(ho:s.heap.get? d=some o)(hd:o.data=.dict es ep)(hI:s.heap.get? I=some (kO d i es.size ep))(hx:es[i]?=some e)
  (h:∀h',h'.get? I=some (kO d (i+1) es.size ep)->Heap.SameBut I s.heap h'->Q (some e.key) { s with heap:=h'}):wpAny (model prog w) A (pyNext (.ref I)) Q E s:=by
 have hT:s.TypeIs (.ref I) "dict_keyiterator" :=⟨_,hI,Z⟩;unfold pyNext;refine M (tU (oG (name:=Str.ofString "__next__") hT NK (gP NK hT Ï ?_ (args_next _))));unfold Builtin.«dict_keyiterator.__next__»;refine M (m:=Builtin.Dict_items.slot0 "__next__" _) (ao ?_);dsimp only;refine M (M (M (m:=typeNameOfWhole _) (Ny hT ?_)));rw[show(if Builtin.Dict_items.ownsTuple "dict_keyiterator" = true then 2 else 0)=0 from rfl];refine ao (M (Ek hI Z ?_));show wpAny _ _ (if(Value.ref d==Value.none)=true then _ else _) _ _ _;refine nF (L2.CN (by simp) (M (m:=Builtin.Dict_items.addrOf _) (ao (M (Ab ho hd (nF (L2.CN (by simp) (M (m:=Builtin.Dict_items.addrOf _) (ao (M (Ej ho hd (nF (L2.CN (by simp) (ao ?_))))))))))))));dsimp only;have e1:(if(i:Int)<0 then none else es[(i:Int).toNat]?)=some e:=by
  rw[aB (by omega),jO];exact hx
 rw[e1];dsimp only;refine M (M (m:=typeNameOfWhole _) (Ny hT ?_));rw[show(if Builtin.Dict_items.ownsTuple "dict_keyiterator" = true then 2 else 0)=0 from rfl];refine ao (M (Ę hT (M (iV hI (by simp) λh1 hI1 Ew=>?_))));have hT1:Shared.TypeIs { s with heap:=h1} (.ref I) "dict_keyiterator" :=⟨_,hI1,rfl⟩;refine M (ig (M (Zf hT1 (nF (L2.a6e Z (ao (ao ⟨_,Z,ao (h h1 ?_ Ew)⟩)))))));rw[hI1];simp[rawInt]
def Jw{d:Addr}{Q:Option Value->Shared->Prop}(hh:A.handled=none)(ne:d≠I)(ho:s.heap.get? d=some o)(hd:o.data=.dict es ep)(hI:s.heap.get? I=some (kO d es.size es.size ep))
  (h:∀h',Heap.ExtBut I s.heap h'->Q none { s with heap:=h'}):wpAny (model prog w) A (pyNext (.ref I)) Q E s:=by
 have hT:s.TypeIs (.ref I) "dict_keyiterator" :=⟨_,hI,Z⟩;unfold pyNext;refine M (tU (oG (name:=Str.ofString "__next__") hT NK (gP NK hT Ï ?_ (args_next _))));unfold Builtin.«dict_keyiterator.__next__»;refine M (m:=Builtin.Dict_items.slot0 "__next__" _) (ao ?_);dsimp only;refine M (M (M (m:=typeNameOfWhole _) (Ny hT ?_)));rw[show(if Builtin.Dict_items.ownsTuple "dict_keyiterator" = true then 2 else 0)=0 from rfl];refine ao (M (Ek hI Z ?_));show wpAny _ _ (if(Value.ref d==Value.none)=true then _ else _) _ _ _;refine nF (L2.CN (by simp) (M (m:=Builtin.Dict_items.addrOf _) (ao (M (Ab ho hd (nF (L2.CN (by simp) (M (m:=Builtin.Dict_items.addrOf _) (ao (M (Ej ho hd (nF (L2.CN (by simp) (ao ?_))))))))))))));dsimp only;have e1:(if(es.size:Int)<0 then none else es[(es.size:Int).toNat]?)=none:=by
  rw[aB (by omega),jO];simp
 rw[e1];dsimp only;refine M (M (m:=typeNameOfWhole _) (Ny hT ?_));rw[show(if Builtin.Dict_items.ownsTuple "dict_keyiterator" = true then 2 else 0)=0 from rfl];refine ao (M (iV hI (by simp) λh1 hI1 Ew=>M ?_));simp only[newExc,newTuple];refine M (jU ?_ (by size_fits));refine M (m:=firstArgMember _ _) (Jf (a:=Value.none) (by first|rfl|(simp only[firstArgMember];rfl)) ?_);refine jU ?_ (by size_fits);simp only[raiseNew];refine M (Ow ?_);rw[show A.in1.handled=none from hh];refine M (ao (O1 ?_));exact M (xK (U:="StopIteration") (T:="StopIteration") (b:=true) ⟨_,bZ _ Z,Z⟩ Jc (ao (h _ ((Ew.extBut.push _).push _))))
def CJ{d:Addr}{Q:Value->Shared->Prop}(hs:(d==sysModules)=false)(ho:s.heap.get? d=some o)(hx:o.ExactDict)(hd:o.data=.dict es ep)
  (h:Q (.ref s.heap.objs.size) { s with heap:=s.heap.push (kO d 0 es.size ep)}):wpAny (model prog w) A (pyIter (.ref d)) Q E s:=by
 have hT:s.TypeIs (.ref d) "dict" :=⟨_,ho,hx.1⟩;refine IK hT F.slot_dict_iter (gP F.slot_dict_iter hT F.entry_dict_iter ?_ (F.args_dict_iter_1 _));unfold Builtin.«dict.__iter__»;refine M ?_;unfold Builtin.Dict.dictSlotNone;refine M (Oa hT (M (m:=slotArgs "__iter__" 0 _) (ao (ao (M (m:=Builtin.Dict.addrOf _) (ao (M ?_)))))));unfold Builtin.Dict.showsAll;refine nF (L2.CN (by grind) (ao (M (Ab ho hd (M (Ej ho hd (M ?_)))))));unfold newFields;exact jU (ao ⟨_,Z,"dict_keyiterator",_,⟨_,bZ _ Z,Z⟩,F.slot_dict_keyiterator_next.lookup,h⟩)
end Dq
namespace L2
open PyProof.Rows
section
variable{X:Cx}{Y:List (Addr×Obj)}{σ:St}{H:Hp}{s:Shared}{d:Addr}{O:List (Key×V)}
def bH.VJ{o o':HO}(I:bH X Y σ H s)(e:H d=some o)(nt:∀xs,o≠.tup xs)(no:∀y,o≠.own y)(nb:∀ps,o≠.tbl ps)(nf:∀b u,X.H₀ d≠some (.kj b u))(q:fZ X.prog X.w H s.heap d o'):bH X Y σ (cO H d o') s:=by
 have ne:∀b,H b=none->b≠d:=λb n z=>by rw[z,e]at n;cases n
 have nn:∀b,H b=none->cO H d o' b=none:=λb n=>by rw[aZ (ne b n)];exact n
 have ho:∀b c,H b=some (.own c)->cO H d o' b=some (.own c):=λb c r=>by
  rw[aZ]
  ·exact r
  ·intro z;rw[z,e]at r;exact no c (gh r)
 have ht:∀b xs,H b=some (.tup xs)->cO H d o' b=some (.tup xs):=λb xs r=>by
  rw[aZ]
  ·exact r
  ·intro z;rw[z,e]at r;exact nt xs (gh r)
 refine⟨I.ok,I.os,I.bare,⟨I.base.keep,I.base.slot,λb ob q1 q2 q3=>nn b (I.base.free b ob q1 q2 q3),I.base.there,λb xs r=>ht b xs (I.base.tups b xs r),λb ob u r=>?_,λb ps r=>?_⟩,I.loc,I.cell,nn _ I.free,λx c r=>nn c (I.tW x c r),λp hp=>?_,λb u r=>?_,I.len⟩
 ·rw[aZ]
  ·exact I.base.Jj b ob u r
  ·intro z;rw[z]at r;exact nf ob u r
 ·obtain⟨m,r1⟩:=I.base.O6 b ps r;refine⟨m,?_⟩;rw[aZ]
  ·exact r1
  ·intro z;rw[z,e]at r1;exact nb _ (gh r1)
 ·obtain⟨p1,p2,p3⟩:=I.pin p hp;exact⟨p1,nn _ p2,p3⟩
 ·by_cases c:b=d
  ·subst c;rw[eG]at r;cases r;exact q.stay (λ_ _ _ z=>z) (λc r=>ho c b r) ht
  ·rw[aZ c]at r;exact(I.hok b u r).stay (λ_ _ _ z=>z) (λc r=>ho c b r) ht
def bH.Xm{o:HO}(I:bH X Y σ H s)(e:H d=some o)(nf:∀b u,o≠.kj b u):∀b u,X.H₀ d≠some (.kj b u):=λb u z=>by
 have:=I.base.Jj d b u z;grind
def bH.Qf{o:Obj}{u:HO}(I:bH X Y σ H s)(nf:∀b u,X.H₀ d≠some (.kj b u))(e:H d=some (.kj o u)):bH X Y σ (cO H d u) s:=by
 obtain⟨_,q⟩:=I.hok d _ e;exact I.VJ e (λ_ z=>by cases z) (λ_ z=>by cases z) (λ_ z=>by cases z) nf q
end
end L2
namespace L2
open PyProof.Rows Bg
def Itp(o:Obj)(d:Addr)(u:HO)(as:List Addr):It :=
 ⟨λi H=>H d=some (.kj o u)/\i<as.length,λi H x H'=>H'=H/\(as.map V.ref)[i]?=some x,λi H=>H d=some (.kj o u)/\i=as.length⟩
def VL{P:Program}{w:World}{K:aK}{tg:Expr}{o:Obj}{u:HO}(d it:Addr){as:List Addr}{es:Array DictEntry}{ep:Nat}(hd:o.data=.dict es ep)(ek:es.toList.map (·.key)=as.map Value.ref) :
  Turn P w K tg (Itp o d u as) [it] it (λi h=>h.get? it=some (Dq.kO d i es.size ep)) where
 mem:=by simp
 obj:=λi h st b hb=>by
  grind
 keep:=λi h h' st k=>k it (by simp) _ st
 item:=by
  intro X hP hw hK hc i Y s σ H E I hf st hg
  subst hP hw hK
  obtain⟨hq,hi⟩:=hg
  obtain⟨hd1,_⟩:=I.hok d _ hq
  obtain⟨f0,f1,f2,f3,f4,f5⟩:=hf it (by simp)
  have ne:d≠it:=λz=>by grind
  have lz:es.size=as.length:=by have:=congrArg List.length ek;grind
  have he:es[i]?=some (es[i]'(by omega)):=xg (by omega)
  have a2T:(es[i]'(by omega)).key=Value.ref as[i]:=by
   have:=congrArg (λl=>l[i]?) ek
   grind
  refine Dq.item_at ne hd1 hd st he λh' hI sb=>?_
  have I1:bH X Y σ H { s with heap:=h'}:=I.turned (t':=s.toks) (λb o hb e=>(sb.2 b hb).trans e) f0 f1 f3 f4 f5
  exact⟨_,Z,WD (s:={ s with heap:=h'}) hI rfl rfl (by decide) ⟨.ref as[i],H,I1,a2T,⟨rfl,by grind⟩,hI,λb hb=>(hf b hb).1⟩⟩
 done:=by
  intro X hP hw hK hc i Y s σ H E I hf st hg
  subst hP hw hK
  obtain⟨hq,hx⟩:=hg
  obtain⟨hd1,_⟩:=I.hok d _ hq
  obtain⟨f0,f1,f2,f3,f4,f5⟩:=hf it (by simp)
  have ne:d≠it:=λz=>by grind
  have lz:es.size=as.length:=by have:=congrArg List.length ek;grind
  rw[hx,<-lz]at st
  exact Dq.Jw (I.ok.hd hc) ne hd1 hd st λh' eb=>⟨Z,I.turned (t':=s.toks) (λb o hb e=>eb b o hb e) f0 f1 f3 f4 f5⟩
 self:=λ_ _ _ _ _ st h=>wpAny_pyIter_keyiter ⟨_,st,Z,Z⟩ h
end L2
namespace L2
open PyProof.Rows Bg
section
variable{X:Cx}
inductive a6f(x:V)(y:V)(H:Hp)(Q:VK):Prop
 |mk (b a:Addr) (k:List Key) (O:List (List Key×V)) (_:x=.ref b) (_:y=.ref a) (_:H b=some (.tup (k.map kV))) (_:H a=some (.dT O)) (_:Q (.bl (iJ O k).isSome) H)
inductive a0v(x:V)(y:V)(H:Hp)(Q:VK):Prop
 |mk (b a:Addr) (k:List Key) (O:List (List Key×V)) (_:x=.ref b) (_:y=.ref a) (_:H b=some (.tup (k.map kV))) (_:H a=some (.dT O)) (_:Q (.bl (!(iJ O k).isSome)) H)
def a2U(hu:X.A.units+1<cLine):uE X (compareOp .In) a6f:=by
 intro Y s σ H x y v u Q I rx ry h;obtain⟨b,a,t,ts,rfl,rfl,hb,e,q⟩:=h;obtain rfl:u=Value.ref a:=ry;exact a6d hu I (GF.t e hb) rx λs3 I3=>⟨.bl _,H,I3,Z,q⟩
def Zg(hu:X.A.units+1<cLine):uE X (compareOp .NotIn) a0v:=by
 intro Y s σ H x y v u Q I rx ry h;obtain⟨b,a,t,ts,rfl,rfl,hb,e,q⟩:=h;obtain rfl:u=Value.ref a:=ry;exact a0r hu I (GF.t e hb) rx λs3 I3=>⟨.bl _,H,I3,Z,q⟩
inductive a4H(o:V)(i:V)(v:V)(H:Hp)(Q:Hp->Prop):Prop
 |mk (a b:Addr) (k:List Key) (O:List (List Key×V)) (_:o=.ref a) (_:i=.ref b) (_:H b=some (.tup (k.map kV))) (_:H a=some (.dT O)) (_:O.length<=5000) (_:∀H',wF H a (.dT (putK O k v)) H'->Q H')
def Mu(hu:X.A.units+1<cLine):Β X a4H:=by
 intro Y s σ H o i v ov iv u Q I ro ri rv h;obtain⟨a,b,t,ts,rfl,rfl,hb,e,z,q⟩:=h;obtain rfl:ov=Value.ref a:=ro;exact Zb hu I (a0q.t e hb (Nat.lt_of_le_of_lt z (by decide))) ri rv λs' I'=>⟨_,I',q _ wF.oF⟩
def a2V{P:Program}{w:World}{H':Hp}{h':Heap}{a:Addr}{O:List (List Key×V)}{xs:List (List Key×Addr×Value)}(z:O.length<=sizeLine)(hd:(a==sysModules)=false)(rel:KT H' O xs)(dd:h'.DictOfH (tupleKind (fU P w)) a xs) :
  fZ P w H' h' a (.dT O):=by
 obtain⟨o,es,ep,h1,h2,h3,h4,_,h5⟩:=dd;exact⟨z,hd,xs,rel,o,es,ep,h1,h2,h3,h4,h5⟩
end
section
variable{X:Cx}{tg:Expr}
def a2W(t:TE):TE:=λσ H Q=>t σ H λv H1=>∃d o O kvs',H d=some (.dT kvs')/\H1 d=some (.kj o (.dT O))/\Q v (cO H1 d (.dT O))
def ę{e:Expr}{t:TE}(h:PE X e t):PE X e (a2W t):=by
 intro Y s σ H Q I q;refine jK (h Y s σ H _ I q) λv s1 ⟨x,H1,I1,r1,d,o,ts,ts',e0,e1,q1⟩=>?_;exact⟨x,_,I1.Qf (I.Xm e0 λ_ _ z=>by cases z) e1,r1,q1⟩
def a0w(t:TS):TS:=λD σ H=>t { D with nx:=λσ1 H1=>∃d o O kvs',H d=some (.dT kvs')/\H1 d=some (.kj o (.dT O))/\D.nx σ1 (cO H1 d (.dT O))} σ H
def JB{st:Stmt}{t:TS}(h:PS X st t):PS X st (a0w t):=by
 intro Y s σ H D I q;refine jK (h Y s σ H _ I q) λf s1 z=>?_;cases f with
 |next =>
  obtain⟨σ1,H1,I1,d,o,O,kvs',e0,e1,q1⟩:=z;exact⟨σ1,_,I1.Qf (I.Xm e0 λ_ _ z=>by cases z) e1,q1⟩
 |ret u=>exact z
 |brk=>exact z
 |cont=>exact z
inductive PrL(H:Hp)(v:V)(kv:List Key×V):Prop
 |mk (p kp:_) (_:v=.ref p) (_:H p=some (.tup [.ref kp,kv.2])) (_:H kp=some (.tup (kv.1.map kV)))
inductive a2X(K:aK)(xs:List V)(H:Hp)(Q:VK):Prop
 |mk (l:Addr) (vs:List V) (O:List (List Key×V)) (_:xs=[.ref l]) (_:H l=some (.lst vs)) (_:Paired (PrL H) vs O) (_:(O.map (·.1)).Nodup) (_:∀p H',gV H p (.dT O) H'->Q (.ref p) H')
def a2Y{P:Program}{w:World}{H:Hp}{h:Heap}(hok:zA P w H h):∀{vs:List V}{O:List (List Key×V)}{cg:List Value},Paired (PrL H) vs O->cM vs cg->
  ∃(L:List (List Key×Addr×Value)) (bs:List Addr),cg=bs.map Value.ref/\KT H O L/\Paired (λ(b:Addr) (x:List Key×Addr×Value)=>IsTup h b #[.ref x.2.1,x.2.2]) bs L:=by
 intro vs O cg hp
 induction hp generalizing cg with
 |nil=>intro hv;cases hv;exact⟨[],[],Z,.nil,.nil⟩
 | @cons v kv vs O a t ih =>
  intro hv;cases hv with
  | @cons _ u _ us ru rus =>
   obtain⟨L,bs,e,kt,pt⟩:=ih rus;obtain⟨p,kp,rfl,hp,hk⟩:=a;obtain rfl:u=Value.ref p:=ru;obtain⟨_,its2,r2,tp⟩:=(show fZ P w H h p (.tup [.ref kp,kv.2])from hok p _ hp);cases r2 with
   | @cons _ u1 _ us1 q1 q2 =>
    obtain rfl:u1=Value.ref kp:=q1;cases q2 with
    | @cons _ u2 _ us2 q3 q4 =>
     cases q4;exact⟨(kv.1,kp,u2)::L,p::bs,by rw[e];rfl,.cons ⟨Z,hk,q3⟩ kt,.cons tp pt⟩
def VN{K:aK}(ek:X.K=K)(cm:X.calm=true)(hu:X.A.units+2<cLine):jN X (.type "dict") (a2X K):=by
 subst ek;intro Y s σ H xs us Q I r h;obtain⟨l,vs,O,rfl,hL,pr,nd,q⟩:=h;obtain⟨u,rfl,rx⟩:=vals1 r;cases rx;obtain⟨z,cg,n,rv,ol⟩:=(show fZ X.prog X.w H s.heap l (.lst vs)from I.hok l _ hL);obtain⟨L,bs,rfl,kt,pt⟩:=a2Y I.hok pr rv;have ln:L.length=bs.length:=(aY pt).symm;have lv:vs.length=bs.length:=by have:=rv.length;grind
 have lk:O.length=vs.length:=(aY pr).symm;have ek:O.map (·.1)=L.map (·.1):=by
  clear nd pr pt ln lk q
  induction kt with
  |nil=>rfl
  |cons a b ih=>grind
 have hr:(tupleKind (fU X.prog X.w)).room X.A.in1.in1:=by
  show X.A.in1.in1.units<cLine;grind
 refine Dy.a0u (knd:=tupleKind (fU X.prog X.w)) (L:=L) (bs:=λi=>bs.getD i 0) (I.ok.hd cm) hr ol Z Z Z (by grind) (by grind) (by grind) (λi v hv=>?_) (λh i x kp hx=>?_) λh' tk dd kp=>?_
 ·grind
 ·constructor
  ·obtain⟨kv,hkv,a1,a2,a3⟩:=fu kt hx;obtain⟨o,cg,n,h1,h2,h3,h4⟩:=Ez I.hok a2;rw[<-a1];exact⟨o,cg,n,kp _ _ h1,h2,h3,h4⟩
  ·obtain⟨b,hb,o,h1,h2⟩:=fu pt hx;rw[gB,hb];exact⟨o,kp _ _ h1,h2⟩
 ·have hf:H s.heap.objs.size=none:=I.hok.fresh (aO _);have hs:(s.heap.objs.size==sysModules)=false:=xu.mpr (Ne.symm (cu I.big));refine⟨.ref s.heap.objs.size,_,I.laid (t':=tk) (o:=.dT O) (λb o e=>kp b o e) (aO _) (a2V (by omega) hs (kt.keeps λc ys ec=>?_) dd),Z,q _ _ (gV.oF hf)⟩;rw[aZ (dU ec hf)];exact ec
end
end L2
namespace L2
open PyProof.Rows
def zf{X:Cx}{Y:List (Addr×Obj)}{σ:St}{H:Hp}{s:Shared}(I:bH X Y σ H s){h2:Heap}(ch:List Addr)(fk:∀b∈ch,GC X Y H b)
  (kp:∀b o,b∉ch->s.heap.get? b=some o->h2.get? b=some o):bH X Y σ H { s with heap:=h2}:=by
 refine I.step (t':=s.toks) (g':=s.gens) (d':=s.drawn) (H':=H) (ch:=ch) (λb hb=>?_) (λb o _ _ hc q _=>kp b o hc q) (λb o _ _ hc q _=>⟨o.slots,kp b o hc q⟩) (λ_ _ _ _ n=>n)
  (λb o hc q=>⟨o,kp b o hc q⟩) (λ_ _ q=>q) (λ_ _ _ q=>q) (λb ps q=>⟨#[],by rw[q];simp⟩) (λm hm=>?_) (λb o q=>?_) I.bare
 ·obtain⟨f0,f1,f2,f3,f4,f5⟩:=fk b hb;exact⟨f3,f1,f4,f5⟩
 ·obtain⟨o,es,ep,q,r⟩:=hm;exact⟨o,es,ep,kp _ o (λz=>(fk _ z).2.1 Z) q,r⟩
 ·have nb:∀c v,H c=some v->c∉ch:=λc v q z=>dU q (fk c z).1 rfl;refine(I.hok b o q).stay (λc v hcc r=>kp c v ?_ r) (λ_ q=>q) λ_ _ q=>q;grind
section
variable{X:Cx}{K:aK}
def boot_zip:bootBuiltins "zip" = some (.type "zip"):=by decide
end
end L2
namespace L2
open PySem.Calls PyProof.Rows
structure a2Z(K:aK)(x qual:Str)(st:Stmt)(f:Addr)(fd:FuncData):Prop where
 ex:∃(oc:Value) (od:Option Addr) (dV kV doc pm:Value) (an:Option Addr) (cZ ct:Value) (osl:Array (Option Value)),
  fd=PySem.W.fnOf x qual (dR st) (dB st) (aF st) dV kV doc pm an cZ ct/\K.lookup f=some ⟨oc,od,.func fd,osl⟩/\PySem.W.codeIn K cZ qual=true
 kp:PySem.W.keepIn K (.ref f)=true
section
variable{P:Program}{w:World}{K:aK}{mg:Str->Option Value}{base:Heap}{x qual:Str}{st:Stmt}{f:Addr}{fd:FuncData}{N ps:List Str}{k:Nat}{sp:Sp}
def a2Z.ok(F:a2Z K x qual st f fd)(S:bD N ps (aF st))(len:∀vs H Q E,sp vs H Q E->vs.length=ps.length)
  (hb:∀(cZ:Value) (A:Around) (outer:List Env) (s:Shared) (H:Hp) (vs:List V) (Q:VK) (E:XK),sV k (A.deeper (envOfC qual (aF st) s.heap.objs.size f cZ))->sp vs H Q E->
   ∃t,S7 (Vf gj P w K mg base N qual (aF st) f cZ A outer s H E).nox (dB st) t/\t { nx:=λ_ H'=>Q .non H',rt:=Q} (start N vs) H):bh P w K mg base gj (k+1) f fd ps sp:=by
 obtain⟨_,_,_,_,_,_,_,cZ,_,_,rfl,lk,hcd⟩:=F.ex;exact a1B lk hcd S len λA outer s H vs Q E hr hsp=>(hb cZ A outer s H vs Q E hr hsp).imp λt h=>⟨h.1.nox,h.2⟩
end
structure DmD(K:aK)(C:Addr)(m qual:Str)(st:Stmt)(ps:List Str) where
 f:Addr
 fd:FuncData
 F:a2Z K m qual st f fd
 b:Binds K fd ps []
 b1:Binds K fd ps [.none]
 mt:Meth K C m f
def VP{K:aK}{C:Addr}{m qual:Str}{st:Stmt}{ps:List Str}{f T:Addr}{oc oT:Value}{od an dT:Option Addr}{osl sT:Array (Option Value)}{kV doc pm cZ ct:Value}{nT:Nat}
  (a:PySem.W.findIn K (.ref C) m=some (some (.ref f))) (i:PySem.W.isFn K (.ref f)=true)
  (l:K.lookup f=some ⟨oc,od,.func (PySem.W.fnOf m qual (dR st) (dB st) (aF st) (.ref T) kV doc pm an cZ ct),osl⟩) (c:PySem.W.codeIn K cZ qual=true) (k:PySem.W.keepIn K (.ref f)=true)
  (lT:K.lookup T=some ⟨oT,dT,.seq #[.none] nT,sT⟩)
  (h:∀(kV doc pm:Value) (an:Option Addr) (cZ ct:Value) (us:List Value),us.length=ps.length->∃g,bindArgs (PySem.W.fnOf m qual (dR st) (dB st) (aF st) (.ref T) kV doc pm an cZ ct) ⟨us,[]⟩=seqItems? (.ref T) >>= g/\g (some #[.none])=pure (ps.zip us))
  (h1:∀(kV doc pm:Value) (an:Option Addr) (cZ ct:Value) (us:List Value),us.length+1=ps.length->∃g,bindArgs (PySem.W.fnOf m qual (dR st) (dB st) (aF st) (.ref T) kV doc pm an cZ ct) ⟨us,[]⟩=seqItems? (.ref T) >>= g/\g (some #[.none])=pure (ps.zip (us++[.none]))):DmD K C m qual st ps :=
 {
  f:=f,fd:=_,F:=⟨⟨_,_,_,_,_,_,_,_,_,_,Z,l,c⟩,k⟩,
  b:=λs us X hl=>by
   rw[mD]at hl ⊢
   obtain⟨g,e1,e2⟩:=h kV doc pm an cZ ct us hl
   exact BindsTo.of_defaults Z (X _ _ lT) Z e1 e2,
  b1:=λs us X hl=>by
   obtain⟨g,e1,e2⟩:=h1 kV doc pm an cZ ct us (by rw[bW]at hl;exact hl)
   exact BindsTo.of_defaults Z (X _ _ lT) Z e1 e2,
  mt:=⟨a,i,k⟩}
end L2
namespace Dy
open PyProof.Rows
section
variable{prog:Program}{w:World}{A:Around}{E:Value->Shared->Prop}{s:Shared}{κ:Type} [DecidableEq κ] {knd:HeapKind prog w κ}
def Rt{d a:Addr}{xs:List (κ×Addr×Value)}{k:κ}{v:Value}{Q:Value->Shared->Prop}(hu:knd.room A)(hkey:knd.is s.heap k a)(hm:s.heap.DictOfH knd d xs)(hz:xs.length<=sizeLine)
  (old:∀p tk,atKey xs k=some p->Q p.2 { s with toks:=tk}) (new:∀h' tk,atKey xs k=none->h'.DictOfH knd d (xs++[(k,a,v)])->Heap.SameBut d s.heap h'->Q v { s with heap:=h',toks:=tk}) :
  wpAny (model prog w) A (dictSetDefault d (.ref a) v) Q E s:=by
 obtain⟨o,es,ep,ho,hc,hd,he,his,hn⟩:=hm;have hes:es.size<=sizeLine:=by have e:=size_of_entries he;omega
 unfold dictSetDefault;try with_reducible refine ig ?_
 refine M (knd.pyHash hu hkey ?_);refine M (wpAny_dictFind_heap (s:={ s with toks:=s.toks+knd.draws k}) hu hkey ho hd he his hn ?_ ?_)
 ·intro hno;have none_:=atKey_none_of_get hno;have hnot:k∉xs.map (·.1):=not_mem_keys_of_get hno;refine M (jY (M (wpAny_updateDictKeys (hz:=hes) (s:={ s with toks:=s.toks+knd.draws k}) ho hd (ao (new _ _ none_ ⟨_,_,ep+1,zR _ ho (Obj.isFreed_of_dict (Obj.data_mapDictKeys hd _)),hc.mapDictKeys _,Obj.data_mapDictKeys hd _,?_,?_,?_⟩ (rT ..))))))
  ·simp[he,entryOfKey]
  ·intro x hx;rcases b7.mp hx with hx|hx
   ·exact knd.keeps (his x hx) ho hd (rT ..)
   ·rw[bw.mp hx];exact knd.keeps hkey ho hd (rT ..)
  ·rw[dF];exact vX.mpr ⟨hn,zQ _ _,λx hx y hy e=>hnot (by rw[<-show y=k from bw.mp hy,<-e];exact hx)⟩
 ·intro j q hj;have hej:es[j]?=some (entryOfKey knd (k,q)):=by rw[entry_at he j,hj];rfl
  refine M (Ab (s:={ s with toks:=s.toks+knd.draws k}) ho hd ?_);rw[hej];exact M (jY (ao (old q _ (atKey_of_get hn hj))))
def EY{d a:Addr}{k:κ}{v:Value}(hs:(d==sysModules)=false):MeetsIn prog w (Builtin.«dict.setdefault» ⟨[.ref d,.ref a,v],[]⟩) (λA R s=>knd.room A.in1/\∃xs,knd.is s.heap k a/\s.heap.DictOfH knd d xs/\xs.length<=sizeLine/\
   (∀p tk,atKey xs k=some p->R (.ok (.ret p.2)) { s with toks:=tk})/\∀h' tk,atKey xs k=none->h'.DictOfH knd d (xs++[(k,a,v)])->Heap.SameBut d s.heap h'->R (.ok (.ret v)) { s with heap:=h',toks:=tk}) :=
 .of_wp λA R s ⟨hu,xs,hkey,hm,hz,old,new⟩=>by
  obtain⟨o,es,ep,ho,hc,hd,he,his,hn⟩:=id hm;have hT:s.TypeIs (.ref d) "dict" :=⟨_,ho,hc.1⟩;unfold Builtin.«dict.setdefault»;refine M ?_;unfold Builtin.Dict.keyAndDefault;refine M (Oa hT ?_);show wpAny _ _ (pure (d,Value.ref a,some v)) _ _ s;refine ao ?_;dsimp only;rw[hs];simp only[Bool.false_eq_true,if_false];exact M (Rt hu hkey hm hz (λp tk e=>ao ⟨_,Z,old p tk e⟩) λh' tk e hD sb=>ao ⟨_,Z,new h' tk e hD sb⟩)
end
end Dy
namespace Dk
open PyProof.Rows
variable{b:Bool}
def a4I(b:Bool)(v:Value):Bool:=match v with
 |.bool c=>c==b
 |_=>false
def qC{v:Value}(h:a4I b v=true):v=.bool b:=by
 cases v with
 |bool c=>exact congrArg Value.bool (eq_of_beq h)
 |_=>cases h
section
variable{prog:Program}{w:World}{A:Around}{E:Value->Shared->Prop}{s:Shared}
def Zh{Q : Int → Shared → Prop}(h : Q (if b then 1 else 0) { s with toks := s.toks + 1 }) : wpAny (model prog w) A (pyHash (.bool b)) Q E s := by
  unfold pyHash;have hv : [Value.bool b].any Value.onHeap = false := rfl;refine M ?_;rw [cRoomFor, aB (by grind)]; refine ao ?_;refine M (Ot (Eh s b) F.slot_bool_hash.lookup ?_);show wpAny _ _ (if (some (Value.builtin "int.__hash__") == some Value.none) = true then _ else _) Q E s;rw [aB (by grind)];refine M (Ot (Eh s b) F.slot_bool_hash.lookup ?_);show wpAny _ _ (callSpecialIfBoundUnlessNone? (.bool b) "__hash__" _ >>= _) Q E s;cases b
  · refine M (Ê (Eh s false) Om
      (gP Om (Eh s false) entry_int_hash
        (show wpAny _ _ (do ret (← mkInt 0)) _ _ s from wpAny_ret_mkInt ?_) (args_int_hash _)))
    exact ao h
  · refine M (Ê (Eh s true) Om
      (gP Om (Eh s true) entry_int_hash
        (show wpAny _ _ (do ret (← mkInt 1)) _ _ s from wpAny_ret_mkInt ?_) (args_int_hash _)))
    exact ao h
def Ě{a:Bool}{Q:Bool->Shared->Prop}(h:Q (decide (a=b)) s):wpAny (model prog w) A (eqBool (.bool a) (.bool b)) Q E s:=by
 unfold eqBool;show wpAny _ _ (if(Value.bool a==Value.bool b)=true then _ else _) Q E s;by_cases hab:(Value.bool a==Value.bool b)=true
 ·rw[aG hab];have e:a=b:=by grind
  subst e;exact M (jY (ao (by simpa using h)))
 ·rw[aB hab];refine M (eq_bool (zY ?_));grind
end
def JC(prog:Program)(w:World):KeyKind prog w Bool where
 is:=a4I
 hash:=λb=>if b then 1 else 0
 inj:=λv a b h h'=>by
  have e:=qC h
  have e':=qC h'
  rw[e]at e'
  injection e'
 byValue:=λk v h=>by rw[qC h];rfl
 pyHash:=λhv h=>by rw[qC hv];exact Zh h
 eqBool:=λhu hv h=>by rw[qC hu,qC hv];exact Ě h
 «strs» := λk x t v h=>by cases h
end Dk
namespace L2
open PyProof.Rows Bg
section
variable{P:Program}{w:World}{κ:Type} [DecidableEq κ]
inductive Zi(knd:KeyKind P w κ)(H:Hp)(b:Addr)(k:List κ):Prop
 |mk (vs:_) (_:H b=some (.tup vs)) (_:Paired (λv x=>∀u,cP v u->knd.is x u=true) vs k)
def Zi.same{knd:KeyKind P w κ}{H H':Hp}{b:Addr}{k:List κ}(e:∀c ys,H c=some (.tup ys)->H' c=some (.tup ys))(h:Zi knd H b k):Zi knd H' b k:=by
 obtain⟨vs,h1,h2⟩:=h;exact⟨vs,e _ _ h1,h2⟩
def ě{knd:KeyKind P w κ}:∀{vs:List V}{k:List κ}{us:List Value},Paired (λv x=>∀u,cP v u->knd.is x u=true) vs k->cM vs us->ItemsAre knd k us
 |_,_,_,.nil,.nil=>.nil
 |_,_,_,.cons h t,.cons r s=>.cons (h _ r) (ě t s)
def Qg{knd:KeyKind P w κ}{H:Hp}{h:Heap}{b:Addr}{k:List κ}(ok:zA P w H h)(e:Zi knd H b k):(tupleKind knd).is h k b:=by
 obtain⟨vs,e1,e2⟩:=e;obtain⟨_,cg,r,o,h1,h2,n,h3⟩:=(show fZ P w H h b (.tup vs)from ok b _ e1);exact⟨o,cg.toArray,n,h1,h2,h3,by simpa using ě e2 r⟩
def Ĝ(knd:KeyKind P w κ)(a:Addr)(xs:List (List κ×Addr×Value)):Heap->Prop:=λh=>(a==sysModules)=false/\∃o es ep,h.get? a=some o/\o.ExactDict/\o.data=.dict es ep/\es.toList=xs.map (entryOfKey (tupleKind knd))/\(xs.map (·.1)).Nodup
def DX(knd:KeyKind P w κ)(H:Hp)(a:Addr)(O:List (List κ×V)):Prop:=O.length<=5000/\((O=[]/\H a=some (.dT []))\/∃xs:List (List κ×Addr×Value),H a=some (.ext (Ĝ knd a xs))/\Paired (λp q=>p.1=q.1/\Zi knd H q.2.1 p.1/\cP p.2 q.2.2) O xs)
def DX.same{knd:KeyKind P w κ}{H H':Hp}{a:Addr}{O:List (List κ×V)}(e:aH H H')(h:DX knd H a O):DX knd H' a O:=by
 obtain⟨z,h|⟨xs,h1,h2⟩⟩:=h
 ·exact⟨z,.inl ⟨h.1,e _ _ h.2⟩⟩
 ·exact⟨z,.inr ⟨xs,e _ _ h1,Paired.bU h2 λ_ _ ⟨a,b,c⟩=>⟨a,b.same λ_ _ q=>e _ _ q,c⟩⟩⟩
def DX.a1T{knd:KeyKind P w κ}{H:Hp}{a:Addr}{O:List (List κ×V)}(h:DX knd H a O){ys:List V}:H a≠some (.tup ys):=λe=>by
 obtain⟨z,h|⟨xs,h1,h2⟩⟩:=h
 ·grind
 grind
def DX.new{knd:KeyKind P w κ}{H:Hp}{a:Addr}(h:H a=some (.dT [])):DX knd H a []:=⟨dI _,.inl ⟨Z,h⟩⟩
def ĝ{knd:KeyKind P w κ}{H:Hp}{h:Heap}{a:Addr}{O:List (List κ×V)}(ok:zA P w H h)(d:DX knd H a O):(a==sysModules)=false/\∃xs,Paired (λp q=>p.1=q.1/\Zi knd H q.2.1 p.1/\cP p.2 q.2.2) O xs/\h.DictOfH (tupleKind knd) a xs:=by
 obtain⟨z,⟨rfl,h1⟩|⟨xs,h1,h2⟩⟩:=d
 ·obtain⟨_,hs,xs,r,o,es,ep,e1,e2,e3,e4,e5⟩:=(show fZ P w H h a (.dT [])from ok a _ h1);cases r;exact⟨hs,[],.nil,o,es,ep,e1,e2,e3,e4,(λx hx=>absurd hx d7),Ah⟩
 ·obtain⟨⟨hs,o,es,ep,e1,e2,e3,e4,e5⟩,_⟩:=(show fZ P w H h a (.ext (Ĝ knd a xs))from ok a _ h1);refine⟨hs,xs,h2,o,es,ep,e1,e2,e3,e4,?_,e5⟩;have all:∀{l:List (List κ×V)}{m:List (List κ×Addr×Value)},Paired (λp q=>p.1=q.1/\Zi knd H q.2.1 p.1/\cP p.2 q.2.2) l m->∀x∈m,(tupleKind knd).is h x.1 x.2.1:=by
   intro l m q
   induction q with
   |nil=>grind
   |cons z _ ih =>
    intro x hx;rcases cH.mp hx with rfl|hx
    ·rw[<-z.1];exact Qg ok z.2.1
    ·exact ih x hx
  exact all h2
def a0x{knd:KeyKind P w κ}{H':Hp}{h':Heap}{a:Addr}{xs:List (List κ×Addr×Value)}(hs:(a==sysModules)=false)(dd:h'.DictOfH (tupleKind knd) a xs):fZ P w H' h' a (.ext (Ĝ knd a xs)):=by
 obtain⟨o,es,ep,h1,h2,h3,h4,_,h5⟩:=dd;exact⟨⟨hs,o,es,ep,h1,h2,h3,h4,h5⟩,⟨o,h1⟩,λg1 g2 ⟨hs,o,es,ep,h1,h2,h3,h4,h5⟩ k=>⟨hs,o,es,ep,k _ h1,h2,h3,h4,h5⟩⟩
def a4J{knd:KeyKind P w κ}{H:Hp}(k:List κ){O:List (List κ×V)}{xs:List (List κ×Addr×Value)}(h:Paired (λp q=>p.1=q.1/\Zi knd H q.2.1 p.1/\cP p.2 q.2.2) O xs):tV (iJ O k) ((atKey xs k).map (·.2)):=by
 induction h with
 |nil=>exact nD
 | @cons p q O xs h t ih =>
  obtain⟨k1,v1⟩:=p;obtain⟨k2,a2,u2⟩:=q;obtain⟨e,_,r⟩:=h;have e:k1=k2:=e;subst e;unfold iJ atKey at ih ⊢;by_cases c:k1=k
  ·rw[Io (by grind),Io (by grind)];exact r
  grind
end
section
variable{X:Cx}{κ:Type} [DecidableEq κ]
inductive Ğ{P:Program}{w:World}(knd:KeyKind P w κ)(x:V)(vs:List V)(H:Hp)(Q:VK):Prop
 |mk (a b:Addr) (k:List κ) (O:List (List κ×V)) (v:V) (_:x=.ref a) (_:vs=[.ref b,v]) (_:Zi knd H b k) (_:DX knd H a O) (_:O.length<=4000) (_:(∀y,iJ O k=some y->Q y H)) (_:(iJ O k=none->∀H',(∀c,c≠a->H' c=H c)->DX knd H' a (O++[(k,v)])->Q v H'))
def JD(knd:KeyKind X.prog X.w κ)(hu:X.A.units+1<cLine):Å X "dict.setdefault" (Ğ knd):=by
 intro Y s σ H x xs v us Q I rx rs h;obtain⟨a,b,k,O,y,rfl,rfl,hb,e,l5,old,new⟩:=h;obtain rfl:v=Value.ref a:=rx;obtain⟨u,u2,rfl,ru,ru2⟩:=vals2 rs;obtain rfl:u=Value.ref b:=ru;obtain⟨hd,xs,rel,dd⟩:=ĝ I.hok e;have lx:xs.length=O.length:=(aY rel).symm;have rv:=a4J k rel;have hr:(tupleKind knd).room X.A.in1:=Ef hu;refine call_meetsIn PySem.F.slot_dict_setdefault dd.typeIs PySem.F.entry_dict_setdefault (PySem.F.args_dict_setdefault_3 _ _ _) (Dy.EY (knd:=tupleKind knd) (k:=k) hd) ⟨hr,xs,Qg I.hok hb,dd,by rw[jD];omega,λp tk ep=>?_,λh' tk en dd' hs=>?_⟩
 ·have ev:(atKey xs k).map (·.2)=some p.2:=by rw[ep];rfl
  cases c:iJ O k with
  |none =>
   rw[c]at rv;have:=tV.none_of rv;grind
  |some y0 =>
   rw[c]at rv;obtain⟨w',hw,YF⟩:=tV.some_of rv;rw[ev]at hw;cases hw;exact⟨y0,H,I.tok tk,YF,old y0 c⟩
 ·have he:∃q,h'.get? a=some q:=let⟨q,_,_,hq,_⟩:=dd';⟨q,hq⟩
  have cn:iJ O k=none:=by
   cases c:iJ O k with
   |none=>rfl
   |some y0 =>
    rw[c]at rv;obtain⟨w',hw,_⟩:=tV.some_of rv;grind
  have mu:Mut (H a):=by
   obtain⟨_,h|⟨xs,h1,_⟩⟩:=e
   ·rw[h.2];exact nD
   ·rw[h1];exact nD
  have nt:=λys=>e.a1T (ys:=ys);have keep:∀c ys,H c=some (.tup ys)->cO H a (.ext (Ĝ knd a (xs++[(k,b,u2)]))) c=some (.tup ys):=λc ys hc=>by
   rw[aZ (λz=>nt ys (by grind))];exact hc
  refine⟨y,_,Qa I mu hs he (a0x hd dd'),ru2,new cn _ (λc hc=>aZ hc) ⟨by grind,.inr ⟨_,eG,?_⟩⟩⟩;have go:∀{ks:List (List κ×V)}{ys:List (List κ×Addr×Value)},Paired (λp q=>p.1=q.1/\Zi knd H q.2.1 p.1/\cP p.2 q.2.2) ks ys->Paired (λp q=>p.1=q.1/\Zi knd (cO H a (.ext (Ĝ knd a (xs++[(k,b,u2)])))) q.2.1 p.1/\cP p.2 q.2.2) (ks++[(k,y)]) (ys++[(k,b,u2)]):=λ{ks ys} r=>by
   induction r with
   |nil=>exact .cons ⟨Z,hb.same keep,ru2⟩ .nil
   |cons a _ ih=>exact .cons ⟨a.1,a.2.1.same keep,a.2.2⟩ ih
  exact go rel
inductive a4K{P:Program}{w:World}(knd:KeyKind P w κ)(x:V)(vs:List V)(H:Hp)(Q:VK):Prop
 |mk (a b:Addr) (k:List κ) (O:List (List κ×V)) (v:V) (_:x=.ref a) (_:vs=[.ref b,v]) (_:Zi knd H b k) (_:DX knd H a O) (_:Q ((iJ O k).getD v) H)
def a0y(knd:KeyKind X.prog X.w κ)(hu:X.A.units+1<cLine):Å X "dict.get" (a4K knd):=by
 intro Y s σ H x xs v us Q I rx rs h;obtain⟨a,b,k,O,y,rfl,rfl,hb,e,q⟩:=h;obtain rfl:v=Value.ref a:=rx;obtain⟨u,u2,rfl,ru,ru2⟩:=vals2 rs;obtain rfl:u=Value.ref b:=ru;obtain⟨hd,xs,rel,dd⟩:=ĝ I.hok e;exact call_meetsIn PySem.F.slot_dict_get dd.typeIs PySem.F.entry_dict_get (PySem.F.args_dict_get_3 _ _ _) (meetsH_dict_get_default (tupleKind knd) a b hd u2) ⟨Ef hu,k,xs,Qg I.hok hb,dd,⟨_,H,I.tok _,(a4J k rel).getD ru2,q⟩⟩
def tBX{P:Program}{w:World}(knd:KeyKind P w κ)(r:V->List V->Hp->VK->Prop)(to:TE)(t:TA):TE:=λσ H Q=>to σ H λx H1=>(∃a O,x=.ref a/\DX knd H1 a O)/\t σ H1 λxs H2=>r x xs H2 Q
def ğ{o e:Expr}{es:List Expr}{to:TE}{t:TA}{name:Str}{apos cpos:Pos}{id:String}{r:V->List V->Hp->VK->Prop}(knd:KeyKind X.prog X.w κ)(pa:PlainAttrs "dict")(slot:Slot "dict" name id)(hty:typeOf (.builtin id)=pure (.type "method_descriptor"))(hm:Å X id r)(ho:PE X o to)(ha:PA X (e::es) t)
  (hbase:attributeBase o name X.env (eval o X.env)=eval o X.env:=by rfl)
  (hfew:((backTo cpos (starEach (e::es) X.env)).all (λx=>!x.1)&&(backToKw cpos (keywordEach [] X.env)).all (λx=>x.1.isSome)
   && decide ((e::es).length+([]:List Keyword).length+(if([]:List Keyword).isEmpty then 0 else 1)<30))=true:=by rfl)
  (hline:(apos.endLine==cpos.line)=true:=by rfl) (hs:starEach (e::es) X.env=(false,eval e X.env)::starEach es X.env:=by rfl) (hplain:(backTo cpos (starEach es X.env)).any (·.1)=false:=by rfl) :
  PE X (.Call (.Attribute o name apos) (e::es) [] cpos) (tBX knd r to t):=by
 intro Y s σ H Q I h;refine wpAny_Call_method_late hbase hfew hline Z (jK (ho Y s σ H _ I h) λv s1 ⟨x,H1,I1,r1,⟨a,O,ex,dx⟩,q1⟩=>?_);subst ex;obtain rfl:v=Value.ref a:=r1;obtain⟨_,xs,_,dd⟩:=ĝ I1.hok dx;refine⟨"dict",id,pa,slot,hty,dd.typeIs,λb eb=>?_,?_⟩
 ·injection eb with eb
  subst eb;obtain⟨o,_,_,h1,h2,_⟩:=dd;exact⟨o,h1,h2.2.1⟩
 have hA:=ha cpos Y s1 σ H1 _ I1 q1;rw[hs]at hA ⊢;exact Tw (by grind) (Calls.evalArgs_plain (jK hA λus s2 ⟨vs,H2,I2,r2,q2⟩=>hm Y s2 σ H2 (.ref a) vs _ us Q I2 Z r2 q2))
end
end L2
namespace Di
open PyProof.Rows
variable{o:Obj}{es:Array DictEntry}{ep:Nat}
variable{prog:Program}{w:World}{A:Around}{E:Value->Shared->Prop}{s:Shared}
abbrev vO(d:Addr):Obj:={ cls:=.type "dict_items",data:=.fields #[.ref d]}
def Ġ{d:Addr}{Q:Value->Shared->Prop}(hs:(d==sysModules)=false)(ho:s.heap.get? d=some o)(hx:o.ExactDict)
  (h:Q (.ref s.heap.objs.size) { s with heap:=s.heap.push (vO d)}):wpAny (model prog w) A (call (.builtin "dict.items") [.ref d]) Q E s:=by
 have hT:s.TypeIs (.ref d) "dict" :=⟨_,ho,hx.1⟩;refine gP F.slot_dict_items hT F.entry_dict_items ?_ (F.args_dict_items_1 _);unfold Builtin.«dict.items»;refine M ?_;unfold Builtin.Dict.noArgs;refine M (Oa hT (ao ?_));refine M ?_;unfold Builtin.Dict.showsAll;refine nF (L2.CN (by grind) (ao ?_));exact M (jU (ao ⟨_,Z,h⟩))
def CJ{v d:Addr}{Q:Value->Shared->Prop}(hv:s.heap.get? v=some (vO d))(ho:s.heap.get? d=some o)(hd:o.data=.dict es ep)
  (h:∀h',IsItemIter h' s.heap.objs.size d 0 es.size ep .none .none->(∀b ob,s.heap.get? b=some ob->h'.get? b=some ob)->Q (.ref s.heap.objs.size) { s with heap:=h'}):wpAny (model prog w) A (pyIter (.ref v)) Q E s:=by
 have hT:s.TypeIs (.ref v) "dict_items" :=⟨_,hv,Z⟩;refine IK hT F.slot_dict_items_iter (gP F.slot_dict_items_iter hT F.entry_dict_items_iter ?_ (F.args_dict_items_iter_1 _));unfold Builtin.«dict_items.__iter__»;refine M (ao ?_);refine M ?_;unfold Builtin.Dict_items.dictOf;refine M (gq hv Z (x:=.ref d) Z (ao ?_));refine M ?_;unfold Builtin.Dict_items.newIterator;refine M (Ab ho hd ?_);refine M (Ej ho hd ?_);have own:Builtin.Dict_items.ownsTuple "dict_itemiterator" = true:=by decide
 simp only[own,if_true];refine jU ?_ (by simp only[sizeOk,sizeLine_eq,Builtin.Dict_items.ownedTupleFields,List.size_toArray,List.length_append,List.length_cons,List.length_nil];omega);exact ao ⟨_,Z,"dict_itemiterator",_,⟨_,bZ _ Z,Z⟩,F.slot_dict_itemiterator_next.lookup,h _ (bZ _ Z) λb ob e=>bL _ e⟩
def item_at{it d:Addr}{i:Nat}{e:DictEntry}{ok ov:Value}{Q:Option Value->Shared->Prop}(ho:s.heap.get? d=some o)(hd:o.data=.dict es ep)(hit:IsItemIter s.heap it d i es.size ep ok ov)(hx:es[i]?=some e)
  (h:∀h',IsItemIterOut h' it d (i+1) es.size ep e.key e.val s.heap.objs.size->h'.get? s.heap.objs.size=some { cls:=.type "tuple",data:=.seq #[e.key,e.val]}->h'.objs.size=s.heap.objs.size+1->
   (∀b ob,b≠it->s.heap.get? b=some ob->h'.get? b=some ob)->Q (some (.ref s.heap.objs.size)) { s with heap:=h'}):wpAny (model prog w) A (pyNext (.ref it)) Q E s:=by
 have hT:s.TypeIs (.ref it) "dict_itemiterator" :=⟨_,hit,Z⟩;have own:Builtin.Dict_items.ownsTuple "dict_itemiterator" = true:=by decide
 unfold pyNext;refine M (tU (oG (name:=Str.ofString "__next__") hT Nz (gP Nz hT Î ?_ (Í _))));refine M (ao ?_);refine M ?_;refine M ?_;refine M (m:=typeNameOfWhole _) (Nx hT (ao ?_));refine M (Ek hit Z ?_);simp only[own,if_true];show wpAny _ _ (if(Value.ref d==Value.none)=true then _ else _) _ _ _;refine nF (L2.CN (by simp) ?_);refine M (m:=Builtin.Dict_items.addrOf _) (ao ?_);refine M (Ab ho hd ?_);refine nF (L2.CN (by simp) ?_);refine M (m:=Builtin.Dict_items.addrOf _) (ao ?_);refine M (Ej ho hd ?_);refine nF (L2.CN (by simp) (ao ?_));dsimp only;have e1:(if(i:Int)<0 then none else es[(i:Int).toNat]?)=some e:=by
  rw[aB (by omega),jO];exact hx
 rw[e1];dsimp only;refine M (M (m:=typeNameOfWhole _) (Nx hT (ao (M (TF hT ?_)))));show wpAny _ _ (setField (.ref it) 3 (rawInt ((i:Int)+1)) >>= _) _ _ _;refine M (iV hit (by simp) λh1 he1 Ew=>?_);have q1:((i+1:Nat):Int)=(i:Int)+1:=by omega
 have a4L:IsItemIter h1 it d (i+1) es.size ep ok ov:=by unfold IsItemIter;rw[q1];simpa [rawInt]using he1
 have hT1:Shared.TypeIs { s with heap:=h1} (.ref it) "dict_itemiterator" :=⟨_,a4L,rfl⟩;have z1:h1.objs.size=s.heap.objs.size:=Ew.1;have il:it<s.heap.objs.size:=aX hit;refine M (ig (M (TF hT1 (M (TF hT1 ?_)))));show wpAny _ _ (Builtin.Dict_items.pairFromOwner (.ref it) 6 e.key e.val) _ _ { s with heap:=h1};unfold Builtin.Dict_items.pairFromOwner;refine M (Jb ?_);have he2:IsItemIter (h1.push { cls:=.type "tuple",data:=.seq #[e.key,e.val]}) it d (i+1) es.size ep ok ov:=bL _ a4L;have t2:(h1.push { cls:=.type "tuple",data:=.seq #[e.key,e.val]}).get? s.heap.objs.size=some { cls:=.type "tuple",data:=.seq #[e.key,e.val]}:=by rw[<-z1];exact bZ _ rfl
 have z2:(h1.push { cls:=.type "tuple",data:=.seq #[e.key,e.val]}).objs.size=s.heap.objs.size+1:=by rw[jW,z1]
 have k2:∀b ob,b≠it->s.heap.get? b=some ob->(h1.push { cls:=.type "tuple",data:=.seq #[e.key,e.val]}).get? b=some ob:=λb ob hb q=>bL _ (Ew.extBut b ob hb q);rw[z1];generalize h1.push { cls:=.type "tuple",data:=.seq #[e.key,e.val]}=h2 at he2 t2 z2 k2;refine M ?_;unfold Builtin.Dict_items.ownedTupleIsFree;refine M (gq he2 Z (x:=.none) Z (ao ?_));simp only[if_true];refine M (gq he2 Z (x:=ok) Z (M (gq he2 Z (x:=ov) Z ?_)));refine M (iV he2 (by simp) λh3 he3 s3=>?_);have he3:IsItemIter h3 it d (i+1) es.size ep e.key ov:=he3;refine M (iV he3 (by simp) λh4 he4 s4=>?_);have he4:IsItemIter h4 it d (i+1) es.size ep e.key e.val:=he4;refine M (iV he4 (by simp) λh5 he5 s5=>?_);have he5:IsItemIterOut h5 it d (i+1) es.size ep e.key e.val s.heap.objs.size:=he5;refine M (iV he5 (by simp) λh6 he6 s6=>?_);have he6:IsItemIterOut h6 it d (i+1) es.size ep e.key e.val s.heap.objs.size:=he6;have up:∀b ob,b≠it->h2.get? b=some ob->h6.get? b=some ob:=λb ob hb q=>s6.extBut b ob hb (s5.extBut b ob hb (s4.extBut b ob hb (s3.extBut b ob hb q)));refine M (xQ (ao (ao ⟨_,Z,ao (h h6 he6 (up _ _ (gG il) t2) ?_ λb ob hb q=>up b ob hb (k2 b ob hb q))⟩)));show h6.objs.size=_;rw[s6.1,s5.1,s4.1,s3.1];exact z2
def Jw{it d:Addr}{ok ov:Value}{Q:Option Value->Shared->Prop}(hh:A.handled=none)(ho:s.heap.get? d=some o)(hd:o.data=.dict es ep)(hit:IsItemIter s.heap it d es.size es.size ep ok ov)
  (h:∀h',Heap.ExtBut it s.heap h'->Q none { s with heap:=h'}):wpAny (model prog w) A (pyNext (.ref it)) Q E s:=by
 have hT:s.TypeIs (.ref it) "dict_itemiterator" :=⟨_,hit,Z⟩;have own:Builtin.Dict_items.ownsTuple "dict_itemiterator" = true:=by decide
 unfold pyNext;refine M (tU (oG (name:=Str.ofString "__next__") hT Nz (gP Nz hT Î ?_ (Í _))));refine M (ao ?_);refine M ?_;refine M ?_;refine M (m:=typeNameOfWhole _) (Nx hT (ao ?_));refine M (Ek hit Z ?_);simp only[own,if_true];show wpAny _ _ (if(Value.ref d==Value.none)=true then _ else _) _ _ _;refine nF (L2.CN (by simp) ?_);refine M (m:=Builtin.Dict_items.addrOf _) (ao ?_);refine M (Ab ho hd ?_);refine nF (L2.CN (by simp) ?_);refine M (m:=Builtin.Dict_items.addrOf _) (ao ?_);refine M (Ej ho hd ?_);refine nF (L2.CN (by simp) (ao ?_));dsimp only;have e1:(if(es.size:Int)<0 then none else es[(es.size:Int).toNat]?)=none:=by rw[aB (by omega),jO];simp
 rw[e1];dsimp only;refine M (M (m:=typeNameOfWhole _) (Nx hT (ao ?_)));show wpAny _ _ (setField (.ref it) 2 .none >>= _) _ _ _;refine M (iV hit (by simp) λh1 hI1 Ew=>?_);refine M ?_;simp only[newExc,newTuple];refine M (jU ?_ (by size_fits));refine M (m:=firstArgMember _ _) (Jf (a:=Value.none) (by first|rfl|(simp only[firstArgMember];rfl)) ?_);refine jU ?_ (by size_fits);simp only[raiseNew];refine M (Ow ?_);rw[show A.in1.handled=none from hh];refine M (ao (O1 ?_));exact M (xK (U:="StopIteration") (T:="StopIteration") (b:=true) ⟨_,bZ _ Z,Z⟩ Jc (ao (h _ ((Ew.extBut.push _).push _))))
end Di
namespace L2
open PyProof.Rows Bg
variable{o:Obj}{u:HO}{as:List Addr}
def Xn(p d:Addr):HO:=.ext (λh=>h.get? p=some (Di.vO d))
def Iti(o:Obj)(d:Addr)(u:HO)(as:List Addr)(vs:List V):It :=
 ⟨λi H=>H d=some (.kj o u)/\i<as.length,λi H x H'=>∃p a v,x=.ref p/\as[i]?=some a/\vs[i]?=some v/\gV H p (.tup [.ref a,v]) H',λi H=>H d=some (.kj o u)/\i=as.length⟩
def VR{P:Program}{w:World}{K:aK}{elts:List Expr}{k:Nat}{pos:Pos}(d it:Addr){vs:List V}{es:Array DictEntry}{ep:Nat}(hd:o.data=.dict es ep)(ek:es.toList.map (·.key)=as.map Value.ref)(ev:cM vs (es.toList.map (·.val))) :
  Turn P w K (.Tuple elts k pos) (Iti o d u as vs) [it] it (λi h=>∃ok ov,IsItemIter h it d i es.size ep ok ov) where
 mem:=by simp
 obj:=λi h st b hb=>by
  grind
 keep:=λi h h' ⟨ok,ov,st⟩ k=>⟨ok,ov,k it (by simp) _ st⟩
 item:=by
  intro X hP hw hK hc i Y s σ H E I hf st hg
  subst hP hw hK
  obtain⟨ok,ov,st⟩:=st
  obtain⟨hq,hi⟩:=hg
  obtain⟨hd1,_⟩:=I.hok d _ hq
  obtain⟨f0,f1,f2,f3,f4,f5⟩:=hf it (by simp)
  have ne:d≠it:=λz=>by grind
  have lz:es.size=as.length:=by have:=congrArg List.length ek;grind
  have he:es[i]?=some (es[i]'(by omega)):=xg (by omega)
  have a2T:(es[i]'(by omega)).key=Value.ref as[i]:=by
   have:=congrArg (λl=>l[i]?) ek
   grind
  have lv:vs.length=as.length:=by
   have:=ev.length
   grind
  obtain⟨v,hv⟩:∃v,vs[i]?=some v:=⟨vs[i]'(by omega),bV _⟩
  obtain⟨u1,hu1,ru1⟩:=ev.get hv
  have a6K:(es[i]'(by omega)).val=u1:=by
   grind
  refine Di.item_at hd1 hd st he λh' hI ht hz kp=>⟨_,Z,wpAny_letOwnedTupleGo_items hI λh3 hI3 Y8=>?_⟩
  have nit:s.heap.objs.size≠it:=gG (aX st)
  have kp3:∀c oc,c∉[it]->s.heap.get? c=some oc->h3.get? c=some oc:=λc oc hc q=>by
   have hc':c≠it:=by grind
   exact(Y8.2 c hc').trans (kp c oc hc' q)
  have I1:bH X Y σ H { s with heap:=h3}:=zf I [it] (λc hc=>hf c hc) kp3
  have hfree:H s.heap.objs.size=none:=I.hok.fresh (aO _)
  have ht3:h3.get? s.heap.objs.size=some { cls:=.type "tuple",data:=.seq #[(es[i]'(by omega)).key,(es[i]'(by omega)).val]}:=(Y8.2 _ nit).trans ht
  have I2:bH X Y σ (cO H s.heap.objs.size (.tup [.ref as[i],v])) { s with heap:=h3}:=by
   refine bH.track I1 hfree I.sz (gG I.lt) (λy c q=>?_) (λp hp=>cu (aX (I.pin p hp).1)) ?_
   ·obtain⟨v,oc,q1,_⟩:=I.cell y c q
    grind
   ·exact⟨(by show 2<=sizeLine;decide),[(es[i]'(by omega)).key,(es[i]'(by omega)).val],.cons a2T (.cons (by grind) .nil),⟨_,ht3,Z,_,Z⟩⟩
  refine⟨.ref s.heap.objs.size,_,I2,Z,⟨_,as[i],v,Z,bV hi,hv,gV.oF hfree⟩,⟨_,_,hI3⟩,λc hc=>?_⟩
  have e:c=it:=by grind
  subst e
  rw[aZ (Ne.symm nit)]
  exact f0
 done:=by
  intro X hP hw hK hc i Y s σ H E I hf st hg
  subst hP hw hK
  obtain⟨ok,ov,st⟩:=st
  obtain⟨hq,hx⟩:=hg
  obtain⟨hd1,_⟩:=I.hok d _ hq
  obtain⟨f0,f1,f2,f3,f4,f5⟩:=hf it (by simp)
  have lz:es.size=as.length:=by have:=congrArg List.length ek;grind
  rw[hx,<-lz]at st
  exact Di.Jw (I.ok.hd hc) hd1 hd st λh' eb=>⟨Z,I.turned (t':=s.toks) (λb o hb e=>eb b o hb e) f0 f1 f3 f4 f5⟩
 self:=λ_ _ _ _ _ ⟨ok,ov,st⟩ h=>PySem.W.kcp_self st h
section
variable{X:Cx}
inductive a0z(x:V)(vs:List V)(H:Hp)(Q:VK):Prop
 |mk (d:Addr) (O:List (List Key×V)) (_:x=.ref d) (_:vs=[]) (_:H d=some (.dT O)) (_:∀p H',gV H p (Xn p d) H'->Q (.ref p) H')
def Fb:Å X "dict.items" a0z:=by
 intro Y s σ H x xs v us Q I rx rs h;obtain⟨d,O,rfl,rfl,e,q⟩:=h;obtain rfl:v=Value.ref d:=rx;cases rs;obtain⟨_,hs,xs,rel,o,es,ep,ho,hx,hdt,hes,_,_⟩:=Xj I.hok e;refine Di.Ġ hs ho hx ?_;have g:(s.heap.push (Di.vO d)).get? s.heap.objs.size=some (Di.vO d):=bZ _ rfl;refine⟨.ref s.heap.objs.size,_,I.laid (t':=s.toks) (o:=Xn s.heap.objs.size d) (λb ob eb=>bL _ eb) (aO _) ⟨g,⟨_,g⟩,λh1 h2 e1 k=>k _ e1⟩,Z,q _ _ (gV.oF (I.hok.fresh (aO _)))⟩
def a0A(tl:TE):TI:=λσ H R=>tl σ H λx H1=>∃p d O,x=.ref p/\H1 p=some (Xn p d)/\H1 d=some (.dT O)/\
 ∀o as,Paired (λa (kv:List Key×V)=>(cO H1 d (.kj o (.dT O))) a=some (.tup (kv.1.map kV))) as O->R (Iti o d (.dT O) as (O.map (·.2))) (cO H1 d (.kj o (.dT O)))
def Fd{elts:List Expr}{k:Nat}{tpos:Pos}{l:Expr}{tl:TE}(hl:PE X l tl):PI X (.Tuple elts k tpos) l (a0A tl):=by
 intro Y s σ H R I h;refine jK (hl Y s σ H _ I h) λv s1 ⟨x,H1,I1,r1,q1⟩=>?_;obtain⟨p,d,O,e,hp,hd,q⟩:=q1;subst e;cases r1;obtain⟨_,hs,xs,rel,o,es,ep,ho,hx,hdt,hes,_,_⟩:=Xj I1.hok hd;have hv:s1.heap.get? p=some (Di.vO d):=(show fZ X.prog X.w H1 s1.heap p (Xn p d)from I1.hok p _ hp).1;have I2:bH X Y σ (cO H1 d (.kj o (.dT O))) s1:=I1.VJ hd (λ_ z=>by cases z) (λ_ z=>by cases z) (λ_ z=>by cases z) (I1.Xm hd λ_ _ z=>by cases z) ⟨ho,I1.hok d _ hd⟩;have ek:es.toList.map (·.key)=(xs.map λx=>x.2.1).map Value.ref:=by rw[hes,nC,nC];rfl
 have ev:cM (O.map (·.2)) (es.toList.map (·.val)):=by
  rw[hes,nC];have go:∀{ks:List (List Key×V)}{ys:List (List Key×Addr×Value)},KT H1 ks ys->cM (ks.map (·.2)) (ys.map λx=>x.2.2):=λ{ks ys} r=>by
   induction r with
   |nil=>exact .nil
   |cons a _ ih=>exact .cons a.2.2 ih
  exact go rel
 have pk:Paired (λa (kv:List Key×V)=>(cO H1 d (.kj o (.dT O))) a=some (.tup (kv.1.map kV))) (xs.map λx=>x.2.1) O:=by
  have go:∀{ks:List (List Key×V)}{ys:List (List Key×Addr×Value)},KT H1 ks ys->Paired (λa (kv:List Key×V)=>(cO H1 d (.kj o (.dT O))) a=some (.tup (kv.1.map kV))) (ys.map λx=>x.2.1) ks:=λ{ks ys} r=>by
   induction r with
   |nil=>exact .nil
   | @cons kv y _ _ a _ ih =>
    refine .cons ?_ ih;have nb:y.2.1≠d:=λz=>by grind
    rw[aZ nb];exact a.2.1
  exact go rel
 refine Di.CJ hv ho hdt λh' hI kp=>⟨s1.heap.objs.size,[s1.heap.objs.size],_,_,_,Z,I2.kept (t':=s1.toks) (λb ob e=>kp b ob e),VR d _ hdt ek ev,⟨_,_,hI⟩,λb hb=>?_,q o _ pk⟩;have e:b=s1.heap.objs.size:=by grind
 subst e;exact I2.Jk (aO _) (I2.hok.fresh (aO _))
end
def JF{d:Addr}{vs:List V}{g:TG}{tb:TS}{D:Ends}{σ:St}{H:Hp}(Pv:Nat->St->Hp->Prop)(h0:Pv 0 σ H)(hl:∀i σ H,i<=as.length->Pv i σ H->H d=some (.kj o u))
  (hs:∀(i:Nat) a v σ H p H',as[i]?=some a->vs[i]?=some v->Pv i σ H->gV H p (.tup [.ref a,v]) H'->g (.ref p) σ H' λσ2 H2=>tb { D with nx:=Pv (i+1),ct:=Pv (i+1),bk:=D.nx} σ2 H2) (hd:∀σ H,Pv as.length σ H->D.nx σ H) :
  ∃W:Nat->Nat->St->Hp->Prop,(∃m,W 0 m σ H)/\∀i m σ H,W i m σ H->
   ((Iti o d u as vs).stop i H/\D.nx σ H)\/((Iti o d u as vs).go i H/\∃N:St->Hp->Prop,(∀σ' H',N σ' H'->∃m',m'<m/\W (i+1) m' σ' H')/\∀x H',(Iti o d u as vs).Ã i H x H'->g x σ H' λσ2 H2=>tb { D with nx:=N,ct:=N,bk:=D.nx} σ2 H2):=by
 refine⟨λi m σ H=>m=as.length-i/\i<=as.length/\Pv i σ H,⟨as.length,by simp,dI _,h0⟩,?_⟩;rintro i m σ H ⟨rfl,hi,p⟩;have q1:=hl i σ H hi p;by_cases hlt:i<as.length
 ·refine .inr ⟨⟨q1,hlt⟩,Pv (i+1),λσ' H' p'=>⟨as.length-(i+1),by omega,Z,hlt,p'⟩,λx H' y=>?_⟩;obtain⟨pp,a,v,rfl,ea,ev,nw⟩:=y;exact hs i a v σ H pp H' ea ev p nw
 ·have e:i=as.length:=by omega
  subst e;exact .inl ⟨⟨q1,Z⟩,hd σ H p⟩
def Zj{d:Addr}{vs:List V}{ix:List (Option Nat)}{g:TG}{tt:TT}{te:TE}{σ:St}{H1:Hp}{Q:VK}(Pv:Nat->List V->Hp->Prop)(h0:Pv 0 [] H1)(hl:∀i ys H,i<=as.length->Pv i ys H->H d=some (.kj o u)/\ys.length<=5000)
  (hs:∀i ys H a v p H',as[i]?=some a->vs[i]?=some v->Pv i ys H->gV H p (.tup [.ref a,v]) H'->g (.ref p) (qd ix σ) H' λσ2 H2=>tt σ2 H2 λb H3=>if b=true then te σ2 H3 λv H4=>Pv (i+1) (ys++[v]) H4 else Pv (i+1) ys H3)
  (hd:∀ys H p,Pv as.length ys H->H p=none->Q (.ref p) (cO H p (.lst ys))):lC ix g tt te σ H1 Q (Iti o d u as vs):=by
 refine⟨λi m ys H=>m=as.length-i/\i<=as.length/\Pv i ys H,⟨as.length,by simp,dI _,h0⟩,?_⟩;rintro i m ys H ⟨rfl,hi,pp⟩;obtain⟨hx,z⟩:=hl i ys H hi pp;have z':ys.length<=sizeLine:=by rw[jD];omega
 by_cases hlt:i<as.length
 ·refine .inr ⟨⟨hx,hlt⟩,z',λys' H'=>Pv (i+1) ys' H',λys' H' p'=>⟨as.length-(i+1),by omega,Z,hlt,p'⟩,λx H' y=>?_⟩;obtain⟨p,a,v,rfl,ea,ev,nw⟩:=y;exact hs i ys H a v p H' ea ev pp nw
 ·have ei:i=as.length:=by omega
  subst ei;exact .inl ⟨⟨hx,Z⟩,z',λp hp=>hd ys H p pp hp⟩
end L2
namespace Z3
open PyProof.Rows
variable{a b c x:Value}{k n l1 l2 l3:Nat}{xs ys zs:Array Value}
abbrev K9(h:Heap)(T:Addr)(a b c:Value):Prop:=h.get? T=some { cls:=.type "tuple",data:=.seq #[a,b,c]}
section
variable{prog:Program}{w:World}{A:Around}{E:Value->Shared->Prop}{s:Shared}
def put{T:Addr}{Q:Unit->Shared->Prop}(hT:K9 s.heap T a b c)
  (h:∀h',h'.get? T=some { cls:=.type "tuple",data:=.seq ((#[a,b,c]:Array Value).setIfInBounds k x)}->Heap.SameBut T s.heap h'->Q () { s with heap:=h'}):wpAny (model prog w) A (updateSeq T (·.setIfInBounds k x)) Q E s:=by
 refine Um hT Z (h _ ?_ (rT ..));rw[zR _ hT rfl];simp[Obj.mapSeq]
def next_item{y v:Value}{Q:Value->Shared->Prop}(q1:l1<n)(q2:l2<n)(q3:l3<n)
  (hz:IsZip s.heap (n+5) (n+3) (n+4) .none) (hTI:K9 s.heap (n+3) (.ref n) (.ref (n+1)) (.ref (n+2))) (hTO:K9 s.heap (n+4) a b c)
  (h1:s.heap.IsListIter n l1 k) (h2:s.heap.IsListIter (n+1) l2 k) (h3:s.heap.IsListIter (n+2) l3 k) (hl1:s.heap.IsList l1 xs) (hl2:s.heap.IsList l2 ys) (hl3:s.heap.IsList l3 zs) (hx:xs[k]?=some x) (hy:ys[k]?=some y) (hv:zs[k]?=some v)
  (hQ:∀h',IsZip h' (n+5) (n+3) (n+4) (rawInt s.heap.objs.size)->K9 h' (n+4) x y v->h'.IsListIter n l1 (k+1)->h'.IsListIter (n+1) l2 (k+1)->h'.IsListIter (n+2) l3 (k+1)->K9 h' s.heap.objs.size x y v->
   (∀e o,e≠n->e≠n+1->e≠n+2->e≠n+4->e≠n+5->s.heap.get? e=some o->h'.get? e=some o)->Q (.ref s.heap.objs.size) { s with heap:=h'}) :
  wpAny (model prog w) A (Builtin.«zip.__next__» ⟨[.ref (n+5)],[]⟩) (λfin s'=>∃v,fin=.done (.ret v)/\Q v s') E s:=by
 have d41:((n+4):Nat)≠(n+1):=by omega
 have d42:((n+4):Nat)≠(n+2):=by omega
 have d54:((n+5):Nat)≠(n+4):=by omega
 have d52:((n+5):Nat)≠(n+2):=by omega
 have d51:((n+5):Nat)≠(n+1):=by omega
 have d50:((n+5):Nat)≠n:=by omega
 have d04:(n:Nat)≠(n+4):=by omega
 have d02:(n:Nat)≠(n+2):=by omega
 have d01:(n:Nat)≠(n+1):=by omega
 have d14:((n+1):Nat)≠(n+4):=by omega
 have d12:((n+1):Nat)≠(n+2):=by omega
 have d24:((n+2):Nat)≠(n+4):=by omega
 show wpAny _ _ (field (.ref (n+5)) 2 >>= _) _ _ _;refine M (gq hz Z (x:=.bool false) Z ?_);show wpAny _ _ (field (.ref (n+5)) 3 >>= _) _ _ _;refine M (gq hz Z (x:=.ref (n+3)) Z (M (oJ hTI Z ?_)));show wpAny _ _ (Builtin.SmallTypes.ownedTupleIsFree (.ref (n+5)) >>= _) _ _ _;refine M ?_;unfold Builtin.SmallTypes.ownedTupleIsFree;refine M (gq hz Z (x:=.none) Z (ao ?_));simp only[if_true];refine M (jY (M (gq hz Z (x:=.ref (n+4)) Z ?_)));refine M (iV hz (by simp) λg1 z1 s1=>?_);have z1:IsZip g1 (n+5) (n+3) (n+4) .ellipsis:=z1;refine M ?_;simp only[List.zipIdx_cons,List.zipIdx_nil,List.forIn_cons,List.forIn_nil];have k1:∀e o,e≠n+5->s.heap.get? e=some o->g1.get? e=some o:=λe o he q=>s1.extBut e o he q;refine M (M (Ai ?_));show wpAny _ _ (Builtin.SmallTypes.nextOf (.ref n) >>= _) _ _ _;refine M (TJ (h1.at λo q=>k1 _ o (by omega) q) (hl1.at λo q=>k1 _ o (by omega) q) hx λg2 i2 s2=>ao ?_);have k2:∀e o,e≠n+5->e≠n->s.heap.get? e=some o->g2.get? e=some o:=λe o he h0 q=>s2.extBut e o h0 (k1 e o he q);have t2:K9 g2 (n+4) a b c:=k2 _ _ (by omega) (by omega) hTO;refine M (oJ t2 Z (M (put t2 λg3 t3 s3=>?_)));have t3:K9 g3 (n+4) x b c:=t3;refine M (xQ (ao ?_));have k3:∀e o,e≠n+5->e≠n->e≠n+4->s.heap.get? e=some o->g3.get? e=some o:=λe o he h0 h4 q=>s3.extBut e o h4 (k2 e o he h0 q);refine M (M (Ai ?_));show wpAny _ _ (Builtin.SmallTypes.nextOf (.ref (n+1)) >>= _) _ _ _;refine M (TJ (h2.at λo q=>k3 _ o (by omega) (by omega) (by omega) q) (hl2.at λo q=>k3 _ o (by omega) (by omega) (by omega) q) hy λg4 i4 s4=>ao ?_);have k4:∀e o,e≠n+5->e≠n->e≠n+4->e≠n+1->s.heap.get? e=some o->g4.get? e=some o:=λe o he h0 h4 h5 q=>s4.extBut e o h5 (k3 e o he h0 h4 q);have t4:K9 g4 (n+4) x b c:=s4.extBut (n+4) _ d41 t3;refine M (oJ t4 Z (M (put t4 λg5 t5 s5=>?_)));have t5:K9 g5 (n+4) x y c:=t5;refine M (xQ (ao ?_));have k5:∀e o,e≠n+5->e≠n->e≠n+4->e≠n+1->s.heap.get? e=some o->g5.get? e=some o:=λe o he h0 h4 h5 q=>s5.extBut e o h4 (k4 e o he h0 h4 h5 q);refine M (M (Ai ?_));show wpAny _ _ (Builtin.SmallTypes.nextOf (.ref (n+2)) >>= _) _ _ _;refine M (TJ (h3.at λo q=>k5 _ o (by omega) (by omega) (by omega) (by omega) q) (hl3.at λo q=>k5 _ o (by omega) (by omega) (by omega) (by omega) q) hv λg6 i6 s6=>ao ?_);have t6:K9 g6 (n+4) x y c:=s6.extBut (n+4) _ d42 t5;refine M (oJ t6 Z (M (put t6 λg7 t7 s7=>?_)));have t7:K9 g7 (n+4) x y v:=t7;refine M (xQ (ao (ao ?_)));have k7:∀e o,e≠n->e≠n+1->e≠n+2->e≠n+4->e≠n+5->s.heap.get? e=some o->g7.get? e=some o:=λe o a0 a1 a2 a4 a5 q=>s7.extBut e o a4 (s6.extBut e o a2 (k5 e o a5 a0 a4 a1 q));refine M (oJ t7 Z (M (Jb ?_)));have sz:g7.objs.size=s.heap.objs.size:=by rw[s7.1,s6.1,s5.1,s4.1,s3.1,s2.1,s1.1]
 have z7:IsZip g7 (n+5) (n+3) (n+4) .ellipsis:=s7.extBut (n+5) _ d54 (s6.extBut (n+5) _ d52 (s5.extBut (n+5) _ d54 (s4.extBut (n+5) _ d51 (s3.extBut (n+5) _ d54 (s2.extBut (n+5) _ d50 z1)))));have i2':g7.IsListIter n l1 (k+1):=i2.at λo q=>s7.extBut n _ d04 (s6.extBut n _ d02 (s5.extBut n _ d04 (s4.extBut n _ d01 (s3.extBut n _ d04 q))));have i4':g7.IsListIter (n+1) l2 (k+1):=i4.at λo q=>s7.extBut (n+1) _ d14 (s6.extBut (n+1) _ d12 (s5.extBut (n+1) _ d14 q));have i6':g7.IsListIter (n+2) l3 (k+1):=i6.at λo q=>s7.extBut (n+2) _ d24 q;have nl:n+5<g7.objs.size:=aX z7;show wpAny _ _ (Builtin.SmallTypes.ownedTupleHandOut (.ref (n+5)) (.ref g7.objs.size) >>= _) _ _ _;refine M ?_;unfold Builtin.SmallTypes.ownedTupleHandOut;have z8:IsZip (g7.push { cls:=.type "tuple",data:=.seq #[x,y,v]}) (n+5) (n+3) (n+4) .ellipsis:=bL _ z7;refine M (iV z8 (by simp) λg9 z9 s9=>?_);have z9:IsZip g9 (n+5) (n+3) (n+4) (rawInt g7.objs.size):=z9;refine iV z9 (by simp) λg10 z10 s10=>?_;have z10:IsZip g10 (n+5) (n+3) (n+4) (rawInt g7.objs.size):=z10;have up:∀e o,e≠n+5->g7.get? e=some o->g10.get? e=some o:=λe o he q=>s10.extBut _ _ he (s9.extBut _ _ he (bL _ q));have ng:g7.objs.size≠n+5:=gG nl;have t10:K9 g10 g7.objs.size x y v:=s10.extBut g7.objs.size _ ng (s9.extBut g7.objs.size _ ng (bZ _ Z));rw[sz]at z10 t10;refine ao ⟨_,Z,?_⟩;show Q (.ref g7.objs.size) _;rw[sz];exact hQ g10 z10 (up _ _ (by omega) t7) (i2'.at λo q=>up _ o (by omega) q) (i4'.at λo q=>up _ o (by omega) q) (i6'.at λo q=>up _ o (by omega) q) t10 λe o a0 a1 a2 a4 a5 q=>up e o a5 (k7 e o a0 a1 a2 a4 a5 q)
def Ru{y v:Value}{Q:Option Value->Shared->Prop}(q1:l1<n)(q2:l2<n)(q3:l3<n)
  (hz:IsZip s.heap (n+5) (n+3) (n+4) .none) (hTI:K9 s.heap (n+3) (.ref n) (.ref (n+1)) (.ref (n+2))) (hTO:K9 s.heap (n+4) a b c)
  (h1:s.heap.IsListIter n l1 k) (h2:s.heap.IsListIter (n+1) l2 k) (h3:s.heap.IsListIter (n+2) l3 k) (hl1:s.heap.IsList l1 xs) (hl2:s.heap.IsList l2 ys) (hl3:s.heap.IsList l3 zs) (hx:xs[k]?=some x) (hy:ys[k]?=some y) (hv:zs[k]?=some v)
  (hQ:∀h',IsZip h' (n+5) (n+3) (n+4) (rawInt s.heap.objs.size)->K9 h' (n+4) x y v->h'.IsListIter n l1 (k+1)->h'.IsListIter (n+1) l2 (k+1)->h'.IsListIter (n+2) l3 (k+1)->K9 h' s.heap.objs.size x y v->
   (∀e o,e≠n->e≠n+1->e≠n+2->e≠n+4->e≠n+5->s.heap.get? e=some o->h'.get? e=some o)->Q (some (.ref s.heap.objs.size)) { s with heap:=h'}) :
  wpAny (model prog w) A (pyNext (.ref (n+5))) Q E s:=by
 have hT:s.TypeIs (.ref (n+5)) "zip" :=⟨_,hz,Z⟩;unfold pyNext;exact M (tU (oG (name:=Str.ofString "__next__") hT Ou (gP Ou hT F.entry_zip_next (next_item q1 q2 q3 hz hTI hTO h1 h2 h3 hl1 hl2 hl3 hx hy hv λh' a1 a2 a3 a4 a5 a6 a7=>ao (hQ h' a1 a2 a3 a4 a5 a6 a7)) (F.args_zip_next_1 _))))
def V0{l2 l3:Nat}{a b c:Value}{Q:Option Value->Shared->Prop}(hh:A.handled=none)(q1:l1<n)
  (hz:IsZip s.heap (n+5) (n+3) (n+4) .none) (hTI:K9 s.heap (n+3) (.ref n) (.ref (n+1)) (.ref (n+2))) (h1:s.heap.IsListIter n l1 k) (hl1:s.heap.IsList l1 xs) (hx:xs[k]?=none)
  (hQ:∀h',(∀e o,e≠n->e≠n+5->s.heap.get? e=some o->h'.get? e=some o)->Q none { s with heap:=h'}) :
  wpAny (model prog w) A (pyNext (.ref (n+5))) Q E s:=by
 have hT:s.TypeIs (.ref (n+5)) "zip" :=⟨_,hz,Z⟩;have d50:(n+5:Nat)≠n:=by omega
 unfold pyNext;refine M (tU (oG (name:=Str.ofString "__next__") hT Ou (gP Ou hT F.entry_zip_next ?_ (F.args_zip_next_1 _))));show wpAny _ _ (field (.ref (n+5)) 2 >>= _) _ _ _;refine M (gq hz Z (x:=.bool false) Z ?_);show wpAny _ _ (field (.ref (n+5)) 3 >>= _) _ _ _;refine M (gq hz Z (x:=.ref (n+3)) Z (M (oJ hTI Z ?_)));show wpAny _ _ (Builtin.SmallTypes.ownedTupleIsFree (.ref (n+5)) >>= _) _ _ _;refine M ?_;unfold Builtin.SmallTypes.ownedTupleIsFree;refine M (gq hz Z (x:=.none) Z (ao ?_));simp only[if_true];refine M (jY (M (gq hz Z (x:=.ref (n+4)) Z ?_)));refine M (iV hz (by simp) λg1 z1 s1=>?_);have z1:IsZip g1 (n+5) (n+3) (n+4) .ellipsis:=z1;refine M ?_;simp only[List.zipIdx_cons,List.zipIdx_nil,List.forIn_cons,List.forIn_nil];have k1:∀e o,e≠n+5->s.heap.get? e=some o->g1.get? e=some o:=λe o he q=>s1.extBut e o he q;refine M (M (Ai ?_));show wpAny _ _ (Builtin.SmallTypes.nextOf (.ref n) >>= _) _ _ _;refine M (wpAny_nextOf_list_end (by grind) (h1.at λo q=>k1 _ o (by omega) q) (hl1.at λo q=>k1 _ o (by omega) q) hx λg2 e s2 he=>?_);obtain⟨oe,hoe,hce⟩:=he;have z2:IsZip g2 (n+5) (n+3) (n+4) .ellipsis:=s2 (n+5) _ d50 z1;have ne:e≠n+5:=λz=>by grind
 exact iV z2 (by simp) λg3 _ s3=>M (xK (U:="StopIteration") (T:="StopIteration") (b:=true) ⟨oe,s3.extBut e _ ne hoe,hce⟩ Jc (ao (hQ _ λc o c0 c5 q=>s3.extBut c o c5 (s2 c o c0 (k1 c o c5 q)))))
end
def Zk(a b c:Value):checkTypeCall "zip" ⟨[a,b,c],[]⟩=pure ():=by kernel_rfl
def ġ(a b c:Value):checkBuiltinCall "zip.__new__" ⟨[.type "zip",a,b,c],[]⟩=pure ():=by kernel_rfl
def V1(a b c d:Value):argsOk "object.__init__" ⟨[a,b,c,d],[]⟩:=by unfold argsOk;rw[signature?_of (id:="object.__init__") (n:=['_','_','t','i','n','i','_','_']) (o:=['t','c','e','j','b','o']) (by kernel_rfl) F.owner_object];kernel_rfl
abbrev p1(h:Heap)(l1:Addr):Heap:=h.push { cls:=.type "list_iterator",data:=.fields #[.ref l1,.int 0 0]}
abbrev p2(h:Heap)(l1 l2:Addr):Heap:=p1 (p1 h l1) l2
abbrev p3(h:Heap)(l1 l2 l3:Addr):Heap:=p1 (p2 h l1 l2) l3
abbrev p4(h:Heap)(l1 l2 l3:Addr):Heap:=(p3 h l1 l2 l3).push { cls:=.type "tuple",data:=.seq #[.ref h.objs.size,.ref (p1 h l1).objs.size,.ref (p2 h l1 l2).objs.size]}
abbrev p5(h:Heap)(l1 l2 l3:Addr):Heap:=(p4 h l1 l2 l3).push { cls:=.type "tuple",data:=.seq #[.none,.none,.none]}
abbrev p6(h:Heap)(l1 l2 l3:Addr):Heap:=(p5 h l1 l2 l3).push { cls:=.type "zip",data:=.fields #[.none,.bool false,.bool false,.ref (p3 h l1 l2 l3).objs.size,.ref (p4 h l1 l2 l3).objs.size]}
def Zm(l1 l2 l3:Addr)(xs ys zs:Array Value) :
  Meets (Builtin.«zip.__new__» ⟨[.type "zip",.ref l1,.ref l2,.ref l3],[]⟩) (λ_ R s=>s.heap.IsList l1 xs/\s.heap.IsList l2 ys/\s.heap.IsList l3 zs/\R (.ok (.ret (.ref (p5 s.heap l1 l2 l3).objs.size))) { s with heap:=p6 s.heap l1 l2 l3}) :=
 .of_wp λprog w A R s h=>by
  obtain⟨hp,g,d,tk,os⟩:=s;obtain⟨hl1,hl2,hl3,h⟩:=h;have hsub:=sub_zip;have a1:Heap.IsList (Shared.heap ⟨hp,g,d,tk,os⟩) l1 xs:=hl1;have a2:Heap.IsList (Shared.heap ⟨p1 hp l1,g,d,tk,os⟩) l2 ys:=Uj hl2 _;have a3:Heap.IsList (Shared.heap ⟨p2 hp l1 l2,g,d,tk,os⟩) l3 zs:=Uj (Uj hl3 _) _
  wp_walk using xH a1,xH a2,xH a3
  exact⟨_,Z,h⟩
section
variable{prog:Program}{w:World}{A:Around}{E:Value->Shared->Prop}{s:Shared}
def a4M{l1 l2 l3:Addr}{Q:Value->Shared->Prop}(hl1:s.heap.IsList l1 xs)(hl2:s.heap.IsList l2 ys)(hl3:s.heap.IsList l3 zs)
  (h:∀h',IsZip h' (s.heap.objs.size+5) (s.heap.objs.size+3) (s.heap.objs.size+4) .none->K9 h' (s.heap.objs.size+3) (.ref s.heap.objs.size) (.ref (s.heap.objs.size+1)) (.ref (s.heap.objs.size+2))->
   K9 h' (s.heap.objs.size+4) .none .none .none->h'.IsListIter s.heap.objs.size l1 0->h'.IsListIter (s.heap.objs.size+1) l2 0->h'.IsListIter (s.heap.objs.size+2) l3 0->
   (∀c o,s.heap.get? c=some o->h'.get? c=some o)->Q (.ref (s.heap.objs.size+5)) { s with heap:=h'}) :
  wpAny (model prog w) A (call (.type "zip") [.ref l1,.ref l2,.ref l3]) Q E s:=by
 refine callType_new F.called_zip (by decide) (Zk _ _ _) (ġ _ _ _) (λobj=>V1 obj _ _ _) F.entry_zip_new (Zm l1 l2 l3 xs ys zs) ⟨hl1,hl2,hl3,?_⟩;generalize hn:s.heap.objs.size=n at h;have z1:(p1 s.heap l1).objs.size=n+1:=by rw[jW,hn]
 have z2:(p2 s.heap l1 l2).objs.size=n+2:=by rw[jW,z1]
 have z3:(p3 s.heap l1 l2 l3).objs.size=n+3:=by rw[jW,z2]
 have z4:(p4 s.heap l1 l2 l3).objs.size=n+4:=by rw[jW,z3]
 have z5:(p5 s.heap l1 l2 l3).objs.size=n+5:=by rw[jW,z4]
 have up:∀{h0:Heap}{c:Addr}{o ob:Obj},h0.get? c=some o->(h0.push ob).get? c=some o:=λe=>bL _ e;have g6:(p6 s.heap l1 l2 l3).get? (p5 s.heap l1 l2 l3).objs.size=some _:=bZ _ rfl;have g5:(p6 s.heap l1 l2 l3).get? (p4 s.heap l1 l2 l3).objs.size=some _:=up (bZ _ Z);have g4:(p6 s.heap l1 l2 l3).get? (p3 s.heap l1 l2 l3).objs.size=some _:=up (up (bZ _ Z));have g3:(p6 s.heap l1 l2 l3).get? (p2 s.heap l1 l2).objs.size=some _:=up (up (up (bZ _ Z)));have g2:(p6 s.heap l1 l2 l3).get? (p1 s.heap l1).objs.size=some _:=up (up (up (up (bZ _ Z))));have g1:(p6 s.heap l1 l2 l3).get? s.heap.objs.size=some _:=up (up (up (up (up (bZ _ Z)))));show _/\_;rw[z3,z4,z5]at g6;rw[z4]at g5;rw[hn,z1,z2,z3]at g4;rw[z2]at g3;rw[z1]at g2;rw[hn]at g1;rw[z5];exact⟨⟨_,g6,Z⟩,h _ g6 g4 g5 ⟨_,g1,Z,Z⟩ ⟨_,g2,Z,Z⟩ ⟨_,g3,Z,Z⟩ λc o q=>up (up (up (up (up (up q)))))⟩
end
end Z3
namespace L2
open PyProof.Rows
variable{K:aK}{pos:Pos}
def Ģ(K:aK)(a b c:Addr):It :=
 ⟨λi H=>∃xs ys zs x y z,bG K H a xs/\bG K H b ys/\bG K H c zs/\xs[i]?=some x/\ys[i]?=some y/\zs[i]?=some z,
 λi H v H'=>∃p x y z,v=.ref p/\gV H p (.tup [x,y,z]) H'/\(∀xs,bG K H a xs->xs[i]?=some x)/\(∀ys,bG K H b ys->ys[i]?=some y)/\∀zs,bG K H c zs->zs[i]?=some z,
 λi H=>∃xs,bG K H a xs/\xs.length<=i⟩
def Zn{P:Program}{w:World}{elts:List Expr}{k:Nat}(a b c n:Nat)(an:a<n)(bn:b<n)(cn:c<n) :
  Turn P w K (.Tuple elts k pos) (Ģ K a b c) [n,n+1,n+2,n+3,n+4,n+5] (n+5) (λi h=>IsZip h (n+5) (n+3) (n+4) .none/\Z3.K9 h (n+3) (.ref n) (.ref (n+1)) (.ref (n+2))/\(∃x y z,Z3.K9 h (n+4) x y z)/\h.IsListIter n a i/\h.IsListIter (n+1) b i/\h.IsListIter (n+2) c i) where
 mem:=by simp
 obj:=λi h st e he=>by
  obtain⟨hz,hTI,⟨x,y,z,hTO⟩,⟨o1,e1,c1,d1⟩,⟨o2,e2,c2,d2⟩,⟨o3,e3,c3,d3⟩⟩:=st
  grind
 keep:=λi h h' st kk=>by
  obtain⟨hz,hTI,⟨x,y,z,hTO⟩,h1,h2,h3⟩:=st
  exact⟨kk (n+5) (by simp) _ hz,kk (n+3) (by simp) _ hTI,⟨x,y,z,kk (n+4) (by simp) _ hTO⟩,h1.at λo q=>kk n (by simp) o q,h2.at λo q=>kk (n+1) (by simp) o q,h3.at λo q=>kk (n+2) (by simp) o q⟩
 item:=by
  intro X hP hw hK hc i Y s σ H E I hf st hg
  subst hP hw hK
  obtain⟨xs,ys,zs,x,y,z,hq1,hq2,hq3,hx,hy,hz0⟩:=hg
  obtain⟨Rv,rv1,Zq,hz1⟩:=I.list hq1
  obtain⟨its2,rv2,pl2,hz2⟩:=I.list hq2
  obtain⟨a6g,rv3,pl3,hz3⟩:=I.list hq3
  obtain⟨u1,hu1,ru1⟩:=rv1.get hx
  obtain⟨u2,hu2,ru2⟩:=rv2.get hy
  obtain⟨u3,hu3,ru3⟩:=rv3.get hz0
  obtain⟨hz,hTI,⟨x0,y0,z0,hTO⟩,h1,h2,h3⟩:=st
  have nl:n+5<s.heap.objs.size:=aX hz
  refine Z3.Ru an bn cn hz hTI hTO h1 h2 h3 Zq.isList pl2.isList pl3.isList (x:=u1) (y:=u2) (v:=u3) (by grind) (by grind) (by grind) λh' a1 a2 a3 a4 a5 a6 hk=>?_
  refine⟨_,Z,wpAny_letOwnedTupleGo_zip a1 λg3 hg3 hs3=>?_⟩
  have n5:s.heap.objs.size≠n+5:=gG nl
  have hT3:g3.get? s.heap.objs.size=some { cls:=.type "tuple",data:=.seq #[u1,u2,u3]}:=(hs3.2 _ n5).trans a6
  have kp:∀e o,e∉[n,n+1,n+2,n+3,n+4,n+5]->s.heap.get? e=some o->g3.get? e=some o:=λe o he q=>by
   simp only[List.mem_cons,List.not_mem_nil,or_false,not_or]at he
   exact(hs3.2 e he.2.2.2.2.2).trans (hk e o he.1 he.2.1 he.2.2.1 he.2.2.2.2.1 he.2.2.2.2.2 q)
  have I1:bH X Y σ H { s with heap:=g3}:=zf I [n,n+1,n+2,n+3,n+4,n+5] (λe he=>hf e he) kp
  have hfree:H s.heap.objs.size=none:=I.hok.fresh (aO _)
  have I2:bH X Y σ (cO H s.heap.objs.size (.tup [x,y,z])) { s with heap:=g3}:=by
   refine bH.track I1 hfree I.sz (gG I.lt) (λy c q=>?_) (λp hp=>cu (aX (I.pin p hp).1)) ?_
   ·obtain⟨v,oc,q1,_⟩:=I.cell y c q
    exact cu (aX q1)
   ·exact⟨(by show 3<=sizeLine;decide),[u1,u2,u3],.cons ru1 (.cons ru2 (.cons ru3 .nil)),⟨_,hT3,Z,_,Z⟩⟩
  have d35:(n+3:Nat)≠n+5:=by omega
  have d45:(n+4:Nat)≠n+5:=by omega
  have d05:(n:Nat)≠n+5:=by omega
  have d15:(n+1:Nat)≠n+5:=by omega
  have d25:(n+2:Nat)≠n+5:=by omega
  have t3:h'.get? (n+3)=_:=hk (n+3) _ (by omega) (by omega) (by omega) (by omega) (by omega) hTI
  refine⟨.ref s.heap.objs.size,_,I2,Z,⟨_,x,y,z,Z,gV.oF hfree,λxs' hy'=>by rw[I.xR hy' hq1];exact hx,λys' hy'=>by rw[I.xR hy' hq2];exact hy,λzs' hy'=>by rw[I.xR hy' hq3];exact hz0⟩,
   ⟨hg3,(hs3.2 (n+3) d35).trans t3,⟨_,_,_,(hs3.2 (n+4) d45).trans a2⟩,a3.at λo q=>(hs3.2 n d05).trans q,a4.at λo q=>(hs3.2 (n+1) d15).trans q,a5.at λo q=>(hs3.2 (n+2) d25).trans q⟩,λe he=>?_⟩
  have f0:=(hf e he).1
  rw[aZ ?_]
  ·exact f0
  grind
 done:=by
  intro X hP hw hK hc i Y s σ H E I hf st hg
  subst hP hw hK
  obtain⟨xs,hq1,hl⟩:=hg
  obtain⟨Rv,rv1,Zq,hz1⟩:=I.list hq1
  have l1:=rv1.length
  obtain⟨hz,hTI,⟨x0,y0,z0,hTO⟩,h1,h2,h3⟩:=st
  refine Z3.V0 (a:=x0) (b:=y0) (c:=z0) (l2:=b) (l3:=c) (I.ok.hd hc) an hz hTI h1 Zq.isList (by simp;omega) λh' hk=>⟨Z,zf I [n,n+1,n+2,n+3,n+4,n+5] (λe he=>hf e he) λe o he q=>?_⟩
  grind
 self:=λ_ _ _ _ _ st h=>wpAny_pyIter_zip st.1 h
section
variable{X:Cx}
def vals3{a b c:V}{us:List Value}(h:cM [a,b,c] us):∃u v w,us=[u,v,w]/\cP a u/\cP b v/\cP c w:=by
 cases h with
 |cons h1 t =>
  obtain⟨u2,u3,rfl,r2,r3⟩:=vals2 t;exact⟨_,_,_,Z,h1,r2,r3⟩
def a4N(K:aK)(ta:TA):TI:=λσ H R=>ta σ H λvs H1=>∃a b c,vs=[.ref a,.ref b,.ref c]/\(∃xs,bG K H1 a xs)/\(∃ys,bG K H1 b ys)/\(∃zs,bG K H1 c zs)/\R (Ģ K a b c) H1
def a0B{elts:List Expr}{k:Nat}{tpos:Pos}{l m r:Expr}{ta:TA}{p:Pos}(e0:X.K=K)(hg:Gl X "zip")(hm:X.mg "zip" = none)(ha:PA X [l,m,r] ta)(hs:starEach [l,m,r] X.env=[(false,eval l X.env),(false,eval m X.env),(false,eval r X.env)]:=by rfl)(hs2:starEach [m,r] X.env=[(false,eval m X.env),(false,eval r X.env)]:=by rfl) :
  PI X (.Tuple elts k tpos) (.Call (.Name "zip" p) [l,m,r] [] pos) (a4N K ta):=by
 subst e0;intro Y s σ H R I h;refine xG (v5 I hg hm boot_zip ?_);refine zP (jK (ha pos Y s σ H _ I h) λus s1 ⟨vs,H1,I1,r1,q1⟩=>?_) (by rw[hs,hs2]) (by rw[hs2];rfl);obtain⟨a,b,c,e,⟨xs,hq1⟩,⟨ys,hq2⟩,⟨zs,hq3⟩,q⟩:=q1;subst e;obtain⟨u1,u2,u3,rfl,r1,r2,r3⟩:=vals3 r1;cases r1;cases r2;cases r3;obtain⟨Rv,rv1,Zq,hz1⟩:=I1.list hq1;obtain⟨its2,rv2,pl2,hz2⟩:=I1.list hq2;obtain⟨a6g,rv3,pl3,hz3⟩:=I1.list hq3;refine Z3.a4M Zq.isList pl2.isList pl3.isList λh' hz hTI hTO h1 h2 h3 hk=>wpAny_pyIter_zip hz ?_;have I2:bH X Y σ H1 { s1 with heap:=h'}:=I1.kept (t':=s1.toks) hk;have la:a<s1.heap.objs.size:=by obtain⟨o,e,_⟩:=Zq.isList;exact aX e
 have lb:b<s1.heap.objs.size:=by obtain⟨o,e,_⟩:=pl2.isList;exact aX e
 have lc:c<s1.heap.objs.size:=by obtain⟨o,e,_⟩:=pl3.isList;exact aX e
 refine⟨s1.heap.objs.size+5,_,_,_,H1,Z,I2,Zn a b c s1.heap.objs.size la lb lc,⟨hz,hTI,⟨_,_,_,hTO⟩,h1,h2,h3⟩,λe he=>?_,q⟩;have hb':s1.heap.objs.size<=e:=by
  grind
 exact I1.Jk hb' (I1.hok.fresh hb')
end
def ģ{a b c:Addr}{xs ys zs:List V}{g:TG}{tb:TS}{D:Ends}{σ:St}{H:Hp}(el:xs.length=ys.length)(el2:xs.length=zs.length)(Pv:Nat->St->Hp->Prop)(h0:Pv 0 σ H)(hl:∀i σ H,i<=xs.length->Pv i σ H->bG K H a xs/\bG K H b ys/\bG K H c zs)
  (hs:∀(i:Nat) x y z σ H p H',xs[i]?=some x->ys[i]?=some y->zs[i]?=some z->Pv i σ H->gV H p (.tup [x,y,z]) H'->g (.ref p) σ H' λσ2 H2=>tb { D with nx:=Pv (i+1),ct:=Pv (i+1),bk:=D.nx} σ2 H2) (hd:∀σ H,Pv xs.length σ H->D.nx σ H) :
  ∃W:Nat->Nat->St->Hp->Prop,(∃m,W 0 m σ H)/\∀i m σ H,W i m σ H->
   ((Ģ K a b c).stop i H/\D.nx σ H)\/((Ģ K a b c).go i H/\∃N:St->Hp->Prop,(∀σ' H',N σ' H'->∃m',m'<m/\W (i+1) m' σ' H')/\∀x H',(Ģ K a b c).Ã i H x H'->g x σ H' λσ2 H2=>tb { D with nx:=N,ct:=N,bk:=D.nx} σ2 H2):=by
 refine⟨λi m σ H=>m=xs.length-i/\i<=xs.length/\Pv i σ H,⟨xs.length,by simp,dI _,h0⟩,?_⟩;rintro i m σ H ⟨rfl,hi,p⟩;obtain⟨q1,q2,q3⟩:=hl i σ H hi p;by_cases hlt:i<xs.length
 ·refine .inr ⟨⟨xs,ys,zs,xs[i],ys[i],zs[i],q1,q2,q3,by simp[hlt],by simp[el▸hlt],by simp[el2▸hlt]⟩,Pv (i+1),λσ' H' p'=>⟨xs.length-(i+1),by omega,Z,hlt,p'⟩,λx H' y=>?_⟩;obtain⟨pp,x0,y0,z0,rfl,nw,ex,ey,ez⟩:=y;grind
 ·have e:i=xs.length:=by omega
  subst e;exact .inl ⟨⟨xs,q1,aO _⟩,hd σ H p⟩
section
variable{X:Cx}{e:Expr}{f:Str}{ta:TE}
def zj(e0:X.K=K)(he:PE X e ta)(hb:attributeBase e f X.env (eval e X.env)=eval e X.env):PE X (.Attribute e f pos) (a4d K ta f):=by subst e0;exact a2g he hb
end
end L2
namespace K
open L2 Lw Bg
abbrev iB:List Str:=["self","state","spot","v"]
abbrev j5:List Str:=["self","one","other"]
abbrev lE:List Str:=["one","other"]
abbrev qj:List Str:=["graph","steps"]
abbrev sI:List Str:=["self","state","one","other","tie"]
abbrev uJ:List Str:=["n","thing"]
abbrev wO:List Str:=["self","state"]
abbrev xZ:List Str:=["state","spot","number"]
abbrev yc:List Str:=["state","spot"]
abbrev CP:List Str:=["_law_ties_here","_law_rows_here","_law_k","_law_early"]
abbrev Gm:List Str:=["question","table","state","row"]
abbrev Gn:List Str:=["graph","done","step","used"]
abbrev Gp:List Str:=["self","graph","weights"]
abbrev Gq:List Str:=["many","weights"]
abbrev JG:List Str:=["is_better","shared","joined","put_in","tied","taken_out","thing"]
abbrev JH:List Str:=["question","old","step","bag"]
abbrev JK:List Str:=["graph","steps","tops","pile"]
abbrev Mv:List Str:=["question","table","source","step","bag"]
abbrev Mw:List Str:=["question","table","source","another"]
abbrev Mx:List Str:=["steps","question","tops","feeds"]
abbrev Mz:List Str:=["_law_script","_law_k"]
abbrev MF:List Str:=["_law_kind","_law_marks","_law_a","_law_b"]
abbrev MJ:List Str:=["_law_a","_law_b","_law_v"]
abbrev Rx:List Str:=["_law_kind","_law_bag","_law_ties_here","_law_marks"]
abbrev Ry:List Str:=["_law_found","_law_state_here"]
abbrev Xo:List Str:=["self","graph","leaf","whole"]
abbrev Xp:List Str:=["self","graph","many","weights"]
abbrev Xq:List Str:=["number","state","spot"]
abbrev Xr:List Str:=["_law_script","_law_n","_law_most"]
abbrev Xu:List Str:=["_law_v","_law_script"]
abbrev Xv:List Str:=["_law_script","_law_rows_here","_law_n","_law_kind","_law_marks"]
abbrev Xw:List Str:=["_law_web","_law_marks"]
abbrev Xx:List Str:=["_law_kind","_law_steps","_law_told","_law_weights","_law_marks"]
abbrev Ĥ:List Str:=["_law_a","_law_b","_law_bag","_law_above"]
def top(i:Nat):Stmt:=PySem.Challenge.pw_bagwood_k65_drawn_things_go_up.main.body.getD i (.Pass ⟨0,0,0,0⟩)
abbrev dD:=List Int
structure fH where
 m:Int
 b:Int
 src:List dD
abbrev cD:=List (dD×fH)
def ug(T:cD)(s:dD):Option fH:=(T.find? λx=>decide (x.1=s)).map (·.2)
def zB(T:cD)(s:dD)(r:fH):cD:=if(T.any λx=>decide (x.1=s))=true then T.map (λx=>if x.1=s then(x.1,r)else x)else T++[(s,r)]
def yd(bt:Int->Int->Bool)(r o:fH):fH:=if bt r.b o.b=true then r else o
def iK(bt:Int->Int->Bool)(T:cD)(s:dD)(r:fH):cD:=match ug T s with
 |none=>zB T s r
 |some o=>zB T s ⟨o.m+r.m,(yd bt r o).b,(yd bt r o).src⟩
def wJ(s:dD):List Key:=s.map Sum.inl
def a1H(s:dD):(wJ s).map kV=s.map V.int:=by
 unfold wJ;rw[nC];rfl
def CQ{s t:dD}(h:wJ s=wJ t):s=t:=by
 induction s generalizing t with
 |nil=>cases t with
  |nil=>rfl
  |cons a t=>cases h
 |cons a s ih=>cases t with
  |nil=>cases h
  |cons b t =>
   have h1:(Sum.inl a:Key)=Sum.inl b:=(Ov h).1;have h2:wJ s=wJ t:=(Ov h).2;grind
def uZ(H:Hp)(a:Addr)(s:dD):Prop:=H a=some (.tup (s.map V.int))
def uZ.key{H:Hp}{a:Addr}{s:dD}(h:uZ H a s):H a=some (.tup ((wJ s).map kV)):=by rw[a1H];exact h
def uZ.Xy{H:Hp}{a:Addr}{s:dD}(h:H a=some (.tup ((wJ s).map kV))):uZ H a s:=by rw[a1H]at h;exact h
inductive GJ(H:Hp)(v:V)(r:fH):Prop
 |mk (p q as:_) (_:v=.ref p) (_:H p=some (.tup [.int r.m,.int r.b,.ref q])) (_:H q=some (.tup (as.map V.ref))) (_:Paired (uZ H) as r.src)
def oh(H:Hp):List (List Key×V)->cD->Prop:=Paired λkv tr=>kv.1=wJ tr.1/\GJ H kv.2 tr.2
def rZ(H H':Hp):Prop:=∀c ys,H c=some (.tup ys)->H' c=some (.tup ys)
def rZ.trans{H H' S9:Hp}(a:rZ H H')(b:rZ H' S9):rZ H S9:=λc ys h=>b c ys (a c ys h)
def rZ.of{H H':Hp}(a:aH H H'):rZ H H':=λc ys h=>a c _ h
def uZ.keep{H H':Hp}{a:Addr}{s:dD}(k:rZ H H')(h:uZ H a s):uZ H' a s:=k _ _ h
def GJ.keep{H H':Hp}{v:V}{r:fH}(k:rZ H H')(h:GJ H v r):GJ H' v r:=by
 obtain⟨p,q,as,e,h1,h2,h3⟩:=h;exact⟨p,q,as,e,k _ _ h1,k _ _ h2,Paired.bU h3 λ_ _ z=>z.keep k⟩
def oh.keep{H H':Hp}{O:List (List Key×V)}{T:cD}(k:rZ H H')(h:oh H O T):oh H' O T:=Paired.bU h λ_ _ z=>⟨z.1,z.2.keep k⟩
def Sd(t:Addr)(H H':Hp):Prop:=∀c o,c≠t->H c=some o->H' c=some o
def Sd.refl{t:Addr}{H:Hp}:Sd t H H:=λ_ _ _ h=>h
def Sd.trans{t:Addr}{H H' S9:Hp}(a:Sd t H H')(b:Sd t H' S9):Sd t H S9:=λc o n h=>b c o n (a c o n h)
def Sd.of{t:Addr}{H H':Hp}(a:aH H H'):Sd t H H':=λc o _ h=>a c o h
def Sd.tups{t:Addr}{H H':Hp}{O:List (List Key×V)}(a:Sd t H H')(h:H t=some (.dT O)):rZ H H':=λc ys e=>a c _ (λz=>by grind) e
def Sd.a1I{t:Addr}{H H':Hp}{o:HO}(c:wF H t o H'):Sd t H H':=λb u n h=>by rw[c.rest b n];exact h
def Xz{H:Hp}(s:dD){O:List (List Key×V)}{T:cD}(h:oh H O T):(iJ O (wJ s)=none/\ug T s=none)\/∃v r,iJ O (wJ s)=some v/\ug T s=some r/\GJ H v r:=by
 induction h with
 |nil=>exact .inl ⟨Z,Z⟩
 | @cons p q O T h t ih =>
  obtain⟨k,v⟩:=p;obtain⟨s',r⟩:=q;obtain⟨e,hr⟩:=h;have e:k=wJ s':=e;subst e;unfold iJ ug at ih ⊢;by_cases c:s'=s
  ·grind
  ·rw[xj (by exact λz=>c (CQ (eZ z))),xj (by grind)];exact ih
def a0C{H:Hp}(s:dD){O:List (List Key×V)}{T:cD}(h:oh H O T):(O.any λkv=>decide (kv.1=wJ s))=(T.any λx=>decide (x.1=s)):=by
 induction h with
 |nil=>rfl
 | @cons p q O T h t ih =>
  obtain⟨k,v⟩:=p;obtain⟨s',r⟩:=q;have e:k=wJ s':=h.1;subst e;rw[tR,tR,ih];congr 1;exact decide_eq_decide.mpr ⟨λz=>CQ z,λz=>congrArg wJ z⟩
def a0D{H:Hp}{O:List (List Key×V)}{T:cD}{s:dD}{v:V}{r:fH}(h:oh H O T)(hr:GJ H v r):oh H (putK O (wJ s) v) (zB T s r):=by
 unfold putK zB;rw[a0C s h];by_cases c:(T.any λx=>decide (x.1=s))=true
 ·rw[aG c,aG c];clear c
  induction h with
  |nil=>exact .nil
  | @cons kv tr _ _ a _ ih =>
   refine .cons ?_ ih;obtain⟨k,v0⟩:=kv;obtain⟨s',r0⟩:=tr;obtain⟨e,h0⟩:=a;have e:k=wJ s':=e;subst e;dsimp only;by_cases c:s'=s
   ·grind
   ·rw[aB (λz=>c (CQ z)),aB c];grind
 ·rw[aB c,aB c];exact Paired.snoc h ⟨Z,hr⟩
structure PQ(κ:Type) where
 leaf:dD
 whole:dD
 bt:Int->Int->Bool
 sh:dD->List κ
 jn:dD->dD->List dD
 inn:dD->Nat->Nat->List (dD×Int)
 tie:dD->Nat->Nat->Int×Int->List (dD×Int)
 out:dD->Nat->Nat->List (dD×Int)
 Ok:Nat->dD->Prop
inductive ŭ(H:Hp)(v:V)(x:dD×Int):Prop
 |mk (p a:_) (_:v=.ref p) (_:H p=some (.tup [.ref a,.int x.2])) (_:uZ H a x.1)
def ŭ.keep{H H':Hp}{v:V}{x:dD×Int}(k:rZ H H')(h:ŭ H v x):ŭ H' v x:=by
 obtain⟨p,a,e,h1,h2⟩:=h;exact⟨p,a,e,k _ _ h1,h2.keep k⟩
def SvL(H:Hp)(v:V)(x:dD):Prop:=∃a,v=.ref a/\uZ H a x
section
variable{P:Program}{w:World}{κ:Type} [DecidableEq κ]
inductive JL(pq:PQ κ)(At:Hp->Addr->Prop)(vs:List V)(H:Hp)(Q:VK)(u_3:XK):Prop
 |mk (d:Addr) (a b:Int) (_:vs=[.ref d,.int a,.int b]) (_:At H d) (_:Q (.bl (pq.bt a b)) H)
inductive JM(knd:KeyKind P w κ)(pq:PQ κ)(At:Hp->Addr->Prop)(vs:List V)(H:Hp)(Q:VK)(u_3:XK):Prop
 |mk (d a:Addr) (m:Nat) (s:dD) (_:vs=[.ref d,.ref a]) (_:At H d) (_:uZ H a s) (_:pq.Ok m s) (_:m<=5) (_:∀b H',aH H H'->Zi knd H' b (pq.sh s)->Q (.ref b) H')
inductive JN(pq:PQ κ)(At:Hp->Addr->Prop)(vs:List V)(H:Hp)(Q:VK)(u_3:XK):Prop
 |mk (d a b:Addr) (m:Nat) (s t:dD) (_:vs=[.ref d,.ref a,.ref b]) (_:At H d) (_:uZ H a s) (_:uZ H b t) (_:pq.Ok m s) (_:pq.Ok m t) (_:m<=5) (_:pq.sh s=pq.sh t) (_:∀r xs H',aH H H'->H' r=some (.lst xs)->Paired (SvL H') xs (pq.jn s t)->Q (.ref r) H')
inductive XC(pq:PQ κ)(At:Hp->Addr->Prop)(vs:List V)(H:Hp)(Q:VK)(u_3:XK):Prop
 |mk (d a:Addr) (m spot v:Nat) (s:dD) (_:vs=[.ref d,.ref a,.int spot,.int v]) (_:At H d) (_:uZ H a s) (_:pq.Ok m s) (_:m<=4) (_:spot<=m) (_:∀r xs H',aH H H'->H' r=some (.lst xs)->Paired (ŭ H') xs (pq.inn s spot v)->Q (.ref r) H')
inductive XD(pq:PQ κ)(At:Hp->Addr->Prop)(Pl:Nat->Prop)(vs:List V)(H:Hp)(Q:VK)(u_3:XK):Prop
 |mk (d a:Addr) (m spot v:Nat) (s:dD) (_:vs=[.ref d,.ref a,.int spot,.int v]) (_:At H d) (_:uZ H a s) (_:pq.Ok m s) (_:m<=5) (_:spot<m) (_:Pl v) (_:∀r xs H',aH H H'->H' r=some (.lst xs)->Paired (ŭ H') xs (pq.out s spot v)->Q (.ref r) H')
inductive XF(pq:PQ κ)(At:Hp->Addr->Prop)(Ti:Int×Int->Prop)(vs:List V)(H:Hp)(Q:VK)(u_3:XK):Prop
 |mk (d a p:Addr) (m dG aV:Nat) (t:Int×Int) (s:dD) (_:vs=[.ref d,.ref a,.int dG,.int aV,.ref p]) (_:At H d) (_:uZ H a s) (_:pq.Ok m s) (_:m<=5) (_:dG<m) (_:aV<m) (_:dG≠aV) (_:Ti t) (_:H p=some (.tup [.int t.1,.int t.2])) (_:∀r xs H',aH H H'->H' r=some (.lst xs)->Paired (ŭ H') xs (pq.tie s dG aV t)->Q (.ref r) H')
structure QM(P:Program)(w:World)(K:aK)(mg:Str->Option Value)(base:Heap)(C:Addr)(m:Str)(ps:List Str)(k:Nat)(sp:Sp) where
 f:Addr
 fd:FuncData
 mt:Meth K C m f
 b:Binds K fd ps []
 ok:bh P w K mg base gj k f fd ps sp
set_option genInjectivity false in
structure JQ(P:Program)(w:World)(K:aK)(mg:Str->Option Value)(base:Heap)(κ:Type) [DecidableEq κ] where
 C:Addr
 cl:Cls K C
 knd:KeyKind P w κ
 pq:PQ κ
 At:Hp->Addr->Prop
 Pl:Nat->Prop
 Ti:Int×Int->Prop
 n:Nat
 ts:List bA
 keep:∀{H H':Hp}{d:Addr},(∀c o,(∀O,o≠.dT O)->(∀φ,o≠.ext φ)->H c=some o->H' c=some o)->At H d->At H' d
 ins:∀{H:Hp}{d:Addr},At H d->∃dx fs,H d=some (.ins C dx fs)/\(∀m,m∈(JG:List Str)->fs.lookup m=none)/\
  (∃a,fs.lookup ("leaf" : Str)=some (.ref a)/\uZ H a pq.leaf)/\(∃a,fs.lookup ("whole" : Str)=some (.ref a)/\uZ H a pq.whole)/\∃g,fs.lookup ("graph" : Str)=some g/\uY K H g n ts
 iw:eO K C "leaf"
 fV:eO K C "whole"
 fD:eO K C "graph"
 nR:QM P w K mg base C "is_better" j5 8 (JL pq At)
 rz:QM P w K mg base C "shared" wO 8 (JM knd pq At)
 vC:QM P w K mg base C "joined" j5 8 (JN pq At)
 vD:QM P w K mg base C "put_in" iB 8 (XC pq At)
 nU:QM P w K mg base C "taken_out" iB 8 (XD pq At Pl)
 Fe:QM P w K mg base C "tied" sI 8 (XF pq At Ti)
end
abbrev wK:Stmt:=top 27
def HS:bD ["question","table","state","row","old","better"] Gm (aF wK):={}
section
variable{P:Program}{w:World}{K:aK}{mg:Str->Option Value}{base:Heap}{κ:Type} [DecidableEq κ]
inductive a3a(Qn:JQ P w K mg base κ)(vs:List V)(H:Hp)(Q:VK)(u_3:XK):Prop
 |mk (d t a:Addr) (v:V) (O:List (List Key×V)) (T:cD) (s:dD) (r:fH) (_:vs=[.ref d,.ref t,.ref a,v]) (_:Qn.At H d) (_:H t=some (.dT O)) (_:oh H O T) (_:T.length<=4000) (_:uZ H a s) (_:GJ H v r) (_:∀kvs' H',Sd t H H'->H' t=some (.dT kvs')->oh H' kvs' (iK Qn.pq.bt T s r)->Q .non H')
def XH(Qn:JQ P w K mg base κ)(su:Dn K mg "note" wK Gm):bh P w K mg base gj 9 su.f su.fd Gm (a3a Qn):=by
 have La:bh P w K mg base gj 8 _ _ _ _:=Qn.nR.ok;refine su.F.ok HS λcZ A outer s H vs Q E hr h=>?_;obtain⟨d,t,a,v,O,T,st,r,rfl,hD,ht,hT,lT,ha,hv,q⟩:=h;have hw1:(A.deeper (PyProof.Rows.envOfC "note" (aF wK) s.heap.objs.size su.f cZ)).units+1<cLine:=by have:=hr.un;omega
 refine⟨_,(j4 (dN (aJ (a2U hw1) (pv 2) (pv 1) (by with_unfolding_all rfl))
   (aA (bF 4 HS.nd (Qc hw1 (pv 1) (pv 2) λ_ _=>rfl))
   (aA (bF 5 HS.nd (oN (gw (K:=K) Z (wA (pv 0) Qn.cl Qn.nR.mt La hr Qn.nR.b .nil b8 (J (aQ (aM (K:=K) Z) (pv 3) aq) (J (aQ (aM (K:=K) Z) (pv 4) aq) aj))) λ_=>rfl) (pv 3) (pv 4)))
   (aD (bF 3 HS.nd (bx (J (bC dO (aQ (aM (K:=K) Z) (pv 4) aq) (aQ (aM (K:=K) Z) (pv 3) aq)) (J (aQ (aM (K:=K) Z) (pv 5) aq) (J (aQ (aM (K:=K) Z) (pv 5) aq) aj))))))))
   bR)
   (aD (Am (pv 3) (UG (pv 1) (pv 2) (Mu hw1))))),?_⟩
 refine⟨λσ' G=>∃v' r' o4 o5,σ'=[some (.ref d),some (.ref t),some (.ref a),some v',o4,o5]/\aH H G/\GJ G v' r'/\iK Qn.pq.bt T st r=zB T st r',?_,?_⟩
 ·refine⟨_,Z,_,Z,a,t,wJ st,O,Z,Z,ha.key,ht,_,Z,?_⟩;rcases Xz st hT with⟨e1,e2⟩|⟨v0,r0,e1,e2,h0⟩
  ·rw[e1];refine cN ⟨v,r,none,none,Z,aH.refl _,hv,?_⟩;unfold iK;rw[e2]
  ·rw[e1];obtain⟨p,qs,as,rfl,hp,hq,hs⟩:=hv;obtain⟨p0,q0,as0,rfl,hp0,hq0,hs0⟩:=h0;refine gQ ⟨_,Z,_,Z,t,.ref p0,Z,by rw[<-e1];exact GF.t ht ha.key,?_⟩;obtain⟨dx,fs,hd,nom,_⟩:=Qn.ins hD;refine⟨_,Z,d,dx,fs,Z,hd,nom _ (by grind),⟨_,Z,p,_,_,.int r.b,Z,Z,cG.of hp,Z,_,Z,p0,_,_,.int r0.b,Z,Z,cG.of hp0,Z,⟨d,r.b,r0.b,Z,hD,_,Z,?_⟩⟩⟩;have fin:∀(pb:Addr) (rb:fH) (qb:Addr) (asb:List Addr),H pb=some (.tup [.int rb.m,.int rb.b,.ref qb])->H qb=some (.tup (asb.map V.ref))->Paired (uZ H) asb rb.src->rb=yd Qn.pq.bt r r0->∀p' H',gV H p' (.tup [.int (r0.m+r.m),.int rb.b,.ref qb]) H'->∃v' r' o4 o5,[some (V.ref d),some (.ref t),some (.ref a),some (.ref p'),some (.ref p0),some (.ref pb)]=[some (.ref d),some (.ref t),some (.ref a),some v',o4,o5]/\aH H H'/\GJ H' v' r'/\iK Qn.pq.bt T st r=zB T st r':=λpb rb qb asb h1 h2 h3 e p' H' nw=>by
    refine⟨_,⟨r0.m+r.m,rb.b,rb.src⟩,_,_,Z,nw.same,⟨p',qb,asb,Z,nw.here,nw.same _ _ h2,Paired.bU h3 λ_ _ z=>z.keep (.of nw.same)⟩,?_⟩;unfold iK;rw[e2,e]
   cases cb:Qn.pq.bt r.b r0.b with
   |true =>
    refine gQ ⟨_,Z,⟨_,Z,p0,_,_,.int r0.m,Z,Z,cG.of hp0,Z,_,Z,p,_,_,.int r.m,Z,Z,cG.of hp,Z,_,_,Z,Z,_,Z,p,_,_,.int r.b,Z,Z,cG.of hp,Z,_,Z,p,_,_,.ref qs,Z,Z,cG.of hp,Z,(by grind),λp' H' nw=>?_⟩⟩;exact fin p r qs as hp hq hs (by unfold yd;rw[cb];rfl) p' H' nw
   |false =>
    refine cN ⟨_,Z,⟨_,Z,p0,_,_,.int r0.m,Z,Z,cG.of hp0,Z,_,Z,p,_,_,.int r.m,Z,Z,cG.of hp,Z,_,_,Z,Z,_,Z,p0,_,_,.int r0.b,Z,Z,cG.of hp0,Z,_,Z,p0,_,_,.ref q0,Z,Z,cG.of hp0,Z,(by grind),λp' H' nw=>?_⟩⟩;exact fin p0 r0 q0 as0 hp0 hq0 hs0 (by unfold yd;rw[cb];rfl) p' H' nw
 rintro σ' G ⟨v',r',o4,o5,rfl,sG,hr',e⟩;have lk:=aY hT;refine⟨_,Z,_,Z,_,Z,t,a,wJ st,O,Z,Z,(ha.keep (.of sG)).key,sG _ _ ht,by omega,λG' c=>?_⟩;have ts:rZ G G':=λc' ys hc=>by
  rw[c.rest c' (λz=>by rw[z,sG _ _ ht]at hc;cases hc)];exact hc
 refine q _ G' (Sd.trans (.of sG) (.a1I c)) c.here ?_;rw[e];exact((a0D (hT.keep (.of sG)) hr').keep ts)
end
end K
namespace L2
open PySem.Calls PyProof.Rows
section
variable{X:Cx}
inductive a4O(x:V)(vs:List V)(H:Hp)(Q:VK):Prop
 |mk (l:Addr) (ns:List Int) (v:Int) (j:Nat) (_:x=.ref l) (_:vs=[.int v]) (_:H l=some (.lst (List.map V.int ns))) (_:ns[j]?=some v) (_:(∀m:Nat,m<j->ns[m]?≠some v)) (_:ns.length<=1000) (_:Q (.int (j:Int)) H)
def isV(v:Int):Value->Bool
 |.int a _=>a==v
 |_=>false
def MK:Å X "list.index" a4O:=by
 intro Y s σ H x vs w us Q I rx rv h;obtain⟨l,ns,v,j,rfl,rfl,hH,hj,hno,hz,q⟩:=h;cases rx;obtain⟨u,rfl,ru⟩:=vals1 rv;obtain⟨t,rfl⟩:=(show ∃t,u=Value.int v t from ru);obtain⟨z,cg,n,r,hl,e⟩:=I.î hH;have hi:=ints_of r;have len:=hi.length;have at_:∀m (hm:m<cg.length),∃k tk,cg[m]=Value.int k tk/\ns[m]?=some k:=λm hm=>by
  have hm2:m<ns.length:=by omega
  obtain⟨tk,e⟩:=hi.get m ns[m] (bV hm2);grind
 have jl:j<cg.length:=by grind
 refine O3 F.slot_list_index ⟨_,e,Z⟩ F.entry_list_index (F.args_list_index_2 _ _) (MeetsSeq.list_index l cg.toArray n (.int v t) (isV v) (λy hy=>?_) j (by grind) (by omega) ?_ λm hm hmj=>?_) ⟨e,?_⟩
 ·obtain⟨m,hm,em⟩:=uO (show y∈cg by grind);obtain⟨k,tk,e1,_⟩:=at_ m hm;rw[<-em,e1];exact MeetsSeq.EqGives.int k v tk t
 ·obtain⟨k,tk,e1,e2⟩:=at_ j jl;rw[hj]at e2;injection e2 with e2
  simp only[List.getElem_toArray];rw[e1,<-e2];exact Oo v
 ·have hm':m<cg.length:=by simpa using hm
  obtain⟨k,tk,e1,e2⟩:=at_ m hm';simp only[List.getElem_toArray];rw[e1];show(k==v)=false;grind
 ·exact⟨.int j,H,I.tok _,⟨_,Z⟩,q⟩
end
end L2
namespace K
open L2 Lw Bg
inductive aU where
 |leaf
 |inn (v:Int)
 |tie (a b:Int)
 |out (v:Int)
 |join
deriving DecidableEq
variable{H:Hp}{K:aK}
def aU.vs:aU->List V
 |.leaf=>[.str "leaf"]
 |.inn v=>[.str "in",.int v]
 |.tie a b=>[.str "tie",.int a,.int b]
 |.out v=>[.str "out",.int v]
 |.join=>[.str "join"]
def aU.d:aU->PyData
 |.leaf=>.tuple [.str "leaf"]
 |.inn v=>.tuple [.str "in",.int v]
 |.tie a b=>.tuple [.str "tie",.int a,.int b]
 |.out v=>.tuple [.str "out",.int v]
 |.join=>.tuple [.str "join"]
def aU.word:aU->Str
 |.leaf=>"leaf"
 |.inn _=>"in"
 |.tie _ _=>"tie"
 |.out _=>"out"
 |.join=>"join"
def aU.need:aU->Nat
 |.leaf=>0
 |.join=>2
 |_=>1
def vG(K:aK)(H:Hp)(v:V)(s:aU):Prop:=∃p,v=.ref p/\cG K H p s.vs
def vG.same{H':Hp}{v:V}{s:aU}(e:aH H H')(h:vG K H v s):vG K H' v s:=by
 obtain⟨p,rfl,h⟩:=h;exact⟨p,Z,e.wC h⟩
def vG.isD{v:V}{s:aU}(h:vG K H v s):Pn K H v s.d:=by
 obtain⟨p,rfl,h⟩:=h;cases s with
 |leaf=>exact .tup h (.cons (.str _) .nil)
 |inn v=>exact .tup h (.cons (.str _) (.cons (.int _) .nil))
 |tie a b=>exact .tup h (.cons (.str _) (.cons (.int _) (.cons (.int _) .nil)))
 |out v=>exact .tup h (.cons (.str _) (.cons (.int _) .nil))
 |join=>exact .tup h (.cons (.str _) .nil)
def Zr:iJ Gk (.inr "leaf")=some (.int 0):=by decide
def a0E:iJ Gk (.inr "in")=some (.int 1):=by decide
def ĥ:iJ Gk (.inr "tie")=some (.int 1):=by decide
def Ħ:iJ Gk (.inr "out")=some (.int 1):=by decide
def Zt:iJ Gk (.inr "join")=some (.int 2):=by decide
def a0F(s:aU):iJ Gk (.inr s.word)=some (.int (s.need:Int)):=by
 cases s with
 |leaf=>exact Zr
 |inn v=>exact a0E
 |tie a b=>exact ĥ
 |out v=>exact Ħ
 |join=>exact Zt
def a0G(s:aU):S8 s.vs ((0:Nat):Int)=some (.str s.word):=by cases s<;>rfl
def a3b:∀x∈["leaf","in","tie","out","join"],PyData.strOk (Str.ofString x)=true:=by decide
def XJ(s:aU):s.d.canLay0=true:=by
 have h:=a3b;cases s with
 |leaf=>simp[aU.d,PyData.canLay0,PyData.canLayAll0,h]
 |inn v=>simp[aU.d,PyData.canLay0,PyData.canLayAll0,h]
 |tie a b=>simp[aU.d,PyData.canLay0,PyData.canLayAll0,h]
 |out v=>simp[aU.d,PyData.canLay0,PyData.canLayAll0,h]
 |join=>simp[aU.d,PyData.canLay0,PyData.canLayAll0,h]
def MN(s:aU):s.d.depth<=1:=by cases s<;>simp[aU.d,PyData.depth,PyData.depthAll]
def V2(s:aU):SeqAt.shaped s.d=true:=by
 unfold SeqAt.shaped;rw[XJ,Je];exact bO (by have:=MN s;omega)
def Rz(ss:List aU):SeqAt.shaped (.list (ss.map aU.d))=true:=by
 unfold SeqAt.shaped;rw[PyData.canLay0,HD XJ,PyData.depth,Je];exact bO (by have:=vA MN ss;omega)
def aU.tag:aU->Nat
 |.leaf=>0
 |.inn _=>1
 |.tie _ _=>2
 |.out _=>3
 |.join=>4
def aU.args:aU->List Int
 |.leaf=>[]
 |.inn v=>[v]
 |.tie a b=>[a,b]
 |.out v=>[v]
 |.join=>[]
def Gr(i:Nat):Str:=Str.ofString (["leaf","in","tie","out","join"].getD i "")
def JR:∀i,i<5->∀j,j<5->(Gr i==Gr j)=decide (i=j):=by decide
def JS(s:aU):s.word=Gr s.tag:=by cases s<;>rfl
def V3(s:aU):s.tag<5:=by cases s<;>simp[aU.tag]
def a1J(s:aU):s.d=.tuple (.str s.word::s.args.map PyData.int):=by cases s<;>rfl
def a3c{s t:aU}(h:s.tag=t.tag)(a:s.args=t.args):s=t:=by
 cases s<;>cases t<;>simp_all[aU.tag,aU.args]
theorem Gs:∀xs ys:List Int,PyData.eqvAll (xs.map PyData.int) (ys.map PyData.int)=decide (xs=ys)
 | [],[]=>by simp[PyData.eqvAll]
 | [],_::_=>by simp[PyData.eqvAll]
 |_::_,[]=>by simp[PyData.eqvAll]
 |x::xs,y::ys=>by
  rw[cL,cL,PyData.eqvAll,Gs xs ys,PyData.eqv,rU]
  simp
def XM(s t:aU):PyData.eqv s.d t.d=decide (s=t):=by
 rw[a1J,a1J,PyData.eqv,PyData.eqvAll,Gs,PyData.eqv,JS,JS,JR _ (V3 s) _ (V3 t),rU,oH,dY,dY,dY];exact⟨λh=>a3c h.1 h.2,λh=>by grind⟩
def a0H(ss:List aU)(t:aU):(ss.map aU.d).any (λe=>PyData.eqv e t.d)=decide (t∈ss):=by
 rw[List.any_map,rU,Ad,dY];constructor
 ·rintro⟨x,hx,e⟩;have:PyData.eqv x.d t.d=true:=e;rw[XM]at this;grind
 ·exact λh=>⟨t,h,by show PyData.eqv t.d t.d=true;rw[XM];grind⟩
abbrev gU:Stmt:=top 25
def vH:bD ["question","old","step","bag","spot"] JH (aF gU):={}
section
variable{P:Program}{w:World}{mg:Str->Option Value}{base:Heap}{κ:Type} [DecidableEq κ]
def MP(pq:PQ κ)(s:dD)(iM:aU)(B:List Int):List (dD×Int):=match iM with
 |.inn v=>pq.inn s (B.idxOf v) v.toNat
 |.out v=>pq.out s (B.idxOf v) v.toNat
 |.tie a b=>pq.tie s (B.idxOf a) (B.idxOf b) (a,b)
 |_=>[]
def HW(Qn:JQ P w K mg base κ)(iM:aU)(B:List Int)(m:Nat):Prop:=match iM with
 |.inn v=>(∃n:Nat,v=(n:Int))/\v∈B/\B.length=m+1/\m<=4
 |.out v=>(∃n:Nat,v=(n:Int)/\Qn.Pl n)/\v∈B/\B.length=m/\m<=5
 |.tie a b=>a∈B/\b∈B/\a≠b/\B.length=m/\m<=5/\Qn.Ti (a,b)
 |_=>False
def Fg{B:List Int}{v:Int}(h:v∈B):B[B.idxOf v]?=some v/\∀m:Nat,m<B.idxOf v->B[m]?≠some v:=by
 induction B with
 |nil=>cases h
 |cons x B ih =>
  grind
def a3d{B:List Int}{a b:Int}(h:a∈B)(h':b∈B)(n:a≠b):B.idxOf a≠B.idxOf b:=λe=>by
 have h1:=(Fg h).1;have h2:=(Fg h').1;rw[e,h2]at h1;exact n (gh h1).symm
inductive ħ(Qn:JQ P w K mg base κ)(vs:List V)(H:Hp)(Q:VK)(u_3:XK):Prop
 |mk (d a ps pb:Addr) (s:dD) (iM:aU) (B:List Int) (m:Nat) (_:vs=[.ref d,.ref a,.ref ps,.ref pb]) (_:Qn.At H d) (_:uZ H a s) (_:Qn.pq.Ok m s) (_:cG K H ps iM.vs) (_:H pb=some (.lst (B.map V.int))) (_:HW Qn iM B m) (_:∀r xs H',aH H H'->H' r=some (.lst xs)->Paired (ŭ H') xs (MP Qn.pq s iM B)->Q (.ref r) H')
def Fi(Qn:JQ P w K mg base κ)(wV:Dn K mg "states_behind" gU JH):bh P w K mg base gj 9 wV.f wV.fd JH (ħ Qn):=by
 have V4:bh P w K mg base gj 8 _ _ _ _:=Qn.vD.ok;have Lb:bh P w K mg base gj 8 _ _ _ _:=Qn.nU.ok;have Ĩ:bh P w K mg base gj 8 _ _ _ _:=Qn.Fe.ok;refine wV.F.ok vH λcZ A outer s H vs Q E hr h=>?_;obtain⟨d,a,ps,pb,st,iM,B,m,rfl,hD,ha,ok,hs,hb,fit,q⟩:=h;obtain⟨dx,fs,hd,nom,_⟩:=Qn.ins hD;refine⟨_,(aA (bF 4 vH.nd (uX (K:=K) Z qw PySem.F.slot_list_index PySem.F.type_list_index MK (pv 3) (J (aQ (aM (K:=K) Z) (pv 2) aq) aj)))
   (aA (dN (aJ jb (aQ (aM (K:=K) Z) (pv 2) aq) gJ)
   (aD (bI (wA (pv 0) Qn.cl Qn.vD.mt V4 hr Qn.vD.b .nil b8 (J (pv 1) (J (pv 4) (J (aQ (aM (K:=K) Z) (pv 2) aq) aj))))))
   bR)
   (aA (dN (aJ jb (aQ (aM (K:=K) Z) (pv 2) aq) gJ)
   (aD (bI (wA (pv 0) Qn.cl Qn.nU.mt Lb hr Qn.nU.b .nil b8 (J (pv 1) (J (pv 4) (J (aQ (aM (K:=K) Z) (pv 2) aq) aj))))))
   bR)
   (aD (bI (wA (pv 0) Qn.cl Qn.Fe.mt Ĩ hr Qn.Fe.b .nil b8 (J (pv 1) (J (pv 4) (J (uX (K:=K) Z qw PySem.F.slot_list_index PySem.F.type_list_index MK (pv 3) (J (aQ (aM (K:=K) Z) (pv 2) aq) aj)) (J (jG (HJ (K:=K) Z) (pv 2) (lR aq) lQ) aj)))))))))),?_⟩
 have lB:B.length<=1000:=by
  cases iM<;>first|exact fit.elim|skip
  ·obtain⟨_,_,e,l⟩:=fit;omega
  ·obtain⟨_,_,_,e,l,_⟩:=fit;omega
  ·obtain⟨_,_,e,l⟩:=fit;omega
 have fld:∀(mth:Str),mth∈(JG:List Str)->fs.lookup mth=none:=nom;cases iM with
 |leaf=>exact fit.elim
 |join=>exact fit.elim
 |inn v =>
  obtain⟨⟨n,rfl⟩,hv,el,m4⟩:=fit;have ix:=Fg hv;refine⟨_,Z,.inl ⟨Z,_,bG.of hb⟩,_,Z,ps,_,_,_,Z,Z,hs,Z,pb,B,_,_,Z,Z,hb,ix.1,ix.2,lB,⟨_,Z,ps,_,_,_,Z,Z,hs,Z,Z,_,Z,gQ ⟨_,Z,d,dx,fs,Z,hd,fld _ (by decide),_,Z,_,Z,_,Z,ps,_,_,_,Z,Z,hs,Z,⟨d,a,m,_,n,st,Z,hD,ha,ok,m4,?_,λr xs H' s' h1 h2=>q r xs H' s' h1 h2⟩⟩⟩⟩;grind
 |out v =>
  obtain⟨⟨n,rfl,pn⟩,hv,el,m5⟩:=fit;have ix:=Fg hv;refine⟨_,Z,.inl ⟨Z,_,bG.of hb⟩,_,Z,ps,_,_,_,Z,Z,hs,Z,pb,B,_,_,Z,Z,hb,ix.1,ix.2,lB,⟨_,Z,ps,_,_,_,Z,Z,hs,Z,Z,_,Z,cN ⟨_,Z,ps,_,_,_,Z,Z,hs,Z,Z,_,Z,gQ ⟨_,Z,d,dx,fs,Z,hd,fld _ (by decide),_,Z,_,Z,_,Z,ps,_,_,_,Z,Z,hs,Z,⟨d,a,m,_,n,st,Z,hD,ha,ok,m5,?_,pn,λr xs H' s' h1 h2=>q r xs H' s' h1 h2⟩⟩⟩⟩⟩;grind
 |tie x y =>
  obtain⟨hx,hy,ne,el,m5,ti⟩:=fit;have ix:=Fg hx;have iy:=Fg hy;refine⟨_,Z,.inl ⟨Z,_,bG.of hb⟩,_,Z,ps,_,_,_,Z,Z,hs,Z,pb,B,_,_,Z,Z,hb,ix.1,ix.2,lB,⟨_,Z,ps,_,_,_,Z,Z,hs,Z,Z,_,Z,cN ⟨_,Z,ps,_,_,_,Z,Z,hs,Z,Z,_,Z,cN ⟨_,Z,d,dx,fs,Z,hd,fld _ (by decide),_,Z,_,Z,_,Z,.inl ⟨Z,_,bG.of hb⟩,_,Z,ps,_,_,_,Z,Z,hs,Z,pb,B,_,_,Z,Z,hb,iy.1,iy.2,lB,_,Z,?_⟩⟩⟩⟩;refine⟨_,Z,ps,_,Z,hs,(λz=>absurd z.1 (show ¬(1:Nat)=0 by decide)),λpt H1 n1=>?_⟩;have s1:=n1.same;refine⟨d,a,pt,m,_,_,(x,y),st,Z,Qn.keep (λc o _ _ e=>s1 c o e) hD,ha.keep (.of s1),ok,m5,?_,?_,a3d hx hy ne,ti,n1.here,λr xs H' s' h1 h2=>q r xs H' (s1.trans s') h1 h2⟩
  ·grind
  grind
end
abbrev lX:Stmt:=top 24
def mQ:bD ["question","table","source","step","bag","old","row","state","amount"] Mv (aF lX):={}
section
variable{P:Program}{w:World}{mg:Str->Option Value}{base:Heap}{κ:Type} [DecidableEq κ]
def Nd(H H':Hp):Prop:=∀c o,(∀O,o≠.dT O)->(∀φ,o≠.ext φ)->H c=some o->H' c=some o
def Nd.trans{H' S9:Hp}(a:Nd H H')(b:Nd H' S9):Nd H S9:=λc o n m h=>b c o n m (a c o n m h)
def Nd.of{H':Hp}(a:aH H H'):Nd H H':=λc o _ _ h=>a c o h
def Nd.sd{t:Addr}{H':Hp}{O:List (List Key×V)}(a:Sd t H H')(h:H t=some (.dT O)):Nd H H':=λc o n _ e=>a c o (λz=>by grind) e
def Nd.kj{t:Addr}{O:List (List Key×V)}{u:HO}(h:H t=some (.dT O)):Nd H (cO H t u):=λc o n _ e=>by
 rw[aZ (λz=>by grind)];exact e
def Nd.Qf{t:Addr}{ob:Obj}{O:List (List Key×V)}{u:HO}(h:H t=some (.kj ob (.dT O)))(c:Addr)(ys:List V)(e:H c=some (.tup ys)):cO H t u c=some (.tup ys):=by
 rw[aZ (λz=>by grind)];exact e
def Nd.tups{H':Hp}(a:Nd H H'):rZ H H':=λc ys e=>a c _ (λ_ z=>by cases z) (λ_ z=>by cases z) e
def Nd.lst{H H':Hp}(a:Nd H H'){c:Addr}{ys:List V}(e:H c=some (.lst ys)):H' c=some (.lst ys):=a c _ (λ_ z=>by cases z) (λ_ z=>by cases z) e
def Nd.sqt{H':Hp}(a:Nd H H'){c:Addr}{ys:List V}(e:cG K H c ys):cG K H' c ys:=by
 rcases e with(e|⟨o,e⟩)|e
 ·exact .inl (.inl (a c _ (λ_ z=>by cases z) (λ_ z=>by cases z) e))
 ·exact .inl (.inr ⟨o,a c _ (λ_ z=>by cases z) (λ_ z=>by cases z) e⟩)
 ·exact .inr e
def Nd.at(Qn:JQ P w K mg base κ){H':Hp}{d:Addr}(a:Nd H H')(h:Qn.At H d):Qn.At H' d:=Qn.keep a h
def jc(bt:Int->Int->Bool)(old:dD)(row:fH):List (dD×Int)->cD->cD
 | [],T=>T
 |x::l,T=>jc bt old row l (iK bt T x.1 ⟨row.m,row.b+x.2,[old]⟩)
def lF(pq:PQ κ)(iM:aU)(B:List Int):cD->cD->cD
 | [],T=>T
 |x::S,T=>lF pq iM B S (jc pq.bt x.1 x.2 (MP pq x.1 iM B) T)
theorem CT(bt:Int->Int->Bool)(old:dD)(row:fH)(x:dD×Int):∀(l:List (dD×Int)) (T:cD),jc bt old row (l++[x]) T=iK bt (jc bt old row l T) x.1 ⟨row.m,row.b+x.2,[old]⟩
 | [],_=>rfl
 |_::l,T=>CT bt old row x l _
theorem JT(pq:PQ κ)(iM:aU)(B:List Int)(x:dD×fH):∀(S T:cD),lF pq iM B (S++[x]) T=jc pq.bt x.1 x.2 (MP pq x.1 iM B) (lF pq iM B S T)
 | [],_=>rfl
 |_::S,T=>JT pq iM B x S _
def a3e(pq:PQ κ)(iM:aU)(B:List Int)(S T:cD):Prop:=∀i,i<=S.length->∀x,S[i]?=some x->∀j,j<=(MP pq x.1 iM B).length->(jc pq.bt x.1 x.2 ((MP pq x.1 iM B).take j) (lF pq iM B (S.take i) T)).length<=4000
inductive ĩ(Qn:JQ P w K mg base κ)(vs:List V)(H:Hp)(Q:VK)(u_3:XK):Prop
 |mk (d t sc ps pb:Addr) (O nH:List (List Key×V)) (T S:cD) (iM:aU) (B:List Int) (m:Nat) (_:vs=[.ref d,.ref t,.ref sc,.ref ps,.ref pb]) (_:Qn.At H d) (_:H t=some (.dT O)) (_:oh H O T) (_:H sc=some (.dT nH)) (_:oh H nH S) (_:t≠sc) (_:(∀x∈S,Qn.pq.Ok m x.1)) (_:cG K H ps iM.vs) (_:H pb=some (.lst (B.map V.int))) (_:HW Qn iM B m) (_:S.length<=4000) (_:a3e Qn.pq iM B S T) (_:∀kvs' H',Sd t H H'->H' t=some (.dT kvs')->oh H' kvs' (lF Qn.pq iM B S T)->Q .non H')
def opq{P:Nat->St->Hp->Prop}{R:Prop}(h:∀Z97:Nat->St->Hp->Prop,(∀i σ H,P i σ H->Z97 i σ H)->(∀i σ H,Z97 i σ H->P i σ H)->R):R:=h P (λ_ _ _ z=>z) (λ_ _ _ z=>z)
def Ld(Qn:JQ P w K mg base κ)(wV:Dn K mg "states_behind" gU JH)(su:Dn K mg "note" wK Gm)(zE:Dn K mg "fill_along" lX Mv):bh P w K mg base gj 10 zE.f zE.fd Mv (ĩ Qn):=by
 have a6h:bh P w K mg base gj 9 _ _ _ _:=Fi Qn wV;have a3f:bh P w K mg base gj 9 _ _ _ _:=XH Qn su;refine zE.F.ok mQ λcZ A outer s H vs Q E hr h=>?_;obtain⟨d,t,sc,ps,pb,O,nH,T,S,iM,B,m,rfl,hD,ht,hT,hsc,hS,nts,vU,hs,hb,fit,lS,lim,q⟩:=h;refine⟨_,(aD (JB (kY jV Z (Fd (wD (K:=K) Z NT Tq Tr Fb (pv 2))) (jy (K:=K) (n:=2) Z Z (bY (aL 5 mQ.nd) (bY (aL 6 mQ.nd) jx)))
   (aD (kY jV Z (cX (K:=K) Z (bf a6h hr Z wV.m wV.F.kp wV.b .nil b8 (J (pv 0) (J (pv 5) (J (pv 3) (J (pv 4) aj)))))) (jy (K:=K) (n:=2) Z Z (bY (aL 7 mQ.nd) (bY (aL 8 mQ.nd) jx)))
   (aD (jw (bf a3f hr Z su.m su.F.kp su.b .nil b8 (J (pv 0) (J (pv 1) (J (pv 7) (J (bx (J (aQ (aM (K:=K) Z) (pv 6) aq) (J (bC dO (aQ (aM (K:=K) Z) (pv 6) aq) (pv 8)) (J (bx (J (pv 5) aj)) aj)))) aj)))))))))))),?_⟩
 refine⟨_,Z,.inr (.inr (.inl ⟨Z,.inr ⟨_,hsc⟩⟩)),sc,nH,Z,Z,hsc,λpv H1 n1=>⟨pv,sc,nH,Z,n1.here,n1.same _ _ hsc,λo as pk=>?_⟩⟩;have h1s:=n1.same _ _ hsc;have nd0:Nd H (cO H1 sc (.kj o (.dT nH))):=(Nd.of n1.same).trans (Nd.kj h1s);have g0s:cO H1 sc (.kj o (.dT nH)) sc=some (.kj o (.dT nH)):=eG;have g0t:cO H1 sc (.kj o (.dT nH)) t=some (.dT O):=by rw[aZ nts];exact n1.same _ _ ht
 have g0r:∀c,c≠sc->cO H1 sc (.kj o (.dT nH)) c=H1 c:=λc hc=>aZ hc;generalize cO H1 sc (.kj o (.dT nH))=G0 at pk nd0 g0s g0t g0r ⊢;have lk:=aY hS;have la:=aY pk;refine opq (P:=λi σ G=>(∃o5 o6 o7 o8,σ=[some (.ref d),some (.ref t),some (.ref sc),some (.ref ps),some (.ref pb),o5,o6,o7,o8])/\Sd t G0 G/\∃kt,G t=some (.dT kt)/\oh G kt (lF Qn.pq iM B (S.take i) T)) λZ97 ji ij=>JF Z97 (ji _ _ _ ⟨⟨_,_,_,_,Z⟩,.refl,O,g0t,hT.keep nd0.tups⟩) (λi σ G _ h=>(ij _ _ _ h).2.1 _ _ (Ne.symm nts) g0s) ?_ ?_
 ·intro i a0 v0 σ G p G1 ha0 hv0 h nw;obtain⟨⟨o5,o6,o7,o8,rfl⟩,sG,kt,hkt,hTt⟩:=ij _ _ _ h;obtain⟨kv,hkv,hak⟩:=bT pk ha0;obtain⟨⟨old,row⟩,hsx,ek,hrow⟩:=bT hS hkv;have ek:kv.1=wJ old:=ek;have hv0':v0=kv.2:=by
   rw[iW,hkv]at hv0;exact(gh hv0).symm
  subst hv0';rw[ek]at hak;have nG:Nd G0 G:=.sd sG g0t;have n1':aH G G1:=nw.same;have nG1:Nd G0 G1:=nG.trans (.of n1');have nH1:Nd H G1:=nd0.trans nG1;have hold:uZ G1 a0 old:=uZ.Xy (nG1.tups _ _ hak);have Ī:GJ G1 kv.2 row:=hrow.keep nH1.tups;have mem:(old,row)∈S:=jA hsx;refine⟨p,_,Z,cG.of nw.here,Z,_,_,Z,_,_,Z,Z,⟨_,Z,_,Z,_,Z,_,Z,d,a0,ps,pb,old,iM,B,m,Z,nH1.at Qn hD,hold,vU _ mem,nH1.sqt hs,nH1.lst hb,fit,λr xs G2 s2 hr2 pm=>⟨r,Z,⟨_,bG.of hr2⟩,?_⟩⟩⟩;have hT2:oh G2 kt (lF Qn.pq iM B (S.take i) T):=hTt.keep (rZ.of (n1'.trans s2));have ht2:G2 t=some (.dT kt):=(n1'.trans s2) _ _ hkt;have lpm:=aY pm;have a6i:=lim i (dH (fG.mp hsx).1) _ hsx;have hTi:S.take (i+1)=S.take i++[(old,row)]:=by rw[jX,hsx];rfl
  refine opq (P:=λj σ G'=>(∃o7 o8,σ=[some (.ref d),some (.ref t),some (.ref sc),some (.ref ps),some (.ref pb),some (.ref a0),some kv.2,o7,o8])/\Sd t G2 G'/\∃Zu,G' t=some (.dT Zu)/\oh G' Zu (jc Qn.pq.bt old row ((MP Qn.pq old iM B).take j) (lF Qn.pq iM B (S.take i) T))) λJ2 ji2 ij2=>xU (K:=K) (a:=r) (xs:=xs) J2 (ji2 _ _ _ ⟨⟨_,_,Z⟩,.refl,kt,ht2,hT2⟩) (λj σ G' _ h=>bG.of ((Nd.sd (ij2 _ _ _ h).2.1 ht2).lst hr2)) ?_ ?_
  ·intro j x σ G' hx h2;obtain⟨⟨o7,o8,rfl⟩,Ů,Zu,V5,hT'⟩:=ij2 _ _ _ h2;obtain⟨⟨st',am⟩,hmx,pp,aa,rfl,mR,haa⟩:=bT pm hx;have n2':Nd G2 G':=.sd Ů ht2;have nHG:Nd H G':=nH1.trans ((Nd.of s2).trans n2');obtain⟨pr,qr,asr,Zv,hpr,hqr,hsr⟩:=Ī.keep ((rZ.of s2).trans n2'.tups);refine⟨pp,_,Z,cG.of (n2'.tups _ _ mR),Z,_,_,Z,_,_,Z,Z,?_⟩;rw[Zv];refine⟨_,Z,_,Z,_,Z,_,Z,pr,_,_,.int row.m,Z,Z,cG.of hpr,Z,_,Z,pr,_,_,.int row.b,Z,Z,cG.of hpr,Z,_,Z,_,_,Z,Z,_,Z,(by show 1<=1000;decide),λq1 G3 m3=>⟨(by show 3<=1000;decide),λq2 G4 m4=>?_⟩⟩;have V6:=m3.same.trans m4.same;have a4P:uZ G4 a0 old:=hold.keep ((rZ.of s2).trans (n2'.tups.trans (.of V6)));refine⟨d,t,aa,.ref q2,Zu,_,st',⟨row.m,row.b+am,[old]⟩,Z,(nHG.trans (.of V6)).at Qn hD,V6 _ _ V5,hT'.keep (.of V6),?_,haa.keep (n2'.tups.trans (.of V6)),⟨q2,q1,[a0],Z,m4.here,m4.same _ _ m3.here,.cons a4P .nil⟩,λī G5 s5 h5 hT5=>?_⟩
   ·exact a6i j (dH (fG.mp hmx).1)
   ·refine ji2 _ _ _ ⟨⟨some (.ref aa),some (.int am),by rw[Zv];rfl⟩,Ů.trans ((Sd.of V6).trans s5),ī,h5,?_⟩;rw[jX,hmx];show oh G5 ī (jc Qn.pq.bt old row ((MP Qn.pq old iM B).take j++[(st',am)]) _);rw[CT];exact hT5
  ·intro σ G' h2;obtain⟨⟨o7,o8,rfl⟩,Ů,Zu,V5,hT'⟩:=ij2 _ _ _ h2;refine ji _ _ _ ⟨⟨_,_,_,_,Z⟩,sG.trans ((Sd.of (n1'.trans s2)).trans Ů),Zu,V5,?_⟩;rw[hTi,JT];rw[lpm,gZ]at hT';exact hT'
 ·intro σ G h;obtain⟨⟨o5,o6,o7,o8,rfl⟩,sG,kt,hkt,hTt⟩:=ij _ _ _ h;have gs:=sG _ _ (Ne.symm nts) g0s;refine⟨sc,o,nH,nH,hsc,gs,?_⟩;refine q kt _ (λc u hc e=>?_) (by rw[aZ nts];exact hkt) ?_
  ·by_cases z:c=sc
   ·rw[z]at e ⊢;rw[eG,<-e,hsc]
   ·rw[aZ z];refine sG c u hc ?_;rw[g0r c z];exact n1.same _ _ e
  ·rw[show S.take as.length=S by rw[la,lk,gZ]]at hTt;exact hTt.keep (Nd.Qf gs)
end
end K
namespace L2
open PyProof.Rows Bg
section
variable{X:Cx}{tg:Expr}
def a3g(td:TE):TI:=λσ H R=>td σ H λx H1=>∃d O,x=.ref d/\H1 d=some (.dT O)/\
 ∀o as,Paired (λa (kv:List Key×V)=>(cO H1 d (.kj o (.dT O))) a=some (.tup (kv.1.map kV))) as O->R (Itp o d (.dT O) as) (cO H1 d (.kj o (.dT O)))
def Ĭ{l:Expr}{td:TE}(hl:PE X l td):PI X tg l (a3g td):=by
 intro Y s σ H R I h;refine jK (hl Y s σ H _ I h) λv s1 ⟨x,H1,I1,r1,q1⟩=>?_;obtain⟨d,O,e,hd,q⟩:=q1;subst e;cases r1;obtain⟨_,hs,xs,rel,o,es,ep,ho,hx,hdt,hes,_,_⟩:=Xj I1.hok hd;have I2:bH X Y σ (cO H1 d (.kj o (.dT O))) s1:=I1.VJ hd (λ_ z=>by cases z) (λ_ z=>by cases z) (λ_ z=>by cases z) (I1.Xm hd λ_ _ z=>by cases z) ⟨ho,I1.hok d _ hd⟩;have ek:es.toList.map (·.key)=(xs.map λx=>x.2.1).map Value.ref:=by rw[hes,nC,nC];rfl
 have pk:Paired (λa (kv:List Key×V)=>(cO H1 d (.kj o (.dT O))) a=some (.tup (kv.1.map kV))) (xs.map λx=>x.2.1) O:=by
  have go:∀{ks:List (List Key×V)}{ys:List (List Key×Addr×Value)},KT H1 ks ys->Paired (λa (kv:List Key×V)=>(cO H1 d (.kj o (.dT O))) a=some (.tup (kv.1.map kV))) (ys.map λx=>x.2.1) ks:=λ{ks ys} r=>by
   induction r with
   |nil=>exact .nil
   | @cons kv y _ _ a _ ih =>
    refine .cons ?_ ih;have nb:y.2.1≠d:=λz=>by grind
    rw[aZ nb];exact a.2.1
  exact go rel
 refine Dq.CJ hs ho hx hdt ⟨s1.heap.objs.size,[s1.heap.objs.size],_,_,_,Z,I2.kept (t':=s1.toks) λb o e=>bL _ e,VL d _ hdt ek,bZ _ Z,λb hb=>?_,q o _ pk⟩;have e:b=s1.heap.objs.size:=by grind
 subst e;exact I2.Jk (aO _) (I2.hok.fresh (aO _))
end
def Zw{o:Obj}{d:Addr}{u:HO}{as:List Addr}{g:TG}{tb:TS}{D:Ends}{σ:St}{H:Hp}(Pv:Nat->St->Hp->Prop)(h0:Pv 0 σ H)(hl:∀i σ H,i<=as.length->Pv i σ H->H d=some (.kj o u))
  (hs:∀(i:Nat) a σ H,as[i]?=some a->Pv i σ H->g (.ref a) σ H λσ2 H2=>tb { D with nx:=Pv (i+1),ct:=Pv (i+1),bk:=D.nx} σ2 H2) (hd:∀σ H,Pv as.length σ H->D.nx σ H) :
  ∃W:Nat->Nat->St->Hp->Prop,(∃m,W 0 m σ H)/\∀i m σ H,W i m σ H->
   ((Itp o d u as).stop i H/\D.nx σ H)\/((Itp o d u as).go i H/\∃N:St->Hp->Prop,(∀σ' H',N σ' H'->∃m',m'<m/\W (i+1) m' σ' H')/\∀x H',(Itp o d u as).Ã i H x H'->g x σ H' λσ2 H2=>tb { D with nx:=N,ct:=N,bk:=D.nx} σ2 H2):=by
 refine⟨λi m σ H=>m=as.length-i/\i<=as.length/\Pv i σ H,⟨as.length,by simp,dI _,h0⟩,?_⟩;rintro i m σ H ⟨rfl,hi,p⟩;have q1:=hl i σ H hi p;by_cases hlt:i<as.length
 ·refine .inr ⟨⟨q1,hlt⟩,Pv (i+1),λσ' H' p'=>⟨as.length-(i+1),by omega,Z,hlt,p'⟩,λx H' y=>?_⟩;obtain⟨eH,ex⟩:=y;grind
 ·have e:i=as.length:=by omega
  subst e;exact .inl ⟨⟨q1,Z⟩,hd σ H p⟩
section
variable{X:Cx}
def ĭ(i j:Int):Prop:=i.natAbs<2^4000/\j.natAbs<2^4000
def MT{k:Int}(h:k.natAbs<2^4000):Builtin.Int.intBits k<=4000:=by
 unfold Builtin.Int.intBits;split
 ·grind
 ·have:k.natAbs.log2<4000:=by
   rcases Nat.eq_zero_or_pos k.natAbs with h0|hp
   ·rw[h0];decide
   ·exact(Nat.log2_lt (gG hp)).mpr h
  omega
def ĭ.ok{i j:Int}(h:ĭ i j):IntMulOk i j:=by
 have h1:=MT h.1;have h2:=MT h.2;have:Builtin.Int.intTooBig ((Builtin.Int.intBits i:Int)+(Builtin.Int.intBits j:Int))=false:=by
  unfold Builtin.Int.intTooBig;refine bJ ?_;have e:((bitsLine:Nat):Int)=134217728:=by decide
  grind
 unfold IntMulOk;grind
def XQ:uE X (binaryOp .Mult) (rI ĭ λi j=>.int (i*j)):=opI λ_ _ _ _ _ _ _ hc q=>mul_int q hc.ok
end
end L2
namespace K
open L2 Lw Bg
variable{P:Program}{w:World}{mg:Str->Option Value}{base:Heap}{ex:List Addr}{a pa:Addr}{i:Nat}{F G:Hp}
section
variable{κ:Type} [DecidableEq κ]
def rA(bt:Int->Int->Bool)(dG aV:dD)(row more:fH):List dD->cD->cD
 | [],T=>T
 |x::l,T=>rA bt dG aV row more l (iK bt T x ⟨row.m*more.m,row.b+more.b,[dG,aV]⟩)
def rB(pq:PQ κ)(dG:dD)(row:fH):cD->cD->cD
 | [],T=>T
 |x::A,T=>rB pq dG row A (rA pq.bt dG x.1 row x.2 (pq.jn dG x.1) T)
def jZ(pq:PQ κ)(dG:dD)(A:cD):cD:=A.filter λx=>decide (pq.sh x.1=pq.sh dG)
def sJ(pq:PQ κ)(A:cD):cD->cD->cD
 | [],T=>T
 |x::S,T=>sJ pq A S (rB pq x.1 x.2 (jZ pq x.1 A) T)
theorem JV(bt:Int->Int->Bool)(dG aV:dD)(row more:fH)(x:dD):∀(l:List dD) (T:cD),rA bt dG aV row more (l++[x]) T=iK bt (rA bt dG aV row more l T) x ⟨row.m*more.m,row.b+more.b,[dG,aV]⟩
 | [],_=>rfl
 |_::l,T=>JV bt dG aV row more x l _
theorem JW(pq:PQ κ)(dG:dD)(row:fH)(x:dD×fH):∀(A T:cD),rB pq dG row (A++[x]) T=rA pq.bt dG x.1 row x.2 (pq.jn dG x.1) (rB pq dG row A T)
 | [],_=>rfl
 |_::A,T=>JW pq dG row x A _
theorem join_snoc(pq:PQ κ)(A:cD)(x:dD×fH):∀(S T:cD),sJ pq A (S++[x]) T=rB pq x.1 x.2 (jZ pq x.1 A) (sJ pq A S T)
 | [],_=>rfl
 |_::S,T=>join_snoc pq A x S _
def a3h(pq:PQ κ)(A S T:cD):Prop:=∀i x,S[i]?=some x->∀j y,(jZ pq x.1 A)[j]?=some y->∀l,l<=(pq.jn x.1 y.1).length->(rA pq.bt x.1 y.1 x.2 y.2 ((pq.jn x.1 y.1).take l) (rB pq x.1 x.2 ((jZ pq x.1 A).take j) (sJ pq A (S.take i) T))).length<=4000
def uh(pq:PQ κ)(L:List (Addr×dD))(k:List κ):List Addr:=(L.filter λx=>decide (pq.sh x.2=k)).map (·.1)
def M4(pq:PQ κ)(L:List (Addr×dD))(x:Addr×dD)(k:List κ):uh pq (L++[x]) k=if pq.sh x.2=k then uh pq L k++[x.1]else uh pq L k:=by
 unfold uh;grind
def Fj{O:List (List κ×V)}{k0:List κ}{v:V}(h:iJ O k0=none)(k:List κ):iJ (O++[(k0,v)]) k=if k0=k then some v else iJ O k:=by
 unfold iJ at h ⊢;rw[List.find?_append];by_cases c:k0=k
 ·subst c;rw[aG rfl];cases e:O.find? λkv=>decide (kv.1=k0)with
  |none=>rw[Option.none_or,Io (by exact bO Z)];rfl
  |some y=>rw[e]at h;cases h
 ·rw[aB c,xj (by exact λz=>c (eZ z))];simp
end
section
variable{κ:Type} [DecidableEq κ]
structure CV(knd:KeyKind P w κ)(pq:PQ κ)(F G:Hp)(pa:Addr)(L:List (Addr×dD))(O:List (List κ×V)):Prop where
 dx:DX knd G pa O
 len:O.length<=L.length
 val:∀k,(iJ O k=none/\uh pq L k=[])\/∃l,iJ O k=some (.ref l)/\G l=some (.lst ((uh pq L k).map V.ref))
 inj:∀k k' l,iJ O k=some (.ref l)->iJ O k'=some (.ref l)->k=k'
 fr:∀k l,iJ O k=some (.ref l)->F l=none
def Į(pq:PQ κ)(L:List (Addr×dD))(k:List κ):(uh pq L k).length<=L.length:=by
 unfold uh;grind
def RB{knd:KeyKind P w κ}{H H':Hp}{O:List (List κ×V)}(e:∀c o,(∀ys,o≠.lst ys)->H c=some o->H' c=some o)(h:DX knd H a O):DX knd H' a O:=by
 obtain⟨z,h|⟨xs,h1,h2⟩⟩:=h
 ·exact⟨z,.inl ⟨h.1,e _ _ (λ_ z=>by cases z) h.2⟩⟩
 ·exact⟨z,.inr ⟨xs,e _ _ (λ_ z=>by cases z) h1,Paired.bU h2 λ_ _ ⟨a,b,c⟩=>⟨a,b.same λ_ _ q=>e _ _ (λ_ z=>by cases z) q,c⟩⟩⟩
def Qh{knd:KeyKind P w κ}{H:Hp}{O:List (List κ×V)}(h:DX knd H a O){ys:List V}:H a≠some (.lst ys):=λe=>by
 obtain⟨z,h|⟨xs,h1,h2⟩⟩:=h
 ·grind
 grind
def CV.same{knd:KeyKind P w κ}{pq:PQ κ}{F G G':Hp}{pa:Addr}{L:List (Addr×dD)}{O:List (List κ×V)}(I:CV knd pq F G pa L O)(s:aH G G'):CV knd pq F G' pa L O :=
 ⟨I.dx.same s,I.len,λk=>(I.val k).imp id λ⟨l,h1,h2⟩=>⟨l,h1,s _ _ h2⟩,I.inj,I.fr⟩
def a0I{knd:KeyKind P w κ}{pq:PQ κ}{G3:Hp}{L:List (Addr×dD)}{O:List (List κ×V)}{l a0:Addr}{st:dD}(I:CV knd pq F G pa L O)(hv:iJ O (pq.sh st)=some (.ref l))(c:wF G l (.lst ((uh pq L (pq.sh st)).map V.ref++[.ref a0])) G3)(hl:∃ys,G l=some (.lst ys)):CV knd pq F G3 pa (L++[(a0,st)]) O:=by
 obtain⟨ys,hl⟩:=hl;refine⟨RB (λb o nl e=>?_) I.dx,by rw[bW];have:=I.len;omega,λk=>?_,I.inj,I.fr⟩
 ·rw[c.rest b (λz=>by grind)];exact e
 ·rw[M4];by_cases ck:pq.sh st=k
  ·subst ck;rw[aG rfl];refine .inr ⟨l,hv,?_⟩;rw[c.here,dF];rfl
  ·rw[aB ck];refine(I.val k).imp id λ⟨l',h1,h2⟩=>⟨l',h1,?_⟩;rw[c.rest l' (λz=>ck (I.inj _ _ l hv (by grind)))];exact h2
def a0J{knd:KeyKind P w κ}{pq:PQ κ}{H' G3:Hp}{L:List (Addr×dD)}{O:List (List κ×V)}{l0 a0:Addr}{st:dD}(I:CV knd pq F G pa L O)(hv:iJ O (pq.sh st)=none)(hl:G l0=some (.lst []))(fl:F l0=none)(nl:∀k l,iJ O k=some (.ref l)->l≠l0)(hh:∀c,c≠pa->H' c=G c)(dx:DX knd H' pa (O++[(pq.sh st,.ref l0)]))(c:wF H' l0 (.lst ([]++[.ref a0])) G3):CV knd pq F G3 pa (L++[(a0,st)]) (O++[(pq.sh st,.ref l0)]):=by
 have npa:l0≠pa:=λz=>Qh I.dx (ys:=[]) (by grind);have hl':H' l0=some (.lst []):=by grind
 have lk0:uh pq L (pq.sh st)=[]:=by
  rcases I.val (pq.sh st)with h|⟨l,h,_⟩
  ·exact h.2
  grind
 refine⟨RB (λb o nl e=>?_) dx,by rw[bW,bW];have:=I.len;simp;omega,λk=>?_,λk k' l h h'=>?_,λk l h=>?_⟩
 ·rw[c.rest b (λz=>by grind)];exact e
 ·rw[M4,Fj hv];by_cases ck:pq.sh st=k
  ·subst ck;rw[aG Z,aG Z,lk0];exact .inr ⟨l0,Z,c.here⟩
  ·rw[aB ck,aB ck];refine(I.val k).imp id λ⟨l',h1,h2⟩=>⟨l',h1,?_⟩;rw[c.rest l' (nl k l' h1),hh l' (λz=>Qh I.dx (by rw[<-z];exact h2))];exact h2
 ·rw[Fj hv]at h h';by_cases ck:pq.sh st=k
  ·grind
  ·by_cases ck':pq.sh st=k'
   ·grind
   ·rw[aB ck]at h;rw[aB ck']at h';exact I.inj _ _ _ h h'
 ·rw[Fj hv]at h;by_cases ck:pq.sh st=k
  ·grind
  ·rw[aB ck]at h;exact I.fr _ _ h
def CV.Qf{knd:KeyKind P w κ}{pq:PQ κ}{G':Hp}{L:List (Addr×dD)}{O:List (List κ×V)}(I:CV knd pq F G pa L O)(e:∀c o,(∀ob u,o≠.kj ob u)->G c=some o->G' c=some o):CV knd pq F G' pa L O:=by
 refine⟨?_,I.len,λk=>(I.val k).imp id λ⟨l,h1,h2⟩=>⟨l,h1,e _ _ (λ_ _ z=>by cases z) h2⟩,I.inj,I.fr⟩;obtain⟨z,h|⟨xs,h1,h2⟩⟩:=I.dx
 ·exact⟨z,.inl ⟨h.1,e _ _ (λ_ _ z=>by cases z) h.2⟩⟩
 ·exact⟨z,.inr ⟨xs,e _ _ (λ_ _ z=>by cases z) h1,Paired.bU h2 λ_ _ ⟨a,b,c⟩=>⟨a,b.same λ_ _ q=>e _ _ (λ_ _ z=>by cases z) q,c⟩⟩⟩
def RD{R:Addr->dD×fH->Prop}(pq:PQ κ)(k:List κ){as:List Addr}{A:cD}(h:Paired R as A):Paired R (uh pq (as.zip (A.map (·.1))) k) (A.filter λx=>decide (pq.sh x.1=k)):=by
 induction h with
 |nil=>exact .nil
 | @cons a x as A h t ih =>
  unfold uh at ih ⊢;rw[cL,List.zip_cons_cons];by_cases c:pq.sh x.1=k
  ·rw[DR (by grind),DR (by grind),cL];exact .cons h ih
  grind
theorem vI:∀{A:cD}{x:dD×fH},(A.map (·.1)).Nodup->x∈A->ug A x.1=some x.2
 |y::A,x,nd,h=>by
  unfold ug
  rw[cL,jC]at nd
  rcases cH.mp h with rfl|h
  ·grind
  ·rw[xj (by grind)]
   exact vI nd.2 h
end
abbrev jo:Stmt:=top 26
def gK:bD ["question","table","source","another","alike","other","one","row","more","state"] Mw (aF jo):={}
section
variable{K:aK}{κ:Type} [DecidableEq κ]
def JX(T:cD):Prop:=∀x∈T,x.2.m.natAbs<2^4000
inductive a0K(Qn:JQ P w K mg base κ)(vs:List V)(H:Hp)(Q:VK)(u_3:XK):Prop
 |mk (d t sc an:Addr) (O nH vJ:List (List Key×V)) (T S A:cD) (m:Nat) (_:vs=[.ref d,.ref t,.ref sc,.ref an]) (_:Qn.At H d) (_:H t=some (.dT O)) (_:oh H O T) (_:H sc=some (.dT nH)) (_:oh H nH S) (_:H an=some (.dT vJ)) (_:oh H vJ A) (_:t≠sc) (_:t≠an) (_:sc≠an) (_:(∀x∈S,Qn.pq.Ok m x.1)) (_:(∀x∈A,Qn.pq.Ok m x.1)) (_:m<=5) (_:(A.map (·.1)).Nodup) (_:S.length<=4000) (_:A.length<=900) (_:JX S) (_:JX A) (_:a3h Qn.pq A S T) (_:∀kvs' H',Sd t H H'->H' t=some (.dT kvs')->oh H' kvs' (sJ Qn.pq A S T)->Q .non H')
def JZ(Qn:JQ P w K mg base κ)(su:Dn K mg "note" wK Gm)(ye:Dn K mg "fill_joined" jo Mw):bh P w K mg base gj 10 ye.f ye.fd Mw (a0K Qn):=by
 have J0:bh P w K mg base gj 9 _ _ _ _:=Qn.rz.ok.mono (by decide);have V7:bh P w K mg base gj 9 _ _ _ _:=Qn.vC.ok.mono (by decide);have a3f:bh P w K mg base gj 9 _ _ _ _:=XH Qn su;refine ye.F.ok gK λcZ A' outer s H vs Q E hr h=>?_;obtain⟨d,t,sc,an,O,nH,vJ,T,S,A,m,rfl,hD,ht,hT,hsc,hS,han,hA,nts,nta,nsa,vU,okA,m5,ndA,lS,lA,smS,smA,lim,q⟩:=h;have hw1:(A'.deeper (PyProof.Rows.envOfC "fill_joined" (aF jo) s.heap.objs.size ye.f cZ)).units+1<cLine:=by have:=hr.un;omega
 refine⟨_,(aA (bF 4 gK.nd Rr)
   (aA (JB (kY jV Z (Ĭ (pv 3)) (aL 5 gK.nd)
   (aD (jw (uX (K:=K) Z qw PySem.F.slot_list_append PySem.F.type_list_append lD (ğ Qn.knd PySem.F.plainAttrs_dict PySem.F.slot_dict_setdefault PySem.F.type_dict_setdefault (JD Qn.knd hw1) (pv 4) (J (wA (pv 0) Qn.cl Qn.rz.mt J0 hr Qn.rz.b .nil b8 (J (pv 5) aj)) (J (cJ aj) aj))) (J (pv 5) aj))))))
   (aD (JB (kY jV Z (Fd (wD (K:=K) Z NT Tq Tr Fb (pv 2))) (jy (K:=K) (n:=2) Z Z (bY (aL 6 gK.nd) (bY (aL 7 gK.nd) jx)))
   (aD (kY jV Z (cX (K:=K) Z (ğ Qn.knd NT PySem.F.slot_dict_get PySem.F.type_dict_get (a0y Qn.knd hw1) (pv 4) (J (wA (pv 0) Qn.cl Qn.rz.mt J0 hr Qn.rz.b .nil b8 (J (pv 6) aj)) (J (cJ aj) aj)))) (aL 5 gK.nd)
   (aA (bF 8 gK.nd (Qc hw1 (pv 3) (pv 5) λ_ _=>rfl))
   (aD (kY jV Z (cX (K:=K) Z (wA (pv 0) Qn.cl Qn.vC.mt V7 hr Qn.vC.b .nil b8 (J (pv 6) (J (pv 5) aj)))) (aL 9 gK.nd)
   (aD (jw (bf a3f hr Z su.m su.F.kp su.b .nil b8 (J (pv 0) (J (pv 1) (J (pv 9) (J (bx (J (bC XQ (aQ (aM (K:=K) Z) (pv 7) aq) (aQ (aM (K:=K) Z) (pv 8) aq)) (J (bC dO (aQ (aM (K:=K) Z) (pv 7) aq) (aQ (aM (K:=K) Z) (pv 8) aq)) (J (bx (J (pv 6) (J (pv 5) aj))) aj)))) aj))))))))))))))))),?_⟩
 refine λpa hpa=>?_;have n1:=gV.oF (o:=.dT []) hpa;generalize cO H pa (.dT [])=H1 at n1 ⊢;have h1a:=n1.same _ _ han;refine⟨_,Z,an,vJ,Z,h1a,λo as pk=>?_⟩;have npa:pa≠an:=λz=>by have:=n1.fresh;rw[z,han]at this;cases this
 have npt:pa≠t:=λz=>by have:=n1.fresh;rw[z,ht]at this;cases this
 have nps:pa≠sc:=λz=>by have:=n1.fresh;rw[z,hsc]at this;cases this
 have nd0:Nd H (cO H1 an (.kj o (.dT vJ))):=(Nd.of n1.same).trans (Nd.kj h1a);have g0a:cO H1 an (.kj o (.dT vJ)) an=some (.kj o (.dT vJ)):=eG;have g0p:cO H1 an (.kj o (.dT vJ)) pa=some (.dT []):=by rw[aZ npa];exact n1.here
 have g0r:∀c,c≠an->cO H1 an (.kj o (.dT vJ)) c=H1 c:=λc hc=>aZ hc;generalize cO H1 an (.kj o (.dT vJ))=G0 at pk nd0 g0a g0p g0r ⊢;have lk:=aY hA;have la:=aY pk;obtain⟨L,hL⟩:∃L:List (Addr×dD),L=as.zip (A.map (·.1)):=⟨_,Z⟩;have lL:L.length=as.length:=by rw[hL,List.length_zip,aN];omega
 have atL:∀i a0,as[i]?=some a0->∃st more,A[i]?=some (st,more)/\L[i]?=some (a0,st)/\G0 a0=some (.tup ((wJ st).map kV)):=λi a0 ha0=>by
  obtain⟨kv,hkv,hak⟩:=bT pk ha0;obtain⟨⟨st,more⟩,hsx,ek,hrow⟩:=bT hA hkv;have ek:kv.1=wJ st:=ek;rw[ek]at hak;refine⟨st,more,hsx,?_,hak⟩;rw[hL,List.getElem?_zip_eq_some];exact⟨ha0,by rw[iW,hsx];rfl⟩
 refine Zw (λi σ G=>(∃o5,σ=[some (.ref d),some (.ref t),some (.ref sc),some (.ref an),some (.ref pa),o5,none,none,none,none])/\Sd pa G0 G/\∃ka,CV Qn.knd Qn.pq G0 G pa (L.take i) ka) ⟨⟨_,Z⟩,.refl,[],⟨DX.new g0p,by simp,λk=>.inl ⟨Z,Z⟩,λk k' l h=>(by cases h),λk l h=>(by cases h)⟩⟩ (λi σ G _ ⟨_,s,_⟩=>s _ _ (Ne.symm npa) g0a) ?_ ?_
 ·rintro i a0 σ G ha0 ⟨⟨o5,rfl⟩,sG,ka,hK⟩;obtain⟨st,more,hAi,hLi,hak⟩:=atL i a0 ha0;have nG:Nd G0 G:=.sd sG g0p;have nHG:Nd H G:=nd0.trans nG;have hDG:=nHG.at Qn hD;obtain⟨dx',fs,hd,nom,_⟩:=Qn.ins hDG;have hst:uZ G a0 st:=uZ.Xy (nG.tups _ _ hak);have hTi:L.take (i+1)=L.take i++[(a0,st)]:=by rw[jX,hLi];rfl
  have li:(L.take i).length<=900:=by rw[dZ];omega
  refine⟨_,Z,⟨pa,ka,Z,hK.dx⟩,_,Z,d,dx',fs,Z,hd,nom _ (by decide),_,Z,d,a0,m,st,Z,hDG,hst,okA _ (jA hAi),m5,λb G1 s1 hk=>⟨(by show 0<=1000;decide),λl0 G2 n2=>?_⟩⟩;have s2:=s1.trans n2.same;have Zx:=hK.same s2;have lk0:=hK.len;refine⟨pa,b,Qn.pq.sh st,ka,.ref l0,Z,Z,hk.same λ_ _ z=>n2.same _ _ z,Zx.dx,by omega,λy hy=>?_,λhn H' hh dxn=>?_⟩
  ·rcases Zx.val (Qn.pq.sh st)with h|⟨l,h1,h2⟩
   ·rw[h.1]at hy;cases hy
   ·rw[h1]at hy;cases hy;refine⟨.inl ⟨Z,_,bG.of h2⟩,_,Z,l,_,_,Z,Z,h2,?_,λG3 c3=>?_⟩
    ·rw[aN];have:=Į Qn.pq (L.take i) (Qn.pq.sh st);omega
    ·refine⟨⟨_,Z⟩,λc u hc e=>?_,ka,by rw[hTi];exact a0I Zx h1 c3 ⟨_,h2⟩⟩;rw[c3.rest c (λz=>by have:=Zx.fr _ _ h1;rw[<-z,e]at this;cases this)];exact s2 _ _ (sG c u hc e)
  ·have npl:l0≠pa:=λz=>Qh Zx.dx (ys:=[]) (by rw[<-z];exact n2.here);have hl0:H' l0=some (.lst []):=by rw[hh l0 npl];exact n2.here
   refine⟨.inl ⟨Z,_,bG.of hl0⟩,_,Z,l0,[],_,Z,Z,hl0,by decide,λG3 c3=>?_⟩;have fl:G0 l0=none:=by
    cases e:G0 l0 with
    |none=>rfl
    |some u =>
     have h1:=s1 _ _ (sG l0 u npl e);have h2:=n2.fresh;rw[h1]at h2;cases h2
   refine⟨⟨_,Z⟩,λc u hc e=>?_,_,by
    rw[hTi];refine a0J Zx hn n2.here fl (λk l h z=>?_) hh dxn c3;rcases hK.val k with h'|⟨l',h1,h2⟩
    ·rw[h'.1]at h;cases h
    ·rw[h1]at h;cases h;have h3:=s1 _ _ h2;have h4:=n2.fresh;rw[<-z,h3]at h4;cases h4⟩
   rw[c3.rest c (λz=>by rw[z,fl]at e;cases e),hh c hc];exact s2 _ _ (sG c u hc e)
 rintro σ G ⟨⟨o5,rfl⟩,sG,ka,hK⟩;have ga:=sG _ _ (Ne.symm npa) g0a;refine⟨an,o,vJ,vJ,h1a,ga,?_⟩;have sF:aH H (cO G an (.dT vJ)):=λc u e=>by
  have ncp:c≠pa:=λz=>by rw[z,n1.fresh]at e;cases e
  by_cases z:c=an
  ·rw[z]at e ⊢;rw[eG,<-e,han]
  ·rw[aZ z];refine sG c u ncp ?_;rw[g0r c z];exact n1.same _ _ e
 rw[show L.take as.length=L by rw[<-lL,gZ]]at hK;have hKF:CV Qn.knd Qn.pq G0 (cO G an (.dT vJ)) pa L ka:=hK.Qf λc u nf e=>by
  rw[aZ (λz=>by rw[z,ga]at e;exact nf _ _ (gh e).symm)];exact e
 have pkF:Paired (λa (x:dD×fH)=>uZ (cO G an (.dT vJ)) a x.1) as A:=by
  have go:∀{as:List Addr}{ks:List (List Key×V)}{B:cD},Paired (λa (kv:List Key×V)=>G0 a=some (.tup (kv.1.map kV))) as ks->oh H ks B->Paired (λa (x:dD×fH)=>uZ (cO G an (.dT vJ)) a x.1) as B:=λ{as ks B} p=>by
   induction p generalizing B with
   |nil=>intro h;cases h;exact .nil
   | @cons a kv as ks h1 _ ih =>
    intro h;cases h with
    | @cons _ tr _ B' h2 t2 =>
     refine .cons ?_ (ih t2);have e:kv.1=wJ tr.1:=h2.1;rw[e]at h1;exact uZ.Xy (Nd.Qf ga _ _ ((Nd.sd sG g0p).tups _ _ h1))
  exact go pk hA
 generalize cO G an (.dT vJ)=F at sF hKF pkF ⊢;have a0L:=sF _ _ hsc;refine⟨_,Z,.inr (.inr (.inl ⟨Z,.inr ⟨_,a0L⟩⟩)),sc,nH,Z,Z,a0L,λpv H2 n2=>⟨pv,sc,nH,Z,n2.here,n2.same _ _ a0L,λo2 as2 pk2=>?_⟩⟩;have s2:=sF.trans n2.same;have h2s:=s2 _ _ hsc;have Y9:Nd H (cO H2 sc (.kj o2 (.dT nH))):=(Nd.of s2).trans (Nd.kj h2s);have f0s:cO H2 sc (.kj o2 (.dT nH)) sc=some (.kj o2 (.dT nH)):=eG;have f0t:cO H2 sc (.kj o2 (.dT nH)) t=some (.dT O):=by rw[aZ nts];exact s2 _ _ ht
 have f0a:cO H2 sc (.kj o2 (.dT nH)) an=some (.dT vJ):=by rw[aZ (Ne.symm nsa)];exact s2 _ _ han
 have f0r:∀c,c≠sc->cO H2 sc (.kj o2 (.dT nH)) c=H2 c:=λc hc=>aZ hc;have Zx:CV Qn.knd Qn.pq G0 (cO H2 sc (.kj o2 (.dT nH))) pa L ka:=by
  have h:=hKF.same n2.same;refine⟨?_,h.len,λk=>(h.val k).imp id λ⟨l,h1,h2⟩=>⟨l,h1,?_⟩,h.inj,h.fr⟩
  ·obtain⟨z,hh|⟨xs,h1,h2⟩⟩:=h.dx
   ·refine⟨z,.inl ⟨hh.1,?_⟩⟩;rw[aZ nps];exact hh.2
   ·refine⟨z,.inr ⟨xs,?_,Paired.bU h2 λ_ _ ⟨a,b,c⟩=>⟨a,b.same λc' ys q=>?_,c⟩⟩⟩
    ·rw[aZ nps];exact h1
    ·rw[aZ (λz=>by rw[z,h2s]at q;cases q)];exact q
  ·rw[aZ (λz=>by rw[z,h2s]at h2;cases h2)];exact h2
 have a4Q:Paired (λa (x:dD×fH)=>uZ (cO H2 sc (.kj o2 (.dT nH))) a x.1) as A:=Paired.bU pkF λa x h=>by
  show cO H2 sc (.kj o2 (.dT nH)) a=_;have h':H2 a=some (.tup (x.1.map V.int)):=n2.same _ _ h;rw[aZ (λz=>by rw[z,h2s]at h';cases h')];exact h'
 generalize cO H2 sc (.kj o2 (.dT nH))=F0 at pk2 Y9 f0s f0t f0a f0r Zx a4Q ⊢;have lk2:=aY hS;have la2:=aY pk2;refine JF (λi σ G=>(∃o5 o6 o7 o8 o9,σ=[some (.ref d),some (.ref t),some (.ref sc),some (.ref an),some (.ref pa),o5,o6,o7,o8,o9])/\Sd t F0 G/\∃kt,G t=some (.dT kt)/\oh G kt (sJ Qn.pq A (S.take i) T)) ⟨⟨_,_,_,_,_,Z⟩,.refl,O,f0t,hT.keep Y9.tups⟩ (λi σ G _ ⟨_,s,_⟩=>s _ _ (Ne.symm nts) f0s) ?_ ?_
 ·rintro i a0 v0 σ G p G1 ha0 hv0 ⟨⟨o5,o6,o7,o8,o9,rfl⟩,sG,kt,hkt,hTt⟩ nw;obtain⟨kv,hkv,hak⟩:=bT pk2 ha0;obtain⟨⟨dG,row⟩,hsx,ek,hrow⟩:=bT hS hkv;have ek:kv.1=wJ dG:=ek;have hv0':v0=kv.2:=by
   rw[iW,hkv]at hv0;exact(gh hv0).symm
  subst hv0';rw[ek]at hak;have nG:Nd F0 G:=.sd sG f0t;have s1:aH G G1:=nw.same;have nG1:Nd F0 G1:=nG.trans (.of s1);have nH1:Nd H G1:=Y9.trans nG1;have hone:uZ G1 a0 dG:=uZ.Xy (nG1.tups _ _ hak);have Ī:GJ G1 kv.2 row:=hrow.keep nH1.tups;have mem:(dG,row)∈S:=jA hsx;have hDG:=nH1.at Qn hD;obtain⟨dx',fs,hd,nom,_⟩:=Qn.ins hDG;have hKG:CV Qn.knd Qn.pq G0 G1 pa L ka:=by
   have ex:∀c u,c≠t->F0 c=some u->G1 c=some u:=λc u hc e=>s1 _ _ (sG c u hc e);refine⟨?_,Zx.len,λk=>(Zx.val k).imp id λ⟨l,h1,h2⟩=>⟨l,h1,ex _ _ (λz=>by rw[z,f0t]at h2;cases h2) h2⟩,Zx.inj,Zx.fr⟩;obtain⟨z,hh|⟨xs,h1,h2⟩⟩:=Zx.dx
   ·exact⟨z,.inl ⟨hh.1,ex _ _ npt hh.2⟩⟩
   ·exact⟨z,.inr ⟨xs,ex _ _ npt h1,Paired.bU h2 λ_ _ ⟨a,b,c⟩=>⟨a,b.same λ_ _ q=>nG1.tups _ _ q,c⟩⟩⟩
  refine⟨p,_,Z,cG.of nw.here,Z,_,_,Z,_,_,Z,Z,?_⟩;refine⟨_,Z,⟨pa,ka,Z,hKG.dx⟩,_,Z,d,dx',fs,Z,hd,nom _ (by decide),_,Z,d,a0,m,dG,Z,hDG,hone,vU _ mem,m5,λb G2 t2 hk=>⟨(by show 0<=1000;decide),λl0 G3 n3=>?_⟩⟩;have t3:=t2.trans n3.same;have hK3:=hKG.same t3;refine⟨pa,b,Qn.pq.sh dG,ka,.ref l0,Z,Z,hk.same λ_ _ z=>n3.same _ _ z,hK3.dx,?_⟩;obtain⟨l,el,hl⟩:∃l,(iJ ka (Qn.pq.sh dG)).getD (.ref l0)=.ref l/\G3 l=some (.lst ((uh Qn.pq L (Qn.pq.sh dG)).map V.ref)):=by
   rcases hK3.val (Qn.pq.sh dG)with⟨h1,h2⟩|⟨l,h1,h2⟩
   ·rw[h1,h2];exact⟨l0,Z,n3.here⟩
   ·rw[h1];exact⟨l,Z,h2⟩
  rw[el];have nG3:Nd F0 G3:=nG1.trans (.of t3);have pO:Paired (λa (x:dD×fH)=>uZ G3 a x.1) (uh Qn.pq L (Qn.pq.sh dG)) (jZ Qn.pq dG A):=by
   rw[hL];exact Paired.bU (RD Qn.pq (Qn.pq.sh dG) a4Q) λ_ _ h=>h.keep nG3.tups
  have lO:=aY pO;have st3:aH G G3:=s1.trans t3;have hT3:oh G3 kt (sJ Qn.pq A (S.take i) T):=hTt.keep (.of st3);have ht3:G3 t=some (.dT kt):=st3 _ _ hkt;have hTi:S.take (i+1)=S.take i++[(dG,row)]:=by rw[jX,hsx];rfl
  refine⟨l,Z,⟨_,bG.of hl⟩,xU (K:=K) (a:=l) (xs:=(uh Qn.pq L (Qn.pq.sh dG)).map V.ref) (λj σ G'=>(∃o5 o8 o9,σ=[some (.ref d),some (.ref t),some (.ref sc),some (.ref an),some (.ref pa),o5,some (.ref a0),some kv.2,o8,o9])/\Sd t G3 G'/\∃Zu,G' t=some (.dT Zu)/\oh G' Zu (rB Qn.pq dG row ((jZ Qn.pq dG A).take j) (sJ Qn.pq A (S.take i) T))) ⟨⟨_,_,_,Z⟩,.refl,kt,ht3,hT3⟩ (λj σ G' _ ⟨_,s,_⟩=>bG.of ((Nd.sd s ht3).lst hl)) ?_ ?_⟩
  ·rintro j x σ G' hx ⟨⟨o5,o8,o9,rfl⟩,Ů,Zu,V5,hT'⟩;rw[iW]at hx;obtain⟨b0,hb0,rfl⟩:=kI.mp hx;obtain⟨⟨aV,more⟩,hox,hob⟩:=bT pO hb0;have a6j:(aV,more)∈jZ Qn.pq dG A:=jA hox;obtain⟨a0M,shE⟩:=iH.mp a6j;have shE:Qn.pq.sh aV=Qn.pq.sh dG:=eZ shE;have n3':Nd G3 G':=.sd Ů ht3;have nHG:Nd H G':=Y9.trans (nG3.trans n3');have hoG:uZ G' b0 aV:=hob.keep n3'.tups;have a1K:uZ G' a0 dG:=hone.keep ((rZ.of t3).trans n3'.tups);have haG:G' an=some (.dT vJ):=Ů _ _ (Ne.symm nta) (st3 _ _ (sG _ _ (Ne.symm nta) f0a));obtain⟨vm,em,hmore⟩:∃vm,iJ vJ (wJ aV)=some vm/\GJ H vm more:=by
    rcases Xz aV hA with⟨_,e2⟩|⟨v,r,e1,e2,h⟩
    ·rw[vI ndA a0M]at e2;cases e2
    ·rw[vI ndA a0M]at e2;cases e2;exact⟨v,e1,h⟩
   have a4R:=nHG.at Qn hD;obtain⟨ů,fs2,hd2,a6k,_⟩:=Qn.ins a4R;refine⟨_,Z,_,Z,an,vm,Z,by rw[<-em];exact GF.t haG hoG.key,?_⟩;refine⟨_,Z,d,ů,fs2,Z,hd2,a6k _ (by decide),_,Z,_,Z,d,a0,b0,m,dG,aV,Z,a4R,a1K,hoG,vU _ mem,okA _ a0M,m5,shE.symm,λr xs G4 s4 hr4 pm=>⟨r,Z,⟨_,bG.of hr4⟩,?_⟩⟩;have ht4:=s4 _ _ V5;have hT4:=hT'.keep (rZ.of s4);have lpm:=aY pm;have a6l:=lim i _ hsx j _ hox;have hTj:(jZ Qn.pq dG A).take (j+1)=(jZ Qn.pq dG A).take j++[(aV,more)]:=by rw[jX,hox];rfl
   refine xU (K:=K) (a:=r) (xs:=xs) (λe σ G5=>(∃o9,σ=[some (.ref d),some (.ref t),some (.ref sc),some (.ref an),some (.ref pa),some (.ref b0),some (.ref a0),some kv.2,some vm,o9])/\Sd t G4 G5/\∃ī,G5 t=some (.dT ī)/\oh G5 ī (rA Qn.pq.bt dG aV row more ((Qn.pq.jn dG aV).take e) (rB Qn.pq dG row ((jZ Qn.pq dG A).take j) (sJ Qn.pq A (S.take i) T)))) ⟨⟨_,Z⟩,.refl,Zu,ht4,hT4⟩ (λe σ G5 _ ⟨_,s,_⟩=>bG.of ((Nd.sd s ht4).lst hr4)) ?_ ?_
   ·rintro e x σ G5 hx ⟨⟨o9,rfl⟩,sG5,kt5,a3i,hT5⟩;obtain⟨st',hmx,aa,rfl,haa⟩:=bT pm hx;have n4':Nd G4 G5:=.sd sG5 ht4;have a4S:Nd H G5:=nHG.trans ((Nd.of s4).trans n4');have a3j:Nd G' G5:=(Nd.of s4).trans n4';obtain⟨pr,qr,asr,Zv,hpr,hqr,hsr⟩:=Ī.keep ((rZ.of t3).trans (n3'.tups.trans a3j.tups));obtain⟨pm',qm,asm,a4T,hpm,hqm,hsm⟩:=hmore.keep a4S.tups;rw[Zv,a4T];refine⟨_,Z,_,Z,_,Z,_,Z,pr,_,_,.int row.m,Z,Z,cG.of hpr,Z,_,Z,pm',_,_,.int more.m,Z,Z,cG.of hpm,Z,_,_,Z,Z,⟨smS _ mem,smA _ a0M⟩,_,Z,pr,_,_,.int row.b,Z,Z,cG.of hpr,Z,_,Z,pm',_,_,.int more.b,Z,Z,cG.of hpm,Z,_,_,Z,Z,_,Z,_,Z,(by show 2<=1000;decide),λq1 G6 m6=>⟨(by show 3<=1000;decide),λq2 G7 m7=>?_⟩⟩;have s67:=m6.same.trans m7.same;refine⟨d,t,aa,.ref q2,kt5,_,st',⟨row.m*more.m,row.b+more.b,[dG,aV]⟩,Z,(a4S.trans (.of s67)).at Qn hD,s67 _ _ a3i,hT5.keep (.of s67),?_,haa.keep (n4'.tups.trans (.of s67)),⟨q2,q1,[a0,b0],Z,m7.here,m7.same _ _ m6.here,.cons (a1K.keep (a3j.tups.trans (.of s67))) (.cons (hoG.keep (a3j.tups.trans (.of s67))) .nil)⟩,λkt8 G8 s8 h8 hT8=>?_⟩
    ·exact a6l e (dH (fG.mp hmx).1)
    ·refine⟨⟨_,Z⟩,sG5.trans ((Sd.of s67).trans s8),kt8,h8,?_⟩;rw[jX,hmx];show oh G8 kt8 (rA Qn.pq.bt dG aV row more ((Qn.pq.jn dG aV).take e++[st']) _);rw[JV];exact hT8
   ·rintro σ G5 ⟨⟨o9,rfl⟩,sG5,kt5,a3i,hT5⟩;refine⟨⟨_,_,_,Z⟩,Ů.trans ((Sd.of s4).trans sG5),kt5,a3i,?_⟩;rw[hTj,JW];rw[lpm,gZ]at hT5;exact hT5
  ·rintro σ G' ⟨⟨o5,o8,o9,rfl⟩,Ů,Zu,V5,hT'⟩;refine⟨⟨_,_,_,_,_,Z⟩,sG.trans ((Sd.of st3).trans Ů),Zu,V5,?_⟩;rw[hTi,join_snoc];rw[aN,lO,gZ]at hT';exact hT'
 ·rintro σ G ⟨⟨o5,o6,o7,o8,o9,rfl⟩,sG,kt,hkt,hTt⟩;have gs:=sG _ _ (Ne.symm nts) f0s;refine⟨sc,o2,nH,nH,a0L,gs,?_⟩;refine q kt _ (λc u hc e=>?_) (by rw[aZ nts];exact hkt) ?_
  ·by_cases z:c=sc
   ·rw[z]at e ⊢;rw[eG,<-e,hsc]
   ·rw[aZ z];refine sG c u hc ?_;rw[f0r c z];exact s2 _ _ e
  ·rw[show S.take as2.length=S by rw[la2,lk2,gZ]]at hTt;exact hTt.keep (Nd.Qf gs)
end
abbrev qO:Stmt:=top 3
def į:bD lE lE (aF qO):={}
def Zy{p q:Int->Bool}(h:∀v,0<=v->v<16->p v=q v):Mq p=Mq q:=by
 unfold Mq;refine List.filter_congr λv hv=>?_;grind
def dJ(xs ys:List Int):List Int:=Mq λv=>decide (v∈xs\/v∈ys)
inductive a0N(K:aK)(vs:List V)(H:Hp)(Q:VK)(u_3:XK):Prop
 |mk (a b:Addr) (xs ys:List Int) (_:vs=[.ref a,.ref b]) (_:bG K H a (xs.map V.int)) (_:bG K H b (ys.map V.int)) (_:Small xs) (_:Small ys) (_:∀H0 p H',aH H H0->gV H0 p (.lst ((dJ xs ys).map V.int)) H'->Q (.ref p) H')
section
variable{K:aK}
def RG(B:Bl mg)(qe:Dn K mg "joint" qO lE):bh P w K mg base gj 1 qe.f qe.fd lE (a0N K):=by
 refine qe.F.ok į λcZ A outer s H vs Q E hr h=>?_;obtain⟨a,b,xs,ys,rfl,hA,hB,sA,sB,q⟩:=h;refine⟨_,(aD (bI (bK (P0 (w:=w) Z Z) Z B.sorted (by decide) (J (bC (a2P (w:=w) Z) (iC (Mr (K:=K) (w:=w) Z Z Z) Z B.set (by decide) (J (pv 0) aj)) (iC (Mr (K:=K) (w:=w) Z Z Z) Z B.set (by decide) (J (pv 1) aj))) aj)))),⟨_,Z,a,xs,Z,hA,sA,λp1 L1 H1 n1 m1=>⟨_,Z,b,ys,Z,n1.same.seq hB,sB,λp2 L2 H2 n2 m2=>⟨p1,p2,L1,L2,Z,Z,n2.ne n1.here,n2.same _ _ n1.here,n2.here,λp3 L H3 n3 m3=>⟨p3,false,L,Z,n3.here,λp4 H4 n4=>?_⟩⟩⟩⟩⟩;have e:(Mq λv=>decide (v.toNat∈L))=dJ xs ys:=Zy λv h0 h1=>by
  grind
 rw[e]at n4;exact q H3 p4 H4 (n1.same.trans (n2.same.trans n3.same)) n4
end
abbrev qD:Stmt:=top 23
def nY:bD ["steps","question","tops","feeds","told","step","bag","used","table"] Mx (aF qD):={}
section
variable{K:aK}{κ:Type} [DecidableEq κ]
def J1(pq:PQ κ)(aR:List (List Int))(fj:List cD)(iM:aU)(bB:List Int)(used:List Nat):cD:=match used with
 | []=>[(pq.leaf,⟨1,0,[]⟩)]
 | [i]=>lF pq iM (dJ bB (aR.getD i [])) (fj.getD i []) []
 |i::j::_=>sJ pq (fj.getD j []) (fj.getD i []) []
def Le(pq:PQ κ)(ss:List aU)(aR:List (List Int))(cI:List (List Nat)):Nat->List cD
 |0=>[]
 |k+1=>Le pq ss aR cI k++[J1 pq aR (Le pq ss aR cI k) (ss.getD k .leaf) (aR.getD k []) (cI.getD k [])]
theorem j6(pq:PQ κ)(ss:List aU)(aR:List (List Int))(cI:List (List Nat)):∀k,(Le pq ss aR cI k).length=k
 |0=>rfl
 |k+1=>by
  show(_++[_]).length=_
  rw[bW,j6 pq ss aR cI k]
  rfl
def Aw(Qn:JQ P w K mg base κ)(aR:List (List Int))(fj:List cD)(iM:aU)(bB:List Int)(used:List Nat):Prop:=match used with
 | []=>True
 | [i]=>iM≠.join/\i<fj.length/\(∀x∈fj.getD i [],Qn.pq.Ok (aR.getD i []).length x.1)/\HW Qn iM (dJ bB (aR.getD i [])) (aR.getD i []).length/\(fj.getD i []).length<=4000/\a3e Qn.pq iM (dJ bB (aR.getD i [])) (fj.getD i []) []
 | [i,j]=>iM=.join/\i<fj.length/\j<fj.length/\i≠j/\∃m≤5,(∀x∈fj.getD i [],Qn.pq.Ok m x.1)/\(∀x∈fj.getD j [],Qn.pq.Ok m x.1)/\((fj.getD j []).map (·.1)).Nodup/\(fj.getD i []).length<=4000/\(fj.getD j []).length<=900/\JX (fj.getD i [])/\JX (fj.getD j [])/\a3h Qn.pq (fj.getD j []) (fj.getD i []) []
 |_=>False
def İ(H:Hp)(p:Addr)(T:cD):Prop:=∃O,H p=some (.dT O)/\oh H O T
inductive a3k(Qn:JQ P w K mg base κ)(vs:List V)(H:Hp)(Q:VK)(u_3:XK):Prop
 |mk (d a pt pf:Addr) (xs vt:List V) (fs:List Addr) (ss:List aU) (aR:List (List Int)) (cI:List (List Nat)) (_:vs=[.ref a,.ref d,.ref pt,.ref pf]) (_:Qn.At H d) (_:bG K H a xs) (_:Paired (vG K H) xs ss) (_:bG K H pt vt) (_:Paired (λv b=>∃p,v=.ref p/\bG K H p (b.map V.int)) vt aR) (_:bG K H pf (fs.map V.ref)) (_:Paired (λf us=>H f=some (.lst (us.map λj:Nat=>V.int (j:Int)))) fs cI) (_:ss.length<=900) (_:aR.length=ss.length) (_:cI.length=ss.length) (_:(∀b∈aR,Small b)) (_:(∀k,k<ss.length->Aw Qn aR (Le Qn.pq ss aR cI k) (ss.getD k .leaf) (aR.getD k []) (cI.getD k []))) (_:∀pl ps H',aH H H'->H pl=none->H' pl=some (.lst (ps.map V.ref))->Paired (İ H') ps (Le Qn.pq ss aR cI ss.length)->ps.Nodup->(∀p∈ps,H p=none)->Q (.ref pl) H')
def Zz{α:Type}{ps:List α}{j:Nat}{p:α}(nd:ps.Nodup)(h:ps[i]?=some p)(h':ps[j]?=some p):i=j:=by
 have h1:=fG.mp h;have h2:=fG.mp h';have pw:=Ô.mp nd;grind
def ZC:∀{s:aU},s.word=(Str.ofString "join")->s=.join
 |.leaf,h=>absurd (show Str.ofString "leaf" = Str.ofString "join" from h) (by decide)
 |.inn _,h=>absurd (show Str.ofString "in" = Str.ofString "join" from h) (by decide)
 |.tie _ _,h=>absurd (show Str.ofString "tie" = Str.ofString "join" from h) (by decide)
 |.out _,h=>absurd (show Str.ofString "out" = Str.ofString "join" from h) (by decide)
 |.join,_=>rfl
def a6m{P:St->Hp->Prop}{R:Prop}(h:∀Z97:St->Hp->Prop,(∀σ H,P σ H->Z97 σ H)->(∀σ H,Z97 σ H->P σ H)->R):R:=h P (λ_ _ z=>z) (λ_ _ z=>z)
def RJ(B:Bl mg)(Bz:mg "zip" = none)(Qn:JQ P w K mg base κ)(qe:Dn K mg "joint" qO lE)(wV:Dn K mg "states_behind" gU JH)(su:Dn K mg "note" wK Gm)(zE:Dn K mg "fill_along" lX Mv)(ye:Dn K mg "fill_joined" jo Mw)(Ax:Dn K mg "going_up" qD Mx):bh P w K mg base gj 11 Ax.f Ax.fd Mx (a3k Qn):=by
 have a6n:bh P w K mg base gj 10 _ _ _ _:=Ld Qn wV su zE;have a6o:bh P w K mg base gj 10 _ _ _ _:=JZ Qn su ye;have a3l:bh P w K mg base gj 10 _ _ _ _:=(RG B qe).mono (by decide);refine Ax.F.ok nY λcZ A outer s H vs Q E hr h=>?_;obtain⟨d,a,pt,pf,xs,vt,fs,ss,aR,cI,rfl,hD,hA,pA,hP,pP,hF,pF,l9,lt,lf,smT,ok,q⟩:=h;have hw1:(A.deeper (PyProof.Rows.envOfC "going_up" (aF qD) s.heap.objs.size Ax.f cZ)).units+1<cLine:=by have:=hr.un;omega
 refine⟨_,(aA (bF 4 nY.nd (cJ aj))
   (aA (kY jV Z (a0B (K:=K) Z Z Bz (J (pv 0) (J (pv 2) (J (pv 3) aj)))) (jy (K:=K) (n:=3) Z Z (bY (aL 5 nY.nd) (bY (aL 6 nY.nd) (bY (aL 7 nY.nd) jx))))
   (aA (bF 8 nY.nd Rr)
   (j4 (dN (wj (gw (K:=K) Z (pv 7) λ_=>rfl))
   (aD (Am (bx (J aq (J aq (J (bx aj) aj)))) (UG (pv 8) (zj (K:=K) Z (pv 1) Z) (Mu hw1))))
   (aD (dN (aJ jb (aQ (aM (K:=K) Z) (pv 5) aq) gJ)
   (aD (jw (bf a6o hr Z ye.m ye.F.kp ye.b .nil b8 (J (pv 1) (J (pv 8) (J (aQ (bQ (K:=K) Z) (pv 4) (aQ (bQ (K:=K) Z) (pv 7) aq)) (J (aQ (bQ (K:=K) Z) (pv 4) (aQ (bQ (K:=K) Z) (pv 7) aq)) aj)))))))
   (aD (jw (bf a6n hr Z zE.m zE.F.kp zE.b .nil b8 (J (pv 1) (J (pv 8) (J (aQ (bQ (K:=K) Z) (pv 4) (aQ (bQ (K:=K) Z) (pv 7) aq)) (J (pv 5) (J (bf a3l hr Z qe.m qe.F.kp qe.b .nil b8 (J (pv 6) (J (aQ (bQ (K:=K) Z) (pv 2) (aQ (bQ (K:=K) Z) (pv 7) aq)) aj))) aj)))))))))))
   (aD (jw (uX (K:=K) Z qw PySem.F.slot_list_append PySem.F.type_list_append lD (pv 4) (J (pv 8) aj)))))))
   (aD (bI (pv 4))))),?_⟩
 refine⟨(by show 0<=1000;decide),λpl H1 n1=>?_⟩;have s1:=n1.same;refine⟨_,Z,_,Z,_,Z,a,pt,pf,Z,⟨_,s1.seq hA⟩,⟨_,s1.seq hP⟩,⟨_,s1.seq hF⟩,?_⟩;have lx:xs.length=ss.length:=aY pA;have lv:vt.length=ss.length:=(aY pP).trans lt;have lfs:(fs.map V.ref).length=ss.length:=by rw[aN];exact(aY pF).trans lf
 refine opq (P:=λk σ G=>(∃o5 o6 o7 o8,σ=[some (.ref a),some (.ref d),some (.ref pt),some (.ref pf),some (.ref pl),o5,o6,o7,o8])/\aH H G/\∃ps:List Addr,G pl=some (.lst (ps.map V.ref))/\Paired (İ G) ps (Le Qn.pq ss aR cI k)/\ps.Nodup/\∀p∈ps,H p=none) λZ97 ji ij=>?_;refine ģ (K:=K) (xs:=xs) (ys:=vt) (zs:=fs.map V.ref) (lx.trans lv.symm) (lx.trans lfs.symm) Z97 (ji _ _ _ ⟨⟨_,_,_,_,Z⟩,s1,[],n1.here,.nil,Ah,λ_ h=>absurd h d7⟩) (λk σ G _ h=>have s:=(ij _ _ _ h).2.1;⟨s.seq hA,s.seq hP,s.seq hF⟩) ?_ ?_
 ·intro k x y z σ G p G1 hx hy hz hJ nw;obtain⟨⟨o5,o6,o7,o8,rfl⟩,sG,ps,hpl,pT,nd,fr⟩:=ij _ _ _ hJ;obtain⟨iM,a4U,sW,rfl,hst⟩:=bT pA hx;obtain⟨bB,a4V,pbg,rfl,hbg⟩:=bT pP hy;rw[iW]at hz;obtain⟨f,hf,rfl⟩:=kI.mp hz;obtain⟨used,a4W,hfu⟩:=bT pF hf;have kl:k<ss.length:=(fG.mp a4U).1;have okk:=ok k kl;have eS:ss.getD k .leaf=iM:=by rw[gB,a4U];rfl
  have eT:aR.getD k []=bB:=by rw[gB,a4V];rfl
  have eF:cI.getD k []=used:=by rw[gB,a4W];rfl
  have go:Le Qn.pq ss aR cI (k+1)=Le Qn.pq ss aR cI k++[J1 Qn.pq aR (Le Qn.pq ss aR cI k) iM bB used]:=by
   show _++[_]=_;rw[eS,eT,eF]
  rw[eS,eT,eF]at okk;have lps:ps.length=k:=(aY pT).trans (j6 _ _ _ _ k);have sG1:aH H G1:=sG.trans nw.same;refine⟨p,_,Z,cG.of nw.here,Z,_,_,Z,_,_,Z,_,_,Z,Z,λt ht0=>?_⟩;have n2:=gV.oF (o:=.dT []) ht0;generalize cO G1 t (.dT [])=G2 at n2 ⊢;have sG2:aH H G2:=sG1.trans n2.same;have g12:aH G G2:=nw.same.trans n2.same;have ı:=g12 _ _ hpl;have pT2:Paired (İ G2) ps (Le Qn.pq ss aR cI k):=Paired.bU pT λ_ _ ⟨kv,h1,h2⟩=>⟨kv,g12 _ _ h1,h2.keep (.of g12)⟩;have hD2:Qn.At G2 d:=(Nd.of sG2).at Qn hD;have Ht:H t=none:=by
   cases e:H t with
   |none=>rfl
   |some u=>rw[sG1 _ _ e]at ht0;cases ht0
  have ntp:∀p∈ps,p≠t:=λp' hp' z=>by
   obtain⟨i,hi,e⟩:=uO hp';obtain⟨T',_,kv,h1,_⟩:=bT pT (fG.mpr ⟨hi,e⟩);have:=nw.same _ _ h1;rw[z,ht0]at this;cases this
  have npl:pl≠t:=λz=>by have:=nw.same _ _ hpl;rw[z,ht0]at this;cases this
  have atT:∀i,i<k->∃pi kv,ps[i]?=some pi/\G2 pi=some (.dT kv)/\oh G2 kv ((Le Qn.pq ss aR cI k).getD i [])/\pi≠t:=λi hi=>by
   have hi':i<ps.length:=by omega
   obtain⟨T',hT',kv,h1,h2⟩:=bT pT2 (bV hi');refine⟨ps[i],kv,bV hi',h1,?_,ntp _ (qy hi')⟩;rw[gB,hT'];exact h2
  have ixT:∀(i:Nat) (pi:Addr),ps[i]?=some pi->S8 (ps.map V.ref) (i:Int)=some (.ref pi):=λi pi h=>by
   have hi:=(fG.mp h).1;exact eV (by rw[iW,h];rfl)
  refine a6m (P:=λσ' G'=>σ'=[some (.ref a),some (.ref d),some (.ref pt),some (.ref pf),some (.ref pl),some (.ref sW),some (.ref pbg),some (.ref f),some (.ref t)]/\Sd t G2 G'/\∃kt,G' t=some (.dT kt)/\oh G' kt (J1 Qn.pq aR (Le Qn.pq ss aR cI k) iM bB used)) λJ2 ji2 ij2=>⟨J2,?_,?_⟩
  ·have hf2:=sG2 _ _ hfu;rcases used with _|⟨i,_|⟨j,_|⟨e,rest⟩⟩⟩
   ·refine⟨_,Z,false,.inl ⟨_,bG.of hf2,Z⟩,gQ ?_⟩;obtain⟨dx',fs',hd,_,⟨al,hal,hlf⟩,_⟩:=Qn.ins hD2;refine⟨(by show 0<=1000;decide),λp3 G3 m3=>⟨(by show 3<=1000;decide),λp4 G4 m4=>?_⟩⟩;have V6:=m3.same.trans m4.same;refine⟨_,Z,_,Z,d,_,dx',fs',_,Z,V6 _ _ hd,Qn.cl,Qn.iw,hal,t,al,wJ Qn.pq.leaf,[],Z,Z,(hlf.keep (.of V6)).key,V6 _ _ n2.here,by decide,λG5 c5=>?_⟩;have nd5:rZ G4 G5:=λc' ys hc=>by
     rw[c5.rest c' (λz=>by rw[z,V6 _ _ n2.here]at hc;cases hc)];exact hc
    exact ji2 _ _ ⟨Z,(Sd.of V6).trans (.a1I c5),_,c5.here,.cons ⟨Z,p4,p3,[],Z,nd5 _ _ m4.here,nd5 _ _ (m4.same _ _ m3.here),.nil⟩ .nil⟩
   ·obtain⟨nj,il,vU,fit,lS,lim⟩:=okk;rw[j6]at il;obtain⟨pi,kv,hpi,hgi,hTi,nti⟩:=atT i il;refine⟨_,Z,true,.inl ⟨_,bG.of hf2,Z⟩,cN ?_⟩;refine⟨_,Z,sW,iM.vs,0,.str iM.word,Z,Z,sG2.wC hst,by cases iM<;>rfl,Z,_,Z,?_⟩;rw[bJ (show ¬V.str iM.word=V.str (Str.ofString "join")from λz=>nj (ZC (V.str.inj z)))];refine cN ⟨_,Z,_,Z,_,Z,_,Z,f,_,_,_,Z,Z,bG.of hf2,Z,pl,_,_,_,Z,Z,bG.of ı,ixT i pi hpi,_,Z,_,Z,_,Z,_,Z,f,_,_,_,Z,Z,bG.of hf2,Z,?_⟩;have it:i<aR.length:=by omega
    obtain⟨vb,hvb,pbi,rfl,hbi⟩:∃vb,vt[i]?=some vb/\∃q,vb=.ref q/\bG K H q ((aR.getD i []).map V.int):=by
     have hi':i<vt.length:=by omega
     obtain⟨b',hb',q',e',h'⟩:=bT pP (bV hi');refine⟨_,bV hi',q',e',?_⟩;rw[gB,hb'];exact h'
    refine⟨pt,vt,_,_,Z,Z,sG2.seq hP,eV hvb,pbg,pbi,bB,aR.getD i [],Z,sG2.seq hbg,sG2.seq hbi,smT _ (jA a4V),smT _ (by rw[gB,bV it];exact qy it),λG3 pj G4 s3 n4=>?_⟩;have Ĵ:=s3.trans n4.same;refine⟨d,t,pi,sW,pj,[],kv,[],_,iM,dJ bB (aR.getD i []),(aR.getD i []).length,Z,(Nd.of Ĵ).at Qn hD2,Ĵ _ _ n2.here,.nil,Ĵ _ _ hgi,hTi.keep (.of Ĵ),Ne.symm nti,vU,(sG2.trans Ĵ).wC hst,n4.here,fit,lS,lim,λkt G5 s5 h5 hT5=>ji2 _ _ ⟨Z,(Sd.of Ĵ).trans s5,kt,h5,hT5⟩⟩
   ·obtain⟨ej,il,jl,nij,m,m5,vU,okA,ndA,lS,lA,smS,smA,lim⟩:=okk;rw[j6]at il jl;obtain⟨pi,kv,hpi,hgi,hTi,nti⟩:=atT i il;obtain⟨pj,kvj,hpj,hgj,hTj,ntj⟩:=atT j jl;have npp:pi≠pj:=λz=>nij (Zz nd hpi (by rw[z];exact hpj));refine⟨_,Z,true,.inl ⟨_,bG.of hf2,Z⟩,cN ?_⟩;subst ej;refine⟨_,Z,sW,aU.join.vs,0,.str (Str.ofString "join"),Z,Z,sG2.wC hst,Z,Z,_,Z,?_⟩;rw[bO (show V.str (Str.ofString "join")=V.str (Str.ofString "join")from Z)];exact gQ ⟨_,Z,_,Z,_,Z,_,Z,f,_,_,_,Z,Z,bG.of hf2,Z,pl,_,_,_,Z,Z,bG.of ı,ixT i pi hpi,_,Z,_,Z,f,_,_,_,Z,Z,bG.of hf2,Z,pl,_,_,_,Z,Z,bG.of ı,ixT j pj hpj,⟨d,t,pi,pj,[],kv,kvj,[],_,_,m,Z,hD2,n2.here,.nil,hgi,hTi,hgj,hTj,Ne.symm nti,Ne.symm ntj,npp,vU,okA,m5,ndA,lS,lA,smS,smA,lim,λkt G5 s5 h5 hT5=>ji2 _ _ ⟨Z,s5,kt,h5,hT5⟩⟩⟩
   ·exact okk.elim
  ·intro σ' G3 h2;obtain⟨rfl,s3,kt,hkt,hTn⟩:=ij2 _ _ h2;have a3m:=s3 _ _ npl ı;have tu3:rZ G2 G3:=s3.tups n2.here;refine⟨_,Z,.inl ⟨Z,_,bG.of a3m⟩,_,Z,pl,_,_,Z,Z,a3m,by rw[aN,lps];omega,λG4 c4=>?_⟩;have s4:∀c u,c≠pl->G3 c=some u->G4 c=some u:=λc u hc e=>by rw[c4.rest c hc];exact e
   have tu4:rZ G3 G4:=λc ys e=>s4 c _ (λz=>by rw[z,a3m]at e;cases e) e;have nlp:∀p∈ps,p≠pl:=λp' hp' z=>by
    obtain⟨i,hi,e⟩:=uO hp';obtain⟨T',_,kv,h1,_⟩:=bT pT2 (fG.mpr ⟨hi,e⟩);rw[z,ı]at h1;cases h1
   refine ji _ _ _ ⟨⟨_,_,_,_,Z⟩,λc u e=>?_,ps++[t],by rw[c4.here,dF];rfl,?_,?_,?_⟩
   ·have ncl:c≠pl:=λz=>by rw[z,n1.fresh]at e;cases e
    have nct:c≠t:=λz=>by rw[z,Ht]at e;cases e
    exact s4 c u ncl (s3 c u nct (sG2 _ _ e))
   ·rw[go];have a4X:∀{as:List Addr}{Ts:List cD},Paired (İ G2) as Ts->(∀p∈as,p≠t/\p≠pl)->Paired (İ G4) as Ts:=λ{as Ts} h=>by
     induction h with
     |nil=>intro _;exact .nil
     | @cons p T _ _ h1 _ ih =>
      intro hh;obtain⟨kv,e1,e2⟩:=h1;have hn:=hh p (aW ..);exact .cons ⟨kv,s4 _ _ hn.2 (s3 _ _ hn.1 e1),e2.keep (tu3.trans tu4)⟩ (ih λp' hp'=>hh p' (bM _ hp'))
    exact cV (a4X pT2 λp' hp'=>⟨ntp p' hp',nlp p' hp'⟩) ⟨kt,s4 _ _ (Ne.symm npl) hkt,hTn.keep tu4⟩
   ·exact vX.mpr ⟨nd,zQ _ _,λx hx y hy e=>ntp x hx (by rw[e,bw.mp hy])⟩
   ·intro p' hp';rcases b7.mp hp' with h|h
    ·exact fr p' h
    ·rw[bw.mp h];exact Ht
 ·intro σ G hJ;obtain⟨⟨o5,o6,o7,o8,rfl⟩,sG,ps,hpl,pT,nd,fr⟩:=ij _ _ _ hJ;rw[lx]at pT;exact⟨_,Z,q pl ps G sG n1.fresh hpl pT nd fr⟩
end
abbrev Ay:Stmt:=top 1
def RK:bD ["thing"] ["thing"] (aF Ay):={}
abbrev gA:Stmt:=top 2
def RL:bD uJ uJ (aF gA):={}
inductive a0O(K:aK)(vs:List V)(H:Hp)(Q:VK)(u_3:XK):Prop
 |mk (x:V) (t:Value) (bi bb:Bool) (_:vs=[x]) (_:sU K H x t) (_:PySem.W.kitOne K t (.type "int")=some bi) (_:PySem.W.kitOne K t (.type "bool")=some bb) (_:Q (.bl (bi && !bb)) H)
inductive a0P(vs:List V)(H:Hp)(Q:VK)(u_3:XK):Prop
 |mk (n:Int) (o:Option Int) (_:vs=[.int n,upV o]) (_:Q (.bl (oU n o)) H)
section
variable{K:aK}
abbrev GK(K:PySem.W.Frag)(mg:Str->Option Value):=Dn K mg "is_whole" Ay ["thing"]
def RM(B:Bl mg)(kE:GK K mg):bh P w K mg base gj 1 kE.f kE.fd ["thing"] (a0O K):=by
 refine kE.F.ok RK λcZ A outer s H vs Q E hr h=>?_;obtain⟨x,t,bi,bb,rfl,ty,h1,h2,q⟩:=h;refine⟨_,(aD (bI (Û (bK (jQ (K:=K) Z) Z B.isinstance (by decide) (J (pv 0) (J (wg (v:=.ty "int") (u:=.type "int") Z B.int (by decide) Z) aj))) (Uz (a1V (bK (jQ (K:=K) Z) Z B.isinstance (by decide) (J (pv 0) (J (wg (v:=.ty "bool") (u:=.type "bool") Z B.bool (by decide) Z) aj)))))))),⟨_,Z,_,_,_,_,_,Z,Z,ty,h1,_,Z,?_⟩⟩;cases bi with
 |true =>
  exact gQ ⟨_,Z,_,_,_,_,_,Z,Z,ty,h2,_,Z,q⟩
 |false=>exact cN q
def yg(B:Bl mg)(kE:GK K mg)(jL:Dn K mg "is_below" gA uJ):bh P w K mg base gj 2 jL.f jL.fd uJ a0P:=by
 have a6p:bh P w K mg base gj 1 _ _ _ _:=RM B kE;refine jL.F.ok RL λcZ A outer s H vs Q E hr h=>?_;obtain⟨n,o,rfl,q⟩:=h;refine⟨_,(aD (bI (Û (bf a6p hr Z kE.m kE.F.kp kE.b .nil b8 (J (pv 1) aj)) (Uz (á a4a xV aq (pv 1) (pv 0)))))),?_⟩;cases o with
 |none=>exact⟨_,Z,_,_,_,_,Z,sU.non,Q6,Pq,_,Z,cN q⟩
 |some i =>
  refine⟨_,Z,_,_,_,_,Z,sU.int i,Ge,Cp,_,Z,gQ ⟨_,Z,_,_,Z,Z,_,Z,tZ (λc=>?_) λc=>?_⟩⟩
  ·have c':0<=i:=eZ c;refine⟨_,Z,_,_,Z,Z,?_⟩;have e:oU n (some i)=decide (i<n):=by unfold oU;simp[c']
   rw[e]at q;exact q
  ·have c':¬0<=i:=Ed (tO.mpr c);have e:oU n (some i)=false:=by unfold oU;simp[c']
   grind
end
def iQ(xs ys:List Int):List Int:=xs.filter λv=>!decide (v∈ys)
abbrev um:Stmt:=top 4
def XR:bD lE lE (aF um):={}
inductive a0Q(K:aK)(vs:List V)(H:Hp)(Q:VK)(u_3:XK):Prop
 |mk (a b:Addr) (xs ys:List Int) (_:vs=[.ref a,.ref b]) (_:cG K H a (xs.map V.int)) (_:bG K H b (ys.map V.int)) (_:xs.length<=1000) (_:∀H0 p H',aH H H0->gV H0 p (.lst ((iQ xs ys).map V.int)) H'->Q (.ref p) H')
section
variable{K:aK}
def ĵ(B:Bl mg)(nJ:Dn K mg "less" um lE):bh P w K mg base gj 1 nJ.f nJ.fd lE (a0Q K):=by
 refine nJ.F.ok XR λcZ A outer s H vs Q E hr h=>?_;obtain⟨a,b,xs,ys,rfl,hA,hB,hz,q⟩:=h;have hv:(A.deeper (PyProof.Rows.envOfC "less" (aF um) s.heap.objs.size nJ.f cZ)).units+65<cLine:=by have:=hr.un;omega
 refine⟨_,(aD (bI (jH ["v","other"] [none,some 1]  (by kernel_rfl) Z (Cq (K:=K) Z (pv 0)) (λ_ _ _ _ _=>(aL 0 (show(["v","other"]:List Str).Nodup by decide))) (λ_ _ _ _ _=>(mV (aJ (jP (K:=K) Z hv) (pv 0) (pv 1) (by with_unfolding_all rfl)))) λ_ _ _ _ _=>(pv 0)))),⟨_,Z,a,Z,⟨_,hA⟩,a0p (λx=>match x with |.int v=>if !decide (v∈ys)then some (.int v)else none|_=>none) hA (by grind) (λx H1 N hx sm hN=>?_) λH1 p H1' sm hp=>?_⟩⟩
 ·obtain⟨v,hv,rfl⟩:=gn.mp hx;have hN':=hN H1 sm;refine⟨_,Z,_,Z,yX (sm.seq hB) ⟨_,Z,?_⟩⟩;dsimp only at hN';cases c:decide (v∈ys)with
  |true=>rw[c]at hN';exact cN hN'
  |false=>rw[c]at hN';exact gQ ⟨_,Z,hN'⟩
 ·have e:(xs.map V.int).filterMap (λx=>match x with |.int v=>if !decide (v∈ys)then some (V.int v)else none|_=>none)=(iQ xs ys).map V.int:=Et λv _=>rfl;rw[e]at hp;exact q _ _ _ sm hp
end
inductive a0R(K:aK)(vs:List V)(H:Hp)(Q:VK)(u_3:XK):Prop
 |mk (a b:Addr) (xs ys:List Int) (_:vs=[.ref a,.ref b]) (_:bG K H a (xs.map V.int)) (_:cG K H b (ys.map V.int)) (_:xs.length<=1000) (_:∀H0 p H',aH H H0->gV H0 p (.lst ((iQ xs ys).map V.int)) H'->Q (.ref p) H')
theorem RN(v:Int):∀ys:List Int,inV (.int v) (ys.map V.int)=decide (v∈ys)
 | []=>rfl
 |y::r=>by
  have ih:=RN v r
  unfold inV at ih ⊢
  rw[cL,tR,ih,rU,Uo,dY,dY,cH]
  have:ë (V.int y) (V.int v)=decide (y=v):=rfl
  grind
def ZD(ys:List Int):(ys.map V.int).all Ce=true:=IW.mpr λx hx=>by
 obtain⟨y,_,rfl⟩:=gn.mp hx;rfl
section
variable{K:aK}
def Ķ(B:Bl mg)(nJ:Dn K mg "less" um lE):bh P w K mg base gj 1 nJ.f nJ.fd lE (a0R K):=by
 refine nJ.F.ok XR λcZ A outer s H vs Q E hr h=>?_;obtain⟨a,b,xs,ys,rfl,hA,hB,hz,q⟩:=h;refine⟨_,(aD (bI (jH ["v","other"] [none,some 1]  (by kernel_rfl) Z (cX (K:=K) Z (pv 0)) (λ_ _ _ _ _=>(aL 0 (show(["v","other"]:List Str).Nodup by decide))) (λ_ _ _ _ _=>(mV (aJ (Vo (K:=K) Z) (pv 0) (pv 1) (by with_unfolding_all rfl)))) λ_ _ _ _ _=>(pv 0)))),⟨_,Z,a,Z,⟨_,hA⟩,Pr (λx=>match x with |.int v=>if !decide (v∈ys)then some (.int v)else none|_=>none) hA (by grind) (λx H1 N hx sm hN=>?_) λH1 p H1' sm hp=>?_⟩⟩
 ·obtain⟨v,hv,rfl⟩:=gn.mp hx;have hN':=hN H1 sm;refine⟨_,Z,_,Z,b,_,Z,.inr (sm.wC hB),Z,ZD _,_,Z,?_⟩;rw[aG Z,RN];dsimp only at hN';cases c:decide (v∈ys)with
  |true=>rw[c]at hN';exact cN hN'
  |false=>rw[c]at hN';exact gQ ⟨_,Z,hN'⟩
 ·have e:(xs.map V.int).filterMap (λx=>match x with |.int v=>if !decide (v∈ys)then some (V.int v)else none|_=>none)=(iQ xs ys).map V.int:=Et λv _=>rfl;rw[e]at hp;exact q _ _ _ sm hp
end
def bh.either{K:aK}{CX:Vc}{k:Nat}{f:Addr}{fd:FuncData}{ps:List Str}{sp sp':Sp}(F:bh P w K mg base CX k f fd ps sp)(G:bh P w K mg base CX k f fd ps sp'):bh P w K mg base CX k f fd ps (λvs H Q E=>sp vs H Q E\/sp' vs H Q E) :=
 ⟨λvs H Q E h=>h.elim (F.len vs H Q E) (G.len vs H Q E),λA outer s H args us vs Q E hr he hb hv hs=>hs.elim (F.run A outer s H args us vs Q E hr he hb hv) (G.run A outer s H args us vs Q E hr he hb hv)⟩
def XS(s t:Int×Int):PyData.eqv (xY s) (xY t)=decide (s=t):=by
 unfold xY;rw[PyData.eqv];have e:=PySem.W.ked_eqvAll [s.1,s.2] [t.1,t.2];grind
def a0S(ts:List bA)(t:Int×Int):(ts.map xY).any (λe=>PyData.eqv e (xY t))=decide (t∈ts):=by
 rw[List.any_map];rw[rU,Ad,dY];constructor
 ·rintro⟨s,hs,e⟩;have:PyData.eqv (xY s) (xY t)=true:=e;rw[XS]at this;grind
 ·intro h;exact⟨t,h,by show PyData.eqv (xY t) (xY t)=true;rw[XS];simp⟩
def V8(t:Int×Int):SeqAt.shaped (xY t)=true:=by
 unfold SeqAt.shaped;rw[W7,Je];exact bO (by have:=Mj t;omega)
abbrev gC:Stmt:=top 15
def qP:bD ["graph","done","step","used","kind","bag","v"] Gn (aF gC):={}
def qg(n:Nat)(ts:List bA)(done:List aU)(s:aU)(used:List (List Int)):Option (List Int) :=
 match s with
 |.leaf=>some []
 |.inn v=>if(0<=v/\v<(n:Int))/\v∉used.getD 0 []/\aU.out v∉done then some (dJ (used.getD 0 []) [v])else none
 |.tie a b=>if(a,b)∈ts/\iQ [a,b] (used.getD 0 [])=[]/\aU.tie a b∉done then some (used.getD 0 [])else none
 |.out v=>if v∈used.getD 0 []/\aU.out v∉done then some (iQ (used.getD 0 []) [v])else none
 |.join=>if used.getD 0 []=used.getD 1 []then some (used.getD 0 [])else none
def a6q(K:aK)(H:Hp)(ux:List V)(H':Hp)(v:V):Option (List Int)->Prop
 |none=>v=.non
 |some b=>∃p,v=.ref p/\bG K H' p (b.map V.int)/\(H p=none\/V.ref p∈ux)
def X3{ux:List V}{k:Nat}{v:V}(h:S8 ux (k:Int)=some v):v∈ux:=by
 obtain⟨j,_,e,_⟩:=Pb h;exact jA e
inductive a3n(K:aK)(vs:List V)(H:Hp)(Q:VK)(u_3:XK):Prop
 |mk (g:V) (n:Nat) (ts:List bA) (dn st us:Addr) (ds ux:List V) (done:List aU) (s:aU) (used:List (List Int)) (_:vs=[g,.ref dn,.ref st,.ref us]) (_:uY K H g n ts) (_:n<=10) (_:bG K H dn ds) (_:Paired (vG K H) ds done) (_:cG K H st s.vs) (_:bG K H us ux) (_:Paired (VG K H) ux used) (_:s.need<=used.length) (_:(∀b∈used,Small b/\b.length<=1000)) (_:∀r H',aH H H'->a6q K H ux H' r (qg n ts done s used)->Q r H')
def qQ{j:Nat}(hi:i<5)(hj:j<5)(h:i≠j):decide (V.str (Gr i)=V.str (Gr j))=false:=bJ λe=>by
 have:=JR i hi j hj;grind
def w10:decide (V.str (Str.ofString "in")=V.str (Str.ofString "leaf"))=false:=qQ (i:=1) (j:=0) (by decide) (by decide) (by decide)
def w20:decide (V.str (Str.ofString "tie")=V.str (Str.ofString "leaf"))=false:=qQ (i:=2) (j:=0) (by decide) (by decide) (by decide)
def w21:decide (V.str (Str.ofString "tie")=V.str (Str.ofString "in"))=false:=qQ (i:=2) (j:=1) (by decide) (by decide) (by decide)
def w30:decide (V.str (Str.ofString "out")=V.str (Str.ofString "leaf"))=false:=qQ (i:=3) (j:=0) (by decide) (by decide) (by decide)
def w31:decide (V.str (Str.ofString "out")=V.str (Str.ofString "in"))=false:=qQ (i:=3) (j:=1) (by decide) (by decide) (by decide)
def w32:decide (V.str (Str.ofString "out")=V.str (Str.ofString "tie"))=false:=qQ (i:=3) (j:=2) (by decide) (by decide) (by decide)
def w40:decide (V.str (Str.ofString "join")=V.str (Str.ofString "leaf"))=false:=qQ (i:=4) (j:=0) (by decide) (by decide) (by decide)
def w41:decide (V.str (Str.ofString "join")=V.str (Str.ofString "in"))=false:=qQ (i:=4) (j:=1) (by decide) (by decide) (by decide)
def w42:decide (V.str (Str.ofString "join")=V.str (Str.ofString "tie"))=false:=qQ (i:=4) (j:=2) (by decide) (by decide) (by decide)
def w43:decide (V.str (Str.ofString "join")=V.str (Str.ofString "out"))=false:=qQ (i:=4) (j:=3) (by decide) (by decide) (by decide)
def RQ{K:aK}{H:Hp}{ux:List V}{used:List (List Int)}{k:Nat}(p:Paired (VG K H) ux used)(h:k<used.length):∃b,S8 ux (k:Int)=some (.ref b)/\bG K H b ((used.getD k []).map V.int)/\used.getD k []∈used:=by
 obtain⟨x,hx,⟨b,rfl,hb⟩⟩:=fu p (bV h);refine⟨b,eV hx,?_,?_⟩
 ·grind
 grind
def yh{K:aK}{H:Hp}{dn st:Addr}{ds:List V}{done:List aU}{s:aU}{Q:VK}(hD:bG K H dn ds)(pD:Paired (vG K H) ds done)(hS:cG K H st s.vs)(q:Q (.bl (!decide (s∈done))) H):Vn K true (.ref st) (.ref dn) H Q:=by
 refine⟨s.d,done.map aU.d,vG.isD ⟨st,Z,hS⟩,.lst hD (Pu (λ_ _ h=>vG.isD h) pD),V2 _,Rz _,?_⟩;rw[aG Z,a0H];exact q
section
variable{K:aK}
def Lf(B:Bl mg)(kE:GK K mg)(jL:Dn K mg "is_below" gA uJ)(qe:Dn K mg "joint" qO lE)(nJ:Dn K mg "less" um lE)(K5:Dn K mg "bag_behind" gC Gn):bh P w K mg base gj 3 K5.f K5.fd Gn (a3n K):=by
 have ķ:bh P w K mg base gj 2 _ _ _ _:=yg B kE jL;have a3l:bh P w K mg base gj 2 _ _ _ _:=(RG B qe).mono (by decide);have a4Y:bh P w K mg base gj 2 _ _ _ _:=(bh.either (ĵ B nJ) (Ķ B nJ)).mono (by decide);refine K5.F.ok qP λcZ A outer s H vs Q E hr h=>?_;obtain⟨g,n,ts,dn,st,us,ds,ux,done,sp,used,rfl,hG,cU,hD,pD,hS,hU,pU,nu,sm,q⟩:=h;have hu:(A.deeper (PyProof.Rows.envOfC "bag_behind" (aF gC) s.heap.objs.size K5.f cZ)).units+64<cLine:=by have:=hr.un;omega
 have hv:(A.deeper (PyProof.Rows.envOfC "bag_behind" (aF gC) s.heap.objs.size K5.f cZ)).units+65<cLine:=by have:=hr.un;omega
 obtain⟨pg,ta,rfl,hP,hT⟩:=id hG;refine⟨_,(aA (bF 4 qP.nd (aQ (aM (K:=K) Z) (pv 2) aq))
   (aA (dN (aJ jb (pv 4) gJ)
   (aD (bI (cJ aj)))
   bR)
   (aA (bF 5 qP.nd (aQ (bQ (K:=K) Z) (pv 3) aq))
   (aA (dN (aJ jb (pv 4) gJ)
   (aA (bF 6 qP.nd (aQ (aM (K:=K) Z) (pv 2) aq))
   (aD (bI (oN (PW.pt (oM (gw (K:=K) Z (bf ķ hr Z jL.m jL.F.kp jL.b .nil b8 (J (aQ (aM (K:=K) Z) (pv 0) aq) (J (pv 6) aj))) λ_=>rfl) (oM (aJ (jP (K:=K) Z hv) (pv 6) (pv 5) (by with_unfolding_all rfl)) (qM (aJ (jP (K:=K) Z hv) (bx (J gJ (J (pv 6) aj))) (pv 1) (by with_unfolding_all rfl)))))) (bf a3l hr Z qe.m qe.F.kp qe.b .nil b8 (J (pv 5) (J (cJ (J (pv 6) aj)) aj))) oK))))
   bR)
   (aA (dN (aJ jb (pv 4) gJ)
   (aD (bI (oN (PW.pt (oM (aJ (uI (K:=K) Z hv) (jG (HJ (K:=K) Z) (pv 2) (lR aq) lQ) (aQ (aM (K:=K) Z) (pv 0) aq) (by with_unfolding_all rfl)) (oM (wj (gw (K:=K) Z (bf a4Y hr Z nJ.m nJ.F.kp nJ.b .nil b8 (J (jG (HJ (K:=K) Z) (pv 2) (lR aq) lQ) (J (pv 5) aj))) λ_=>rfl)) (qM (aJ (jP (K:=K) Z hv) (pv 2) (pv 1) (by with_unfolding_all rfl)))))) (pv 5) oK)))
   bR)
   (aA (dN (aJ jb (pv 4) gJ)
   (aD (bI (oN (PW.pt (oM (aJ (uI (K:=K) Z hv) (aQ (aM (K:=K) Z) (pv 2) aq) (pv 5) (by with_unfolding_all rfl)) (qM (aJ (jP (K:=K) Z hv) (pv 2) (pv 1) (by with_unfolding_all rfl))))) (bf a4Y hr Z nJ.m nJ.F.kp nJ.b .nil b8 (J (pv 5) (J (jG (HJ (K:=K) Z) (pv 2) (lR aq) lQ) aj))) oK)))
   bR)
   (aD (bI (oN (aJ (η (K:=K) Z hu) (pv 5) (aQ (bQ (K:=K) Z) (pv 3) aq)) (pv 5) oK))))))))),?_⟩
 cases sp with
 |leaf =>
  refine⟨_,Z,st,_,_,_,Z,Z,hS,Z,⟨_,Z,Z,_,Z,?_⟩⟩;rw[bO rfl];exact gQ ⟨(by show 0<=1000;decide),λp1 H1 n1=>q _ H1 n1.same ⟨p1,Z,bG.of n1.here,.inl n1.fresh⟩⟩
 |inn v =>
  obtain⟨b0,a0,hb0,m0⟩:=RQ (k:=0) pU nu;obtain⟨sm0,l0⟩:=sm _ m0;refine⟨_,Z,st,_,_,_,Z,Z,hS,Z,⟨_,Z,Z,_,Z,?_⟩⟩;rw[w10];refine cN ⟨_,Z,us,_,_,_,Z,Z,hU,a0,⟨_,Z,Z,_,Z,?_⟩⟩;rw[bO rfl];refine gQ ⟨_,Z,st,_,_,_,Z,Z,hS,Z,⟨_,Z,pg,_,_,_,Z,Z,hP,Z,_,Z,(n:Int),some v,Z,_,Z,?_⟩⟩;have eb:oU (n:Int) (some v)=decide (0<=v/\v<(n:Int)):=rfl;rw[eb];have no:∀{H'},aH H H'->¬((0<=v/\v<(n:Int))/\v∉used.getD 0 []/\aU.out v∉done)->Q .non H':=λs c=>q _ _ s (by
   unfold qg;dsimp only;rw[aB c];exact Z)
  by_cases c1:0<=v/\v<(n:Int)
  ·rw[bO c1];refine gQ ⟨_,Z,_,Z,yX hb0 ⟨_,Z,?_⟩⟩;by_cases c2:v∈used.getD 0 []
   ·rw[bO c2];exact cN (cN (no (aH.refl _) λh=>h.2.1 c2))
   ·rw[bJ c2];refine gQ ⟨_,Z,(by show 2<=1000;decide),λp2 H2 n2=>?_⟩;refine⟨_,Z,yh (s:=.out v) (n2.same.seq hD) (Paired.bU pD λ_ _ h=>vG.same n2.same h) (cG.of n2.here) ⟨_,Z,?_⟩⟩;by_cases c3:aU.out v∈done
    ·rw[bO c3];exact cN (no n2.same λh=>h.2.2 c3)
    ·rw[bJ c3];refine gQ ⟨_,Z,_,Z,(by show 1<=1000;decide),λp3 H3 n3=>?_⟩;refine⟨b0,p3,_,[v],Z,(n2.same.trans n3.same).seq hb0,bG.of n3.here,sm0,λx hx=>by rw[bw.mp hx];omega,λH4 p5 H5 s4 n5=>?_⟩;refine q _ H5 (n2.same.trans (n3.same.trans (s4.trans n5.same))) ?_;unfold qg;dsimp only;rw[aG ⟨c1,c2,c3⟩];exact⟨p5,Z,bG.of n5.here,.inl ((n2.same.trans (n3.same.trans s4)).free n5.fresh)⟩
  ·rw[bJ c1];exact cN (cN (no (aH.refl _) λh=>c1 h.1))
 |tie x y =>
  obtain⟨b0,a0,hb0,m0⟩:=RQ (k:=0) pU nu;refine⟨_,Z,st,_,_,_,Z,Z,hS,Z,⟨_,Z,Z,_,Z,?_⟩⟩;rw[w20];refine cN ⟨_,Z,us,_,_,_,Z,Z,hU,a0,⟨_,Z,Z,_,Z,?_⟩⟩;rw[w21];refine cN ⟨_,Z,Z,_,Z,?_⟩;rw[bO rfl];have no:∀{H'},aH H H'->¬((x,y)∈ts/\iQ [x,y] (used.getD 0 [])=[]/\aU.tie x y∉done)->Q .non H':=λs c=>q _ _ s (by
   unfold qg;dsimp only;rw[aB c];exact Z)
  refine gQ ⟨_,Z,_,Z,st,_,Z,hS,λh=>absurd h.1 (by show ¬HT.kZ 3 0 (some 1)=0;decide),λp1 H1 n1=>?_⟩;refine⟨_,Z,pg,_,_,_,Z,Z,n1.same.wC hP,Z,xY (x,y),ts.map xY,υ.isD ⟨p1,Z,cG.of n1.here⟩,(hT.same n1.same).isD,V8 _,Q8 _,_,Z,?_⟩;rw[aB dw,a0S];by_cases c1:(x,y)∈ts
  ·rw[bO c1];refine gQ ⟨_,Z,_,Z,st,_,Z,n1.same.wC hS,λh=>absurd h.1 (by show ¬HT.kZ 3 0 (some 1)=0;decide),λp2 H2 n2=>?_⟩;have s2:=n1.same.trans n2.same;refine⟨_,Z,.inl ⟨p2,b0,[x,y],_,Z,cG.of n2.here,s2.seq hb0,(by show 2<=1000;decide),λH4 p5 H5 s4 n5=>?_⟩⟩;have s5:=s2.trans (s4.trans n5.same);refine⟨_,.inl ⟨_,bG.of n5.here,Z⟩,?_⟩;by_cases c2:iQ [x,y] (used.getD 0 [])=[]
   ·rw[c2];refine gQ ⟨_,Z,_,Z,yh (s:=.tie x y) (s5.seq hD) (Paired.bU pD λ_ _ h=>vG.same s5 h) (s5.wC hS) ⟨_,Z,?_⟩⟩;by_cases c3:aU.tie x y∈done
    ·rw[bO c3];exact cN (no s5 λh=>h.2.2 c3)
    ·rw[bJ c3];refine gQ ⟨_,Z,q _ H5 s5 ?_⟩;unfold qg;dsimp only;rw[aG ⟨c1,c2,c3⟩];exact⟨b0,Z,s5.seq hb0,.inr (X3 a0)⟩
   ·have e:((iQ [x,y] (used.getD 0 [])).map V.int).isEmpty=false:=by
     cases c4:iQ [x,y] (used.getD 0 [])with
     |nil=>exact absurd c4 c2
     |cons _ _=>rfl
    rw[e];exact cN (cN (no s5 λh=>c2 h.2.1))
  ·rw[bJ c1];exact cN (cN (no n1.same λh=>c1 h.1))
 |out v =>
  obtain⟨b0,a0,hb0,m0⟩:=RQ (k:=0) pU nu;refine⟨_,Z,st,_,_,_,Z,Z,hS,Z,⟨_,Z,Z,_,Z,?_⟩⟩;rw[w30];refine cN ⟨_,Z,us,_,_,_,Z,Z,hU,a0,⟨_,Z,Z,_,Z,?_⟩⟩;rw[w31];refine cN ⟨_,Z,Z,_,Z,?_⟩;rw[w32];refine cN ⟨_,Z,Z,_,Z,?_⟩;rw[bO rfl];have no:∀{H'},aH H H'->¬(v∈used.getD 0 []/\aU.out v∉done)->Q .non H':=λs c=>q _ _ s (by
   unfold qg;dsimp only;rw[aB c];exact Z)
  refine gQ ⟨_,Z,st,_,_,_,Z,Z,hS,Z,_,Z,Ar hb0 ⟨_,Z,?_⟩⟩;by_cases c1:v∈used.getD 0 []
  ·rw[bO c1];refine gQ ⟨_,Z,_,Z,yh (s:=.out v) hD pD hS ⟨_,Z,?_⟩⟩;by_cases c2:aU.out v∈done
   ·rw[bO c2];exact cN (no (aH.refl _) λh=>h.2 c2)
   ·rw[bJ c2];refine gQ ⟨_,Z,_,Z,_,Z,st,_,Z,hS,λh=>absurd h.1 (by show ¬HT.kZ 2 0 (some 1)=0;decide),λp2 H2 n2=>?_⟩;refine .inr ⟨b0,p2,_,[v],Z,n2.same.seq hb0,cG.of n2.here,(sm _ m0).2,λH4 p5 H5 s4 n5=>q _ H5 (n2.same.trans (s4.trans n5.same)) ?_⟩;unfold qg;dsimp only;rw[aG ⟨c1,c2⟩];exact⟨p5,Z,bG.of n5.here,.inl ((n2.same.trans s4).free n5.fresh)⟩
  ·rw[bJ c1];exact cN (cN (no (aH.refl _) λh=>c1 h.1))
 |join =>
  obtain⟨b0,a0,hb0,m0⟩:=RQ (k:=0) pU (jB (by decide) nu);obtain⟨b1,a1,hb1,m1⟩:=RQ (k:=1) pU (jB (by decide) nu);refine⟨_,Z,st,_,_,_,Z,Z,hS,Z,⟨_,Z,Z,_,Z,?_⟩⟩;rw[w40];refine cN ⟨_,Z,us,_,_,_,Z,Z,hU,a0,⟨_,Z,Z,_,Z,?_⟩⟩;rw[w41];refine cN ⟨_,Z,Z,_,Z,?_⟩;rw[w42];refine cN ⟨_,Z,Z,_,Z,?_⟩;rw[w43];refine cN ⟨_,Z,_,Z,us,_,_,_,Z,Z,hU,a1,_,_,.lst hb0 (uW.ints _),.lst hb1 (uW.ints _),shaped_ints _,shaped_ints _,_,Z,?_⟩;rw[aB dw,Jt];by_cases c:used.getD 0 []=used.getD 1 []
  ·rw[bO c];refine gQ ⟨_,Z,q _ H (aH.refl _) ?_⟩;unfold qg;dsimp only;rw[aG c];exact⟨b0,Z,hb0,.inr (X3 a0)⟩
  ·rw[bJ c];refine cN (q _ H (aH.refl _) ?_);unfold qg;dsimp only;rw[aB c];exact rfl
end
abbrev J3:Stmt:=top 14
def u5:bD ["graph","steps","tops","feeds","pile","k","step","left","bag"] qj (aF J3):={}
structure RS where
 aR:List (List Int)
 cI:List (List Nat)
 pile:List Nat
def dh(s:aU)(r:RS):Nat:=r.pile.length-s.need
def sO(s:aU)(r:RS):List (List Int):=(r.pile.drop (dh s r)).map λj=>r.aR.getD j []
def rC(n:Nat)(ts:List bA)(ss:List aU)(k:Nat)(r:RS):Option RS :=
 if(ss.getD k .leaf).need<=r.pile.length then
  (qg n ts (ss.take k) (ss.getD k .leaf) (sO (ss.getD k .leaf) r)).map λb=>⟨r.aR++[b],r.cI++[r.pile.drop (dh (ss.getD k .leaf) r)],r.pile.take (dh (ss.getD k .leaf) r)++[k]⟩
 else none
def aP(n:Nat)(ts:List bA)(ss:List aU):Nat->RS×Bool
 |0=>(⟨[],[],[]⟩,true)
 |k+1=>if(aP n ts ss k).2=true then
   match rC n ts ss k (aP n ts ss k).1 with
   |some r=>(r,true)
   |none=>((aP n ts ss k).1,false)
  else((aP n ts ss k).1,false)
def cF(n:Nat)(ts:List bA)(ss:List aU):RS:=(aP n ts ss ss.length).1
theorem J4{n:Nat}{ts:List bA}{ss:List aU}{k:Nat}(h:(aP n ts ss k).2=false):∀m,k<=m->aP n ts ss m=((aP n ts ss k).1,false)
 |0,hm=>by
  grind
 |m+1,hm=>by
  by_cases c:k=m+1
  ·grind
  ·have ih:=J4 h m (by omega)
   show(if(aP n ts ss m).2=true then _ else _)=_
   rw[ih]
   rfl
structure a0T(i:Nat)(r:RS):Prop where
 tl:r.aR.length=i
 fl:r.cI.length=i
 pl:r.pile.length<=i
 lt:∀j∈r.pile,j<i
 sm:∀b∈r.aR,Small b/\b.length<=1000
 ff:∀f∈r.cI,f.length<=2
def ZF{n:Nat}{ts:List bA}{done:List aU}{s:aU}{used:List (List Int)}{b:List Int}(cU:n<=10)(sm:∀b∈used,Small b/\b.length<=1000)(h:qg n ts done s used=some b):Small b/\b.length<=1000:=by
 have g:∀k,Small (used.getD k [])/\(used.getD k []).length<=1000:=λk=>by
  by_cases c:k<used.length
  ·grind
  ·rw[gB,List.getElem?_eq_none (by omega)];exact⟨λx hx=>absurd hx d7,by decide⟩
 unfold qg at h;cases s with
 |leaf =>
  have:b=[]:=(gh h).symm;subst this;exact⟨λx hx=>absurd hx d7,by decide⟩
 |inn v =>
  dsimp only at h;split at h
  ·rw[<-gh h];refine⟨λx hx=>?_,?_⟩
   ·obtain⟨h1,h2,_⟩:=zc.mp hx;exact⟨h1,h2⟩
   ·unfold dJ Mq;grind
  ·cases h
 |tie x y =>
  grind
 |out v =>
  dsimp only at h;split at h
  ·rw[<-gh h];exact⟨λx hx=>(g 0).1 x (iH.mp hx).1,cW (zT _ _) (g 0).2⟩
  ·cases h
 |join =>
  grind
theorem jR{n:Nat}{ts:List bA}{ss:List aU}(cU:n<=10):∀{i:Nat},(aP n ts ss i).2=true->a0T i (aP n ts ss i).1
 |0,_=>⟨Z,Z,aO _,λj h=>absurd h d7,λb h=>absurd h d7,λb h=>absurd h d7⟩
 |i+1,h=>by
  have e:aP n ts ss (i+1)=if(aP n ts ss i).2=true then
   (match rC n ts ss i (aP n ts ss i).1 with
   |some r=>(r,true)
   |none=>((aP n ts ss i).1,false))
  else((aP n ts ss i).1,false):=rfl
  rw[e]at h ⊢
  by_cases c:(aP n ts ss i).2=true
  ·have I:=jR cU c
   rw[aG c]at h ⊢
   cases d:rC n ts ss i (aP n ts ss i).1 with
   |none=>grind
   |some r =>
    dsimp only
    unfold rC at d
    split at d
    ·obtain⟨b,hb,er⟩:=kI.mp d
     rw[<-er]
     have sb:=ZF cU (λx hx=>by
      obtain⟨j,hj,e⟩:=gn.mp hx
      have jl:=I.lt j (xr hj)
      rw[<-e,gB,bV (by rw[I.tl];exact jl)]
      exact I.sm _ (qy _)) hb
     refine⟨?_,?_,?_,λj hj=>?_,λx hx=>?_,λf hf=>?_⟩
     ·show(_++[b]).length=_
      rw[bW,I.tl];rfl
     ·show(_++[_]).length=_
      rw[bW,I.fl];rfl
     ·show(_++[i]).length<=_
      rw[bW,dZ]
      have:=I.pl
      show min _ _+1<=_
      omega
     ·rcases b7.mp hj with hj|hj
      ·have:=I.lt j (m9 hj)
       omega
      grind
     ·rcases b7.mp hx with hx|hx
      ·exact I.sm x hx
      grind
     ·rcases b7.mp hf with hf|hf
      ·exact I.ff f hf
      ·rw[bw.mp hf,kW]
       unfold dh
       have:(ss.getD i .leaf).need<=2:=by cases ss.getD i .leaf<;>simp[aU.need]
       omega
    ·cases d
  grind
def Ĺ{n:Nat}{ts:List bA}{ss:List aU}{r:RS}(c:(aP n ts ss i).2=true)(d:rC n ts ss i (aP n ts ss i).1=some r):aP n ts ss (i+1)=(r,true):=by
 show(if(aP n ts ss i).2=true then _ else _)=_;grind
def a0U{n:Nat}{ts:List bA}{ss:List aU}(il:i<ss.length)(c:(aP n ts ss i).2=true)(d:rC n ts ss i (aP n ts ss i).1=none):cF n ts ss=(aP n ts ss i).1:=by
 have e:aP n ts ss (i+1)=((aP n ts ss i).1,false):=by
  show(if(aP n ts ss i).2=true then _ else _)=_;grind
 unfold cF;rw[J4 (k:=i+1) (by rw[e]) ss.length il,e]
abbrev uF(l:List Nat):List V:=l.map λ(x:Nat)=>V.int (x:Int)
theorem J5:∀{m:Nat}{l:List Nat},l.Nodup->(∀x∈l,x<m)->l.length<=m
 |0,l,_,lt=>by
  cases l with
  |nil=>grind
  |cons x r=>exact absurd (lt x aW) (Ag _)
 |m+1,l,nd,lt=>by
  have ih:=J5 (m:=m) (nd.erase m) λx hx=>by
   grind
  grind
def wW(ex:List Addr)(K:aK)(H:Hp)(v:V)(b:List Int):Prop:=∃p,v=.ref p/\bG K H p (b.map V.int)/\p∉ex
def wW.same{K:aK}{H H':Hp}{v:V}{b:List Int}(s:aH H H')(h:wW ex K H v b):wW ex K H' v b:=by
 obtain⟨p,e,q,n⟩:=h;exact⟨p,e,s.seq q,n⟩
def wW.l{K:aK}{H:Hp}{v:V}{b:List Int}(h:wW ex K H v b):VG K H v b:=by
 obtain⟨p,e,q,n⟩:=h;exact⟨p,e,q⟩
def a0V{K:aK}{H H':Hp}{p:Addr}{o:HO}{xs:List V}(c:wF H a o H')(n:p≠a)(h:bG K H p xs):bG K H' p xs:=by
 rcases h with h|h
 ·refine .inl ?_;rcases h with h|⟨u,h⟩
  ·exact .inl ((c.rest p n).trans h)
  ·exact .inr ⟨u,(c.rest p n).trans h⟩
 ·exact .inr h
def wW.chg{K:aK}{H H':Hp}{o:HO}{v:V}{b:List Int}(c:wF H a o H')(ha:a∈ex)(h:wW ex K H v b):wW ex K H' v b:=by
 obtain⟨p,e,q,n⟩:=h;exact⟨p,e,a0V c (λz=>n (z▸ha)) q,n⟩
def Az(ex:List Addr)(H:Hp)(q:Addr)(f:List Nat):Prop:=H q=some (.lst (uF f))/\q∉ex
def Az.same{H H':Hp}{q:Addr}{f:List Nat}(s:aH H H')(h:Az ex H q f):Az ex H' q f:=⟨s _ _ h.1,h.2⟩
def Az.chg{H H':Hp}{o:HO}{q:Addr}{f:List Nat}(c:wF H a o H')(ha:a∈ex)(h:Az ex H q f):Az ex H' q f:=⟨(c.rest q λz=>h.2 (z▸ha)).trans h.1,h.2⟩
def RT(xs:List V)(k:Nat)(h:k<=xs.length):uV xs none (some (k:Int))=xs.take k:=by
 unfold uV;have e1:HT.kZ xs.length xs.length (some (k:Int))=k:=by
  show min _ _=k;simp;omega
 have e2:HT.kZ xs.length 0 none=0:=rfl;rw[e1,e2,List.drop_zero,Ak]
def RV(xs:List V)(k:Nat)(h:k<=xs.length):uV xs (some (k:Int)) none=xs.drop k:=by
 unfold uV;have e1:HT.kZ xs.length 0 (some (k:Int))=k:=by
  show min _ _=k;grind
 have e2:HT.kZ xs.length xs.length none=xs.length:=rfl;rw[e1,e2,N7 (by rw[kW];omega)]
theorem J6{α β:Type}{R:α->β->Prop}:∀{xs:List α}{ys:List β} (i:Nat),Paired R xs ys->Paired R (xs.take i) (ys.take i)
 |_,_,0,_=>.nil
 |_,_,_+1,.nil=>.nil
 |_,_,i+1,.cons q r=>.cons q (J6 i r)
def a6r(ex:List Addr)(K:aK)(H:Hp)(v:V):Option (List Int)->Prop
 |none=>v=.non
 |some b=>wW ex K H v b
theorem M5{ex:List Addr}{K:aK}{H:Hp}{vt:List V}{aR:List (List Int)}(p:Paired (wW ex K H) vt aR):∀l:List Nat,(∀j∈l,j<aR.length)->Paired (VG K H) (l.map λj=>vt.getD j .non) (l.map λj=>aR.getD j [])
 | [],_=>.nil
 |j::r,h=>by
  have jl:=h j aW
  obtain⟨x,hx,hb⟩:=fu p (bV jl)
  refine .cons ?_ (M5 p r λi hi=>h i (bM _ hi))
  dsimp only
  rw[gB,hx,gB,bV jl]
  exact hb.l
inductive a4Z(K:aK)(vs:List V)(H:Hp)(Q:VK)(u_3:XK):Prop
 |mk (g:V) (n:Nat) (ts:List bA) (a:Addr) (xs:List V) (ss:List aU) (_:vs=[g,.ref a]) (_:uY K H g n ts) (_:n<=10) (_:bG K H a xs) (_:Paired (vG K H) xs ss) (_:ss.length<=900) (_:∀r pt pf pp vt fs H',aH H H'->H' r=some (.tup [.ref pt,.ref pf,.ref pp])->H pt=none->H pf=none->H pp=none->H' pt=some (.lst vt)->H' pf=some (.lst (fs.map V.ref))->Az [pt,pf] H' pp (cF n ts ss).pile->Paired (wW [pt,pf] K H') vt (cF n ts ss).aR->Paired (Az [pt,pf] H') fs (cF n ts ss).cI->Q (.ref r) H')
section
variable{K:aK}
def a3o(B:Bl mg)(U:Used w K mg)(kE:GK K mg)(jL:Dn K mg "is_below" gA uJ)(qe:Dn K mg "joint" qO lE)(nJ:Dn K mg "less" um lE)(K5:Dn K mg "bag_behind" gC Gn)(wX:Dn K mg "run" J3 qj):bh P w K mg base gj 4 wX.f wX.fd qj (a4Z K):=by
 have gZ9:bh P w K mg base gj 3 _ _ _ _:=Lf B kE jL qe nJ K5;refine wX.F.ok u5 λcZ A outer s H vs Q E hr h=>?_;obtain⟨g,n,ts,a,xs,ss,rfl,hG,cU,hA,pA,a5a,q⟩:=h;have lx:=aY pA;refine⟨_,(aA (bF 2 u5.nd (cJ aj))
   (aA (bF 3 u5.nd (cJ aj))
   (aA (bF 4 u5.nd (cJ aj))
   (aA (kY jV Z (ς (K:=K) Z Z B.enumerate (J (pv 1) aj)) (jy (K:=K) (n:=2) Z Z (bY (aL 5 u5.nd) (bY (aL 6 u5.nd) jx)))
   (aA (bF 7 u5.nd (bC Jl (bK (cQ (K:=K) Z) Z B.len (by decide) (J (pv 4) aj)) (a0t U Z (aQ (aM (K:=K) Z) (pv 6) aq) λ_ _=>rfl)))
   (aA (bF 8 u5.nd oK)
   (j4 (dN (aJ a4b (pv 7) aq)
   (aD (bF 8 u5.nd (bf gZ9 hr Z K5.m K5.F.kp K5.b .nil b8 (J (pv 0) (J (jG (xX (K:=K) Z) (pv 1) lQ (lR (pv 5))) (J (pv 6) (J (jH ["j","tops"] [none,some 2]  (by kernel_rfl) Z (cX (K:=K) Z (jG (xX (K:=K) Z) (pv 4) (lR (pv 7)) lQ)) (λ_ _ _ _ _=>(aL 0 (show(["j","tops"]:List Str).Nodup by decide))) (λ_ _ _ _ _=>gk) λ_ _ _ _ _=>(aQ (bQ (K:=K) Z) (pv 1) (pv 0))) aj)))))))
   bR)
   (aA (dN (aJ UW (pv 8) oK)
   (aD Ü)
   bR)
   (aA (jw (uX (K:=K) Z qw PySem.F.slot_list_append PySem.F.type_list_append lD (pv 2) (J (pv 8) aj)))
   (aA (jw (uX (K:=K) Z qw PySem.F.slot_list_append PySem.F.type_list_append lD (pv 3) (J (jG (xX (K:=K) Z) (pv 4) (lR (pv 7)) lQ) aj)))
   (aD (bF 4 u5.nd (bC lU (jG (xX (K:=K) Z) (pv 4) lQ (lR (pv 7))) (cJ (J (pv 5) aj))))))))))))
   (aD (bI (bx (J (pv 2) (J (pv 3) (J (pv 4) aj)))))))))),?_⟩
 refine⟨(by show 0<=1000;decide),λp1 H1 n1=>⟨(by show 0<=1000;decide),λp2 H2 n2=>⟨(by show 0<=1000;decide),λp3 H3 n3=>?_⟩⟩⟩;have s3:=n1.same.trans (n2.same.trans n3.same);have f1:H p1=none:=n1.fresh;have f2:H p2=none:=n1.same.free n2.fresh;have f3:H p3=none:=n1.same.free (n2.same.free n3.fresh);have n12:p1≠p2:=n2.ne n1.here;have n13:p3≠p1:=(n3.ne (n2.same _ _ n1.here)).symm;have n23:p3≠p2:=(n3.ne n2.here).symm;have ret:∀{H':Hp}{pp:Addr}{vt:List V}{fs:List Addr}{a5 a6 a7 a8:Option V},aH H H'->H pp=none->H' p1=some (.lst vt)->H' p2=some (.lst (fs.map V.ref))->Az [p1,p2] H' pp (cF n ts ss).pile->Paired (wW [p1,p2] K H') vt (cF n ts ss).aR->Paired (Az [p1,p2] H') fs (cF n ts ss).cI->ž (ý (uH (tX 2) (uH (tX 3) (uH (tX 4) YC)))) { nx:=λx H'=>Q V.non H',rt:=Q} [some g,some (.ref a),some (.ref p1),some (.ref p2),some (.ref pp),a5,a6,a7,a8] H':=λ{H' pp vt fs a5 a6 a7 a8} s fp h1 h2 h3 h4 h5=>by
  refine⟨_,Z,_,Z,_,Z,(by show 3<=1000;decide),λpr Hr nr=>?_⟩;exact q pr p1 p2 pp vt fs Hr (s.trans nr.same) nr.here f1 f2 fp (nr.same _ _ h1) (nr.same _ _ h2) (h3.same nr.same) (Paired.bU h4 λ_ _ h=>h.same nr.same) (Paired.bU h5 λ_ _ h=>h.same nr.same)
 refine⟨_,Z,a,Z,⟨_,s3.seq hA⟩,opq (P:=λi σ H'=>∃(vt:List V) (fs:List Addr) (pp:Addr) (a5 a6 a7 a8:Option V),σ=[some g,some (.ref a),some (.ref p1),some (.ref p2),some (.ref pp),a5,a6,a7,a8]/\aH H H'/\H' p1=some (.lst vt)/\H' p2=some (.lst (fs.map V.ref))/\(aP n ts ss i).2=true/\H pp=none/\Az [p1,p2] H' pp (aP n ts ss i).1.pile/\Paired (wW [p1,p2] K H') vt (aP n ts ss i).1.aR/\Paired (Az [p1,p2] H') fs (aP n ts ss i).1.cI) λZ97 ji ij=>?_⟩;refine þ (xs:=xs) Z97 (ji _ _ _ ⟨[],[],p3,none,none,none,none,Z,s3,n3.same _ _ (n2.same _ _ n1.here),n3.same _ _ n2.here,Z,f3,⟨n3.here,by simp[n13,n23]⟩,.nil,.nil⟩) (λi σ H' _ h=>by
  obtain⟨_,_,_,_,_,_,_,_,s,_⟩:=ij _ _ _ h;exact s.seq hA) ?_ ?_
 ·intro i x σ H4 pz H5 hi hJ nz;obtain⟨vt,fs,pp,a5,a6,a7,a8,rfl,s4,h1,h2,go,fp,mR,pv,pf⟩:=ij _ _ _ hJ;obtain⟨sp,hsp,⟨ps,rfl,hps⟩⟩:=bT pA hi;have il:i<ss.length:=(fG.mp hsp).1;have esp:ss.getD i .leaf=sp:=by rw[gB,hsp];rfl
  have I:=jR (n:=n) (ts:=ts) (ss:=ss) cU go;obtain⟨R,eR⟩:∃R,R=(aP n ts ss i).1:=⟨_,Z⟩;rw[<-eR]at I mR pv pf;have s5:=s4.trans nz.same;refine⟨pz,_,Z,cG.of nz.here,Z,_,_,Z,_,_,Z,Z,?_⟩;have ĺ:=(mR.same nz.same).1;refine⟨_,Z,pp,_,Z,.inl (bG.of ĺ),_,Z,ps,_,((0:Nat):Int),_,Z,Z,s5.wC hps,a0G sp,.inr sp.word,_,Z,a0F sp,_,_,Z,Z,?_⟩;dsimp only;rw[aN];obtain⟨lf,elf⟩:∃lf:Int,((R.pile.length:Nat):Int)-((sp.need:Nat):Int)=lf:=⟨_,Z⟩;rw[elf];refine⟨λσ' H'=>∃bv:V,σ'=[some g,some (.ref a),some (.ref p1),some (.ref p2),some (.ref pp),some (.int (i:Int)),some (.ref ps),some (.int lf),some bv]/\aH H5 H'/\((sp.need<=R.pile.length/\a6r [p1,p2] K H' bv (qg n ts (ss.take i) sp (sO sp R)))\/(¬sp.need<=R.pile.length/\bv=.non)),?_,?_⟩
  ·refine⟨_,Z,_,_,Z,Z,_,Z,tZ (λc=>?_) λc=>⟨.non,Z,aH.refl _,.inr ⟨?_,Z⟩⟩⟩
   ·have c':(0:Int)<=lf:=eZ c;have nl:sp.need<=R.pile.length:=by omega
    have el:lf=((dh sp R:Nat):Int):=by unfold dh;omega
    have ll:dh sp R<=R.pile.length:=by unfold dh;omega
    rw[el];refine⟨_,Z,_,Z,_,Z,_,Z,a,_,Z,s5.seq hA,λp6 H6 n6=>?_⟩;rw[RT _ _ (by omega)]at n6;refine⟨_,Z,_,Z,_,Z,_,Z,pp,_,Z,bG.of (n6.same _ _ ĺ),λp7 H7 n7=>?_⟩;rw[RV _ _ (by rw[aN];exact ll)]at n7;have s57:=n6.same.trans n7.same;have ed:(uF R.pile).drop (dh sp R)=uF (R.pile.drop (dh sp R)):=by unfold uF;rw[Oz]
    rw[ed]at n7;have h17:=s57 _ _ (nz.same _ _ h1);have lv:=aY pv;have jt:∀j∈R.pile.drop (dh sp R),j<R.aR.length:=λj hj=>by rw[I.tl];exact I.lt j (xr hj)
    refine⟨p7,Z,⟨_,bG.of n7.here⟩,?_⟩;refine Pr (λv=>match v with |.int z=>some (vt.getD z.toNat .non)|_=>none) (bG.of n7.here) (by rw[aN,kW];have:=I.pl;omega) (λv H8 N hv8 s8 hN=>?_) (λH8 p9 H9 s8 n9=>?_)
    ·obtain⟨j,hj,rfl⟩:=gn.mp hv8;have jl:j<vt.length:=by rw[lv];exact jt j hj
     have hN':=hN H8 s8;dsimp only at hN';rw[jO]at hN';refine⟨_,Z,_,Z,p1,_,_,_,Z,Z,bG.of (s8 _ _ h17),eV (bV jl),?_⟩;rw[gB,bV jl]at hN';exact hN'
    have e9:(uF (R.pile.drop (dh sp R))).filterMap (λv=>match v with |.int z=>some (vt.getD z.toNat .non)|_=>none)=(R.pile.drop (dh sp R)).map λj=>vt.getD j .non:=by
     unfold uF;rw[T9];refine(Cr λj _=>?_);show some (vt.getD ((j:Int)).toNat V.non)=_;rw[jO]
    rw[e9]at n9;have s59:=s57.trans (s8.trans n9.same);have s69:=n7.same.trans (s8.trans n9.same);have pv9:=Paired.bU pv λ_ _ h=>h.same (nz.same.trans s59);refine⟨g,n,ts,p6,ps,p9,xs.take i,_,ss.take i,sp,sO sp R,Z,(hG.same s5).same s59,cU,bG.of (s69 _ _ n6.here),J6 i (Paired.bU pA λ_ _ h=>(h.same s5).same s59),(s5.trans s59).wC hps,bG.of n9.here,M5 pv9 _ jt,?_,λb hb=>?_,λr ZG s10 bn=>?_⟩
    ·unfold sO;rw[aN,kW];unfold dh;omega
    ·obtain⟨j,hj,rfl⟩:=gn.mp hb;rw[gB,bV (jt j hj)];exact I.sm _ (qy _)
    refine⟨r,Z,s59.trans s10,.inl ⟨nl,?_⟩⟩;cases eb:qg n ts (ss.take i) sp (sO sp R)with
    |none=>rw[eb]at bn;exact bn
    |some b =>
     rw[eb]at bn;obtain⟨p,e,hp,h⟩:=bn;refine⟨p,e,hp,?_⟩;rcases h with h|h
     ·have k1:H9 p1=some (.lst vt):=s59 _ _ (nz.same _ _ h1);have k2:H9 p2=some (.lst (fs.map V.ref)):=s59 _ _ (nz.same _ _ h2);intro hm;rcases cH.mp hm with hm|hm
      ·rw[hm,k1]at h;cases h
      ·rw[bw.mp hm,k2]at h;cases h
     ·obtain⟨j,hj,ej⟩:=gn.mp h;have jl:j<vt.length:=by rw[lv];exact jt j hj
      obtain⟨b',_,⟨p',e',_,np⟩⟩:=bT pv (bV jl);rw[gB,bV jl,Option.getD_some,e']at ej;injection ej with ej
      rw[<-ej];exact np
   ·have c':¬(0:Int)<=lf:=Ed (tO.mpr c);omega
  rintro σ' H6 ⟨bv,rfl,s6,wb⟩;have s46:=nz.same.trans s6;have h16:=s46 _ _ h1;have h26:=s46 _ _ h2;have a0W:=mR.same s46;have pv6:=Paired.bU pv λ_ _ h=>h.same s46;have pf6:=Paired.bU pf λ_ _ h=>h.same s46;have sH6:=s4.trans s46;have stop:bv=.non->rC n ts ss i R=none:=λe=>by
   unfold rC;rw[esp];rcases wb with⟨nl,w⟩|⟨nl,_⟩
   ·rw[aG nl];cases eb:qg n ts (ss.take i) sp (sO sp R)with
    |none=>rfl
    |some b =>
     rw[eb]at w;obtain⟨p,e',_⟩:=w;rw[e]at e';cases e'
   ·rw[aB nl]
  refine⟨_,Z,Z,_,Z,?_⟩;by_cases cn:bv=.non
  ·rw[bO cn];refine gQ ?_;have ee:=a0U il go (by rw[<-eR];exact stop cn);rw[<-eR]at ee;refine ret sH6 fp h16 h26 ?_ ?_ ?_
   ·rw[ee];exact a0W
   ·rw[ee];exact pv6
   ·rw[ee];exact pf6
  ·rw[bJ cn];refine cN ?_;obtain⟨nl,b,eb,p,rfl,hp,np⟩:sp.need<=R.pile.length/\∃b,qg n ts (ss.take i) sp (sO sp R)=some b/\wW [p1,p2] K H6 bv b:=by
    rcases wb with⟨nl,w⟩|⟨_,e⟩
    ·refine⟨nl,?_⟩;cases eb:qg n ts (ss.take i) sp (sO sp R)with
     |none=>rw[eb]at w;exact absurd w cn
     |some b=>rw[eb]at w;exact⟨b,Z,w⟩
    ·exact absurd e cn
   have el:lf=((dh sp R:Nat):Int):=by unfold dh;omega
   have ll:dh sp R<=R.pile.length:=by unfold dh;omega
   rw[el];have lv:=aY pv;have lff:=aY pf;have tl:=I.tl;have fl:=I.fl;have pl:=I.pl;have es:rC n ts ss i R=some ⟨R.aR++[b],R.cI++[R.pile.drop (dh sp R)],R.pile.take (dh sp R)++[i]⟩:=by
    unfold rC;rw[esp,aG nl,eb];rfl
   have er:=Ĺ go (by rw[<-eR];exact es);have m1:p1∈[p1,p2]:=aW;have m2:p2∈[p1,p2]:=bM _ (bw.mpr Z);refine⟨_,Z,.inl ⟨Z,_,bG.of h16⟩,_,Z,p1,vt,_,Z,Z,h16,by omega,λH7 c7=>?_⟩;have h27:H7 p2=some (.lst (fs.map V.ref)):=(c7.rest p2 (Ne.symm n12)).trans h26;have a5b:=a0W.chg c7 m1;refine⟨_,Z,.inl ⟨Z,_,bG.of h27⟩,_,Z,_,Z,_,Z,pp,_,Z,bG.of a5b.1,λp8 H8 n8=>?_⟩;rw[RV _ _ (by rw[aN];exact ll),show(uF R.pile).drop (dh sp R)=uF (R.pile.drop (dh sp R)) by unfold uF;rw[Oz]]at n8;have h28:=n8.same _ _ h27;refine⟨p2,_,_,Z,Z,h28,by rw[aN];omega,λH9 c9=>?_⟩;have n81:p8∉[p1,p2]:=λhm=>by
    have f8:=n8.fresh;rcases cH.mp hm with hm|hm
    ·rw[hm,c7.here]at f8;cases f8
    ·rw[bw.mp hm,h27]at f8;cases f8
   have h19:H9 p1=some (.lst (vt++[.ref p])):=(c9.rest p1 n12).trans (n8.same _ _ c7.here);have a6s:=(a5b.same n8.same).chg c9 m2;refine⟨_,Z,_,Z,_,Z,pp,_,Z,bG.of a6s.1,λŰ ZG uG=>?_⟩;rw[RT _ _ (by rw[aN];exact ll),show(uF R.pile).take (dh sp R)=uF (R.pile.take (dh sp R)) by unfold uF;rw[OD]]at uG;refine⟨_,Z,(by show 1<=1000;decide),λp11 Ļ BV=>?_⟩;refine⟨Ű,p11,_,_,Z,Z,BV.same _ _ uG.here,BV.here,by rw[aN,dZ];show min _ _+1<=1000;omega,λp12 V9 a0X=>?_⟩;have J7:=uG.same.trans (BV.same.trans a0X.same);have sH9:aH H H9:=((sH6.chg f1 c7).trans n8.same).chg f2 c9;have f12:H p12=none:=sH9.free (uG.same.free (BV.same.free a0X.fresh));refine ji _ _ _ ⟨vt++[.ref p],fs++[p8],p12,_,_,_,_,Z,sH9.trans J7,J7 _ _ h19,?_,by rw[er],f12,?_,?_,?_⟩
   ·have:=J7 _ _ c9.here;rw[this,dF];rfl
   ·rw[er];refine⟨?_,λhm=>?_⟩
    ·rw[a0X.here];unfold uF;rw[dF];rfl
    ·have g:=a0X.fresh;rcases cH.mp hm with hm|hm
     ·rw[hm,BV.same _ _ (uG.same _ _ h19)]at g;cases g
     ·rw[bw.mp hm,BV.same _ _ (uG.same _ _ c9.here)]at g;cases g
   ·rw[er];exact cV (Paired.bU pv6 λ_ _ h=>(((h.chg c7 m1).same n8.same).chg c9 m2).same J7) ((((wW.chg c7 m1 ⟨p,Z,hp,np⟩).same n8.same).chg c9 m2).same J7)
   ·rw[er];exact cV (Paired.bU pf6 λ_ _ h=>(((h.chg c7 m1).same n8.same).chg c9 m2).same J7) ((Az.chg c9 m2 ⟨n8.here,n81⟩).same J7)
 ·intro σ H4 hJ;obtain⟨vt,fs,pp,a5,a6,a7,a8,rfl,s4,h1,h2,go,fp,mR,pv,pf⟩:=ij _ _ _ hJ;rw[lx]at mR pv pf;exact ret s4 fp h1 h2 mR pv pf
end
abbrev fX:Stmt:=top 16
def mX:bD ["graph","steps","tops","pile","v","a","b"] JK (aF fX):={}
inductive a5c where
 |ok
 |step (k:Nat)
 |pile
 |place (v:Nat)
 |tie (a b:Int)
def M6(R:RS):List (List Int):=R.pile.map λj=>R.aR.getD j []
def DP(n:Nat)(ts:List bA)(ss:List aU)(R:RS):a5c :=
 if R.aR.length<ss.length then .step R.aR.length
 else if M6 R=[[]]then
  match(List.range n).find? λ(v:Nat)=>!decide (aU.inn (v:Int)∈ss)with
  |some v=>.place v
  |none=>match ts.find? λt=>!decide (aU.tie t.1 t.2∈ss)with
   |some t=>.tie t.1 t.2
   |none=>.ok
 else .pile
def a5d(H:Hp)(v:V):a5c->Prop
 |.ok=>v=.non
 |.step k=>∃p,v=.ref p/\H p=some (.tup [.str "step",.int (k:Int)])
 |.pile=>∃p,v=.ref p/\H p=some (.tup [.str "pile"])
 |.place v'=>∃p,v=.ref p/\H p=some (.tup [.str "place",.int (v':Int)])
 |.tie a b=>∃p,v=.ref p/\H p=some (.tup [.str "tie",.int a,.int b])
def J8(b:List Int):PyData:=.list (b.map PyData.int)
def a0Y(b:List Int):(J8 b).canLay0=true:=by
 have h:=shaped_ints b;unfold SeqAt.shaped at h;rw[oH]at h;exact h.1
def ZJ(b:List Int):(J8 b).depth<=1:=by
 unfold J8;rw[PyData.depth];have:=vA (k:=0) (f:=PyData.int) (λb=>by simp[PyData.depth]) b;omega
def Gu(bs:List (List Int)):SeqAt.shaped (.list (bs.map J8))=true:=by
 unfold SeqAt.shaped;rw[PyData.canLay0,HD a0Y,PyData.depth,Je];exact bO (by have:=vA ZJ bs;omega)
theorem RW:∀xs ys:List (List Int),PyData.eqvAll (xs.map J8) (ys.map J8)=decide (xs=ys)
 | [],[]=>by simp[PyData.eqvAll]
 | [],_::_=>by simp[PyData.eqvAll]
 |_::_,[]=>by simp[PyData.eqvAll]
 |x::xs,y::ys=>by
  rw[cL,cL,PyData.eqvAll,RW xs ys,show PyData.eqv (J8 x) (J8 y)=decide (x=y)from Jt x y,rU]
  simp
def ļ{K:aK}{H:Hp}{v:V}{s:List Int}(h:VG K H v s):Pn K H v (J8 s):=by
 obtain⟨p,rfl,h⟩:=h;exact .lst h (uW.ints _)
inductive Ľ(K:aK)(vs:List V)(H:Hp)(Q:VK)(u_3:XK):Prop
 |mk (g:V) (n:Nat) (ts:List bA) (a pt pp:Addr) (xs vt:List V) (ss:List aU) (R:RS) (_:vs=[g,.ref a,.ref pt,.ref pp]) (_:uY K H g n ts) (_:n<=10) (_:bG K H a xs) (_:Paired (vG K H) xs ss) (_:bG K H pt vt) (_:Paired (VG K H) vt R.aR) (_:bG K H pp (uF R.pile)) (_:(∀j∈R.pile,j<R.aR.length)) (_:R.pile.length<=1000) (_:∀r H',aH H H'->a5d H' r (DP n ts ss R)->Q r H')
section
variable{K:aK}
def GP(B:Bl mg)(vK:Dn K mg "fault_behind" fX JK):bh P w K mg base gj 1 vK.f vK.fd JK (Ľ K):=by
 refine vK.F.ok mX λcZ A outer s H vs Q E hr h=>?_;obtain⟨g,n,ts,a,pt,pp,xs,vt,ss,R,rfl,hG,cU,hA,pA,hV,pV,hPp,jl,a5e,q⟩:=h;have hu:(A.deeper (PyProof.Rows.envOfC "fault_behind" (aF fX) s.heap.objs.size vK.f cZ)).units+64<cLine:=by have:=hr.un;omega
 have hv:(A.deeper (PyProof.Rows.envOfC "fault_behind" (aF fX) s.heap.objs.size vK.f cZ)).units+65<cLine:=by have:=hr.un;omega
 obtain⟨pg,ta,rfl,hP,hT⟩:=id hG;have lx:=aY pA;have lv:=aY pV;refine⟨_,(aA (dN (aJ xV (bK (cQ (K:=K) Z) Z B.len (by decide) (J (pv 2) aj)) (bK (cQ (K:=K) Z) Z B.len (by decide) (J (pv 1) aj)))
   (aD (bI (bx (J gJ (J (bK (cQ (K:=K) Z) Z B.len (by decide) (J (pv 2) aj)) aj)))))
   bR)
   (aA (dN (aJ (W5 (K:=K) Z hu) (jH ["k","tops"] [none,some 2]  (by kernel_rfl) Z (cX (K:=K) Z (pv 3)) (λ_ _ _ _ _=>(aL 0 (show(["k","tops"]:List Str).Nodup by decide))) (λ_ _ _ _ _=>gk) λ_ _ _ _ _=>(aQ (bQ (K:=K) Z) (pv 1) (pv 0))) (cJ (J (cJ aj) aj)))
   (aD (bI (bx (J gJ aj))))
   bR)
   (aA (kY jV Z (jE Z B.range (J (aQ (aM (K:=K) Z) (pv 0) aq) aj)) (aL 4 mX.nd)
   (aD (dN (aJ (jP (K:=K) Z hv) (bx (J gJ (J (pv 4) aj))) (pv 1) (by with_unfolding_all rfl))
   (aD (bI (bx (J gJ (J (pv 4) aj)))))
   bR)))
   (aA (kY jV Z (cX (K:=K) Z (aQ (aM (K:=K) Z) (pv 0) aq)) (jy (K:=K) (n:=2) Z Z (bY (aL 5 mX.nd) (bY (aL 6 mX.nd) jx)))
   (aD (dN (aJ (jP (K:=K) Z hv) (bx (J gJ (J (pv 5) (J (pv 6) aj)))) (pv 1) (by with_unfolding_all rfl))
   (aD (bI (bx (J gJ (J (pv 5) (J (pv 6) aj))))))
   bR)))
   (aD (bI oK)))))),?_⟩
 refine⟨_,Z,pt,_,Z,.inl hV,_,Z,a,_,Z,.inl hA,_,_,Z,Z,_,Z,?_⟩;rw[lv,lx];by_cases c1:R.aR.length<ss.length
 ·rw[bO (show((R.aR.length:Nat):Int)<((ss.length:Nat):Int) by omega)];refine gQ ⟨_,Z,pt,_,Z,.inl hV,(by show 2<=1000;decide),λp1 H1 n1=>q _ H1 n1.same ?_⟩;unfold DP;rw[aG c1];rw[lv]at n1;exact⟨p1,Z,n1.here⟩
 ·rw[bJ (show ¬((R.aR.length:Nat):Int)<((ss.length:Nat):Int) by omega)];refine cN ⟨_,Z,pp,Z,⟨_,hPp⟩,?_⟩;refine Pr (λv=>match v with |.int z=>some (vt.getD z.toNat .non)|_=>none) hPp (by rw[aN];exact a5e) (λv H8 N hv8 s8 hN=>?_) (λH8 p9 H9 s8 n9=>?_)
  ·obtain⟨j,hj,rfl⟩:=gn.mp hv8;have jv:j<vt.length:=by rw[lv];exact jl j hj
   have hN':=hN H8 s8;dsimp only at hN';rw[jO]at hN';refine⟨_,Z,_,Z,pt,_,_,_,Z,Z,s8.seq hV,eV (bV jv),?_⟩;rw[gB,bV jv]at hN';exact hN'
  have e9:(uF R.pile).filterMap (λv=>match v with |.int z=>some (vt.getD z.toNat .non)|_=>none)=R.pile.map λj=>vt.getD j .non:=by
   unfold uF;rw[T9];refine(Cr λj _=>?_);show some (vt.getD ((j:Int)).toNat V.non)=_;rw[jO]
  rw[e9]at n9;have s09:=s8.trans n9.same;have laid:∀l:List Nat,(∀j∈l,j<R.aR.length)->Paired (VG K H9) (l.map λj=>vt.getD j .non) (l.map λj=>R.aR.getD j []):=λl=>by
   induction l with
   |nil=>exact λ_=>.nil
   |cons j r ih =>
    intro h;have jl:=h j aW;obtain⟨x,hx,p,e,hb⟩:=fu pV (bV jl);refine .cons ?_ (ih λi hi=>h i (bM _ hi));dsimp only;rw[gB,hx,gB,bV jl];exact⟨p,e,s09.seq hb⟩
  refine⟨(by show 0<=1000;decide),λŰ ZG uG=>⟨(by show 1<=1000;decide),λp11 Ļ BV=>?_⟩⟩;have ľ:=uG.same.trans BV.same;refine⟨.list ((M6 R).map J8),.list ([[]].map J8),.lst (bG.of (ľ _ _ n9.here)) (Pu (λ_ _ h=>ļ h) (Paired.bU (laid R.pile jl) λ_ _ ⟨p,e,hb⟩=>⟨p,e,ľ.seq hb⟩)),.lst (bG.of BV.here) (.cons (.lst (bG.of (BV.same _ _ uG.here)) .nil) .nil),Gu _,Gu [[]],_,Z,?_⟩;rw[aG Z,PyData.eqv,RW];have ű:=s09.trans ľ;by_cases c2:M6 R=[[]]
  ·rw[bO c2];refine cN ?_;refine⟨_,Z,pg,_,_,_,Z,Z,ű.wC hP,Z,_,Z,by omega,by omega,?_⟩;rw[jO];refine vp (n:=n) (λi σ H'=>(∃vv:Option V,σ=[some (.ref pg),some (.ref a),some (.ref pt),some (.ref pp),vv,none,none])/\aH H H'/\∀j,j<i->aU.inn (j:Int)∈ss) ⟨⟨none,Z⟩,ű,λj h=>absurd h (Ag _)⟩ ?_ ?_
   ·rintro i σ V9 hi ⟨⟨vv,rfl⟩,s12,ok⟩;have ei:(0:Int)+(i:Int)=(i:Int):=by omega
    rw[ei];refine⟨_,Z,(by show 2<=1000;decide),λp13 H13 n13=>?_⟩;have wL:=s12.trans n13.same;refine⟨_,Z,yh (s:=.inn (i:Int)) (wL.seq hA) (Paired.bU pA λ_ _ h=>vG.same wL h) (cG.of n13.here) ⟨_,Z,?_⟩⟩;by_cases c3:aU.inn (i:Int)∈ss
    ·rw[bO c3];refine cN ⟨⟨_,Z⟩,wL,λj hj=>?_⟩;by_cases e:j=i
     ·rw[e];exact c3
     ·exact ok j (by omega)
    ·rw[bJ c3];refine gQ ⟨_,Z,(by show 2<=1000;decide),λp14 H14 n14=>q _ H14 (wL.trans n14.same) ?_⟩;unfold DP;have ef:(List.range n).find? (λ(v:Nat)=>!decide (aU.inn (v:Int)∈ss))=some i:=Ù.mpr ⟨by rw[bJ c3];rfl,mF.mpr hi,λj hj=>by rw[bO (ok j hj)];rfl⟩;rw[aB c1,aG c2,ef];exact⟨p14,Z,n14.here⟩
   ·rintro σ V9 ⟨⟨vv,rfl⟩,s12,ok⟩;have ef:(List.range n).find? (λ(v:Nat)=>!decide (aU.inn (v:Int)∈ss))=none:=Iu.mpr λj hj=>by rw[bO (ok j (mF.mp hj))];simp
    obtain⟨txs,htx,ptx,ltx⟩:=id (hT.same s12);have ltl:=aY ptx;refine⟨_,Z,pg,_,_,_,Z,Z,s12.wC hP,Z,ta,Z,⟨_,htx⟩,xU (xs:=txs) (λi σ H'=>(∃va vb:Option V,σ=[some (.ref pg),some (.ref a),some (.ref pt),some (.ref pp),vv,va,vb])/\aH V9 H'/\∀t∈ts.take i,aU.tie t.1 t.2∈ss) ⟨⟨none,none,Z⟩,aH.refl _,λt h=>absurd h (by simp)⟩ (λi σ H' _ ⟨_,s,_⟩=>s.seq htx) ?_ ?_⟩
    ·rintro i x σ H13 hx ⟨⟨va,vb,rfl⟩,wL,ok2⟩;obtain⟨t,ht,⟨px,rfl,hpx⟩⟩:=bT ptx hx;obtain⟨til,tix⟩:=fG.mp ht;have et:ts.take (i+1)=ts.take i++[t]:=by rw[zO til,tix]
     refine⟨px,_,Z,wL.wC hpx,Z,_,_,Z,_,_,Z,Z,?_⟩;refine⟨_,Z,_,Z,(by show 3<=1000;decide),λp14 H14 n14=>?_⟩;have ZK:=(s12.trans wL).trans n14.same;refine⟨_,Z,yh (s:=.tie t.1 t.2) (ZK.seq hA) (Paired.bU pA λ_ _ h=>vG.same ZK h) (cG.of n14.here) ⟨_,Z,?_⟩⟩;by_cases c3:aU.tie t.1 t.2∈ss
     ·rw[bO c3];refine cN ⟨⟨_,_,Z⟩,wL.trans n14.same,λt' h'=>?_⟩;rw[et]at h';rcases b7.mp h' with h'|h'
      ·exact ok2 t' h'
      ·rw[bw.mp h'];exact c3
     ·rw[bJ c3];refine gQ ⟨_,Z,_,Z,(by show 3<=1000;decide),λp15 H15 n15=>q _ H15 (ZK.trans n15.same) ?_⟩;unfold DP;have eg:ts.find? (λt=>!decide (aU.tie t.1 t.2∈ss))=some t:=by
       rw[<-rR (i+1) ts,et,Aa,List.find?_append,Iu.mpr (λt' h'=>by rw[bO (ok2 t' h')];simp)];rw[Option.none_or];show List.find? _ (t::_)=_;rw[List.find?_cons,bJ c3];rfl
      rw[aB c1,aG c2,ef,eg];exact⟨p15,Z,n15.here⟩
    ·rintro σ H13 ⟨⟨va,vb,rfl⟩,wL,ok2⟩;rw[ltl,gZ]at ok2;refine q _ H13 (s12.trans wL) ?_;unfold DP;have eg:ts.find? (λt=>!decide (aU.tie t.1 t.2∈ss))=none:=Iu.mpr λt h=>by rw[bO (ok2 t h)];simp
     rw[aB c1,aG c2,ef,eg];exact rfl
  ·rw[bJ c2];refine gQ ⟨(by show 1<=1000;decide),λp12 V9 n12=>q _ V9 (ű.trans n12.same) ?_⟩;unfold DP;rw[aB c1,aB c2];exact⟨p12,Z,n12.here⟩
def a0Z{n:Nat}{ts:List bA}{ss:List aU}(cU:n<=10):∃i,i<=ss.length/\a0T i (cF n ts ss)/\(i=ss.length\/i<ss.length):=by
 have h:∀m,m<=ss.length->∃i,i<=m/\a0T i (aP n ts ss m).1:=λm=>by
  induction m with
  |zero=>exact λ_=>⟨0,aO _,jR cU Z⟩
  |succ m ih =>
   intro hm;by_cases c:(aP n ts ss (m+1)).2=true
   ·exact⟨m+1,aO _,jR cU c⟩
   ·obtain⟨i,hi,I⟩:=ih (by omega);refine⟨i,by omega,?_⟩;have e:(aP n ts ss (m+1)).1=(aP n ts ss m).1:=by
     have e:aP n ts ss (m+1)=if(aP n ts ss m).2=true then
      (match rC n ts ss m (aP n ts ss m).1 with
      |some r=>(r,true)
      |none=>((aP n ts ss m).1,false))
     else((aP n ts ss m).1,false):=rfl
     grind
    grind
 obtain⟨i,hi,I⟩:=h ss.length (aO _);exact⟨i,hi,I,by omega⟩
end
structure Ų(mg:Str->Option Value) where
 qF:Value
 vL:mg "BEYOND_WEIGHTS" = some qF
 vM:cP (.int 1000000000000000000000000000000) qF
 sy:Value
 wQ:mg "MOST_IN_A_BAG" = some sy
 wR:cP (.int 4) sy
 uo:Value
 yj:mg "MOST_COLOURS" = some uo
 yp:cP (.int 4) uo
def a3p{K:aK}{h:Heap}{Fl:Tok}{GQ:Tok}{J9:Tok}(X:K.In h)(G:h.Ns mainGlobals mg)(Fo:PySem.W.nsIn K mainGlobals "BEYOND_WEIGHTS" = some (some (Value.int 1000000000000000000000000000000 Fl)))(GR:PySem.W.nsIn K mainGlobals "MOST_IN_A_BAG" = some (some (Value.int 4 GQ)))(Ka:PySem.W.nsIn K mainGlobals "MOST_COLOURS" = some (some (Value.int 4 J9))):Nonempty (Ų mg) :=
 ⟨{ qF:=_,vL:=Jd X G Fo,vM:=⟨_,Z⟩,sy:=_,wQ:=Jd X G GR,wR:=⟨_,Z⟩,uo:=_,yj:=Jd X G Ka,yp:=⟨_,Z⟩}⟩
abbrev mH:Stmt:=inClass (top 35) 0
def yq:bD Xo Xo (aF mH):={}
abbrev fB:Stmt:=inClass (top 35) 1
def wY:bD j5 j5 (aF fB):={}
abbrev gM:Stmt:=inClass (top 35) 2
def Ba:bD wO wO (aF gM):={}
abbrev gO:Stmt:=inClass (top 35) 3
def Bb:bD j5 j5 (aF gO):={}
abbrev nO:Stmt:=inClass (top 36) 0
def zF:bD Xp Xp (aF nO):={}
abbrev lY:Stmt:=inClass (top 36) 1
def CW:bD iB iB (aF lY):={}
abbrev oX:Stmt:=inClass (top 36) 2
def GX:bD sI sI (aF oX):={}
abbrev jz:Stmt:=inClass (top 36) 3
def yr:bD iB iB (aF jz):={}
abbrev qG:Stmt:=inClass (top 37) 0
def CZ:bD Gp Gp (aF qG):={}
abbrev j7:Stmt:=inClass (top 37) 1
def Bc:bD j5 j5 (aF j7):={}
abbrev oY:Stmt:=inClass (top 37) 2
def GZ:bD iB iB (aF oY):={}
abbrev sX:Stmt:=inClass (top 37) 3
def Lg:bD sI sI (aF sX):={}
abbrev j8:Stmt:=inClass (top 37) 4
def Bd:bD iB iB (aF j8):={}
abbrev qH:Stmt:=inClass (top 38) 0
def Dc:bD Gp Gp (aF qH):={}
abbrev oZ:Stmt:=inClass (top 38) 1
def G9:bD wO wO (aF oZ):={}
abbrev pB:Stmt:=inClass (top 38) 2
def Hf:bD j5 j5 (aF pB):={}
abbrev pG:Stmt:=inClass (top 38) 3
def Hg:bD iB iB (aF pG):={}
abbrev pH:Stmt:=inClass (top 38) 4
def Lh:bD sI sI (aF pH):={}
abbrev j9:Stmt:=inClass (top 38) 5
def Bf:bD iB iB (aF j9):={}
structure qI(K:aK)(mg:Str->Option Value) where
 C:Addr
 cl:Cls K C
 m:mg "Question" = some (.ref C)
 bN:Dm K C "__init__" "Question.__init__" mH Xo
 uK:a4G K C "__init__" bN.f
 ų:Mk K C bN.f
set_option genInjectivity false in
structure zp(K:aK)(mg:Str->Option Value) where
 C:Addr
 cl:Cls K C
 m:mg "Colours" = some (.ref C)
 fD:eO K C "graph"
 iw:eO K C "leaf"
 fV:eO K C "whole"
 Kc:eO K C "many"
 fC:eO K C "weights"
 bN:DmD K C "__init__" "Colours.__init__" nO Xp
 dW:Dm K C "is_better" "Question.is_better" fB j5
 jd:Dm K C "shared" "Question.shared" gM wO
 je:Dm K C "joined" "Question.joined" gO j5
 jf:Dm K C "put_in" "Colours.put_in" lY iB
 pI:Dm K C "tied" "Colours.tied" oX sI
 dX:Dm K C "taken_out" "Colours.taken_out" jz iB
 ų:Mk K C bN.f
set_option genInjectivity false in
structure HX(K:aK)(mg:Str->Option Value) where
 C:Addr
 cl:Cls K C
 m:mg "Apart" = some (.ref C)
 fD:eO K C "graph"
 iw:eO K C "leaf"
 fV:eO K C "whole"
 fC:eO K C "weights"
 bN:DmD K C "__init__" "Apart.__init__" qG Gp
 dW:Dm K C "is_better" "Apart.is_better" j7 j5
 jd:Dm K C "shared" "Question.shared" gM wO
 je:Dm K C "joined" "Question.joined" gO j5
 jf:Dm K C "put_in" "Apart.put_in" oY iB
 pI:Dm K C "tied" "Apart.tied" sX sI
 dX:Dm K C "taken_out" "Apart.taken_out" j8 iB
 ų:Mk K C bN.f
set_option genInjectivity false in
structure HY(K:aK)(mg:Str->Option Value) where
 C:Addr
 cl:Cls K C
 m:mg "Watch" = some (.ref C)
 fD:eO K C "graph"
 iw:eO K C "leaf"
 fV:eO K C "whole"
 fC:eO K C "weights"
 bN:DmD K C "__init__" "Watch.__init__" qH Gp
 dW:Dm K C "is_better" "Question.is_better" fB j5
 jd:Dm K C "shared" "Watch.shared" oZ wO
 je:Dm K C "joined" "Watch.joined" pB j5
 jf:Dm K C "put_in" "Watch.put_in" pG iB
 pI:Dm K C "tied" "Watch.tied" pH sI
 dX:Dm K C "taken_out" "Watch.taken_out" j9 iB
 ų:Mk K C bN.f
abbrev nZ:Stmt:=top 17
def sY:bD ["graph","steps","tops","feeds","pile"] qj (aF nZ):={}
abbrev u6:Stmt:=top 18
def Kd:bD ["bags"] ["bags"] (aF u6):={}
inductive a3q(K:aK)(vs:List V)(H:Hp)(Q:VK)(u_3:XK):Prop
 |mk (g:V) (n:Nat) (ts:List bA) (a:Addr) (xs:List V) (ss:List aU) (_:vs=[g,.ref a]) (_:uY K H g n ts) (_:n<=10) (_:bG K H a xs) (_:Paired (vG K H) xs ss) (_:ss.length<=900) (_:DP n ts ss (cF n ts ss)=.ok) (_:∀r pt pf vt fs H',aH H H'->H' r=some (.tup [.ref pt,.ref pf])->H pt=none->H pf=none->H' pt=some (.lst vt)->H' pf=some (.lst (fs.map V.ref))->Paired (wW [pt,pf] K H') vt (cF n ts ss).aR->Paired (Az [pt,pf] H') fs (cF n ts ss).cI->Q (.ref r) H')
def zq{n:Nat}{ts:List bA}{ss:List aU}(cU:n<=10)(h:DP n ts ss (cF n ts ss)=.ok):a0T ss.length (cF n ts ss):=by
 obtain⟨i,il,I,_⟩:=a0Z (n:=n) (ts:=ts) (ss:=ss) cU;have e:¬(cF n ts ss).aR.length<ss.length:=λc=>by
  unfold DP at h;grind
 rw[I.tl]at e;grind
def RX(n:Nat)(ts:List bA)(ss:List aU)(m:Nat):aP n ts ss (m+1)=if(aP n ts ss m).2=true then
   (match rC n ts ss m (aP n ts ss m).1 with
   |some r=>(r,true)
   |none=>((aP n ts ss m).1,false))
  else((aP n ts ss m).1,false):=rfl
theorem M7{n:Nat}{ts:List bA}{ss:List aU}(cU:n<=10):∀m,(aP n ts ss m).2=false->(aP n ts ss m).1.aR.length<m
 |0,h=>by cases h
 |m+1,h=>by
  rw[RX]at h ⊢
  by_cases c:(aP n ts ss m).2=true
  ·rw[aG c]at h ⊢
   have I:=jR cU c
   cases d:rC n ts ss m (aP n ts ss m).1 with
   |none=>show(aP n ts ss m).1.aR.length<m+1;rw[I.tl];omega
   |some r=>grind
  ·rw[aB c]
   have:=M7 cU m (tO.mpr c)
   grind
def Ŀ{n:Nat}{ts:List bA}{ss:List aU}(cU:n<=10)(h:DP n ts ss (cF n ts ss)=.ok):∀i,i<=ss.length->(aP n ts ss i).2=true:=by
 have e:¬(cF n ts ss).aR.length<ss.length:=λc=>by
  unfold DP at h;grind
 intro i il;cases c:(aP n ts ss i).2 with
 |true=>rfl
 |false =>
  have e2:=J4 c ss.length il;have:=M7 cU i c;unfold cF at e;grind
section
variable{K:aK}
def Qi(B:Bl mg)(U:Used w K mg)(kE:GK K mg)(jL:Dn K mg "is_below" gA uJ)(qe:Dn K mg "joint" qO lE)(nJ:Dn K mg "less" um lE)(K5:Dn K mg "bag_behind" gC Gn)(wX:Dn K mg "run" J3 qj)(vK:Dn K mg "fault_behind" fX JK)(zG:Dn K mg "run_whole" nZ qj):bh P w K mg base gj 5 zG.f zG.fd qj (a3q K):=by
 have a6t:bh P w K mg base gj 4 _ _ _ _:=a3o B U kE jL qe nJ K5 wX;have a6u:bh P w K mg base gj 4 _ _ _ _:=(GP B vK).mono (by decide);refine zG.F.ok sY λcZ A outer s H vs Q E hr h=>?_;obtain⟨g,n,ts,a,xs,ss,rfl,hG,cU,hA,pA,a5a,vU,q⟩:=h;refine⟨_,(aA (Am (bf a6t hr Z wX.m wX.F.kp wX.b .nil b8 (J (pv 0) (J (pv 1) aj))) (jy (K:=K) (n:=3) Z Z (bY (aL 2 sY.nd) (bY (aL 3 sY.nd) (bY (aL 4 sY.nd) jx)))))
   (aA (dN (aJ Ι (bf a6u hr Z vK.m vK.F.kp vK.b .nil b8 (J (pv 0) (J (pv 1) (J (pv 2) (J (pv 4) aj))))) oK)
   (aD Ca)
   bR)
   (aD (bI (bx (J (pv 2) (J (pv 3) aj))))))),?_⟩
 have I:=zq cU vU;have pl:=I.pl;refine⟨_,Z,_,Z,g,n,ts,a,xs,ss,Z,hG,cU,hA,pA,a5a,λr pt pf pp vt fs H1 s1 hr1 ft ff fp ht hf hp pv pf'=>⟨r,_,Z,cG.of hr1,Z,_,_,Z,_,_,Z,_,_,Z,Z,?_⟩⟩;refine⟨_,Z,_,Z,_,Z,_,Z,g,n,ts,a,pt,pp,xs,vt,ss,cF n ts ss,Z,hG.same s1,cU,s1.seq hA,Paired.bU pA λ_ _ h=>h.same s1,bG.of ht,Paired.bU pv λ_ _ h=>h.l,bG.of hp.1,(λj hj=>by rw[I.tl];exact I.lt j hj),by omega,λv H2 s2 fv=>?_⟩;rw[vU]at fv;obtain rfl:v=.non:=fv;refine⟨Z,_,Z,cN ?_⟩;refine⟨_,Z,_,Z,(by show 2<=1000;decide),λp3 H3 n3=>?_⟩;have wL:=s2.trans n3.same;exact q p3 pt pf vt fs H3 (s1.trans wL) n3.here ft ff (wL _ _ ht) (wL _ _ hf) (Paired.bU pv λ_ _ h=>h.same wL) (Paired.bU pf' λ_ _ h=>h.same wL)
end
inductive a3r(K:aK)(vs:List V)(H:Hp)(Q:VK)(u_3:XK):Prop
 |mk (a:Addr) (xs:List V) (rs:List BR) (_:vs=[.ref a]) (_:bG K H a xs) (_:Paired (λv r=>∃q,v=.ref q/\bG K H q (r.2.map V.int)) xs rs) (_:rs.length<=900) (_:(∀r∈rs,r.2.length<=4)) (_:∀H',aH H H'->Q .non H')
section
variable{K:aK}
abbrev a00(K:PySem.W.Frag)(mg:Str->Option Value):=Dn K mg "refuse_wide" u6 ["bags"]
def Ke(B:Bl mg)(Ct:Ų mg)(zH:a00 K mg):bh P w K mg base gj 1 zH.f zH.fd ["bags"] (a3r K):=by
 refine zH.F.ok Kd λcZ A outer s H vs Q E hr h=>?_;obtain⟨a,xs,rs,rfl,hx,hp,l9,h4,q⟩:=h;have lx:=aY hp;refine⟨_,(aD (dN (gw (K:=K) Z (bK (YW (K:=K) Z Z) Z B.any (by decide) (J (jH ["bag"] [none]  (by kernel_rfl) Z (cX (K:=K) Z (pv 0)) (λ_ _ _ _ _=>(aL 0 (show(["bag"]:List Str).Nodup by decide))) (λ_ _ _ _ _=>gk) λ_ _ _ _ _=>(sS zL (bK (cQ (K:=K) Z) Z B.len (by decide) (J (pv 0) aj)) (O8 (v:=.int 4) Z Ct.wQ Ct.wR))) aj)) λ_=>rfl)
   (aD Ca)
   bR)),?_⟩
 refine⟨_,Z,a,Z,⟨_,hx⟩,ÿ (λj=>some (.bl false)) hx (by omega) (λj x H3 N hj s3 hN=>?_) λH3 p H4 s3 nw=>?_⟩
 ·obtain⟨r,hr1,⟨b,rfl,hb⟩⟩:=bT hp hj;refine⟨_,Z,b,_,Z,.inl (s3.seq hb),_,_,Z,Z,?_⟩;grind
 have e1:(List.range xs.length).filterMap (λj=>some (V.bl false))=((List.range rs.length).map λ_=>false).map V.bl:=by
  rw[lx,nC];exact Cr λ_ _=>rfl
 rw[e1]at nw;refine⟨p,_,_,Z,bG.of nw.here,oO.bls _,_,Z,?_⟩;have e2:((List.range rs.length).map λ_=>false).any id=false:=by
  grind
 rw[e2];exact cN (q H4 (s3.trans nw.same))
end
abbrev Kf:Stmt:=top 20
def Fp:bD Mx ["steps","question"] (aF Kf):={}
abbrev kh:Stmt:=top 21
def Bh:bD ["table"] ["table"] (aF kh):={}
abbrev pK:Stmt:=top 22
def u9:bD ["graph","steps","tops","feeds"] qj (aF pK):={}
def a01{K:aK}{H:Hp}{vs:List V}{bs:List (List Int)}(h:Paired (wW ex K H) vs bs):Paired (λv (r:BR)=>∃q,v=.ref q/\bG K H q (r.2.map V.int)) vs (bs.map λb=>(none,b)):=by
 induction h with
 |nil=>exact .nil
 |cons h _ ih =>
  obtain⟨q,e,h,_⟩:=h;exact .cons ⟨q,e,h⟩ ih
inductive a5f(K:aK)(vs:List V)(H:Hp)(Q:VK)(u_3:XK):Prop
 |mk (g:V) (n:Nat) (ts:List bA) (a:Addr) (xs:List V) (ss:List aU) (_:vs=[g,.ref a]) (_:uY K H g n ts) (_:n<=10) (_:bG K H a xs) (_:Paired (vG K H) xs ss) (_:ss.length<=800) (_:DP n ts ss (cF n ts ss)=.ok) (_:(∀b∈(cF n ts ss).aR,b.length<=4)) (_:∀r pt pf vt fs H',aH H H'->H' r=some (.tup [.ref pt,.ref pf])->H' pt=some (.lst vt)->H' pf=some (.lst (fs.map V.ref))->Paired (wW [pt,pf] K H') vt (cF n ts ss).aR->Paired (Az [pt,pf] H') fs (cF n ts ss).cI->Q (.ref r) H')
def ŀ(H:Hp)(v:V)(r:fH):Prop:=∃p,v=.ref p/\H p=some (.tup [.int r.m,.int r.b])
def ZL(H:Hp):List (List Key×V)->cD->Prop:=Paired λkv tr=>kv.1=wJ tr.1/\ŀ H kv.2 tr.2
inductive Wa(H:Hp)(v:V)(T:cD):Prop
 |mk (p O:_) (_:v=.ref p) (_:H p=some (.dT O)) (_:ZL H O T)
def ŀ.keep{H H':Hp}{v:V}{r:fH}(k:rZ H H')(h:ŀ H v r):ŀ H' v r:=by
 obtain⟨p,e,h⟩:=h;exact⟨p,e,k _ _ h⟩
def Wa.keep{H H':Hp}{v:V}{T:cD}(s:aH H H')(h:Wa H v T):Wa H' v T:=by
 obtain⟨p,O,e,h1,h2⟩:=h;exact⟨p,O,e,s _ _ h1,Paired.bU h2 λ_ _ z=>⟨z.1,z.2.keep (.of s)⟩⟩
inductive ZM(vs:List V)(H:Hp)(Q:VK)(u_3:XK):Prop
 |mk (t:Addr) (O:List (List Key×V)) (T:cD) (_:vs=[.ref t]) (_:H t=some (.dT O)) (_:oh H O T) (_:T.length<=900) (_:(T.map (·.1)).Nodup) (_:∀p kvs' H',aH H H'->H' p=some (.dT kvs')->ZL H' kvs' T->Q (.ref p) H')
section
variable{K:aK}{κ:Type} [DecidableEq κ]
def Li(B:Bl mg)(Ct:Ų mg)(U:Used w K mg)(kE:GK K mg)(jL:Dn K mg "is_below" gA uJ)(qe:Dn K mg "joint" qO lE)(nJ:Dn K mg "less" um lE)(K5:Dn K mg "bag_behind" gC Gn)(wX:Dn K mg "run" J3 qj)(vK:Dn K mg "fault_behind" fX JK)(zG:Dn K mg "run_whole" nZ qj)(zH:a00 K mg)(Dd:Dn K mg "run_narrow" pK qj):bh P w K mg base gj 6 Dd.f Dd.fd qj (a5f K):=by
 have a6v:bh P w K mg base gj 5 _ _ _ _:=Qi B U kE jL qe nJ K5 wX vK zG;have a6w:bh P w K mg base gj 5 _ _ _ _:=(Ke B Ct zH).mono (by decide);refine Dd.F.ok u9 λcZ A outer s H vs Q E hr h=>?_;obtain⟨g,n,ts,a,xs,ss,rfl,hg,cU,hA,pA,l8,wU,b4,q⟩:=h;refine⟨_,(aA (Am (bf a6v hr Z zG.m zG.F.kp zG.b .nil b8 (J (pv 0) (J (pv 1) aj))) (jy (K:=K) (n:=2) Z Z (bY (aL 2 u9.nd) (bY (aL 3 u9.nd) jx))))
   (aA (jw (bf a6w hr Z zH.m zH.F.kp zH.b .nil b8 (J (pv 2) aj)))
   (aD (bI (bx (J (pv 2) (J (pv 3) aj))))))),?_⟩
 refine⟨_,Z,_,Z,g,n,ts,a,xs,ss,Z,hg,cU,hA,pA,by omega,wU,λr pt pf vt fs H1 s1 hr1 fpt fpf hpt hpf pT pF=>?_⟩;refine⟨r,_,Z,cG.of hr1,Z,_,_,Z,_,_,Z,Z,?_⟩;have lT:(cF n ts ss).aR.length<=900:=by
  have:=(zq cU wU).tl;omega
 refine⟨_,Z,pt,vt,(cF n ts ss).aR.map (λb=>(none,b)),Z,bG.of hpt,a01 pT,by grind,?_,λH2 s2=>?_⟩
 ·grind
 ·refine⟨_,Z,_,Z,(by grind),λp3 H3 n3=>?_⟩;have s23:=s2.trans n3.same;exact q p3 pt pf vt fs H3 (s1.trans s23) n3.here (s23 _ _ hpt) (s23 _ _ hpf) (Paired.bU pT λ_ _ ⟨p,e,h,ne⟩=>⟨p,e,s23.seq h,ne⟩) (Paired.bU pF λ_ _ ⟨h,ne⟩=>⟨s23 _ _ h,ne⟩)
abbrev a3s(K:PySem.W.Frag)(mg:Str->Option Value):=Dn K mg "without_sources" kh ["table"]
def Bj(B:Bl mg)(Bk:a3s K mg):bh P w K mg base gj 1 Bk.f Bk.fd ["table"] ZM:=by
 refine Bk.F.ok Bh λcZ A outer s H vs Q E hr h=>?_;obtain⟨t,O,T,rfl,ht,hT,lT,nd,q⟩:=h;have hw2:(A.deeper (PyProof.Rows.envOfC "without_sources" (aF kh) s.heap.objs.size Bk.f cZ)).units+2<cLine:=by have:=hr.un;omega
 refine⟨_,(aD (bI (iC (VN (K:=K) Z Z hw2) Z B.dict (by decide) (J (ę (jH ["state","row"] [none,none]  (by kernel_rfl) Z (Fd (wD (K:=K) Z NT Tq Tr Fb (pv 0))) (λ_ _ _ _ _=>(jy (K:=K) (n:=2) Z Z (bY (aL 0 (show(["state","row"]:List Str).Nodup by decide)) (bY (aL 1 (show(["state","row"]:List Str).Nodup by decide)) jx)))) (λ_ _ _ _ _=>gk) λ_ _ _ _ _=>(bx (J (pv 0) (J (bx (J (aQ (aM (K:=K) Z) (pv 1) aq) (J (aQ (aM (K:=K) Z) (pv 1) aq) aj))) aj))))) aj)))),⟨_,Z,.inr (.inr (.inl ⟨Z,.inr ⟨_,ht⟩⟩)),t,O,Z,Z,ht,λpv H1 n1=>⟨pv,t,O,Z,n1.here,n1.same _ _ ht,λo as pk=>?_⟩⟩⟩;have h1t:=n1.same _ _ ht;have nd0:Nd H (cO H1 t (.kj o (.dT O))):=(Nd.of n1.same).trans (Nd.kj h1t);have g0t:cO H1 t (.kj o (.dT O)) t=some (.kj o (.dT O)):=eG;have g0r:∀c,c≠t->cO H1 t (.kj o (.dT O)) c=H1 c:=λc hc=>aZ hc;generalize cO H1 t (.kj o (.dT O))=G0 at pk nd0 g0t g0r ⊢;have lk:=aY hT;have la:=aY pk;refine Zj (λi ys G=>aH G0 G/\∃kw,Paired (PrL G) ys kw/\ZL G kw (T.take i)) ⟨aH.refl _,[],.nil,.nil⟩ (λi ys G hi ⟨sG,kw,p1,p2⟩=>⟨sG _ _ g0t,?_⟩) (λi ys G a0 v0 p G1 ha0 hv0 ⟨sG,kw,p1,p2⟩ nw=>?_) (λys G pl ⟨sG,kw,p1,p2⟩ hpl=>?_)
 ·rw[aY p1,aY p2,dZ];omega
 ·obtain⟨kv,hkv,hak⟩:=bT pk ha0;obtain⟨⟨st,row⟩,hsx,ek,hrow⟩:=bT hT hkv;have ek:kv.1=wJ st:=ek;have hv0':v0=kv.2:=by
   grind
  subst hv0';rw[ek]at hak;have sG1:=sG.trans nw.same;obtain⟨pr,qr,asr,Zv,hpr,_⟩:=hrow.keep (nd0.tups.trans (.of sG1));refine⟨p,_,Z,cG.of nw.here,Z,_,_,Z,_,_,Z,Z,?_⟩;rw[Zv];refine⟨_,Z,_,Z,pr,_,_,.int row.m,Z,Z,cG.of hpr,Z,_,Z,pr,_,_,.int row.b,Z,Z,cG.of hpr,Z,(by grind),λq1 G2 m2=>⟨(by grind),λq2 G3 m3=>?_⟩⟩;have wL:=nw.same.trans (m2.same.trans m3.same);refine⟨sG.trans wL,kw++[(wJ st,.ref q1)],cV (Paired.bU p1 λ_ _ ⟨pp,kp,e,h1,h2⟩=>⟨pp,kp,e,wL _ _ h1,wL _ _ h2⟩) ⟨q2,a0,Z,m3.here,(sG.trans wL) _ _ hak⟩,?_⟩;rw[jX,hsx];exact cV (Paired.bU p2 λ_ _ z=>⟨z.1,z.2.keep (.of wL)⟩) ⟨Z,q1,Z,m3.same _ _ m2.here⟩
 ·have n2:=gV.oF (o:=.lst ys) hpl;generalize cO G pl (.lst ys)=G2 at n2 ⊢;have g2t:=n2.same _ _ (sG _ _ g0t);rw[show T.take as.length=T by grind]at p2;have tu:rZ G (cO G2 t (.dT O)):=λc zs e=>Nd.Qf g2t _ _ (n2.same _ _ e);have sF:aH H (cO G2 t (.dT O)):=λc u e=>by
   by_cases z:c=t
   ·rw[z]at e ⊢;rw[eG,<-e,ht]
   ·rw[aZ z];refine(sG.trans n2.same) c u ?_;rw[g0r c z];exact n1.same _ _ e
  have npl:pl≠t:=λz=>by have:=n2.here;grind
  refine⟨t,o,O,O,ht,g2t,?_⟩;refine⟨pl,ys,kw,Z,by rw[aZ npl];exact n2.here,Paired.bU p1 λ_ _ ⟨pp,kp,e,h1,h2⟩=>⟨pp,kp,e,tu _ _ h1,tu _ _ h2⟩,?_,λpd H5 n5=>?_⟩
  ·have go:∀{kw:List (List Key×V)}{T:cD},ZL G kw T->kw.map (·.1)=T.map λx=>wJ x.1:=λ{kw T} h=>by
    induction h with
    |nil=>rfl
    |cons a _ ih=>grind
   rw[go p2];have e2:(T.map λx=>wJ x.1)=(T.map (·.1)).map wJ:=by rw[nC];rfl
   rw[e2];exact Eg.mpr (nd.imp λ{a b} ne e=>ne (CQ e))
  ·exact q pd kw H5 (sF.trans n5.same) n5.here (Paired.bU p2 λ_ _ z=>⟨z.1,z.2.keep (tu.trans (.of n5.same))⟩)
inductive Ł(Qn:JQ P w K mg base κ)(vs:List V)(H:Hp)(Q:VK)(u_3:XK):Prop
 |mk (d a:Addr) (xs:List V) (ss:List aU) (_:vs=[.ref a,.ref d]) (_:Qn.At H d) (_:Qn.n<=10) (_:bG K H a xs) (_:Paired (vG K H) xs ss) (_:ss.length<=800) (_:DP Qn.n Qn.ts ss (cF Qn.n Qn.ts ss)=.ok) (_:(∀b∈(cF Qn.n Qn.ts ss).aR,b.length<=4)) (_:(∀k,k<ss.length->Aw Qn (cF Qn.n Qn.ts ss).aR (Le Qn.pq ss (cF Qn.n Qn.ts ss).aR (cF Qn.n Qn.ts ss).cI k) (ss.getD k .leaf) ((cF Qn.n Qn.ts ss).aR.getD k []) ((cF Qn.n Qn.ts ss).cI.getD k []))) (_:(∀T∈Le Qn.pq ss (cF Qn.n Qn.ts ss).aR (cF Qn.n Qn.ts ss).cI ss.length,T.length<=900/\(T.map (·.1)).Nodup)) (_:∀pl ys H',aH H H'->H' pl=some (.lst ys)->Paired (Wa H') ys (Le Qn.pq ss (cF Qn.n Qn.ts ss).aR (cF Qn.n Qn.ts ss).cI ss.length)->Q (.ref pl) H')
abbrev a5g(K:PySem.W.Frag)(mg:Str->Option Value):=Dn K mg "tables" Kf ["steps","question"]
def Fq(B:Bl mg)(Bz:mg "zip" = none)(Ct:Ų mg)(U:Used w K mg)(Qn:JQ P w K mg base κ)(kE:GK K mg)(jL:Dn K mg "is_below" gA uJ)(qe:Dn K mg "joint" qO lE)(nJ:Dn K mg "less" um lE)(K5:Dn K mg "bag_behind" gC Gn)(wX:Dn K mg "run" J3 qj)(vK:Dn K mg "fault_behind" fX JK)(zG:Dn K mg "run_whole" nZ qj)(zH:a00 K mg)(Dd:Dn K mg "run_narrow" pK qj)(wV:Dn K mg "states_behind" gU JH)(su:Dn K mg "note" wK Gm)(zE:Dn K mg "fill_along" lX Mv)(ye:Dn K mg "fill_joined" jo Mw)(Ax:Dn K mg "going_up" qD Mx)(Bk:a3s K mg)(Hh:a5g K mg):bh P w K mg base gj 12 Hh.f Hh.fd ["steps","question"] (Ł Qn):=by
 have a6x:bh P w K mg base gj 11 _ _ _ _:=(Li B Ct U kE jL qe nJ K5 wX vK zG zH Dd).mono (by decide);have a6y:bh P w K mg base gj 11 _ _ _ _:=RJ B Bz Qn qe wV su zE ye Ax;have a6z:bh P w K mg base gj 11 _ _ _ _:=(Bj B Bk).mono (by decide);refine Hh.F.ok Fp λcZ A outer s H vs Q E hr h=>?_;obtain⟨d,a,xs,ss,rfl,hD,cU,hA,pA,l8,wU,b4,ok,sm,q⟩:=h;refine⟨_,(aA (Am (bf a6x hr Z Dd.m Dd.F.kp Dd.b .nil b8 (J (zj (K:=K) Z (pv 1) Z) (J (pv 0) aj))) (jy (K:=K) (n:=2) Z Z (bY (aL 2 Fp.nd) (bY (aL 3 Fp.nd) jx))))
   (aD (bI (jH ["table"] [none]  (by kernel_rfl) Z (cX (K:=K) Z (bf a6y hr Z Ax.m Ax.F.kp Ax.b .nil b8 (J (pv 0) (J (pv 1) (J (pv 2) (J (pv 3) aj)))))) (λ_ _ _ _ _=>(aL 0 (show(["table"]:List Str).Nodup by grind) Z (Or.inl Z))) (λ_ _ _ _ _=>gk) λ_ _ _ _ _=>(bf a6z hr Z Bk.m Bk.F.kp Bk.b .nil b8 (J (pv 0) aj)))))),?_⟩
 obtain⟨dx,fs,hd,_,_,_,g,hgl,hg⟩:=Qn.ins hD;have RI:=zq cU wU;refine⟨_,Z,d,_,dx,fs,_,Z,hd,Qn.cl,Qn.fD,hgl,_,Z,⟨g,Qn.n,Qn.ts,a,xs,ss,Z,hg,cU,hA,pA,l8,wU,b4,λr pt pf vt fs' H1 s1 hr1 hpt hpf pT pF=>⟨r,_,Z,cG.of hr1,Z,_,_,Z,_,_,Z,Z,⟨_,Z,_,Z,_,Z,_,Z,?_⟩⟩⟩⟩;refine⟨d,a,pt,pf,xs,vt,fs',ss,(cF Qn.n Qn.ts ss).aR,(cF Qn.n Qn.ts ss).cI,Z,(Nd.of s1).at Qn hD,s1.seq hA,Paired.bU pA λ_ _ h=>h.same s1,bG.of hpt,Paired.bU pT λ_ _ ⟨p,e,h,_⟩=>⟨p,e,h⟩,bG.of hpf,Paired.bU pF λ_ _ ⟨h,_⟩=>h,by omega,RI.tl,RI.fl,λb hb=>(RI.sm b hb).1,ok,λpl ps H2 s2 fpl hpl pP nd fr=>⟨pl,Z,⟨_,bG.of hpl⟩,?_⟩⟩;have lg:=j6 Qn.pq ss (cF Qn.n Qn.ts ss).aR (cF Qn.n Qn.ts ss).cI ss.length;have lp:=aY pP;refine qN (K:=K) (a:=pl) (xs:=ps.map V.ref) (λi ys G=>aH H2 G/\Paired (Wa G) ys ((Le Qn.pq ss (cF Qn.n Qn.ts ss).aR (cF Qn.n Qn.ts ss).cI ss.length).take i)) ⟨aH.refl _,.nil⟩ (λi ys G hi ⟨sG,p⟩=>⟨bG.of (sG _ _ hpl),?_⟩) (λi x ys G hx ⟨sG,p⟩=>?_) (λys G ⟨sG,p⟩ pr hpr=>?_)
 ·rw[aY p,dZ];exact dH (cC (by omega))
 ·rw[iW]at hx;obtain⟨p0,hp0,rfl⟩:=kI.mp hx;obtain⟨T,hT,kv,h1,h2⟩:=bT pP hp0;obtain⟨sl,sn⟩:=sm T (jA hT);refine⟨_,Z,p0,kv,T,Z,sG _ _ h1,h2.keep (.of sG),sl,sn,λp' kv' G1 s' h1' h2'=>⟨sG.trans s',?_⟩⟩;rw[jX,hT];exact cV (Paired.bU p λ_ _ h=>h.keep s') ⟨p',kv',Z,h1',h2'⟩
 ·have n3:=gV.oF (o:=.lst ys) hpr;rw[show(ps.map V.ref).length=ss.length by grind,show(Le Qn.pq ss (cF Qn.n Qn.ts ss).aR (cF Qn.n Qn.ts ss).cI ss.length).take ss.length=Le Qn.pq ss (cF Qn.n Qn.ts ss).aR (cF Qn.n Qn.ts ss).cI ss.length from N7 (OJ lg)]at p;exact q pr ys _ (s1.trans (s2.trans (sG.trans n3.same))) n3.here (Paired.bU p λ_ _ h=>h.keep n3.same)
end
end K
namespace HT
open PyProof.Rows Bg
section
variable{prog:Program}{w:World}{A:Around}{E:Value->Shared->Prop}{s:Shared}
def a02{t b:Addr}{vs ws:List Value}{Q:Value->Shared->Prop}(ht:IsTup s.heap t vs.toArray)(hb:IsTup s.heap b ws.toArray)(hv:vs=[])(h1:Q (.ref b) s):wpAny (model prog w) A (binaryOp .Add (.ref t) (.ref b)) Q E s:=by
 obtain⟨⟨cls,dd,data,sl⟩,ho,hc,n,hd⟩:=id ht;obtain⟨⟨cls2,dd2,data2,sl2⟩,ho2,hc2,n2,hd2⟩:=id hb;simp only at hc hd hc2 hd2;subst hc hd hc2 hd2;exact concat_meets ⟨_,ho,Z⟩ ⟨_,ho2,Z⟩ Ue Uu Tv Tn (Tg _ _)
   (tuple_addW0 t b vs.toArray ws.toArray n n2 dd dd2 sl sl2 (by simp[hv])) ⟨ho,ho2,h1⟩
def zJ{t sl:Addr}{items:Array Value}{vl vu:Value}{lo hi:Option Int}{Q:Value->Shared->Prop}(ht:IsTup s.heap t items)(hs:s.heap.IsSliceOf sl vl vu .none)(pl:IsPart vl lo)(pu:IsPart vu hi)
  (hw:kZ items.size 0 lo=0/\kZ items.size items.size hi=items.size) (h:Q (.ref t) s):wpAny (model prog w) A (getItem (.ref t) (.ref sl)) Q E s:=by
 obtain⟨os,hos,hcs,hds⟩:=id hs;have hTs:s.TypeIs (.ref sl) "slice" :=⟨os,hos,hcs⟩;unfold getItem;try with_reducible refine ig ?_
 first|refine M (ao ?_)|skip
 refine M (wpAny_sequenceKey ht.typeIs (by decide) ?_);refine M (oG (name:=Str.ofString "__getitem__") ht.typeIs Nv
  (gP Nv ht.typeIs entry_tuple_getitem ?_ (args_tuple_getitem _ _)))
 show wpAny _ _ (Builtin.Tuple.tupleItemsOf (.ref t) >>= _) _ _ s;refine M (tupleItemsOf_ ht (M (vZ hTs ?_)));rw[aG (by decide)];refine M (vq hs pl pu ?_);show wpAny _ _ (if(((kZ items.size 0 lo:Nat):Int)==0&&(1:Int)==1&&(kZ items.size items.size hi-kZ items.size 0 lo)==items.size)=true then _ else _) _ _ s;rw[aG (by rw[hw.1,hw.2];simp)];refine M (M (vZ ht.typeIs (ao ?_)));rw[aG (by decide)];exact M (jY (M (ao (ao ⟨_,Z,ao h⟩))))
end
end HT
namespace L2
open PyProof.Rows Bg
section
variable{X:Cx}
inductive a6A(x:V)(lo:Option Int)(hi:Option Int)(H:Hp)(Q:VK):Prop
 |mk (a xs:_) (_:x=.ref a) (_:H a=some (.tup xs)) (_:∀p H',aH H H'->H' p=some (.tup (uV xs lo hi))->Q (.ref p) H')
def Ia:SlR X a6A:=by
 intro Y s σ H x v vl vu lo hi sl Q I rx hs pl pu h;obtain⟨a,xs,rfl,hx,q⟩:=h;by_cases hw:HT.kZ xs.length 0 lo=0/\HT.kZ xs.length xs.length hi=xs.length
 ·cases rx;obtain⟨cg,r,ht,hz⟩:=I.tuple (cG.of hx);have hlen:cg.toArray.size=xs.length:=by rw[iG];exact r.length.symm
  refine⟨"tuple",_,PyProof.Rows.slot_tuple_getitem.lookup,ht.typeIs,HT.zJ ht hs pl pu (by grind) ⟨.ref a,H,I,Z,q a H (aH.refl _) ?_⟩⟩;have e:uV xs lo hi=xs:=by
   unfold uV;grind
  grind
 ·exact è Y s σ H _ v vl vu lo hi sl Q I rx hs pl pu ⟨a,xs,Z,cG.of hx,hw,λp hp=>q p _ (Lw.qX hp _) eG⟩
inductive a5h(x:V)(y:V)(H:Hp)(Q:VK):Prop
 |mk (a b xs ys:_) (_:x=.ref a) (_:y=.ref b) (_:H a=some (.tup xs)) (_:H b=some (.tup ys)) (_:xs.length+ys.length<=1000) (_:∀p H',aH H H'->H' p=some (.tup (xs++ys))->Q (.ref p) H')
def Qj:uE X (binaryOp .Add) a5h:=by
 intro Y s σ H x y v u Q I rx ry h;obtain⟨a,b,xs,ys,rfl,rfl,ha,hb,hz,q⟩:=h;by_cases hx:xs=[]
 ·cases rx;cases ry;obtain⟨cg,r1,p1,_⟩:=I.tuple (cG.of ha);obtain⟨its2,r2,p2,_⟩:=I.tuple (cG.of hb);exact HT.a02 p1 p2 (r1.HB.mpr hx) ⟨.ref b,H,I,Z,q b H (aH.refl _) (by grind)⟩
 ·exact Ξ Y s σ H _ _ v u Q I rx ry ⟨a,b,xs,ys,Z,Z,cG.of ha,cG.of hb,hx,dH (cC hz),λe=>q a H (aH.refl _) (by grind),λ_ p hp=>q p _ (Lw.qX hp _) eG⟩
end
end L2
namespace L2
open PyProof.Rows
section
variable{K:aK}{a:Addr}{xs:List V}{ix:List (Option Nat)}{g:TG}{tt:TT}{te:TE}{σ:St}{H1:Hp}{Q:VK}
def Qk(Pv:Nat->List V->Hp->Prop)(h0:Pv 0 [] H1)(hl:∀i ys H,i<=xs.length->Pv i ys H->cG K H a xs/\ys.length<=sizeLine)
  (hs:∀i x ys H,xs[i]?=some x->Pv i ys H->g x (qd ix σ) H λσ2 H2=>tt σ2 H2 λb H3=>if b=true then te σ2 H3 λv H4=>Pv (i+1) (ys++[v]) H4 else Pv (i+1) ys H3)
  (hd:∀ys H,Pv xs.length ys H->∀p,H p=none->Q (.ref p) (cO H p (.lst ys))):lC ix g tt te σ H1 Q (Itt K a):=by
 refine⟨λi m ys H=>m=xs.length-i/\i<=xs.length/\Pv i ys H,⟨xs.length,by simp,dI _,h0⟩,?_⟩;rintro i m ys H ⟨rfl,hi,p⟩;obtain⟨q,z⟩:=hl i ys H hi p;by_cases hlt:i<xs.length
 ·refine .inr ⟨⟨xs,xs[i],q,by simp[hlt]⟩,z,λys' H'=>Pv (i+1) ys' H',λys' H' p'=>⟨xs.length-(i+1),by omega,Z,hlt,p'⟩,λx H' y=>?_⟩;obtain⟨e',y⟩:=y;subst e';exact hs i x ys _ (y xs q) p
 ·have ei:i=xs.length:=by omega
  subst ei;exact .inl ⟨⟨xs,q,aO _⟩,z,λpp hp=>hd ys H p pp hp⟩
end
end L2
namespace K
open L2 Lw Bg
variable{K:aK}{P:Program}{w:World}{mg:Str->Option Value}{base:Heap}{ex:List (Str×V)}{n c:Nat}{ts:List bA}
abbrev fQ:Stmt:=top 32
def Kg:bD xZ xZ (aF fQ):={}
abbrev cY:Stmt:=top 33
def Df:bD yc yc (aF cY):={}
def ou(s:dD)(p:Nat)(x:Int):dD:=s.take p++([x]++s.drop p)
def Bm(s:dD)(p:Nat):dD:=s.take p++s.drop (p+1)
def X4(s:dD)(p:Nat)(h:p<=s.length):uV (s.map V.int) none (some (p:Int))=(s.take p).map V.int:=by
 unfold uV;rw[HT.Pa,HT.QX,List.drop_zero,Ak,aN,Nat.min_eq_left h,OD]
def X5(s:dD)(p:Nat)(h:p<=s.length):uV (s.map V.int) (some (p:Int)) none=(s.drop p).map V.int:=by
 unfold uV;rw[HT.Pa,HT.QX,aN,Nat.min_eq_left h,Oz];exact N7 (by rw[kW,aN];exact aO _)
inductive a03(vs:List V)(H:Hp)(Q:VK)(u_3:XK):Prop
 |mk (a:Addr) (s:dD) (p:Nat) (x:Int) (_:vs=[.ref a,.int p,.int x]) (_:uZ H a s) (_:p<=s.length) (_:s.length<=100) (_:∀b H',aH H H'->uZ H' b (ou s p x)->Q (.ref b) H')
inductive Wb(vs:List V)(H:Hp)(Q:VK)(u_3:XK):Prop
 |mk (a:Addr) (s:dD) (p:Nat) (_:vs=[.ref a,.int p]) (_:uZ H a s) (_:p<s.length) (_:s.length<=100) (_:∀b H',aH H H'->uZ H' b (Bm s p)->Q (.ref b) H')
def uq(mJ:Dn K mg "with_number" fQ xZ):bh P w K mg base gj 1 mJ.f mJ.fd xZ a03:=by
 refine mJ.F.ok Kg λcZ A outer s H vs Q E hr h=>?_;obtain⟨a,st,p,x,rfl,ha,hp,l1,q⟩:=h;refine⟨_,(aD (bI (bC Qj (bC Qj (jG Ia (pv 0) lQ (lR (pv 1))) (bx (J (pv 2) aj))) (jG Ia (pv 0) (lR (pv 1)) lQ)))),⟨_,Z,_,Z,_,Z,a,_,Z,ha,λb1 H1 s1 h1=>?_⟩⟩;rw[X4 st p hp]at h1;refine⟨_,Z,(by grind),λb2 H2 n2=>⟨b1,b2,_,_,Z,Z,n2.same _ _ h1,n2.here,?_,λb3 H3 s3 h3=>?_⟩⟩
 ·grind
 have wL:=n2.same.trans s3;refine⟨_,Z,_,Z,_,Z,a,_,Z,(s1.trans wL) _ _ ha,λb4 H4 s4 h4=>?_⟩;rw[X5 st p hp]at h4;refine⟨b3,b4,_,_,Z,Z,s4 _ _ h3,h4,?_,λb5 H5 s5 h5=>q b5 H5 (s1.trans (wL.trans (s4.trans s5))) ?_⟩
 ·grind
 ·show H5 b5=some (.tup ((ou st p x).map V.int));rw[h5];unfold ou;grind
def pN(mK:Dn K mg "without_number" cY yc):bh P w K mg base gj 1 mK.f mK.fd yc Wb:=by
 refine mK.F.ok Df λcZ A outer s H vs Q E hr h=>?_;obtain⟨a,st,p,rfl,ha,hp,l1,q⟩:=h;refine⟨_,(aD (bI (bC Qj (jG Ia (pv 0) lQ (lR (pv 1))) (jG Ia (pv 0) (lR (bC dO (pv 1) aq)) lQ)))),⟨_,Z,_,Z,_,Z,a,_,Z,ha,λb1 H1 s1 h1=>?_⟩⟩;rw[X4 st p (by omega)]at h1;refine⟨_,Z,_,Z,_,_,Z,Z,_,Z,a,_,Z,s1 _ _ ha,λb4 H4 s4 h4=>?_⟩;try dsimp only at h4
 rw[show((p:Int)+1)=((p+1:Nat):Int) by omega,X5 st (p+1) (by omega)]at h4;refine⟨b1,b4,_,_,Z,Z,s4 _ _ h1,h4,?_,λb5 H5 s5 h5=>q b5 H5 (s1.trans (s4.trans s5)) ?_⟩
 ·grind
 ·show H5 b5=some (.tup ((Bm st p).map V.int));rw[h5];unfold Bm;grind
abbrev jT:Stmt:=top 31
def Lj:bD Gq Gq (aF jT):={}
def Ql:Int:=1000000000000000000000000000000
def WtV(K:aK)(H:Hp)(v:V)(o:Option (List Int)):Prop:=match o with
 |none=>v=.non
 |some ws=>∃a,v=.ref a/\bG K H a (ws.map V.int)
def ZP(m:Nat):Option (List Int)->Bool
 |none=>true
 |some ws=>decide (ws.length=m)&&ws.all λx=>decide (0<=x)&&decide (x<Ql)
def wtL(m:Nat):Option (List Int)->List Int
 |none=>List.replicate m 1
 |some ws=>ws
def btF:V->Option V
 |.int y=>some (.bl (oU Ql (some y)))
 |_=>none
theorem a1L:∀ws:List Int,(ws.map V.int).filterMap btF=(ws.map λy=>oU Ql (some y)).map V.bl
 | []=>rfl
 |x::r=>by
  rw[cL,NP (show btF (V.int x)=some (.bl (oU Ql (some x)))from Z),a1L r]
  rfl
def a04(x:Int):oU Ql (some x)=(decide (0<=x)&&decide (x<Ql)):=by
 unfold oU;grind
inductive ZQ(K:aK)(vs:List V)(H:Hp)(Q:VK)(u_3:XK):Prop
 |mk (m:Nat) (v:V) (o:Option (List Int)) (_:vs=[.int m,v]) (_:WtV K H v o) (_:m<=100) (_:(∀ws,o=some ws->ws.length<=200)) (_:ZP m o=true) (_:∀p H',aH H H'->H p=none->H' p=some (.lst ((wtL m o).map V.int))->Q (.ref p) H')
def vd(B:Bl mg)(Ct:Ų mg)(kE:GK K mg)(jL:Dn K mg "is_below" gA uJ)(sZ:Dn K mg "weights_of" jT Gq):bh P w K mg base gj 3 sZ.f sZ.fd Gq (ZQ K):=by
 have ķ:bh P w K mg base gj 2 _ _ _ _:=yg B kE jL;refine sZ.F.ok Lj λcZ A outer s H vs Q E hr h=>?_;obtain⟨m,v,o,rfl,hV,a6N,hw,ok,q⟩:=h;refine⟨_,(aA (dN (aJ UW (pv 1) oK)
   (aD (bI (jH ["k"] [none]  (by kernel_rfl) Z (jE Z B.range (J (pv 0) aj)) (λ_ _ _ _ _=>(aL 0 (show(["k"]:List Str).Nodup by decide))) (λ_ _ _ _ _=>gk) λ_ _ _ _ _=>aq)))
   bR)
   (aA (dN (PW.pt (zK (aJ FZ (bK (cQ (K:=K) Z) Z B.len (by decide) (J (pv 1) aj)) (pv 0)) (uR (wj (gw (K:=K) Z (bK (YT (K:=K) Z Z) Z B.all (by decide) (J (jH ["weight"] [none]  (by kernel_rfl) Z (cX (K:=K) Z (pv 1)) (λ_ _ _ _ _=>(aL 0 (show(["weight"]:List Str).Nodup by decide))) (λ_ _ _ _ _=>gk) λ_ _ _ _ _=>(bf ķ hr Z jL.m jL.F.kp jL.b .nil b8 (J (O8 (v:=.int 1000000000000000000000000000000) Z Ct.vL Ct.vM) (J (pv 0) aj)))) aj)) λ_=>rfl)))))
   (aD Ca)
   bR)
   (aD (bI (iC (wG (K:=K) Z) Z B.list (by decide) (J (pv 1) aj)))))),?_⟩
 cases o with
 |none =>
  obtain rfl:v=.non:=hV;refine⟨_,Z,Z,_,Z,gQ ?_⟩;refine⟨_,Z,_,Z,by omega,by omega,?_⟩;rw[jO];refine ο (λ_=>some (V.int 1)) (by omega) (λi H' N hi s1 hN=>hN H' s1) (λH1 p H2 s1 n2=>q p H2 (s1.trans n2.same) (s1.free n2.fresh) ?_);rw[n2.here];show some (HO.lst _)=some (HO.lst ((List.replicate m (1:Int)).map V.int));rw[Cr (f:=λ_=>some (V.int 1)) (g:=λ_=>V.int 1) (λ_ _=>rfl),List.map_const',zZ,List.map_replicate]
 |some ws =>
  obtain⟨a,rfl,hA⟩:=hV;have lw:=hw ws rfl;have ok':=ok;unfold ZP at ok';rw[oH,dY,IW]at ok';obtain⟨e1,e2⟩:=ok';refine⟨_,Z,Z,_,Z,cN ⟨_,Z,a,_,Z,.inl hA,_,Z,Z,_,Z,?_⟩⟩;rw[aN,e1,bO rfl];refine cN ⟨_,Z,a,Z,⟨_,hA⟩,Pr btF hA (by grind) (λx G5 N hx s5 hN5=>?_) λG5 p6 H6 s5 n6=>?_⟩
  ·obtain⟨y,hy,rfl⟩:=gn.mp hx;exact⟨_,Z,Ql,some y,Z,hN5 G5 s5⟩
  rw[a1L]at n6;refine⟨p6,_,_,Z,bG.of n6.here,oO.bls _,?_⟩;have e7:(ws.map λy=>oU Ql (some y)).all id=true:=by
   rw[List.all_map,IW];intro x hx;show oU Ql (some x)=true;rw[a04];exact e2 x hx
  rw[e7];refine⟨_,Z,cN ⟨_,Z,a,_,Z,.inl ((s5.trans n6.same).seq hA),λp8 H8 n8=>q p8 H8 (s5.trans (n6.same.trans n8.same)) ((s5.trans n6.same).free n8.fresh) n8.here⟩⟩
def fsQ(pg:Addr)(l u:V):List (Str×V):=[("graph",.ref pg),("leaf",l),("whole",u)]
inductive a05(K:aK)(C:Addr)(vs:List V)(H:Hp)(Q:VK)(u_3:XK):Prop
 |mk (d dx g t:Addr) (n:Nat) (xs:List V) (l u:V) (_:vs=[.ref d,.ref g,l,u]) (_:H d=some (.ins C dx [])) (_:cG K H g [.int n,.ref t]) (_:H t=some (.lst xs)) (_:xs.length<=1000) (_:∀pg pt H',Sd d H H'->H' d=some (.ins C dx (fsQ pg l u))->H' pg=some (.tup [.int n,.ref pt])->H' pt=some (.lst xs)->Q .non H')
def qJ(B:Bl mg)(cB:qI K mg){C:Addr}(cl:Cls K C)(fD:eO K C "graph")(iw:eO K C "leaf")(fV:eO K C "whole"):bh P w K mg base gj 1 cB.bN.f cB.bN.fd Xo (a05 K C):=by
 refine cB.bN.F.ok yq λcZ A outer s H vs Q E hr h=>?_;obtain⟨d,dx,g,t,n,xs,l,u,rfl,hd,hg,ht,lx,q⟩:=h;refine⟨_,(aA (Ao (pv 0) (bx (J (aQ (aM (K:=K) Z) (pv 1) aq) (J (iC (wG (K:=K) Z) Z B.list (by decide) (J (aQ (aM (K:=K) Z) (pv 1) aq) aj)) aj))) Z)
   (aA (Ao (pv 0) (pv 2) Z)
   (aD (Ao (pv 0) (pv 3) Z)))),?_⟩
 refine⟨_,Z,g,_,_,V.int n,Z,Z,hg,eV (j:=0) Z,_,Z,g,_,_,V.ref t,Z,Z,hg,eV (j:=1) Z,t,_,Z,.inl (bG.of ht),λpt H1 n1=>⟨(by show 2<=1000;decide),λpg H2 n2=>?_⟩⟩;have h2:=n2.same _ _ (n1.same _ _ hd);refine⟨_,Z,d,_,_,_,Z,h2,cl,fD,by decide,?_⟩;generalize hU1:cO H2 d _=U1;have u1:wF H2 d (.ins C dx (wz "graph" (.ref pg) [])) U1:=by rw[<-hU1];exact wF.oF
 refine⟨_,Z,_,Z,d,_,_,_,Z,u1.here,cl,iw,(by show 1<1000;decide),?_⟩;generalize hU2:cO U1 d _=U2;have u2:wF U1 d (.ins C dx (wz "leaf" l (wz "graph" (.ref pg) []))) U2:=by rw[<-hU2];exact wF.oF
 refine⟨_,Z,_,Z,d,_,_,_,Z,u2.here,cl,fV,(by show 2<1000;decide),?_⟩;generalize hU3:cO U2 d _=U3;have u3:wF U2 d (.ins C dx (fsQ pg l u)) U3:=by rw[<-hU3];exact wF.oF
 have sr:∀c,c≠d->U3 c=H2 c:=λc hc=>by rw[u3.rest _ hc,u2.rest _ hc,u1.rest _ hc]
 have dt:pt≠d:=λe=>by have:=n1.fresh;grind
 have dg:pg≠d:=λe=>by have:=n2.fresh;rw[e,n1.same _ _ hd]at this;cases this
 exact q pg pt U3 (λc o hc hh=>by rw[sr c hc];exact n2.same _ _ (n1.same _ _ hh)) u3.here (by rw[sr _ dg];exact n2.here) (by rw[sr _ dt];exact n2.same _ _ n1.here)
inductive Hi(K:aK)(C:Addr)(ex:List (Str×V))(n:Nat)(ts:List bA)(ws:List Int)(H:Hp)(d:Addr):Prop
 |mk (dx pg pt xs l u pw:_) (_:H d=some (.ins C dx (fsQ pg (.ref l) (.ref u)++(ex++[(("weights" : Str),V.ref pw)])))) (_:H pg=some (.tup [.int n,.ref pt])) (_:H pt=some (.lst xs)) (_:Paired (gR H) xs ts) (_:ts.length<=1000) (_:H l=some (.tup [])) (_:H u=some (.tup [])) (_:H pw=some (.lst (ws.map V.int)))
def Wc{H H':Hp}{v:V}{t:Int×Int}(k:rZ H H')(h:gR H v t):gR H' v t:=by
 obtain⟨p,e,h⟩:=h;exact⟨p,e,k _ _ h⟩
def Hi.keep{C:Addr}{ws:List Int}{H H':Hp}{d:Addr}(a:Nd H H')(h:Hi K C ex n ts ws H d):Hi K C ex n ts ws H' d:=by
 obtain⟨dx,pg,pt,xs,l,u,pw,h1,h2,h3,h4,h5,h6,h7,h8⟩:=h;exact⟨dx,pg,pt,xs,l,u,pw,a _ _ (λ_ z=>by cases z) (λ_ z=>by cases z) h1,a.tups _ _ h2,a.lst h3,Paired.bU h4 λ_ _ z=>Wc a.tups z,h5,a.tups _ _ h6,a.tups _ _ h7,a.lst h8⟩
def Hi.ins{K:aK}{C:Addr}{ex:List (Str×V)}{n:Nat}{ts:List bA}{ws:List Int}{H:Hp}{d:Addr}(hx:∀m,m∈(JG:List Str)->ex.lookup m=none)(h:Hi K C ex n ts ws H d):∃dx fs,H d=some (.ins C dx fs)/\(∀m,m∈(JG:List Str)->fs.lookup m=none)/\
  (∃a,fs.lookup ("leaf" : Str)=some (.ref a)/\uZ H a [])/\(∃a,fs.lookup ("whole" : Str)=some (.ref a)/\uZ H a [])/\∃g,fs.lookup ("graph" : Str)=some g/\uY K H g n ts:=by
 obtain⟨dx,pg,pt,xs,l,u,pw,h1,h2,h3,h4,h5,h6,h7,h8⟩:=h;refine⟨dx,_,h1,λm hm=>?_,⟨l,Z,h6⟩,⟨u,Z,h7⟩,.ref pg,Z,pg,pt,Z,cG.of h2,xs,bG.of h3,Paired.bU h4 λ_ _ ⟨p,e,h⟩=>⟨p,e,cG.of h⟩,h5⟩;have e:=hx m hm;have go:∀m∈(JG:List Str),(m==("graph" : Str))=false/\(m==("leaf" : Str))=false/\(m==("whole" : Str))=false/\(m==("weights" : Str))=false:=by decide
 obtain⟨g1,g2,g3,g4⟩:=go m hm;have lk:∀(l1 l2:List (Str×V)),l1.lookup m=none->(l1++l2).lookup m=l2.lookup m:=λl1 l2 h=>by
  grind
 have fq:(fsQ pg (.ref l) (.ref u)).lookup m=none:=by
  unfold fsQ;grind
 grind
def Hi.wts{C:Addr}{ws:List Int}{H:Hp}{d:Addr}(hx:ex.lookup ("weights" : Str)=none)(h:Hi K C ex n ts ws H d):∃dx fs pw,H d=some (.ins C dx fs)/\fs.lookup ("weights" : Str)=some (.ref pw)/\H pw=some (.lst (ws.map V.int)):=by
 obtain⟨dx,pg,pt,xs,l,u,pw,h1,h2,h3,h4,h5,h6,h7,h8⟩:=h;refine⟨dx,_,pw,h1,?_,h8⟩;show List.lookup _ (ex++_)=_;clear h1
 induction ex with
 |nil=>rfl
 |cons a l1 ih =>
  rw[IV]at hx;rw[List.cons_append,IV];cases c:("weights" : Str)==a.1 with
  |true=>rw[c]at hx;cases hx
  |false=>rw[c]at hx;exact ih hx
def fP(s:dD)(i:Nat):Int:=s.getD i 0
def Ŵ{s:dD}{i:Nat}(h:i<s.length):S8 (s.map V.int) (i:Int)=some (.int (fP s i)):=by
 refine eV ?_;rw[iW,bV h];unfold fP;grind
def vU(c:Int)(m:Nat)(s:dD):Prop:=s.length=m/\∀x∈s,0<=x/\x<c
def pqC(c:Nat)(ws:List Int):PQ Key where
 leaf:=[]
 whole:=[]
 bt:=λa b=>decide (a<b)
 sh:=wJ
 jn:=λs _=>[s]
 inn:=λs p _=>(List.range c).map λk:Nat=>(ou s p (k:Int),0)
 tie:=λs a b _=>if fP s a≠fP s b then [(s,0)]else []
 out:=λs p v=>[(Bm s p,ws.getD v 0*fP s p)]
 Ok:=vU (c:Int)
def pqA(ws:List Int):PQ Key where
 leaf:=[]
 whole:=[]
 bt:=λa b=>decide (b<a)
 sh:=wJ
 jn:=λs _=>[s]
 inn:=λs p _=>[(ou s p 0,0),(ou s p 1,0)]
 tie:=λs a b _=>if fP s a+fP s b<2 then [(s,0)]else []
 out:=λs p v=>[(Bm s p,ws.getD v 0*fP s p)]
 Ok:=vU 2
def rD(s:dD)(a b:Nat):dD:=(List.range s.length).map λk=>if k=a\/k=b then max (fP s k) 1 else fP s k
def pqW(ws:List Int):PQ Bool where
 leaf:=[]
 whole:=[]
 bt:=λa b=>decide (a<b)
 sh:=λs=>s.map λx=>decide (x=2)
 jn:=λs t=>[List.zipWith max s t]
 inn:=λs p _=>[(ou s p 0,0),(ou s p 2,0)]
 tie:=λs a b _=>if(fP s a=0/\fP s b=2)\/(fP s a=2/\fP s b=0)then [(rD s a b,0)]else [(s,0)]
 out:=λs p v=>if fP s p=0 then []else [(Bm s p,if fP s p=2 then ws.getD v 0 else 0)]
 Ok:=vU 3
theorem RZ{P:Program}{w:World}:∀s:dD,Paired (λv (x:Key)=>∀u,cP v u->(fU P w).is x u=true) (s.map V.int) (wJ s)
 | []=>.nil
 |i::s=>.cons (λu ⟨t,e⟩=>by rw[e,Ux];exact Oo i) (RZ s)
section
variable{C:Addr}{ws:List Int}
def ql{κ:Type} [DecidableEq κ] (d_:Dm K C "is_better" "Question.is_better" fB j5) (pq:PQ κ) (hb:pq.bt=λa b=>decide (a<b)) (At:Hp->Addr->Prop):bh P w K mg base gj 1 d_.f d_.fd j5 (JL pq At):=by
 refine d_.F.ok wY λcZ A outer s H vs Q E hr h=>?_;obtain⟨d,a,b,rfl,hD,q⟩:=h;refine⟨_,(aD (bI (sS xV (pv 1) (pv 2)))),?_⟩;rw[hb]at q;exact⟨_,Z,_,Z,_,_,Z,Z,q⟩
def Bo(d_:Dm K C "is_better" "Apart.is_better" j7 j5)(At:Hp->Addr->Prop):bh P w K mg base gj 1 d_.f d_.fd j5 (JL (pqA ws) At):=by
 refine d_.F.ok Bc λcZ A outer s H vs Q E hr h=>?_;obtain⟨d,a,b,rfl,hD,q⟩:=h;exact⟨_,(aD (bI (sS zL (pv 1) (pv 2)))),⟨_,Z,_,Z,_,_,Z,Z,q⟩⟩
def ur(d_:Dm K C "shared" "Question.shared" gM wO)(pq:PQ Key)(hs:pq.sh=wJ)(At:Hp->Addr->Prop):bh P w K mg base gj 1 d_.f d_.fd wO (JM (fU P w) pq At):=by
 refine d_.F.ok Ba λcZ A outer s H vs Q E hr h=>?_;obtain⟨d,a,m,st,rfl,hD,ha,ok,m5,q⟩:=h;refine⟨_,(aD (bI (pv 1))),?_⟩;exact⟨_,Z,q a H (aH.refl _) ⟨_,ha,by rw[hs];exact RZ st⟩⟩
def uw(d_:Dm K C "joined" "Question.joined" gO j5)(pq:PQ Key)(hj:pq.jn=λs _=>[s])(At:Hp->Addr->Prop):bh P w K mg base gj 1 d_.f d_.fd j5 (JN pq At):=by
 refine d_.F.ok Bb λcZ A outer s H vs Q E hr h=>?_;obtain⟨d,a,b,m,st,t,rfl,hD,ha,hb,ok,ok',m5,sh,q⟩:=h;refine⟨_,(aD (bI (cJ (J (pv 1) aj)))),?_⟩;refine⟨_,Z,(by show 1<=1000;decide),λp H1 n1=>q p _ H1 n1.same n1.here ?_⟩;rw[hj];exact .cons ⟨a,Z,ha.keep (.of n1.same)⟩ .nil
def Dg(B:Bl mg)(c4:c<=4)(cl:Cls K C)(nm:eO K C "many")(d_:Dm K C "put_in" "Colours.put_in" lY iB)(mJ:Dn K mg "with_number" fQ xZ):bh P w K mg base gj 2 d_.f d_.fd iB (XC (pqC c ws) (Hi K C [("many",.int c)] n ts ws)):=by
 have ł:bh P w K mg base gj 1 _ _ _ _:=uq mJ;refine d_.F.ok CW λcZ A outer s H vs Q E hr h=>?_;obtain⟨d,a,m,spot,v,st,rfl,hD,ha,ok,m4,sp,q⟩:=h;refine⟨_,(aD (bI (jH ["colour","state","spot"] [none,some 1,some 2]  (by kernel_rfl) Z (jE Z B.range (J (zj (K:=K) Z (pv 0) Z) aj)) (λ_ _ _ _ _=>(aL 0 (show(["colour","state","spot"]:List Str).Nodup by decide))) (λ_ _ _ _ _=>gk) λ_ _ _ _ _=>(bx (J (bf ł hr Z mJ.m mJ.F.kp mJ.b .nil b8 (J (pv 1) (J (pv 2) (J (pv 0) aj)))) (J aq aj)))))),?_⟩;have l1:st.length=m:=ok.1;obtain⟨dx,pg,pt,xs,l,u,pw,h1,_⟩:=id hD;refine⟨_,Z,d,C,dx,_,.int c,Z,h1,cl,nm,Z,_,Z,by omega,by omega,?_⟩;refine vy (n:=c) (λi ys G=>aH H G/\Paired (ŭ G) ys ((List.range i).map λk:Nat=>(ou st spot (k:Int),(0:Int)))) ⟨aH.refl _,.nil⟩ (λi ys G hi ⟨_,p⟩=>?_) (λi ys G hi ⟨sG,p⟩=>?_) (λys G ⟨sG,p⟩ pr hpr=>?_)
 ·rw[aY p,aN,zZ];exact dH (cC (by omega))
 ·rw[Int.zero_add];refine⟨_,Z,_,Z,_,Z,a,st,spot,(i:Int),Z,ha.keep (.of sG),by omega,by omega,λb G1 s1 hb=>⟨(by show 2<=1000;decide),λp2 G2 n2=>?_⟩⟩;have s12:=s1.trans n2.same;refine⟨sG.trans s12,?_⟩;rw[Af,dF];exact cV (Paired.bU p λ_ _ h=>h.keep (.of s12)) ⟨p2,b,Z,n2.here,hb.keep (.of n2.same)⟩
 ·have n3:=gV.oF (o:=.lst ys) hpr;exact q pr ys _ (sG.trans n3.same) n3.here (Paired.bU p λ_ _ h=>h.keep (.of n3.same))
def Hj(d_:Dm K C "tied" "Colours.tied" oX sI)(At:Hp->Addr->Prop)(Ti:Int×Int->Prop):bh P w K mg base gj 2 d_.f d_.fd sI (XF (pqC c ws) At Ti):=by
 refine d_.F.ok GX λcZ A outer s H vs Q E hr h=>?_;obtain⟨d,a,p,m,dG,aV,t,st,rfl,hD,ha,ok,m5,o1,o2,ne,ti,hp,q⟩:=h;have l1:st.length=m:=ok.1;refine⟨_,(aD (bI (oN (aJ FZ (aQ (aM (K:=K) Z) (pv 1) (pv 2)) (aQ (aM (K:=K) Z) (pv 1) (pv 3))) (cJ (J (bx (J (pv 1) (J aq aj))) aj)) (cJ aj)))),⟨_,Z,_,Z,a,_,_,_,Z,Z,cG.of ha,Ŵ (by omega),_,Z,_,Z,a,_,_,_,Z,Z,cG.of ha,Ŵ (by omega),Z,_,Z,?_⟩⟩;by_cases c1:fP st dG=fP st aV
 ·rw[bO (show V.int (fP st dG)=V.int (fP st aV) by rw[c1])];refine cN ⟨(by grind),λp1 H1 n1=>q p1 [] H1 n1.same n1.here ?_⟩;show Paired _ _ (if fP st dG≠fP st aV then [(st,(0:Int))]else []);rw[aB (λz=>z c1)];exact .nil
 ·rw[bJ (show ¬V.int (fP st dG)=V.int (fP st aV)from λz=>c1 (V.int.inj z))];refine gQ ⟨_,Z,(by grind),λp1 H1 n1=>⟨(by grind),λp2 H2 n2=>q p2 _ H2 (n1.same.trans n2.same) n2.here ?_⟩⟩;show Paired _ _ (if fP st dG≠fP st aV then [(st,(0:Int))]else []);rw[aG c1];exact .cons ⟨p1,a,Z,n2.same _ _ n1.here,ha.keep (.of (n1.same.trans n2.same))⟩ .nil
def yu(hC:c<=4)(cl:Cls K C)(nw:eO K C "weights")(lw:ws.length=n)(d_:Dm K C "taken_out" "Colours.taken_out" jz iB)(mK:Dn K mg "without_number" cY yc):bh P w K mg base gj 2 d_.f d_.fd iB (XD (pqC c ws) (Hi K C [("many",.int c)] n ts ws) (λv=>v<n)):=by
 have Ń:bh P w K mg base gj 1 _ _ _ _:=pN mK;refine d_.F.ok yr λcZ A outer s H vs Q E hr h=>?_;obtain⟨d,a,m,spot,v,st,rfl,hD,ha,ok,m5,sp,vn,q⟩:=h;have l1:st.length=m:=ok.1;refine⟨_,(aD (bI (cJ (J (bx (J (bf Ń hr Z mK.m mK.F.kp mK.b .nil b8 (J (pv 1) (J (pv 2) aj))) (J (bC uU (aQ (bQ (K:=K) Z) (zj (K:=K) Z (pv 0) Z) (pv 3)) (aQ (aM (K:=K) Z) (pv 1) (pv 2))) aj))) aj)))),?_⟩;obtain⟨dx,fs,pw,h1,hl,hw⟩:=hD.wts rfl;refine⟨_,Z,_,Z,a,st,spot,Z,ha,by omega,by omega,λb H1 s1 hb=>?_⟩;have ew:S8 (ws.map V.int) (v:Int)=some (.int (ws.getD v 0)):=by
  refine eV ?_;grind
 have bd : -(2^64)<fP st spot/\fP st spot<2^64:=by
  have hm:fP st spot∈st:=by
   unfold fP;grind
  have:=ok.2 _ hm;grind
 exact⟨_,Z,d,C,dx,fs,.ref pw,Z,s1 _ _ h1,cl,nw,hl,_,Z,pw,_,_,_,Z,Z,bG.of (s1 _ _ hw),ew,_,Z,_,Z,a,_,_,_,Z,Z,cG.of (s1 _ _ ha),Ŵ (by omega),_,_,Z,Z,.inr bd,(by grind),λp2 H2 n2=>⟨(by grind),λp3 H3 n3=>q p3 _ H3 (s1.trans (n2.same.trans n3.same)) n3.here (.cons ⟨p2,b,Z,n3.same _ _ n2.here,hb.keep (.of (n2.same.trans n3.same))⟩ .nil)⟩⟩
def Lk(d_:Dm K C "tied" "Apart.tied" sX sI)(At:Hp->Addr->Prop)(Ti:Int×Int->Prop):bh P w K mg base gj 2 d_.f d_.fd sI (XF (pqA ws) At Ti):=by
 refine d_.F.ok Lg λcZ A outer s H vs Q E hr h=>?_;obtain⟨d,a,p,m,dG,aV,t,st,rfl,hD,ha,ok,m5,o1,o2,ne,ti,hp,q⟩:=h;have l1:st.length=m:=ok.1;refine⟨_,(aD (bI (oN (aJ xV (bC dO (aQ (aM (K:=K) Z) (pv 1) (pv 2)) (aQ (aM (K:=K) Z) (pv 1) (pv 3))) aq) (cJ (J (bx (J (pv 1) (J aq aj))) aj)) (cJ aj)))),⟨_,Z,_,Z,a,_,_,_,Z,Z,cG.of ha,Ŵ (by omega),_,Z,_,Z,a,_,_,_,Z,Z,cG.of ha,Ŵ (by omega),_,_,Z,Z,_,_,Z,Z,_,Z,?_⟩⟩;by_cases c1:fP st dG+fP st aV<2
 ·rw[bO c1];refine gQ ⟨_,Z,(by grind),λp1 H1 n1=>⟨(by grind),λp2 H2 n2=>q p2 _ H2 (n1.same.trans n2.same) n2.here ?_⟩⟩;show Paired _ _ (if fP st dG+fP st aV<2 then [(st,(0:Int))]else []);rw[aG c1];exact .cons ⟨p1,a,Z,n2.same _ _ n1.here,ha.keep (.of (n1.same.trans n2.same))⟩ .nil
 ·rw[bJ c1];refine cN ⟨(by grind),λp1 H1 n1=>q p1 [] H1 n1.same n1.here ?_⟩;show Paired _ _ (if fP st dG+fP st aV<2 then [(st,(0:Int))]else []);rw[aB c1];exact .nil
def Bq(cl:Cls K C)(nw:eO K C "weights")(lw:ws.length=n)(d_:Dm K C "taken_out" "Apart.taken_out" j8 iB)(mK:Dn K mg "without_number" cY yc):bh P w K mg base gj 2 d_.f d_.fd iB (XD (pqA ws) (Hi K C [] n ts ws) (λv=>v<n)):=by
 have Ń:bh P w K mg base gj 1 _ _ _ _:=pN mK;refine d_.F.ok Bd λcZ A outer s H vs Q E hr h=>?_;obtain⟨d,a,m,spot,v,st,rfl,hD,ha,ok,m5,sp,vn,q⟩:=h;have l1:st.length=m:=ok.1;refine⟨_,(aD (bI (cJ (J (bx (J (bf Ń hr Z mK.m mK.F.kp mK.b .nil b8 (J (pv 1) (J (pv 2) aj))) (J (bC uU (aQ (bQ (K:=K) Z) (zj (K:=K) Z (pv 0) Z) (pv 3)) (aQ (aM (K:=K) Z) (pv 1) (pv 2))) aj))) aj)))),?_⟩;obtain⟨dx,fs,pw,h1,hl,hw⟩:=hD.wts rfl;refine⟨_,Z,_,Z,a,st,spot,Z,ha,by omega,by omega,λb H1 s1 hb=>?_⟩;have ew:S8 (ws.map V.int) (v:Int)=some (.int (ws.getD v 0)):=by
  refine eV ?_;grind
 have bd : -(2^64)<fP st spot/\fP st spot<2^64:=by
  have hm:fP st spot∈st:=by
   unfold fP;grind
  have:=ok.2 _ hm;omega
 exact⟨_,Z,d,C,dx,fs,.ref pw,Z,s1 _ _ h1,cl,nw,hl,_,Z,pw,_,_,_,Z,Z,bG.of (s1 _ _ hw),ew,_,Z,_,Z,a,_,_,_,Z,Z,cG.of (s1 _ _ ha),Ŵ (by omega),_,_,Z,Z,.inr bd,(by grind),λp2 H2 n2=>⟨(by grind),λp3 H3 n3=>q p3 _ H3 (s1.trans (n2.same.trans n3.same)) n3.here (.cons ⟨p2,b,Z,n3.same _ _ n2.here,hb.keep (.of (n2.same.trans n3.same))⟩ .nil)⟩⟩
def Hl(B:Bl mg)(d_:Dm K C "put_in" "Apart.put_in" oY iB)(mJ:Dn K mg "with_number" fQ xZ)(At:Hp->Addr->Prop):bh P w K mg base gj 2 d_.f d_.fd iB (XC (pqA ws) At):=by
 have ł:bh P w K mg base gj 1 _ _ _ _:=uq mJ;refine d_.F.ok GZ λcZ A outer s H vs Q E hr h=>?_;obtain⟨d,a,m,spot,v,st,rfl,hD,ha,ok,m4,sp,q⟩:=h;have l1:st.length=m:=ok.1;refine⟨_,(aD (bI (jH Xq [none,some 1,some 2]  (by kernel_rfl) Z (Cq (K:=K) Z (bx (J aq (J aq aj)))) (λ_ _ _ _ _=>(aL 0 (show(Xq:List Str).Nodup by decide))) (λ_ _ _ _ _=>gk) λ_ _ _ _ _=>(bx (J (bf ł hr Z mJ.m mJ.F.kp mJ.b .nil b8 (J (pv 1) (J (pv 2) (J (pv 0) aj)))) (J aq aj)))))),⟨(by grind),λpt H1 n1=>⟨pt,Z,⟨_,cG.of n1.here⟩,Qk (K:=K) (a:=pt) (xs:=[V.int 0,V.int 1]) (λi ys G=>aH H1 G/\Paired (ŭ G) ys ([(ou st spot 0,(0:Int)),(ou st spot 1,0)].take i)) ⟨aH.refl _,.nil⟩ (λi ys G hi ⟨sG,p⟩=>⟨cG.of (sG _ _ n1.here),?_⟩) (λi x ys G hx ⟨sG,p⟩=>?_) λys G ⟨sG,p⟩ pr hpr=>?_⟩⟩⟩
 ·rw[aY p,dZ];exact dH (cC (by show min i 2<=1000;omega))
 ·obtain⟨xx,rfl,e⟩:∃xx:Int,x=V.int xx/\[(ou st spot 0,(0:Int)),(ou st spot 1,0)].take (i+1)=[(ou st spot 0,(0:Int)),(ou st spot 1,0)].take i++[(ou st spot xx,0)]:=by
   rcases i with _|_|i
   ·cases hx;exact⟨0,Z,Z⟩
   ·cases hx;exact⟨1,Z,Z⟩
   ·cases hx
  refine⟨_,Z,_,Z,_,Z,a,st,spot,xx,Z,ha.keep (.of (n1.same.trans sG)),by omega,by omega,λb G1 s1 hb=>⟨(by show 2<=1000;decide),λp2 G2 n2=>?_⟩⟩;have s12:=s1.trans n2.same;refine⟨sG.trans s12,?_⟩;rw[e];exact cV (Paired.bU p λ_ _ h=>h.keep (.of s12)) ⟨p2,b,Z,n2.here,hb.keep (.of n2.same)⟩
 ·have n3:=gV.oF (o:=.lst ys) hpr;exact q pr ys _ (n1.same.trans (sG.trans n3.same)) n3.here (Paired.bU p λ_ _ h=>h.keep (.of n3.same))
def Ho(B:Bl mg)(d_:Dm K C "put_in" "Watch.put_in" pG iB)(mJ:Dn K mg "with_number" fQ xZ)(At:Hp->Addr->Prop):bh P w K mg base gj 2 d_.f d_.fd iB (XC (pqW ws) At):=by
 have ł:bh P w K mg base gj 1 _ _ _ _:=uq mJ;refine d_.F.ok Hg λcZ A outer s H vs Q E hr h=>?_;obtain⟨d,a,m,spot,v,st,rfl,hD,ha,ok,m4,sp,q⟩:=h;have l1:st.length=m:=ok.1;refine⟨_,(aD (bI (jH Xq [none,some 1,some 2]  (by kernel_rfl) Z (Cq (K:=K) Z (bx (J aq (J aq aj)))) (λ_ _ _ _ _=>(aL 0 (show(Xq:List Str).Nodup by decide))) (λ_ _ _ _ _=>gk) λ_ _ _ _ _=>(bx (J (bf ł hr Z mJ.m mJ.F.kp mJ.b .nil b8 (J (pv 1) (J (pv 2) (J (pv 0) aj)))) (J aq aj)))))),⟨(by grind),λpt H1 n1=>⟨pt,Z,⟨_,cG.of n1.here⟩,Qk (K:=K) (a:=pt) (xs:=[V.int 0,V.int 2]) (λi ys G=>aH H1 G/\Paired (ŭ G) ys ([(ou st spot 0,(0:Int)),(ou st spot 2,0)].take i)) ⟨aH.refl _,.nil⟩ (λi ys G hi ⟨sG,p⟩=>⟨cG.of (sG _ _ n1.here),?_⟩) (λi x ys G hx ⟨sG,p⟩=>?_) λys G ⟨sG,p⟩ pr hpr=>?_⟩⟩⟩
 ·rw[aY p,dZ];exact dH (cC (by show min i 2<=1000;omega))
 ·obtain⟨xx,rfl,e⟩:∃xx:Int,x=V.int xx/\[(ou st spot 0,(0:Int)),(ou st spot 2,0)].take (i+1)=[(ou st spot 0,(0:Int)),(ou st spot 2,0)].take i++[(ou st spot xx,0)]:=by
   rcases i with _|_|i
   ·cases hx;exact⟨0,Z,Z⟩
   ·cases hx;exact⟨2,Z,Z⟩
   ·cases hx
  refine⟨_,Z,_,Z,_,Z,a,st,spot,xx,Z,ha.keep (.of (n1.same.trans sG)),by omega,by omega,λb G1 s1 hb=>⟨(by show 2<=1000;decide),λp2 G2 n2=>?_⟩⟩;have s12:=s1.trans n2.same;refine⟨sG.trans s12,?_⟩;rw[e];exact cV (Paired.bU p λ_ _ h=>h.keep (.of s12)) ⟨p2,b,Z,n2.here,hb.keep (.of n2.same)⟩
 ·have n3:=gV.oF (o:=.lst ys) hpr;exact q pr ys _ (n1.same.trans (sG.trans n3.same)) n3.here (Paired.bU p λ_ _ h=>h.keep (.of n3.same))
def Br(cl:Cls K C)(nw:eO K C "weights")(lw:ws.length=n)(d_:Dm K C "taken_out" "Watch.taken_out" j9 iB)(mK:Dn K mg "without_number" cY yc):bh P w K mg base gj 2 d_.f d_.fd iB (XD (pqW ws) (Hi K C [] n ts ws) (λv=>v<n)):=by
 have Ń:bh P w K mg base gj 1 _ _ _ _:=pN mK;refine d_.F.ok Bf λcZ A outer s H vs Q E hr h=>?_;obtain⟨d,a,m,spot,v,st,rfl,hD,ha,ok,m5,sp,vn,q⟩:=h;have l1:st.length=m:=ok.1;refine⟨_,(aA (dN (aJ jb (aQ (aM (K:=K) Z) (pv 1) (pv 2)) aq)
   (aD (bI (cJ aj)))
   bR)
   (aD (bI (cJ (J (bx (J (bf Ń hr Z mK.m mK.F.kp mK.b .nil b8 (J (pv 1) (J (pv 2) aj))) (J (oN (aJ jb (aQ (aM (K:=K) Z) (pv 1) (pv 2)) aq) (aQ (bQ (K:=K) Z) (zj (K:=K) Z (pv 0) Z) (pv 3)) aq) aj))) aj))))),?_⟩
 obtain⟨dx,fs,pw,h1,hl,hw⟩:=hD.wts rfl;refine⟨_,Z,_,Z,a,_,_,_,Z,Z,cG.of ha,Ŵ (by omega),Z,_,Z,?_⟩;by_cases c0:fP st spot=0
 ·rw[bO (show V.int (fP st spot)=V.int 0 by rw[c0])];refine gQ ⟨(by grind),λp1 H1 n1=>q p1 [] H1 n1.same n1.here ?_⟩;show Paired _ _ (if fP st spot=0 then []else _);rw[aG c0];exact .nil
 rw[bJ (show ¬V.int (fP st spot)=V.int 0 from λz=>c0 (V.int.inj z))];refine cN ⟨_,Z,_,Z,a,st,spot,Z,ha,by omega,by omega,λb H1 s1 hb=>?_⟩;have ew:S8 (ws.map V.int) (v:Int)=some (.int (ws.getD v 0)):=by
  refine eV ?_;grind
 refine⟨_,Z,_,Z,a,_,_,_,Z,Z,cG.of (s1 _ _ ha),Ŵ (by omega),Z,_,Z,?_⟩;have fin:∀x:Int,x=(if fP st spot=2 then ws.getD v 0 else 0)->∀p2 H2,gV H1 p2 (.tup [.ref b,.int x]) H2->∀p3 H3,gV H2 p3 (.lst [.ref p2]) H3->Q (.ref p3) H3:=λx ex p2 H2 n2 p3 H3 n3=>by
  refine q p3 _ H3 (s1.trans (n2.same.trans n3.same)) n3.here ?_;show Paired _ _ (if fP st spot=0 then []else [(Bm st spot,if fP st spot=2 then ws.getD v 0 else 0)]);rw[aB c0,<-ex];exact .cons ⟨p2,b,Z,n3.same _ _ n2.here,hb.keep (.of (n2.same.trans n3.same))⟩ .nil
 by_cases c2:fP st spot=2
 ·rw[bO (show V.int (fP st spot)=V.int 2 by rw[c2])];exact gQ ⟨_,Z,d,C,dx,fs,.ref pw,Z,s1 _ _ h1,cl,nw,hl,_,Z,pw,_,_,_,Z,Z,bG.of (s1 _ _ hw),ew,(by grind),λp2 H2 n2=>⟨(by grind),λp3 H3 n3=>fin _ (by grind) p2 H2 n2 p3 H3 n3⟩⟩
 ·rw[bJ (show ¬V.int (fP st spot)=V.int 2 from λz=>c2 (V.int.inj z))];exact cN ⟨(by grind),λp2 H2 n2=>⟨(by grind),λp3 H3 n3=>fin _ (by grind) p2 H2 n2 p3 H3 n3⟩⟩
end
end K
namespace Te
open PyProof.Rows
open AutoSeq1 (wpAny_loadPart')
variable{Q:Value->Shared->Prop}
section
variable{prog:Program}{w:World}{A:Around}{E:Value->Shared->Prop}{s:Shared}{q t:Addr}{i:Nat}{ys:Array Value}
def nref(t:Addr):¬((Value.ref t==Value.none)=true):=dw
def more{y:Value}(hq:s.heap.IsTupleIter q t i)(ht:s.heap.IsTuple t ys)(hy:ys[i]?=some y)
  (k:∀g,g.IsTupleIter q t (i+1)->Heap.SameBut q s.heap g->Q y { s with heap:=g}):wpAny (model prog w) A (Builtin.SmallTypes.nextOf (.ref q)) Q E s:=by
 have ty:=hq.typeIs;obtain⟨oq,g1,g2,g3⟩:=hq;obtain⟨ot,g4,_,m,g5⟩:=ht;unfold Builtin.SmallTypes.nextOf;refine M (oG (name:=Str.ofString "__next__") ty Nu (gP Nu ty Ì ((show wpAny _ _ (field (.ref q) 0 >>= _) _ _ s from M (gq g1 g3 (x:=.ref t) Z ((show wpAny _ _ (if(Value.ref t==Value.none)=true then _ else _) _ _ s from ?_))))) (Ë _)));rw[aB (nref t)];refine(show wpAny _ _ (field (.ref q) 1 >>= _) _ _ s from M (gq g1 g3 (x:=.int i 0) Z ((show wpAny _ _ (seqItems? (.ref t) >>= _) _ _ s from M (oJ g4 g5 ?_)))));simp only[Int.toNat_natCast,hy];refine M (wpAny_setField g1 g3 (by simp) (ao ⟨y,Z,ao (k _ ⟨_,zR _ g1 (Obj.isFreed_of_fields (Obj.data_mapFields g3 _)),(Obj.cls_mapFields ..).trans g2,?_⟩ (rT ..))⟩));rw[Obj.data_mapFields g3];simp[rawInt]
def Qm(hh:A.handled=none)(hq:s.heap.IsTupleIter q t i)(ht:s.heap.IsTuple t ys)(hy:ys[i]?=none)
  (k:∀g e,Heap.ExtBut q s.heap g->(∃o,g.get? e=some o/\o.cls=.type "StopIteration")->E (.ref e) { s with heap:=g}):wpAny (model prog w) A (Builtin.SmallTypes.nextOf (.ref q)) Q E s:=by
 have ty:=hq.typeIs;obtain⟨oq,g1,g2,g3⟩:=hq;obtain⟨ot,g4,_,m,g5⟩:=ht;unfold Builtin.SmallTypes.nextOf;refine M (oG (name:=Str.ofString "__next__") ty Nu (gP Nu ty Ì ((show wpAny _ _ (field (.ref q) 0 >>= _) _ _ s from M (gq g1 g3 (x:=.ref t) Z ((show wpAny _ _ (if(Value.ref t==Value.none)=true then _ else _) _ _ s from ?_))))) (Ë _)));rw[aB (nref t)];refine(show wpAny _ _ (field (.ref q) 1 >>= _) _ _ s from M (gq g1 g3 (x:=.int i 0) Z ((show wpAny _ _ (seqItems? (.ref t) >>= _) _ _ s from M (oJ g4 g5 ?_)))));simp only[Int.toNat_natCast,hy];refine M (jY (M (wpAny_setField g1 g3 (by simp) (show wpAny _ _ (newExc (.type "StopIteration") [] >>= _) _ _ _ from M ?_))));simp only[newExc,newTuple];refine M (jU (M (m:=firstArgMember _ _) (Jf (a:=Value.none) (by first|rfl|(simp only[firstArgMember];rfl)) (jU ?_ (by size_fits)))) (by size_fits));simp only[raiseNew];refine M (Ow ?_);first
  |rw[show A.in1.handled=none from hh]
  |rw[hh]
 refine M (ao (O1 (k _ _ (((rT ..).extBut.push _).push _) ⟨_,bZ _ Z,Z⟩)))
def keepI{h h':Heap}(x:h.IsTupleIter q t i)(k:∀o,h.get? q=some o->h'.get? q=some o):h'.IsTupleIter q t i:=by
 obtain⟨o,e,r⟩:=x;exact⟨o,k o e,r⟩
def zN{h h':Heap}(x:h.IsTuple t ys)(k:∀o,h.get? t=some o->h'.get? t=some o):h'.IsTuple t ys:=by
 obtain⟨o,e,r⟩:=x;exact⟨o,k o e,r⟩
def draws(hh:A.handled=none)(q t:Addr)(ne:t≠q)(ys:Array Value):Draws prog w A q [q,t] ys.size (λj v=>ys[j]?=some v) (λj h=>h.IsTupleIter q t j/\h.IsTuple t ys) where
 live:=λ_ _ st=>by
  obtain⟨⟨o,e,_⟩,_⟩:=st
  exact⟨o,e⟩
 frame:=λ_ _ _ st k=>⟨keepI st.1 λo e=>k q (by simp) o e,zN st.2 λo e=>k t (by simp) o e⟩
 item:=λj s Q E lt st k=>more st.1 st.2 (y:=ys[j]) (by simp[lt]) λg hg sb=>k _ g s.toks (by simp[lt]) ⟨hg,zN st.2 λo e=>sb.extBut _ _ ne e⟩ sb
 done:=λs Q E st k=>Qm hh st.1 st.2 (by simp) k
end
set_option tactic.hygienic true in
def ń(t:Addr)(ys:Array Value)(m:Nat)(dct:Option Addr)(sl:Array (Option Value)) :
  Meets (Builtin.«enumerate.__new__» ⟨[.type "enumerate",.ref t],[]⟩) (λ_ R s=>s.heap.get? t=some { cls:=.type "tuple",dict:=dct,data:=.seq ys m,slots:=sl}/\
   R (.ok (.ret (.ref (s.heap.push { cls:=.type "tuple_iterator",data:=.fields #[.ref t,.int 0 0]}).objs.size))) { s with heap:=(s.heap.push { cls:=.type "tuple_iterator",data:=.fields #[.ref t,.int 0 0]}).push { cls:=.type "enumerate",data:=.fields #[.none,.bool false,.ref s.heap.objs.size,rawInt 0,.none,.none]}}) :=
 .of_wp λprog w A R s h=>by
  obtain⟨hp,g,d,tk,os⟩:=s;obtain⟨hl,h⟩:=h;have sub:=sub_enumerate;have hT:Heap.IsTuple (Shared.heap ⟨hp,g,d,tk,os⟩) t ys:=⟨_,hl,Z,m,Z⟩
  wp_walk using Uq hl
  refine wpAny_stack_any λst=>ao ?_;split
  ·rename_i c _ _ _ _ _;cases(c==Value.type "enumerate")<;>(wp_walk using Uq hl,Ec hT;exact⟨_,Z,h⟩)
  ·wp_walk using Uq hl,Ec hT
   exact⟨_,Z,h⟩
section
variable{prog:Program}{w:World}{A:Around}{E:Value->Shared->Prop}{s:Shared}
def ZR{t:Addr}{ys:Array Value}(hT:s.heap.IsTuple t ys)
  (h:∀g,IsEnum g (s.heap.objs.size+1) s.heap.objs.size 0 .none->g.IsTupleIter s.heap.objs.size t 0->(∀b o,s.heap.get? b=some o->g.get? b=some o)->Q (.ref (s.heap.objs.size+1)) { s with heap:=g}) :
  wpAny (model prog w) A (call (.type "enumerate") [.ref t]) Q E s:=by
 obtain⟨⟨c,dct,dt,sl⟩,hl,hc,n,hd⟩:=hT;replace hc:c=.type "tuple" := hc;replace hd:dt=.seq ys n:=hd;subst hc hd;refine callType_new PySem.F.called_enumerate (by decide) (PySem.F.typeCall_enumerate_1 _) (PySem.F.newCall_enumerate_1 _) (λobj=>PySem.F.args_object_init_2 obj _) PySem.F.entry_enumerate_new (ń t ys n dct sl) ⟨hl,?_⟩;have sz:(s.heap.push { cls:=.type "tuple_iterator",data:=.fields #[.ref t,.int 0 0]}).objs.size=s.heap.objs.size+1:=jW ..;show _/\_;rw[sz];have he:IsEnum ((s.heap.push { cls:=.type "tuple_iterator",data:=.fields #[.ref t,.int 0 0]}).push { cls:=.type "enumerate",data:=.fields #[.none,.bool false,.ref s.heap.objs.size,rawInt 0,.none,.none]}) (s.heap.objs.size+1) s.heap.objs.size 0 .none:=by
  have:=bZ (s.heap.push { cls:=.type "tuple_iterator",data:=.fields #[.ref t,.int 0 0]}) (o:={ cls:=.type "enumerate",data:=.fields #[.none,.bool false,.ref s.heap.objs.size,rawInt 0,.none,.none]}) rfl;grind
 exact⟨⟨_,he,Z⟩,h _ he ⟨_,bL _ (bZ _ Z),Z,Z⟩ λb o x=>bL _ (bL _ x)⟩
end
end Te
namespace L2
open PyProof.Rows
variable{K:aK}
def a3t(K:aK)(a:Addr):It :=
 ⟨λi H=>∃xs x,cG K H a xs/\xs[i]?=some x,λi H x H'=>∃p y,x=.ref p/\gV H p (.tup [.int i,y]) H'/\∀xs,cG K H a xs->xs[i]?=some y,λi H=>∃xs,cG K H a xs/\xs.length=i⟩
def M8{h:Heap}{a it:Addr}{ys:Array Value}{i:Nat}(ht:h.IsTuple a ys)(hi:h.IsTupleIter it a i):a≠it:=λz=>by
 obtain⟨o,e,c,_⟩:=ht;obtain⟨o',e',c',_⟩:=hi;grind
def Wd{P:Program}{w:World}{elts:List Expr}{k:Nat}{pos:Pos}(a it e:Addr)(hei:e≠it):Turn P w K (.Tuple elts k pos) (a3t K a) [e,it] e (λi h=>(∃old,IsEnum h e it i old)/\h.IsTupleIter it a i) where
 mem:=by simp
 obj:=λi h st b hb=>by
  obtain⟨⟨old,he⟩,hit⟩:=st
  rcases cH.mp hb with rfl|hb
  ·grind
  ·rw[bw.mp hb]
   obtain⟨o,e1,c,d⟩:=hit
   grind
 keep:=λi h h' st kk=>by
  obtain⟨⟨old,he⟩,hit⟩:=st
  exact⟨⟨old,kk e (by simp) _ he⟩,Te.keepI hit λo q=>kk it (by simp) o q⟩
 item:=by
  intro X hP hw hK hc i Y s σ H E I hf st hg
  subst hP hw hK
  obtain⟨xs,x,hq,hx⟩:=hg
  obtain⟨cg,rv,pl,hz⟩:=I.tuple hq
  have pl:s.heap.IsTuple a cg.toArray:=pl
  obtain⟨u,hu,ru⟩:=rv.get hx
  obtain⟨⟨old,he⟩,hit⟩:=st
  have hlt:i<cg.toArray.size:=by
   grind
  have hea:e≠a:=λz=>by
   obtain⟨o,e1,c,_⟩:=pl
   grind
  refine wpAny_pyNext_enum_itemD (Te.draws (show X.A.in1.handled=none from I.ok.hd hc) it a (M8 pl hit) cg.toArray) he ⟨hit,pl⟩ hlt hei (by grind) λu' h' tk hu' ho hst hT hsz hk=>?_
  have eu:u'=u:=by
   grind
  subst eu
  refine⟨_,Z,Ò ho λh2 he2 hs2=>?_⟩
  have eT:s.heap.objs.size≠e:=gG (aX he)
  have iT:s.heap.objs.size≠it:=by
   obtain⟨o,e1,_⟩:=hit
   exact gG (aX e1)
  have hT2:h2.get? s.heap.objs.size=some { cls:=.type "tuple",data:=.seq #[.int i tk,u']}:=(hs2.2 _ eT).trans hT
  have kp:∀b o,b∉[e,it]->s.heap.get? b=some o->h2.get? b=some o:=λb o hb q=>by
   simp only[List.mem_cons,List.not_mem_nil,or_false,not_or]at hb
   exact(hs2.2 b hb.1).trans (hk b o hb.1 hb.2 q)
  have I1:bH X Y σ H { s with heap:=h2,toks:=tk+1}:=(zf I [e,it] (λc hc=>hf c hc) kp).tok (tk+1)
  have hfree:H s.heap.objs.size=none:=I.hok.fresh (aO _)
  have I2:bH X Y σ (cO H s.heap.objs.size (.tup [.int i,x])) { s with heap:=h2,toks:=tk+1}:=by
   refine bH.track I1 hfree I.sz (gG I.lt) (λy c q=>?_) (λp hp=>cu (aX (I.pin p hp).1)) ⟨(by show 2<=sizeLine;decide),[.int i tk,u'],.cons ⟨_,Z⟩ (.cons ru .nil),⟨_,hT2,Z,_,Z⟩⟩
   obtain⟨v,oc,q1,_⟩:=I.cell y c q
   grind
  refine⟨.ref s.heap.objs.size,_,I2,Z,⟨_,x,Z,gV.oF hfree,λys hy=>by rw[I.yW hy hq];exact hx⟩,⟨⟨u',?_⟩,Te.keepI hst.1 λo q=>(hs2.2 it (Ne.symm hei)).trans q⟩,λb hb=>?_⟩
  ·grind
  ·have f0:=(hf b hb).1
   rw[aZ ?_]
   ·exact f0
   grind
 done:=by
  intro X hP hw hK hc i Y s σ H E I hf st hg
  subst hP hw hK
  obtain⟨xs,hq,hx⟩:=hg
  obtain⟨cg,rv,pl,hz⟩:=I.tuple hq
  have pl:s.heap.IsTuple a cg.toArray:=pl
  obtain⟨⟨old,he⟩,hit⟩:=st
  obtain⟨g0,g1,g2,g3,g4,g5⟩:=hf it (by simp)
  have hl:cg.toArray.size=i:=by rw[iG,<-hx];exact rv.length.symm
  exact wpAny_pyNext_enum_endD (Te.draws (show X.A.in1.handled=none from I.ok.hd hc) it a (M8 pl hit) cg.toArray) he ⟨by grind,pl⟩ λh' eb=>⟨Z,I.turned (t':=s.toks) (λb o hb q=>eb b o hb q) g0 g1 g3 g4 g5⟩
 self:=λ_ _ _ _ _ st h=>by
  obtain⟨⟨old,he⟩,_⟩:=st
  exact Og he h
section
variable{X:Cx}
def a3u(K:aK)(ta:TA):TI:=λσ H R=>ta σ H λvs H1=>∃a,vs=[.ref a]/\(∃xs,cG K H1 a xs)/\R (a3t K a) H1
def Ņ{elts:List Expr}{k:Nat}{tpos:Pos}{l:Expr}{ta:TA}{p pos:Pos}(e0:X.K=K)(hg:Gl X "enumerate")(hm:X.mg "enumerate" = none)(ha:PA X [l] ta)(hs:starEach [l] X.env=[(false,eval l X.env)]:=by rfl) :
  PI X (.Tuple elts k tpos) (.Call (.Name "enumerate" p) [l] [] pos) (a3u K ta):=by
 subst e0;intro Y s σ H R I h;refine xG (v5 I hg hm boot_enumerate (zP (jK (ha pos Y s σ H _ I h) λus s1 ⟨vs,H1,I1,r1,q1⟩=>?_) hs (by rfl)));obtain⟨a,e,⟨xs,hq⟩,q⟩:=q1;subst e;obtain⟨u,rfl,ru⟩:=vals1 r1;cases ru;obtain⟨cg,rv,pl,hz⟩:=I1.tuple hq;refine Te.ZR (show s1.heap.IsTuple a cg.toArray from pl) λh' he hit hk=>Og he ?_;have I2:bH X Y σ H1 { s1 with heap:=h'}:=I1.kept (t':=s1.toks) hk;refine⟨s1.heap.objs.size+1,[s1.heap.objs.size+1,s1.heap.objs.size],_,_,H1,Z,I2,Wd a s1.heap.objs.size (s1.heap.objs.size+1) (gG (Ac _)),⟨⟨_,he⟩,hit⟩,λb hb=>?_,q⟩;have hb':s1.heap.objs.size<=b:=by
  grind
 exact I1.Jk hb' (I1.hok.fresh hb')
end
def ņ{a:Addr}{xs:List V}{ix:List (Option Nat)}{g:TG}{tt:TT}{te:TE}{σ:St}{H1:Hp}{Q:VK}(Pv:Nat->List V->Hp->Prop)(h0:Pv 0 [] H1)(hl:∀i ys H,i<=xs.length->Pv i ys H->cG K H a xs/\ys.length<=sizeLine)
  (hs:∀(i:Nat) x ys H p H0,xs[i]?=some x->Pv i ys H->gV H p (.tup [.int i,x]) H0->g (.ref p) (qd ix σ) H0 λσ2 H2=>tt σ2 H2 λb H3=>if b=true then te σ2 H3 λv H4=>Pv (i+1) (ys++[v]) H4 else Pv (i+1) ys H3)
  (hd:∀ys H,Pv xs.length ys H->∀p,H p=none->Q (.ref p) (cO H p (.lst ys))):lC ix g tt te σ H1 Q (a3t K a):=by
 refine⟨λi m ys H=>m=xs.length-i/\i<=xs.length/\Pv i ys H,⟨xs.length,by simp,dI _,h0⟩,?_⟩;rintro i m ys H ⟨rfl,hi,p⟩;obtain⟨q,z⟩:=hl i ys H hi p;by_cases hlt:i<xs.length
 ·refine .inr ⟨⟨xs,xs[i],q,by simp[hlt]⟩,z,Pv (i+1),λys' H' p'=>⟨xs.length-(i+1),by omega,Z,hlt,p'⟩,λx H' y=>?_⟩;obtain⟨pp,y0,rfl,nw,ex⟩:=y;exact hs i y0 ys H pp H' (ex xs q) p nw
 ·have e:i=xs.length:=by omega
  subst e;exact .inl ⟨⟨xs,q,Z⟩,z,hd ys H p⟩
end L2
namespace Tz
open PyProof.Rows
variable{a z I Z96 b i1 i2:Addr}{f0 f1 x:Value}{k:Nat}{xs ys:Array Value}{Q:Value->Shared->Prop}
abbrev Zo(h:Heap)(z I Z96:Addr)(f0 f1:Value):Prop:=h.get? z=some { cls:=.type "zip",dict:=none,data:=.fields #[f0,f1,.bool false,.ref I,.ref Z96],slots:=#[]}
abbrev Po(h:Heap)(T:Addr)(a b:Value):Prop:=h.get? T=some { cls:=.type "tuple",data:=.seq #[a,b]}
section
variable{Z98:Model}{prog:Program}{w:World}{A:Around}{E:Value->Shared->Prop}{s:Shared}
def alive{Q:Option Obj->Shared->Prop}(h:Q (s.heap.get? a) s):wpAny Z98 A (loadIfAlive a) Q E s:=λ_ _ _=>h
def X6{Q:Bool->Shared->Prop}(hz:Zo s.heap z I Z96 f0 f1)(hf:f0=.none\/∃T:Nat,f0=rawInt (T:Int))(yes:Q true s)(no:∀g b,Zo g z I Z96 f0 b->Heap.SameBut z s.heap g->Q false { s with heap:=g}) :
  wpAny (model prog w) A (Builtin.SmallTypes.ownedTupleIsFree (.ref z)) Q E s:=by
 unfold Builtin.SmallTypes.ownedTupleIsFree;refine M (gq hz Z (x:=f0) Z ?_);rcases hf with rfl|⟨T,rfl⟩
 ·exact ao yes
 ·show wpAny _ _ (loadIfAlive _ >>= _) _ _ s;refine M (alive ?_);cases c:s.heap.get? ((T:Int).toNat)with
  |none=>exact ao yes
  |some o =>
   show wpAny _ _ (field (.ref z) 1 >>= _) _ _ s;refine M (gq hz Z (x:=f1) Z ?_);by_cases e:(f1 != Value.bool true)=true
   ·rw[aG e];refine M (iV hz (by simp) λg hg sb=>ao (no g _ hg sb))
   ·rw[aB e];exact M (ao (ao (no s.heap f1 hz ⟨Z,λ_ _=>rfl⟩)))
def Fr0(f0:Value):Prop:=f0=.none\/∃T:Nat,f0=rawInt (T:Int)
def X7{T:Addr}{a b:Value}{Q:Unit->Shared->Prop}(hT:Po s.heap T a b)
  (h:∀g,g.get? T=some { cls:=.type "tuple",data:=.seq ((#[a,b]:Array Value).setIfInBounds k x)}->Heap.SameBut T s.heap g->Q () { s with heap:=g}):wpAny (model prog w) A (updateSeq T (·.setIfInBounds k x)) Q E s:=wpAny_updateSeq_pair hT h
def item{y c d:Value}(D:ZipApart z I Z96 i1 i2 a b)(hz:Zo s.heap z I Z96 f0 f1)(hf:Fr0 f0)(hI:Po s.heap I (.ref i1) (.ref i2))(hO:Po s.heap Z96 c d)
  (h1:s.heap.IsTupleIter i1 a k) (h2:s.heap.IsTupleIter i2 b k) (t1:s.heap.IsTuple a xs) (t2:s.heap.IsTuple b ys) (hx:xs[k]?=some x) (hy:ys[k]?=some y)
  (hQ:∀g,(∃e0 e1,Zo g z I Z96 e0 e1/\Fr0 e0)->(∃c d,Po g Z96 c d)->g.IsTupleIter i1 a (k+1)->g.IsTupleIter i2 b (k+1)->Po g s.heap.objs.size x y->(∀c o,c≠z->c≠Z96->c≠i1->c≠i2->s.heap.get? c=some o->g.get? c=some o)->Q (.ref s.heap.objs.size) { s with heap:=g}) :
  wpAny (model prog w) A (Builtin.«zip.__next__» ⟨[.ref z],[]⟩) (λfin s'=>∃v,fin=.done (.ret v)/\Q v s') E s:=by
 refine(show wpAny _ _ (field (.ref z) 2 >>= _) _ _ _ from M (gq hz Z (x:=.bool false) Z ((show wpAny _ _ (field (.ref z) 3 >>= _) _ _ _ from M (gq hz Z (x:=.ref I) Z (M (oJ hI Z ((show wpAny _ _ (Builtin.SmallTypes.ownedTupleIsFree (.ref z) >>= _) _ _ _ from M (X6 hz hf ?_ λg0 b0 hz0 sb0=>?_))))))))))
 ·simp only[if_true];refine M (jY (M (gq hz Z (x:=.ref Z96) Z (M (iV hz (by simp) λg1 hz1 Ew=>M ?_)))));replace hz1:Zo g1 z I Z96 .ellipsis f1:=hz1;simp only[List.zipIdx_cons,List.zipIdx_nil,List.forIn_cons,List.forIn_nil];refine M (M (Ai ((show wpAny _ _ (Builtin.SmallTypes.nextOf (.ref i1) >>= _) _ _ _ from M (Te.more (Te.keepI h1 λo e=>Ew.extBut _ _ D.i1z e) (Te.zN t1 λo e=>Ew.extBut _ _ D.l1z e) hx λg2 k1 Rh=>ao ?_)))));have hO2:Po g2 Z96 c d:=Rh.extBut _ _ D.TOi1 (Ew.extBut _ _ D.TOz hO);refine M (oJ hO2 Z (M (X7 hO2 λg3 hO3 Y8=>M (xQ (ao (M (M (Ai ?_))))))));replace hO3:Po g3 Z96 x d:=hO3;have st:∀c' o,c'≠z->c'≠i1->c'≠Z96->s.heap.get? c'=some o->g3.get? c'=some o:=λc' o n1 n2 n3 e=>Y8.extBut _ _ n3 (Rh.extBut _ _ n2 (Ew.extBut _ _ n1 e));refine(show wpAny _ _ (Builtin.SmallTypes.nextOf (.ref i2) >>= _) _ _ _ from M (Te.more (Te.keepI h2 λo e=>st _ _ D.i2z D.i12.symm D.TOi2.symm e) (Te.zN t2 λo e=>st _ _ D.l2z D.l2i1 D.l2TO e) hy λg4 k2 Ň=>ao ?_));have hO4:Po g4 Z96 x d:=Ň.extBut _ _ D.TOi2 hO3;refine M (oJ hO4 Z (M (X7 hO4 λg5 hO5 sb5=>M (xQ (ao (ao ?_))))));replace hO5:Po g5 Z96 x y:=hO5;refine M (oJ hO5 Z (M (Jb ?_)));have sz:g5.objs.size=s.heap.objs.size:=by rw[sb5.1,Ň.1,Y8.1,Rh.1,Ew.1]
  have hz5:Zo g5 z I Z96 .ellipsis f1:=sb5.extBut _ _ D.TOz.symm (Ň.extBut _ _ D.i2z.symm (Y8.extBut _ _ D.TOz.symm (Rh.extBut _ _ D.i1z.symm hz1)));have st5:∀c' o,c'≠z->c'≠Z96->c'≠i1->c'≠i2->s.heap.get? c'=some o->g5.get? c'=some o:=λc' o n1 n2 n3 n4 e=>sb5.extBut _ _ n2 (Ň.extBut _ _ n4 (st c' o n1 n3 n2 e));have k1':g5.IsTupleIter i1 a (k+1):=Te.keepI k1 λo e=>sb5.extBut _ _ D.TOi1.symm (Ň.extBut _ _ D.i12 (Y8.extBut _ _ D.TOi1.symm e));have k2':g5.IsTupleIter i2 b (k+1):=Te.keepI k2 λo e=>sb5.extBut _ _ D.TOi2.symm e;have zl:z<g5.objs.size:=aX hz5;refine(show wpAny _ _ (Builtin.SmallTypes.ownedTupleHandOut (.ref z) (.ref g5.objs.size) >>= _) _ _ _ from M ?_);unfold Builtin.SmallTypes.ownedTupleHandOut;have hz6:Zo (g5.push { cls:=.type "tuple",data:=.seq #[x,y]}) z I Z96 .ellipsis f1:=bL _ hz5;refine M (iV hz6 (by simp) λg7 hz7 sb7=>?_);replace hz7:Zo g7 z I Z96 (rawInt g5.objs.size) f1:=hz7;refine iV hz7 (by simp) λg8 hz8 sb8=>?_;replace hz8:Zo g8 z I Z96 (rawInt g5.objs.size) (.bool false):=hz8;have up:∀c' o,c'≠z->g5.get? c'=some o->g8.get? c'=some o:=λc' o n1 e=>sb8.extBut _ _ n1 (sb7.extBut _ _ n1 (bL _ e));have hT8:Po g8 g5.objs.size x y:=sb8.extBut _ _ (gG zl) (sb7.extBut _ _ (gG zl) (bZ _ Z));refine ao ⟨_,Z,?_⟩;show Q (.ref g5.objs.size) _;rw[sz]at hT8 ⊢;exact hQ g8 ⟨_,_,hz8,.inr ⟨_,Z⟩⟩ ⟨_,_,up _ _ D.TOz hO5⟩ (Te.keepI k1' λo e=>up _ o D.i1z e) (Te.keepI k2' λo e=>up _ o D.i2z e) hT8 λc' o n1 n2 n3 n4 e=>up c' o n1 (st5 c' o n1 n2 n3 n4 e)
 ·rw[aB dw];refine(show wpAny _ _ (forIn (#[Value.ref i1,Value.ref i2]:Array Value) _ _ >>= _) _ _ _ from ?_);rw[<-Ua];simp only[List.forIn_cons,List.forIn_nil];refine M (M (M (ig ((show wpAny _ _ (Builtin.SmallTypes.nextOf (.ref i1) >>= _) _ _ _ from M (Te.more (Te.keepI h1 λo e=>sb0.extBut _ _ D.i1z e) (Te.zN t1 λo e=>sb0.extBut _ _ D.l1z e) hx λg2 k1 Rh=>ao (ao (M (M (ig ?_))))))))));have st:∀c' o,c'≠z->c'≠i1->s.heap.get? c'=some o->g2.get? c'=some o:=λc' o n1 n2 e=>Rh.extBut _ _ n2 (sb0.extBut _ _ n1 e);refine(show wpAny _ _ (Builtin.SmallTypes.nextOf (.ref i2) >>= _) _ _ _ from M (Te.more (Te.keepI h2 λo e=>st _ _ D.i2z D.i12.symm e) (Te.zN t2 λo e=>st _ _ D.l2z D.l2i1 e) hy λg4 k2 Ň=>ao (ao (ao ?_))));refine M (Jb ?_ (show 2<=sizeLine by decide));have sz:g4.objs.size=s.heap.objs.size:=by rw[Ň.1,Rh.1,sb0.1]
  have hz4:Zo g4 z I Z96 f0 b0:=Ň.extBut _ _ D.i2z.symm (Rh.extBut _ _ D.i1z.symm hz0);have hO4:Po g4 Z96 c d:=Ň.extBut _ _ D.TOi2 (st _ _ D.TOz D.TOi1 hO);have k1':g4.IsTupleIter i1 a (k+1):=Te.keepI k1 λo e=>Ň.extBut _ _ D.i12 e;have up:∀c' o,g4.get? c'=some o->(g4.push { cls:=.type "tuple",data:=.seq #[x,y]}).get? c'=some o:=λc' o e=>bL _ e;have hT:Po (g4.push { cls:=.type "tuple",data:=.seq #[x,y]}) g4.objs.size x y:=bZ _ rfl;refine ao ⟨_,Z,?_⟩;show Q (.ref g4.objs.size) _;rw[sz]at hT ⊢;exact hQ _ ⟨_,_,up _ _ hz4,hf⟩ ⟨_,_,up _ _ hO4⟩ (Te.keepI k1' λo e=>up _ o e) (Te.keepI k2 λo e=>up _ o e) hT λc' o n1 n2 n3 n4 e=>up c' o (Ň.extBut _ _ n4 (st c' o n1 n3 e))
def ended{Q:Fin->Shared->Prop}(hh:A.handled=none)(D:ZipApart z I Z96 i1 i2 a b)(hz:Zo s.heap z I Z96 f0 f1)(hf:Fr0 f0)(hI:Po s.heap I (.ref i1) (.ref i2))
  (h1:s.heap.IsTupleIter i1 a k) (t1:s.heap.IsTuple a xs) (hx:xs[k]?=none)
  (hE:∀g e,(∀c o,c≠z->c≠Z96->c≠i1->c≠i2->s.heap.get? c=some o->g.get? c=some o)->(∃o,g.get? e=some o/\o.cls=.type "StopIteration")->E (.ref e) { s with heap:=g}) :
  wpAny (model prog w) A (Builtin.«zip.__next__» ⟨[.ref z],[]⟩) Q E s:=by
 refine(show wpAny _ _ (field (.ref z) 2 >>= _) _ _ _ from M (gq hz Z (x:=.bool false) Z ((show wpAny _ _ (field (.ref z) 3 >>= _) _ _ _ from M (gq hz Z (x:=.ref I) Z (M (oJ hI Z ((show wpAny _ _ (Builtin.SmallTypes.ownedTupleIsFree (.ref z) >>= _) _ _ _ from M (X6 hz hf ?_ λg0 b0 hz0 sb0=>?_))))))))))
 ·simp only[if_true];refine M (jY (M (gq hz Z (x:=.ref Z96) Z (M (iV hz (by simp) λg1 hz1 Ew=>M ?_)))));replace hz1:Zo g1 z I Z96 .ellipsis f1:=hz1;simp only[List.zipIdx_cons,List.zipIdx_nil,List.forIn_cons,List.forIn_nil];refine M (M (Ai ((show wpAny _ _ (Builtin.SmallTypes.nextOf (.ref i1) >>= _) _ _ _ from M (Te.Qm hh (Te.keepI h1 λo e=>Ew.extBut _ _ D.i1z e) (Te.zN t1 λo e=>Ew.extBut _ _ D.l1z e) hx λg2 e2 Rh st2=>?_)))));obtain⟨oe,hoe,hce⟩:=st2;have hz2:Zo g2 z I Z96 .ellipsis f1:=Rh _ _ D.i1z.symm hz1;have nez:e2≠z:=λv=>by
   grind
  exact iV hz2 (by simp) λg3 _ Y8=>hE g3 e2 (λc' o n1 _ n3 _ v=>Y8.extBut _ _ n1 (Rh _ _ n3 (Ew.extBut _ _ n1 v))) ⟨oe,Y8.extBut _ _ nez hoe,hce⟩
 ·rw[aB dw];refine(show wpAny _ _ (forIn (#[Value.ref i1,Value.ref i2]:Array Value) _ _ >>= _) _ _ _ from ?_);rw[<-Ua];simp only[List.forIn_cons,List.forIn_nil];exact M (M (M (ig ((show wpAny _ _ (Builtin.SmallTypes.nextOf (.ref i1) >>= _) _ _ _ from M (Te.Qm hh (Te.keepI h1 λo e=>sb0.extBut _ _ D.i1z e) (Te.zN t1 λo e=>sb0.extBut _ _ D.l1z e) hx λg2 e2 Rh st2=>hE g2 e2 (λc' o n1 _ n3 _ v=>Rh _ _ n3 (sb0.extBut _ _ n1 v)) st2))))))
def next_item{y c d:Value}{Q:Option Value->Shared->Prop}(D:ZipApart z I Z96 i1 i2 a b)(hz:Zo s.heap z I Z96 f0 f1)(hf:Fr0 f0)(hI:Po s.heap I (.ref i1) (.ref i2))(hO:Po s.heap Z96 c d)
  (h1:s.heap.IsTupleIter i1 a k) (h2:s.heap.IsTupleIter i2 b k) (t1:s.heap.IsTuple a xs) (t2:s.heap.IsTuple b ys) (hx:xs[k]?=some x) (hy:ys[k]?=some y)
  (hQ:∀g,(∃e0 e1,Zo g z I Z96 e0 e1/\Fr0 e0)->(∃c d,Po g Z96 c d)->g.IsTupleIter i1 a (k+1)->g.IsTupleIter i2 b (k+1)->Po g s.heap.objs.size x y->(∀c o,c≠z->c≠Z96->c≠i1->c≠i2->s.heap.get? c=some o->g.get? c=some o)->Q (some (.ref s.heap.objs.size)) { s with heap:=g}) :
  wpAny (model prog w) A (pyNext (.ref z)) Q E s:=by
 have ty:s.TypeIs (.ref z) "zip" :=⟨_,hz,Z⟩;unfold pyNext;exact M (tU (oG (name:=Str.ofString "__next__") ty Ob (gP Ob ty PySem.F.entry_zip_next (item D hz hf hI hO h1 h2 t1 t2 hx hy λg a1 a2 a3 a4 a5 a6=>ao (hQ g a1 a2 a3 a4 a5 a6)) (PySem.F.args_zip_next_1 _))))
def next_end{Q:Option Value->Shared->Prop}(hh:A.handled=none)(D:ZipApart z I Z96 i1 i2 a b)(hz:Zo s.heap z I Z96 f0 f1)(hf:Fr0 f0)(hI:Po s.heap I (.ref i1) (.ref i2))
  (h1:s.heap.IsTupleIter i1 a k) (t1:s.heap.IsTuple a xs) (hx:xs[k]?=none) (hQ:∀g,(∀c o,c≠z->c≠Z96->c≠i1->c≠i2->s.heap.get? c=some o->g.get? c=some o)->Q none { s with heap:=g}):wpAny (model prog w) A (pyNext (.ref z)) Q E s:=by
 have ty:s.TypeIs (.ref z) "zip" :=⟨_,hz,Z⟩;unfold pyNext;refine M (tU (oG (name:=Str.ofString "__next__") ty Ob (gP Ob ty PySem.F.entry_zip_next (ended hh D hz hf hI h1 t1 hx λg e fr st=>?_) (PySem.F.args_zip_next_1 _))));obtain⟨o,ho,hc⟩:=st;exact M (xK (T:="StopIteration") (b:=true) ⟨o,ho,hc⟩ Jc (ao (hQ _ fr)))
def M9(hz:Zo s.heap z I Z96 f0 f1)(h:Q (.ref z) s):wpAny (model prog w) A (pyIter (.ref z)) Q E s:=by
 have ty:s.TypeIs (.ref z) "zip" :=⟨_,hz,Z⟩;exact IK ty PySem.F.slot_zip_iter (gP PySem.F.slot_zip_iter ty PySem.F.entry_zip_iter (show wpAny _ _ (ret (.ref z)) _ _ s from ao ⟨_,Z,"zip",_,ty,PySem.F.slot_zip_next.lookup,h⟩) (PySem.F.args_zip_iter_1 _))
end
abbrev z1(h:Heap)(a:Addr):Heap:=h.push { cls:=.type "tuple_iterator",data:=.fields #[.ref a,.int 0 0]}
abbrev z2(h:Heap)(a b:Addr):Heap:=(z1 h a).push { cls:=.type "tuple_iterator",data:=.fields #[.ref b,.int 0 0]}
abbrev z3(h:Heap)(a b:Addr):Heap:=(z2 h a b).push { cls:=.type "tuple",data:=.seq #[.ref h.objs.size,.ref (z1 h a).objs.size]}
abbrev z4(h:Heap)(a b:Addr):Heap:=(z3 h a b).push { cls:=.type "tuple",data:=.seq #[.none,.none]}
abbrev z5(h:Heap)(a b:Addr):Heap:=(z4 h a b).push { cls:=.type "zip",data:=.fields #[.none,.bool false,.bool false,.ref (z2 h a b).objs.size,.ref (z3 h a b).objs.size]}
def a06(a b:Addr)(xs ys:Array Value):Meets (Builtin.«zip.__new__» ⟨[.type "zip",.ref a,.ref b],[]⟩) (λ_ R s=>s.heap.IsTuple a xs/\s.heap.IsTuple b ys/\R (.ok (.ret (.ref (z4 s.heap a b).objs.size))) { s with heap:=z5 s.heap a b}) :=
 .of_wp λprog w A R s h=>by
  obtain⟨hp,g,d,tk,os⟩:=s;obtain⟨ha,hb,h⟩:=h;have sub:=sub_zip;have hA:Heap.IsTuple (Shared.heap ⟨hp,g,d,tk,os⟩) a xs:=ha;have hB:Heap.IsTuple (Shared.heap ⟨hp.push { cls:=.type "tuple_iterator",data:=.fields #[.ref a,.int 0 0]},g,d,tk,os⟩) b ys:=Te.zN hb λo e=>bL _ e
  wp_walk using Ec hA,Ec hB
  exact⟨_,Z,h⟩
section
variable{prog:Program}{w:World}{A:Around}{E:Value->Shared->Prop}{s:Shared}
def ň(ha:s.heap.IsTuple a xs)(hb:s.heap.IsTuple b ys)
  (h:∀g,Zo g (s.heap.objs.size+4) (s.heap.objs.size+2) (s.heap.objs.size+3) .none (.bool false)->Po g (s.heap.objs.size+2) (.ref s.heap.objs.size) (.ref (s.heap.objs.size+1))->Po g (s.heap.objs.size+3) .none .none->g.IsTupleIter s.heap.objs.size a 0->g.IsTupleIter (s.heap.objs.size+1) b 0->(∀c o,s.heap.get? c=some o->g.get? c=some o)->Q (.ref (s.heap.objs.size+4)) { s with heap:=g}) :
  wpAny (model prog w) A (call (.type "zip") [.ref a,.ref b]) Q E s:=by
 refine callType_new PySem.F.called_zip (by decide) (PySem.F.typeCall_zip_2 _ _) (PySem.F.newCall_zip_2 _ _) (λobj=>PySem.F.args_object_init_3 obj _ _) PySem.F.entry_zip_new (a06 a b xs ys) ⟨ha,hb,?_⟩;have e1:(z1 s.heap a).objs.size=s.heap.objs.size+1:=jW ..;have e2:(z2 s.heap a b).objs.size=s.heap.objs.size+2:=by rw[jW,e1]
 have e3:(z3 s.heap a b).objs.size=s.heap.objs.size+3:=by rw[jW,e2]
 have e4:(z4 s.heap a b).objs.size=s.heap.objs.size+4:=by rw[jW,e3]
 have up:=λ(h:Heap) (u:Obj) (c:Addr) (o:Obj) (e:h.get? c=some o)=>bL u e;have k5:(z5 s.heap a b).get? (z4 s.heap a b).objs.size=some _:=bZ _ rfl;have k4:(z5 s.heap a b).get? (z3 s.heap a b).objs.size=some _:=up _ _ _ _ (bZ _ Z);have k3:(z5 s.heap a b).get? (z2 s.heap a b).objs.size=some _:=up _ _ _ _ (up _ _ _ _ (bZ _ Z));have k2:(z5 s.heap a b).get? (z1 s.heap a).objs.size=some _:=up _ _ _ _ (up _ _ _ _ (up _ _ _ _ (bZ _ Z)));have k1:(z5 s.heap a b).get? s.heap.objs.size=some _:=up _ _ _ _ (up _ _ _ _ (up _ _ _ _ (up _ _ _ _ (bZ _ Z))));show _/\_;rw[e2,e3,e4]at k5;rw[e1,e2]at k3;rw[e3]at k4;rw[e1]at k2;rw[e4];exact⟨⟨_,k5,Z⟩,h _ k5 k3 k4 ⟨_,k1,Z,Z⟩ ⟨_,k2,Z,Z⟩ λc o x=>up _ _ _ _ (up _ _ _ _ (up _ _ _ _ (up _ _ _ _ (up _ _ _ _ x))))⟩
end
end Tz
namespace L2
open PyProof.Rows
variable{K:aK}
def a3v(K:aK)(a b:Addr):It :=
 ⟨λi H=>∃xs ys x y,cG K H a xs/\cG K H b ys/\xs[i]?=some x/\ys[i]?=some y,
 λi H v H'=>∃p x y,v=.ref p/\gV H p (.tup [x,y]) H'/\(∀xs,cG K H a xs->xs[i]?=some x)/\∀ys,cG K H b ys->ys[i]?=some y,
 λi H=>∃xs,cG K H a xs/\xs.length<=i⟩
def ZS{P:Program}{w:World}{nm:Str}{pos:Pos}(a b z TI TO i1 i2:Addr)(D:ZipApart z TI TO i1 i2 a b) :
  Turn P w K (.Name nm pos) (a3v K a b) [z,TI,TO,i1,i2] z (λi h=>(∃f0 f1,Tz.Zo h z TI TO f0 f1/\Tz.Fr0 f0)/\Tz.Po h TI (.ref i1) (.ref i2)/\(∃x y,Tz.Po h TO x y)/\h.IsTupleIter i1 a i/\h.IsTupleIter i2 b i) where
 mem:=by simp
 obj:=λi h st c hc=>by
  obtain⟨⟨f0,f1,hz,_⟩,hTI,⟨x,y,hTO⟩,⟨o1,e1,c1,d1⟩,⟨o2,e2,c2,d2⟩⟩:=st
  grind
 keep:=λi h h' st kk=>by
  obtain⟨⟨f0,f1,hz,ff⟩,hTI,⟨x,y,hTO⟩,h1,h2⟩:=st
  exact⟨⟨f0,f1,kk z (by simp) _ hz,ff⟩,kk TI (by simp) _ hTI,⟨x,y,kk TO (by simp) _ hTO⟩,Te.keepI h1 λo q=>kk i1 (by simp) o q,Te.keepI h2 λo q=>kk i2 (by simp) o q⟩
 item:=by
  intro X hP hw hK hc i Y s σ H E I hf st hg
  subst hP hw hK
  obtain⟨xs,ys,x,y,hq1,hq2,hx,hy⟩:=hg
  obtain⟨Rv,rv1,Zq,hz1⟩:=I.tuple hq1
  obtain⟨its2,rv2,pl2,hz2⟩:=I.tuple hq2
  obtain⟨u1,hu1,ru1⟩:=rv1.get hx
  obtain⟨u2,hu2,ru2⟩:=rv2.get hy
  obtain⟨⟨f0,f1,hz,ff⟩,hTI,⟨x0,y0,hTO⟩,h1,h2⟩:=st
  refine Tz.next_item D hz ff hTI hTO h1 h2 (show s.heap.IsTuple a Rv.toArray from Zq) (show s.heap.IsTuple b its2.toArray from pl2) (x:=u1) (y:=u2) (by grind) (by grind) λh3 a1 a2 a3 a4 a5 hk=>?_
  refine⟨_,Z,ao ?_⟩
  have lt:∀{c o},s.heap.get? c=some o->s.heap.objs.size≠c:=λe=>gG (aX e)
  have nz:=lt hz
  have nTI:=lt hTI
  have nTO:=lt hTO
  have n1:s.heap.objs.size≠i1:=by obtain⟨_,e,_⟩:=h1;exact lt e
  have n2:s.heap.objs.size≠i2:=by obtain⟨_,e,_⟩:=h2;exact lt e
  have kp:∀c o,c∉[z,TO,i1,i2]->s.heap.get? c=some o->h3.get? c=some o:=λc o hc q=>by
   grind
  have I1:bH X Y σ H { s with heap:=h3}:=zf I [z,TO,i1,i2] (λc hc=>hf c (by grind)) kp
  have hfree:H s.heap.objs.size=none:=I.hok.fresh (aO _)
  have I2:bH X Y σ (cO H s.heap.objs.size (.tup [x,y])) { s with heap:=h3}:=by
   refine bH.track I1 hfree I.sz (gG I.lt) (λy c q=>?_) (λp hp=>cu (aX (I.pin p hp).1)) ⟨(by show 2<=sizeLine;decide),[u1,u2],.cons ru1 (.cons ru2 .nil),⟨_,a5,Z,_,Z⟩⟩
   obtain⟨v,oc,q1,_⟩:=I.cell y c q
   exact cu (aX q1)
  refine⟨.ref s.heap.objs.size,_,I2,Z,⟨_,x,y,Z,gV.oF hfree,λxs' hy'=>by rw[I.yW hy' hq1];exact hx,λys' hy'=>by rw[I.yW hy' hq2];exact hy⟩,
   ⟨a1,hk TI _ D.TIz D.TITO D.TIi1 D.TIi2 hTI,a2,a3,a4⟩,λc hc=>?_⟩
  have f0:=(hf c hc).1
  rw[aZ ?_]
  ·exact f0
  grind
 done:=by
  intro X hP hw hK hc i Y s σ H E I hf st hg
  subst hP hw hK
  obtain⟨xs,hq1,hl⟩:=hg
  obtain⟨Rv,rv1,Zq,hz1⟩:=I.tuple hq1
  have l1:=rv1.length
  obtain⟨⟨f0,f1,hz,ff⟩,hTI,⟨x0,y0,hTO⟩,h1,h2⟩:=st
  refine Tz.next_end (I.ok.hd hc) D hz ff hTI h1 (show s.heap.IsTuple a Rv.toArray from Zq) (by simp;omega) λh' hk=>⟨Z,zf I [z,TO,i1,i2] (λc hc=>hf c (by grind)) λc o hc q=>?_⟩
  grind
 self:=λ_ _ _ _ _ st h=>by
  obtain⟨⟨f0,f1,hz,ff⟩,_⟩:=st
  exact Tz.M9 hz h
section
variable{X:Cx}
def a5i(K:aK)(ta:TA):TI:=λσ H R=>ta σ H λvs H1=>∃a b,vs=[.ref a,.ref b]/\(∃xs,cG K H1 a xs)/\(∃ys,cG K H1 b ys)/\R (a3v K a b) H1
def a07{nm:Str}{tpos:Pos}{l m:Expr}{ta:TA}{p pos:Pos}(e0:X.K=K)(hg:Gl X "zip")(hm:X.mg "zip" = none)(ha:PA X [l,m] ta)(hs:starEach [l,m] X.env=[(false,eval l X.env),(false,eval m X.env)]:=by rfl)(hs2:starEach [m] X.env=[(false,eval m X.env)]:=by rfl) :
  PI X (.Name nm tpos) (.Call (.Name "zip" p) [l,m] [] pos) (a5i K ta):=by
 subst e0;intro Y s σ H R I h;refine xG (v5 I hg hm boot_zip ?_);refine zP (jK (ha pos Y s σ H _ I h) λus s1 ⟨vs,H1,I1,r1,q1⟩=>?_) (by rw[hs,hs2]) (by rw[hs2];rfl);obtain⟨a,b,e,⟨xs,hq1⟩,⟨ys,hq2⟩,q⟩:=q1;subst e;obtain⟨u1,u2,rfl,r1,r2⟩:=vals2 r1;cases r1;cases r2;obtain⟨Rv,rv1,Zq,hz1⟩:=I1.tuple hq1;obtain⟨its2,rv2,pl2,hz2⟩:=I1.tuple hq2;have pa:s1.heap.IsTuple a Rv.toArray:=Zq;have pb:s1.heap.IsTuple b its2.toArray:=pl2;refine Tz.ň pa pb λh' hz hTI hTO h1 h2 hk=>Tz.M9 hz ?_;have I2:bH X Y σ H1 { s1 with heap:=h'}:=I1.kept (t':=s1.toks) hk;have la:a<s1.heap.objs.size:=by obtain⟨o,e,_⟩:=pa;exact aX e
 have lb:b<s1.heap.objs.size:=by obtain⟨o,e,_⟩:=pb;exact aX e
 refine⟨s1.heap.objs.size+4,[s1.heap.objs.size+4,s1.heap.objs.size+2,s1.heap.objs.size+3,s1.heap.objs.size,s1.heap.objs.size+1],_,_,H1,Z,I2,ZS a b _ _ _ _ _ (zipApart_new la lb),⟨⟨_,_,hz,.inl Z⟩,hTI,⟨_,_,hTO⟩,h1,h2⟩,λc hc=>?_,q⟩;have hb':s1.heap.objs.size<=c:=by
  grind
 exact I1.Jk hb' (I1.hok.fresh hb')
end
def a08{a b:Addr}{xs ys:List V}{ix:List (Option Nat)}{g:TG}{tt:TT}{te:TE}{σ:St}{H1:Hp}{Q:VK}(el:xs.length=ys.length)(Pv:Nat->List V->Hp->Prop)(h0:Pv 0 [] H1)(hl:∀i us H,i<=xs.length->Pv i us H->cG K H a xs/\cG K H b ys/\us.length<=sizeLine)
  (hs:∀(i:Nat) x y us H p H0,xs[i]?=some x->ys[i]?=some y->Pv i us H->gV H p (.tup [x,y]) H0->g (.ref p) (qd ix σ) H0 λσ2 H2=>tt σ2 H2 λb H3=>if b=true then te σ2 H3 λv H4=>Pv (i+1) (us++[v]) H4 else Pv (i+1) us H3)
  (hd:∀us H,Pv xs.length us H->∀p,H p=none->Q (.ref p) (cO H p (.lst us))):lC ix g tt te σ H1 Q (a3v K a b):=by
 refine⟨λi m us H=>m=xs.length-i/\i<=xs.length/\Pv i us H,⟨xs.length,by simp,dI _,h0⟩,?_⟩;rintro i m us H ⟨rfl,hi,p⟩;obtain⟨q,q2,z⟩:=hl i us H hi p;by_cases hlt:i<xs.length
 ·refine .inr ⟨⟨xs,ys,xs[i],ys[i],q,q2,by simp[hlt],by simp[el▸hlt]⟩,z,Pv (i+1),λys' H' p'=>⟨xs.length-(i+1),by omega,Z,hlt,p'⟩,λx H' y=>?_⟩;obtain⟨pp,x0,y0,rfl,nw,ex,ey⟩:=y;exact hs i x0 y0 us H pp H' (ex xs q) (ey ys q2) p nw
 ·have e:i=xs.length:=by omega
  subst e;exact .inl ⟨⟨xs,q,aO _⟩,z,hd us H p⟩
end L2
namespace Tm
open PyProof.Rows
section
variable{prog:Program}{w:World}{A:Around}{E:Value->Shared->Prop}{s:Shared}{t:Addr}{xs:Array (Int×Tok)}
def a09{Q:Value->Shared->Prop}(hh:A.handled=none)(ht:s.heap.IsTuple t (intItems xs))(hne:0<xs.size)
  (h:∀v g tk,(intItems xs)[argBest (λi j=>decide (numAt xs i>numAt xs j)) (xs.size-1)]?=some v->(∀b o,s.heap.get? b=some o->g.get? b=some o)->Q v { s with heap:=g,toks:=tk}):wpAny (model prog w) A (call (.builtin "max") [.ref t]) Q E s:=by
 have lt:t<s.heap.objs.size:=by
  obtain⟨_,e,_⟩:=ht;exact aX e
 refine call_max_walk (Ec ht ⟨s.heap.objs.size,[s.heap.objs.size,t],[s.heap.objs.size],_,_,_,_,Z,Walks.tuple (A:=A.in1) hh _ t (cu lt) (intItems xs),⟨⟨_,bZ _ Z,Z,Z⟩,Te.zN ht λo e=>bL _ e⟩,λb hb=>?_,by simpa [intItems]using hne,CmpOf.ints_gt (numAt xs) (λ_ _=>intItems_at),λv g tk hP hk=>?_⟩)
 ·show b<(s.heap.push _).objs.size;rw[jW];grind
 ·refine h v g tk (by simpa [intItems]using hP) λb o e=>hk b o (λhm=>?_) (bL _ e);rw[bw.mp hm]at e;exact absurd (aX e) (xM _)
end
end Tm
namespace L2
open PyProof.Rows
section
variable{X:Cx}{K:aK}
inductive a5j(K:aK)(xs:List V)(H:Hp)(Q:VK):Prop
 |mk (p ns:_) (_:xs=[.ref p]) (_:cG K H p (List.map V.int ns)) (_:0<ns.length) (_:∀Z98,Z98∈ns->(∀a∈ns,a<=Z98)->Q (.int Z98) H)
def ZV(e:X.K=K)(cm:X.calm=true):jN X (.builtin "max") (a5j K):=by
 subst e;intro Y s σ H xs us Q I r h;obtain⟨p,ns,rfl,hL,hne,q⟩:=h;obtain⟨u,rfl,rx⟩:=vals1 r;cases rx;obtain⟨cg,r',pl,hz⟩:=I.tuple hL;have pl:s.heap.IsTuple p cg.toArray:=pl;have hi:=ints_of r';have hlen:=hi.length;obtain⟨zs,ez⟩:=hi.allInts.items;have hsz:0<zs.size:=by
  have:=congrArg Array.size ez;rw[iG]at this;have e2:(intItems zs).size=zs.size:=by simp[intItems]
  omega
 have en:zs.toList.map (·.1)=ns:=by
  rw[<-nums_intItems,<-ez];exact hi.numsOf
 refine Tm.a09 (xs:=zs) (I.ok.hd cm) (by grind) hsz λv h' tk hv hk=>?_;obtain⟨t,rfl⟩:=intItems_at hv;obtain⟨h1,h2⟩:=argBest_gt (numAt zs) (zs.size-1);refine⟨.int _,H,I.kept hk,⟨t,Z⟩,q _ ?_ λa ha=>?_⟩
 ·rw[numAt_eq,<-en];exact getD_mem (by rw[aN,vW];omega)
 ·rw[<-en]at ha;obtain⟨j,hj,rfl⟩:=mem_getD ha;rw[aN,vW]at hj;rw[<-numAt_eq];exact h2 j (by omega)
end
end L2
namespace K
open L2 Lw Bg
variable{K:aK}{P:Program}{w:World}{mg:Str->Option Value}{base:Heap}{T:cD}{κ α:Type}{σ:St}{B E us zs:List Int}{wd j':Nat}{bt:Int->Int->Bool}{g:TG}{tt:TT}{ix:List (Option Nat)}{te:TE}{Q:VK}
def in2{x a b:Int}:inV (V.int x) [V.int a,V.int b]=true↔x=a\/x=b:=by
 show(ë (V.int a) (V.int x)||(ë (V.int b) (V.int x)||false))=true↔_;show((a==x)||((b==x)||false))=true↔_;grind
theorem Nb{P:Program}{w:World}:∀bs:List Bool,Paired (λv (x:Bool)=>∀u,cP v u->(Dk.JC P w).is x u=true) (bs.map V.bl) bs
 | []=>.nil
 |b::bs=>.cons (λu e=>by
   have e:u=Value.bool b:=e
   rw[e]
   exact Oo b) (Nb bs)
section
variable{C:Addr}{ex:List (Str×V)}{n:Nat}{ts:List bA}{ws:List Int}
def Hq(B:Bl mg)(d_:Dm K C "shared" "Watch.shared" oZ wO)(At:Hp->Addr->Prop):bh P w K mg base gj 1 d_.f d_.fd wO (JM (Dk.JC P w) (pqW ws) At):=by
 refine d_.F.ok G9 λcZ A outer s H vs Q E hr h=>?_;obtain⟨d,a,m,st,rfl,hD,ha,ok,m5,q⟩:=h;have l1:st.length=m:=ok.1;refine⟨_,(aD (bI (iC mO Z B.tuple (by decide) (J (jH ["number"] [none]  (by kernel_rfl) Z (Cq (K:=K) Z (pv 1)) (λ_ _ _ _ _=>(aL 0 (show(["number"]:List Str).Nodup by decide))) (λ_ _ _ _ _=>gk) λ_ _ _ _ _=>(sS jb (pv 0) aq)) aj)))),⟨_,Z,a,Z,⟨_,cG.of ha⟩,?_⟩⟩;refine Qk (K:=K) (a:=a) (xs:=st.map V.int) (λi ys G=>G=H/\ys=((st.take i).map λx=>decide (x=2)).map V.bl) ⟨Z,Z⟩ (λi ys G hi ⟨e,ey⟩=>⟨by rw[e];exact cG.of ha,?_⟩) (λi x ys G hx ⟨e,ey⟩=>?_) (λys G ⟨e,ey⟩ pr hpr=>?_)
 ·rw[ey,aN,aN,dZ];exact dH (cC (by omega))
 ·subst e;rw[iW]at hx;obtain⟨y,hy,rfl⟩:=kI.mp hx;refine⟨_,Z,Z,Z,?_⟩;rw[ey,jX,hy,dF,dF];congr 1;show [V.bl (decide (V.int y=V.int 2))]=[V.bl (decide (y=2))];congr 2;grind
 ·subst e;rw[aN,gZ]at ey;have n1:=gV.oF (o:=.lst ys) hpr;generalize cO G pr (.lst ys)=G1 at n1 ⊢;refine⟨pr,ys,Z,.inl ⟨bG.of n1.here,λl hl=>?_⟩⟩;have n2:=gV.oF (o:=.tup ys) hl;refine q l _ (n1.same.trans n2.same) ⟨ys,n2.here,?_⟩;rw[ey];exact Nb _
def Hs(B:Bl mg)(Bz:mg "zip" = none)(d_:Dm K C "joined" "Watch.joined" pB j5)(At:Hp->Addr->Prop):bh P w K mg base gj 1 d_.f d_.fd j5 (JN (pqW ws) At):=by
 refine d_.F.ok Hf λcZ A outer s H vs Q E hr h=>?_;obtain⟨d,a,b,m,st,t,rfl,hD,ha,hb,ok,ok',m5,sh,q⟩:=h;have l1:st.length=m:=ok.1;have l2:t.length=m:=ok'.1;refine⟨_,(aD (bI (cJ (J (iC mO Z B.tuple (by decide) (J (jH ["pair"] [none]  (by kernel_rfl) Z (a07 (K:=K) Z Z Bz (J (pv 1) (J (pv 2) aj))) (λ_ _ _ _ _=>(aL 0 (show(["pair"]:List Str).Nodup by decide))) (λ_ _ _ _ _=>gk) λ_ _ _ _ _=>(bK (ZV (K:=K) Z Z) Z B.max (by decide) (J (pv 0) aj))) aj)) aj)))),⟨_,Z,_,Z,a,b,Z,⟨_,cG.of ha⟩,⟨_,cG.of hb⟩,?_⟩⟩;have lz:(List.zipWith max st t).length=m:=by grind
 refine a08 (K:=K) (a:=a) (b:=b) (xs:=st.map V.int) (ys:=t.map V.int) (by grind) (λi us G=>aH H G/\us=((List.zipWith max st t).take i).map V.int) ⟨aH.refl _,Z⟩ (λi us G hi ⟨sG,ey⟩=>⟨cG.of (sG _ _ ha),cG.of (sG _ _ hb),?_⟩) (λi x y us G p G0 hx hy ⟨sG,ey⟩ nw=>?_) (λus G ⟨sG,ey⟩ pr hpr=>?_)
 ·rw[ey,aN,dZ];exact dH (cC (by omega))
 ·rw[iW]at hx hy;obtain⟨x',hx',rfl⟩:=kI.mp hx;obtain⟨y',hy',rfl⟩:=kI.mp hy;refine⟨_,Z,p,[x',y'],Z,cG.of nw.here,(by grind),λZ98 hM hb'=>⟨sG.trans nw.same,?_⟩⟩;have eM:Z98=max x' y':=by
   have h1:=hb' x' (aW ..);have h2:=hb' y' (bM _ (aW ..));grind
  have ez:(List.zipWith max st t)[i]?=some Z98:=by
   rw[List.getElem?_zipWith,hx',hy',eM]
  rw[ey,jX,ez,dF];rfl
 ·rw[aN,l1,<-lz,gZ]at ey;have n1:=gV.oF (o:=.lst us) hpr;generalize cO G pr (.lst us)=G1 at n1 ⊢;refine⟨pr,us,Z,.inl ⟨bG.of n1.here,λl hl=>?_⟩⟩;have n2:=gV.oF (o:=.tup us) hl;generalize cO G1 l (.tup us)=G2 at n2 ⊢;refine⟨(by grind),λp3 G3 n3=>q p3 _ G3 (sG.trans (n1.same.trans (n2.same.trans n3.same))) n3.here (.cons ⟨l,Z,?_⟩ .nil)⟩;show G3 l=some (.tup ((List.zipWith max st t).map V.int));rw[<-ey];exact n3.same _ _ n2.here
def Ln(B:Bl mg)(d_:Dm K C "tied" "Watch.tied" pH sI)(At:Hp->Addr->Prop)(Ti:Int×Int->Prop):bh P w K mg base gj 1 d_.f d_.fd sI (XF (pqW ws) At Ti):=by
 refine d_.F.ok Lh λcZ A outer s H vs Q E hr h=>?_;obtain⟨d,a,p,m,dG,aV,t,st,rfl,hD,ha,ok,m5,o1,o2,ne,ti,hp,q⟩:=h;have l1:st.length=m:=ok.1;have hu:(A.deeper (PyProof.Rows.envOfC "Watch.tied" (aF pH) s.heap.objs.size d_.f cZ)).units+64<cLine:=by have:=hr.un;omega
 refine⟨_,(aA (dN (aJ (W5 (K:=K) Z hu) (bK (CK (K:=K) Z) Z B.sorted (by decide) (J (cJ (J (aQ (aM (K:=K) Z) (pv 1) (pv 2)) (J (aQ (aM (K:=K) Z) (pv 1) (pv 3)) aj))) aj)) (cJ (J aq (J aq aj))))
   (aD (bI (cJ (J (bx (J (pv 1) (J aq aj))) aj))))
   bR)
   (aD (bI (cJ (J (bx (J (iC mO Z B.tuple (by decide) (J (jH ["k","number","one","other"] [none,none,some 2,some 3]  (by kernel_rfl) Z (Ņ (K:=K) Z Z B.enumerate (J (pv 1) aj)) (λ_ _ _ _ _=>(jy (K:=K) (n:=2) Z Z (bY (aL 0 (show(["k","number","one","other"]:List Str).Nodup by decide)) (bY (aL 1 (show(["k","number","one","other"]:List Str).Nodup by decide)) jx)))) (λ_ _ _ _ _=>gk) λ_ _ _ _ _=>(oN (aJ (θ (K:=K) Z) (pv 0) (bx (J (pv 2) (J (pv 3) aj))) (by with_unfolding_all rfl)) (bK (LC Z) Z B.max (by decide) (J (pv 1) (J aq aj))) (pv 1))) aj)) (J aq aj))) aj))))),?_⟩
 refine⟨_,Z,_,Z,a,_,_,_,Z,Z,cG.of ha,Ŵ (by omega),_,Z,_,Z,a,_,_,_,Z,Z,cG.of ha,Ŵ (by omega),(by show 2<=1000;decide),λp1 H1 n1=>?_⟩;refine⟨p1,[fP st dG,fP st aV],Z,bG.of n1.here,by show 2<64;decide,λp2 H2 zs n2 pm sd=>?_⟩;refine⟨(by show 2<=1000;decide),λp3 H3 n3=>?_⟩;have wL:=n1.same.trans (n2.same.trans n3.same);refine⟨_,_,.lst (bG.of (n3.same _ _ n2.here)) (uW.ints zs),.lst (bG.of (show H3 p3=some (.lst ([0,2].map V.int))from n3.here)) (uW.ints [0,2]),shaped_ints zs,shaped_ints _,_,Z,?_⟩;rw[Jt];have key:zs=[0,2]↔((fP st dG=0/\fP st aV=2)\/(fP st dG=2/\fP st aV=0)):=by
  constructor
  ·intro e;have pm:=pm;rw[e]at pm;have m1:fP st dG∈([0,2]:List Int):=pm.mem_iff.mpr (aW ..);have m2:fP st aV∈([0,2]:List Int):=pm.mem_iff.mpr (bM _ (aW ..));have m3:(0:Int)∈[fP st dG,fP st aV]:=pm.mem_iff.mp (aW ..);have m4:(2:Int)∈[fP st dG,fP st aV]:=pm.mem_iff.mp (bM _ (aW ..));simp only[List.mem_cons,List.not_mem_nil,or_false]at m1 m2 m3 m4;omega
  ·intro h;have ln:=pm.length_eq
   match zs,ln,pm,sd with
   | [x,y],_,pm,sd =>
    have hxy:x<=y:=(zU.mp sd).1 y (bw.mpr Z);have m1:x∈[fP st dG,fP st aV]:=pm.mem_iff.mp (aW ..);have m2:y∈[fP st dG,fP st aV]:=pm.mem_iff.mp (bM _ (aW ..));have m3:fP st dG∈[x,y]:=pm.mem_iff.mpr (aW ..);have m4:fP st aV∈[x,y]:=pm.mem_iff.mpr (bM _ (aW ..));simp only[List.mem_cons,List.not_mem_nil,or_false]at m1 m2 m3 m4;have e1:x=0:=by omega
    have e2:y=2:=by omega
    rw[e1,e2]
 by_cases c:(fP st dG=0/\fP st aV=2)\/(fP st dG=2/\fP st aV=0)
 ·rw[bO (key.mpr c)];refine cN ⟨_,Z,a,Z,⟨_,cG.of (wL _ _ ha)⟩,?_⟩;have ll:(rD st dG aV).length=m:=by unfold rD;rw[aN,zZ];exact l1
  refine ņ (K:=K) (a:=a) (xs:=st.map V.int) (λi us G=>aH H3 G/\us=((rD st dG aV).take i).map V.int) ⟨aH.refl _,Z⟩ (λi us G hi ⟨sG,ey⟩=>⟨cG.of (sG _ _ (wL _ _ ha)),?_⟩) (λi x us G pp G0 hx ⟨sG,ey⟩ nw=>?_) (λus G ⟨sG,ey⟩ pr hpr=>?_)
  ·rw[ey,aN,dZ];exact dH (cC (by omega))
  ·rw[iW]at hx;obtain⟨x',hx',rfl⟩:=kI.mp hx;have il:i<st.length:=(fG.mp hx').1;have ea:fP st i=x':=by
    unfold fP;rw[gB,hx'];rfl
   refine⟨pp,_,Z,cG.of nw.here,Z,_,_,Z,_,_,Z,Z,?_⟩;refine⟨_,Z,_,Z,_,Z,(by show 2<=1000;decide),λp4 G4 n4=>⟨p4,_,Z,.inr (cG.of n4.here),Z,Z,_,Z,?_⟩⟩;have s4:=sG.trans (nw.same.trans n4.same);have el:(rD st dG aV)[i]?=some (if i=dG\/i=aV then max x' 1 else x'):=by
    unfold rD;rw[iW,List.getElem?_range il,<-ea];rfl
   have nx:∀z:Int,z=(if i=dG\/i=aV then max x' 1 else x')->us++[V.int z]=((rD st dG aV).take (i+1)).map V.int:=λz hz=>by
    rw[ey,jX,el,dF,hz];rfl
   by_cases ci:i=dG\/i=aV
   ·rw[show(if false=true then !inV (V.int (i:Int)) [V.int (dG:Int),V.int (aV:Int)]else inV (V.int (i:Int)) [V.int (dG:Int),V.int (aV:Int)])=true by
     rw[aB dw];exact in2.mpr (by omega)]
    refine gQ ⟨_,Z,_,_,Z,s4,nx _ ?_⟩;rw[aG ci];by_cases c1:(1:Int)>x'
    ·rw[aG c1];omega
    ·rw[aB c1];omega
   ·rw[show(if false=true then !inV (V.int (i:Int)) [V.int (dG:Int),V.int (aV:Int)]else inV (V.int (i:Int)) [V.int (dG:Int),V.int (aV:Int)])=false by
     rw[aB dw];exact tO.mpr (λz=>ci (by have:=in2.mp z;omega))]
    exact cN ⟨_,Z,s4,nx _ (by rw[aB ci])⟩
  ·rw[aN,l1,<-ll,gZ]at ey;have m1:=gV.oF (o:=.lst us) hpr;generalize cO G pr (.lst us)=G1 at m1 ⊢;refine⟨pr,us,Z,.inl ⟨bG.of m1.here,λl hl=>?_⟩⟩;have m2:=gV.oF (o:=.tup us) hl;generalize cO G1 l (.tup us)=G2 at m2 ⊢;refine⟨(by show 2<=1000;decide),λp4 G3 m3=>⟨(by show 1<=1000;decide),λp5 G4 m4=>q p5 _ G4 (wL.trans (sG.trans (m1.same.trans (m2.same.trans (m3.same.trans m4.same))))) m4.here ?_⟩⟩;show Paired _ _ (if(fP st dG=0/\fP st aV=2)\/(fP st dG=2/\fP st aV=0)then [(rD st dG aV,(0:Int))]else [(st,0)]);rw[aG c];refine .cons ⟨p4,l,Z,m4.same _ _ m3.here,?_⟩ .nil;show G4 l=some (.tup ((rD st dG aV).map V.int));rw[<-ey];exact m4.same _ _ (m3.same _ _ m2.here)
 ·rw[bJ (λz=>c (key.mp z))];refine gQ ⟨_,Z,(by show 2<=1000;decide),λp4 H4 n4=>⟨(by show 1<=1000;decide),λp5 H5 n5=>q p5 _ H5 (wL.trans (n4.same.trans n5.same)) n5.here ?_⟩⟩;show Paired _ _ (if(fP st dG=0/\fP st aV=2)\/(fP st dG=2/\fP st aV=0)then [(rD st dG aV,(0:Int))]else [(st,0)]);rw[aB c];exact .cons ⟨p4,a,Z,n5.same _ _ n4.here,ha.keep (.of (wL.trans (n4.same.trans n5.same)))⟩ .nil
end
inductive X8(K:aK)(C:Addr)(vs:List V)(H:Hp)(Q:VK)(u_3:XK):Prop
 |mk (d dx g t:Addr) (n:Nat) (xs:List V) (ts:List bA) (v:V) (o:Option (List Int)) (_:vs=[.ref d,.ref g,v]) (_:H d=some (.ins C dx [])) (_:cG K H g [.int n,.ref t]) (_:H t=some (.lst xs)) (_:Paired (gR H) xs ts) (_:ts.length<=1000) (_:n<=100) (_:WtV K H v o) (_:(∀ws,o=some ws->ws.length<=200)) (_:ZP n o=true) (_:∀H',Sd d H H'->Hi K C [] n ts (wtL n o) H' d->Q .non H')
inductive a1a(K:aK)(C:Addr)(vs:List V)(H:Hp)(Q:VK)(u_3:XK):Prop
 |mk (d dx g t:Addr) (n c:Nat) (xs:List V) (ts:List bA) (v:V) (o:Option (List Int)) (_:vs=[.ref d,.ref g,.int c,v]) (_:c<=4) (_:H d=some (.ins C dx [])) (_:cG K H g [.int n,.ref t]) (_:H t=some (.lst xs)) (_:Paired (gR H) xs ts) (_:ts.length<=1000) (_:n<=100) (_:WtV K H v o) (_:(∀ws,o=some ws->ws.length<=200)) (_:ZP n o=true) (_:∀H',Sd d H H'->Hi K C [("many",.int c)] n ts (wtL n o) H' d->Q .non H')
def Sd.a6B{d C dx:Addr}{fs:List (Str×V)}{H H':Hp}{a:Addr}{xs:List V}(e:Sd d H H')(hd:H d=some (.ins C dx fs))(h:bG K H a xs):bG K H' a xs:=by
 rcases h with(h|⟨o,h⟩)|h
 ·exact .inl (.inl (e _ _ (λz=>by grind) h))
 ·exact .inl (.inr ⟨o,e _ _ (λz=>by grind) h⟩)
 ·exact .inr h
def Sd.tupI{d C dx:Addr}{fs:List (Str×V)}{H H':Hp}{a:Addr}{xs:List V}(e:Sd d H H')(hd:H d=some (.ins C dx fs))(h:cG K H a xs):cG K H' a xs:=by
 rcases h with(h|⟨o,h⟩)|h
 ·exact .inl (.inl (e _ _ (λz=>by grind) h))
 ·exact .inl (.inr ⟨o,e _ _ (λz=>by grind) h⟩)
 ·exact .inr h
def Sd.wtI{d C dx:Addr}{fs:List (Str×V)}{H H':Hp}(e:Sd d H H')(hd:H d=some (.ins C dx fs)):∀{v:V}{o:Option (List Int)},WtV K H v o->WtV K H' v o
 |_,none,h=>h
 |_,some _,⟨a,e1,h⟩=>⟨a,e1,e.a6B hd h⟩
def Sd.a3w{d C dx:Addr}{fs:List (Str×V)}{H H':Hp}(e:Sd d H H')(hd:H d=some (.ins C dx fs)){v:V}{t:Int×Int}(h:gR H v t):gR H' v t:=by
 obtain⟨p,e1,h⟩:=h;exact⟨p,e1,e _ _ (λz=>by grind) h⟩
def Lp(B:Bl mg)(Ct:Ų mg)(cB:qI K mg)(eX:HX K mg)(kE:GK K mg)(jL:Dn K mg "is_below" gA uJ)(sZ:Dn K mg "weights_of" jT Gq):bh P w K mg base gj 5 eX.bN.f eX.bN.fd Gp (X8 K eX.C):=by
 have gW:bh P w K mg base gj 4 _ _ _ _:=(qJ B cB eX.cl eX.fD eX.iw eX.fV).mono (by decide);have Ŋ:bh P w K mg base gj 4 _ _ _ _:=(vd B Ct kE jL sZ).mono (by decide);refine eX.bN.F.ok CZ (λvs H Q E h=>?_) (λcZ A outer s H vs Q E hr h=>?_)
 ·obtain⟨d,dx,g,t,n,xs,ts,v,o,rfl,_⟩:=h;rfl
 obtain⟨d,dx,g,t,n,xs,ts,v,o,rfl,hd,hg,ht,pT,lT,n1,hV,hw,ok,q⟩:=h;refine⟨_,(aA (jw (Qe Z cB.m cB.uK gW hr cB.bN.b .nil b8 (J (pv 0) (J (pv 1) (J (bx aj) (J (bx aj) aj))))))
   (aD (Ao (pv 0) (bf Ŋ hr Z sZ.m sZ.F.kp sZ.b .nil b8 (J (aQ (aM (K:=K) Z) (pv 1) aq) (J (pv 2) aj))) Z))),?_⟩
 refine⟨_,Z,_,Z,(by grind),λp1 H1 m1=>⟨(by grind),λp2 H2 m2=>?_⟩⟩;have s2:aH H H2:=m1.same.trans m2.same;have lx:xs.length<=1000:=by rw[aY pT];exact lT
 refine⟨d,dx,g,t,n,xs,.ref p1,.ref p2,Z,s2 _ _ hd,s2.wC hg,s2 _ _ ht,lx,λpg pt H3 s3 h3d h3g h3t=>?_⟩;have e3:Sd d H H3:=λc o hc hh=>s3 c o hc (s2 _ _ hh);have np1:p1≠d:=λe=>by have:=m1.fresh;grind
 have np2:p2≠d:=λe=>by have:=m2.fresh;rw[e,m1.same _ _ hd]at this;cases this
 have h3l:H3 p1=some (.tup []):=s3 _ _ np1 (m2.same _ _ m1.here);have h3u:H3 p2=some (.tup []):=s3 _ _ np2 m2.here;refine⟨_,Z,g,_,_,V.int n,Z,Z,e3.tupI hd hg,eV (j:=0) Z,_,Z,n,v,o,Z,e3.wtI hd hV,n1,hw,ok,λpw H4 s4 f4 h4=>?_⟩;refine⟨_,Z,d,_,_,_,Z,s4 _ _ h3d,eX.cl,eX.fC,(by show 3<1000;decide),?_⟩;generalize hU:cO H4 d _=U;have u1:wF H4 d (.ins eX.C dx (fsQ pg (.ref p1) (.ref p2)++([]++[(("weights" : Str),V.ref pw)]))) U:=by rw[<-hU];exact wF.oF
 have up:∀c u,c≠d->H3 c=some u->U c=some u:=λc u hc e=>by rw[u1.rest c hc];exact s4 _ _ e
 have nd:∀c u,(∀dx fs,u≠.ins eX.C dx fs)->H3 c=some u->c≠d:=λc u hn e z=>by grind
 have dpw:pw≠d:=λe=>by grind
 exact q U (λc u hc e=>up c u hc (e3 c u hc e)) ⟨dx,pg,pt,xs,p1,p2,pw,u1.here,up _ _ (nd _ _ (λ_ _ z=>by cases z) h3g) h3g,up _ _ (nd _ _ (λ_ _ z=>by cases z) h3t) h3t,Paired.bU pT λ_ _ h=>by
  obtain⟨pp,e1,e2⟩:=e3.a3w hd h;exact⟨pp,e1,up _ _ (nd _ _ (λ_ _ z=>by cases z) e2) e2⟩,lT,up _ _ np1 h3l,up _ _ np2 h3u,by rw[u1.rest _ dpw];exact h4⟩
def Lq(B:Bl mg)(Ct:Ų mg)(cB:qI K mg)(eY:HY K mg)(kE:GK K mg)(jL:Dn K mg "is_below" gA uJ)(sZ:Dn K mg "weights_of" jT Gq):bh P w K mg base gj 5 eY.bN.f eY.bN.fd Gp (X8 K eY.C):=by
 have gW:bh P w K mg base gj 4 _ _ _ _:=(qJ B cB eY.cl eY.fD eY.iw eY.fV).mono (by decide);have Ŋ:bh P w K mg base gj 4 _ _ _ _:=(vd B Ct kE jL sZ).mono (by decide);refine eY.bN.F.ok Dc (λvs H Q E h=>?_) (λcZ A outer s H vs Q E hr h=>?_)
 ·obtain⟨d,dx,g,t,n,xs,ts,v,o,rfl,_⟩:=h;rfl
 obtain⟨d,dx,g,t,n,xs,ts,v,o,rfl,hd,hg,ht,pT,lT,n1,hV,hw,ok,q⟩:=h;refine⟨_,(aA (jw (Qe Z cB.m cB.uK gW hr cB.bN.b .nil b8 (J (pv 0) (J (pv 1) (J (bx aj) (J (bx aj) aj))))))
   (aD (Ao (pv 0) (bf Ŋ hr Z sZ.m sZ.F.kp sZ.b .nil b8 (J (aQ (aM (K:=K) Z) (pv 1) aq) (J (pv 2) aj))) Z))),?_⟩
 refine⟨_,Z,_,Z,(by grind),λp1 H1 m1=>⟨(by grind),λp2 H2 m2=>?_⟩⟩;have s2:aH H H2:=m1.same.trans m2.same;have lx:xs.length<=1000:=by rw[aY pT];exact lT
 refine⟨d,dx,g,t,n,xs,.ref p1,.ref p2,Z,s2 _ _ hd,s2.wC hg,s2 _ _ ht,lx,λpg pt H3 s3 h3d h3g h3t=>?_⟩;have e3:Sd d H H3:=λc o hc hh=>s3 c o hc (s2 _ _ hh);have np1:p1≠d:=λe=>by have:=m1.fresh;grind
 have np2:p2≠d:=λe=>by have:=m2.fresh;rw[e,m1.same _ _ hd]at this;cases this
 have h3l:H3 p1=some (.tup []):=s3 _ _ np1 (m2.same _ _ m1.here);have h3u:H3 p2=some (.tup []):=s3 _ _ np2 m2.here;refine⟨_,Z,g,_,_,V.int n,Z,Z,e3.tupI hd hg,eV (j:=0) Z,_,Z,n,v,o,Z,e3.wtI hd hV,n1,hw,ok,λpw H4 s4 f4 h4=>?_⟩;refine⟨_,Z,d,_,_,_,Z,s4 _ _ h3d,eY.cl,eY.fC,(by show 3<1000;decide),?_⟩;generalize hU:cO H4 d _=U;have u1:wF H4 d (.ins eY.C dx (fsQ pg (.ref p1) (.ref p2)++([]++[(("weights" : Str),V.ref pw)]))) U:=by rw[<-hU];exact wF.oF
 have up:∀c u,c≠d->H3 c=some u->U c=some u:=λc u hc e=>by rw[u1.rest c hc];exact s4 _ _ e
 have nd:∀c u,(∀dx fs,u≠.ins eY.C dx fs)->H3 c=some u->c≠d:=λc u hn e z=>by grind
 have dpw:pw≠d:=λe=>by grind
 exact q U (λc u hc e=>up c u hc (e3 c u hc e)) ⟨dx,pg,pt,xs,p1,p2,pw,u1.here,up _ _ (nd _ _ (λ_ _ z=>by cases z) h3g) h3g,up _ _ (nd _ _ (λ_ _ z=>by cases z) h3t) h3t,Paired.bU pT λ_ _ h=>by
  obtain⟨pp,e1,e2⟩:=e3.a3w hd h;exact⟨pp,e1,up _ _ (nd _ _ (λ_ _ z=>by cases z) e2) e2⟩,lT,up _ _ np1 h3l,up _ _ np2 h3u,by rw[u1.rest _ dpw];exact h4⟩
def Hu(B:Bl mg)(Ct:Ų mg)(cB:qI K mg)(cA:zp K mg)(kE:GK K mg)(jL:Dn K mg "is_below" gA uJ)(sZ:Dn K mg "weights_of" jT Gq):bh P w K mg base gj 5 cA.bN.f cA.bN.fd Xp (a1a K cA.C):=by
 have gW:bh P w K mg base gj 4 _ _ _ _:=(qJ B cB cA.cl cA.fD cA.iw cA.fV).mono (by decide);have Ŋ:bh P w K mg base gj 4 _ _ _ _:=(vd B Ct kE jL sZ).mono (by decide);have ķ:bh P w K mg base gj 4 _ _ _ _:=(yg B kE jL).mono (by decide);refine cA.bN.F.ok zF (λvs H Q E h=>?_) (λcZ A outer s H vs Q E hr h=>?_)
 ·obtain⟨d,dx,g,t,n,c,xs,ts,v,o,rfl,_⟩:=h;rfl
 obtain⟨d,dx,g,t,n,c,xs,ts,v,o,rfl,c4,hd,hg,ht,pT,lT,n1,hV,hw,ok,q⟩:=h;refine⟨_,(aA (dN (wj (gw (K:=K) Z (bf ķ hr Z jL.m jL.F.kp jL.b .nil b8 (J (bC dO (O8 (v:=.int 4) Z Ct.yj Ct.yp) aq) (J (pv 2) aj))) λ_=>rfl))
   (aD Ca)
   bR)
   (aA (jw (Qe Z cB.m cB.uK gW hr cB.bN.b .nil b8 (J (pv 0) (J (pv 1) (J (bx aj) (J (bx aj) aj))))))
   (aA (Ao (pv 0) (pv 2) Z)
   (aD (Ao (pv 0) (bf Ŋ hr Z sZ.m sZ.F.kp sZ.b .nil b8 (J (aQ (aM (K:=K) Z) (pv 1) aq) (J (pv 3) aj))) Z))))),?_⟩
 have bl:oU (4+1) (some (c:Int))=true:=bO (show 0<=(c:Int)/\(c:Int)<4+1 by omega);refine⟨_,_,Z,Z,_,Z,4+1,some (c:Int),Z,?_⟩;rw[bl];refine⟨_,Z,cN ⟨_,Z,_,Z,(by grind),λp1 H1 m1=>⟨(by grind),λp2 H2 m2=>?_⟩⟩⟩;have s2:aH H H2:=m1.same.trans m2.same;have lx:xs.length<=1000:=by rw[aY pT];exact lT
 refine⟨d,dx,g,t,n,xs,.ref p1,.ref p2,Z,s2 _ _ hd,s2.wC hg,s2 _ _ ht,lx,λpg pt H3 s3 h3d h3g h3t=>?_⟩;have e3:Sd d H H3:=λc o hc hh=>s3 c o hc (s2 _ _ hh);have np1:p1≠d:=λe=>by have:=m1.fresh;grind
 have np2:p2≠d:=λe=>by have:=m2.fresh;rw[e,m1.same _ _ hd]at this;cases this
 have h3l:H3 p1=some (.tup []):=s3 _ _ np1 (m2.same _ _ m1.here);have h3u:H3 p2=some (.tup []):=s3 _ _ np2 m2.here;refine⟨_,Z,_,Z,d,_,_,_,Z,h3d,cA.cl,cA.Kc,(by show 3<1000;decide),?_⟩;generalize hU0:cO H3 d _=U0;have u0:wF H3 d (.ins cA.C dx (fsQ pg (.ref p1) (.ref p2)++[(("many" : Str),V.int c)])) U0:=by rw[<-hU0];exact wF.oF
 have e4:Sd d H U0:=λc' u hc hh=>by rw[u0.rest c' hc];exact e3 c' u hc hh
 refine⟨_,Z,g,_,_,V.int n,Z,Z,e4.tupI hd hg,eV (j:=0) Z,_,Z,n,v,o,Z,e4.wtI hd hV,n1,hw,ok,λpw H4 s4 f4 h4=>?_⟩;refine⟨_,Z,d,_,_,_,Z,s4 _ _ u0.here,cA.cl,cA.fC,(by show 4<1000;decide),?_⟩;generalize hU:cO H4 d _=U;have u1:wF H4 d (.ins cA.C dx (fsQ pg (.ref p1) (.ref p2)++([(("many" : Str),V.int c)]++[(("weights" : Str),V.ref pw)]))) U:=by rw[<-hU];exact wF.oF
 have up:∀c' u,c'≠d->H3 c'=some u->U c'=some u:=λc' u hc e=>by
  rw[u1.rest c' hc];refine s4 _ _ ?_;rw[u0.rest c' hc];exact e
 have nd:∀c' u,(∀dx fs,u≠.ins cA.C dx fs)->H3 c'=some u->c'≠d:=λc' u hn e z=>by grind
 have dpw:pw≠d:=λe=>by rw[e,u0.here]at f4;cases f4
 exact q U (λc' u hc e=>up c' u hc (e3 c' u hc e)) ⟨dx,pg,pt,xs,p1,p2,pw,u1.here,up _ _ (nd _ _ (λ_ _ z=>by cases z) h3g) h3g,up _ _ (nd _ _ (λ_ _ z=>by cases z) h3t) h3t,Paired.bU pT λ_ _ h=>by
  obtain⟨pp,e1,e2⟩:=e3.a3w hd h;exact⟨pp,e1,up _ _ (nd _ _ (λ_ _ z=>by cases z) e2) e2⟩,lT,up _ _ np1 h3l,up _ _ np2 h3u,by rw[u1.rest _ dpw];exact h4⟩
def ZW(c:Nat):∀m,m∈(JG:List Str)->([(("many" : Str),V.int (c:Int))]).lookup m=none:=λm hm=>by
 have go:∀m∈(JG:List Str),(m==("many" : Str))=false:=by decide
 rw[IV,go m hm];rfl
def a5k(B:Bl mg)(D:zp K mg){c:Nat}(c4:c<=4)(n:Nat)(ts:List bA)(ws:List Int)(lw:ws.length=n)(mJ:Dn K mg "with_number" fQ xZ)(mK:Dn K mg "without_number" cY yc):JQ P w K mg base Key where
 C:=D.C
 cl:=D.cl
 knd:=fU P w
 pq:=pqC c ws
 At:=Hi K D.C [("many",.int c)] n ts ws
 Pl:=λv=>v<n
 Ti:=λ_=>True
 n:=n
 ts:=ts
 keep:=λa h=>Hi.keep a h
 ins:=λh=>Hi.ins (ZW c) h
 iw:=D.iw
 fV:=D.fV
 fD:=D.fD
 nR:=⟨_,_,D.dW.mt,D.dW.b,(ql D.dW _ Z _).mono (by decide)⟩
 rz:=⟨_,_,D.jd.mt,D.jd.b,(ur D.jd _ Z _).mono (by decide)⟩
 vC:=⟨_,_,D.je.mt,D.je.b,(uw D.je _ Z _).mono (by decide)⟩
 vD:=⟨_,_,D.jf.mt,D.jf.b,(Dg B c4 D.cl D.Kc D.jf mJ).mono (by decide)⟩
 nU:=⟨_,_,D.dX.mt,D.dX.b,(yu c4 D.cl D.fC lw D.dX mK).mono (by decide)⟩
 Fe:=⟨_,_,D.pI.mt,D.pI.b,(Hj D.pI _ _).mono (by decide)⟩
def a5l(B:Bl mg)(D:HX K mg)(n:Nat)(ts:List bA)(ws:List Int)(lw:ws.length=n)(mJ:Dn K mg "with_number" fQ xZ)(mK:Dn K mg "without_number" cY yc):JQ P w K mg base Key where
 C:=D.C
 cl:=D.cl
 knd:=fU P w
 pq:=pqA ws
 At:=Hi K D.C [] n ts ws
 Pl:=λv=>v<n
 Ti:=λ_=>True
 n:=n
 ts:=ts
 keep:=λa h=>Hi.keep a h
 ins:=λh=>Hi.ins (λ_ _=>rfl) h
 iw:=D.iw
 fV:=D.fV
 fD:=D.fD
 nR:=⟨_,_,D.dW.mt,D.dW.b,(Bo D.dW _).mono (by decide)⟩
 rz:=⟨_,_,D.jd.mt,D.jd.b,(ur D.jd _ Z _).mono (by decide)⟩
 vC:=⟨_,_,D.je.mt,D.je.b,(uw D.je _ Z _).mono (by decide)⟩
 vD:=⟨_,_,D.jf.mt,D.jf.b,(Hl B D.jf mJ _).mono (by decide)⟩
 nU:=⟨_,_,D.dX.mt,D.dX.b,(Bq D.cl D.fC lw D.dX mK).mono (by decide)⟩
 Fe:=⟨_,_,D.pI.mt,D.pI.b,(Lk D.pI _ _).mono (by decide)⟩
def a5m(B:Bl mg)(Bz:mg "zip" = none)(D:HY K mg)(n:Nat)(ts:List bA)(ws:List Int)(lw:ws.length=n)(mJ:Dn K mg "with_number" fQ xZ)(mK:Dn K mg "without_number" cY yc):JQ P w K mg base Bool where
 C:=D.C
 cl:=D.cl
 knd:=Dk.JC P w
 pq:=pqW ws
 At:=Hi K D.C [] n ts ws
 Pl:=λv=>v<n
 Ti:=λ_=>True
 n:=n
 ts:=ts
 keep:=λa h=>Hi.keep a h
 ins:=λh=>Hi.ins (λ_ _=>rfl) h
 iw:=D.iw
 fV:=D.fV
 fD:=D.fD
 nR:=⟨_,_,D.dW.mt,D.dW.b,(ql D.dW _ Z _).mono (by decide)⟩
 rz:=⟨_,_,D.jd.mt,D.jd.b,(Hq B D.jd _).mono (by decide)⟩
 vC:=⟨_,_,D.je.mt,D.je.b,(Hs B Bz D.je _).mono (by decide)⟩
 vD:=⟨_,_,D.jf.mt,D.jf.b,(Ho B D.jf mJ _).mono (by decide)⟩
 nU:=⟨_,_,D.dX.mt,D.dX.b,(Br D.cl D.fC lw D.dX mK).mono (by decide)⟩
 Fe:=⟨_,_,D.pI.mt,D.pI.b,(Ln B D.pI _ _).mono (by decide)⟩
namespace Go
theorem uL:∀{xs ys:List Int},xs.Pairwise (· < ·)->ys.Pairwise (· < ·)->(∀v,v∈xs↔v∈ys)->xs=ys
 | [],[],_,_,_=>rfl
 | [],y::ys,_,_,h=>absurd ((h y).mpr aW) d7
 |x::xs,[],_,_,h=>absurd ((h x).mp aW) d7
 |x::xs,y::ys,hx,hy,h=>by
  rw[zU]at hx hy
  have e:x=y:=by
   rcases cH.mp ((h x).mp aW)with h1|h1
   ·exact h1
   ·rcases cH.mp ((h y).mpr aW)with h2|h2
    ·exact h2.symm
    grind
  subst e
  rw[uL hx.2 hy.2 λv=>⟨λhv=>?_,λhv=>?_⟩]
  ·grind
  grind
end Go
structure Ft{κ:Type}(pq:PQ κ):Prop where
 leaf:pq.Ok 0 pq.leaf
 inn:∀{m s p v},pq.Ok m s->p<=m->(pq.inn s p v).length<=4/\∀x∈pq.inn s p v,pq.Ok (m+1) x.1
 tie:∀{m s a b t},pq.Ok m s->a<m->b<m->(pq.tie s a b t).length<=4/\∀x∈pq.tie s a b t,pq.Ok m x.1
 out:∀{m s p v},pq.Ok (m+1) s->p<m+1->(pq.out s p v).length<=4/\∀x∈pq.out s p v,pq.Ok m x.1
 jn:∀{m s t},pq.Ok m s->pq.Ok m t->(pq.jn s t).length<=4/\∀x∈pq.jn s t,pq.Ok m x
 fin:∀{m:Nat}{l:List dD},m<=4->l.Nodup->(∀s∈l,pq.Ok m s)->l.length<=900
def dM(T:cD):Nat:=(T.map λx=>x.2.m.natAbs).sum
structure Bs{κ:Type}(pq:PQ κ)(m:Nat)(T:cD):Prop where
 nd:(T.map (·.1)).Nodup
 ok:∀x∈T,pq.Ok m x.1
def Bs.nil{pq:PQ κ}{m:Nat}:Bs pq m []:=⟨Ah,λ_ h=>absurd h d7⟩
def Bs.len{pq:PQ κ}(pk:Ft pq){m:Nat}(h:Bs pq m T)(m4:m<=4):T.length<=900:=by
 have:=pk.fin m4 h.nd (λs hs=>by
  obtain⟨x,hx,rfl⟩:=gn.mp hs;exact h.ok x hx)
 grind
def ZX(T:cD)(s:dD)(r:fH):(zB T s r).map (·.1)=if(T.any λx=>decide (x.1=s))=true then T.map (·.1)else T.map (·.1)++[s]:=by
 unfold zB;split
 ·rw[nC];refine tM λx _=>?_;grind
 grind
set_option tactic.hygienic true in
def a1b{pq:PQ κ}{m:Nat}{s:dD}{r:fH}(h:Bs pq m T)(hs:pq.Ok m s):Bs pq m (zB T s r):=by
 have e:=ZX T s r;refine⟨?_,λx hx=>?_⟩
 ·rw[e];split
  ·exact h.nd
  ·rename_i c;refine vX.mpr ⟨h.nd,zQ _ _,λa ha b hb ab=>?_⟩;grind
 ·have:x.1∈(zB T s r).map (·.1):=gn.mpr ⟨x,hx,Z⟩;rw[e]at this;split at this
  ·obtain⟨y,hy,ey⟩:=gn.mp this;rw[<-ey];exact h.ok y hy
  ·rcases b7.mp this with z|z
   ·obtain⟨y,hy,ey⟩:=gn.mp z;rw[<-ey];exact h.ok y hy
   grind
def Yb{pq:PQ κ}{m:Nat}{s:dD}{r:fH}(h:Bs pq m T)(hs:pq.Ok m s):Bs pq m (iK bt T s r):=by
 unfold iK;split<;>exact a1b h hs
def Yc{s:dD}{r:fH}(nd:(T.map (·.1)).Nodup):dM (zB T s r)+((ug T s).map λo=>o.m.natAbs).getD 0=dM T+r.m.natAbs:=by
 induction T with
 |nil=>exact Nat.add_comm (r.m.natAbs+0) 0
 |cons x T ih =>
  rw[cL,jC]at nd;have ih:=ih nd.2;unfold zB ug at ih ⊢;by_cases c:x.1=s
  ·rw[tR,bO c,Bool.true_or,aG Z,Io (by exact bO c)];have e:(T.map λy=>if y.1=s then(y.1,r)else y)=T:=by
    have:∀y∈T,(λy:dD×fH=>if y.1=s then(y.1,r)else y) y=id y:=λy hy=>aB λz=>nd.1 (gn.mpr ⟨y,hy,z.trans c.symm⟩);rw[tM this,List.map_id]
   rw[cL,aG c,e];unfold dM;rw[cL,cL,uQ,uQ];show r.m.natAbs+_+x.2.m.natAbs=_;omega
  ·rw[tR,bJ c,Ox,xj (by exact λz=>c (eZ z))];by_cases d:(T.any λy=>decide (y.1=s))=true
   ·rw[aG d]at ih ⊢;rw[cL,aB c];unfold dM at ih ⊢;rw[cL,cL,uQ,uQ];omega
   ·rw[aB d]at ih ⊢;unfold dM at ih ⊢;rw[List.cons_append,cL,cL,uQ,uQ];omega
set_option tactic.hygienic true in
def R0{s:dD}{r:fH}(nd:(T.map (·.1)).Nodup):dM (iK bt T s r)<=dM T+r.m.natAbs:=by
 unfold iK;split
 ·rename_i e;have:=Yc (s:=s) (r:=r) nd;omega
 ·rename_i o e;have:=Yc (s:=s) (r:=⟨o.m+r.m,(yd bt r o).b,(yd bt r o).src⟩) nd;grind
section
variable [DecidableEq κ]
theorem Bt{pq:PQ κ}{bt:Int->Int->Bool}{m:Nat}{old:dD}{row:fH}:∀{l:List (dD×Int)}{T:cD},Bs pq m T->(∀x∈l,pq.Ok m x.1)->Bs pq m (jc bt old row l T)/\dM (jc bt old row l T)<=dM T+l.length*row.m.natAbs
 | [],T,h,_=>⟨h,by show dM T<=dM T+0*_;omega⟩
 |x::l,T,h,hl=>by
  have h1:Bs pq m (iK bt T x.1 ⟨row.m,row.b+x.2,[old]⟩):=Yb h (hl x (aW ..))
  have s1:=R0 (bt:=bt) (s:=x.1) (r:=⟨row.m,row.b+x.2,[old]⟩) h.nd
  have s1:dM (iK bt T x.1 ⟨row.m,row.b+x.2,[old]⟩)<=dM T+row.m.natAbs:=s1
  obtain⟨h2,s2⟩:=Bt (bt:=bt) (old:=old) (row:=row) h1 (λy hy=>hl y (bM _ hy))
  refine⟨h2,cW s2 ?_⟩
  rw[nA,Nat.succ_mul]
  omega
theorem Kh{pq:PQ κ}{iM:aU}{B:List Int}{m m':Nat}:∀{S T:cD},Bs pq m' T->(∀x∈S,pq.Ok m x.1)->(∀s,pq.Ok m s->(MP pq s iM B).length<=4/\∀x∈MP pq s iM B,pq.Ok m' x.1)->Bs pq m' (lF pq iM B S T)/\dM (lF pq iM B S T)<=dM T+4*dM S
 | [],T,h,_,_=>⟨h,by show dM T<=dM T+_;omega⟩
 |x::S,T,h,hS,hb=>by
  obtain⟨l4,ob⟩:=hb x.1 (hS x (aW ..))
  obtain⟨h1,s1⟩:=Bt (bt:=pq.bt) (old:=x.1) (row:=x.2) h ob
  obtain⟨h2,s2⟩:=Kh h1 (λy hy=>hS y (bM _ hy)) hb
  refine⟨h2,cW s2 ?_⟩
  have e:dM (x::S)=x.2.m.natAbs+dM S:=by unfold dM;grind
  rw[e]
  have:(MP pq x.1 iM B).length*x.2.m.natAbs<=4*x.2.m.natAbs:=Nat.mul_le_mul_right _ l4
  omega
def Z0{pq:PQ κ}(pk:Ft pq){iM:aU}{m m':Nat}(m4:m'<=4){S:cD}(hS:∀x∈S,pq.Ok m x.1)(hb:∀s,pq.Ok m s->(MP pq s iM B).length<=4/\∀x∈MP pq s iM B,pq.Ok m' x.1):a3e pq iM B S []:=by
 intro i hi x hx j hj;have h1:=(Kh (pq:=pq) (iM:=iM) (B:=B) (m:=m) (m':=m') (S:=S.take i) Bs.nil (λy hy=>hS y (m9 hy)) hb).1;obtain⟨_,ob⟩:=hb x.1 (hS x (jA hx));have h2:=(Bt (bt:=pq.bt) (old:=x.1) (row:=x.2) (l:=(MP pq x.1 iM B).take j) h1 λy hy=>ob y (m9 hy)).1;have:=h2.len pk m4;omega
theorem Kl{pq:PQ κ}{bt:Int->Int->Bool}{m:Nat}{dG aV:dD}{row more:fH}:∀{l:List dD}{T:cD},Bs pq m T->(∀x∈l,pq.Ok m x)->Bs pq m (rA bt dG aV row more l T)/\dM (rA bt dG aV row more l T)<=dM T+l.length*(row.m.natAbs*more.m.natAbs)
 | [],T,h,_=>⟨h,by show dM T<=dM T+0*_;omega⟩
 |x::l,T,h,hl=>by
  have h1:Bs pq m (iK bt T x ⟨row.m*more.m,row.b+more.b,[dG,aV]⟩):=Yb h (hl x (aW ..))
  have s1:=R0 (bt:=bt) (s:=x) (r:=⟨row.m*more.m,row.b+more.b,[dG,aV]⟩) h.nd
  have s1:dM (iK bt T x ⟨row.m*more.m,row.b+more.b,[dG,aV]⟩)<=dM T+(row.m*more.m).natAbs:=s1
  rw[Int.natAbs_mul]at s1
  obtain⟨h2,s2⟩:=Kl (bt:=bt) (dG:=dG) (aV:=aV) (row:=row) (more:=more) h1 (λy hy=>hl y (bM _ hy))
  refine⟨h2,cW s2 ?_⟩
  rw[nA,Nat.succ_mul]
  omega
theorem Km{pq:PQ κ}(pk:Ft pq){m:Nat}{dG:dD}{row:fH}(oo:pq.Ok m dG):∀{A T:cD},Bs pq m T->(∀x∈A,pq.Ok m x.1)->Bs pq m (rB pq dG row A T)/\dM (rB pq dG row A T)<=dM T+4*(row.m.natAbs*dM A)
 | [],T,h,_=>⟨h,by show dM T<=dM T+_;omega⟩
 |x::A,T,h,hA=>by
  obtain⟨l4,oj⟩:=pk.jn oo (hA x (aW ..))
  obtain⟨h1,s1⟩:=Kl (bt:=pq.bt) (dG:=dG) (aV:=x.1) (row:=row) (more:=x.2) h oj
  obtain⟨h2,s2⟩:=Km pk oo (row:=row) h1 (λy hy=>hA y (bM _ hy))
  refine⟨h2,cW s2 ?_⟩
  have e:dM (x::A)=x.2.m.natAbs+dM A:=by unfold dM;grind
  rw[e,Nat.mul_add]
  have:=Nat.mul_le_mul_right (row.m.natAbs*x.2.m.natAbs) l4
  omega
theorem sum_filter(p:dD×fH->Bool):∀A:cD,dM (A.filter p)<=dM A
 | []=>aO _
 |x::A=>by
  have ih:=sum_filter p A
  have e:dM (x::A)=x.2.m.natAbs+dM A:=by unfold dM;grind
  by_cases c:p x=true
  ·rw[DR c]
   have e':dM (x::A.filter p)=x.2.m.natAbs+dM (A.filter p):=by unfold dM;grind
   omega
  grind
theorem Qo{pq:PQ κ}(pk:Ft pq){m:Nat}{A:cD}(hA:∀x∈A,pq.Ok m x.1):∀{S T:cD},Bs pq m T->(∀x∈S,pq.Ok m x.1)->Bs pq m (sJ pq A S T)/\dM (sJ pq A S T)<=dM T+4*(dM S*dM A)
 | [],T,h,_=>⟨h,by show dM T<=dM T+_;omega⟩
 |x::S,T,h,hS=>by
  have hA':∀y∈jZ pq x.1 A,pq.Ok m y.1:=λy hy=>hA y (iH.mp hy).1
  obtain⟨h1,s1⟩:=Km pk (hS x (aW ..)) (row:=x.2) h hA'
  obtain⟨h2,s2⟩:=Qo pk hA h1 (λy hy=>hS y (bM _ hy))
  refine⟨h2,cW s2 ?_⟩
  have e:dM (x::S)=x.2.m.natAbs+dM S:=by unfold dM;grind
  rw[e,Nat.add_mul]
  have f:dM (jZ pq x.1 A)<=dM A:=sum_filter _ A
  have:=Nat.mul_le_mul_left x.2.m.natAbs f
  omega
def ŋ{pq:PQ κ}(pk:Ft pq){m:Nat}(m4:m<=4){A S:cD}(hA:∀x∈A,pq.Ok m x.1)(hS:∀x∈S,pq.Ok m x.1):a3h pq A S []:=by
 intro i x hx j y hy l hl;have h1:=(Qo pk hA (S:=S.take i) Bs.nil λz hz=>hS z (m9 hz)).1;have ox:=hS x (jA hx);have h2:=(Km pk ox (row:=x.2) (A:=(jZ pq x.1 A).take j) h1 λz hz=>hA z (iH.mp (m9 hz)).1).1;have oy:=hA y (iH.mp (jA hy)).1;have h3:=(Kl (bt:=pq.bt) (dG:=x.1) (aV:=y.1) (row:=x.2) (more:=y.2) (l:=(pq.jn x.1 y.1).take l) h2 λz hz=>(pk.jn ox oy).2 z (m9 hz)).1;have:=h3.len pk m4;omega
end
namespace Go
def getD_at{ss:List aU}{i:Nat}{s:aU}(h:ss[i]?=some s):ss.getD i .leaf=s:=by
 rw[gB,h];rfl
section
variable{n:Nat}{ts:List bA}{ss:List aU}
def Ko{i:Nat}{s:aU}(h:ss[i]?=some s)(g1:(aP n ts ss i).2=true)(g2:(aP n ts ss (i+1)).2=true):∃b,qg n ts (ss.take i) s (sO s (aP n ts ss i).1)=some b/\s.need<=(aP n ts ss i).1.pile.length/\(aP n ts ss (i+1)).1=⟨(aP n ts ss i).1.aR++[b],(aP n ts ss i).1.cI++[(aP n ts ss i).1.pile.drop (dh s (aP n ts ss i).1)],(aP n ts ss i).1.pile.take (dh s (aP n ts ss i).1)++[i]⟩:=by
 rw[RX,aG g1]at g2 ⊢;cases d:rC n ts ss i (aP n ts ss i).1 with
 |none=>grind
 |some r =>
  unfold rC at d;rw[getD_at h]at d;by_cases c:s.need<=(aP n ts ss i).1.pile.length
  ·rw[aG c]at d;obtain⟨b,hb,er⟩:=kI.mp d;grind
  grind
theorem Yd(go:∀i,i<=ss.length->(aP n ts ss i).2=true)(cU:n<=10){k:Nat}{s:aU}(h:ss[k]?=some s):∀j,k+1<=j->j<=ss.length->(aP n ts ss j).1.cI.getD k []=(aP n ts ss k).1.pile.drop (dh s (aP n ts ss k).1)
 |0,h1,_=>absurd h1 (by omega)
 |j+1,h1,h2=>by
  have kl:=(fG.mp h).1
  obtain⟨b,_,_,e⟩:=Ko (n:=n) (ts:=ts) (s:=ss[j]'(by omega)) (bV (by omega)) (go j (by omega)) (go (j+1) h2)
  have I:=jR cU (go j (by omega))
  rw[e]
  show((aP n ts ss j).1.cI++[_]).getD k []=_
  by_cases c:j=k
  ·subst c
   rw[gB,wZ (by rw[I.fl];omega),I.fl,Al]
   grind
  ·rw[gB,w5 (by rw[I.fl];omega),<-gB]
   exact Yd go cU h j (by omega) (by omega)
abbrev fO(n:Nat)(ts:List bA)(ss:List aU)(k:Nat):List Int:=(cF n ts ss).aR.getD k []
abbrev yw(n:Nat)(ts:List bA)(ss:List aU)(k:Nat):List Nat:=(cF n ts ss).cI.getD k []
theorem Wf(go:∀i,i<=ss.length->(aP n ts ss i).2=true)(cU:n<=10){k:Nat}:∀j,k+1<=j->j<=ss.length->(aP n ts ss j).1.aR.getD k []=(aP n ts ss (k+1)).1.aR.getD k []
 |0,h1,_=>absurd h1 (by omega)
 |j+1,h1,h2=>by
  by_cases c:j=k
  ·rw[c]
  obtain⟨b,_,_,e⟩:=Ko (n:=n) (ts:=ts) (s:=ss[j]'(by omega)) (bV (by omega)) (go j (by omega)) (go (j+1) h2)
  have I:=jR cU (go j (by omega))
  rw[e]
  show((aP n ts ss j).1.aR++[_]).getD k []=_
  rw[gB,w5 (by rw[I.tl];omega),<-gB]
  exact Wf go cU j (by omega) (by omega)
def Qp(go:∀i,i<=ss.length->(aP n ts ss i).2=true)(cU:n<=10){k j:Nat}(h1:k+1<=j)(h2:j<=ss.length):(aP n ts ss j).1.aR.getD k []=fO n ts ss k:=by
 rw[Wf go cU j h1 h2];exact(Wf go cU ss.length (by omega) (aO _)).symm
structure StE(n:Nat)(ts:List bA)(ss:List aU)(k:Nat)(s:aU):Prop where
 bB:qg n ts (ss.take k) s ((yw n ts ss k).map (fO n ts ss))=some (fO n ts ss k)
 len:(yw n ts ss k).length=s.need
 lt:∀j∈yw n ts ss k,j<k
 pile:(aP n ts ss (k+1)).1.pile=(aP n ts ss k).1.pile.take (dh s (aP n ts ss k).1)++[k]
 feed:yw n ts ss k=(aP n ts ss k).1.pile.drop (dh s (aP n ts ss k).1)
def Bu(go:∀i,i<=ss.length->(aP n ts ss i).2=true)(cU:n<=10){k:Nat}{s:aU}(h:ss[k]?=some s):StE n ts ss k s:=by
 have kl:=(fG.mp h).1;obtain⟨b,hb,hn,e⟩:=Ko (n:=n) (ts:=ts) h (go k (by omega)) (go (k+1) (by omega));have I:=jR cU (go k (by omega));have ef:yw n ts ss k=(aP n ts ss k).1.pile.drop (dh s (aP n ts ss k).1):=Yd go cU h ss.length (by omega) (aO _);have lt:∀j∈yw n ts ss k,j<k:=λj hj=>by
  rw[ef]at hj;exact I.lt j (xr hj)
 have eu:sO s (aP n ts ss k).1=(yw n ts ss k).map (fO n ts ss):=by
  unfold sO;rw[<-ef];exact tM λj hj=>Qp go cU (lt j hj) (by omega)
 have eb:fO n ts ss k=b:=by
  rw[<-Qp go cU (Nat.le_refl (k+1)) (by omega),e];show((aP n ts ss k).1.aR++[b]).getD k []=b;rw[gB,wZ (by rw[I.tl];omega),I.tl,Al];rfl
 refine⟨by grind,?_,lt,by rw[e],ef⟩;rw[ef,kW];unfold dh;omega
def uM(p:Int->Bool):(Mq p).Pairwise (· < ·):=by
 unfold Mq;refine Ip _ ?_;rw[Eg];exact List.pairwise_lt_range.imp λh=>by omega
def Wg{l:List α}(h:l.length=1):∃i,l=[i]:=by
 rcases l with _|⟨i,_|⟨j,l⟩⟩
 ·cases h
 ·grind
 ·cases h
def two_of{l:List α}(h:l.length=2):∃i j,l=[i,j]:=by
 rcases l with _|⟨i,_|⟨j,_|⟨x,l⟩⟩⟩
 ·cases h
 ·cases h
 ·grind
 ·cases h
inductive StB(n:Nat)(ts:List bA)(ss:List aU)(k:Nat):aU->Prop
 |leaf:yw n ts ss k=[]->fO n ts ss k=[]->StB n ts ss k .leaf
 |inn {i v}:yw n ts ss k=[i]->i<k->0<=v->v<(n:Int)->v∉fO n ts ss i->fO n ts ss k=dJ (fO n ts ss i) [v]->aU.out v∉ss.take k->StB n ts ss k (.inn v)
 |tie {i a b}:yw n ts ss k=[i]->i<k->(a,b)∈ts->a∈fO n ts ss i->b∈fO n ts ss i->fO n ts ss k=fO n ts ss i->StB n ts ss k (.tie a b)
 |out {i v}:yw n ts ss k=[i]->i<k->v∈fO n ts ss i->fO n ts ss k=iQ (fO n ts ss i) [v]->aU.out v∉ss.take k->StB n ts ss k (.out v)
 |join {i j}:yw n ts ss k=[i,j]->i<k->j<k->fO n ts ss i=fO n ts ss j->fO n ts ss k=fO n ts ss i->StB n ts ss k .join
set_option tactic.hygienic true in
def a1c{k:Nat}{s:aU}(S:StE n ts ss k s):StB n ts ss k s:=by
 have hb:=S.bB;cases s with
 |leaf=>exact .leaf (NQ.mp S.len) (gh hb).symm
 |inn v =>
  obtain⟨i,ei⟩:=Wg S.len;have lt:=S.lt i (by grind);rw[ei]at hb;unfold qg at hb;dsimp only at hb;split at hb
  ·rename_i c;exact .inn ei lt c.1.1 c.1.2 c.2.1 (gh hb).symm c.2.2
  ·cases hb
 |tie a b =>
  obtain⟨i,ei⟩:=Wg S.len;have lt:=S.lt i (by grind);rw[ei]at hb;unfold qg at hb;dsimp only at hb;split at hb
  ·rename_i c;have c2:iQ [a,b] (fO n ts ss i)=[]:=c.2.1;have mm:∀x∈[a,b],x∈fO n ts ss i:=λx hx=>by
    cases d:decide (x∈fO n ts ss i)with
    |true=>grind
    |false =>
     have:x∈iQ [a,b] (fO n ts ss i):=iH.mpr ⟨hx,by rw[d];rfl⟩;grind
   exact .tie ei lt c.1 (mm a (by simp)) (mm b (by simp)) (gh hb).symm
  ·cases hb
 |out v =>
  obtain⟨i,ei⟩:=Wg S.len;have lt:=S.lt i (by grind);rw[ei]at hb;unfold qg at hb;dsimp only at hb;split at hb
  ·rename_i c;exact .out ei lt c.1 (gh hb).symm c.2
  ·cases hb
 |join =>
  obtain⟨i,j,ei⟩:=two_of S.len;have lt:=S.lt i (by rw[ei];simp);have lt':=S.lt j (by rw[ei];simp);rw[ei]at hb;unfold qg at hb;dsimp only at hb;split at hb
  ·rename_i c;exact .join ei lt lt' c (gh hb).symm
  ·cases hb
def Kq(cU:n<=10)(all:∀(k:Nat) (s:aU),ss[k]?=some s->StB n ts ss k s):∀k,k<ss.length->(fO n ts ss k).Pairwise (· < ·)/\∀v∈fO n ts ss k,0<=v/\v<(n:Int):=by
 intro k
 induction k using Nat.strongRecOn with
 |_ k ih =>
  intro kl;have S:=all k _ (bV kl);generalize ss[k]=s at S;cases S with
  |leaf _ e=>rw[e];exact⟨.nil,λv h=>absurd h d7⟩
  | @inn i v _ lt v0 vn _ e _ =>
   rw[e];refine⟨uM _,λx hx=>?_⟩;have:=(zc.mp hx).2.2;rcases eZ this with h|h
   ·exact(ih i lt (by omega)).2 x h
   ·rw[bw.mp h];exact⟨v0,vn⟩
  | @tie i a b _ lt _ _ _ e=>rw[e];exact ih i lt (by omega)
  | @out i v _ lt _ e _ =>
   rw[e];have:=ih i lt (by omega);exact⟨this.1.filter _,λx hx=>this.2 x (iH.mp hx).1⟩
  | @join i j _ lt _ _ e=>rw[e];exact ih i lt (by omega)
def iY(cU:n<=10){p q:List Int}(hp:∀v∈p,0<=v/\v<(n:Int))(hq:∀v∈q,0<=v/\v<(n:Int)){v:Int}:v∈dJ p q↔v∈p\/v∈q:=by
 refine⟨λh=>eZ (zc.mp h).2.2,λh=>zc.mpr ?_⟩;grind
def tD(cU:n<=10){p q:List Int}(ap:p.Pairwise (· < ·))(hp:∀v∈p,0<=v/\v<(n:Int))(h:∀v∈q,v∈p):dJ p q=p/\dJ q p=p:=by
 have hq:=λv hv=>hp v (h v hv);refine⟨uL (uM _) ap λv=>?_,uL (uM _) ap λv=>?_⟩
 ·rw[iY cU hp hq];exact⟨λz=>z.elim id (h v),.inl⟩
 ·rw[iY cU hq hp];exact⟨λz=>z.elim (h v) id,.inr⟩
def yx{b:List Int}(h:b.Pairwise (· < ·)):b.Nodup:=h.imp λh=>by omega
def a1d(cU:n<=10){p:List Int}{v:Int}(ap:p.Pairwise (· < ·))(hp:∀v∈p,0<=v/\v<(n:Int))(hv:0<=v/\v<(n:Int))(h:v∉p):(dJ p [v]).length=p.length+1:=by
 have:(dJ p [v]).Perm (v::p):=(Ik (yx (uM _)) (jC.mpr ⟨h,yx ap⟩)).mpr λx=>by
  show x∈dJ p [v]↔_;rw[show x∈dJ p [v]↔x∈p\/x∈[v]from iY cU hp (λy hy=>by rw[bw.mp hy];exact hv)];simp[or_comm]
 rw[this.length_eq];rfl
def a1e{p:List Int}{v:Int}(ap:p.Pairwise (· < ·))(h:v∈p):(iQ p [v]).length+1=p.length:=by
 have:(iQ p [v]).Perm (p.erase v):=(Ik ((yx ap).filter _) ((yx ap).erase v)).mpr λx=>by
  rw[(yx ap).mem_erase_iff,iH];simp[and_comm]
 rw[this.length_eq,List.length_erase_of_mem h];grind
theorem R3(go:∀i,i<=ss.length->(aP n ts ss i).2=true)(cU:n<=10):∀i,i<=ss.length->(aP n ts ss i).1.pile.Pairwise (· < ·)
 |0,_=>.nil
 |i+1,il=>by
  have S:=Bu (n:=n) (ts:=ts) go cU (List.getElem?_eq_getElem (show i<ss.length by omega))
  have I:=jR cU (go i (by omega))
  rw[S.pile]
  refine TY.mpr ⟨(R3 go cU i (by omega)).sublist (Oe _ _),zQ _ _,λa ha b hb=>?_⟩
  rw[bw.mp hb]
  exact I.lt a (m9 ha)
end
end Go
namespace Go
section
variable [DecidableEq κ]
variable{n:Nat}{ts:List bA}{ss:List aU}
abbrev Dh(pq:PQ κ)(n:Nat)(ts:List bA)(ss:List aU)(k:Nat):List cD:=Le pq ss (cF n ts ss).aR (cF n ts ss).cI k
def Qq(pq:PQ κ){k j:Nat}(h:j<k):(Dh pq n ts ss (k+1)).getD j []=(Dh pq n ts ss k).getD j []:=by
 show(Dh pq n ts ss k++[_]).getD j []=_;rw[gB,w5 (by rw[j6];exact h),<-gB]
def Ib(pq:PQ κ)(k:Nat):(Dh pq n ts ss (k+1)).getD k []=J1 pq (cF n ts ss).aR (Dh pq n ts ss k) (ss.getD k .leaf) (fO n ts ss k) (yw n ts ss k):=by
 show(Dh pq n ts ss k++[_]).getD k []=_;rw[gB,wZ (by rw[j6];grind),j6,Al];rfl
theorem vf(pq:PQ κ){j:Nat}:∀{k:Nat},j<k->(Dh pq n ts ss k).getD j []=(Dh pq n ts ss (j+1)).getD j []
 |0,h=>absurd h (Ag _)
 |k+1,h=>by
  by_cases c:j=k
  ·rw[c]
  ·rw[Qq pq (show j<k by omega)]
   exact vf pq (by omega)
structure GoI(pq:PQ κ)(n:Nat)(ts:List bA)(ss:List aU)(k:Nat):Prop where
 ok:∀j,j<k->Bs pq (fO n ts ss j).length ((Dh pq n ts ss k).getD j [])
 cost:∃c:Nat->Nat,(∀j,j<k->dM ((Dh pq n ts ss k).getD j [])<=16^c j)/\((aP n ts ss k).1.pile.map c).sum<=k
theorem Ō{c:Nat->Nat}:∀{l:List Nat}{i:Nat},i∈l->c i<=(l.map c).sum
 |a::l,i,h=>by
  rw[cL,uQ]
  rcases cH.mp h with h|h
  ·rw[h];omega
  ·have:=Ō (c:=c) h
   omega
theorem a5n:∀{T:cD}{x:dD×fH},x∈T->x.2.m.natAbs<=dM T
 |y::T,x,h=>by
  have e:dM (y::T)=y.2.m.natAbs+dM T:=by unfold dM;grind
  rw[e]
  rcases cH.mp h with h|h
  ·rw[h];omega
  ·have:=a5n h
   omega
def R4{c:Nat}(h:dM T<=16^c)(l:c<=800):JX T:=λx hx=>by
 have h1:=a5n hx;have e:(16:Nat)^c=2^(4*c):=by rw[Nat.pow_mul]
 have:(2:Nat)^(4*c)<2^4000:=Nat.pow_lt_pow_right (by decide) (by omega);omega
def Fv{v:Int}(h:v∈B):B.idxOf v<B.length:=Ð h
def Kr(Qn:JQ P w K mg base κ)(pk:Ft Qn.pq){aR:List (List Int)}{fj:List cD}{iM:aU}{bB:List Int}{i:Nat}(nj:iM≠.join)(il:i<fj.length)(hT:Bs Qn.pq (aR.getD i []).length (fj.getD i []))(m4:(aR.getD i []).length<=4)(b4:bB.length<=4)(fit:HW Qn iM (dJ bB (aR.getD i [])) (aR.getD i []).length)
  (hb:∀s,Qn.pq.Ok (aR.getD i []).length s->(MP Qn.pq s iM (dJ bB (aR.getD i []))).length<=4/\∀x∈MP Qn.pq s iM (dJ bB (aR.getD i [])),Qn.pq.Ok bB.length x.1):Aw Qn aR fj iM bB [i]/\Bs Qn.pq bB.length (J1 Qn.pq aR fj iM bB [i])/\dM (J1 Qn.pq aR fj iM bB [i])<=4*dM (fj.getD i []):=by
 have l9:=hT.len pk m4;obtain⟨h1,h2⟩:=Kh (pq:=Qn.pq) (iM:=iM) (B:=dJ bB (aR.getD i [])) (S:=fj.getD i []) Bs.nil hT.ok hb;refine⟨⟨nj,il,hT.ok,fit,by omega,Z0 pk b4 hT.ok hb⟩,h1,?_⟩;have e:dM []=0:=rfl;rw[e,Nat.zero_add]at h2;exact h2
def two_step(Qn:JQ P w K mg base κ)(pk:Ft Qn.pq){aR:List (List Int)}{fj:List cD}{bB:List Int}{i j m ci cj:Nat}(il:i<fj.length)(jl:j<fj.length)(nij:i≠j)(em:bB.length=m)(m4:m<=4)(hi:Bs Qn.pq m (fj.getD i []))(hj:Bs Qn.pq m (fj.getD j []))(si:dM (fj.getD i [])<=16^ci)(sj:dM (fj.getD j [])<=16^cj)(li:ci<=800)(lj:cj<=800):Aw Qn aR fj .join bB [i,j]/\Bs Qn.pq bB.length (J1 Qn.pq aR fj .join bB [i,j])/\dM (J1 Qn.pq aR fj .join bB [i,j])<=4*(dM (fj.getD i [])*dM (fj.getD j [])):=by
 have l1:=hi.len pk m4;have l2:=hj.len pk m4;obtain⟨h1,h2⟩:=Qo pk (A:=fj.getD j []) hj.ok (S:=fj.getD i []) Bs.nil hi.ok;refine⟨⟨Z,il,jl,nij,m,by omega,hi.ok,hj.ok,hj.nd,by omega,l2,R4 si li,R4 sj lj,ŋ pk m4 hj.ok hi.ok⟩,by rw[em];exact h1,?_⟩;have e:dM []=0:=rfl;rw[e,Nat.zero_add]at h2;exact h2
def pow_step{c x:Nat}(h:x<=16^c):4*x<=16^(1+c):=by
 grind
def Ye(Qn:JQ P w K mg base κ)(pk:Ft Qn.pq)(hPl:∀k:Nat,k<Qn.n->Qn.Pl k)(hTi:∀t∈Qn.ts,Qn.Ti t)(ne:∀t∈Qn.ts,t.1≠t.2)(cU:Qn.n<=10)(l8:ss.length<=800)(wU:DP Qn.n Qn.ts ss (cF Qn.n Qn.ts ss)=.ok)(b4:∀b∈(cF Qn.n Qn.ts ss).aR,b.length<=4){k:Nat}(kl:k<ss.length)(I:GoI Qn.pq Qn.n Qn.ts ss k):Aw Qn (cF Qn.n Qn.ts ss).aR (Dh Qn.pq Qn.n Qn.ts ss k) (ss.getD k .leaf) (fO Qn.n Qn.ts ss k) (yw Qn.n Qn.ts ss k)/\GoI Qn.pq Qn.n Qn.ts ss (k+1):=by
 have go:=Ŀ cU wU;have RI:=zq cU wU;have all:∀(k:Nat) (s:aU),ss[k]?=some s->StB Qn.n Qn.ts ss k s:=λk s h=>a1c (Bu go cU h);have tp:=Kq cU all;have t4:∀j,j<ss.length->(fO Qn.n Qn.ts ss j).length<=4:=λj hj=>by
  have hl:j<(cF Qn.n Qn.ts ss).aR.length:=by rw[RI.tl];exact hj
  have e:fO Qn.n Qn.ts ss j=(cF Qn.n Qn.ts ss).aR[j]:=by
   show(cF Qn.n Qn.ts ss).aR.getD j []=_;rw[gB,bV hl];rfl
  rw[e];exact b4 _ (qy hl)
 have hs:=bV kl;have S:=Bu (n:=Qn.n) (ts:=Qn.ts) go cU hs;have SB:=a1c S;have es:=getD_at hs;obtain⟨c,hc,hsum⟩:=I.cost;have c8:∀i∈yw Qn.n Qn.ts ss k,c i<=800:=λi hi=>by
  have:c i<=_:=Ō (c:=c) (l:=(aP Qn.n Qn.ts ss k).1.pile) (by rw[S.feed]at hi;exact xr hi);omega
 suffices h:Aw Qn (cF Qn.n Qn.ts ss).aR (Dh Qn.pq Qn.n Qn.ts ss k) (ss.getD k .leaf) (fO Qn.n Qn.ts ss k) (yw Qn.n Qn.ts ss k)/\Bs Qn.pq (fO Qn.n Qn.ts ss k).length (J1 Qn.pq (cF Qn.n Qn.ts ss).aR (Dh Qn.pq Qn.n Qn.ts ss k) (ss.getD k .leaf) (fO Qn.n Qn.ts ss k) (yw Qn.n Qn.ts ss k))/\dM (J1 Qn.pq (cF Qn.n Qn.ts ss).aR (Dh Qn.pq Qn.n Qn.ts ss k) (ss.getD k .leaf) (fO Qn.n Qn.ts ss k) (yw Qn.n Qn.ts ss k))<=16^(1+((yw Qn.n Qn.ts ss k).map c).sum) by
  obtain⟨h1,h2,h3⟩:=h;refine⟨h1,⟨λj hj=>?_,λj=>if j=k then 1+((yw Qn.n Qn.ts ss k).map c).sum else c j,λj hj=>?_,?_⟩⟩
  ·by_cases e:j=k
   ·rw[e,Ib];exact h2
   ·rw[Qq _ (by omega)];exact I.ok j (by omega)
  ·show dM _<=16^(if j=k then 1+((yw Qn.n Qn.ts ss k).map c).sum else c j);by_cases e:j=k
   ·rw[aG e,e,Ib];exact h3
   ·rw[aB e,Qq _ (by omega)];exact hc j (by omega)
  ·have Z97:=jR cU (go k (by omega));rw[S.pile,dF,Ja];have e1:((aP Qn.n Qn.ts ss k).1.pile.take (dh ss[k] (aP Qn.n Qn.ts ss k).1)).map (λj=>if j=k then 1+((yw Qn.n Qn.ts ss k).map c).sum else c j)=((aP Qn.n Qn.ts ss k).1.pile.take (dh ss[k] (aP Qn.n Qn.ts ss k).1)).map c:=tM λj hj=>aB (by have:=Z97.lt j (m9 hj);omega);have e2:([k].map λj=>if j=k then 1+((yw Qn.n Qn.ts ss k).map c).sum else c j).sum=1+((yw Qn.n Qn.ts ss k).map c).sum:=by
    show(if k=k then 1+((yw Qn.n Qn.ts ss k).map c).sum else c k)+0=_;rw[aG Z,Nat.add_zero]
   rw[e1,e2,S.feed];have e3:((aP Qn.n Qn.ts ss k).1.pile.map c).sum=(((aP Qn.n Qn.ts ss k).1.pile.take (dh ss[k] (aP Qn.n Qn.ts ss k).1)).map c).sum+(((aP Qn.n Qn.ts ss k).1.pile.drop (dh ss[k] (aP Qn.n Qn.ts ss k).1)).map c).sum:=by
    rw[<-Ja,<-dF,rR]
   omega
 rw[es];have lk:(Dh Qn.pq Qn.n Qn.ts ss k).length=k:=j6 _ _ _ _ k;have pa:=R3 (n:=Qn.n) (ts:=Qn.ts) go cU k (by omega);have fd:=S.feed;obtain⟨ak,bk⟩:=tp k kl;have k4:=t4 k kl;generalize ss[k]=s at SB fd ⊢;cases SB with
 |leaf ef et =>
  rw[ef,et];refine⟨trivial,⟨zQ _ _,λx hx=>?_⟩,by show 1<=16^1;decide⟩;rw[bw.mp hx];exact pk.leaf
 | @inn i v ef lt v0 vn nv et _ =>
  obtain⟨ai,bi⟩:=tp i (by omega);have ci:=hc i lt;have e1:dJ (fO Qn.n Qn.ts ss k) (fO Qn.n Qn.ts ss i)=fO Qn.n Qn.ts ss k:=(tD cU ak bk λx hx=>by rw[et];exact(iY cU bi λy hy=>by rw[bw.mp hy];exact⟨v0,vn⟩).mpr (.inl hx)).1;have e2:(fO Qn.n Qn.ts ss k).length=(fO Qn.n Qn.ts ss i).length+1:=by rw[et];exact a1d cU ai bi ⟨v0,vn⟩ nv
  have vk:v∈fO Qn.n Qn.ts ss k:=by rw[et];exact(iY cU bi λy hy=>by rw[bw.mp hy];exact⟨v0,vn⟩).mpr (.inr (vV v))
  rw[ef];obtain⟨h1,h2,h3⟩:=Kr Qn pk (aR:=(cF Qn.n Qn.ts ss).aR) (fj:=Dh Qn.pq Qn.n Qn.ts ss k) (iM:=.inn v) (bB:=fO Qn.n Qn.ts ss k) (i:=i) (λz=>by cases z) (by omega) (I.ok i lt) (t4 i (by omega)) k4 (by
   rw[e1];exact⟨⟨v.toNat,by omega⟩,vk,e2,t4 i (by omega)⟩) (λs hs=>by
   rw[e1];have q:(fO Qn.n Qn.ts ss k).idxOf v<(fO Qn.n Qn.ts ss i).length+1:=by rw[<-e2];exact Fv vk
   obtain⟨g1,g2⟩:=pk.inn (p:=(fO Qn.n Qn.ts ss k).idxOf v) (v:=v.toNat) hs (Nat.le_of_lt_succ q);exact⟨g1,λx hx=>by rw[e2];exact g2 x hx⟩)
  exact⟨h1,h2,cW h3 (pow_step (by rw[zV,zW];exact ci))⟩
 | @tie i a b ef lt ht ma mb et =>
  obtain⟨ai,bi⟩:=tp i (by omega);have ci:=hc i lt;have e1:dJ (fO Qn.n Qn.ts ss k) (fO Qn.n Qn.ts ss i)=fO Qn.n Qn.ts ss i:=by rw[et];exact(tD cU ai bi λ_ h=>h).1
  rw[ef];obtain⟨h1,h2,h3⟩:=Kr Qn pk (aR:=(cF Qn.n Qn.ts ss).aR) (fj:=Dh Qn.pq Qn.n Qn.ts ss k) (iM:=.tie a b) (bB:=fO Qn.n Qn.ts ss k) (i:=i) (λz=>by cases z) (by omega) (I.ok i lt) (t4 i (by omega)) k4 (by
   rw[e1];exact⟨ma,mb,ne _ ht,Z,Nat.le_succ_of_le (t4 i (by omega)),hTi _ ht⟩) (λs hs=>by
   rw[e1,et];exact pk.tie hs (Fv ma) (Fv mb))
  exact⟨h1,h2,cW h3 (pow_step (by rw[zV,zW];exact ci))⟩
 | @out i v ef lt mv et _ =>
  obtain⟨ai,bi⟩:=tp i (by omega);have ci:=hc i lt;have e1:dJ (fO Qn.n Qn.ts ss k) (fO Qn.n Qn.ts ss i)=fO Qn.n Qn.ts ss i:=(tD cU ai bi λx hx=>by rw[et]at hx;exact(iH.mp hx).1).2;have e2:(fO Qn.n Qn.ts ss k).length+1=(fO Qn.n Qn.ts ss i).length:=by rw[et];exact a1e ai mv
  have bv:=bi v mv;rw[ef];obtain⟨h1,h2,h3⟩:=Kr Qn pk (aR:=(cF Qn.n Qn.ts ss).aR) (fj:=Dh Qn.pq Qn.n Qn.ts ss k) (iM:=.out v) (bB:=fO Qn.n Qn.ts ss k) (i:=i) (λz=>by cases z) (by omega) (I.ok i lt) (t4 i (by omega)) k4 (by
   rw[e1];exact⟨⟨v.toNat,by omega,hPl _ (by omega)⟩,mv,Z,Nat.le_succ_of_le (t4 i (by omega))⟩) (λs hs=>by
   rw[e1];have hs':Qn.pq.Ok ((fO Qn.n Qn.ts ss k).length+1) s:=by rw[e2];exact hs
   exact pk.out hs' (by rw[e2];exact Fv mv))
  exact⟨h1,h2,cW h3 (pow_step (by rw[zV,zW];exact ci))⟩
 | @join i j ef lt lt' ŵ et =>
  have nij:i≠j:=λz=>by
   have pd:=pa.sublist (List.drop_sublist (dh .join (aP Qn.n Qn.ts ss k).1) _);rw[<-fd,ef]at pd;have:=(zU.mp pd).1 j (vV j);omega
  have ci:=hc i lt;have cj:=hc j lt';have c1:=c8 i (by rw[ef];simp);have c2:=c8 j (by rw[ef];simp);have oi:=I.ok i lt;have oj:=I.ok j lt';rw[<-et]at oi;rw[<-ŵ,<-et]at oj;rw[ef];obtain⟨h1,h2,h3⟩:=two_step Qn pk (aR:=(cF Qn.n Qn.ts ss).aR) (fj:=Dh Qn.pq Qn.n Qn.ts ss k) (bB:=fO Qn.n Qn.ts ss k) (by omega) (by omega) nij Z k4 oi oj ci cj c1 c2;refine⟨h1,h2,cW h3 (pow_step ?_)⟩;have e4:([i,j].map c).sum=c i+c j:=by
   show c i+(c j+0)=_;omega
  rw[e4,Nat.pow_add];exact Nat.mul_le_mul ci cj
theorem ō(Qn:JQ P w K mg base κ)(pk:Ft Qn.pq)(hPl:∀k:Nat,k<Qn.n->Qn.Pl k)(hTi:∀t∈Qn.ts,Qn.Ti t)(ne:∀t∈Qn.ts,t.1≠t.2)(cU:Qn.n<=10)(l8:ss.length<=800)(wU:DP Qn.n Qn.ts ss (cF Qn.n Qn.ts ss)=.ok)(b4:∀b∈(cF Qn.n Qn.ts ss).aR,b.length<=4):∀k,k<=ss.length->GoI Qn.pq Qn.n Qn.ts ss k
 |0,_=>⟨λj h=>absurd h (Ag _),λ_=>0,λj h=>absurd h (Ag _),aO _⟩
 |k+1,h=>(Ye Qn pk hPl hTi ne cU l8 wU b4 (by omega) (ō Qn pk hPl hTi ne cU l8 wU b4 k (by omega))).2
def Rb(Qn:JQ P w K mg base κ)(pk:Ft Qn.pq)(hPl:∀k:Nat,k<Qn.n->Qn.Pl k)(hTi:∀t∈Qn.ts,Qn.Ti t)(ne:∀t∈Qn.ts,t.1≠t.2)(cU:Qn.n<=10)(l8:ss.length<=800)(wU:DP Qn.n Qn.ts ss (cF Qn.n Qn.ts ss)=.ok)(b4:∀b∈(cF Qn.n Qn.ts ss).aR,b.length<=4) :
  (∀k,k<ss.length->Aw Qn (cF Qn.n Qn.ts ss).aR (Le Qn.pq ss (cF Qn.n Qn.ts ss).aR (cF Qn.n Qn.ts ss).cI k) (ss.getD k .leaf) ((cF Qn.n Qn.ts ss).aR.getD k []) ((cF Qn.n Qn.ts ss).cI.getD k []))/\
  (∀T∈Le Qn.pq ss (cF Qn.n Qn.ts ss).aR (cF Qn.n Qn.ts ss).cI ss.length,T.length<=900/\(T.map (·.1)).Nodup):=by
 have A:=ō Qn pk hPl hTi ne cU l8 wU b4;refine⟨λk hk=>(Ye Qn pk hPl hTi ne cU l8 wU b4 hk (A k (by omega))).1,λT hT=>?_⟩;obtain⟨j,hj,e⟩:=uO hT;rw[j6]at hj;have h:=(A ss.length (aO _)).ok j hj;have e2:(Dh Qn.pq Qn.n Qn.ts ss ss.length).getD j []=T:=by
  rw[gB,bV (by rw[j6];exact hj),<-e];rfl
 rw[e2]at h;have RI:=zq cU wU;have hl:j<(cF Qn.n Qn.ts ss).aR.length:=by rw[RI.tl];exact hj
 refine⟨h.len pk ?_,h.nd⟩;show((cF Qn.n Qn.ts ss).aR.getD j []).length<=4;rw[gB,bV hl];exact b4 _ (qy hl)
end
end Go
namespace Go
def codeS:dD->Nat
 | []=>0
 |x::s=>x.toNat+4*codeS s
theorem Yg{c:Int}(c4:c<=4):∀{m:Nat}{s:dD},vU c m s->codeS s<4^m
 |_,[],⟨rfl,_⟩=>by decide
 |_,x::s,⟨rfl,h⟩=>by
  have h1:=h x (aW ..)
  have h2:=Yg c4 (m:=s.length) (s:=s) ⟨Z,λy hy=>h y (bM _ hy)⟩
  show x.toNat+4*codeS s<4^(s.length+1)
  grind
theorem code_inj{c:Int}(c4:c<=4):∀{m:Nat}{s t:dD},vU c m s->vU c m t->codeS s=codeS t->s=t
 |_,[],[],_,_,_=>rfl
 |_,[],y::t,⟨h,_⟩,⟨h',_⟩,_=>by grind
 |_,x::s,[],⟨h,_⟩,⟨h',_⟩,_=>by grind
 |_,x::s,y::t,⟨h,a⟩,⟨h',b⟩,e=>by
  have e:x.toNat+4*codeS s=y.toNat+4*codeS t:=e
  have h1:=a x (aW ..)
  have h2:=b y (aW ..)
  have lt:t.length=s.length:=by
   grind
  have e1:x=y:=by omega
  have e2:s=t:=code_inj c4 (m:=s.length) ⟨Z,λz hz=>a z (bM _ hz)⟩ ⟨lt,λz hz=>b z (bM _ hz)⟩ (by omega)
  rw[e1,e2]
theorem Ŏ{α β:Type}{f:α->β}:∀{l:List α},l.Nodup->(∀a∈l,∀b∈l,f a=f b->a=b)->(l.map f).Nodup
 | [],_,_=>Ah
 |a::l,nd,h=>by
  rw[jC]at nd
  rw[cL,jC]
  refine⟨λz=>?_,Ŏ nd.2 λx hx y hy=>h x (bM _ hx) y (bM _ hy)⟩
  grind
def Qs{c:Int}(c4:c<=4){m:Nat}{l:List dD}(m4:m<=4)(nd:l.Nodup)(h:∀s∈l,vU c m s):l.length<=900:=by
 have h1:=J5 (m:=4^m) (Ŏ (f:=codeS) nd λa ha b hb=>code_inj c4 (h a ha) (h b hb)) (λx hx=>by
  obtain⟨s,hs,rfl⟩:=gn.mp hx;exact Yg c4 (h s hs))
 rw[aN]at h1;have h2:4^m<=4^4:=Nat.pow_le_pow_right (by decide) m4;grind
def Ks{c:Int}{m p:Nat}{s:dD}{x:Int}(h:vU c m s)(hp:p<=m)(hx:0<=x/\x<c):vU c (m+1) (ou s p x):=by
 obtain⟨h1,h2⟩:=h;refine⟨?_,λy hy=>?_⟩
 ·show(s.take p++([x]++s.drop p)).length=m+1;grind
 ·rcases b7.mp (show y∈s.take p++([x]++s.drop p)from hy)with z|z
  ·grind
  grind
def Wh{c:Int}{m p:Nat}{s:dD}(h:vU c (m+1) s)(hp:p<m+1):vU c m (Bm s p):=by
 obtain⟨h1,h2⟩:=h;refine⟨?_,λy hy=>?_⟩
 ·show(s.take p++s.drop (p+1)).length=m;grind
 ·rcases b7.mp (show y∈s.take p++s.drop (p+1)from hy)with z|z
  ·grind
  grind
def Wi(c:Int):vU c 0 []:=⟨Z,λ_ h=>absurd h d7⟩
def a5o{c:Int}{m i:Nat}{s:dD}(h:vU c m s)(hi:i<m):0<=fP s i/\fP s i<c:=by
 have l:i<s.length:=by rw[h.1];exact hi
 unfold fP;rw[gB,bV l];exact h.2 _ (qy l)
def a1f{m a b:Nat}{s:dD}(h:vU 3 m s):vU 3 m (rD s a b):=by
 refine⟨by unfold rD;rw[aN,zZ];exact h.1,λy hy=>?_⟩;obtain⟨k,hk,rfl⟩:=gn.mp hy;have:=a5o h (i:=k) (by rw[<-h.1];exact mF.mp hk);split
 ·omega
 ·exact this
theorem ŏ:∀{m:Nat}{s t:dD},vU 3 m s->vU 3 m t->vU 3 m (List.zipWith max s t)
 |_,[],_,⟨rfl,_⟩,_=>⟨Z,λ_ h=>absurd h d7⟩
 |_,x::s,[],⟨h,_⟩,⟨h',_⟩=>by grind
 |_,x::s,y::t,⟨rfl,a⟩,⟨h',b⟩=>by
  have lt:t.length=s.length:=by
   grind
  obtain⟨l,g⟩:=ŏ (m:=s.length) (s:=s) (t:=t) ⟨Z,λz hz=>a z (bM _ hz)⟩ ⟨lt,λz hz=>b z (bM _ hz)⟩
  refine⟨by grind,λz hz=>?_⟩
  rcases cH.mp (show z∈max x y::List.zipWith max s t from hz)with e|e
  ·have:=a x (aW ..)
   have:=b y (aW ..)
   rw[e]
   omega
  ·exact g z e
def Bv{c:Int}{m:Nat}{s:dD}{a:Int}(h:vU c m s):[(s,a)].length<=4/\∀x∈[(s,a)],vU c m x.1:=⟨by grind,λx hx=>by grind⟩
def Ő{c:Int}{m:Nat}:([]:List (dD×Int)).length<=4/\∀x∈([]:List (dD×Int)),vU c m x.1:=⟨dI _,λx hx=>absurd hx d7⟩
def R5{c:Int}{m:Nat}{s t:dD}{a b:Int}(h:vU c m s)(h':vU c m t):[(s,a),(t,b)].length<=4/\∀x∈[(s,a),(t,b)],vU c m x.1:=⟨by grind,λx hx=>by
 grind⟩
def okC{c:Nat}(c4:c<=4)(ws:List Int):Ft (pqC c ws) where
 leaf:=Wi _
 inn:=λ{m s p v} h hp=>by
  refine⟨by show((List.range c).map _).length<=4;grind,λx hx=>?_⟩
  obtain⟨k,hk,rfl⟩:=gn.mp (show x∈(List.range c).map _ from hx)
  have:=mF.mp hk
  exact Ks h hp ⟨by omega,by omega⟩
 tie:=λ{m s a b t} h ha hb=>by
  show(if fP s a≠fP s b then [(s,(0:Int))]else []).length<=4/\∀x∈(if fP s a≠fP s b then [(s,(0:Int))]else []),vU c m x.1
  split
  ·exact Bv h
  ·exact Ő
 out:=λh hp=>Bv (Wh h hp)
 jn:=λ{m s t} h _=>⟨by show 1<=4;decide,λx hx=>by rw[bw.mp (show x∈[s]from hx)];exact h⟩
 fin:=λm4 nd h=>Qs (c:=(c:Int)) (by omega) m4 nd h
def okA(ws:List Int):Ft (pqA ws) where
 leaf:=Wi _
 inn:=λh hp=>R5 (Ks h hp ⟨by decide,by decide⟩) (Ks h hp ⟨by decide,by decide⟩)
 tie:=λ{m s a b t} h ha hb=>by
  show(if fP s a+fP s b<2 then [(s,(0:Int))]else []).length<=4/\∀x∈(if fP s a+fP s b<2 then [(s,(0:Int))]else []),vU 2 m x.1
  split
  ·exact Bv h
  ·exact Ő
 out:=λh hp=>Bv (Wh h hp)
 jn:=λ{m s t} h _=>⟨by show 1<=4;decide,λx hx=>by rw[bw.mp (show x∈[s]from hx)];exact h⟩
 fin:=λm4 nd h=>Qs (c:=2) (by decide) m4 nd h
def okW(ws:List Int):Ft (pqW ws) where
 leaf:=Wi _
 inn:=λh hp=>R5 (Ks h hp ⟨by decide,by decide⟩) (Ks h hp ⟨by decide,by decide⟩)
 tie:=λ{m s a b t} h ha hb=>by
  show(if(fP s a=0/\fP s b=2)\/(fP s a=2/\fP s b=0)then [(rD s a b,(0:Int))]else [(s,0)]).length<=4/\∀x∈(if(fP s a=0/\fP s b=2)\/(fP s a=2/\fP s b=0)then [(rD s a b,(0:Int))]else [(s,0)]),vU 3 m x.1
  split
  ·exact Bv (a1f h)
  ·exact Bv h
 out:=λ{m s p v} h hp=>by
  show(if fP s p=0 then []else [(Bm s p,if fP s p=2 then ws.getD v 0 else 0)]).length<=4/\∀x∈(if fP s p=0 then []else [(Bm s p,if fP s p=2 then ws.getD v 0 else 0)]),vU 3 m x.1
  split
  ·exact Ő
  ·exact Bv (Wh h hp)
 jn:=λ{m s t} h h'=>⟨by show 1<=4;decide,λx hx=>by rw[bw.mp (show x∈[List.zipWith max s t]from hx)];exact ŏ h h'⟩
 fin:=λm4 nd h=>Qs (c:=3) (by decide) m4 nd h
end Go
namespace Go
def yC(T:cD)(s:dD)(r:fH)(s':dD):ug (zB T s r) s'=if s'=s then some r else ug T s':=by
 unfold zB ug;by_cases c:(T.any λx=>decide (x.1=s))=true
 ·rw[aG c]
  induction T with
  |nil=>cases c
  |cons x T ih =>
   rw[cL];by_cases e:x.1=s
   ·rw[aG e];by_cases d:s'=s
    ·grind
    ·have e':¬x.1=s':=λz=>d (z.symm.trans e);rw[aB d,xj (by grind),xj (by grind)];by_cases c':(T.any λx=>decide (x.1=s))=true
     ·grind
     ·have:T.map (λx=>if x.1=s then(x.1,r)else x)=T:=by
       have h:∀y∈T,(λy:dD×fH=>if y.1=s then(y.1,r)else y) y=id y:=λy hy=>aB λz=>c' (Ad.mpr ⟨y,hy,bO z⟩);rw[tM h,List.map_id]
      rw[this]
   grind
 grind
def vI{s:dD}{r:fH}(h:ug T s=some r):(s,r)∈T:=by
 unfold ug at h;obtain⟨x,hx,e⟩:=kI.mp h;grind
def qK(x:dD×fH)(T:cD)(s:dD):ug (x::T) s=if x.1=s then some x.2 else ug T s:=by
 unfold ug;grind
structure Hv(bt:Int->Int->Bool):Prop where
 refl:∀a,bt a a=false
 trans:∀{a b c},bt a b=false->bt b c=false->bt a c=false
 tot:∀{a b},bt a b=true->bt b a=false
 add:∀{a b} (d),bt a b=false->bt (a+d) (b+d)=false
def btL:Hv λa b=>decide (a<b):=⟨λa=>by simp,λh g=>by grind,λh=>by grind,λd h=>by grind⟩
def btG:Hv λa b=>decide (b<a):=⟨λa=>by simp,λh g=>by grind,λh=>by grind,λd h=>by grind⟩
def Hv.add2(k:Hv bt){a b c d:Int}(h:bt a b=false)(g:bt c d=false):bt (a+c) (b+d)=false:=by
 have h1:=k.add c h;have h2:=k.add b g;rw[Int.add_comm c b,Int.add_comm d b]at h2;exact k.trans h1 h2
def Has(bt:Int->Int->Bool)(T:cD)(s:dD)(a:Int):Prop:=∃r,ug T s=some r/\bt a r.b=false
def Pos(T:cD):Prop:=∀x∈T,1<=x.2.m
section
variable(k:Hv bt)
include k
def R6{s s':dD}{r:fH}{a:Int}(h:Has bt T s a):Has bt (iK bt T s' r) s a:=by
 obtain⟨o,ho,ha⟩:=h;unfold iK;by_cases c:s=s'
 ·subst c;rw[ho];dsimp only;refine⟨_,by rw[yC,aG rfl],?_⟩;show bt a (yd bt r o).b=false;unfold yd;cases d:bt r.b o.b with
  |true=>rw[aG rfl];exact k.trans ha (k.tot d)
  |false=>grind
 ·split
  ·exact⟨o,by rw[yC,aB c];exact ho,ha⟩
  ·exact⟨o,by rw[yC,aB c];exact ho,ha⟩
set_option tactic.hygienic true in
def R7{s:dD}{r:fH}{a:Int}(h:bt a r.b=false):Has bt (iK bt T s r) s a:=by
 unfold iK;split
 ·exact⟨r,by rw[yC,aG rfl],h⟩
 ·rename_i o _;refine⟨_,by rw[yC,aG rfl],?_⟩;show bt a (yd bt r o).b=false;unfold yd;cases d:bt r.b o.b with
  |true=>grind
  |false=>rw[aB (by decide)];exact k.trans h d
theorem yD{old s:dD}{row:fH}{a:Int}:∀{l:List (dD×Int)}{T:cD},Has bt T s a->Has bt (jc bt old row l T) s a
 | [],_,h=>h
 |x::l,T,h=>yD (l:=l) (T:=iK bt T x.1 ⟨row.m,row.b+x.2,[old]⟩) (R6 k h)
theorem Gv{old s:dD}{row:fH}{a d:Int}(h:bt a row.b=false):∀{l:List (dD×Int)}{T:cD},(s,d)∈l->Has bt (jc bt old row l T) s (a+d)
 |x::l,T,m=>by
  rcases cH.mp m with e|e
  ·rw[<-e]
   exact yD k (l:=l) (T:=iK bt T s ⟨row.m,row.b+d,[old]⟩) (R7 k (r:=⟨row.m,row.b+d,[old]⟩) (k.add d h))
  ·exact Gv h (l:=l) (T:=iK bt T x.1 ⟨row.m,row.b+x.2,[old]⟩) e
theorem Fw{dG aV s:dD}{row more:fH}{a:Int}:∀{l:List dD}{T:cD},Has bt T s a->Has bt (rA bt dG aV row more l T) s a
 | [],_,h=>h
 |x::l,T,h=>Fw (l:=l) (T:=iK bt T x ⟨row.m*more.m,row.b+more.b,[dG,aV]⟩) (R6 k h)
theorem Nf{dG aV s:dD}{row more:fH}{a b:Int}(h:bt a row.b=false)(g:bt b more.b=false):∀{l:List dD}{T:cD},s∈l->Has bt (rA bt dG aV row more l T) s (a+b)
 |x::l,T,m=>by
  rcases cH.mp m with e|e
  ·rw[<-e]
   exact Fw k (l:=l) (T:=iK bt T s ⟨row.m*more.m,row.b+more.b,[dG,aV]⟩) (R7 k (r:=⟨row.m*more.m,row.b+more.b,[dG,aV]⟩) (k.add2 h g))
  ·exact Nf h g (l:=l) (T:=iK bt T x ⟨row.m*more.m,row.b+more.b,[dG,aV]⟩) e
end
set_option tactic.hygienic true in
def R8{s:dD}{r:fH}(h:Pos T)(hr:1<=r.m):Pos (iK bt T s r):=by
 have put:∀{q:fH},1<=q.m->Pos (zB T s q):=λ{q} hq x hx=>by
  unfold zB at hx;split at hx
  ·obtain⟨y,hy,e⟩:=gn.mp hx;rw[<-e];split
   ·exact hq
   ·exact h y hy
  ·rcases b7.mp hx with z|z
   ·exact h x z
   grind
 unfold iK;split
 ·exact put hr
 ·rename_i o ho;have:=h _ (vI ho);grind
theorem Gw{bt:Int->Int->Bool}{old:dD}{row:fH}(hr:1<=row.m):∀{l:List (dD×Int)}{T:cD},Pos T->Pos (jc bt old row l T)
 | [],_,h=>h
 |x::l,T,h=>Gw hr (l:=l) (T:=iK bt T x.1 ⟨row.m,row.b+x.2,[old]⟩) (R8 h hr)
theorem Ng{bt:Int->Int->Bool}{dG aV:dD}{row more:fH}(hr:1<=row.m)(hm:1<=more.m):∀{l:List dD}{T:cD},Pos T->Pos (rA bt dG aV row more l T)
 | [],_,h=>h
 |x::l,T,h=>Ng hr hm (l:=l) (T:=iK bt T x ⟨row.m*more.m,row.b+more.b,[dG,aV]⟩) (R8 h (by
   show 1<=row.m*more.m
   exact Int.le_trans hm (by have:=Int.mul_le_mul_of_nonneg_right hr (show 0<=more.m by omega);omega)))
section
variable [DecidableEq κ]
theorem Nh{pq:PQ κ}{iM:aU}{B:List Int}:∀{S T:cD},Pos S->Pos T->Pos (lF pq iM B S T)
 | [],_,_,h=>h
 |x::S,T,hS,h=>Nh (S:=S) (T:=jc pq.bt x.1 x.2 (MP pq x.1 iM B) T) (λy hy=>hS y (bM _ hy)) (Gw (hS x (aW ..)) h)
theorem Ni{pq:PQ κ}(k:Hv pq.bt){iM:aU}{B:List Int}{s:dD}{a:Int}:∀{S T:cD},Has pq.bt T s a->Has pq.bt (lF pq iM B S T) s a
 | [],_,h=>h
 |x::S,T,h=>Ni k (S:=S) (T:=jc pq.bt x.1 x.2 (MP pq x.1 iM B) T) (yD k h)
theorem zu{pq:PQ κ}(k:Hv pq.bt){iM:aU}{B:List Int}{old s:dD}{a d:Int}:∀{S T:cD},Has pq.bt S old a->(s,d)∈MP pq old iM B->Has pq.bt (lF pq iM B S T) s (a+d)
 | [],_,⟨_,h,_⟩,_=>by cases h
 |x::S,T,⟨r,hr,ha⟩,hm=>by
  rw[qK]at hr
  by_cases c:x.1=old
  ·rw[aG c]at hr
   cases hr
   rw[<-c]at hm
   exact Ni k (S:=S) (T:=jc pq.bt x.1 x.2 (MP pq x.1 iM B) T) (Gv k ha hm)
  ·rw[aB c]at hr
   exact zu k (S:=S) (T:=jc pq.bt x.1 x.2 (MP pq x.1 iM B) T) ⟨r,hr,ha⟩ hm
theorem Nj{pq:PQ κ}{dG:dD}{row:fH}(hr:1<=row.m):∀{A T:cD},Pos A->Pos T->Pos (rB pq dG row A T)
 | [],_,_,h=>h
 |x::A,T,hA,h=>Nj hr (A:=A) (T:=rA pq.bt dG x.1 row x.2 (pq.jn dG x.1) T) (λy hy=>hA y (bM _ hy)) (Ng hr (hA x (aW ..)) h)
theorem Fx{pq:PQ κ}(k:Hv pq.bt){dG s:dD}{row:fH}{a:Int}:∀{A T:cD},Has pq.bt T s a->Has pq.bt (rB pq dG row A T) s a
 | [],_,h=>h
 |x::A,T,h=>Fx k (A:=A) (T:=rA pq.bt dG x.1 row x.2 (pq.jn dG x.1) T) (Fw k h)
theorem Nk{pq:PQ κ}(k:Hv pq.bt){dG aV s:dD}{row:fH}{a b:Int}(ha:pq.bt a row.b=false):∀{A T:cD},Has pq.bt A aV b->s∈pq.jn dG aV->Has pq.bt (rB pq dG row A T) s (a+b)
 | [],_,⟨_,h,_⟩,_=>by cases h
 |x::A,T,⟨r,hr,hb⟩,hm=>by
  rw[qK]at hr
  by_cases c:x.1=aV
  ·rw[aG c]at hr
   cases hr
   rw[<-c]at hm
   exact Fx k (A:=A) (T:=rA pq.bt dG x.1 row x.2 (pq.jn dG x.1) T) (Nf k ha hb hm)
  ·rw[aB c]at hr
   exact Nk k ha (A:=A) (T:=rA pq.bt dG x.1 row x.2 (pq.jn dG x.1) T) ⟨r,hr,hb⟩ hm
theorem Gx{p:dD×fH->Bool}{s:dD}:∀{A:cD}{r:fH},(∀x∈A,x.1=s->p x=true)->ug A s=some r->ug (A.filter p) s=some r
 | [],_,_,h=>by cases h
 |x::A,r,hp,h=>by
  rw[qK]at h
  by_cases c:x.1=s
  ·rw[aG c]at h
   rw[DR (hp x (aW ..) c),qK,aG c]
   exact h
  ·rw[aB c]at h
   have ih:=Gx (λy hy=>hp y (bM _ hy)) h
   cases d:p x with
   |true=>rw[DR d,qK,aB c];exact ih
   |false=>grind
theorem R9{pq:PQ κ}{A:cD}(hA:Pos A):∀{S T:cD},Pos S->Pos T->Pos (sJ pq A S T)
 | [],_,_,h=>h
 |x::S,T,hS,h=>R9 hA (S:=S) (T:=rB pq x.1 x.2 (jZ pq x.1 A) T) (λy hy=>hS y (bM _ hy)) (Nj (hS x (aW ..)) (λy hy=>hA y (iH.mp hy).1) h)
theorem Sg{pq:PQ κ}(k:Hv pq.bt){A:cD}{s:dD}{a:Int}:∀{S T:cD},Has pq.bt T s a->Has pq.bt (sJ pq A S T) s a
 | [],_,h=>h
 |x::S,T,h=>Sg k (S:=S) (T:=rB pq x.1 x.2 (jZ pq x.1 A) T) (Fx k h)
theorem Sh{pq:PQ κ}(k:Hv pq.bt){A:cD}{dG aV s:dD}{a b:Int}(hA:Has pq.bt A aV b)(sh:pq.sh aV=pq.sh dG)(hm:s∈pq.jn dG aV):∀{S T:cD},Has pq.bt S dG a->Has pq.bt (sJ pq A S T) s (a+b)
 | [],_,⟨_,h,_⟩=>by cases h
 |x::S,T,⟨r,hr,ha⟩=>by
  rw[qK]at hr
  by_cases c:x.1=dG
  ·rw[aG c]at hr
   cases hr
   subst c
   obtain⟨q,hq,hb⟩:=hA
   have f:Has pq.bt (jZ pq x.1 A) aV b:=⟨q,Gx (λy _ e=>bO (by grind)) hq,hb⟩
   exact Sg k (S:=S) (T:=rB pq x.1 x.2 (jZ pq x.1 A) T) (Nk k ha f hm)
  ·rw[aB c]at hr
   exact Sh k hA sh hm (S:=S) (T:=rB pq x.1 x.2 (jZ pq x.1 A) T) ⟨r,hr,ha⟩
end
end Go
namespace Go
def upS(wm:Int->Int)(fj:List (List bA×Int))(iM:aU)(used:List Nat):List bA×Int:=match used with
 | []=>([],0)
 | [i]=>match iM with
  |.tie a b=>((fj.getD i ([],0)).1++[(a,b)],(fj.getD i ([],0)).2)
  |.out v=>((fj.getD i ([],0)).1,(fj.getD i ([],0)).2+wm v)
  |_=>fj.getD i ([],0)
 |i::j::_=>((fj.getD j ([],0)).1++(fj.getD i ([],0)).1,(fj.getD j ([],0)).2+(fj.getD i ([],0)).2)
def upL(wm:Int->Int)(ss:List aU)(cI:List (List Nat)):Nat->List (List bA×Int)
 |0=>[]
 |k+1=>upL wm ss cI k++[upS wm (upL wm ss cI k) (ss.getD k .leaf) (cI.getD k [])]
theorem Ie(wm:Int->Int)(ss:List aU)(cI:List (List Nat)):∀k,(upL wm ss cI k).length=k
 |0=>rfl
 |k+1=>by
  show(_++[_]).length=_
  rw[bW,Ie wm ss cI k]
  rfl
section
variable{n:Nat}{ts:List bA}{ss:List aU}{wm:Int->Int}
def jM(wm:Int->Int)(n:Nat)(ts:List bA)(ss:List aU)(k:Nat):List bA×Int:=(upL wm ss (cF n ts ss).cI (k+1)).getD k ([],0)
theorem Fy{cI:List (List Nat)}{j:Nat}:∀{k:Nat},j<k->(upL wm ss cI k).getD j ([],0)=(upL wm ss cI (j+1)).getD j ([],0)
 |0,h=>absurd h (Ag _)
 |k+1,h=>by
  by_cases c:j=k
  ·rw[c]
  ·rw[<-Fy (k:=k) (by omega)]
   show(upL wm ss cI k++[_]).getD j ([],0)=_
   rw[gB,w5 (by rw[Ie];omega),<-gB]
def Ku(k:Nat):jM wm n ts ss k=upS wm (upL wm ss (cF n ts ss).cI k) (ss.getD k .leaf) (yw n ts ss k):=by
 show(upL wm ss (cF n ts ss).cI k++[_]).getD k ([],0)=_;rw[gB,wZ (by rw[Ie];grind),Ie,Al];rfl
def Dj{k:Nat}(hs:ss[k]?=some .leaf)(ef:yw n ts ss k=[]):jM wm n ts ss k=([],0):=by
 rw[Ku,ef];rfl
def Fz{k i:Nat}{v:Int}(hs:ss[k]?=some (.inn v))(ef:yw n ts ss k=[i])(lt:i<k):jM wm n ts ss k=jM wm n ts ss i:=by
 rw[Ku,ef,getD_at hs];exact Fy lt
def Bw{k i:Nat}{a b:Int}(hs:ss[k]?=some (.tie a b))(ef:yw n ts ss k=[i])(lt:i<k):jM wm n ts ss k=((jM wm n ts ss i).1++[(a,b)],(jM wm n ts ss i).2):=by
 rw[Ku,ef,getD_at hs];show((_:List bA)++[(a,b)],_)=_;rw[Fy lt];rfl
def FJ{k i:Nat}{v:Int}(hs:ss[k]?=some (.out v))(ef:yw n ts ss k=[i])(lt:i<k):jM wm n ts ss k=((jM wm n ts ss i).1,(jM wm n ts ss i).2+wm v):=by
 rw[Ku,ef,getD_at hs];show(_,_+wm v)=_;rw[Fy lt];rfl
def wM{k i j:Nat}(hs:ss[k]?=some .join)(ef:yw n ts ss k=[i,j])(lt:i<k)(lt':j<k):jM wm n ts ss k=((jM wm n ts ss j).1++(jM wm n ts ss i).1,(jM wm n ts ss j).2+(jM wm n ts ss i).2):=by
 rw[Ku,ef];show((_:List bA)++_,_+_)=_;rw[Fy lt,Fy lt'];rfl
structure FN(n:Nat)(ts:List bA)(ss:List aU):Prop where
 cU:n<=10
 go:∀i,i<=ss.length->(aP n ts ss i).2=true
 sb:∀(k:Nat) (s:aU),ss[k]?=some s->StB n ts ss k s
 se:∀(k:Nat) (s:aU),ss[k]?=some s->StE n ts ss k s
 last:∀j∈(aP n ts ss ss.length).1.pile,fO n ts ss j=[]
 ties:∀t∈ts,aU.tie t.1 t.2∈ss
set_option tactic.hygienic true in
def a5p(cU:n<=10)(wU:DP n ts ss (cF n ts ss)=.ok):FN n ts ss:=by
 have go:=Ŀ cU wU;refine⟨cU,go,λk s h=>a1c (Bu go cU h),λk s h=>Bu go cU h,λj hj=>?_,λt ht=>?_⟩
 ·unfold DP at wU;split at wU
  ·cases wU
  ·split at wU
   ·rename_i e;have:fO n ts ss j∈M6 (cF n ts ss):=gn.mpr ⟨j,hj,Z⟩;grind
   ·cases wU
 ·unfold DP at wU;grind
def Dl{k:Nat}{s:aU}(h:ss[k]?=some s){m:Nat}(hm:k<m):s∈ss.take m:=by
 have kl:=(fG.mp h).1;refine DY.mpr ⟨k,?_⟩;rw[Tf hm];exact h
def lZ{s:aU}{a b:Nat}(h:s∈ss.take a)(l:a<=b):s∈ss.take b:=by
 obtain⟨k,hk⟩:=DY.mp h;have kl:=(fG.mp hk).1;rw[dZ]at kl;rw[Tf (by omega)]at hk;exact Dl hk (by omega)
def gone(R:FN n ts ss){v:Int}{d:Nat}:∀{i:Nat},i+d=ss.length->aU.out v∈ss.take i->∀j∈(aP n ts ss i).1.pile,v∉fO n ts ss j:=by
 induction d with
 |zero =>
  intro i e _ j hj;have e:i=ss.length:=by omega
  rw[e]at hj;rw[R.last j hj];grind
 |succ d ih =>
  intro i e ho j hj hv;have il:i<ss.length:=by omega
  have hs:=bV il;have nx:=ih (i:=i+1) (by omega) (lZ ho (by omega));have E:=R.se i _ hs;have B:=R.sb i _ hs;have fd:=E.feed;have tp:=(Kq R.cU R.sb);rw[E.pile]at nx;rw[<-rR (dh ss[i] (aP n ts ss i).1) (aP n ts ss i).1.pile]at hj;rcases b7.mp hj with z|z
  ·grind
  ·rw[<-fd]at z;have nk:=nx i (gF _ (vV i));generalize ss[i]=s at B;cases B with
   |leaf ef _=>grind
   | @inn i' u ef lt u0 un nu et _ =>
    rw[ef]at z;rw[bw.mp z]at hv;rw[et]at nk;exact nk ((iY R.cU (tp i' (by omega)).2 λy hy=>by rw[bw.mp hy];exact⟨u0,un⟩).mpr (.inl hv))
   | @tie i' a b ef lt _ _ _ et =>
    grind
   | @out i' u ef lt mu et no =>
    rw[ef]at z;rw[bw.mp z]at hv;rw[et]at nk;refine nk (iH.mpr ⟨hv,?_⟩);grind
   | @join i' j' ef _ _ ŵ et =>
    grind
def ends(R:FN n ts ss):∀k,k<ss.length->∀t∈(jM wm n ts ss k).1,∀v,(v=t.1\/v=t.2)->v∈fO n ts ss k\/aU.out v∈ss.take (k+1):=by
 intro k
 induction k using Nat.strongRecOn with
 |_ k ih =>
  intro kl t ht v hv;have hs:=bV kl;have B:=R.sb k _ hs;have tp:=(Kq R.cU R.sb);generalize ss[k]=s at hs B;cases B with
  |leaf ef _=>rw[Dj hs ef]at ht;cases ht
  | @inn i u ef lt u0 un nu et _ =>
   rw[Fz hs ef lt]at ht;rcases ih i lt (by omega) t ht v hv with z|z
   ·rw[et];exact .inl ((iY R.cU (tp i (by omega)).2 λy hy=>by rw[bw.mp hy];exact⟨u0,un⟩).mpr (.inl z))
   ·exact .inr (lZ z (by omega))
  | @tie i a b ef lt _ ma mb et =>
   rw[Bw hs ef lt]at ht;rcases b7.mp ht with z|z
   ·rcases ih i lt (by omega) t z v hv with z|z
    ·rw[et];exact .inl z
    ·exact .inr (lZ z (by omega))
   ·rw[bw.mp z]at hv;rw[et];rcases hv with e|e
    ·rw[e];exact .inl ma
    ·rw[e];exact .inl mb
  | @out i u ef lt mu et no =>
   rw[FJ hs ef lt]at ht;rcases ih i lt (by omega) t ht v hv with z|z
   ·by_cases c:v=u
    ·rw[c];exact .inr (Dl hs (by omega))
    ·rw[et];exact .inl (iH.mpr ⟨z,by simp[c]⟩)
   ·exact .inr (lZ z (by omega))
  | @join i j ef lt lt' ŵ et =>
   rw[wM hs ef lt lt']at ht;rcases b7.mp ht with z|z
   ·rcases ih j lt' (by omega) t z v hv with z|z
    ·rw[et,ŵ];exact .inl z
    ·exact .inr (lZ z (by omega))
   ·rcases ih i lt (by omega) t z v hv with z|z
    ·rw[et];exact .inl z
    ·exact .inr (lZ z (by omega))
theorem held(R:FN n ts ss){a b v:Int}(hv:v=a\/v=b):∀i,i<=ss.length->aU.tie a b∈ss.take i->aU.out v∉ss.take i->∃j∈(aP n ts ss i).1.pile,v∈fO n ts ss j/\(a,b)∈(jM wm n ts ss j).1
 |0,_,h,_=>by cases h
 |i+1,il,h,no=>by
  have kl:i<ss.length:=by omega
  have hs:=bV kl
  have E:=R.se i _ hs
  have B:=R.sb i _ hs
  have fd:=E.feed
  have tp:=(Kq R.cU R.sb)
  have no':aU.out v∉ss.take i:=λz=>no (lZ z (by omega))
  rw[E.pile]
  by_cases c:aU.tie a b∈ss.take i
  ·obtain⟨j,hj,hvj,hab⟩:=held R hv i (by omega) c no'
   rw[<-rR (dh ss[i] (aP n ts ss i).1) (aP n ts ss i).1.pile]at hj
   rcases b7.mp hj with z|z
   ·grind
   ·rw[<-fd]at z
    refine⟨i,gF _ (vV i),?_⟩
    generalize ss[i]=s at hs B
    cases B with
    |leaf ef _=>grind
    | @inn i' u ef lt u0 un nu et _ =>
     rw[ef]at z
     have ej:=bw.mp z
     subst ej
     rw[Fz hs ef lt,et]
     exact⟨(iY R.cU (tp j (by omega)).2 (λy hy=>by grind)).mpr (.inl hvj),hab⟩
    | @tie i' a' b' ef lt _ _ _ et =>
     rw[ef]at z
     have ej:=bw.mp z
     subst ej
     rw[Bw hs ef lt,et]
     grind
    | @out i' u ef lt mu et _ =>
     rw[ef]at z
     have ej:=bw.mp z
     subst ej
     rw[FJ hs ef lt,et]
     have:¬v=u:=λz=>no (z▸Dl hs (by omega))
     exact⟨iH.mpr ⟨hvj,by simp[this]⟩,hab⟩
    | @join i' j' ef lt lt' ŵ et =>
     rw[ef]at z
     rw[wM hs ef lt lt',et]
     grind
  ·have e:ss[i]=.tie a b:=by
    obtain⟨p,hp⟩:=DY.mp h
    grind
   refine⟨i,gF _ (vV i),?_⟩
   rw[e]at hs B
   cases B with
   | @tie i' _ _ ef lt _ ma mb et =>
    rw[Bw hs ef lt,et]
    grind
def ő(R:FN n ts ss){k i:Nat}{v:Int}(kl:k<ss.length)(lt:i<k)(nv:v∉fO n ts ss i)(no:aU.out v∉ss.take k):∀t∈(jM wm n ts ss i).1,v≠t.1/\v≠t.2:=λt ht=>by
 have h:=λhv=>(ends (wm:=wm) R i (by omega) t ht v hv).elim nv λz=>no (lZ z (by omega));grind
def Z1(R:FN n ts ss){k i:Nat}{v:Int}(hs:ss[k]?=some (.out v))(ef:yw n ts ss k=[i])(no:aU.out v∉ss.take k):∀t∈ts,(v=t.1\/v=t.2)->t∈(jM wm n ts ss i).1:=λt ht hv=>by
 have kl:=(fG.mp hs).1;obtain⟨p,hp⟩:=DY.mp (R.ties t ht);have pl:=(fG.mp hp).1;have E:=R.se k _ hs;have fd:=E.feed;have done:aU.out v∈ss.take (k+1):=Dl hs (by omega);by_cases c:p<k
 ·obtain⟨j,hj,hvj,hab⟩:=held (wm:=wm) R hv k (by omega) (Dl hp c) no;rw[<-rR (dh (.out v) (aP n ts ss k).1) (aP n ts ss k).1.pile]at hj;rcases b7.mp hj with z|z
  ·have g:=gone R (v:=v) (d:=ss.length-(k+1)) (i:=k+1) (by omega) done j;rw[E.pile]at g;exact absurd hvj (g (tK _ z))
  ·rw[<-fd,ef]at z;rw[<-bw.mp z];exact hab
 ·by_cases d:p=k
  ·rw[d,hs]at hp;cases hp
  ·have Bp:=R.sb p _ hp;have Ep:=R.se p _ hp;cases Bp with
   | @tie i' _ _ ef' lt' _ ma mb _ =>
    have g:=gone R (v:=v) (d:=ss.length-p) (i:=p) (by omega) (lZ done (by omega)) i' (by
     have:i'∈yw n ts ss p:=by rw[ef'];exact vV _
     rw[Ep.feed]at this;exact xr this)
    rcases hv with z|z
    ·rw[z]at g;exact absurd ma g
    ·rw[z]at g;exact absurd mb g
end
end Go
namespace Go
def Yh{v:Int}(nd:B.Nodup)(h:v∈B):iQ B [v]=B.take (B.idxOf v)++B.drop (B.idxOf v+1)/\B=B.take (B.idxOf v)++v::B.drop (B.idxOf v+1):=by
 induction B with
 |nil=>cases h
 |cons x B ih =>
  rw[jC]at nd;rw[List.idxOf_cons];by_cases c:x=v
  ·subst c;rw[Oo];have e:iQ (x::B) [x]=B:=by
    show(x::B).filter _=B;rw[List.filter_cons_of_neg (by simp)];exact T5.mpr λy hy=>by
     have:¬y=x:=λz=>nd.1 (z▸hy);simp[this]
   exact⟨e,Z⟩
  ·have hv:v∈B:=by
    rcases cH.mp h with z|z
    ·exact absurd z.symm c
    ·exact z
   obtain⟨h1,h2⟩:=ih nd.2 hv;have eb:(x==v)=false:=by simp[c]
   rw[eb];show iQ (x::B) [v]=x::(B.take (B.idxOf v)++B.drop (B.idxOf v+1))/\x::B=x::(B.take (B.idxOf v)++v::B.drop (B.idxOf v+1));refine⟨?_,by rw[<-h2]⟩;rw[<-h1];show(x::B).filter _=x::B.filter _;rw[DR (by simp[c])]
def a1g{v:Int}{f:Int->Int}(nd:B.Nodup)(h:v∈B):Bm (B.map f) (B.idxOf v)=(iQ B [v]).map f:=by
 rw[(Yh nd h).1,dF,OD,Oz];rfl
def ins_map{v:Int}{f:Int->Int}(nd:B.Nodup)(h:v∈B):ou ((iQ B [v]).map f) (B.idxOf v) (f v)=B.map f:=by
 have l:=Fv h;obtain⟨e1,e2⟩:=Yh nd h;have el:((B.take (B.idxOf v)).map f).length=B.idxOf v:=by rw[aN,dZ];omega
 show((iQ B [v]).map f).take (B.idxOf v)++([f v]++((iQ B [v]).map f).drop (B.idxOf v))=_;grind
def wN{v:Int}{f:Int->Int}(h:v∈B):fP (B.map f) (B.idxOf v)=f v:=by
 have l:=Fv h;unfold fP;grind
def Wj{n:Nat}(cU:n<=10){p:List Int}{v:Int}(ap:p.Pairwise (· < ·))(hp:∀v∈p,0<=v/\v<(n:Int))(hv:0<=v/\v<(n:Int))(h:v∉p):iQ (dJ p [v]) [v]=p:=by
 refine uL ((uM _).filter _) ap λx=>?_;show x∈(Mq λv_1=>decide (v_1∈p\/v_1∈[v])).filter _↔_;rw[iH];rw[show x∈Mq (λv_1=>decide (v_1∈p\/v_1∈[v]))↔x∈p\/x∈[v]from iY cU hp (λy hy=>by grind)];grind
structure Thing{κ:Type}(pq:PQ κ)(n:Nat)(ts:List bA)(wm:Int->Int)(f:List bA->Int->Int):Prop where
 bt:Hv pq.bt
 leaf:pq.leaf=[]
 inn:∀{tl:List bA}{s:dD}{p:Nat}{v:Int},0<=v->v<(n:Int)->(∀t∈tl,v≠t.1/\v≠t.2)->(ou s p (f tl v),0)∈pq.inn s p v.toNat
 tie:∀{tl:List bA}{B:List Int}{a b:Int},B.Nodup->(∀v∈B,0<=v/\v<(n:Int))->a∈B->b∈B->(a,b)∈ts->(B.map (f (tl++[(a,b)])),0)∈pq.tie (B.map (f tl)) (B.idxOf a) (B.idxOf b) (a,b)
 out:∀{tl:List bA}{B:List Int}{v:Int},v∈B->0<=v->v<(n:Int)->(∀t∈ts,(v=t.1\/v=t.2)->t∈tl)->(Bm (B.map (f tl)) (B.idxOf v),wm v)∈pq.out (B.map (f tl)) (B.idxOf v) v.toNat
 jn:∀{t1 t2:List bA}{B:List Int},(∀v∈B,0<=v/\v<(n:Int))->pq.sh (B.map (f t2))=pq.sh (B.map (f t1))/\B.map (f (t2++t1))∈pq.jn (B.map (f t1)) (B.map (f t2))
section
variable [DecidableEq κ] {n:Nat}{ts:List bA}{ss:List aU}{wm:Int->Int}{f:List bA->Int->Int}
def a1h{pq:PQ κ}(R:FN n ts ss)(D:Thing pq n ts wm f):∀k,k<ss.length->Has pq.bt ((Dh pq n ts ss (k+1)).getD k []) ((fO n ts ss k).map (f (jM wm n ts ss k).1)) (jM wm n ts ss k).2:=by
 intro k
 induction k using Nat.strongRecOn with
 |_ k ih =>
  intro kl;have hs:=bV kl;have SB:=R.sb k _ hs;have tp:=Kq R.cU R.sb;obtain⟨ak,bk⟩:=tp k kl;rw[Ib,getD_at hs];generalize ss[k]=s at hs SB;cases SB with
  |leaf ef et =>
   rw[Dj hs ef,ef,et];refine⟨⟨1,0,[]⟩,?_,D.bt.refl 0⟩;show ug [(pq.leaf,(⟨1,0,[]⟩:fH))] []=_;rw[D.leaf];rfl
  | @inn i v ef lt v0 vn nv et no =>
   obtain⟨ai,bi⟩:=tp i (by omega);have hi:=ih i lt (by omega);rw[<-vf pq lt]at hi;rw[Fz hs ef lt,ef];have e1:dJ (fO n ts ss k) (fO n ts ss i)=fO n ts ss k:=(tD R.cU ak bk λx hx=>by rw[et];exact(iY R.cU bi λy hy=>by rw[bw.mp hy];exact⟨v0,vn⟩).mpr (.inl hx)).1;have vk:v∈fO n ts ss k:=by rw[et];exact(iY R.cU bi λy hy=>by rw[bw.mp hy];exact⟨v0,vn⟩).mpr (.inr (vV v))
   show Has pq.bt (lF pq (.inn v) (dJ (fO n ts ss k) (fO n ts ss i)) ((Dh pq n ts ss k).getD i []) []) _ _;rw[e1];have el:iQ (fO n ts ss k) [v]=fO n ts ss i:=by rw[et];exact Wj R.cU ai bi ⟨v0,vn⟩ nv
   have:=zu D.bt (iM:=.inn v) (B:=fO n ts ss k) (T:=[]) (s:=(fO n ts ss k).map (f (jM wm n ts ss i).1)) (d:=0) hi (by
    show _∈pq.inn _ ((fO n ts ss k).idxOf v) v.toNat;have h:=D.inn (tl:=(jM wm n ts ss i).1) (s:=(fO n ts ss i).map (f (jM wm n ts ss i).1)) (p:=(fO n ts ss k).idxOf v) v0 vn (ő R kl lt nv no);have e:=ins_map (f:=f (jM wm n ts ss i).1) (yx ak) vk;rw[el]at e;rw[e]at h;exact h)
   rw[Int.add_zero]at this;exact this
  | @tie i a b ef lt ht ma mb et =>
   obtain⟨ai,bi⟩:=tp i (by omega);have hi:=ih i lt (by omega);rw[<-vf pq lt]at hi;rw[Bw hs ef lt,ef];have e1:dJ (fO n ts ss k) (fO n ts ss i)=fO n ts ss i:=by rw[et];exact(tD R.cU ai bi λ_ h=>h).1
   show Has pq.bt (lF pq (.tie a b) (dJ (fO n ts ss k) (fO n ts ss i)) ((Dh pq n ts ss k).getD i []) []) _ _;rw[e1,et];have:=zu D.bt (iM:=.tie a b) (B:=fO n ts ss i) (T:=[]) (s:=(fO n ts ss i).map (f ((jM wm n ts ss i).1++[(a,b)]))) (d:=0) hi (D.tie (yx ai) bi ma mb ht);rw[Int.add_zero]at this;exact this
  | @out i v ef lt mv et no =>
   obtain⟨ai,bi⟩:=tp i (by omega);have hi:=ih i lt (by omega);rw[<-vf pq lt]at hi;rw[FJ hs ef lt,ef];have e1:dJ (fO n ts ss k) (fO n ts ss i)=fO n ts ss i:=(tD R.cU ai bi λx hx=>by rw[et]at hx;exact(iH.mp hx).1).2;show Has pq.bt (lF pq (.out v) (dJ (fO n ts ss k) (fO n ts ss i)) ((Dh pq n ts ss k).getD i []) []) _ _;rw[e1,et,<-a1g (yx ai) mv];exact zu D.bt (iM:=.out v) (B:=fO n ts ss i) (T:=[]) hi (D.out mv (bi v mv).1 (bi v mv).2 (Z1 R hs ef no))
  | @join i j ef lt lt' ŵ et =>
   obtain⟨ai,bi⟩:=tp i (by omega);have hi:=ih i lt (by omega);have hj:=ih j lt' (by omega);rw[<-vf pq lt]at hi;rw[<-vf pq lt',<-ŵ]at hj;rw[wM hs ef lt lt',ef,et];show Has pq.bt (sJ pq ((Dh pq n ts ss k).getD j []) ((Dh pq n ts ss k).getD i []) []) _ _;obtain⟨h1,h2⟩:=D.jn (t1:=(jM wm n ts ss i).1) (t2:=(jM wm n ts ss j).1) bi;have:=Sh D.bt hj h1 h2 (T:=[]) hi;rw[Int.add_comm]at this;exact this
def a1i{pq:PQ κ}(R:FN n ts ss):∀k,k<ss.length->Pos ((Dh pq n ts ss (k+1)).getD k []):=by
 intro k
 induction k using Nat.strongRecOn with
 |_ k ih =>
  intro kl;have hs:=bV kl;have SB:=R.sb k _ hs;have nil:Pos []:=λ_ h=>absurd h d7;rw[Ib,getD_at hs];have dG:∀{i:Nat}{iM:aU},i<k->Pos (J1 pq (cF n ts ss).aR (Dh pq n ts ss k) iM (fO n ts ss k) [i]):=λ{i iM} lt=>by
   have hi:=ih i lt (by omega);rw[<-vf pq lt]at hi;exact Nh hi nil
  generalize ss[k]=s at hs SB;cases SB with
  |leaf ef et =>
   rw[ef];intro x hx;rw[bw.mp hx];grind
  |inn ef lt=>grind
  |tie ef lt=>grind
  |out ef lt=>grind
  | @join i j ef lt lt' ŵ et =>
   have hi:=ih i lt (by omega);have hj:=ih j lt' (by omega);rw[<-vf pq lt]at hi;rw[<-vf pq lt']at hj;rw[ef];exact R9 hj hi nil
end
end Go
namespace Go
section
variable{mk:Int->Int}{n:Nat}{ts:List bA}{ws:List Int}
def a3x{c:Nat}(hm:∀v,0<=v->v<(n:Int)->0<=mk v/\mk v<(c:Int))(ht:∀t∈ts,mk t.1≠mk t.2):Thing (pqC c ws) n ts (λv=>ws.getD v.toNat 0*mk v) (λ_=>mk) where
 bt:=btL
 leaf:=rfl
 inn:=λ{tl s p v} v0 vn _=>by
  have:=hm v v0 vn
  refine gn.mpr ⟨(mk v).toNat,mF.mpr (by omega),?_⟩
  grind
 tie:=λ{tl B a b} nd hb ha hb' h=>by
  show _∈(if fP (B.map mk) (B.idxOf a)≠fP (B.map mk) (B.idxOf b)then [(B.map mk,(0:Int))]else [])
  rw[wN ha,wN hb',aG (ht _ h)]
  grind
 out:=λ{tl B v} hv _ _ _=>by
  show _∈[(Bm (B.map mk) (B.idxOf v),ws.getD v.toNat 0*fP (B.map mk) (B.idxOf v))]
  rw[wN hv]
  grind
 jn:=λ{t1 t2 B} _=>⟨Z,vV _⟩
def a3y(hm:∀v,0<=v->v<(n:Int)->0<=mk v/\mk v<2)(ht:∀t∈ts,mk t.1+mk t.2<2):Thing (pqA ws) n ts (λv=>ws.getD v.toNat 0*mk v) (λ_=>mk) where
 bt:=btG
 leaf:=rfl
 inn:=λ{tl s p v} v0 vn _=>by
  have:=hm v v0 vn
  show _∈[(ou s p 0,(0:Int)),(ou s p 1,0)]
  grind
 tie:=λ{tl B a b} nd hb ha hb' h=>by
  show _∈(if fP (B.map mk) (B.idxOf a)+fP (B.map mk) (B.idxOf b)<2 then [(B.map mk,(0:Int))]else [])
  rw[wN ha,wN hb',aG (ht _ h)]
  grind
 out:=λ{tl B v} hv _ _ _=>by
  show _∈[(Bm (B.map mk) (B.idxOf v),ws.getD v.toNat 0*fP (B.map mk) (B.idxOf v))]
  rw[wN hv]
  grind
 jn:=λ{t1 t2 B} _=>⟨Z,vV _⟩
def eU(mk:Int->Int)(tl:List bA)(v:Int):Bool:=tl.any λt=>decide (v=t.1\/v=t.2)&&decide (mk (t.1+t.2-v)=1)
def Sq(m:Int)(nb:Bool):Int:=max (2*m) (if nb=true then 1 else 0)
def fW(mk:Int->Int)(tl:List bA)(v:Int):Int:=Sq (mk v) (eU mk tl v)
def Dp(mk:Int->Int)(t1 t2:List bA)(v:Int):eU mk (t1++t2) v=(eU mk t1 v||eU mk t2 v):=by
 unfold eU;rw[List.any_append]
def a1j:Sq 0 false=0:=by decide
def a1k:Sq 0 true=1:=by decide
def Bx(b:Bool):Sq 1 b=2:=by cases b<;>decide
def Œ{a b:Int}{g:Int->Int}(nd:B.Nodup):rD (B.map g) (B.idxOf a) (B.idxOf b)=B.map λv=>if v=a\/v=b then max (g v) 1 else g v:=by
 unfold rD;refine Ui (by grind) λk h1 h2=>?_;rw[aN]at h2;have ek:fP (B.map g) k=g B[k]:=by
  unfold fP;grind
 grind
theorem zip_map{g h:Int->Int}:∀B:List Int,List.zipWith max (B.map g) (B.map h)=B.map λv=>max (g v) (h v)
 | []=>rfl
 |x::B=>by
  show max (g x) (h x)::List.zipWith max (B.map g) (B.map h)=_
  rw[zip_map B]
  rfl
set_option tactic.hygienic true in
def a3z(hm:∀v,0<=v->v<(n:Int)->mk v=0\/mk v=1)(ne:∀t∈ts,t.1≠t.2)(hw:∀v,0<=v->v<(n:Int)->mk v=1\/eU mk ts v=true):Thing (pqW ws) n ts (λv=>ws.getD v.toNat 0*mk v) (fW mk) where
 bt:=btL
 leaf:=rfl
 inn:=λ{tl s p v} v0 vn hf=>by
  have nb:eU mk tl v=false:=by
   unfold eU
   grind
  show _∈[(ou s p 0,(0:Int)),(ou s p 2,0)]
  unfold fW
  rw[nb]
  rcases hm v v0 vn with e|e
  ·rw[e,a1j];grind
  ·rw[e,Bx];grind
 tie:=λ{tl B a b} nd hb ha hb' h=>by
  have nab:a≠b:=ne _ h
  show _∈(if(fP (B.map (fW mk tl)) (B.idxOf a)=0/\fP (B.map (fW mk tl)) (B.idxOf b)=2)\/(fP (B.map (fW mk tl)) (B.idxOf a)=2/\fP (B.map (fW mk tl)) (B.idxOf b)=0)then [(rD (B.map (fW mk tl)) (B.idxOf a) (B.idxOf b),(0:Int))]else [(B.map (fW mk tl),0)])
  rw[wN ha,wN hb',Œ nd]
  have n1:∀v,eU mk [(a,b)] v=(decide (v=a\/v=b)&&decide (mk (a+b-v)=1)):=λv=>by
   show((decide (v=a\/v=b)&&decide (mk (a+b-v)=1))||false)=_
   grind
  have ea:eU mk [(a,b)] a=decide (mk b=1):=by
   grind
  have eb:eU mk [(a,b)] b=decide (mk a=1):=by
   grind
  have eo:∀v,v≠a->v≠b->eU mk [(a,b)] v=false:=λv h1 h2=>by
   grind
  have fo:∀v,v≠a->v≠b->fW mk (tl++[(a,b)]) v=fW mk tl v:=λv h1 h2=>by
   unfold fW
   rw[Dp,eo v h1 h2,Bool.or_false]
  have fa:fW mk (tl++[(a,b)]) a=Sq (mk a) (eU mk tl a||decide (mk b=1)):=by
   unfold fW
   rw[Dp,ea]
  have fb:fW mk (tl++[(a,b)]) b=Sq (mk b) (eU mk tl b||decide (mk a=1)):=by
   unfold fW
   rw[Dp,eb]
  have ga:fW mk tl a=Sq (mk a) (eU mk tl a):=rfl
  have gb:fW mk tl b=Sq (mk b) (eU mk tl b):=rfl
  have hma:=hm a (hb a ha).1 (hb a ha).2
  have hmb:=hm b (hb b hb').1 (hb b hb').2
  have goal:∀{g:Int->Int},fW mk (tl++[(a,b)]) a=g a->fW mk (tl++[(a,b)]) b=g b->(∀v,v≠a->v≠b->fW mk tl v=g v)->B.map (fW mk (tl++[(a,b)]))=B.map g:=λ{g} h1 h2 h3=>tM λv _=>by
   grind
  split
  ·rename_i c
   refine bw.mpr (Prod.ext ?_ Z)
   refine goal ?_ ?_ λv h1 h2=>by grind
   ·rw[aG (.inl Z),fa,ga]
    rw[ga,gb]at c
    rcases hma with e1|e1<;>rcases hmb with e2|e2<;>rw[e1,e2]at c ⊢ <;> cases d1:eU mk tl a<;>cases d2:eU mk tl b<;>rw[d1,d2]at c<;>revert c<;>decide
   ·rw[aG (.inr Z),fb,gb]
    rw[ga,gb]at c
    rcases hma with e1|e1<;>rcases hmb with e2|e2<;>rw[e1,e2]at c ⊢ <;> cases d1:eU mk tl a<;>cases d2:eU mk tl b<;>rw[d1,d2]at c<;>revert c<;>decide
  ·rename_i c
   refine bw.mpr (Prod.ext ?_ Z)
   refine goal ?_ ?_ λv h1 h2=>rfl
   ·rw[fa,ga]
    rw[ga,gb]at c
    rcases hma with e1|e1<;>rcases hmb with e2|e2<;>rw[e1,e2]at c ⊢ <;> cases d1:eU mk tl a<;>cases d2:eU mk tl b<;>rw[d1,d2]at c<;>revert c<;>decide
   ·rw[fb,gb]
    rw[ga,gb]at c
    rcases hma with e1|e1<;>rcases hmb with e2|e2<;>rw[e1,e2]at c ⊢ <;> cases d1:eU mk tl a<;>cases d2:eU mk tl b<;>rw[d1,d2]at c<;>revert c<;>decide
 out:=λ{tl B v} hv v0 vn hall=>by
  show _∈(if fP (B.map (fW mk tl)) (B.idxOf v)=0 then []else [(Bm (B.map (fW mk tl)) (B.idxOf v),if fP (B.map (fW mk tl)) (B.idxOf v)=2 then ws.getD v.toNat 0 else 0)])
  rw[wN hv]
  unfold fW
  by_cases e:mk v=1
  ·rw[e,Bx,aB (by decide),aG Z,Int.mul_one]
   grind
  ·have e0:mk v=0:=(hm v v0 vn).resolve_right e
   have nb:eU mk tl v=true:=by
    have:=(hw v v0 vn).resolve_left e
    obtain⟨t,ht,h2⟩:=Ad.mp this
    refine Ad.mpr ⟨t,hall t ht ?_,h2⟩
    grind
   rw[e0,nb,a1k,aB (by decide),aB (by decide),Int.mul_zero]
   grind
 jn:=λ{t1 t2 B} hB=>by
  refine⟨?_,bw.mpr ?_⟩
  ·show(B.map (fW mk t2)).map (λx=>decide (x=2))=(B.map (fW mk t1)).map (λx=>decide (x=2))
   rw[nC,nC]
   refine tM λv hv=>?_
   show decide (fW mk t2 v=2)=decide (fW mk t1 v=2)
   unfold fW
   rcases hm v (hB v hv).1 (hB v hv).2 with e|e
   ·rw[e]
    cases eU mk t1 v<;>cases eU mk t2 v<;>decide
   ·rw[e,Bx,Bx]
  ·show B.map (fW mk (t2++t1))=List.zipWith max (B.map (fW mk t1)) (B.map (fW mk t2))
   rw[zip_map]
   refine tM λv hv=>?_
   show fW mk (t2++t1) v=max (fW mk t1 v) (fW mk t2 v)
   unfold fW
   rw[Dp]
   rcases hm v (hB v hv).1 (hB v hv).2 with e|e
   ·rw[e]
    cases eU mk t1 v<;>cases eU mk t2 v<;>decide
   ·rw[e,Bx,Bx,Bx]
    decide
end
end Go
def getD_at{ss:List aU}{i:Nat}{s:aU}(h:ss[i]?=some s):ss.getD i .leaf=s:=by
 rw[gB,h];rfl
def Qt{ss:List aU}{i:Nat}{s:aU}(h:ss[i]?=some s):ss.take (i+1)=ss.take i++[s]:=by
 obtain⟨il,e⟩:=fG.mp h;rw[zO il,e]
structure Kp where
 P:List (List Int)
 G:List Int
 B:List bA
def Kp.top(κ:Kp):List Int:=κ.P.getLastD []
def Can(n:Nat)(ts:List bA)(κ:Kp):aU->Prop
 |.leaf=>True
 |.inn v=>κ.P≠[]/\(0<=v/\v<(n:Int))/\v∉κ.top/\v∉κ.G
 |.tie a b=>κ.P≠[]/\(a,b)∈ts/\(a,b)∉κ.B/\a∈κ.top/\b∈κ.top
 |.out v=>κ.P≠[]/\v∈κ.top/\v∉κ.G
 |.join=>1<κ.P.length/\κ.top.Perm (κ.P.getD (κ.P.length-2) [])
def Lr(κ:Kp):aU->Kp
 |.leaf=>{ κ with P:=κ.P++[[]]}
 |.inn v=>{ κ with P:=κ.P.dropLast++[κ.top++[v]]}
 |.tie a b=>{ κ with B:=κ.B++[(a,b)]}
 |.out v=>{ κ with P:=κ.P.dropLast++[κ.top.erase v],G:=κ.G++[v]}
 |.join=>{ κ with P:=κ.P.dropLast}
structure KOk(n c:Nat)(κ:Kp):Prop where
 nd:∀b∈κ.P,b.Nodup/\∀v∈b,0<=v/\v<(n:Int)
 pl:κ.P.length<=c
 gl:κ.G.length<=c
 bl:κ.B.length<=c
def tE{P:List (List Int)}(h:P≠[]):P=P.dropLast++[P.getLastD []]:=by
 have e:=(List.dropLast_concat_getLast h).symm;grind
def KOk.Wk{n c:Nat}{κ:Kp}(h:KOk n c κ):κ.top.Nodup/\∀v∈κ.top,0<=v/\v<(n:Int):=by
 by_cases e:κ.P=[]
 ·unfold Kp.top;grind
 ·refine h.nd _ ?_;have:κ.P.getLastD []∈κ.P.dropLast++[κ.P.getLastD []]:=gF _ aW
  rwa [<-tE e]at this
def KOk.do{n c:Nat}{ts:List bA}{κ:Kp}{s:aU}(h:KOk n c κ)(hc:Can n ts κ s):KOk n (c+1) (Lr κ s):=by
 have dl:∀b∈κ.P.dropLast,b.Nodup/\∀v∈b,0<=v/\v<(n:Int):=λb hb=>h.nd b ((List.dropLast_sublist _).subset hb);have l1:κ.P.dropLast.length<=c:=by rw[TX];have:=h.pl;omega
 have h1:=h.pl;have h2:=h.gl;have h3:=h.bl;have cat:∀b:List Int,b.Nodup->(∀v∈b,0<=v/\v<(n:Int))->∀x∈κ.P.dropLast++[b],x.Nodup/\∀v∈x,0<=v/\v<(n:Int):=λb hb hv x hx=>by
  grind
 cases s with
 |leaf =>
  refine⟨λb hb=>?_,by show(κ.P++[[]]).length<=_;grind,by show κ.G.length<=_;omega,by show κ.B.length<=_;omega⟩;rcases b7.mp hb with hb|hb
  ·exact h.nd b hb
  grind
 |inn v =>
  obtain⟨_,hv,hn,_⟩:=hc;refine⟨cat _ ?_ ?_,by show(κ.P.dropLast++[_]).length<=_;grind,by show κ.G.length<=_;omega,by show κ.B.length<=_;omega⟩
  ·rw[vX];refine⟨h.Wk.1,by simp,λa ha b hb e=>?_⟩;grind
  ·intro x hx;rcases b7.mp hx with hx|hx
   ·exact h.Wk.2 x hx
   grind
 |tie a b=>exact⟨h.nd,by show κ.P.length<=_;omega,by show κ.G.length<=_;omega,by show(κ.B++[_]).length<=_;grind⟩
 |out v =>
  refine⟨cat _ (h.Wk.1.erase v) (λx hx=>h.Wk.2 x (List.mem_of_mem_erase hx)),by show(κ.P.dropLast++[_]).length<=_;grind,by show(κ.G++[v]).length<=_;grind,by show κ.B.length<=_;omega⟩
 |join=>exact⟨dl,by show κ.P.dropLast.length<=_;omega,by show κ.G.length<=_;omega,by show κ.B.length<=_;omega⟩
def a5q{n:Nat}{b:List Int}(cU:n<=10)(nd:b.Nodup)(bd:∀v∈b,0<=v/\v<(n:Int)):b.length<=10:=by
 have h1:(b.map Int.toNat).Nodup:=by
  unfold List.Nodup;rw[Eg];refine(List.pairwise_iff_forall_sublist.mpr λ{x y} hs=>?_);grind
 have h2:=J5 (m:=n) h1 λx hx=>by
  grind
 grind
theorem gD{α β:Type}{R:α->β->Prop}:∀{xs:List α}{ys:List β}{y:β},Paired R xs (ys++[y])->∃xs' x,xs=xs'++[x]/\Paired R xs' ys/\R x y
 | [],ys,y,h=>by
  have:=aY h
  grind
 |x::r,[],y,h=>by
  cases h with
  |cons h1 h2 =>
   cases h2
   exact⟨[],x,Z,.nil,h1⟩
 |x::r,z::ys,y,h=>by
  cases h with
  |cons h1 h2 =>
   obtain⟨xs',x',e,p,q⟩:=gD h2
   exact⟨x::xs',x',by rw[e];rfl,.cons h1 p,q⟩
structure Qu(n:Nat)(ts:List bA)(ss:List aU)(i:Nat)(κ:Kp)(E:List Int):Prop where
 go:(aP n ts ss i).2=true
 rel:Paired (λj b=>∀v,v∈(aP n ts ss i).1.aR.getD j []↔v∈b) (aP n ts ss i).1.pile κ.P
 asc:∀b∈(aP n ts ss i).1.aR,b.Pairwise (· < ·)
 outs:∀v,aU.out v∈ss.take i↔v∈κ.G
 ties:∀a b,aU.tie a b∈ss.take i↔(a,b)∈κ.B
 ins:∀v,aU.inn v∈ss.take i↔v∈E
 ok:KOk n i κ
def a5r{n:Nat}{ts:List bA}{ss:List aU}:Qu n ts ss 0 ⟨[],[],[]⟩ [] :=
 ⟨Z,.nil,λb h=>absurd h d7,λv=>by simp,λa b=>by simp,λv=>by simp,⟨λb h=>absurd h d7,aO _,aO _,aO _⟩⟩
def uM(p:Int->Bool):(Mq p).Pairwise (· < ·):=by
 unfold Mq;refine Ip _ ?_;rw[Eg];exact List.pairwise_lt_range.imp λh=>by omega
theorem uL:∀{xs ys:List Int},xs.Pairwise (· < ·)->ys.Pairwise (· < ·)->(∀v,v∈xs↔v∈ys)->xs=ys
 | [],[],_,_,_=>rfl
 | [],y::ys,_,_,h=>absurd ((h y).mpr aW) d7
 |x::xs,[],_,_,h=>absurd ((h x).mp aW) d7
 |x::xs,y::ys,hx,hy,h=>by
  rw[zU]at hx hy
  have e:x=y:=by
   rcases cH.mp ((h x).mp aW)with h1|h1
   ·exact h1
   ·rcases cH.mp ((h y).mpr aW)with h2|h2
    ·exact h2.symm
    grind
  subst e
  rw[uL hx.2 hy.2 λv=>⟨λhv=>?_,λhv=>?_⟩]
  ·grind
  grind
def Dr{n:Nat}{ts:List bA}{ss:List aU}{i:Nat}{κ κ':Kp}{E':List Int}{s:aU}{b:List Int}{tG:List Nat}(cU:n<=10)(D:Qu n ts ss i κ E)(h:ss[i]?=some s)(hn:s.need<=(aP n ts ss i).1.pile.length)(hl:(aP n ts ss i).1.pile.take (dh s (aP n ts ss i).1)=tG)
  (hb:qg n ts (ss.take i) s (sO s (aP n ts ss i).1)=some b) (as:b.Pairwise (· < ·))
  (rel:Paired (λj b=>∀v,v∈(aP n ts ss i).1.aR.getD j []↔v∈b) tG κ'.P.dropLast) (ne:κ'.P≠[]) (mb:∀v,v∈b↔v∈κ'.top)
  (mo:∀v,aU.out v∈ss.take (i+1)↔v∈κ'.G) (mt:∀x y,aU.tie x y∈ss.take (i+1)↔(x,y)∈κ'.B) (mi:∀v,aU.inn v∈ss.take (i+1)↔v∈E') (ok:KOk n (i+1) κ'):Qu n ts ss (i+1) κ' E':=by
 have d:rC n ts ss i (aP n ts ss i).1=some ⟨(aP n ts ss i).1.aR++[b],(aP n ts ss i).1.cI++[(aP n ts ss i).1.pile.drop (dh s (aP n ts ss i).1)],tG++[i]⟩:=by
  unfold rC;rw[getD_at h,aG hn,hb,hl];rfl
 have e:=Ĺ D.go d;have I:=jR cU D.go;have tl:=I.tl;refine⟨by rw[e],?_,?_,mo,mt,mi,ok⟩
 ·rw[e,tE ne];refine cV ?_ ?_
  ·have lt:∀j∈tG,j<i:=λj hj=>I.lt j (m9 (hl▸hj));have:∀{xs:List Nat}{ys:List (List Int)},(∀j∈xs,j<i)->Paired (λj b=>∀v,v∈(aP n ts ss i).1.aR.getD j []↔v∈b) xs ys->Paired (λj b'=>∀v,v∈((aP n ts ss i).1.aR++[b]).getD j []↔v∈b') xs ys:=λ{xs}=>by
    induction xs with
    |nil=>intro ys _ h;cases h;exact .nil
    |cons x r ih =>
     intro ys hx h;cases h with
     |cons h1 h2 =>
      refine .cons (λv=>?_) (ih (λj hj=>hx j (bM _ hj)) h2);rw[gB,w5 (by rw[tl];exact hx x aW),<-gB];exact h1 v
   exact this lt rel
  ·intro v;show v∈((aP n ts ss i).1.aR++[b]).getD i []↔_;rw[gB,wZ (by omega),tl,Al];exact mb v
 ·rw[e];intro x hx;rcases b7.mp hx with hx|hx
  ·exact D.asc x hx
  ·rw[bw.mp hx];exact as
def Ig{n:Nat}{ts:List bA}{ss:List aU}{i:Nat}{κ:Kp}(cU:n<=10)(D:Qu n ts ss i κ E)(ne:κ.P≠[]):∃tG j,(aP n ts ss i).1.pile=tG++[j]/\Paired (λj b=>∀v,v∈(aP n ts ss i).1.aR.getD j []↔v∈b) tG κ.P.dropLast/\(∀v,v∈(aP n ts ss i).1.aR.getD j []↔v∈κ.top)/\((aP n ts ss i).1.aR.getD j []).Pairwise (· < ·):=by
 have r:=D.rel;rw[tE ne]at r;obtain⟨tG,j,e,p,q⟩:=gD r;refine⟨tG,j,e,p,q,?_⟩;have I:=jR cU D.go;have jl:j<(aP n ts ss i).1.aR.length:=by rw[I.tl];exact I.lt j (by rw[e];simp)
 rw[gB,bV jl];exact D.asc _ (qy jl)
def Kv{s:aU}{r:RS}{tG:List Nat}{j:Nat}(h1:s.need=1)(e:r.pile=tG++[j]):s.need<=r.pile.length/\r.pile.take (dh s r)=tG/\sO s r=[r.aR.getD j []]:=by
 have el:dh s r=tG.length:=by unfold dh;grind
 refine⟨by grind,by grind,?_⟩;unfold sO;grind
def Kw{P:List (List Int)}(h:P≠[]):P.getLastD []∈P:=by
 have:P.getLastD []∈P.dropLast++[P.getLastD []]:=gF _ aW
 rwa [<-tE h]at this
def Ss{P:List (List Int)}(l2:1<P.length):P.getD (P.length-2) []=P.dropLast.getLastD []:=by
 grind
def join_split{n:Nat}{ts:List bA}{ss:List aU}{i:Nat}{κ:Kp}(cU:n<=10)(D:Qu n ts ss i κ E)(l2:1<κ.P.length):∃tG j1 j2,(aP n ts ss i).1.pile=tG++[j1,j2]/\aU.join.need<=(aP n ts ss i).1.pile.length/\(aP n ts ss i).1.pile.take (dh .join (aP n ts ss i).1)=tG/\sO .join (aP n ts ss i).1=[(aP n ts ss i).1.aR.getD j1 [],(aP n ts ss i).1.aR.getD j2 []]/\Paired (λj b=>∀v,v∈(aP n ts ss i).1.aR.getD j []↔v∈b) tG κ.P.dropLast.dropLast/\(∀v,v∈(aP n ts ss i).1.aR.getD j1 []↔v∈κ.P.dropLast.getLastD [])/\(∀v,v∈(aP n ts ss i).1.aR.getD j2 []↔v∈κ.top)/\((aP n ts ss i).1.aR.getD j1 []).Pairwise (· < ·)/\((aP n ts ss i).1.aR.getD j2 []).Pairwise (· < ·)/\κ.P.dropLast≠[]/\κ.P.getD (κ.P.length-2) []=κ.P.dropLast.getLastD []:=by
 have ne:κ.P≠[]:=λz=>by grind
 have ne2:κ.P.dropLast≠[]:=λz=>by
  have:=TX (xs:=κ.P);grind
 obtain⟨Zq,j2,e,p,q,as2⟩:=Ig cU D ne;have I:=jR cU D.go;rw[tE ne2]at p;obtain⟨tG,j1,rfl,p0,q0⟩:=gD p;have e':(aP n ts ss i).1.pile=tG++[j1,j2]:=by grind
 have el:dh .join (aP n ts ss i).1=tG.length:=by unfold dh;rw[e',bW];show tG.length+2-2=_;omega
 have jl:j1<(aP n ts ss i).1.aR.length:=by rw[I.tl];exact I.lt j1 (by rw[e'];simp)
 refine⟨tG,j1,j2,e',by rw[e',bW];show 2<=tG.length+2;omega,by grind,?_,p0,q0,q,?_,as2,ne2,?_⟩
 ·unfold sO;grind
 ·rw[gB,bV jl];exact D.asc _ (qy jl)
 ·exact Ss l2
def a3A{n:Nat}{ts:List bA}{ss:List aU}{i:Nat}{κ:Kp}{s:aU}(cU:n<=10)(D:Qu n ts ss i κ E)(h:ss[i]?=some s)(c:Can n ts κ s):∃E',(E'=match s with |.inn v=>E++[v]|_=>E)/\Qu n ts ss (i+1) (Lr κ s) E':=by
 have tk:=Qt h;have ok:=D.ok.do c
 have mo:∀v,aU.out v∈ss.take (i+1)↔v∈κ.G\/s=.out v:=λv=>by rw[tk,b7,D.outs,bw,eq_comm]
 have mt:∀a b,aU.tie a b∈ss.take (i+1)↔(a,b)∈κ.B\/s=.tie a b:=λa b=>by rw[tk,b7,D.ties,bw,eq_comm]
 have mi:∀v,aU.inn v∈ss.take (i+1)↔v∈E\/s=.inn v:=λv=>by rw[tk,b7,D.ins,bw,eq_comm]
 have dl:∀b:List Int,(κ.P.dropLast++[b]).dropLast=κ.P.dropLast:=λb=>Ir;have gl:∀(P:List (List Int)) (b:List Int),(P++[b]).getLastD []=b:=λP b=>by rw[Ö,List.getLast?_concat];rfl
 have ne:∀(P:List (List Int)) (b:List Int),P++[b]≠[]:=λP b z=>by simp at z
 cases s with
 |leaf =>
  refine⟨E,Z,Dr cU D h (tG:=(aP n ts ss i).1.pile) (b:=[]) (dI _) ?_ Z .nil ?_ (ne _ _) ?_ ?_ ?_ ?_ ok⟩
  ·show List.take ((aP n ts ss i).1.pile.length-0) _=_;rw[Ak,gZ]
  ·show Paired _ _ (κ.P++[[]]).dropLast;rw[Ir];exact D.rel
  ·intro v;show _↔v∈(κ.P++[[]]).getLastD [];rw[gl]
  ·intro v;rw[mo];simp[Lr]
  ·intro a b;rw[mt];simp[Lr]
  ·intro v;rw[mi];simp
 |inn v =>
  obtain⟨hP,hv,hn,hg⟩:=c;obtain⟨tG,j,e,p,q,as⟩:=Ig cU D hP;obtain⟨u1,u2,u3⟩:=Kv (s:=.inn v) Z e;refine⟨E++[v],Z,Dr cU D h (tG:=tG) (b:=dJ ((aP n ts ss i).1.aR.getD j []) [v]) u1 u2 ?_ (uM _) ?_ (ne _ _) ?_ ?_ ?_ ?_ ok⟩
  ·rw[u3];unfold qg;dsimp only;rw[aG ⟨hv,λz=>hn ((q v).mp z),λz=>hg ((D.outs v).mp z)⟩];rfl
  ·show Paired _ _ (κ.P.dropLast++[_]).dropLast;rw[dl];exact p
  ·intro x;show _↔x∈(κ.P.dropLast++[κ.top++[v]]).getLastD [];rw[gl];unfold dJ;rw[zc,dY,q,b7];constructor
   ·exact λz=>z.2.2
   ·intro z;have bd:=D.ok.Wk.2;refine⟨?_,?_,z⟩
    ·rcases z with z|z
     ·exact(bd x z).1
     ·rw[bw.mp z];exact hv.1
    ·rcases z with z|z
     ·have:=(bd x z).2;omega
     ·rw[bw.mp z];have:=hv.2;omega
  ·intro x;rw[mo];simp[Lr]
  ·intro a b;rw[mt];simp[Lr]
  ·intro x;rw[mi];simp[eq_comm]
 |tie x y =>
  obtain⟨hP,ht,hb,h1,h2⟩:=c;obtain⟨tG,j,e,p,q,as⟩:=Ig cU D hP;obtain⟨u1,u2,u3⟩:=Kv (s:=.tie x y) Z e;refine⟨E,Z,Dr cU D h (tG:=tG) (b:=(aP n ts ss i).1.aR.getD j []) u1 u2 ?_ as p hP q ?_ ?_ ?_ ok⟩
  ·rw[u3];unfold qg;dsimp only;rw[aG]
   ·rfl
   ·refine⟨ht,?_,λz=>hb ((D.ties x y).mp z)⟩;unfold iQ;rw[List.filter_eq_nil_iff];intro v hv;have:v∈(aP n ts ss i).1.aR.getD j []:=by
     rcases cH.mp hv with rfl|hv
     ·exact(q _).mpr h1
     ·rw[bw.mp hv];exact(q _).mpr h2
    simpa using this
  ·intro v;rw[mo];simp[Lr]
  ·intro a b;rw[mt];simp[Lr,eq_comm]
  ·intro v;rw[mi];simp
 |out v =>
  obtain⟨hP,hv,hg⟩:=c;obtain⟨tG,j,e,p,q,as⟩:=Ig cU D hP;obtain⟨u1,u2,u3⟩:=Kv (s:=.out v) Z e;refine⟨E,Z,Dr cU D h (tG:=tG) (b:=iQ ((aP n ts ss i).1.aR.getD j []) [v]) u1 u2 ?_ (Ip _ as) ?_ (ne _ _) ?_ ?_ ?_ ?_ ok⟩
  ·rw[u3];unfold qg;dsimp only;rw[aG ⟨(q v).mpr hv,λz=>hg ((D.outs v).mp z)⟩];rfl
  ·show Paired _ _ (κ.P.dropLast++[_]).dropLast;rw[dl];exact p
  ·intro x;show _↔x∈(κ.P.dropLast++[κ.top.erase v]).getLastD [];rw[gl,D.ok.Wk.1.mem_erase_iff];unfold iQ;rw[iH,q];simp[and_comm]
  ·intro x;rw[mo];simp[Lr,eq_comm]
  ·intro a b;rw[mt];simp[Lr]
  ·intro x;rw[mi];simp
 |join =>
  obtain⟨l2,pm⟩:=c;obtain⟨tG,j1,j2,e,u1,u2,u3,p,q1,q2,as1,as2,ne2,eg⟩:=join_split cU D l2;have eb:(aP n ts ss i).1.aR.getD j1 []=(aP n ts ss i).1.aR.getD j2 []:=uL as1 as2 λv=>by
   rw[q1,q2,<-eg];exact(pm.mem_iff).symm
  refine⟨E,Z,Dr cU D h (tG:=tG) (b:=(aP n ts ss i).1.aR.getD j1 []) u1 u2 ?_ as1 p ne2 q1 ?_ ?_ ?_ ok⟩
  ·rw[u3];unfold qg;dsimp only;rw[aG]
   ·rfl
   ·exact eb
  ·intro v;rw[mo];simp[Lr]
  ·intro a b;rw[mt];simp[Lr]
  ·intro v;rw[mi];simp
def a1l{n:Nat}{ts:List bA}{ss:List aU}{κ:Kp}(cU:n<=10)(D:Qu n ts ss ss.length κ E):(κ.P≠[[]]->DP n ts ss (cF n ts ss)=.pile)/\(κ.P=[[]]->∀v:Nat,v<n->(∀j:Nat,j<v->(j:Int)∈E)->(v:Int)∉E->DP n ts ss (cF n ts ss)=.place v)/\(κ.P=[[]]->(∀j:Nat,j<n->(j:Int)∈E)->DP n ts ss (cF n ts ss)=match ts.find? λt=>!decide (t∈κ.B)with|some t=>.tie t.1 t.2|none=>.ok):=by
 have I:=jR cU D.go;have l1:¬(cF n ts ss).aR.length<ss.length:=by unfold cF;rw[I.tl];omega
 have l2:M6 (cF n ts ss)=[[]]↔κ.P=[[]]:=by
  have r:=D.rel;unfold M6 cF;generalize (aP n ts ss ss.length).1.pile=pl at *
  generalize (aP n ts ss ss.length).1.aR=tp at *
  generalize κ.P=P at *
  cases r with
  |nil=>simp
  | @cons x b xs bs h1 h2 =>
   have e:tp.getD x []=[]↔b=[]:=by
    rw[Td,Td];grind
   cases h2 with
   |nil =>
    grind
   |cons h3 h4 =>
    grind
 have ins:∀v,aU.inn v∈ss↔v∈E:=λv=>by have:=D.ins v;grind
 have tis:∀a b,aU.tie a b∈ss↔(a,b)∈κ.B:=λa b=>by have:=D.ties a b;grind
 refine⟨λh=>?_,λh v hv ok no=>?_,λh ok=>?_⟩
 ·unfold DP;grind
 ·have ef:(List.range n).find? (λ(v:Nat)=>!decide (aU.inn (v:Int)∈ss))=some v:=Ù.mpr ⟨by grind,mF.mpr hv,λj hj=>by grind⟩;unfold DP;grind
 ·have ef:(List.range n).find? (λ(v:Nat)=>!decide (aU.inn (v:Int)∈ss))=none:=Iu.mpr λj hj=>by grind
  have eg:(λt:Int×Int=>!decide (aU.tie t.1 t.2∈ss))=λt=>!decide (t∈κ.B):=funext λt=>by grind
  unfold DP;rw[aB l1,aG (l2.mpr h),ef,eg];try rfl
structure Tb(n m:Nat)(up:Nat->Nat)(bB:Nat->List Int):Prop where
 pos:0<m
 ups:∀k,0<k->k<m->up k<k
 nd:∀k,(bB k).Nodup
 lt:∀k,∀v∈bB k,0<=v/\v<(n:Int)
 fr:∀k,0<k->k<m->∀v∈bB k,v∈bB (up k)\/∀j,j<k->v∉bB j
 no:∀k,m<=k->bB k=[]
inductive qp(m:Nat)(up:Nat->Nat)(k:Nat):Nat->Prop
 |self:k<m->qp m up k k
 |step {r:Nat}:0<r->r<m->qp m up k (up r)->qp m up k r
section
variable{n m:Nat}{up:Nat->Nat}{bB:Nat->List Int}
def Tb.in_(T:Tb n m up bB){k:Nat}{v:Int}(h:v∈bB k):k<m:=by
 rcases xO k m with c|c
 ·exact c
 ·rw[T.no k c]at h;grind
def qp.le(T:Tb n m up bB){k r:Nat}(h:qp m up k r):k<=r:=by
 induction h with
 |self=>grind
 |step r0 rm _ ih=>have:=T.ups _ r0 rm;omega
def qp.trans{k j r:Nat}(h1:qp m up k j)(h2:qp m up j r):qp m up k r:=by
 induction h2 with
 |self=>exact h1
 |step r0 rm _ ih=>exact .step r0 rm ih
def qp.kid(T:Tb n m up bB){k r:Nat}(h:qp m up k r):r=k\/∃j,0<j/\j<m/\up j=k/\qp m up j r:=by
 induction h with
 |self=>exact .inl rfl
 | @step r r0 rm _ ih =>
  rcases ih with e|⟨j,a,b,c,d⟩
  ·exact .inr ⟨r,r0,rm,e,.self rm⟩
  ·exact .inr ⟨j,a,b,c,.step r0 rm d⟩
def qp.cmp{j r:Nat}(h1:qp m up j r)(h2:qp m up j' r):qp m up j j'\/qp m up j' j:=by
 induction h1 with
 |self=>exact .inr h2
 | @step r r0 rm h ih =>
  cases h2 with
  |self=>exact .inl (.step r0 rm h)
  |step _ _ h'=>exact ih h'
def Ih(T:Tb n m up bB){j r:Nat}(j0:0<j)(jm:j<m)(j0':0<j')(jm':j'<m)(e:up j=up j')(h1:qp m up j r)(h2:qp m up j' r):j=j':=by
 have dG:∀{a b:Nat},0<a->a<m->up a=up b->qp m up a b->a=b:=λ{a b} a0 am e h=>by
  cases h with
  |self=>rfl
  |step b0 bm h =>
   rw[<-e]at h;have l1:=h.le T;have l2:=T.ups a a0 am;omega
 rcases h1.cmp h2 with h|h
 ·grind
 grind
def vN(T:Tb n m up bB){j:Nat}{v:Int}(h:v∈bB j)(fr:j=0\/v∉bB (up j)):∀q,v∈bB q->qp m up j q:=by
 have jm:=T.in_ h;have no:∀i,i<j->v∉bB i:=λi hi=>by
  rcases fr with e|e
  ·omega
  ·rcases T.fr j (by omega) jm v h with z|z
   ·grind
   grind
 intro q
 induction q using Nat.strongRecOn with
 |ind q ih =>
  intro hq;have qm:=T.in_ hq;by_cases c:q=j
  ·rw[c];exact .self jm
  ·have lj:j<q:=by
    grind
   rcases T.fr q (by omega) qm v hq with z|z
   ·exact .step (by omega) qm (ih _ (T.ups q (by omega) qm) z)
   grind
def conn(T:Tb n m up bB){j r:Nat}{v:Int}(b:qp m up j r)(h:v∈bB r):(v∈bB j/\v∈bB (up j))\/∀q,v∈bB q->qp m up j q:=by
 induction b with
 |self jm =>
  by_cases c:v∈bB (up j)
  ·exact .inl ⟨h,c⟩
  ·exact .inr (vN T h (.inr c))
 | @step r r0 rm b ih =>
  by_cases c:v∈bB (up r)
  ·exact ih c
  ·exact .inr λq hq=>qp.trans (.step r0 rm b) (vN T h (.inr c) q hq)
def Ky(m:Nat)(up:Nat->Nat)(bB:Nat->List Int)(k:Nat)(v:Int):Prop:=∃r,qp m up k r/\v∈bB r
def œ(T:Tb n m up bB){j:Nat}{v:Int}(j0:0<j)(jm:j<m)(h:Ky m up bB j v)(hu:v∈bB (up j)):v∈bB j:=by
 obtain⟨r,b,hr⟩:=h;rcases conn T b hr with z|z
 ·exact z.1
 ·have l1:=(z _ hu).le T;have l2:=T.ups j j0 jm;omega
def a1m(T:Tb n m up bB){j:Nat}{v:Int}(j0:0<j)(jm:j<m)(j0':0<j')(jm':j'<m)(e:up j=up j')(ne:j≠j')(h:Ky m up bB j v)(h':Ky m up bB j' v):v∈bB (up j):=by
 obtain⟨r,b,hr⟩:=h;obtain⟨r',b',hr'⟩:=h';rcases conn T b hr with z|z
 ·exact z.2
 ·exact absurd (Ih T j0 jm j0' jm' e (z _ hr') b') ne
def Sv(T:Tb n m up bB):∀r,r<m->qp m up 0 r:=by
 intro r
 induction r using Nat.strongRecOn with
 |ind r ih =>
  intro rm;by_cases c:r=0
  ·rw[c];exact .self T.pos
  ·have:=T.ups r (by omega) rm;exact .step (by omega) rm (ih _ this (by omega))
def jr(up:Nat->Nat)(bB:Nat->List Int)(r:Nat)(t:Int×Int):Prop:=t.1∈bB r/\t.2∈bB r/\(r=0\/¬(t.1∈bB (up r)/\t.2∈bB (up r)))
instance (up:Nat->Nat) (bB:Nat->List Int) (r:Nat) (t:Int×Int):Decidable (jr up bB r t):=by unfold jr;infer_instance
def Sw(T:Tb n m up bB){r:Nat}{t:Int×Int}(h:jr up bB r t):∀q,t.1∈bB q->t.2∈bB q->qp m up r q:=by
 obtain⟨h1,h2,h3⟩:=h;intro q q1 q2;rcases h3 with e|e
 ·exact vN T h1 (.inl e) q q1
 ·by_cases c:t.1∈bB (up r)
  ·exact vN T h2 (.inr λz=>e ⟨c,z⟩) q q2
  ·exact vN T h1 (.inr c) q q1
def vP(T:Tb n m up bB){r r':Nat}{t:Int×Int}(h:jr up bB r t)(h':jr up bB r' t):r=r':=by
 have l1:=(Sw T h r' h'.1 h'.2.1).le T;have l2:=(Sw T h' r h.1 h.2.1).le T;omega
def a1n(T:Tb n m up bB){t:Int×Int}:∀q,t.1∈bB q->t.2∈bB q->∃r,r<m/\jr up bB r t:=by
 intro q
 induction q using Nat.strongRecOn with
 |ind q ih =>
  intro q1 q2;have qm:=T.in_ q1;by_cases c:q=0
  ·exact⟨q,qm,q1,q2,.inl c⟩
  ·by_cases d:t.1∈bB (up q)/\t.2∈bB (up q)
   ·exact ih _ (T.ups q (by omega) qm) d.1 d.2
   ·exact⟨q,qm,q1,q2,.inr d⟩
end
def Hw(κ:Kp)(ss:List aU):Kp:=ss.foldl Lr κ
def uy(n wd:Nat)(ts:List bA):Kp->List aU->Prop
 |_,[]=>True
 |κ,s::r=>(Can n ts κ s/\(Lr κ s).top.length<=wd)/\uy n wd ts (Lr κ s) r
section
variable{n:Nat}{ts:List bA}
def mY(κ:Kp)(a b:List aU):Hw κ (a++b)=Hw (Hw κ a) b:=List.foldl_append
theorem pQ:∀{κ:Kp}{a b:List aU},uy n wd ts κ a->uy n wd ts (Hw κ a) b->uy n wd ts κ (a++b)
 |_,[],_,_,h=>h
 |_,_::_,_,h,h'=>⟨h.1,pQ h.2 h'⟩
theorem zx:∀{κ:Kp}{a b:List aU},uy n wd ts κ (a++b)->uy n wd ts κ a/\uy n wd ts (Hw κ a) b
 |_,[],_,h=>⟨trivial,h⟩
 |_,_::_,_,h=>⟨⟨h.1,(zx h.2).1⟩,(zx h.2).2⟩
def sE(P:List (List Int))(b:List Int)(G:List Int)(B:List bA):(Kp.mk (P++[b]) G B).top=b:=by
 show(P++[b]).getLastD []=b;grind
def Ŕ(P:List (List Int))(b:List Int)(G:List Int)(B:List bA):(Kp.mk (P++[b]) G B).P≠[]:=λz=>by
 have:P++[b]=[]:=z;simp at this
theorem Wl:∀(vs:List Int) {P:List (List Int)}{b G:List Int}{B:List bA},vs.Nodup->(∀v∈vs,0<=v/\v<(n:Int))->(∀v∈vs,v∉b)->(∀v∈vs,v∉G)->b.length+vs.length<=wd->uy n wd ts ⟨P++[b],G,B⟩ (vs.map .inn)/\Hw ⟨P++[b],G,B⟩ (vs.map .inn)=⟨P++[b++vs],G,B⟩
 | [],P,b,G,B,_,_,_,_,_=>⟨trivial,by rw[mD];rfl⟩
 |v::vs,P,b,G,B,nd,lt,nb,ng,hw=>by
  rw[nA]at hw
  obtain⟨n1,n2⟩:=jC.mp nd
  have e:Lr ⟨P++[b],G,B⟩ (.inn v)=⟨P++[b++[v]],G,B⟩:=by
   show Kp.mk ((P++[b]).dropLast++[(Kp.mk (P++[b]) G B).top++[v]]) G B=_
   rw[sE,Ir]
  obtain⟨i1,i2⟩:=Wl vs (P:=P) (b:=b++[v]) (G:=G) (B:=B) n2 (λx hx=>lt x (bM _ hx)) (λx hx z=>by
   grind) (λx hx=>ng x (bM _ hx)) (by grind)
  refine⟨⟨⟨⟨Ŕ _ _ _ _,lt v aW,?_,ng v aW⟩,?_⟩,?_⟩,?_⟩
  ·rw[sE];grind
  ·rw[e,sE,bW,DW];omega
  ·grind
  ·show Hw (Lr ⟨P++[b],G,B⟩ (.inn v)) (vs.map .inn)=_
   grind
theorem Qv:∀(vs:List Int) {P:List (List Int)}{b G:List Int}{B:List bA},vs.Nodup->b.Nodup->(∀v∈vs,v∈b)->(∀v∈vs,v∉G)->b.length<=wd->uy n wd ts ⟨P++[b],G,B⟩ (vs.map .out)/\∃b',b'.Nodup/\(∀v,v∈b'↔v∈b/\v∉vs)/\Hw ⟨P++[b],G,B⟩ (vs.map .out)=⟨P++[b'],G++vs,B⟩
 | [],P,b,G,B,_,nb,_,_,_=>⟨trivial,b,nb,λv=>by simp,by rw[mD];rfl⟩
 |v::vs,P,b,G,B,nd,nb,mb,ng,hw=>by
  obtain⟨n1,n2⟩:=jC.mp nd
  have e:Lr ⟨P++[b],G,B⟩ (.out v)=⟨P++[b.erase v],G++[v],B⟩:=by
   show Kp.mk ((P++[b]).dropLast++[(Kp.mk (P++[b]) G B).top.erase v]) (G++[v]) B=_
   rw[sE,Ir]
  obtain⟨i1,b',d1,d2,i2⟩:=Qv vs (P:=P) (b:=b.erase v) (G:=G++[v]) (B:=B) n2 (nb.erase v) (λx hx=>nb.mem_erase_iff.mpr ⟨λz=>n1 (z▸hx),mb x (bM _ hx)⟩) (λx hx z=>by
   grind) (cW List.length_erase_le hw)
  refine⟨⟨⟨⟨Ŕ _ _ _ _,?_,ng v aW⟩,?_⟩,?_⟩,b',d1,λx=>?_,?_⟩
  ·rw[sE];grind
  ·rw[e,sE];grind
  ·grind
  ·grind
  ·show Hw (Lr ⟨P++[b],G,B⟩ (.out v)) (vs.map .out)=_
   grind
theorem Qw:∀(tl:List bA) {P:List (List Int)}{b G:List Int}{B:List bA},tl.Nodup->(∀t∈tl,t∈ts/\t∉B/\t.1∈b/\t.2∈b)->b.length<=wd->uy n wd ts ⟨P++[b],G,B⟩ (tl.map λt=>.tie t.1 t.2)/\Hw ⟨P++[b],G,B⟩ (tl.map λt=>.tie t.1 t.2)=⟨P++[b],G,B++tl⟩
 | [],P,b,G,B,_,_,_=>⟨trivial,by rw[mD];rfl⟩
 |t::tl,P,b,G,B,nd,ok,hw=>by
  obtain⟨n1,n2⟩:=jC.mp nd
  obtain⟨o1,o2,o3,o4⟩:=ok t aW
  obtain⟨i1,i2⟩:=Qw tl (P:=P) (b:=b) (G:=G) (B:=B++[t]) n2 (λs hs=>by
   grind) hw
  refine⟨⟨⟨⟨Ŕ _ _ _ _,o1,o2,?_,?_⟩,?_⟩,i1⟩,?_⟩
  ·rw[sE];exact o3
  ·rw[sE];exact o4
  ·show(Kp.mk (P++[b]) G (B++[t])).top.length<=wd
   rw[sE];exact hw
  ·show Hw ⟨P++[b],G,B++[t]⟩ (tl.map _)=_
   grind
def a1o{n:Nat}{ts:List bA}{P:List (List Int)}{b b' G:List Int}{B:List bA}(pm:b'.Perm b):Can n ts ⟨P++[b]++[b'],G,B⟩ .join/\Lr ⟨P++[b]++[b'],G,B⟩ .join=⟨P++[b],G,B⟩:=by
 refine⟨⟨?_,?_⟩,?_⟩
 ·grind
 ·rw[sE];show b'.Perm ((P++[b]++[b']).getD ((P++[b]++[b']).length-2) []);have:(P++[b]++[b']).getD ((P++[b]++[b']).length-2) []=b:=by
   rw[Ss (by simp),Ir,Ö,List.getLast?_concat];rfl
  rw[this];exact pm
 ·show Kp.mk (P++[b]++[b']).dropLast G B=_;grind
end
def vg(x y:List Int):List Int:=x.filter λv=>!decide (v∈y)
def lG{x y:List Int}{v:Int}:v∈vg x y↔v∈x/\v∉y:=by
 unfold vg;grind
def pX(bB:Nat->List Int)(j k:Nat):List aU:=(vg (bB j) (bB k)).map .out++(vg (bB k) (bB j)).map .inn
section
variable{n m:Nat}{up:Nat->Nat}{bB:Nat->List Int}{ts:List bA}
def ŕ(T:Tb n m up bB)(hW:∀k,(bB k).length<=wd){j k:Nat}{P:List (List Int)}{b G:List Int}{B:List bA}(pm:b.Perm (bB j))(h1:∀v∈bB j,v∉bB k->v∉G)(h2:∀v∈bB k,v∉bB j->v∉G):uy n wd ts ⟨P++[b],G,B⟩ (pX bB j k)/\∃b',b'.Perm (bB k)/\Hw ⟨P++[b],G,B⟩ (pX bB j k)=⟨P++[b'],G++vg (bB j) (bB k),B⟩:=by
 have nb:b.Nodup:=pm.nodup_iff.mpr (T.nd j);obtain⟨o1,b1,d1,d2,o2⟩:=Qv (n:=n) (ts:=ts) (vg (bB j) (bB k)) (P:=P) (b:=b) (G:=G) (B:=B) ((T.nd j).filter _) nb (λv hv=>pm.mem_iff.mpr (lG.mp hv).1) (λv hv=>h1 v (lG.mp hv).1 (lG.mp hv).2) (by rw[pm.length_eq];exact hW j);have m1:∀v,v∈b1↔v∈bB j/\v∈bB k:=λv=>by
  rw[d2,pm.mem_iff,lG];grind
 have pk:(b1++vg (bB k) (bB j)).Perm (bB k):=by
  refine(Ik (vX.mpr ⟨d1,(show(vg (bB k) (bB j)).Nodup from(T.nd k).filter _),λx hx y hy e=>?_⟩) (T.nd k)).mpr λv=>?_
  ·subst e;exact(lG.mp hy).2 ((m1 x).mp hx).1
  ·rw[b7,m1];show _\/v∈vg (bB k) (bB j)↔_;rw[lG];grind
 obtain⟨i1,i2⟩:=Wl (n:=n) (ts:=ts) (vg (bB k) (bB j)) (P:=P) (b:=b1) (G:=G++vg (bB j) (bB k)) (B:=B) ((T.nd k).filter _) (λv hv=>T.lt k v (lG.mp hv).1) (λv hv z=>(lG.mp hv).2 ((m1 v).mp z).1) (λv hv z=>by
  obtain⟨a,c⟩:=lG.mp hv;rcases b7.mp z with z|z
  ·grind
  ·exact(lG.mp z).2 a) (by have h1:=pk.length_eq;have h2:=hW k;rw[bW]at h1;rw[h1];exact h2)
 exact⟨pQ o1 (by grind),b1++vg (bB k) (bB j),pk,by unfold pX;rw[mY,o2,i2]⟩
def Wm(n wd m:Nat)(up:Nat->Nat)(bB:Nat->List Int)(ts tb:List bA)(j:Nat)(ss:List aU):Prop :=
 ∀P G B,(∀v,Ky m up bB j v->v∉G)->(∀t∈B,∀r,qp m up j r->¬jr up bB r t)->∃b G' B',b.Perm (bB j)/\uy n wd ts ⟨P,G,B⟩ ss/\Hw ⟨P,G,B⟩ ss=⟨P++[b],G',B'⟩/\(∀v,v∈G'↔v∈G\/(Ky m up bB j v/\v∉bB j))/\∀t,t∈B'↔t∈B\/(t∈tb/\∃r,qp m up j r/\jr up bB r t)
theorem Qx(T:Tb n m up bB)(hW:∀k,(bB k).length<=wd){tb:List bA}{k:Nat}{L:Nat->List aU}:∀(js:List Nat),js.Nodup->(∀j∈js,0<j/\j<m/\up j=k)->(∀j∈js,Wm n wd m up bB ts tb j (L j))->∀{P:List (List Int)}{b G:List Int}{B:List bA},b.Perm (bB k)->(∀j∈js,∀v,Ky m up bB j v->v∉G)->(∀v∈bB k,v∉G)->(∀j∈js,∀t∈B,∀r,qp m up j r->¬jr up bB r t)->
  ∃G' B',uy n wd ts ⟨P++[b],G,B⟩ (js.flatMap λj=>L j++(pX bB j k++[.join]))/\Hw ⟨P++[b],G,B⟩ (js.flatMap λj=>L j++(pX bB j k++[.join]))=⟨P++[b],G',B'⟩/\(∀v,v∈G'↔v∈G\/∃j∈js,Ky m up bB j v/\v∉bB k)/\∀t,t∈B'↔t∈B\/(t∈tb/\∃j∈js,∃r,qp m up j r/\jr up bB r t)
 | [],_,_,_,P,b,G,B,_,_,_,_=>⟨G,B,trivial,Z,λv=>by simp,λt=>by simp⟩
 |j::js,nd,kd,ly,P,b,G,B,pm,hG,hK,hB=>by
  obtain⟨n1,n2⟩:=jC.mp nd
  obtain⟨j0,jm,ju⟩:=kd j aW
  obtain⟨bj,G1,B1,pj,a1,e1,mG1,mB1⟩:=ly j aW (P++[b]) G B (hG j aW) (hB j aW)
  have a6L:∀v∈bB j,Ky m up bB j v:=λv hv=>⟨j,.self jm,hv⟩
  obtain⟨a2,b2,p2,e2⟩:=ŕ (ts:=ts) T hW (k:=k) (P:=P++[b]) (G:=G1) (B:=B1) pj (λv hv _ z=>by
   grind) (λv hv nv z=>by
   rcases(mG1 v).mp z with z|z
   ·grind
   ·exact nv (œ T j0 jm z.1 (ju▸hv)))
  obtain⟨c3,e3⟩:=a1o (n:=n) (ts:=ts) (P:=P) (b:=b) (b':=b2) (G:=G1++vg (bB j) (bB k)) (B:=B1) (p2.trans pm.symm)
  have mG2:∀v,v∈G1++vg (bB j) (bB k)↔v∈G\/(Ky m up bB j v/\v∉bB k):=λv=>by
   rw[b7,mG1,lG]
   constructor
   ·rintro((z|⟨z1,z2⟩)|⟨z1,z2⟩)
    ·exact .inl z
    ·exact .inr ⟨z1,λz=>z2 (œ T j0 jm z1 (ju▸z))⟩
    grind
   grind
  obtain⟨G',B',a4,e4,mG,mB⟩:=Qx T hW js n2 (λi hi=>kd i (bM _ hi)) (λi hi=>ly i (bM _ hi)) (P:=P) (b:=b) (G:=G1++vg (bB j) (bB k)) (B:=B1) pm (λi hi v hv z=>by
   obtain⟨i0,im,iu⟩:=kd i (bM _ hi)
   rcases(mG2 v).mp z with z|⟨z1,z2⟩
   ·grind
   ·exact z2 (ju▸a1m T j0 jm i0 im (ju.trans iu.symm) (λz=>n1 (z▸hi)) z1 hv)) (λv hv z=>by
   grind) (λi hi t ht r br hr=>by
   obtain⟨i0,im,iu⟩:=kd i (bM _ hi)
   rcases(mB1 t).mp ht with z|⟨_,r',br',hr'⟩
   ·grind
   ·have:=vP T hr hr'
    subst this
    exact n1 (Ih T j0 jm i0 im (ju.trans iu.symm) br' br▸hi))
  have es:(j::js).flatMap (λj=>L j++(pX bB j k++[.join]))=L j++(pX bB j k++([.join]++js.flatMap λj=>L j++(pX bB j k++[.join]))):=by
   grind
  rw[es]
  refine⟨G',B',pQ a1 ?_,?_,λv=>?_,λt=>?_⟩
  ·rw[e1]
   refine pQ a2 ?_
   rw[e2]
   exact⟨⟨c3,by rw[e3,sE,pm.length_eq];exact hW k⟩,by rw[e3];exact a4⟩
  ·rw[mY,e1,mY,e2]
   show Hw (Lr _ .join) (js.flatMap λj=>L j++(pX bB j k++[.join]))=_
   rw[e3,e4]
  ·grind
  grind
def vQ(up:Nat->Nat)(bB:Nat->List Int)(tb:List bA)(k:Nat):List bA:=tb.filter λt=>decide (jr up bB k t)
def gY(m:Nat)(up:Nat->Nat)(k:Nat):List Nat:=(List.range m).filter λj=>decide (k<j)&&decide (up j=k)
def mU(T:Tb n m up bB){k j:Nat}:j∈gY m up k↔0<j/\j<m/\up j=k:=by
 unfold gY;rw[iH,mF,oH,dY,dY];constructor
 ·grind
 ·rintro⟨a,b,c⟩;have:=T.ups j a b;exact⟨b,by omega,c⟩
def Ii(m:Nat)(up:Nat->Nat)(k:Nat):(gY m up k).Nodup:=List.nodup_range.sublist T6
def a3B(T:Tb n m up bB)(hW:∀k,(bB k).length<=wd){tb:List bA}{k:Nat}(km:k<m)(tn:tb.Nodup)(sub:∀t∈tb,t∈ts){P:List (List Int)}{b G G':List Int}{B B':List bA}(pm:b.Perm (bB k))(hB:∀t∈B,∀r,qp m up k r->¬jr up bB r t)(mG:∀v,v∈G'↔v∈G\/∃j∈gY m up k,Ky m up bB j v/\v∉bB k)(mB:∀t,t∈B'↔t∈B\/(t∈tb/\∃j∈gY m up k,∃r,qp m up j r/\jr up bB r t)) :
  ∃B2,uy n wd ts ⟨P++[b],G',B'⟩ ((vQ up bB tb k).map λt=>.tie t.1 t.2)/\Hw ⟨P++[b],G',B'⟩ ((vQ up bB tb k).map λt=>.tie t.1 t.2)=⟨P++[b],G',B2⟩/\(∀v,v∈G'↔v∈G\/(Ky m up bB k v/\v∉bB k))/\∀t,t∈B2↔t∈B\/(t∈tb/\∃r,qp m up k r/\jr up bB r t):=by
 have mo:∀t,t∈vQ up bB tb k↔t∈tb/\jr up bB k t:=λt=>by
  unfold vQ;rw[iH,dY]
 have kb:∀{j r:Nat},j∈gY m up k->qp m up j r->qp m up k r:=λ{j r} hj b=>by
  obtain⟨j0,jm,ju⟩:=(mU T).mp hj;exact qp.trans (.step j0 jm (by rw[ju];exact .self km)) b
 obtain⟨a,e⟩:=Qw (n:=n) (ts:=ts) (vQ up bB tb k) (P:=P) (b:=b) (G:=G') (B:=B') (tn.sublist T6) (λt ht=>by
  obtain⟨t1,h⟩:=(mo t).mp ht;refine⟨sub t t1,λz=>?_,pm.mem_iff.mpr h.1,pm.mem_iff.mpr h.2.1⟩;rcases(mB t).mp z with z|⟨_,j,hj,r,br,hr⟩
  ·exact hB t z k (.self km) h
  ·have:=vP T hr h;subst this;obtain⟨j0,jm,ju⟩:=(mU T).mp hj;have l1:=br.le T;have l2:=T.ups j j0 jm;omega) (by rw[pm.length_eq];exact hW k)
 refine⟨B'++vQ up bB tb k,a,e,λv=>?_,λt=>?_⟩
 ·rw[mG];constructor
  ·rintro(z|⟨j,hj,⟨r,br,hr⟩,z⟩)
   ·exact .inl z
   ·exact .inr ⟨⟨r,kb hj br,hr⟩,z⟩
  ·rintro(z|⟨⟨r,br,hr⟩,z⟩)
   ·exact .inl z
   ·rcases br.kid T with c|⟨j,j0,jm,ju,bj⟩
    ·exact absurd (c▸hr) z
    ·exact .inr ⟨j,(mU T).mpr ⟨j0,jm,ju⟩,⟨r,bj,hr⟩,z⟩
 ·rw[b7,mB,mo];constructor
  ·rintro((z|⟨z0,j,hj,r,br,hr⟩)|⟨z0,z⟩)
   ·exact .inl z
   ·exact .inr ⟨z0,r,kb hj br,hr⟩
   ·exact .inr ⟨z0,k,.self km,z⟩
  ·rintro(z|⟨z0,r,br,hr⟩)
   ·exact .inl (.inl z)
   ·rcases br.kid T with c|⟨j,j0,jm,ju,bj⟩
    ·exact .inr ⟨z0,c▸hr⟩
    ·exact .inl (.inr ⟨z0,j,(mU T).mpr ⟨j0,jm,ju⟩,r,bj,hr⟩)
end
section
variable{n:Nat}{ts:List bA}{ss:List aU}
theorem Kz(cU:n<=10)(c:uy n wd ts ⟨[],[],[]⟩ ss):∀i,i<=ss.length->∃E,Qu n ts ss i (Hw ⟨[],[],[]⟩ (ss.take i)) E
 |0,_=>⟨[],a5r⟩
 |i+1,il=>by
  obtain⟨E,D⟩:=Kz cU c i (by omega)
  have hs:ss[i]?=some (ss[i]'(by omega)):=bV (by omega)
  have c1:uy n wd ts ⟨[],[],[]⟩ (ss.take i++ss.drop i):=by rw[rR];exact c
  have c2:=(zx c1).2
  rw[Il (show i<ss.length by omega)]at c2
  obtain⟨E',_,D'⟩:=a3A cU D hs c2.1.1
  refine⟨E',?_⟩
  rw[Qt hs,mY]
  exact D'
def a1p(c:uy n wd ts ⟨[],[],[]⟩ ss){i:Nat}(il:i<ss.length):(Hw ⟨[],[],[]⟩ (ss.take (i+1))).top.length<=wd:=by
 have c1:uy n wd ts ⟨[],[],[]⟩ (ss.take i++ss.drop i):=by rw[rR];exact c
 have c2:=(zx c1).2;rw[Il il]at c2;have hs:ss[i]?=some (ss[i]'il):=bV il;rw[Qt hs,mY];exact c2.1.2
end
section
variable{n:Nat}{ts:List bA}
theorem Ŗ:∀(a:List aU) {κ:Kp}{pre:List aU},uy n wd ts κ a->(∀v,(v∈κ.G\/∃b∈κ.P,v∈b)->aU.inn v∈pre)->∀v,(v∈(Hw κ a).G\/∃b∈(Hw κ a).P,v∈b)->aU.inn v∈pre++a
 | [],κ,pre,_,h,v,hv=>by rw[mD];exact h v hv
 |s::r,κ,pre,c,h,v,hv=>by
  have e:pre++s::r=(pre++[s])++r:=by grind
  rw[e]
  refine Ŗ r c.2 (λu hu=>?_) v hv
  have old:∀{u},(u∈κ.G\/∃b∈κ.P,u∈b)->aU.inn u∈pre++[s]:=λhu=>tK _ (h _ hu)
  have dl:∀{b:List Int},b∈κ.P.dropLast->b∈κ.P:=λhb=>m9 (by rw[List.dropLast_eq_take]at hb;exact hb)
  have can:=c.1.1
  cases s with
  |leaf =>
   rcases hu with hu|⟨b,hb,hu⟩
   ·exact old (.inl hu)
   ·rcases b7.mp (show b∈κ.P++[[]]from hb)with hb|hb
    ·grind
    grind
  |inn x =>
   rcases hu with hu|⟨b,hb,hu⟩
   ·exact old (.inl hu)
   ·rcases b7.mp (show b∈κ.P.dropLast++[κ.top++[x]]from hb)with hb|hb
    ·grind
    ·rw[bw.mp hb]at hu
     rcases b7.mp hu with hu|hu
     ·exact old (.inr ⟨_,Kw can.1,hu⟩)
     grind
  |tie x y=>exact old hu
  |out x =>
   rcases hu with hu|⟨b,hb,hu⟩
   ·rcases b7.mp (show u∈κ.G++[x]from hu)with hu|hu
    ·grind
    ·rw[bw.mp hu]
     exact old (.inr ⟨_,Kw can.1,can.2.1⟩)
   ·rcases b7.mp (show b∈κ.P.dropLast++[κ.top.erase x]from hb)with hb|hb
    ·grind
    ·rw[bw.mp hb]at hu
     exact old (.inr ⟨_,Kw can.1,List.mem_of_mem_erase hu⟩)
  |join =>
   rcases hu with hu|⟨b,hb,hu⟩
   ·exact old (.inl hu)
   ·exact old (.inr ⟨b,dl hb,hu⟩)
end
section
variable{n:Nat}{ts:List bA}{ss:List aU}
def a5s(cU:n<=10)(c:uy n wd ts ⟨[],[],[]⟩ ss){G:List Int}{B:List bA}(h:Hw ⟨[],[],[]⟩ ss=⟨[[]],G,B⟩)(cov:∀v:Int,0<=v->v<(n:Int)->v∈G)(mB:∀t,t∈B↔t∈ts):DP n ts ss (cF n ts ss)=.ok:=by
 obtain⟨E,D⟩:=Kz cU c ss.length (aO _);rw[gZ,h]at D;have hE:∀j:Nat,j<n->(j:Int)∈E:=λj hj=>by
  have h1:=Ŗ ss c (pre:=[]) (λv hv=>by
   grind) (j:Int) (.inl (by grind))
  have h2:=(D.ins (j:Int)).mp (by grind);exact h2
 have:=(a1l cU D).2.2 Z hE;grind
def Z2(cU:n<=10)(c:uy n wd ts ⟨[],[],[]⟩ ss)(wU:DP n ts ss (cF n ts ss)=.ok):∀b∈(cF n ts ss).aR,b.length<=wd:=by
 have go:=Ŀ cU wU;have I:=zq cU wU;intro b hb;obtain⟨k,kl,e⟩:=uO hb;rw[I.tl]at kl;have eb:Go.fO n ts ss k=b:=by
  show(cF n ts ss).aR.getD k []=b;rw[gB,bV (by rw[I.tl];exact kl),<-e];rfl
 obtain⟨E',D'⟩:=Kz cU c (k+1) (by omega);have S:=Go.Bu (n:=n) (ts:=ts) go cU (List.getElem?_eq_getElem kl);have r:=D'.rel;have wd':=a1p c kl;have ok':=D'.ok;generalize Hw ⟨[],[],[]⟩ (ss.take (k+1))=κ at r wd' ok';rw[S.pile]at r;have ne:κ.P≠[]:=λz=>by
  rw[z]at r;have:=aY r;simp at this
 rw[tE ne]at r;obtain⟨xs',x,ex,_,hx⟩:=gD r;have ex':=(List.append_inj' ex Z).2;cases ex';rw[Go.Qp go cU (Nat.le_refl _) (by omega)]at hx;have hx':∀v,v∈Go.fO n ts ss k↔v∈κ.top:=hx;have nd:=(Go.Kq cU (λk s h=>Go.a1c (Go.Bu go cU h)) k kl).1;rw[eb]at hx' nd;have pm:b.Perm κ.top:=(Ik (Go.yx nd) ok'.Wk.1).mpr hx';rw[pm.length_eq];exact wd'
end
theorem Nm{α:Type}(p q:α->Bool)(h:∀x,p x=true->q x=true):∀l:List α,l.countP p+l.countP (λx=>q x && !p x)=l.countP q
 | []=>rfl
 |x::l=>by
  have ih:=Nm p q h l
  grind
theorem FP{α:Type}(l:List α)(p:Nat->α->Bool):∀(js:List Nat) (q:α->Bool),js.Nodup->(∀j∈js,∀x,p j x=true->q x=true)->(∀j∈js,∀j'∈js,∀x,p j x=true->p j' x=true->j=j')->(js.map λj=>l.countP (p j)).sum<=l.countP q
 | [],_,_,_,_=>dI _
 |j::js,q,nd,hq,dG=>by
  obtain⟨n1,n2⟩:=jC.mp nd
  have ih:=FP l p js (λx=>q x && !p j x) n2 (λi hi x hx=>by
   grind) (λa ha b hb x h1 h2=>dG a (bM _ ha) b (bM _ hb) x h1 h2)
  have:=Nm (p j) q (hq j aW) l
  grind
section
open Classical
variable{n m:Nat}{up:Nat->Nat}{bB:Nat->List Int}
noncomputable def cR (m:Nat) (up:Nat->Nat) (k:Nat):Nat:=(List.range m).countP λr=>decide (qp m up k r)
noncomputable def cT (m:Nat) (up:Nat->Nat) (bB:Nat->List Int) (tb:List bA) (k:Nat):Nat:=tb.countP λt=>decide (∃r,qp m up k r/\jr up bB r t)
def Yi(T:Tb n m up bB){k:Nat}(km:k<m):1+((gY m up k).map λj=>cR m up j).sum<=cR m up k:=by
 have kid:∀j∈gY m up k,0<j/\j<m/\up j=k:=λj hj=>(mU T).mp hj;have ne:∀j∈gY m up k,j≠k:=λj hj e=>by
  obtain⟨j0,jm,ju⟩:=kid j hj;have:=T.ups j j0 jm;omega
 have h:=FP (List.range m) (λj r=>if j=k then decide (r=k)else decide (qp m up j r)) (k::gY m up k) (λr=>decide (qp m up k r)) (jC.mpr ⟨λz=>ne k z Z,Ii _ _ _⟩) (λj hj x hx=>by
  by_cases c:j=k
  ·rw[aG c,dY]at hx;rw[hx];exact bO (.self km)
  ·rw[aB c,dY]at hx;rcases cH.mp hj with e|hj
   ·grind
   ·obtain⟨j0,jm,ju⟩:=kid j hj;exact bO (qp.trans (.step j0 jm (by rw[ju];exact .self km)) hx)) (λa ha b hb x h1 h2=>by
  have nk:∀{j:Nat},j∈gY m up k->¬qp m up j k:=λ{j} hj z=>by
   obtain⟨j0,jm,ju⟩:=kid j hj;have:=T.ups j j0 jm;have:=z.le T;omega
  rcases cH.mp ha with ea|ha<;>rcases cH.mp hb with eb|hb
  ·rw[ea,eb]
  ·grind
  ·grind
  ·rw[aB (ne a ha),dY]at h1;rw[aB (ne b hb),dY]at h2;obtain⟨a0,am,au⟩:=kid a ha;obtain⟨b0,bm,bu⟩:=kid b hb;exact Ih T a0 am b0 bm (au.trans bu.symm) h1 h2)
 rw[cL,uQ]at h;have e1:(List.range m).countP (λr=>if k=k then decide (r=k)else decide (qp m up k r))=1:=by
  have:(λr=>if k=k then decide (r=k)else decide (qp m up k r))=λr=>decide (r=k):=funext λr=>aG rfl;rw[this];have h1:=List.nodup_range (n:=m);have h2:List.count k (List.range m)=1:=by grind
  rw[<-h2];unfold List.count;grind
 have e2:(gY m up k).map (λj=>(List.range m).countP λr=>if j=k then decide (r=k)else decide (qp m up j r))=(gY m up k).map λj=>cR m up j:=tM λj hj=>by
  unfold cR;congr 1;funext r;rw[aB (ne j hj)]
 rw[e1,e2]at h;exact h
def a1q(T:Tb n m up bB){k:Nat}(km:k<m)(tb:List bA):(vQ up bB tb k).length+((gY m up k).map λj=>cT m up bB tb j).sum<=cT m up bB tb k:=by
 have kid:∀j∈gY m up k,0<j/\j<m/\up j=k:=λj hj=>(mU T).mp hj;have ne:∀j∈gY m up k,j≠k:=λj hj e=>by
  obtain⟨j0,jm,ju⟩:=kid j hj;have:=T.ups j j0 jm;omega
 have h:=FP tb (λj t=>if j=k then decide (jr up bB k t)else decide (∃r,qp m up j r/\jr up bB r t)) (k::gY m up k) (λt=>decide (∃r,qp m up k r/\jr up bB r t)) (jC.mpr ⟨λz=>ne k z Z,Ii _ _ _⟩) (λj hj x hx=>by
  by_cases c:j=k
  ·rw[aG c,dY]at hx;exact bO ⟨k,.self km,hx⟩
  ·rw[aB c,dY]at hx;obtain⟨r,br,hr⟩:=hx;rcases cH.mp hj with e|hj
   ·grind
   ·obtain⟨j0,jm,ju⟩:=kid j hj;exact bO ⟨r,qp.trans (.step j0 jm (by rw[ju];exact .self km)) br,hr⟩) (λa ha b hb x h1 h2=>by
  have nk:∀{j:Nat},j∈gY m up k->¬qp m up j k:=λ{j} hj z=>by
   obtain⟨j0,jm,ju⟩:=kid j hj;have:=T.ups j j0 jm;have:=z.le T;omega
  rcases cH.mp ha with ea|ha<;>rcases cH.mp hb with eb|hb
  ·rw[ea,eb]
  ·rw[aG ea,dY]at h1;rw[aB (ne b hb),dY]at h2;obtain⟨r,br,hr⟩:=h2;exact absurd (vP T hr h1▸br) (nk hb)
  ·rw[aG eb,dY]at h2;rw[aB (ne a ha),dY]at h1;obtain⟨r,br,hr⟩:=h1;exact absurd (vP T hr h2▸br) (nk ha)
  ·rw[aB (ne a ha),dY]at h1;rw[aB (ne b hb),dY]at h2;obtain⟨r,br,hr⟩:=h1;obtain⟨r',br',hr'⟩:=h2;have:=vP T hr hr';subst this;obtain⟨a0,am,au⟩:=kid a ha;obtain⟨b0,bm,bu⟩:=kid b hb;exact Ih T a0 am b0 bm (au.trans bu.symm) br br')
 rw[cL,uQ]at h;have e1:tb.countP (λt=>if k=k then decide (jr up bB k t)else decide (∃r,qp m up k r/\jr up bB r t))=(vQ up bB tb k).length:=by
  unfold vQ;grind
 have e2:(gY m up k).map (λj=>tb.countP λt=>if j=k then decide (jr up bB k t)else decide (∃r,qp m up j r/\jr up bB r t))=(gY m up k).map λj=>cT m up bB tb j:=tM λj hj=>by
  unfold cT;congr 1;funext t;rw[aB (ne j hj)]
 rw[e1,e2]at h;exact h
theorem Yj{α:Type}(L:Nat->List α)(c d:Nat->Nat):∀js:List Nat,(∀j∈js,(L j).length<=14*c j+d j)->(js.flatMap L).length<=14*(js.map c).sum+(js.map d).sum
 | [],_=>dI _
 |j::js,h=>by
  have ih:=Yj L c d js λi hi=>h i (bM _ hi)
  grind
def Z4(hW:∀k,(bB k).length<=4)(j k:Nat):(pX bB j k).length<=8:=by
 have f1:(vg (bB j) (bB k)).length<=4:=cW (zT _ _) (hW j);have f2:(vg (bB k) (bB j)).length<=4:=cW (zT _ _) (hW k);unfold pX;grind
end
def qu(early:Bool)(tb:List bA)(m:Nat)(up:Nat->Nat)(bB:Nat->List Int):Nat->Nat->List aU
 |0,_=>[]
 |f+1,k=>(((.leaf::(bB k).map .inn)++if early=true then(vQ up bB tb k).map λt=>.tie t.1 t.2 else [])++(gY m up k).flatMap λj=>qu early tb m up bB f j++(pX bB j k++[.join]))++if early=true then []else(vQ up bB tb k).map λt=>.tie t.1 t.2
section
variable{n m:Nat}{up:Nat->Nat}{bB:Nat->List Int}{ts:List bA}
theorem Sx(T:Tb n m up bB)(hW:∀k,(bB k).length<=wd){tb:List bA}(tn:tb.Nodup)(sub:∀t∈tb,t∈ts)(early:Bool):∀f k,k<m->m<=k+f->Wm n wd m up bB ts tb k (qu early tb m up bB f k)
 |0,k,km,mk=>absurd km (by omega)
 |f+1,k,km,mk=>by
  intro P G B hG hB
  have ŗ:∀v∈bB k,v∉G:=λv hv=>hG v ⟨k,.self km,hv⟩
  obtain⟨i1,i2⟩:=Wl (n:=n) (wd:=wd) (ts:=ts) (bB k) (P:=P) (b:=[]) (G:=G) (B:=B) (T.nd k) (T.lt k) (λv _ z=>absurd z d7) ŗ (by have:=hW k;show 0+_<=_;omega)
  have kid:∀j∈gY m up k,0<j/\j<m/\up j=k:=λj hj=>(mU T).mp hj
  have kb:∀j∈gY m up k,∀r,qp m up j r->qp m up k r:=λj hj r b=>by
   obtain⟨j0,jm,ju⟩:=kid j hj
   exact qp.trans (.step j0 jm (by rw[ju];exact .self km)) b
  have jk:∀j∈gY m up k,¬qp m up j k:=λj hj z=>by
   obtain⟨j0,jm,ju⟩:=kid j hj
   have l1:=z.le T
   have l2:=T.ups j j0 jm
   omega
  have ih:∀j∈gY m up k,Wm n wd m up bB ts tb j (qu early tb m up bB f j):=λj hj=>by
   obtain⟨j0,jm,ju⟩:=kid j hj
   have:=T.ups j j0 jm
   exact Sx T hW tn sub early f j jm (by omega)
  have a1:uy n wd ts ⟨P,G,B⟩ (.leaf::(bB k).map .inn):=by
   refine⟨⟨trivial,?_⟩,i1⟩
   show(Kp.mk (P++[[]]) G B).top.length<=wd
   rw[sE]
   exact dI _
  have e1:Hw ⟨P,G,B⟩ (.leaf::(bB k).map .inn)=⟨P++[bB k],G,B⟩:=by
   show Hw ⟨P++[[]],G,B⟩ ((bB k).map .inn)=_
   rw[i2,List.nil_append]
  cases early with
  |false =>
   obtain⟨G',B',a,e,mG,mB⟩:=Qx (ts:=ts) T hW (L:=qu false tb m up bB f) (gY m up k) (Ii _ _ _) kid ih (P:=P) (b:=bB k) (G:=G) (B:=B) (vY _) (λj hj v ⟨r,b,hr⟩=>hG v ⟨r,kb j hj r b,hr⟩) ŗ (λj hj t ht r b=>hB t ht r (kb j hj r b))
   obtain⟨B2,a2,e2,mG2,mB2⟩:=a3B (ts:=ts) T hW km tn sub (P:=P) (vY _) hB mG mB
   refine⟨bB k,G',B2,vY _,?_,?_,mG2,mB2⟩
   ·unfold qu
    rw[aB dw,aB dw,mD]
    refine pQ (pQ a1 (by rw[e1];exact a)) ?_
    rw[mY,e1,e]
    exact a2
   ·unfold qu
    rw[aB dw,aB dw,mD,mY,mY,e1,e,e2]
  |true =>
   have mo:∀t,t∈vQ up bB tb k↔t∈tb/\jr up bB k t:=λt=>by
    unfold vQ
    rw[iH,dY]
   obtain⟨t1,t2⟩:=Qw (n:=n) (wd:=wd) (ts:=ts) (vQ up bB tb k) (P:=P) (b:=bB k) (G:=G) (B:=B) (tn.sublist T6) (λt ht=>by
    obtain⟨h0,h⟩:=(mo t).mp ht
    exact⟨sub t h0,λz=>hB t z k (.self km) h,h.1,h.2.1⟩) (hW k)
   obtain⟨G',B',a,e,mG,mB⟩:=Qx (ts:=ts) T hW (L:=qu true tb m up bB f) (gY m up k) (Ii _ _ _) kid ih (P:=P) (b:=bB k) (G:=G) (B:=B++vQ up bB tb k) (vY _) (λj hj v ⟨r,b,hr⟩=>hG v ⟨r,kb j hj r b,hr⟩) ŗ (λj hj t ht r b hr=>by
    rcases b7.mp ht with z|z
    ·exact hB t z r (kb j hj r b) hr
    ·exact jk j hj (vP T hr ((mo t).mp z).2▸b))
   refine⟨bB k,G',B',vY _,?_,?_,λv=>?_,λt=>?_⟩
   ·unfold qu
    rw[aG Z,aG Z,mD]
    refine pQ (pQ a1 (by rw[e1];exact t1)) ?_
    rw[mY,e1,t2]
    exact a
   ·unfold qu
    rw[aG Z,aG Z,mD,mY,mY,e1,t2,e]
   ·rw[mG]
    constructor
    ·rintro(z|⟨j,hj,⟨r,br,hr⟩,z⟩)
     ·exact .inl z
     ·exact .inr ⟨⟨r,kb j hj r br,hr⟩,z⟩
    ·rintro(z|⟨⟨r,br,hr⟩,z⟩)
     ·exact .inl z
     ·rcases br.kid T with c|⟨j,j0,jm,ju,bj⟩
      ·exact absurd (c▸hr) z
      ·exact .inr ⟨j,(mU T).mpr ⟨j0,jm,ju⟩,⟨r,bj,hr⟩,z⟩
   ·rw[mB,b7,mo]
    constructor
    ·rintro((z|⟨z0,z⟩)|⟨z0,j,hj,r,br,hr⟩)
     ·exact .inl z
     ·exact .inr ⟨z0,k,.self km,z⟩
     ·exact .inr ⟨z0,r,kb j hj r br,hr⟩
    ·rintro(z|⟨z0,r,br,hr⟩)
     ·exact .inl (.inl z)
     ·rcases br.kid T with c|⟨j,j0,jm,ju,bj⟩
      ·exact .inl (.inr ⟨z0,c▸hr⟩)
      ·exact .inr ⟨z0,j,(mU T).mpr ⟨j0,jm,ju⟩,r,bj,hr⟩
theorem Np(T:Tb n m up bB)(hW:∀k,(bB k).length<=4)(early:Bool)(tb:List bA):∀f k,k<m->(qu early tb m up bB f k).length+9<=14*cR m up k+cT m up bB tb k
 |0,k,km=>by
  have h:=Yi T km
  show 0+9<=_
  omega
 |f+1,k,km=>by
  have h1:=Yi T km
  have h2:=a1q T km tb
  have hb:=hW k
  have h3:=Yj (λj=>qu early tb m up bB f j++(pX bB j k++[aU.join])) (λj=>cR m up j) (λj=>cT m up bB tb j) (gY m up k) λj hj=>by
   obtain⟨j0,jm,ju⟩:=(mU T).mp hj
   have ih:=Np T hW early tb f j jm
   have:=Z4 hW j k
   grind
  unfold qu
  grind
def Nq(T:Tb n m up bB)(hW:∀k,(bB k).length<=4)(m20:m<=20)(early:Bool){tb:List bA}(Ř:tb.length<=100){f k:Nat}(km:k<m):(qu early tb m up bB f k).length<=400:=by
 have h:=Np T hW early tb f k km;have h1:cR m up k<=m:=by
  unfold cR;exact cW List.countP_le_length (by grind)
 have h2:cT m up bB tb k<=tb.length:=List.countP_le_length;omega
def BJ(early:Bool)(tb:List bA)(m:Nat)(up:Nat->Nat)(bB:Nat->List Int)(d:Nat):List aU:=qu early tb m up bB d 0++(bB 0).map .out
def Z5{d:Nat}(T:Tb n m up bB)(cU:n<=10)(hW:∀k,(bB k).length<=wd)(tn:ts.Nodup)(inb:∀t∈ts,∃k,t.1∈bB k/\t.2∈bB k)(cov:∀v:Int,0<=v->v<(n:Int)->∃k,v∈bB k)(md:m<=d)(early:Bool):DP n ts (BJ early ts m up bB d) (cF n ts (BJ early ts m up bB d))=.ok/\∀b∈(cF n ts (BJ early ts m up bB d)).aR,b.length<=wd:=by
 obtain⟨b,G',B',pm,a,e,mG,mB⟩:=Sx (ts:=ts) T hW tn (λ_ h=>h) early d 0 T.pos (by omega) [] [] [] (λv _ z=>absurd z d7) (λt ht=>absurd ht d7);obtain⟨o1,b',d1,d2,o2⟩:=Qv (n:=n) (wd:=wd) (ts:=ts) (bB 0) (P:=[]) (b:=b) (G:=G') (B:=B') (T.nd 0) (pm.nodup_iff.mpr (T.nd 0)) (λv hv=>pm.mem_iff.mpr hv) (λv hv z=>by
  grind) (by rw[pm.length_eq];exact hW 0)
 have eb:b'=[]:=Td.mpr λv hv=>((d2 v).mp hv).2 (pm.mem_iff.mp ((d2 v).mp hv).1);have A:uy n wd ts ⟨[],[],[]⟩ (BJ early ts m up bB d):=pQ a (by grind);have E:Hw ⟨[],[],[]⟩ (BJ early ts m up bB d)=⟨[[]],G'++bB 0,B'⟩:=by
  unfold BJ;rw[mY,e,o2,eb];rfl
 have wU:=a5s cU A E (λv v0 vn=>by
  obtain⟨k,hk⟩:=cov v v0 vn;by_cases c:v∈bB 0
  ·grind
  ·refine tK _ ((mG v).mpr (.inr ⟨⟨k,Sv T k (T.in_ hk),hk⟩,c⟩))) (λt=>by
  rw[mB];constructor
  ·grind
  ·intro z;obtain⟨k,k1,k2⟩:=inb t z;obtain⟨r,rm,hr⟩:=a1n T k k1 k2;exact .inr ⟨z,r,Sv T r rm,hr⟩)
 exact⟨wU,Z2 cU A wU⟩
end
abbrev rng(n:Nat):List Int:=(List.range n).map λi=>((i:Nat):Int)
def Yk{n:Nat}{v:Int}:v∈rng n↔0<=v/\v<(n:Int):=by
 rw[gn];constructor
 ·grind
 ·rintro⟨h0,h1⟩;exact⟨v.toNat,mF.mpr (by omega),by omega⟩
def Z6(n:Nat):(rng n).Nodup:=by
 unfold List.Nodup;rw[Eg];exact List.pairwise_lt_range.imp λh=>by omega
def qR{rs:List BR}{r:BR}{k:Nat}(h:k<rs.length):rowAt (rs++[r]) k=rowAt rs k:=by
 unfold rowAt;grind
def vh{rs:List BR}{r:BR}:rowAt (rs++[r]) rs.length=r:=by
 unfold rowAt;grind
def BW(rs:List BR)(k:Nat):Nat:=((rowAt rs k).1.getD 0).toNat
def fK(rs:List BR)(k:Nat):List Int:=(rowAt rs k).2
def Ds{rs:List BR}{k:Nat}(h:rs.length<=k):rowAt rs k=(none,[]):=by
 unfold rowAt;grind
def iD(rs:List BR)(r:BR)(k:Nat):fK (rs++[r]) k=if k=rs.length then r.2 else fK rs k:=by
 unfold fK;by_cases c:k=rs.length
 ·rw[aG c,c,vh]
 ·rw[aB c];by_cases d:k<rs.length
  ·rw[qR d]
  ·rw[Ds (by grind),Ds (by omega)]
def Dt(rs:List BR)(r:BR)(k:Nat):BW (rs++[r]) k=if k=rs.length then(r.1.getD 0).toNat else BW rs k:=by
 unfold BW;by_cases c:k=rs.length
 ·rw[aG c,c,vh]
 ·rw[aB c];by_cases d:k<rs.length
  ·rw[qR d]
  ·rw[Ds (by grind),Ds (by omega)]
structure Rw(n most:Nat)(rs:List BR)(us:List Int):Prop where
 T:Tb n rs.length (BW rs) (fK rs)
 r0:(rowAt rs 0).1=none
 ru:∀k,0<k->k<rs.length->(rowAt rs k).1=some ((BW rs k:Nat):Int)
 nd:us.Nodup
 lt:∀v∈us,0<=v/\v<(n:Int)
 dis:∀v∈us,∀k,v∉fK rs k
 cov:∀v:Int,0<=v->v<(n:Int)->v∈us\/∃k,v∈fK rs k
 few:∀k,(fK rs k).length<=most
def Du(us:List Int)(c:Nat):us.take (us.length-c)++us.drop (us.length-c)=us:=rR _ _
def a6C{n most c:Nat}(pm:us.Perm (rng n))(cm:c<=most)(hz:zs.Perm (us.drop (us.length-c)).reverse):Rw n most [(none,zs)] (us.take (us.length-c)):=by
 have ndu:us.Nodup:=pm.nodup_iff.mpr (Z6 n);have inn:∀v∈us,0<=v/\v<(n:Int):=λv hv=>Yk.mp (pm.mem_iff.mp hv);have Y9:=ndu;rw[<-Du us c]at Y9;obtain⟨n1,n2,dj⟩:=vX.mp Y9;have mz:∀v,v∈zs↔v∈us.drop (us.length-c):=λv=>by grind
 have bg:∀k,fK [(none,zs)] k=if k=0 then zs else []:=λk=>by
  cases k with
  |zero=>rfl
  |succ k=>rfl
 have lz:zs.length<=most:=by
  rw[hz.length_eq,Eb,kW];omega
 refine⟨⟨Nat.zero_lt_one,λk h0 h1=>?_,λk=>?_,λk v hv=>?_,λk h0 h1=>?_,λk hk=>?_⟩,Z,λk h0 h1=>?_,n1,λv hv=>inn v (m9 hv),λv hv k hk=>?_,λv v0 v1=>?_,λk=>?_⟩
 ·grind
 ·grind
 ·grind
 ·grind
 ·grind
 ·grind
 ·grind
 ·have:v∈us:=pm.mem_iff.mpr (Yk.mpr ⟨v0,v1⟩);rw[<-Du us c]at this;rcases b7.mp this with h|h
  ·exact .inl h
  ·exact .inr ⟨0,(mz v).mpr h⟩
 grind
def a3C{n most c f:Nat}{rs:List BR}{ks:List Int}(W:Rw n most rs us)(fl:f<rs.length)(sb:List.Sublist ks (fK rs f))(lc:ks.length+c<=most)(hz:zs.Perm (ks++(us.drop (us.length-c)).reverse)):Rw n most (rs++[(some (f:Int),zs)]) (us.take (us.length-c)):=by
 have Y9:=W.nd;rw[<-Du us c]at Y9;obtain⟨n1,n2,dj⟩:=vX.mp Y9;have mz:∀v,v∈zs↔v∈ks\/v∈us.drop (us.length-c):=λv=>by rw[hz.mem_iff,b7,List.mem_reverse]
 have lz:zs.length<=most:=by
  rw[hz.length_eq,bW,Eb,kW];omega
 have ll:(rs++[((some (f:Int),zs):BR)]).length=rs.length+1:=by rw[bW,DW]
 have ndz:zs.Nodup:=hz.nodup_iff.mpr (vX.mpr ⟨(W.T.nd f).sublist sb,(List.reverse_perm _).nodup_iff.mpr n2,λx hx y hy e=>by
  subst e;exact W.dis x (xr (List.mem_reverse.mp hy)) f (sb.subset hx)⟩)
 have un:BW (rs++[((some (f:Int),zs):BR)]) rs.length=f:=by
  rw[Dt,aG rfl];rfl
 refine⟨⟨by omega,λk h0 h1=>?_,λk=>?_,λk v hv=>?_,λk h0 h1 v hv=>?_,λk hk=>?_⟩,?_,λk h0 h1=>?_,n1,λv hv=>W.lt v (m9 hv),λv hv k hk=>?_,λv v0 v1=>?_,λk=>?_⟩
 ·rw[ll]at h1;by_cases e:k=rs.length
  ·subst e;rw[un];exact fl
  ·rw[Dt,aB e];exact W.T.ups k h0 (by omega)
 ·rw[iD];split
  ·exact ndz
  ·exact W.T.nd k
 ·rw[iD]at hv;split at hv
  ·rcases(mz v).mp hv with h|h
   ·exact W.T.lt f v (sb.subset h)
   ·exact W.lt v (xr h)
  ·exact W.T.lt k v hv
 ·rw[ll]at h1;by_cases e:k=rs.length
  ·subst e;rw[un];rw[iD,aG rfl]at hv;rcases(mz v).mp hv with h|h
   ·refine .inl ?_;rw[iD,aB (by omega)];exact sb.subset h
   ·refine .inr λj hj=>?_;rw[iD,aB (by omega)];exact W.dis v (xr h) j
  ·have kl:k<rs.length:=by omega
   rw[iD,aB e]at hv;rw[Dt,aB e];have ul:=W.T.ups k h0 kl;rcases W.T.fr k h0 kl v hv with h|h
   ·refine .inl ?_;rw[iD,aB (by omega)];exact h
   ·refine .inr λj hj=>?_;rw[iD,aB (by omega)];exact h j hj
 ·rw[ll]at hk;rw[iD,aB (by omega)];exact W.T.no k (by omega)
 ·rw[qR W.T.pos];exact W.r0
 ·rw[ll]at h1;by_cases e:k=rs.length
  ·subst e;rw[un,vh]
  ·rw[Dt,aB e,qR (by omega)];exact W.ru k h0 (by omega)
 ·rw[iD]at hk;split at hk
  ·rcases(mz v).mp hk with h|h
   ·exact W.dis v (m9 hv) f (sb.subset h)
   ·exact dj v hv v h rfl
  ·exact W.dis v (m9 hv) k hk
 ·rcases W.cov v v0 v1 with h|⟨k,h⟩
  ·rw[<-Du us c]at h;rcases b7.mp h with h|h
   ·exact .inl h
   ·refine .inr ⟨rs.length,?_⟩;rw[iD,aG rfl];exact(mz v).mpr (.inr h)
  ·refine .inr ⟨k,?_⟩;have kl:=W.T.in_ h;rw[iD,aB (by omega)];exact h
 ·rw[iD];split
  ·exact lz
  ·exact W.few k
def Ŷ(ex:List Addr)(H:Hp)(v:V)(r:BR):Prop:=∃p b,v=.ref p/\H p=some (.tup [upV r.1,.ref b])/\H b=some (.lst (r.2.map V.int))/\b∉ex/\r.2.length<=1000
def Ŷ.same{ex:List Addr}{H H':Hp}{v:V}{r:BR}(s:aH H H')(h:Ŷ ex H v r):Ŷ ex H' v r:=by
 obtain⟨p,b,e,h1,h2,h3⟩:=h;exact⟨p,b,e,s _ _ h1,s _ _ h2,h3⟩
def Ŷ.chg{ex:List Addr}{H H':Hp}{l:Addr}{xs:List V}{o:HO}{v:V}{r:BR}(hl:H l=some (.lst xs))(c:wF H l o H')(m:l∈ex)(h:Ŷ ex H v r):Ŷ ex H' v r:=by
 obtain⟨p,b,e,h1,h2,h3,h4⟩:=h;exact⟨p,b,e,(c.rest p λz=>by grind).trans h1,(c.rest b λz=>h3 (z▸m)).trans h2,h3,h4⟩
def Ŷ.l{ex:List Addr}{l:Addr}{H:Hp}{v:V}{r:BR}(m:l∈ex)(h:Ŷ ex H v r):K7 l H v r:=by
 obtain⟨p,b,e,h1,h2,h3,h4⟩:=h;exact⟨p,b,e,h1,h2,λz=>h3 (z▸m),h4⟩
def Yl{H:Hp}{pl:Addr}{c:Nat}{lo:Int}(h:H pl=some (.lst (us.map V.int)))(hc:c<=us.length)(lu:us.length<=900)
  (hs:∀(i:Nat) (H':Hp) (xs:List V) (y:V) (N:VK) (Z98:Hp->Prop),H' pl=some (.lst (xs++[y]))->(∀H2,wF H' pl (.lst xs) H2->N y H2)->g (.int (lo+i)) (qd ix σ) H' λσ2 H2=>tt σ2 H2 λb H3=>if b=true then te σ2 H3 N else Z98 H3)
  (hd:∀H1 p H2,wF H pl (.lst ((us.take (us.length-c)).map V.int)) H1->gV H1 p (.lst ((us.drop (us.length-c)).reverse.map V.int)) H2->Q (.ref p) H2):lC ix g tt te σ H Q (WK lo c):=by
 refine vy (λi ys H'=>ys=(us.drop (us.length-i)).reverse.map V.int/\wF H pl (.lst ((us.take (us.length-i)).map V.int)) H') ⟨?_,?_,λ_ _=>rfl⟩ (λi ys H' hi ⟨e,_⟩=>?_) (λi ys H' hi ⟨e,c1⟩=>?_) (λys H' ⟨e,c1⟩ p hp=>?_)
 ·rw[Ak,List.drop_length];rfl
 ·rw[Ak,gZ];exact h
 ·rw[e,aN,Eb,kW];exact dH (cC (by omega))
 ·have jl:us.length-(i+1)<us.length:=by omega
  have e1:us.length-i=us.length-(i+1)+1:=by omega
  have et:us.take (us.length-i)=us.take (us.length-(i+1))++[us[us.length-(i+1)]]:=by rw[e1,zO jl]
  have ed:us.drop (us.length-(i+1))=us[us.length-(i+1)]::us.drop (us.length-i):=by rw[Il jl,e1]
  have h1:=c1.here;rw[et,dF]at h1;refine hs i H' _ _ (λv H4=>ys++[v]=(us.drop (us.length-(i+1))).reverse.map V.int/\wF H pl (.lst ((us.take (us.length-(i+1))).map V.int)) H4) _ h1 λH2 c2=>⟨?_,c2.here,λb hb=>(c2.rest b hb).trans (c1.rest b hb)⟩;rw[e,ed,List.reverse_cons,dF];rfl
 ·subst e;exact hd H' p _ c1 (gV.oF hp)
abbrev tH:Stmt:=top 40
def BK:bD ["_law_script","_law_k","_law_base"] Mz (aF tH):={}
inductive a6D(K:aK)(vs:List V)(H:Hp)(Q:VK)(u_3:XK):Prop
 |mk (a:Addr) (ns:List Int) (k:Int) (_:vs=[.ref a,.int k]) (_:Æ K H a ns) (_:ns.length<=63) (_:0<=k) (_:k<=1000) (_:∀z,Q (.int z) H)
inductive sH(H:Hp)(v:V)(s:aU):Prop
 |mk (p:_) (_:v=.ref p) (_:H p=some (.tup s.vs))
def sH.same{H H':Hp}{v:V}{s:aU}(e:aH H H')(h:sH H v s):sH H' v s:=by
 obtain⟨p,rfl,h⟩:=h;exact⟨p,Z,e _ _ h⟩
def sH.v{K:aK}{H:Hp}{v:V}{s:aU}(h:sH H v s):vG K H v s:=by
 obtain⟨p,rfl,h⟩:=h;exact⟨p,Z,cG.of h⟩
def BL(B:Bl mg)(oE:Dn K mg "_law_at" tH Mz):bh P w K mg base gj 1 oE.f oE.fd Mz (a6D K):=by
 refine oE.F.ok BK λcZ A outer s H vs Q E hr h=>?_;obtain⟨a,ns,k,rfl,hS,h63,k0,k1,q⟩:=h;have hA:=hS.seq;refine⟨_,(aA (dN (aJ xV (pv 1) (bK (cQ (K:=K) Z) Z B.len (by decide) (J (pv 0) aj)))
   (aD (bI (aQ (bQ (K:=K) Z) (pv 0) (pv 1))))
   bR)
   (aA (bF 2 BK.nd aq)
   (j4 (dN (aJ zL (bK (cQ (K:=K) Z) Z B.len (by decide) (J (pv 0) aj)) aq)
   (aD (bF 2 BK.nd (bC jF (aQ (bQ (K:=K) Z) (pv 0) (bC jF (bC dO (bC uU (pv 1) aq) aq) (bK (cQ (K:=K) Z) Z B.len (by decide) (J (pv 0) aj)))) aq)))
   bR)
   (aD (bI (bC jF (bC uU (bC dO (bC dO (pv 2) (bC uU aq (pv 1))) aq) (bC dO (bC dO (bC uU (pv 2) aq) (bC uU (pv 1) (pv 1))) aq)) aq)))))),?_⟩
 have hl:(ns.map V.int).length=ns.length:=aN _;refine⟨_,Z,_,Z,a,_,Z,.inl hA,_,_,Z,Z,_,Z,tZ (λc=>?_) λc=>?_⟩
 ·have c':k<(((ns.map V.int).length:Nat):Int):=eZ c;rw[hl]at c';exact⟨_,Z,_,Z,a,_,_,_,Z,Z,hA,oR k0 c',q _⟩
 refine⟨λσ' H'=>∃b:Int,-(2^32)<b/\b<2^32/\σ'=[some (.ref a),some (.int k),some (.int b)]/\H'=H,?_,?_⟩
 ·refine⟨_,Z,a,_,Z,.inl hA,_,_,Z,Z,_,Z,?_⟩;refine tZ (λc2=>?_) (λc2=>⟨131,by decide,by decide,Z,Z⟩);have c2':(0:Int)<(((ns.map V.int).length:Nat):Int):=eZ c2;rw[hl]at c2';have m0:=qz (k*17+7) (show(ns.length:Int)≠0 by omega);have m1:=qx (k*17+7) c2';refine⟨_,Z,_,Z,_,_,Z,Z,.inr ⟨by decide,by decide⟩,_,_,Z,Z,_,Z,a,_,Z,.inl hA,_,_,Z,Z,(by rw[hl];exact c2'),a,_,_,_,Z,Z,hA,(by rw[hl];exact oR m0 m1),_,_,Z,Z,(show(0:Int)<_ by decide),?_⟩;have e0:=qz (ns.getD ((k*17+7)%(ns.length:Int)).toNat 0) (show(999727:Int)≠0 by decide);have e1:=qx (ns.getD ((k*17+7)%(ns.length:Int)).toNat 0) (show(0:Int)<999727 by decide);exact⟨_,by omega,by omega,Z,Z⟩
 rintro σ' H' ⟨b,b0,b1,rfl,rfl⟩;refine⟨_,Z,_,Z,_,_,Z,Z,.inl ⟨by decide,by decide⟩,_,_,Z,Z,_,_,Z,Z,_,Z,_,_,Z,Z,.inr ⟨by decide,by decide⟩,_,Z,_,Z,_,_,Z,Z,.inl ⟨by omega,by omega⟩,_,_,Z,Z,_,_,Z,Z,_,_,Z,Z,.inl ⟨by omega,by omega⟩,_,_,Z,Z,(show(0:Int)<_ by decide),q _⟩
abbrev uN:Stmt:=top 41
def iz:bD ["_law_script","_law_n","_law_most","_law_keys","_law_left","_law_many","_law_rows_here","_law_k","_law_up_here","_law_bag","_law_fresh"] Xr (aF uN):={}
inductive ř(K:aK)(vs:List V)(H:Hp)(Q:VK)(u_3:XK):Prop
 |mk (a:Addr) (ns:List Int) (n most:Nat) (_:vs=[.ref a,.int n,.int most]) (_:Æ K H a ns) (_:ns.length<=63) (_:n<=10) (_:1<=most) (_:most<=10) (_:∀l xs rs H',aH H H'->H l=none->H' l=some (.lst xs)->Paired (K7 l H') xs rs->Rw n most rs []->rs.length<=20->Q (.ref l) H')
inductive RowW(K:aK)(a l pl:Addr)(v3:Option V)(n most many:Nat)(H:Hp)(m:Nat)(σ:St)(H':Hp):Prop
 |mk (xs:List V) (rs:List BR) (us:List Int) (v7 v8 v9 v10:Option V) (_:σ=[some (.ref a),some (.int n),some (.int most),v3,some (.ref pl),some (.int many),some (.ref l),v7,v8,v9,v10]) (_:aH H H') (_:H' l=some (.lst xs)) (_:H' pl=some (.lst (us.map V.int))) (_:Paired (Ŷ [l,pl] H') xs rs) (_:Rw n most rs us) (_:m=(many-rs.length)+us.length) (_:rs.length<=many+(n-us.length)) (_:us.length<=n)
def Z7(xs:List V)(k:Nat):uV xs none (some (k:Int))=xs.take k:=by
 unfold uV;have e1:HT.kZ xs.length xs.length (some (k:Int))=min k xs.length:=HT.Pa _ _ k;have e2:HT.kZ xs.length 0 none=0:=rfl;grind
def a1r{l:List Nat}{n:Nat}(h:l.Perm (List.range n)):(l.map λi=>((i:Nat):Int)).Perm (rng n):=h.map _
def orQ{a b:TT}{H:Hp}{Q:Bool->Hp->Prop}{c1 c2:Bool}(h1:∀Q:Bool->Hp->Prop,Q c1 H->a σ H Q)(h2:∀Q:Bool->Hp->Prop,Q c2 H->b σ H Q)(h:Q (c1||c2) H):tOr a b σ H Q:=by
 refine h1 _ ?_;cases c1 with
 |false=>exact cN (h2 _ h)
 |true=>exact gQ h
def Qy(B:Bl mg)(oE:Dn K mg "_law_at" tH Mz)(ŷ:Dn K mg "_law_rows" uN Xr):bh P w K mg base gj 2 ŷ.f ŷ.fd Xr (ř K):=by
 have QH:bh P w K mg base gj 1 _ _ _ _:=BL B oE;refine ŷ.F.ok iz λcZ A outer s H vs Q E hr h=>?_;obtain⟨a,ns,n,most,rfl,hS,h63,cU,m1,m10,q⟩:=h;refine⟨_,(aA (bF 3 iz.nd (bK (Py (K:=K) Z) Z B.sorted (by decide) (J (jH Xu [none,some 0]  (by kernel_rfl) Z (jE Z B.range (J (pv 1) aj)) (λ_ _ _ _ _=>(aL 0 (show(Xu:List Str).Nodup by decide))) (λ_ _ _ _ _=>gk) λ_ _ _ _ _=>(bx (J (bC jF (bf QH hr Z oE.m oE.F.kp oE.b .nil b8 (J (pv 1) (J (bC dO aq (pv 0)) aj))) aq) (J (pv 0) aj)))) aj)))
   (aA (bF 4 iz.nd (jH ["_law_key","_law_v"] [none,none]  (by kernel_rfl) Z (cX (K:=K) Z (pv 3)) (λ_ _ _ _ _=>(jy (K:=K) (n:=2) Z Z (bY (aL 0 (show(["_law_key","_law_v"]:List Str).Nodup by decide)) (bY (aL 1 (show(["_law_key","_law_v"]:List Str).Nodup by decide)) jx)))) (λ_ _ _ _ _=>gk) λ_ _ _ _ _=>(pv 1)))
   (aA (bF 5 iz.nd (bC dO aq (bC jF (bf QH hr Z oE.m oE.F.kp oE.b .nil b8 (J (pv 0) (J aq aj))) aq)))
   (aA (bF 6 iz.nd (cJ (J (bx (J oK (J (jH ["_law_k","_law_left"] [none,some 4]  (by kernel_rfl) Z (jE Z B.range (J (bK (LK Z) Z B.min (by decide) (J (bK (cQ (K:=K) Z) Z B.len (by decide) (J (pv 4) aj)) (J (bC jF (bf QH hr Z oE.m oE.F.kp oE.b .nil b8 (J (pv 0) (J aq aj))) (bC dO (pv 2) aq)) aj))) aj)) (λ_ _ _ _ _=>(aL 0 (show(["_law_k","_law_left"]:List Str).Nodup by decide))) (λ_ _ _ _ _=>gk) λ_ _ _ _ _=>(wD (K:=K) Z qw TQ TV HN (pv 1))) aj))) aj)))
   (aA (Ý jV (PW.pt (zK (aJ xV (bK (cQ (K:=K) Z) Z B.len (by decide) (J (pv 6) aj)) (pv 5)) (uR (aJ zL (bK (cQ (K:=K) Z) Z B.len (by decide) (J (pv 4) aj)) aq))))
   (aA (bF 7 iz.nd (bK (cQ (K:=K) Z) Z B.len (by decide) (J (pv 6) aj)))
   (aA (bF 8 iz.nd (bC jF (bf QH hr Z oE.m oE.F.kp oE.b .nil b8 (J (pv 0) (J (bC dO aq (pv 7)) aj))) (pv 7)))
   (aA (bF 9 iz.nd (jG (xX (K:=K) Z) (jH ["_law_v","_law_script","_law_k"] [none,some 0,some 7]  (by kernel_rfl) Z (cX (K:=K) Z (aQ (aM (K:=K) Z) (aQ (bQ (K:=K) Z) (pv 6) (pv 8)) aq)) (λ_ _ _ _ _=>(aL 0 (show(["_law_v","_law_script","_law_k"]:List Str).Nodup by decide))) (λ_ _ _ _ _=>(mV (aJ zL (bC jF (bf QH hr Z oE.m oE.F.kp oE.b .nil b8 (J (pv 1) (J (bC dO (bC dO aq (bC uU aq (pv 2))) (pv 0)) aj))) aq) aq))) λ_ _ _ _ _=>(pv 0)) lQ (lR (bC Jl (pv 2) aq))))
   (aA (bF 10 iz.nd (bC dO aq (bC jF (bf QH hr Z oE.m oE.F.kp oE.b .nil b8 (J (pv 0) (J (bC dO aq (pv 7)) aj))) (bC Jl (pv 2) (bK (cQ (K:=K) Z) Z B.len (by decide) (J (pv 9) aj))))))
   (aD (jw (uX (K:=K) Z qw PySem.F.slot_list_append PySem.F.type_list_append lD (pv 6) (J (bx (J (pv 8) (J (bC lU (pv 9) (jH ["_law_j","_law_left"] [none,some 4]  (by kernel_rfl) Z (jE Z B.range (J (bK (LK Z) Z B.min (by decide) (J (pv 10) (J (bK (cQ (K:=K) Z) Z B.len (by decide) (J (pv 4) aj)) aj))) aj)) (λ_ _ _ _ _=>(aL 0 (show(["_law_j","_law_left"]:List Str).Nodup by decide))) (λ_ _ _ _ _=>gk) λ_ _ _ _ _=>(wD (K:=K) Z PySem.F.plainAttrs_list PySem.F.slot_list_pop PySem.F.type_list_pop HN (pv 1)))) aj))) aj)))))))))
   (aD (bI (pv 6)))))))),?_⟩
 refine⟨_,Z,_,Z,by omega,by omega,?_⟩;rw[jO];refine vy (λi ys H'=>∃(ps:List Addr) (zs:List Int),ys=ps.map V.ref/\ps.length=i/\zs.length=i/\aH H H'/\∀k p,ps[k]?=some p->H' p=some (.tup [.int (zs.getD k 0),.int (k:Int)])) ⟨[],[],Z,Z,Z,aH.refl _,λk p h=>by cases h⟩ (λi ys H' hi ⟨ps,zs,e,l,_⟩=>?_) (λi ys H1 hi ⟨ps,zs,e,l,lz,s1,hp⟩=>?_) ?_
 ·rw[e,aN,l];exact dH (cC (by omega))
 ·refine⟨_,Z,_,Z,_,_,Z,Z,a,ns,_,Z,hS.same s1,h63,(by omega),(by omega),λz=>⟨_,_,Z,Z,(show(0:Int)<_ by decide),_,Z,(by show 2<=1000;decide),λp2 H2 n2=>?_⟩⟩;obtain⟨z,nz⟩:∃z,gV H1 p2 (.tup [.int z,.int (0+(i:Int))]) H2:=⟨_,n2⟩;refine⟨ps++[p2],zs++[z],by rw[e,dF];rfl,by rw[bW,l];rfl,by rw[bW,lz];rfl,s1.trans n2.same,λk p hk=>?_⟩;by_cases c:k<ps.length
  ·rw[w5 c]at hk;have:=n2.same _ _ (hp k p hk);rw[gB,w5 (by omega),<-gB];exact this
  ·have k1:=(fG.mp hk).1;rw[bW]at k1;have ek:k=i:=by
    have:k<ps.length+1:=k1;omega
   subst ek;rw[wZ (by omega),l,Al]at hk;cases hk;rw[gB,wZ (by omega),lz,Al];have:=nz.here;rw[show(0+(k:Int))=(k:Int) by omega]at this;exact this
 rintro ys H1 ⟨ps,zs,rfl,l,lz,s1,hp⟩ pk hpk;have n2:=gV.oF (H:=H1) (p:=pk) (o:=.lst (ps.map V.ref)) hpk;generalize cO H1 pk (.lst (ps.map V.ref))=H2 at n2 ⊢;have s2:aH H H2:=s1.trans n2.same;refine⟨pk,ps.map V.ref,(List.range n).map λk=>[zs.getD k 0,(k:Int)],Z,bG.of n2.here,?_,λns h=>?_,by rw[aN];omega,λqq p3 H3 pq _ n3=>?_⟩
 ·have all:∀(m:Nat),m<=n->Paired (a2B K H2) ((ps.take m).map V.ref) ((List.range m).map λk=>[zs.getD k 0,(k:Int)]):=λm=>by
   induction m with
   |zero=>intro _;exact .nil
   |succ m ih =>
    intro hm;have hml:m<ps.length:=by omega
    rw[zO hml,dF,Af,dF];exact cV (ih (by omega)) ⟨ps[m],Z,cG.of (n2.same _ _ (hp m _ (bV hml)))⟩
  have:=all n (aO _);rw[N7 (by omega)]at this;exact this
 ·obtain⟨k,_,rfl⟩:=gn.mp h;exact λz=>by cases z
 have pq':qq.Perm (List.range n):=by rw[aN,l]at pq;exact pq
 have lq:qq.length=n:=by rw[pq'.length_eq,zZ]
 refine⟨_,Z,p3,Z,⟨_,bG.of n3.here⟩,qN (K:=K) (a:=p3) (xs:=qq.map λi=>(ps.map V.ref).getD i V.non) (λi ys H'=>ys=uF (qq.take i)/\aH H3 H') ⟨Z,aH.refl _⟩ (λi ys H' hi ⟨e,s⟩=>⟨bG.of (s _ _ n3.here),?_⟩) (λi x ys H4 hx ⟨e,s4⟩=>?_) λys H4 ⟨e,s4⟩ p5 hp5=>?_⟩
 ·rw[e,aN,dZ];exact dH (cC (by omega))
 ·rw[iW]at hx;obtain⟨k,hk,rfl⟩:=kI.mp hx;have kn:k<n:=mF.mp (pq'.mem_iff.mp (jA hk));have kl:k<ps.length:=by omega
  have ex:(ps.map V.ref).getD k V.non=V.ref ps[k]:=by rw[gB,iW,bV kl];rfl
  rw[ex];have ht:=(n2.same.trans (n3.same.trans s4)) _ _ (hp k _ (bV kl));refine⟨ps[k],_,Z,cG.of ht,Z,_,_,Z,_,_,Z,Z,_,Z,?_,s4⟩;obtain⟨hil,hik⟩:=fG.mp hk;rw[e,zO hil,hik];unfold uF;rw[dF];rfl
 subst e;rw[aN,gZ];have n5:gV H4 p5 (.lst (uF qq)) (cO H4 p5 (.lst (uF qq))):=gV.oF hp5;generalize cO H4 p5 (.lst (uF qq))=H5 at n5;have s5:=s2.trans (n3.same.trans (s4.trans n5.same));obtain⟨us,eus⟩:∃us:List Int,us=qq.map λi=>((i:Nat):Int):=⟨_,Z⟩;have pu:us.Perm (rng n):=by rw[eus];exact a1r pq'
 have lu:us.length=n:=by rw[pu.length_eq,aN,zZ]
 have h5:H5 p5=some (.lst (us.map V.int)):=by
  rw[n5.here,eus];unfold uF;rw[nC];rfl
 have f5:H p5=none:=s2.free (n3.same.free (s4.free n5.fresh));refine⟨_,Z,a,ns,2,Z,hS.same s5,h63,by decide,by decide,λzm=>⟨_,_,Z,Z,(show(0:Int)<_ by decide),_,_,Z,Z,?_⟩⟩;have y0:=qz zm (show(5:Int)≠0 by decide);have y1:=qx zm (show(0:Int)<5 by decide);obtain⟨many,em⟩:∃k:Nat,1+zm%5=(k:Int):=⟨(1+zm%5).toNat,by omega⟩;dsimp only;rw[em];refine⟨_,Z,p5,_,Z,.inl (bG.of h5),_,Z,a,ns,3,Z,hS.same s5,h63,by decide,by decide,λz3=>?_⟩;have w0:=qz z3 (show(most:Int)+1≠0 by omega);have w1:=qx z3 (show(0:Int)<(most:Int)+1 by omega);refine⟨_,Z,_,_,Z,Z,_,_,Z,Z,(show(0:Int)<(most:Int)+1 by omega),_,_,Z,?_⟩;obtain⟨c,ec,c1,c2⟩:∃c:Nat,(if z3%((most:Int)+1)<(((us.map V.int).length:Nat):Int)then z3%((most:Int)+1)else(((us.map V.int).length:Nat):Int))=(c:Int)/\c<=most/\c<=us.length:=by
  rw[aN];split
  ·exact⟨(z3%((most:Int)+1)).toNat,by omega,by omega,by omega⟩
  ·exact⟨us.length,Z,by omega,aO _⟩
 rw[ec];refine⟨_,Z,by omega,by omega,?_⟩;rw[jO];refine Yl h5 c2 (by omega) (λi H' xs y N Z98 h q=>⟨_,Z,.inl ⟨Z,_,bG.of h⟩,p5,xs,y,Z,Z,h,q⟩) (λH9 p9 ZG c9 cU=>?_);refine⟨(by show 2<=1000;decide),λp11 Ļ BV=>⟨(by show 1<=1000;decide),λpr V9 n12=>?_⟩⟩;have a6E:V9 p5=some (.lst ((us.take (us.length-c)).map V.int)):=n12.same _ _ (BV.same _ _ (cU.same _ _ c9.here));have a5t:p5≠pr:=λz=>by have:=n12.fresh;rw[<-z,BV.same _ _ (cU.same _ _ c9.here)]at this;cases this
 have s12:aH H V9:=(s5.chg f5 c9).trans (cU.same.trans (BV.same.trans n12.same));have f8:H pr=none:=(s5.chg f5 c9).free (cU.same.free (BV.same.free n12.fresh));have ne9:p9∉[pr,p5]:=λhm=>by
  rcases cH.mp hm with hm|hm
  ·have:=n12.fresh;rw[<-hm,BV.same _ _ cU.here]at this;cases this
  ·have:=cU.fresh;rw[bw.mp hm,c9.here]at this;cases this
 have W0:=a6C (most:=most) (c:=c) pu c1 (vY _);have lt:(us.take (us.length-c)).length=us.length-c:=by rw[dZ];omega
 refine⟨RowW K a pr p5 (some (.ref p3)) n most many H,⟨_,[.ref p11],[(none,(us.drop (us.length-c)).reverse)],_,none,none,none,none,Z,s12,n12.here,a6E,.cons ⟨p11,p9,Z,n12.same _ _ BV.here,n12.same _ _ (BV.same _ _ cU.here),ne9,?_⟩ .nil,W0,Z,?_,?_⟩,?_⟩
 ·show((us.drop (us.length-c)).reverse).length<=1000;rw[Eb,kW];omega
 ·show 1<=_;omega
 ·rw[lt];omega
 rintro m σ H1 ⟨xs,rs,us,v7,v8,v9,v10,rfl,s1,hl,hpl,hpr,W,em',b1,b2⟩;have lx:xs.length=rs.length:=aY hpr;have hS1:=hS.same s1;have r1:=W.T.pos;refine orQ (c1:=decide (((xs.length:Nat):Int)<(many:Int))) (c2:=decide ((((us.map V.int).length:Nat):Int)>0)) (λQ h=>⟨_,Z,pr,_,Z,.inl (bG.of hl),_,Z,_,_,Z,Z,_,Z,h⟩) (λQ h=>⟨_,Z,p5,_,Z,.inl (bG.of hpl),_,_,Z,Z,_,Z,h⟩) (tZ (λc=>?_) λc=>?_)
 rotate_left
 ·have cd:¬((xs.length:Nat):Int)<(many:Int)/\¬(((us.map V.int).length:Nat):Int)>0:=by simpa using c
  rw[aN]at cd;have e0:us=[]:=List.eq_nil_of_length_eq_zero (by omega);rw[e0]at W;exact⟨_,Z,q pr xs rs H1 s1 f8 hl (Paired.bU hpr λ_ _ h=>h.l aW) W (by omega)⟩
 all_goals
  have hc:rs.length<many\/(many<=rs.length/\0<us.length):=by
   have cd:((xs.length:Nat):Int)<(many:Int)\/(((us.map V.int).length:Nat):Int)>0:=by
    rcases Bool.or_eq_true_iff.mp c with z|z
    ·exact .inl (eZ z)
    ·exact .inr (eZ z)
   rw[aN]at cd;omega
  refine⟨λσ' H'=>∃m',m'<m/\RowW K a pr p5 (some (.ref p3)) n most many H m' σ' H',λ_ _ h=>h,⟨_,Z,pr,_,Z,.inl (bG.of hl),?_⟩⟩;rw[lx];refine⟨_,Z,_,Z,_,_,Z,Z,a,ns,_,Z,hS1,h63,(by omega),(by omega),λz=>?_⟩;have u0:=qz z (show((rs.length:Nat):Int)≠0 by omega);have u1:=qx z (show(0:Int)<((rs.length:Nat):Int) by omega);refine⟨_,Z,_,_,Z,Z,(show(0:Int)<((rs.length:Nat):Int) by omega),?_⟩;obtain⟨f,ef⟩:∃f:Nat,z%((rs.length:Nat):Int)=(f:Int):=⟨(z%((rs.length:Nat):Int)).toNat,by omega⟩;dsimp only;rw[ef];have fl:f<rs.length:=by omega
  obtain⟨v,hx,⟨pt,bb,rfl,hT,hbb,hbl,_⟩⟩:=fu hpr (vz fl);have lf:(rowAt rs f).2.length<=most:=W.few f;refine⟨_,Z,_,Z,pr,_,_,_,Z,Z,bG.of hl,eV hx,pt,_,_,_,Z,Z,cG.of hT,Z,bb,Z,⟨_,bG.of hbb⟩,qN (K:=K) (a:=bb) (xs:=(rowAt rs f).2.map V.int) (λi ys H'=>∃ks:List Int,ys=ks.map V.int/\List.Sublist ks ((rowAt rs f).2.take i)/\aH H1 H') ⟨[],Z,List.nil_sublist _,aH.refl _⟩ (λi ys H' hi ⟨ks,e,sb,s⟩=>⟨bG.of (s _ _ hbb),?_⟩) (λi x ys H2 hx ⟨ks,e,sb,s2⟩=>?_) λys H2 ⟨ks,e,sb,s2⟩ p3' hp3=>?_⟩
  ·have:=sb.length_le;rw[dZ]at this;rw[e,aN];exact dH (cC (by omega))
  ·rw[iW]at hx;obtain⟨u,hu,rfl⟩:=kI.mp hx;have et:(rowAt rs f).2.take (i+1)=(rowAt rs f).2.take i++[u]:=by rw[jX,hu];rfl
   have ub:=W.T.lt f u (jA hu);refine⟨_,Z,_,Z,_,_,Z,Z,.inl ⟨by decide,by decide⟩,_,_,Z,Z,_,Z,_,_,Z,Z,a,ns,_,Z,hS1.same s2,h63,(by omega),(by omega),λz4=>⟨_,_,Z,Z,(show(0:Int)<_ by decide),_,_,Z,Z,_,Z,tZ (λc4=>⟨_,Z,ks++[u],by rw[e,dF];rfl,by rw[et];exact sb.append (List.Sublist.refl _),s2⟩) λc4=>⟨ks,e,by rw[et];exact sb.trans (List.sublist_append_left _ _),s2⟩⟩⟩
  subst e;rw[aN,gZ]at sb;have n3:gV H2 p3' (.lst (ks.map V.int)) (cO H2 p3' (.lst (ks.map V.int))):=gV.oF hp3;generalize cO H2 p3' (.lst (ks.map V.int))=H3 at n3 ⊢;have wL:=s2.trans n3.same;have lk:=sb.length_le;have hl3:=wL _ _ hl;refine⟨_,Z,_,_,Z,Z,_,Z,p3',_,Z,bG.of n3.here,λpb H4 n4=>?_⟩;have e1:(most:Int)-1=((most-1:Nat):Int):=by omega
  rw[e1,Z7,<-OD]at n4;have ZK:=wL.trans n4.same;have hpb:=n4.here;have fpb:H1 pb=none:=wL.free n4.fresh;replace sb:=(Oe (most-1) ks).trans sb;have km:(ks.take (most-1)).length+1<=most:=by rw[dZ];omega
  generalize ks.take (most-1)=ks at hpb sb km;refine⟨_,Z,_,Z,_,_,Z,Z,a,ns,_,Z,hS1.same ZK,h63,(by omega),(by omega),λz5=>?_⟩;have t0:=qz z5 (show(most:Int)-((ks.length:Nat):Int)≠0 by omega);have t1:=qx z5 (show(0:Int)<(most:Int)-((ks.length:Nat):Int) by omega);refine⟨_,Z,_,Z,pb,_,Z,.inl (bG.of hpb),_,_,Z,Z,_,_,Z,Z,(by rw[aN];show(0:Int)<(most:Int)-((ks.length:Nat):Int);omega),_,_,Z,Z,?_⟩;rw[aN];dsimp only;obtain⟨fr,efr⟩:∃fr:Nat,1+z5%((most:Int)-((ks.length:Nat):Int))=(fr:Int):=⟨(1+z5%((most:Int)-((ks.length:Nat):Int))).toNat,by omega⟩;rw[efr];have frm:ks.length+fr<=most:=by omega
  have fr1:1<=fr:=by omega
  clear efr t0;have a3D:=ZK _ _ hpl;have hl4:=ZK _ _ hl;refine⟨_,Z,.inl ⟨Z,_,bG.of hl4⟩,_,Z,_,Z,_,Z,_,Z,p5,_,Z,.inl (bG.of a3D),_,_,Z,?_⟩;obtain⟨c,ec,c1,c2,c3⟩:∃c:Nat,(if(((us.map V.int).length:Nat):Int)<(fr:Int)then(((us.map V.int).length:Nat):Int)else(fr:Int))=(c:Int)/\c<=fr/\c<=us.length/\(1<=fr->0<us.length->1<=c):=by
   rw[aN];split
   ·exact⟨us.length,Z,by omega,aO _,λ_ h=>h⟩
   ·exact⟨fr,Z,aO _,by omega,λh _=>h⟩
  rw[ec];clear ec;refine⟨_,Z,by omega,by omega,?_⟩;rw[jO];refine Yl a3D c2 (by omega) (λi H' xs y N Z98 h q=>⟨_,Z,.inl ⟨Z,_,bG.of h⟩,p5,xs,y,Z,Z,h,q⟩) (λH6 p7 H7 c6 n7=>?_);have nb5:pb≠p5:=λz=>by rw[z,hpl]at fpb;cases fpb
  have nl5:pr≠p5:=a5t.symm;have hb7:=n7.same _ _ ((c6.rest pb nb5).trans hpb);refine⟨pb,p7,_,_,Z,Z,hb7,n7.here,(by rw[aN,aN,Eb,kW];omega),λp8 H8 n8'=>?_⟩;rw[<-dF]at n8';have hl8:=n8'.same _ _ (n7.same _ _ ((c6.rest pr nl5).trans hl4));have hp8:=n8'.same _ _ (n7.same _ _ c6.here);refine⟨(by show 2<=1000;decide),λŰ ZG uG=>?_⟩;have a3E:=uG.same _ _ hl8;have a6F:=uG.same _ _ hp8;refine⟨pr,_,_,Z,Z,a3E,(by omega),λĻ c11=>?_⟩;have lks:=sb.length_le;have W2:=a3C (c:=c) W fl sb (by omega) (vY _);have lt2:(us.take (us.length-c)).length=us.length-c:=by rw[dZ];omega
  have s8':aH H6 ZG:=n7.same.trans (n8'.same.trans uG.same);have x8:p8∉[pr,p5]:=λhm=>by
   have f:=n8'.fresh;rcases cH.mp hm with hm|hm
   ·rw[hm,n7.same _ _ ((c6.rest pr nl5).trans hl4)]at f;cases f
   ·rw[bw.mp hm,n7.same _ _ c6.here]at f;cases f
  refine⟨_,?_,xs++[.ref Ű],rs++[(some (f:Int),ks++(us.drop (us.length-c)).reverse)],us.take (us.length-c),_,_,_,_,Z,(((s1.trans ZK).chg f5 c6).trans s8').chg f8 c11,c11.here,(c11.rest p5 a5t).trans a6F,?_,W2,Z,?_,?_⟩
  ·rw[em',bW,DW,lt2];have:=c3;have:=fr1;omega
  ·refine cV (Paired.bU hpr λv t q=>(((q.same ZK).chg a3D c6 (bM _ aW)).same s8').chg a3E c11 aW) (Ŷ.chg a3E c11 aW ⟨Ű,p8,Z,uG.here,uG.same _ _ n8'.here,x8,?_⟩);show(ks++(us.drop (us.length-c)).reverse).length<=1000;rw[bW,Eb,kW];omega
  ·rw[bW,DW,lt2];have:=c3;have:=fr1;omega
  ·rw[lt2];omega
abbrev uz:Stmt:=top 42
def Sy:bD MF MF (aF uz):={}
def fL(ms:List Int)(v:Int):Int:=ms.getD v.toNat 0
def yE(kd:Int)(mk:Int->Int)(a b:Int):Bool:=if kd=0 then decide (mk a≠mk b)else decide (kd=2)||decide (mk a+mk b<2)
inductive a1s(K:aK)(vs:List V)(H:Hp)(Q:VK)(u_3:XK):Prop
 |mk (kd:Int) (pm:Addr) (ms:List Int) (a b:Int) (_:vs=[.int kd,.ref pm,.int a,.int b]) (_:H pm=some (.lst (ms.map V.int))) (_:0<=a) (_:a<(ms.length:Int)) (_:0<=b) (_:b<(ms.length:Int)) (_:Q (.bl (yE kd (fL ms) a b)) H)
def SJ(B:Bl mg)(Ç:Dn K mg "_law_may" uz MF):bh P w K mg base gj 1 Ç.f Ç.fd MF (a1s K):=by
 refine Ç.F.ok Sy λcZ A outer s H vs Q E hr h=>?_;obtain⟨kd,pm,ms,a,b,rfl,hm,a0,a1,b0,b1,q⟩:=h;have ea:=oR (ns:=ms) a0 a1;have eb:=oR (ns:=ms) b0 b1;refine⟨_,(aA (dN (aJ jb (pv 0) aq)
   (aD (bI (sS FZ (aQ (bQ (K:=K) Z) (pv 1) (pv 2)) (aQ (bQ (K:=K) Z) (pv 1) (pv 3)))))
   bR)
   (aD (bI (a3S (sS jb (pv 0) aq) (Uz (sS xV (bC dO (aQ (bQ (K:=K) Z) (pv 1) (pv 2)) (aQ (bQ (K:=K) Z) (pv 1) (pv 3))) aq)))))),?_⟩
 refine⟨_,Z,Z,_,Z,tZ (λc=>?_) λc=>?_⟩
 ·have c':V.int kd=V.int 0:=eZ c;have k0:kd=0:=V.int.inj c';refine⟨_,Z,_,Z,pm,_,a,_,Z,Z,bG.of hm,ea,_,Z,_,Z,pm,_,b,_,Z,Z,bG.of hm,eb,Z,?_⟩;have e:yE kd (fL ms) a b = !decide (V.int (ms.getD a.toNat 0)=V.int (ms.getD b.toNat 0)):=by
   unfold yE fL;grind
  grind
 ·have c':¬V.int kd=V.int 0:=Ed (tO.mpr c);have k0:¬kd=0:=λz=>c' (by rw[z]);have e:yE kd (fL ms) a b=(decide (kd=2)||decide (ms.getD a.toNat 0+ms.getD b.toNat 0<2)):=by
   unfold yE fL;rw[aB k0]
  rw[e]at q;refine⟨_,Z,Z,_,Z,?_⟩;by_cases h:kd=2
  ·grind
  ·rw[bJ h,Ox]at q;rw[aB (λz=>h (V.int.inj (eZ z)))];exact⟨_,Z,_,Z,pm,_,a,_,Z,Z,bG.of hm,ea,_,Z,_,Z,pm,_,b,_,Z,Z,bG.of hm,eb,_,_,Z,Z,_,_,Z,Z,q⟩
def Ś(s t:Int×Int):Prop:=s.1<t.1\/(s.1=t.1/\s.2<t.2)
structure Web(n:Int)(ts:List bA):Prop where
 ok:∀t∈ts,0<=t.1/\t.1<t.2/\t.2<n
 up:ts.Pairwise Ś
def a6G [DecidableEq α] {l U:List α} (nd:l.Nodup) (h:∀x∈l,x∈U):l.length<=U.length:=by
 induction l generalizing U with
 |nil=>grind
 |cons a r ih =>
  obtain⟨n1,n2⟩:=jC.mp nd;have am:=h a aW;have:=ih (U:=U.erase a) n2 λx hx=>(List.mem_erase_of_ne λe=>n1 (by grind)).mpr (h x (bM _ hx));grind
def a3F:List bA:=(List.range 10).flatMap λ(a:Nat)=>((List.range 10).filter λ(b:Nat)=>decide (a<b)).map λ(b:Nat)=>(((a:Nat):Int),((b:Nat):Int))
def Ś.asymm{s t:Int×Int}(h:Ś s t)(h':Ś t s):False:=by
 unfold Ś at h h';omega
def Web.nd{n:Int}{ts:List bA}(h:Web n ts):ts.Nodup:=h.up.imp λl e=>by
 subst e;exact l.asymm l
def Web.few{n:Nat}{ts:List bA}(h:Web n ts)(cU:n<=10):ts.length<=45:=by
 have:=a6G (U:=a3F) h.nd λt ht=>by
  have o:=h.ok t ht;unfold a3F;refine List.mem_flatMap.mpr ⟨t.1.toNat,mF.mpr (by omega),gn.mpr ⟨t.2.toNat,iH.mpr ⟨mF.mpr (by omega),bO (by omega)⟩,?_⟩⟩;grind
 have e:a3F.length=45:=by decide
 omega
abbrev rE:Stmt:=top 43
def mj:bD ["_law_script","_law_rows_here","_law_n","_law_kind","_law_marks","_law_share","_law_found","_law_a","_law_b","_law_together"] Xv (aF rE):={}
def Qz(rs:List BR)(t:Int×Int):Prop:=∃k,t.1∈fK rs k/\t.2∈fK rs k
inductive ś(K:aK)(vs:List V)(H:Hp)(Q:VK)(u_3:XK):Prop
 |mk (a l pm:Addr) (ns ms:List Int) (ys:List V) (rs:List BR) (n:Nat) (kd:Int) (_:vs=[.ref a,.ref l,.int n,.int kd,.ref pm]) (_:H pm=some (.lst (ms.map V.int))) (_:ms.length=n) (_:Æ K H a ns) (_:ns.length<=63) (_:H l=some (.lst ys)) (_:Paired (K7 l H) ys rs) (_:rs.length<=40) (_:n<=10) (_:∀r xs ts H',aH H H'->H r=none->H' r=some (.lst xs)->Paired (gR H') xs ts->(∀t∈ts,0<=t.1/\t.1<t.2/\t.2<(n:Int))->ts.Nodup->(∀t∈ts,Qz rs t/\yE kd (fL ms) t.1 t.2=true)->ts.length<=45->Q (.ref r) H')
def KC{lo:Int}{n:Nat}{tb:TS}{D:Ends}{H:Hp}(Pv:Nat->St->Hp->Prop)(h0:Pv 0 σ H)
  (hs:∀(D':Ends) i σ H,i<n->Pv i σ H->(∀σ2 H2,Pv (i+1) σ2 H2->D'.nx σ2 H2)->D'.rt=D.rt->g (.int (lo+i)) σ H λσ2 H2=>tb D' σ2 H2) (hd:∀σ H,Pv n σ H->D.nx σ H) :
  ∃W:Nat->Nat->St->Hp->Prop,(∃m,W 0 m σ H)/\∀i m σ H,W i m σ H->
   ((WK lo n).stop i H/\D.nx σ H)\/((WK lo n).go i H/\∃N:St->Hp->Prop,(∀σ' H',N σ' H'->∃m',m'<m/\W (i+1) m' σ' H')/\∀x H',(WK lo n).Ã i H x H'->g x σ H' λσ2 H2=>tb { D with nx:=N,ct:=N,bk:=D.nx} σ2 H2) :=
 vp Pv h0 (λi σ H hi p=>hs _ i σ H hi p (λ_ _ h=>h) Z) hd
def QB(B:Bl mg)(oE:Dn K mg "_law_at" tH Mz)(Ç:Dn K mg "_law_may" uz MF)(Ŝ:Dn K mg "_law_ties" rE Xv):bh P w K mg base gj 2 Ŝ.f Ŝ.fd Xv (ś K):=by
 have QH:bh P w K mg base gj 1 _ _ _ _:=BL B oE;have gZ2:bh P w K mg base gj 1 _ _ _ _:=SJ B Ç;refine Ŝ.F.ok mj λcZ A outer s H vs Q E hr h=>?_;obtain⟨a,l,pm,ns,ms,ys,rs,n,kd,rfl,hpm,lm,hS,h63,hy,hpr,r40,hn,q⟩:=h;have hv:(A.deeper (PyProof.Rows.envOfC "_law_ties" (aF rE) s.heap.objs.size Ŝ.f cZ)).units+65<cLine:=by have:=hr.un;omega
 have ly:ys.length=rs.length:=aY hpr;refine⟨_,(aA (bF 5 mj.nd (bC dO aq (bC jF (bf QH hr Z oE.m oE.F.kp oE.b .nil b8 (J (pv 0) (J aq aj))) aq)))
   (aA (bF 6 mj.nd (cJ aj))
   (aA (kY jV Z (jE Z B.range (J (pv 2) aj)) (aL 7 mj.nd)
   (aD (kY jV Z (Lz Z B.range (J (bC dO (pv 7) aq) (J (pv 2) aj))) (aL 8 mj.nd)
   (aA (ud (i:=9) ["_law_row_here","_law_a","_law_b"] [none,some 7,some 8] mj.nd Z Z (by kernel_rfl) Z (cX (K:=K) Z (pv 1)) (λ_ _ _ _ _=>(aL 0 (show(["_law_row_here","_law_a","_law_b"]:List Str).Nodup by decide))) (λ_ _ _ _ _=>(mV (PW.pt (oM (aJ (uI (K:=K) Z hv) (pv 1) (aQ (aM (K:=K) Z) (pv 0) aq) (by with_unfolding_all rfl)) (qM (aJ (uI (K:=K) Z hv) (pv 2) (aQ (aM (K:=K) Z) (pv 0) aq) (by with_unfolding_all rfl))))))) (λ_ _ _ _ _=>(pv 0)) (by rfl))
   (aD (dN (PW.pt (oM (aJ zL (bK (cQ (K:=K) Z) Z B.len (by decide) (J (pv 9) aj)) aq) (oM (gw (K:=K) Z (bf gZ2 hr Z Ç.m Ç.F.kp Ç.b .nil b8 (J (pv 3) (J (pv 4) (J (pv 7) (J (pv 8) aj))))) λ_=>rfl) (qM (aJ xV (bC jF (bf QH hr Z oE.m oE.F.kp oE.b .nil b8 (J (pv 0) (J (bC dO (bC dO aq (bC uU aq (pv 7))) (pv 8)) aj))) aq) (pv 5))))))
   (aD (jw (uX (K:=K) Z qw PySem.F.slot_list_append PySem.F.type_list_append lD (pv 6) (J (bx (J (pv 7) (J (pv 8) aj))) aj))))
   bR))))))
   (aD (bI (pv 6)))))),?_⟩
 refine⟨_,Z,a,ns,4,Z,hS,h63,by decide,by decide,λz0=>⟨_,_,Z,Z,(show(0:Int)<_ by decide),_,_,Z,Z,?_⟩⟩;obtain⟨sh,esh⟩:∃sh:Int,sh=1+z0%4:=⟨_,Z⟩;dsimp only;rw[<-esh];refine⟨(by show 0<=1000;decide),λr H0 nw=>?_⟩;refine⟨_,Z,_,Z,by omega,by omega,?_⟩;rw[jO];refine KC (n:=n) (λi σ H2=>∃(aa bb bo:Option V) (xs:List V) (ts:List bA),σ=[some (.ref a),some (.ref l),some (.int n),some (.int kd),some (.ref pm),some (.int sh),some (.ref r),aa,bb,bo]/\aH H H2/\H2 r=some (.lst xs)/\Paired (gR H2) xs ts/\ts.length<=10*i/\Web n ts/\(∀t∈ts,t.1<(i:Int))/\∀t∈ts,Qz rs t/\yE kd (fL ms) t.1 t.2=true)
  ⟨none,none,none,[],[],Z,nw.same,nw.here,.nil,dI _,⟨λt h=>absurd h d7,.nil⟩,λt h=>absurd h d7,λt h=>absurd h d7⟩ ?_ ?_
 ·rintro D1 i σ H2 hi ⟨aa,bb,bo,xs,ts,rfl,sm,hr2,hp,hz,hw,hlt,bi⟩ dn1 _;refine⟨_,Z,_,_,Z,Z,_,Z,_,_,Z,⟨by omega,by omega,by omega,by omega⟩,?_⟩;refine KC (n:=_) (λj σ H3=>∃(bb bo:Option V) (xs:List V) (ts:List bA),σ=[some (.ref a),some (.ref l),some (.int n),some (.int kd),some (.ref pm),some (.int sh),some (.ref r),some (.int (0+(i:Int))),bb,bo]/\aH H H3/\H3 r=some (.lst xs)/\Paired (gR H3) xs ts/\ts.length<=10*i+j/\Web n ts/\(∀t∈ts,t.1<(i:Int)\/(t.1=(i:Int)/\t.2<(i:Int)+1+j))/\∀t∈ts,Qz rs t/\yE kd (fL ms) t.1 t.2=true)
   ⟨bb,bo,xs,ts,Z,sm,hr2,hp,by omega,hw,λt h=>.inl (hlt t h),bi⟩ ?_ ?_
  ·rintro D2 j σ H3 hj ⟨bb,bo,xs,ts,rfl,sm,hr3,hp,hz,hw,hlt,bi⟩ dn _;have jn:(j:Int)+(0+(i:Int)+1)<n:=by omega
   have hy3:=sm _ _ hy;generalize eav:(0+(i:Int))=av;generalize ebv:(av+1+(j:Int))=bv;refine⟨_,Z,l,Z,⟨_,bG.of hy3⟩,ÿ (λk=>if(decide (av∈fK rs k)&&decide (bv∈fK rs k))=true then ys[k]? else none) (bG.of hy3) (by omega) (λk x H4 N hk s4 hN=>?_) λH4 p4 H5 s4 n4=>?_⟩
   ·have kl:k<rs.length:=by rw[<-ly];exact(fG.mp hk).1
    obtain⟨v,hx,⟨pp,b,rfl,hTk,hb,_⟩⟩:=fu hpr (vz kl);rw[hk]at hx;cases hx;have s04:=sm.trans s4;have hN':=hN H4 s4;rw[hk]at hN';refine⟨_,Z,_,Z,pp,_,_,_,Z,Z,cG.of (s04 _ _ hTk),Z,Ar (bG.of (s04 _ _ hb)) ⟨_,Z,tZ (λc=>?_) λc=>?_⟩⟩
    ·refine⟨_,Z,_,Z,pp,_,_,_,Z,Z,cG.of (s04 _ _ hTk),Z,Ar (bG.of (s04 _ _ hb)) ⟨_,Z,tZ (λd=>?_) λd=>?_⟩⟩
     ·rw[aG (by unfold fK;rw[c,d];rfl)]at hN';exact⟨_,Z,hN'⟩
     ·rw[aB (by unfold fK;rw[tO.mpr d];simp)]at hN';exact hN'
    ·refine cN ?_;rw[aB (by unfold fK;rw[tO.mpr c];simp)]at hN';exact hN'
   have s05:=sm.trans (s4.trans n4.same);have hr5:H5 r=some (.lst xs):=(s4.trans n4.same) _ _ hr3;have hp5:=Paired.bU hp λv t q=>gR.same (s4.trans n4.same) q;have lxs:xs.length=ts.length:=aY hp;have no:=λbv=>dn [some (V.ref a),some (.ref l),some (.int n),some (.int kd),some (.ref pm),some (.int sh),some (.ref r),some (.int av),bv,some (.ref p4)] H5 ⟨bv,some (.ref p4),xs,ts,by rw[eav],s05,hr5,hp5,by omega,hw,λt ht=>by have:=hlt t ht;omega,bi⟩;refine⟨_,Z,p4,_,Z,.inl (bG.of n4.here),_,_,Z,Z,_,Z,tZ (λc=>?_) λc=>cN (no _)⟩;have c':=eZ c;refine⟨_,Z,_,Z,_,Z,_,Z,kd,pm,ms,av,bv,Z,s05 _ _ hpm,(by omega),(by omega),(by omega),(by omega),_,Z,tZ (λcm=>⟨_,Z,_,Z,_,_,Z,Z,.inl ⟨by decide,by decide⟩,_,_,Z,Z,_,Z,_,_,Z,Z,a,ns,_,Z,hS.same s05,h63,(by omega),(by omega),λz5=>⟨_,_,Z,Z,(show(0:Int)<_ by decide),_,Z,_,_,Z,Z,_,Z,tZ (λd=>?_) λd=>no _⟩⟩) λc=>cN (no _)⟩;have hrow:Qz rs (av,bv):=by
    have c3:0<((List.range ys.length).filterMap λk=>if(decide (av∈fK rs k)&&decide (bv∈fK rs k))=true then ys[k]? else none).length:=by omega
    obtain⟨x,hx⟩:=List.exists_mem_of_length_pos c3;obtain⟨k,_,e⟩:=T8.mp hx;by_cases d2:(decide (av∈fK rs k)&&decide (bv∈fK rs k))=true
    ·rw[oH]at d2;exact⟨k,eZ d2.1,eZ d2.2⟩
    ·rw[aB d2]at e;cases e
   refine⟨_,Z,.inl ⟨Z,_,bG.of hr5⟩,_,Z,_,Z,(by show 2<=1000;decide),λp6 H6 n6=>?_⟩;have h6:=n6.same _ _ hr5;refine⟨r,_,_,Z,Z,h6,(by omega),λH7 c7=>?_⟩;refine dn _ _ ⟨some (.int bv),some (.ref p4),xs++[.ref p6],ts++[(av,bv)],by rw[eav];rfl,(s05.trans n6.same).chg nw.fresh c7,c7.here,?_,?_,⟨λt ht=>?_,?_⟩,λt ht=>?_,λt ht=>?_⟩
   ·exact cV (Paired.bU hp5 λv t q=>(gR.same n6.same q).chg h6 c7) (gR.chg h6 c7 ⟨p6,Z,n6.here⟩)
   ·rw[bW];show ts.length+1<=_;omega
   ·rcases b7.mp ht with ht|ht
    ·exact hw.ok t ht
    ·rw[bw.mp ht];exact⟨by show 0<=av;omega,by show av<bv;omega,by show bv<n;omega⟩
   ·refine TY.mpr ⟨hw.up,zQ _ _,λt ht u hu=>?_⟩;rw[bw.mp hu];show t.1<av\/(t.1=av/\t.2<bv);have:=hlt t ht;omega
   ·rcases b7.mp ht with ht|ht
    ·have:=hlt t ht;omega
    ·rw[bw.mp ht];show av<(i:Int)\/(av=(i:Int)/\bv<(i:Int)+1+((j+1:Nat):Int));omega
   ·rcases b7.mp ht with ht|ht
    ·exact bi t ht
    ·rw[bw.mp ht];exact⟨hrow,cm⟩
  ·rintro σ H3 ⟨bb,bo,xs,ts,rfl,sm,hr3,hp,hz,hw,hlt,bi⟩;exact dn1 _ _ ⟨_,bb,bo,xs,ts,Z,sm,hr3,hp,by omega,hw,λt ht=>by have:=hlt t ht;omega,bi⟩
 ·rintro σ H2 ⟨aa,bb,bo,xs,ts,rfl,sm,hr2,hp,hz,hw,hlt,bi⟩;have few:=hw.few hn;exact⟨_,Z,q r xs ts H2 sm nw.fresh hr2 hp (λt ht=>hw.ok t ht) hw.nd bi (by omega)⟩
abbrev lH:Stmt:=top 45
def fY:bD ["_law_ties_here","_law_rows_here","_law_k","_law_early","_law_above","_law_bag","_law_mine","_law_steps","_law_j"] CP (aF lH):={}
inductive Dv(K:aK)(d:Nat)(vs:List V)(H:Hp)(Q:VK)(u_3:XK):Prop
 |mk (r l:Addr) (tx ys:List V) (tb:List bA) (rs:List BR) (n most k:Nat) (early:Bool) (_:vs=[.ref r,.ref l,.int (k:Int),.bl early]) (_:H r=some (.lst tx)) (_:Paired (gR H) tx tb) (_:tb.length<=100) (_:H l=some (.lst ys)) (_:Paired (K7 l H) ys rs) (_:Rw n most rs []) (_:most<=4) (_:rs.length<=20) (_:n<=10) (_:k<rs.length) (_:rs.length<=k+d) (_:∀p xs H',aH H H'->H p=none->H' p=some (.lst xs)->Paired (sH H') xs (qu early tb rs.length (BW rs) (fK rs) d k)->Q (.ref p) H')
def vo(m:Nat)(up:Nat->Nat)(k i:Nat):List Nat:=(List.range i).filter λj=>decide (k<j)&&decide (up j=k)
def a3G(m:Nat)(up:Nat->Nat)(k:Nat):vo m up k (k+1)=[]:=by
 unfold vo;rw[List.filter_eq_nil_iff];grind
def ŝ{m:Nat}{up:Nat->Nat}{k i:Nat}(h:i<=m)(L:Nat->List aU):((vo m up k i).flatMap L).length<=((gY m up k).flatMap L).length:=by
 unfold vo gY;have e:List.range m=List.range i++(List.range (m-i)).map (i + ·):=by
  rw[<-List.range_add];congr 1;omega
 rw[e,zX,T7,bW];omega
def Nr{m:Nat}{up:Nat->Nat}{k i:Nat}(h:k<i):vo m up k (i+1)=vo m up k i++if up i=k then [i]else []:=by
 unfold vo;rw[Af,zX];grind
def jh{β:Type}{R:α->β->Prop}{xs xs':List α}{ys ys':List β}(h:Paired R xs ys)(q:Paired R xs' ys'):Paired R (xs++xs') (ys++ys'):=by
 induction h with
 |nil=>exact q
 |cons a _ ih=>exact .cons a ih
def KD{ta tb:TT}{H:Hp}{b1 b2:Bool}{Q:Bool->Hp->Prop}(h1:∀Q:Bool->Hp->Prop,Q b1 H->ta σ H Q)(h2:∀Q:Bool->Hp->Prop,Q b2 H->tb σ H Q)(h:Q (b1&&b2) H):ż ta tb σ H Q:=by
 refine h1 _ ?_;grind
def Ij{a:Addr}{H:Hp}(xs:List Int)(c:Int->Bool)(S:Int->aU)(hx:bG K H a (xs.map V.int))(l9:xs.length<=900)
  (hs:∀(v:Int) (H1:Hp) (N:VK) (Z98:Hp->Prop),v∈xs->aH H H1->(c v=true->∀p H2,gV H1 p (.tup (S v).vs) H2->N (.ref p) H2)->(c v=false->Z98 H1)->g (.int v) (qd ix σ) H1 λσ2 H2=>tt σ2 H2 λb H3=>if b=true then te σ2 H3 N else Z98 H3)
  (hd:∀H1 p ys H2,aH H H1->gV H1 p (.lst ys) H2->Paired (sH H2) ys ((xs.filter c).map S)->Q (.ref p) H2):lC ix g tt te σ H Q (Ä K a):=by
 refine qN (K:=K) (a:=a) (xs:=xs.map V.int) (λi ys H'=>aH H H'/\Paired (sH H') ys (((xs.take i).filter c).map S)) ⟨aH.refl _,.nil⟩ (λi ys H' hi ⟨s,p⟩=>⟨s.seq hx,?_⟩) (λi x ys H' hi ⟨s,p⟩=>?_) (λys H' ⟨s,p⟩ q hq=>?_)
 ·rw[aY p,aN];have:=zT c (xs.take i);rw[dZ]at this;exact dH (cC (by omega))
 ·rw[iW]at hi;obtain⟨v,hv,rfl⟩:=kI.mp hi;have et:xs.take (i+1)=xs.take i++[v]:=by rw[jX,hv];rfl
  refine hs v H' _ _ (jA hv) s (λcv p2 H2 n2=>⟨s.trans n2.same,?_⟩) (λcv=>⟨s,?_⟩)
  ·rw[et,zX,dF,Ei,cv];exact cV (Paired.bU p λ_ _ h=>h.same n2.same) ⟨p2,Z,n2.here⟩
  ·rw[et,zX,dF,Ei,cv];simp only[Bool.false_eq_true,if_false,List.filter_nil,List.map_nil,List.append_nil];exact p
 ·have nq:gV H' q (.lst ys) (cO H' q (.lst ys)):=gV.oF hq;rw[aN,gZ]at p;exact hd H' q ys _ s nq (Paired.bU p λ_ _ h=>h.same nq.same)
def Ş(Gy:Dn K mg "_law_laid" lH CP):bh P w K mg base gj 1 Gy.f Gy.fd CP (Dv K 0):=by
 refine Gy.F.ok fY (len:=λvs H Q E h=>?_) (λcZ A outer s H vs Q E hr h=>?_)
 ·obtain⟨r,l,tx,ys,tb,rs,n,most,k,early,_,_,_,_,_,_,_,_,_,_,h1,h2,_⟩:=h;omega
 ·obtain⟨r,l,tx,ys,tb,rs,n,most,k,early,_,_,_,_,_,_,_,_,_,_,h1,h2,_⟩:=h;omega
def ş(B:Bl mg)(Gy:Dn K mg "_law_laid" lH CP)(d:Nat)(gZ1:bh P w K mg base gj (d+1) Gy.f Gy.fd CP (Dv K d)):bh P w K mg base gj (d+2) Gy.f Gy.fd CP (Dv K (d+1)):=by
 refine Gy.F.ok fY λcZ A outer s H vs Q E hr h=>?_;obtain⟨r,l,tx,ys,tb,rs,n,most,k,early,rfl,hT,pT,Ř,hL,pL,W,m4,r20,cU,kl,dk,q⟩:=h;have hv:(A.deeper (PyProof.Rows.envOfC "_law_laid" (aF lH) s.heap.objs.size Gy.f cZ)).units+65<cLine:=by have:=hr.un;omega
 have ly:=aY pL;have ltx:=aY pT;have T:=W.T;obtain⟨vk,hxk,⟨pk,bk,rfl,hTk,hbk,nbk,lbk⟩⟩:=fu pL (vz kl);have hW4:∀j,(fK rs j).length<=4:=λj=>cW (W.few j) m4;have b10:∀j,(fK rs j).length<=10:=λj=>cW (hW4 j) (by decide);have full:=Nq T hW4 r20 early Ř (f:=d+1) kl;obtain⟨L,eL⟩:∃L:Nat->List aU,L=λj=>qu early tb rs.length (BW rs) (fK rs) d j++(pX (fK rs) j k++[.join]):=⟨_,Z⟩;obtain⟨M0,eM⟩:∃M0:List aU,M0=(.leaf::(fK rs k).map .inn)++if early=true then(vQ (BW rs) (fK rs) tb k).map λt=>.tie t.1 t.2 else []:=⟨_,Z⟩
 have eS:qu early tb rs.length (BW rs) (fK rs) (d+1) k=(M0++(gY rs.length (BW rs) k).flatMap L)++if early=true then []else(vQ (BW rs) (fK rs) tb k).map λt=>.tie t.1 t.2:=by rw[eL,eM];rfl
 rw[eS]at q full;rw[bW,bW]at full;have a6O:(vQ (BW rs) (fK rs) tb k).length<=100:=cW (zT _ _) Ř;have lM:M0.length<=120:=by
  rw[eM,bW,nA,aN];have:=b10 k;cases early with
  |true=>rw[aG Z,aN];omega
  |false=>rw[aB dw];show _+0<=_;omega
 refine⟨_,(aA (bF 4 fY.nd (cJ aj))
   (j4 (dN (aJ zL (pv 2) aq)
   (aD (bF 4 fY.nd (aQ (aM (K:=K) Z) (aQ (bQ (K:=K) Z) (pv 1) (aQ (aM (K:=K) Z) (aQ (bQ (K:=K) Z) (pv 1) (pv 2)) aq)) aq)))
   bR)
   (aA (bF 5 fY.nd (aQ (aM (K:=K) Z) (aQ (bQ (K:=K) Z) (pv 1) (pv 2)) aq))
   (aA (ud (i:=6) Ĥ [none,none,some 5,some 4] fY.nd Z Z (by kernel_rfl) Z (cX (K:=K) Z (pv 0)) (λ_ _ _ _ _=>(jy (K:=K) (n:=2) Z Z (bY (aL 0 (show(Ĥ:List Str).Nodup by decide)) (bY (aL 1 (show(Ĥ:List Str).Nodup by decide)) jx)))) (λ_ _ _ _ _=>(mV (PW.pt (oM (aJ (uI (K:=K) Z hv) (pv 0) (pv 2) (by with_unfolding_all rfl)) (oM (aJ (uI (K:=K) Z hv) (pv 1) (pv 2) (by with_unfolding_all rfl)) (qM (wj (PW.pt (oM (aJ (uI (K:=K) Z hv) (pv 0) (pv 3) (by with_unfolding_all rfl)) (qM (aJ (uI (K:=K) Z hv) (pv 1) (pv 3) (by with_unfolding_all rfl)))))))))))) (λ_ _ _ _ _=>(bx (J gJ (J (pv 0) (J (pv 1) aj))))) (by rfl))
   (aA (bF 7 fY.nd (bC lU (cJ (J (bx (J gJ aj)) aj)) (jH ["_law_v"] [none]  (by kernel_rfl) Z (cX (K:=K) Z (pv 5)) (λ_ _ _ _ _=>(aL 0 (show(["_law_v"]:List Str).Nodup by decide))) (λ_ _ _ _ _=>gk) λ_ _ _ _ _=>(bx (J gJ (J (pv 0) aj))))))
   (j4 (dN (gw (K:=K) Z (pv 3) λ_=>rfl)
   (aD (bF 7 fY.nd (bC lU (pv 7) (pv 6))))
   bR)
   (aA (kY jV Z (Lz Z B.range (J (bC dO (pv 2) aq) (J (bK (cQ (K:=K) Z) Z B.len (by decide) (J (pv 1) aj)) aj))) (aL 8 fY.nd)
   (aD (dN (aJ jb (aQ (aM (K:=K) Z) (aQ (bQ (K:=K) Z) (pv 1) (pv 8)) aq) (pv 2))
   (aA (bF 7 fY.nd (bC lU (bC lU (pv 7) (bf gZ1 hr Z Gy.m Gy.F.kp Gy.b .nil b8 (J (pv 0) (J (pv 1) (J (pv 8) (J (pv 3) aj)))))) (jH ["_law_v","_law_bag"] [none,some 5]  (by kernel_rfl) Z (cX (K:=K) Z (aQ (aM (K:=K) Z) (aQ (bQ (K:=K) Z) (pv 1) (pv 8)) aq)) (λ_ _ _ _ _=>(aL 0 (show(["_law_v","_law_bag"]:List Str).Nodup by decide))) (λ_ _ _ _ _=>(mV (aJ (jP (K:=K) Z hv) (pv 0) (pv 1) (by with_unfolding_all rfl)))) λ_ _ _ _ _=>(bx (J gJ (J (pv 0) aj))))))
   (aD (bF 7 fY.nd (bC lU (bC lU (pv 7) (jH ["_law_v","_law_rows_here","_law_j"] [none,some 1,some 8]  (by kernel_rfl) Z (cX (K:=K) Z (pv 5)) (λ_ _ _ _ _=>(aL 0 (show(["_law_v","_law_rows_here","_law_j"]:List Str).Nodup by decide))) (λ_ _ _ _ _=>(mV (aJ (jP (K:=K) Z hv) (pv 0) (aQ (aM (K:=K) Z) (aQ (bQ (K:=K) Z) (pv 1) (pv 2)) aq) (by with_unfolding_all rfl)))) λ_ _ _ _ _=>(bx (J gJ (J (pv 0) aj))))) (cJ (J (bx (J gJ aj)) aj))))))
   bR)))
   (aA (dN (gw (K:=K) Z (pv 3) λ_=>rfl)
   (aD (bI (pv 7)))
   bR)
   (aD (bI (bC lU (pv 7) (pv 6)))))))))))),?_⟩
 refine⟨(by show 0<=1000;decide),λpa H7 n7=>?_⟩;have s7:=n7.same;refine⟨λσ' H'=>∃(pA:Addr) (ab:List Int),σ'=[some (.ref r),some (.ref l),some (.int (k:Int)),some (.bl early),some (.ref pA),none,none,none,none]/\H'=H7/\H7 pA=some (.lst (ab.map V.int))/\∀t:Int×Int,(¬(t.1∈ab/\t.2∈ab))↔(k=0\/¬(t.1∈fK rs (BW rs k)/\t.2∈fK rs (BW rs k))),?_,?_⟩
 ·refine⟨_,Z,_,_,Z,Z,_,Z,?_⟩;by_cases k0:k=0
  ·rw[bJ (by omega)];exact cN ⟨pa,[],Z,Z,n7.here,λt=>⟨λ_=>.inl k0,λ_ z=>absurd z.1 d7⟩⟩
  ·rw[bO (by omega)];have ul:=T.ups k (by omega) kl;have a5u:=hTk;rw[W.ru k (by omega) kl]at a5u;obtain⟨vu,hxu,⟨pu,bu,rfl,hTu,hbu,nbu,lbu⟩⟩:=fu pL (vz (show BW rs k<rs.length by omega));exact gQ ⟨_,Z,_,Z,_,Z,l,_,_,_,Z,Z,bG.of (s7 _ _ hL),eV hxk,pk,_,_,_,Z,Z,cG.of (s7 _ _ a5u),Z,l,_,_,_,Z,Z,bG.of (s7 _ _ hL),eV hxu,pu,_,_,_,Z,Z,cG.of (s7 _ _ hTu),Z,⟨bu,_,Z,Z,s7 _ _ hbu,λt=>⟨λh=>.inr h,λh=>h.elim (λz=>absurd z k0) id⟩⟩⟩
 rintro σ' H8 ⟨pA,ab,rfl,rfl,hA,mA⟩;refine⟨_,Z,_,Z,l,_,_,_,Z,Z,bG.of (s7 _ _ hL),eV hxk,pk,_,_,_,Z,Z,cG.of (s7 _ _ hTk),Z,⟨_,Z,r,Z,⟨_,bG.of (s7 _ _ hT)⟩,qN (K:=K) (a:=r) (xs:=tx) (λi yo H'=>aH H8 H'/\Paired (sH H') yo (((tb.take i).filter λt=>decide (jr (BW rs) (fK rs) k t)).map λt=>.tie t.1 t.2)) ⟨aH.refl _,.nil⟩ (λi yo H' hi ⟨s,p⟩=>⟨bG.of (s _ _ (s7 _ _ hT)),?_⟩) (λi x yo H9 hx ⟨s9',p9⟩=>?_) λyo H9 ⟨s9',p9⟩ pM hpM=>?_⟩⟩
 ·rw[aY p,aN];have:=zT (λt=>decide (jr (BW rs) (fK rs) k t)) (tb.take i);rw[dZ]at this;exact dH (cC (by omega))
 ·obtain⟨t,ht,⟨px,rfl,hpx⟩⟩:=bT pT hx;have et:tb.take (i+1)=tb.take i++[t]:=by rw[jX,ht];rfl
  have s9:=s7.trans s9';refine⟨px,_,Z,cG.of (s9 _ _ hpx),Z,_,_,Z,_,_,Z,Z,?_⟩;have hb9:=s9 _ _ hbk;have hA9:=s9' _ _ hA;rw[et,zX,dF,Ei];refine KD (b1:=decide (t.1∈fK rs k)) (b2:=decide (t.2∈fK rs k) && !(decide (t.1∈ab)&&decide (t.2∈ab))) (λQ h=>⟨_,Z,_,Z,Ar (bG.of hb9) ⟨_,Z,h⟩⟩) (λQ h=>KD (b1:=decide (t.2∈fK rs k)) (b2:=!(decide (t.1∈ab)&&decide (t.2∈ab))) (λQ h=>⟨_,Z,_,Z,Ar (bG.of hb9) ⟨_,Z,h⟩⟩) (λQ h=>KD (b1:=decide (t.1∈ab)) (b2:=decide (t.2∈ab)) (Q:=λb H'=>Q (!b) H') (λQ h=>⟨_,Z,_,Z,Ar (bG.of hA9) ⟨_,Z,h⟩⟩) (λQ h=>⟨_,Z,_,Z,Ar (bG.of hA9) ⟨_,Z,h⟩⟩) h) h) ?_;have eh:(decide (t.1∈fK rs k)&&(decide (t.2∈fK rs k) && !(decide (t.1∈ab)&&decide (t.2∈ab))))=decide (jr (BW rs) (fK rs) k t):=by
   rw[rU,oH,oH,dY,dY,dY];unfold jr;rw[<-mA t];by_cases c1:t.1∈ab<;>by_cases c2:t.2∈ab<;>simp[c1,c2]
  rw[eh];refine tZ (λc=>?_) (λc=>?_)
  ·rw[aG c];refine⟨_,Z,_,Z,(by show 3<=1000;decide),λŰ ZG uG=>⟨s9'.trans uG.same,?_⟩⟩;exact cV (Paired.bU p9 λ_ _ h=>h.same uG.same) ⟨Ű,Z,uG.here⟩
  ·rw[aB c];refine⟨s9',?_⟩;rw[List.filter_nil,List.map_nil,mD];exact p9
 rw[ltx,gZ]at p9;have nM:gV H9 pM (.lst yo) (cO H9 pM (.lst yo)):=gV.oF hpM;generalize cO H9 pM (.lst yo)=ZG at nM ⊢;have a3H:Paired (sH ZG) yo ((vQ (BW rs) (fK rs) tb k).map λt=>.tie t.1 t.2):=Paired.bU p9 λ_ _ h=>h.same nM.same;have a6H:=aY a3H;rw[aN]at a6H;have a5v:=s7.trans (s9'.trans nM.same);have a6P:=(s9'.trans nM.same) _ _ hA;refine⟨(by show 1<=1000;decide),λp1 H1 n1=>⟨(by show 1<=1000;decide),λp2 H2 n2=>?_⟩⟩;have s2:=a5v.trans (n1.same.trans n2.same);refine⟨_,Z,bk,Z,⟨_,bG.of (s2 _ _ hbk)⟩,?_⟩;refine Ij (fK rs k) (λ_=>true) aU.inn (bG.of (s2 _ _ hbk)) (by have:=b10 k;omega) (λv H3 N Z98 _ s3 hN hM=>?_) (λH3 p3 ys3 H4 s3 n4 p4=>?_)
 ·exact⟨_,Z,(by show 2<=1000;decide),λp H5 n5=>hN Z p H5 n5⟩
 rw[T5.mpr (λ_ _=>rfl)]at p4;have Ĵ:=s3.trans n4.same;have l4:=aY p4;rw[aN]at l4;refine⟨p2,p3,_,_,Z,Z,Ĵ _ _ n2.here,n4.here,(by have:=b10 k;show 1+ys3.length<=1000;omega),λp5 H5 n5=>?_⟩;have a1t:aH ZG H5:=n1.same.trans (n2.same.trans (Ĵ.trans n5.same));have s5':=a5v.trans a1t;have f5':H p5=none:=(s2.trans Ĵ).free n5.fresh;have P5':Paired (sH H5) ([.ref p1]++ys3) (.leaf::(fK rs k).map aU.inn):=.cons ⟨p1,Z,n5.same _ _ (Ĵ _ _ (n2.same _ _ n1.here))⟩ (Paired.bU p4 λ_ _ h=>h.same n5.same);have hM5:=a1t _ _ nM.here;refine⟨λσ' H'=>∃(pS0:Addr) (xs:List V),σ'=[some (.ref r),some (.ref l),some (.int (k:Int)),some (.bl early),some (.ref pA),some (.ref bk),some (.ref pM),some (.ref pS0),none]/\aH H5 H'/\H pS0=none/\H' pS0=some (.lst xs)/\Paired (sH H') xs M0,?_,?_⟩
 ·refine⟨_,Z,early,Z,?_⟩;cases early with
  |false =>
   refine cN ⟨p5,_,Z,aH.refl _,f5',n5.here,?_⟩;rw[eM,aB dw,mD];exact P5'
  |true =>
   refine gQ ⟨_,Z,_,Z,p5,pM,_,_,Z,Z,n5.here,hM5,(by have:=b10 k;rw[bW];show 1+ys3.length+_<=1000;omega),λp6 H6 n6=>⟨p6,_,Z,n6.same,s5'.free n6.fresh,n6.here,?_⟩⟩;rw[eM,aG rfl];exact jh (Paired.bU P5' λ_ _ h=>h.same n6.same) (Paired.bU a3H λ_ _ h=>h.same (a1t.trans n6.same))
 rintro σ' H6' ⟨pS0,xs0,rfl,s56,f5,hS0,P5⟩;have s5:=s5'.trans s56;have hL5:=s5 _ _ hL;have hMM:=s56 _ _ hM5;have a5w:Paired (sH H6') yo ((vQ (BW rs) (fK rs) tb k).map λt=>.tie t.1 t.2):=Paired.bU a3H λ_ _ h=>h.same (a1t.trans s56);refine⟨_,Z,_,_,Z,Z,_,Z,l,_,Z,.inl (bG.of hL5),_,_,Z,⟨by omega,by omega,by omega,by omega⟩,?_⟩;refine vp (n:=_) (λi σ H'=>∃(jj:Option V) (pS:Addr) (xs:List V),σ=[some (.ref r),some (.ref l),some (.int (k:Int)),some (.bl early),some (.ref pA),some (.ref bk),some (.ref pM),some (.ref pS),jj]/\aH H H'/\aH H6' H'/\H pS=none/\H' pS=some (.lst xs)/\Paired (sH H') xs (M0++(vo rs.length (BW rs) k (k+1+i)).flatMap L))
  ⟨none,pS0,_,Z,s5,aH.refl _,f5,hS0,by rw[a3G,List.flatMap_nil,mD];exact P5⟩ ?_ ?_
 ·rintro i σ H6 hi ⟨jj,pS,xs,rfl,s6,s6m,fS,hS,pS'⟩;have jl:k+1+i<rs.length:=by rw[ly]at hi;omega
  obtain⟨j,ej⟩:∃j,j=k+1+i:=⟨_,Z⟩;have ejI:(k:Int)+1+(i:Int)=(j:Int):=by omega
  rw[ejI];rw[<-ej]at jl pS';have ej2:k+1+(i+1)=j+1:=by omega
  rw[ej2,Nr (show k<j by omega)];obtain⟨vj,hxj,⟨pj,bj,rfl,hTj,hbj,nbj,lbj⟩⟩:=fu pL (vz jl);rw[W.ru j (by omega) jl]at hTj;have pre:=ŝ (up:=BW rs) (k:=k) (show j+1<=rs.length by omega) L;rw[Nr (show k<j by omega)]at pre;have lxs:=aY pS';rw[bW]at lxs;refine⟨_,Z,_,Z,l,_,_,_,Z,Z,bG.of (s6 _ _ hL),eV hxj,pj,_,_,_,Z,Z,cG.of (s6 _ _ hTj),Z,_,Z,Z,_,Z,?_⟩;by_cases c:BW rs j=k
  ·rw[aG c]at pre ⊢;rw[show decide (upV (some ((BW rs j:Nat):Int))=V.int (k:Int))=true from bO (by rw[c];rfl)];refine gQ ?_;have eLj:L j=qu early tb rs.length (BW rs) (fK rs) d j++((vg (fK rs j) (fK rs k)).map .out++(vg (fK rs k) (fK rs j)).map .inn++[.join]):=by rw[eL];rfl
   rw[T7,bW,List.flatMap_singleton]at pre;have lLj:=congrArg List.length eLj;rw[bW,bW,bW,aN,aN]at lLj;have lJ1:[aU.join].length=1:=rfl;refine⟨_,Z,_,Z,_,Z,_,Z,_,Z,r,l,tx,ys,tb,rs,n,most,j,early,Z,s6 _ _ hT,Paired.bU pT λ_ _ h=>gR.same s6 h,Ř,s6 _ _ hL,Paired.bU pL λ_ _ h=>K7.same s6 h,W,m4,r20,cU,jl,by omega,λpJ xJ H7 s7 fJ hJ pJ'=>?_⟩;have lJ:=aY pJ';refine⟨pS,pJ,_,_,Z,Z,s7 _ _ hS,hJ,by omega,λp8 H8 n8=>?_⟩;have s68:=s7.trans n8.same;have s8:=s6.trans s68;refine⟨_,Z,_,Z,l,_,_,_,Z,Z,bG.of (s8 _ _ hL),eV hxj,pj,_,_,_,Z,Z,cG.of (s8 _ _ hTj),Z,bj,Z,⟨_,bG.of (s8 _ _ hbj)⟩,?_⟩;refine Ij (fK rs j) (λv=>!decide (v∈fK rs k)) aU.out (bG.of (s8 _ _ hbj)) (by have:=b10 j;omega) (λv H9 N Z98 _ s9 hN hM=>?_) (λH9 p9 y9 ZG s9 uG Ű=>?_)
   ·refine⟨_,Z,_,Z,yX (bG.of ((s8.trans s9) _ _ hbk)) ⟨_,Z,tZ (λe=>?_) λe=>hM (tO.mpr e)⟩⟩;exact⟨_,Z,(by show 2<=1000;decide),λp H5 n5=>hN e p H5 n5⟩
   have l10:=aY Ű;rw[aN]at l10;have a6Q:y9.length=(vg (fK rs j) (fK rs k)).length:=l10;have a3I:=s9.trans uG.same;refine⟨p8,p9,_,_,Z,Z,a3I _ _ n8.here,uG.here,by rw[bW];omega,λp11 Ļ BV=>?_⟩;have ű:=s8.trans (a3I.trans BV.same);refine⟨_,Z,_,Z,bk,Z,⟨_,bG.of (ű _ _ hbk)⟩,?_⟩;refine Ij (fK rs k) (λv=>!decide (v∈fK rs j)) aU.inn (bG.of (ű _ _ hbk)) (by have:=b10 k;omega) (λv V9 N Z98 _ s12 hN hM=>?_) (λV9 p12 y12 H13 s12 n13 p13=>?_)
   ·refine⟨_,Z,_,Z,_,Z,l,_,_,_,Z,Z,bG.of ((ű.trans s12) _ _ hL),eV hxj,pj,_,_,_,Z,Z,cG.of ((ű.trans s12) _ _ hTj),Z,yX (bG.of ((ű.trans s12) _ _ hbj)) ⟨_,Z,tZ (λe=>?_) λe=>hM (tO.mpr e)⟩⟩;exact⟨_,Z,(by show 2<=1000;decide),λp H5 n5=>hN e p H5 n5⟩
   have l13:=aY p13;rw[aN]at l13;have a6R:y12.length=(vg (fK rs k) (fK rs j)).length:=l13;have Š:=s12.trans n13.same;refine⟨p11,p12,_,_,Z,Z,Š _ _ BV.here,n13.here,by rw[bW,bW];omega,λp14 H14 n14=>?_⟩;refine⟨(by show 1<=1000;decide),λp15 H15 n15=>⟨(by show 1<=1000;decide),λp16 H16 n16=>?_⟩⟩;have š:=n15.same.trans n16.same;refine⟨p14,p16,_,_,Z,Z,š _ _ n14.here,n16.here,(by rw[bW,bW,bW];show _+1<=1000;omega),λp17 H17 n17=>?_⟩;have a1M:=n14.same.trans (š.trans n17.same);have a1N:=BV.same.trans (Š.trans a1M);have a3J:=a3I.trans a1N;have Wn:=s8.trans a3J;have a5x:=n8.same.trans a3J;refine⟨_,p17,_,Z,Wn,s6m.trans (s68.trans a3J),?_,n17.here,?_⟩
   ·exact(ű.trans (Š.trans (n14.same.trans š))).free n17.fresh
   ·rw[T7,List.flatMap_singleton,eLj,<-Aa,<-Aa,<-Aa,<-Aa];refine jh (jh (jh (jh (Paired.bU pS' λ_ _ h=>h.same (s7.trans a5x)) (Paired.bU pJ' λ_ _ h=>h.same a5x)) (Paired.bU Ű λ_ _ h=>h.same a1N)) (Paired.bU p13 λ_ _ h=>h.same a1M)) (.cons ⟨p15,Z,n17.same _ _ (n16.same _ _ n15.here)⟩ .nil)
  ·rw[aB c,mD];rw[show decide (upV (some ((BW rs j:Nat):Int))=V.int (k:Int))=false from bJ (λz=>c (by have:=V.int.inj z;omega))];exact cN ⟨_,pS,xs,Z,s6,s6m,fS,hS,pS'⟩
 rintro σ H6 ⟨jj,pS,xs,rfl,s6,s6m,fS,hS,pS'⟩;have eK:vo rs.length (BW rs) k (k+1+((ys.length:Int)-((k:Int)+1)).toNat)=gY rs.length (BW rs) k:=by
  unfold vo gY;congr 2;omega
 rw[eK]at pS';refine⟨_,Z,early,Z,?_⟩;cases early with
 |true =>
  rw[aG Z,mD]at q;exact gQ ⟨_,Z,q pS xs H6 s6 fS hS pS'⟩
 |false =>
  rw[aB dw]at q;have lxs:=aY pS';rw[bW]at lxs;exact cN ⟨_,Z,_,Z,pS,pM,_,_,Z,Z,hS,s6m _ _ hMM,(by omega),λp9 H9 n9=>q p9 _ H9 (s6.trans n9.same) (s6.free n9.fresh) n9.here (jh (Paired.bU pS' λ_ _ h=>h.same n9.same) (Paired.bU a5w λ_ _ h=>h.same (s6m.trans n9.same)))⟩
theorem Dw(B:Bl mg)(Gy:Dn K mg "_law_laid" lH CP):∀d:Nat,bh P w K mg base gj (d+1) Gy.f Gy.fd CP (Dv K d)
 |0=>Ş Gy
 |d+1=>ş B Gy d (Dw B Gy d)
def Z8(ts:List bA)(v:Int):List Int:=(ts.filter λt=>decide (v=t.1\/v=t.2)).map λt=>t.1+t.2-v
def Ym(mk:Int->Int)(ts:List bA)(v:Int):((((Z8 ts v).filter λu=>decide (mk u=1)).length:Nat):Int)>0↔Go.eU mk ts v=true:=by
 unfold Z8 Go.eU
 induction ts with
 |nil=>simp
 |cons t ts ih =>
  grind
def a1O{n:Nat}{ts:List bA}(h:∀t∈ts,0<=t.1/\t.1<t.2/\t.2<(n:Int)){v u:Int}(hu:u∈Z8 ts v):0<=u/\u<(n:Int):=by
 obtain⟨t,ht,rfl⟩:=gn.mp hu;grind
def Wo(ts:List bA)(v:Int):(Z8 ts v).length<=ts.length:=by
 unfold Z8;grind
def QD{ta tb:TT}{H:Hp}{b1 b2:Bool}{Q:Bool->Hp->Prop}(h1:∀Q:Bool->Hp->Prop,Q b1 H->ta σ H Q)(h2:∀Q:Bool->Hp->Prop,Q b2 H->tb σ H Q)(h:Q (b1||b2) H):tOr ta tb σ H Q:=by
 refine h1 _ ?_;grind
def Yn{a:Addr}{H:Hp}(tx:List V)(ts:List bA)(v:Int)(hx:bG K H a tx)(hp:Paired (gR H) tx ts)(l9:ts.length<=900)
  (hs:∀(t:Int×Int) (p:Addr) (H1:Hp) (N:VK) (Z98:Hp->Prop),t∈ts->aH H H1->H1 p=some (.tup [.int t.1,.int t.2])->((v=t.1\/v=t.2)->N (.int (t.1+t.2-v)) H1)->(¬(v=t.1\/v=t.2)->Z98 H1)->g (.ref p) (qd ix σ) H1 λσ2 H2=>tt σ2 H2 λb H3=>if b=true then te σ2 H3 N else Z98 H3)
  (hd:∀H1 p H2,aH H H1->gV H1 p (.lst ((Z8 ts v).map V.int)) H2->Q (.ref p) H2):lC ix g tt te σ H Q (Ä K a):=by
 refine qN (K:=K) (a:=a) (xs:=tx) (λi ys H'=>aH H H'/\ys=(Z8 (ts.take i) v).map V.int) ⟨aH.refl _,Z⟩ (λi ys H' hi ⟨s,e⟩=>⟨s.seq hx,?_⟩) (λi x ys H' hi ⟨s,e⟩=>?_) (λys H' ⟨s,e⟩ q hq=>?_)
 ·rw[e,aN];have:=Wo (ts.take i) v;rw[dZ]at this;exact dH (cC (by omega))
 ·obtain⟨t,ht,⟨px,rfl,hpx⟩⟩:=bT hp hi;have et:ts.take (i+1)=ts.take i++[t]:=by rw[jX,ht];rfl
  refine hs t px H' _ _ (jA ht) s (s _ _ hpx) (λc=>⟨s,?_⟩) (λc=>⟨s,?_⟩)
  ·rw[e,et];unfold Z8;grind
  ·rw[e,et];unfold Z8;grind
 ·have nq:gV H' q (.lst ys) (cO H' q (.lst ys)):=gV.oF hq;have:ts.take tx.length=ts:=by rw[aY hp,gZ]
  grind
def QF{a:Addr}{H:Hp}(xs:List Int)(c:Int->Bool)(hx:bG K H a (xs.map V.int))(l9:xs.length<=900)
  (hs:∀(v:Int) (H1:Hp) (N:VK) (Z98:Hp->Prop),v∈xs->aH H H1->(c v=true->N (.int v) H1)->(c v=false->Z98 H1)->g (.int v) (qd ix σ) H1 λσ2 H2=>tt σ2 H2 λb H3=>if b=true then te σ2 H3 N else Z98 H3)
  (hd:∀H1 p H2,aH H H1->gV H1 p (.lst ((xs.filter c).map V.int)) H2->Q (.ref p) H2):lC ix g tt te σ H Q (Ä K a):=by
 refine qN (K:=K) (a:=a) (xs:=xs.map V.int) (λi ys H'=>aH H H'/\ys=((xs.take i).filter c).map V.int) ⟨aH.refl _,Z⟩ (λi ys H' hi ⟨s,e⟩=>⟨s.seq hx,?_⟩) (λi x ys H' hi ⟨s,e⟩=>?_) (λys H' ⟨s,e⟩ q hq=>?_)
 ·rw[e,aN];have:=zT c (xs.take i);rw[dZ]at this;exact dH (cC (by omega))
 ·rw[iW]at hi;obtain⟨v,hv,rfl⟩:=kI.mp hi;have et:xs.take (i+1)=xs.take i++[v]:=by rw[jX,hv];rfl
  refine hs v H' _ _ (jA hv) s (λcv=>⟨s,?_⟩) (λcv=>⟨s,?_⟩)
  ·rw[e,et,zX,dF,Ei,cv];rfl
  ·rw[e,et,zX,dF,Ei,cv];simp only[Bool.false_eq_true,if_false,List.filter_nil,List.map_nil,List.append_nil]
 ·have nq:gV H' q (.lst ys) (cO H' q (.lst ys)):=gV.oF hq;rw[aN,gZ]at e;subst e;exact hd H' q _ s nq
abbrev mZ:Stmt:=top 44
def mq:bD ["_law_web","_law_marks","_law_whole","_law_v","_law_near"] Xw (aF mZ):={}
inductive Z9(K:aK)(vs:List V)(H:Hp)(Q:VK)(u_3:XK):Prop
 |mk (g pt pm:Addr) (n:Nat) (tx:List V) (ts:List bA) (ms:List Int) (_:vs=[.ref g,.ref pm]) (_:H g=some (.tup [.int n,.ref pt])) (_:H pt=some (.lst tx)) (_:Paired (gR H) tx ts) (_:ts.length<=100) (_:(∀t∈ts,0<=t.1/\t.1<t.2/\t.2<(n:Int))) (_:H pm=some (.lst (ms.map V.int))) (_:ms.length=n) (_:n<=10) (_:(∀x∈ms,x=0\/x=1)) (_:∀p pY H',aH H H'->H p=none->H' p=some (.lst (pY.map V.int))->pY.length=n->(∀x∈pY,x=0\/x=1)->(∀v:Int,0<=v->v<(n:Int)->fL pY v=1\/Go.eU (fL pY) ts v=true)->Q (.ref p) H')
def Ţ{ms:List Int}{i:Nat}{x:Int}(il:i<ms.length)(v:Int)(v0:0<=v):fL (ms.set i x) v=if v=(i:Int)then x else fL ms v:=by
 unfold fL;rw[gB,List.getElem?_set,gB];by_cases c:v=(i:Int)
 ·rw[aG c,aG (by omega),aG il];rfl
 ·rw[aB c,aB (by omega)]
def À{mk mk':Int->Int}{ts:List bA}{n:Nat}(h:∀t∈ts,0<=t.1/\t.1<t.2/\t.2<(n:Int))(up:∀u,0<=u->mk u=1->mk' u=1){v:Int}(hn:Go.eU mk ts v=true):Go.eU mk' ts v=true:=by
 obtain⟨t,ht,hc⟩:=Ad.mp hn;rw[oH]at hc;refine Ad.mpr ⟨t,ht,?_⟩;grind
def FQ(B:Bl mg)(Ÿ:Dn K mg "_law_watching" mZ Xw):bh P w K mg base gj 1 Ÿ.f Ÿ.fd Xw (Z9 K):=by
 refine Ÿ.F.ok mq λcZ A outer s H vs Q E hr h=>?_;obtain⟨g,pt,pm,n,tx,ts,ms,rfl,hg,ht,pT,Ř,tb,hm,lm,cU,m01,q⟩:=h;refine⟨_,(aA (bF 2 mq.nd (iC (wG (K:=K) Z) Z B.list (by decide) (J (pv 1) aj)))
   (aA (kY jV Z (jE Z B.range (J (aQ (aM (K:=K) Z) (pv 0) aq) aj)) (aL 3 mq.nd)
   (aA (ud (i:=4) MJ [none,none,some 3] mq.nd Z Z (by kernel_rfl) Z (cX (K:=K) Z (aQ (aM (K:=K) Z) (pv 0) aq)) (λ_ _ _ _ _=>(jy (K:=K) (n:=2) Z Z (bY (aL 0 (show(MJ:List Str).Nodup by decide)) (bY (aL 1 (show(MJ:List Str).Nodup by decide)) jx)))) (λ_ _ _ _ _=>(mV (PW.pt (zK (aJ jb (pv 2) (pv 0)) (uR (aJ jb (pv 2) (pv 1))))))) (λ_ _ _ _ _=>(bC Jl (bC dO (pv 0) (pv 1)) (pv 2))) (by rfl))
   (aD (dN (PW.pt (oM (aJ jb (aQ (bQ (K:=K) Z) (pv 2) (pv 3)) aq) (qM (aJ jb (bK (cQ (K:=K) Z) Z B.len (by decide) (J (jH ["_law_u","_law_whole"] [none,some 2]  (by kernel_rfl) Z (cX (K:=K) Z (pv 4)) (λ_ _ _ _ _=>(aL 0 (show(["_law_u","_law_whole"]:List Str).Nodup by decide))) (λ_ _ _ _ _=>(mV (aJ jb (aQ (bQ (K:=K) Z) (pv 1) (pv 0)) aq))) λ_ _ _ _ _=>(pv 0)) aj)) aq))))
   (aD (Am aq (UG (pv 2) (pv 3) YZ)))
   bR))))
   (aD (bI (pv 2))))),?_⟩
 refine⟨_,Z,pm,_,Z,.inl (bG.of hm),λp1 H1 n1=>?_⟩;refine⟨_,Z,g,_,_,_,Z,Z,cG.of (n1.same _ _ hg),Z,_,Z,by omega,by omega,?_⟩;rw[jO];refine vp (n:=n) (λi σ H'=>∃(o3 o4:Option V) (pY:List Int),σ=[some (.ref g),some (.ref pm),some (.ref p1),o3,o4]/\aH H H'/\H' p1=some (.lst (pY.map V.int))/\pY.length=n/\(∀x∈pY,x=0\/x=1)/\∀v:Int,0<=v->v<(i:Int)->fL pY v=1\/Go.eU (fL pY) ts v=true) ⟨none,none,ms,Z,n1.same,n1.here,lm,m01,λv h0 h1=>by omega⟩ ?_ ?_
 ·rintro i σ H2 hi ⟨o3,o4,pY,rfl,s2,hp1,lm',Á,ok⟩;rw[show(0:Int)+(i:Int)=(i:Int) by omega];refine⟨_,Z,g,_,_,_,Z,Z,cG.of (s2 _ _ hg),Z,pt,Z,⟨_,bG.of (s2 _ _ ht)⟩,Yn tx ts (i:Int) (bG.of (s2 _ _ ht)) (Paired.bU pT λ_ _ h=>gR.same s2 h) (by omega) (λt p H3 N Z98 _ s3 hp hN hM=>?_) λH3 p3 H4 s3 n4=>?_⟩
  ·refine⟨p,_,Z,cG.of hp,Z,_,_,Z,_,_,Z,Z,QD (b1:=decide (V.int (i:Int)=V.int t.1)) (b2:=decide (V.int (i:Int)=V.int t.2)) (λQ h=>⟨_,Z,_,Z,Z,_,Z,h⟩) (λQ h=>⟨_,Z,_,Z,Z,_,Z,h⟩) ?_⟩;by_cases c:(i:Int)=t.1\/(i:Int)=t.2
   ·rw[aG (by rcases c with c|c<;>rw[c]<;>simp)];exact⟨_,Z,_,Z,_,_,Z,Z,_,Z,_,_,Z,Z,hN c⟩
   ·rw[aB (λz=>c (by rw[Uo]at z;exact z.elim (λz=>.inl (V.int.inj (eZ z))) λz=>.inr (V.int.inj (eZ z))))];exact hM c
  have s4:=s2.trans (s3.trans n4.same);have hp4:=(s3.trans n4.same) _ _ hp1;have il:i<pY.length:=by omega
  have ai:=oR (ns:=pY) (k:=(i:Int)) (by omega) (by omega);have mono:∀v:Int,0<=v->v<(i:Int)->fL pY v=1\/Go.eU (fL pY) ts v=true:=ok;have done:(fL pY (i:Int)=1\/Go.eU (fL pY) ts (i:Int)=true)->∀v:Int,0<=v->v<((i+1:Nat):Int)->fL pY v=1\/Go.eU (fL pY) ts v=true:=λh v h0 h1=>by
   by_cases e:v=(i:Int)
   ·rw[e];exact h
   ·exact ok v h0 (by omega)
  have mi:fL pY (i:Int)=0\/fL pY (i:Int)=1:=by
   unfold fL;rw[gB,bV (show(i:Int).toNat<pY.length by omega)];exact Á _ (qy _)
  refine⟨_,Z,_,Z,p1,_,_,_,Z,Z,bG.of hp4,ai,Z,_,Z,tZ (λc=>?_) λc=>cN ⟨_,_,pY,Z,s4,hp4,lm',Á,done (.inl ?_)⟩⟩
  ·have c':fL pY (i:Int)=0:=V.int.inj (eZ c);refine⟨_,Z,p3,Z,⟨_,bG.of n4.here⟩,?_⟩;refine QF (Z8 ts (i:Int)) (λu=>decide (fL pY u=1)) (bG.of n4.here) (by have:=Wo ts (i:Int);omega) (λu H5 N Z98 hu s5 hN hM=>?_) (λH5 p5 H6 s5 n6=>?_)
   ·have bu:=a1O tb hu;refine⟨_,Z,_,Z,p1,_,_,_,Z,Z,bG.of (s5 _ _ hp4),oR bu.1 (by omega),Z,_,Z,tZ (λd=>?_) λd=>?_⟩
    ·exact⟨_,Z,hN (bO (V.int.inj (eZ d)))⟩
    ·exact hM (bJ λz=>d (bO (congrArg V.int z)))
   have s6:=s4.trans (s5.trans n6.same);have hp6:=(s5.trans n6.same) _ _ hp4;refine⟨p5,_,Z,.inl (bG.of n6.here),Z,_,Z,?_⟩;rw[aN];have nn:=Ym (fL pY) ts (i:Int);refine tZ (λd=>?_) (λd=>⟨_,_,pY,Z,s6,hp6,lm',Á,done (.inr ?_)⟩)
   ·refine⟨_,Z,_,Z,p1,_,(i:Int),i,Z,Z,hp6,χ (by rw[aN];exact il),λH7 c7=>?_⟩;have up:∀u,0<=u->fL pY u=1->fL (pY.set i 1) u=1:=λu u0 h=>by
     rw[Ţ il u u0];split
     ·rfl
     ·exact h
    refine⟨_,_,pY.set i 1,Z,s6.chg n1.fresh c7,by rw[c7.here,List.map_set],by rw[List.length_set];exact lm',λx hx=>?_,λv h0 h1=>?_⟩
    ·rcases List.mem_or_eq_of_mem_set hx with z|z
     ·exact Á x z
     ·exact .inr z
    ·by_cases e:v=(i:Int)
     ·rw[e,Ţ il _ (by omega),aG rfl];exact .inl rfl
     ·rcases ok v h0 (by omega)with z|z
      ·exact .inl (up v h0 z)
      ·exact .inr (À tb up z)
   ·refine nn.mp ?_;have d':=λz=>d (bO z);have:¬((((Z8 ts (i:Int)).filter λu=>decide (fL pY u=1)).length:Nat):Int)=0:=λz=>d' (by rw[z]);omega
  ·have c':¬fL pY (i:Int)=0:=λz=>c (bO (congrArg V.int z));exact mi.resolve_left c'
 ·rintro σ H2 ⟨o3,o4,pY,rfl,s2,hp1,lm',Á,ok⟩;exact⟨_,Z,q p1 pY H2 s2 n1.fresh hp1 lm' Á ok⟩
abbrev pZ:Stmt:=top 46
def qU:bD ["_law_kind","_law_bag","_law_ties_here","_law_marks","_law_v","_law_state_here","_law_near"] Rx (aF pZ):={}
def ţ(kd:Int)(mk:Int->Int)(tl:List bA)(v:Int):Int:=if kd<2 then mk v else Go.fW mk tl v
inductive Nt(K:aK)(vs:List V)(H:Hp)(Q:VK)(u_3:XK):Prop
 |mk (pb pt pm:Addr) (n:Nat) (bB:List Int) (tx:List V) (ts:List bA) (ms:List Int) (kd:Int) (_:vs=[.int kd,.ref pb,.ref pt,.ref pm]) (_:H pb=some (.lst (bB.map V.int))) (_:(∀v∈bB,0<=v/\v<(n:Int))) (_:bB.length<=20) (_:H pt=some (.lst tx)) (_:Paired (gR H) tx ts) (_:ts.length<=800) (_:(∀t∈ts,0<=t.1/\t.1<t.2/\t.2<(n:Int))) (_:H pm=some (.lst (ms.map V.int))) (_:ms.length=n) (_:∀p H',aH H H'->uZ H' p (bB.map (ţ kd (fL ms) ts))->Q (.ref p) H')
def Ls(B:Bl mg)(È:Dn K mg "_law_state" pZ Rx):bh P w K mg base gj 1 È.f È.fd Rx (Nt K):=by
 refine È.F.ok qU λcZ A outer s H vs Q E hr h=>?_;obtain⟨pb,pt,pm,n,bB,tx,ts,ms,kd,rfl,hb,bb,b20,ht,pT,a6S,tb,hm,lm,q⟩:=h;refine⟨_,(aA (dN (aJ xV (pv 0) aq)
   (aD (bI (iC mO Z B.tuple (by decide) (J (jH ["_law_v","_law_marks"] [none,some 3]  (by kernel_rfl) Z (cX (K:=K) Z (pv 1)) (λ_ _ _ _ _=>(aL 0 (show(["_law_v","_law_marks"]:List Str).Nodup by decide))) (λ_ _ _ _ _=>gk) λ_ _ _ _ _=>(aQ (bQ (K:=K) Z) (pv 1) (pv 0))) aj))))
   bR)
   (aA (bF 5 qU.nd (cJ aj))
   (aA (kY jV Z (cX (K:=K) Z (pv 1)) (aL 4 qU.nd)
   (aA (ud (i:=6) MJ [none,none,some 4] qU.nd Z Z (by kernel_rfl) Z (cX (K:=K) Z (pv 2)) (λ_ _ _ _ _=>(jy (K:=K) (n:=2) Z Z (bY (aL 0 (show(MJ:List Str).Nodup by decide)) (bY (aL 1 (show(MJ:List Str).Nodup by decide)) jx)))) (λ_ _ _ _ _=>(mV (PW.pt (zK (aJ jb (pv 2) (pv 0)) (uR (aJ jb (pv 2) (pv 1))))))) (λ_ _ _ _ _=>(bC Jl (bC dO (pv 0) (pv 1)) (pv 2))) (by rfl))
   (aD (jw (uX (K:=K) Z qw PySem.F.slot_list_append PySem.F.type_list_append lD (pv 5) (J (bK (LC Z) Z B.max (by decide) (J (bC uU aq (aQ (bQ (K:=K) Z) (pv 3) (pv 4))) (J (iC Yx Z B.int (by decide) (J (sS zL (bK (cQ (K:=K) Z) Z B.len (by decide) (J (jH ["_law_u","_law_marks"] [none,some 3]  (by kernel_rfl) Z (cX (K:=K) Z (pv 6)) (λ_ _ _ _ _=>(aL 0 (show(["_law_u","_law_marks"]:List Str).Nodup by decide))) (λ_ _ _ _ _=>(mV (aJ jb (aQ (bQ (K:=K) Z) (pv 1) (pv 0)) aq))) λ_ _ _ _ _=>(pv 0)) aj)) aq) aj)) aj))) aj))))))
   (aD (bI (iC mO Z B.tuple (by decide) (J (pv 5) aj))))))),?_⟩
 refine⟨_,Z,_,_,Z,Z,_,Z,tZ (λc=>?_) λc=>?_⟩
 ·have c':kd<2:=eZ c;have e0:ţ kd (fL ms) ts=fL ms:=funext λv=>aG c';rw[e0]at q;refine⟨_,Z,pb,Z,⟨_,bG.of hb⟩,qN (K:=K) (a:=pb) (xs:=bB.map V.int) (λi ys H'=>aH H H'/\ys=((bB.take i).map (fL ms)).map V.int) ⟨aH.refl _,Z⟩ (λi ys H' hi ⟨s,e⟩=>⟨bG.of (s _ _ hb),?_⟩) (λi x ys H' hi ⟨s,e⟩=>?_) λys H' ⟨s,e⟩ p1 hp1=>?_⟩
  ·rw[e,aN,aN,dZ];exact dH (cC (by omega))
  ·rw[iW]at hi;obtain⟨v,hv,rfl⟩:=kI.mp hi;have et:bB.take (i+1)=bB.take i++[v]:=by rw[jX,hv];rfl
   have bv:=bb v (jA hv);refine⟨_,Z,_,Z,pm,_,_,_,Z,Z,bG.of (s _ _ hm),oR bv.1 (by omega),s,?_⟩;rw[e,et,dF,dF];rfl
  ·have n1:gV H' p1 (.lst ys) (cO H' p1 (.lst ys)):=gV.oF hp1;generalize cO H' p1 (.lst ys)=H2 at n1 ⊢;rw[aN,gZ]at e;subst e;refine⟨p1,_,Z,.inl ⟨bG.of n1.here,λp2 hp2=>?_⟩⟩;have n2:=gV.oF (H:=H2) (p:=p2) (o:=.tup ((bB.map (fL ms)).map V.int)) hp2;exact q p2 _ (s.trans (n1.same.trans n2.same)) n2.here
 ·have c':¬kd<2:=Ed (tO.mpr c);have e0:ţ kd (fL ms) ts=Go.fW (fL ms) ts:=funext λv=>aB c';rw[e0]at q;refine⟨(by show 0<=1000;decide),λps H1 n1=>?_⟩;refine⟨_,Z,pb,Z,⟨_,bG.of (n1.same _ _ hb)⟩,xU (xs:=bB.map V.int) (λi σ H'=>∃(o5 o6:Option V),σ=[some (.int kd),some (.ref pb),some (.ref pt),some (.ref pm),o5,some (.ref ps),o6]/\aH H H'/\H' ps=some (.lst (((bB.take i).map (Go.fW (fL ms) ts)).map V.int))) ⟨none,none,Z,n1.same,n1.here⟩ (λi σ H' _ ⟨_,_,_,s,_⟩=>bG.of (s _ _ hb)) ?_ ?_⟩
  ·rintro i x σ H2 hi ⟨o5,o6,rfl,s2,hps⟩;rw[iW]at hi;obtain⟨v,hv,rfl⟩:=kI.mp hi;have et:bB.take (i+1)=bB.take i++[v]:=by rw[jX,hv];rfl
   have bv:=bb v (jA hv);refine⟨_,Z,pt,Z,⟨_,bG.of (s2 _ _ ht)⟩,Yn tx ts v (bG.of (s2 _ _ ht)) (Paired.bU pT λ_ _ h=>gR.same s2 h) (by omega) (λt p H3 N Z98 _ s3 hp hN hM=>?_) λH3 p3 H4 s3 n4=>?_⟩
   ·refine⟨p,_,Z,cG.of hp,Z,_,_,Z,_,_,Z,Z,QD (b1:=decide (V.int v=V.int t.1)) (b2:=decide (V.int v=V.int t.2)) (λQ h=>⟨_,Z,_,Z,Z,_,Z,h⟩) (λQ h=>⟨_,Z,_,Z,Z,_,Z,h⟩) ?_⟩;by_cases c:v=t.1\/v=t.2
    ·rw[aG (by rcases c with c|c<;>rw[c]<;>simp)];exact⟨_,Z,_,Z,_,_,Z,Z,_,Z,_,_,Z,Z,hN c⟩
    ·rw[aB (λz=>c (by rw[Uo]at z;exact z.elim (λz=>.inl (V.int.inj (eZ z))) λz=>.inr (V.int.inj (eZ z))))];exact hM c
   have s4:=s2.trans (s3.trans n4.same);have hp4:=(s3.trans n4.same) _ _ hps;refine⟨_,Z,.inl ⟨Z,_,bG.of hp4⟩,_,Z,_,Z,pm,_,_,_,Z,Z,bG.of (s4 _ _ hm),oR bv.1 (by omega),_,_,Z,Z,.inl ⟨by decide,by decide⟩,⟨_,Z,p3,Z,⟨_,bG.of n4.here⟩,?_⟩⟩;refine QF (Z8 ts v) (λu=>decide (fL ms u=1)) (bG.of n4.here) (by have:=Wo ts v;omega) (λu H5 N Z98 hu s5 hN hM=>?_) (λH5 p5 H6 s5 n6=>?_)
   ·have bu:=a1O tb hu;refine⟨_,Z,_,Z,pm,_,_,_,Z,Z,bG.of ((s4.trans s5) _ _ hm),oR bu.1 (by omega),Z,_,Z,tZ (λd=>?_) λd=>?_⟩
    ·exact⟨_,Z,hN (bO (V.int.inj (eZ d)))⟩
    ·exact hM (bJ λz=>d (bO (congrArg V.int z)))
   have s6:=s4.trans (s5.trans n6.same);have hp6:=(s5.trans n6.same) _ _ hp4;refine⟨p5,_,Z,.inl (bG.of n6.here),_,_,Z,Z,.inr ⟨_,Z,?_⟩⟩;rw[aN];refine⟨_,_,Z,ps,_,_,Z,Z,hp6,(by rw[aN,aN,dZ];omega),λH7 c7=>⟨_,_,Z,s6.chg n1.fresh c7,?_⟩⟩;rw[c7.here,et,dF,dF];have en:decide (((((Z8 ts v).filter λu=>decide (fL ms u=1)).length:Nat):Int)>0)=Go.eU (fL ms) ts v:=by
    rw[rU,dY];exact Ym (fL ms) ts v
   rw[en];have ev:(if(if Go.eU (fL ms) ts v=true then(1:Int)else 0)>2*ms.getD v.toNat 0 then(if Go.eU (fL ms) ts v=true then(1:Int)else 0)else 2*ms.getD v.toNat 0)=Go.fW (fL ms) ts v:=by
    show _=max (2*fL ms v) (if Go.eU (fL ms) ts v=true then 1 else 0);unfold fL;split<;>omega
   rw[ev];rfl
  ·rintro σ H2 ⟨o5,o6,rfl,s2,hps⟩;rw[aN,gZ]at hps;refine⟨_,Z,ps,_,Z,.inl ⟨bG.of hps,λp2 hp2=>?_⟩⟩;have n2:=gV.oF (H:=H2) (p:=p2) (o:=.tup ((bB.map (Go.fW (fL ms) ts)).map V.int)) hp2;exact q p2 _ (s2.trans n2.same) n2.here
abbrev qL:Stmt:=top 47
def yF:bD ["_law_found","_law_state_here","_law_row_here","_law_one"] Ry (aF qL):={}
def a5y:PySem.W.kitOne K (.type "tuple") (.type "tuple")=some true:=by rfl
def Ť:PySem.W.kitOne K (.type "list") (.type "list")=some true:=by rfl
def a5z:PySem.W.kitOne K (.type "dict") (.type "dict")=some true:=by rfl
def ť{H:Hp}{s:dD}{r:fH}{O:List (List Key×V)}(p:ZL H O T)(h:ug T s=some r):∃v,iJ O (wJ s)=some v/\ŀ H v r:=by
 induction p with
 |nil=>cases h
 | @cons p q O T hq t ih =>
  obtain⟨k,v⟩:=p;obtain⟨s',r'⟩:=q;obtain⟨e,hr⟩:=hq;have e:k=wJ s':=e;subst e;rw[Go.qK]at h;unfold iJ;by_cases c:s'=s
  ·grind
  ·rw[aB c]at h;rw[xj (by exact λz=>c (CQ (eZ z)))];exact ih h
inductive Yo(K:aK)(vs:List V)(H:Hp)(Q:VK)(u_3:XK):Prop
 |mk (t a:Addr) (O:List (List Key×V)) (T:cD) (s:dD) (r:fH) (_:vs=[.ref t,.ref a]) (_:H t=some (.dT O)) (_:ZL H O T) (_:uZ H a s) (_:ug T s=some r) (_:∀p H',aH H H'->H' p=some (.tup [.int r.m,.int r.b])->Q (.ref p) H')
def SM(B:Bl mg)(Â:Dn K mg "_law_row" qL Ry):bh P w K mg base gj 1 Â.f Â.fd Ry (Yo K):=by
 refine Â.F.ok yF λcZ A outer s H vs Q E hr h=>?_;obtain⟨t,a,O,T,st,r,rfl,ht,hT,ha,hr0,q⟩:=h;obtain⟨v,e1,pr,rfl,hp⟩:=ť hT hr0;have hw1:(A.deeper (PyProof.Rows.envOfC "_law_row" (aF qL) s.heap.objs.size Â.f cZ)).units+1<cLine:=by have:=hr.un;omega
 refine⟨_,(aA (dN (PW.pt (zK (wj (gw (K:=K) Z (bK (jQ (K:=K) Z) Z B.isinstance (by decide) (J (pv 0) (J (wg (v:=.ty "dict") (u:=.type "dict") Z B.dict (by decide) Z) aj))) λ_=>rfl)) (uR (aJ (Zg hw1) (pv 1) (pv 0) (by with_unfolding_all rfl)))))
   (aD (bI oK))
   bR)
   (aA (bF 2 yF.nd (Qc hw1 (pv 0) (pv 1) λ_ _=>rfl))
   (aA (dN (PW.pt (zK (wj (gw (K:=K) Z (bK (jQ (K:=K) Z) Z B.isinstance (by decide) (J (pv 2) (J (wg (v:=.ty "tuple") (u:=.type "tuple") Z B.tuple (by decide) Z) aj))) λ_=>rfl)) (uR (aJ FZ (bK (cQ (K:=K) Z) Z B.len (by decide) (J (pv 2) aj)) aq))))
   (aD (bI oK))
   bR)
   (aA (kY jV Z (Cq (K:=K) Z (pv 2)) (aL 3 yF.nd)
   (aD (dN (PW.pt (zK (wj (gw (K:=K) Z (bK (jQ (K:=K) Z) Z B.isinstance (by decide) (J (pv 3) (J (wg (v:=.ty "int") (u:=.type "int") Z B.int (by decide) Z) aj))) λ_=>rfl)) (uR (gw (K:=K) Z (bK (jQ (K:=K) Z) Z B.isinstance (by decide) (J (pv 3) (J (wg (v:=.ty "bool") (u:=.type "bool") Z B.bool (by decide) Z) aj))) λ_=>rfl))))
   (aD (bI oK))
   bR)))
   (aD (bI (pv 2))))))),?_⟩
 refine QD (b1:=false) (b2:=false) (λQ h=>⟨_,Z,_,_,_,_,_,Z,Z,sU.dT ht,a5z,_,Z,h⟩) (λQ h=>⟨_,Z,_,Z,a,t,wJ st,O,Z,Z,ha.key,ht,_,Z,by rw[e1];exact h⟩) (cN ?_);refine⟨_,Z,_,Z,t,.ref pr,Z,by rw[<-e1];exact GF.t ht ha.key,?_⟩;refine⟨_,Z,_,_,_,_,_,Z,Z,sU.tup hp,a5y,_,Z,cN ⟨_,Z,pr,_,Z,.inr (cG.of hp),Z,_,Z,cN ⟨_,Z,pr,Z,⟨_,cG.of hp⟩,?_⟩⟩⟩;refine Ζ (xs:=[.int r.m,.int r.b]) (λi σ H'=>(∃o3,σ=[some (.ref t),some (.ref a),some (.ref pr),o3])/\H'=H) ⟨⟨_,Z⟩,Z⟩ (λi σ H' _ ⟨_,e⟩=>by rw[e];exact cG.of hp) ?_ ?_
 ·rintro i x σ H' hx ⟨⟨o3,rfl⟩,rfl⟩;have hx':∃z,x=.int z:=by
   match i,hx with
   |0,h=>exact⟨_,(gh h).symm⟩
   |1,h=>exact⟨_,(gh h).symm⟩
   |_+2,h=>cases h
  obtain⟨z,rfl⟩:=hx';exact⟨_,Z,_,_,_,_,_,Z,Z,sU.int _,Ge,_,Z,cN ⟨_,Z,_,_,_,_,_,Z,Z,sU.int _,Cp,_,Z,cN ⟨⟨_,Z⟩,Z⟩⟩⟩
 ·rintro σ H' ⟨⟨o3,rfl⟩,rfl⟩;exact⟨_,Z,q pr H' (aH.refl _) hp⟩
namespace Go
section
variable{n:Nat}{ts:List bA}{ss:List aU}{wm:Int->Int}
def a3K(R:FN n ts ss):∀k,k<ss.length->∀t∈(jM wm n ts ss k).1,t∈ts:=by
 intro k
 induction k using Nat.strongRecOn with
 |_ k ih =>
  intro kl t ht;have hs:=bV kl;have B:=R.sb k _ hs;generalize ss[k]=s at hs B;cases B with
  |leaf ef _=>rw[Dj hs ef]at ht;cases ht
  | @inn i v ef lt _ _ _ _ _=>rw[Fz hs ef lt]at ht;exact ih i lt (by omega) t ht
  | @tie i a b ef lt hab _ _ _ =>
   rw[Bw hs ef lt]at ht;rcases b7.mp ht with z|z
   ·exact ih i lt (by omega) t z
   ·rw[bw.mp z];exact hab
  | @out i v ef lt _ _ _=>rw[FJ hs ef lt]at ht;exact ih i lt (by omega) t ht
  | @join i j ef lt lt' _ _ =>
   rw[wM hs ef lt lt']at ht;rcases b7.mp ht with z|z
   ·exact ih j lt' (by omega) t z
   ·exact ih i lt (by omega) t z
theorem Ŧ(R:FN n ts ss):∀i,i<=ss.length->((aP n ts ss i).1.pile.map λj=>(jM wm n ts ss j).1.length).sum<=i
 |0,_=>aO _
 |i+1,il=>by
  have ih:=Ŧ R i (by omega)
  have hs:=bV (show i<ss.length by omega)
  have E:=R.se i _ hs
  have B:=R.sb i _ hs
  have fd:=E.feed
  have e3:((aP n ts ss i).1.pile.map λj=>(jM wm n ts ss j).1.length).sum=(((aP n ts ss i).1.pile.take (dh ss[i] (aP n ts ss i).1)).map λj=>(jM wm n ts ss j).1.length).sum+((yw n ts ss i).map λj=>(jM wm n ts ss j).1.length).sum:=by
   rw[fd,<-Ja,<-dF,rR]
  rw[E.pile,dF,Ja]
  have e4:([i].map λj=>(jM wm n ts ss j).1.length).sum=(jM wm n ts ss i).1.length:=by
   grind
  have le:(jM wm n ts ss i).1.length<=((yw n ts ss i).map λj=>(jM wm n ts ss j).1.length).sum+1:=by
   generalize ss[i]=s at hs B
   cases B with
   |leaf ef _=>rw[Dj hs ef];exact dI _
   | @inn i' v ef lt _ _ _ _ _=>rw[Fz hs ef lt,ef,zV,zW];omega
   | @tie i' a b ef lt hab _ _ _=>rw[Bw hs ef lt,ef,zV,zW];grind
   | @out i' v ef lt _ _ _=>rw[FJ hs ef lt,ef,zV,zW];grind
   | @join i' j ef lt lt' _ _=>rw[wM hs ef lt lt',ef,bW,cL,uQ,zV,zW];omega
  grind
def Wq(R:FN n ts ss){k:Nat}(kl:k<ss.length):(jM wm n ts ss k).1.length<=k+1:=by
 have h:=Ŧ (wm:=wm) R (k+1) (by omega);have hs:=bV kl;rw[(R.se k _ hs).pile,dF,Ja]at h;grind
end
end Go
abbrev zy:Stmt:=top 48
def dz:bD ["_law_kind","_law_steps","_law_told","_law_weights","_law_marks","_law_pile","_law_k","_law_step","_law_bag","_law_ties_here","_law_amount","_law_mate","_law_row_here"] Xx (aF zy):={}
namespace Up
def Dz(s:aU){i:Nat}(hi:i<5):decide (V.str s.word=V.str (Gr i))=decide (s.tag=i):=by
 have h:=JR s.tag (V3 s) i hi;rw[JS];grind
def KH(s:aU):decide (V.str s.word=V.str "leaf")=decide (s.tag=0):=Dz s (i:=0) (by decide)
def ŧ(s:aU):decide (V.str s.word=V.str "in")=decide (s.tag=1):=Dz s (i:=1) (by decide)
def SN(s:aU):decide (V.str s.word=V.str "tie")=decide (s.tag=2):=Dz s (i:=2) (by decide)
def SQ(s:aU):decide (V.str s.word=V.str "out")=decide (s.tag=3):=Dz s (i:=3) (by decide)
def KJ(s:aU):decide (V.str s.word=V.str "join")=decide (s.tag=4):=Dz s (i:=4) (by decide)
inductive vR(pp:Addr)(H:Hp)(v:V)(b:List Int)(x:List bA×Int):Prop
 |mk (p pb pt:Addr) (tx:List V) (_:v=.ref p) (_:H p=some (.tup [.ref pb,.ref pt,.int x.2])) (_:H pb=some (.lst (b.map V.int))) (_:H pt=some (.lst tx)) (_:Paired (gR H) tx x.1) (_:pb≠pp) (_:pt≠pp)
def vR.same{pp:Addr}{H H':Hp}{v:V}{b:List Int}{x:List bA×Int}(s:aH H H')(h:vR pp H v b x):vR pp H' v b x:=by
 obtain⟨p,pb,pt,tx,e,h1,h2,h3,h4,h5,h6⟩:=h;exact⟨p,pb,pt,tx,e,s _ _ h1,s _ _ h2,s _ _ h3,Paired.bU h4 λ_ _ z=>gR.same s z,h5,h6⟩
def vR.chg{pp:Addr}{H H':Hp}{xs ys:List V}{v:V}{b:List Int}{x:List bA×Int}(hl:H pp=some (.lst xs))(c:wF H pp (.lst ys) H')(h:vR pp H v b x):vR pp H' v b x:=by
 obtain⟨p,pb,pt,tx,e,h1,h2,h3,h4,h5,h6⟩:=h;exact⟨p,pb,pt,tx,e,(c.rest p λz=>by grind).trans h1,(c.rest pb h5).trans h2,(c.rest pt h6).trans h3,Paired.bU h4 λ_ _ z=>z.chg hl c,h5,h6⟩
end Up
inductive DG(H:Hp)(kd:Int)(pS pT pw pm pp:Addr)(i:Nat)(sW:Addr)(n:Nat)(ts:List bA)(ss:List aU)(wm:Int->Int)(b:List Int)(tl:List bA)(am:Int)(pl:List Nat)(σ:St)(G:Hp):Prop
 |mk (pb pt:Addr) (tx es:List V) (Gz DQ:Option V) (_:σ=[some (.int kd),some (.ref pS),some (.ref pT),some (.ref pw),some (.ref pm),some (.ref pp),some (.int (i:Int)),some (.ref sW),some (.ref pb),some (.ref pt),some (.int am),Gz,DQ]) (_:aH H G) (_:G pp=some (.lst es)) (_:Paired (λv j=>Up.vR pp G v (Go.fO n ts ss j) (Go.jM wm n ts ss j)) es pl) (_:G pb=some (.lst (b.map V.int))) (_:G pt=some (.lst tx)) (_:Paired (gR G) tx tl) (_:pb≠pp) (_:pt≠pp)
def Wr{n:Nat}(cU:n<=10){b:List Int}{v:Int}(ab:b.Pairwise (· < ·))(hb:∀v∈b,0<=v/\v<(n:Int))(v0:0<=v)(vn:v<(n:Int))(nv:v∉b)(pz:zs.Perm (b++[v]))(sz:zs.Pairwise (· <= ·)):zs=dJ b [v]:=by
 have nd:zs.Nodup:=pz.nodup_iff.mpr (vX.mpr ⟨Go.yx ab,zQ _ _,λx hx y hy e=>nv (by grind)⟩);have az:zs.Pairwise (· < ·):=(List.pairwise_and_iff.mpr ⟨sz,nd⟩).imp λh=>by omega
 refine Go.uL az (Go.uM _) λx=>?_;rw[pz.mem_iff,b7];exact(Go.iY cU hb λy hy=>by grind).symm
def a3L(K:aK):TS:=Ž (Δ (WT (Yo K) [] E0 (uH (WM (a2k K) (tX 2) (tX 6)) (uH (WT (Nt K) [] E0 (uH (tX 0) (uH (tX 8) (uH (tX 9) (uH (tX 4) YC))))) YC))) (QS 12))
 (Ž (Α (tOr (Jm (WM (λx y H Q=>y=V.non/\Q (V.bl (decide (x=V.non))) H) (tX 12) (tC V.non))) (Jm (WM (Þ λi j=>V.bl (decide (i<j))) (WM (ê K) (tX 12) (tC (V.int 0))) (tC (V.int 1))))) (ž (tC (V.bl false))) Wz)
 (Ž (Α (tOr (ż (Jm (WM rEq (tX 0) (tC (V.int 1)))) (Jm (WM (Þ λi j=>V.bl (decide (i<j))) (WM (ê K) (tX 12) (tC (V.int 1))) (tX 10)))) (ż (Jm (WM rNe (tX 0) (tC (V.int 1)))) (Jm (WM (Þ λi j=>V.bl (decide (j<i))) (WM (ê K) (tX 12) (tC (V.int 1))) (tX 10))))) (ž (tC (V.bl false))) Wz)
 (a1z (tBM K "list" a1C (tX 5) (uH (ý (uH (tX 8) (uH (tX 9) (uH (tX 10) YC)))) YC)))))
inductive Ws(kd:Int)(ms:List Int)(wm:Int->Int)(n:Nat)(ts:List bA)(ss:List aU)(T:cD)(k:Nat):Prop
 |mk (r:_) (_:ug T ((Go.fO n ts ss k).map (ţ kd (fL ms) (Go.jM wm n ts ss k).1))=some r) (_:1<=r.m) (_:(kd=1->(Go.jM wm n ts ss k).2<=r.b)) (_:(kd≠1->r.b<=(Go.jM wm n ts ss k).2))
def fM(ws ms:List Int)(v:Int):Int:=ws.getD v.toNat 0*fL ms v
inductive Ũ(K:aK)(vs:List V)(H:Hp)(Q:VK)(u_3:XK):Prop
 |mk (pS pT pw pm:Addr) (xs yt:List V) (ss:List aU) (Ts:List cD) (ws ms:List Int) (n:Nat) (ts:List bA) (kd:Int) (_:vs=[.int kd,.ref pS,.ref pT,.ref pw,.ref pm]) (_:H pS=some (.lst xs)) (_:Paired (sH H) xs ss) (_:ss.length<=800) (_:H pT=some (.lst yt)) (_:Paired (Wa H) yt Ts) (_:Ts.length=ss.length) (_:H pw=some (.lst (ws.map V.int))) (_:ws.length=n) (_:(∀x∈ws,0<=x/\x<10^30)) (_:H pm=some (.lst (ms.map V.int))) (_:ms.length=n) (_:(∀x∈ms,0<=x/\x<10)) (_:Go.FN n ts ss) (_:(∀t∈ts,0<=t.1/\t.1<t.2/\t.2<(n:Int))) (_:(∀k,k<ss.length->Ws kd ms (fM ws ms) n ts ss (Ts.getD k []) k)) (_:∀H',aH H H'->Q (.bl true) H')
def mL{A B:TS}{D:Ends}{H:Hp}(ht:∀Q:Bool->Hp->Prop,Q false H->tt σ H Q)(h:B D σ H):a4s (Α tt A Wz) B D σ H :=
 ⟨λσ' H'=>σ'=σ/\H'=H,ht _ (cN ⟨Z,Z⟩),λ_ _ e=>by rw[e.1,e.2];exact h⟩
def Wt(B:Bl mg)(Â:Dn K mg "_law_row" qL Ry)(È:Dn K mg "_law_state" pZ Rx)(Ź:Dn K mg "_law_up" zy Xx):bh P w K mg base gj 2 Ź.f Ź.fd Xx (Ũ K):=by
 have gZ3:bh P w K mg base gj 1 _ _ _ _:=SM B Â;have gZ5:bh P w K mg base gj 1 _ _ _ _:=Ls B È;refine Ź.F.ok dz λcZ A outer s H vs Q E hr h=>?_;obtain⟨pS,pT,pw,pm,xs,yt,ss,Ts,ws,ms,n,ts,kd,rfl,hS,qS,l8,hT,qT,lT,hw,lw,wb,hm,lm,mb,R,tb,fj,q⟩:=h;refine⟨_,(aA (bF 5 dz.nd (cJ aj))
   (aA (kY jV Z (jE Z B.range (J (bK (cQ (K:=K) Z) Z B.len (by decide) (J (pv 1) aj)) aj)) (aL 6 dz.nd)
   (aA (bF 7 dz.nd (aQ (bQ (K:=K) Z) (pv 1) (pv 6)))
   (aA (bF 8 dz.nd (cJ aj))
   (aA (bF 9 dz.nd (cJ aj))
   (aA (bF 10 dz.nd aq)
   (j4 (dN (aJ FZ (aQ (aM (K:=K) Z) (pv 7) aq) gJ)
   (aD (Am (wD (K:=K) Z qw TQ TV HN (pv 5)) (jy (K:=K) (n:=3) Z Z (bY (aL 8 dz.nd) (bY (aL 9 dz.nd) (bY (aL 10 dz.nd) jx))))))
   bR)
   (j4 (dN (aJ jb (aQ (aM (K:=K) Z) (pv 7) aq) gJ)
   (aA (bF 11 dz.nd (wD (K:=K) Z qw TQ TV HN (pv 5)))
   (aA (bF 9 dz.nd (bC lU (pv 9) (aQ (aM (K:=K) Z) (pv 11) aq)))
   (aD (bF 10 dz.nd (bC dO (pv 10) (aQ (aM (K:=K) Z) (pv 11) aq))))))
   bR)
   (j4 (dN (aJ jb (aQ (aM (K:=K) Z) (pv 7) aq) gJ)
   (aD (bF 8 dz.nd (bK (CK (K:=K) Z) Z B.sorted (by decide) (J (bC lU (pv 8) (cJ (J (aQ (aM (K:=K) Z) (pv 7) aq) aj))) aj))))
   bR)
   (j4 (dN (aJ jb (aQ (aM (K:=K) Z) (pv 7) aq) gJ)
   (aD (bF 9 dz.nd (bC lU (pv 9) (cJ (J (bx (J (aQ (aM (K:=K) Z) (pv 7) aq) (J (aQ (aM (K:=K) Z) (pv 7) aq) aj))) aj)))))
   bR)
   (j4 (dN (aJ jb (aQ (aM (K:=K) Z) (pv 7) aq) gJ)
   (aA (ud (i:=8) ["_law_v","_law_step"] [none,some 7] dz.nd Z Z (by kernel_rfl) Z (cX (K:=K) Z (pv 8)) (λ_ _ _ _ _=>(aL 0 (show(["_law_v","_law_step"]:List Str).Nodup by decide))) (λ_ _ _ _ _=>(mV (aJ FZ (pv 0) (aQ (aM (K:=K) Z) (pv 1) aq)))) (λ_ _ _ _ _=>(pv 0)) (by rfl))
   (aD (bF 10 dz.nd (bC dO (pv 10) (bC XQ (aQ (bQ (K:=K) Z) (pv 3) (aQ (aM (K:=K) Z) (pv 7) aq)) (aQ (bQ (K:=K) Z) (pv 4) (aQ (aM (K:=K) Z) (pv 7) aq)))))))
   bR)
   (aA (bF 12 dz.nd (bf gZ3 hr Z Â.m Â.F.kp Â.b .nil b8 (J (aQ (bQ (K:=K) Z) (pv 2) (pv 6)) (J (bf gZ5 hr Z È.m È.F.kp È.b .nil b8 (J (pv 0) (J (pv 8) (J (pv 9) (J (pv 4) aj))))) aj))))
   (aA (dN (PW.pt (zK (aJ UW (pv 12) oK) (uR (aJ xV (aQ (aM (K:=K) Z) (pv 12) aq) aq))))
   (aD (bI Wy))
   bR)
   (aA (dN (PW.pt (zK (PW.pt (oM (aJ jb (pv 0) aq) (qM (aJ xV (aQ (aM (K:=K) Z) (pv 12) aq) (pv 10))))) (uR (PW.pt (oM (aJ FZ (pv 0) aq) (qM (aJ zL (aQ (aM (K:=K) Z) (pv 12) aq) (pv 10))))))))
   (aD (bI Wy))
   bR)
   (aD (jw (uX (K:=K) Z qw PySem.F.slot_list_append PySem.F.type_list_append lD (pv 5) (J (bx (J (pv 8) (J (pv 9) (J (pv 10) aj)))) aj)))))))))))))))))
   (aD (bI Wy)))),?_⟩
 refine⟨(by show 0<=1000;decide),λpp H1 n1=>?_⟩;have fpp:H pp=none:=n1.fresh;have lx:=aY qS;have tp:=Go.Kq R.cU R.sb;have t20:∀j,j<ss.length->(Go.fO n ts ss j).length<=20:=λj hj=>cW (a5q R.cU (Go.yx (tp j hj).1) (tp j hj).2) (by decide);refine⟨_,Z,pS,_,Z,.inl (bG.of (n1.same _ _ hS)),_,Z,by omega,by omega,?_⟩;rw[jO];refine vp (n:=xs.length) (λi σ G=>∃(es:List V) (o6 o7 o8 o9 o10 Gz DQ:Option V),σ=[some (.int kd),some (.ref pS),some (.ref pT),some (.ref pw),some (.ref pm),some (.ref pp),o6,o7,o8,o9,o10,Gz,DQ]/\aH H G/\G pp=some (.lst es)/\Paired (λv j=>Up.vR pp G v (Go.fO n ts ss j) (Go.jM (fM ws ms) n ts ss j)) es (aP n ts ss i).1.pile) ⟨[],_,_,_,_,_,_,_,Z,n1.same,n1.here,.nil⟩ ?_ ?_
 ·rintro i σ G0 hi ⟨es,o6,o7,o8,o9,o10,Gz,DQ,rfl,sG0,SX,pP0⟩;rw[show(0:Int)+(i:Int)=(i:Int) by omega];have kl:i<ss.length:=by omega
  have hs:=bV kl;have SB:=R.sb i _ hs;have SE:=R.se i _ hs;obtain⟨vx,hvx,sW,rfl,hst⟩:=fu qS hs;refine⟨_,Z,_,Z,pS,_,_,_,Z,Z,bG.of (sG0 _ _ hS),eV hvx,(by show 0<=1000;decide),λpb G1 m1=>⟨(by show 0<=1000;decide),λpt G2 m2=>?_⟩⟩;have s02:=m1.same.trans m2.same;have n8:pb≠pp:=λz=>by have:=m1.fresh;rw[z,SX]at this;cases this
  have n9:pt≠pp:=λz=>by have:=m2.fresh;rw[z,m1.same _ _ SX]at this;cases this
  have sG:=sG0.trans s02;have mR:=s02 _ _ SX;have pP:=Paired.bU pP0 λ_ _ z=>z.same s02;have fin:∀{b:List Int}{tl:List bA}{am:Int}{pl:List Nat}{pb pt:Addr}{tx es:List V}{Gz DQ:Option V}{G:Hp}{D:Ends},Go.fO n ts ss i=b->Go.jM (fM ws ms) n ts ss i=(tl,am)->(aP n ts ss (i+1)).1.pile=pl++[i]->aH H G->G pp=some (.lst es)->Paired (λv j=>Up.vR pp G v (Go.fO n ts ss j) (Go.jM (fM ws ms) n ts ss j)) es pl->G pb=some (.lst (b.map V.int))->G pt=some (.lst tx)->Paired (gR G) tx tl->pb≠pp->pt≠pp->(∀(es':List V) (DQ:Option V) (G':Hp),aH H G'->G' pp=some (.lst es')->Paired (λv j=>Up.vR pp G' v (Go.fO n ts ss j) (Go.jM (fM ws ms) n ts ss j)) es' (aP n ts ss (i+1)).1.pile->D.nx [some (.int kd),some (.ref pS),some (.ref pT),some (.ref pw),some (.ref pm),some (.ref pp),some (.int (i:Int)),some (.ref sW),some (.ref pb),some (.ref pt),some (.int am),Gz,DQ] G')->a3L K D [some (.int kd),some (.ref pS),some (.ref pT),some (.ref pw),some (.ref pm),some (.ref pp),some (.int (i:Int)),some (.ref sW),some (.ref pb),some (.ref pt),some (.int am),Gz,DQ] G:=by
   intro b tl am pl pb pt tx es Gz DQ G D e1 e2 pil sG mR pP hb ht qt nb nt hD;obtain⟨r,hr0,r1,c1,c2⟩:=fj i kl;rw[e1,e2]at hr0;rw[e2]at c1 c2;have hTi:Ts[i]?=some (Ts.getD i []):=by rw[gB,bV (show i<Ts.length by omega)];rfl
   obtain⟨vT,hvT,pk,O,rfl,hk,hWW⟩:=fu qT hTi;have lpl:pl.length<=i:=by
    have:=(jR R.cU (R.go (i+1) (by omega))).pl;rw[pil,bW,DW]at this;omega
   have les:=aY pP;have bb:∀x∈b,0<=x/\x<(n:Int):=by have:=(tp i kl).2;rw[e1]at this;exact this
   have b20:(b).length<=20:=by have:=t20 i kl;rw[e1]at this;exact this
   have tln:(tl).length<=800:=by have:=Go.Wq (wm:=fM ws ms) R kl;rw[e2]at this;exact cW this (by omega)
   have tbd:∀t∈tl,0<=t.1/\t.1<t.2/\t.2<(n:Int):=λt ht'=>tb t (Go.a3K (wm:=fM ws ms) R i kl t (by rw[e2];exact ht'));refine⟨_,Z,_,Z,pT,_,_,_,Z,Z,bG.of (sG _ _ hT),eV hvT,_,Z,_,Z,_,Z,_,Z,⟨pb,pt,pm,n,b,tx,tl,ms,kd,Z,hb,bb,b20,ht,qt,tln,tbd,sG _ _ hm,lm,λpz G3 s3 hz=>⟨pk,pz,O,Ts.getD i [],_,r,Z,(sG.trans s3) _ _ hk,Paired.bU hWW λ_ _ z=>⟨z.1,z.2.keep (.of (sG.trans s3))⟩,hz,hr0,λpr G4 s4 hr4=>⟨_,Z,Z,_,Z,cN ⟨_,Z,pr,_,0,.int r.m,Z,Z,cG.of hr4,Z,_,_,Z,Z,_,Z,?_⟩⟩⟩⟩⟩;rw[bJ (show ¬r.m<1 by omega)];refine cN ?_;have V6:=s3.trans s4;have a1u:=V6 _ _ mR;have app:∀(G6:Hp) (p5:Addr) (G5:Hp),gV G4 p5 (.tup [.ref pb,.ref pt,.int am]) G5->wF G5 pp (.lst (es++[.ref p5])) G6->aH H G6/\G6 pp=some (.lst (es++[.ref p5]))/\Paired (λv j=>Up.vR pp G6 v (Go.fO n ts ss j) (Go.jM (fM ws ms) n ts ss j)) (es++[.ref p5]) (aP n ts ss (i+1)).1.pile:=λG6 p5 G5 n5 c6=>by
    have s5:=V6.trans n5.same;have ĺ:=s5 _ _ mR;refine⟨(sG.trans s5).chg fpp c6,c6.here,?_⟩;rw[pil];refine cV (Paired.bU pP λ_ _ z=>Up.vR.chg ĺ c6 (Up.vR.same s5 z)) (Up.vR.chg ĺ c6 ⟨p5,pb,pt,tx,Z,?_,?_,s5 _ _ ht,?_,nb,nt⟩)
    ·rw[e2];exact n5.here
    ·rw[e1];exact s5 _ _ hb
    ·rw[e2];exact Paired.bU qt λ_ _ z=>gR.same s5 z
   refine⟨_,Z,Z,_,Z,?_⟩;by_cases k1:kd=1
   ·rw[bO (show V.int kd=V.int 1 by rw[k1])];refine gQ ⟨_,Z,pr,_,1,.int r.b,Z,Z,cG.of hr4,Z,_,Z,_,_,Z,Z,_,Z,?_⟩;rw[bJ (show ¬r.b<am by have:am<=r.b:=c1 k1;omega)];refine cN ⟨_,Z,Z,_,Z,?_⟩;rw[show(!decide (V.int kd=V.int 1))=false by rw[k1];simp];refine cN (cN ⟨_,Z,.inl ⟨Z,_,bG.of a1u⟩,_,Z,_,Z,_,Z,(by show 3<=1000;decide),λp5 G5 n5=>⟨pp,_,_,Z,Z,n5.same _ _ a1u,(by omega),λG6 c6=>?_⟩⟩);obtain⟨a1,a2,a3⟩:=app G6 p5 G5 n5 c6;exact hD _ _ _ a1 a2 a3
   ·rw[bJ (show ¬V.int kd=V.int 1 from λz=>k1 (V.int.inj z))];refine cN (cN ⟨_,Z,Z,_,Z,?_⟩);rw[show(!decide (V.int kd=V.int 1))=true by rw[bJ (show ¬V.int kd=V.int 1 from λz=>k1 (V.int.inj z))];rfl];refine gQ ⟨_,Z,pr,_,1,.int r.b,Z,Z,cG.of hr4,Z,_,Z,_,_,Z,Z,_,Z,?_⟩;rw[bJ (show ¬am<r.b by have:r.b<=am:=c2 k1;omega)];refine cN ⟨_,Z,.inl ⟨Z,_,bG.of a1u⟩,_,Z,_,Z,_,Z,(by show 3<=1000;decide),λp5 G5 n5=>⟨pp,_,_,Z,Z,n5.same _ _ a1u,(by omega),λG6 c6=>?_⟩⟩;obtain⟨a1,a2,a3⟩:=app G6 p5 G5 n5 c6;exact hD _ _ _ a1 a2 a3
  have split:=rR (dh ss[i] (aP n ts ss i).1) (aP n ts ss i).1.pile;rw[<-SE.feed]at split;have pil:=SE.pile;generalize (aP n ts ss i).1.pile.take (dh ss[i] (aP n ts ss i).1)=tG at split pil;generalize ss[i]=st at hs SB hst;cases SB with
  |leaf ef et =>
    rw[ef]at split;rw[<-split,mD]at pP;have hb:G2 pb=some (.lst (([]:List Int).map V.int)):=m2.same _ _ m1.here;obtain⟨tx,htx⟩:∃tx:List V,tx=[]:=⟨_,Z⟩;have ht:G2 pt=some (.lst tx):=by rw[htx];exact m2.here
    have qt:Paired (gR G2) tx []:=by rw[htx];exact .nil
    have nb:=n8;have nt:=n9;clear m1 m2 s02 SX pP0 sG0;generalize G2=G at sG mR pP hb ht qt ⊢;refine⟨(DG H kd pS pT pw pm pp i sW n ts ss (fM ws ms) [] [] 0 tG),?_,?_⟩
    ·refine⟨_,Z,sW,(aU.leaf).vs,0,.str (aU.leaf).word,Z,Z,cG.of (sG _ _ hst),Z,Z,_,Z,?_⟩;rw[Up.KH,bO (show(aU.leaf).tag=0 from Z)];exact cN ⟨pb,pt,tx,es,Gz,DQ,Z,sG,mR,pP,hb,ht,qt,nb,nt⟩
    rintro σ1 G ⟨pb,pt,tx,es,Gz,DQ,rfl,sG,mR,pP,hb,ht,qt,nb,nt⟩;refine mL (λQ h=>⟨_,Z,sW,(aU.leaf).vs,0,.str (aU.leaf).word,Z,Z,cG.of (sG _ _ hst),Z,Z,_,Z,by rw[Up.KJ,bJ (show ¬(aU.leaf).tag=4 from by show ¬0=4;decide)];exact h⟩) ?_;refine mL (λQ h=>⟨_,Z,sW,(aU.leaf).vs,0,.str (aU.leaf).word,Z,Z,cG.of (sG _ _ hst),Z,Z,_,Z,by rw[Up.ŧ,bJ (show ¬(aU.leaf).tag=1 from by show ¬0=1;decide)];exact h⟩) ?_;refine mL (λQ h=>⟨_,Z,sW,(aU.leaf).vs,0,.str (aU.leaf).word,Z,Z,cG.of (sG _ _ hst),Z,Z,_,Z,by rw[Up.SN,bJ (show ¬(aU.leaf).tag=2 from by show ¬0=2;decide)];exact h⟩) ?_;refine mL (λQ h=>⟨_,Z,sW,(aU.leaf).vs,0,.str (aU.leaf).word,Z,Z,cG.of (sG _ _ hst),Z,Z,_,Z,by rw[Up.SQ,bJ (show ¬(aU.leaf).tag=3 from by show ¬0=3;decide)];exact h⟩) ?_;have e1:Go.fO n ts ss i=[]:=et;have e2:Go.jM (fM ws ms) n ts ss i=([],0):=Go.Dj hs ef;exact fin e1 e2 pil sG mR pP hb ht qt nb nt (λes' a1v G' a1 a2 a3=>⟨_,_,_,_,_,_,_,_,Z,a1,a2,a3⟩)
  | @inn i' v ef lt v0 vn nv et no =>
    rw[ef]at split;rw[<-split]at pP;have hb:G2 pb=some (.lst (([]:List Int).map V.int)):=m2.same _ _ m1.here;obtain⟨tx,htx⟩:∃tx:List V,tx=[]:=⟨_,Z⟩;have ht:G2 pt=some (.lst tx):=by rw[htx];exact m2.here
    have qt:Paired (gR G2) tx []:=by rw[htx];exact .nil
    have nb:=n8;have nt:=n9;clear m1 m2 s02 SX pP0 sG0;generalize G2=G at sG mR pP hb ht qt ⊢;refine⟨(DG H kd pS pT pw pm pp i sW n ts ss (fM ws ms) (Go.fO n ts ss i') (Go.jM (fM ws ms) n ts ss i').1 (Go.jM (fM ws ms) n ts ss i').2 tG),?_,?_⟩
    ·refine⟨_,Z,sW,(aU.inn v).vs,0,.str (aU.inn v).word,Z,Z,cG.of (sG _ _ hst),Z,Z,_,Z,?_⟩;rw[Up.KH,bJ (show ¬(aU.inn v).tag=0 from by show ¬1=0;decide)];obtain⟨Tc,x,rfl,pPx,p,É,Wu,tx',rfl,h1,h2,h3,h4,n5,n6⟩:=gD pP;refine gQ ⟨_,Z,.inl ⟨Z,_,bG.of mR⟩,pp,Tc,.ref p,Z,Z,mR,λG' c'=>?_⟩;have np:p≠pp:=λz=>by rw[z,mR]at h1;cases h1
     exact⟨p,_,Z,cG.of ((c'.rest p np).trans h1),Z,_,_,Z,_,_,Z,_,_,Z,Z,⟨É,Wu,tx',Tc,Gz,DQ,Z,sG.chg fpp c',c'.here,Paired.bU pPx λ_ _ z=>Up.vR.chg mR c' z,(c'.rest É n5).trans h2,(c'.rest Wu n6).trans h3,Paired.bU h4 λ_ _ z=>gR.chg mR c' z,n5,n6⟩⟩
    rintro σ1 G ⟨pb,pt,tx,es,Gz,DQ,rfl,sG,mR,pP,hb,ht,qt,nb,nt⟩;refine mL (λQ h=>⟨_,Z,sW,(aU.inn v).vs,0,.str (aU.inn v).word,Z,Z,cG.of (sG _ _ hst),Z,Z,_,Z,by rw[Up.KJ,bJ (show ¬(aU.inn v).tag=4 from by show ¬1=4;decide)];exact h⟩) ?_;refine⟨(DG H kd pS pT pw pm pp i sW n ts ss (fM ws ms) (dJ (Go.fO n ts ss i') [v]) (Go.jM (fM ws ms) n ts ss i').1 (Go.jM (fM ws ms) n ts ss i').2 tG),?_,?_⟩
    ·refine⟨_,Z,sW,(aU.inn v).vs,0,.str (aU.inn v).word,Z,Z,cG.of (sG _ _ hst),Z,Z,_,Z,?_⟩;rw[Up.ŧ,bO (show(aU.inn v).tag=1 from Z)];refine gQ ⟨_,Z,_,Z,sW,_,1,.int v,Z,Z,cG.of (sG _ _ hst),Z,(by show 1<=1000;decide),λp1 G1 m1=>?_⟩;have lb:=t20 i' (by omega);refine⟨pb,p1,_,_,Z,Z,m1.same _ _ hb,m1.here,(by rw[aN];show _+1<=1000;omega),λp2 G2 m2=>?_⟩;refine⟨p2,(Go.fO n ts ss i')++[v],Z,bG.of (by rw[m2.here,dF];rfl),(by rw[bW];show _+1<64;omega),λp3 G3 zs m3 pz sz=>?_⟩;have ez:=Wr R.cU (tp i' (by omega)).1 (tp i' (by omega)).2 v0 vn nv pz sz;rw[ez]at m3;have s3:=m1.same.trans (m2.same.trans m3.same);exact⟨p3,pt,tx,es,Gz,DQ,Z,sG.trans s3,s3 _ _ mR,Paired.bU pP λ_ _ z=>z.same s3,m3.here,s3 _ _ ht,Paired.bU qt λ_ _ z=>gR.same s3 z,(λz=>by have:=m3.fresh;rw[z,m2.same _ _ (m1.same _ _ mR)]at this;cases this),nt⟩
    rintro σ1 G ⟨pb,pt,tx,es,Gz,DQ,rfl,sG,mR,pP,hb,ht,qt,nb,nt⟩;refine mL (λQ h=>⟨_,Z,sW,(aU.inn v).vs,0,.str (aU.inn v).word,Z,Z,cG.of (sG _ _ hst),Z,Z,_,Z,by rw[Up.SN,bJ (show ¬(aU.inn v).tag=2 from by show ¬1=2;decide)];exact h⟩) ?_;refine mL (λQ h=>⟨_,Z,sW,(aU.inn v).vs,0,.str (aU.inn v).word,Z,Z,cG.of (sG _ _ hst),Z,Z,_,Z,by rw[Up.SQ,bJ (show ¬(aU.inn v).tag=3 from by show ¬1=3;decide)];exact h⟩) ?_;have e1:Go.fO n ts ss i=(dJ (Go.fO n ts ss i') [v]):=et;have e2:Go.jM (fM ws ms) n ts ss i=((Go.jM (fM ws ms) n ts ss i').1,(Go.jM (fM ws ms) n ts ss i').2):=Go.Fz hs ef lt;exact fin e1 e2 pil sG mR pP hb ht qt nb nt (λes' a1v G' a1 a2 a3=>⟨_,_,_,_,_,_,_,_,Z,a1,a2,a3⟩)
  | @tie i' a b ef lt hab ma mb et =>
    rw[ef]at split;rw[<-split]at pP;have hb:G2 pb=some (.lst (([]:List Int).map V.int)):=m2.same _ _ m1.here;obtain⟨tx,htx⟩:∃tx:List V,tx=[]:=⟨_,Z⟩;have ht:G2 pt=some (.lst tx):=by rw[htx];exact m2.here
    have qt:Paired (gR G2) tx []:=by rw[htx];exact .nil
    have nb:=n8;have nt:=n9;clear m1 m2 s02 SX pP0 sG0;generalize G2=G at sG mR pP hb ht qt ⊢;refine⟨(DG H kd pS pT pw pm pp i sW n ts ss (fM ws ms) (Go.fO n ts ss i') (Go.jM (fM ws ms) n ts ss i').1 (Go.jM (fM ws ms) n ts ss i').2 tG),?_,?_⟩
    ·refine⟨_,Z,sW,(aU.tie a b).vs,0,.str (aU.tie a b).word,Z,Z,cG.of (sG _ _ hst),Z,Z,_,Z,?_⟩;rw[Up.KH,bJ (show ¬(aU.tie a b).tag=0 from by show ¬2=0;decide)];obtain⟨Tc,x,rfl,pPx,p,É,Wu,tx',rfl,h1,h2,h3,h4,n5,n6⟩:=gD pP;refine gQ ⟨_,Z,.inl ⟨Z,_,bG.of mR⟩,pp,Tc,.ref p,Z,Z,mR,λG' c'=>?_⟩;have np:p≠pp:=λz=>by rw[z,mR]at h1;cases h1
     exact⟨p,_,Z,cG.of ((c'.rest p np).trans h1),Z,_,_,Z,_,_,Z,_,_,Z,Z,⟨É,Wu,tx',Tc,Gz,DQ,Z,sG.chg fpp c',c'.here,Paired.bU pPx λ_ _ z=>Up.vR.chg mR c' z,(c'.rest É n5).trans h2,(c'.rest Wu n6).trans h3,Paired.bU h4 λ_ _ z=>gR.chg mR c' z,n5,n6⟩⟩
    rintro σ1 G ⟨pb,pt,tx,es,Gz,DQ,rfl,sG,mR,pP,hb,ht,qt,nb,nt⟩;refine mL (λQ h=>⟨_,Z,sW,(aU.tie a b).vs,0,.str (aU.tie a b).word,Z,Z,cG.of (sG _ _ hst),Z,Z,_,Z,by rw[Up.KJ,bJ (show ¬(aU.tie a b).tag=4 from by show ¬2=4;decide)];exact h⟩) ?_;refine mL (λQ h=>⟨_,Z,sW,(aU.tie a b).vs,0,.str (aU.tie a b).word,Z,Z,cG.of (sG _ _ hst),Z,Z,_,Z,by rw[Up.ŧ,bJ (show ¬(aU.tie a b).tag=1 from by show ¬2=1;decide)];exact h⟩) ?_;refine⟨(DG H kd pS pT pw pm pp i sW n ts ss (fM ws ms) (Go.fO n ts ss i') ((Go.jM (fM ws ms) n ts ss i').1++[(a,b)]) (Go.jM (fM ws ms) n ts ss i').2 tG),?_,?_⟩
    ·refine⟨_,Z,sW,(aU.tie a b).vs,0,.str (aU.tie a b).word,Z,Z,cG.of (sG _ _ hst),Z,Z,_,Z,?_⟩;rw[Up.SN,bO (show(aU.tie a b).tag=2 from Z)];have l1:=aY qt;have l2:=Go.Wq (wm:=fM ws ms) R (show i'<ss.length by omega);refine gQ ⟨_,Z,_,Z,sW,_,1,.int a,Z,Z,cG.of (sG _ _ hst),Z,_,Z,sW,_,2,.int b,Z,Z,cG.of (sG _ _ hst),Z,(by show 2<=1000;decide),λp1 G1 m1=>⟨(by show 1<=1000;decide),λp2 G2 m2=>?_⟩⟩;have s2:=m1.same.trans m2.same;refine⟨pt,p2,_,_,Z,Z,s2 _ _ ht,m2.here,(by show _+1<=1000;omega),λp3 G3 m3=>?_⟩;have s3:=s2.trans m3.same;exact⟨pb,p3,_,es,Gz,DQ,Z,sG.trans s3,s3 _ _ mR,Paired.bU pP λ_ _ z=>z.same s3,s3 _ _ hb,m3.here,cV (Paired.bU qt λ_ _ z=>gR.same s3 z) ⟨p1,Z,m3.same _ _ (m2.same _ _ m1.here)⟩,nb,λz=>by have:=m3.fresh;rw[z,s2 _ _ mR]at this;cases this⟩
    rintro σ1 G ⟨pb,pt,tx,es,Gz,DQ,rfl,sG,mR,pP,hb,ht,qt,nb,nt⟩;refine mL (λQ h=>⟨_,Z,sW,(aU.tie a b).vs,0,.str (aU.tie a b).word,Z,Z,cG.of (sG _ _ hst),Z,Z,_,Z,by rw[Up.SQ,bJ (show ¬(aU.tie a b).tag=3 from by show ¬2=3;decide)];exact h⟩) ?_;have e1:Go.fO n ts ss i=(Go.fO n ts ss i'):=et;have e2:Go.jM (fM ws ms) n ts ss i=(((Go.jM (fM ws ms) n ts ss i').1++[(a,b)]),(Go.jM (fM ws ms) n ts ss i').2):=Go.Bw hs ef lt;exact fin e1 e2 pil sG mR pP hb ht qt nb nt (λes' a1v G' a1 a2 a3=>⟨_,_,_,_,_,_,_,_,Z,a1,a2,a3⟩)
  | @out i' v ef lt mv et no =>
    rw[ef]at split;rw[<-split]at pP;have hb:G2 pb=some (.lst (([]:List Int).map V.int)):=m2.same _ _ m1.here;obtain⟨tx,htx⟩:∃tx:List V,tx=[]:=⟨_,Z⟩;have ht:G2 pt=some (.lst tx):=by rw[htx];exact m2.here
    have qt:Paired (gR G2) tx []:=by rw[htx];exact .nil
    have nb:=n8;have nt:=n9;clear m1 m2 s02 SX pP0 sG0;generalize G2=G at sG mR pP hb ht qt ⊢;refine⟨(DG H kd pS pT pw pm pp i sW n ts ss (fM ws ms) (Go.fO n ts ss i') (Go.jM (fM ws ms) n ts ss i').1 (Go.jM (fM ws ms) n ts ss i').2 tG),?_,?_⟩
    ·refine⟨_,Z,sW,(aU.out v).vs,0,.str (aU.out v).word,Z,Z,cG.of (sG _ _ hst),Z,Z,_,Z,?_⟩;rw[Up.KH,bJ (show ¬(aU.out v).tag=0 from by show ¬3=0;decide)];obtain⟨Tc,x,rfl,pPx,p,É,Wu,tx',rfl,h1,h2,h3,h4,n5,n6⟩:=gD pP;refine gQ ⟨_,Z,.inl ⟨Z,_,bG.of mR⟩,pp,Tc,.ref p,Z,Z,mR,λG' c'=>?_⟩;have np:p≠pp:=λz=>by rw[z,mR]at h1;cases h1
     exact⟨p,_,Z,cG.of ((c'.rest p np).trans h1),Z,_,_,Z,_,_,Z,_,_,Z,Z,⟨É,Wu,tx',Tc,Gz,DQ,Z,sG.chg fpp c',c'.here,Paired.bU pPx λ_ _ z=>Up.vR.chg mR c' z,(c'.rest É n5).trans h2,(c'.rest Wu n6).trans h3,Paired.bU h4 λ_ _ z=>gR.chg mR c' z,n5,n6⟩⟩
    rintro σ1 G ⟨pb,pt,tx,es,Gz,DQ,rfl,sG,mR,pP,hb,ht,qt,nb,nt⟩;refine mL (λQ h=>⟨_,Z,sW,(aU.out v).vs,0,.str (aU.out v).word,Z,Z,cG.of (sG _ _ hst),Z,Z,_,Z,by rw[Up.KJ,bJ (show ¬(aU.out v).tag=4 from by show ¬3=4;decide)];exact h⟩) ?_;refine mL (λQ h=>⟨_,Z,sW,(aU.out v).vs,0,.str (aU.out v).word,Z,Z,cG.of (sG _ _ hst),Z,Z,_,Z,by rw[Up.ŧ,bJ (show ¬(aU.out v).tag=1 from by show ¬3=1;decide)];exact h⟩) ?_;refine mL (λQ h=>⟨_,Z,sW,(aU.out v).vs,0,.str (aU.out v).word,Z,Z,cG.of (sG _ _ hst),Z,Z,_,Z,by rw[Up.SN,bJ (show ¬(aU.out v).tag=2 from by show ¬3=2;decide)];exact h⟩) ?_;refine⟨(DG H kd pS pT pw pm pp i sW n ts ss (fM ws ms) (iQ (Go.fO n ts ss i') [v]) (Go.jM (fM ws ms) n ts ss i').1 ((Go.jM (fM ws ms) n ts ss i').2+fM ws ms v) tG),?_,?_⟩
    ·refine⟨_,Z,sW,(aU.out v).vs,0,.str (aU.out v).word,Z,Z,cG.of (sG _ _ hst),Z,Z,_,Z,?_⟩;rw[Up.SQ,bO (show(aU.out v).tag=3 from Z)];have bv:=(tp i' (by omega)).2 v mv;have lb:=t20 i' (by omega);refine gQ ⟨_,Z,pb,Z,⟨_,bG.of hb⟩,QF (Go.fO n ts ss i') (λu=>!decide (u=v)) (bG.of hb) (by omega) (λu G1 N Z98 _ s1 hN hM=>?_) λG1 p1 G2 s1 m2=>?_⟩
     ·refine⟨_,Z,_,Z,sW,_,1,.int v,Z,Z,cG.of ((sG.trans s1) _ _ hst),Z,Z,_,Z,?_⟩;by_cases e:u=v
      ·rw[show(!decide (V.int u=V.int v))=false by rw[e];simp];exact cN (hM (by rw[e];simp))
      ·rw[show(!decide (V.int u=V.int v))=true by rw[bJ (λz=>e (V.int.inj z))];rfl];exact gQ ⟨_,Z,hN (by rw[bJ e];rfl)⟩
     have s2:=s1.trans m2.same;have el:((Go.fO n ts ss i')).filter (λu=>!decide (u=v))=iQ (Go.fO n ts ss i') [v]:=by
      unfold iQ;refine List.filter_congr λu _=>?_;simp
     rw[el]at m2;have g2:=sG.trans s2;have wv:ws.getD v.toNat 0∈ws:=by
      rw[gB,bV (show v.toNat<ws.length by omega)];exact qy _
     have mv':ms.getD v.toNat 0∈ms:=by
      rw[gB,bV (show v.toNat<ms.length by omega)];exact qy _
     have big:∀x:Int,0<=x->x<10^30->x.natAbs<2^4000:=λx h0 h1=>by
      have h2:(2:Nat)^200<=2^4000:=Nat.pow_le_pow_right (by decide) (by decide);have h3:x.natAbs<2^200:=by
       have:(2:Nat)^200=1606938044258990275541962092341162602522202993782792835301376:=by decide
       omega
      exact jB h3 h2
     have b1:=wb _ wv;have b2:=mb _ mv';refine⟨_,Z,_,Z,_,Z,sW,_,1,.int v,Z,Z,cG.of (g2 _ _ hst),Z,pw,_,_,_,Z,Z,bG.of (g2 _ _ hw),oR bv.1 (by omega),_,Z,_,Z,sW,_,1,.int v,Z,Z,cG.of (g2 _ _ hst),Z,pm,_,_,_,Z,Z,bG.of (g2 _ _ hm),oR bv.1 (by omega),_,_,Z,Z,⟨big _ b1.1 b1.2,big _ b2.1 (by omega)⟩,_,_,Z,Z,?_⟩;exact⟨p1,pt,tx,es,Gz,DQ,Z,g2,s2 _ _ mR,Paired.bU pP λ_ _ z=>z.same s2,m2.here,s2 _ _ ht,Paired.bU qt λ_ _ z=>gR.same s2 z,(λz=>by have:=m2.fresh;rw[z,s1 _ _ mR]at this;cases this),nt⟩
    rintro σ1 G ⟨pb,pt,tx,es,Gz,DQ,rfl,sG,mR,pP,hb,ht,qt,nb,nt⟩;have e1:Go.fO n ts ss i=(iQ (Go.fO n ts ss i') [v]):=et;have e2:Go.jM (fM ws ms) n ts ss i=((Go.jM (fM ws ms) n ts ss i').1,((Go.jM (fM ws ms) n ts ss i').2+fM ws ms v)):=Go.FJ hs ef lt;exact fin e1 e2 pil sG mR pP hb ht qt nb nt (λes' a1v G' a1 a2 a3=>⟨_,_,_,_,_,_,_,_,Z,a1,a2,a3⟩)
  | @join i' j' ef lt lt' ŵ et =>
    rw[ef]at split;rw[<-split,show tG++[i',j']=tG++[i']++[j'] by rw[Aa];rfl]at pP;have hb:G2 pb=some (.lst (([]:List Int).map V.int)):=m2.same _ _ m1.here;obtain⟨tx,htx⟩:∃tx:List V,tx=[]:=⟨_,Z⟩;have ht:G2 pt=some (.lst tx):=by rw[htx];exact m2.here
    have qt:Paired (gR G2) tx []:=by rw[htx];exact .nil
    have nb:=n8;have nt:=n9;clear m1 m2 s02 SX pP0 sG0;generalize G2=G at sG mR pP hb ht qt ⊢;refine⟨(DG H kd pS pT pw pm pp i sW n ts ss (fM ws ms) (Go.fO n ts ss j') (Go.jM (fM ws ms) n ts ss j').1 (Go.jM (fM ws ms) n ts ss j').2 (tG++[i'])),?_,?_⟩
    ·refine⟨_,Z,sW,(aU.join).vs,0,.str (aU.join).word,Z,Z,cG.of (sG _ _ hst),Z,Z,_,Z,?_⟩;rw[Up.KH,bJ (show ¬(aU.join).tag=0 from by show ¬4=0;decide)];obtain⟨Tc,x,rfl,pPx,p,É,Wu,tx',rfl,h1,h2,h3,h4,n5,n6⟩:=gD pP;refine gQ ⟨_,Z,.inl ⟨Z,_,bG.of mR⟩,pp,Tc,.ref p,Z,Z,mR,λG' c'=>?_⟩;have np:p≠pp:=λz=>by rw[z,mR]at h1;cases h1
     exact⟨p,_,Z,cG.of ((c'.rest p np).trans h1),Z,_,_,Z,_,_,Z,_,_,Z,Z,⟨É,Wu,tx',Tc,Gz,DQ,Z,sG.chg fpp c',c'.here,Paired.bU pPx λ_ _ z=>Up.vR.chg mR c' z,(c'.rest É n5).trans h2,(c'.rest Wu n6).trans h3,Paired.bU h4 λ_ _ z=>gR.chg mR c' z,n5,n6⟩⟩
    rintro σ1 G ⟨pb,pt,tx,es,Gz,DQ,rfl,sG,mR,pP,hb,ht,qt,nb,nt⟩;refine⟨(DG H kd pS pT pw pm pp i sW n ts ss (fM ws ms) (Go.fO n ts ss j') ((Go.jM (fM ws ms) n ts ss j').1++(Go.jM (fM ws ms) n ts ss i').1) ((Go.jM (fM ws ms) n ts ss j').2+(Go.jM (fM ws ms) n ts ss i').2) tG),?_,?_⟩
    ·refine⟨_,Z,sW,(aU.join).vs,0,.str (aU.join).word,Z,Z,cG.of (sG _ _ hst),Z,Z,_,Z,?_⟩;rw[Up.KJ,bO (show(aU.join).tag=4 from Z)];obtain⟨Tc,x,rfl,pPx,p,É,Wu,tx',rfl,h1,h2,h3,h4,n5,n6⟩:=gD pP;refine gQ ⟨_,Z,.inl ⟨Z,_,bG.of mR⟩,pp,Tc,.ref p,Z,Z,mR,λG' c'=>?_⟩;have np:p≠pp:=λz=>by rw[z,mR]at h1;cases h1
     have h1':=(c'.rest p np).trans h1;have l1:=aY qt;have l2:=aY h4;have l3:=Go.Wq (wm:=fM ws ms) R kl;rw[Go.wM hs ef lt lt',bW]at l3;refine⟨_,Z,_,Z,p,_,1,.ref Wu,Z,Z,cG.of h1',Z,pt,Wu,_,_,Z,Z,(c'.rest pt nt).trans ht,(c'.rest Wu n6).trans h3,(by omega),λp6 G6 n6'=>?_⟩;have a0W:=n6'.same _ _ c'.here;refine⟨_,Z,_,Z,p,_,2,.int (Go.jM (fM ws ms) n ts ss i').2,Z,Z,cG.of (n6'.same _ _ h1'),Z,_,_,Z,Z,?_⟩;exact⟨pb,p6,_,Tc,some (.ref p),DQ,Z,(sG.chg fpp c').trans n6'.same,a0W,Paired.bU pPx λ_ _ z=>Up.vR.same n6'.same (Up.vR.chg mR c' z),n6'.same _ _ ((c'.rest pb nb).trans hb),n6'.here,jh (Paired.bU qt λ_ _ z=>gR.same n6'.same (gR.chg mR c' z)) (Paired.bU h4 λ_ _ z=>gR.same n6'.same (gR.chg mR c' z)),nb,λz=>by have:=n6'.fresh;rw[z,c'.here]at this;cases this⟩
    rintro σ1 G ⟨pb,pt,tx,es,Gz,DQ,rfl,sG,mR,pP,hb,ht,qt,nb,nt⟩;refine mL (λQ h=>⟨_,Z,sW,(aU.join).vs,0,.str (aU.join).word,Z,Z,cG.of (sG _ _ hst),Z,Z,_,Z,by rw[Up.ŧ,bJ (show ¬(aU.join).tag=1 from by show ¬4=1;decide)];exact h⟩) ?_;refine mL (λQ h=>⟨_,Z,sW,(aU.join).vs,0,.str (aU.join).word,Z,Z,cG.of (sG _ _ hst),Z,Z,_,Z,by rw[Up.SN,bJ (show ¬(aU.join).tag=2 from by show ¬4=2;decide)];exact h⟩) ?_;refine mL (λQ h=>⟨_,Z,sW,(aU.join).vs,0,.str (aU.join).word,Z,Z,cG.of (sG _ _ hst),Z,Z,_,Z,by rw[Up.SQ,bJ (show ¬(aU.join).tag=3 from by show ¬4=3;decide)];exact h⟩) ?_;have e1:Go.fO n ts ss i=(Go.fO n ts ss j'):=et.trans ŵ;have e2:Go.jM (fM ws ms) n ts ss i=(((Go.jM (fM ws ms) n ts ss j').1++(Go.jM (fM ws ms) n ts ss i').1),((Go.jM (fM ws ms) n ts ss j').2+(Go.jM (fM ws ms) n ts ss i').2)):=Go.wM hs ef lt lt';exact fin e1 e2 pil sG mR pP hb ht qt nb nt (λes' a1v G' a1 a2 a3=>⟨_,_,_,_,_,_,_,_,Z,a1,a2,a3⟩)
 ·rintro σ G ⟨es,o6,o7,o8,o9,o10,Gz,DQ,rfl,sG,mR,pP⟩;exact q G sG
abbrev Yp:Stmt:=top 49
def lK:bD ["_law_script","_law_n","_law_most","_law_rows_here","_law_kind","_law_many","_law_size","_law_marks","_law_web","_law_steps","_law_weights","_law_question","_law_told"] ["_law_script"] (aF Yp):={}
def bh.exs{CX:Vc}{k:Nat}{f:Addr}{fd:FuncData}{ps:List Str}{sp:α->Sp}(F:∀a,bh P w K mg base CX k f fd ps (sp a)):bh P w K mg base CX k f fd ps (λvs H Q E=>∃a,sp a vs H Q E) :=
 ⟨λvs H Q E ⟨a,h⟩=>(F a).len vs H Q E h,λA outer s H args us vs Q E hr he hb hv ⟨a,hs⟩=>(F a).run A outer s H args us vs Q E hr he hb hv hs⟩
structure Drw where
 n:Nat
 ts:List bA
 ws:List Int
 lw:ws.length=n
 c:Nat
 c4:c<=4
def KN [DecidableEq κ] {pq:PQ κ}{n:Nat}{ts:List bA}{ss:List aU}{ws ms:List Int}{kd:Int}{f:List bA->Int->Int} (R:Go.FN n ts ss) (D:Go.Thing pq n ts (fM ws ms) f) (hf:∀tl,f tl=ţ kd (fL ms) tl) (h1:kd=1->pq.bt=λa b=>decide (b<a)) (h2:kd≠1->pq.bt=λa b=>decide (a<b)):∀k,k<ss.length->Ws kd ms (fM ws ms) n ts ss ((Go.Dh pq n ts ss ss.length).getD k []) k:=λk kl=>by
 rw[Go.vf pq kl];obtain⟨r,e,hb⟩:=Go.a1h R D k kl;rw[hf]at e;refine⟨r,e,Go.a1i R k kl _ (Go.vI e),λh=>?_,λh=>?_⟩
 ·grind
 grind
def QG{G G0 G':Hp}{d:Addr}(s:aH G G0)(f:G d=none)(h:Sd d G0 G'):aH G G':=λc o e=>h c o (λz=>by grind) (s c o e)
def a3M(B:Bl mg)(Bz:mg "zip" = none)(cB:qI K mg)(cA:zp K mg)(eX:HX K mg)(eY:HY K mg)(U:Used w K mg)(Ct:Ų mg)(kE:GK K mg)(jL:Dn K mg "is_below" gA uJ)(qe:Dn K mg "joint" qO lE)(nJ:Dn K mg "less" um lE)(K5:Dn K mg "bag_behind" gC Gn)(wX:Dn K mg "run" J3 qj)(vK:Dn K mg "fault_behind" fX JK)(zG:Dn K mg "run_whole" nZ qj)(zH:a00 K mg)(Dd:Dn K mg "run_narrow" pK qj)(wV:Dn K mg "states_behind" gU JH)(su:Dn K mg "note" wK Gm)(zE:Dn K mg "fill_along" lX Mv)(ye:Dn K mg "fill_joined" jo Mw)(Ax:Dn K mg "going_up" qD Mx)(Bk:a3s K mg)(Hh:a5g K mg)(sZ:Dn K mg "weights_of" jT Gq)(mJ:Dn K mg "with_number" fQ xZ)(mK:Dn K mg "without_number" cY yc)(oE:Dn K mg "_law_at" tH Mz)(ŷ:Dn K mg "_law_rows" uN Xr)(Ç:Dn K mg "_law_may" uz MF)(Ŝ:Dn K mg "_law_ties" rE Xv)(Ÿ:Dn K mg "_law_watching" mZ Xw)(Gy:Dn K mg "_law_laid" lH CP)(È:Dn K mg "_law_state" pZ Rx)(Â:Dn K mg "_law_row" qL Ry)(Ź:Dn K mg "_law_up" zy Xx)(Wv:Dn K mg "law" Yp ["_law_script"]):bh P w K mg base gj 24 Wv.f Wv.fd ["_law_script"] (a1D K):=by
 have QH:bh P w K mg base gj 23 _ _ _ _:=(BL B oE).mono (by decide);have gZ4:bh P w K mg base gj 23 _ _ _ _:=(Qy B oE ŷ).mono (by decide);have gZ6:bh P w K mg base gj 23 _ _ _ _:=(QB B oE Ç Ŝ).mono (by decide);have gZ1:bh P w K mg base gj 23 _ _ _ _:=(Dw B Gy 20).mono (by decide);have gZ8:bh P w K mg base gj 23 _ _ _ _:=(FQ B Ÿ).mono (by decide);have gZ7:bh P w K mg base gj 23 _ _ _ _:=(Wt B Â È Ź).mono (by decide);have BP:bh P w K mg base gj 22 _ _ _ _:=(Hu B Ct cB cA kE jL sZ).mono (by decide);have FT:bh P w K mg base gj 22 _ _ _ _:=(Lp B Ct cB eX kE jL sZ).mono (by decide);have FW:bh P w K mg base gj 22 _ _ _ _:=(Lq B Ct cB eY kE jL sZ).mono (by decide);have QC:=λx:Drw=>(Fq (P:=P) (base:=base) B Bz Ct U (a5k B cA x.c4 x.n x.ts x.ws x.lw mJ mK) kE jL qe nJ K5 wX vK zG zH Dd wV su zE ye Ax Bk Hh);have QA:=λx:Drw=>(Fq (P:=P) (base:=base) B Bz Ct U (a5l B eX x.n x.ts x.ws x.lw mJ mK) kE jL qe nJ K5 wX vK zG zH Dd wV su zE ye Ax Bk Hh);have QW:=λx:Drw=>(Fq (P:=P) (base:=base) B Bz Ct U (a5m B Bz eY x.n x.ts x.ws x.lw mJ mK) kE jL qe nJ K5 wX vK zG zH Dd wV su zE ye Ax Bk Hh);have a6I:bh P w K mg base gj 23 _ _ _ _:=L2.bh.mono (bh.either (bh.exs QC) (bh.either (bh.exs QA) (bh.exs QW))) (by decide);refine Wv.F.ok lK λcZ A outer s H vs Q E hr h=>?_;obtain⟨a,ns,rfl,hS,h63,q⟩:=h;have hu:(A.deeper (PyProof.Rows.envOfC "law" (aF Yp) s.heap.objs.size Wv.f cZ)).units+64<cLine:=by have:=hr.un;omega
 refine⟨_,(aA (bF 1 lK.nd (bC jF (bf QH hr Z oE.m oE.F.kp oE.b .nil b8 (J (pv 0) (J aq aj))) aq))
   (aA (bF 2 lK.nd (bC dO aq (bC jF (bf QH hr Z oE.m oE.F.kp oE.b .nil b8 (J (pv 0) (J aq aj))) aq)))
   (j4 (dN (aJ jb (bC jF (bC Θ (bf QH hr Z oE.m oE.F.kp oE.b .nil b8 (J (pv 0) (J aq aj))) aq) aq) aq)
   (aA (bF 1 lK.nd aq)
   (aD (bF 2 lK.nd (bC dO aq (bC jF (pv 2) aq)))))
   bR)
   (aA (bF 3 lK.nd (bf gZ4 hr Z ŷ.m ŷ.F.kp ŷ.b .nil b8 (J (pv 0) (J (pv 1) (J (pv 2) aj)))))
   (aA (bF 4 lK.nd (bC jF (bf QH hr Z oE.m oE.F.kp oE.b .nil b8 (J (pv 0) (J aq aj))) aq))
   (aA (bF 5 lK.nd (bC dO aq (bC jF (bf QH hr Z oE.m oE.F.kp oE.b .nil b8 (J (pv 0) (J aq aj))) aq)))
   (aA (bF 6 lK.nd (pv 5))
   (j4 (dN (aJ zL (pv 4) aq)
   (aD (bF 6 lK.nd aq))
   bR)
   (aA (ud (i:=7) ["_law_v","_law_size","_law_script"] [none,some 6,some 0] lK.nd Z Z (by kernel_rfl) Z (jE Z B.range (J (pv 1) aj)) (λ_ _ _ _ _=>(aL 0 (show(["_law_v","_law_size","_law_script"]:List Str).Nodup by decide))) (λ_ _ _ _ _=>gk) (λ_ _ _ _ _=>(bC jF (bf QH hr Z oE.m oE.F.kp oE.b .nil b8 (J (pv 2) (J (bC dO aq (pv 0)) aj))) (pv 1))) (by rfl))
   (aA (bF 8 lK.nd (bx (J (pv 1) (J (bf gZ6 hr Z Ŝ.m Ŝ.F.kp Ŝ.b .nil b8 (J (pv 0) (J (pv 3) (J (pv 1) (J (pv 4) (J (pv 7) aj)))))) aj))))
   (j4 (dN (aJ jb (pv 4) aq)
   (aD (bF 7 lK.nd (bf gZ8 hr Z Ÿ.m Ÿ.F.kp Ÿ.b .nil b8 (J (pv 8) (J (pv 7) aj)))))
   bR)
   (aA (bF 9 lK.nd (bC lU (bf gZ1 hr Z Gy.m Gy.F.kp Gy.b .nil b8 (J (aQ (aM (K:=K) Z) (pv 8) aq) (J (pv 3) (J aq (J (sS jb (bC jF (bf QH hr Z oE.m oE.F.kp oE.b .nil b8 (J (pv 0) (J aq aj))) aq) aq) aj))))) (jH ["_law_v"] [none]  (by kernel_rfl) Z (cX (K:=K) Z (aQ (aM (K:=K) Z) (aQ (bQ (K:=K) Z) (pv 3) aq) aq)) (λ_ _ _ _ _=>(aL 0 (show(["_law_v"]:List Str).Nodup by decide))) (λ_ _ _ _ _=>gk) λ_ _ _ _ _=>(bx (J gJ (J (pv 0) aj))))))
   (aA (ud (i:=10) Xu [none,some 0] lK.nd Z Z (by kernel_rfl) Z (jE Z B.range (J (pv 1) aj)) (λ_ _ _ _ _=>(aL 0 (show(Xu:List Str).Nodup by decide))) (λ_ _ _ _ _=>gk) (λ_ _ _ _ _=>(bC jF (bf QH hr Z oE.m oE.F.kp oE.b .nil b8 (J (pv 1) (J (bC dO aq (pv 0)) aj))) (bC a2e aq aq))) (by rfl))
   (aA (bF 11 lK.nd (aQ (bQ (K:=K) Z) (cJ (J (O9 cA.ų BP hr Z cA.m cA.bN.b .nil b8 (J (pv 8) (J (pv 5) (J (pv 10) aj)))) (J (O9 eX.ų FT hr Z eX.m eX.bN.b .nil b8 (J (pv 8) (J (pv 10) aj))) (J (O9 eY.ų FW hr Z eY.m eY.bN.b .nil b8 (J (pv 8) (J (pv 10) aj))) aj)))) (pv 4)))
   (aA (bF 12 lK.nd (bf a6I hr Z Hh.m Hh.F.kp Hh.b .nil b8 (J (iC (wG (K:=K) Z) Z B.list (by decide) (J (pv 9) aj)) (J (pv 11) aj))))
   (aA (dN (PW.pt (zK (wj (gw (K:=K) Z (bK (jQ (K:=K) Z) Z B.isinstance (by decide) (J (pv 12) (J (wg (v:=.ty "list") (u:=.type "list") Z B.list (by decide) Z) aj))) λ_=>rfl)) (uR (aJ FZ (bK (cQ (K:=K) Z) Z B.len (by decide) (J (pv 12) aj)) (bK (cQ (K:=K) Z) Z B.len (by decide) (J (pv 9) aj))))))
   (aD (bI Wy))
   bR)
   (aD (bI (bf gZ7 hr Z Ź.m Ź.F.kp Ź.b .nil b8 (J (pv 4) (J (pv 9) (J (pv 12) (J (pv 10) (J (pv 7) aj)))))))))))))))))))))))),?_⟩
 refine⟨_,Z,a,ns,0,Z,hS,h63,by decide,by decide,λz0=>⟨_,_,Z,Z,(show(0:Int)<_ by decide),?_⟩⟩;refine⟨_,Z,a,ns,1,Z,hS,h63,by decide,by decide,λz1=>⟨_,_,Z,Z,(show(0:Int)<_ by decide),_,_,Z,Z,?_⟩⟩;have u0:=qz z0 (show(7:Int)≠0 by decide);have u1:=qx z0 (show(0:Int)<7 by decide);have w0:=qz z1 (show(3:Int)≠0 by decide);have w1:=qx z1 (show(0:Int)<3 by decide);refine⟨λσ' H'=>∃(n most:Nat),σ'=[some (.ref a),some (.int (n:Int)),some (.int (most:Int)),none,none,none,none,none,none,none,none,none,none]/\H'=H/\n<=10/\2<=most/\most<=4,?_,?_⟩
 ·obtain⟨n0,e0⟩:∃n0:Nat,z0%7=(n0:Int):=⟨(z0%7).toNat,by omega⟩;obtain⟨m0,e1⟩:∃m0:Nat,2+z1%3=(m0:Int):=⟨(2+z1%3).toNat,by omega⟩;have v0:=qz (2+z1%3) (show(2:Int)≠0 by decide);have v1:=qx (2+z1%3) (show(0:Int)<2 by decide);obtain⟨mm,em⟩:∃mm:Nat,2+(2+z1%3)%2=(mm:Int):=⟨(2+(2+z1%3)%2).toNat,by omega⟩;refine⟨_,Z,a,ns,0,Z,hS,h63,by decide,by decide,λz2=>⟨_,_,Z,Z,⟨by decide,by decide⟩,_,_,Z,Z,(show(0:Int)<_ by decide),Z,_,Z,tZ (λc=>?_) λc=>?_⟩⟩
  ·exact⟨_,Z,_,_,Z,Z,(show(0:Int)<_ by decide),_,_,Z,Z,10,mm,by rw[<-em];rfl,Z,by decide,by omega,by omega⟩
  ·exact⟨n0,m0,by rw[<-e0,<-e1];rfl,Z,by omega,by omega,by omega⟩
 rintro σ1 H1 ⟨n,most,rfl,rfl,cU,m2,m4⟩;refine⟨_,Z,_,Z,_,Z,a,ns,n,most,Z,hS,h63,cU,by omega,by omega,λl ys rs H2 s2 fl hl pl R r20=>?_⟩;refine⟨_,Z,a,ns,5,Z,hS.same s2,h63,by decide,by decide,λz5=>⟨_,_,Z,Z,(show(0:Int)<_ by decide),?_⟩⟩;refine⟨_,Z,a,ns,6,Z,hS.same s2,h63,by decide,by decide,λz6=>⟨_,_,Z,Z,(show(0:Int)<_ by decide),_,_,Z,Z,?_⟩⟩;have k0:=qz z5 (show(3:Int)≠0 by decide);have k1:=qx z5 (show(0:Int)<3 by decide);have y0:=qz z6 (show(3:Int)≠0 by decide);have y1:=qx z6 (show(0:Int)<3 by decide);obtain⟨kd,ekd⟩:∃kd:Int,z5%3=kd:=⟨_,Z⟩;obtain⟨c,ec⟩:∃c:Nat,1+z6%3=(c:Int):=⟨(1+z6%3).toNat,by omega⟩;dsimp only;rw[ekd,ec];rw[ekd]at k0 k1;refine⟨_,Z,⟨λσ' H'=>∃sz:Int,σ'=[some (.ref a),some (.int (n:Int)),some (.int (most:Int)),some (.ref l),some (.int kd),some (.int (c:Int)),some (.int sz),none,none,none,none,none,none]/\H'=H2/\0<sz/\sz<=3/\(kd=0->sz=(c:Int))/\(kd≠0->sz=2),?_,?_⟩⟩
 ·refine⟨_,Z,_,_,Z,Z,_,Z,tZ (λd=>?_) λd=>?_⟩
  ·have d':0<kd:=eZ d;exact⟨2,Z,Z,by decide,by decide,λh=>by omega,λ_=>rfl⟩
  ·have d':¬0<kd:=Ed (tO.mpr d);exact⟨(c:Int),Z,Z,by omega,by omega,λ_=>rfl,λh=>by omega⟩
 rintro σ2 H2' ⟨sz,rfl,rfl,sz0,sz3,szc,sz2⟩;refine⟨_,Z,_,Z,by omega,by omega,?_⟩;rw[jO];refine vy (λi zs H'=>H'=H2'/\∃ms:List Int,zs=ms.map V.int/\ms.length=i/\∀x∈ms,0<=x/\x<sz) ⟨Z,[],Z,Z,λx h=>absurd h d7⟩ (λi zs H' hi ⟨e,ms,e1,l1,_⟩=>?_) (λi zs H' hi ⟨e,ms,e1,l1,b1⟩=>?_) ?_
 ·rw[e1,aN,l1];exact dH (cC (by omega))
 ·subst e;refine⟨_,Z,_,Z,_,_,Z,Z,a,ns,_,Z,hS.same s2,h63,(by omega),(by omega),λz=>⟨_,Z,_,_,Z,Z,sz0,Z,ms++[z%sz],?_,?_,λx hx=>?_⟩⟩
  ·rw[e1,dF];rfl
  ·rw[bW,l1];rfl
  ·rcases b7.mp hx with h|h
   ·exact b1 x h
   ·rw[bw.mp h];exact⟨qz z (by omega),qx z sz0⟩
 rintro zs H' ⟨rfl,ms,rfl,lm,mb⟩ pm hpm;have n3:=gV.oF (H:=H') (p:=pm) (o:=.lst (ms.map V.int)) hpm;generalize cO H' pm (.lst (ms.map V.int))=H3 at n3 ⊢;have s03:=s2.trans n3.same;refine⟨_,Z,_,Z,_,Z,_,Z,_,Z,_,Z,a,l,pm,ns,ms,ys,rs,n,kd,Z,n3.here,lm,hS.same s03,h63,n3.same _ _ hl,Paired.bU pl λ_ _ h=>K7.same n3.same h,by omega,cU,λr tx ts H4 s4 fr hr4 pt tbd nd bi l45=>?_⟩;refine⟨(by show 2<=1000;decide),λpg H5 n5=>?_⟩;have s35:=s4.trans n5.same;have s05:=s03.trans s35;have hm5:=s35 _ _ n3.here;have hr5:=n5.same _ _ hr4;have pt5:=Paired.bU pt λ_ _ h=>gR.same n5.same h;refine⟨λσ' H'=>∃(pm':Addr) (pY:List Int),σ'=[some (.ref a),some (.int (n:Int)),some (.int (most:Int)),some (.ref l),some (.int kd),some (.int (c:Int)),some (.int sz),some (.ref pm'),some (.ref pg),none,none,none,none]/\aH H5 H'/\H' pm'=some (.lst (pY.map V.int))/\pY.length=n/\(kd≠2->pY=ms)/\(kd=2->(∀x∈pY,x=0\/x=1)/\∀v:Int,0<=v->v<(n:Int)->fL pY v=1\/Go.eU (fL pY) ts v=true),?_,?_⟩
 ·refine⟨_,Z,Z,_,Z,tZ (λd=>?_) λd=>?_⟩
  ·have d':kd=2:=V.int.inj (eZ d);have e2:=sz2 (by omega);refine⟨_,Z,_,Z,pg,r,pm,n,tx,ts,ms,Z,n5.here,hr5,pt5,by omega,tbd,hm5,lm,cU,λx hx=>by have:=mb x hx;omega,λp pY H6 s6 f6 h6 l6 m6 w6=>?_⟩;exact⟨p,pY,Z,s6,h6,l6,λh=>absurd d' h,λ_=>⟨m6,w6⟩⟩
  ·have d':¬kd=2:=λz=>d (bO (congrArg V.int z));exact⟨pm,ms,Z,aH.refl _,hm5,lm,λ_=>rfl,λh=>absurd h d'⟩
 rintro σ3 H6 ⟨pm',pY,rfl,s6,hm6,lm6,mN,mW⟩;have s06:=s05.trans s6;have T:=R.T;have hl6:=(s35.trans s6) _ _ (n3.same _ _ hl);have pl6:=Paired.bU pl λ_ _ h=>K7.same (n3.same.trans (s35.trans s6)) h;have hg6:=s6 _ _ n5.here;have pt6:=Paired.bU pt5 λ_ _ h=>gR.same s6 h;refine⟨_,Z,pg,_,1,.ref r,Z,Z,cG.of hg6,Z,_,Z,_,Z,a,ns,7,Z,hS.same s06,h63,by decide,by decide,λz7=>⟨_,_,Z,Z,(show(0:Int)<_ by decide),Z,?_⟩⟩;obtain⟨early,eea⟩:∃early:Bool,decide (V.int (z7%2)=V.int 1)=early:=⟨_,Z⟩;dsimp only;rw[eea];refine⟨r,l,tx,ys,ts,rs,n,most,0,early,Z,s6 _ _ hr5,pt6,by omega,hl6,pl6,R,m4,r20,cU,T.pos,by omega,λp4 x4 H7 s7 f4 h4 q4=>?_⟩;obtain⟨v0,hx0,⟨pk,bk,rfl,hTk,hbk,nbk,lbk⟩⟩:=fu pl6 (vz T.pos);refine⟨_,Z,l,_,_,_,Z,Z,bG.of (s7 _ _ hl6),eV (j:=0) hx0,pk,_,_,_,Z,Z,cG.of (s7 _ _ hTk),Z,bk,Z,⟨_,bG.of (s7 _ _ hbk)⟩,?_⟩;have hW4:∀j,(fK rs j).length<=4:=λj=>cW (R.few j) m4;have b10:(fK rs 0).length<=4:=hW4 0;refine Ij (fK rs 0) (λ_=>true) aU.out (bG.of (s7 _ _ hbk)) (by omega) (λv H8 N Z98 _ s8 hN hM=>⟨_,Z,(by show 2<=1000;decide),λp H9 n9=>hN Z p H9 n9⟩) (λH8 p5 x5 H9 s8 n9 q9=>?_);rw[T5.mpr (λ_ _=>rfl)]at q9;have s79:=s8.trans n9.same;have l4:=aY q4;have l9:=aY q9;rw[aN]at l9;have ll:=Nq T hW4 r20 early (show ts.length<=100 by omega) (f:=20) T.pos;refine⟨p4,p5,_,_,Z,Z,s79 _ _ h4,n9.here,by omega,λpW ZG nW=>?_⟩;have a5A:=s7.trans (s79.trans nW.same);obtain⟨ss,ess⟩:∃ss,ss=BJ early ts rs.length (BW rs) (fK rs) 20:=⟨_,Z⟩;have qW:Paired (sH ZG) (x4++x5) ss:=by
  rw[ess];exact jh (Paired.bU q4 λ_ _ h=>sH.same (s79.trans nW.same) h) (Paired.bU q9 λ_ _ h=>sH.same nW.same h)
 have lss:ss.length<=800:=by
  rw[<-aY qW,bW];omega
 obtain⟨wU,b4⟩:=Z5 (n:=n) (wd:=4) (ts:=ts) T cU hW4 nd (λt ht=>(bi t ht).1) (λv v0 vn=>(R.cov v v0 vn).resolve_left d7) (show rs.length<=20 from r20) early;rw[<-ess]at wU b4;have RP:=Go.a5p cU wU;have a6J:=s06.trans a5A;have xl:=aY qW;refine⟨_,Z,_,Z,by omega,by omega,?_⟩;rw[jO];refine vy (λi zs H'=>H'=ZG/\∃ws:List Int,zs=ws.map V.int/\ws.length=i/\∀x∈ws,0<=x/\x<10^30) ⟨Z,[],Z,Z,λx h=>absurd h d7⟩ (λi zs H' hi ⟨e,ws,e1,l1,_⟩=>?_) (λi zs H' hi ⟨e,ws,e1,l1,b1⟩=>?_) ?_
 ·rw[e1,aN,l1];exact dH (cC (by omega))
 ·subst e;refine⟨_,Z,_,Z,_,_,Z,Z,a,ns,_,Z,hS.same a6J,h63,(by omega),(by omega),λz=>⟨_,_,Z,Z,⟨by decide,by decide,by decide⟩,_,_,Z,Z,(show(0:Int)<10^30 by decide),Z,ws++[z%10^30],?_,?_,λx hx=>?_⟩⟩
  ·rw[e1,dF];rfl
  ·rw[bW,l1];rfl
  ·rcases b7.mp hx with h|h
   ·exact b1 x h
   ·rw[bw.mp h];exact⟨qz z (by decide),qx z (by decide)⟩
 rintro zs a5B ⟨rfl,ws,rfl,lw,wb⟩ pw hpw;have BV:=gV.oF (H:=a5B) (p:=pw) (o:=.lst (ws.map V.int)) hpw;generalize cO a5B pw (.lst (ws.map V.int))=Ļ at BV ⊢;have wok:ZP n (some ws)=true:=by
  unfold ZP;rw[oH,dY,IW];refine⟨lw,λx hx=>?_⟩;have:=wb x hx;rw[oH,dY,dY];exact⟨this.1,this.2⟩
 have c4:c<=4:=by omega
 have a1w:=a5A.trans BV.same;have web:∀{G:Hp},aH Ļ G->cG K G pg [.int n,.ref r]/\G r=some (.lst tx)/\Paired (gR G) tx ts/\WtV K G (.ref pw) (some ws):=λ{G} s=>⟨cG.of ((a1w.trans s) _ _ hg6),(a1w.trans s) _ _ (s6 _ _ hr5),Paired.bU pt6 λ_ _ h=>gR.same (a1w.trans s) h,pw,Z,bG.of (s _ _ BV.here)⟩;refine⟨_,Z,_,Z,_,Z,λd0 dx0 f0 fx0 ne0=>?_⟩;have s0:aH Ļ (cO (cO Ļ dx0 (.own d0)) d0 (.ins cA.C dx0 [])):=(qX fx0 _).trans (qX (by rw[aZ (Ne.symm ne0)];exact f0) _);have hd0:cO (cO Ļ dx0 (.own d0)) d0 (.ins cA.C dx0 []) d0=some (.ins cA.C dx0 []):=eG;generalize cO (cO Ļ dx0 (.own d0)) d0 (.ins cA.C dx0 [])=G0 at s0 hd0 ⊢;obtain⟨w1,w2,w3,w4⟩:=web s0;refine⟨d0,dx0,pg,r,n,c,tx,ts,.ref pw,some ws,Z,c4,hd0,w1,w2,w3,by omega,by omega,w4,λws' e=>by cases e;omega,wok,λV9 sd0 at0=>⟨Z,?_⟩⟩;have s12:=QG s0 f0 sd0;refine⟨_,Z,_,Z,λd1 dx1 f1 fx1 ne1=>?_⟩;have s1:aH V9 (cO (cO V9 dx1 (.own d1)) d1 (.ins eX.C dx1 [])):=(qX fx1 _).trans (qX (by rw[aZ (Ne.symm ne1)];exact f1) _);have hd1:cO (cO V9 dx1 (.own d1)) d1 (.ins eX.C dx1 []) d1=some (.ins eX.C dx1 []):=eG;generalize cO (cO V9 dx1 (.own d1)) d1 (.ins eX.C dx1 [])=G1 at s1 hd1 ⊢;obtain⟨w1,w2,w3,w4⟩:=web (s12.trans s1);refine⟨d1,dx1,pg,r,n,tx,ts,.ref pw,some ws,Z,hd1,w1,w2,w3,by omega,by omega,w4,λws' e=>by cases e;omega,wok,λH13 sd1 at1=>⟨Z,?_⟩⟩;have wL:=QG s1 f1 sd1;refine⟨_,Z,_,Z,λd2 ů f2 fx2 ne2=>?_⟩;have s2':aH H13 (cO (cO H13 ů (.own d2)) d2 (.ins eY.C ů [])):=(qX fx2 _).trans (qX (by rw[aZ (Ne.symm ne2)];exact f2) _);have hd2:cO (cO H13 ů (.own d2)) d2 (.ins eY.C ů []) d2=some (.ins eY.C ů []):=eG;generalize cO (cO H13 ů (.own d2)) d2 (.ins eY.C ů [])=G2 at s2' hd2 ⊢;obtain⟨w1,w2,w3,w4⟩:=web (s12.trans (wL.trans s2'));refine⟨d2,ů,pg,r,n,tx,ts,.ref pw,some ws,Z,hd2,w1,w2,w3,by omega,by omega,w4,λws' e=>by cases e;omega,wok,λH14 sd2 at2=>⟨Z,?_⟩⟩;have ZK:=QG s2' f2 sd2;refine⟨(by show 3<=1000;decide),λpL H15 n15=>?_⟩;have ne:∀t∈ts,t.1≠t.2:=λt ht=>by have:=tbd t ht;omega
 have Yq:=s12.trans (wL.trans (ZK.trans n15.same));have DK:=BV.same.trans Yq;have mbb:∀x∈pY,0<=x/\x<10:=λx hx=>by
  by_cases h:kd=2
  ·rcases(mW h).1 x hx with e|e<;>rw[e]<;>decide
  ·rw[mN h]at hx;have:=mb x hx;omega
 have mkb:∀v:Int,0<=v->v<(n:Int)->fL pY v∈pY:=λv v0 vn=>by
  unfold fL;rw[gB,bV (show v.toNat<pY.length by omega)];exact qy _
 have a5C:kd≠2->∀t∈ts,yE kd (fL pY) t.1 t.2=true:=λh t ht=>by
  rw[mN h];exact(bi t ht).2
 have fin:∀{T:List cD}{H17:Hp}{pT:Addr}{yt:List V},T.length=ss.length->(∀k,k<ss.length->Ws kd pY (fM ws pY) n ts ss (T.getD k []) k)->aH Ļ H17->H17 pT=some (.lst yt)->Paired (Wa H17) yt T->(∀E',Ũ K [.int kd,.ref pW,.ref pT,.ref pw,.ref pm'] H17 Q E')/\yt.length=(x4++x5).length:=λ{T H17 pT yt} lT tl Wn hT qT=>by
  refine⟨λE'=>⟨pW,pT,pw,pm',x4++x5,yt,ss,T,ws,pY,n,ts,kd,Z,Wn _ _ (BV.same _ _ nW.here),Paired.bU qW λ_ _ h=>sH.same (BV.same.trans Wn) h,lss,hT,qT,lT,Wn _ _ BV.here,lw,wb,(a1w.trans Wn) _ _ hm6,lm6,mbb,RP,tbd,tl,λH' _=>q H'⟩,?_⟩;rw[aY qT,lT,xl]
 rcases(show kd=0\/kd=1\/kd=2 by omega)with h|h|h
 ·have D:Go.Thing (pqC c ws) n ts (fM ws pY) (λ_=>fL pY):=Go.a3x (λv v0 vn=>by
   have:=mkb v v0 vn;rw[mN (by omega)]at this ⊢;have:=mb _ this;rw[szc h]at this;exact this) (λt ht=>by
   have:=a5C (by omega) t ht;unfold yE at this;rw[aG h]at this;exact eZ this)
  have fj:=KN RP D (kd:=kd) (λtl=>funext λv=>(aG (show kd<2 by omega)).symm) (λe=>absurd e (by omega)) (λe=>rfl);refine⟨_,Z,pL,_,_,.ref d0,Z,Z,bG.of n15.here,(by rw[h];rfl),?_⟩;refine⟨_,Z,pW,_,Z,.inl (bG.of (DK _ _ nW.here)),λpC H16 n16=>⟨_,Z,?_⟩⟩;have g:=Go.Rb (P:=P) (w:=w) (base:=base) (a5k B cA c4 n ts ws lw mJ mK) (Go.okC c4 ws) (λk h=>h) (λ_ _=>trivial) ne cU lss wU b4;refine .inl ⟨⟨n,ts,ws,lw,c,c4⟩,d0,pC,_,ss,Z,Hi.keep (Nd.of (wL.trans (ZK.trans (n15.same.trans n16.same)))) at0,cU,bG.of n16.here,Paired.bU qW λ_ _ h=>sH.v (sH.same (DK.trans n16.same) h),lss,wU,b4,g.1,g.2,λpT yt H17 Wn hT qT=>?_⟩;obtain⟨u1,u2⟩:=fin (j6 _ _ _ _ ss.length) fj (Yq.trans (n16.same.trans Wn)) hT qT;refine⟨_,Z,_,_,_,_,_,Z,Z,sU.lst hT,Ť,_,Z,cN ⟨_,Z,pT,_,Z,.inl (bG.of hT),_,Z,pW,_,Z,.inl (bG.of ((DK.trans (n16.same.trans Wn)) _ _ nW.here)),Z,_,Z,?_⟩⟩;rw[u2,show(!decide (V.int (((x4++x5).length:Nat):Int)=V.int (((x4++x5).length:Nat):Int)))=false by simp];exact cN ⟨_,Z,_,Z,_,Z,_,Z,_,Z,u1 E0⟩
 ·have D:Go.Thing (pqA ws) n ts (fM ws pY) (λ_=>fL pY):=Go.a3y (λv v0 vn=>by
   have:=mkb v v0 vn;rw[mN (by omega)]at this ⊢;have:=mb _ this;rw[sz2 (by omega)]at this;exact this) (λt ht=>by
   have:=a5C (by omega) t ht;unfold yE at this;rw[aB (show ¬kd=0 by omega),bJ (show ¬kd=2 by omega),Ox]at this;exact eZ this)
  have fj:=KN RP D (kd:=kd) (λtl=>funext λv=>(aG (show kd<2 by omega)).symm) (λe=>rfl) (λe=>absurd h e);refine⟨_,Z,pL,_,_,.ref d1,Z,Z,bG.of n15.here,(by rw[h];rfl),?_⟩;refine⟨_,Z,pW,_,Z,.inl (bG.of (DK _ _ nW.here)),λpC H16 n16=>⟨_,Z,?_⟩⟩;have g:=Go.Rb (P:=P) (w:=w) (base:=base) (a5l B eX n ts ws lw mJ mK) (Go.okA ws) (λk h=>h) (λ_ _=>trivial) ne cU lss wU b4;refine .inr (.inl ⟨⟨n,ts,ws,lw,c,c4⟩,d1,pC,_,ss,Z,Hi.keep (Nd.of (ZK.trans (n15.same.trans n16.same))) at1,cU,bG.of n16.here,Paired.bU qW λ_ _ h=>sH.v (sH.same (DK.trans n16.same) h),lss,wU,b4,g.1,g.2,λpT yt H17 Wn hT qT=>?_⟩);obtain⟨u1,u2⟩:=fin (j6 _ _ _ _ ss.length) fj (Yq.trans (n16.same.trans Wn)) hT qT;refine⟨_,Z,_,_,_,_,_,Z,Z,sU.lst hT,Ť,_,Z,cN ⟨_,Z,pT,_,Z,.inl (bG.of hT),_,Z,pW,_,Z,.inl (bG.of ((DK.trans (n16.same.trans Wn)) _ _ nW.here)),Z,_,Z,?_⟩⟩;rw[u2,show(!decide (V.int (((x4++x5).length:Nat):Int)=V.int (((x4++x5).length:Nat):Int)))=false by simp];exact cN ⟨_,Z,_,Z,_,Z,_,Z,_,Z,u1 E0⟩
 ·have D:Go.Thing (pqW ws) n ts (fM ws pY) (Go.fW (fL pY)):=Go.a3z (λv v0 vn=>(mW h).1 _ (mkb v v0 vn)) ne (mW h).2;have fj:=KN RP D (kd:=kd) (λtl=>funext λv=>(aB (show ¬kd<2 by omega)).symm) (λe=>absurd e (by omega)) (λe=>rfl);refine⟨_,Z,pL,_,_,.ref d2,Z,Z,bG.of n15.here,(by rw[h];rfl),?_⟩;refine⟨_,Z,pW,_,Z,.inl (bG.of (DK _ _ nW.here)),λpC H16 n16=>⟨_,Z,?_⟩⟩;have g:=Go.Rb (P:=P) (w:=w) (base:=base) (a5m B Bz eY n ts ws lw mJ mK) (Go.okW ws) (λk h=>h) (λ_ _=>trivial) ne cU lss wU b4;refine .inr (.inr ⟨⟨n,ts,ws,lw,c,c4⟩,d2,pC,_,ss,Z,Hi.keep (Nd.of (n15.same.trans n16.same)) at2,cU,bG.of n16.here,Paired.bU qW λ_ _ h=>sH.v (sH.same (DK.trans n16.same) h),lss,wU,b4,g.1,g.2,λpT yt H17 Wn hT qT=>?_⟩);obtain⟨u1,u2⟩:=fin (j6 _ _ _ _ ss.length) fj (Yq.trans (n16.same.trans Wn)) hT qT;refine⟨_,Z,_,_,_,_,_,Z,Z,sU.lst hT,Ť,_,Z,cN ⟨_,Z,pT,_,Z,.inl (bG.of hT),_,Z,pW,_,Z,.inl (bG.of ((DK.trans (n16.same.trans Wn)) _ _ nW.here)),Z,_,Z,?_⟩⟩;rw[u2,show(!decide (V.int (((x4++x5).length:Nat):Int)=V.int (((x4++x5).length:Nat):Int)))=false by simp];exact cN ⟨_,Z,_,Z,_,Z,_,Z,_,Z,u1 E0⟩
end K
open PySem.W PyProof.Rows
inductive PySem.W.Fast:Prop|tw7180486379212459395|tw10110822911360450731|tw4021472230919898335|tw18053349743525396077|tw15447442950437557286|tw4357750579547262638|tw8660671998538140386|tw16050307880308366924|tw10318047204729208831|tw5644067220455640872|tw3757157880822076773|tw4267697522236267410|tw4150334423162788432|tw4070025025420521026|tw18061431961529589837|tw9258841117810692074|tw8769332103609732742|tw14037147674220103960|tw14891089953531346973|tw9923323527149684067|tw13342923720804915033|tw11523941388631504659|tw195103733939945110|tw9444947218043246038|tw5983127778343514815|tw12725261897671265805|tw16050347210834706807|tw5772313703610596718|tw16763681104388437905|tw2449537774478841920|tw783740639108363571|tw10144224041667242735|tw11135323394523010261|tw5381633155873192237|tw1751997032102132289|tw17813262659752939163|tw4293551379067722121|tw11981392725207181597|tw15515267206607599293|tw4408479219218009326|tw4093588207334896813|tw8714448891015534415|tw13745726610168232750|tw12726217206544192052|tw3472609880585471746|tw9928492533524204045|tw6467632688943699912|tw1055947520461796045|tw11782797983546457080|tw13010881285933627875|tw12306835740258100248|tw8481691206743066228|tw16792268199894779943|tw16034031840809599195|tw5018859738011371541|tw5884120805911418818|tw17701045253651445494|tw18062057990620919335|tw2834400102320762811|tw17296293201591987449|tw5442587407038108084|tw15985123846414384696|tw9029156049563293673|tw16695392476282032458|tw13672489757170357521|tw6825128215632803668|tw14331957849129354520|tw12992103788087439708|tw14548725552372995584|tw15991895835200366109|tw7799094160619913801|tw13582590857587222759|tw1886987562096686967|tw4773042858102612239|tw4541804996818415983|tw8793807320470847622|tw16279914886276061523|tw16848678851970837630|tw6210374644754087127|tw17591089049315469377|tw13185167515250495432|tw18075715768586253479|tw2029568784001417227|tw9387184690661692694|tw13767585725024889374|tw375644247974172032|tw3411484785216262169|tw16228320507901834799|tw11272436404129520050|tw9606491430793157820|tw3806607433575856775|tw1416331244123990738|tw14922551476140944913|tw8898308766840107232|tw7176562917277442757|tw3166607436931104633|tw2231756470520542292|tw12941803853057742358|tw4764258809130248391|tw7282367271220752666|tw10057469741852826132|tw7621109634549765168|tw1396535699655128017|tw1802494427677727126|tw15517269723040308339|tw5105347237794368976|tw16333975516955776710|tw7436355437094757229|tw18252742022355382357|tw15022939447855426907|tw15110359462448713986|tw732247847053116802|tw4022298159679463798|tw1766780623914193122|tw12503799385979788915|tw2750913220915774607|tw2261944964478898396|tw13510490505524012435|tw14303649081480731143|tw16847296976284273983|tw8623186614509448186|tw3221557459931857824|tw16296193231099678340|tw7091951654495211910|tw14531245345925922935|tw2508500802521476657|tw8599990535857410162|tw5377141162352669381|tw7423164700410941521|tw256350012139968685|tw8365400025679356800|tw12239357248365230552|tw1461533894263257310|tw11349039234257246583
set_option maxRecDepth 100000 in
set_option maxHeartbeats 0 in
theorem PySem.Challenge.cw_bagwood_k65_drawn_things_go_up_holds : PySem.Challenge.rw_bagwood_k65_drawn_things_go_up.Holds := by
 w_on;o_law;k_head;(case hw=>w_witness2)
 k_fill
 refine L2.ð (l:=PySem.Challenge.rw_bagwood_k65_drawn_things_go_up) (n:=63) (k:=24) (x:="_law_script") (CX:=L2.gj) (sp:=Lw.a1D) rfl (by decide) rfl ⟨rfl,by decide,by decide⟩ (λw h Z99=>PySem.W.kIn_of Z99) ?F ?S ?C
 case F =>
  intro w mg fa h KX G hmg
  have B:L2.Bl mg:=by
   refine' L2.a4v KX G ?z1 ?z2 ?z3 ?z4 ?z5 ?z6 ?z7 ?z8 ?z9 ?z10 ?z11 ?z12 ?z13 ?z14 ?z15 ?z16 ?z17
   all_goals k_is
  have Bz:mg "zip" = none:=by
   refine' PySem.W.mg_none_of KX G ?z
   k_is
  obtain⟨kE⟩:Nonempty (L2.Dn (L2.KOf KX) mg "is_whole" K.Ay ["thing"]):=by dsimp only[L2.KOf];refine' L2.Qd KX G ?a ?l ?c ?k rfl (λ_ _ _ _ _ _ _=>rfl);case a|l|c|k=>k_is
  obtain⟨jL⟩:Nonempty (L2.Dn (L2.KOf KX) mg "is_below" K.gA ["n","thing"]):=by dsimp only[L2.KOf];refine' L2.rY KX G ?a ?l ?c ?k rfl (λ_ _ _ _ _ _ _ _=>rfl);case a|l|c|k=>k_is
  obtain⟨qe⟩:Nonempty (L2.Dn (L2.KOf KX) mg "joint" K.qO ["one","other"]):=by dsimp only[L2.KOf];refine' L2.rY KX G ?a ?l ?c ?k rfl (λ_ _ _ _ _ _ _ _=>rfl);case a|l|c|k=>k_is
  obtain⟨nJ⟩:Nonempty (L2.Dn (L2.KOf KX) mg "less" K.um ["one","other"]):=by dsimp only[L2.KOf];refine' L2.rY KX G ?a ?l ?c ?k rfl (λ_ _ _ _ _ _ _ _=>rfl);case a|l|c|k=>k_is
  obtain⟨K5⟩:Nonempty (L2.Dn (L2.KOf KX) mg "bag_behind" K.gC ["graph","done","step","used"]):=by dsimp only[L2.KOf];refine' L2.wH KX G ?a ?l ?c ?k rfl (λ_ _ _ _ _ _ _ _ _ _=>rfl);case a|l|c|k=>k_is
  obtain⟨wX⟩:Nonempty (L2.Dn (L2.KOf KX) mg "run" K.J3 ["graph","steps"]):=by dsimp only[L2.KOf];refine' L2.rY KX G ?a ?l ?c ?k rfl (λ_ _ _ _ _ _ _ _=>rfl);case a|l|c|k=>k_is
  obtain⟨vK⟩:Nonempty (L2.Dn (L2.KOf KX) mg "fault_behind" K.fX ["graph","steps","tops","pile"]):=by dsimp only[L2.KOf];refine' L2.wH KX G ?a ?l ?c ?k rfl (λ_ _ _ _ _ _ _ _ _ _=>rfl);case a|l|c|k=>k_is
  obtain⟨zG⟩:Nonempty (L2.Dn (L2.KOf KX) mg "run_whole" K.nZ ["graph","steps"]):=by dsimp only[L2.KOf];refine' L2.rY KX G ?a ?l ?c ?k rfl (λ_ _ _ _ _ _ _ _=>rfl);case a|l|c|k=>k_is
  obtain⟨zH⟩:Nonempty (L2.Dn (L2.KOf KX) mg "refuse_wide" K.u6 ["bags"]):=by dsimp only[L2.KOf];refine' L2.Qd KX G ?a ?l ?c ?k rfl (λ_ _ _ _ _ _ _=>rfl);case a|l|c|k=>k_is
  obtain⟨Dd⟩:Nonempty (L2.Dn (L2.KOf KX) mg "run_narrow" K.pK ["graph","steps"]):=by dsimp only[L2.KOf];refine' L2.rY KX G ?a ?l ?c ?k rfl (λ_ _ _ _ _ _ _ _=>rfl);case a|l|c|k=>k_is
  obtain⟨wV⟩:Nonempty (L2.Dn (L2.KOf KX) mg "states_behind" K.gU ["question","old","step","bag"]):=by dsimp only[L2.KOf];refine' L2.wH KX G ?a ?l ?c ?k rfl (λ_ _ _ _ _ _ _ _ _ _=>rfl);case a|l|c|k=>k_is
  obtain⟨su⟩:Nonempty (L2.Dn (L2.KOf KX) mg "note" K.wK ["question","table","state","row"]):=by dsimp only[L2.KOf];refine' L2.wH KX G ?a ?l ?c ?k rfl (λ_ _ _ _ _ _ _ _ _ _=>rfl);case a|l|c|k=>k_is
  obtain⟨zE⟩:Nonempty (L2.Dn (L2.KOf KX) mg "fill_along" K.lX ["question","table","source","step","bag"]):=by dsimp only[L2.KOf];refine' L2.VF KX G ?a ?l ?c ?k rfl (λ_ _ _ _ _ _ _ _ _ _ _=>rfl);case a|l|c|k=>k_is
  obtain⟨ye⟩:Nonempty (L2.Dn (L2.KOf KX) mg "fill_joined" K.jo ["question","table","source","another"]):=by dsimp only[L2.KOf];refine' L2.wH KX G ?a ?l ?c ?k rfl (λ_ _ _ _ _ _ _ _ _ _=>rfl);case a|l|c|k=>k_is
  obtain⟨Ax⟩:Nonempty (L2.Dn (L2.KOf KX) mg "going_up" K.qD ["steps","question","tops","feeds"]):=by dsimp only[L2.KOf];refine' L2.wH KX G ?a ?l ?c ?k rfl (λ_ _ _ _ _ _ _ _ _ _=>rfl);case a|l|c|k=>k_is
  obtain⟨Bk⟩:Nonempty (L2.Dn (L2.KOf KX) mg "without_sources" K.kh ["table"]):=by dsimp only[L2.KOf];refine' L2.Qd KX G ?a ?l ?c ?k rfl (λ_ _ _ _ _ _ _=>rfl);case a|l|c|k=>k_is
  obtain⟨Hh⟩:Nonempty (L2.Dn (L2.KOf KX) mg "tables" K.Kf ["steps","question"]):=by dsimp only[L2.KOf];refine' L2.rY KX G ?a ?l ?c ?k rfl (λ_ _ _ _ _ _ _ _=>rfl);case a|l|c|k=>k_is
  obtain⟨sZ⟩:Nonempty (L2.Dn (L2.KOf KX) mg "weights_of" K.jT ["many","weights"]):=by dsimp only[L2.KOf];refine' L2.rY KX G ?a ?l ?c ?k rfl (λ_ _ _ _ _ _ _ _=>rfl);case a|l|c|k=>k_is
  obtain⟨mJ⟩:Nonempty (L2.Dn (L2.KOf KX) mg "with_number" K.fQ ["state","spot","number"]):=by dsimp only[L2.KOf];refine' L2.ė KX G ?a ?l ?c ?k rfl (λ_ _ _ _ _ _ _ _ _=>rfl);case a|l|c|k=>k_is
  obtain⟨mK⟩:Nonempty (L2.Dn (L2.KOf KX) mg "without_number" K.cY ["state","spot"]):=by dsimp only[L2.KOf];refine' L2.rY KX G ?a ?l ?c ?k rfl (λ_ _ _ _ _ _ _ _=>rfl);case a|l|c|k=>k_is
  obtain⟨oE⟩:Nonempty (L2.Dn (L2.KOf KX) mg "_law_at" K.tH ["_law_script","_law_k"]):=by dsimp only[L2.KOf];refine' L2.rY KX G ?a ?l ?c ?k rfl (λ_ _ _ _ _ _ _ _=>rfl);case a|l|c|k=>k_is
  obtain⟨ŷ⟩:Nonempty (L2.Dn (L2.KOf KX) mg "_law_rows" K.uN ["_law_script","_law_n","_law_most"]):=by dsimp only[L2.KOf];refine' L2.ė KX G ?a ?l ?c ?k rfl (λ_ _ _ _ _ _ _ _ _=>rfl);case a|l|c|k=>k_is
  obtain⟨Ç⟩:Nonempty (L2.Dn (L2.KOf KX) mg "_law_may" K.uz ["_law_kind","_law_marks","_law_a","_law_b"]):=by dsimp only[L2.KOf];refine' L2.wH KX G ?a ?l ?c ?k rfl (λ_ _ _ _ _ _ _ _ _ _=>rfl);case a|l|c|k=>k_is
  obtain⟨Ŝ⟩:Nonempty (L2.Dn (L2.KOf KX) mg "_law_ties" K.rE ["_law_script","_law_rows_here","_law_n","_law_kind","_law_marks"]):=by dsimp only[L2.KOf];refine' L2.VF KX G ?a ?l ?c ?k rfl (λ_ _ _ _ _ _ _ _ _ _ _=>rfl);case a|l|c|k=>k_is
  obtain⟨Ÿ⟩:Nonempty (L2.Dn (L2.KOf KX) mg "_law_watching" K.mZ ["_law_web","_law_marks"]):=by dsimp only[L2.KOf];refine' L2.rY KX G ?a ?l ?c ?k rfl (λ_ _ _ _ _ _ _ _=>rfl);case a|l|c|k=>k_is
  obtain⟨Gy⟩:Nonempty (L2.Dn (L2.KOf KX) mg "_law_laid" K.lH ["_law_ties_here","_law_rows_here","_law_k","_law_early"]):=by dsimp only[L2.KOf];refine' L2.wH KX G ?a ?l ?c ?k rfl (λ_ _ _ _ _ _ _ _ _ _=>rfl);case a|l|c|k=>k_is
  obtain⟨È⟩:Nonempty (L2.Dn (L2.KOf KX) mg "_law_state" K.pZ ["_law_kind","_law_bag","_law_ties_here","_law_marks"]):=by dsimp only[L2.KOf];refine' L2.wH KX G ?a ?l ?c ?k rfl (λ_ _ _ _ _ _ _ _ _ _=>rfl);case a|l|c|k=>k_is
  obtain⟨Â⟩:Nonempty (L2.Dn (L2.KOf KX) mg "_law_row" K.qL ["_law_found","_law_state_here"]):=by dsimp only[L2.KOf];refine' L2.rY KX G ?a ?l ?c ?k rfl (λ_ _ _ _ _ _ _ _=>rfl);case a|l|c|k=>k_is
  obtain⟨Ź⟩:Nonempty (L2.Dn (L2.KOf KX) mg "_law_up" K.zy ["_law_kind","_law_steps","_law_told","_law_weights","_law_marks"]):=by dsimp only[L2.KOf];refine' L2.VF KX G ?a ?l ?c ?k rfl (λ_ _ _ _ _ _ _ _ _ _ _=>rfl);case a|l|c|k=>k_is
  obtain⟨Wv⟩:Nonempty (L2.Dn (L2.KOf KX) mg "law" K.Yp ["_law_script"]):=by dsimp only[L2.KOf];refine' L2.Qd KX G ?a ?l ?c ?k rfl (λ_ _ _ _ _ _ _=>rfl);case a|l|c|k=>k_is
  obtain⟨U⟩:Nonempty (L2.Used w (L2.KOf KX) mg):=by
   dsimp only[L2.KOf]
   refine' L2.a0s KX G ?a ?l ?c
   (case a=>k_is);(case l=>k_is);(case c=>exact⟨_,_,_,_,_,_,_,_,_,_,rfl⟩)
  obtain⟨cB⟩:Nonempty (K.qI (L2.KOf KX) mg):=by dsimp only[L2.KOf];refine'⟨{C:=_,cl:=⟨?pg,?hd,?po,?sa⟩,m:=PySem.W.mg_of KX G ?a,bN:=L2.oW (st:=K.mH) (ps:=["self","graph","leaf","whole"]) ?iR ?iU ?nP ?nQ ?lN (λ_ _ _ _ _ _ us hl=>match us,(hl:us.length = 4) with|[_,_,_,_],_=>rfl),uK:=⟨?ga,⟨.type "type",?S5,?S6⟩,?lN⟩,ų:=⟨?mk,?iR,?iU,?kc⟩}⟩;case a|pg|hd|po|sa|mk|kc|iR|iU|nP|nQ|lN|ga|S6|S5=>k_is
  obtain⟨cA⟩:Nonempty (K.zp (L2.KOf KX) mg):=by dsimp only[L2.KOf];refine'⟨{C:=_,cl:=⟨?pg,?hd,?po,?sa⟩,m:=PySem.W.mg_of KX G ?a,fD:=?fD,iw:=?iw,fV:=?fV,Kc:=?Kc,fC:=?fC,bN:=L2.VP (st:=K.nO) (ps:=["self","graph","many","weights"]) ?iR ?iU ?nP ?nQ ?lN ?uD (λ_ _ _ _ _ _ us hl=>match us,(hl:us.length = 4) with|[_,_,_,_],_=>⟨_,rfl,rfl⟩) (λ_ _ _ _ _ _ us hl=>match us,(hl:us.length + 1 = 4) with|[_,_,_],_=>⟨_,rfl,rfl⟩),dW:=L2.oW (st:=K.fB) (ps:=["self","one","other"]) ?rF ?rG ?rH ?rJ ?rK (λ_ _ _ _ _ _ us hl=>match us,(hl:us.length = 3) with|[_,_,_],_=>rfl),jd:=L2.oW (st:=K.gM) (ps:=["self","state"]) ?yG ?yH ?yI ?yJ ?yK (λ_ _ _ _ _ _ us hl=>match us,(hl:us.length = 2) with|[_,_],_=>rfl),je:=L2.oW (st:=K.gO) (ps:=["self","one","other"]) ?yL ?yM ?yN ?yO ?yP (λ_ _ _ _ _ _ us hl=>match us,(hl:us.length = 3) with|[_,_,_],_=>rfl),jf:=L2.oW (st:=K.lY) (ps:=["self","state","spot","v"]) ?yQ ?yR ?yS ?yU ?yV (λ_ _ _ _ _ _ us hl=>match us,(hl:us.length = 4) with|[_,_,_,_],_=>rfl),pI:=L2.oW (st:=K.oX) (ps:=["self","state","one","other","tie"]) ?KQ ?KR ?KY ?KZ ?K1 (λ_ _ _ _ _ _ us hl=>match us,(hl:us.length = 5) with|[_,_,_,_,_],_=>rfl),dX:=L2.oW (st:=K.jz) (ps:=["self","state","spot","v"]) ?rM ?rN ?rO ?rP ?rQ (λ_ _ _ _ _ _ us hl=>match us,(hl:us.length = 4) with|[_,_,_,_],_=>rfl),ų:=⟨?mk,?iR,?iU,?kc⟩}⟩;(case a|pg|hd|po|sa|mk|kc|iR|iU|nP|nQ|lN|uD|rF|rG|rH|rJ|rK|yG|yH|yI|yJ|yK|yL|yM|yN|yO|yP|yQ|yR|yS|yU|yV|KQ|KR|KY|KZ|K1|rM|rN|rO|rP|rQ=>k_is);case fD|iw|fV|Kc|fC=>unfold L2.eO;k_is
  obtain⟨eX⟩:Nonempty (K.HX (L2.KOf KX) mg):=by dsimp only[L2.KOf];refine'⟨{C:=_,cl:=⟨?pg,?hd,?po,?sa⟩,m:=PySem.W.mg_of KX G ?a,fD:=?fD,iw:=?iw,fV:=?fV,fC:=?fC,bN:=L2.VP (st:=K.qG) (ps:=["self","graph","weights"]) ?iR ?iU ?nP ?nQ ?lN ?uD (λ_ _ _ _ _ _ us hl=>match us,(hl:us.length = 3) with|[_,_,_],_=>⟨_,rfl,rfl⟩) (λ_ _ _ _ _ _ us hl=>match us,(hl:us.length + 1 = 3) with|[_,_],_=>⟨_,rfl,rfl⟩),dW:=L2.oW (st:=K.j7) (ps:=["self","one","other"]) ?rF ?rG ?rH ?rJ ?rK (λ_ _ _ _ _ _ us hl=>match us,(hl:us.length = 3) with|[_,_,_],_=>rfl),jd:=L2.oW (st:=K.gM) (ps:=["self","state"]) ?yG ?yH ?yI ?yJ ?yK (λ_ _ _ _ _ _ us hl=>match us,(hl:us.length = 2) with|[_,_],_=>rfl),je:=L2.oW (st:=K.gO) (ps:=["self","one","other"]) ?yL ?yM ?yN ?yO ?yP (λ_ _ _ _ _ _ us hl=>match us,(hl:us.length = 3) with|[_,_,_],_=>rfl),jf:=L2.oW (st:=K.oY) (ps:=["self","state","spot","v"]) ?yQ ?yR ?yS ?yU ?yV (λ_ _ _ _ _ _ us hl=>match us,(hl:us.length = 4) with|[_,_,_,_],_=>rfl),pI:=L2.oW (st:=K.sX) (ps:=["self","state","one","other","tie"]) ?KQ ?KR ?KY ?KZ ?K1 (λ_ _ _ _ _ _ us hl=>match us,(hl:us.length = 5) with|[_,_,_,_,_],_=>rfl),dX:=L2.oW (st:=K.j8) (ps:=["self","state","spot","v"]) ?rM ?rN ?rO ?rP ?rQ (λ_ _ _ _ _ _ us hl=>match us,(hl:us.length = 4) with|[_,_,_,_],_=>rfl),ų:=⟨?mk,?iR,?iU,?kc⟩}⟩;(case a|pg|hd|po|sa|mk|kc|iR|iU|nP|nQ|lN|uD|rF|rG|rH|rJ|rK|yG|yH|yI|yJ|yK|yL|yM|yN|yO|yP|yQ|yR|yS|yU|yV|KQ|KR|KY|KZ|K1|rM|rN|rO|rP|rQ=>k_is);case fD|iw|fV|fC=>unfold L2.eO;k_is
  obtain⟨eY⟩:Nonempty (K.HY (L2.KOf KX) mg):=by dsimp only[L2.KOf];refine'⟨{C:=_,cl:=⟨?pg,?hd,?po,?sa⟩,m:=PySem.W.mg_of KX G ?a,fD:=?fD,iw:=?iw,fV:=?fV,fC:=?fC,bN:=L2.VP (st:=K.qH) (ps:=["self","graph","weights"]) ?iR ?iU ?nP ?nQ ?lN ?uD (λ_ _ _ _ _ _ us hl=>match us,(hl:us.length = 3) with|[_,_,_],_=>⟨_,rfl,rfl⟩) (λ_ _ _ _ _ _ us hl=>match us,(hl:us.length + 1 = 3) with|[_,_],_=>⟨_,rfl,rfl⟩),dW:=L2.oW (st:=K.fB) (ps:=["self","one","other"]) ?rF ?rG ?rH ?rJ ?rK (λ_ _ _ _ _ _ us hl=>match us,(hl:us.length = 3) with|[_,_,_],_=>rfl),jd:=L2.oW (st:=K.oZ) (ps:=["self","state"]) ?yG ?yH ?yI ?yJ ?yK (λ_ _ _ _ _ _ us hl=>match us,(hl:us.length = 2) with|[_,_],_=>rfl),je:=L2.oW (st:=K.pB) (ps:=["self","one","other"]) ?yL ?yM ?yN ?yO ?yP (λ_ _ _ _ _ _ us hl=>match us,(hl:us.length = 3) with|[_,_,_],_=>rfl),jf:=L2.oW (st:=K.pG) (ps:=["self","state","spot","v"]) ?yQ ?yR ?yS ?yU ?yV (λ_ _ _ _ _ _ us hl=>match us,(hl:us.length = 4) with|[_,_,_,_],_=>rfl),pI:=L2.oW (st:=K.pH) (ps:=["self","state","one","other","tie"]) ?KQ ?KR ?KY ?KZ ?K1 (λ_ _ _ _ _ _ us hl=>match us,(hl:us.length = 5) with|[_,_,_,_,_],_=>rfl),dX:=L2.oW (st:=K.j9) (ps:=["self","state","spot","v"]) ?rM ?rN ?rO ?rP ?rQ (λ_ _ _ _ _ _ us hl=>match us,(hl:us.length = 4) with|[_,_,_,_],_=>rfl),ų:=⟨?mk,?iR,?iU,?kc⟩}⟩;(case a|pg|hd|po|sa|mk|kc|iR|iU|nP|nQ|lN|uD|rF|rG|rH|rJ|rK|yG|yH|yI|yJ|yK|yL|yM|yN|yO|yP|yQ|yR|yS|yU|yV|KQ|KR|KY|KZ|K1|rM|rN|rO|rP|rQ=>k_is);case fD|iw|fV|fC=>unfold L2.eO;k_is
  obtain⟨Ct⟩:Nonempty (K.Ų mg):=by
   refine' K.a3p KX G ?Hx ?K3 ?Lx
   case Hx|K3|Lx=>k_is
  exact L2.a2y hmg Wv λbase=>K.a3M B Bz cB cA eX eY U Ct kE jL qe nJ K5 wX vK zG zH Dd wV su zE ye Ax Bk Hh sZ mJ mK oE ŷ Ç Ŝ Ÿ Gy È Â Ź Wv
 case S=>exact λK H a ns hl hO hS=>⟨a,ns,rfl,Lw.Æ.of hO hS,hl,λ_=>rfl⟩
 case C=>exact λ_ _ _ _ z=>z
