import PyProof.Rows.All
import Wide.All
import OpenK.AllK
import Wide.FinOn
import KE.KDictOf
import KE.KDictSum
import KE.KIntText
import KE.KItem
import KE.KRevIter
import OpenK.KOwn
import PyProof.AttrMissHeap
import PyProof.AutoSeq1
import PyProof.CodeObj
import PyProof.CollectWalk
import PyProof.ConsumeWalk
import PyProof.Conv_int_bool
import PyProof.DictIter
import PyProof.DictKinds
import PyProof.DictUpdate
import PyProof.Draws
import PyProof.EnumIter
import PyProof.EnumMake
import PyProof.EqAt
import PyProof.EqKinds
import PyProof.ExcArgsOwn
import PyProof.FactsAll.dict_1
import PyProof.FactsAll.set
import PyProof.FactsAll.set_2
import PyProof.ListMulRoad
import PyProof.ListNew
import PyProof.ListStr
import PyProof.NeData
import PyProof.P3In
import PyProof.Rows.DictSet
import PyProof.Rows.Range3
import PyProof.Rows.SetFrom
import PyProof.Rows.SortShell
import PyProof.Rows.SortStr
import PyProof.Rows.SortWalk
import PyProof.SeqI3
import PyProof.SetKind
import PyProof.StrLawsIn
import PyProof.StrOps2
import PyProof.StrWalks
import PyProof.TupleCall
import PyProof.TupleOps
import PyProof.Walks
import PyProof.WalksMore
import PyProof.WalksS
import PyProof.ZipIter
import Lean
import PySem.Challenge.RW_piecebooks_k30_best
abbrev qQ3:=PySem.Str->Option PySem.Value
abbrev qQ2:=PySem.Value->PySem.Shared->Prop
abbrev qQ1:=List (List Nat)
abbrev qQ0:=PySem.W.Frag
set_option Elab.async false
set_option linter.all false
set_option maxRecDepth 100000
abbrev la:=@PySem.wpAny_bind
abbrev lb:=@List.getElem?_eq_getElem
abbrev lg:=@PySem.Heap.get?_push_of_some
abbrev lh:=@List.getD_eq_getElem?_getD
abbrev lp:=@Option.some.inj
abbrev lq:=@PySem.wpAny_pure
abbrev lr:=@List.map_cons
abbrev lu:=@Nat.le_refl
abbrev lx:=@List.getElem?_eq_some_iff
abbrev ly:=@PySem.Heap.lt_size
abbrev lz:=@List.mem_cons
abbrev lB:=@Nat.lt_of_lt_of_le
abbrev lC:=@PySem.Heap.get?_push_size
abbrev lD:=@List.length_map
abbrev lE:=@Bool.false_ne_true
abbrev lF:=@List.mem_cons_of_mem
abbrev lG:=@Bool.and_eq_true
abbrev lH:=@List.getElem?_map
abbrev lI:=@List.size_toArray
abbrev lJ:=@List.mem_cons_self
abbrev lK:=@List.mem_singleton
abbrev lM:=@List.length_cons
abbrev lN:=@PySem.PassesOwn.never
abbrev lO:=@if_pos
abbrev lP:=@decide_eq_true
abbrev lQ:=@Bool.false_eq_true
abbrev lR:=@Nat.ne_of_lt
abbrev lS:=@decide_eq_false
abbrev lT:=@PySem.wpAny_callSpecial?_slot
abbrev lU:=@List.length_append
abbrev lV:=@List.mem_append_right
abbrev lW:=@List.length_take
abbrev lX:=@List.append_nil
abbrev lY:=@if_neg
abbrev lZ:=@PySem.wpAny_call_entry
abbrev laa:=@List.isPrefixOf_iff_prefix
abbrev lab:=@Int.le_of_lt
abbrev lac:=@List.drop_eq_getElem_cons
abbrev lad:=@List.mem_of_getElem?
abbrev lae:=@decide_eq_true_eq
abbrev laf:=@PySem.wpAny_field
abbrev lag:=@List.all_eq_true
abbrev lah:=@List.length_nil
abbrev lai:=@List.getElem?_cons_zero
abbrev laj:=@List.getElem?_cons_succ
abbrev lak:=@PySem.W.mg_none_of
abbrev lal:=@List.getElem?_set_ne
abbrev lan:=@List.idxOf_lt_length_iff
abbrev lao:=@List.sum_cons
abbrev lap:=@List.mem_append
abbrev laq:=@List.drop_of_length_le
abbrev lar:=@List.take_of_length_le
abbrev las:=@PySem.Heap.size_push
abbrev lat:=@Int.eq_ofNat_of_zero_le
abbrev lau:=@List.map_append
abbrev lav:=@List.cons_lt_cons_iff
abbrev laz:=@PySem.wpAny_newObj_type
abbrev laA:=@PySem.mem_of_lookup
abbrev laB:=@Int.mul_le_mul_of_nonneg_left
abbrev laC:=@Nat.le_trans
abbrev laD:=@Array.getElem?_eq_getElem
abbrev laE:=@Int.toNat_natCast
abbrev laF:=@List.pairwise_cons
abbrev laG:=@List.cons_append
abbrev laH:=@List.nil_append
abbrev laI:=@List.mem_map
abbrev laJ:=@List.getElem?_append_right
abbrev laK:=@List.getElem_mem
abbrev laL:=@List.map_nil
abbrev laM:=@Nat.zero_add
abbrev laN:=@List.map_map
abbrev laO:=@List.set_cons_zero
abbrev laP:=@List.set_cons_succ
abbrev laQ:=@PySem.sizeLine_eq
abbrev laR:=@PySem.wpAny_holding
abbrev laS:=@Int.mul_assoc
abbrev laT:=@PySem.wpAny_mono
abbrev laU:=@PyProof.Rows.callWith_type1
abbrev laV:=@PyProof.Rows.slot_tuple_getitem
abbrev laW:=@List.getElem?_nil
abbrev laX:=@PySem.F.slot_dict_keyiterator_next
abbrev laY:=@List.getElem?_append_left
abbrev laZ:=@of_decide_eq_true
abbrev la0:=@Bool.not_false
abbrev la1:=@Nat.ne_of_gt
abbrev la2:=@Int.mul_comm
abbrev la3:=@if_false
abbrev la4:=@PySem.W.mg_of
abbrev la5:=@List.foldl_cons
abbrev la6:=@PySem.F.slot_zip_next
abbrev la7:=@List.not_lt
abbrev la8:=@PySem.wpAny_seqItems
abbrev la9:=@PySem.wpAny_truthy_bool
abbrev lba:=@List.append_assoc
abbrev lbb:=@List.take_add_one
abbrev lbc:=@Int.mul_le_mul_of_nonneg_right
abbrev lbd:=@List.prefix_append
abbrev lbe:=@List.prefix_concat_iff
abbrev lbf:=@List.mem_filter
abbrev lbg:=@PySem.Heap.SameBut.update
abbrev lbh:=@List.map_congr_left
abbrev lbi:=@List.length_range
abbrev lbj:=@Int.mul_le_mul
abbrev lbk:=@PySem.wpAny_Call_Name_kw
abbrev lbl:=@List.getElem?_replicate
abbrev lbm:=@Nat.zero_le
abbrev lbn:=@PySem.Obj.data_mapFields
abbrev lbo:=@PySem.wpAny_setField_rec
abbrev lbp:=@List.length_eq_zero_iff
abbrev lbq:=@Bool.not_true
abbrev lbr:=@Int.pow_succ
abbrev lbs:=@Array.length_toList
abbrev lbt:=@List.replicate_succ
abbrev lbu:=@List.nodup_append
abbrev lbv:=@List.all_cons
abbrev lbw:=@List.Perm.refl
abbrev lbx:=@List.nodup_cons
abbrev lby:=@if_true
abbrev lbz:=@PySem.F.slot_str_ascii_iterator_next
abbrev lbA:=@List.zip_cons_cons
abbrev lbB:=@Int.emod_lt_of_pos
abbrev lbC:=@PySem.wpAny_typeNameOfWhole_keyiter
abbrev lbD:=@List.mem_of_mem_take
abbrev lbE:=@Nat.lt_irrefl
abbrev lbF:=@Ne.symm
abbrev lbG:=@congrArg
abbrev lbH:=@PySem.wpAny_attempt
abbrev lbI:=@PySem.boot_len
abbrev lbJ:=@List.mem_range
abbrev lbK:=@List.nodup_nil
abbrev lbL:=@PySem.wpAny_loadPart_at
abbrev lbM:=@PySem.W.kia_one
abbrev lbN:=@List.length_pos_iff
abbrev lbO:=@Array.getElem?_eq_none
abbrev lbP:=@PySem.F.slot_tuple_iterator_next
abbrev lbQ:=@List.perm_ext_iff_of_nodup
abbrev lbR:=@Nat.le_add_right
abbrev lbS:=@List.any_eq_true
abbrev lbT:=@PySem.F.slot_zip_next
abbrev lbU:=@List.getElem_idxOf
abbrev lbV:=@Classical.byContradiction
abbrev lbW:=@PySem.wpAny_setField
abbrev lbX:=@List.mem_append_left
abbrev lbY:=@List.dropLast_prefix
abbrev lbZ:=@PySem.wpAny_passesOwn
abbrev lb0:=@List.flatten_cons
abbrev lb1:=@List.forIn_cons
abbrev lb2:=@PySem.F.args_zip_next_1
abbrev lb3:=@PySem.Heap.dictOf_iff
abbrev lb4:=@Nat.lt_succ_of_lt
abbrev lb5:=@Bool.not_eq_true'
abbrev lb6:=@Nat.min_eq_left
abbrev lb7:=@Int.emod_nonneg
abbrev lb8:=@PySem.F.plainAttrs_list
abbrev lb9:=@List.length_drop
abbrev lca:=@PySem.F.entry_zip_next
abbrev lcb:=@List.lookup_cons
abbrev lcc:=@List.mem_nil_iff
abbrev lcd:=@List.prefix_refl
abbrev lce:=@List.forIn_nil
abbrev lcf:=@List.take_zero
abbrev lcg:=@List.lt_irrefl
abbrev lch:=@Int.mul_nonneg
abbrev lci:=@List.find?_cons_of_neg
abbrev lcj:=@List.of_mem_zip
abbrev lck:=@List.length_replicate
abbrev lcl:=@List.length_singleton
abbrev lcn:=@List.find?_cons
abbrev lco:=@PySem.Heap.get?_update_self
abbrev lcp:=@PySem.Obj.isFreed_of_fields
abbrev lcq:=@Int.pow_pos
abbrev lcr:=@List.nil_prefix
abbrev lct:=@List.idxOf_lt_length_of_mem
abbrev lcu:=@PySem.wpAny_pyIter_list
abbrev lcv:=@Int.eq_of_mul_eq_mul_right
abbrev lcw:=@PySem.F.excBase_ValueError
abbrev lcx:=@List.dropLast_concat
abbrev lcy:=@PySem.Calls.call_function_entry
abbrev lcz:=@List.pairwise_iff_getElem
abbrev lcA:=@List.take_prefix
abbrev lcB:=@PySem.Heap.size_update
abbrev lcC:=@PySem.W.Looks.at
abbrev lcD:=@beq_eq_false_iff_ne
abbrev lcE:=@List.filterMap_cons
abbrev lcF:=@PySem.wpAny_rule
abbrev lcG:=@PySem.F.args_tuple_add_2
abbrev lcH:=@PySem.wpAny_typeOf
abbrev lcI:=@PySem.call_meets
abbrev lcJ:=@List.Perm.eq_of_pairwise
abbrev lcK:=@Nat.lt_or_ge
abbrev lcL:=@PySem.wpAny_pyIter_tuple
abbrev lcM:=@PySem.F.entry_tuple_add
abbrev lcN:=@Array.forIn_toList
abbrev lcO:=@PySem.F.slot_zip_getattribute
abbrev lcP:=@PySem.codeAny_builtin
abbrev lcQ:=@PySem.slot_listiter_next
abbrev lcR:=@Bool.eq_iff_iff
abbrev lcS:=@List.prefix_iff_eq_take
abbrev lcT:=@List.find?_eq_none
abbrev lcU:=@decide_eq_false_iff_not
abbrev lcV:=@PySem.W.KasT.kasWp_bind
abbrev lcW:=@List.pairwise_singleton
abbrev lcX:=@List.filter_cons_of_neg
abbrev lcY:=@List.filter_cons_of_pos
abbrev lcZ:=@Int.gcd_zero_right
abbrev lc0:=@Nat.le_mul_of_pos_right
abbrev lc1:=@List.getElem?_set_self
abbrev lc2:=@PySem.W.cellsFrom_some
abbrev lc3:=@PySem.F.slot_tuple_add
abbrev lc4:=@List.find?_cons_of_pos
abbrev lc5:=@PySem.Obj.cls_mapFields
abbrev lc6:=@Nat.le_succ
abbrev lc7:=@List.map_id
abbrev lc8:=@PySem.Heap.get?_push_ne
abbrev lc9:=@List.flatMap_cons
abbrev lda:=@Int.add_mul
abbrev ldb:=@PyProof.Rows.boot_tuple
abbrev ldd:=@Int.pow_nonneg
abbrev lde:=@PySem.codeAny_mono
abbrev ldf:=@List.all_map
abbrev ldg:=@List.cons_prefix_cons
abbrev ldh:=@PySem.F.typeOf_object_class
abbrev ldi:=@List.take_append_drop
abbrev ldj:=@PySem.wpAny_isInstance
abbrev ldk:=@Nat.lt_succ_self
abbrev ldl:=@List.all_toArray
abbrev ldm:=@List.getElem_map
abbrev ldo:=@List.take_length
abbrev ldp:=@List.le_antisymm
abbrev ldq:=@Nat.min_eq_right
abbrev ldr:=@PySem.Calls.evalArgs_plain
abbrev lds:=@PySem.wpAny_updateSeq_pair
abbrev ldt:=@PySem.W.looks_findIn
abbrev ldu:=@List.mem_of_mem_drop
abbrev ldv:=@List.pairwise_append
abbrev ldw:=@List.any_cons
abbrev ldx:=@PySem.wpAny_newList
abbrev ldy:=@PyProof.Rows.listUpdate_at
abbrev ldz:=@List.le_of_lt
abbrev ldA:=@List.map_take
abbrev ldB:=@beq_iff_eq
abbrev ldD:=@PySem.W.hideAll_get
abbrev ldE:=@PySem.wpAny_execs_nil
abbrev ldF:=@Int.mul_pos
abbrev ldH:=@Int.pow_add
abbrev ldJ:=@Nat.add_mul
abbrev ldL:=@List.prefix_nil
abbrev ldM:=@PySem.W.looks_subIn
abbrev ldN:=@Int.le_refl
abbrev ldO:=@Array.append_assoc
abbrev ldQ:=@List.mem_filterMap
abbrev ldR:=@PySem.W.callWith_K
abbrev ldS:=@PySem.tupleKind_room_in1
abbrev ldT:=@PySem.wpAny_pyIter_ascii
abbrev ldU:=@Nat.le_total
abbrev ldV:=@List.lookup_append
abbrev ldW:=@of_decide_eq_false
abbrev ldX:=@PyProof.Rows.listItems_at
abbrev ldY:=@PySem.wpAny_newTuple
abbrev ldZ:=@PySem.isSubtype_stop
abbrev ld0:=@List.take_sublist
abbrev ld1:=@Int.gcd_dvd_right
abbrev ld2:=@Array.size_append
abbrev ld3:=@List.pairwise_map
abbrev ld4:=@List.any_eq_false
abbrev ld5:=@Nat.le_succ_of_le
abbrev ld6:=@PySem.wpAny_dictEntries
abbrev ld7:=@PySem.wpAny_handled
abbrev ld8:=@PySem.wpAny_onRaise
abbrev ld9:=@or_false
abbrev lea:=@List.lt_trans
abbrev leb:=@List.map_drop
abbrev lec:=@PySem.wpAny_execs_cons
abbrev lee:=@PySem.noFill_tuple_add
abbrev lef:=@Nat.min_le_right
abbrev leg:=@List.filter_cons
abbrev leh:=@List.mem_flatMap
abbrev lei:=@List.not_mem_nil
abbrev lej:=@List.nil_lt_cons
abbrev lek:=@List.ext_getElem
abbrev lel:=@Nat.le_of_lt
abbrev lem:=@PySem.concat_meets
abbrev leo:=@Nat.lt_trans
abbrev lep:=@Int.gcd_comm
abbrev leq:=@Option.map_some
abbrev ler:=@List.range_succ
abbrev leu:=@List.any_map
abbrev lew:=@Int.pow_zero
abbrev ley:=@Bool.or_eq_true
abbrev lez:=@Nat.le_antisymm
abbrev leC:=@Nat.succ.inj
abbrev leD:=@Nat.gcd_comm
abbrev leE:=@List.sum_nil
abbrev leF:=@Int.natCast_add
abbrev leJ:=@List.drop_zero
abbrev leR:=@Int.one_mul
abbrev leW:=@List.le_trans
namespace L2
open PySem PySem.Spec PyProof.Rows
variable {us:List Value}{x:Str}{u:Value}{a b:Addr}{P:Program}{w:World}{h:Heap}{o:Obj}{g':Array GenState}{t' i j:Nat}{ch fp:List Addr}{e tg:Expr}{N ps:List Str}{M:Model}{E:qQ2}{Q:Unit->Shared->Prop}{s:Shared}{pos:Pos}{pins:List (Addr×Obj)}{op:CmpOp}{f:Value->Value->Sem Value}{es:List Expr}{body:List Stmt}{g:Int->Int->Int}{mg:qQ3}{fd:FuncData}{outer:List Env}{scope:Scope}
abbrev Key:=Sum Int Str
def zg9:Key->Value->Bool
 | .inl k,v=>Value.isInt k v
 | .inr x,v=>Value.isStrOf x v
def zsC (w:World):Key->Int
 | .inl k=>hashInt k
 | .inr x=>hashStr w x
theorem yR:∀{k:Key}{v:Value},zg9 k v=true->(∃i t,k=Sum.inl i/\v=Value.int i t)∨(∃x t,k=Sum.inr x/\v=Value.str x t)
 | .inl i,v,h=>by
  obtain⟨t,e⟩:=Value.isInt_shape (k:=i) (v:=v) h
  exact .inl ⟨i,t,rfl,e⟩
 | .inr x,v,h=>by
  obtain⟨t,e⟩:=Value.isStrOf_shape (x:=x) (v:=v) h
  exact .inr ⟨x,t,rfl,e⟩
theorem zjH (i:Int)(t:Tok):zg9 (.inl i) (.int i t)=true:=by simp[zg9,Value.isInt]
theorem ziT (x:Str)(t:Tok):zg9 (.inr x) (.str x t)=true:=by simp[zg9,Value.isStrOf]
theorem zpR (a b:Int):decide ((Sum.inl a:Key)=Sum.inl b)=(a == b):=by
 by_cases e:a=b
 ·subst e;simp
 ·have h:¬(Sum.inl a:Key)=Sum.inl b:=λq=>e (Sum.inl.inj q)
  rw[lS h]
  exact(lcD.mpr e).symm
theorem zpr (a b:Str):decide ((Sum.inr a:Key)=Sum.inr b)=decide (a=b):=by
 by_cases e:a=b
 ·subst e;simp
 ·have h:¬(Sum.inr a:Key)=Sum.inr b:=λq=>e (Sum.inr.inj q)
  rw[lS h,lS e]
theorem zqI (a:Int)(b:Str):decide ((Sum.inl a:Key)=Sum.inr b)=false:=lS (λq=>nomatch q)
theorem zqE (a:Str)(b:Int):decide ((Sum.inr a:Key)=Sum.inl b)=false:=lS (λq=>nomatch q)
def xr (prog:Program)(w:World):PySem.KeyKind prog w Key where
 is:=zg9
 hash:=zsC w
 inj:=λv a b ha hb=>by
  rcases yR ha with⟨i,t,rfl,rfl⟩|⟨x,t,rfl,rfl⟩
  ·rcases yR hb with⟨j,u,rfl,e⟩|⟨y,u,rfl,e⟩
   ·injection e with e1 _;rw[e1]
   ·exact nomatch e
  ·rcases yR hb with⟨j,u,rfl,e⟩|⟨y,u,rfl,e⟩
   ·exact nomatch e
   ·injection e with e1 _;rw[e1]
 byValue:=λk v h=>by
  rcases yR h with⟨i,t,rfl,rfl⟩|⟨x,t,rfl,rfl⟩ <;>rfl
 pyHash:=λhv h=>by
  rcases yR hv with⟨i,t,rfl,rfl⟩|⟨x,t,rfl,rfl⟩
  ·exact wpAny_pyHash_int h
  ·exact wpAny_pyHash_str h
 eqBool:=λhu hv h=>by
  rcases yR hu with⟨i,t,rfl,rfl⟩|⟨x,t,rfl,rfl⟩
  ·rcases yR hv with⟨j,u,rfl,rfl⟩|⟨y,u,rfl,rfl⟩
   ·rw[zpR] at h;exact wpAny_eqBool_int h
   ·rw[zqI] at h;exact SeqAt.EqAt.int_str i t y u _ _ _ _ h
  ·rcases yR hv with⟨j,u,rfl,rfl⟩|⟨y,u,rfl,rfl⟩
   ·rw[zqE] at h;exact SeqAt.EqAt.str_int x t j u _ _ _ _ h
   ·rw[zpr] at h;exact wpAny_eqBool_str h
 «strs»:=λk x t v h=>by
  rcases yR h with⟨i,u,rfl,e⟩|⟨y,u,rfl,e⟩
  ·exact nomatch e
  ·injection e with e1 _
   subst e1
   cases v <;>rfl
theorem zgL (prog:Program)(w:World)(i:Int)(t:Tok):(xr prog w).is (.inl i) (.int i t)=true:=zjH i t
theorem zcv (prog:Program)(w:World)(x:Str)(t:Tok):(xr prog w).is (.inr x) (.str x t)=true:=ziT x t
inductive V where
 | non|bl (b:Bool)|int (i:Int)|str (x:Str)|byt (b:Array UInt8)|flt (b:UInt64)|ref (a:Addr)|ty (n:String)
 deriving DecidableEq
variable {v:V}
def RelV:V->Value->Prop
 | .non,u=>u=Value.none
 | .bl b,u=>u=Value.bool b
 | .int i,u=>∃t,u=Value.int i t
 | .str x,u=>∃t,u=Value.str x t
 | .byt b,u=>∃t,u=Value.bytes b t
 | .flt b,u=>∃t,u=Value.float b t
 | .ref a,u=>u=Value.ref a
 | .ty n,u=>u=Value.type n
abbrev Vals:List V->List Value->Prop:=Paired RelV
theorem Vals.length {xs:List V}(r:Vals xs us):xs.length=us.length:=Paired.length r
theorem Vals.get:∀{xs:List V}{us:List Value}{i:Nat}{x:V},Vals xs us->xs[i]? = some x->∃u,us[i]? = some u/\RelV x u
 | _,_,_,_,.nil,e=>by simp at e
 | _,_,0,_,.cons r _,e=>by simp at e;subst e;exact⟨_,rfl,r⟩
 | _,_,i+1,x,.cons _ t,e=>by
  obtain⟨u,h1,h2⟩:=Vals.get (i:=i) (x:=x) t (by simpa using e)
  exact⟨u,by simpa using h1,h2⟩
theorem Vals.set {x:V}(r:RelV x u):∀{xs:List V}{us:List Value} (i:Nat),Vals xs us->Vals (xs.set i x) (us.set i u)
 | _,_,_,.nil=>.nil
 | _,_,0,.cons _ t=>.cons r t
 | _,_,i+1,.cons q t=>.cons q (Vals.set r i t)
theorem Vals.append:∀{xs ys:List V}{us ws:List Value},Vals xs us->Vals ys ws->Vals (xs++ys) (us++ws):=by
 intro xs ys us ws h k
 induction h with
 | nil=>exact k
 | cons r t ih=>exact .cons r ih
theorem Vals.take:∀{xs:List V}{us:List Value} (n:Nat),Vals xs us->Vals (xs.take n) (us.take n)
 | _,_,0,_=>.nil
 | _,_,_+1,.nil=>.nil
 | _,_,n+1,.cons r t=>.cons r (Vals.take n t)
theorem Vals.drop:∀{xs:List V}{us:List Value} (n:Nat),Vals xs us->Vals (xs.drop n) (us.drop n)
 | _,_,0,r=>r
 | _,_,_+1,.nil=>.nil
 | _,_,n+1,.cons _ t=>Vals.drop n t
def RelO:Option V->Option Value->Prop
 | some v,some u=>RelV v u
 | none,none=>True
 | _,_=>False
def KV {κ:Type}:List (κ×V)->List (κ×Value)->Prop:=Paired λ(p:κ×V) (q:κ×Value)=>p.1=q.1/\RelV p.2 q.2
def kV:Key->V
 | .inl i=>.int i
 | .inr x=>.str x
inductive HO where
 /-- a list -/
 | lst (xs:List V)
 /-- a tuple (never changes) -/
 | tup (xs:List V)
 /-- a dict whose keys are ints and texts; one whose keys are tuples of ints and texts (the empty one is both) -/
 | dK (kvs:List (Key×V))|dT (kvs:List (List Key×V))|dR (kvs:List (List Key×Addr))
 /-- a set of ints: its members, its size -/
 | set (S:Int->Bool) (n:Nat)
 /-- an instance of the class at C, its dict at dx, its attributes -/
 | ins (C dx:Addr) (fs:List (Str×V))
 /-- the dict of the instance at x -/
 | own (x:Addr)
 /-- the dict of an exception -/
 | xd (fs:List (Str×V))
 /-- a bound method, f of x -/
 | met (f x:Addr)
 /-- a range object lo, lo + 1, .. below hi -/
 | rng (lo hi:Int)
 /-- a thing that is known to the object (the script; a dict while a loop walks it): read, never written while it is so -/
 | frz (o:Obj) (u:HO)
 /-- a code object's table -/
 | tbl (ps:Array Value)
 /-- any other thing, by what is true of its one object (a def of one's own: SetO a S n := HO.ext λh => ..) -/
 | ext (φ:Heap->Prop)
abbrev Hp:=Addr->Option HO
variable {H:Hp}
def upd (H:Hp)(a:Addr)(o:HO):Hp:=λb=>if b=a then some o else H b
theorem z7 {o:HO}:upd H a o a=some o:=by unfold upd;rw[lO rfl]
theorem zZ {o:HO}(h:b≠a):upd H a o b=H b:=by unfold upd;rw[lY h]
theorem zr4 {o u:HO}(h:H a=some o)(h':H b=some u)(d:o≠u):a≠b:=by
 intro e;subst e;rw[h] at h';exact d (lp h')
theorem yN {o:HO}(h:H a=some o)(h':H b=none):a≠b:=by
 intro e;subst e;rw[h] at h';cases h'
def TupD (h:Heap)(a:Addr)(items:Array Value):Prop:=∃o,h.get? a=some o/\o.cls=.type "tuple" /\ (∃n,o.data=.seq items n)/\o.dict=none
theorem TupD.tup {h:Heap}{a:Addr}{items:Array Value}(x:TupD h a items):IsTup h a items:=let ⟨o,e,c,d,_⟩:=x;⟨o,e,c,d⟩
theorem TupD.new (h:Heap)(items:Array Value):TupD (h.push {cls:=.type "tuple", data:=.seq items}) h.objs.size items:=⟨_,lC _ rfl,rfl,⟨_,rfl⟩,rfl⟩
section
variable (P:Program)(w:World)
def ObjOk (H:Hp)(h:Heap)(a:Addr):HO->Prop
 | .lst xs=>xs.length<=sizeLine/\∃(its:List Value) (n:Nat),Vals xs its/\h.get? a=some {cls:=.type "list", data:=.seq its.toArray n}
 | .tup xs=>xs.length<=sizeLine/\∃its:List Value,Vals xs its/\TupD h a its.toArray
 | .dK kvs=>kvs.length<=sizeLine/\(a == sysModules)=false/\∃vs,KV kvs vs/\h.DictOf (xr P w) a vs
 | .dT kvs=>kvs.length<=sizeLine/\(a == sysModules)=false/\∃xs:List (List Key×Addr×Value),
   Paired (λ(p:List Key×V) (q:List Key×Addr×Value)=>p.1=q.1/\H q.2.1=some (.tup (p.1.map kV))/\RelV p.2 q.2.2) kvs xs /\
   ∃o es ep,h.get? a=some o/\o.ExactDict/\o.data=.dict es ep/\es.toList=xs.map (entryOfKey (tupleKind (xr P w)))/\(xs.map (·.1)).Nodup
 | .dR kvs=>kvs.length<=sizeLine/\(a == sysModules)=false/\∃o es ep,h.get? a=some o/\o.ExactDict/\o.data=.dict es ep/\es.toList=kvs.map (λq=>entryOfKey (tupleKind (xr P w)) (q.1,q.2,Value.bool true))/\(kvs.map (·.1)).Nodup
 | .set S n=>h.SetOf (intKind P w) a S n
 | .ins C dx fs=>H dx=some (.own a)/\fs.length<=1000/\dx≠a/\h.get? a=some (PySem.W.instObj C dx) /\
   ∃mA,h.Ns1 dx mA/\(∀f,RelO (fs.lookup f) (mA f))/\PySem.Within mA (fs.map (·.1))
 | .own _=>∃o,h.get? a=some o
 | .xd fs=>∃mA,h.Ns1 a mA/\∀f,RelO (fs.lookup f) (mA f)
 | .rng lo hi=>∃t u v,h.get? a=some {cls:=.type "range", data:=.fields #[.int lo t,.int hi u,.int 1 v]}
 | .frz o u=>h.get? a=some o/\ObjOk H h a u
 | .tbl ps=>h.get? a=some {cls:=.none,data:=.fields ps}
 | .met f x=>h.get? a=some (PySem.W.methodObj (.ref f) (.ref x))
 | .ext φ=>φ h/\(∃o,h.get? a=some o)/\∀h1 h2:Heap,φ h1->(∀o,h1.get? a=some o->h2.get? a=some o)->φ h2
def HOk (H:Hp)(h:Heap):Prop:=∀a o,H a=some o->ObjOk P w H h a o
end
section
variable {P:Program}{w:World}{H H':Hp}{h h':Heap}{a:Addr}{o:HO}
theorem ObjOk.lt (x:ObjOk P w H h a o):a<h.objs.size:=by
 cases o with
 | lst xs=>obtain⟨_,_,_,_,e⟩:=x;exact ly e
 | tup xs=>obtain⟨_,_,_,p⟩:=x;exact p.tup.lt
 | dK kvs=>obtain⟨_,_,_,_,o,_,_,e,_⟩:=x;exact ly e
 | dT kvs=>obtain⟨_,_,_,_,o,_,_,e,_⟩:=x;exact ly e
 | dR kvs=>obtain⟨_,_,o,_,_,e,_⟩:=x;exact ly e
 | set S n=>obtain⟨o,_,_,_,e,_⟩:=x;exact ly e
 | ins C dx fs=>obtain⟨_,_,_,e,_⟩:=x;exact ly e
 | own y=>obtain⟨_,e⟩:=x;exact ly e
 | xd fs=>obtain⟨_,⟨_,_,_,e,_⟩,_⟩:=x;exact ly e
 | rng lo hi=>obtain⟨_,_,_,e⟩:=x;exact ly e
 | frz ob u=>obtain⟨e,_⟩:=x;exact ly e
 | tbl ps=>exact ly (show h.get? a=some _ from x)
 | met f y=>exact ly (show h.get? a=some _ from x)
 | ext φ=>obtain⟨_,⟨_,e⟩,_⟩:=x;exact ly e
theorem Paired.mapP {α β:Type}{F G:α->β->Prop}:∀{l₁:List α}{l₂:List β},Paired F l₁ l₂->(∀a b,F a b->G a b)->Paired G l₁ l₂
 | _,_,.nil,_=>.nil
 | _,_,.cons r t,f=>.cons (f _ _ r) (Paired.mapP t f)
theorem ObjOk.stay (x:ObjOk P w H h a o)(k:∀b u,(b=a∨H b=some (.own a))->h.get? b=some u->h'.get? b=some u)
  (ho:∀b,H b=some (.own a)->H' b=some (.own a)) (ht:∀b xs,H b=some (.tup xs)->H' b=some (.tup xs)):ObjOk P w H' h' a o:=by
 induction o with
 | lst xs=>obtain⟨z,its,n,r,e⟩:=x;exact⟨z,its,n,r,k _ _ (.inl rfl) e⟩
 | tup xs=>obtain⟨z,its,r,ob,e,c⟩:=x;exact⟨z,its,r,ob,k _ _ (.inl rfl) e,c⟩
 | dK kvs=>obtain⟨z,y,vs,r,ob,es,ep,e,c⟩:=x;exact⟨z,y,vs,r,ob,es,ep,k _ _ (.inl rfl) e,c⟩
 | dT kvs =>
  obtain⟨z,y,xs,r,ob,es,ep,e,c⟩:=x
  exact⟨z,y,xs,Paired.mapP r λp q z=>⟨z.1,ht _ _ z.2.1,z.2.2⟩,ob,es,ep,k _ _ (.inl rfl) e,c⟩
 | dR kvs=>obtain⟨z,y,ob,es,ep,e,c⟩:=x;exact⟨z,y,ob,es,ep,k _ _ (.inl rfl) e,c⟩
 | set S n=>obtain⟨ob,es,ep,t,e,c⟩:=x;exact⟨ob,es,ep,t,k _ _ (.inl rfl) e,c⟩
 | ins C dx fs =>
  obtain⟨d,z,ne,e,mA,⟨od,es,ep,e2,c⟩,r⟩:=x
  exact⟨ho _ d,z,ne,k _ _ (.inl rfl) e,mA,⟨od,es,ep,k _ _ (.inr d) e2,c⟩,r⟩
 | own y=>obtain⟨ob,e⟩:=x;exact⟨ob,k _ _ (.inl rfl) e⟩
 | xd fs=>obtain⟨mA,⟨od,es,ep,e,c⟩,r⟩:=x;exact⟨mA,⟨od,es,ep,k _ _ (.inl rfl) e,c⟩,r⟩
 | rng lo hi=>obtain⟨t,u,v,e⟩:=x;exact⟨t,u,v,k _ _ (.inl rfl) e⟩
 | frz ob u ih=>obtain⟨e,q⟩:=x;exact⟨k _ _ (.inl rfl) e,ih q⟩
 | tbl ps =>
  have e:h.get? a=some {cls:=.none,data:=.fields ps}:=x
  show h'.get? a=some {cls:=.none,data:=.fields ps}
  exact k a _ (.inl rfl) e
 | met f y =>
  have e:h.get? a=some (PySem.W.methodObj (.ref f) (.ref y)):=x
  show h'.get? a=some (PySem.W.methodObj (.ref f) (.ref y))
  exact k a _ (.inl rfl) e
 | ext φ=>obtain⟨p,⟨o,e⟩,st⟩:=x;exact⟨st _ _ p λo q=>k _ _ (.inl rfl) q,⟨o,k _ _ (.inl rfl) e⟩,st⟩
theorem HOk.lt (x:HOk P w H h)(e:H a=some o):a<h.objs.size:=(x a o e).lt
theorem HOk.fresh (x:HOk P w H h)(e:h.objs.size<=a):H a=none:=by
 cases q:H a with
 | none=>rfl
 | some u=>exact absurd (lB (x.lt q) e) (lbE _)
theorem HOk.kept (x:HOk P w H h)(k:∀b u,h.get? b=some u->h'.get? b=some u):HOk P w H h':=λa o e =>
 (x a o e).stay (λb u _ q=>k b u q) (λ_ q=>q) λ_ _ q=>q
theorem HOk.laid (x:HOk P w H h)(k:∀b u,h.get? b=some u->h'.get? b=some u)(hp:h.objs.size<=a)(new:ObjOk P w (upd H a o) h' a o):HOk P w (upd H a o) h':=λb u e=>by
 have hn:=x.fresh hp
 by_cases hb:b=a
 ·subst hb;rw[z7] at e;cases e;exact new
 ·rw[zZ hb] at e
  exact(x b u e).stay (λc v _ q=>k c v q) (λc q=>by rw[zZ (yN q hn)];exact q) λc xs q=>by rw[zZ (yN q hn)];exact q
end
def Rd (H:Hp)(a:Addr)(u:HO):Prop:=H a=some u∨∃o,H a=some (.frz o u)
theorem Rd.ok {u:HO}(r:Rd H a u)(x:HOk P w H h):ObjOk P w H h a u:=by
 rcases r with r|⟨o,r⟩
 ·exact x a u r
 ·obtain⟨_,q⟩:=x a _ r
  exact q
def Mut:Option HO->Prop
 | some (.lst _)=>True
 | some (.dK _)=>True
 | some (.dT _)=>True
 | some (.dR _)=>True
 | some (.set _ _)=>True
 | some (.ins _ _ _)=>True
 | some (.ext _)=>True
 | _=>False
section
variable {P:Program}{w:World}{H:Hp}{h h':Heap}{x e:Addr}{o':HO}
theorem HOk.write (ok:HOk P w H h)(mu:Mut (H x))(he:e=x∨H e=some (.own x))(k:∀b u,b≠e->h.get? b=some u->h'.get? b=some u)(heo:∃u,h'.get? e=some u)
  (new:ObjOk P w (upd H x o') h' x o'):HOk P w (upd H x o') h':=λb u q=>by
 have nown:∀c y,H c=some (.own y)->c≠x:=λc y r z=>by subst z;rw[r] at mu;exact mu
 have ntup:∀c xs,H c=some (.tup xs)->c≠x:=λc xs r z=>by subst z;rw[r] at mu;exact mu
 by_cases hb:b=x
 ·subst hb;rw[z7] at q;cases q;exact new
 ·rw [zZ hb] at q
  by_cases hbe:b=e
  ·have q':H b=some (.own x):=by
    rcases he with z|z
    ·exact absurd (hbe.trans z) hb
    ·rw[hbe];exact z
   rw[q] at q';cases q'
   obtain⟨v,hv⟩:=heo
   exact⟨v,by rw[hbe];exact hv⟩
  ·refine (ok b u q).stay (λc v hc r=>k c v ?_ r) (λc r=>by rw[zZ (nown c b r)];exact r) λc xs r=>by rw[zZ (ntup c xs r)];exact r
   rcases hc with rfl|hc
   ·exact hbe
   ·rintro rfl
    rcases he with z|z
    ·exact nown c b hc z
    ·rw[hc] at z;cases z;exact hb rfl
end
structure Un (fs ex:List Addr)(H H':Hp)(h h':Heap):Prop where
 keep:∀b o,h.get? b=some o->H b=none->b∉fs->b∉ex->h'.get? b=some o
 slot:∀b o,h.get? b=some o->H b=none->b∈fs->b∉ex->∃sl,h'.get? b=some {o with slots:=sl}
 free:∀b o,h.get? b=some o->H b=none->b∉ex->H' b=none
 there:∀b o,h.get? b=some o->b∉ex->∃o',h'.get? b=some o'
 tups:∀b xs,H b=some (.tup xs)->H' b=some (.tup xs)
 frzs:∀b o u,H b=some (.frz o u)->H' b=some (.frz o u)
 tbls:∀b ps,H b=some (.tbl ps)->∃more,H' b=some (.tbl (ps++more))
section
variable {fs fs' ex ex':List Addr}{H H1 H2:Hp}{h h1 h2 h':Heap}{a x e:Addr}{o:HO}
theorem Un.any (u:Un fs ex H H1 h h1){ob:Obj}(q:h.get? b=some ob)(n:H b=none)(hx:b∉ex):∃sl,h1.get? b=some {ob with slots:=sl}:=by
 by_cases hb:b∈fs
 ·exact u.slot b ob q n hb hx
 ·exact⟨ob.slots,u.keep b ob q n hb hx⟩
theorem Un.trans (a:Un fs ex H H1 h h1)(b:Un fs ex H1 H2 h1 h2):Un fs ex H H2 h h2 where
 keep:=λc ob q n hc hx=>b.keep c ob (a.keep c ob q n hc hx) (a.free c ob q n hx) hc hx
 slot:=λc ob q n hc hx=>by
  obtain⟨sl,e1⟩:=a.slot c ob q n hc hx
  obtain⟨sl',e2⟩:=b.slot c _ e1 (a.free c ob q n hx) hc hx
  exact⟨sl',e2⟩
 free:=λc ob q n hx=>by
  obtain⟨o',e1⟩:=a.there c ob q hx
  exact b.free c o' e1 (a.free c ob q n hx) hx
 there:=λc ob q hx=>by
  obtain⟨o',e1⟩:=a.there c ob q hx
  exact b.there c o' e1 hx
 tups:=λc xs q=>b.tups c xs (a.tups c xs q)
 frzs:=λc ob xs q=>b.frzs c ob xs (a.frzs c ob xs q)
 tbls:=λc ps q=>by
  obtain⟨m1,e1⟩:=a.tbls c ps q
  obtain⟨m2,e2⟩:=b.tbls c _ e1
  exact⟨m1++m2,by rw[e2,ldO]⟩
theorem Un.kept (k:∀b u,h.get? b=some u->h'.get? b=some u):Un fs ex H H h h' :=
 ⟨λb ob q _ _ _=>k b ob q,λb ob q _ _ _=>⟨ob.slots,k b ob q⟩,λ_ _ _ n _=>n,λb ob q _=>⟨ob,k b ob q⟩,λ_ _ q=>q,λ_ _ _ q=>q,λ_ ps q=>⟨#[],by rw[q];simp⟩⟩
theorem Un.refl:Un fs ex H H h h:=Un.kept λ_ _ q=>q
theorem Un.laid (k:∀b u,h.get? b=some u->h'.get? b=some u)(hp:h.objs.size<=a)(hn:H a=none):Un fs ex H (upd H a o) h h' where
 keep:=λb u q _ _ _=>k b u q
 slot:=λb u q _ _ _=>⟨u.slots,k b u q⟩
 free:=λb u q n _=>by rw[zZ (lR (lB (ly q) hp))];exact n
 there:=λb u q _=>⟨u,k b u q⟩
 tups:=λb xs q=>by rw[zZ (yN q hn)];exact q
 frzs:=λb u xs q=>by rw[zZ (yN q hn)];exact q
 tbls:=λb ps q=>⟨#[],by rw[zZ (yN q hn),q];simp⟩
theorem Un.write (mu:Mut (H x))(he:e=x∨H e=some (.own x))(k:∀b u,b≠e->h.get? b=some u->h'.get? b=some u)(heo:∃u,h'.get? e=some u):Un fs ex H (upd H x o) h h':=by
 have hx:∀b,H b=none->b≠x:=λb n z=>by subst z;rw[n] at mu;exact mu
 have hb:∀b,H b=none->b≠e:=λb n z=>by
  subst z
  rcases he with r|r
  ·exact hx b n r
  ·rw[n] at r;cases r
 have hm:∀b u,H b=some u->¬Mut (some u)->b≠x:=λb u q nm z=>by subst z;rw[q] at mu;exact nm mu
 refine ⟨λb u q n _ _=>k b u (hb b n) q,λb u q n _ _=>⟨u.slots,k b u (hb b n) q⟩,λb u q n _=>by rw[zZ (hx b n)];exact n,λb u q _=>?_,
  λb xs q=>by rw[zZ (hm b _ q λz=>z)];exact q,λb u xs q=>by rw[zZ (hm b _ q λz=>z)];exact q,λb ps q=>⟨#[],by rw[zZ (hm b _ q λz=>z),q];simp⟩⟩
 by_cases hbe:b=e
 ·subst hbe;exact heo
 ·exact⟨u,k b u hbe q⟩
theorem Un.mono (u:Un fs ex H H1 h h1)(hs:∀b∈fs,b∈fs')(hx:∀b∈ex,b∈ex'):Un fs' ex' H H1 h h1 :=
 ⟨λb ob q n hb he=>u.keep b ob q n (λz=>hb (hs b z)) λz=>he (hx b z),λ_ _ q n _ he=>u.any q n λz=>he (hx _ z),λb ob q n he=>u.free b ob q n λz=>he (hx b z),λb ob q he=>u.there b ob q λz=>he (hx b z),u.tups,u.frzs,u.tbls⟩
end
def trk (h:Heap)(H:Hp):List Addr:=(List.range h.objs.size).filter λa=>(H a).isSome
def zl8 (h:Heap)(H:Hp):Heap:=PySem.W.hideAll h (trk h H)
theorem zjt (h:Heap)(H:Hp):(zl8 h H).objs.size=h.objs.size:=PySem.W.hideAll_size _ _
theorem zmv (e:h.get? b=some o)(n:H b=none):(zl8 h H).get? b=some o :=
 ldD _ e λhm=>by
  have q:(H b).isSome=true:=(lbf.mp hm).2
  rw[n] at q;simp at q
theorem zok (e:(zl8 h H).get? b=some o):h.get? b=some o/\H b=none:=by
 have e':h.get? b=some o:=PySem.W.of_hideAll (trk h H) e
 refine⟨e',?_⟩
 cases q:H b with
 | none=>rfl
 | some x =>
  have hm:b∈trk h H:=lbf.mpr ⟨lbJ.mpr (ly e'),by simp[q]⟩
  have z:(zl8 h H).get? b=none:=PySem.W.hideAll_none (trk h H) hm
  rw[z] at e;cases e
def zoy (g h:Heap)(L:Addr):List (Addr×Obj):=(List.range h.objs.size).filterMap λa=>if a=L∨(g.get? a).isSome=true then none else(h.get? a).map λo=>(a,o)
def rest (g h:Heap)(L d:Addr):List (Addr×Obj):=(zoy g h L).filter λp=>decide (p.1≠d)
structure Mod (K:qQ0)(mg:qQ3)(base:Heap):Prop where
 kin:K.In base
 glob:base.Ns mainGlobals mg
 blt:∃mb,base.Ns builtinsNs mb/\∀x:Str,x ≠ "__name__" -> mb x=bootBuiltins x
 nolimit:base.NoLimit
structure Cx where
 prog:Program
 w:World
 K:qQ0
 mg:qQ3
 base:Heap
 A:Around
 N:List Str
 s₀:Shared
 H₀:Hp
 env:Env
 outer:List Env
 stack:List Env
 ex:List Addr
 fn:Str->Bool
 calm:Bool
 pn:List (Addr×Obj)
 xe:qQ2
def frs (l:List Env):List Addr:=l.filterMap (·.frame)
abbrev Cx.fs (X:Cx):List Addr:=frs X.outer
def Vis (sc:Scope)(x:Str):Prop:=sc.names.lookup x=some .local∨sc.names.lookup x=some .cell∨sc.names.lookup x=some .free
def Loc (sc:Scope)(x:Str):Prop:=sc.names.lookup x=some .local∨sc.names.lookup x=some .cell
def Look (env:Env)(h:Heap)(m:qQ3)(x:Str)(u:Value):Prop :=
 (env.kindOf x=some .local/\m x=some u)∨((env.kindOf x=some .cell∨env.kindOf x=some .free)/\∃c,env.cells.lookup x=some c/\h.IsCell c (some u))
structure Cx.Ok (X:Cx):Prop where
 mod:Mod X.K X.mg X.base
 kind:X.env.scope.kind=.function
 glob:X.env.globals=mainGlobals
 blt:X.env.builtins=builtinsNs
 above:X.s₀.heap.objs.size<=X.env.locals
 inj:∀x y c,X.env.cells.lookup x=some c->X.env.cells.lookup y=some c->x=y
 has:∀x,(X.env.kindOf x=some .cell∨X.env.kindOf x=some .free)->∃c,X.env.cells.lookup x=some c
 cab:∀x c,X.fn x=true->X.env.cells.lookup x=some c->X.s₀.heap.objs.size<=c
 hd:X.calm=true->X.A.handled=none
 frames:X.A.frames=some X.stack
 stk:X.stack=X.outer∨(X.stack=X.env::X.outer/\X.env.frame=some X.env.locals)
 exf:∀b∈X.ex,b≠X.env.locals/\∀x c,X.env.cells.lookup x=some c->c≠b
 bs:∀b o,X.base.get? b=some o->X.s₀.heap.get? b=some o/\X.H₀ b=none
 bsz:X.base.objs.size<=X.s₀.heap.objs.size
 noex:∀b o,X.base.get? b=some o->b∉X.ex
 exfs:∀b∈X.ex,b∉X.fs
 funs:X.s₀.heap.FunFrames X.base X.outer
 frf:∀b∈X.fs,X.H₀ b=none
structure Inv (X:Cx)(pins:List (Addr×Obj))(σ:List (Option V))(H:Hp)(s:Shared):Prop where
 ok:X.Ok
 os:s.os=X.s₀.os
 bare:AllBare s.gens
 base:Un X.fs X.ex X.H₀ H X.s₀.heap s.heap
 loc:∃m,s.heap.Ns X.env.locals m/\∀(i:Nat) (x:Str) (v:V),X.N[i]? = some x->σ[i]? = some (some v)->Vis X.env.scope x->∃u,RelV v u/\Look X.env s.heap m x u
 cell:∀x c,X.env.cells.lookup x=some c->∃v,s.heap.IsCell c v
 free:H X.env.locals=none
 freeC:∀x c,X.env.cells.lookup x=some c->H c=none
 pin:∀p∈X.pn++pins,s.heap.get? p.1=some p.2/\H p.1=none/\p.1≠X.env.locals/\p.1∉X.fs/\∀v,p.2.data≠.cell v
 hok:HOk X.prog X.w H s.heap
 len:σ.length=X.N.length
section
variable {X:Cx}{pins:List (Addr×Obj)}{σ:List (Option V)}{H H':Hp}{s:Shared}{h':Heap}
theorem Cx.Ok.nofr (ok:X.Ok)(e:X.base.get? b=some o):b∉X.fs:=λhb=>by
 have:=(ok.funs.mem hb).1
 rw[e] at this;cases this
theorem Inv.bs (I:Inv X pins σ H s):∀b o,X.base.get? b=some o->s.heap.get? b=some o/\H b=none:=λb o e =>
 ⟨I.base.keep b o (I.ok.bs b o e).1 (I.ok.bs b o e).2 (I.ok.nofr e) (I.ok.noex b o e),I.base.free b o (I.ok.bs b o e).1 (I.ok.bs b o e).2 (I.ok.noex b o e)⟩
theorem Inv.bk (I:Inv X pins σ H s):∀b o,X.base.get? b=some o->s.heap.get? b=some o:=λb o e=>(I.bs b o e).1
theorem Inv.mod (I:Inv X pins σ H s):Mod X.K X.mg X.base:=I.ok.mod
theorem Inv.kIn (I:Inv X pins σ H s):X.K.In s.heap:=I.ok.mod.kin.keeps I.bk
theorem Inv.lt (I:Inv X pins σ H s):X.env.locals<s.heap.objs.size:=let ⟨_,hn,_⟩:=I.loc;hn.lt
theorem Inv.sz (I:Inv X pins σ H s):X.s₀.heap.objs.size<=s.heap.objs.size:=laC I.ok.above (lel I.lt)
theorem Inv.nofs (I:Inv X pins σ H s)(h:s.heap.objs.size<=a):a∉X.fs:=λhb=>by
 obtain⟨_,o,ho,_⟩:=I.ok.funs.mem hb
 exact absurd (lB (ly ho) (laC I.sz h)) (lbE _)
theorem Inv.cne (I:Inv X pins σ H s):∀x c,X.env.cells.lookup x=some c->c≠X.env.locals:=λx c e z=>by
 obtain⟨v,o,ho,hd⟩:=I.cell x c e
 obtain⟨m,⟨o',es,ep,ho',hd',_⟩,_⟩:=I.loc
 rw[z,ho'] at ho;cases ho;rw[hd'] at hd;cases hd
theorem Inv.funs (I:Inv X pins σ H s):s.heap.FunFrames X.base X.outer:=by
 have all:∀(l:List Env),(∀b∈frs l,b∈X.fs)->X.s₀.heap.FunFrames X.base l->s.heap.FunFrames X.base l:=by
  intro l
  induction l with
  | nil=>intro _ _;trivial
  | cons env r ih =>
   intro hs hl
   obtain⟨hk,⟨L,o,hf,hn,ho,hd⟩,hr⟩:=hl
   have hL:L∈X.fs:=hs L (by unfold frs;rw[lcE,hf];exact lJ)
   obtain⟨sl,e⟩:=I.base.slot L o ho (I.ok.frf L hL) hL λz=>I.ok.exfs L z hL
   exact⟨hk,⟨L,_,hf,hn,e,hd⟩,ih (λb hb=>hs b (by unfold frs;rw[lcE,hf];exact lF _ hb)) hr⟩
 exact all X.outer (λ_ hb=>hb) I.ok.funs
theorem Inv.stack (I:Inv X pins σ H s):s.heap.FunFrames X.base X.stack:=by
 rcases I.ok.stk with e|⟨e,hf⟩
 ·rw[e];exact I.funs
 ·rw[e]
  obtain⟨m,hn,_⟩:=I.loc
  refine .cons (by rw[I.ok.kind];decide) hf hn ?_ I.funs
  exact Heap.get?_none_of_le (laC I.ok.bsz I.ok.above)
theorem Inv.stkSub (I:Inv X pins σ H s):∀b∈frs X.stack,b∈X.env.locals::X.fs:=λb hb=>by
 rcases I.ok.stk with e|⟨e,hf⟩
 ·rw[e] at hb;exact lF _ hb
 ·rw[e] at hb
  unfold frs at hb
  rw[lcE,hf] at hb
  exact hb
theorem Inv.stkFree (I:Inv X pins σ H s):∀b∈frs X.stack,H b=none:=λb hb=>by
 rcases lz.mp (I.stkSub b hb) with e|hb
 ·rw[e];exact I.free
 ·obtain⟨_,o,ho,_⟩:=I.ok.funs.mem hb
  exact I.base.free b o ho (I.ok.frf b hb) λz=>I.ok.exfs b z hb
theorem Inv.step {d':Drawn}(I:Inv X pins σ H s)
  (hch:∀b∈ch,(b∈X.ex∨X.s₀.heap.objs.size<=b)/\b≠X.env.locals/\(∀x c,X.env.cells.lookup x=some c->c≠b)/\∀p∈X.pn++pins,p.1≠b)
  (keep:∀b o,b≠X.env.locals->b∉X.fs->b∉ch->s.heap.get? b=some o->H b=none->h'.get? b=some o)
  (slot:∀b o,b≠X.env.locals->b∈X.fs->b∉ch->s.heap.get? b=some o->H b=none->∃sl,h'.get? b=some {o with slots:=sl}) (free:∀b o,b∉ch->s.heap.get? b=some o->H b=none->H' b=none)
  (there:∀b o,b∉ch->s.heap.get? b=some o->∃o',h'.get? b=some o')
  (tups:∀b xs,H b=some (.tup xs)->H' b=some (.tup xs)) (frzs:∀b o u,H b=some (.frz o u)->H' b=some (.frz o u)) (tbls:∀b ps,H b=some (.tbl ps)->∃more,H' b=some (.tbl (ps++more)))
  (ns:∀m,s.heap.Ns X.env.locals m->h'.Ns X.env.locals m) (hok:HOk X.prog X.w H' h') (hg:AllBare g') :
  Inv X pins σ H' {s with heap:=h',gens:=g',drawn:=d',toks:=t'}:=by
 have neL:∀b o,X.s₀.heap.get? b=some o->b≠X.env.locals:=λb o e=>lR (lB (ly e) I.ok.above)
 have neC:∀b o,X.s₀.heap.get? b=some o->b∉X.ex->b∉ch:=λb o e hx hb=>by
  rcases(hch b hb).1 with z|z
  ·exact hx z
  ·exact absurd (lB (ly e) z) (lbE _)
 have cellK:∀x c,X.env.cells.lookup x=some c->∀v,s.heap.IsCell c v->h'.IsCell c v:=λx c e v ⟨o,ho,hd⟩=>by
  have nch:c∉ch:=λz=>(hch c z).2.2.1 x c e rfl
  by_cases hc:c∈X.fs
  ·obtain⟨sl,q⟩:=slot c o (I.cne x c e) hc nch ho (I.freeC x c e)
   exact⟨_,q,hd⟩
  ·exact⟨o,keep c o (I.cne x c e) hc nch ho (I.freeC x c e),hd⟩
 refine⟨I.ok,I.os,hg,⟨λb o e n hb hx=>?_,λb o e n hb hx=>?_,λb o e n hx=>?_,λb o e hx=>?_,λb xs e=>tups b xs (I.base.tups b xs e),λb o xs e=>frzs b o xs (I.base.frzs b o xs e),λb ps e=>?_⟩,?_,λx c e=>?_,?_,λx c e=>?_,λp hp=>?_,hok,I.len⟩
 ·exact keep b o (neL b o e) hb (neC b o e hx) (I.base.keep b o e n hb hx) (I.base.free b o e n hx)
 ·obtain⟨sl,e1⟩:=I.base.slot b o e n hb hx
  obtain⟨sl',e2⟩:=slot b _ (neL b o e) hb (neC b o e hx) e1 (I.base.free b o e n hx)
  exact⟨sl',e2⟩
 ·obtain⟨o',e1⟩:=I.base.there b o e hx
  exact free b o' (neC b o e hx) e1 (I.base.free b o e n hx)
 ·obtain⟨o',e1⟩:=I.base.there b o e hx
  exact there b o' (neC b o e hx) e1
 ·obtain⟨m1,e1⟩:=I.base.tbls b ps e
  obtain⟨m2,e2⟩:=tbls b _ e1
  exact⟨m1++m2,by rw[e2,ldO]⟩
 ·obtain⟨m,hn,hl⟩:=I.loc
  refine⟨m,ns m hn,λi x v e1 e2 e3=>?_⟩
  obtain⟨u,r,l⟩:=hl i x v e1 e2 e3
  refine⟨u,r,?_⟩
  rcases l with l|⟨k,c,e,z⟩
  ·exact .inl l
  ·exact .inr ⟨k,c,e,cellK x c e _ z⟩
 ·obtain⟨v,z⟩:=I.cell x c e
  exact⟨v,cellK x c e v z⟩
 ·obtain⟨m,⟨o,_,_,ho,_⟩,_⟩:=I.loc
  exact free _ o (λz=>(hch _ z).2.1 rfl) ho I.free
 ·obtain⟨v,o,ho,hd⟩:=I.cell x c e
  exact free c o (λz=>(hch c z).2.2.1 x c e rfl) ho (I.freeC x c e)
 ·obtain⟨e,n,ne,nf,d⟩:=I.pin p hp
  have nch:p.1∉ch:=λz=>(hch p.1 z).2.2.2 p hp rfl
  exact⟨keep p.1 p.2 ne nf nch e n,free p.1 p.2 nch e n,ne,nf,d⟩
theorem Inv.un (I:Inv X pins σ H s)(u:Un X.fs [] H H' s.heap h')(hok:HOk X.prog X.w H' h'):Inv X pins σ H' {s with heap:=h',toks:=t'}:=by
 obtain⟨m,⟨o,es,ep,ho,r⟩,_⟩:=id I.loc
 obtain⟨sl,hL⟩:=u.any ho I.free (by simp)
 exact I.step (g':=s.gens) (d':=s.drawn) (ch:=[]) (λ_ z=>nomatch z) (λb o _ hb _ e n=>u.keep b o e n hb (by simp)) (λb o _ hb _ e n=>u.slot b o e n hb (by simp)) (λb o _ e n=>u.free b o e n (by simp)) (λb o _ e=>u.there b o e (by simp)) u.tups u.frzs u.tbls (λm' hm=>by
  obtain⟨o',es',ep',ho',r'⟩:=hm
  rw[ho] at ho';cases ho'
  exact⟨_,es',ep',hL,r'⟩) hok I.bare
theorem Inv.call {d':Drawn}(I:Inv X pins σ H s)(u:Un (frs X.stack) ch H H' s.heap h')(hok:HOk X.prog X.w H' h')(hg:AllBare g')
  (hch:∀b∈ch,(b∈X.ex∨X.s₀.heap.objs.size<=b)/\b≠X.env.locals/\(∀x c,X.env.cells.lookup x=some c->c≠b)/\∀p∈X.pn++pins,p.1≠b) :
  Inv X pins σ H' {s with heap:=h',gens:=g',drawn:=d',toks:=t'}:=by
 obtain⟨m,⟨o,es,ep,ho,r⟩,_⟩:=id I.loc
 obtain⟨sl,hL⟩:=u.any ho I.free λz=>(hch _ z).2.1 rfl
 exact I.step (ch:=ch) hch (λb o hL hb hc e n=>u.keep b o e n (λz=>(lz.mp (I.stkSub b z)).elim hL hb) hc) (λb o _ _ hc e n=>u.any e n hc) (λb o hc e n=>u.free b o e n hc) (λb o hc e=>u.there b o e hc) u.tups u.frzs u.tbls (λm' hm=>by
  obtain⟨o',es',ep',ho',r'⟩:=hm
  rw[ho] at ho';cases ho'
  exact⟨_,es',ep',hL,r'⟩) hok hg
theorem Inv.turned {it:Addr}(I:Inv X pins σ H s)(k:∀b o,b≠it->s.heap.get? b=some o->h'.get? b=some o)(hn:H it=none)(hL:it≠X.env.locals)
  (h1:it∈X.ex∨X.s₀.heap.objs.size<=it) (h2:∀x c,X.env.cells.lookup x=some c->c≠it) (h3:∀p∈X.pn++pins,p.1≠it):Inv X pins σ H {s with heap:=h',toks:=t'}:=by
 have nit:∀b u,H b=some u->b≠it:=λb u e z=>by rw[z,hn] at e;cases e
 refine I.step (g':=s.gens) (d':=s.drawn) (ch:=[it]) (λb hb=>?_) (λb o _ _ hc e _=>k b o (λz=>hc (by simp[z])) e) (λb o _ _ hc e _=>⟨o.slots,k b o (λz=>hc (by simp[z])) e⟩) (λ_ _ _ _ n=>n)
  (λb o hc e=>⟨o,k b o (λz=>hc (by simp[z])) e⟩) (λ_ _ e=>e) (λ_ _ _ e=>e) (λb ps e=>⟨#[],by rw[e];simp⟩) (λm hm=>?_) (λb u e=>?_) I.bare
 ·have e:b=it:=by simpa using hb
  subst e
  exact⟨h1,hL,h2,h3⟩
 ·obtain⟨o,es,ep,ho,r⟩:=hm
  exact⟨o,es,ep,k _ o (lbF hL) ho,r⟩
 ·refine(I.hok b u e).stay (λc v hc q=>k c v ?_ q) (λ_ q=>q) λ_ _ q=>q
  rcases hc with z|z
  ·rw[z];exact nit b u e
  ·exact nit c _ z
theorem Inv.tok (I:Inv X pins σ H s)(t:Nat):Inv X pins σ H {s with toks:=t}:=I.un (h':=s.heap) (t':=t) Un.refl I.hok
theorem Inv.kept (I:Inv X pins σ H s)(k:∀b u,s.heap.get? b=some u->h'.get? b=some u):Inv X pins σ H {s with heap:=h',toks:=t'}:=I.un (Un.kept k) (I.hok.kept k)
theorem Inv.laid {o:HO}(I:Inv X pins σ H s)(k:∀b u,s.heap.get? b=some u->h'.get? b=some u)(hp:s.heap.objs.size<=a)(new:ObjOk X.prog X.w (upd H a o) h' a o) :
  Inv X pins σ (upd H a o) {s with heap:=h',toks:=t'}:=I.un (Un.laid k hp (I.hok.fresh hp)) (I.hok.laid k hp new)
theorem Inv.write {x e:Addr}{o:HO}(I:Inv X pins σ H s)(mu:Mut (H x))(he:e=x∨H e=some (.own x))(k:∀b u,b≠e->s.heap.get? b=some u->h'.get? b=some u)(heo:∃u,h'.get? e=some u)
  (new:ObjOk X.prog X.w (upd H x o) h' x o):Inv X pins σ (upd H x o) {s with heap:=h',toks:=t'}:=I.un (Un.write mu he k heo) (I.hok.write mu he k heo new)
theorem Inv.weak {σ':List (Option V)}(I:Inv X pins σ H s)(hl:σ'.length=σ.length)(w:∀(i:Nat) v,σ'[i]? = some (some v)->σ[i]? = some (some v)):Inv X pins σ' H s :=
 ⟨I.ok,I.os,I.bare,I.base,let ⟨m,hn,hl'⟩:=I.loc;⟨m,hn,λi x v e1 e2 e3=>hl' i x v e1 (w i v e2) e3⟩,I.cell,I.free,I.freeC,I.pin,I.hok,hl.trans I.len⟩
theorem Inv.pins_of {pins':List (Addr×Obj)}(I:Inv X pins σ H s)(h:∀p∈pins',s.heap.get? p.1=some p.2/\H p.1=none/\p.1≠X.env.locals/\p.1∉X.fs/\∀v,p.2.data≠.cell v):Inv X pins' σ H s :=
 ⟨I.ok,I.os,I.bare,I.base,I.loc,I.cell,I.free,I.freeC,λp hp=>(lap.mp hp).elim (λz=>I.pin p (lbX _ z)) (h p),I.hok,I.len⟩
theorem zhA (hN:N.Nodup)(a:N[i]? = some x)(b:N[j]? = some x):i=j:=by
 obtain⟨h1,e1⟩:=lx.mp a
 obtain⟨h2,e2⟩:=lx.mp b
 exact(List.getElem_inj hN).mp (e1.trans e2.symm)
theorem zkL {A:Around}(I:Inv X pins σ H s)(hN:X.N.Nodup)(hi:X.N[i]? = some x)(hx:Loc X.env.scope x)(r:RelV v u)
  (h:∀s',Inv X pins (σ.set i (some v)) H s'->(∃a,Heap.SameBut a s.heap s'.heap/\(a=X.env.locals∨X.env.cells.lookup x=some a))->Q () s') (hf:X.fn x=true∨X.env.scope.names.lookup x=some .local:=by first|exact .inl rfl|exact .inr rfl|assumption):wpAny M A (storeName X.env x u) Q E s:=by
 obtain⟨m,hn,hl⟩:=id I.loc
 have hcls:(X.env.scope.kind == .class || (X.env.scope.kind == .module&&X.env.locals != X.env.globals))=false:=by rw[I.ok.kind];rfl
 have hiσ:i<σ.length:=by rw[I.len];exact(lx.mp hi).1
 have cne:=I.cne
 have tracked:∀{a:Addr}{h':Heap},(∃o,s.heap.get? a=some o/\H a=none)->Heap.SameBut a s.heap h'->HOk X.prog X.w H h':=λ{a h'} ha hs b ob e=>by
  obtain⟨_,_,hfree⟩:=ha
  refine(I.hok b ob e).stay (λc w' hc q=>(hs.2 c ?_).trans q) (λ_ q=>q) λ_ _ q=>q
  rintro rfl
  rcases hc with rfl|hc
  ·rw[hfree] at e;cases e
  ·rw[hfree] at hc;cases hc
 rcases hx with hk|hk
 ·refine wpAny_storeName_local hk hn (λh' hn' hs=>?_) hcls
  obtain⟨oL,_,_,hoL,_⟩:=id hn
  refine h _ ⟨I.ok,I.os,I.bare,⟨λb o e n hb hx=>?_,λb o e n hb hx=>?_,I.base.free,λb o e hx=>?_,I.base.tups,I.base.frzs,I.base.tbls⟩,⟨_,hn',λj y v' e1 e2 e3=>?_⟩,λy c e=>?_,I.free,I.freeC,λp hp=>?_,tracked ⟨oL,hoL,I.free⟩ hs,by simpa using I.len⟩ ⟨_,hs,.inl rfl⟩
  ·exact(hs.2 b (lR (lB (ly e) I.ok.above))).trans (I.base.keep b o e n hb hx)
  ·obtain⟨sl,e1⟩:=I.base.slot b o e n hb hx
   exact⟨sl,(hs.2 b (lR (lB (ly e) I.ok.above))).trans e1⟩
  ·obtain⟨o',e1⟩:=I.base.there b o e hx
   exact⟨o',(hs.2 b (lR (lB (ly e) I.ok.above))).trans e1⟩
  ·by_cases hj:j=i
   ·subst hj
    rw[hi] at e1;cases e1
    rw[lc1 hiσ] at e2
    cases e2
    exact⟨u,r,.inl ⟨hk,by simp⟩⟩
   ·rw [lal (lbF hj)] at e2
    obtain⟨u',r',q⟩:=hl j y v' e1 e2 e3
    refine⟨u',r',?_⟩
    rcases q with⟨k,e⟩|⟨k,c,e,z⟩
    ·refine .inl ⟨k,?_⟩
     have:y≠x:=λe=>hj (zhA hN e1 (e▸hi))
     simp[this,e]
    ·exact .inr ⟨k,c,e,z.sameBut hs (cne y c e)⟩
  ·obtain⟨w',z⟩:=I.cell y c e
   exact⟨w',z.sameBut hs (cne y c e)⟩
  ·obtain⟨e,n,ne,nf,d⟩:=I.pin p hp
   exact⟨(hs.2 p.1 ne).trans e,n,ne,nf,d⟩
 ·have hfn:X.fn x=true:=by
   rcases hf with z|z
   ·exact z
   ·rw[z] at hk;cases hk
  obtain⟨c,hc⟩:=I.ok.has x (.inl hk)
  obtain⟨w',z⟩:=I.cell x c hc
  refine wpAny_storeName_cell I.ok.kind hk hc z (λh' hc' hs=>?_)
  obtain⟨oc,hoc,hocd⟩:=id z
  refine h {s with heap:=h'} ⟨I.ok,I.os,I.bare,⟨λb o e n hb hx=>?_,λb o e n hb hx=>?_,I.base.free,λb o e hx=>?_,I.base.tups,I.base.frzs,I.base.tbls⟩,⟨m,hn.sameBut hs (lbF (cne x c hc)),λj y v' e1 e2 e3=>?_⟩,λy c' e=>?_,I.free,I.freeC,λp hp=>?_,tracked ⟨oc,hoc,I.freeC x c hc⟩ hs,by simpa using I.len⟩ ⟨c,hs,.inr hc⟩
  ·exact(hs.2 b (lR (lB (ly e) (I.ok.cab x c hfn hc)))).trans (I.base.keep b o e n hb hx)
  ·obtain⟨sl,e1⟩:=I.base.slot b o e n hb hx
   exact⟨sl,(hs.2 b (lR (lB (ly e) (I.ok.cab x c hfn hc)))).trans e1⟩
  ·obtain⟨o',e1⟩:=I.base.there b o e hx
   exact⟨o',(hs.2 b (lR (lB (ly e) (I.ok.cab x c hfn hc)))).trans e1⟩
  ·by_cases hj:j=i
   ·subst hj
    rw[hi] at e1;cases e1
    rw[lc1 hiσ] at e2
    cases e2
    exact⟨u,r,.inr ⟨.inl hk,c,hc,hc'⟩⟩
   ·rw [lal (lbF hj)] at e2
    obtain⟨u',r',q⟩:=hl j y v' e1 e2 e3
    refine⟨u',r',?_⟩
    rcases q with q|⟨k,c',e,z'⟩
    ·exact .inl q
    ·refine .inr ⟨k,c',e,z'.sameBut hs ?_⟩
     rintro rfl
     exact hj (zhA hN e1 (I.ok.inj _ _ _ e hc▸hi))
  ·by_cases hcc:c'=c
   ·subst hcc;exact⟨_,hc'⟩
   ·obtain⟨w2,z2⟩:=I.cell y c' e
    exact⟨w2,z2.sameBut hs hcc⟩
  ·obtain⟨e,n,ne,nf,d⟩:=I.pin p hp
   refine⟨(hs.2 p.1 ?_).trans e,n,ne,nf,d⟩
   intro q
   rw[q,hoc] at e
   have q':oc=p.2:=lp e
   exact d w' (by rw[← q'];exact hocd)
theorem zae {A:Around}(I:Inv X pins σ H s)(hN:X.N.Nodup)(hi:X.N[i]? = some x)(hx:Loc X.env.scope x)(r:RelV v u)
  (h:∀s',Inv X pins (σ.set i (some v)) H s'->Q () s') (hf:X.fn x=true∨X.env.scope.names.lookup x=some .local:=by first|exact .inl rfl|exact .inr rfl|assumption):wpAny M A (storeName X.env x u) Q E s :=
 zkL I hN hi hx r (λs' I' _=>h s' I') hf
theorem Inv.call' {s':Shared}(I:Inv X pins σ H s)(ho:s'.os=s.os)(u:Un (frs X.stack) ch H H' s.heap s'.heap)(hok:HOk X.prog X.w H' s'.heap)(hg:AllBare s'.gens)
  (hch:∀b∈ch,(b∈X.ex∨X.s₀.heap.objs.size<=b)/\b≠X.env.locals/\(∀x c,X.env.cells.lookup x=some c->c≠b)/\∀p∈X.pn++pins,p.1≠b):Inv X pins σ H' s':=by
 obtain⟨h',g',d',t',o'⟩:=s'
 have e:o'=s.os:=ho
 subst e
 exact I.call (g':=g') (t':=t') (d':=d') u hok hg hch
end
abbrev XK:=Value->Option Addr->Hp->Prop
abbrev St:=List (Option V)
variable {σ:St}
abbrev VK:=V->Hp->Prop
abbrev TE:=St->Hp->VK->Prop
variable {t:TE}
abbrev TT:=St->Hp->(Bool->Hp->Prop)->Prop
abbrev TA:=St->Hp->(List V->Hp->Prop)->Prop
variable {ta:TA}
structure Ends where
 nx:St->Hp->Prop
 rt:VK
 bk:St->Hp->Prop:=λ_ _=>False
 ct:St->Hp->Prop:=λ_ _=>False
abbrev TS:=Ends->St->Hp->Prop
inductive EP (X:Cx)(pins:List (Addr×Obj))(σ:St)(Q:VK)(u:Value)(s':Shared):Prop
 | mk (v:V) (H':Hp) (I:Inv X pins σ H' s') (r:RelV v u) (q:Q v H')
inductive TP (X:Cx)(pins:List (Addr×Obj))(σ:St)(Q:Bool->Hp->Prop)(b:Bool)(s':Shared):Prop
 | mk (H':Hp) (I:Inv X pins σ H' s') (q:Q b H')
inductive AP (X:Cx)(pins:List (Addr×Obj))(σ:St)(Q:List V->Hp->Prop)(us:List Value)(s':Shared):Prop
 | mk (vs:List V) (H':Hp) (I:Inv X pins σ H' s') (r:Vals vs us) (q:Q vs H')
inductive SN (X:Cx)(pins:List (Addr×Obj))(Q:St->Hp->Prop)(s':Shared):Prop
 | mk (a:St) (b:Hp) (I:Inv X pins a b s') (q:Q a b)
inductive SR (X:Cx)(pins:List (Addr×Obj))(Q:VK)(u:Value)(s':Shared):Prop
 | mk (v:V) (a:St) (b:Hp) (I:Inv X pins a b s') (r:RelV v u) (q:Q v b)
def SP (X:Cx)(pins:List (Addr×Obj))(D:Ends)(f:Flow)(s':Shared):Prop :=
 match f with
 | .next=>SN X pins D.nx s'
 | .brk=>SN X pins D.bk s'
 | .cont=>SN X pins D.ct s'
 | .ret u=>SR X pins D.rt u s'
def PE (X:Cx)(e:Expr)(t:TE):Prop :=
 ∀(pins:List (Addr×Obj)) (s:Shared) (σ:St) (H:Hp) (Q:VK),Inv X pins σ H s->t σ H Q->wpAny (model X.prog X.w) X.A (eval e X.env) (EP X pins σ Q) X.xe s
def PT (X:Cx)(e:Expr)(t:TT):Prop :=
 ∀(pins:List (Addr×Obj)) (s:Shared) (σ:St) (H:Hp) (Q:Bool->Hp->Prop),Inv X pins σ H s->t σ H Q->wpAny (model X.prog X.w) X.A (isTrue e X.env (eval e X.env)) (TP X pins σ Q) X.xe s
def PW (X:Cx)(e:Expr)(t:TT):Prop :=
 ∀(whole:Sem Value) (pins:List (Addr×Obj)) (s:Shared) (σ:St) (H:Hp) (Q:Bool->Hp->Prop),Inv X pins σ H s->t σ H Q->wpAny (model X.prog X.w) X.A (isTrue e X.env whole) (TP X pins σ Q) X.xe s
theorem PW.pt {X:Cx}{t:TT}(h:PW X e t):PT X e t:=h _
def PA (X:Cx)(es:List Expr)(t:TA):Prop :=
 ∀(pos:Pos) (pins:List (Addr×Obj)) (s:Shared) (σ:St) (H:Hp) (Q:List V->Hp->Prop),Inv X pins σ H s->t σ H Q->wpAny (model X.prog X.w) X.A (spliced (backTo pos (starEach es X.env))) (AP X pins σ Q) X.xe s
def PS (X:Cx)(st:Stmt)(t:TS):Prop :=
 ∀(pins:List (Addr×Obj)) (s:Shared) (σ:St) (H:Hp) (D:Ends),Inv X pins σ H s->t D σ H->wpAny (model X.prog X.w) X.A (exec st X.env) (SP X pins D) X.xe s
def PSs (X:Cx)(st:List Stmt)(t:TS):Prop :=
 ∀(pins:List (Addr×Obj)) (s:Shared) (σ:St) (H:Hp) (D:Ends),Inv X pins σ H s->t D σ H->wpAny (model X.prog X.w) X.A (execs st X.env) (SP X pins D) X.xe s
theorem thn {α:Type}{t:Sem α}{Q Q':α->Shared->Prop}{A:Around}(h:wpAny M A t Q E s)(hQ:∀a s,Q a s->Q' a s):wpAny M A t Q' E s:=laT h hQ λ_ _ x=>x
section
variable {X:Cx}
def zj5 (i:Nat):TE:=λσ H Q=>∃v,σ[i]? = some (some v)/\Q v H
def tC (v:V):TE:=λ_ H Q=>Q v H
theorem zqL (hN:X.N[i]? = some x)(hv:Vis X.env.scope x)(hd:(x == ("__debug__" : Str))=false:=by decide)(hcd:(x == ("__classdict__" : Str))=false:=by decide):PE X (.Name x pos) (zj5 i):=by
 intro pins s σ H Q I h
 obtain⟨v,e,h⟩:=h
 obtain⟨m,hn,hl⟩:=I.loc
 obtain⟨u,r,l⟩:=hl i x v hN e hv
 have fin:EP X pins σ Q u s:=⟨v,H,I,r,h⟩
 rcases l with⟨hk,hm⟩|⟨hk,c,hc,hcell⟩
 ·exact wpAny_Name (wpAny_loadName_local I.ok.kind hk hn hm fin) hd
 ·rcases hk with hk|hk
  ·exact wpAny_Name (wpAny_loadName_cell I.ok.kind hk hc hcell fin) hd
  ·exact wpAny_Name (wpAny_loadName_free I.ok.kind hk hc hcell fin hcd) hd
theorem zqc {i j pos}:PE X (.Constant (.int i) j pos) (tC (.int i)):=λ_ _ _ H _ I h=>wpAny_Constant_int ⟨.int i,H,I.tok _,⟨_,rfl⟩,h⟩
theorem zrE {b j pos}:PE X (.Constant (.bool b) j pos) (tC (.bl b)):=λ_ _ _ H _ I h=>Constant_bool ⟨.bl b,H,I,rfl,h⟩
theorem zpn {j pos}:PE X (.Constant .none j pos) (tC .non):=λ_ _ _ H _ I h=>Constant_none ⟨.non,H,I,rfl,h⟩
theorem zqh {x j pos}:PE X (.Constant (.str x) j pos) (tC (.str x)):=λ_ _ _ H _ I h=>Calls.Constant_str ⟨.str x,H,I.tok _,⟨_,rfl⟩,h⟩
def Gl (X:Cx)(x:Str):Prop:=X.env.kindOf x=some .globalImplicit
theorem zdb {Q:qQ2}(I:Inv X pins σ H s)(hg:Gl X x)(hm:X.mg x=some u)(h:Q u s)
  (hd:(x == ("__debug__" : Str))=false:=by decide):wpAny (model X.prog X.w) X.A (eval (.Name x pos) X.env) Q E s :=
 Calls.Name_function_global I.ok.kind hg (Calls.loadGlobal_global (by rw[I.ok.glob];exact I.mod.glob.keeps I.bk) hm h) hd
theorem zbo {Q:qQ2}(I:Inv X pins σ H s)(hg:Gl X x)(hm:X.mg x=none)(hv:bootBuiltins x=some u)(h:Q u s)
  (hn:x ≠ "__name__" := by decide) (hd:(x == ("__debug__" : Str))=false:=by decide):wpAny (model X.prog X.w) X.A (eval (.Name x pos) X.env) Q E s:=by
 obtain⟨mb,h1,h2⟩:=I.mod.blt
 exact Calls.Name_function_global I.ok.kind hg (Calls.loadGlobal_builtin (by rw[I.ok.glob];exact I.mod.glob.keeps I.bk) hm (by rw[I.ok.blt];exact h1.keeps I.bk) ((h2 x hn).trans hv) h) hd
theorem xX (hg:Gl X x)(hm:X.mg x=some u)(r:RelV v u)(hd:(x == ("__debug__" : Str))=false:=by decide):PE X (.Name x pos) (tC v) :=
 λ_ _ _ H _ I h=>zdb I hg hm ⟨v,H,I,r,h⟩ hd
theorem zbD (hg:Gl X x)(hm:X.mg x=none)(hv:bootBuiltins x=some u)(r:RelV v u)(hn:x ≠ "__name__" := by decide)(hd:(x == ("__debug__" : Str))=false:=by decide):PE X (.Name x pos) (tC v) :=
 λ_ _ _ H _ I h=>zbo I hg hm hv ⟨v,H,I,r,h⟩ hn hd
variable {a b:Expr}{ta tb:TE}{pos:Pos}
def PC (X:Cx)(op:CmpOp)(a b:Expr)(t:TE):Prop :=
 ∀ (pins:List (Addr×Obj)) (s:Shared) (σ:St) (H:Hp) (Q:VK),Inv X pins σ H s->t σ H Q ->
  wpAny (model X.prog X.w) X.A (eval a X.env) (λv s₁=>wpAny (model X.prog X.w) X.A (eval b X.env) (λu s₂=>wpAny (model X.prog X.w) X.A (compareOp op v u) (EP X pins σ Q) X.xe s₂) X.xe s₁) X.xe s
theorem zhv (b:Expr)(h:op≠.In)(h2:op≠.NotIn):behindInMarks op b=false:=by
 have e1:(op == CmpOp.In)=false:=by cases op <;>first|rfl|exact absurd rfl h
 have e2:(op == CmpOp.NotIn)=false:=by cases op <;>first|rfl|exact absurd rfl h2
 cases b <;>simp[behindInMarks,e1,e2]
def zs2 (ta:TE):TE:=λσ H Q=>ta σ H λx H1=>Q (.bl (decide (x=.non))) H1
def zrY (ta:TE):TE:=λσ H Q=>ta σ H λx H1=>Q (.bl (!decide (x=.non))) H1
theorem RelV.none_iff {x:V}{v:Value}(r:RelV x v):(v == Value.none)=decide (x=.non):=by
 cases x with
 | non=>cases r;rfl
 | bl _=>cases r;rfl
 | int _=>obtain⟨t,rfl⟩:=r;rfl
 | str _=>obtain⟨t,rfl⟩:=r;rfl
 | byt _=>obtain⟨t,rfl⟩:=r;rfl
 | flt _=>obtain⟨t,rfl⟩:=r;rfl
 | ref _=>cases r;rfl
 | ty _=>cases r;rfl
theorem zp2 {j pos'}(ha:PE X a ta):PC X .Is a (.Constant .none j pos') (zs2 ta):=by
 intro pins s σ H Q I h
 refine thn (ha pins s σ H _ I h) λv s1 hq0=>?_
 obtain⟨x,H1,I1,r1,q1⟩:=hq0
 exact Constant_none (is_none_gen ⟨.bl _,H1,I1,by rw[r1.none_iff];rfl,q1⟩)
theorem zoa {j pos'}(ha:PE X a ta):PC X .IsNot a (.Constant .none j pos') (zrY ta):=by
 intro pins s σ H Q I h
 refine thn (ha pins s σ H _ I h) λv s1 hq1=>?_
 obtain⟨x,H1,I1,r1,q1⟩:=hq1
 exact Constant_none (isnot_none_gen ⟨.bl _,H1,I1,by rw[r1.none_iff];rfl,q1⟩)
def tB (t:TE):TT:=λσ H Q=>t σ H λx H1=>∃c,x=.bl c/\Q c H1
theorem zqr (h:PC X op a b t)(h1:behindInMarks op b=false:=by first|exact zhv _ (by decide) (by decide)|rfl):PE X (.Compare a [op] [b] pos) t:=λpins s σ H Q I hw=>wpAny_Compare1 (h pins s σ H Q I hw) h1
theorem zp5 (h:PC X op a b t)(h1:behindInMarks op b=false:=by first|exact zhv _ (by decide) (by decide)|rfl):PT X (.Compare a [op] [b] pos) (tB t):=by
 intro pins s σ H Q I hw
 refine wpAny_isTrue_Compare1 (thn (h pins s σ H _ I hw) λv s1 h1=>thn h1 λu s2 h2=>thn h2 λc s3 ⟨x,H1,I1,r1,q1⟩=>?_) h1
 obtain⟨d,rfl,q⟩:=q1
 cases r1
 exact la9 ⟨H1,I1,q⟩
theorem zpY (h:PE X e t)(he:∀whole,isTrue e X.env whole=(do let v ← whole;standAt e.pos;holding [v] (truthy v)):=by intro _;rfl):PT X e (tB t):=by
 intro pins s σ H Q I hw
 refine isTrue_plain (thn (h pins s σ H _ I hw) λv s1 hq2=>?_) (he _)
 obtain⟨x,H1,I1,r1,q1⟩:=hq2
 obtain⟨d,rfl,q⟩:=q1
 cases r1
 exact la9 ⟨H1,I1,q⟩
variable {tA tB':TT}{rest:List Expr}
def tOr (t u:TT):TT:=λσ H Q=>t σ H λc H1=>if c=true then Q true H1 else u σ H1 Q
def zsD (t:TT):TT:=λσ H Q=>t σ H λc H1=>Q (!c) H1
theorem zqe (ha:PT X a tA):PW X (.BoolOp .Or [a] pos) tA:=by
 intro wh pins s σ H Q I h
 refine isTrue_or (thn (ha pins s σ H Q I h) λc s1 e=>?_)
 cases c with
 | false=>exact isTrue_or_nil e
 | true=>exact e
theorem zrs (ha:PT X a tA)(hb:PW X (.BoolOp .Or (b::rest) pos) tB'):PW X (.BoolOp .Or (a::b::rest) pos) (tOr tA tB'):=by
 intro wh pins s σ H Q I h
 refine isTrue_or (thn (ha pins s σ H _ I h) λc s1 hq3=>?_)
 obtain⟨H1,I1,q1⟩:=hq3
 cases c with
 | true=>exact⟨H1,I1,q1⟩
 | false=>exact hb wh pins s1 σ H1 Q I1 q1
theorem zpA (ha:PT X a tA):PT X (.UnaryOp .Not a pos) (zsD tA):=by
 intro pins s σ H Q I h
 exact isTrue_not (thn (ha pins s σ H (λc H1=>Q (!c) H1) I h) λ_ _ ⟨b,I,q⟩=>⟨b,I,q⟩)
def zrH (ta tb:TE):TE:=λσ H Q=>ta σ H λx H1=>∃c,x=.bl c/\if c=true then tb σ H1 Q else Q (.bl false) H1
def zsF (ta tb:TE):TE:=λσ H Q=>ta σ H λx H1=>∃c,x=.bl c/\if c=true then Q (.bl true) H1 else tb σ H1 Q
def zrK (ta:TE):TE:=λσ H Q=>ta σ H λx H1=>∃c,x=.bl c/\Q (.bl (!c)) H1
theorem zqy {op}(h:PE X a t):PE X (.BoolOp op [a] pos) t:=λpins s σ H Q I hw=>BoolOp_one (h pins s σ H Q I hw)
theorem zpk (ha:PE X a ta)(hb:PE X (.BoolOp .And (b::rest) pos) tb):PE X (.BoolOp .And (a::b::rest) pos) (zrH ta tb):=by
 intro pins s σ H Q I h
 refine BoolOp_and (thn (ha pins s σ H _ I h) λv s1 hq4=>?_)
 obtain⟨x,H1,I1,r1,q1⟩:=hq4
 obtain⟨c,rfl,q1⟩:=q1
 cases r1
 refine la9 ?_
 cases c with
 | true=>exact hb pins s1 σ H1 Q I1 q1
 | false=>exact⟨.bl false,H1,I1,rfl,q1⟩
theorem zrD (ha:PE X a ta)(hb:PE X (.BoolOp .Or (b::rest) pos) tb):PE X (.BoolOp .Or (a::b::rest) pos) (zsF ta tb):=by
 intro pins s σ H Q I h
 refine BoolOp_or (thn (ha pins s σ H _ I h) λv s1 hq5=>?_)
 obtain⟨x,H1,I1,r1,q1⟩:=hq5
 obtain⟨c,rfl,q1⟩:=q1
 cases r1
 refine la9 ?_
 cases c with
 | false=>exact hb pins s1 σ H1 Q I1 q1
 | true=>exact⟨.bl true,H1,I1,rfl,q1⟩
theorem zp6 (ha:PE X a ta):PE X (.UnaryOp .Not a pos) (zrK ta):=by
 intro pins s σ H Q I h
 refine UnaryOp_ (thn (ha pins s σ H _ I h) λv s1 hq6=>?_)
 obtain⟨x,H1,I1,r1,q1⟩:=hq6
 obtain⟨c,rfl,q1⟩:=q1
 cases r1
 exact not_of (la9 ⟨.bl (!c),H1,I1,rfl,q1⟩)
end
def SqL (K:qQ0)(H:Hp)(a:Addr)(xs:List V):Prop :=
 Rd H a (.lst xs) ∨
  ∃(o:Obj) (its:Array Value) (n:Nat),K.lookup a=some o/\o.cls=.type "list" /\ o.dict=none/\o.data=.seq its n/\its.size<=sizeLine/\Vals xs its.toList
def SqT (K:qQ0)(H:Hp)(a:Addr)(xs:List V):Prop :=
 Rd H a (.tup xs) ∨
  ∃(o:Obj) (its:Array Value) (n:Nat),K.lookup a=some o/\o.cls=.type "tuple" /\ o.dict=none/\o.data=.seq its n/\its.size<=sizeLine/\Vals xs its.toList
def zsY:Value->Option V
 | .none=>some .non
 | .bool b=>some (.bl b)
 | .int i _=>some (.int i)
 | .str x _=>some (.str x)
 | .bytes b _=>some (.byt b)
 | .float b _=>some (.flt b)
 | .ref a=>some (.ref a)
 | .type n=>some (.ty n)
 | _=>none
theorem RelV.abs {x:V}(r:RelV x u):zsY u=some x:=by
 cases x with
 | non=>cases r;rfl
 | bl _=>cases r;rfl
 | int _=>obtain⟨t,rfl⟩:=r;rfl
 | str _=>obtain⟨t,rfl⟩:=r;rfl
 | byt _=>obtain⟨t,rfl⟩:=r;rfl
 | flt _=>obtain⟨t,rfl⟩:=r;rfl
 | ref _=>cases r;rfl
 | ty _=>cases r;rfl
theorem RelV.inj {x y:V}(r:RelV x u)(q:RelV y u):x=y:=lp (r.abs.symm.trans q.abs)
theorem Vals.inj:∀{xs ys:List V}{us:List Value},Vals xs us->Vals ys us->xs=ys:=by
 intro xs ys us h k
 induction h generalizing ys with
 | nil=>cases k;rfl
 | cons r t ih=>cases k with|cons r' t'=>rw[r.inj r',ih t']
section
variable {X:Cx}{pins:List (Addr×Obj)}{σ:St}{H:Hp}{s:Shared}{a:Addr}{xs ys:List V}
theorem SqT.of {K:qQ0}(h:H a=some (.tup xs)):SqT K H a xs:=.inl (.inl h)
theorem Inv.list (I:Inv X pins σ H s)(h:SqL X.K H a xs):∃its:List Value,Vals xs its/\PlainL s.heap a its.toArray/\xs.length<=sizeLine:=by
 rcases h with h|⟨o,its,n,hk,hc,hd,hs,hz,r⟩
 ·obtain⟨z,its,n,r,e⟩:=h.ok I.hok
  exact⟨its,r,⟨_,n,e,rfl,rfl,rfl⟩,z⟩
 ·refine⟨its.toList,r,⟨o,n,I.kIn a o hk,hc,hd,by simpa using hs⟩,?_⟩
  have e:=r.length
  simp only[lbs] at e
  omega
theorem Inv.tuple (I:Inv X pins σ H s)(h:SqT X.K H a xs):∃its:List Value,Vals xs its/\IsTup s.heap a its.toArray/\xs.length<=sizeLine:=by
 rcases h with h|⟨o,its,n,hk,hc,_,hs,hz,r⟩
 ·obtain⟨z,its,r,p⟩:=h.ok I.hok
  exact⟨its,r,p.tup,z⟩
 ·refine⟨its.toList,r,⟨o,I.kIn a o hk,hc,n,by simpa using hs⟩,?_⟩
  have e:=r.length
  simp only[lbs] at e
  omega
theorem Inv.noDict (I:Inv X pins σ H s)(h:SqT X.K H a xs):∃o,s.heap.get? a=some o/\o.cls=.type "tuple" /\ o.dict=none:=by
 rcases h with h|⟨o,its,n,hk,hc,hd,hs,hz,r⟩
 ·obtain⟨z,its,r,o,e,c,_,d⟩:=h.ok I.hok
  exact⟨o,e,c,d⟩
 ·exact⟨o,I.kIn a o hk,hc,hd⟩
theorem Inv.list_inj (I:Inv X pins σ H s)(h:SqL X.K H a xs)(h':SqL X.K H a ys):xs=ys:=by
 obtain⟨its,r,⟨o,n,e,_,_,d⟩,_⟩:=I.list h
 obtain⟨its',r',⟨o',n',e',_,_,d'⟩,_⟩:=I.list h'
 rw[e] at e';cases e'
 rw[d] at d'
 injection d' with d1 _
 have:its=its':=by simpa using lbG Array.toList d1
 subst this
 exact r.inj r'
theorem Inv.tuple_inj (I:Inv X pins σ H s)(h:SqT X.K H a xs)(h':SqT X.K H a ys):xs=ys:=by
 obtain⟨its,r,⟨o,e,_,n,d⟩,_⟩:=I.tuple h
 obtain⟨its',r',⟨o',e',_,n',d'⟩,_⟩:=I.tuple h'
 rw[e] at e';cases e'
 rw[d] at d'
 injection d' with d1 _
 have:its=its':=by simpa using lbG Array.toList d1
 subst this
 exact r.inj r'
end
abbrev Cx.wish (X:Cx)(E:qQ2):Cx:={X with xe:=E}
abbrev Cx.nox (X:Cx):Cx:=X.wish λ_ _=>False
theorem Cx.Ok.wish {X:Cx}(ok:X.Ok)(E:qQ2):(X.wish E).Ok :=
 ⟨ok.mod,ok.kind,ok.glob,ok.blt,ok.above,ok.inj,ok.has,ok.cab,ok.hd,ok.frames,ok.stk,ok.exf,ok.bs,ok.bsz,ok.noex,ok.exfs,ok.funs,ok.frf⟩
theorem Cx.Ok.unwish {X:Cx}(ok:(X.wish E).Ok):X.Ok :=
 ⟨ok.mod,ok.kind,ok.glob,ok.blt,ok.above,ok.inj,ok.has,ok.cab,ok.hd,ok.frames,ok.stk,ok.exf,ok.bs,ok.bsz,ok.noex,ok.exfs,ok.funs,ok.frf⟩
section
variable {X:Cx}{pins:List (Addr×Obj)}{σ:St}{H:Hp}{s:Shared}{E:qQ2}
theorem Inv.wish (I:Inv X pins σ H s)(E:qQ2):Inv (X.wish E) pins σ H s:=⟨I.ok.wish E,I.os,I.bare,I.base,I.loc,I.cell,I.free,I.freeC,I.pin,I.hok,I.len⟩
theorem Inv.unwish (I:Inv (X.wish E) pins σ H s):Inv X pins σ H s:=⟨I.ok.unwish,I.os,I.bare,I.base,I.loc,I.cell,I.free,I.freeC,I.pin,I.hok,I.len⟩
theorem SP.unwish {D:Ends}{f:Flow}{s':Shared}(h:SP (X.wish E) pins D f s'):SP X pins D f s':=by
 cases f with
 | next=>obtain⟨σ',H',I,q⟩:=h;exact⟨σ',H',I.unwish,q⟩
 | brk=>obtain⟨σ',H',I,q⟩:=h;exact⟨σ',H',I.unwish,q⟩
 | cont=>obtain⟨σ',H',I,q⟩:=h;exact⟨σ',H',I.unwish,q⟩
 | ret u=>obtain⟨v,σ',H',I,r,q⟩:=h;exact⟨v,σ',H',I.unwish,r,q⟩
theorem PE.nox (h:PE X.nox e t):PE X e t:=λpins s σ H Q I hw =>
 laT (h pins s σ H Q (I.wish _) hw) (λ_ _ ⟨v,H',I',r,q⟩=>⟨v,H',I'.unwish,r,q⟩) λ_ _ z=>False.elim z
theorem PT.nox {t:TT}(h:PT X.nox e t):PT X e t:=λpins s σ H Q I hw =>
 laT (h pins s σ H Q (I.wish _) hw) (λ_ _ ⟨H',I',q⟩=>⟨H',I'.unwish,q⟩) λ_ _ z=>False.elim z
theorem PSs.nox {st:List Stmt}{t:TS}(h:PSs X.nox st t):PSs X st t:=λpins s σ H D I hw =>
 laT (h pins s σ H D (I.wish _) hw) (λ_ _ q=>q.unwish) λ_ _ z=>False.elim z
end
section
variable {X:Cx}{st:Stmt}{rest:List Stmt}{t u:TS}{e:Expr}{te:TE}{pos:Pos}
def zru:TS:=λD σ H=>D.nx σ H
def zsO (t u:TS):TS:=λD σ H=>t {D with nx:=u D} σ H
theorem zoc:PSs X [] zru:=λ_ _ σ H _ I h=>ldE ⟨σ,H,I,h⟩
theorem zey (h1:PS X st t)(h2:PSs X rest u):PSs X (st::rest) (zsO t u):=by
 intro pins s σ H D I h
 refine lec (thn (h1 pins s σ H {D with nx:=u D} I h) λf s1 q=>?_)
 cases f with
 | next =>
  obtain⟨σ',H',I',q⟩:=q
  exact h2 pins s1 σ' H' D I' q
 | ret v=>exact q
 | brk=>exact q
 | cont=>exact q
theorem zgz (h1:PS X st t):PSs X [st] t:=by
 intro pins s σ H D I h
 refine lec (thn (h1 pins s σ H D I h) λf s1 q=>?_)
 cases f with
 | next=>exact ldE q
 | ret v=>exact q
 | brk=>exact q
 | cont=>exact q
theorem Inv.quiet (I:Inv X pins σ H s):interactive X.env=false:=by simp[interactive,I.ok.kind]
def zrC (te:TE):TS:=λD σ H=>te σ H λ_ H1=>D.nx σ H1
theorem zeL (he:PE X e te)(hs:swapsWith e none pos.line X.env=pure false:=by rfl):PS X (.Expr e pos) (zrC te):=by
 intro pins s σ H D I h
 exact wpAny_Expr_any (thn (he pins s σ H _ I h) λv s1 ⟨x,H1,I1,r1,q1⟩=>⟨σ,H1,I1,q1⟩) I.quiet hs
def zsL (te:TE):TS:=λD σ H=>te σ H D.rt
theorem zi6 (he:PE X e te):PS X (.Return (some e) pos) (zsL te):=by
 intro pins s σ H D I h
 exact wpAny_Return_some (thn (he pins s σ H _ I h) λv s1 ⟨x,H1,I1,r1,q1⟩=>⟨x,σ,H1,I1,r1,q1⟩)
def zsJ (c:TT)(t u:TS):TS:=λD σ H=>c σ H λb H1=>if b=true then t D σ H1 else u D σ H1
theorem zrW {c:Expr}{a b:List Stmt}{tc:TT}(hc:PT X c tc)(ha:PSs X a t)(hb:PSs X b u):PS X (.If c a b pos) (zsJ tc t u):=by
 intro pins s σ H D I h
 refine wpAny_If (thn (hc pins s σ H _ I h) λd s1 hq7=>?_)
 obtain⟨H1,I1,q1⟩:=hq7
 cases d with
 | true=>exact ha pins s1 σ H1 D I1 q1
 | false=>exact hb pins s1 σ H1 D I1 q1
end
abbrev TG:=V->St->Hp->(St->Hp->Prop)->Prop
abbrev TGs:=List V->St->Hp->(St->Hp->Prop)->Prop
def PG (X:Cx)(target:Expr)(t:TG):Prop :=
 ∀ (pins:List (Addr×Obj)) (s:Shared) (σ:St) (H:Hp) (v:V) (u:Value) (Q:St->Hp->Prop),Inv X pins σ H s->RelV v u->t v σ H Q ->
  wpAny (model X.prog X.w) X.A (assign target X.env u) (λ_ s'=>∃σ' H',Inv X pins σ' H' s'/\Q σ' H') X.xe s
def PGs (X:Cx)(ts:List Expr)(t:TGs):Prop :=
 ∀ (pins:List (Addr×Obj)) (s:Shared) (σ:St) (H:Hp) (vs:List V) (us:List Value) (Q:St->Hp->Prop),Inv X pins σ H s->Vals vs us->t vs σ H Q ->
  wpAny (model X.prog X.w) X.A (assignInOrder ((assignEach ts X.env).map (·.2)) us) (λ_ s'=>∃σ' H',Inv X pins σ' H' s'/\Q σ' H') X.xe s
section
variable {X:Cx}{pos:Pos}
def vM (i:Nat):TG:=λv σ H Q=>Q (σ.set i (some v)) H
theorem zN (hN:X.N.Nodup)(hi:X.N[i]? = some x)(hx:Loc X.env.scope x)(hf:X.fn x=true∨X.env.scope.names.lookup x=some .local:=by first|exact .inl rfl|exact .inr rfl|assumption):PG X (.Name x pos) (vM i):=by
 intro pins s σ H v u Q I r h
 exact wpAny_assign_Name (zae I hN hi hx r (λs' I'=>⟨_,H,I',h⟩) hf)
def ziN:TGs:=λvs σ H Q=>vs=[]/\Q σ H
def uF (t:TG)(u:TGs):TGs:=λvs σ H Q=>∃v r,vs=v::r/\t v σ H λσ' H'=>u r σ' H' Q
theorem zhf:PGs X [] ziN:=by
 intro pins s σ H vs us Q I r h
 obtain⟨e,h⟩:=h
 subst e
 cases r
 exact assignInOrder_nil ⟨σ,H,I,h⟩
theorem j8 {t:TG}{u:TGs}(h1:PG X e t)(h2:PGs X es u)
  (hs:(assignEach (e::es) X.env).map (·.2)=assign e X.env::(assignEach es X.env).map (·.2):=by rfl):PGs X (e::es) (uF t u):=by
 intro pins s σ H vs us Q I r h
 obtain⟨v,vr,e1,h⟩:=h
 subst e1
 cases r with
 | cons r rr =>
  rw[hs]
  refine assignInOrder_cons (thn (h1 pins s σ H _ _ _ I r h) λ_ s1 hq8=>?_)
  obtain⟨σ1,H1,I1,q1⟩:=hq8
  exact h2 pins s1 σ1 H1 _ _ Q I1 rr q1
def ziQ (K:qQ0)(n:Nat)(t:TGs):TG:=λv σ H Q=>∃a xs,v=.ref a/\SqT K H a xs/\xs.length=n/\t xs σ H Q
theorem zjV {k:Nat}{t:TGs}{n:Nat}(hc:X.calm=true)(h:PGs X es t)
  (hn:(assignEach es X.env).length=n:=by rfl) (hst:(assignEach es X.env).findIdx? (·.1)=none:=by rfl):PG X (.Tuple es k pos) (ziQ X.K n t):=by
 intro pins s σ H v u Q I r hw
 obtain⟨a,xs,e1,hq,hl,hw⟩:=hw
 subst e1
 cases r
 obtain⟨its,rv,ht,hz⟩:=I.tuple hq
 refine assign_Tuple_tuple (I.ok.hd hc) ht (by simp[hn,← hl,rv.length]) hst λh' hx=>?_
 have I1:Inv X pins σ H {s with heap:=h'}:=I.kept (t':=s.toks) λb o e=>hx b o (lR (ly e)) e
 exact h pins _ σ H xs _ Q I1 (by simpa using rv) hw
def zsX (te:TE)(g:TG):TS:=λD σ H=>te σ H λx H1=>g x σ H1 D.nx
theorem zgh {te:TE}{pos':Pos}(hN:X.N.Nodup)(hi:X.N[i]? = some x)(hx:Loc X.env.scope x)(he:PE X e te)(hs:swapsWith e (some (.Name x pos')) pos.line X.env=pure false:=by rfl)(hf:X.fn x=true∨X.env.scope.names.lookup x=some .local:=by first|exact .inl rfl|exact .inr rfl|assumption) :
  PS X (.Assign [.Name x pos'] e pos) (zsX te (vM i)):=by
 intro pins s σ H D I h
 refine wpAny_Assign_Name (thn (he pins s σ H _ I h) λv s1 ⟨y,H1,I1,r1,q1⟩=>?_) hs
 exact zae I1 hN hi hx r1 (λs2 I2=>⟨_,H1,I2,q1⟩) hf
def zsz (i j:Nat)(ta:TA):TS:=λD σ H=>ta σ H λvs H1=>∃v w,vs=[v,w]/\D.nx ((σ.set i (some v)).set j (some w)) H1
theorem zp1 {y:Str}{a b:Expr}{px py pt:Pos}{kt k2 pt2}(hc:X.calm=true)(hN:X.N.Nodup)(hi:X.N[i]? = some x)(hj:X.N[j]? = some y)(hij:i≠j)
  (hx:X.env.scope.names.lookup x=some .local) (hy:X.env.scope.names.lookup y=some .local) (ha:PA X [a,b] ta)
  (hw:swappedStores [.Tuple [.Name x px,.Name y py] kt pt] (.Tuple [a,b] k2 pt2) X.env=pure (some [x,y]))
  (hs:swapsWithSole [.Tuple [.Name x px,.Name y py] kt pt] (.Tuple [a,b] k2 pt2) pos.line X.env=pure false:=by rfl) :
  PS X (.Assign [.Tuple [.Name x px,.Name y py] kt pt] (.Tuple [a,b] k2 pt2) pos) (zsz i j ta):=by
 intro pins s σ H D I h
 rw[exec_Assign_arm]
 refine la (wpAny_standAt ?_)
 rw[hs]
 refine la (lq ?_)
 rw[lY (by decide)]
 refine la (Tuple_ (thn (ha _ pins s σ H _ I h) λus s1 hq9=>?_))
 obtain⟨vs,H1,I1,r1,q1⟩:=hq9
 obtain⟨v,w,e1,q1⟩:=q1
 subst e1
 obtain ⟨u1,u2,rfl,rv,rw'⟩:∃u1 u2,us=[u1,u2]/\RelV v u1/\RelV w u2:=by
  cases r1 with
  | cons p q =>
   cases q with
   | cons p' q' =>
    cases q'
    exact⟨_,_,rfl,p,p'⟩
 refine laz ?_ (by show 2<=sizeLine;decide)
 have I2:Inv X pins σ H1 {s1 with heap:=s1.heap.push {cls:=.type "tuple", data:=.seq [u1,u2].toArray} }:=I1.kept (t':=s1.toks) λb o e=>lg _ e
 rw[hw]
 refine la (lq ?_)
 show wpAny (model X.prog X.w) X.A (do rule "assign.swapped-stores"; let items ← unpackItems (.ref s1.heap.objs.size) 2 none;assignInOrder [λv=>bindName X.env y v,λv=>bindName X.env x v] items.reverse;pure Flow.next) _ _ _
 refine la (lcF (la (unpackItems_tuple (items:=#[u1,u2]) (I.ok.hd hc) (IsTup.new s1.heap _) λh' hx'=>?_)))
 have I3:=I2.kept (h':=h') (t':=s1.toks) λb o e=>hx' b o (lR (ly e)) e
 show wpAny _ _ (assignInOrder [λv=>bindName X.env y v,λv=>bindName X.env x v] [u2,u1] >>= λ_=>pure Flow.next) _ _ _
 refine la (assignInOrder_cons (wpAny_bindName (zae I3 hN hj (.inl hy) rw' (λs2 I4=>?_) (.inr hy))))
 refine assignInOrder_cons (wpAny_bindName (zae I4 hN hi (.inl hx) rv (λs3 I5=>assignInOrder_nil (lq ?_)) (.inr hx)))
 rw[List.set_comm _ _ (lbF hij)] at I5
 exact⟨_,H1,I5,q1⟩
end
section
variable {X:Cx}{pos:Pos}
def zqS (c:TT)(tb:TS):TS:=λD σ H=>∃W:Nat->St->Hp->Prop,(∃m,W m σ H)/\∀m σ H,W m σ H ->
 c σ H λb H1=>if b=true then ∃N:St->Hp->Prop,(∀σ' H',N σ' H'->∃m',m'<m/\W m' σ' H')/\tb {D with nx:=N,ct:=N,bk:=D.nx} σ H1 else D.nx σ H1
theorem zma {c:Expr}{tc:TT}{tb:TS}(hp:PassesOwn (model X.prog X.w) X.A X.env X.xe)(hc:PT X c tc)(hb:PSs X body tb):PS X (.While c body [] pos) (zqS tc tb):=by
 intro pins s σ H D I h
 obtain⟨W,⟨m0,w0⟩,turn⟩:=h
 refine wpAny_While (codeAny_whileLoop (λn s'=>∃σ' H',Inv X pins σ' H' s'/\W n σ' H') ?_ m0 ⟨σ,H,I,w0⟩)
 rintro n s1 ⟨σ1,H1,I1,w1⟩
 refine lbZ hp (thn (hc pins s1 σ1 H1 _ I1 (turn n σ1 H1 w1)) λb s2 zoS=>?_)
 obtain⟨H2,I2,q2⟩:=zoS
 cases b with
 | true =>
  obtain⟨N,hN,q2⟩:=q2
  rw[lO rfl]
  refine lbZ hp (thn (hb pins s2 σ1 H2 _ I2 q2) λf s3 q3=>?_)
  cases f with
  | next =>
   obtain⟨σ3,H3,I3,n3⟩:=q3
   obtain⟨m',hm,w3⟩:=hN σ3 H3 n3
   exact⟨m',hm,σ3,H3,I3,w3⟩
  | cont =>
   obtain⟨σ3,H3,I3,n3⟩:=q3
   obtain⟨m',hm,w3⟩:=hN σ3 H3 n3
   exact⟨m',hm,σ3,H3,I3,w3⟩
  | brk=>exact q3
  | ret v=>exact q3
 | false =>
  rw[lY lE]
  exact ldE ⟨σ1,H2,I2,q2⟩
end
structure It where
 go:Nat->Hp->Prop
 yld:Nat->Hp->V->Hp->Prop
 stop:Nat->Hp->Prop
def zlC (X:Cx)(pins:List (Addr×Obj))(H:Hp)(b:Addr):Prop :=
 H b=none/\b≠X.env.locals/\b∉X.fs/\(b∈X.ex∨X.s₀.heap.objs.size<=b)/\(∀x c,X.env.cells.lookup x=some c->c≠b)/\∀p∈X.pn++pins,p.1≠b
theorem Inv.fpOk {X:Cx}{H':Hp}(I:Inv X pins σ H s)(hb:s.heap.objs.size<=b)(hn:H' b=none):zlC X pins H' b:=by
 refine⟨hn,la1 (lB I.lt hb),I.nofs hb,.inr (laC I.sz hb),λx c e z=>?_,λp hp z=>?_⟩
 ·obtain⟨v,q⟩:=I.cell x c e
  exact absurd (lB q.lt (by rw[z];exact hb)) (lbE _)
 ·exact absurd (lB (ly (I.pin p hp).1) (by rw[z];exact hb)) (lbE _)
structure Turn (P:Program)(w:World)(K:qQ0)(tg:Expr)(J:It)(fp:List Addr)(it:Addr)(tn:Nat->Heap->Prop):Prop where
 mem:it∈fp
 obj:∀i h,tn i h->∀b∈fp,∃o,h.get? b=some o/\∀v,o.data≠.cell v
 keep:∀i h h',tn i h->(∀b∈fp,∀o,h.get? b=some o->h'.get? b=some o)->tn i h'
 item:∀(X:Cx),X.prog=P->X.w=w->X.K=K->X.calm=true->∀(i:Nat) (pins:List (Addr×Obj)) (s:Shared) (σ:St) (H:Hp) (E:qQ2),Inv X pins σ H s->(∀b∈fp,zlC X pins H b)->tn i s.heap->J.go i H ->
  wpAny (model P w) X.A (pyNext (.ref it)) (λr s1=>∃u,r=some u /\
   wpAny (model P w) X.A (letOwnedTupleGo tg (.ref it) u) (λ_ s2=>∃x H',Inv X pins σ H' s2/\RelV x u/\J.yld i H x H'/\tn (i+1) s2.heap/\∀b∈fp,H' b=none) E s1) E s
 done:∀(X:Cx),X.prog=P->X.w=w->X.K=K->X.calm=true->∀(i:Nat) (pins:List (Addr×Obj)) (s:Shared) (σ:St) (H:Hp) (E:qQ2),Inv X pins σ H s->(∀b∈fp,zlC X pins H b)->tn i s.heap->J.stop i H ->
  wpAny (model P w) X.A (pyNext (.ref it)) (λr s1=>r=none/\Inv X pins σ H s1) E s
 self:∀(A:Around) (i:Nat) (s:Shared) (Q:qQ2) (E:qQ2),tn i s.heap->Q (.ref it) s->wpAny (model P w) A (pyIter (.ref it)) Q E s
abbrev TI:=St->Hp->(It->Hp->Prop)->Prop
inductive PIE (X:Cx)(pins:List (Addr×Obj))(σ:St)(tg:Expr)(R:It->Hp->Prop)(itv:Value)(s2:Shared):Prop
 | mk (it:Addr) (fp:List Addr) (tn:Nat->Heap->Prop) (J:It) (H':Hp) (e:itv=.ref it) (I:Inv X pins σ H' s2) (T:Turn X.prog X.w X.K tg J fp it tn) (z:tn 0 s2.heap) (f:(∀b∈fp,zlC X pins H' b)) (q:R J H')
def PI (X:Cx)(tg iter:Expr)(wi:TI):Prop :=
 ∀ (pins:List (Addr×Obj)) (s:Shared) (σ:St) (H:Hp) (R:It->Hp->Prop),Inv X pins σ H s->wi σ H R ->
  wpAny (model X.prog X.w) X.A (eval iter X.env) (λv s1=>wpAny (model X.prog X.w) X.A (pyIter v) (PIE X pins σ tg R) X.xe s1) X.xe s
theorem zmb {A:Around}{it:Addr}{n:String}{vs:Array Value}(ho:s.heap.get? it=some o)(hc:o.cls=.type n)(hd:o.data=.fields vs)
  (hn:["enumerate", "zip", "dict_itemiterator", "dict_reverseitemiterator", "odict_iterator", "itertools.zip_longest", "itertools.pairwise"].contains n=false) (hQ:Q () s):wpAny M A (letOwnedTupleGo tg (.ref it) u) Q E s:=by
 unfold letOwnedTupleGo
 cases tg <;>first
  | exact lq hQ
  | (cases u <;>first
    | exact lq hQ
    | (refine la (wpAny_load ho ?_)
       rw[hc,hd]
       show wpAny M A (if (["enumerate", "zip", "dict_itemiterator", "dict_reverseitemiterator", "odict_iterator", "itertools.zip_longest", "itertools.pairwise"].contains n&&vs[0]? == some (rawInt _))=true then _ else _) Q E s
       rw[lY (by intro h;rw[hn,Bool.false_and] at h;cases h)]
       exact lq hQ))
def Itl (K:qQ0)(a:Addr):It :=
 ⟨λi H=>∃xs x,SqL K H a xs/\xs[i]? = some x,λi H x H'=>H'=H/\∀xs,SqL K H a xs->xs[i]? = some x,λi H=>∃xs,SqL K H a xs/\xs.length<=i⟩
def Itt (K:qQ0)(a:Addr):It :=
 ⟨λi H=>∃xs x,SqT K H a xs/\xs[i]? = some x,λi H x H'=>H'=H/\∀xs,SqT K H a xs->xs[i]? = some x,λi H=>∃xs,SqT K H a xs/\xs.length<=i⟩
def Itr (lo:Int)(n:Nat):It:=⟨λi _=>i<n,λi H x H'=>H'=H/\x=.int (lo+i),λi _=>n<=i⟩
theorem zjv {K:qQ0}(a it:Addr):Turn P w K tg (Itl K a) [it] it (λi h=>h.IsListIter it a i) where
 mem:=by simp
 obj:=λi h st b hb=>by
  have e:b=it:=by simpa using hb
  subst e
  obtain⟨o,e,c,d⟩:=st
  exact⟨o,e,λv z=>by rw[d] at z;cases z⟩
 keep:=λi h h' st k=>st.at λo e=>k it (by simp) o e
 item:=by
  intro X hP hw hK hc i pins s σ H E I hf st hg
  subst hP hw hK
  obtain⟨xs,x,hq,hx⟩:=hg
  obtain⟨its,rv,p,hz⟩:=I.list hq
  obtain⟨u,hu,ru⟩:=rv.get hx
  obtain⟨f0,f1,f2,f3,f4,f5⟩:=hf it (by simp)
  refine wpAny_pyNext_list_item st p.isList (x:=u) (by simpa using hu) λh' st' sb=>?_
  have I1:Inv X pins σ H {s with heap:=h'}:=I.turned (t':=s.toks) (λb o hb e=>(sb.2 b hb).trans e) f0 f1 f3 f4 f5
  obtain⟨o,e,c,d⟩:=id st'
  exact⟨u,rfl,zmb (s:={s with heap:=h'}) e c d (by decide) ⟨x,H,I1,ru,⟨rfl,λys hy=>by rw[I.list_inj hy hq];exact hx⟩,st',λb hb=>(hf b hb).1⟩⟩
 done:=by
  intro X hP hw hK hc i pins s σ H E I hf st hg
  subst hP hw hK
  obtain⟨xs,hq,hx⟩:=hg
  obtain⟨its,rv,p,hz⟩:=I.list hq
  obtain⟨f0,f1,f2,f3,f4,f5⟩:=hf it (by simp)
  have hl:=rv.length
  exact wpAny_pyNext_list_end (I.ok.hd hc) st p.isList (by simp;omega) λh' eb=>⟨rfl,I.turned (t':=s.toks) (λb o hb e=>eb b o hb e) f0 f1 f3 f4 f5⟩
 self:=λ_ _ _ _ _ st h=>wpAny_pyIter_listiter st h
theorem ziG {K:qQ0}(a it:Addr):Turn P w K tg (Itt K a) [it] it (λi h=>h.IsTupleIter it a i) where
 mem:=by simp
 obj:=λi h st b hb=>by
  have e:b=it:=by simpa using hb
  subst e
  obtain⟨o,e,c,d⟩:=st
  exact⟨o,e,λv z=>by rw[d] at z;cases z⟩
 keep:=λi h h' st k=>st.at λo e=>k it (by simp) o e
 item:=by
  intro X hP hw hK hc i pins s σ H E I hf st hg
  subst hP hw hK
  obtain⟨xs,x,hq,hx⟩:=hg
  obtain⟨its,rv,p,hz⟩:=I.tuple hq
  obtain⟨u,hu,ru⟩:=rv.get hx
  obtain⟨f0,f1,f2,f3,f4,f5⟩:=hf it (by simp)
  refine wpAny_pyNext_tuple_item st (show s.heap.IsTuple a its.toArray from p) (x:=u) (by simpa using hu) λh' st' sb=>?_
  have I1:Inv X pins σ H {s with heap:=h'}:=I.turned (t':=s.toks) (λb o hb e=>(sb.2 b hb).trans e) f0 f1 f3 f4 f5
  obtain⟨o,e,c,d⟩:=id st'
  exact⟨u,rfl,zmb (s:={s with heap:=h'}) e c d (by decide) ⟨x,H,I1,ru,⟨rfl,λys hy=>by rw[I.tuple_inj hy hq];exact hx⟩,st',λb hb=>(hf b hb).1⟩⟩
 done:=by
  intro X hP hw hK hc i pins s σ H E I hf st hg
  subst hP hw hK
  obtain⟨xs,hq,hx⟩:=hg
  obtain⟨its,rv,p,hz⟩:=I.tuple hq
  obtain⟨f0,f1,f2,f3,f4,f5⟩:=hf it (by simp)
  have hl:=rv.length
  exact wpAny_pyNext_tuple_end (I.ok.hd hc) st (show s.heap.IsTuple a its.toArray from p) (by simp;omega) λh' eb=>⟨rfl,I.turned (t':=s.toks) (λb o hb e=>eb b o hb e) f0 f1 f3 f4 f5⟩
 self:=λ_ _ _ _ _ st h=>wpAny_pyIter_tupleiter st h
theorem zix {K:qQ0}(it:Addr)(lo:Int)(n:Nat):Turn P w K tg (Itr lo n) [it] it (λi h=>IsRangeIter h it (lo+(i:Nat)*1) ((n:Int) - (i:Nat)) 1) where
 mem:=by simp
 obj:=λi h st b hb=>by
  have e:b=it:=by simpa using hb
  subst e
  exact ⟨_,st,λv z=>by
   have z':Data.fields _=Data.cell v:=z
   cases z'⟩
 keep:=λi h h' st k=>k it (by simp) _ st
 item:=by
  intro X hP hw hK hc i pins s σ H E I hf st hg
  subst hP hw hK
  obtain⟨f0,f1,f2,f3,f4,f5⟩:=hf it (by simp)
  have W:=Walks.range (prog:=X.prog) (w:=X.w) (I.ok.hd hc) it lo 1 n
  refine W.item i s _ _ hg st λv h' tk hv st' kk=>?_
  obtain⟨t,rfl⟩:=hv
  have I1:Inv X pins σ H {s with heap:=h',toks:=tk}:=I.turned (λb o hb e=>kk b o (by simpa using hb) e) f0 f1 f3 f4 f5
  refine⟨_,rfl,zmb (s:={s with heap:=h',toks:=tk}) (n := "range_iterator") st' rfl rfl (by decide) ⟨.int (lo+i),H,I1,⟨t,?_⟩,⟨rfl,rfl⟩,st',λb hb=>(hf b hb).1⟩⟩
  rw[Int.mul_one]
 done:=by
  intro X hP hw hK hc i pins s σ H E I hf st hg
  subst hP hw hK
  obtain⟨f0,f1,f2,f3,f4,f5⟩:=hf it (by simp)
  exact wpAny_pyNext_range_end (I.ok.hd hc) st (by have:n<=i:=hg;omega) λh' eb=>⟨rfl,I.turned (t':=s.toks) (λb o hb e=>eb b o hb e) f0 f1 f3 f4 f5⟩
 self:=λ_ _ _ _ _ st h=>wpAny_pyIter_rangeiter st h
section
variable {X:Cx}{tg:Expr}
def zrw (K:qQ0)(tl:TE):TI:=λσ H R=>tl σ H λx H1=>∃a,x=.ref a/\(∃xs,SqL K H1 a xs)/\R (Itl K a) H1
def zsU (K:qQ0)(tl:TE):TI:=λσ H R=>tl σ H λx H1=>∃a,x=.ref a/\(∃xs,SqT K H1 a xs)/\R (Itt K a) H1
theorem zoz {l:Expr}{tl:TE}(hl:PE X l tl):PI X tg l (zrw X.K tl):=by
 intro pins s σ H R I h
 refine thn (hl pins s σ H _ I h) λv s1 zp3=>?_
 obtain⟨x,H1,I1,r1,q1⟩:=zp3
 obtain⟨a,e,⟨xs,hq⟩,q⟩:=q1
 subst e
 cases r1
 obtain⟨its,rv,p,hz⟩:=I1.list hq
 refine lcu p.isList ?_
 refine⟨s1.heap.objs.size,[s1.heap.objs.size],_,_,H1,rfl,I1.kept (t':=s1.toks) λb o e=>lg _ e,zjv a _,⟨_,lC _ rfl,rfl,rfl⟩,λb hb=>?_,q⟩
 have e:b=s1.heap.objs.size:=by simpa using hb
 subst e
 exact I1.fpOk (lu _) (I1.hok.fresh (lu _))
theorem zpU {l:Expr}{tl:TE}(hl:PE X l tl):PI X tg l (zsU X.K tl):=by
 intro pins s σ H R I h
 refine thn (hl pins s σ H _ I h) λv s1 zqZ=>?_
 obtain⟨x,H1,I1,r1,q1⟩:=zqZ
 obtain⟨a,e,⟨xs,hq⟩,q⟩:=q1
 subst e
 cases r1
 obtain⟨its,rv,p,hz⟩:=I1.tuple hq
 refine lcL (show s1.heap.IsTuple a its.toArray from p) ?_
 refine⟨s1.heap.objs.size,[s1.heap.objs.size],_,_,H1,rfl,I1.kept (t':=s1.toks) λb o e=>lg _ e,ziG a _,⟨_,lC _ rfl,rfl,rfl⟩,λb hb=>?_,q⟩
 have e:b=s1.heap.objs.size:=by simpa using hb
 subst e
 exact I1.fpOk (lu _) (I1.hok.fresh (lu _))
theorem zhV {R:It->Hp->Prop}{lo hi:Int}{t u v:Tok}{tk:Nat}(I:Inv X pins σ H s)(h1:-(2 ^ 62)<=lo)(h2:lo<2 ^ 62)(h3:-(2 ^ 62)<=hi)(h4:hi<2 ^ 62)
  (q:R (Itr lo (hi - lo).toNat) H):wpAny (model X.prog X.w) X.A (pyIter (.ref s.heap.objs.size)) (PIE X pins σ tg R) E {s with heap:=s.heap.push {cls:=.type "range", data:=.fields #[.int lo t,.int hi u,.int 1 v]},toks:=tk}:=by
 refine wpAny_pyIter_range (IsRange.new ..) (small_one h1 h2 h3 h4) ?_
 have I1:Inv X pins σ H {s with heap:=s.heap.push {cls:=.type "range", data:=.fields #[.int lo t,.int hi u,.int 1 v]},toks:=tk}:=I.kept λb o e=>lg _ e
 refine ⟨(s.heap.push {cls:=.type "range", data:=.fields #[.int lo t,.int hi u,.int 1 v]}).objs.size,[(s.heap.push {cls:=.type "range", data:=.fields #[.int lo t,.int hi u,.int 1 v]}).objs.size],_,_,H,rfl,
  I1.kept (t':=tk) λb o e=>lg _ e,zix _ lo (hi - lo).toNat,?_,λb hb=>?_,q⟩
 ·have e1:lo+((0:Nat):Int)*1=lo:=by simp
  have e2:(((hi - lo).toNat:Nat):Int) - ((0:Nat):Int)=Builtin.Range.rangeSize lo hi 1:=by rw[rangeSize_one];split <;>omega
  show IsRangeIter _ _ (lo+((0:Nat):Int)*1) ((((hi - lo).toNat:Nat):Int) - ((0:Nat):Int)) 1
  rw[e1,e2]
  exact lC _ rfl
 ·have e:b=(s.heap.push {cls:=.type "range", data:=.fields #[.int lo t,.int hi u,.int 1 v]}).objs.size:=by simpa using hb
  subst e
  exact I1.fpOk (lu _) (I1.hok.fresh (lu _))
def zrF (ta:TA):TI:=λσ H R=>ta σ H λvs H1=>∃j:Int,vs=[.int j]/\-(2 ^ 62)<=j/\j<2 ^ 62/\R (Itr 0 j.toNat) H1
def zrR (ta:TA):TI:=λσ H R=>ta σ H λvs H1=>∃i j:Int,vs=[.int i,.int j]/\(-(2 ^ 62)<=i/\i<2 ^ 62/\-(2 ^ 62)<=j/\j<2 ^ 62)/\R (Itr i (j - i).toNat) H1
theorem zkB {a:Expr}{p:Pos}(hg:Gl X "range")(hm:X.mg "range" = none)(ha:PA X [a] ta)(hs:starEach [a] X.env=[(false,eval a X.env)]:=by rfl):PI X tg (.Call (.Name "range" p) [a] [] pos) (zrF ta):=by
 intro pins s σ H R I h
 refine Call_ (zbo I hg hm boot_range (laU (thn (ha pos pins s σ H _ I h) λus s1 ⟨vs,H1,I1,r1,q1⟩=>?_) hs rfl))
 obtain⟨j,e,q1,q2,q⟩:=q1
 subst e
 cases r1 with
 | cons r rr =>
  cases rr
  obtain⟨t,rfl⟩:=r
  exact call_range_1 (zhV I1 (by omega) (by omega) q1 q2 (by simpa using q))
theorem zjq {a b:Expr}{p:Pos}(hg:Gl X "range")(hm:X.mg "range" = none)(ha:PA X [a,b] ta)(hs:starEach [a,b] X.env=[(false,eval a X.env),(false,eval b X.env)]:=by rfl)(hs2:starEach [b] X.env=[(false,eval b X.env)]:=by rfl) :
  PI X tg (.Call (.Name "range" p) [a,b] [] pos) (zrR ta):=by
 intro pins s σ H R I h
 refine Call_ (zbo I hg hm boot_range (laU (thn (ha pos pins s σ H _ I h) λus s1 zpF=>?_) (by rw[hs,hs2]) (by rw[hs2];rfl)))
 obtain⟨vs,H1,I1,r1,q1⟩:=zpF
 obtain⟨i,j,e,⟨q1,q2,q3,q4⟩,q⟩:=q1
 subst e
 cases r1 with
 | cons r rr =>
  cases rr with
  | cons r' rr =>
   cases rr
   obtain⟨t,rfl⟩:=r
   obtain⟨t',rfl⟩:=r'
   exact call_range_2 (zhV I1 q1 q2 q3 q4 q)
def zsA (wi:TI)(g:TG)(tb:TS):TS:=λD σ H=>wi σ H λJ H1=>∃W:Nat->Nat->St->Hp->Prop,(∃m,W 0 m σ H1)/\∀i m σ H,W i m σ H ->
 (J.stop i H/\D.nx σ H)∨(J.go i H/\∃N:St->Hp->Prop,(∀σ' H',N σ' H'->∃m',m'<m/\W (i+1) m' σ' H')/\∀x H',J.yld i H x H'->g x σ H' λσ2 H2=>tb {D with nx:=N,ct:=N,bk:=D.nx} σ2 H2)
def zcW (fp:List Addr)(h:Heap):List (Addr×Obj):=fp.filterMap λb=>(h.get? b).map λo=>(b,o)
theorem j4 (hb:b∈fp)(e:h.get? b=some o):(b,o)∈zcW fp h:=ldQ.mpr ⟨b,hb,by rw[e];rfl⟩
theorem zft {p:Addr×Obj}(hp:p∈zcW fp h):p.1∈fp/\h.get? p.1=some p.2:=by
 obtain⟨b,hb,e⟩:=ldQ.mp hp
 cases q:h.get? b with
 | none=>rw[q] at e;cases e
 | some o =>
  rw[q] at e
  have e':(b,o)=p:=lp e
  subst e'
  exact⟨hb,q⟩
theorem Inv.pinned (I:Inv X pins σ H s)(hf:∀b∈fp,zlC X pins H b)(ho:∀b∈fp,∃o,s.heap.get? b=some o/\∀v,o.data≠.cell v):Inv X (pins++zcW fp s.heap) σ H s :=
 I.pins_of λp hp=>(lap.mp hp).elim (λz=>I.pin p (lV _ z)) λz=>by
  obtain⟨hb,e⟩:=zft z
  obtain⟨f0,f1,f2,_⟩:=hf p.1 hb
  obtain⟨o,e',d⟩:=ho p.1 hb
  rw[e] at e';cases e'
  exact⟨e,f0,f1,f2,d⟩
theorem Inv.unpinned {pl:List (Addr×Obj)}(I:Inv X (pins++pl) σ H s):Inv X pins σ H s:=I.pins_of λp hp=>I.pin p (lV _ (lbX _ hp))
theorem zkw {iter:Expr}{wi:TI}{g:TG}{tb:TS}(hp:PassesOwn (model X.prog X.w) X.A X.env X.xe)(hc:X.calm=true)(hi:PI X tg iter wi)(hg:PG X tg g)(hb:PSs X body tb)
  (hs:∀x,foldedSetIterable iter X.env x=pure x:=by intro _;rfl):PS X (.For tg iter body [] pos) (zsA wi g tb):=by
 intro pins s σ H D I h
 refine wpAny_For (thn (hi pins s σ H _ I h) λv s1 h1=>thn h1 λitv s2 h2=>?_) hs
 obtain⟨it,fp,tn,J,H2,e,I2,T,st2,f2,W,⟨m0,w0⟩,turn⟩:=h2
 subst e
 have stat:∀{H':Hp},(∀b∈fp,H' b=none)->∀b∈fp,zlC X pins H' b:=λhn b hb=>⟨hn b hb,(f2 b hb).2⟩
 refine codeAny_forLoop_any (λn s'=>∃i σ' H',Inv X pins σ' H' s'/\tn i s'.heap/\(∀b∈fp,H' b=none)/\W i n σ' H') ?_ m0 ⟨0,σ,H2,I2,st2,λb hb=>(f2 b hb).1,w0⟩
 rintro n s3 ⟨i,σ3,H3,I3,st3,fr3,w3⟩
 rcases turn i n σ3 H3 w3 with⟨stop,qn⟩|⟨go,N,hN,step⟩
 ·refine lbZ hp (thn (T.done X rfl rfl rfl hc i pins s3 σ3 H3 X.xe I3 (stat fr3) st3 stop) λr s4 zqz=>?_)
  obtain⟨hr,I4⟩:=zqz
  subst hr
  exact ldE ⟨σ3,H3,I4,qn⟩
 ·refine lbZ hp (thn (T.item X rfl rfl rfl hc i pins s3 σ3 H3 X.xe I3 (stat fr3) st3 go) λr s4 zq8=>?_)
  obtain⟨u,hr,h4⟩:=zq8
  subst hr
  refine lbZ hp (thn h4 λ_ s5 zq6=>?_)
  obtain⟨x,H5,I5,r5,y5,st5,fr5⟩:=zq6
  have I5':=I5.pinned (stat fr5) (T.obj _ _ st5)
  refine lbZ hp (thn (hg _ s5 σ3 H5 x u _ I5' r5 (step x H5 y5)) λ_ s6 zrc=>?_)
  obtain⟨σ6,H6,I6,q6⟩:=zrc
  refine lbZ hp (thn (hb _ s6 σ6 H6 _ I6 q6) λf s7 q7=>?_)
  have again:∀{σ7:St}{H7:Hp},Inv X (pins++zcW fp s5.heap) σ7 H7 s7->N σ7 H7->∃m,m<n/\∃i σ' H',Inv X pins σ' H' s7/\tn i s7.heap/\(∀b∈fp,H' b=none)/\W i m σ' H':=λ{σ7 H7} I7 n7=>by
   obtain⟨m',hm,w7⟩:=hN σ7 H7 n7
   refine⟨m',hm,i+1,σ7,H7,I7.unpinned,T.keep _ _ _ st5 λb hb o e=>(I7.pin (b,o) (lV _ (lV _ (j4 hb e)))).1,λb hb=>?_,w7⟩
   obtain⟨o,e,d⟩:=T.obj _ _ st5 b hb
   exact(I7.pin (b,o) (lV _ (lV _ (j4 hb e)))).2.1
  cases f with
  | next=>obtain⟨σ7,H7,I7,n7⟩:=q7;exact again I7 n7
  | cont=>obtain⟨σ7,H7,I7,n7⟩:=q7;exact again I7 n7
  | brk=>obtain⟨σ7,H7,I7,q7⟩:=q7;exact⟨σ7,H7,I7.unpinned,q7⟩
  | ret v=>obtain⟨x7,σ7,H7,I7,r7,q7⟩:=q7;exact⟨x7,σ7,H7,I7.unpinned,r7,q7⟩
end
abbrev R2:=V->V->Hp->VK->Prop
variable {r:R2}
def OpR (X:Cx)(f:Value->Value->Sem Value)(r:R2):Prop :=
 ∀ (pins:List (Addr×Obj)) (s:Shared) (σ:St) (H:Hp) (x y:V) (v u:Value) (Q:VK),Inv X pins σ H s->RelV x v->RelV y u->r x y H Q ->
  wpAny (model X.prog X.w) X.A (f v u) (EP X pins σ Q) X.xe s
def UnR (X:Cx)(f:Value->Sem Value)(r:V->Hp->VK->Prop):Prop :=
 ∀ (pins:List (Addr×Obj)) (s:Shared) (σ:St) (H:Hp) (x:V) (v:Value) (Q:VK),Inv X pins σ H s->RelV x v->r x H Q ->
  wpAny (model X.prog X.w) X.A (f v) (EP X pins σ Q) X.xe s
def ju (X:Cx)(f:Value)(r:List V->Hp->VK->Prop):Prop :=
 ∀ (pins:List (Addr×Obj)) (s:Shared) (σ:St) (H:Hp) (xs:List V) (us:List Value) (Q:VK),Inv X pins σ H s->Vals xs us->r xs H Q ->
  wpAny (model X.prog X.w) X.A (call f us) (EP X pins σ Q) X.xe s
def tOp (r:R2)(ta tb:TE):TE:=λσ H Q=>ta σ H λx H1=>tb σ H1 λy H2=>r x y H2 Q
def tUn (r:V->Hp->VK->Prop)(ta:TE):TE:=λσ H Q=>ta σ H λx H1=>r x H1 Q
def rI (C:Int->Int->Prop)(g:Int->Int->V):R2:=λx y H Q=>∃i j,x=.int i/\y=.int j/\C i j/\Q (g i j) H
def rI0 (g:Int->Int->V):R2:=λx y H Q=>∃i j,x=.int i/\y=.int j/\Q (g i j) H
def rU (g:Int->V):V->Hp->VK->Prop:=λx H Q=>∃i,x=.int i/\Q (g i) H
section
variable {X:Cx}{a b c:Expr}{ta tb tc:TE}{pos:Pos}
theorem zrr (ha:PE X a ta)(hb:PE X b tb){R:V->V->Hp->Prop}(I:Inv X pins σ H s)
  (h:ta σ H λx H1=>tb σ H1 λy H2=>R x y H2) {Q:qQ2}
  (hf:∀v u s2 x y H2,Inv X pins σ H2 s2->RelV x v->RelV y u->R x y H2->wpAny (model X.prog X.w) X.A (f v u) Q X.xe s2) :
  wpAny (model X.prog X.w) X.A (eval a X.env) (λv s₁=>wpAny (model X.prog X.w) X.A (eval b X.env) (λu s₂=>wpAny (model X.prog X.w) X.A (f v u) Q X.xe s₂) X.xe s₁) X.xe s:=by
 refine thn (ha pins s σ H _ I h) λv s1 zo9=>?_
 obtain⟨x,H1,I1,r1,q1⟩:=zo9
 refine thn (hb pins s1 σ H1 _ I1 q1) λu s2 zq1=>?_
 obtain⟨y,H2,I2,r2,q2⟩:=zq1
 exact hf v u s2 x y H2 I2 r1 r2 q2
theorem znt {op:Operator}(ho:OpR X (binaryOp op) r)(ha:PE X a ta)(hb:PE X b tb):PE X (.BinOp a op b pos) (tOp r ta tb):=by
 intro pins s σ H Q I h
 exact wpAny_BinOp (zrr ha hb I h λv u s2 x y H2 I2 rx ry q=>ho pins s2 σ H2 x y v u Q I2 rx ry q)
theorem zrj {op:UnaryOp}{r:V->Hp->VK->Prop}(ho:UnR X (unaryOp op) r)(ha:PE X a ta):PE X (.UnaryOp op a pos) (tUn r ta):=by
 intro pins s σ H Q I h
 exact UnaryOp_ (thn (ha pins s σ H _ I h) λv s1 ⟨x,H1,I1,r1,q1⟩=>ho pins s1 σ H1 x v Q I1 r1 q1)
theorem opI {C:Int->Int->Prop}
  (rule:∀(i j:Int) (t u:Tok) (s:Shared) (Q:qQ2) (E:qQ2),C i j->Q (.int (g i j) s.toks) {s with toks:=s.toks+1}->wpAny (model X.prog X.w) X.A (f (.int i t) (.int j u)) Q E s) :
  OpR X f (rI C λi j=>.int (g i j)):=by
 intro pins s σ H x y v u Q I rx ry h
 obtain⟨i,j,rfl,rfl,hc,q⟩:=h
 obtain⟨t,rfl⟩:=rx
 obtain⟨t',rfl⟩:=ry
 exact rule i j t t' s _ _ hc ⟨.int (g i j),H,I.tok _,⟨_,rfl⟩,q⟩
theorem zsr 
  (rule:∀(i j:Int) (t u:Tok) (s:Shared) (Q:qQ2) (E:qQ2),Q (.int (g i j) s.toks) {s with toks:=s.toks+1}->wpAny (model X.prog X.w) X.A (f (.int i t) (.int j u)) Q E s) :
  OpR X f (rI0 λi j=>.int (g i j)):=by
 intro pins s σ H x y v u Q I rx ry h
 obtain⟨i,j,rfl,rfl,q⟩:=h
 obtain⟨t,rfl⟩:=rx
 obtain⟨t',rfl⟩:=ry
 exact rule i j t t' s _ _ ⟨.int (g i j),H,I.tok _,⟨_,rfl⟩,q⟩
theorem zrZ {g:Int->Int->Bool}
  (rule:∀(i j:Int) (t u:Tok) (s:Shared) (Q:qQ2) (E:qQ2),Q (.bool (g i j)) s->wpAny (model X.prog X.w) X.A (f (.int i t) (.int j u)) Q E s) :
  OpR X f (rI0 λi j=>.bl (g i j)):=by
 intro pins s σ H x y v u Q I rx ry h
 obtain⟨i,j,rfl,rfl,q⟩:=h
 obtain⟨t,rfl⟩:=rx
 obtain⟨t',rfl⟩:=ry
 exact rule i j t t' s _ _ ⟨.bl (g i j),H,I,rfl,q⟩
def CMul (i j:Int):Prop:=(-(2 ^ 64)<i/\i<2 ^ 64)∨(-(2 ^ 64)<j/\j<2 ^ 64)
theorem CMul.ok {i j:Int}(h:CMul i j):IntMulOk i j:=by
 rcases h with⟨h1,h2⟩|⟨h1,h2⟩
 ·exact .of_left (intBits_le_64 h1 h2)
 ·exact .of_right (intBits_le_64 h1 h2)
theorem v9:OpR X (binaryOp .Add) (rI0 λi j=>.int (i+j)):=zsr λ_ _ _ _ _ _ _ q=>add_int q
theorem zdR:OpR X (binaryOp .Sub) (rI0 λi j=>.int (i - j)):=zsr λ_ _ _ _ _ _ _ q=>sub_int q
theorem zbS:OpR X (binaryOp .Mod) (rI (λ_ j=>0<j) λi j=>.int (i % j)):=opI λi j _ _ _ _ _ hc q=>by
 have h1:(0:Int)<j:=hc
 exact mod_int' (by omega) (by rw[Int.fmod_eq_emod_of_nonneg i (by omega)];exact q)
theorem unI {f:Value->Sem Value}{g:Int->Int}
  (rule:∀(i:Int) (t:Tok) (s:Shared) (Q:qQ2) (E:qQ2),Q (.int (g i) s.toks) {s with toks:=s.toks+1}->wpAny (model X.prog X.w) X.A (f (.int i t)) Q E s) :
  UnR X f (rU λi=>.int (g i)):=by
 intro pins s σ H x v Q I rx h
 obtain⟨i,rfl,q⟩:=h
 obtain⟨t,rfl⟩:=rx
 exact rule i t s _ _ ⟨.int (g i),H,I.tok _,⟨_,rfl⟩,q⟩
theorem zp8:UnR X (unaryOp .USub) (rU λi=>.int (-i)):=unI λ_ _ _ _ _ q=>neg_int q
end
section
variable {X:Cx}{a b c:Expr}{ta tb tc:TE}{pos:Pos}
theorem zhW {Q:VK}{k k':Bool}(I:Inv X pins σ H s)(q:Q (.bl k) H)(e:k=k'):EP X pins σ Q (.bool k') s:=by
 subst e
 exact⟨.bl k,H,I,rfl,q⟩
theorem zrO:OpR X (compareOp .Lt) (rI0 λi j=>.bl (decide (i<j))):=zrZ λ_ _ _ _ _ _ _ q=>lt_int q
theorem zf6:OpR X (compareOp .LtE) (rI0 λi j=>.bl (decide (i<=j))):=zrZ λ_ _ _ _ _ _ _ q=>le_int q
theorem zo1:OpR X (compareOp .Gt) (rI0 λi j=>.bl (decide (j<i))):=zrZ λ_ _ _ _ _ _ _ q=>gt_int q
theorem zjR:OpR X (compareOp .Lt) (λx y H Q=>∃i j,x=.str i/\y=.str j/\Q (.bl (decide (i.cps.toList<j.cps.toList))) H):=by
 intro pins s σ H x y v u Q I rx ry h
 obtain⟨i,j,rfl,rfl,q⟩:=h
 obtain⟨t,rfl⟩:=rx
 obtain⟨t',rfl⟩:=ry
 exact lt_str (zhW I q rfl)
theorem xM (b:Expr)(h:op≠.In:=by decide)(h2:op≠.NotIn:=by decide):behindInMarks op b=false:=by
 have e1:(op == CmpOp.In)=false:=by cases op <;>first|rfl|exact absurd rfl h
 have e2:(op == CmpOp.NotIn)=false:=by cases op <;>first|rfl|exact absurd rfl h2
 cases b <;>simp[behindInMarks,e1,e2]
theorem zo4 (ho:OpR X (compareOp op) r)(ha:PE X a ta)(hb:PE X b tb)(hm:behindInMarks op b=false):PE X (.Compare a [op] [b] pos) (tOp r ta tb):=by
 intro pins s σ H Q I h
 exact wpAny_Compare1 (zrr ha hb I h λv u s2 x y H2 I2 rx ry q=>ho pins s2 σ H2 x y v u Q I2 rx ry q) hm
def zp0 (t:TE):TT:=λσ H Q=>t σ H λx H'=>∃k,x=.bl k/\Q k H'
theorem znU (ho:OpR X (compareOp op) r)(ha:PE X a ta)(hb:PE X b tb)(hm:behindInMarks op b=false):PT X (.Compare a [op] [b] pos) (zp0 (tOp r ta tb)):=by
 intro pins s σ H Q I h
 refine wpAny_isTrue_Compare1 (thn (ha pins s σ H _ I h) λv s1 ⟨x,H1,I1,r1,q1⟩=>thn (hb pins s1 σ H1 _ I1 q1) λu s2 ⟨y,H2,I2,r2,q2⟩ =>
  thn (ho pins s2 σ H2 x y v u _ I2 r1 r2 q2) λc s3 ⟨z,H3,I3,r3,k,e,q3⟩=>?_) hm
 subst e
 cases r3
 exact la9 ⟨H3,I3,q3⟩
def zkD (r r':R2)(ta tb tc:TE):TE:=λσ H Q=>ta σ H λx H1=>tb σ H1 λy H2=>r x y H2 λz H3=>∃k,z=.bl k /\
 (if k=true then tc σ H3 λw' H4=>r' y w' H4 Q else Q (.bl false) H3)
theorem zlv {op':CmpOp}{r':R2}(ho:OpR X (compareOp op) r)(ho':OpR X (compareOp op') r')(ha:PE X a ta)(hb:PE X b tb)(hc:PE X c tc)
  (hm:lastMarks [op,op'] [b,c]=false:=by with_unfolding_all rfl):PE X (.Compare a [op,op'] [b,c] pos) (zkD r r' ta tb tc):=by
 intro pins s σ H Q I h
 refine Compare_chain (thn (ha pins s σ H _ I h) λv s1 ⟨x,H1,I1,r1,q1⟩=>chain_link (thn (hb pins s1 σ H1 _ I1 q1) λu s2 ⟨y,H2,I2,r2,q2⟩ =>
  thn (ho pins s2 σ H2 x y v u _ I2 r1 r2 q2) λd s3 ⟨z,H3,I3,r3,k,e,q3⟩=>?_)) hm
 subst e
 cases r3
 refine la9 ?_
 cases k with
 | false=>exact ite_ff ⟨.bl false,H3,I3,rfl,q3⟩
 | true=>exact ite_tt (chain_last (thn (hc pins s3 σ H3 _ I3 q3) λw' s4 ⟨z',H4,I4,r4,q4⟩=>ho' pins s4 σ H4 y z' u w' Q I4 r2 r4 q4))
theorem zlX {op':CmpOp}{r':R2}(ho:OpR X (compareOp op) r)(ho':OpR X (compareOp op') r')(ha:PE X a ta)(hb:PE X b tb)(hc:PE X c tc)
  (hm:lastMarks [op,op'] [b,c]=false:=by with_unfolding_all rfl):PT X (.Compare a [op,op'] [b,c] pos) (zp0 (zkD r r' ta tb tc)):=by
 intro pins s σ H Q I h
 refine isTrue_chain (thn (ha pins s σ H _ I h) λv s1 ⟨x,H1,I1,r1,q1⟩=>test_link (thn (hb pins s1 σ H1 _ I1 q1) λu s2 ⟨y,H2,I2,r2,q2⟩ =>
  thn (ho pins s2 σ H2 x y v u _ I2 r1 r2 q2) λd s3 ⟨z,H3,I3,r3,k,e,q3⟩=>?_)) hm
 subst e
 cases r3
 refine la9 ?_
 cases k with
 | false =>
  obtain⟨k',e',q'⟩:=q3
  cases e'
  exact ite_ff ⟨H3,I3,q'⟩
 | true =>
  refine ite_tt (test_last (thn (hc pins s3 σ H3 _ I3 q3) λw' s4 ⟨z',H4,I4,r4,q4⟩=>thn (ho' pins s4 σ H4 y z' u w' _ I4 r2 r4 q4) λd' s5 zpp=>?_))
  obtain⟨z2,H5,I5,r5,k2,e2,q5⟩:=zpp
  subst e2
  cases r5
  exact la9 ⟨H5,I5,q5⟩
theorem zhT:(sizeLine:Nat)<2 ^ 63:=by rw[laQ];decide
theorem ziF:OpR X (binaryOp .Add) (λx y H Q=>∃i j,x=.str i/\y=.str j/\i.length+j.length<=sizeLine/\Q (.str (i++j)) H):=by
 intro pins s σ H x y v u Q I rx ry h
 obtain⟨i,j,rfl,rfl,hz,q⟩:=h
 obtain⟨t,rfl⟩:=rx
 obtain⟨t',rfl⟩:=ry
 exact add_str (λt' tk=>⟨.str (i++j),H,I.tok _,⟨_,rfl⟩,q⟩) hz
theorem vals1 {x:V}(r:Vals [x] us):∃u,us=[u]/\RelV x u:=by
 cases r with
 | cons r1 r2=>cases r2;exact⟨_,rfl,r1⟩
theorem vals2 {x y:V}(r:Vals [x,y] us):∃u w',us=[u,w']/\RelV x u/\RelV y w':=by
 cases r with
 | cons r1 r2 =>
  cases r2 with
  | cons r3 r4=>cases r4;exact⟨_,_,rfl,r1,r3⟩
def zsc (K:qQ0)(x:V)(H:Hp)(n:Nat):Prop :=
 match x with
 | .str y=>y.length<=sizeLine/\n=y.length
 | .byt y=>y.size<=sizeLine/\n=y.size
 | .ref p=>(∃xs,SqL K H p xs/\n=xs.length)∨∃xs,SqT K H p xs/\n=xs.length
 | _=>False
theorem yr:ju X (.builtin "len") (λxs H Q=>∃x n,xs=[x]/\zsc X.K x H n/\Q (.int n) H):=by
 intro pins s σ H xs us Q I r h
 obtain⟨x,n,rfl,e,q⟩:=h
 obtain⟨u,rfl,rx⟩:=vals1 r
 have hl:=zhT
 have hs:sizeLine=16777216:=laQ
 cases x with
 | str y =>
  obtain⟨t,rfl⟩:=rx
  obtain⟨hy,e'⟩:y.length<=sizeLine/\n=y.length:=e
  subst e'
  exact len_str (by omega) ⟨.int _,H,I.tok _,⟨_,rfl⟩,q⟩
 | byt y =>
  obtain⟨t,rfl⟩:=rx
  obtain⟨hy,e'⟩:y.size<=sizeLine/\n=y.size:=e
  subst e'
  exact PySem.W.len_bytes (by omega) ⟨.int _,H,I.tok _,⟨_,rfl⟩,q⟩
 | ref p =>
  cases rx
  have e':(∃xs,SqL X.K H p xs/\n=xs.length)∨∃xs,SqT X.K H p xs/\n=xs.length:=e
  rcases e' with⟨xs,hx,e'⟩|⟨xs,hx,e'⟩
  ·subst e'
   obtain⟨its,r',pl,hz⟩:=I.list hx
   have hlen:=r'.length
   exact Calls.call_len_list pl.isList (by simp only[lI];omega) ⟨.int xs.length,H,I.tok _,⟨_,by simp only[lI];rw[hlen]⟩,q⟩
  ·subst e'
   obtain⟨its,r',pl,hz⟩:=I.tuple hx
   have hlen:=r'.length
   exact len_tuple pl (by simp only[lI];omega) ⟨.int xs.length,H,I.tok _,⟨_,by simp only[lI];rw[hlen]⟩,q⟩
 | _=>exact(show False from e).elim
end
theorem RelO.some_of {o:Option Value}(r:RelO (some v) o):∃u,o=some u/\RelV v u:=by
 cases o with
 | none=>exact(show False from r).elim
 | some u=>exact⟨u,rfl,r⟩
structure Cls (K:qQ0)(C:Addr):Prop where
 pg:PySem.W.plainGet K C Str.empty=true
 hd:PySem.W.hasDictIn K C=true
 po:PySem.W.plainOver K C=true
 sa:PySem.W.findIn K (.ref C) "__setattr__" = some (some (.builtin "object.__setattr__"))
theorem Cls.get {K:qQ0}{C:Addr}(c:Cls K C)(f:Str):PySem.W.plainGet K C f=true:=c.pg
structure Room (k:Nat)(A:Around):Prop where
 hd:A.handled=none
 dp:A.depth+3*k+5<recursionLimit
 un:A.units+16*k+200<cLine
theorem Room.mono {k:Nat}{A:Around}(r:Room k A)(h:j<=k):Room j A:=⟨r.hd,by have:=r.dp;omega,by have:=r.un;omega⟩
theorem Room.deeper {k:Nat}{A:Around}(r:Room (k+1) A)(env:Env):Room k (A.deeper env) :=
 ⟨r.hd,by have:=r.dp;show A.depth+1+3*k+5<_;omega,by have:=r.un;show A.units+3+16*k+200<_;omega⟩
theorem Room.in1 {k:Nat}{A:Around}(r:Room (k+1) A):Room k A.in1 :=
 ⟨r.hd,by have:=r.dp;show A.depth+3*k+5<_;omega,by have:=r.un;show A.units+1+16*k+200<_;omega⟩
theorem Room.depth {k:Nat}{A:Around}(r:Room k A):A.depth<recursionLimit:=by have:=r.dp;omega
theorem Room.units {k:Nat}{A:Around}(r:Room k A):A.units+64<cLine:=by have:=r.un;omega
def zln:TA:=λ_ H Q=>Q [] H
def zao (ta:TE)(tr:TA):TA:=λσ H Q=>ta σ H λx H1=>tr σ H1 λxs H2=>Q (x::xs) H2
section
variable {X:Cx}{e:Expr}{es:List Expr}{te:TE}{t:TA}{pos:Pos}
theorem uc:PA X [] zln:=λ_ _ _ _ H Q I h=>Calls.spliced_nil ⟨[],H,I,.nil,h⟩
theorem yQ (ha:PE X e te)(hr:PA X es t)(hs:starEach (e::es) X.env=(false,eval e X.env)::starEach es X.env:=by rfl):PA X (e::es) (zao te t):=by
 intro pos pins s σ H Q I h
 rw[hs]
 show wpAny _ _ (spliced ((false,eval e X.env)::backTo pos (starEach es X.env))) _ _ s
 refine Calls.spliced_cons (thn (ha pins s σ H _ I h) λu s1 zqF=>?_)
 obtain⟨x,H1,I1,r1,q1⟩:=zqF
 exact thn (hr pos pins s1 σ H1 _ I1 q1) λus s2 ⟨xs,H2,I2,r2,q2⟩=>⟨x::xs,H2,I2,.cons r1 r2,q2⟩
def zsE (t:TA):TE:=λσ H Q=>t σ H λxs H1=>xs.length<=sizeLine/\∀p,H1 p=none->Q (.ref p) (upd H1 p (.tup xs))
def zsw (t:TA):TE:=λσ H Q=>t σ H λxs H1=>xs.length<=sizeLine/\∀p,H1 p=none->Q (.ref p) (upd H1 p (.lst xs))
theorem zqG {x1}(h:PA X es t):PE X (.Tuple es x1 pos) (zsE t):=by
 intro pins s σ H Q I hq
 refine wpAny_Tuple_spliced (thn (h pos pins s σ H _ I hq) λus s1 ⟨xs,H1,I1,r,z,q⟩=>⟨by rw[← r.length];exact z,?_⟩)
 have hf:H1 s1.heap.objs.size=none:=I1.hok.fresh (lu _)
 refine⟨.ref s1.heap.objs.size,upd H1 s1.heap.objs.size (.tup xs),I1.laid (t':=s1.toks) (λb u e=>lg _ e) (lu _) ?_,rfl,q _ hf⟩
 exact⟨z,us,r,TupD.new _ _⟩
theorem zj8 (h:PA X es t):PE X (.List es pos) (zsw t):=by
 intro pins s σ H Q I hq
 refine wpAny_List_spliced (thn (h pos pins s σ H _ I hq) λus s1 ⟨xs,H1,I1,r,z,q⟩=>⟨by rw[← r.length];exact z,?_⟩)
 have hf:H1 s1.heap.objs.size=none:=I1.hok.fresh (lu _)
 refine⟨.ref s1.heap.objs.size,upd H1 s1.heap.objs.size (.lst xs),I1.laid (t':=s1.toks) (λb u e=>lg _ e) (lu _) ?_,rfl,q _ hf⟩
 exact⟨z,us,0,r,lC _ rfl⟩
end
abbrev Sp:=List V->Hp->VK->XK->Prop
abbrev CXT:=List Env->Hp->Shared->XK->qQ2
variable {CX:CXT}
structure Env0 (P:Program)(w:World)(K:qQ0)(mg:qQ3)(base:Heap)(A:Around)(outer:List Env)(s:Shared)(H:Hp):Prop where
 frames:A.frames=some outer
 mod:Mod K mg base
 bs:∀b o,base.get? b=some o->s.heap.get? b=some o/\H b=none
 bsz:base.objs.size<=s.heap.objs.size
 funs:s.heap.FunFrames base outer
 frf:∀b∈frs outer,H b=none
 hok:HOk P w H s.heap
 bare:AllBare s.gens
def CE (outer:List Env)(P:Program)(w:World)(H:Hp)(s:Shared)(Q:VK)(u:Value)(s':Shared):Prop :=
 ∃v H',s'.os=s.os/\AllBare s'.gens/\Un (frs outer) [] H H' s.heap s'.heap/\HOk P w H' s'.heap/\RelV v u/\Q v H'
def CR (CX:CXT)(outer:List Env)(P:Program)(w:World)(H:Hp)(s:Shared)(Q:VK)(E:XK)(r:Result)(s':Shared):Prop :=
 match r with
 | .ok (.ret u)=>CE outer P w H s Q u s'
 | .ok _=>False
 | .error e=>CX outer H s E e s'
structure FnOk (P:Program)(w:World)(K:qQ0)(mg:qQ3)(base:Heap)(CX:CXT)(k:Nat)(f:Addr)(fd:FuncData)(ps:List Str)(sp:Sp):Prop where
 len:∀vs H Q E,sp vs H Q E->vs.length=ps.length
 run:∀(A:Around) (outer:List Env) (s:Shared) (H:Hp) (args:Args) (us:List Value) (vs:List V) (Q:VK) (E:XK),Room k A->Env0 P w K mg base A outer s H->BindsTo s fd args (ps.zip us)->Vals vs us->sp vs H Q E ->
  codeAny (model P w) A (.call (.ref f) args) (CR CX outer P w H s Q E) s
theorem FnOk.mono {K:qQ0}{base:Heap}{k:Nat}{f:Addr}{sp:Sp}(F:FnOk P w K mg base CX j f fd ps sp)(h:j<=k) :
  FnOk P w K mg base CX k f fd ps sp:=⟨F.len,λA outer s H args us vs Q E hr=>F.run A outer s H args us vs Q E (hr.mono h)⟩
theorem Env0.in1 {K:qQ0}{base:Heap}{A:Around}(e:Env0 P w K mg base A outer s H) :
  Env0 P w K mg base A.in1 outer s H:=⟨e.frames,e.mod,e.bs,e.bsz,e.funs,e.frf,e.hok,e.bare⟩
section
variable {X:Cx}{pins:List (Addr×Obj)}{σ:St}{H:Hp}{s s':Shared}
theorem Inv.env0 (I:Inv X pins σ H s):Env0 X.prog X.w X.K X.mg X.base X.A X.stack s H :=
 ⟨I.ok.frames,I.ok.mod,I.bs,laC I.ok.bsz I.sz,I.stack,I.stkFree,I.hok,I.bare⟩
theorem Inv.after {Q:VK}(I:Inv X pins σ H s)(h:CE X.stack X.prog X.w H s Q u s'):EP X pins σ Q u s':=by
 obtain⟨v,H',os,bare,un,hok,r,q⟩:=h
 obtain⟨hh,g,d,t,os'⟩:=s'
 obtain rfl:os'=s.os:=os
 exact⟨v,H',I.call (h':=hh) (g':=g) (d':=d) (t':=t) (ch:=[]) un hok bare (λb z=>absurd z (by simp)),r,q⟩
end
def zqs (sp:Sp)(dvs:List V)(E:XK)(t:TA):TE:=λσ H Q=>t σ H λvs H1=>sp (vs++dvs) H1 Q E
def Binds (K:qQ0)(fd:FuncData)(ps:List Str)(ds:List Value):Prop :=
 ∀(s:Shared) (us:List Value),K.In s.heap->(us++ds).length=ps.length->BindsTo s fd ⟨us,[]⟩ (ps.zip (us++ds))
theorem Binds.all {K:qQ0}(h:∀us:List Value,us.length=ps.length->bindArgs fd ⟨us,[]⟩=pure (ps.zip us)):Binds K fd ps []:=λs us _ hl=>by
 rw[lX] at hl ⊢
 exact .of_eq (h us hl)
def zcL (CX:CXT)(X:Cx)(E:XK):Prop:=∀(pins:List (Addr×Obj)) (σ:St) (H:Hp) (s:Shared) (e:Value) (s':Shared),Inv X pins σ H s->CX X.stack H s E e s'->X.xe e s'
section
variable {X:Cx}{CX:CXT}{k:Nat}{f C:Addr}{fd:FuncData}{ps:List Str}{sp:Sp}{dvs:List V}{ds:List Value}{E:XK}{x m:Str}{p pos apos:Pos}{e o:Expr}{es:List Expr}{ta:TE}{t:TA}
theorem zpe {Q:VK}{vs:List V}(F:FnOk X.prog X.w X.K X.mg X.base CX k f fd ps sp)(hr:Room k X.A)(hb:Binds X.K fd ps ds)(hd:Vals dvs ds)(hx:zcL CX X E)
  (I:Inv X pins σ H s) (r:Vals vs us) (h:sp (vs++dvs) H Q E):wpAny (model X.prog X.w) X.A (call (.ref f) us) (EP X pins σ Q) X.xe s:=by
 have r2:Vals (vs++dvs) (us++ds):=r.append hd
 have hl:(us++ds).length=ps.length:=by rw[← r2.length];exact F.len _ _ _ _ h
 refine wpAny_call (lde (F.run X.A X.stack s H ⟨us,[]⟩ (us++ds) (vs++dvs) Q E hr I.env0 (hb s us I.kIn hl) r2 h) λr s' hq=>?_)
 cases r with
 | error e=>exact hx pins σ H s e s' I hq
 | ok fl =>
  cases fl with
  | ret u=>exact I.after hq
  | next=>exact False.elim hq
  | brk=>exact False.elim hq
  | cont=>exact False.elim hq
theorem zjg (F:FnOk X.prog X.w X.K X.mg X.base CX k f fd ps sp)(hr:Room k X.A)(hg:Gl X x)(hm:X.mg x=some (.ref f))(hk:PySem.W.keepIn X.K (.ref f)=true)(hb:Binds X.K fd ps ds)(hd:Vals dvs ds)(hx:zcL CX X E)
  (ha:PA X (e::es) t) (hdb:(x == ("__debug__" : Str))=false:=by decide) (he:starEach (e::es) X.env=(false,eval e X.env)::starEach es X.env:=by rfl) (hpl:(backTo pos (starEach es X.env)).any (·.1)=false:=by rfl) :
  PE X (.Call (.Name x p) (e::es) [] pos) (zqs sp dvs E t):=by
 intro pins s σ H Q I h
 refine lbk (zdb I hg hm ?_ hdb)
 refine ldR (h₀:=X.base) I.ok.mod.kin hk (thn (ha pos pins s σ H _ I h) λus s1 ⟨vs,H1,I1,r,q⟩=>⟨I1.kIn,?_⟩) he hpl
 exact zpe F hr hb hd hx I1 r q
end
structure FnScope (N P:List Str)(sc:Scope):Prop where
 kind:sc.kind=.function
 co:sc.isCoroutine=false
 gen:sc.isGenerator=false
 nd:N.Nodup
 pre:N.take P.length=P
 par:∀x∈P,sc.names.lookup x=some .local∨sc.names.lookup x=some .cell
 nofree:∀y∈sc.names,y.2≠.free
theorem zf4 {kindOf:Str->Option NameKind}{x:Str}:∀{binds:List (Str×Value)}{m:qQ3},(∀v,(x,v)∉binds)->bindL kindOf binds m x=m x
 | [],_,_=>rfl
 | (n,v)::r,m,h=>by
  unfold bindL
  rw[zf4 λw hw=>h w (lF _ hw)]
  split
  ·have:x≠n:=by rintro rfl;exact h v lJ
   simp[this]
  ·rfl
theorem zfd {kindOf:Str->Option NameKind}{x:Str}:∀{binds:List (Str×Value)}{m:qQ3},(∀v,(x,v)∉binds)->bindC kindOf binds m x=m x
 | [],_,_=>rfl
 | (n,v)::r,m,h=>by
  unfold bindC
  rw[zfd λw hw=>h w (lF _ hw)]
  split
  ·rfl
  ·have:x≠n:=by rintro rfl;exact h v lJ
   simp[this]
theorem zfT {kindOf:Str->Option NameKind}{x:Str}{v:Value}:∀{P:List Str}{vs:List Value}{i:Nat}{m:qQ3},P.Nodup->P[i]? = some x->vs[i]? = some v->kindOf x=some .local ->
  bindL kindOf (P.zip vs) m x=some v
 | [],_,_,_,_,h,_,_=>by simp at h
 | _::_,[],_,_,_,_,h,_=>by simp at h
 | p::P,w::vs,0,m,nd,h1,h2,hk=>by
  simp at h1 h2;subst h1;subst h2
  show bindL kindOf ((p,w)::P.zip vs) m p=_
  unfold bindL
  rw[zf4 λv hv=>(lbx.mp nd).1 (lcj hv).1,lO hk]
  simp
 | p::P,w::vs,i+1,m,nd,h1,h2,hk=>by
  show bindL kindOf ((p,w)::P.zip vs) m x=_
  unfold bindL
  exact zfT (i:=i) (lbx.mp nd).2 (by simpa using h1) (by simpa using h2) hk
theorem zgc {kindOf:Str->Option NameKind}{x:Str}{v:Value}:∀{P:List Str}{vs:List Value}{i:Nat}{m:qQ3},P.Nodup->P[i]? = some x->vs[i]? = some v->kindOf x≠some .local ->
  bindC kindOf (P.zip vs) m x=some v
 | [],_,_,_,_,h,_,_=>by simp at h
 | _::_,[],_,_,_,_,h,_=>by simp at h
 | p::P,w::vs,0,m,nd,h1,h2,hk=>by
  simp at h1 h2;subst h1;subst h2
  show bindC kindOf ((p,w)::P.zip vs) m p=_
  unfold bindC
  rw[zfd λv hv=>(lbx.mp nd).1 (lcj hv).1,lY hk]
  simp
 | p::P,w::vs,i+1,m,nd,h1,h2,hk=>by
  show bindC kindOf ((p,w)::P.zip vs) m x=_
  unfold bindC
  exact zgc (i:=i) (lbx.mp nd).2 (by simpa using h1) (by simpa using h2) hk
def start (N:List Str)(vs:List V):St:=vs.map some++List.replicate (N.length - vs.length) none
def zaW (CX:CXT)(P:Program)(w:World)(K:qQ0)(mg:qQ3)(base:Heap)(N:List Str)(qual:Str)(scope:Scope)(f:Addr)(cd:Value)(A:Around)(outer:List Env)(s:Shared)(H:Hp)(E:XK):Cx where
 prog:=P
 w:=w
 K:=K
 mg:=mg
 base:=base
 A:=A.deeper (envOfC qual scope s.heap.objs.size f cd)
 N:=N
 s₀:=s
 H₀:=H
 env:=envOfC qual scope s.heap.objs.size f cd
 outer:=outer
 stack:=envOfC qual scope s.heap.objs.size f cd::outer
 ex:=[]
 calm:=true
 fn:=λ_=>true
 pn:=[]
 xe:=λe s'=>wpAny (model P w) (A.deeper (envOfC qual scope s.heap.objs.size f cd)) (leaving (envOfC qual scope s.heap.objs.size f cd) e) (λ_ s''=>CX outer H s E e s'') (λe' s''=>CX outer H s E e' s'') s'
theorem zcn {sc:Scope}{n:Nat}(h:sc.names.lookup x=some .cell):∃c,(cellsFrom n sc.names []).lookup x=some c:=by
 have q:=lc2 sc.names n [] (.inl h)
 exact Option.isSome_iff_exists.mp q
theorem zfM {K:qQ0}{base:Heap}{qual:Str}{f:Addr}{cd:Value}{A:Around}{s1:Shared}{E:XK}{vs:List V}
  (S:FnScope N ps scope) (hd:A.handled=none) (e0:Env0 P w K mg base A outer s H) (hl:vs.length=ps.length) (r:Vals vs us)
  (x:InCallC s s.heap.objs.size (bindL (envOfC qual scope s.heap.objs.size f cd).kindOf (ps.zip us) λ_=>none) (cellsFrom (s.heap.objs.size+1) scope.names []) (bindC (envOfC qual scope s.heap.objs.size f cd).kindOf (ps.zip us) λ_=>none) s1) :
  Inv (zaW CX P w K mg base N qual scope f cd A outer s H E) [] (start N vs) H s1:=by
 have hpl:ps.length<=N.length:=by have:=lbG List.length S.pre;rw[lW] at this;omega
 obtain⟨h1,tk,rfl,hk⟩:=x.done
 have noA:∀b:Addr,b∉(zaW CX P w K mg base N qual scope f cd A outer s H E).ex:=λb z=>absurd (show b∈([]:List Addr) from z) (by simp)
 refine ⟨⟨e0.mod,S.kind,rfl,rfl,lu _,λy z c h1 h2=>?_,λy hy=>?_,λy c _ h=>?_,λ_=>hd,Around.frames_deeper e0.frames,.inr ⟨rfl,rfl⟩,λb z=>absurd z (noA b),e0.bs,e0.bsz,λb _ _=>noA b,λb z=>absurd z (noA b),e0.funs,e0.frf⟩,
  rfl,e0.bare,Un.kept hk,⟨_,x.toInCall.ns,λi y v h1 h2 h3=>?_⟩,λy c h=>⟨_,x.cell y c h⟩,e0.hok.fresh (lu _),λy c h=>?_,λp hp=>absurd (show p∈([]:List (Addr×Obj)) from hp) (by simp),e0.hok.kept hk,?_⟩
 ·exact name_of_addr x.apart (laA h1) (laA h2)
 ·have hy:scope.names.lookup y=some .cell∨scope.names.lookup y=some .free:=hy
  rcases hy with hy|hy
  ·exact zcn hy
  ·exact absurd rfl (S.nofree _ (laA hy))
 ·exact lel (x.above y c (laA h))
 ·have hi:i<vs.length:=by
   unfold start at h2
   by_cases hi:i<vs.length
   ·exact hi
   ·rw[laJ (by simpa using hi)] at h2
    rw[lbl] at h2
    split at h2 <;>cases h2
  have ha:vs[i]? = some v:=by
   unfold start at h2
   rw[laY (by simpa using hi),lH] at h2
   cases e:vs[i]? with
   | none=>rw[e] at h2;cases h2
   | some a=>rw[e] at h2;cases h2;rfl
  obtain⟨u,hu,rv⟩:=r.get ha
  have hp:ps[i]? = some y:=by
   rw[← S.pre,List.getElem?_take_of_lt (by omega)];exact h1
  have ndP:ps.Nodup:=by rw[← S.pre];exact S.nd.sublist (ld0 _ _)
  refine⟨u,rv,?_⟩
  rcases S.par y (lad hp) with k|k
  ·exact .inl ⟨k,zfT ndP hp hu k⟩
  ·obtain⟨c,e⟩:=zcn (n:=s.heap.objs.size+1) k
   refine .inr ⟨.inl k,c,e,?_⟩
   have q:=x.cell y c e
   rw[zgc ndP hp hu (by show scope.names.lookup y≠_;rw[k];decide)] at q
   exact q
 ·exact e0.hok.fresh (lel (x.above y c (laA h)))
 ·unfold start
  show _=N.length
  rw[lU,lD,lck]
  omega
theorem zp4 {K:qQ0}{base:Heap}{k:Nat}{f:Addr}{name qual:Str}{params:Arguments}{dV kV doc pm cdv ct oc:Value}{an od:Option Addr}
  {osl:Array (Option Value)}{sp:Sp} (lk:K.lookup f=some ⟨oc,od,.func (PySem.W.fnOf name qual params body scope dV kV doc pm an cdv ct),osl⟩) (hcd:PySem.W.codeIn K cdv qual=true) (S:FnScope N ps scope)
  (len:∀vs H Q E,sp vs H Q E->vs.length=ps.length)
  (hbody:∀(A:Around) (outer:List Env) (s:Shared) (H:Hp) (vs:List V) (Q:VK) (E:XK),Room k (A.deeper (envOfC qual scope s.heap.objs.size f cdv))->sp vs H Q E ->
   ∃t,PSs (zaW CX P w K mg base N qual scope f cdv A outer s H E) body t/\t {nx:=λ_ H'=>Q .non H',rt:=Q} (start N vs) H) :
  FnOk P w K mg base CX (k+1) f (PySem.W.fnOf name qual params body scope dV kV doc pm an cdv ct) ps sp:=by
 refine⟨len,λA outer s H args us vs Q E hr e0 hb r hsp=>?_⟩
 have hl:=len _ _ _ _ hsp
 have KX:K.In s.heap:=e0.mod.kin.keeps λb o e=>(e0.bs b o e).1
 have lim:s.heap.NoLimit:=e0.mod.nolimit.keeps λb o e=>(e0.bs b o e).1
 have hkind:∀y∈ps.zip us,scope.names.lookup y.1=some .local∨(scope.names.lookup y.1=some .cell/\((cellsFrom (s.heap.objs.size+1) scope.names []).lookup y.1).isSome=true):=λ⟨n,v⟩ hy=>by
  rcases S.par n (lcj hy).1 with q|q
  ·exact .inl q
  ·exact .inr ⟨q,lc2 _ _ _ (.inl q)⟩
 refine codeAny_call_function hr.depth (KX _ _ lk) rfl S.co S.gen rfl (PySem.W.codeRec_of KX hcd) (hb _ _ _ _ ?_)
 refine wpAny_newFunctionEnv_cells S.kind hkind λenv he s1 x=>?_
 subst he
 refine⟨lim.keeps x.toInCall.keep,codeAny_func ?_⟩
 obtain⟨t,ht,hq⟩:=hbody A outer s H vs Q E (hr.deeper _) hsp
 have I:Inv (zaW CX P w K mg base N qual scope f cdv A outer s H E) [] (start N vs) H s1:=zfM S hr.hd e0 hl r x
 refine laT (ht [] s1 (start N vs) H _ I hq) (λfl s' hs=>?_) λe s' hs=>hs
 have fin:∀{σ':St}{H':Hp}{v:V}{u:Value},Inv (zaW CX P w K mg base N qual scope f cdv A outer s H E) [] σ' H' s'->RelV v u->Q v H'->CE outer P w H s Q u s' :=
  λ{σ' H' v u} J rv q=>⟨v,H',J.os,J.bare,J.base,J.hok,rv,q⟩
 cases fl with
 | ret u =>
  obtain⟨v,σ',H',J,rv,q⟩:=hs
  exact fin J rv q
 | next =>
  obtain⟨σ',H',J,q⟩:=hs
  exact fin (v:=V.non) (u:=Value.none) J rfl q
 | brk =>
  obtain⟨_,_,_,q⟩:=hs
  exact False.elim q
 | cont =>
  obtain⟨_,_,_,q⟩:=hs
  exact False.elim q
section
variable {X:Cx}{x:Str}{p pos:Pos}{e:Expr}{es:List Expr}{t:TA}{id T:String}{r:List V->Hp->VK->Prop}
def tCB (r:List V->Hp->VK->Prop)(t:TA):TE:=λσ H Q=>t σ H λvs H1=>r vs H1 Q
theorem zah (hc:ju X (.builtin id) r)(hg:Gl X x)(hm:X.mg x=none)(hv:bootBuiltins x=some (.builtin id))(ha:PA X (e::es) t)(hn:x ≠ "__name__" := by decide)(hdb:(x == ("__debug__" : Str))=false:=by decide)
  (he:starEach (e::es) X.env=(false,eval e X.env)::starEach es X.env:=by rfl) (hpl:(backTo pos (starEach es X.env)).any (·.1)=false:=by rfl):PE X (.Call (.Name x p) (e::es) [] pos) (tCB r t):=by
 intro pins s σ H Q I h
 refine lbk (zbo I hg hm hv ?_ hn hdb)
 exact PyProof.Rows.callWith_builtin1 (thn (ha pos pins s σ H _ I h) λus s1 ⟨vs,H1,I1,r1,q1⟩=>hc pins s1 σ H1 vs us Q I1 r1 q1) he hpl
theorem zfY (hc:ju X (.type T) r)(hg:Gl X x)(hm:X.mg x=none)(hv:bootBuiltins x=some (.type T))(ha:PA X (e::es) t)(hn:x ≠ "__name__" := by decide)(hdb:(x == ("__debug__" : Str))=false:=by decide)
  (he:starEach (e::es) X.env=(false,eval e X.env)::starEach es X.env:=by rfl) (hpl:(backTo pos (starEach es X.env)).any (·.1)=false:=by rfl):PE X (.Call (.Name x p) (e::es) [] pos) (tCB r t):=by
 intro pins s σ H Q I h
 refine lbk (zbo I hg hm hv ?_ hn hdb)
 exact laU (thn (ha pos pins s σ H _ I h) λus s1 ⟨vs,H1,I1,r1,q1⟩=>hc pins s1 σ H1 vs us Q I1 r1 q1) he hpl
end
end L2
namespace HT
open PySem PyProof.Rows
section
variable {prog:Program}{w:World}{A:Around}{E:qQ2}{s:Shared}
theorem cat_tup {t b:Addr}{vs ws:List Value}{Q:qQ2}(ht:IsTup s.heap t vs.toArray)(hb:IsTup s.heap b ws.toArray)(hv:vs≠[])
  (h1:ws=[]->Q (.ref t) s) (h2:ws≠[]->Q (.ref s.heap.objs.size) {s with heap:=s.heap.push {cls:=.type "tuple", data:=.seq (vs++ws).toArray} })
  (hsz:vs.length+ws.length<=sizeLine):wpAny (model prog w) A (binaryOp .Add (.ref t) (.ref b)) Q E s:=by
 obtain⟨⟨cls,dd,data,sl⟩,ho,hc,n,hd⟩:=id ht
 obtain⟨⟨cls2,dd2,data2,sl2⟩,ho2,hc2,n2,hd2⟩:=id hb
 simp only at hc hd hc2 hd2
 subst hc hd hc2 hd2
 have e:vs.toArray++ws.toArray=(vs++ws).toArray:=by simp
 by_cases hw:ws=[]
 ·exact lem ⟨_,ho,rfl⟩ ⟨_,ho2,rfl⟩ lee seq_tuple_add lc3 lcM (lcG _ _)
   (tuple_addW1 t b vs.toArray ws.toArray n n2 dd dd2 sl sl2 (by simpa using hv) (by simp[hw])) ⟨ho,ho2,h1 hw⟩
 ·refine lem ⟨_,ho,rfl⟩ ⟨_,ho2,rfl⟩ lee seq_tuple_add lc3 lcM (lcG _ _)
   (tuple_addW2 t b vs.toArray ws.toArray n n2 dd dd2 sl sl2 (by simpa using hv) (by simpa using hw) (by rw[lI,lI];exact hsz)) ⟨ho,ho2,?_⟩
  rw[e]
  exact h2 hw
def sIx (n d:Nat):Option Int->Nat
 | none=>d
 | some v=>if v<0 then(v+(n:Int)).toNat else min v.toNat n
theorem sIx_none (n d:Nat):sIx n d none=d:=rfl
theorem sIx_nat (n d k:Nat):sIx n d (some (k:Int))=min k n:=by
 show(if (k:Int)<0 then((k:Int)+(n:Int)).toNat else min (k:Int).toNat n)=min k n
 rw[lY (by omega),laE]
theorem sIx_le (n d:Nat)(hd:d<=n)(o:Option Int):sIx n d o<=n:=by
 cases o with
 | none=>exact hd
 | some v =>
  show(if v<0 then(v+(n:Int)).toNat else min v.toNat n)<=n
  by_cases hv:v<0
  ·rw[lO hv];omega
  ·rw[lY hv];exact lef _ _
theorem zkz (v:Int)(n d:Nat):(if v<0 then max (v+(n:Int)) 0 else min v (n:Int))=((sIx n d (some v):Nat):Int):=by
 show(if v<0 then max (v+(n:Int)) 0 else min v (n:Int))=(((if v<0 then(v+(n:Int)).toNat else min v.toNat n):Nat):Int)
 by_cases hv:v<0
 ·simp only[lO hv];omega
 ·simp only[lY hv];omega
theorem zik (lo hi:Option Int)(n:Nat):Builtin.Slice.sliceAdjust lo hi 1 (n:Int)=(((sIx n 0 lo:Nat):Int),((sIx n n hi:Nat):Int)):=by
 have h1:¬((1:Int)<0):=by omega
 unfold Builtin.Slice.sliceAdjust
 simp only[h1,la3]
 refine Prod.ext ?_ ?_
 ·cases lo with
  | none=>rfl
  | some v=>exact zkz v n 0
 ·cases hi with
  | none=>rfl
  | some v=>exact zkz v n n
theorem zij (i j:Nat):Builtin.Slice.slicePlaces (i:Int) (j:Int) 1=j - i:=by
 unfold Builtin.Slice.slicePlaces
 have h1:(1:Int) > 0:=by omega
 simp only[h1,lby,Int.ediv_one]
 split <;>omega
theorem zdK {v:Value}{o:Option Int}{Q:Option Int->Shared->Prop}(p:IsPart v o)(h:Q o s):wpAny (model prog w) A (Builtin.Slice.slicePartIndex v) Q E s:=by
 cases p with
 | none=>exact slicePart_none h
 | int i t=>exact slicePart_int h
theorem sliceApplied_gen {sl:Addr}{vl vu:Value}{lo hi:Option Int}{n:Nat}{Q:Int×Int×Nat->Shared->Prop}(hs:s.heap.IsSliceOf sl vl vu .none)(pl:IsPart vl lo)(pu:IsPart vu hi)
  (h:Q (((sIx n 0 lo:Nat):Int),1,sIx n n hi - sIx n 0 lo) s):wpAny (model prog w) A (Builtin.Slice.sliceApplied (.ref sl) (pure (n:Int))) Q E s:=by
 obtain⟨os,hos,hcs,hds⟩:=id hs
 unfold Builtin.Slice.sliceApplied Builtin.Slice.sliceFields
 refine la (la (laf hos hds (x:=vl) rfl (la (laf hos hds (x:=vu) rfl (la (laf hos hds (x:=.none) rfl (lq ?_)))))))
 refine la (slicePart_none ?_)
 show wpAny _ _ (if ((1:Int) == 0)=true then _ else _) _ _ s
 rw[lY (by decide)]
 refine la (zdK pl (la (zdK pu (la (lq ?_)))))
 show wpAny _ _ (match Builtin.Slice.sliceAdjust lo hi 1 (n:Int) with|(lo,hi)=>pure (lo,(1:Int),Builtin.Slice.slicePlaces lo hi 1)) _ _ s
 rw[zik lo hi n]
 show wpAny _ _ (pure (((sIx n 0 lo:Nat):Int),(1:Int),Builtin.Slice.slicePlaces ((sIx n 0 lo:Nat):Int) ((sIx n n hi:Nat):Int) 1)) _ _ s
 rw[zij]
 exact lq h
theorem zlI (xs:Array Value)(i k:Nat):((List.range k).filterMap λ(m:Nat)=>xs[((i:Int)+(m:Int)*1).toNat]?).toArray=((xs.toList.drop i).take k).toArray:=by
 have e:(λ(m:Nat)=>xs[((i:Int)+(m:Int)*1).toNat]?)=λm=>xs[i+m]?:=by
  funext m
  have:((i:Int)+(m:Int)*1).toNat=i+m:=by omega
  rw[this]
 rw[e]
 have:=pick_run xs i k
 rw[List.filterMap_map] at this
 have e2:((λx=>xs[x]?)∘λx=>i+x)=λm=>xs[i+m]?:=rfl
 rw[e2] at this
 rw[this]
theorem getItem_tuple_cut {t sl:Addr}{items:Array Value}{vl vu:Value}{lo hi:Option Int}{Q:qQ2}(ht:IsTup s.heap t items)(hs:s.heap.IsSliceOf sl vl vu .none)(pl:IsPart vl lo)(pu:IsPart vu hi)
  (hw:¬(sIx items.size 0 lo=0/\sIx items.size items.size hi=items.size))
  (h:Q (.ref s.heap.objs.size) {s with heap:=s.heap.push {cls:=.type "tuple", data:=.seq ((items.toList.drop (sIx items.size 0 lo)).take (sIx items.size items.size hi - sIx items.size 0 lo)).toArray} })
  (hsz:items.size<=sizeLine):wpAny (model prog w) A (getItem (.ref t) (.ref sl)) Q E s:=by
 have htake:sizeOk (.seq ((items.toList.drop (sIx items.size 0 lo)).take (sIx items.size items.size hi - sIx items.size 0 lo)).toArray):=by
  show((items.toList.drop (sIx items.size 0 lo)).take (sIx items.size items.size hi - sIx items.size 0 lo)).toArray.size<=sizeLine
  rw[lI,lW,lb9,lbs]
  omega
 have hj:sIx items.size items.size hi<=items.size:=sIx_le _ _ (lu _) hi
 obtain⟨os,hos,hcs,hds⟩:=id hs
 have hTs:s.TypeIs (.ref sl) "slice" := ⟨os,hos,hcs⟩
 unfold getItem
 try with_reducible refine laR ?_
 first|refine la (lq ?_)|skip
 refine la (wpAny_sequenceKey ht.typeIs (by decide) ?_)
 refine la (lT (name:=Str.ofString "__getitem__") ht.typeIs laV
  (lZ laV ht.typeIs entry_tuple_getitem ?_ (args_tuple_getitem _ _)))
 show wpAny _ _ (Builtin.Tuple.tupleItemsOf (.ref t) >>= _) _ _ s
 refine la (tupleItemsOf_ ht ?_)
 refine la (lcH hTs ?_)
 rw[lO (by decide)]
 refine la (sliceApplied_gen hs pl pu ?_)
 have hno:¬((((sIx items.size 0 lo:Nat):Int) == 0&&(1:Int) == 1&&(sIx items.size items.size hi - sIx items.size 0 lo) == items.size)=true):=by
  intro q
  rw[lG,lG] at q
  have q1:((sIx items.size 0 lo:Nat):Int)=0:=eq_of_beq q.1.1
  have q2:sIx items.size items.size hi - sIx items.size 0 lo=items.size:=eq_of_beq q.2
  exact hw ⟨by omega,by omega⟩
 show wpAny _ _ (if (((sIx items.size 0 lo:Nat):Int) == 0&&(1:Int) == 1&&(sIx items.size items.size hi - sIx items.size 0 lo) == items.size)=true then _ else _) _ _ s
 rw[lY hno,zlI]
 first
  | exact la (m:=Builtin.Tuple.tupleExact _) (laz (lq ⟨_,rfl,lq h⟩) htake)
  | exact la (m:=Builtin.Tuple.tupleExact _) (laz (la (lq (lq ⟨_,rfl,lq h⟩))) htake)
  | exact la (la (m:=Builtin.Tuple.tupleExact _) (laz (lq (lq ⟨_,rfl,lq h⟩)) htake))
  | exact la (la (m:=Builtin.Tuple.tupleExact _) (laz (lq ⟨_,rfl,lq h⟩) htake))
end
end HT
namespace L2
open PySem PySem.Spec PyProof.Rows
variable {r:V->Option Int->Option Int->Hp->VK->Prop}{xs:List (List Key×Addr×Value)}{us its:List Value}{n t':Nat}{α:Type}{s:Shared}{y:V}{u:Value}{pins:List (Addr×Obj)}{H H':Hp}{o:Option V}{P:Program}{w:World}{kvs:List (List Key×V)}{Q:qQ2}
abbrev TO:=St->Hp->(Option Int->Hp->Prop)->Prop
def PO (X:Cx)(e:Option Expr)(t:TO):Prop :=
 ∀ (pins:List (Addr×Obj)) (s:Shared) (σ:St) (H:Hp) (Q:Option Int->Hp->Prop),Inv X pins σ H s->t σ H Q ->
  wpAny (model X.prog X.w) X.A (evalPart e X.env) (λu s'=>∃o H',Inv X pins σ H' s'/\IsPart u o/\Q o H') X.xe s
def znX:TO:=λ_ H Q=>Q none H
def zrM (t:TE):TO:=λσ H Q=>t σ H λx H1=>∃i,x=.int i/\Q (some i) H1
section
variable {X:Cx}{e:Expr}{te:TE}{lo hi:Option Expr}{tl th:TO}{pos p2:Pos}
theorem zn3:PO X none znX:=by
 intro pins s σ H Q I h
 rw[evalPart_none]
 exact lq ⟨none,H,I,.none,h⟩
theorem zoI (h:PE X e te):PO X (some e) (zrM te):=by
 intro pins s σ H Q I hw
 rw[evalPart_some]
 refine thn (h pins s σ H _ I hw) λu s1 zpf=>?_
 obtain⟨x,H1,I1,r1,q1⟩:=zpf
 obtain⟨i,rfl,q⟩:=q1
 obtain⟨t,rfl⟩:=r1
 exact⟨some i,H1,I1,.int i t,q⟩
def SlR (X:Cx)(r:V->Option Int->Option Int->Hp->VK->Prop):Prop :=
 ∀ (pins:List (Addr×Obj)) (s:Shared) (σ:St) (H:Hp) (x:V) (v vl vu:Value) (lo hi:Option Int) (sl:Addr) (Q:VK),Inv X pins σ H s->RelV x v->s.heap.IsSliceOf sl vl vu .none->IsPart vl lo->IsPart vu hi->r x lo hi H Q ->
  ∃T id,typeLookup (.type T) "__getitem__" = pure (some (.builtin id))/\s.TypeIs v T/\wpAny (model X.prog X.w) X.A (getItem v (.ref sl)) (EP X pins σ Q) X.xe s
theorem SlR.or {r':V->Option Int->Option Int->Hp->VK->Prop}(h:SlR X r)(h':SlR X r'):SlR X (λx lo hi H Q=>r x lo hi H Q∨r' x lo hi H Q):=by
 intro pins s σ H x v vl vu lo hi sl Q I rx hs pl pu q
 rcases q with q|q
 ·exact h pins s σ H x v vl vu lo hi sl Q I rx hs pl pu q
 ·exact h' pins s σ H x v vl vu lo hi sl Q I rx hs pl pu q
def tSl (r:V->Option Int->Option Int->Hp->VK->Prop)(te:TE)(tl th:TO):TE:=λσ H Q=>te σ H λx H1=>tl σ H1 λl H2=>th σ H2 λu H3=>r x l u H3 Q
theorem zlT (hr:SlR X r)(he:PE X e te)(hl:PO X lo tl)(hu:PO X hi th):PE X (.Subscript e (.Slice lo hi none p2) pos) (tSl r te tl th):=by
 intro pins s σ H Q I h
 refine Subscript_ (thn (he pins s σ H _ I h) λv s1 zrb=>?_)
 obtain⟨x,H1,I1,r1,q1⟩:=zrb
 refine wpAny_Slice (thn (hl pins s1 σ H1 _ I1 q1) λvl s2 ⟨l,H2,I2,pl,q2⟩=>thn (hu pins s2 σ H2 _ I2 q2) λvu s3 zq9=>?_)
 obtain⟨u,H3,I3,pu,q3⟩:=zq9
 rw[evalPart_none]
 refine lq ?_
 have I4:Inv X pins σ H3 {s3 with heap:=s3.heap.push {cls:=.type "slice", data:=.fields #[vl,vu,.none]} }:=I3.kept (t':=s3.toks) λb ob q=>lg _ q
 obtain⟨T,id,hT,ht,hg⟩:=hr pins {s3 with heap:=s3.heap.push {cls:=.type "slice", data:=.fields #[vl,vu,.none]} } σ H3 x v vl vu l u s3.heap.objs.size Q I4 r1 (Heap.IsSliceOf.new ..) pl pu q3
 show wpAny (model X.prog X.w) X.A (subscriptTail e (.Slice lo hi none p2) v (.ref s3.heap.objs.size)) (EP X pins σ Q) X.xe {s3 with heap:=s3.heap.push {cls:=.type "slice", data:=.fields #[vl,vu,.none]} }
 exact tail_any (ops:=[.ref s3.heap.objs.size,v]) ht hT hg (by with_unfolding_all rfl)
def zkE (xs:List V)(lo hi:Option Int):List V:=(xs.drop (HT.sIx xs.length 0 lo)).take (HT.sIx xs.length xs.length hi - HT.sIx xs.length 0 lo)
theorem zdl (xs:List V)(lo hi:Option Int):(zkE xs lo hi).length<=xs.length:=by
 unfold zkE
 rw[lW,lb9]
 omega
def zsP (K:qQ0):V->Option Int->Option Int->Hp->VK->Prop:=λx lo hi H Q=>∃a xs,x=.ref a/\SqT K H a xs /\
 ¬(HT.sIx xs.length 0 lo=0/\HT.sIx xs.length xs.length hi=xs.length)/\∀p,H p=none->Q (.ref p) (upd H p (.tup (zkE xs lo hi)))
theorem zqN:SlR X (zsP X.K):=by
 intro pins s σ H x v vl vu lo hi sl Q I rx hs pl pu h
 obtain⟨a,xs,rfl,hx,hw,q⟩:=h
 cases rx
 obtain⟨its,r,ht,hz⟩:=I.tuple hx
 have hlen:its.toArray.size=xs.length:=by rw[lI];exact r.length.symm
 refine⟨"tuple", _,laV.lookup,ht.typeIs,?_⟩
 refine HT.getItem_tuple_cut ht hs pl pu (by rw[hlen];exact hw) ?_ (by rw[hlen];exact hz)
 rw[hlen]
 refine⟨.ref s.heap.objs.size,_,I.laid (t':=s.toks) (o:=.tup (zkE xs lo hi)) (λb ob q=>lg _ q) (lu _) ?_,rfl,q _ (I.hok.fresh (lu _))⟩
 exact⟨laC (zdl xs lo hi) hz,_,(r.drop (HT.sIx xs.length 0 lo)).take (HT.sIx xs.length xs.length hi - HT.sIx xs.length 0 lo),TupD.new _ _⟩
theorem Vals.nil_iff {xs:List V}(r:Vals xs us):us=[]↔xs=[]:=by
 cases r with
 | nil=>simp
 | cons _ _=>simp
end
def ixN (n:Nat)(i:Int):Option Nat:=if 0<=i then(if i<n then some i.toNat else none) else if -(n:Int)<=i then some (i+n).toNat else none
def atI {α:Type}(xs:List α)(i:Int):Option α:=(ixN xs.length i).bind λj=>xs[j]?
theorem znQ {i:Int}{j:Nat}(h:ixN n i=some j):seqIndex? i n=some j/\j<n/\-(n:Int)<=i/\i<n:=by
 unfold ixN at h
 by_cases h0:0<=i
 ·rw [lO h0] at h
  by_cases h1:i<n
  ·rw[lO h1] at h
   have e:i.toNat=j:=lp h
   exact⟨by rw[seqIndex_of h0 h1,e],by omega,by omega,h1⟩
  ·rw[lY h1] at h;cases h
 ·rw [lY h0] at h
  by_cases h1:-(n:Int)<=i
  ·rw[lO h1] at h
   have e:(i+n).toNat=j:=lp h
   exact⟨by rw[seqIndex_neg (by omega) h1,e],by omega,h1,by omega⟩
  ·rw[lY h1] at h;cases h
theorem zhp {xs:List α}{i:Int}{v:α}(h:atI xs i=some v):∃j,seqIndex? i xs.length=some j/\xs[j]? = some v/\j<xs.length/\-(xs.length:Int)<=i/\i<xs.length:=by
 unfold atI at h
 cases e:ixN xs.length i with
 | none=>rw[e] at h;cases h
 | some j =>
  rw[e] at h
  obtain⟨h1,h2,h3,h4⟩:=znQ e
  exact⟨j,h1,h,h2,h3,h4⟩
theorem zgF {xs:List α}{j:Nat}{v:α}(h:xs[j]? = some v):atI xs (j:Int)=some v:=by
 have hj:j<xs.length:=(lx.mp h).1
 have e:ixN xs.length (j:Int)=some j:=by
  unfold ixN
  rw[lO (by omega),lO (by omega)];simp
 unfold atI;rw[e];exact h
def zeN (b:Expr):Prop:=∀o i,subscripted b false o i=operate [o,i] (getItem o i)
def IxR (X:Cx)(r:R2):Prop :=
 ∀ (value slice:Expr) (pins:List (Addr×Obj)) (s:Shared) (σ:St) (H:Hp) (x y:V) (v u:Value) (Q:VK),Inv X pins σ H s->RelV x v->RelV y u->r x y H Q ->
  subscripted slice false v u=operate [v,u] (getItem v u)->wpAny (model X.prog X.w) X.A (subscriptTail value slice v u) (EP X pins σ Q) X.xe s
def MtR (X:Cx)(id:String)(r:V->List V->Hp->VK->Prop):Prop :=
 ∀ (pins:List (Addr×Obj)) (s:Shared) (σ:St) (H:Hp) (x:V) (xs:List V) (v:Value) (us:List Value) (Q:VK),Inv X pins σ H s->RelV x v->Vals xs us->r x xs H Q ->
  wpAny (model X.prog X.w) X.A (call (.builtin id) (v::us)) (EP X pins σ Q) X.xe s
section
variable {X:Cx}{a b:Expr}{ta tb:TE}{pos:Pos}
theorem IxR.or {r r':R2}(h:IxR X r)(h':IxR X r'):IxR X (λx y H Q=>r x y H Q∨r' x y H Q):=by
 intro value slice pins s σ H x y v u Q I rx ry q hs
 rcases q with q|q
 ·exact h value slice pins s σ H x y v u Q I rx ry q hs
 ·exact h' value slice pins s σ H x y v u Q I rx ry q hs
theorem zpg {r:R2}(hr:IxR X r)(ha:PE X a ta)(hb:PE X b tb)(hs:zeN b):PE X (.Subscript a b pos) (tOp r ta tb):=by
 intro pins s σ H Q I h
 exact Subscript_ (zrr ha hb I h λv u s2 x y H2 I2 rx ry q=>hr a b pins s2 σ H2 x y v u Q I2 rx ry q (hs _ _))
def zsq (K:qQ0):R2:=λx y H Q=>∃p xs i v,x=.ref p/\y=.int i/\SqL K H p xs/\atI xs i=some v/\Q v H
def zsi (K:qQ0):R2:=λx y H Q=>∃p xs i v,x=.ref p/\y=.int i/\SqT K H p xs/\atI xs i=some v/\Q v H
def zsa:R2:=λx y H Q=>∃z i c,x=.str z/\y=.int i/\z.length<=sizeLine/\atI z.cps.toList i=some c/\Q (.str ⟨#[c]⟩) H
theorem ix_list:IxR X (zsq X.K):=by
 intro value slice pins s σ H x y v u Q I rx ry h hs
 obtain⟨p,xs,i,z,rfl,rfl,hq,he,q⟩:=h
 cases rx
 obtain⟨t,rfl⟩:=ry
 obtain⟨its,r,pl,hz⟩:=I.list hq
 obtain⟨j,h1,h2,h3,h4,h5⟩:=zhp he
 obtain⟨w,ew,rw'⟩:=r.get h2
 have hl:=r.length
 have hn:=zhT
 have fin:EP X pins σ Q w s:=⟨z,H,I,rw',q⟩
 by_cases h0:0<=i
 ·have hj:i.toNat=j:=by
   rw[seqIndex_of h0 h5] at h1
   exact lp h1
  exact item_listR pl.isList h0 (by omega) (by rw[hj];simpa using ew) fin hs
 ·have hj:(i+(its.toArray.size:Int)).toNat=j:=by
   rw[seqIndex_neg (by omega) h4] at h1
   rw[lI,← hl]
   exact lp h1
  exact subscriptTail_builtinR (x:=w) pl.isList.typeIs slot_list_getitem.lookup
   (wpAny_getItem_list_neg (Q:=λr s'=>r=w/\EP X pins σ Q r s') pl.isList (by omega) (by rw[lI] <;>omega) (by omega) (by rw[hj];simpa using ew) ⟨rfl,fin⟩) hs
theorem ix_tup:IxR X (zsi X.K):=by
 intro value slice pins s σ H x y v u Q I rx ry h hs
 obtain⟨p,xs,i,z,rfl,rfl,hq,he,q⟩:=h
 cases rx
 obtain⟨t,rfl⟩:=ry
 obtain⟨its,r,pl,hz⟩:=I.tuple hq
 obtain⟨j,h1,h2,h3,h4,h5⟩:=zhp he
 obtain⟨w,ew,rw'⟩:=r.get h2
 have hl:=r.length
 have hn:=zhT
 have fin:EP X pins σ Q w s:=⟨z,H,I,rw',q⟩
 exact subscriptTail_builtinR (x:=w) pl.typeIs slot_tuple_getitem.lookup
  (getItem_tuple (j:=j) (Q:=λr s'=>r=w/\EP X pins σ Q r s') pl (by omega) (by omega) (by rw[lI,← hl];exact h1) (by simpa using ew) ⟨rfl,fin⟩) hs
theorem zqW:IxR X zsa:=by
 intro value slice pins s σ H x y v u Q I rx ry h hs
 obtain⟨z,i,c,rfl,rfl,hz,he,q⟩:=h
 obtain⟨t,rfl⟩:=rx
 obtain⟨t',rfl⟩:=ry
 obtain⟨j,h1,h2,h3,h4,h5⟩:=zhp he
 have hl:z.cps.toList.length=z.length:=by simp[Str.length]
 rw[hl] at h1 h4 h5
 have hn:=zhT
 exact tail_any (typeIs_str s z t) slot_str_getitem.lookup (getItem_str (c:=c) (by
  have e1:decide (i < -(2 ^ 63:Int))=false:=lS (by omega)
  have e2:decide (i≥2 ^ 63)=false:=lS (by omega)
  rw[e1,e2,Bool.or_false]) (by rw[h1];simpa using h2) ⟨.str ⟨#[c]⟩,H,I.tok _,⟨_,rfl⟩,q⟩) hs
def rIx (K:qQ0):R2:=λx y H Q=>zsq K x y H Q∨zsi K x y H Q∨zsa x y H Q
theorem zqw:IxR X (rIx X.K):=ix_list.or (ix_tup.or zqW)
theorem Inv.lst {pins:List (Addr×Obj)}{σ:St}{H:Hp}{s:Shared}{p:Addr}{xs:List V}(I:Inv X pins σ H s)(h:H p=some (.lst xs)) :
  ∃(its:List Value) (n:Nat),Vals xs its/\s.heap.get? p=some {cls:=.type "list", data:=.seq its.toArray n}/\xs.length<=sizeLine:=by
 obtain⟨z,its,n,r,e⟩:=I.hok p _ h
 exact⟨its,n,r,e,z⟩
theorem zgt (lo hi:Option Int)(n:Nat):(sliceBounds lo hi none n).1=((HT.sIx n 0 lo:Nat):Int)/\(sliceBounds lo hi none n).2.1=((HT.sIx n n hi:Nat):Int)/\(sliceBounds lo hi none n).2.2=1:=by
 refine⟨?_,?_,rfl⟩
 ·cases lo with
  | none=>simp[sliceBounds,HT.sIx]
  | some i =>
   simp only[sliceBounds,HT.sIx,Option.getD_none,show(1:Int) > 0 by decide,lby]
   by_cases h:i<0
   ·simp only[h,lby] <;>omega
   ·simp only[h,la3] <;>omega
 ·cases hi with
  | none=>simp[sliceBounds,HT.sIx]
  | some i =>
   simp only[sliceBounds,HT.sIx,Option.getD_none,show(1:Int) > 0 by decide,lby]
   by_cases h:i<0
   ·simp only[h,lby] <;>omega
   ·simp only[h,la3] <;>omega
theorem zeK (its:List Value)(lo hi:Option Int):slicePick its.toArray lo hi none=((its.drop (HT.sIx its.length 0 lo)).take (HT.sIx its.length its.length hi - HT.sIx its.length 0 lo)).toArray:=by
 obtain⟨h1,h2,h3⟩:=zgt lo hi its.toArray.size
 unfold slicePick
 rw[h1,h2,h3]
 simp only[sliceRange_one,pick_run,lI] <;>rfl
def zsN (K:qQ0):V->Option Int->Option Int->Hp->VK->Prop:=λx lo hi H Q=>∃a xs,x=.ref a/\SqL K H a xs/\∀p,H p=none->Q (.ref p) (upd H p (.lst (zkE xs lo hi)))
theorem zne:SlR X (zsN X.K):=by
 intro pins s σ H x v vl vu lo hi sl Q I rx hs pl pu h
 obtain⟨a,xs,rfl,hx,q⟩:=h
 cases rx
 obtain⟨its,r,ht,hz⟩:=I.list hx
 have hlen:=r.length
 refine⟨"list", _,slot_list_getitem.lookup,ht.isList.typeIs,?_⟩
 refine wpAny_getItem_list_slice ht.isList hs pl pu .none (by simp) ?_ (by rw[lI] <;>omega)
 rw[zeK,← hlen]
 refine⟨.ref s.heap.objs.size,_,I.laid (t':=s.toks) (o:=.lst (zkE xs lo hi)) (λb ob q=>lg _ q) (lu _) ?_,rfl,q _ (I.hok.fresh (lu _))⟩
 exact⟨laC (zdl xs lo hi) hz,_,0,(r.drop (HT.sIx xs.length 0 lo)).take (HT.sIx xs.length xs.length hi - HT.sIx xs.length 0 lo),lC _ rfl⟩
def jT:V->Bool
 | .non=>true
 | .bl _=>true
 | .int _=>true
 | .str _=>true
 | _=>false
def eqV:V->V->Bool
 | .non,.non=>true
 | .bl a,.bl b=>a == b
 | .bl a,.int b=>(if a then 1 else 0) == b
 | .int a,.bl b=>a == (if b then 1 else 0)
 | .int a,.int b=>a == b
 | .str a,.str b=>a == b
 | _,_=>false
theorem zqQ {A:Around}{x:V}{v:Value}(ry:RelV y u)(rx:RelV x v)(fy:jT y=true)(fx:jT x=true):SeqAt.EqAt A s u v (eqV y x):=by
 cases y with
 | non =>
  cases ry
  cases x with
  | non=>cases rx;exact SeqAt.EqAt.same _
  | bl b=>cases rx;exact SeqAt.EqAt.none_bool b
  | int b=>obtain⟨t,rfl⟩:=rx;exact SeqAt.EqAt.none_int b t
  | str b=>obtain⟨t,rfl⟩:=rx;exact SeqAt.EqAt.none_str b t
  | _=>exact absurd (show false=true from fx) lE
 | bl a =>
  cases ry
  cases x with
  | non=>cases rx;exact SeqAt.EqAt.bool_none a
  | bl b=>cases rx;exact SeqAt.EqAt.bool_bool a b
  | int b=>obtain⟨t,rfl⟩:=rx;exact SeqAt.EqAt.bool_int a b t
  | str b=>obtain⟨t,rfl⟩:=rx;exact SeqAt.EqAt.bool_str a b t
  | _=>exact absurd (show false=true from fx) lE
 | int a =>
  obtain⟨t',rfl⟩:=ry
  cases x with
  | non=>cases rx;exact SeqAt.EqAt.int_none a t'
  | bl b=>cases rx;exact SeqAt.EqAt.int_bool a t' b
  | int b=>obtain⟨t,rfl⟩:=rx;exact SeqAt.EqAt.int_int a t' b t
  | str b=>obtain⟨t,rfl⟩:=rx;exact SeqAt.EqAt.int_str a t' b t
  | _=>exact absurd (show false=true from fx) lE
 | str a =>
  obtain⟨t',rfl⟩:=ry
  cases x with
  | non=>cases rx;exact SeqAt.EqAt.str_none a t'
  | bl b=>cases rx;exact SeqAt.EqAt.str_bool a t' b
  | int b=>obtain⟨t,rfl⟩:=rx;exact SeqAt.EqAt.str_int a t' b t
  | str b=>obtain⟨t,rfl⟩:=rx;exact SeqAt.EqAt.str_str a t' b t
  | _=>exact absurd (show false=true from fx) lE
 | _=>exact absurd (show false=true from fy) lE
def eqU (x:V)(u:Value):Bool:=match u with
 | .none=>eqV .non x
 | .bool b=>eqV (.bl b) x
 | .int i _=>eqV (.int i) x
 | .str z _=>eqV (.str z) x
 | _=>false
theorem zk0 {x:V}(r:RelV y u)(f:jT y=true):eqU x u=eqV y x:=by
 cases y with
 | non=>cases r;rfl
 | bl b=>cases r;rfl
 | int i=>obtain⟨t,rfl⟩:=r;rfl
 | str z=>obtain⟨t,rfl⟩:=r;rfl
 | _=>exact absurd (show false=true from f) lE
theorem zcs {A:Around}{s:Shared}{x:V}{v:Value}(rx:RelV x v)(fx:jT x=true):∀{xs:List V}{us:List Value},Vals xs us->xs.all jT=true->∀u∈us,SeqAt.EqAt A s u v (eqU x u)
 | _,_,.nil,_=>λu hu=>by cases hu
 | y::xs,u::us,.cons r t,f=>λu' hu=>by
  rw[lbv,lG] at f
  rcases lz.mp hu with rfl|hu
  ·rw[zk0 r f.1];exact zqQ r rx f.1 fx
  ·exact zcs rx fx t f.2 u' hu
theorem zfX:ju X (.type "list") (λxs H Q=>∃p ys,xs=[.ref p]/\(SqL X.K H p ys∨SqT X.K H p ys)/\∀l,H l=none->Q (.ref l) (upd H l (.lst ys))):=by
 intro pins s σ H xs us Q I r h
 obtain⟨p,ys,rfl,hq,q⟩:=h
 obtain⟨u,rfl,rx⟩:=vals1 r
 cases rx
 have fin:∀(its:List Value),Vals ys its->ys.length<=sizeLine->∀(h':Heap) (c':Nat),(∀b o',s.heap.get? b=some o'->h'.get? b=some o') ->
   h'.get? s.heap.objs.size=some {cls:=.type "list", dict:=none,data:=.seq its.toArray c',slots:=#[]}->EP X pins σ Q (.ref s.heap.objs.size) {s with heap:=h'}:=λits r' hz h' c' kp e =>
  ⟨.ref s.heap.objs.size,_,I.laid (t':=s.toks) kp (lu _) (show ObjOk X.prog X.w _ h' _ (.lst ys) from⟨hz,its,c',r',e⟩),rfl,q _ (I.hok.fresh (lu _))⟩
 rcases hq with hq|hq
 ·obtain⟨its,r',pl,hz⟩:=I.list hq
  have hlen:=r'.length
  obtain⟨o,ho,hc,n,hd⟩:=pl.isList
  exact call_list_seq p (.inl rfl) ho hc hd (λh' c' kp e=>fin its r' hz h' c' kp e) (by simp only[lI] <;>omega)
 ·obtain⟨its,r',pl,hz⟩:=I.tuple hq
  have hlen:=r'.length
  obtain⟨o,ho,hc,n,hd⟩:=pl
  exact call_list_seq p (.inr rfl) ho hc hd (λh' c' kp e=>fin its r' hz h' c' kp e) (by simp only[lI] <;>omega)
theorem wz:ju X (.type "tuple") (λxs H Q=>∃p ys,xs=[.ref p]/\((SqL X.K H p ys/\∀l,H l=none->Q (.ref l) (upd H l (.tup ys)))∨(SqT X.K H p ys/\Q (.ref p) H))):=by
 intro pins s σ H xs us Q I r h
 obtain⟨p,ys,rfl,h⟩:=h
 obtain⟨u,rfl,rx⟩:=vals1 r
 cases rx
 rcases h with⟨hq,q⟩|⟨hq,q⟩
 ·obtain ⟨its,r',pl,hz⟩:=I.list hq
  have hlen:=r'.length
  refine call_tuple_list pl.isList (λh' kp=>?_) (by simp only[lI] <;>omega)
  have I1:Inv X pins σ H {s with heap:=h'}:=I.kept (t':=s.toks) kp
  have I2:Inv X pins σ (upd H h'.objs.size (.tup ys)) {s with heap:=h'.push {cls:=.type "tuple", data:=.seq its.toArray} } :=
   I1.laid (t':=s.toks) (λb o e=>lg _ e) (lu _) (show ObjOk X.prog X.w _ _ _ (.tup ys) from⟨hz,its,r',TupD.new _ _⟩)
  exact⟨.ref h'.objs.size,_,I2,rfl,q _ (I1.hok.fresh (lu _))⟩
 ·obtain⟨its,r',pl,hz⟩:=I.tuple hq
  exact call_tuple_same pl ⟨.ref p,H,I,rfl,q⟩
def tyV (K:qQ0)(T:String)(x:V)(H:Hp):Prop:=match x with
 | .str _=>T = "str"
 | .int _=>T = "int"
 | .ref p=>(T = "list" /\ ∃xs,SqL K H p xs)∨(T = "tuple" /\ ∃o,K.lookup p=some o/\o.cls=.type "tuple" /\ o.dict=none) ∨
   (T = "dict" /\ ((∃kvs,H p=some (.dK kvs))∨∃kvs,H p=some (.dT kvs)))∨(T = "set" /\ ∃S n,H p=some (.set S n))
 | _=>False
theorem zqx {σ:St}{T:String}{x:V}{v:Value}(I:Inv X pins σ H s)(r:RelV x v)(ty:tyV X.K T x H) :
  s.TypeIs v T/\∀a,v=.ref a->∃ob,s.heap.get? a=some ob/\ob.dict=none:=by
 cases x with
 | str z =>
  obtain⟨t,rfl⟩:=r
  cases (show T = "str" from ty)
  exact⟨typeIs_str s z t,λ_ e=>nomatch e⟩
 | int i =>
  obtain⟨t,rfl⟩:=r
  cases (show T = "int" from ty)
  exact⟨typeIs_int s i t,λ_ e=>nomatch e⟩
 | ref p =>
  cases r
  rcases ty with⟨rfl,xs,hq⟩|⟨rfl,o,hk,hc,hd⟩|⟨rfl,hk⟩|⟨rfl,S,n,hk⟩
  ·obtain⟨its,_,pl,_⟩:=I.list hq
   refine⟨pl.isList.typeIs,λa e=>?_⟩
   cases e
   obtain⟨o,n,e,c,hd,_⟩:=pl
   exact⟨o,e,hd⟩
  ·refine⟨⟨o,I.kIn p o hk,hc⟩,λa e=>?_⟩
   cases e
   exact⟨o,I.kIn _ o hk,hd⟩
  ·have z:∃o,s.heap.get? p=some o/\o.ExactDict:=by
    rcases hk with⟨kvs,hk⟩|⟨kvs,hk⟩
    ·obtain⟨_,_,_,_,o,_,_,e,ex,_⟩:=I.hok p _ hk
     exact⟨o,e,ex⟩
    ·obtain⟨_,_,_,_,o,_,_,e,ex,_⟩:=I.hok p _ hk
     exact⟨o,e,ex⟩
   obtain⟨o,e,ex⟩:=z
   refine⟨⟨o,e,ex.1⟩,λa e2=>?_⟩
   cases e2
   exact⟨o,e,ex.2.1⟩
  ·obtain⟨o,_,_,_,e,ex,_⟩:=I.hok p _ hk
   refine⟨⟨o,e,ex.1⟩,λa e2=>?_⟩
   cases e2
   exact⟨o,e,ex.2.1⟩
 | _=>exact False.elim ty
def tBM (K:qQ0)(T:String)(r:V->List V->Hp->VK->Prop)(to:TE)(t:TA):TE:=λσ H Q=>to σ H λx H1=>tyV K T x H1/\t σ H1 λxs H2=>r x xs H2 Q
variable {o e:Expr}{es:List Expr}{to:TE}{t:TA}{name:Str}{apos cpos:Pos}{T id:String}{r:V->List V->Hp->VK->Prop}
theorem zgE (pa:PlainAttrs T)(slot:Slot T name id)(hty:typeOf (.builtin id)=pure (.type "method_descriptor"))(hm:MtR X id r)(ho:PE X o to)(ha:PA X (e::es) t)
  (hbase:attributeBase o name X.env (eval o X.env)=eval o X.env:=by rfl)
  (hfew:((backTo cpos (starEach (e::es) X.env)).all (λx=>!x.1)&&(backToKw cpos (keywordEach [] X.env)).all (λx=>x.1.isSome)
   && decide ((e::es).length+([]:List Keyword).length+(if ([]:List Keyword).isEmpty then 0 else 1)<30))=true:=by rfl)
  (hline:(apos.endLine == cpos.line)=true:=by rfl) (hs:starEach (e::es) X.env=(false,eval e X.env)::starEach es X.env:=by rfl) (hplain:(backTo cpos (starEach es X.env)).any (·.1)=false:=by rfl) :
  PE X (.Call (.Attribute o name apos) (e::es) [] cpos) (tBM X.K T r to t):=by
 intro pins s σ H Q I h
 refine wpAny_Call_method_late hbase hfew hline rfl (thn (ho pins s σ H _ I h) λv s1 zq7=>?_)
 obtain⟨x,H1,I1,r1,ty,q1⟩:=zq7
 obtain⟨h1,h2⟩:=zqx I1 r1 ty
 refine⟨T,id,pa,slot,hty,h1,h2,?_⟩
 have hA:=ha cpos pins s1 σ H1 _ I1 q1
 rw[hs] at hA ⊢
 refine Calls.callWith_builtin (by show(false || (backTo cpos (starEach es X.env)).any (·.1))=false;rw[hplain] <;>rfl) (ldr ?_)
 exact thn hA λus s2 ⟨vs,H2,I2,r2,q2⟩=>hm pins s2 σ H2 x vs v us Q I2 r1 r2 q2
/- xs.append(e), list.index on a module's tuple .. are MtR facts of 06m -/
end
def MtM (X:Cx)(id:String)(r:V->List V->Hp->VK->Prop):Prop :=
 ∀ (pins:List (Addr×Obj)) (s:Shared) (σ:St) (H:Hp) (x:V) (xs:List V) (v:Value) (us:List Value) (Q:VK),Inv X pins σ H s->RelV x v->Vals xs us->r x xs H Q ->
  wpAny (model X.prog X.w) X.A (call (.builtin id) (v::us)) (EP X pins σ Q) X.xe s
theorem Vals.one:∀{x:V}{us:List Value},Vals [x] us->∃u,us=[u]/\RelV x u:=by
 intro x us h
 cases h with
 | cons r t=>cases t;exact⟨_,rfl,r⟩
theorem Vals.eraseIdx:∀{xs:List V}{us:List Value} (i:Nat),Vals xs us->Vals (xs.eraseIdx i) (us.eraseIdx i)
 | _,_,_,.nil=>.nil
 | _,_,0,.cons _ t=>t
 | _,_,i+1,.cons r t=>.cons r (Vals.eraseIdx i t)
theorem Vals.rep {xs:List V}(h:Vals xs us):∀k:Nat,Vals (List.replicate k xs).flatten (List.replicate k us).flatten
 | 0=>.nil
 | k+1=>by
  rw[lbt,lbt,lb0,lb0]
  exact Vals.append h (Vals.rep h k)
theorem foldl_rep (its:List Value):∀(k:Nat) (acc:List Value),
  List.foldl (λx1 x2=>x1++x2) acc.toArray (List.replicate k its.toArray)=(acc++(List.replicate k its).flatten).toArray
 | 0,acc=>by simp
 | k+1,acc=>by
  have e:acc.toArray++its.toArray=(acc++its).toArray:=by simp
  have e2:(acc++its)++(List.replicate k its).flatten=acc++(List.replicate (k+1) its).flatten:=by
   rw[lbt,lb0,lba]
  rw[← e2,← foldl_rep its k (acc++its),← e,lbt,la5]
section
variable {X:Cx}{pins:List (Addr×Obj)}{σ:St}{H:Hp}{s:Shared}{l b:Addr}{xs ys zs:List V}
theorem Inv.lset {its':List Value}{f:Array Value->Array Value}(I:Inv X pins σ H s)(hH:H l=some (.lst xs))
  (e:s.heap.get? l=some {cls:=.type "list", data:=.seq its.toArray n}) (hf:f its.toArray=its'.toArray) (hv:Vals ys its') (hz:ys.length<=sizeLine) :
  Inv X pins σ (upd H l (.lst ys)) {s with heap:=s.heap.update l (Obj.mapSeq f),toks:=t'}:=by
 have q:=PySem.IsL.update e f
 rw[hf] at q
 refine I.write (x:=l) (e:=l) (by rw[hH];exact trivial) (.inl rfl) (λb' u hb hu=>(Heap.get?_update_other s.heap (Obj.mapSeq f) (lbF hb)).trans hu) ⟨_,q⟩ ?_
 exact⟨hz,its',_,hv,q⟩
theorem Inv.lnew (I:Inv X pins σ H s)(hv:Vals ys its)(hz:ys.length<=sizeLine) :
  Inv X pins σ (upd H s.heap.objs.size (.lst ys)) {s with heap:=s.heap.push {cls:=.type "list", data:=.seq its.toArray},toks:=t'} :=
 I.laid (λ_ _ q=>lg _ q) (lu _) ⟨hz,its,0,hv,lC _ rfl⟩
theorem Inv.fresh (I:Inv X pins σ H s):H s.heap.objs.size=none:=I.hok.fresh (lu _)
theorem Inv.lstM (I:Inv X pins σ H s)(hH:H l=some (.lst xs)):xs.length<=sizeLine/\∃(its:List Value) (n:Nat),Vals xs its/\xs.length=its.length/\s.heap.get? l=some {cls:=.type "list", data:=.seq its.toArray n}:=by
 obtain⟨z,its,n,r,e⟩:=I.hok l _ hH
 exact⟨z,its,n,r,r.length,e⟩
theorem zid (h:n<=sizeLine):Builtin.List.listTooLong n=false:=by
 unfold Builtin.List.listTooLong
 exact lS (by omega)
end
section
variable {X:Cx}
def znz:V->List V->Hp->VK->Prop:=λx vs H Q=>∃l xs y,x=.ref l/\vs=[y]/\H l=some (.lst xs)/\xs.length<sizeLine/\Q .non (upd H l (.lst (xs++[y])))
theorem zj0:MtM X "list.append" znz:=by
 intro pins s σ H x vs v us Q I rx rv h
 obtain⟨l,xs,y,rfl,rfl,hH,hz,q⟩:=h
 cases rx
 obtain⟨u,rfl,ru⟩:=rv.one
 obtain⟨z,its,n,r,hl,e⟩:=I.lstM hH
 refine lcI F.slot_list_append ⟨_,e,rfl⟩ F.entry_list_append (F.args_list_append_2 _ _) (PySem.list_append l its.toArray n u (by rw[lI];omega)) ⟨e,?_⟩
 refine⟨.non,_,I.lset (its':=its++[u]) hH e (by simp) (r.append (.cons ru .nil)) ?_,rfl,q⟩
 rw[lU,lcl]
 omega
theorem len_rep (xs:List α)(k:Nat):(List.replicate k xs).flatten.length=k*xs.length:=by
 induction k with
 | zero=>simp
 | succ k ih=>rw[lbt,lb0,lU,ih,Nat.succ_mul,Nat.add_comm]
end
section
variable {κ:Type} [DecidableEq κ]
def zfp (kvs:List (κ×V))(k:κ):Option V:=(kvs.find? λkv=>decide (kv.1=k)).map (·.2)
def putK (kvs:List (κ×V))(k:κ)(v:V):List (κ×V) :=
 if (kvs.any λkv=>decide (kv.1=k))=true then kvs.map (λkv=>if kv.1=k then(kv.1,v) else kv) else kvs++[(k,v)]
def zqD (kvs:List (κ×V))(k:κ):List (κ×V):=kvs.filter λkv=>decide (kv.1≠k)
theorem zeo {p:κ×V}{r:List (κ×V)}{k:κ}(e:p.1=k):zfp (p::r) k=some p.2:=by simp[zfp,lcn,e]
theorem zeR {p:κ×V}{r:List (κ×V)}{k:κ}(e:¬p.1=k):zfp (p::r) k=zfp r k:=by simp[zfp,lcn,e]
theorem zhU (k:κ):∀kvs:List (κ×V),(kvs.any λkv=>decide (kv.1=k))=(zfp kvs k).isSome
 | []=>rfl
 | p::r=>by
  rw[ldw]
  by_cases e:p.1=k
  ·simp only[zeo e,lP e,Bool.true_or,Option.isSome_some]
  ·rw[zeR e,lS e,Bool.false_or];exact zhU k r
theorem kY (kvs:List (κ×V))(k:κ)(v:V):(putK kvs k v).length<=kvs.length+1:=by
 unfold putK
 split
 ·rw[lD];omega
 ·rw[lU,lM,lah];omega
theorem RelO.isSome_eq {u:Option Value}(r:RelO o u):o.isSome=u.isSome:=by
 cases o with
 | none=>cases u with
  | none=>rfl
  | some _=>exact(show False from r).elim
 | some _=>cases u with
  | none=>exact(show False from r).elim
  | some _=>rfl
theorem RelO.getD {u:Option Value}{d:V}{d':Value}(r:RelO o u)(rd:RelV d d'):RelV (o.getD d) (u.getD d'):=by
 cases o with
 | none=>cases u with
  | none=>exact rd
  | some _=>exact(show False from r).elim
 | some _=>cases u with
  | none=>exact(show False from r).elim
  | some _=>exact r
theorem KV.val {kvs:List (κ×V)}{vs:List (κ×Value)}(r:KV kvs vs)(k:κ):RelO (zfp kvs k) (valueAt vs k):=by
 unfold KV at r
 induction r with
 | nil=>exact True.intro
 | @cons p q ps qs h t ih =>
  obtain⟨h1,h2⟩:=h
  by_cases e:p.1=k
  ·have e':q.1=k:=h1.symm.trans e
   have b:valueAt (q::qs) k=some q.2:=by simp[valueAt,lcn,e']
   rw[zeo e,b];exact h2
  ·have e':¬q.1=k:=λz=>e (h1.trans z)
   have b:valueAt (q::qs) k=valueAt qs k:=by simp[valueAt,lcn,e']
   rw[zeR e,b];exact ih
theorem KV.any {kvs:List (κ×V)}{vs:List (κ×Value)}(r:KV kvs vs)(k:κ):(kvs.any λkv=>decide (kv.1=k))=vs.any λkv=>decide (kv.1=k):=by
 unfold KV at r
 induction r with
 | nil=>rfl
 | cons h t ih=>rw[ldw,ldw,ih,h.1]
theorem KV.repl {kvs:List (κ×V)}{vs:List (κ×Value)}(r:KV kvs vs)(k:κ)(ry:RelV y u) :
  KV (kvs.map λkv=>if kv.1=k then(kv.1,y) else kv) (vs.map λkv=>if kv.1=k then(kv.1,u) else kv):=by
 unfold KV at r ⊢
 induction r with
 | nil=>exact .nil
 | @cons p q ps qs h t ih =>
  rw[lr,lr]
  refine .cons ?_ ih
  obtain⟨h1,h2⟩:=h
  by_cases e:p.1=k
  ·rw[lO e,lO (h1.symm.trans e)];exact⟨h1,ry⟩
  ·rw[lY e,lY (λz=>e (h1.trans z))];exact⟨h1,h2⟩
theorem KV.put {kvs:List (κ×V)}{vs:List (κ×Value)}(r:KV kvs vs)(k:κ)(ry:RelV y u):KV (putK kvs k y) (stored vs k u):=by
 unfold putK stored
 rw[r.any k]
 by_cases e:(vs.any λkv=>decide (kv.1=k))=true
 ·rw[lO e,lO e];exact r.repl k ry
 ·rw[lY e,lY e];exact Paired.snoc r ⟨rfl,ry⟩
theorem KV.drop {kvs:List (κ×V)}{vs:List (κ×Value)}(r:KV kvs vs)(k:κ):KV (zqD kvs k) (without vs k):=by
 unfold KV at r ⊢
 unfold zqD without
 induction r with
 | nil=>exact .nil
 | @cons p q ps qs h t ih =>
  obtain⟨h1,h2⟩:=h
  rw[leg,leg]
  by_cases e:p.1=k
  ·have a:¬decide (p.1≠k)=true:=by simp[e]
   have b:¬decide (q.1≠k)=true:=by simp[h1.symm.trans e]
   rw[lY a,lY b];exact ih
  ·have e':¬q.1=k:=λz=>e (h1.trans z)
   have a:decide (p.1≠k)=true:=by simp[e]
   have b:decide (q.1≠k)=true:=by simp[e']
   rw[lO a,lO b];exact .cons ⟨h1,h2⟩ ih
theorem KV.keys {kvs:List (κ×V)}{vs:List (κ×Value)}(r:KV kvs vs):kvs.map (·.1)=vs.map (·.1):=by
 unfold KV at r
 induction r with
 | nil=>rfl
 | cons h t ih=>rw[lr,lr,ih,h.1]
theorem KV.length {kvs:List (κ×V)}{vs:List (κ×Value)}(r:KV kvs vs):kvs.length=vs.length:=Paired.length r
end
theorem zoA {k:Key}(r:RelV (kV k) u):(xr P w).is k u=true:=by
 cases k with
 | inl i=>obtain⟨t,e⟩:=(show ∃t,u=Value.int i t from r);subst e;exact zgL P w i t
 | inr x=>obtain⟨t,e⟩:=(show ∃t,u=Value.str x t from r);subst e;exact zcv P w x t
theorem zcZ {P:Program}{w:World}:∀{ks:List Key}{us:List Value},Vals (ks.map kV) us->ItemsAre (xr P w) ks us
 | [],_,r=>by rw[laL] at r;cases r;exact .nil
 | k::ks,_,r=>by
  rw[lr] at r
  cases r with
  | cons h t=>exact .cons (zoA h) (zcZ t)
abbrev KT (H:Hp):List (List Key×V)->List (List Key×Addr×Value)->Prop:=Paired λp q=>p.1=q.1/\H q.2.1=some (.tup (p.1.map kV))/\RelV p.2 q.2.2
theorem KT.val (r:KT H kvs xs)(k:List Key):RelO (zfp kvs k) ((atKey xs k).map (·.2)):=by
 induction r with
 | nil=>exact True.intro
 | @cons p q ps qs h t ih =>
  obtain⟨h1,_,h2⟩:=h
  by_cases e:p.1=k
  ·have e':q.1=k:=h1.symm.trans e
   have b:atKey (q::qs) k=some q.2:=by simp[atKey,lcn,e']
   rw[zeo e,b];exact h2
  ·have e':¬q.1=k:=λz=>e (h1.trans z)
   have b:atKey (q::qs) k=atKey qs k:=by simp[atKey,lcn,e']
   rw[zeR e,b];exact ih
theorem KT.repl (r:KT H kvs xs)(k:List Key)(ry:RelV y u) :
  KT H (kvs.map λkv=>if kv.1=k then(kv.1,y) else kv) (xs.map (putAt k u)):=by
 induction r with
 | nil=>exact .nil
 | @cons p q ps qs h t ih =>
  rw[lr,lr]
  refine .cons ?_ ih
  obtain⟨h1,h2,h3⟩:=h
  unfold putAt
  by_cases e:p.1=k
  ·rw[lO e,lO (h1.symm.trans e)];exact⟨h1,h2,ry⟩
  ·rw[lY e,lY (λz=>e (h1.trans z))];exact⟨h1,h2,h3⟩
theorem KT.put (r:KT H kvs xs)(k:List Key){b:Addr}(hb:H b=some (.tup (k.map kV)))(ry:RelV y u) :
  KT H (putK kvs k y) (storedH xs k b u):=by
 have e:(kvs.any λkv=>decide (kv.1=k))=(atKey xs k).isSome:=by
  rw[zhU,(r.val k).isSome_eq,Option.isSome_map]
 unfold putK storedH
 rw[e]
 by_cases q:(atKey xs k).isSome=true
 ·rw[lO q,lO q];exact r.repl k ry
 ·rw[lY q,lY q];exact Paired.snoc r ⟨rfl,hb,ry⟩
theorem KT.keeps (r:KT H kvs xs)(ht:∀b ys,H b=some (.tup ys)->H' b=some (.tup ys)):KT H' kvs xs :=
 Paired.mapP r λ_ _ z=>⟨z.1,ht _ _ z.2.1,z.2.2⟩
section
variable {P:Program}{w:World}{H:Hp}{h:Heap}{a:Addr}
theorem zqT {u:HO}(ok:HOk P w H h)(e:Rd H a u):ObjOk P w H h a u:=e.ok ok
theorem zoL {kvs:List (Key×V)}(ok:HOk P w H h)(e:Rd H a (.dK kvs)):kvs.length<=sizeLine/\(a == sysModules)=false/\∃vs,KV kvs vs/\h.DictOf (xr P w) a vs :=
 show ObjOk P w H h a (.dK kvs) from zqT ok e
theorem zob {kvs:List (Key×V)}(ok:HOk P w H h)(e:H a=some (.dK kvs)):kvs.length<=sizeLine/\(a == sysModules)=false/\∃vs,KV kvs vs/\h.DictOf (xr P w) a vs:=zoL ok (.inl e)
theorem zi4 {ks:List Key}(ok:HOk P w H h)(e:H a=some (.tup (ks.map kV))):(tupleKind (xr P w)).is h ks a:=by
 obtain⟨_,its,r,o,h1,h2,⟨n,h3⟩,_⟩:=(show ObjOk P w H h a (.tup (ks.map kV)) from ok a _ e)
 exact⟨o,its.toArray,n,h1,h2,h3,by simpa using zcZ r⟩
theorem znm (ok:HOk P w H h)(e:Rd H a (.dT kvs)):kvs.length<=sizeLine/\(a == sysModules)=false /\
  ∃xs,KT H kvs xs/\h.DictOfH (tupleKind (xr P w)) a xs:=by
 obtain⟨z,y,xs,r,o,es,ep,h1,h2,h3,h4,h5⟩:=(show ObjOk P w H h a (.dT kvs) from zqT ok e)
 refine⟨z,y,xs,r,o,es,ep,h1,h2,h3,h4,λx hx=>?_,h5⟩
 have all:∀{l:List (List Key×V)}{m:List (List Key×Addr×Value)},KT H l m->∀x∈m,(tupleKind (xr P w)).is h x.1 x.2.1:=by
  intro l m q
  induction q with
  | nil=>intro x hx;exact nomatch hx
  | @cons p q ps qs hq t ih =>
   intro x hx
   rcases lz.mp hx with e|hx
   ·subst e
    exact zi4 ok (by rw[← hq.1];exact hq.2.1)
   ·exact ih x hx
 exact all r x hx
theorem zrl (ok:HOk P w H h)(e:H a=some (.dT kvs)):kvs.length<=sizeLine/\(a == sysModules)=false /\
  ∃xs,KT H kvs xs/\h.DictOfH (tupleKind (xr P w)) a xs:=znm ok (.inl e)
end
def DGet (H:Hp)(a:Addr)(y:V)(r:Option V):Prop :=
 (∃kvs k,Rd H a (.dK kvs)/\y=kV k/\r=zfp kvs k)∨∃kvs k b,Rd H a (.dT kvs)/\y=.ref b/\H b=some (.tup (k.map kV))/\r=zfp kvs k
def DPut (H:Hp)(a:Addr)(y v:V)(H':Hp):Prop :=
 (∃kvs k,H a=some (.dK kvs)/\y=kV k/\kvs.length<sizeLine/\H'=upd H a (.dK (putK kvs k v))) ∨
 ∃kvs k b,H a=some (.dT kvs)/\y=.ref b/\H b=some (.tup (k.map kV))/\kvs.length<sizeLine/\H'=upd H a (.dT (putK kvs k v))
theorem DGet.k {H:Hp}{a:Addr}{kvs:List (Key×V)}{k:Key}(e:H a=some (.dK kvs)):DGet H a (kV k) (zfp kvs k):=.inl ⟨kvs,k,.inl e,rfl,rfl⟩
theorem DPut.k {H:Hp}{a:Addr}{kvs:List (Key×V)}{k:Key}{v:V}(e:H a=some (.dK kvs))(hl:kvs.length<sizeLine):DPut H a (kV k) v (upd H a (.dK (putK kvs k v))):=.inl ⟨kvs,k,e,rfl,hl,rfl⟩
section
variable {X:Cx}{pins:List (Addr×Obj)}{σ:St}{H:Hp}{s:Shared}{a:Addr}{y v:V}{u r:Value}{o:Option V}{A:Around}{E:qQ2}
theorem Inv.big (I:Inv X pins σ H s):sysModules<s.heap.objs.size:=by
 have h:mainGlobals<s.heap.objs.size:=(I.mod.glob.keeps I.bk).lt
 exact leo (by decide) h
theorem zjm (hu:A.units+1<cLine)(I:Inv X pins σ H s)(g:DGet H a y (some v))(ry:RelV y u)(h:∀w' s',Inv X pins σ H s'->RelV v w'->Q w' s') :
  wpAny (model X.prog X.w) A (getItem (.ref a) u) Q E s:=by
 rcases g with⟨kvs,k,e,ey,l⟩|⟨kvs,k,b,e,ey,eb,l⟩
 ·subst ey
  obtain⟨z,hd,vs,rel,dd⟩:=zoL I.hok e
  obtain⟨w',hw,rw'⟩:=RelO.some_of (v:=v) (o:=valueAt vs k) (by rw[l];exact rel.val k)
  exact wpAny_getItem_of (zoA ry) dd.mapOf hw (h w' _ (I.tok _) rw')
 ·subst ey
  cases (show u=Value.ref b from ry)
  obtain⟨z,hd,xs,rel,dd⟩:=znm I.hok e
  obtain⟨w',hw,rw'⟩:=RelO.some_of (v:=v) (o:=(atKey xs k).map (·.2)) (by rw[l];exact rel.val k)
  obtain⟨p,hp,hp2⟩:=Option.map_eq_some_iff.mp hw
  refine wpAny_getItem_heap (ldS hu) (zi4 I.hok eb) dd hp ?_
  rw[hp2]
  exact h w' _ (I.tok _) rw'
theorem zep {h':Heap}{ob:HO}(I:Inv X pins σ H s)(mu:Mut (H a))(hs:Heap.SameBut a s.heap h')(he:∃q,h'.get? a=some q)(new:ObjOk X.prog X.w (upd H a ob) h' a ob) :
  Inv X pins σ (upd H a ob) {s with heap:=h',toks:=t'} :=
 I.write (x:=a) (e:=a) mu (.inl rfl) (λb q hb z=>(hs.2 b hb).trans z) he new
theorem zm9 {h':Heap}{kvs:List (Key×V)}{vs:List (Key×Value)}(z:kvs.length<=sizeLine)(hd:(a == sysModules)=false)(rel:KV kvs vs)(dd:h'.DictOf (xr P w) a vs) :
  ObjOk P w H' h' a (.dK kvs):=⟨z,hd,vs,rel,dd⟩
theorem zkU {Q:Unit->Shared->Prop}(hu:A.units+1<cLine)(I:Inv X pins σ H s)(g:DPut H a y v H')(ry:RelV y u)(rv:RelV v r)(h:∀s',Inv X pins σ H' s'->Q () s') :
  wpAny (model X.prog X.w) A (setItem (.ref a) u r) Q E s:=by
 rcases g with⟨kvs,k,e,ey,l,eH⟩|⟨kvs,k,b,e,ey,eb,l,eH⟩
 ·subst ey eH
  obtain⟨z,hd,vs,rel,dd⟩:=zob I.hok e
  have hz:vs.length<=sizeLine:=by rw[← rel.length];exact z
  have hl:(putK kvs k v).length<=sizeLine:=by have:=kY kvs k v;omega
  refine wpAny_setItem_pairs (hsz:=hz) (zoA ry) dd λh' dd' hs=>h _ ?_
  have he:∃q,h'.get? a=some q:=let ⟨q,_,_,hq,_⟩:=dd';⟨q,hq⟩
  exact zep I (by rw[e];exact True.intro) hs he (zm9 hl hd (rel.put k rv) dd')
 ·subst ey eH
  cases (show u=Value.ref b from ry)
  obtain⟨z,hd,xs,rel,dd⟩:=zrl I.hok e
  have hz:xs.length<=sizeLine:=by rw[← Paired.length rel];exact z
  have hl:(putK kvs k v).length<=sizeLine:=by have:=kY kvs k v;omega
  refine wpAny_setItem_heap (hsz:=hz) (ldS hu) (zi4 I.hok eb) dd λh' dd' hs=>h _ ?_
  obtain⟨q,es,ep,hq,h2,h3,h4,_,h5⟩:=dd'
  refine zep I (by rw[e];exact True.intro) hs ⟨q,hq⟩ ⟨hl,hd,_,(rel.put k eb rv).keeps λc ys ec=>?_,q,es,ep,hq,h2,h3,h4,h5⟩
  rw[zZ (zr4 ec e (λz=>nomatch z))]
  exact ec
end
def zre (i:Expr):Prop:=∀ov iv,subscripted i false ov iv=operate [ov,iv] (getItem ov iv)
theorem zoH {prog:Program}{A:Around}{E:qQ2}{env:Env}{value slice:Expr}{pos:Pos}{T id:String}
  (hl:typeLookup (.type T) "__getitem__" = pure (some (.builtin id))) (hs:zre slice)
  (h:wpAny (model prog w) A (eval value env) (λo s₁=>wpAny (model prog w) A (eval slice env) (λi s₂=>s₂.TypeIs o T/\wpAny (model prog w) A (getItem o i) Q E s₂) E s₁) E s) :
  wpAny (model prog w) A (eval (.Subscript value slice pos) env) Q E s:=by
 refine Subscript_ (laT h (λo s₁ h₁=>laT h₁ (λi s₂ h₂=>?_) λ_ _ x=>x) λ_ _ x=>x)
 obtain⟨hT,h₂⟩:=h₂
 unfold subscriptTail
 refine la ?_
 rw[getitemInPython_of_ne hT.not_modules]
 refine la (wpAny_specialOf hT hl ?_)
 have fin:wpAny (model prog w) A (subscripted slice false o i) (λr s₃=>wpAny (model prog w) A (letTemporaryGo value o r >>= λ_=>pure r) Q E s₃) E s₂:=by
  rw[hs o i]
  exact wpAny_operating (laT h₂ (λr s₃ h₃=>la (wpAny_letTemporaryGo (lq h₃))) λ_ _ x=>x)
 first
  | exact lq (la fin)
  | exact la (lq (la fin))
  | exact la fin
theorem zhi {X:Cx}{σ:St}{a:Addr}(I:Inv X pins σ H s)(g:DGet H a y o):s.TypeIs (.ref a) "dict" := by
 rcases g with⟨kvs,k,e,_,_⟩|⟨kvs,k,b,e,_,_,_⟩
 ·obtain⟨_,_,vs,_,dd⟩:=zoL I.hok e
  exact dd.typeIs
 ·obtain⟨_,_,xs,_,dd⟩:=znm I.hok e
  exact dd.typeIs
def zrk (td ty:TE):TE:=λσ H Q=>td σ H λx H1=>ty σ H1 λy H2=>∃a v,x=.ref a/\DGet H2 a y (some v)/\Q v H2
def zrV (td ty tv:TE):TS:=λD σ H=>tv σ H λv H1=>td σ H1 λx H2=>ty σ H2 λy H3=>∃a H4,x=.ref a/\DPut H3 a y v H4/\D.nx σ H4
section
variable {X:Cx}{o i e value:Expr}{pos pos' tpos:Pos}{td ty tv:TE}
theorem znO (hu:X.A.units+1<cLine)(ho:PE X o td)(hi:PE X i ty)(hs:zre i):PE X (.Subscript o i pos) (zrk td ty):=by
 intro pins s σ H Q I h
 refine zoH PySem.F.slot_dict_getitem.lookup hs (thn (ho pins s σ H _ I h) λu s1 ⟨x,H1,I1,rx,q1⟩=>thn (hi pins s1 σ H1 _ I1 q1) λiv s2 zqO=>?_)
 obtain⟨y,H2,I2,ry,a,v,ex,g,q2⟩:=zqO
 subst ex
 obtain rfl:u=Value.ref a:=rx
 exact⟨zhi I2 g,zjm hu I2 g ry λw' s3 I3 rw'=>⟨v,H2,I3,rw',q2⟩⟩
theorem zn2 (hu:X.A.units+1<cLine)(ho:PE X o td)(hi:PE X i ty)(hv:PE X value tv)(hs:swapsWith value (some (.Subscript o i pos')) pos.line X.env=pure false) :
  PS X (.Assign [.Subscript o i pos'] value pos) (zrV td ty tv):=by
 intro pins s σ H D I h
 refine wpAny_Assign_Subscript (thn (hv pins s σ H _ I h) λr s1 ⟨v,H1,I1,rv,q1⟩=>thn (ho pins s1 σ H1 _ I1 q1) λu s2 ⟨x,H2,I2,rx,q2⟩=>thn (hi pins s2 σ H2 _ I2 q2) λiv s3 ⟨y,H3,I3,ry,a,H4,ex,g,q3⟩=>?_) hs
 subst ex
 obtain rfl:u=Value.ref a:=rx
 exact zkU hu I3 g ry rv λs4 I4=>⟨σ,H4,I4,q3⟩
end
theorem zlq (h:Heap)(hb:sysModules<h.objs.size):ObjOk P w H (h.push {cls:=.type "dict", data:=.dict #[]}) h.objs.size (.dK []) :=
 ⟨lbm _,lcD.mpr (lbF (lR hb)),[],.nil,Heap.DictOf.new h⟩
def zpd:TE:=λ_ H Q=>∀p,H p=none->Q (.ref p) (upd H p (.dK []))
section
variable {X:Cx}{pos:Pos}
theorem zlS:PE X (.Dict [] [] pos) zpd:=λpins s σ H Q I h =>
 wpAny_Dict_empty ⟨.ref s.heap.objs.size,_,I.laid (a:=s.heap.objs.size) (o:=.dK []) (t':=s.toks) (λ_ _ q=>lg _ q) (lu _) (zlq s.heap I.big),rfl,h _ (I.hok.fresh (lu _))⟩
end
def zf3 (kvs more:List (Key×V)):List (Key×V):=more.foldl (λacc kv=>putK acc kv.1 kv.2) kvs
theorem KV.merge:∀{more:List (Key×V)}{rs:List (Key×Value)}{kvs:List (Key×V)}{vs:List (Key×Value)},KV more rs->KV kvs vs->KV (zf3 kvs more) (merged vs rs):=by
 intro more rs kvs vs r
 unfold KV at r
 induction r generalizing kvs vs with
 | nil=>intro q;exact q
 | @cons p q ps qs h t ih =>
  intro r0
  have e:KV (putK kvs p.1 p.2) (stored vs q.1 q.2):=by
   have:=r0.put p.1 h.2
   rw[← h.1];exact this
  exact ih e
theorem zaY:∀(more kvs:List (Key×V)),(zf3 kvs more).length<=kvs.length+more.length
 | [],kvs=>by show kvs.length<=kvs.length+0;omega
 | p::r,kvs=>by
  have h1:=zaY r (putK kvs p.1 p.2)
  have h2:=kY kvs p.1 p.2
  show(zf3 (putK kvs p.1 p.2) r).length<=_
  rw[lM];omega
end L2
namespace Att
open PySem PySem.W PySem.Calls PyProof.Rows
theorem zdf {P:Params}{h:Heap}:∀(ns:List Int) (vs:List Value),WellAll P h vs (ns.map WData.int)->IntsAre vs ns:=by
 intro ns
 induction ns with
 | nil =>
  intro vs w
  rw[laL] at w
  cases w
  exact .nil
 | cons n ns ih =>
  intro vs w
  rw[lr] at w
  cases w with
  | cons a b =>
   cases a
   exact .cons _ _ (ih _ b)
theorem zjA {l:OpenLaw}{n:Nat}(hn:l.most=some n){P:Params}{h:Heap}{args:List WData}{vals:List Value}
  (hpre:l.row.toRowW.claim.pre args=true) (hwl:WellAll P h vals args) :
  ∃a vs ns,vals=[Value.ref a]/\args=[WData.list (ns.map WData.int)]/\h.get? a=some {cls:=.type "list", data:=.seq vs.toArray}/\IntsAre vs ns/\ns.length<=n:=by
 have hsh:WShape.hasAll [] args [.list .int]=true:=(pre_splitW hpre).1
 have hc:l.pre.holds [] {args:=args}=true:=(pre_splitW hpre).2
 obtain⟨d,r,rfl,h1,h2⟩:=hasAllW_cons hsh
 obtain rfl:=hasAllW_nil h2
 obtain⟨xs,rfl,h3⟩:=hasW_list h1
 obtain⟨ns,rfl⟩:=items_int h3
 have hlen:ns.length<=n:=by
  unfold OpenLaw.pre at hc
  have h4:(WTm.not (.lt (.lit (.int (n:Int))) (.len (.arg 0)))).holds [] {args:=[.list (ns.map .int)]}=true:=by
   have h4:=(holds_andW hc).1
   rw[hn] at h4
   exact h4
  have h5:=condW_of h4 (w_not (w_lt w_lit (w_len_list (w_arg rfl))))
  rw[lD] at h5
  refine Nat.le_of_not_lt λq=>?_
  have q':(n:Int)<((ns.length:Nat):Int):=by omega
  first
   | (rw[lP q'] at h5;exact absurd h5 (by decide))
   | (simp at h5;omega)
 cases hwl with
 | cons w1 w2 =>
  cases w2
  cases w1 with
  | list ho hall=>exact⟨_,_,ns,rfl,rfl,ho,zdf ns _ hall,hlen⟩
theorem zkR (l:OpenLaw)(args:List WData):l.row.toRowW.claim.post args (.bool true) args=true :=
 postW_of (r:=l.row.toRowW) (X:=(true == true))
  (show WShape.has [] (.bool true) .bool=true by first|rfl|decide|simp[WShape.has,WShape.arms,WShape.armsAll])
  (show(WTm.eq .res (.lit (.bool true))).value [] {args:=args,res:=some (.bool true),after:=args}=some (.bool (true == true)) from w_eq_bool (w_res rfl) w_lit) rfl
theorem attach_call {l:OpenLaw}{n:Nat}{q:Program}{loose:List Str}{XP:(qQ3)->Heap->Prop}{YP:World->Heap->Prop}{d:DefRec}
  (hn:l.most=some n) (hdf:d.params.defaults=[])
  (call:∀(w:World) (s₀ s₁:Shared) (mg mb:qQ3) (fa:Addr) (o:Obj) (pm cd doc:Value) (a:Addr) (vs:List Value) (ns:List Int),
   Ground q loose [] XP w s₀ mg mb s₁.heap->YP w s₁.heap ->
   s₁.heap.get? fa=some o->o.data=.func (docDef d.name d.params d.body d.scope pm cd doc)->s₁.heap.CodeRec cd d.name->mg d.name=some (.ref fa) ->
   s₁.heap.get? a=some {cls:=.type "list", data:=.seq vs.toArray}->IntsAre vs ns->ns.length<=n->s₁.gens = #[] ->
   codeAny (model l.prog w) callerA (.call (.ref fa) ⟨[.ref a],[]⟩) (λr s'=>r=.ok (.ret (.bool true))/\OldK s₁.heap s'.heap/\s'.os=s₁.os/\AllBare s'.gens) s₁) :
  WalkO q loose XP YP l.row.toRowW d [] (λf vs=>PySem.call f vs):=by
 intro w s₀ s₁ mg mb G Y fa o pm cd doc dV kV ho hd hcd hD hmg hg args vals as hpre hlay hrd hwl hlo
 obtain rfl:dV=.none:=Dflts.none hD hdf
 obtain rfl:kV=.none:=Dflts.noKw hD
 obtain⟨a,vs,ns,rfl,rfl,hobj,hints,hlen⟩:=zjA hn hpre hwl
 refine enter_call (lde (call w s₀ s₁ mg mb fa o pm cd doc a vs ns G Y ho (fd_plain hd) hcd hmg hobj hints hlen hg) λr s' hq=>?_)
 obtain⟨rfl,h2,h3,h4⟩:=hq
 exact⟨.inl ⟨.bool true,.bool true,[],rfl,λ_=>rfl,.bool true,zkR l _,λ_=>⟨List.Pairwise.nil,λ_ hm=>(nomatch hm)⟩⟩,h2,h3,h4⟩
end Att
namespace L2
open PySem PySem.Spec PyProof.Rows
variable {fd:FuncData}{x qual:Str}{st:Stmt}{f:Addr}{ps:List Str}
theorem zfq:∀{vs:List Value}{ns:List Int},IntsAre vs ns->Vals (ns.map V.int) vs
 | _,_,.nil=>.nil
 | _,_,.cons n t h=>.cons ⟨t,rfl⟩ (zfq h)
def Only (H:Hp):Prop:=∀b,H b=none∨∃o xs,H b=some (.frz o (.lst xs))
theorem zmu {P:Program}{w:World}{K:qQ0}{mg mb:qQ3}{CX:CXT}{k:Nat}{fa a:Addr}{sp:Sp}{s₁:Shared}{vs:List Value}{ns:List Int}
  (KX:K.In s₁.heap) (hns:s₁.heap.Ns mainGlobals mg) (hb:s₁.heap.Ns builtinsNs mb) (hbb:∀x:Str,x ≠ "__name__" -> mb x=bootBuiltins x) (hlim:s₁.heap.NoLimit) (hg:s₁.gens = #[])
  (ha:s₁.heap.get? a=some {cls:=.type "list", data:=.seq vs.toArray}) (hi:IntsAre vs ns) (hl:ns.length<=sizeLine) (hr:Room k callerA)
  (F:∀base:Heap,K.In base->base.Ns mainGlobals mg->FnOk P w K mg base CX k fa fd [x] sp) (hbind:∀(s:Shared) (u:Value),BindsTo s fd ⟨[u],[]⟩ [(x,u)])
  (hsp:∀H:Hp,Only H->SqL K H a (ns.map V.int)->sp [.ref a] H (λv _=>v=.bl true) λ_ _ _=>False)
  (hCX:∀H e s',CX [] H s₁ (λ_ _ _=>False) e s'->False) :
  codeAny (model P w) callerA (.call (.ref fa) ⟨[.ref a],[]⟩) (λr s'=>r=.ok (.ret (.bool true))/\OldK s₁.heap s'.heap/\s'.os=s₁.os/\AllBare s'.gens) s₁:=by
 have rv:=zfq hi
 have lenV:=hi.length
 have core:∀H:Hp,Only H->SqL K H a (ns.map V.int)->HOk P w H s₁.heap->(∀b,H b≠none->b=a)->(H a≠none->K.lookup a=none) ->
   codeAny (model P w) callerA (.call (.ref fa) ⟨[.ref a],[]⟩) (λr s'=>r=.ok (.ret (.bool true))/\OldK s₁.heap s'.heap/\s'.os=s₁.os/\AllBare s'.gens) s₁:=by
  intro H hO hS hok hA hK
  have base_of:∀{b:Addr}{o:Obj},s₁.heap.get? b=some o->H b=none->(zl8 s₁.heap H).get? b=some o:=λe n=>zmv e n
  have noA:∀{b:Addr}{o:Obj}{es:Array DictEntry}{ep:Nat},s₁.heap.get? b=some o->o.data=.dict es ep->H b=none:=λ{b o es ep} e d=>by
   cases q:H b with
   | none=>rfl
   | some u =>
    have e':b=a:=hA b (by rw[q];simp)
    subst e'
    rw[ha] at e;cases e
    have d':Data.seq vs.toArray _=Data.dict es ep:=d
    cases d'
  have nsK:∀{b:Addr}{m:qQ3},s₁.heap.Ns b m->(zl8 s₁.heap H).Ns b m:=λ{b m} ⟨o,es,ep,e,d,r⟩=>⟨o,es,ep,base_of e (noA e d),d,r⟩
  have hKb:K.In (zl8 s₁.heap H):=λb o e=>base_of (KX b o e) (by
   cases q:H b with
   | none=>rfl
   | some u =>
    have e':b=a:=hA b (by rw[q];simp)
    subst e'
    rw[hK (by rw[q];simp)] at e;cases e)
  have hM:Mod K mg (zl8 s₁.heap H):=⟨hKb,nsK hns,⟨mb,nsK hb,hbb⟩,let ⟨mc,h1,h2⟩:=hlim;⟨mc,nsK h1,h2⟩⟩
  have e0:Env0 P w K mg (zl8 s₁.heap H) callerA [] s₁ H:=⟨rfl,hM,λb o e=>zok e,Nat.le_of_eq (zjt _ _),trivial,λb hb=>absurd (show b∈([]:List Addr) from hb) (by simp),hok,.of_eq hg⟩
  refine lde ((F _ hKb (nsK hns)).run callerA [] s₁ H ⟨[.ref a],[]⟩ [.ref a] [.ref a] _ _ hr e0 (hbind s₁ (.ref a)) (.cons rfl .nil) (hsp H hO hS)) λr s' h=>?_
  cases r with
  | error e=>exact(hCX H e s' h).elim
  | ok fl =>
   cases fl with
   | next=>exact False.elim h
   | brk=>exact False.elim h
   | cont=>exact False.elim h
   | ret u =>
    obtain⟨v,H',os,bare,un,hok',r',q⟩:=h
    have q':v=.bl true:=q
    subst q'
    obtain rfl:u=Value.bool true:=r'
    refine⟨rfl,OldK.of_keep λb o e=>?_,os,bare⟩
    cases q:H b with
    | none=>exact un.keep b o e q (by intro z;exact absurd (show b∈([]:List Addr) from z) (by simp)) (by simp)
    | some u =>
     rcases hO b with z|⟨ob,xs,z⟩
     ·rw[q] at z;cases z
     ·have z2:=un.frzs b ob _ z
      obtain⟨e1,_⟩:=hok b _ z
      obtain⟨e2,_⟩:=hok' b _ z2
      rw[e] at e1;cases e1
      exact e2
 cases hk:K.lookup a with
 | some o =>
  have e:=KX a o hk
  rw[ha] at e
  cases e
  refine core (λ_=>none) (λ_=>.inl rfl) (.inr ⟨_,vs.toArray,_,hk,rfl,rfl,rfl,by rw[lI,lenV];exact hl,by simpa using rv⟩) (λb u z=>by have z':(none:Option HO)=some u:=z;cases z') (λb z=>absurd rfl z) λz=>absurd rfl z
 | none =>
  refine core (λb=>if b=a then some (.frz {cls:=.type "list", data:=.seq vs.toArray} (.lst (ns.map V.int))) else none) (λb=>?_) (.inl (.inr ⟨{cls:=.type "list", data:=.seq vs.toArray},lO rfl⟩)) (λb u z=>?_) (λb z=>?_) λ_=>hk
  ·by_cases hb:b=a
   ·exact .inr ⟨_,_,lO hb⟩
   ·exact .inl (lY hb)
  ·by_cases hb:b=a
   ·have z':=(lO hb).symm.trans z
    cases z'
    subst hb
    exact⟨ha,by rw[lD];exact hl,vs,_,rv,ha⟩
   ·have z':=(lY hb).symm.trans z
    cases z'
  ·by_cases hb:b=a
   ·exact hb
   ·exact absurd (lY hb) z
theorem walk_of {l:PySem.W.OpenLaw}{n k:Nat}{q:Program}{loose:List Str}{XP:(qQ3)->Heap->Prop}{YP:World->Heap->Prop}{d:DefRec}{K:Params->qQ0}{CX:World->CXT}{sp:World->Sp}
  (hn:l.most=some n) (hn2:n<=sizeLine) (hdf:d.params.defaults=[]) (hr:Room k callerA)
  (hY:∀(w:World) (h:Heap),YP w h->(K w.params).In h)
  (F : ∀(w:World) (mg:qQ3) (fa:Addr) (h:Heap),(K w.params).In h->h.Ns mainGlobals mg->mg d.name=some (.ref fa) ->
   ∃ fd:FuncData,(∀(s:Shared) (u:Value),BindsTo s fd ⟨[u],[]⟩ [(x,u)]) /\
    ∀base:Heap,(K w.params).In base->base.Ns mainGlobals mg->FnOk l.prog w (K w.params) mg base (CX w) k fa fd [x] (sp w))
  (hsp:∀(w:World) (H:Hp) (a:Addr) (ns:List Int),ns.length<=n->Only H->SqL (K w.params) H a (ns.map V.int)->sp w [.ref a] H (λv _=>v=.bl true) λ_ _ _=>False)
  (hCX:∀(w:World) (H:Hp) (s:Shared) (e:Value) (s':Shared),CX w [] H s (λ_ _ _=>False) e s'->False) :
  PySem.W.WalkO q loose XP YP l.row.toRowW d [] (λf vs=>PySem.call f vs):=by
 refine Att.attach_call hn hdf λw s₀ s₁ mg mb fa o pm cd doc a vs ns G Y ho hd hcd hmg hobj hints hlen hg=>?_
 have KX:=hY w _ Y
 obtain⟨fd,hb,hF⟩:=F w mg fa _ KX G.T.g hmg
 exact zmu KX G.T.g G.T.b G.T.builtins G.T.nolimit hg hobj hints (laC hlen hn2) hr hF hb (λH hO hS=>hsp w H a ns hlen hO hS) λH e s'=>hCX w H s₁ e s'
def zaJ (s:Stmt):Arguments:=match s with
 | .FunctionDef _ a _ _ _ _ _ _ _ _=>a
 | _=>{posonlyargs:=[],args:=[],vararg:=none,kwonlyargs:=[],kw_defaults:=[],kwarg:=none,defaults:=[]}
def wV (s:Stmt):List Stmt:=match s with
 | .FunctionDef _ _ b _ _ _ _ _ _ _=>b
 | _=>[]
def zu (s:Stmt):Scope:=match s with
 | .FunctionDef _ _ _ _ _ _ sc _ _ _=>sc
 | _=>{kind:=.function,names:=[],isGenerator:=false,isCoroutine:=false}
abbrev CX0:CXT:=λ_ _ _ _ _ _=>False
abbrev E0:XK:=λ_ _ _=>False
structure Fun (K:qQ0)(x qual:Str)(st:Stmt)(f:Addr)(fd:FuncData):Prop where
 ex:∃(oc:Value) (od:Option Addr) (kV doc pm:Value) (an:Option Addr) (cdv ct:Value) (osl:Array (Option Value)),
  fd=PySem.W.fnOf x qual (zaJ st) (wV st) (zu st) .none kV doc pm an cdv ct/\K.lookup f=some ⟨oc,od,.func fd,osl⟩/\PySem.W.codeIn K cdv qual=true
 kp:PySem.W.keepIn K (.ref f)=true
section
variable {P:Program}{w:World}{K:qQ0}{mg:qQ3}{base:Heap}
theorem Fun.ok {N:List Str}{k:Nat}{sp:Sp}(F:Fun K x qual st f fd)(S:FnScope N ps (zu st))(len:∀vs H Q E,sp vs H Q E->vs.length=ps.length)
  (hbody:∀(cdv:Value) (A:Around) (outer:List Env) (s:Shared) (H:Hp) (vs:List V) (Q:VK) (E:XK),Room k (A.deeper (envOfC qual (zu st) s.heap.objs.size f cdv))->sp vs H Q E ->
   ∃t,PSs (zaW CX0 P w K mg base N qual (zu st) f cdv A outer s H E).nox (wV st) t/\t {nx:=λ_ H'=>Q .non H',rt:=Q} (start N vs) H):FnOk P w K mg base CX0 (k+1) f fd ps sp:=by
 obtain⟨oc,od,kV,doc,pm,an,cdv,ct,osl,rfl,lk,hcd⟩:=F.ex
 refine zp4 lk hcd S len λA outer s H vs Q E hr hsp=>?_
 obtain⟨t,h,q⟩:=hbody cdv A outer s H vs Q E hr hsp
 exact⟨t,h.nox,q⟩
theorem Fun.binds (F:Fun K x qual st f fd)
  (h:∀(kV doc pm:Value) (an:Option Addr) (cdv ct:Value) (us:List Value),us.length=ps.length->bindArgs (PySem.W.fnOf x qual (zaJ st) (wV st) (zu st) .none kV doc pm an cdv ct) ⟨us,[]⟩=pure (ps.zip us)):Binds K fd ps []:=by
 obtain⟨oc,od,kV,doc,pm,an,cdv,ct,osl,rfl,lk,hcd⟩:=F.ex
 exact .all (h kV doc pm an cdv ct)
theorem zkW {oc:Value}{od an:Option Addr}{osl:Array (Option Value)}{kV doc pm cdv ct:Value}(l:K.lookup f=some ⟨oc,od,.func (PySem.W.fnOf x qual (zaJ st) (wV st) (zu st) .none kV doc pm an cdv ct),osl⟩)
  (c:PySem.W.codeIn K cdv qual=true) (k:PySem.W.keepIn K (.ref f)=true):Fun K x qual st f (PySem.W.fnOf x qual (zaJ st) (wV st) (zu st) .none kV doc pm an cdv ct):=⟨⟨oc,od,kV,doc,pm,an,cdv,ct,osl,rfl,l,c⟩,k⟩
end
theorem ze1 {A:Around}{k:Nat}(hr:Room k A):A.units+1<cLine:=Nat.lt_of_le_of_lt (Nat.add_le_add_left (by decide:1<=64) _) hr.units
section
variable {X:Cx}
theorem pv (i:Nat){pos:Pos}(hN:X.N[i]? = some x:=by rfl)(hv:Vis X.env.scope x:=by first|exact Or.inl rfl|exact Or.inr (Or.inl rfl)|exact Or.inr (Or.inr rfl))(hd:(x == ("__debug__" : Str))=false:=by decide)
  (hcd:(x == ("__classdict__" : Str))=false:=by decide):PE X (.Name x pos) (zj5 i):=zqL hN hv hd hcd
end
def Same (H H':Hp):Prop:=∀b o,H b=some o->H' b=some o
theorem Same.refl (H:Hp):Same H H:=λ_ _ h=>h
theorem Same.trans {H H1 H2:Hp}(a:Same H H1)(b:Same H1 H2):Same H H2:=λc o h=>b c o (a c o h)
theorem Same.free {H H':Hp}(e:Same H H'){l:Addr}(h:H' l=Option.none):H l=Option.none:=by
 cases q:H l with
 | none=>rfl
 | some o =>
  rw[e l o q] at h
  cases h
theorem Same.seq {K:qQ0}{H H':Hp}{a:Addr}{xs:List V}(e:Same H H')(h:SqL K H a xs):SqL K H' a xs:=by
 rcases h with(h|⟨o,h⟩)|h
 ·exact .inl (.inl (e _ _ h))
 ·exact .inl (.inr ⟨o,e _ _ h⟩)
 ·exact .inr h
end L2
namespace My
variable {u d a b c:Int}
def low (u d:Int):Int×Int:=(u / (Int.gcd u d:Int),d / (Int.gcd u d:Int))
def zry (x y:Int×Int):Int×Int:=low (x.1*y.2+y.1*x.2) (x.2*y.2)
def lessF (x y:Int×Int):Bool:=decide (x.1*y.2<y.1*x.2)
theorem zjs (h:0<d):0<(Int.gcd u d:Int):=by
 have:0<Int.gcd u d:=Int.gcd_pos_of_ne_zero_right _ (by omega)
 omega
theorem vU (hd:0<d):∃g:Int,0<g/\u=g*(low u d).1/\d=g*(low u d).2/\0<(low u d).2/\Int.gcd (low u d).1 (low u d).2=1:=by
 have hg:=zjs (u:=u) hd
 refine⟨(Int.gcd u d:Int),hg,?_,?_,?_,?_⟩
 ·exact(Int.mul_ediv_cancel' (Int.gcd_dvd_left ..)).symm
 ·exact(Int.mul_ediv_cancel' (ld1 ..)).symm
 ·exact Int.ediv_pos_of_pos_of_dvd hd (lab hg) (ld1 ..)
 ·have:=Int.gcd_ediv_gcd_ediv_gcd (i:=u) (j:=d) (by omega)
  exact this
theorem zjf (hd:0<d):0<(low u d).2:=by
 obtain⟨g,_,_,_,h,_⟩:=vU (u:=u) hd
 exact h
theorem zdT (hd:0<d)(hu:0<=u):0<=(low u d).1:=by
 obtain⟨g,hg,e,_,_,_⟩:=vU (u:=u) hd
 apply lbV
 intro h
 have:=Int.mul_neg_of_pos_of_neg hg (show(low u d).1<0 by omega)
 omega
theorem zcx (hd:0<d):u*(low u d).2=(low u d).1*d:=by
 obtain⟨g,_,e1,e2,_,_⟩:=vU (u:=u) hd
 have:(g*(low u d).1)*(low u d).2=(low u d).1*(g*(low u d).2):=by grind
 rw[← e1,← e2] at this
 exact this
theorem ziC (hb:0<b)(hd:0<d)(h1:Int.gcd a b=1)(h2:Int.gcd c d=1)(h:a*d=c*b):(a,b)=(c,d):=by
 have hbd:b ∣ d:=by
  have:b ∣ a*d:=⟨c,by rw[h,la2]⟩
  have q:=Int.dvd_gcd_mul_iff_dvd_mul.mpr this
  rw[lep,h1] at q
  simpa using q
 have hdb:d ∣ b:=by
  have:d ∣ c*b:=⟨a,by rw[← h,la2]⟩
  have q:=Int.dvd_gcd_mul_iff_dvd_mul.mpr this
  rw[lep,h2] at q
  simpa using q
 have e:b=d:=Int.dvd_antisymm (lab hb) (lab hd) hbd hdb
 subst e
 have:a=c:=lcv (by omega) h
 rw[this]
theorem zhZ (hb:0<b)(hd:0<d)(h:a*d=c*b):low a b=low c d:=by
 obtain⟨g,hg,e1,e2,p1,k1⟩:=vU (u:=a) hb
 obtain⟨g',hg',e3,e4,p2,k2⟩:=vU (u:=c) hd
 have key:∀x y z w:Int,a=g*x->b=g*y->c=g'*z->d=g'*w->x*w=z*y:=by
  intro x y z w e1 e2 e3 e4
  have hk:g*g'≠0:=by
   intro z0
   rcases Int.mul_eq_zero.mp z0 with q|q <;>omega
  apply Int.eq_of_mul_eq_mul_left hk
  have:g*x*(g'*w)=g'*z*(g*y):=by rw[← e1,← e2,← e3,← e4];exact h
  grind
 exact ziC (a:=(low a b).1) (b:=(low a b).2) (c:=(low c d).1) (d:=(low c d).2) p1 p2 k1 k2 (key _ _ _ _ e1 e2 e3 e4)
theorem zqM (hb:0<b)(hd:0<d)(h:low a b=low c d):a*d=c*b:=by
 have h1:=zcx (u:=a) hb
 have h2:=zcx (u:=c) hd
 have p:=zjf (u:=c) hd
 rw[h] at h1
 apply lcv (show(low c d).2≠0 by omega)
 grind
theorem zls (hd:0<d):low 0 d=(0,1):=by
 have:low 0 d=low 0 1:=zhZ hd (by decide) (by simp)
 rw[this]
 rfl
theorem zjO (hb:0<b)(hd:0<d):lessF (low a b) (low c d)=decide (a*d<c*b):=by
 obtain⟨g,hg,e1,e2,p1,k1⟩:=vU (u:=a) hb
 obtain⟨g',hg',e3,e4,p2,k2⟩:=vU (u:=c) hd
 unfold lessF
 generalize (low a b).1=x at *
 generalize (low a b).2=y at *
 generalize (low c d).1=z at *
 generalize (low c d).2=w at *
 subst e1 e2 e3 e4
 have hk:0<g*g':=ldF hg hg'
 have q1:g*x*(g'*w)=(g*g')*(x*w):=by grind
 have q2:g'*z*(g*y)=(g*g')*(z*y):=by grind
 rw[q1,q2]
 rw[decide_eq_decide]
 constructor
 ·intro h;exact Int.mul_lt_mul_of_pos_left h hk
 ·intro h;exact Int.lt_of_mul_lt_mul_left h (lab hk)
theorem zpt (hd:0<d)(hu:0<=u):(low u d).1<=u/\(low u d).2<=d:=by
 obtain⟨g,hg,e1,e2,p1,k1⟩:=vU (u:=u) hd
 have h0:=zdT hd hu
 constructor
 ·have:1*(low u d).1<=g*(low u d).1:=lbc (by omega) h0
  omega
 ·have:1*(low u d).2<=g*(low u d).2:=lbc (by omega) (by omega)
  omega
end My
namespace Zp
open PySem
section
variable {prog:Program}{w:World}{A:Around}{E:qQ2}{s:Shared}
theorem zbC {it t:Addr}{i:Nat}{items}{x:Value}{Q:qQ2}(hit:s.heap.IsTupleIter it t i)
  (ht:s.heap.IsTuple t items) (hx:items[i]? = some x)
  (hQ:∀h',h'.IsTupleIter it t (i+1)->Heap.SameBut it s.heap h'->Q x {s with heap:=h'}) :
  wpAny (model prog w) A (Builtin.SmallTypes.nextOf (.ref it)) Q E s:=by
 obtain⟨o,ho,hc,hd⟩:=id hit
 obtain⟨ol,hol,_,nl,hdl⟩:=ht
 unfold Builtin.SmallTypes.nextOf
 refine la (lT (name:=Str.ofString "__next__") hit.typeIs lbP
  (lZ lbP hit.typeIs F.entry_tuple_iterator_next ?_ (F.args_tuple_iterator_next_1 _)))
 show wpAny _ _ (field (.ref it) 0 >>= _) _ _ s
 refine la (laf ho hd (x:=.ref t) rfl ?_)
 show wpAny _ _ (if (Value.ref t == Value.none)=true then _ else _) _ _ s
 rw[lY (show ¬((Value.ref t == Value.none)=true) from lE)]
 show wpAny _ _ (field (.ref it) 1 >>= _) _ _ s
 refine la (laf ho hd (x:=.int i 0) rfl ?_)
 show wpAny _ _ (seqItems? (.ref t) >>= _) _ _ s
 refine la (la8 hol hdl ?_)
 simp only[laE,hx]
 refine la (lbW ho hd (by simp) (lq ⟨x,rfl,lq (hQ _ ?_ (lbg ..))⟩))
 exact ⟨_,lco _ ho (lcp (lbn hd _)),(lc5 ..).trans hc,by
  rw[lbn hd];simp[rawInt]⟩
theorem zca {it t:Addr}{i:Nat}{items}{Q:qQ2}(hh:A.handled=none)
  (hit:s.heap.IsTupleIter it t i) (ht:s.heap.IsTuple t items) (hx:items[i]? = none)
  (hE:∀h' e,Heap.ExtBut it s.heap h'->(∃o,h'.get? e=some o/\o.cls=.type "StopIteration")->E (.ref e) {s with heap:=h'}) :
  wpAny (model prog w) A (Builtin.SmallTypes.nextOf (.ref it)) Q E s:=by
 obtain⟨o,ho,hc,hd⟩:=id hit
 obtain⟨ol,hol,_,nl,hdl⟩:=ht
 unfold Builtin.SmallTypes.nextOf
 refine la (lT (name:=Str.ofString "__next__") hit.typeIs lbP
  (lZ lbP hit.typeIs F.entry_tuple_iterator_next ?_ (F.args_tuple_iterator_next_1 _)))
 show wpAny _ _ (field (.ref it) 0 >>= _) _ _ s
 refine la (laf ho hd (x:=.ref t) rfl ?_)
 show wpAny _ _ (if (Value.ref t == Value.none)=true then _ else _) _ _ s
 rw[lY (show ¬((Value.ref t == Value.none)=true) from lE)]
 show wpAny _ _ (field (.ref it) 1 >>= _) _ _ s
 refine la (laf ho hd (x:=.int i 0) rfl ?_)
 show wpAny _ _ (seqItems? (.ref t) >>= _) _ _ s
 refine la (la8 hol hdl ?_)
 simp only[laE,hx]
 refine la (lcF (la (lbW ho hd (by simp) ?_)))
 show wpAny _ _ (newExc (.type "StopIteration") [] >>= _) _ _ _
 refine la ?_
 simp only[newExc,newTuple]
 refine la (laz ?_ (by size_fits))
 refine la (m:=firstArgMember _ _) (wpAny_of_eq (a:=Value.none) (by first|rfl|(simp only[firstArgMember];rfl)) ?_)
 refine laz ?_ (by size_fits)
 simp only[raiseNew]
 refine la (ld7 ?_)
 first|rw[show A.in1.handled=none from hh] | rw[hh]
 refine la (lq (wpAny_throw ?_))
 exact hE _ _ (((lbg ..).extBut.push _).push _) ⟨_,lC _ rfl,rfl⟩
theorem zbs {it:Addr}{x:Str}{t:Tok}{i c:Nat}{Q:qQ2}(hit:s.heap.IsStrIter it "str_ascii_iterator" x t i)(hx:x.cps[i]? = some c)
  (hQ:∀h',h'.IsStrIter it "str_ascii_iterator" x t (i+1)->Heap.SameBut it s.heap h'->Q (.str ⟨#[c]⟩ s.toks) {s with heap:=h',toks:=s.toks+1}) :
  wpAny (model prog w) A (Builtin.SmallTypes.nextOf (.ref it)) Q E s:=by
 obtain⟨o,ho,hc,hd⟩:=id hit
 unfold Builtin.SmallTypes.nextOf
 refine la (lT (name:=Str.ofString "__next__") hit.typeIs lbz
  (lZ lbz hit.typeIs F.entry_str_ascii_iterator_next ?_ (F.args_str_ascii_iterator_next_1 _)))
 show wpAny _ _ (field (.ref it) 0 >>= _) _ _ s
 refine la (laf ho hd (x:=.str x t) rfl ?_)
 show wpAny _ _ (field (.ref it) 1 >>= _) _ _ s
 refine la (laf ho hd (x:=.int i 0) rfl ?_)
 simp only[laE,hx]
 refine la (lbW ho hd (by simp) (la (wpAny_mkStr (lq ⟨_,rfl,lq (hQ _ ?_ (lbg ..))⟩) (by show 1<=sizeLine;decide))))
 exact ⟨_,lco _ ho (lcp (lbn hd _)),(lc5 ..).trans hc,by
  rw[lbn hd];simp[rawInt]⟩
theorem zb9 {it:Addr}{x:Str}{t:Tok}{i:Nat}{Q:qQ2}(hh:A.handled=none)
  (hit:s.heap.IsStrIter it "str_ascii_iterator" x t i) (hx:x.cps[i]? = none)
  (hE:∀h' e,Heap.ExtBut it s.heap h'->(∃o,h'.get? e=some o/\o.cls=.type "StopIteration")->E (.ref e) {s with heap:=h'}) :
  wpAny (model prog w) A (Builtin.SmallTypes.nextOf (.ref it)) Q E s:=by
 obtain⟨o,ho,hc,hd⟩:=id hit
 unfold Builtin.SmallTypes.nextOf
 refine la (lT (name:=Str.ofString "__next__") hit.typeIs lbz
  (lZ lbz hit.typeIs F.entry_str_ascii_iterator_next ?_ (F.args_str_ascii_iterator_next_1 _)))
 show wpAny _ _ (field (.ref it) 0 >>= _) _ _ s
 refine la (laf ho hd (x:=.str x t) rfl ?_)
 show wpAny _ _ (field (.ref it) 1 >>= _) _ _ s
 refine la (laf ho hd (x:=.int i 0) rfl ?_)
 simp only[laE,hx]
 refine la (lcF (la (lbW ho hd (by simp) (la (wpAny_letGo ?_)))))
 show wpAny _ _ (newExc (.type "StopIteration") [] >>= _) _ _ _
 refine la ?_
 simp only[newExc,newTuple]
 refine la (laz ?_ (by size_fits))
 refine la (m:=firstArgMember _ _) (wpAny_of_eq (a:=Value.none) (by first|rfl|(simp only[firstArgMember];rfl)) ?_)
 refine laz ?_ (by size_fits)
 simp only[raiseNew]
 refine la (ld7 ?_)
 first|rw[show A.in1.handled=none from hh] | rw[hh]
 refine la (lq (wpAny_throw ?_))
 exact hE _ _ (((lbg ..).extBut.push _).push _) ⟨_,lC _ rfl,rfl⟩
end
variable {z i1 i2:Addr}{P1 P2:Value->Prop}{G1 G2 S1:Heap->Prop}{Q:qQ2}
abbrev IsZipF (h:Heap)(z TI TO:Addr)(f0 f1:Value):Prop :=
 h.get? z=some {cls:=.type "zip", dict:=none,data:=.fields #[f0,f1,.bool false,.ref TI,.ref TO],slots:=#[]}
structure Apart (z TI TO i1 i2:Addr):Prop where
 TIz:TI≠z
 TOz:TO≠z
 i1z:i1≠z
 i2z:i2≠z
 TITO:TI≠TO
 TIi1:TI≠i1
 TIi2:TI≠i2
 TOi1:TO≠i1
 TOi2:TO≠i2
 i12:i1≠i2
def Yields (prog:Program)(w:World)(A:Around)(it:Addr)(G:Heap->Prop)(P:Value->Prop)(S:Heap->Prop):Prop :=
 ∀ (s:Shared) (Q:qQ2) (E:qQ2),G s.heap->(∀x h' tk,P x->S h'->Heap.SameBut it s.heap h'->Q x {s with heap:=h',toks:=tk}) ->
  wpAny (model prog w) A (Builtin.SmallTypes.nextOf (.ref it)) Q E s
def Ends (prog:Program)(w:World)(A:Around)(it:Addr)(G:Heap->Prop):Prop :=
 ∀ (s:Shared) (Q:qQ2) (E:qQ2),G s.heap->(∀h' e,Heap.ExtBut it s.heap h'->(∃o,h'.get? e=some o/\o.cls=.type "StopIteration")->E (.ref e) {s with heap:=h'}) ->
  wpAny (model prog w) A (Builtin.SmallTypes.nextOf (.ref it)) Q E s
section
variable {prog:Program}{w:World}{A:Around}{E:qQ2}{s:Shared}
theorem next_item {TI TO:Addr}{a b f1:Value}{S2:Heap->Prop}(D:Apart z TI TO i1 i2)
  (hz:IsZipF s.heap z TI TO .none f1) (hTI:IsPair s.heap TI (.ref i1) (.ref i2)) (hTO:IsPair s.heap TO a b)
  (Y1:Yields prog w A i1 G1 P1 S1) (Y2:Yields prog w A i2 G2 P2 S2)
  (g1:∀h',(∀c o,c≠z->s.heap.get? c=some o->h'.get? c=some o)->G1 h') (g2:∀h',(∀c o,c≠z->c≠TO->c≠i1->s.heap.get? c=some o->h'.get? c=some o)->G2 h')
  (k1:∀h h',S1 h->(∀c o,c≠z->c≠TO->c≠i2->h.get? c=some o->h'.get? c=some o)->S1 h')
  (k2:∀h h',S2 h->(∀c o,c≠z->c≠TO->h.get? c=some o->h'.get? c=some o)->S2 h')
  (hQ:∀x y h' tk,P1 x->P2 y->IsZipF h' z TI TO (rawInt s.heap.objs.size) (.bool false)->IsPair h' TO x y->S1 h'->S2 h'->IsPair h' s.heap.objs.size x y->h'.objs.size=s.heap.objs.size+1 ->
   (∀c o,c≠z->c≠TO->c≠i1->c≠i2->s.heap.get? c=some o->h'.get? c=some o)->Q (.ref s.heap.objs.size) {s with heap:=h',toks:=tk}) :
  wpAny (model prog w) A (Builtin.«zip.__next__» ⟨[.ref z],[]⟩) (λfin s'=>∃v,fin=.done (.ret v)/\Q v s') E s:=by
 show wpAny _ _ (field (.ref z) 2 >>= _) _ _ _
 refine la (laf hz rfl (x:=.bool false) rfl ?_)
 show wpAny _ _ (field (.ref z) 3 >>= _) _ _ _
 refine la (laf hz rfl (x:=.ref TI) rfl ?_)
 refine la (la8 hTI rfl ?_)
 show wpAny _ _ (Builtin.SmallTypes.ownedTupleIsFree (.ref z) >>= _) _ _ _
 refine la ?_
 unfold Builtin.SmallTypes.ownedTupleIsFree
 refine la (laf hz rfl (x:=.none) rfl (lq ?_))
 simp only[lby]
 refine la (lcF ?_)
 refine la (laf hz rfl (x:=.ref TO) rfl ?_)
 refine la (lbo hz (by simp) λh₁ hz₁ hs₁=>?_)
 replace hz₁:IsZipF h₁ z TI TO .ellipsis f1:=hz₁
 refine la ?_
 simp only[List.zipIdx_cons,List.zipIdx_nil,lb1,lce]
 refine la (la (ld8 ?_))
 show wpAny _ _ (Builtin.SmallTypes.nextOf (.ref i1) >>= _) _ _ _
 refine la (Y1 _ _ _ (g1 _ λc o hc e=>hs₁.extBut _ _ hc e) λx h₂ tk₂ px st1 hs₂=>lq ?_)
 have hTO₂:IsPair h₂ TO a b:=hs₂.extBut _ _ D.TOi1 (hs₁.extBut _ _ D.TOz hTO)
 refine la (la8 hTO₂ rfl ?_)
 refine la (lds hTO₂ λh₃ hTO₃ hs₃=>?_)
 replace hTO₃:IsPair h₃ TO x b:=hTO₃
 refine la (wpAny_letGo (lq ?_))
 refine la (la (ld8 ?_))
 show wpAny _ _ (Builtin.SmallTypes.nextOf (.ref i2) >>= _) _ _ _
 refine la (Y2 _ _ _ (g2 _ λc o c1 c2 c3 e=>hs₃.extBut _ _ c2 (hs₂.extBut _ _ c3 (hs₁.extBut _ _ c1 e))) λy h₄ tk₄ py st2 hs₄=>lq ?_)
 have hTO₄:IsPair h₄ TO x b:=hs₄.extBut _ _ D.TOi2 hTO₃
 refine la (la8 hTO₄ rfl ?_)
 refine la (lds hTO₄ λh₅ hTO₅ hs₅=>?_)
 replace hTO₅:IsPair h₅ TO x y:=hTO₅
 refine la (wpAny_letGo (lq (lq ?_)))
 refine la (la8 hTO₅ rfl ?_)
 refine la (ldY ?_)
 have hsz:h₅.objs.size=s.heap.objs.size:=by rw[hs₅.1,hs₄.1,hs₃.1,hs₂.1,hs₁.1]
 have hz₅:IsZipF h₅ z TI TO .ellipsis f1:=hs₅.extBut _ _ D.TOz.symm (hs₄.extBut _ _ D.i2z.symm (hs₃.extBut _ _ D.TOz.symm (hs₂.extBut _ _ D.i1z.symm hz₁)))
 have hk₅:∀c o,c≠z->c≠TO->c≠i1->c≠i2->s.heap.get? c=some o->h₅.get? c=some o:=λc o c1 c2 c3 c4 e =>
  hs₅.extBut _ _ c2 (hs₄.extBut _ _ c4 (hs₃.extBut _ _ c2 (hs₂.extBut _ _ c3 (hs₁.extBut _ _ c1 e))))
 have hzlt:z<h₅.objs.size:=ly hz₅
 show wpAny _ _ (Builtin.SmallTypes.ownedTupleHandOut (.ref z) (.ref h₅.objs.size) >>= _) _ _ _
 refine la ?_
 unfold Builtin.SmallTypes.ownedTupleHandOut
 have hz₆:IsZipF (h₅.push {cls:=.type "tuple", data:=.seq #[x,y]}) z TI TO .ellipsis f1:=lg _ hz₅
 refine la (lbo hz₆ (by simp) λh₇ hz₇ hs₇=>?_)
 replace hz₇:IsZipF h₇ z TI TO (rawInt h₅.objs.size) f1:=hz₇
 refine lbo hz₇ (by simp) λh₈ hz₈ hs₈=>?_
 replace hz₈:IsZipF h₈ z TI TO (rawInt h₅.objs.size) (.bool false):=hz₈
 have up:∀c o,c≠z->h₅.get? c=some o->h₈.get? c=some o:=λc o c1 e=>hs₈.extBut _ _ c1 (hs₇.extBut _ _ c1 (lg _ e))
 have hT₈:IsPair h₈ h₅.objs.size x y:=hs₈.extBut _ _ (la1 hzlt) (hs₇.extBut _ _ (la1 hzlt) (lC _ rfl))
 have hz8:h₈.objs.size=h₅.objs.size+1:=by rw[hs₈.1,hs₇.1,las]
 have q1:S1 h₈:=k1 h₂ h₈ st1 λc o c1 c2 c4 e=>up c o c1 (hs₅.extBut _ _ c2 (hs₄.extBut _ _ c4 (hs₃.extBut _ _ c2 e)))
 have q2:S2 h₈:=k2 h₄ h₈ st2 λc o c1 c2 e=>up c o c1 (hs₅.extBut _ _ c2 e)
 rw[hsz] at hz₈ hT₈ hz8
 refine lq ⟨_,rfl,?_⟩
 show Q (.ref h₅.objs.size) _
 rw[hsz]
 exact hQ x y h₈ _ px py hz₈ (up _ _ D.TOz hTO₅) q1 q2 hT₈ hz8 λc o c1 c2 c3 c4 e=>up c o c1 (hk₅ c o c1 c2 c3 c4 e)
theorem next_end {TI TO:Addr}{a b f1:Value}{Q:Fin->Shared->Prop}(D:Apart z TI TO i1 i2)
  (hz:IsZipF s.heap z TI TO .none f1) (hTI:IsPair s.heap TI (.ref i1) (.ref i2)) (hTO:IsPair s.heap TO a b)
  (hend:Ends prog w A i1 G1∨(Yields prog w A i1 G1 P1 S1/\Ends prog w A i2 G2))
  (g1:∀h',(∀c o,c≠z->s.heap.get? c=some o->h'.get? c=some o)->G1 h') (g2:∀h',(∀c o,c≠z->c≠TO->c≠i1->s.heap.get? c=some o->h'.get? c=some o)->G2 h')
  (hE:∀h' tk e,(∀c o,c≠z->c≠TO->c≠i1->c≠i2->s.heap.get? c=some o->h'.get? c=some o)->(∃o,h'.get? e=some o/\o.cls=.type "StopIteration")->E (.ref e) {s with heap:=h',toks:=tk}) :
  wpAny (model prog w) A (Builtin.«zip.__next__» ⟨[.ref z],[]⟩) Q E s:=by
 show wpAny _ _ (field (.ref z) 2 >>= _) _ _ _
 refine la (laf hz rfl (x:=.bool false) rfl ?_)
 show wpAny _ _ (field (.ref z) 3 >>= _) _ _ _
 refine la (laf hz rfl (x:=.ref TI) rfl ?_)
 refine la (la8 hTI rfl ?_)
 show wpAny _ _ (Builtin.SmallTypes.ownedTupleIsFree (.ref z) >>= _) _ _ _
 refine la ?_
 unfold Builtin.SmallTypes.ownedTupleIsFree
 refine la (laf hz rfl (x:=.none) rfl (lq ?_))
 simp only[lby]
 refine la (lcF ?_)
 refine la (laf hz rfl (x:=.ref TO) rfl ?_)
 refine la (lbo hz (by simp) λh₁ hz₁ hs₁=>?_)
 replace hz₁:IsZipF h₁ z TI TO .ellipsis f1:=hz₁
 refine la ?_
 simp only[List.zipIdx_cons,List.zipIdx_nil,lb1,lce]
 refine la (la (ld8 ?_))
 show wpAny _ _ (Builtin.SmallTypes.nextOf (.ref i1) >>= _) _ _ _
 rcases hend with E1|⟨Y1,E2⟩
 ·refine la (E1 _ _ _ (g1 _ λc o hc e=>hs₁.extBut _ _ hc e) λh₂ e hs₂ he=>?_)
  obtain⟨oe,hoe,hce⟩:=he
  have hz₂:IsZipF h₂ z TI TO .ellipsis f1:=hs₂ _ _ D.i1z.symm hz₁
  have hez:e≠z:=λx=>by subst x;rw[hz₂] at hoe;cases hoe;simp at hce
  refine lbo hz₂ (by simp) λh₃ _ hs₃=>hE h₃ _ e (λc o c1 _ c3 _ x=>hs₃.extBut _ _ c1 (hs₂ _ _ c3 (hs₁.extBut _ _ c1 x))) ⟨oe,hs₃.extBut _ _ hez hoe,hce⟩
 ·refine la (Y1 _ _ _ (g1 _ λc o hc e=>hs₁.extBut _ _ hc e) λx h₂ tk₂ px st1 hs₂=>lq ?_)
  have hTO₂:IsPair h₂ TO a b:=hs₂.extBut _ _ D.TOi1 (hs₁.extBut _ _ D.TOz hTO)
  refine la (la8 hTO₂ rfl ?_)
  refine la (lds hTO₂ λh₃ hTO₃ hs₃=>?_)
  refine la (wpAny_letGo (lq ?_))
  refine la (la (ld8 ?_))
  show wpAny _ _ (Builtin.SmallTypes.nextOf (.ref i2) >>= _) _ _ _
  refine la (E2 _ _ _ (g2 _ λc o c1 c2 c3 e=>hs₃.extBut _ _ c2 (hs₂.extBut _ _ c3 (hs₁.extBut _ _ c1 e))) λh₄ e hs₄ he=>?_)
  obtain⟨oe,hoe,hce⟩:=he
  have hz₄:IsZipF h₄ z TI TO .ellipsis f1:=hs₄ _ _ D.i2z.symm (hs₃.extBut _ _ D.TOz.symm (hs₂.extBut _ _ D.i1z.symm hz₁))
  have hez:e≠z:=λx=>by subst x;rw[hz₄] at hoe;cases hoe;simp at hce
  refine lbo hz₄ (by simp) λh₅ _ hs₅=>hE h₅ _ e (λc o c1 c2 c3 c4 x=>hs₅.extBut _ _ c1 (hs₄ _ _ c4 (hs₃.extBut _ _ c2 (hs₂.extBut _ _ c3 (hs₁.extBut _ _ c1 x))))) ⟨oe,hs₅.extBut _ _ hez hoe,hce⟩
end
section
variable {prog:Program}{w:World}{A:Around}{E:qQ2}{s:Shared}
theorem alive {a:Addr}{o:Obj}{Q:Option Obj->Shared->Prop}(ho:s.heap.get? a=some o)(h:Q (some o) s):wpAny (model prog w) A (loadIfAlive a) Q E s:=by
 have h':Q (s.heap.get? a) s:=by rw[ho];exact h
 exact λ_ _ _=>h'
theorem zfS {TI TO T:Addr}{oT:Obj}{fb:Bool}{S2:Heap->Prop}(D:Apart z TI TO i1 i2)
  (hz:IsZipF s.heap z TI TO (rawInt T) (.bool fb)) (hTI:IsPair s.heap TI (.ref i1) (.ref i2)) (hT:s.heap.get? T=some oT)
  (Y1:Yields prog w A i1 G1 P1 S1) (Y2:Yields prog w A i2 G2 P2 S2)
  (g1:∀h',(∀c o,c≠z->s.heap.get? c=some o->h'.get? c=some o)->G1 h') (g2:∀h',(∀c o,c≠z->c≠i1->s.heap.get? c=some o->h'.get? c=some o)->G2 h')
  (k1:∀h h',S1 h->(∀c o,c≠i2->h.get? c=some o->h'.get? c=some o)->S1 h')
  (k2:∀h h',S2 h->(∀c o,h.get? c=some o->h'.get? c=some o)->S2 h')
  (hQ:∀x y h' tk,P1 x->P2 y->IsZipF h' z TI TO (rawInt T) (.bool true)->S1 h'->S2 h'->IsPair h' s.heap.objs.size x y->h'.objs.size=s.heap.objs.size+1 ->
   (∀c o,c≠z->c≠i1->c≠i2->s.heap.get? c=some o->h'.get? c=some o)->Q (.ref s.heap.objs.size) {s with heap:=h',toks:=tk}) :
  wpAny (model prog w) A (Builtin.«zip.__next__» ⟨[.ref z],[]⟩) (λfin s'=>∃v,fin=.done (.ret v)/\Q v s') E s:=by
 show wpAny _ _ (field (.ref z) 2 >>= _) _ _ _
 refine la (laf hz rfl (x:=.bool false) rfl ?_)
 show wpAny _ _ (field (.ref z) 3 >>= _) _ _ _
 refine la (laf hz rfl (x:=.ref TI) rfl ?_)
 refine la (la8 hTI rfl ?_)
 show wpAny _ _ (Builtin.SmallTypes.ownedTupleIsFree (.ref z) >>= _) _ _ _
 refine la ?_
 unfold Builtin.SmallTypes.ownedTupleIsFree
 refine la (laf hz rfl (x:=rawInt T) rfl ?_)
 show wpAny _ _ (loadIfAlive ((T:Int).toNat) >>= _) _ _ _
 rw[laE]
 refine la (alive hT ?_)
 simp only[Option.isNone_some,lQ,la3]
 refine la (laf hz rfl (x:=.bool fb) rfl ?_)
 cases fb with
 | true =>
  rw[lY (show ¬((Value.bool true != Value.bool true)=true) from lE)]
  refine lq ?_
  simp only[lQ,la3]
  have HZ:=hz
  have HS:Heap.SameBut z s.heap s.heap:=Heap.SameBut.refl _ _
  rw[← lcN]
  simp only[lb1,lce]
  refine la (la (la (laR ?_)))
  show wpAny _ _ (Builtin.SmallTypes.nextOf (.ref i1) >>= _) _ _ _
  refine la (Y1 _ _ _ (g1 _ λc o hc e=>HS.extBut _ _ hc e) λx h₂ tk₂ px st1 hs₂=>lq (lq ?_))
  refine la (la (laR ?_))
  show wpAny _ _ (Builtin.SmallTypes.nextOf (.ref i2) >>= _) _ _ _
  refine la (Y2 _ _ _ (g2 _ λc o c1 c3 e=>hs₂.extBut _ _ c3 (HS.extBut _ _ c1 e)) λy h₄ tk₄ py st2 hs₄=>lq (lq (lq ?_)))
  refine la (ldY ?_ (by show 2<=sizeLine;decide))
  have hsz:h₄.objs.size=s.heap.objs.size:=by rw[hs₄.1,hs₂.1,HS.1]
  have hz₄:IsZipF h₄ z TI TO (rawInt T) (.bool true):=hs₄.extBut _ _ D.i2z.symm (hs₂.extBut _ _ D.i1z.symm HZ)
  refine lq ⟨_,rfl,?_⟩
  show Q (.ref h₄.objs.size) _
  rw[hsz]
  have hp:IsPair (h₄.push {cls:=.type "tuple", data:=.seq #[x,y]}) s.heap.objs.size x y:=by rw[← hsz];exact lC _ rfl
  exact hQ x y _ _ px py (lg _ hz₄) (k1 h₂ _ st1 λc o hc e=>lg _ (hs₄.extBut _ _ hc e)) (k2 h₄ _ st2 λc o e=>lg _ e) hp (by rw[las,hsz])
   λc o c1 c3 c4 e=>lg _ (hs₄.extBut _ _ c4 (hs₂.extBut _ _ c3 (HS.extBut _ _ c1 e)))
 | false =>
  rw[lO (show(Value.bool false != Value.bool true)=true from rfl)]
  refine la (lbo hz (by simp) λh₁ hz₁ HS=>?_)
  replace HS:Heap.SameBut z s.heap h₁:=HS
  have HZ:IsZipF h₁ z TI TO (rawInt T) (.bool true):=hz₁
  refine lq ?_
  simp only[lQ,la3]
  rw[← lcN]
  simp only[lb1,lce]
  refine la (la (la (laR ?_)))
  show wpAny _ _ (Builtin.SmallTypes.nextOf (.ref i1) >>= _) _ _ _
  refine la (Y1 _ _ _ (g1 _ λc o hc e=>HS.extBut _ _ hc e) λx h₂ tk₂ px st1 hs₂=>lq (lq ?_))
  refine la (la (laR ?_))
  show wpAny _ _ (Builtin.SmallTypes.nextOf (.ref i2) >>= _) _ _ _
  refine la (Y2 _ _ _ (g2 _ λc o c1 c3 e=>hs₂.extBut _ _ c3 (HS.extBut _ _ c1 e)) λy h₄ tk₄ py st2 hs₄=>lq (lq (lq ?_)))
  refine la (ldY ?_ (by show 2<=sizeLine;decide))
  have hsz:h₄.objs.size=s.heap.objs.size:=by rw[hs₄.1,hs₂.1,HS.1]
  have hz₄:IsZipF h₄ z TI TO (rawInt T) (.bool true):=hs₄.extBut _ _ D.i2z.symm (hs₂.extBut _ _ D.i1z.symm HZ)
  refine lq ⟨_,rfl,?_⟩
  show Q (.ref h₄.objs.size) _
  rw[hsz]
  have hp:IsPair (h₄.push {cls:=.type "tuple", data:=.seq #[x,y]}) s.heap.objs.size x y:=by rw[← hsz];exact lC _ rfl
  exact hQ x y _ _ px py (lg _ hz₄) (k1 h₂ _ st1 λc o hc e=>lg _ (hs₄.extBut _ _ hc e)) (k2 h₄ _ st2 λc o e=>lg _ e) hp (by rw[las,hsz])
   λc o c1 c3 c4 e=>lg _ (hs₄.extBut _ _ c4 (hs₂.extBut _ _ c3 (HS.extBut _ _ c1 e)))
theorem zmg {TI TO T:Addr}{oT:Obj}{fb:Bool}{Q:Fin->Shared->Prop}(D:Apart z TI TO i1 i2)
  (hz:IsZipF s.heap z TI TO (rawInt T) (.bool fb)) (hTI:IsPair s.heap TI (.ref i1) (.ref i2)) (hT:s.heap.get? T=some oT)
  (hend:Ends prog w A i1 G1∨(Yields prog w A i1 G1 P1 S1/\Ends prog w A i2 G2))
  (g1:∀h',(∀c o,c≠z->s.heap.get? c=some o->h'.get? c=some o)->G1 h') (g2:∀h',(∀c o,c≠z->c≠i1->s.heap.get? c=some o->h'.get? c=some o)->G2 h')
  (hE:∀h' tk e,(∀c o,c≠z->c≠i1->c≠i2->s.heap.get? c=some o->h'.get? c=some o)->(∃o,h'.get? e=some o/\o.cls=.type "StopIteration")->E (.ref e) {s with heap:=h',toks:=tk}) :
  wpAny (model prog w) A (Builtin.«zip.__next__» ⟨[.ref z],[]⟩) Q E s:=by
 show wpAny _ _ (field (.ref z) 2 >>= _) _ _ _
 refine la (laf hz rfl (x:=.bool false) rfl ?_)
 show wpAny _ _ (field (.ref z) 3 >>= _) _ _ _
 refine la (laf hz rfl (x:=.ref TI) rfl ?_)
 refine la (la8 hTI rfl ?_)
 show wpAny _ _ (Builtin.SmallTypes.ownedTupleIsFree (.ref z) >>= _) _ _ _
 refine la ?_
 unfold Builtin.SmallTypes.ownedTupleIsFree
 refine la (laf hz rfl (x:=rawInt T) rfl ?_)
 show wpAny _ _ (loadIfAlive ((T:Int).toNat) >>= _) _ _ _
 rw[laE]
 refine la (alive hT ?_)
 simp only[Option.isNone_some,lQ,la3]
 refine la (laf hz rfl (x:=.bool fb) rfl ?_)
 cases fb with
 | true =>
  rw[lY (show ¬((Value.bool true != Value.bool true)=true) from lE)]
  refine lq ?_
  simp only[lQ,la3]
  have HS:Heap.SameBut z s.heap s.heap:=Heap.SameBut.refl _ _
  rw[← lcN]
  simp only[lb1,lce]
  refine la (la (la (laR ?_)))
  show wpAny _ _ (Builtin.SmallTypes.nextOf (.ref i1) >>= _) _ _ _
  rcases hend with E1|⟨Y1,E2⟩
  ·refine la (E1 _ _ _ (g1 _ λc o hc e=>HS.extBut _ _ hc e) λh₂ e hs₂ he=>?_)
   exact hE h₂ _ e (λc o c1 c3 _ x=>hs₂ _ _ c3 (HS.extBut _ _ c1 x)) he
  ·refine la (Y1 _ _ _ (g1 _ λc o hc e=>HS.extBut _ _ hc e) λx h₂ tk₂ px st1 hs₂=>lq (lq ?_))
   refine la (la (laR ?_))
   show wpAny _ _ (Builtin.SmallTypes.nextOf (.ref i2) >>= _) _ _ _
   refine la (E2 _ _ _ (g2 _ λc o c1 c3 e=>hs₂.extBut _ _ c3 (HS.extBut _ _ c1 e)) λh₄ e hs₄ he=>?_)
   exact hE h₄ _ e (λc o c1 c3 c4 x=>hs₄ _ _ c4 (hs₂.extBut _ _ c3 (HS.extBut _ _ c1 x))) he
 | false =>
  rw[lO (show(Value.bool false != Value.bool true)=true from rfl)]
  refine la (lbo hz (by simp) λh₁ hz₁ HS=>?_)
  replace HS:Heap.SameBut z s.heap h₁:=HS
  refine lq ?_
  simp only[lQ,la3]
  rw[← lcN]
  simp only[lb1,lce]
  refine la (la (la (laR ?_)))
  show wpAny _ _ (Builtin.SmallTypes.nextOf (.ref i1) >>= _) _ _ _
  rcases hend with E1|⟨Y1,E2⟩
  ·refine la (E1 _ _ _ (g1 _ λc o hc e=>HS.extBut _ _ hc e) λh₂ e hs₂ he=>?_)
   exact hE h₂ _ e (λc o c1 c3 _ x=>hs₂ _ _ c3 (HS.extBut _ _ c1 x)) he
  ·refine la (Y1 _ _ _ (g1 _ λc o hc e=>HS.extBut _ _ hc e) λx h₂ tk₂ px st1 hs₂=>lq (lq ?_))
   refine la (la (laR ?_))
   show wpAny _ _ (Builtin.SmallTypes.nextOf (.ref i2) >>= _) _ _ _
   refine la (E2 _ _ _ (g2 _ λc o c1 c3 e=>hs₂.extBut _ _ c3 (HS.extBut _ _ c1 e)) λh₄ e hs₄ he=>?_)
   exact hE h₄ _ e (λc o c1 c3 c4 x=>hs₄ _ _ c4 (hs₂.extBut _ _ c3 (HS.extBut _ _ c1 x))) he
end
end Zp
set_option maxHeartbeats 2000000
namespace Zp
open PySem
section
variable {prog:Program}{w:World}{A:Around}
theorem yields_tuple {it t:Addr}{i:Nat}{items:Array Value}{x:Value}(hne:t≠it)(hx:items[i]? = some x) :
  Yields prog w A it (λh=>h.IsTupleIter it t i/\h.IsTuple t items) (λv=>v=x) (λh=>h.IsTupleIter it t (i+1)/\h.IsTuple t items) :=
 λs Q E g hQ=>zbC g.1 g.2 hx λh' st sb=>hQ _ h' s.toks rfl ⟨st,g.2.extBut sb.extBut hne⟩ sb
theorem ends_tuple {it t:Addr}{i:Nat}{items:Array Value}(hh:A.handled=none)(hx:items[i]? = none) :
  Ends prog w A it (λh=>h.IsTupleIter it t i/\h.IsTuple t items) :=
 λs Q E g hE=>zca hh g.1 g.2 hx hE
theorem yields_ascii {it:Addr}{x:Str}{t:Tok}{i c:Nat}(hx:x.cps[i]? = some c) :
  Yields prog w A it (λh=>h.IsStrIter it "str_ascii_iterator" x t i) (λv=>∃u,v=.str ⟨#[c]⟩ u) (λh=>h.IsStrIter it "str_ascii_iterator" x t (i+1)) :=
 λs Q E g hQ=>zbs g hx λh' st sb=>hQ _ h' _ ⟨_,rfl⟩ st sb
theorem ends_ascii {it:Addr}{x:Str}{t:Tok}{i:Nat}(hh:A.handled=none)(hx:x.cps[i]? = none) :
  Ends prog w A it (λh=>h.IsStrIter it "str_ascii_iterator" x t i) :=
 λs Q E g hE=>zb9 hh g hx hE
end
section
variable {prog:Program}{w:World}{A:Around}{E:qQ2}{s:Shared}
abbrev zH2 (h:Heap)(o1 o2:Obj):Heap:=(h.push o1).push o2
abbrev zH3 (h:Heap)(o1 o2:Obj):Heap:=(zH2 h o1 o2).push {cls:=.type "tuple", data:=.seq #[.ref h.objs.size,.ref (h.push o1).objs.size]}
abbrev zH4 (h:Heap)(o1 o2:Obj):Heap:=(zH3 h o1 o2).push {cls:=.type "tuple", data:=.seq #[.none,.none]}
abbrev zH5 (h:Heap)(o1 o2:Obj):Heap:=(zH4 h o1 o2).push {cls:=.type "zip", data:=.fields #[.none,.bool false,.bool false,.ref (zH2 h o1 o2).objs.size,.ref (zH3 h o1 o2).objs.size]}
abbrev tIter (t:Addr):Obj:={cls:=.type "tuple_iterator", data:=.fields #[.ref t,.int 0 0]}
abbrev sIter (x:Str)(t:Tok):Obj:={cls:=.type "str_ascii_iterator", data:=.fields #[.str x t,.int 0 0]}
theorem meets_st_aux {prog:Program}{w:World}{A:Around}{a b:Value}{s:Shared}{h1 h2:Heap}{i1 i2:Addr}{E:qQ2}{Q:Fin->Shared->Prop}
  (p1:∀(Q:qQ2) (E:qQ2),Q (.ref i1) {s with heap:=h1}->wpAny (model prog w) A (pyIter a) Q E s)
  (p2:∀(Q:qQ2) (E:qQ2),Q (.ref i2) {s with heap:=h2}->wpAny (model prog w) A (pyIter b) Q E {s with heap:=h1})
  (hQ:Q (.done (.ret (.ref (h2.objs.size+2)))) {s with heap:=((h2.push {cls:=.type "tuple", data:=.seq #[.ref i1,.ref i2]}).push {cls:=.type "tuple", data:=.seq #[.none,.none]}).push {cls:=.type "zip", data:=.fields #[.none,.bool false,.bool false,.ref h2.objs.size,.ref (h2.objs.size+1)]} }) :
  wpAny (model prog w) A (Builtin.«zip.__new__» ⟨[.type "zip", a,b],[]⟩) Q E s:=by
 obtain⟨hp,g,d,tk,os⟩:=s
 have hsub:=sub_zip
 have z1:(h2.push {cls:=.type "tuple", data:=.seq #[.ref i1,.ref i2]}).objs.size=h2.objs.size+1:=las ..
 have z2:((h2.push {cls:=.type "tuple", data:=.seq #[.ref i1,.ref i2]}).push {cls:=.type "tuple", data:=.seq #[.none,.none]}).objs.size=h2.objs.size+2:=by rw[las,z1]
 rw[← z2,← z1] at hQ
 wp_walk using p1 _ _,p2 _ _
 exact hQ
theorem zlj (x:Str)(t:Tok)(l2:Addr)(ys:Array Value)(ha:x.cps.all (· < 128)=true) :
  Meets (Builtin.«zip.__new__» ⟨[.type "zip", .str x t,.ref l2],[]⟩) (λ_ R s=>s.heap.IsTuple l2 ys /\
   R (.ok (.ret (.ref (zH4 s.heap (sIter x t) (tIter l2)).objs.size))) {s with heap:=zH5 s.heap (sIter x t) (tIter l2)}) :=
 .of_wp λprog w A R s h=>by
  obtain⟨hl2,h⟩:=h
  have z3:(zH3 s.heap (sIter x t) (tIter l2)).objs.size=(zH2 s.heap (sIter x t) (tIter l2)).objs.size+1:=las ..
  have z4:(zH4 s.heap (sIter x t) (tIter l2)).objs.size=(zH2 s.heap (sIter x t) (tIter l2)).objs.size+2:=by rw[las,z3]
  refine meets_st_aux (h1:=s.heap.push (sIter x t)) (h2:=zH2 s.heap (sIter x t) (tIter l2)) (i1:=s.heap.objs.size) (i2:=(s.heap.push (sIter x t)).objs.size)
   (λQ E q=>ldT ha q) (λQ E q=>lcL (s:={s with heap:=s.heap.push (sIter x t)}) (Heap.IsTuple.push hl2 _) q) ⟨_,rfl,?_⟩
  rw[← z4,← z3]
  exact h
def Made5 (h h':Heap)(o1 o2:Obj):Prop :=
 IsZipF h' (h.objs.size+4) (h.objs.size+2) (h.objs.size+3) .none (.bool false)/\IsPair h' (h.objs.size+2) (.ref h.objs.size) (.ref (h.objs.size+1)) /\
  IsPair h' (h.objs.size+3) .none .none/\h'.get? h.objs.size=some o1/\h'.get? (h.objs.size+1)=some o2/\h'.objs.size=h.objs.size+5/\∀c o,h.get? c=some o->h'.get? c=some o
theorem made5 (h:Heap)(o1 o2:Obj)(f1:o1.isFreed=false)(f2:o2.isFreed=false):Made5 h (zH5 h o1 o2) o1 o2/\(zH4 h o1 o2).objs.size=h.objs.size+4:=by
 have z1:(h.push o1).objs.size=h.objs.size+1:=las ..
 have z2:(zH2 h o1 o2).objs.size=h.objs.size+2:=by rw[las,z1]
 have z3:(zH3 h o1 o2).objs.size=h.objs.size+3:=by rw[las,z2]
 have z4:(zH4 h o1 o2).objs.size=h.objs.size+4:=by rw[las,z3]
 have z5:(zH5 h o1 o2).objs.size=h.objs.size+5:=by rw[las,z4]
 have g5:(zH5 h o1 o2).get? (zH4 h o1 o2).objs.size=some _:=lC _ rfl
 have g4:(zH5 h o1 o2).get? (zH3 h o1 o2).objs.size=some _:=lg _ (lC _ rfl)
 have g3:(zH5 h o1 o2).get? (zH2 h o1 o2).objs.size=some _:=lg _ (lg _ (lC _ rfl))
 have g2:(zH5 h o1 o2).get? (h.push o1).objs.size=some o2:=lg _ (lg _ (lg _ (lC _ f2)))
 have g1:(zH5 h o1 o2).get? h.objs.size=some o1:=lg _ (lg _ (lg _ (lg _ (lC _ f1))))
 rw[z2,z3,z4] at g5
 rw[z1,z2] at g3
 rw[z3] at g4
 rw[z1] at g2
 exact⟨⟨g5,g3,g4,g1,g2,z5,λc o x=>lg _ (lg _ (lg _ (lg _ (lg _ x))))⟩,z4⟩
theorem call_zip_st {x:Str}{t:Tok}{l2:Addr}{ys:Array Value}{Q:qQ2}(ha:x.cps.all (· < 128)=true)(hl2:s.heap.IsTuple l2 ys)
  (h:∀h',Made5 s.heap h' (sIter x t) (tIter l2)->Q (.ref (s.heap.objs.size+4)) {s with heap:=h'}) :
  wpAny (model prog w) A (call (.type "zip") [.str x t,.ref l2]) Q E s:=by
 refine callType_new F.called_zip (by decide) (F.typeCall_zip_2 _ _) (F.newCall_zip_2 _ _) (λobj=>F.args_object_init_3 obj _ _) F.entry_zip_new
  (zlj x t l2 ys ha) ⟨hl2,?_⟩
 obtain⟨m,z4⟩:=made5 s.heap (sIter x t) (tIter l2) rfl rfl
 show _/\_
 rw[z4]
 exact⟨⟨_,m.1,rfl⟩,h _ m⟩
end
variable {Q:Option Value->Shared->Prop}{z i1 i2 tp d:Addr}{x:Str}{t:Tok}{ys:Array Value}{i:Nat}
theorem zcf:typeLookup (.type "zip") "__getattr__" = pure none:=by rw[typeLookup_type,builtinLookup_eq_fast];kernel_rfl
theorem zeO:typeLookup (.type "zip") "keys" = pure none:=by rw[typeLookup_type,builtinLookup_eq_fast];kernel_rfl
theorem jx:entryFor table "zip.__getattribute__" = some Builtin.«object.__getattribute__» :=
 entryFor_alias (id' := "object.__getattribute__") (by kernel_rfl) (by decide +kernel) (by decide +kernel) (by kernel_rfl)
theorem ziK (a:Addr)(vs:Array Value)(name:Str)(u:Tok)(hmiss:typeLookup (.type "zip") name=pure none)(hname:(["__module__", "__name__", "__qualname__", "__doc__", "__annotations__"]:List Str).contains name=false)(hsz:name.length+100<=sizeLine:=by size_fits) :
  Meets (Builtin.«object.__getattribute__» ⟨[.ref a,.str name u],[]⟩) (λA R s=>s.heap.get? a=some {cls:=.type "zip", dict:=none,data:=.fields vs,slots:=#[]}/\raisesAttr (.ref a) name A R s) :=
 Meets.of_wp λprog w A R s hs=>by
  obtain⟨hp,g,d,tk,os⟩:=s
  obtain⟨hx,hs⟩:=hs
  have hT:(⟨hp,g,d,tk,os⟩:Shared).TypeIs (.ref a) "zip" := ⟨_,hx,rfl⟩
  unfold Builtin.«object.__getattribute__»
  repeat (any_goals (first|assumption|wp_step))
  simp only[hname,lQ,la3]
  repeat (any_goals (first|assumption|wp_step))
  exact wpAny_raiseAttrError hs.1 hs.2 (attrMsg_fits (by decide +kernel) hsz)
theorem znV {prog:Program}{w:World}{A:Around}{E:qQ2}{s:Shared}{a:Addr}{vs:Array Value}
  (hx:s.heap.get? a=some {cls:=.type "zip", dict:=none,data:=.fields vs,slots:=#[]}) (hA:A.handled=none)
  (h:∀h' tk,(∀b o,s.heap.get? b=some o->h'.get? b=some o)->Q none {s with heap:=h',toks:=tk}) :
  wpAny (model prog w) A (getAttr? (.ref a) "keys") Q E s:=by
 obtain⟨hp,g,d,tk,os⟩:=s
 have hT:∀tk',(⟨hp,g,d,tk',os⟩:Shared).TypeIs (.ref a) "zip" := λ_=>⟨_,hx,rfl⟩
 have f1:=sub_AttributeError
 have f3:=lcO.lookup
 have f4:=lcO.bind (.ref a)
 have f5:=zcf
 unfold getAttr? getAttrBy? getAttrBy
 repeat (any_goals (first|assumption|exact hT _|((with_reducible show wpAny _ _ (call (Value.builtin "zip.__getattribute__") _ _) _ _ _);refine lcI lcO (hT _) jx (F.args_zip_getattribute_2 _ _) (ziK a vs "keys" _ zeO (by decide +kernel) (by decide +kernel)) ⟨hx,hA,λh' tk' e hx'=>?_⟩)|wp_step))
 obtain⟨t',u',he⟩:=hx'.there
 show wpAny _ _ (getattributeRaised _ _ _ _ _ _ _) _ _ _
 unfold getattributeRaised hookBehind onTheHeap hookOrError attributeErrorLeaves
 repeat (any_goals (first|assumption|wp_step))
 exact h _ _ hx'.keeps
structure ZSt (h:Heap)(z TI TO i1 i2 tp d:Addr)(x:Str)(t:Tok)(ys:Array Value)(i:Nat):Prop where
 zip:(∃f1,IsZipF h z TI TO .none (.bool f1))∨∃(T:Addr) (oT:Obj) (fb:Bool),IsZipF h z TI TO (rawInt T) (.bool fb)/\h.get? T=some oT/\T≠z/\T≠TO/\T≠i1/\T≠i2/\T≠d
 ti:IsPair h TI (.ref i1) (.ref i2)
 to:∃a b,IsPair h TO a b
 s1:h.IsStrIter i1 "str_ascii_iterator" x t i
 s2:h.IsTupleIter i2 tp i/\h.IsTuple tp ys
structure ZAp (z TI TO i1 i2 tp d:Addr):Prop where
 D:Apart z TI TO i1 i2
 tz:tp≠z
 tO:tp≠TO
 t1:tp≠i1
 t2:tp≠i2
 dz:d≠z
 dI:d≠TI
 dO:d≠TO
 d1:d≠i1
 d2:d≠i2
 dt:d≠tp
theorem ZSt.dict {h h':Heap}{TI TO:Addr}(Z:ZSt h z TI TO i1 i2 tp d x t ys i)(Y:ZAp z TI TO i1 i2 tp d)
  (k:∀c o,c≠d->h.get? c=some o->h'.get? c=some o):ZSt h' z TI TO i1 i2 tp d x t ys i:=by
 obtain⟨zp,ti,⟨a,b,to⟩,⟨o1,e1,r1⟩,⟨o2,e2,r2⟩,o3,e3,r3⟩:=Z
 refine⟨?_,k _ _ (lbF Y.dI) ti,⟨a,b,k _ _ (lbF Y.dO) to⟩,⟨o1,k _ _ (lbF Y.d1) e1,r1⟩,⟨o2,k _ _ (lbF Y.d2) e2,r2⟩,o3,k _ _ (lbF Y.dt) e3,r3⟩
 rcases zp with⟨f1,hz⟩|⟨T,oT,fb,hz,hT,n1,n2,n3,n4,n5⟩
 ·exact .inl ⟨f1,k _ _ (lbF Y.dz) hz⟩
 ·exact .inr ⟨T,oT,fb,k _ _ (lbF Y.dz) hz,k _ _ n5 hT,n1,n2,n3,n4,n5⟩
section
variable {prog:Program}{w:World}{A:Around}{E:qQ2}{s:Shared}
theorem ZSt.next {TI TO:Addr}{c:Nat}{y:Value}(Z:ZSt s.heap z TI TO i1 i2 tp d x t ys i)(Y:ZAp z TI TO i1 i2 tp d)
  (hd:d<s.heap.objs.size) (hc:x.cps[i]? = some c) (hy:ys[i]? = some y)
  (hQ:∀(T:Addr) u h' tk,ZSt h' z TI TO i1 i2 tp d x t ys (i+1)->IsPair h' T (.str ⟨#[c]⟩ u) y->(∀c o,c≠z->c≠TO->c≠i1->c≠i2->s.heap.get? c=some o->h'.get? c=some o)->h'.objs.size=s.heap.objs.size+1->Q (some (.ref T)) {s with heap:=h',toks:=tk}) :
  wpAny (model prog w) A (pyNext (.ref z)) Q E s:=by
 obtain⟨zp,ti,⟨a,b,to⟩,s1,s2⟩:=Z
 have D:=Y.D
 obtain⟨o1,e1,r1⟩:=id s1
 obtain⟨⟨o2,e2,r2⟩,o3,e3,r3⟩:=id s2
 have lt:∀{c:Addr}{o:Obj},s.heap.get? c=some o->s.heap.objs.size≠c:=λe=>la1 (ly e)
 have Y1:=yields_ascii (prog:=prog) (w:=w) (A:=A.in1) (it:=i1) (t:=t) hc
 have Y2:=yields_tuple (prog:=prog) (w:=w) (A:=A.in1) Y.t2 hy
 rcases zp with⟨f1,hz⟩|⟨T,oT,fb,hz,hT,n1,n2,n3,n4,n5⟩
 ·have hTy:s.TypeIs (.ref z) "zip" := ⟨_,hz,rfl⟩
  unfold pyNext
  refine la (lbH (lT (name:=Str.ofString "__next__") hTy la6
   (lZ la6 hTy lca (next_item D hz ti to Y1 Y2 ?_ ?_ ?_ ?_ ?_) (lb2 _))))
  ·exact λh' k=>⟨o1,k _ _ D.i1z e1,r1⟩
  ·exact λh' k=>⟨⟨o2,k _ _ D.i2z D.TOi2.symm D.i12.symm e2,r2⟩,o3,k _ _ Y.tz Y.tO Y.t1 e3,r3⟩
  ·exact λh h' ⟨p1,q1,w1⟩ k=>⟨p1,k _ _ D.i1z D.TOi1.symm D.i12 q1,w1⟩
  ·exact λh h' ⟨⟨p1,q1,w1⟩,p2,q2,w2⟩ k=>⟨⟨p1,k _ _ D.i2z D.TOi2.symm q1,w1⟩,p2,k _ _ Y.tz Y.tO q2,w2⟩
  ·rintro v1 v2 h' tk ⟨u,rfl⟩ rfl z' to' q1 q2 hp hsz k
   refine lq (hQ _ u h' tk ⟨.inr ⟨_,_,false,z',hp,lt hz,lt to,lt e1,lt e2,la1 hd⟩,k _ _ D.TIz D.TITO D.TIi1 D.TIi2 ti,⟨_,_,to'⟩,q1,q2⟩ hp k hsz)
 ·have hTy:s.TypeIs (.ref z) "zip" := ⟨_,hz,rfl⟩
  unfold pyNext
  refine la (lbH (lT (name:=Str.ofString "__next__") hTy la6
   (lZ la6 hTy lca (zfS D hz ti hT Y1 Y2 ?_ ?_ ?_ ?_ ?_) (lb2 _))))
  ·exact λh' k=>⟨o1,k _ _ D.i1z e1,r1⟩
  ·exact λh' k=>⟨⟨o2,k _ _ D.i2z D.i12.symm e2,r2⟩,o3,k _ _ Y.tz Y.t1 e3,r3⟩
  ·exact λh h' ⟨p1,q1,w1⟩ k=>⟨p1,k _ _ D.i12 q1,w1⟩
  ·exact λh h' ⟨⟨p1,q1,w1⟩,p2,q2,w2⟩ k=>⟨⟨p1,k _ _ q1,w1⟩,p2,k _ _ q2,w2⟩
  ·rintro v1 v2 h' tk ⟨u,rfl⟩ rfl z' q1 q2 hp hsz k
   exact lq (hQ _ u h' tk ⟨.inr ⟨T,oT,true,z',k _ _ n1 n3 n4 hT,n1,n2,n3,n4,n5⟩,k _ _ D.TIz D.TIi1 D.TIi2 ti,⟨_,_,k _ _ D.TOz D.TOi1 D.TOi2 to⟩,q1,q2⟩ hp (λc o c1 _ c3 c4 e=>k c o c1 c3 c4 e) hsz)
theorem ZSt.done {TI TO:Addr}(hh:A.handled=none)(Z:ZSt s.heap z TI TO i1 i2 tp d x t ys i)(Y:ZAp z TI TO i1 i2 tp d)
  (hend:x.cps[i]? = none∨ys[i]? = none)
  (hQ:∀h' tk,(∀c o,c≠z->c≠TO->c≠i1->c≠i2->s.heap.get? c=some o->h'.get? c=some o)->Q none {s with heap:=h',toks:=tk}) :
  wpAny (model prog w) A (pyNext (.ref z)) Q E s:=by
 obtain⟨zp,ti,⟨a,b,to⟩,s1,s2⟩:=Z
 have D:=Y.D
 obtain⟨o1,e1,r1⟩:=id s1
 obtain⟨⟨o2,e2,r2⟩,o3,e3,r3⟩:=id s2
 have hend':Ends prog w A.in1 i1 (λh=>h.IsStrIter i1 "str_ascii_iterator" x t i)∨(Yields prog w A.in1 i1 (λh=>h.IsStrIter i1 "str_ascii_iterator" x t i) (λ_=>True) (λ_=>True)/\Ends prog w A.in1 i2 (λh=>h.IsTupleIter i2 tp i/\h.IsTuple tp ys)):=by
  cases hc:x.cps[i]? with
  | none=>exact .inl (ends_ascii hh hc)
  | some c =>
   rcases hend with h|h
   ·rw[hc] at h;cases h
   ·exact .inr ⟨λs Q E g hQ=>yields_ascii hc s Q E g λv h' tk _ _ sb=>hQ v h' tk trivial trivial sb,ends_tuple hh h⟩
 rcases zp with⟨f1,hz⟩|⟨T,oT,fb,hz,hT,n1,n2,n3,n4,n5⟩
 ·have hTy:s.TypeIs (.ref z) "zip" := ⟨_,hz,rfl⟩
  unfold pyNext
  refine la (lbH (lT (name:=Str.ofString "__next__") hTy la6
   (lZ la6 hTy lca (next_end D hz ti to hend' ?_ ?_ ?_) (lb2 _))))
  ·exact λh' k=>⟨o1,k _ _ D.i1z e1,r1⟩
  ·exact λh' k=>⟨⟨o2,k _ _ D.i2z D.TOi2.symm D.i12.symm e2,r2⟩,o3,k _ _ Y.tz Y.tO Y.t1 e3,r3⟩
  ·intro h' tk e k he
   obtain⟨o,ho,hc⟩:=he
   refine la (ldj (T := "StopIteration") (b:=true) ⟨o,ho,hc⟩ ldZ ?_)
   exact lq (hQ _ _ k)
 ·have hTy:s.TypeIs (.ref z) "zip" := ⟨_,hz,rfl⟩
  unfold pyNext
  refine la (lbH (lT (name:=Str.ofString "__next__") hTy la6
   (lZ la6 hTy lca (zmg D hz ti hT hend' ?_ ?_ ?_) (lb2 _))))
  ·exact λh' k=>⟨o1,k _ _ D.i1z e1,r1⟩
  ·exact λh' k=>⟨⟨o2,k _ _ D.i2z D.i12.symm e2,r2⟩,o3,k _ _ Y.tz Y.t1 e3,r3⟩
  ·intro h' tk e k he
   obtain⟨o,ho,hc⟩:=he
   refine la (ldj (T := "StopIteration") (b:=true) ⟨o,ho,hc⟩ ldZ ?_)
   exact lq (hQ _ _ λc o c1 _ c3 c4 e=>k c o c1 c3 c4 e)
end
theorem zdO:entryFor table "dict.update.loop" = some Builtin.«dict.update.loop»:=entryFor_of_fast (by kernel_rfl)
theorem zab:plainId "dict.update.loop" = true:=by decide +kernel
section
variable {prog:Program}{w:World}{K:Type} [DecidableEq K]{knd:KeyKind prog w K}{A:Around}{R:Result->Shared->Prop}
theorem zlz {TI TO:Addr}(hh:A.handled=none)(Y:ZAp z TI TO i1 i2 tp d)(f:Nat->K)(hk:∀c u,knd.is (f c) (.str ⟨#[c]⟩ u)=true)(hsm:x.cps.size<=1000) :
  ∀ (n i:Nat) (s:Shared) (kvs:List (K×Value)) (q:Int) (tq:Tok),min x.cps.size ys.size - i=n->i<=min x.cps.size ys.size->ZSt s.heap z TI TO i1 i2 tp d x t ys i->s.heap.DictOf knd d kvs->kvs.length<=i ->
   (∀h' tk,h'.DictOf knd d (((x.cps.toList.zip ys.toList).drop i).foldl (λm p=>stored m (f p.1) p.2) kvs)->(∀c o,c≠z->c≠TO->c≠i1->c≠i2->c≠d->s.heap.get? c=some o->h'.get? c=some o) ->
    R (.ok (.ret .none)) {s with heap:=h',toks:=tk}) ->
   codeAny (model prog w) A (.builtin "dict.update.loop" ⟨[.ref d,.ref z,.int q tq,.none],[]⟩) R s:=by
 intro n
 induction n with
 | zero =>
  intro i s kvs q tq hn hi Z hm hl hR
  refine lcP zdO ?_
  rw[Around.under_plainId zab _]
  show wpAny _ A.in1 (pyNext (.ref z) >>= _) _ _ s
  have hend:x.cps[i]? = none∨ys[i]? = none:=by
   rcases ldU x.cps.size ys.size with h|h
   ·exact .inl (lbO (by omega))
   ·exact .inr (lbO (by omega))
  refine la (Z.done hh Y hend λh' tk k=>?_)
  refine la (m:=Builtin.Dict.addKeywords d []) (lq (lq ?_))
  have e:(x.cps.toList.zip ys.toList).drop i=[]:=laq (by simp;omega)
  rw[e] at hR
  refine hR h' tk ?_ λc o c1 c2 c3 c4 _ e=>k c o c1 c2 c3 c4 e
  obtain⟨o,ho,r⟩:=lb3.mp hm
  exact lb3.mpr ⟨o,k _ _ Y.dz Y.dO Y.d1 Y.d2 ho,r⟩
 | succ n ih =>
  intro i s kvs q tq hn hi Z hm hl hR
  refine lcP zdO ?_
  rw[Around.under_plainId zab _]
  show wpAny _ A.in1 (pyNext (.ref z) >>= _) _ _ s
  have hc:x.cps[i]? = some x.cps[i]:=laD (by omega)
  have hy:ys[i]? = some ys[i]:=laD (by omega)
  have hd:d<s.heap.objs.size:=by obtain⟨o,ho,_⟩:=lb3.mp hm;exact ly ho
  refine la (Z.next Y hd hc hy λT u h' tk Z' hp k hsz=>?_)
  dsimp only
  have hT:(⟨h',s.gens,s.drawn,tk,s.os⟩:Shared).TypeIs (.ref T) "tuple" := ⟨_,hp,rfl⟩
  refine la (laR (la (wpAny_tryCatch ?_)))
  unfold Builtin.Dict.pairItems
  refine la (lcH hT ?_)
  rw[lO (by decide)]
  refine la (la8 hp rfl (lq ?_))
  show wpAny _ A.in1 (holding [Value.str ⟨#[x.cps[i]]⟩ u,ys[i]] (dictSet d (.str ⟨#[x.cps[i]]⟩ u) ys[i])) _ _ _
  have hm':h'.DictOf knd d kvs:=by
   obtain⟨o,ho,r⟩:=lb3.mp hm
   exact lb3.mpr ⟨o,k _ _ Y.dz Y.dO Y.d1 Y.d2 ho,r⟩
  refine laR (wpAny_dictSet_pairs (hk _ u) hm' (λh'' hm'' sb=>?_) (by rw[laQ];omega))
  refine lq ⟨plainId_quiet zab _,?_⟩
  have hl2:(stored kvs (f x.cps[i]) ys[i]).length<=i+1:=by
   have:=stored_length_le kvs (f x.cps[i]) ys[i]
   omega
  refine ih (i+1) _ _ _ _ (by omega) (by omega) (Z'.dict Y λc o hc e=>sb.extBut _ _ hc e) hm'' hl2 λh3 tk3 hm3 k3=>?_
  have e:(x.cps.toList.zip ys.toList).drop i=(x.cps[i],ys[i])::(x.cps.toList.zip ys.toList).drop (i+1):=by
   rw[lac (by simp;omega)]
   simp
  rw[e,la5] at hR
  exact hR h3 tk3 hm3 λc o c1 c2 c3 c4 c5 e=>k3 c o c1 c2 c3 c4 c5 (sb.extBut _ _ c5 (k c o c1 c2 c3 c4 e))
end
section
variable {prog:Program}{w:World}{K:Type} [DecidableEq K]{knd:KeyKind prog w K}{A:Around}{E:qQ2}{s:Shared}
theorem call_dict_zip {TI TO:Addr}{Q:qQ2}(hh:A.handled=none)(D:Apart z TI TO i1 i2)(n1:tp≠z)(n2:tp≠TO)(n3:tp≠i1)(n4:tp≠i2)
  (f:Nat->K) (hk:∀c u,knd.is (f c) (.str ⟨#[c]⟩ u)=true) (hsm:x.cps.size<=1000)
  (hz:IsZipF s.heap z TI TO .none (.bool false)) (hTI:IsPair s.heap TI (.ref i1) (.ref i2)) (hTO:IsPair s.heap TO .none .none) (h1:s.heap.IsStrIter i1 "str_ascii_iterator" x t 0) (h2:s.heap.IsTupleIter i2 tp 0) (h3:s.heap.IsTuple tp ys)
  (h:∀h' tk,h'.DictOf knd s.heap.objs.size ((x.cps.toList.zip ys.toList).foldl (λm p=>stored m (f p.1) p.2) [])->(∀c o,c≠z->c≠TO->c≠i1->c≠i2->s.heap.get? c=some o->h'.get? c=some o) ->
   Q (.ref s.heap.objs.size) {s with heap:=h',toks:=tk}) :
  wpAny (model prog w) A (call (.type "dict") [.ref z]) Q E s:=by
 refine callType_codes (Q₁:=λobj s₁=>obj=.ref s.heap.objs.size/\s₁={s with heap:=s.heap.push {cls:=.type "dict", data:=.dict #[]} }) F.kt_called_dict (F.kt_typeCall_dict_1 _) F.entry_dict_init (kt_code_dict_new _ ⟨rfl,rfl⟩) ?_
 rintro obj s₁ ⟨rfl,rfl⟩
 have hnew:(s.heap.push {cls:=.type "dict", data:=.dict #[]}).DictOf knd s.heap.objs.size []:=Heap.DictOf.new s.heap
 have up:∀c o,s.heap.get? c=some o->(s.heap.push {cls:=.type "dict", data:=.dict #[]}).get? c=some o:=λc o e=>lg _ e
 have hz':=up _ _ hz
 have hzT:({s with heap:=s.heap.push {cls:=.type "dict", data:=.dict #[]} }:Shared).TypeIs (.ref z) "zip" := ⟨_,hz',rfl⟩
 have lt:∀{c:Addr}{o:Obj},s.heap.get? c=some o->s.heap.objs.size≠c:=λe=>la1 (ly e)
 obtain⟨o1,e1,r1⟩:=h1
 obtain⟨o2,e2,r2⟩:=h2
 obtain⟨o3,e3,r3⟩:=h3
 have Y:ZAp z TI TO i1 i2 tp s.heap.objs.size:=⟨D,n1,n2,n3,n4,lt hz,lt hTI,lt hTO,lt e1,lt e2,lt e3⟩
 refine⟨hnew.typeIs,F.args_dict_init_2 _ _,?_⟩
 unfold Builtin.«dict.__init__»
 refine la ?_
 unfold Builtin.Dict.selfAndRest
 refine la (wpAny_notOrdered_dict hnew.typeIs ?_)
 show wpAny _ _ (pure (s.heap.objs.size,[Value.ref z])) _ _ _
 refine lq ?_
 show wpAny _ _ (Builtin.Dict.updateFrom "dict.__init__" s.heap.objs.size (.ref z) [] .none) _ _ _
 unfold Builtin.Dict.updateFrom
 refine la (lcH hzT ?_)
 rw[lO (by decide)]
 refine la (znV hz' hh λh4 tk4 k4=>?_)
 simp only[Option.isNone_none,lby]
 refine la (lcF ?_)
 have Z:ZSt h4 z TI TO i1 i2 tp s.heap.objs.size x t ys 0:=⟨.inl ⟨false,k4 _ _ hz'⟩,k4 _ _ (up _ _ hTI),⟨_,_,k4 _ _ (up _ _ hTO)⟩,⟨o1,k4 _ _ (up _ _ e1),r1⟩,⟨o2,k4 _ _ (up _ _ e2),r2⟩,o3,k4 _ _ (up _ _ e3),r3⟩
 have hm:h4.DictOf knd s.heap.objs.size []:=by
  obtain⟨o,ho,r⟩:=lb3.mp hnew
  exact lb3.mpr ⟨o,k4 _ _ ho,r⟩
 refine la (wpAny_pyIter_zip (k4 _ _ hz') ?_)
 refine lq ⟨plainId_quiet zab _,?_⟩
 refine zlz (knd:=knd) (A:=A.in1) hh Y f hk hsm _ 0 _ [] _ _ rfl (lbm _) Z hm (lu _) λh5 tk5 hm5 k5=>?_
 exact⟨rfl,h h5 tk5 (by simpa using hm5) λc o c1 c2 c3 c4 e=>k5 c o c1 c2 c3 c4 (λq=>lt e q.symm) (k4 _ _ (up _ _ e))⟩
end
section
variable {prog:Program}{w:World}{A:Around}{E:qQ2}{s:Shared}
theorem nextOf_list_item {it t:Addr}{items}{x:Value}{Q:qQ2}(hit:s.heap.IsListIter it t i)
  (ht:s.heap.IsList t items) (hx:items[i]? = some x)
  (hQ:∀h',h'.IsListIter it t (i+1)->Heap.SameBut it s.heap h'->Q x {s with heap:=h'}) :
  wpAny (model prog w) A (Builtin.SmallTypes.nextOf (.ref it)) Q E s:=by
 obtain⟨o,ho,hc,hd⟩:=id hit
 obtain⟨ol,hol,_,nl,hdl⟩:=ht
 unfold Builtin.SmallTypes.nextOf
 refine la (lT (name:=Str.ofString "__next__") hit.typeIs lcQ
  (lZ lcQ hit.typeIs entry_listiter_next ?_ (args_listiter_next _)))
 show wpAny _ _ (field (.ref it) 0 >>= _) _ _ s
 refine la (laf ho hd (x:=.ref t) rfl ?_)
 show wpAny _ _ (if (Value.ref t == Value.none)=true then _ else _) _ _ s
 rw[lY (show ¬((Value.ref t == Value.none)=true) from lE)]
 show wpAny _ _ (field (.ref it) 1 >>= _) _ _ s
 refine la (laf ho hd (x:=.int i 0) rfl ?_)
 show wpAny _ _ (seqItems? (.ref t) >>= _) _ _ s
 refine la (la8 hol hdl ?_)
 simp only[laE,hx]
 refine la (lbW ho hd (by simp) (lq ⟨x,rfl,lq (hQ _ ?_ (lbg ..))⟩))
 exact ⟨_,lco _ ho (lcp (lbn hd _)),(lc5 ..).trans hc,by
  rw[lbn hd];simp[rawInt]⟩
theorem nextOf_list_end {it t:Addr}{items}{Q:qQ2}(hh:A.handled=none)
  (hit:s.heap.IsListIter it t i) (ht:s.heap.IsList t items) (hx:items[i]? = none)
  (hE:∀h' e,Heap.ExtBut it s.heap h'->(∃o,h'.get? e=some o/\o.cls=.type "StopIteration")->E (.ref e) {s with heap:=h'}) :
  wpAny (model prog w) A (Builtin.SmallTypes.nextOf (.ref it)) Q E s:=by
 obtain⟨o,ho,hc,hd⟩:=id hit
 obtain⟨ol,hol,_,nl,hdl⟩:=ht
 unfold Builtin.SmallTypes.nextOf
 refine la (lT (name:=Str.ofString "__next__") hit.typeIs lcQ
  (lZ lcQ hit.typeIs entry_listiter_next ?_ (args_listiter_next _)))
 show wpAny _ _ (field (.ref it) 0 >>= _) _ _ s
 refine la (laf ho hd (x:=.ref t) rfl ?_)
 show wpAny _ _ (if (Value.ref t == Value.none)=true then _ else _) _ _ s
 rw[lY (show ¬((Value.ref t == Value.none)=true) from lE)]
 show wpAny _ _ (field (.ref it) 1 >>= _) _ _ s
 refine la (laf ho hd (x:=.int i 0) rfl ?_)
 show wpAny _ _ (seqItems? (.ref t) >>= _) _ _ s
 refine la (la8 hol hdl ?_)
 simp only[laE,hx]
 refine la (lcF (la (lbW ho hd (by simp) ?_)))
 show wpAny _ _ (newExc (.type "StopIteration") [] >>= _) _ _ _
 refine la ?_
 simp only[newExc,newTuple]
 refine la (laz ?_ (by size_fits))
 refine la (m:=firstArgMember _ _) (wpAny_of_eq (a:=Value.none) (by first|rfl|(simp only[firstArgMember];rfl)) ?_)
 refine laz ?_ (by size_fits)
 simp only[raiseNew]
 refine la (ld7 ?_)
 first|rw[show A.in1.handled=none from hh] | rw[hh]
 refine la (lq (wpAny_throw ?_))
 exact hE _ _ (((lbg ..).extBut.push _).push _) ⟨_,lC _ rfl,rfl⟩
end
structure Src (prog:Program)(w:World)(it tp:Addr)(n:Nat)(g:Nat->Value)(S:Nat->Heap->Prop):Prop where
 yl:∀(A:Around) (i:Nat),i<n->Yields prog w A it (S i) (λv=>v=g i) (S (i+1))
 en:∀(A:Around) (i:Nat),A.handled=none->n<=i->Ends prog w A it (S i)
 mv:∀(i:Nat) (h h':Heap),S i h->(∀o,h.get? it=some o->h'.get? it=some o)->(∀o,h.get? tp=some o->h'.get? tp=some o)->S i h'
 li:∀(i:Nat) (h:Heap),S i h->(∃o,h.get? it=some o)/\∃o,h.get? tp=some o
structure GAp (z TI TO i1 i2 p1 p2 d:Addr):Prop where
 D:Apart z TI TO i1 i2
 az:p1≠z
 aO:p1≠TO
 a2:p1≠i2
 bz:p2≠z
 bO:p2≠TO
 b1:p2≠i1
 dz:d≠z
 dI:d≠TI
 dO:d≠TO
 d1:d≠i1
 d2:d≠i2
 da:d≠p1
 db:d≠p2
structure GSt (h:Heap)(z TI TO i1 i2 d:Addr)(S1 S2:Nat->Heap->Prop)(i:Nat):Prop where
 zip:(∃f1,IsZipF h z TI TO .none (.bool f1))∨∃(T:Addr) (oT:Obj) (fb:Bool),IsZipF h z TI TO (rawInt T) (.bool fb)/\h.get? T=some oT/\T≠z/\T≠TO/\T≠i1/\T≠i2/\T≠d
 ti:IsPair h TI (.ref i1) (.ref i2)
 to:∃a b,IsPair h TO a b
 s1:S1 i h
 s2:S2 i h
section
variable {prog:Program}{w:World}{A:Around}{E:qQ2}{s:Shared}{z TI TO i1 i2 p1 p2 d:Addr}{n1 n2:Nat}{g1 g2:Nat->Value}{S1 S2:Nat->Heap->Prop}
theorem GSt.dict {h h':Heap}(Z:GSt h z TI TO i1 i2 d S1 S2 i)(Y:GAp z TI TO i1 i2 p1 p2 d)(C1:Src prog w i1 p1 n1 g1 S1)(C2:Src prog w i2 p2 n2 g2 S2)
  (k:∀c o,c≠d->h.get? c=some o->h'.get? c=some o):GSt h' z TI TO i1 i2 d S1 S2 i:=by
 obtain⟨zp,ti,⟨a,b,to⟩,s1,s2⟩:=Z
 refine⟨?_,k _ _ (lbF Y.dI) ti,⟨a,b,k _ _ (lbF Y.dO) to⟩,C1.mv _ _ _ s1 (λo=>k _ o (lbF Y.d1)) (λo=>k _ o (lbF Y.da)),C2.mv _ _ _ s2 (λo=>k _ o (lbF Y.d2)) (λo=>k _ o (lbF Y.db))⟩
 rcases zp with⟨f1,hz⟩|⟨T,oT,fb,hz,hT,n1,n2,n3,n4,n5⟩
 ·exact .inl ⟨f1,k _ _ (lbF Y.dz) hz⟩
 ·exact .inr ⟨T,oT,fb,k _ _ (lbF Y.dz) hz,k _ _ n5 hT,n1,n2,n3,n4,n5⟩
theorem GSt.next (Z:GSt s.heap z TI TO i1 i2 d S1 S2 i)(Y:GAp z TI TO i1 i2 p1 p2 d)(C1:Src prog w i1 p1 n1 g1 S1)(C2:Src prog w i2 p2 n2 g2 S2)
  (hd:d<s.heap.objs.size) (hc:i<n1) (hy:i<n2)
  (hQ:∀(T:Addr) h' tk,GSt h' z TI TO i1 i2 d S1 S2 (i+1)->IsPair h' T (g1 i) (g2 i)->(∀c o,c≠z->c≠TO->c≠i1->c≠i2->s.heap.get? c=some o->h'.get? c=some o)->h'.objs.size=s.heap.objs.size+1->Q (some (.ref T)) {s with heap:=h',toks:=tk}) :
  wpAny (model prog w) A (pyNext (.ref z)) Q E s:=by
 obtain⟨zp,ti,⟨a,b,to⟩,s1,s2⟩:=Z
 have D:=Y.D
 obtain⟨⟨o1,e1⟩,_⟩:=C1.li _ _ s1
 obtain⟨⟨o2,e2⟩,_⟩:=C2.li _ _ s2
 have lt:∀{c:Addr}{o:Obj},s.heap.get? c=some o->s.heap.objs.size≠c:=λe=>la1 (ly e)
 have Y1:=C1.yl A.in1 i hc
 have Y2:=C2.yl A.in1 i hy
 rcases zp with⟨f1,hz⟩|⟨T,oT,fb,hz,hT,n1,n2,n3,n4,n5⟩
 ·have hTy:s.TypeIs (.ref z) "zip" := ⟨_,hz,rfl⟩
  unfold pyNext
  refine la (lbH (lT (name:=Str.ofString "__next__") hTy la6
   (lZ la6 hTy lca (next_item D hz ti to Y1 Y2 ?_ ?_ ?_ ?_ ?_) (lb2 _))))
  ·exact λh' k=>C1.mv _ _ _ s1 (λo=>k _ o D.i1z) (λo=>k _ o Y.az)
  ·exact λh' k=>C2.mv _ _ _ s2 (λo=>k _ o D.i2z D.TOi2.symm D.i12.symm) (λo=>k _ o Y.bz Y.bO Y.b1)
  ·exact λh h' q k=>C1.mv _ _ _ q (λo=>k _ o D.i1z D.TOi1.symm D.i12) (λo=>k _ o Y.az Y.aO Y.a2)
  ·exact λh h' q k=>C2.mv _ _ _ q (λo=>k _ o D.i2z D.TOi2.symm) (λo=>k _ o Y.bz Y.bO)
  ·rintro v1 v2 h' tk rfl rfl z' to' q1 q2 hp hsz k
   refine lq (hQ _ h' tk ⟨.inr ⟨_,_,false,z',hp,lt hz,lt to,lt e1,lt e2,la1 hd⟩,k _ _ D.TIz D.TITO D.TIi1 D.TIi2 ti,⟨_,_,to'⟩,q1,q2⟩ hp k hsz)
 ·have hTy:s.TypeIs (.ref z) "zip" := ⟨_,hz,rfl⟩
  unfold pyNext
  refine la (lbH (lT (name:=Str.ofString "__next__") hTy la6
   (lZ la6 hTy lca (zfS D hz ti hT Y1 Y2 ?_ ?_ ?_ ?_ ?_) (lb2 _))))
  ·exact λh' k=>C1.mv _ _ _ s1 (λo=>k _ o D.i1z) (λo=>k _ o Y.az)
  ·exact λh' k=>C2.mv _ _ _ s2 (λo=>k _ o D.i2z D.i12.symm) (λo=>k _ o Y.bz Y.b1)
  ·exact λh h' q k=>C1.mv _ _ _ q (λo=>k _ o D.i12) (λo=>k _ o Y.a2)
  ·exact λh h' q k=>C2.mv _ _ _ q (λo=>k _ o) (λo=>k _ o)
  ·rintro v1 v2 h' tk rfl rfl z' q1 q2 hp hsz k
   exact lq (hQ _ h' tk ⟨.inr ⟨T,oT,true,z',k _ _ n1 n3 n4 hT,n1,n2,n3,n4,n5⟩,k _ _ D.TIz D.TIi1 D.TIi2 ti,⟨_,_,k _ _ D.TOz D.TOi1 D.TOi2 to⟩,q1,q2⟩ hp (λc o c1 _ c3 c4 e=>k c o c1 c3 c4 e) hsz)
end
section
variable {prog:Program}{w:World}{A:Around}{E:qQ2}{s:Shared}
abbrev lIter (t:Addr):Obj:={cls:=.type "list_iterator", data:=.fields #[.ref t,.int 0 0]}
end
end Zp
set_option maxHeartbeats 1000000
namespace L2
open PySem PySem.Spec PyProof.Rows
variable {H H1:Hp}{a c:Addr}{xs ys:List V}{v:V}{d:PyData}{scope:Scope}{env:Env}{l r:List (Str×Addr)}{x y:Str}{fp:List Addr}{pos:Pos}{it n i:Nat}{F:List V->Hp->Prop}{P:Program}{w:World}{G:Hp->Prop}{g:TG}{tb ta:TE}{σ:St}{b:Expr}{e:Nat->PyData}{items:Array Value}{elts:List Expr}{G1 G2:Heap->Prop}
def TxtOk (x:Str):Prop:=PyData.strOk x=true/\x.length<=1000000
mutual
inductive Is (K:qQ0)(H:Hp):V->PyData->Prop
 | non:Is K H .non .none
 | bl (b:Bool):Is K H (.bl b) (.bool b)
 | int (i:Int):Is K H (.int i) (.int i)
 | str (x:Str) (ok:TxtOk x):Is K H (.str x) (.str x)
 | lst {a:Addr}{xs:List V}{ds:List PyData}:SqL K H a xs->Iss K H xs ds->Is K H (.ref a) (.list ds)
 | tup {a:Addr}{xs:List V}{ds:List PyData}:SqT K H a xs->Iss K H xs ds->Is K H (.ref a) (.tuple ds)
inductive Iss (K:qQ0)(H:Hp):List V->List PyData->Prop
 | nil:Iss K H [] []
 | cons {v:V}{d:PyData}{vs:List V}{ds:List PyData}:Is K H v d->Iss K H vs ds->Iss K H (v::vs) (d::ds)
end
theorem Same.seqT {K:qQ0}{H':Hp}(e:Same H H')(h:SqT K H a xs):SqT K H' a xs:=by
 rcases h with(h|⟨o,h⟩)|h
 ·exact .inl (.inl (e _ _ h))
 ·exact .inl (.inr ⟨o,e _ _ h⟩)
 ·exact .inr h
section
variable {K:qQ0}{H H':Hp}
theorem Is.mono_both (e:Same H H'):(∀{v:V}{d:PyData},Is K H v d->Is K H' v d)/\(∀{vs:List V}{ds:List PyData},Iss K H vs ds->Iss K H' vs ds):=by
 refine⟨λ{v d} h=>?_,λ{vs ds} h=>?_⟩
 ·exact Is.rec (motive_1:=λv d _=>Is K H' v d) (motive_2:=λvs ds _=>Iss K H' vs ds) .non .bl .int .str (λq _ ih=>.lst (e.seq q) ih) (λq _ ih=>.tup (e.seqT q) ih) .nil (λ_ _ a b=>.cons a b) h
 ·exact Iss.rec (motive_1:=λv d _=>Is K H' v d) (motive_2:=λvs ds _=>Iss K H' vs ds) .non .bl .int .str (λq _ ih=>.lst (e.seq q) ih) (λq _ ih=>.tup (e.seqT q) ih) .nil (λ_ _ a b=>.cons a b) h
theorem Is.mono (h:Is K H v d)(e:Same H H'):Is K H' v d:=(Is.mono_both e).1 h
theorem Iss.mono {vs:List V}{ds:List PyData}(h:Iss K H vs ds)(e:Same H H'):Iss K H' vs ds:=(Is.mono_both e).2 h
theorem Iss.length:∀{vs:List V}{ds:List PyData},Iss K H vs ds->vs.length=ds.length
 | _,_,.nil=>rfl
 | _,_,.cons _ r=>by simp[r.length]
theorem Iss.append:∀{vs ws:List V}{ds es:List PyData},Iss K H vs ds->Iss K H ws es->Iss K H (vs++ws) (ds++es)
 | _,_,_,_,.nil,s=>s
 | _,_,_,_,.cons r t,s=>.cons r (Iss.append t s)
theorem Iss.get:∀{vs:List V}{ds:List PyData}{i:Nat}{v:V},Iss K H vs ds->vs[i]? = some v->∃d,ds[i]? = some d/\Is K H v d
 | _,_,_,_,.nil,e=>by simp at e
 | _,_,0,_,.cons r _,e=>by simp at e;subst e;exact⟨_,rfl,r⟩
 | _,_,i+1,v,.cons _ t,e=>by
  obtain⟨d,h1,h2⟩:=Iss.get (i:=i) (v:=v) t (by simpa using e)
  exact⟨d,by simpa using h1,h2⟩
theorem Iss.take:∀{vs:List V}{ds:List PyData} (n:Nat),Iss K H vs ds->Iss K H (vs.take n) (ds.take n)
 | _,_,0,_=>.nil
 | _,_,_+1,.nil=>.nil
 | _,_,n+1,.cons r t=>.cons r (Iss.take n t)
theorem Iss.drop:∀{vs:List V}{ds:List PyData} (n:Nat),Iss K H vs ds->Iss K H (vs.drop n) (ds.drop n)
 | _,_,0,r=>r
 | _,_,_+1,.nil=>.nil
 | _,_,n+1,.cons _ t=>Iss.drop n t
theorem Is.can_both:(∀{v:V}{d:PyData},Is K H v d->d.canLay0=true)/\(∀{vs:List V}{ds:List PyData},Iss K H vs ds->PyData.canLayAll0 ds=true):=by
 have hs:∀(x:Str),TxtOk x->(PyData.str x).canLay0=true:=λx h=>h.1
 refine⟨λ{v d} h=>?_,λ{vs ds} h=>?_⟩
 ·exact Is.rec (motive_1:=λv d _=>d.canLay0=true) (motive_2:=λvs ds _=>PyData.canLayAll0 ds=true) rfl (λ_=>rfl) (λ_=>rfl) hs (λ_ _ ih=>ih) (λ_ _ ih=>ih) rfl (λ_ _ a b=>by simp[PyData.canLayAll0,a,b]) h
 ·exact Iss.rec (motive_1:=λv d _=>d.canLay0=true) (motive_2:=λvs ds _=>PyData.canLayAll0 ds=true) rfl (λ_=>rfl) (λ_=>rfl) hs (λ_ _ ih=>ih) (λ_ _ ih=>ih) rfl (λ_ _ a b=>by simp[PyData.canLayAll0,a,b]) h
theorem Is.can (h:Is K H v d):d.canLay0=true:=Is.can_both.1 h
end
section
variable {X:Cx}{pins:List (Addr×Obj)}{σ:St}{H:Hp}{s:Shared}
theorem Inv.reads_both (I:Inv X pins σ H s):(∀{v:V}{d:PyData},Is X.K H v d->∀{u:Value},RelV v u->∃as,Reads s.heap u d as)/\(∀{vs:List V}{ds:List PyData},Iss X.K H vs ds->∀{us:List Value},Vals vs us->∃as,ReadsAll s.heap us ds as):=by
 have h1:∀{u:Value},RelV .non u->∃as,Reads s.heap u .none as:=λ{u} r=>by cases r;exact⟨_,.none⟩
 have h2:∀(b:Bool) {u:Value},RelV (.bl b) u->∃as,Reads s.heap u (.bool b) as:=λb {u} r=>by cases r;exact⟨_,.bool b⟩
 have h3:∀(i:Int) {u:Value},RelV (.int i) u->∃as,Reads s.heap u (.int i) as:=λi {u} r=>by obtain⟨t,rfl⟩:=r;exact⟨_,.int i t⟩
 have h4:∀(x:Str),TxtOk x->∀{u:Value},RelV (.str x) u->∃as,Reads s.heap u (.str x) as:=λx _ {u} r=>by obtain⟨t,rfl⟩:=r;exact⟨_,.str x t⟩
 have h5:∀{a:Addr}{xs:List V}{ds:List PyData} (_:SqL X.K H a xs) (_:Iss X.K H xs ds),(∀{us:List Value},Vals xs us->∃as,ReadsAll s.heap us ds as)->∀{u:Value},RelV (.ref a) u->∃as,Reads s.heap u (.list ds) as:=by
  intro a xs ds q _ ih u r
  cases r
  obtain⟨its,rv,⟨o,n,e,hc,_,hd⟩,_⟩:=I.list q
  obtain⟨as,ra⟩:=ih rv
  exact⟨_,.list e hc hd (by simpa using ra)⟩
 have h6:∀{a:Addr}{xs:List V}{ds:List PyData} (_:SqT X.K H a xs) (_:Iss X.K H xs ds),(∀{us:List Value},Vals xs us->∃as,ReadsAll s.heap us ds as)->∀{u:Value},RelV (.ref a) u->∃as,Reads s.heap u (.tuple ds) as:=by
  intro a xs ds q _ ih u r
  cases r
  obtain⟨its,rv,⟨o,e,hc,n,hd⟩,_⟩:=I.tuple q
  obtain⟨as,ra⟩:=ih rv
  exact⟨_,.tuple e hc hd (by simpa using ra)⟩
 have h7:∀{us:List Value},Vals [] us->∃as,ReadsAll s.heap us [] as:=λ{us} r=>by cases r;exact⟨_,.nil⟩
 have h8:∀{v:V}{d:PyData}{vs:List V}{ds:List PyData} (_:Is X.K H v d) (_:Iss X.K H vs ds),(∀{u:Value},RelV v u->∃as,Reads s.heap u d as)->(∀{us:List Value},Vals vs us->∃as,ReadsAll s.heap us ds as)->∀{us:List Value},Vals (v::vs) us->∃as,ReadsAll s.heap us (d::ds) as:=by
  intro v d vs ds _ _ a b us r
  cases r with
  | cons r t =>
   obtain⟨_,ra⟩:=a r
   obtain⟨_,rb⟩:=b t
   exact⟨_,.cons ra rb⟩
 refine⟨λ{v d} h=>?_,λ{vs ds} h=>?_⟩
 ·exact Is.rec (motive_1:=λv d _=>∀{u:Value},RelV v u->∃as,Reads s.heap u d as) (motive_2:=λvs ds _=>∀{us:List Value},Vals vs us->∃as,ReadsAll s.heap us ds as) h1 h2 h3 h4 h5 h6 h7 h8 h
 ·exact Iss.rec (motive_1:=λv d _=>∀{u:Value},RelV v u->∃as,Reads s.heap u d as) (motive_2:=λvs ds _=>∀{us:List Value},Vals vs us->∃as,ReadsAll s.heap us ds as) h1 h2 h3 h4 h5 h6 h7 h8 h
theorem Inv.reads (I:Inv X pins σ H s){u:Value}(h:Is X.K H v d)(r:RelV v u):∃as,Reads s.heap u d as:=I.reads_both.1 h r
def zsp (K:qQ0):R2:=λx y H Q=>∃d e,Is K H x d/\Is K H y e/\d.depth<=60/\Q (.bl (PyData.eqv d e)) H
def zsn (K:qQ0):R2:=λx y H Q=>∃d e,Is K H x d/\Is K H y e/\d.depth<=60/\Q (.bl (!PyData.eqv d e)) H
theorem zh8 (hu:X.A.units+64<cLine):OpR X (compareOp .Eq) (zsp X.K):=by
 intro pins s σ H x y v u Q I rx ry h
 obtain⟨d,e,hd,he,hz,q⟩:=h
 obtain⟨_,ra⟩:=I.reads hd rx
 obtain⟨_,rb⟩:=I.reads he ry
 exact SeqAt.rcAt_reads ra rb hd.can he.can (by omega) X.prog X.w X.xe _ (zhW I q rfl)
theorem uX (hu:X.A.units+64<cLine):OpR X (compareOp .NotEq) (zsn X.K):=by
 intro pins s σ H x y v u Q I rx ry h
 obtain⟨d,e,hd,he,hz,q⟩:=h
 obtain⟨_,ra⟩:=I.reads hd rx
 obtain⟨_,rb⟩:=I.reads he ry
 exact SeqAt.rcNeAt_reads ra rb hd.can he.can (by omega) X.prog X.w X.xe _ (zhW I q rfl)
end
def zbW (scope:Scope)(env:Env):List (Str×Addr):=scope.names.foldl (λcs y=>if y.2 == NameKind.free then(y.1,(env.cells.lookup y.1).getD 0)::cs else cs) []
theorem zeX (h:∀y∈scope.names,y.2=.free->∃c,env.cells.lookup y.1=some c):closureFor scope env=pure (zbW scope env):=by
 have key:∀(names:List (Str×NameKind)) (cs:List (Str×Addr)),(∀y∈names,y.2=.free->∃c,env.cells.lookup y.1=some c) ->
   (forIn names cs (λ(x:Str×NameKind) (r:List (Str×Addr))=>if (x.2 == NameKind.free)=true then(do let a ← cellOf env x.1;pure (ForInStep.yield ((x.1,a)::r)):Sem (ForInStep (List (Str×Addr)))) else pure (ForInStep.yield r))) =
    pure (names.foldl (λcs y=>if y.2 == NameKind.free then(y.1,(env.cells.lookup y.1).getD 0)::cs else cs) cs):=by
  intro names
  induction names with
  | nil=>intro cs _;rfl
  | cons y r ih =>
   intro cs hy
   have hr:∀z∈r,z.2=.free->∃c,env.cells.lookup z.1=some c:=λz hz=>hy z (lF _ hz)
   rw[lb1,la5]
   cases hk:(y.2 == NameKind.free) with
   | false =>
    simp only[lQ,la3]
    exact ih cs hr
   | true =>
    have e:y.2=.free:=by simpa using hk
    obtain⟨c,hc⟩:=hy y lJ e
    have hco:cellOf env y.1=pure c:=by unfold cellOf;rw[hc]
    simp only[lby,hco,hc,Option.getD_some]
    exact ih _ hr
 unfold closureFor zbW
 have:=key scope.names [] h
 first|exact(lbG (· >>= λr=>pure r) this).trans rfl|exact this|simpa using this
theorem zdU (h:∀y∈scope.names,y.2=.free->∃c,env.cells.lookup y.1=some c):∀p∈zbW scope env,env.cells.lookup p.1=some p.2/\(p.1,NameKind.free)∈scope.names:=by
 have key:∀(names:List (Str×NameKind)) (cs:List (Str×Addr)),(∀y∈names,y∈scope.names)->(∀p∈cs,env.cells.lookup p.1=some p.2/\(p.1,NameKind.free)∈scope.names) ->
   ∀p∈names.foldl (λcs y=>if y.2 == NameKind.free then(y.1,(env.cells.lookup y.1).getD 0)::cs else cs) cs,env.cells.lookup p.1=some p.2/\(p.1,NameKind.free)∈scope.names:=by
  intro names
  induction names with
  | nil=>intro cs _ hc;exact hc
  | cons y r ih =>
   intro cs hs hc
   rw[la5]
   refine ih _ (λz hz=>hs z (lF _ hz)) ?_
   cases hk:(y.2 == NameKind.free) with
   | false=>simp only[lQ,la3];exact hc
   | true =>
    have e:y.2=.free:=by simpa using hk
    obtain⟨c,hcc⟩:=h y (hs y lJ) e
    simp only[lby]
    intro p hp
    rcases lz.mp hp with rfl|hp
    ·exact⟨by rw[hcc];rfl,by have:=hs y lJ;rw[← e];exact this⟩
    ·exact hc p hp
 exact key scope.names [] (λ_ h=>h) (λp hp=>by cases hp)
theorem zeH (h:∃p∈l,p.1=x):∃c,l.lookup x=some c:=by
 induction l with
 | nil=>obtain⟨p,hp,_⟩:=h;cases hp
 | cons q r ih =>
  rw[lcb]
  cases hq:(x == q.1) with
  | true=>exact⟨_,rfl⟩
  | false =>
   obtain⟨p,hp,e⟩:=h
   rcases lz.mp hp with rfl|hp
   ·subst e;simp at hq
   ·exact ih ⟨p,hp,e⟩
theorem zdQ (hx:(x,NameKind.free)∈scope.names):∃c,(zbW scope env).lookup x=some c:=by
 refine zeH ?_
 have key:∀(names:List (Str×NameKind)) (cs:List (Str×Addr)),((x,NameKind.free)∈names∨∃p∈cs,p.1=x) ->
   ∃p∈names.foldl (λcs y=>if y.2 == NameKind.free then(y.1,(env.cells.lookup y.1).getD 0)::cs else cs) cs,p.1=x:=by
  intro names
  induction names with
  | nil=>intro cs h;rcases h with h|h;cases h;exact h
  | cons y r ih =>
   intro cs h
   rw[la5]
   refine ih _ ?_
   rcases h with h|⟨p,hp,e⟩
   ·rcases lz.mp h with h|h
    ·subst h
     exact .inr ⟨_,lJ,rfl⟩
    ·exact .inl h
   ·refine .inr ⟨p,?_,e⟩
    cases (y.2 == NameKind.free) with
    | true=>exact lF _ hp
    | false=>exact hp
 exact key scope.names [] (.inl hx)
theorem zar :(relabel scope env).names.lookup x=(scope.names.lookup x).map λk=>if (k == NameKind.free&&env.scope.kind == .function&&env.kindOf x == some .cell) then NameKind.cell else k:=by
 show(scope.names.map _).lookup x=_
 induction scope.names with
 | nil=>rfl
 | cons y r ih =>
  obtain⟨n,k⟩:=y
  rw[lr,lcb]
  cases hx:(x == n) with
  | true =>
   have e:x=n:=by simpa using hx
   subst e
   show List.lookup x ((if (k == NameKind.free&&env.scope.kind == .function&&env.kindOf x == some .cell)=true then(x,NameKind.cell) else(x,k))::_)=_
   split
   ·rename_i h
    simp only[lcb,hx,leq]
    rw[lO h]
   ·rename_i h
    simp only[lcb,hx,leq]
    rw[lY h]
  | false =>
   show List.lookup x ((if (k == NameKind.free&&env.scope.kind == .function&&env.kindOf n == some .cell)=true then(n,NameKind.cell) else(n,k))::_)=_
   split <;>simp only[lcb,hx] <;>exact ih
structure CompOk (X:Cx)(scope:Scope)(caps:List Nat):Prop where
 kind:scope.kind=.function
 ncell:∀y∈scope.names,y.2=.cell->scope.names.lookup y.1=some .cell
 locs:∀y∈scope.names,y.2=.local->scope.names.lookup y.1=some .local
 free:∀y∈scope.names,y.2=.free->X.env.kindOf y.1=some .cell∨X.env.kindOf y.1=some .free
 caps:∀i∈caps,∃y,X.N[i]? = some y/\scope.names.lookup y=some .free
def zr0 (X:Cx)(own:List Str)(caps:List Nat):List Str:=own++caps.map λi=>X.N.getD i Str.empty
def zfh (own:List Str)(caps:List Nat)(σ:St):St:=own.map (λ_=>none)++caps.map λi=>(σ[i]?).getD none
def zmd (scope:Scope)(C:Addr):List (Str×Addr):=cellsFrom (C+1) scope.names []
def zm6 (scope:Scope)(env:Env)(C:Addr):List (Str×Addr):=zmd scope C++zbW scope env
theorem zbn:∀(names:List (Str×NameKind)) (n:Nat) (acc:List (Str×Addr)),cellsFrom n names acc=cellsFrom n names []++acc:=by
 intro names
 induction names with
 | nil=>intro n acc;rfl
 | cons y r ih =>
  obtain⟨x,k⟩:=y
  intro n acc
  unfold cellsFrom
  split
  ·rw[ih _ ((x,n)::acc),ih _ [(x,n)],lba];rfl
  ·exact ih n acc
theorem zeA:∀(names:List (Str×NameKind)) (n:Nat) (x:Str) (c:Addr),(x,c)∈cellsFrom n names []->(x,NameKind.cell)∈names:=by
 intro names
 induction names with
 | nil=>intro n x c h;cases h
 | cons y r ih =>
  obtain⟨z,k⟩:=y
  intro n x c h
  unfold cellsFrom at h
  split at h
  ·rename_i hk
   rw[zbn] at h
   rcases lap.mp h with h|h
   ·exact lF _ (ih _ _ _ h)
   ·have e:=lK.mp h
    injection e with e1 e2
    subst e1
    have ek:k=.cell:=by simpa using hk
    subst ek
    exact lJ
  ·exact lF _ (ih _ _ _ h)
theorem zdX (h:(l++r).lookup x=some c):l.lookup x=some c∨(l.lookup x=none/\r.lookup x=some c):=by
 rw[ldV] at h
 cases e:l.lookup x with
 | none=>rw[e] at h;exact .inr ⟨rfl,h⟩
 | some d=>rw[e] at h;exact .inl h
theorem zhK (h:l.lookup x=some c):(l++r).lookup x=some c:=by rw[ldV,h];rfl
theorem zh4 (n:l.lookup x=none)(h:r.lookup x=some c):(l++r).lookup x=some c:=by rw[ldV,n];exact h
def cxC (X:Cx)(pins:List (Addr×Obj))(scope:Scope)(own:List Str)(caps:List Nat)(C:Addr)(ex:List Addr)(s:Shared)(H:Hp):Cx :=
 {X with N:=zr0 X own caps,s₀:=s,H₀:=H,env:=compEnvC scope (zm6 scope X.env C) C X.env,outer:=X.stack,ex:=ex,fn:=λx=>scope.names.lookup x == some .cell,pn:=X.pn++pins,xe:=λ_ _=>False}
section
variable {X:Cx}{pins:List (Addr×Obj)}{σ:St}{H:Hp}{s:Shared}{scope:Scope}{own:List Str}{caps:List Nat}
theorem Inv.track {D:Addr}{o:HO} (I:Inv X pins σ H s) (hn:H D=none) (h0:D∈X.ex∨X.s₀.heap.objs.size<=D) (hL:D≠X.env.locals) (hc:∀x c,X.env.cells.lookup x=some c->c≠D) (hp:∀p∈X.pn++pins,p.1≠D)
  (new:ObjOk X.prog X.w (upd H D o) s.heap D o):Inv X pins σ (upd H D o) s:=by
 have ne:∀b u,H b=some u->b≠D:=λb u e=>yN e hn
 have q := I.step (g':=s.gens) (t':=s.toks) (d':=s.drawn) (ch:=[D]) (h':=s.heap) (H':=upd H D o)
  (λb hb => by
                  have e:b=D:=by simpa using hb
                  subst e;exact⟨h0,hL,hc,hp⟩)
  (λb o' _ _ _ e _=>e) (λb o' _ _ _ e _=>⟨o'.slots,e⟩) (λb o' hb _ n=>by rw[zZ (λz=>hb (by simp[z]))];exact n) (λb o' _ e=>⟨o',e⟩)
  (λb xs e=>by rw[zZ (ne b _ e)];exact e) (λb o' u e=>by rw[zZ (ne b _ e)];exact e) (λb ps e=>⟨#[],by rw[zZ (ne b _ e),e];simp⟩) (λm hm=>hm)
  (λb u e=>by
   by_cases hb:b=D
   ·subst hb;rw[z7] at e;cases e;exact new
   ·rw[zZ hb] at e
    exact(I.hok b u e).stay (λc v _ q=>q) (λc q=>by rw[zZ (ne c _ q)];exact q) λc xs q=>by rw[zZ (ne c _ q)];exact q) I.bare
 exact q
theorem CompOk.cells (ok:CompOk X scope caps)(I:Inv X pins σ H s):∀y∈scope.names,y.2=.free->∃c,X.env.cells.lookup y.1=some c:=λy hy e=>I.ok.has y.1 (ok.free y hy e)
theorem Inv.block {h₁:Heap}{D C:Addr}{m:qQ3}{oD:Obj}{t:Nat}(ok:CompOk X scope caps)(I:Inv X pins σ H s)(hf:∀b∈fp,zlC X pins H b)(hfo:∀b∈fp,∃o,s.heap.get? b=some o/\∀v,o.data≠.cell v)
  (hD:D=s.heap.objs.size) (hC:s.heap.objs.size<=C) (hDC:D≠C) (k:∀b u,s.heap.get? b=some u->h₁.get? b=some u) (hn:h₁.Ns C m) (hoD:h₁.get? D=some oD) (hdD:∀v,oD.data≠.cell v) (cok:CellsOk h₁ (C+1) (zmd scope C)) :
  Inv (cxC X pins scope own caps C fp s H) [(D,oD)] (zfh own caps σ) H {s with heap:=h₁,toks:=t}:=by
 have hcl:=ok.cells I
 have lk:∀x c,(zbW scope X.env).lookup x=some c->X.env.cells.lookup x=some c/\(x,NameKind.free)∈scope.names:=λx c e=>zdU hcl (x,c) (laA e)
 have lA:∀x c,(zm6 scope X.env C).lookup x=some c->(C<c/\h₁.IsCell c none/\(x,c)∈zmd scope C)∨(zbW scope X.env).lookup x=some c:=λx c e=>by
  rcases zdX e with e|⟨_,e⟩
  ·have m:=laA e
   exact .inl ⟨(cok.empty x c m).2,(cok.empty x c m).1,m⟩
  ·exact .inr e
 have lkC:∀x c,X.env.cells.lookup x=some c->c<C:=λx c e=>by
  obtain⟨v,o,ho,_⟩:=I.cell x c e
  exact lB (ly ho) hC
 have nst:∀b,b≠X.env.locals->b∉X.fs->b∉frs X.stack:=λb h1 h2 hb=>by
  rcases lz.mp (I.stkSub b hb) with e|e
  ·exact h1 e
  ·exact h2 e
 have kinds:∀x,((relabel scope X.env).names.lookup x=some .cell∨(relabel scope X.env).names.lookup x=some .free)->(x,NameKind.free)∈scope.names∨scope.names.lookup x=some .cell:=λx hx=>by
  rw[zar] at hx
  cases e:scope.names.lookup x with
  | none=>rw[e] at hx;rcases hx with hx|hx <;>cases hx
  | some kd =>
   have hm:=laA e
   cases kd with
   | free=>exact .inl hm
   | cell=>exact .inr rfl
   | _=>rw[e] at hx;rcases hx with hx|hx <;>simp at hx
 refine⟨⟨I.ok.mod,ok.kind,I.ok.glob,I.ok.blt,hC,?_,?_,?_,I.ok.hd,I.ok.frames,.inl rfl,?_,I.bs,laC I.ok.bsz I.sz,?_,?_,I.stack,I.stkFree⟩,rfl,I.bare,Un.kept k,⟨m,hn,?_⟩,?_,I.hok.fresh hC,?_,?_,I.hok.kept k,?_⟩
 ·intro x y c h1 h2
  rcases lA x c h1 with⟨l1,_,m1⟩|h1 <;>rcases lA y c h2 with⟨l2,_,m2⟩|h2
  ·exact name_of_addr cok.apart m1 m2
  ·exact absurd (lkC y c (lk y c h2).1) (Nat.lt_asymm l1)
  ·exact absurd (lkC x c (lk x c h1).1) (Nat.lt_asymm l2)
  ·exact I.ok.inj x y c (lk x c h1).1 (lk y c h2).1
 ·intro x hx
  show ∃c,(zm6 scope X.env C).lookup x=some c
  cases e:(zmd scope C).lookup x with
  | some c=>exact⟨c,zhK e⟩
  | none =>
   rcases kinds x hx with h|h
   ·obtain⟨c,h⟩:=zdQ (env:=X.env) h
    exact⟨c,zh4 e h⟩
   ·obtain⟨c,h⟩:=zcn (n:=C+1) h
    unfold zmd at e
    rw[h] at e;cases e
 ·intro x c hx e
  have hx:(scope.names.lookup x == some .cell)=true:=hx
  obtain⟨c',h⟩:=zcn (sc:=scope) (n:=C+1) (by simpa using hx)
  have e':=zhK (r:=zbW scope X.env) h
  have e2:(zm6 scope X.env C).lookup x=some c:=e
  unfold zm6 zmd at e2
  rw[e'] at e2
  cases e2
  exact laC hC (laC (lc6 C) (cok.empty x _ (laA h)).2)
 ·intro b hb
  obtain⟨o,ho,_⟩:=hfo b hb
  refine⟨lR (lB (ly ho) hC),λx c e=>?_⟩
  rcases lA x c e with⟨l,_,_⟩|e
  ·exact la1 (leo (lB (ly ho) hC) l)
  ·exact(hf b hb).2.2.2.2.1 x c (lk x c e).1
 ·intro b o e hb
  rcases(hf b hb).2.2.2.1 with z|z
  ·exact I.ok.noex b o e z
  ·exact absurd (lB (ly e) (laC I.ok.bsz z)) (lbE _)
 ·exact λb hb=>nst b (hf b hb).2.1 (hf b hb).2.2.1
 ·intro i x v h1 h2 h3
  have h1':(own++caps.map λi=>X.N.getD i Str.empty)[i]? = some x:=h1
  unfold zfh at h2
  have hi:own.length<=i:=by
   apply lbV
   intro hlt
   rw[laY (by simpa using hlt),lH] at h2
   cases e:own[i]? with
   | none=>rw[e] at h2;cases h2
   | some y=>rw[e] at h2;cases h2
  rw[laJ (by simpa using hi),lH,lD] at h2
  rw[laJ hi,lH] at h1'
  cases e:caps[i - own.length]? with
  | none=>rw[e] at h2;cases h2
  | some j =>
   rw[e] at h2 h1'
   have hx:X.N.getD j Str.empty=x:=lp h1'
   have hv:(σ[j]?).getD none=some v:=lp h2
   obtain⟨y,hy,hfr⟩:=ok.caps j (lad e)
   have exy:x=y:=by rw[← hx,lh,hy];rfl
   subst exy
   have hs:σ[j]? = some (some v):=by
    cases q:σ[j]? with
    | none=>rw[q] at hv;cases hv
    | some z=>rw[q] at hv;exact lbG some hv
   have hfm:=laA hfr
   have hkd:=ok.free _ hfm rfl
   obtain⟨m',hn',hl⟩:=I.loc
   obtain⟨u,r,l⟩:=hl j x v hy hs (by rcases hkd with z|z;exact .inr (.inl z);exact .inr (.inr z))
   refine⟨u,r,.inr ⟨?_,?_⟩⟩
   ·show(relabel scope X.env).names.lookup x=some .cell∨(relabel scope X.env).names.lookup x=some .free
    rw[zar,hfr]
    simp only[leq]
    split
    ·exact .inl rfl
    ·exact .inr rfl
   ·rcases l with⟨hk,_⟩|⟨_,c,hc,o,ho,hd⟩
    ·rcases hkd with z|z <;>(rw[hk] at z;cases z)
    ·obtain ⟨c',hc'⟩:=zdQ (env:=X.env) hfm
     have e1:=(lk x c' hc').1
     rw[hc] at e1
     cases e1
     refine⟨c,zh4 ?_ hc',o,k _ _ ho,hd⟩
     cases e3:(zmd scope C).lookup x with
     | none=>rfl
     | some c3 =>
      have h3:=ok.ncell _ (zeA _ _ _ _ (laA e3)) rfl
      rw[hfr] at h3;cases h3
 ·intro x c e
  rcases lA x c e with⟨_,h,_⟩|e
  ·exact⟨_,h⟩
  ·obtain⟨v,o,ho,hd⟩:=I.cell x c (lk x c e).1
   exact⟨v,o,k _ _ ho,hd⟩
 ·intro x c e
  rcases lA x c e with⟨l,_,_⟩|e
  ·exact I.hok.fresh (laC hC (lel l))
  ·exact I.freeC x c (lk x c e).1
 ·intro p hp
  rcases lap.mp hp with hp|hp
  ·obtain⟨a1,a2,a3,a4,a5⟩:=I.pin p hp
   exact⟨k _ _ a1,a2,lR (lB (ly a1) hC),nst _ a3 a4,a5⟩
  ·have e:p=(D,oD):=by simpa using hp
   subst e
   refine⟨hoD,I.hok.fresh (Nat.le_of_eq hD.symm),hDC,?_,hdD⟩
   refine nst D ?_ (I.nofs (Nat.le_of_eq hD.symm))
   exact la1 (by rw[hD];exact I.lt)
 ·show(zfh own caps σ).length=(zr0 X own caps).length
  simp[zfh,zr0]
end
section
variable {prog:Program}{w:World}{A:Around}{R:Result->Shared->Prop}{s:Shared}
theorem zfi {elt target iter:Expr}{ifs:List Expr}{it acc:Value}(I:Nat->Shared->Prop)
  (turn : ∀n s,I n s->wpAny (model prog w) A (pyNext it) (λr s₁=>match r with
   | none=>R (.ok .next) s₁
   | some v=>wpAny (model prog w) A (letOwnedTupleGo target it v) (λ_ s₁'=>wpAny (model prog w) A (assign target env v) (λ_ s₂ =>
     wpAny (model prog w) A (forIn ifs true λc r=>if r=true then do let ok ← isTrue c env (eval c env);pure (ForInStep.yield ok) else pure (ForInStep.yield r)) (λok s₃ =>
      if ok=true then wpAny (model prog w) A (eval elt env) (λx s₄ =>
       wpAny (model prog w) A (call (.builtin "list.append") [acc,x]) (λ_ s₅=>∃m,m<n/\I m s₅) (λ_ _=>False) s₄) (λ_ _=>False) s₃
      else ∃m,m<n/\I m s₃) (λ_ _=>False) s₂) (λ_ _=>False) s₁') (λ_ _=>False) s₁) (λ_ _=>False) s)
  (n:Nat) (h:I n s) :
  codeAny (model prog w) A (.compLoop (.ListComp elt [⟨target,iter,ifs,0⟩] scope pos) 0 it acc env) R s:=by
 refine codeAny_loop rfl I (λn s hI=>?_) n h
 show wpAny _ A ((compTurn (.ListComp elt [⟨target,iter,ifs,0⟩] scope pos) 0 it acc env).onRaise (λx=>do noteFrame x env;theTreesLotGoes x)) _ _ s
 refine wpAny_noted ?_
 rw[compTurn_list]
 refine la (wpAny_standAt (la (laT (turn n s hI) (λr s₁ h₁=>?_) λ_ _ h'=>h'.elim)))
 cases r with
 | none=>exact lq h₁
 | some v =>
  refine la (laT h₁ (λ_ s₁' h₁'=>?_) λ_ _ h'=>h'.elim)
  refine la (laT h₁' (λ_ s₂ h₂=>la (laT h₂ (λok s₃ h₃=>?_) λ_ _ h'=>h'.elim)) λ_ _ h'=>h'.elim)
  cases ok with
  | false=>exact lq ⟨rfl,h₃⟩
  | true =>
   exact la (la (laT h₃ (λx s₄ h₄=>la (laT h₄ (λ_ s₅ h₅=>lq (lq ⟨rfl,h₅⟩)) λ_ _ h'=>h'.elim)) λ_ _ h'=>h'.elim))
end
def PTs (X:Cx)(ifs:List Expr)(t:TT):Prop :=
 ∀ (pins:List (Addr×Obj)) (s:Shared) (σ:St) (H:Hp) (Q:Bool->Hp->Prop),Inv X pins σ H s->t σ H Q ->
  wpAny (model X.prog X.w) X.A (forIn ifs true λc r=>if r=true then do let ok ← isTrue c X.env (eval c X.env);pure (ForInStep.yield ok) else pure (ForInStep.yield r)) (TP X pins σ Q) X.xe s
def Kps (σ σ':St):Prop:=σ'.length=σ.length/\∀(i:Nat) (v:V),σ[i]? = some (some v)->σ'[i]? = some (some v)
def zbT (g:TG)(tt:TT)(te:TE)(σ0:St)(F:List V->Hp->Prop)(J:It)(H1:Hp):Prop :=
 ∃ W : Nat->Nat->List V->Hp->Prop,(∃m,W 0 m [] H1)/\∀i m ys H,W i m ys H->ys.length<=sizeLine /\
  ((J.stop i H/\F ys H)∨(J.go i H/\ys.length<sizeLine/\∃N:List V->Hp->Prop,(∀ys' H',N ys' H'->∃m',m'<m/\W (i+1) m' ys' H') /\
    ∀x H',J.yld i H x H'->g x σ0 H' λσ2 H2=>Kps σ0 σ2/\tt σ2 H2 λb H3=>if b=true then te σ2 H3 λy H4=>N (ys++[y]) H4 else N ys H3))
def zrm (wi:TI)(g:TG)(tt:TT)(te:TE)(own:List Str)(caps:List Nat):TE:=λσ H Q=>wi σ H λJ H1=>zbT g tt te (zfh own caps σ) (λys H'=>∀D,H' D=none->Q (.ref D) (upd H' D (.lst ys))) J H1
section
variable {X:Cx}{pins:List (Addr×Obj)}{σ:St}{H:Hp}{s:Shared}{scope:Scope}{own:List Str}{caps:List Nat}{elt tg iter:Expr}{ifs:List Expr}{wi:TI}{g:TG}{tt:TT}{te:TE}{pos:Pos}
structure CompIn (X:Cx)(scope:Scope)(own:List Str)(caps:List Nat)(tg:Expr)(ifs:List Expr)(elt:Expr)(g:TG)(tt:TT)(te:TE):Prop where
 tgt:∀pins C ex s H,PG (cxC X pins scope own caps C ex s H) tg g
 tst:∀pins C ex s H,PTs (cxC X pins scope own caps C ex s H) ifs tt
 elm:∀pins C ex s H,PE (cxC X pins scope own caps C ex s H) elt te
theorem zgC {M:Model}{A:Around}{E:qQ2}{s:Shared}{scope:Scope}{g:Addr}{cl:List (Str×Addr)}{q:Str}{Q:Env->Shared->Prop}
  (h:∀h',h'.Ns s.heap.objs.size (λ_=>none)->(∀b o,s.heap.get? b=some o->h'.get? b=some o)->CellsOk h' (s.heap.objs.size+1) (zmd scope s.heap.objs.size) ->
   Q (newEnv scope s.heap.objs.size g (zmd scope s.heap.objs.size++cl) q none .none (some env) builtinsNs) {s with heap:=h'}) :
  wpAny M A (newFunctionEnv scope g cl [] q none .none (some env)) Q E s:=by
 simp only[newFunctionEnv,Option.isSome_some,lby]
 refine la (wpAny_alloc ?_)
 refine la (wpAny_layCells _ (λname kind cells=>by cases hkc:kind == NameKind.cell <;>simp[hkc]) _ _ _ _ ?_)
 have ok:=cellsFrom_ok scope.names (s.heap.push {cls:=.type "dict", data:=.dict #[]}) (s.heap.objs.size+1) [] ⟨λ_ _ hm=>(nomatch hm),List.Pairwise.nil⟩ (by rw[las];exact lu _)
 rw[las] at ok
 rw[show({s with heap:=s.heap.push {cls:=.type "dict", data:=.dict #[]} }:Shared).heap.objs.size=s.heap.objs.size+1 from las ..]
 rw[zbn,lce]
 refine la (lq (lq ?_))
 exact h _ ((Heap.Ns.new s.heap (.type "dict")).keeps (pushCells_keeps _ _)) (λb o e=>pushCells_keeps _ _ b o (lg _ e)) ok
theorem zgq {use:Option (Value->Sem Unit)}{Qv:qQ2}(ok:CompOk X scope caps)(hc:X.calm=true)(hi:PI X tg iter wi)(CI:CompIn X scope own caps tg ifs elt g tt te)(I:Inv X pins σ H s)
  (h:wi σ H λJ H1=>zbT g tt te (zfh own caps σ) F J H1)
  (fin:∀(D C:Addr) (ys:List V) (H':Hp) (s1:Shared) (m:qQ3),Inv X pins σ (upd H' D (.lst ys)) s1->H' D=none->F ys H'->s1.heap.Ns C m->H' C=none->C≠D->C≠X.env.locals->C∉X.fs->X.s₀.heap.objs.size<=C ->
   (∀x c,X.env.cells.lookup x=some c->c≠C)->(∀p∈X.pn++pins,p.1≠C)->compPost (model X.prog X.w) X.A X.xe use Qv (.ref D) C (.ok .next) s1)
  (hs:∀x,foldedSetIterable iter X.env x=pure x:=by intro _;rfl) :
  wpAny (model X.prog X.w) X.A (comprehension (.ListComp elt [⟨tg,iter,ifs,0⟩] scope pos) scope X.env (firstIterPos [⟨tg,iter,ifs,0⟩] pos) (newList []) false (eval iter X.env) use) Qv X.xe s:=by
 refine wpAny_comprehension_free rfl hs (zeX (ok.cells I)) ok.kind ok.locs (thn (hi pins s σ H _ I h) λv s1 h1=>thn h1 λitv s2 h2=>?_)
 obtain⟨it,fp,tn,J,H2,e,I2,T,st2,f2,W,⟨m0,w0⟩,turn⟩:=h2
 subst e
 refine laz (zgC (λh₁ hns₁ hsb₁ cok=>?_))
 dsimp only at hns₁ hsb₁ cok ⊢
 generalize hH2:s2.heap.push {cls:=.type "list", dict:=none,data:=.seq ([]:List Value).toArray}=HH at hns₁ hsb₁ cok ⊢
 have hCs:HH.objs.size=s2.heap.objs.size+1:=by rw[← hH2,las]
 have hDC:s2.heap.objs.size≠HH.objs.size:=by rw[hCs];exact lR (ldk _)
 have hC:s2.heap.objs.size<=HH.objs.size:=by rw[hCs];exact lc6 _
 have old:∀b o,s2.heap.get? b=some o->h₁.get? b=some o:=λb o e =>
  hsb₁ b o (hH2▸lg _ e)
 have hoD:h₁.get? s2.heap.objs.size=some {cls:=.type "list", data:=.seq ([]:List Value).toArray}:=hsb₁ _ _ (hH2▸lC _ rfl)
 have fo:∀b∈fp,∃o,s2.heap.get? b=some o/\∀v,o.data≠.cell v:=T.obj _ _ st2
 have I4:=Inv.block (own:=own) (t:=s2.toks) ok I2 f2 fo rfl hC hDC old hns₁ hoD (λv z=>by cases z) cok
 have st4:tn 0 h₁:=T.keep _ _ _ st2 λb _ o e=>old b o e
 have hDfp:∀b∈fp,b≠s2.heap.objs.size:=λb hb=>by obtain⟨o,ho,_⟩:=fo b hb;exact lR (ly ho)
 have hCfp:∀b∈fp,b≠HH.objs.size:=λb hb=>by obtain⟨o,ho,_⟩:=fo b hb;exact lR (lB (ly ho) hC)
 have pnD:∀p∈X.pn++pins,p.1≠s2.heap.objs.size:=λp hp=>lR (ly (I2.pin p hp).1)
 have pnC:∀p∈X.pn++pins,p.1≠HH.objs.size:=λp hp=>lR (lB (ly (I2.pin p hp).1) hC)
 have clX:∀x c,X.env.cells.lookup x=some c->c<s2.heap.objs.size:=λx c e=>by obtain⟨v,o,ho,_⟩:=I2.cell x c e;exact ly ho
 have cl:∀x c,(zm6 scope X.env HH.objs.size).lookup x=some c->X.env.cells.lookup x=some c∨HH.objs.size<c:=λx c e=>by
  rcases zdX e with e|⟨_,e⟩
  ·exact .inr (cok.empty x c (laA e)).2
  ·exact .inl (zdU (ok.cells I) (x,c) (laA e)).1
 have YA:(cxC X pins scope own caps HH.objs.size fp s2 H2).env=compEnvC scope (zm6 scope X.env HH.objs.size) HH.objs.size X.env:=rfl
 have stat:∀{H':Hp}{oD:Obj},(∀b∈fp,H' b=none)->∀b∈fp,zlC (cxC X pins scope own caps HH.objs.size fp s2 H2) [(s2.heap.objs.size,oD)] H' b:=λ{H' oD} hn b hb=>by
  refine⟨hn b hb,hCfp b hb,?_,.inl hb,λx c e=>?_,λp hp=>?_⟩
  ·intro z
   rcases lz.mp (I2.stkSub b z) with e|e
   ·exact(f2 b hb).2.1 e
   ·exact(f2 b hb).2.2.1 e
  ·rcases cl x c e with e|e
   ·exact(f2 b hb).2.2.2.2.1 x c e
   ·obtain⟨o,ho,_⟩:=fo b hb
    exact la1 (leo (lB (ly ho) hC) e)
  ·rcases lap.mp hp with hp|hp
   ·exact(f2 b hb).2.2.2.2.2 p hp
   ·have e:p=(s2.heap.objs.size,oD):=by simpa using hp
    subst e
    exact(hDfp b hb).symm
 have loop:∀s₃:Shared,s₃={s2 with heap:=h₁} ->
   codeAny (model X.prog X.w) X.A (.compLoop (.ListComp elt [⟨tg,iter,ifs,0⟩] scope pos) 0 (.ref it) (.ref s2.heap.objs.size) (compEnvC scope (zm6 scope X.env HH.objs.size) HH.objs.size X.env)) (compPost (model X.prog X.w) X.A X.xe use Qv (.ref s2.heap.objs.size) HH.objs.size) s₃:=by
  rintro s₃ rfl
  refine zfi (λn s'=>∃i ys its c H',Inv (cxC X pins scope own caps HH.objs.size fp s2 H2) [(s2.heap.objs.size,{cls:=.type "list", data:=.seq its.toArray c})] (zfh own caps σ) H' s'/\Vals ys its/\tn i s'.heap/\(∀b∈fp,H' b=none)/\W i n ys H') ?_ m0
   ⟨0,[],[],0,H2,I4,.nil,st4,λb hb=>(f2 b hb).1,w0⟩
  rintro n s' ⟨i,ys,its,c,H',I',rv,st',fr',w'⟩
  obtain⟨hz,hcase⟩:=turn i n ys H' w'
  rcases hcase with⟨stop,qF⟩|⟨go,hlt,N,hN,step⟩
  ·refine thn (T.done (cxC X pins scope own caps HH.objs.size fp s2 H2) rfl rfl rfl hc i _ s' _ H' _ I' (stat fr') st' stop) λr s1 zpM=>?_
   obtain⟨hr,I1⟩:=zpM
   subst hr
   obtain⟨m1,hn1,_⟩:=I1.loc
   obtain⟨pD,nD,_⟩:=I1.pin _ (lV _ (lK.mpr rfl))
   have J1:Inv X pins σ H' s1:=I2.call' I1.os I1.base I1.hok I1.bare λb hb=>⟨(f2 b hb).2.2.2.1,(f2 b hb).2.1,(f2 b hb).2.2.2.2.1,(f2 b hb).2.2.2.2.2⟩
   have J2:Inv X pins σ (upd H' s2.heap.objs.size (.lst ys)) s1:=J1.track nD (.inr I2.sz) (la1 I2.lt) (λx c e=>lR (clX x c e)) pnD ⟨hz,its,c,rv,pD⟩
   exact fin _ _ ys H' s1 m1 J2 nD qF hn1 I1.free hDC.symm (la1 (lB I2.lt hC)) (I2.nofs hC) (laC I2.sz hC) (λx c e=>lR (lB (clX x c e) hC)) pnC
  ·refine thn (T.item (cxC X pins scope own caps HH.objs.size fp s2 H2) rfl rfl rfl hc i _ s' _ H' _ I' (stat fr') st' go) λr s1 zpH=>?_
   obtain⟨u,hr,h1⟩:=zpH
   subst hr
   refine thn h1 λ_ s2' zpC=>?_
   obtain⟨x,H5,I5,r5,y5,st5,fr5⟩:=zpC
   have I5':=I5.pinned (stat fr5) (T.obj _ _ st5)
   refine thn (CI.tgt pins _ _ _ _ _ s2' _ H5 x u _ I5' r5 (step x H5 y5)) λ_ s6 hq30=>?_
   obtain⟨σ6,H6,I6,kp6,q6⟩:=hq30
   refine thn (CI.tst pins _ _ _ _ _ s6 σ6 H6 _ I6 q6) λb s7 hq31=>?_
   obtain⟨H7,I7,q7⟩:=hq31
   have again:∀{H8:Hp}{s8:Shared}{ys':List V}{its':List Value}{c':Nat},Inv (cxC X pins scope own caps HH.objs.size fp s2 H2) ([(s2.heap.objs.size,{cls:=.type "list", data:=.seq its'.toArray c'})]++zcW fp s2'.heap) σ6 H8 s8->Vals ys' its'->N ys' H8 ->
     ∃m,m<n/\∃i ys its c H',Inv (cxC X pins scope own caps HH.objs.size fp s2 H2) [(s2.heap.objs.size,{cls:=.type "list", data:=.seq its.toArray c})] (zfh own caps σ) H' s8/\Vals ys its/\tn i s8.heap/\(∀b∈fp,H' b=none)/\W i m ys H':=by
    intro H8 s8 ys' its' c' I8 rv' n8
    obtain⟨m',hm,w8⟩:=hN ys' H8 n8
    refine⟨m',hm,i+1,ys',its',c',H8,I8.unpinned.weak kp6.1.symm kp6.2,rv',T.keep _ _ _ st5 λb hb o e=>(I8.pin (b,o) (lV _ (lV _ (j4 hb e)))).1,λb hb=>?_,w8⟩
    obtain⟨o,e,d⟩:=T.obj _ _ st5 b hb
    exact(I8.pin (b,o) (lV _ (lV _ (j4 hb e)))).2.1
   cases b with
   | false=>exact again I7 rv q7
   | true =>
    refine thn (CI.elm pins _ _ _ _ _ s7 σ6 H7 _ I7 q7) λyv s8 hq32=>?_
    obtain⟨y,H8,I8,r8,q8⟩:=hq32
    obtain⟨pD,nD,ncD,nfD,_⟩:=I8.pin (s2.heap.objs.size,{cls:=.type "list", data:=.seq its.toArray c}) (lV _ (lbX _ (lK.mpr rfl)))
    have hlen:=rv.length
    refine lcI PySem.F.slot_list_append ⟨_,pD,rfl⟩ PySem.F.entry_list_append (PySem.F.args_list_append_2 _ _) (PySem.list_append s2.heap.objs.size its.toArray c yv (by rw[lI];omega)) ⟨pD,?_⟩
    have ef:its.toArray.push yv=(its++[yv]).toArray:=by simp
    obtain⟨c',q⟩:∃c',(s8.heap.update s2.heap.objs.size (Obj.mapSeq λxs=>xs.push yv)).get? s2.heap.objs.size=some {cls:=.type "list", data:=.seq (its++[yv]).toArray c'}:=⟨_,by rw[← ef];exact PySem.IsL.update pD (λxs=>xs.push yv)⟩
    have keepB:∀b o,b≠s2.heap.objs.size->s8.heap.get? b=some o->(s8.heap.update s2.heap.objs.size (Obj.mapSeq λxs=>xs.push yv)).get? b=some o:=λb o hb e=>(Heap.get?_update_other s8.heap _ (lbF hb)).trans e
    have I9:Inv (cxC X pins scope own caps HH.objs.size fp s2 H2) (zcW fp s2'.heap) σ6 H8 s8:=I8.pins_of λp hp=>I8.pin p (lV _ (lV _ hp))
    have I10:Inv (cxC X pins scope own caps HH.objs.size fp s2 H2) (zcW fp s2'.heap) σ6 H8 {s8 with heap:=s8.heap.update s2.heap.objs.size (Obj.mapSeq λxs=>xs.push yv)}:=by
     refine I9.turned (t':=s8.toks) (it:=s2.heap.objs.size) keepB nD ncD (.inr (lu _)) (λx c e=>(cl x c e).elim (λe=>lR (clX x c e)) λe=>la1 (Nat.lt_of_le_of_lt hC e)) λp hp=>?_
     rcases lap.mp hp with hp|hp
     ·exact pnD p hp
     ·exact hDfp _ (zft hp).1
    refine again (its':=its++[yv]) (c':=c') (I10.pins_of λp hp=>?_) (rv.append (.cons r8 .nil)) q8
    rcases lap.mp hp with hp|hp
    ·have e:=lK.mp hp
     subst e
     exact⟨q,nD,ncD,nfD,λv z=>by cases z⟩
    ·exact I10.pin p (lV _ hp)
 exact codeAny_compStart_list (loop _ rfl) (T.self _ 0 _ _ _ st4 (loop _ rfl))
theorem zhb (ok:CompOk X scope caps)(hc:X.calm=true)(hi:PI X tg iter wi)(CI:CompIn X scope own caps tg ifs elt g tt te)(hs:∀x,foldedSetIterable iter X.env x=pure x:=by intro _;rfl) :
  PE X (.ListComp elt [⟨tg,iter,ifs,0⟩] scope pos) (zrm wi g tt te own caps):=by
 intro pins s σ H Q I h
 rw[eval_ListComp]
 refine zgq (use:=none) ok hc hi CI I h (λD C ys H' s1 m I1 nD q hn nC hCD hCL hCf hC0 hCc hCp=>?_) hs
 refine⟨m,hn,λh' hsb=>?_⟩
 have I2:Inv X pins σ (upd H' D (.lst ys)) {s1 with heap:=h'}:=I1.turned (t':=s1.toks) (it:=C) (λb o hb e=>hsb.extBut b o hb e) (by rw[zZ hCD];exact nC) hCL (.inr hC0) hCc hCp
 exact⟨.ref D,_,I2,rfl,q D nD⟩
def zrn (j:Nat)(wi:TI)(g:TG)(tt:TT)(te:TE)(own:List Str)(caps:List Nat):TS:=λE σ H=>wi σ H λJ H1=>zbT g tt te (zfh own caps σ) (λys H'=>∀D,H' D=none->E.nx (σ.set j (some (.ref D))) (upd H' D (.lst ys))) J H1
theorem znN {j:Nat}{py spos:Pos}(hN:X.N.Nodup)(hj:X.N[j]? = some y)(hy:X.env.scope.names.lookup y=some .local)(ok:CompOk X scope caps)(hc:X.calm=true)(hi:PI X tg iter wi)(CI:CompIn X scope own caps tg ifs elt g tt te)
  (hsw:swapsWith (.ListComp elt [⟨tg,iter,ifs,0⟩] scope pos) (some (.Name y py)) spos.line X.env=pure true) (hs:∀x,foldedSetIterable iter X.env x=pure x:=by intro _;rfl) :
  PS X (.Assign [.Name y py] (.ListComp elt [⟨tg,iter,ifs,0⟩] scope pos) spos) (zrn j wi g tt te own caps):=by
 intro pins s σ H E I h
 rw[exec_Assign_Name_used _ _ _ _ hsw]
 refine la (wpAny_standAt (la ?_))
 show wpAny _ X.A (do let _ ← comprehension (.ListComp elt [⟨tg,iter,ifs,0⟩] scope pos) scope X.env _ (newList []) false (eval iter X.env) (some (assign (.Name y py) X.env))) _ _ s
 refine la (laT (zgq (use:=some (assign (.Name y py) X.env)) (Qv:=λ_ s'=>SP X pins E .next s') ok hc hi CI I h (λD C ys H' s1 m I1 nD q hn nC hCD hCL hCf hC0 hCc hCp=>?_) hs) (λ_ s' hq=>lq (lq hq)) λ_ _ e=>e)
 obtain⟨oC,es,ep,eC,dC,rC⟩:=id hn
 have I2:Inv X (pins++[(C,oC)]) σ (upd H' D (.lst ys)) s1:=I1.pins_of λp hp=>by
  rcases lap.mp hp with hp|hp
  ·exact I1.pin p (lV _ hp)
  ·have e:=lK.mp hp
   subst e
   exact⟨eC,by rw[zZ hCD];exact nC,hCL,hCf,λv z=>by rw[dC] at z;cases z⟩
 show wpAny _ X.A (assign (.Name y py) X.env (.ref D)) _ _ s1
 refine wpAny_assign_Name (zae (v:=.ref D) I2 hN hj (.inl hy) rfl (λs2 I3=>?_) (.inr hy))
 obtain⟨e3,n3,_⟩:=I3.pin (C,oC) (lV _ (lV _ (lK.mpr rfl)))
 have I4:Inv X pins (σ.set j (some (.ref D))) (upd H' D (.lst ys)) s2:=I3.pins_of λp hp=>I3.pin p (lV _ (lbX _ hp))
 refine⟨m,⟨oC,es,ep,e3,dC,rC⟩,λh' hsb=>?_⟩
 have I5:Inv X pins (σ.set j (some (.ref D))) (upd H' D (.lst ys)) {s2 with heap:=h'}:=I4.turned (t':=s2.toks) (it:=C) (λb o hb e=>hsb.extBut b o hb e) n3 hCL (.inr hC0) hCc hCp
 exact⟨_,_,I5,q D nD⟩
end
def T (l:List Nat):Str:=⟨l.toArray⟩
theorem zbc (l:List Nat):(T l).cps.toList=l:=by simp[T]
theorem zsG (x:Str):T x.cps.toList=x:=by cases x;simp[T]
theorem zdq (l:List Nat):(T l).length=l.length:=by simp[T,Str.length]
theorem zpq (l m:List Nat):T l++T m=T (l++m):=by
 show Str.append (T l) (T m)=_
 simp[Str.append,T]
theorem zkp {l m:List Nat}(h:T l=T m):l=m:=by
 have:=lbG (λx:Str=>x.cps.toList) h
 simpa [T] using this
theorem zqo (l m:List Nat):(T l == T m)=(l == m):=by
 rw[lcR]
 simp only[ldB]
 exact⟨zkp,lbG T⟩
theorem ze5 {l:List Nat}(h:∀c∈l,c<0x110000)(hl:l.length<=1000000):TxtOk (T l):=by
 refine⟨?_,by rw[zdq];exact hl⟩
 show(T l).cps.all (· < 0x110000)=true
 simp only[T,ldl,lag,lae]
 exact h
theorem TxtOk.app (hx:TxtOk x)(hy:TxtOk y)(hl:x.length+y.length<=1000000):TxtOk (x++y):=by
 obtain⟨a,_⟩:=hx
 obtain⟨b,_⟩:=hy
 refine⟨?_,?_⟩
 ·have a':x.cps.all (· < 0x110000)=true:=a
  have b':y.cps.all (· < 0x110000)=true:=b
  show(x.cps++y.cps).all (· < 0x110000)=true
  rw[Array.all_append,a',b'];rfl
 ·show(x.cps++y.cps).size<=1000000
  rw[ld2];exact hl
theorem zhE (lo:Option Int)(n d:Nat)(hd:d<=n):(match lo with|none=>(d:Int)|some i=>max 0 (min (if i<0 then i+(n:Int) else i) (n:Int)))=((HT.sIx n d lo:Nat):Int):=by
 cases lo with
 | none=>rfl
 | some i =>
  show max 0 (min (if i<0 then i+(n:Int) else i) (n:Int))=(((if i<0 then(i+(n:Int)).toNat else min i.toNat n):Nat):Int)
  split <;>omega
theorem zoT (x:Str)(lo hi:Option Int):Txt.slice x lo hi=T ((x.cps.toList.drop (HT.sIx x.length 0 lo)).take (HT.sIx x.length x.length hi - HT.sIx x.length 0 lo)):=by
 have ha:HT.sIx x.length 0 lo<=x.length:=HT.sIx_le _ _ (lbm _) lo
 have hb:HT.sIx x.length x.length hi<=x.length:=HT.sIx_le _ _ (lu _) hi
 have e:Builtin.Str.strSliceIndices lo hi 1 x.length=Builtin.Str.strSliceIndices (some ((HT.sIx x.length 0 lo:Nat):Int)) (some ((HT.sIx x.length x.length hi:Nat):Int)) 1 x.length:=by
  have h1:=zhE lo x.length 0 (lbm _)
  have h2:=zhE hi x.length x.length (lu _)
  generalize HT.sIx x.length 0 lo=a at *
  generalize HT.sIx x.length x.length hi=b at *
  have k1:max 0 (min (if (a:Int)<0 then(a:Int)+(x.length:Int) else(a:Int)) (x.length:Int))=(a:Int):=by split <;>omega
  have k2:max 0 (min (if (b:Int)<0 then(b:Int)+(x.length:Int) else(b:Int)) (x.length:Int))=(b:Int):=by split <;>omega
  unfold Builtin.Str.strSliceIndices
  simp only[show(1:Int) > 0 by decide,lby,k1,k2]
  cases lo <;>cases hi <;>simp only at h1 h2 ⊢ <;>first|rw[h1,h2] | (rw[← h1,← h2];rfl)
 have e2:Txt.slice x lo hi=StrLaws.sliceText x (some ((HT.sIx x.length 0 lo:Nat):Int)) (some ((HT.sIx x.length x.length hi:Nat):Int)):=by
  unfold Txt.slice StrLaws.sliceText
  rw[e]
 rw[e2]
 by_cases hab:HT.sIx x.length 0 lo<=HT.sIx x.length x.length hi
 ·exact StrLaws.sliceText_nat x hab hb
 ·have hz:HT.sIx x.length x.length hi - HT.sIx x.length 0 lo=0:=by omega
  rw[hz,lcf]
  generalize HT.sIx x.length 0 lo=a at *
  generalize HT.sIx x.length x.length hi=b at *
  have k1:max 0 (min (if (a:Int)<0 then(a:Int)+(x.length:Int) else(a:Int)) (x.length:Int))=(a:Int):=by split <;>omega
  have k2:max 0 (min (if (b:Int)<0 then(b:Int)+(x.length:Int) else(b:Int)) (x.length:Int))=(b:Int):=by split <;>omega
  have e3:Builtin.Str.strSliceIndices (some (a:Int)) (some (b:Int)) 1 x.length=[]:=by
   unfold Builtin.Str.strSliceIndices sliceRange
   simp only[show(1:Int) > 0 by decide,lby,k1,k2]
   have:¬((b:Int) > (a:Int)):=by omega
   simp[this]
   try omega
  unfold StrLaws.sliceText
  rw[e3]
  simp only[lah,List.filterMap_nil]
  split
  ·rename_i h
   have hn:x.length=0:=by
    simp at h
    omega
   omega
  ·rfl
section
variable {X:Cx}{e:Expr}{te:TE}{pos p2:Pos}
def zs3:V->Option Int->Option Int->Hp->VK->Prop:=λx lo hi H Q=>∃z,x=.str z/\z.length<=sizeLine/\Q (.str (T ((z.cps.toList.drop (HT.sIx z.length 0 lo)).take (HT.sIx z.length z.length hi - HT.sIx z.length 0 lo)))) H
theorem part_of {v:Value}{o:Option Int}(p:IsPart v o):∃q:Option (Int×Tok),v=partValue q/\q.map (·.1)=o:=by
 cases p with
 | none=>exact⟨none,rfl,rfl⟩
 | int i t=>exact⟨some (i,t),rfl,rfl⟩
theorem zqv:SlR X zs3:=by
 intro pins s σ H x v vl vu lo hi sl Q I rx hs pl pu h
 obtain⟨z,rfl,hz,q⟩:=h
 obtain⟨t,rfl⟩:=rx
 obtain⟨l,rfl,rfl⟩:=part_of pl
 obtain⟨u,rfl,rfl⟩:=part_of pu
 refine⟨"str", _,PySem.F.slot_str_getitem.lookup,typeIs_str _ _ _,?_⟩
 refine wpAny_getItem_str_slice (l:=l) (u:=u) (st:=none) hs rfl ?_
 refine post_val_or_str (y:=z) ?_
 have e:=zoT z (l.map (·.1)) (u.map (·.1))
 unfold Txt.slice at e
 refine⟨laC (Txt.slice_le z (l.map (·.1)) (u.map (·.1))) hz,λt' k=>⟨.str _,H,I.tok _,⟨t',?_⟩,q⟩⟩
 exact lbG (λy=>Value.str y t') e
def Its (x:Str):It:=⟨λi _=>i<x.cps.size,λi H v H'=>H'=H/\∃c,x.cps.toList[i]? = some c/\v=.str (T [c]),λi _=>x.cps.size<=i⟩
theorem zh3 {K:qQ0}{tg:Expr}{t:Tok}{ty:String}(it:Addr)(W:∀A':Around,A'.handled=none->Walks P w A' it [it] [it] x.cps.size (SignAt x) (λi h=>h.IsStrIter it ty x t i))
  (hn:["enumerate", "zip", "dict_itemiterator", "dict_reverseitemiterator", "odict_iterator", "itertools.zip_longest", "itertools.pairwise"].contains ty=false)
  (hend:∀(A:Around) (i:Nat) (s:Shared) (Q:Option Value->Shared->Prop) (E:qQ2),A.handled=none->s.heap.IsStrIter it ty x t i->x.cps[i]? = none->(∀h',Heap.ExtBut it s.heap h'->Q none {s with heap:=h'})->wpAny (model P w) A (pyNext (.ref it)) Q E s)
  (hself:∀(A:Around) (i:Nat) (s:Shared) (Q:qQ2) (E:qQ2),s.heap.IsStrIter it ty x t i->Q (.ref it) s->wpAny (model P w) A (pyIter (.ref it)) Q E s) :
  Turn P w K tg (Its x) [it] it (λi h=>h.IsStrIter it ty x t i) where
 mem:=by simp
 obj:=λi h st b hb=>by
  have e:b=it:=by simpa using hb
  subst e
  obtain⟨o,e,c,d⟩:=st
  exact⟨o,e,λv z=>by rw[d] at z;cases z⟩
 keep:=λi h h' st k=>by obtain⟨o,e,r⟩:=st;exact⟨o,k it (by simp) o e,r⟩
 item:=by
  intro X hP hw hK hc i pins s σ H E I hf st hg
  subst hP hw hK
  obtain⟨f0,f1,f2,f3,f4,f5⟩:=hf it (by simp)
  refine(W X.A (I.ok.hd hc)).item i s _ _ hg st λv h' tk hv st' kk=>?_
  obtain⟨c,u,hcc,rfl⟩:=hv
  have I1:Inv X pins σ H {s with heap:=h',toks:=tk}:=I.turned (λb o hb e=>kk b o (by simpa using hb) e) f0 f1 f3 f4 f5
  obtain⟨o,e,c1,d1⟩:=id st'
  exact⟨_,rfl,zmb (s:={s with heap:=h',toks:=tk}) e c1 d1 hn ⟨.str (T [c]),H,I1,⟨u,rfl⟩,⟨rfl,c,by simpa using hcc,rfl⟩,st',λb hb=>(hf b hb).1⟩⟩
 done:=by
  intro X hP hw hK hc i pins s σ H E I hf st hg
  subst hP hw hK
  obtain⟨f0,f1,f2,f3,f4,f5⟩:=hf it (by simp)
  have hge:x.cps.size<=i:=hg
  exact hend X.A i s _ _ (I.ok.hd hc) st (lbO hge) λh' eb=>⟨rfl,I.turned (t':=s.toks) (λb o hb e=>eb b o hb e) f0 f1 f3 f4 f5⟩
 self:=λA i s Q E st h=>hself A i s Q E st h
def zsB (tl:TE):TI:=λσ H R=>tl σ H λv H1=>∃x,v=.str x/\R (Its x) H1
theorem zpI {tg l:Expr}{tl:TE}(hl:PE X l tl):PI X tg l (zsB tl):=by
 intro pins s σ H R I h
 refine thn (hl pins s σ H _ I h) λv s1 hq33=>?_
 obtain⟨y,H1,I1,r1,q1⟩:=hq33
 obtain⟨x,e,q⟩:=q1
 subst e
 obtain⟨t,rfl⟩:=r1
 have fin:∀(ty:String) (T':Turn X.prog X.w X.K tg (Its x) [s1.heap.objs.size] s1.heap.objs.size (λi h=>h.IsStrIter s1.heap.objs.size ty x t i)),
   PIE X pins σ tg R (.ref s1.heap.objs.size) {s1 with heap:=s1.heap.push {cls:=.type ty,data:=.fields #[.str x t,.int 0 0]} }:=λty T' =>
  ⟨s1.heap.objs.size,[s1.heap.objs.size],_,_,H1,rfl,I1.kept (t':=s1.toks) λb o e=>lg _ e,T',⟨_,lC _ rfl,rfl,rfl⟩,λb hb=>by
   have e:b=s1.heap.objs.size:=by simpa using hb
   subst e
   exact I1.fpOk (lu _) (I1.hok.fresh (lu _)),q⟩
 cases ha:x.cps.all (· < 128)
 ·exact wpAny_pyIter_wide ha (fin _ (zh3 _ (λA' hA=>Walks.strWide hA _ x t) (by decide) (λA i s Q E hh st hx hQ=>wpAny_pyNext_wide_end hh st hx hQ) λA i s Q E st hq=>wpAny_pyIter_striter_wide st hq))
 ·exact ldT ha (fin _ (zh3 _ (λA' hA=>Walks.strAscii hA _ x t) (by decide) (λA i s Q E hh st hx hQ=>wpAny_pyNext_ascii_end hh st hx hQ) λA i s Q E st hq=>wpAny_pyIter_striter_ascii st hq))
end
def Wlk (J:It)(G:Hp->Prop)(xs:List V):Prop:=∀H,G H->(∀i,i<xs.length->J.go i H/\∀x H',J.yld i H x H'->H'=H/\xs[i]? = some x)/\J.stop xs.length H
theorem zlL {K:qQ0}:Wlk (Itl K a) (λH=>SqL K H a xs) xs:=λH q =>
 ⟨λi hi=>⟨⟨xs,xs[i],q,by simp[hi]⟩,λx H' y=>⟨y.1,y.2 xs q⟩⟩,⟨xs,q,lu _⟩⟩
theorem zn7 {K:qQ0}:Wlk (Itt K a) (λH=>SqT K H a xs) xs:=λH q =>
 ⟨λi hi=>⟨⟨xs,xs[i],q,by simp[hi]⟩,λx H' y=>⟨y.1,y.2 xs q⟩⟩,⟨xs,q,lu _⟩⟩
theorem zfD {lo:Int}:Wlk (Itr lo n) G ((List.range n).map λ(k:Nat)=>V.int (lo+(k:Int))):=λH _=>by
 refine⟨λi hi=>⟨by show i<n;simpa using hi,λx H' y=>⟨y.1,?_⟩⟩,?_⟩
 ·have hi':i<n:=by simpa using hi
  rw[y.2];simp[hi']
 ·show n<=_;simp
theorem zoZ :Wlk (Its x) G (x.cps.toList.map λc=>V.str (T [c])):=λH _=>by
 refine⟨λi hi=>⟨by show i<x.cps.size;simpa using hi,λv H' y=>⟨y.1,?_⟩⟩,?_⟩
 ·obtain⟨_,c,hc,rfl⟩:=y
  rw[lH,hc];rfl
 ·show x.cps.size<=_;simp
theorem zn5 {J:It}(W:Wlk J G xs){tb:TS}{D:Ends}(Pv:Nat->St->Hp->Prop)(h0:Pv 0 σ H)(hG:∀i σ H,i<=xs.length->Pv i σ H->G H)
  (hs:∀i x σ H,xs[i]? = some x->Pv i σ H->g x σ H λσ2 H2=>tb {D with nx:=Pv (i+1),ct:=Pv (i+1),bk:=D.nx} σ2 H2) (hd:∀σ H,Pv xs.length σ H->D.nx σ H) :
  ∃ W:Nat->Nat->St->Hp->Prop,(∃m,W 0 m σ H)/\∀i m σ H,W i m σ H ->
   (J.stop i H/\D.nx σ H)∨(J.go i H/\∃N:St->Hp->Prop,(∀σ' H',N σ' H'->∃m',m'<m/\W (i+1) m' σ' H')/\∀x H',J.yld i H x H'->g x σ H' λσ2 H2=>tb {D with nx:=N,ct:=N,bk:=D.nx} σ2 H2):=by
 refine⟨λi m σ H=>m=xs.length - i/\i<=xs.length/\Pv i σ H,⟨xs.length,by simp,lbm _,h0⟩,?_⟩
 rintro i m σ H ⟨rfl,hi,p⟩
 obtain⟨w1,w2⟩:=W H (hG i σ H hi p)
 by_cases hlt:i<xs.length
 ·obtain⟨g1,g2⟩:=w1 i hlt
  refine .inr ⟨g1,Pv (i+1),λσ' H' p'=>⟨xs.length - (i+1),by omega,rfl,hlt,p'⟩,λx H' y=>?_⟩
  obtain⟨e,hx⟩:=g2 x H' y
  subst e
  exact hs i x σ _ hx p
 ·have e:i=xs.length:=by omega
  subst e
  exact .inl ⟨w2,hd σ H p⟩
theorem zju {J:It}(W:Wlk J G xs)(hz:xs.length<=sizeLine){tt:TT}{te:TE}{σ0:St}(Pv:Nat->List V->Hp->Prop)(h0:Pv 0 [] H1)(hG:∀i ys H,i<=xs.length->Pv i ys H->G H/\ys.length<=i)
  (hs:∀i x ys H,xs[i]? = some x->Pv i ys H->g x σ0 H λσ2 H2=>Kps σ0 σ2/\tt σ2 H2 λb H3=>if b=true then te σ2 H3 λy H4=>Pv (i+1) (ys++[y]) H4 else Pv (i+1) ys H3) (hd:∀ys H,Pv xs.length ys H->F ys H) :
  zbT g tt te σ0 F J H1:=by
 refine⟨λi m ys H=>m=xs.length - i/\i<=xs.length/\Pv i ys H,⟨xs.length,by simp,lbm _,h0⟩,?_⟩
 rintro i m ys H ⟨rfl,hi,p⟩
 obtain⟨gH,hl⟩:=hG i ys H hi p
 refine⟨by omega,?_⟩
 obtain⟨w1,w2⟩:=W H gH
 by_cases hlt:i<xs.length
 ·obtain⟨g1,g2⟩:=w1 i hlt
  refine .inr ⟨g1,by omega,Pv (i+1),λys' H' p'=>⟨xs.length - (i+1),by omega,rfl,hlt,p'⟩,λx H' y=>?_⟩
  obtain⟨e,hx⟩:=g2 x H' y
  subst e
  exact hs i x ys _ hx p
 ·have e:i=xs.length:=by omega
  subst e
  exact .inl ⟨w2,hd ys H p⟩
theorem Kps.set (h:σ[i]? = some none):Kps σ (σ.set i (some v)):=by
 refine⟨by simp,λj u e=>?_⟩
 by_cases hj:i=j
 ·subst hj;rw[h] at e;cases e
 ·rw[lal hj];exact e
theorem Kps.trans {a b c:St}(h:Kps a b)(k:Kps b c):Kps a c:=⟨k.1.trans h.1,λi v e=>k.2 i v (h.2 i v e)⟩
def Gat (K:qQ0)(H1:Hp)(e:Nat->PyData)(i:Nat)(ys:List V)(H:Hp):Prop:=Same H1 H/\Iss K H ys ((List.range i).map e)
theorem Gat.snoc {K:qQ0}{H4:Hp}{y:V}(h:Gat K H1 e i ys H)(sm:Same H H4)(is:Is K H4 y (e i)):Gat K H1 e (i+1) (ys++[y]) H4:=by
 refine⟨h.1.trans sm,?_⟩
 rw[ler,lau]
 exact(h.2.mono sm).append (.cons is .nil)
def GatF (K:qQ0)(H1:Hp)(p:Nat->Bool)(e:Nat->PyData)(i:Nat)(ys:List V)(H:Hp):Prop:=Same H1 H/\Iss K H ys (((List.range i).filter p).map e)
theorem GatF.snoc {K:qQ0}{H4:Hp}{p:Nat->Bool}{y:V}(h:GatF K H1 p e i ys H)(hp:p i=true)(sm:Same H H4)(is:Is K H4 y (e i)):GatF K H1 p e (i+1) (ys++[y]) H4:=by
 refine⟨h.1.trans sm,?_⟩
 rw[ler,List.filter_append,lau]
 refine(h.2.mono sm).append ?_
 simp only[leg,hp,lby,List.filter_nil,lr,laL]
 exact .cons is .nil
section
variable {X:Cx}
theorem old_ne {s:Shared}{b:Addr}{o:Obj}(e:s.heap.get? b=some o):b∉[s.heap.objs.size]:=λz=>by
 have e':b=s.heap.objs.size:=by simpa using z
 subst e'
 exact absurd (ly e) (lbE _)
theorem zht:∀{bs:List Bool}{us:List Value},Vals (bs.map V.bl) us->us=bs.map Value.bool
 | [],_,r=>by cases r;rfl
 | b::bs,_,r=>by
  cases r with
  | cons r t=>cases r;rw[zht t];rfl
theorem range_all {α:Type}(l:List α)(d:α)(p:α->Bool):(List.range l.length).all (λi=>p (l.getD i d))=l.all p:=by
 have:(List.range l.length).map (λi=>l.getD i d)=l:=range_getD l d
 conv=>rhs;rw[← this]
 rw[ldf];rfl
theorem range_any {α:Type}(l:List α)(d:α)(p:α->Bool):(List.range l.length).any (λi=>p (l.getD i d))=l.any p:=by
 have:(List.range l.length).map (λi=>l.getD i d)=l:=range_getD l d
 conv=>rhs;rw[← this]
 rw[leu];rfl
theorem zc5 {prog:Program}{A:Around}(bs:List Bool):TruthOf prog w A (λi v=>(bs.map Value.bool).toArray[i]? = some v) (λi=>bs.getD i false):=by
 intro i v s Q E hP hQ
 have e:(bs.map Value.bool)[i]? = some v:=by simpa using hP
 rw[lH] at e
 cases hb:bs[i]? with
 | none=>rw[hb] at e;cases e
 | some b =>
  rw[hb] at e
  have e':v=Value.bool b:=(lp e).symm
  subst e'
  have:bs.getD i false=b:=by rw[lh,hb];rfl
  have hQ':Q (bs.getD i false) s:=hQ
  rw[this] at hQ'
  exact la9 hQ'
theorem zcr (hc:X.calm=true):ju X (.builtin "all") (λxs H Q=>∃(a:Addr) (bs:List Bool),xs=[.ref a]/\SqL X.K H a (bs.map V.bl)/\Q (.bl (bs.all id)) H):=by
 intro pins s σ H xs us Q I r h
 obtain⟨a,bs,rfl,ha,q⟩:=h
 obtain⟨u,rfl,ru⟩:=vals1 r
 cases ru
 obtain⟨its,rv,pl,hz⟩:=I.list ha
 obtain rfl:=zht rv
 refine call_all_walk (lcu pl.isList ?_)
 have hlt:a<s.heap.objs.size:=by obtain⟨_,_,e,_⟩:=pl;exact ly e
 refine⟨_,_,_,_,_,_,λi=>bs.getD i false,rfl,Walks.list (show X.A.in1.handled=none from I.ok.hd hc) s.heap.objs.size a (lR hlt) _,⟨⟨_,lC _ rfl,rfl,rfl⟩,pl.isList.push _⟩,zc5 bs,λh' tk hk=>?_⟩
 refine⟨.bl _,H,I.kept (h':=h') (t':=tk) λb o e=>hk b o (old_ne e) (lg _ e),rfl,?_⟩
 have:(List.range ((bs.map Value.bool).toArray).size).all (λi=>bs.getD i false)=bs.all id:=by
  rw[show((bs.map Value.bool).toArray).size=bs.length by simp]
  exact range_all bs false id
 rw[this]
 exact q
theorem zhR (hc:X.calm=true):ju X (.builtin "any") (λxs H Q=>∃(a:Addr) (bs:List Bool),xs=[.ref a]/\SqL X.K H a (bs.map V.bl)/\Q (.bl (bs.any id)) H):=by
 intro pins s σ H xs us Q I r h
 obtain⟨a,bs,rfl,ha,q⟩:=h
 obtain⟨u,rfl,ru⟩:=vals1 r
 cases ru
 obtain⟨its,rv,pl,hz⟩:=I.list ha
 obtain rfl:=zht rv
 refine call_any_walk (lcu pl.isList ?_)
 have hlt:a<s.heap.objs.size:=by obtain⟨_,_,e,_⟩:=pl;exact ly e
 refine⟨_,_,_,_,_,_,λi=>bs.getD i false,rfl,Walks.list (show X.A.in1.handled=none from I.ok.hd hc) s.heap.objs.size a (lR hlt) _,⟨⟨_,lC _ rfl,rfl,rfl⟩,pl.isList.push _⟩,zc5 bs,λh' tk hk=>?_⟩
 refine⟨.bl _,H,I.kept (h':=h') (t':=tk) λb o e=>hk b o (old_ne e) (lg _ e),rfl,?_⟩
 have:(List.range ((bs.map Value.bool).toArray).size).any (λi=>bs.getD i false)=bs.any id:=by
  rw[show((bs.map Value.bool).toArray).size=bs.length by simp]
  exact range_any bs false id
 rw[this]
 exact q
theorem zcU (ns:List Int):∀k,k<=ns.length->preSum (λi=>ns.getD i 0) k=(ns.take k).sum:=by
 intro k
 induction k with
 | zero=>intro _;simp[preSum]
 | succ k ih =>
  intro hk
  have e:ns[k]? = some ns[k]:=lb (by omega)
  rw[lbb,e,List.sum_append]
  simp only[preSum] at ih ⊢
  rw[ih (by omega)]
  simp[lh,e]
theorem zfP (hc:X.calm=true):ju X (.builtin "sum") (λxs H Q=>∃(a:Addr) (ns:List Int),xs=[.ref a]/\SqT X.K H a (ns.map V.int)/\Q (.int ns.sum) H):=by
 intro pins s σ H xs us Q I r h
 obtain⟨a,ns,rfl,ha,q⟩:=h
 obtain⟨u,rfl,ru⟩:=vals1 r
 cases ru
 obtain⟨its,rv,pl,hz⟩:=I.tuple ha
 have pl':s.heap.IsTuple a its.toArray:=pl
 have hlt:a<s.heap.objs.size:=by obtain⟨_,e,_⟩:=pl';exact ly e
 have hlen:=rv.length
 refine call_sum_walkG (lcL pl' ?_)
 refine⟨_,_,_,_,_,_,λi=>ns.getD i 0,rfl,Walks.tuple (show X.A.in1.handled=none from I.ok.hd hc) s.heap.objs.size a (lR hlt) its.toArray,⟨⟨_,lC _ rfl,rfl,rfl⟩,pl'.push _⟩,λb hb=>?_,λi v hv=>?_,λh' tk t' hk=>?_⟩
 ·show b<(s.heap.push _).objs.size
  rw[las]
  rcases lz.mp hb with rfl|hb
  ·exact ldk _
  ·have e:b=a:=by simpa using hb
   subst e;exact lb4 hlt
 ·have e:its[i]? = some v:=by simpa using hv
  have hi:i<(ns.map V.int).length:=by rw[hlen];exact(lx.mp e).1
  obtain⟨u,hu,ru⟩:=rv.get (i:=i) (x:=(ns.map V.int)[i]) (by simp at hi ⊢)
  rw[e] at hu
  cases hu
  have hi':i<ns.length:=by simpa using hi
  rw[ldm] at ru
  obtain⟨t,e2⟩:=ru
  refine⟨t,?_⟩
  show v=Value.int (ns.getD i 0) t
  rw[e2,lh,lb hi'];rfl
 ·have es:preSum (λi=>ns.getD i 0) its.toArray.size=ns.sum:=by
   have e1:its.toArray.size=ns.length:=by rw[lI,← hlen];simp
   rw[e1,zcU ns _ (lu _),ldo]
  refine⟨.int ns.sum,H,I.kept (h':=h') (t':=tk) λb o e=>hk b o (old_ne e) (lg _ e),⟨t',by rw[es]⟩,q⟩
theorem zbm:∀{ss:List Str}{us:List Value},Vals (ss.map V.str) us->StrsAre us ss
 | [],_,r=>by cases r;exact .nil
 | x::ss,_,r=>by
  cases r with
  | cons r t=>obtain⟨u,rfl⟩:=r;exact .cons _ _ (zbm t)
theorem zlV (l m:List Nat):Txt.startswith (T l) (T m)=m.isPrefixOf l:=by
 unfold Txt.startswith
 rw[StrLaws.subAt_eq,zbc,zbc,zdq,zdq,leJ,laM]
 rw[lcR,lG]
 simp only[lae,ldB]
 rw[laa]
 constructor
 ·rintro⟨h1,h2⟩
  rw[← h2];exact lcA _ _
 ·intro h
  exact⟨h.length_le,(lcS.mp h).symm⟩
def znc:V->List V->Hp->VK->Prop:=λx vs H Q=>∃l m,x=.str (T l)/\vs=[.str (T m)]/\Q (.bl (m.isPrefixOf l)) H
theorem zkQ:MtR X "str.startswith" znc:=by
 intro pins s σ H x xs v us Q I rx rs h
 obtain⟨l,m,rfl,rfl,q⟩:=h
 obtain⟨t,rfl⟩:=rx
 obtain⟨u,rfl,ru⟩:=vals1 rs
 obtain⟨t',rfl⟩:=ru
 refine SC.startswith ?_
 rw[zlV]
 exact⟨.bl _,H,I,rfl,q⟩
def zst:R2:=λx y H Q=>∃c l,x=.str (T [c])/\y=.str (T l)/\Q (.bl (decide (c∈l))) H
theorem zpZ:OpR X (compareOp .In) zst:=by
 intro pins s σ H x y v u Q I rx ry h
 obtain⟨c,l,rfl,rfl,q⟩:=h
 obtain⟨t,rfl⟩:=rx
 obtain⟨t',rfl⟩:=ry
 refine in_str (zhW I q ?_)
 have e:=StrLaws.found_one (T l) c
 rw[zbc] at e
 exact e.symm
theorem zha:OpR X (binaryOp .Add) (λx y H Q=>∃l m,x=.str (T l)/\y=.str (T m)/\l.length+m.length<=1000000/\Q (.str (T (l++m))) H):=by
 intro pins s σ H x y v u Q I rx ry h
 obtain⟨l,m,rfl,rfl,hz,q⟩:=h
 refine ziF pins s σ H _ _ v u Q I rx ry ⟨_,_,rfl,rfl,?_,?_⟩
 ·rw[zdq,zdq]
  first|omega|exact laC hz (by decide)
 ·rw[zpq];exact q
def Sm (i:Int):Prop:=i.natAbs<2 ^ 4000
theorem Sm.log {i:Int}(h:Sm i):i.natAbs.log2<4000:=by
 by_cases h0:i.natAbs=0
 ·rw[h0];decide +kernel
 ·exact(Nat.log2_lt h0).mpr h
theorem yu:OpR X (binaryOp .Mult) (rI (λi j=>Sm i/\Sm j) λi j=>.int (i*j)):=opI λi j _ _ _ _ _ hc q=>mul_int q (by
 obtain⟨h1,h2⟩:=hc
 have a:=h1.log
 have b:=h2.log
 unfold IntMulOk
 intro z
 rw[lG] at z
 have z2:Builtin.Int.intTooBig ((Builtin.Int.intBits i:Int)+(Builtin.Int.intBits j:Int))=true:=by first|exact z.2|exact_mod_cast z.2
 unfold Builtin.Int.intTooBig at z2
 have e1:Builtin.Int.intBits i<=4001:=by unfold Builtin.Int.intBits;split <;>omega
 have e2:Builtin.Int.intBits j<=4001:=by unfold Builtin.Int.intBits;split <;>omega
 have hb:((bitsLine:Nat):Int)≥10000:=by decide
 have:=laZ z2
 omega)
theorem uE:OpR X (binaryOp .FloorDiv) (rI (λ_ j=>0<j/\Sm j) λi j=>.int (i / j)):=opI λi j _ _ _ _ _ hc q=>by
 obtain⟨h1,h2⟩:=hc
 refine floordiv_int (by omega) ?_ (.inl (PyProof.noPylong_of_log2 (by have:=h2.log;omega)))
 rw[Int.fdiv_eq_ediv_of_nonneg i (by omega)]
 exact q
theorem Same.upd {H:Hp}{p:Addr}{o:HO}(h:H p=none):Same H (upd H p o):=λb u e=>by rw[zZ (yN e h)];exact e
def zq4 (ls:List Nat)(xs:List V):List (Key×V):=(ls.zip xs).foldl (λm p=>putK m (Sum.inr (T [p.1])) p.2) []
theorem zpl:KV ([]:List (Key×V)) ([]:List (Key×Value)):=.nil
theorem zi0:∀(ls:List Nat) {xs:List V}{us:List Value}{m:List (Key×V)}{ms:List (Key×Value)},Vals xs us->KV m ms ->
  KV ((ls.zip xs).foldl (λm p=>putK m (Sum.inr (T [p.1])) p.2) m) ((ls.zip us).foldl (λm p=>stored m (Sum.inr (⟨#[p.1]⟩:Str):Key) p.2) ms)
 | [],_,_,_,_,_,k=>k
 | _::_,_,_,_,_,.nil,k=>k
 | c::ls,_,_,_,_,.cons r t,k=>by
  rw[lbA,lbA,la5,la5]
  exact zi0 ls t (k.put _ r)
theorem zlD (ls:List Nat)(xs:List V):(zq4 ls xs).length<=ls.length:=by
 have key:∀(ps:List (Nat×V)) (m:List (Key×V)),(ps.foldl (λm p=>putK m (Sum.inr (T [p.1])) p.2) m).length<=m.length+ps.length:=by
  intro ps
  induction ps with
  | nil=>intro m;simp
  | cons p r ih =>
   intro m
   rw[la5]
   have h1:=ih (putK m (Sum.inr (T [p.1])) p.2)
   have h2:=kY m (Sum.inr (T [p.1]):Key) p.2
   rw[lM]
   omega
 have:=key (ls.zip xs) []
 have h3:(ls.zip xs).length<=ls.length:=by simp;omega
 rw[lah,laM] at this
 exact laC this h3
def zpD (K:qQ0)(ta tb:TE):TE:=λσ H Q=>zao ta (zao tb zln) σ H λvs H2=>∃(l:List Nat) (a:Addr) (xs:List V),vs=[.str (T l),.ref a]/\SqT K H2 a xs/\(∀c∈l,c<128)/\l.length<=1000/\∀p,H2 p=none->Q (.ref p) (upd H2 p (.dK (zq4 l xs)))
theorem yh {a b:Nat}(h:a<b∨b<a):(a:Addr)≠(b:Addr):=by
 rcases h with h|h
 ·exact lR h
 ·exact la1 h
theorem ziy {a:Expr}{p1 p2 pos1 pos2:Pos}(hc:X.calm=true)(ha:PE X a ta)(hb:PE X b tb)(hd:Gl X "dict")(hz:Gl X "zip")(md:X.mg "dict" = none)(mz:X.mg "zip" = none)
  (hs:starEach [a,b] X.env=[(false,eval a X.env),(false,eval b X.env)]:=by rfl) (hs2:starEach [b] X.env=[(false,eval b X.env)]:=by rfl)
  (hs3:starEach [.Call (.Name "zip" p2) [a,b] [] pos2] X.env=[(false,eval (.Call (.Name "zip" p2) [a,b] [] pos2) X.env)]:=by rfl) :
  PE X (.Call (.Name "dict" p1) [.Call (.Name "zip" p2) [a,b] [] pos2] [] pos1) (zpD X.K ta tb):=by
 intro pins s σ H Q I h
 refine lbk (zbo I hd md boot_dict ?_)
 refine laU ?_ hs3 rfl
 rw[hs3]
 show wpAny _ _ (spliced ((false,eval (.Call (.Name "zip" p2) [a,b] [] pos2) X.env)::backTo pos1 [])) _ _ s
 refine Calls.spliced_cons ?_
 have hA:PA X [a,b] (zao ta (zao tb zln)):=yQ ha (yQ hb uc hs2) (by rw[hs,hs2])
 refine lbk (zbo I hz mz boot_zip ?_)
 refine laU (thn (hA pos2 pins s σ H _ I h) λus s1 hq34=>?_) (by rw[hs,hs2]) (by rw[hs2];rfl)
 obtain⟨vs,H2,I2,r2,l,ad,xs,ev,hq,h128,hl,q⟩:=hq34
 subst ev
 obtain⟨u1,u2,rfl,ru1,ru2⟩:=vals2 r2
 obtain⟨t,rfl⟩:=ru1
 cases ru2
 obtain⟨its,rv,pl,hsz⟩:=I2.tuple hq
 have pl':s1.heap.IsTuple ad its.toArray:=pl
 have h128':(T l).cps.all (· < 128)=true:=by
  simp only[T,ldl,lag,lae]
  exact h128
 refine Zp.call_zip_st h128' pl' λh1 m5=>?_
 refine Calls.spliced_nil ?_
 obtain⟨m1,m2,m3,m4,m6,m7,m8⟩:=m5
 have lt:∀{c:Addr}{o:Obj},s1.heap.get? c=some o->c<s1.heap.objs.size:=λe=>ly e
 have had:ad<s1.heap.objs.size:=by obtain⟨o,e,_⟩:=pl';exact lt e
 refine Zp.call_dict_zip (knd:=xr X.prog X.w) (s:={s1 with heap:=h1}) (z:=s1.heap.objs.size+4) (TI:=s1.heap.objs.size+2) (TO:=s1.heap.objs.size+3) (i1:=s1.heap.objs.size) (i2:=s1.heap.objs.size+1) (tp:=ad) (x:=T l) (t:=t) (ys:=its.toArray)
  (I.ok.hd hc) ⟨yh (by omega),yh (by omega),yh (by omega),yh (by omega),yh (by omega),yh (by omega),yh (by omega),yh (by omega),yh (by omega),yh (by omega)⟩ (yh (.inl (lB had (by omega)))) (yh (.inl (lB had (by omega)))) (yh (.inl had)) (yh (.inl (lB had (by omega)))) (λc=>Sum.inr ⟨#[c]⟩) (λc u=>zcv _ _ _ u) (by show l.toArray.size<=1000;simpa using hl)
  m1 m2 m3 ⟨_,m4,rfl,rfl⟩ ⟨_,m6,rfl,rfl⟩ (by obtain⟨o,e,r⟩:=pl';exact⟨o,m8 _ _ e,r⟩) λh2 tk hdict keep=>?_
 have keep1:∀b o,s1.heap.get? b=some o->h2.get? b=some o:=λb o e=>by
  have hb:=lt e
  exact keep b o (yh (.inl (lB hb (by omega)))) (yh (.inl (lB hb (by omega)))) (yh (.inl hb)) (yh (.inl (lB hb (by omega)))) (m8 b o e)
 have hp:s1.heap.objs.size<=h1.objs.size:=by rw[m7];omega
 have hnone:H2 h1.objs.size=none:=I2.hok.fresh hp
 refine⟨.ref h1.objs.size,upd H2 h1.objs.size (.dK (zq4 l xs)),I2.laid (h':=h2) (t':=tk) keep1 hp ?_,rfl,q _ hnone⟩
 refine⟨?_,?_,_,?_,hdict⟩
 ·have:=zlD l xs
  rw[laQ];omega
 ·have hbig:=I2.big
  exact lcD.mpr (by have:=hbig;intro z;rw[z] at hp;exact absurd (lB hbig hp) (lbE _))
 ·rw[zbc]
  have:=zi0 l rv (zpl)
  simpa [zq4] using this
end
def tyN:PyData->String
 | .none => "NoneType" | .bool _ => "bool" | .int _ => "int" | .str _ => "str" | .list _ => "list" | .tuple _ => "tuple" | .dict _ => "dict"
theorem zno {K:qQ0}(d:PyData):PySem.W.kitOne K (.type (tyN d)) (.type "int")=some (match d with | .int _=>true | .bool _=>true|_=>false):=by cases d <;>rfl
theorem zk8 {K:qQ0}(d:PyData):PySem.W.kitOne K (.type (tyN d)) (.type "bool")=some (match d with | .bool _=>true|_=>false):=by cases d <;>rfl
theorem zoE {K:qQ0}(d:PyData):PySem.W.kitOne K (.type (tyN d)) (.type "str")=some (match d with | .str _=>true|_=>false):=by cases d <;>rfl
theorem kit_tuple {K:qQ0}(d:PyData):PySem.W.kitOne K (.type (tyN d)) (.type "tuple")=some (match d with | .tuple _=>true|_=>false):=by cases d <;>rfl
section
variable {X:Cx}
theorem zfy:ju X (.builtin "isinstance") (λxs H Q=>∃x d n b,xs=[x,.ty n]/\Is X.K H x d/\PySem.W.kitOne X.K (.type (tyN d)) (.type n)=some b/\Q (.bl b) H):=by
 intro pins s σ H xs us Q I r h
 obtain⟨x,d,n,b,rfl,is,e,q⟩:=h
 obtain⟨u,u2,rfl,ru,r2⟩:=vals2 r
 cases r2
 have fin:∀tk,EP X pins σ Q (.bool b) {s with toks:=tk}:=λtk=>⟨.bl b,H,I.tok _,rfl,q⟩
 cases is with
 | non=>cases (show u=Value.none from ru);exact lbM PySem.W.kitx_none I.kIn True.intro e (λz=>nomatch z) fin
 | bl y=>cases (show u=Value.bool y from ru);exact lbM PySem.W.kitx_bool I.kIn True.intro e (λz=>nomatch z) fin
 | int i=>obtain⟨t,q'⟩:=(show ∃t,u=Value.int i t from ru);cases q';exact lbM PySem.W.kitx_int I.kIn True.intro e (λz=>nomatch z) fin
 | str y=>obtain⟨t,q'⟩:=(show ∃t,u=Value.str y t from ru);cases q';exact lbM PySem.W.kitx_str I.kIn True.intro e (λz=>nomatch z) fin
 | @lst a xs ds q1 q2 =>
  cases (show u=Value.ref a from ru)
  obtain⟨its,_,⟨o,n',e1,hc,_⟩,_⟩:=I.list q1
  exact lbM PySem.W.kitx_list I.kIn ⟨o,e1,hc⟩ e (λz=>nomatch z) fin
 | @tup a xs ds q1 q2 =>
  cases (show u=Value.ref a from ru)
  obtain⟨its,_,⟨o,e1,hc,_⟩,_⟩:=I.tuple q1
  exact lbM PySem.W.kitx_tuple I.kIn ⟨o,e1,hc⟩ e (λz=>nomatch z) fin
end
def zj3 (fs:Scope)(N:List Str)(scope:Scope)(caps:List Nat):Bool :=
 (scope.kind == .function)&&(scope.names.all λy=>y.2 != .cell || scope.names.lookup y.1 == some .cell)&&(scope.names.all λy=>y.2 != .local || scope.names.lookup y.1 == some .local) &&
 (scope.names.all λy=>y.2 != .free || fs.names.lookup y.1 == some .cell || fs.names.lookup y.1 == some .free) &&
 (caps.all λi=>match N[i]? with|some y=>scope.names.lookup y == some .free|none=>false)
theorem xj {X:Cx}{fs:Scope}{N:List Str}{caps:List Nat}(hs:X.env.scope=fs)(hN:X.N=N)(h:zj3 fs N scope caps=true):CompOk X scope caps:=by
 unfold zj3 at h
 simp only[lG,lag] at h
 obtain⟨⟨⟨⟨h1,h2⟩,h3⟩,h4⟩,h5⟩:=h
 refine⟨by simpa using h1,λy hy e=>?_,λy hy e=>?_,λy hy e=>?_,λi hi=>?_⟩
 ·have:=h2 y hy
  rw[e] at this
  simpa using this
 ·have:=h3 y hy
  rw[e] at this
  simpa using this
 ·have:=h4 y hy
  rw[e] at this
  unfold Env.kindOf
  rw[hs]
  simpa using this
 ·have:=h5 i hi
  rw[hN]
  cases e:N[i]? with
  | none=>rw[e] at this;simp at this
  | some y=>rw[e] at this;exact⟨y,rfl,by simpa using this⟩
theorem kI {X:Cx}{N:List Str}(h:X.N=N)(n:N.Nodup):X.N.Nodup:=h▸n
structure Dn (K:qQ0)(mg:qQ3)(x:Str)(st:Stmt)(ps:List Str) where
 f:Addr
 fd:FuncData
 fn:Fun K x x st f fd
 mg:mg x=some (.ref f)
 bd:Binds K fd ps []
section
variable {X:Cx}{pins:List (Addr×Obj)}{σ:St}{H:Hp}{s:Shared}{h':Heap}
theorem Inv.turnedL {t':Nat}(I:Inv X pins σ H s)(k:∀b o,b∉fp->s.heap.get? b=some o->h'.get? b=some o)(hf:∀b∈fp,zlC X pins H b):Inv X pins σ H {s with heap:=h',toks:=t'}:=by
 have nit:∀b u,H b=some u->b∉fp:=λb u e z=>by rw[(hf b z).1] at e;cases e
 have nl:X.env.locals∉fp:=λz=>(hf _ z).2.1 rfl
 refine I.step (g':=s.gens) (d':=s.drawn) (ch:=fp) (λb hb=>?_) (λb o _ _ hc e _=>k b o hc e) (λb o _ _ hc e _=>⟨o.slots,k b o hc e⟩) (λ_ _ _ _ n=>n)
  (λb o hc e=>⟨o,k b o hc e⟩) (λ_ _ e=>e) (λ_ _ _ e=>e) (λb ps e=>⟨#[],by rw[e];simp⟩) (λm hm=>?_) (λb u e=>?_) I.bare
 ·obtain⟨_,f1,_,f3,f4,f5⟩:=hf b hb
  exact⟨f3,f1,f4,f5⟩
 ·obtain⟨o,es,ep,ho,r⟩:=hm
  exact⟨o,es,ep,k _ o nl ho,r⟩
 ·refine(I.hok b u e).stay (λc v hc q=>k c v ?_ q) (λ_ q=>q) λ_ _ q=>q
  rcases hc with z|z
  ·rw[z];exact nit b u e
  ·exact nit c _ z
end
theorem zmX (n:Nat):Zp.Apart (n+4:Nat) (n+2:Nat) (n+3:Nat) n (n+1:Nat) :=
 ⟨yh (by omega),yh (by omega),yh (by omega),yh (by omega),yh (by omega),yh (by omega),yh (by omega),yh (by omega),yh (by omega),yh (by omega)⟩
def fpZ (n:Nat):List Addr:=[(n+4:Nat),(n+2:Nat),(n+3:Nat),n,(n+1:Nat)]
section
variable {prog:Program}{w:World}{A:Around}
theorem ziL {it t:Addr}{x:Value}(hne:t≠it)(hx:items[i]? = some x) :
  Zp.Yields prog w A it (λh=>h.IsListIter it t i/\h.IsList t items) (λv=>v=x) (λh=>h.IsListIter it t (i+1)/\h.IsList t items) :=
 λs Q E g hQ=>Zp.nextOf_list_item g.1 g.2 hx λh' st sb=>hQ _ h' s.toks rfl ⟨st,g.2.extBut sb.extBut hne⟩ sb
theorem zml {it t:Addr}(hh:A.handled=none)(hx:items[i]? = none) :
  Zp.Ends prog w A it (λh=>h.IsListIter it t i/\h.IsList t items) :=
 λs Q E g hE=>Zp.nextOf_list_end hh g.1 g.2 hx hE
end
def Kp (it n:Nat)(h h':Heap):Prop:=∀(c:Addr) o,(c=it∨(c:Nat)<n)->h.get? c=some o->h'.get? c=some o
structure ZS (P:Program)(w:World)(K:qQ0)(xs:List V)(G:Hp->Prop)(n it:Nat)(S:Nat->Heap->Prop):Prop where
 obj:∀i h,S i h->∃o,h.get? (it:Addr)=some o/\∀v,o.data≠.cell v
 keep:∀i h h',S i h->(∀o,h.get? (it:Addr)=some o->h'.get? (it:Addr)=some o)->S i h'
 yld:∀(X:Cx),X.prog=P->X.w=w->X.K=K->∀(pins:List (Addr×Obj)) (s:Shared) (σ:St) (H:Hp) (i:Nat) (x:V),Inv X pins σ H s->G H->xs[i]? = some x->S i s.heap->∃G1 S1:Heap->Prop,
  (∀A,Zp.Yields P w A (it:Addr) G1 (RelV x) S1)/\(∀h',Kp it n s.heap h'->G1 h')/\(∀h h',S1 h->Kp it n h h'->S1 h')/\∀h,S1 h->S (i+1) h
 ends:∀(X:Cx),X.prog=P->X.w=w->X.K=K->∀(pins:List (Addr×Obj)) (s:Shared) (σ:St) (H:Hp) (i:Nat),Inv X pins σ H s->G H->xs.length<=i->S i s.heap->∃G1:Heap->Prop,
  (∀A:Around,A.handled=none->Zp.Ends P w A (it:Addr) G1)/\∀h',Kp it n s.heap h'->G1 h'
theorem zqi {K:qQ0}{l:Nat}(hl:l<n)(hi:n<=it):ZS P w K xs (λH=>SqT K H l xs) n it (λi h=>h.IsTupleIter it l i) where
 obj:=λi h ⟨o,e,c,d⟩=>⟨o,e,λv z=>by rw[d] at z;cases z⟩
 keep:=λi h h' z kk=>z.at kk
 yld:=by
  intro X hP hw hK pins s σ H i x I g hx st
  subst hP hw hK
  obtain⟨its,rv,pl,_⟩:=I.tuple g
  obtain⟨u,hu,ru⟩:=rv.get hx
  have p1:s.heap.IsTuple l its.toArray:=pl
  have ne:(l:Addr)≠(it:Addr):=yh (.inl (by omega))
  refine⟨λh=>h.IsTupleIter it l i/\h.IsTuple l its.toArray,λh=>h.IsTupleIter it l (i+1)/\h.IsTuple l its.toArray,λA s Q E g hQ=>Zp.yields_tuple (items:=its.toArray) (i:=i) (x:=u) ne (by simpa using hu) s Q E g λv h' tk e=>hQ v h' tk (e▸ru),λh' kk=>⟨?_,?_⟩,λh h' ⟨a,b⟩ kk=>⟨a.at λo e=>kk _ _ (.inl rfl) e,?_⟩,λh z=>z.1⟩
  ·exact st.at λo e=>kk _ _ (.inl rfl) e
  ·obtain⟨o,e,r⟩:=p1;exact⟨o,kk _ _ (.inr hl) e,r⟩
  ·obtain⟨o,e,r⟩:=b;exact⟨o,kk _ _ (.inr hl) e,r⟩
 ends:=by
  intro X hP hw hK pins s σ H i I g hx st
  subst hP hw hK
  obtain⟨its,rv,pl,_⟩:=I.tuple g
  have p1:s.heap.IsTuple l its.toArray:=pl
  have len:=rv.length
  refine⟨_,λA hh=>Zp.ends_tuple (t:=l) (i:=i) (items:=its.toArray) hh (by simpa using (show its.length<=i by omega)),λh' kk=>⟨st.at λo e=>kk _ _ (.inl rfl) e,?_⟩⟩
  obtain⟨o,e,r⟩:=p1;exact⟨o,kk _ _ (.inr hl) e,r⟩
theorem zql {K:qQ0}{l:Nat}(hl:l<n)(hi:n<=it):ZS P w K xs (λH=>SqL K H l xs) n it (λi h=>h.IsListIter it l i) where
 obj:=λi h ⟨o,e,c,d⟩=>⟨o,e,λv z=>by rw[d] at z;cases z⟩
 keep:=λi h h' z kk=>z.at kk
 yld:=by
  intro X hP hw hK pins s σ H i x I g hx st
  subst hP hw hK
  obtain⟨its,rv,pl,_⟩:=I.list g
  obtain⟨u,hu,ru⟩:=rv.get hx
  have p1:s.heap.IsList l its.toArray:=pl.isList
  have ne:(l:Addr)≠(it:Addr):=yh (.inl (by omega))
  refine⟨λh=>h.IsListIter it l i/\h.IsList l its.toArray,λh=>h.IsListIter it l (i+1)/\h.IsList l its.toArray,λA s Q E g hQ=>ziL (items:=its.toArray) (i:=i) (x:=u) ne (by simpa using hu) s Q E g λv h' tk e=>hQ v h' tk (e▸ru),λh' kk=>⟨?_,?_⟩,λh h' ⟨a,b⟩ kk=>⟨a.at λo e=>kk _ _ (.inl rfl) e,?_⟩,λh z=>z.1⟩
  ·exact st.at λo e=>kk _ _ (.inl rfl) e
  ·obtain⟨o,e,r⟩:=p1;exact⟨o,kk _ _ (.inr hl) e,r⟩
  ·obtain⟨o,e,r⟩:=b;exact⟨o,kk _ _ (.inr hl) e,r⟩
 ends:=by
  intro X hP hw hK pins s σ H i I g hx st
  subst hP hw hK
  obtain⟨its,rv,pl,_⟩:=I.list g
  have p1:s.heap.IsList l its.toArray:=pl.isList
  have len:=rv.length
  refine⟨_,λA hh=>zml (t:=l) (i:=i) (items:=its.toArray) hh (by simpa using (show its.length<=i by omega)),λh' kk=>⟨st.at λo e=>kk _ _ (.inl rfl) e,?_⟩⟩
  obtain⟨o,e,r⟩:=p1;exact⟨o,kk _ _ (.inr hl) e,r⟩
def vC (l:List Nat):List V:=l.map λc=>V.str (T [c])
theorem zqg {K:qQ0}{l:List Nat}{t:Tok}:ZS P w K (vC l) (λ_=>True) n it (λi h=>h.IsStrIter it "str_ascii_iterator" (T l) t i) where
 obj:=λi h z=>by obtain⟨o,e,c,d⟩:=z;exact⟨o,e,λv z=>by rw[d] at z;cases z⟩
 keep:=λi h h' z kk=>by obtain⟨o,e,c,d⟩:=z;exact⟨o,kk o e,c,d⟩
 yld:=by
  intro X hP hw hK pins s σ H i x I g hx st
  subst hP hw hK
  unfold vC at hx
  rw[lH] at hx
  cases ec:l[i]? with
  | none=>rw[ec] at hx;cases hx
  | some c =>
   rw[ec] at hx
   cases hx
   refine⟨λh=>h.IsStrIter it "str_ascii_iterator" (T l) t i,λh=>h.IsStrIter it "str_ascii_iterator" (T l) t (i+1),λA s Q E g hQ=>Zp.yields_ascii (x:=T l) (t:=t) (i:=i) (c:=c) (by show l.toArray[i]? = _;simpa using ec) s Q E g λv h' tk e=>hQ v h' tk ?_,λh' kk=>?_,λh h' z kk=>?_,λh z=>z⟩
   ·obtain⟨u,rfl⟩:=e;exact⟨u,rfl⟩
   ·obtain⟨o,e,c,d⟩:=st;exact⟨o,kk _ _ (.inl rfl) e,c,d⟩
   ·obtain⟨o,e,c,d⟩:=z;exact⟨o,kk _ _ (.inl rfl) e,c,d⟩
 ends:=by
  intro X hP hw hK pins s σ H i I g hx st
  subst hP hw hK
  have hl:l.length<=i:=by simpa [vC] using hx
  refine⟨_,λA hh=>Zp.ends_ascii (x:=T l) (t:=t) (i:=i) hh (by show l.toArray[i]? = none;simpa using hl),λh' kk=>?_⟩
  obtain⟨o,e,c,d⟩:=st;exact⟨o,kk _ _ (.inl rfl) e,c,d⟩
def zrQ (G1 G2:Hp->Prop)(xs ys:List V):It :=
 ⟨λi H=>G1 H/\G2 H/\i<min xs.length ys.length,λi H v H'=>∃p x y,H p=none/\xs[i]? = some x/\ys[i]? = some y/\v=.ref p/\H'=upd H p (.tup [x,y]),λi H=>G1 H/\G2 H/\min xs.length ys.length<=i⟩
def zsS (n:Nat)(S1 S2:Nat->Heap->Prop)(i:Nat)(h:Heap):Prop:=∃a b f1,Zp.IsZipF h (n+4:Nat) (n+2:Nat) (n+3:Nat) .none f1/\IsPair h (n+2:Nat) (.ref n) (.ref (n+1:Nat))/\IsPair h (n+3:Nat) a b/\S1 i h/\S2 i h
theorem zjo {K:qQ0}{k:Nat}{G1 G2:Hp->Prop}{S1 S2:Nat->Heap->Prop}(A1:ZS P w K xs G1 n n S1)(A2:ZS P w K ys G2 n (n+1) S2) :
  Turn P w K (.Tuple elts k pos) (zrQ G1 G2 xs ys) (fpZ n) (n+4:Nat) (zsS n S1 S2) where
 mem:=by simp[fpZ]
 obj:=λi h ⟨a,b,f1,z1,z2,z3,z4,z5⟩ c hc=>by
  simp only[fpZ,lz,lcc,ld9] at hc
  rcases hc with rfl|rfl|rfl|rfl|rfl
  ·exact⟨_,z1,λv z=>by cases z⟩
  ·exact⟨_,z2,λv z=>by cases z⟩
  ·exact⟨_,z3,λv z=>by cases z⟩
  ·exact A1.obj i h z4
  ·exact A2.obj i h z5
 keep:=λi h h' ⟨a,b,f1,z1,z2,z3,z4,z5⟩ kk=>by
  refine⟨a,b,f1,kk _ (by simp[fpZ]) _ z1,kk _ (by simp[fpZ]) _ z2,kk _ (by simp[fpZ]) _ z3,A1.keep i h h' z4 λo e=>kk _ (by simp[fpZ]) o e,A2.keep i h h' z5 λo e=>kk _ (by simp[fpZ]) o e⟩
 item := by
  intro X hP hw hK hc i pins s σ H E I hf st hg
  obtain⟨q1,q2,hi⟩:=hg
  have i1:i<xs.length:=by omega
  have i2:i<ys.length:=by omega
  obtain⟨a,b,f1,z1,z2,z3,z4,z5⟩:=st
  obtain⟨Ga,Sa,Y1,ga,sa,ta⟩:=A1.yld X hP hw hK pins s σ H i _ I q1 (lb i1) z4
  obtain⟨Gb,Sb,Y2,gb,sb',tb⟩:=A2.yld X hP hw hK pins s σ H i _ I q2 (lb i2) z5
  subst hP hw hK
  have hT:s.TypeIs (.ref ((n+4:Nat):Addr)) "zip" := ⟨_,z1,rfl⟩
  unfold pyNext
  refine la (lbH (lT (name:=Str.ofString "__next__") hT lbT
   (lZ lbT hT PySem.F.entry_zip_next ?_ (PySem.F.args_zip_next_1 _))))
  have D:=zmX n
  have nn:∀{c:Addr}{k:Nat},(c:Nat)<n->c≠((n+k:Nat):Addr):=λ{c k} hc=>yh (.inl (lB hc (lbR _ _)))
  refine Zp.next_item D z1 z2 z3 (Y1 _) (Y2 _) ?_ ?_ ?_ ?_ ?_
  ·refine λh' kk=>ga h' λc o hc e=>kk c o ?_ e
   rcases hc with rfl|hc
   ·exact D.i1z
   ·exact nn hc
  ·refine λh' kk=>gb h' λc o hc e=>?_
   rcases hc with rfl|hc
   ·exact kk _ _ D.i2z D.TOi2.symm D.i12.symm e
   ·exact kk _ _ (nn hc) (nn hc) (nn (k:=0) hc) e
  ·refine λh h' z kk=>sa h h' z λc o hc e=>?_
   rcases hc with rfl|hc
   ·exact kk _ _ D.i1z D.TOi1.symm D.i12 e
   ·exact kk _ _ (nn hc) (nn hc) (nn hc) e
  ·refine λh h' z kk=>sb' h h' z λc o hc e=>?_
   rcases hc with rfl|hc
   ·exact kk _ _ D.i2z D.TOi2.symm e
   ·exact kk _ _ (nn hc) (nn hc) e
  ·rintro v1 v2 h' tk ru1 ru2 z' to' s1 s2 hp hsz kk
   refine lq ⟨_,rfl,?_⟩
   refine wpAny_letOwnedTupleGo_zip (s:={s with heap:=h',toks:=tk}) z' λh2 zz sb=>?_
   obtain⟨o1,e1,_⟩:=A1.obj _ _ z4
   obtain⟨o2,e2,_⟩:=A2.obj _ _ z5
   have nz:∀c:Addr,c=s.heap.objs.size->c∉fpZ n:=λc e hc=>by
    have:=(hf c hc).1
    obtain ⟨o,ho,_⟩:∃o,s.heap.get? c=some o/\True:=by
     simp only[fpZ,lz,lcc,ld9] at hc
     rcases hc with rfl|rfl|rfl|rfl|rfl
     ·exact⟨_,z1,trivial⟩
     ·exact⟨_,z2,trivial⟩
     ·exact⟨_,z3,trivial⟩
     ·exact⟨_,e1,trivial⟩
     ·exact⟨_,e2,trivial⟩
    rw[e] at ho
    exact absurd (ly ho) (lbE _)
   have szz:s.heap.objs.size≠((n+4:Nat):Addr):=λe=>nz _ rfl (by rw[e];simp[fpZ])
   have I1:Inv X pins σ H {s with heap:=h2,toks:=tk}:=I.turnedL (fp:=fpZ n) (λc o hc e=>by
    have hc':c≠((n+4:Nat):Addr)/\c≠((n+2:Nat):Addr)/\c≠((n+3:Nat):Addr)/\c≠(n:Addr)/\c≠((n+1:Nat):Addr):=by
     simpa [fpZ] using hc
    exact sb.extBut _ _ hc'.1 (kk c o hc'.1 hc'.2.2.1 hc'.2.2.2.1 hc'.2.2.2.2 e)) hf
   have hfree:H s.heap.objs.size=none:=I.hok.fresh (lu _)
   have hpair:h2.get? s.heap.objs.size=some {cls:=.type "tuple", data:=.seq #[v1,v2]}:=sb.extBut _ _ szz hp
   have I2:Inv X pins σ (upd H s.heap.objs.size (.tup [xs[i],ys[i]])) {s with heap:=h2,toks:=tk}:=I1.track hfree (.inr I.sz) (la1 I.lt) (λx c e=>by
     obtain⟨v,o,ho,_⟩:=I.cell x c e
     exact lR (ly ho)) (λp hp=>lR (ly (I.pin p hp).1))
    ⟨by show 2<=sizeLine;decide,[v1,v2],.cons ru1 (.cons ru2 .nil),_,hpair,rfl,⟨_,rfl⟩,rfl⟩
   refine⟨.ref s.heap.objs.size,_,I2,rfl,⟨_,_,_,hfree,lb i1,lb i2,rfl,rfl⟩,⟨v1,v2,.bool false,zz,sb.extBut _ _ D.TIz (kk _ _ D.TIz D.TITO D.TIi1 D.TIi2 z2),sb.extBut _ _ D.TOz to',?_,?_⟩,λb hb=>?_⟩
   ·exact A1.keep _ _ _ (ta _ s1) λo e=>sb.extBut _ _ D.i1z e
   ·exact A2.keep _ _ _ (tb _ s2) λo e=>sb.extBut _ _ D.i2z e
   ·rw[zZ (λe=>nz b e hb)]
    exact(hf b hb).1
 done:=by
  intro X hP hw hK hc i pins s σ H E I hf st hg
  obtain⟨q1,q2,hi⟩:=hg
  obtain⟨a,b,f1,z1,z2,z3,z4,z5⟩:=st
  have hT:s.TypeIs (.ref ((n+4:Nat):Addr)) "zip" := ⟨_,z1,rfl⟩
  have D:=zmX n
  have nn:∀{c:Addr}{k:Nat},(c:Nat)<n->c≠((n+k:Nat):Addr):=λ{c k} hc=>yh (.inl (lB hc (lbR _ _)))
  have hh:=I.ok.hd hc
  have key:∃Ga Gb:Heap->Prop,(Zp.Ends X.prog X.w X.A.in1 (n:Addr) Ga∨(Zp.Yields X.prog X.w X.A.in1 (n:Addr) Ga (λ_=>True) (λ_=>True)/\Zp.Ends X.prog X.w X.A.in1 ((n+1:Nat):Addr) Gb))/\(∀h',Kp n n s.heap h'->Ga h')/\(∀h',Kp (n+1) n s.heap h'->Gb h'):=by
   by_cases h1:xs.length<=i
   ·obtain⟨Ga,y,g⟩:=A1.ends X hP hw hK pins s σ H i I q1 h1 z4
    subst hP hw
    exact⟨Ga,λ_=>True,.inl (y _ hh),g,λ_ _=>trivial⟩
   ·obtain⟨Ga,Sa,Y1,ga,sa,ta⟩:=A1.yld X hP hw hK pins s σ H i _ I q1 (lb (Nat.lt_of_not_le h1)) z4
    obtain⟨Gb,y,g⟩:=A2.ends X hP hw hK pins s σ H i I q2 (by omega) z5
    subst hP hw
    exact⟨Ga,Gb,.inr ⟨λs Q E g hQ=>Y1 _ s Q E g λv h' tk _ _ sb=>hQ v h' tk trivial trivial sb,y _ hh⟩,ga,g⟩
  obtain⟨Ga,Gb,hend',ga,gb⟩:=key
  subst hP hw hK
  unfold pyNext
  refine la (lbH (lT (name:=Str.ofString "__next__") hT lbT
   (lZ lbT hT PySem.F.entry_zip_next (Zp.next_end D z1 z2 z3 hend' ?_ ?_ ?_) (PySem.F.args_zip_next_1 _))))
  ·refine λh' kk=>ga h' λc o hc e=>kk c o ?_ e
   rcases hc with rfl|hc
   ·exact D.i1z
   ·exact nn hc
  ·refine λh' kk=>gb h' λc o hc e=>?_
   rcases hc with rfl|hc
   ·exact kk _ _ D.i2z D.TOi2.symm D.i12.symm e
   ·exact kk _ _ (nn hc) (nn hc) (nn (k:=0) hc) e
  ·intro h' tk e kk he
   obtain⟨o,ho,hc⟩:=he
   refine la (ldj (T := "StopIteration") (b:=true) ⟨o,ho,hc⟩ ldZ ?_)
   refine lq ⟨rfl,I.turnedL (fp:=fpZ n) (λc o hc e=>?_) hf⟩
   have hc':c≠((n+4:Nat):Addr)/\c≠((n+2:Nat):Addr)/\c≠((n+3:Nat):Addr)/\c≠(n:Addr)/\c≠((n+1:Nat):Addr):=by
    simpa [fpZ] using hc
   exact kk c o hc'.1 hc'.2.2.1 hc'.2.2.2.1 hc'.2.2.2.2 e
 self:=λA i s Q E ⟨a,b,f1,z1,z2,z3,z4,z5⟩ h=>by
  have hT:s.TypeIs (.ref ((n+4:Nat):Addr)) "zip" := ⟨_,z1,rfl⟩
  refine wpAny_pyIter_slot hT PySem.F.slot_zip_iter (lZ PySem.F.slot_zip_iter hT PySem.F.entry_zip_iter ?_ (PySem.F.args_zip_iter_1 _))
  show wpAny _ _ (ret (.ref ((n+4:Nat):Addr))) _ _ s
  exact lq ⟨_,rfl, "zip", _,hT,lbT.lookup,h⟩
def Itu (u:Value)(o:Obj)(G:Heap->Prop):Prop:=∀(prog:Program) (w:World) (A:Around) (s:Shared) (Q:qQ2) (E:qQ2),G s.heap->Q (.ref s.heap.objs.size) {s with heap:=s.heap.push o}->wpAny (model prog w) A (pyIter u) Q E s
section
variable {prog:Program}{w:World}{A:Around}{E:qQ2}{s:Shared}
theorem zk9 {u1 u2:Value}{o1 o2:Obj}(b1:Itu u1 o1 G1)(b2:Itu u2 o2 G2)(up:∀h,G2 h->G2 (h.push o1)) :
  Meets (Builtin.«zip.__new__» ⟨[.type "zip", u1,u2],[]⟩) (λ_ R s=>G1 s.heap/\G2 s.heap /\
   R (.ok (.ret (.ref (Zp.zH4 s.heap o1 o2).objs.size))) {s with heap:=Zp.zH5 s.heap o1 o2}) :=
 .of_wp λprog w A R s h=>by
  obtain⟨hl1,hl2,h⟩:=h
  have z3:(Zp.zH3 s.heap o1 o2).objs.size=(Zp.zH2 s.heap o1 o2).objs.size+1:=las ..
  have z4:(Zp.zH4 s.heap o1 o2).objs.size=(Zp.zH2 s.heap o1 o2).objs.size+2:=by rw[las,z3]
  refine Zp.meets_st_aux (h1:=s.heap.push o1) (h2:=Zp.zH2 s.heap o1 o2) (i1:=s.heap.objs.size) (i2:=(s.heap.push o1).objs.size)
   (λQ E q=>b1 prog w A.in1 s Q E hl1 q) (λQ E q=>b2 prog w A.in1 {s with heap:=s.heap.push o1} Q E (up _ hl2) q) ⟨_,rfl,?_⟩
  rw[← z4,← z3]
  exact h
theorem zkX {u1 u2:Value}{o1 o2:Obj}{Q:qQ2}(f1:o1.isFreed=false)(f2:o2.isFreed=false)(b1:Itu u1 o1 G1)(b2:Itu u2 o2 G2)(up:∀h,G2 h->G2 (h.push o1))(hl1:G1 s.heap)(hl2:G2 s.heap)
  (h:∀h',Zp.Made5 s.heap h' o1 o2->Q (.ref (s.heap.objs.size+4)) {s with heap:=h'}) :
  wpAny (model prog w) A (call (.type "zip") [u1,u2]) Q E s:=by
 refine callType_new F.called_zip (by decide) (F.typeCall_zip_2 _ _) (F.newCall_zip_2 _ _) (λobj=>F.args_object_init_3 obj _ _) F.entry_zip_new
  (zk9 b1 b2 up) ⟨hl1,hl2,?_⟩
 obtain⟨m,z4⟩:=Zp.made5 s.heap o1 o2 f1 f2
 show _/\_
 rw[z4]
 exact⟨⟨_,m.1,rfl⟩,h _ m⟩
end
def zr2 (K:qQ0)(H:Hp)(v:V)(xs:List V)(G:Hp->Prop):Prop :=
 (∃l,v=.ref l/\SqT K H l xs/\G=λH=>SqT K H l xs)∨(∃l,v=.ref l/\SqL K H l xs/\G=λH=>SqL K H l xs)∨(∃l,v=.str (T l)/\(∀c∈l,c<128)/\xs=vC l/\G=λ_=>True)
theorem zsf {X:Cx}{pins:List (Addr×Obj)}{s:Shared}{u:Value}(I:Inv X pins σ H s)(z:zr2 X.K H v xs G)(r:RelV v u):G H/\∃(o:Obj) (C:Heap->Prop),o.isFreed=false/\C s.heap/\(∀h o',C h->C (h.push o'))/\Itu u o C /\
  ∀it:Nat,s.heap.objs.size<=it->∃S,ZS X.prog X.w X.K xs G s.heap.objs.size it S/\∀h:Heap,h.get? (it:Addr)=some o->S 0 h:=by
 rcases z with⟨l,rfl,q,rfl⟩|⟨l,rfl,q,rfl⟩|⟨l,rfl,ha,rfl,rfl⟩
 ·cases r
  obtain⟨its,rv,pl,_⟩:=I.tuple q
  have p1:s.heap.IsTuple l its.toArray:=pl
  have lt1:l<s.heap.objs.size:=by obtain⟨o,e,_⟩:=p1;exact ly e
  exact⟨q,Zp.tIter l,λh=>h.IsTuple l its.toArray,rfl,p1,λh o' ⟨o,e,r⟩=>⟨o,lg _ e,r⟩,λ_ _ _ _ _ _ g q=>lcL g q,λit hit=>⟨_,zqi lt1 hit,λh e=>⟨_,e,rfl,rfl⟩⟩⟩
 ·cases r
  obtain⟨its,rv,pl,_⟩:=I.list q
  have p1:s.heap.IsList l its.toArray:=pl.isList
  have lt1:l<s.heap.objs.size:=by obtain⟨o,e,_⟩:=p1;exact ly e
  exact⟨q,Zp.lIter l,λh=>h.IsList l its.toArray,rfl,p1,λh o' ⟨o,e,r⟩=>⟨o,lg _ e,r⟩,λ_ _ _ _ _ _ g q=>lcu g q,λit hit=>⟨_,zql lt1 hit,λh e=>⟨_,e,rfl,rfl⟩⟩⟩
 ·obtain ⟨t,rfl⟩:=r
  have ha':(T l).cps.all (· < 128)=true:=by
   simp only[T,ldl,lag,lae]
   exact ha
  exact⟨trivial,Zp.sIter (T l) t,λ_=>True,rfl,trivial,λ_ _ _=>trivial,λ_ _ _ _ _ _ _ q=>ldT ha' q,λit hit=>⟨_,zqg,λh e=>⟨_,e,rfl,rfl⟩⟩⟩
def Itz (K:qQ0)(l1 l2:Addr)(xs ys:List V):It :=
 ⟨λi H=>SqT K H l1 xs/\SqT K H l2 ys/\i<min xs.length ys.length,λi H v H'=>∃p x y,H p=none/\xs[i]? = some x/\ys[i]? = some y/\v=.ref p/\H'=upd H p (.tup [x,y]),λi H=>SqT K H l1 xs/\SqT K H l2 ys/\min xs.length ys.length<=i⟩
def zsV (K:qQ0)(ta tb:TE):TI:=λσ H R=>zao ta (zao tb zln) σ H λvs H1=>∃l1 l2 xs ys,vs=[.ref l1,.ref l2]/\SqT K H1 l1 xs/\SqT K H1 l2 ys/\R (Itz K l1 l2 xs ys) H1
section
variable {X:Cx}
theorem zkc {Z:List V->Hp->(It->Hp->Prop)->Prop}(hZ:∀vs H1 R,Z vs H1 R->∃(v1 v2:V) (xs ys:List V) (G1 G2:Hp->Prop),vs=[v1,v2]/\zr2 X.K H1 v1 xs G1/\zr2 X.K H1 v2 ys G2/\R (zrQ G1 G2 xs ys) H1){k:Nat}{tpos:Pos}{a:Expr}{p:Pos}(hg:Gl X "zip")(hm:X.mg "zip" = none)(ha:PE X a ta)(hb:PE X b tb)
  (hs:starEach [a,b] X.env=[(false,eval a X.env),(false,eval b X.env)]:=by rfl) (hs2:starEach [b] X.env=[(false,eval b X.env)]:=by rfl) :
  PI X (.Tuple elts k tpos) (.Call (.Name "zip" p) [a,b] [] pos) (λσ H R=>zao ta (zao tb zln) σ H λvs H1=>Z vs H1 R):=by
 intro pins s σ H R I h
 have hA:PA X [a,b] (zao ta (zao tb zln)):=yQ ha (yQ hb uc hs2) (by rw[hs,hs2])
 refine lbk (zbo I hg hm boot_zip ?_)
 refine laU (thn (hA pos pins s σ H _ I h) λus s1 hq35=>?_) (by rw[hs,hs2]) (by rw[hs2];rfl)
 obtain⟨vs,H2,I2,r2,zz⟩:=hq35
 obtain⟨v1,v2,xs,ys,G1,G2,ev,q1,q2,q⟩:=hZ _ _ _ zz
 subst ev
 obtain⟨u1,u2,rfl,ru1,ru2⟩:=vals2 r2
 obtain⟨g1,o1,C1,f1,c1,p1,b1,m1⟩:=zsf I2 q1 ru1
 obtain⟨g2,o2,C2,f2,c2,p2,b2,m2⟩:=zsf I2 q2 ru2
 obtain⟨S1,A1,st1⟩:=m1 s1.heap.objs.size (lu _)
 obtain⟨S2,A2,st2⟩:=m2 (s1.heap.objs.size+1) (lc6 _)
 refine zkX f1 f2 b1 b2 (λh c=>p2 h _ c) c1 c2 λh1 m5=>?_
 obtain⟨m1,m2,m3,m4,m6,m7,m8⟩:=m5
 have T:=zjo (P:=X.prog) (w:=X.w) (K:=X.K) (elts:=elts) (k:=k) (pos:=tpos) A1 A2
 refine T.self X.A 0 _ _ _ ⟨_,_,_,m1,m2,m3,st1 _ m4,st2 _ m6⟩ ?_
 have I3:Inv X pins σ H2 {s1 with heap:=h1}:=I2.kept (t':=s1.toks) m8
 refine⟨_,fpZ s1.heap.objs.size,_,zrQ G1 G2 xs ys,H2,rfl,I3,T,⟨_,_,_,m1,m2,m3,st1 _ m4,st2 _ m6⟩,λc hc=>?_,q⟩
 have hge:s1.heap.objs.size<=c:=by
  simp only[fpZ,lz,lcc,ld9] at hc
  rcases hc with rfl|rfl|rfl|rfl|rfl
  ·exact lbR _ _
  ·exact lbR _ _
  ·exact lbR _ _
  ·exact lu _
  ·exact lbR _ _
 obtain⟨f0,f1,f2,f3,f4,f5⟩:=I2.fpOk hge (I2.hok.fresh hge)
 exact⟨f0,f1,f2,f3,f4,f5⟩
theorem zhH {k:Nat}{tpos:Pos}{a:Expr}{p:Pos}(hg:Gl X "zip")(hm:X.mg "zip" = none)(ha:PE X a ta)(hb:PE X b tb)
  (hs:starEach [a,b] X.env=[(false,eval a X.env),(false,eval b X.env)]:=by rfl) (hs2:starEach [b] X.env=[(false,eval b X.env)]:=by rfl) :
  PI X (.Tuple elts k tpos) (.Call (.Name "zip" p) [a,b] [] pos) (zsV X.K ta tb):=zkc (λvs H1 R ⟨l1,l2,xs,ys,e,q1,q2,r⟩=>⟨_,_,xs,ys,_,_,e,.inl ⟨l1,rfl,q1,rfl⟩,.inl ⟨l2,rfl,q2,rfl⟩,r⟩) hg hm ha hb hs hs2
end
def Srt (ls:qQ1):Prop:=ls.Pairwise (·<=·)
theorem zg8 {a b:List Nat}(h:ltCps b a=false):a<=b:=by
 rw[ltCps_eq] at h
 exact la7.mp (ldW h)
theorem zb4:∀(p:Str) (l:List Str),risingS p l=true->(p::l).Pairwise λa b=>a.cps.toList<=b.cps.toList
 | p,[],_=>by simp
 | p,x::r,h=>by
  have h':(!ltCps x.cps.toList p.cps.toList&&risingS x r)=true:=h
  rw[lG] at h'
  have h1:p.cps.toList<=x.cps.toList:=zg8 (by simpa using h'.1)
  have h2:=zb4 x r h'.2
  refine laF.mpr ⟨λy hy=>?_,h2⟩
  rcases lz.mp hy with rfl|hy
  ·exact h1
  ·exact leW h1 (List.rel_of_pairwise_cons h2 hy)
theorem zkT {ss:List Str}(h:sortedS ss=true):Srt (ss.map λx=>x.cps.toList):=by
 unfold Srt
 rw[ld3]
 cases ss with
 | nil=>simp
 | cons x r=>exact zb4 x r h
theorem zbl:∀{us:List Value}{ss:List Str},StrsAre us ss->Vals (ss.map V.str) us
 | _,_,.nil=>.nil
 | _,_,.cons x t h=>.cons ⟨t,rfl⟩ (zbl h)
def vT (ls:qQ1):List V:=ls.map λl=>V.str (T l)
theorem zdL (ss:List Str):ss.map V.str=vT (ss.map λx=>x.cps.toList):=by
 unfold vT
 rw[laN]
 exact lbh λx _=>lbG V.str (zsG x).symm
theorem zss (ls:qQ1):vT ls=(ls.map T).map V.str:=by unfold vT;rw[laN];rfl
section
variable {X:Cx}
theorem zgr:ju X (.builtin "sorted") (λxs H Q=>∃a ls,xs=[.ref a]/\SqL X.K H a (vT ls)/\ls.length<64/\∀p ms,H p=none->ms.Perm ls->Srt ms->Q (.ref p) (upd H p (.lst (vT ms)))):=by
 intro pins s σ H xs us Q I r h
 obtain⟨a,ls,rfl,ha,h64,q⟩:=h
 obtain⟨u,rfl,ru⟩:=vals1 r
 cases ru
 obtain⟨its,rv,pl,hz⟩:=I.list ha
 rw[zss] at rv
 have hl:=rv.length
 simp only[lD] at hl
 refine sorted_strs pl.isList (zbm rv) (by omega) λout ss' h1 h2 h3=>?_
 have hS:=zkT h3
 have hP:(ss'.map λx=>x.cps.toList).Perm ls:=by
  have:=h2.map λx:Str=>x.cps.toList
  rw[laN] at this
  have e:ls.map ((λx:Str=>x.cps.toList)∘T)=ls:=by
   have:((λx:Str=>x.cps.toList)∘T)=id:=funext λl=>zbc l
   rw[this,lc7]
  rw[e] at this
  exact this
 obtain⟨c,hat⟩:=sortedAll_at s.heap its out
 have hlen:ss'.length=ls.length:=by have:=h2.length_eq;simpa using this
 refine⟨.ref (s.heap.objs.size+1),_,I.laid (t':=s.toks) (o:=.lst (vT (ss'.map λx=>x.cps.toList))) (λb o e=>sortedAll_old e) (lc6 _) ?_,rfl,q _ _ (I.hok.fresh (lc6 _)) hP hS⟩
 refine⟨?_,out.toList,c,?_,by simpa [seqObj] using hat⟩
 ·rw[← zdL,lD,laQ];omega
 ·rw[← zdL];exact zbl h1
theorem zho:∀{xs:List V}{us:List Value},xs.length=us.length->(∀(j:Nat) x u,xs[j]? = some x->us[j]? = some u->RelV x u)->Vals xs us
 | [],[],_,_=>.nil
 | [],_::_,h,_=>by simp at h
 | _::_,[],h,_=>by simp at h
 | x::xs,u::us,h,k=>.cons (k 0 x u rfl rfl) (zho (by simpa using h) λj y v e1 e2=>k (j+1) y v (by simpa using e1) (by simpa using e2))
theorem zgj (hc:X.calm=true):ju X (.builtin "sorted") (λxs H Q=>∃a kvs ls,xs=[.ref a]/\H a=some (.dK kvs)/\kvs.map (·.1)=ls.map (λl=>(Sum.inr (T l):Key))/\ls.length<64/\∀p ms,H p=none->ms.Perm ls->Srt ms->Q (.ref p) (upd H p (.lst (vT ms)))):=by
 intro pins s σ H xs us Q I r h
 obtain⟨a,kvs,ls,rfl,ha,hks,h64,q⟩:=h
 obtain⟨u,rfl,ru⟩:=vals1 r
 cases ru
 obtain⟨hz,lo,ws,kv,hD⟩:=I.hok a _ ha
 obtain⟨ep,hat⟩:=hD.dictAt
 have hlk:kvs.length=ls.length:=by have:=lbG List.length hks;simpa using this
 have hkeys:∀{kvs:List (Key×V)}{ws:List (Key×Value)},KV kvs ws->ws.map (·.1)=kvs.map (·.1):=λ{kvs ws} kv=>by
  induction kv with
  | nil=>rfl
  | cons r _ ih=>rw[lr,lr,ih,r.1]
 have hw:ws.map (·.1)=ls.map (λl=>(Sum.inr (T l):Key)):=(hkeys kv).trans hks
 have hlw:ws.length=ls.length:=by have:=lbG List.length hw;simpa using this
 refine lcy kind_sorted plain_sorted entry_sorted (args_sorted1 _) ?_
 unfold Builtin.«sorted»
 refine la (m:=checkCount "sorted" 1 1 _) (lq ?_)
 refine la (PySem.W.kdu_collect (A:=X.A.in1) (PySem.W.kdl_dict (knd:=xr X.prog X.w) (kvs:=ws) (ep:=ep) lo) (I.ok.hd hc) hat (by rw[laQ];omega) λh' tk acc hk hacc=>?_)
 have hl:acc.toList.length=ls.length:=by rw[lbs,hacc.1,hlw]
 have hS:StrsAre acc.toList (ls.map T):=by
  have hv:Vals ((ls.map T).map V.str) acc.toList:=zho (by rw[lD,lD,hl]) λj x v e1 e2=>by
   obtain⟨k,y,e3,e4⟩:=hacc.2 j v (by simpa using e2)
   rw[laN,lH] at e1
   have e5:(ws.map (·.1))[j]? = some k:=by rw[lH,e3];rfl
   rw[hw,lH] at e5
   cases e6:ls[j]? with
   | none=>rw[e6] at e5;cases e5
   | some l =>
    rw[e6] at e5 e1
    obtain rfl:=lp e5
    obtain rfl:=lp e1
    rcases yR (show zg9 (Sum.inr (T l)) v=true from e4) with⟨i,t,z,_⟩|⟨x,t,z,rfl⟩
    ·cases z
    ·injection z with z
     subst z
     exact⟨t,rfl⟩
  exact zbm hv
 refine la (ldx ?_ (by rw[hl,laQ];omega))
 have hoL:(h'.push (seqObj "list" acc.toList.toArray 0)).get? h'.objs.size=some (seqObj "list" acc.toList.toArray 0):=lC _ rfl
 show wpAny _ _ _ _ _ {s with heap:=h'.push (seqObj "list" acc.toList.toArray 0),toks:=tk}
 refine la (laR (lZ slot_list_sort ⟨_,hoL,rfl⟩ entry_list_sort (list_sort_treeK strKind_oneLt hoL hS.keysOf (λv₁ v₂ rest e=>keyKind_strs (by rw[← e];exact hS)) (by omega) λst' a1 a2=>⟨_,rfl,?_⟩) (args_list_sort _)))
 refine lq ⟨_,rfl,?_⟩
 obtain⟨ss',h1,h2,h3⟩:=sorted_out_str hS a1 a2
 have hSr:=zkT h3
 have hP:(ss'.map λx=>x.cps.toList).Perm ls:=by
  have:=h2.map λx:Str=>x.cps.toList
  rw[laN] at this
  have e:ls.map ((λx:Str=>x.cps.toList)∘T)=ls:=by
   have:((λx:Str=>x.cps.toList)∘T)=id:=funext λl=>zbc l
   rw[this,lc7]
  rw[e] at this
  exact this
 obtain⟨c,hat'⟩:=sortedHeap_at (n:=0) (out:=(arrOf st').map (·.2)) hoL
 have hlen:ss'.length=ls.length:=by have:=h2.length_eq;simpa using this
 have I1:Inv X pins σ H {s with heap:=h',toks:=tk}:=I.kept (t':=tk) hk
 refine⟨.ref h'.objs.size,_,I1.laid (t':=tk) (o:=.lst (vT (ss'.map λx=>x.cps.toList))) (λb o e'=>?_) (lu _) ?_,rfl,q _ _ (I1.hok.fresh (lu _)) hP hSr⟩
 ·have hlt:=ly e'
  rw[sortedHeap_old (lR hlt) (by rw[size_push'];exact lb4 hlt)]
  exact lg _ e'
 ·refine⟨?_,((arrOf st').map (·.2)).toList,c,?_,by rw[Array.toArray_toList];exact hat'⟩
  ·rw[← zdL,lD,laQ];omega
  ·rw[← zdL];exact zbl h1
theorem zkb {K:qQ0}{j:Nat}{px py:Pos}{k:Nat}(hK:X.K=K)(hc:X.calm=true)(hN:X.N.Nodup)(hi:X.N[i]? = some x)(hj:X.N[j]? = some y)(hx:Loc X.env.scope x)(hy:Loc X.env.scope y)
  (fx:X.fn x=true∨X.env.scope.names.lookup x=some .local:=by first|exact .inl rfl|exact .inr rfl|assumption) (fy:X.fn y=true∨X.env.scope.names.lookup y=some .local:=by first|exact .inl rfl|exact .inr rfl|assumption) :
  PG X (.Tuple [.Name x px,.Name y py] k pos) (ziQ K 2 (uF (vM i) (uF (vM j) ziN))):=hK▸zjV hc (j8 (zN hN hi hx fx) (j8 (zN hN hj hy fy) zhf))
end
theorem zkl {K:qQ0}{l1 l2:Addr}(hz:xs.length<=sizeLine){tt:TT}{te:TE}{σ0:St}(Pv:Nat->List V->Hp->Prop)(h0:Pv 0 [] H1)(hG:∀i vs H,Pv i vs H->SqT K H l1 xs/\SqT K H l2 ys/\vs.length<=i)
  (hs:∀i x y p vs H,xs[i]? = some x->ys[i]? = some y->H p=none->Pv i vs H->g (.ref p) σ0 (upd H p (.tup [x,y])) λσ2 H2=>Kps σ0 σ2/\tt σ2 H2 λb H3=>if b=true then te σ2 H3 λv H4=>Pv (i+1) (vs++[v]) H4 else Pv (i+1) vs H3) (hd:∀vs H,Pv (min xs.length ys.length) vs H->F vs H) :
  zbT g tt te σ0 F (Itz K l1 l2 xs ys) H1:=by
 refine⟨λi m vs H=>m=min xs.length ys.length - i/\i<=min xs.length ys.length/\Pv i vs H,⟨_,rfl,lbm _,h0⟩,?_⟩
 rintro i m vs H ⟨rfl,hi,p⟩
 obtain⟨q1,q2,hl⟩:=hG i vs H p
 refine⟨by omega,?_⟩
 by_cases hlt:i<min xs.length ys.length
 ·refine .inr ⟨⟨q1,q2,hlt⟩,by omega,Pv (i+1),λvs' H' p'=>⟨min xs.length ys.length - (i+1),by omega,rfl,hlt,p'⟩,?_⟩
  rintro v H' ⟨a,x,y,e0,e1,e2,rfl,rfl⟩
  exact hs i x y a vs H e1 e2 e0 p
 ·have e:i=min xs.length ys.length:=by omega
  subst e
  exact .inl ⟨⟨q1,q2,lu _⟩,hd vs H p⟩
theorem znR {K:qQ0}{l1 l2:Addr}{tb:TS}{D:Ends}(Pv:Nat->St->Hp->Prop)(h0:Pv 0 σ H)(hG:∀i σ H,Pv i σ H->SqT K H l1 xs/\SqT K H l2 ys)
  (hs:∀i x y p σ H,xs[i]? = some x->ys[i]? = some y->H p=none->Pv i σ H->g (.ref p) σ (upd H p (.tup [x,y])) λσ2 H2=>tb {D with nx:=Pv (i+1),ct:=Pv (i+1),bk:=D.nx} σ2 H2) (hd:∀σ H,Pv (min xs.length ys.length) σ H->D.nx σ H) :
  ∃ W:Nat->Nat->St->Hp->Prop,(∃m,W 0 m σ H)/\∀i m σ H,W i m σ H ->
   ((Itz K l1 l2 xs ys).stop i H/\D.nx σ H)∨((Itz K l1 l2 xs ys).go i H/\∃N:St->Hp->Prop,(∀σ' H',N σ' H'->∃m',m'<m/\W (i+1) m' σ' H')/\∀x H',(Itz K l1 l2 xs ys).yld i H x H'->g x σ H' λσ2 H2=>tb {D with nx:=N,ct:=N,bk:=D.nx} σ2 H2):=by
 refine⟨λi m σ H=>m=min xs.length ys.length - i/\i<=min xs.length ys.length/\Pv i σ H,⟨_,rfl,lbm _,h0⟩,?_⟩
 rintro i m σ H ⟨rfl,hi,p⟩
 obtain⟨q1,q2⟩:=hG i σ H p
 by_cases hlt:i<min xs.length ys.length
 ·refine .inr ⟨⟨q1,q2,hlt⟩,Pv (i+1),λσ' H' p'=>⟨min xs.length ys.length - (i+1),by omega,rfl,hlt,p'⟩,?_⟩
  rintro v H' ⟨a,x,y,e0,e1,e2,rfl,rfl⟩
  exact hs i x y a σ H e1 e2 e0 p
 ·have e:i=min xs.length ys.length:=by omega
  subst e
  exact .inl ⟨⟨q1,q2,lu _⟩,hd σ H p⟩
end L2
namespace My
variable {m c j t:Nat}{l x p:List Nat}{ws:List Int}{a:Int}{B xs ls:qQ1}
def abcd:List Nat:=[97,98,99,100]
def wt (ws:List Int)(c:Nat):Int:=ws.getD (c - 97) 0
def up (ws:List Int):List Nat->Int
 | []=>1
 | c::r=>wt ws c*up ws r
def dn (ws:List Int)(l:List Nat):Int:=ws.sum ^ l.length
def shr (ws:List Int)(l:List Nat):Int×Int:=low (up ws l) (dn ws l)
def yq (ws:List Int):Prop:=2<=ws.length/\ws.length<=4/\∀w∈ws,1<=w/\w<=99
def LetOk (m:Nat)(l:List Nat):Prop:=∀c∈l,97<=c/\c<97+m
theorem LetOk.app {k:List Nat}(a:LetOk m l)(b:LetOk m k):LetOk m (l++k):=λc hc=>by
 rcases lap.mp hc with h|h
 ·exact a c h
 ·exact b c h
theorem znb (ws:List Int)(l m:List Nat):up ws (l++m)=up ws l*up ws m:=by
 induction l with
 | nil=>simp[up]
 | cons c r ih=>simp only[laG,up,ih];grind
theorem zmU (h:yq ws)(hc:97<=c/\c<97+ws.length):wt ws c∈ws:=by
 unfold wt
 have hi:c - 97<ws.length:=by omega
 rw[lh,lb hi]
 exact laK hi
theorem zbe (h:yq ws)(hc:97<=c/\c<97+ws.length):1<=wt ws c/\wt ws c<=99:=h.2.2 _ (zmU h hc)
theorem za5 (h:yq ws)(hl:LetOk ws.length l):0<up ws l:=by
 induction l with
 | nil=>show(0:Int)<1;decide
 | cons c r ih =>
  have h1:=(zbe h (hl c lJ)).1
  have h2:=ih λd hd=>hl d (lF _ hd)
  exact ldF (by omega) h2
theorem zlr (h:yq ws)(hl:LetOk ws.length l):up ws l<=99 ^ l.length:=by
 induction l with
 | nil=>show(1:Int)<=99 ^ 0;decide
 | cons c r ih =>
  have h1:=zbe h (hl c lJ)
  have hr:LetOk ws.length r:=λd hd=>hl d (lF _ hd)
  have h2:=ih hr
  have h3:=za5 h hr
  show wt ws c*up ws r<=99 ^ (r.length+1)
  rw[lbr,la2]
  exact lbj h2 h1.2 (by omega) (ldd (by decide))
theorem zdV:∀{ws:List Int},(∀w∈ws,1<=w/\w<=99)->(ws.length:Int)<=ws.sum/\ws.sum<=99*ws.length
 | [],_=>by simp
 | w::r,h=>by
  have h1:=h w lJ
  have h2:=zdV (ws:=r) λx hx=>h x (lF _ hx)
  rw[lao,lM]
  omega
theorem ziV:∀{ws:List Int},(∀w∈ws,1<=w/\w<=99)->∀w∈ws,w+(ws.length:Int) - 1<=ws.sum
 | v::r,h,w,hw=>by
  have h1:=h v lJ
  have hr:∀x∈r,1<=x/\x<=99:=λx hx=>h x (lF _ hx)
  rw[lao,lM]
  rcases lz.mp hw with rfl|hw
  ·have:=(zdV hr).1;omega
  ·have:=ziV hr w hw;omega
theorem uT (h:yq ws):2<=ws.sum/\ws.sum<=396:=by
 have:=zdV h.2.2
 have:=h.1
 have:=h.2.1
 omega
theorem zrX (h:yq ws)(hc:97<=c/\c<97+ws.length):wt ws c<ws.sum:=by
 have:=ziV h.2.2 _ (zmU h hc)
 have:=h.1
 omega
theorem zfu (h:yq ws)(l:List Nat):0<dn ws l:=lcq (by have:=uT h;omega)
theorem zfU {b:Int}(ha:0<=a)(h:a<=b)(n:Nat):a ^ n<=b ^ n:=by
 induction n with
 | zero=>simp
 | succ n ih =>
  rw[lbr,lbr]
  exact lbj ih h ha (ldd (by omega))
theorem vQ (ha:1<=a){n:Nat}(h:n<=m):a ^ n<=a ^ m:=by
 obtain⟨k,rfl⟩:=Nat.exists_eq_add_of_le h
 rw[ldH]
 have h1:0<a ^ n:=lcq (by omega)
 have h2:0<a ^ k:=lcq (by omega)
 have:=laB (show(1:Int)<=a ^ k by omega) (lab h1)
 omega
theorem znn (h:yq ws)(l:List Nat):dn ws l<=396 ^ l.length:=zfU (by have:=uT h;omega) (uT h).2 _
def Fra (B:Nat)(x:Int×Int):Prop:=0<=x.1/\0<x.2/\x.1<2 ^ B/\x.2<2 ^ B
theorem zjx {u d:Int}{B:Nat}(hu:0<=u)(hd:0<d)(h1:u<2 ^ B)(h2:d<2 ^ B):Fra B (low u d):=by
 have:=zpt hd hu
 exact⟨zdT hd hu,zjf hd,by omega,by omega⟩
theorem zgJ (a b:Nat):(2:Int) ^ a*2 ^ b=2 ^ (a+b):=(ldH ..).symm
theorem Fra.mono {B C:Nat}{x:Int×Int}(h:Fra B x)(hBC:B<=C):Fra C x:=by
 have:=vQ (a:=2) (by decide) hBC
 obtain⟨a,b,c,d⟩:=h
 exact⟨a,b,by omega,by omega⟩
theorem zfs {b:Int}{B C:Nat}(ha:0<=a)(hb:0<=b)(h1:a<2 ^ B)(h2:b<2 ^ C):a*b<2 ^ (B+C):=by
 rw[← zgJ]
 have h3:(0:Int)<2 ^ B:=by omega
 have h4:=lbj (lab h1) (lab h2) hb (by omega)
 have:a*b<=a*2 ^ C:=laB (lab h2) ha
 have h5:a*2 ^ C<2 ^ B*2 ^ C:=Int.mul_lt_mul_of_pos_right h1 (by omega)
 omega
theorem zgQ (h:yq ws)(hl:LetOk ws.length l){n:Nat}(hn:l.length<=n):Fra (9*n+1) (shr ws l):=by
 have h1:=zlr h hl
 have h2:=znn h l
 have h3:=zfU (a:=99) (b:=512) (by decide) (by decide) l.length
 have h4:=zfU (a:=396) (b:=512) (by decide) (by decide) l.length
 have h5:=vQ (a:=512) (by decide) hn
 have e:(512:Int) ^ n=2 ^ (9*n):=by rw[Int.pow_mul];rfl
 have e2:(2:Int) ^ (9*n+1)=2*2 ^ (9*n):=by rw[lbr];omega
 have h0:(0:Int)<2 ^ (9*n):=lcq (by decide)
 exact zjx (lab (za5 h hl)) (zfu h l) (by omega) (by omega)
section
variable {ws:List Int}(h:yq ws)
include h
theorem znj:shr ws []=(1,1):=by
 show low 1 (ws.sum ^ 0)=_
 rw[lew];decide
def acc (ws:List Int)(l:List Nat)(S:Int):Int×Int:=low (up ws l*S) (dn ws l*ws.sum)
end
section
variable {a b c d e f:Int}(hb:0<b)(hd:0<d)(hf:0<f)
include hb
end
def rising (ps:qQ1):Bool:=(ps.zip ps.tail).all λx=>decide (x.1<x.2)
def isInner (ps:qQ1)(x:List Nat):Bool:=ps.any λp=>x.isPrefixOf p && !decide (p=x)
def xP (ps:qQ1)(x:List Nat):Bool:=!(ps.any λp=>x.isPrefixOf p || p.isPrefixOf x)
def zV (m:Nat)(xs:qQ1):qQ1:=xs.flatMap λx=>(abcd.take m).map λc=>x++[c]
def wR (ps:qQ1):Option (List Nat×List Nat):=(ps.zip ps.tail).find? λx=>x.1.isPrefixOf x.2
def fta (m:Nat)(ps:qQ1):Nat->qQ1->Option (List Nat)
 | 0,_=>none
 | n+1,inner=>if inner=[] then none else match (zV m inner).find? (xP ps) with
  | some x=>some x
  | none=>fta m ps n ((zV m inner).filter (isInner ps))
def v5 (m:Nat)(ps:qQ1):Option (List Nat):=fta m ps 32 [[]]
def isBook (m:Nat)(ps:qQ1):Bool:=rising ps&&(wR ps).isNone&&(v5 m ps).isNone
theorem zbO {y:List Nat}(h:y∈zV m xs):∃x∈xs,∃c∈abcd.take m,y=x++[c]:=by
 unfold zV at h
 obtain⟨x,hx,hy⟩:=leh.mp h
 obtain⟨c,hc,rfl⟩:=laI.mp hy
 exact⟨x,hx,c,hc,rfl⟩
theorem zcM {ps:qQ1}(h:isInner ps x=true)(h8:∀p∈ps,p.length<=31):x.length<31:=by
 unfold isInner at h
 obtain⟨p,hp,e⟩:=lbS.mp h
 rw[lG] at e
 obtain⟨s,rfl⟩:=laa.mp e.1
 have hs:s≠[]:=λz=>by subst z;simp at e
 have:=h8 _ hp
 rw[lU] at this
 have:=lbN.mpr hs
 omega
def j9 (ks:qQ1)(k:List Nat):qQ1:=if k∈ks then ks else ks++[k]
def zmt (p:List Nat):qQ1:=(List.range p.length).map λe=>p.take e
def zE (ps:qQ1):qQ1:=(ps.flatMap zmt).foldl j9 []
def sortF (ls:qQ1):qQ1:=ls.mergeSort λa b=>!decide (b<a)
theorem zdg (ls:qQ1):(sortF ls).Pairwise (·<=·):=by
 have h:=List.pairwise_mergeSort (le:=λa b:List Nat=>!decide (b<a)) (λa b c h1 h2=>by
  have h1':a<=b:=la7.mp (by simpa using h1)
  have h2':b<=c:=la7.mp (by simpa using h2)
  have h3:¬c<a:=la7.mpr (leW h1' h2')
  simpa using h3) (λa b=>by
  rcases List.le_total a b with h|h
  ·have:=la7.mpr h
   simp[this]
  ·have:=la7.mpr h
   simp[this]) ls
 exact h.imp λh=>la7.mp (by simpa using h)
theorem vO (ls:qQ1):(sortF ls).Perm ls:=List.mergeSort_perm ls _
theorem sortF_eq {ms:qQ1}(h:ms.Pairwise (·<=·))(p:ms.Perm ls):ms=sortF ls:=lcJ (λ_ _ _ _ h k=>ldp h k) h (zdg ls) (p.trans (vO ls).symm)
theorem zhJ (ks:qQ1)(k:List Nat):(j9 ks k).length<=ks.length+1:=by
 unfold j9
 split
 ·omega
 ·rw[lU];exact lu _
structure Book (m:Nat)(B:qQ1):Prop where
 m2:2<=m
 m4:m<=4
 let_:∀p∈B,LetOk m p
 ne:∀p∈B,p≠[]
 pf:∀p∈B,∀q∈B,p <+: q->p=q
 cv:∀x,LetOk m x->∃p∈B,p <+: x∨x <+: p
 srt:B.Pairwise (·<=·)
 nd:B.Nodup
theorem zly (h:c∈abcd.take m):97<=c/\c<97+m:=by
 obtain⟨i,hi,rfl⟩:=List.mem_iff_getElem.mp h
 have h1:i<m:=by rw[lW] at hi;omega
 have h2:i<4:=by rw[lW] at hi;have:abcd.length=4:=rfl;omega
 rw[List.getElem_take]
 have:i=0∨i=1∨i=2∨i=3:=by omega
 rcases this with rfl|rfl|rfl|rfl
 ·show 97<=97/\97<_;omega
 ·show 97<=98/\98<_;omega
 ·show 97<=99/\99<_;omega
 ·show 97<=100/\100<_;omega
theorem u6 (hm:m<=4)(h:97<=c/\c<97+m):c∈abcd.take m:=by
 have:m=0∨m=1∨m=2∨m=3∨m=4:=by omega
 have:c=97∨c=98∨c=99∨c=100:=by omega
 rcases this with rfl|rfl|rfl|rfl <;>rcases(by assumption:m=0∨_) with rfl|rfl|rfl|rfl|rfl <;>first|decide|omega
theorem znZ (m:Nat):(abcd.take m).Nodup:=List.Sublist.nodup (ld0 _ _) (by decide)
theorem LetOk.one (h:c∈abcd.take m):LetOk m [c]:=λd hd=>by rw[lK.mp hd];exact zly h
theorem LetOk.pre {y:List Nat}(h:LetOk m y)(p:x <+: y):LetOk m x:=λc hc=>h c (p.subset hc)
theorem zkZ (h:Book m B)(hx:LetOk m x):xP B x=false:=by
 obtain⟨p,hp,e⟩:=h.cv x hx
 unfold xP
 rw[Bool.not_eq_false',lbS]
 refine⟨p,hp,?_⟩
 rw[ley,laa,laa]
 exact e.symm
theorem zio (h:∀x∈xs,LetOk m x):∀y∈zV m xs,LetOk m y:=λy hy=>by
 obtain⟨x,hx,c,hc,rfl⟩:=zbO hy
 exact(h x hx).app (LetOk.one hc)
theorem zic {m:Nat}{B:qQ1}(h:Book m B):∀(n:Nat) (xs:qQ1),(∀x∈xs,LetOk m x)->fta m B n xs=none
 | 0,_,_=>rfl
 | n+1,xs,hx=>by
  unfold fta
  split
  ·rfl
  ·have hg:=zio hx
   have e:(zV m xs).find? (xP B)=none:=lcT.mpr λx hx=>by rw[zkZ h (hg x hx)];exact lE
   rw[e]
   exact zic h n _ λx hx=>hg x (lbf.mp hx).1
theorem zdp (h:Book m B):v5 m B=none:=zic h 32 [[]] λx hx=>by
 rw[lK.mp hx]
 intro c hc
 cases hc
theorem zgb {α:Type}:∀{l:List α}{x:α×α},x∈l.zip l.tail->x.1∈l/\x.2∈l:=λ{l x} h=>⟨(lcj h).1,List.mem_of_mem_tail (lcj h).2⟩
theorem jc {α:Type}{R:α->α->Prop}:∀{l:List α},l.Pairwise R->∀x∈l.zip l.tail,R x.1 x.2
 | [],_,x,h=>by cases h
 | [_],_,x,h=>by cases h
 | a::b::r,p,x,h=>by
  have h':x∈(a,b)::(b::r).zip r:=h
  rcases lz.mp h' with rfl|h'
  ·exact List.rel_of_pairwise_cons p lJ
  ·exact jc (l:=b::r) (laF.mp p).2 x h'
theorem strict (s:B.Pairwise (·<=·))(n:B.Nodup):B.Pairwise (· < ·):=by
 have:=List.Pairwise.and s n
 exact this.imp λ⟨h,k⟩=>lbV λhn=>k (ldp h (la7.mp hn))
theorem zdy (h:Book m B):wR B=none:=by
 refine lcT.mpr λx hx=>?_
 intro e
 have hm:=zgb hx
 have:=h.pf _ hm.1 _ hm.2 (laa.mp e)
 have lt:=jc (strict h.srt h.nd) x hx
 rw[this] at lt
 exact lcg _ lt
theorem zjY (h:Book m B):rising B=true:=by
 unfold rising
 rw[lag]
 exact λx hx=>lP (jc (strict h.srt h.nd) x hx)
theorem Book.isBook {m:Nat}{B:qQ1}(h:Book m B):isBook m B=true:=by
 unfold My.isBook
 rw[zjY h,zdy h,zdp h]
 rfl
def kids (m:Nat)(p:List Nat):qQ1:=(abcd.take m).map λc=>p++[c]
theorem kids_mem :x∈kids m p↔∃c∈abcd.take m,x=p++[c]:=by
 unfold kids
 rw[laI]
 exact⟨λ⟨c,h,e⟩=>⟨c,h,e.symm⟩,λ⟨c,h,e⟩=>⟨c,h,e.symm⟩⟩
theorem zgy (m:Nat)(p:List Nat):(kids m p).Nodup:=by
 unfold kids
 rw[List.nodup_iff_pairwise_ne,ld3]
 refine(znZ m).imp λh e=>h ?_
 exact List.singleton_inj.mp (List.append_cancel_left e)
theorem kh (m:Nat)(hm:m<=4)(p:List Nat):(kids m p).length=m:=by
 unfold kids
 rw[lD,lW]
 show min m 4=m
 omega
theorem zpX (hm:2<=m)(hp:∀x∈kids m p,x∈B)(hx:LetOk m x)(m4:m<=4)(h:p <+: x∨x <+: p):∃q∈B,q <+: x∨x <+: q:=by
 have h97:97∈abcd.take m:=u6 m4 (by omega)
 rcases h with⟨s,rfl⟩|h
 ·cases s with
  | nil=>exact⟨p++[97],hp _ (kids_mem.mpr ⟨97,h97,rfl⟩),.inr (by rw[lX];exact lbd _ _)⟩
  | cons c r =>
   have hc:=hx c (by simp)
   exact⟨p++[c],hp _ (kids_mem.mpr ⟨c,u6 m4 hc,rfl⟩),.inl ⟨r,by simp⟩⟩
 ·exact⟨p++[97],hp _ (kids_mem.mpr ⟨97,h97,rfl⟩),.inr (h.trans (lbd _ _))⟩
theorem zex (p:List Nat)(c:Nat):p++[c]≠p:=λe=>by have:=lbG List.length e;simp at this
def part (m:Nat)(B:qQ1)(j:Nat):qQ1:=sortF (B.eraseIdx j++kids m (B.getD j []))
theorem part_mem (hn:B.Nodup)(hj:j<B.length):x∈part m B j↔(x∈B/\x≠B.getD j [])∨x∈kids m (B.getD j []):=by
 unfold part
 rw[(vO _).mem_iff,lap]
 have e:B.getD j []=B[j]:=by rw[lh,lb hj];rfl
 have:x∈B.eraseIdx j↔x∈B/\x≠B.getD j []:=by
  rw[List.mem_eraseIdx_iff_getElem,e]
  constructor
  ·rintro⟨i,hi,hij,rfl⟩
   exact⟨laK hi,λz=>hij ((List.getElem_inj hn).mp z)⟩
  ·rintro⟨hx,hne⟩
   obtain⟨i,hi,rfl⟩:=List.mem_iff_getElem.mp hx
   exact⟨i,hi,λz=>hne (by subst z;rfl),rfl⟩
 rw[this]
theorem Book.part {m:Nat}{B:qQ1}(h:Book m B){j:Nat}(hj:j<B.length):Book m (part m B j):=by
 have hpm:B.getD j []∈B:=by rw[lh,lb hj];exact laK hj
 have mem:=λx=>part_mem (m:=m) h.nd hj (x:=x)
 have hsr:(My.part m B j).Pairwise (·<=·):=zdg _
 have hnd:(My.part m B j).Nodup:=by
  unfold My.part
  refine(vO _).nodup_iff.mpr (lbu.mpr ⟨h.nd.eraseIdx j,zgy _ _,?_⟩)
  rintro a ha b hb rfl
  have haB:a∈B:=List.mem_of_mem_eraseIdx ha
  obtain⟨c,hc,rfl⟩:=kids_mem.mp hb
  have:=h.pf _ hpm _ haB (lbd _ _)
  exact zex _ _ this.symm
 generalize My.part m B j=C at mem hsr hnd
 generalize B.getD j []=p at mem hpm
 refine⟨h.m2,h.m4,λx hx=>?_,λx hx=>?_,λx hx y hy hxy=>?_,λx hx=>?_,hsr,hnd⟩
 ·rcases (mem x).mp hx with⟨hx,_⟩|hx
  ·exact h.let_ x hx
  ·obtain⟨c,hc,rfl⟩:=kids_mem.mp hx
   exact(h.let_ _ hpm).app (LetOk.one hc)
 ·rcases (mem x).mp hx with⟨hx,_⟩|hx
  ·exact h.ne x hx
  ·obtain⟨c,hc,rfl⟩:=kids_mem.mp hx
   simp
 ·rcases (mem x).mp hx with⟨hx,nx⟩|hx <;>rcases(mem y).mp hy with⟨hy,ny⟩|hy
  ·exact h.pf x hx y hy hxy
  ·obtain⟨c,hc,rfl⟩:=kids_mem.mp hy
   rcases lbe.mp hxy with e|e
   ·exact e
   ·exact absurd (h.pf x hx p hpm e) nx
  ·obtain⟨c,hc,rfl⟩:=kids_mem.mp hx
   exact absurd (h.pf p hpm y hy ((lbd _ _).trans hxy)).symm ny
  ·obtain⟨c,hc,rfl⟩:=kids_mem.mp hx
   obtain⟨d,hd,rfl⟩:=kids_mem.mp hy
   exact hxy.eq_of_length (by simp)
 ·obtain ⟨q,hq,e⟩:=h.cv x hx
  by_cases hqp:q=p
  ·subst hqp
   exact zpX h.m2 (λz hz=>(mem z).mpr (.inr hz)) hx h.m4 e
  ·exact⟨q,(mem q).mpr (.inl ⟨hq,hqp⟩),e⟩
theorem Book.letters (m2:2<=m)(m4:m<=4):Book m (kids m []):=by
 refine⟨m2,m4,λx hx=>?_,λx hx=>?_,λx hx y hy hxy=>?_,λx hx=>?_,?_,zgy m []⟩
 ·obtain⟨c,hc,rfl⟩:=kids_mem.mp hx
  exact LetOk.one hc
 ·obtain⟨c,hc,rfl⟩:=kids_mem.mp hx
  simp
 ·obtain⟨c,hc,rfl⟩:=kids_mem.mp hx
  obtain⟨d,hd,rfl⟩:=kids_mem.mp hy
  exact hxy.eq_of_length (by simp)
 ·exact zpX m2 (λz hz=>hz) hx m4 (.inl (lcr))
 ·have:m=2∨m=3∨m=4:=by omega
  rcases this with rfl|rfl|rfl <;>decide
def Inner (B:qQ1)(x:List Nat):Prop:=∃p∈B,x <+: p/\x≠p
theorem foldl_addK (l:qQ1):∀ks:qQ1,ks.Nodup->(l.foldl j9 ks).Nodup/\∀x,x∈l.foldl j9 ks↔x∈ks∨x∈l:=by
 induction l with
 | nil=>intro ks h;exact⟨h,λx=>by simp⟩
 | cons k r ih =>
  intro ks h
  rw[la5]
  have h1:(j9 ks k).Nodup/\∀x,x∈j9 ks k↔x∈ks∨x=k:=by
   unfold j9
   split
   ·exact⟨h,λx=>⟨.inl,λz=>z.elim id λe=>by rw[e];assumption⟩⟩
   ·rename_i hk
    refine⟨lbu.mpr ⟨h,by simp,?_⟩,λx=>by simp⟩
    rintro a ha b hb rfl
    rw[lK.mp hb] at ha
    exact hk ha
  obtain⟨h2,h3⟩:=ih _ h1.1
  refine⟨h2,λx=>?_⟩
  rw[h3,h1.2,lz,or_assoc]
theorem begs_mem :x∈zmt p↔x <+: p/\x≠p:=by
 unfold zmt
 rw[laI]
 constructor
 ·rintro⟨e,he,rfl⟩
  have he':=lbJ.mp he
  refine⟨lcA _ _,λz=>?_⟩
  have:=lbG List.length z
  rw[lW] at this
  omega
 ·rintro⟨h,hn⟩
  refine⟨x.length,lbJ.mpr ?_,(lcS.mp h).symm⟩
  have h1:=h.length_le
  have:x.length≠p.length:=λz=>hn (h.eq_of_length z)
  omega
theorem yp (B:qQ1):(zE B).Nodup:=(foldl_addK _ [] lbK).1
theorem innerKeys_mem :x∈zE B↔Inner B x:=by
 unfold zE
 rw[(foldl_addK _ [] lbK).2,leh]
 simp only[lei,false_or]
 exact⟨λ⟨p,hp,h⟩=>⟨p,hp,begs_mem.mp h⟩,λ⟨p,hp,h⟩=>⟨p,hp,begs_mem.mpr h⟩⟩
theorem zdY (m2:2<=m)(m4:m<=4)(hn:B.Nodup)(hj:j<B.length)(h:Inner (part m B j) x):Inner B x∨x=B.getD j []:=by
 obtain⟨q,hq,hx,hne⟩:=h
 have hpm:B.getD j []∈B:=by rw[lh,lb hj];exact laK hj
 rcases(part_mem hn hj).mp hq with⟨hq,_⟩|hq
 ·exact .inl ⟨q,hq,hx,hne⟩
 ·obtain ⟨c,hc,rfl⟩:=kids_mem.mp hq
  rcases lbe.mp hx with e|e
  ·exact absurd e hne
  ·by_cases hp:x=B.getD j []
   ·exact .inr hp
   ·exact .inl ⟨_,hpm,e,hp⟩
theorem sortF_mem :x∈sortF ls↔x∈ls:=(vO ls).mem_iff
theorem zhD (m4:m<=4)(hj:j<B.length):(part m B j).length=B.length - 1+m:=by
 unfold part
 rw[(vO _).length_eq,lU,kh m m4,List.length_eraseIdx,lO hj]
def zsR (B:qQ1)(x:List Nat):Prop:=∀y,y <+: x->y≠[]->y∉B
theorem Book.free (h:Book m B)(hx:Inner B x):zsR B x:=λy hy hn hyB=>by
 obtain⟨p,hp,hxp,hne⟩:=hx
 have e:=h.pf y hyB p hp (hy.trans hxp)
 subst e
 exact hne (List.IsPrefix.eq_of_length hxp (lez hxp.length_le hy.length_le))
inductive Gr (m:Nat):Nat->qQ1->Prop
 | z:Gr m 0 (kids m [])
 | s {t:Nat}{B:qQ1}{j:Nat}:Gr m t B->j<B.length->Gr m (t+1) (part m B j)
theorem Gr.book (m2:2<=m)(m4:m<=4)(h:Gr m t B):Book m B:=by
 induction h with
 | z=>exact Book.letters m2 m4
 | s _ hj ih=>exact ih.part hj
theorem Gr.len (m2:2<=m)(m4:m<=4)(h:Gr m t B):B.length=m+t*(m - 1):=by
 induction h with
 | z=>rw[kh m m4];omega
 | s _ hj ih =>
  rename_i B' t' _
  rw[zhD m4 hj,ih,ldJ]
  generalize _*(m - 1)=z
  omega
theorem Gr.short (m2:2<=m)(m4:m<=4)(h:Gr m t B):∀p∈B,p.length<=t+1:=by
 induction h with
 | z=>intro p hp;obtain⟨c,_,rfl⟩:=kids_mem.mp hp;simp
 | s g hj ih =>
  rename_i t' B' j
  intro p hp
  have hpm:B'.getD j []∈B':=by rw[lh,lb hj];exact laK hj
  rcases(part_mem (g.book m2 m4).nd hj).mp hp with⟨hp,_⟩|hp
  ·have:=ih p hp;omega
  ·obtain⟨c,_,rfl⟩:=kids_mem.mp hp
   have:=ih _ hpm
   rw[lU]
   show _+1<=_
   omega
theorem Gr.inner (m2:2<=m)(m4:m<=4)(h:Gr m t B):∃L:qQ1,L.length=t+1/\∀x,Inner B x->x∈L:=by
 induction h with
 | z =>
  refine⟨[[]],rfl,λx hq36=>?_⟩
  obtain⟨p,hp,hx,hn⟩:=hq36
  obtain⟨c,_,rfl⟩:=kids_mem.mp hp
  rcases lbe.mp hx with e|e
  ·exact absurd e hn
  ·rw[ldL.mp e];simp
 | s g hj ih =>
  rename_i t' B' j
  obtain⟨L,h1,h2⟩:=ih
  refine⟨L++[B'.getD j []],by simp[h1],λx hx=>?_⟩
  rcases zdY m2 m4 (g.book m2 m4).nd hj hx with h|h
  ·exact lbX _ (h2 x h)
  ·rw[h];simp
theorem Gr.keys (m2:2<=m)(m4:m<=4)(h:Gr m t B):(zE B).length<=t+1:=by
 obtain⟨L,h1,h2⟩:=h.inner m2 m4
 rw[← h1]
 exact(yp B).length_le_of_subset λx hx=>h2 x (innerKeys_mem.mp hx)
theorem zjn:∀(x:List Nat) {c d:Nat},c<d->x++[c]<x++[d]
 | [],c,d,h=>lav.mpr (.inl h)
 | y::ys,c,d,h=>lav.mpr (.inr ⟨rfl,zjn ys h⟩)
end My
namespace L2
open PySem PySem.Spec PyProof.Rows
section
variable {prog:Program}{w:World}{A:Around}{E:qQ2}{s:Shared}
theorem zhn {l:Addr}{vs:List Value}{Q:List Value->Shared->Prop}(hl:IsTup s.heap l vs.toArray)
  (h:Q vs {s with heap:=(s.heap.push (seqObj "list" #[] 0)).update s.heap.objs.size (Obj.mapSeq (· ++ vs.toArray))}) (hsz:vs.length<=sizeLine) :
  wpAny (model prog w) A (collect (.ref l)) Q E s:=by
 obtain⟨o,ho,hc,n,hd⟩:=id hl
 unfold collect
 refine la (wpAny_runValue (lcP entry_proto_collect' ?_))
 show wpAny _ _ (do again (.builtin "list.__iadd__" ⟨[← newList [],.ref l],[]⟩)) _ _ s
 refine la (ldx (lq ⟨Code.quiet_builtin _ (by decide +kernel),lcP entry_list_iadd' ?_⟩))
 show wpAny _ _ (Builtin.List.listExtendWith (.ref s.heap.objs.size) (.ref l) (.ref s.heap.objs.size)) _ _ {s with heap:=s.heap.push (seqObj "list" #[] 0)}
 unfold Builtin.List.listExtendWith
 have ho':(s.heap.push (seqObj "list" #[] 0)).get? l=some o:=lg _ ho
 refine la (lcH (T := "tuple") ⟨o,ho',hc⟩ ?_)
 have ht:(Value.type "tuple" == Value.type "tuple")=true:=by rfl
 rw[lO (by rw[ht];simp)]
 refine la (ldX ho' hd ?_)
 refine la (ldX (xs:=#[]) (n:=0) (lC _ rfl) rfl ?_)
 rw[lY (by simp)]
 refine la (ldy (xs:=#[]) (n:=0) (lC _ rfl) rfl ?_ (lbm _) (by show(#[]++vs.toArray).size<=sizeLine+1;simp only[ld2,lI,lah];omega))
 refine lq ?_
 show wpAny (model prog w) A (do
   let o ← load s.heap.objs.size
   match o.data with
   | .seq xs _=>pure xs.toList
   | _=>unsupported "internal:collect") Q E {s with heap:=(s.heap.push (seqObj "list" #[] 0)).update s.heap.objs.size (Obj.mapSeq (· ++ vs.toArray))}
 refine la (wpAny_load (get?_update_seq (lC _ rfl) _) ?_)
 show wpAny _ _ (pure ((#[]:Array Value)++vs.toArray).toList) Q E _
 rw[show((#[]:Array Value)++vs.toArray).toList=vs by simp]
 exact lq h
theorem zlt {κ:KeyKind}(hO:κ.OneLt){l:Addr}{vs:List Value}{Q:qQ2}(hl:IsTup s.heap l vs.toArray)(h0:KeysOf κ (pairsOf vs))(hkk:∀v₁ v₂ rest,vs=v₁::v₂::rest->keyKind' (v₁::v₂::rest).toArray=pure oneType')(h64:vs.length<64)
  (h:∀st':SortSt,(arrOf st').Perm (pairsOf vs)->SortedToK κ (arrOf st') (pairsOf vs).size->Q (.ref (s.heap.objs.size+1)) {s with heap:=sortedAll s.heap vs ((arrOf st').map (·.2))}) :
  wpAny (model prog w) A (call (.builtin "sorted") [.ref l]) Q E s:=by
 have hz:vs.length<=sizeLine:=by rw[laQ];omega
 refine lcy kind_sorted plain_sorted entry_sorted (args_sorted1 _) ?_
 unfold Builtin.«sorted»
 refine la (m:=checkCount "sorted" 1 1 _) (lq ?_)
 refine la (zhn hl ?_ hz)
 refine la (ldx ?_)
 have hsz:((s.heap.push (seqObj "list" #[] 0)).update s.heap.objs.size (Obj.mapSeq (· ++ vs.toArray))).objs.size=s.heap.objs.size+1:=by
  rw[lcB,size_push']
 have hoL:(((s.heap.push (seqObj "list" #[] 0)).update s.heap.objs.size (Obj.mapSeq (· ++ vs.toArray))).push (seqObj "list" vs.toArray 0)).get? (s.heap.objs.size+1)=some (seqObj "list" vs.toArray 0):=by
  rw[← hsz];exact lC _ rfl
 show wpAny _ _ _ _ _ {s with heap:=((s.heap.push (seqObj "list" #[] 0)).update s.heap.objs.size (Obj.mapSeq (· ++ vs.toArray))).push (seqObj "list" vs.toArray 0)}
 rw[hsz]
 refine la (laR (lZ slot_list_sort ⟨_,hoL,rfl⟩ entry_list_sort (list_sort_treeK hO hoL h0 hkk h64 λst' a1 a2=>⟨_,rfl,?_⟩) (args_list_sort _)))
 exact lq ⟨_,rfl,h st' a1 a2⟩
end
section
variable {X:Cx}
theorem ze9:ju X (.builtin "sorted") (λxs H Q=>∃a ls,xs=[.ref a]/\SqT X.K H a (vT ls)/\ls.length<64/\∀p ms,H p=none->ms.Perm ls->Srt ms->Q (.ref p) (upd H p (.lst (vT ms)))):=by
 intro pins s σ H xs us Q I r h
 obtain⟨a,ls,rfl,ha,h64,q⟩:=h
 obtain⟨u,rfl,ru⟩:=vals1 r
 cases ru
 obtain⟨its,rv,pl,hz⟩:=I.tuple ha
 rw[zss] at rv
 have hl:=rv.length
 simp only[lD] at hl
 have hS:=zbm rv
 refine zlt strKind_oneLt pl hS.keysOf (λv₁ v₂ rest e=>keyKind_strs (by rw[← e];exact hS)) (by omega) λst' hp hs=>?_
 obtain⟨ss',h1,h2,h3⟩:=sorted_out_str hS hp hs
 have hS:=zkT h3
 have hP:(ss'.map λx=>x.cps.toList).Perm ls:=by
  have:=h2.map λx:Str=>x.cps.toList
  rw[laN] at this
  have e:ls.map ((λx:Str=>x.cps.toList)∘T)=ls:=by
   have:((λx:Str=>x.cps.toList)∘T)=id:=funext λl=>zbc l
   rw[this,lc7]
  rw[e] at this
  exact this
 obtain⟨c,hat⟩:=sortedAll_at s.heap its ((arrOf st').map (·.2))
 have hlen:ss'.length=ls.length:=by have:=h2.length_eq;simpa using this
 refine⟨.ref (s.heap.objs.size+1),_,I.laid (t':=s.toks) (o:=.lst (vT (ss'.map λx=>x.cps.toList))) (λb o e=>sortedAll_old e) (lc6 _) ?_,rfl,q _ _ (I.hok.fresh (lc6 _)) hP hS⟩
 refine⟨?_,((arrOf st').map (·.2)).toList,c,?_,by rw[Array.toArray_toList];exact hat⟩
 ·rw[← zdL,lD,laQ];omega
 ·rw[← zdL];exact zbl h1
def zpQ (K:qQ0):R2:=λx y H Q=>∃a b xs ys,x=.ref a/\y=.ref b/\SqT K H a xs/\SqT K H b ys/\xs.length+ys.length<=sizeLine /\
 ∀p H',Same H H'->SqT K H' p (xs++ys)->Q (.ref p) H'
theorem zjF:OpR X (binaryOp .Add) (zpQ X.K):=by
 intro pins s σ H x y v u Q I rx ry h
 obtain⟨a,b,xs,ys,rfl,rfl,ha,hb,hz,q⟩:=h
 cases rx
 cases ry
 obtain⟨its,r1,p1,_⟩:=I.tuple ha
 obtain⟨its2,r2,p2,_⟩:=I.tuple hb
 by_cases hx:xs=[]
 ·obtain ⟨⟨cls,dd,data,sl⟩,ho,hc,n,hd⟩:=id p1
  obtain⟨⟨cls2,dd2,data2,sl2⟩,ho2,hc2,n2,hd2⟩:=id p2
  simp only at hc hd hc2 hd2
  subst hc hd hc2 hd2
  have hi:its=[]:=r1.nil_iff.mpr hx
  refine lem ⟨_,ho,rfl⟩ ⟨_,ho2,rfl⟩ lee seq_tuple_add lc3 lcM (lcG _ _)
   (tuple_addW0 a b its.toArray its2.toArray n n2 dd dd2 sl sl2 (by simp[hi])) ⟨ho,ho2,.ref b,H,I,rfl,q b H (Same.refl _) ?_⟩
  rw[hx]
  exact hb
 ·refine HT.cat_tup p1 p2 (λz=>hx (r1.nil_iff.mp z)) (λz=>⟨.ref a,H,I,rfl,q a H (Same.refl _) ?_⟩) (λz=>?_) (by rw[← r1.length,← r2.length];exact hz)
  ·rw[r2.nil_iff.mp z,lX]
   exact ha
  ·have hf:H s.heap.objs.size=none:=I.hok.fresh (lu _)
   refine⟨.ref s.heap.objs.size,_,I.laid (t':=s.toks) (o:=.tup (xs++ys)) (λb ob q=>lg _ q) (lu _) ?_,rfl,q _ _ (Same.upd hf) (SqT.of z7)⟩
   exact⟨by rw[lU];exact hz,_,r1.append r2,TupD.new _ _⟩
end
end L2
namespace My
variable {ps B:qQ1}{x:List Nat}{m:Nat}
theorem inner_iff :isInner ps x=true↔Inner ps x:=by
 unfold isInner Inner
 rw[lbS]
 constructor
 ·rintro⟨p,hp,e⟩
  rw[lG,laa,lb5,lcU] at e
  exact⟨p,hp,e.1,λz=>e.2 z.symm⟩
 ·rintro⟨p,hp,e,hn⟩
  refine⟨p,hp,?_⟩
  rw[lG,laa,lb5,lcU]
  exact⟨e,λz=>hn z.symm⟩
theorem apart_iff :xP ps x=true↔∀p∈ps,¬x <+: p/\¬p <+: x:=by
 unfold xP
 rw[lb5,ld4]
 constructor
 ·intro h p hp
  have:=h p hp
  rw[ley,laa,laa] at this
  exact⟨λz=>this (.inl z),λz=>this (.inr z)⟩
 ·intro h p hp
  rw[ley,laa,laa]
  exact λz=>z.elim (h p hp).1 (h p hp).2
theorem zjU {xs:qQ1}{c:Nat}(hx:x∈xs)(hc:c∈abcd.take m):x++[c]∈zV m xs:=by
 unfold zV
 exact leh.mpr ⟨x,hx,laI.mpr ⟨c,hc,rfl⟩⟩
theorem Book.nilInner (h:Book m B):Inner B []:=by
 obtain⟨p,hp,_⟩:=h.cv [] (λc hc=>by cases hc)
 exact⟨p,hp,lcr,λz=>h.ne p hp z.symm⟩
theorem Book.innerLet (h:Book m B)(hx:Inner B x):LetOk m x:=by
 obtain⟨p,hp,hxp,_⟩:=hx
 exact(h.let_ p hp).pre hxp
theorem Book.step (h:Book m B)(hx:Inner B x){c:Nat}(hc:c∈abcd.take m):(Inner B (x++[c])/\x++[c]∉B)∨(¬Inner B (x++[c])/\x++[c]∈B):=by
 have hnot:Inner B (x++[c])->x++[c]∉B:=λhi=>h.free hi _ (lcd _) (by simp)
 by_cases hB:x++[c]∈B
 ·exact .inr ⟨λhi=>hnot hi hB,hB⟩
 ·refine .inl ⟨?_,hB⟩
  obtain⟨q,hq,e⟩:=h.cv (x++[c]) ((h.innerLet hx).app (LetOk.one hc))
  rcases e with e|e
  ·rcases lbe.mp e with e|e
   ·exact absurd (e▸hq) hB
   ·exact absurd hq (h.free hx q e (h.ne q hq))
  ·exact⟨q,hq,e,λz=>hB (z▸hq)⟩
theorem zaI (m2:2<=m)(m4:m<=4)(hb:Book m B){j:Nat}(hj:j<B.length):Inner (part m B j) x↔Inner B x∨x=B.getD j []:=by
 have hpm:B.getD j []∈B:=by rw[lh,lb hj];exact laK hj
 have h97:97∈abcd.take m:=u6 m4 (by omega)
 have hk:B.getD j []++[97]∈part m B j:=(part_mem hb.nd hj).mpr (.inr (kids_mem.mpr ⟨97,h97,rfl⟩))
 refine⟨zdY m2 m4 hb.nd hj,?_⟩
 rintro(⟨p,hp,hx,hne⟩|rfl)
 ·by_cases e:p=B.getD j []
  ·refine ⟨_,hk,?_,?_⟩
   ·rw[← e];exact hx.trans (lbd _ _)
   ·intro z
    have h1:=hx.length_le
    rw[z,← e] at h1
    simp at h1
    omega
  ·exact⟨p,(part_mem hb.nd hj).mpr (.inl ⟨hp,e⟩),hx,hne⟩
 ·exact⟨_,hk,lbd _ _,λz=>zex _ _ z.symm⟩
theorem Gr.keysEq (m2:2<=m)(m4:m<=4){t:Nat}(h:Gr m t B):(zE B).length=t+1:=by
 have key:∃L:qQ1,L.Nodup/\L.length=t+1/\∀x,Inner B x↔x∈L:=by
  induction h with
  | z =>
   refine⟨[[]],by simp,rfl,λx=>⟨λ⟨p,hp,hx,hn⟩=>?_,λhx=>?_⟩⟩
   ·obtain⟨c,_,rfl⟩:=kids_mem.mp hp
    rcases lbe.mp hx with e|e
    ·exact absurd e hn
    ·rw[ldL.mp e];simp
   ·rw[lK.mp hx]
    exact(Book.letters m2 m4).nilInner
  | s g hj ih =>
   rename_i t' B' j
   obtain⟨L,h0,h1,h2⟩:=ih
   have hb:=g.book m2 m4
   have hpm:B'.getD j []∈B':=by rw[lh,lb hj];exact laK hj
   refine⟨L++[B'.getD j []],lbu.mpr ⟨h0,by simp,?_⟩,by simp[h1],λx=>?_⟩
   ·rintro a ha b hb' rfl
    rw[lK.mp hb'] at ha
    exact hb.free ((h2 _).mpr ha) _ (lcd _) (hb.ne _ hpm) hpm
   ·rw[zaI m2 m4 hb hj,h2,lap,lK]
 obtain⟨L,h0,h1,h2⟩:=key
 rw[← h1]
 refine lez ((yp B).length_le_of_subset λx hx=>(h2 x).mp (innerKeys_mem.mp hx)) (h0.length_le_of_subset λx hx=>innerKeys_mem.mpr ((h2 x).mpr hx))
theorem zdc:∀(x z s:List Nat),x<=z->z<=x++s->x <+: z
 | [],z,s,_,_=>lcr
 | a::x,[],s,h,_=>absurd (lej a x) (la7.mpr h)
 | a::x,b::z,s,h1,h2=>by
  have e:a=b:=by
   have h3:=(la7.mpr h1)
   have h4:=(la7.mpr h2)
   rw[laG] at h4
   have n1:¬b<a:=λz=>h3 (lav.mpr (.inl z))
   have n2:¬a<b:=λz=>h4 (lav.mpr (.inl z))
   omega
  subst e
  refine ldg.mpr ⟨rfl,zdc x z s (la7.mp λz=>la7.mpr h1 (lav.mpr (.inr ⟨rfl,z⟩))) (la7.mp λz=>la7.mpr h2 (lav.mpr (.inr ⟨rfl,z⟩)))⟩
theorem zmO:∀(x:List Nat) (c:Nat),x<x++[c]
 | [],c=>lej c []
 | a::x,c=>lav.mpr (.inr ⟨rfl,zmO x c⟩)
theorem zjy:∀{l:qQ1},l.Pairwise (· < ·)->∀{x y:List Nat},x∈l->y∈l->x<y->∃z,(x,z)∈l.zip l.tail/\x<z/\z<=y
 | [],_,_,_,h,_,_=>by cases h
 | [a],_,x,y,hx,hy,hlt=>by
  rw[lK.mp hx,lK.mp hy] at hlt
  exact absurd hlt (lcg _)
 | a :: b::r,p,x,y,hx,hy,hlt=>by
  have pp:=laF.mp p
  rcases lz.mp hx with rfl|hx2
  ·rcases lz.mp hy with rfl|hy
   ·exact absurd hlt (lcg _)
   ·refine⟨b,lJ,pp.1 b lJ,?_⟩
    rcases lz.mp hy with rfl|hy
    ·exact List.le_refl _
    ·exact ldz ((laF.mp pp.2).1 y hy)
  ·rcases lz.mp hy with hy|hy
   ·rw[hy] at hlt
    exact absurd (lea hlt (pp.1 x hx2)) (lcg _)
   ·obtain⟨z,h1,h2⟩:=zjy (l:=b::r) pp.2 hx2 hy hlt
    exact⟨z,lF _ h1,h2⟩
end My
namespace L2
open PySem PySem.Spec PyProof.Rows
variable {outer:List Env}{P:Program}{w:World}{H:Hp}{h h':Heap}{C f a:Addr}{mg:qQ3}{N ps:List Str}{qual x:Str}{scope:Scope}{st:Stmt}{fd:FuncData}{sp:Sp}{R:Result->Shared->Prop}{tk:Tok}
def zfA (P:Program)(w:World)(outer:List Env)(H:Hp)(s:Shared)(E:XK)(e:Value)(s':Shared):Prop :=
 ∃ (a C:Addr) (a0:Value) (H':Hp) (B:Heap),e=.ref a/\s'.os=s.os/\AllBare s'.gens /\
  (∀b o,s.heap.get? b=some o->b∉frs outer->∃o',B.get? b=some o'/\(H b=none->o'=o)) /\
  (∀b o,s.heap.get? b=some o->b∈frs outer->∃sl,s'.heap.get? b=some {o with slots:=sl}) /\
  (∀b o,s.heap.get? b=some o->H b=none->H' b=none) /\
  (∀b xs,H b=some (.tup xs)->H' b=some (.tup xs))/\(∀b o u,H b=some (.frz o u)->H' b=some (.frz o u))/\(∀b ps,H b=some (.tbl ps)->∃more,H' b=some (.tbl (ps++more))) /\
  HOk P w H' B/\Heap.FlyingW B outer a (.ref C) a0 s'.heap/\E (.ref C) none H'
abbrev CX1 (P:Program)(w:World):CXT:=zfA P w
theorem zef {env:Env}{L:Addr}(hf:env.frame=some L):frs (env::outer)=L::frs outer:=by
 unfold frs
 rw[lcE,hf]
theorem zlW {l:List Addr}(ok:HOk P w H h)(hl:∀b∈l,H b=none):HOk P w H (PySem.W.hideAll h l):=λb o e =>
 (ok b o e).stay (λc u hc q=>ldD l q λz=>by
  rcases hc with rfl|hc
  ·rw[hl _ z] at e;cases e
  ·rw[hl _ z] at hc;cases hc) (λ_ q=>q) λ_ _ q=>q
section
variable {X:Cx}{pins:List (Addr×Obj)}{σ:St}{H:Hp}{s:Shared}{M:Model}{F:qQ2}{E:XK}
theorem Inv.fr0 (I:Inv X pins σ H s){b:Addr}(hb:b∈X.fs):X.H₀ b=none/\b∉X.ex:=⟨I.ok.frf b hb,λz=>I.ok.exfs b z hb⟩
theorem zi2 (I:Inv X pins σ H s)(hst:X.stack=X.env::X.outer)(hfr:X.env.frame=some X.env.locals)(hex:X.ex=[]){e:Addr}{args:List Value}
  (hx:Heap.MadeExcOf s.heap h' e (.ref C) args) (hE:E (.ref C) none H) :
  wpAny M X.A (leaving X.env (.ref e)) (λ_ s''=>zfA X.prog X.w X.outer X.H₀ X.s₀ E (.ref e) s'') F {s with heap:=h'}:=by
 have hin:∀env∈X.stack,∀b,env.frame=some b->b∈frs X.stack:=λenv he b hb=>ldQ.mpr ⟨env,he,hb⟩
 have hstk:frs X.stack=X.env.locals::frs X.outer:=by rw[hst];exact zef hfr
 have nex:∀b:Addr,b∉X.ex:=λb z=>by rw[hex] at z;cases z
 refine wpAny_leaves_madeW (base:=PySem.W.hideAll s.heap (frs X.stack)) (h:=s.heap) (outer:=X.outer) (I.ok.frames.trans (by rw[hst])) hfr (λb o q=>PySem.W.of_hideAll _ q) (by rw[← hst];exact PySem.W.funFrames_hide I.stack hin) hx λh2 t x1 x2 x3 x4=>?_
 refine⟨e,C,.ref t,H,PySem.W.hideAll s.heap (frs X.stack),rfl,I.os,I.bare,λb o q hb=>?_,λb o q hb=>?_,λb o q n=>I.base.free b o q n (nex b),I.base.tups,I.base.frzs,I.base.tbls,zlW I.hok I.stkFree,x1,hE⟩
 ·obtain ⟨o1,e1⟩:=I.base.there b o q (nex b)
  refine⟨o1,ldD _ e1 λz=>?_,λn=>?_⟩
  ·rw[hstk] at z
   rcases lz.mp z with z|z
   ·exact absurd (ly q) (Nat.not_lt.mpr (z▸I.ok.above))
   ·exact hb z
  ·have:=I.base.keep b o q n hb (nex b)
   rw[e1] at this
   exact lp this
 ·obtain ⟨sl,e1⟩:=I.base.slot b o q (I.fr0 hb).1 hb (nex b)
  have hb2:b∈X.stack.filterMap (·.frame):=by
   show b∈frs X.stack
   rw[hstk]
   exact lF _ hb
  obtain⟨_,o2,e2,nf⟩:=I.stack.mem hb2
  rw[e1] at e2
  obtain rfl:=lp e2
  obtain⟨sl2,e3⟩:=x4 b _ (hx.keeps b _ e1) nf
  exact⟨sl2,e3⟩
theorem zlx (I:Inv X pins σ H s)(hst:X.stack=X.env::X.outer)(hfr:X.env.frame=some X.env.locals)(hex:X.ex=[]){e:Value}{s':Shared}(hf:zfA X.prog X.w X.stack H s E e s') :
  wpAny M X.A (leaving X.env e) (λ_ s''=>zfA X.prog X.w X.outer X.H₀ X.s₀ E e s'') F s':=by
 have hstk:frs X.stack=X.env.locals::frs X.outer:=by rw[hst];exact zef hfr
 have nex:∀b:Addr,b∉X.ex:=λb z=>by rw[hex] at z;cases z
 obtain⟨a,C,a0,H',B,rfl,hos,hbare,h1,h2,h3,h4,h5,h6,hok,fly,hE⟩:=hf
 have fly':Heap.FlyingW B (X.env::X.outer) a (.ref C) a0 s'.heap:=by rw[← hst];exact fly
 refine wpAny_leaves_onW (I.ok.frames.trans (by rw[hst])) hfr fly' λh2' x1 x2=>?_
 refine⟨a,C,a0,H',B,rfl,hos.trans I.os,hbare,λb o q hb=>?_,λb o q hb=>?_,λb o q n=>?_,λb xs q=>h4 b xs (I.base.tups b xs q),λb o u q=>h5 b o u (I.base.frzs b o u q),λb ps q=>?_,hok,x1,hE⟩
 ·obtain ⟨o1,e1⟩:=I.base.there b o q (nex b)
  have hbs:b∉frs X.stack:=λz=>by
   rw[hstk] at z
   rcases lz.mp z with z|z
   ·exact absurd (ly q) (Nat.not_lt.mpr (z▸I.ok.above))
   ·exact hb z
  obtain⟨o2,e2,k2⟩:=h1 b o1 e1 hbs
  refine⟨o2,e2,λn=>?_⟩
  have e3:=I.base.keep b o q n hb (nex b)
  rw[e1] at e3
  rw[k2 (I.base.free b o q n (nex b))]
  exact lp e3
 ·obtain⟨sl,e1⟩:=I.base.slot b o q (I.fr0 hb).1 hb (nex b)
  have hb2:b∈frs X.stack:=by rw[hstk];exact lF _ hb
  obtain⟨sl2,e2⟩:=h2 b _ e1 hb2
  obtain⟨_,o3,e3,nf⟩:=fly.2.2.1.mem hb2
  rw[e2] at e3
  obtain rfl:=lp e3
  obtain⟨sl3,e4⟩:=x2 b _ e2 nf
  exact⟨sl3,e4⟩
 ·obtain⟨o1,e1⟩:=I.base.there b o q (nex b)
  exact h3 b o1 e1 (I.base.free b o q n (nex b))
 ·obtain⟨m1,e1⟩:=I.base.tbls b ps q
  obtain⟨m2,e2⟩:=h6 b _ e1
  exact⟨m1++m2,by rw[e2,ldO]⟩
end
theorem z8 {K:qQ0}{base:Heap}{cd:Value}{A:Around}{s:Shared}{E:XK} :
  zcL (CX1 P w) (zaW (CX1 P w) P w K mg base N qual scope f cd A outer s H E) E:=λpins σ H' s' e s'' I hf=>zlx I rfl rfl rfl hf
theorem Fun.okX {K:qQ0}{base:Heap}{k:Nat}(F:Fun K x qual st f fd)(S:FnScope N ps (zu st))(len:∀vs H Q E,sp vs H Q E->vs.length=ps.length)
  (hbody:∀(cdv:Value) (A:Around) (outer:List Env) (s:Shared) (H:Hp) (vs:List V) (Q:VK) (E:XK),Room k (A.deeper (envOfC qual (zu st) s.heap.objs.size f cdv))->sp vs H Q E ->
   ∃t,PSs (zaW (CX1 P w) P w K mg base N qual (zu st) f cdv A outer s H E) (wV st) t/\t {nx:=λ_ H'=>Q .non H',rt:=Q} (start N vs) H):FnOk P w K mg base (CX1 P w) (k+1) f fd ps sp:=by
 obtain⟨oc,od,kV,doc,pm,an,cdv,ct,osl,rfl,lk,hcd⟩:=F.ex
 exact zp4 lk hcd S len λA outer s H vs Q E hr hsp=>hbody cdv A outer s H vs Q E hr hsp
theorem PS.nox {X:Cx}{t:TS}(h:PS X.nox st t):PS X st t:=λpins s σ H D I hw =>
 laT (h pins s σ H D (I.wish _) hw) (λ_ _ q=>q.unwish) λ_ _ z=>False.elim z
theorem PA.nox {X:Cx}{es:List Expr}{t:TA}(h:PA X.nox es t):PA X es t:=λpos pins s σ H Q I hw =>
 laT (h pos pins s σ H Q (I.wish _) hw) (λ_ _ ⟨v,H',I',r,q⟩=>⟨v,H',I'.unwish,r,q⟩) λ_ _ z=>False.elim z
structure Own (K:qQ0)(mg:qQ3)(x:Str) where
 C:Addr
 mgx:mg x=some (.ref C)
 exc:PySem.W.excIn K C [.type "ValueError", .type "Exception", .type "BaseException", .type "object"] "ValueError.__new__" = true
inductive ExcD (o:Option Obj)(A:Option Addr->ClassData->Array (Option Value)->Bool):Prop
 | mk (dd:Option Addr) (cd:ClassData) (sl:Array (Option Value)) (e:o=some ⟨.type "type", dd,.cls cd,sl⟩) (q:A dd cd sl=true)
inductive ExcR (x:List Value)(y:List (Option Value))(A:Addr->List Value->Option Value->Option Value->Option Value->Option Value->String->Option Value->Bool):Prop
 | mk (C':Addr) (bm:List Value) (k0 k1 k2 k3:Option Value) (n:String) (k5:Option Value) (e:x=.ref C'::bm) (f:y=[k0,k1,k2,k3,some (.builtin n),k5]) (q:A C' bm k0 k1 k2 k3 n k5=true)
inductive ExcO (h:Heap)(C:Addr)(bmB:List Value)(newId:String):Prop
 | mk (bm:List Value) (N:Addr) (nm qn:Str) (bs:List Value) (hdct:Bool) (sn:List Str) (sub:List Value) (ab:Bool) (col:Option Bool) (dd:Option Addr) (k0 k1 k2 k3 k5:Option Value) (mN:qQ3)
   (hC:h.get? C=some (excClassObj nm qn C N bs bm hdct sn sub ab col dd k0 k1 k2 k3 k5 newId)) (hN:h.Ns N mN) (hni:mN "__init__" = none) (T:OwnTail h bmB bm)
theorem zqn {o:Option Obj}{A:Option Addr->ClassData->Array (Option Value)->Bool}(q:PySem.W.excIn.match_6 (λ_=>Bool) o A (λ_=>false)=true):ExcD o A:=by
 rcases o with _|⟨c,dd,da,sl⟩
 ·exact absurd q lE
 ·cases c
  all_goals first|exact absurd q lE|skip
  rename_i s
  by_cases hs:s = "type"
  ·subst hs
   cases da
   all_goals first|exact absurd q lE|exact⟨_,_,_,rfl,q⟩
  ·delta PySem.W.excIn.match_6 at q
   exact absurd ((dif_neg hs).symm.trans q) lE
theorem zpb {x:List Value}{y:List (Option Value)}{A:Addr->List Value->Option Value->Option Value->Option Value->Option Value->String->Option Value->Bool}(q:PySem.W.excIn.match_1 (λ_ _=>Bool) x y A (λ_ _=>false)=true):ExcR x y A:=by
 rcases x with _|⟨v,bm⟩
 ·exact absurd q lE
 cases v
 all_goals first|exact absurd q lE|skip
 rcases y with _|⟨k0,_|⟨k1,_|⟨k2,_|⟨k3,_|⟨k4,y⟩⟩⟩⟩⟩
 all_goals first|exact absurd q lE|skip
 rcases k4 with _|k4
 ·exact absurd q lE
 cases k4
 all_goals first|exact absurd q lE|skip
 rcases y with _|⟨k5,_|⟨k6,y⟩⟩
 all_goals first|exact absurd q lE|exact⟨_,_,_,_,_,_,_,_,rfl,rfl,q⟩
theorem zkO {K:qQ0}{bmB:List Value}{newId:String}(X:K.In h)(q:PySem.W.excIn K C bmB newId=true):ExcO h C bmB newId:=by
 obtain⟨dd,cd,sl,ho,q⟩:=zqn q
 obtain⟨C',bm,k0,k1,k2,k3,n,k5,hm,hs,q⟩:=zpb q
 simp only[lG,ldB,lb5] at q
 obtain⟨⟨⟨⟨⟨rfl,rfl⟩,hdel⟩,ht⟩,hok⟩,hni⟩:=q
 obtain⟨nm,bs,mro,ns,qn,hd,sn,sub,ab,col,del⟩:=cd
 obtain⟨l⟩:=sl
 dsimp only at hm hdel hok hni hs
 subst hm hdel hs
 exact⟨bm,ns,nm,qn,bs,hd,sn,sub,ab,col,dd,k0,k1,k2,k3,k5,_,X _ _ ho,.of_isNs (PySem.W.isNs_of_in X hok),PySem.W.nsMap_none_of_in X hok hni,PySem.W.tail_of_in X ht⟩
def zqu (C:Addr)(E:XK)(t:TA):TS:=λ_ σ H=>t σ H λvs H1=>vs.length<=3/\E (.ref C) none H1
section
variable {P:Program}{w:World}{K:qQ0}{mg:qQ3}{base:Heap}{N:List Str}{qual:Str}{scope:Scope}{f:Addr}{cd:Value}{A:Around}{outer:List Env}{s₁:Shared}{H₁:Hp}{E:XK}
theorem zlZ {e₀:Expr}{rest:List Expr}{np cpos pos:Pos}{t:TA}(O:Own K mg x)(hg:Gl (zaW (CX1 P w) P w K mg base N qual scope f cd A outer s₁ H₁ E) x)
  (ha:PA (zaW (CX1 P w) P w K mg base N qual scope f cd A outer s₁ H₁ E) (e₀::rest) t)
  (he:starEach (e₀::rest) (zaW (CX1 P w) P w K mg base N qual scope f cd A outer s₁ H₁ E).env=(false,eval e₀ (zaW (CX1 P w) P w K mg base N qual scope f cd A outer s₁ H₁ E).env)::starEach rest (zaW (CX1 P w) P w K mg base N qual scope f cd A outer s₁ H₁ E).env:=by rfl)
  (hpl:(backTo cpos (starEach rest (zaW (CX1 P w) P w K mg base N qual scope f cd A outer s₁ H₁ E).env)).any (·.1)=false:=by rfl) (hd:(x == ("__debug__" : Str))=false:=by decide) :
  PS (zaW (CX1 P w) P w K mg base N qual scope f cd A outer s₁ H₁ E) (.Raise (some (.Call (.Name x np) (e₀::rest) [] cpos)) none pos) (zqu O.C E t):=by
 intro pins s σ H D I h
 obtain⟨tl,Na,nm,q,bs,hdct,sn,sub,ab,col,dd,k0,k1,k2,k3,k5,mN,hC,hN,hni,T⟩:=zkO I.ok.mod.kin O.exc
 refine wpAny_Raise_call_subT (C:=O.C) (nm:=nm) (q:=q) (N:=Na) (bs:=bs) (bm:=tl) (hdct:=hdct) (sn:=sn) (sub:=sub) (ab:=ab) (col:=col) (dd:=dd) (k0:=k0) (k1:=k1) (k2:=k2) (k3:=k3) (k5:=k5)
  lcw (mN:=mN) (T.hasType lcw.hasBase) (I.ok.hd rfl) (by rw[he];show(false || (backTo cpos (starEach rest (zaW (CX1 P w) P w K mg base N qual scope f cd A outer s₁ H₁ E).env)).any (·.1))=false;rw[hpl];rfl) hni (zdb I hg O.mgx ⟨rfl,?_⟩ hd)
 have h':=ha cpos pins s σ H _ I h
 rw[he] at h' ⊢
 refine ldr (laT h' (λus s₂ ⟨vs,H2,I2,r,hz,q⟩=>⟨rfl,?_,I2.bk _ _ hC,hN.keeps I2.bk,T.keeps I2.bk,λh'' e hm=>zi2 I2 rfl rfl rfl hm q⟩) λ_ _ y=>y)
 rw[← r.length,laQ]
 omega
end
def excAt (a C:Addr):HO:=.ext λh=>∃o,h.get? a=some o/\o.cls=.ref C
abbrev Cx.hand (X:Cx)(a:Addr):Cx:={X with A:=X.A.mark (some (.ref a)),calm:=false,xe:=λ_ _=>False}
section
variable {X:Cx}{pins:List (Addr×Obj)}{σ:St}{H:Hp}{s:Shared}
theorem Cx.Ok.hand (ok:X.Ok)(a:Addr):(X.hand a).Ok :=
 ⟨ok.mod,ok.kind,ok.glob,ok.blt,ok.above,ok.inj,ok.has,ok.cab,λz=>(by cases z),ok.frames,ok.stk,ok.exf,ok.bs,ok.bsz,ok.noex,ok.exfs,ok.funs,ok.frf⟩
theorem Inv.hand (I:Inv X pins σ H s)(a:Addr):Inv (X.hand a) pins σ H s:=⟨I.ok.hand a,I.os,I.bare,I.base,I.loc,I.cell,I.free,I.freeC,I.pin,I.hok,I.len⟩
theorem Inv.unhand (ok:X.Ok)(I:Inv (X.hand a) pins σ H s):Inv X pins σ H s:=⟨ok,I.os,I.bare,I.base,I.loc,I.cell,I.free,I.freeC,I.pin,I.hok,I.len⟩
theorem Inv.gone {m':qQ3}{t':Nat}(I:Inv X pins σ H s)(hn:h'.Ns X.env.locals m')(hs:Heap.SameBut X.env.locals s.heap h'):Inv X pins (List.replicate X.N.length none) H {s with heap:=h',toks:=t'}:=by
 have cne:=I.cne
 obtain⟨m,hn0,hl⟩:=id I.loc
 obtain⟨oL,_,_,hoL,_⟩:=id hn0
 refine⟨I.ok,I.os,I.bare,⟨λb o e n hb hx=>?_,λb o e n hb hx=>?_,I.base.free,λb o e hx=>?_,I.base.tups,I.base.frzs,I.base.tbls⟩,⟨m',hn,λj y v' e1 e2 e3=>?_⟩,λy c e=>?_,I.free,I.freeC,λp hp=>?_,λb ob e=>?_,by simp⟩
 ·exact(hs.2 b (lR (lB (ly e) I.ok.above))).trans (I.base.keep b o e n hb hx)
 ·obtain⟨sl,e1⟩:=I.base.slot b o e n hb hx
  exact⟨sl,(hs.2 b (lR (lB (ly e) I.ok.above))).trans e1⟩
 ·obtain⟨o',e1⟩:=I.base.there b o e hx
  exact⟨o',(hs.2 b (lR (lB (ly e) I.ok.above))).trans e1⟩
 ·rw[lbl] at e2
  split at e2 <;>cases e2
 ·obtain⟨w',z⟩:=I.cell y c e
  exact⟨w',z.sameBut hs (cne y c e)⟩
 ·obtain⟨e,n,ne,nf,d⟩:=I.pin p hp
  exact⟨(hs.2 p.1 ne).trans e,n,ne,nf,d⟩
 ·refine(I.hok b ob e).stay (λc w' hc q=>(hs.2 c ?_).trans q) (λ_ q=>q) λ_ _ q=>q
  rintro rfl
  rcases hc with z|hc
  ·rw[← z,I.free] at e;cases e
  ·rw[I.free] at hc;cases hc
end
section
variable {M:Model}{A:Around}{E:qQ2}{s:Shared}
theorem zdn {K:qQ0}{e C0:Addr}{oe:Obj}{Q:Bool->Shared->Prop}(X:K.In s.heap)(he:s.heap.get? e=some oe)(hc:oe.cls=.ref C)
  (x0:PySem.W.excIn K C0 [.type "ValueError", .type "Exception", .type "BaseException", .type "object"] "ValueError.__new__" = true) (sub:PySem.W.subIn K (.ref C) (.ref C0)=some true) (h:Q true s):wpAny M A (excMatches (.ref e) (.ref C0)) Q E s:=by
 obtain⟨tl,Na,nm,q,bs,hdct,sn,sub',ab,col,dd,k0,k1,k2,k3,k5,mN,hC,hN,hni,T⟩:=zkO X x0
 have hcB:(Value.ref C0::tl).contains (.type "BaseException")=true:=by rw[List.contains_cons,T.hasType lcw.hasBase,Bool.or_true]
 have L:PySem.W.Looks M s.heap (isSubtype (.ref C) (.ref C0)) true:=ldM X sub
 obtain⟨hp,g,d,tk,os⟩:=s
 have f:=tc_notTuple
 unfold excMatches
 repeat (first|(with_reducible refine lbL he ?_;rw[hc])|with_reducible refine lbL hC ?_|(with_reducible refine wpAny_isSubtype_exc hC ?_;rw[hcB])|wp_step)
 refine L.at ?_
 repeat wp_step
 exact h
end
theorem zmk {o:HO}(x:ObjOk P w H h a o):∃ob,h.get? a=some ob:=by
 cases o with
 | lst xs=>obtain⟨_,_,_,_,e⟩:=x;exact⟨_,e⟩
 | tup xs=>obtain⟨_,_,_,ob,e,_⟩:=x;exact⟨_,e⟩
 | dK kvs=>obtain⟨_,_,_,_,o,_,_,e,_⟩:=x;exact⟨_,e⟩
 | dT kvs=>obtain⟨_,_,_,_,o,_,_,e,_⟩:=x;exact⟨_,e⟩
 | set S n=>obtain⟨o,_,_,_,e,_⟩:=x;exact⟨_,e⟩
 | ins C dx fs=>obtain⟨_,_,_,e,_⟩:=x;exact⟨_,e⟩
 | own y=>exact x
 | xd fs=>obtain⟨_,⟨_,_,_,e,_⟩,_⟩:=x;exact⟨_,e⟩
 | rng lo hi=>obtain⟨_,_,_,e⟩:=x;exact⟨_,e⟩
 | frz ob u=>obtain⟨e,_⟩:=x;exact⟨_,e⟩
 | dR kvs=>obtain⟨_,_,o,_,_,e,_⟩:=x;exact⟨o,e⟩
 | tbl ps=>exact⟨_,x⟩
 | met f y=>exact⟨_,x⟩
 | ext φ=>obtain⟨_,e,_⟩:=x;exact e
theorem zhC {H':Hp}{B:Heap}(frf:∀b∈frs outer,H b=none)
  (h1:∀b o,h.get? b=some o->b∉frs outer->∃o',B.get? b=some o'/\(H b=none->o'=o)) (h2:∀b o,h.get? b=some o->b∈frs outer->∃sl,h'.get? b=some {o with slots:=sl})
  (h3:∀b o,h.get? b=some o->H b=none->H' b=none) (h4:∀b xs,H b=some (.tup xs)->H' b=some (.tup xs)) (h5:∀b o u,H b=some (.frz o u)->H' b=some (.frz o u)) (h6:∀b ps,H b=some (.tbl ps)->∃more,H' b=some (.tbl (ps++more)))
  (st:B.StaysIn h'):Un (frs outer) [] H H' h h':=by
 refine⟨λb o e n hb _=>?_,λb o e n hb _=>h2 b o e hb,λb o e n _=>h3 b o e n,λb o e _=>?_,h4,h5,h6⟩
 ·obtain⟨o',e1,k⟩:=h1 b o e hb
  rw[← k n]
  exact st b o' e1
 ·by_cases hb:b∈frs outer
  ·obtain⟨sl,e1⟩:=h2 b o e hb
   exact⟨_,e1⟩
  ·obtain⟨o',e1,_⟩:=h1 b o e hb
   exact⟨o',st b o' e1⟩
section
variable {X:Cx}{pins:List (Addr×Obj)}{σ:St}{H:Hp}{s s':Shared}{E:XK}{e:Value}{x n:Str}{i:Nat}{b₀:Stmt}{suite:List Stmt}{th:TS}{D:Ends}{np pos:Pos}{rest:List ExceptHandler}
def zmY (K:qQ0)(C0:Addr)(i:Nat)(th:TS)(D:Ends)(σ:St):XK:=λcls _ H'=>∃C,cls=.ref C/\PySem.W.subIn K (.ref C) (.ref C0)=some true /\
 ∀a,H' a=none->th {nx:=λ_ _=>False,rt:=D.rt} (σ.set i (some (.ref a))) (upd H' a (excAt a C))
theorem caught (I:Inv X pins σ H s)(hst:X.stack=X.env::X.outer)(hfr:X.env.frame=some X.env.locals)(O:Own X.K X.mg x)(hg:Gl X x)(hN:X.N.Nodup)(hi:X.N[i]? = some n)(hlo:X.env.scope.names.lookup n=some .local)
  (hs:∀a,PSs (X.hand a) (b₀::suite) th) (hf:zfA X.prog X.w X.stack H s (zmY X.K O.C i th D σ) e s') (hd:(x == ("__debug__" : Str))=false:=by decide) :
  wpAny (model X.prog X.w) X.A (noteFrame e X.env) (λ_ s₂=>wpAny (model X.prog X.w) X.A (setFlight e none) (λ_ s₃ =>
   wpAny (model X.prog X.w) X.A (handleBy e X.env (.ExceptHandler (some (.Name x np)) (some n) (b₀::suite) pos::rest)) (SP X pins D) X.xe s₃) X.xe s₂) X.xe s':=by
 have hstk:frs X.stack=X.env.locals::frs X.outer:=by rw[hst];exact zef hfr
 obtain⟨a,C,a0,H',B,rfl,hos,hbare,h1,h2,h3,h4,h5,h6,hok,fly,C',eC,sub,kk⟩:=hf
 cases eC
 have fly':Heap.FlyingW B (X.env::X.outer) a (.ref C) a0 s'.heap:=by rw[← hst];exact fly
 have ffr:∀b∈frs X.stack,∃o,s'.heap.get? b=some o/\∀vs,o.data≠.fields vs:=λb hb=>(fly.2.2.1.mem hb).2
 have slots:∀{h':Heap},s'.heap.UpToSlots h'->∀b o,s.heap.get? b=some o->b∈frs X.stack->∃sl,h'.get? b=some {o with slots:=sl}:=λ{h'} u b o q hb=>by
  obtain⟨sl,e1⟩:=h2 b o q hb
  obtain⟨o2,e2,nf⟩:=ffr b hb
  rw[e1] at e2
  obtain rfl:=lp e2
  obtain⟨sl2,e3⟩:=u b _ e1 nf
  exact⟨sl2,e3⟩
 refine wpAny_looks_onW (I.ok.frames.trans (by rw[hst])) hfr fly' λh₄ held₄ sm₄=>?_
 refine wpAny_landsW held₄ λh₅ fly₅ sm₅=>?_
 have sm5:=sm₄.trans sm₅
 have I5:Inv X pins σ H' {s' with heap:=h₅}:=I.call' hos (zhC I.stkFree h1 (slots sm5) h3 h4 h5 h6 fly₅.1) (hok.kept fly₅.1) hbare (λ_ z=>nomatch z)
 obtain⟨ob,hob,hobc⟩:=fly₅.there
 refine wpAny_handleBy_cons (codeAny_handlers_test (zdb (X:=X.hand a) (I5.hand a) hg O.mgx ?_ hd)) (by intro q;cases q)
 refine zdn I5.kIn hob hobc O.exc sub ?_
 refine codeAny_handlers_suite_as ?_
 refine lands_againW fly₅ λh₆ fly₆ sm₆=>?_
 have sm6:=sm5.trans sm₆
 have hBa:B.get? a=none:=fly₆.2.1
 obtain⟨oe,vs,he6,hec,hed,_⟩:=fly₆.first
 have hnew:∀o,s.heap.get? a≠some o:=λo q=>by
  by_cases hb:a∈frs X.stack
  ·obtain⟨_,o2,e2,nf⟩:=fly₆.2.2.1.mem (by rw[← hst];exact hb)
   rw[he6] at e2
   obtain rfl:=lp e2
   exact nf vs hed
  ·obtain⟨o',e1,_⟩:=h1 a o q hb
   rw[hBa] at e1;cases e1
 have hHa:H' a=none:=by
  cases q:H' a with
  | none=>rfl
  | some o =>
   obtain⟨o2,e2⟩:=zmk (hok a o q)
   rw[hBa] at e2;cases e2
 have ok6:HOk X.prog X.w (upd H' a (excAt a C)) h₆:=λb o q=>by
  by_cases hb:b=a
  ·subst hb
   rw[z7] at q
   obtain rfl:=lp q
   exact⟨⟨oe,he6,hec⟩,⟨oe,he6⟩,λk1 k2 ⟨o1,e1,c1⟩ kk=>⟨o1,kk o1 e1,c1⟩⟩
  ·rw[zZ hb] at q
   exact(hok b o q).stay (λc u _ e1=>fly₆.1 c u e1) (λc e1=>by rw[zZ (yN e1 hHa)];exact e1) λc xs e1=>by rw[zZ (yN e1 hHa)];exact e1
 have un6:Un (frs X.stack) [] H (upd H' a (excAt a C)) s.heap h₆:=zhC I.stkFree h1 (slots sm6) (λb o q nn=>by
   have hba:b≠a:=λz=>by rw[z] at q;exact hnew o q
   rw[zZ hba];exact h3 b o q nn)
  (λb xs q=>by rw[zZ (yN (h4 b xs q) hHa)];exact h4 b xs q) (λb o u q=>by rw[zZ (yN (h5 b o u q) hHa)];exact h5 b o u q)
  (λb ps q=>by obtain⟨m,q2⟩:=h6 b ps q;exact⟨m,by rw[zZ (yN q2 hHa)];exact q2⟩) fly₆.1
 have I6:Inv X pins σ (upd H' a (excAt a C)) {s' with heap:=h₆}:=I.call' hos un6 ok6 hbare (λ_ z=>nomatch z)
 refine zae (X:=X.hand a) (I6.hand a) hN hi (.inl hlo) (v:=.ref a) rfl (λs₇ I7=>?_) (.inr hlo)
 refine laT (hs a pins s₇ _ _ _ I7 (kk a hHa)) (λf s₈ h8=>?_) λ_ _ z=>False.elim z
 cases f with
 | ret u =>
  obtain⟨v,σ',H'',J,rv,q⟩:=h8
  have J':Inv X pins σ' H'' s₈:=J.unhand I.ok
  obtain⟨m,hn0,_⟩:=id J'.loc
  have hcls:(X.env.scope.kind == .class || (X.env.scope.kind == .module&&X.env.locals != X.env.globals))=false:=by rw[I.ok.kind];rfl
  exact wpAny_nameGoes hlo hn0 hcls λh9 m9 n9 s9=>⟨v,_,H'',J'.gone n9 s9,rv,q⟩
 | next=>obtain⟨_,_,_,z⟩:=h8;exact False.elim z
 | brk=>obtain⟨_,_,_,z⟩:=h8;exact False.elim z
 | cont=>obtain⟨_,_,_,z⟩:=h8;exact False.elim z
end
structure ExcK (K:qQ0)(C:Addr):Prop where
 ga:PySem.W.findIn K (.ref C) "__getattribute__" = some (some (.builtin "BaseException.__getattribute__"))
 gt:PySem.W.findIn K (.ref C) "__getattr__" = some none
 cl:PySem.W.findIn K (.ref C) "__class__" = some (some (.builtin "object.__class__"))
 be:PySem.W.subIn K (.ref C) (.type "BaseException")=some true
 ob:PySem.W.subIn K (.ref C) (.type "object")=some true
 is:(PySem.W.clsIn K C).isSome=true
section
variable {prog:Program}{w:World}{A:Around}{E:qQ2}{h:Heap}{g:Array GenState}{d:Drawn}{t:Nat}{os:OsState}{K:qQ0}{a C:Addr}{o:Obj}
theorem zd4 (z:ExcK K C)(X:K.In h)(hx:h.get? a=some o)(hc:o.cls=.ref C)(hq:R (.ok (.ret (.ref C))) ⟨h,g,d,t,os⟩) :
  codeAny (model prog w) A (.call (.builtin "getset_descriptor.__get__") ⟨[.builtin "object.__class__", .ref a,.ref C],[]⟩) R ⟨h,g,d,t,os⟩:=by
 have hT5:(⟨h,g,d,t,os⟩:Shared).TypeIs (.builtin "object.__class__") "getset_descriptor" := ldh
 have L:PySem.W.Looks (model prog w) h (isSubtype (.ref C) (.type (".".intercalate ("object.__class__".cutAt '.').dropLast))) true:=by
  rw[F.owner_object_class]
  exact ldM X z.ob
 refine codeAny_call_builtin F.slot_gs_get.plain F.entry_gs_get (F.slot_gs_get.check _ _ _ _ _ _ _ _ hT5 (F.args_gs_get _ _ _) ?_)
 repeat (any_goals (first|assumption|(with_reducible refine lbL hx ?_;rw[hc])|with_reducible refine lcC L ?_|wp_step))
 refine⟨Code.quiet_builtin _ (by decide +kernel),lcP F.entry_object_class ?_⟩
 repeat (any_goals (first|assumption|(with_reducible refine lbL hx ?_;rw[hc])|wp_step))
theorem zcR {Q:Fin->Shared->Prop}(z:ExcK K C)(X:K.In h)(hx:h.get? a=some o)(hc:o.cls=.ref C)(hq:Q (.done (.ret (.ref C))) ⟨h,g,d,t,os⟩) :
  wpAny (model prog w) A (Builtin.«object.__getattribute__» ⟨[.ref a,.str "__class__" tk],[]⟩) Q E ⟨h,g,d,t,os⟩:=by
 have hT5:(⟨h,g,d,t,os⟩:Shared).TypeIs (.builtin "object.__class__") "getset_descriptor" := ldh
 have L:PySem.W.Looks (model prog w) h (typeLookup (.ref C) "__class__") (some (.builtin "object.__class__")):=ldt X z.cl
 have f5:=ldh
 have f6:=F.slot_gs_get.lookup
 have f7:=F.slot_gs_set.lookup
 repeat (any_goals (first|assumption|(with_reducible refine lbL hx ?_;rw[hc])|with_reducible refine lcC L ?_|wp_step))
 refine zd4 z X hx hc ?_
 repeat (any_goals (first|assumption|wp_step))
theorem zkI {M:Model}{nameV:Value}{Q:Unit->Shared->Prop}(z:ExcK K C)(X:K.In h)(hx:h.get? a=some o)(hc:o.cls=.ref C)(hq:Q () ⟨h,g,d,t,os⟩):wpAny M A (checkBuiltinCall "BaseException.__getattribute__" ⟨[.ref a,nameV],[]⟩) Q E ⟨h,g,d,t,os⟩:=by
 have hk:builtinKind "BaseException.__getattribute__" = some .slot:=by decide +kernel
 have hsplit:splitId "BaseException.__getattribute__" = some ("BaseException", "__getattribute__"):=by decide +kernel
 have L:PySem.W.Looks M h (isSubtype (.ref C) (.type "BaseException")) true:=ldM X z.be
 have ha:=F.args_bexc_ga (.ref a) nameV
 simp only[checkBuiltinCall,hk,hsplit]
 refine la ?_
 unfold isInstance
 repeat (first|(with_reducible refine lbL hx ?_;rw[hc])|with_reducible refine lcC L ?_|wp_step)
 exact hq
theorem zdv (z:ExcK K C)(X:K.In h)(hx:h.get? a=some o)(hc:o.cls=.ref C)(hq:R (.ok (.ret (.ref C))) ⟨h,g,d,t,os⟩) :
  codeAny (model prog w) A (.call (.builtin "BaseException.__getattribute__") ⟨[.ref a,.str "__class__" tk],[]⟩) R ⟨h,g,d,t,os⟩ :=
 codeAny_call_builtin F.excAttr_ValueError.ga.plain F.entry_bexc_ga (zkI z X hx hc (zcR z X hx hc hq))
theorem zfg {Q:qQ2}(z:ExcK K C)(X:K.In h)(hx:h.get? a=some o)(hc:o.cls=.ref C)(hq:Q (.ref C) ⟨h,g,d,t,os⟩):wpAny (model prog w) A (getAttrBy (.ref a) (.str "__class__" tk) false) Q E ⟨h,g,d,t,os⟩:=by
 have f3:=F.excAttr_ValueError.ga.bind (.ref a)
 have hx2:(Value.builtin "BaseException.__getattribute__" == Value.builtin "object.__getattribute__")=false:=by decide +kernel
 have hx1:(onTheHeap (Value.ref C)&&Value.builtin "BaseException.__getattribute__" == Value.builtin "object.__getattribute__")=false:=by rw[hx2];rfl
 have L1:PySem.W.Looks (model prog w) h (typeLookup (.ref C) "__getattribute__") (some (.builtin "BaseException.__getattribute__")):=ldt X z.ga
 have L2:PySem.W.Looks (model prog w) h (typeLookup (.ref C) "__getattr__") none:=ldt X z.gt
 repeat (any_goals (first|assumption|(with_reducible refine lbL hx ?_;rw[hc])|with_reducible refine lcC L1 ?_|with_reducible refine lcC L2 ?_|wp_step))
 refine zdv z X hx hc ?_
 repeat (any_goals (first|assumption|wp_step))
theorem zdr {Q:Option Value->Shared->Prop}(z:ExcK K C)(X:K.In h)(hx:h.get? a=some o)(hc:o.cls=.ref C)(hq:Q (some (.ref C)) ⟨h,g,d,t+1,os⟩):wpAny (model prog w) A (getAttr? (.ref a) "__class__") Q E ⟨h,g,d,t,os⟩:=by
 unfold getAttr? getAttrBy?
 repeat (any_goals (first|assumption|with_reducible apply zfg z X hx hc|wp_step))
end
theorem zhS {K:qQ0}(z:ExcK K C):PySem.W.KitX K (.ref a) (.ref C) (λh=>∃o,h.get? a=some o/\o.cls=.ref C) where
 ty:=λM h X ⟨o,h1,h2⟩=>h2▸(PySem.W.Looks.ld h1).andThen .now
 it := λ_ _ X _=>by
  have hcD:=z.is
  unfold PySem.W.clsIn at hcD
  split at hcD
  ·rename_i c' d' cd' sl' ho
   intro A' Q' E' s' k q
   unfold isType loadHead
   exact la (wpAny_loadPart (k _ _ (X _ _ ho)) (lq q))
  ·cases hcD
 ne := λh tp dd its n sl X htp=>by
  have hcD:=z.is
  refine Bool.eq_false_iff.mpr λq=>?_
  have e:C=tp:=Value.ref.inj (ldB.mp q)
  subst e
  unfold PySem.W.clsIn at hcD
  split at hcD
  ·rename_i c' d' cd' sl' ho
   have z:=(X _ _ ho).symm.trans htp
   cases z
  ·cases hcD
 ca:=λ{_ _ _ _ _ s} X ⟨o,h1,h2⟩ k=>by
  obtain⟨h,g,d,t,os⟩:=s
  exact zdr z X h1 h2 k
section
variable {X:Cx}
theorem zfO:ju X (.builtin "isinstance") (λxs H Q=>∃a C v b,xs=[.ref a,v]/\H a=some (excAt a C)/\ExcK X.K C/\((∃C',v=.ref C'/\PySem.W.kitOne X.K (.ref C) (.ref C')=some b)∨(∃n,v=.ty n/\PySem.W.kitOne X.K (.ref C) (.type n)=some b))/\Q (.bl b) H):=by
 intro pins s σ H xs us Q I r h
 obtain⟨a,C,v,b,rfl,ha,z,hv,q⟩:=h
 obtain⟨u,u2,rfl,ru,r2⟩:=vals2 r
 cases ru
 have fin:∀tk,EP X pins σ Q (.bool b) {s with toks:=tk}:=λtk=>⟨.bl b,H,I.tok _,rfl,q⟩
 have hx:∃o,s.heap.get? a=some o/\o.cls=.ref C:=(I.hok a _ ha).1
 rcases hv with⟨C',rfl,e⟩|⟨n,rfl,e⟩
 ·cases r2
  exact lbM (zhS z) I.kIn hx e (λz=>nomatch z) fin
 ·cases r2
  exact lbM (zhS z) I.kIn hx e (λz=>nomatch z) fin
end
section
variable {X:Cx}{CX:CXT}{k:Nat}{f:Addr}{fd:FuncData}{ps:List Str}{sp:Sp}{E:XK}{x y n:Str}{p np cpos rpos hpos pos:Pos}{e:Expr}{es:List Expr}{t:TA}{i:Nat}{b₀:Stmt}{suite:List Stmt}{th:TS}{more:List ExceptHandler}
theorem zqB {pins:List (Addr×Obj)}{σ:St}{s:Shared}{Q:VK}{us:List Value}{vs:List V}{F':qQ2}(F:FnOk X.prog X.w X.K X.mg X.base CX k f fd ps sp)(hr:Room k X.A)(hb:Binds X.K fd ps [])
  (hx:∀H s e s',Inv X pins σ H s->CX X.stack H s E e s'->F' e s') (I:Inv X pins σ H s) (r:Vals vs us) (h:sp vs H Q E):wpAny (model X.prog X.w) X.A (call (.ref f) us) (EP X pins σ Q) F' s:=by
 have hl:us.length=ps.length:=by rw[← r.length];exact F.len _ _ _ _ h
 have hb':=hb s us I.kIn (by rw[lX];exact hl)
 rw[lX] at hb'
 refine wpAny_call (lde (F.run X.A X.stack s H ⟨us,[]⟩ us vs Q E hr I.env0 hb' r h) λr s' hq=>?_)
 cases r with
 | error e=>exact hx H s e s' I hq
 | ok fl =>
  cases fl with
  | ret u=>exact I.after hq
  | next=>exact False.elim hq
  | brk=>exact False.elim hq
  | cont=>exact False.elim hq
end
structure RoomH (k:Nat)(A:Around):Prop where
 dp:A.depth+3*k+5<recursionLimit
 un:A.units+16*k+200<cLine
abbrev Around.calm0 (A:Around):Around:={A with handled:=none}
variable {A:Around}
theorem Room.hand {k:Nat}(r:Room k A)(v:Option Value):RoomH k (A.mark v):=⟨r.dp,r.un⟩
theorem RoomH.mono {j k:Nat}(r:RoomH k A)(h:j<=k):RoomH j A:=⟨by have:=r.dp;omega,by have:=r.un;omega⟩
theorem RoomH.off {k:Nat}(r:RoomH (k+1) A)(env:Env):Room k ((Around.calm0 A).deeper env) :=
 ⟨rfl,by have:=r.dp;show A.depth+1+3*k+5<_;omega,by have:=r.un;show A.units+3+16*k+200<_;omega⟩
structure FnOkH (P:Program)(w:World)(K:qQ0)(mg:qQ3)(base:Heap)(k:Nat)(f:Addr)(fd:FuncData)(ps:List Str)(sp:Sp):Prop where
 len:∀vs H Q E,sp vs H Q E->vs.length=ps.length
 run:∀(A:Around) (outer:List Env) (s:Shared) (H:Hp) (args:Args) (us:List Value) (vs:List V) (Q:VK),RoomH k A->Env0 P w K mg base A outer s H->BindsTo s fd args (ps.zip us)->Vals vs us->sp vs H Q E0 ->
  codeAny (model P w) A (.call (.ref f) args) (CR CX0 outer P w H s Q E0) s
abbrev zjd (P:Program)(w:World)(K:qQ0)(mg:qQ3)(base:Heap)(N:List Str)(qual:Str)(scope:Scope)(f:Addr)(cd:Value)(A:Around)(outer:List Env)(s:Shared)(H:Hp):Cx :=
 { (zaW CX0 P w K mg base N qual scope f cd A outer s H E0) with calm:=false,xe:=λ_ _=>False}
theorem zqj {K:qQ0}{base:Heap}{k:Nat}{name:Str}{params:Arguments}{body:List Stmt}{dV kV doc pm cdv ct oc:Value}{an od:Option Addr}
  {osl:Array (Option Value)} (lk:K.lookup f=some ⟨oc,od,.func (PySem.W.fnOf name qual params body scope dV kV doc pm an cdv ct),osl⟩) (hcd:PySem.W.codeIn K cdv qual=true) (S:FnScope N ps scope)
  (len:∀vs H Q E,sp vs H Q E->vs.length=ps.length)
  (hbody:∀(A:Around) (outer:List Env) (s:Shared) (H:Hp) (vs:List V) (Q:VK),Room k ((Around.calm0 A).deeper (envOfC qual scope s.heap.objs.size f cdv))->sp vs H Q E0 ->
   ∃t,PSs (zjd P w K mg base N qual scope f cdv A outer s H) body t/\t {nx:=λ_ H'=>Q .non H',rt:=Q} (start N vs) H) :
  FnOkH P w K mg base (k+1) f (PySem.W.fnOf name qual params body scope dV kV doc pm an cdv ct) ps sp:=by
 refine⟨len,λA outer s H args us vs Q hr e0 hb r hsp=>?_⟩
 have hl:=len _ _ _ _ hsp
 have KX:K.In s.heap:=e0.mod.kin.keeps λb o e=>(e0.bs b o e).1
 have lim:s.heap.NoLimit:=e0.mod.nolimit.keeps λb o e=>(e0.bs b o e).1
 have hkind:∀y∈ps.zip us,scope.names.lookup y.1=some .local∨(scope.names.lookup y.1=some .cell/\((cellsFrom (s.heap.objs.size+1) scope.names []).lookup y.1).isSome=true):=λ⟨n,v⟩ hy=>by
  rcases S.par n (lcj hy).1 with q|q
  ·exact .inl q
  ·exact .inr ⟨q,lc2 _ _ _ (.inl q)⟩
 have hdp:A.depth<recursionLimit:=by have:=hr.dp;omega
 refine codeAny_call_function hdp (KX _ _ lk) rfl S.co S.gen rfl (PySem.W.codeRec_of KX hcd) (hb _ _ _ _ ?_)
 refine wpAny_newFunctionEnv_cells S.kind hkind λenv he s1 x=>?_
 subst he
 refine⟨lim.keeps x.toInCall.keep,codeAny_func ?_⟩
 obtain⟨t,ht,hq⟩:=hbody A outer s H vs Q (hr.off _) hsp
 have e0':Env0 P w K mg base (Around.calm0 A) outer s H:=⟨e0.frames,e0.mod,e0.bs,e0.bsz,e0.funs,e0.frf,e0.hok,e0.bare⟩
 have I0:Inv (zaW CX0 P w K mg base N qual scope f cdv (Around.calm0 A) outer s H E0) [] (start N vs) H s1:=zfM S rfl e0' hl r x
 have ok:=I0.ok
 have I:Inv (zjd P w K mg base N qual scope f cdv A outer s H) [] (start N vs) H s1 :=
  ⟨⟨ok.mod,ok.kind,ok.glob,ok.blt,ok.above,ok.inj,ok.has,ok.cab,λz=>(by cases z),ok.frames,ok.stk,ok.exf,ok.bs,ok.bsz,ok.noex,ok.exfs,ok.funs,ok.frf⟩,I0.os,I0.bare,I0.base,I0.loc,I0.cell,I0.free,I0.freeC,I0.pin,I0.hok,I0.len⟩
 refine laT (ht [] s1 (start N vs) H _ I hq) (λfl s' hs=>?_) λe s' hs=>False.elim hs
 have fin:∀{σ':St}{H':Hp}{v:V}{u:Value},Inv (zjd P w K mg base N qual scope f cdv A outer s H) [] σ' H' s'->RelV v u->Q v H'->CE outer P w H s Q u s' :=
  λ{σ' H' v u} J rv q=>⟨v,H',J.os,J.bare,J.base,J.hok,rv,q⟩
 cases fl with
 | ret u =>
  obtain⟨v,σ',H',J,rv,q⟩:=hs
  exact fin J rv q
 | next =>
  obtain⟨σ',H',J,q⟩:=hs
  exact fin (v:=V.non) (u:=Value.none) J rfl q
 | brk =>
  obtain⟨_,_,_,q⟩:=hs
  exact False.elim q
 | cont =>
  obtain⟨_,_,_,q⟩:=hs
  exact False.elim q
theorem Fun.okH {K:qQ0}{base:Heap}{k:Nat}(F:Fun K x qual st f fd)(S:FnScope N ps (zu st))(len:∀vs H Q E,sp vs H Q E->vs.length=ps.length)
  (hbody:∀(cdv:Value) (A:Around) (outer:List Env) (s:Shared) (H:Hp) (vs:List V) (Q:VK),Room k ((Around.calm0 A).deeper (envOfC qual (zu st) s.heap.objs.size f cdv))->sp vs H Q E0 ->
   ∃t,PSs (zjd P w K mg base N qual (zu st) f cdv A outer s H) (wV st) t/\t {nx:=λ_ H'=>Q .non H',rt:=Q} (start N vs) H):FnOkH P w K mg base (k+1) f fd ps sp:=by
 obtain⟨oc,od,kV,doc,pm,an,cdv,ct,osl,rfl,lk,hcd⟩:=F.ex
 exact zqj lk hcd S len λA outer s H vs Q hr hsp=>hbody cdv A outer s H vs Q hr hsp
section
variable {X:Cx}{k:Nat}{f:Addr}{fd:FuncData}{ps:List Str}{sp:Sp}{x:Str}{p pos:Pos}{e:Expr}{es:List Expr}{t:TA}
theorem zmo (F:FnOkH X.prog X.w X.K X.mg X.base k f fd ps sp)(hr:RoomH k X.A)(hg:Gl X x)(hm:X.mg x=some (.ref f))(hk:PySem.W.keepIn X.K (.ref f)=true)(hb:Binds X.K fd ps [])(ha:PA X (e::es) t)
  (hdb:(x == ("__debug__" : Str))=false:=by decide) (he:starEach (e::es) X.env=(false,eval e X.env)::starEach es X.env:=by rfl) (hpl:(backTo pos (starEach es X.env)).any (·.1)=false:=by rfl) :
  PE X (.Call (.Name x p) (e::es) [] pos) (zqs sp [] E0 t):=by
 intro pins s σ H Q I h
 refine lbk (zdb I hg hm ?_ hdb)
 refine ldR (h₀:=X.base) I.ok.mod.kin hk (thn (ha pos pins s σ H _ I h) λus s1 ⟨vs,H1,I1,r,q⟩=>⟨I1.kIn,?_⟩) he hpl
 have q:sp vs H1 Q E0:=by
  have q':sp (vs++[]) H1 Q E0:=q
  rw[lX] at q'
  exact q'
 have hl:us.length=ps.length:=by rw[← r.length];exact F.len _ _ _ _ q
 have hb':=hb s1 us I1.kIn (by rw[lX];exact hl)
 rw[lX] at hb'
 refine wpAny_call (lde (F.run X.A X.stack s1 H1 ⟨us,[]⟩ us vs Q hr I1.env0 hb' r q) λr s' hq=>?_)
 cases r with
 | error e=>exact False.elim hq
 | ok fl =>
  cases fl with
  | ret u=>exact I1.after hq
  | next=>exact False.elim hq
  | brk=>exact False.elim hq
  | cont=>exact False.elim hq
end
theorem zcO:bootBuiltins "ValueError" = some (.type "ValueError"):=PyProof.Rows.Boot.«ValueError»
theorem xW {X:Cx}:zcL (CX1 P w) X E0:=λ_ _ _ _ _ _ _ h=>by
 obtain⟨_,_,_,_,_,_,_,_,_,_,_,_,_,_,_,_,hE⟩:=h
 exact hE.elim
theorem zfQ {x:V}:∀{xs:List V}{us:List Value},Vals xs us->xs.all jT=true->us.countP (eqU x)=xs.countP λy=>eqV y x
 | _,_,.nil,_=>rfl
 | y::xs,u::us,.cons r t,f=>by
  rw[lbv,lG] at f
  rw[List.countP_cons,List.countP_cons,zk0 r f.1,zfQ t f.2]
theorem zga {x:V}:∀{xs:List V}{us:List Value},Vals xs us->xs.all jT=true->∀(j:Nat) (u:Value),us[j]? = some u->∃y,xs[j]? = some y/\eqU x u=eqV y x
 | _,_,.nil,_=>λj u e=>by simp at e
 | y::xs,u::us,.cons r t,f=>λj v e=>by
  rw[lbv,lG] at f
  cases j with
  | zero =>
   have:u=v:=by simpa using e
   subst this
   exact⟨y,rfl,zk0 r f.1⟩
  | succ j=>exact zga t f.2 j v (by simpa using e)
end L2
namespace My
end My
namespace L2
open PySem PySem.Spec PyProof.Rows
variable {a es:List Expr}{c:Pos}{env:Env}
theorem zaX {b}:starEach (.Tuple a b c::es) env=(false,eval (.Tuple a b c) env)::starEach es env:=by rfl
theorem zhP :starEach (.List a c::es) env=(false,eval (.List a c) env)::starEach es env:=by rfl
theorem yU {a b:Expr}{o}:starEach (.BinOp a o b c::es) env=(false,eval (.BinOp a o b c) env)::starEach es env:=by rfl
theorem zJ {f:Expr}{k}:starEach (.Call f a k c::es) env=(false,eval (.Call f a k c) env)::starEach es env:=by rfl
theorem xq {a b:Expr}:starEach (.Subscript a b c::es) env=(false,eval (.Subscript a b c) env)::starEach es env:=by rfl
theorem zb {a}:starEach (.Name a c::es) env=(false,eval (.Name a c) env)::starEach es env:=by rfl
theorem znP {o}{a:Expr}:starEach (.UnaryOp o a c::es) env=(false,eval (.UnaryOp o a c) env)::starEach es env:=by rfl
theorem zm {a}{k}:starEach (.Constant a k c::es) env=(false,eval (.Constant a k c) env)::starEach es env:=by rfl
section
variable {prog:Program}{w:World}{A:Around}{E:qQ2}{s:Shared}
theorem zaN {t sl:Addr}{items:Array Value}{vl vu:Value}{lo hi:Option Int}{Q:qQ2}(ht:IsTup s.heap t items)(hs:s.heap.IsSliceOf sl vl vu .none)(pl:IsPart vl lo)(pu:IsPart vu hi)
  (hw:HT.sIx items.size 0 lo=0/\HT.sIx items.size items.size hi=items.size) (h:Q (.ref t) s):wpAny (model prog w) A (getItem (.ref t) (.ref sl)) Q E s:=by
 obtain⟨os,hos,hcs,hds⟩:=id hs
 have hTs:s.TypeIs (.ref sl) "slice" := ⟨os,hos,hcs⟩
 unfold getItem
 try with_reducible refine laR ?_
 first|refine la (lq ?_)|skip
 refine la (wpAny_sequenceKey ht.typeIs (by decide) ?_)
 refine la (lT (name:=Str.ofString "__getitem__") ht.typeIs laV
  (lZ laV ht.typeIs entry_tuple_getitem ?_ (args_tuple_getitem _ _)))
 show wpAny _ _ (Builtin.Tuple.tupleItemsOf (.ref t) >>= _) _ _ s
 refine la (tupleItemsOf_ ht ?_)
 refine la (lcH hTs ?_)
 rw[lO (by decide)]
 refine la (HT.sliceApplied_gen hs pl pu ?_)
 have hyes:(((HT.sIx items.size 0 lo:Nat):Int) == 0&&(1:Int) == 1&&(HT.sIx items.size items.size hi - HT.sIx items.size 0 lo) == items.size)=true:=by
  rw[hw.1,hw.2]
  simp
 show wpAny _ _ (if (((HT.sIx items.size 0 lo:Nat):Int) == 0&&(1:Int) == 1&&(HT.sIx items.size items.size hi - HT.sIx items.size 0 lo) == items.size)=true then _ else _) _ _ s
 rw[lO hyes]
 refine la (m:=Builtin.Tuple.tupleIsExact (.ref t)) ?_
 unfold Builtin.Tuple.tupleIsExact
 refine la (lcH ht.typeIs (lq ?_))
 rw[lO (by decide)]
 first
  | exact la (lcF (lq ⟨_,rfl,lq h⟩))
  | exact la (lcF (lq ⟨_,rfl,h⟩))
end
section
variable {X:Cx}
def zsK (K:qQ0):V->Option Int->Option Int->Hp->VK->Prop:=λx lo hi H Q=>∃a xs,x=.ref a/\SqT K H a xs/\∀p H',Same H H'->SqT K H' p (zkE xs lo hi)->Q (.ref p) H'
theorem zow:SlR X (zsK X.K):=by
 intro pins s σ H x v vl vu lo hi sl Q I rx hs pl pu h
 obtain⟨a,xs,rfl,hx,q⟩:=h
 by_cases hw:HT.sIx xs.length 0 lo=0/\HT.sIx xs.length xs.length hi=xs.length
 ·cases rx
  obtain⟨its,r,ht,hz⟩:=I.tuple hx
  have hlen:its.toArray.size=xs.length:=by rw[lI];exact r.length.symm
  refine⟨"tuple", _,laV.lookup,ht.typeIs,zaN ht hs pl pu (by rw[hlen];exact hw) ⟨.ref a,H,I,rfl,q a H (Same.refl _) ?_⟩⟩
  have:zkE xs lo hi=xs:=by
   unfold zkE
   rw[hw.1,hw.2,leJ,Nat.sub_zero,ldo]
  rw[this]
  exact hx
 ·exact zqN pins s σ H (.ref a) v vl vu lo hi sl Q I rx hs pl pu ⟨a,xs,rfl,hx,hw,λp hp=>q p _ (Same.upd hp) (SqT.of z7)⟩
end
end L2
set_option maxHeartbeats 2000000
namespace L2
open PySem PySem.Spec PyProof.Rows
theorem zer (l:Addr)(items:Array Value)(x:Value)(e:Value->Bool)(j:Nat)(hj:j<items.size)
  (hit:e items[j]=true) (hno:∀m (hm:m<items.size),m<j->e items[m]=false) :
  Meets (Builtin.«tuple.index» ⟨[.ref l,x],[]⟩)
   (λA R s=>s.heap.IsTuple l items/\(∀y,y∈items->SeqAt.EqAt A.in1 s y x (e y))/\R (.ok (.ret (.int j s.toks))) {s with toks:=s.toks+1}):=by
 intro prog w A R s h
 obtain⟨hl,he,h⟩:=h
 obtain⟨o,ho,hc,n,hd⟩:=id hl
 unfold Builtin.«tuple.index»
 refine la ?_
 wp_walk using wpAny_loadPart' ho
 rw[hd]
 refine lq (lq ?_)
 refine la (lq (la (lq (la ?_))))
 rw[Std.Legacy.Range.forIn_eq_forIn_range']
 simp only[Std.Legacy.Range.size,Nat.sub_zero,Nat.add_sub_cancel,Nat.div_one,Nat.min_self]
 refine wpAny_forIn_list _ (λrest b s'=>s'=s/\∃i,rest=List.range' i (items.size - i)/\i<=j) _ ?_ ?_ _ _ ⟨rfl,0,by simp,lbm _⟩
 ·rintro y rest b s' ⟨rfl,i,hr,hi⟩
  obtain ⟨rfl,hrest⟩:y=i/\rest=List.range' (i+1) (items.size - (i+1)):=by
   have e:items.size - i=(items.size - (i+1))+1:=by omega
   rw[e,List.range'_succ] at hr
   injection hr with h1 h2
   exact⟨h1,h2⟩
  have hlt:y<items.size:=by omega
  rw[laD hlt]
  refine la (he _ (Array.getElem_mem hlt) prog w _ _ ?_)
  rcases lcK y j with hyj|hyj
  ·rw[hno y hlt hyj]
   exact lq ⟨rfl,y+1,hrest,hyj⟩
  ·have:y=j:=by omega
   subst this
   rw[hit]
   rw[lO rfl]
   wp_walk
   exact h
 ·rintro b s' ⟨rfl,i,hr,hi⟩
  have:items.size - i=0:=by
   have:=lbG List.length hr
   simpa using this.symm
  omega
section
variable {X:Cx}
def znk (K:qQ0):V->List V->Hp->VK->Prop:=λx vs H Q=>∃(l:Addr) (xs:List V) (y:V) (j:Nat) (z:V),x=.ref l/\vs=[y]/\SqT K H l xs/\jT y=true/\xs.all jT=true/\xs[j]? = some z/\eqV z y=true/\(∀(m:Nat) (w:V),m<j->xs[m]? = some w->eqV w y=false)/\Q (.int (j:Int)) H
theorem zi3:MtR X "tuple.index" (znk X.K):=by
 intro pins s σ H x vs v us Q I rx rv h
 obtain⟨l,xs,y,j,z0,rfl,rfl,hH,fy,fs,hj,hz,hno,q⟩:=h
 cases rx
 obtain⟨u,rfl,ru⟩:=rv.one
 obtain⟨its,r,pl,hl⟩:=I.tuple hH
 obtain⟨o,e,hc,n,hd⟩:=id pl
 have hjl:j<its.length:=by rw[← r.length];exact(lx.mp hj).1
 refine lcI F.slot_tuple_index ⟨_,e,hc⟩ F.entry_tuple_index (F.args_tuple_index_2 _ _) (zer l its.toArray u (eqU y) j (by simpa using hjl) ?_ ?_) ⟨⟨o,e,hc,n,hd⟩,λw hw=>zcs ru fy r fs w (by simpa using hw),?_⟩
 ·obtain⟨y2,e2,e3⟩:=zga (x:=y) r fs j its[j] (lb hjl)
  rw[hj] at e2
  obtain rfl:=lp e2
  show eqU y its[j]=true
  rw[e3,hz]
 ·intro m hm hmj
  have hml:m<its.length:=by simpa using hm
  obtain⟨y2,e2,e3⟩:=zga (x:=y) r fs m its[m] (lb hml)
  show eqU y its[m]=false
  rw[e3]
  exact hno m y2 hmj e2
 ·exact⟨.int _,H,I.tok _,⟨_,rfl⟩,q⟩
def zld (K:qQ0):V->List V->Hp->VK->Prop:=λx vs H Q=>∃(l:Addr) (xs:List V) (y:V) (j:Nat) (z:V),x=.ref l/\vs=[y]/\SqL K H l xs/\jT y=true/\xs.all jT=true/\xs[j]? = some z/\eqV z y=true/\j<1000000/\(∀(m:Nat) (w:V),m<j->xs[m]? = some w->eqV w y=false)/\Q (.int (j:Int)) H
theorem zja:MtR X "list.index" (zld X.K):=by
 intro pins s σ H x vs v us Q I rx rv h
 obtain⟨l,xs,y,j,z0,rfl,rfl,hH,fy,fs,hj,hz,h1000,hno,q⟩:=h
 cases rx
 obtain⟨u,rfl,ru⟩:=rv.one
 obtain⟨its,r,pl,hl⟩:=I.list hH
 obtain⟨o,n,e,hc,hd,hs⟩:=id pl
 have hjl:j<its.length:=by rw[← r.length];exact(lx.mp hj).1
 have eo:o={cls:=.type "list", dict:=none,data:=.seq its.toArray n,slots:=o.slots}:=by
  obtain⟨c,d,dt,sl⟩:=o
  dsimp only at hc hd hs
  subst hc hd hs
  rfl
 rw[eo] at e
 refine lcI F.slot_list_index ⟨_,e,rfl⟩ F.entry_list_index (F.args_list_index_2 _ _) (SeqAt.list_indexAt l its.toArray n none o.slots u (eqU y) j (by simpa using hjl) (by omega) ?_ ?_) ⟨e,λw hw=>zcs ru fy r fs w (by simpa using hw),?_⟩
 ·obtain⟨y2,e2,e3⟩:=zga (x:=y) r fs j its[j] (lb hjl)
  rw[hj] at e2
  obtain rfl:=lp e2
  show eqU y its[j]=true
  rw[e3,hz]
 ·intro m hm hmj
  have hml:m<its.length:=by simpa using hm
  obtain⟨y2,e2,e3⟩:=zga (x:=y) r fs m its[m] (lb hml)
  show eqU y its[m]=false
  rw[e3]
  exact hno m y2 hmj e2
 ·exact⟨.int _,H,I.tok _,⟨_,rfl⟩,q⟩
end
end L2
set_option maxHeartbeats 1000000
namespace L2
open PySem
variable {es:Array (Int×Value)}{ks:List Str}
def txt:Value->Str
 | .str x _=>x
 | _=>⟨#[]⟩
structure StS (w:World)(es:Array (Int×Value))(t:SetTable)(ks:List Str):Prop where
 shape:∀e∈es.toList,∃x tk,e=(hashStr w x,Value.str x tk)
 keys:(es.toList.map λe=>txt e.2).Perm ks
 nd:ks.Nodup
 fits:t.fits es.size=true
 led:t.led = !w.params.followText "set-order"
 plain:es.size=0∨t.plain=false
 few:es.size<scanBound
theorem StS.size {w:World}{t:SetTable}(S:StS w es t ks):es.size=ks.length:=by
 have:=S.keys.length_eq
 simpa using this
theorem isStrOf_txt {x y:Str}{tk:Tok}:Value.isStrOf x (.str y tk)=true↔x=y:=by
 constructor
 ·intro h
  obtain⟨t,e⟩:=Value.isStrOf_shape h
  injection e with e _
  exact e.symm
 ·rintro rfl;simp[Value.isStrOf,Value.isStr]
theorem StS.find {w:World}{t:SetTable}(S:StS w es t ks)(x:Str):(∃e∈es.toList,Value.isStrOf x e.2=true)↔x∈ks:=by
 rw[← S.keys.mem_iff,laI]
 constructor
 ·rintro⟨e,he,h⟩
  obtain⟨y,tk,rfl⟩:=S.shape e he
  exact⟨_,he,(isStrOf_txt.mp h).symm⟩
 ·rintro⟨e,he,h⟩
  obtain⟨y,tk,rfl⟩:=S.shape e he
  exact⟨_,he,isStrOf_txt.mpr h.symm⟩
def ded (l:List Str):List Str:=l.foldl (λacc x=>if x∈acc then acc else acc++[x]) []
end L2
set_option maxHeartbeats 3200000
namespace L2
open PySem PySem.Spec PyProof.Rows
section
variable {prog:Program}{w:World}{A:Around}{E:qQ2}{s:Shared}
theorem StS.new:StS w #[] (.fresh 0 0 (!w.params.followText "set-order")) [] where
 shape:=λe he=>by simp at he
 keys:=lbw _
 nd:=lbK
 fits:=rfl
 led:=rfl
 plain:=.inl rfl
 few:=by decide
end
end L2
set_option maxHeartbeats 1000000
namespace L2
open PySem PySem.Spec PyProof.Rows
variable {v:V}{vs:List V}{H1 H0 F0 F H:Hp}{p a f:Addr}{b e c tg:Expr}{σ:St}{α:Type}{i j n:Nat}{Q P:VK}{r r':R2}{x:Str}{l:List Nat}{es:List Expr}{op:CmpOp}{fd:FuncData}{ps N:List Str}{pos' apos cpos pos:Pos}{body:List Stmt}{t u:St->Hp->VK->XK->Prop}{ls:qQ1}{cl:Nat->Addr}{w:World}{mg:qQ3}{E:XK}
inductive D where
 | non|bl (b:Bool)|int (i:Int)|str (l:List Nat)|lst (xs:List D)|tup (xs:List D)|dct (kvs:List (List Nat×D))|exc (n:Nat)
inductive Rs (α:Type) where
 | ok (a:α)|ex (n:Nat)|no
def Rs.bind {α β:Type}:Rs α->(α->Rs β)->Rs β
 | .ok a,f=>f a
 | .ex n,_=>.ex n
 | .no,_=>.no
inductive Sl where
 | no|fz (d:D)|ow (xs:List D)|od (kvs:List (List Nat×D))|ot (ks:List D)
abbrev Rho:=List Sl
abbrev qQ6:=Rho->Rs Bool
abbrev qQ5:=Rho->Rs D
abbrev qQ4:=Rho->Rs (List D)
variable {ρ:Rho}{ft:qQ6}
inductive Out where
 | nx (ρ:Rho)|rt (d:D)|bk (ρ:Rho)|ct (ρ:Rho)|ex (n:Nat)|no
mutual
inductive Dt (K:qQ0)(cl:Nat->Addr)(F:Hp):V->D->Prop
 | non:Dt K cl F .non .non
 | bl (b:Bool):Dt K cl F (.bl b) (.bl b)
 | int (i:Int):Dt K cl F (.int i) (.int i)
 | str (l:List Nat) (ok:TxtOk (T l)):Dt K cl F (.str (T l)) (.str l)
 | lst {a:Addr}{xs:List V}{ds:List D}:SqL K F a xs->Dts K cl F xs ds->Dt K cl F (.ref a) (.lst ds)
 | tup {a:Addr}{xs:List V}{ds:List D}:SqT K F a xs->Dts K cl F xs ds->Dt K cl F (.ref a) (.tup ds)
 | dct {a:Addr}{kvs:List (Key×V)}{ds:List (List Nat×D)}:F a=some (.dK kvs)->Dks K cl F kvs ds->Dt K cl F (.ref a) (.dct ds)
 | exc {a:Addr}{n:Nat}:F a=some (excAt a (cl n))->Dt K cl F (.ref a) (.exc n)
inductive Dts (K:qQ0)(cl:Nat->Addr)(F:Hp):List V->List D->Prop
 | nil:Dts K cl F [] []
 | cons {v:V}{d:D}{vs:List V}{ds:List D}:Dt K cl F v d->Dts K cl F vs ds->Dts K cl F (v::vs) (d::ds)
inductive Dks (K:qQ0)(cl:Nat->Addr)(F:Hp):List (Key×V)->List (List Nat×D)->Prop
 | nil:Dks K cl F [] []
 | cons {l:List Nat}{v:V}{d:D}{vs:List (Key×V)}{ds:List (List Nat×D)}:TxtOk (T l)->Dt K cl F v d->Dks K cl F vs ds->Dks K cl F ((Sum.inr (T l),v)::vs) ((l,d)::ds)
end
section
variable {K:qQ0}{cl:Nat->Addr}{F F' H H':Hp}
theorem Dt.monos (e:Same F F'):(∀{v:V}{d:D},Dt K cl F v d->Dt K cl F' v d)/\(∀{vs:List V}{ds:List D},Dts K cl F vs ds->Dts K cl F' vs ds)/\(∀{vs:List (Key×V)}{ds:List (List Nat×D)},Dks K cl F vs ds->Dks K cl F' vs ds):=by
 refine⟨λ{v d} h=>?_,λ{vs ds} h=>?_,λ{vs ds} h=>?_⟩
 ·exact Dt.rec (motive_1:=λv d _=>Dt K cl F' v d) (motive_2:=λvs ds _=>Dts K cl F' vs ds) (motive_3:=λvs ds _=>Dks K cl F' vs ds) .non .bl .int .str (λq _ ih=>.lst (e.seq q) ih) (λq _ ih=>.tup (e.seqT q) ih) (λq _ ih=>.dct (e _ _ q) ih) (λq=>.exc (e _ _ q)) .nil (λ_ _ a b=>.cons a b) .nil (λok _ _ a b=>.cons ok a b) h
 ·exact Dts.rec (motive_1:=λv d _=>Dt K cl F' v d) (motive_2:=λvs ds _=>Dts K cl F' vs ds) (motive_3:=λvs ds _=>Dks K cl F' vs ds) .non .bl .int .str (λq _ ih=>.lst (e.seq q) ih) (λq _ ih=>.tup (e.seqT q) ih) (λq _ ih=>.dct (e _ _ q) ih) (λq=>.exc (e _ _ q)) .nil (λ_ _ a b=>.cons a b) .nil (λok _ _ a b=>.cons ok a b) h
 ·exact Dks.rec (motive_1:=λv d _=>Dt K cl F' v d) (motive_2:=λvs ds _=>Dts K cl F' vs ds) (motive_3:=λvs ds _=>Dks K cl F' vs ds) .non .bl .int .str (λq _ ih=>.lst (e.seq q) ih) (λq _ ih=>.tup (e.seqT q) ih) (λq _ ih=>.dct (e _ _ q) ih) (λq=>.exc (e _ _ q)) .nil (λ_ _ a b=>.cons a b) .nil (λok _ _ a b=>.cons ok a b) h
theorem Dt.mono {d:D}(h:Dt K cl F v d)(e:Same F F'):Dt K cl F' v d:=(Dt.monos e).1 h
theorem Dts.mono {ds:List D}(h:Dts K cl F vs ds)(e:Same F F'):Dts K cl F' vs ds:=(Dt.monos e).2.1 h
theorem Dks.mono {vs:List (Key×V)}{ds:List (List Nat×D)}(h:Dks K cl F vs ds)(e:Same F F'):Dks K cl F' vs ds:=(Dt.monos e).2.2 h
theorem Dts.length:∀{vs:List V}{ds:List D},Dts K cl F vs ds->vs.length=ds.length
 | _,_,.nil=>rfl
 | _,_,.cons _ r=>by simp[r.length]
theorem Dts.append:∀{vs ws:List V}{ds es:List D},Dts K cl F vs ds->Dts K cl F ws es->Dts K cl F (vs++ws) (ds++es)
 | _,_,_,_,.nil,s=>s
 | _,_,_,_,.cons r t,s=>.cons r (Dts.append t s)
theorem Dts.get:∀{vs:List V}{ds:List D}{i:Nat}{v:V},Dts K cl F vs ds->vs[i]? = some v->∃d,ds[i]? = some d/\Dt K cl F v d
 | _,_,_,_,.nil,e=>by simp at e
 | _,_,0,_,.cons r _,e=>by simp at e;subst e;exact⟨_,rfl,r⟩
 | _,_,i+1,v,.cons _ t,e=>by
  obtain⟨d,h1,h2⟩:=Dts.get (i:=i) (v:=v) t (by simpa using e)
  exact⟨d,by simpa using h1,h2⟩
theorem Dts.get':∀{vs:List V}{ds:List D}{i:Nat}{d:D},Dts K cl F vs ds->ds[i]? = some d->∃v,vs[i]? = some v/\Dt K cl F v d
 | _,_,_,_,.nil,e=>by simp at e
 | _,_,0,_,.cons r _,e=>by simp at e;subst e;exact⟨_,rfl,r⟩
 | _,_,i+1,d,.cons _ t,e=>by
  obtain⟨v,h1,h2⟩:=Dts.get' (i:=i) (d:=d) t (by simpa using e)
  exact⟨v,by simpa using h1,h2⟩
theorem Dts.take:∀{vs:List V}{ds:List D} (n:Nat),Dts K cl F vs ds->Dts K cl F (vs.take n) (ds.take n)
 | _,_,0,_=>.nil
 | _,_,_+1,.nil=>.nil
 | _,_,n+1,.cons r t=>.cons r (Dts.take n t)
theorem Dts.drop:∀{vs:List V}{ds:List D} (n:Nat),Dts K cl F vs ds->Dts K cl F (vs.drop n) (ds.drop n)
 | _,_,0,r=>r
 | _,_,_+1,.nil=>.nil
 | _,_,n+1,.cons _ t=>Dts.drop n t
def kOf:D->Key
 | .int i=>.inl i
 | .str l=>.inr (T l)
 | _=>.inl 0
def isAt:D->Bool
 | .int _=>true
 | .str _=>true
 | _=>false
def tOf:D->List D
 | .tup ds=>ds
 | _=>[]
def zam (d:D):List Key:=(tOf d).map kOf
def zkk:D->Bool
 | .tup ds=>ds.all isAt
 | _=>false
structure Dtk (K:qQ0)(cl:Nat->Addr)(F:Hp)(kvs:List (List Key×Addr))(ks:List D):Prop where
 ky:kvs.map (·.1)=ks.map zam
 dt:Dts K cl F (kvs.map λq=>V.ref q.2) ks
 ta:∀d∈ks,zkk d=true
 nd:(ks.map zam).Nodup
theorem Dtk.mono {kvs:List (List Key×Addr)}{ks:List D}(h:Dtk K cl F kvs ks)(e:Same F F'):Dtk K cl F' kvs ks:=⟨h.ky,h.dt.mono e,h.ta,h.nd⟩
mutual
def D.py:D->PyData
 | .non=>.none
 | .bl b=>.bool b
 | .int i=>.int i
 | .str l=>.str (T l)
 | .lst xs=>.list (D.pys xs)
 | .tup xs=>.tuple (D.pys xs)
 | .dct _=>.none
 | .exc _=>.none
def D.pys:List D->List PyData
 | []=>[]
 | d::ds=>d.py::D.pys ds
end
mutual
def D.pl:D->Bool
 | .lst xs=>D.pls xs
 | .tup xs=>D.pls xs
 | .dct _=>false
 | .exc _=>false
 | _=>true
def D.pls:List D->Bool
 | []=>true
 | d::ds=>d.pl&&D.pls ds
end
theorem Dt.iss:(∀{v:V}{d:D},Dt K cl F v d->d.pl=true->Is K F v d.py)/\(∀{vs:List V}{ds:List D},Dts K cl F vs ds->D.pls ds=true->Iss K F vs (D.pys ds)):=by
 refine⟨λ{v d} h=>?_,λ{vs ds} h=>?_⟩
 ·exact Dt.rec (motive_1:=λv d _=>d.pl=true->Is K F v d.py) (motive_2:=λvs ds _=>D.pls ds=true->Iss K F vs (D.pys ds)) (motive_3:=λ_ _ _=>True) (λ_=>.non) (λb _=>.bl b) (λi _=>.int i) (λl ok _=>.str _ ok) (λq _ ih p=>.lst q (ih p)) (λq _ ih p=>.tup q (ih p)) (λ_ _ _ p=>by simp[D.pl] at p) (λ_ p=>by simp[D.pl] at p) (λ_=>.nil)
   (λ_ _ a b p=>by simp only[D.pls,lG] at p;exact .cons (a p.1) (b p.2)) trivial (λ_ _ _ _ _=>trivial) h
 ·exact Dts.rec (motive_1:=λv d _=>d.pl=true->Is K F v d.py) (motive_2:=λvs ds _=>D.pls ds=true->Iss K F vs (D.pys ds)) (motive_3:=λ_ _ _=>True) (λ_=>.non) (λb _=>.bl b) (λi _=>.int i) (λl ok _=>.str _ ok) (λq _ ih p=>.lst q (ih p)) (λq _ ih p=>.tup q (ih p)) (λ_ _ _ p=>by simp[D.pl] at p) (λ_ p=>by simp[D.pl] at p) (λ_=>.nil)
   (λ_ _ a b p=>by simp only[D.pls,lG] at p;exact .cons (a p.1) (b p.2)) trivial (λ_ _ _ _ _=>trivial) h
theorem Dt.is {d:D}(h:Dt K cl F v d)(p:d.pl=true):Is K F v d.py:=Dt.iss.1 h p
def HO.mu:HO->Bool
 | .tup _=>false
 | .frz _ _=>false
 | _=>true
structure Gr (F H F' H':Hp):Prop where
 ff:Same F F'
 hh:Same H H'
 fh:Same F' H'
 no:∀b o,H b=some o->o.mu=true->F b=none->F' b=none
theorem Gr.refl (h:Same F H):Gr F H F H:=⟨Same.refl _,Same.refl _,h,λ_ _ _ _ q=>q⟩
theorem Gr.trans {F1 F2 H2 F3 H3:Hp}(a:Gr F1 H1 F2 H2)(b:Gr F2 H2 F3 H3):Gr F1 H1 F3 H3 :=
 ⟨a.ff.trans b.ff,a.hh.trans b.hh,b.fh,λc o hc m q=>b.no c o (a.hh c o hc) m (a.no c o hc m q)⟩
theorem zh5 {H2:Hp}{o:HO}(h:Same H1 H2):Same (upd H1 p o) (upd H2 p o):=λb u e=>by
 by_cases hb:b=p
 ·subst hb;rw[z7] at e ⊢;exact e
 ·rw[zZ hb] at e ⊢;exact h b u e
theorem Gr.new {o:HO}(h:Same F H)(hp:H p=none):Gr F H (upd F p o) (upd H p o) :=
 ⟨Same.upd (h.free hp),Same.upd hp,zh5 h,λb o hb m q=>by
  have hne:b≠p:=λz=>by rw[z,hp] at hb;cases hb
  rw[zZ hne];exact q⟩
theorem Gr.newO {o:HO}(h:Same F H)(hp:H p=none):Gr F H F (upd H p o) :=
 ⟨Same.refl _,Same.upd hp,h.trans (Same.upd hp),λ_ _ _ _ q=>q⟩
def Sl.own:Sl->Bool
 | .ow _=>true
 | .od _=>true
 | .ot _=>true
 | _=>false
theorem Gr.tup {K:qQ0}{cl:Nat->Addr}{p:Addr}{vs:List V}{ds:List D}(h:Same F H)(s:Same H H')(q:SqT K H' p vs)(d:Dts K cl F vs ds):∃F',Gr F H F' H'/\Dt K cl F' (.ref p) (.tup ds):=by
 have s2:Same F H':=h.trans s
 have add:∀o:HO,H' p=some o->o.mu=false->Gr F H (λb=>if b=p then H' b else F b) H'/\Same F (λb=>if b=p then H' b else F b):=λo e m=>by
  have ff:Same F (λb=>if b=p then H' b else F b):=λb u e'=>by
   show(if b=p then H' b else F b)=some u
   split
   ·exact s2 b u e'
   ·exact e'
  refine⟨⟨ff,s,λb u e'=>?_,λb u hb m' q'=>?_⟩,ff⟩
  ·have e2:(if b=p then H' b else F b)=some u:=e'
   split at e2
   ·exact e2
   ·exact s2 b u e2
  ·show (if b=p then H' b else F b)=none
   split
   ·rename_i w
    subst w
    rw[s b u hb] at e
    injection e with e
    rw[e,m] at m'
    cases m'
   ·exact q'
 rcases q with(e|⟨u,e⟩)|q
 ·obtain⟨g,ff⟩:=add _ e rfl
  exact⟨_,g,.tup (.inl (.inl (by show(if p=p then H' p else F p)=_;rw[lO rfl];exact e))) (d.mono ff)⟩
 ·obtain⟨g,ff⟩:=add _ e rfl
  exact⟨_,g,.tup (.inl (.inr ⟨u,by show(if p=p then H' p else F p)=_;rw[lO rfl];exact e⟩)) (d.mono ff)⟩
 ·exact⟨F,⟨Same.refl _,s,s2,λ_ _ _ _ z=>z⟩,.tup (.inr q) d⟩
inductive Ly (K:qQ0)(cl:Nat->Addr)(F:Hp):HO->Sl->Prop
 | ow {vs:List V}{ds:List D}:Dts K cl F vs ds->Ly K cl F (.lst vs) (.ow ds)
 | od {vs:List (Key×V)}{ds:List (List Nat×D)}:Dks K cl F vs ds->Ly K cl F (.dK vs) (.od ds)
 | ot {vs:List (List Key×Addr)}{ds:List D}:Dtk K cl F vs ds->Ly K cl F (.dR vs) (.ot ds)
theorem Ly.mono {o:HO}{s:Sl}(h:Ly K cl F o s)(e:Same F F'):Ly K cl F' o s:=by
 cases h with
 | ow q=>exact .ow (q.mono e)
 | od q=>exact .od (q.mono e)
 | ot q=>exact .ot (q.mono e)
theorem Ly.mu {o:HO}{s:Sl}(h:Ly K cl F o s):o.mu=true:=by cases h <;>rfl
theorem zee {o:Option (Option V)}{b:Addr}(h:o=some (some (.ref a)))(k:o=some (some (.ref b))):a=b:=by rw[h] at k;injection k with k;injection k with k;injection k
structure Rl (K:qQ0)(cl:Nat->Addr)(H0 F0:Hp)(ρ:Rho)(σ:St)(H F:Hp):Prop where
 gr:Gr F0 H0 F H
 len:ρ.length=σ.length
 fz:∀(i:Nat) d,ρ[i]? = some (.fz d)->∃v,σ[i]? = some (some v)/\Dt K cl F v d
 own:∀(i:Nat) s,ρ[i]? = some s->s.own=true->∃a o,σ[i]? = some (some (.ref a))/\H a=some o/\F a=none/\H0 a=none/\Ly K cl F o s
 ap:∀(i j:Nat) s t a,ρ[i]? = some s->ρ[j]? = some t->s.own=true->t.own=true->σ[i]? = some (some (.ref a))->σ[j]? = some (some (.ref a))->i=j
section
variable {H0 F0:Hp}{ρ:Rho}{σ:St}(R:Rl K cl H0 F0 ρ σ H F)
include R
theorem Rl.ow (i:Nat)(ds)(e:ρ[i]? = some (.ow ds)):∃a vs,σ[i]? = some (some (.ref a))/\H a=some (.lst vs)/\F a=none/\H0 a=none/\Dts K cl F vs ds:=by
 obtain⟨a,o,h1,h2,h3,h4,h5⟩:=R.own i _ e rfl
 cases h5 with|ow q=>exact⟨a,_,h1,h2,h3,h4,q⟩
theorem Rl.od (i:Nat)(ds)(e:ρ[i]? = some (.od ds)):∃a vs,σ[i]? = some (some (.ref a))/\H a=some (.dK vs)/\F a=none/\H0 a=none/\Dks K cl F vs ds:=by
 obtain⟨a,o,h1,h2,h3,h4,h5⟩:=R.own i _ e rfl
 cases h5 with|od q=>exact⟨a,_,h1,h2,h3,h4,q⟩
theorem Rl.ot (i:Nat)(ds)(e:ρ[i]? = some (.ot ds)):∃a vs,σ[i]? = some (some (.ref a))/\H a=some (.dR vs)/\F a=none/\H0 a=none/\Dtk K cl F vs ds:=by
 obtain⟨a,o,h1,h2,h3,h4,h5⟩:=R.own i _ e rfl
 cases h5 with|ot q=>exact⟨a,_,h1,h2,h3,h4,q⟩
theorem Rl.grow (g:Gr F H F' H'):Rl K cl H0 F0 ρ σ H' F' where
 gr:=R.gr.trans g
 len:=R.len
 fz:=λi d e=>let ⟨v,h1,h2⟩:=R.fz i d e;⟨v,h1,h2.mono g.ff⟩
 own:=λi s e o=>let ⟨a,q,h1,h2,h3,h4,h5⟩:=R.own i s e o;⟨a,q,h1,g.hh _ _ h2,g.no a _ h2 h5.mu h3,h4,h5.mono g.ff⟩
 ap:=R.ap
end
theorem Rl.fh (R:Rl K cl H0 F0 ρ σ H F):Same F H:=R.gr.fh
theorem get_set {l:List α}{x y:α}(h:(l.set i x)[j]? = some y):(i=j/\y=x/\i<l.length)∨(i≠j/\l[j]? = some y):=by
 by_cases e:i=j
 ·subst e
  rw[List.getElem?_set_self'] at h
  cases q:l[i]? with
  | none=>rw[q] at h;cases h
  | some z =>
   rw[q] at h
   exact .inl ⟨rfl,(lp h).symm,(lx.mp q).1⟩
 ·rw[lal e] at h
  exact .inr ⟨e,h⟩
theorem zd9 {l:List α}{x:α}(h:i<l.length):(l.set i x)[i]? = some x:=by rw[lc1 h]
theorem Rl.set {d:D}(R:Rl K cl H0 F0 ρ σ H F)(h:Dt K cl F v d):Rl K cl H0 F0 (ρ.set i (.fz d)) (σ.set i (some v)) H F where
 gr:=R.gr
 len:=by simp[R.len]
 fz := λj e z=>by
  rcases get_set z with⟨rfl,q,hl⟩|⟨hj,q⟩
  ·injection q with q;subst q
   exact⟨v,zd9 (R.len▸hl),h⟩
  ·rw[lal hj];exact R.fz j e q
 own:=λj s z o=>by
  rcases get_set z with⟨rfl,q,hl⟩|⟨hj,q⟩
  ·subst q;cases o
  ·rw[lal hj];exact R.own j s q o
 ap := λj k s t a z1 z2 o1 o2 e1 e2=>by
  rcases get_set z1 with⟨rfl,q,hl⟩|⟨hj,q⟩
  ·subst q;cases o1
  ·rcases get_set z2 with⟨rfl,q2,hl⟩|⟨hk,q2⟩
   ·subst q2;cases o2
   ·rw[lal hj] at e1;rw[lal hk] at e2
    exact R.ap j k s t a q q2 o1 o2 e1 e2
theorem Rl.apart (R:Rl K cl H0 F0 ρ σ H F){s:Sl}(e:ρ[j]? = some s)(o:s.own=true)(z:σ[j]? = some (some (.ref a))):H a≠none:=by
 obtain⟨b,q,h1,h2,_⟩:=R.own j s e o
 rw[zee z h1,h2];exact λz=>nomatch z
theorem Rl.ownN {o:HO}{s:Sl}{H' F':Hp}(R:Rl K cl H0 F0 ρ σ H F)(g:Gr F H F' H')(hp:H p=none)(h2:H' p=some o)(h3:F' p=none)(h:Ly K cl F' o s):Rl K cl H0 F0 (ρ.set i s) (σ.set i (some (.ref p))) H' F' where
 gr:=R.gr.trans g
 len:=by simp[R.len]
 fz:=λj e z=>by
  rcases get_set z with⟨rfl,q,hl⟩|⟨hj,q⟩
  ·subst q;cases h
  ·rw[lal hj];exact(R.grow g).fz j e q
 own:=λj e z w=>by
  rcases get_set z with⟨rfl,q,hl⟩|⟨hj,q⟩
  ·subst q
   exact⟨p,o,zd9 (R.len▸hl),h2,h3,R.gr.hh.free hp,h⟩
  ·rw[lal hj];exact(R.grow g).own j e q w
 ap := λj k s t a z1 z2 o1 o2 e1 e2=>by
  rcases get_set z1 with⟨rfl,q,hl⟩|⟨hj,q⟩
  ·rcases get_set z2 with⟨rfl,q2,hl2⟩|⟨hk,q2⟩
   ·rfl
   ·rw[zd9 (R.len▸hl)] at e1;rw[lal hk] at e2
    exact absurd (zee e1 rfl▸hp) (R.apart q2 o2 e2)
  ·rcases get_set z2 with⟨rfl,q2,hl2⟩|⟨hk,q2⟩
   ·rw[zd9 (R.len▸hl2)] at e2;rw[lal hj] at e1
    exact absurd (zee e2 rfl▸hp) (R.apart q o1 e1)
   ·rw[lal hj] at e1;rw[lal hk] at e2
    exact R.ap j k s t a q q2 o1 o2 e1 e2
theorem Rl.newOwn {o:HO}{s:Sl}(R:Rl K cl H0 F0 ρ σ H F)(hp:H p=none)(h:Ly K cl F o s):Rl K cl H0 F0 (ρ.set i s) (σ.set i (some (.ref p))) (upd H p o) F:=R.ownN (Gr.newO R.fh hp) hp z7 (R.fh.free hp) h
theorem Rl.setO {ds:List D}(R:Rl K cl H0 F0 ρ σ H F)(hp:H p=none)(h:Dts K cl F vs ds):Rl K cl H0 F0 (ρ.set i (.ow ds)) (σ.set i (some (.ref p))) (upd H p (.lst vs)) F:=R.newOwn hp (.ow h)
theorem Rl.chg {o:HO}{s t:Sl}(R:Rl K cl H0 F0 ρ σ H F)(hi:ρ[i]? = some s)(hw:s.own=true)(hs:σ[i]? = some (some (.ref a)))(h:Ly K cl F o t):Rl K cl H0 F0 (ρ.set i t) σ (upd H a o) F:=by
 obtain⟨b,w,h1,h2,h3,h4,_⟩:=R.own i s hi hw
 obtain rfl:=zee hs h1
 have far:∀(j:Nat) (s:Sl) (c:Addr),j≠i->ρ[j]? = some s->s.own=true->σ[j]? = some (some (.ref c))->c≠a:=λj s c hj e o z w=>hj (R.ap j i s _ a e hi o hw (w▸z) hs)
 refine⟨⟨R.gr.ff,λc o e=>?_,λc o e=>?_,R.gr.no⟩,by simp[R.len],λj e z=>?_,λj e z q=>?_,λj k s1 t1 c z1 z2 o1 o2 e1 e2=>?_⟩
 ·rw[zZ (λw=>by rw[w,h4] at e;cases e)];exact R.gr.hh c o e
 ·rw[zZ (λw=>by rw[w,h3] at e;cases e)];exact R.fh c o e
 ·rcases get_set z with⟨rfl,q,hl⟩|⟨hj,q⟩
  ·subst q;cases h
  ·exact R.fz j e q
 ·rcases get_set z with⟨rfl,w,hl⟩|⟨hj,w⟩
  ·subst w
   exact⟨a,o,hs,z7,h3,h4,h⟩
  ·obtain⟨c,x,k1,k2,k3⟩:=R.own j e w q
   exact⟨c,x,k1,by rw[zZ (far j _ c (lbF hj) w q k1)];exact k2,k3⟩
 ·have own:∀(j:Nat) (r:Sl),(ρ.set i t)[j]? = some r->r.own=true->∃s',ρ[j]? = some s'/\s'.own=true:=λj r z o=>by
   rcases get_set z with⟨rfl,q,hl⟩|⟨hj,q⟩
   ·exact⟨_,hi,hw⟩
   ·exact⟨r,q,o⟩
  obtain⟨s',q1,p1⟩:=own j _ z1 o1
  obtain⟨t',q2,p2⟩:=own k _ z2 o2
  exact R.ap j k s' t' c q1 q2 p1 p2 e1 e2
theorem Rl.put {us:List V}{ds es:List D}(R:Rl K cl H0 F0 ρ σ H F)(hi:ρ[i]? = some (.ow ds))(hs:σ[i]? = some (some (.ref a)))(h:Dts K cl F us es):Rl K cl H0 F0 (ρ.set i (.ow es)) σ (upd H a (.lst us)) F:=R.chg hi rfl hs (.ow h)
theorem Rl.let {s:Sl}{d:D}(R:Rl K cl H0 F0 ρ σ H F)(hi:ρ[i]? = some s)(hw:s.own=true)(hd:∀a o F,Ly K cl F o s->F a=some o->Dt K cl F (.ref a) d):∃F',Same F F'/\Rl K cl H0 F0 (ρ.set i (.fz d)) σ H F':=by
 obtain⟨a,o,h1,h2,h3,h4,h5⟩:=R.own i s hi hw
 have sm:Same F (upd F a o):=Same.upd h3
 have far:∀(j:Nat) (s:Sl) (c:Addr),j≠i->ρ[j]? = some s->s.own=true->σ[j]? = some (some (.ref c))->c≠a:=λj s c hj e o z w=>hj (R.ap j i s _ a e hi o hw (w▸z) h1)
 refine⟨upd F a o,sm,⟨⟨R.gr.ff.trans sm,R.gr.hh,λc o e=>?_,λc o hc m q=>?_⟩,by simp[R.len],λj e z=>?_,λj e z w=>?_,λj k s t c z1 z2 o1 o2 e1 e2=>?_⟩⟩
 ·by_cases w:c=a
  ·subst w;rw[z7] at e;rw[← e];exact h2
  ·rw[zZ w] at e;exact R.fh c o e
 ·have hne:c≠a:=λw=>by rw[w,h4] at hc;cases hc
  rw[zZ hne];exact R.gr.no c o hc m q
 ·rcases get_set z with⟨rfl,q,hl⟩|⟨hj,q⟩
  ·injection q with q;subst q
   exact⟨.ref a,h1,hd a o _ (h5.mono sm) z7⟩
  ·obtain⟨v,k1,k2⟩:=R.fz j e q
   exact⟨v,k1,k2.mono sm⟩
 ·rcases get_set z with⟨rfl,q,hl⟩|⟨hj,q⟩
  ·subst q;cases w
  ·obtain⟨c,xs,k1,k2,k3,k4,k5⟩:=R.own j e q w
   exact⟨c,xs,k1,k2,by rw[zZ (far j _ c (lbF hj) q w k1)];exact k3,k4,k5.mono sm⟩
 ·rcases get_set z1 with⟨rfl,q,hl⟩|⟨hj,q⟩
  ·subst q;cases o1
  ·rcases get_set z2 with⟨rfl,q2,hl⟩|⟨hk,q2⟩
   ·subst q2;cases o2
   ·exact R.ap j k s t c q q2 o1 o2 e1 e2
theorem Rl.ice {ds:List D}(R:Rl K cl H0 F0 ρ σ H F)(hi:ρ[i]? = some (.ow ds)):∃F',Same F F'/\Rl K cl H0 F0 (ρ.set i (.fz (.lst ds))) σ H F':=R.let hi rfl λa o F l e=>by
 cases l with|ow q=>exact .lst (.inl (.inl e)) q
end
def OutE (K:qQ0)(cl:Nat->Addr)(E:XK)(H0 F H:Hp)(r:Rs D)(Q:VK):Prop :=
 match r with
 | .ok d=>∀v H' F',Gr F H F' H'->Dt K cl F' v d->Q v H'
 | .ex n=>∀H',Same H0 H'->E (.ref (cl n)) none H'
 | .no=>False
def OutA (K:qQ0)(cl:Nat->Addr)(E:XK)(H0 F H:Hp)(r:Rs (List D))(Q:List V->Hp->Prop):Prop :=
 match r with
 | .ok ds=>∀vs H' F',Gr F H F' H'->Dts K cl F' vs ds->Q vs H'
 | .ex n=>∀H',Same H0 H'->E (.ref (cl n)) none H'
 | .no=>False
def OutB (K:qQ0)(cl:Nat->Addr)(E:XK)(H0 F H:Hp)(r:Rs Bool)(Q:Bool->Hp->Prop):Prop :=
 match r with
 | .ok b=>∀H' F',Gr F H F' H'->Q b H'
 | .ex n=>∀H',Same H0 H'->E (.ref (cl n)) none H'
 | .no=>False
def OutS (K:qQ0)(cl:Nat->Addr)(E:XK)(H0 F0 F:Hp)(o:Out)(Dn:Ends):Prop :=
 match o with
 | .nx ρ=>∀σ H F',Rl K cl H0 F0 ρ σ H F'->Same F F'->Dn.nx σ H
 | .rt d=>∀v H F',Gr F0 H0 F' H->Dt K cl F' v d->Dn.rt v H
 | .bk ρ=>∀σ H F',Rl K cl H0 F0 ρ σ H F'->Same F F'->Dn.bk σ H
 | .ct ρ=>∀σ H F',Rl K cl H0 F0 ρ σ H F'->Same F F'->Dn.ct σ H
 | .ex n=>∀H',Same H0 H'->E (.ref (cl n)) none H'
 | .no=>False
def XE' (X:Cx)(cl:Nat->Addr)(E:XK)(e:Expr)(f:qQ5):Prop :=
 ∃t:TE,PE X e t/\∀(H0 F0:Hp) (ρ:Rho) (σ:St) (H F:Hp) (Q:VK),Rl X.K cl H0 F0 ρ σ H F->OutE X.K cl E H0 F H (f ρ) Q->t σ H Q
def XA' (X:Cx)(cl:Nat->Addr)(E:XK)(es:List Expr)(f:qQ4):Prop :=
 ∃t:TA,PA X es t/\∀(H0 F0:Hp) (ρ:Rho) (σ:St) (H F:Hp) (Q:List V->Hp->Prop),Rl X.K cl H0 F0 ρ σ H F->OutA X.K cl E H0 F H (f ρ) Q->t σ H Q
def XT' (X:Cx)(cl:Nat->Addr)(E:XK)(e:Expr)(f:qQ6):Prop :=
 ∃t:TT,PT X e t/\∀(H0 F0:Hp) (ρ:Rho) (σ:St) (H F:Hp) (Q:Bool->Hp->Prop),Rl X.K cl H0 F0 ρ σ H F->OutB X.K cl E H0 F H (f ρ) Q->t σ H Q
def XW' (X:Cx)(cl:Nat->Addr)(E:XK)(e:Expr)(f:qQ6):Prop :=
 ∃t:TT,PW X e t/\∀(H0 F0:Hp) (ρ:Rho) (σ:St) (H F:Hp) (Q:Bool->Hp->Prop),Rl X.K cl H0 F0 ρ σ H F->OutB X.K cl E H0 F H (f ρ) Q->t σ H Q
def XO' (X:Cx)(cl:Nat->Addr)(E:XK)(e:Option Expr)(f:Rho->Rs (Option Int)):Prop :=
 ∃ t:TO,PO X e t/\∀(H0 F0:Hp) (ρ:Rho) (σ:St) (H F:Hp) (Q:Option Int->Hp->Prop),Rl X.K cl H0 F0 ρ σ H F ->
  (match f ρ with | .ok o=>∀H' F',Gr F H F' H'->Q o H' | .ex n=>∀H',Same H0 H'->E (.ref (cl n)) none H' | .no=>False)->t σ H Q
def tDE (K:qQ0)(cl:Nat->Addr)(E:XK)(f:qQ5):TE:=λσ H Q=>∃H0 F0 ρ F,Rl K cl H0 F0 ρ σ H F/\OutE K cl E H0 F H (f ρ) Q
def tDA (K:qQ0)(cl:Nat->Addr)(E:XK)(f:qQ4):TA:=λσ H Q=>∃H0 F0 ρ F,Rl K cl H0 F0 ρ σ H F/\OutA K cl E H0 F H (f ρ) Q
def tDB (K:qQ0)(cl:Nat->Addr)(E:XK)(f:qQ6):TT:=λσ H Q=>∃H0 F0 ρ F,Rl K cl H0 F0 ρ σ H F/\OutB K cl E H0 F H (f ρ) Q
def XE (X:Cx)(cl:Nat->Addr)(E:XK)(e:Expr)(f:qQ5):Prop:=PE X e (tDE X.K cl E f)
def XA (X:Cx)(cl:Nat->Addr)(E:XK)(es:List Expr)(f:qQ4):Prop:=PA X es (tDA X.K cl E f)
def XT (X:Cx)(cl:Nat->Addr)(E:XK)(e:Expr)(f:qQ6):Prop:=PT X e (tDB X.K cl E f)
def XW (X:Cx)(cl:Nat->Addr)(E:XK)(e:Expr)(f:qQ6):Prop:=PW X e (tDB X.K cl E f)
section
variable {X:Cx}{cl:Nat->Addr}{E:XK}
theorem XE.ex {f:qQ5}(h:XE X cl E e f):XE' X cl E e f:=⟨_,h,λH0 F0 ρ σ H F Q R o=>⟨H0,F0,ρ,F,R,o⟩⟩
theorem XA.ex {e:List Expr}{f:qQ4}(h:XA X cl E e f):XA' X cl E e f:=⟨_,h,λH0 F0 ρ σ H F Q R o=>⟨H0,F0,ρ,F,R,o⟩⟩
theorem XT.ex {f:qQ6}(h:XT X cl E e f):XT' X cl E e f:=⟨_,h,λH0 F0 ρ σ H F Q R o=>⟨H0,F0,ρ,F,R,o⟩⟩
theorem XW.ex {f:qQ6}(h:XW X cl E e f):XW' X cl E e f:=⟨_,h,λH0 F0 ρ σ H F Q R o=>⟨H0,F0,ρ,F,R,o⟩⟩
theorem XE'.out {f:qQ5}(h:XE' X cl E e f):XE X cl E e f:=let ⟨_,pt,rt⟩:=h;λpins s σ H Q I ⟨H0,F0,ρ,F,R,o⟩=>pt pins s σ H Q I (rt H0 F0 ρ σ H F Q R o)
theorem XA'.out {e:List Expr}{f:qQ4}(h:XA' X cl E e f):XA X cl E e f:=let ⟨_,pt,rt⟩:=h;λpos pins s σ H Q I ⟨H0,F0,ρ,F,R,o⟩=>pt pos pins s σ H Q I (rt H0 F0 ρ σ H F Q R o)
theorem XT'.out {f:qQ6}(h:XT' X cl E e f):XT X cl E e f:=let ⟨_,pt,rt⟩:=h;λpins s σ H Q I ⟨H0,F0,ρ,F,R,o⟩=>pt pins s σ H Q I (rt H0 F0 ρ σ H F Q R o)
theorem XW'.out {f:qQ6}(h:XW' X cl E e f):XW X cl E e f:=let ⟨_,pt,rt⟩:=h;λwhole pins s σ H Q I ⟨H0,F0,ρ,F,R,o⟩=>pt whole pins s σ H Q I (rt H0 F0 ρ σ H F Q R o)
end
def fC (d:D):qQ5:=λ_=>.ok d
def fNm (i:Nat):qQ5:=λρ=>match ρ[i]? with|some (.fz d)=>.ok d|_=>.no
def lf:Option D->Rs D
 | some d=>.ok d
 | none=>.no
def f1 (g:D->Option D)(fa:qQ5):qQ5:=λρ=>(fa ρ).bind λa=>lf (g a)
def f2 (g:D->D->Option D)(fa fb:qQ5):qQ5:=λρ=>(fa ρ).bind λa=>(fb ρ).bind λb=>lf (g a b)
def zF:qQ4:=λ_=>.ok []
def zj (fa:qQ5)(fs:qQ4):qQ4:=λρ=>(fa ρ).bind λa=>(fs ρ).bind λas=>.ok (a::as)
def fO (g:List D->Option D)(fs:qQ4):qQ5:=λρ=>(fs ρ).bind λas=>lf (g as)
def fA (g:List D->Rs D)(fs:qQ4):qQ5:=λρ=>(fs ρ).bind g
def fIf (ft:qQ6)(fa fb:qQ5):qQ5:=λρ=>(ft ρ).bind λb=>if b=true then fa ρ else fb ρ
def tru:D->Rs Bool
 | .bl b=>.ok b
 | _=>.no
def bT (fa:qQ5):qQ6:=λρ=>(fa ρ).bind tru
def zb1 (ft:qQ6):qQ6:=λρ=>(ft ρ).bind λb=>.ok (!b)
def ziO (fa fb:qQ6):qQ6:=λρ=>(fa ρ).bind λb=>if b=true then fb ρ else .ok false
def bOr (fa fb:qQ6):qQ6:=λρ=>(fa ρ).bind λb=>if b=true then .ok true else fb ρ
def zck (fa fb:qQ5):qQ5:=λρ=>(fa ρ).bind λa=>(tru a).bind λb=>if b=true then fb ρ else .ok (.bl false)
def fOr (fa fb:qQ5):qQ5:=λρ=>(fa ρ).bind λa=>(tru a).bind λb=>if b=true then .ok (.bl true) else fb ρ
def ze4 (fa:qQ5):qQ5:=λρ=>(fa ρ).bind λa=>(tru a).bind λb=>.ok (.bl (!b))
section
variable {K:qQ0}{cl:Nat->Addr}{E:XK}{H0 F0 F H F1 H1:Hp}{ρ:Rho}{σ:St}
theorem OutE.grow {r:Rs D}(h:OutE K cl E H0 F H r Q)(g:Gr F H F1 H1):OutE K cl E H0 F1 H1 r Q:=by
 cases r with
 | ok d=>exact λv H' F' g' q=>h v H' F' (g.trans g') q
 | ex n=>exact h
 | no=>exact h
theorem OutA.grow {r:Rs (List D)}{Q:List V->Hp->Prop}(h:OutA K cl E H0 F H r Q)(g:Gr F H F1 H1):OutA K cl E H0 F1 H1 r Q:=by
 cases r with
 | ok d=>exact λv H' F' g' q=>h v H' F' (g.trans g') q
 | ex n=>exact h
 | no=>exact h
theorem OutB.grow {r:Rs Bool}{Q:Bool->Hp->Prop}(h:OutB K cl E H0 F H r Q)(g:Gr F H F1 H1):OutB K cl E H0 F1 H1 r Q:=by
 cases r with
 | ok d=>exact λH' F' g'=>h H' F' (g.trans g')
 | ex n=>exact h
 | no=>exact h
theorem OutE.fst {r:Rs D}{g:D->Rs D}(h:OutE K cl E H0 F H (r.bind g) Q)(k:∀d v H1 F1,Gr F H F1 H1->Dt K cl F1 v d->OutE K cl E H0 F1 H1 (g d) Q->P v H1):OutE K cl E H0 F H r P:=by
 cases r with
 | ok d=>exact λv H' F' g' q=>k d v H' F' g' q (h.grow g')
 | ex n=>exact h
 | no=>exact h
theorem OutE.fstA {r:Rs D}{g:D->Rs (List D)}{Q:List V->Hp->Prop}(h:OutA K cl E H0 F H (r.bind g) Q)(k:∀d v H1 F1,Gr F H F1 H1->Dt K cl F1 v d->OutA K cl E H0 F1 H1 (g d) Q->P v H1):OutE K cl E H0 F H r P:=by
 cases r with
 | ok d=>exact λv H' F' g' q=>k d v H' F' g' q (h.grow g')
 | ex n=>exact h
 | no=>exact h
theorem OutA.fst {r:Rs (List D)}{g:List D->Rs D}{P:List V->Hp->Prop}(h:OutE K cl E H0 F H (r.bind g) Q)(k:∀d v H1 F1,Gr F H F1 H1->Dts K cl F1 v d->OutE K cl E H0 F1 H1 (g d) Q->P v H1):OutA K cl E H0 F H r P:=by
 cases r with
 | ok d=>exact λv H' F' g' q=>k d v H' F' g' q (h.grow g')
 | ex n=>exact h
 | no=>exact h
theorem OutA.fstA {r:Rs (List D)}{g:List D->Rs (List D)}{Q P:List V->Hp->Prop}(h:OutA K cl E H0 F H (r.bind g) Q)(k:∀d v H1 F1,Gr F H F1 H1->Dts K cl F1 v d->OutA K cl E H0 F1 H1 (g d) Q->P v H1):OutA K cl E H0 F H r P:=by
 cases r with
 | ok d=>exact λv H' F' g' q=>k d v H' F' g' q (h.grow g')
 | ex n=>exact h
 | no=>exact h
theorem OutE.fstB {r:Rs D}{g:D->Rs Bool}{Q:Bool->Hp->Prop}(h:OutB K cl E H0 F H (r.bind g) Q)(k:∀d v H1 F1,Gr F H F1 H1->Dt K cl F1 v d->OutB K cl E H0 F1 H1 (g d) Q->P v H1):OutE K cl E H0 F H r P:=by
 cases r with
 | ok d=>exact λv H' F' g' q=>k d v H' F' g' q (h.grow g')
 | ex n=>exact h
 | no=>exact h
theorem OutB.fstB {r:Rs Bool}{g:Bool->Rs Bool}{Q P:Bool->Hp->Prop}(h:OutB K cl E H0 F H (r.bind g) Q)(k:∀b H1 F1,Gr F H F1 H1->OutB K cl E H0 F1 H1 (g b) Q->P b H1):OutB K cl E H0 F H r P:=by
 cases r with
 | ok d=>exact λH' F' g'=>k d H' F' g' (h.grow g')
 | ex n=>exact h
 | no=>exact h
theorem OutE.okI {d:D}(h:OutE K cl E H0 F H (.ok d) Q)(s:Same F H)(q:Dt K cl F v d):Q v H:=h v H F (Gr.refl s) q
theorem zew {d:D}{b:Bool}(q:Dt K cl F v d)(h:tru d=.ok b):v=.bl b:=by
 cases q <;>simp[tru] at h
 subst h;rfl
end
section
variable {X:Cx}{cl:Nat->Addr}{E:XK}{a b:Expr}{fa fb fc:qQ5}{pos:Pos}
theorem zhG {d:D}(h:PE X e (tC v))(q:∀F,Dt X.K cl F v d):XE X cl E e (fC d):=XE'.out ⟨_,h,λH0 F0 ρ σ H F Q R o=>o.okI R.fh (q F)⟩
theorem zG {i j pos}:XE X cl E (.Constant (.int i) j pos) (fC (.int i)):=zhG zqc λ_=>.int i
theorem jn {b j pos}:XE X cl E (.Constant (.bool b) j pos) (fC (.bl b)):=zhG zrE λ_=>.bl b
theorem zjI {j pos}:XE X cl E (.Constant .none j pos) (fC .non):=zhG zpn λ_=>.non
theorem zm1 {j pos}(h:x=T l)(ok:TxtOk (T l)):XE X cl E (.Constant (.str x) j pos) (fC (.str l)):=by subst h;exact zhG zqh λ_=>.str l ok
theorem znx (i:Nat)(h:PE X e (zj5 i)):XE X cl E e (fNm i):=XE'.out ⟨_,h,λH0 F0 ρ σ H F Q R o=>by
 unfold fNm at o
 split at o
 ·rename_i d e
  obtain⟨v,h1,h2⟩:=R.fz i d e
  exact⟨v,h1,o.okI R.fh h2⟩
 ·exact o.elim⟩
theorem zx:XA X cl E [] zF:=XA'.out ⟨_,uc,λH0 F0 ρ σ H F Q R o=>o [] H F (Gr.refl R.fh) .nil⟩
theorem zf {fs:qQ4}(ha:XE X cl E e fa)(hr:XA X cl E es fs)(hs:starEach (e::es) X.env=(false,eval e X.env)::starEach es X.env):XA X cl E (e::es) (zj fa fs):=by
 obtain⟨t,pt,rt⟩:=ha.ex
 obtain⟨u,pu,ru⟩:=hr.ex
 refine XA'.out ⟨_,yQ pt pu hs,λH0 F0 ρ σ H F Q R o=>rt H0 F0 ρ σ H F _ R (OutE.fstA o λd v H1 F1 g q o1=>?_)⟩
 refine ru H0 F0 ρ σ H1 F1 _ (R.grow g) (OutA.fstA o1 λds vs H2 F2 g2 q2 o2=>?_)
 exact o2 (v::vs) H2 F2 (Gr.refl (R.grow (g.trans g2)).fh) (.cons (q.mono g2.ff) q2)
def Op2 (K:qQ0)(cl:Nat->Addr)(r:R2)(g:D->D->Option D):Prop :=
 ∀(F H:Hp) (x y:V) (a b d:D) (Q:VK),Same F H->Dt K cl F x a->Dt K cl F y b->g a b=some d->(∀v H' F',Gr F H F' H'->Dt K cl F' v d->Q v H')->r x y H Q
theorem OutE.lf {K:qQ0}{cl:Nat->Addr}{E:XK}{o:Option D}(h:OutE K cl E H0 F H (lf o) Q):∃d,o=some d/\∀v H' F',Gr F H F' H'->Dt K cl F' v d->Q v H':=by
 cases o with
 | none=>exact h.elim
 | some d=>exact⟨d,rfl,h⟩
theorem zW {op:Operator}{g:D->D->Option D}(ho:OpR X (binaryOp op) r)(hg:Op2 X.K cl r g)(ha:XE X cl E a fa)(hb:XE X cl E b fb):XE X cl E (.BinOp a op b pos) (f2 g fa fb):=by
 obtain⟨t,pt,rt⟩:=ha.ex
 obtain⟨u,pu,ru⟩:=hb.ex
 refine XE'.out ⟨_,znt ho pt pu,λH0 F0 ρ σ H F Q R o=>rt H0 F0 ρ σ H F _ R (OutE.fst o λd v H1 F1 g1 q o1=>?_)⟩
 refine ru H0 F0 ρ σ H1 F1 _ (R.grow g1) (OutE.fst o1 λe w H2 F2 g2 q2 o2=>?_)
 obtain⟨z,hz,k⟩:=o2.lf
 exact hg F2 H2 v w d e z _ (R.grow (g1.trans g2)).fh (q.mono g2.ff) q2 hz k
theorem zdi {g:D->D->Option D}(ho:OpR X (compareOp op) r)(hg:Op2 X.K cl r g)(ha:XE X cl E a fa)(hb:XE X cl E b fb)(hm:behindInMarks op b=false):XE X cl E (.Compare a [op] [b] pos) (f2 g fa fb):=by
 obtain⟨t,pt,rt⟩:=ha.ex
 obtain⟨u,pu,ru⟩:=hb.ex
 refine XE'.out ⟨_,zo4 ho pt pu hm,λH0 F0 ρ σ H F Q R o=>rt H0 F0 ρ σ H F _ R (OutE.fst o λd v H1 F1 g1 q o1=>?_)⟩
 refine ru H0 F0 ρ σ H1 F1 _ (R.grow g1) (OutE.fst o1 λe w H2 F2 g2 q2 o2=>?_)
 obtain⟨z,hz,k⟩:=o2.lf
 exact hg F2 H2 v w d e z _ (R.grow (g1.trans g2)).fh (q.mono g2.ff) q2 hz k
theorem wZ {g:D->D->Option D}(ho:OpR X (compareOp op) r)(hg:Op2 X.K cl r g)(ha:XE X cl E a fa)(hb:XE X cl E b fb)(hm:behindInMarks op b=false):XT X cl E (.Compare a [op] [b] pos) (bT (f2 g fa fb)):=by
 obtain⟨t,pt,rt⟩:=ha.ex
 obtain⟨u,pu,ru⟩:=hb.ex
 refine XT'.out ⟨_,znU ho pt pu hm,λH0 F0 ρ σ H F Q R o=>?_⟩
 have o':OutE X.K cl E H0 F H (f2 g fa fb ρ) λv H1=>∃k,v=.bl k/\Q k H1:=OutE.fstB o λd v H1 F1 g1 q o1=>by
  cases e:tru d with
  | ok b=>rw[e] at o1;exact⟨b,zew q e,o1 H1 F1 (Gr.refl (R.grow g1).fh)⟩
  | ex n=>cases d <;>simp[tru] at e
  | no=>rw[e] at o1;exact o1.elim
 refine rt H0 F0 ρ σ H F _ R (OutE.fst o' λd v H1 F1 g1 q o1=>?_)
 refine ru H0 F0 ρ σ H1 F1 _ (R.grow g1) (OutE.fst o1 λe w H2 F2 g2 q2 o2=>?_)
 obtain⟨z,hz,k⟩:=o2.lf
 exact hg F2 H2 v w d e z _ (R.grow (g1.trans g2)).fh (q.mono g2.ff) q2 hz k
theorem OutB.bT {Q:Bool->Hp->Prop}(R:Rl X.K cl H0 F0 ρ σ H F)(o:OutB X.K cl E H0 F H (bT fa ρ) Q):OutE X.K cl E H0 F H (fa ρ) λv H1=>∃k,v=.bl k/\Q k H1:=OutE.fstB o λd v H1 F1 g1 q o1=>by
  cases e:tru d with
  | ok b=>rw[e] at o1;exact⟨b,zew q e,o1 H1 F1 (Gr.refl (R.grow g1).fh)⟩
  | ex n=>cases d <;>simp[tru] at e
  | no=>rw[e] at o1;exact o1.elim
theorem ql (h:XE X cl E e fa)(he:∀whole,isTrue e X.env whole=(do let v ← whole;standAt e.pos;holding [v] (truthy v)):=by intro _;rfl):XT X cl E e (bT fa):=by
 obtain⟨t,pt,rt⟩:=h.ex
 exact XT'.out ⟨_,zpY pt he,λH0 F0 ρ σ H F Q R o=>rt H0 F0 ρ σ H F _ R (OutB.bT R o)⟩
theorem jL (h:XT X cl E a ft):XT X cl E (.UnaryOp .Not a pos) (zb1 ft):=by
 obtain⟨t,pt,rt⟩:=h.ex
 exact XT'.out ⟨_,zpA pt,λH0 F0 ρ σ H F Q R o=>rt H0 F0 ρ σ H F _ R (OutB.fstB o λb H1 F1 g o1=>o1 H1 F1 (Gr.refl (R.grow g).fh))⟩
theorem zgu (h:XT X cl E a ft):XW X cl E (.BoolOp .Or [a] pos) ft:=let ⟨t,pt,rt⟩:=h.ex;XW'.out ⟨t,zqe pt,rt⟩
theorem zjL {rest:List Expr}{fu:qQ6}(h:XT X cl E a ft)(k:XW X cl E (.BoolOp .Or (b::rest) pos) fu):XW X cl E (.BoolOp .Or (a::b::rest) pos) (bOr ft fu):=by
 obtain⟨t,pt,rt⟩:=h.ex
 obtain⟨u,pu,ru⟩:=k.ex
 refine XW'.out ⟨_,zrs pt pu,λH0 F0 ρ σ H F Q R o=>rt H0 F0 ρ σ H F _ R (OutB.fstB o λb H1 F1 g o1=>?_)⟩
 cases b with
 | true=>exact o1 H1 F1 (Gr.refl (R.grow g).fh)
 | false=>exact ru H0 F0 ρ σ H1 F1 _ (R.grow g) o1
theorem XW.xt (h:XW X cl E e ft):XT X cl E e ft:=let ⟨t,pt,rt⟩:=h.ex;XT'.out ⟨t,pt.pt,rt⟩
def isN (neg:Bool):D->Option D
 | .non=>some (.bl (!neg))
 | _=>some (.bl neg)
theorem Dt.isnon {K:qQ0}{d:D}(q:Dt K cl F v d):isN false d=some (.bl (decide (v=.non)))/\isN true d=some (.bl (!decide (v=.non))):=by cases q <;>exact⟨rfl,rfl⟩
theorem zpv {j pos'}(h:XE X cl E a fa):XE X cl E (.Compare a [.Is] [.Constant .none j pos'] pos) (f1 (isN false) fa):=by
 obtain⟨t,pt,rt⟩:=h.ex
 refine XE'.out ⟨_,zqr (zp2 pt),λH0 F0 ρ σ H F Q R o=>rt H0 F0 ρ σ H F _ R (OutE.fst o λd v H1 F1 g q o1=>?_)⟩
 rw[q.isnon.1] at o1
 exact o1.okI (R.grow g).fh (.bl _)
theorem zn1 {j pos'}(h:XE X cl E a fa):XT X cl E (.Compare a [.IsNot] [.Constant .none j pos'] pos) (bT (f1 (isN true) fa)):=by
 obtain⟨t,pt,rt⟩:=h.ex
 refine XT'.out ⟨_,zp5 (zoa pt),λH0 F0 ρ σ H F Q R o=>rt H0 F0 ρ σ H F _ R (OutE.fst (OutB.bT R o) λd v H1 F1 g q o1=>?_)⟩
 rw[q.isnon.2] at o1
 exact o1.okI (R.grow g).fh (.bl _)
theorem OutE.tru {F1 H1:Hp}{d:D}{g:Bool->Rs D}(q:Dt X.K cl F v d)(o:OutE X.K cl E H0 F H ((tru d).bind g) Q):∃b,v=.bl b/\OutE X.K cl E H0 F H (g b) Q:=by
 cases e:L2.tru d with
 | ok b=>rw[e] at o;exact⟨b,zew q e,o⟩
 | ex n=>cases d <;>simp[L2.tru] at e
 | no=>rw[e] at o;exact o.elim
theorem zbV {op}(h:XE X cl E a fa):XE X cl E (.BoolOp op [a] pos) fa:=let ⟨t,pt,rt⟩:=h.ex;XE'.out ⟨t,zqy pt,rt⟩
theorem zcV {rest:List Expr}(ha:XE X cl E a fa)(hb:XE X cl E (.BoolOp .And (b::rest) pos) fb):XE X cl E (.BoolOp .And (a::b::rest) pos) (zck fa fb):=by
 obtain⟨t,pt,rt⟩:=ha.ex
 obtain⟨u,pu,ru⟩:=hb.ex
 refine XE'.out ⟨_,zpk pt pu,λH0 F0 ρ σ H F Q R o=>rt H0 F0 ρ σ H F _ R (OutE.fst o λd v H1 F1 g q o1=>?_)⟩
 obtain⟨b,rfl,o2⟩:=OutE.tru (F1:=F1) (H1:=H1) q o1
 refine⟨b,rfl,?_⟩
 cases b with
 | true=>exact ru H0 F0 ρ σ H1 F1 _ (R.grow g) o2
 | false=>exact o2.okI (R.grow g).fh (.bl _)
theorem zrB {rest:List Expr}(ha:XE X cl E a fa)(hb:XE X cl E (.BoolOp .Or (b::rest) pos) fb):XE X cl E (.BoolOp .Or (a::b::rest) pos) (fOr fa fb):=by
 obtain⟨t,pt,rt⟩:=ha.ex
 obtain⟨u,pu,ru⟩:=hb.ex
 refine XE'.out ⟨_,zrD pt pu,λH0 F0 ρ σ H F Q R o=>rt H0 F0 ρ σ H F _ R (OutE.fst o λd v H1 F1 g q o1=>?_)⟩
 obtain⟨b,rfl,o2⟩:=OutE.tru (F1:=F1) (H1:=H1) q o1
 refine⟨b,rfl,?_⟩
 cases b with
 | true=>exact o2.okI (R.grow g).fh (.bl _)
 | false=>exact ru H0 F0 ρ σ H1 F1 _ (R.grow g) o2
theorem zkN (ha:XE X cl E a fa):XE X cl E (.UnaryOp .Not a pos) (ze4 fa):=by
 obtain⟨t,pt,rt⟩:=ha.ex
 refine XE'.out ⟨_,zp6 pt,λH0 F0 ρ σ H F Q R o=>rt H0 F0 ρ σ H F _ R (OutE.fst o λd v H1 F1 g q o1=>?_)⟩
 obtain⟨b,rfl,o2⟩:=OutE.tru (F1:=F1) (H1:=H1) q o1
 exact⟨b,rfl,o2.okI (R.grow g).fh (.bl _)⟩
def mkT (ds:List D):Option D:=if ds.length<=1000000 then some (.tup ds) else none
def mkL (ds:List D):Option D:=if ds.length<=1000000 then some (.lst ds) else none
theorem sz6 (h:n<=1000000):n<=sizeLine:=by rw[laQ];omega
theorem zdN {x1}{fs:qQ4}(h:XA X cl E es fs):XE X cl E (.Tuple es x1 pos) (fO mkT fs):=by
 obtain⟨t,pt,rt⟩:=h.ex
 refine XE'.out ⟨_,zqG pt,λH0 F0 ρ σ H F Q R o=>rt H0 F0 ρ σ H F _ R (OutA.fst o λds vs H1 F1 g q o1=>?_)⟩
 unfold mkT at o1
 split at o1
 ·rename_i hl
  refine⟨sz6 (q.length▸hl),λp hp=>?_⟩
  have fh:=(R.grow g).fh
  exact o1 _ _ _ (Gr.new fh hp) (.tup (.inl (.inl z7)) (q.mono (Same.upd (fh.free hp))))
 ·exact o1.elim
theorem jJ {fs:qQ4}(h:XA X cl E es fs):XE X cl E (.List es pos) (fO mkL fs):=by
 obtain⟨t,pt,rt⟩:=h.ex
 refine XE'.out ⟨_,zj8 pt,λH0 F0 ρ σ H F Q R o=>rt H0 F0 ρ σ H F _ R (OutA.fst o λds vs H1 F1 g q o1=>?_)⟩
 unfold mkL at o1
 split at o1
 ·rename_i hl
  refine⟨sz6 (q.length▸hl),λp hp=>?_⟩
  have fh:=(R.grow g).fh
  exact o1 _ _ _ (Gr.new fh hp) (.lst (.inl (.inl z7)) (q.mono (Same.upd (fh.free hp))))
 ·exact o1.elim
def spD (K:qQ0)(cl:Nat->Addr)(fn:List D->Rs D)(n:Nat):Sp:=λvs H Q E=>∃F ds,Same F H/\Dts K cl F vs ds/\vs.length=n/\OutE K cl E H F H (fn ds) Q
def ari (n:Nat)(fn:List D->Rs D):List D->Rs D:=λds=>if ds.length=n then fn ds else .no
theorem zox {k:Nat}{fn:List D->Rs D}{p:Pos}{fs:qQ4}(G:FnOk X.prog X.w X.K X.mg X.base (CX1 X.prog X.w) k f fd ps (spD X.K cl fn n))(hr:Room k X.A)(hg:Gl X x)(hm:X.mg x=some (.ref f))(hk:PySem.W.keepIn X.K (.ref f)=true)(hb:Binds X.K fd ps [])(hx:zcL (CX1 X.prog X.w) X E)
  (ha:XA X cl E (e::es) fs) (he:starEach (e::es) X.env=(false,eval e X.env)::starEach es X.env) (hdb:(x == ("__debug__" : Str))=false:=by decide) (hpl:(backTo pos (starEach es X.env)).any (·.1)=false:=by rfl):XE X cl E (.Call (.Name x p) (e::es) [] pos) (fA (ari n fn) fs):=by
 obtain⟨t,pt,rt⟩:=ha.ex
 refine XE'.out ⟨_,zjg G hr hg hm hk hb .nil hx pt hdb he hpl,λH0 F0 ρ σ H F Q R o=>rt H0 F0 ρ σ H F _ R (OutA.fst o λds vs H1 F1 g q o1=>?_)⟩
 unfold ari at o1
 split at o1
 ·rename_i hl
  rw[lX]
  have R1:=R.grow g
  refine⟨F1,ds,R1.fh,q,by rw[q.length,hl],?_⟩
  cases e:fn ds with
  | ok d=>rw[e] at o1;exact o1
  | ex n=>rw[e] at o1;exact λH' s=>o1 H' (R1.gr.hh.trans s)
  | no=>rw[e] at o1;exact o1
 ·exact o1.elim
end
def D.fl:D->Bool
 | .non=>true
 | .bl _=>true
 | .int _=>true
 | .str _=>true
 | _=>false
def zaa:D->D->Option D
 | .int i,.int j=>some (.int (i+j))
 | _,_=>none
def zd0:D->D->Option D
 | .int i,.int j=>some (.int (i - j))
 | _,_=>none
instance (i:Int):Decidable (Sm i):=inferInstanceAs (Decidable (i.natAbs<2 ^ 4000))
def jP:D->D->Option D
 | .int i,.int j=>if Sm i/\Sm j then some (.int (i*j)) else none
 | _,_=>none
def zfR:D->D->Option D
 | .int i,.int j=>if 0<j then some (.int (i % j)) else none
 | _,_=>none
def zc7:D->D->Option D
 | .int i,.int j=>if 0<j/\Sm j then some (.int (i / j)) else none
 | _,_=>none
def zoh:D->D->Option D
 | .str l,.str m=>if l.length+m.length<=1000000 then some (.str (l++m)) else none
 | _,_=>none
def zra:D->D->Option D
 | .tup l,.tup m=>if l.length+m.length<=1000000 then some (.tup (l++m)) else none
 | _,_=>none
def ltI:D->D->Option D
 | .int i,.int j=>some (.bl (decide (i<j)))
 | _,_=>none
def leI:D->D->Option D
 | .int i,.int j=>some (.bl (decide (i<=j)))
 | _,_=>none
def gtI:D->D->Option D
 | .int i,.int j=>some (.bl (decide (j<i)))
 | _,_=>none
def geI:D->D->Option D
 | .int i,.int j=>some (.bl (decide (j<=i)))
 | _,_=>none
def ltS:D->D->Option D
 | .str l,.str m=>some (.bl (decide (l<m)))
 | _,_=>none
def eqD (neg:Bool)(a b:D):Option D:=if a.pl=true/\b.pl=true/\a.py.depth<=60 then some (.bl (if neg then !PyData.eqv a.py b.py else PyData.eqv a.py b.py)) else none
def inC (neg:Bool):D->D->Option D
 | .str [c],.str l=>some (.bl (if neg then !decide (c∈l) else decide (c∈l)))
 | _,_=>none
def ixD:D->D->Option D
 | .lst ds,.int i=>atI ds i
 | .tup ds,.int i=>atI ds i
 | .str l,.int i=>(atI l i).map λc=>.str [c]
 | _,_=>none
def zdm {α:Type}(xs:List α)(lo hi:Option Int):List α:=(xs.drop (HT.sIx xs.length 0 lo)).take (HT.sIx xs.length xs.length hi - HT.sIx xs.length 0 lo)
def slD:D->Option Int->Option Int->Option D
 | .lst ds,lo,hi=>some (.lst (zdm ds lo hi))
 | .tup ds,lo,hi=>some (.tup (zdm ds lo hi))
 | .str l,lo,hi=>some (.str (zdm l lo hi))
 | _,_,_=>none
section
variable {K:qQ0}{cl:Nat->Addr}{F H:Hp}
def I2 (f:Int->Int->Option D):D->D->Option D
 | .int i,.int j=>f i j
 | _,_=>none
theorem zmC {f:Int->Int->Option D}{a b d:D}(e:I2 f a b=some d):∃i j,a=.int i/\b=.int j/\f i j=some d:=by
 cases a with
 | int i =>
  cases b with
  | int j=>exact⟨i,j,rfl,rfl,e⟩
  | _=>cases e
 | _=>cases e
def S2 (f:List Nat->List Nat->Option D):D->D->Option D
 | .str i,.str j=>f i j
 | _,_=>none
theorem zm0 {f:List Nat->List Nat->Option D}{a b d:D}(e:S2 f a b=some d):∃i j,a=.str i/\b=.str j/\f i j=some d:=by
 cases a with
 | str i =>
  cases b with
  | str j=>exact⟨i,j,rfl,rfl,e⟩
  | _=>cases e
 | _=>cases e
theorem Dt.intE {i:Int}(q:Dt K cl F v (.int i)):v=.int i:=by cases q;rfl
theorem Dt.strE (q:Dt K cl F v (.str l)):v=.str (T l)/\TxtOk (T l):=by cases q with|str _ ok=>exact⟨rfl,ok⟩
theorem zpz {f:Int->Int->D}{r:Int->Int->V}(hf:∀{F:Hp} i j,Dt K cl F (r i j) (f i j)):Op2 K cl (rI0 r) (I2 λi j=>some (f i j)):=λF H x y a b d Q s qa qb e k=>by
 obtain⟨i,j,rfl,rfl,e1⟩:=zmC e
 obtain rfl:=qa.intE
 obtain rfl:=qb.intE
 obtain rfl:=lp e1
 exact⟨_,_,rfl,rfl,k _ _ _ (Gr.refl s) (hf i j)⟩
theorem zrz {c:Int->Int->Prop} [∀i j,Decidable (c i j)]{f:Int->Int->Int}:Op2 K cl (rI c λi j=>.int (f i j)) (I2 λi j=>if c i j then some (.int (f i j)) else none):=λF H x y a b d Q s qa qb e k=>by
 obtain⟨i,j,rfl,rfl,e1⟩:=zmC e
 obtain rfl:=qa.intE
 obtain rfl:=qb.intE
 by_cases h:c i j
 ·rw[lO h] at e1
  obtain rfl:=lp e1
  exact⟨_,_,rfl,rfl,h,k _ _ _ (Gr.refl s) (.int _)⟩
 ·rw[lY h] at e1;cases e1
theorem vY:Op2 K cl (rI0 λi j=>.int (i+j)) zaa:=zpz λ_ _=>.int _
theorem zdM:Op2 K cl (rI0 λi j=>.int (i - j)) zd0:=zpz λ_ _=>.int _
theorem xJ:Op2 K cl (rI (λi j=>Sm i/\Sm j) λi j=>.int (i*j)) jP:=zrz
theorem zbX:Op2 K cl (rI (λ_ j=>0<j) λi j=>.int (i % j)) zfR:=zrz
theorem kJ:Op2 K cl (rI (λ_ j=>0<j/\Sm j) λi j=>.int (i / j)) zc7:=zrz
theorem zkh:Op2 K cl (λx y H Q=>∃l m,x=.str (T l)/\y=.str (T m)/\l.length+m.length<=1000000/\Q (.str (T (l++m))) H) zoh:=λF H x y a b d Q s qa qb e k=>by
 obtain⟨l,m,rfl,rfl,e1⟩:=zm0 (f:=λl m=>if l.length+m.length<=1000000 then some (.str (l++m)) else none) e
 obtain⟨rfl,ok⟩:=qa.strE
 obtain⟨rfl,ok2⟩:=qb.strE
 split at e1
 ·rename_i h
  obtain rfl:=lp e1
  refine⟨_,_,rfl,rfl,h,k _ _ _ (Gr.refl s) (.str _ ?_)⟩
  rw[← zpq]
  exact TxtOk.app ok ok2 (by rw[zdq,zdq];exact h)
 ·cases e1
theorem zl0 {a b d:D}(e:zra a b=some d):∃l m,a=.tup l/\b=.tup m/\l.length+m.length<=1000000/\d=.tup (l++m):=by
 cases a with
 | tup l =>
  cases b with
  | tup m =>
   by_cases h:l.length+m.length<=1000000
   ·exact⟨l,m,rfl,rfl,h,(lp ((lO h).symm.trans e)).symm⟩
   ·cases (lY h).symm.trans e
  | _=>cases e
 | _=>cases e
theorem zmP:Op2 K cl (zpQ K) zra:=λF H x y a b d Q s qa qb e k=>by
 obtain⟨l,m,rfl,rfl,h,rfl⟩:=zl0 e
 cases qa with
 | tup qx dx =>
  cases qb with
  | tup qy dy =>
   refine⟨_,_,_,_,rfl,rfl,s.seqT qx,s.seqT qy,sz6 (by rw[dx.length,dy.length];exact h),λp H' hs q=>?_⟩
   obtain⟨F',g,q'⟩:=Gr.tup s hs q (dx.append dy)
   exact k _ _ _ g q'
theorem zro:Op2 K cl (rI0 λi j=>.bl (decide (i<j))) ltI:=zpz λ_ _=>.bl _
theorem zfm:Op2 K cl (rI0 λi j=>.bl (decide (i<=j))) leI:=zpz λ_ _=>.bl _
theorem zoM:Op2 K cl (rI0 λi j=>.bl (decide (j<i))) gtI:=zpz λ_ _=>.bl _
theorem zrI:Op2 K cl (λx y H Q=>∃i j,x=.str i/\y=.str j/\Q (.bl (decide (i.cps.toList<j.cps.toList))) H) ltS:=λF H x y a b d Q s qa qb e k=>by
 obtain⟨l,m,rfl,rfl,e1⟩:=zm0 (f:=λl m=>some (.bl (decide (l<m)))) e
 obtain⟨rfl,ok⟩:=qa.strE
 obtain⟨rfl,ok2⟩:=qb.strE
 obtain rfl:=lp e1
 refine⟨_,_,rfl,rfl,?_⟩
 rw[zbc,zbc]
 exact k _ _ _ (Gr.refl s) (.bl _)
theorem zq3:Op2 K cl (zsp K) (eqD false):=λF H x y a b d Q s qa qb e k=>by
 unfold eqD at e
 split at e
 ·rename_i h
  obtain rfl:=lp e
  exact⟨_,_,(qa.is h.1).mono s,(qb.is h.2.1).mono s,h.2.2,k _ _ _ (Gr.refl s) (.bl _)⟩
 ·cases e
theorem zhQ:Op2 K cl (zsn K) (eqD true):=λF H x y a b d Q s qa qb e k=>by
 unfold eqD at e
 split at e
 ·rename_i h
  obtain rfl:=lp e
  exact⟨_,_,(qa.is h.1).mono s,(qb.is h.2.1).mono s,h.2.2,k _ _ _ (Gr.refl s) (.bl _)⟩
 ·cases e
theorem znG {neg:Bool}{a b d:D}(e:inC neg a b=some d):∃c l,a=.str [c]/\b=.str l/\d=.bl (if neg then !decide (c∈l) else decide (c∈l)):=by
 cases a with
 | str l =>
  match l,e with
  | [c],e =>
   cases b with
   | str m=>exact⟨c,m,rfl,rfl,(lp e).symm⟩
   | _=>cases e
 | _=>cases e
theorem zrt:Op2 K cl zst (inC false):=λF H x y a b d Q s qa qb e k=>by
 obtain⟨c,l,rfl,rfl,rfl⟩:=znG e
 obtain⟨rfl,_⟩:=qa.strE
 obtain⟨rfl,_⟩:=qb.strE
 exact⟨c,l,rfl,rfl,k _ _ _ (Gr.refl s) (.bl _)⟩
theorem Dts.at {vs:List V}{ds:List D}{i:Int}{d:D}(q:Dts K cl F vs ds)(e:atI ds i=some d):∃v,atI vs i=some v/\Dt K cl F v d:=by
 unfold atI at e ⊢
 rw[q.length]
 cases h:ixN ds.length i with
 | none=>rw[h] at e;cases e
 | some j =>
  rw[h] at e
  exact q.get' e
theorem zje {m:List Nat}(ok:TxtOk (T l))(h:∀c∈m,c∈l)(hl:m.length<=1000000):TxtOk (T m):=by
 refine ze5 (λc hc=>?_) hl
 have a:(T l).cps.all (· < 0x110000)=true:=ok.1
 simp only[T,ldl,lag,lae] at a
 exact a c (h c hc)
theorem zrv {c:Nat}(ok:TxtOk (T l))(h:c∈l):TxtOk (T [c]):=zje ok (λd hd=>by rw[lK.mp hd];exact h) (Nat.le_add_left 1 999999)
theorem znr {a b d:D}(e:ixD a b=some d):∃i,b=.int i:=by
 cases b with
 | int i=>exact⟨i,rfl⟩
 | _=>cases a <;>cases e
theorem zsH:Op2 K cl (rIx K) ixD:=λF H x y a b d Q s qa qb e k=>by
 obtain⟨i,rfl⟩:=znr e
 obtain rfl:=qb.intE
 ·cases qa with
  | lst sq dq =>
   obtain⟨v,h1,h2⟩:=dq.at e
   exact .inl ⟨_,_,_,_,rfl,rfl,s.seq sq,h1,k _ _ _ (Gr.refl s) h2⟩
  | tup sq dq =>
   obtain⟨v,h1,h2⟩:=dq.at e
   exact .inr (.inl ⟨_,_,_,_,rfl,rfl,s.seqT sq,h1,k _ _ _ (Gr.refl s) h2⟩)
  | str l ok =>
   have e':(atI l i).map (λc=>D.str [c])=some d:=e
   cases h:atI l i with
   | none=>rw[h] at e';cases e'
   | some c =>
    rw[h] at e'
    obtain rfl:=lp e'
    refine .inr (.inr ⟨T l,i,c,rfl,rfl,sz6 ok.2,by rw[zbc];exact h,k _ _ _ (Gr.refl s) (.str [c] (zrv ok ?_))⟩)
    unfold atI at h
    cases h2:ixN l.length i with
    | none=>rw[h2] at h;cases h
    | some j=>rw[h2] at h;exact lad h
  | _=>cases e
end
def tDS (K:qQ0)(cl:Nat->Addr)(E:XK)(g:Rho->Out):TS:=λDn σ H=>∃H0 F0 ρ F,Rl K cl H0 F0 ρ σ H F/\OutS K cl E H0 F0 F (g ρ) Dn
def XS (X:Cx)(cl:Nat->Addr)(E:XK)(st:Stmt)(g:Rho->Out):Prop:=PS X st (tDS X.K cl E g)
def XSs (X:Cx)(cl:Nat->Addr)(E:XK)(st:List Stmt)(g:Rho->Out):Prop:=PSs X st (tDS X.K cl E g)
def sNx:Rho->Out:=λρ=>.nx ρ
def zO (g h:Rho->Out):Rho->Out:=λρ=>match g ρ with | .nx ρ'=>h ρ'|o=>o
def yI (f:qQ5):Rho->Out:=λρ=>match f ρ with | .ok d=>.rt d | .ex n=>.ex n | .no=>.no
def wY (f:qQ5):Rho->Out:=λρ=>match f ρ with | .ok _=>.nx ρ | .ex n=>.ex n | .no=>.no
def z6 (i:Nat)(f:qQ5):Rho->Out:=λρ=>match f ρ with | .ok d=>.nx (ρ.set i (.fz d)) | .ex n=>.ex n | .no=>.no
def sIf (ft:qQ6)(g h:Rho->Out):Rho->Out:=λρ=>match ft ρ with | .ok true=>g ρ | .ok false=>h ρ | .ex n=>.ex n | .no=>.no
def zb7 (i j:Nat)(f:qQ5):Rho->Out:=λρ=>match f ρ with | .ok (.tup [a,b])=>.nx ((ρ.set i (.fz a)).set j (.fz b)) | .ok _=>.no | .ex n=>.ex n | .no=>.no
def zfc (i:Nat)(g:Rho->Out):Rho->Out:=λρ=>match ρ[i]? with|some (.ow ds)=>g (ρ.set i (.fz (.lst ds)))|_=>.no
def uw (g:Rho->Out):Rho->Out:=λρ=>match g ρ with | .ex _=>.no|o=>o
def forD (i:Nat)(g:Rho->Out):List D->Rho->Out
 | [],ρ=>.nx ρ
 | d::ds,ρ=>match g (ρ.set i (.fz d)) with | .nx ρ'=>forD i g ds ρ' | .ct ρ'=>forD i g ds ρ' | .bk ρ'=>.nx ρ'|o=>o
def vz (i:Nat)(fi:qQ4)(g:Rho->Out):Rho->Out:=λρ=>match fi ρ with | .ok ds=>forD i g ds ρ | .ex n=>.ex n | .no=>.no
def whD (ft:qQ6)(g:Rho->Out):Nat->Rho->Out
 | 0,_=>.no
 | n+1,ρ=>match ft ρ with
  | .ok true=>(match g ρ with | .nx ρ'=>whD ft g n ρ' | .ct ρ'=>whD ft g n ρ' | .bk ρ'=>.nx ρ'|o=>o)
  | .ok false=>.nx ρ
  | .ex n=>.ex n
  | .no=>.no
def sWh (n:Nat)(ft:qQ6)(g:Rho->Out):Rho->Out:=whD ft g n
def owL (ρ:Rho)(i:Nat):Option (List D):=match ρ[i]? with|some (.ow ds)=>some ds|_=>none
theorem zh6 {ds:List D}(h:owL ρ i=some ds):ρ[i]? = some (.ow ds):=by
 unfold owL at h
 split at h
 ·rename_i e;rw[e,lp h]
 ·cases h
def zdD (i:Nat)(f:qQ5):Rho->Out:=λρ=>match owL ρ i with
 | some ds=>(match f ρ with | .ok d=>if ds.length<1000000 then .nx (ρ.set i (.ow (ds++[d]))) else .no | .ex n=>.ex n | .no=>.no)
 | none=>.no
section
variable {K:qQ0}{cl:Nat->Addr}{E:XK}{H0 F0 F F1:Hp}
theorem OutS.grow {o:Out}{Dn:Ends}(h:OutS K cl E H0 F0 F o Dn)(s:Same F F1):OutS K cl E H0 F0 F1 o Dn:=by
 cases o with
 | nx ρ=>exact λσ H F' R q=>h σ H F' R (s.trans q)
 | bk ρ=>exact λσ H F' R q=>h σ H F' R (s.trans q)
 | ct ρ=>exact λσ H F' R q=>h σ H F' R (s.trans q)
 | rt d=>exact h
 | ex n=>exact h
 | no=>exact h
end
section
variable {X:Cx}{cl:Nat->Addr}{E:XK}{st:Stmt}{rest:List Stmt}{g h:Rho->Out}{f:qQ5}{e:Expr}{pos:Pos}
def XS' (X:Cx)(cl:Nat->Addr)(E:XK)(st:Stmt)(g:Rho->Out):Prop:=∃t:TS,PS X st t/\∀(H0 F0:Hp) (ρ:Rho) (σ:St) (H F:Hp) (Dn:Ends),Rl X.K cl H0 F0 ρ σ H F->OutS X.K cl E H0 F0 F (g ρ) Dn->t Dn σ H
def XSs' (X:Cx)(cl:Nat->Addr)(E:XK)(st:List Stmt)(g:Rho->Out):Prop:=∃t:TS,PSs X st t/\∀(H0 F0:Hp) (ρ:Rho) (σ:St) (H F:Hp) (Dn:Ends),Rl X.K cl H0 F0 ρ σ H F->OutS X.K cl E H0 F0 F (g ρ) Dn->t Dn σ H
theorem XS.ex (h:XS X cl E st g):XS' X cl E st g:=⟨_,h,λH0 F0 ρ σ H F Dn R o=>⟨H0,F0,ρ,F,R,o⟩⟩
theorem XSs.ex (h:XSs X cl E rest g):XSs' X cl E rest g:=⟨_,h,λH0 F0 ρ σ H F Dn R o=>⟨H0,F0,ρ,F,R,o⟩⟩
theorem XS'.out (h:XS' X cl E st g):XS X cl E st g:=let ⟨_,pt,rt⟩:=h;λpins s σ H Dn I ⟨H0,F0,ρ,F,R,o⟩=>pt pins s σ H Dn I (rt H0 F0 ρ σ H F Dn R o)
theorem XSs'.out (h:XSs' X cl E rest g):XSs X cl E rest g:=let ⟨_,pt,rt⟩:=h;λpins s σ H Dn I ⟨H0,F0,ρ,F,R,o⟩=>pt pins s σ H Dn I (rt H0 F0 ρ σ H F Dn R o)
theorem yx:XSs X cl E [] sNx:=XSs'.out ⟨_,zoc,λH0 F0 ρ σ H F Dn R o=>o σ H F R (Same.refl _)⟩
theorem zA (h:XS X cl E st g):XSs X cl E [st] g:=let ⟨t,pt,rt⟩:=h.ex;XSs'.out ⟨t,zgz pt,rt⟩
theorem zq (h1:XS X cl E st g)(h2:XSs X cl E rest h):XSs X cl E (st::rest) (zO g h):=by
 obtain⟨t,pt,rt⟩:=h1.ex
 obtain⟨u,pu,ru⟩:=h2.ex
 refine XSs'.out ⟨_,zey pt pu,λH0 F0 ρ σ H F Dn R o=>rt H0 F0 ρ σ H F _ R ?_⟩
 unfold zO at o
 cases e:g ρ with
 | nx ρ'=>rw[e] at o;exact λσ' H' F' R' s=>ru H0 F0 ρ' σ' H' F' Dn R' (o.grow s)
 | bk ρ'=>rw[e] at o;exact o
 | ct ρ'=>rw[e] at o;exact o
 | rt d=>rw[e] at o;exact o
 | ex n=>rw[e] at o;exact o
 | no=>rw[e] at o;exact o
theorem zL (h:XE X cl E e f):XS X cl E (.Return (some e) pos) (yI f):=by
 obtain⟨t,pt,rt⟩:=h.ex
 refine XS'.out ⟨_,zi6 pt,λH0 F0 ρ σ H F Dn R o=>rt H0 F0 ρ σ H F _ R ?_⟩
 unfold yI at o
 cases e:f ρ with
 | ok d=>rw[e] at o;exact λv H' F' gg q=>o v H' F' (R.gr.trans gg) q
 | ex n=>rw[e] at o;exact o
 | no=>rw[e] at o;exact o
theorem uM (h:XE X cl E e f)(hs:swapsWith e none pos.line X.env=pure false:=by rfl):XS X cl E (.Expr e pos) (wY f):=by
 obtain⟨t,pt,rt⟩:=h.ex
 refine XS'.out ⟨_,zeL pt hs,λH0 F0 ρ σ H F Dn R o=>rt H0 F0 ρ σ H F _ R ?_⟩
 unfold wY at o
 cases e:f ρ with
 | ok d=>rw[e] at o;exact λv H' F' gg q=>o σ H' F' (R.grow gg) gg.ff
 | ex n=>rw[e] at o;exact o
 | no=>rw[e] at o;exact o
theorem zM (hN:X.N.Nodup)(hi:X.N[i]? = some x)(hx:Loc X.env.scope x)(he:XE X cl E e f)(hs:swapsWith e (some (.Name x pos')) pos.line X.env=pure false:=by rfl)(hf:X.fn x=true∨X.env.scope.names.lookup x=some .local:=by first|exact .inl rfl|exact .inr rfl|assumption) :
  XS X cl E (.Assign [.Name x pos'] e pos) (z6 i f):=by
 obtain⟨t,pt,rt⟩:=he.ex
 refine XS'.out ⟨_,zgh hN hi hx pt hs hf,λH0 F0 ρ σ H F Dn R o=>rt H0 F0 ρ σ H F _ R ?_⟩
 unfold z6 at o
 cases e:f ρ with
 | ok d=>rw[e] at o;exact λv H' F' gg q=>o _ H' F' ((R.grow gg).set q) gg.ff
 | ex n=>rw[e] at o;exact o
 | no=>rw[e] at o;exact o
theorem uy {a b:List Stmt}(hc:XT X cl E c ft)(ha:XSs X cl E a g)(hb:XSs X cl E b h):XS X cl E (.If c a b pos) (sIf ft g h):=by
 obtain⟨t,pt,rt⟩:=hc.ex
 obtain⟨u,pu,ru⟩:=ha.ex
 obtain⟨w,pw,rw'⟩:=hb.ex
 refine XS'.out ⟨_,zrW pt pu pw,λH0 F0 ρ σ H F Dn R o=>rt H0 F0 ρ σ H F _ R ?_⟩
 unfold sIf at o
 cases e:ft ρ with
 | ok b =>
  rw[e] at o
  intro H' F' gg
  cases b with
  | true=>exact ru H0 F0 ρ σ H' F' Dn (R.grow gg) (o.grow gg.ff)
  | false=>exact rw' H0 F0 ρ σ H' F' Dn (R.grow gg) (o.grow gg.ff)
 | ex n=>rw[e] at o;exact o
 | no=>rw[e] at o;exact o
theorem yW (h:XS X.nox cl E0 st g):XS X cl E st (uw g):=by
 obtain⟨t,pt,rt⟩:=h.ex
 refine XS'.out ⟨_,pt.nox,λH0 F0 ρ σ H F Dn R o=>rt H0 F0 ρ σ H F _ R ?_⟩
 unfold uw at o
 cases e:g ρ with
 | nx ρ'=>rw[e] at o;exact o
 | bk ρ'=>rw[e] at o;exact o
 | ct ρ'=>rw[e] at o;exact o
 | rt d=>rw[e] at o;exact o
 | ex n=>rw[e] at o;exact o.elim
 | no=>rw[e] at o;exact o
theorem zkf (h:XS X cl E st g):XS X cl E st (zfc i g):=by
 obtain⟨t,pt,rt⟩:=h.ex
 refine XS'.out ⟨_,pt,λH0 F0 ρ σ H F Dn R o=>?_⟩
 unfold zfc at o
 split at o
 ·rename_i ds e
  obtain⟨F',s,R'⟩:=R.ice e
  exact rt H0 F0 _ σ H F' Dn R' (o.grow s)
 ·exact o.elim
theorem zbg (n:Nat)(hp:PassesOwn (model X.prog X.w) X.A X.env X.xe)(hc:XT X cl E c ft)(hb:XSs X cl E body g):XS X cl E (.While c body [] pos) (sWh n ft g):=by
 obtain⟨t,pt,rt⟩:=hc.ex
 obtain⟨u,pu,ru⟩:=hb.ex
 refine XS'.out ⟨_,zma hp pt pu,λH0 F0 ρ σ H F Dn R o=>?_⟩
 refine⟨λm σ H=>∃ρ F',Rl X.K cl H0 F0 ρ σ H F'/\OutS X.K cl E H0 F0 F' (whD ft g m ρ) Dn,⟨n,ρ,F,R,o⟩,?_⟩
 rintro m σ1 H1 ⟨ρ1,F1,R1,o1⟩
 cases m with
 | zero=>exact o1.elim
 | succ m =>
  refine rt H0 F0 ρ1 σ1 H1 F1 _ R1 ?_
  unfold whD at o1
  cases e:ft ρ1 with
  | ok b =>
   rw[e] at o1
   intro H2 F2 gg
   have R2:=R1.grow gg
   cases b with
   | false=>exact o1 σ1 H2 F2 R2 gg.ff
   | true =>
    refine⟨λσ H=>∃ρ F',Rl X.K cl H0 F0 ρ σ H F'/\OutS X.K cl E H0 F0 F' (whD ft g m ρ) Dn,λσ' H' p=>⟨m,ldk _,p⟩,ru H0 F0 ρ1 σ1 H2 F2 _ R2 ?_⟩
    have o2:=o1.grow gg.ff
    cases e2:g ρ1 with
    | nx ρ'=>simp only[e2] at o2;exact λσ' H' F' R' s=>⟨ρ',F',R',o2.grow s⟩
    | ct ρ'=>simp only[e2] at o2;exact λσ' H' F' R' s=>⟨ρ',F',R',o2.grow s⟩
    | bk ρ'=>simp only[e2] at o2;exact o2
    | rt d=>simp only[e2] at o2;exact o2
    | ex n=>simp only[e2] at o2;exact o2
    | no=>simp only[e2] at o2;exact o2
  | ex n=>rw[e] at o1;exact o1
  | no=>rw[e] at o1;exact o1
def OutI (K:qQ0)(cl:Nat->Addr)(E:XK)(H0 F H:Hp)(r:Rs (List D))(Q:It->Hp->Prop):Prop :=
 match r with
 | .ok ds=>∀J G vs H' F',Gr F H F' H'->Wlk J G vs->(∀H'',Same F' H''->G H'')->Dts K cl F' vs ds->Q J H'
 | .ex n=>∀H',Same H0 H'->E (.ref (cl n)) none H'
 | .no=>False
def tDI (K:qQ0)(cl:Nat->Addr)(E:XK)(f:qQ4):TI:=λσ H Q=>∃H0 F0 ρ F,Rl K cl H0 F0 ρ σ H F/\OutI K cl E H0 F H (f ρ) Q
def XI (X:Cx)(cl:Nat->Addr)(E:XK)(tg e:Expr)(f:qQ4):Prop:=PI X tg e (tDI X.K cl E f)
theorem XI.mk {fi:qQ4}{t:TI}(pt:PI X tg e t)(rt:∀(H0 F0:Hp) (ρ:Rho) (σ:St) (H F:Hp) (Q:It->Hp->Prop),Rl X.K cl H0 F0 ρ σ H F->OutI X.K cl E H0 F H (fi ρ) Q->t σ H Q):XI X cl E tg e fi :=
 λpins s σ H Q I ⟨H0,F0,ρ,F,R,o⟩=>pt pins s σ H Q I (rt H0 F0 ρ σ H F Q R o)
def lsD:D->Option (List D)
 | .lst ds=>some ds
 | _=>none
def tpD:D->Option (List D)
 | .tup ds=>some ds
 | _=>none
def sgD:D->Option (List D)
 | .str l=>some (l.map λc=>.str [c])
 | _=>none
def fI (g:D->Option (List D))(f:qQ5):qQ4:=λρ=>(f ρ).bind λd=>match g d with|some ds=>.ok ds|none=>.no
theorem OutI.fst {K:qQ0}{r:Rs D}{k:D->Rs (List D)}{Q:It->Hp->Prop}(h:OutI K cl E H0 F H (r.bind k) Q)(z:∀d v H1 F1,Gr F H F1 H1->Dt K cl F1 v d->OutI K cl E H0 F1 H1 (k d) Q->P v H1):OutE K cl E H0 F H r P:=by
 cases r with
 | ok d =>
  refine λv H' F' g' q=>z d v H' F' g' q ?_
  have h':OutI K cl E H0 F H (k d) Q:=h
  cases e:k d with
  | ok ds=>rw[e] at h';exact λJ G vs H2 F2 g2=>h' J G vs H2 F2 (g'.trans g2)
  | ex n=>rw[e] at h';exact h'
  | no=>rw[e] at h';exact h'
 | ex n=>exact h
 | no=>exact h
theorem qC (h:XE X cl E e f):XI X cl E tg e (fI lsD f):=by
 obtain⟨t,pt,rt⟩:=h.ex
 refine XI.mk (zoz pt) λH0 F0 ρ σ H F Q R o=>rt H0 F0 ρ σ H F _ R (OutI.fst o λd v H1 F1 g q o1=>?_)
 cases q with
 | lst sq dq =>
  have fh:=(R.grow g).fh
  exact⟨_,rfl,⟨_,fh.seq sq⟩,o1 _ _ _ H1 F1 (Gr.refl fh) zlL (λH'' s=>s.seq sq) dq⟩
 | _=>exact o1.elim
theorem ur (h:XE X cl E e f):XI X cl E tg e (fI tpD f):=by
 obtain⟨t,pt,rt⟩:=h.ex
 refine XI.mk (zpU pt) λH0 F0 ρ σ H F Q R o=>rt H0 F0 ρ σ H F _ R (OutI.fst o λd v H1 F1 g q o1=>?_)
 cases q with
 | tup sq dq =>
  have fh:=(R.grow g).fh
  exact⟨_,rfl,⟨_,fh.seqT sq⟩,o1 _ _ _ H1 F1 (Gr.refl fh) zn7 (λH'' s=>s.seqT sq) dq⟩
 | _=>exact o1.elim
theorem zfK {K:qQ0}{F:Hp}:∀{l:List Nat},(∀c∈l,TxtOk (T [c]))->Dts K cl F (l.map λc=>V.str (T [c])) (l.map λc=>D.str [c])
 | [],_=>.nil
 | c::l,h=>.cons (.str [c] (h c (.head _))) (zfK λd hd=>h d (.tail _ hd))
theorem zh2 (h:XE X cl E e f):XI X cl E tg e (fI sgD f):=by
 obtain⟨t,pt,rt⟩:=h.ex
 refine XI.mk (zpI pt) λH0 F0 ρ σ H F Q R o=>rt H0 F0 ρ σ H F _ R (OutI.fst o λd v H1 F1 g q o1=>?_)
 cases q with
 | str l ok =>
  have fh:=(R.grow g).fh
  have w:=zoZ (x:=T l) (G:=λ_=>True)
  rw[zbc] at w
  exact⟨_,rfl,o1 _ _ _ H1 F1 (Gr.refl fh) w (λ_ _=>trivial) (zfK λc hc=>zrv ok hc)⟩
 | _=>exact o1.elim
def zfC:List D->Option (List D)
 | [.int j]=>if -(2 ^ 62)<=j/\j<2 ^ 62 then some ((List.range j.toNat).map λ(k:Nat)=>.int (k:Int)) else none
 | _=>none
def znJ:List D->Option (List D)
 | [.int i,.int j]=>if -(2 ^ 62)<=i/\i<2 ^ 62/\-(2 ^ 62)<=j/\j<2 ^ 62 then some ((List.range (j - i).toNat).map λ(k:Nat)=>.int (i+(k:Int))) else none
 | _=>none
def fR (g:List D->Option (List D))(fs:qQ4):qQ4:=λρ=>(fs ρ).bind λds=>match g ds with|some es=>.ok es|none=>.no
theorem OutI.fstA {K:qQ0}{r:Rs (List D)}{k:List D->Rs (List D)}{Q:It->Hp->Prop}{P:List V->Hp->Prop}(h:OutI K cl E H0 F H (r.bind k) Q)(z:∀d v H1 F1,Gr F H F1 H1->Dts K cl F1 v d->OutI K cl E H0 F1 H1 (k d) Q->P v H1):OutA K cl E H0 F H r P:=by
 cases r with
 | ok d =>
  refine λv H' F' g' q=>z d v H' F' g' q ?_
  have h':OutI K cl E H0 F H (k d) Q:=h
  cases e:k d with
  | ok ds=>rw[e] at h';exact λJ G vs H2 F2 g2=>h' J G vs H2 F2 (g'.trans g2)
  | ex n=>rw[e] at h';exact h'
  | no=>rw[e] at h';exact h'
 | ex n=>exact h
 | no=>exact h
theorem zcA {K:qQ0}{F:Hp}{α:Type}{v:α->V}{d:α->D}:∀{l:List α},(∀x∈l,Dt K cl F (v x) (d x))->Dts K cl F (l.map v) (l.map d)
 | [],_=>.nil
 | c::l,h=>.cons (h c (.head _)) (zcA λd hd=>h d (.tail _ hd))
theorem Dts.one {K:qQ0}{d:D}(q:Dts K cl F vs [d]):∃v,vs=[v]/\Dt K cl F v d:=by
 cases q with
 | cons q r=>cases r;exact⟨_,rfl,q⟩
theorem Dts.two {K:qQ0}{d e:D}(q:Dts K cl F vs [d,e]):∃v w,vs=[v,w]/\Dt K cl F v d/\Dt K cl F w e:=by
 cases q with
 | cons q r=>obtain⟨w,rfl,q2⟩:=r.one;exact⟨_,_,rfl,q,q2⟩
theorem wg {a:Expr}{p:Pos}{fs:qQ4}(hg:Gl X "range")(hm:X.mg "range" = none)(ha:XA X cl E [a] fs)(hs:starEach [a] X.env=[(false,eval a X.env)]):XI X cl E tg (.Call (.Name "range" p) [a] [] pos) (fR zfC fs):=by
 obtain⟨t,pt,rt⟩:=ha.ex
 refine XI.mk (zkB hg hm pt hs) λH0 F0 ρ σ H F Q R o=>rt H0 F0 ρ σ H F _ R (OutI.fstA o λd v H1 F1 g q o1=>?_)
 match d,q,o1 with
 | [.int j],q,o1 =>
  obtain⟨v',rfl,q1⟩:=q.one
  cases q1
  dsimp only [zfC] at o1
  by_cases h:-(2 ^ 62)<=j/\j<2 ^ 62
  ·rw[lO h] at o1
   refine⟨j,rfl,h.1,h.2,o1 _ (λ_=>True) _ H1 F1 (Gr.refl (R.grow g).fh) zfD (λ_ _=>trivial) (zcA λk _=>?_)⟩
   rw[Int.zero_add];exact .int _
  ·rw[lY h] at o1;exact o1.elim
theorem zcN {a:Expr}{p:Pos}{fs:qQ4}(hg:Gl X "range")(hm:X.mg "range" = none)(ha:XA X cl E [a,b] fs)(hs:starEach [a,b] X.env=[(false,eval a X.env),(false,eval b X.env)])(hs2:starEach [b] X.env=[(false,eval b X.env)]):XI X cl E tg (.Call (.Name "range" p) [a,b] [] pos) (fR znJ fs):=by
 obtain⟨t,pt,rt⟩:=ha.ex
 refine XI.mk (zjq hg hm pt hs hs2) λH0 F0 ρ σ H F Q R o=>rt H0 F0 ρ σ H F _ R (OutI.fstA o λd v H1 F1 g q o1=>?_)
 match d,q,o1 with
 | [.int i,.int j],q,o1 =>
  obtain⟨v,w,rfl,q1,q2⟩:=q.two
  cases q1;cases q2
  dsimp only [znJ] at o1
  by_cases h:-(2 ^ 62)<=i/\i<2 ^ 62/\-(2 ^ 62)<=j/\j<2 ^ 62
  ·rw[lO h] at o1
   exact⟨i,j,rfl,h,o1 _ (λ_=>True) _ H1 F1 (Gr.refl (R.grow g).fh) zfD (λ_ _=>trivial) (zcA λk _=>.int _)⟩
  ·rw[lY h] at o1;exact o1.elim
theorem yV {iter:Expr}{fi:qQ4}(hp:PassesOwn (model X.prog X.w) X.A X.env X.xe)(hc:X.calm=true)(hi:XI X cl E tg iter fi)(hg:PG X tg (vM i))(hb:XSs X cl E body g)(hs:∀x,foldedSetIterable iter X.env x=pure x:=by intro _;rfl):XS X cl E (.For tg iter body [] pos) (vz i fi g):=by
 obtain⟨u,pu,ru⟩:=hb.ex
 refine XS'.out ⟨_,zkw hp hc hi hg pu hs,λH0 F0 ρ σ H F Dn R o=>⟨H0,F0,ρ,F,R,?_⟩⟩
 unfold vz at o
 cases e:fi ρ with
 | ok ds =>
  rw[e] at o
  intro J G vs H1 F1 gg W hG dq
  refine zn5 W (λk σ H=>∃ρ' F',Rl X.K cl H0 F0 ρ' σ H F'/\Same F1 F'/\OutS X.K cl E H0 F0 F' (forD i g (ds.drop k) ρ') Dn) ⟨ρ,F1,R.grow gg,Same.refl _,o.grow gg.ff⟩ (λk σ' H' _ ⟨ρ',F',R',s',_⟩=>hG H' (s'.trans R'.fh)) ?_ ?_
  ·rintro k x σ' H' hx ⟨ρ',F',R',s',o'⟩
   obtain⟨d,hd,qd⟩:=dq.get hx
   have hdr:ds.drop k=d::ds.drop (k+1):=by
    obtain⟨hk,e2⟩:=lx.mp hd
    rw[lac hk,e2]
   rw[hdr] at o'
   unfold forD at o'
   refine ru H0 F0 _ _ H' F' _ (R'.set (qd.mono s')) ?_
   cases e2:g (ρ'.set i (.fz d)) with
   | nx ρ2=>simp only[e2] at o';exact λσ2 H2 F2 R2 s2=>⟨ρ2,F2,R2,s'.trans s2,o'.grow s2⟩
   | ct ρ2=>simp only[e2] at o';exact λσ2 H2 F2 R2 s2=>⟨ρ2,F2,R2,s'.trans s2,o'.grow s2⟩
   | bk ρ2=>simp only[e2] at o';exact o'
   | rt d=>simp only[e2] at o';exact o'
   | ex n=>simp only[e2] at o';exact o'
   | no=>simp only[e2] at o';exact o'
  ·rintro σ' H' ⟨ρ',F',R',s',o'⟩
   rw[laq (by rw[dq.length];exact lu _)] at o'
   exact o' σ' H' F' R' (Same.refl _)
 | ex n=>rw[e] at o;exact o
 | no=>rw[e] at o;exact o
end
def uW (n:Nat)(caps:List Nat)(ρ:Rho):Rho:=List.replicate n .no++caps.map λi=>match ρ[i]? with|some (.fz d)=>.fz d|_=>.no
def xU:qQ6:=λ_=>.ok true
def wX (ft:qQ6)(fe:qQ5)(ρ0:Rho):List D->Rs (List D)
 | []=>.ok []
 | d::ds=>match ft (ρ0.set 0 (.fz d)) with
  | .ok true=>(match fe (ρ0.set 0 (.fz d)) with | .ok e=>(wX ft fe ρ0 ds).bind λes=>.ok (e::es)|_=>.no)
  | .ok false=>wX ft fe ρ0 ds
  | _=>.no
def fCp (fi:qQ4)(ft:qQ6)(fe:qQ5)(caps:List Nat):qQ4:=λρ=>(fi ρ).bind λds=>if ds.length<=1000000 then wX ft fe (uW 1 caps ρ) ds else .no
def vX (fi:qQ4)(ft:qQ6)(fe:qQ5)(caps:List Nat):qQ5:=λρ=>(fCp fi ft fe caps ρ).bind λes=>.ok (.lst es)
def XTs (X:Cx)(cl:Nat->Addr)(E:XK)(ifs:List Expr)(f:qQ6):Prop:=PTs X ifs (tDB X.K cl E f)
section
variable {X:Cx}{cl:Nat->Addr}{E:XK}
theorem xV:XTs X cl E [] xU:=λpins s σ H Q I ⟨H0,F0,ρ,F,R,o⟩=>wpAny_tests_nil ⟨H,I,o H F (Gr.refl R.fh)⟩
theorem zj7 {f:qQ6}(h:XT X cl E c f):XTs X cl E [c] f:=λpins s σ H Q I hq=>wpAny_tests_one (h pins s σ H Q I hq)
theorem zbF {ft:qQ6}{fe:qQ5}{ρ0:Rho}:∀{ds:List D}{n:Nat},wX ft fe ρ0 ds≠.ex n
 | [],n=>λh=>by cases h
 | d :: ds,n=>λh=>by
  unfold wX at h
  split at h
  ·split at h
   ·cases e:wX ft fe ρ0 ds with
    | ok es=>rw[e] at h;cases h
    | ex m=>exact zbF e
    | no=>rw[e] at h;cases h
   ·cases h
  ·exact zbF h
  ·cases h
theorem Rl.cap {K:qQ0}(R:Rl K cl H0 F0 ρ σ H F)(own:List Str)(caps:List Nat):Rl K cl H F (uW own.length caps ρ) (zfh own caps σ) H F where
 gr:=Gr.refl R.fh
 len:=by simp[uW,zfh]
 fz := λi d e=>by
  unfold uW at e
  unfold zfh
  rcases lcK i own.length with h|h
  ·rw[laY (by simpa using h),lbl,lO h] at e
   cases e
  ·rw [laJ (by simpa using h),lck,lH] at e
   rw[laJ (by simpa using h),lD,lH]
   cases c:caps[i - own.length]? with
   | none=>rw[c] at e;cases e
   | some k =>
    rw[c] at e
    have e':=lp e
    dsimp only at e'
    split at e'
    ·rename_i d' z
     injection e' with e'
     subst e'
     obtain⟨v,h1,h2⟩:=R.fz k _ z
     exact⟨v,by show some ((σ[k]?).getD none)=some (some v);rw[h1];rfl,h2⟩
    ·cases e'
 own := λi s e o=>by
  exfalso
  unfold uW at e
  rcases lcK i own.length with h|h
  ·rw[laY (by simpa using h),lbl,lO h] at e
   injection e with e;subst e;cases o
  ·rw [laJ (by simpa using h),lck,lH] at e
   cases c:caps[i - own.length]? with
   | none=>rw[c] at e;cases e
   | some k =>
    rw[c] at e
    have e':=lp e
    dsimp only at e'
    split at e' <;>(subst e';cases o)
 ap := λi j s t a z1 z2 o1 o2 e1 e2=>by
  exfalso
  unfold uW at z1
  rcases lcK i own.length with h|h
  ·rw[laY (by simpa using h),lbl,lO h] at z1
   injection z1 with z1;subst z1;cases o1
  ·rw [laJ (by simpa using h),lck,lH] at z1
   cases c:caps[i - own.length]? with
   | none=>rw[c] at z1;cases z1
   | some k =>
    rw[c] at z1
    have e':=lp z1
    dsimp only at e'
    split at e' <;>(subst e';cases o1)
theorem zpm {K:qQ0}{caps:List Nat}{fe:qQ5}{ds es:List D}{J:It}{G:Hp->Prop}{Fn:List V->Hp->Prop}(R:Rl K cl H0 F0 ρ σ H F)(W:Wlk J G vs)(hG:∀H'',Same F H''->G H'')(dq:Dts K cl F vs ds)(hl:ds.length<=1000000)
  (hc:wX ft fe (uW 1 caps ρ) ds=.ok es) (k:∀ys H' F',Gr F H F' H'->Dts K cl F' ys es->Fn ys H'):zbT (vM 0) (tDB K cl E0 ft) (tDE K cl E0 fe) (zfh [x] caps σ) Fn J H:=by
 have hz:vs.length<=sizeLine:=sz6 (dq.length▸hl)
 refine zju W hz (λi ys H'=>∃F' es1 es2,Gr F H F' H'/\Dts K cl F' ys es1/\ys.length<=i/\es=es1++es2/\wX ft fe (uW 1 caps ρ) (ds.drop i)=.ok es2) ⟨F,[],es,Gr.refl R.fh,.nil,lu _,rfl,hc⟩ (λi ys H' _ ⟨F',_,_,g,_,h1,_⟩=>⟨hG H' (g.ff.trans g.fh),h1⟩) ?_ ?_
 ·rintro i v ys H' hv ⟨F',es1,es2,g,q1,hly,rfl,hc'⟩
  obtain⟨d,hd,qd⟩:=dq.get hv
  have hdr:ds.drop i=d::ds.drop (i+1):=by
   obtain⟨hk,e2⟩:=lx.mp hd
   rw[lac hk,e2]
  rw[hdr] at hc'
  unfold wX at hc'
  have R1:=(R.grow g).cap [x] caps
  have R2:Rl K cl H' F' ((uW 1 caps ρ).set 0 (.fz d)) ((zfh [x] caps σ).set 0 (some v)) H' F':=R1.set (qd.mono g.ff)
  refine⟨Kps.set rfl,H',F',_,F',R2,?_⟩
  cases e1:ft ((uW 1 caps ρ).set 0 (.fz d)) with
  | ok b =>
   rw[e1] at hc'
   intro H2 F2 g2
   cases b with
   | true =>
    rw[lO rfl]
    cases e2:fe ((uW 1 caps ρ).set 0 (.fz d)) with
    | ok e =>
     simp only[e2] at hc'
     refine⟨H',F',_,F2,R2.grow g2,?_⟩
     rw[e2]
     intro y H3 F3 g3 qy
     cases e3:wX ft fe (uW 1 caps ρ) (ds.drop (i+1)) with
     | ok es3 =>
      rw[e3] at hc'
      injection hc' with hc'
      exact⟨F3,es1++[e],es3,g.trans (g2.trans g3),(q1.mono (g2.ff.trans g3.ff)).append (.cons qy .nil),by simp;exact hly,by rw[← hc',lba];rfl,rfl⟩
     | ex n=>rw[e3] at hc';cases hc'
     | no=>rw[e3] at hc';cases hc'
    | ex n=>simp only[e2] at hc';cases hc'
    | no=>simp only[e2] at hc';cases hc'
   | false =>
    rw[lY lE]
    exact⟨F2,es1,es2,g.trans g2,q1.mono g2.ff,ld5 hly,rfl,hc'⟩
  | ex n=>rw[e1] at hc';cases hc'
  | no=>rw[e1] at hc';cases hc'
 ·rintro ys H' ⟨F',es1,es2,g,q1,hly,rfl,hc'⟩
  rw[laq (by rw[dq.length];exact lu _)] at hc'
  injection hc' with hc'
  rw[← hc',lX] at k
  exact k ys H' F' g q1
variable {scope:Scope}{x:Str}{caps:List Nat}{elt tg iter:Expr}{ifs:List Expr}{fi:qQ4}{ft:qQ6}{fe:qQ5}{pos:Pos}
structure CompD (X:Cx)(cl:Nat->Addr)(scope:Scope)(x:Str)(caps:List Nat)(tg:Expr)(ifs:List Expr)(elt:Expr)(ft:qQ6)(fe:qQ5):Prop where
 tgt:∀pins C ex s H,PG (cxC X pins scope [x] caps C ex s H) tg (vM 0)
 tst:∀pins C ex s H,XTs (cxC X pins scope [x] caps C ex s H) cl E0 ifs ft
 elm:∀pins C ex s H,XE (cxC X pins scope [x] caps C ex s H) cl E0 elt fe
theorem CompD.ci (h:CompD X cl scope x caps tg ifs elt ft fe):CompIn X scope [x] caps tg ifs elt (vM 0) (tDB X.K cl E0 ft) (tDE X.K cl E0 fe):=⟨h.tgt,h.tst,h.elm⟩
theorem OutI.comp {K:qQ0}{P:List V->Hp->Prop}(R:Rl K cl H0 F0 ρ σ H F)(o:OutA K cl E H0 F H (fCp fi ft fe caps ρ) P):OutI K cl E H0 F H (fi ρ) λJ H1=>zbT (vM 0) (tDB K cl E0 ft) (tDE K cl E0 fe) (zfh [x] caps σ) P J H1:=by
 unfold fCp at o
 cases e:fi ρ with
 | ok ds =>
  rw[e] at o
  have o1:OutA K cl E H0 F H (if ds.length<=1000000 then wX ft fe (uW 1 caps ρ) ds else .no) P:=o
  intro J G vs H1 F1 g W hG dq
  split at o1
  ·rename_i hl
   cases e2:wX ft fe (uW 1 caps ρ) ds with
   | ok es=>rw[e2] at o1;exact zpm (R.grow g) W hG dq hl e2 λys H' F' g' q=>o1 ys H' F' (g.trans g') q
   | ex n=>exact absurd e2 zbF
   | no=>rw[e2] at o1;exact o1.elim
  ·exact o1.elim
 | ex n=>rw[e] at o;exact o
 | no=>rw[e] at o;exact o
theorem uL (ok:CompOk X scope caps)(hc:X.calm=true)(hi:XI X cl E tg iter fi)(CI:CompD X cl scope x caps tg ifs elt ft fe)(hs:∀x,foldedSetIterable iter X.env x=pure x:=by intro _;rfl):XE X cl E (.ListComp elt [⟨tg,iter,ifs,0⟩] scope pos) (vX fi ft fe caps):=by
 refine XE'.out ⟨_,zhb ok hc hi CI.ci hs,λH0 F0 ρ σ H F Q R o=>⟨H0,F0,ρ,F,R,OutI.comp R ?_⟩⟩
 refine OutA.fst o λes ys H' F' g q o1=>?_
 intro p hp
 have fh:=(R.grow g).fh
 exact o1 _ _ _ (Gr.new fh hp) (.lst (.inl (.inl z7)) (q.mono (Same.upd (fh.free hp))))
def wK (j:Nat)(fs:qQ4):Rho->Out:=λρ=>match fs ρ with | .ok es=>.nx (ρ.set j (.fz (.lst es))) | .ex n=>.ex n | .no=>.no
def jq (j:Nat)(fs:qQ4):Rho->Out:=λρ=>match fs ρ with | .ok es=>.nx (ρ.set j (.ow es)) | .ex n=>.ex n | .no=>.no
theorem zbx {y:Str}{py spos:Pos}(hN:X.N.Nodup)(hj:X.N[j]? = some y)(hy:X.env.scope.names.lookup y=some .local)(ok:CompOk X scope caps)(hc:X.calm=true)(hi:XI X cl E tg iter fi)(CI:CompD X cl scope x caps tg ifs elt ft fe)
  (hsw:swapsWith (.ListComp elt [⟨tg,iter,ifs,0⟩] scope pos) (some (.Name y py)) spos.line X.env=pure true) (hs:∀x,foldedSetIterable iter X.env x=pure x:=by intro _;rfl):XS X cl E (.Assign [.Name y py] (.ListComp elt [⟨tg,iter,ifs,0⟩] scope pos) spos) (wK j (fCp fi ft fe caps)):=by
 refine XS'.out ⟨_,znN hN hj hy ok hc hi CI.ci hsw hs,λH0 F0 ρ σ H F Dn R o=>⟨H0,F0,ρ,F,R,OutI.comp R ?_⟩⟩
 unfold wK at o
 cases e:fCp fi ft fe caps ρ with
 | ok es =>
  rw[e] at o
  intro ys H' F' g q p hp
  have fh:=(R.grow g).fh
  have g2:Gr F' H' (upd F' p (.lst ys)) (upd H' p (.lst ys)):=Gr.new fh hp
  exact o _ _ _ (((R.grow g).grow g2).set (.lst (.inl (.inl z7)) (q.mono g2.ff))) (g.ff.trans g2.ff)
 | ex n=>rw[e] at o;exact o
 | no=>rw[e] at o;exact o
end
def Fn1 (K:qQ0)(cl:Nat->Addr)(r:List V->Hp->VK->Prop)(g:List D->Option D):Prop :=
 ∀(F H:Hp) (vs:List V) (ds:List D) (d:D) (Q:VK),Same F H->Dts K cl F vs ds->g ds=some d->(∀v H' F',Gr F H F' H'->Dt K cl F' v d->Q v H')->r vs H Q
def qN:List D->Option D
 | [.str l]=>some (.int l.length)
 | [.lst l]=>some (.int l.length)
 | [.tup l]=>some (.int l.length)
 | _=>none
def unB:D->Bool
 | .bl b=>b
 | _=>false
def isB:D->Bool
 | .bl _=>true
 | _=>false
def unS:D->List Nat
 | .str l=>l
 | _=>[]
def isS:D->Bool
 | .str _=>true
 | _=>false
def zn8:List D->Option D
 | [.lst ds]=>if ds.all isB=true then some (.bl (ds.all unB)) else none
 | _=>none
def zpy:List D->Option D
 | [.lst ds]=>if ds.all isB=true then some (.bl (ds.any unB)) else none
 | _=>none
def zem (ds:List D):Option (List D):=if ds.all isS=true/\ds.length<64 then some ((My.sortF (ds.map unS)).map .str) else none
def zgN:List D->Option (List D)
 | [.lst ds]=>zem ds
 | [.tup ds]=>zem ds
 | _=>none
def zny:List D->Option D
 | [.lst ds]=>some (.tup ds)
 | [.tup ds]=>some (.tup ds)
 | _=>none
def zo7:List D->Option (List D)
 | [.lst ds]=>some ds
 | [.tup ds]=>some ds
 | _=>none
def xY:D->D->Option D
 | .str l,.str m=>some (.bl (m.isPrefixOf l))
 | _,_=>none
def zd6 (g:PyData->Bool)(d:D):Option D:=if d.pl=true then some (.bl (g d.py)) else none
def isInt:PyData->Bool:=λd=>match d with | .int _=>true | .bool _=>true|_=>false
def isBool:PyData->Bool:=λd=>match d with | .bool _=>true|_=>false
def isStr:PyData->Bool:=λd=>match d with | .str _=>true|_=>false
def isTup:PyData->Bool:=λd=>match d with | .tuple _=>true|_=>false
section
variable {K:qQ0}{cl:Nat->Addr}{F H:Hp}
theorem Dts.bools:∀{vs:List V}{ds:List D},Dts K cl F vs ds->ds.all isB=true->vs=(ds.map unB).map V.bl
 | _,_,.nil,_=>rfl
 | _,_,.cons q r,h=>by
  rw[lbv,lG] at h
  have:=Dts.bools r h.2
  cases q <;>simp[isB] at h
  rw[this];rfl
theorem Dts.texts:∀{vs:List V}{ds:List D},Dts K cl F vs ds->ds.all isS=true->vs=vT (ds.map unS)/\(∀x∈ds.map unS,TxtOk (T x))/\ds=(ds.map unS).map .str
 | _,_,.nil,_=>⟨rfl,by simp,rfl⟩
 | _,_,.cons q r,h=>by
  rw[lbv,lG] at h
  obtain⟨e1,e2,e3⟩:=Dts.texts r h.2
  cases q with
  | str l ok =>
   refine⟨by rw[e1];rfl,λx hx=>?_,by rw[lr,lr,← e3];rfl⟩
   rw[lr] at hx
   rcases lz.mp hx with rfl|hx
   ·exact ok
   ·exact e2 x hx
  | _=>simp[isS] at h
theorem zfb (h:∀x∈ls,TxtOk (T x)):Dts K cl F (vT ls) (ls.map .str):=zcA λx hx=>.str x (h x hx)
theorem n_len:Fn1 K cl (λxs H Q=>∃x n,xs=[x]/\zsc K x H n/\Q (.int n) H) qN:=λF H vs ds d Q s q e k=>by
 match ds,q,e with
 | [.str l],q,e =>
  obtain⟨v,rfl,q1⟩:=q.one
  obtain rfl:=lp e
  cases q1 with
  | str l ok=>exact⟨_,l.length,rfl,⟨sz6 ok.2,(zdq l).symm⟩,k _ _ _ (Gr.refl s) (.int _)⟩
 | [.lst l],q,e =>
  obtain⟨v,rfl,q1⟩:=q.one
  obtain rfl:=lp e
  cases q1 with
  | lst sq dq=>exact⟨_,l.length,rfl,.inl ⟨_,s.seq sq,dq.length.symm⟩,k _ _ _ (Gr.refl s) (.int _)⟩
 | [.tup l],q,e =>
  obtain⟨v,rfl,q1⟩:=q.one
  obtain rfl:=lp e
  cases q1 with
  | tup sq dq=>exact⟨_,l.length,rfl,.inr ⟨_,s.seqT sq,dq.length.symm⟩,k _ _ _ (Gr.refl s) (.int _)⟩
theorem n_all:Fn1 K cl (λxs H Q=>∃(a:Addr) (bs:List Bool),xs=[.ref a]/\SqL K H a (bs.map V.bl)/\Q (.bl (bs.all id)) H) zn8:=λF H vs ds d Q s q e k=>by
 match ds,q,e with
 | [.lst l],q,e =>
  obtain⟨v,rfl,q1⟩:=q.one
  dsimp only [zn8] at e
  split at e
  ·rename_i h
   obtain rfl:=lp e
   cases q1 with
   | lst sq dq =>
    rw[dq.bools h] at sq
    refine⟨_,_,rfl,s.seq sq,?_⟩
    have:=k _ _ _ (Gr.refl s) (.bl (l.all unB))
    rwa [ldf]
  ·cases e
theorem n_any:Fn1 K cl (λxs H Q=>∃(a:Addr) (bs:List Bool),xs=[.ref a]/\SqL K H a (bs.map V.bl)/\Q (.bl (bs.any id)) H) zpy:=λF H vs ds d Q s q e k=>by
 match ds,q,e with
 | [.lst l],q,e =>
  obtain⟨v,rfl,q1⟩:=q.one
  dsimp only [zpy] at e
  split at e
  ·rename_i h
   obtain rfl:=lp e
   cases q1 with
   | lst sq dq =>
    rw[dq.bools h] at sq
    refine⟨_,_,rfl,s.seq sq,?_⟩
    have:=k _ _ _ (Gr.refl s) (.bl (l.any unB))
    rwa [leu]
  ·cases e
theorem ziA:Fn1 K cl (λxs H Q=>∃p ys,xs=[.ref p]/\((SqL K H p ys/\∀l,H l=none->Q (.ref l) (upd H l (.tup ys)))∨(SqT K H p ys/\Q (.ref p) H))) zny:=λF H vs ds d Q s q e k=>by
 match ds,q,e with
 | [.lst l],q,e =>
  obtain⟨v,rfl,q1⟩:=q.one
  obtain rfl:=lp e
  cases q1 with
  | lst sq dq=>exact⟨_,_,rfl,.inl ⟨s.seq sq,λp hp=>k _ _ _ (Gr.new s hp) (.tup (.inl (.inl z7)) (dq.mono (Same.upd (s.free hp))))⟩⟩
 | [.tup l],q,e =>
  obtain⟨v,rfl,q1⟩:=q.one
  obtain rfl:=lp e
  cases q1 with
  | tup sq dq=>exact⟨_,_,rfl,.inr ⟨s.seqT sq,k _ _ _ (Gr.refl s) (.tup sq dq)⟩⟩
end
section
variable {X:Cx}{cl:Nat->Addr}{E:XK}{e o:Expr}{es:List Expr}{fa fb:qQ5}{fs:qQ4}{x:Str}{p pos:Pos}
theorem zU {id:String}{r:List V->Hp->VK->Prop}{g:List D->Option D}(hc:ju X (.builtin id) r)(hF:Fn1 X.K cl r g)(hg:Gl X x)(hm:X.mg x=none)(hv:bootBuiltins x=some (.builtin id))(ha:XA X cl E (e::es) fs)(he:starEach (e::es) X.env=(false,eval e X.env)::starEach es X.env)(hn:x ≠ "__name__" := by decide)(hdb:(x == ("__debug__" : Str))=false:=by decide)(hpl:(backTo pos (starEach es X.env)).any (·.1)=false:=by rfl):XE X cl E (.Call (.Name x p) (e::es) [] pos) (fO g fs):=by
 obtain⟨t,pt,rt⟩:=ha.ex
 refine XE'.out ⟨_,zah hc hg hm hv pt hn hdb he hpl,λH0 F0 ρ σ H F Q R o=>rt H0 F0 ρ σ H F _ R (OutA.fst o λds vs H1 F1 g1 q o1=>?_)⟩
 obtain⟨z,hz,k⟩:=o1.lf
 exact hF F1 H1 vs ds z _ (R.grow g1).fh q hz k
theorem qW {T:String}{r:List V->Hp->VK->Prop}{g:List D->Option D}(hc:ju X (.type T) r)(hF:Fn1 X.K cl r g)(hg:Gl X x)(hm:X.mg x=none)(hv:bootBuiltins x=some (.type T))(ha:XA X cl E (e::es) fs)(he:starEach (e::es) X.env=(false,eval e X.env)::starEach es X.env)(hn:x ≠ "__name__" := by decide)(hdb:(x == ("__debug__" : Str))=false:=by decide)(hpl:(backTo pos (starEach es X.env)).any (·.1)=false:=by rfl):XE X cl E (.Call (.Name x p) (e::es) [] pos) (fO g fs):=by
 obtain⟨t,pt,rt⟩:=ha.ex
 refine XE'.out ⟨_,zfY hc hg hm hv pt hn hdb he hpl,λH0 F0 ρ σ H F Q R o=>rt H0 F0 ρ σ H F _ R (OutA.fst o λds vs H1 F1 g1 q o1=>?_)⟩
 obtain⟨z,hz,k⟩:=o1.lf
 exact hF F1 H1 vs ds z _ (R.grow g1).fh q hz k
theorem zfL {n:String}{g:PyData->Bool}(hk:∀d,PySem.W.kitOne X.K (.type (tyN d)) (.type n)=some (g d))(hg:Gl X "isinstance")(hm:X.mg "isinstance" = none)(ha:XE X cl E e fa)(hb:PE X b (tC (.ty n)))(h1:starEach [e,b] X.env=(false,eval e X.env)::starEach [b] X.env)(h2:starEach [b] X.env=(false,eval b X.env)::starEach [] X.env:=by rfl)(hpl:(backTo pos (starEach [b] X.env)).any (·.1)=false:=by rfl):XE X cl E (.Call (.Name "isinstance" p) [e,b] [] pos) (f1 (zd6 g) fa):=by
 obtain⟨t,pt,rt⟩:=ha.ex
 refine XE'.out ⟨_,zah zfy hg hm boot_isinstance (yQ pt (yQ hb uc h2) h1) (by decide) (by decide) h1 hpl,λH0 F0 ρ σ H F Q R o=>rt H0 F0 ρ σ H F _ R (OutE.fst o λd v H1 F1 g1 q o1=>?_)⟩
 obtain⟨z,hz,k⟩:=o1.lf
 unfold zd6 at hz
 split at hz
 ·rename_i hp
  obtain rfl:=lp hz
  have fh:=(R.grow g1).fh
  exact⟨v,d.py,n,g d.py,rfl,(q.is hp).mono fh,hk _,k _ _ _ (Gr.refl fh) (.bl _)⟩
 ·cases hz
def fM (chk:D->Bool)(g:D->D->Option D)(fa fb:qQ5):qQ5:=λρ=>(fa ρ).bind λa=>if chk a=true then(fb ρ).bind λb=>lf (g a b) else .no
structure Mth (X:Cx)(o e:Expr)(name:Str)(apos cpos:Pos):Prop where
 hs:starEach [e] X.env=(false,eval e X.env)::starEach [] X.env
 base:attributeBase o name X.env (eval o X.env)=eval o X.env
 few:((backTo cpos (starEach [e] X.env)).all (λx=>!x.1)&&(backToKw cpos (keywordEach [] X.env)).all (λx=>x.1.isSome)&&decide (([e]:List Expr).length+([]:List Keyword).length+(if ([]:List Keyword).isEmpty then 0 else 1)<30))=true
 line:(apos.endLine == cpos.line)=true
 plain:(backTo cpos (starEach [] X.env)).any (·.1)=false
theorem zbd (ho:XE X cl E o fa)(ha:XE X cl E e fb)(m:Mth X o e "startswith" apos cpos):XE X cl E (.Call (.Attribute o "startswith" apos) [e] [] cpos) (fM isS xY fa fb):=by
 obtain⟨t,pt,rt⟩:=ho.ex
 obtain⟨u,pu,ru⟩:=ha.ex
 refine XE'.out ⟨_,zgE PySem.F.plainAttrs_str PySem.F.slot_str_startswith PySem.F.type_str_startswith zkQ pt (yQ pu uc m.hs) m.base m.few m.line m.hs m.plain,λH0 F0 ρ σ H F Q R o=>rt H0 F0 ρ σ H F _ R (OutE.fst o λd v H1 F1 g1 q o1=>?_)⟩
 split at o1
 ·rename_i hd
  cases q with
  | str l ok =>
   refine⟨rfl,ru H0 F0 ρ σ H1 F1 _ (R.grow g1) (OutE.fst o1 λd2 v2 H2 F2 g2 q2 o2=>?_)⟩
   obtain⟨z,hz,k⟩:=o2.lf
   cases q2 with
   | str m ok2 =>
    obtain rfl:=lp hz
    exact⟨l,m,rfl,rfl,k _ _ _ (Gr.refl (R.grow (g1.trans g2)).fh) (.bl _)⟩
   | _=>cases hz
  | _=>cases hd
 ·exact o1.elim
theorem xO {a:Expr}(ha:XE X cl E a fa)(hb:XE X cl E b fb)(hs:zeN b):XE X cl E (.Subscript a b pos) (f2 ixD fa fb):=by
 obtain⟨t,pt,rt⟩:=ha.ex
 obtain⟨u,pu,ru⟩:=hb.ex
 refine XE'.out ⟨_,zpg zqw pt pu hs,λH0 F0 ρ σ H F Q R o=>rt H0 F0 ρ σ H F _ R (OutE.fst o λd v H1 F1 g1 q o1=>?_)⟩
 refine ru H0 F0 ρ σ H1 F1 _ (R.grow g1) (OutE.fst o1 λe w H2 F2 g2 q2 o2=>?_)
 obtain⟨z,hz,k⟩:=o2.lf
 exact zsH F2 H2 v w d e z _ (R.grow (g1.trans g2)).fh (q.mono g2.ff) q2 hz k
def xQ:Rho->Rs (Option Int):=λ_=>.ok none
def xN (f:qQ5):Rho->Rs (Option Int):=λρ=>(f ρ).bind λd=>match d with | .int i=>.ok (some i)|_=>.no
theorem vD:XO' X cl E none xQ:=⟨_,zn3,λH0 F0 ρ σ H F Q R o=>o H F (Gr.refl R.fh)⟩
theorem vP (h:XE X cl E e fa):XO' X cl E (some e) (xN fa):=by
 obtain⟨t,pt,rt⟩:=h.ex
 refine⟨_,zoI pt,λH0 F0 ρ σ H F Q R o=>rt H0 F0 ρ σ H F _ R ?_⟩
 unfold xN at o
 cases e:fa ρ with
 | ok d =>
  rw[e] at o
  intro v H' F' g q
  cases q with
  | int i=>exact⟨i,rfl,o H' F' g⟩
  | _=>exact o.elim
 | ex n=>rw[e] at o;exact o
 | no=>rw[e] at o;exact o
def fSl (fa:qQ5)(fl fh:Rho->Rs (Option Int)):qQ5:=λρ=>(fa ρ).bind λa=>(fl ρ).bind λl=>(fh ρ).bind λh=>lf (slD a l h)
theorem zlk (xs:List α)(lo hi:Option Int):(zdm xs lo hi).length<=xs.length:=by
 unfold zdm
 rw[lW,lb9];omega
theorem Dts.cut {K:qQ0}{ds:List D}(q:Dts K cl F vs ds)(lo hi:Option Int):Dts K cl F (zkE vs lo hi) (zdm ds lo hi):=by
 unfold zkE zdm
 rw[q.length]
 exact(q.drop _).take _
theorem wu {lo hi:Option Expr}{p2:Pos}{fl fh:Rho->Rs (Option Int)}(ha:XE X cl E e fa)(hl:XO' X cl E lo fl)(hh:XO' X cl E hi fh):XE X cl E (.Subscript e (.Slice lo hi none p2) pos) (fSl fa fl fh):=by
 obtain⟨t,pt,rt⟩:=ha.ex
 obtain⟨u,pu,ru⟩:=hl
 obtain⟨w,pw,rw'⟩:=hh
 refine XE'.out ⟨_,zlT (SlR.or zne (SlR.or zow zqv)) pt pu pw,λH0 F0 ρ σ H F Q R o=>rt H0 F0 ρ σ H F _ R (OutE.fst o λd v H1 F1 g1 q o1=>?_)⟩
 refine ru H0 F0 ρ σ H1 F1 _ (R.grow g1) ?_
 cases e1:fl ρ with
 | ok l =>
  rw[e1] at o1
  intro H2 F2 g2
  refine rw' H0 F0 ρ σ H2 F2 _ ((R.grow g1).grow g2) ?_
  cases e2:fh ρ with
  | ok h =>
   rw[e2] at o1
   intro H3 F3 g3
   have o3:OutE X.K cl E H0 F3 H3 (lf (slD d l h)) Q:=OutE.grow o1 (g2.trans g3)
   obtain⟨z,hz,k⟩:=o3.lf
   have fh:=(((R.grow g1).grow g2).grow g3).fh
   have q3:=q.mono (g2.trans g3).ff
   cases q3 with
   | lst sq dq =>
    obtain rfl:=lp hz
    refine .inl ⟨_,_,rfl,fh.seq sq,λp hp=>k _ _ _ (Gr.new fh hp) (.lst (.inl (.inl z7)) ((dq.cut l h).mono (Same.upd (fh.free hp))))⟩
   | tup sq dq =>
    obtain rfl:=lp hz
    refine .inr (.inl ⟨_,_,rfl,fh.seqT sq,λp H' hs qq=>?_⟩)
    obtain⟨F',g,q'⟩:=Gr.tup fh hs qq (dq.cut l h)
    exact k _ _ _ g q'
   | str ls ok =>
    obtain rfl:=lp hz
    refine .inr (.inr ⟨_,rfl,sz6 ok.2,?_⟩)
    rw[zbc,zdq]
    refine k _ _ _ (Gr.refl fh) (.str (zdm ls l h) (zje ok (λc hc=>?_) (laC (zlk _ _ _) (by have:=ok.2;rw[zdq] at this;exact this))))
    exact ldu (lbD hc)
   | _=>cases hz
  | ex n=>rw[e2] at o1;exact o1
  | no=>rw[e2] at o1;exact o1
 | ex n=>rw[e1] at o1;exact o1
 | no=>rw[e1] at o1;exact o1
end
def XL (X:Cx)(cl:Nat->Addr)(E:XK)(e:Expr)(f:qQ4):Prop :=
 ∃t:TE,PE X e t/\∀(H0 F0:Hp) (ρ:Rho) (σ:St) (H F:Hp) (Q:VK),Rl X.K cl H0 F0 ρ σ H F->OutA X.K cl E H0 F H (f ρ) (λvs H1=>∀p,H1 p=none->Q (.ref p) (upd H1 p (.lst vs)))->t σ H Q
def fLs (f:qQ4):qQ5:=λρ=>(f ρ).bind λds=>.ok (.lst ds)
section
variable {X:Cx}{cl:Nat->Addr}{E:XK}{e o:Expr}{es:List Expr}{fa fb:qQ5}{fs:qQ4}{x:Str}{p pos:Pos}
theorem XL.xe (h:XL X cl E e fs):XE X cl E e (fLs fs):=by
 obtain⟨t,pt,rt⟩:=h
 refine XE'.out ⟨_,pt,λH0 F0 ρ σ H F Q R o=>rt H0 F0 ρ σ H F _ R (OutA.fst o λds vs H1 F1 g q o1=>λp hp=>?_)⟩
 have fh:=(R.grow g).fh
 exact o1 _ _ _ (Gr.new fh hp) (.lst (.inl (.inl z7)) (q.mono (Same.upd (fh.free hp))))
def lf' {α:Type}:Option α->Rs α
 | some d=>.ok d
 | none=>.no
def fL (g:List D->Option (List D))(fs:qQ4):qQ4:=λρ=>(fs ρ).bind λas=>lf' (g as)
def fL2 (g:D->D->Option (List D))(fa fb:qQ5):qQ4:=λρ=>(fa ρ).bind λa=>(fb ρ).bind λb=>lf' (g a b)
theorem OutA.lf {K:qQ0}{o:Option (List D)}{Q:List V->Hp->Prop}(h:OutA K cl E H0 F H (lf' o) Q):∃d,o=some d/\∀v H' F',Gr F H F' H'->Dts K cl F' v d->Q v H':=by
 cases o with
 | none=>exact h.elim
 | some d=>exact⟨d,rfl,h⟩
def szL (ds:List D):Option (List D):=if ds.length<=1000000 then some ds else none
theorem zm5 (h:XA X cl E es fs):XL X cl E (.List es pos) (fL szL fs):=by
 obtain⟨t,pt,rt⟩:=h.ex
 refine⟨_,zj8 pt,λH0 F0 ρ σ H F Q R o=>rt H0 F0 ρ σ H F _ R (OutA.fstA o λds vs H1 F1 g q o1=>?_)⟩
 obtain⟨z,hz,k⟩:=o1.lf
 unfold szL at hz
 split at hz
 ·rename_i hl
  obtain rfl:=lp hz
  exact⟨sz6 (q.length▸hl),λp hp=>k vs H1 F1 (Gr.refl (R.grow g).fh) q p hp⟩
 ·cases hz
def zk3:D->D->Option (List D)
 | .lst l,.lst m=>if l.length+m.length<=1000000 then some (l++m) else none
 | _,_=>none
theorem zdS {K:qQ0}{a:Addr}{ds z:List D}{Q:List V->Hp->Prop}(fh:Same F H)(dq:Dts K cl F vs ds)(hz:zem ds=some z)(k:∀v H' F',Gr F H F' H'->Dts K cl F' v z->Q v H'):vs=vT (ds.map unS)/\(ds.map unS).length<64/\∀ms,ms.Perm (ds.map unS)->Srt ms->Q (vT ms) H:=by
 unfold zem at hz
 split at hz
 ·rename_i h
  obtain rfl:=lp hz
  obtain⟨e1,e2,e3⟩:=dq.texts h.1
  refine⟨e1,by rw[lD];exact h.2,λms pm sm=>?_⟩
  obtain rfl:=My.sortF_eq sm pm
  exact k _ _ _ (Gr.refl fh) (zfb λy hy=>e2 y (My.sortF_mem.mp hy))
 ·cases hz
theorem zfx (hg:Gl X "sorted")(hm:X.mg "sorted" = none)(hv:bootBuiltins "sorted" = some (.builtin "sorted"))(h:XE X cl E e fa)(hs:starEach [e] X.env=(false,eval e X.env)::starEach [] X.env)(hpl:(backTo pos (starEach [] X.env)).any (·.1)=false:=by rfl):XL X cl E (.Call (.Name "sorted" p) [e] [] pos) (fL zgN (zj fa zF)):=by
 obtain⟨t,pt,rt⟩:=(zf h zx hs).ex
 have hc:ju X (.builtin "sorted") (λxs H Q=>(∃a ls,xs=[.ref a]/\SqL X.K H a (vT ls)/\ls.length<64/\∀p ms,H p=none->ms.Perm ls->Srt ms->Q (.ref p) (upd H p (.lst (vT ms))))∨(∃a ls,xs=[.ref a]/\SqT X.K H a (vT ls)/\ls.length<64/\∀p ms,H p=none->ms.Perm ls->Srt ms->Q (.ref p) (upd H p (.lst (vT ms))))):=λpins s σ H xs us Q I r q=>by
  rcases q with q|q
  ·exact zgr pins s σ H xs us Q I r q
  ·exact ze9 pins s σ H xs us Q I r q
 refine⟨_,zah hc hg hm hv pt (by decide) (by decide) hs hpl,λH0 F0 ρ σ H F Q R o=>rt H0 F0 ρ σ H F _ R (OutA.fstA o λds vs H1 F1 g q o1=>?_)⟩
 obtain⟨z,hz,k⟩:=o1.lf
 have fh:=(R.grow g).fh
 match ds,q,hz with
 | [.lst l],q,hz =>
  obtain⟨v,rfl,q1⟩:=q.one
  cases q1 with
  | lst sq dq =>
   obtain⟨e1,e2,e3⟩:=zdS (a:=0) fh dq hz k
   rw[e1] at sq
   exact .inl ⟨_,_,rfl,fh.seq sq,e2,λp ms hp pm sm=>e3 ms pm sm p hp⟩
 | [.tup l],q,hz =>
  obtain⟨v,rfl,q1⟩:=q.one
  cases q1 with
  | tup sq dq =>
   obtain⟨e1,e2,e3⟩:=zdS (a:=0) fh dq hz k
   rw[e1] at sq
   exact .inr ⟨_,_,rfl,fh.seqT sq,e2,λp ms hp pm sm=>e3 ms pm sm p hp⟩
theorem zcE (hg:Gl X "list")(hm:X.mg "list" = none)(hv:bootBuiltins "list" = some (.type "list"))(h:XE X cl E e fa)(hs:starEach [e] X.env=(false,eval e X.env)::starEach [] X.env)(hpl:(backTo pos (starEach [] X.env)).any (·.1)=false:=by rfl):XL X cl E (.Call (.Name "list" p) [e] [] pos) (fL zo7 (zj fa zF)):=by
 obtain⟨t,pt,rt⟩:=(zf h zx hs).ex
 refine⟨_,zfY zfX hg hm hv pt (by decide) (by decide) hs hpl,λH0 F0 ρ σ H F Q R o=>rt H0 F0 ρ σ H F _ R (OutA.fstA o λds vs H1 F1 g q o1=>?_)⟩
 obtain⟨z,hz,k⟩:=o1.lf
 have fh:=(R.grow g).fh
 match ds,q,hz with
 | [.lst l],q,hz =>
  obtain⟨v,rfl,q1⟩:=q.one
  obtain rfl:=lp hz
  cases q1 with
  | lst sq dq=>exact⟨_,_,rfl,.inl (fh.seq sq),λp hp=>k _ _ _ (Gr.refl fh) dq p hp⟩
 | [.tup l],q,hz =>
  obtain⟨v,rfl,q1⟩:=q.one
  obtain rfl:=lp hz
  cases q1 with
  | tup sq dq=>exact⟨_,_,rfl,.inr (fh.seqT sq),λp hp=>k _ _ _ (Gr.refl fh) dq p hp⟩
theorem zhg (hN:X.N.Nodup)(hi:X.N[i]? = some x)(hx:Loc X.env.scope x)(he:XL X cl E e fs)(hs:swapsWith e (some (.Name x pos')) pos.line X.env=pure false:=by rfl)(hf:X.fn x=true∨X.env.scope.names.lookup x=some .local:=by first|exact .inl rfl|exact .inr rfl|assumption) :
  XS X cl E (.Assign [.Name x pos'] e pos) (jq i fs):=by
 obtain⟨t,pt,rt⟩:=he
 refine XS'.out ⟨_,zgh hN hi hx pt hs hf,λH0 F0 ρ σ H F Dn R o=>rt H0 F0 ρ σ H F _ R ?_⟩
 unfold jq at o
 cases e:fs ρ with
 | ok d=>rw[e] at o;exact λvs H' F' gg q p hp=>o _ _ F' ((R.grow gg).setO hp q) gg.ff
 | ex n=>rw[e] at o;exact o
 | no=>rw[e] at o;exact o
theorem zfk {o:Expr}(ho:PE X o (zj5 i))(ha:XE X cl E e fa)(m:Mth X o e "append" apos cpos)(hs:swapsWith (.Call (.Attribute o "append" apos) [e] [] cpos) none pos.line X.env=pure false:=by rfl):XS X cl E (.Expr (.Call (.Attribute o "append" apos) [e] [] cpos) pos) (zdD i fa):=by
 obtain⟨u,pu,ru⟩:=ha.ex
 refine XS'.out ⟨_,zeL (zgE lb8 PySem.F.slot_list_append PySem.F.type_list_append zj0 ho (yQ pu uc m.hs) m.base m.few m.line m.hs m.plain) hs,λH0 F0 ρ σ H F Dn R oo=>?_⟩
 unfold zdD at oo
 cases hw:owL ρ i with
 | none=>rw[hw] at oo;exact oo.elim
 | some ds =>
  rw[hw] at oo
  have hd:=zh6 hw
  obtain⟨a,vs,h1,h2,h3,h4,h5⟩:=R.ow i ds hd
  refine⟨.ref a,h1,.inl ⟨rfl,vs,.inl (.inl h2)⟩,ru H0 F0 ρ σ H F _ R ?_⟩
  cases e:fa ρ with
  | ok d =>
   simp only[e] at oo
   split at oo
   ·rename_i hl
    intro v H1 F1 g q
    have R1:=R.grow g
    refine⟨a,vs,v,rfl,rfl,g.hh _ _ h2,?_,?_⟩
    ·rw[h5.length,laQ];omega
    ·exact oo _ _ F1 (R1.put hd h1 ((h5.mono g.ff).append (.cons q .nil))) g.ff
   ·exact oo.elim
  | ex n=>simp only[e] at oo;exact oo
  | no=>simp only[e] at oo;exact oo.elim
def ziP (i j:Nat)(f:qQ5):Rho->Out:=λρ=>match owL ρ i with
 | some ds=>(match f ρ with | .ok (.int k)=>(if 0<=k/\k<1000000 then(match ds[k.toNat]? with|some d=>.nx ((ρ.set i (.ow (ds.eraseIdx k.toNat))).set j (.fz d))|none=>.no) else .no) | .ex n=>.ex n|_=>.no)
 | none=>.no
end
section
variable {X:Cx}{cl:Nat->Addr}{E:XK}{e o a b c:Expr}{es:List Expr}{fa fb fc:qQ5}{fs:qQ4}{x y:Str}{p pos:Pos}
def fCh (g g':D->D->Option D)(fa fb fc:qQ5):qQ5:=λρ=>(fa ρ).bind λa=>(fb ρ).bind λb=>(lf (g a b)).bind λz=>(tru z).bind λk=>if k=true then(fc ρ).bind λc=>lf (g' b c) else .ok (.bl false)
theorem zgi {g g':D->D->Option D}{ta tb tc:TE}(hg:Op2 X.K cl r g)(hg':Op2 X.K cl r' g')(R:Rl X.K cl H0 F0 ρ σ H F)
  (ra:∀(H0 F0:Hp) (ρ:Rho) (σ:St) (H F:Hp) (Q:VK),Rl X.K cl H0 F0 ρ σ H F->OutE X.K cl E H0 F H (fa ρ) Q->ta σ H Q) (rb:∀(H0 F0:Hp) (ρ:Rho) (σ:St) (H F:Hp) (Q:VK),Rl X.K cl H0 F0 ρ σ H F->OutE X.K cl E H0 F H (fb ρ) Q->tb σ H Q) (rc:∀(H0 F0:Hp) (ρ:Rho) (σ:St) (H F:Hp) (Q:VK),Rl X.K cl H0 F0 ρ σ H F->OutE X.K cl E H0 F H (fc ρ) Q->tc σ H Q)
  (o:OutE X.K cl E H0 F H (fCh g g' fa fb fc ρ) Q):zkD r r' ta tb tc σ H Q:=by
 refine ra H0 F0 ρ σ H F _ R (OutE.fst o λd v H1 F1 g1 q o1=>?_)
 refine rb H0 F0 ρ σ H1 F1 _ (R.grow g1) (OutE.fst o1 λd2 v2 H2 F2 g2 q2 o2=>?_)
 have R2:=(R.grow g1).grow g2
 cases hz:g d d2 with
 | none=>rw[hz] at o2;exact o2.elim
 | some z =>
  rw[hz] at o2
  refine hg F2 H2 v v2 d d2 z _ R2.fh (q.mono g2.ff) q2 hz λw H3 F3 g3 q3=>?_
  obtain⟨k,rfl,o3⟩:=OutE.tru (F1:=F3) (H1:=H3) q3 (OutE.grow (r:=(tru z).bind _) o2 g3)
  refine⟨k,rfl,?_⟩
  have R3:=R2.grow g3
  cases k with
  | false=>exact o3.okI R3.fh (.bl _)
  | true =>
   refine rc H0 F0 ρ σ H3 F3 _ R3 (OutE.fst o3 λd4 v4 H4 F4 g4 q4 o4=>?_)
   obtain⟨z2,hz2,k2⟩:=o4.lf
   exact hg' F4 H4 v2 v4 d2 d4 z2 _ (R3.grow g4).fh (q2.mono (g3.trans g4).ff) q4 hz2 k2
theorem zlm {op':CmpOp}{g g':D->D->Option D}(ho:OpR X (compareOp op) r)(ho':OpR X (compareOp op') r')(hg:Op2 X.K cl r g)(hg':Op2 X.K cl r' g')(ha:XE X cl E a fa)(hb:XE X cl E b fb)(hc:XE X cl E c fc)(hm:lastMarks [op,op'] [b,c]=false:=by with_unfolding_all rfl):XE X cl E (.Compare a [op,op'] [b,c] pos) (fCh g g' fa fb fc):=by
 obtain⟨t,pt,rt⟩:=ha.ex
 obtain⟨u,pu,ru⟩:=hb.ex
 obtain⟨w,pw,rw'⟩:=hc.ex
 exact XE'.out ⟨_,zlv ho ho' pt pu pw hm,λH0 F0 ρ σ H F Q R o=>zgi hg hg' R rt ru rw' o⟩
theorem zhM {op':CmpOp}{g g':D->D->Option D}(ho:OpR X (compareOp op) r)(ho':OpR X (compareOp op') r')(hg:Op2 X.K cl r g)(hg':Op2 X.K cl r' g')(ha:XE X cl E a fa)(hb:XE X cl E b fb)(hc:XE X cl E c fc)(hm:lastMarks [op,op'] [b,c]=false:=by with_unfolding_all rfl):XT X cl E (.Compare a [op,op'] [b,c] pos) (bT (fCh g g' fa fb fc)):=by
 obtain⟨t,pt,rt⟩:=ha.ex
 obtain⟨u,pu,ru⟩:=hb.ex
 obtain⟨w,pw,rw'⟩:=hc.ex
 exact XT'.out ⟨_,zlX ho ho' pt pu pw hm,λH0 F0 ρ σ H F Q R o=>zgi hg hg' R rt ru rw' (OutB.bT R o)⟩
def zsl (ls:qQ1):qQ1:=(ded (ls.map T)).map λx=>x.cps.toList
end
def zsg (ds:List D):Option (List D):=if ds.all isS=true/\ds.length<64 then some ((My.sortF (zsl (ds.map unS))).map .str) else none
def setD:D->Option (List D)
 | .lst ds=>zsg ds
 | .tup ds=>zsg ds
 | _=>none
def fL1 (g:D->Option (List D))(fa:qQ5):qQ4:=λρ=>(fa ρ).bind λa=>lf' (g a)
section
variable {X:Cx}{cl:Nat->Addr}{E:XK}{e o a b c:Expr}{es:List Expr}{fa fb fc:qQ5}{fs:qQ4}{x y:Str}{p pos:Pos}
def ji (i:Nat):Rho->Out:=λρ=>.nx (ρ.set i (.od []))
def odL (ρ:Rho)(i:Nat):Option (List (List Nat×D)):=match ρ[i]? with|some (.od ds)=>some ds|_=>none
theorem zbi {ds:List (List Nat×D)}(h:odL ρ i=some ds):ρ[i]? = some (.od ds):=by
 unfold odL at h
 split at h
 ·rename_i e;rw[e,lp h]
 ·cases h
def putD (kvs:List (List Nat×D))(k:List Nat)(v:D):List (List Nat×D):=if (kvs.any λkv=>decide (kv.1=k))=true then kvs.map (λkv=>if kv.1=k then(kv.1,v) else kv) else kvs++[(k,v)]
theorem Rl.setD {K:qQ0}{p:Addr}{vs:List (Key×V)}{ds:List (List Nat×D)}(R:Rl K cl H0 F0 ρ σ H F)(hp:H p=none)(h:Dks K cl F vs ds):Rl K cl H0 F0 (ρ.set i (.od ds)) (σ.set i (some (.ref p))) (upd H p (.dK vs)) F:=R.newOwn hp (.od h)
theorem Rl.putDk {K:qQ0}{a:Addr}{us:List (Key×V)}{ds es:List (List Nat×D)}(R:Rl K cl H0 F0 ρ σ H F)(hi:ρ[i]? = some (.od ds))(hs:σ[i]? = some (some (.ref a)))(h:Dks K cl F us es):Rl K cl H0 F0 (ρ.set i (.od es)) σ (upd H a (.dK us)) F:=R.chg hi rfl hs (.od h)
theorem Dks.any {K:qQ0}{k:List Nat}:∀{vs:List (Key×V)}{ds:List (List Nat×D)},Dks K cl F vs ds->(vs.any λkv=>decide (kv.1=Sum.inr (T k)))=(ds.any λkv=>decide (kv.1=k))
 | _,_,.nil=>rfl
 | _,_,.cons (l:=l) ok q r=>by
  rw[ldw,ldw,Dks.any r]
  congr 1
  by_cases h:l=k
  ·subst h;simp
  ·rw[lS h,lS]
   intro z;injection z with z;exact h (zkp z)
theorem Dks.mapPut {K:qQ0}{k:List Nat}{d:D}(hv:Dt K cl F v d):∀{vs:List (Key×V)}{ds:List (List Nat×D)},Dks K cl F vs ds->Dks K cl F (vs.map λkv=>if kv.1=Sum.inr (T k) then(kv.1,v) else kv) (ds.map λkv=>if kv.1=k then(kv.1,d) else kv)
 | _,_,.nil=>.nil
 | _,_,.cons (l:=l) ok q r=>by
  rw[lr,lr]
  by_cases h:l=k
  ·subst h;rw[lO rfl,lO rfl];exact .cons ok hv (Dks.mapPut hv r)
  ·have h':¬((Sum.inr (T l):Key)=Sum.inr (T k)):=λz=>by injection z with z;exact h (zkp z)
   rw[lY h,lY h'];exact .cons ok q (Dks.mapPut hv r)
theorem Dks.snoc {K:qQ0}{k:List Nat}{d:D}(hk:TxtOk (T k))(hv:Dt K cl F v d):∀{vs:List (Key×V)}{ds:List (List Nat×D)},Dks K cl F vs ds->Dks K cl F (vs++[(Sum.inr (T k),v)]) (ds++[(k,d)])
 | _,_,.nil=>.cons hk hv .nil
 | _,_,.cons ok q r=>.cons ok q (Dks.snoc hk hv r)
theorem Dks.put {K:qQ0}{k:List Nat}{d:D}{vs:List (Key×V)}{ds:List (List Nat×D)}(h:Dks K cl F vs ds)(hk:TxtOk (T k))(hv:Dt K cl F v d):Dks K cl F (putK vs (Sum.inr (T k)) v) (putD ds k d):=by
 unfold putK putD
 rw[h.any]
 split
 ·exact h.mapPut hv
 ·exact h.snoc hk hv
theorem Dks.length {K:qQ0}:∀{vs:List (Key×V)}{ds:List (List Nat×D)},Dks K cl F vs ds->vs.length=ds.length
 | _,_,.nil=>rfl
 | _,_,.cons _ _ r=>by simp[r.length]
theorem Dks.keys {K:qQ0}:∀{vs:List (Key×V)}{ds:List (List Nat×D)},Dks K cl F vs ds->vs.map (·.1)=(ds.map (·.1)).map λl=>(Sum.inr (T l):Key)
 | _,_,.nil=>rfl
 | _,_,.cons _ _ r=>by simp[r.keys]
theorem Dks.oks {K:qQ0}:∀{vs:List (Key×V)}{ds:List (List Nat×D)},Dks K cl F vs ds->∀l∈ds.map (·.1),TxtOk (T l)
 | _,_,.nil=>by simp
 | _,_,.cons ok _ r=>λl hl=>by
  rw[lr] at hl
  rcases lz.mp hl with rfl|hl
  ·exact ok
  ·exact r.oks l hl
theorem ze3 {dpos:Pos}(hN:X.N.Nodup)(hi:X.N[i]? = some x)(hx:Loc X.env.scope x)(hs:swapsWith (.Dict [] [] dpos) (some (.Name x pos')) pos.line X.env=pure false:=by rfl)(hf:X.fn x=true∨X.env.scope.names.lookup x=some .local:=by first|exact .inl rfl|exact .inr rfl|assumption) :
  XS X cl E (.Assign [.Name x pos'] (.Dict [] [] dpos) pos) (ji i) :=
 XS'.out ⟨_,zgh hN hi hx zlS hs hf,λH0 F0 ρ σ H F Dn R o=>λp hp=>o _ _ F (R.setD hp .nil) (Same.refl _)⟩
def zbL (i:Nat)(fk fv:qQ5):Rho->Out:=λρ=>match odL ρ i with
 | some ds=>(match fv ρ with
  | .ok v=>(match fk ρ with | .ok (.str k)=>if ds.length<1000000 then .nx (ρ.set i (.od (putD ds k v))) else .no | .ex n=>.ex n|_=>.no)
  | .ex n=>.ex n
  | .no=>.no)
 | none=>.no
theorem zel {k v:Expr}(hu:X.A.units+1<cLine)(ho:PE X o (zj5 i))(hk:XE X cl E k fa)(hv:XE X cl E v fb)(hs:swapsWith v (some (.Subscript o k pos')) pos.line X.env=pure false:=by rfl):XS X cl E (.Assign [.Subscript o k pos'] v pos) (zbL i fa fb):=by
 obtain⟨t,pt,rt⟩:=hk.ex
 obtain⟨u,pu,ru⟩:=hv.ex
 refine XS'.out ⟨_,zn2 hu ho pt pu hs,λH0 F0 ρ σ H F Dn R oo=>ru H0 F0 ρ σ H F _ R ?_⟩
 unfold zbL at oo
 cases hw:odL ρ i with
 | none=>rw[hw] at oo;exact oo.elim
 | some ds =>
  rw[hw] at oo
  have hd:=zbi hw
  cases ev:fb ρ with
  | ok dv =>
   simp only[ev] at oo
   intro vv H1 F1 g1 q1
   have R1:=R.grow g1
   obtain⟨ad,vs,h1,h2,h3,h4,h5⟩:=R1.od i ds hd
   refine⟨.ref ad,h1,rt H0 F0 ρ σ H1 F1 _ R1 ?_⟩
   cases ek:fa ρ with
   | ok dk =>
    simp only[ek] at oo
    intro kv H2 F2 g2 q2
    have R2:=R1.grow g2
    cases q2 with
    | str l ok =>
     dsimp only at oo
     split at oo
     ·rename_i hl
      have h5':=h5.mono g2.ff
      refine⟨ad,_,rfl,DPut.k (k:=Sum.inr (T l)) (g2.hh _ _ h2) (by rw[h5.length,laQ];omega),?_⟩
      exact oo _ _ F2 (R2.putDk hd h1 (h5'.put ok (q1.mono g2.ff))) (g1.ff.trans g2.ff)
     ·exact oo.elim
    | _=>exact oo.elim
   | ex n=>simp only[ek] at oo;exact oo
   | no=>simp only[ek] at oo;exact oo.elim
  | ex n=>simp only[ev] at oo;exact oo
  | no=>simp only[ev] at oo;exact oo.elim
def fSD (i:Nat):qQ4:=λρ=>match odL ρ i with
 | some ds=>if ds.length<64 then .ok ((My.sortF (ds.map (·.1))).map .str) else .no
 | none=>.no
theorem zii (hc:X.calm=true)(hg:Gl X "sorted")(hm:X.mg "sorted" = none)(ho:PE X e (zj5 i))(hs:starEach [e] X.env=(false,eval e X.env)::starEach [] X.env)(hpl:(backTo pos (starEach [] X.env)).any (·.1)=false:=by rfl):XL X cl E (.Call (.Name "sorted" p) [e] [] pos) (fSD i):=by
 refine⟨_,zah (zgj hc) hg hm boot_sorted (yQ ho uc hs) (by decide) (by decide) hs hpl,λH0 F0 ρ σ H F Q R oo=>?_⟩
 unfold fSD at oo
 cases hw:odL ρ i with
 | none=>rw[hw] at oo;exact oo.elim
 | some ds =>
  rw[hw] at oo
  dsimp only at oo
  split at oo
  ·rename_i hl
   obtain⟨ad,vs,h1,h2,h3,h4,h5⟩:=R.od i ds (zbi hw)
   refine⟨.ref ad,h1,ad,vs,ds.map (·.1),rfl,h2,h5.keys,by rw[lD];exact hl,λp ms hp pm sm=>?_⟩
   obtain rfl:=My.sortF_eq sm pm
   exact oo _ _ F (Gr.refl R.fh) (zfb λy hy=>h5.oks y (My.sortF_mem.mp hy)) p hp
  ·exact oo.elim
end
def sRs (n:Nat)(fs:qQ4):Rho->Out:=λρ=>match fs ρ with | .ok ds=>if ds.length<=3 then .ex n else .no | .ex m=>.ex m | .no=>.no
section
variable {P:Program}{w:World}{K:qQ0}{mg:qQ3}{base:Heap}{N:List Str}{qual:Str}{scope:Scope}{f:Addr}{cd:Value}{A:Around}{outer:List Env}{s₁:Shared}{H₁:Hp}{E:XK}{cl:Nat->Addr}
theorem zcp {e₀:Expr}{np:Pos}{fs:qQ4}(O:Own K mg x)(hO:O.C=cl n)(hg:Gl (zaW (CX1 P w) P w K mg base N qual scope f cd A outer s₁ H₁ E) x)(ha:XA (zaW (CX1 P w) P w K mg base N qual scope f cd A outer s₁ H₁ E) cl E [e₀] fs)
  (he:starEach [e₀] (zaW (CX1 P w) P w K mg base N qual scope f cd A outer s₁ H₁ E).env=(false,eval e₀ (zaW (CX1 P w) P w K mg base N qual scope f cd A outer s₁ H₁ E).env)::starEach [] (zaW (CX1 P w) P w K mg base N qual scope f cd A outer s₁ H₁ E).env) (hd:(x == ("__debug__" : Str))=false:=by decide) :
  XS (zaW (CX1 P w) P w K mg base N qual scope f cd A outer s₁ H₁ E) cl E (.Raise (some (.Call (.Name x np) [e₀] [] cpos)) none pos) (sRs n fs):=by
 obtain⟨t,pt,rt⟩:=ha.ex
 refine XS'.out ⟨_,zlZ O hg pt he rfl hd,λH0 F0 ρ σ H F Dn R o=>rt H0 F0 ρ σ H F _ R ?_⟩
 unfold sRs at o
 cases e:fs ρ with
 | ok ds =>
  rw[e] at o
  intro vs H' F' g q
  dsimp only at o
  split at o
  ·rename_i hl
   refine⟨q.length▸hl,?_⟩
   rw[hO]
   exact o H' (R.gr.hh.trans g.hh)
  ·exact o.elim
 | ex n=>rw[e] at o;exact o
 | no=>rw[e] at o;exact o
end
def zX (m:Nat)(g:Rho->Out)(ds:List D):Rs D:=match g (ds.map .fz++List.replicate (m - ds.length) .no) with | .nx _=>.ok .non | .rt d=>.ok d | .ex n=>.ex n|_=>.no
theorem Rl.start {K:qQ0}{ds:List D}(s:Same F H)(q:Dts K cl F vs ds):Rl K cl H F (ds.map .fz++List.replicate (N.length - ds.length) .no) (L2.start N vs) H F:=by
 have shape:∀(i:Nat) (s:Sl),(ds.map Sl.fz++List.replicate (N.length - ds.length) Sl.no)[i]? = some s->(∃d,s=.fz d/\ds[i]? = some d)∨s=.no:=λi s e=>by
  rcases lcK i ds.length with h|h
  ·rw[laY (by simpa using h),lH,lb h] at e
   exact .inl ⟨ds[i],(lp e).symm,lb h⟩
  ·rw[laJ (by simpa using h),lbl] at e
   split at e
   ·exact .inr (lp e).symm
   ·cases e
 refine⟨Gr.refl s,by unfold L2.start;simp[q.length],λi d e=>?_,λi d e o=>?_,λi j s t a z1 z2 o1 o2 e1 e2=>?_⟩
 ·rcases shape i _ e with⟨d',e1,e2⟩|e1
  ·injection e1 with e1;subst e1
   obtain⟨v,h1,h2⟩:=q.get' e2
   refine⟨v,?_,h2⟩
   unfold L2.start
   have hi:=(lx.mp h1).1
   rw[laY (by simpa using hi),lH,h1];rfl
  ·cases e1
 ·rcases shape i _ e with⟨d',rfl,_⟩|rfl <;>cases o
 ·rcases shape i _ z1 with⟨d',rfl,_⟩|rfl <;>cases o1
theorem fnD {P:Program}{K:qQ0}{base:Heap}{qual:Str}{st:Stmt}{k m:Nat}{g:Rho->Out}(Fu:Fun K x qual st f fd)(S:FnScope N ps (zu st))(hm:N.length=m)(hn:ps.length=n)
  (hb:∀(cdv:Value) (A:Around) (outer:List Env) (s:Shared) (H:Hp) (E:XK),Room k (A.deeper (envOfC qual (zu st) s.heap.objs.size f cdv))->XSs (zaW (CX1 P w) P w K mg base N qual (zu st) f cdv A outer s H E) cl E (wV st) g):FnOk P w K mg base (CX1 P w) (k+1) f fd ps (spD K cl (zX m g) n):=by
 subst hm hn
 refine Fu.okX S (λvs H Q E h=>h.choose_spec.choose_spec.2.2.1) λcdv A outer s H vs Q E hr h=>?_
 obtain⟨F,ds,sm,dq,hl,o⟩:=h
 refine⟨_,hb cdv A outer s H E hr,H,F,_,F,Rl.start (N:=N) sm dq,?_⟩
 unfold zX at o
 cases e:g (ds.map .fz++List.replicate (N.length - ds.length) .no) with
 | nx ρ=>rw[e] at o;exact λσ H' F' R _=>o .non H' F' R.gr .non
 | rt d=>rw[e] at o;exact λv H' F' gg q=>o v H' F' gg q
 | bk ρ=>rw[e] at o;exact o.elim
 | ct ρ=>rw[e] at o;exact o.elim
 | ex n=>rw[e] at o;exact o
 | no=>rw[e] at o;exact o
def forZ (i j:Nat)(g:Rho->Out):List D->List D->Rho->Out
 | d::ds,e::es,ρ=>match g ((ρ.set i (.fz d)).set j (.fz e)) with | .nx ρ'=>forZ i j g ds es ρ' | .ct ρ'=>forZ i j g ds es ρ' | .bk ρ'=>.nx ρ'|o=>o
 | _,_,ρ=>.nx ρ
def jo (i j:Nat)(fa fb:qQ5)(g:Rho->Out):Rho->Out:=λρ=>match (fa ρ),(fb ρ) with
 | .ok (.tup ds),.ok (.tup es)=>forZ i j g ds es ρ
 | _,_=>.no
section
variable {X:Cx}{cl:Nat->Addr}{E:XK}{a b:Expr}{fa fb:qQ5}{g:Rho->Out}{p pos zpos tp px py:Pos}{x y:Str}{k:Nat}{body:List Stmt}
theorem zkn {K:qQ0}{Dn:Ends}(o:OutS K cl E H0 F0 F (jo i j fa fb g ρ) Dn):∃ds es,fa ρ=.ok (.tup ds)/\fb ρ=.ok (.tup es)/\OutS K cl E H0 F0 F (forZ i j g ds es ρ) Dn:=by
 unfold jo at o
 split at o
 ·rename_i ds es e1 e2;exact⟨ds,es,e1,e2,o⟩
 ·exact o.elim
theorem zol (hp:PassesOwn (model X.prog X.w) X.A X.env X.xe)(hc:X.calm=true)(hz:Gl X "zip")(hm:X.mg "zip" = none)(ha:XE X cl E a fa)(hb:XE X cl E b fb)(hg:PG X (.Tuple [.Name x px,.Name y py] k tp) (ziQ X.K 2 (uF (vM i) (uF (vM j) ziN))))(hbd:XSs X cl E body g)(hs:starEach [a,b] X.env=[(false,eval a X.env),(false,eval b X.env)])(hs2:starEach [b] X.env=[(false,eval b X.env)]):XS X cl E (.For (.Tuple [.Name x px,.Name y py] k tp) (.Call (.Name "zip" p) [a,b] [] zpos) body [] pos) (jo i j fa fb g):=by
 obtain⟨t,pt,rt⟩:=ha.ex
 obtain⟨u,pu,ru⟩:=hb.ex
 obtain⟨w,pw,rw'⟩:=hbd.ex
 refine XS'.out ⟨_,zkw hp hc (zhH hz hm pt pu hs hs2) hg pw,λH0 F0 ρ σ H F Dn R o=>rt H0 F0 ρ σ H F _ R ?_⟩
 obtain⟨ds,es,e1,e2,o'⟩:=zkn o
 rw[e1]
 intro v1 H1 F1 g1 q1
 have R1:=R.grow g1
 refine ru H0 F0 ρ σ H1 F1 _ R1 ?_
 rw[e2]
 intro v2 H2 F2 g2 q2
 have R2:=R1.grow g2
 cases q1 with
 | tup sq1 dq1 =>
  cases q2 with
  | tup sq2 dq2 =>
   have sq1':=g2.ff.seqT sq1
   have dq1':=dq1.mono g2.ff
   refine⟨_,_,_,_,rfl,R2.fh.seqT sq1',R2.fh.seqT sq2,?_⟩
   refine znR (λm σ' H'=>∃ρ' F',Rl X.K cl H0 F0 ρ' σ' H' F'/\Same F2 F'/\OutS X.K cl E H0 F0 F' (forZ i j g (ds.drop m) (es.drop m) ρ') Dn) ⟨ρ,F2,R2,Same.refl _,o'.grow (g1.ff.trans g2.ff)⟩ (λm σ' H' ⟨ρ',F',R',s',_⟩=>⟨(s'.trans R'.fh).seqT sq1',(s'.trans R'.fh).seqT sq2⟩) ?_ ?_
   ·rintro m z1 z2 pp σ' H' hx hy hpp ⟨ρ',F',R',s',o3⟩
    obtain⟨c1,hd1,qd1⟩:=dq1'.get hx
    obtain⟨c2,hd2,qd2⟩:=dq2.get hy
    have r1:ds.drop m=c1::ds.drop (m+1):=by
     obtain⟨hk,e3⟩:=lx.mp hd1
     rw[lac hk,e3]
    have r2:es.drop m=c2::es.drop (m+1):=by
     obtain⟨hk,e3⟩:=lx.mp hd2
     rw[lac hk,e3]
    rw[r1,r2] at o3
    unfold forZ at o3
    have R4:=R'.grow (Gr.newO (o:=.tup [z1,z2]) R'.fh hpp)
    refine⟨pp,[z1,z2],rfl,.inl (.inl z7),rfl,z1,_,rfl,z2,_,rfl,rfl,rw' H0 F0 _ _ _ F' _ ((R4.set (qd1.mono s')).set (qd2.mono s')) ?_⟩
    cases e4:g ((ρ'.set i (.fz c1)).set j (.fz c2)) with
    | nx ρ2=>simp only[e4] at o3;exact λσ2 H2 F2 R2 s2=>⟨ρ2,F2,R2,s'.trans s2,o3.grow s2⟩
    | ct ρ2=>simp only[e4] at o3;exact λσ2 H2 F2 R2 s2=>⟨ρ2,F2,R2,s'.trans s2,o3.grow s2⟩
    | bk ρ2=>simp only[e4] at o3;exact o3
    | rt d=>simp only[e4] at o3;exact o3
    | ex n=>simp only[e4] at o3;exact o3
    | no=>simp only[e4] at o3;exact o3
   ·rintro σ' H' ⟨ρ',F',R',s',o3⟩
    rw[dq1'.length,dq2.length] at o3
    have e5:forZ i j g (ds.drop (min ds.length es.length)) (es.drop (min ds.length es.length)) ρ'=.nx ρ':=by
     rcases ldU ds.length es.length with h|h
     ·rw[lb6 h,laq (lu ds.length)];unfold forZ;rfl
     ·rw[ldq h,laq (lu es.length)]
      cases ds.drop es.length <;>(unfold forZ;rfl)
    rw[e5] at o3
    exact o3 σ' H' F' R' (Same.refl _)
def jt (ft:qQ6)(fe:qQ5)(ρ0:Rho):List D->List D->Rs (List D)
 | d::ds,c::cs=>match ft ((ρ0.set 0 (.fz d)).set 1 (.fz c)) with
  | .ok true=>(match fe ((ρ0.set 0 (.fz d)).set 1 (.fz c)) with | .ok e=>(jt ft fe ρ0 ds cs).bind λes=>.ok (e::es)|_=>.no)
  | .ok false=>jt ft fe ρ0 ds cs
  | _=>.no
 | _,_=>.ok []
def fCz (fa fb:qQ5)(ft:qQ6)(fe:qQ5)(caps:List Nat):qQ4:=λρ=>match fa ρ,fb ρ with
 | .ok (.tup ds),.ok (.tup cs)=>(match jt ft fe (uW 2 caps ρ) ds cs with | .ok es=>if ds.length<=1000000 then .ok es else .no|_=>.no)
 | _,_=>.no
variable {scope:Scope}{caps:List Nat}{elt:Expr}{ifs:List Expr}{ft:qQ6}{fe:qQ5}
structure CompZ (X:Cx)(cl:Nat->Addr)(scope:Scope)(x y:Str)(caps:List Nat)(tg:Expr)(ifs:List Expr)(elt:Expr)(ft:qQ6)(fe:qQ5):Prop where
 tgt:∀pins C ex s H,PG (cxC X pins scope [x,y] caps C ex s H) tg (ziQ X.K 2 (uF (vM 0) (uF (vM 1) ziN)))
 tst:∀pins C ex s H,XTs (cxC X pins scope [x,y] caps C ex s H) cl E0 ifs ft
 elm:∀pins C ex s H,XE (cxC X pins scope [x,y] caps C ex s H) cl E0 elt fe
theorem zoV {K:qQ0}{Q:List V->Hp->Prop}(o:OutA K cl E H0 F H (fCz fa fb ft fe caps ρ) Q):∃ds cs es,fa ρ=.ok (.tup ds)/\fb ρ=.ok (.tup cs)/\jt ft fe (uW 2 caps ρ) ds cs=.ok es/\ds.length<=1000000/\OutA K cl E H0 F H (.ok es) Q:=by
 unfold fCz at o
 split at o
 ·rename_i ds cs e1 e2
  split at o
  ·rename_i es e3
   split at o
   ·rename_i hl;exact⟨ds,cs,es,e1,e2,e3,hl,o⟩
   ·exact o.elim
  ·exact o.elim
 ·exact o.elim
theorem zlQ (ok:CompOk X scope caps)(hc:X.calm=true)(hz:Gl X "zip")(hm:X.mg "zip" = none)(ha:XE X cl E a fa)(hb:XE X cl E b fb)(CI:CompZ X cl scope x y caps (.Tuple [.Name x px,.Name y py] k tp) ifs elt ft fe)(hs:starEach [a,b] X.env=[(false,eval a X.env),(false,eval b X.env)])(hs2:starEach [b] X.env=[(false,eval b X.env)]) :
  XL X cl E (.ListComp elt [⟨.Tuple [.Name x px,.Name y py] k tp,.Call (.Name "zip" p) [a,b] [] zpos,ifs,0⟩] scope pos) (fCz fa fb ft fe caps):=by
 obtain⟨t,pt,rt⟩:=ha.ex
 obtain⟨u,pu,ru⟩:=hb.ex
 refine⟨_,zhb ok hc (zhH hz hm pt pu hs hs2) (g:=ziQ X.K 2 (uF (vM 0) (uF (vM 1) ziN))) (tt:=tDB X.K cl E0 ft) (te:=tDE X.K cl E0 fe) ⟨CI.tgt,CI.tst,CI.elm⟩,λH0 F0 ρ σ H F Q R o=>rt H0 F0 ρ σ H F _ R ?_⟩
 obtain⟨ds,cs,es,e1,e2,hcz,hl,o⟩:=zoV o
 rw[e1]
 intro v1 H1 F1 g1 q1
 have R1:=R.grow g1
 refine ru H0 F0 ρ σ H1 F1 _ R1 ?_
 rw[e2]
 intro v2 H2 F2 g2 q2
 have R2:=R1.grow g2
 cases q1 with
 | tup sq1 dq1 =>
  cases q2 with
  | tup sq2 dq2 =>
   have sq1':=g2.ff.seqT sq1
   have dq1':=dq1.mono g2.ff
   refine⟨_,_,_,_,rfl,R2.fh.seqT sq1',R2.fh.seqT sq2,?_⟩
   refine zkl (sz6 (dq1'.length▸hl)) (λm ys H'=>∃F' es1 es2,Gr F2 H2 F' H'/\Dts X.K cl F' ys es1/\ys.length<=m/\es=es1++es2/\jt ft fe (uW 2 caps ρ) (ds.drop m) (cs.drop m)=.ok es2) ⟨F2,[],es,Gr.refl R2.fh,.nil,lu _,rfl,hcz⟩ (λm ys H' ⟨F',_,_,gg,_,h1,_⟩=>⟨(gg.ff.trans gg.fh).seqT sq1',(gg.ff.trans gg.fh).seqT sq2,h1⟩) ?_ ?_
   ·rintro m z1 z2 pp ys H' hx hy hpp ⟨F',es1,es2,gg,qs,hly,rfl,hc'⟩
    obtain⟨c1,hd1,qd1⟩:=dq1'.get hx
    obtain⟨c2,hd2,qd2⟩:=dq2.get hy
    have r1:ds.drop m=c1::ds.drop (m+1):=by
     obtain⟨hk,e3⟩:=lx.mp hd1
     rw[lac hk,e3]
    have r2:cs.drop m=c2::cs.drop (m+1):=by
     obtain⟨hk,e3⟩:=lx.mp hd2
     rw[lac hk,e3]
    rw[r1,r2] at hc'
    unfold jt at hc'
    have gz:Gr F' H' F' (upd H' pp (.tup [z1,z2])):=Gr.newO (gg.fh) hpp
    have Rz:=((R2.grow gg).grow gz).cap [x,y] caps
    have Rw:Rl X.K cl (upd H' pp (.tup [z1,z2])) F' (((uW 2 caps ρ).set 0 (.fz c1)).set 1 (.fz c2)) (((zfh [x,y] caps σ).set 0 (some z1)).set 1 (some z2)) (upd H' pp (.tup [z1,z2])) F':=(Rz.set (qd1.mono gg.ff)).set (qd2.mono gg.ff)
    refine⟨pp,[z1,z2],rfl,.inl (.inl z7),rfl,z1,_,rfl,z2,_,rfl,rfl,?_,_,F',_,F',Rw,?_⟩
    ·exact(Kps.set rfl).trans (Kps.set rfl)
    ·cases e3:ft (((uW 2 caps ρ).set 0 (.fz c1)).set 1 (.fz c2)) with
     | ok bb =>
      rw[e3] at hc'
      intro H3 F3 g3
      cases bb with
      | true =>
       rw[lO rfl]
       cases e4:fe (((uW 2 caps ρ).set 0 (.fz c1)).set 1 (.fz c2)) with
       | ok ee =>
        simp only[e4] at hc'
        refine⟨_,F',_,F3,Rw.grow g3,?_⟩
        rw[e4]
        intro yy H4 F4 g4 qy
        cases e5:jt ft fe (uW 2 caps ρ) (ds.drop (m+1)) (cs.drop (m+1)) with
        | ok es3 =>
         rw[e5] at hc'
         injection hc' with hc'
         exact⟨F4,es1++[ee],es3,gg.trans (gz.trans (g3.trans g4)),(qs.mono (g3.ff.trans g4.ff)).append (.cons qy .nil),by simp;exact hly,by rw[← hc',lba];rfl,rfl⟩
        | ex n=>rw[e5] at hc';cases hc'
        | no=>rw[e5] at hc';cases hc'
       | ex n=>simp only[e4] at hc';cases hc'
       | no=>simp only[e4] at hc';cases hc'
      | false =>
       rw[lY lE]
       exact⟨F3,es1,es2,gg.trans (gz.trans g3),qs.mono g3.ff,ld5 hly,rfl,hc'⟩
     | ex n=>rw[e3] at hc';cases hc'
     | no=>rw[e3] at hc';cases hc'
   ·rintro ys H' ⟨F',es1,es2,gg,qs,hly,rfl,hc'⟩
    rw[dq1'.length,dq2.length] at hc'
    have e5:jt ft fe (uW 2 caps ρ) (ds.drop (min ds.length cs.length)) (cs.drop (min ds.length cs.length))=.ok []:=by
     rcases ldU ds.length cs.length with h|h
     ·rw[lb6 h,laq (lu ds.length)];unfold jt;rfl
     ·rw[ldq h,laq (lu cs.length)]
      cases ds.drop cs.length <;>(unfold jt;rfl)
    rw[e5] at hc'
    injection hc' with hc'
    rw[← hc',lX] at o
    exact o ys H' F' (g1.trans (g2.trans gg)) qs
end
def zsk:D->Option D
 | .int i=>some (.int (-i))
 | _=>none
def zq0:D->D->Option (List D)
 | .lst l,.int n=>if 0<=n/\n<=1000/\l.length<=1000 then some (List.replicate n.toNat l).flatten else none
 | _,_=>none
section
variable {X:Cx}{cl:Nat->Addr}{E:XK}{e a b:Expr}{fa fb:qQ5}{pos:Pos}{st:Stmt}
theorem zpx (h:XE X cl E a fa):XE X cl E (.UnaryOp .USub a pos) (f1 zsk fa):=by
 obtain⟨t,pt,rt⟩:=h.ex
 refine XE'.out ⟨_,zrj zp8 pt,λH0 F0 ρ σ H F Q R o=>rt H0 F0 ρ σ H F _ R (OutE.fst o λd v H1 F1 g q o1=>?_)⟩
 obtain⟨z,hz,k⟩:=o1.lf
 cases q with
 | int i=>obtain rfl:=lp hz;exact⟨i,rfl,k _ _ _ (Gr.refl (R.grow g).fh) (.int _)⟩
 | _=>cases hz
theorem Dt.flatAny {K:qQ0}{F':Hp}{d:D}(q:Dt K cl F v d)(h:d.fl=true):Dt K cl F' v d:=by
 cases q with
 | non=>exact .non
 | bl b=>exact .bl b
 | int i=>exact .int i
 | str l ok=>exact .str l ok
 | _=>cases h
variable {scope:Scope}{x:Str}{caps:List Nat}{elt tg iter:Expr}{ifs:List Expr}{fi:qQ4}{ft:qQ6}{fe:qQ5}
def zrU (K:qQ0):R2:=λx y H Q=>∃l b xs zs,x=.ref l/\y=.ref b/\SqL K H l xs/\SqL K H b zs/\xs.length+zs.length<=sizeLine/\∀p,H p=none->Q (.ref p) (upd H p (.lst (xs++zs)))
theorem zoU:OpR X (binaryOp .Add) (zrU X.K):=by
 intro pins s σ H x y v u Q I rx ry h
 obtain⟨l,b,xs,zs,rfl,rfl,hH,hB,hz,q⟩:=h
 cases rx
 cases ry
 obtain⟨its,r,⟨o,n,e,hc,hdd,hd⟩,z⟩:=I.list hH
 obtain⟨its2,r2,⟨o2,n2,e2,hc2,hdd2,hd2⟩,z2⟩:=I.list hB
 obtain⟨cls,dd,data,sl⟩:=o
 obtain⟨cls2,dd2,data2,sl2⟩:=o2
 simp only at hc hd hc2 hd2
 subst hc hd hc2 hd2
 refine lem ⟨_,e,rfl⟩ ⟨_,e2,rfl⟩ noFill_list_add seq_list_add PySem.F.slot_list_add PySem.F.entry_list_add (PySem.F.args_list_add_2 _ _) (list_addW l b its.toArray its2.toArray n n2 dd dd2 sl sl2 (by rw[lI,lI,← r.length,← r2.length];exact hz)) ⟨e,e2,?_⟩
 have ea:its.toArray++its2.toArray=(its++its2).toArray:=by simp
 rw[ea]
 exact⟨.ref _,_,I.lnew (t':=s.toks) (r.append r2) (by rw[lU];omega),rfl,q _ I.fresh⟩
theorem zla {a b:D}{z:List D}(e:zk3 a b=some z):∃l m,a=.lst l/\b=.lst m/\l.length+m.length<=1000000/\z=l++m:=by
 cases a with
 | lst l =>
  cases b with
  | lst m =>
   by_cases h:l.length+m.length<=1000000
   ·exact⟨l,m,rfl,rfl,h,(lp ((lO h).symm.trans e)).symm⟩
   ·cases (lY h).symm.trans e
  | _=>cases e
 | _=>cases e
theorem zcS (ha:XE X cl E a fa)(hb:XE X cl E b fb):XL X cl E (.BinOp a .Add b pos) (fL2 zk3 fa fb):=by
 obtain⟨t,pt,rt⟩:=ha.ex
 obtain⟨u,pu,ru⟩:=hb.ex
 refine⟨_,znt zoU pt pu,λH0 F0 ρ σ H F Q R o=>rt H0 F0 ρ σ H F _ R (OutE.fstA o λd v H1 F1 g q o1=>?_)⟩
 refine ru H0 F0 ρ σ H1 F1 _ (R.grow g) (OutE.fstA o1 λd2 v2 H2 F2 g2 q2 o2=>?_)
 obtain⟨z,hz,k⟩:=o2.lf
 have fh:=(R.grow (g.trans g2)).fh
 have q':=q.mono g2.ff
 obtain⟨l,m,rfl,rfl,hl,rfl⟩:=zla hz
 cases q' with
 | lst sq dq =>
  cases q2 with
  | lst sq2 dq2=>exact⟨_,_,_,_,rfl,rfl,fh.seq sq,fh.seq sq2,sz6 (by rw[dq.length,dq2.length];exact hl),λp hp=>k _ _ _ (Gr.refl fh) (dq.append dq2) p hp⟩
end
def zfo (K:qQ0):Sp:=λvs H Q _=>∃(a:Addr) (ns:List Int),vs=[.ref a]/\SqL K H a (ns.map V.int)/\ns.length<=63/\∀H',Q (.bl true) H'
theorem zna {K:qQ0}{fn:List D->Rs D}(h:∀ns:List Int,ns.length<=63->fn [.lst (ns.map .int)]=.ok (.bl true)){E':XK}(hs:zfo K vs H Q E):spD K cl fn 1 vs H Q E':=by
 obtain⟨a,ns,rfl,sq,hl,k⟩:=hs
 refine⟨H,[.lst (ns.map .int)],Same.refl _,.cons (.lst sq (zcA λi _=>.int i)) .nil,rfl,?_⟩
 rw[h ns hl]
 intro v H' F' g q
 cases q
 exact k H'
theorem zqC {P:Program}{K:qQ0}{base:Heap}{fn:List D->Rs D}{k:Nat}(G:FnOk P w K mg base (CX1 P w) k f fd ps (spD K cl fn 1))(h:∀ns:List Int,ns.length<=63->fn [.lst (ns.map .int)]=.ok (.bl true)):FnOk P w K mg base CX0 k f fd ps (zfo K) where
 len:=λvs H Q E hs=>G.len vs H Q E (zna h hs)
 run:=λA outer s H args us vs Q E hr e0 bt vl hs=>by
  refine lde (G.run A outer s H args us vs Q E0 hr e0 bt vl (zna (E:=E) h hs)) λr s' q=>?_
  cases r with
  | error e =>
   obtain⟨a,C,a0,H',B,_,_,_,_,_,_,_,_,_,_,_,z⟩:=(show zfA P w outer H s E0 e s' from q)
   exact z.elim
  | ok fl=>cases fl <;>exact q
theorem zsb {us:List α}(h:us.length=1):∃a,us=[a]:=List.length_eq_one_iff.mp h
theorem zsh {us:List α}(h:us.length=2):∃a b,us=[a,b]:=by
 cases us with
 | nil=>cases h
 | cons a t=>obtain⟨b,rfl⟩:=zsb (leC h);exact⟨a,b,rfl⟩
theorem zr8 {us:List α}(h:us.length=3):∃a b c,us=[a,b,c]:=by
 cases us with
 | nil=>cases h
 | cons a t=>obtain⟨b,c,rfl⟩:=zsh (leC h);exact⟨a,b,c,rfl⟩
theorem zso {us:List α}(h:us.length=4):∃a b c d,us=[a,b,c,d]:=by
 cases us with
 | nil=>cases h
 | cons a t=>obtain⟨b,c,d,rfl⟩:=zr8 (leC h);exact⟨a,b,c,d,rfl⟩
theorem zsZ {us:List α}(h:us.length=5):∃a b c d e,us=[a,b,c,d,e]:=by
 cases us with
 | nil=>cases h
 | cons a t=>obtain⟨b,c,d,e,rfl⟩:=zso (leC h);exact⟨a,b,c,d,e,rfl⟩
def zm4 (ds:List (List Nat×D))(k:List Nat):Option D:=(ds.find? λkv=>decide (kv.1=k)).map (·.2)
def getD:D->D->Option D
 | .dct ds,.str k=>zm4 ds k
 | _,_=>none
theorem Dks.val {K:qQ0}{k:List Nat}:∀{vs:List (Key×V)}{ds:List (List Nat×D)},Dks K cl F vs ds->match zm4 ds k with|some d=>∃v,zfp vs (Sum.inr (T k):Key)=some v/\Dt K cl F v d|none=>zfp vs (Sum.inr (T k):Key)=none
 | _,_,.nil=>rfl
 | _, _,.cons (l:=l) (v:=v) (d:=d) (vs:=vs) (ds:=ds) ok q r=>by
  have ih:=Dks.val (k:=k) r
  by_cases h:l=k
  ·subst h
   have e1:zm4 ((l,d)::ds) l=some d:=by simp[zm4]
   rw[e1]
   exact⟨v,by simp[zfp],q⟩
  ·have h':¬((Sum.inr (T l):Key)=Sum.inr (T k)):=λz=>by injection z with z;exact h (zkp z)
   have e1:zm4 ((l,d)::ds) k=zm4 ds k:=by simp[zm4,h]
   have e2:zfp ((Sum.inr (T l),v)::vs) (Sum.inr (T k):Key)=zfp vs (Sum.inr (T k):Key):=by
    unfold zfp
    rw[lci (by simpa using h')]
   rw[e1,e2]
   exact ih
section
variable {X:Cx}{cl:Nat->Addr}{E:XK}{e o a b:Expr}{es:List Expr}{fa fb:qQ5}{fs:qQ4}{x:Str}{p pos:Pos}
theorem zl2 {a b d:D}(e:getD a b=some d):∃ds k,a=.dct ds/\b=.str k/\zm4 ds k=some d:=by
 cases a with
 | dct ds =>
  cases b with
  | str k=>exact⟨ds,k,rfl,rfl,e⟩
  | _=>cases e
 | _=>cases e
theorem Dt.dctE {K:qQ0}{ds:List (List Nat×D)}(q:Dt K cl F v (.dct ds)):∃(a:Addr) (kvs:List (Key×V)),v=.ref a/\F a=some (.dK kvs)/\Dks K cl F kvs ds:=by
 cases q with|dct h k=>exact⟨_,_,rfl,h,k⟩
theorem zjP (hu:X.A.units+1<cLine)(ha:XE X cl E a fa)(hb:XE X cl E b fb)(hs:zre b:=by intro _ _;rfl):XE X cl E (.Subscript a b pos) (f2 getD fa fb):=by
 obtain⟨t,pt,rt⟩:=ha.ex
 obtain⟨u,pu,ru⟩:=hb.ex
 refine XE'.out ⟨_,znO hu pt pu hs,λH0 F0 ρ σ H F Q R o=>rt H0 F0 ρ σ H F _ R (OutE.fst o λd v H1 F1 g1 q o1=>?_)⟩
 refine ru H0 F0 ρ σ H1 F1 _ (R.grow g1) (OutE.fst o1 λe w H2 F2 g2 q2 o2=>?_)
 obtain⟨z,hz,k⟩:=o2.lf
 have fh:=(R.grow (g1.trans g2)).fh
 have q':=q.mono g2.ff
 obtain⟨ds,key,rfl,rfl,hz'⟩:=zl2 hz
 obtain⟨ad,kvs,rfl,hd,hk⟩:=q'.dctE
 obtain⟨rfl,ok⟩:=q2.strE
 have hv:=hk.val (k:=key)
 rw[hz'] at hv
 obtain⟨v,e1,e2⟩:=hv
 exact⟨ad,v,rfl,e1▸DGet.k (k:=Sum.inr (T key)) (fh _ _ hd),k _ _ _ (Gr.refl fh) e2⟩
def zsQ:D->Option (List D)
 | .lst ds=>some ds
 | .tup ds=>some ds
 | _=>none
theorem Dts.getDt {K:qQ0}:∀{vs:List V}{ds:List D} (_:Dts K cl F vs ds) (j:Nat),j<ds.length->Dt K cl F (vs.getD j .non) (ds.getD j .non):=by
 intro vs ds
 induction ds generalizing vs with
 | nil=>intro _ j h;cases h
 | cons d ds ih =>
  intro q j h
  cases q with
  | cons r t =>
   cases j with
   | zero=>exact r
   | succ j=>exact ih t j (Nat.lt_of_succ_lt_succ h)
theorem Dt.seq {K:qQ0}{d:D}{ds:List D}(q:Dt K cl F v d)(e:zsQ d=some ds):∃(a:Addr) (vs:List V),v=.ref a/\(SqL K F a vs∨SqT K F a vs)/\Dts K cl F vs ds:=by
 cases q with
 | lst sq dq=>obtain rfl:=lp e;exact⟨_,_,rfl,.inl sq,dq⟩
 | tup sq dq=>obtain rfl:=lp e;exact⟨_,_,rfl,.inr sq,dq⟩
 | _=>cases e
def zpW:D->D->Option D
 | .lst ds,.str k=>if ds.all isS=true/\ds.length<=1000/\k∈ds.map unS then some (.int ((ds.map unS).idxOf k:Nat)) else none
 | .tup ds,.str k=>if ds.all isS=true/\ds.length<=1000/\k∈ds.map unS then some (.int ((ds.map unS).idxOf k:Nat)) else none
 | _,_=>none
def zrd:D->Bool
 | .lst _=>true
 | _=>false
def zse:D->Bool
 | .tup _=>true
 | _=>false
theorem zj1 {k:List Nat}(h:k∈ls):jT (.str (T k))=true/\(vT ls).all jT=true/\(vT ls)[ls.idxOf k]? = some (.str (T k))/\eqV (.str (T k)) (.str (T k))=true /\
  ∀(m:Nat) (w:V),m<ls.idxOf k->(vT ls)[m]? = some w->eqV w (.str (T k))=false:=by
 have hl:=lct h
 have key:∀x,eqV (.str (T x)) (.str (T k))=(x == k):=λx=>zqo x k
 refine⟨rfl,?_,?_,?_,?_⟩
 ·unfold vT;simp[jT]
 ·unfold vT
  rw[lH,lb hl,lbU hl];rfl
 ·rw[key];simp
 ·intro m w hm hw
  unfold vT at hw
  have hml:m<ls.length:=by omega
  rw[lH,lb hml] at hw
  obtain rfl:=lp hw
  have hne:ls[m]≠k:=by
   have:=List.not_of_lt_findIdx (p:=(· == k)) (xs:=ls) (i:=m) hm
   simpa using this
  show eqV (.str (T ls[m])) (.str (T k))=false
  rw[key];simp[hne]
def zs1 (K:qQ0)(r:V->List V->Hp->VK->Prop)(to:TE)(t:TA):TE:=λσ H Q=>to σ H λx H1=>(∃(a:Addr) (xs:List V),x=.ref a/\SqT K H1 a xs)/\t σ H1 λxs H2=>r x xs H2 Q
theorem zqq {to:TE}{t:TA}{name:Str}{id:String}{r:V->List V->Hp->VK->Prop}(pa:PlainAttrs "tuple")(slot:Slot "tuple" name id)(hty:typeOf (.builtin id)=pure (.type "method_descriptor"))(hm:MtR X id r)(ho:PE X o to)(ha:PA X (e::es) t)
  (hbase:attributeBase o name X.env (eval o X.env)=eval o X.env)
  (hfew:((backTo cpos (starEach (e::es) X.env)).all (λx=>!x.1)&&(backToKw cpos (keywordEach [] X.env)).all (λx=>x.1.isSome)
   && decide ((e::es).length+([]:List Keyword).length+(if ([]:List Keyword).isEmpty then 0 else 1)<30))=true)
  (hline:(apos.endLine == cpos.line)=true) (hs:starEach (e::es) X.env=(false,eval e X.env)::starEach es X.env) (hplain:(backTo cpos (starEach es X.env)).any (·.1)=false) :
  PE X (.Call (.Attribute o name apos) (e::es) [] cpos) (zs1 X.K r to t):=by
 intro pins s σ H Q I h
 refine wpAny_Call_method_late hbase hfew hline rfl (thn (ho pins s σ H _ I h) λv s1 hq37=>?_)
 obtain⟨x,H1,I1,r1,ty,q1⟩:=hq37
 obtain⟨ad,xs,rfl,sq⟩:=ty
 cases r1
 obtain⟨ob,e1,c1,d1⟩:=I1.noDict sq
 refine⟨"tuple", id,pa,slot,hty,⟨ob,e1,c1⟩,λa z=>by cases z;exact⟨ob,e1,d1⟩,?_⟩
 have hA:=ha cpos pins s1 σ H1 _ I1 q1
 rw[hs] at hA ⊢
 refine Calls.callWith_builtin (by show(false || (backTo cpos (starEach es X.env)).any (·.1))=false;rw[hplain] <;>rfl) (ldr ?_)
 exact thn hA λus s2 ⟨vs,H2,I2,r2,q2⟩=>hm pins s2 σ H2 (.ref ad) vs (.ref ad) us Q I2 rfl r2 q2
theorem zoK (ho:XE X cl E o fa)(ha:XE X cl E e fb)(m:Mth X o e "index" apos cpos):XE X cl E (.Call (.Attribute o "index" apos) [e] [] cpos) (fM zse zpW fa fb):=by
 obtain⟨t,pt,rt⟩:=ho.ex
 obtain⟨u,pu,ru⟩:=ha.ex
 refine XE'.out ⟨_,zqq PySem.F.plainAttrs_tuple PySem.F.slot_tuple_index PySem.F.type_tuple_index zi3 pt (yQ pu uc m.hs) m.base m.few m.line m.hs m.plain,λH0 F0 ρ σ H F Q R o=>rt H0 F0 ρ σ H F _ R (OutE.fst o λd v H1 F1 g1 q o1=>?_)⟩
 split at o1
 ·rename_i hd
  cases q with
  | tup sq dq =>
   rename_i ad xs ds
   refine⟨⟨ad,xs,rfl,(R.grow g1).fh.seqT sq⟩,ru H0 F0 ρ σ H1 F1 _ (R.grow g1) (OutE.fst o1 λd2 v2 H2 F2 g2 q2 o2=>?_)⟩
   obtain⟨z,hz,k⟩:=o2.lf
   have fh:=(R.grow (g1.trans g2)).fh
   cases q2 with
   | str key ok2 =>
    dsimp only [zpW] at hz
    split at hz
    ·rename_i h
     obtain rfl:=lp hz
     obtain⟨e1,e2,e3⟩:=dq.texts h.1
     subst e1
     obtain⟨a1,a2,a3,a4,a5⟩:=zj1 h.2.2
     exact⟨ad,_,_,_,_,rfl,rfl,fh.seqT (g2.ff.seqT sq),a1,a2,a3,a4,a5,k _ _ _ (Gr.refl fh) (.int _)⟩
    ·cases hz
   | _=>cases hz
  | _=>cases hd
 ·exact o1.elim
end
def zr9:List D->Option D
 | [.int i]=>if 0<=i/\i<=9 then some (.str [48+i.toNat]) else none
 | _=>none
section
variable {K:qQ0}{cl:Nat->Addr}
theorem n_str:Fn1 K cl (λxs H Q=>∃i,xs=[.int i]/\i.natAbs.log2<1920/\Q (.str (toString i)) H) zr9:=λF H vs ds d Q s q e k=>by
 match ds,q,e with
 | [.int i],q,e =>
  obtain⟨v,rfl,q1⟩:=q.one
  cases q1
  dsimp only [zr9] at e
  split at e
  ·rename_i h
   obtain rfl:=lp e
   obtain⟨n,rfl⟩:=lat h.1
   have key:∀n<10,((toString ((n:Nat):Int):String):Str)=T [48+n]/\((n:Nat):Int).natAbs.log2<1920:=by decide +kernel
   have hn:n<10:=by omega
   refine⟨_,rfl,(key n hn).2,?_⟩
   have:=k (.str (T [48+n])) _ _ (Gr.refl s) (.str _ (ze5 (λc hc=>by rw[lK.mp hc];omega) (by show 1<=_;decide)))
   rw[(key n hn).1]
   exact this
  ·cases e
end
section
variable {X:Cx}{cl:Nat->Addr}{E:XK}{a b e:Expr}{fa fb:qQ5}{pos:Pos}{st:Stmt}{g:Rho->Out}
def ziZ (l:List Nat)(ds:List D):List (List Nat×D):=(l.zip ds).foldl (λm p=>putD m [p.1] p.2) []
def zlO (a b:D):Option D:=match a,b with
 | .str l,.tup ds=>if l.all (λc=>decide (c<128))=true/\l.length<=1000 then some (.dct (ziZ l ds)) else none
 | _,_=>none
theorem zhN {K:qQ0}{F:Hp}:∀{l:List Nat}{vs:List V}{ds:List D}{m:List (Key×V)}{n:List (List Nat×D)},(∀c∈l,TxtOk (T [c]))->Dts K cl F vs ds->Dks K cl F m n ->
  Dks K cl F ((l.zip vs).foldl (λm p=>putK m (Sum.inr (T [p.1])) p.2) m) ((l.zip ds).foldl (λm p=>putD m [p.1] p.2) n)
 | [],_,_,_,_,_,_,h=>h
 | _::_,_,_,_,_,_,.nil,h=>h
 | c::l,_,_,_,_,k,.cons q t,h=>by
  rw[lbA,lbA,la5,la5]
  exact zhN (λd hd=>k d (.tail _ hd)) t (h.put (k c (.head _)) q)
theorem zgA {p1 p2 pos1 pos2:Pos}(hc:X.calm=true)(hd:Gl X "dict")(md:X.mg "dict" = none)(hz:Gl X "zip")(mz:X.mg "zip" = none)(ha:XE X cl E a fa)(hb:XE X cl E b fb)
  (hs:starEach [a,b] X.env=[(false,eval a X.env),(false,eval b X.env)]:=by rfl) (hs2:starEach [b] X.env=[(false,eval b X.env)]:=by rfl)
  (hs3:starEach [.Call (.Name "zip" p2) [a,b] [] pos2] X.env=[(false,eval (.Call (.Name "zip" p2) [a,b] [] pos2) X.env)]:=by rfl) :
  XE X cl E (.Call (.Name "dict" p1) [.Call (.Name "zip" p2) [a,b] [] pos2] [] pos1) (f2 zlO fa fb):=by
 obtain⟨t,pt,rt⟩:=ha.ex
 obtain⟨u,pu,ru⟩:=hb.ex
 refine XE'.out ⟨_,ziy hc pt pu hd hz md mz hs hs2 hs3,λH0 F0 ρ σ H F Q R o=>?_⟩
 unfold zpD zao
 refine rt H0 F0 ρ σ H F _ R (OutE.fst o λd v H1 F1 g1 q o1=>?_)
 refine ru H0 F0 ρ σ H1 F1 _ (R.grow g1) (OutE.fst o1 λe w H2 F2 g2 q2 o2=>?_)
 obtain⟨z,hz,k⟩:=o2.lf
 have fh:=(R.grow (g1.trans g2)).fh
 unfold zlO at hz
 split at hz
 ·rename_i l ds
  split at hz
  ·rename_i h
   obtain rfl:=lp hz
   cases q with
   | str l ok =>
   cases q2 with
   | tup sq dq =>
   have h1:∀c∈l,c<128:=λc hc=>laZ (lag.mp h.1 c hc)
   refine⟨l,_,_,rfl,fh.seqT sq,h1,h.2,λp hp=>k _ _ _ (Gr.new fh hp) ?_⟩
   exact .dct z7 ((zhN (λc hc=>zrv ok hc) dq .nil).mono (Same.upd (fh.free hp)))
  ·cases hz
 ·cases hz
def isI:D->Bool
 | .int _=>true
 | _=>false
def unN:D->Int
 | .int i=>i
 | _=>0
theorem Dts.ints {K:qQ0}:∀{vs:List V}{ds:List D},Dts K cl F vs ds->ds.all isI=true->vs=(ds.map unN).map V.int
 | _,_,.nil,_=>rfl
 | _,_,.cons q r,h=>by
  rw[lbv,lG] at h
  have:=Dts.ints r h.2
  cases q <;>simp[isI] at h
  rw[this];rfl
def zqp:List D->Option D
 | [.tup ds]=>if ds.all isI=true then some (.int (ds.map unN).sum) else none
 | _=>none
theorem n_sum {K:qQ0}:Fn1 K cl (λxs H Q=>∃(a:Addr) (ns:List Int),xs=[.ref a]/\SqT K H a (ns.map V.int)/\Q (.int ns.sum) H) zqp:=λF H vs ds d Q s q e k=>by
 match ds,q,e with
 | [.tup l],q,e =>
  obtain⟨v,rfl,q1⟩:=q.one
  dsimp only [zqp] at e
  split at e
  ·rename_i h
   obtain rfl:=lp e
   cases q1 with
   | tup sq dq =>
    rw[dq.ints h] at sq
    exact⟨_,_,rfl,s.seqT sq,k _ _ _ (Gr.refl s) (.int _)⟩
  ·cases e
theorem Rl.iceD {K:qQ0}{ds:List (List Nat×D)}(R:Rl K cl H0 F0 ρ σ H F)(hi:ρ[i]? = some (.od ds)):∃F',Same F F'/\Rl K cl H0 F0 (ρ.set i (.fz (.dct ds))) σ H F':=R.let hi rfl λa o F l e=>by
 cases l with|od q=>exact .dct e q
def zl1 (i:Nat)(g:Rho->Out):Rho->Out:=λρ=>match ρ[i]? with|some (.od ds)=>g (ρ.set i (.fz (.dct ds)))|_=>.no
theorem zjN (h:XS X cl E st g):XS X cl E st (zl1 i g):=by
 obtain⟨t,pt,rt⟩:=h.ex
 refine XS'.out ⟨t,pt,λH0 F0 ρ σ H F Dn R o=>?_⟩
 unfold zl1 at o
 split at o
 ·rename_i ds hi
  obtain⟨F',sm,R'⟩:=R.iceD hi
  exact rt H0 F0 _ σ H F' Dn R' (o.grow sm)
 ·exact o.elim
def zqU (i j:Nat)(fs:qQ4):Rho->Out:=λρ=>match fs ρ with | .ok [a,b]=>.nx ((ρ.set i (.fz a)).set j (.fz b)) | .ok _=>.no | .ex n=>.ex n | .no=>.no
theorem zqP {y:Str}{fs:qQ4}{px py pt:Pos}{kt k2 pt2}(hc:X.calm=true)(hN:X.N.Nodup)(hi:X.N[i]? = some x)(hj:X.N[j]? = some y)(hij:i≠j)
  (hx:X.env.scope.names.lookup x=some .local) (hy:X.env.scope.names.lookup y=some .local) (ha:XA X cl E [a,b] fs)
  (hw:swappedStores [.Tuple [.Name x px,.Name y py] kt pt] (.Tuple [a,b] k2 pt2) X.env=pure (some [x,y]))
  (hs:swapsWithSole [.Tuple [.Name x px,.Name y py] kt pt] (.Tuple [a,b] k2 pt2) pos.line X.env=pure false:=by rfl) :
  XS X cl E (.Assign [.Tuple [.Name x px,.Name y py] kt pt] (.Tuple [a,b] k2 pt2) pos) (zqU i j fs):=by
 obtain⟨t,pt,rt⟩:=ha.ex
 refine XS'.out ⟨_,zp1 hc hN hi hj hij hx hy pt hw hs,λH0 F0 ρ σ H F Dn R o=>rt H0 F0 ρ σ H F _ R ?_⟩
 unfold zqU at o
 cases e:fs ρ with
 | ok d =>
  rw[e] at o
  intro v H' F' g q
  match d,q,o with
  | [d1,d2],q,o =>
   obtain⟨v1,v2,rfl,q1,q2⟩:=q.two
   have R1:=R.grow g
   exact⟨_,_,rfl,o _ _ F' ((R1.set q1).set q2) g.ff⟩
  | [],_,o=>exact o.elim
  | [_],_,o=>exact o.elim
  | _::_::_::_,_,o=>exact o.elim
 | ex n=>rw[e] at o;exact o
 | no=>rw[e] at o;exact o
end
section
variable {X:Cx}{cl:Nat->Addr}{E:XK}{a b e:Expr}{fa fb:qQ5}{pos:Pos}
theorem Dts.rep {K:qQ0}{ds:List D}(q:Dts K cl F vs ds):∀n:Nat,Dts K cl F (List.replicate n vs).flatten (List.replicate n ds).flatten
 | 0=>.nil
 | n+1=>by
  rw[lbt,lbt,lb0,lb0]
  exact q.append (Dts.rep q n)
end
structure XEw (X:Cx)(cl:Nat->Addr)(E:XK)(e:Expr)(f:qQ5):Prop where
 out:XE X cl E e f
structure XAw (X:Cx)(cl:Nat->Addr)(E:XK)(es:List Expr)(f:qQ4):Prop where
 out:XA X cl E es f
section
variable {X:Cx}{cl:Nat->Addr}{E:XK}{e:Expr}{es:List Expr}{f:qQ5}{fs:qQ4}{pos:Pos}
theorem xK:XAw X cl E [] zF:=⟨zx⟩
theorem zK (h1:XEw X cl E e f)(h2:XAw X cl E es fs)(hs:starEach (e::es) X.env=(false,eval e X.env)::starEach es X.env):XAw X cl E (e::es) (zj f fs):=⟨zf h1.out h2.out hs⟩
theorem jm (h:XAw X cl E es fs):XEw X cl E (.List es pos) (fO mkL fs):=⟨jJ h.out⟩
theorem qQ {x1}(h:XAw X cl E es fs):XEw X cl E (.Tuple es x1 pos) (fO mkT fs):=⟨zdN h.out⟩
theorem zap {j}(h:x=T l)(ok:TxtOk (T l)):XEw X cl E (.Constant (.str x) j pos) (fC (.str l)):=⟨zm1 h ok⟩
theorem zlf {a:Expr}{fa fb:qQ5}(ha:XEw X cl E a fa)(hb:XEw X cl E b fb)(hs:zeN b):XEw X cl E (.Subscript a b pos) (f2 ixD fa fb):=⟨xO ha.out hb.out hs⟩
theorem zjc {j}:XEw X cl E (.Constant .none j pos) (fC .non):=⟨zjI⟩
theorem yJ {i j}:XEw X cl E (.Constant (.int i) j pos) (fC (.int i)):=⟨zG⟩
theorem zpK {b j}:XEw X cl E (.Constant (.bool b) j pos) (fC (.bl b)):=⟨jn⟩
end
structure XSb (X:Cx)(cl:Nat->Addr)(E:XK)(sts:List Stmt)(g:Rho->Out):Prop where
 out:XSs X cl E sts g
structure XSt (X:Cx)(cl:Nat->Addr)(E:XK)(st:Stmt)(g:Rho->Out):Prop where
 out:XS X cl E st g
structure XIw (X:Cx)(cl:Nat->Addr)(E:XK)(tg it:Expr)(f:qQ4):Prop where
 out:XI X cl E tg it f
section
variable {X:Cx}{cl:Nat->Addr}{E:XK}{e tg iter:Expr}{st:Stmt}{rest body:List Stmt}{g h:Rho->Out}{f:qQ5}{fi:qQ4}{pos:Pos}
theorem zkq (h1:XS X cl E st g)(h2:XSb X cl E rest h):XSs X cl E (st::rest) (zO g h):=zq h1 h2.out
theorem zmf (h1:XSt X cl E st g)(h2:XSs X cl E rest h):XSb X cl E (st::rest) (zO g h):=⟨zq h1.out h2⟩
theorem znA (h:XSt X.nox cl E0 st g):XSt X cl E st (uw g):=⟨yW h.out⟩
theorem zom (hp:PassesOwn (model X.prog X.w) X.A X.env X.xe)(hc:X.calm=true)(hi:XIw X cl E tg iter fi)(hg:PG X tg (vM i))(hb:XSs X cl E body g)(hs:∀x,foldedSetIterable iter X.env x=pure x:=by intro _;rfl):XSt X cl E (.For tg iter body [] pos) (vz i fi g):=⟨yV hp hc hi.out hg hb hs⟩
theorem zoG (h:XEw X cl E e f):XIw X cl E tg e (fI tpD f):=⟨ur h.out⟩
end
section
variable {X:Cx}{e e':Expr}{p pos:Pos}
def zs0 (ls ms:qQ1):qQ1:=(zsl ls).filter λx=>!decide (x∈ms)
end
theorem zjb (l:Addr)(items:Array Value)(n:Nat)(dd:Option Addr)(sl:Array (Option Value))(x:Int)(u:Tok)(hc0:¬(!Builtin.List.listFitsIndex x)=true)(hc1:¬items.size*x.toNat > (2 ^ 63 - 1) / 8)(hc2:¬Builtin.List.listTooLong (items.size*x.toNat)=true) :
  Meets (Builtin.«list.__mul__» ⟨[.ref l,.int x u],[]⟩) (λ_ R s=>s.heap.get? l=some {cls:=.type "list", dict:=dd,data:=.seq items n,slots:=sl}/\R (.ok (.ret (Value.ref s.heap.objs.size))) {s with heap:=s.heap.push {cls:=Value.type "list", data:=Data.seq (List.foldl (λx1 x2=>x1++x2) #[] (List.replicate (if items.isEmpty=true then 0 else x.toNat) items))},toks:=s.toks}) :=
 .of_wp λprog w A R s h=>by
  obtain⟨hp,g,d,tk,os⟩:=s;obtain⟨hl,h⟩:=h
  have hsz:=AutoListH.joined_fits hc2
  wp_walk;refine wpAny_ite_false (lS (Nat.not_lt.mpr hsz)) ?_;wp_walk;exact⟨_,rfl,h⟩
theorem zkM (a:Int)(t:Tok)(l:Addr)(items:Array Value)(n:Nat)(dd:Option Addr)(sl:Array (Option Value)) :
  Meets (Builtin.«int.__rmul__» ⟨[.int a t,.ref l],[]⟩) (λ_ R s=>s.heap.get? l=some {cls:=.type "list", dict:=dd,data:=.seq items n,slots:=sl}/\R (.ok (.ret Value.notImplemented)) s) :=
 .of_wp λprog w A R s h=>by obtain⟨hp,g,d,tk,os⟩:=s;obtain⟨hl,h⟩:=h;wp_walk;exact⟨_,rfl,h⟩
def zr3 (K:qQ0):R2:=λx y H Q=>∃l k xs,x=.ref l/\y=.int k/\SqL K H l xs/\-(2 ^ 63)<=k/\k<2 ^ 63/\xs.length*k.toNat<=sizeLine /\
 ∀p,H p=none->Q (.ref p) (upd H p (.lst (List.replicate k.toNat xs).flatten))
section
variable {X:Cx}{cl:Nat->Addr}{E:XK}{a b:Expr}{fa fb:qQ5}{pos:Pos}
theorem znv:OpR X (binaryOp .Mult) (zr3 X.K):=by
 intro pins s σ H x y v u Q I rx ry h
 obtain⟨l,k,xs,rfl,rfl,hH,h1,h2,hz,q⟩:=h
 cases rx
 obtain⟨t,rfl⟩:=ry
 obtain⟨its,r,⟨o,n,e,hc,hdd,hd⟩,z⟩:=I.list hH
 obtain⟨cls,dd,data,sl⟩:=o
 simp only at hc hd
 subst hc hd
 have hl:=r.length
 have hlen:its.toArray.size*k.toNat<=sizeLine:=by rw[lI,← hl];exact hz
 have hcap:¬its.toArray.size*k.toNat > (2 ^ 63 - 1) / 8:=by
  have:(sizeLine:Nat)<=(2 ^ 63 - 1) / 8:=by decide
  omega
 have hfit:¬(!Builtin.List.listFitsIndex k)=true:=by
  rw[fitsIndex_both h1 h2]
  exact lE
 have hlong:¬Builtin.List.listTooLong (its.toArray.size*k.toNat)=true:=by
  rw[zid hlen]
  exact lE
 have hnew:List.foldl (λx1 x2=>x1++x2) #[] (List.replicate (if its.toArray.isEmpty=true then 0 else k.toNat) its.toArray)=(List.replicate k.toNat its).flatten.toArray:=by
  have f0:∀m:Nat,List.foldl (λx1 x2=>x1++x2) #[] (List.replicate m its.toArray)=(List.replicate m its).flatten.toArray:=λm=>by
   have:=foldl_rep its m []
   rw[laH] at this
   exact this
  rw[f0]
  cases its with
  | nil=>simp
  | cons a r'=>rw[lY (by simp)]
 refine wpAny_binaryOp_repeat_ref (T := "list") (U := "int") (by decide) ⟨_,e,rfl⟩ (λs'=>typeIs_int s' k t) noFill_list_mul F.fills_int_mul F.slot_int_rmul repeat_list F.slot_int_index.lookup
  (lcI F.slot_int_rmul (typeIs_int s k t) F.entry_int_rmul (F.args_int_rmul_2 _ _) (zkM k t l its.toArray n dd sl)
   ⟨e,rfl,⟨_,e,rfl⟩,lcI F.slot_list_mul ⟨_,e,rfl⟩ F.entry_list_mul (F.args_list_mul_2 _ _) (zjb l its.toArray n dd sl k t hfit hcap hlong) ⟨e,?_⟩⟩)
 rw[hnew]
 exact⟨.ref _,_,I.lnew (t':=s.toks) (r.rep k.toNat) (by rw[len_rep,Nat.mul_comm];exact hz),rfl,q _ I.fresh⟩
theorem zlh {a b:D}{z:List D}(e:zq0 a b=some z):∃l n,a=.lst l/\b=.int n/\0<=n/\n<=1000/\l.length<=1000/\z=(List.replicate n.toNat l).flatten:=by
 cases a with
 | lst l =>
  cases b with
  | int n =>
   by_cases h:0<=n/\n<=1000/\l.length<=1000
   ·exact⟨l,n,rfl,rfl,h.1,h.2.1,h.2.2,(lp ((lO h).symm.trans e)).symm⟩
   ·exact absurd ((lY h).symm.trans e) nofun
  | _=>cases e
 | _=>cases e
theorem zhY (ha:XE X cl E a fa)(hb:XE X cl E b fb):XL X cl E (.BinOp a .Mult b pos) (fL2 zq0 fa fb):=by
 obtain⟨t,pt,rt⟩:=ha.ex
 obtain⟨u,pu,ru⟩:=hb.ex
 refine⟨_,znt znv pt pu,λH0 F0 ρ σ H F Q R o=>rt H0 F0 ρ σ H F _ R (OutE.fstA o λd v H1 F1 g q o1=>?_)⟩
 refine ru H0 F0 ρ σ H1 F1 _ (R.grow g) (OutE.fstA o1 λd2 v2 H2 F2 g2 q2 o2=>?_)
 obtain⟨z,hz,k⟩:=o2.lf
 have fh:=(R.grow (g.trans g2)).fh
 have q':=q.mono g2.ff
 obtain⟨l,n,rfl,rfl,h0,hn,hl,rfl⟩:=zlh hz
 cases q' with
 | lst sq dq =>
  cases q2 with
  | int =>
   have e1:=dq.length
   have e2:n.toNat<=1000:=by omega
   exact⟨_,_,_,rfl,rfl,fh.seq sq,by omega,by omega,sz6 (laC (Nat.mul_le_mul (e1▸hl) e2) (by decide)),λp hp=>k _ _ _ (Gr.refl fh) (dq.rep _) p hp⟩
end
def PX (X:Cx)(e:Expr)(t:St->Hp->VK->XK->Prop):Prop:=∀(pins:List (Addr×Obj)) (s:Shared) (σ:St) (H:Hp) (Q:VK) (E:XK) (F':qQ2),Inv X pins σ H s ->
 (∀H s e s',Inv X pins σ H s->zfA X.prog X.w X.stack H s E e s'->F' e s')->t σ H Q E->wpAny (model X.prog X.w) X.A (eval e X.env) (EP X pins σ Q) F' s
section
variable {X:Cx}{k:Nat}{f:Addr}{fd:FuncData}{ps:List Str}{sp:Sp}{x y n:Str}{p np cpos rpos hpos pos:Pos}{e c a b:Expr}{es:List Expr}{ta:TA}{tc:TT}{i:Nat}{b₀:Stmt}{suite:List Stmt}{th:TS}{more:List ExceptHandler}{tx ty:St->Hp->VK->XK->Prop}
theorem zod (hx:PX X e tx)(O:Own X.K X.mg x)(hgx:Gl X x)(hN:X.N.Nodup)(hi:X.N[i]? = some n)(hlo:X.env.scope.names.lookup n=some .local)(hs:∀a,PSs (X.hand a) (b₀::suite) th)
  (hst:X.stack=X.env::X.outer) (hfr:X.env.frame=some X.env.locals) (hdx:(x == ("__debug__" : Str))=false:=by decide) :
  PS X (.Try [.Return (some e) rpos] (.ExceptHandler (some (.Name x np)) (some n) (b₀::suite) hpos::more) [] [] pos) (λD σ H=>tx σ H D.rt (zmY X.K O.C i th D σ)):=by
 intro pins s σ H D I h
 refine wpAny_Try_except (lec (wpAny_Return_some ?_))
 exact laT (hx pins s σ H D.rt _ _ I (λH2 s2 e2 s3 I2 hf=>caught I2 hst hfr O hgx hN hi hlo hs hf hdx) h) (λu s2 ⟨v,H2,I2,rv,q2⟩=>⟨v,σ,H2,I2,rv,q2⟩) λ_ _ z=>z
end
def XX (X:Cx)(cl:Nat->Addr)(e:Expr)(f:qQ5):Prop:=PX X e (λσ H Q E=>∃H0 F0 ρ F,Rl X.K cl H0 F0 ρ σ H F/\OutE X.K cl E H0 F H (f ρ) Q)
theorem PX.mono {X:Cx}(h:PX X e t)(k:∀σ H Q E,u σ H Q E->t σ H Q E):PX X e u:=λpins s σ H Q E F' I hx q=>h pins s σ H Q E F' I hx (k σ H Q E q)
section
variable {X:Cx}{cl:Nat->Addr}{x:Str}{p pos:Pos}{e c a b:Expr}{es:List Expr}
def zps (i:Nat)(cs:List Nat)(ef hf:qQ5):Rho->Out:=λρ=>if ρ.all (λs=>!s.own)=true then(match ef ρ with
 | .ok d=>.rt d
 | .ex n=>if n∈cs then(match hf (ρ.set i (.fz (.exc n))) with | .ok d=>.rt d|_=>.no) else .no
 | .no=>.no) else .no
theorem zlE (h:ρ.all (λs=>!s.own)=true){s:Sl}(e:ρ[i]? = some s):s.own=false:=by
 have:=lag.mp h s (lad e)
 simpa using this
theorem Rl.base {K:qQ0}(R:Rl K cl H0 F0 ρ σ H F)(h:ρ.all (λs=>!s.own)=true):Rl K cl H F ρ σ H F where
 gr:=Gr.refl R.fh
 len:=R.len
 fz:=R.fz
 own:=λi ds e o=>by have:=zlE h e;rw[this] at o;cases o
 ap:=R.ap
theorem Gr.exc {H':Hp}{a:Addr}{o:HO}(h:Same F H)(s:Same H H')(ha:H' a=none):Gr F H (upd F a o) (upd H' a o):=by
 have hH:H a=none:=by
  cases z:H a with
  | none=>rfl
  | some q=>rw[s a q z] at ha;cases ha
 refine⟨Same.upd (h.free hH),s.trans (Same.upd ha),zh5 (h.trans s),λb o hb m q=>?_⟩
 have hne:b≠a:=λz=>by rw[z,hH] at hb;cases hb
 rw[zZ hne];exact q
def zhO (P:Nat->Prop)(cs:List Nat):Prop:=∀n∈cs,P n
theorem zk7 {P:Nat->Prop}:zhO P []:=λ_ h=>by cases h
theorem zcY {P:Nat->Prop}{r:List Nat}(h:P n)(t:zhO P r):zhO P (n::r):=λm z=>by
 rcases lz.mp z with z|z
 ·exact z▸h
 ·exact t m z
theorem zpV {n xc:Str}{np rpos rp2 hpos:Pos}{cs:List Nat}{ef hf:qQ5}{hd:Expr}(hx:XX X cl e ef)(O:Own X.K X.mg xc)(hgx:Gl X xc)(hN:X.N.Nodup)(hi:X.N[i]? = some n)(hlo:X.env.scope.names.lookup n=some .local)
  (hcs:zhO (λn=>PySem.W.subIn X.K (.ref (cl n)) (.ref O.C)=some true) cs) (hh:∀a,XE (X.hand a) cl E0 hd hf) (hst:X.stack=X.env::X.outer) (hfr:X.env.frame=some X.env.locals) (hdx:(xc == ("__debug__" : Str))=false:=by decide) :
  XS X cl E (.Try [.Return (some e) rpos] [.ExceptHandler (some (.Name xc np)) (some n) [.Return (some hd) rp2] hpos] [] [] pos) (zps i cs ef hf):=by
 refine XS'.out ⟨_,zod hx O hgx hN hi hlo (λa=>zgz (zi6 (te:=tDE X.K cl E0 hf) (hh a))) hst hfr hdx,λH0 F0 ρ σ H F Dn R o=>?_⟩
 unfold zps at o
 split at o
 ·rename_i hal
  refine⟨H,F,ρ,F,R.base hal,?_⟩
  cases e:ef ρ with
  | ok d=>rw[e] at o;exact λv H' F' g q=>o v H' F' (R.gr.trans g) q
  | no=>rw[e] at o;exact o
  | ex n =>
   rw[e] at o
   dsimp only at o
   split at o
   ·rename_i hn
    intro H' sH
    refine⟨cl n,rfl,hcs n hn,λa ha=>?_⟩
    have g:=Gr.exc (o:=excAt a (cl n)) R.fh sH ha
    refine⟨H0,F0,_,_,(R.grow g).set (i:=i) (.exc z7),?_⟩
    cases e2:hf (ρ.set i (.fz (.exc n))) with
    | ok d=>rw[e2] at o;exact λv H2 F2 g2 q2=>o v H2 F2 ((R.gr.trans g).trans g2) q2
    | ex m=>rw[e2] at o;exact o.elim
    | no=>rw[e2] at o;exact o.elim
   ·exact o.elim
 ·exact o.elim
theorem zsx {P:Program}{K:qQ0}{base:Heap}{x qual:Str}{st:Stmt}{k m:Nat}{g:Rho->Out}(Fu:Fun K x qual st f fd)(S:FnScope N ps (zu st))(hm:N.length=m)(hn:ps.length=n)
  (hb:∀(cdv:Value) (A:Around) (outer:List Env) (s:Shared) (H:Hp),Room k ((Around.calm0 A).deeper (envOfC qual (zu st) s.heap.objs.size f cdv))->XSs (zjd P w K mg base N qual (zu st) f cdv A outer s H) cl E0 (wV st) g):FnOkH P w K mg base (k+1) f fd ps (spD K cl (zX m g) n):=by
 subst hm hn
 refine Fu.okH S (λvs H Q E h=>h.choose_spec.choose_spec.2.2.1) λcdv A outer s H vs Q hr h=>?_
 obtain⟨F,ds,sm,dq,hl,o⟩:=h
 refine⟨_,hb cdv A outer s H hr,H,F,_,F,Rl.start (N:=N) sm dq,?_⟩
 unfold zX at o
 cases e:g (ds.map .fz++List.replicate (N.length - ds.length) .no) with
 | nx ρ=>rw[e] at o;exact λσ H' F' R _=>o .non H' F' R.gr .non
 | rt d=>rw[e] at o;exact λv H' F' gg q=>o v H' F' gg q
 | bk ρ=>rw[e] at o;exact o.elim
 | ct ρ=>rw[e] at o;exact o.elim
 | ex n=>rw[e] at o;exact o
 | no=>rw[e] at o;exact o
theorem zmj {k:Nat}{fn:List D->Rs D}{fs:qQ4}(G:FnOkH X.prog X.w X.K X.mg X.base k f fd ps (spD X.K cl fn n))(hr:RoomH k X.A)(hg:Gl X x)(hm:X.mg x=some (.ref f))(hk:PySem.W.keepIn X.K (.ref f)=true)(hb:Binds X.K fd ps [])
  (ha:XA X cl E0 (e::es) fs) (he:starEach (e::es) X.env=(false,eval e X.env)::starEach es X.env) (hdb:(x == ("__debug__" : Str))=false:=by decide) (hpl:(backTo pos (starEach es X.env)).any (·.1)=false:=by rfl):XE X cl E0 (.Call (.Name x p) (e::es) [] pos) (fA (ari n fn) fs):=by
 obtain⟨t,pt,rt⟩:=ha.ex
 refine XE'.out ⟨_,zmo G hr hg hm hk hb pt hdb he hpl,λH0 F0 ρ σ H F Q R o=>rt H0 F0 ρ σ H F _ R (OutA.fst o λds vs H1 F1 g q o1=>?_)⟩
 unfold ari at o1
 split at o1
 ·rename_i hl
  rw[lX]
  have R1:=R.grow g
  refine⟨F1,ds,R1.fh,q,by rw[q.length,hl],?_⟩
  cases e:fn ds with
  | ok d=>rw[e] at o1;exact o1
  | ex n=>rw[e] at o1;exact λH' s=>o1 H' (R1.gr.hh.trans s)
  | no=>rw[e] at o1;exact o1
 ·exact o1.elim
def zoO (tab:List (Nat×Bool)):D->Option D
 | .exc n=>(tab.lookup n).map .bl
 | _=>none
def TabOk (P:Nat->Bool->Prop)(tab:List (Nat×Bool)):Prop:=∀n b,(n,b)∈tab->P n b
theorem zaK {P:Nat->Bool->Prop}:TabOk P []:=λ_ _ h=>by cases h
theorem yj {P:Nat->Bool->Prop}{b:Bool}{r:List (Nat×Bool)}(h:P n b)(t:TabOk P r):TabOk P ((n,b)::r):=λm c z=>by
 rcases lz.mp z with z|z
 ·cases z;exact h
 ·exact t m c z
theorem lookup_mem {n:Nat}{b:Bool}:∀{tab:List (Nat×Bool)},tab.lookup n=some b->(n,b)∈tab
 | (m,c)::r,h=>by
  rw[lcb] at h
  split at h
  ·rename_i e
   rw[ldB] at e
   cases h
   rw[e];exact .head _
  ·exact .tail _ (lookup_mem h)
theorem zaz {fa:qQ5}{tab:List (Nat×Bool)}(hk:TabOk (λn b=>ExcK X.K (cl n)/\((∃C',v=.ref C'/\PySem.W.kitOne X.K (.ref (cl n)) (.ref C')=some b)∨(∃t,v=.ty t/\PySem.W.kitOne X.K (.ref (cl n)) (.type t)=some b))) tab)(hg:Gl X "isinstance")(hm:X.mg "isinstance" = none)(ha:XE X cl E e fa)(hb:PE X b (tC v))(h1:starEach [e,b] X.env=(false,eval e X.env)::starEach [b] X.env)(h2:starEach [b] X.env=(false,eval b X.env)::starEach [] X.env:=by rfl)(hpl:(backTo pos (starEach [b] X.env)).any (·.1)=false:=by rfl):XE X cl E (.Call (.Name "isinstance" p) [e,b] [] pos) (f1 (zoO tab) fa):=by
 obtain⟨t,pt,rt⟩:=ha.ex
 refine XE'.out ⟨_,zah zfO hg hm boot_isinstance (yQ pt (yQ hb uc h2) h1) (by decide) (by decide) h1 hpl,λH0 F0 ρ σ H F Q R o=>rt H0 F0 ρ σ H F _ R (OutE.fst o λd u H1 F1 g1 q o1=>?_)⟩
 obtain⟨z,hz,k⟩:=o1.lf
 have fh:=(R.grow g1).fh
 cases q with
 | exc hF =>
  rename_i ad nn
  dsimp only [zoO] at hz
  cases hl:tab.lookup nn with
  | none=>rw[hl] at hz;cases hz
  | some bb =>
   rw[hl] at hz
   obtain rfl:=lp hz
   obtain⟨z1,z2⟩:=hk nn bb (lookup_mem hl)
   exact⟨ad,cl nn,v,bb,rfl,fh _ _ hF,z1,z2,k _ _ _ (Gr.refl fh) (.bl _)⟩
 | _=>cases hz
def zq2:D->Bool
 | .bl _=>true
 | _=>false
def zk4:D->Bool
 | .bl b=>b
 | _=>false
theorem Dts.truths {K:qQ0}:∀{vs:List V}{ds:List D},Dts K cl F vs ds->ds.all zq2=true->vs=(ds.map zk4).map .bl
 | _,_,.nil,_=>rfl
 | _,_,.cons q r,h=>by
  rw[lbv,lG] at h
  cases q with
  | bl b=>rw[Dts.truths r h.2];rfl
  | _=>exact absurd h.1 (by simp[zq2])
def znC:D->D->Option D
 | .lst ds,.bl k=>if ds.all zq2=true then some (.int ((ds.map zk4).count k:Nat)) else none
 | _,_=>none
def zor:D->D->Option D
 | .lst ds,.bl k=>if ds.all zq2=true/\ds.length<=1000/\k∈ds.map zk4 then some (.int ((ds.map zk4).idxOf k:Nat)) else none
 | _,_=>none
def zoD (K:qQ0):V->List V->Hp->VK->Prop:=λx vs H Q=>∃l xs y,x=.ref l/\vs=[y]/\SqL K H l xs/\jT y=true/\xs.all jT=true/\Q (.int ((xs.countP λz=>eqV z y:Nat):Int)) H
theorem zj2:MtR X "list.count" (zoD X.K):=by
 intro pins s σ H x vs v us Q I rx rv h
 obtain⟨l,xs,y,rfl,rfl,hH,fy,fs,q⟩:=h
 cases rx
 obtain⟨u,rfl,ru⟩:=rv.one
 obtain⟨its,r,pl,hl⟩:=I.list hH
 obtain⟨o,n,e,hc,hd,hs⟩:=id pl
 have eo:o={cls:=.type "list", dict:=none,data:=.seq its.toArray n,slots:=o.slots}:=by
  obtain⟨c,d,dt,sl⟩:=o
  dsimp only at hc hd hs
  subst hc hd hs
  rfl
 rw[eo] at e
 refine lcI F.slot_list_count ⟨_,e,rfl⟩ F.entry_list_count (F.args_list_count_2 _ _) (SeqAt.list_countAt l its.toArray n none o.slots u (eqU y)) ⟨e,λw hw=>zcs ru fy r fs w (by simpa using hw),?_⟩
 have ec:((its.toArray.toList.countP (eqU y):Nat):Int)=((xs.countP λz=>eqV z y:Nat):Int):=by
  rw[show its.toArray.toList=its from rfl,zfQ r fs]
 rw[ec]
 exact⟨.int _,H,I.tok _,⟨_,rfl⟩,q⟩
theorem zia (L:List Bool):(L.map V.bl).all jT=true:=by
 rw[ldf];exact lag.mpr λ_ _=>rfl
theorem zky (L:List Bool)(k:Bool):(L.map V.bl).countP (λz=>eqV z (.bl k))=L.count k:=by
 rw[List.countP_map];rfl
theorem znM {o:Expr}{fa fb:qQ5}(ho:XE X cl E o fa)(ha:XE X cl E e fb)(m:Mth X o e "count" apos cpos):XE X cl E (.Call (.Attribute o "count" apos) [e] [] cpos) (fM zrd znC fa fb):=by
 obtain⟨t,pt,rt⟩:=ho.ex
 obtain⟨u,pu,ru⟩:=ha.ex
 refine XE'.out ⟨_,zgE lb8 PySem.F.slot_list_count PySem.F.type_list_count zj2 pt (yQ pu uc m.hs) m.base m.few m.line m.hs m.plain,λH0 F0 ρ σ H F Q R o=>rt H0 F0 ρ σ H F _ R (OutE.fst o λd v H1 F1 g1 q o1=>?_)⟩
 split at o1
 ·rename_i hd
  cases q with
  | lst sq dq =>
   rename_i ad xs ds
   refine⟨.inl ⟨rfl,xs,(R.grow g1).fh.seq sq⟩,ru H0 F0 ρ σ H1 F1 _ (R.grow g1) (OutE.fst o1 λd2 v2 H2 F2 g2 q2 o2=>?_)⟩
   obtain⟨z,hz,k⟩:=o2.lf
   have fh:=(R.grow (g1.trans g2)).fh
   cases q2 with
   | bl key =>
    dsimp only [znC] at hz
    split at hz
    ·rename_i h
     obtain rfl:=lp hz
     obtain rfl:=dq.truths h
     refine⟨ad,_,_,rfl,rfl,fh.seq (g2.ff.seq sq),rfl,zia _,?_⟩
     rw[zky]
     exact k _ _ _ (Gr.refl fh) (.int _)
    ·cases hz
   | _=>cases hz
  | _=>cases hd
 ·exact o1.elim
theorem zo2 {o:Expr}{fa fb:qQ5}(ho:XE X cl E o fa)(ha:XE X cl E e fb)(m:Mth X o e "index" apos cpos):XE X cl E (.Call (.Attribute o "index" apos) [e] [] cpos) (fM zrd zor fa fb):=by
 obtain⟨t,pt,rt⟩:=ho.ex
 obtain⟨u,pu,ru⟩:=ha.ex
 refine XE'.out ⟨_,zgE lb8 PySem.F.slot_list_index PySem.F.type_list_index zja pt (yQ pu uc m.hs) m.base m.few m.line m.hs m.plain,λH0 F0 ρ σ H F Q R o=>rt H0 F0 ρ σ H F _ R (OutE.fst o λd v H1 F1 g1 q o1=>?_)⟩
 split at o1
 ·rename_i hd
  cases q with
  | lst sq dq =>
   rename_i ad xs ds
   refine⟨.inl ⟨rfl,xs,(R.grow g1).fh.seq sq⟩,ru H0 F0 ρ σ H1 F1 _ (R.grow g1) (OutE.fst o1 λd2 v2 H2 F2 g2 q2 o2=>?_)⟩
   obtain⟨z,hz,k⟩:=o2.lf
   have fh:=(R.grow (g1.trans g2)).fh
   cases q2 with
   | bl key =>
    dsimp only [zor] at hz
    split at hz
    ·rename_i h
     obtain⟨h1,h2,h3⟩:=h
     obtain rfl:=lp hz
     obtain rfl:=dq.truths h1
     have hlt:=lct h3
     have hge:(ds.map zk4)[(ds.map zk4).idxOf key]=key:=lbU hlt
     refine⟨ad,_,_,(ds.map zk4).idxOf key,.bl key,rfl,rfl,fh.seq (g2.ff.seq sq),rfl,zia _,?_,by show(key == key)=true;simp,by rw[lD] at hlt;omega,λmm w hmm hw=>?_,k _ _ _ (Gr.refl fh) (.int _)⟩
     ·rw[lH,lb hlt,hge];rfl
     ·have hml:mm<(ds.map zk4).length:=leo hmm hlt
      rw[lH,lb hml] at hw
      obtain rfl:=lp hw
      have:=List.not_of_lt_findIdx (p:=λz=>z == key) (xs:=ds.map zk4) hmm
      show((ds.map zk4)[mm] == key)=false
      simpa using this
    ·cases hz
   | _=>cases hz
  | _=>cases hd
 ·exact o1.elim
end
theorem zdz {M:Model}{A:Around}{env:Env}{a:Expr}{sp:Pos}{args:List Expr}{Q:qQ2}{E:qQ2}{s:Shared}
  (h:wpAny M A (eval (.Subscript a b sp) env) (λf s₁=>wpAny M A (callWith pos f [] (backTo pos (starEach args env)) (backToKw pos (keywordEach [] env))) Q E s₁) E s) :
  wpAny M A (eval (.Call (.Subscript a b sp) args [] pos) env) Q E s:=by
 show wpAny M A (do callWith pos (← eval (.Subscript a b sp) env) [] (backTo pos (starEach args env)) (backToKw pos (keywordEach [] env))) Q E s
 exact la h
structure FnIn (X:Cx)(cl:Nat->Addr)(n:Nat)(fn:List D->Rs D)(f:Addr):Prop where
 ex:∃k fd ps,FnOk X.prog X.w X.K X.mg X.base (CX1 X.prog X.w) k f fd ps (spD X.K cl fn n)/\Room k X.A/\Binds X.K fd ps []
 kp:PySem.W.keepIn X.K (.ref f)=true
theorem fnIn {X:Cx}{k:Nat}{fn:List D->Rs D}(G:FnOk X.prog X.w X.K X.mg X.base (CX1 X.prog X.w) k f fd ps (spD X.K cl fn n))(hr:Room k X.A)(hk:PySem.W.keepIn X.K (.ref f)=true)(hb:Binds X.K fd ps []):FnIn X cl n fn f:=⟨⟨k,fd,ps,G,hr,hb⟩,hk⟩
inductive FnsIn (X:Cx)(cl:Nat->Addr)(n:Nat):List Expr->List Addr->List (List D->Rs D)->Prop
 | nil:FnsIn X cl n [] [] []
 | cons {e:Expr}{f:Addr}{fn:List D->Rs D}{es:List Expr}{fs:List Addr}{fns:List (List D->Rs D)} (he:PE X.nox e (tC (.ref f))) (h:FnIn X cl n fn f) (r:FnsIn X cl n es fs fns) (hs:starEach (e::es) X.env=(false,eval e X.env)::starEach es X.env):FnsIn X cl n (e::es) (f::fs) (fn::fns)
section
variable {X:Cx}{cl:Nat->Addr}
theorem FnsIn.pa {fs:List Addr}{fns:List (List D->Rs D)}(h:FnsIn X cl n es fs fns):PA X.nox es (λσ H Q=>Q (fs.map V.ref) H):=by
 induction h with
 | nil=>exact uc
 | cons he h r hs ih=>exact λpos pins s σ H Q I q=>yQ he ih hs pos pins s σ H Q I q
theorem FnsIn.at {n:Nat}{es:List Expr}{fs:List Addr}{fns:List (List D->Rs D)}(h:FnsIn X cl n es fs fns):∀(i:Nat) (fn:List D->Rs D),fns[i]? = some fn->∃f,fs[i]? = some f/\FnIn X cl n fn f:=by
 induction h with
 | nil=>intro i fn e;simp at e
 | cons he h r hs ih =>
  intro i g e
  cases i with
  | zero=>simp at e;subst e;exact⟨_,rfl,h⟩
  | succ i=>exact ih i g (by simpa using e)
def fCL (n:Nat)(fns:List (List D->Rs D))(fi:qQ5)(fs:qQ4):qQ5:=λρ=>match fi ρ with
 | .ok (.int i)=>if 0<=i/\fns.length<=1000 then(match fns[i.toNat]? with|some fn=>(match fs ρ with | .ok ds=>ari n fn ds|_=>.no)|none=>.no) else .no
 | _=>.no
theorem zme {les:List Expr}{lfs:List Addr}{fns:List (List D->Rs D)}{ix:Expr}{fi:qQ5}{fs:qQ4}{lpos spos:Pos}(L:FnsIn X cl n les lfs fns)(hi:XE X.nox cl E0 ix fi)(hs:zeN ix)(ha:XA X.nox cl E0 (e::es) fs)
  (he:starEach (e::es) X.env=(false,eval e X.env)::starEach es X.env) (hpl:(backTo pos (starEach es X.env)).any (·.1)=false:=by rfl):XX X cl (.Call (.Subscript (.List les lpos) ix spos) (e::es) [] pos) (fCL n fns fi fs):=by
 obtain⟨ti,pi,ri⟩:=hi.ex
 obtain⟨ta,pa,ra⟩:=ha.ex
 intro pins s σ H Q E F' I hx ⟨H0,F0,ρ,F,R,o⟩
 unfold fCL at o
 have lenFs:lfs.length=fns.length:=by
  clear ri ra o hx R
  induction L with
  | nil=>rfl
  | cons he h r hs ih=>simp[ih]
 cases ei:fi ρ with
 | ex m=>rw[ei] at o;exact o.elim
 | no=>rw[ei] at o;exact o.elim
 | ok di =>
  rw[ei] at o
  cases di with
  | int i =>
   dsimp only at o
   split at o
   ·rename_i hi0
    obtain⟨i0,i1⟩:=hi0
    cases ef:fns[i.toNat]? with
    | none=>rw[ef] at o;exact o.elim
    | some fn =>
     rw[ef] at o
     dsimp only at o
     cases ea:fs ρ with
     | ex m=>rw[ea] at o;exact o.elim
     | no=>rw[ea] at o;exact o.elim
     | ok ds =>
      rw[ea] at o
      dsimp only at o
      unfold ari at o
      split at o
      ·rename_i hl
       obtain⟨f,hf,⟨k,fd,ps,G,hr,hb⟩,kp⟩:=L.at _ fn ef
       refine zdz (laT (zpg ix_list (zj8 L.pa) pi hs pins s σ H (λv H'=>v=.ref f/\∃F',Rl X.K cl H0 F0 ρ σ H' F'/\Gr F H F' H') (I.wish _) ?_) (λv s1 ⟨x,H1,I1,rx,q⟩=>?_) λ_ _ z=>False.elim z)
       ·refine ⟨by rw[lD];exact sz6 (by omega),λp hp=>?_⟩
        have g:=Gr.newO (o:=.lst (lfs.map V.ref)) R.fh hp
        refine ri H0 F0 ρ σ _ F _ (R.grow g) ?_
        rw[ei]
        intro v H' F' g' q
        cases q with
        | int i' =>
         refine⟨p,lfs.map V.ref,i,.ref f,rfl,rfl,.inl (.inl (g'.hh _ _ z7)),?_,rfl,F',(R.grow g).grow g',g.trans g'⟩
         have:((i.toNat:Nat):Int)=i:=by omega
         rw[← this]
         refine zgF ?_
         rw[lH,hf];rfl
       ·obtain ⟨rfl,F1,R1,g1⟩:=q
        cases rx
        refine ldR (h₀:=X.base) I.ok.mod.kin kp (laT (pa pos pins s1 σ H1 (λvs H2=>spD X.K cl fn n vs H2 Q E) I1 ?_) (λus s2 ⟨vs,H2,I2,r,q⟩=>⟨I2.unwish.kIn,?_⟩) λ_ _ z=>False.elim z) he hpl
        ·refine ra H0 F0 ρ σ H1 F1 _ R1 ?_
         rw[ea]
         intro vs H2 F2 g2 q
         have R2:=R1.grow g2
         refine⟨F2,ds,R2.fh,q,by rw[q.length,hl],?_⟩
         cases ez:fn ds with
         | ok d=>rw[ez] at o;exact λv H' F' g' q'=>o v H' F' ((g1.trans g2).trans g') q'
         | ex m=>rw[ez] at o;exact λH' z=>o H' (R2.gr.hh.trans z)
         | no=>rw[ez] at o;exact o
        ·exact zqB G hr hb hx I2.unwish r q
      ·exact o.elim
   ·exact o.elim
  | _=>exact o.elim
def PXs (X:Cx)(sts:List Stmt)(t:St->Hp->VK->XK->Prop):Prop:=∀(pins:List (Addr×Obj)) (s:Shared) (σ:St) (H:Hp) (D:Ends) (E:XK) (F':qQ2),Inv X pins σ H s ->
 (∀H s e s',Inv X pins σ H s->zfA X.prog X.w X.stack H s E e s'->F' e s')->t σ H D.rt E->wpAny (model X.prog X.w) X.A (execs sts X.env) (SP X pins {D with nx:=λ_ _=>False,bk:=λ_ _=>False,ct:=λ_ _=>False}) F' s
theorem PXs.mono {sts:List Stmt}(h:PXs X sts t)(k:∀σ H Q E,u σ H Q E->t σ H Q E):PXs X sts u:=λpins s σ H D E F' I hx q=>h pins s σ H D E F' I hx (k σ H D.rt E q)
end
end L2
namespace L2
open PySem PySem.Spec PyProof.Rows
open AutoSeq1 (wpAny_loadPart')
theorem boot_enumerate:bootBuiltins "enumerate" = some (.type "enumerate"):=PyProof.Rows.Boot.«enumerate»
def zmx (i j:Nat)(g:Rho->Out):Nat->List D->Rho->Out
 | _,[],ρ=>.nx ρ
 | n,d::ds,ρ=>match g ((ρ.set i (.fz (.int (n:Int)))).set j (.fz d)) with | .nx ρ'=>zmx i j g (n+1) ds ρ' | .ct ρ'=>zmx i j g (n+1) ds ρ' | .bk ρ'=>.nx ρ'|o=>o
end L2
namespace L2
open PySem PySem.Spec PyProof.Rows
def intD:List D->Option D
 | [.bl b]=>some (.int (if b then 1 else 0))
 | _=>none
theorem n_int {K:qQ0}{cl:Nat->Addr}:Fn1 K cl (λxs H Q=>∃b,xs=[.bl b]/\Q (.int (if b then 1 else 0)) H) intD:=λF H vs ds d Q s q e k=>by
 match ds,q,e with
 | [.bl b],q,e =>
  obtain⟨v,rfl,q1⟩:=q.one
  cases q1
  obtain rfl:=lp e
  exact⟨b,rfl,k _ _ _ (Gr.refl s) (.int _)⟩
end L2
namespace L2
open PySem PySem.Spec PyProof.Rows
open AutoSeq1 (wpAny_loadPart')
variable {elts:List Expr}
def zo5 (K:qQ0)(l:Addr)(xs:List V):It :=
 ⟨λi H=>SqL K H l xs/\i<xs.length,λi H v H'=>∃p x,H p=none/\xs[i]? = some x/\v=.ref p/\H'=upd H p (.tup [.int (i:Int),x]),λi H=>SqL K H l xs/\i=xs.length⟩
def zsv (n l:Nat)(i:Nat)(h:Heap):Prop:=(∃old,IsEnum h (n+1:Nat) n i old)/\h.IsListIter n l i
theorem zim {P:Program}{w:World}{K:qQ0}{k:Nat}{pos:Pos}{n l:Nat}(h1:l<n)(xs:List V) :
  Turn P w K (.Tuple elts k pos) (zo5 K l xs) [((n+1:Nat):Addr),n] (n+1:Nat) (zsv n l) where
 mem:=by simp
 obj:=λi h ⟨⟨old,z1⟩,z2⟩ c hc=>by
  simp only[lz,lcc,ld9] at hc
  rcases hc with rfl|rfl
  ·exact⟨_,z1,λv z=>by cases z⟩
  ·obtain⟨o,e,c,d⟩:=z2;exact⟨o,e,λv z=>by rw[d] at z;cases z⟩
 keep:=λi h h' ⟨⟨old,z1⟩,z2⟩ kk=>⟨⟨old,kk _ (by simp) _ z1⟩,z2.at λo e=>kk _ (by simp) o e⟩
 item:=by
  intro X hP hw hK hc i pins s σ H E I hf st hg
  subst hP hw hK
  obtain⟨q1,hi⟩:=hg
  obtain⟨its,rv,pl,_⟩:=I.list q1
  obtain⟨u,hu,ru⟩:=rv.get (lb hi)
  obtain⟨⟨old,z1⟩,z2⟩:=st
  have p1:s.heap.IsList l its.toArray:=pl.isList
  have n1:(l:Addr)≠(n:Addr):=yh (.inl h1)
  have nz:((n+1:Nat):Addr)≠(n:Addr):=yh (by omega)
  have nl:((n+1:Nat):Addr)≠(l:Addr):=yh (by omega)
  have hh:X.A.in1.handled=none:=by simp[I.ok.hd hc]
  have D:=Draws.list (prog:=X.prog) (w:=X.w) (A:=X.A.in1) hh (n:Addr) (l:Addr) n1 its.toArray
  have hlen:its.length=xs.length:=rv.length.symm
  refine wpAny_pyNext_enum_itemD D z1 ⟨z2,p1⟩ (by simp;omega) nz (by simp[nz,nl]) λx h' tk hP ho hs' hT hsz hk=>?_
  have ex:x=u:=by
   have:its[i]? = some x:=by simpa using hP
   rw[hu] at this
   exact(lp this).symm
  subst ex
  refine⟨_,rfl,?_⟩
  refine wpAny_letOwnedTupleGo_enum (s:={s with heap:=h',toks:=tk+1}) ho λh2 zz sb=>?_
  have nfp:∀c:Addr,c=s.heap.objs.size->c∉([((n+1:Nat):Addr),(n:Addr)]:List Addr):=λc e hc'=>by
   obtain ⟨o,ho'⟩:∃o,s.heap.get? c=some o:=by
    simp only[lz,lcc,ld9] at hc'
    rcases hc' with rfl|rfl
    ·exact⟨_,z1⟩
    ·obtain⟨o,e,_⟩:=z2;exact⟨o,e⟩
   rw[e] at ho'
   exact absurd (ly ho') (lbE _)
  have szz:s.heap.objs.size≠((n+1:Nat):Addr):=λe=>nfp _ rfl (by rw[e];simp)
  have I1:Inv X pins σ H {s with heap:=h2,toks:=tk+1}:=I.turnedL (fp:=[((n+1:Nat):Addr),(n:Addr)]) (λc o hc' e=>by
   have hc2:c≠((n+1:Nat):Addr)/\c≠(n:Addr):=by simpa using hc'
   exact sb.extBut _ _ hc2.1 (hk c o hc2.1 hc2.2 e)) hf
  have hfree:H s.heap.objs.size=none:=I.hok.fresh (lu _)
  have hpair:h2.get? s.heap.objs.size=some {cls:=.type "tuple", data:=.seq #[.int i tk,x]}:=sb.extBut _ _ szz hT
  have I2:Inv X pins σ (upd H s.heap.objs.size (.tup [.int (i:Int),xs[i]])) {s with heap:=h2,toks:=tk+1}:=I1.track hfree (.inr I.sz) (la1 I.lt) (λx c e=>by
    obtain⟨v,o,ho,_⟩:=I.cell x c e
    exact lR (ly ho)) (λp hp=>lR (ly (I.pin p hp).1))
   ⟨by show 2<=sizeLine;decide,[.int i tk,x],.cons ⟨_,rfl⟩ (.cons ru .nil),_,hpair,rfl,⟨_,rfl⟩,rfl⟩
  refine⟨.ref s.heap.objs.size,_,I2,rfl,⟨_,_,hfree,lb hi,rfl,rfl⟩,⟨⟨x,by simpa using zz⟩,?_⟩,λb hb=>?_⟩
  ·obtain⟨⟨p1,q1,w1⟩,_⟩:=hs';exact⟨p1,sb.extBut _ _ nz.symm q1,w1⟩
  ·rw[zZ (λe=>nfp b e hb)]
   exact(hf b hb).1
 done:=by
  intro X hP hw hK hc i pins s σ H E I hf st hg
  subst hP hw hK
  obtain⟨q1,rfl⟩:=hg
  obtain⟨its,rv,pl,_⟩:=I.list q1
  obtain⟨⟨old,z1⟩,z2⟩:=st
  have p1:s.heap.IsList l its.toArray:=pl.isList
  have n1:(l:Addr)≠(n:Addr):=yh (.inl h1)
  have hh:X.A.in1.handled=none:=by simp[I.ok.hd hc]
  have D:=Draws.list (prog:=X.prog) (w:=X.w) (A:=X.A.in1) hh (n:Addr) (l:Addr) n1 its.toArray
  have hlen:its.toArray.size=xs.length:=by simp[rv.length]
  refine wpAny_pyNext_enum_endD D z1 (by rw[hlen];exact⟨z2,p1⟩) λh' eb=>⟨rfl,I.turnedL (fp:=[((n+1:Nat):Addr),(n:Addr)]) (λc o hc' e=>?_) hf⟩
  have hc2:c≠((n+1:Nat):Addr)/\c≠(n:Addr):=by simpa using hc'
  exact eb c o hc2.2 e
 self:=λA i s Q E ⟨⟨old,z1⟩,z2⟩ h=>wpAny_pyIter_enum z1 h
def zp7 (K:qQ0)(ta:TE):TI:=λσ H R=>zao ta zln σ H λvs H1=>∃l xs,vs=[.ref l]/\SqL K H1 l xs/\R (zo5 K l xs) H1
section
variable {X:Cx}
theorem zmy {k:Nat}{tpos:Pos}{a:Expr}{ta:TE}{p pos:Pos}(hg:Gl X "enumerate")(hm:X.mg "enumerate" = none)(ha:PE X a ta)
  (hs:starEach [a] X.env=(false,eval a X.env)::starEach [] X.env):PI X (.Tuple elts k tpos) (.Call (.Name "enumerate" p) [a] [] pos) (zp7 X.K ta):=by
 intro pins s σ H R I h
 have hA:PA X [a] (zao ta zln):=yQ ha uc hs
 refine lbk (zbo I hg hm boot_enumerate ?_)
 refine laU (thn (hA pos pins s σ H _ I h) λus s1 ⟨vs,H2,I2,r2,l,xs,ev,q1,q⟩=>?_) hs rfl
 subst ev
 obtain⟨u1,rfl,ru1⟩:=r2.one
 cases ru1
 obtain⟨its,rv,pl,_⟩:=I2.list q1
 have p1:s1.heap.IsList l its.toArray:=pl.isList
 have lt1:l<s1.heap.objs.size:=by obtain⟨o,e,_⟩:=p1;exact ly e
 refine call_enumerate_list p1 λh1 m1 m2 m3 m4=>?_
 have T:=zim (P:=X.prog) (w:=X.w) (K:=X.K) (elts:=elts) (k:=k) (pos:=tpos) lt1 xs
 have st:zsv s1.heap.objs.size l 0 h1:=⟨⟨_,m1⟩,m2⟩
 refine T.self X.A 0 _ _ _ st ?_
 have I3:Inv X pins σ H2 {s1 with heap:=h1}:=I2.kept (t':=s1.toks) m4
 refine⟨_,_,_,zo5 X.K l xs,H2,rfl,I3,T,st,λc hc=>?_,q⟩
 have hge:s1.heap.objs.size<=c:=by
  simp only[lz,lcc,ld9] at hc
  rcases hc with rfl|rfl
  ·exact lbR _ _
  ·exact lu _
 obtain⟨f0,f1,f2,f3,f4,f5⟩:=I2.fpOk hge (I2.hok.fresh hge)
 exact⟨f0,f1,f2,f3,f4,f5⟩
theorem zjp {K:qQ0}{l:Addr}{xs:List V}{g:TG}{tb:TS}{D:Ends}{σ:St}{H:Hp}(Pv:Nat->St->Hp->Prop)(h0:Pv 0 σ H)(hG:∀i σ H,Pv i σ H->SqL K H l xs)
  (hs:∀i x p σ H,xs[i]? = some x->H p=none->Pv i σ H->g (.ref p) σ (upd H p (.tup [.int (i:Int),x])) λσ2 H2=>tb {D with nx:=Pv (i+1),ct:=Pv (i+1),bk:=D.nx} σ2 H2) (hd:∀σ H,Pv xs.length σ H->D.nx σ H) :
  ∃ W:Nat->Nat->St->Hp->Prop,(∃m,W 0 m σ H)/\∀i m σ H,W i m σ H ->
   ((zo5 K l xs).stop i H/\D.nx σ H)∨((zo5 K l xs).go i H/\∃N:St->Hp->Prop,(∀σ' H',N σ' H'->∃m',m'<m/\W (i+1) m' σ' H')/\∀x H',(zo5 K l xs).yld i H x H'->g x σ H' λσ2 H2=>tb {D with nx:=N,ct:=N,bk:=D.nx} σ2 H2):=by
 refine⟨λi m σ H=>m=xs.length - i/\i<=xs.length/\Pv i σ H,⟨_,rfl,lbm _,h0⟩,?_⟩
 rintro i m σ H ⟨rfl,hi,p⟩
 have q1:=hG i σ H p
 by_cases hlt:i<xs.length
 ·refine .inr ⟨⟨q1,hlt⟩,Pv (i+1),λσ' H' p'=>⟨xs.length - (i+1),by omega,rfl,hlt,p'⟩,?_⟩
  rintro v H' ⟨a,x,e0,e1,rfl,rfl⟩
  exact hs i x a σ H e1 e0 p
 ·have e:i=xs.length:=by omega
  subst e
  exact .inl ⟨⟨q1,rfl⟩,hd σ H p⟩
end
def zjZ (i j:Nat)(fa:qQ5)(g:Rho->Out):Rho->Out:=λρ=>match fa ρ with
 | .ok (.lst ds)=>zmx i j g 0 ds ρ
 | _=>.no
section
variable {X:Cx}{cl:Nat->Addr}{E:XK}{a:Expr}{fa:qQ5}{g:Rho->Out}{p pos zpos tp px py:Pos}{x y:Str}{k:Nat}{body:List Stmt}
theorem zlH {i j:Nat}(hp:PassesOwn (model X.prog X.w) X.A X.env X.xe)(hc:X.calm=true)(hz:Gl X "enumerate")(hm:X.mg "enumerate" = none)(ha:XE X cl E a fa)(hg:PG X (.Tuple [.Name x px,.Name y py] k tp) (ziQ X.K 2 (uF (vM i) (uF (vM j) ziN))))(hbd:XSs X cl E body g)(hs:starEach [a] X.env=(false,eval a X.env)::starEach [] X.env):XS X cl E (.For (.Tuple [.Name x px,.Name y py] k tp) (.Call (.Name "enumerate" p) [a] [] zpos) body [] pos) (zjZ i j fa g):=by
 obtain⟨t,pt,rt⟩:=ha.ex
 obtain⟨w,pw,rw'⟩:=hbd.ex
 refine XS'.out ⟨_,zkw hp hc (zmy hz hm pt hs) hg pw,λH0 F0 ρ σ H F Dn R o=>rt H0 F0 ρ σ H F _ R ?_⟩
 obtain ⟨ds,e1,o'⟩:∃ds,fa ρ=.ok (.lst ds)/\OutS X.K cl E H0 F0 F (zmx i j g 0 ds ρ) Dn:=by
  unfold zjZ at o
  split at o
  ·rename_i ds e1;exact⟨ds,e1,o⟩
  ·exact o.elim
 rw[e1]
 intro v1 H1 F1 g1 q1
 have R1:=R.grow g1
 cases q1 with
 | lst sq1 dq1 =>
  refine⟨_,_,rfl,R1.fh.seq sq1,?_⟩
  refine zjp (λm σ' H'=>∃ρ' F',Rl X.K cl H0 F0 ρ' σ' H' F'/\Same F1 F'/\OutS X.K cl E H0 F0 F' (zmx i j g m (ds.drop m) ρ') Dn) ⟨ρ,F1,R1,Same.refl _,o'.grow g1.ff⟩ (λm σ' H' ⟨ρ',F',R',s',_⟩=>(s'.trans R'.fh).seq sq1) ?_ ?_
  ·rintro m z pp σ' H' hx hpp ⟨ρ',F',R',s',o3⟩
   obtain⟨c1,hd1,qd1⟩:=dq1.get hx
   have r1:ds.drop m=c1::ds.drop (m+1):=by
    obtain⟨hk,e3⟩:=lx.mp hd1
    rw[lac hk,e3]
   rw[r1] at o3
   unfold zmx at o3
   have R4:=R'.grow (Gr.newO (o:=.tup [.int (m:Int),z]) R'.fh hpp)
   refine⟨pp,[.int (m:Int),z],rfl,.inl (.inl z7),rfl,.int (m:Int),_,rfl,z,_,rfl,rfl,rw' H0 F0 _ _ _ F' _ ((R4.set (.int _)).set (qd1.mono s')) ?_⟩
   cases e4:g ((ρ'.set i (.fz (.int (m:Int)))).set j (.fz c1)) with
   | nx ρ2=>simp only[e4] at o3;exact λσ2 H2 F2 R2 s2=>⟨ρ2,F2,R2,s'.trans s2,o3.grow s2⟩
   | ct ρ2=>simp only[e4] at o3;exact λσ2 H2 F2 R2 s2=>⟨ρ2,F2,R2,s'.trans s2,o3.grow s2⟩
   | bk ρ2=>simp only[e4] at o3;exact o3
   | rt d=>simp only[e4] at o3;exact o3
   | ex n=>simp only[e4] at o3;exact o3
   | no=>simp only[e4] at o3;exact o3
  ·rintro σ' H' ⟨ρ',F',R',s',o3⟩
   rw[dq1.length,laq (lu ds.length)] at o3
   unfold zmx at o3
   exact o3 σ' H' F' R' (Same.refl _)
end
end L2
namespace L2
open PySem PySem.Spec PyProof.Rows
def zsm (K:qQ0)(l1 l2:Addr)(xs ys:List V):It :=
 ⟨λi H=>SqT K H l1 xs/\SqL K H l2 ys/\i<min xs.length ys.length,λi H v H'=>∃p x y,H p=none/\xs[i]? = some x/\ys[i]? = some y/\v=.ref p/\H'=upd H p (.tup [x,y]),λi H=>SqT K H l1 xs/\SqL K H l2 ys/\min xs.length ys.length<=i⟩
def zrq (K:qQ0)(ta tb:TE):TI:=λσ H R=>zao ta (zao tb zln) σ H λvs H1=>∃l1 l2 xs ys,vs=[.ref l1,.ref l2]/\SqT K H1 l1 xs/\SqL K H1 l2 ys/\R (zsm K l1 l2 xs ys) H1
section
variable {X:Cx}
theorem zl5 {elts:List Expr}{k:Nat}{tpos:Pos}{a b:Expr}{ta tb:TE}{p pos:Pos}(hg:Gl X "zip")(hm:X.mg "zip" = none)(ha:PE X a ta)(hb:PE X b tb)
  (hs:starEach [a,b] X.env=[(false,eval a X.env),(false,eval b X.env)]:=by rfl) (hs2:starEach [b] X.env=[(false,eval b X.env)]:=by rfl) :
  PI X (.Tuple elts k tpos) (.Call (.Name "zip" p) [a,b] [] pos) (zrq X.K ta tb):=zkc (λvs H1 R ⟨l1,l2,xs,ys,e,q1,q2,r⟩=>⟨_,_,xs,ys,_,_,e,.inl ⟨l1,rfl,q1,rfl⟩,.inr (.inl ⟨l2,rfl,q2,rfl⟩),r⟩) hg hm ha hb hs hs2
end
theorem ziM {K:qQ0}{l1 l2:Addr}{xs ys:List V}(hz:xs.length<=sizeLine){g:TG}{tt:TT}{te:TE}{σ0:St}{F:List V->Hp->Prop}{H1:Hp}(Pv:Nat->List V->Hp->Prop)(h0:Pv 0 [] H1)(hG:∀i vs H,Pv i vs H->SqT K H l1 xs/\SqL K H l2 ys/\vs.length<=i)
  (hs:∀i x y p vs H,xs[i]? = some x->ys[i]? = some y->H p=none->Pv i vs H->g (.ref p) σ0 (upd H p (.tup [x,y])) λσ2 H2=>Kps σ0 σ2/\tt σ2 H2 λb H3=>if b=true then te σ2 H3 λv H4=>Pv (i+1) (vs++[v]) H4 else Pv (i+1) vs H3) (hd:∀vs H,Pv (min xs.length ys.length) vs H->F vs H) :
  zbT g tt te σ0 F (zsm K l1 l2 xs ys) H1:=by
 refine⟨λi m vs H=>m=min xs.length ys.length - i/\i<=min xs.length ys.length/\Pv i vs H,⟨_,rfl,lbm _,h0⟩,?_⟩
 rintro i m vs H ⟨rfl,hi,p⟩
 obtain⟨q1,q2,hl⟩:=hG i vs H p
 refine⟨by omega,?_⟩
 by_cases hlt:i<min xs.length ys.length
 ·refine .inr ⟨⟨q1,q2,hlt⟩,by omega,Pv (i+1),λvs' H' p'=>⟨min xs.length ys.length - (i+1),by omega,rfl,hlt,p'⟩,?_⟩
  rintro v H' ⟨a,x,y,e0,e1,e2,rfl,rfl⟩
  exact hs i x y a vs H e1 e2 e0 p
 ·have e:i=min xs.length ys.length:=by omega
  subst e
  exact .inl ⟨⟨q1,q2,lu _⟩,hd vs H p⟩
theorem zn6 {X:Cx}{K:qQ0}{i j l:Nat}{x y z:Str}{px py pz pos pos2:Pos}{k k2:Nat}(hK:X.K=K)(hc:X.calm=true)(hN:X.N.Nodup)(hi:X.N[i]? = some x)(hj:X.N[j]? = some y)(hl:X.N[l]? = some z)(hx:Loc X.env.scope x)(hy:Loc X.env.scope y)(hz:Loc X.env.scope z)
  (fx:X.fn x=true∨X.env.scope.names.lookup x=some .local:=by first|exact .inl rfl|exact .inr rfl|assumption) (fy:X.fn y=true∨X.env.scope.names.lookup y=some .local:=by first|exact .inl rfl|exact .inr rfl|assumption) (fz:X.fn z=true∨X.env.scope.names.lookup z=some .local:=by first|exact .inl rfl|exact .inr rfl|assumption) :
  PG X (.Tuple [.Name x px,.Tuple [.Name y py,.Name z pz] k2 pos2] k pos) (ziQ K 2 (uF (vM i) (uF (ziQ K 2 (uF (vM j) (uF (vM l) ziN))) ziN))):=hK▸zjV hc (j8 (zN hN hi hx fx) (j8 (zjV hc (j8 (zN hN hj hy fy) (j8 (zN hN hl hz fz) zhf))) zhf))
section
variable {X:Cx}{cl:Nat->Addr}{E:XK}{a b:Expr}{fa fb:qQ5}{p pos zpos tp tp2 px py pz:Pos}{x y z:Str}{k k2:Nat}
def zmh (ρ0:Rho)(d c e:D):Rho:=((ρ0.set 0 (.fz d)).set 1 (.fz c)).set 2 (.fz e)
def jw (ft:qQ6)(fe:qQ5)(ρ0:Rho):List D->List D->Rs (List D)
 | d::ds,.tup [c,c']::cs=>match ft (zmh ρ0 d c c') with
  | .ok true=>(match fe (zmh ρ0 d c c') with | .ok e=>(jw ft fe ρ0 ds cs).bind λes=>.ok (e::es)|_=>.no)
  | .ok false=>jw ft fe ρ0 ds cs
  | _=>.no
 | _::_,_::_=>.no
 | _,_=>.ok []
theorem zi1 {ft:qQ6}{fe:qQ5}{ρ0:Rho}{d c:D}{ds cs:List D}{es:List D}(h:jw ft fe ρ0 (d::ds) (c::cs)=.ok es):∃c1 c2,c=.tup [c1,c2]/\(match ft (zmh ρ0 d c1 c2) with
  | .ok true=>(match fe (zmh ρ0 d c1 c2) with | .ok e=>(jw ft fe ρ0 ds cs).bind λes=>.ok (e::es)|_=>.no)
  | .ok false=>jw ft fe ρ0 ds cs
  | _=>.no)=.ok es:=by
 unfold jw at h
 split at h
 ·rename_i e1 e2
  injection e1 with a1 a2
  injection e2 with a3 a4
  subst a1 a2 a3 a4
  exact⟨_,_,rfl,h⟩
 ·cases h
 ·rename_i h1 h2
  first|exact(h2 _ _ _ _ rfl rfl).elim|exact(h1 _ _ _ _ rfl rfl).elim|exact(h2 _ _ rfl _ _ rfl).elim|exact(h1 _ _ rfl _ _ rfl).elim
def fCn (fa fb:qQ5)(ft:qQ6)(fe:qQ5)(caps:List Nat):qQ4:=λρ=>match fa ρ,fb ρ with
 | .ok (.tup ds),.ok (.lst cs)=>(match jw ft fe (uW 3 caps ρ) ds cs with | .ok es=>if ds.length<=1000000 then .ok es else .no|_=>.no)
 | _,_=>.no
variable {scope:Scope}{caps:List Nat}{elt:Expr}{ifs:List Expr}{ft:qQ6}{fe:qQ5}
structure CompN (X:Cx)(cl:Nat->Addr)(scope:Scope)(x y z:Str)(caps:List Nat)(tg:Expr)(ifs:List Expr)(elt:Expr)(ft:qQ6)(fe:qQ5):Prop where
 tgt:∀pins C ex s H,PG (cxC X pins scope [x,y,z] caps C ex s H) tg (ziQ X.K 2 (uF (vM 0) (uF (ziQ X.K 2 (uF (vM 1) (uF (vM 2) ziN))) ziN)))
 tst:∀pins C ex s H,XTs (cxC X pins scope [x,y,z] caps C ex s H) cl E0 ifs ft
 elm:∀pins C ex s H,XE (cxC X pins scope [x,y,z] caps C ex s H) cl E0 elt fe
theorem zo3 {K:qQ0}{H0 F H:Hp}{ρ:Rho}{Q:List V->Hp->Prop}(o:OutA K cl E H0 F H (fCn fa fb ft fe caps ρ) Q):∃ds cs es,fa ρ=.ok (.tup ds)/\fb ρ=.ok (.lst cs)/\jw ft fe (uW 3 caps ρ) ds cs=.ok es/\ds.length<=1000000/\OutA K cl E H0 F H (.ok es) Q:=by
 unfold fCn at o
 split at o
 ·rename_i ds cs e1 e2
  split at o
  ·rename_i es e3
   split at o
   ·rename_i hl;exact⟨ds,cs,es,e1,e2,e3,hl,o⟩
   ·exact o.elim
  ·exact o.elim
 ·exact o.elim
theorem zl3 (ok:CompOk X scope caps)(hc:X.calm=true)(hz:Gl X "zip")(hm:X.mg "zip" = none)(ha:XE X cl E a fa)(hb:XE X cl E b fb)(CI:CompN X cl scope x y z caps (.Tuple [.Name x px,.Tuple [.Name y py,.Name z pz] k2 tp2] k tp) ifs elt ft fe)(hs:starEach [a,b] X.env=[(false,eval a X.env),(false,eval b X.env)])(hs2:starEach [b] X.env=[(false,eval b X.env)]) :
  XL X cl E (.ListComp elt [⟨.Tuple [.Name x px,.Tuple [.Name y py,.Name z pz] k2 tp2] k tp,.Call (.Name "zip" p) [a,b] [] zpos,ifs,0⟩] scope pos) (fCn fa fb ft fe caps):=by
 obtain⟨t,pt,rt⟩:=ha.ex
 obtain⟨u,pu,ru⟩:=hb.ex
 refine⟨_,zhb ok hc (zl5 hz hm pt pu hs hs2) (g:=ziQ X.K 2 (uF (vM 0) (uF (ziQ X.K 2 (uF (vM 1) (uF (vM 2) ziN))) ziN))) (tt:=tDB X.K cl E0 ft) (te:=tDE X.K cl E0 fe) ⟨CI.tgt,CI.tst,CI.elm⟩,λH0 F0 ρ σ H F Q R o=>rt H0 F0 ρ σ H F _ R ?_⟩
 obtain⟨ds,cs,es,e1,e2,hcz,hl,o⟩:=zo3 o
 rw[e1]
 intro v1 H1 F1 g1 q1
 have R1:=R.grow g1
 refine ru H0 F0 ρ σ H1 F1 _ R1 ?_
 rw[e2]
 intro v2 H2 F2 g2 q2
 have R2:=R1.grow g2
 cases q1 with
 | tup sq1 dq1 =>
  cases q2 with
  | lst sq2 dq2 =>
   have sq1':=g2.ff.seqT sq1
   have dq1':=dq1.mono g2.ff
   refine⟨_,_,_,_,rfl,R2.fh.seqT sq1',R2.fh.seq sq2,?_⟩
   refine ziM (sz6 (dq1'.length▸hl)) (λm ys H'=>∃F' es1 es2,Gr F2 H2 F' H'/\Dts X.K cl F' ys es1/\ys.length<=m/\es=es1++es2/\jw ft fe (uW 3 caps ρ) (ds.drop m) (cs.drop m)=.ok es2) ⟨F2,[],es,Gr.refl R2.fh,.nil,lu _,rfl,hcz⟩ (λm ys H' ⟨F',_,_,gg,_,h1,_⟩=>⟨(gg.ff.trans gg.fh).seqT sq1',(gg.ff.trans gg.fh).seq sq2,h1⟩) ?_ ?_
   ·rintro m z1 z2 pp ys H' hx hy hpp ⟨F',es1,es2,gg,qs,hly,rfl,hc'⟩
    obtain⟨c1,hd1,qd1⟩:=dq1'.get hx
    obtain⟨c2,hd2,qd2⟩:=dq2.get hy
    have r1:ds.drop m=c1::ds.drop (m+1):=by
     obtain⟨hk,e3⟩:=lx.mp hd1
     rw[lac hk,e3]
    have r2:cs.drop m=c2::cs.drop (m+1):=by
     obtain⟨hk,e3⟩:=lx.mp hd2
     rw[lac hk,e3]
    rw[r1,r2] at hc'
    obtain⟨d1,d2,rfl,hk'⟩:=zi1 hc'
    clear hc'
    have hc':=hk'
    clear hk'
    have gz:Gr F' H' F' (upd H' pp (.tup [z1,z2])):=Gr.newO (gg.fh) hpp
    cases qd2 with
    | tup sqd dqd =>
    obtain⟨w1,w2,rfl,qw1,qw2⟩:=dqd.two
    have Rz:=((R2.grow gg).grow gz).cap [x,y,z] caps
    have Rw:Rl X.K cl (upd H' pp (.tup [z1,.ref _])) F' (zmh (uW 3 caps ρ) c1 d1 d2) ((((zfh [x,y,z] caps σ).set 0 (some z1)).set 1 (some w1)).set 2 (some w2)) (upd H' pp (.tup [z1,.ref _])) F':=((Rz.set (qd1.mono gg.ff)).set (qw1.mono gg.ff)).set (qw2.mono gg.ff)
    refine⟨pp,[z1,_],rfl,.inl (.inl z7),rfl,z1,_,rfl,_,_,rfl,_,[w1,w2],rfl,(gg.ff.trans gz.fh).seqT sqd,rfl,w1,_,rfl,w2,_,rfl,rfl,rfl,?_,_,F',_,F',Rw,?_⟩
    ·exact((Kps.set rfl).trans (Kps.set rfl)).trans (Kps.set rfl)
    ·cases e3:ft (zmh (uW 3 caps ρ) c1 d1 d2) with
     | ok bb =>
      rw[e3] at hc'
      intro H3 F3 g3
      cases bb with
      | true =>
       rw[lO rfl]
       cases e4:fe (zmh (uW 3 caps ρ) c1 d1 d2) with
       | ok ee =>
        simp only[e4] at hc'
        refine⟨_,F',_,F3,Rw.grow g3,?_⟩
        rw[e4]
        intro yy H4 F4 g4 qy
        cases e5:jw ft fe (uW 3 caps ρ) (ds.drop (m+1)) (cs.drop (m+1)) with
        | ok es3 =>
         rw[e5] at hc'
         injection hc' with hc'
         exact⟨F4,es1++[ee],es3,gg.trans (gz.trans (g3.trans g4)),(qs.mono (g3.ff.trans g4.ff)).append (.cons qy .nil),by simp;exact hly,by rw[← hc',lba];rfl,rfl⟩
        | ex n=>rw[e5] at hc';cases hc'
        | no=>rw[e5] at hc';cases hc'
       | ex n=>simp only[e4] at hc';cases hc'
       | no=>simp only[e4] at hc';cases hc'
      | false =>
       rw[lY lE]
       exact⟨F3,es1,es2,gg.trans (gz.trans g3),qs.mono g3.ff,ld5 hly,rfl,hc'⟩
     | ex n=>rw[e3] at hc';cases hc'
     | no=>rw[e3] at hc';cases hc'
   ·rintro ys H' ⟨F',es1,es2,gg,qs,hly,rfl,hc'⟩
    rw[dq1'.length,dq2.length] at hc'
    have e5:jw ft fe (uW 3 caps ρ) (ds.drop (min ds.length cs.length)) (cs.drop (min ds.length cs.length))=.ok []:=by
     rcases ldU ds.length cs.length with h|h
     ·rw[lb6 h,laq (lu ds.length)];unfold jw;rfl
     ·rw[ldq h,laq (lu cs.length)]
      cases ds.drop cs.length <;>(unfold jw;rfl)
    rw[e5] at hc'
    injection hc' with hc'
    rw[← hc',lX] at o
    exact o ys H' F' (g1.trans (g2.trans gg)) qs
end
def zr5:V->List V->Hp->VK->Prop:=λx vs H Q=>∃c,x=.str (T [97,98,99,100])/\vs=[.str (T [c])]/\c∈([97,98,99,100]:List Nat)/\Q (.int ((([97,98,99,100]:List Nat).idxOf c:Nat):Int)) H
theorem zns {X:Cx}:MtR X "str.index" zr5:=by
 intro pins s σ H x xs v us Q I rx rs h
 obtain⟨c,rfl,rfl,hc,q⟩:=h
 obtain⟨t,rfl⟩:=rx
 obtain⟨u,rfl,ru⟩:=vals1 rs
 obtain⟨t',rfl⟩:=ru
 have key:∀c∈([97,98,99,100]:List Nat),Builtin.Str.occurrences (T [97,98,99,100]) (T [c]) 0 (T [97,98,99,100]).length 1=[([97,98,99,100]:List Nat).idxOf c]:=by decide +kernel
 exact SC.index (key c hc) ⟨.int _,H,I.tok _,⟨_,rfl⟩,q⟩
def zlY:D->D->Option D
 | .str l,.str [c]=>if l=[97,98,99,100]/\c∈([97,98,99,100]:List Nat) then some (.int ((([97,98,99,100]:List Nat).idxOf c:Nat):Int)) else none
 | _,_=>none
theorem zkP {a b z:D}(h:zlY a b=some z):∃c,a=.str [97,98,99,100]/\b=.str [c]/\c∈([97,98,99,100]:List Nat)/\z=.int ((([97,98,99,100]:List Nat).idxOf c:Nat):Int):=by
 unfold zlY at h
 split at h
 ·split at h
  ·rename_i l c hh
   obtain rfl:=lp h
   exact⟨c,by rw[hh.1],rfl,hh.2,rfl⟩
  ·cases h
 ·cases h
section
variable {X:Cx}{cl:Nat->Addr}{E:XK}{o e:Expr}{fa fb:qQ5}
theorem zos {apos cpos:Pos}(ho:XE X cl E o fa)(ha:XE X cl E e fb)(m:Mth X o e "index" apos cpos):XE X cl E (.Call (.Attribute o "index" apos) [e] [] cpos) (fM isS zlY fa fb):=by
 obtain⟨t,pt,rt⟩:=ho.ex
 obtain⟨u,pu,ru⟩:=ha.ex
 refine XE'.out ⟨_,zgE PySem.F.plainAttrs_str PySem.F.slot_str_index PySem.F.type_str_index zns pt (yQ pu uc m.hs) m.base m.few m.line m.hs m.plain,λH0 F0 ρ σ H F Q R o=>rt H0 F0 ρ σ H F _ R (OutE.fst o λd v H1 F1 g1 q o1=>?_)⟩
 split at o1
 ·rename_i hd
  cases q with
  | str l ok =>
   refine⟨rfl,ru H0 F0 ρ σ H1 F1 _ (R.grow g1) (OutE.fst o1 λd2 v2 H2 F2 g2 q2 o2=>?_)⟩
   obtain⟨z,hz,k⟩:=o2.lf
   obtain⟨c,e1,rfl,hc,rfl⟩:=zkP hz
   injection e1 with e1
   subst e1
   cases q2
   exact⟨c,rfl,rfl,hc,k _ _ _ (Gr.refl (R.grow (g1.trans g2)).fh) (.int _)⟩
  | _=>cases hd
 ·exact o1.elim
end
end L2
namespace L2
open PySem
def tI (led:Bool)(ks:List Nat):SetTable:=if ks.length<5 then {mask:=7,place:=ks.toArray,dummies:=#[],finger:=0,led,moves:=0,plain:=true} else {mask:=31,place:=ks.toArray,dummies:=#[],finger:=0,led,moves:=1,plain:=true}
def insI (x:Nat):List Nat->List Nat
 | []=>[x]
 | y::ys=>if x<y then x::y::ys else y::insI x ys
def zmm:qQ1:=([1,2,3,4,5,6]:List Nat).foldr (λx acc=>acc++acc.map (x :: ·)) [[]]
def zpB (x:Nat)(ks:List Nat):Nat:=(ks.filter (· < x)).length
def tI7 (led:Bool)(ks:List Nat):SetTable:={mask:=7,place:=ks.toArray,dummies:=#[],finger:=0,led,moves:=0,plain:=true}
theorem zjl:∀led,∀ks∈zmm,∀x∈([1,2,3,4,5,6]:List Nat),x∉ks->(tI led ks).freeSlot (x:Int)=some (x,false)/\((tI led ks).put x).2=zpB x ks /\
  (if ks.length=4 then((tI led ks).put x).1=tI7 led (insI x ks) else((tI led ks).put x).1=tI led (insI x ks))/\((tI led ks).put x).1.fits (ks.length+1)=true/\insI x ks∈zmm/\insI x ks=ks.take (zpB x ks)++x::ks.drop (zpB x ks):=by decide +kernel
theorem zrf:∀led,∀ks∈zmm,(tI led ks).fits ks.length=true/\(tI led ks).led=led/\(tI led ks).plain=true/\ks.length<=6/\ks.Nodup/\∀k∈ks,k∈([1,2,3,4,5,6]:List Nat):=by decide +kernel
structure StI (w:World)(es:Array (Int×Value))(t:SetTable)(ks:List Nat):Prop where
 hs:es.toList.map (·.1)=ks.map λ(k:Nat)=>(k:Int)
 vs:∀e∈es.toList,∃(k:Nat) (tk:Tok),k∈ks/\e=((k:Int),Value.int (k:Int) tk)
 tb:t=tI (!w.params.followText "set-order") ks
 sb:ks∈zmm
section
variable {prog:Program}{w:World}{A:Around}{E:qQ2}{s:Shared}{es:Array (Int×Value)}{t:SetTable}{ks:List Nat}
theorem StI.size (S:StI w es t ks):es.size=ks.length:=by
 have:=lbG List.length S.hs
 simpa using this
theorem StI.fits (S:StI w es t ks):t.fits es.size=true:=by rw[S.size,S.tb];exact(zrf _ ks S.sb).1
theorem StI.find (S:StI w es t ks)(x:Nat):(∃e∈es.toList,Value.isInt (x:Int) e.2=true)↔x∈ks:=by
 constructor
 ·rintro ⟨e,he,h⟩
  obtain⟨k,tk,hk,rfl⟩:=S.vs e he
  have:(x:Int)=(k:Int):=by
   obtain⟨t,e⟩:=Value.isInt_shape h
   injection e with e _
   exact e.symm
  have:x=k:=by omega
  subst this;exact hk
 ·intro hx
  have:(x:Int)∈es.toList.map (·.1):=by rw[S.hs];exact List.mem_map_of_mem hx
  obtain⟨e,he,e1⟩:=laI.mp this
  obtain⟨k,tk,hk,rfl⟩:=S.vs e he
  refine⟨_,he,?_⟩
  dsimp only at e1
  rw[e1]
  simp[Value.isInt]
theorem zh7 {α:Type}(xs:Array α)(p:Nat)(x:α):(SetTable.insertAt xs p x).toList=xs.toList.take p++x::xs.toList.drop p:=by
 unfold SetTable.insertAt
 simp[lar]
theorem StI.put (S:StI w es t ks){x:Nat}(h6:x∈([1,2,3,4,5,6]:List Nat))(hn:x∉ks)(tk:Tok):StI w (SetTable.insertAt es (zpB x ks) ((x:Int),Value.int (x:Int) tk)) (tI (!w.params.followText "set-order") (insI x ks)) (insI x ks):=by
 obtain⟨_,_,_,_,f5,f6⟩:=zjl (!w.params.followText "set-order") ks S.sb x h6 hn
 refine⟨?_,λe he=>?_,rfl,f5⟩
 ·rw[zh7,lau,lr,ldA,leb,S.hs,f6,lau,lr,ldA,leb]
 ·rw [zh7] at he
  have mk:∀k∈ks,k∈insI x ks:=λk hk=>by
   rw[f6,lap,lz]
   rw[← ldi (zpB x ks) ks] at hk
   rcases lap.mp hk with z|z
   ·exact .inl z
   ·exact .inr (.inr z)
  rcases lap.mp he with z|z
  ·obtain⟨k,tk',hk,e'⟩:=S.vs e (lbD z)
   exact⟨k,tk',mk k hk,e'⟩
  ·rcases lz.mp z with z|z
   ·exact⟨x,tk,by rw[f6];simp,z⟩
   ·obtain⟨k,tk',hk,e'⟩:=S.vs e (ldu z)
    exact⟨k,tk',mk k hk,e'⟩
end
end L2
set_option maxHeartbeats 3200000
namespace L2
open PySem
section
variable {prog:Program}{w:World}{A:Around}{E:qQ2}{s:Shared}
theorem StI.new:StI w #[] (.fresh 0 0 (!w.params.followText "set-order")) []:=⟨rfl,λe he=>by simp at he,rfl,by decide⟩
end
end L2
namespace L2
open PySem PySem.Spec PyProof.Rows
end L2
set_option maxHeartbeats 1000000
namespace L2
open PySem PySem.Spec PyProof.Rows
end L2
namespace L2
open PySem PySem.W PyProof.Rows
variable {Q:Nat×Array Nat->Shared->Prop}{x y:Key}
structure Ord (n:Nat)(b:Nat->Nat->Bool):Prop where
 tr:∀i j k,i<n->j<n->k<n->b i j=true->b j k=true->b i k=true
 tot:∀i j,i<n->j<n->i≠j->b i j=false->b j i=true
 ir:∀i,i<n->b i i=false
def PP (n:Nat)(p:Array Nat):Prop:=p.toList.Perm (List.range n)
section
variable {n:Nat}{b:Nat->Nat->Bool}{cmp:Nat->Nat->(Bool->Shared->Prop)->Shared->Prop}{s:Shared}{p:Array Nat}
theorem gd (p:Array Nat)(i:Nat):p.getD i 0=(p[i]?).getD 0:=by simp[Array.getD];split <;>simp_all
theorem PP.size (h:PP n p):p.size=n:=by have:=h.length_eq;simpa using this
theorem PP.lt (h:PP n p){i:Nat}(hi:i<n):p.getD i 0<n:=by
 have hs:=h.size
 have e:p.getD i 0=p[i]'(by omega):=by rw[gd,getElem?_pos p i (by omega)];rfl
 rw[e]
 exact lbJ.mp (h.mem_iff.mp (Array.getElem_mem_toList (by omega)))
theorem PP.inj (h:PP n p){i j:Nat}(hi:i<n)(hj:j<n)(hij:i≠j):p.getD i 0≠p.getD j 0:=by
 have hs:=h.size
 have nd:p.toList.Nodup:=h.nodup_iff.mpr List.nodup_range
 have e:∀k,k<n->p.getD k 0=p.toList.getD k 0:=λk hk=>by rw[gd];simp
 rw[e i hi,e j hj]
 intro z
 have hl:p.toList.length=n:=by simpa using hs
 rw[lh,lh,lb (by omega),lb (by omega)] at z
 have pw:=lcz.mp nd
 rcases Nat.lt_or_gt_of_ne hij with c|c
 ·exact pw i j (by omega) (by omega) c z
 ·exact pw j i (by omega) (by omega) c z.symm
def Sd (b:Nat->Nat->Bool)(k:Nat)(p:Array Nat):Prop:=∀i j,i<j->j<k->b (p.getD i 0) (p.getD j 0)=true
def Dd (b:Nat->Nat->Bool)(k:Nat)(p:Array Nat):Prop:=∀i j,i<j->j<k->b (p.getD j 0) (p.getD i 0)=true
variable (O:Ord n b)(hc:∀i j (C:Bool->Shared->Prop),i<n->j<n->C (b i j) s->cmp i j C s)
include O hc
theorem zks (hp:PP n p){Q:Nat->Shared->Prop}:∀(f m:Nat),1<=m->m+f=n->Sd b m p->(∀m',m<=m'->m'<=n->Sd b m' p->(m'<n->b (p.getD m' 0) (p.getD (m' - 1) 0)=true)->Q m' s)->(kas_asc p f m).kasWp cmp Q s
 | 0,m,h1,h2,h3,q=>q m (lu _) (by omega) h3 (λh=>by omega)
 | f + 1,m,h1,h2,h3,q=>by
  refine hc _ _ _ (hp.lt (by omega)) (hp.lt (by omega)) ?_
  cases e:b (p.getD m 0) (p.getD (m - 1) 0) with
  | true=>exact q m (lu _) (by omega) h3 λ_=>e
  | false =>
   refine zks hp f (m+1) (by omega) (by omega) ?_ λm' a1 a2 a3 a4=>q m' (by omega) a2 a3 a4
   have e':=O.tot _ _ (hp.lt (show m<n by omega)) (hp.lt (show m - 1<n by omega)) (hp.inj (by omega) (by omega) (by omega)) e
   intro i j hij hj
   by_cases hjm:j=m
   ·subst hjm
    by_cases hi:i=j - 1
    ·rw[hi];exact e'
    ·exact O.tr _ _ _ (hp.lt (by omega)) (hp.lt (by omega)) (hp.lt (by omega)) (h3 i (j - 1) (by omega) (by omega)) e'
   ·exact h3 i j hij (by omega)
theorem zkJ (hp:PP n p){Q:Array Nat×Nat×Nat->Shared->Prop}:∀(f m:Nat),1<=m->m+f=n->Dd b m p->(∀m',m<=m'->m'<=n->Dd b m' p->Q (p,m',0) s)->(kas_desc f p m 0).kasWp cmp Q s
 | 0,m,h1,h2,h3,q=>q m (lu _) (by omega) h3
 | f + 1,m,h1,h2,h3,q=>by
  refine hc _ _ _ (hp.lt (by omega)) (hp.lt (by omega)) ?_
  cases e:b (p.getD m 0) (p.getD (m - 1) 0) with
  | true =>
   refine zkJ hp f (m+1) (by omega) (by omega) ?_ λm' a1 a2 a3=>q m' (by omega) a2 a3
   intro i j hij hj
   by_cases hjm:j=m
   ·subst hjm
    by_cases hi:i=j - 1
    ·rw[hi];exact e
    ·exact O.tr _ _ _ (hp.lt (by omega)) (hp.lt (by omega)) (hp.lt (by omega)) e (h3 i (j - 1) (by omega) (by omega))
   ·exact h3 i j hij (by omega)
  | false =>
   have e':=O.tot _ _ (hp.lt (show m<n by omega)) (hp.lt (show m - 1<n by omega)) (hp.inj (by omega) (by omega) (by omega)) e
   refine hc _ _ _ (hp.lt (by omega)) (hp.lt (by omega)) ?_
   rw[e']
   exact q m (lu _) (by omega) h3
omit O hc in
theorem zmQ (hp:PP n p)(i j:Nat):PP n (kas_rev p i j):=((mirror_perm p i j _).toList).trans hp
omit O hc in
theorem zpw (hp:PP n p){m:Nat}(hm:m<=n)(h:Dd b m p):Sd b m (kas_rev p 0 m):=by
 have hs:=hp.size
 have e:∀k,k<m->(kas_rev p 0 m).getD k 0=p.getD (m - 1 - k) 0:=λk hk=>by
  rw[gd,gd]
  unfold kas_rev
  rw[getElem?_mirror_all (by omega),lO ⟨lbm _,hk⟩,laM]
 intro i j hij hj
 rw[e i (by omega),e j hj]
 exact h _ _ (by omega) (by omega)
theorem zof (hp:PP n p){m:Nat}(h1:1<=m)(hm:m<=n)(h:Dd b m p)(q:∀m' p',PP n p'->1<=m'->m'<=n->Sd b m' p'->Q (m',p') s):(kas_tail3 m n p).kasWp cmp Q s:=by
 unfold kas_tail3
 rw[lcV]
 exact zks O hc (zmQ hp 0 m) (n - m) m h1 (by omega) (zpw hp hm h) λm' a1 a2 a3 _=>q m' _ (zmQ hp 0 m) (by omega) a2 a3
theorem zms (hp:PP n p)(h2:2<=n)(q:∀m' p',PP n p'->1<=m'->m'<=n->Sd b m' p'->Q (m',p') s):(kas_count n p).kasWp cmp Q s:=by
 unfold kas_count
 rw[lcV]
 refine zks O hc hp (n - 1) 1 (lu _) (by omega) (λi j hij hj=>by omega) λm a1 a2 a3 a4=>?_
 by_cases e:m=n
 ·rw[lO (by simp[e])]
  exact q m p hp a1 a2 a3
 ·rw [lY (by simp[e])]
  by_cases g:m > 1
  ·rw[lO g]
   refine hc _ _ _ (hp.lt (by omega)) (hp.lt (by omega)) ?_
   rw[a3 0 (m - 1) (by omega) (by omega)]
   exact q m p hp a1 a2 a3
  ·rw [lY g]
   have m1:m=1:=by omega
   subst m1
   unfold kas_descPart
   rw[lcV]
   have a4':=a4 (by omega)
   refine zkJ O hc hp (n - (1+1)) (1+1) (by omega) (by omega) (λi j hij hj=>?_) λm' b1 b2 b3=>?_
   ·have:i=0/\j=1:=by omega
    rw[this.1,this.2]
    exact a4'
   ·rw[lY (by show ¬0 > 0;omega)]
    exact zof O hc hp (by omega:1<=m') b2 b3 q
theorem zen (hp:PP n p){k:Nat}(hk:k<n)(sd:Sd b k p){Q:Nat->Shared->Prop}(q:∀l,l<=k->(∀i,i<l->b (p.getD i 0) (p.getD k 0)=true)->(∀i,l<=i->i<k->b (p.getD k 0) (p.getD i 0)=true)->Q l s) :
  ∀(f l r:Nat),l<=r->r<=k->r - l<=f->(∀i,i<l->b (p.getD i 0) (p.getD k 0)=true)->(∀i,r<=i->i<k->b (p.getD k 0) (p.getD i 0)=true)->(kas_place p k f l r).kasWp cmp Q s
 | 0,l,r,h1,h2,h3,ha,hb=>q l (by omega) ha λi hi=>hb i (by omega)
 | f + 1,l,r,h1,h2,h3,ha,hb=>by
  unfold kas_place
  by_cases g:l≥r
  ·rw[lO g]
   exact q l (by omega) ha λi hi=>hb i (by omega)
  ·rw [lY g]
   have mk:(l+r) / 2<k:=by omega
   refine hc _ _ _ (hp.lt (by omega)) (hp.lt (by omega)) ?_
   cases e:b (p.getD k 0) (p.getD ((l+r) / 2) 0) with
   | true =>
    refine zen hp hk sd q f l ((l+r) / 2) (by omega) (by omega) (by omega) ha λi hi hik=>?_
    by_cases z:i=(l+r) / 2
    ·rw[z];exact e
    ·exact O.tr _ _ _ (hp.lt (by omega)) (hp.lt (by omega)) (hp.lt (by omega)) e (sd _ i (by omega) hik)
   | false =>
    have e':=O.tot _ _ (hp.lt hk) (hp.lt (show(l+r) / 2<n by omega)) (hp.inj hk (by omega) (by omega)) e
    refine zen hp hk sd q f ((l+r) / 2+1) r (by omega) (by omega) (by omega) (λi hi=>?_) hb
    by_cases z:i=(l+r) / 2
    ·rw[z];exact e'
    ·exact O.tr _ _ _ (hp.lt (by omega)) (hp.lt (by omega)) (hp.lt (by omega)) (sd i _ (by omega) mk) e'
theorem zm8 {Q:Array Nat->Shared->Prop}(q:∀p',PP n p'->Sd b n p'->Q p' s):∀(f k:Nat) (p:Array Nat),PP n p->k+f=n->Sd b k p->(kas_bin f p k).kasWp cmp Q s
 | 0,k,p,hp,h1,sd=>q p hp ((show k=n by omega)▸sd)
 | f + 1,k,p,hp,h1,sd=>by
  unfold kas_bin
  rw[lcV]
  refine zen O hc hp (show k<n by omega) sd (λl hl ha hb=>?_) k 0 k (lbm _) (lu _) (by omega) (λi hi=>by omega) (λi hi hk=>by omega)
  have hs:=hp.size
  have e:∀i,(bubble p k (k - l)).getD i 0=if i=l then p.getD k 0 else if l<i/\i<=k then p.getD (i - 1) 0 else p.getD i 0:=λi=>by
   rw[gd,getElem?_bubble (by omega) _ (by omega)]
   rw[show k - (k - l)=l by omega]
   repeat' split
   all_goals rw[gd]
  refine zm8 q f (k+1) (bubble p k (k - l)) (((bubble_perm p k _).toList).trans hp) (by omega) λi j hij hj=>?_
  rw[e i,e j]
  by_cases c1:i=l
  ·rw[lO c1,lY (by omega),lO (by omega)]
   exact hb _ (by omega) (by omega)
  ·rw [lY c1]
   by_cases c2:j=l
   ·rw[lO c2,lY (by omega)]
    exact ha i (by omega)
   ·rw [lY c2]
    by_cases c3:l<j
    ·rw[lO (show l<j/\j<=k by omega)]
     by_cases c4:l<i
     ·rw[lO (by omega)];exact sd _ _ (by omega) (by omega)
     ·rw[lY (by omega)];exact sd _ _ (by omega) (by omega)
    ·rw[lY (show ¬(l<j/\j<=k) by omega),lY (by omega)]
     exact sd _ _ hij (by omega)
theorem znF (h2:2<=n){Q:Array Nat->Shared->Prop}(q:∀p',PP n p'->Sd b n p'->Q p' s):(kas_sort n).kasWp cmp Q s:=by
 unfold kas_sort
 rw[lcV]
 refine zms O hc (p:=List.toArray (List.range n)) (by unfold PP;exact lbw _) h2 λm p' hp a1 a2 a3=>?_
 dsimp only
 by_cases g:m<n
 ·rw[lO g]
  rw[show max m 1=m by omega]
  exact zm8 O hc q (n - m) m p' hp (by omega) a3
 ·rw[lY g]
  exact q p' hp ((show m=n by omega)▸a3)
end
def zmB:Key->Key->Bool
 | .inl i,.inl j=>decide (i<j)
 | .inr a,.inr b=>decide (a.cps.toList<b.cps.toList)
 | _,_=>false
def zq5:Key->Key->Bool
 | .inl _,.inl _=>true
 | .inr _,.inr _=>true
 | _,_=>false
def zdu:List Key->List Key->Bool
 | [],[]=>false
 | [],_::_=>true
 | _::_,[]=>false
 | x::xs,y::ys=>if x=y then zdu xs ys else zmB x y
def zkg:List Key->List Key->Bool
 | x::xs,y::ys=>zq5 x y&&zkg xs ys
 | _,_=>true
section
variable {prog:Program}{w:World}{A:Around}{E:qQ2}{s:Shared}
theorem zpS {p q:Value}{b:Bool}{Q:Bool->Shared->Prop}(o:zq5 x y=true)(rp:RelV (kV x) p)(rq:RelV (kV y) q)(h:Q (zmB x y) s):wpAny (model prog w) A (oneLt' b p q) Q E s:=by
 cases x with
 | inl i =>
  cases y with
  | inl j =>
   obtain⟨t,rfl⟩:=rp
   obtain⟨u,rfl⟩:=rq
   cases b with
   | true=>exact oneLt_int h
   | false=>exact kat_one _ _ (lt_int h)
  | inr j=>cases o
 | inr i =>
  cases y with
  | inl j=>cases o
  | inr j =>
   obtain⟨t,rfl⟩:=rp
   obtain⟨u,rfl⟩:=rq
   cases b with
   | true=>exact oneLt_str h
   | false=>exact kat_one _ _ (lt_str h)
theorem zpi {p q:Value}{Q:Bool->Shared->Prop}(o:zq5 x y=true)(rp:RelV (kV x) p)(rq:RelV (kV y) q)(h:Q (decide (x=y)) s):wpAny (model prog w) A (eqBool p q) Q E s:=by
 cases x with
 | inl i =>
  cases y with
  | inl j =>
   obtain⟨t,rfl⟩:=rp
   obtain⟨u,rfl⟩:=rq
   refine wpAny_eqBool_int ?_
   have:(i == j)=decide ((Sum.inl i:Key)=.inl j):=by by_cases z:i=j <;>simp[z]
   rw[this];exact h
  | inr j=>cases o
 | inr i =>
  cases y with
  | inl j=>cases o
  | inr j =>
   obtain⟨t,rfl⟩:=rp
   obtain⟨u,rfl⟩:=rq
   refine wpAny_eqBool_str ?_
   have:decide (i=j)=decide ((Sum.inr i:Key)=.inr j):=by by_cases z:i=j <;>simp[z]
   rw[this];exact h
theorem zjr {fin:Bool}{Q:Bool->Shared->Prop}:∀(xs ys:List Key) (us vs:List Value) (i:Nat),Vals (xs.map kV) us->Vals (ys.map kV) vs->zkg xs ys=true->fin=decide (xs.length<ys.length)->Q (zdu xs ys) s->KatLex prog w A true fin Q (us.zip vs) i s
 | [],[],us,vs,i,r1,r2,o,f,q=>by
  cases r1;cases r2
  refine kat_nil ?_
  rw[f];exact q
 | [],y::ys,us,vs,i,r1,r2,o,f,q=>by
  cases r1
  refine kat_nil ?_
  rw[f,lP (by simp)];exact q
 | x::xs,[],us,vs,i,r1,r2,o,f,q=>by
  cases r2
  rw[List.zip_nil_right]
  refine kat_nil ?_
  rw[f,lS (by simp)];exact q
 | x::xs,y::ys,us,vs,i,r1,r2,o,f,q=>by
  cases r1 with
  | cons rp r1 =>
  cases r2 with
  | cons rq r2 =>
  unfold zkg at o
  rw[lG] at o
  rw[lbA]
  refine kat_cons (zpi o.1 rp rq ?_)
  unfold zdu at q
  by_cases z:x=y
  ·rw[lP z]
   rw[lO z] at q
   exact kat_yes (zjr xs ys _ _ (i+1) r1 r2 o.2 (by rw[f];simp) q)
  ·rw[lS z]
   rw[lY z] at q
   exact kat_no (zpS o.1 rp rq q)
end
theorem zl4:∀{a b:List Nat},¬a<b->a≠b->b<a:=λ{a b} h z=>by
 have h1:=la7.mp h
 rcases Classical.em (b<a) with c|c
 ·exact c
 ·exact absurd (ldp (la7.mp c) h1) z
theorem zqk {a b:Str}(h:a.cps.toList=b.cps.toList):a=b:=by
 cases a;cases b
 simp only at h
 congr 1
 exact Array.toList_inj.mp h
theorem zmp (o:zq5 x y=true)(z:x≠y)(h:zmB x y=false):zmB y x=true:=by
 cases x with
 | inl i =>
  cases y with
  | inl j =>
   have h':decide (i<j)=false:=h
   have:i≠j:=λe=>z (by rw[e])
   have h2:=ldW h'
   show decide (j<i)=true
   exact lP (by omega)
  | inr j=>cases o
 | inr i =>
  cases y with
  | inl j=>cases o
  | inr j =>
   have h2:=ldW (show decide (i.cps.toList<j.cps.toList)=false from h)
   exact lP (zl4 h2 λe=>z (by rw[zqk e]))
theorem znH (x:Key):zmB x x=false:=by
 cases x with
 | inl i=>exact lS (by omega)
 | inr i=>exact lS (lcg _)
theorem zn9:∀{x y z:Key},zmB x y=true->zmB y z=true->zmB x z=true
 | .inl i,.inl j,.inl k,h1,h2=>by
  have a:i<j:=laZ h1
  have b:j<k:=laZ h2
  exact lP (by omega)
 | .inr i,.inr j,.inr k,h1,h2=>lP (lea (laZ h1) (laZ h2))
 | .inl _,.inr _,_,h1,_=>by cases h1
 | .inr _,.inl _,_,h1,_=>by cases h1
 | .inl _,.inl _,.inr _,_,h2=>by cases h2
 | .inr _,.inr _,.inl _,_,h2=>by cases h2
theorem zhe:∀xs:List Key,zdu xs xs=false
 | []=>rfl
 | x::xs=>by unfold zdu;rw[lO rfl];exact zhe xs
theorem zeV:∀{xs ys:List Key},zkg xs ys=true->xs≠ys->zdu xs ys=false->zdu ys xs=true
 | [],[],_,z,_=>absurd rfl z
 | [],_::_,_,_,h=>by cases h
 | _::_,[],_,_,_=>rfl
 | x::xs,y::ys,o,z,h=>by
  unfold zkg at o
  rw[lG] at o
  unfold zdu at h ⊢
  by_cases e:x=y
  ·rw[lO e] at h
   rw[lO e.symm]
   exact zeV o.2 (λq=>z (by rw[e,q])) h
  ·rw[lY e] at h
   rw[lY λq=>e q.symm]
   exact zmp o.1 e h
theorem zeb:∀{xs ys zs:List Key},zdu xs ys=true->zdu ys zs=true->zdu xs zs=true
 | [],[],_,h,_=>by cases h
 | [],_::_,[],_,h=>by cases h
 | [],_::_,_::_,_,_=>rfl
 | _::_,[],_,h,_=>by cases h
 | _::_,_::_,[],_,h=>by cases h
 | x :: xs,y::ys,z::zs,h1,h2=>by
  unfold zdu at h1 h2 ⊢
  by_cases e1:x=y
  ·subst e1
   rw[lO rfl] at h1
   by_cases e2:x=z
   ·rw[lO e2] at h2 ⊢
    exact zeb h1 h2
   ·rw[lY e2] at h2 ⊢
    exact h2
  ·rw [lY e1] at h1
   by_cases e2:y=z
   ·subst e2
    rw[lY e1]
    exact h1
   ·rw [lY e2] at h2
    have h3:=zn9 h1 h2
    by_cases e3:x=z
    ·subst e3
     rw[znH] at h3
     cases h3
    ·rw[lY e3]
     exact h3
section
variable {prog:Program}{w:World}{A:Around}{E:qQ2}{s:Shared}
abbrev uO (h:Heap)(a:Addr)(vs:List Value):Heap:=((h.update a (Obj.mapSeq λ_=>#[])).push (seqObj "tuple" vs.toArray 0)).push (seqObj "list" #[] 0)
theorem zcX {κ:SortKind}{b:Nat->Nat->Bool}{a:Addr}{vs:List Value}{n:Nat}{P:PySem.Fin->Shared->Prop}(ho:s.heap.get? a=some (seqObj "list" vs.toArray n))(O:Ord vs.length b)
  (hkk:2<=vs.length->∀(Q:SortKind->Shared->Prop),Q κ {s with heap:=uO s.heap a vs}->wpAny (model prog w) A (keyKind' vs.toArray) Q E {s with heap:=uO s.heap a vs})
  (hc:∀i j (C:Bool->Shared->Prop),i<vs.length->j<vs.length->C (b i j) {s with heap:=uO s.heap a vs}->kas_ask prog w A κ vs i j C {s with heap:=uO s.heap a vs}) (h64:vs.length<64)
  (h:∀p,PP vs.length p->Sd b vs.length p->P (.done (.ret .none)) {s with heap:=sortedHeap s.heap a vs (List.toArray (p.toList.map λi=>vs.getD i Value.none))}) :
  wpAny (model prog w) A (Builtin.«list.sort» ⟨[.ref a],[]⟩) P E s:=by
 rw[list_sort_plain]
 have ha:a<s.heap.objs.size:=ly ho
 refine la (ldX ho rfl ?_)
 refine la (ldy ho rfl ?_)
 obtain⟨e1,ho1⟩:∃e1,(s.heap.update a (Obj.mapSeq λ_=>#[])).get? a=some (seqObj "list" #[] e1):=⟨_,get?_update_seq ho (λ_=>#[])⟩
 refine la (seqEpoch_at ho1 rfl ?_)
 refine la (ldY ?_)
 refine la (ldx ?_)
 refine laR ?_
 have ho6:(uO s.heap a vs).get? a=some (seqObj "list" #[] e1):=by
  rw[lc8 _ _ _ (by rw[size_push',lcB];exact lR (lb4 ha)),lc8 _ _ _ (by rw[lcB];exact lR ha)]
  exact ho1
 show wpAny (model prog w) A _ P E {s with heap:=uO s.heap a vs}
 dsimp only
 have hsz:vs.toArray.size=vs.length:=by simp
 by_cases h2:vs.toArray.size<2
 ·rw [lO h2,lO h2]
  refine la (lq ?_)
  rw[StateT.run_pure]
  refine la (lq ?_)
  dsimp only
  refine la (seqEpoch_at ho6 rfl ?_)
  refine la (ldy ho6 rfl ?_ (hsz2:=by rw[Array.size_map];show(pairsOf vs).size<=_;rw[pairsOf_size,laQ];omega))
  simp only[bne_self_eq_false,lQ,la3]
  have f:=h (List.toArray (List.range vs.length)) (lbw _) (λi j hij hj=>by omega)
  have e:(List.toArray ((List.toArray (List.range vs.length)).toList.map λi=>vs.getD i Value.none))=(vs.toArray.zip vs.toArray).map (·.2):=by
   apply Array.toList_inj.mp
   apply lek
   ·simp
   ·intro i h1 h2
    have hi:i<vs.length:=by simpa using h1
    simp[hi]
  rw[e] at f
  exact lq f
 ·rw [lY h2,lY h2]
  rw[hsz] at h2
  refine la (hkk (by omega) _ ?_)
  refine la (laT (kat_run (ks:=vs) (κ:=κ) (Q:=λst' s'=>s'={s with heap:=uO s.heap a vs}/\∃p:Array Nat,PP vs.length p/\Sd b vs.length p/\arrOf st'=p.map (kas_item (vs.toArray.zip vs.toArray))/\failedOf st'=none)
   (G:=λp s'=>s'={s with heap:=uO s.heap a vs}/\PP vs.length p/\Sd b vs.length p) rfl (by omega) h64 (λp st' s' a1 a2 a3 a4=>⟨a4.1,p,a4.2.1,a4.2.2,a2,a3⟩)
   (znF O hc (by omega) λp' q1 q2=>⟨rfl,q1,q2⟩)) ?_ λ_ _ e=>e)
  rintro⟨⟨⟩,st'⟩ s' ⟨rfl,p,hp,sd,har,hf⟩
  dsimp only
  have hout:=kat_snds (ks:=vs) rfl har
  rw[hout]
  have hz:(List.toArray (p.toList.map λi=>vs.getD i Value.none)).size=vs.length:=by rw[lI,lD,lbs];exact hp.size
  refine la (seqEpoch_at ho6 rfl ?_)
  refine la (ldy ho6 rfl ?_ (hsz2:=by rw[hz,laQ];omega))
  rw[hf]
  simp only[bne_self_eq_false,lQ,la3]
  exact lq (h p hp sd)
end
def zsT:Key->Bool
 | .inl _=>true
 | .inr _=>false
structure Srtb (kss:List (List Key)):Prop where
 ne:∃c,∀ks∈kss,∃k r,ks=k::r/\zsT k=c
 ok:∀x∈kss,∀y∈kss,zkg x y=true
 nd:kss.Nodup
section
variable {X:Cx}
theorem Srtb.ord {kss:List (List Key)}(h:Srtb kss):Ord kss.length λi j=>zdu (kss.getD i []) (kss.getD j []):=by
 have mem:∀i,i<kss.length->kss.getD i []∈kss:=λi hi=>by rw[lh,lb hi];exact laK hi
 refine⟨λi j k _ _ _ a b=>zeb a b,λi j hi hj hij e=>zeV (h.ok _ (mem i hi) _ (mem j hj)) (λz=>hij ?_) e,λi _=>zhe _⟩
 rw[lh,lh,lb hi,lb hj] at z
 have pw:=lcz.mp h.nd
 rcases Nat.lt_trichotomy i j with c|c|c
 ·exact absurd z (pw i j hi hj c)
 ·exact c
 ·exact absurd z.symm (pw j i hj hi c)
end
def zlK (x:D):List D->List D
 | []=>[x]
 | y::ys=>if zdu (zam x) (zam y) then x::y::ys else y::zlK x ys
def zk2 (ds:List D):List D:=ds.foldr zlK []
theorem zdk (x:D):∀ys:List D,(zlK x ys).Perm (x::ys)
 | []=>lbw _
 | y::ys=>by
  unfold zlK
  split
  ·exact lbw _
  ·exact((zdk x ys).cons y).trans (List.Perm.swap x y ys)
theorem zad:∀ds:List D,(zk2 ds).Perm ds
 | []=>lbw _
 | d::ds=>(zdk d (zk2 ds)).trans ((zad ds).cons d)
def RisP (ds:List D):Prop:=ds.Pairwise λa b=>zdu (zam a) (zam b)=true
theorem zib {x:D}:∀{ys:List D},RisP ys->(∀y∈ys,zkg (zam x) (zam y)=true/\zam x≠zam y)->RisP (zlK x ys)
 | [],_,_=>lcW _ _
 | y :: ys,r,h=>by
  unfold zlK
  obtain⟨r1,r2⟩:=laF.mp r
  by_cases e:zdu (zam x) (zam y)=true
  ·rw[lO e]
   refine laF.mpr ⟨λz hz=>?_,r⟩
   rcases lz.mp hz with rfl|hz
   ·exact e
   ·exact zeb e (r1 z hz)
  ·rw [lY e]
   refine laF.mpr ⟨λz hz=>?_,zib r2 λz hz=>h z (lF _ hz)⟩
   rcases lz.mp ((zdk x ys).mem_iff.mp hz) with rfl|hz
   ·obtain⟨o,n⟩:=h y lJ
    exact zeV o n (by simpa using e)
   ·exact r1 z hz
theorem zfz:∀{ds:List D},Srtb (ds.map zam)->RisP (zk2 ds)
 | [],_=>List.Pairwise.nil
 | d::ds,h=>by
  have nd:=h.nd
  rw[lr,lbx] at nd
  have h':Srtb (ds.map zam):=by
   obtain⟨c,hc⟩:=h.ne
   exact⟨⟨c,λks hk=>hc ks (by rw[lr];exact lF _ hk)⟩,λx hx y hy=>h.ok x (by rw[lr];exact lF _ hx) y (by rw[lr];exact lF _ hy),nd.2⟩
  refine zib (zfz h') λy hy=>?_
  have hy':=(zad ds).mem_iff.mp hy
  have my:zam y∈ds.map zam:=laI.mpr ⟨y,hy',rfl⟩
  exact⟨h.ok _ (by rw[lr];exact lJ) _ (by rw[lr];exact lF _ my),λe=>nd.1 (e▸my)⟩
theorem RisP.unique {a b:List D}(ha:RisP a)(hb:RisP b)(p:a.Perm b):a=b:=lcJ (λx y _ _ h k=>by have:=zeb h k;rw[zhe] at this;cases this) ha hb p
section
variable {K:qQ0}{cl:Nat->Addr}{F:Hp}
theorem Dts.atoms:∀{vs:List V}{ds:List D},Dts K cl F vs ds->ds.all isAt=true->vs=(ds.map kOf).map kV
 | _,_,.nil,_=>rfl
 | _,_,.cons q r,h=>by
  rw[lbv,lG] at h
  have e:=Dts.atoms r h.2
  cases q with
  | int i=>rw[e];rfl
  | str l ok=>rw[e];rfl
  | _=>simp[isAt] at h
theorem Dts.tups:∀{vs:List V}{ds:List D},Dts K cl F vs ds->(∀d∈ds,zkk d=true)->∃ts:List Addr,vs=ts.map V.ref/\ts.length=ds.length/\∀i,i<ds.length->SqT K F (ts.getD i 0) (((ds.map zam).getD i []).map kV)
 | _,_,.nil,_=>⟨[],rfl,rfl,λi hi=>by simp at hi⟩
 | _,_,.cons q r,h=>by
  obtain⟨ts,e1,e2,e3⟩:=Dts.tups r λd hd=>h d (lF _ hd)
  have h0:=h _ lJ
  cases q with
  | tup sq dq =>
   rename_i a xs ds'
   have ex:=dq.atoms h0
   refine⟨a::ts,by rw[e1];rfl,by simp[e2],λi hi=>?_⟩
   cases i with
   | zero=>show SqT K F a ((ds'.map kOf).map kV);rw[← ex];exact sq
   | succ i=>exact e3 i (by simpa using hi)
  | _=>simp[zkk] at h0
end
section
variable {X:Cx}{cl:Nat->Addr}{E:XK}{e:Expr}{fa:qQ5}{p pos:Pos}
theorem zpE {α:Type}{d:α}(ds:List α)(π:List Nat)(hp:π.Perm (List.range ds.length)):(π.map λi=>ds.getD i d).Perm ds:=by
 have h:=hp.map λi=>ds.getD i d
 have e:(List.range ds.length).map (λi=>ds.getD i d)=ds:=by
  apply lek
  ·simp
  ·intro i h1 h2
   simp[h2]
 rw[e] at h
 exact h
end
end L2
namespace L2
open PySem PySem.Spec PyProof.Rows
variable {mg:qQ3}
def gz:D->Option (List D)
 | .tup ds=>some ds
 | .lst ds=>some ds
 | .str l=>if l.all (· < 128) then some (l.map λc=>.str [c]) else none
 | _=>none
inductive Dz (K:qQ0)(x:Str)(st:Stmt):Prop
 | mk {f:Addr}{oc kV dc pm cd ct:Value}{od an:Option Addr}{sl:Array (Option Value)} (a:PySem.W.nsIn K mainGlobals x=some (some (.ref f))) (l:K.lookup f=some ⟨oc,od,.func (PySem.W.fnOf x x (zaJ st) (wV st) (zu st) .none kV dc pm an cd ct),sl⟩) (c:PySem.W.codeIn K cd x=true) (k:PySem.W.keepIn K (.ref f)=true):Dz K x st
theorem Dz.dn {K:qQ0}{h:Heap}{x:Str}{st:Stmt}(z:Dz K x st)(X:K.In h)(G:h.Ns mainGlobals mg)(ps:List Str)(hb:∀(kV doc pm:Value) (an:Option Addr) (cdv ct:Value) (us:List Value),us.length=ps.length->bindArgs (PySem.W.fnOf x x (zaJ st) (wV st) (zu st) .none kV doc pm an cdv ct) ⟨us,[]⟩=pure (ps.zip us)):Nonempty (Dn K mg x st ps):=by
 obtain⟨a,l,c,k⟩:=z
 exact⟨⟨_,_,zkW l c k,la4 X G a,(zkW l c k).binds hb⟩⟩
inductive Oz (K:qQ0)(x:Str):Prop
 | mk {a:Addr} (y:PySem.W.nsIn K mainGlobals x=some (some (.ref a))) (q:PySem.W.excIn K a [.type "ValueError", .type "Exception", .type "BaseException", .type "object"] "ValueError.__new__" = true):Oz K x
theorem Oz.ow {K:qQ0}{h:Heap}{x:Str}(z:Oz K x)(X:K.In h)(G:h.Ns mainGlobals mg):Nonempty (Own K mg x):=by
 obtain⟨y,q⟩:=z
 exact⟨⟨_,la4 X G y,q⟩⟩
section
variable {α:Type}{p:List α->Prop}
theorem bd0 (h:p [])(us:List α)(e:us.length=0):p us:=by obtain rfl:=lbp.mp e;exact h
theorem bd1 (h:∀a,p [a])(us:List α)(e:us.length=1):p us:=by obtain⟨_,rfl⟩:=zsb e;exact h _
theorem bd2 (h:∀a b,p [a,b])(us:List α)(e:us.length=2):p us:=by obtain⟨_,_,rfl⟩:=zsh e;exact h _ _
theorem bd3 (h:∀a b c,p [a,b,c])(us:List α)(e:us.length=3):p us:=by obtain⟨_,_,_,rfl⟩:=zr8 e;exact h _ _ _
theorem bd4 (h:∀a b c d,p [a,b,c,d])(us:List α)(e:us.length=4):p us:=by obtain⟨_,_,_,_,rfl⟩:=zso e;exact h _ _ _ _
theorem bd5 (h:∀a b c d f,p [a,b,c,d,f])(us:List α)(e:us.length=5):p us:=by obtain⟨_,_,_,_,_,rfl⟩:=zsZ e;exact h _ _ _ _ _
end
end L2
namespace L2
open PySem PySem.W PySem.Spec PyProof.Rows
variable {x:Str}{cl:Nat->Addr}
def fsB (N P:List Str)(sc:Scope):Bool:=decide (sc.kind=.function) && !sc.isCoroutine && !sc.isGenerator&&decide N.Nodup&&decide (N.take P.length=P)&&P.all (λx=>decide (sc.names.lookup x=some .local∨sc.names.lookup x=some .cell))&&sc.names.all λy=>decide (y.2≠.free)
theorem fsc {N P:List Str}{sc:Scope}(h:fsB N P sc=true):FnScope N P sc:=by
 unfold fsB at h
 simp only[lG,lae,lag,lb5] at h
 exact⟨h.1.1.1.1.1.1,h.1.1.1.1.1.2,h.1.1.1.1.2,h.1.1.1.2,h.1.1.2,h.1.2,h.2⟩
section
variable {X:Cx}{cl:Nat->Addr}{E:XK}{x:Str}{p pos:Pos}{e:Expr}{es:List Expr}{fs:qQ4}{k k' n:Nat}{st:Stmt}{ps:List Str}{d:Dn X.K X.mg x st ps}{fn:List D->Rs D}
theorem zy (G:FnOk X.prog X.w X.K X.mg X.base (CX1 X.prog X.w) k d.f d.fd ps (spD X.K cl fn n))(hr:Room k' X.A)(hx:zcL (CX1 X.prog X.w) X E)(ha:XA X cl E (e::es) fs)(he:starEach (e::es) X.env=(false,eval e X.env)::starEach es X.env)(hk:k<=k':=by decide)(hg:Gl X x:=by rfl)(hdb:(x == ("__debug__" : Str))=false:=by decide)(hpl:(backTo pos (starEach es X.env)).any (·.1)=false:=by rfl):XE X cl E (.Call (.Name x p) (e::es) [] pos) (fA (ari n fn) fs) :=
 zox G (hr.mono hk) hg d.mg d.fn.kp d.bd hx ha he hdb hpl
theorem zqa {les:List Expr}{lfs:List Addr}{fns:List (List D->Rs D)}(G:FnOk X.prog X.w X.K X.mg X.base (CX1 X.prog X.w) k d.f d.fd ps (spD X.K cl fn n))(hr:Room k' X.A)(r:FnsIn X cl n les lfs fns)(hk:k<=k':=by decide)(hg:Gl X.nox x:=by rfl)(hs:starEach (.Name x p::les) X.env=(false,eval (.Name x p) X.env)::starEach les X.env:=by exact zb)(hdb:(x == ("__debug__" : Str))=false:=by decide):FnsIn X cl n (.Name x p::les) (d.f::lfs) (fn::fns) :=
 .cons (xX (v:=.ref d.f) hg d.mg rfl (hd:=hdb)) (fnIn G (hr.mono hk) d.fn.kp d.bd) r hs
end
noncomputable def Dz.D {K:qQ0}{h:Heap}{mg:qQ3}{x:Str}{st:Stmt}{ps:List Str}(z:Dz K x st)(X:K.In h)(G:h.Ns mainGlobals mg)(hb:∀(kV doc pm:Value) (an:Option Addr) (cdv ct:Value) (us:List Value),us.length=ps.length->bindArgs (PySem.W.fnOf x x (zaJ st) (wV st) (zu st) .none kV doc pm an cdv ct) ⟨us,[]⟩=pure (ps.zip us):=by first|exact λ_ _ _ _ _ _=>bd2 λ_ _=>rfl|exact λ_ _ _ _ _ _=>bd1 λ_=>rfl|exact λ_ _ _ _ _ _=>bd3 λ_ _ _=>rfl|exact λ_ _ _ _ _ _=>bd4 λ_ _ _ _=>rfl|exact λ_ _ _ _ _ _=>bd0 rfl|exact λ_ _ _ _ _ _=>bd5 λ_ _ _ _ _=>rfl):Dn K mg x st ps:=Classical.choice (z.dn X G ps hb)
theorem vA {P:Program}{w:World}{K:qQ0}{mg:qQ3}{base:Heap}{st:Stmt}{N ps:List Str}(m n k:Nat)(g:Rho->Out)(cl:Nat->Addr)(d:Dn K mg x st ps)(S:FnScope N ps (zu st))
  (hb:∀(cdv:Value) (A:Around) (outer:List Env) (s:Shared) (H:Hp) (E:XK),Room k (A.deeper (envOfC x (zu st) s.heap.objs.size d.f cdv))->XSs (zaW (CX1 P w) P w K mg base N x (zu st) d.f cdv A outer s H E) cl E (wV st) g) (hm:N.length=m:=by rfl) (hn:ps.length=n:=by rfl):FnOk P w K mg base (CX1 P w) (k+1) d.f d.fd ps (spD K cl (zX m g) n) :=
 fnD (N:=N) (ps:=ps) (k:=k) (m:=m) (n:=n) (g:=g) (cl:=cl) d.fn S hm hn hb
theorem xv {X:Cx}{E:XK}(i:Nat){pos:Pos}(hN:X.N[i]? = some x:=by rfl)(hv:Vis X.env.scope x:=by first|exact Or.inl rfl|exact Or.inr (Or.inl rfl)|exact Or.inr (Or.inr rfl))(hd:(x == ("__debug__" : Str))=false:=by decide)(hcd:(x == ("__classdict__" : Str))=false:=by decide):XE X cl E (.Name x pos) (fNm i):=znx i (pv i hN hv hd hcd)
theorem kj {X:Cx}{E:XK}{j pos}(l:List Nat)(h:(decide (x=T l)&&l.all (λc=>decide (c<0x110000))&&decide (l.length<=1000000))=true):XE X cl E (.Constant (.str x) j pos) (fC (.str l)):=by
 simp only[lG,lae,lag] at h
 exact zm1 h.1.1 (ze5 h.1.2 h.2)
end L2
set_option maxHeartbeats 4000000
namespace Pg
open PySem L2 PyProof.Rows
def uQ:Rho->Out :=
  (zO (sIf (bT (f2 (eqD false) (fNm 0) (fO mkL zF)))
  (yI (f2 jP (fC (.int 7)) (fNm 1)))
  sNx)
  (yI (f2 zaa (f2 ixD (fNm 0) (f2 zfR (fNm 1) (fO qN (zj (fNm 0) zF)))) (f2 jP (fC (.int 6553)) (f2 zc7 (fNm 1) (fO qN (zj (fNm 0) zF)))))))
def qm:List D->Rs D:=zX 2 uQ
def v7:Rho->Out :=
  (zO (z6 3 (f2 zfR (f2 zaa (f2 jP (f2 zfR (fA (ari 2 qm) (zj (fNm 0) (zj (fNm 1) zF))) (fC (.int 2147483563))) (fC (.int 69069))) (f2 jP (fC (.int 104723)) (f2 zaa (fNm 1) (fC (.int 1))))) (fC (.int 2147483563))))
  (zO (z6 3 (f2 zfR (f2 zaa (f2 jP (fNm 3) (fNm 3)) (f2 zc7 (fNm 3) (fC (.int 3)))) (fC (.int 2147483399))))
  (yI (f2 zfR (f2 zc7 (f2 zfR (f2 zaa (f2 jP (fNm 3) (fNm 3)) (f2 zc7 (fNm 3) (fC (.int 7)))) (fC (.int 2147483647))) (fC (.int 11))) (fNm 2)))))
def yw:List D->Rs D:=zX 4 v7
def qO:Rho->Out :=
  (zO (ji 1)
  (zO (uw (vz 2 (fI tpD (fNm 0))
  (vz 3 (fR zfC (zj (fO qN (zj (fNm 2) zF)) zF))
  (zbL 1 (fSl (fNm 2) xQ (xN (fNm 3))) (fC (.bl true))))))
  (yI (fLs (fSD 1)))))
def jh:List D->Rs D:=zX 4 qO
def jk:Rho->Out :=
  (yI (fO zn8 (zj (fLs (fCz (fNm 0) (fSl (fNm 0) (xN (fC (.int 1))) xQ) xU (f2 ltS (fNm 0) (fNm 1)) [])) zF)))
def qe:List D->Rs D:=zX 1 jk
def zbA:Rho->Out :=
  (yI (zck (f1 (zd6 isInt) (fNm 0)) (ze4 (f1 (zd6 isBool) (fNm 0)))))
def zaw:List D->Rs D:=zX 1 zbA
def qu:Rho->Out :=
  (yI (zck (fA (ari 1 zaw) (zj (fNm 0) zF)) (fCh leI leI (fNm 1) (fNm 0) (fNm 2))))
def wF:List D->Rs D:=zX 3 qu
def yH:Rho->Out :=
  (yI (fA (ari 3 wF) (zj (fNm 0) (zj (fC (.int 2)) (zj (fO qN (zj (fC (.str [97,98,99,100])) zF)) zF)))))
def yc:List D->Rs D:=zX 1 yH
def u5:Rho->Out :=
  (zO (z6 2 (fSl (fC (.str [97,98,99,100])) xQ (xN (fNm 0))))
  (yI (zck (f1 (zd6 isStr) (fNm 1)) (fO zn8 (zj (vX (fI sgD (fNm 1)) xU (f2 (inC false) (fNm 0) (fNm 1)) [2]) zF)))))
def xu:List D->Rs D:=zX 3 u5
def qj:Rho->Out :=
  (zO (sIf (bOr (zb1 (bT (fA (ari 1 yc) (zj (fNm 0) zF)))) (zb1 (bT (f1 (zd6 isTup) (fNm 1)))))
  (yI (fC (.bl false)))
  sNx)
  (zO (sIf (zb1 (bT (fCh leI leI (fC (.int 1)) (fO qN (zj (fNm 1) zF)) (fC (.int 32)))))
  (yI (fC (.bl false)))
  sNx)
  (zO (sIf (zb1 (bT (fO zn8 (zj (vX (fI tpD (fNm 1)) xU (zck (fA (ari 2 xu) (zj (fNm 1) (zj (fNm 0) zF))) (f2 (eqD true) (fNm 0) (fC (.str [])))) [0]) zF))))
  (yI (fC (.bl false)))
  sNx)
  (yI (fA (ari 1 qe) (zj (fNm 1) zF))))))
def w5:List D->Rs D:=zX 2 qj
def xZ:Rho->Out :=
  (zO (uw (jo 1 2 (fNm 0) (fSl (fNm 0) (xN (fC (.int 1))) xQ)
  (sIf (bT (fM isS xY (fNm 2) (fNm 1)))
  (yI (fO mkT (zj (fNm 1) (zj (fNm 2) zF))))
  sNx)))
  (yI (fC .non)))
def xg:List D->Rs D:=zX 3 xZ
def jD:Rho->Out :=
  (zO (jq 2 (fL szL zF))
  (zO (uw (vz 3 (fI lsD (fNm 1))
  (vz 4 (fI sgD (fSl (fC (.str [97,98,99,100])) xQ (xN (fNm 0))))
  (zdD 2 (f2 zoh (fNm 3) (fNm 4))))))
  (zfc 2 (yI (fNm 2)))))
def yt:List D->Rs D:=zX 5 jD
def zan:Rho->Out :=
  (yI (ze4 (fO zpy (zj (vX (fI tpD (fNm 0)) xU (fOr (fM isS xY (fNm 0) (fNm 1)) (fM isS xY (fNm 1) (fNm 0))) [1]) zF))))
def yg:List D->Rs D:=zX 2 zan
def zag:Rho->Out :=
  (yI (fO zpy (zj (vX (fI tpD (fNm 0)) xU (zck (fM isS xY (fNm 0) (fNm 1)) (f2 (eqD true) (fNm 0) (fNm 1))) [1]) zF)))
def ye:List D->Rs D:=zX 2 zag
def vh:Rho->Out :=
  (zO (z6 2 (fO mkL (zj (fC (.str [])) zF)))
  (zO (uw (sWh 2000 (bT (f2 (eqD true) (fNm 2) (fO mkL zF)))
  (zO (z6 3 (fA (ari 2 yt) (zj (fNm 0) (zj (fNm 2) zF))))
  (zO (vz 4 (fI lsD (fNm 3))
  (sIf (bT (fA (ari 2 yg) (zj (fNm 1) (zj (fNm 4) zF))))
  (yI (fNm 4))
  sNx))
  (wK 2 (fCp (fI lsD (fNm 3)) (bT (fA (ari 2 ye) (zj (fNm 1) (zj (fNm 0) zF)))) (fNm 0) [1]))))))
  (yI (fC .non))))
def xG:List D->Rs D:=zX 5 vh
def w6:Rho->Out :=
  (zO (z6 2 (fA (ari 1 xg) (zj (fNm 1) zF)))
  (zO (sIf (bT (f1 (isN true) (fNm 2)))
  (yI (fNm 2))
  sNx)
  (yI (fA (ari 2 xG) (zj (fNm 0) (zj (fNm 1) zF))))))
def vW:List D->Rs D:=zX 3 w6
def zcT:Rho->Out :=
  (yI (zck (fA (ari 2 w5) (zj (fNm 0) (zj (fNm 1) zF))) (f1 (isN false) (fA (ari 2 vW) (zj (fNm 0) (zj (fNm 1) zF))))))
def vJ:List D->Rs D:=zX 2 zcT
def qG:Rho->Out :=
  (sIf (zb1 (bT (fA (ari 2 vJ) (zj (fNm 0) (zj (fNm 1) zF)))))
  (sRs 1 (zj (fC (.str [116,104,105,115,32,105,115,32,110,111,32,98,111,111,107,32,111,102,32,115,111,32,109,97,110,121,32,108,101,116,116,101,114,115])) zF))
  sNx)
def wQ:List D->Rs D:=zX 2 qG
def vG:Rho->Out :=
  (sIf (zb1 (bT (fA (ari 2 xu) (zj (fNm 0) (zj (fNm 1) zF)))))
  (sRs 3 (zj (fC (.str [116,104,105,115,32,105,115,32,110,111,32,116,101,120,116,32,111,102,32,116,104,101,115,101,32,108,101,116,116,101,114,115])) zF))
  sNx)
def vm:List D->Rs D:=zX 2 vG
def jd:Rho->Out :=
  (zO (z6 3 (f2 ixD (fO mkL (zj (fC (.int 3)) (zj (fC (.int 9)) (zj (fC (.int 99)) zF)))) (fA (ari 3 yw) (zj (fNm 0) (zj (fNm 1) (zj (fC (.int 3)) zF))))))
  (yI (fO zny (zj (vX (fR zfC (zj (fNm 2) zF)) xU (f2 zaa (fC (.int 1)) (fA (ari 3 yw) (zj (fNm 1) (zj (f2 zaa (f2 zaa (fNm 3) (fC (.int 1))) (fNm 0)) (zj (fNm 2) zF))))) [0,3,1]) zF))))
def qK:List D->Rs D:=zX 4 jd
def zaU:Rho->Out :=
  (yI (fA (ari 3 wF) (zj (fNm 0) (zj (fC (.int 1)) (zj (fC (.int 99)) zF)))))
def qt:List D->Rs D:=zX 1 zaU
def zay:Rho->Out :=
  (zO (sIf (zb1 (bT (f1 (zd6 isTup) (fNm 0))))
  (yI (fC (.bl false)))
  sNx)
  (zO (sIf (zb1 (bT (fCh leI leI (fC (.int 2)) (fO qN (zj (fNm 0) zF)) (fO qN (zj (fC (.str [97,98,99,100])) zF)))))
  (yI (fC (.bl false)))
  sNx)
  (yI (fO zn8 (zj (vX (fI tpD (fNm 0)) xU (fA (ari 1 qt) (zj (fNm 0) zF)) []) zF)))))
def vZ:List D->Rs D:=zX 1 zay
def uh:Rho->Out :=
  (sIf (zb1 (bT (fA (ari 1 vZ) (zj (fNm 0) zF))))
  (sRs 0 (zj (fC (.str [116,104,105,115,32,105,115,32,110,111,32,116,117,112,108,101,32,111,102,32,50,32,116,111,32,52,32,119,101,105,103,104,116,115,32,102,114,111,109,32,49,32,116,111,32,57,57])) zF))
  sNx)
def yD:List D->Rs D:=zX 1 uh
def vB:Rho->Out :=
  (zO (wY (fA (ari 1 yD) (zj (fNm 0) zF)))
  (wY (fA (ari 2 wQ) (zj (fO qN (zj (fNm 0) zF)) (zj (fNm 1) zF)))))
def zY:List D->Rs D:=zX 2 vB
def wW:Rho->Out :=
  (zO (uw (sWh 4000 (bT (f2 (eqD true) (fNm 1) (fC (.int 0))))
  (zO (z6 2 (f2 zfR (fNm 0) (fNm 1)))
  (zO (z6 0 (fNm 1))
  (z6 1 (fNm 2))))))
  (yI (fNm 0)))
def wJ:List D->Rs D:=zX 3 wW
def zez:Rho->Out :=
  (zO (z6 2 (fA (ari 2 wJ) (zj (fNm 0) (zj (fNm 1) zF))))
  (yI (fO mkT (zj (f2 zc7 (fNm 0) (fNm 2)) (zj (f2 zc7 (fNm 1) (fNm 2)) zF)))))
def za9:List D->Rs D:=zX 3 zez
def zc2:Rho->Out :=
  (zO (wY (fA (ari 1 yD) (zj (fNm 0) zF)))
  (zO (wY (fA (ari 2 vm) (zj (fO qN (zj (fNm 0) zF)) (zj (fNm 1) zF))))
  (zO (z6 2 (f2 zlO (fC (.str [97,98,99,100])) (fNm 0)))
  (zO (z6 3 (fO zqp (zj (fNm 0) zF)))
  (zO (z6 4 (fC (.int 1)))
  (zO (z6 5 (fC (.int 1)))
  (zO (uw (vz 6 (fI sgD (fNm 1))
  (zO (z6 4 (f2 jP (fNm 4) (f2 getD (fNm 2) (fNm 6))))
  (z6 5 (f2 jP (fNm 5) (fNm 3))))))
  (yI (fA (ari 2 za9) (zj (fNm 4) (zj (fNm 5) zF)))))))))))
def yO:List D->Rs D:=zX 7 zc2
def zg7:Rho->Out :=
  (yI (fA (ari 2 za9) (zj (f2 zaa (f2 jP (f2 ixD (fNm 0) (fC (.int 0))) (f2 ixD (fNm 1) (fC (.int 1)))) (f2 jP (f2 ixD (fNm 1) (fC (.int 0))) (f2 ixD (fNm 0) (fC (.int 1))))) (zj (f2 jP (f2 ixD (fNm 0) (fC (.int 1))) (f2 ixD (fNm 1) (fC (.int 1)))) zF))))
def zcl:List D->Rs D:=zX 2 zg7
def zke:Rho->Out :=
  (zO (wY (fA (ari 2 zY) (zj (fNm 0) (zj (fNm 1) zF))))
  (zO (z6 2 (fO mkT (zj (fC (.int 0)) (zj (fC (.int 1)) zF))))
  (zO (uw (vz 3 (fI tpD (fNm 1))
  (zO (z6 4 (fA (ari 2 yO) (zj (fNm 0) (zj (fNm 3) zF))))
  (z6 2 (fA (ari 2 zcl) (zj (fNm 2) (zj (fO mkT (zj (f2 jP (f2 ixD (fNm 4) (fC (.int 0))) (fO qN (zj (fNm 3) zF))) (zj (f2 ixD (fNm 4) (fC (.int 1))) zF))) zF)))))))
  (yI (fNm 2)))))
def zec:List D->Rs D:=zX 5 zke
def zcI:Rho->Out :=
  (yI (f2 ltI (f2 jP (f2 ixD (fNm 0) (fC (.int 0))) (f2 ixD (fNm 1) (fC (.int 1)))) (f2 jP (f2 ixD (fNm 1) (fC (.int 0))) (f2 ixD (fNm 0) (fC (.int 1))))))
def yM:List D->Rs D:=zX 2 zcI
def uf:Rho->Out :=
  (zO (z6 2 (f2 ixD (fNm 0) (fC (.int 0))))
  (zO (uw (vz 3 (fI tpD (fNm 0))
  (sIf (bT (fA (ari 2 yM) (zj (f2 getD (fNm 1) (fNm 2)) (zj (f2 getD (fNm 1) (fNm 3)) zF))))
  (z6 2 (fNm 3))
  sNx)))
  (yI (fNm 2))))
def yE:List D->Rs D:=zX 4 uf
def zaP:Rho->Out :=
  (zO (ji 2)
  (zO (uw (vz 3 (fI tpD (fNm 1))
  (zbL 2 (fNm 3) (fA (ari 2 yO) (zj (fNm 0) (zj (fNm 3) zF))))))
  (zl1 2 (yI (fNm 2)))))
def jM:List D->Rs D:=zX 4 zaP
def ud:Rho->Out :=
  (zO (wY (fA (ari 2 zY) (zj (fNm 0) (zj (fNm 1) zF))))
  (yI (fA (ari 2 yE) (zj (fNm 1) (zj (fA (ari 2 jM) (zj (fNm 0) (zj (fNm 1) zF))) zF)))))
def wC:List D->Rs D:=zX 2 ud
def kW:Rho->Out :=
  (zO (wY (fA (ari 2 zY) (zj (fNm 0) (zj (fNm 1) zF))))
  (zO (z6 2 (fO mkT (zj (fC (.int 1)) (zj (fC (.int 1)) zF))))
  (zO (uw (vz 3 (fI lsD (fA (ari 1 jh) (zj (fNm 1) zF)))
  (zO (z6 4 (fA (ari 2 yO) (zj (fNm 0) (zj (fNm 3) zF))))
  (sIf (bT (fA (ari 2 yM) (zj (fNm 4) (zj (fNm 2) zF))))
  (z6 2 (fNm 4))
  sNx))))
  (yI (fNm 2)))))
def vV:List D->Rs D:=zX 5 kW
def ze0:Rho->Out :=
  (zO (z6 3 (fM zse zpW (fNm 1) (fNm 2)))
  (yI (f2 zra (f2 zra (fSl (fNm 1) xQ (xN (fNm 3))) (fO zny (zj (fA (ari 2 yt) (zj (fNm 0) (zj (fO mkL (zj (fNm 2) zF)) zF))) zF))) (fSl (fNm 1) (xN (f2 zaa (fNm 3) (fC (.int 1)))) xQ))))
def jY:List D->Rs D:=zX 4 ze0
def zaE:Rho->Out :=
  (zO (z6 2 (fO mkL (zj (fC (.str [])) zF)))
  (zO (uw (vz 3 (fR zfC (zj (fNm 1) zF))
  (z6 2 (fA (ari 2 yt) (zj (fNm 0) (zj (fNm 2) zF))))))
  (yI (fO zny (zj (fNm 2) zF)))))
def jQ:List D->Rs D:=zX 4 zaE
def jK:Rho->Out :=
  (yI (fA (ari 2 jQ) (zj (fNm 0) (zj (fC (.int 1)) zF))))
def uz:List D->Rs D:=zX 1 jK
end Pg
set_option maxHeartbeats 1000000
namespace L2
open PySem
section
variable {ft:qQ6}{fe:qQ5}{ρ0 ρ:Rho}{α β:Type}{i j:Nat}{g:Rho->Out}
theorem zeG {l:List α}{enc:α->D}(p:α->Bool)(e:α->D)(h:∀x∈l,ft (ρ0.set 0 (.fz (enc x)))=.ok (p x)/\(p x=true->fe (ρ0.set 0 (.fz (enc x)))=.ok (e x))):wX ft fe ρ0 (l.map enc)=.ok ((l.filter p).map e):=by
 induction l with
 | nil=>rfl
 | cons x l ih =>
  have ih':=ih λy hy=>h y (.tail _ hy)
  obtain⟨h1,h2⟩:=h x (.head _)
  rw[lr]
  unfold wX
  rw[h1]
  cases hp:p x with
  | false=>rw[lcX (by simp[hp])];exact ih'
  | true =>
   rw[lcY hp]
   simp only[h2 hp,ih']
   rfl
theorem vq {l:List α}{enc:α->D}(e:α->D)(h:∀x∈l,fe (ρ0.set 0 (.fz (enc x)))=.ok (e x)):wX xU fe ρ0 (l.map enc)=.ok (l.map e):=by
 have:=zeG (ft:=xU) (fe:=fe) (ρ0:=ρ0) (l:=l) (enc:=enc) (λ_=>true) e λx hx=>⟨rfl,λ_=>h x hx⟩
 rwa [List.filter_eq_self.mpr λ_ _=>rfl] at this
theorem zi9 {l:List (α×β)}{enc:α->D}{enb:β->D}(e:α×β->D)(h:∀x∈l,fe ((ρ0.set 0 (.fz (enc x.1))).set 1 (.fz (enb x.2)))=.ok (e x)):jt xU fe ρ0 (l.map λx=>enc x.1) (l.map λx=>enb x.2)=.ok (l.map e):=by
 induction l with
 | nil=>rfl
 | cons x l ih =>
  have ih':=ih λy hy=>h y (.tail _ hy)
  rw[lr,lr]
  unfold jt
  simp only[xU,h x (.head _)]
  rw[ih'];rfl
theorem zfZ:∀(as bs:List D),jt ft fe ρ0 as bs=jt ft fe ρ0 ((as.zip bs).map (·.1)) ((as.zip bs).map (·.2))
 | [],_=>by simp[jt]
 | _::_,[]=>by simp[jt]
 | a::as,b::bs=>by
  rw[lbA,lr,lr]
  unfold jt
  rw[zfZ as bs]
theorem zhu:∀(as bs:List D) (ρ:Rho),forZ i j g as bs ρ=forZ i j g ((as.zip bs).map (·.1)) ((as.zip bs).map (·.2)) ρ
 | [],_,ρ=>by simp[forZ]
 | _::_,[],ρ=>by simp[forZ]
 | a::as,b::bs,ρ=>by
  rw[lbA,lr,lr,forZ.eq_1,forZ.eq_1]
  dsimp only
  cases g ((ρ.set i (.fz a)).set j (.fz b)) <;>first|rfl|exact zhu as bs _
theorem wB {l:List α}{enc:α->D}(I:Nat->Rho->Prop)(h0:I 0 ρ)(hs:∀k x ρ,l[k]? = some x->I k ρ->∃ρ',g (ρ.set i (.fz (enc x)))=.nx ρ'/\I (k+1) ρ'):∃ρ',forD i g (l.map enc) ρ=.nx ρ'/\I l.length ρ':=by
 induction l generalizing ρ I with
 | nil=>exact⟨ρ,rfl,h0⟩
 | cons x l ih =>
  obtain⟨ρ1,e1,i1⟩:=hs 0 x ρ rfl h0
  obtain⟨ρ2,e2,i2⟩:=ih (I:=λk=>I (k+1)) i1 λk y ρ hy hI=>hs (k+1) y ρ (by simpa using hy) hI
  refine⟨ρ2,?_,i2⟩
  rw[lr]
  unfold forD
  rw[e1];exact e2
theorem zk1 {l:List α}{enc:α->D}(I:Rho->Prop)(p:α->Bool)(r:α->D)(h0:I ρ)(hs:∀x∈l,∀ρ,I ρ->if p x=true then g (ρ.set i (.fz (enc x)))=.rt (r x) else ∃ρ',g (ρ.set i (.fz (enc x)))=.nx ρ'/\I ρ') :
  match l.find? p with|some x=>forD i g (l.map enc) ρ=.rt (r x)|none=>∃ρ',forD i g (l.map enc) ρ=.nx ρ'/\I ρ':=by
 induction l generalizing ρ with
 | nil=>exact⟨ρ,rfl,h0⟩
 | cons x l ih =>
  have hx:=hs x (.head _) ρ h0
  cases hp:p x with
  | true =>
   rw[lO hp] at hx
   rw[lc4 hp]
   show forD i g (enc x::l.map enc) ρ=_
   unfold forD
   rw[hx]
  | false =>
   rw[lY (by simp[hp])] at hx
   obtain⟨ρ1,e1,i1⟩:=hx
   rw[lci (by simp[hp])]
   have:=ih i1 λy hy=>hs y (.tail _ hy)
   have e:forD i g ((x::l).map enc) ρ=forD i g (l.map enc) ρ1:=by
    show forD i g (enc x::l.map enc) ρ=_
    rw[forD.eq_2,e1]
   rw[e];exact this
theorem ziS {l:List (α×β)}{enc:α->D}{enb:β->D}(I:Rho->Prop)(p:α×β->Bool)(r:α×β->D)(h0:I ρ)(hs:∀x∈l,∀ρ,I ρ->if p x=true then g ((ρ.set i (.fz (enc x.1))).set j (.fz (enb x.2)))=.rt (r x) else ∃ρ',g ((ρ.set i (.fz (enc x.1))).set j (.fz (enb x.2)))=.nx ρ'/\I ρ') :
  match l.find? p with|some x=>forZ i j g (l.map λx=>enc x.1) (l.map λx=>enb x.2) ρ=.rt (r x)|none=>∃ρ',forZ i j g (l.map λx=>enc x.1) (l.map λx=>enb x.2) ρ=.nx ρ'/\I ρ':=by
 induction l generalizing ρ with
 | nil=>exact⟨ρ,by simp[forZ],h0⟩
 | cons x l ih =>
  have hx:=hs x (.head _) ρ h0
  cases hp:p x with
  | true =>
   rw[lO hp] at hx
   rw[lc4 hp]
   show forZ i j g (enc x.1::l.map λx=>enc x.1) (enb x.2::l.map λx=>enb x.2) ρ=_
   unfold forZ
   rw[hx]
  | false =>
   rw[lY (by simp[hp])] at hx
   obtain⟨ρ1,e1,i1⟩:=hx
   rw[lci (by simp[hp])]
   have:=ih i1 λy hy=>hs y (.tail _ hy)
   have e:forZ i j g ((x::l).map λx=>enc x.1) ((x::l).map λx=>enb x.2) ρ=forZ i j g (l.map λx=>enc x.1) (l.map λx=>enb x.2) ρ1:=by
    show forZ i j g (enc x.1::l.map λx=>enc x.1) (enb x.2::l.map λx=>enb x.2) ρ=_
    rw[forZ.eq_1,e1]
   rw[e];exact this
end
variable {m:Nat}{g h:Rho->Out}{ds es:List D}{d:D}{ρ:Rho}{i j:Int}{fi:qQ4}{ft:qQ6}{f fa fb fe:qQ5}{caps:List Nat}
theorem zR (h:g (ds.map .fz++List.replicate (m - ds.length) .no)=.rt d):zX m g ds=.ok d:=by unfold zX;rw[h]
theorem zcJ (h:g (ds.map .fz++List.replicate (m - ds.length) .no)=.nx ρ):zX m g ds=.ok .non:=by unfold zX;rw[h]
theorem wO {n:Nat}(h:g (ds.map .fz++List.replicate (m - ds.length) .no)=.ex n):zX m g ds=.ex n:=by unfold zX;rw[h]
theorem zB {ρ':Rho}(e:g ρ=.nx ρ'):zO g h ρ=h ρ':=by unfold zO;rw[e]
theorem zeD (e:g ρ=.rt d):zO g h ρ=.rt d:=by unfold zO;rw[e]
theorem yL {ρ':Rho}(e:g ρ=.nx ρ'):uw g ρ=.nx ρ':=by unfold uw;rw[e]
theorem zoP (e:g ρ=.rt d):uw g ρ=.rt d:=by unfold uw;rw[e]
theorem yS {i:Nat}(e:fi ρ=.ok ds):vz i fi g ρ=forD i g ds ρ:=by unfold vz;rw[e]
theorem zdH (e:ft ρ=.ok true):sIf ft g h ρ=g ρ:=by unfold sIf;rw[e]
theorem zdI (e:ft ρ=.ok false):sIf ft g h ρ=h ρ:=by unfold sIf;rw[e]
theorem zH {i:Nat}(e:f ρ=.ok d):z6 i f ρ=.nx (ρ.set i (.fz d)):=by unfold z6;rw[e]
theorem z9 (e:f ρ=.ok d):yI f ρ=.rt d:=by unfold yI;rw[e]
theorem znY {i:Nat}(e:owL ρ i=some ds)(e2:f ρ=.ok d)(hl:ds.length<1000000):zdD i f ρ=.nx (ρ.set i (.ow (ds++[d]))):=by unfold zdD;simp only[e,e2,lO hl]
theorem zjT {l m:List Nat}(h:l.length+m.length<=1000000):zoh (.str l) (.str m)=some (.str (l++m)):=lO h
theorem yG {g:D->D->Option D}{a b:D}(e1:fa ρ=.ok a)(e2:fb ρ=.ok b)(e3:g a b=some d):f2 g fa fb ρ=.ok d:=by unfold f2;rw[e1];show(fb ρ).bind _=_;rw[e2];show lf (g a b)=_;rw[e3];rfl
theorem za7 {n:Nat}(h:n<=1000000):zfC [.int (n:Int)]=some ((List.range n).map λ(k:Nat)=>.int (k:Int)):=by
 have h1:-(2 ^ 62)<=(n:Int)/\(n:Int)<2 ^ 62:=by omega
 dsimp only [zfC]
 rw[lO h1,laE]
theorem ziD {g:List D->Option (List D)}{fs:qQ4}(e1:fs ρ=.ok ds)(e2:g ds=some es):fR g fs ρ=.ok es:=by unfold fR;rw[e1];show(match g ds with|some es=>Rs.ok es|none=>.no)=_;rw[e2]
theorem jB {g:List D->Option D}{fs:qQ4}(e1:fs ρ=.ok ds)(e2:g ds=some d):fO g fs ρ=.ok d:=by unfold fO;rw[e1];show lf (g ds)=_;rw[e2];rfl
theorem zg1 {i:Nat}{fk fv:qQ5}{ds:List (List Nat×D)}{k:List Nat}{v:D}(e:odL ρ i=some ds)(e1:fv ρ=.ok v)(e2:fk ρ=.ok (.str k))(hl:ds.length<1000000):zbL i fk fv ρ=.nx (ρ.set i (.od (putD ds k v))):=by unfold zbL;simp only[e,e1,e2,lO hl]
theorem vI {g:qQ5}(e1:f ρ=.ok (.int i))(e2:g ρ=.ok (.int j)):f2 zaa f g ρ=.ok (.int (i+j)):=yG e1 e2 rfl
theorem zeM {g:qQ5}(e1:f ρ=.ok (.int i))(e2:g ρ=.ok (.int j)):f2 zd0 f g ρ=.ok (.int (i - j)):=yG e1 e2 rfl
theorem yK {g:qQ5}(e1:f ρ=.ok (.int i))(e2:g ρ=.ok (.int j))(h1:Sm i)(h2:Sm j):f2 jP f g ρ=.ok (.int (i*j)):=yG e1 e2 (lO ⟨h1,h2⟩)
theorem qI {g:qQ5}(e1:f ρ=.ok (.int i))(e2:g ρ=.ok (.int j))(h:0<j):f2 zfR f g ρ=.ok (.int (i % j)):=yG e1 e2 (lO h)
theorem ux {g:qQ5}(e1:f ρ=.ok (.int i))(e2:g ρ=.ok (.int j))(h:0<j)(h2:Sm j):f2 zc7 f g ρ=.ok (.int (i / j)):=yG e1 e2 (lO ⟨h,h2⟩)
theorem qL (h:-(2 ^ 100)<i/\i<2 ^ 100):Sm i:=by
 unfold Sm
 have h1:(2:Nat) ^ 100<=2 ^ 4000:=Nat.pow_le_pow_right (by decide) (by decide)
 have h2:i.natAbs<2 ^ 100:=by omega
 exact lB h2 h1
theorem zfn (e1:fi ρ=.ok ds)(hl:ds.length<=1000000)(e2:wX ft fe (uW 1 caps ρ) ds=.ok es):fCp fi ft fe caps ρ=.ok es:=by unfold fCp;rw[e1];show(if ds.length<=1000000 then wX ft fe (uW 1 caps ρ) ds else .no)=_;rw[lO hl,e2]
theorem zba (e1:fi ρ=.ok ds)(hl:ds.length<=1000000)(e2:wX ft fe (uW 1 caps ρ) ds=.ok es):vX fi ft fe caps ρ=.ok (.lst es):=by unfold vX;rw[zfn e1 hl e2];rfl
theorem zcq {i:Nat}{f:qQ4}{d:List D}(e:f ρ=.ok d):wK i f ρ=.nx (ρ.set i (.fz (.lst d))):=by unfold wK;rw[e]
theorem zd2 {f:qQ4}{d:List D}(e:f ρ=.ok d):fLs f ρ=.ok (.lst d):=by unfold fLs;rw[e];rfl
theorem zpO {chk:D->Bool}{g:D->D->Option D}{a b:D}(e1:fa ρ=.ok a)(hc:chk a=true)(e2:fb ρ=.ok b)(e3:g a b=some d):fM chk g fa fb ρ=.ok d:=by unfold fM;rw[e1];show(if chk a=true then _ else _)=_;rw[lO hc,e2];show lf (g a b)=_;rw[e3];rfl
theorem zoe {g:List D->Option (List D)}{fs:qQ4}(e1:fs ρ=.ok ds)(e2:g ds=some es):fL g fs ρ=.ok es:=by unfold fL;rw[e1];show lf' (g ds)=_;rw[e2];rfl
theorem zT {fs:qQ4}{a:D}{as:List D}(e1:fa ρ=.ok a)(e2:fs ρ=.ok as):zj fa fs ρ=.ok (a::as):=by unfold zj;rw[e1];show(fs ρ).bind _=_;rw[e2];rfl
def sT (ls:qQ1):List D:=ls.map .str
theorem zfa (a b:qQ1):sT a++sT b=sT (a++b):=by unfold sT;rw[lau]
theorem zka (ls:qQ1):(sT ls).all isS=true:=by simp[sT,isS]
theorem zkS (ls:qQ1):(sT ls).map unS=ls:=by
 unfold sT;rw[laN]
 exact(lbh λx _=>rfl).trans (lc7 ls)
theorem v8:∀ls:qQ1,D.pls (sT ls)=true
 | []=>rfl
 | l::ls=>by show((D.str l).pl&&D.pls (sT ls))=true;rw[v8 ls];rfl
theorem wI (ls:qQ1):(sT ls).length=ls.length:=by simp[sT]
end L2
namespace Pg
open PySem L2 My
variable {α:Type}{m:Nat}{ps:qQ1}
theorem zbq (l:List α)(m:Nat):zdm l none (some (m:Int))=l.take m:=by
 unfold zdm
 rw[HT.sIx_none,HT.sIx_nat,leJ,Nat.sub_zero,← List.take_take,ldo]
theorem zeZ (l:List α)(m:Nat):zdm l (some (m:Int)) none=l.drop m:=by
 unfold zdm
 rw[HT.sIx_none,HT.sIx_nat,lar (by rw[lb9];exact lu _)]
 rcases ldU m l.length with h|h
 ·rw[lb6 h]
 ·rw[ldq h,laq (lu _),laq h]
theorem zkC (l m:List Nat):PyData.eqv (.str (T l)) (.str (T m))=decide (l=m):=by
 show(T l == T m)=_
 rw[zqo]
 by_cases h:l=m
 ·subst h;simp
 ·rw[lS h];simpa using h
theorem zkd (neg:Bool)(l m:List Nat):eqD neg (.str l) (.str m)=some (.bl (if neg then !decide (l=m) else decide (l=m))):=by
 unfold eqD
 rw[lO ⟨rfl,rfl,by show(PyData.str (T l)).depth<=60;simp[PyData.depth]⟩]
 show some (D.bl (if neg=true then !PyData.eqv (.str (T l)) (.str (T m)) else PyData.eqv (.str (T l)) (.str (T m))))=_
 rw[zkC]
theorem zhz (l:List α)(b:α->Bool):zn8 [.lst (l.map λx=>D.bl (b x))]=some (.bl (l.all b)):=by
 show(if (l.map λx=>D.bl (b x)).all isB=true then some (D.bl ((l.map λx=>D.bl (b x)).all unB)) else none)=_
 have h:(l.map λx=>D.bl (b x)).all isB=true:=by rw[ldf];exact lag.mpr λ_ _=>rfl
 rw[lO h,ldf];rfl
theorem zm3 (l:List α)(b:α->Bool):zpy [.lst (l.map λx=>D.bl (b x))]=some (.bl (l.any b)):=by
 show(if (l.map λx=>D.bl (b x)).all isB=true then some (D.bl ((l.map λx=>D.bl (b x)).any unB)) else none)=_
 have h:(l.map λx=>D.bl (b x)).all isB=true:=by rw[ldf];exact lag.mpr λ_ _=>rfl
 rw[lO h,leu];rfl
theorem zh0 (ps:qQ1):zdm (sT ps) (some 1) none=sT ps.tail:=by
 have:=zeZ (sT ps) 1
 rw[show((1:Nat):Int)=1 from rfl] at this
 rw[this,List.drop_one];exact(List.map_tail).symm
theorem zmA (ps qs:qQ1):(sT ps).zip (sT qs)=(ps.zip qs).map λx=>(D.str x.1,D.str x.2):=by
 unfold sT;rw[List.zip_map];rfl
def isText (m:Nat)(l:List Nat):Bool:=l.all λc=>decide (c∈abcd.take m)
theorem zgk (m4:m<=4){l:List Nat}(h:LetOk m l):isText m l=true:=by
 unfold isText
 rw[lag]
 exact λc hc=>lP (u6 m4 (h c hc))
theorem zaq (m:Nat)(l:List Nat)(hl:l.length<=1000000):xu [.int m,.str l]=.ok (.bl (isText m l)):=by
 have e:wX xU (f2 (inC false) (fNm 0) (fNm 1)) [.no,.fz (.str (abcd.take m))] (l.map λc=>.str [c])=.ok (l.map λc=>.bl (decide (c∈abcd.take m))):=vq _ λc hc=>rfl
 have e2:zdm [97,98,99,100] none (some (m:Int))=abcd.take m:=zbq abcd m
 simp only[xu,u5,zX,zO,yI,z6,fC,fNm,f1,f2,zF,zj,fO,tru,zck,lf,Rs.bind,fI,sgD,fCp,vX,uW,xQ,xN,fSl,slD,zd6,isStr,D.pl,D.py,lai,laj,laO,laP,lr,laL,lM,lah,List.replicate,lX,laH,laG,Nat.reduceSub,Nat.reduceAdd,Nat.reduceLeDiff,lbq,la0,lby,la3,lQ,reduceIte,laM,laW,v8,e2,e,lD,lO hl,zhz,isText]
theorem zgs (ps:qQ1)(h:ps.length<=1000000):qe [.tup (sT ps)]=.ok (.bl (rising ps)):=by
 have e2:jt xU (f2 ltS (fNm 0) (fNm 1)) [.no,.no] (sT ps) (sT ps.tail)=.ok ((ps.zip ps.tail).map λx=>.bl (decide (x.1<x.2))):=by
  rw[zfZ]
  rw[zmA,laN,laN]
  exact zi9 (enc:=D.str) (enb:=D.str) _ λx hx=>rfl
 simp only[qe,jk,zX,yI,fC,fNm,f2,zF,zj,fO,lf,Rs.bind,fLs,fCz,uW,xQ,xN,fSl,slD,ltS,lai,laj,laO,laP,lr,laL,lM,lah,List.replicate,lX,laH,laG,Nat.reduceSub,Nat.reduceAdd,Nat.reduceLeDiff,lbq,la0,lby,la3,lQ,reduceIte,laM,laW,v8,zh0,e2,wI,lO h,zhz,rising]
theorem zgp (i:Int):zaw [.int i]=.ok (.bl true):=rfl
theorem qH (i lo hi:Int):wF [.int i,.int lo,.int hi]=.ok (.bl (decide (lo<=i)&&decide (i<=hi))):=by
 simp only[wF,qu,zX,yI,fNm,f1,zF,zj,fA,tru,zck,ze4,lf,Rs.bind,ari,fCh,zd6,isInt,isBool,leI,D.pl,D.py,lai,laj,laO,laP,lr,laL,lM,lah,List.replicate,lX,laH,laG,Nat.reduceSub,Nat.reduceAdd,Nat.reduceLeDiff,lbq,la0,lby,la3,lQ,reduceIte,laM,laW,v8,zgp]
 by_cases h:lo<=i
 ·simp[h]
 ·simp[h]
theorem zbQ (i:Int):yc [.int i]=.ok (.bl (decide (2<=i)&&decide (i<=4))):=by
 simp only[yc,yH,zX,yI,fC,fNm,f1,zF,zj,fO,fA,tru,zck,ze4,lf,Rs.bind,ari,fCh,zd6,isInt,isBool,qN,leI,D.pl,D.py,lai,laj,laO,laP,lr,laL,lM,lah,List.replicate,lX,laH,laG,Nat.reduceSub,Nat.reduceAdd,Nat.reduceLeDiff,lbq,la0,lby,la3,lQ,reduceIte,laM,laW,v8,qH]
 rfl
theorem zgM (ps:qQ1)(x:List Nat)(h:ps.length<=1000000):ye [.tup (sT ps),.str x]=.ok (.bl (isInner ps x)):=by
 have e:wX xU (zck (fM isS xY (fNm 0) (fNm 1)) (f2 (eqD true) (fNm 0) (fNm 1))) [.no,.fz (.str x)] (sT ps)=.ok (ps.map λp=>.bl (x.isPrefixOf p && !decide (p=x))):=vq _ λp hp=>by
  simp only[zX,zO,yI,wY,z6,sIf,zb7,zfc,uw,sRs,vz,jo,sWh,zdD,ziP,wK,jq,ji,zbL,fSD,owL,odL,sNx,fC,fNm,f1,f2,zF,zj,fO,fA,fIf,tru,bT,zb1,ziO,bOr,zck,fOr,ze4,lf,lf',Rs.bind,isN,mkT,mkL,ari,fI,lsD,tpD,sgD,fR,fCp,vX,fLs,fL,fL1,fL2,szL,fCz,uW,xQ,xN,fSl,slD,fM,fCh,zd6,isInt,isBool,isStr,isTup,qN,ltI,leI,gtI,geI,ltS,zaa,zd0,D.pl,D.py,isS,lai,laj,laO,laP,lr,laL,lM,lah,List.replicate,lX,laH,laG,Nat.reduceSub,Nat.reduceAdd,Nat.reduceLeDiff,lbq,la0,lby,la3,lQ,reduceIte,laM,laW,v8,xY,zkd]
  cases x.isPrefixOf p <;>simp
 simp only[ye,zag,zX,zO,yI,wY,z6,sIf,zb7,zfc,uw,sRs,vz,jo,sWh,zdD,ziP,wK,jq,ji,zbL,fSD,owL,odL,sNx,fC,fNm,f1,f2,zF,zj,fO,fA,fIf,tru,bT,zb1,ziO,bOr,zck,fOr,ze4,lf,lf',Rs.bind,isN,mkT,mkL,ari,fI,lsD,tpD,sgD,fR,fCp,vX,fLs,fL,fL1,fL2,szL,fCz,uW,xQ,xN,fSl,slD,fM,fCh,zd6,isInt,isBool,isStr,isTup,qN,ltI,leI,gtI,geI,ltS,zaa,zd0,D.pl,D.py,isS,lai,laj,laO,laP,lr,laL,lM,lah,List.replicate,lX,laH,laG,Nat.reduceSub,Nat.reduceAdd,Nat.reduceLeDiff,lbq,la0,lby,la3,lQ,reduceIte,laM,laW,v8,e,wI,lO h,zm3]
 rfl
theorem zhl (ps:qQ1)(x:List Nat)(h:ps.length<=1000000):yg [.tup (sT ps),.str x]=.ok (.bl (xP ps x)):=by
 have e:wX xU (fOr (fM isS xY (fNm 0) (fNm 1)) (fM isS xY (fNm 1) (fNm 0))) [.no,.fz (.str x)] (sT ps)=.ok (ps.map λp=>.bl (x.isPrefixOf p || p.isPrefixOf x)):=vq _ λp hp=>by
  simp only[zX,zO,yI,wY,z6,sIf,zb7,zfc,uw,sRs,vz,jo,sWh,zdD,ziP,wK,jq,ji,zbL,fSD,owL,odL,sNx,fC,fNm,f1,f2,zF,zj,fO,fA,fIf,tru,bT,zb1,ziO,bOr,zck,fOr,ze4,lf,lf',Rs.bind,isN,mkT,mkL,ari,fI,lsD,tpD,sgD,fR,fCp,vX,fLs,fL,fL1,fL2,szL,fCz,uW,xQ,xN,fSl,slD,fM,fCh,zd6,isInt,isBool,isStr,isTup,qN,ltI,leI,gtI,geI,ltS,zaa,zd0,D.pl,D.py,isS,lai,laj,laO,laP,lr,laL,lM,lah,List.replicate,lX,laH,laG,Nat.reduceSub,Nat.reduceAdd,Nat.reduceLeDiff,lbq,la0,lby,la3,lQ,reduceIte,laM,laW,v8,xY]
  cases x.isPrefixOf p <;>simp
 simp only[yg,zan,zX,zO,yI,wY,z6,sIf,zb7,zfc,uw,sRs,vz,jo,sWh,zdD,ziP,wK,jq,ji,zbL,fSD,owL,odL,sNx,fC,fNm,f1,f2,zF,zj,fO,fA,fIf,tru,bT,zb1,ziO,bOr,zck,fOr,ze4,lf,lf',Rs.bind,isN,mkT,mkL,ari,fI,lsD,tpD,sgD,fR,fCp,vX,fLs,fL,fL1,fL2,szL,fCz,uW,xQ,xN,fSl,slD,fM,fCh,zd6,isInt,isBool,isStr,isTup,qN,ltI,leI,gtI,geI,ltS,zaa,zd0,D.pl,D.py,isS,lai,laj,laO,laP,lr,laL,lM,lah,List.replicate,lX,laH,laG,Nat.reduceSub,Nat.reduceAdd,Nat.reduceLeDiff,lbq,la0,lby,la3,lQ,reduceIte,laM,laW,v8,e,wI,lO h,zm3]
 rfl
theorem zbp (ps:qQ1):xg [.tup (sT ps)]=.ok (match wR ps with|some x=>.tup [.str x.1,.str x.2] | none=>.non):=by
 have key:=ziS (i:=1) (j:=2) (g:=sIf (bT (fM isS xY (fNm 2) (fNm 1))) (yI (fO mkT (zj (fNm 1) (zj (fNm 2) zF)))) sNx) (ρ:=[.fz (.tup (sT ps)),.no,.no]) (l:=ps.zip ps.tail) (enc:=D.str) (enb:=D.str)
  (λρ=>∃a b,ρ=[.fz (.tup (sT ps)),a,b]) (λx=>x.1.isPrefixOf x.2) (λx=>.tup [.str x.1,.str x.2]) ⟨_,_,rfl⟩ (λx hx ρ ⟨a,b,e⟩=>by
   subst e
   cases hp:x.1.isPrefixOf x.2 with
   | true=>simp only[zX,zO,yI,sIf,uw,jo,sNx,fC,fNm,zF,zj,fO,tru,bT,lf,Rs.bind,mkT,xQ,xN,fSl,slD,fM,isS,lai,laj,laO,laP,lr,laL,lM,lah,List.replicate,lX,laH,laG,Nat.reduceSub,Nat.reduceAdd,Nat.reduceLeDiff,lbq,la0,lby,la3,lQ,reduceIte,laM,laW,v8,xY,hp]
   | false=>simp only[zX,zO,yI,sIf,uw,jo,sNx,fC,fNm,zF,zj,fO,tru,bT,lf,Rs.bind,mkT,xQ,xN,fSl,slD,fM,isS,lai,laj,laO,laP,lr,laL,lM,lah,List.replicate,lX,laH,laG,Nat.reduceSub,Nat.reduceAdd,Nat.reduceLeDiff,lbq,la0,lby,la3,lQ,reduceIte,laM,laW,v8,xY,hp];exact⟨_,rfl,_,_,rfl⟩)
 have e4:forZ 1 2 (sIf (bT (fM isS xY (fNm 2) (fNm 1))) (yI (fO mkT (zj (fNm 1) (zj (fNm 2) zF)))) sNx) (sT ps) (sT ps.tail) [.fz (.tup (sT ps)),.no,.no]=forZ 1 2 (sIf (bT (fM isS xY (fNm 2) (fNm 1))) (yI (fO mkT (zj (fNm 1) (zj (fNm 2) zF)))) sNx) ((ps.zip ps.tail).map λx=>D.str x.1) ((ps.zip ps.tail).map λx=>D.str x.2) [.fz (.tup (sT ps)),.no,.no]:=by
  rw[zhu,zmA,laN,laN];rfl
 have e5:jo 1 2 (fNm 0) (fSl (fNm 0) (xN (fC (.int 1))) xQ) (sIf (bT (fM isS xY (fNm 2) (fNm 1))) (yI (fO mkT (zj (fNm 1) (zj (fNm 2) zF)))) sNx) [.fz (.tup (sT ps)),.no,.no]=forZ 1 2 (sIf (bT (fM isS xY (fNm 2) (fNm 1))) (yI (fO mkT (zj (fNm 1) (zj (fNm 2) zF)))) sNx) ((ps.zip ps.tail).map λx=>D.str x.1) ((ps.zip ps.tail).map λx=>D.str x.2) [.fz (.tup (sT ps)),.no,.no]:=by
  rw[← e4]
  unfold jo
  have e6:fSl (fNm 0) (xN (fC (.int 1))) xQ [.fz (.tup (sT ps)),.no,.no]=.ok (.tup (sT ps.tail)):=by rw[← zh0];rfl
  rw[e6];rfl
 unfold wR
 cases hf:(ps.zip ps.tail).find? λx=>x.1.isPrefixOf x.2 with
 | some x =>
  rw[hf] at key
  have e7:xZ [.fz (.tup (sT ps)),.no,.no]=.rt (.tup [.str x.1,.str x.2]):=by
   unfold xZ zO uw
   rw[e5,key]
  exact zR e7
 | none =>
  rw[hf] at key
  obtain⟨ρ',k1,a,b,rfl⟩:=key
  have e7:xZ [.fz (.tup (sT ps)),.no,.no]=.rt .non:=by
   unfold xZ zO uw
   rw[e5,k1];rfl
  exact zR e7
def Pcs (m:Nat)(ps:qQ1):Prop:=2<=m/\m<=4/\ps≠[]/\ps.length<=32/\∀p∈ps,LetOk m p/\p≠[]/\p.length<=31
theorem zg4 (h:∀p∈ps,p.length<=1000000):wX xU (zck (fA (ari 2 xu) (zj (fNm 1) (zj (fNm 0) zF))) (f2 (eqD true) (fNm 0) (fC (.str [])))) [.no,.fz (.int m)] (sT ps)=.ok (ps.map λp=>.bl (isText m p && !decide (p=[]))):=vq _ λp hp=>by
  simp only[zX,zO,yI,z6,fC,fNm,f1,f2,zF,zj,fO,fA,tru,zck,lf,Rs.bind,ari,fI,sgD,fCp,vX,uW,xQ,xN,fSl,slD,zd6,isStr,D.pl,D.py,lai,laj,laO,laP,lr,laL,lM,lah,List.replicate,lX,laH,laG,Nat.reduceSub,Nat.reduceAdd,Nat.reduceLeDiff,lbq,la0,lby,la3,lQ,reduceIte,laM,laW,v8,zaq m p (h p hp),zkd]
  cases isText m p <;>simp
theorem zed (h:Pcs m ps):w5 [.int m,.tup (sT ps)]=.ok (.bl (rising ps)):=by
 obtain⟨m2,m4,hne,hl,hp⟩:=h
 have h1:∀p∈ps,p.length<=1000000:=λp q=>by have:=(hp p q).2.2;omega
 have e1:(ps.all λp=>isText m p && !decide (p=[]))=true:=lag.mpr λp q=>by
  obtain⟨a,b,_⟩:=hp p q
  rw[zgk m4 a,lS b];rfl
 have hpos:1<=ps.length:=lbN.mpr hne
 have d1:decide ((2:Int)<=(m:Int))=true:=lP (by omega)
 have d2:decide ((m:Int)<=4)=true:=lP (by omega)
 have d3:decide ((1:Int)<=(ps.length:Int))=true:=lP (by omega)
 have d4:decide ((ps.length:Int)<=32)=true:=lP (by omega)
 have hz:ps.length<=1000000:=by omega
 simp only[w5,qj,zX,zO,yI,z6,sIf,sNx,fC,fNm,f1,f2,zF,zj,fO,fA,tru,bT,zb1,bOr,zck,ze4,lf,Rs.bind,ari,fI,tpD,sgD,fCp,vX,fLs,fCz,uW,xQ,xN,fSl,slD,fCh,zd6,isInt,isBool,isStr,isTup,qN,leI,ltS,D.pl,D.py,lai,laj,laO,laP,lr,laL,lM,lah,List.replicate,lX,laH,laG,Nat.reduceSub,Nat.reduceAdd,Nat.reduceLeDiff,lbq,la0,lby,la3,lQ,reduceIte,laM,laW,v8,zbQ,d1,d2,Bool.and_self,wI,d3,d4,lO hz,zg4 h1,zhz,e1,zgs ps hz]
theorem sIter {ρ:Rho}(h:ρ[0]? = some (.fz (.int (m:Int)))):fI sgD (fSl (fC (.str [97,98,99,100])) xQ (xN (fNm 0))) ρ=.ok ((abcd.take m).map λc=>.str [c]):=by
 have e2:zdm [97,98,99,100] none (some (m:Int))=abcd.take m:=zbq abcd m
 simp only[fI,fSl,fC,xQ,xN,fNm,h,Rs.bind,slD,lf,e2,sgD]
theorem zal (xs:qQ1)(hl:∀x∈xs,x.length<=999999)(hn:4*xs.length<=999999):yt [.int m,.lst (sT xs)]=.ok (.lst (sT (zV m xs))):=by
 have hab:(abcd.take m).length<=4:=by rw[lW];exact lef _ _
 have inner:∀(x:List Nat) (acc:qQ1) (s:Sl),x.length<=999999->acc.length+4<=999999->∃s',vz 4 (fI sgD (fSl (fC (.str [97,98,99,100])) xQ (xN (fNm 0)))) (zdD 2 (f2 zoh (fNm 3) (fNm 4))) [.fz (.int m),.fz (.lst (sT xs)),.ow (sT acc),.fz (.str x),s]=.nx [.fz (.int m),.fz (.lst (sT xs)),.ow (sT (acc++(abcd.take m).map λc=>x++[c])),.fz (.str x),s']:=by
  intro x acc s hx ha
  rw[yS (sIter rfl)]
  obtain ⟨ρ',e,s',rfl⟩:=wB (i:=4) (g:=zdD 2 (f2 zoh (fNm 3) (fNm 4))) (l:=abcd.take m) (enc:=λc=>D.str [c]) (ρ:=[.fz (.int m),.fz (.lst (sT xs)),.ow (sT acc),.fz (.str x),s])
   (λk ρ=>∃s',ρ=[.fz (.int m),.fz (.lst (sT xs)),.ow (sT (acc++((abcd.take m).take k).map λc=>x++[c])),.fz (.str x),s']) ⟨s,by simp⟩ (λk c ρ hc ⟨s',e⟩=>by
    subst e
    have hk:k<(abcd.take m).length:=(lx.mp hc).1
    have e3:(abcd.take m).take (k+1)=(abcd.take m).take k++[c]:=by rw[lbb,hc];rfl
    have hlen:(sT (acc++((abcd.take m).take k).map λc=>x++[c])).length<1000000:=by
     rw[wI,lU,lD,lW];omega
    have hz:x.length+1<=1000000:=by omega
    refine⟨_,znY rfl (yG (a:=.str x) (b:=.str [c]) rfl rfl (zjT hz)) hlen,.fz (.str [c]),?_⟩
    have e5:sT (acc++((abcd.take m).take (k+1)).map λc=>x++[c])=sT (acc++((abcd.take m).take k).map λc=>x++[c])++[D.str (x++[c])]:=by
     rw[e3,lau,← lba,← zfa (acc++_)];rfl
    rw[e5];rfl)
  refine⟨s',e.trans ?_⟩
  rw[lar (lu _)]
 have outer:=wB (i:=3) (g:=vz 4 (fI sgD (fSl (fC (.str [97,98,99,100])) xQ (xN (fNm 0)))) (zdD 2 (f2 zoh (fNm 3) (fNm 4)))) (l:=xs) (enc:=D.str) (ρ:=[.fz (.int m),.fz (.lst (sT xs)),.ow [],.no,.no])
  (λk ρ=>∃s s',ρ=[.fz (.int m),.fz (.lst (sT xs)),.ow (sT (zV m (xs.take k))),s,s']) ⟨.no,.no,rfl⟩ (λk x ρ hx ⟨s,s',e⟩=>by
   subst e
   have hk:k<xs.length:=(lx.mp hx).1
   have e3:xs.take (k+1)=xs.take k++[x]:=by rw[lbb,hx];rfl
   have hg:(zV m (xs.take k)).length<=4*k:=by
    have:(zV m (xs.take k)).length<=4*(xs.take k).length:=by
     unfold zV
     generalize xs.take k=ys
     induction ys with
     | nil=>simp
     | cons y ys ih=>simp only[lc9,lU,lD,lM];omega
    rw[lW] at this;omega
   obtain⟨s2,e4⟩:=inner x (zV m (xs.take k)) s' (hl x (lad hx)) (by omega)
   refine⟨_,e4,.fz (.str x),s2,?_⟩
   rw[e3]
   unfold zV
   rw[List.flatMap_append]
   simp)
 obtain⟨ρ',e,s,s',rfl⟩:=outer
 rw[lar (lu _)] at e
 refine zR ?_
 show jD [.fz (.int m),.fz (.lst (sT xs)),.no,.no,.no]=_
 unfold jD
 refine(zB (g:=jq 2 (fL szL zF)) (ρ':=[.fz (.int m),.fz (.lst (sT xs)),.ow [],.no,.no]) rfl).trans ?_
 refine(zB (yL ((yS (ds:=sT xs) rfl).trans e))).trans ?_
 rfl
theorem zkV (hl:ps.length<=1000000)(xs:qQ1)(hx:∀x∈xs,x.length<=999)(hn:xs.length<=99999)(s3 s4:Sl) :
  match (zV m xs).find? (xP ps) with
  | some x=>zO (z6 3 (fA (ari 2 yt) (zj (fNm 0) (zj (fNm 2) zF)))) (zO (vz 4 (fI lsD (fNm 3)) (sIf (bT (fA (ari 2 yg) (zj (fNm 1) (zj (fNm 4) zF)))) (yI (fNm 4)) sNx)) (wK 2 (fCp (fI lsD (fNm 3)) (bT (fA (ari 2 ye) (zj (fNm 1) (zj (fNm 0) zF)))) (fNm 0) [1]))) [.fz (.int m),.fz (.tup (sT ps)),.fz (.lst (sT xs)),s3,s4]=.rt (.str x)
  | none=>∃s3' s4',zO (z6 3 (fA (ari 2 yt) (zj (fNm 0) (zj (fNm 2) zF)))) (zO (vz 4 (fI lsD (fNm 3)) (sIf (bT (fA (ari 2 yg) (zj (fNm 1) (zj (fNm 4) zF)))) (yI (fNm 4)) sNx)) (wK 2 (fCp (fI lsD (fNm 3)) (bT (fA (ari 2 ye) (zj (fNm 1) (zj (fNm 0) zF)))) (fNm 0) [1]))) [.fz (.int m),.fz (.tup (sT ps)),.fz (.lst (sT xs)),s3,s4]=.nx [.fz (.int m),.fz (.tup (sT ps)),.fz (.lst (sT ((zV m xs).filter (isInner ps)))),s3',s4']:=by
 have eg:=zal (m:=m) xs (λx q=>by have:=hx x q;omega) (by omega)
 have e1:(z6 3 (fA (ari 2 yt) (zj (fNm 0) (zj (fNm 2) zF)))) [.fz (.int m),.fz (.tup (sT ps)),.fz (.lst (sT xs)),s3,s4]=.nx [.fz (.int m),.fz (.tup (sT ps)),.fz (.lst (sT xs)),.fz (.lst (sT (zV m xs))),s4]:=by
  refine zH (d:=.lst (sT (zV m xs))) ?_
  exact eg
 have hgl:(zV m xs).length<=1000000:=by
  have hab:(abcd.take m).length<=4:=by rw[lW];exact lef _ _
  have:(zV m xs).length<=4*xs.length:=by
   unfold zV
   clear hn hx eg e1
   induction xs with
   | nil=>simp
   | cons y ys ih=>simp only[lc9,lU,lD,lM];omega
  omega
 have key:=zk1 (i:=4) (g:=sIf (bT (fA (ari 2 yg) (zj (fNm 1) (zj (fNm 4) zF)))) (yI (fNm 4)) sNx) (ρ:=[.fz (.int m),.fz (.tup (sT ps)),.fz (.lst (sT xs)),.fz (.lst (sT (zV m xs))),s4]) (l:=zV m xs) (enc:=D.str)
  (λρ=>∃a,ρ=[.fz (.int m),.fz (.tup (sT ps)),.fz (.lst (sT xs)),.fz (.lst (sT (zV m xs))),a]) (xP ps) (λx=>.str x) ⟨_,rfl⟩ (λx hx ρ ⟨a,e⟩=>by
   subst e
   have ea:(bT (fA (ari 2 yg) (zj (fNm 1) (zj (fNm 4) zF)))) [.fz (.int m),.fz (.tup (sT ps)),.fz (.lst (sT xs)),.fz (.lst (sT (zV m xs))),.fz (.str x)]=.ok (xP ps x):=by
    show(yg [.tup (sT ps),.str x]).bind tru=_
    rw[zhl ps x hl];rfl
   cases hp:xP ps x with
   | true=>rw[lO rfl];rw[hp] at ea;exact(zdH ea).trans rfl
   | false=>rw[lY lE];rw[hp] at ea;exact⟨_,(zdI ea).trans rfl,_,rfl⟩)
 cases hf:(zV m xs).find? (xP ps) with
 | some x =>
  rw[hf] at key
  refine(zB e1).trans (zeD ((yS (ds:=sT (zV m xs)) rfl).trans key))
 | none =>
  rw[hf] at key
  obtain⟨ρ',k1,a,rfl⟩:=key
  have ec:wX (bT (fA (ari 2 ye) (zj (fNm 1) (zj (fNm 0) zF)))) (fNm 0) [.no,.fz (.tup (sT ps))] (sT (zV m xs))=.ok (((zV m xs).filter (isInner ps)).map .str):=zeG _ _ λx hx=>⟨by
   show(ye [.tup (sT ps),.str x]).bind tru=_
   rw[zgM ps x hl];rfl,λ_=>rfl⟩
  refine⟨.fz (.lst (sT (zV m xs))),a,(zB e1).trans ((zB ((yS (ds:=sT (zV m xs)) rfl).trans k1)).trans ?_)⟩
  have e5:fCp (fI lsD (fNm 3)) (bT (fA (ari 2 ye) (zj (fNm 1) (zj (fNm 0) zF)))) (fNm 0) [1] [.fz (.int m),.fz (.tup (sT ps)),.fz (.lst (sT xs)),.fz (.lst (sT (zV m xs))),a]=.ok (sT ((zV m xs).filter (isInner ps))):=by
   show(if (sT (zV m xs)).length<=1000000 then wX _ _ [.no,.fz (.tup (sT ps))] (sT (zV m xs)) else .no)=_
   rw[wI,lO hgl]
   exact ec
  unfold wK
  rw[e5];rfl
theorem zdj:∀(xs ys:qQ1),PyData.eqvAll (D.pys (sT xs)) (D.pys (sT ys))=decide (xs=ys)
 | [],[]=>rfl
 | [],_::_=>rfl
 | _::_,[]=>rfl
 | x::xs,y::ys=>by
  show(PyData.eqv (.str (T x)) (.str (T y))&&PyData.eqvAll (D.pys (sT xs)) (D.pys (sT ys)))=_
  rw[zdj xs ys,zkC]
  by_cases h:x=y <;>by_cases h2:xs=ys <;>simp[h,h2]
theorem zjk:∀xs:qQ1,PyData.depthAll (D.pys (sT xs))=0
 | []=>rfl
 | x::xs=>by
  show max (PyData.depth (.str (T x))) (PyData.depthAll (D.pys (sT xs)))=0
  rw[zjk xs];rfl
theorem zkm (neg:Bool)(xs ys:qQ1):eqD neg (.lst (sT xs)) (.lst (sT ys))=some (.bl (if neg then !decide (xs=ys) else decide (xs=ys))):=by
 have h:(D.lst (sT xs)).pl=true/\(D.lst (sT ys)).pl=true/\(D.lst (sT xs)).py.depth<=60:=⟨v8 xs,v8 ys,by show PyData.depthAll (D.pys (sT xs))+1<=60;rw[zjk];omega⟩
 unfold eqD
 rw[lO h]
 show some (D.bl (if neg=true then !PyData.eqvAll (D.pys (sT xs)) (D.pys (sT ys)) else PyData.eqvAll (D.pys (sT xs)) (D.pys (sT ys))))=_
 rw[zdj]
theorem znW (neg:Bool)(xs ys:qQ1):eqD neg (.tup (sT xs)) (.tup (sT ys))=some (.bl (if neg then !decide (xs=ys) else decide (xs=ys))):=by
 have h:(D.tup (sT xs)).pl=true/\(D.tup (sT ys)).pl=true/\(D.tup (sT xs)).py.depth<=60:=⟨v8 xs,v8 ys,by show PyData.depthAll (D.pys (sT xs))+1<=60;rw[zjk];omega⟩
 unfold eqD
 rw[lO h]
 show some (D.bl (if neg=true then !PyData.eqvAll (D.pys (sT xs)) (D.pys (sT ys)) else PyData.eqvAll (D.pys (sT xs)) (D.pys (sT ys))))=_
 rw[zdj]
theorem zkt (m:Nat){xs:qQ1}(h:xs.Nodup):(zV m xs).Nodup:=by
 induction xs with
 | nil=>exact lbK
 | cons x xs ih =>
  obtain⟨h1,h2⟩:=lbx.mp h
  show((kids m x)++zV m xs).Nodup
  refine lbu.mpr ⟨zgy m x,ih h2,λy hy z hz e=>?_⟩
  subst e
  obtain⟨c,hc,e⟩:=kids_mem.mp hy
  obtain⟨w,hw,d,hd,e2⟩:=zbO hz
  have:=lbG List.dropLast (e.symm.trans e2)
  rw[lcx,lcx] at this
  exact h1 (this▸hw)
theorem zl6 (m4:m<=4)(hl:ps.length<=10000)(h8:∀p∈ps,p.length<=31):∀(k L n:Nat) (xs:qQ1) (s3 s4:Sl),L+k=32->(∀x∈xs,x.length=L/\(L=0∨isInner ps x=true))->xs.Nodup->k<n ->
  match fta m ps k xs with
  | some x=>whD (bT (f2 (eqD true) (fNm 2) (fO mkL zF))) (zO (z6 3 (fA (ari 2 yt) (zj (fNm 0) (zj (fNm 2) zF)))) (zO (vz 4 (fI lsD (fNm 3)) (sIf (bT (fA (ari 2 yg) (zj (fNm 1) (zj (fNm 4) zF)))) (yI (fNm 4)) sNx)) (wK 2 (fCp (fI lsD (fNm 3)) (bT (fA (ari 2 ye) (zj (fNm 1) (zj (fNm 0) zF)))) (fNm 0) [1])))) n [.fz (.int m),.fz (.tup (sT ps)),.fz (.lst (sT xs)),s3,s4]=.rt (.str x)
  | none=>∃ρ',whD (bT (f2 (eqD true) (fNm 2) (fO mkL zF))) (zO (z6 3 (fA (ari 2 yt) (zj (fNm 0) (zj (fNm 2) zF)))) (zO (vz 4 (fI lsD (fNm 3)) (sIf (bT (fA (ari 2 yg) (zj (fNm 1) (zj (fNm 4) zF)))) (yI (fNm 4)) sNx)) (wK 2 (fCp (fI lsD (fNm 3)) (bT (fA (ari 2 ye) (zj (fNm 1) (zj (fNm 0) zF)))) (fNm 0) [1])))) n [.fz (.int m),.fz (.tup (sT ps)),.fz (.lst (sT xs)),s3,s4]=.nx ρ':=by
 intro k
 induction k with
 | zero =>
  intro L n xs s3 s4 hL hx hn hk
  have:xs=[]:=by
   cases xs with
   | nil=>rfl
   | cons x xs =>
    obtain⟨e1,e2⟩:=hx x (.head _)
    rcases e2 with e2|e2
    ·omega
    ·have:=zcM e2 h8;omega
  subst this
  obtain⟨n',rfl⟩:∃n',n=n'+1:=⟨n - 1,by omega⟩
  refine⟨[.fz (.int m),.fz (.tup (sT ps)),.fz (.lst (sT [])),s3,s4],?_⟩
  unfold whD
  have e0:(bT (f2 (eqD true) (fNm 2) (fO mkL zF))) [.fz (.int m),.fz (.tup (sT ps)),.fz (.lst (sT [])),s3,s4]=.ok false:=by
   show(lf (eqD true (.lst (sT [])) (.lst (sT [])))).bind tru=_
   rw[zkm];rfl
  rw[e0]
 | succ k ih =>
  intro L n xs s3 s4 hL hx hn hk
  obtain⟨n',rfl⟩:∃n',n=n'+1:=⟨n - 1,by omega⟩
  have et:(bT (f2 (eqD true) (fNm 2) (fO mkL zF))) [.fz (.int m),.fz (.tup (sT ps)),.fz (.lst (sT xs)),s3,s4]=.ok (!decide (xs=[])):=by
   show(lf (eqD true (.lst (sT xs)) (.lst (sT [])))).bind tru=_
   rw[zkm];rfl
  by_cases h0:xs=[]
  ·have ef:fta m ps (k+1) xs=none:=by unfold fta;rw[lO h0]
   rw[ef]
   refine⟨[.fz (.int m),.fz (.tup (sT ps)),.fz (.lst (sT xs)),s3,s4],?_⟩
   unfold whD
   rw[et,lP h0]
   rfl
  ·have ef:fta m ps (k+1) xs=match (zV m xs).find? (xP ps) with|some x=>some x|none=>fta m ps k ((zV m xs).filter (isInner ps)):=by
    rw[fta.eq_2,lY h0]
    all_goals (cases (zV m xs).find? (xP ps) <;>rfl)
   rw[lS h0] at et
   have hLs:L<=30:=by
    cases xs with
    | nil=>exact absurd rfl h0
    | cons x xs =>
     obtain⟨e1,e2⟩:=hx x (.head _)
     rcases e2 with e2|e2
     ·omega
     ·have:=zcM e2 h8;omega
   have hcnt:xs.length<=ps.length+1:=by
    rcases Nat.eq_zero_or_pos L with z|z
    ·have:xs.length<=([[]]:qQ1).length:=hn.length_le_of_subset λx hxx=>by
      rw[lbp.mp ((hx x hxx).1.trans z)];exact .head _
     simp at this;omega
    ·have:xs.length<=(ps.map λp=>p.take L).length:=hn.length_le_of_subset λx hxx=>by
      obtain⟨e1,e2⟩:=hx x hxx
      rcases e2 with e2|e2
      ·omega
      ·obtain⟨p,hp,q1,_⟩:=inner_iff.mp e2
       refine laI.mpr ⟨p,hp,?_⟩
       rw[← e1];exact(lcS.mp q1).symm
     rw[lD] at this;omega
   have R:=zkV (m:=m) (ps:=ps) (by omega) xs (λx q=>by have:=(hx x q).1;omega) (by omega) s3 s4
   rw[ef]
   cases hf:(zV m xs).find? (xP ps) with
   | some x =>
    rw[hf] at R
    show whD _ _ (n'+1) _=_
    unfold whD
    rw[et]
    simp only[la0]
    rw[R]
   | none =>
    rw[hf] at R
    obtain⟨s3',s4',R⟩:=R
    have hx':∀x∈(zV m xs).filter (isInner ps),x.length=L+1/\(L+1=0∨isInner ps x=true):=λx q=>by
     obtain⟨q1,q2⟩:=lbf.mp q
     obtain⟨y,hy,c,hc,rfl⟩:=zbO q1
     exact⟨by rw[lU,(hx y hy).1];rfl,.inr q2⟩
    have hn':((zV m xs).filter (isInner ps)).Nodup:=(zkt m hn).filter _
    have:=ih (L+1) n' _ s3' s4' (by omega) hx' hn' (by omega)
    have es:whD (bT (f2 (eqD true) (fNm 2) (fO mkL zF))) (zO (z6 3 (fA (ari 2 yt) (zj (fNm 0) (zj (fNm 2) zF)))) (zO (vz 4 (fI lsD (fNm 3)) (sIf (bT (fA (ari 2 yg) (zj (fNm 1) (zj (fNm 4) zF)))) (yI (fNm 4)) sNx)) (wK 2 (fCp (fI lsD (fNm 3)) (bT (fA (ari 2 ye) (zj (fNm 1) (zj (fNm 0) zF)))) (fNm 0) [1])))) (n'+1) [.fz (.int m),.fz (.tup (sT ps)),.fz (.lst (sT xs)),s3,s4]=whD (bT (f2 (eqD true) (fNm 2) (fO mkL zF))) (zO (z6 3 (fA (ari 2 yt) (zj (fNm 0) (zj (fNm 2) zF)))) (zO (vz 4 (fI lsD (fNm 3)) (sIf (bT (fA (ari 2 yg) (zj (fNm 1) (zj (fNm 4) zF)))) (yI (fNm 4)) sNx)) (wK 2 (fCp (fI lsD (fNm 3)) (bT (fA (ari 2 ye) (zj (fNm 1) (zj (fNm 0) zF)))) (fNm 0) [1])))) n' [.fz (.int m),.fz (.tup (sT ps)),.fz (.lst (sT ((zV m xs).filter (isInner ps)))),s3',s4']:=by
     rw[whD.eq_2,et]
     simp only[la0]
     rw[R]
    simp only[es]
    exact this
theorem zeP (m4:m<=4)(hl:ps.length<=10000)(h8:∀p∈ps,p.length<=31):xG [.int m,.tup (sT ps)]=.ok (match v5 m ps with|some x=>.str x|none=>.non):=by
 have:=zl6 m4 hl h8 32 0 2000 [[]] .no .no rfl (λx hx=>by rw[lK.mp hx];exact⟨rfl,.inl rfl⟩) (by decide) (by decide)
 unfold v5
 cases hf:fta m ps 32 [[]] with
 | some x =>
  rw[hf] at this
  refine zR ?_
  exact(zB (ρ':=[.fz (.int m),.fz (.tup (sT ps)),.fz (.lst (sT [[]])),.no,.no]) rfl).trans (zeD (zoP this))
 | none =>
  rw[hf] at this
  obtain⟨ρ',e⟩:=this
  refine zR ?_
  exact(zB (ρ':=[.fz (.int m),.fz (.tup (sT ps)),.fz (.lst (sT [[]])),.no,.no]) rfl).trans ((zB (yL e)).trans rfl)
def zpP (m:Nat)(ps:qQ1):D:=match wR ps with
 | some x=>.tup [.str x.1,.str x.2]
 | none=>(match v5 m ps with|some x=>.str x|none=>.non)
theorem zdo (m4:m<=4)(hl:ps.length<=10000)(h8:∀p∈ps,p.length<=31):vW [.int m,.tup (sT ps)]=.ok (zpP m ps):=by
 refine zR ?_
 show w6 [.fz (.int m),.fz (.tup (sT ps)),.no]=_
 unfold w6 zpP
 cases hf:wR ps with
 | some x =>
  have e1:z6 2 (fA (ari 1 xg) (zj (fNm 1) zF)) [.fz (.int m),.fz (.tup (sT ps)),.no]=.nx [.fz (.int m),.fz (.tup (sT ps)),.fz (.tup [.str x.1,.str x.2])]:=zH (d:=.tup [.str x.1,.str x.2]) (by
   show xg [.tup (sT ps)]=_
   rw[zbp,hf])
  exact(zB e1).trans (zeD rfl)
 | none =>
  have e1:z6 2 (fA (ari 1 xg) (zj (fNm 1) zF)) [.fz (.int m),.fz (.tup (sT ps)),.no]=.nx [.fz (.int m),.fz (.tup (sT ps)),.fz .non]:=zH (d:=.non) (by
   show xg [.tup (sT ps)]=_
   rw[zbp,hf])
  refine(zB e1).trans ((zB (ρ':=[.fz (.int m),.fz (.tup (sT ps)),.fz .non]) rfl).trans (z9 ?_))
  show xG [.int m,.tup (sT ps)]=_
  rw[zeP m4 hl h8]
theorem zlA :isN false (zpP m ps)=some (.bl ((wR ps).isNone&&(v5 m ps).isNone)):=by
 unfold zpP
 cases wR ps with
 | some x=>rfl
 | none=>cases v5 m ps <;>rfl
theorem ziJ (h:Pcs m ps):vJ [.int m,.tup (sT ps)]=.ok (.bl (isBook m ps)):=by
 have h8:∀p∈ps,p.length<=31:=λp q=>(h.2.2.2.2 p q).2.2
 have hl:ps.length<=10000:=by have:=h.2.2.2.1;omega
 refine zR (z9 ?_)
 show(w5 [.int m,.tup (sT ps)]).bind (λa=>(tru a).bind λb=>if b=true then(vW [.int m,.tup (sT ps)]).bind (λa=>lf (isN false a)) else .ok (.bl false))=_
 rw[zed h,zdo h.2.1 hl h8]
 show(if rising ps=true then lf (isN false (zpP m ps)) else Rs.ok (D.bl false))=_
 rw[zlA]
 unfold isBook
 cases rising ps <;>simp[lf]
theorem zcF (h:Pcs m ps)(hr:isBook m ps=true):wQ [.int m,.tup (sT ps)]=.ok .non:=by
 refine zcJ (ρ:=[.fz (.int m),.fz (.tup (sT ps))]) ?_
 refine(zdI ?_).trans rfl
 show((vJ [.int m,.tup (sT ps)]).bind tru).bind (λb=>Rs.ok !b)=_
 rw[ziJ h,hr];rfl
theorem zdd (m4:m<=4){l:List Nat}(h:LetOk m l)(hl:l.length<=1000000):vm [.int m,.str l]=.ok .non:=by
 refine zcJ (ρ:=[.fz (.int m),.fz (.str l)]) ?_
 refine(zdI ?_).trans rfl
 show((xu [.int m,.str l]).bind tru).bind (λb=>Rs.ok !b)=_
 rw[zaq m l hl,zgk m4 h];rfl
def dK (ks:qQ1):List (List Nat×D):=ks.map λk=>(k,.bl true)
theorem znT (ks:qQ1)(k:List Nat):putD (dK ks) k (.bl true)=dK (j9 ks k):=by
 unfold putD j9 dK
 have e:((ks.map λk=>(k,D.bl true)).any λkv=>decide (kv.1=k))=decide (k∈ks):=by
  rw[leu,lcR,lbS,lae]
  constructor
  ·rintro⟨y,hy,z⟩
   have:y=k:=by simpa using z
   exact this▸hy
  ·intro hk;exact⟨k,hk,by simp⟩
 rw[e]
 by_cases h:k∈ks
 ·rw [lO (lP h),lO h,laN]
  exact lbh λy hy=>by
   show(if y=k then(y,D.bl true) else(y,D.bl true))=_
   split <;>rfl
 ·rw[lY (by simp[h]),lY h,lau];rfl
theorem zmL (ks:qQ1):(dK ks).length=ks.length:=by simp[dK]
theorem wk:∀(l ks:qQ1),(l.foldl j9 ks).length<=ks.length+l.length
 | [],ks=>lu _
 | x::l,ks=>by
  have h1:=wk l (j9 ks x)
  have h2:=zhJ ks x
  rw[la5,lM];omega
theorem zhc (h8:∀p∈ps,p.length<=31)(hl:ps.length<=1000)(hk:(zE ps).length<64):jh [.tup (sT ps)]=.ok (.lst (sT (sortF (zE ps)))):=by
 have inner:∀(p:List Nat) (ks:qQ1) (s:Sl),p.length<=31->ks.length<=99999->∃s',vz 3 (fR zfC (zj (fO qN (zj (fNm 2) zF)) zF)) (zbL 1 (fSl (fNm 2) xQ (xN (fNm 3))) (fC (.bl true))) [.fz (.tup (sT ps)),.od (dK ks),.fz (.str p),s]=.nx [.fz (.tup (sT ps)),.od (dK ((zmt p).foldl j9 ks)),.fz (.str p),s']:=by
  intro p ks s hp hks
  have er:fR zfC (zj (fO qN (zj (fNm 2) zF)) zF) [.fz (.tup (sT ps)),.od (dK ks),.fz (.str p),s]=.ok ((List.range p.length).map λ(k:Nat)=>.int (k:Int)):=by
   exact ziD (ds:=[.int (p.length:Int)]) rfl (za7 (by omega))
  rw[yS er]
  obtain ⟨ρ',e,s',rfl⟩:=wB (i:=3) (g:=zbL 1 (fSl (fNm 2) xQ (xN (fNm 3))) (fC (.bl true))) (l:=List.range p.length) (enc:=λ(k:Nat)=>D.int (k:Int)) (ρ:=[.fz (.tup (sT ps)),.od (dK ks),.fz (.str p),s])
   (λk ρ=>∃s',ρ=[.fz (.tup (sT ps)),.od (dK (((List.range k).map λe=>p.take e).foldl j9 ks)),.fz (.str p),s']) ⟨s,rfl⟩ (λk c ρ hc ⟨s',e⟩=>by
    subst e
    have hkk:k<p.length:=by have:=(lx.mp hc).1;simpa using this
    have ec:c=k:=by rw[List.getElem?_range hkk] at hc;exact(lp hc).symm
    subst ec
    have hb:=wk ((List.range c).map λe=>p.take e) ks
    rw[lD,lbi] at hb
    have hlen:(dK (((List.range c).map λe=>p.take e).foldl j9 ks)).length<1000000:=by rw[zmL];omega
    have e1:fSl (fNm 2) xQ (xN (fNm 3)) [.fz (.tup (sT ps)),.od (dK (((List.range c).map λe=>p.take e).foldl j9 ks)),.fz (.str p),.fz (.int (c:Int))]=.ok (.str (p.take c)):=by
     show Rs.ok (D.str (zdm p none (some (c:Int))))=_
     rw[zbq]
    refine⟨[.fz (.tup (sT ps)),.od (putD (dK (((List.range c).map λe=>p.take e).foldl j9 ks)) (p.take c) (.bl true)),.fz (.str p),.fz (.int (c:Int))],?_,.fz (.int (c:Int)),?_⟩
    ·exact zg1 rfl rfl e1 hlen
    ·rw[znT,ler,lau,List.foldl_append];rfl)
  refine⟨s',e.trans ?_⟩
  rw[lbi];rfl
 have outer:=wB (i:=2) (g:=vz 3 (fR zfC (zj (fO qN (zj (fNm 2) zF)) zF)) (zbL 1 (fSl (fNm 2) xQ (xN (fNm 3))) (fC (.bl true)))) (l:=ps) (enc:=D.str) (ρ:=[.fz (.tup (sT ps)),.od [],.no,.no])
  (λk ρ=>∃s s',ρ=[.fz (.tup (sT ps)),.od (dK (((ps.take k).flatMap zmt).foldl j9 [])),s,s']) ⟨.no,.no,rfl⟩ (λk p ρ hp ⟨s,s',e⟩=>by
   subst e
   have hkk:k<ps.length:=(lx.mp hp).1
   have e3:ps.take (k+1)=ps.take k++[p]:=by rw[lbb,hp];rfl
   have hb:=wk ((ps.take k).flatMap zmt) []
   have hb2:((ps.take k).flatMap zmt).length<=31*(ps.take k).length:=by
    have hq:∀q∈ps.take k,q.length<=31:=λq hq=>h8 q (lbD hq)
    generalize ps.take k=qs at hq
    induction qs with
    | nil=>simp
    | cons q qs ih =>
     have:=ih λy hy=>hq y (.tail _ hy)
     have h1:=hq q (.head _)
     simp only[lc9,lU,lM,zmt,lD,lbi] at *
     omega
   rw[lW] at hb2
   simp only[lah] at hb
   obtain⟨s2,e4⟩:=inner p (((ps.take k).flatMap zmt).foldl j9 []) s' (h8 p (lad hp)) (by omega)
   refine⟨_,e4,.fz (.str p),s2,?_⟩
   rw[e3,List.flatMap_append,List.foldl_append]
   simp)
 obtain⟨ρ',e,s,s',rfl⟩:=outer
 rw[lar (lu _)] at e
 refine zR ?_
 show qO [.fz (.tup (sT ps)),.no,.no,.no]=_
 unfold qO
 refine(zB (ρ':=[.fz (.tup (sT ps)),.od [],.no,.no]) rfl).trans ?_
 refine(zB (yL ((yS (ds:=sT ps) rfl).trans e))).trans (z9 ?_)
 show(if (dK (zE ps)).length<64 then Rs.ok ((sortF ((dK (zE ps)).map (·.1))).map D.str) else .no).bind (λds=>Rs.ok (D.lst ds))=_
 have ek:(dK (zE ps)).map (·.1)=zE ps:=by unfold dK;rw[laN];exact(lbh λx _=>rfl).trans (lc7 _)
 rw[zmL,lO hk,ek];rfl
def zf1 (ns:List Int)(k:Int):Int:=if ns=[] then 7*k else ns.getD (k % ns.length).toNat 0+6553*(k / ns.length)
def qP (ns:List Int)(k m:Int):Int :=
 let c1:=(zf1 ns k % 2147483563*69069+104723*(k+1)) % 2147483563
 let c2:=(c1*c1+c1 / 3) % 2147483399
 (c2*c2+c2 / 7) % 2147483647 / 11 % m
theorem vK (ns:List Int)(k:Int){m:Int}(hm:0<m):0<=qP ns k m/\qP ns k m<m:=by
 unfold qP
 exact⟨lb7 _ (by omega),lbB _ (by omega)⟩
def scD (ns:List Int):D:=.lst (ns.map .int)
theorem zeE:∀ns:List Int,D.pls (ns.map .int)=true
 | []=>rfl
 | n::ns=>by show((D.int n).pl&&D.pls (ns.map .int))=true;rw[zeE ns];rfl
theorem zhX:∀ns:List Int,PyData.depthAll (D.pys (ns.map .int))=0
 | []=>rfl
 | n::ns=>by show max 0 (PyData.depthAll (D.pys (ns.map .int)))=0;rw[zhX ns];rfl
theorem ziq (ns:List Int):eqD false (scD ns) (.lst [])=some (.bl (decide (ns=[]))):=by
 have h:(scD ns).pl=true/\(D.lst []).pl=true/\(scD ns).py.depth<=60:=⟨zeE ns,rfl,by show PyData.depthAll (D.pys (ns.map .int))+1<=60;rw[zhX];omega⟩
 unfold eqD
 rw[lO h]
 cases ns <;>rfl
theorem cell_eq (ns:List Int)(hn:ns.length<=63)(k:Int)(h0:0<=k)(h1:k<1000):qm [scD ns,.int k]=.ok (.int (zf1 ns k)):=by
 refine zR ?_
 show uQ [.fz (scD ns),.fz (.int k)]=_
 unfold uQ zf1
 have e1:(bT (f2 (eqD false) (fNm 0) (fO mkL zF))) [.fz (scD ns),.fz (.int k)]=.ok (decide (ns=[])):=by
  show(lf (eqD false (scD ns) (.lst []))).bind tru=_
  rw[ziq];rfl
 by_cases h:ns=[]
 ·rw[lP h] at e1
  rw[lO h]
  exact zeD ((zdH e1).trans (z9 (yK rfl rfl (qL (by omega)) (qL (by omega)))))
 ·rw [lS h] at e1
  rw[lY h]
  refine(zB (ρ':=[.fz (scD ns),.fz (.int k)]) ((zdI e1).trans rfl)).trans (z9 ?_)
  have hl:0<ns.length:=lbN.mpr h
  have el:fO qN (zj (fNm 0) zF) [.fz (scD ns),.fz (.int k)]=.ok (.int (ns.length:Int)):=by
   show Rs.ok (D.int ((ns.map D.int).length:Int))=_
   rw[lD]
  have hp:(0:Int)<(ns.length:Int):=by omega
  have r1:=lb7 k (show(ns.length:Int)≠0 by omega)
  have r2:=lbB k hp
  have hd:0<=k / (ns.length:Int):=Int.ediv_nonneg h0 (by omega)
  have hd2:k / (ns.length:Int)<=k:=Int.ediv_le_self _ h0
  obtain⟨j,hj⟩:=lat r1
  have hjl:j<ns.length:=by omega
  have ei:f2 ixD (fNm 0) (f2 zfR (fNm 1) (fO qN (zj (fNm 0) zF))) [.fz (scD ns),.fz (.int k)]=.ok (.int (ns.getD (k % (ns.length:Int)).toNat 0)):=by
   refine yG (a:=scD ns) (b:=.int (k % (ns.length:Int))) rfl (qI rfl el hp) ?_
   show atI (ns.map D.int) (k % (ns.length:Int))=_
   rw[hj]
   have:=zgF (xs:=ns.map D.int) (j:=j) (v:=.int ns[j]) (by rw[lH,lb hjl];rfl)
   rw[this,laE,lh,lb hjl];rfl
  exact vI ei (yK rfl (ux rfl el hp (qL (by omega))) (qL (by omega)) (qL (by omega)))
theorem zaj (ns:List Int)(hn:ns.length<=63)(k m:Int)(h0:0<=k)(h1:k<1000)(hm:0<m):yw [scD ns,.int k,.int m]=.ok (.int (qP ns k m)):=by
 refine zR ?_
 show v7 [.fz (scD ns),.fz (.int k),.fz (.int m),.no]=_
 have hD:∀c1 c2,(zf1 ns k % 2147483563*69069+104723*(k+1)) % 2147483563=c1->(c1*c1+c1 / 3) % 2147483399=c2->qP ns k m=(c2*c2+c2 / 7) % 2147483647 / 11 % m:=by
  rintro _ _ rfl rfl;rfl
 unfold v7
 have ec:fA (ari 2 qm) (zj (fNm 0) (zj (fNm 1) zF)) [.fz (scD ns),.fz (.int k),.fz (.int m),.no]=.ok (.int (zf1 ns k)):=cell_eq ns hn k h0 h1
 have a1:=lb7 (zf1 ns k) (show(2147483563:Int)≠0 by decide)
 have a2:=lbB (zf1 ns k) (show(0:Int)<2147483563 by decide)
 generalize hc1:(zf1 ns k % 2147483563*69069+104723*(k+1)) % 2147483563=c1
 have b1:0<=c1:=hc1▸lb7 _ (by decide)
 have b2:c1<2147483563:=hc1▸lbB _ (by decide)
 refine(zB (ρ':=[.fz (scD ns),.fz (.int k),.fz (.int m),.fz (.int c1)]) ?_).trans ?_
 ·rw[← hc1]
  exact zH (qI (vI (yK (qI ec rfl (by decide)) rfl (qL (by omega)) (qL (by decide))) (yK rfl (vI rfl rfl) (qL (by decide)) (qL (by omega)))) rfl (by decide))
 generalize hc2:(c1*c1+c1 / 3) % 2147483399=c2
 have d1:0<=c2:=hc2▸lb7 _ (by decide)
 have d2:c2<2147483399:=hc2▸lbB _ (by decide)
 refine(zB (ρ':=[.fz (scD ns),.fz (.int k),.fz (.int m),.fz (.int c2)]) ?_).trans ?_
 ·rw[← hc2]
  exact zH (qI (vI (yK rfl rfl (qL (by omega)) (qL (by omega))) (ux rfl rfl (by decide) (qL (by decide)))) rfl (by decide))
 rw[hD c1 c2 hc1 hc2]
 exact z9 (qI (ux (qI (vI (yK rfl rfl (qL (by omega)) (qL (by omega))) (ux rfl rfl (by decide) (qL (by decide)))) rfl (by decide)) rfl (by decide) (qL (by decide))) rfl hm)
theorem zjD {ls:qQ1}(h:ls.length<64):zgN [.lst (sT ls)]=some (sT (sortF ls)):=by
 dsimp only [zgN]
 unfold zem
 rw[lO ⟨zka ls,by rw[wI];exact h⟩,zkS];rfl
end Pg
set_option maxHeartbeats 4000000
namespace Pg
open PySem L2 PyProof.Rows
end Pg
set_option maxHeartbeats 1000000
namespace Pg
open PySem L2 My
variable {fn:List D->Rs D}{f g:qQ5}{ρ:Rho}{a:D}{l:List Nat}{j m:Nat}{B:qQ1}{u:Int}{x:Int×Int}{ws:List Int}{α:Type}
theorem fA1 (e1:f ρ=.ok a):fA (ari 1 fn) (zj f zF) ρ=fn [a]:=by
 unfold fA;rw[zT e1 rfl];rfl
theorem fA2 {b:D}(e1:f ρ=.ok a)(e2:g ρ=.ok b):fA (ari 2 fn) (zj f (zj g zF)) ρ=fn [a,b]:=by
 unfold fA;rw[zT e1 (zT e2 rfl)];rfl
theorem fA3 {h:qQ5}{b c:D}(e1:f ρ=.ok a)(e2:g ρ=.ok b)(e3:h ρ=.ok c):fA (ari 3 fn) (zj f (zj g (zj h zF))) ρ=fn [a,b,c]:=by
 unfold fA;rw[zT e1 (zT e2 (zT e3 rfl))];rfl
theorem ifF {ft:qQ6}{g:Rho->Out}(e:ft ρ=.ok false):sIf ft g sNx ρ=.nx ρ:=zdI e
theorem vy {b:Bool}(e:f ρ=.ok (.bl b)):bT f ρ=.ok b:=by unfold bT;rw[e];rfl
theorem jy {f:qQ6}{b:Bool}(e:f ρ=.ok b):zb1 f ρ=.ok (!b):=by unfold zb1;rw[e];rfl
theorem zi5 {f g:qQ6}(e:f ρ=.ok false)(e2:g ρ=.ok false):bOr f g ρ=.ok false:=by unfold bOr;rw[e];exact e2
theorem zfj {fa:qQ5}{fl fh:Rho->Rs (Option Int)}{d:D}{l h:Option Int}(e1:fa ρ=.ok a)(e2:fl ρ=.ok l)(e3:fh ρ=.ok h)(e4:slD a l h=some d):fSl fa fl fh ρ=.ok d:=by
 unfold fSl;rw[e1];show(fl ρ).bind _=_;rw[e2];show(fh ρ).bind _=_;rw[e3];show lf (slD a l h)=_;rw[e4];rfl
theorem vg {d:D}(e:f ρ=.ok d):wY f ρ=.nx ρ:=by unfold wY;rw[e]
theorem znh {n:Nat}(h:j<n):ixN n (j:Int)=some j:=by
 unfold ixN
 rw[lO (by omega),lO (by omega)];rfl
theorem zop (h:j<B.length):atI (sT B) (j:Int)=some (.str (B.getD j [])):=by
 unfold atI
 rw[wI,znh h]
 simp[sT,h]
def zrA (n:Nat):Nat:=if n<=1 then 0 else if n<=2 then 1 else if n<=4 then 2 else if n<=8 then 3 else if n<=16 then 4 else 5
def zsd (i:Nat):Nat->List Nat
 | 0=>[]
 | k+1=>(48+i / 2 ^ k % 2)::zsd i k
def W (n:Nat):qQ1:=(List.range n).map λi=>zsd i (zrA n)
def frD (x:Int×Int):D:=.tup [.int x.1,.int x.2]
theorem qT {i:Int}{B:Nat}(h0:0<=i)(h:i<2 ^ B)(hB:B<=4000):Sm i:=by
 unfold Sm
 have h1:i<(2:Int) ^ 4000:=Int.lt_of_lt_of_le h (by
  have:=Nat.pow_le_pow_right (n:=2) (by decide) hB
  exact_mod_cast this)
 have h2:(i.natAbs:Int)<(2:Int) ^ 4000:=by rw[Int.natAbs_of_nonneg h0];exact h1
 exact_mod_cast h2
theorem zbw (neg:Bool)(i j:Int):eqD neg (.int i) (.int j)=some (.bl (if neg then !decide (i=j) else decide (i=j))):=by
 unfold eqD
 rw[lO ⟨rfl,rfl,by show(PyData.int _).depth<=60;simp[PyData.depth]⟩]
 have:PyData.eqv (D.int i).py (D.int j).py=decide (i=j):=by
  show(i == j)=_
  by_cases h:i=j <;>simp[h]
 rw[this]
theorem zjC:∀(n:Nat) (a b:Int) (f:Nat) (s:Sl),0<=b->b<=a->a*b<2 ^ n->n<f ->
  ∃s',whD (bT (f2 (eqD true) (fNm 1) (fC (.int 0)))) (zO (z6 2 (f2 zfR (fNm 0) (fNm 1))) (zO (z6 0 (fNm 1)) (z6 1 (fNm 2)))) f [.fz (.int a),.fz (.int b),s]=.nx [.fz (.int (Int.gcd a b:Int)),.fz (.int 0),s']:=by
 intro n
 induction n with
 | zero =>
  intro a b f s h0 h1 h2 h3
  cases f with
  | zero=>omega
  | succ f =>
  have hb:b=0:=by
   rcases Int.lt_or_eq_of_le h0 with h|h
   ·have:1*1<=a*b:=lbj (by omega) (by omega) (by decide) (by omega)
    omega
   ·exact h.symm
  subst hb
  refine⟨s,?_⟩
  have e:bT (f2 (eqD true) (fNm 1) (fC (.int 0))) [.fz (.int a),.fz (.int 0),s]=.ok false:=vy (yG (a:=.int 0) (b:=.int 0) rfl rfl (by rw[zbw];rfl))
  unfold whD
  rw[e]
  have:(Int.gcd a 0:Int)=a:=by rw[lcZ];omega
  rw[this]
 | succ n ih =>
  intro a b f s h0 h1 h2 h3
  cases f with
  | zero=>omega
  | succ f =>
  by_cases hb:b=0
  ·subst hb
   refine⟨s,?_⟩
   have e:bT (f2 (eqD true) (fNm 1) (fC (.int 0))) [.fz (.int a),.fz (.int 0),s]=.ok false:=vy (yG (a:=.int 0) (b:=.int 0) rfl rfl (by rw[zbw];rfl))
   unfold whD
   rw[e]
   have:(Int.gcd a 0:Int)=a:=by rw[lcZ];omega
   rw[this]
  ·have bpos:0<b:=by omega
   have e:bT (f2 (eqD true) (fNm 1) (fC (.int 0))) [.fz (.int a),.fz (.int b),s]=.ok true:=vy (yG (a:=.int b) (b:=.int 0) rfl rfl (by rw[zbw,lS hb];rfl))
   have r0:=lb7 a hb
   have r1:=lbB a bpos
   have es:(zO (z6 2 (f2 zfR (fNm 0) (fNm 1))) (zO (z6 0 (fNm 1)) (z6 1 (fNm 2)))) [.fz (.int a),.fz (.int b),s]=.nx [.fz (.int b),.fz (.int (a % b)),.fz (.int (a % b))] :=
    (zB (zH (qI rfl rfl bpos))).trans ((zB (zH (d:=.int b) rfl)).trans (zH (d:=.int (a % b)) rfl))
   have hr:b*(a % b)<2 ^ n:=by
    have d1:b*(a / b)+a % b=a:=Int.mul_ediv_add_emod a b
    have q1:1<=a / b:=Int.le_ediv_of_mul_le bpos (by omega)
    have q2:b*1<=b*(a / b):=laB q1 (by omega)
    have q3:2*(a % b)<=a:=by omega
    have q4:b*(2*(a % b))<=b*a:=laB q3 (by omega)
    have q5:b*(2*(a % b))=2*(b*(a % b)):=by rw[← laS,la2 b 2,laS]
    have q6:b*a=a*b:=la2 ..
    have q7:(2:Int) ^ (n+1)=2 ^ n*2:=lbr ..
    omega
   obtain⟨s',k⟩:=ih b (a % b) f (.fz (.int (a % b))) r0 (by omega) hr (by omega)
   refine⟨s',?_⟩
   unfold whD
   rw[e]
   show(match (zO (z6 2 (f2 zfR (fNm 0) (fNm 1))) (zO (z6 0 (fNm 1)) (z6 1 (fNm 2)))) [.fz (.int a),.fz (.int b),s] with | .nx ρ'=>_ | .ct ρ'=>_ | .bk ρ'=>_|o=>o)=_
   rw[es]
   have eg:Int.gcd b (a % b)=Int.gcd a b:=by
    obtain⟨x,rfl⟩:=lat (show 0<=a by omega)
    obtain⟨y,rfl⟩:=lat h0
    show Nat.gcd y (x % y)=Nat.gcd x y
    rw[leD y,leD x,← Nat.gcd_rec]
   rw[← eg]
   exact k
theorem zir {d:Int}(hu:0<=u)(hd:0<d)(h1:u<2 ^ 1000)(h2:d<2 ^ 1000):wJ [.int u,.int d]=.ok (.int (Int.gcd u d:Int)):=by
 have hp:u*d<2 ^ 2000:=zfs hu (by omega) h1 h2
 have key:∃s',whD (bT (f2 (eqD true) (fNm 1) (fC (.int 0)))) (zO (z6 2 (f2 zfR (fNm 0) (fNm 1))) (zO (z6 0 (fNm 1)) (z6 1 (fNm 2)))) 4000 [.fz (.int u),.fz (.int d),.no]=.nx [.fz (.int (Int.gcd u d:Int)),.fz (.int 0),s']:=by
  by_cases h:d<=u
  ·exact zjC 2000 u d 4000 .no (by omega) h hp (by decide)
  ·obtain ⟨s',k⟩:=zjC 2000 d u 3999 (.fz (.int u)) hu (by omega) (by rw[la2];exact hp) (by decide)
   refine⟨s',?_⟩
   have e:bT (f2 (eqD true) (fNm 1) (fC (.int 0))) [.fz (.int u),.fz (.int d),.no]=.ok true:=vy (yG (a:=.int d) (b:=.int 0) rfl rfl (by rw[zbw,lS (by omega)];rfl))
   have em:u % d=u:=Int.emod_eq_of_lt hu (by omega)
   have es:(zO (z6 2 (f2 zfR (fNm 0) (fNm 1))) (zO (z6 0 (fNm 1)) (z6 1 (fNm 2)))) [.fz (.int u),.fz (.int d),.no]=.nx [.fz (.int d),.fz (.int u),.fz (.int u)]:=by
    have:=(zB (h:=zO (z6 0 (fNm 1)) (z6 1 (fNm 2))) (zH (i:=2) (qI (f:=fNm 0) (g:=fNm 1) (ρ:=[.fz (.int u),.fz (.int d),.no]) (i:=u) (j:=d) rfl rfl hd)))
    rw[em] at this
    exact this.trans ((zB (zH (d:=.int d) rfl)).trans (zH (d:=.int u) rfl))
   show whD _ _ (3999+1) _=_
   unfold whD
   rw[e]
   show(match (zO (z6 2 (f2 zfR (fNm 0) (fNm 1))) (zO (z6 0 (fNm 1)) (z6 1 (fNm 2)))) [.fz (.int u),.fz (.int d),.no] with | .nx ρ'=>_ | .ct ρ'=>_ | .bk ρ'=>_|o=>o)=_
   rw[es]
   rw[lep]
   exact k
 obtain⟨s',k⟩:=key
 exact zR ((zB (yL k)).trans rfl)
theorem zmJ {d:Int}(hd:0<d)(h2:d<2 ^ 1000):0<(Int.gcd u d:Int)/\Sm (Int.gcd u d:Int):=by
 have h:=zjs (u:=u) hd
 have h3:(Int.gcd u d:Int)<=d:=Int.le_of_dvd hd (ld1 ..)
 exact⟨h,qT (by omega) (Int.lt_of_le_of_lt h3 h2) (by decide)⟩
theorem zf7 {d:Int}(hu:0<=u)(hd:0<d)(h1:u<2 ^ 1000)(h2:d<2 ^ 1000):za9 [.int u,.int d]=.ok (frD (low u d)):=by
 obtain⟨g1,g2⟩:=zmJ (u:=u) hd h2
 refine zR ((zB (zH ((fA2 (a:=.int u) (b:=.int d) rfl rfl).trans (zir hu hd h1 h2)))).trans (z9 (jB (zT (ux rfl rfl g1 g2) (zT (ux rfl rfl g1 g2) rfl)) ?_)))
 rfl
theorem fr0 (e:f ρ=.ok (frD x)):f2 ixD f (fC (.int 0)) ρ=.ok (.int x.1):=yG (a:=frD x) (b:=.int 0) e rfl rfl
theorem fr1 (e:f ρ=.ok (frD x)):f2 ixD f (fC (.int 1)) ρ=.ok (.int x.2):=yG (a:=frD x) (b:=.int 1) e rfl rfl
theorem Fra.sm {B:Nat}(h:Fra B x)(hB:B<=4000):Sm x.1/\Sm x.2:=⟨qT h.1 h.2.2.1 hB,qT (lab h.2.1) h.2.2.2 hB⟩
theorem zk5 {y:Int×Int}(hx:Fra 450 x)(hy:Fra 450 y):zcl [frD x,frD y]=.ok (frD (zry x y)):=by
 obtain⟨x1,x2⟩:=Fra.sm hx (by decide)
 obtain⟨y1,y2⟩:=Fra.sm hy (by decide)
 refine zR (z9 ((fA2 (vI (yK (fr0 (x:=x) rfl) (fr1 (x:=y) rfl) x1 y2) (yK (fr0 (x:=y) rfl) (fr1 (x:=x) rfl) y1 x2)) (yK (fr1 (x:=x) rfl) (fr1 (x:=y) rfl) x2 y2)).trans ?_))
 obtain⟨a1,a2,a3,a4⟩:=hx
 obtain⟨b1,b2,b3,b4⟩:=hy
 have p1:=zfs a1 (lab b2) a3 b4
 have p2:=zfs b1 (lab a2) b3 a4
 have p3:=zfs (lab a2) (lab b2) a4 b4
 have q1:0<=x.1*y.2:=lch a1 (lab b2)
 have q2:0<=y.1*x.2:=lch b1 (lab a2)
 have q3:0<x.2*y.2:=ldF a2 b2
 have w:(2:Int) ^ (450+450)+2 ^ (450+450)<=2 ^ 1000:=by decide +kernel
 have w2:(2:Int) ^ (450+450)<=2 ^ 1000:=by decide +kernel
 exact zf7 (by omega) q3 (by omega) (by omega)
theorem j7 {y:Int×Int}(hx:Fra 450 x)(hy:Fra 450 y):yM [frD x,frD y]=.ok (.bl (lessF x y)):=by
 obtain⟨x1,x2⟩:=Fra.sm hx (by decide)
 obtain⟨y1,y2⟩:=Fra.sm hy (by decide)
 exact zR (z9 (yG (yK (fr0 (x:=x) rfl) (fr1 (x:=y) rfl) x1 y2) (yK (fr0 (x:=y) rfl) (fr1 (x:=x) rfl) y1 x2) rfl))
theorem zmD (neg:Bool)(x y:Int×Int):eqD neg (frD x) (frD y)=some (.bl (if neg then !decide (x=y) else decide (x=y))):=by
 unfold eqD frD
 rw[lO ⟨rfl,rfl,by simp[D.py,D.pys,PyData.depth,PyData.depthAll]⟩]
 have:PyData.eqv (D.tup [.int x.1,.int x.2]).py (D.tup [.int y.1,.int y.2]).py=decide (x=y):=by
  show(((x.1 == y.1))&&((x.2 == y.2)&&true))=_
  rw[lcR,lae,Bool.and_true,lG,ldB,ldB]
  exact⟨λh=>Prod.ext h.1 h.2,λh=>by rw[h];exact⟨rfl,rfl⟩⟩
 rw[this]
def sI (ws:List Int):List D:=ws.map .int
theorem zb3 (ws:List Int):(sI ws).length=ws.length:=by simp[sI]
theorem zeQ (i:Int):qt [.int i]=.ok (.bl (decide (1<=i)&&decide (i<=99))):=by
 refine zR (z9 ((fA3 (a:=.int i) (b:=.int 1) (c:=.int 99) rfl rfl rfl).trans (qH i 1 99)))
theorem zgd (h:yq ws):vZ [.tup (sI ws)]=.ok (.bl true):=by
 have e:wX xU (fA (ari 1 qt) (zj (fNm 0) zF)) [.no] (sI ws)=.ok (ws.map λw=>.bl (decide (1<=w)&&decide (w<=99))):=vq _ λw hw=>(fA1 (a:=.int w) rfl).trans (zeQ w)
 refine zR ((zB (ifF (jy (b:=true) (vy ?_)))).trans ((zB (ifF (jy (b:=true) (vy ?_)))).trans (z9 (jB (zT (zba (ds:=sI ws) rfl (by rw[zb3];have:=h.2.1;omega) e) rfl) ?_))))
 ·show(lf (if (D.tup (sI ws)).pl=true then some (D.bl (isTup (D.tup (sI ws)).py)) else none))=_
  rw[lO (show(D.tup (sI ws)).pl=true from zeE ws)];rfl
 ·have e1:(2:Int)<=((sI ws).length:Int):=by rw[zb3];have:=h.1;omega
  have e2:((sI ws).length:Int)<=4:=by rw[zb3];have:=h.2.1;omega
  show(if decide ((2:Int)<=((sI ws).length:Int))=true then(Rs.ok (D.bl (decide (((sI ws).length:Int)<=4)))) else Rs.ok (D.bl false))=_
  rw[lP e1,lP e2];rfl
 ·rw [zhz]
  have:(ws.all λw=>(decide (1<=w)&&decide (w<=99)))=true:=by
   rw[lag]
   intro w hw
   have:=h.2.2 w hw
   rw[lP this.1,lP this.2];rfl
  rw[this]
theorem yX (h:yq ws):yD [.tup (sI ws)]=.ok .non :=
 zcJ (ifF (jy (b:=true) (vy ((fA1 (a:=.tup (sI ws)) rfl).trans (zgd h)))))
theorem vo (h:yq ws)(hp:Pcs ws.length B)(hb:isBook ws.length B=true):zY [.tup (sI ws),.tup (sT B)]=.ok .non:=by
 refine zcJ ((zB (vg ((fA1 (a:=.tup (sI ws)) rfl).trans (yX h)))).trans (vg ((fA2 (a:=.int (ws.length:Int)) (b:=.tup (sT B)) ?_ rfl).trans (zcF hp hb))))
 show Rs.ok (D.int ((sI ws).length:Int))=_
 rw[zb3]
theorem zi7 (h1:2<=ws.length)(h2:ws.length<=4):(∃a b,ws=[a,b])∨(∃a b c,ws=[a,b,c])∨∃a b c d,ws=[a,b,c,d]:=by
 rcases ws with _|⟨a,_|⟨b,_|⟨c,_|⟨d,_|⟨e,r⟩⟩⟩⟩⟩
 ·cases h1
 ·cases Nat.le_of_succ_le_succ h1
 ·exact .inl ⟨a,b,rfl⟩
 ·exact .inr (.inl ⟨a,b,c,rfl⟩)
 ·exact .inr (.inr ⟨a,b,c,d,rfl⟩)
 ·exact absurd h2 (Nat.not_le_of_lt (Nat.le_add_left 5 r.length))
theorem ziw (h:yq ws){c:Nat}(hc:97<=c/\c<97+ws.length):∃ds,zlO (.str [97,98,99,100]) (.tup (sI ws))=some (.dct ds)/\ds=ziZ [97,98,99,100] (sI ws)/\getD (.dct ds) (.str [c])=some (.int (wt ws c)):=by
 refine⟨_,rfl,rfl,?_⟩
 obtain⟨h1,h2,h3⟩:=h
 have e:c=97∨c=98∨c=99/\2<ws.length∨c=100/\3<ws.length:=by omega
 rcases zi7 h1 h2 with⟨a,b,rfl⟩|⟨a,b,d,rfl⟩|⟨a,b,d,f,rfl⟩
 ·rcases e with rfl|rfl|⟨_,z⟩|⟨_,z⟩
  ·rfl
  ·rfl
  ·simp at z
  ·simp at z
 ·rcases e with rfl|rfl|⟨rfl,_⟩|⟨_,z⟩
  ·rfl
  ·rfl
  ·rfl
  ·simp at z
 ·rcases e with rfl|rfl|⟨rfl,_⟩|⟨rfl,_⟩ <;>rfl
theorem zmG :zqp [.tup (sI ws)]=some (.int ws.sum):=by
 have e1:(sI ws).all isI=true:=by simp[sI,isI]
 have e2:(sI ws).map unN=ws:=by
  unfold sI;rw[laN]
  exact(lbh λx _=>rfl).trans (lc7 ws)
 show(if (sI ws).all isI=true then some (D.int ((sI ws).map unN).sum) else none)=_
 rw[lO e1,e2]
theorem up_snoc (ws:List Int)(l:List Nat)(c:Nat):up ws (l++[c])=up ws l*wt ws c:=by
 rw[znb]
 show up ws l*(wt ws c*1)=_
 rw[Int.mul_one]
theorem za6 (h:yq ws)(hl:LetOk ws.length l)(h20:l.length<=40):yO [.tup (sI ws),.str l]=.ok (frD (shr ws l)):=by
 have m4:=h.2.1
 have W:=uT h
 have step:=wB (i:=6) (g:=zO (z6 4 (f2 jP (fNm 4) (f2 getD (fNm 2) (fNm 6)))) (z6 5 (f2 jP (fNm 5) (fNm 3)))) (l:=l) (enc:=λc=>D.str [c]) (ρ:=[.fz (.tup (sI ws)),.fz (.str l),.fz (.dct (ziZ [97,98,99,100] (sI ws))),.fz (.int ws.sum),.fz (.int 1),.fz (.int 1),.no])
  (λk ρ=>∃s,ρ=[.fz (.tup (sI ws)),.fz (.str l),.fz (.dct (ziZ [97,98,99,100] (sI ws))),.fz (.int ws.sum),.fz (.int (up ws (l.take k))),.fz (.int (dn ws (l.take k))),s]) ⟨.no,by rw[lcf];simp[up,dn]⟩ (λk c ρ hc ⟨s,e⟩=>by
   subst e
   have hk:k<l.length:=(lx.mp hc).1
   have hcl:c∈l:=lad hc
   have e3:l.take (k+1)=l.take k++[c]:=by rw[lbb,hc];rfl
   have ht:LetOk ws.length (l.take k):=λd hd=>hl d (lbD hd)
   have tl:(l.take k).length<=40:=by rw[lW];omega
   have u1:=za5 h ht
   have u2:up ws (l.take k)<2 ^ 400:=by
    have a1:=zlr h ht
    have a2:(99:Int) ^ (l.take k).length<=99 ^ 40:=vQ (by decide) tl
    have a3:(99:Int) ^ 40<2 ^ 400:=by decide +kernel
    omega
   have d1:=zfu h (l.take k)
   have d2:dn ws (l.take k)<2 ^ 400:=by
    have a1:=znn h (l.take k)
    have a2:(396:Int) ^ (l.take k).length<=396 ^ 40:=vQ (by decide) tl
    have a3:(396:Int) ^ 40<2 ^ 400:=by decide +kernel
    omega
   have wr:=zbe h (hl c hcl)
   obtain⟨ds,_,rfl,eg⟩:=ziw h (hl c hcl)
   rw[e3,up_snoc]
   have ed:dn ws (l.take k++[c])=dn ws (l.take k)*ws.sum:=by unfold dn;rw[lU,ldH];show _*ws.sum ^ 1=_;rw[lbr,lew,leR]
   rw[ed]
   refine⟨_,(zB (zH (yK (i:=up ws (l.take k)) (j:=wt ws c) rfl (yG (a:=.dct _) (b:=.str [c]) rfl rfl eg) (qT (by omega) u2 (by decide)) (qL (by omega))))).trans (zH (yK (i:=dn ws (l.take k)) (j:=ws.sum) rfl rfl (qT (by omega) d2 (by decide)) (qL (by omega)))),.fz (.str [c]),rfl⟩)
 obtain⟨ρ',e,s,rfl⟩:=step
 rw[lar (lu _)] at e
 have u1:=za5 h hl
 have d1:=zfu h l
 have u2:up ws l<2 ^ 1000:=by
  have a1:=zlr h hl
  have a2:(99:Int) ^ l.length<=99 ^ 40:=vQ (by decide) h20
  have a3:(99:Int) ^ 40<2 ^ 1000:=by decide +kernel
  omega
 have d2:dn ws l<2 ^ 1000:=by
  have a1:=znn h l
  have a2:(396:Int) ^ l.length<=396 ^ 40:=vQ (by decide) h20
  have a3:(396:Int) ^ 40<2 ^ 1000:=by decide +kernel
  omega
 refine zR ?_
 show zc2 [.fz (.tup (sI ws)),.fz (.str l),.no,.no,.no,.no,.no]=_
 unfold zc2
 refine(zB (vg ((fA1 (a:=.tup (sI ws)) rfl).trans (yX h)))).trans ?_
 refine(zB (vg ((fA2 (a:=.int (ws.length:Int)) (b:=.str l) ?_ rfl).trans (zdd m4 hl (by omega))))).trans ?_
 ·show Rs.ok (D.int ((sI ws).length:Int))=_
  rw[zb3]
 refine(zB (zH (d:=.dct (ziZ [97,98,99,100] (sI ws))) rfl)).trans ?_
 refine(zB (zH (d:=.int ws.sum) (jB (ds:=[.tup (sI ws)]) rfl zmG))).trans ?_
 refine(zB (zH (d:=.int 1) rfl)).trans ((zB (zH (d:=.int 1) rfl)).trans ?_)
 refine(zB (yL ((yS (ds:=l.map λc=>.str [c]) rfl).trans e))).trans ?_
 exact z9 ((fA2 (a:=.int (up ws l)) (b:=.int (dn ws l)) rfl rfl).trans (zf7 (by omega) d1 u2 d2))
def wU (ws:List Int)(l:List Nat):Int:=up ws l*ws.sum ^ (31 - l.length)
def qF (ws:List Int)(a:Int):Int×Int:=low a (ws.sum ^ 31)
theorem za2 {l k:List Int}(p:l.Perm k):l.sum=k.sum:=by
 induction p with
 | nil=>rfl
 | cons x _ ih=>rw[lao,lao,ih]
 | swap x y l=>rw[lao,lao,lao,lao];omega
 | trans _ _ a b=>exact a.trans b
theorem zhj (l k:List Int):(l++k).sum=l.sum+k.sum:=by
 induction l with
 | nil=>rw[laH,leE,Int.zero_add]
 | cons x l ih=>rw[laG,lao,lao,ih,Int.add_assoc]
theorem zfH {α:Type}(f:α->Int):∀(B:List α) (j:Nat) (p:α),B[j]? = some p->((B.eraseIdx j).map f).sum+f p=(B.map f).sum
 | [],j,p,h=>by simp at h
 | x::B,0,p,h=>by
  obtain rfl:=lp h
  rw[List.eraseIdx_cons_zero,lr,lao];omega
 | x::B,j+1,p,h=>by
  have:=zfH f B j p h
  rw[List.eraseIdx_cons_succ,lr,lao,lr,lao];omega
theorem getD_some (hj:j<B.length):B[j]? = some (B.getD j []):=by
 rw[lh,lb hj];rfl
theorem zlb (f:List Nat->Int)(hj:j<B.length):((part m B j).map f).sum=(B.map f).sum - f (B.getD j [])+((kids m (B.getD j [])).map f).sum:=by
 unfold part
 rw[za2 ((vO _).map f),lau,zhj]
 have:=zfH f B j _ (getD_some hj)
 omega
theorem zoX (l:List α)(f:α->Int)(k:Int):(l.map λx=>k*f x).sum=k*(l.map f).sum:=by
 induction l with
 | nil=>rw[laL,laL,leE,Int.mul_zero]
 | cons x l ih=>rw[lr,lr,lao,lao,ih,Int.mul_add]
theorem sum_bound {l:List α}{f:α->Int}{k:Int}(h:∀x∈l,0<=f x/\f x<=k):0<=(l.map f).sum/\(l.map f).sum<=l.length*k:=by
 induction l with
 | nil=>rw[laL,leE,lah];simp
 | cons x l ih =>
  rw[lr,lao,lM]
  have:=ih λy hy=>h y (.tail _ hy)
  have h2:=h x (.head _)
  have:((l.length+1:Nat):Int)*k=l.length*k+k:=by rw[leF,lda];simp
  omega
theorem zqR (h:yq ws):((abcd.take ws.length).map (wt ws)).sum=ws.sum:=by
 obtain⟨h1,h2,h3⟩:=h
 rcases zi7 h1 h2 with⟨a,b,rfl⟩|⟨a,b,d,rfl⟩|⟨a,b,d,f,rfl⟩ <;>rfl
section
variable {ws:List Int}(h:yq ws)
include h
theorem jH:0<ws.sum ^ 31:=lcq (by have:=uT h;omega)
theorem zhr:ws.sum ^ 31<2 ^ 280:=by
 have W:=uT h
 have a:=zfU (a:=ws.sum) (b:=396) (by omega) W.2 31
 have b:(396:Int) ^ 31<2 ^ 280:=by decide +kernel
 omega
theorem zdB (hl:l.length<=31):shr ws l=qF ws (wU ws l):=by
 unfold shr qF wU
 refine zhZ (zfu h l) (jH h) ?_
 unfold dn
 rw[laS,← ldH]
 have:31 - l.length+l.length=31:=by omega
 rw[this]
theorem zfr (a b:Int):lessF (qF ws a) (qF ws b)=decide (a<b):=by
 have D:=jH h
 refine(zjO D D).trans ?_
 rw[lcR,lae,lae]
 exact Int.mul_lt_mul_right D
theorem zrP {a b:Int}(e:qF ws a=qF ws b):a=b:=by
 have D:=jH h
 exact lcv (by omega) (zqM D D e)
theorem zcg {a:Int}(h0:0<=a)(h1:a<2 ^ 400):Fra 450 (qF ws a):=by
 have D:=jH h
 have E:=zhr h
 have b:(2:Int) ^ 280<2 ^ 450:=by decide +kernel
 have c:(2:Int) ^ 400<2 ^ 450:=by decide +kernel
 exact zjx h0 D (by omega) (by omega)
theorem za0 (hl:LetOk ws.length l):0<wU ws l:=ldF (za5 h hl) (lcq (by have:=uT h;omega))
theorem zr6 (hl:LetOk ws.length l):up ws l<=ws.sum ^ l.length:=by
 have W:=uT h
 induction l with
 | nil=>rw[lah,lew];exact ldN _
 | cons c l ih =>
  have h1:=ih λd hd=>hl d (.tail _ hd)
  have h2:=zrX h (hl c (.head _))
  have h3:=zbe h (hl c (.head _))
  have h4:=za5 h (l:=l) λd hd=>hl d (.tail _ hd)
  show wt ws c*up ws l<=_
  rw[lM,lbr,la2 (ws.sum ^ l.length)]
  exact lbj (by omega) h1 (by omega) (by omega)
theorem zd5 (hl:LetOk ws.length l)(h8:l.length<=31):wU ws l<=ws.sum ^ 31:=by
 have W:=uT h
 have h1:=zr6 h hl
 have h2:0<ws.sum ^ (31 - l.length):=lcq (by omega)
 have h3:=lbc h1 (lab h2)
 rw[← ldH] at h3
 have:l.length+(31 - l.length)=31:=by omega
 rw[this] at h3
 exact h3
theorem zqX:wU ws []=ws.sum ^ 31:=by
 show 1*ws.sum ^ (31 - 0)=_
 rw[leR]
theorem zpG {p:List Nat}(hp:p.length<31)(g:Nat->Int):((kids ws.length p).map λx=>g x.length*wU ws x).sum=g (p.length+1)*wU ws p:=by
 have e:((kids ws.length p).map λx=>g x.length*wU ws x)=(abcd.take ws.length).map λc=>(g (p.length+1)*(up ws p*ws.sum ^ (31 - (p.length+1))))*wt ws c:=by
  unfold kids
  rw[laN]
  refine lbh λc _=>?_
  show g (p++[c]).length*(up ws (p++[c])*ws.sum ^ (31 - (p++[c]).length))=_
  have el:(p++[c]).length=p.length+1:=by simp
  rw[el,up_snoc]
  have:up ws p*wt ws c*ws.sum ^ (31 - (p.length+1))=up ws p*ws.sum ^ (31 - (p.length+1))*wt ws c:=by
   rw[laS,la2 (wt ws c),← laS]
  rw[this,← laS]
 rw[e,zoX,zqR h,laS]
 congr 1
 unfold wU
 rw[laS,← lbr]
 have:(31 - (p.length+1)).succ=31 - p.length:=by omega
 rw[this]
end
theorem jA {i:Nat}{g:Rho->Out}{d:D}{ds:List D}{ρ':Rho}(e:g (ρ.set i (.fz d))=.nx ρ'):forD i g (d::ds) ρ=forD i g ds ρ':=by
 show(match g (ρ.set i (.fz d)) with | .nx ρ'=>forD i g ds ρ' | .ct ρ'=>forD i g ds ρ' | .bk ρ'=>.nx ρ'|o=>o)=_
 rw[e]
def SG (ws:List Int)(g:Nat->Int)(B:qQ1):Int:=(B.map λp=>g p.length*wU ws p).sum
theorem zng (h:yq ws)(g:Nat->Int)(hj:j<B.length)(h7:(B.getD j []).length<31):SG ws g (part ws.length B j)=SG ws g B+(g ((B.getD j []).length+1) - g (B.getD j []).length)*wU ws (B.getD j []):=by
 unfold SG
 rw[zlb _ hj,zpG h h7,Int.sub_mul]
 omega
theorem getD_mem (hj:j<B.length):B.getD j []∈B:=by
 rw[lh,lb hj];exact laK hj
theorem zis (h:yq ws)(a k:Int)(hl:l.length<=31):zry (qF ws a) (k*(shr ws l).1,(shr ws l).2)=qF ws (a+k*wU ws l):=by
 have D:=jH h
 rw[zdB h hl]
 unfold qF
 obtain⟨g,g0,g1,g2,g3,_⟩:=vU (u:=a) D
 obtain⟨f,f0,f1,f2,f3,_⟩:=vU (u:=wU ws l) D
 generalize low a (ws.sum ^ 31)=x at *
 generalize low (wU ws l) (ws.sum ^ 31)=y at *
 unfold zry
 show low (x.1*y.2+k*y.1*x.2) (x.2*y.2)=_
 refine zhZ (ldF g3 f3) D ?_
 rw[g1,f1]
 have e1:(x.1*y.2+k*y.1*x.2)*ws.sum ^ 31=x.1*y.2*ws.sum ^ 31+k*y.1*x.2*ws.sum ^ 31:=lda ..
 have e2:(g*x.1+k*(f*y.1))*(x.2*y.2)=g*x.1*(x.2*y.2)+k*(f*y.1)*(x.2*y.2):=lda ..
 rw[e1,e2]
 have e3:x.1*y.2*ws.sum ^ 31=g*x.1*(x.2*y.2):=by rw[g2];simp only[laS,Int.mul_left_comm,la2]
 have e4:k*y.1*x.2*ws.sum ^ 31=k*(f*y.1)*(x.2*y.2):=by rw[f2];simp only[laS,Int.mul_left_comm,la2]
 rw[e3,e4]
def uV (n:Nat):Int:=n
theorem zjK (ws:List Int)(g:Nat->Int)(B:qQ1)(p:List Nat):SG ws g (B++[p])=SG ws g B+g p.length*wU ws p:=by
 unfold SG
 rw[lau,zhj,lr,laL,lao,leE,Int.add_zero]
theorem zeh (h:yq ws){g:Nat->Int}(hl:∀p∈B,LetOk ws.length p/\p.length<=31)(hg:∀n≤31,0<=g n/\g n<=100)(hB:B.length<=100):0<=SG ws g B/\SG ws g B<2 ^ 400:=by
 have D:=jH h
 have E:=zhr h
 have:=sum_bound (l:=B) (f:=λp=>g p.length*wU ws p) (k:=100*2 ^ 280) λp hp=>by
  have a:=hg p.length (hl p hp).2
  have b:=za0 h (hl p hp).1
  have c:=zd5 h (hl p hp).1 (hl p hp).2
  refine⟨lch a.1 (lab b),lbj a.2 (by omega) (lab b) (by decide)⟩
 have b:((B.length:Nat):Int)*(100*2 ^ 280)<=100*(100*2 ^ 280):=lbc (by omega) (by decide)
 have c:(100:Int)*(100*2 ^ 280)<2 ^ 400:=by decide +kernel
 unfold SG
 omega
theorem zqd (h:yq ws)(hl:LetOk ws.length l)(h8:l.length<=31):Fra 450 (((shr ws l).1*(l.length:Int),(shr ws l).2)):=by
 have f:=zgQ h hl h8
 obtain⟨f1,f2,f3,f4⟩:=f
 have w1:(2:Int) ^ (9*31+1)*31<2 ^ 450:=by decide +kernel
 have w2:(2:Int) ^ (9*31+1)<2 ^ 450:=by decide +kernel
 refine⟨lch f1 (by omega),f2,?_,by show(shr ws l).2<_;omega⟩
 show(shr ws l).1*(l.length:Int)<_
 have:(shr ws l).1*(l.length:Int)<=2 ^ (9*31+1)*31:=lbj (by omega) (by omega) (by omega) (by decide)
 omega
theorem zon (h:yq ws)(hp:Pcs ws.length B)(hb:isBook ws.length B=true):zec [.tup (sI ws),.tup (sT B)]=.ok (frD (qF ws (SG ws uV B))):=by
 have hl:∀p∈B,LetOk ws.length p/\p.length<=31:=λp q=>⟨(hp.2.2.2.2 p q).1,(hp.2.2.2.2 p q).2.2⟩
 have q0:qF ws 0=(0,1):=zls (jH h)
 have step:=wB (i:=3) (g:=zO (z6 4 (fA (ari 2 yO) (zj (fNm 0) (zj (fNm 3) zF)))) (z6 2 (fA (ari 2 zcl) (zj (fNm 2) (zj (fO mkT (zj (f2 jP (f2 ixD (fNm 4) (fC (.int 0))) (fO qN (zj (fNm 3) zF))) (zj (f2 ixD (fNm 4) (fC (.int 1))) zF))) zF))))) (l:=B) (enc:=D.str) (ρ:=[.fz (.tup (sI ws)),.fz (.tup (sT B)),.fz (frD (0,1)),.no,.no])
  (λk ρ=>∃s s',ρ=[.fz (.tup (sI ws)),.fz (.tup (sT B)),.fz (frD (qF ws (SG ws uV (B.take k)))),s,s']) ⟨.no,.no,by
   have:SG ws uV (B.take 0)=0:=by rw[lcf];rfl
   rw[this,q0]⟩ (λk p ρ hc ⟨s,s',e⟩=>by
   subst e
   have hpB:p∈B:=lad hc
   have e3:B.take (k+1)=B.take k++[p]:=by rw[lbb,hc];rfl
   obtain⟨p1,p2⟩:=hl p hpB
   have bd:=zeh h (g:=uV) (B:=B.take k) (λq hq=>hl q (lbD hq)) (λn hn=>by unfold uV;omega) (by rw[lW];have:=hp.2.2.2.1;omega)
   have sf:=zgQ h p1 p2
   have sm:=(Fra.sm sf (by decide)).1
   refine⟨_,(zB (zH (d:=frD (shr ws p)) ((fA2 (a:=.tup (sI ws)) (b:=.str p) rfl rfl).trans (za6 h p1 (by omega))))).trans (zH (d:=frD (qF ws (SG ws uV (B.take (k+1))))) ((fA2 (a:=frD (qF ws (SG ws uV (B.take k)))) (b:=frD ((shr ws p).1*(p.length:Int),(shr ws p).2)) rfl (jB (zT (yK (i:=(shr ws p).1) (j:=(p.length:Int)) (fr0 (x:=shr ws p) rfl) rfl sm (qL (by omega))) (zT (fr1 (x:=shr ws p) rfl) rfl)) rfl)).trans ?_)),_,_,rfl⟩
   rw[zk5 (zcg h bd.1 bd.2) (zqd h p1 p2),e3,zjK]
   have:=zis h (SG ws uV (B.take k)) (p.length:Int) p2
   rw[la2 (shr ws p).1,this];rfl)
 obtain⟨ρ',e,s,s',rfl⟩:=step
 rw[lar (lu _)] at e
 refine zR ((zB (vg ((fA2 (a:=.tup (sI ws)) (b:=.tup (sT B)) rfl rfl).trans (vo h hp hb)))).trans ((zB (zH (d:=frD (0,1)) rfl)).trans ((zB (yL ((yS (ds:=sT B) rfl).trans e))).trans rfl)))
theorem zoC {x y:List Nat}(h:x<y)(hn:¬x <+: y)(a:List Nat):x++a<y:=by
 induction x generalizing y with
 | nil=>exact absurd (lcr) hn
 | cons c x ih =>
  cases y with
  | nil=>exact absurd h (List.not_lt_nil _)
  | cons d y =>
   rcases lav.mp h with h1|⟨rfl,h2⟩
   ·exact lav.mpr (.inl h1)
   ·exact lav.mpr (.inr ⟨rfl,ih h2 λq=>hn (ldg.mpr ⟨rfl,q⟩)⟩)
theorem zoo (m:Nat)(p:List Nat):(kids m p).Pairwise (· < ·):=by
 unfold kids
 rw[ld3]
 have:(abcd.take m).Pairwise (· < ·):=List.Pairwise.sublist (ld0 _ _) (by decide)
 exact this.imp λz=>zjn p z
theorem zmq (hj:j<B.length):B=B.take j++B.getD j []::B.drop (j+1):=by
 have:B.getD j []=B[j]:=by rw[lh,lb hj];rfl
 rw[this]
 exact(ldi j B).symm.trans (by rw[lac hj])
theorem zcy (hb:Book m B)(hj:j<B.length):B.take j++kids m (B.getD j [])++B.drop (j+1)=part m B j:=by
 have hpm:=getD_mem hj
 have sB:=strict hb.srt hb.nd
 have sp:=zmq hj
 generalize hp:B.getD j []=p at *
 rw[sp] at sB
 obtain⟨s1,s2,s3⟩:=ldv.mp sB
 obtain⟨s4,s5⟩:=laF.mp s2
 have er:B.eraseIdx j=B.take j++B.drop (j+1):=List.eraseIdx_eq_take_drop_succ B j
 unfold part
 rw[hp,er]
 refine sortF_eq (List.Pairwise.imp (λz=>ldz z) ?_) ?_
 ·refine ldv.mpr ⟨ldv.mpr ⟨s1,zoo m p,λx hx y hy=>?_⟩,s5,λx hx y hy=>?_⟩
  ·obtain⟨c,_,rfl⟩:=kids_mem.mp hy
   exact lea (s3 x hx p (.head _)) (zmO p c)
  ·rcases lap.mp hx with hx|hx
   ·exact s3 x hx y (.tail _ hy)
   ·obtain⟨c,_,rfl⟩:=kids_mem.mp hx
    have hyB:y∈B:=ldu hy
    refine zoC (s4 y hy) (λq=>?_) [c]
    have:=hb.pf p hpm y hyB q
    subst this
    exact lcg _ (s4 p hy)
 ·rw[lba,lba]
  exact List.Perm.append_left _ List.perm_append_comm
theorem zm7 (l:List α)(m:Nat):zdm l none (some (m:Int))=l.take m:=zbq l m
theorem zkj (hp:Pcs m B)(hb:Book m B){p:List Nat}(h:p∈B):jY [.int m,.tup (sT B),.str p]=.ok (.tup (sT (part m B (B.idxOf p)))):=by
 have hj:=lct h
 have h32:=hp.2.2.2.1
 have eg:B.getD (B.idxOf p) []=p:=by rw[lh,lb hj];exact lbU hj
 have h8:=(hp.2.2.2.2 p h).2.2
 have ps:=zcy hb hj
 rw[eg] at ps
 have ek:zV m [p]=kids m p:=by
  unfold zV kids
  rw[lc9,List.flatMap_nil,lX]
 have m4:=hp.2.1
 have kl:=kh m m4 p
 have tk:∀(l:qQ1) (n:Nat),(sT l).take n=sT (l.take n):=λl n=>by unfold sT;rw[ldA]
 have td:∀(l:qQ1) (n:Nat),(sT l).drop n=sT (l.drop n):=λl n=>by unfold sT;rw[leb]
 have e1:zpW (.tup (sT B)) (.str p)=some (.int ((B.idxOf p:Nat):Int)):=by
  dsimp only [zpW]
  rw[zkS,lO ⟨zka B,by rw[wI];omega,h⟩]
 refine zR ((zB (zH (d:=.int ((B.idxOf p:Nat):Int)) (zpO (a:=.tup (sT B)) (b:=.str p) rfl rfl rfl e1))).trans (z9 ?_))
 refine yG (a:=.tup (sT (B.take (B.idxOf p)++kids m p))) (b:=.tup (sT (B.drop (B.idxOf p+1)))) ?_ ?_ ?_
 ·refine yG (a:=.tup (sT (B.take (B.idxOf p)))) (b:=.tup (sT (kids m p))) ?_ ?_ ?_
  ·refine zfj (a:=.tup (sT B)) (l:=none) (h:=some ((B.idxOf p:Nat):Int)) rfl rfl rfl ?_
   show some (D.tup (zdm (sT B) none (some ((B.idxOf p:Nat):Int))))=_
   rw[zbq,tk]
  ·refine jB (ds:=[.lst (sT (kids m p))]) (zT ((fA2 (a:=.int m) (b:=.lst (sT [p])) rfl rfl).trans ?_) rfl) rfl
   rw[zal [p] (λx hx=>by rw[lK.mp hx];omega) (by show 4*1<=_;decide),ek]
  ·show(if (sT (B.take (B.idxOf p))).length+(sT (kids m p)).length<=1000000 then some (D.tup (sT (B.take (B.idxOf p))++sT (kids m p))) else none)=_
   rw[lO (by rw[wI,wI,lW];omega),zfa]
 ·refine zfj (a:=.tup (sT B)) (l:=some ((B.idxOf p+1:Nat):Int)) (h:=none) rfl ?_ rfl ?_
  ·rfl
  ·show some (D.tup (zdm (sT B) (some ((B.idxOf p+1:Nat):Int)) none))=_
   rw[zeZ,td]
 ·show(if (sT (B.take (B.idxOf p)++kids m p)).length+(sT (B.drop (B.idxOf p+1))).length<=1000000 then some (D.tup (sT (B.take (B.idxOf p)++kids m p)++sT (B.drop (B.idxOf p+1)))) else none)=_
  rw[lO (by rw[wI,wI,lU,lW,lb9];omega),zfa,ps]
def wH (ws:List Int):qQ1->Int->Int
 | [],a=>a
 | x::L,a=>wH ws L (if wU ws x<a then wU ws x else a)
theorem zaO (ws:List Int):∀(L:qQ1) (a:Int),wH ws L a<=a/\(∀x∈L,wH ws L a<=wU ws x)/\(wH ws L a=a∨∃x∈L,wH ws L a=wU ws x)
 | [],a=>⟨ldN _,(λx hx=>by cases hx),.inl rfl⟩
 | y :: L,a=>by
  obtain⟨h1,h2,h3⟩:=zaO ws L (if wU ws y<a then wU ws y else a)
  show wH ws L (if wU ws y<a then wU ws y else a)<=a/\_
  have e:wH ws (y::L) a=wH ws L (if wU ws y<a then wU ws y else a):=rfl
  rw[e]
  by_cases c:wU ws y<a
  ·rw [lO c] at h1 h2 h3 ⊢
   refine⟨by omega,λx hx=>?_,?_⟩
   ·rcases lz.mp hx with rfl|hx
    ·exact h1
    ·exact h2 x hx
   ·rcases h3 with h3|⟨x,hx,h3⟩
    ·exact .inr ⟨y,.head _,h3⟩
    ·exact .inr ⟨x,.tail _ hx,h3⟩
  ·rw [lY c] at h1 h2 h3 ⊢
   refine⟨h1,λx hx=>?_,?_⟩
   ·rcases lz.mp hx with rfl|hx
    ·omega
    ·exact h2 x hx
   ·rcases h3 with h3|⟨x,hx,h3⟩
    ·exact .inl h3
    ·exact .inr ⟨x,.tail _ hx,h3⟩
theorem zrh (h:yq ws):qF ws (ws.sum ^ 31)=(1,1):=by
 rw[← zqX h,← zdB h (l:=[]) (by decide),znj h]
theorem zdF (h:yq ws)(hp:Pcs ws.length B)(hb:Book ws.length B)(hk:(zE B).length<64):vV [.tup (sI ws),.tup (sT B)]=.ok (frD (qF ws (wH ws (sortF (zE B)) (ws.sum ^ 31)))):=by
 have hin:=zhc (ps:=B) (λp q=>(hp.2.2.2.2 p q).2.2) (by have:=hp.2.2.2.1;omega) hk
 have hL:∀x∈sortF (zE B),LetOk ws.length x/\x.length<=31:=λx hx=>by
  have hi:=innerKeys_mem.mp (sortF_mem.mp hx)
  refine⟨hb.innerLet hi,?_⟩
  obtain⟨p,hpB,hpre,_⟩:=hi
  exact laC hpre.length_le (hp.2.2.2.2 p hpB).2.2
 generalize sortF (zE B)=L at *
 have D:=jH h
 have E:=zhr h
 have w:(2:Int) ^ 280<2 ^ 400:=by decide +kernel
 have key:∀(K:qQ1) (a:Int) (s s':Sl),(∀x∈K,LetOk ws.length x/\x.length<=31)->0<=a->a<2 ^ 400->∃s1 s2,forD 3 (zO (z6 4 (fA (ari 2 yO) (zj (fNm 0) (zj (fNm 3) zF)))) (sIf (bT (fA (ari 2 yM) (zj (fNm 4) (zj (fNm 2) zF)))) (z6 2 (fNm 4)) sNx)) (sT K) [.fz (.tup (sI ws)),.fz (.tup (sT B)),.fz (frD (qF ws a)),s,s']=.nx [.fz (.tup (sI ws)),.fz (.tup (sT B)),.fz (frD (qF ws (wH ws K a))),s1,s2]:=by
  intro K
  induction K with
  | nil=>intro a s s' _ _ _;exact⟨s,s',rfl⟩
  | cons x K ih =>
   intro a s s' hK a0 a1
   obtain⟨x1,x2⟩:=hK x (.head _)
   have u0:=za0 h x1
   have u1:=zd5 h x1 x2
   have e1:(z6 4 (fA (ari 2 yO) (zj (fNm 0) (zj (fNm 3) zF)))) [.fz (.tup (sI ws)),.fz (.tup (sT B)),.fz (frD (qF ws a)),.fz (.str x),s']=.nx [.fz (.tup (sI ws)),.fz (.tup (sT B)),.fz (frD (qF ws a)),.fz (.str x),.fz (frD (qF ws (wU ws x)))]:=by
    have:=zH (i:=4) (d:=frD (shr ws x)) (ρ:=[.fz (.tup (sI ws)),.fz (.tup (sT B)),.fz (frD (qF ws a)),.fz (.str x),s']) ((fA2 (a:=.tup (sI ws)) (b:=.str x) (f:=fNm 0) (g:=fNm 3) rfl rfl).trans (za6 h x1 (by omega)))
    rw[zdB h x2] at this
    exact this
   have e2:bT (fA (ari 2 yM) (zj (fNm 4) (zj (fNm 2) zF))) [.fz (.tup (sI ws)),.fz (.tup (sT B)),.fz (frD (qF ws a)),.fz (.str x),.fz (frD (qF ws (wU ws x)))]=.ok (decide (wU ws x<a)):=vy (((fA2 (a:=frD (qF ws (wU ws x))) (b:=frD (qF ws a)) rfl rfl).trans (j7 (zcg h (by omega) (by omega)) (zcg h a0 a1))).trans (by rw[zfr h]))
   by_cases c:wU ws x<a
   ·rw[lP c] at e2
    obtain⟨s1,s2,k⟩:=ih (wU ws x) (.fz (.str x)) (.fz (frD (qF ws (wU ws x)))) (λy hy=>hK y (.tail _ hy)) (by omega) (by omega)
    refine⟨s1,s2,?_⟩
    have:wH ws (x::K) a=wH ws K (wU ws x):=by show wH ws K (if wU ws x<a then wU ws x else a)=_;rw[lO c]
    rw[this]
    exact(jA ((zB e1).trans ((zdH e2).trans (zH (d:=frD (qF ws (wU ws x))) rfl)))).trans k
   ·rw[lS c] at e2
    obtain⟨s1,s2,k⟩:=ih a (.fz (.str x)) (.fz (frD (qF ws (wU ws x)))) (λy hy=>hK y (.tail _ hy)) a0 a1
    refine⟨s1,s2,?_⟩
    have:wH ws (x::K) a=wH ws K a:=by show wH ws K (if wU ws x<a then wU ws x else a)=_;rw[lY c]
    rw[this]
    exact(jA ((zB e1).trans ((zdI e2).trans rfl))).trans k
 obtain⟨s1,s2,k⟩:=key L (ws.sum ^ 31) .no .no hL (by omega) (by omega)
 rw[zrh h] at k
 refine zR ((zB (vg ((fA2 (a:=.tup (sI ws)) (b:=.tup (sT B)) rfl rfl).trans (vo h hp hb.isBook)))).trans ((zB (zH (d:=frD (1,1)) rfl)).trans ((zB (yL ((yS (ds:=sT L) ?_).trans k))).trans rfl)))
 show(fA (ari 1 jh) (zj (fNm 1) zF) [.fz (.tup (sI ws)),.fz (.tup (sT B)),.fz (frD (1,1)),.no,.no]).bind _=_
 rw[fA1 (a:=.tup (sT B)) rfl,hin];rfl
def gpF (ws:List Int):qQ1->List Nat->List Nat
 | [],f=>f
 | x::L,f=>gpF ws L (if wU ws f<wU ws x then x else f)
theorem zd3 (ws:List Int):∀(L:qQ1) (f:List Nat),wU ws f<=wU ws (gpF ws L f)/\(∀x∈L,wU ws x<=wU ws (gpF ws L f))/\(gpF ws L f=f∨gpF ws L f∈L)
 | [],f=>⟨ldN _,(λx hx=>by cases hx),.inl rfl⟩
 | y :: L,f=>by
  obtain⟨h1,h2,h3⟩:=zd3 ws L (if wU ws f<wU ws y then y else f)
  have e:gpF ws (y::L) f=gpF ws L (if wU ws f<wU ws y then y else f):=rfl
  rw[e]
  by_cases c:wU ws f<wU ws y
  ·rw [lO c] at h1 h2 h3 ⊢
   refine⟨by omega,λx hx=>?_,.inr ?_⟩
   ·rcases lz.mp hx with rfl|hx
    ·exact h1
    ·exact h2 x hx
   ·rcases h3 with h3|h3
    ·rw[h3];exact .head _
    ·exact .tail _ h3
  ·rw[lY c] at h1 h2 h3 ⊢
   refine⟨h1,λx hx=>?_,h3.imp_right (.tail _)⟩
   rcases lz.mp hx with rfl|hx
   ·omega
   ·exact h2 x hx
def shD (ws:List Int)(L:qQ1):List (List Nat×D):=L.map λx=>(x,frD (qF ws (wU ws x)))
theorem ze7 (h:yq ws)(hl:∀p∈B,LetOk ws.length p/\p.length<=31)(nd:B.Nodup)(h32:B.length<=32):jM [.tup (sI ws),.tup (sT B)]=.ok (.dct (shD ws B)):=by
 have step:=wB (i:=3) (g:=zbL 2 (fNm 3) (fA (ari 2 yO) (zj (fNm 0) (zj (fNm 3) zF)))) (l:=B) (enc:=D.str) (ρ:=[.fz (.tup (sI ws)),.fz (.tup (sT B)),.od [],.no])
  (λk ρ=>∃s,ρ=[.fz (.tup (sI ws)),.fz (.tup (sT B)),.od (shD ws (B.take k)),s]) ⟨.no,rfl⟩ (λk p ρ hc ⟨s,e⟩=>by
   subst e
   have hk:k<B.length:=(lx.mp hc).1
   have hpB:p∈B:=lad hc
   have e3:B.take (k+1)=B.take k++[p]:=by rw[lbb,hc];rfl
   obtain⟨p1,p2⟩:=hl p hpB
   have hnin:p∉B.take k:=by
    intro hm
    rw[← ldi k B] at nd
    have hd:p∈B.drop k:=by
     rw[lac hk]
     have:B[k]=p:=(lx.mp hc).2
     rw[this];exact .head _
    exact(lbu.mp nd).2.2 p hm p hd rfl
   have e4:putD (shD ws (B.take k)) p (frD (qF ws (wU ws p)))=shD ws (B.take (k+1)):=by
    unfold putD
    have:((shD ws (B.take k)).any λkv=>decide (kv.1=p))=false:=by
     rw[ld4]
     intro kv hkv
     obtain⟨x,hx,rfl⟩:=laI.mp hkv
     intro z
     exact hnin (laZ z▸hx)
    rw[this,lY (by decide),e3]
    unfold shD
    rw[lau];rfl
   refine⟨[.fz (.tup (sI ws)),.fz (.tup (sT B)),.od (putD (shD ws (B.take k)) p (frD (qF ws (wU ws p)))),.fz (.str p)],zg1 (v:=frD (qF ws (wU ws p))) (k:=p) rfl (((fA2 (a:=.tup (sI ws)) (b:=.str p) rfl rfl).trans (za6 h p1 (by omega))).trans (by rw[zdB h p2])) rfl (by unfold shD;rw[lD,lW];omega),.fz (.str p),?_⟩
   rw[e4])
 obtain⟨ρ',e,s,rfl⟩:=step
 rw[lar (lu _)] at e
 exact zR ((zB (ρ':=[.fz (.tup (sI ws)),.fz (.tup (sT B)),.od [],.no]) rfl).trans ((zB (yL ((yS (ds:=sT B) rfl).trans e))).trans rfl))
theorem zc1 {ws:List Int}:∀{B:qQ1}{p:List Nat},p∈B->getD (.dct (shD ws B)) (.str p)=some (frD (qF ws (wU ws p)))
 | x::B,p,h=>by
  show Option.map _ (List.find? _ ((x,_)::shD ws B))=_
  by_cases e:x=p
  ·subst e
   rw[lc4 (by simp)];rfl
  ·rw[lci (by simpa using e)]
   rcases lz.mp h with rfl|h
   ·exact absurd rfl e
   ·exact zc1 h
theorem zgY (h:yq ws)(hp:Pcs ws.length B)(hb:Book ws.length B):wC [.tup (sI ws),.tup (sT B)]=.ok (.str (gpF ws B (B.getD 0 []))):=by
 have hl:∀p∈B,LetOk ws.length p/\p.length<=31:=λp q=>⟨(hp.2.2.2.2 p q).1,(hp.2.2.2.2 p q).2.2⟩
 have h0:0<B.length:=by
  cases B with
  | nil=>exact absurd rfl hp.2.2.1
  | cons=>exact Nat.succ_pos _
 have E:=zhr h
 have w:(2:Int) ^ 280<2 ^ 400:=by decide +kernel
 have key:∀(K:qQ1) (f:List Nat) (s:Sl),(∀x∈K,x∈B)->f∈B->∃s1,forD 3 (sIf (bT (fA (ari 2 yM) (zj (f2 getD (fNm 1) (fNm 2)) (zj (f2 getD (fNm 1) (fNm 3)) zF)))) (z6 2 (fNm 3)) sNx) (sT K) [.fz (.tup (sT B)),.fz (.dct (shD ws B)),.fz (.str f),s]=.nx [.fz (.tup (sT B)),.fz (.dct (shD ws B)),.fz (.str (gpF ws K f)),s1]:=by
  intro K
  induction K with
  | nil=>intro f s _ _;exact⟨s,rfl⟩
  | cons x K ih =>
   intro f s hK hf
   have hx:=hK x (.head _)
   have x0:=za0 h (hl x hx).1
   have x1:=zd5 h (hl x hx).1 (hl x hx).2
   have f0:=za0 h (hl f hf).1
   have f1:=zd5 h (hl f hf).1 (hl f hf).2
   have e2:bT (fA (ari 2 yM) (zj (f2 getD (fNm 1) (fNm 2)) (zj (f2 getD (fNm 1) (fNm 3)) zF))) [.fz (.tup (sT B)),.fz (.dct (shD ws B)),.fz (.str f),.fz (.str x)]=.ok (decide (wU ws f<wU ws x)):=vy (((fA2 (a:=frD (qF ws (wU ws f))) (b:=frD (qF ws (wU ws x))) (yG (a:=.dct (shD ws B)) (b:=.str f) rfl rfl (zc1 hf)) (yG (a:=.dct (shD ws B)) (b:=.str x) rfl rfl (zc1 hx))).trans (j7 (zcg h (by omega) (by omega)) (zcg h (by omega) (by omega)))).trans (by rw[zfr h]))
   by_cases c:wU ws f<wU ws x
   ·rw[lP c] at e2
    obtain⟨s1,k⟩:=ih x (.fz (.str x)) (λy hy=>hK y (.tail _ hy)) hx
    refine⟨s1,?_⟩
    have:gpF ws (x::K) f=gpF ws K x:=by show gpF ws K (if wU ws f<wU ws x then x else f)=_;rw[lO c]
    rw[this]
    exact(jA ((zdH e2).trans (zH (d:=.str x) rfl))).trans k
   ·rw[lS c] at e2
    obtain⟨s1,k⟩:=ih f (.fz (.str x)) (λy hy=>hK y (.tail _ hy)) hf
    refine⟨s1,?_⟩
    have:gpF ws (x::K) f=gpF ws K f:=by show gpF ws K (if wU ws f<wU ws x then x else f)=_;rw[lY c]
    rw[this]
    exact(jA ((zdI e2).trans rfl)).trans k
 obtain⟨s1,k⟩:=key B (B.getD 0 []) .no (λx hx=>hx) (getD_mem h0)
 have e1:yE [.tup (sT B),.dct (shD ws B)]=.ok (.str (gpF ws B (B.getD 0 []))):=by
  refine zR ((zB (zH (d:=.str (B.getD 0 [])) (yG (a:=.tup (sT B)) (b:=.int 0) rfl rfl ?_))).trans ((zB (yL ((yS (ds:=sT B) rfl).trans k))).trans rfl))
  exact zop h0
 exact zR ((zB (vg ((fA2 (a:=.tup (sI ws)) (b:=.tup (sT B)) rfl rfl).trans (vo h hp hb.isBook)))).trans (z9 ((fA2 (a:=.tup (sT B)) (b:=.dct (shD ws B)) rfl ((fA2 (a:=.tup (sI ws)) (b:=.tup (sT B)) rfl rfl).trans (ze7 h hl hb.nd hp.2.2.2.1))).trans e1)))
def zmc (ns:List Int)(at':Nat)(m:Nat):List Int:=(List.range m).map λ(k:Nat)=>1+qP ns (at'+1+(k:Int)) ([3,9,99].getD (qP ns at' 3).toNat 0)
theorem zff (ns:List Int)(at':Int):∃q:Int,([3,9,99]:List Int).getD (qP ns at' 3).toNat 0=q/\0<q/\q<=99/\ixD (.lst [.int 3,.int 9,.int 99]) (.int (qP ns at' 3))=some (.int q):=by
 have hd:=vK ns at' (m:=3) (by decide)
 obtain⟨r,hr⟩:=lat hd.1
 rw[hr] at hd ⊢
 have:r=0∨r=1∨r=2:=by omega
 rcases this with rfl|rfl|rfl
 ·exact⟨3,rfl,by decide,by decide,rfl⟩
 ·exact⟨9,rfl,by decide,by decide,rfl⟩
 ·exact⟨99,rfl,by decide,by decide,rfl⟩
theorem znL (ns:List Int)(at':Nat)(m2:2<=m)(m4:m<=4):yq (zmc ns at' m)/\(zmc ns at' m).length=m:=by
 have hl:(zmc ns at' m).length=m:=by simp[zmc]
 obtain⟨q,e,q0,q1,_⟩:=zff ns at'
 refine⟨⟨by omega,by omega,λw hw=>?_⟩,hl⟩
 obtain⟨k,_,rfl⟩:=laI.mp hw
 rw[e]
 have:=vK ns (at'+1+(k:Int)) (m:=q) q0
 omega
theorem zjW (ns:List Int)(hn:ns.length<=63)(at':Nat)(m2:2<=m)(m4:m<=4)(hat:at'<=900):qK [scD ns,.int at',.int m]=.ok (.tup (sI (zmc ns at' m))):=by
 obtain⟨q,e,q0,q1,eq⟩:=zff ns at'
 refine zR ((zB (zH (d:=.int q) (yG (a:=.lst [.int 3,.int 9,.int 99]) (b:=.int (qP ns at' 3)) rfl ((fA3 (a:=scD ns) (b:=.int at') (c:=.int 3) rfl rfl rfl).trans (zaj ns hn at' 3 (by omega) (by omega) (by decide))) eq))).trans (z9 (jB (ds:=[.lst (sI (zmc ns at' m))]) (zT (zba (ds:=(List.range m).map λ(k:Nat)=>.int (k:Int)) ?_ (by rw[lD,lbi];omega) ?_) rfl) rfl)))
 ·exact ziD (ds:=[.int (m:Int)]) rfl (za7 (by omega))
 ·have hk:∀k∈List.range m,f2 zaa (fC (.int 1)) (fA (ari 3 yw) (zj (fNm 1) (zj (f2 zaa (f2 zaa (fNm 3) (fC (.int 1))) (fNm 0)) (zj (fNm 2) zF)))) ([Sl.no,.fz (scD ns),.fz (.int q),.fz (.int at')].set 0 (.fz (D.int (k:Int))))=.ok (.int (1+qP ns (at'+1+(k:Int)) q)):=λk hk=>by
   have:=lbJ.mp hk
   exact vI rfl ((fA3 (a:=scD ns) (b:=.int ((at':Int)+1+(k:Int))) (c:=.int q) rfl (vI (vI rfl rfl) rfl) rfl).trans (zaj ns hn _ q (by omega) (by omega) q0))
  have:=vq (l:=List.range m) (enc:=λ(k:Nat)=>D.int (k:Int)) (λk=>.int (1+qP ns (at'+1+(k:Int)) q)) hk
  have e2:sI (zmc ns at' m)=(List.range m).map λ(k:Nat)=>D.int (1+qP ns (at'+1+(k:Int)) q):=by
   unfold sI zmc
   rw[laN,e];rfl
  rw[e2]
  exact this
end Pg
namespace My
variable {p x y:List Nat}{B ps:qQ1}{m:Nat}
theorem zbb {q:List Nat}(h:q <+: p)(hn:q≠p):q <+: p.dropLast:=by
 rcases List.eq_nil_or_concat p with rfl|⟨l,c,rfl⟩
 ·exact absurd (ldL.mp h) hn
 ·rw[List.concat_eq_append] at h hn ⊢
  rw[lcx]
  rcases lbe.mp h with e|e
  ·exact absurd e hn
  ·exact e
theorem zko (h:p≠[]):p.dropLast≠p:=λe=>by
 have:=lbG List.length e
 have:=lbN.mpr h
 rw[List.length_dropLast] at *
 omega
theorem Inner.pre (h:Inner B y)(p:x <+: y):Inner B x:=by
 obtain⟨q,hq,hy,hn⟩:=h
 refine⟨q,hq,p.trans hy,λe=>hn ?_⟩
 subst e
 exact hy.eq_of_length (lez hy.length_le p.length_le)
theorem Book.inner_not (h:Book m B)(hx:Inner B x)(hy:y <+: x):y∉B:=λhyB=>h.free hx y hy (h.ne y hyB) hyB
theorem Book.mem_iff (h:Book m B):p∈B↔p≠[]/\LetOk m p/\Inner B p.dropLast/\¬Inner B p:=by
 constructor
 ·intro hp
  exact⟨h.ne p hp,h.let_ p hp,⟨p,hp,lbY p,zko (h.ne p hp)⟩,λhi=>h.inner_not hi (lcd p) hp⟩
 ·rintro ⟨hn,hl,hi,hni⟩
  obtain⟨q,hq,e|e⟩:=h.cv p hl
  ·by_cases eq:q=p
   ·exact eq▸hq
   ·exact absurd hq (h.inner_not hi (zbb e eq))
  ·by_cases eq:p=q
   ·exact eq▸hq
   ·exact absurd ⟨q,hq,e,eq⟩ hni
theorem Book.ext {C:qQ1}(h:Book m B)(k:Book m C)(e:∀x,Inner B x↔Inner C x):B=C:=by
 have p:B.Perm C:=(lbQ h.nd k.nd).mpr λp=>by rw[h.mem_iff,k.mem_iff,e,e]
 exact lcJ (λ_ _ _ _ h k=>ldp h k) h.srt k.srt p
structure Clo (m:Nat)(P:List Nat->Prop):Prop where
 nil:P []
 let_:∀x,P x->LetOk m x
 pre:∀x y,x <+: y->P y->P x
 bd:∃N,∀x,P x->x.length<N
theorem Book.clo (h:Book m B):Clo m (Inner B) where
 nil:=h.nilInner
 let_:=λx hx=>h.innerLet hx
 pre:=λx y p hy=>hy.pre p
 bd := by
  have:∃N,∀p∈B,p.length<=N:=by
   clear h
   induction B with
   | nil=>exact⟨0,by simp⟩
   | cons q B ih =>
    obtain⟨N,hN⟩:=ih
    refine⟨max N q.length,λp hp=>?_⟩
    rcases lz.mp hp with rfl|hp
    ·exact Nat.le_max_right _ _
    ·exact laC (hN p hp) (Nat.le_max_left _ _)
  obtain⟨N,hN⟩:=this
  refine⟨N+1,λx hq38=>?_⟩
  obtain⟨p,hp,hx,_⟩:=hq38
  have:=hN p hp
  have:=hx.length_le
  omega
theorem Book.of (m2:2<=m)(m4:m<=4){P:List Nat->Prop}(c:Clo m P){L:qQ1}(s:L.Pairwise (·<=·))(n:L.Nodup)(hm:∀p,p∈L↔p≠[]/\LetOk m p/\P p.dropLast/\¬P p):Book m L/\∀x,Inner L x↔P x:=by
 have h97:97∈abcd.take m:=u6 m4 (by omega)
 obtain⟨N,hN⟩:=c.bd
 have up:∀(k:Nat) (x:List Nat),P x->N<=x.length+k->∃q∈L,x <+: q/\x≠q:=by
  intro k
  induction k with
  | zero=>intro x hx hk;have:=hN x hx;omega
  | succ k ih =>
   intro x hx hk
   by_cases hy:P (x++[97])
   ·obtain⟨q,hq,h1,h2⟩:=ih (x++[97]) hy (by simp;omega)
    refine⟨q,hq,(lbd _ _).trans h1,λe=>?_⟩
    have:=h1.length_le
    rw[← e,lU,lcl] at this
    omega
   ·refine⟨x++[97],(hm _).mpr ⟨by simp,(c.let_ x hx).app (LetOk.one h97),?_,hy⟩,lbd _ _,λe=>zex x 97 e.symm⟩
    rw[lcx];exact hx
 have down:∀(k:Nat) (x:List Nat),x.length<=k->LetOk m x->¬P x->∃q∈L,q <+: x:=by
  intro k
  induction k with
  | zero =>
   intro x hk _ hx
   have:x=[]:=lbp.mp (by omega)
   subst this
   exact absurd c.nil hx
  | succ k ih =>
   intro x hk hl hx
   have hne:x≠[]:=λe=>hx (e▸c.nil)
   by_cases hd:P x.dropLast
   ·exact⟨x,(hm x).mpr ⟨hne,hl,hd,hx⟩,lcd x⟩
   ·obtain⟨q,hq,e⟩:=ih x.dropLast (by rw[List.length_dropLast];omega) (hl.pre (lbY x)) hd
    exact⟨q,hq,e.trans (lbY x)⟩
 have inn:∀x,Inner L x↔P x:=λx=>by
  constructor
  ·rintro⟨p,hp,h1,h2⟩
   exact c.pre _ _ (zbb h1 h2) ((hm p).mp hp).2.2.1
  ·intro hx
   obtain⟨q,hq,h1,h2⟩:=up N x hx (by omega)
   exact⟨q,hq,h1,h2⟩
 refine⟨⟨m2,m4,λp hp=>((hm p).mp hp).2.1,λp hp=>((hm p).mp hp).1,λp hp q hq h=>?_,λx hx=>?_,s,n⟩,inn⟩
 ·by_cases e:p=q
  ·exact e
  ·exact absurd (c.pre _ _ (zbb h e) ((hm q).mp hq).2.2.1) ((hm p).mp hp).2.2.2
 ·by_cases hP:P x
  ·obtain⟨q,hq,h1,_⟩:=up N x hP (by omega)
   exact⟨q,hq,.inr h1⟩
  ·obtain⟨q,hq,h1⟩:=down x.length x (lu _) hx hP
   exact⟨q,hq,.inl h1⟩
def Head (m:Nat)(B:qQ1)(x:List Nat):Prop:=x≠[]/\∀k∈kids m x,k∈B
def zes (B:qQ1)(x:List Nat):qQ1:=sortF (B.filter (λp=>!x.isPrefixOf p)++[x])
theorem Head.inner (h:Book m B)(hx:Head m B x):Inner B x:=by
 have h97:97∈abcd.take m:=u6 h.m4 (by have:=h.m2;omega)
 exact⟨x++[97],hx.2 _ (kids_mem.mpr ⟨97,h97,rfl⟩),lbd _ _,λe=>zex x 97 e.symm⟩
theorem Head.top (h:Book m B)(hx:Head m B x)(hy:Inner B y)(p:x <+: y):y=x:=by
 obtain⟨r,rfl⟩:=p
 cases r with
 | nil=>simp
 | cons c r =>
  have hc:=h.innerLet hy c (by simp)
  exact absurd (hx.2 _ (kids_mem.mpr ⟨c,u6 h.m4 hc,rfl⟩)) (h.inner_not hy ⟨r,by simp⟩)
theorem Book.join (h:Book m B)(hx:Head m B x):Book m (zes B x)/\∀y,Inner (zes B x) y↔Inner B y/\y≠x:=by
 have hi:=hx.inner h
 have hxB:x∉B:=h.inner_not hi (lcd x)
 refine Book.of h.m2 h.m4 (P:=λy=>Inner B y/\y≠x) ⟨⟨h.nilInner,λe=>hx.1 e.symm⟩,λy hy=>h.innerLet hy.1,λy z p hz=>⟨hz.1.pre p,λe=>hz.2 (hx.top h hz.1 (e▸p))⟩,?_⟩ (zdg _) ?_ λp=>?_
 ·obtain⟨N,hN⟩:=h.clo.bd
  exact⟨N,λy hy=>hN y hy.1⟩
 ·refine(vO _).nodup_iff.mpr (lbu.mpr ⟨h.nd.filter _,by simp,λa ha b hb e=>?_⟩)
  rw[lK.mp hb] at e
  subst e
  exact hxB (lbf.mp ha).1
 ·unfold zes
  rw[sortF_mem,lap,lbf,lK]
  have nb:(!x.isPrefixOf p)=true↔¬x <+: p:=by rw[lb5,← Bool.not_eq_true,laa]
  rw[nb]
  constructor
  ·rintro (⟨hp,hnp⟩|rfl)
   ·obtain⟨a,b,c,d⟩:=h.mem_iff.mp hp
    exact⟨a,b,⟨c,λe=>hnp (e▸lbY p)⟩,λe=>d e.1⟩
   ·exact⟨hx.1,h.innerLet hi,⟨hi.pre (lbY _),zko hx.1⟩,λe=>e.2 rfl⟩
  ·rintro ⟨a,b,⟨c,c'⟩,d⟩
   by_cases e:p=x
   ·exact .inr e
   ·have hp:p∈B:=h.mem_iff.mpr ⟨a,b,c,λz=>d ⟨z,e⟩⟩
    exact .inl ⟨hp,λz=>c' (hx.top h c (zbb z λz'=>e z'.symm))⟩
theorem Book.partAt (h:Book m B)(hp:p∈B):Book m (My.part m B (B.idxOf p))/\∀x,Inner (My.part m B (B.idxOf p)) x↔Inner B x∨x=p:=by
 have hj:B.idxOf p<B.length:=lan.mpr hp
 refine⟨h.part hj,λx=>?_⟩
 rw[zaI h.m2 h.m4 h hj]
 have:B.getD (B.idxOf p) []=p:=by rw[lh,lb hj];exact lbU hj
 rw[this]
theorem Book.head_mem (h:Book m B)(hx:Head m B x):x∈zes B x:=by
 unfold zes;rw[sortF_mem];simp
theorem Book.join_part (h:Book m B)(hx:Head m B x):My.part m (zes B x) ((zes B x).idxOf x)=B:=by
 obtain⟨hb,hi⟩:=h.join hx
 obtain⟨kb,ki⟩:=hb.partAt (h.head_mem hx)
 refine kb.ext h λy=>?_
 rw[ki,hi]
 constructor
 ·rintro(⟨a,_⟩|rfl)
  ·exact a
  ·exact hx.inner h
 ·intro a
  by_cases e:y=x
  ·exact .inr e
  ·exact .inl ⟨a,e⟩
theorem zbu (m2:2<=m)(m4:m<=4)(x:List Nat):Inner (kids m []) x↔x=[]:=by
 constructor
 ·rintro⟨p,hp,hx,hn⟩
  obtain⟨c,_,rfl⟩:=kids_mem.mp hp
  rcases lbe.mp hx with e|e
  ·exact absurd e hn
  ·exact ldL.mp e
 ·rintro rfl
  exact(Book.letters m2 m4).nilInner
theorem longest (L:qQ1)(P:List Nat->Prop) [DecidablePred P](h:∃x∈L,P x):∃x∈L,P x/\∀y∈L,P y->y.length<=x.length:=by
 induction L with
 | nil=>obtain⟨x,hx,_⟩:=h;cases hx
 | cons a L ih =>
  by_cases hL:∃x∈L,P x
  ·obtain ⟨x,hx,px,mx⟩:=ih hL
   by_cases ha:P a/\x.length<=a.length
   ·refine⟨a,.head _,ha.1,λy hy py=>?_⟩
    rcases lz.mp hy with rfl|hy
    ·exact lu _
    ·exact laC (mx y hy py) ha.2
   ·refine ⟨x,.tail _ hx,px,λy hy py=>?_⟩
    rcases lz.mp hy with rfl|hy
    ·have:¬x.length<=y.length:=λz=>ha ⟨py,z⟩
     omega
    ·exact mx y hy py
  ·obtain ⟨x,hx,px⟩:=h
   rcases lz.mp hx with rfl|hx
   ·refine⟨x,.head _,px,λy hy py=>?_⟩
    rcases lz.mp hy with rfl|hy
    ·exact lu _
    ·exact absurd ⟨y,hy,py⟩ hL
   ·exact absurd ⟨x,hx,px⟩ hL
theorem Book.hasHead (h:Book m B)(hx:∃x,Inner B x/\x≠[]):∃x,Head m B x:=by
 obtain⟨x0,h0,h1⟩:=hx
 obtain⟨x,hxk,hxn,hmax⟩:=longest (zE B) (λx=>x≠[]) ⟨x0,innerKeys_mem.mpr h0,h1⟩
 refine⟨x,hxn,λk hk=>?_⟩
 obtain⟨c,hc,rfl⟩:=kids_mem.mp hk
 rcases h.step (innerKeys_mem.mp hxk) hc with⟨a,_⟩|⟨_,a⟩
 ·have:=hmax _ (innerKeys_mem.mpr a) (by simp)
  rw[lU,lcl] at this
  omega
 ·exact a
theorem zjS (h:Book m B)(hx:Head m B x):(zE (zes B x)).length+1<=(zE B).length:=by
 obtain⟨hb,hi⟩:=h.join hx
 have:(x::zE (zes B x)).length<=(zE B).length:=by
  refine List.Nodup.length_le_of_subset (lbx.mpr ⟨λz=>((hi x).mp (innerKeys_mem.mp z)).2 rfl,yp _⟩) λy hy=>?_
  rcases lz.mp hy with rfl|hy
  ·exact innerKeys_mem.mpr (hx.inner h)
  ·exact innerKeys_mem.mpr ((hi y).mp (innerKeys_mem.mp hy)).1
 simpa using this
theorem Book.gr :∀(n:Nat) {B:qQ1},Book m B->(zE B).length<=n->∃t,Gr m t B:=by
 intro n
 induction n with
 | zero =>
  intro B h hn
  have:[]∈zE B:=innerKeys_mem.mpr h.nilInner
  rw[lbp.mp (Nat.le_zero.mp hn)] at this
  cases this
 | succ n ih =>
  intro B h hn
  by_cases hx:∃x,Inner B x/\x≠[]
  ·obtain⟨x,hx⟩:=h.hasHead hx
   obtain⟨t,g⟩:=ih (h.join hx).1 (by have:=zjS h hx;omega)
   refine⟨t+1,?_⟩
   have:=Gr.s g (lan.mpr (h.head_mem hx))
   rwa [h.join_part hx] at this
  ·refine ⟨0,?_⟩
   have e:B=kids m []:=h.ext (Book.letters h.m2 h.m4) λx=>by
    rw[zbu h.m2 h.m4]
    constructor
    ·intro hi
     by_cases e:x=[]
     ·exact e
     ·exact absurd ⟨x,hi,e⟩ hx
    ·rintro rfl;exact h.nilInner
   rw[e];exact Gr.z
theorem Book.grAt (h:Book m B):∃t,Gr m t B/\(zE B).length=t+1/\B.length=m+t*(m - 1):=by
 obtain⟨t,g⟩:=Book.gr _ h (lu _)
 exact⟨t,g,g.keysEq h.m2 h.m4,g.len h.m2 h.m4⟩
theorem zbM {α:Type}(p:α->Bool):∀l:List α,(l.filter λx=>!p x).length+(l.filter p).length=l.length
 | []=>rfl
 | x::l=>by
  have:=zbM p l
  cases h:p x <;>simp[h] <;>omega
theorem zfB:∀{ps:qQ1},rising ps=true->ps.Pairwise (· < ·)
 | [],_=>.nil
 | [a],_=>lcW _ _
 | a::b::l,h=>by
  have h':decide (a<b)=true/\rising (b::l)=true:=by
   unfold rising at h ⊢
   simpa using h
  have ih:=zfB h'.2
  refine laF.mpr ⟨λx hx=>?_,ih⟩
  rcases lz.mp hx with rfl|hx
  ·exact laZ h'.1
  ·exact lea (laZ h'.1) ((laF.mp ih).1 x hx)
theorem zjX:∀(p:List Nat) (c:Nat) (r:List Nat),p<p++c::r
 | [],c,r=>lej c r
 | a::p,c,r=>lav.mpr (.inr ⟨rfl,zjX p c r⟩)
theorem zrL (s:ps.Pairwise (· < ·))(h:wR ps=none):∀p∈ps,∀q∈ps,p <+: q->p=q:=by
 intro p hp q hq e
 obtain⟨r,rfl⟩:=e
 cases r with
 | nil=>simp
 | cons c r =>
  exfalso
  obtain⟨z,hz,h1,h2⟩:=zjy s hp hq (zjX p c r)
  have e:=zdc p z (c::r) (ldz h1) h2
  have:=lcT.mp h _ hz
  exact this (laa.mpr e)
theorem zpN (m4:m<=4):∀(n:Nat) (xs:qQ1),fta m ps n xs=none->∀x∈xs,∀r:List Nat,LetOk m r->r≠[]->(∀s,s <+: r->s≠r->s≠[]->isInner ps (x++s)=true)->r.length<=n->xP ps (x++r)=false:=by
 intro n
 induction n with
 | zero=>intro xs _ x _ r _ hr _ hl;exact absurd (lbp.mp (Nat.le_zero.mp hl)) hr
 | succ n ih =>
  intro xs h x hx r hl hr hs hlen
  unfold fta at h
  rw[lY (λe=>by rw[e] at hx;cases hx)] at h
  cases r with
  | nil=>exact absurd rfl hr
  | cons c r =>
   have hy:x++[c]∈zV m xs:=zjU hx (u6 m4 (hl c (.head _)))
   split at h
   ·cases h
   ·rename_i hf
    have ha:xP ps (x++[c])=false:=by
     have:=lcT.mp hf _ hy
     simpa using this
    cases r with
    | nil=>exact ha
    | cons d r =>
     have hi:isInner ps (x++[c])=true:=hs [c] ⟨d::r,rfl⟩ (by simp) (by simp)
     have:=ih _ h (x++[c]) (lbf.mpr ⟨hy,hi⟩) (d::r) (λz hz=>hl z (.tail _ hz)) (by simp) (λs hs1 hs2 hs3=>by
      have:=hs (c::s) (ldg.mpr ⟨rfl,hs1⟩) (λe=>hs2 (List.cons.inj e).2) (by simp)
      rw[lba];exact this) (by simp only[lM] at hlen ⊢;omega)
     rw[lba] at this
     exact this
theorem zih (m4:m<=4)(h8:∀p∈ps,p.length<=31)(hne:ps≠[])(hn:∀p∈ps,p≠[])(h:v5 m ps=none):∀x,LetOk m x->∃p∈ps,p <+: x∨x <+: p:=by
 intro x hx
 have key:∀k,k<=x.length->Inner ps (x.take k)∨∃p∈ps,p <+: x:=by
  intro k
  induction k with
  | zero =>
   intro _
   obtain⟨p,hp⟩:=List.exists_mem_of_ne_nil ps hne
   exact .inl ⟨p,hp,by rw[lcf];exact lcr,λe=>hn p hp (by rw[← e,lcf])⟩
  | succ k ih =>
   intro hk
   rcases ih (by omega) with hi|hr
   ·by_cases hy:Inner ps (x.take (k+1))
    ·exact .inl hy
    ·refine .inr ?_
     have l8:=zcM (inner_iff.mpr hi) h8
     rw[lW,lb6 (by omega)] at l8
     have ha:xP ps ([]++x.take (k+1))=false:=by
      refine zpN m4 32 [[]] h [] (by simp) _ (hx.pre (lcA _ _)) (λe=>?_) (λs s1 s2 s3=>?_) (by rw[lW];omega)
      ·have:=lbG List.length e
       rw[lW,lb6 hk] at this
       simp at this
      ·rw [laH]
       have p1:=zbb s1 s2
       have e1:(x.take (k+1)).dropLast=x.take k:=by
        rw[List.dropLast_eq_take,lW,lb6 hk,List.take_take]
        congr 1
        omega
       rw[e1] at p1
       exact inner_iff.mpr (hi.pre p1)
     rw[laH] at ha
     have hx2:∃p∈ps,x.take (k+1) <+: p∨p <+: x.take (k+1):=by
      by_cases hc:∃p∈ps,x.take (k+1) <+: p∨p <+: x.take (k+1)
      ·exact hc
      ·have:=apart_iff.mpr (λp hp=>⟨λz=>hc ⟨p,hp,.inl z⟩,λz=>hc ⟨p,hp,.inr z⟩⟩)
       rw[ha] at this
       cases this
     obtain⟨p,hp,e|e⟩:=hx2
     ·by_cases e2:x.take (k+1)=p
      ·exact⟨p,hp,e2▸lcA _ _⟩
      ·exact absurd ⟨p,hp,e,e2⟩ hy
     ·exact⟨p,hp,e.trans (lcA _ _)⟩
   ·exact .inr hr
 rcases key x.length (lu _) with hi|⟨p,hp,e⟩
 ·obtain⟨p,hp,e,_⟩:=hi
  rw[lar (lu _)] at e
  exact⟨p,hp,.inr e⟩
 ·exact⟨p,hp,.inl e⟩
theorem zgT (hp:Pg.Pcs m ps)(h:isBook m ps=true):Book m ps:=by
 obtain⟨m2,m4,hne,hl,hq⟩:=hp
 unfold isBook at h
 rw[lG,lG,Option.isNone_iff_eq_none,Option.isNone_iff_eq_none] at h
 have s:=zfB h.1.1
 exact⟨m2,m4,λp hp=>(hq p hp).1,λp hp=>(hq p hp).2.1,zrL s h.1.2,zih m4 (λp hp=>(hq p hp).2.2) hne (λp hp=>(hq p hp).2.1) h.2,s.imp ldz,s.imp λh e=>by rw[e] at h;exact lcg _ h⟩
end My
namespace Pg
open PySem L2 My
variable {fn:List D->Rs D}{f g:qQ5}{ρ:Rho}{a:D}{r:Rs D}{B:qQ1}{n:Nat}
theorem cA1 (e1:f ρ=.ok a)(e:fn [a]=r):fA (ari 1 fn) (zj f zF) ρ=r:=(fA1 e1).trans e
theorem cA2 {b:D}(e1:f ρ=.ok a)(e2:g ρ=.ok b)(e:fn [a,b]=r):fA (ari 2 fn) (zj f (zj g zF)) ρ=r:=(fA2 e1 e2).trans e
theorem cA3 {h:qQ5}{b c:D}(e1:f ρ=.ok a)(e2:g ρ=.ok b)(e3:h ρ=.ok c)(e:fn [a,b,c]=r):fA (ari 3 fn) (zj f (zj g (zj h zF))) ρ=r:=(fA3 e1 e2 e3).trans e
theorem zmI {g:D->D->Option (List D)}{fa fb:qQ5}{b:D}{d:List D}(e1:fa ρ=.ok a)(e2:fb ρ=.ok b)(e3:g a b=some d):fL2 g fa fb ρ=.ok d:=by unfold fL2;rw[e1];show(fb ρ).bind _=_;rw[e2];show lf' (g a b)=_;rw[e3];rfl
structure Bb (m:Nat)(B:qQ1):Prop where
 pcs:Pcs m B
 bk:Book m B
theorem zrS {m:Nat}(h:Book m B)(hn:(zE B).length<=n)(h10:n<=10)(h8:∀p∈B,p.length<=31):Bb m B/\B.length<=1+n*3:=by
 obtain⟨t,g,e1,e2⟩:=h.grAt
 have m2:=h.m2
 have m4:=h.m4
 have:t*(m - 1)<=t*3:=Nat.mul_le_mul_left t (by omega)
 have hl:B.length<=1+n*3:=by omega
 refine⟨⟨⟨m2,m4,λz=>?_,by omega,λp hp=>⟨h.let_ p hp,h.ne p hp,h8 p hp⟩⟩,h⟩,hl⟩
 rw[z] at e2
 simp at e2
 omega
theorem zcj {ws:List Int}(h:yq ws){t:Nat}(g:My.Gr ws.length t B):t<=30->((zE B).map (wU ws)).sum=SG ws uV B:=by
 have m2:=h.1
 have m4:=h.2.1
 induction g with
 | z =>
  intro _
  have p:(zE (kids ws.length [])).Perm [[]]:=by
   refine(lbQ (yp _) (by simp)).mpr λx=>?_
   rw[innerKeys_mem,lK]
   exact zbu m2 m4 x
  rw[za2 (p.map (wU ws))]
  show wU ws []+0=_
  unfold SG
  rw[zpG h (p:=[]) (by decide) uV]
  show wU ws []+0=((0+1:Nat):Int)*wU ws []
  omega
 | s g hj ih =>
  rename_i t' B' j
  intro ht
  have hb:=g.book m2 m4
  have hm:=getD_mem hj
  have p:(zE (part ws.length B' j)).Perm (zE B'++[B'.getD j []]):=by
   refine(lbQ (yp _) ?_).mpr λx=>?_
   ·refine lbu.mpr ⟨yp _,by simp,λa ha b hb' e=>?_⟩
    rw[lK.mp hb'] at e
    subst e
    obtain⟨q,hq,hx,hn⟩:=innerKeys_mem.mp ha
    exact hn (hb.pf _ hm q hq hx)
   ·rw[innerKeys_mem,lap,lK,innerKeys_mem]
    exact zaI m2 m4 hb hj
  rw[za2 (p.map (wU ws)),lau,zhj,ih (by omega),zng h uV hj (by have:=g.short m2 m4 _ hm;omega)]
  show _+(wU ws (B'.getD j [])+0)=_
  have:(uV ((B'.getD j []).length+1) - uV (B'.getD j []).length)=1:=by unfold uV;omega
  rw[this,leR,Int.add_zero]
theorem zdW (m:Nat)(x:List Nat):zV m [x]=kids m x:=by
 unfold zV kids;simp
theorem zrg {g:D->Option (List D)}{ds:List D}(e1:f ρ=.ok a)(e2:g a=some ds):fI g f ρ=.ok ds:=by
 unfold fI;rw[e1];show(match g a with|some ds=>Rs.ok ds|none=>.no)=_;rw[e2]
def lessF (B C:qQ1):qQ1:=sortF (zs0 (sortF (zE B)) (sortF (zE C)))
theorem zsW {x y:qQ1}(h:x=y):eqD true (.tup (sT x)) (.tup (sT y))=some (.bl false):=by rw[znW,lP h];rfl
theorem zsI {x y:Int}(h:x=y):eqD true (.int x) (.int y)=some (.bl false):=by rw[zbw,lP h];rfl
structure Kc (m n:Nat)(B:qQ1):Prop where
 bk:Book m B
 ks:(zE B).length<=n
 l7:∀p∈B,p.length<=n
section
variable {m n:Nat}{B C S:qQ1}
theorem Kc.len (h:Kc m n B)(h8:n<=7):B.length<=1+n*3:=(zrS h.bk h.ks (by omega) λp hp=>by have:=h.l7 p hp;omega).2
theorem Kc.part (h:Kc m n B){p:List Nat}(hp:p∈B):Kc m (n+1) (My.part m B (B.idxOf p)):=by
 obtain⟨b1,b2⟩:=h.bk.partAt hp
 refine⟨b1,?_,λq hq=>?_⟩
 ·have:(zE (My.part m B (B.idxOf p))).length<=(p::zE B).length:=(yp _).length_le_of_subset λx hx=>by
   rcases(b2 x).mp (innerKeys_mem.mp hx) with z|z
   ·exact .tail _ (innerKeys_mem.mpr z)
   ·exact z▸.head _
  have:=h.ks
  simp only[lM] at *
  omega
 ·rcases (part_mem h.bk.nd (lan.mpr hp)).mp hq with z|z
  ·have:=h.l7 q z.1
   omega
  ·obtain ⟨c,_,rfl⟩:=kids_mem.mp z
   have e:B.getD (B.idxOf p) []=p:=by
    rw[lh,lb (lan.mpr hp)]
    exact lbU (lan.mpr hp)
   rw[e]
   have:=h.l7 p hp
   simp
   omega
end
theorem zgX {L:qQ1}(e:f ρ=.ok (.tup (sT L))):fO qN (zj f zF) ρ=.ok (.int (L.length:Int)):=jB (zT e rfl) (by show some (D.int ((sT L).length:Int))=_;rw[wI])
theorem zpJ {b:Bool}(e1:f ρ=.ok (.bl true))(e2:g ρ=.ok (.bl b)):zck f g ρ=.ok (.bl b):=by unfold zck;rw[e1];exact e2
theorem zcw {ft:qQ6}{fe:qQ5}{ρ0:Rho}{d e:D}{ds es:List D}(h1:ft (ρ0.set 0 (.fz d))=.ok true)(h2:fe (ρ0.set 0 (.fz d))=.ok e)(h3:wX ft fe ρ0 ds=.ok es):wX ft fe ρ0 (d::ds)=.ok (e::es):=by
 rw[wX,h1];simp only;rw[h2];simp only;rw[h3];rfl
theorem zfe {xs:List D}{j:Nat}(h:j<xs.length):atI xs (j:Int)=some xs[j]:=by
 refine zgF (lb h)
theorem zmM {l m:List D}(h:l.length+m.length<=1000000):zk3 (.lst l) (.lst m)=some (l++m):=lO h
theorem zgm {th:D}(h:vJ [a,th]=.ok (.bl false)):wQ [a,th]=.ex 1 :=
 wO ((zdH (jy (b:=false) (vy (cA2 (a:=a) (b:=th) rfl rfl h)))).trans rfl)
theorem zaA {g h:Rho->Out}(e:g ρ=.ex n):zO g h ρ=.ex n:=by unfold zO;rw[e]
theorem jf (e:f ρ=.ex n):wY f ρ=.ex n:=by unfold wY;rw[e]
end Pg
namespace L2
open PySem PySem.Spec PyProof.Rows
variable {X:Cx}{F:Hp}{e:Expr}{i:Nat}{pos:Pos}{fd:FuncData}{ps:List Str}
def znB:V->List V->Hp->VK->Prop:=λx vs H Q=>∃a b kvs more,x=.ref a/\vs=[.ref b]/\H a=some (.dK kvs)/\H b=some (.dK more)/\a≠b/\kvs.length+more.length<=sizeLine/\Q .non (upd H a (.dK (zf3 kvs more)))
theorem zku :MtR X "dict.update" znB:=by
 intro pins s σ H x xs v us Q I rx rv h
 obtain⟨a,b,kvs,more,rfl,rfl,e,e2,ne,hz,q⟩:=h
 cases rx
 obtain⟨u,rfl,ru⟩:=rv.one
 cases ru
 obtain⟨z,hd,vs,rel,dd⟩:=zob I.hok e
 obtain⟨z2,hd2,vs2,rel2,dd2⟩:=zob I.hok e2
 refine call_meetsIn PySem.F.slot_dict_update dd.typeIs PySem.F.entry_dict_update (PySem.F.args_dict_update_2 _ _) (meets_dict_update (xr X.prog X.w) a b ne hd2) ⟨vs,vs2,dd,dd2,by rw[← rel.length,← rel2.length];exact hz,λh' dd' _ hs=>?_⟩
 have he:∃q,h'.get? a=some q:=let ⟨q,_,_,hq,_⟩:=dd';⟨q,hq⟩
 exact⟨.non,_,zep (t':=s.toks) I (by rw[e];exact True.intro) hs he (zm9 (laC (zaY more kvs) hz) hd (KV.merge rel2 rel) dd'),rfl,q⟩
def zpT (ds es:List (List Nat×D)):List (List Nat×D):=es.foldl (λacc kv=>putD acc kv.1 kv.2) ds
section
variable {cl:Nat->Addr}
theorem Dks.merge {K:qQ0}:∀(ms:List (Key×V)) {es:List (List Nat×D)},Dks K cl F ms es->∀{vs:List (Key×V)}{ds:List (List Nat×D)},Dks K cl F vs ds->Dks K cl F (zf3 vs ms) (zpT ds es)
 | [],_,.nil=>λr=>r
 | _::ms,_,.cons ok q t=>λr=>Dks.merge ms t (r.put ok q)
theorem Dks.len {K:qQ0}:∀{vs:List (Key×V)}{ds:List (List Nat×D)},Dks K cl F vs ds->vs.length=ds.length
 | _,_,.nil=>rfl
 | _,_,.cons _ _ t=>by rw[lM,lM,t.len]
def zpa (i:Nat)(f:qQ5):Rho->Out:=λρ=>match odL ρ i with
 | some ds=>(match f ρ with
  | .ok (.dct es)=>if ds.length+es.length<=1000000 then .nx (ρ.set i (.od (zpT ds es))) else .no
  | .ex n=>.ex n
  | _=>.no)
 | none=>.no
theorem ziX {E:XK}{o:Expr}{f:qQ5}{apos cpos:Pos}(ho:PE X o (zj5 i))(ha:XE X cl E e f)(m:Mth X o e "update" apos cpos)(hs:swapsWith (.Call (.Attribute o "update" apos) [e] [] cpos) none pos.line X.env=pure false:=by rfl):XS X cl E (.Expr (.Call (.Attribute o "update" apos) [e] [] cpos) pos) (zpa i f):=by
 obtain⟨t,pt,rt⟩:=ha.ex
 refine XS'.out ⟨_,zeL (zgE PySem.F.plainAttrs_dict PySem.F.slot_dict_update PySem.F.type_dict_update zku ho (yQ pt uc m.hs) m.base m.few m.line m.hs m.plain) hs,λH0 F0 ρ σ H F Dn R oo=>?_⟩
 unfold zpa at oo
 cases hw:odL ρ i with
 | none=>rw[hw] at oo;exact oo.elim
 | some ds =>
  rw[hw] at oo
  have hd:=zbi hw
  obtain⟨a,vs,h1,h2,h3,h4,h5⟩:=R.od i ds hd
  refine⟨.ref a,h1,.inr (.inr (.inl ⟨rfl,.inl ⟨vs,h2⟩⟩)),rt H0 F0 ρ σ H F _ R ?_⟩
  cases e:f ρ with
  | no=>rw[e] at oo;exact oo.elim
  | ex n=>rw[e] at oo;exact oo
  | ok d =>
   rw[e] at oo
   intro v H' F' g q
   cases q with
   | dct hb hk =>
    rename_i b ms es
    dsimp only at oo
    split at oo
    ·rename_i hl
     have R1:=R.grow g
     have hab:a≠b:=λz=>by
      obtain⟨a',vs',k1,k2,k3,_⟩:=R1.od i ds hd
      rw[h1] at k1
      injection k1 with k1;injection k1 with k1;injection k1 with k1
      rw[← k1,z] at k3
      rw[k3] at hb;cases hb
     refine⟨a,b,vs,ms,rfl,rfl,g.hh _ _ h2,R1.fh _ _ hb,hab,by rw[h5.len,hk.len,laQ];omega,?_⟩
     exact oo _ _ F' (R1.putDk hd h1 (Dks.merge _ hk (h5.mono g.ff))) g.ff
    ·exact oo.elim
   | _=>exact oo.elim
def zo8 (i:Nat)(f:qQ5):qQ5:=λρ=>match odL ρ i with
 | some ds=>(match f (ρ.set i (.fz (.dct ds))) with | .ok d=>if d.fl=true then .ok d else .no | .ex n=>.ex n | .no=>.no)
 | none=>.no
theorem zqK {E:XK}{fa:qQ5}(h:XE X cl E e fa):XE X cl E e (zo8 i fa):=by
 obtain⟨t,pt,rt⟩:=h.ex
 refine XE'.out ⟨_,pt,λH0 F0 ρ σ H F Q R o=>?_⟩
 unfold zo8 at o
 cases hw:odL ρ i with
 | none=>rw[hw] at o;exact o.elim
 | some ds =>
  rw[hw] at o
  obtain⟨F1,s1,R1⟩:=R.iceD (zbi hw)
  refine rt H0 F0 _ σ H F1 _ R1 ?_
  cases e:fa (ρ.set i (.fz (.dct ds))) with
  | ok d =>
   simp only[e] at o
   split at o
   ·rename_i hf
    exact λv H' F' g q=>o v H' F ⟨Same.refl _,g.hh,R.fh.trans g.hh,λ_ _ _ _ z=>z⟩ (q.flatAny hf)
   ·exact o.elim
  | ex n=>simp only[e] at o;exact o
  | no=>simp only[e] at o;exact o.elim
def zs4 (K:qQ0)(cl:Nat->Addr)(E:XK)(H0 F H:Hp)(r:Rs (List (List Nat×D)))(Q:VK):Prop :=
 match r with
 | .ok ds=>∀c us H' F',Gr F H F' H'->H c=none->H' c=some (.dK us)->F' c=none->Dks K cl F' us ds->Q (.ref c) H'
 | .ex n=>∀H',Same H0 H'->E (.ref (cl n)) none H'
 | .no=>False
def spK (K:qQ0)(cl:Nat->Addr)(fn:List D->Rs (List (List Nat×D)))(n:Nat):Sp:=λvs H Q E=>∃F ds,Same F H/\Dts K cl F vs ds/\vs.length=n/\zs4 K cl E H F H (fn ds) Q
def runK (m i:Nat)(g1 g2:Rho->Out)(ds:List D):Rs (List (List Nat×D)):=match zO g1 g2 (ds.map .fz++List.replicate (m - ds.length) .no) with
 | .nx ρ=>(match odL ρ i with|some es=>.ok es|none=>.no)
 | .ex n=>.ex n
 | _=>.no
theorem fnK {P:Program}{w:World}{K:qQ0}{mg:qQ3}{base:Heap}{x qual:Str}{st s1 s2:Stmt}{f:Addr}{N:List Str}{k m n:Nat}{g1 g2:Rho->Out}{o:Expr}(Fu:Fun K x qual st f fd)(S:FnScope N ps (zu st))(hm:N.length=m)(hn:ps.length=n)(hbd:wV st=[s1,s2,.Return (some o) pos])
  (hb:∀(cdv:Value) (A:Around) (outer:List Env) (s:Shared) (H:Hp) (E:XK),Room k (A.deeper (envOfC qual (zu st) s.heap.objs.size f cdv))->XS (zaW (CX1 P w) P w K mg base N qual (zu st) f cdv A outer s H E) cl E s1 g1/\XS (zaW (CX1 P w) P w K mg base N qual (zu st) f cdv A outer s H E) cl E s2 g2/\PE (zaW (CX1 P w) P w K mg base N qual (zu st) f cdv A outer s H E) o (zj5 i)):FnOk P w K mg base (CX1 P w) (k+1) f fd ps (spK K cl (runK m i g1 g2) n):=by
 subst hm hn
 refine Fu.okX S (λvs H Q E h=>?_) λcdv A outer s H vs Q E hr h=>?_
 ·obtain⟨F,ds,_,_,h1,_⟩:=h;exact h1
 obtain⟨F,ds,sm,q,h1,oo⟩:=h
 have R0:Rl K cl H F (ds.map .fz++List.replicate (N.length - ds.length) .no) (L2.start N vs) H F:=Rl.start (N:=N) sm q
 obtain⟨b1,b2,b3⟩:=hb cdv A outer s H E hr
 rw[hbd]
 refine⟨_,zey b1 (zey b2 (zgz (zi6 b3))),H,F,_,F,R0,?_⟩
 unfold runK zO at oo
 cases e1:g1 (ds.map .fz++List.replicate (N.length - ds.length) .no) with
 | nx ρ1 =>
  rw[e1] at oo
  dsimp only at oo
  intro σ1 H1 F1 R1 s1
  refine⟨H,F,ρ1,F1,R1,?_⟩
  cases e2:g2 ρ1 with
  | nx ρ2 =>
   rw[e2] at oo
   dsimp only at oo
   intro σ2 H2 F2 R2 s2
   cases e3:odL ρ2 i with
   | none=>rw[e3] at oo;exact oo.elim
   | some es =>
    rw[e3] at oo
    obtain⟨a,us,k1,k2,k3,k4,k5⟩:=R2.od i es (zbi e3)
    exact⟨.ref a,k1,oo a us H2 F2 R2.gr k4 k2 k3 k5⟩
  | ex n=>rw[e2] at oo;exact oo
  | rt d=>rw[e2] at oo;exact oo.elim
  | bk ρ=>rw[e2] at oo;exact oo.elim
  | ct ρ=>rw[e2] at oo;exact oo.elim
  | no=>rw[e2] at oo;exact oo.elim
 | ex n=>rw[e1] at oo;exact oo
 | rt d=>rw[e1] at oo;exact oo.elim
 | bk ρ=>rw[e1] at oo;exact oo.elim
 | ct ρ=>rw[e1] at oo;exact oo.elim
 | no=>rw[e1] at oo;exact oo.elim
theorem Rl.ownD {K:qQ0}{H0 F0 H H' F':Hp}{ρ:Rho}{σ:St}{c:Addr}{us:List (Key×V)}{ds:List (List Nat×D)}(R:Rl K cl H0 F0 ρ σ H F)(g:Gr F H F' H')(hp:H c=none)(h2:H' c=some (.dK us))(h3:F' c=none)(h:Dks K cl F' us ds):Rl K cl H0 F0 (ρ.set i (.od ds)) (σ.set i (some (.ref c))) H' F':=R.ownN g hp h2 h3 (.od h)
def zkx (i n:Nat)(fn:List D->Rs (List (List Nat×D)))(fs:qQ4):Rho->Out:=λρ=>match fs ρ with
 | .ok ds=>if ds.length=n then(match fn ds with | .ok es=>.nx (ρ.set i (.od es)) | .ex k=>.ex k | .no=>.no) else .no
 | .ex k=>.ex k
 | .no=>.no
theorem zoq {E:XK}{k n:Nat}{f:Addr}{fn:List D->Rs (List (List Nat×D))}{fs:qQ4}{x y:Str}{p pos' cpos:Pos}{es:List Expr}(hN:X.N.Nodup)(hi:X.N[i]? = some y)(hy:Loc X.env.scope y)(G:FnOk X.prog X.w X.K X.mg X.base (CX1 X.prog X.w) k f fd ps (spK X.K cl fn n))(hr:Room k X.A)(hg:Gl X x)(hm:X.mg x=some (.ref f))(hk:PySem.W.keepIn X.K (.ref f)=true)(hb:Binds X.K fd ps [])(hx:zcL (CX1 X.prog X.w) X E)
  (ha:XA X cl E (e::es) fs) (he:starEach (e::es) X.env=(false,eval e X.env)::starEach es X.env) (hs:swapsWith (.Call (.Name x p) (e::es) [] cpos) (some (.Name y pos')) pos.line X.env=pure false:=by rfl) (hf:X.fn y=true∨X.env.scope.names.lookup y=some .local:=by first|exact .inl rfl|exact .inr rfl|assumption) (hdb:(x == ("__debug__" : Str))=false:=by decide) (hpl:(backTo cpos (starEach es X.env)).any (·.1)=false:=by rfl) :
  XS X cl E (.Assign [.Name y pos'] (.Call (.Name x p) (e::es) [] cpos) pos) (zkx i n fn fs):=by
 obtain⟨t,pt,rt⟩:=ha.ex
 refine XS'.out ⟨_,zgh hN hi hy (zjg G hr hg hm hk hb .nil hx pt hdb he hpl) hs hf,λH0 F0 ρ σ H F Dn R o=>rt H0 F0 ρ σ H F _ R ?_⟩
 unfold zkx at o
 cases e:fs ρ with
 | ok ds =>
  rw[e] at o
  dsimp only at o
  intro vs H1 F1 g q
  split at o
  ·rename_i hl
   have R1:=R.grow g
   rw[lX]
   refine⟨F1,ds,R1.fh,q,by rw[q.length,hl],?_⟩
   cases e2:fn ds with
   | ok es=>rw[e2] at o;exact λc us H' F' g' h1 h2 h3 h4=>o _ _ F' (R1.ownD g' h1 h2 h3 h4) (g.ff.trans g'.ff)
   | ex k=>rw[e2] at o;exact λH' s=>o H' (R1.gr.hh.trans s)
   | no=>rw[e2] at o;exact o.elim
  ·exact o.elim
 | ex n=>rw[e] at o;exact o
 | no=>rw[e] at o;exact o.elim
end
section
variable {cl:Nat->Addr}
theorem Dts.put {K:qQ0}{v:V}{d:D}(q:Dt K cl F v d):∀{vs:List V}{ds:List D} (k:Nat),Dts K cl F vs ds->Dts K cl F (vs.set k v) (ds.set k d)
 | _,_,_,.nil=>.nil
 | _,_,0,.cons _ r=>.cons q r
 | _,_,k+1,.cons p r=>.cons p (Dts.put q k r)
end
end L2
set_option maxHeartbeats 2000000
namespace Zp
open PySem
end Zp
namespace L2
open PySem PySem.Spec PyProof.Rows
end L2
set_option maxHeartbeats 1000000
namespace L2
open PySem PySem.Spec PyProof.Rows
open PySem.Builtin.Str (occurrences)
end L2
namespace L2
open PySem PySem.W PyProof.Rows
variable {Q:Option Value->Shared->Prop}
def trR (q:List Key×Addr):List Key×Addr×Value:=(q.1,q.2,Value.bool true)
def zmz (kvs:List (List Key×Addr))(k:List Key)(b:Addr):List (List Key×Addr):=if (kvs.any λq=>decide (q.1=k))=true then kvs else kvs++[(k,b)]
theorem anyR {kvs:List (List Key×Addr)}{k:List Key}:(kvs.any λq=>decide (q.1=k))=true↔k∈kvs.map (·.1):=by
 rw[lbS,laI]
 simp only[lae]
theorem zeS (kvs:List (List Key×Addr)):(kvs.map trR).map (·.1)=kvs.map (·.1):=by rw[laN];rfl
theorem znq (kvs:List (List Key×Addr))(k:List Key)(b:Addr):storedH (kvs.map trR) k b (.bool true)=(zmz kvs k b).map trR:=by
 have hs:(atKey (kvs.map trR) k).isSome=true↔k∈kvs.map (·.1):=by
  rw[← zeS]
  unfold atKey
  rw[Option.isSome_map,List.find?_isSome]
  simp only[laI,lae]
 have same:(kvs.map trR).map (putAt k (.bool true))=kvs.map trR:=by
  rw[laN]
  refine lbh λq _=>?_
  show putAt k (.bool true) (trR q)=trR q
  unfold putAt trR
  split <;>rfl
 unfold storedH zmz
 by_cases h:k∈kvs.map (·.1)
 ·rw[lO (anyR.mpr h),lO (hs.mpr h),same]
 ·rw[lY (λz=>h (anyR.mp z)),lY (λz=>h (hs.mp z)),lau];rfl
theorem zlR (kvs:List (List Key×Addr))(k:List Key)(b:Addr):(zmz kvs k b).length<=kvs.length+1:=by
 unfold zmz
 split
 ·omega
 ·simp
def zqH:TE:=λ_ H Q=>∀p,H p=none->Q (.ref p) (upd H p (.dR []))
section
variable {X:Cx}{pos:Pos}
theorem zmi {P:Program}{w:World}{H:Hp}(h:Heap)(hb:sysModules<h.objs.size):ObjOk P w H (h.push {cls:=.type "dict", data:=.dict #[]}) h.objs.size (.dR []) :=
 ⟨lbm _,lcD.mpr (lR hb).symm,_,#[],0,lC _ rfl,⟨rfl,rfl,rfl⟩,rfl,rfl,lbK⟩
theorem zl9:PE X (.Dict [] [] pos) zqH:=λpins s σ H Q I h =>
 wpAny_Dict_empty ⟨.ref s.heap.objs.size,_,I.laid (a:=s.heap.objs.size) (o:=.dR []) (t':=s.toks) (λ_ _ q=>lg _ q) (lu _) (zmi s.heap I.big),rfl,h _ (I.hok.fresh (lu _))⟩
variable {pins:List (Addr×Obj)}{σ:St}{H:Hp}{s:Shared}{a b:Addr}{A:Around}{E:qQ2}{kvs:List (List Key×Addr)}{k:List Key}
theorem zmZ (I:Inv X pins σ H s)(e:SqT X.K H b (k.map kV)):(tupleKind (xr X.prog X.w)).is s.heap k b:=by
 obtain⟨its,r,⟨o,h1,h2,n,h3⟩,_⟩:=I.tuple e
 exact⟨o,its.toArray,n,h1,h2,h3,by simpa using zcZ r⟩
theorem zrG (I:Inv X pins σ H s)(e:H a=some (.dR kvs))(hk:∀q∈kvs,SqT X.K H q.2 (q.1.map kV)):(kvs.length<=sizeLine/\(a == sysModules)=false)/\s.heap.DictOfH (tupleKind (xr X.prog X.w)) a (kvs.map trR):=by
 obtain⟨z,y,o,es,ep,h1,h2,h3,h4,h5⟩:=(show ObjOk X.prog X.w H s.heap a (.dR kvs) from I.hok a _ e)
 refine⟨⟨z,y⟩,o,es,ep,h1,h2,h3,by rw[h4,laN];rfl,λx hx=>?_,by rw[zeS];exact h5⟩
 obtain⟨q,hq,rfl⟩:=laI.mp hx
 exact zmZ I (hk q hq)
theorem zqV {Q:Unit->Shared->Prop}(hu:A.units+1<cLine)(I:Inv X pins σ H s)(e:H a=some (.dR kvs))(hk:∀q∈kvs,SqT X.K H q.2 (q.1.map kV))(eb:SqT X.K H b (k.map kV))(l:kvs.length<sizeLine)
  (h:∀s',Inv X pins σ (upd H a (.dR (zmz kvs k b))) s'->Q () s'):wpAny (model X.prog X.w) A (setItem (.ref a) (.ref b) (.bool true)) Q E s:=by
 obtain⟨⟨z,hd⟩,dd⟩:=zrG I e hk
 have hl:(zmz kvs k b).length<=sizeLine:=by have:=zlR kvs k b;omega
 refine wpAny_setItem_heap (hsz:=by rw[lD];exact z) (ldS hu) (zmZ I eb) dd λh' dd' hs=>h _ ?_
 rw[znq] at dd'
 obtain⟨q,es,ep,hq,h2,h3,h4,_,h5⟩:=dd'
 refine zep I (by rw[e];exact True.intro) hs ⟨q,hq⟩ ⟨hl,hd,q,es,ep,hq,h2,h3,by rw[h4,laN];rfl,?_⟩
 rw[zeS] at h5
 exact h5
def zpo (K:qQ0)(td ty tv:TE):TS:=λD σ H=>tv σ H λv H1=>td σ H1 λx H2=>ty σ H2 λy H3=>∃a b kvs k,v=.bl true/\x=.ref a/\y=.ref b/\H3 a=some (.dR kvs)/\(∀q∈kvs,SqT K H3 q.2 (q.1.map kV))/\SqT K H3 b (k.map kV)/\kvs.length<sizeLine/\D.nx σ (upd H3 a (.dR (zmz kvs k b)))
theorem zlp {o i value:Expr}{td ty tv:TE}{pos':Pos}(hu:X.A.units+1<cLine)(ho:PE X o td)(hi:PE X i ty)(hv:PE X value tv)(hs:swapsWith value (some (.Subscript o i pos')) pos.line X.env=pure false):PS X (.Assign [.Subscript o i pos'] value pos) (zpo X.K td ty tv):=by
 intro pins s σ H D I h
 refine wpAny_Assign_Subscript (thn (hv pins s σ H _ I h) λr s1 ⟨v,H1,I1,rv,q1⟩=>thn (ho pins s1 σ H1 _ I1 q1) λu s2 ⟨x,H2,I2,rx,q2⟩=>thn (hi pins s2 σ H2 _ I2 q2) λiv s3 ⟨y,H3,I3,ry,a,b,kvs,k,ev,ex,ey,e1,e2,e3,e4,q3⟩=>?_) hs
 subst ex ey ev
 obtain rfl:u=Value.ref a:=rx
 obtain rfl:iv=Value.ref b:=ry
 obtain rfl:r=Value.bool true:=rv
 exact zqV hu I3 e1 e2 e3 e4 λs4 I4=>⟨σ,_,I4,q3⟩
end
def DRaw (h:Heap)(d:Addr)(es:Array DictEntry)(ep:Nat):Prop:=∃o,h.get? d=some o/\o.ExactDict/\o.data=.dict es ep
section
variable {prog:Program}{w:World}{A:Around}{E:qQ2}{s:Shared}{d it:Addr}{es:Array DictEntry}{ep i:Nat}
theorem DRaw.ty (D:DRaw s.heap d es ep):s.TypeIs (.ref d) "dict" := let ⟨o,h,c,_⟩:=D;⟨o,h,c.1⟩
theorem zoF {Q:qQ2}(lo:(d == sysModules)=false)(D:DRaw s.heap d es ep)
  (q:Q (.ref s.heap.objs.size) {s with heap:=s.heap.push {cls:=.type "dict_keyiterator", data:=.fields #[.ref d,.int 0 0,.int es.size 0,.int ep 0]} }):wpAny (model prog w) A (pyIter (.ref d)) Q E s:=by
 have T:=D.ty
 obtain⟨o,g,c,dt⟩:=D
 refine wpAny_pyIter_slot T PySem.F.slot_dict_iter (lZ PySem.F.slot_dict_iter T PySem.F.entry_dict_iter ?_ (PySem.F.args_dict_iter_1 _))
 unfold Builtin.«dict.__iter__» Builtin.Dict.dictSlotNone
 refine la (la (wpAny_notOrdered_dict T ?_))
 refine lq (a:=Value.ref d) ?_
 show wpAny _ _ (Builtin.Dict.showsAll d >>= _) _ _ s
 unfold Builtin.Dict.showsAll
 rw[lY (by rw[lo];decide)]
 refine la (lq (la (ld6 g dt (la (wpAny_dictEpoch g dt ?_)))))
 refine la (laz (lq ⟨_,rfl, "dict_keyiterator", _,⟨_,lC _ rfl,rfl⟩,laX.lookup,?_⟩))
 simpa [rawInt] using q
theorem zou {e:DictEntry}(J:s.heap.IsKeyIter it d i es.size ep)(D:DRaw s.heap d es ep)(x:es[i]? = some e)
  (q:∀h',h'.IsKeyIter it d (i+1) es.size ep->Heap.SameBut it s.heap h'->Q (some e.key) {s with heap:=h'}):wpAny (model prog w) A (pyNext (.ref it)) Q E s:=by
 have T:=J.typeIs
 obtain⟨o,g,c,dt⟩:=J
 obtain⟨od,gd,cd,dd⟩:=D
 have lt:i<es.size:=by
  rcases lcK i es.size with z|z
  ·exact z
  ·rw[lbO z] at x;cases x
 have xe:es[i]=e:=by rw[laD lt] at x;exact lp x
 unfold pyNext
 refine la (lbH (lT (name:=Str.ofString "__next__") T laX (lZ laX T PySem.F.entry_dict_keyiterator_next ?_ (PySem.F.args_dict_keyiterator_next_1 _))))
 refine la (lq (la (la (la (lbC T (lq ?_))))))
 refine la (wpAny_fieldsOf g dt ?_)
 simp only[show Builtin.Dict_items.ownsTuple "dict_keyiterator" = false by decide,lQ,la3]
 show wpAny _ _ (if (Value.ref d == Value.none)=true then _ else _) _ _ s
 rw[lY (show ¬((Value.ref d == Value.none)=true) from lE)]
 refine la (lq (la (ld6 gd dd ?_)))
 rw[lY (by simp)]
 refine la (lq (la (wpAny_dictEpoch gd dd ?_)))
 rw[lY (by simp)]
 refine lq ?_
 simp only[show ¬((i:Int)<0) from by omega,la3,laE,laD lt,xe]
 refine la (la (lbC T (lq ?_)))
 refine la (wpAny_isOneOf_keyiter T ?_)
 show wpAny _ _ (setField (.ref it) 1 (rawInt ((i:Int)+1)) >>= _) _ _ s
 refine la (lbW g dt (by simp) ?_)
 have J':(s.heap.update it (Obj.mapFields (·.setIfInBounds 1 (rawInt ((i:Int)+1))))).IsKeyIter it d (i+1) es.size ep :=
  ⟨_,lco _ g (lcp (lbn dt _)),(lc5 ..).trans c,by rw[lbn dt];simp[rawInt]⟩
 refine la (laR (la (wpAny_isOneOf_keyiter (s:={s with heap:=s.heap.update it (Obj.mapFields (·.setIfInBounds 1 (rawInt ((i:Int)+1))))}) J'.typeIs ?_)))
 refine lq (a:=e.key) (lq ⟨_,rfl,lq (q _ J' (lbg ..))⟩)
theorem zph (hh:A.handled=none)(J:s.heap.IsKeyIter it d i es.size ep)(D:DRaw s.heap d es ep)(x:es.size<=i)(q:∀h',Heap.ExtBut it s.heap h'->Q none {s with heap:=h'}):wpAny (model prog w) A (pyNext (.ref it)) Q E s:=by
 have T:=J.typeIs
 obtain⟨o,g,c,dt⟩:=J
 obtain⟨od,gd,cd,dd⟩:=D
 unfold pyNext
 refine la (lbH (lT (name:=Str.ofString "__next__") T laX (lZ laX T PySem.F.entry_dict_keyiterator_next ?_ (PySem.F.args_dict_keyiterator_next_1 _))))
 refine la (lq (la (la (la (lbC T (lq ?_))))))
 refine la (wpAny_fieldsOf g dt ?_)
 simp only[show Builtin.Dict_items.ownsTuple "dict_keyiterator" = false by decide,lQ,la3]
 show wpAny _ _ (if (Value.ref d == Value.none)=true then _ else _) _ _ s
 rw[lY (show ¬((Value.ref d == Value.none)=true) from lE)]
 refine la (lq (la (ld6 gd dd ?_)))
 rw[lY (by simp)]
 refine la (lq (la (wpAny_dictEpoch gd dd ?_)))
 rw[lY (by simp)]
 refine lq ?_
 simp only[show ¬((i:Int)<0) from by omega,la3,laE,lbO x]
 refine la (la (lbC T (lq ?_)))
 show wpAny _ _ (setField (.ref it) 0 .none >>= _) _ _ s
 refine la (lbW g dt (by simp) ?_)
 show wpAny _ _ (newExc (.type "StopIteration") [] >>= _) _ _ _
 refine la ?_
 simp only[newExc,newTuple]
 refine la (laz ?_ (by size_fits))
 refine la (m:=firstArgMember _ _) (wpAny_of_eq (a:=Value.none) (by first|rfl|(simp only[firstArgMember];rfl)) (laz ?_ (by size_fits)))
 simp only[raiseNew]
 refine la (ld7 ?_)
 rw[show A.in1.handled=none from hh]
 refine la (lq (wpAny_throw ?_))
 refine la (ldj (T := "StopIteration") (b:=true) ⟨_,lC _ rfl,rfl⟩ ldZ ?_)
 exact lq (q _ (((lbg ..).extBut.push _).push _))
theorem DRaw.at {h h':Heap}(D:DRaw h d es ep)(k:∀o,h.get? d=some o->h'.get? d=some o):DRaw h' d es ep:=let ⟨o,g,r⟩:=D;⟨o,k o g,r⟩
theorem zlG (hh:A.handled=none)(I:Addr)(ne:d≠I):Walks prog w A I [I,d] [I] es.size (λi v=>∃e,es[i]? = some e/\v=e.key) (λi h=>h.IsKeyIter I d i es.size ep/\DRaw h d es ep) where
 sub:=λb z=>by rw[lK.mp z];exact lJ
 frame:=λ_ _ _ st k=>⟨st.1.at λo e=>k I lJ o e,st.2.at λo e=>k d (lF _ lJ) o e⟩
 item:=λi s Q E hi st q=>zou st.1 st.2 (laD hi) λh' J sb=>q _ h' s.toks ⟨_,laD hi,rfl⟩ ⟨J,st.2.at λo e=>sb.extBut d o ne e⟩ λb o hb e=>sb.extBut b o (λz=>hb (z▸lJ)) e
 done:=λs Q E st q=>zph hh st.1 st.2 (lu _) λh' x=>q h' s.toks λb o hb e=>x b o (λz=>hb (z▸lJ)) e
 self:=λ_ _ _ _ st q=>wpAny_pyIter_keyiter st.1 q
theorem zqJ (lo:(d == sysModules)=false):KdlSrc prog w "dict" d d es.size (λi v=>∃e,es[i]? = some e/\v=e.key) (λh=>DRaw h d es ep) where
 type:=λ_ D=>D.ty
 there:=λ_ D=>let ⟨_,g,_⟩:=D;⟨ly g,ly g⟩
 keep:=λ_ _ D k=>D.at λo e=>k d (.inl rfl) o e
 notList:=by decide
 notTuple:=by decide
 hint:=λ_ _ _ _ D q=>kdl_hint_dict D.ty q
 iter:=λ_ _ hh D=>⟨_,_,(λ_ _ q=>zoF lo D q),zlG hh _ (let ⟨_,g,_⟩:=D;lR (ly g)),⟨⟨_,lC _ rfl,rfl,rfl⟩,D.at λo e=>lg _ e⟩⟩
theorem zg2 {h:Heap}{L b:Addr}{vs:List Value}{o:Obj}(ne:b≠L)(e:h.get? b=some o):(uO h L vs).get? b=some o:=by
 have lt:(b:Nat)<h.objs.size:=ly e
 rw[lc8 _ _ _ (by rw[size_push',lcB];exact lR (lb4 lt)),lc8 _ _ _ (by rw[lcB];exact lR lt),Heap.get?_update_ne _ _ _ _ ne]
 exact e
theorem zi8 {L:Addr}{ts:List Addr}{kss:List (List Key)}{n:Nat}{P:PySem.Fin->Shared->Prop}(ho:s.heap.get? L=some (seqObj "list" (ts.map Value.ref).toArray n))(hl:ts.length=kss.length)(ne:∀t∈ts,t≠L)
  (tup:∀i,i<kss.length->∃vs:List Value,Vals ((kss.getD i []).map kV) vs/\∃o,s.heap.get? (ts.getD i 0)=some o/\o.cls=.type "tuple" /\ ∃n,o.data=.seq vs.toArray n) (sb:Srtb kss) (h64:kss.length<64)
  (h:∀p,PP kss.length p->Sd (λi j=>zdu (kss.getD i []) (kss.getD j [])) kss.length p->P (.done (.ret .none)) {s with heap:=sortedHeap s.heap L (ts.map Value.ref) (List.toArray (p.toList.map λi=>(ts.map Value.ref).getD i Value.none))}) :
  wpAny (model prog w) A (Builtin.«list.sort» ⟨[.ref L],[]⟩) P E s:=by
 have hl':(ts.map Value.ref).length=kss.length:=by rw[lD];exact hl
 have gt:∀i,i<kss.length->(ts.map Value.ref).getD i Value.none=.ref (ts.getD i 0):=λi hi=>by
  rw[lh,lh,lH,lb (by omega)];rfl
 have mt:∀i,i<kss.length->ts.getD i 0∈ts:=λi hi=>by rw[lh,lb (by omega)];exact laK (by omega)
 have mem:∀i,i<kss.length->kss.getD i []∈kss:=λi hi=>by rw[lh,lb hi];exact laK hi
 obtain⟨c,hne⟩:=sb.ne
 have O:=sb.ord
 rw[← hl'] at O
 refine zcX (κ:=tuples' true) ho O (λh2 Q q=>?_) (λi j C hi hj q=>?_) (by omega) λp hp sd=>h p (hl'▸hp) (hl'▸sd)
 ·have key:∀(l:List Nat),(∀i∈l,i<kss.length)->∃fs:List Value,KatTups (uO s.heap L (ts.map Value.ref)) (l.map λi=>(ts.map Value.ref).getD i Value.none) fs/\fs.length=l.length/\∀v∈fs,if c then ∃n t,v=.int n t else ∃x t,v=.str x t:=by
   intro l
   induction l with
   | nil=>exact λ_=>⟨[],KatTups.nil,rfl,λv hv=>by cases hv⟩
   | cons i l ih =>
    intro hm
    obtain⟨fs,k1,k2,k3⟩:=ih λj hj=>hm j (lF _ hj)
    have hi:=hm i lJ
    obtain⟨vs,r1,o,g,hcl,n,hd⟩:=tup i hi
    obtain⟨k,rr,e,kc⟩:=hne _ (mem i hi)
    rw[e,lr] at r1
    cases r1 with
    | cons rp r1 =>
     rename_i f vs'
     refine⟨f::fs,?_,by simp[k2],λv hv=>?_⟩
     ·rw[lr,gt i hi]
      exact KatTups.cons (zg2 (ne _ (mt i hi)) g) hcl hd (by simp) k1
     ·rcases lz.mp hv with rfl|hv
      ·cases k with
       | inl z=>obtain⟨t,rfl⟩:=rp;rw[← kc];exact⟨z,t,rfl⟩
       | inr z=>obtain⟨t,rfl⟩:=rp;rw[← kc];exact⟨z,t,rfl⟩
      ·exact k3 v hv
  obtain⟨fs,k1,k2,k3⟩:=key (List.range (ts.map Value.ref).length) λi hi=>by have:=lbJ.mp hi;omega
  have e:(List.range (ts.map Value.ref).length).map (λi=>(ts.map Value.ref).getD i Value.none)=ts.map Value.ref:=by
   apply lek
   ·simp
   ·intro i h1 h2
    have h2':i<ts.length:=by simpa using h2
    simp[h2']
  rw[e] at k1
  rw[lbi] at k2
  cases c with
  | true =>
   refine kat_kind (T:=.type "int") k1 (by omega) (λv hv=>?_) rfl q
   obtain⟨n,t,rfl⟩:=k3 v hv
   exact .now
  | false =>
   refine kat_kind (T:=.type "str") k1 (by omega) (λv hv=>?_) rfl q
   obtain⟨n,t,rfl⟩:=k3 v hv
   exact .now
 ·rw[hl'] at hi hj
  obtain⟨vi,ri,oi,gi,hci,ni,hdi⟩:=tup i hi
  obtain⟨vj,rj,oj,gj,hcj,nj,hdj⟩:=tup j hj
  unfold kas_ask
  rw[gt i hi,gt j hj]
  have li:=ri.length
  have lj:=rj.length
  simp only[lD] at li lj
  refine kat_lt (s:={s with heap:=uO s.heap L (ts.map Value.ref)}) (zg2 (ne _ (mt i hi)) gi) hdi (zg2 (ne _ (mt j hj)) gj) hdj (zjr _ _ _ _ 0 ri rj (sb.ok _ (mem i hi) _ (mem j hj)) ?_ q)
  rw[lI,lI,li,lj]
end
section
variable {X:Cx}
theorem zfv (hc:X.calm=true):ju X (.builtin "sorted") (λxs H Q=>∃(a:Addr) (kvs:List (List Key×Addr)),xs=[.ref a]/\H a=some (.dR kvs)/\(∀q∈kvs,SqT X.K H q.2 (q.1.map kV))/\Srtb (kvs.map (·.1))/\kvs.length<64 /\
  ∀p (π:List Nat),H p=none->π.Perm (List.range kvs.length)->(∀i j,i<j->j<kvs.length->zdu ((kvs.map (·.1)).getD (π.getD i 0) []) ((kvs.map (·.1)).getD (π.getD j 0) [])=true)->Q (.ref p) (upd H p (.lst (π.map λi=>V.ref ((kvs.map (·.2)).getD i 0))))):=by
 intro pins s σ H xs us Q I r h
 obtain⟨a,kvs,rfl,ha,hk,sb,h64,q⟩:=h
 obtain⟨u,rfl,ru⟩:=vals1 r
 cases ru
 obtain⟨z,lo,o,es,ep,h1,h2,h3,h4,h5⟩:=(show ObjOk X.prog X.w H s.heap a (.dR kvs) from I.hok a _ ha)
 have hz:es.size=kvs.length:=by have:=lbG List.length h4;simpa using this
 refine lcy kind_sorted plain_sorted entry_sorted (args_sorted1 _) ?_
 unfold Builtin.«sorted»
 refine la (m:=checkCount "sorted" 1 1 _) (lq ?_)
 refine la (kdu_collect (A:=X.A.in1) (zqJ (es:=es) (ep:=ep) lo) (I.ok.hd hc) ⟨o,h1,h2,h3⟩ (by rw[hz,laQ];omega) λh' tk acc hkp hacc=>?_)
 have ea:acc.toList=(kvs.map (·.2)).map Value.ref:=by
  apply List.ext_getElem?
  intro i
  rcases lcK i kvs.length with hi|hi
  ·have hlt:i<acc.size:=by rw[hacc.1,hz];exact hi
   obtain⟨e,e1,e2⟩:=hacc.2 i acc[i] (by rw[laD hlt])
   have e3:es.toList[i]? = some e:=by simpa using e1
   rw[h4,lH,lb hi] at e3
   have e4:=lp e3
   rw[lH,lH,lb hi,Array.getElem?_toList,laD hlt,e2,← e4]
   rfl
  ·rw[List.getElem?_eq_none (by rw[lbs,hacc.1,hz];exact hi),List.getElem?_eq_none (by simpa using hi)]
 rw[ea]
 refine la (ldx ?_ (by simp only[lD];rw[laQ];omega))
 have hoL:(h'.push (seqObj "list" ((kvs.map (·.2)).map Value.ref).toArray 0)).get? h'.objs.size=some (seqObj "list" ((kvs.map (·.2)).map Value.ref).toArray 0):=lC _ rfl
 show wpAny _ _ _ _ _ {s with heap:=h'.push (seqObj "list" ((kvs.map (·.2)).map Value.ref).toArray 0),toks:=tk}
 have tup:∀i,i<kvs.length->∃vs:List Value,Vals (((kvs.map (·.1)).getD i []).map kV) vs/\∃o,h'.get? ((kvs.map (·.2)).getD i 0)=some o/\o.cls=.type "tuple" /\ ∃n,o.data=.seq vs.toArray n:=λi hi=>by
  have g1:(kvs.map (·.1)).getD i []=kvs[i].1:=by rw[lh,lH,lb hi];rfl
  have g2:(kvs.map (·.2)).getD i 0=kvs[i].2:=by rw[lh,lH,lb hi];rfl
  rw[g1,g2]
  obtain⟨vs,r1,⟨o,p1,p2⟩,_⟩:=I.tuple (hk kvs[i] (laK hi))
  exact⟨vs,r1,o,hkp _ _ p1,p2⟩
 have far:∀t∈kvs.map (·.2),t≠h'.objs.size:=λt ht=>by
  obtain⟨q,hq,rfl⟩:=laI.mp ht
  obtain⟨vs,r1,⟨o,p1,p2⟩,_⟩:=I.tuple (hk q hq)
  exact lR (ly (hkp _ _ p1))
 have hl1:(kvs.map (·.1)).length=kvs.length:=lD ..
 have hl2:(kvs.map (·.2)).length=kvs.length:=lD ..
 refine la (laR (lZ slot_list_sort ⟨_,hoL,rfl⟩ entry_list_sort (zi8 (kss:=kvs.map (·.1)) (s:={s with heap:=h'.push (seqObj "list" ((kvs.map (·.2)).map Value.ref).toArray 0),toks:=tk}) hoL (by rw[hl1,hl2]) far (λi hi=>?_) sb (by rw[hl1];exact h64) λp hp sd=>⟨_,rfl,?_⟩) (args_list_sort _)))
 ·obtain⟨vs,r1,o,p1,p2⟩:=tup i (by rw[← hl1];exact hi)
  exact⟨vs,r1,o,lg _ p1,p2⟩
 refine lq ⟨_,rfl,?_⟩
 obtain⟨c,hat'⟩:=sortedHeap_at (n:=0) (out:=List.toArray (p.toList.map λi=>((kvs.map (·.2)).map Value.ref).getD i Value.none)) hoL
 have I1:Inv X pins σ H {s with heap:=h',toks:=tk}:=I.kept (t':=tk) hkp
 rw[hl1] at hp sd
 have hp':p.toList.Perm (List.range kvs.length):=hp
 refine⟨.ref h'.objs.size,_,I1.laid (t':=tk) (o:=.lst (p.toList.map λi=>V.ref ((kvs.map (·.2)).getD i 0))) (λb o e'=>?_) (lu _) ?_,rfl,q _ p.toList (I1.hok.fresh (lu _)) hp' λi j hij hj=>?_⟩
 ·have hlt:=ly e'
  rw[sortedHeap_old (lR hlt) (by rw[size_push'];exact lb4 hlt)]
  exact lg _ e'
 ·refine ⟨?_,p.toList.map λi=>((kvs.map (·.2)).map Value.ref).getD i Value.none,c,?_,hat'⟩
  ·have:=hp.size;rw[lD,lbs,laQ];omega
  ·refine zho (by simp) λj x u hx hu=>?_
   rw[lH] at hx hu
   cases e:p.toList[j]? with
   | none=>rw[e] at hx;cases hx
   | some i =>
    rw[e] at hx hu
    have hi:i<kvs.length:=lbJ.mp (hp'.mem_iff.mp (lad e))
    cases hx
    cases hu
    show RelV (V.ref ((kvs.map (·.2)).getD i 0)) (((kvs.map (·.2)).map Value.ref).getD i Value.none)
    have g:((kvs.map (·.2)).map Value.ref).getD i Value.none=.ref ((kvs.map (·.2)).getD i 0):=by
     rw[lh,lh,lH,lb (by rw[hl2];exact hi)];rfl
    rw[g];rfl
 ·have:=sd i j hij hj
  rw[gd,gd] at this
  rw[lh,lh]
  simpa using this
end
end L2
namespace L2
open PySem PySem.W PySem.Spec PyProof.Rows
variable {ks ds:List D}{ρ:Rho}{i:Nat}{F:Hp}{kvs:List (List Key×Addr)}
def znD:D->D->Bool
 | .int i,.int j=>decide (i=j)
 | .str a,.str b=>decide (a=b)
 | _,_=>false
def zgZ:List D->List D->Bool
 | [],[]=>true
 | x::xs,y::ys=>znD x y&&zgZ xs ys
 | _,_=>false
def zr7 (a b:D):Bool:=zgZ (tOf a) (tOf b)
def putT (ks:List D)(k:D):List D:=if ks.any (zr7 k)=true then ks else ks++[k]
theorem zh9:∀{a b:D},isAt a=true->isAt b=true->(znD a b=true↔kOf a=kOf b)
 | .int i,.int j,_,_=>by simp[znD,kOf]
 | .str a,.str b,_,_=>by
  simp only[znD,kOf,lae,Sum.inr.injEq]
  exact⟨λe=>e▸rfl,λe=>zkp e⟩
 | .int i,.str b,_,_=>by simp[znD,kOf]
 | .str a,.int j,_,_=>by simp[znD,kOf]
 | .non,_,h,_=>by simp[isAt] at h
 | .bl _,_,h,_=>by simp[isAt] at h
 | .lst _,_,h,_=>by simp[isAt] at h
 | .tup _,_,h,_=>by simp[isAt] at h
 | .dct _,_,h,_=>by simp[isAt] at h
 | .exc _,_,h,_=>by simp[isAt] at h
 | .int _,.non,_,h=>by simp[isAt] at h
 | .int _,.bl _,_,h=>by simp[isAt] at h
 | .int _,.lst _,_,h=>by simp[isAt] at h
 | .int _,.tup _,_,h=>by simp[isAt] at h
 | .int _,.dct _,_,h=>by simp[isAt] at h
 | .int _,.exc _,_,h=>by simp[isAt] at h
 | .str _,.non,_,h=>by simp[isAt] at h
 | .str _,.bl _,_,h=>by simp[isAt] at h
 | .str _,.lst _,_,h=>by simp[isAt] at h
 | .str _,.tup _,_,h=>by simp[isAt] at h
 | .str _,.dct _,_,h=>by simp[isAt] at h
 | .str _,.exc _,_,h=>by simp[isAt] at h
theorem zf9:∀{a b:List D},a.all isAt=true->b.all isAt=true->(zgZ a b=true↔a.map kOf=b.map kOf)
 | [],[],_,_=>by simp[zgZ]
 | [],_::_,_,_=>by simp[zgZ]
 | _::_,[],_,_=>by simp[zgZ]
 | x::xs,y::ys,h,k=>by
  rw[lbv,lG] at h k
  rw[zgZ,lG,zh9 h.1 k.1,zf9 h.2 k.2,lr,lr,List.cons.injEq]
theorem zhw {d:D}(h:zkk d=true):(tOf d).all isAt=true:=by
 cases d with
 | tup ds=>exact h
 | _=>cases h
theorem zhL {a b:D}(h:zkk a=true)(k:zkk b=true):zr7 a b=true↔zam a=zam b:=zf9 (zhw h) (zhw k)
theorem zm2 {k:D}(hk:zkk k=true)(h:∀d∈ks,zkk d=true):ks.any (zr7 k)=true↔zam k∈ks.map zam:=by
 rw[lbS,laI]
 exact⟨λ⟨x,hx,e⟩=>⟨x,hx,((zhL hk (h x hx)).mp e).symm⟩,λ⟨x,hx,e⟩=>⟨x,hx,(zhL hk (h x hx)).mpr e.symm⟩⟩
def zoR (i:Nat):Rho->Out:=λρ=>.nx (ρ.set i (.ot []))
def otL (ρ:Rho)(i:Nat):Option (List D):=match ρ[i]? with|some (.ot ds)=>some ds|_=>none
theorem zhB (h:otL ρ i=some ds):ρ[i]? = some (.ot ds):=by
 unfold otL at h
 split at h
 ·rename_i e;rw[e,lp h]
 ·cases h
section
variable {X:Cx}{cl:Nat->Addr}{E:XK}{e o a b c:Expr}{es:List Expr}{fa fb fc:qQ5}{fs:qQ4}{x y:Str}{p pos:Pos}
theorem Rl.setT {K:qQ0}{H0 F0 H:Hp}{σ:St}{p:Addr}{vs:List (List Key×Addr)}(R:Rl K cl H0 F0 ρ σ H F)(hp:H p=none)(h:Dtk K cl F vs ds):Rl K cl H0 F0 (ρ.set i (.ot ds)) (σ.set i (some (.ref p))) (upd H p (.dR vs)) F:=R.newOwn hp (.ot h)
theorem Rl.putT {K:qQ0}{H0 F0 H:Hp}{σ:St}{a:Addr}{us:List (List Key×Addr)}{es:List D}(R:Rl K cl H0 F0 ρ σ H F)(hi:ρ[i]? = some (.ot ds))(hs:σ[i]? = some (some (.ref a)))(h:Dtk K cl F us es):Rl K cl H0 F0 (ρ.set i (.ot es)) σ (upd H a (.dR us)) F:=R.chg hi rfl hs (.ot h)
theorem Dts.sq {K:qQ0}{F:Hp}:∀{kvs:List (List Key×Addr)}{ks:List D},kvs.map (·.1)=ks.map zam->Dts K cl F (kvs.map λq=>V.ref q.2) ks->(∀d∈ks,zkk d=true)->∀q∈kvs,SqT K F q.2 (q.1.map kV)
 | [],_,_,_,_=>λq h=>by cases h
 | (k,a)::kvs,[],e,_,_=>by simp at e
 | (k, a)::kvs,d::ks,e,dt,ta=>λq hq=>by
  rw[lr,lr,List.cons.injEq] at e
  rw[lr] at dt
  cases dt with
  | cons r t =>
   rcases lz.mp hq with rfl|hq
   ·have h0:=ta d lJ
    have ek:k=zam d:=e.1
    show SqT K F a (k.map kV)
    cases r with
    | tup sq dq =>
     rename_i xs ds
     have ex:=dq.atoms h0
     rw[ek]
     show SqT K F a ((ds.map kOf).map kV)
     rw[← ex];exact sq
    | _=>cases h0
   ·exact Dts.sq e.2 t (λd hd=>ta d (lF _ hd)) q hq
theorem Dtk.sq {K:qQ0}(h:Dtk K cl F kvs ks):∀q∈kvs,SqT K F q.2 (q.1.map kV):=Dts.sq h.ky h.dt h.ta
theorem Dtk.len {K:qQ0}(h:Dtk K cl F kvs ks):kvs.length=ks.length:=by have:=lbG List.length h.ky;simpa using this
theorem Dtk.put {K:qQ0}{k:D}{b:Addr}(h:Dtk K cl F kvs ks)(hk:zkk k=true)(q:Dt K cl F (.ref b) k):Dtk K cl F (zmz kvs (zam k) b) (L2.putT ks k):=by
 unfold zmz L2.putT
 by_cases e:zam k∈ks.map zam
 ·rw[lO (anyR.mpr (by rw[h.ky];exact e)),lO ((zm2 hk h.ta).mpr e)];exact h
 ·rw [lY (λz=>e (by rw[← h.ky];exact anyR.mp z)),lY (λz=>e ((zm2 hk h.ta).mp z))]
  refine⟨by rw[lau,lau,h.ky];rfl,?_,λd hd=>?_,?_⟩
  ·rw[lau];exact h.dt.append (.cons q .nil)
  ·rcases lap.mp hd with hd|hd
   ·exact h.ta d hd
   ·rw[lK.mp hd];exact hk
  ·rw [lau]
   exact lbu.mpr ⟨h.nd,lbx.mpr ⟨by simp,lbK⟩,λa ha b hb z=>by
    rw[lr,laL,lK] at hb;subst hb;subst z;exact e ha⟩
theorem zkr {pos' dpos:Pos}(hN:X.N.Nodup)(hi:X.N[i]? = some x)(hx:Loc X.env.scope x)(hs:swapsWith (.Dict [] [] dpos) (some (.Name x pos')) pos.line X.env=pure false:=by rfl)(hf:X.fn x=true∨X.env.scope.names.lookup x=some .local:=by first|exact .inl rfl|exact .inr rfl|assumption) :
  XS X cl E (.Assign [.Name x pos'] (.Dict [] [] dpos) pos) (zoR i) :=
 XS'.out ⟨_,zgh hN hi hx zl9 hs hf,λH0 F0 ρ σ H F Dn R o=>λp hp=>o _ _ F (R.setT hp ⟨rfl,.nil,λ_ h=>(by cases h),lbK⟩) (Same.refl _)⟩
def zlF (i:Nat)(fk fv:qQ5):Rho->Out:=λρ=>match otL ρ i with
 | some ds=>(match fv ρ with
  | .ok (.bl true)=>(match fk ρ with | .ok k=>if zkk k=true/\ds.length<1000 then .nx (ρ.set i (.ot (L2.putT ds k))) else .no | .ex n=>.ex n|_=>.no)
  | _=>.no)
 | none=>.no
theorem zkF {k v:Expr}{pos':Pos}(hu:X.A.units+1<cLine)(ho:PE X o (zj5 i))(hk:XE X cl E k fa)(hv:XE X cl E v fb)(hs:swapsWith v (some (.Subscript o k pos')) pos.line X.env=pure false:=by rfl):XS X cl E (.Assign [.Subscript o k pos'] v pos) (zlF i fa fb):=by
 obtain⟨t,pt,rt⟩:=hk.ex
 obtain⟨u,pu,ru⟩:=hv.ex
 refine XS'.out ⟨_,zlp hu ho pt pu hs,λH0 F0 ρ σ H F Dn R oo=>ru H0 F0 ρ σ H F _ R ?_⟩
 unfold zlF at oo
 cases hw:otL ρ i with
 | none=>rw[hw] at oo;exact oo.elim
 | some ds =>
  rw[hw] at oo
  have hd:=zhB hw
  cases ev:fb ρ with
  | ok dv =>
   cases dv with
   | bl bb =>
    cases bb with
    | true =>
     simp only[ev] at oo
     intro vv H1 F1 g1 q1
     have R1:=R.grow g1
     obtain⟨ad,vs,h1,h2,h3,h4,h5⟩:=R1.ot i ds hd
     refine⟨.ref ad,h1,rt H0 F0 ρ σ H1 F1 _ R1 ?_⟩
     cases ek:fa ρ with
     | ok dk =>
      simp only[ek] at oo
      split at oo
      ·rename_i hl
       intro kv H2 F2 g2 q2
       have R2:=R1.grow g2
       have h5':=h5.mono g2.ff
       cases q1
       cases q2 with
       | tup sq dq =>
        rename_i b xs dks
        have ex:=dq.atoms hl.1
        have sq':SqT X.K H2 b ((zam (.tup dks)).map kV):=by
         show SqT X.K H2 b ((dks.map kOf).map kV)
         rw[← ex];exact R2.fh.seqT sq
        refine⟨ad,b,vs,zam (.tup dks),rfl,rfl,rfl,g2.hh _ _ h2,λq hq=>R2.fh.seqT (h5'.sq q hq),sq',by rw[h5.len,laQ];omega,?_⟩
        exact oo _ _ F2 (R2.putT hd h1 (h5'.put hl.1 (.tup sq dq))) (g1.ff.trans g2.ff)
       | _=>cases hl.1
      ·exact oo.elim
     | ex n=>simp only[ek] at oo;exact oo
     | no=>simp only[ek] at oo;exact oo.elim
    | false=>simp only[ev] at oo;exact oo.elim
   | _=>simp only[ev] at oo;exact oo.elim
  | ex n=>simp only[ev] at oo;exact oo.elim
  | no=>simp only[ev] at oo;exact oo.elim
end
def zkG:List Nat->List Nat->Bool
 | [],[]=>false
 | [],_::_=>true
 | _::_,[]=>false
 | a::as,b::bs=>if a<b then true else if b<a then false else zkG as bs
def zqm:List D->List D->Bool
 | [],[]=>false
 | [],_::_=>true
 | _::_,[]=>false
 | x::xs,y::ys=>if znD x y=true then zqm xs ys else zkG (unS x) (unS y)
def zmn:D->Bool
 | .tup (d::ds)=>(d::ds).all isS
 | _=>false
def zqY (x:D):List D->List D
 | []=>[x]
 | y::ys=>if zqm (tOf x) (tOf y) then x::y::ys else y::zqY x ys
def zk6 (ds:List D):List D:=ds.foldr zqY []
theorem nlLt_iff:∀{a b:List Nat},zkG a b=true↔a<b
 | [],[]=>by simp[zkG]
 | [],_::_=>by simp[zkG]
 | _::_,[]=>by simp[zkG]
 | a :: as,b::bs=>by
  unfold zkG
  rw[lav]
  by_cases h:a<b
  ·simp[h]
  ·by_cases k:b<a
   ·rw[lY h,lO k]
    simp only[lQ,false_iff,not_or,not_and]
    exact⟨h,λe=>by omega⟩
   ·rw[lY h,lY k,nlLt_iff]
    have:a=b:=by omega
    simp[this]
theorem zmR {d:D}(h:isS d=true):isAt d=true:=by cases d <;>simp_all [isS,isAt]
theorem zhy:∀{a b:List D},a.all isS=true->b.all isS=true->zqm a b=zdu (a.map kOf) (b.map kOf)
 | [],[],_,_=>rfl
 | [],_::_,_,_=>rfl
 | _::_,[],_,_=>rfl
 | x :: xs,y::ys,h,k=>by
  rw[lbv,lG] at h k
  rw[lr,lr]
  unfold zqm zdu
  have e:=zh9 (zmR h.1) (zmR k.1)
  by_cases z:kOf x=kOf y
  ·rw[lO z,lO (e.mpr z),zhy h.2 k.2]
  ·rw [lY z,lY (λw=>z (e.mp w))]
   cases x with
   | str a =>
    cases y with
    | str b =>
     show zkG a b=decide ((T a).cps.toList<(T b).cps.toList)
     rw[zbc,zbc]
     by_cases q:a<b
     ·rw[nlLt_iff.mpr q,lP q]
     ·rw[lS q]
      cases e2:zkG a b with
      | false=>rfl
      | true=>exact absurd (nlLt_iff.mp e2) q
    | _=>simp[isS] at k
   | _=>simp[isS] at h
theorem zjE {x:D}:∀{ys:List D},zmn x=true->(∀y∈ys,zmn y=true)->zqY x ys=zlK x ys
 | [],_,_=>rfl
 | y :: ys,hx,h=>by
  unfold zqY zlK
  rw[zjE hx λz hz=>h z (lF _ hz)]
  have e:zqm (tOf x) (tOf y)=zdu (zam x) (zam y):=by
   have hy:=h y lJ
   have al:∀{d:D},zmn d=true->(tOf d).all isS=true:=λ{d} h=>by
    cases d with
    | tup ds=>cases ds with
     | nil=>cases h
     | cons x xs=>exact h
    | _=>cases h
   exact zhy (al hx) (al hy)
  rw[e]
theorem zhI:∀{ds:List D},(∀y∈ds,zmn y=true)->zk6 ds=zk2 ds
 | [],_=>rfl
 | d::ds,h=>by
  have h':∀y∈ds,zmn y=true:=λy hy=>h y (lF _ hy)
  show zqY d (zk6 ds)=zlK d (zk2 ds)
  rw[zhI h']
  exact zjE (h d lJ) λy hy=>h' y ((zad ds).mem_iff.mp hy)
theorem zmF:∀{a b:List D},a.all isS=true->b.all isS=true->zkg (a.map kOf) (b.map kOf)=true
 | [],_,_,_=>by simp[zkg]
 | _::_,[],_,_=>by simp[zkg]
 | x::xs,y::ys,h,k=>by
  rw[lbv,lG] at h k
  rw[lr,lr]
  unfold zkg
  rw[zmF h.2 k.2,Bool.and_true]
  cases x with
  | str a=>cases y with
   | str b=>rfl
   | _=>simp[isS] at k
  | _=>simp[isS] at h
theorem zoW (h:∀y∈ds,zmn y=true)(nd:(ds.map zam).Nodup):Srtb (ds.map zam):=by
 refine⟨⟨false,λks hk=>?_⟩,λx hx y hy=>?_,nd⟩
 ·obtain ⟨d,hd,rfl⟩:=laI.mp hk
  have:=h d hd
  cases d with
  | tup l=>cases l with
   | nil=>cases this
   | cons x xs =>
    refine⟨kOf x,xs.map kOf,rfl,?_⟩
    have h1:(isS x&&xs.all isS)=true:=this
    rw[lG] at h1
    cases x with
    | str a=>rfl
    | _=>simp[isS] at h1
  | _=>cases this
 ·obtain ⟨d,hd,rfl⟩:=laI.mp hx
  obtain⟨e,he,rfl⟩:=laI.mp hy
  have al:∀{d:D},zmn d=true->(tOf d).all isS=true:=λ{d} h=>by
   cases d with
   | tup ds=>cases ds with
    | nil=>cases h
    | cons x xs=>exact h
   | _=>cases h
  exact zmF (al (h d hd)) (al (h e he))
def fST (i:Nat):qQ4:=λρ=>match otL ρ i with
 | some ds=>if ds.all zmn=true/\ds.length<64 then .ok (zk6 ds) else .no
 | none=>.no
section
variable {X:Cx}{cl:Nat->Addr}{E:XK}{e:Expr}{p pos:Pos}
theorem zdZ (hc:X.calm=true)(hg:Gl X "sorted")(hm:X.mg "sorted" = none)(ho:PE X e (zj5 i))(hs:starEach [e] X.env=(false,eval e X.env)::starEach [] X.env)(hpl:(backTo pos (starEach [] X.env)).any (·.1)=false:=by rfl):XL X cl E (.Call (.Name "sorted" p) [e] [] pos) (fST i):=by
 refine⟨_,zah (zfv hc) hg hm boot_sorted (yQ ho uc hs) (by decide) (by decide) hs hpl,λH0 F0 ρ σ H F Q R oo=>?_⟩
 unfold fST at oo
 cases hw:otL ρ i with
 | none=>rw[hw] at oo;exact oo.elim
 | some l =>
  rw[hw] at oo
  dsimp only at oo
  split at oo
  ·rename_i hl
   obtain⟨ad,vs,h1,h2,h3,h4,h5⟩:=R.ot i l (zhB hw)
   have ts:∀y∈l,zmn y=true:=λy hy=>lag.mp hl.1 y hy
   have sb:=zoW ts h5.nd
   have e1:=h5.len
   refine⟨.ref ad,h1,ad,vs,rfl,h2,λq hq=>R.fh.seqT (h5.sq q hq),by rw[h5.ky];exact sb,by omega,λp π hp pm rs=>?_⟩
   rw[h5.ky,e1] at rs
   rw[e1] at pm
   have pl:π.length=l.length:=by have:=pm.length_eq;simpa using this
   have hmem:∀i∈π,i<l.length:=λi hi=>lbJ.mp (pm.mem_iff.mp hi)
   have er:RisP (π.map λi=>l.getD i .non):=by
    refine lcz.mpr λi j hi hj hij=>?_
    have hi':i<π.length:=by simpa using hi
    have hj':j<π.length:=by simpa using hj
    have r1:=rs i j hij (by omega)
    have gk:∀i (h:i<π.length),(l.map zam).getD (π.getD i 0) []=zam (l.getD π[i] .non):=λi h=>by
     have hm:=hmem π[i] (laK h)
     have e0:π.getD i 0=π[i]:=by rw[lh,lb h];rfl
     rw[e0,lh,lh,lH,lb hm]
     rfl
    rw[gk i hi',gk j hj'] at r1
    simpa using r1
   have ez:(π.map λi=>l.getD i .non)=zk6 l:=by
    rw[zhI ts]
    exact er.unique (zfz sb) ((zpE l π pm).trans (zad l).symm)
   refine oo _ _ F (Gr.refl R.fh) ?_ p hp
   rw[← ez]
   have dq:=h5.dt
   have key:∀(π:List Nat),(∀i∈π,i<l.length)->Dts X.K cl F (π.map λi=>V.ref ((vs.map (·.2)).getD i 0)) (π.map λi=>l.getD i .non):=by
    intro π
    induction π with
    | nil=>exact λ_=>.nil
    | cons i π ih =>
     intro hm
     have hi:=hm i lJ
     refine .cons ?_ (ih λj hj=>hm j (lF _ hj))
     have:=dq.getDt i hi
     have ev:(vs.map λq=>V.ref q.2).getD i .non=V.ref ((vs.map (·.2)).getD i 0):=by
      rw[lh,lh,lH,lH,lb (by omega)]
      rfl
     rw[ev] at this
     exact this
   exact key π hmem
  ·exact oo.elim
end
theorem ziU (l:Addr)(items:Array Value)(n:Nat)(b:Addr)(more:Array Value)(z1:items.size<=sizeLine)(z2:items.size+more.size<=sizeLine) :
  Meets (Builtin.«list.extend» ⟨[.ref l,.ref b],[]⟩) (λ_ R s=>s.heap.get? l=some (seqObj "list" items n)/\(∃o k,s.heap.get? b=some o/\o.cls=.type "list" /\ o.data=.seq more k)/\R (.ok (.ret Value.none)) {s with heap:=s.heap.update l (Obj.mapSeq λx=>x++more)}) :=
 .of_wp λprog w A R s h=>by
  obtain⟨hl,⟨o,k,hb,hc,hd⟩,h⟩:=h
  unfold Builtin.«list.extend»
  refine la (m:=selfAndOne "list.extend" _) (lq ?_)
  unfold Builtin.List.listExtendWith
  refine la (lcH ⟨o,hb,hc⟩ ?_)
  rw[lO (by simp)]
  refine la (ldX hb hd (la (ldX hl rfl ?_)))
  rw[lY (by rw[zid z2,Bool.and_false];exact lE)]
  refine la (ldy (f:=λx=>x++more) hl rfl ?_ (hsz2:=by show(items++more).size<=_;rw[ld2];omega))
  exact lq ⟨_,rfl,h⟩
section
variable {X:Cx}
def zrp (K:qQ0):V->List V->Hp->VK->Prop:=λx vs H Q=>∃l b xs zs,x=.ref l/\vs=[.ref b]/\H l=some (.lst xs)/\SqL K H b zs/\xs.length+zs.length<=sizeLine/\Q .non (upd H l (.lst (xs++zs)))
theorem zit:MtM X "list.extend" (zrp X.K):=by
 intro pins s σ H x vs v us Q I rx rv h
 obtain⟨l,b,xs,zs,rfl,rfl,hH,hB,hz,q⟩:=h
 cases rx
 obtain⟨u,rfl,ru⟩:=rv.one
 cases ru
 obtain⟨z,its,n,r,hl,e⟩:=I.lstM hH
 obtain⟨its2,r2,⟨o,k,e2,c2,_,d2⟩,hl2⟩:=I.list hB
 have l1:=r.length
 have l2:=r2.length
 refine lcI F.slot_list_extend ⟨_,e,rfl⟩ F.entry_list_extend (F.args_list_extend_2 _ _) (ziU l its.toArray n b its2.toArray (by rw[lI];omega) (by rw[lI,lI];omega)) ⟨e,⟨o,k,e2,c2,d2⟩,?_⟩
 refine⟨.non,_,I.lset (its':=its++its2) hH e (by simp) (r.append r2) ?_,rfl,q⟩
 rw[lU]
 omega
variable {cl:Nat->Addr}{E:XK}{e:Expr}{fa:qQ5}{pos:Pos}
def zrx (i:Nat)(f:qQ5):Rho->Out:=λρ=>match owL ρ i with
 | some ds=>(match f ρ with | .ok (.lst es)=>if ds.length+es.length<1000000 then .nx (ρ.set i (.ow (ds++es))) else .no | .ex n=>.ex n|_=>.no)
 | none=>.no
theorem zj9 {o:Expr}{apos cpos:Pos}(ho:PE X o (zj5 i))(ha:XE X cl E e fa)(m:Mth X o e "extend" apos cpos)(hs:swapsWith (.Call (.Attribute o "extend" apos) [e] [] cpos) none pos.line X.env=pure false:=by rfl):XS X cl E (.Expr (.Call (.Attribute o "extend" apos) [e] [] cpos) pos) (zrx i fa):=by
 obtain⟨u,pu,ru⟩:=ha.ex
 refine XS'.out ⟨_,zeL (zgE lb8 PySem.F.slot_list_extend PySem.F.type_list_extend zit ho (yQ pu uc m.hs) m.base m.few m.line m.hs m.plain) hs,λH0 F0 ρ σ H F Dn R oo=>?_⟩
 unfold zrx at oo
 cases hw:owL ρ i with
 | none=>rw[hw] at oo;exact oo.elim
 | some ds =>
  rw[hw] at oo
  have hd:=zh6 hw
  obtain⟨a,vs,h1,h2,h3,h4,h5⟩:=R.ow i ds hd
  refine⟨.ref a,h1,.inl ⟨rfl,vs,.inl (.inl h2)⟩,ru H0 F0 ρ σ H F _ R ?_⟩
  cases e:fa ρ with
  | ok d =>
   simp only[e] at oo
   split at oo
   ·rename_i es e1
    injection e1 with e1
    subst e1
    split at oo
    ·rename_i hl
     intro v H1 F1 g q
     have R1:=R.grow g
     cases q with
     | lst sq dq =>
      rename_i b zs
      refine⟨a,b,vs,zs,rfl,rfl,g.hh _ _ h2,R1.fh.seq sq,?_,?_⟩
      ·rw[h5.length,dq.length,laQ];omega
      ·exact oo _ _ F1 (R1.put hd h1 ((h5.mono g.ff).append dq)) g.ff
    ·exact oo.elim
   ·rename_i e1;cases e1
   ·exact oo.elim
  | ex n=>simp only[e] at oo;exact oo
  | no=>simp only[e] at oo;exact oo.elim
end
section
variable {X:Cx}{cl:Nat->Addr}
theorem zgv (hc:X.calm=true):ju X (.builtin "sum") (λxs H Q=>∃(a:Addr) (ns:List Int),xs=[.ref a]/\SqL X.K H a (ns.map V.int)/\Q (.int ns.sum) H):=by
 intro pins s σ H xs us Q I r h
 obtain⟨a,ns,rfl,ha,q⟩:=h
 obtain⟨u,rfl,ru⟩:=vals1 r
 cases ru
 obtain⟨its,rv,pl,hz⟩:=I.list ha
 have pl':=pl.isList
 have hlt:a<s.heap.objs.size:=by obtain⟨_,_,e,_⟩:=pl;exact ly e
 have hlen:=rv.length
 refine call_sum_walkG (lcu pl' ?_)
 refine⟨_,_,_,_,_,_,λi=>ns.getD i 0,rfl,Walks.list (show X.A.in1.handled=none from I.ok.hd hc) s.heap.objs.size a (lR hlt) its.toArray,⟨⟨_,lC _ rfl,rfl,rfl⟩,pl'.push _⟩,λb hb=>?_,λi v hv=>?_,λh' tk t' hk=>?_⟩
 ·show b<(s.heap.push _).objs.size
  rw[las]
  rcases lz.mp hb with rfl|hb
  ·exact ldk _
  ·have e:b=a:=by simpa using hb
   subst e;exact lb4 hlt
 ·have e:its[i]? = some v:=by simpa using hv
  have hi:i<(ns.map V.int).length:=by rw[hlen];exact(lx.mp e).1
  obtain⟨u,hu,ru⟩:=rv.get (i:=i) (x:=(ns.map V.int)[i]) (by simp at hi ⊢)
  rw[e] at hu
  cases hu
  have hi':i<ns.length:=by simpa using hi
  rw[ldm] at ru
  obtain⟨t,e2⟩:=ru
  refine⟨t,?_⟩
  show v=Value.int (ns.getD i 0) t
  rw[e2,lh,lb hi'];rfl
 ·have es:preSum (λi=>ns.getD i 0) its.toArray.size=ns.sum:=by
   have e1:its.toArray.size=ns.length:=by rw[lI,← hlen];simp
   rw[e1,zcU ns _ (lu _),ldo]
  refine⟨.int ns.sum,H,I.kept (h':=h') (t':=tk) λb o e=>hk b o (old_ne e) (lg _ e),⟨t',by rw[es]⟩,q⟩
def zlN:List D->Option D
 | [.lst ds]=>if ds.all isI=true then some (.int (ds.map unN).sum) else none
 | _=>none
theorem zmK {K:qQ0}:Fn1 K cl (λxs H Q=>∃(a:Addr) (ns:List Int),xs=[.ref a]/\SqL K H a (ns.map V.int)/\Q (.int ns.sum) H) zlN:=λF H vs ds d Q s q e k=>by
 match ds,q,e with
 | [.lst l],q,e =>
  obtain⟨v,rfl,q1⟩:=q.one
  dsimp only [zlN] at e
  split at e
  ·rename_i h
   obtain rfl:=lp e
   cases q1 with
   | lst sq dq =>
    rw[dq.ints h] at sq
    exact⟨_,_,rfl,s.seq sq,k _ _ _ (Gr.refl s) (.int _)⟩
  ·cases e
end
end L2
set_option maxHeartbeats 4000000
namespace Pg
open PySem L2 PyProof.Rows
def zda:Rho->Out :=
  (yI (zck (fA (ari 1 yc) (zj (fNm 0) zF)) (fA (ari 3 wF) (zj (fNm 1) (zj (fNm 0) (zj (fC (.int 32)) zF))))))
def yZ:List D->Rs D:=zX 2 zda
def qJ:Rho->Out :=
  (sIf (zb1 (bT (fA (ari 2 yZ) (zj (fNm 0) (zj (fNm 1) zF)))))
  (sRs 5 (zj (fC (.str [116,104,105,115,32,105,115,32,110,111,32,115,105,122,101,32,102,114,111,109,32,97,115,32,109,97,110,121,32,97,115,32,116,104,101,114,101,32,97,114,101,32,108,101,116,116,101,114,115,44,32,50,32,116,111,32,52,44,32,116,111,32,51,50])) zF))
  sNx)
def yF:List D->Rs D:=zX 2 qJ
def uZ:List D->Rs D:=zX 4
  (zO (ji 2)
  (zO (uw (vz 3 (fI lsD (fNm 1))
  (zbL 2 (fNm 3) (fA (ari 2 yO) (zj (fNm 0) (zj (fNm 3) zF))))))
  (zl1 2 (yI (fNm 2)))))
def u9:List D->Rs (List (List Nat×D)):=runK 4 2 (ji 2)
  (uw (vz 3 (fI tpD (fNm 1))
  (zbL 2 (fNm 3) (fA (ari 2 yO) (zj (fNm 0) (zj (fNm 3) zF))))))
def uH:Rho->Out :=
  (yI (f2 zc7 (f2 zd0 (fNm 1) (fC (.int 1))) (f2 zd0 (fNm 0) (fC (.int 1)))))
def xH:List D->Rs D:=zX 2 uH
def zaR:Rho->Out :=
  (zO (wY (fA (ari 1 yD) (zj (fNm 0) zF)))
  (zO (z6 2 (fO qN (zj (fNm 0) zF)))
  (zO (wY (fA (ari 2 yF) (zj (fNm 2) (zj (fNm 1) zF))))
  (zO (z6 3 (fA (ari 1 uz) (zj (fNm 2) zF)))
  (zO (zkx 4 2 u9 (zj (fNm 0) (zj (fNm 3) zF)))
  (zO (uw (vz 5 (fR znJ (zj (fC (.int 1)) (zj (fA (ari 2 xH) (zj (fNm 2) (zj (fNm 1) zF))) zF)))
  (zO (z6 6 (zo8 4 (fA (ari 2 yE) (zj (fNm 3) (zj (fNm 4) zF)))))
  (zO (z6 3 (fA (ari 3 jY) (zj (fNm 2) (zj (fNm 3) (zj (fNm 6) zF)))))
  (zpa 4 (fA (ari 2 uZ) (zj (fNm 0) (zj (fA (ari 2 yt) (zj (fNm 2) (zj (fO mkL (zj (fNm 6) zF)) zF))) zF))))))))
  (yI (fNm 3))))))))
def yC:List D->Rs D:=zX 7 zaR
def uJ:Rho->Out :=
  (yI (fA (ari 2 zec) (zj (fNm 0) (zj (fA (ari 2 yC) (zj (fNm 0) (zj (fNm 1) zF))) zF))))
def yd:List D->Rs D:=zX 2 uJ
def zdh:Rho->Out :=
  (zO (z6 2 (fA (ari 2 yO) (zj (fNm 0) (zj (fA (ari 2 wC) (zj (fNm 0) (zj (fNm 1) zF))) zF))))
  (yI (ze4 (fA (ari 2 yM) (zj (fA (ari 2 vV) (zj (fNm 0) (zj (fNm 1) zF))) (zj (fNm 2) zF))))))
def wL:List D->Rs D:=zX 3 zdh
def jV:Rho->Out :=
  (zO (zoR 2)
  (zO (uw (vz 3 (fI lsD (fNm 1))
  (vz 4 (fI tpD (fNm 3))
  (zlF 2 (fA (ari 3 jY) (zj (fNm 0) (zj (fNm 3) (zj (fNm 4) zF)))) (fC (.bl true))))))
  (yI (fLs (fST 2)))))
def za4:List D->Rs D:=zX 5 jV
def zaT:Rho->Out :=
  (zO (wY (fA (ari 2 yF) (zj (fNm 0) (zj (fNm 1) zF))))
  (zO (z6 2 (fO mkL (zj (fA (ari 1 uz) (zj (fNm 0) zF)) zF)))
  (zO (jq 3 (fL zo7 (zj (fNm 2) zF)))
  (zO (uw (vz 4 (fR znJ (zj (fC (.int 1)) (zj (fA (ari 2 xH) (zj (fNm 0) (zj (fNm 1) zF))) zF)))
  (zO (z6 2 (fA (ari 2 za4) (zj (fNm 0) (zj (fNm 2) zF))))
  (zrx 3 (fNm 2)))))
  (zfc 3 (yI (fNm 3)))))))
def yP:List D->Rs D:=zX 5 zaT
def uU:Rho->Out :=
  (zO (jq 2 (fL szL zF))
  (zO (uw (vz 3 (fR zfC (zj (fO qN (zj (fNm 0) zF)) zF))
  (zdD 2 (fO zlN (zj (vX (fR zfC (zj (f2 zaa (fNm 3) (fC (.int 1))) zF)) xU (f2 jP (f2 ixD (fNm 1) (fNm 0)) (f2 ixD (fNm 2) (f2 zd0 (fNm 3) (fNm 0)))) [0,1,3]) zF)))))
  (zfc 2 (yI (fNm 2)))))
def jl:List D->Rs D:=zX 4 uU
def zbP:Rho->Out :=
  (zO (wY (fA (ari 2 yF) (zj (fNm 0) (zj (fNm 1) zF))))
  (zO (z6 2 (fO mkL (zj (fC (.int 1)) zF)))
  (zO (uw (vz 3 (fR zfC (zj (fA (ari 2 xH) (zj (fNm 0) (zj (fNm 1) zF))) zF))
  (zO (z6 4 (fNm 2))
  (zO (vz 5 (fR znJ (zj (fC (.int 1)) (zj (fNm 0) zF)))
  (z6 4 (fA (ari 2 jl) (zj (fNm 4) (zj (fNm 2) zF)))))
  (z6 2 (fLs (fL2 zk3 (fO mkL (zj (fC (.int 1)) zF)) (fNm 4))))))))
  (yI (fO zlN (zj (fSl (fNm 2) (xN (fC (.int 1))) xQ) zF))))))
def wj:List D->Rs D:=zX 6 zbP
end Pg
set_option maxHeartbeats 1000000
namespace Pg
open PySem L2 My
variable {ws:List Int}{p:List Nat}{m t i s:Nat}{B C:qQ1}{f:qQ5}{ρ:Rho}{ds es:List (List Nat×D)}
theorem zc3 {α:Type}(p:α->Bool)(f:α->Int):∀l:List α,(l.map f).sum=((l.filter p).map f).sum+((l.filter λx=>!p x).map f).sum
 | []=>rfl
 | x::l=>by
  have:=zc3 p f l
  cases h:p x
  ·rw[lcX (by simp[h]),lcY (by simp[h])];simp only[lr,lao];omega
  ·rw[lcY (by simp[h]),lcX (by simp[h])];simp only[lr,lao];omega
theorem zdV {α:Type}{f:α->Int}{k:Int}:∀{l:List α},(∀x∈l,k<=f x)->l.length*k<=(l.map f).sum
 | [],_=>by simp
 | x::l,h=>by
  have:=zdV (l:=l) λy hy=>h y (.tail _ hy)
  have:=h x (.head _)
  rw[lr,lao,lM,leF,lda];simp;omega
theorem zmS {α:Type}{f:α->Int}{k:Int}:∀{l:List α},(∀x∈l,f x<=k)->(l.map f).sum<=l.length*k
 | [],_=>by simp
 | x::l,h=>by
  have:=zmS (l:=l) λy hy=>h y (.tail _ hy)
  have:=h x (.head _)
  rw[lr,lao,lM,leF,lda];simp;omega
theorem zjh {α:Type}(f:α->Int):∀(l:List α),l≠[]->∃x∈l,∀y∈l,f y<=f x
 | [],h=>absurd rfl h
 | [x],_=>⟨x,.head _,λy hy=>by rw[lK.mp hy];exact ldN _⟩
 | x :: z::l,_=>by
  obtain⟨a,ha,hm⟩:=zjh f (z::l) (by simp)
  by_cases c:f x<=f a
  ·exact ⟨a,.tail _ ha,λy hy=>by
    rcases lz.mp hy with rfl|hy
    ·exact c
    ·exact hm y hy⟩
  ·exact ⟨x,.head _,λy hy=>by
    rcases lz.mp hy with rfl|hy
    ·exact ldN _
    ·have:=hm y hy;omega⟩
theorem zsu (f:List Nat->Int){I J:qQ1}(nI:I.Nodup)(nJ:J.Nodup)(hl:I.length=J.length)(h:∀x∈J,∀p∈I,p∉J->f p<=f x):(I.map f).sum<=(J.map f).sum:=by
 rw[zc3 (λx=>decide (x∈J)) f I,zc3 (λx=>decide (x∈I)) f J]
 have pe:(I.filter λx=>decide (x∈J)).Perm (J.filter λx=>decide (x∈I)):=(lbQ (nI.filter _) (nJ.filter _)).mpr λx=>by simp[lbf,and_comm]
 rw[za2 (pe.map f)]
 have l1:=zbM (λx=>decide (x∈J)) I
 have l2:=zbM (λx=>decide (x∈I)) J
 have l3:=pe.length_eq
 have hl2:(I.filter λx=>!decide (x∈J)).length=(J.filter λx=>!decide (x∈I)).length:=by omega
 by_cases hz:(I.filter λx=>!decide (x∈J))=[]
 ·rw[hz] at hl2 ⊢
  rw[lbp.mp hl2.symm];exact ldN _
 ·obtain⟨a,ha,hm⟩:=zjh f _ hz
  have s1:=zmS (k:=f a) hm
  have ha':=lbf.mp ha
  have s2:((J.filter λx=>!decide (x∈I)).length:Int)*f a<=_:=zdV (f:=f) (k:=f a) λy hy=>h y (lbf.mp hy).1 a ha'.1 (by simpa using ha'.2)
  rw[hl2] at s1;omega
def Best (ws:List Int)(B:qQ1):Prop:=∀x,Inner B x->∀p∈B,wU ws p<=wU ws x
theorem ziR (h:yq ws){q:List Nat}(hp:LetOk ws.length p)(h31:p.length<=31)(e:q <+: p):wU ws p<=wU ws q:=by
 obtain⟨r,rfl⟩:=e
 have hq:LetOk ws.length q:=hp.pre ⟨r,rfl⟩
 have hr:LetOk ws.length r:=λc hc=>hp c (lap.mpr (.inr hc))
 have W:=uT h
 have u1:=za5 h hq
 have u2:=zr6 h hr
 rw[lU] at h31
 unfold wU
 rw[znb,lU,laS]
 refine laB ?_ (by omega)
 have e:31 - q.length=r.length+(31 - (q.length+r.length)):=by omega
 rw[e,ldH]
 exact lbc u2 (lab (lcq (by omega)))
theorem Book.cover (h:Book m B)(hp:LetOk m p)(hn:¬Inner B p):∃q∈B,q <+: p:=by
 obtain⟨q,hq,e|e⟩:=h.cv p hp
 ·exact⟨q,hq,e⟩
 ·by_cases z:p=q
  ·exact⟨q,hq,z▸lcd _⟩
  ·exact absurd ⟨q,hq,e,z⟩ hn
theorem Best.top (h:yq ws)(hb:Book ws.length B)(b:Best ws B):∀x∈zE B,∀p,LetOk ws.length p->p.length<=31->p∉zE B->wU ws p<=wU ws x:=λx hx p hp h31 hn=>by
 obtain⟨q,hq,e⟩:=Book.cover hb hp λz=>hn (innerKeys_mem.mpr z)
 exact Int.le_trans (ziR h hp h31 e) (b x (innerKeys_mem.mp hx) q hq)
theorem zeI (m2:2<=m)(m4:m<=4)(g:My.Gr m t B)(ht:t<=30){x:List Nat}(hx:x∈zE B):LetOk m x/\x.length<=31:=by
 obtain⟨q,hq,e,_⟩:=innerKeys_mem.mp hx
 exact⟨((g.book m2 m4).let_ q hq).pre e,by have:=g.short m2 m4 q hq;have:=e.length_le;omega⟩
section
variable {ws:List Int}(h:yq ws)
include h
theorem zg6 (ht:t<=30)(g:My.Gr ws.length t B)(k:My.Gr ws.length t C)(b:Best ws C):SG ws uV B<=SG ws uV C:=by
 rw[← zcj h g ht,← zcj h k ht]
 refine zsu (wU ws) (yp _) (yp _) (by rw[g.keysEq h.1 h.2.1,k.keysEq h.1 h.2.1]) λx hx p hp hn=>?_
 obtain⟨a1,a2⟩:=zeI h.1 h.2.1 g ht hp
 exact b.top h (k.book h.1 h.2.1) x hx p a1 a2 hn
theorem zoB (ht:t<=30)(g:My.Gr ws.length t B)(k:My.Gr ws.length t C)(b:Best ws B)(c:Best ws C):SG ws uV B=SG ws uV C :=
 Int.le_antisymm (zg6 h ht g k c) (zg6 h ht k g b)
theorem znK (ht:t<=30)(g:My.Gr ws.length t B)(k:My.Gr ws.length t C)(nb:¬Best ws B)(c:Best ws C):SG ws uV B<SG ws uV C:=by
 have hb:=g.book h.1 h.2.1
 have hk:=k.book h.1 h.2.1
 obtain ⟨x,hx,p,hp,lt⟩:∃x,Inner B x/\∃p∈B,wU ws x<wU ws p:=by
  refine lbV λz=>nb λx hx p hp=>?_
  exact Int.not_lt.mp λq=>z ⟨x,hx,p,hp,q⟩
 have hx':=innerKeys_mem.mpr hx
 have hpn:p∉zE B:=λz=>by
  obtain⟨q,hq,e1,e2⟩:=innerKeys_mem.mp z
  exact e2 (hb.pf p hp q hq e1)
 rw[← zcj h g ht,← zcj h k ht]
 have pe:=(List.perm_cons_erase hx').map (wU ws)
 have s1:=za2 pe
 rw[lr,lao] at s1
 have s2:=zsu (wU ws) (I:=p::(zE B).erase x) (J:=zE C) (lbx.mpr ⟨λz=>hpn (List.mem_of_mem_erase z),(yp B).erase x⟩) (yp _) (by
  have:=List.length_erase_of_mem hx'
  have:=g.keysEq h.1 h.2.1
  have:=k.keysEq h.1 h.2.1
  rw [lM];omega) λy hy q hq hn=>by
   have ok:LetOk ws.length q/\q.length<=31:=by
    rcases lz.mp hq with rfl|hq
    ·exact⟨hb.let_ q hp,by have:=g.short h.1 h.2.1 q hp;omega⟩
    ·exact zeI h.1 h.2.1 g ht (List.mem_of_mem_erase hq)
   exact c.top h hk y hy q ok.1 ok.2 hn
 rw[lr,lao] at s2
 omega
end
def gpB (ws:List Int)(B:qQ1):List Nat:=gpF ws B (B.getD 0 [])
def zP (ws:List Int):Nat->qQ1
 | 0=>kids ws.length []
 | k+1=>part ws.length (zP ws k) ((zP ws k).idxOf (gpB ws (zP ws k)))
theorem zeY (h:B≠[]):gpB ws B∈B:=by
 rcases(zd3 ws B (B.getD 0 [])).2.2 with e|e
 ·unfold gpB;rw[e];exact getD_mem (lbN.mpr h)
 ·exact e
theorem ziW (hp:p∈B):wU ws p<=wU ws (gpB ws B):=(zd3 ws B (B.getD 0 [])).2.1 p hp
theorem zco (ws:List Int)(h:yq ws){k:Nat}(g:My.Gr ws.length k (zP ws k)):zP ws k≠[]:=λz=>by
 have:=g.len h.1 h.2.1
 rw[z] at this
 have:=h.1
 simp at *
 omega
theorem wD {ws:List Int}(h:yq ws):∀k,My.Gr ws.length k (zP ws k)
 | 0=>.z
 | k+1=>.s (wD h k) (lan.mpr (zeY (zco ws h (wD h k))))
theorem zei (hp:p∈B):B.getD (B.idxOf p) []=p:=by
 rw[lh,lb (lan.mpr hp)]
 exact lbU (lan.mpr hp)
theorem zdP {ws:List Int}(h:yq ws):∀k,k<=30->Best ws (zP ws k)
 | 0,_=>λx hx p hp=>by
  have:=(zbu h.1 h.2.1 x).mp hx
  subst this
  have g:=wD h 0
  exact ziR h ((g.book h.1 h.2.1).let_ p hp) (by have:=g.short h.1 h.2.1 p hp;omega) lcr
 | k + 1,hk=>λx hx p hp=>by
  have g:=wD h k
  have hb:=g.book h.1 h.2.1
  have g1:=wD h (k+1)
  have gm:gpB ws (zP ws k)∈zP ws k:=zeY (zco ws h g)
  have hx2:=((hb.partAt gm).2 x).mp hx
  have hp2:=(part_mem hb.nd (lan.mpr gm)).mp hp
  rw[zei gm] at hp2
  have up:wU ws p<=wU ws (gpB ws (zP ws k)):=by
   rcases hp2 with z|z
   ·exact ziW z.1
   ·obtain⟨c,_,e⟩:=kids_mem.mp z
    exact ziR h ((g1.book h.1 h.2.1).let_ p hp) (by have:=g1.short h.1 h.2.1 p hp;omega) ⟨[c],e.symm⟩
  rcases hx2 with z|z
  ·exact Int.le_trans up (zdP h k (by omega) x z _ gm)
  ·rw[z];exact up
theorem zmN (m2:2<=m)(hl:m+t*(m - 1)<=32):t<=30:=by
 have:t*1<=t*(m - 1):=Nat.mul_le_mul_left t (by omega)
 omega
theorem zf8 (m2:2<=m)(m4:m<=4)(g:My.Gr m t B)(hl:m+t*(m - 1)<=32):Pcs m B:=by
 have hb:=g.book m2 m4
 have ln:=g.len m2 m4
 have ht:=zmN m2 hl
 refine⟨m2,m4,λz=>?_,by omega,λp hp=>⟨hb.let_ p hp,hb.ne p hp,by have:=g.short m2 m4 p hp;omega⟩⟩
 rw[z] at ln
 simp at ln
 omega
theorem zmE (ws:List Int)(L:qQ1)(p:List Nat):putD (shD ws L) p (frD (qF ws (wU ws p)))=shD ws (j9 L p):=by
 unfold putD j9
 by_cases c:p∈L
 ·have:((shD ws L).any λkv=>decide (kv.1=p))=true:=lbS.mpr ⟨_,laI.mpr ⟨p,c,rfl⟩,by simp⟩
  rw[lO this,lO c]
  refine(lbh λkv hkv=>?_).trans (lc7 _)
  obtain⟨x,hx,rfl⟩:=laI.mp hkv
  dsimp only
  split
  ·rename_i e;rw[e];rfl
  ·rfl
 ·have:((shD ws L).any λkv=>decide (kv.1=p))=false:=by
   rw[ld4]
   intro kv hkv z
   obtain⟨x,hx,rfl⟩:=laI.mp hkv
   exact c (laZ z▸hx)
  rw[this,lY (by decide),lY c]
  unfold shD
  rw[lau];rfl
theorem zhq {ws:List Int}(h:yq ws){d:D}:∀(K L:qQ1) (s:Sl),(∀p∈K,LetOk ws.length p/\p.length<=31)->L.length+K.length<=1000->∃s',forD 3 (zbL 2 (fNm 3) (fA (ari 2 yO) (zj (fNm 0) (zj (fNm 3) zF)))) (sT K) [.fz (.tup (sI ws)),.fz d,.od (shD ws L),s]=.nx [.fz (.tup (sI ws)),.fz d,.od (shD ws (K.foldl j9 L)),s']
 | [],L,s,_,_=>⟨s,rfl⟩
 | p::K,L,s,hK,hl=>by
  obtain⟨p1,p2⟩:=hK p (.head _)
  have hlen:=zhJ L p
  rw[lM] at hl
  obtain⟨s',e⟩:=zhq h (d:=d) K (j9 L p) (.fz (.str p)) (λq hq=>hK q (.tail _ hq)) (by omega)
  refine⟨s',(jA (ρ':=[.fz (.tup (sI ws)),.fz d,.od (shD ws (j9 L p)),.fz (.str p)]) ?_).trans e⟩
  have:=zg1 (i:=2) (ρ:=[.fz (.tup (sI ws)),.fz d,.od (shD ws L),.fz (.str p)]) (fk:=fNm 3) (fv:=fA (ari 2 yO) (zj (fNm 0) (zj (fNm 3) zF))) (v:=frD (qF ws (wU ws p))) (k:=p) rfl (((fA2 (a:=.tup (sI ws)) (b:=.str p) rfl rfl).trans (za6 h p1 (by omega))).trans (by rw[zdB h p2])) rfl (by unfold shD;rw[lD];omega)
  rw[zmE] at this
  exact this
theorem zrN (h:yq ws)(hB:∀p∈B,LetOk ws.length p/\p.length<=31)(hl:B.length<=100):u9 [.tup (sI ws),.tup (sT B)]=.ok (shD ws (B.foldl j9 [])):=by
 obtain⟨s',e⟩:=zhq h (d:=.tup (sT B)) B [] .no hB (by simp;omega)
 have k:zO (ji 2) (uw (vz 3 (fI tpD (fNm 1)) (zbL 2 (fNm 3) (fA (ari 2 yO) (zj (fNm 0) (zj (fNm 3) zF)))))) ([.tup (sI ws),.tup (sT B)].map .fz++List.replicate (4 - [D.tup (sI ws),D.tup (sT B)].length) .no)=.nx [.fz (.tup (sI ws)),.fz (.tup (sT B)),.od (shD ws (B.foldl j9 [])),s'] :=
  (zB (ρ':=[.fz (.tup (sI ws)),.fz (.tup (sT B)),.od [],.no]) rfl).trans (yL ((yS (ds:=sT B) rfl).trans e))
 unfold u9 runK
 rw[k];rfl
theorem zrJ (h:yq ws)(hB:∀p∈B,LetOk ws.length p/\p.length<=31)(hl:B.length<=100):uZ [.tup (sI ws),.lst (sT B)]=.ok (.dct (shD ws (B.foldl j9 []))):=by
 obtain⟨s',e⟩:=zhq h (d:=.lst (sT B)) B [] .no hB (by simp;omega)
 exact zR ((zB (ρ':=[.fz (.tup (sI ws)),.fz (.lst (sT B)),.od [],.no]) rfl).trans ((zB (yL ((yS (ds:=sT B) rfl).trans e))).trans rfl))
theorem zmW (ws:List Int):∀(K L:qQ1),zpT (shD ws L) (shD ws K)=shD ws (K.foldl j9 L)
 | [],L=>rfl
 | p::K,L=>by
  show zpT (putD (shD ws L) p (frD (qF ws (wU ws p)))) (shD ws K)=_
  rw[zmE]
  exact zmW ws K (j9 L p)
theorem zbE (h:yq ws){L:qQ1}(hl:∀p∈B,LetOk ws.length p/\p.length<=31)(h0:0<B.length)(hL:∀p∈B,p∈L):yE [.tup (sT B),.dct (shD ws L)]=.ok (.str (gpB ws B)):=by
 have E:=zhr h
 have w:(2:Int) ^ 280<2 ^ 400:=by decide +kernel
 have key:∀(K:qQ1) (f:List Nat) (s:Sl),(∀x∈K,x∈B)->f∈B->∃s1,forD 3 (sIf (bT (fA (ari 2 yM) (zj (f2 getD (fNm 1) (fNm 2)) (zj (f2 getD (fNm 1) (fNm 3)) zF)))) (z6 2 (fNm 3)) sNx) (sT K) [.fz (.tup (sT B)),.fz (.dct (shD ws L)),.fz (.str f),s]=.nx [.fz (.tup (sT B)),.fz (.dct (shD ws L)),.fz (.str (gpF ws K f)),s1]:=by
  intro K
  induction K with
  | nil=>intro f s _ _;exact⟨s,rfl⟩
  | cons x K ih =>
   intro f s hK hf
   have hx:=hK x (.head _)
   have x0:=za0 h (hl x hx).1
   have x1:=zd5 h (hl x hx).1 (hl x hx).2
   have f0:=za0 h (hl f hf).1
   have f1:=zd5 h (hl f hf).1 (hl f hf).2
   have e2:bT (fA (ari 2 yM) (zj (f2 getD (fNm 1) (fNm 2)) (zj (f2 getD (fNm 1) (fNm 3)) zF))) [.fz (.tup (sT B)),.fz (.dct (shD ws L)),.fz (.str f),.fz (.str x)]=.ok (decide (wU ws f<wU ws x)):=vy (((fA2 (a:=frD (qF ws (wU ws f))) (b:=frD (qF ws (wU ws x))) (yG (a:=.dct (shD ws L)) (b:=.str f) rfl rfl (zc1 (hL f hf))) (yG (a:=.dct (shD ws L)) (b:=.str x) rfl rfl (zc1 (hL x hx)))).trans (j7 (zcg h (by omega) (by omega)) (zcg h (by omega) (by omega)))).trans (by rw[zfr h]))
   by_cases c:wU ws f<wU ws x
   ·rw[lP c] at e2
    obtain⟨s1,k⟩:=ih x (.fz (.str x)) (λy hy=>hK y (.tail _ hy)) hx
    refine⟨s1,?_⟩
    have:gpF ws (x::K) f=gpF ws K x:=by show gpF ws K (if wU ws f<wU ws x then x else f)=_;rw[lO c]
    rw[this]
    exact(jA ((zdH e2).trans (zH (d:=.str x) rfl))).trans k
   ·rw[lS c] at e2
    obtain⟨s1,k⟩:=ih f (.fz (.str x)) (λy hy=>hK y (.tail _ hy)) hf
    refine⟨s1,?_⟩
    have:gpF ws (x::K) f=gpF ws K f:=by show gpF ws K (if wU ws f<wU ws x then x else f)=_;rw[lY c]
    rw[this]
    exact(jA ((zdI e2).trans rfl)).trans k
 obtain⟨s1,k⟩:=key B (B.getD 0 []) .no (λx hx=>hx) (getD_mem h0)
 refine zR ((zB (zH (d:=.str (B.getD 0 [])) (yG (a:=.tup (sT B)) (b:=.int 0) rfl rfl ?_))).trans ((zB (yL ((yS (ds:=sT B) rfl).trans k))).trans rfl))
 exact zop h0
theorem znl {d:D}(e:odL ρ i=some ds)(e1:f (ρ.set i (.fz (.dct ds)))=.ok d)(hf:d.fl=true):zo8 i f ρ=.ok d:=by
 unfold zo8
 rw[e]
 simp only[e1,hf,lby]
theorem zoi (e:odL ρ i=some ds)(e1:f ρ=.ok (.dct es))(hl:ds.length+es.length<=1000000):zpa i f ρ=.nx (ρ.set i (.od (zpT ds es))):=by
 unfold zpa
 rw[e,e1]
 exact lO hl
theorem zlM {n:Nat}{fn:List D->Rs (List (List Nat×D))}{fs:qQ4}{ds:List D}(e:fs ρ=.ok ds)(hl:ds.length=n)(e2:fn ds=.ok es):zkx i n fn fs ρ=.nx (ρ.set i (.od es)):=by
 unfold zkx
 rw[e]
 show(if ds.length=n then _ else _)=_
 rw[lO hl,e2]
theorem zeq :uz [.int m]=.ok (.tup (sT (kids m []))):=by
 have e0:=zal (m:=m) [[]] (by simp) (by simp)
 have e:jQ [.int m,.int 1]=.ok (.tup (sT (kids m []))):=by
  refine zR ((zB (ρ':=[.fz (.int m),.fz (.int 1),.fz (.lst (sT [[]])),.no]) (zH rfl)).trans ?_)
  refine(zB (ρ':=[.fz (.int m),.fz (.int 1),.fz (.lst (sT (kids m []))),.fz (.int 0)]) (yL ((yS (ds:=[.int 0]) (ziD (ds:=[.int ((1:Nat):Int)]) rfl (za7 (n:=1) (by decide)))).trans ?_))).trans (z9 rfl)
  refine(jA (ρ':=[.fz (.int m),.fz (.int 1),.fz (.lst (sT (kids m []))),.fz (.int 0)]) (zH (cA2 (a:=.int m) (b:=.lst (sT [[]])) rfl rfl (e0.trans (by rw[zdW]))))).trans rfl
 exact zR (z9 (cA2 (a:=.int m) (b:=.int 1) rfl rfl e))
theorem zc9 (m2:2<=m)(m4:m<=4)(h1:m<=s)(h2:s<=32):yF [.int m,.int s]=.ok .non:=by
 have e1:yZ [.int m,.int s]=.ok (.bl true):=zR (z9 (zpJ (cA1 (a:=.int m) rfl ((zbQ m).trans (by rw[lP (by omega),lP (by omega)];rfl))) (cA3 (a:=.int s) (b:=.int m) (c:=.int 32) rfl rfl rfl ((qH s m 32).trans (by rw[lP (by omega),lP (by omega)];rfl)))))
 exact zcJ ((zdI (jy (b:=true) (vy (cA2 (a:=.int m) (b:=.int s) rfl rfl e1)))).trans rfl)
theorem zlw (m2:2<=m)(h1:m<=s)(hs:m<=4):xH [.int m,.int s]=.ok (.int (((s - 1) / (m - 1):Nat):Int)):=by
 refine zR (z9 ((ux (i:=(s:Int) - 1) (j:=(m:Int) - 1) (zeM (i:=s) (j:=1) rfl rfl) (zeM (i:=m) (j:=1) rfl rfl) (by omega) (qL (by omega))).trans ?_))
 rw[Int.natCast_ediv]
 have a:((s - 1:Nat):Int)=(s:Int) - 1:=by omega
 have b:((m - 1:Nat):Int)=(m:Int) - 1:=by omega
 rw[a,b]
theorem zmr {n:Nat}(h:n<=1000):znJ [.int 1,.int ((n+1:Nat):Int)]=some ((List.range n).map λ(k:Nat)=>.int (1+(k:Int))):=by
 have h1:-(2 ^ 62)<=(1:Int)/\(1:Int)<2 ^ 62/\-(2 ^ 62)<=((n+1:Nat):Int)/\((n+1:Nat):Int)<2 ^ 62:=by omega
 dsimp only [znJ]
 rw[lO h1,show(((n+1:Nat):Int) - 1).toNat=n from by omega]
theorem zmT (e:f ρ=.ok (.tup (sI ws))):fO qN (zj f zF) ρ=.ok (.int (ws.length:Int)):=jB (zT e rfl) (by show some (D.int ((sI ws).length:Int))=_;unfold sI;rw[lD])
theorem zbZ (h:yq ws){k:Nat}(hs:ws.length<=s)(h32:s<=32)(hk:(s - 1) / (ws.length - 1)=k+1):yC [.tup (sI ws),.int s]=.ok (.tup (sT (zP ws k))):=by
 have m2:=h.1
 have m4:=h.2.1
 have hsz:ws.length+k*(ws.length - 1)<=32:=by
  have:=Nat.div_mul_le_self (s - 1) (ws.length - 1)
  rw[hk,ldJ] at this
  omega
 have hk30:=zmN m2 hsz
 have okB:∀j≤k,Pcs ws.length (zP ws j):=λj hj=>zf8 m2 m4 (wD h j) (by
  have:j*(ws.length - 1)<=k*(ws.length - 1):=Nat.mul_le_mul_right _ hj
  omega)
 have step:=wB (i:=5) (g:=zO (z6 6 (zo8 4 (fA (ari 2 yE) (zj (fNm 3) (zj (fNm 4) zF)))))
  (zO (z6 3 (fA (ari 3 jY) (zj (fNm 2) (zj (fNm 3) (zj (fNm 6) zF)))))
  (zpa 4 (fA (ari 2 uZ) (zj (fNm 0) (zj (fA (ari 2 yt) (zj (fNm 2) (zj (fO mkL (zj (fNm 6) zF)) zF))) zF)))))) (l:=List.range k) (enc:=λ(k:Nat)=>D.int (1+(k:Int)))
  (ρ:=[.fz (.tup (sI ws)),.fz (.int s),.fz (.int ws.length),.fz (.tup (sT (kids ws.length []))),.od (shD ws ((kids ws.length []).foldl j9 [])),.no,.no])
  (λj ρ=>∃L s5 s6,L.Nodup/\(∀p∈zP ws j,p∈L)/\L.length<=4+4*j/\ρ=[.fz (.tup (sI ws)),.fz (.int s),.fz (.int ws.length),.fz (.tup (sT (zP ws j))),.od (shD ws L),s5,s6])
  (by
   obtain⟨a1,a2⟩:=foldl_addK (kids ws.length []) [] lbK
   refine⟨_,.no,.no,a1,λp hp=>(a2 p).mpr (.inr hp),?_,rfl⟩
   have:=wk (kids ws.length []) []
   rw[kh _ m4] at this
   simp at this
   omega)
  (λj c ρ hc ⟨L,s5,s6,nd,hL,hl,e⟩=>by
   subst e
   have hj:j<k:=by have:=(lx.mp hc).1;simpa using this
   have g:=wD h j
   have g1:=wD h (j+1)
   have pc:=okB j (by omega)
   have pc1:=okB (j+1) (by omega)
   have hb:=g.book m2 m4
   have gm:gpB ws (zP ws j)∈zP ws j:=zeY (zco ws h g)
   have hlB:∀p∈zP ws j,LetOk ws.length p/\p.length<=31:=λp hp=>⟨(pc.2.2.2.2 p hp).1,(pc.2.2.2.2 p hp).2.2⟩
   have hkid:∀p∈kids ws.length (gpB ws (zP ws j)),p∈zP ws (j+1):=λp hp=>(part_mem hb.nd (lan.mpr gm)).mpr (.inr (by rw[zei gm];exact hp))
   have hlK:∀p∈kids ws.length (gpB ws (zP ws j)),LetOk ws.length p/\p.length<=31:=λp hp=>⟨(pc1.2.2.2.2 p (hkid p hp)).1,(pc1.2.2.2.2 p (hkid p hp)).2.2⟩
   have kl:=kh ws.length m4 (gpB ws (zP ws j))
   have e6:=zbE h hlB (lbN.mpr (zco ws h g)) hL
   have e3:=zkj pc hb gm
   have eg:=zal (m:=ws.length) [gpB ws (zP ws j)] (λx hx=>by rw[lK.mp hx];have:=(hlB _ gm).2;omega) (by simp)
   rw[zdW] at eg
   have el:=zrJ h hlK (by omega)
   obtain⟨b1,b2⟩:=foldl_addK (kids ws.length (gpB ws (zP ws j))) [] lbK
   obtain⟨c1,c2⟩:=foldl_addK ((kids ws.length (gpB ws (zP ws j))).foldl j9 []) L nd
   have l1:=wk (kids ws.length (gpB ws (zP ws j))) []
   have l2:=wk ((kids ws.length (gpB ws (zP ws j))).foldl j9 []) L
   simp only[lah] at l1
   refine ⟨_,(zB (ρ':=[.fz (.tup (sI ws)),.fz (.int s),.fz (.int ws.length),.fz (.tup (sT (zP ws j))),.od (shD ws L),.fz (.int (1+(c:Int))),.fz (.str (gpB ws (zP ws j)))]) (zH (d:=.str (gpB ws (zP ws j))) (znl (ds:=shD ws L) rfl (cA2 (a:=.tup (sT (zP ws j))) (b:=.dct (shD ws L)) rfl rfl e6) rfl))).trans
    ((zB (ρ':=[.fz (.tup (sI ws)),.fz (.int s),.fz (.int ws.length),.fz (.tup (sT (zP ws (j+1)))),.od (shD ws L),.fz (.int (1+(c:Int))),.fz (.str (gpB ws (zP ws j)))]) (zH (d:=.tup (sT (zP ws (j+1)))) (cA3 (a:=.int ws.length) (b:=.tup (sT (zP ws j))) (c:=.str (gpB ws (zP ws j))) rfl rfl rfl e3))).trans
    (zoi (ds:=shD ws L) (es:=shD ws ((kids ws.length (gpB ws (zP ws j))).foldl j9 [])) rfl (cA2 (a:=.tup (sI ws)) (b:=.lst (sT (kids ws.length (gpB ws (zP ws j))))) rfl (cA2 (a:=.int ws.length) (b:=.lst (sT [gpB ws (zP ws j)])) rfl rfl eg) el) (by unfold shD;rw[lD,lD];omega))),?_⟩
   rw[zmW]
   refine⟨_,_,_,c1,λp hp=>(c2 p).mpr ?_,by omega,rfl⟩
   rcases(part_mem hb.nd (lan.mpr gm)).mp hp with z|z
   ·exact .inl (hL p z.1)
   ·rw[zei gm] at z
    exact .inr ((b2 p).mpr (.inr z)))
 obtain⟨ρ',e,L,s5,s6,_,_,_,rfl⟩:=step
 rw[lbi] at e
 have pc0:=okB 0 (by omega)
 refine zR ((zB (vg (cA1 (a:=.tup (sI ws)) rfl (yX h)))).trans ((zB (zH (d:=.int ws.length) (zmT rfl))).trans ((zB (vg (cA2 (a:=.int ws.length) (b:=.int s) rfl rfl (zc9 m2 m4 hs h32)))).trans ((zB (zH (d:=.tup (sT (kids ws.length []))) (cA1 (a:=.int ws.length) rfl zeq))).trans ((zB (zlM (ds:=[.tup (sI ws),.tup (sT (kids ws.length []))]) (es:=shD ws ((kids ws.length []).foldl j9 [])) rfl rfl (zrN h (λp hp=>⟨(pc0.2.2.2.2 p hp).1,(pc0.2.2.2.2 p hp).2.2⟩) (by rw[kh _ m4];omega)))).trans ((zB (yL ((yS (ds:=(List.range k).map λ(k:Nat)=>.int (1+(k:Int))) (ziD (ds:=[.int 1,.int ((k+1:Nat):Int)]) ?_ (zmr (by omega)))).trans e))).trans (z9 rfl)))))))
 exact zT rfl (zT (cA2 (a:=.int ws.length) (b:=.int s) rfl rfl ((zlw m2 hs m4).trans (by rw[hk]))) rfl)
theorem znd {b:Bool}(e:f ρ=.ok (.bl b)):ze4 f ρ=.ok (.bl !b):=by unfold ze4;rw[e];rfl
section
variable {ws:List Int}(h:yq ws)
include h
theorem zot (g:My.Gr ws.length t B)(hl:ws.length+t*(ws.length - 1)<=32):zec [.tup (sI ws),.tup (sT B)]=.ok (frD (qF ws (SG ws uV B))):=zon h (zf8 h.1 h.2.1 g hl) (g.book h.1 h.2.1).isBook
theorem zlu (g:My.Gr ws.length t B)(hl:ws.length+t*(ws.length - 1)<=32):vV [.tup (sI ws),.tup (sT B)]=.ok (frD (qF ws (wH ws (sortF (zE B)) (ws.sum ^ 31)))):=zdF h (zf8 h.1 h.2.1 g hl) (g.book h.1 h.2.1) (by have:=g.keys h.1 h.2.1;have:=zmN h.1 hl;omega)
theorem ziv (g:My.Gr ws.length t B)(hl:ws.length+t*(ws.length - 1)<=32):wC [.tup (sI ws),.tup (sT B)]=.ok (.str (gpB ws B)):=zgY h (zf8 h.1 h.2.1 g hl) (g.book h.1 h.2.1)
theorem znE (g:My.Gr ws.length t B)(hl:ws.length+t*(ws.length - 1)<=32):gpB ws B∈B/\LetOk ws.length (gpB ws B)/\(gpB ws B).length<=31:=by
 have p:=zf8 h.1 h.2.1 g hl
 have m:=zeY (ws:=ws) p.2.2.1
 exact⟨m,(p.2.2.2.2 _ m).1,(p.2.2.2.2 _ m).2.2⟩
theorem zlU (g:My.Gr ws.length t B)(hl:ws.length+t*(ws.length - 1)<=32):yO [.tup (sI ws),.str (gpB ws B)]=.ok (frD (qF ws (wU ws (gpB ws B)))):=by
 obtain⟨_,a,b⟩:=znE h g hl
 rw[za6 h a (by omega),zdB h b]
theorem zj6 (g:My.Gr ws.length t B)(hl:ws.length+t*(ws.length - 1)<=32):(¬wH ws (sortF (zE B)) (ws.sum ^ 31)<wU ws (gpB ws B))↔Best ws B:=by
 obtain⟨a,b,c⟩:=zaO ws (sortF (zE B)) (ws.sum ^ 31)
 obtain⟨m,q1,q2⟩:=znE h g hl
 constructor
 ·intro z x hx p hp
  have:=b x (sortF_mem.mpr (innerKeys_mem.mpr hx))
  have:=ziW (ws:=ws) hp
  omega
 ·intro z
  have:=zd5 h q1 q2
  rcases c with c|⟨x,hx,c⟩
  ·omega
  ·have:=z x (innerKeys_mem.mp (sortF_mem.mp hx)) _ m
   omega
theorem zjG (g:My.Gr ws.length t B)(hl:ws.length+t*(ws.length - 1)<=32):Fra 450 (qF ws (wH ws (sortF (zE B)) (ws.sum ^ 31)))/\Fra 450 (qF ws (wU ws (gpB ws B))):=by
 obtain⟨a,b,c⟩:=zaO ws (sortF (zE B)) (ws.sum ^ 31)
 obtain⟨m,q1,q2⟩:=znE h g hl
 have W:=jH h
 have E:=zhr h
 have w:(2:Int) ^ 280<2 ^ 400:=by decide +kernel
 have u1:=zd5 h q1 q2
 have u0:=za0 h q1
 refine⟨zcg h ?_ (by omega),zcg h (by omega) (by omega)⟩
 rcases c with c|⟨x,hx,c⟩
 ·omega
 ·obtain⟨i1,i2⟩:=zeI h.1 h.2.1 g (zmN h.1 hl) (sortF_mem.mp hx)
  have:=za0 h i1
  omega
theorem zo0 (g:My.Gr ws.length t B)(hl:ws.length+t*(ws.length - 1)<=32):∃b:Bool,yM [frD (qF ws (wH ws (sortF (zE B)) (ws.sum ^ 31))),frD (qF ws (wU ws (gpB ws B)))]=.ok (.bl b)/\(b=false↔Best ws B):=by
 obtain⟨f1,f2⟩:=zjG h g hl
 refine⟨decide (wH ws (sortF (zE B)) (ws.sum ^ 31)<wU ws (gpB ws B)),(j7 f1 f2).trans (by rw[zfr h]),?_⟩
 rw[lcU]
 exact zj6 h g hl
theorem ziH (g:My.Gr ws.length t B)(hl:ws.length+t*(ws.length - 1)<=32):∃b:Bool,wL [.tup (sI ws),.tup (sT B)]=.ok (.bl b)/\(b=true↔Best ws B):=by
 obtain⟨b,e,k⟩:=zo0 h g hl
 refine⟨!b,zR ((zB (zH (d:=frD (qF ws (wU ws (gpB ws B)))) (cA2 (a:=.tup (sI ws)) (b:=.str (gpB ws B)) rfl (cA2 (a:=.tup (sI ws)) (b:=.tup (sT B)) rfl rfl (ziv h g hl)) (zlU h g hl)))).trans (z9 (znd (cA2 (a:=frD (qF ws (wH ws (sortF (zE B)) (ws.sum ^ 31)))) (b:=frD (qF ws (wU ws (gpB ws B)))) (cA2 (a:=.tup (sI ws)) (b:=.tup (sT B)) rfl rfl (zlu h g hl)) rfl e)))),?_⟩
 rw[← k]
 cases b <;>simp
theorem zjB {k:Nat}(hs:ws.length<=s)(h32:s<=32)(hk:(s - 1) / (ws.length - 1)=k+1):ws.length+k*(ws.length - 1)<=32/\ws.length+k*(ws.length - 1)<=s/\s+2<=ws.length+k*(ws.length - 1)+ws.length:=by
 have m2:=h.1
 have a:=Nat.div_mul_le_self (s - 1) (ws.length - 1)
 have b:=Nat.lt_div_mul_add (a:=s - 1) (b:=ws.length - 1) (by omega)
 rw[hk,ldJ] at a b
 omega
theorem zcb {k:Nat}(hs:ws.length<=s)(h32:s<=32)(hk:(s - 1) / (ws.length - 1)=k+1):yd [.tup (sI ws),.int s]=.ok (frD (qF ws (SG ws uV (zP ws k)))) :=
 zR (z9 (cA2 (a:=.tup (sI ws)) (b:=.tup (sT (zP ws k))) rfl (cA2 (a:=.tup (sI ws)) (b:=.int s) rfl rfl (zbZ h hs h32 hk)) (zot h (wD h k) (zjB h hs h32 hk).1)))
end
def zsy:D->qQ1
 | .tup ds=>ds.map unS
 | _=>[]
def zsM:Rs D->List (qQ1)
 | .ok (.lst ds)=>ds.map zsy
 | _=>[]
def AB (m s:Nat):List (qQ1):=zsM (yP [.int m,.int s])
def encL (L:List (qQ1)):D:=.lst (L.map λB=>.tup (sT B))
def Comb (m s:Nat):Prop:=(m=2/\2<=s/\s<=5)∨(m=3/\3<=s/\s<=7)∨(m=4/\4<=s/\s<=7)
theorem Comb.cases {P:Nat->Nat->Prop}(h:Comb m s)(a1:P 2 2)(a2:P 2 3)(a3:P 2 4)(a4:P 2 5)(b1:P 3 3)(b2:P 3 4)(b3:P 3 5)(b4:P 3 6)(b5:P 3 7)(c1:P 4 4)(c2:P 4 5)(c3:P 4 6)(c4:P 4 7):P m s:=by
 rcases h with⟨rfl,h1,h2⟩|⟨rfl,h1,h2⟩|⟨rfl,h1,h2⟩
 ·have:s=2∨s=3∨s=4∨s=5:=by omega
  rcases this with rfl|rfl|rfl|rfl <;>assumption
 ·have:s=3∨s=4∨s=5∨s=6∨s=7:=by omega
  rcases this with rfl|rfl|rfl|rfl|rfl <;>assumption
 ·have:s=4∨s=5∨s=6∨s=7:=by omega
  rcases this with rfl|rfl|rfl|rfl <;>assumption
theorem zri (h:Comb m s):yP [.int m,.int s]=.ok (encL (AB m s)):= by
 refine h.cases (P:=λm s=>yP [.int m,.int s]=.ok (encL (AB m s))) ?_ ?_ ?_ ?_ ?_ ?_ ?_ ?_ ?_ ?_ ?_ ?_ ?_ <;>kernel_rfl
theorem zrT (h:Comb m s):wj [.int m,.int s]=.ok (.int ((AB m s).length:Int)):=by
 refine h.cases (P:=λm s=>wj [.int m,.int s]=.ok (.int ((AB m s).length:Int))) ?_ ?_ ?_ ?_ ?_ ?_ ?_ ?_ ?_ ?_ ?_ ?_ ?_ <;>kernel_rfl
def zqt (m s:Nat):Bool:=(AB m s).all (λB=>isBook m B&&decide (B.length<=s)&&decide (0<B.length)&&B.all (λp=>decide (p.length<=5)&&decide (0<p.length)&&p.all λc=>decide (97<=c)&&decide (c<97+m)))&&decide ((AB m s).head? = some (kids m []))&&decide ((AB m s).length<=30)
theorem zog (h:Comb m s):zqt m s=true:=by
 refine h.cases (P:=λm s=>zqt m s=true) ?_ ?_ ?_ ?_ ?_ ?_ ?_ ?_ ?_ ?_ ?_ ?_ ?_ <;>kernel_rfl
theorem Comb.m2 (h:Comb m s):2<=m/\m<=4/\m<=s/\s<=7:=by unfold Comb at h;omega
theorem zoJ (h:Comb m s):∃L,AB m s=kids m []::L:=by
 have:=zog h
 unfold zqt at this
 simp only[lG,lae] at this
 have e:=this.1.2
 cases q:AB m s with
 | nil=>rw[q] at e;cases e
 | cons B L=>rw[q] at e;exact⟨L,by rw[lp e]⟩
theorem zpL (h:Comb m s):(AB m s).length<=30:=by
 have:=zog h
 unfold zqt at this
 simp only[lG,lae] at this
 exact this.2
theorem zmV (h:Comb m s)(hB:B∈AB m s):Pcs m B/\isBook m B=true/\B.length<=s/\∀p∈B,LetOk m p/\p.length<=5:=by
 have:=zog h
 unfold zqt at this
 simp only[lG,lae] at this
 have q:=lag.mp this.1.1 B hB
 simp only[lG,lae,lag] at q
 obtain⟨⟨⟨q1,q2⟩,q3⟩,q4⟩:=q
 obtain⟨m2,m4,h1,h2⟩:=h.m2
 have ps:∀p∈B,LetOk m p/\p.length<=5:=λp hp=>⟨λc hc=>(q4 p hp).2 c hc,(q4 p hp).1.1⟩
 exact⟨⟨m2,m4,λz=>(by rw[z] at q3;simp at q3),by omega,λp hp=>⟨(ps p hp).1,λz=>(by have:=(q4 p hp).1.2;rw[z] at this;simp at this),by have:=(ps p hp).2;omega⟩⟩,q1,q2,ps⟩
theorem zr1 (h:Comb m s)(hB:B∈AB m s):∃t,My.Gr m t B/\B.length=m+t*(m - 1):=by
 obtain⟨p,b,_⟩:=zmV h hB
 obtain⟨t,g,_,e⟩:=(zgT p b).grAt
 exact⟨t,g,e⟩
def zo6 (x:List Nat):qQ1->qQ1
 | []=>[x]
 | y::ys=>if zkG y x then y::zo6 x ys else x::y::ys
def zjw (ls:qQ1):qQ1:=ls.foldr zo6 []
theorem zc0 (x:List Nat):∀ys:qQ1,(zo6 x ys).Perm (x::ys)
 | []=>lbw _
 | y::ys=>by
  unfold zo6
  split
  ·exact((zc0 x ys).cons y).trans (List.Perm.swap x y ys)
  ·exact lbw _
theorem zhF {x:List Nat}:∀{ys:qQ1},ys.Pairwise (·<=·)->(zo6 x ys).Pairwise (·<=·)
 | [],_=>lcW _ _
 | y::ys,h=>by
  obtain⟨h1,h2⟩:=laF.mp h
  unfold zo6
  by_cases e:zkG y x=true
  ·rw[lO e]
   refine laF.mpr ⟨λz hz=>?_,zhF h2⟩
   rcases lz.mp ((zc0 x ys).mem_iff.mp hz) with rfl|hz
   ·exact ldz (nlLt_iff.mp e)
   ·exact h1 z hz
  ·rw[lY e]
   have hxy:x<=y:=la7.mp λz=>e (nlLt_iff.mpr z)
   refine laF.mpr ⟨λz hz=>?_,h⟩
   rcases lz.mp hz with rfl|hz
   ·exact hxy
   ·exact leW hxy (h1 z hz)
theorem zeU:∀ls:qQ1,(zjw ls).Perm ls/\(zjw ls).Pairwise (·<=·)
 | []=>⟨lbw _,List.Pairwise.nil⟩
 | x::ls=>by
  obtain⟨p,q⟩:=zeU ls
  exact⟨(zc0 x _).trans (p.cons x),zhF q⟩
def zpc:List D->Option (List D)
 | [.lst ds]=>if ds.all isS=true/\ds.length<64 then some ((zjw (ds.map unS)).map .str) else none
 | [.tup ds]=>if ds.all isS=true/\ds.length<64 then some ((zjw (ds.map unS)).map .str) else none
 | _=>none
theorem zl7:zgN=zpc:=by
 have e:∀ls:qQ1,sortF ls=zjw ls:=λls=>(sortF_eq (zeU ls).2 (zeU ls).1).symm
 funext ds
 match ds with
 | []=>rfl
 | [.lst l]=>show zem l=_;unfold zem;rw[e];rfl
 | [.tup l]=>show zem l=_;unfold zem;rw[e];rfl
 | [.non]=>rfl
 | [.bl _]=>rfl
 | [.int _]=>rfl
 | [.str _]=>rfl
 | [.dct _]=>rfl
 | [.exc _]=>rfl
 | a::_::_=>cases a <;>rfl
end Pg
set_option maxHeartbeats 4000000
namespace K30
open PySem L2 PyProof.Rows
open My
open Pg
abbrev zpH:=fC (.str [97,98,99,100])
abbrev hq4:=f2 zoh (f2 ixD (fNm 1) (fNm 2)) (f2 ixD zpH (fNm 0))
abbrev zqO:=f2 ixD (fNm 3) (fC (.int 0))
def qU:Rho->Out :=
  (zO (z6 2 (fO mkL zF))
  (zO (z6 3 (fO mkL (zj (fO zny (zj (vX (fR zfC (zj (fNm 0) zF)) xU (f2 ixD zpH (fNm 0)) []) zF)) zF)))
  (zO (uw (sWh 12 (bT (f2 leI (fO qN (zj zqO zF)) (fNm 1)))
  (zO (z6 2 (fLs (fL2 zk3 (fNm 2) (fNm 3))))
  (zO (zoR 4)
  (zO (vz 5 (fI lsD (fNm 3))
  (vz 6 (fR zfC (zj (fO qN (zj (fNm 5) zF)) zF))
  (zO (wK 7 (fCp (fR zfC (zj (fNm 0) zF)) xU hq4 [5,6]))
  (zO (z6 8 (fLs (fL zgN (zj (fLs (fL2 zk3 (fLs (fL2 zk3 (fLs (fL zo7 (zj (fSl (fNm 5) xQ (xN (fNm 6))) zF))) (fNm 7))) (fLs (fL zo7 (zj (fSl (fNm 5) (xN (f2 zaa (fNm 6) (fC (.int 1)))) xQ) zF))))) zF))))
  (zlF 4 (fO zny (zj (fNm 8) zF)) (fC (.bl true)))))))
  (z6 3 (fLs (fST 4))))))))
  (yI (fNm 2)))))
def zaH:List D->Rs D:=zX 9 qU
abbrev hq1:=zqU 2 3 (zj (fNm 3) (zj (f2 zfR (fNm 2) (fNm 3)) zF))
abbrev hq8:=f2 gtI (fNm 3) (fC (.int 0))
def kZ:Rho->Out :=
  (zO (z6 2 (fNm 0))
  (zO (z6 3 (fNm 1))
  (zO (uw (sWh 4000 (bT hq8)
  hq1))
  (yI (fO mkT (zj (f2 zc7 (fNm 0) (fNm 2)) (zj (f2 zc7 (fNm 1) (fNm 2)) zF)))))))
def vR:List D->Rs D:=zX 4 kZ
abbrev zo9:=f2 ixD (fNm 3) (fC (.int 1))
abbrev zqZ:=z6 1 (f2 zaa (f2 jP (fNm 1) zo9) (f2 jP zqO (fNm 2)))
abbrev zqF:=zj (fNm 1) (zj (fNm 2) zF)
def zbJ:Rho->Out :=
  (zO (z6 1 (fC (.int 0)))
  (zO (z6 2 (fC (.int 1)))
  (zO (uw (vz 3 (fI lsD (fNm 0))
  (zO zqZ
  (z6 2 (f2 jP (fNm 2) zo9)))))
  (yI (fA (ari 2 vR) zqF)))))
def zaG:List D->Rs D:=zX 4 zbJ
abbrev zpM:=fR zfC (zj (fNm 1) zF)
def jN:Rho->Out :=
  (zO (z6 2 (fC (.int 1)))
  (zO (uw (vz 3 zpM
  (z6 2 (f2 jP (fNm 2) (fNm 0)))))
  (yI (fNm 2))))
def je:List D->Rs D:=zX 4 jN
abbrev zqz:=fM isS zlY zpH (fNm 3)
def jU:Rho->Out :=
  (zO (z6 2 (fC (.int 1)))
  (zO (uw (vz 3 (fI sgD (fNm 1))
  (z6 2 (f2 jP (fNm 2) (f2 ixD (fNm 0) zqz)))))
  (yI (fA (ari 2 vR) (zj (fNm 2) (zj (fA (ari 2 je) (zj (fO zqp (zj (fNm 0) zF)) (zj (fO qN (zj (fNm 1) zF)) zF))) zF))))))
def jj:List D->Rs D:=zX 4 jU
abbrev hq5:=zj (f2 jP (fNm 1) (fO qN (zj (fNm 0) zF))) (zj (fNm 2) zF)
abbrev zp3:=fA (ari 2 jj) (zj (fNm 1) (zj (fNm 0) zF))
def zaC:Rho->Out :=
  (zO (wK 2 (fCp (fI tpD (fNm 1)) xU zp3 [0]))
  (yI (fA (ari 1 zaG) (zj (fLs (fCn (fNm 1) (fNm 2) xU (fO mkT hq5) [])) zF))))
def qp:List D->Rs D:=zX 3 zaC
abbrev hq6:=bT (f2 gtI (f2 jP zqO (f2 ixD (f2 ixD (fNm 0) (fNm 1)) (fC (.int 1)))) (f2 jP (f2 ixD (f2 ixD (fNm 0) (fNm 1)) (fC (.int 0))) zo9))
def uP:Rho->Out :=
  (zO (z6 1 (fC (.int 0)))
  (zO (uw (zjZ 2 3 (fNm 0)
  (sIf hq6
  (z6 1 (fNm 2))
  sNx)))
  (yI (fNm 1))))
def uo:List D->Rs D:=zX 4 uP
abbrev zoS:=fC (.str [114,101,102,117,115,101,100])
abbrev zpF:=f1 (zoO [(0,false),(1,false),(5,false)]) (fNm 0)
def qD:Rho->Out :=
  (zO (z6 1 (fO mkL (zj (f1 (zoO [(0,true),(1,false),(5,false)]) (fNm 0)) (zj (f1 (zoO [(0,false),(1,true),(5,false)]) (fNm 0)) (zj zpF zF)))))
  (zO (z6 1 (fLs (fL2 zk3 (fNm 1) (fO mkL (zj zpF (zj zpF (zj (f1 (zoO [(0,false),(1,false),(5,true)]) (fNm 0)) zF)))))))
  (zO (sIf (bOr (bT (f2 (eqD true) (fM zrd znC (fNm 1) (fC (.bl true))) (fC (.int 1)))) (zb1 (bT (f1 (zoO [(0,true),(1,true),(5,true)]) (fNm 0)))))
  (yI (fO mkT (zj zoS (zj (f1 zsk (fC (.int 1))) zF))))
  sNx)
  (yI (fO mkT (zj zoS (zj (fM zrd zor (fNm 1) (fC (.bl true))) zF)))))))
def jO:List D->Rs D:=zX 2 qD
def zaF:Rho->Out :=
  (zps 3 [0,1,5] (fCL 2 [yC,yd,yP,wj,wL] (fNm 0) zqF) (fA (ari 1 jO) (zj (fNm 3) zF)))
def zQ:List D->Rs D:=zX 4 zaF
abbrev hq0:=fLs (fL2 zq0 (fO mkL (zj (fO mkT (zj zoS (zj (fC (.int 5)) zF))) zF)) (fC (.int 2)))
abbrev hq2:=bOr (bT (f2 gtI (f2 jP (f2 ixD (fNm 12) (fC (.int 0))) (f2 ixD (fNm 10) (fC (.int 1)))) (f2 jP (f2 ixD (fNm 10) (fC (.int 0))) (f2 ixD (fNm 12) (fC (.int 1)))))) (bT (f2 (eqD true) (fA (ari 3 zQ) (zj (fC (.int 4)) (zj (fNm 2) (zj (fNm 11) zF)))) (f2 (eqD false) (fNm 12) (fNm 10))))
abbrev hq3:=z6 5 (fO zny (zj (fLs (fL zgN (zj (fLs (fL2 zk3 (fLs (fL2 zk3 (fLs (fL zo7 (zj (fSl (fNm 5) xQ (xN (fNm 7))) zF))) (fNm 8))) (fLs (fL zo7 (zj (fSl (fNm 5) (xN (f2 zaa (fNm 7) (fC (.int 1)))) xQ) zF))))) zF))) zF))
abbrev zrb:=fI tpD (fO mkT (zj (fC (.int 2)) (zj (fC (.int 3)) zF)))
abbrev hq7:=vX zrb xU (fA (ari 3 zQ) (zj (fNm 0) (zj (fNm 1) (zj (fC (.int 5)) zF)))) [14]
abbrev hq9:=yI (fC (.bl false))
abbrev zpC:=zj (fC (.int 4)) zF
abbrev zq8:=fA (ari 3 yw) (zj (fNm 3) (zj (fC (.int 31)) zpC))
abbrev zq6:=fO mkL (zj (fNm 2) (zj (fC (.int 1)) (zj (fC (.int 5)) (zj (fC .non) zF))))
abbrev zrc:=f2 leI (f2 zd0 (f2 zaa (fO qN (zj (fNm 5) zF)) (fNm 1)) (fC (.int 1))) (fNm 3)
abbrev zq1:=z6 12 (fA (ari 2 qp) (zj (fNm 2) (zj (fNm 11) zF)))
abbrev zpp:=zj (fNm 2) (zj (fNm 13) zF)
abbrev zpf:=zj (fNm 1) (zj (fNm 3) zF)
abbrev zq9:=fA (ari 2 qp) (zj (fNm 2) (zj (fNm 5) zF))
abbrev zq7:=z6 7 (fA (ari 1 uo) (zj (fNm 6) zF))
def zn4:Rho->Out :=
  (zO (z6 1 (f2 zaa (fC (.int 2)) (fA (ari 3 yw) (zj (fNm 0) (zj (fC (.int 0)) (zj (fC (.int 3)) zF))))))
  (zO (z6 2 (fA (ari 3 qK) (zj (fNm 0) (zj (fC (.int 1)) (zj (fNm 1) zF)))))
  (zO (z6 3 (f2 zaa (fNm 1) (fA (ari 3 yw) (zj (fNm 0) (zj (fC (.int 9)) (zj (f2 ixD (fO mkL (zj (fC (.int 4)) (zj (fC (.int 5)) zpC))) (f2 zd0 (fNm 1) (fC (.int 2)))) zF))))))
  (zO (z6 4 (fA (ari 2 zaH) zpf))
  (zO (sIf (bOr (bT (f2 (eqD true) (fA (ari 3 zQ) (zj (fC (.int 2)) zpf)) (fNm 4))) (bT (f2 (eqD true) (fA (ari 3 zQ) (zj (fC (.int 3)) zpf)) (fO qN (zj (fNm 4) zF)))))
  hq9
  sNx)
  (zO (z6 5 (f2 ixD (fNm 4) (fC (.int 0))))
  (zO (uw (sWh 12 (bT zrc)
  (zO (wK 6 (fCp (fI tpD (fNm 5)) xU zp3 [2]))
  (zO zq7
  (zO (wK 8 (fCp zpM xU hq4 [5,7]))
  hq3)))))
  (zO (sIf (bOr (bT (f2 (eqD true) (fA (ari 3 zQ) (zj (fC (.int 0)) (zj (fNm 2) (zj (fNm 3) zF)))) (fNm 5))) (bT (f2 (eqD true) (fA (ari 3 zQ) (zj (fC (.int 1)) (zj (fNm 2) (zj (fNm 3) zF)))) zq9)))
  hq9
  sNx)
  (zO (wK 9 (fCp (fI lsD (fNm 4)) (bT (f2 (eqD false) (fO qN (zj (fNm 0) zF)) (fO qN (zj (fNm 1) zF)))) (fNm 0) [5]))
  (zO (z6 10 zq9)
  (zO (uw (vz 11 (fI lsD (fNm 9))
  (zO zq1
  (sIf hq2
  hq9
  sNx))))
  (zO (z6 13 (f2 ixD (fO mkL (zj (f2 zd0 (fNm 1) (fC (.int 1))) (zj (fC (.int 33)) (zj (fC (.bl true)) (zj (fC .non) (zj (fC (.str [51])) (zj (fC (.int 0)) zF))))))) (fA (ari 3 yw) (zj (fNm 0) (zj (fC (.int 30)) (zj (fC (.int 6)) zF))))))
  (zO (sIf (bT (f2 (eqD true) (fO mkL (zj (fA (ari 3 zQ) (zj (fC (.int 0)) zpp)) (zj (fA (ari 3 zQ) (zj (fC (.int 1)) zpp)) zF))) hq0))
  hq9
  sNx)
  (zO (sIf (bT (f2 (eqD true) (vX zrb xU (fA (ari 3 zQ) (zj (fNm 0) (zj (f2 ixD zq6 zq8) (zj (fNm 1) zF)))) [13,1,0]) hq0))
  hq9
  sNx)
  (zO (uw (vz 14 (fI tpD (fO mkT (zj (fC (.int 1)) (zj (fC (.int 5)) (zj (fC .non) (zj (fC (.bl true)) zF))))))
  (sIf (bT (f2 (eqD true) hq7 hq0))
  hq9
  sNx)))
  (zO (sIf (bT (f2 (eqD true) (fA (ari 3 zQ) (zj (fC (.int 4)) zpp)) (fO mkT (zj zoS (zj (fC (.int 1)) zF)))))
  hq9
  sNx)
  (yI (f2 (eqD false) (vX (fI tpD (fO mkT (zj (fC (.int 0)) (zj (fC (.int 1)) zpC)))) xU (fA (ari 3 zQ) (zj (fNm 0) (zj (fSl (fNm 2) xQ (xN (fC (.int 1)))) (zj (fNm 1) zF)))) [13,2]) (fLs (fL2 zq0 (fO mkL (zj (fO mkT (zj zoS (zj (fC (.int 0)) zF))) zF)) (fC (.int 3))))))))))))))))))))))
def zmH:List D->Rs D:=zX 15 zn4
end K30
namespace K30
open PySem L2 My Pg
variable {fn:List D->Rs D}{a b d:D}{r:Rs D}{i j n:Nat}{ρ:Rho}{f:qQ5}{L:qQ1}{ws:List Int}
def rf (j:Int):D:=.tup [.str [114,101,102,117,115,101,100],.int j]
def told (r:Rs D)(d:D):Prop:=r=.ok d∨(r=.ex 0/\d=rf 0)∨(r=.ex 1/\d=rf 1)∨(r=.ex 5/\d=rf 5)
theorem zji {k:Nat}(hk:[yC,yd,yP,wj,wL][k]? = some fn)(h:told (fn [a,b]) d):zQ [.int (k:Int),a,b]=.ok d:=by
 have k5:k<5:=(lx.mp hk).1
 have ef:fCL 2 [yC,yd,yP,wj,wL] (fNm 0) zqF [.fz (.int (k:Int)),.fz a,.fz b,.no]=fn [a,b]:=by
  have e0:fNm 0 [.fz (.int (k:Int)),.fz a,.fz b,.no]=.ok (.int (k:Int)):=rfl
  unfold fCL
  rw[e0]
  dsimp only
  rw[lO ⟨by omega,by show 5<=1000;decide⟩,laE,hk]
  rfl
 refine zR ?_
 show zps 3 [0,1,5] _ _ [.fz (.int (k:Int)),.fz a,.fz b,.no]=_
 unfold zps
 rw[lO (show([_,_,_,_]:Rho).all _=true from rfl),ef]
 rcases h with h|⟨h,rfl⟩|⟨h,rfl⟩|⟨h,rfl⟩
 ·rw[h]
 ·rw[h];rfl
 ·rw[h];rfl
 ·rw[h];rfl
theorem zoN (h:told (yC [a,b]) d):zQ [.int 0,a,b]=.ok d:=zji (k:=0) rfl h
theorem znI (h:told (yd [a,b]) d):zQ [.int 1,a,b]=.ok d:=zji (k:=1) rfl h
theorem zn0 (h:told (yP [a,b]) d):zQ [.int 2,a,b]=.ok d:=zji (k:=2) rfl h
theorem znp (h:told (wj [a,b]) d):zQ [.int 3,a,b]=.ok d:=zji (k:=3) rfl h
theorem zoj (h:told (wL [a,b]) d):zQ [.int 4,a,b]=.ok d:=zji (k:=4) rfl h
theorem tl (h:r=.ok d):told r d:=.inl h
theorem tl0 (h:r=.ex 0):told r (rf 0):=.inr (.inl ⟨h,rfl⟩)
theorem tl1 (h:r=.ex 1):told r (rf 1):=.inr (.inr (.inl ⟨h,rfl⟩))
theorem tl5 (h:r=.ex 5):told r (rf 5):=.inr (.inr (.inr ⟨h,rfl⟩))
theorem zki {fs:List Sl->Rs (List D)}{ρ:List Sl}(e:fs ρ=.ok [a,b]):zqU i j fs ρ=.nx ((ρ.set i (.fz a)).set j (.fz b)):=by
 unfold zqU
 rw[e]
abbrev g4 (u d a b:Int):List Sl:=[.fz (.int u),.fz (.int d),.fz (.int a),.fz (.int b)]
theorem zbR:∀(n:Nat) (u d a b:Int) (f:Nat),0<=b->b<=a->a*b<2 ^ n->n<f ->
  whD (bT hq8) hq1 f (g4 u d a b)=.nx (g4 u d (Int.gcd a b:Int) 0):=by
 intro n
 induction n with
 | zero =>
  intro u d a b f h0 h1 h2 h3
  cases f with
  | zero=>omega
  | succ f =>
  have hb:b=0:=by
   rcases Int.lt_or_eq_of_le h0 with h|h
   ·have:1*1<=a*b:=lbj (by omega) (by omega) (by decide) (by omega)
    omega
   ·exact h.symm
  subst hb
  have e:bT hq8 (g4 u d a 0)=.ok false:=rfl
  unfold whD
  rw[e]
  have:(Int.gcd a 0:Int)=a:=by rw[lcZ];omega
  rw[this]
 | succ n ih =>
  intro u d a b f h0 h1 h2 h3
  cases f with
  | zero=>omega
  | succ f =>
  by_cases hb:b=0
  ·subst hb
   have e:bT hq8 (g4 u d a 0)=.ok false:=rfl
   unfold whD
   rw[e]
   have:(Int.gcd a 0:Int)=a:=by rw[lcZ];omega
   rw[this]
  ·have bpos:0<b:=by omega
   have e:bT hq8 (g4 u d a b)=.ok true:=by
    show Rs.ok (decide ((0:Int)<b))=_
    rw[lP bpos]
   have r0:=lb7 a hb
   have r1:=lbB a bpos
   have es:hq1 (g4 u d a b)=.nx (g4 u d b (a % b)) :=
    zki (a:=.int b) (b:=.int (a % b)) (zT rfl (zT (qI rfl rfl bpos) rfl))
   have hr:b*(a % b)<2 ^ n:=by
    have d1:b*(a / b)+a % b=a:=Int.mul_ediv_add_emod a b
    have q1:1<=a / b:=Int.le_ediv_of_mul_le bpos (by omega)
    have q2:b*1<=b*(a / b):=laB q1 (by omega)
    have q3:2*(a % b)<=a:=by omega
    have q4:b*(2*(a % b))<=b*a:=laB q3 (by omega)
    have q5:b*(2*(a % b))=2*(b*(a % b)):=by rw[← laS,la2 b 2,laS]
    have q6:b*a=a*b:=la2 ..
    have q7:(2:Int) ^ (n+1)=2 ^ n*2:=lbr ..
    omega
   have k:=ih u d b (a % b) f r0 (by omega) hr (by omega)
   unfold whD
   rw[e]
   show(match hq1 (g4 u d a b) with | .nx ρ'=>_ | .ct ρ'=>_ | .bk ρ'=>_|o=>o)=_
   rw[es]
   have eg:Int.gcd b (a % b)=Int.gcd a b:=by
    obtain⟨x,rfl⟩:=lat (show 0<=a by omega)
    obtain⟨y,rfl⟩:=lat h0
    show Nat.gcd y (x % y)=Nat.gcd x y
    rw[leD y,leD x,← Nat.gcd_rec]
   rw[← eg]
   exact k
theorem zaZ {u d:Int}(hu:0<=u)(hd:0<d)(h1:u<2 ^ 1000)(h2:d<2 ^ 1000):vR [.int u,.int d]=.ok (frD (low u d)):=by
 obtain⟨g1,g2⟩:=zmJ (u:=u) hd h2
 have hp:u*d<2 ^ 2000:=zfs hu (by omega) h1 h2
 have key:whD (bT hq8) hq1 4000 (g4 u d u d)=.nx (g4 u d (Int.gcd u d:Int) 0):=by
  by_cases h:d<=u
  ·exact zbR 2000 u d u d 4000 (by omega) h hp (by decide)
  ·have k:=zbR 2000 u d d u 3999 hu (by omega) (by rw[la2];exact hp) (by decide)
   have e:bT hq8 (g4 u d u d)=.ok true:=by
    show Rs.ok (decide ((0:Int)<d))=_
    rw[lP hd]
   have em:u % d=u:=Int.emod_eq_of_lt hu (by omega)
   have es:hq1 (g4 u d u d)=.nx (g4 u d d u) :=
    zki (a:=.int d) (b:=.int u) (zT rfl (zT (by rw[qI (i:=u) (j:=d) rfl rfl hd,em]) rfl))
   show whD _ _ (3999+1) _=_
   unfold whD
   rw[e]
   show(match hq1 (g4 u d u d) with | .nx ρ'=>_ | .ct ρ'=>_ | .bk ρ'=>_|o=>o)=_
   rw[es]
   rw[lep]
   exact k
 refine zR ((zB (zH (d:=.int u) rfl)).trans ((zB (zH (d:=.int d) rfl)).trans ((zB (yL key)).trans (z9 (jB (zT (ux (i:=u) rfl rfl g1 g2) (zT (ux (i:=d) rfl rfl g1 g2) rfl)) rfl)))))
theorem zsj {b:Int}(h0:0<=b)(h1:b<=396){k:Nat}(hk:k<=8):0<=b ^ k/\b ^ k<2 ^ 80:=by
 have a1:b ^ k<=396 ^ k:=zfU h0 h1 k
 have a2:(396:Int) ^ k<=396 ^ 8:=vQ (by decide) hk
 have a3:(396:Int) ^ 8<2 ^ 80:=by decide +kernel
 exact⟨ldd h0,by omega⟩
theorem zf0 {b:Int}(h0:0<=b)(h1:b<=396)(hn:n<=8):je [.int b,.int n]=.ok (.int (b ^ n)):=by
 obtain ⟨ρ',e,s,rfl⟩:=wB (i:=3) (g:=z6 2 (f2 jP (fNm 2) (fNm 0))) (l:=List.range n) (enc:=λ(k:Nat)=>D.int (k:Int)) (ρ:=[.fz (.int b),.fz (.int n),.fz (.int 1),.no])
  (λk ρ=>∃s,ρ=[.fz (.int b),.fz (.int n),.fz (.int (b ^ k)),s]) ⟨.no,by rw[lew]⟩ (by
   rintro k x ρ hx ⟨s,rfl⟩
   obtain⟨hk,ex⟩:=lx.mp hx
   rw[lbi] at hk
   obtain⟨p1,p2⟩:=zsj h0 h1 (k:=k) (by omega)
   refine⟨_,zH (yK (i:=b ^ k) (j:=b) rfl rfl (qT p1 p2 (by decide)) (qT (B:=80) h0 (by omega) (by decide))),.fz (.int (x:Int)),?_⟩
   rw[← lbr];rfl)
 rw[lbi] at e
 refine zR ((zB (ρ':=[.fz (.int b),.fz (.int n),.fz (.int 1),.no]) (zH rfl)).trans ?_)
 exact(zB (yL ((yS (ziD (ds:=[.int (n:Int)]) rfl (za7 (n:=n) (by omega)))).trans e))).trans (z9 rfl)
section
variable {ws:List Int}{B:qQ1}
theorem zll:∀c<101,97<=c->c∈([97,98,99,100]:List Nat)/\([97,98,99,100]:List Nat).idxOf c=c - 97:=by decide +kernel
theorem zbY (h:yq ws){l:List Nat}(hl:LetOk ws.length l)(h8:l.length<=8):jj [.tup (sI ws),.str l]=.ok (frD (shr ws l)):=by
 have m4:=h.2.1
 have Wr:=uT h
 obtain ⟨ρ',e,s,rfl⟩:=wB (i:=3) (g:=z6 2 (f2 jP (fNm 2) (f2 ixD (fNm 0) zqz))) (l:=l) (enc:=λc=>D.str [c]) (ρ:=[.fz (.tup (sI ws)),.fz (.str l),.fz (.int 1),.no])
  (λk ρ=>∃s,ρ=[.fz (.tup (sI ws)),.fz (.str l),.fz (.int (up ws (l.take k))),s]) ⟨.no,by rw[lcf];rfl⟩ (by
   rintro k c ρ hc ⟨s,rfl⟩
   have hcl:c∈l:=lad hc
   have hr:=hl c hcl
   have e3:l.take (k+1)=l.take k++[c]:=by rw[lbb,hc];rfl
   have ht:LetOk ws.length (l.take k):=λd hd=>hl d (lbD hd)
   have tl:(l.take k).length<=8:=by rw[lW];omega
   have u1:=za5 h ht
   have u2:up ws (l.take k)<2 ^ 80:=by
    have a1:=zlr h ht
    have a2:(99:Int) ^ (l.take k).length<=99 ^ 8:=vQ (by decide) tl
    have a3:(99:Int) ^ 8<2 ^ 80:=by decide +kernel
    omega
   have w1:=zbe h hr
   obtain⟨i1,i2⟩:=zll c (by omega) hr.1
   have hj:c - 97<(sI ws).length:=by rw[zb3];omega
   have ew:f2 ixD (fNm 0) zqz [.fz (.tup (sI ws)),.fz (.str l),.fz (.int (up ws (l.take k))),.fz (.str [c])]=.ok (.int (wt ws c)):=by
    refine yG (a:=.tup (sI ws)) (b:=.int ((c - 97:Nat):Int)) rfl (zpO (a:=.str [97,98,99,100]) (b:=.str [c]) rfl rfl rfl ?_) ?_
    ·show(if ([97,98,99,100]:List Nat)=[97,98,99,100]/\c∈([97,98,99,100]:List Nat) then some (D.int ((([97,98,99,100]:List Nat).idxOf c:Nat):Int)) else none)=_
     rw[lO ⟨rfl,i1⟩,i2]
    ·show atI (sI ws) ((c - 97:Nat):Int)=_
     have hw:c - 97<ws.length:=by rw[zb3] at hj;exact hj
     have eg:(sI ws)[c - 97]=D.int ws[c - 97]:=by simp[sI]
     rw[zfe hj,eg]
     unfold wt
     rw[lh,lb hw]
     rfl
   refine⟨_,zH (yK (i:=up ws (l.take k)) (j:=wt ws c) rfl ew (qT (lab u1) u2 (by decide)) (qT (B:=80) (by omega) (by omega) (by decide))),.fz (.str [c]),?_⟩
   rw[e3,Pg.up_snoc];rfl)
 rw[lar (lu _)] at e
 obtain⟨p1,p2⟩:=zsj (b:=ws.sum) (by omega) Wr.2 h8
 have u1:=za5 h hl
 have u2:=zr6 h hl
 have d1:0<ws.sum ^ l.length:=zfu h l
 have big:(2:Int) ^ 80<2 ^ 1000:=by decide +kernel
 refine zR ((zB (ρ':=[.fz (.tup (sI ws)),.fz (.str l),.fz (.int 1),.no]) (zH rfl)).trans ?_)
 refine(zB (yL ((yS (ds:=l.map λc=>D.str [c]) rfl).trans e))).trans (z9 ?_)
 exact cA2 (a:=.int (up ws l)) (b:=.int (ws.sum ^ l.length)) rfl (cA2 (a:=.int ws.sum) (b:=.int (l.length:Int)) (jB (ds:=[.tup (sI ws)]) rfl zmG) (jB (ds:=[.str l]) rfl rfl) (zf0 (by omega) Wr.2 h8)) (zaZ (lab u1) d1 (by omega) (by omega))
def row (ws:List Int)(p:List Nat):Int×Int:=((shr ws p).1*(p.length:Int),(shr ws p).2)
theorem zkH (h:yq ws){p:List Nat}(hl:LetOk ws.length p)(h5:p.length<=5):0<=(row ws p).1/\(row ws p).1<2 ^ 49/\0<(row ws p).2/\(row ws p).2<2 ^ 49/\(row ws p).1*ws.sum ^ 31=(p.length:Int)*wU ws p*(row ws p).2:=by
 obtain⟨f1,f2',f3,f4⟩:=zgQ h hl h5
 have D8:=jH h
 have hx:(shr ws p).1*ws.sum ^ 31=wU ws p*(shr ws p).2:=by
  rw[zdB h (by omega:p.length<=31)]
  exact(zcx D8).symm
 refine⟨lch f1 (by omega),?_,f2',by show(shr ws p).2<_;omega,?_⟩
 ·show(shr ws p).1*(p.length:Int)<2 ^ 49
  have:(shr ws p).1*(p.length:Int)<=(shr ws p).1*5:=laB (by omega) f1
  omega
 ·show(shr ws p).1*(p.length:Int)*ws.sum ^ 31=(p.length:Int)*wU ws p*(shr ws p).2
  rw[la2 (shr ws p).1,laS,hx,laS]
theorem zgU (h:yq ws)(hB:∀p∈B,LetOk ws.length p/\p.length<=5)(hl:B.length<=18):zaG [.lst (B.map λp=>frD (row ws p))]=.ok (frD (qF ws (SG ws uV B))):=by
 have D8:=jH h
 obtain ⟨ρ',e,U,Dn,s,rfl,u0,u1,d0,d1,hx⟩:=wB (i:=3) (g:=zO zqZ (z6 2 (f2 jP (fNm 2) zo9))) (l:=B) (enc:=λp=>frD (row ws p)) (ρ:=[.fz (.lst (B.map λp=>frD (row ws p))),.fz (.int 0),.fz (.int 1),.no])
  (λk ρ=>∃U Dn s,ρ=[.fz (.lst (B.map λp=>frD (row ws p))),.fz (.int U),.fz (.int Dn),s]/\0<=U/\U<2 ^ (50*k)/\0<Dn/\Dn<=2 ^ (50*k)/\U*ws.sum ^ 31=SG ws uV (B.take k)*Dn) ⟨0,1,.no,rfl,by decide,by decide,by decide,by decide,by rw[lcf];show 0*_=0*(1:Int);rw[Int.zero_mul,Int.zero_mul]⟩ (by
   rintro k p ρ hk ⟨U,Dn,s,rfl,u0,u1,d0,d1,hx⟩
   have hpB:p∈B:=lad hk
   have kl:=(lx.mp hk).1
   have e3:B.take (k+1)=B.take k++[p]:=by rw[lbb,hk];rfl
   obtain⟨r0,r1,r2,r3,r4⟩:=zkH h (hB p hpB).1 (hB p hpB).2
   have k900:(2:Int) ^ (50*k)<=2 ^ 900:=vQ (by decide) (by omega)
   have big:(2:Int) ^ 49<=2 ^ 900:=by decide +kernel
   have sU:Sm U:=qT (B:=900) u0 (by omega) (by decide)
   have sD:Sm Dn:=qT (B:=901) (lab d0) (by have:(2:Int) ^ 901=2 ^ 900*2:=lbr ..;omega) (by decide)
   have s1:Sm (row ws p).1:=qT (B:=49) r0 r1 (by decide)
   have s2:Sm (row ws p).2:=qT (B:=49) (lab r2) r3 (by decide)
   refine⟨_,(zB (zH (vI (yK (i:=U) (j:=(row ws p).2) rfl (fr1 (x:=row ws p) rfl) sU s2) (yK (i:=(row ws p).1) (j:=Dn) (fr0 (x:=row ws p) rfl) rfl s1 sD)))).trans (zH (yK (i:=Dn) (j:=(row ws p).2) rfl (fr1 (x:=row ws p) rfl) sD s2)),U*(row ws p).2+(row ws p).1*Dn,Dn*(row ws p).2,.fz (frD (row ws p)),rfl,?_,?_,ldF d0 r2,?_,?_⟩
   ·exact Int.add_nonneg (lch u0 (lab r2)) (lch r0 (lab d0))
   ·have a1:U*(row ws p).2<=2 ^ (50*k)*2 ^ 49:=lbj (lab u1) (lab r3) (lab r2) (ldd (by decide))
    have a2:(row ws p).1*Dn<=((2:Int) ^ 49 - 1)*2 ^ (50*k):=lbj (by omega) d1 (lab d0) (by decide +kernel)
    have a3:(2:Int) ^ (50*(k+1))=2 ^ (50*k)*2 ^ 49*2:=by rw[zgJ,← lbr];congr 1
    have a4:((2:Int) ^ 49 - 1)*2 ^ (50*k)=2 ^ (50*k)*2 ^ 49 - 2 ^ (50*k):=by rw[Int.sub_mul,leR,la2]
    have a5:(0:Int)<2 ^ (50*k):=lcq (by decide)
    omega
   ·have a1:Dn*(row ws p).2<=2 ^ (50*k)*2 ^ 50:=lbj d1 (by have:(2:Int) ^ 50=2 ^ 49*2:=lbr ..;omega) (lab r2) (ldd (by decide))
    rw[zgJ] at a1
    exact a1
   ·rw[e3,zjK,lda,Int.mul_right_comm U,hx,Int.mul_right_comm (row ws p).1,r4,lda]
    show SG ws uV (B.take k)*Dn*(row ws p).2+(p.length:Int)*wU ws p*(row ws p).2*Dn=SG ws uV (B.take k)*(Dn*(row ws p).2)+(p.length:Int)*wU ws p*(Dn*(row ws p).2)
    rw[laS (SG ws uV (B.take k)),laS ((p.length:Int)*wU ws p),la2 (row ws p).2 Dn])
 rw[lar (lu _)] at hx
 have k900:(2:Int) ^ (50*B.length)<=2 ^ 900:=vQ (by decide) (by omega)
 have big:(2:Int) ^ 900<2 ^ 1000:=by decide +kernel
 refine zR ((zB (ρ':=[.fz (.lst (B.map λp=>frD (row ws p))),.fz (.int 0),.no,.no]) (zH rfl)).trans ((zB (ρ':=[.fz (.lst (B.map λp=>frD (row ws p))),.fz (.int 0),.fz (.int 1),.no]) (zH rfl)).trans ?_))
 refine(zB (yL ((yS (zrg (a:=.lst (B.map λp=>frD (row ws p))) rfl rfl)).trans e))).trans (z9 ?_)
 refine(cA2 (a:=.int U) (b:=.int Dn) rfl rfl (zaZ u0 d0 (by omega) (by omega))).trans ?_
 unfold qF
 rw[zhZ d0 D8 hx]
theorem zlc {α:Type}{g:Rho->Out}{enc:α->D}(I:Nat->Rho->Prop):∀(l:List α) (n:Nat) (ρ:Rho),I n ρ->(∀k x ρ,l[k]? = some x->I (n+k) ρ->∃ρ',g ((ρ.set i (.fz (.int ((n+k:Nat):Int)))).set j (.fz (enc x)))=.nx ρ'/\I (n+k+1) ρ')->∃ρ',zmx i j g n (l.map enc) ρ=.nx ρ'/\I (n+l.length) ρ':=by
 intro l
 induction l with
 | nil=>intro n ρ h _;exact⟨ρ,rfl,h⟩
 | cons x l ih =>
  intro n ρ h hs
  obtain⟨ρ1,e1,h1⟩:=hs 0 x ρ rfl h
  obtain ⟨ρ2,e2,h2⟩:=ih (n+1) ρ1 h1 λk y ρ hk hI=>by
   have e:n+1+k=n+(k+1):=by omega
   rw[e] at hI ⊢
   exact hs (k+1) y ρ (by simpa using hk) hI
  refine⟨ρ2,?_,by rw[lM,show n+(l.length+1)=n+1+l.length by omega];exact h2⟩
  rw[lr]
  unfold zmx
  have e1':g ((ρ.set i (.fz (.int (n:Int)))).set j (.fz (enc x)))=.nx ρ1:=e1
  rw[e1']
  exact e2
theorem zhx (ws:List Int):∀(L:qQ1) (x f:List Nat),gpF ws (L++[x]) f=if wU ws (gpF ws L f)<wU ws x then x else gpF ws L f
 | [],x,f=>rfl
 | y::L,x,f=>zhx ws L x _
theorem zpu (h:yq ws){g:qQ5}{a b:Int}(ha:0<=a)(ha2:a<2 ^ 400)(hb:0<=b)(hb2:b<2 ^ 400)(e1:f ρ=.ok (frD (qF ws a)))(e2:g ρ=.ok (frD (qF ws b))):f2 gtI (f2 jP (f2 ixD f (fC (.int 0))) (f2 ixD g (fC (.int 1)))) (f2 jP (f2 ixD g (fC (.int 0))) (f2 ixD f (fC (.int 1)))) ρ=.ok (.bl (decide (b<a))):=by
 obtain⟨s1,s2⟩:=Fra.sm (zcg h ha ha2) (by decide)
 obtain⟨s3,s4⟩:=Fra.sm (zcg h hb hb2) (by decide)
 refine yG (yK (fr0 e1) (fr1 e2) s1 s4) (yK (fr0 e2) (fr1 e1) s3 s2) ?_
 show some (D.bl (decide ((qF ws b).1*(qF ws a).2<(qF ws a).1*(qF ws b).2)))=_
 have:=zfr h b a
 unfold My.lessF at this
 rw[this]
theorem zcm (h:yq ws){l:List Nat}(hl:LetOk ws.length l)(h8:l.length<=8):0<=wU ws l/\wU ws l<2 ^ 400:=by
 have a:=za0 h hl
 have b:=zd5 h hl (by omega)
 have c:=zhr h
 have d:(2:Int) ^ 280<2 ^ 400:=by decide +kernel
 omega
theorem zp9 {f:List Nat->Int×Int}(hj:j<L.length):atI (L.map λp=>frD (f p)) (j:Int)=some (frD (f (L.getD j []))):=by
 rw[zfe (by rw[lD];exact hj)]
 congr 1
 rw[ldm,lh,lb hj]
 rfl
theorem zcC (h:yq ws)(hB:∀p∈B,LetOk ws.length p/\p.length<=8)(h0:0<B.length):∃j,j<B.length/\B.getD j []=gpF ws B (B.getD 0 [])/\uo [.lst (B.map λp=>frD (qF ws (wU ws p)))]=.ok (.int (j:Int)):=by
 obtain ⟨ρ',e,j,s2,s3,rfl,hj,eg⟩:=zlc (i:=2) (j:=3) (enc:=λp=>frD (qF ws (wU ws p))) (g:=sIf hq6 (z6 1 (fNm 2)) sNx)
  (λk ρ=>∃(j:Nat) (s2 s3:Sl),ρ=[.fz (.lst (B.map λp=>frD (qF ws (wU ws p)))),.fz (.int (j:Int)),s2,s3]/\j<B.length/\B.getD j []=gpF ws (B.take k) (B.getD 0 [])) B 0 [.fz (.lst (B.map λp=>frD (qF ws (wU ws p)))),.fz (.int 0),.no,.no] ⟨0,.no,.no,rfl,h0,rfl⟩ (by
   rintro k x ρ hk ⟨j,s2,s3,rfl,hj,eg⟩
   rw[laM] at eg ⊢
   obtain⟨hk',ek⟩:=lx.mp hk
   have e3:B.take (k+1)=B.take k++[x]:=by rw[lbb,hk];rfl
   have hx:x∈B:=lad hk
   have hjm:B.getD j []∈B:=getD_mem hj
   obtain⟨x1,x2⟩:=zcm h (hB x hx).1 (hB x hx).2
   obtain⟨y1,y2⟩:=zcm h (hB _ hjm).1 (hB _ hjm).2
   have et:=vy (zpu (f:=fNm 3) (g:=f2 ixD (fNm 0) (fNm 1)) (ρ:=[.fz (.lst (B.map λp=>frD (qF ws (wU ws p)))),.fz (.int (j:Int)),.fz (.int (k:Int)),.fz (frD (qF ws (wU ws x)))]) h x1 x2 y1 y2 rfl (yG (a:=.lst (B.map λp=>frD (qF ws (wU ws p)))) (b:=.int (j:Int)) rfl rfl (zp9 (f:=λp=>qF ws (wU ws p)) hj)))
   rw[e3,zhx,← eg]
   by_cases c:wU ws (B.getD j [])<wU ws x
   ·rw[lP c] at et
    rw[lO c]
    refine⟨_,(zdH et).trans (zH rfl),k,.fz (.int (k:Int)),_,rfl,hk',?_⟩
    rw[lh,hk];rfl
   ·rw[lS c] at et
    rw[lY c]
    exact⟨_,(zdI et).trans rfl,j,.fz (.int (k:Int)),_,rfl,hj,rfl⟩)
 rw[laM,lar (lu _)] at eg
 refine⟨j,hj,eg,?_⟩
 refine zR ((zB (ρ':=[.fz (.lst (B.map λp=>frD (qF ws (wU ws p)))),.fz (.int 0),.no,.no]) (zH rfl)).trans ?_)
 exact(zB (yL e)).trans (z9 rfl)
theorem zoY (h:vZ [a]=.ok (.bl false)):zY [a,b]=.ex 0 :=
 wO (zaA (jf (cA1 (a:=a) rfl (wO ((zdH (jy (b:=false) (vy (cA1 (a:=a) rfl h)))).trans rfl)))))
theorem zgP (h:yq ws)(hb:vJ [.int ws.length,b]=.ok (.bl false)):zY [.tup (sI ws),b]=.ex 1 :=
 wO ((zB (vg (cA1 (a:=.tup (sI ws)) rfl (yX h)))).trans (jf (cA2 (a:=.int (ws.length:Int)) (b:=b) (jB (ds:=[.tup (sI ws)]) rfl (by show some (D.int ((sI ws).length:Int))=_;rw[zb3])) rfl (zgm hb))))
theorem zfG {fe:qQ5}{ρ0:Rho}{a b c:List Nat->D}(e:List Nat->D):∀{L:qQ1},(∀x∈L,fe (zmh ρ0 (a x) (b x) (c x))=.ok (e x))->jw xU fe ρ0 (L.map a) (L.map λx=>.tup [b x,c x])=.ok (L.map e)
 | [],_=>rfl
 | x::L,h=>by
  have ih:=zfG (fe:=fe) (ρ0:=ρ0) (a:=a) (b:=b) (c:=c) e (L:=L) λy hy=>h y (lF _ hy)
  rw[lr,lr,lr]
  unfold jw
  show(match fe (zmh ρ0 (a x) (b x) (c x)) with | .ok e=>(jw xU fe ρ0 (L.map a) (L.map λx=>.tup [b x,c x])).bind λes=>.ok (e::es)|_=>.no)=_
  rw[h x lJ,ih]
  rfl
theorem zh1 (h:yq ws)(hB:∀p∈B,LetOk ws.length p/\p.length<=5)(hl:B.length<=18):qp [.tup (sI ws),.tup (sT B)]=.ok (frD (qF ws (SG ws uV B))):=by
 have hB8:∀p∈B,LetOk ws.length p/\p.length<=8:=λp hp=>⟨(hB p hp).1,by have:=(hB p hp).2;omega⟩
 refine zR ((zB (ρ':=[.fz (.tup (sI ws)),.fz (.tup (sT B)),.fz (.lst (B.map λp=>frD (qF ws (wU ws p))))]) (zcq (d:=B.map λp=>frD (qF ws (wU ws p))) (zfn (ds:=sT B) rfl (by rw[wI];omega) (vq (λp=>frD (qF ws (wU ws p))) λp hp=>by
  rw[← zdB h (show p.length<=31 by have:=(hB p hp).2;omega)]
  exact cA2 (a:=.tup (sI ws)) (b:=.str p) rfl rfl (zbY h (hB8 p hp).1 (hB8 p hp).2))))).trans ?_)
 have eD:fLs (fCn (fNm 1) (fNm 2) xU (fO mkT hq5) []) [.fz (.tup (sI ws)),.fz (.tup (sT B)),.fz (.lst (B.map λp=>frD (qF ws (wU ws p))))]=.ok (.lst (B.map λp=>frD (row ws p))):=by
  refine zd2 ?_
  have ec:=zfG (fe:=fO mkT hq5) (ρ0:=[.no,.no,.no]) (a:=D.str) (b:=λp=>.int (qF ws (wU ws p)).1) (c:=λp=>.int (qF ws (wU ws p)).2) (λp=>frD (row ws p)) (L:=B) λp hp=>by
   obtain⟨s1,s2⟩:=Fra.sm (zcg h (zcm h (hB8 p hp).1 (hB8 p hp).2).1 (zcm h (hB8 p hp).1 (hB8 p hp).2).2) (by decide)
   have hp8:=(hB8 p hp).2
   unfold row
   rw[zdB h (show p.length<=31 by omega)]
   exact jB (ds:=[.int ((qF ws (wU ws p)).1*(p.length:Int)),.int (qF ws (wU ws p)).2]) (zT (yK (i:=(qF ws (wU ws p)).1) (j:=(p.length:Int)) rfl (jB (ds:=[.str p]) rfl rfl) s1 (qL (by omega))) (zT rfl rfl)) rfl
  unfold fCn
  show(match jw xU _ [.no,.no,.no] (sT B) (B.map λp=>frD (qF ws (wU ws p))) with | .ok es=>if (sT B).length<=1000000 then Rs.ok es else .no|_=>.no)=_
  have ec':jw xU (fO mkT hq5) [.no,.no,.no] (sT B) (B.map λp=>frD (qF ws (wU ws p)))=.ok (B.map λp=>frD (row ws p)):=ec
  rw[ec']
  dsimp only
  rw[lO (by rw[wI];omega)]
 exact z9 (cA1 (a:=.lst (B.map λp=>frD (row ws p))) eD (zgU h hB hl))
end
theorem zov {m s:Nat}(h:Comb m s):zaH [.int m,.int s]=.ok (encL (AB m s)):=by
 show zX 9 qU _=_
 unfold qU
 rw[zl7]
 refine h.cases (P:=λm s=>zX 9 _ [.int m,.int s]=.ok (encL (AB m s))) ?_ ?_ ?_ ?_ ?_ ?_ ?_ ?_ ?_ ?_ ?_ ?_ ?_ <;>kernel_rfl
def wT:qQ6:=bT zrc
def wG:Rho->Out :=
  (zO (wK 6 (fCp (fI tpD (fNm 5)) xU zp3 [2]))
  (zO zq7
  (zO (wK 8 (fCp zpM xU hq4 [5,7]))
  hq3)))
abbrev rho (ns ws:List Int)(s:Nat)(L:List (qQ1))(B:qQ1)(s6 s7 s8 s9 s10 s11 s12 s13 s14:Sl):Rho:=[.fz (scD ns),.fz (.int ws.length),.fz (.tup (sI ws)),.fz (.int s),.fz (encL L),.fz (.tup (sT B)),s6,s7,s8,s9,s10,s11,s12,s13,s14]
theorem zlg (h:L.length<64):zgN [.lst (sT L)]=some (sT (sortF L)):=zjD h
theorem zle (h:yq ws){B:qQ1}(hj:j<B.length)(h9:(B.getD j []).length<=1000){ρ0:Rho}(e0:ρ0.length=3)(e1:ρ0[1]? = some (.fz (.tup (sT B))))(e2:ρ0[2]? = some (.fz (.int (j:Int)))):wX xU hq4 ρ0 ((List.range ws.length).map λ(k:Nat)=>D.int (k:Int))=.ok (sT (kids ws.length (B.getD j []))):=by
 match ρ0,e0,e1,e2 with
 | [x,y,z],_,e1,e2 =>
  have e1':y=.fz (.tup (sT B)):=by simpa using e1
  have e2':z=.fz (.int (j:Int)):=by simpa using e2
  subst e1' e2'
  have ek:sT (kids ws.length (B.getD j []))=(List.range ws.length).map λk=>D.str (B.getD j []++[97+k]):=by
   have m4:=h.2.1
   have m2:=h.1
   have:ws.length=2∨ws.length=3∨ws.length=4:=by omega
   rcases this with e|e|e <;>rw[e] <;>rfl
  rw[ek]
  refine vq (λk=>D.str (B.getD j []++[97+k])) λk hk=>?_
  have hk':=lbJ.mp hk
  have m4:=h.2.1
  refine yG (a:=.str (B.getD j [])) (b:=.str [97+k]) (yG (a:=.tup (sT B)) (b:=.int (j:Int)) rfl rfl (zop hj)) (yG (a:=.str [97,98,99,100]) (b:=.int (k:Int)) rfl rfl ?_) (zjT (by rw[lcl];omega))
  have:k=0∨k=1∨k=2∨k=3:=by omega
  rcases this with rfl|rfl|rfl|rfl <;>rfl
section
variable {ns ws:List Int}{s:Nat}{L:List (qQ1)}{s9 s10 s11 s12 s13 s14:Sl}
theorem zkv (h:yq ws){k:Nat}(hk:k<=5){s6 s7 s8:Sl}:∃s6' s7' s8',wG (rho ns ws s L (zP ws k) s6 s7 s8 s9 s10 s11 s12 s13 s14)=.nx (rho ns ws s L (zP ws (k+1)) s6' s7' s8' s9 s10 s11 s12 s13 s14):=by
 have g:=wD h k
 have ln:=g.len h.1 h.2.1
 have m4:=h.2.1
 have hkm:k*(ws.length - 1)<=5*3:=Nat.mul_le_mul hk (by omega)
 have bk:=g.book h.1 h.2.1
 have hB8:∀p∈zP ws k,LetOk ws.length p/\p.length<=8:=λp hp=>⟨bk.let_ p hp,by have:=g.short h.1 h.2.1 p hp;omega⟩
 have h0:0<(zP ws k).length:=by have:=h.1;omega
 obtain⟨j,hj,ej,eg⟩:=zcC h hB8 h0
 have nd:=bk.nd
 have hjx:(zP ws k).idxOf (gpB ws (zP ws k))=j:=by
  have e1:(zP ws k)[j]=gpB ws (zP ws k):=by
   rw[lh,lb hj] at ej
   exact ej
  rw[← e1]
  exact List.Nodup.idxOf_getElem nd j hj
 have es:zP ws (k+1)=part ws.length (zP ws k) j:=by show part ws.length (zP ws k) ((zP ws k).idxOf (gpB ws (zP ws k)))=_;rw[hjx]
 have hpl:(gpB ws (zP ws k)).length<=8:=by
  have:=(hB8 _ (getD_mem hj)).2
  rw[ej] at this
  exact this
 have sl:=zcy bk hj
 rw[es]
 generalize zP ws k=B at *
 have kl:=kh ws.length m4 (B.getD j [])
 refine⟨.fz (.lst (B.map λp=>frD (qF ws (wU ws p)))),.fz (.int (j:Int)),.fz (.lst (sT (kids ws.length (B.getD j [])))),?_⟩
 refine (zB (ρ':=rho ns ws s L B (.fz (.lst (B.map λp=>frD (qF ws (wU ws p))))) s7 s8 s9 s10 s11 s12 s13 s14) (zcq (d:=B.map λp=>frD (qF ws (wU ws p))) (zfn (ds:=sT B) rfl (by rw[wI];omega) (vq (λp=>frD (qF ws (wU ws p))) λp hp=>by
  rw[← zdB h (show p.length<=31 by have:=(hB8 p hp).2;omega)]
  exact cA2 (a:=.tup (sI ws)) (b:=.str p) rfl rfl (zbY h (hB8 p hp).1 (hB8 p hp).2))))).trans ?_
 refine(zB (ρ':=rho ns ws s L B (.fz (.lst (B.map λp=>frD (qF ws (wU ws p))))) (.fz (.int (j:Int))) s8 s9 s10 s11 s12 s13 s14) (zH (cA1 (a:=.lst (B.map λp=>frD (qF ws (wU ws p)))) rfl eg))).trans ?_
 refine(zB (ρ':=rho ns ws s L B (.fz (.lst (B.map λp=>frD (qF ws (wU ws p))))) (.fz (.int (j:Int))) (.fz (.lst (sT (kids ws.length (B.getD j []))))) s9 s10 s11 s12 s13 s14) (zcq (d:=sT (kids ws.length (B.getD j []))) (zfn (ds:=(List.range ws.length).map λ(k:Nat)=>D.int (k:Int)) (ziD (ds:=[.int (ws.length:Int)]) rfl (za7 (by omega))) (by rw[lD,lbi];omega) (zle h hj (by have:=(hB8 _ (getD_mem hj)).2;omega) rfl rfl rfl)))).trans ?_
 refine(zH (d:=.tup (sT (part ws.length B j))) ?_).trans rfl
 have tk:∀(l:qQ1) (n:Nat),(sT l).take n=sT (l.take n):=λl n=>by unfold sT;rw[ldA]
 have td:∀(l:qQ1) (n:Nat),(sT l).drop n=sT (l.drop n):=λl n=>by unfold sT;rw[leb]
 refine jB (ds:=[.lst (sT (part ws.length B j))]) (zT (zd2 (zoe (ds:=[.lst (sT (B.take j++kids ws.length (B.getD j [])++B.drop (j+1)))]) (zT (zd2 (zmI (a:=.lst (sT (B.take j++kids ws.length (B.getD j [])))) (b:=.lst (sT (B.drop (j+1)))) (zd2 (zmI (a:=.lst (sT (B.take j))) (b:=.lst (sT (kids ws.length (B.getD j [])))) (zd2 (zoe (ds:=[.tup (sT (B.take j))]) (zT (zfj (a:=.tup (sT B)) (l:=none) (h:=some (j:Int)) rfl rfl rfl (by show some (D.tup (zdm (sT B) none (some (j:Int))))=_;rw[zm7,tk])) rfl) rfl)) rfl ((zmM ?_).trans (by rw[zfa])))) (zd2 (zoe (ds:=[.tup (sT (B.drop (j+1)))]) (zT (zfj (a:=.tup (sT B)) (l:=some ((j+1:Nat):Int)) (h:=none) rfl rfl rfl (by show some (D.tup (zdm (sT B) (some ((j+1:Nat):Int)) none))=_;rw[zeZ,td])) rfl) rfl)) ((zmM ?_).trans (by rw[zfa])))) rfl) ?_)) rfl) rfl
 ·rw[wI,wI,lW];omega
 ·rw[wI,wI,lU,lW,lb9];omega
 ·rw[zlg (by rw[sl,zhD m4 hj];omega),sl]
  congr 2
  exact(sortF_eq ((bk.part hj).srt) (lbw _)).symm
theorem zjQ (h:yq ws)(hs:s<=7):∀(d k:Nat) (f:Nat) (s6 s7 s8:Sl),d<f->ws.length+(k+d)*(ws.length - 1)<=s->s<ws.length+(k+d+1)*(ws.length - 1)->∃s6' s7' s8',whD wT wG f (rho ns ws s L (zP ws k) s6 s7 s8 s9 s10 s11 s12 s13 s14)=.nx (rho ns ws s L (zP ws (k+d)) s6' s7' s8' s9 s10 s11 s12 s13 s14):=by
 have m2:=h.1
 have tst:∀(k:Nat) (s6 s7 s8:Sl),wT (rho ns ws s L (zP ws k) s6 s7 s8 s9 s10 s11 s12 s13 s14)=.ok (decide (((zP ws k).length:Int)+ws.length - 1<=(s:Int))):=λk s6 s7 s8=>vy (yG (a:=.int (((zP ws k).length:Int)+ws.length - 1)) (b:=.int (s:Int)) (zeM (vI (zgX rfl) rfl) rfl) rfl rfl)
 intro d
 induction d with
 | zero =>
  intro k f s6 s7 s8 hf h1 h2
  obtain⟨f,rfl⟩:∃g,f=g+1:=⟨f - 1,by omega⟩
  have ln:=(wD h k).len h.1 h.2.1
  have e:=tst k s6 s7 s8
  rw [lS (by
   rw[ln]
   rw[Nat.add_zero,ldJ,Nat.one_mul] at h2
   omega)] at e
  refine⟨s6,s7,s8,?_⟩
  unfold whD
  rw[e]
  rfl
 | succ d ih =>
  intro k f s6 s7 s8 hf h1 h2
  obtain⟨f,rfl⟩:∃g,f=g+1:=⟨f - 1,by omega⟩
  have ln:=(wD h k).len h.1 h.2.1
  have q1:(k+1)*(ws.length - 1)<=(k+(d+1))*(ws.length - 1):=Nat.mul_le_mul_right _ (by omega)
  have q2:k+1<=(k+1)*(ws.length - 1):=lc0 _ (by omega)
  have e:=tst k s6 s7 s8
  rw [lP (by
   rw[ln]
   rw[ldJ,Nat.one_mul] at q1
   omega)] at e
  obtain⟨a,b,c,es⟩:=zkv (ns:=ns) (s:=s) (L:=L) (s9:=s9) (s10:=s10) (s11:=s11) (s12:=s12) (s13:=s13) (s14:=s14) h (k:=k) (by omega) (s6:=s6) (s7:=s7) (s8:=s8)
  obtain⟨a',b',c',ei⟩:=ih (k+1) f a b c (by omega) (by rw[show k+1+d=k+(d+1) by omega];exact h1) (by rw[show k+1+d+1=k+(d+1)+1 by omega];exact h2)
  refine⟨a',b',c',?_⟩
  rw[whD.eq_2,e]
  show(match wG (rho ns ws s L (zP ws k) s6 s7 s8 s9 s10 s11 s12 s13 s14) with | .nx ρ'=>whD wT wG f ρ' | .ct ρ'=>whD wT wG f ρ' | .bk ρ'=>.nx ρ'|o=>o)=_
  rw[es]
  dsimp only
  rw[ei,show k+1+d=k+(d+1) by omega]
end
theorem zkA {fa fb:qQ5}(e1:fa ρ=.ok a)(e2:fb ρ=.ex n):fA (ari 2 fn) (zj fa (zj fb zF)) ρ=.ex n:=by
 unfold fA zj
 rw[e1]
 show((Rs.bind (fb ρ) _).bind _).bind _=_
 rw[e2];rfl
theorem zjJ (e:f ρ=.ex n):yI f ρ=.ex n:=by unfold yI;rw[e]
theorem znu (e:f ρ=.ex n):z6 i f ρ=.ex n:=by unfold z6;rw[e]
theorem zej (h:yZ [a,b]=.ok (.bl false)):yF [a,b]=.ex 5/\yP [a,b]=.ex 5/\wj [a,b]=.ex 5:=by
 have r:yF [a,b]=.ex 5:=wO ((zdH (jy (b:=false) (vy (cA2 (a:=a) (b:=b) rfl rfl h)))).trans rfl)
 exact⟨r,wO (zaA (jf (cA2 (a:=a) (b:=b) rfl rfl r))),wO (zaA (jf (cA2 (a:=a) (b:=b) rfl rfl r)))⟩
theorem zlP (h:yq ws)(hb:yZ [.int ws.length,b]=.ok (.bl false)):yC [.tup (sI ws),b]=.ex 5/\yd [.tup (sI ws),b]=.ex 5:=by
 have e:yC [.tup (sI ws),b]=.ex 5:=wO ((zB (vg (cA1 (a:=.tup (sI ws)) rfl (yX h)))).trans ((zB (zH (d:=.int ws.length) (zmT rfl))).trans (zaA (jf (cA2 (a:=.int ws.length) (b:=b) rfl rfl (zej hb).1)))))
 exact⟨e,wO (zjJ (zkA (a:=.tup (sI ws)) rfl (cA2 (a:=.tup (sI ws)) (b:=b) rfl rfl e)))⟩
theorem zj4 (h:zY [a,b]=.ex n):wL [a,b]=.ex n :=
 wO (zaA (znu (zkA (a:=a) rfl (cA2 (a:=a) (b:=b) rfl rfl (wO (zaA (jf (cA2 (a:=a) (b:=b) rfl rfl h))))))))
def zqb (m:Nat):List D:=[.int ((m:Int) - 1),.int 33,.bl true,.non,.str [51],.int 0]
theorem znw {m:Nat}(m2:2<=m)(m4:m<=4):∀d∈zqb m,yZ [.int m,d]=.ok (.bl false)/\yZ [.int 1,d]=.ok (.bl false)/\yZ [.int 5,d]=.ok (.bl false)/\yZ [.non,d]=.ok (.bl false)/\vJ [.int m,d]=.ok (.bl false):=by
 have:m=2∨m=3∨m=4:=by omega
 intro d hd
 unfold zqb at hd
 simp only[lz,lei,ld9] at hd
 rcases this with rfl|rfl|rfl <;>rcases hd with rfl|rfl|rfl|rfl|rfl|rfl <;>exact⟨by kernel_rfl,by kernel_rfl,by kernel_rfl,by kernel_rfl,by kernel_rfl⟩
theorem zqA {L:List (qQ1)}(hj:j<L.length):atI (L.map λB=>D.tup (sT B)) (j:Int)=some (.tup (sT (L.getD j []))):=by
 rw[zfe (by rw[lD];exact hj)]
 congr 1
 rw[ldm,lh,lb hj]
 rfl
theorem zoQ {L:List (qQ1)}(e:f ρ=.ok (encL L)):fO qN (zj f zF) ρ=.ok (.int (L.length:Int)):=jB (zT e rfl) (by show some (D.int ((L.map λB=>D.tup (sT B)).length:Int))=_;rw[lD])
theorem zmw (ns:List Int)(hn:ns.length<=63):zmH [.lst (ns.map .int)]=.ok (.bl true):=by
 have hd:=vK ns 0 (m:=3) (by decide)
 obtain⟨r,hr⟩:=lat hd.1
 rw[hr] at hd
 have m2:2<=2+r:=by omega
 have m4:2+r<=4:=by omega
 have er:=zaj ns hn 0 3 (by decide) (by decide) (by decide)
 rw[hr] at er
 generalize hm:2+r=m at m2 m4
 have eS:=zjW ns hn 1 m2 m4 (by decide)
 obtain⟨sok,sl⟩:=znL ns 1 m2 m4
 generalize hws:zmc ns 1 m=ws at *
 subst sl
 obtain ⟨M,hM,eM⟩:∃M:Nat,(M=4∨M=5)/\(ws.length+M<=8/\(ws.length=2->M=4))/\ixD (.lst [.int 4,.int 5,.int 4]) (.int ((ws.length:Int) - 2))=some (.int M):=by
  have:ws.length=2∨ws.length=3∨ws.length=4:=by omega
  rcases this with e|e|e <;>rw[e]
  ·exact⟨4,.inl rfl,⟨by decide,λ_=>rfl⟩,rfl⟩
  ·exact⟨5,.inr rfl,⟨by decide,λh=>by cases h⟩,rfl⟩
  ·exact⟨4,.inl rfl,⟨by decide,λh=>by cases h⟩,rfl⟩
 have hd9:=vK ns 9 (m:=(M:Int)) (by omega)
 obtain⟨z,hz⟩:=lat hd9.1
 have e9:=zaj ns hn 9 M (by decide) (by decide) (by omega)
 rw[hz] at hd9 e9
 have hc:Comb ws.length (ws.length+z):=by unfold Comb;omega
 have es:(ws.length:Int)+(z:Int)=((ws.length+z:Nat):Int):=by omega
 generalize hsd:ws.length+z=s at *
 obtain⟨_,_,hs1,hs7⟩:=hc.m2
 obtain⟨L0,eL0⟩:=zoJ hc
 obtain ⟨k,hk⟩:∃k,(s - 1) / (ws.length - 1)=k+1:=by
  have:=Nat.div_pos (a:=s - 1) (b:=ws.length - 1) (by omega) (by omega)
  exact⟨(s - 1) / (ws.length - 1) - 1,by omega⟩
 obtain⟨z1,z2,z3⟩:=zjB sok hs1 (by omega) hk
 have gk:=wD sok k
 have lk:=gk.len m2 m4
 have eK:=zbZ sok hs1 (by omega) hk
 have eG:=zcb sok hs1 (by omega) hk
 have bk:=gk.book m2 m4
 have k5:k<=5:=by
  have:k<=k*(ws.length - 1):=lc0 _ (by omega)
  omega
 have hkm:k*(ws.length - 1)<=5:=by omega
 have hBk:∀p∈zP ws k,LetOk ws.length p/\p.length<=5:=λp hp=>⟨bk.let_ p hp,by
  have h1:=gk.short m2 m4 p hp
  have h2:k<=k*(ws.length - 1):=lc0 _ (by omega)
  have:k<=4∨ws.length+5<=7:=by omega
  rcases this with h|h
  ·omega
  ·have hw:ws.length=2:=by omega
   unfold Comb at hc
   omega⟩
 have eMn:=zh1 sok hBk (by omega)
 have bf:=zdP sok k (zmN m2 z1)
 obtain⟨s6,s7,s8,eW⟩:=zjQ (ns:=ns) (L:=AB ws.length s) (s9:=.no) (s10:=.no) (s11:=.no) (s12:=.no) (s13:=.no) (s14:=.no) sok hs7 k 0 12 .no .no .no (by omega) (by rw[laM];exact z2) (by rw[laM,ldJ,Nat.one_mul];omega)
 rw[laM] at eW
 have hmm:(2:Int)+(r:Int)=(ws.length:Int):=by omega
 have eqE:eqD true (encL (AB ws.length s)) (encL (AB ws.length s))=some (.bl false):=by
  refine hc.cases (P:=λm s=>eqD true (encL (AB m s)) (encL (AB m s))=some (.bl false)) ?_ ?_ ?_ ?_ ?_ ?_ ?_ ?_ ?_ ?_ ?_ ?_ ?_ <;>kernel_rfl
 refine zR ((zB (zH (d:=.int ws.length) ((vI (i:=2) (j:=(r:Int)) rfl (cA3 (a:=scD ns) (b:=.int 0) (c:=.int 3) rfl rfl rfl er)).trans (by rw[hmm])))).trans ?_)
 refine(zB (zH (d:=.tup (sI ws)) (cA3 (a:=scD ns) (b:=.int 1) (c:=.int ws.length) rfl rfl rfl eS))).trans ?_
 refine(zB (zH (d:=.int s) ((vI (i:=(ws.length:Int)) (j:=(z:Int)) rfl (cA3 (a:=scD ns) (b:=.int 9) (c:=.int M) rfl rfl (yG (a:=.lst [.int 4,.int 5,.int 4]) (b:=.int ((ws.length:Int) - 2)) rfl (zeM rfl rfl) eM.2) e9)).trans (by rw[es])))).trans ?_
 refine(zB (zH (d:=encL (AB ws.length s)) (cA2 (a:=.int ws.length) (b:=.int s) rfl rfl (zov hc)))).trans ?_
 refine(zB (ifF (zi5 (vy (yG (a:=encL (AB ws.length s)) (b:=encL (AB ws.length s)) (cA3 (a:=.int 2) (b:=.int ws.length) (c:=.int s) rfl rfl rfl (zn0 (tl (zri hc)))) rfl eqE)) (vy (yG (a:=.int ((AB ws.length s).length:Int)) (b:=.int ((AB ws.length s).length:Int)) (cA3 (a:=.int 3) (b:=.int ws.length) (c:=.int s) rfl rfl rfl (znp (tl (zrT hc)))) (zoQ rfl) (zsI rfl)))))).trans ?_
 refine(zB (ρ':=rho ns ws s (AB ws.length s) (zP ws 0) .no .no .no .no .no .no .no .no .no) (zH (d:=.tup (sT (kids ws.length []))) (yG (a:=encL (AB ws.length s)) (b:=.int ((0:Nat):Int)) rfl rfl ((zqA (L:=AB ws.length s) (j:=0) (by rw[eL0];exact Nat.zero_lt_succ _)).trans (by rw[eL0];rfl))))).trans ?_
 refine(zB (yL (show sWh 12 wT wG _=_ from eW))).trans ?_
 refine(zB (ifF (zi5 (vy (yG (a:=.tup (sT (zP ws k))) (b:=.tup (sT (zP ws k))) (cA3 (a:=.int 0) (b:=.tup (sI ws)) (c:=.int s) rfl rfl rfl (zoN (tl eK))) rfl (zsW rfl))) (vy (yG (a:=frD (qF ws (SG ws uV (zP ws k)))) (b:=frD (qF ws (SG ws uV (zP ws k)))) (cA3 (a:=.int 1) (b:=.tup (sI ws)) (c:=.int s) rfl rfl rfl (znI (tl eG))) (cA2 (a:=.tup (sI ws)) (b:=.tup (sT (zP ws k))) rfl rfl eMn) ((zmD true _ _).trans (by simp))))))).trans ?_
 generalize hR:(AB ws.length s).filter (λB=>decide (B.length=(zP ws k).length))=R
 have hRm:∀B∈R,B∈AB ws.length s/\B.length=(zP ws k).length:=λB hB=>by
  rw[← hR,lbf] at hB
  exact⟨hB.1,laZ hB.2⟩
 refine(zB (zcq (d:=R.map λB=>.tup (sT B)) (zfn (ds:=(AB ws.length s).map λB=>D.tup (sT B)) rfl (by rw[lD];have:=zpL hc;omega) ?_))).trans ?_
 ·refine(zeG (l:=AB ws.length s) (enc:=λB=>D.tup (sT B)) (λB=>decide (B.length=(zP ws k).length)) (λB=>D.tup (sT B)) λB hB=>⟨?_,λ_=>rfl⟩).trans (by rw[hR])
  refine vy (yG (a:=.int (B.length:Int)) (b:=.int ((zP ws k).length:Int)) (zgX rfl) (zgX rfl) ((zbw false _ _).trans ?_))
  have:decide ((B.length:Int)=((zP ws k).length:Int))=decide (B.length=(zP ws k).length):=decide_eq_decide.mpr ⟨λh=>by omega,λh=>by omega⟩
  rw[this];rfl
 refine(zB (zH (cA2 (a:=.tup (sI ws)) (b:=.tup (sT (zP ws k))) rfl rfl eMn))).trans ?_
 have bdk:=zeh sok (g:=uV) (B:=zP ws k) (λp hp=>⟨(hBk p hp).1,by have:=(hBk p hp).2;omega⟩) (λn hn=>by unfold uV;omega) (by omega)
 obtain ⟨ρ',eF,s11,s12,rfl⟩:=wB (i:=11) (g:=(zO zq1
  (sIf hq2
  hq9
  sNx))) (l:=R) (enc:=λB=>D.tup (sT B)) (ρ:=rho ns ws s (AB ws.length s) (zP ws k) s6 s7 s8 (.fz (encL R)) (.fz (frD (qF ws (SG ws uV (zP ws k))))) .no .no .no .no)
  (λ_ ρ=>∃s11 s12,ρ=rho ns ws s (AB ws.length s) (zP ws k) s6 s7 s8 (.fz (encL R)) (.fz (frD (qF ws (SG ws uV (zP ws k))))) s11 s12 .no .no) ⟨.no,.no,rfl⟩ (by
   rintro c B ρ hB ⟨a11,a12,rfl⟩
   obtain⟨b1,b2⟩:=hRm B (lad hB)
   obtain⟨pc,ib,_,hB5⟩:=zmV hc b1
   obtain⟨t,g,gl⟩:=zr1 hc b1
   have tk:t=k:=by
    rw[b2,lk] at gl
    have:k*(ws.length - 1)=t*(ws.length - 1):=by omega
    exact(Nat.eq_of_mul_eq_mul_right (by omega) this).symm
   subst tk
   have eO:=zh1 sok hB5 (by have:=pc.2.2.2.1;omega)
   have bd:=zeh sok (g:=uV) (B:=B) (λp hp=>⟨(hB5 p hp).1,by have:=(hB5 p hp).2;omega⟩) (λn hn=>by unfold uV;omega) (by omega)
   obtain⟨b,eb,kb⟩:=ziH sok g z1
   have le:=zg6 sok (zmN m2 z1) g gk bf
   have hdec:decide (qF ws (SG ws uV B)=qF ws (SG ws uV (zP ws t)))=b:=by
    cases hb:b with
    | true =>
     rw[zoB sok (zmN m2 z1) g gk (kb.mp hb) bf]
     exact lP rfl
    | false =>
     have lt:=znK sok (zmN m2 z1) g gk (λq=>by rw[kb.mpr q] at hb;cases hb) bf
     exact lS λe=>by have:=zrP sok e;omega
   have eg:=vy (zpu (f:=fNm 12) (g:=fNm 10) (ρ:=rho ns ws s (AB ws.length s) (zP ws t) s6 s7 s8 (.fz (encL R)) (.fz (frD (qF ws (SG ws uV (zP ws t))))) (.fz (.tup (sT B))) (.fz (frD (qF ws (SG ws uV B)))) .no .no) sok bd.1 bd.2 bdk.1 bdk.2 rfl rfl)
   rw[lS (by omega)] at eg
   refine⟨_,(zB (ρ':=rho ns ws s (AB ws.length s) (zP ws t) s6 s7 s8 (.fz (encL R)) (.fz (frD (qF ws (SG ws uV (zP ws t))))) (.fz (.tup (sT B))) (.fz (frD (qF ws (SG ws uV B)))) .no .no) (zH (cA2 (a:=.tup (sI ws)) (b:=.tup (sT B)) rfl rfl eO))).trans (ifF (zi5 eg (vy (yG (a:=.bl b) (b:=.bl b) (cA3 (a:=.int 4) (b:=.tup (sI ws)) (c:=.tup (sT B)) rfl rfl rfl (zoj (tl eb))) (yG (a:=frD (qF ws (SG ws uV B))) (b:=frD (qF ws (SG ws uV (zP ws t)))) rfl rfl ((zmD false _ _).trans (by rw[hdec];rfl))) (by cases b <;>rfl))))),_,_,rfl⟩)
 refine(zB (yL ((yS (ds:=R.map λB=>D.tup (sT B)) rfl).trans eF))).trans ?_
 have hd30:=vK ns 30 (m:=6) (by decide)
 obtain⟨j5,h5⟩:=lat hd30.1
 have e30:=zaj ns hn 30 6 (by decide) (by decide) (by decide)
 rw[h5] at hd30 e30
 have l5:j5<(zqb ws.length).length:=by show j5<6;omega
 have a5:=zfe l5
 obtain⟨y1,y2,y3,y4,y5⟩:=znw m2 m4 _ (laK l5)
 generalize (zqb ws.length)[j5]=bad at a5 y1 y2 y3 y4 y5
 refine(zB (zH (yG (a:=.lst (zqb ws.length)) (b:=.int (j5:Int)) rfl (cA3 (a:=scD ns) (b:=.int 30) (c:=.int 6) rfl rfl rfl e30) a5))).trans ?_
 obtain⟨x1,x2⟩:=zlP sok y1
 refine(zB (ifF (vy (yG (a:=.lst [rf 5,rf 5]) (b:=.lst [rf 5,rf 5]) (jB (ds:=[rf 5,rf 5]) (zT (cA3 (a:=.int 0) (b:=.tup (sI ws)) (c:=bad) rfl rfl rfl (zoN (tl5 x1))) (zT (cA3 (a:=.int 1) (b:=.tup (sI ws)) (c:=bad) rfl rfl rfl (znI (tl5 x2))) rfl)) rfl) rfl rfl)))).trans ?_
 have hd31:=vK ns 31 (m:=4) (by decide)
 obtain⟨j6,h6⟩:=lat hd31.1
 have e31:=zaj ns hn 31 4 (by decide) (by decide) (by decide)
 rw[h6] at hd31 e31
 have l6:j6<([.int ws.length,.int 1,.int 5,.non]:List D).length:=by show j6<4;omega
 have a6:=zfe l6
 have b6:yZ [([.int ws.length,.int 1,.int 5,.non]:List D)[j6],bad]=.ok (.bl false):=by
  have:j6=0∨j6=1∨j6=2∨j6=3:=by omega
  rcases this with rfl|rfl|rfl|rfl
  ·exact y1
  ·exact y2
  ·exact y3
  ·exact y4
 generalize ([.int ws.length,.int 1,.int 5,.non]:List D)[j6]=odd at a6 b6
 obtain⟨_,w2,w3⟩:=zej b6
 have eo:∀w:D,f2 ixD zq6 zq8 [.fz w,.fz bad,.fz (.int ws.length),.fz (scD ns)]=.ok odd:=λw=>yG (a:=.lst [.int ws.length,.int 1,.int 5,.non]) (b:=.int (j6:Int)) rfl (cA3 (a:=scD ns) (b:=.int 31) (c:=.int 4) rfl rfl rfl e31) a6
 refine(zB (ifF (vy (yG (a:=.lst [rf 5,rf 5]) (b:=.lst [rf 5,rf 5]) (zba (ds:=[.int 2,.int 3]) rfl (by show 2<=1000000;decide) (zcw rfl (cA3 (a:=.int 2) (b:=odd) (c:=bad) rfl (eo _) rfl (zn0 (tl5 w2))) (zcw rfl (cA3 (a:=.int 3) (b:=odd) (c:=bad) rfl (eo _) rfl (znp (tl5 w3))) rfl))) rfl rfl)))).trans ?_
 obtain ⟨ρ',eO,s14,rfl⟩:=wB (i:=14) (g:=(sIf (bT (f2 (eqD true) hq7 hq0))
  hq9
  sNx)) (l:=([.int 1,.int 5,.non,.bl true]:List D)) (enc:=id) (ρ:=rho ns ws s (AB ws.length s) (zP ws k) s6 s7 s8 (.fz (encL R)) (.fz (frD (qF ws (SG ws uV (zP ws k))))) s11 s12 (.fz bad) .no)
  (λ_ ρ=>∃s14,ρ=rho ns ws s (AB ws.length s) (zP ws k) s6 s7 s8 (.fz (encL R)) (.fz (frD (qF ws (SG ws uV (zP ws k))))) s11 s12 (.fz bad) s14) ⟨.no,rfl⟩ (by
   rintro c o ρ ho ⟨a14,rfl⟩
   have hs:yZ [o,.int 5]=.ok (.bl false):=by
    have:=lad ho
    simp only[lz,lei,ld9] at this
    rcases this with rfl|rfl|rfl|rfl <;>kernel_rfl
   obtain⟨_,v2,v3⟩:=zej hs
   refine⟨_,ifF (vy (yG (a:=.lst [rf 5,rf 5]) (b:=.lst [rf 5,rf 5]) (zba (ds:=[.int 2,.int 3]) rfl (by show 2<=1000000;decide) (zcw rfl (cA3 (a:=.int 2) (b:=o) (c:=.int 5) rfl rfl rfl (zn0 (tl5 v2))) (zcw rfl (cA3 (a:=.int 3) (b:=o) (c:=.int 5) rfl rfl rfl (znp (tl5 v3))) rfl))) rfl rfl)),_,rfl⟩)
 refine(zB (yL ((yS (ds:=[.int 1,.int 5,.non,.bl true]) rfl).trans eO))).trans ?_
 refine(zB (ifF (vy (yG (a:=rf 1) (b:=rf 1) (cA3 (a:=.int 4) (b:=.tup (sI ws)) (c:=bad) rfl rfl rfl (zoj (tl1 (zj4 (zgP sok y5))))) rfl rfl)))).trans ?_
 obtain ⟨w,ew⟩:∃w:Int,sI (ws.take 1)=[.int w]:=by
  cases hw:ws with
  | nil=>rw[hw] at m2;simp at m2
  | cons w l=>exact⟨w,rfl⟩
 have hsr:vZ [.tup [.int w]]=.ok (.bl false):=rfl
 have rs:yD [.tup [.int w]]=.ex 0:=wO ((zdH (jy (b:=false) (vy (cA1 (a:=.tup [.int w]) rfl hsr)))).trans rfl)
 have q0:yC [.tup [.int w],bad]=.ex 0:=wO (zaA (jf (cA1 (a:=.tup [.int w]) rfl rs)))
 have q1:yd [.tup [.int w],bad]=.ex 0:=wO (zjJ (zkA (a:=.tup [.int w]) rfl (cA2 (a:=.tup [.int w]) (b:=bad) rfl rfl q0)))
 have q4:wL [.tup [.int w],bad]=.ex 0:=zj4 (zoY hsr)
 have tk:∀x:D,fSl (fNm 2) xQ (xN (fC (.int 1))) [.fz x,.fz bad,.fz (.tup (sI ws))]=.ok (.tup [.int w]):=λx=>zfj (a:=.tup (sI ws)) (l:=none) (h:=some ((1:Nat):Int)) rfl rfl rfl (by
  show some (D.tup (zdm (sI ws) none (some ((1:Nat):Int))))=_
  rw[zm7,← ew]
  unfold sI
  rw[ldA])
 exact z9 (yG (a:=.lst [rf 0,rf 0,rf 0]) (b:=.lst [rf 0,rf 0,rf 0]) (zba (ds:=[.int 0,.int 1,.int 4]) rfl (by show 3<=1000000;decide) (zcw rfl (cA3 (a:=.int 0) (b:=.tup [.int w]) (c:=bad) rfl (tk _) rfl (zoN (tl0 q0))) (zcw rfl (cA3 (a:=.int 1) (b:=.tup [.int w]) (c:=bad) rfl (tk _) rfl (znI (tl0 q1))) (zcw rfl (cA3 (a:=.int 4) (b:=.tup [.int w]) (c:=bad) rfl (tk _) rfl (zoj (tl0 q4))) rfl)))) rfl rfl)
end K30
namespace K30
open PySem L2 PyProof.Rows
open PySem.Challenge
open My
open Pg
def top (i:Nat):Stmt:=PySem.Challenge.pw_piecebooks_k30_best.main.body.getD i (.Pass ⟨0,0,0,0⟩)
abbrev zaL:Stmt:=top 60
abbrev jz:Stmt:=top 61
abbrev uD:Stmt:=top 63
abbrev qX:Stmt:=top 71
abbrev kO:Stmt:=top 65
abbrev zbG:Stmt:=top 68
abbrev jZ:Stmt:=top 67
abbrev jC:Stmt:=top 66
abbrev uN:Stmt:=top 72
abbrev uK:Stmt:=top 73
abbrev zbN:Stmt:=top 12
abbrev jE:Stmt:=top 13
abbrev zaS:Stmt:=top 14
abbrev kE:Stmt:=top 15
abbrev um:Stmt:=top 17
abbrev xR:Stmt:=top 26
abbrev zcK:Stmt:=top 49
abbrev qM:Stmt:=top 50
abbrev zct:Stmt:=top 31
abbrev zav:Stmt:=top 40
abbrev jF:Stmt:=top 39
abbrev uY:Stmt:=top 16
abbrev vN:Stmt:=top 18
abbrev vf:Stmt:=top 19
abbrev zet:Stmt:=top 20
abbrev zgx:Stmt:=top 21
abbrev zau:Stmt:=top 43
abbrev uG:Stmt:=top 51
abbrev zcB:Stmt:=top 23
abbrev uq:Stmt:=top 44
abbrev zeg:Stmt:=top 32
abbrev zaM:Stmt:=top 52
abbrev qZ:Stmt:=top 27
abbrev qi:Stmt:=top 28
abbrev jW:Stmt:=top 35
abbrev zaf:Stmt:=top 34
abbrev zak:Stmt:=top 33
abbrev xT:Stmt:=top 36
abbrev q9:Stmt:=top 37
abbrev zc8:Stmt:=top 38
abbrev qw:Stmt:=top 29
abbrev vL:Stmt:=top 30
abbrev zhh:Stmt:=top 22
abbrev zjM:Stmt:=top 45
abbrev uR:Stmt:=top 53
abbrev jG:Stmt:=top 55
abbrev zaQ:Stmt:=top 56
abbrev wN:Stmt:=top 57
abbrev zbH:Stmt:=top 58
abbrev ug:Stmt:=top 47
abbrev zbt:Stmt:=top 41
abbrev jb:Stmt:=top 46
abbrev zc6:Stmt:=top 54
abbrev qz:Stmt:=top 69
abbrev zaB:Stmt:=top 70
abbrev zdw:Stmt:=top 74
structure Txt (K:qQ0)(mg:qQ3) where
 a0:Dn K mg "_law_cell" zaL ["_law_script", "_law_k"]
 a1:Dn K mg "_law_drawn" jz ["_law_script", "_law_k", "_law_many"]
 a2:Dn K mg "_law_source" uD ["_law_script", "_law_at", "_law_many"]
 a3:Dn K mg "_law_all" qX ["_law_many", "_law_size"]
 a4:Dn K mg "_law_lowest" kO ["_law_up", "_law_down"]
 a5:Dn K mg "_law_sum" zbG ["_law_rows"]
 a6:Dn K mg "_law_power" jZ ["_law_number", "_law_many"]
 a7:Dn K mg "_law_share" jC ["_law_source_here", "_law_text_here"]
 a8:Dn K mg "_law_mean" uN ["_law_source_here", "_law_book_here"]
 a9:Dn K mg "_law_greatest" uK ["_law_shares"]
 b0:Dn K mg "is_whole" zbN ["thing"]
 b1:Dn K mg "is_between" jE ["thing", "least", "most"]
 b2:Dn K mg "is_weight" zaS ["thing"]
 b3:Dn K mg "is_source" kE ["thing"]
 b4:Dn K mg "require_source" um ["thing"]
 b5:Dn K mg "is_number_of_letters" xR ["thing"]
 b6:Dn K mg "is_size" zcK ["many", "thing"]
 b7:Dn K mg "require_size" qM ["many", "thing"]
 b8:Dn K mg "gone_on" zct ["many", "texts"]
 b9:Dn K mg "even_book" zav ["many", "length"]
 c0:Dn K mg "first_book" jF ["many"]
 c1:Dn K mg "is_text_of" uY ["many", "thing"]
 c2:Dn K mg "require_text_of" vN ["many", "thing"]
 c3:Dn K mg "greatest_divisor" vf ["one", "other"]
 c4:Dn K mg "lowest" zet ["up", "down"]
 c5:Dn K mg "share" zgx ["source", "text"]
 c6:Dn K mg "shares_of" zau ["source", "texts"]
 c7:Dn K mg "most_partings" uG ["many", "size"]
 c8:Dn K mg "is_less" zcB ["one", "other"]
 c9:Dn K mg "first_greatest" uq ["pieces", "shares"]
 d0:Dn K mg "parted" zeg ["many", "pieces", "piece"]
 d1:Dn K mg "best_book" zaM ["source", "size"]
 d2:Dn K mg "is_rising" qZ ["texts"]
 d3:Dn K mg "are_pieces" qi ["many", "thing"]
 d4:Dn K mg "first_pair" jW ["pieces"]
 d5:Dn K mg "is_apart" zaf ["pieces", "text"]
 d6:Dn K mg "is_inner" zak ["pieces", "text"]
 d7:Dn K mg "first_text_apart" xT ["many", "pieces"]
 d8:Dn K mg "first_paper" q9 ["many", "pieces"]
 d9:Dn K mg "is_book" zc8 ["many", "thing"]
 e0:Dn K mg "require_book" qw ["many", "thing"]
 e1:Dn K mg "require_book_of" vL ["source", "thing"]
 e2:Dn K mg "added" zhh ["one", "other"]
 e3:Dn K mg "mean" zjM ["source", "book"]
 e4:Dn K mg "greatest_mean" uR ["source", "size"]
 e5:Dn K mg "all_parted" jG ["many", "books"]
 e6:Dn K mg "all_books" zaQ ["many", "size"]
 e7:Dn K mg "ways_together" wN ["one", "other"]
 e8:Dn K mg "how_many" zbH ["many", "size"]
 e9:Dn K mg "greatest_piece" ug ["source", "book"]
 f0:Dn K mg "inner_of" zbt ["book"]
 f1:Dn K mg "least_inner" jb ["source", "book"]
 f2:Dn K mg "is_best" zc6 ["source", "book"]
 f3:Dn K mg "_law_refused" qz ["_law_e"]
 f4:Dn K mg "_law_told" zaB ["_law_way", "_law_one", "_law_size"]
 f5:Dn K mg "law" zdw ["_law_script"]
 f6:Value
 f7:mg "FEWEST_LETTERS" = some f6
 f8:RelV (.int (2)) f6
 f9:Value
 g0:mg "GREATEST_WEIGHT" = some f9
 g1:RelV (.int (99)) f9
 g2:Value
 g3:mg "LETTERS" = some g2
 g4:RelV (.str (T [97,98,99,100])) g2
 g5:Value
 g6:mg "MOST_PIECES" = some g5
 g7:RelV (.int (32)) g5
 g8:mg "ValueError" = none
 g9:mg "all" = none
 h0:mg "any" = none
 h1:mg "bool" = none
 h2:mg "dict" = none
 h3:mg "enumerate" = none
 h4:mg "int" = none
 h5:mg "isinstance" = none
 h6:mg "len" = none
 h7:mg "list" = none
 h8:mg "range" = none
 h9:mg "sorted" = none
 i0:mg "str" = none
 i1:mg "sum" = none
 i2:mg "tuple" = none
 i3:mg "zip" = none
 i4:Own K mg "NoBook"
 i5:Own K mg "NoLetters"
 i6:Own K mg "NoPiece"
 i7:Own K mg "NoSize"
 i8:Own K mg "NoSource"
 i9:Own K mg "NoWord"
 j0:Own K mg "PieceError"
 j1:ExcK K i8.C
 j2:PySem.W.subIn K (.ref i8.C) (.ref j0.C)=some true
 j3:PySem.W.kitOne K (.ref i8.C) (.ref i8.C)=some true
 j4:PySem.W.kitOne K (.ref i8.C) (.ref i4.C)=some false
 j5:PySem.W.kitOne K (.ref i8.C) (.ref i6.C)=some false
 j6:PySem.W.kitOne K (.ref i8.C) (.ref i5.C)=some false
 j7:PySem.W.kitOne K (.ref i8.C) (.ref i9.C)=some false
 j8:PySem.W.kitOne K (.ref i8.C) (.ref i7.C)=some false
 j9:PySem.W.kitOne K (.ref i8.C) (.type "ValueError")=some true
 k0:ExcK K i4.C
 k1:PySem.W.subIn K (.ref i4.C) (.ref j0.C)=some true
 k2:PySem.W.kitOne K (.ref i4.C) (.ref i8.C)=some false
 k3:PySem.W.kitOne K (.ref i4.C) (.ref i4.C)=some true
 k4:PySem.W.kitOne K (.ref i4.C) (.ref i6.C)=some false
 k5:PySem.W.kitOne K (.ref i4.C) (.ref i5.C)=some false
 k6:PySem.W.kitOne K (.ref i4.C) (.ref i9.C)=some false
 k7:PySem.W.kitOne K (.ref i4.C) (.ref i7.C)=some false
 k8:PySem.W.kitOne K (.ref i4.C) (.type "ValueError")=some true
 k9:ExcK K i7.C
 l0:PySem.W.subIn K (.ref i7.C) (.ref j0.C)=some true
 l1:PySem.W.kitOne K (.ref i7.C) (.ref i8.C)=some false
 l2:PySem.W.kitOne K (.ref i7.C) (.ref i4.C)=some false
 l3:PySem.W.kitOne K (.ref i7.C) (.ref i6.C)=some false
 l4:PySem.W.kitOne K (.ref i7.C) (.ref i5.C)=some false
 l5:PySem.W.kitOne K (.ref i7.C) (.ref i9.C)=some false
 l6:PySem.W.kitOne K (.ref i7.C) (.ref i7.C)=some true
 l7:PySem.W.kitOne K (.ref i7.C) (.type "ValueError")=some true
def wM {K:qQ0}{mg:qQ3}(t:Txt K mg):Nat->Addr
 | 1=>t.i4.C
 | 3=>t.i5.C
 | 2=>t.i6.C
 | 5=>t.i7.C
 | 0=>t.i8.C
 | 4=>t.i9.C
 | _=>0
section
variable {P:Program}{w:World}{K:qQ0}{mg:qQ3}{base:Heap}
abbrev FO (P:Program)(w:World)(base:Heap)(t:Txt K mg)(k:Nat){x:Str}{st:Stmt}{ps:List Str}(d:Dn K mg x st ps)(fn:List D->Rs D)(n:Nat):Prop:=FnOk P w K mg base (CX1 P w) k d.f d.fd ps (spD K (wM t) fn n)
abbrev zgO:List Str:=["_law_script", "_law_k"]
theorem zfE:FnScope zgO ["_law_script", "_law_k"] (zu zaL):=fsc (by decide +kernel)
theorem zf5 (t:Txt K mg):FO P w base t 1 t.a0 qm 2:=(vA 2 2 0 uQ (wM t) t.a0 zfE λ_ _ _ _ _ _ hr =>
   (zq (uy (wZ (zh8 hr.units) zq3 (xv 0) (jJ zx) (xM _))
   (zA (zL (zW yu xJ zG (xv 1))))
   yx)
   (zA (zL (zW v9 vY (xO (xv 0) (zW zbS zbX (xv 1) (zU yr n_len rfl t.h6 lbI (zf (xv 0) zx zb) zb)) (λ_ _=>rfl)) (zW yu xJ zG (zW uE kJ (xv 1) (zU yr n_len rfl t.h6 lbI (zf (xv 0) zx zb) zb))))))):FO P w base t 1 t.a0 (zX 2 uQ) 2)
abbrev zgo:List Str:=["_law_script", "_law_k", "_law_many", "_law_cell_here"]
theorem sc__law_drawn:FnScope zgo ["_law_script", "_law_k", "_law_many"] (zu jz):=fsc (by decide +kernel)
theorem wA (t:Txt K mg):FO P w base t 2 t.a1 yw 3:=(vA 4 3 1 v7 (wM t) t.a1 sc__law_drawn λ_ _ _ _ _ _ hr =>
   (zq (zM (i:=3) sc__law_drawn.nd rfl (Or.inl rfl) (zW zbS zbX (zW v9 vY (zW yu xJ (zW zbS zbX (zy (zf5 t) hr z8 (zf (xv 0) (zf (xv 1) zx zb) zb) zb) zG) zG) (zW yu xJ zG (zW v9 vY (xv 1) zG))) zG))
   (zq (zM (i:=3) sc__law_drawn.nd rfl (Or.inl rfl) (zW zbS zbX (zW v9 vY (zW yu xJ (xv 3) (xv 3)) (zW uE kJ (xv 3) zG)) zG))
   (zA (zL (zW zbS zbX (zW uE kJ (zW zbS zbX (zW v9 vY (zW yu xJ (xv 3) (xv 3)) (zW uE kJ (xv 3) zG)) zG) zG) (xv 2)))))):FO P w base t 2 t.a1 (zX 4 v7) 3)
abbrev zbk:List Str:=["_law_script", "_law_at", "_law_many", "_law_most"]
theorem sc__law_source:FnScope zbk ["_law_script", "_law_at", "_law_many"] (zu uD):=fsc (by decide +kernel)
theorem zdE (t:Txt K mg):FO P w base t 3 t.a2 qK 3:=(vA 4 3 2 jd (wM t) t.a2 sc__law_source λ_ _ _ _ _ _ hr =>
   (zq (zM (i:=3) sc__law_source.nd rfl (Or.inr rfl) (XEw.out (zlf (jm (zK yJ (zK yJ (zK yJ xK zm) zm) zm)) (XEw.mk (zy (wA t) hr z8 (zf (xv 0) (zf (xv 1) (zf zG zx zm) zb) zb) zb)) (λ_ _=>rfl))))
   (zA (zL (qW wz ziA rfl t.i2 ldb (zf (uL (x := "_law_k") (caps:=[0,3,1]) (xj (fs:=zu uD) (N:=zbk) rfl rfl (by decide +kernel)) rfl (wg rfl t.h8 (zf (xv 2) zx zb) rfl) ⟨λ_ _ _ _ _=>(zN (i:=0) (kI (N:=["_law_k", "_law_script", "_law_most", "_law_at"]) rfl (by decide +kernel)) rfl (Or.inl rfl)),λ_ _ _ _ _=>xV,λ_ _ _ _ _=>(zW v9 vY zG (zy (wA t) hr xW (zf (xv 1) (zf (zW v9 vY (zW v9 vY (xv 3) zG) (xv 0)) (zf (xv 2) zx zb) yU) zb) zb))⟩) zx rfl) rfl)))):FO P w base t 3 t.a2 (zX 4 jd) 3)
abbrev zbz:List Str:=["_law_many", "_law_size", "_law_found", "_law_row", "_law_longer", "_law_book_here", "_law_at", "_law_parts", "_law_more"]
theorem sc__law_all:FnScope zbz ["_law_many", "_law_size"] (zu qX):=fsc (by decide +kernel)
theorem zgI (t:Txt K mg):FO P w base t 1 t.a3 zaH 2:=(vA 9 2 0 qU (wM t) t.a3 sc__law_all λ_ _ _ _ _ _ hr =>
   (zq (zM (i:=2) sc__law_all.nd rfl (Or.inl rfl) (jJ zx))
   (zq (zM (i:=3) sc__law_all.nd rfl (Or.inl rfl) (jJ (zf (qW wz ziA rfl t.i2 ldb (zf (uL (x := "_law_k") (caps:=[]) (xj (fs:=zu qX) (N:=zbz) rfl rfl (by decide +kernel)) rfl (wg rfl t.h8 (zf (xv 0) zx zb) rfl) ⟨λ_ _ _ _ _=>(zN (i:=0) (kI (N:=["_law_k"]) rfl (by decide +kernel)) rfl (Or.inl rfl)),λ_ _ _ _ _=>xV,λ_ _ _ _ _=>(xO (kj [97,98,99,100] (by decide +kernel)) (xv 0) (λ_ _=>rfl))⟩) zx rfl) rfl) zx zJ)))
   (zq (yW (zbg 12 lN (wZ zf6 zfm (zU yr n_len rfl t.h6 lbI (zf (xO (xv 3) zG (λ_ _=>rfl)) zx xq) xq) (xv 1) (xM _))
   (zq (zM (i:=2) sc__law_all.nd rfl (Or.inl rfl) (XL.xe (zcS (xv 2) (xv 3))))
   (zq (zkr (i:=4) sc__law_all.nd rfl (Or.inl rfl))
   (zq (yV (i:=5) lN rfl (qC (xv 3)) (zN (i:=5) sc__law_all.nd rfl (Or.inr rfl))
   (zA (yV (i:=6) lN rfl (wg rfl t.h8 (zf (zU yr n_len rfl t.h6 lbI (zf (xv 5) zx zb) zb) zx zJ) rfl) (zN (i:=6) sc__law_all.nd rfl (Or.inr rfl))
   (zq (zbx (j:=7) sc__law_all.nd rfl rfl (x := "_law_k") (caps:=[5,6]) (xj (fs:=zu qX) (N:=zbz) rfl rfl (by decide +kernel)) rfl (wg rfl t.h8 (zf (xv 0) zx zb) rfl) ⟨λ_ _ _ _ _=>(zN (i:=0) (kI (N:=["_law_k", "_law_book_here", "_law_at"]) rfl (by decide +kernel)) rfl (Or.inl rfl)),λ_ _ _ _ _=>xV,λ_ _ _ _ _=>(zW zha zkh (xO (xv 1) (xv 2) (λ_ _=>rfl)) (xO (kj [97,98,99,100] (by decide +kernel)) (xv 0) (λ_ _=>rfl)))⟩ rfl)
   (zq (zM (i:=8) sc__law_all.nd rfl (Or.inl rfl) (XL.xe (zfx rfl t.h9 boot_sorted (XL.xe (zcS (XL.xe (zcS (XL.xe (zcE rfl t.h7 boot_list (wu (xv 5) vD (vP (xv 6))) xq)) (xv 7))) (XL.xe (zcE rfl t.h7 boot_list (wu (xv 5) (vP (zW v9 vY (xv 6) zG)) vD) xq)))) yU)))
   (zA (zkF (ze1 hr) (pv 4) (qW wz ziA rfl t.i2 ldb (zf (xv 8) zx zb) zb) jn)))))))
   (zA (zM (i:=3) sc__law_all.nd rfl (Or.inl rfl) (XL.xe (zdZ rfl rfl t.h9 (pv 4) zb)))))))))
   (zA (zL (xv 2)))))):FO P w base t 1 t.a3 (zX 9 qU) 2)
abbrev zeC:List Str:=["_law_up", "_law_down", "_law_one", "_law_other"]
theorem sc__law_lowest:FnScope zeC ["_law_up", "_law_down"] (zu kO):=fsc (by decide +kernel)
theorem zas (t:Txt K mg):FO P w base t 1 t.a4 vR 2:=(vA 4 2 0 kZ (wM t) t.a4 sc__law_lowest λ_ _ _ _ _ _ hr =>
   (zq (zM (i:=2) sc__law_lowest.nd rfl (Or.inl rfl) (xv 0))
   (zq (zM (i:=3) sc__law_lowest.nd rfl (Or.inl rfl) (xv 1))
   (zq (yW (zbg 4000 lN (wZ zo1 zoM (xv 3) zG (xM _))
   (zA (zqP (i:=2) (j:=3) rfl sc__law_lowest.nd rfl rfl (by decide) rfl rfl (zf (xv 3) (zf (zW zbS zbX (xv 2) (xv 3)) zx yU) zb) rfl))))
   (zA (zL (zdN (zf (zW uE kJ (xv 0) (xv 2)) (zf (zW uE kJ (xv 1) (xv 2)) zx yU) yU))))))):FO P w base t 1 t.a4 (zX 4 kZ) 2)
abbrev ziE:List Str:=["_law_rows", "_law_up", "_law_down", "_law_one"]
theorem sc__law_sum:FnScope ziE ["_law_rows"] (zu zbG):=fsc (by decide +kernel)
theorem zgW (t:Txt K mg):FO P w base t 2 t.a5 zaG 1:=(vA 4 1 1 zbJ (wM t) t.a5 sc__law_sum λ_ _ _ _ _ _ hr =>
   (zq (zM (i:=1) sc__law_sum.nd rfl (Or.inl rfl) zG)
   (zq (zM (i:=2) sc__law_sum.nd rfl (Or.inl rfl) zG)
   (zq (yW (yV (i:=3) lN rfl (qC (xv 0)) (zN (i:=3) sc__law_sum.nd rfl (Or.inl rfl))
   (zq (zM (i:=1) sc__law_sum.nd rfl (Or.inl rfl) (zW v9 vY (zW yu xJ (xv 1) (xO (xv 3) zG (λ_ _=>rfl))) (zW yu xJ (xO (xv 3) zG (λ_ _=>rfl)) (xv 2))))
   (zA (zM (i:=2) sc__law_sum.nd rfl (Or.inl rfl) (zW yu xJ (xv 2) (xO (xv 3) zG (λ_ _=>rfl))))))))
   (zA (zL (zy (zas t) hr z8 (zf (xv 1) (zf (xv 2) zx zb) zb) zb)))))):FO P w base t 2 t.a5 (zX 4 zbJ) 1)
abbrev zfN:List Str:=["_law_number", "_law_many", "_law_found", "_law_turn"]
theorem sc__law_power:FnScope zfN ["_law_number", "_law_many"] (zu jZ):=fsc (by decide +kernel)
theorem ze2 (t:Txt K mg):FO P w base t 1 t.a6 je 2:=(vA 4 2 0 jN (wM t) t.a6 sc__law_power λ_ _ _ _ _ _ hr =>
   (zq (zM (i:=2) sc__law_power.nd rfl (Or.inl rfl) zG)
   (zq (yW (yV (i:=3) lN rfl (wg rfl t.h8 (zf (xv 1) zx zb) rfl) (zN (i:=3) sc__law_power.nd rfl (Or.inl rfl))
   (zA (zM (i:=2) sc__law_power.nd rfl (Or.inl rfl) (zW yu xJ (xv 2) (xv 0))))))
   (zA (zL (xv 2))))):FO P w base t 1 t.a6 (zX 4 jN) 2)
abbrev zfl:List Str:=["_law_source_here", "_law_text_here", "_law_up", "_law_sign"]
theorem sc__law_share:FnScope zfl ["_law_source_here", "_law_text_here"] (zu jC):=fsc (by decide +kernel)
theorem zaV (t:Txt K mg):FO P w base t 2 t.a7 jj 2:=(vA 4 2 1 jU (wM t) t.a7 sc__law_share λ_ _ _ _ _ _ hr =>
   (zq (zM (i:=2) sc__law_share.nd rfl (Or.inl rfl) zG)
   (zq (yW (yV (i:=3) lN rfl (zh2 (xv 1)) (zN (i:=3) sc__law_share.nd rfl (Or.inl rfl))
   (zA (zM (i:=2) sc__law_share.nd rfl (Or.inl rfl) (zW yu xJ (xv 2) (xO (xv 0) (zos (kj [97,98,99,100] (by decide +kernel)) (xv 3) ⟨zb,rfl,rfl,rfl,rfl⟩) (λ_ _=>rfl)))))))
   (zA (zL (zy (zas t) hr z8 (zf (xv 2) (zf (zy (ze2 t) hr z8 (zf (zU (zfP rfl) n_sum rfl t.i1 boot_sum (zf (xv 0) zx zb) zb) (zf (zU yr n_len rfl t.h6 lbI (zf (xv 1) zx zb) zb) zx zJ) zJ) zJ) zx zJ) zb) zb))))):FO P w base t 2 t.a7 (zX 4 jU) 2)
abbrev zat:List Str:=["_law_source_here", "_law_book_here", "_law_rows"]
theorem sc__law_mean:FnScope zat ["_law_source_here", "_law_book_here"] (zu uN):=fsc (by decide +kernel)
theorem jX (t:Txt K mg):FO P w base t 3 t.a8 qp 2:=(vA 3 2 2 zaC (wM t) t.a8 sc__law_mean λ_ _ _ _ _ _ hr =>
   (zq (zbx (j:=2) sc__law_mean.nd rfl rfl (x := "_law_piece") (caps:=[0]) (xj (fs:=zu uN) (N:=zat) rfl rfl (by decide +kernel)) rfl (ur (xv 1)) ⟨λ_ _ _ _ _=>(zN (i:=0) (kI (N:=["_law_piece", "_law_source_here"]) rfl (by decide +kernel)) rfl (Or.inl rfl)),λ_ _ _ _ _=>xV,λ_ _ _ _ _=>(zy (zaV t) hr xW (zf (xv 1) (zf (xv 0) zx zb) zb) zb)⟩ rfl)
   (zA (zL (zy (zgW t) hr z8 (zf (XL.xe (zl3 (x := "_law_piece") (y := "_law_up") (z := "_law_down") (caps:=[]) (xj (fs:=zu uN) (N:=zat) rfl rfl (by decide +kernel)) rfl rfl t.i3 (xv 1) (xv 2) ⟨λ_ _ _ _ _=>(zn6 (K:=K) (i:=0) (j:=1) (l:=2) rfl rfl (kI (N:=["_law_piece", "_law_up", "_law_down"]) rfl (by decide +kernel)) rfl rfl rfl (Or.inl rfl) (Or.inl rfl) (Or.inl rfl)),λ_ _ _ _ _=>xV,λ_ _ _ _ _=>(zdN (zf (zW yu xJ (xv 1) (zU yr n_len rfl t.h6 lbI (zf (xv 0) zx zb) zb)) (zf (xv 2) zx zb) yU))⟩ rfl rfl)) zx rfl) rfl)))):FO P w base t 3 t.a8 (zX 3 zaC) 2)
abbrev zcH:List Str:=["_law_shares", "_law_found", "_law_at", "_law_one"]
theorem sc__law_greatest:FnScope zcH ["_law_shares"] (zu uK):=fsc (by decide +kernel)
theorem zcd (t:Txt K mg):FO P w base t 1 t.a9 uo 1:=(vA 4 1 0 uP (wM t) t.a9 sc__law_greatest λ_ _ _ _ _ _ hr =>
   (zq (zM (i:=1) sc__law_greatest.nd rfl (Or.inl rfl) zG)
   (zq (yW (zlH (i:=2) (j:=3) lN rfl rfl t.h3 (xv 0) (zkb (K:=K) (i:=2) (j:=3) rfl rfl sc__law_greatest.nd rfl rfl (Or.inl rfl) (Or.inl rfl))
   (zA (uy (wZ zo1 zoM (zW yu xJ (xO (xv 3) zG (λ_ _=>rfl)) (xO (xO (xv 0) (xv 1) (λ_ _=>rfl)) zG (λ_ _=>rfl))) (zW yu xJ (xO (xO (xv 0) (xv 1) (λ_ _=>rfl)) zG (λ_ _=>rfl)) (xO (xv 3) zG (λ_ _=>rfl))) (xM _))
   (zA (zM (i:=1) sc__law_greatest.nd rfl (Or.inl rfl) (xv 2)))
   yx)) zb))
   (zA (zL (xv 1))))):FO P w base t 1 t.a9 (zX 4 uP) 1)
abbrev ziI:List Str:=["thing"]
theorem zgV:FnScope ziI ["thing"] (zu zbN):=fsc (by decide +kernel)
theorem zgR (t:Txt K mg):FO P w base t 1 t.b0 zaw 1:=(vA 1 1 0 zbA (wM t) t.b0 zgV λ_ _ _ _ _ _ hr =>
   (zA (zL (zcV (zfL zno rfl t.h5 (xv 0) (zbD (v:=.ty "int") rfl t.h4 boot_int rfl) zb) (zbV (zkN (zfL zk8 rfl t.h5 (xv 0) (zbD (v:=.ty "bool") rfl t.h1 boot_bool rfl) zb)))))):FO P w base t 1 t.b0 (zX 1 zbA) 1)
abbrev zfF:List Str:=["thing", "least", "most"]
theorem zd7:FnScope zfF ["thing", "least", "most"] (zu jE):=fsc (by decide +kernel)
theorem qY (t:Txt K mg):FO P w base t 2 t.b1 wF 3:=(vA 3 3 1 qu (wM t) t.b1 zd7 λ_ _ _ _ _ _ hr =>
   (zA (zL (zcV (zy (zgR t) hr z8 (zf (xv 0) zx zb) zb) (zbV (zlm zf6 zf6 zfm zfm (xv 1) (xv 0) (xv 2)))))):FO P w base t 2 t.b1 (zX 3 qu) 3)
abbrev zg3:List Str:=["thing"]
theorem zfI:FnScope zg3 ["thing"] (zu zaS):=fsc (by decide +kernel)
theorem zf2 (t:Txt K mg):FO P w base t 3 t.b2 qt 1:=(vA 1 1 2 zaU (wM t) t.b2 zfI λ_ _ _ _ _ _ hr =>
   (zA (zL (zy (qY t) hr z8 (zf (xv 0) (zf zG (zf (zhG (xX (v:=.int (99)) rfl t.g0 t.g1) λ_=>.int _) zx zb) zm) zb) zb))):FO P w base t 3 t.b2 (zX 1 zaU) 1)
abbrev zcz:List Str:=["thing"]
theorem zgn:FnScope zcz ["thing"] (zu kE):=fsc (by decide +kernel)
theorem zfW (t:Txt K mg):FO P w base t 4 t.b3 vZ 1:=(vA 1 1 3 zay (wM t) t.b3 zgn λ_ _ _ _ _ _ hr =>
   (zq (uy (jL (ql (zfL kit_tuple rfl t.h5 (xv 0) (zbD (v:=.ty "tuple") rfl t.i2 ldb rfl) zb)))
   (zA (zL jn))
   yx)
   (zq (uy (jL (zhM zf6 zf6 zfm zfm (zhG (xX (v:=.int (2)) rfl t.f7 t.f8) λ_=>.int _) (zU yr n_len rfl t.h6 lbI (zf (xv 0) zx zb) zb) (zU yr n_len rfl t.h6 lbI (zf (zhG (xX (v:=.str (T [97,98,99,100])) rfl t.g3 t.g4) λ_=>.str [97,98,99,100] (ze5 (by decide +kernel) (by decide +kernel))) zx zb) zb)))
   (zA (zL jn))
   yx)
   (zA (zL (zU (zcr rfl) n_all rfl t.g9 boot_all (zf (uL (x := "part") (caps:=[]) (xj (fs:=zu kE) (N:=zcz) rfl rfl (by decide +kernel)) rfl (ur (xv 0)) ⟨λ_ _ _ _ _=>(zN (i:=0) (kI (N:=["part"]) rfl (by decide +kernel)) rfl (Or.inl rfl)),λ_ _ _ _ _=>xV,λ_ _ _ _ _=>(zy (zf2 t) hr xW (zf (xv 0) zx zb) zb)⟩) zx rfl) rfl))))):FO P w base t 4 t.b3 (zX 1 zay) 1)
abbrev zcc:List Str:=["thing"]
theorem zbI:FnScope zcc ["thing"] (zu um):=fsc (by decide +kernel)
theorem vH (t:Txt K mg):FO P w base t 5 t.b4 yD 1:=(vA 1 1 4 uh (wM t) t.b4 zbI λ_ _ _ _ _ _ hr =>
   (zA (uy (jL (ql (zy (zfW t) hr z8 (zf (xv 0) zx zb) zb)))
   (zA (zcp t.i8 rfl rfl (zf (kj [116,104,105,115,32,105,115,32,110,111,32,116,117,112,108,101,32,111,102,32,50,32,116,111,32,52,32,119,101,105,103,104,116,115,32,102,114,111,109,32,49,32,116,111,32,57,57] (by decide +kernel)) zx zm) zm))
   yx)):FO P w base t 5 t.b4 (zX 1 uh) 1)
abbrev jr:List Str:=["thing"]
theorem jg:FnScope jr ["thing"] (zu xR):=fsc (by decide +kernel)
theorem vp (t:Txt K mg):FO P w base t 3 t.b5 yc 1:=(vA 1 1 2 yH (wM t) t.b5 jg λ_ _ _ _ _ _ hr =>
   (zA (zL (zy (qY t) hr z8 (zf (xv 0) (zf (zhG (xX (v:=.int (2)) rfl t.f7 t.f8) λ_=>.int _) (zf (zU yr n_len rfl t.h6 lbI (zf (zhG (xX (v:=.str (T [97,98,99,100])) rfl t.g3 t.g4) λ_=>.str [97,98,99,100] (ze5 (by decide +kernel) (by decide +kernel))) zx zb) zb) zx zJ) zb) zb) zb))):FO P w base t 3 t.b5 (zX 1 yH) 1)
abbrev zkK:List Str:=["many", "thing"]
theorem zie:FnScope zkK ["many", "thing"] (zu zcK):=fsc (by decide +kernel)
theorem ziB (t:Txt K mg):FO P w base t 4 t.b6 yZ 2:=(vA 2 2 3 zda (wM t) t.b6 zie λ_ _ _ _ _ _ hr =>
   (zA (zL (zcV (zy (vp t) hr z8 (zf (xv 0) zx zb) zb) (zbV (zy (qY t) hr z8 (zf (xv 1) (zf (xv 0) (zf (zhG (xX (v:=.int (32)) rfl t.g6 t.g7) λ_=>.int _) zx zb) zb) zb) zb))))):FO P w base t 4 t.b6 (zX 2 zda) 2)
abbrev zdC:List Str:=["many", "thing"]
theorem zcu:FnScope zdC ["many", "thing"] (zu qM):=fsc (by decide +kernel)
theorem uI (t:Txt K mg):FO P w base t 5 t.b7 yF 2:=(vA 2 2 4 qJ (wM t) t.b7 zcu λ_ _ _ _ _ _ hr =>
   (zA (uy (jL (ql (zy (ziB t) hr z8 (zf (xv 0) (zf (xv 1) zx zb) zb) zb)))
   (zA (zcp t.i7 rfl rfl (zf (kj [116,104,105,115,32,105,115,32,110,111,32,115,105,122,101,32,102,114,111,109,32,97,115,32,109,97,110,121,32,97,115,32,116,104,101,114,101,32,97,114,101,32,108,101,116,116,101,114,115,44,32,50,32,116,111,32,52,44,32,116,111,32,51,50] (by decide +kernel)) zx zm) zm))
   yx)):FO P w base t 5 t.b7 (zX 2 qJ) 2)
abbrev zjj:List Str:=["many", "texts", "longer", "text", "letter"]
theorem sc_gone_on:FnScope zjj ["many", "texts"] (zu zct):=fsc (by decide +kernel)
theorem zai (t:Txt K mg):FO P w base t 1 t.b8 yt 2:=(vA 5 2 0 jD (wM t) t.b8 sc_gone_on λ_ _ _ _ _ _ hr =>
   (zq (zhg (i:=2) sc_gone_on.nd rfl (Or.inl rfl) (zm5 zx))
   (zq (yW (yV (i:=3) lN rfl (qC (xv 1)) (zN (i:=3) sc_gone_on.nd rfl (Or.inl rfl))
   (zA (yV (i:=4) lN rfl (zh2 (wu (zhG (xX (v:=.str (T [97,98,99,100])) rfl t.g3 t.g4) λ_=>.str [97,98,99,100] (ze5 (by decide +kernel) (by decide +kernel))) vD (vP (xv 0)))) (zN (i:=4) sc_gone_on.nd rfl (Or.inl rfl))
   (zA (zfk (pv 2) (zW zha zkh (xv 3) (xv 4)) ⟨yU,rfl,rfl,rfl,rfl⟩))))))
   (zA (zkf (i:=2) (zL (xv 2)))))):FO P w base t 1 t.b8 (zX 5 jD) 2)
abbrev zhd:List Str:=["many", "length", "texts", "step"]
theorem sc_even_book:FnScope zhd ["many", "length"] (zu zav):=fsc (by decide +kernel)
theorem ze6 (t:Txt K mg):FO P w base t 2 t.b9 jQ 2:=(vA 4 2 1 zaE (wM t) t.b9 sc_even_book λ_ _ _ _ _ _ hr =>
   (zq (zM (i:=2) sc_even_book.nd rfl (Or.inl rfl) (XEw.out (jm (zK (zap (l:=[]) (by decide +kernel) (ze5 (by decide +kernel) (by decide +kernel))) xK zm))))
   (zq (yW (yV (i:=3) lN rfl (wg rfl t.h8 (zf (xv 1) zx zb) rfl) (zN (i:=3) sc_even_book.nd rfl (Or.inl rfl))
   (zA (zM (i:=2) sc_even_book.nd rfl (Or.inl rfl) (zy (zai t) hr xW (zf (xv 0) (zf (xv 2) zx zb) zb) zb)))))
   (zA (zL (qW wz ziA rfl t.i2 ldb (zf (xv 2) zx zb) zb))))):FO P w base t 2 t.b9 (zX 4 zaE) 2)
abbrev ze8:List Str:=["many"]
theorem zek:FnScope ze8 ["many"] (zu jF):=fsc (by decide +kernel)
theorem zbj (t:Txt K mg):FO P w base t 3 t.c0 uz 1:=(vA 1 1 2 jK (wM t) t.c0 zek λ_ _ _ _ _ _ hr =>
   (zA (zL (zy (ze6 t) hr z8 (zf (xv 0) (zf zG zx zm) zb) zb))):FO P w base t 3 t.c0 (zX 1 jK) 1)
abbrev zb0:List Str:=["many", "thing", "letters"]
theorem sc_is_text_of:FnScope zb0 ["many", "thing"] (zu uY):=fsc (by decide +kernel)
theorem zbf (t:Txt K mg):FO P w base t 1 t.c1 xu 2:=(vA 3 2 0 u5 (wM t) t.c1 sc_is_text_of λ_ _ _ _ _ _ hr =>
   (zq (zM (i:=2) sc_is_text_of.nd rfl (Or.inr rfl) (wu (zhG (xX (v:=.str (T [97,98,99,100])) rfl t.g3 t.g4) λ_=>.str [97,98,99,100] (ze5 (by decide +kernel) (by decide +kernel))) vD (vP (xv 0))))
   (zA (zL (zcV (zfL zoE rfl t.h5 (xv 1) (zbD (v:=.ty "str") rfl t.i0 boot_str rfl) zb) (zbV (zU (zcr rfl) n_all rfl t.g9 boot_all (zf (uL (x := "sign") (caps:=[2]) (xj (fs:=zu uY) (N:=zb0) rfl rfl (by decide +kernel)) rfl (zh2 (xv 1)) ⟨λ_ _ _ _ _=>(zN (i:=0) (kI (N:=["sign", "letters"]) rfl (by decide +kernel)) rfl (Or.inl rfl)),λ_ _ _ _ _=>xV,λ_ _ _ _ _=>(zdi zpZ zrt (xv 0) (xv 1) (by with_unfolding_all rfl))⟩) zx rfl) rfl)))))):FO P w base t 1 t.c1 (zX 3 u5) 2)
abbrev zbr:List Str:=["many", "thing"]
theorem za1:FnScope zbr ["many", "thing"] (zu vN):=fsc (by decide +kernel)
theorem za8 (t:Txt K mg):FO P w base t 2 t.c2 vm 2:=(vA 2 2 1 vG (wM t) t.c2 za1 λ_ _ _ _ _ _ hr =>
   (zA (uy (jL (ql (zy (zbf t) hr z8 (zf (xv 0) (zf (xv 1) zx zb) zb) zb)))
   (zA (zcp t.i5 rfl rfl (zf (kj [116,104,105,115,32,105,115,32,110,111,32,116,101,120,116,32,111,102,32,116,104,101,115,101,32,108,101,116,116,101,114,115] (by decide +kernel)) zx zm) zm))
   yx)):FO P w base t 2 t.c2 (zX 2 vG) 2)
abbrev za3:List Str:=["one", "other", "rest"]
theorem sc_greatest_divisor:FnScope za3 ["one", "other"] (zu vf):=fsc (by decide +kernel)
theorem zax (t:Txt K mg):FO P w base t 1 t.c3 wJ 2:=(vA 3 2 0 wW (wM t) t.c3 sc_greatest_divisor λ_ _ _ _ _ _ hr =>
   (zq (yW (zbg 4000 lN (wZ (uX hr.units) zhQ (xv 1) zG (xM _))
   (zq (zM (i:=2) sc_greatest_divisor.nd rfl (Or.inl rfl) (zW zbS zbX (xv 0) (xv 1)))
   (zq (zM (i:=0) sc_greatest_divisor.nd rfl (Or.inl rfl) (xv 1))
   (zA (zM (i:=1) sc_greatest_divisor.nd rfl (Or.inl rfl) (xv 2)))))))
   (zA (zL (xv 0)))):FO P w base t 1 t.c3 (zX 3 wW) 2)
abbrev zlJ:List Str:=["up", "down", "divisor"]
theorem sc_lowest:FnScope zlJ ["up", "down"] (zu zet):=fsc (by decide +kernel)
theorem zgf (t:Txt K mg):FO P w base t 2 t.c4 za9 2:=(vA 3 2 1 zez (wM t) t.c4 sc_lowest λ_ _ _ _ _ _ hr =>
   (zq (zM (i:=2) sc_lowest.nd rfl (Or.inl rfl) (zy (zax t) hr z8 (zf (xv 0) (zf (xv 1) zx zb) zb) zb))
   (zA (zL (zdN (zf (zW uE kJ (xv 0) (xv 2)) (zf (zW uE kJ (xv 1) (xv 2)) zx yU) yU))))):FO P w base t 2 t.c4 (zX 3 zez) 2)
abbrev znf:List Str:=["source", "text", "weights", "whole", "up", "down", "letter"]
theorem sc_share:FnScope znf ["source", "text"] (zu zgx):=fsc (by decide +kernel)
theorem zac (t:Txt K mg):FO P w base t 6 t.c5 yO 2:=(vA 7 2 5 zc2 (wM t) t.c5 sc_share λ_ _ _ _ _ _ hr =>
   (zq (uM (zy (vH t) hr z8 (zf (xv 0) zx zb) zb))
   (zq (uM (zy (za8 t) hr z8 (zf (zU yr n_len rfl t.h6 lbI (zf (xv 0) zx zb) zb) (zf (xv 1) zx zb) zJ) zJ))
   (zq (zM (i:=2) sc_share.nd rfl (Or.inl rfl) (zgA rfl rfl t.h2 rfl t.i3 (zhG (xX (v:=.str (T [97,98,99,100])) rfl t.g3 t.g4) λ_=>.str [97,98,99,100] (ze5 (by decide +kernel) (by decide +kernel))) (xv 0)))
   (zq (zM (i:=3) sc_share.nd rfl (Or.inl rfl) (zU (zfP rfl) n_sum rfl t.i1 boot_sum (zf (xv 0) zx zb) zb))
   (zq (zM (i:=4) sc_share.nd rfl (Or.inl rfl) zG)
   (zq (zM (i:=5) sc_share.nd rfl (Or.inl rfl) zG)
   (zq (yW (yV (i:=6) lN rfl (zh2 (xv 1)) (zN (i:=6) sc_share.nd rfl (Or.inl rfl))
   (zq (zM (i:=4) sc_share.nd rfl (Or.inl rfl) (zW yu xJ (xv 4) (zjP (ze1 hr) (xv 2) (xv 6))))
   (zA (zM (i:=5) sc_share.nd rfl (Or.inl rfl) (zW yu xJ (xv 5) (xv 3)))))))
   (zA (zL (zy (zgf t) hr z8 (zf (xv 4) (zf (xv 5) zx zb) zb) zb)))))))))):FO P w base t 6 t.c5 (zX 7 zc2) 2)
abbrev zg0:List Str:=["source", "texts", "shares", "text"]
theorem sc_shares_of:FnScope zg0 ["source", "texts"] (zu zau):=fsc (by decide +kernel)
theorem zeJ (t:Txt K mg):FO P w base t 7 t.c6 uZ 2:=vA 4 2 6 _ (wM t) t.c6 sc_shares_of λ_ _ _ _ _ _ hr =>
   (zq (ze3 (i:=2) sc_shares_of.nd rfl (Or.inl rfl))
   (zq (yW (yV (i:=3) lN rfl (qC (xv 1)) (zN (i:=3) sc_shares_of.nd rfl (Or.inl rfl))
   (zA (zel (ze1 hr) (pv 2) (xv 3) (zy (zac t) hr xW (zf (xv 0) (zf (xv 3) zx zb) zb) zb)))))
   (zA (zjN (i:=2) (zL (znx 2 (pv 2)))))))
theorem zeW (t:Txt K mg):FnOk P w K mg base (CX1 P w) 7 t.c6.f t.c6.fd ["source", "texts"] (spK K (wM t) u9 2) :=
 fnK (N:=["source", "texts", "shares", "text"]) (ps:=["source", "texts"]) (k:=6) (m:=4) (n:=2) (i:=2) (g1:=(ji 2)) (g2:=(uw (vz 3 (fI tpD (fNm 1))
  (zbL 2 (fNm 3) (fA (ari 2 yO) (zj (fNm 0) (zj (fNm 3) zF))))))) (cl:=wM t) t.c6.fn sc_shares_of rfl rfl rfl λcdv A outer s H E hr=>⟨(ze3 (i:=2) sc_shares_of.nd rfl (Or.inl rfl)),(yW (yV (i:=3) lN rfl (ur (xv 1)) (zN (i:=3) sc_shares_of.nd rfl (Or.inl rfl))
   (zA (zel (ze1 hr) (pv 2) (xv 3) (zy (zac t) hr xW (zf (xv 0) (zf (xv 3) zx zb) zb) zb))))),pv 2⟩
theorem zfV (t:Txt K mg):FO P w base t 7 t.c6 jM 2:=(vA 4 2 6 zaP (wM t) t.c6 sc_shares_of λ_ _ _ _ _ _ hr =>
   (zq (ze3 (i:=2) sc_shares_of.nd rfl (Or.inl rfl))
   (zq (yW (yV (i:=3) lN rfl (ur (xv 1)) (zN (i:=3) sc_shares_of.nd rfl (Or.inl rfl))
   (zA (zel (ze1 hr) (pv 2) (xv 3) (zy (zac t) hr xW (zf (xv 0) (zf (xv 3) zx zb) zb) zb)))))
   (zA (zjN (i:=2) (zL (znx 2 (pv 2))))))):FO P w base t 7 t.c6 (zX 4 zaP) 2)
abbrev zcG:List Str:=["many", "size"]
theorem zce:FnScope zcG ["many", "size"] (zu uG):=fsc (by decide +kernel)
theorem ul (t:Txt K mg):FO P w base t 1 t.c7 xH 2:=(vA 2 2 0 uH (wM t) t.c7 zce λ_ _ _ _ _ _ hr =>
   (zA (zL (zW uE kJ (zW zdR zdM (xv 1) zG) (zW zdR zdM (xv 0) zG)))):FO P w base t 1 t.c7 (zX 2 uH) 2)
abbrev zjz:List Str:=["one", "other"]
theorem ziz:FnScope zjz ["one", "other"] (zu zcB):=fsc (by decide +kernel)
theorem zbv (t:Txt K mg):FO P w base t 1 t.c8 yM 2:=(vA 2 2 0 zcI (wM t) t.c8 ziz λ_ _ _ _ _ _ hr =>
   (zA (zL (zdi zrO zro (zW yu xJ (xO (xv 0) zG (λ_ _=>rfl)) (xO (xv 1) zG (λ_ _=>rfl))) (zW yu xJ (xO (xv 1) zG (λ_ _=>rfl)) (xO (xv 0) zG (λ_ _=>rfl))) (xM _)))):FO P w base t 1 t.c8 (zX 2 zcI) 2)
abbrev zb6:List Str:=["pieces", "shares", "found", "piece"]
theorem sc_first_greatest:FnScope zb6 ["pieces", "shares"] (zu uq):=fsc (by decide +kernel)
theorem qR (t:Txt K mg):FO P w base t 2 t.c9 yE 2:=(vA 4 2 1 uf (wM t) t.c9 sc_first_greatest λ_ _ _ _ _ _ hr =>
   (zq (zM (i:=2) sc_first_greatest.nd rfl (Or.inl rfl) (xO (xv 0) zG (λ_ _=>rfl)))
   (zq (yW (yV (i:=3) lN rfl (ur (xv 0)) (zN (i:=3) sc_first_greatest.nd rfl (Or.inl rfl))
   (zA (uy (ql (zy (zbv t) hr xW (zf (zjP (ze1 hr) (xv 1) (xv 2)) (zf (zjP (ze1 hr) (xv 1) (xv 3)) zx xq) xq) xq))
   (zA (zM (i:=2) sc_first_greatest.nd rfl (Or.inl rfl) (xv 3)))
   yx))))
   (zA (zL (xv 2))))):FO P w base t 2 t.c9 (zX 4 uf) 2)
abbrev zlo:List Str:=["many", "pieces", "piece", "place"]
theorem sc_parted:FnScope zlo ["many", "pieces", "piece"] (zu zeg):=fsc (by decide +kernel)
theorem zge (t:Txt K mg):FO P w base t 2 t.d0 jY 3:=(vA 4 3 1 ze0 (wM t) t.d0 sc_parted λ_ _ _ _ _ _ hr =>
   (zq (zM (i:=3) sc_parted.nd rfl (Or.inl rfl) (zoK (xv 1) (xv 2) ⟨zb,rfl,rfl,rfl,rfl⟩))
   (zA (zL (zW zjF zmP (zW zjF zmP (wu (xv 1) vD (vP (xv 3))) (qW wz ziA rfl t.i2 ldb (zf (zy (zai t) hr z8 (zf (xv 0) (zf (jJ (zf (xv 2) zx zb)) zx zhP) zb) zb) zx zJ) zJ)) (wu (xv 1) (vP (zW v9 vY (xv 3) zG)) vD))))):FO P w base t 2 t.d0 (zX 4 ze0) 3)
abbrev zgS:List Str:=["source", "size", "many", "pieces", "shares", "step", "piece"]
theorem sc_best_book:FnScope zgS ["source", "size"] (zu zaM):=fsc (by decide +kernel)
theorem zbU (t:Txt K mg):FO P w base t 8 t.d1 yC 2:=(vA 7 2 7 zaR (wM t) t.d1 sc_best_book λ_ _ _ _ _ _ hr =>
   (zq (uM (zy (vH t) hr z8 (zf (xv 0) zx zb) zb))
   (zq (zM (i:=2) sc_best_book.nd rfl (Or.inl rfl) (zU yr n_len rfl t.h6 lbI (zf (xv 0) zx zb) zb))
   (zq (uM (zy (uI t) hr z8 (zf (xv 2) (zf (xv 1) zx zb) zb) zb))
   (zq (zM (i:=3) sc_best_book.nd rfl (Or.inl rfl) (zy (zbj t) hr z8 (zf (xv 2) zx zb) zb))
   (zq (zoq (i:=4) sc_best_book.nd rfl (Or.inl rfl) (zeW t) (hr.mono (by decide)) rfl t.c6.mg t.c6.fn.kp t.c6.bd z8 (zf (xv 0) (zf (xv 3) zx zb) zb) zb)
   (zq (yW (yV (i:=5) lN rfl (zcN rfl t.h8 (zf zG (zf (zy (ul t) hr xW (zf (xv 2) (zf (xv 1) zx zb) zb) zb) zx zJ) zm) rfl rfl) (zN (i:=5) sc_best_book.nd rfl (Or.inl rfl))
   (zq (zM (i:=6) sc_best_book.nd rfl (Or.inl rfl) (zqK (i:=4) (zy (qR t) hr xW (zf (xv 3) (zf (xv 4) zx zb) zb) zb)))
   (zq (zM (i:=3) sc_best_book.nd rfl (Or.inl rfl) (zy (zge t) hr xW (zf (xv 2) (zf (xv 3) (zf (xv 6) zx zb) zb) zb) zb))
   (zA (ziX (pv 4) (zy (zeJ t) hr xW (zf (xv 0) (zf (zy (zai t) hr xW (zf (xv 2) (zf (jJ (zf (xv 6) zx zb)) zx zhP) zb) zb) zx zJ) zb) zb) ⟨zJ,rfl,rfl,rfl,rfl⟩))))))
   (zA (zL (xv 3))))))))):FO P w base t 8 t.d1 (zX 7 zaR) 2)
abbrev zc4:List Str:=["texts"]
theorem zgl:FnScope zc4 ["texts"] (zu qZ):=fsc (by decide +kernel)
theorem zfJ (t:Txt K mg):FO P w base t 1 t.d2 qe 1:=(vA 1 1 0 jk (wM t) t.d2 zgl λ_ _ _ _ _ _ hr =>
   (zA (zL (zU (zcr rfl) n_all rfl t.g9 boot_all (zf (XL.xe (zlQ (x := "one") (y := "other") (caps:=[]) (xj (fs:=zu qZ) (N:=zc4) rfl rfl (by decide +kernel)) rfl rfl t.i3 (xv 0) (wu (xv 0) (vP zG) vD) ⟨λ_ _ _ _ _=>(zkb (K:=K) (i:=0) (j:=1) rfl rfl (kI (N:=["one", "other"]) rfl (by decide +kernel)) rfl rfl (Or.inl rfl) (Or.inl rfl)),λ_ _ _ _ _=>xV,λ_ _ _ _ _=>(zdi zjR zrI (xv 0) (xv 1) (xM _))⟩ rfl rfl)) zx rfl) rfl))):FO P w base t 1 t.d2 (zX 1 jk) 1)
abbrev zb2:List Str:=["many", "thing"]
theorem zeu:FnScope zb2 ["many", "thing"] (zu qi):=fsc (by decide +kernel)
theorem zd8 (t:Txt K mg):FO P w base t 4 t.d3 w5 2:=(vA 2 2 3 qj (wM t) t.d3 zeu λ_ _ _ _ _ _ hr =>
   (zq (uy (XW.xt (zjL (jL (ql (zy (vp t) hr z8 (zf (xv 0) zx zb) zb))) (zgu (jL (ql (zfL kit_tuple rfl t.h5 (xv 1) (zbD (v:=.ty "tuple") rfl t.i2 ldb rfl) zb))))))
   (zA (zL jn))
   yx)
   (zq (uy (jL (zhM zf6 zf6 zfm zfm zG (zU yr n_len rfl t.h6 lbI (zf (xv 1) zx zb) zb) (zhG (xX (v:=.int (32)) rfl t.g6 t.g7) λ_=>.int _)))
   (zA (zL jn))
   yx)
   (zq (uy (jL (ql (zU (zcr rfl) n_all rfl t.g9 boot_all (zf (uL (x := "part") (caps:=[0]) (xj (fs:=zu qi) (N:=zb2) rfl rfl (by decide +kernel)) rfl (ur (xv 1)) ⟨λ_ _ _ _ _=>(zN (i:=0) (kI (N:=["part", "many"]) rfl (by decide +kernel)) rfl (Or.inl rfl)),λ_ _ _ _ _=>xV,λ_ _ _ _ _=>(zcV (zy (zbf t) hr xW (zf (xv 1) (zf (xv 0) zx zb) zb) zb) (zbV (zdi (uX hr.units) zhQ (xv 0) (kj [] (by decide +kernel)) (xM _))))⟩) zx rfl) rfl)))
   (zA (zL jn))
   yx)
   (zA (zL (zy (zfJ t) hr z8 (zf (xv 1) zx zb) zb)))))):FO P w base t 4 t.d3 (zX 2 qj) 2)
abbrev zgg:List Str:=["pieces", "one", "other"]
theorem sc_first_pair:FnScope zgg ["pieces"] (zu jW):=fsc (by decide +kernel)
theorem zea (t:Txt K mg):FO P w base t 1 t.d4 xg 1:=(vA 3 1 0 xZ (wM t) t.d4 sc_first_pair λ_ _ _ _ _ _ hr =>
   (zq (yW (zol (i:=1) (j:=2) lN rfl rfl t.i3 (xv 0) (wu (xv 0) (vP zG) vD) (zkb (K:=K) (i:=1) (j:=2) rfl rfl sc_first_pair.nd rfl rfl (Or.inl rfl) (Or.inl rfl))
   (zA (uy (ql (zbd (xv 2) (xv 1) ⟨zb,rfl,rfl,rfl,rfl⟩))
   (zA (zL (zdN (zf (xv 1) (zf (xv 2) zx zb) zb))))
   yx)) rfl rfl))
   (zA (zL zjI))):FO P w base t 1 t.d4 (zX 3 xZ) 1)
abbrev zdJ:List Str:=["pieces", "text"]
theorem zgH:FnScope zdJ ["pieces", "text"] (zu zaf):=fsc (by decide +kernel)
theorem zgD (t:Txt K mg):FO P w base t 1 t.d5 yg 2:=(vA 2 2 0 zan (wM t) t.d5 zgH λ_ _ _ _ _ _ hr =>
   (zA (zL (zkN (zU (zhR rfl) n_any rfl t.h0 boot_any (zf (uL (x := "piece") (caps:=[1]) (xj (fs:=zu zaf) (N:=zdJ) rfl rfl (by decide +kernel)) rfl (ur (xv 0)) ⟨λ_ _ _ _ _=>(zN (i:=0) (kI (N:=["piece", "text"]) rfl (by decide +kernel)) rfl (Or.inl rfl)),λ_ _ _ _ _=>xV,λ_ _ _ _ _=>(zrB (zbd (xv 0) (xv 1) ⟨zb,rfl,rfl,rfl,rfl⟩) (zbV (zbd (xv 1) (xv 0) ⟨zb,rfl,rfl,rfl,rfl⟩)))⟩) zx rfl) rfl)))):FO P w base t 1 t.d5 (zX 2 zan) 2)
abbrev zd1:List Str:=["pieces", "text"]
theorem zhs:FnScope zd1 ["pieces", "text"] (zu zak):=fsc (by decide +kernel)
theorem zgG (t:Txt K mg):FO P w base t 1 t.d6 ye 2:=(vA 2 2 0 zag (wM t) t.d6 zhs λ_ _ _ _ _ _ hr =>
   (zA (zL (zU (zhR rfl) n_any rfl t.h0 boot_any (zf (uL (x := "piece") (caps:=[1]) (xj (fs:=zu zak) (N:=zd1) rfl rfl (by decide +kernel)) rfl (ur (xv 0)) ⟨λ_ _ _ _ _=>(zN (i:=0) (kI (N:=["piece", "text"]) rfl (by decide +kernel)) rfl (Or.inl rfl)),λ_ _ _ _ _=>xV,λ_ _ _ _ _=>(zcV (zbd (xv 0) (xv 1) ⟨zb,rfl,rfl,rfl,rfl⟩) (zbV (zdi (uX hr.units) zhQ (xv 0) (xv 1) (xM _))))⟩) zx rfl) rfl))):FO P w base t 1 t.d6 (zX 2 zag) 2)
abbrev qg:List Str:=["many", "pieces", "inner", "longer", "text"]
theorem sc_first_text_apart:FnScope qg ["many", "pieces"] (zu xT):=fsc (by decide +kernel)
theorem zaD (t:Txt K mg):FO P w base t 2 t.d7 xG 2:=(vA 5 2 1 vh (wM t) t.d7 sc_first_text_apart λ_ _ _ _ _ _ hr =>
   (zq (zM (i:=2) sc_first_text_apart.nd rfl (Or.inl rfl) (XEw.out (jm (zK (zap (l:=[]) (by decide +kernel) (ze5 (by decide +kernel) (by decide +kernel))) xK zm))))
   (zq (yW (zbg 2000 lN (wZ (uX hr.units) zhQ (xv 2) (jJ zx) (xM _))
   (zq (zM (i:=3) sc_first_text_apart.nd rfl (Or.inl rfl) (zy (zai t) hr xW (zf (xv 0) (zf (xv 2) zx zb) zb) zb))
   (zq (yV (i:=4) lN rfl (qC (xv 3)) (zN (i:=4) sc_first_text_apart.nd rfl (Or.inl rfl))
   (zA (uy (ql (zy (zgD t) hr xW (zf (xv 1) (zf (xv 4) zx zb) zb) zb))
   (zA (zL (xv 4)))
   yx)))
   (zA (zbx (j:=2) sc_first_text_apart.nd rfl rfl (x := "text") (caps:=[1]) (xj (fs:=zu xT) (N:=qg) rfl rfl (by decide +kernel)) rfl (qC (xv 3)) ⟨λ_ _ _ _ _=>(zN (i:=0) (kI (N:=["text", "pieces"]) rfl (by decide +kernel)) rfl (Or.inl rfl)),λ_ _ _ _ _=>(zj7 (ql (zy (zgG t) hr xW (zf (xv 1) (zf (xv 0) zx zb) zb) zb))),λ_ _ _ _ _=>(xv 0)⟩ rfl))))))
   (zA (zL zjI)))):FO P w base t 2 t.d7 (zX 5 vh) 2)
abbrev zeF:List Str:=["many", "pieces", "pair"]
theorem sc_first_paper:FnScope zeF ["many", "pieces"] (zu q9):=fsc (by decide +kernel)
theorem zdx (t:Txt K mg):FO P w base t 3 t.d8 vW 2:=(vA 3 2 2 w6 (wM t) t.d8 sc_first_paper λ_ _ _ _ _ _ hr =>
   (zq (zM (i:=2) sc_first_paper.nd rfl (Or.inl rfl) (zy (zea t) hr z8 (zf (xv 1) zx zb) zb))
   (zq (uy (zn1 (xv 2))
   (zA (zL (xv 2)))
   yx)
   (zA (zL (zy (zaD t) hr z8 (zf (xv 0) (zf (xv 1) zx zb) zb) zb))))):FO P w base t 3 t.d8 (zX 3 w6) 2)
abbrev ziY:List Str:=["many", "thing"]
theorem ziu:FnScope ziY ["many", "thing"] (zu zc8):=fsc (by decide +kernel)
theorem zil (t:Txt K mg):FO P w base t 5 t.d9 vJ 2:=(vA 2 2 4 zcT (wM t) t.d9 ziu λ_ _ _ _ _ _ hr =>
   (zA (zL (zcV (zy (zd8 t) hr z8 (zf (xv 0) (zf (xv 1) zx zb) zb) zb) (zbV (zpv (zy (zdx t) hr z8 (zf (xv 0) (zf (xv 1) zx zb) zb) zb)))))):FO P w base t 5 t.d9 (zX 2 zcT) 2)
abbrev zdA:List Str:=["many", "thing"]
theorem zcD:FnScope zdA ["many", "thing"] (zu qw):=fsc (by decide +kernel)
theorem zde (t:Txt K mg):FO P w base t 6 t.e0 wQ 2:=(vA 2 2 5 qG (wM t) t.e0 zcD λ_ _ _ _ _ _ hr =>
   (zA (uy (jL (ql (zy (zil t) hr z8 (zf (xv 0) (zf (xv 1) zx zb) zb) zb)))
   (zA (zcp t.i4 rfl rfl (zf (kj [116,104,105,115,32,105,115,32,110,111,32,98,111,111,107,32,111,102,32,115,111,32,109,97,110,121,32,108,101,116,116,101,114,115] (by decide +kernel)) zx zm) zm))
   yx)):FO P w base t 6 t.e0 (zX 2 qG) 2)
abbrev zbB:List Str:=["source", "thing"]
theorem zbh:FnScope zbB ["source", "thing"] (zu vL):=fsc (by decide +kernel)
theorem vd (t:Txt K mg):FO P w base t 7 t.e1 zY 2:=(vA 2 2 6 vB (wM t) t.e1 zbh λ_ _ _ _ _ _ hr =>
   (zq (uM (zy (vH t) hr z8 (zf (xv 0) zx zb) zb))
   (zA (uM (zy (zde t) hr z8 (zf (zU yr n_len rfl t.h6 lbI (zf (xv 0) zx zb) zb) (zf (xv 1) zx zb) zJ) zJ)))):FO P w base t 7 t.e1 (zX 2 vB) 2)
abbrev zni:List Str:=["one", "other"]
theorem zli:FnScope zni ["one", "other"] (zu zhh):=fsc (by decide +kernel)
theorem zlB (t:Txt K mg):FO P w base t 3 t.e2 zcl 2:=(vA 2 2 2 zg7 (wM t) t.e2 zli λ_ _ _ _ _ _ hr =>
   (zA (zL (zy (zgf t) hr z8 (zf (zW v9 vY (zW yu xJ (xO (xv 0) zG (λ_ _=>rfl)) (xO (xv 1) zG (λ_ _=>rfl))) (zW yu xJ (xO (xv 1) zG (λ_ _=>rfl)) (xO (xv 0) zG (λ_ _=>rfl)))) (zf (zW yu xJ (xO (xv 0) zG (λ_ _=>rfl)) (xO (xv 1) zG (λ_ _=>rfl))) zx yU) yU) yU))):FO P w base t 3 t.e2 (zX 2 zg7) 2)
abbrev zqf:List Str:=["source", "book", "total", "piece", "part"]
theorem sc_mean:FnScope zqf ["source", "book"] (zu zjM):=fsc (by decide +kernel)
theorem znS (t:Txt K mg):FO P w base t 8 t.e3 zec 2:=(vA 5 2 7 zke (wM t) t.e3 sc_mean λ_ _ _ _ _ _ hr =>
   (zq (uM (zy (vd t) hr z8 (zf (xv 0) (zf (xv 1) zx zb) zb) zb))
   (zq (zM (i:=2) sc_mean.nd rfl (Or.inl rfl) (XEw.out (qQ (zK yJ (zK yJ xK zm) zm))))
   (zq (yW (yV (i:=3) lN rfl (ur (xv 1)) (zN (i:=3) sc_mean.nd rfl (Or.inl rfl))
   (zq (zM (i:=4) sc_mean.nd rfl (Or.inl rfl) (zy (zac t) hr xW (zf (xv 0) (zf (xv 3) zx zb) zb) zb))
   (zA (zM (i:=2) sc_mean.nd rfl (Or.inl rfl) (zy (zlB t) hr xW (zf (xv 2) (zf (zdN (zf (zW yu xJ (xO (xv 4) zG (λ_ _=>rfl)) (zU yr n_len rfl t.h6 lbI (zf (xv 3) zx zb) zb)) (zf (xO (xv 4) zG (λ_ _=>rfl)) zx xq) yU)) zx zaX) zb) zb))))))
   (zA (zL (xv 2)))))):FO P w base t 8 t.e3 (zX 5 zke) 2)
abbrev zcQ:List Str:=["source", "size"]
theorem zb8:FnScope zcQ ["source", "size"] (zu uR):=fsc (by decide +kernel)
theorem zci (t:Txt K mg):FO P w base t 9 t.e4 yd 2:=(vA 2 2 8 uJ (wM t) t.e4 zb8 λ_ _ _ _ _ _ hr =>
   (zA (zL (zy (znS t) hr z8 (zf (xv 0) (zf (zy (zbU t) hr z8 (zf (xv 0) (zf (xv 1) zx zb) zb) zb) zx zJ) zb) zb))):FO P w base t 9 t.e4 (zX 2 uJ) 2)
abbrev zgw:List Str:=["many", "books", "found", "book", "piece"]
theorem sc_all_parted:FnScope zgw ["many", "books"] (zu jG):=fsc (by decide +kernel)
theorem zeT (t:Txt K mg):FO P w base t 3 t.e5 za4 2:=(vA 5 2 2 jV (wM t) t.e5 sc_all_parted λ_ _ _ _ _ _ hr =>
   (zq (zkr (i:=2) sc_all_parted.nd rfl (Or.inl rfl))
   (zq (yW (yV (i:=3) lN rfl (qC (xv 1)) (zN (i:=3) sc_all_parted.nd rfl (Or.inl rfl))
   (zA (yV (i:=4) lN rfl (ur (xv 3)) (zN (i:=4) sc_all_parted.nd rfl (Or.inl rfl))
   (zA (zkF (ze1 hr) (pv 2) (zy (zge t) hr xW (zf (xv 0) (zf (xv 3) (zf (xv 4) zx zb) zb) zb) zb) jn))))))
   (zA (zL (XL.xe (zdZ rfl rfl t.h9 (pv 2) zb)))))):FO P w base t 3 t.e5 (zX 5 jV) 2)
abbrev zg5:List Str:=["many", "size", "books", "told", "step"]
theorem sc_all_books:FnScope zg5 ["many", "size"] (zu zaQ):=fsc (by decide +kernel)
theorem zfw (t:Txt K mg):FO P w base t 6 t.e6 yP 2:=(vA 5 2 5 zaT (wM t) t.e6 sc_all_books λ_ _ _ _ _ _ hr =>
   (zq (uM (zy (uI t) hr z8 (zf (xv 0) (zf (xv 1) zx zb) zb) zb))
   (zq (zM (i:=2) sc_all_books.nd rfl (Or.inl rfl) (jJ (zf (zy (zbj t) hr z8 (zf (xv 0) zx zb) zb) zx zJ)))
   (zq (zhg (i:=3) sc_all_books.nd rfl (Or.inl rfl) (zcE rfl t.h7 boot_list (xv 2) zb))
   (zq (yW (yV (i:=4) lN rfl (zcN rfl t.h8 (zf zG (zf (zy (ul t) hr xW (zf (xv 0) (zf (xv 1) zx zb) zb) zb) zx zJ) zm) rfl rfl) (zN (i:=4) sc_all_books.nd rfl (Or.inl rfl))
   (zq (zM (i:=2) sc_all_books.nd rfl (Or.inl rfl) (zy (zeT t) hr xW (zf (xv 0) (zf (xv 2) zx zb) zb) zb))
   (zA (zj9 (pv 3) (xv 2) ⟨zb,rfl,rfl,rfl,rfl⟩)))))
   (zA (zkf (i:=3) (zL (xv 3)))))))):FO P w base t 6 t.e6 (zX 5 zaT) 2)
abbrev jR:List Str:=["one", "other", "ways", "partings"]
theorem sc_ways_together:FnScope jR ["one", "other"] (zu wN):=fsc (by decide +kernel)
theorem zb5 (t:Txt K mg):FO P w base t 1 t.e7 jl 2:=(vA 4 2 0 uU (wM t) t.e7 sc_ways_together λ_ _ _ _ _ _ hr =>
   (zq (zhg (i:=2) sc_ways_together.nd rfl (Or.inl rfl) (zm5 zx))
   (zq (yW (yV (i:=3) lN rfl (wg rfl t.h8 (zf (zU yr n_len rfl t.h6 lbI (zf (xv 0) zx zb) zb) zx zJ) rfl) (zN (i:=3) sc_ways_together.nd rfl (Or.inr rfl))
   (zA (zfk (pv 2) (zU (zgv rfl) zmK rfl t.i1 boot_sum (zf (uL (x := "some") (caps:=[0,1,3]) (xj (fs:=zu wN) (N:=jR) rfl rfl (by decide +kernel)) rfl (wg rfl t.h8 (zf (zW v9 vY (xv 3) zG) zx yU) rfl) ⟨λ_ _ _ _ _=>(zN (i:=0) (kI (N:=["some", "one", "other", "partings"]) rfl (by decide +kernel)) rfl (Or.inl rfl)),λ_ _ _ _ _=>xV,λ_ _ _ _ _=>(zW yu xJ (xO (xv 1) (xv 0) (λ_ _=>rfl)) (xO (xv 2) (zW zdR zdM (xv 3) (xv 0)) (λ_ _=>rfl)))⟩) zx rfl) rfl) ⟨zJ,rfl,rfl,rfl,rfl⟩))))
   (zA (zkf (i:=2) (zL (xv 2)))))):FO P w base t 1 t.e7 (zX 4 uU) 2)
abbrev zig:List Str:=["many", "size", "ways", "step", "behind_all", "letter"]
theorem sc_how_many:FnScope zig ["many", "size"] (zu zbH):=fsc (by decide +kernel)
theorem zhk (t:Txt K mg):FO P w base t 6 t.e8 wj 2:=(vA 6 2 5 zbP (wM t) t.e8 sc_how_many λ_ _ _ _ _ _ hr =>
   (zq (uM (zy (uI t) hr z8 (zf (xv 0) (zf (xv 1) zx zb) zb) zb))
   (zq (zM (i:=2) sc_how_many.nd rfl (Or.inl rfl) (XEw.out (jm (zK yJ xK zm))))
   (zq (yW (yV (i:=3) lN rfl (wg rfl t.h8 (zf (zy (ul t) hr xW (zf (xv 0) (zf (xv 1) zx zb) zb) zb) zx zJ) rfl) (zN (i:=3) sc_how_many.nd rfl (Or.inl rfl))
   (zq (zM (i:=4) sc_how_many.nd rfl (Or.inl rfl) (xv 2))
   (zq (yV (i:=5) lN rfl (zcN rfl t.h8 (zf zG (zf (xv 0) zx zb) zm) rfl rfl) (zN (i:=5) sc_how_many.nd rfl (Or.inl rfl))
   (zA (zM (i:=4) sc_how_many.nd rfl (Or.inl rfl) (zy (zb5 t) hr xW (zf (xv 4) (zf (xv 2) zx zb) zb) zb))))
   (zA (zM (i:=2) sc_how_many.nd rfl (Or.inl rfl) (XL.xe (zcS (XEw.out (jm (zK yJ xK zm))) (xv 4)))))))))
   (zA (zL (zU (zgv rfl) zmK rfl t.i1 boot_sum (zf (wu (xv 2) (vP zG) vD) zx xq) xq)))))):FO P w base t 6 t.e8 (zX 6 zbP) 2)
abbrev zch:List Str:=["source", "book"]
theorem zbK:FnScope zch ["source", "book"] (zu ug):=fsc (by decide +kernel)
theorem zby (t:Txt K mg):FO P w base t 8 t.e9 wC 2:=(vA 2 2 7 ud (wM t) t.e9 zbK λ_ _ _ _ _ _ hr =>
   (zq (uM (zy (vd t) hr z8 (zf (xv 0) (zf (xv 1) zx zb) zb) zb))
   (zA (zL (zy (qR t) hr z8 (zf (xv 1) (zf (zy (zfV t) hr z8 (zf (xv 0) (zf (xv 1) zx zb) zb) zb) zx zJ) zb) zb)))):FO P w base t 8 t.e9 (zX 2 ud) 2)
abbrev zin:List Str:=["book", "found", "piece", "end"]
theorem sc_inner_of:FnScope zin ["book"] (zu zbt):=fsc (by decide +kernel)
theorem zgK (t:Txt K mg):FO P w base t 1 t.f0 jh 1:=(vA 4 1 0 qO (wM t) t.f0 sc_inner_of λ_ _ _ _ _ _ hr =>
   (zq (ze3 (i:=1) sc_inner_of.nd rfl (Or.inl rfl))
   (zq (yW (yV (i:=2) lN rfl (ur (xv 0)) (zN (i:=2) sc_inner_of.nd rfl (Or.inl rfl))
   (zA (yV (i:=3) lN rfl (wg rfl t.h8 (zf (zU yr n_len rfl t.h6 lbI (zf (xv 2) zx zb) zb) zx zJ) rfl) (zN (i:=3) sc_inner_of.nd rfl (Or.inl rfl))
   (zA (zel (ze1 hr) (pv 1) (wu (xv 2) vD (vP (xv 3))) jn))))))
   (zA (zL (XL.xe (zii rfl rfl t.h9 (pv 1) zb)))))):FO P w base t 1 t.f0 (zX 4 qO) 1)
abbrev zeB:List Str:=["source", "book", "least", "text", "part"]
theorem sc_least_inner:FnScope zeB ["source", "book"] (zu jb):=fsc (by decide +kernel)
theorem zdG (t:Txt K mg):FO P w base t 8 t.f1 vV 2:=(vA 5 2 7 kW (wM t) t.f1 sc_least_inner λ_ _ _ _ _ _ hr =>
   (zq (uM (zy (vd t) hr z8 (zf (xv 0) (zf (xv 1) zx zb) zb) zb))
   (zq (zM (i:=2) sc_least_inner.nd rfl (Or.inl rfl) (XEw.out (qQ (zK yJ (zK yJ xK zm) zm))))
   (zq (yW (yV (i:=3) lN rfl (qC (zy (zgK t) hr xW (zf (xv 1) zx zb) zb)) (zN (i:=3) sc_least_inner.nd rfl (Or.inl rfl))
   (zq (zM (i:=4) sc_least_inner.nd rfl (Or.inl rfl) (zy (zac t) hr xW (zf (xv 0) (zf (xv 3) zx zb) zb) zb))
   (zA (uy (ql (zy (zbv t) hr xW (zf (xv 4) (zf (xv 2) zx zb) zb) zb))
   (zA (zM (i:=2) sc_least_inner.nd rfl (Or.inl rfl) (xv 4)))
   yx)))))
   (zA (zL (xv 2)))))):FO P w base t 8 t.f1 (zX 5 kW) 2)
abbrev zkY:List Str:=["source", "book", "greatest"]
theorem sc_is_best:FnScope zkY ["source", "book"] (zu zc6):=fsc (by decide +kernel)
theorem zif (t:Txt K mg):FO P w base t 9 t.f2 wL 2:=(vA 3 2 8 zdh (wM t) t.f2 sc_is_best λ_ _ _ _ _ _ hr =>
   (zq (zM (i:=2) sc_is_best.nd rfl (Or.inl rfl) (zy (zac t) hr z8 (zf (xv 0) (zf (zy (zby t) hr z8 (zf (xv 0) (zf (xv 1) zx zb) zb) zb) zx zJ) zb) zb))
   (zA (zL (zkN (zy (zbv t) hr z8 (zf (zy (zdG t) hr z8 (zf (xv 0) (zf (xv 1) zx zb) zb) zb) (zf (xv 2) zx zb) zJ) zJ))))):FO P w base t 9 t.f2 (zX 3 zdh) 2)
abbrev zds:List Str:=["_law_e", "_law_flags"]
theorem sc__law_refused:FnScope zds ["_law_e"] (zu qz):=fsc (by decide +kernel)
theorem zcP (t:Txt K mg):FnOkH P w K mg base 1 t.f3.f t.f3.fd ["_law_e"] (spD K (wM t) jO 1) :=
 show FnOkH P w K mg base 1 t.f3.f t.f3.fd ["_law_e"] (spD K (wM t) (zX 2 qD) 1) from
 zsx (N:=["_law_e", "_law_flags"]) (ps:=["_law_e"]) (k:=0) (m:=2) (n:=1) (g:=qD) (cl:=wM t) t.f3.fn sc__law_refused rfl rfl λcdv A outer s H hr =>
   (zq (zM (i:=1) sc__law_refused.nd rfl (Or.inl rfl) (jJ (zf (zaz (tab:=[(0,true),(1,false),(5,false)]) (yj ⟨t.j1,.inl ⟨_,rfl,t.j3⟩⟩ (yj ⟨t.k0,.inl ⟨_,rfl,t.k2⟩⟩ (yj ⟨t.k9,.inl ⟨_,rfl,t.l1⟩⟩ zaK))) rfl t.h5 (xv 0) (xX (v:=.ref t.i8.C) rfl t.i8.mgx rfl) zb) (zf (zaz (tab:=[(0,false),(1,true),(5,false)]) (yj ⟨t.j1,.inl ⟨_,rfl,t.j4⟩⟩ (yj ⟨t.k0,.inl ⟨_,rfl,t.k3⟩⟩ (yj ⟨t.k9,.inl ⟨_,rfl,t.l2⟩⟩ zaK))) rfl t.h5 (xv 0) (xX (v:=.ref t.i4.C) rfl t.i4.mgx rfl) zb) (zf (zaz (tab:=[(0,false),(1,false),(5,false)]) (yj ⟨t.j1,.inl ⟨_,rfl,t.j5⟩⟩ (yj ⟨t.k0,.inl ⟨_,rfl,t.k4⟩⟩ (yj ⟨t.k9,.inl ⟨_,rfl,t.l3⟩⟩ zaK))) rfl t.h5 (xv 0) (xX (v:=.ref t.i6.C) rfl t.i6.mgx rfl) zb) zx zJ) zJ) zJ)))
   (zq (zM (i:=1) sc__law_refused.nd rfl (Or.inl rfl) (XL.xe (zcS (xv 1) (jJ (zf (zaz (tab:=[(0,false),(1,false),(5,false)]) (yj ⟨t.j1,.inl ⟨_,rfl,t.j6⟩⟩ (yj ⟨t.k0,.inl ⟨_,rfl,t.k5⟩⟩ (yj ⟨t.k9,.inl ⟨_,rfl,t.l4⟩⟩ zaK))) rfl t.h5 (xv 0) (xX (v:=.ref t.i5.C) rfl t.i5.mgx rfl) zb) (zf (zaz (tab:=[(0,false),(1,false),(5,false)]) (yj ⟨t.j1,.inl ⟨_,rfl,t.j7⟩⟩ (yj ⟨t.k0,.inl ⟨_,rfl,t.k6⟩⟩ (yj ⟨t.k9,.inl ⟨_,rfl,t.l5⟩⟩ zaK))) rfl t.h5 (xv 0) (xX (v:=.ref t.i9.C) rfl t.i9.mgx rfl) zb) (zf (zaz (tab:=[(0,false),(1,false),(5,true)]) (yj ⟨t.j1,.inl ⟨_,rfl,t.j8⟩⟩ (yj ⟨t.k0,.inl ⟨_,rfl,t.k7⟩⟩ (yj ⟨t.k9,.inl ⟨_,rfl,t.l6⟩⟩ zaK))) rfl t.h5 (xv 0) (xX (v:=.ref t.i7.C) rfl t.i7.mgx rfl) zb) zx zJ) zJ) zJ)))))
   (zq (uy (XW.xt (zjL (wZ (uX hr.units) zhQ (znM (xv 1) jn ⟨zm,rfl,rfl,rfl,rfl⟩) zG (xM _)) (zgu (jL (ql (zaz (tab:=[(0,true),(1,true),(5,true)]) (yj ⟨t.j1,.inr ⟨_,rfl,t.j9⟩⟩ (yj ⟨t.k0,.inr ⟨_,rfl,t.k8⟩⟩ (yj ⟨t.k9,.inr ⟨_,rfl,t.l7⟩⟩ zaK))) rfl t.h5 (xv 0) (zbD (v:=.ty "ValueError") rfl t.g8 zcO rfl) zb))))))
   (zA (zL (XEw.out (qQ (zK (zap (l:=[114,101,102,117,115,101,100]) (by decide +kernel) (ze5 (by decide +kernel) (by decide +kernel))) (zK (XEw.mk (zpx zG)) xK znP) zm)))))
   yx)
   (zA (zL (XEw.out (qQ (zK (zap (l:=[114,101,102,117,115,101,100]) (by decide +kernel) (ze5 (by decide +kernel) (by decide +kernel))) (zK (XEw.mk (zo2 (xv 1) jn ⟨zm,rfl,rfl,rfl,rfl⟩)) xK zJ) zm))))))))
abbrev zgB:List Str:=["_law_way", "_law_one", "_law_size", "_law_e"]
theorem sc__law_told:FnScope zgB ["_law_way", "_law_one", "_law_size"] (zu zaB):=fsc (by decide +kernel)
theorem yo (t:Txt K mg):FO P w base t 10 t.f4 zQ 3:=(vA 4 3 9 zaF (wM t) t.f4 sc__law_told λ_ _ _ _ _ _ hr =>
   (zA (zpV (i:=3) (cs:=[0,1,5]) (zme (zqa (zbU t) hr (zqa (zci t) hr (zqa (zfw t) hr (zqa (zhk t) hr (zqa (zif t) hr FnsIn.nil))))) (xv 0) (λ_ _=>rfl) (zf (xv 1) (zf (xv 2) zx zb) zb) zb) t.j0 rfl sc__law_told.nd rfl rfl (zcY t.j2 (zcY t.k1 (zcY t.l0 zk7))) (λ_=>(zmj (zcP t) ((hr.mono (by decide)).hand _) rfl t.f3.mg t.f3.fn.kp t.f3.bd (zf (xv 3) zx zb) zb)) rfl rfl)):FO P w base t 10 t.f4 (zX 4 zaF) 3)
abbrev zhm:List Str:=["_law_script", "_law_many", "_law_source_here", "_law_size", "_law_books", "_law_best", "_law_shares", "_law_most", "_law_parts", "_law_rows", "_law_top", "_law_book_here", "_law_own", "_law_bad", "_law_odd"]
theorem sc_law:FnScope zhm ["_law_script"] (zu zdw):=fsc (by decide +kernel)
theorem zpj (t:Txt K mg):FO P w base t 11 t.f5 zmH 1:=(vA 15 1 10 zn4 (wM t) t.f5 sc_law λ_ _ _ _ _ _ hr =>
   (zq (zM (i:=1) sc_law.nd rfl (Or.inr rfl) (zW v9 vY zG (zy (wA t) hr z8 (zf (xv 0) (zf zG (zf zG zx zm) zm) zb) zb)))
   (zq (zM (i:=2) sc_law.nd rfl (Or.inr rfl) (zy (zdE t) hr z8 (zf (xv 0) (zf zG (zf (xv 1) zx zb) zm) zb) zb))
   (zq (zM (i:=3) sc_law.nd rfl (Or.inl rfl) (zW v9 vY (xv 1) (zy (wA t) hr z8 (zf (xv 0) (zf zG (zf (XEw.out (zlf (jm (zK yJ (zK yJ (zK yJ xK zm) zm) zm)) (XEw.mk (zW zdR zdM (xv 1) zG)) (λ_ _=>rfl))) zx xq) zm) zb) zb)))
   (zq (zM (i:=4) sc_law.nd rfl (Or.inl rfl) (zy (zgI t) hr z8 (zf (xv 1) (zf (xv 3) zx zb) zb) zb))
   (zq (uy (XW.xt (zjL (wZ (uX hr.units) zhQ (zy (yo t) hr z8 (zf zG (zf (xv 1) (zf (xv 3) zx zb) zb) zm) zm) (xv 4) (xM _)) (zgu (wZ (uX hr.units) zhQ (zy (yo t) hr z8 (zf zG (zf (xv 1) (zf (xv 3) zx zb) zb) zm) zm) (zU yr n_len rfl t.h6 lbI (zf (xv 4) zx zb) zb) (xM _)))))
   (zA (zL jn))
   yx)
   (zq (zM (i:=5) sc_law.nd rfl (Or.inr rfl) (xO (xv 4) zG (λ_ _=>rfl)))
   (zq (yW (zbg 12 lN (wZ zf6 zfm (zW zdR zdM (zW v9 vY (zU yr n_len rfl t.h6 lbI (zf (xv 5) zx zb) zb) (xv 1)) zG) (xv 3) (xM _))
   (zq (zbx (j:=6) sc_law.nd rfl rfl (x := "_law_piece") (caps:=[2]) (xj (fs:=zu zdw) (N:=zhm) rfl rfl (by decide +kernel)) rfl (ur (xv 5)) ⟨λ_ _ _ _ _=>(zN (i:=0) (kI (N:=["_law_piece", "_law_source_here"]) rfl (by decide +kernel)) rfl (Or.inl rfl)),λ_ _ _ _ _=>xV,λ_ _ _ _ _=>(zy (zaV t) hr xW (zf (xv 1) (zf (xv 0) zx zb) zb) zb)⟩ rfl)
   (zq (zM (i:=7) sc_law.nd rfl (Or.inr rfl) (zy (zcd t) hr xW (zf (xv 6) zx zb) zb))
   (zq (zbx (j:=8) sc_law.nd rfl rfl (x := "_law_k") (caps:=[5,7]) (xj (fs:=zu zdw) (N:=zhm) rfl rfl (by decide +kernel)) rfl (wg rfl t.h8 (zf (xv 1) zx zb) rfl) ⟨λ_ _ _ _ _=>(zN (i:=0) (kI (N:=["_law_k", "_law_best", "_law_most"]) rfl (by decide +kernel)) rfl (Or.inl rfl)),λ_ _ _ _ _=>xV,λ_ _ _ _ _=>(zW zha zkh (xO (xv 1) (xv 2) (λ_ _=>rfl)) (xO (kj [97,98,99,100] (by decide +kernel)) (xv 0) (λ_ _=>rfl)))⟩ rfl)
   (zA (zM (i:=5) sc_law.nd rfl (Or.inr rfl) (qW wz ziA rfl t.i2 ldb (zf (XL.xe (zfx rfl t.h9 boot_sorted (XL.xe (zcS (XL.xe (zcS (XL.xe (zcE rfl t.h7 boot_list (wu (xv 5) vD (vP (xv 7))) xq)) (xv 8))) (XL.xe (zcE rfl t.h7 boot_list (wu (xv 5) (vP (zW v9 vY (xv 7) zG)) vD) xq)))) yU)) zx zJ) zJ))))))))
   (zq (uy (XW.xt (zjL (wZ (uX hr.units) zhQ (zy (yo t) hr z8 (zf zG (zf (xv 2) (zf (xv 3) zx zb) zb) zm) zm) (xv 5) (xM _)) (zgu (wZ (uX hr.units) zhQ (zy (yo t) hr z8 (zf zG (zf (xv 2) (zf (xv 3) zx zb) zb) zm) zm) (zy (jX t) hr z8 (zf (xv 2) (zf (xv 5) zx zb) zb) zb) (xM _)))))
   (zA (zL jn))
   yx)
   (zq (zbx (j:=9) sc_law.nd rfl rfl (x := "_law_book_here") (caps:=[5]) (xj (fs:=zu zdw) (N:=zhm) rfl rfl (by decide +kernel)) rfl (qC (xv 4)) ⟨λ_ _ _ _ _=>(zN (i:=0) (kI (N:=["_law_book_here", "_law_best"]) rfl (by decide +kernel)) rfl (Or.inl rfl)),λ_ _ _ _ _=>(zj7 (wZ (zh8 hr.units) zq3 (zU yr n_len rfl t.h6 lbI (zf (xv 0) zx zb) zb) (zU yr n_len rfl t.h6 lbI (zf (xv 1) zx zb) zb) (xM _))),λ_ _ _ _ _=>(xv 0)⟩ rfl)
   (zq (zM (i:=10) sc_law.nd rfl (Or.inl rfl) (zy (jX t) hr z8 (zf (xv 2) (zf (xv 5) zx zb) zb) zb))
   (zq (yW (yV (i:=11) lN rfl (qC (xv 9)) (zN (i:=11) sc_law.nd rfl (Or.inl rfl))
   (zq (zM (i:=12) sc_law.nd rfl (Or.inl rfl) (zy (jX t) hr xW (zf (xv 2) (zf (xv 11) zx zb) zb) zb))
   (zA (uy (XW.xt (zjL (wZ zo1 zoM (zW yu xJ (xO (xv 12) zG (λ_ _=>rfl)) (xO (xv 10) zG (λ_ _=>rfl))) (zW yu xJ (xO (xv 10) zG (λ_ _=>rfl)) (xO (xv 12) zG (λ_ _=>rfl))) (xM _)) (zgu (wZ (uX hr.units) zhQ (zy (yo t) hr xW (zf zG (zf (xv 2) (zf (xv 11) zx zb) zb) zm) zm) (zdi (zh8 hr.units) zq3 (xv 12) (xv 10) (xM _)) (xM _)))))
   (zA (zL jn))
   yx)))))
   (zq (zM (i:=13) sc_law.nd rfl (Or.inr rfl) (XEw.out (zlf (jm (zK (XEw.mk (zW zdR zdM (xv 1) zG)) (zK yJ (zK zpK (zK zjc (zK (zap (l:=[51]) (by decide +kernel) (ze5 (by decide +kernel) (by decide +kernel))) (zK yJ xK zm) zm) zm) zm) zm) yU)) (XEw.mk (zy (wA t) hr z8 (zf (xv 0) (zf zG (zf zG zx zm) zm) zb) zb)) (λ_ _=>rfl))))
   (zq (uy (wZ (uX hr.units) zhQ (jJ (zf (zy (yo t) hr z8 (zf zG (zf (xv 2) (zf (xv 13) zx zb) zb) zm) zm) (zf (zy (yo t) hr z8 (zf zG (zf (xv 2) (zf (xv 13) zx zb) zb) zm) zm) zx zJ) zJ)) (XL.xe (zhY (XEw.out (jm (zK (qQ (zK (zap (l:=[114,101,102,117,115,101,100]) (by decide +kernel) (ze5 (by decide +kernel) (by decide +kernel))) (zK yJ xK zm) zm)) xK zaX))) zG)) (xM _))
   (zA (zL jn))
   yx)
   (zkq (uy (wZ (uX hr.units) zhQ (uL (x := "_law_way") (caps:=[13,1,0]) (xj (fs:=zu zdw) (N:=zhm) rfl rfl (by decide +kernel)) rfl (ur (XEw.out (qQ (zK yJ (zK yJ xK zm) zm)))) ⟨λ_ _ _ _ _=>(zN (i:=0) (kI (N:=["_law_way", "_law_bad", "_law_many", "_law_script"]) rfl (by decide +kernel)) rfl (Or.inl rfl)),λ_ _ _ _ _=>xV,λ_ _ _ _ _=>(zy (yo t) hr xW (zf (xv 0) (zf (XEw.out (zlf (jm (zK (XEw.mk (xv 2)) (zK yJ (zK yJ (zK zjc xK zm) zm) zm) zb)) (XEw.mk (zy (wA t) hr xW (zf (xv 3) (zf zG (zf zG zx zm) zm) zb) zb)) (λ_ _=>rfl))) (zf (xv 1) zx zb) xq) zb) zb)⟩) (XL.xe (zhY (XEw.out (jm (zK (qQ (zK (zap (l:=[114,101,102,117,115,101,100]) (by decide +kernel) (ze5 (by decide +kernel) (by decide +kernel))) (zK yJ xK zm) zm)) xK zaX))) zG)) (xM _))
   (zA (zL jn))
   yx)
   (zmf (znA (zom (i:=14) lN rfl (zoG (qQ (zK yJ (zK yJ (zK zjc (zK zpK xK zm) zm) zm) zm))) (zN (i:=14) sc_law.nd rfl (Or.inr rfl))
   (zA (uy (wZ (uX hr.units) zhQ (uL (x := "_law_way") (caps:=[14]) (xj (fs:=zu zdw) (N:=zhm) rfl rfl (by decide +kernel)) rfl (ur (XEw.out (qQ (zK yJ (zK yJ xK zm) zm)))) ⟨λ_ _ _ _ _=>(zN (i:=0) (kI (N:=["_law_way", "_law_odd"]) rfl (by decide +kernel)) rfl (Or.inl rfl)),λ_ _ _ _ _=>xV,λ_ _ _ _ _=>(zy (yo t) hr xW (zf (xv 0) (zf (xv 1) (zf zG zx zm) zb) zb) zb)⟩) (XL.xe (zhY (XEw.out (jm (zK (qQ (zK (zap (l:=[114,101,102,117,115,101,100]) (by decide +kernel) (ze5 (by decide +kernel) (by decide +kernel))) (zK yJ xK zm) zm)) xK zaX))) zG)) (xM _))
   (zA (zL jn))
   yx))))
   (zq (uy (wZ (uX hr.units) zhQ (zy (yo t) hr z8 (zf zG (zf (xv 2) (zf (xv 13) zx zb) zb) zm) zm) (XEw.out (qQ (zK (zap (l:=[114,101,102,117,115,101,100]) (by decide +kernel) (ze5 (by decide +kernel) (by decide +kernel))) (zK yJ xK zm) zm))) (xM _))
   (zA (zL jn))
   yx)
   (zA (zL (zdi (zh8 hr.units) zq3 (uL (x := "_law_way") (caps:=[13,2]) (xj (fs:=zu zdw) (N:=zhm) rfl rfl (by decide +kernel)) rfl (ur (XEw.out (qQ (zK yJ (zK yJ (zK yJ xK zm) zm) zm)))) ⟨λ_ _ _ _ _=>(zN (i:=0) (kI (N:=["_law_way", "_law_bad", "_law_source_here"]) rfl (by decide +kernel)) rfl (Or.inl rfl)),λ_ _ _ _ _=>xV,λ_ _ _ _ _=>(zy (yo t) hr xW (zf (xv 0) (zf (wu (xv 2) vD (vP zG)) (zf (xv 1) zx zb) xq) zb) zb)⟩) (XL.xe (zhY (XEw.out (jm (zK (qQ (zK (zap (l:=[114,101,102,117,115,101,100]) (by decide +kernel) (ze5 (by decide +kernel) (by decide +kernel))) (zK yJ xK zm) zm)) xK zaX))) zG)) (xM _)))))))))))))))))))):FO P w base t 11 t.f5 (zX 15 zn4) 1)
end
end K30
namespace K30
open PySem L2
theorem all_mk {l:PySem.W.OpenLaw}{w:World}{K:qQ0}{h:Heap}{mg:qQ3}{fa:Addr}(X:K.In h)(G:h.Ns mainGlobals mg)(hfa:mg "law" = some (.ref fa))
  {vFEWEST_LETTERS vGREATEST_WEIGHT vLETTERS vMOST_PIECES:Value}
  (a0:Dz K "_law_cell" zaL)
  (a1:Dz K "_law_drawn" jz)
  (a2:Dz K "_law_source" uD)
  (a3:Dz K "_law_all" qX)
  (a4:Dz K "_law_lowest" kO)
  (a5:Dz K "_law_sum" zbG)
  (a6:Dz K "_law_power" jZ)
  (a7:Dz K "_law_share" jC)
  (a8:Dz K "_law_mean" uN)
  (a9:Dz K "_law_greatest" uK)
  (a10:Dz K "is_whole" zbN)
  (a11:Dz K "is_between" jE)
  (a12:Dz K "is_weight" zaS)
  (a13:Dz K "is_source" kE)
  (a14:Dz K "require_source" um)
  (a15:Dz K "is_number_of_letters" xR)
  (a16:Dz K "is_size" zcK)
  (a17:Dz K "require_size" qM)
  (a18:Dz K "gone_on" zct)
  (a19:Dz K "even_book" zav)
  (a20:Dz K "first_book" jF)
  (a21:Dz K "is_text_of" uY)
  (a22:Dz K "require_text_of" vN)
  (a23:Dz K "greatest_divisor" vf)
  (a24:Dz K "lowest" zet)
  (a25:Dz K "share" zgx)
  (a26:Dz K "shares_of" zau)
  (a27:Dz K "most_partings" uG)
  (a28:Dz K "is_less" zcB)
  (a29:Dz K "first_greatest" uq)
  (a30:Dz K "parted" zeg)
  (a31:Dz K "best_book" zaM)
  (a32:Dz K "is_rising" qZ)
  (a33:Dz K "are_pieces" qi)
  (a34:Dz K "first_pair" jW)
  (a35:Dz K "is_apart" zaf)
  (a36:Dz K "is_inner" zak)
  (a37:Dz K "first_text_apart" xT)
  (a38:Dz K "first_paper" q9)
  (a39:Dz K "is_book" zc8)
  (a40:Dz K "require_book" qw)
  (a41:Dz K "require_book_of" vL)
  (a42:Dz K "added" zhh)
  (a43:Dz K "mean" zjM)
  (a44:Dz K "greatest_mean" uR)
  (a45:Dz K "all_parted" jG)
  (a46:Dz K "all_books" zaQ)
  (a47:Dz K "ways_together" wN)
  (a48:Dz K "how_many" zbH)
  (a49:Dz K "greatest_piece" ug)
  (a50:Dz K "inner_of" zbt)
  (a51:Dz K "least_inner" jb)
  (a52:Dz K "is_best" zc6)
  (a53:Dz K "_law_refused" qz)
  (a54:Dz K "_law_told" zaB)
  (a55:Dz K "law" zdw)
  (wFEWEST_LETTERS:PySem.W.nsIn K mainGlobals "FEWEST_LETTERS" = some (some vFEWEST_LETTERS)) (rFEWEST_LETTERS:RelV (.int (2)) vFEWEST_LETTERS)
  (wGREATEST_WEIGHT:PySem.W.nsIn K mainGlobals "GREATEST_WEIGHT" = some (some vGREATEST_WEIGHT)) (rGREATEST_WEIGHT:RelV (.int (99)) vGREATEST_WEIGHT)
  (wLETTERS:PySem.W.nsIn K mainGlobals "LETTERS" = some (some vLETTERS)) (rLETTERS:RelV (.str (T [97,98,99,100])) vLETTERS)
  (wMOST_PIECES:PySem.W.nsIn K mainGlobals "MOST_PIECES" = some (some vMOST_PIECES)) (rMOST_PIECES:RelV (.int (32)) vMOST_PIECES)
  (zValueError:PySem.W.nsIn K mainGlobals "ValueError" = some none)
  (zall:PySem.W.nsIn K mainGlobals "all" = some none)
  (zany:PySem.W.nsIn K mainGlobals "any" = some none)
  (zbool:PySem.W.nsIn K mainGlobals "bool" = some none)
  (zdict:PySem.W.nsIn K mainGlobals "dict" = some none)
  (zenumerate:PySem.W.nsIn K mainGlobals "enumerate" = some none)
  (zint:PySem.W.nsIn K mainGlobals "int" = some none)
  (zisinstance:PySem.W.nsIn K mainGlobals "isinstance" = some none)
  (zlen:PySem.W.nsIn K mainGlobals "len" = some none)
  (zlist:PySem.W.nsIn K mainGlobals "list" = some none)
  (zrange:PySem.W.nsIn K mainGlobals "range" = some none)
  (zsorted:PySem.W.nsIn K mainGlobals "sorted" = some none)
  (zstr:PySem.W.nsIn K mainGlobals "str" = some none)
  (zsum:PySem.W.nsIn K mainGlobals "sum" = some none)
  (ztuple:PySem.W.nsIn K mainGlobals "tuple" = some none)
  (zzip:PySem.W.nsIn K mainGlobals "zip" = some none)
  {xa_NoBook xa_NoLetters xa_NoPiece xa_NoSize xa_NoSource xa_NoWord xa_PieceError:Addr}
  (y_NoBook:PySem.W.nsIn K mainGlobals "NoBook" = some (some (.ref xa_NoBook))) (q_NoBook:PySem.W.excIn K xa_NoBook [.type "ValueError", .type "Exception", .type "BaseException", .type "object"] "ValueError.__new__" = true)
  (y_NoLetters:PySem.W.nsIn K mainGlobals "NoLetters" = some (some (.ref xa_NoLetters))) (q_NoLetters:PySem.W.excIn K xa_NoLetters [.type "ValueError", .type "Exception", .type "BaseException", .type "object"] "ValueError.__new__" = true)
  (y_NoPiece:PySem.W.nsIn K mainGlobals "NoPiece" = some (some (.ref xa_NoPiece))) (q_NoPiece:PySem.W.excIn K xa_NoPiece [.type "ValueError", .type "Exception", .type "BaseException", .type "object"] "ValueError.__new__" = true)
  (y_NoSize:PySem.W.nsIn K mainGlobals "NoSize" = some (some (.ref xa_NoSize))) (q_NoSize:PySem.W.excIn K xa_NoSize [.type "ValueError", .type "Exception", .type "BaseException", .type "object"] "ValueError.__new__" = true)
  (y_NoSource:PySem.W.nsIn K mainGlobals "NoSource" = some (some (.ref xa_NoSource))) (q_NoSource:PySem.W.excIn K xa_NoSource [.type "ValueError", .type "Exception", .type "BaseException", .type "object"] "ValueError.__new__" = true)
  (y_NoWord:PySem.W.nsIn K mainGlobals "NoWord" = some (some (.ref xa_NoWord))) (q_NoWord:PySem.W.excIn K xa_NoWord [.type "ValueError", .type "Exception", .type "BaseException", .type "object"] "ValueError.__new__" = true)
  (y_PieceError:PySem.W.nsIn K mainGlobals "PieceError" = some (some (.ref xa_PieceError))) (q_PieceError:PySem.W.excIn K xa_PieceError [.type "ValueError", .type "Exception", .type "BaseException", .type "object"] "ValueError.__new__" = true)
  (ga_NoSource:PySem.W.findIn K (.ref xa_NoSource) "__getattribute__" = some (some (.builtin "BaseException.__getattribute__")))
  (gt_NoSource:PySem.W.findIn K (.ref xa_NoSource) "__getattr__" = some none)
  (cl_NoSource:PySem.W.findIn K (.ref xa_NoSource) "__class__" = some (some (.builtin "object.__class__")))
  (be_NoSource:PySem.W.subIn K (.ref xa_NoSource) (.type "BaseException")=some true)
  (ob_NoSource:PySem.W.subIn K (.ref xa_NoSource) (.type "object")=some true)
  (is_NoSource:PySem.W.isClsIn K xa_NoSource=true)
  (fs_NoSource:PySem.W.subIn K (.ref xa_NoSource) (.ref xa_PieceError)=some true)
  (fk_NoSource_NoSource:PySem.W.kitOne K (.ref xa_NoSource) (.ref xa_NoSource)=some true)
  (fk_NoSource_NoBook:PySem.W.kitOne K (.ref xa_NoSource) (.ref xa_NoBook)=some false)
  (fk_NoSource_NoPiece:PySem.W.kitOne K (.ref xa_NoSource) (.ref xa_NoPiece)=some false)
  (fk_NoSource_NoLetters:PySem.W.kitOne K (.ref xa_NoSource) (.ref xa_NoLetters)=some false)
  (fk_NoSource_NoWord:PySem.W.kitOne K (.ref xa_NoSource) (.ref xa_NoWord)=some false)
  (fk_NoSource_NoSize:PySem.W.kitOne K (.ref xa_NoSource) (.ref xa_NoSize)=some false)
  (fv_NoSource:PySem.W.kitOne K (.ref xa_NoSource) (.type "ValueError")=some true)
  (ga_NoBook:PySem.W.findIn K (.ref xa_NoBook) "__getattribute__" = some (some (.builtin "BaseException.__getattribute__")))
  (gt_NoBook:PySem.W.findIn K (.ref xa_NoBook) "__getattr__" = some none)
  (cl_NoBook:PySem.W.findIn K (.ref xa_NoBook) "__class__" = some (some (.builtin "object.__class__")))
  (be_NoBook:PySem.W.subIn K (.ref xa_NoBook) (.type "BaseException")=some true)
  (ob_NoBook:PySem.W.subIn K (.ref xa_NoBook) (.type "object")=some true)
  (is_NoBook:PySem.W.isClsIn K xa_NoBook=true)
  (fs_NoBook:PySem.W.subIn K (.ref xa_NoBook) (.ref xa_PieceError)=some true)
  (fk_NoBook_NoSource:PySem.W.kitOne K (.ref xa_NoBook) (.ref xa_NoSource)=some false)
  (fk_NoBook_NoBook:PySem.W.kitOne K (.ref xa_NoBook) (.ref xa_NoBook)=some true)
  (fk_NoBook_NoPiece:PySem.W.kitOne K (.ref xa_NoBook) (.ref xa_NoPiece)=some false)
  (fk_NoBook_NoLetters:PySem.W.kitOne K (.ref xa_NoBook) (.ref xa_NoLetters)=some false)
  (fk_NoBook_NoWord:PySem.W.kitOne K (.ref xa_NoBook) (.ref xa_NoWord)=some false)
  (fk_NoBook_NoSize:PySem.W.kitOne K (.ref xa_NoBook) (.ref xa_NoSize)=some false)
  (fv_NoBook:PySem.W.kitOne K (.ref xa_NoBook) (.type "ValueError")=some true)
  (ga_NoSize:PySem.W.findIn K (.ref xa_NoSize) "__getattribute__" = some (some (.builtin "BaseException.__getattribute__")))
  (gt_NoSize:PySem.W.findIn K (.ref xa_NoSize) "__getattr__" = some none)
  (cl_NoSize:PySem.W.findIn K (.ref xa_NoSize) "__class__" = some (some (.builtin "object.__class__")))
  (be_NoSize:PySem.W.subIn K (.ref xa_NoSize) (.type "BaseException")=some true)
  (ob_NoSize:PySem.W.subIn K (.ref xa_NoSize) (.type "object")=some true)
  (is_NoSize:PySem.W.isClsIn K xa_NoSize=true)
  (fs_NoSize:PySem.W.subIn K (.ref xa_NoSize) (.ref xa_PieceError)=some true)
  (fk_NoSize_NoSource:PySem.W.kitOne K (.ref xa_NoSize) (.ref xa_NoSource)=some false)
  (fk_NoSize_NoBook:PySem.W.kitOne K (.ref xa_NoSize) (.ref xa_NoBook)=some false)
  (fk_NoSize_NoPiece:PySem.W.kitOne K (.ref xa_NoSize) (.ref xa_NoPiece)=some false)
  (fk_NoSize_NoLetters:PySem.W.kitOne K (.ref xa_NoSize) (.ref xa_NoLetters)=some false)
  (fk_NoSize_NoWord:PySem.W.kitOne K (.ref xa_NoSize) (.ref xa_NoWord)=some false)
  (fk_NoSize_NoSize:PySem.W.kitOne K (.ref xa_NoSize) (.ref xa_NoSize)=some true)
  (fv_NoSize:PySem.W.kitOne K (.ref xa_NoSize) (.type "ValueError")=some true) :
  ∃fd:FuncData,(∀(s:Shared) (v:Value),BindsTo s fd ⟨[v],[]⟩ [("_law_script", v)])/\∀base:Heap,K.In base->base.Ns mainGlobals mg->FnOk l.prog w K mg base CX0 11 fa fd ["_law_script"] (zfo K):=by
 obtain⟨aL,lL,cL,kL⟩:=a55
 have e:=hfa.symm.trans (la4 X G aL)
 cases e
 have FL:=zkW (st:=zdw) lL cL kL
 have bL:=FL.binds (ps:=["_law_script"]) (λ_ _ _ _ _ _=>bd1 λ_=>rfl)
 let t:Txt K mg:=⟨a0.D X G,a1.D X G,a2.D X G,a3.D X G,a4.D X G,a5.D X G,a6.D X G,a7.D X G,a8.D X G,a9.D X G,a10.D X G,a11.D X G,a12.D X G,a13.D X G,a14.D X G,a15.D X G,a16.D X G,a17.D X G,a18.D X G,a19.D X G,a20.D X G,a21.D X G,a22.D X G,a23.D X G,a24.D X G,a25.D X G,a26.D X G,a27.D X G,a28.D X G,a29.D X G,a30.D X G,a31.D X G,a32.D X G,a33.D X G,a34.D X G,a35.D X G,a36.D X G,a37.D X G,a38.D X G,a39.D X G,a40.D X G,a41.D X G,a42.D X G,a43.D X G,a44.D X G,a45.D X G,a46.D X G,a47.D X G,a48.D X G,a49.D X G,a50.D X G,a51.D X G,a52.D X G,a53.D X G,a54.D X G,⟨_,_,FL,la4 X G aL,bL⟩,vFEWEST_LETTERS,la4 X G wFEWEST_LETTERS,rFEWEST_LETTERS,vGREATEST_WEIGHT,la4 X G wGREATEST_WEIGHT,rGREATEST_WEIGHT,vLETTERS,la4 X G wLETTERS,rLETTERS,vMOST_PIECES,la4 X G wMOST_PIECES,rMOST_PIECES,lak X G zValueError,lak X G zall,lak X G zany,lak X G zbool,lak X G zdict,lak X G zenumerate,lak X G zint,lak X G zisinstance,lak X G zlen,lak X G zlist,lak X G zrange,lak X G zsorted,lak X G zstr,lak X G zsum,lak X G ztuple,lak X G zzip,⟨xa_NoBook,la4 X G y_NoBook,q_NoBook⟩,⟨xa_NoLetters,la4 X G y_NoLetters,q_NoLetters⟩,⟨xa_NoPiece,la4 X G y_NoPiece,q_NoPiece⟩,⟨xa_NoSize,la4 X G y_NoSize,q_NoSize⟩,⟨xa_NoSource,la4 X G y_NoSource,q_NoSource⟩,⟨xa_NoWord,la4 X G y_NoWord,q_NoWord⟩,⟨xa_PieceError,la4 X G y_PieceError,q_PieceError⟩,⟨ga_NoSource,gt_NoSource,cl_NoSource,be_NoSource,ob_NoSource,is_NoSource⟩,fs_NoSource,fk_NoSource_NoSource,fk_NoSource_NoBook,fk_NoSource_NoPiece,fk_NoSource_NoLetters,fk_NoSource_NoWord,fk_NoSource_NoSize,fv_NoSource,⟨ga_NoBook,gt_NoBook,cl_NoBook,be_NoBook,ob_NoBook,is_NoBook⟩,fs_NoBook,fk_NoBook_NoSource,fk_NoBook_NoBook,fk_NoBook_NoPiece,fk_NoBook_NoLetters,fk_NoBook_NoWord,fk_NoBook_NoSize,fv_NoBook,⟨ga_NoSize,gt_NoSize,cl_NoSize,be_NoSize,ob_NoSize,is_NoSize⟩,fs_NoSize,fk_NoSize_NoSource,fk_NoSize_NoBook,fk_NoSize_NoPiece,fk_NoSize_NoLetters,fk_NoSize_NoWord,fk_NoSize_NoSize,fv_NoSize⟩
 exact⟨_,λs v=>.of_eq rfl,λbase _ _=>zqC (zpj t) zmw⟩
theorem walk {l:PySem.W.OpenLaw}{q:Program}{loose:List Str}{XP:(qQ3)->Heap->Prop}{YP:World->Heap->Prop}{d:DefRec}{K:Params->qQ0}(hn:l.most=some 63)(hdf:d.params.defaults=[])
  (hY:∀(w:World) (h:Heap),YP w h->(K w.params).In h)
  (F:∀(w:World) (mg:qQ3) (fa:Addr) (h:Heap),(K w.params).In h->h.Ns mainGlobals mg->mg d.name=some (.ref fa) ->
   ∃fd:FuncData,(∀(s:Shared) (u:Value),BindsTo s fd ⟨[u],[]⟩ [("_law_script", u)])/\∀base:Heap,(K w.params).In base->base.Ns mainGlobals mg->FnOk l.prog w (K w.params) mg base CX0 11 fa fd ["_law_script"] (zfo (K w.params))) :
  PySem.W.WalkO q loose XP YP l.row.toRowW d [] (λf vs=>PySem.call f vs) :=
 L2.walk_of (n:=63) (k:=11) (x := "_law_script") (CX:=λ_=>CX0) (sp:=λw=>zfo (K w.params)) hn (by decide) hdf ⟨rfl,by decide,by decide⟩ hY F (λ_ _ a ns hl _ hS=>⟨a,ns,rfl,hS,hl,λ_=>rfl⟩) λ_ _ _ _ _ z=>z
end K30
theorem PySem.W.Fast.tw3143071048364175173 : True := trivial
theorem PySem.W.Fast.tw15762371683922699577 : True := trivial
theorem PySem.W.Fast.tw4817847849600294980 : True := trivial
theorem PySem.W.Fast.tw6852688592647237103 : True := trivial
theorem PySem.W.Fast.tw1089029766179506485 : True := trivial
theorem PySem.W.Fast.tw3756864207922441066 : True := trivial
theorem PySem.W.Fast.tw5939533569542625166 : True := trivial
theorem PySem.W.Fast.tw18157314522693670373 : True := trivial
theorem PySem.W.Fast.tw6323526274792097816 : True := trivial
theorem PySem.W.Fast.tw9101152013470132051 : True := trivial
theorem PySem.W.Fast.tw4089404505753462400 : True := trivial
theorem PySem.W.Fast.tw3480296739357033330 : True := trivial
theorem PySem.W.Fast.tw4683906015021710125 : True := trivial
theorem PySem.W.Fast.tw11818121579851440678 : True := trivial
theorem PySem.W.Fast.tw1911934857082683118 : True := trivial
theorem PySem.W.Fast.tw7050901933630002676 : True := trivial
theorem PySem.W.Fast.tw7491260628350114122 : True := trivial
theorem PySem.W.Fast.tw5817497899969342263 : True := trivial
theorem PySem.W.Fast.tw1934354077975143145 : True := trivial
theorem PySem.W.Fast.tw14148218743725432324 : True := trivial
theorem PySem.W.Fast.tw11028949937840469028 : True := trivial
theorem PySem.W.Fast.tw3598216126478609576 : True := trivial
open PySem PySem.W PyProof.Rows
set_option maxRecDepth 100000 in
set_option maxHeartbeats 0 in
theorem PySem.Challenge.cw_piecebooks_k30_best_holds : PySem.Challenge.rw_piecebooks_k30_best.Holds := by
 w_on;o_law;k_head;(case hw=>w_witness2)
 k_fill
 refine K30.walk (l:=PySem.Challenge.rw_piecebooks_k30_best) rfl rfl (fun w h Y=>PySem.W.kIn_of Y) ?F
 case F =>
  intro w mg fa h KX G hmg
  refine' K30.all_mk KX G hmg ?a0 ?a1 ?a2 ?a3 ?a4 ?a5 ?a6 ?a7 ?a8 ?a9 ?a10 ?a11 ?a12 ?a13 ?a14 ?a15 ?a16 ?a17 ?a18 ?a19 ?a20 ?a21 ?a22 ?a23 ?a24 ?a25 ?a26 ?a27 ?a28 ?a29 ?a30 ?a31 ?a32 ?a33 ?a34 ?a35 ?a36 ?a37 ?a38 ?a39 ?a40 ?a41 ?a42 ?a43 ?a44 ?a45 ?a46 ?a47 ?a48 ?a49 ?a50 ?a51 ?a52 ?a53 ?a54 ?a55 ?wFEWEST_LETTERS ?rFEWEST_LETTERS ?wGREATEST_WEIGHT ?rGREATEST_WEIGHT ?wLETTERS ?rLETTERS ?wMOST_PIECES ?rMOST_PIECES ?zValueError ?zall ?zany ?zbool ?zdict ?zenumerate ?zint ?zisinstance ?zlen ?zlist ?zrange ?zsorted ?zstr ?zsum ?ztuple ?zzip ?y_NoBook ?q_NoBook ?y_NoLetters ?q_NoLetters ?y_NoPiece ?q_NoPiece ?y_NoSize ?q_NoSize ?y_NoSource ?q_NoSource ?y_NoWord ?q_NoWord ?y_PieceError ?q_PieceError ?ga_NoSource ?gt_NoSource ?cl_NoSource ?be_NoSource ?ob_NoSource ?is_NoSource ?fs_NoSource ?fk_NoSource_NoSource ?fk_NoSource_NoBook ?fk_NoSource_NoPiece ?fk_NoSource_NoLetters ?fk_NoSource_NoWord ?fk_NoSource_NoSize ?fv_NoSource ?ga_NoBook ?gt_NoBook ?cl_NoBook ?be_NoBook ?ob_NoBook ?is_NoBook ?fs_NoBook ?fk_NoBook_NoSource ?fk_NoBook_NoBook ?fk_NoBook_NoPiece ?fk_NoBook_NoLetters ?fk_NoBook_NoWord ?fk_NoBook_NoSize ?fv_NoBook ?ga_NoSize ?gt_NoSize ?cl_NoSize ?be_NoSize ?ob_NoSize ?is_NoSize ?fs_NoSize ?fk_NoSize_NoSource ?fk_NoSize_NoBook ?fk_NoSize_NoPiece ?fk_NoSize_NoLetters ?fk_NoSize_NoWord ?fk_NoSize_NoSize ?fv_NoSize
  (case a0|a1|a2|a3|a4|a5|a6|a7|a8|a9|a10|a11|a12|a13|a14|a15|a16|a17|a18|a19|a20|a21|a22|a23|a24|a25|a26|a27|a28|a29|a30|a31|a32|a33|a34|a35|a36|a37|a38|a39|a40|a41|a42|a43|a44|a45|a46|a47|a48|a49|a50|a51|a52|a53|a54|a55=>refine' L2.Dz.mk ?za ?zl ?zc ?zk;(case za=>k_is);(case zl=>k_is);(case zc=>k_is);(case zk=>k_is))
  (case wFEWEST_LETTERS=>k_is)
  (case rFEWEST_LETTERS=>exact⟨_,rfl⟩)
  (case wGREATEST_WEIGHT=>k_is)
  (case rGREATEST_WEIGHT=>exact⟨_,rfl⟩)
  (case wLETTERS=>k_is)
  (case rLETTERS=>exact⟨_,rfl⟩)
  (case wMOST_PIECES=>k_is)
  (case rMOST_PIECES=>exact⟨_,rfl⟩)
  (case y_NoBook=>k_is)
  (case q_NoBook=>k_exc)
  (case y_NoLetters=>k_is)
  (case q_NoLetters=>k_exc)
  (case y_NoPiece=>k_is)
  (case q_NoPiece=>k_exc)
  (case y_NoSize=>k_is)
  (case q_NoSize=>k_exc)
  (case y_NoSource=>k_is)
  (case q_NoSource=>k_exc)
  (case y_NoWord=>k_is)
  (case q_NoWord=>k_exc)
  (case y_PieceError=>k_is)
  (case q_PieceError=>k_exc)
  (case zValueError|zall|zany|zbool|zdict|zenumerate|zint|zisinstance|zlen|zlist|zrange|zsorted|zstr|zsum|ztuple|zzip=>k_is)
  (case ga_NoSource|gt_NoSource|cl_NoSource|be_NoSource|ob_NoSource|is_NoSource|fs_NoSource|ga_NoBook|gt_NoBook|cl_NoBook|be_NoBook|ob_NoBook|is_NoBook|fs_NoBook|ga_NoSize|gt_NoSize|cl_NoSize|be_NoSize|ob_NoSize|is_NoSize|fs_NoSize=>k_is)
  (case fk_NoSource_NoSource|fk_NoSource_NoBook|fk_NoSource_NoPiece|fk_NoSource_NoLetters|fk_NoSource_NoWord|fk_NoSource_NoSize|fv_NoSource|fk_NoBook_NoSource|fk_NoBook_NoBook|fk_NoBook_NoPiece|fk_NoBook_NoLetters|fk_NoBook_NoWord|fk_NoBook_NoSize|fv_NoBook|fk_NoSize_NoSource|fk_NoSize_NoBook|fk_NoSize_NoPiece|fk_NoSize_NoLetters|fk_NoSize_NoWord|fk_NoSize_NoSize|fv_NoSize=>kit_is)
#print axioms PySem.Challenge.cw_piecebooks_k30_best_holds
