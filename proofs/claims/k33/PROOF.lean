import PyProof.Rows.All
import Wide.All
import OpenK.AllK
import Wide.FinOn
import KE.KDictOf
import KE.KDictSum
import KE.KIntText
import KE.KItem
import KE.KRevIter
import OpenK.KOwn
import PyProof.AttrMissHeap
import PyProof.AutoSeq1
import PyProof.CodeObj
import PyProof.CollectWalk
import PyProof.ConsumeWalk
import PyProof.Conv_int_bool
import PyProof.DictIter
import PyProof.DictKinds
import PyProof.DictUpdate
import PyProof.Draws
import PyProof.EnumIter
import PyProof.EnumMake
import PyProof.EqAt
import PyProof.EqKinds
import PyProof.ExcArgsOwn
import PyProof.FactsAll.dict_1
import PyProof.FactsAll.set
import PyProof.FactsAll.set_2
import PyProof.ListMulRoad
import PyProof.ListNew
import PyProof.ListStr
import PyProof.NeData
import PyProof.P3In
import PyProof.Rows.DictSet
import PyProof.Rows.Range3
import PyProof.Rows.SetFrom
import PyProof.Rows.SortShell
import PyProof.Rows.SortStr
import PyProof.Rows.SortWalk
import PyProof.SeqI3
import PyProof.SetKind
import PyProof.StrOps2
import PyProof.StrWalks
import PyProof.TupleCall
import PyProof.TupleOps
import PyProof.Walks
import PyProof.WalksMore
import PyProof.WalksS
import PyProof.ZipIter
import Lean
import PySem.Challenge.RW_piecebooks_k33_whole_alike
set_option Elab.async false
set_option linter.all false
set_option maxRecDepth 100000
abbrev la:=@PySem.wpAny_bind
abbrev lb:=@PySem.Heap.get?_push_of_some
abbrev lc:=@PySem.wpAny_pure
abbrev lQ9:=@List.getElem?_eq_getElem
abbrev lg:=@Option.some.inj
abbrev lh:=@List.length_map
abbrev lj:=@PySem.Heap.get?_push_size
abbrev lm:=@List.getD_eq_getElem?_getD
abbrev lr:=@Nat.le_refl
abbrev lu:=@PySem.Heap.lt_size
abbrev lv:=@List.getElem?_eq_some_iff
abbrev lw:=@List.map_cons
abbrev ly:=@List.getElem?_set_ne
abbrev lz:=@Nat.lt_of_lt_of_le
abbrev lB:=@List.mem_cons
abbrev lC:=@List.length_cons
abbrev lD:=@Bool.false_ne_true
abbrev lF:=@List.size_toArray
abbrev lG:=@List.length_append
abbrev lH:=@if_pos
abbrev lK:=@List.mem_singleton
abbrev lM:=@List.mem_cons_of_mem
abbrev lN:=@decide_eq_false
abbrev lO:=@Nat.ne_of_lt
abbrev lP:=@PySem.wpAny_callSpecial?_slot
abbrev lQ:=@List.mem_append_right
abbrev lS:=@Bool.false_eq_true
abbrev lT:=@List.getElem?_map
abbrev lU:=@PySem.wpAny_call_entry
abbrev lV:=@List.length_nil
abbrev lW:=@decide_eq_true
abbrev lX:=@List.length_replicate
abbrev lY:=@List.map_map
abbrev lZ:=@Int.eq_ofNat_of_zero_le
abbrev laa:=@PySem.Heap.size_push
abbrev lab:=@Bool.and_eq_true
abbrev lac:=@List.mem_cons_self
abbrev lad:=@List.length_range
abbrev lae:=@List.length_take
abbrev laf:=@PySem.wpAny_newObj_type
abbrev lag:=@List.foldl_cons
abbrev lah:=@List.mem_map
abbrev lai:=@PySem.wpAny_field
abbrev laj:=@Nat.le_trans
abbrev lak:=@Int.mul_le_mul_of_nonneg_right
abbrev lal:=@List.append_nil
abbrev lam:=@PySem.Heap.SameBut.update
abbrev lan:=@List.getElem?_cons_zero
abbrev lao:=@List.getElem?_cons_succ
abbrev lap:=@if_neg
abbrev laq:=@List.idxOf_lt_length_iff
abbrev lar:=@List.sum_cons
abbrev las:=@List.drop_eq_getElem_cons
abbrev lat:=@List.mem_append
abbrev lau:=@Int.le_of_lt
abbrev lav:=@PySem.Heap.get?_update_self
abbrev lax:=@PySem.PassesOwn.never
abbrev lay:=@PySem.wpAny_holding
abbrev laz:=@PySem.W.mg_none_of
abbrev laA:=@PySem.mem_of_lookup
abbrev laB:=@List.replicate_succ
abbrev laC:=@List.map_congr_left
abbrev laD:=@List.cons_append
abbrev laE:=@List.getElem?_append_right
abbrev laF:=@Classical.byContradiction
abbrev laG:=@PyProof.Rows.callWith_type1
abbrev laH:=@List.nil_append
abbrev laI:=@List.drop_of_length_le
abbrev laJ:=@List.isPrefixOf_iff_prefix
abbrev laK:=@Int.toNat_natCast
abbrev laL:=@List.all_eq_true
abbrev laM:=@List.cons_lt_cons_iff
abbrev laN:=@List.set_cons_zero
abbrev laO:=@List.set_cons_succ
abbrev laP:=@PySem.sizeLine_eq
abbrev laQ:=@List.getElem?_append_left
abbrev laR:=@Array.getElem?_eq_getElem
abbrev laS:=@Nat.ne_of_gt
abbrev laT:=@List.map_nil
abbrev laU:=@List.mem_of_getElem?
abbrev laV:=@List.getElem_mem
abbrev laW:=@PyProof.Rows.slot_tuple_getitem
abbrev laX:=@List.getElem?_nil
abbrev laY:=@Int.mul_comm
abbrev laZ:=@Int.mul_lt_mul_of_pos_left
abbrev la0:=@List.nodup_iff_pairwise_ne
abbrev la1:=@List.getElem?_replicate
abbrev la2:=@List.length_eq_zero_iff
abbrev la3:=@PySem.Heap.dictOf_iff
abbrev la4:=@List.map_append
abbrev la5:=@Int.mul_le_mul_of_nonneg_left
abbrev la6:=@List.mem_range
abbrev la7:=@PySem.wpAny_seqItems
abbrev la8:=@Bool.not_false
abbrev la9:=@PySem.Around.under_plainId
abbrev lba:=@Nat.zero_add
abbrev lbb:=@Ne.symm
abbrev lbc:=@List.take_of_length_le
abbrev lbd:=@List.prefix_append
abbrev lbe:=@PySem.F.slot_zip_next
abbrev lbf:=@PySem.codeAny_builtin
abbrev lbg:=@PySem.wpAny_truthy_bool
abbrev lbh:=@decide_eq_true_eq
abbrev lbi:=@Int.mul_assoc
abbrev lbj:=@congrArg
abbrev lbk:=@PySem.wpAny_Call_Name_kw
abbrev lbl:=@Int.pow_succ
abbrev lbm:=@PySem.wpAny_mono
abbrev lbn:=@Array.getElem?_eq_none
abbrev lbo:=@List.prefix_concat_iff
abbrev lbp:=@PySem.wpAny_setField
abbrev lbq:=@PySem.wpAny_askSetting
abbrev lbr:=@Bool.not_true
abbrev lbs:=@Int.pow_pos
abbrev lbt:=@List.flatten_cons
abbrev lbu:=@List.append_assoc
abbrev lbv:=@List.pairwise_map
abbrev lbw:=@PySem.wpAny_setState_of
abbrev lbx:=@if_false
abbrev lby:=@PySem.wpAny_setField_rec
abbrev lbz:=@PySem.W.mg_of
abbrev lbA:=@Int.emod_lt_of_pos
abbrev lbB:=@List.perm_ext_iff_of_nodup
abbrev lbC:=@PySem.Heap.get?_update_other
abbrev lbD:=@if_true
abbrev lbE:=@List.take_add_one
abbrev lbF:=@List.length_pos_iff
abbrev lbG:=@List.mem_filter
abbrev lbH:=@PySem.F.slot_str_ascii_iterator_next
abbrev lbI:=@Nat.le_succ
abbrev lbJ:=@Nat.zero_le
abbrev lbK:=@List.dropLast_prefix
abbrev lbL:=@Nat.lt_irrefl
abbrev lbM:=@PySem.wpAny_attempt
abbrev lbN:=@List.nodup_append
abbrev lbO:=@beq_eq_false_iff_ne
abbrev lbP:=@Array.length_toList
abbrev lbQ:=@List.nodup_cons
abbrev lbR:=@Int.pow_add
abbrev lbS:=@Int.emod_nonneg
abbrev lbT:=@Int.natCast_add
abbrev lbU:=@PySem.F.slot_tuple_iterator_next
abbrev lbV:=@PySem.wpAny_typeOf
abbrev lbW:=@PySem.Obj.data_mapFields
abbrev lbX:=@PySem.builtinLookup_eq_fast
abbrev lbY:=@PySem.plainId_quiet
abbrev lbZ:=@List.zip_cons_cons
abbrev lb0:=@PySem.F.slot_zip_next
abbrev lb1:=@Int.mul_le_mul
abbrev lb2:=@List.mem_append_left
abbrev lb3:=@List.mem_of_mem_take
abbrev lb4:=@PySem.wpAny_passesOwn
abbrev lb5:=@PySem.wpAny_pyIter_list
abbrev lb6:=@List.forIn_cons
abbrev lb7:=@PySem.F.args_zip_next_1
abbrev lb8:=@List.flatMap_cons
abbrev lb9:=@List.eq_of_mem_replicate
abbrev lca:=@List.Nodup.length_le_of_subset
abbrev lcb:=@List.prefix_iff_eq_take
abbrev lcc:=@PySem.F.entry_zip_next
abbrev lcd:=@Nat.le_add_right
abbrev lce:=@List.prefix_refl
abbrev lcf:=@PySem.wpAny_rule
abbrev lcg:=@List.forIn_nil
abbrev lch:=@List.getElem?_set_self
abbrev lci:=@List.find?_cons_of_neg
abbrev lcj:=@PySem.wpAny_pyIter_tuple
abbrev lck:=@List.getElem_idxOf
abbrev lcl:=@PySem.boot_len
abbrev lcm:=@List.find?_cons
abbrev lcn:=@Bool.eq_iff_iff
abbrev lco:=@PySem.W.kia_one
abbrev lcp:=@List.map_id
abbrev lcq:=@PySem.wpAny_ite_split
abbrev lcr:=@PySem.F.called_set
abbrev lcs:=@List.all_cons
abbrev lct:=@PySem.call_meets
abbrev lcu:=@Nat.lt_succ_of_lt
abbrev lcv:=@List.length_dropLast
abbrev lcw:=@List.pairwise_append
abbrev lcx:=@List.dropLast_concat
abbrev lcy:=@List.rel_of_pairwise_cons
abbrev lcz:=@PySem.Calls.call_function_entry
abbrev lcA:=@List.nodup_nil
abbrev lcB:=@List.length_drop
abbrev lcC:=@PySem.wpAny_isInstance
abbrev lcD:=@List.lookup_cons
abbrev lcE:=@Nat.lt_succ_self
abbrev lcF:=@List.all_toArray
abbrev lcG:=@List.take_prefix
abbrev lcH:=@List.any_eq_true
abbrev lcI:=@List.filterMap_cons
abbrev lcJ:=@List.not_lt
abbrev lcK:=@PySem.codeAny_mono
abbrev lcL:=@PySem.F.args_tuple_add_2
abbrev lcM:=@Int.pow_zero
abbrev lcN:=@List.Perm.eq_of_pairwise
abbrev lcO:=@Nat.lt_or_ge
abbrev lcP:=@PySem.AutoSeq1.wpAny_loadPart'
abbrev lcQ:=@PySem.F.slot_list_getattribute
abbrev lcR:=@PyProof.Rows.boot_tuple
abbrev lcS:=@PySem.Calls.spliced_cons
abbrev lcT:=@List.of_mem_zip
abbrev lcU:=@PySem.F.entry_tuple_add
abbrev lcV:=@Array.forIn_toList
abbrev lcW:=@PySem.typeLookup_type
abbrev lcX:=@PySem.F.slot_zip_getattribute
abbrev lcY:=@PySem.slot_listiter_next
abbrev lcZ:=@List.pairwise_cons
abbrev lc0:=@decide_eq_false_iff_not
abbrev lc1:=@List.filter_cons_of_neg
abbrev lc2:=@List.filter_cons_of_pos
abbrev lc3:=@PySem.F.slot_tuple_add
abbrev lc4:=@List.find?_cons_of_pos
abbrev lc5:=@List.take_sublist
abbrev lc6:=@of_decide_eq_true
abbrev lc7:=@Bool.not_eq_true'
abbrev lc8:=@Int.le_refl
abbrev lc9:=@List.Pairwise.imp
abbrev lda:=@PySem.isSubtype_type
abbrev ldb:=@List.length_singleton
abbrev ldc:=@PySem.Obj.isFreed_of_fields
abbrev ldd:=@List.take_append_drop
abbrev lde:=@List.take_length
abbrev ldf:=@List.not_mem_nil
abbrev ldg:=@PySem.Calls.evalArgs_plain
abbrev ldh:=@PySem.wpAny_updateSeq_pair
abbrev ldi:=@List.mem_of_mem_drop
abbrev ldj:=@List.any_cons
abbrev ldk:=@PySem.W.hideAll_get
abbrev ldl:=@PySem.wpAny_execs_nil
abbrev ldm:=@PySem.wpAny_loadPart'
abbrev ldn:=@Int.mul_pos
abbrev ldo:=@List.nil_prefix
abbrev ldp:=@List.prefix_nil
abbrev ldq:=@PySem.wpAny_setEntries_of
abbrev ldr:=@PySem.F.slot_int_rmul
abbrev lds:=@Int.add_mul
abbrev ldt:=@Nat.mul_le_mul_left
abbrev ldu:=@Array.append_assoc
abbrev ldv:=@List.mem_filterMap
abbrev ldw:=@Nat.lt_of_le_of_lt
abbrev ldx:=@PySem.wpAny_pyIter_ascii
abbrev ldy:=@List.lookup_append
abbrev ldz:=@List.all_map
abbrev ldA:=@Int.lt_of_le_of_lt
abbrev ldB:=@PySem.isSubtype_stop
abbrev ldC:=@List.drop_zero
abbrev ldD:=@List.lt_irrefl
abbrev ldE:=@List.Perm.refl
abbrev ldF:=@Nat.mul_le_mul
abbrev ldG:=@Int.mul_nonneg
abbrev ldH:=@PySem.wpAny_load
abbrev ldI:=@Int.gcd_dvd_right
abbrev ldJ:=@PySem.Obj.cls_mapFields
abbrev ldK:=@PySem.Heap.SameBut.refl
abbrev ldL:=@beq_iff_eq
abbrev ldM:=@PySem.wpAny_pyIter_slot
abbrev ldN:=@PySem.fits_of_scanBound
abbrev ldO:=@PySem.wpAny_storeSet_of
abbrev ldP:=@List.foldl_append
abbrev ldQ:=@PySem.wpAny_of_eq
abbrev ldR:=@PySem.wpAny_handled
abbrev ldS:=@PySem.wpAny_onRaise
abbrev ldT:=@PySem.wpAny_newList
abbrev ldU:=@List.map_take
abbrev ldV:=@Int.one_mul
abbrev ldW:=@PySem.noFill_tuple_add
abbrev ldX:=@Nat.min_le_right
abbrev ldY:=@List.filter_cons
abbrev ldZ:=@Nat.le_of_not_lt
abbrev ld0:=@List.mem_nil_iff
abbrev ld1:=@List.mem_flatMap
abbrev ld2:=@List.le_antisymm
abbrev ld3:=@Nat.min_eq_right
abbrev ld4:=@PySem.F.slot_tuple_mul
abbrev ld5:=@List.nodup_range
abbrev ld6:=@Nat.le_of_lt
abbrev ld7:=@PySem.concat_meets
abbrev ld8:=@Nat.lt_trans
abbrev lea:=@Nat.le_total
abbrev leb:=@Option.map_some
abbrev lec:=@List.range_succ
abbrev lee:=@List.any_map
abbrev leg:=@Nat.le_antisymm
abbrev leh:=@Nat.min_eq_left
abbrev lei:=@List.sum_nil
abbrev lej:=@PySem.typeIs_int
abbrev lek:=@Nat.not_lt
abbrev leo:=@List.take_zero
abbrev lez:=@Bool.or_false
abbrev leA:=@or_false
abbrev leB:=@List.le_of_lt
abbrev leC:=@List.map_drop
namespace L2
open PySem PySem.Spec PyProof.Rows
abbrev Key:=Sum Int Str
def zeI:Key->Value->Bool
 | .inl k,v=>Value.isInt k v
 | .inr x,v=>Value.isStrOf x v
def zo5 (w:World):Key->Int
 | .inl k=>hashInt k
 | .inr x=>hashStr w x
theorem yD:∀{k:Key}{v:Value},zeI k v=true->(∃i t,k=Sum.inl i/\v=Value.int i t)∨(∃x t,k=Sum.inr x/\v=Value.str x t)
 | .inl i,v,h=>by
  obtain⟨t,e⟩:=Value.isInt_shape (k:=i) (v:=v) h
  exact .inl ⟨i,t,rfl,e⟩
 | .inr x,v,h=>by
  obtain⟨t,e⟩:=Value.isStrOf_shape (x:=x) (v:=v) h
  exact .inr ⟨x,t,rfl,e⟩
theorem zhy (i:Int)(t:Tok):zeI (.inl i) (.int i t)=true:=by simp[zeI,Value.isInt]
theorem zh1 (x:Str)(t:Tok):zeI (.inr x) (.str x t)=true:=by simp[zeI,Value.isStrOf]
theorem zmY (a b:Int):decide ((Sum.inl a:Key)=Sum.inl b)=(a == b):=by
 by_cases e:a=b
 ·subst e;simp
 ·have h:¬(Sum.inl a:Key)=Sum.inl b:=λq=>e (Sum.inl.inj q)
  rw[lN h]
  exact(lbO.mpr e).symm
theorem zmx (a b:Str):decide ((Sum.inr a:Key)=Sum.inr b)=decide (a=b):=by
 by_cases e:a=b
 ·subst e;simp
 ·have h:¬(Sum.inr a:Key)=Sum.inr b:=λq=>e (Sum.inr.inj q)
  rw[lN h,lN e]
theorem znk (a:Int)(b:Str):decide ((Sum.inl a:Key)=Sum.inr b)=false:=lN (λq=>nomatch q)
theorem zng (a:Str)(b:Int):decide ((Sum.inr a:Key)=Sum.inl b)=false:=lN (λq=>nomatch q)
def yW (prog:Program)(w:World):PySem.KeyKind prog w Key where
 is:=zeI
 hash:=zo5 w
 inj:=λv a b ha hb=>by
  rcases yD ha with⟨i,t,rfl,rfl⟩|⟨x,t,rfl,rfl⟩
  ·rcases yD hb with⟨j,u,rfl,e⟩|⟨y,u,rfl,e⟩
   ·injection e with e1 _;rw[e1]
   ·exact nomatch e
  ·rcases yD hb with⟨j,u,rfl,e⟩|⟨y,u,rfl,e⟩
   ·exact nomatch e
   ·injection e with e1 _;rw[e1]
 byValue:=λk v h=>by
  rcases yD h with⟨i,t,rfl,rfl⟩|⟨x,t,rfl,rfl⟩ <;>rfl
 pyHash:=λhv h=>by
  rcases yD hv with⟨i,t,rfl,rfl⟩|⟨x,t,rfl,rfl⟩
  ·exact wpAny_pyHash_int h
  ·exact wpAny_pyHash_str h
 eqBool:=λhu hv h=>by
  rcases yD hu with⟨i,t,rfl,rfl⟩|⟨x,t,rfl,rfl⟩
  ·rcases yD hv with⟨j,u,rfl,rfl⟩|⟨y,u,rfl,rfl⟩
   ·rw[zmY] at h;exact wpAny_eqBool_int h
   ·rw[znk] at h;exact SeqAt.EqAt.int_str i t y u _ _ _ _ h
  ·rcases yD hv with⟨j,u,rfl,rfl⟩|⟨y,u,rfl,rfl⟩
   ·rw[zng] at h;exact SeqAt.EqAt.str_int x t j u _ _ _ _ h
   ·rw[zmx] at h;exact wpAny_eqBool_str h
 «strs»:=λk x t v h=>by
  rcases yD h with⟨i,u,rfl,e⟩|⟨y,u,rfl,e⟩
  ·exact nomatch e
  ·injection e with e1 _
   subst e1
   cases v <;>rfl
theorem ze9 (prog:Program)(w:World)(i:Int)(t:Tok):(yW prog w).is (.inl i) (.int i t)=true:=zhy i t
theorem jY (prog:Program)(w:World)(x:Str)(t:Tok):(yW prog w).is (.inr x) (.str x t)=true:=zh1 x t
inductive V where
 | non|bl (b:Bool)|int (i:Int)|str (x:Str)|byt (b:Array UInt8)|flt (b:UInt64)|ref (a:Addr)|ty (n:String)
 deriving DecidableEq
def RelV:V->Value->Prop
 | .non,u=>u=Value.none
 | .bl b,u=>u=Value.bool b
 | .int i,u=>∃t,u=Value.int i t
 | .str x,u=>∃t,u=Value.str x t
 | .byt b,u=>∃t,u=Value.bytes b t
 | .flt b,u=>∃t,u=Value.float b t
 | .ref a,u=>u=Value.ref a
 | .ty n,u=>u=Value.type n
abbrev Vals:List V->List Value->Prop:=Paired RelV
theorem Vals.length {xs:List V}{us:List Value}(r:Vals xs us):xs.length=us.length:=Paired.length r
theorem Vals.get:∀{xs:List V}{us:List Value}{i:Nat}{x:V},Vals xs us->xs[i]? = some x->∃u,us[i]? = some u/\RelV x u
 | _,_,_,_,.nil,e=>by simp at e
 | _,_,0,_,.cons r _,e=>by simp at e;subst e;exact⟨_,rfl,r⟩
 | _,_,i+1,x,.cons _ t,e=>by
  obtain⟨u,h1,h2⟩:=Vals.get (i:=i) (x:=x) t (by simpa using e)
  exact⟨u,by simpa using h1,h2⟩
theorem Vals.set {x:V}{u:Value}(r:RelV x u):∀{xs:List V}{us:List Value} (i:Nat),Vals xs us->Vals (xs.set i x) (us.set i u)
 | _,_,_,.nil=>.nil
 | _,_,0,.cons _ t=>.cons r t
 | _,_,i+1,.cons q t=>.cons q (Vals.set r i t)
theorem Vals.append:∀{xs ys:List V}{us ws:List Value},Vals xs us->Vals ys ws->Vals (xs++ys) (us++ws):=by
 intro xs ys us ws h k
 induction h with
 | nil=>exact k
 | cons r t ih=>exact .cons r ih
theorem Vals.take:∀{xs:List V}{us:List Value} (n:Nat),Vals xs us->Vals (xs.take n) (us.take n)
 | _,_,0,_=>.nil
 | _,_,_+1,.nil=>.nil
 | _,_,n+1,.cons r t=>.cons r (Vals.take n t)
theorem Vals.drop:∀{xs:List V}{us:List Value} (n:Nat),Vals xs us->Vals (xs.drop n) (us.drop n)
 | _,_,0,r=>r
 | _,_,_+1,.nil=>.nil
 | _,_,n+1,.cons _ t=>Vals.drop n t
def RelO:Option V->Option Value->Prop
 | some v,some u=>RelV v u
 | none,none=>True
 | _,_=>False
def KV {κ:Type}:List (κ×V)->List (κ×Value)->Prop:=Paired λ(p:κ×V) (q:κ×Value)=>p.1=q.1/\RelV p.2 q.2
def kV:Key->V
 | .inl i=>.int i
 | .inr x=>.str x
inductive HO where
 /-- a list -/
 | lst (xs:List V)
 /-- a tuple (never changes) -/
 | tup (xs:List V)
 /-- a dict whose keys are ints and texts; one whose keys are tuples of ints and texts (the empty one is both) -/
 | dK (kvs:List (Key×V))|dT (kvs:List (List Key×V))
 /-- a set of ints: its members, its size -/
 | set (S:Int->Bool) (n:Nat)
 /-- an instance of the class at C, its dict at dx, its attributes -/
 | ins (C dx:Addr) (fs:List (Str×V))
 /-- the dict of the instance at x -/
 | own (x:Addr)
 /-- the dict of an exception -/
 | xd (fs:List (Str×V))
 /-- a bound method, f of x -/
 | met (f x:Addr)
 /-- a range object lo, lo + 1, .. below hi -/
 | rng (lo hi:Int)
 /-- a thing that is known to the object (the script; a dict while a loop walks it): read, never written while it is so -/
 | frz (o:Obj) (u:HO)
 /-- a code object's table -/
 | tbl (ps:Array Value)
 /-- any other thing, by what is true of its one object (a def of one's own: SetO a S n := HO.ext λh => ..) -/
 | ext (φ:Heap->Prop)
abbrev Hp:=Addr->Option HO
def upd (H:Hp)(a:Addr)(o:HO):Hp:=λb=>if b=a then some o else H b
theorem zW {H:Hp}{a:Addr}{o:HO}:upd H a o a=some o:=by unfold upd;rw[lH rfl]
theorem zP {H:Hp}{a b:Addr}{o:HO}(h:b≠a):upd H a o b=H b:=by unfold upd;rw[lap h]
theorem znO {H:Hp}{a b:Addr}{o u:HO}(h:H a=some o)(h':H b=some u)(d:o≠u):a≠b:=by
 intro e;subst e;rw[h] at h';exact d (lg h')
theorem wM {H:Hp}{a b:Addr}{o:HO}(h:H a=some o)(h':H b=none):a≠b:=by
 intro e;subst e;rw[h] at h';cases h'
def TupD (h:Heap)(a:Addr)(items:Array Value):Prop:=∃o,h.get? a=some o/\o.cls=.type "tuple" /\ (∃n,o.data=.seq items n)/\o.dict=none
theorem TupD.tup {h:Heap}{a:Addr}{items:Array Value}(x:TupD h a items):IsTup h a items:=let ⟨o,e,c,d,_⟩:=x;⟨o,e,c,d⟩
theorem TupD.new (h:Heap)(items:Array Value):TupD (h.push {cls:=.type "tuple", data:=.seq items}) h.objs.size items:=⟨_,lj _ rfl,rfl,⟨_,rfl⟩,rfl⟩
section
variable (P:Program)(w:World)
def ObjOk (H:Hp)(h:Heap)(a:Addr):HO->Prop
 | .lst xs=>xs.length<=sizeLine/\∃(its:List Value) (n:Nat),Vals xs its/\h.get? a=some {cls:=.type "list", data:=.seq its.toArray n}
 | .tup xs=>xs.length<=sizeLine/\∃its:List Value,Vals xs its/\TupD h a its.toArray
 | .dK kvs=>kvs.length<=sizeLine/\(a == sysModules)=false/\∃vs,KV kvs vs/\h.DictOf (yW P w) a vs
 | .dT kvs=>kvs.length<=sizeLine/\(a == sysModules)=false/\∃xs:List (List Key×Addr×Value),
   Paired (λ(p:List Key×V) (q:List Key×Addr×Value)=>p.1=q.1/\H q.2.1=some (.tup (p.1.map kV))/\RelV p.2 q.2.2) kvs xs /\
   ∃o es ep,h.get? a=some o/\o.ExactDict/\o.data=.dict es ep/\es.toList=xs.map (entryOfKey (tupleKind (yW P w)))/\(xs.map (·.1)).Nodup
 | .set S n=>h.SetOf (intKind P w) a S n
 | .ins C dx fs=>H dx=some (.own a)/\fs.length<=1000/\dx≠a/\h.get? a=some (PySem.W.instObj C dx) /\
   ∃mA,h.Ns1 dx mA/\(∀f,RelO (fs.lookup f) (mA f))/\PySem.Within mA (fs.map (·.1))
 | .own _=>∃o,h.get? a=some o
 | .xd fs=>∃mA,h.Ns1 a mA/\∀f,RelO (fs.lookup f) (mA f)
 | .rng lo hi=>∃t u v,h.get? a=some {cls:=.type "range", data:=.fields #[.int lo t,.int hi u,.int 1 v]}
 | .frz o u=>h.get? a=some o/\ObjOk H h a u
 | .tbl ps=>h.get? a=some {cls:=.none,data:=.fields ps}
 | .met f x=>h.get? a=some (PySem.W.methodObj (.ref f) (.ref x))
 | .ext φ=>φ h/\(∃o,h.get? a=some o)/\∀h1 h2:Heap,φ h1->(∀o,h1.get? a=some o->h2.get? a=some o)->φ h2
def HOk (H:Hp)(h:Heap):Prop:=∀a o,H a=some o->ObjOk P w H h a o
end
section
variable {P:Program}{w:World}{H H':Hp}{h h':Heap}{a:Addr}{o:HO}
theorem ObjOk.lt (x:ObjOk P w H h a o):a<h.objs.size:=by
 cases o with
 | lst xs=>obtain⟨_,_,_,_,e⟩:=x;exact lu e
 | tup xs=>obtain⟨_,_,_,p⟩:=x;exact p.tup.lt
 | dK kvs=>obtain⟨_,_,_,_,o,_,_,e,_⟩:=x;exact lu e
 | dT kvs=>obtain⟨_,_,_,_,o,_,_,e,_⟩:=x;exact lu e
 | set S n=>obtain⟨o,_,_,_,e,_⟩:=x;exact lu e
 | ins C dx fs=>obtain⟨_,_,_,e,_⟩:=x;exact lu e
 | own y=>obtain⟨_,e⟩:=x;exact lu e
 | xd fs=>obtain⟨_,⟨_,_,_,e,_⟩,_⟩:=x;exact lu e
 | rng lo hi=>obtain⟨_,_,_,e⟩:=x;exact lu e
 | frz ob u=>obtain⟨e,_⟩:=x;exact lu e
 | tbl ps=>exact lu (show h.get? a=some _ from x)
 | met f y=>exact lu (show h.get? a=some _ from x)
 | ext φ=>obtain⟨_,⟨_,e⟩,_⟩:=x;exact lu e
theorem Paired.mapP {α β:Type}{F G:α->β->Prop}:∀{l₁:List α}{l₂:List β},Paired F l₁ l₂->(∀a b,F a b->G a b)->Paired G l₁ l₂
 | _,_,.nil,_=>.nil
 | _,_,.cons r t,f=>.cons (f _ _ r) (Paired.mapP t f)
theorem ObjOk.stay (x:ObjOk P w H h a o)(k:∀b u,(b=a∨H b=some (.own a))->h.get? b=some u->h'.get? b=some u)
  (ho:∀b,H b=some (.own a)->H' b=some (.own a)) (ht:∀b xs,H b=some (.tup xs)->H' b=some (.tup xs)):ObjOk P w H' h' a o:=by
 induction o with
 | lst xs=>obtain⟨z,its,n,r,e⟩:=x;exact⟨z,its,n,r,k _ _ (.inl rfl) e⟩
 | tup xs=>obtain⟨z,its,r,ob,e,c⟩:=x;exact⟨z,its,r,ob,k _ _ (.inl rfl) e,c⟩
 | dK kvs=>obtain⟨z,y,vs,r,ob,es,ep,e,c⟩:=x;exact⟨z,y,vs,r,ob,es,ep,k _ _ (.inl rfl) e,c⟩
 | dT kvs =>
  obtain⟨z,y,xs,r,ob,es,ep,e,c⟩:=x
  exact⟨z,y,xs,Paired.mapP r λp q z=>⟨z.1,ht _ _ z.2.1,z.2.2⟩,ob,es,ep,k _ _ (.inl rfl) e,c⟩
 | set S n=>obtain⟨ob,es,ep,t,e,c⟩:=x;exact⟨ob,es,ep,t,k _ _ (.inl rfl) e,c⟩
 | ins C dx fs =>
  obtain⟨d,z,ne,e,mA,⟨od,es,ep,e2,c⟩,r⟩:=x
  exact⟨ho _ d,z,ne,k _ _ (.inl rfl) e,mA,⟨od,es,ep,k _ _ (.inr d) e2,c⟩,r⟩
 | own y=>obtain⟨ob,e⟩:=x;exact⟨ob,k _ _ (.inl rfl) e⟩
 | xd fs=>obtain⟨mA,⟨od,es,ep,e,c⟩,r⟩:=x;exact⟨mA,⟨od,es,ep,k _ _ (.inl rfl) e,c⟩,r⟩
 | rng lo hi=>obtain⟨t,u,v,e⟩:=x;exact⟨t,u,v,k _ _ (.inl rfl) e⟩
 | frz ob u ih=>obtain⟨e,q⟩:=x;exact⟨k _ _ (.inl rfl) e,ih q⟩
 | tbl ps =>
  have e:h.get? a=some {cls:=.none,data:=.fields ps}:=x
  show h'.get? a=some {cls:=.none,data:=.fields ps}
  exact k a _ (.inl rfl) e
 | met f y =>
  have e:h.get? a=some (PySem.W.methodObj (.ref f) (.ref y)):=x
  show h'.get? a=some (PySem.W.methodObj (.ref f) (.ref y))
  exact k a _ (.inl rfl) e
 | ext φ=>obtain⟨p,⟨o,e⟩,st⟩:=x;exact⟨st _ _ p λo q=>k _ _ (.inl rfl) q,⟨o,k _ _ (.inl rfl) e⟩,st⟩
theorem HOk.lt (x:HOk P w H h)(e:H a=some o):a<h.objs.size:=(x a o e).lt
theorem HOk.fresh (x:HOk P w H h)(e:h.objs.size<=a):H a=none:=by
 cases q:H a with
 | none=>rfl
 | some u=>exact absurd (lz (x.lt q) e) (lbL _)
theorem HOk.kept (x:HOk P w H h)(k:∀b u,h.get? b=some u->h'.get? b=some u):HOk P w H h':=λa o e =>
 (x a o e).stay (λb u _ q=>k b u q) (λ_ q=>q) λ_ _ q=>q
theorem HOk.laid (x:HOk P w H h)(k:∀b u,h.get? b=some u->h'.get? b=some u)(hp:h.objs.size<=a)(new:ObjOk P w (upd H a o) h' a o):HOk P w (upd H a o) h':=λb u e=>by
 have hn:=x.fresh hp
 by_cases hb:b=a
 ·subst hb;rw[zW] at e;cases e;exact new
 ·rw[zP hb] at e
  exact(x b u e).stay (λc v _ q=>k c v q) (λc q=>by rw[zP (wM q hn)];exact q) λc xs q=>by rw[zP (wM q hn)];exact q
end
def Rd (H:Hp)(a:Addr)(u:HO):Prop:=H a=some u∨∃o,H a=some (.frz o u)
theorem Rd.ok {P:Program}{w:World}{H:Hp}{h:Heap}{a:Addr}{u:HO}(r:Rd H a u)(x:HOk P w H h):ObjOk P w H h a u:=by
 rcases r with r|⟨o,r⟩
 ·exact x a u r
 ·obtain⟨_,q⟩:=x a _ r
  exact q
def Mut:Option HO->Prop
 | some (.lst _)=>True
 | some (.dK _)=>True
 | some (.dT _)=>True
 | some (.set _ _)=>True
 | some (.ins _ _ _)=>True
 | some (.ext _)=>True
 | _=>False
section
variable {P:Program}{w:World}{H:Hp}{h h':Heap}{x e:Addr}{o':HO}
theorem HOk.write (ok:HOk P w H h)(mu:Mut (H x))(he:e=x∨H e=some (.own x))(k:∀b u,b≠e->h.get? b=some u->h'.get? b=some u)(heo:∃u,h'.get? e=some u)
  (new:ObjOk P w (upd H x o') h' x o'):HOk P w (upd H x o') h':=λb u q=>by
 have nown:∀c y,H c=some (.own y)->c≠x:=λc y r z=>by subst z;rw[r] at mu;exact mu
 have ntup:∀c xs,H c=some (.tup xs)->c≠x:=λc xs r z=>by subst z;rw[r] at mu;exact mu
 by_cases hb:b=x
 ·subst hb;rw[zW] at q;cases q;exact new
 ·rw [zP hb] at q
  by_cases hbe:b=e
  ·have q':H b=some (.own x):=by
    rcases he with z|z
    ·exact absurd (hbe.trans z) hb
    ·rw[hbe];exact z
   rw[q] at q';cases q'
   obtain⟨v,hv⟩:=heo
   exact⟨v,by rw[hbe];exact hv⟩
  ·refine (ok b u q).stay (λc v hc r=>k c v ?_ r) (λc r=>by rw[zP (nown c b r)];exact r) λc xs r=>by rw[zP (ntup c xs r)];exact r
   rcases hc with rfl|hc
   ·exact hbe
   ·rintro rfl
    rcases he with z|z
    ·exact nown c b hc z
    ·rw[hc] at z;cases z;exact hb rfl
end
structure Un (fs ex:List Addr)(H H':Hp)(h h':Heap):Prop where
 keep:∀b o,h.get? b=some o->H b=none->b∉fs->b∉ex->h'.get? b=some o
 slot:∀b o,h.get? b=some o->H b=none->b∈fs->b∉ex->∃sl,h'.get? b=some {o with slots:=sl}
 free:∀b o,h.get? b=some o->H b=none->b∉ex->H' b=none
 there:∀b o,h.get? b=some o->b∉ex->∃o',h'.get? b=some o'
 tups:∀b xs,H b=some (.tup xs)->H' b=some (.tup xs)
 frzs:∀b o u,H b=some (.frz o u)->H' b=some (.frz o u)
 tbls:∀b ps,H b=some (.tbl ps)->∃more,H' b=some (.tbl (ps++more))
section
variable {fs fs' ex ex':List Addr}{H H1 H2:Hp}{h h1 h2 h':Heap}{a x e:Addr}{o:HO}
theorem Un.any (u:Un fs ex H H1 h h1){b:Addr}{ob:Obj}(q:h.get? b=some ob)(n:H b=none)(hx:b∉ex):∃sl,h1.get? b=some {ob with slots:=sl}:=by
 by_cases hb:b∈fs
 ·exact u.slot b ob q n hb hx
 ·exact⟨ob.slots,u.keep b ob q n hb hx⟩
theorem Un.trans (a:Un fs ex H H1 h h1)(b:Un fs ex H1 H2 h1 h2):Un fs ex H H2 h h2 where
 keep:=λc ob q n hc hx=>b.keep c ob (a.keep c ob q n hc hx) (a.free c ob q n hx) hc hx
 slot:=λc ob q n hc hx=>by
  obtain⟨sl,e1⟩:=a.slot c ob q n hc hx
  obtain⟨sl',e2⟩:=b.slot c _ e1 (a.free c ob q n hx) hc hx
  exact⟨sl',e2⟩
 free:=λc ob q n hx=>by
  obtain⟨o',e1⟩:=a.there c ob q hx
  exact b.free c o' e1 (a.free c ob q n hx) hx
 there:=λc ob q hx=>by
  obtain⟨o',e1⟩:=a.there c ob q hx
  exact b.there c o' e1 hx
 tups:=λc xs q=>b.tups c xs (a.tups c xs q)
 frzs:=λc ob xs q=>b.frzs c ob xs (a.frzs c ob xs q)
 tbls:=λc ps q=>by
  obtain⟨m1,e1⟩:=a.tbls c ps q
  obtain⟨m2,e2⟩:=b.tbls c _ e1
  exact⟨m1++m2,by rw[e2,ldu]⟩
theorem Un.kept (k:∀b u,h.get? b=some u->h'.get? b=some u):Un fs ex H H h h' :=
 ⟨λb ob q _ _ _=>k b ob q,λb ob q _ _ _=>⟨ob.slots,k b ob q⟩,λ_ _ _ n _=>n,λb ob q _=>⟨ob,k b ob q⟩,λ_ _ q=>q,λ_ _ _ q=>q,λ_ ps q=>⟨#[],by rw[q];simp⟩⟩
theorem Un.refl:Un fs ex H H h h:=Un.kept λ_ _ q=>q
theorem Un.laid (k:∀b u,h.get? b=some u->h'.get? b=some u)(hp:h.objs.size<=a)(hn:H a=none):Un fs ex H (upd H a o) h h' where
 keep:=λb u q _ _ _=>k b u q
 slot:=λb u q _ _ _=>⟨u.slots,k b u q⟩
 free:=λb u q n _=>by rw[zP (lO (lz (lu q) hp))];exact n
 there:=λb u q _=>⟨u,k b u q⟩
 tups:=λb xs q=>by rw[zP (wM q hn)];exact q
 frzs:=λb u xs q=>by rw[zP (wM q hn)];exact q
 tbls:=λb ps q=>⟨#[],by rw[zP (wM q hn),q];simp⟩
theorem Un.write (mu:Mut (H x))(he:e=x∨H e=some (.own x))(k:∀b u,b≠e->h.get? b=some u->h'.get? b=some u)(heo:∃u,h'.get? e=some u):Un fs ex H (upd H x o) h h':=by
 have hx:∀b,H b=none->b≠x:=λb n z=>by subst z;rw[n] at mu;exact mu
 have hb:∀b,H b=none->b≠e:=λb n z=>by
  subst z
  rcases he with r|r
  ·exact hx b n r
  ·rw[n] at r;cases r
 have hm:∀b u,H b=some u->¬Mut (some u)->b≠x:=λb u q nm z=>by subst z;rw[q] at mu;exact nm mu
 refine ⟨λb u q n _ _=>k b u (hb b n) q,λb u q n _ _=>⟨u.slots,k b u (hb b n) q⟩,λb u q n _=>by rw[zP (hx b n)];exact n,λb u q _=>?_,
  λb xs q=>by rw[zP (hm b _ q λz=>z)];exact q,λb u xs q=>by rw[zP (hm b _ q λz=>z)];exact q,λb ps q=>⟨#[],by rw[zP (hm b _ q λz=>z),q];simp⟩⟩
 by_cases hbe:b=e
 ·subst hbe;exact heo
 ·exact⟨u,k b u hbe q⟩
theorem Un.mono (u:Un fs ex H H1 h h1)(hs:∀b∈fs,b∈fs')(hx:∀b∈ex,b∈ex'):Un fs' ex' H H1 h h1 :=
 ⟨λb ob q n hb he=>u.keep b ob q n (λz=>hb (hs b z)) λz=>he (hx b z),λ_ _ q n _ he=>u.any q n λz=>he (hx _ z),λb ob q n he=>u.free b ob q n λz=>he (hx b z),λb ob q he=>u.there b ob q λz=>he (hx b z),u.tups,u.frzs,u.tbls⟩
end
def trk (h:Heap)(H:Hp):List Addr:=(List.range h.objs.size).filter λa=>(H a).isSome
def zjs (h:Heap)(H:Hp):Heap:=PySem.W.hideAll h (trk h H)
theorem zg1 (h:Heap)(H:Hp):(zjs h H).objs.size=h.objs.size:=PySem.W.hideAll_size _ _
theorem zjh {h:Heap}{H:Hp}{b:Addr}{o:Obj}(e:h.get? b=some o)(n:H b=none):(zjs h H).get? b=some o :=
 ldk _ e λhm=>by
  have q:(H b).isSome=true:=(lbG.mp hm).2
  rw[n] at q;simp at q
theorem zlC {h:Heap}{H:Hp}{b:Addr}{o:Obj}(e:(zjs h H).get? b=some o):h.get? b=some o/\H b=none:=by
 have e':h.get? b=some o:=PySem.W.of_hideAll (trk h H) e
 refine⟨e',?_⟩
 cases q:H b with
 | none=>rfl
 | some x =>
  have hm:b∈trk h H:=lbG.mpr ⟨la6.mpr (lu e'),by simp[q]⟩
  have z:(zjs h H).get? b=none:=PySem.W.hideAll_none (trk h H) hm
  rw[z] at e;cases e
def zlv (g h:Heap)(L:Addr):List (Addr×Obj):=(List.range h.objs.size).filterMap λa=>if a=L∨(g.get? a).isSome=true then none else(h.get? a).map λo=>(a,o)
def rest (g h:Heap)(L d:Addr):List (Addr×Obj):=(zlv g h L).filter λp=>decide (p.1≠d)
structure Mod (K:PySem.W.Frag)(mg:Str->Option Value)(base:Heap):Prop where
 kin:K.In base
 glob:base.Ns mainGlobals mg
 blt:∃mb,base.Ns builtinsNs mb/\∀x:Str,x ≠ "__name__" -> mb x=bootBuiltins x
 nolimit:base.NoLimit
structure Cx where
 prog:Program
 w:World
 K:PySem.W.Frag
 mg:Str->Option Value
 base:Heap
 A:Around
 N:List Str
 s₀:Shared
 H₀:Hp
 env:Env
 outer:List Env
 stack:List Env
 ex:List Addr
 fn:Str->Bool
 calm:Bool
 pn:List (Addr×Obj)
 xe:Value->Shared->Prop
def frs (l:List Env):List Addr:=l.filterMap (·.frame)
abbrev Cx.fs (X:Cx):List Addr:=frs X.outer
def Vis (sc:Scope)(x:Str):Prop:=sc.names.lookup x=some .local∨sc.names.lookup x=some .cell∨sc.names.lookup x=some .free
def Loc (sc:Scope)(x:Str):Prop:=sc.names.lookup x=some .local∨sc.names.lookup x=some .cell
def Look (env:Env)(h:Heap)(m:Str->Option Value)(x:Str)(u:Value):Prop :=
 (env.kindOf x=some .local/\m x=some u)∨((env.kindOf x=some .cell∨env.kindOf x=some .free)/\∃c,env.cells.lookup x=some c/\h.IsCell c (some u))
structure Cx.Ok (X:Cx):Prop where
 mod:Mod X.K X.mg X.base
 kind:X.env.scope.kind=.function
 glob:X.env.globals=mainGlobals
 blt:X.env.builtins=builtinsNs
 above:X.s₀.heap.objs.size<=X.env.locals
 inj:∀x y c,X.env.cells.lookup x=some c->X.env.cells.lookup y=some c->x=y
 has:∀x,(X.env.kindOf x=some .cell∨X.env.kindOf x=some .free)->∃c,X.env.cells.lookup x=some c
 cab:∀x c,X.fn x=true->X.env.cells.lookup x=some c->X.s₀.heap.objs.size<=c
 hd:X.calm=true->X.A.handled=none
 frames:X.A.frames=some X.stack
 stk:X.stack=X.outer∨(X.stack=X.env::X.outer/\X.env.frame=some X.env.locals)
 exf:∀b∈X.ex,b≠X.env.locals/\∀x c,X.env.cells.lookup x=some c->c≠b
 bs:∀b o,X.base.get? b=some o->X.s₀.heap.get? b=some o/\X.H₀ b=none
 bsz:X.base.objs.size<=X.s₀.heap.objs.size
 noex:∀b o,X.base.get? b=some o->b∉X.ex
 exfs:∀b∈X.ex,b∉X.fs
 funs:X.s₀.heap.FunFrames X.base X.outer
 frf:∀b∈X.fs,X.H₀ b=none
structure Inv (X:Cx)(pins:List (Addr×Obj))(σ:List (Option V))(H:Hp)(s:Shared):Prop where
 ok:X.Ok
 os:s.os=X.s₀.os
 bare:AllBare s.gens
 base:Un X.fs X.ex X.H₀ H X.s₀.heap s.heap
 loc:∃m,s.heap.Ns X.env.locals m/\∀(i:Nat) (x:Str) (v:V),X.N[i]? = some x->σ[i]? = some (some v)->Vis X.env.scope x->∃u,RelV v u/\Look X.env s.heap m x u
 cell:∀x c,X.env.cells.lookup x=some c->∃v,s.heap.IsCell c v
 free:H X.env.locals=none
 freeC:∀x c,X.env.cells.lookup x=some c->H c=none
 pin:∀p∈X.pn++pins,s.heap.get? p.1=some p.2/\H p.1=none/\p.1≠X.env.locals/\p.1∉X.fs/\∀v,p.2.data≠.cell v
 hok:HOk X.prog X.w H s.heap
 len:σ.length=X.N.length
section
variable {X:Cx}{pins:List (Addr×Obj)}{σ:List (Option V)}{H H':Hp}{s:Shared}{h':Heap}
theorem Cx.Ok.nofr (ok:X.Ok){b:Addr}{o:Obj}(e:X.base.get? b=some o):b∉X.fs:=λhb=>by
 have:=(ok.funs.mem hb).1
 rw[e] at this;cases this
theorem Inv.bs (I:Inv X pins σ H s):∀b o,X.base.get? b=some o->s.heap.get? b=some o/\H b=none:=λb o e =>
 ⟨I.base.keep b o (I.ok.bs b o e).1 (I.ok.bs b o e).2 (I.ok.nofr e) (I.ok.noex b o e),I.base.free b o (I.ok.bs b o e).1 (I.ok.bs b o e).2 (I.ok.noex b o e)⟩
theorem Inv.bk (I:Inv X pins σ H s):∀b o,X.base.get? b=some o->s.heap.get? b=some o:=λb o e=>(I.bs b o e).1
theorem Inv.mod (I:Inv X pins σ H s):Mod X.K X.mg X.base:=I.ok.mod
theorem Inv.kIn (I:Inv X pins σ H s):X.K.In s.heap:=I.ok.mod.kin.keeps I.bk
theorem Inv.fr (I:Inv X pins σ H s):∃m,Fr X.base X.env.locals s.heap m :=
 let ⟨m,hn,_⟩:=I.loc
 ⟨m,hn,I.bk,laj I.ok.bsz I.ok.above⟩
theorem Inv.lt (I:Inv X pins σ H s):X.env.locals<s.heap.objs.size:=let ⟨_,hn,_⟩:=I.loc;hn.lt
theorem Inv.sz (I:Inv X pins σ H s):X.s₀.heap.objs.size<=s.heap.objs.size:=laj I.ok.above (ld6 I.lt)
theorem Inv.nofs (I:Inv X pins σ H s){a:Addr}(h:s.heap.objs.size<=a):a∉X.fs:=λhb=>by
 obtain⟨_,o,ho,_⟩:=I.ok.funs.mem hb
 exact absurd (lz (lu ho) (laj I.sz h)) (lbL _)
theorem Inv.cne (I:Inv X pins σ H s):∀x c,X.env.cells.lookup x=some c->c≠X.env.locals:=λx c e z=>by
 obtain⟨v,o,ho,hd⟩:=I.cell x c e
 obtain⟨m,⟨o',es,ep,ho',hd',_⟩,_⟩:=I.loc
 rw[z,ho'] at ho;cases ho;rw[hd'] at hd;cases hd
theorem Inv.funs (I:Inv X pins σ H s):s.heap.FunFrames X.base X.outer:=by
 have all:∀(l:List Env),(∀b∈frs l,b∈X.fs)->X.s₀.heap.FunFrames X.base l->s.heap.FunFrames X.base l:=by
  intro l
  induction l with
  | nil=>intro _ _;trivial
  | cons env r ih =>
   intro hs hl
   obtain⟨hk,⟨L,o,hf,hn,ho,hd⟩,hr⟩:=hl
   have hL:L∈X.fs:=hs L (by unfold frs;rw[lcI,hf];exact lac)
   obtain⟨sl,e⟩:=I.base.slot L o ho (I.ok.frf L hL) hL λz=>I.ok.exfs L z hL
   exact⟨hk,⟨L,_,hf,hn,e,hd⟩,ih (λb hb=>hs b (by unfold frs;rw[lcI,hf];exact lM _ hb)) hr⟩
 exact all X.outer (λ_ hb=>hb) I.ok.funs
theorem Inv.stack (I:Inv X pins σ H s):s.heap.FunFrames X.base X.stack:=by
 rcases I.ok.stk with e|⟨e,hf⟩
 ·rw[e];exact I.funs
 ·rw[e]
  obtain⟨m,hn,_⟩:=I.loc
  refine .cons (by rw[I.ok.kind];decide) hf hn ?_ I.funs
  exact Heap.get?_none_of_le (laj I.ok.bsz I.ok.above)
theorem Inv.stkSub (I:Inv X pins σ H s):∀b∈frs X.stack,b∈X.env.locals::X.fs:=λb hb=>by
 rcases I.ok.stk with e|⟨e,hf⟩
 ·rw[e] at hb;exact lM _ hb
 ·rw[e] at hb
  unfold frs at hb
  rw[lcI,hf] at hb
  exact hb
theorem Inv.stkFree (I:Inv X pins σ H s):∀b∈frs X.stack,H b=none:=λb hb=>by
 rcases lB.mp (I.stkSub b hb) with e|hb
 ·rw[e];exact I.free
 ·obtain⟨_,o,ho,_⟩:=I.ok.funs.mem hb
  exact I.base.free b o ho (I.ok.frf b hb) λz=>I.ok.exfs b z hb
theorem Inv.step {g':Array GenState}{t':Nat}{d':Drawn}{ch:List Addr}(I:Inv X pins σ H s)
  (hch:∀b∈ch,(b∈X.ex∨X.s₀.heap.objs.size<=b)/\b≠X.env.locals/\(∀x c,X.env.cells.lookup x=some c->c≠b)/\∀p∈X.pn++pins,p.1≠b)
  (keep:∀b o,b≠X.env.locals->b∉X.fs->b∉ch->s.heap.get? b=some o->H b=none->h'.get? b=some o)
  (slot:∀b o,b≠X.env.locals->b∈X.fs->b∉ch->s.heap.get? b=some o->H b=none->∃sl,h'.get? b=some {o with slots:=sl}) (free:∀b o,b∉ch->s.heap.get? b=some o->H b=none->H' b=none)
  (there:∀b o,b∉ch->s.heap.get? b=some o->∃o',h'.get? b=some o')
  (tups:∀b xs,H b=some (.tup xs)->H' b=some (.tup xs)) (frzs:∀b o u,H b=some (.frz o u)->H' b=some (.frz o u)) (tbls:∀b ps,H b=some (.tbl ps)->∃more,H' b=some (.tbl (ps++more)))
  (ns:∀m,s.heap.Ns X.env.locals m->h'.Ns X.env.locals m) (hok:HOk X.prog X.w H' h') (hg:AllBare g') :
  Inv X pins σ H' {s with heap:=h',gens:=g',drawn:=d',toks:=t'}:=by
 have neL:∀b o,X.s₀.heap.get? b=some o->b≠X.env.locals:=λb o e=>lO (lz (lu e) I.ok.above)
 have neC:∀b o,X.s₀.heap.get? b=some o->b∉X.ex->b∉ch:=λb o e hx hb=>by
  rcases(hch b hb).1 with z|z
  ·exact hx z
  ·exact absurd (lz (lu e) z) (lbL _)
 have cellK:∀x c,X.env.cells.lookup x=some c->∀v,s.heap.IsCell c v->h'.IsCell c v:=λx c e v ⟨o,ho,hd⟩=>by
  have nch:c∉ch:=λz=>(hch c z).2.2.1 x c e rfl
  by_cases hc:c∈X.fs
  ·obtain⟨sl,q⟩:=slot c o (I.cne x c e) hc nch ho (I.freeC x c e)
   exact⟨_,q,hd⟩
  ·exact⟨o,keep c o (I.cne x c e) hc nch ho (I.freeC x c e),hd⟩
 refine⟨I.ok,I.os,hg,⟨λb o e n hb hx=>?_,λb o e n hb hx=>?_,λb o e n hx=>?_,λb o e hx=>?_,λb xs e=>tups b xs (I.base.tups b xs e),λb o xs e=>frzs b o xs (I.base.frzs b o xs e),λb ps e=>?_⟩,?_,λx c e=>?_,?_,λx c e=>?_,λp hp=>?_,hok,I.len⟩
 ·exact keep b o (neL b o e) hb (neC b o e hx) (I.base.keep b o e n hb hx) (I.base.free b o e n hx)
 ·obtain⟨sl,e1⟩:=I.base.slot b o e n hb hx
  obtain⟨sl',e2⟩:=slot b _ (neL b o e) hb (neC b o e hx) e1 (I.base.free b o e n hx)
  exact⟨sl',e2⟩
 ·obtain⟨o',e1⟩:=I.base.there b o e hx
  exact free b o' (neC b o e hx) e1 (I.base.free b o e n hx)
 ·obtain⟨o',e1⟩:=I.base.there b o e hx
  exact there b o' (neC b o e hx) e1
 ·obtain⟨m1,e1⟩:=I.base.tbls b ps e
  obtain⟨m2,e2⟩:=tbls b _ e1
  exact⟨m1++m2,by rw[e2,ldu]⟩
 ·obtain⟨m,hn,hl⟩:=I.loc
  refine⟨m,ns m hn,λi x v e1 e2 e3=>?_⟩
  obtain⟨u,r,l⟩:=hl i x v e1 e2 e3
  refine⟨u,r,?_⟩
  rcases l with l|⟨k,c,e,z⟩
  ·exact .inl l
  ·exact .inr ⟨k,c,e,cellK x c e _ z⟩
 ·obtain⟨v,z⟩:=I.cell x c e
  exact⟨v,cellK x c e v z⟩
 ·obtain⟨m,⟨o,_,_,ho,_⟩,_⟩:=I.loc
  exact free _ o (λz=>(hch _ z).2.1 rfl) ho I.free
 ·obtain⟨v,o,ho,hd⟩:=I.cell x c e
  exact free c o (λz=>(hch c z).2.2.1 x c e rfl) ho (I.freeC x c e)
 ·obtain⟨e,n,ne,nf,d⟩:=I.pin p hp
  have nch:p.1∉ch:=λz=>(hch p.1 z).2.2.2 p hp rfl
  exact⟨keep p.1 p.2 ne nf nch e n,free p.1 p.2 nch e n,ne,nf,d⟩
theorem Inv.un {t':Nat}(I:Inv X pins σ H s)(u:Un X.fs [] H H' s.heap h')(hok:HOk X.prog X.w H' h'):Inv X pins σ H' {s with heap:=h',toks:=t'}:=by
 obtain⟨m,⟨o,es,ep,ho,r⟩,_⟩:=id I.loc
 obtain⟨sl,hL⟩:=u.any ho I.free (by simp)
 exact I.step (g':=s.gens) (d':=s.drawn) (ch:=[]) (λ_ z=>nomatch z) (λb o _ hb _ e n=>u.keep b o e n hb (by simp)) (λb o _ hb _ e n=>u.slot b o e n hb (by simp)) (λb o _ e n=>u.free b o e n (by simp)) (λb o _ e=>u.there b o e (by simp)) u.tups u.frzs u.tbls (λm' hm=>by
  obtain⟨o',es',ep',ho',r'⟩:=hm
  rw[ho] at ho';cases ho'
  exact⟨_,es',ep',hL,r'⟩) hok I.bare
theorem Inv.call {g':Array GenState}{t':Nat}{d':Drawn}{ch:List Addr}(I:Inv X pins σ H s)(u:Un (frs X.stack) ch H H' s.heap h')(hok:HOk X.prog X.w H' h')(hg:AllBare g')
  (hch:∀b∈ch,(b∈X.ex∨X.s₀.heap.objs.size<=b)/\b≠X.env.locals/\(∀x c,X.env.cells.lookup x=some c->c≠b)/\∀p∈X.pn++pins,p.1≠b) :
  Inv X pins σ H' {s with heap:=h',gens:=g',drawn:=d',toks:=t'}:=by
 obtain⟨m,⟨o,es,ep,ho,r⟩,_⟩:=id I.loc
 obtain⟨sl,hL⟩:=u.any ho I.free λz=>(hch _ z).2.1 rfl
 exact I.step (ch:=ch) hch (λb o hL hb hc e n=>u.keep b o e n (λz=>(lB.mp (I.stkSub b z)).elim hL hb) hc) (λb o _ _ hc e n=>u.any e n hc) (λb o hc e n=>u.free b o e n hc) (λb o hc e=>u.there b o e hc) u.tups u.frzs u.tbls (λm' hm=>by
  obtain⟨o',es',ep',ho',r'⟩:=hm
  rw[ho] at ho';cases ho'
  exact⟨_,es',ep',hL,r'⟩) hok hg
theorem Inv.turned {t':Nat}{it:Addr}(I:Inv X pins σ H s)(k:∀b o,b≠it->s.heap.get? b=some o->h'.get? b=some o)(hn:H it=none)(hL:it≠X.env.locals)
  (h1:it∈X.ex∨X.s₀.heap.objs.size<=it) (h2:∀x c,X.env.cells.lookup x=some c->c≠it) (h3:∀p∈X.pn++pins,p.1≠it):Inv X pins σ H {s with heap:=h',toks:=t'}:=by
 have nit:∀b u,H b=some u->b≠it:=λb u e z=>by rw[z,hn] at e;cases e
 refine I.step (g':=s.gens) (d':=s.drawn) (ch:=[it]) (λb hb=>?_) (λb o _ _ hc e _=>k b o (λz=>hc (by simp[z])) e) (λb o _ _ hc e _=>⟨o.slots,k b o (λz=>hc (by simp[z])) e⟩) (λ_ _ _ _ n=>n)
  (λb o hc e=>⟨o,k b o (λz=>hc (by simp[z])) e⟩) (λ_ _ e=>e) (λ_ _ _ e=>e) (λb ps e=>⟨#[],by rw[e];simp⟩) (λm hm=>?_) (λb u e=>?_) I.bare
 ·have e:b=it:=by simpa using hb
  subst e
  exact⟨h1,hL,h2,h3⟩
 ·obtain⟨o,es,ep,ho,r⟩:=hm
  exact⟨o,es,ep,k _ o (lbb hL) ho,r⟩
 ·refine(I.hok b u e).stay (λc v hc q=>k c v ?_ q) (λ_ q=>q) λ_ _ q=>q
  rcases hc with z|z
  ·rw[z];exact nit b u e
  ·exact nit c _ z
theorem Inv.tok (I:Inv X pins σ H s)(t:Nat):Inv X pins σ H {s with toks:=t}:=I.un (h':=s.heap) (t':=t) Un.refl I.hok
theorem Inv.kept {t':Nat}(I:Inv X pins σ H s)(k:∀b u,s.heap.get? b=some u->h'.get? b=some u):Inv X pins σ H {s with heap:=h',toks:=t'}:=I.un (Un.kept k) (I.hok.kept k)
theorem Inv.laid {a:Addr}{o:HO}{t':Nat}(I:Inv X pins σ H s)(k:∀b u,s.heap.get? b=some u->h'.get? b=some u)(hp:s.heap.objs.size<=a)(new:ObjOk X.prog X.w (upd H a o) h' a o) :
  Inv X pins σ (upd H a o) {s with heap:=h',toks:=t'}:=I.un (Un.laid k hp (I.hok.fresh hp)) (I.hok.laid k hp new)
theorem Inv.write {x e:Addr}{o:HO}{t':Nat}(I:Inv X pins σ H s)(mu:Mut (H x))(he:e=x∨H e=some (.own x))(k:∀b u,b≠e->s.heap.get? b=some u->h'.get? b=some u)(heo:∃u,h'.get? e=some u)
  (new:ObjOk X.prog X.w (upd H x o) h' x o):Inv X pins σ (upd H x o) {s with heap:=h',toks:=t'}:=I.un (Un.write mu he k heo) (I.hok.write mu he k heo new)
theorem Inv.weak {σ':List (Option V)}(I:Inv X pins σ H s)(hl:σ'.length=σ.length)(w:∀(i:Nat) v,σ'[i]? = some (some v)->σ[i]? = some (some v)):Inv X pins σ' H s :=
 ⟨I.ok,I.os,I.bare,I.base,let ⟨m,hn,hl'⟩:=I.loc;⟨m,hn,λi x v e1 e2 e3=>hl' i x v e1 (w i v e2) e3⟩,I.cell,I.free,I.freeC,I.pin,I.hok,hl.trans I.len⟩
theorem Inv.pins_of {pins':List (Addr×Obj)}(I:Inv X pins σ H s)(h:∀p∈pins',s.heap.get? p.1=some p.2/\H p.1=none/\p.1≠X.env.locals/\p.1∉X.fs/\∀v,p.2.data≠.cell v):Inv X pins' σ H s :=
 ⟨I.ok,I.os,I.bare,I.base,I.loc,I.cell,I.free,I.freeC,λp hp=>(lat.mp hp).elim (λz=>I.pin p (lb2 _ z)) (h p),I.hok,I.len⟩
theorem zfC {N:List Str}(hN:N.Nodup){i j:Nat}{x:Str}(a:N[i]? = some x)(b:N[j]? = some x):i=j:=by
 obtain⟨h1,e1⟩:=lv.mp a
 obtain⟨h2,e2⟩:=lv.mp b
 exact(List.getElem_inj hN).mp (e1.trans e2.symm)
theorem zgI {M:Model}{A:Around}{E:Value->Shared->Prop}{i:Nat}{x:Str}{v:V}{u:Value}{Q:Unit->Shared->Prop}(I:Inv X pins σ H s)(hN:X.N.Nodup)(hi:X.N[i]? = some x)(hx:Loc X.env.scope x)(r:RelV v u)
  (h:∀s',Inv X pins (σ.set i (some v)) H s'->(∃a,Heap.SameBut a s.heap s'.heap/\(a=X.env.locals∨X.env.cells.lookup x=some a))->Q () s') (hf:X.fn x=true∨X.env.scope.names.lookup x=some .local:=by first|exact .inl rfl|exact .inr rfl|assumption):wpAny M A (storeName X.env x u) Q E s:=by
 obtain⟨m,hn,hl⟩:=id I.loc
 have hcls:(X.env.scope.kind == .class || (X.env.scope.kind == .module&&X.env.locals != X.env.globals))=false:=by rw[I.ok.kind];rfl
 have hiσ:i<σ.length:=by rw[I.len];exact(lv.mp hi).1
 have cne:=I.cne
 have tracked:∀{a:Addr}{h':Heap},(∃o,s.heap.get? a=some o/\H a=none)->Heap.SameBut a s.heap h'->HOk X.prog X.w H h':=λ{a h'} ha hs b ob e=>by
  obtain⟨_,_,hfree⟩:=ha
  refine(I.hok b ob e).stay (λc w' hc q=>(hs.2 c ?_).trans q) (λ_ q=>q) λ_ _ q=>q
  rintro rfl
  rcases hc with rfl|hc
  ·rw[hfree] at e;cases e
  ·rw[hfree] at hc;cases hc
 rcases hx with hk|hk
 ·refine wpAny_storeName_local hk hn (λh' hn' hs=>?_) hcls
  obtain⟨oL,_,_,hoL,_⟩:=id hn
  refine h _ ⟨I.ok,I.os,I.bare,⟨λb o e n hb hx=>?_,λb o e n hb hx=>?_,I.base.free,λb o e hx=>?_,I.base.tups,I.base.frzs,I.base.tbls⟩,⟨_,hn',λj y v' e1 e2 e3=>?_⟩,λy c e=>?_,I.free,I.freeC,λp hp=>?_,tracked ⟨oL,hoL,I.free⟩ hs,by simpa using I.len⟩ ⟨_,hs,.inl rfl⟩
  ·exact(hs.2 b (lO (lz (lu e) I.ok.above))).trans (I.base.keep b o e n hb hx)
  ·obtain⟨sl,e1⟩:=I.base.slot b o e n hb hx
   exact⟨sl,(hs.2 b (lO (lz (lu e) I.ok.above))).trans e1⟩
  ·obtain⟨o',e1⟩:=I.base.there b o e hx
   exact⟨o',(hs.2 b (lO (lz (lu e) I.ok.above))).trans e1⟩
  ·by_cases hj:j=i
   ·subst hj
    rw[hi] at e1;cases e1
    rw[lch hiσ] at e2
    cases e2
    exact⟨u,r,.inl ⟨hk,by simp⟩⟩
   ·rw [ly (lbb hj)] at e2
    obtain⟨u',r',q⟩:=hl j y v' e1 e2 e3
    refine⟨u',r',?_⟩
    rcases q with⟨k,e⟩|⟨k,c,e,z⟩
    ·refine .inl ⟨k,?_⟩
     have:y≠x:=λe=>hj (zfC hN e1 (e▸hi))
     simp[this,e]
    ·exact .inr ⟨k,c,e,z.sameBut hs (cne y c e)⟩
  ·obtain⟨w',z⟩:=I.cell y c e
   exact⟨w',z.sameBut hs (cne y c e)⟩
  ·obtain⟨e,n,ne,nf,d⟩:=I.pin p hp
   exact⟨(hs.2 p.1 ne).trans e,n,ne,nf,d⟩
 ·have hfn:X.fn x=true:=by
   rcases hf with z|z
   ·exact z
   ·rw[z] at hk;cases hk
  obtain⟨c,hc⟩:=I.ok.has x (.inl hk)
  obtain⟨w',z⟩:=I.cell x c hc
  refine wpAny_storeName_cell I.ok.kind hk hc z (λh' hc' hs=>?_)
  obtain⟨oc,hoc,hocd⟩:=id z
  refine h {s with heap:=h'} ⟨I.ok,I.os,I.bare,⟨λb o e n hb hx=>?_,λb o e n hb hx=>?_,I.base.free,λb o e hx=>?_,I.base.tups,I.base.frzs,I.base.tbls⟩,⟨m,hn.sameBut hs (lbb (cne x c hc)),λj y v' e1 e2 e3=>?_⟩,λy c' e=>?_,I.free,I.freeC,λp hp=>?_,tracked ⟨oc,hoc,I.freeC x c hc⟩ hs,by simpa using I.len⟩ ⟨c,hs,.inr hc⟩
  ·exact(hs.2 b (lO (lz (lu e) (I.ok.cab x c hfn hc)))).trans (I.base.keep b o e n hb hx)
  ·obtain⟨sl,e1⟩:=I.base.slot b o e n hb hx
   exact⟨sl,(hs.2 b (lO (lz (lu e) (I.ok.cab x c hfn hc)))).trans e1⟩
  ·obtain⟨o',e1⟩:=I.base.there b o e hx
   exact⟨o',(hs.2 b (lO (lz (lu e) (I.ok.cab x c hfn hc)))).trans e1⟩
  ·by_cases hj:j=i
   ·subst hj
    rw[hi] at e1;cases e1
    rw[lch hiσ] at e2
    cases e2
    exact⟨u,r,.inr ⟨.inl hk,c,hc,hc'⟩⟩
   ·rw [ly (lbb hj)] at e2
    obtain⟨u',r',q⟩:=hl j y v' e1 e2 e3
    refine⟨u',r',?_⟩
    rcases q with q|⟨k,c',e,z'⟩
    ·exact .inl q
    ·refine .inr ⟨k,c',e,z'.sameBut hs ?_⟩
     rintro rfl
     exact hj (zfC hN e1 (I.ok.inj _ _ _ e hc▸hi))
  ·by_cases hcc:c'=c
   ·subst hcc;exact⟨_,hc'⟩
   ·obtain⟨w2,z2⟩:=I.cell y c' e
    exact⟨w2,z2.sameBut hs hcc⟩
  ·obtain⟨e,n,ne,nf,d⟩:=I.pin p hp
   refine⟨(hs.2 p.1 ?_).trans e,n,ne,nf,d⟩
   intro q
   rw[q,hoc] at e
   have q':oc=p.2:=lg e
   exact d w' (by rw[← q'];exact hocd)
theorem zcE {M:Model}{A:Around}{E:Value->Shared->Prop}{i:Nat}{x:Str}{v:V}{u:Value}{Q:Unit->Shared->Prop}(I:Inv X pins σ H s)(hN:X.N.Nodup)(hi:X.N[i]? = some x)(hx:Loc X.env.scope x)(r:RelV v u)
  (h:∀s',Inv X pins (σ.set i (some v)) H s'->Q () s') (hf:X.fn x=true∨X.env.scope.names.lookup x=some .local:=by first|exact .inl rfl|exact .inr rfl|assumption):wpAny M A (storeName X.env x u) Q E s :=
 zgI I hN hi hx r (λs' I' _=>h s' I') hf
theorem Inv.call' {s':Shared}{ch:List Addr}(I:Inv X pins σ H s)(ho:s'.os=s.os)(u:Un (frs X.stack) ch H H' s.heap s'.heap)(hok:HOk X.prog X.w H' s'.heap)(hg:AllBare s'.gens)
  (hch:∀b∈ch,(b∈X.ex∨X.s₀.heap.objs.size<=b)/\b≠X.env.locals/\(∀x c,X.env.cells.lookup x=some c->c≠b)/\∀p∈X.pn++pins,p.1≠b):Inv X pins σ H' s':=by
 obtain⟨h',g',d',t',o'⟩:=s'
 have e:o'=s.os:=ho
 subst e
 exact I.call (g':=g') (t':=t') (d':=d') u hok hg hch
end
abbrev XK:=Value->Option Addr->Hp->Prop
abbrev St:=List (Option V)
abbrev VK:=V->Hp->Prop
abbrev TE:=St->Hp->VK->Prop
abbrev TT:=St->Hp->(Bool->Hp->Prop)->Prop
abbrev TA:=St->Hp->(List V->Hp->Prop)->Prop
structure Ends where
 nx:St->Hp->Prop
 rt:VK
 bk:St->Hp->Prop:=λ_ _=>False
 ct:St->Hp->Prop:=λ_ _=>False
abbrev TS:=Ends->St->Hp->Prop
inductive EP (X:Cx)(pins:List (Addr×Obj))(σ:St)(Q:VK)(u:Value)(s':Shared):Prop
 | mk (v:V) (H':Hp) (I:Inv X pins σ H' s') (r:RelV v u) (q:Q v H')
inductive TP (X:Cx)(pins:List (Addr×Obj))(σ:St)(Q:Bool->Hp->Prop)(b:Bool)(s':Shared):Prop
 | mk (H':Hp) (I:Inv X pins σ H' s') (q:Q b H')
inductive AP (X:Cx)(pins:List (Addr×Obj))(σ:St)(Q:List V->Hp->Prop)(us:List Value)(s':Shared):Prop
 | mk (vs:List V) (H':Hp) (I:Inv X pins σ H' s') (r:Vals vs us) (q:Q vs H')
inductive SN (X:Cx)(pins:List (Addr×Obj))(Q:St->Hp->Prop)(s':Shared):Prop
 | mk (a:St) (b:Hp) (I:Inv X pins a b s') (q:Q a b)
inductive SR (X:Cx)(pins:List (Addr×Obj))(Q:VK)(u:Value)(s':Shared):Prop
 | mk (v:V) (a:St) (b:Hp) (I:Inv X pins a b s') (r:RelV v u) (q:Q v b)
def SP (X:Cx)(pins:List (Addr×Obj))(D:Ends)(f:Flow)(s':Shared):Prop :=
 match f with
 | .next=>SN X pins D.nx s'
 | .brk=>SN X pins D.bk s'
 | .cont=>SN X pins D.ct s'
 | .ret u=>SR X pins D.rt u s'
def PE (X:Cx)(e:Expr)(t:TE):Prop :=
 ∀(pins:List (Addr×Obj)) (s:Shared) (σ:St) (H:Hp) (Q:VK),Inv X pins σ H s->t σ H Q->wpAny (model X.prog X.w) X.A (eval e X.env) (EP X pins σ Q) X.xe s
def PT (X:Cx)(e:Expr)(t:TT):Prop :=
 ∀(pins:List (Addr×Obj)) (s:Shared) (σ:St) (H:Hp) (Q:Bool->Hp->Prop),Inv X pins σ H s->t σ H Q->wpAny (model X.prog X.w) X.A (isTrue e X.env (eval e X.env)) (TP X pins σ Q) X.xe s
def PW (X:Cx)(e:Expr)(t:TT):Prop :=
 ∀(whole:Sem Value) (pins:List (Addr×Obj)) (s:Shared) (σ:St) (H:Hp) (Q:Bool->Hp->Prop),Inv X pins σ H s->t σ H Q->wpAny (model X.prog X.w) X.A (isTrue e X.env whole) (TP X pins σ Q) X.xe s
theorem PW.pt {X:Cx}{e:Expr}{t:TT}(h:PW X e t):PT X e t:=h _
def PA (X:Cx)(es:List Expr)(t:TA):Prop :=
 ∀(pos:Pos) (pins:List (Addr×Obj)) (s:Shared) (σ:St) (H:Hp) (Q:List V->Hp->Prop),Inv X pins σ H s->t σ H Q->wpAny (model X.prog X.w) X.A (spliced (backTo pos (starEach es X.env))) (AP X pins σ Q) X.xe s
def PS (X:Cx)(st:Stmt)(t:TS):Prop :=
 ∀(pins:List (Addr×Obj)) (s:Shared) (σ:St) (H:Hp) (D:Ends),Inv X pins σ H s->t D σ H->wpAny (model X.prog X.w) X.A (exec st X.env) (SP X pins D) X.xe s
def PSs (X:Cx)(st:List Stmt)(t:TS):Prop :=
 ∀(pins:List (Addr×Obj)) (s:Shared) (σ:St) (H:Hp) (D:Ends),Inv X pins σ H s->t D σ H->wpAny (model X.prog X.w) X.A (execs st X.env) (SP X pins D) X.xe s
theorem thn {α:Type}{t:Sem α}{Q Q':α->Shared->Prop}{M:Model}{A:Around}{E:Value->Shared->Prop}{s:Shared}(h:wpAny M A t Q E s)(hQ:∀a s,Q a s->Q' a s):wpAny M A t Q' E s:=lbm h hQ λ_ _ x=>x
section
variable {X:Cx}
def ziy (i:Nat):TE:=λσ H Q=>∃v,σ[i]? = some (some v)/\Q v H
def tC (v:V):TE:=λ_ H Q=>Q v H
theorem znw {i:Nat}{x:Str}{pos:Pos}(hN:X.N[i]? = some x)(hv:Vis X.env.scope x)(hd:(x == ("__debug__" : Str))=false:=by decide)(hcd:(x == ("__classdict__" : Str))=false:=by decide):PE X (.Name x pos) (ziy i):=by
 intro pins s σ H Q I h
 obtain⟨v,e,h⟩:=h
 obtain⟨m,hn,hl⟩:=I.loc
 obtain⟨u,r,l⟩:=hl i x v hN e hv
 have fin:EP X pins σ Q u s:=⟨v,H,I,r,h⟩
 rcases l with⟨hk,hm⟩|⟨hk,c,hc,hcell⟩
 ·exact wpAny_Name (wpAny_loadName_local I.ok.kind hk hn hm fin) hd
 ·rcases hk with hk|hk
  ·exact wpAny_Name (wpAny_loadName_cell I.ok.kind hk hc hcell fin) hd
  ·exact wpAny_Name (wpAny_loadName_free I.ok.kind hk hc hcell fin hcd) hd
theorem zmE {i j pos}:PE X (.Constant (.int i) j pos) (tC (.int i)):=λ_ _ _ H _ I h=>wpAny_Constant_int ⟨.int i,H,I.tok _,⟨_,rfl⟩,h⟩
theorem zok {b j pos}:PE X (.Constant (.bool b) j pos) (tC (.bl b)):=λ_ _ _ H _ I h=>Constant_bool ⟨.bl b,H,I,rfl,h⟩
theorem zme {j pos}:PE X (.Constant .none j pos) (tC .non):=λ_ _ _ H _ I h=>Constant_none ⟨.non,H,I,rfl,h⟩
theorem znv {x j pos}:PE X (.Constant (.str x) j pos) (tC (.str x)):=λ_ _ _ H _ I h=>Calls.Constant_str ⟨.str x,H,I.tok _,⟨_,rfl⟩,h⟩
def Gl (X:Cx)(x:Str):Prop:=X.env.kindOf x=some .globalImplicit
theorem zeA {E:Value->Shared->Prop}{pins:List (Addr×Obj)}{s:Shared}{σ:St}{H:Hp}{x:Str}{u:Value}{pos:Pos}{Q:Value->Shared->Prop}(I:Inv X pins σ H s)(hg:Gl X x)(hm:X.mg x=some u)(h:Q u s)
  (hd:(x == ("__debug__" : Str))=false:=by decide):wpAny (model X.prog X.w) X.A (eval (.Name x pos) X.env) Q E s :=
 Calls.Name_function_global I.ok.kind hg (Calls.loadGlobal_global (by rw[I.ok.glob];exact I.mod.glob.keeps I.bk) hm h) hd
theorem qY {E:Value->Shared->Prop}{pins:List (Addr×Obj)}{s:Shared}{σ:St}{H:Hp}{x:Str}{u:Value}{pos:Pos}{Q:Value->Shared->Prop}(I:Inv X pins σ H s)(hg:Gl X x)(hm:X.mg x=none)(hv:bootBuiltins x=some u)(h:Q u s)
  (hn:x ≠ "__name__" := by decide) (hd:(x == ("__debug__" : Str))=false:=by decide):wpAny (model X.prog X.w) X.A (eval (.Name x pos) X.env) Q E s:=by
 obtain⟨mb,h1,h2⟩:=I.mod.blt
 exact Calls.Name_function_global I.ok.kind hg (Calls.loadGlobal_builtin (by rw[I.ok.glob];exact I.mod.glob.keeps I.bk) hm (by rw[I.ok.blt];exact h1.keeps I.bk) ((h2 x hn).trans hv) h) hd
theorem uW {x:Str}{v:V}{u:Value}{pos:Pos}(hg:Gl X x)(hm:X.mg x=some u)(r:RelV v u)(hd:(x == ("__debug__" : Str))=false:=by decide):PE X (.Name x pos) (tC v) :=
 λ_ _ _ H _ I h=>zeA I hg hm ⟨v,H,I,r,h⟩ hd
theorem zbI {x:Str}{v:V}{u:Value}{pos:Pos}(hg:Gl X x)(hm:X.mg x=none)(hv:bootBuiltins x=some u)(r:RelV v u)(hn:x ≠ "__name__" := by decide)(hd:(x == ("__debug__" : Str))=false:=by decide):PE X (.Name x pos) (tC v) :=
 λ_ _ _ H _ I h=>qY I hg hm hv ⟨v,H,I,r,h⟩ hn hd
variable {a b:Expr}{ta tb:TE}{pos:Pos}
def PC (X:Cx)(op:CmpOp)(a b:Expr)(t:TE):Prop :=
 ∀ (pins:List (Addr×Obj)) (s:Shared) (σ:St) (H:Hp) (Q:VK),Inv X pins σ H s->t σ H Q ->
  wpAny (model X.prog X.w) X.A (eval a X.env) (λv s₁=>wpAny (model X.prog X.w) X.A (eval b X.env) (λu s₂=>wpAny (model X.prog X.w) X.A (compareOp op v u) (EP X pins σ Q) X.xe s₂) X.xe s₁) X.xe s
theorem zfY (b:Expr){op:CmpOp}(h:op≠.In)(h2:op≠.NotIn):behindInMarks op b=false:=by
 have e1:(op == CmpOp.In)=false:=by cases op <;>first|rfl|exact absurd rfl h
 have e2:(op == CmpOp.NotIn)=false:=by cases op <;>first|rfl|exact absurd rfl h2
 cases b <;>simp[behindInMarks,e1,e2]
def zo4 (ta:TE):TE:=λσ H Q=>ta σ H λx H1=>Q (.bl (decide (x=.non))) H1
def znZ (ta:TE):TE:=λσ H Q=>ta σ H λx H1=>Q (.bl (!decide (x=.non))) H1
theorem RelV.none_iff {x:V}{v:Value}(r:RelV x v):(v == Value.none)=decide (x=.non):=by
 cases x with
 | non=>cases r;rfl
 | bl _=>cases r;rfl
 | int _=>obtain⟨t,rfl⟩:=r;rfl
 | str _=>obtain⟨t,rfl⟩:=r;rfl
 | byt _=>obtain⟨t,rfl⟩:=r;rfl
 | flt _=>obtain⟨t,rfl⟩:=r;rfl
 | ref _=>cases r;rfl
 | ty _=>cases r;rfl
theorem zmc {j pos'}(ha:PE X a ta):PC X .Is a (.Constant .none j pos') (zo4 ta):=by
 intro pins s σ H Q I h
 refine thn (ha pins s σ H _ I h) λv s1 hq0=>?_
 obtain⟨x,H1,I1,r1,q1⟩:=hq0
 exact Constant_none (is_none_gen ⟨.bl _,H1,I1,by rw[r1.none_iff];rfl,q1⟩)
theorem zko {j pos'}(ha:PE X a ta):PC X .IsNot a (.Constant .none j pos') (znZ ta):=by
 intro pins s σ H Q I h
 refine thn (ha pins s σ H _ I h) λv s1 hq1=>?_
 obtain⟨x,H1,I1,r1,q1⟩:=hq1
 exact Constant_none (isnot_none_gen ⟨.bl _,H1,I1,by rw[r1.none_iff];rfl,q1⟩)
def tB (t:TE):TT:=λσ H Q=>t σ H λx H1=>∃c,x=.bl c/\Q c H1
theorem zmb {op:CmpOp}{t:TE}(h:PC X op a b t)(h1:behindInMarks op b=false:=by first|exact zfY _ (by decide) (by decide)|rfl):PE X (.Compare a [op] [b] pos) t:=λpins s σ H Q I hw=>wpAny_Compare1 (h pins s σ H Q I hw) h1
theorem zl7 {op:CmpOp}{t:TE}(h:PC X op a b t)(h1:behindInMarks op b=false:=by first|exact zfY _ (by decide) (by decide)|rfl):PT X (.Compare a [op] [b] pos) (tB t):=by
 intro pins s σ H Q I hw
 refine wpAny_isTrue_Compare1 (thn (h pins s σ H _ I hw) λv s1 h1=>thn h1 λu s2 h2=>thn h2 λc s3 ⟨x,H1,I1,r1,q1⟩=>?_) h1
 obtain⟨d,rfl,q⟩:=q1
 cases r1
 exact lbg ⟨H1,I1,q⟩
theorem zl1 {e:Expr}{t:TE}(h:PE X e t)(he:∀whole,isTrue e X.env whole=(do let v ← whole;standAt e.pos;holding [v] (truthy v)):=by intro _;rfl):PT X e (tB t):=by
 intro pins s σ H Q I hw
 refine isTrue_plain (thn (h pins s σ H _ I hw) λv s1 hq2=>?_) (he _)
 obtain⟨x,H1,I1,r1,q1⟩:=hq2
 obtain⟨d,rfl,q⟩:=q1
 cases r1
 exact lbg ⟨H1,I1,q⟩
variable {tA tB':TT}{rest:List Expr}
def tOr (t u:TT):TT:=λσ H Q=>t σ H λc H1=>if c=true then Q true H1 else u σ H1 Q
def zpa (t:TT):TT:=λσ H Q=>t σ H λc H1=>Q (!c) H1
theorem zmd (ha:PT X a tA):PW X (.BoolOp .Or [a] pos) tA:=by
 intro wh pins s σ H Q I h
 refine isTrue_or (thn (ha pins s σ H Q I h) λc s1 e=>?_)
 cases c with
 | false=>exact isTrue_or_nil e
 | true=>exact e
theorem zof (ha:PT X a tA)(hb:PW X (.BoolOp .Or (b::rest) pos) tB'):PW X (.BoolOp .Or (a::b::rest) pos) (tOr tA tB'):=by
 intro wh pins s σ H Q I h
 refine isTrue_or (thn (ha pins s σ H _ I h) λc s1 hq3=>?_)
 obtain⟨H1,I1,q1⟩:=hq3
 cases c with
 | true=>exact⟨H1,I1,q1⟩
 | false=>exact hb wh pins s1 σ H1 Q I1 q1
theorem zni (ha:PT X a tA):PT X (.UnaryOp .Not a pos) (zpa tA):=by
 intro pins s σ H Q I h
 exact isTrue_not (thn (ha pins s σ H (λc H1=>Q (!c) H1) I h) λ_ _ ⟨b,I,q⟩=>⟨b,I,q⟩)
def znL (ta tb:TE):TE:=λσ H Q=>ta σ H λx H1=>∃c,x=.bl c/\if c=true then tb σ H1 Q else Q (.bl false) H1
def zpj (ta tb:TE):TE:=λσ H Q=>ta σ H λx H1=>∃c,x=.bl c/\if c=true then Q (.bl true) H1 else tb σ H1 Q
def zoa (ta:TE):TE:=λσ H Q=>ta σ H λx H1=>∃c,x=.bl c/\Q (.bl (!c)) H1
theorem zmf {op}{t:TE}(h:PE X a t):PE X (.BoolOp op [a] pos) t:=λpins s σ H Q I hw=>BoolOp_one (h pins s σ H Q I hw)
theorem zmh (ha:PE X a ta)(hb:PE X (.BoolOp .And (b::rest) pos) tb):PE X (.BoolOp .And (a::b::rest) pos) (znL ta tb):=by
 intro pins s σ H Q I h
 refine BoolOp_and (thn (ha pins s σ H _ I h) λv s1 hq4=>?_)
 obtain⟨x,H1,I1,r1,q1⟩:=hq4
 obtain⟨c,rfl,q1⟩:=q1
 cases r1
 refine lbg ?_
 cases c with
 | true=>exact hb pins s1 σ H1 Q I1 q1
 | false=>exact⟨.bl false,H1,I1,rfl,q1⟩
theorem zos (ha:PE X a ta)(hb:PE X (.BoolOp .Or (b::rest) pos) tb):PE X (.BoolOp .Or (a::b::rest) pos) (zpj ta tb):=by
 intro pins s σ H Q I h
 refine BoolOp_or (thn (ha pins s σ H _ I h) λv s1 hq5=>?_)
 obtain⟨x,H1,I1,r1,q1⟩:=hq5
 obtain⟨c,rfl,q1⟩:=q1
 cases r1
 refine lbg ?_
 cases c with
 | false=>exact hb pins s1 σ H1 Q I1 q1
 | true=>exact⟨.bl true,H1,I1,rfl,q1⟩
theorem zmU (ha:PE X a ta):PE X (.UnaryOp .Not a pos) (zoa ta):=by
 intro pins s σ H Q I h
 refine UnaryOp_ (thn (ha pins s σ H _ I h) λv s1 hq6=>?_)
 obtain⟨x,H1,I1,r1,q1⟩:=hq6
 obtain⟨c,rfl,q1⟩:=q1
 cases r1
 exact not_of (lbg ⟨.bl (!c),H1,I1,rfl,q1⟩)
end
def SqL (K:PySem.W.Frag)(H:Hp)(a:Addr)(xs:List V):Prop :=
 Rd H a (.lst xs) ∨
  ∃(o:Obj) (its:Array Value) (n:Nat),K.lookup a=some o/\o.cls=.type "list" /\ o.dict=none/\o.data=.seq its n/\its.size<=sizeLine/\Vals xs its.toList
def SqT (K:PySem.W.Frag)(H:Hp)(a:Addr)(xs:List V):Prop :=
 Rd H a (.tup xs) ∨
  ∃(o:Obj) (its:Array Value) (n:Nat),K.lookup a=some o/\o.cls=.type "tuple" /\ o.dict=none/\o.data=.seq its n/\its.size<=sizeLine/\Vals xs its.toList
def zo3:Value->Option V
 | .none=>some .non
 | .bool b=>some (.bl b)
 | .int i _=>some (.int i)
 | .str x _=>some (.str x)
 | .bytes b _=>some (.byt b)
 | .float b _=>some (.flt b)
 | .ref a=>some (.ref a)
 | .type n=>some (.ty n)
 | _=>none
theorem RelV.abs {x:V}{u:Value}(r:RelV x u):zo3 u=some x:=by
 cases x with
 | non=>cases r;rfl
 | bl _=>cases r;rfl
 | int _=>obtain⟨t,rfl⟩:=r;rfl
 | str _=>obtain⟨t,rfl⟩:=r;rfl
 | byt _=>obtain⟨t,rfl⟩:=r;rfl
 | flt _=>obtain⟨t,rfl⟩:=r;rfl
 | ref _=>cases r;rfl
 | ty _=>cases r;rfl
theorem RelV.inj {x y:V}{u:Value}(r:RelV x u)(q:RelV y u):x=y:=lg (r.abs.symm.trans q.abs)
theorem Vals.inj:∀{xs ys:List V}{us:List Value},Vals xs us->Vals ys us->xs=ys:=by
 intro xs ys us h k
 induction h generalizing ys with
 | nil=>cases k;rfl
 | cons r t ih=>cases k with|cons r' t'=>rw[r.inj r',ih t']
section
variable {X:Cx}{pins:List (Addr×Obj)}{σ:St}{H:Hp}{s:Shared}{a:Addr}{xs ys:List V}
theorem SqT.of {K:PySem.W.Frag}(h:H a=some (.tup xs)):SqT K H a xs:=.inl (.inl h)
theorem Inv.list (I:Inv X pins σ H s)(h:SqL X.K H a xs):∃its:List Value,Vals xs its/\PlainL s.heap a its.toArray/\xs.length<=sizeLine:=by
 rcases h with h|⟨o,its,n,hk,hc,hd,hs,hz,r⟩
 ·obtain⟨z,its,n,r,e⟩:=h.ok I.hok
  exact⟨its,r,⟨_,n,e,rfl,rfl,rfl⟩,z⟩
 ·refine⟨its.toList,r,⟨o,n,I.kIn a o hk,hc,hd,by simpa using hs⟩,?_⟩
  have e:=r.length
  simp only[lbP] at e
  omega
theorem Inv.tuple (I:Inv X pins σ H s)(h:SqT X.K H a xs):∃its:List Value,Vals xs its/\IsTup s.heap a its.toArray/\xs.length<=sizeLine:=by
 rcases h with h|⟨o,its,n,hk,hc,_,hs,hz,r⟩
 ·obtain⟨z,its,r,p⟩:=h.ok I.hok
  exact⟨its,r,p.tup,z⟩
 ·refine⟨its.toList,r,⟨o,I.kIn a o hk,hc,n,by simpa using hs⟩,?_⟩
  have e:=r.length
  simp only[lbP] at e
  omega
theorem Inv.noDict (I:Inv X pins σ H s)(h:SqT X.K H a xs):∃o,s.heap.get? a=some o/\o.cls=.type "tuple" /\ o.dict=none:=by
 rcases h with h|⟨o,its,n,hk,hc,hd,hs,hz,r⟩
 ·obtain⟨z,its,r,o,e,c,_,d⟩:=h.ok I.hok
  exact⟨o,e,c,d⟩
 ·exact⟨o,I.kIn a o hk,hc,hd⟩
theorem Inv.list_inj (I:Inv X pins σ H s)(h:SqL X.K H a xs)(h':SqL X.K H a ys):xs=ys:=by
 obtain⟨its,r,⟨o,n,e,_,_,d⟩,_⟩:=I.list h
 obtain⟨its',r',⟨o',n',e',_,_,d'⟩,_⟩:=I.list h'
 rw[e] at e';cases e'
 rw[d] at d'
 injection d' with d1 _
 have:its=its':=by simpa using lbj Array.toList d1
 subst this
 exact r.inj r'
theorem Inv.tuple_inj (I:Inv X pins σ H s)(h:SqT X.K H a xs)(h':SqT X.K H a ys):xs=ys:=by
 obtain⟨its,r,⟨o,e,_,n,d⟩,_⟩:=I.tuple h
 obtain⟨its',r',⟨o',e',_,n',d'⟩,_⟩:=I.tuple h'
 rw[e] at e';cases e'
 rw[d] at d'
 injection d' with d1 _
 have:its=its':=by simpa using lbj Array.toList d1
 subst this
 exact r.inj r'
end
abbrev Cx.wish (X:Cx)(E:Value->Shared->Prop):Cx:={X with xe:=E}
abbrev Cx.nox (X:Cx):Cx:=X.wish λ_ _=>False
theorem Cx.Ok.wish {X:Cx}(ok:X.Ok)(E:Value->Shared->Prop):(X.wish E).Ok :=
 ⟨ok.mod,ok.kind,ok.glob,ok.blt,ok.above,ok.inj,ok.has,ok.cab,ok.hd,ok.frames,ok.stk,ok.exf,ok.bs,ok.bsz,ok.noex,ok.exfs,ok.funs,ok.frf⟩
theorem Cx.Ok.unwish {X:Cx}{E:Value->Shared->Prop}(ok:(X.wish E).Ok):X.Ok :=
 ⟨ok.mod,ok.kind,ok.glob,ok.blt,ok.above,ok.inj,ok.has,ok.cab,ok.hd,ok.frames,ok.stk,ok.exf,ok.bs,ok.bsz,ok.noex,ok.exfs,ok.funs,ok.frf⟩
section
variable {X:Cx}{pins:List (Addr×Obj)}{σ:St}{H:Hp}{s:Shared}{E:Value->Shared->Prop}
theorem Inv.wish (I:Inv X pins σ H s)(E:Value->Shared->Prop):Inv (X.wish E) pins σ H s:=⟨I.ok.wish E,I.os,I.bare,I.base,I.loc,I.cell,I.free,I.freeC,I.pin,I.hok,I.len⟩
theorem Inv.unwish (I:Inv (X.wish E) pins σ H s):Inv X pins σ H s:=⟨I.ok.unwish,I.os,I.bare,I.base,I.loc,I.cell,I.free,I.freeC,I.pin,I.hok,I.len⟩
theorem SP.unwish {D:Ends}{f:Flow}{s':Shared}(h:SP (X.wish E) pins D f s'):SP X pins D f s':=by
 cases f with
 | next=>obtain⟨σ',H',I,q⟩:=h;exact⟨σ',H',I.unwish,q⟩
 | brk=>obtain⟨σ',H',I,q⟩:=h;exact⟨σ',H',I.unwish,q⟩
 | cont=>obtain⟨σ',H',I,q⟩:=h;exact⟨σ',H',I.unwish,q⟩
 | ret u=>obtain⟨v,σ',H',I,r,q⟩:=h;exact⟨v,σ',H',I.unwish,r,q⟩
theorem PE.nox {e:Expr}{t:TE}(h:PE X.nox e t):PE X e t:=λpins s σ H Q I hw =>
 lbm (h pins s σ H Q (I.wish _) hw) (λ_ _ ⟨v,H',I',r,q⟩=>⟨v,H',I'.unwish,r,q⟩) λ_ _ z=>False.elim z
theorem PT.nox {e:Expr}{t:TT}(h:PT X.nox e t):PT X e t:=λpins s σ H Q I hw =>
 lbm (h pins s σ H Q (I.wish _) hw) (λ_ _ ⟨H',I',q⟩=>⟨H',I'.unwish,q⟩) λ_ _ z=>False.elim z
theorem PSs.nox {st:List Stmt}{t:TS}(h:PSs X.nox st t):PSs X st t:=λpins s σ H D I hw =>
 lbm (h pins s σ H D (I.wish _) hw) (λ_ _ q=>q.unwish) λ_ _ z=>False.elim z
end
section
variable {X:Cx}{st:Stmt}{rest:List Stmt}{t u:TS}{e:Expr}{te:TE}{pos:Pos}
def zoq:TS:=λD σ H=>D.nx σ H
def zpf (t u:TS):TS:=λD σ H=>t {D with nx:=u D} σ H
theorem zky:PSs X [] zoq:=λ_ _ σ H _ I h=>ldl ⟨σ,H,I,h⟩
theorem zc8 (h1:PS X st t)(h2:PSs X rest u):PSs X (st::rest) (zpf t u):=by
 intro pins s σ H D I h
 refine wpAny_execs_cons (thn (h1 pins s σ H {D with nx:=u D} I h) λf s1 q=>?_)
 cases f with
 | next =>
  obtain⟨σ',H',I',q⟩:=q
  exact h2 pins s1 σ' H' D I' q
 | ret v=>exact q
 | brk=>exact q
 | cont=>exact q
theorem zhf (h1:PS X st t):PSs X [st] t:=by
 intro pins s σ H D I h
 refine wpAny_execs_cons (thn (h1 pins s σ H D I h) λf s1 q=>?_)
 cases f with
 | next=>exact ldl q
 | ret v=>exact q
 | brk=>exact q
 | cont=>exact q
theorem Inv.quiet {pins:List (Addr×Obj)}{σ:St}{H:Hp}{s:Shared}(I:Inv X pins σ H s):interactive X.env=false:=by simp[interactive,I.ok.kind]
def znK (te:TE):TS:=λD σ H=>te σ H λ_ H1=>D.nx σ H1
theorem zfi (he:PE X e te)(hs:swapsWith e none pos.line X.env=pure false:=by rfl):PS X (.Expr e pos) (znK te):=by
 intro pins s σ H D I h
 exact wpAny_Expr_any (thn (he pins s σ H _ I h) λv s1 ⟨x,H1,I1,r1,q1⟩=>⟨σ,H1,I1,q1⟩) I.quiet hs
def zpg (te:TE):TS:=λD σ H=>te σ H D.rt
theorem zjS (he:PE X e te):PS X (.Return (some e) pos) (zpg te):=by
 intro pins s σ H D I h
 exact wpAny_Return_some (thn (he pins s σ H _ I h) λv s1 ⟨x,H1,I1,r1,q1⟩=>⟨x,σ,H1,I1,r1,q1⟩)
def zpm (c:TT)(t u:TS):TS:=λD σ H=>c σ H λb H1=>if b=true then t D σ H1 else u D σ H1
theorem zoh {c:Expr}{a b:List Stmt}{tc:TT}(hc:PT X c tc)(ha:PSs X a t)(hb:PSs X b u):PS X (.If c a b pos) (zpm tc t u):=by
 intro pins s σ H D I h
 refine wpAny_If (thn (hc pins s σ H _ I h) λd s1 hq7=>?_)
 obtain⟨H1,I1,q1⟩:=hq7
 cases d with
 | true=>exact ha pins s1 σ H1 D I1 q1
 | false=>exact hb pins s1 σ H1 D I1 q1
end
abbrev TG:=V->St->Hp->(St->Hp->Prop)->Prop
abbrev TGs:=List V->St->Hp->(St->Hp->Prop)->Prop
def PG (X:Cx)(target:Expr)(t:TG):Prop :=
 ∀ (pins:List (Addr×Obj)) (s:Shared) (σ:St) (H:Hp) (v:V) (u:Value) (Q:St->Hp->Prop),Inv X pins σ H s->RelV v u->t v σ H Q ->
  wpAny (model X.prog X.w) X.A (assign target X.env u) (λ_ s'=>∃σ' H',Inv X pins σ' H' s'/\Q σ' H') X.xe s
def PGs (X:Cx)(ts:List Expr)(t:TGs):Prop :=
 ∀ (pins:List (Addr×Obj)) (s:Shared) (σ:St) (H:Hp) (vs:List V) (us:List Value) (Q:St->Hp->Prop),Inv X pins σ H s->Vals vs us->t vs σ H Q ->
  wpAny (model X.prog X.w) X.A (assignInOrder ((assignEach ts X.env).map (·.2)) us) (λ_ s'=>∃σ' H',Inv X pins σ' H' s'/\Q σ' H') X.xe s
section
variable {X:Cx}{pos:Pos}
def kI (i:Nat):TG:=λv σ H Q=>Q (σ.set i (some v)) H
theorem zX {i:Nat}{x:Str}(hN:X.N.Nodup)(hi:X.N[i]? = some x)(hx:Loc X.env.scope x)(hf:X.fn x=true∨X.env.scope.names.lookup x=some .local:=by first|exact .inl rfl|exact .inr rfl|assumption):PG X (.Name x pos) (kI i):=by
 intro pins s σ H v u Q I r h
 exact wpAny_assign_Name (zcE I hN hi hx r (λs' I'=>⟨_,H,I',h⟩) hf)
def zlV:TGs:=λvs σ H Q=>vs=[]/\Q σ H
def zbK (t:TG)(u:TGs):TGs:=λvs σ H Q=>∃v r,vs=v::r/\t v σ H λσ' H'=>u r σ' H' Q
theorem zku:PGs X [] zlV:=by
 intro pins s σ H vs us Q I r h
 obtain⟨e,h⟩:=h
 subst e
 cases r
 exact assignInOrder_nil ⟨σ,H,I,h⟩
theorem zfS {e:Expr}{es:List Expr}{t:TG}{u:TGs}(h1:PG X e t)(h2:PGs X es u)
  (hs:(assignEach (e::es) X.env).map (·.2)=assign e X.env::(assignEach es X.env).map (·.2):=by rfl):PGs X (e::es) (zbK t u):=by
 intro pins s σ H vs us Q I r h
 obtain⟨v,vr,e1,h⟩:=h
 subst e1
 cases r with
 | cons r rr =>
  rw[hs]
  refine assignInOrder_cons (thn (h1 pins s σ H _ _ _ I r h) λ_ s1 hq8=>?_)
  obtain⟨σ1,H1,I1,q1⟩:=hq8
  exact h2 pins s1 σ1 H1 _ _ Q I1 rr q1
def zlY (K:PySem.W.Frag)(n:Nat)(t:TGs):TG:=λv σ H Q=>∃a xs,v=.ref a/\SqT K H a xs/\xs.length=n/\t xs σ H Q
theorem znu {es:List Expr}{k:Nat}{t:TGs}{n:Nat}(hc:X.calm=true)(h:PGs X es t)
  (hn:(assignEach es X.env).length=n:=by rfl) (hst:(assignEach es X.env).findIdx? (·.1)=none:=by rfl):PG X (.Tuple es k pos) (zlY X.K n t):=by
 intro pins s σ H v u Q I r hw
 obtain⟨a,xs,e1,hq,hl,hw⟩:=hw
 subst e1
 cases r
 obtain⟨its,rv,ht,hz⟩:=I.tuple hq
 refine assign_Tuple_tuple (I.ok.hd hc) ht (by simp[hn,← hl,rv.length]) hst λh' hx=>?_
 have I1:Inv X pins σ H {s with heap:=h'}:=I.kept (t':=s.toks) λb o e=>hx b o (lO (lu e)) e
 exact h pins _ σ H xs _ Q I1 (by simpa using rv) hw
def zoG (te:TE)(g:TG):TS:=λD σ H=>te σ H λx H1=>g x σ H1 D.nx
theorem zmq {tg e:Expr}{te:TE}{g:TG}(he:PE X e te)(hg:PG X tg g)(hs:swapsWithSole [tg] e pos.line X.env=pure false:=by rfl)(hw:swappedStores [tg] e X.env=pure none:=by rfl)
  (h1:(assignEach [tg] X.env).map (·.2)=[assign tg X.env]:=by rfl):PS X (.Assign [tg] e pos) (zoG te g):=by
 intro pins s σ H D I h
 refine wpAny_Assign_stores (thn (he pins s σ H _ I h) λv s1 ⟨x,H1,I1,r1,q1⟩=>?_) hs hw
 rw[h1]
 exact thn (hg pins s1 σ H1 x v _ I1 r1 q1) λ_ s2 ⟨a,b,I,q⟩=>⟨a,b,I,q⟩
theorem zdG {i:Nat}{x:Str}{e:Expr}{te:TE}{pos':Pos}(hN:X.N.Nodup)(hi:X.N[i]? = some x)(hx:Loc X.env.scope x)(he:PE X e te)(hs:swapsWith e (some (.Name x pos')) pos.line X.env=pure false:=by rfl)(hf:X.fn x=true∨X.env.scope.names.lookup x=some .local:=by first|exact .inl rfl|exact .inr rfl|assumption) :
  PS X (.Assign [.Name x pos'] e pos) (zoG te (kI i)):=by
 intro pins s σ H D I h
 refine wpAny_Assign_Name (thn (he pins s σ H _ I h) λv s1 ⟨y,H1,I1,r1,q1⟩=>?_) hs
 exact zcE I1 hN hi hx r1 (λs2 I2=>⟨_,H1,I2,q1⟩) hf
end
section
variable {X:Cx}{pos:Pos}
def zmR (c:TT)(tb:TS):TS:=λD σ H=>∃W:Nat->St->Hp->Prop,(∃m,W m σ H)/\∀m σ H,W m σ H ->
 c σ H λb H1=>if b=true then ∃N:St->Hp->Prop,(∀σ' H',N σ' H'->∃m',m'<m/\W m' σ' H')/\tb {D with nx:=N,ct:=N,bk:=D.nx} σ H1 else D.nx σ H1
theorem zi7 {c:Expr}{body:List Stmt}{tc:TT}{tb:TS}(hp:PassesOwn (model X.prog X.w) X.A X.env X.xe)(hc:PT X c tc)(hb:PSs X body tb):PS X (.While c body [] pos) (zmR tc tb):=by
 intro pins s σ H D I h
 obtain⟨W,⟨m0,w0⟩,turn⟩:=h
 refine wpAny_While (codeAny_whileLoop (λn s'=>∃σ' H',Inv X pins σ' H' s'/\W n σ' H') ?_ m0 ⟨σ,H,I,w0⟩)
 rintro n s1 ⟨σ1,H1,I1,w1⟩
 refine lb4 hp (thn (hc pins s1 σ1 H1 _ I1 (turn n σ1 H1 w1)) λb s2 hq9=>?_)
 obtain⟨H2,I2,q2⟩:=hq9
 cases b with
 | true =>
  obtain⟨N,hN,q2⟩:=q2
  rw[lH rfl]
  refine lb4 hp (thn (hb pins s2 σ1 H2 _ I2 q2) λf s3 q3=>?_)
  cases f with
  | next =>
   obtain⟨σ3,H3,I3,n3⟩:=q3
   obtain⟨m',hm,w3⟩:=hN σ3 H3 n3
   exact⟨m',hm,σ3,H3,I3,w3⟩
  | cont =>
   obtain⟨σ3,H3,I3,n3⟩:=q3
   obtain⟨m',hm,w3⟩:=hN σ3 H3 n3
   exact⟨m',hm,σ3,H3,I3,w3⟩
  | brk=>exact q3
  | ret v=>exact q3
 | false =>
  rw[lap lD]
  exact ldl ⟨σ1,H2,I2,q2⟩
end
structure It where
 go:Nat->Hp->Prop
 yld:Nat->Hp->V->Hp->Prop
 stop:Nat->Hp->Prop
def zjc (X:Cx)(pins:List (Addr×Obj))(H:Hp)(b:Addr):Prop :=
 H b=none/\b≠X.env.locals/\b∉X.fs/\(b∈X.ex∨X.s₀.heap.objs.size<=b)/\(∀x c,X.env.cells.lookup x=some c->c≠b)/\∀p∈X.pn++pins,p.1≠b
theorem Inv.fpOk {X:Cx}{pins:List (Addr×Obj)}{σ:St}{H H':Hp}{s:Shared}{b:Addr}(I:Inv X pins σ H s)(hb:s.heap.objs.size<=b)(hn:H' b=none):zjc X pins H' b:=by
 refine⟨hn,laS (lz I.lt hb),I.nofs hb,.inr (laj I.sz hb),λx c e z=>?_,λp hp z=>?_⟩
 ·obtain⟨v,q⟩:=I.cell x c e
  exact absurd (lz q.lt (by rw[z];exact hb)) (lbL _)
 ·exact absurd (lz (lu (I.pin p hp).1) (by rw[z];exact hb)) (lbL _)
structure Turn (P:Program)(w:World)(K:PySem.W.Frag)(tg:Expr)(J:It)(fp:List Addr)(it:Addr)(tn:Nat->Heap->Prop):Prop where
 mem:it∈fp
 obj:∀i h,tn i h->∀b∈fp,∃o,h.get? b=some o/\∀v,o.data≠.cell v
 keep:∀i h h',tn i h->(∀b∈fp,∀o,h.get? b=some o->h'.get? b=some o)->tn i h'
 item:∀(X:Cx),X.prog=P->X.w=w->X.K=K->X.calm=true->∀(i:Nat) (pins:List (Addr×Obj)) (s:Shared) (σ:St) (H:Hp) (E:Value->Shared->Prop),Inv X pins σ H s->(∀b∈fp,zjc X pins H b)->tn i s.heap->J.go i H ->
  wpAny (model P w) X.A (pyNext (.ref it)) (λr s1=>∃u,r=some u /\
   wpAny (model P w) X.A (letOwnedTupleGo tg (.ref it) u) (λ_ s2=>∃x H',Inv X pins σ H' s2/\RelV x u/\J.yld i H x H'/\tn (i+1) s2.heap/\∀b∈fp,H' b=none) E s1) E s
 done:∀(X:Cx),X.prog=P->X.w=w->X.K=K->X.calm=true->∀(i:Nat) (pins:List (Addr×Obj)) (s:Shared) (σ:St) (H:Hp) (E:Value->Shared->Prop),Inv X pins σ H s->(∀b∈fp,zjc X pins H b)->tn i s.heap->J.stop i H ->
  wpAny (model P w) X.A (pyNext (.ref it)) (λr s1=>r=none/\Inv X pins σ H s1) E s
 self:∀(A:Around) (i:Nat) (s:Shared) (Q:Value->Shared->Prop) (E:Value->Shared->Prop),tn i s.heap->Q (.ref it) s->wpAny (model P w) A (pyIter (.ref it)) Q E s
abbrev TI:=St->Hp->(It->Hp->Prop)->Prop
inductive PIE (X:Cx)(pins:List (Addr×Obj))(σ:St)(tg:Expr)(R:It->Hp->Prop)(itv:Value)(s2:Shared):Prop
 | mk (it:Addr) (fp:List Addr) (tn:Nat->Heap->Prop) (J:It) (H':Hp) (e:itv=.ref it) (I:Inv X pins σ H' s2) (T:Turn X.prog X.w X.K tg J fp it tn) (z:tn 0 s2.heap) (f:(∀b∈fp,zjc X pins H' b)) (q:R J H')
def PI (X:Cx)(tg iter:Expr)(wi:TI):Prop :=
 ∀ (pins:List (Addr×Obj)) (s:Shared) (σ:St) (H:Hp) (R:It->Hp->Prop),Inv X pins σ H s->wi σ H R ->
  wpAny (model X.prog X.w) X.A (eval iter X.env) (λv s1=>wpAny (model X.prog X.w) X.A (pyIter v) (PIE X pins σ tg R) X.xe s1) X.xe s
theorem zjz {M:Model}{A:Around}{E:Value->Shared->Prop}{s:Shared}{tg:Expr}{it:Addr}{u:Value}{o:Obj}{n:String}{vs:Array Value}{Q:Unit->Shared->Prop}(ho:s.heap.get? it=some o)(hc:o.cls=.type n)(hd:o.data=.fields vs)
  (hn:["enumerate", "zip", "dict_itemiterator", "dict_reverseitemiterator", "odict_iterator", "itertools.zip_longest", "itertools.pairwise"].contains n=false) (hQ:Q () s):wpAny M A (letOwnedTupleGo tg (.ref it) u) Q E s:=by
 unfold letOwnedTupleGo
 cases tg <;>first
  | exact lc hQ
  | (cases u <;>first
    | exact lc hQ
    | (refine la (ldH ho ?_)
       rw[hc,hd]
       show wpAny M A (if (["enumerate", "zip", "dict_itemiterator", "dict_reverseitemiterator", "odict_iterator", "itertools.zip_longest", "itertools.pairwise"].contains n&&vs[0]? == some (rawInt _))=true then _ else _) Q E s
       rw[lap (by intro h;rw[hn,Bool.false_and] at h;cases h)]
       exact lc hQ))
def Itl (K:PySem.W.Frag)(a:Addr):It :=
 ⟨λi H=>∃xs x,SqL K H a xs/\xs[i]? = some x,λi H x H'=>H'=H/\∀xs,SqL K H a xs->xs[i]? = some x,λi H=>∃xs,SqL K H a xs/\xs.length<=i⟩
def Itt (K:PySem.W.Frag)(a:Addr):It :=
 ⟨λi H=>∃xs x,SqT K H a xs/\xs[i]? = some x,λi H x H'=>H'=H/\∀xs,SqT K H a xs->xs[i]? = some x,λi H=>∃xs,SqT K H a xs/\xs.length<=i⟩
def Itr (lo:Int)(n:Nat):It:=⟨λi _=>i<n,λi H x H'=>H'=H/\x=.int (lo+i),λi _=>n<=i⟩
theorem zhd {P:Program}{w:World}{K:PySem.W.Frag}{tg:Expr}(a it:Addr):Turn P w K tg (Itl K a) [it] it (λi h=>h.IsListIter it a i) where
 mem:=by simp
 obj:=λi h st b hb=>by
  have e:b=it:=by simpa using hb
  subst e
  obtain⟨o,e,c,d⟩:=st
  exact⟨o,e,λv z=>by rw[d] at z;cases z⟩
 keep:=λi h h' st k=>st.at λo e=>k it (by simp) o e
 item:=by
  intro X hP hw hK hc i pins s σ H E I hf st hg
  subst hP hw hK
  obtain⟨xs,x,hq,hx⟩:=hg
  obtain⟨its,rv,p,hz⟩:=I.list hq
  obtain⟨u,hu,ru⟩:=rv.get hx
  obtain⟨f0,f1,f2,f3,f4,f5⟩:=hf it (by simp)
  refine wpAny_pyNext_list_item st p.isList (x:=u) (by simpa using hu) λh' st' sb=>?_
  have I1:Inv X pins σ H {s with heap:=h'}:=I.turned (t':=s.toks) (λb o hb e=>(sb.2 b hb).trans e) f0 f1 f3 f4 f5
  obtain⟨o,e,c,d⟩:=id st'
  exact⟨u,rfl,zjz (s:={s with heap:=h'}) e c d (by decide) ⟨x,H,I1,ru,⟨rfl,λys hy=>by rw[I.list_inj hy hq];exact hx⟩,st',λb hb=>(hf b hb).1⟩⟩
 done:=by
  intro X hP hw hK hc i pins s σ H E I hf st hg
  subst hP hw hK
  obtain⟨xs,hq,hx⟩:=hg
  obtain⟨its,rv,p,hz⟩:=I.list hq
  obtain⟨f0,f1,f2,f3,f4,f5⟩:=hf it (by simp)
  have hl:=rv.length
  exact wpAny_pyNext_list_end (I.ok.hd hc) st p.isList (by simp;omega) λh' eb=>⟨rfl,I.turned (t':=s.toks) (λb o hb e=>eb b o hb e) f0 f1 f3 f4 f5⟩
 self:=λ_ _ _ _ _ st h=>wpAny_pyIter_listiter st h
theorem zgl {P:Program}{w:World}{K:PySem.W.Frag}{tg:Expr}(a it:Addr):Turn P w K tg (Itt K a) [it] it (λi h=>h.IsTupleIter it a i) where
 mem:=by simp
 obj:=λi h st b hb=>by
  have e:b=it:=by simpa using hb
  subst e
  obtain⟨o,e,c,d⟩:=st
  exact⟨o,e,λv z=>by rw[d] at z;cases z⟩
 keep:=λi h h' st k=>st.at λo e=>k it (by simp) o e
 item:=by
  intro X hP hw hK hc i pins s σ H E I hf st hg
  subst hP hw hK
  obtain⟨xs,x,hq,hx⟩:=hg
  obtain⟨its,rv,p,hz⟩:=I.tuple hq
  obtain⟨u,hu,ru⟩:=rv.get hx
  obtain⟨f0,f1,f2,f3,f4,f5⟩:=hf it (by simp)
  refine wpAny_pyNext_tuple_item st (show s.heap.IsTuple a its.toArray from p) (x:=u) (by simpa using hu) λh' st' sb=>?_
  have I1:Inv X pins σ H {s with heap:=h'}:=I.turned (t':=s.toks) (λb o hb e=>(sb.2 b hb).trans e) f0 f1 f3 f4 f5
  obtain⟨o,e,c,d⟩:=id st'
  exact⟨u,rfl,zjz (s:={s with heap:=h'}) e c d (by decide) ⟨x,H,I1,ru,⟨rfl,λys hy=>by rw[I.tuple_inj hy hq];exact hx⟩,st',λb hb=>(hf b hb).1⟩⟩
 done:=by
  intro X hP hw hK hc i pins s σ H E I hf st hg
  subst hP hw hK
  obtain⟨xs,hq,hx⟩:=hg
  obtain⟨its,rv,p,hz⟩:=I.tuple hq
  obtain⟨f0,f1,f2,f3,f4,f5⟩:=hf it (by simp)
  have hl:=rv.length
  exact wpAny_pyNext_tuple_end (I.ok.hd hc) st (show s.heap.IsTuple a its.toArray from p) (by simp;omega) λh' eb=>⟨rfl,I.turned (t':=s.toks) (λb o hb e=>eb b o hb e) f0 f1 f3 f4 f5⟩
 self:=λ_ _ _ _ _ st h=>wpAny_pyIter_tupleiter st h
theorem zgm {P:Program}{w:World}{K:PySem.W.Frag}{tg:Expr}(it:Addr)(lo:Int)(n:Nat):Turn P w K tg (Itr lo n) [it] it (λi h=>IsRangeIter h it (lo+(i:Nat)*1) ((n:Int) - (i:Nat)) 1) where
 mem:=by simp
 obj:=λi h st b hb=>by
  have e:b=it:=by simpa using hb
  subst e
  exact ⟨_,st,λv z=>by
   have z':Data.fields _=Data.cell v:=z
   cases z'⟩
 keep:=λi h h' st k=>k it (by simp) _ st
 item:=by
  intro X hP hw hK hc i pins s σ H E I hf st hg
  subst hP hw hK
  obtain⟨f0,f1,f2,f3,f4,f5⟩:=hf it (by simp)
  have W:=Walks.range (prog:=X.prog) (w:=X.w) (I.ok.hd hc) it lo 1 n
  refine W.item i s _ _ hg st λv h' tk hv st' kk=>?_
  obtain⟨t,rfl⟩:=hv
  have I1:Inv X pins σ H {s with heap:=h',toks:=tk}:=I.turned (λb o hb e=>kk b o (by simpa using hb) e) f0 f1 f3 f4 f5
  refine⟨_,rfl,zjz (s:={s with heap:=h',toks:=tk}) (n := "range_iterator") st' rfl rfl (by decide) ⟨.int (lo+i),H,I1,⟨t,?_⟩,⟨rfl,rfl⟩,st',λb hb=>(hf b hb).1⟩⟩
  rw[Int.mul_one]
 done:=by
  intro X hP hw hK hc i pins s σ H E I hf st hg
  subst hP hw hK
  obtain⟨f0,f1,f2,f3,f4,f5⟩:=hf it (by simp)
  exact wpAny_pyNext_range_end (I.ok.hd hc) st (by have:n<=i:=hg;omega) λh' eb=>⟨rfl,I.turned (t':=s.toks) (λb o hb e=>eb b o hb e) f0 f1 f3 f4 f5⟩
 self:=λ_ _ _ _ _ st h=>wpAny_pyIter_rangeiter st h
section
variable {X:Cx}{tg:Expr}
def znX (K:PySem.W.Frag)(tl:TE):TI:=λσ H R=>tl σ H λx H1=>∃a,x=.ref a/\(∃xs,SqL K H1 a xs)/\R (Itl K a) H1
def zpo (K:PySem.W.Frag)(tl:TE):TI:=λσ H R=>tl σ H λx H1=>∃a,x=.ref a/\(∃xs,SqT K H1 a xs)/\R (Itt K a) H1
theorem zla {l:Expr}{tl:TE}(hl:PE X l tl):PI X tg l (znX X.K tl):=by
 intro pins s σ H R I h
 refine thn (hl pins s σ H _ I h) λv s1 zm9=>?_
 obtain⟨x,H1,I1,r1,q1⟩:=zm9
 obtain⟨a,e,⟨xs,hq⟩,q⟩:=q1
 subst e
 cases r1
 obtain⟨its,rv,p,hz⟩:=I1.list hq
 refine lb5 p.isList ?_
 refine⟨s1.heap.objs.size,[s1.heap.objs.size],_,_,H1,rfl,I1.kept (t':=s1.toks) λb o e=>lb _ e,zhd a _,⟨_,lj _ rfl,rfl,rfl⟩,λb hb=>?_,q⟩
 have e:b=s1.heap.objs.size:=by simpa using hb
 subst e
 exact I1.fpOk (lr _) (I1.hok.fresh (lr _))
theorem zmL {l:Expr}{tl:TE}(hl:PE X l tl):PI X tg l (zpo X.K tl):=by
 intro pins s σ H R I h
 refine thn (hl pins s σ H _ I h) λv s1 hq11=>?_
 obtain⟨x,H1,I1,r1,q1⟩:=hq11
 obtain⟨a,e,⟨xs,hq⟩,q⟩:=q1
 subst e
 cases r1
 obtain⟨its,rv,p,hz⟩:=I1.tuple hq
 refine lcj (show s1.heap.IsTuple a its.toArray from p) ?_
 refine⟨s1.heap.objs.size,[s1.heap.objs.size],_,_,H1,rfl,I1.kept (t':=s1.toks) λb o e=>lb _ e,zgl a _,⟨_,lj _ rfl,rfl,rfl⟩,λb hb=>?_,q⟩
 have e:b=s1.heap.objs.size:=by simpa using hb
 subst e
 exact I1.fpOk (lr _) (I1.hok.fresh (lr _))
theorem zfQ {pins:List (Addr×Obj)}{σ:St}{H:Hp}{s:Shared}{R:It->Hp->Prop}{E:Value->Shared->Prop}{lo hi:Int}{t u v:Tok}{tk:Nat}(I:Inv X pins σ H s)(h1:-(2 ^ 62)<=lo)(h2:lo<2 ^ 62)(h3:-(2 ^ 62)<=hi)(h4:hi<2 ^ 62)
  (q:R (Itr lo (hi - lo).toNat) H):wpAny (model X.prog X.w) X.A (pyIter (.ref s.heap.objs.size)) (PIE X pins σ tg R) E {s with heap:=s.heap.push {cls:=.type "range", data:=.fields #[.int lo t,.int hi u,.int 1 v]},toks:=tk}:=by
 refine wpAny_pyIter_range (IsRange.new ..) (small_one h1 h2 h3 h4) ?_
 have I1:Inv X pins σ H {s with heap:=s.heap.push {cls:=.type "range", data:=.fields #[.int lo t,.int hi u,.int 1 v]},toks:=tk}:=I.kept λb o e=>lb _ e
 refine ⟨(s.heap.push {cls:=.type "range", data:=.fields #[.int lo t,.int hi u,.int 1 v]}).objs.size,[(s.heap.push {cls:=.type "range", data:=.fields #[.int lo t,.int hi u,.int 1 v]}).objs.size],_,_,H,rfl,
  I1.kept (t':=tk) λb o e=>lb _ e,zgm _ lo (hi - lo).toNat,?_,λb hb=>?_,q⟩
 ·have e1:lo+((0:Nat):Int)*1=lo:=by simp
  have e2:(((hi - lo).toNat:Nat):Int) - ((0:Nat):Int)=Builtin.Range.rangeSize lo hi 1:=by rw[rangeSize_one];split <;>omega
  show IsRangeIter _ _ (lo+((0:Nat):Int)*1) ((((hi - lo).toNat:Nat):Int) - ((0:Nat):Int)) 1
  rw[e1,e2]
  exact lj _ rfl
 ·have e:b=(s.heap.push {cls:=.type "range", data:=.fields #[.int lo t,.int hi u,.int 1 v]}).objs.size:=by simpa using hb
  subst e
  exact I1.fpOk (lr _) (I1.hok.fresh (lr _))
def zog (ta:TA):TI:=λσ H R=>ta σ H λvs H1=>∃j:Int,vs=[.int j]/\-(2 ^ 62)<=j/\j<2 ^ 62/\R (Itr 0 j.toNat) H1
def znV (ta:TA):TI:=λσ H R=>ta σ H λvs H1=>∃i j:Int,vs=[.int i,.int j]/\(-(2 ^ 62)<=i/\i<2 ^ 62/\-(2 ^ 62)<=j/\j<2 ^ 62)/\R (Itr i (j - i).toNat) H1
theorem zhe {a:Expr}{ta:TA}{p pos:Pos}(hg:Gl X "range")(hm:X.mg "range" = none)(ha:PA X [a] ta)(hs:starEach [a] X.env=[(false,eval a X.env)]:=by rfl):PI X tg (.Call (.Name "range" p) [a] [] pos) (zog ta):=by
 intro pins s σ H R I h
 refine Call_ (qY I hg hm boot_range (laG (thn (ha pos pins s σ H _ I h) λus s1 ⟨vs,H1,I1,r1,q1⟩=>?_) hs rfl))
 obtain⟨j,e,q1,q2,q⟩:=q1
 subst e
 cases r1 with
 | cons r rr =>
  cases rr
  obtain⟨t,rfl⟩:=r
  exact call_range_1 (zfQ I1 (by omega) (by omega) q1 q2 (by simpa using q))
theorem zh2 {a b:Expr}{ta:TA}{p pos:Pos}(hg:Gl X "range")(hm:X.mg "range" = none)(ha:PA X [a,b] ta)(hs:starEach [a,b] X.env=[(false,eval a X.env),(false,eval b X.env)]:=by rfl)(hs2:starEach [b] X.env=[(false,eval b X.env)]:=by rfl) :
  PI X tg (.Call (.Name "range" p) [a,b] [] pos) (znV ta):=by
 intro pins s σ H R I h
 refine Call_ (qY I hg hm boot_range (laG (thn (ha pos pins s σ H _ I h) λus s1 hq12=>?_) (by rw[hs,hs2]) (by rw[hs2];rfl)))
 obtain⟨vs,H1,I1,r1,q1⟩:=hq12
 obtain⟨i,j,e,⟨q1,q2,q3,q4⟩,q⟩:=q1
 subst e
 cases r1 with
 | cons r rr =>
  cases rr with
  | cons r' rr =>
   cases rr
   obtain⟨t,rfl⟩:=r
   obtain⟨t',rfl⟩:=r'
   exact call_range_2 (zfQ I1 q1 q2 q3 q4 q)
def zo0 (wi:TI)(g:TG)(tb:TS):TS:=λD σ H=>wi σ H λJ H1=>∃W:Nat->Nat->St->Hp->Prop,(∃m,W 0 m σ H1)/\∀i m σ H,W i m σ H ->
 (J.stop i H/\D.nx σ H)∨(J.go i H/\∃N:St->Hp->Prop,(∀σ' H',N σ' H'->∃m',m'<m/\W (i+1) m' σ' H')/\∀x H',J.yld i H x H'->g x σ H' λσ2 H2=>tb {D with nx:=N,ct:=N,bk:=D.nx} σ2 H2)
def zbt (fp:List Addr)(h:Heap):List (Addr×Obj):=fp.filterMap λb=>(h.get? b).map λo=>(b,o)
theorem jw {fp:List Addr}{h:Heap}{b:Addr}{o:Obj}(hb:b∈fp)(e:h.get? b=some o):(b,o)∈zbt fp h:=ldv.mpr ⟨b,hb,by rw[e];rfl⟩
theorem zdy {fp:List Addr}{h:Heap}{p:Addr×Obj}(hp:p∈zbt fp h):p.1∈fp/\h.get? p.1=some p.2:=by
 obtain⟨b,hb,e⟩:=ldv.mp hp
 cases q:h.get? b with
 | none=>rw[q] at e;cases e
 | some o =>
  rw[q] at e
  have e':(b,o)=p:=lg e
  subst e'
  exact⟨hb,q⟩
theorem Inv.pinned {pins:List (Addr×Obj)}{σ:St}{H:Hp}{s:Shared}{fp:List Addr}(I:Inv X pins σ H s)(hf:∀b∈fp,zjc X pins H b)(ho:∀b∈fp,∃o,s.heap.get? b=some o/\∀v,o.data≠.cell v):Inv X (pins++zbt fp s.heap) σ H s :=
 I.pins_of λp hp=>(lat.mp hp).elim (λz=>I.pin p (lQ _ z)) λz=>by
  obtain⟨hb,e⟩:=zdy z
  obtain⟨f0,f1,f2,_⟩:=hf p.1 hb
  obtain⟨o,e',d⟩:=ho p.1 hb
  rw[e] at e';cases e'
  exact⟨e,f0,f1,f2,d⟩
theorem Inv.unpinned {pins pl:List (Addr×Obj)}{σ:St}{H:Hp}{s:Shared}(I:Inv X (pins++pl) σ H s):Inv X pins σ H s:=I.pins_of λp hp=>I.pin p (lQ _ (lb2 _ hp))
theorem zki {iter:Expr}{body:List Stmt}{wi:TI}{g:TG}{tb:TS}{pos:Pos}(hp:PassesOwn (model X.prog X.w) X.A X.env X.xe)(hc:X.calm=true)(hi:PI X tg iter wi)(hg:PG X tg g)(hb:PSs X body tb)
  (hs:∀x,foldedSetIterable iter X.env x=pure x:=by intro _;rfl):PS X (.For tg iter body [] pos) (zo0 wi g tb):=by
 intro pins s σ H D I h
 refine wpAny_For (thn (hi pins s σ H _ I h) λv s1 h1=>thn h1 λitv s2 h2=>?_) hs
 obtain⟨it,fp,tn,J,H2,e,I2,T,st2,f2,W,⟨m0,w0⟩,turn⟩:=h2
 subst e
 have stat:∀{H':Hp},(∀b∈fp,H' b=none)->∀b∈fp,zjc X pins H' b:=λhn b hb=>⟨hn b hb,(f2 b hb).2⟩
 refine codeAny_forLoop_any (λn s'=>∃i σ' H',Inv X pins σ' H' s'/\tn i s'.heap/\(∀b∈fp,H' b=none)/\W i n σ' H') ?_ m0 ⟨0,σ,H2,I2,st2,λb hb=>(f2 b hb).1,w0⟩
 rintro n s3 ⟨i,σ3,H3,I3,st3,fr3,w3⟩
 rcases turn i n σ3 H3 w3 with⟨stop,qn⟩|⟨go,N,hN,step⟩
 ·refine lb4 hp (thn (T.done X rfl rfl rfl hc i pins s3 σ3 H3 X.xe I3 (stat fr3) st3 stop) λr s4 hq13=>?_)
  obtain⟨hr,I4⟩:=hq13
  subst hr
  exact ldl ⟨σ3,H3,I4,qn⟩
 ·refine lb4 hp (thn (T.item X rfl rfl rfl hc i pins s3 σ3 H3 X.xe I3 (stat fr3) st3 go) λr s4 hq14=>?_)
  obtain⟨u,hr,h4⟩:=hq14
  subst hr
  refine lb4 hp (thn h4 λ_ s5 hq15=>?_)
  obtain⟨x,H5,I5,r5,y5,st5,fr5⟩:=hq15
  have I5':=I5.pinned (stat fr5) (T.obj _ _ st5)
  refine lb4 hp (thn (hg _ s5 σ3 H5 x u _ I5' r5 (step x H5 y5)) λ_ s6 hq16=>?_)
  obtain⟨σ6,H6,I6,q6⟩:=hq16
  refine lb4 hp (thn (hb _ s6 σ6 H6 _ I6 q6) λf s7 q7=>?_)
  have again:∀{σ7:St}{H7:Hp},Inv X (pins++zbt fp s5.heap) σ7 H7 s7->N σ7 H7->∃m,m<n/\∃i σ' H',Inv X pins σ' H' s7/\tn i s7.heap/\(∀b∈fp,H' b=none)/\W i m σ' H':=λ{σ7 H7} I7 n7=>by
   obtain⟨m',hm,w7⟩:=hN σ7 H7 n7
   refine⟨m',hm,i+1,σ7,H7,I7.unpinned,T.keep _ _ _ st5 λb hb o e=>(I7.pin (b,o) (lQ _ (lQ _ (jw hb e)))).1,λb hb=>?_,w7⟩
   obtain⟨o,e,d⟩:=T.obj _ _ st5 b hb
   exact(I7.pin (b,o) (lQ _ (lQ _ (jw hb e)))).2.1
  cases f with
  | next=>obtain⟨σ7,H7,I7,n7⟩:=q7;exact again I7 n7
  | cont=>obtain⟨σ7,H7,I7,n7⟩:=q7;exact again I7 n7
  | brk=>obtain⟨σ7,H7,I7,q7⟩:=q7;exact⟨σ7,H7,I7.unpinned,q7⟩
  | ret v=>obtain⟨x7,σ7,H7,I7,r7,q7⟩:=q7;exact⟨x7,σ7,H7,I7.unpinned,r7,q7⟩
end
abbrev R2:=V->V->Hp->VK->Prop
def OpR (X:Cx)(f:Value->Value->Sem Value)(r:R2):Prop :=
 ∀ (pins:List (Addr×Obj)) (s:Shared) (σ:St) (H:Hp) (x y:V) (v u:Value) (Q:VK),Inv X pins σ H s->RelV x v->RelV y u->r x y H Q ->
  wpAny (model X.prog X.w) X.A (f v u) (EP X pins σ Q) X.xe s
def UnR (X:Cx)(f:Value->Sem Value)(r:V->Hp->VK->Prop):Prop :=
 ∀ (pins:List (Addr×Obj)) (s:Shared) (σ:St) (H:Hp) (x:V) (v:Value) (Q:VK),Inv X pins σ H s->RelV x v->r x H Q ->
  wpAny (model X.prog X.w) X.A (f v) (EP X pins σ Q) X.xe s
def zaa (X:Cx)(f:Value)(r:List V->Hp->VK->Prop):Prop :=
 ∀ (pins:List (Addr×Obj)) (s:Shared) (σ:St) (H:Hp) (xs:List V) (us:List Value) (Q:VK),Inv X pins σ H s->Vals xs us->r xs H Q ->
  wpAny (model X.prog X.w) X.A (call f us) (EP X pins σ Q) X.xe s
def tOp (r:R2)(ta tb:TE):TE:=λσ H Q=>ta σ H λx H1=>tb σ H1 λy H2=>r x y H2 Q
def tUn (r:V->Hp->VK->Prop)(ta:TE):TE:=λσ H Q=>ta σ H λx H1=>r x H1 Q
def rI (C:Int->Int->Prop)(g:Int->Int->V):R2:=λx y H Q=>∃i j,x=.int i/\y=.int j/\C i j/\Q (g i j) H
def rI0 (g:Int->Int->V):R2:=λx y H Q=>∃i j,x=.int i/\y=.int j/\Q (g i j) H
def rU (g:Int->V):V->Hp->VK->Prop:=λx H Q=>∃i,x=.int i/\Q (g i) H
section
variable {X:Cx}{a b c:Expr}{ta tb tc:TE}{pos:Pos}
theorem zod (ha:PE X a ta)(hb:PE X b tb){pins:List (Addr×Obj)}{s:Shared}{σ:St}{H:Hp}{R:V->V->Hp->Prop}(I:Inv X pins σ H s)
  (h:ta σ H λx H1=>tb σ H1 λy H2=>R x y H2) {Q:Value->Shared->Prop}{f:Value->Value->Sem Value}
  (hf:∀v u s2 x y H2,Inv X pins σ H2 s2->RelV x v->RelV y u->R x y H2->wpAny (model X.prog X.w) X.A (f v u) Q X.xe s2) :
  wpAny (model X.prog X.w) X.A (eval a X.env) (λv s₁=>wpAny (model X.prog X.w) X.A (eval b X.env) (λu s₂=>wpAny (model X.prog X.w) X.A (f v u) Q X.xe s₂) X.xe s₁) X.xe s:=by
 refine thn (ha pins s σ H _ I h) λv s1 hq17=>?_
 obtain⟨x,H1,I1,r1,q1⟩:=hq17
 refine thn (hb pins s1 σ H1 _ I1 q1) λu s2 hq18=>?_
 obtain⟨y,H2,I2,r2,q2⟩:=hq18
 exact hf v u s2 x y H2 I2 r1 r2 q2
theorem zlo {op:Operator}{r:R2}(ho:OpR X (binaryOp op) r)(ha:PE X a ta)(hb:PE X b tb):PE X (.BinOp a op b pos) (tOp r ta tb):=by
 intro pins s σ H Q I h
 exact wpAny_BinOp (zod ha hb I h λv u s2 x y H2 I2 rx ry q=>ho pins s2 σ H2 x y v u Q I2 rx ry q)
theorem zn6 {op:UnaryOp}{r:V->Hp->VK->Prop}(ho:UnR X (unaryOp op) r)(ha:PE X a ta):PE X (.UnaryOp op a pos) (tUn r ta):=by
 intro pins s σ H Q I h
 exact UnaryOp_ (thn (ha pins s σ H _ I h) λv s1 ⟨x,H1,I1,r1,q1⟩=>ho pins s1 σ H1 x v Q I1 r1 q1)
theorem opI {f:Value->Value->Sem Value}{C:Int->Int->Prop}{g:Int->Int->Int}
  (rule:∀(i j:Int) (t u:Tok) (s:Shared) (Q:Value->Shared->Prop) (E:Value->Shared->Prop),C i j->Q (.int (g i j) s.toks) {s with toks:=s.toks+1}->wpAny (model X.prog X.w) X.A (f (.int i t) (.int j u)) Q E s) :
  OpR X f (rI C λi j=>.int (g i j)):=by
 intro pins s σ H x y v u Q I rx ry h
 obtain⟨i,j,rfl,rfl,hc,q⟩:=h
 obtain⟨t,rfl⟩:=rx
 obtain⟨t',rfl⟩:=ry
 exact rule i j t t' s _ _ hc ⟨.int (g i j),H,I.tok _,⟨_,rfl⟩,q⟩
theorem zoS {f:Value->Value->Sem Value}{g:Int->Int->Int}
  (rule:∀(i j:Int) (t u:Tok) (s:Shared) (Q:Value->Shared->Prop) (E:Value->Shared->Prop),Q (.int (g i j) s.toks) {s with toks:=s.toks+1}->wpAny (model X.prog X.w) X.A (f (.int i t) (.int j u)) Q E s) :
  OpR X f (rI0 λi j=>.int (g i j)):=by
 intro pins s σ H x y v u Q I rx ry h
 obtain⟨i,j,rfl,rfl,q⟩:=h
 obtain⟨t,rfl⟩:=rx
 obtain⟨t',rfl⟩:=ry
 exact rule i j t t' s _ _ ⟨.int (g i j),H,I.tok _,⟨_,rfl⟩,q⟩
theorem zn8 {f:Value->Value->Sem Value}{g:Int->Int->Bool}
  (rule:∀(i j:Int) (t u:Tok) (s:Shared) (Q:Value->Shared->Prop) (E:Value->Shared->Prop),Q (.bool (g i j)) s->wpAny (model X.prog X.w) X.A (f (.int i t) (.int j u)) Q E s) :
  OpR X f (rI0 λi j=>.bl (g i j)):=by
 intro pins s σ H x y v u Q I rx ry h
 obtain⟨i,j,rfl,rfl,q⟩:=h
 obtain⟨t,rfl⟩:=rx
 obtain⟨t',rfl⟩:=ry
 exact rule i j t t' s _ _ ⟨.bl (g i j),H,I,rfl,q⟩
def CMul (i j:Int):Prop:=(-(2 ^ 64)<i/\i<2 ^ 64)∨(-(2 ^ 64)<j/\j<2 ^ 64)
theorem CMul.ok {i j:Int}(h:CMul i j):IntMulOk i j:=by
 rcases h with⟨h1,h2⟩|⟨h1,h2⟩
 ·exact .of_left (intBits_le_64 h1 h2)
 ·exact .of_right (intBits_le_64 h1 h2)
theorem w5:OpR X (binaryOp .Add) (rI0 λi j=>.int (i+j)):=zoS λ_ _ _ _ _ _ _ q=>add_int q
theorem zbG:OpR X (binaryOp .Sub) (rI0 λi j=>.int (i - j)):=zoS λ_ _ _ _ _ _ _ q=>sub_int q
theorem zae:OpR X (binaryOp .Mod) (rI (λ_ j=>0<j) λi j=>.int (i % j)):=opI λi j _ _ _ _ _ hc q=>by
 have h1:(0:Int)<j:=hc
 exact mod_int' (by omega) (by rw[Int.fmod_eq_emod_of_nonneg i (by omega)];exact q)
theorem unI {f:Value->Sem Value}{g:Int->Int}
  (rule:∀(i:Int) (t:Tok) (s:Shared) (Q:Value->Shared->Prop) (E:Value->Shared->Prop),Q (.int (g i) s.toks) {s with toks:=s.toks+1}->wpAny (model X.prog X.w) X.A (f (.int i t)) Q E s) :
  UnR X f (rU λi=>.int (g i)):=by
 intro pins s σ H x v Q I rx h
 obtain⟨i,rfl,q⟩:=h
 obtain⟨t,rfl⟩:=rx
 exact rule i t s _ _ ⟨.int (g i),H,I.tok _,⟨_,rfl⟩,q⟩
theorem zm5:UnR X (unaryOp .USub) (rU λi=>.int (-i)):=unI λ_ _ _ _ _ q=>neg_int q
end
section
variable {X:Cx}{a b c:Expr}{ta tb tc:TE}{pos:Pos}
theorem zfH {pins:List (Addr×Obj)}{σ:St}{H:Hp}{s:Shared}{Q:VK}{k k':Bool}(I:Inv X pins σ H s)(q:Q (.bl k) H)(e:k=k'):EP X pins σ Q (.bool k') s:=by
 subst e
 exact⟨.bl k,H,I,rfl,q⟩
theorem zov:OpR X (compareOp .Lt) (rI0 λi j=>.bl (decide (i<j))):=zn8 λ_ _ _ _ _ _ _ q=>lt_int q
theorem zdC:OpR X (compareOp .LtE) (rI0 λi j=>.bl (decide (i<=j))):=zn8 λ_ _ _ _ _ _ _ q=>le_int q
theorem znq:OpR X (compareOp .Gt) (rI0 λi j=>.bl (decide (j<i))):=zn8 λ_ _ _ _ _ _ _ q=>gt_int q
theorem zik:OpR X (compareOp .Lt) (λx y H Q=>∃i j,x=.str i/\y=.str j/\Q (.bl (decide (i.cps.toList<j.cps.toList))) H):=by
 intro pins s σ H x y v u Q I rx ry h
 obtain⟨i,j,rfl,rfl,q⟩:=h
 obtain⟨t,rfl⟩:=rx
 obtain⟨t',rfl⟩:=ry
 exact lt_str (zfH I q rfl)
theorem u9 (b:Expr){op:CmpOp}(h:op≠.In:=by decide)(h2:op≠.NotIn:=by decide):behindInMarks op b=false:=by
 have e1:(op == CmpOp.In)=false:=by cases op <;>first|rfl|exact absurd rfl h
 have e2:(op == CmpOp.NotIn)=false:=by cases op <;>first|rfl|exact absurd rfl h2
 cases b <;>simp[behindInMarks,e1,e2]
theorem zkM {op:CmpOp}{r:R2}(ho:OpR X (compareOp op) r)(ha:PE X a ta)(hb:PE X b tb)(hm:behindInMarks op b=false):PE X (.Compare a [op] [b] pos) (tOp r ta tb):=by
 intro pins s σ H Q I h
 exact wpAny_Compare1 (zod ha hb I h λv u s2 x y H2 I2 rx ry q=>ho pins s2 σ H2 x y v u Q I2 rx ry q) hm
def znb (t:TE):TT:=λσ H Q=>t σ H λx H'=>∃k,x=.bl k/\Q k H'
theorem zlq {op:CmpOp}{r:R2}(ho:OpR X (compareOp op) r)(ha:PE X a ta)(hb:PE X b tb)(hm:behindInMarks op b=false):PT X (.Compare a [op] [b] pos) (znb (tOp r ta tb)):=by
 intro pins s σ H Q I h
 refine wpAny_isTrue_Compare1 (thn (ha pins s σ H _ I h) λv s1 ⟨x,H1,I1,r1,q1⟩=>thn (hb pins s1 σ H1 _ I1 q1) λu s2 ⟨y,H2,I2,r2,q2⟩ =>
  thn (ho pins s2 σ H2 x y v u _ I2 r1 r2 q2) λc s3 ⟨z,H3,I3,r3,k,e,q3⟩=>?_) hm
 subst e
 cases r3
 exact lbg ⟨H3,I3,q3⟩
def zhJ (r r':R2)(ta tb tc:TE):TE:=λσ H Q=>ta σ H λx H1=>tb σ H1 λy H2=>r x y H2 λz H3=>∃k,z=.bl k /\
 (if k=true then tc σ H3 λw' H4=>r' y w' H4 Q else Q (.bl false) H3)
theorem zjH {op op':CmpOp}{r r':R2}(ho:OpR X (compareOp op) r)(ho':OpR X (compareOp op') r')(ha:PE X a ta)(hb:PE X b tb)(hc:PE X c tc)
  (hm:lastMarks [op,op'] [b,c]=false:=by with_unfolding_all rfl):PE X (.Compare a [op,op'] [b,c] pos) (zhJ r r' ta tb tc):=by
 intro pins s σ H Q I h
 refine Compare_chain (thn (ha pins s σ H _ I h) λv s1 ⟨x,H1,I1,r1,q1⟩=>chain_link (thn (hb pins s1 σ H1 _ I1 q1) λu s2 ⟨y,H2,I2,r2,q2⟩ =>
  thn (ho pins s2 σ H2 x y v u _ I2 r1 r2 q2) λd s3 ⟨z,H3,I3,r3,k,e,q3⟩=>?_)) hm
 subst e
 cases r3
 refine lbg ?_
 cases k with
 | false=>exact ite_ff ⟨.bl false,H3,I3,rfl,q3⟩
 | true=>exact ite_tt (chain_last (thn (hc pins s3 σ H3 _ I3 q3) λw' s4 ⟨z',H4,I4,r4,q4⟩=>ho' pins s4 σ H4 y z' u w' Q I4 r2 r4 q4))
theorem zi4 {op op':CmpOp}{r r':R2}(ho:OpR X (compareOp op) r)(ho':OpR X (compareOp op') r')(ha:PE X a ta)(hb:PE X b tb)(hc:PE X c tc)
  (hm:lastMarks [op,op'] [b,c]=false:=by with_unfolding_all rfl):PT X (.Compare a [op,op'] [b,c] pos) (znb (zhJ r r' ta tb tc)):=by
 intro pins s σ H Q I h
 refine isTrue_chain (thn (ha pins s σ H _ I h) λv s1 ⟨x,H1,I1,r1,q1⟩=>test_link (thn (hb pins s1 σ H1 _ I1 q1) λu s2 ⟨y,H2,I2,r2,q2⟩ =>
  thn (ho pins s2 σ H2 x y v u _ I2 r1 r2 q2) λd s3 ⟨z,H3,I3,r3,k,e,q3⟩=>?_)) hm
 subst e
 cases r3
 refine lbg ?_
 cases k with
 | false =>
  obtain⟨k',e',q'⟩:=q3
  cases e'
  exact ite_ff ⟨H3,I3,q'⟩
 | true =>
  refine ite_tt (test_last (thn (hc pins s3 σ H3 _ I3 q3) λw' s4 ⟨z',H4,I4,r4,q4⟩=>thn (ho' pins s4 σ H4 y z' u w' _ I4 r2 r4 q4) λd' s5 hq19=>?_))
  obtain⟨z2,H5,I5,r5,k2,e2,q5⟩:=hq19
  subst e2
  cases r5
  exact lbg ⟨H5,I5,q5⟩
theorem zf2:(sizeLine:Nat)<2 ^ 63:=by rw[laP];decide
theorem zgC:OpR X (binaryOp .Add) (λx y H Q=>∃i j,x=.str i/\y=.str j/\i.length+j.length<=sizeLine/\Q (.str (i++j)) H):=by
 intro pins s σ H x y v u Q I rx ry h
 obtain⟨i,j,rfl,rfl,hz,q⟩:=h
 obtain⟨t,rfl⟩:=rx
 obtain⟨t',rfl⟩:=ry
 exact add_str (λt' tk=>⟨.str (i++j),H,I.tok _,⟨_,rfl⟩,q⟩) hz
theorem vals1 {x:V}{us:List Value}(r:Vals [x] us):∃u,us=[u]/\RelV x u:=by
 cases r with
 | cons r1 r2=>cases r2;exact⟨_,rfl,r1⟩
theorem vals2 {x y:V}{us:List Value}(r:Vals [x,y] us):∃u w',us=[u,w']/\RelV x u/\RelV y w':=by
 cases r with
 | cons r1 r2 =>
  cases r2 with
  | cons r3 r4=>cases r4;exact⟨_,_,rfl,r1,r3⟩
def zox (K:PySem.W.Frag)(x:V)(H:Hp)(n:Nat):Prop :=
 match x with
 | .str y=>y.length<=sizeLine/\n=y.length
 | .byt y=>y.size<=sizeLine/\n=y.size
 | .ref p=>(∃xs,SqL K H p xs/\n=xs.length)∨∃xs,SqT K H p xs/\n=xs.length
 | _=>False
theorem yJ:zaa X (.builtin "len") (λxs H Q=>∃x n,xs=[x]/\zox X.K x H n/\Q (.int n) H):=by
 intro pins s σ H xs us Q I r h
 obtain⟨x,n,rfl,e,q⟩:=h
 obtain⟨u,rfl,rx⟩:=vals1 r
 have hl:=zf2
 have hs:sizeLine=16777216:=laP
 cases x with
 | str y =>
  obtain⟨t,rfl⟩:=rx
  obtain⟨hy,e'⟩:y.length<=sizeLine/\n=y.length:=e
  subst e'
  exact len_str (by omega) ⟨.int _,H,I.tok _,⟨_,rfl⟩,q⟩
 | byt y =>
  obtain⟨t,rfl⟩:=rx
  obtain⟨hy,e'⟩:y.size<=sizeLine/\n=y.size:=e
  subst e'
  exact PySem.W.len_bytes (by omega) ⟨.int _,H,I.tok _,⟨_,rfl⟩,q⟩
 | ref p =>
  cases rx
  have e':(∃xs,SqL X.K H p xs/\n=xs.length)∨∃xs,SqT X.K H p xs/\n=xs.length:=e
  rcases e' with⟨xs,hx,e'⟩|⟨xs,hx,e'⟩
  ·subst e'
   obtain⟨its,r',pl,hz⟩:=I.list hx
   have hlen:=r'.length
   exact Calls.call_len_list pl.isList (by simp only[lF];omega) ⟨.int xs.length,H,I.tok _,⟨_,by simp only[lF];rw[hlen]⟩,q⟩
  ·subst e'
   obtain⟨its,r',pl,hz⟩:=I.tuple hx
   have hlen:=r'.length
   exact len_tuple pl (by simp only[lF];omega) ⟨.int xs.length,H,I.tok _,⟨_,by simp only[lF];rw[hlen]⟩,q⟩
 | _=>exact(show False from e).elim
end
section
variable {prog:Program}{w:World}{A:Around}{E:Value->Shared->Prop}{s:Shared}{K:PySem.W.Frag}{x dx C f:Addr}{mA:Str->Option Value}{name:Str}{v:Value}
end
theorem RelO.some_of {v:V}{o:Option Value}(r:RelO (some v) o):∃u,o=some u/\RelV v u:=by
 cases o with
 | none=>exact(show False from r).elim
 | some u=>exact⟨u,rfl,r⟩
structure Cls (K:PySem.W.Frag)(C:Addr):Prop where
 pg:PySem.W.plainGet K C Str.empty=true
 hd:PySem.W.hasDictIn K C=true
 po:PySem.W.plainOver K C=true
 sa:PySem.W.findIn K (.ref C) "__setattr__" = some (some (.builtin "object.__setattr__"))
theorem Cls.get {K:PySem.W.Frag}{C:Addr}(c:Cls K C)(f:Str):PySem.W.plainGet K C f=true:=c.pg
section
variable {X:Cx}{pins:List (Addr×Obj)}{σ:St}{H:Hp}{s:Shared}{a C dx:Addr}{fs:List (Str×V)}{f:Str}{v:V}{A:Around}{E:Value->Shared->Prop}
end
structure Room (k:Nat)(A:Around):Prop where
 hd:A.handled=none
 dp:A.depth+3*k+5<recursionLimit
 un:A.units+16*k+200<cLine
theorem Room.mono {j k:Nat}{A:Around}(r:Room k A)(h:j<=k):Room j A:=⟨r.hd,by have:=r.dp;omega,by have:=r.un;omega⟩
theorem Room.deeper {k:Nat}{A:Around}(r:Room (k+1) A)(env:Env):Room k (A.deeper env) :=
 ⟨r.hd,by have:=r.dp;show A.depth+1+3*k+5<_;omega,by have:=r.un;show A.units+3+16*k+200<_;omega⟩
theorem Room.in1 {k:Nat}{A:Around}(r:Room (k+1) A):Room k A.in1 :=
 ⟨r.hd,by have:=r.dp;show A.depth+3*k+5<_;omega,by have:=r.un;show A.units+1+16*k+200<_;omega⟩
theorem Room.depth {k:Nat}{A:Around}(r:Room k A):A.depth<recursionLimit:=by have:=r.dp;omega
theorem Room.units {k:Nat}{A:Around}(r:Room k A):A.units+64<cLine:=by have:=r.un;omega
def zj4:TA:=λ_ H Q=>Q [] H
def jV (ta:TE)(tr:TA):TA:=λσ H Q=>ta σ H λx H1=>tr σ H1 λxs H2=>Q (x::xs) H2
section
variable {X:Cx}{e:Expr}{es:List Expr}{te:TE}{t:TA}{pos:Pos}
theorem qO:PA X [] zj4:=λ_ _ _ _ H Q I h=>Calls.spliced_nil ⟨[],H,I,.nil,h⟩
theorem xO (ha:PE X e te)(hr:PA X es t)(hs:starEach (e::es) X.env=(false,eval e X.env)::starEach es X.env:=by rfl):PA X (e::es) (jV te t):=by
 intro pos pins s σ H Q I h
 rw[hs]
 show wpAny _ _ (spliced ((false,eval e X.env)::backTo pos (starEach es X.env))) _ _ s
 refine lcS (thn (ha pins s σ H _ I h) λu s1 hq20=>?_)
 obtain⟨x,H1,I1,r1,q1⟩:=hq20
 exact thn (hr pos pins s1 σ H1 _ I1 q1) λus s2 ⟨xs,H2,I2,r2,q2⟩=>⟨x::xs,H2,I2,.cons r1 r2,q2⟩
def zpp (t:TA):TE:=λσ H Q=>t σ H λxs H1=>xs.length<=sizeLine/\∀p,H1 p=none->Q (.ref p) (upd H1 p (.tup xs))
def zpn (t:TA):TE:=λσ H Q=>t σ H λxs H1=>xs.length<=sizeLine/\∀p,H1 p=none->Q (.ref p) (upd H1 p (.lst xs))
theorem zmO {x1}(h:PA X es t):PE X (.Tuple es x1 pos) (zpp t):=by
 intro pins s σ H Q I hq
 refine wpAny_Tuple_spliced (thn (h pos pins s σ H _ I hq) λus s1 ⟨xs,H1,I1,r,z,q⟩=>⟨by rw[← r.length];exact z,?_⟩)
 have hf:H1 s1.heap.objs.size=none:=I1.hok.fresh (lr _)
 refine⟨.ref s1.heap.objs.size,upd H1 s1.heap.objs.size (.tup xs),I1.laid (t':=s1.toks) (λb u e=>lb _ e) (lr _) ?_,rfl,q _ hf⟩
 exact⟨z,us,r,TupD.new _ _⟩
theorem zjM (h:PA X es t):PE X (.List es pos) (zpn t):=by
 intro pins s σ H Q I hq
 refine wpAny_List_spliced (thn (h pos pins s σ H _ I hq) λus s1 ⟨xs,H1,I1,r,z,q⟩=>⟨by rw[← r.length];exact z,?_⟩)
 have hf:H1 s1.heap.objs.size=none:=I1.hok.fresh (lr _)
 refine⟨.ref s1.heap.objs.size,upd H1 s1.heap.objs.size (.lst xs),I1.laid (t':=s1.toks) (λb u e=>lb _ e) (lr _) ?_,rfl,q _ hf⟩
 exact⟨z,us,0,r,lj _ rfl⟩
end
abbrev Sp:=List V->Hp->VK->XK->Prop
abbrev CXT:=List Env->Hp->Shared->XK->Value->Shared->Prop
structure Env0 (P:Program)(w:World)(K:PySem.W.Frag)(mg:Str->Option Value)(base:Heap)(A:Around)(outer:List Env)(s:Shared)(H:Hp):Prop where
 frames:A.frames=some outer
 mod:Mod K mg base
 bs:∀b o,base.get? b=some o->s.heap.get? b=some o/\H b=none
 bsz:base.objs.size<=s.heap.objs.size
 funs:s.heap.FunFrames base outer
 frf:∀b∈frs outer,H b=none
 hok:HOk P w H s.heap
 bare:AllBare s.gens
def CE (outer:List Env)(P:Program)(w:World)(H:Hp)(s:Shared)(Q:VK)(u:Value)(s':Shared):Prop :=
 ∃v H',s'.os=s.os/\AllBare s'.gens/\Un (frs outer) [] H H' s.heap s'.heap/\HOk P w H' s'.heap/\RelV v u/\Q v H'
def CR (CX:CXT)(outer:List Env)(P:Program)(w:World)(H:Hp)(s:Shared)(Q:VK)(E:XK)(r:Result)(s':Shared):Prop :=
 match r with
 | .ok (.ret u)=>CE outer P w H s Q u s'
 | .ok _=>False
 | .error e=>CX outer H s E e s'
structure FnOk (P:Program)(w:World)(K:PySem.W.Frag)(mg:Str->Option Value)(base:Heap)(CX:CXT)(k:Nat)(f:Addr)(fd:FuncData)(ps:List Str)(sp:Sp):Prop where
 len:∀vs H Q E,sp vs H Q E->vs.length=ps.length
 run:∀(A:Around) (outer:List Env) (s:Shared) (H:Hp) (args:Args) (us:List Value) (vs:List V) (Q:VK) (E:XK),Room k A->Env0 P w K mg base A outer s H->BindsTo s fd args (ps.zip us)->Vals vs us->sp vs H Q E ->
  codeAny (model P w) A (.call (.ref f) args) (CR CX outer P w H s Q E) s
theorem FnOk.mono {P:Program}{w:World}{K:PySem.W.Frag}{mg:Str->Option Value}{base:Heap}{CX:CXT}{j k:Nat}{f:Addr}{fd:FuncData}{ps:List Str}{sp:Sp}(F:FnOk P w K mg base CX j f fd ps sp)(h:j<=k) :
  FnOk P w K mg base CX k f fd ps sp:=⟨F.len,λA outer s H args us vs Q E hr=>F.run A outer s H args us vs Q E (hr.mono h)⟩
theorem Env0.in1 {P:Program}{w:World}{K:PySem.W.Frag}{mg:Str->Option Value}{base:Heap}{A:Around}{outer:List Env}{s:Shared}{H:Hp}(e:Env0 P w K mg base A outer s H) :
  Env0 P w K mg base A.in1 outer s H:=⟨e.frames,e.mod,e.bs,e.bsz,e.funs,e.frf,e.hok,e.bare⟩
section
variable {X:Cx}{pins:List (Addr×Obj)}{σ:St}{H:Hp}{s s':Shared}
theorem Inv.env0 (I:Inv X pins σ H s):Env0 X.prog X.w X.K X.mg X.base X.A X.stack s H :=
 ⟨I.ok.frames,I.ok.mod,I.bs,laj I.ok.bsz I.sz,I.stack,I.stkFree,I.hok,I.bare⟩
theorem Inv.after {Q:VK}{u:Value}(I:Inv X pins σ H s)(h:CE X.stack X.prog X.w H s Q u s'):EP X pins σ Q u s':=by
 obtain⟨v,H',os,bare,un,hok,r,q⟩:=h
 obtain⟨hh,g,d,t,os'⟩:=s'
 obtain rfl:os'=s.os:=os
 exact⟨v,H',I.call (h':=hh) (g':=g) (d':=d) (t':=t) (ch:=[]) un hok bare (λb z=>absurd z (by simp)),r,q⟩
end
def zob (sp:Sp)(dvs:List V)(E:XK)(t:TA):TE:=λσ H Q=>t σ H λvs H1=>sp (vs++dvs) H1 Q E
def Binds (K:PySem.W.Frag)(fd:FuncData)(ps:List Str)(ds:List Value):Prop :=
 ∀(s:Shared) (us:List Value),K.In s.heap->(us++ds).length=ps.length->BindsTo s fd ⟨us,[]⟩ (ps.zip (us++ds))
theorem Binds.all {K:PySem.W.Frag}{fd:FuncData}{ps:List Str}(h:∀us:List Value,us.length=ps.length->bindArgs fd ⟨us,[]⟩=pure (ps.zip us)):Binds K fd ps []:=λs us _ hl=>by
 rw[lal] at hl ⊢
 exact .of_eq (h us hl)
def zcf (CX:CXT)(X:Cx)(E:XK):Prop:=∀(pins:List (Addr×Obj)) (σ:St) (H:Hp) (s:Shared) (e:Value) (s':Shared),Inv X pins σ H s->CX X.stack H s E e s'->X.xe e s'
section
variable {X:Cx}{CX:CXT}{k:Nat}{f C:Addr}{fd:FuncData}{ps:List Str}{sp:Sp}{dvs:List V}{ds:List Value}{E:XK}{x m:Str}{p pos apos:Pos}{e o:Expr}{es:List Expr}{ta:TE}{t:TA}
theorem znd {pins:List (Addr×Obj)}{σ:St}{H:Hp}{s:Shared}{Q:VK}{us:List Value}{vs:List V}(F:FnOk X.prog X.w X.K X.mg X.base CX k f fd ps sp)(hr:Room k X.A)(hb:Binds X.K fd ps ds)(hd:Vals dvs ds)(hx:zcf CX X E)
  (I:Inv X pins σ H s) (r:Vals vs us) (h:sp (vs++dvs) H Q E):wpAny (model X.prog X.w) X.A (call (.ref f) us) (EP X pins σ Q) X.xe s:=by
 have r2:Vals (vs++dvs) (us++ds):=r.append hd
 have hl:(us++ds).length=ps.length:=by rw[← r2.length];exact F.len _ _ _ _ h
 refine wpAny_call (lcK (F.run X.A X.stack s H ⟨us,[]⟩ (us++ds) (vs++dvs) Q E hr I.env0 (hb s us I.kIn hl) r2 h) λr s' hq=>?_)
 cases r with
 | error e=>exact hx pins σ H s e s' I hq
 | ok fl =>
  cases fl with
  | ret u=>exact I.after hq
  | next=>exact False.elim hq
  | brk=>exact False.elim hq
  | cont=>exact False.elim hq
theorem zg4 (F:FnOk X.prog X.w X.K X.mg X.base CX k f fd ps sp)(hr:Room k X.A)(hg:Gl X x)(hm:X.mg x=some (.ref f))(hk:PySem.W.keepIn X.K (.ref f)=true)(hb:Binds X.K fd ps ds)(hd:Vals dvs ds)(hx:zcf CX X E)
  (ha:PA X (e::es) t) (hdb:(x == ("__debug__" : Str))=false:=by decide) (he:starEach (e::es) X.env=(false,eval e X.env)::starEach es X.env:=by rfl) (hpl:(backTo pos (starEach es X.env)).any (·.1)=false:=by rfl) :
  PE X (.Call (.Name x p) (e::es) [] pos) (zob sp dvs E t):=by
 intro pins s σ H Q I h
 refine lbk (zeA I hg hm ?_ hdb)
 refine PySem.W.callWith_K (h₀:=X.base) I.ok.mod.kin hk (thn (ha pos pins s σ H _ I h) λus s1 ⟨vs,H1,I1,r,q⟩=>⟨I1.kIn,?_⟩) he hpl
 exact znd F hr hb hd hx I1 r q
end
structure FnScope (N P:List Str)(sc:Scope):Prop where
 kind:sc.kind=.function
 co:sc.isCoroutine=false
 gen:sc.isGenerator=false
 nd:N.Nodup
 pre:N.take P.length=P
 par:∀x∈P,sc.names.lookup x=some .local∨sc.names.lookup x=some .cell
 nofree:∀y∈sc.names,y.2≠.free
theorem zdO {kindOf:Str->Option NameKind}{x:Str}:∀{binds:List (Str×Value)}{m:Str->Option Value},(∀v,(x,v)∉binds)->bindL kindOf binds m x=m x
 | [],_,_=>rfl
 | (n,v)::r,m,h=>by
  unfold bindL
  rw[zdO λw hw=>h w (lM _ hw)]
  split
  ·have:x≠n:=by rintro rfl;exact h v lac
   simp[this]
  ·rfl
theorem zd5 {kindOf:Str->Option NameKind}{x:Str}:∀{binds:List (Str×Value)}{m:Str->Option Value},(∀v,(x,v)∉binds)->bindC kindOf binds m x=m x
 | [],_,_=>rfl
 | (n,v)::r,m,h=>by
  unfold bindC
  rw[zd5 λw hw=>h w (lM _ hw)]
  split
  ·rfl
  ·have:x≠n:=by rintro rfl;exact h v lac
   simp[this]
theorem zec {kindOf:Str->Option NameKind}{x:Str}{v:Value}:∀{P:List Str}{vs:List Value}{i:Nat}{m:Str->Option Value},P.Nodup->P[i]? = some x->vs[i]? = some v->kindOf x=some .local ->
  bindL kindOf (P.zip vs) m x=some v
 | [],_,_,_,_,h,_,_=>by simp at h
 | _::_,[],_,_,_,_,h,_=>by simp at h
 | p::P,w::vs,0,m,nd,h1,h2,hk=>by
  simp at h1 h2;subst h1;subst h2
  show bindL kindOf ((p,w)::P.zip vs) m p=_
  unfold bindL
  rw[zdO λv hv=>(lbQ.mp nd).1 (lcT hv).1,lH hk]
  simp
 | p::P,w::vs,i+1,m,nd,h1,h2,hk=>by
  show bindL kindOf ((p,w)::P.zip vs) m x=_
  unfold bindL
  exact zec (i:=i) (lbQ.mp nd).2 (by simpa using h1) (by simpa using h2) hk
theorem zdB {kindOf:Str->Option NameKind}{x:Str}{v:Value}:∀{P:List Str}{vs:List Value}{i:Nat}{m:Str->Option Value},P.Nodup->P[i]? = some x->vs[i]? = some v->kindOf x≠some .local ->
  bindC kindOf (P.zip vs) m x=some v
 | [],_,_,_,_,h,_,_=>by simp at h
 | _::_,[],_,_,_,_,h,_=>by simp at h
 | p::P,w::vs,0,m,nd,h1,h2,hk=>by
  simp at h1 h2;subst h1;subst h2
  show bindC kindOf ((p,w)::P.zip vs) m p=_
  unfold bindC
  rw[zd5 λv hv=>(lbQ.mp nd).1 (lcT hv).1,lap hk]
  simp
 | p::P,w::vs,i+1,m,nd,h1,h2,hk=>by
  show bindC kindOf ((p,w)::P.zip vs) m x=_
  unfold bindC
  exact zdB (i:=i) (lbQ.mp nd).2 (by simpa using h1) (by simpa using h2) hk
def start (N:List Str)(vs:List V):St:=vs.map some++List.replicate (N.length - vs.length) none
def zaX (CX:CXT)(P:Program)(w:World)(K:PySem.W.Frag)(mg:Str->Option Value)(base:Heap)(N:List Str)(qual:Str)(scope:Scope)(f:Addr)(cd:Value)(A:Around)(outer:List Env)(s:Shared)(H:Hp)(E:XK):Cx where
 prog:=P
 w:=w
 K:=K
 mg:=mg
 base:=base
 A:=A.deeper (envOfC qual scope s.heap.objs.size f cd)
 N:=N
 s₀:=s
 H₀:=H
 env:=envOfC qual scope s.heap.objs.size f cd
 outer:=outer
 stack:=envOfC qual scope s.heap.objs.size f cd::outer
 ex:=[]
 calm:=true
 fn:=λ_=>true
 pn:=[]
 xe:=λe s'=>wpAny (model P w) (A.deeper (envOfC qual scope s.heap.objs.size f cd)) (leaving (envOfC qual scope s.heap.objs.size f cd) e) (λ_ s''=>CX outer H s E e s'') (λe' s''=>CX outer H s E e' s'') s'
theorem zbl {sc:Scope}{n:Nat}{x:Str}(h:sc.names.lookup x=some .cell):∃c,(cellsFrom n sc.names []).lookup x=some c:=by
 have q:=PySem.W.cellsFrom_some sc.names n [] (.inl h)
 exact Option.isSome_iff_exists.mp q
theorem zg8 {CX:CXT}{P:Program}{w:World}{K:PySem.W.Frag}{mg:Str->Option Value}{base:Heap}{N ps:List Str}{qual:Str}{scope:Scope}{f:Addr}{cd:Value}{A:Around}{outer:List Env}{s s1:Shared}{H:Hp}{E:XK}{us:List Value}{vs:List V}
  (S:FnScope N ps scope) (hd:A.handled=none) (e0:Env0 P w K mg base A outer s H) (hl:vs.length=ps.length) (r:Vals vs us)
  (x:InCallC s s.heap.objs.size (bindL (envOfC qual scope s.heap.objs.size f cd).kindOf (ps.zip us) λ_=>none) (cellsFrom (s.heap.objs.size+1) scope.names []) (bindC (envOfC qual scope s.heap.objs.size f cd).kindOf (ps.zip us) λ_=>none) s1) :
  Inv (zaX CX P w K mg base N qual scope f cd A outer s H E) [] (start N vs) H s1:=by
 have hpl:ps.length<=N.length:=by have:=lbj List.length S.pre;rw[lae] at this;omega
 obtain⟨h1,tk,rfl,hk⟩:=x.done
 have noA:∀b:Addr,b∉(zaX CX P w K mg base N qual scope f cd A outer s H E).ex:=λb z=>absurd (show b∈([]:List Addr) from z) (by simp)
 refine ⟨⟨e0.mod,S.kind,rfl,rfl,lr _,λy z c h1 h2=>?_,λy hy=>?_,λy c _ h=>?_,λ_=>hd,Around.frames_deeper e0.frames,.inr ⟨rfl,rfl⟩,λb z=>absurd z (noA b),e0.bs,e0.bsz,λb _ _=>noA b,λb z=>absurd z (noA b),e0.funs,e0.frf⟩,
  rfl,e0.bare,Un.kept hk,⟨_,x.toInCall.ns,λi y v h1 h2 h3=>?_⟩,λy c h=>⟨_,x.cell y c h⟩,e0.hok.fresh (lr _),λy c h=>?_,λp hp=>absurd (show p∈([]:List (Addr×Obj)) from hp) (by simp),e0.hok.kept hk,?_⟩
 ·exact name_of_addr x.apart (laA h1) (laA h2)
 ·have hy:scope.names.lookup y=some .cell∨scope.names.lookup y=some .free:=hy
  rcases hy with hy|hy
  ·exact zbl hy
  ·exact absurd rfl (S.nofree _ (laA hy))
 ·exact ld6 (x.above y c (laA h))
 ·have hi:i<vs.length:=by
   unfold start at h2
   by_cases hi:i<vs.length
   ·exact hi
   ·rw[laE (by simpa using hi)] at h2
    rw[la1] at h2
    split at h2 <;>cases h2
  have ha:vs[i]? = some v:=by
   unfold start at h2
   rw[laQ (by simpa using hi),lT] at h2
   cases e:vs[i]? with
   | none=>rw[e] at h2;cases h2
   | some a=>rw[e] at h2;cases h2;rfl
  obtain⟨u,hu,rv⟩:=r.get ha
  have hp:ps[i]? = some y:=by
   rw[← S.pre,List.getElem?_take_of_lt (by omega)];exact h1
  have ndP:ps.Nodup:=by rw[← S.pre];exact S.nd.sublist (lc5 _ _)
  refine⟨u,rv,?_⟩
  rcases S.par y (laU hp) with k|k
  ·exact .inl ⟨k,zec ndP hp hu k⟩
  ·obtain⟨c,e⟩:=zbl (n:=s.heap.objs.size+1) k
   refine .inr ⟨.inl k,c,e,?_⟩
   have q:=x.cell y c e
   rw[zdB ndP hp hu (by show scope.names.lookup y≠_;rw[k];decide)] at q
   exact q
 ·exact e0.hok.fresh (ld6 (x.above y c (laA h)))
 ·unfold start
  show _=N.length
  rw[lG,lh,lX]
  omega
theorem zm2 {CX:CXT}{P:Program}{w:World}{K:PySem.W.Frag}{mg:Str->Option Value}{base:Heap}{k:Nat}{f:Addr}{name qual:Str}{params:Arguments}{body:List Stmt}{scope:Scope}{dV kV doc pm cdv ct oc:Value}{an od:Option Addr}
  {osl:Array (Option Value)}{N ps:List Str}{sp:Sp} (lk:K.lookup f=some ⟨oc,od,.func (PySem.W.fnOf name qual params body scope dV kV doc pm an cdv ct),osl⟩) (hcd:PySem.W.codeIn K cdv qual=true) (S:FnScope N ps scope)
  (len:∀vs H Q E,sp vs H Q E->vs.length=ps.length)
  (hbody:∀(A:Around) (outer:List Env) (s:Shared) (H:Hp) (vs:List V) (Q:VK) (E:XK),Room k (A.deeper (envOfC qual scope s.heap.objs.size f cdv))->sp vs H Q E ->
   ∃t,PSs (zaX CX P w K mg base N qual scope f cdv A outer s H E) body t/\t {nx:=λ_ H'=>Q .non H',rt:=Q} (start N vs) H) :
  FnOk P w K mg base CX (k+1) f (PySem.W.fnOf name qual params body scope dV kV doc pm an cdv ct) ps sp:=by
 refine⟨len,λA outer s H args us vs Q E hr e0 hb r hsp=>?_⟩
 have hl:=len _ _ _ _ hsp
 have KX:K.In s.heap:=e0.mod.kin.keeps λb o e=>(e0.bs b o e).1
 have lim:s.heap.NoLimit:=e0.mod.nolimit.keeps λb o e=>(e0.bs b o e).1
 have hkind:∀y∈ps.zip us,scope.names.lookup y.1=some .local∨(scope.names.lookup y.1=some .cell/\((cellsFrom (s.heap.objs.size+1) scope.names []).lookup y.1).isSome=true):=λ⟨n,v⟩ hy=>by
  rcases S.par n (lcT hy).1 with q|q
  ·exact .inl q
  ·exact .inr ⟨q,PySem.W.cellsFrom_some _ _ _ (.inl q)⟩
 refine codeAny_call_function hr.depth (KX _ _ lk) rfl S.co S.gen rfl (PySem.W.codeRec_of KX hcd) (hb _ _ _ _ ?_)
 refine wpAny_newFunctionEnv_cells S.kind hkind λenv he s1 x=>?_
 subst he
 refine⟨lim.keeps x.toInCall.keep,codeAny_func ?_⟩
 obtain⟨t,ht,hq⟩:=hbody A outer s H vs Q E (hr.deeper _) hsp
 have I:Inv (zaX CX P w K mg base N qual scope f cdv A outer s H E) [] (start N vs) H s1:=zg8 S hr.hd e0 hl r x
 refine lbm (ht [] s1 (start N vs) H _ I hq) (λfl s' hs=>?_) λe s' hs=>hs
 have fin:∀{σ':St}{H':Hp}{v:V}{u:Value},Inv (zaX CX P w K mg base N qual scope f cdv A outer s H E) [] σ' H' s'->RelV v u->Q v H'->CE outer P w H s Q u s' :=
  λ{σ' H' v u} J rv q=>⟨v,H',J.os,J.bare,J.base,J.hok,rv,q⟩
 cases fl with
 | ret u =>
  obtain⟨v,σ',H',J,rv,q⟩:=hs
  exact fin J rv q
 | next =>
  obtain⟨σ',H',J,q⟩:=hs
  exact fin (v:=V.non) (u:=Value.none) J rfl q
 | brk =>
  obtain⟨_,_,_,q⟩:=hs
  exact False.elim q
 | cont =>
  obtain⟨_,_,_,q⟩:=hs
  exact False.elim q
section
variable {X:Cx}{x:Str}{p pos:Pos}{e:Expr}{es:List Expr}{t:TA}{id T:String}{r:List V->Hp->VK->Prop}
def tCB (r:List V->Hp->VK->Prop)(t:TA):TE:=λσ H Q=>t σ H λvs H1=>r vs H1 Q
theorem zbi (hc:zaa X (.builtin id) r)(hg:Gl X x)(hm:X.mg x=none)(hv:bootBuiltins x=some (.builtin id))(ha:PA X (e::es) t)(hn:x ≠ "__name__" := by decide)(hdb:(x == ("__debug__" : Str))=false:=by decide)
  (he:starEach (e::es) X.env=(false,eval e X.env)::starEach es X.env:=by rfl) (hpl:(backTo pos (starEach es X.env)).any (·.1)=false:=by rfl):PE X (.Call (.Name x p) (e::es) [] pos) (tCB r t):=by
 intro pins s σ H Q I h
 refine lbk (qY I hg hm hv ?_ hn hdb)
 exact PyProof.Rows.callWith_builtin1 (thn (ha pos pins s σ H _ I h) λus s1 ⟨vs,H1,I1,r1,q1⟩=>hc pins s1 σ H1 vs us Q I1 r1 q1) he hpl
theorem zhu (hc:zaa X (.type T) r)(hg:Gl X x)(hm:X.mg x=none)(hv:bootBuiltins x=some (.type T))(ha:PA X (e::es) t)(hn:x ≠ "__name__" := by decide)(hdb:(x == ("__debug__" : Str))=false:=by decide)
  (he:starEach (e::es) X.env=(false,eval e X.env)::starEach es X.env:=by rfl) (hpl:(backTo pos (starEach es X.env)).any (·.1)=false:=by rfl):PE X (.Call (.Name x p) (e::es) [] pos) (tCB r t):=by
 intro pins s σ H Q I h
 refine lbk (qY I hg hm hv ?_ hn hdb)
 exact laG (thn (ha pos pins s σ H _ I h) λus s1 ⟨vs,H1,I1,r1,q1⟩=>hc pins s1 σ H1 vs us Q I1 r1 q1) he hpl
end
end L2
namespace HT
open PySem PyProof.Rows
section
open PySem.SeqAt
open PySem.AutoSeq1 (wpAny_loadPart')
open PySem.MeetsSeq PySem.MeetsSeq2 PySem.MeetsSeq3
end
section
variable {prog:Program}{w:World}{A:Around}{E:Value->Shared->Prop}{s:Shared}
theorem cat_tup {t b:Addr}{vs ws:List Value}{Q:Value->Shared->Prop}(ht:IsTup s.heap t vs.toArray)(hb:IsTup s.heap b ws.toArray)(hv:vs≠[])
  (h1:ws=[]->Q (.ref t) s) (h2:ws≠[]->Q (.ref s.heap.objs.size) {s with heap:=s.heap.push {cls:=.type "tuple", data:=.seq (vs++ws).toArray} })
  (hsz:vs.length+ws.length<=sizeLine):wpAny (model prog w) A (binaryOp .Add (.ref t) (.ref b)) Q E s:=by
 obtain⟨⟨cls,dd,data,sl⟩,ho,hc,n,hd⟩:=id ht
 obtain⟨⟨cls2,dd2,data2,sl2⟩,ho2,hc2,n2,hd2⟩:=id hb
 simp only at hc hd hc2 hd2
 subst hc hd hc2 hd2
 have e:vs.toArray++ws.toArray=(vs++ws).toArray:=by simp
 by_cases hw:ws=[]
 ·exact ld7 ⟨_,ho,rfl⟩ ⟨_,ho2,rfl⟩ ldW seq_tuple_add lc3 lcU (lcL _ _)
   (tuple_addW1 t b vs.toArray ws.toArray n n2 dd dd2 sl sl2 (by simpa using hv) (by simp[hw])) ⟨ho,ho2,h1 hw⟩
 ·refine ld7 ⟨_,ho,rfl⟩ ⟨_,ho2,rfl⟩ ldW seq_tuple_add lc3 lcU (lcL _ _)
   (tuple_addW2 t b vs.toArray ws.toArray n n2 dd dd2 sl sl2 (by simpa using hv) (by simpa using hw) (by rw[lF,lF];exact hsz)) ⟨ho,ho2,?_⟩
  rw[e]
  exact h2 hw
def sIx (n d:Nat):Option Int->Nat
 | none=>d
 | some v=>if v<0 then(v+(n:Int)).toNat else min v.toNat n
theorem sIx_none (n d:Nat):sIx n d none=d:=rfl
theorem sIx_nat (n d k:Nat):sIx n d (some (k:Int))=min k n:=by
 show(if (k:Int)<0 then((k:Int)+(n:Int)).toNat else min (k:Int).toNat n)=min k n
 rw[lap (by omega),laK]
theorem sIx_le (n d:Nat)(hd:d<=n)(o:Option Int):sIx n d o<=n:=by
 cases o with
 | none=>exact hd
 | some v =>
  show(if v<0 then(v+(n:Int)).toNat else min v.toNat n)<=n
  by_cases hv:v<0
  ·rw[lH hv];omega
  ·rw[lap hv];exact ldX _ _
theorem zhI (v:Int)(n d:Nat):(if v<0 then max (v+(n:Int)) 0 else min v (n:Int))=((sIx n d (some v):Nat):Int):=by
 show(if v<0 then max (v+(n:Int)) 0 else min v (n:Int))=(((if v<0 then(v+(n:Int)).toNat else min v.toNat n):Nat):Int)
 by_cases hv:v<0
 ·simp only[lH hv];omega
 ·simp only[lap hv];omega
theorem zgt (lo hi:Option Int)(n:Nat):Builtin.Slice.sliceAdjust lo hi 1 (n:Int)=(((sIx n 0 lo:Nat):Int),((sIx n n hi:Nat):Int)):=by
 have h1:¬((1:Int)<0):=by omega
 unfold Builtin.Slice.sliceAdjust
 simp only[h1,lbx]
 refine Prod.ext ?_ ?_
 ·cases lo with
  | none=>rfl
  | some v=>exact zhI v n 0
 ·cases hi with
  | none=>rfl
  | some v=>exact zhI v n n
theorem zgu (i j:Nat):Builtin.Slice.slicePlaces (i:Int) (j:Int) 1=j - i:=by
 unfold Builtin.Slice.slicePlaces
 have h1:(1:Int) > 0:=by omega
 simp only[h1,lbD,Int.ediv_one]
 split <;>omega
theorem zcw {v:Value}{o:Option Int}{Q:Option Int->Shared->Prop}(p:IsPart v o)(h:Q o s):wpAny (model prog w) A (Builtin.Slice.slicePartIndex v) Q E s:=by
 cases p with
 | none=>exact slicePart_none h
 | int i t=>exact slicePart_int h
theorem sliceApplied_gen {sl:Addr}{vl vu:Value}{lo hi:Option Int}{n:Nat}{Q:Int×Int×Nat->Shared->Prop}(hs:s.heap.IsSliceOf sl vl vu .none)(pl:IsPart vl lo)(pu:IsPart vu hi)
  (h:Q (((sIx n 0 lo:Nat):Int),1,sIx n n hi - sIx n 0 lo) s):wpAny (model prog w) A (Builtin.Slice.sliceApplied (.ref sl) (pure (n:Int))) Q E s:=by
 obtain⟨os,hos,hcs,hds⟩:=id hs
 unfold Builtin.Slice.sliceApplied Builtin.Slice.sliceFields
 refine la (la (lai hos hds (x:=vl) rfl (la (lai hos hds (x:=vu) rfl (la (lai hos hds (x:=.none) rfl (lc ?_)))))))
 refine la (slicePart_none ?_)
 show wpAny _ _ (if ((1:Int) == 0)=true then _ else _) _ _ s
 rw[lap (by decide)]
 refine la (zcw pl (la (zcw pu (la (lc ?_)))))
 show wpAny _ _ (match Builtin.Slice.sliceAdjust lo hi 1 (n:Int) with|(lo,hi)=>pure (lo,(1:Int),Builtin.Slice.slicePlaces lo hi 1)) _ _ s
 rw[zgt lo hi n]
 show wpAny _ _ (pure (((sIx n 0 lo:Nat):Int),(1:Int),Builtin.Slice.slicePlaces ((sIx n 0 lo:Nat):Int) ((sIx n n hi:Nat):Int) 1)) _ _ s
 rw[zgu]
 exact lc h
theorem zjK (xs:Array Value)(i k:Nat):((List.range k).filterMap λ(m:Nat)=>xs[((i:Int)+(m:Int)*1).toNat]?).toArray=((xs.toList.drop i).take k).toArray:=by
 have e:(λ(m:Nat)=>xs[((i:Int)+(m:Int)*1).toNat]?)=λm=>xs[i+m]?:=by
  funext m
  have:((i:Int)+(m:Int)*1).toNat=i+m:=by omega
  rw[this]
 rw[e]
 have:=pick_run xs i k
 rw[List.filterMap_map] at this
 have e2:((λx=>xs[x]?)∘λx=>i+x)=λm=>xs[i+m]?:=rfl
 rw[e2] at this
 rw[this]
theorem getItem_tuple_cut {t sl:Addr}{items:Array Value}{vl vu:Value}{lo hi:Option Int}{Q:Value->Shared->Prop}(ht:IsTup s.heap t items)(hs:s.heap.IsSliceOf sl vl vu .none)(pl:IsPart vl lo)(pu:IsPart vu hi)
  (hw:¬(sIx items.size 0 lo=0/\sIx items.size items.size hi=items.size))
  (h:Q (.ref s.heap.objs.size) {s with heap:=s.heap.push {cls:=.type "tuple", data:=.seq ((items.toList.drop (sIx items.size 0 lo)).take (sIx items.size items.size hi - sIx items.size 0 lo)).toArray} })
  (hsz:items.size<=sizeLine):wpAny (model prog w) A (getItem (.ref t) (.ref sl)) Q E s:=by
 have htake:sizeOk (.seq ((items.toList.drop (sIx items.size 0 lo)).take (sIx items.size items.size hi - sIx items.size 0 lo)).toArray):=by
  show((items.toList.drop (sIx items.size 0 lo)).take (sIx items.size items.size hi - sIx items.size 0 lo)).toArray.size<=sizeLine
  rw[lF,lae,lcB,lbP]
  omega
 have hj:sIx items.size items.size hi<=items.size:=sIx_le _ _ (lr _) hi
 obtain⟨os,hos,hcs,hds⟩:=id hs
 have hTs:s.TypeIs (.ref sl) "slice" := ⟨os,hos,hcs⟩
 unfold getItem
 try with_reducible refine lay ?_
 first|refine la (lc ?_)|skip
 refine la (wpAny_sequenceKey ht.typeIs (by decide) ?_)
 refine la (lP (name:=Str.ofString "__getitem__") ht.typeIs laW
  (lU laW ht.typeIs entry_tuple_getitem ?_ (args_tuple_getitem _ _)))
 show wpAny _ _ (Builtin.Tuple.tupleItemsOf (.ref t) >>= _) _ _ s
 refine la (tupleItemsOf_ ht ?_)
 refine la (lbV hTs ?_)
 rw[lH (by decide)]
 refine la (sliceApplied_gen hs pl pu ?_)
 have hno:¬((((sIx items.size 0 lo:Nat):Int) == 0&&(1:Int) == 1&&(sIx items.size items.size hi - sIx items.size 0 lo) == items.size)=true):=by
  intro q
  rw[lab,lab] at q
  have q1:((sIx items.size 0 lo:Nat):Int)=0:=eq_of_beq q.1.1
  have q2:sIx items.size items.size hi - sIx items.size 0 lo=items.size:=eq_of_beq q.2
  exact hw ⟨by omega,by omega⟩
 show wpAny _ _ (if (((sIx items.size 0 lo:Nat):Int) == 0&&(1:Int) == 1&&(sIx items.size items.size hi - sIx items.size 0 lo) == items.size)=true then _ else _) _ _ s
 rw[lap hno,zjK]
 first
  | exact la (m:=Builtin.Tuple.tupleExact _) (laf (lc ⟨_,rfl,lc h⟩) htake)
  | exact la (m:=Builtin.Tuple.tupleExact _) (laf (la (lc (lc ⟨_,rfl,lc h⟩))) htake)
  | exact la (la (m:=Builtin.Tuple.tupleExact _) (laf (lc (lc ⟨_,rfl,lc h⟩)) htake))
  | exact la (la (m:=Builtin.Tuple.tupleExact _) (laf (lc ⟨_,rfl,lc h⟩) htake))
end
end HT
namespace L2
open PySem PySem.Spec PyProof.Rows
abbrev TO:=St->Hp->(Option Int->Hp->Prop)->Prop
def PO (X:Cx)(e:Option Expr)(t:TO):Prop :=
 ∀ (pins:List (Addr×Obj)) (s:Shared) (σ:St) (H:Hp) (Q:Option Int->Hp->Prop),Inv X pins σ H s->t σ H Q ->
  wpAny (model X.prog X.w) X.A (evalPart e X.env) (λu s'=>∃o H',Inv X pins σ H' s'/\IsPart u o/\Q o H') X.xe s
def zkv:TO:=λ_ H Q=>Q none H
def zn5 (t:TE):TO:=λσ H Q=>t σ H λx H1=>∃i,x=.int i/\Q (some i) H1
section
variable {X:Cx}{e:Expr}{te:TE}{lo hi:Option Expr}{tl th:TO}{pos p2:Pos}
theorem zlg:PO X none zkv:=by
 intro pins s σ H Q I h
 rw[evalPart_none]
 exact lc ⟨none,H,I,.none,h⟩
theorem zkD (h:PE X e te):PO X (some e) (zn5 te):=by
 intro pins s σ H Q I hw
 rw[evalPart_some]
 refine thn (h pins s σ H _ I hw) λu s1 hq21=>?_
 obtain⟨x,H1,I1,r1,q1⟩:=hq21
 obtain⟨i,rfl,q⟩:=q1
 obtain⟨t,rfl⟩:=r1
 exact⟨some i,H1,I1,.int i t,q⟩
def SlR (X:Cx)(r:V->Option Int->Option Int->Hp->VK->Prop):Prop :=
 ∀ (pins:List (Addr×Obj)) (s:Shared) (σ:St) (H:Hp) (x:V) (v vl vu:Value) (lo hi:Option Int) (sl:Addr) (Q:VK),Inv X pins σ H s->RelV x v->s.heap.IsSliceOf sl vl vu .none->IsPart vl lo->IsPart vu hi->r x lo hi H Q ->
  ∃T id,typeLookup (.type T) "__getitem__" = pure (some (.builtin id))/\s.TypeIs v T/\wpAny (model X.prog X.w) X.A (getItem v (.ref sl)) (EP X pins σ Q) X.xe s
theorem SlR.or {r r':V->Option Int->Option Int->Hp->VK->Prop}(h:SlR X r)(h':SlR X r'):SlR X (λx lo hi H Q=>r x lo hi H Q∨r' x lo hi H Q):=by
 intro pins s σ H x v vl vu lo hi sl Q I rx hs pl pu q
 rcases q with q|q
 ·exact h pins s σ H x v vl vu lo hi sl Q I rx hs pl pu q
 ·exact h' pins s σ H x v vl vu lo hi sl Q I rx hs pl pu q
def tSl (r:V->Option Int->Option Int->Hp->VK->Prop)(te:TE)(tl th:TO):TE:=λσ H Q=>te σ H λx H1=>tl σ H1 λl H2=>th σ H2 λu H3=>r x l u H3 Q
theorem zjp {r:V->Option Int->Option Int->Hp->VK->Prop}(hr:SlR X r)(he:PE X e te)(hl:PO X lo tl)(hu:PO X hi th):PE X (.Subscript e (.Slice lo hi none p2) pos) (tSl r te tl th):=by
 intro pins s σ H Q I h
 refine Subscript_ (thn (he pins s σ H _ I h) λv s1 hq22=>?_)
 obtain⟨x,H1,I1,r1,q1⟩:=hq22
 refine wpAny_Slice (thn (hl pins s1 σ H1 _ I1 q1) λvl s2 ⟨l,H2,I2,pl,q2⟩=>thn (hu pins s2 σ H2 _ I2 q2) λvu s3 hq23=>?_)
 obtain⟨u,H3,I3,pu,q3⟩:=hq23
 rw[evalPart_none]
 refine lc ?_
 have I4:Inv X pins σ H3 {s3 with heap:=s3.heap.push {cls:=.type "slice", data:=.fields #[vl,vu,.none]} }:=I3.kept (t':=s3.toks) λb ob q=>lb _ q
 obtain⟨T,id,hT,ht,hg⟩:=hr pins {s3 with heap:=s3.heap.push {cls:=.type "slice", data:=.fields #[vl,vu,.none]} } σ H3 x v vl vu l u s3.heap.objs.size Q I4 r1 (Heap.IsSliceOf.new ..) pl pu q3
 show wpAny (model X.prog X.w) X.A (subscriptTail e (.Slice lo hi none p2) v (.ref s3.heap.objs.size)) (EP X pins σ Q) X.xe {s3 with heap:=s3.heap.push {cls:=.type "slice", data:=.fields #[vl,vu,.none]} }
 exact tail_any (ops:=[.ref s3.heap.objs.size,v]) ht hT hg (by with_unfolding_all rfl)
def zgH (xs:List V)(lo hi:Option Int):List V:=(xs.drop (HT.sIx xs.length 0 lo)).take (HT.sIx xs.length xs.length hi - HT.sIx xs.length 0 lo)
theorem zbr (xs:List V)(lo hi:Option Int):(zgH xs lo hi).length<=xs.length:=by
 unfold zgH
 rw[lae,lcB]
 omega
def zpe (K:PySem.W.Frag):V->Option Int->Option Int->Hp->VK->Prop:=λx lo hi H Q=>∃a xs,x=.ref a/\SqT K H a xs /\
 ¬(HT.sIx xs.length 0 lo=0/\HT.sIx xs.length xs.length hi=xs.length)/\∀p,H p=none->Q (.ref p) (upd H p (.tup (zgH xs lo hi)))
theorem zns:SlR X (zpe X.K):=by
 intro pins s σ H x v vl vu lo hi sl Q I rx hs pl pu h
 obtain⟨a,xs,rfl,hx,hw,q⟩:=h
 cases rx
 obtain⟨its,r,ht,hz⟩:=I.tuple hx
 have hlen:its.toArray.size=xs.length:=by rw[lF];exact r.length.symm
 refine⟨"tuple", _,laW.lookup,ht.typeIs,?_⟩
 refine HT.getItem_tuple_cut ht hs pl pu (by rw[hlen];exact hw) ?_ (by rw[hlen];exact hz)
 rw[hlen]
 refine⟨.ref s.heap.objs.size,_,I.laid (t':=s.toks) (o:=.tup (zgH xs lo hi)) (λb ob q=>lb _ q) (lr _) ?_,rfl,q _ (I.hok.fresh (lr _))⟩
 exact⟨laj (zbr xs lo hi) hz,_,(r.drop (HT.sIx xs.length 0 lo)).take (HT.sIx xs.length xs.length hi - HT.sIx xs.length 0 lo),TupD.new _ _⟩
theorem Vals.nil_iff {xs:List V}{us:List Value}(r:Vals xs us):us=[]↔xs=[]:=by
 cases r with
 | nil=>simp
 | cons _ _=>simp
end
def ixN (n:Nat)(i:Int):Option Nat:=if 0<=i then(if i<n then some i.toNat else none) else if -(n:Int)<=i then some (i+n).toNat else none
def atI {α:Type}(xs:List α)(i:Int):Option α:=(ixN xs.length i).bind λj=>xs[j]?
theorem zkP {n:Nat}{i:Int}{j:Nat}(h:ixN n i=some j):seqIndex? i n=some j/\j<n/\-(n:Int)<=i/\i<n:=by
 unfold ixN at h
 by_cases h0:0<=i
 ·rw [lH h0] at h
  by_cases h1:i<n
  ·rw[lH h1] at h
   have e:i.toNat=j:=lg h
   exact⟨by rw[seqIndex_of h0 h1,e],by omega,by omega,h1⟩
  ·rw[lap h1] at h;cases h
 ·rw [lap h0] at h
  by_cases h1:-(n:Int)<=i
  ·rw[lH h1] at h
   have e:(i+n).toNat=j:=lg h
   exact⟨by rw[seqIndex_neg (by omega) h1,e],by omega,h1,by omega⟩
  ·rw[lap h1] at h;cases h
theorem zeM {α:Type}{xs:List α}{i:Int}{v:α}(h:atI xs i=some v):∃j,seqIndex? i xs.length=some j/\xs[j]? = some v/\j<xs.length/\-(xs.length:Int)<=i/\i<xs.length:=by
 unfold atI at h
 cases e:ixN xs.length i with
 | none=>rw[e] at h;cases h
 | some j =>
  rw[e] at h
  obtain⟨h1,h2,h3,h4⟩:=zkP e
  exact⟨j,h1,h,h2,h3,h4⟩
theorem zg6 {α:Type}{xs:List α}{j:Nat}{v:α}(h:xs[j]? = some v):atI xs (j:Int)=some v:=by
 have hj:j<xs.length:=(lv.mp h).1
 have e:ixN xs.length (j:Int)=some j:=by
  unfold ixN
  rw[lH (by omega),lH (by omega)];simp
 unfold atI;rw[e];exact h
def zfg (b:Expr):Prop:=∀o i,subscripted b false o i=operate [o,i] (getItem o i)
def IxR (X:Cx)(r:R2):Prop :=
 ∀ (value slice:Expr) (pins:List (Addr×Obj)) (s:Shared) (σ:St) (H:Hp) (x y:V) (v u:Value) (Q:VK),Inv X pins σ H s->RelV x v->RelV y u->r x y H Q ->
  subscripted slice false v u=operate [v,u] (getItem v u)->wpAny (model X.prog X.w) X.A (subscriptTail value slice v u) (EP X pins σ Q) X.xe s
def MtR (X:Cx)(id:String)(r:V->List V->Hp->VK->Prop):Prop :=
 ∀ (pins:List (Addr×Obj)) (s:Shared) (σ:St) (H:Hp) (x:V) (xs:List V) (v:Value) (us:List Value) (Q:VK),Inv X pins σ H s->RelV x v->Vals xs us->r x xs H Q ->
  wpAny (model X.prog X.w) X.A (call (.builtin id) (v::us)) (EP X pins σ Q) X.xe s
section
variable {X:Cx}{a b:Expr}{ta tb:TE}{pos:Pos}
theorem IxR.or {r r':R2}(h:IxR X r)(h':IxR X r'):IxR X (λx y H Q=>r x y H Q∨r' x y H Q):=by
 intro value slice pins s σ H x y v u Q I rx ry q hs
 rcases q with q|q
 ·exact h value slice pins s σ H x y v u Q I rx ry q hs
 ·exact h' value slice pins s σ H x y v u Q I rx ry q hs
theorem zoj {r:R2}(hr:IxR X r)(ha:PE X a ta)(hb:PE X b tb)(hs:zfg b):PE X (.Subscript a b pos) (tOp r ta tb):=by
 intro pins s σ H Q I h
 exact Subscript_ (zod ha hb I h λv u s2 x y H2 I2 rx ry q=>hr a b pins s2 σ H2 x y v u Q I2 rx ry q (hs _ _))
def zoI (K:PySem.W.Frag):R2:=λx y H Q=>∃p xs i v,x=.ref p/\y=.int i/\SqL K H p xs/\atI xs i=some v/\Q v H
def zoQ (K:PySem.W.Frag):R2:=λx y H Q=>∃p xs i v,x=.ref p/\y=.int i/\SqT K H p xs/\atI xs i=some v/\Q v H
def zoK:R2:=λx y H Q=>∃z i c,x=.str z/\y=.int i/\z.length<=sizeLine/\atI z.cps.toList i=some c/\Q (.str ⟨#[c]⟩) H
theorem ix_list:IxR X (zoI X.K):=by
 intro value slice pins s σ H x y v u Q I rx ry h hs
 obtain⟨p,xs,i,z,rfl,rfl,hq,he,q⟩:=h
 cases rx
 obtain⟨t,rfl⟩:=ry
 obtain⟨its,r,pl,hz⟩:=I.list hq
 obtain⟨j,h1,h2,h3,h4,h5⟩:=zeM he
 obtain⟨w,ew,rw'⟩:=r.get h2
 have hl:=r.length
 have hn:=zf2
 have fin:EP X pins σ Q w s:=⟨z,H,I,rw',q⟩
 by_cases h0:0<=i
 ·have hj:i.toNat=j:=by
   rw[seqIndex_of h0 h5] at h1
   exact lg h1
  exact item_listR pl.isList h0 (by omega) (by rw[hj];simpa using ew) fin hs
 ·have hj:(i+(its.toArray.size:Int)).toNat=j:=by
   rw[seqIndex_neg (by omega) h4] at h1
   rw[lF,← hl]
   exact lg h1
  exact subscriptTail_builtinR (x:=w) pl.isList.typeIs slot_list_getitem.lookup
   (wpAny_getItem_list_neg (Q:=λr s'=>r=w/\EP X pins σ Q r s') pl.isList (by omega) (by rw[lF] <;>omega) (by omega) (by rw[hj];simpa using ew) ⟨rfl,fin⟩) hs
theorem ix_tup:IxR X (zoQ X.K):=by
 intro value slice pins s σ H x y v u Q I rx ry h hs
 obtain⟨p,xs,i,z,rfl,rfl,hq,he,q⟩:=h
 cases rx
 obtain⟨t,rfl⟩:=ry
 obtain⟨its,r,pl,hz⟩:=I.tuple hq
 obtain⟨j,h1,h2,h3,h4,h5⟩:=zeM he
 obtain⟨w,ew,rw'⟩:=r.get h2
 have hl:=r.length
 have hn:=zf2
 have fin:EP X pins σ Q w s:=⟨z,H,I,rw',q⟩
 exact subscriptTail_builtinR (x:=w) pl.typeIs slot_tuple_getitem.lookup
  (getItem_tuple (j:=j) (Q:=λr s'=>r=w/\EP X pins σ Q r s') pl (by omega) (by omega) (by rw[lF,← hl];exact h1) (by simpa using ew) ⟨rfl,fin⟩) hs
theorem zmS:IxR X zoK:=by
 intro value slice pins s σ H x y v u Q I rx ry h hs
 obtain⟨z,i,c,rfl,rfl,hz,he,q⟩:=h
 obtain⟨t,rfl⟩:=rx
 obtain⟨t',rfl⟩:=ry
 obtain⟨j,h1,h2,h3,h4,h5⟩:=zeM he
 have hl:z.cps.toList.length=z.length:=by simp[Str.length]
 rw[hl] at h1 h4 h5
 have hn:=zf2
 exact tail_any (typeIs_str s z t) slot_str_getitem.lookup (getItem_str (c:=c) (by
  have e1:decide (i < -(2 ^ 63:Int))=false:=lN (by omega)
  have e2:decide (i≥2 ^ 63)=false:=lN (by omega)
  rw[e1,e2,lez]) (by rw[h1];simpa using h2) ⟨.str ⟨#[c]⟩,H,I.tok _,⟨_,rfl⟩,q⟩) hs
def rIx (K:PySem.W.Frag):R2:=λx y H Q=>zoI K x y H Q∨zoQ K x y H Q∨zoK x y H Q
theorem zmv:IxR X (rIx X.K):=ix_list.or (ix_tup.or zmS)
theorem Inv.lst {pins:List (Addr×Obj)}{σ:St}{H:Hp}{s:Shared}{p:Addr}{xs:List V}(I:Inv X pins σ H s)(h:H p=some (.lst xs)) :
  ∃(its:List Value) (n:Nat),Vals xs its/\s.heap.get? p=some {cls:=.type "list", data:=.seq its.toArray n}/\xs.length<=sizeLine:=by
 obtain⟨z,its,n,r,e⟩:=I.hok p _ h
 exact⟨its,n,r,e,z⟩
theorem zei (lo hi:Option Int)(n:Nat):(sliceBounds lo hi none n).1=((HT.sIx n 0 lo:Nat):Int)/\(sliceBounds lo hi none n).2.1=((HT.sIx n n hi:Nat):Int)/\(sliceBounds lo hi none n).2.2=1:=by
 refine⟨?_,?_,rfl⟩
 ·cases lo with
  | none=>simp[sliceBounds,HT.sIx]
  | some i =>
   simp only[sliceBounds,HT.sIx,Option.getD_none,show(1:Int) > 0 by decide,lbD]
   by_cases h:i<0
   ·simp only[h,lbD] <;>omega
   ·simp only[h,lbx] <;>omega
 ·cases hi with
  | none=>simp[sliceBounds,HT.sIx]
  | some i =>
   simp only[sliceBounds,HT.sIx,Option.getD_none,show(1:Int) > 0 by decide,lbD]
   by_cases h:i<0
   ·simp only[h,lbD] <;>omega
   ·simp only[h,lbx] <;>omega
theorem zcK (its:List Value)(lo hi:Option Int):slicePick its.toArray lo hi none=((its.drop (HT.sIx its.length 0 lo)).take (HT.sIx its.length its.length hi - HT.sIx its.length 0 lo)).toArray:=by
 obtain⟨h1,h2,h3⟩:=zei lo hi its.toArray.size
 unfold slicePick
 rw[h1,h2,h3]
 simp only[sliceRange_one,pick_run,lF] <;>rfl
def zo2 (K:PySem.W.Frag):V->Option Int->Option Int->Hp->VK->Prop:=λx lo hi H Q=>∃a xs,x=.ref a/\SqL K H a xs/\∀p,H p=none->Q (.ref p) (upd H p (.lst (zgH xs lo hi)))
theorem zlt:SlR X (zo2 X.K):=by
 intro pins s σ H x v vl vu lo hi sl Q I rx hs pl pu h
 obtain⟨a,xs,rfl,hx,q⟩:=h
 cases rx
 obtain⟨its,r,ht,hz⟩:=I.list hx
 have hlen:=r.length
 refine⟨"list", _,slot_list_getitem.lookup,ht.isList.typeIs,?_⟩
 refine wpAny_getItem_list_slice ht.isList hs pl pu .none (by simp) ?_ (by rw[lF] <;>omega)
 rw[zcK,← hlen]
 refine⟨.ref s.heap.objs.size,_,I.laid (t':=s.toks) (o:=.lst (zgH xs lo hi)) (λb ob q=>lb _ q) (lr _) ?_,rfl,q _ (I.hok.fresh (lr _))⟩
 exact⟨laj (zbr xs lo hi) hz,_,0,(r.drop (HT.sIx xs.length 0 lo)).take (HT.sIx xs.length xs.length hi - HT.sIx xs.length 0 lo),lj _ rfl⟩
def zbQ:V->Bool
 | .non=>true
 | .bl _=>true
 | .int _=>true
 | .str _=>true
 | _=>false
def eqV:V->V->Bool
 | .non,.non=>true
 | .bl a,.bl b=>a == b
 | .bl a,.int b=>(if a then 1 else 0) == b
 | .int a,.bl b=>a == (if b then 1 else 0)
 | .int a,.int b=>a == b
 | .str a,.str b=>a == b
 | _,_=>false
theorem zmn {A:Around}{s:Shared}{y x:V}{u v:Value}(ry:RelV y u)(rx:RelV x v)(fy:zbQ y=true)(fx:zbQ x=true):SeqAt.EqAt A s u v (eqV y x):=by
 cases y with
 | non =>
  cases ry
  cases x with
  | non=>cases rx;exact SeqAt.EqAt.same _
  | bl b=>cases rx;exact SeqAt.EqAt.none_bool b
  | int b=>obtain⟨t,rfl⟩:=rx;exact SeqAt.EqAt.none_int b t
  | str b=>obtain⟨t,rfl⟩:=rx;exact SeqAt.EqAt.none_str b t
  | _=>exact absurd (show false=true from fx) lD
 | bl a =>
  cases ry
  cases x with
  | non=>cases rx;exact SeqAt.EqAt.bool_none a
  | bl b=>cases rx;exact SeqAt.EqAt.bool_bool a b
  | int b=>obtain⟨t,rfl⟩:=rx;exact SeqAt.EqAt.bool_int a b t
  | str b=>obtain⟨t,rfl⟩:=rx;exact SeqAt.EqAt.bool_str a b t
  | _=>exact absurd (show false=true from fx) lD
 | int a =>
  obtain⟨t',rfl⟩:=ry
  cases x with
  | non=>cases rx;exact SeqAt.EqAt.int_none a t'
  | bl b=>cases rx;exact SeqAt.EqAt.int_bool a t' b
  | int b=>obtain⟨t,rfl⟩:=rx;exact SeqAt.EqAt.int_int a t' b t
  | str b=>obtain⟨t,rfl⟩:=rx;exact SeqAt.EqAt.int_str a t' b t
  | _=>exact absurd (show false=true from fx) lD
 | str a =>
  obtain⟨t',rfl⟩:=ry
  cases x with
  | non=>cases rx;exact SeqAt.EqAt.str_none a t'
  | bl b=>cases rx;exact SeqAt.EqAt.str_bool a t' b
  | int b=>obtain⟨t,rfl⟩:=rx;exact SeqAt.EqAt.str_int a t' b t
  | str b=>obtain⟨t,rfl⟩:=rx;exact SeqAt.EqAt.str_str a t' b t
  | _=>exact absurd (show false=true from fx) lD
 | _=>exact absurd (show false=true from fy) lD
def eqU (x:V)(u:Value):Bool:=match u with
 | .none=>eqV .non x
 | .bool b=>eqV (.bl b) x
 | .int i _=>eqV (.int i) x
 | .str z _=>eqV (.str z) x
 | _=>false
theorem zj0 {x y:V}{u:Value}(r:RelV y u)(f:zbQ y=true):eqU x u=eqV y x:=by
 cases y with
 | non=>cases r;rfl
 | bl b=>cases r;rfl
 | int i=>obtain⟨t,rfl⟩:=r;rfl
 | str z=>obtain⟨t,rfl⟩:=r;rfl
 | _=>exact absurd (show false=true from f) lD
theorem zfR {A:Around}{s:Shared}{x:V}{v:Value}(rx:RelV x v)(fx:zbQ x=true):∀{xs:List V}{us:List Value},Vals xs us->xs.all zbQ=true->∀u∈us,SeqAt.EqAt A s u v (eqU x u)
 | _,_,.nil,_=>λu hu=>by cases hu
 | y::xs,u::us,.cons r t,f=>λu' hu=>by
  rw[lcs,lab] at f
  rcases lB.mp hu with rfl|hu
  ·rw[zj0 r f.1];exact zmn r rx f.1 fx
  ·exact zfR rx fx t f.2 u' hu
theorem yL:zaa X (.type "tuple") (λxs H Q=>∃p ys,xs=[.ref p]/\((SqL X.K H p ys/\∀l,H l=none->Q (.ref l) (upd H l (.tup ys)))∨(SqT X.K H p ys/\Q (.ref p) H))):=by
 intro pins s σ H xs us Q I r h
 obtain⟨p,ys,rfl,h⟩:=h
 obtain⟨u,rfl,rx⟩:=vals1 r
 cases rx
 rcases h with⟨hq,q⟩|⟨hq,q⟩
 ·obtain ⟨its,r',pl,hz⟩:=I.list hq
  have hlen:=r'.length
  refine call_tuple_list pl.isList (λh' kp=>?_) (by simp only[lF] <;>omega)
  have I1:Inv X pins σ H {s with heap:=h'}:=I.kept (t':=s.toks) kp
  have I2:Inv X pins σ (upd H h'.objs.size (.tup ys)) {s with heap:=h'.push {cls:=.type "tuple", data:=.seq its.toArray} } :=
   I1.laid (t':=s.toks) (λb o e=>lb _ e) (lr _) (show ObjOk X.prog X.w _ _ _ (.tup ys) from⟨hz,its,r',TupD.new _ _⟩)
  exact⟨.ref h'.objs.size,_,I2,rfl,q _ (I1.hok.fresh (lr _))⟩
 ·obtain⟨its,r',pl,hz⟩:=I.tuple hq
  exact call_tuple_same pl ⟨.ref p,H,I,rfl,q⟩
def tyV (K:PySem.W.Frag)(T:String)(x:V)(H:Hp):Prop:=match x with
 | .str _=>T = "str"
 | .int _=>T = "int"
 | .ref p=>(T = "list" /\ ∃xs,SqL K H p xs)∨(T = "tuple" /\ ∃o,K.lookup p=some o/\o.cls=.type "tuple" /\ o.dict=none) ∨
   (T = "dict" /\ ((∃kvs,H p=some (.dK kvs))∨∃kvs,H p=some (.dT kvs)))∨(T = "set" /\ ∃S n,H p=some (.set S n))
 | _=>False
theorem znc {pins:List (Addr×Obj)}{σ:St}{H:Hp}{s:Shared}{T:String}{x:V}{v:Value}(I:Inv X pins σ H s)(r:RelV x v)(ty:tyV X.K T x H) :
  s.TypeIs v T/\∀a,v=.ref a->∃ob,s.heap.get? a=some ob/\ob.dict=none:=by
 cases x with
 | str z =>
  obtain⟨t,rfl⟩:=r
  cases (show T = "str" from ty)
  exact⟨typeIs_str s z t,λ_ e=>nomatch e⟩
 | int i =>
  obtain⟨t,rfl⟩:=r
  cases (show T = "int" from ty)
  exact⟨lej s i t,λ_ e=>nomatch e⟩
 | ref p =>
  cases r
  rcases ty with⟨rfl,xs,hq⟩|⟨rfl,o,hk,hc,hd⟩|⟨rfl,hk⟩|⟨rfl,S,n,hk⟩
  ·obtain⟨its,_,pl,_⟩:=I.list hq
   refine⟨pl.isList.typeIs,λa e=>?_⟩
   cases e
   obtain⟨o,n,e,c,hd,_⟩:=pl
   exact⟨o,e,hd⟩
  ·refine⟨⟨o,I.kIn p o hk,hc⟩,λa e=>?_⟩
   cases e
   exact⟨o,I.kIn _ o hk,hd⟩
  ·have z:∃o,s.heap.get? p=some o/\o.ExactDict:=by
    rcases hk with⟨kvs,hk⟩|⟨kvs,hk⟩
    ·obtain⟨_,_,_,_,o,_,_,e,ex,_⟩:=I.hok p _ hk
     exact⟨o,e,ex⟩
    ·obtain⟨_,_,_,_,o,_,_,e,ex,_⟩:=I.hok p _ hk
     exact⟨o,e,ex⟩
   obtain⟨o,e,ex⟩:=z
   refine⟨⟨o,e,ex.1⟩,λa e2=>?_⟩
   cases e2
   exact⟨o,e,ex.2.1⟩
  ·obtain⟨o,_,_,_,e,ex,_⟩:=I.hok p _ hk
   refine⟨⟨o,e,ex.1⟩,λa e2=>?_⟩
   cases e2
   exact⟨o,e,ex.2.1⟩
 | _=>exact False.elim ty
def tBM (K:PySem.W.Frag)(T:String)(r:V->List V->Hp->VK->Prop)(to:TE)(t:TA):TE:=λσ H Q=>to σ H λx H1=>tyV K T x H1/\t σ H1 λxs H2=>r x xs H2 Q
variable {o e:Expr}{es:List Expr}{to:TE}{t:TA}{name:Str}{apos cpos:Pos}{T id:String}{r:V->List V->Hp->VK->Prop}
theorem zgW (pa:PlainAttrs T)(slot:Slot T name id)(hty:typeOf (.builtin id)=pure (.type "method_descriptor"))(hm:MtR X id r)(ho:PE X o to)(ha:PA X (e::es) t)
  (hbase:attributeBase o name X.env (eval o X.env)=eval o X.env:=by rfl)
  (hfew:((backTo cpos (starEach (e::es) X.env)).all (λx=>!x.1)&&(backToKw cpos (keywordEach [] X.env)).all (λx=>x.1.isSome)
   && decide ((e::es).length+([]:List Keyword).length+(if ([]:List Keyword).isEmpty then 0 else 1)<30))=true:=by rfl)
  (hline:(apos.endLine == cpos.line)=true:=by rfl) (hs:starEach (e::es) X.env=(false,eval e X.env)::starEach es X.env:=by rfl) (hplain:(backTo cpos (starEach es X.env)).any (·.1)=false:=by rfl) :
  PE X (.Call (.Attribute o name apos) (e::es) [] cpos) (tBM X.K T r to t):=by
 intro pins s σ H Q I h
 refine wpAny_Call_method_late hbase hfew hline rfl (thn (ho pins s σ H _ I h) λv s1 hq24=>?_)
 obtain⟨x,H1,I1,r1,ty,q1⟩:=hq24
 obtain⟨h1,h2⟩:=znc I1 r1 ty
 refine⟨T,id,pa,slot,hty,h1,h2,?_⟩
 have hA:=ha cpos pins s1 σ H1 _ I1 q1
 rw[hs] at hA ⊢
 refine Calls.callWith_builtin (by show(false || (backTo cpos (starEach es X.env)).any (·.1))=false;rw[hplain] <;>rfl) (ldg ?_)
 exact thn hA λus s2 ⟨vs,H2,I2,r2,q2⟩=>hm pins s2 σ H2 x vs v us Q I2 r1 r2 q2
/- xs.append(e), list.index on a module's tuple .. are MtR facts of 06m -/
end
def MtM (X:Cx)(id:String)(r:V->List V->Hp->VK->Prop):Prop :=
 ∀ (pins:List (Addr×Obj)) (s:Shared) (σ:St) (H:Hp) (x:V) (xs:List V) (v:Value) (us:List Value) (Q:VK),Inv X pins σ H s->RelV x v->Vals xs us->r x xs H Q ->
  wpAny (model X.prog X.w) X.A (call (.builtin id) (v::us)) (EP X pins σ Q) X.xe s
theorem Vals.one:∀{x:V}{us:List Value},Vals [x] us->∃u,us=[u]/\RelV x u:=by
 intro x us h
 cases h with
 | cons r t=>cases t;exact⟨_,rfl,r⟩
theorem Vals.eraseIdx:∀{xs:List V}{us:List Value} (i:Nat),Vals xs us->Vals (xs.eraseIdx i) (us.eraseIdx i)
 | _,_,_,.nil=>.nil
 | _,_,0,.cons _ t=>t
 | _,_,i+1,.cons r t=>.cons r (Vals.eraseIdx i t)
theorem Vals.rep {xs:List V}{us:List Value}(h:Vals xs us):∀k:Nat,Vals (List.replicate k xs).flatten (List.replicate k us).flatten
 | 0=>.nil
 | k+1=>by
  rw[laB,laB,lbt,lbt]
  exact Vals.append h (Vals.rep h k)
theorem zd6 {α:Type}:∀(l:List α) (i:Nat),(l.eraseIdx i).length<=l.length
 | [],_=>lr _
 | _::_,0=>lbI _
 | _::r,i+1=>Nat.succ_le_succ (zd6 r i)
theorem foldl_rep (its:List Value):∀(k:Nat) (acc:List Value),
  List.foldl (λx1 x2=>x1++x2) acc.toArray (List.replicate k its.toArray)=(acc++(List.replicate k its).flatten).toArray
 | 0,acc=>by simp
 | k+1,acc=>by
  have e:acc.toArray++its.toArray=(acc++its).toArray:=by simp
  have e2:(acc++its)++(List.replicate k its).flatten=acc++(List.replicate (k+1) its).flatten:=by
   rw[laB,lbt,lbu]
  rw[← e2,← foldl_rep its k (acc++its),← e,laB,lag]
section
variable {X:Cx}{pins:List (Addr×Obj)}{σ:St}{H:Hp}{s:Shared}{l b:Addr}{xs ys zs:List V}
theorem Inv.lset {its its':List Value}{n:Nat}{f:Array Value->Array Value}{t':Nat}(I:Inv X pins σ H s)(hH:H l=some (.lst xs))
  (e:s.heap.get? l=some {cls:=.type "list", data:=.seq its.toArray n}) (hf:f its.toArray=its'.toArray) (hv:Vals ys its') (hz:ys.length<=sizeLine) :
  Inv X pins σ (upd H l (.lst ys)) {s with heap:=s.heap.update l (Obj.mapSeq f),toks:=t'}:=by
 have q:=PySem.IsL.update e f
 rw[hf] at q
 refine I.write (x:=l) (e:=l) (by rw[hH];exact trivial) (.inl rfl) (λb' u hb hu=>(lbC s.heap (Obj.mapSeq f) (lbb hb)).trans hu) ⟨_,q⟩ ?_
 exact⟨hz,its',_,hv,q⟩
theorem Inv.lnew {its:List Value}{t':Nat}(I:Inv X pins σ H s)(hv:Vals ys its)(hz:ys.length<=sizeLine) :
  Inv X pins σ (upd H s.heap.objs.size (.lst ys)) {s with heap:=s.heap.push {cls:=.type "list", data:=.seq its.toArray},toks:=t'} :=
 I.laid (λ_ _ q=>lb _ q) (lr _) ⟨hz,its,0,hv,lj _ rfl⟩
theorem Inv.fresh (I:Inv X pins σ H s):H s.heap.objs.size=none:=I.hok.fresh (lr _)
theorem Inv.lstM (I:Inv X pins σ H s)(hH:H l=some (.lst xs)):xs.length<=sizeLine/\∃(its:List Value) (n:Nat),Vals xs its/\xs.length=its.length/\s.heap.get? l=some {cls:=.type "list", data:=.seq its.toArray n}:=by
 obtain⟨z,its,n,r,e⟩:=I.hok l _ hH
 exact⟨z,its,n,r,r.length,e⟩
theorem ziP {n:Nat}(h:n<=sizeLine):Builtin.List.listTooLong n=false:=by
 unfold Builtin.List.listTooLong
 exact lN (by omega)
end
section
variable {X:Cx}
def zk4:V->List V->Hp->VK->Prop:=λx vs H Q=>∃l xs y,x=.ref l/\vs=[y]/\H l=some (.lst xs)/\xs.length<sizeLine/\Q .non (upd H l (.lst (xs++[y])))
theorem zhk:MtM X "list.append" zk4:=by
 intro pins s σ H x vs v us Q I rx rv h
 obtain⟨l,xs,y,rfl,rfl,hH,hz,q⟩:=h
 cases rx
 obtain⟨u,rfl,ru⟩:=rv.one
 obtain⟨z,its,n,r,hl,e⟩:=I.lstM hH
 refine lct F.slot_list_append ⟨_,e,rfl⟩ F.entry_list_append (F.args_list_append_2 _ _) (PySem.list_append l its.toArray n u (by rw[lF];omega)) ⟨e,?_⟩
 refine⟨.non,_,I.lset (its':=its++[u]) hH e (by simp) (r.append (.cons ru .nil)) ?_,rfl,q⟩
 rw[lG,ldb]
 omega
def zm8:V->List V->Hp->VK->Prop:=λx vs H Q=>∃l xs i k y,x=.ref l/\vs=[.int i]/\H l=some (.lst xs)/\-(2 ^ 63)<=i/\i<2 ^ 63/\seqIndex? i xs.length=some k/\xs[k]? = some y/\Q y (upd H l (.lst (xs.eraseIdx k)))
theorem ziC:MtM X "list.pop" zm8:=by
 intro pins s σ H x vs v us Q I rx rv h
 obtain⟨l,xs,i,k,y,rfl,rfl,hH,h1,h2,hk,hy,q⟩:=h
 cases rx
 obtain⟨u,rfl,ru⟩:=rv.one
 obtain⟨t,rfl⟩:=ru
 obtain⟨z,its,n,r,hl,e⟩:=I.lstM hH
 obtain⟨w,hw,rw'⟩:=r.get hy
 refine lct F.slot_list_pop ⟨_,e,rfl⟩ F.entry_list_pop (F.args_list_pop_2 _ _)
  (MeetsSeq.list_pop_at l its.toArray n i t k w (fitsIndex_both h1 h2) (by rw[lF,← hl];exact hk) (by rw[← Array.getElem?_toList];exact hw) (by rw[lF];omega)) ⟨e,?_⟩
 refine⟨y,_,I.lset (its':=its.eraseIdx k) hH e ?_ (r.eraseIdx k) ?_,rw',q⟩
 ·show its.toArray.eraseIdxIfInBounds k=(its.eraseIdx k).toArray
  rw[List.eraseIdxIfInBounds_toArray]
 ·have:=zd6 xs k
  omega
theorem len_rep {α:Type}(xs:List α)(k:Nat):(List.replicate k xs).flatten.length=k*xs.length:=by
 induction k with
 | zero=>simp
 | succ k ih=>rw[laB,lbt,lG,ih,Nat.succ_mul,Nat.add_comm]
end
section
variable {κ:Type} [DecidableEq κ]
def zeg (kvs:List (κ×V))(k:κ):Option V:=(kvs.find? λkv=>decide (kv.1=k)).map (·.2)
def putK (kvs:List (κ×V))(k:κ)(v:V):List (κ×V) :=
 if (kvs.any λkv=>decide (kv.1=k))=true then kvs.map (λkv=>if kv.1=k then(kv.1,v) else kv) else kvs++[(k,v)]
def zma (kvs:List (κ×V))(k:κ):List (κ×V):=kvs.filter λkv=>decide (kv.1≠k)
theorem zdj {p:κ×V}{r:List (κ×V)}{k:κ}(e:p.1=k):zeg (p::r) k=some p.2:=by simp[zeg,lcm,e]
theorem zc2 {p:κ×V}{r:List (κ×V)}{k:κ}(e:¬p.1=k):zeg (p::r) k=zeg r k:=by simp[zeg,lcm,e]
theorem zfW (k:κ):∀kvs:List (κ×V),(kvs.any λkv=>decide (kv.1=k))=(zeg kvs k).isSome
 | []=>rfl
 | p::r=>by
  rw[ldj]
  by_cases e:p.1=k
  ·simp only[zdj e,lW e,Bool.true_or,Option.isSome_some]
  ·rw[zc2 e,lN e,Bool.false_or];exact zfW k r
theorem vY (kvs:List (κ×V))(k:κ)(v:V):(putK kvs k v).length<=kvs.length+1:=by
 unfold putK
 split
 ·rw[lh];omega
 ·rw[lG,lC,lV];omega
theorem RelO.isSome_eq {o:Option V}{u:Option Value}(r:RelO o u):o.isSome=u.isSome:=by
 cases o with
 | none=>cases u with
  | none=>rfl
  | some _=>exact(show False from r).elim
 | some _=>cases u with
  | none=>exact(show False from r).elim
  | some _=>rfl
theorem RelO.getD {o:Option V}{u:Option Value}{d:V}{d':Value}(r:RelO o u)(rd:RelV d d'):RelV (o.getD d) (u.getD d'):=by
 cases o with
 | none=>cases u with
  | none=>exact rd
  | some _=>exact(show False from r).elim
 | some _=>cases u with
  | none=>exact(show False from r).elim
  | some _=>exact r
theorem KV.val {kvs:List (κ×V)}{vs:List (κ×Value)}(r:KV kvs vs)(k:κ):RelO (zeg kvs k) (valueAt vs k):=by
 unfold KV at r
 induction r with
 | nil=>exact True.intro
 | @cons p q ps qs h t ih =>
  obtain⟨h1,h2⟩:=h
  by_cases e:p.1=k
  ·have e':q.1=k:=h1.symm.trans e
   have b:valueAt (q::qs) k=some q.2:=by simp[valueAt,lcm,e']
   rw[zdj e,b];exact h2
  ·have e':¬q.1=k:=λz=>e (h1.trans z)
   have b:valueAt (q::qs) k=valueAt qs k:=by simp[valueAt,lcm,e']
   rw[zc2 e,b];exact ih
theorem KV.any {kvs:List (κ×V)}{vs:List (κ×Value)}(r:KV kvs vs)(k:κ):(kvs.any λkv=>decide (kv.1=k))=vs.any λkv=>decide (kv.1=k):=by
 unfold KV at r
 induction r with
 | nil=>rfl
 | cons h t ih=>rw[ldj,ldj,ih,h.1]
theorem KV.repl {kvs:List (κ×V)}{vs:List (κ×Value)}(r:KV kvs vs)(k:κ){y:V}{u:Value}(ry:RelV y u) :
  KV (kvs.map λkv=>if kv.1=k then(kv.1,y) else kv) (vs.map λkv=>if kv.1=k then(kv.1,u) else kv):=by
 unfold KV at r ⊢
 induction r with
 | nil=>exact .nil
 | @cons p q ps qs h t ih =>
  rw[lw,lw]
  refine .cons ?_ ih
  obtain⟨h1,h2⟩:=h
  by_cases e:p.1=k
  ·rw[lH e,lH (h1.symm.trans e)];exact⟨h1,ry⟩
  ·rw[lap e,lap (λz=>e (h1.trans z))];exact⟨h1,h2⟩
theorem KV.put {kvs:List (κ×V)}{vs:List (κ×Value)}(r:KV kvs vs)(k:κ){y:V}{u:Value}(ry:RelV y u):KV (putK kvs k y) (stored vs k u):=by
 unfold putK stored
 rw[r.any k]
 by_cases e:(vs.any λkv=>decide (kv.1=k))=true
 ·rw[lH e,lH e];exact r.repl k ry
 ·rw[lap e,lap e];exact Paired.snoc r ⟨rfl,ry⟩
theorem KV.drop {kvs:List (κ×V)}{vs:List (κ×Value)}(r:KV kvs vs)(k:κ):KV (zma kvs k) (without vs k):=by
 unfold KV at r ⊢
 unfold zma without
 induction r with
 | nil=>exact .nil
 | @cons p q ps qs h t ih =>
  obtain⟨h1,h2⟩:=h
  rw[ldY,ldY]
  by_cases e:p.1=k
  ·have a:¬decide (p.1≠k)=true:=by simp[e]
   have b:¬decide (q.1≠k)=true:=by simp[h1.symm.trans e]
   rw[lap a,lap b];exact ih
  ·have e':¬q.1=k:=λz=>e (h1.trans z)
   have a:decide (p.1≠k)=true:=by simp[e]
   have b:decide (q.1≠k)=true:=by simp[e']
   rw[lH a,lH b];exact .cons ⟨h1,h2⟩ ih
theorem KV.keys {kvs:List (κ×V)}{vs:List (κ×Value)}(r:KV kvs vs):kvs.map (·.1)=vs.map (·.1):=by
 unfold KV at r
 induction r with
 | nil=>rfl
 | cons h t ih=>rw[lw,lw,ih,h.1]
theorem KV.length {kvs:List (κ×V)}{vs:List (κ×Value)}(r:KV kvs vs):kvs.length=vs.length:=Paired.length r
end
theorem zkT {P:Program}{w:World}{k:Key}{u:Value}(r:RelV (kV k) u):(yW P w).is k u=true:=by
 cases k with
 | inl i=>obtain⟨t,e⟩:=(show ∃t,u=Value.int i t from r);subst e;exact ze9 P w i t
 | inr x=>obtain⟨t,e⟩:=(show ∃t,u=Value.str x t from r);subst e;exact jY P w x t
theorem zdT {P:Program}{w:World}:∀{ks:List Key}{us:List Value},Vals (ks.map kV) us->ItemsAre (yW P w) ks us
 | [],_,r=>by rw[laT] at r;cases r;exact .nil
 | k::ks,_,r=>by
  rw[lw] at r
  cases r with
  | cons h t=>exact .cons (zkT h) (zdT t)
abbrev KT (H:Hp):List (List Key×V)->List (List Key×Addr×Value)->Prop:=Paired λp q=>p.1=q.1/\H q.2.1=some (.tup (p.1.map kV))/\RelV p.2 q.2.2
theorem KT.val {H:Hp}{kvs:List (List Key×V)}{xs:List (List Key×Addr×Value)}(r:KT H kvs xs)(k:List Key):RelO (zeg kvs k) ((atKey xs k).map (·.2)):=by
 induction r with
 | nil=>exact True.intro
 | @cons p q ps qs h t ih =>
  obtain⟨h1,_,h2⟩:=h
  by_cases e:p.1=k
  ·have e':q.1=k:=h1.symm.trans e
   have b:atKey (q::qs) k=some q.2:=by simp[atKey,lcm,e']
   rw[zdj e,b];exact h2
  ·have e':¬q.1=k:=λz=>e (h1.trans z)
   have b:atKey (q::qs) k=atKey qs k:=by simp[atKey,lcm,e']
   rw[zc2 e,b];exact ih
theorem KT.repl {H:Hp}{kvs:List (List Key×V)}{xs:List (List Key×Addr×Value)}(r:KT H kvs xs)(k:List Key){y:V}{u:Value}(ry:RelV y u) :
  KT H (kvs.map λkv=>if kv.1=k then(kv.1,y) else kv) (xs.map (putAt k u)):=by
 induction r with
 | nil=>exact .nil
 | @cons p q ps qs h t ih =>
  rw[lw,lw]
  refine .cons ?_ ih
  obtain⟨h1,h2,h3⟩:=h
  unfold putAt
  by_cases e:p.1=k
  ·rw[lH e,lH (h1.symm.trans e)];exact⟨h1,h2,ry⟩
  ·rw[lap e,lap (λz=>e (h1.trans z))];exact⟨h1,h2,h3⟩
theorem KT.put {H:Hp}{kvs:List (List Key×V)}{xs:List (List Key×Addr×Value)}(r:KT H kvs xs)(k:List Key){b:Addr}{y:V}{u:Value}(hb:H b=some (.tup (k.map kV)))(ry:RelV y u) :
  KT H (putK kvs k y) (storedH xs k b u):=by
 have e:(kvs.any λkv=>decide (kv.1=k))=(atKey xs k).isSome:=by
  rw[zfW,(r.val k).isSome_eq,Option.isSome_map]
 unfold putK storedH
 rw[e]
 by_cases q:(atKey xs k).isSome=true
 ·rw[lH q,lH q];exact r.repl k ry
 ·rw[lap q,lap q];exact Paired.snoc r ⟨rfl,hb,ry⟩
theorem KT.keeps {H H':Hp}{kvs:List (List Key×V)}{xs:List (List Key×Addr×Value)}(r:KT H kvs xs)(ht:∀b ys,H b=some (.tup ys)->H' b=some (.tup ys)):KT H' kvs xs :=
 Paired.mapP r λ_ _ z=>⟨z.1,ht _ _ z.2.1,z.2.2⟩
section
variable {P:Program}{w:World}{H:Hp}{h:Heap}{a:Addr}
theorem zmy {u:HO}(ok:HOk P w H h)(e:Rd H a u):ObjOk P w H h a u:=e.ok ok
theorem zkz {kvs:List (Key×V)}(ok:HOk P w H h)(e:Rd H a (.dK kvs)):kvs.length<=sizeLine/\(a == sysModules)=false/\∃vs,KV kvs vs/\h.DictOf (yW P w) a vs :=
 show ObjOk P w H h a (.dK kvs) from zmy ok e
theorem zlK {kvs:List (Key×V)}(ok:HOk P w H h)(e:H a=some (.dK kvs)):kvs.length<=sizeLine/\(a == sysModules)=false/\∃vs,KV kvs vs/\h.DictOf (yW P w) a vs:=zkz ok (.inl e)
theorem zh5 {ks:List Key}(ok:HOk P w H h)(e:H a=some (.tup (ks.map kV))):(tupleKind (yW P w)).is h ks a:=by
 obtain⟨_,its,r,o,h1,h2,⟨n,h3⟩,_⟩:=(show ObjOk P w H h a (.tup (ks.map kV)) from ok a _ e)
 exact⟨o,its.toArray,n,h1,h2,h3,by simpa using zdT r⟩
theorem zlj {kvs:List (List Key×V)}(ok:HOk P w H h)(e:Rd H a (.dT kvs)):kvs.length<=sizeLine/\(a == sysModules)=false /\
  ∃xs,KT H kvs xs/\h.DictOfH (tupleKind (yW P w)) a xs:=by
 obtain⟨z,y,xs,r,o,es,ep,h1,h2,h3,h4,h5⟩:=(show ObjOk P w H h a (.dT kvs) from zmy ok e)
 refine⟨z,y,xs,r,o,es,ep,h1,h2,h3,h4,λx hx=>?_,h5⟩
 have all:∀{l:List (List Key×V)}{m:List (List Key×Addr×Value)},KT H l m->∀x∈m,(tupleKind (yW P w)).is h x.1 x.2.1:=by
  intro l m q
  induction q with
  | nil=>intro x hx;exact nomatch hx
  | @cons p q ps qs hq t ih =>
   intro x hx
   rcases lB.mp hx with e|hx
   ·subst e
    exact zh5 ok (by rw[← hq.1];exact hq.2.1)
   ·exact ih x hx
 exact all r x hx
theorem zoe {kvs:List (List Key×V)}(ok:HOk P w H h)(e:H a=some (.dT kvs)):kvs.length<=sizeLine/\(a == sysModules)=false /\
  ∃xs,KT H kvs xs/\h.DictOfH (tupleKind (yW P w)) a xs:=zlj ok (.inl e)
end
def DGet (H:Hp)(a:Addr)(y:V)(r:Option V):Prop :=
 (∃kvs k,Rd H a (.dK kvs)/\y=kV k/\r=zeg kvs k)∨∃kvs k b,Rd H a (.dT kvs)/\y=.ref b/\H b=some (.tup (k.map kV))/\r=zeg kvs k
def DPut (H:Hp)(a:Addr)(y v:V)(H':Hp):Prop :=
 (∃kvs k,H a=some (.dK kvs)/\y=kV k/\kvs.length<sizeLine/\H'=upd H a (.dK (putK kvs k v))) ∨
 ∃kvs k b,H a=some (.dT kvs)/\y=.ref b/\H b=some (.tup (k.map kV))/\kvs.length<sizeLine/\H'=upd H a (.dT (putK kvs k v))
theorem DGet.k {H:Hp}{a:Addr}{kvs:List (Key×V)}{k:Key}(e:H a=some (.dK kvs)):DGet H a (kV k) (zeg kvs k):=.inl ⟨kvs,k,.inl e,rfl,rfl⟩
theorem DPut.k {H:Hp}{a:Addr}{kvs:List (Key×V)}{k:Key}{v:V}(e:H a=some (.dK kvs))(hl:kvs.length<sizeLine):DPut H a (kV k) v (upd H a (.dK (putK kvs k v))):=.inl ⟨kvs,k,e,rfl,hl,rfl⟩
section
variable {X:Cx}{pins:List (Addr×Obj)}{σ:St}{H:Hp}{s:Shared}{a:Addr}{y v:V}{u r:Value}{o:Option V}{A:Around}{E:Value->Shared->Prop}
theorem Inv.big (I:Inv X pins σ H s):sysModules<s.heap.objs.size:=by
 have h:mainGlobals<s.heap.objs.size:=(I.mod.glob.keeps I.bk).lt
 exact ld8 (by decide) h
theorem zic {Q:Value->Shared->Prop}(hu:A.units+1<cLine)(I:Inv X pins σ H s)(g:DGet H a y (some v))(ry:RelV y u)(h:∀w' s',Inv X pins σ H s'->RelV v w'->Q w' s') :
  wpAny (model X.prog X.w) A (getItem (.ref a) u) Q E s:=by
 rcases g with⟨kvs,k,e,ey,l⟩|⟨kvs,k,b,e,ey,eb,l⟩
 ·subst ey
  obtain⟨z,hd,vs,rel,dd⟩:=zkz I.hok e
  obtain⟨w',hw,rw'⟩:=RelO.some_of (v:=v) (o:=valueAt vs k) (by rw[l];exact rel.val k)
  exact wpAny_getItem_of (zkT ry) dd.mapOf hw (h w' _ (I.tok _) rw')
 ·subst ey
  cases (show u=Value.ref b from ry)
  obtain⟨z,hd,xs,rel,dd⟩:=zlj I.hok e
  obtain⟨w',hw,rw'⟩:=RelO.some_of (v:=v) (o:=(atKey xs k).map (·.2)) (by rw[l];exact rel.val k)
  obtain⟨p,hp,hp2⟩:=Option.map_eq_some_iff.mp hw
  refine wpAny_getItem_heap (tupleKind_room_in1 hu) (zh5 I.hok eb) dd hp ?_
  rw[hp2]
  exact h w' _ (I.tok _) rw'
theorem zfa {h':Heap}{t':Nat}{ob:HO}(I:Inv X pins σ H s)(mu:Mut (H a))(hs:Heap.SameBut a s.heap h')(he:∃q,h'.get? a=some q)(new:ObjOk X.prog X.w (upd H a ob) h' a ob) :
  Inv X pins σ (upd H a ob) {s with heap:=h',toks:=t'} :=
 I.write (x:=a) (e:=a) mu (.inl rfl) (λb q hb z=>(hs.2 b hb).trans z) he new
theorem zjY {P:Program}{w:World}{H':Hp}{h':Heap}{kvs:List (Key×V)}{vs:List (Key×Value)}(z:kvs.length<=sizeLine)(hd:(a == sysModules)=false)(rel:KV kvs vs)(dd:h'.DictOf (yW P w) a vs) :
  ObjOk P w H' h' a (.dK kvs):=⟨z,hd,vs,rel,dd⟩
theorem zgG {H':Hp}{Q:Unit->Shared->Prop}(hu:A.units+1<cLine)(I:Inv X pins σ H s)(g:DPut H a y v H')(ry:RelV y u)(rv:RelV v r)(h:∀s',Inv X pins σ H' s'->Q () s') :
  wpAny (model X.prog X.w) A (setItem (.ref a) u r) Q E s:=by
 rcases g with⟨kvs,k,e,ey,l,eH⟩|⟨kvs,k,b,e,ey,eb,l,eH⟩
 ·subst ey eH
  obtain⟨z,hd,vs,rel,dd⟩:=zlK I.hok e
  have hz:vs.length<=sizeLine:=by rw[← rel.length];exact z
  have hl:(putK kvs k v).length<=sizeLine:=by have:=vY kvs k v;omega
  refine wpAny_setItem_pairs (hsz:=hz) (zkT ry) dd λh' dd' hs=>h _ ?_
  have he:∃q,h'.get? a=some q:=let ⟨q,_,_,hq,_⟩:=dd';⟨q,hq⟩
  exact zfa I (by rw[e];exact True.intro) hs he (zjY hl hd (rel.put k rv) dd')
 ·subst ey eH
  cases (show u=Value.ref b from ry)
  obtain⟨z,hd,xs,rel,dd⟩:=zoe I.hok e
  have hz:xs.length<=sizeLine:=by rw[← Paired.length rel];exact z
  have hl:(putK kvs k v).length<=sizeLine:=by have:=vY kvs k v;omega
  refine wpAny_setItem_heap (hsz:=hz) (tupleKind_room_in1 hu) (zh5 I.hok eb) dd λh' dd' hs=>h _ ?_
  obtain⟨q,es,ep,hq,h2,h3,h4,_,h5⟩:=dd'
  refine zfa I (by rw[e];exact True.intro) hs ⟨q,hq⟩ ⟨hl,hd,_,(rel.put k eb rv).keeps λc ys ec=>?_,q,es,ep,hq,h2,h3,h4,h5⟩
  rw[zP (znO ec e (λz=>nomatch z))]
  exact ec
end
def zn1 (i:Expr):Prop:=∀ov iv,subscripted i false ov iv=operate [ov,iv] (getItem ov iv)
theorem zlu {prog:Program}{w:World}{A:Around}{E:Value->Shared->Prop}{s:Shared}{env:Env}{value slice:Expr}{pos:Pos}{T id:String}{Q:Value->Shared->Prop}
  (hl:typeLookup (.type T) "__getitem__" = pure (some (.builtin id))) (hs:zn1 slice)
  (h:wpAny (model prog w) A (eval value env) (λo s₁=>wpAny (model prog w) A (eval slice env) (λi s₂=>s₂.TypeIs o T/\wpAny (model prog w) A (getItem o i) Q E s₂) E s₁) E s) :
  wpAny (model prog w) A (eval (.Subscript value slice pos) env) Q E s:=by
 refine Subscript_ (lbm h (λo s₁ h₁=>lbm h₁ (λi s₂ h₂=>?_) λ_ _ x=>x) λ_ _ x=>x)
 obtain⟨hT,h₂⟩:=h₂
 unfold subscriptTail
 refine la ?_
 rw[getitemInPython_of_ne hT.not_modules]
 refine la (wpAny_specialOf hT hl ?_)
 have fin:wpAny (model prog w) A (subscripted slice false o i) (λr s₃=>wpAny (model prog w) A (letTemporaryGo value o r >>= λ_=>pure r) Q E s₃) E s₂:=by
  rw[hs o i]
  exact wpAny_operating (lbm h₂ (λr s₃ h₃=>la (wpAny_letTemporaryGo (lc h₃))) λ_ _ x=>x)
 first
  | exact lc (la fin)
  | exact la (lc (la fin))
  | exact la fin
theorem zez {X:Cx}{pins:List (Addr×Obj)}{σ:St}{H:Hp}{s:Shared}{a:Addr}{y:V}{o:Option V}(I:Inv X pins σ H s)(g:DGet H a y o):s.TypeIs (.ref a) "dict" := by
 rcases g with⟨kvs,k,e,_,_⟩|⟨kvs,k,b,e,_,_,_⟩
 ·obtain⟨_,_,vs,_,dd⟩:=zkz I.hok e
  exact dd.typeIs
 ·obtain⟨_,_,xs,_,dd⟩:=zlj I.hok e
  exact dd.typeIs
def znY (td ty:TE):TE:=λσ H Q=>td σ H λx H1=>ty σ H1 λy H2=>∃a v,x=.ref a/\DGet H2 a y (some v)/\Q v H2
def zol (td ty tv:TE):TS:=λD σ H=>tv σ H λv H1=>td σ H1 λx H2=>ty σ H2 λy H3=>∃a H4,x=.ref a/\DPut H3 a y v H4/\D.nx σ H4
section
variable {X:Cx}{o i e value:Expr}{pos pos' tpos:Pos}{td ty tv:TE}
theorem zk5 (hu:X.A.units+1<cLine)(ho:PE X o td)(hi:PE X i ty)(hs:zn1 i):PE X (.Subscript o i pos) (znY td ty):=by
 intro pins s σ H Q I h
 refine zlu PySem.F.slot_dict_getitem.lookup hs (thn (ho pins s σ H _ I h) λu s1 ⟨x,H1,I1,rx,q1⟩=>thn (hi pins s1 σ H1 _ I1 q1) λiv s2 hq25=>?_)
 obtain⟨y,H2,I2,ry,a,v,ex,g,q2⟩:=hq25
 subst ex
 obtain rfl:u=Value.ref a:=rx
 exact⟨zez I2 g,zic hu I2 g ry λw' s3 I3 rw'=>⟨v,H2,I3,rw',q2⟩⟩
theorem zkL (hu:X.A.units+1<cLine)(ho:PE X o td)(hi:PE X i ty)(hv:PE X value tv)(hs:swapsWith value (some (.Subscript o i pos')) pos.line X.env=pure false) :
  PS X (.Assign [.Subscript o i pos'] value pos) (zol td ty tv):=by
 intro pins s σ H D I h
 refine wpAny_Assign_Subscript (thn (hv pins s σ H _ I h) λr s1 ⟨v,H1,I1,rv,q1⟩=>thn (ho pins s1 σ H1 _ I1 q1) λu s2 ⟨x,H2,I2,rx,q2⟩=>thn (hi pins s2 σ H2 _ I2 q2) λiv s3 ⟨y,H3,I3,ry,a,H4,ex,g,q3⟩=>?_) hs
 subst ex
 obtain rfl:u=Value.ref a:=rx
 exact zgG hu I3 g ry rv λs4 I4=>⟨σ,H4,I4,q3⟩
end
theorem ziI {P:Program}{w:World}{H:Hp}(h:Heap)(hb:sysModules<h.objs.size):ObjOk P w H (h.push {cls:=.type "dict", data:=.dict #[]}) h.objs.size (.dK []) :=
 ⟨lbJ _,lbO.mpr (lbb (lO hb)),[],.nil,Heap.DictOf.new h⟩
def zmN:TE:=λ_ H Q=>∀p,H p=none->Q (.ref p) (upd H p (.dK []))
section
variable {X:Cx}{pos:Pos}
theorem zjv:PE X (.Dict [] [] pos) zmN:=λpins s σ H Q I h =>
 wpAny_Dict_empty ⟨.ref s.heap.objs.size,_,I.laid (a:=s.heap.objs.size) (o:=.dK []) (t':=s.toks) (λ_ _ q=>lb _ q) (lr _) (ziI s.heap I.big),rfl,h _ (I.hok.fresh (lr _))⟩
end
def zdR (kvs more:List (Key×V)):List (Key×V):=more.foldl (λacc kv=>putK acc kv.1 kv.2) kvs
theorem KV.merge:∀{more:List (Key×V)}{rs:List (Key×Value)}{kvs:List (Key×V)}{vs:List (Key×Value)},KV more rs->KV kvs vs->KV (zdR kvs more) (merged vs rs):=by
 intro more rs kvs vs r
 unfold KV at r
 induction r generalizing kvs vs with
 | nil=>intro q;exact q
 | @cons p q ps qs h t ih =>
  intro r0
  have e:KV (putK kvs p.1 p.2) (stored vs q.1 q.2):=by
   have:=r0.put p.1 h.2
   rw[← h.1];exact this
  exact ih e
theorem j8:∀(more kvs:List (Key×V)),(zdR kvs more).length<=kvs.length+more.length
 | [],kvs=>by show kvs.length<=kvs.length+0;omega
 | p::r,kvs=>by
  have h1:=j8 r (putK kvs p.1 p.2)
  have h2:=vY kvs p.1 p.2
  show(zdR (putK kvs p.1 p.2) r).length<=_
  rw[lC];omega
end L2
namespace Att
open PySem PySem.W PySem.Calls PyProof.Rows
theorem zbS {P:Params}{h:Heap}:∀(ns:List Int) (vs:List Value),WellAll P h vs (ns.map WData.int)->IntsAre vs ns:=by
 intro ns
 induction ns with
 | nil =>
  intro vs w
  rw[laT] at w
  cases w
  exact .nil
 | cons n ns ih =>
  intro vs w
  rw[lw] at w
  cases w with
  | cons a b =>
   cases a
   exact .cons _ _ (ih _ b)
theorem zh8 {l:OpenLaw}{n:Nat}(hn:l.most=some n){P:Params}{h:Heap}{args:List WData}{vals:List Value}
  (hpre:l.row.toRowW.claim.pre args=true) (hwl:WellAll P h vals args) :
  ∃a vs ns,vals=[Value.ref a]/\args=[WData.list (ns.map WData.int)]/\h.get? a=some {cls:=.type "list", data:=.seq vs.toArray}/\IntsAre vs ns/\ns.length<=n:=by
 have hsh:WShape.hasAll [] args [.list .int]=true:=(pre_splitW hpre).1
 have hc:l.pre.holds [] {args:=args}=true:=(pre_splitW hpre).2
 obtain⟨d,r,rfl,h1,h2⟩:=hasAllW_cons hsh
 obtain rfl:=hasAllW_nil h2
 obtain⟨xs,rfl,h3⟩:=hasW_list h1
 obtain⟨ns,rfl⟩:=items_int h3
 have hlen:ns.length<=n:=by
  unfold OpenLaw.pre at hc
  have h4:(WTm.not (.lt (.lit (.int (n:Int))) (.len (.arg 0)))).holds [] {args:=[.list (ns.map .int)]}=true:=by
   have h4:=(holds_andW hc).1
   rw[hn] at h4
   exact h4
  have h5:=condW_of h4 (w_not (w_lt w_lit (w_len_list (w_arg rfl))))
  rw[lh] at h5
  refine ldZ λq=>?_
  have q':(n:Int)<((ns.length:Nat):Int):=by omega
  first
   | (rw[lW q'] at h5;exact absurd h5 (by decide))
   | (simp at h5;omega)
 cases hwl with
 | cons w1 w2 =>
  cases w2
  cases w1 with
  | list ho hall=>exact⟨_,_,ns,rfl,rfl,ho,zbS ns _ hall,hlen⟩
theorem zix (l:OpenLaw)(args:List WData):l.row.toRowW.claim.post args (.bool true) args=true :=
 postW_of (r:=l.row.toRowW) (X:=(true == true))
  (show WShape.has [] (.bool true) .bool=true by first|rfl|decide|simp[WShape.has,WShape.arms,WShape.armsAll])
  (show(WTm.eq .res (.lit (.bool true))).value [] {args:=args,res:=some (.bool true),after:=args}=some (.bool (true == true)) from w_eq_bool (w_res rfl) w_lit) rfl
theorem attach_call {l:OpenLaw}{n:Nat}{q:Program}{loose:List Str}{XP:(Str->Option Value)->Heap->Prop}{YP:World->Heap->Prop}{d:DefRec}
  (hn:l.most=some n) (hdf:d.params.defaults=[])
  (call:∀(w:World) (s₀ s₁:Shared) (mg mb:Str->Option Value) (fa:Addr) (o:Obj) (pm cd doc:Value) (a:Addr) (vs:List Value) (ns:List Int),
   Ground q loose [] XP w s₀ mg mb s₁.heap->YP w s₁.heap ->
   s₁.heap.get? fa=some o->o.data=.func (docDef d.name d.params d.body d.scope pm cd doc)->s₁.heap.CodeRec cd d.name->mg d.name=some (.ref fa) ->
   s₁.heap.get? a=some {cls:=.type "list", data:=.seq vs.toArray}->IntsAre vs ns->ns.length<=n->s₁.gens = #[] ->
   codeAny (model l.prog w) callerA (.call (.ref fa) ⟨[.ref a],[]⟩) (λr s'=>r=.ok (.ret (.bool true))/\OldK s₁.heap s'.heap/\s'.os=s₁.os/\AllBare s'.gens) s₁) :
  WalkO q loose XP YP l.row.toRowW d [] (λf vs=>PySem.call f vs):=by
 intro w s₀ s₁ mg mb G Y fa o pm cd doc dV kV ho hd hcd hD hmg hg args vals as hpre hlay hrd hwl hlo
 obtain rfl:dV=.none:=Dflts.none hD hdf
 obtain rfl:kV=.none:=Dflts.noKw hD
 obtain⟨a,vs,ns,rfl,rfl,hobj,hints,hlen⟩:=zh8 hn hpre hwl
 refine enter_call (lcK (call w s₀ s₁ mg mb fa o pm cd doc a vs ns G Y ho (fd_plain hd) hcd hmg hobj hints hlen hg) λr s' hq=>?_)
 obtain⟨rfl,h2,h3,h4⟩:=hq
 exact⟨.inl ⟨.bool true,.bool true,[],rfl,λ_=>rfl,.bool true,zix l _,λ_=>⟨List.Pairwise.nil,λ_ hm=>(nomatch hm)⟩⟩,h2,h3,h4⟩
section
variable {prog:Program}{w:World}{A:Around}{E:Value->Shared->Prop}{s:Shared}{K:Frag}
end
end Att
namespace L2
open PySem PySem.Spec PyProof.Rows
theorem zds:∀{vs:List Value}{ns:List Int},IntsAre vs ns->Vals (ns.map V.int) vs
 | _,_,.nil=>.nil
 | _,_,.cons n t h=>.cons ⟨t,rfl⟩ (zds h)
def Only (H:Hp):Prop:=∀b,H b=none∨∃o xs,H b=some (.frz o (.lst xs))
theorem ziQ {P:Program}{w:World}{K:PySem.W.Frag}{mg mb:Str->Option Value}{CX:CXT}{k:Nat}{fa a:Addr}{fd:FuncData}{x:Str}{sp:Sp}{s₁:Shared}{vs:List Value}{ns:List Int}
  (KX:K.In s₁.heap) (hns:s₁.heap.Ns mainGlobals mg) (hb:s₁.heap.Ns builtinsNs mb) (hbb:∀x:Str,x ≠ "__name__" -> mb x=bootBuiltins x) (hlim:s₁.heap.NoLimit) (hg:s₁.gens = #[])
  (ha:s₁.heap.get? a=some {cls:=.type "list", data:=.seq vs.toArray}) (hi:IntsAre vs ns) (hl:ns.length<=sizeLine) (hr:Room k callerA)
  (F:∀base:Heap,K.In base->base.Ns mainGlobals mg->FnOk P w K mg base CX k fa fd [x] sp) (hbind:∀(s:Shared) (u:Value),BindsTo s fd ⟨[u],[]⟩ [(x,u)])
  (hsp:∀H:Hp,Only H->SqL K H a (ns.map V.int)->sp [.ref a] H (λv _=>v=.bl true) λ_ _ _=>False)
  (hCX:∀H e s',CX [] H s₁ (λ_ _ _=>False) e s'->False) :
  codeAny (model P w) callerA (.call (.ref fa) ⟨[.ref a],[]⟩) (λr s'=>r=.ok (.ret (.bool true))/\OldK s₁.heap s'.heap/\s'.os=s₁.os/\AllBare s'.gens) s₁:=by
 have rv:=zds hi
 have lenV:=hi.length
 have core:∀H:Hp,Only H->SqL K H a (ns.map V.int)->HOk P w H s₁.heap->(∀b,H b≠none->b=a)->(H a≠none->K.lookup a=none) ->
   codeAny (model P w) callerA (.call (.ref fa) ⟨[.ref a],[]⟩) (λr s'=>r=.ok (.ret (.bool true))/\OldK s₁.heap s'.heap/\s'.os=s₁.os/\AllBare s'.gens) s₁:=by
  intro H hO hS hok hA hK
  have base_of:∀{b:Addr}{o:Obj},s₁.heap.get? b=some o->H b=none->(zjs s₁.heap H).get? b=some o:=λe n=>zjh e n
  have noA:∀{b:Addr}{o:Obj}{es:Array DictEntry}{ep:Nat},s₁.heap.get? b=some o->o.data=.dict es ep->H b=none:=λ{b o es ep} e d=>by
   cases q:H b with
   | none=>rfl
   | some u =>
    have e':b=a:=hA b (by rw[q];simp)
    subst e'
    rw[ha] at e;cases e
    have d':Data.seq vs.toArray _=Data.dict es ep:=d
    cases d'
  have nsK:∀{b:Addr}{m:Str->Option Value},s₁.heap.Ns b m->(zjs s₁.heap H).Ns b m:=λ{b m} ⟨o,es,ep,e,d,r⟩=>⟨o,es,ep,base_of e (noA e d),d,r⟩
  have hKb:K.In (zjs s₁.heap H):=λb o e=>base_of (KX b o e) (by
   cases q:H b with
   | none=>rfl
   | some u =>
    have e':b=a:=hA b (by rw[q];simp)
    subst e'
    rw[hK (by rw[q];simp)] at e;cases e)
  have hM:Mod K mg (zjs s₁.heap H):=⟨hKb,nsK hns,⟨mb,nsK hb,hbb⟩,let ⟨mc,h1,h2⟩:=hlim;⟨mc,nsK h1,h2⟩⟩
  have e0:Env0 P w K mg (zjs s₁.heap H) callerA [] s₁ H:=⟨rfl,hM,λb o e=>zlC e,Nat.le_of_eq (zg1 _ _),trivial,λb hb=>absurd (show b∈([]:List Addr) from hb) (by simp),hok,.of_eq hg⟩
  refine lcK ((F _ hKb (nsK hns)).run callerA [] s₁ H ⟨[.ref a],[]⟩ [.ref a] [.ref a] _ _ hr e0 (hbind s₁ (.ref a)) (.cons rfl .nil) (hsp H hO hS)) λr s' h=>?_
  cases r with
  | error e=>exact(hCX H e s' h).elim
  | ok fl =>
   cases fl with
   | next=>exact False.elim h
   | brk=>exact False.elim h
   | cont=>exact False.elim h
   | ret u =>
    obtain⟨v,H',os,bare,un,hok',r',q⟩:=h
    have q':v=.bl true:=q
    subst q'
    obtain rfl:u=Value.bool true:=r'
    refine⟨rfl,OldK.of_keep λb o e=>?_,os,bare⟩
    cases q:H b with
    | none=>exact un.keep b o e q (by intro z;exact absurd (show b∈([]:List Addr) from z) (by simp)) (by simp)
    | some u =>
     rcases hO b with z|⟨ob,xs,z⟩
     ·rw[q] at z;cases z
     ·have z2:=un.frzs b ob _ z
      obtain⟨e1,_⟩:=hok b _ z
      obtain⟨e2,_⟩:=hok' b _ z2
      rw[e] at e1;cases e1
      exact e2
 cases hk:K.lookup a with
 | some o =>
  have e:=KX a o hk
  rw[ha] at e
  cases e
  refine core (λ_=>none) (λ_=>.inl rfl) (.inr ⟨_,vs.toArray,_,hk,rfl,rfl,rfl,by rw[lF,lenV];exact hl,by simpa using rv⟩) (λb u z=>by have z':(none:Option HO)=some u:=z;cases z') (λb z=>absurd rfl z) λz=>absurd rfl z
 | none =>
  refine core (λb=>if b=a then some (.frz {cls:=.type "list", data:=.seq vs.toArray} (.lst (ns.map V.int))) else none) (λb=>?_) (.inl (.inr ⟨{cls:=.type "list", data:=.seq vs.toArray},lH rfl⟩)) (λb u z=>?_) (λb z=>?_) λ_=>hk
  ·by_cases hb:b=a
   ·exact .inr ⟨_,_,lH hb⟩
   ·exact .inl (lap hb)
  ·by_cases hb:b=a
   ·have z':=(lH hb).symm.trans z
    cases z'
    subst hb
    exact⟨ha,by rw[lh];exact hl,vs,_,rv,ha⟩
   ·have z':=(lap hb).symm.trans z
    cases z'
  ·by_cases hb:b=a
   ·exact hb
   ·exact absurd (lap hb) z
theorem walk_of {l:PySem.W.OpenLaw}{n k:Nat}{q:Program}{loose:List Str}{XP:(Str->Option Value)->Heap->Prop}{YP:World->Heap->Prop}{d:DefRec}{K:Params->PySem.W.Frag}{CX:World->CXT}{sp:World->Sp}{x:Str}
  (hn:l.most=some n) (hn2:n<=sizeLine) (hdf:d.params.defaults=[]) (hr:Room k callerA)
  (hY:∀(w:World) (h:Heap),YP w h->(K w.params).In h)
  (F : ∀(w:World) (mg:Str->Option Value) (fa:Addr) (h:Heap),(K w.params).In h->h.Ns mainGlobals mg->mg d.name=some (.ref fa) ->
   ∃ fd:FuncData,(∀(s:Shared) (u:Value),BindsTo s fd ⟨[u],[]⟩ [(x,u)]) /\
    ∀base:Heap,(K w.params).In base->base.Ns mainGlobals mg->FnOk l.prog w (K w.params) mg base (CX w) k fa fd [x] (sp w))
  (hsp:∀(w:World) (H:Hp) (a:Addr) (ns:List Int),ns.length<=n->Only H->SqL (K w.params) H a (ns.map V.int)->sp w [.ref a] H (λv _=>v=.bl true) λ_ _ _=>False)
  (hCX:∀(w:World) (H:Hp) (s:Shared) (e:Value) (s':Shared),CX w [] H s (λ_ _ _=>False) e s'->False) :
  PySem.W.WalkO q loose XP YP l.row.toRowW d [] (λf vs=>PySem.call f vs):=by
 refine Att.attach_call hn hdf λw s₀ s₁ mg mb fa o pm cd doc a vs ns G Y ho hd hcd hmg hobj hints hlen hg=>?_
 have KX:=hY w _ Y
 obtain⟨fd,hb,hF⟩:=F w mg fa _ KX G.T.g hmg
 exact ziQ KX G.T.g G.T.b G.T.builtins G.T.nolimit hg hobj hints (laj hlen hn2) hr hF hb (λH hO hS=>hsp w H a ns hlen hO hS) λH e s'=>hCX w H s₁ e s'
def zaJ (s:Stmt):Arguments:=match s with
 | .FunctionDef _ a _ _ _ _ _ _ _ _=>a
 | _=>{posonlyargs:=[],args:=[],vararg:=none,kwonlyargs:=[],kw_defaults:=[],kwarg:=none,defaults:=[]}
def uV (s:Stmt):List Stmt:=match s with
 | .FunctionDef _ _ b _ _ _ _ _ _ _=>b
 | _=>[]
def zy (s:Stmt):Scope:=match s with
 | .FunctionDef _ _ _ _ _ _ sc _ _ _=>sc
 | _=>{kind:=.function,names:=[],isGenerator:=false,isCoroutine:=false}
abbrev CX0:CXT:=λ_ _ _ _ _ _=>False
abbrev E0:XK:=λ_ _ _=>False
structure Fun (K:PySem.W.Frag)(x qual:Str)(st:Stmt)(f:Addr)(fd:FuncData):Prop where
 ex:∃(oc:Value) (od:Option Addr) (kV doc pm:Value) (an:Option Addr) (cdv ct:Value) (osl:Array (Option Value)),
  fd=PySem.W.fnOf x qual (zaJ st) (uV st) (zy st) .none kV doc pm an cdv ct/\K.lookup f=some ⟨oc,od,.func fd,osl⟩/\PySem.W.codeIn K cdv qual=true
 kp:PySem.W.keepIn K (.ref f)=true
section
variable {P:Program}{w:World}{K:PySem.W.Frag}{mg:Str->Option Value}{base:Heap}
theorem Fun.ok {x qual:Str}{st:Stmt}{f:Addr}{fd:FuncData}{N ps:List Str}{k:Nat}{sp:Sp}(F:Fun K x qual st f fd)(S:FnScope N ps (zy st))(len:∀vs H Q E,sp vs H Q E->vs.length=ps.length)
  (hbody:∀(cdv:Value) (A:Around) (outer:List Env) (s:Shared) (H:Hp) (vs:List V) (Q:VK) (E:XK),Room k (A.deeper (envOfC qual (zy st) s.heap.objs.size f cdv))->sp vs H Q E ->
   ∃t,PSs (zaX CX0 P w K mg base N qual (zy st) f cdv A outer s H E).nox (uV st) t/\t {nx:=λ_ H'=>Q .non H',rt:=Q} (start N vs) H):FnOk P w K mg base CX0 (k+1) f fd ps sp:=by
 obtain⟨oc,od,kV,doc,pm,an,cdv,ct,osl,rfl,lk,hcd⟩:=F.ex
 refine zm2 lk hcd S len λA outer s H vs Q E hr hsp=>?_
 obtain⟨t,h,q⟩:=hbody cdv A outer s H vs Q E hr hsp
 exact⟨t,h.nox,q⟩
theorem Fun.binds {x qual:Str}{st:Stmt}{f:Addr}{fd:FuncData}{ps:List Str}(F:Fun K x qual st f fd)
  (h:∀(kV doc pm:Value) (an:Option Addr) (cdv ct:Value) (us:List Value),us.length=ps.length->bindArgs (PySem.W.fnOf x qual (zaJ st) (uV st) (zy st) .none kV doc pm an cdv ct) ⟨us,[]⟩=pure (ps.zip us)):Binds K fd ps []:=by
 obtain⟨oc,od,kV,doc,pm,an,cdv,ct,osl,rfl,lk,hcd⟩:=F.ex
 exact .all (h kV doc pm an cdv ct)
theorem zif {x qual:Str}{st:Stmt}{f:Addr}{oc:Value}{od an:Option Addr}{osl:Array (Option Value)}{kV doc pm cdv ct:Value}(l:K.lookup f=some ⟨oc,od,.func (PySem.W.fnOf x qual (zaJ st) (uV st) (zy st) .none kV doc pm an cdv ct),osl⟩)
  (c:PySem.W.codeIn K cdv qual=true) (k:PySem.W.keepIn K (.ref f)=true):Fun K x qual st f (PySem.W.fnOf x qual (zaJ st) (uV st) (zy st) .none kV doc pm an cdv ct):=⟨⟨oc,od,kV,doc,pm,an,cdv,ct,osl,rfl,l,c⟩,k⟩
end
theorem zd3 {A:Around}{k:Nat}(hr:Room k A):A.units+1<cLine:=ldw (Nat.add_le_add_left (by decide:1<=64) _) hr.units
section
variable {X:Cx}
theorem pv (i:Nat){x:Str}{pos:Pos}(hN:X.N[i]? = some x:=by rfl)(hv:Vis X.env.scope x:=by first|exact Or.inl rfl|exact Or.inr (Or.inl rfl)|exact Or.inr (Or.inr rfl))(hd:(x == ("__debug__" : Str))=false:=by decide)
  (hcd:(x == ("__classdict__" : Str))=false:=by decide):PE X (.Name x pos) (ziy i):=znw hN hv hd hcd
end
def Same (H H':Hp):Prop:=∀b o,H b=some o->H' b=some o
theorem Same.refl (H:Hp):Same H H:=λ_ _ h=>h
theorem Same.trans {H H1 H2:Hp}(a:Same H H1)(b:Same H1 H2):Same H H2:=λc o h=>b c o (a c o h)
theorem Same.free {H H':Hp}(e:Same H H'){l:Addr}(h:H' l=Option.none):H l=Option.none:=by
 cases q:H l with
 | none=>rfl
 | some o =>
  rw[e l o q] at h
  cases h
theorem Same.seq {K:PySem.W.Frag}{H H':Hp}{a:Addr}{xs:List V}(e:Same H H')(h:SqL K H a xs):SqL K H' a xs:=by
 rcases h with(h|⟨o,h⟩)|h
 ·exact .inl (.inl (e _ _ h))
 ·exact .inl (.inr ⟨o,e _ _ h⟩)
 ·exact .inr h
end L2
namespace My
def low (u d:Int):Int×Int:=(u / (Int.gcd u d:Int),d / (Int.gcd u d:Int))
def znR (x y:Int×Int):Int×Int:=low (x.1*y.2+y.1*x.2) (x.2*y.2)
def zhA (x y:Int×Int):Bool:=decide (x.1*y.2<y.1*x.2)
theorem zgU {u d:Int}(h:0<d):0<(Int.gcd u d:Int):=by
 have:0<Int.gcd u d:=Int.gcd_pos_of_ne_zero_right _ (by omega)
 omega
theorem wQ {u d:Int}(hd:0<d):∃g:Int,0<g/\u=g*(low u d).1/\d=g*(low u d).2/\0<(low u d).2/\Int.gcd (low u d).1 (low u d).2=1:=by
 have hg:=zgU (u:=u) hd
 refine⟨(Int.gcd u d:Int),hg,?_,?_,?_,?_⟩
 ·exact(Int.mul_ediv_cancel' (Int.gcd_dvd_left ..)).symm
 ·exact(Int.mul_ediv_cancel' (ldI ..)).symm
 ·exact Int.ediv_pos_of_pos_of_dvd hd (lau hg) (ldI ..)
 ·have:=Int.gcd_ediv_gcd_ediv_gcd (i:=u) (j:=d) (by omega)
  exact this
theorem zh3 {u d:Int}(hd:0<d):0<(low u d).2:=by
 obtain⟨g,_,_,_,h,_⟩:=wQ (u:=u) hd
 exact h
theorem zcj {u d:Int}(hd:0<d)(hu:0<=u):0<=(low u d).1:=by
 obtain⟨g,hg,e,_,_,_⟩:=wQ (u:=u) hd
 apply laF
 intro h
 have:=Int.mul_neg_of_pos_of_neg hg (show(low u d).1<0 by omega)
 omega
theorem zgM {u d:Int}(hd:0<d):u*(low u d).2=(low u d).1*d:=by
 obtain⟨g,_,e1,e2,_,_⟩:=wQ (u:=u) hd
 have:(g*(low u d).1)*(low u d).2=(low u d).1*(g*(low u d).2):=by grind
 rw[← e1,← e2] at this
 exact this
theorem zgj {a b c d:Int}(hb:0<b)(hd:0<d)(h1:Int.gcd a b=1)(h2:Int.gcd c d=1)(h:a*d=c*b):(a,b)=(c,d):=by
 have hbd:b ∣ d:=by
  have:b ∣ a*d:=⟨c,by rw[h,laY]⟩
  have q:=Int.dvd_gcd_mul_iff_dvd_mul.mpr this
  rw[Int.gcd_comm,h1] at q
  simpa using q
 have hdb:d ∣ b:=by
  have:d ∣ c*b:=⟨a,by rw[← h,laY]⟩
  have q:=Int.dvd_gcd_mul_iff_dvd_mul.mpr this
  rw[Int.gcd_comm,h2] at q
  simpa using q
 have e:b=d:=Int.dvd_antisymm (lau hb) (lau hd) hbd hdb
 subst e
 have:a=c:=Int.eq_of_mul_eq_mul_right (by omega) h
 rw[this]
theorem ziw {a b c d:Int}(hb:0<b)(hd:0<d)(h:a*d=c*b):low a b=low c d:=by
 obtain⟨g,hg,e1,e2,p1,k1⟩:=wQ (u:=a) hb
 obtain⟨g',hg',e3,e4,p2,k2⟩:=wQ (u:=c) hd
 have key:∀x y z w:Int,a=g*x->b=g*y->c=g'*z->d=g'*w->x*w=z*y:=by
  intro x y z w e1 e2 e3 e4
  have hk:g*g'≠0:=by
   intro z0
   rcases Int.mul_eq_zero.mp z0 with q|q <;>omega
  apply Int.eq_of_mul_eq_mul_left hk
  have:g*x*(g'*w)=g'*z*(g*y):=by rw[← e1,← e2,← e3,← e4];exact h
  grind
 exact zgj (a:=(low a b).1) (b:=(low a b).2) (c:=(low c d).1) (d:=(low c d).2) p1 p2 k1 k2 (key _ _ _ _ e1 e2 e3 e4)
theorem zjD {d:Int}(hd:0<d):low 0 d=(0,1):=by
 have:low 0 d=low 0 1:=ziw hd (by decide) (by simp)
 rw[this]
 rfl
theorem zij {a b c d:Int}(hb:0<b)(hd:0<d):zhA (low a b) (low c d)=decide (a*d<c*b):=by
 obtain⟨g,hg,e1,e2,p1,k1⟩:=wQ (u:=a) hb
 obtain⟨g',hg',e3,e4,p2,k2⟩:=wQ (u:=c) hd
 unfold zhA
 generalize (low a b).1=x at *
 generalize (low a b).2=y at *
 generalize (low c d).1=z at *
 generalize (low c d).2=w at *
 subst e1 e2 e3 e4
 have hk:0<g*g':=ldn hg hg'
 have q1:g*x*(g'*w)=(g*g')*(x*w):=by grind
 have q2:g'*z*(g*y)=(g*g')*(z*y):=by grind
 rw[q1,q2]
 rw[decide_eq_decide]
 constructor
 ·intro h;exact laZ h hk
 ·intro h;exact Int.lt_of_mul_lt_mul_left h (lau hk)
theorem zmo {u d:Int}(hd:0<d)(hu:0<=u):(low u d).1<=u/\(low u d).2<=d:=by
 obtain⟨g,hg,e1,e2,p1,k1⟩:=wQ (u:=u) hd
 have h0:=zcj hd hu
 constructor
 ·have:1*(low u d).1<=g*(low u d).1:=lak (by omega) h0
  omega
 ·have:1*(low u d).2<=g*(low u d).2:=lak (by omega) (by omega)
  omega
end My
namespace Zp
open PySem
section
variable {prog:Program}{w:World}{A:Around}{E:Value->Shared->Prop}{s:Shared}
theorem zaK {it t:Addr}{i:Nat}{items}{x:Value}{Q:Value->Shared->Prop}(hit:s.heap.IsTupleIter it t i)
  (ht:s.heap.IsTuple t items) (hx:items[i]? = some x)
  (hQ:∀h',h'.IsTupleIter it t (i+1)->Heap.SameBut it s.heap h'->Q x {s with heap:=h'}) :
  wpAny (model prog w) A (Builtin.SmallTypes.nextOf (.ref it)) Q E s:=by
 obtain⟨o,ho,hc,hd⟩:=id hit
 obtain⟨ol,hol,_,nl,hdl⟩:=ht
 unfold Builtin.SmallTypes.nextOf
 refine la (lP (name:=Str.ofString "__next__") hit.typeIs lbU
  (lU lbU hit.typeIs F.entry_tuple_iterator_next ?_ (F.args_tuple_iterator_next_1 _)))
 show wpAny _ _ (field (.ref it) 0 >>= _) _ _ s
 refine la (lai ho hd (x:=.ref t) rfl ?_)
 show wpAny _ _ (if (Value.ref t == Value.none)=true then _ else _) _ _ s
 rw[lap (show ¬((Value.ref t == Value.none)=true) from lD)]
 show wpAny _ _ (field (.ref it) 1 >>= _) _ _ s
 refine la (lai ho hd (x:=.int i 0) rfl ?_)
 show wpAny _ _ (seqItems? (.ref t) >>= _) _ _ s
 refine la (la7 hol hdl ?_)
 simp only[laK,hx]
 refine la (lbp ho hd (by simp) (lc ⟨x,rfl,lc (hQ _ ?_ (lam ..))⟩))
 exact ⟨_,lav _ ho (ldc (lbW hd _)),(ldJ ..).trans hc,by
  rw[lbW hd];simp[rawInt]⟩
theorem zbb {it t:Addr}{i:Nat}{items}{Q:Value->Shared->Prop}(hh:A.handled=none)
  (hit:s.heap.IsTupleIter it t i) (ht:s.heap.IsTuple t items) (hx:items[i]? = none)
  (hE:∀h' e,Heap.ExtBut it s.heap h'->(∃o,h'.get? e=some o/\o.cls=.type "StopIteration")->E (.ref e) {s with heap:=h'}) :
  wpAny (model prog w) A (Builtin.SmallTypes.nextOf (.ref it)) Q E s:=by
 obtain⟨o,ho,hc,hd⟩:=id hit
 obtain⟨ol,hol,_,nl,hdl⟩:=ht
 unfold Builtin.SmallTypes.nextOf
 refine la (lP (name:=Str.ofString "__next__") hit.typeIs lbU
  (lU lbU hit.typeIs F.entry_tuple_iterator_next ?_ (F.args_tuple_iterator_next_1 _)))
 show wpAny _ _ (field (.ref it) 0 >>= _) _ _ s
 refine la (lai ho hd (x:=.ref t) rfl ?_)
 show wpAny _ _ (if (Value.ref t == Value.none)=true then _ else _) _ _ s
 rw[lap (show ¬((Value.ref t == Value.none)=true) from lD)]
 show wpAny _ _ (field (.ref it) 1 >>= _) _ _ s
 refine la (lai ho hd (x:=.int i 0) rfl ?_)
 show wpAny _ _ (seqItems? (.ref t) >>= _) _ _ s
 refine la (la7 hol hdl ?_)
 simp only[laK,hx]
 refine la (lcf (la (lbp ho hd (by simp) ?_)))
 show wpAny _ _ (newExc (.type "StopIteration") [] >>= _) _ _ _
 refine la ?_
 simp only[newExc,newTuple]
 refine la (laf ?_ (by size_fits))
 refine la (m:=firstArgMember _ _) (ldQ (a:=Value.none) (by first|rfl|(simp only[firstArgMember];rfl)) ?_)
 refine laf ?_ (by size_fits)
 simp only[raiseNew]
 refine la (ldR ?_)
 first|rw[show A.in1.handled=none from hh] | rw[hh]
 refine la (lc (wpAny_throw ?_))
 exact hE _ _ (((lam ..).extBut.push _).push _) ⟨_,lj _ rfl,rfl⟩
theorem zau {it:Addr}{x:Str}{t:Tok}{i c:Nat}{Q:Value->Shared->Prop}(hit:s.heap.IsStrIter it "str_ascii_iterator" x t i)(hx:x.cps[i]? = some c)
  (hQ:∀h',h'.IsStrIter it "str_ascii_iterator" x t (i+1)->Heap.SameBut it s.heap h'->Q (.str ⟨#[c]⟩ s.toks) {s with heap:=h',toks:=s.toks+1}) :
  wpAny (model prog w) A (Builtin.SmallTypes.nextOf (.ref it)) Q E s:=by
 obtain⟨o,ho,hc,hd⟩:=id hit
 unfold Builtin.SmallTypes.nextOf
 refine la (lP (name:=Str.ofString "__next__") hit.typeIs lbH
  (lU lbH hit.typeIs F.entry_str_ascii_iterator_next ?_ (F.args_str_ascii_iterator_next_1 _)))
 show wpAny _ _ (field (.ref it) 0 >>= _) _ _ s
 refine la (lai ho hd (x:=.str x t) rfl ?_)
 show wpAny _ _ (field (.ref it) 1 >>= _) _ _ s
 refine la (lai ho hd (x:=.int i 0) rfl ?_)
 simp only[laK,hx]
 refine la (lbp ho hd (by simp) (la (wpAny_mkStr (lc ⟨_,rfl,lc (hQ _ ?_ (lam ..))⟩) (by show 1<=sizeLine;decide))))
 exact ⟨_,lav _ ho (ldc (lbW hd _)),(ldJ ..).trans hc,by
  rw[lbW hd];simp[rawInt]⟩
theorem za9 {it:Addr}{x:Str}{t:Tok}{i:Nat}{Q:Value->Shared->Prop}(hh:A.handled=none)
  (hit:s.heap.IsStrIter it "str_ascii_iterator" x t i) (hx:x.cps[i]? = none)
  (hE:∀h' e,Heap.ExtBut it s.heap h'->(∃o,h'.get? e=some o/\o.cls=.type "StopIteration")->E (.ref e) {s with heap:=h'}) :
  wpAny (model prog w) A (Builtin.SmallTypes.nextOf (.ref it)) Q E s:=by
 obtain⟨o,ho,hc,hd⟩:=id hit
 unfold Builtin.SmallTypes.nextOf
 refine la (lP (name:=Str.ofString "__next__") hit.typeIs lbH
  (lU lbH hit.typeIs F.entry_str_ascii_iterator_next ?_ (F.args_str_ascii_iterator_next_1 _)))
 show wpAny _ _ (field (.ref it) 0 >>= _) _ _ s
 refine la (lai ho hd (x:=.str x t) rfl ?_)
 show wpAny _ _ (field (.ref it) 1 >>= _) _ _ s
 refine la (lai ho hd (x:=.int i 0) rfl ?_)
 simp only[laK,hx]
 refine la (lcf (la (lbp ho hd (by simp) (la (wpAny_letGo ?_)))))
 show wpAny _ _ (newExc (.type "StopIteration") [] >>= _) _ _ _
 refine la ?_
 simp only[newExc,newTuple]
 refine la (laf ?_ (by size_fits))
 refine la (m:=firstArgMember _ _) (ldQ (a:=Value.none) (by first|rfl|(simp only[firstArgMember];rfl)) ?_)
 refine laf ?_ (by size_fits)
 simp only[raiseNew]
 refine la (ldR ?_)
 first|rw[show A.in1.handled=none from hh] | rw[hh]
 refine la (lc (wpAny_throw ?_))
 exact hE _ _ (((lam ..).extBut.push _).push _) ⟨_,lj _ rfl,rfl⟩
end
abbrev IsZipF (h:Heap)(z TI TO:Addr)(f0 f1:Value):Prop :=
 h.get? z=some {cls:=.type "zip", dict:=none,data:=.fields #[f0,f1,.bool false,.ref TI,.ref TO],slots:=#[]}
structure Apart (z TI TO i1 i2:Addr):Prop where
 TIz:TI≠z
 TOz:TO≠z
 i1z:i1≠z
 i2z:i2≠z
 TITO:TI≠TO
 TIi1:TI≠i1
 TIi2:TI≠i2
 TOi1:TO≠i1
 TOi2:TO≠i2
 i12:i1≠i2
def Yields (prog:Program)(w:World)(A:Around)(it:Addr)(G:Heap->Prop)(P:Value->Prop)(S:Heap->Prop):Prop :=
 ∀ (s:Shared) (Q:Value->Shared->Prop) (E:Value->Shared->Prop),G s.heap->(∀x h' tk,P x->S h'->Heap.SameBut it s.heap h'->Q x {s with heap:=h',toks:=tk}) ->
  wpAny (model prog w) A (Builtin.SmallTypes.nextOf (.ref it)) Q E s
def Ends (prog:Program)(w:World)(A:Around)(it:Addr)(G:Heap->Prop):Prop :=
 ∀ (s:Shared) (Q:Value->Shared->Prop) (E:Value->Shared->Prop),G s.heap->(∀h' e,Heap.ExtBut it s.heap h'->(∃o,h'.get? e=some o/\o.cls=.type "StopIteration")->E (.ref e) {s with heap:=h'}) ->
  wpAny (model prog w) A (Builtin.SmallTypes.nextOf (.ref it)) Q E s
section
variable {prog:Program}{w:World}{A:Around}{E:Value->Shared->Prop}{s:Shared}
theorem next_item {z TI TO i1 i2:Addr}{a b f1:Value}{P1 P2:Value->Prop}{G1 G2 S1 S2:Heap->Prop}{Q:Value->Shared->Prop}(D:Apart z TI TO i1 i2)
  (hz:IsZipF s.heap z TI TO .none f1) (hTI:IsPair s.heap TI (.ref i1) (.ref i2)) (hTO:IsPair s.heap TO a b)
  (Y1:Yields prog w A i1 G1 P1 S1) (Y2:Yields prog w A i2 G2 P2 S2)
  (g1:∀h',(∀c o,c≠z->s.heap.get? c=some o->h'.get? c=some o)->G1 h') (g2:∀h',(∀c o,c≠z->c≠TO->c≠i1->s.heap.get? c=some o->h'.get? c=some o)->G2 h')
  (k1:∀h h',S1 h->(∀c o,c≠z->c≠TO->c≠i2->h.get? c=some o->h'.get? c=some o)->S1 h')
  (k2:∀h h',S2 h->(∀c o,c≠z->c≠TO->h.get? c=some o->h'.get? c=some o)->S2 h')
  (hQ:∀x y h' tk,P1 x->P2 y->IsZipF h' z TI TO (rawInt s.heap.objs.size) (.bool false)->IsPair h' TO x y->S1 h'->S2 h'->IsPair h' s.heap.objs.size x y->h'.objs.size=s.heap.objs.size+1 ->
   (∀c o,c≠z->c≠TO->c≠i1->c≠i2->s.heap.get? c=some o->h'.get? c=some o)->Q (.ref s.heap.objs.size) {s with heap:=h',toks:=tk}) :
  wpAny (model prog w) A (Builtin.«zip.__next__» ⟨[.ref z],[]⟩) (λfin s'=>∃v,fin=.done (.ret v)/\Q v s') E s:=by
 show wpAny _ _ (field (.ref z) 2 >>= _) _ _ _
 refine la (lai hz rfl (x:=.bool false) rfl ?_)
 show wpAny _ _ (field (.ref z) 3 >>= _) _ _ _
 refine la (lai hz rfl (x:=.ref TI) rfl ?_)
 refine la (la7 hTI rfl ?_)
 show wpAny _ _ (Builtin.SmallTypes.ownedTupleIsFree (.ref z) >>= _) _ _ _
 refine la ?_
 unfold Builtin.SmallTypes.ownedTupleIsFree
 refine la (lai hz rfl (x:=.none) rfl (lc ?_))
 simp only[lbD]
 refine la (lcf ?_)
 refine la (lai hz rfl (x:=.ref TO) rfl ?_)
 refine la (lby hz (by simp) λh₁ hz₁ hs₁=>?_)
 replace hz₁:IsZipF h₁ z TI TO .ellipsis f1:=hz₁
 refine la ?_
 simp only[List.zipIdx_cons,List.zipIdx_nil,lb6,lcg]
 refine la (la (ldS ?_))
 show wpAny _ _ (Builtin.SmallTypes.nextOf (.ref i1) >>= _) _ _ _
 refine la (Y1 _ _ _ (g1 _ λc o hc e=>hs₁.extBut _ _ hc e) λx h₂ tk₂ px st1 hs₂=>lc ?_)
 have hTO₂:IsPair h₂ TO a b:=hs₂.extBut _ _ D.TOi1 (hs₁.extBut _ _ D.TOz hTO)
 refine la (la7 hTO₂ rfl ?_)
 refine la (ldh hTO₂ λh₃ hTO₃ hs₃=>?_)
 replace hTO₃:IsPair h₃ TO x b:=hTO₃
 refine la (wpAny_letGo (lc ?_))
 refine la (la (ldS ?_))
 show wpAny _ _ (Builtin.SmallTypes.nextOf (.ref i2) >>= _) _ _ _
 refine la (Y2 _ _ _ (g2 _ λc o c1 c2 c3 e=>hs₃.extBut _ _ c2 (hs₂.extBut _ _ c3 (hs₁.extBut _ _ c1 e))) λy h₄ tk₄ py st2 hs₄=>lc ?_)
 have hTO₄:IsPair h₄ TO x b:=hs₄.extBut _ _ D.TOi2 hTO₃
 refine la (la7 hTO₄ rfl ?_)
 refine la (ldh hTO₄ λh₅ hTO₅ hs₅=>?_)
 replace hTO₅:IsPair h₅ TO x y:=hTO₅
 refine la (wpAny_letGo (lc (lc ?_)))
 refine la (la7 hTO₅ rfl ?_)
 refine la (wpAny_newTuple ?_)
 have hsz:h₅.objs.size=s.heap.objs.size:=by rw[hs₅.1,hs₄.1,hs₃.1,hs₂.1,hs₁.1]
 have hz₅:IsZipF h₅ z TI TO .ellipsis f1:=hs₅.extBut _ _ D.TOz.symm (hs₄.extBut _ _ D.i2z.symm (hs₃.extBut _ _ D.TOz.symm (hs₂.extBut _ _ D.i1z.symm hz₁)))
 have hk₅:∀c o,c≠z->c≠TO->c≠i1->c≠i2->s.heap.get? c=some o->h₅.get? c=some o:=λc o c1 c2 c3 c4 e =>
  hs₅.extBut _ _ c2 (hs₄.extBut _ _ c4 (hs₃.extBut _ _ c2 (hs₂.extBut _ _ c3 (hs₁.extBut _ _ c1 e))))
 have hzlt:z<h₅.objs.size:=lu hz₅
 show wpAny _ _ (Builtin.SmallTypes.ownedTupleHandOut (.ref z) (.ref h₅.objs.size) >>= _) _ _ _
 refine la ?_
 unfold Builtin.SmallTypes.ownedTupleHandOut
 have hz₆:IsZipF (h₅.push {cls:=.type "tuple", data:=.seq #[x,y]}) z TI TO .ellipsis f1:=lb _ hz₅
 refine la (lby hz₆ (by simp) λh₇ hz₇ hs₇=>?_)
 replace hz₇:IsZipF h₇ z TI TO (rawInt h₅.objs.size) f1:=hz₇
 refine lby hz₇ (by simp) λh₈ hz₈ hs₈=>?_
 replace hz₈:IsZipF h₈ z TI TO (rawInt h₅.objs.size) (.bool false):=hz₈
 have up:∀c o,c≠z->h₅.get? c=some o->h₈.get? c=some o:=λc o c1 e=>hs₈.extBut _ _ c1 (hs₇.extBut _ _ c1 (lb _ e))
 have hT₈:IsPair h₈ h₅.objs.size x y:=hs₈.extBut _ _ (laS hzlt) (hs₇.extBut _ _ (laS hzlt) (lj _ rfl))
 have hz8:h₈.objs.size=h₅.objs.size+1:=by rw[hs₈.1,hs₇.1,laa]
 have q1:S1 h₈:=k1 h₂ h₈ st1 λc o c1 c2 c4 e=>up c o c1 (hs₅.extBut _ _ c2 (hs₄.extBut _ _ c4 (hs₃.extBut _ _ c2 e)))
 have q2:S2 h₈:=k2 h₄ h₈ st2 λc o c1 c2 e=>up c o c1 (hs₅.extBut _ _ c2 e)
 rw[hsz] at hz₈ hT₈ hz8
 refine lc ⟨_,rfl,?_⟩
 show Q (.ref h₅.objs.size) _
 rw[hsz]
 exact hQ x y h₈ _ px py hz₈ (up _ _ D.TOz hTO₅) q1 q2 hT₈ hz8 λc o c1 c2 c3 c4 e=>up c o c1 (hk₅ c o c1 c2 c3 c4 e)
theorem next_end {z TI TO i1 i2:Addr}{a b f1:Value}{P1:Value->Prop}{G1 G2 S1:Heap->Prop}{Q:Fin->Shared->Prop}(D:Apart z TI TO i1 i2)
  (hz:IsZipF s.heap z TI TO .none f1) (hTI:IsPair s.heap TI (.ref i1) (.ref i2)) (hTO:IsPair s.heap TO a b)
  (hend:Ends prog w A i1 G1∨(Yields prog w A i1 G1 P1 S1/\Ends prog w A i2 G2))
  (g1:∀h',(∀c o,c≠z->s.heap.get? c=some o->h'.get? c=some o)->G1 h') (g2:∀h',(∀c o,c≠z->c≠TO->c≠i1->s.heap.get? c=some o->h'.get? c=some o)->G2 h')
  (hE:∀h' tk e,(∀c o,c≠z->c≠TO->c≠i1->c≠i2->s.heap.get? c=some o->h'.get? c=some o)->(∃o,h'.get? e=some o/\o.cls=.type "StopIteration")->E (.ref e) {s with heap:=h',toks:=tk}) :
  wpAny (model prog w) A (Builtin.«zip.__next__» ⟨[.ref z],[]⟩) Q E s:=by
 show wpAny _ _ (field (.ref z) 2 >>= _) _ _ _
 refine la (lai hz rfl (x:=.bool false) rfl ?_)
 show wpAny _ _ (field (.ref z) 3 >>= _) _ _ _
 refine la (lai hz rfl (x:=.ref TI) rfl ?_)
 refine la (la7 hTI rfl ?_)
 show wpAny _ _ (Builtin.SmallTypes.ownedTupleIsFree (.ref z) >>= _) _ _ _
 refine la ?_
 unfold Builtin.SmallTypes.ownedTupleIsFree
 refine la (lai hz rfl (x:=.none) rfl (lc ?_))
 simp only[lbD]
 refine la (lcf ?_)
 refine la (lai hz rfl (x:=.ref TO) rfl ?_)
 refine la (lby hz (by simp) λh₁ hz₁ hs₁=>?_)
 replace hz₁:IsZipF h₁ z TI TO .ellipsis f1:=hz₁
 refine la ?_
 simp only[List.zipIdx_cons,List.zipIdx_nil,lb6,lcg]
 refine la (la (ldS ?_))
 show wpAny _ _ (Builtin.SmallTypes.nextOf (.ref i1) >>= _) _ _ _
 rcases hend with E1|⟨Y1,E2⟩
 ·refine la (E1 _ _ _ (g1 _ λc o hc e=>hs₁.extBut _ _ hc e) λh₂ e hs₂ he=>?_)
  obtain⟨oe,hoe,hce⟩:=he
  have hz₂:IsZipF h₂ z TI TO .ellipsis f1:=hs₂ _ _ D.i1z.symm hz₁
  have hez:e≠z:=λx=>by subst x;rw[hz₂] at hoe;cases hoe;simp at hce
  refine lby hz₂ (by simp) λh₃ _ hs₃=>hE h₃ _ e (λc o c1 _ c3 _ x=>hs₃.extBut _ _ c1 (hs₂ _ _ c3 (hs₁.extBut _ _ c1 x))) ⟨oe,hs₃.extBut _ _ hez hoe,hce⟩
 ·refine la (Y1 _ _ _ (g1 _ λc o hc e=>hs₁.extBut _ _ hc e) λx h₂ tk₂ px st1 hs₂=>lc ?_)
  have hTO₂:IsPair h₂ TO a b:=hs₂.extBut _ _ D.TOi1 (hs₁.extBut _ _ D.TOz hTO)
  refine la (la7 hTO₂ rfl ?_)
  refine la (ldh hTO₂ λh₃ hTO₃ hs₃=>?_)
  refine la (wpAny_letGo (lc ?_))
  refine la (la (ldS ?_))
  show wpAny _ _ (Builtin.SmallTypes.nextOf (.ref i2) >>= _) _ _ _
  refine la (E2 _ _ _ (g2 _ λc o c1 c2 c3 e=>hs₃.extBut _ _ c2 (hs₂.extBut _ _ c3 (hs₁.extBut _ _ c1 e))) λh₄ e hs₄ he=>?_)
  obtain⟨oe,hoe,hce⟩:=he
  have hz₄:IsZipF h₄ z TI TO .ellipsis f1:=hs₄ _ _ D.i2z.symm (hs₃.extBut _ _ D.TOz.symm (hs₂.extBut _ _ D.i1z.symm hz₁))
  have hez:e≠z:=λx=>by subst x;rw[hz₄] at hoe;cases hoe;simp at hce
  refine lby hz₄ (by simp) λh₅ _ hs₅=>hE h₅ _ e (λc o c1 c2 c3 c4 x=>hs₅.extBut _ _ c1 (hs₄ _ _ c4 (hs₃.extBut _ _ c2 (hs₂.extBut _ _ c3 (hs₁.extBut _ _ c1 x))))) ⟨oe,hs₅.extBut _ _ hez hoe,hce⟩
end
section
variable {prog:Program}{w:World}{A:Around}{E:Value->Shared->Prop}{s:Shared}
theorem alive {a:Addr}{o:Obj}{Q:Option Obj->Shared->Prop}(ho:s.heap.get? a=some o)(h:Q (some o) s):wpAny (model prog w) A (loadIfAlive a) Q E s:=by
 have h':Q (s.heap.get? a) s:=by rw[ho];exact h
 exact λ_ _ _=>h'
theorem zeq {z TI TO i1 i2 T:Addr}{oT:Obj}{P1 P2:Value->Prop}{fb:Bool}{G1 G2 S1 S2:Heap->Prop}{Q:Value->Shared->Prop}(D:Apart z TI TO i1 i2)
  (hz:IsZipF s.heap z TI TO (rawInt T) (.bool fb)) (hTI:IsPair s.heap TI (.ref i1) (.ref i2)) (hT:s.heap.get? T=some oT)
  (Y1:Yields prog w A i1 G1 P1 S1) (Y2:Yields prog w A i2 G2 P2 S2)
  (g1:∀h',(∀c o,c≠z->s.heap.get? c=some o->h'.get? c=some o)->G1 h') (g2:∀h',(∀c o,c≠z->c≠i1->s.heap.get? c=some o->h'.get? c=some o)->G2 h')
  (k1:∀h h',S1 h->(∀c o,c≠i2->h.get? c=some o->h'.get? c=some o)->S1 h')
  (k2:∀h h',S2 h->(∀c o,h.get? c=some o->h'.get? c=some o)->S2 h')
  (hQ:∀x y h' tk,P1 x->P2 y->IsZipF h' z TI TO (rawInt T) (.bool true)->S1 h'->S2 h'->IsPair h' s.heap.objs.size x y->h'.objs.size=s.heap.objs.size+1 ->
   (∀c o,c≠z->c≠i1->c≠i2->s.heap.get? c=some o->h'.get? c=some o)->Q (.ref s.heap.objs.size) {s with heap:=h',toks:=tk}) :
  wpAny (model prog w) A (Builtin.«zip.__next__» ⟨[.ref z],[]⟩) (λfin s'=>∃v,fin=.done (.ret v)/\Q v s') E s:=by
 show wpAny _ _ (field (.ref z) 2 >>= _) _ _ _
 refine la (lai hz rfl (x:=.bool false) rfl ?_)
 show wpAny _ _ (field (.ref z) 3 >>= _) _ _ _
 refine la (lai hz rfl (x:=.ref TI) rfl ?_)
 refine la (la7 hTI rfl ?_)
 show wpAny _ _ (Builtin.SmallTypes.ownedTupleIsFree (.ref z) >>= _) _ _ _
 refine la ?_
 unfold Builtin.SmallTypes.ownedTupleIsFree
 refine la (lai hz rfl (x:=rawInt T) rfl ?_)
 show wpAny _ _ (loadIfAlive ((T:Int).toNat) >>= _) _ _ _
 rw[laK]
 refine la (alive hT ?_)
 simp only[Option.isNone_some,lS,lbx]
 refine la (lai hz rfl (x:=.bool fb) rfl ?_)
 cases fb with
 | true =>
  rw[lap (show ¬((Value.bool true != Value.bool true)=true) from lD)]
  refine lc ?_
  simp only[lS,lbx]
  have HZ:=hz
  have HS:Heap.SameBut z s.heap s.heap:=ldK _ _
  rw[← lcV]
  simp only[lb6,lcg]
  refine la (la (la (lay ?_)))
  show wpAny _ _ (Builtin.SmallTypes.nextOf (.ref i1) >>= _) _ _ _
  refine la (Y1 _ _ _ (g1 _ λc o hc e=>HS.extBut _ _ hc e) λx h₂ tk₂ px st1 hs₂=>lc (lc ?_))
  refine la (la (lay ?_))
  show wpAny _ _ (Builtin.SmallTypes.nextOf (.ref i2) >>= _) _ _ _
  refine la (Y2 _ _ _ (g2 _ λc o c1 c3 e=>hs₂.extBut _ _ c3 (HS.extBut _ _ c1 e)) λy h₄ tk₄ py st2 hs₄=>lc (lc (lc ?_)))
  refine la (wpAny_newTuple ?_ (by show 2<=sizeLine;decide))
  have hsz:h₄.objs.size=s.heap.objs.size:=by rw[hs₄.1,hs₂.1,HS.1]
  have hz₄:IsZipF h₄ z TI TO (rawInt T) (.bool true):=hs₄.extBut _ _ D.i2z.symm (hs₂.extBut _ _ D.i1z.symm HZ)
  refine lc ⟨_,rfl,?_⟩
  show Q (.ref h₄.objs.size) _
  rw[hsz]
  have hp:IsPair (h₄.push {cls:=.type "tuple", data:=.seq #[x,y]}) s.heap.objs.size x y:=by rw[← hsz];exact lj _ rfl
  exact hQ x y _ _ px py (lb _ hz₄) (k1 h₂ _ st1 λc o hc e=>lb _ (hs₄.extBut _ _ hc e)) (k2 h₄ _ st2 λc o e=>lb _ e) hp (by rw[laa,hsz])
   λc o c1 c3 c4 e=>lb _ (hs₄.extBut _ _ c4 (hs₂.extBut _ _ c3 (HS.extBut _ _ c1 e)))
 | false =>
  rw[lH (show(Value.bool false != Value.bool true)=true from rfl)]
  refine la (lby hz (by simp) λh₁ hz₁ HS=>?_)
  replace HS:Heap.SameBut z s.heap h₁:=HS
  have HZ:IsZipF h₁ z TI TO (rawInt T) (.bool true):=hz₁
  refine lc ?_
  simp only[lS,lbx]
  rw[← lcV]
  simp only[lb6,lcg]
  refine la (la (la (lay ?_)))
  show wpAny _ _ (Builtin.SmallTypes.nextOf (.ref i1) >>= _) _ _ _
  refine la (Y1 _ _ _ (g1 _ λc o hc e=>HS.extBut _ _ hc e) λx h₂ tk₂ px st1 hs₂=>lc (lc ?_))
  refine la (la (lay ?_))
  show wpAny _ _ (Builtin.SmallTypes.nextOf (.ref i2) >>= _) _ _ _
  refine la (Y2 _ _ _ (g2 _ λc o c1 c3 e=>hs₂.extBut _ _ c3 (HS.extBut _ _ c1 e)) λy h₄ tk₄ py st2 hs₄=>lc (lc (lc ?_)))
  refine la (wpAny_newTuple ?_ (by show 2<=sizeLine;decide))
  have hsz:h₄.objs.size=s.heap.objs.size:=by rw[hs₄.1,hs₂.1,HS.1]
  have hz₄:IsZipF h₄ z TI TO (rawInt T) (.bool true):=hs₄.extBut _ _ D.i2z.symm (hs₂.extBut _ _ D.i1z.symm HZ)
  refine lc ⟨_,rfl,?_⟩
  show Q (.ref h₄.objs.size) _
  rw[hsz]
  have hp:IsPair (h₄.push {cls:=.type "tuple", data:=.seq #[x,y]}) s.heap.objs.size x y:=by rw[← hsz];exact lj _ rfl
  exact hQ x y _ _ px py (lb _ hz₄) (k1 h₂ _ st1 λc o hc e=>lb _ (hs₄.extBut _ _ hc e)) (k2 h₄ _ st2 λc o e=>lb _ e) hp (by rw[laa,hsz])
   λc o c1 c3 c4 e=>lb _ (hs₄.extBut _ _ c4 (hs₂.extBut _ _ c3 (HS.extBut _ _ c1 e)))
theorem ziz {z TI TO i1 i2 T:Addr}{oT:Obj}{P1:Value->Prop}{fb:Bool}{G1 G2 S1:Heap->Prop}{Q:Fin->Shared->Prop}(D:Apart z TI TO i1 i2)
  (hz:IsZipF s.heap z TI TO (rawInt T) (.bool fb)) (hTI:IsPair s.heap TI (.ref i1) (.ref i2)) (hT:s.heap.get? T=some oT)
  (hend:Ends prog w A i1 G1∨(Yields prog w A i1 G1 P1 S1/\Ends prog w A i2 G2))
  (g1:∀h',(∀c o,c≠z->s.heap.get? c=some o->h'.get? c=some o)->G1 h') (g2:∀h',(∀c o,c≠z->c≠i1->s.heap.get? c=some o->h'.get? c=some o)->G2 h')
  (hE:∀h' tk e,(∀c o,c≠z->c≠i1->c≠i2->s.heap.get? c=some o->h'.get? c=some o)->(∃o,h'.get? e=some o/\o.cls=.type "StopIteration")->E (.ref e) {s with heap:=h',toks:=tk}) :
  wpAny (model prog w) A (Builtin.«zip.__next__» ⟨[.ref z],[]⟩) Q E s:=by
 show wpAny _ _ (field (.ref z) 2 >>= _) _ _ _
 refine la (lai hz rfl (x:=.bool false) rfl ?_)
 show wpAny _ _ (field (.ref z) 3 >>= _) _ _ _
 refine la (lai hz rfl (x:=.ref TI) rfl ?_)
 refine la (la7 hTI rfl ?_)
 show wpAny _ _ (Builtin.SmallTypes.ownedTupleIsFree (.ref z) >>= _) _ _ _
 refine la ?_
 unfold Builtin.SmallTypes.ownedTupleIsFree
 refine la (lai hz rfl (x:=rawInt T) rfl ?_)
 show wpAny _ _ (loadIfAlive ((T:Int).toNat) >>= _) _ _ _
 rw[laK]
 refine la (alive hT ?_)
 simp only[Option.isNone_some,lS,lbx]
 refine la (lai hz rfl (x:=.bool fb) rfl ?_)
 cases fb with
 | true =>
  rw[lap (show ¬((Value.bool true != Value.bool true)=true) from lD)]
  refine lc ?_
  simp only[lS,lbx]
  have HS:Heap.SameBut z s.heap s.heap:=ldK _ _
  rw[← lcV]
  simp only[lb6,lcg]
  refine la (la (la (lay ?_)))
  show wpAny _ _ (Builtin.SmallTypes.nextOf (.ref i1) >>= _) _ _ _
  rcases hend with E1|⟨Y1,E2⟩
  ·refine la (E1 _ _ _ (g1 _ λc o hc e=>HS.extBut _ _ hc e) λh₂ e hs₂ he=>?_)
   exact hE h₂ _ e (λc o c1 c3 _ x=>hs₂ _ _ c3 (HS.extBut _ _ c1 x)) he
  ·refine la (Y1 _ _ _ (g1 _ λc o hc e=>HS.extBut _ _ hc e) λx h₂ tk₂ px st1 hs₂=>lc (lc ?_))
   refine la (la (lay ?_))
   show wpAny _ _ (Builtin.SmallTypes.nextOf (.ref i2) >>= _) _ _ _
   refine la (E2 _ _ _ (g2 _ λc o c1 c3 e=>hs₂.extBut _ _ c3 (HS.extBut _ _ c1 e)) λh₄ e hs₄ he=>?_)
   exact hE h₄ _ e (λc o c1 c3 c4 x=>hs₄ _ _ c4 (hs₂.extBut _ _ c3 (HS.extBut _ _ c1 x))) he
 | false =>
  rw[lH (show(Value.bool false != Value.bool true)=true from rfl)]
  refine la (lby hz (by simp) λh₁ hz₁ HS=>?_)
  replace HS:Heap.SameBut z s.heap h₁:=HS
  refine lc ?_
  simp only[lS,lbx]
  rw[← lcV]
  simp only[lb6,lcg]
  refine la (la (la (lay ?_)))
  show wpAny _ _ (Builtin.SmallTypes.nextOf (.ref i1) >>= _) _ _ _
  rcases hend with E1|⟨Y1,E2⟩
  ·refine la (E1 _ _ _ (g1 _ λc o hc e=>HS.extBut _ _ hc e) λh₂ e hs₂ he=>?_)
   exact hE h₂ _ e (λc o c1 c3 _ x=>hs₂ _ _ c3 (HS.extBut _ _ c1 x)) he
  ·refine la (Y1 _ _ _ (g1 _ λc o hc e=>HS.extBut _ _ hc e) λx h₂ tk₂ px st1 hs₂=>lc (lc ?_))
   refine la (la (lay ?_))
   show wpAny _ _ (Builtin.SmallTypes.nextOf (.ref i2) >>= _) _ _ _
   refine la (E2 _ _ _ (g2 _ λc o c1 c3 e=>hs₂.extBut _ _ c3 (HS.extBut _ _ c1 e)) λh₄ e hs₄ he=>?_)
   exact hE h₄ _ e (λc o c1 c3 c4 x=>hs₄ _ _ c4 (hs₂.extBut _ _ c3 (HS.extBut _ _ c1 x))) he
end
end Zp
set_option maxHeartbeats 2000000
namespace Zp
open PySem
section
variable {prog:Program}{w:World}{A:Around}
theorem yields_tuple {it t:Addr}{i:Nat}{items:Array Value}{x:Value}(hne:t≠it)(hx:items[i]? = some x) :
  Yields prog w A it (λh=>h.IsTupleIter it t i/\h.IsTuple t items) (λv=>v=x) (λh=>h.IsTupleIter it t (i+1)/\h.IsTuple t items) :=
 λs Q E g hQ=>zaK g.1 g.2 hx λh' st sb=>hQ _ h' s.toks rfl ⟨st,g.2.extBut sb.extBut hne⟩ sb
theorem ends_tuple {it t:Addr}{i:Nat}{items:Array Value}(hh:A.handled=none)(hx:items[i]? = none) :
  Ends prog w A it (λh=>h.IsTupleIter it t i/\h.IsTuple t items) :=
 λs Q E g hE=>zbb hh g.1 g.2 hx hE
theorem yields_ascii {it:Addr}{x:Str}{t:Tok}{i c:Nat}(hx:x.cps[i]? = some c) :
  Yields prog w A it (λh=>h.IsStrIter it "str_ascii_iterator" x t i) (λv=>∃u,v=.str ⟨#[c]⟩ u) (λh=>h.IsStrIter it "str_ascii_iterator" x t (i+1)) :=
 λs Q E g hQ=>zau g hx λh' st sb=>hQ _ h' _ ⟨_,rfl⟩ st sb
theorem ends_ascii {it:Addr}{x:Str}{t:Tok}{i:Nat}(hh:A.handled=none)(hx:x.cps[i]? = none) :
  Ends prog w A it (λh=>h.IsStrIter it "str_ascii_iterator" x t i) :=
 λs Q E g hE=>za9 hh g hx hE
end
section
variable {prog:Program}{w:World}{A:Around}{E:Value->Shared->Prop}{s:Shared}
abbrev zH2 (h:Heap)(o1 o2:Obj):Heap:=(h.push o1).push o2
abbrev zH3 (h:Heap)(o1 o2:Obj):Heap:=(zH2 h o1 o2).push {cls:=.type "tuple", data:=.seq #[.ref h.objs.size,.ref (h.push o1).objs.size]}
abbrev zH4 (h:Heap)(o1 o2:Obj):Heap:=(zH3 h o1 o2).push {cls:=.type "tuple", data:=.seq #[.none,.none]}
abbrev zH5 (h:Heap)(o1 o2:Obj):Heap:=(zH4 h o1 o2).push {cls:=.type "zip", data:=.fields #[.none,.bool false,.bool false,.ref (zH2 h o1 o2).objs.size,.ref (zH3 h o1 o2).objs.size]}
abbrev tIter (t:Addr):Obj:={cls:=.type "tuple_iterator", data:=.fields #[.ref t,.int 0 0]}
abbrev sIter (x:Str)(t:Tok):Obj:={cls:=.type "str_ascii_iterator", data:=.fields #[.str x t,.int 0 0]}
theorem meets_st_aux {prog:Program}{w:World}{A:Around}{a b:Value}{s:Shared}{h1 h2:Heap}{i1 i2:Addr}{E:Value->Shared->Prop}{Q:Fin->Shared->Prop}
  (p1:∀(Q:Value->Shared->Prop) (E:Value->Shared->Prop),Q (.ref i1) {s with heap:=h1}->wpAny (model prog w) A (pyIter a) Q E s)
  (p2:∀(Q:Value->Shared->Prop) (E:Value->Shared->Prop),Q (.ref i2) {s with heap:=h2}->wpAny (model prog w) A (pyIter b) Q E {s with heap:=h1})
  (hQ:Q (.done (.ret (.ref (h2.objs.size+2)))) {s with heap:=((h2.push {cls:=.type "tuple", data:=.seq #[.ref i1,.ref i2]}).push {cls:=.type "tuple", data:=.seq #[.none,.none]}).push {cls:=.type "zip", data:=.fields #[.none,.bool false,.bool false,.ref h2.objs.size,.ref (h2.objs.size+1)]} }) :
  wpAny (model prog w) A (Builtin.«zip.__new__» ⟨[.type "zip", a,b],[]⟩) Q E s:=by
 obtain⟨hp,g,d,tk,os⟩:=s
 have hsub:=sub_zip
 have z1:(h2.push {cls:=.type "tuple", data:=.seq #[.ref i1,.ref i2]}).objs.size=h2.objs.size+1:=laa ..
 have z2:((h2.push {cls:=.type "tuple", data:=.seq #[.ref i1,.ref i2]}).push {cls:=.type "tuple", data:=.seq #[.none,.none]}).objs.size=h2.objs.size+2:=by rw[laa,z1]
 rw[← z2,← z1] at hQ
 wp_walk using p1 _ _,p2 _ _
 exact hQ
theorem ziO (x:Str)(t:Tok)(l2:Addr)(ys:Array Value)(ha:x.cps.all (· < 128)=true) :
  Meets (Builtin.«zip.__new__» ⟨[.type "zip", .str x t,.ref l2],[]⟩) (λ_ R s=>s.heap.IsTuple l2 ys /\
   R (.ok (.ret (.ref (zH4 s.heap (sIter x t) (tIter l2)).objs.size))) {s with heap:=zH5 s.heap (sIter x t) (tIter l2)}) :=
 .of_wp λprog w A R s h=>by
  obtain⟨hl2,h⟩:=h
  have z3:(zH3 s.heap (sIter x t) (tIter l2)).objs.size=(zH2 s.heap (sIter x t) (tIter l2)).objs.size+1:=laa ..
  have z4:(zH4 s.heap (sIter x t) (tIter l2)).objs.size=(zH2 s.heap (sIter x t) (tIter l2)).objs.size+2:=by rw[laa,z3]
  refine meets_st_aux (h1:=s.heap.push (sIter x t)) (h2:=zH2 s.heap (sIter x t) (tIter l2)) (i1:=s.heap.objs.size) (i2:=(s.heap.push (sIter x t)).objs.size)
   (λQ E q=>ldx ha q) (λQ E q=>lcj (s:={s with heap:=s.heap.push (sIter x t)}) (Heap.IsTuple.push hl2 _) q) ⟨_,rfl,?_⟩
  rw[← z4,← z3]
  exact h
def Made5 (h h':Heap)(o1 o2:Obj):Prop :=
 IsZipF h' (h.objs.size+4) (h.objs.size+2) (h.objs.size+3) .none (.bool false)/\IsPair h' (h.objs.size+2) (.ref h.objs.size) (.ref (h.objs.size+1)) /\
  IsPair h' (h.objs.size+3) .none .none/\h'.get? h.objs.size=some o1/\h'.get? (h.objs.size+1)=some o2/\h'.objs.size=h.objs.size+5/\∀c o,h.get? c=some o->h'.get? c=some o
theorem made5 (h:Heap)(o1 o2:Obj)(f1:o1.isFreed=false)(f2:o2.isFreed=false):Made5 h (zH5 h o1 o2) o1 o2/\(zH4 h o1 o2).objs.size=h.objs.size+4:=by
 have z1:(h.push o1).objs.size=h.objs.size+1:=laa ..
 have z2:(zH2 h o1 o2).objs.size=h.objs.size+2:=by rw[laa,z1]
 have z3:(zH3 h o1 o2).objs.size=h.objs.size+3:=by rw[laa,z2]
 have z4:(zH4 h o1 o2).objs.size=h.objs.size+4:=by rw[laa,z3]
 have z5:(zH5 h o1 o2).objs.size=h.objs.size+5:=by rw[laa,z4]
 have g5:(zH5 h o1 o2).get? (zH4 h o1 o2).objs.size=some _:=lj _ rfl
 have g4:(zH5 h o1 o2).get? (zH3 h o1 o2).objs.size=some _:=lb _ (lj _ rfl)
 have g3:(zH5 h o1 o2).get? (zH2 h o1 o2).objs.size=some _:=lb _ (lb _ (lj _ rfl))
 have g2:(zH5 h o1 o2).get? (h.push o1).objs.size=some o2:=lb _ (lb _ (lb _ (lj _ f2)))
 have g1:(zH5 h o1 o2).get? h.objs.size=some o1:=lb _ (lb _ (lb _ (lb _ (lj _ f1))))
 rw[z2,z3,z4] at g5
 rw[z1,z2] at g3
 rw[z3] at g4
 rw[z1] at g2
 exact⟨⟨g5,g3,g4,g1,g2,z5,λc o x=>lb _ (lb _ (lb _ (lb _ (lb _ x))))⟩,z4⟩
theorem call_zip_st {x:Str}{t:Tok}{l2:Addr}{ys:Array Value}{Q:Value->Shared->Prop}(ha:x.cps.all (· < 128)=true)(hl2:s.heap.IsTuple l2 ys)
  (h:∀h',Made5 s.heap h' (sIter x t) (tIter l2)->Q (.ref (s.heap.objs.size+4)) {s with heap:=h'}) :
  wpAny (model prog w) A (call (.type "zip") [.str x t,.ref l2]) Q E s:=by
 refine callType_new F.called_zip (by decide) (F.typeCall_zip_2 _ _) (F.newCall_zip_2 _ _) (λobj=>F.args_object_init_3 obj _ _) F.entry_zip_new
  (ziO x t l2 ys ha) ⟨hl2,?_⟩
 obtain⟨m,z4⟩:=made5 s.heap (sIter x t) (tIter l2) rfl rfl
 show _/\_
 rw[z4]
 exact⟨⟨_,m.1,rfl⟩,h _ m⟩
end
theorem zbc:typeLookup (.type "zip") "__getattr__" = pure none:=by rw[lcW,lbX];kernel_rfl
theorem zcG:typeLookup (.type "zip") "keys" = pure none:=by rw[lcW,lbX];kernel_rfl
theorem qT:entryFor table "zip.__getattribute__" = some Builtin.«object.__getattribute__» :=
 entryFor_alias (id' := "object.__getattribute__") (by kernel_rfl) (by decide +kernel) (by decide +kernel) (by kernel_rfl)
theorem zf9 (a:Addr)(vs:Array Value)(name:Str)(u:Tok)(hmiss:typeLookup (.type "zip") name=pure none)(hname:(["__module__", "__name__", "__qualname__", "__doc__", "__annotations__"]:List Str).contains name=false)(hsz:name.length+100<=sizeLine:=by size_fits) :
  Meets (Builtin.«object.__getattribute__» ⟨[.ref a,.str name u],[]⟩) (λA R s=>s.heap.get? a=some {cls:=.type "zip", dict:=none,data:=.fields vs,slots:=#[]}/\raisesAttr (.ref a) name A R s) :=
 Meets.of_wp λprog w A R s hs=>by
  obtain⟨hp,g,d,tk,os⟩:=s
  obtain⟨hx,hs⟩:=hs
  have hT:(⟨hp,g,d,tk,os⟩:Shared).TypeIs (.ref a) "zip" := ⟨_,hx,rfl⟩
  unfold Builtin.«object.__getattribute__»
  repeat (any_goals (first|assumption|wp_step))
  simp only[hname,lS,lbx]
  repeat (any_goals (first|assumption|wp_step))
  exact wpAny_raiseAttrError hs.1 hs.2 (attrMsg_fits (by decide +kernel) hsz)
theorem zkY {prog:Program}{w:World}{A:Around}{E:Value->Shared->Prop}{s:Shared}{a:Addr}{vs:Array Value}{Q:Option Value->Shared->Prop}
  (hx:s.heap.get? a=some {cls:=.type "zip", dict:=none,data:=.fields vs,slots:=#[]}) (hA:A.handled=none)
  (h:∀h' tk,(∀b o,s.heap.get? b=some o->h'.get? b=some o)->Q none {s with heap:=h',toks:=tk}) :
  wpAny (model prog w) A (getAttr? (.ref a) "keys") Q E s:=by
 obtain⟨hp,g,d,tk,os⟩:=s
 have hT:∀tk',(⟨hp,g,d,tk',os⟩:Shared).TypeIs (.ref a) "zip" := λ_=>⟨_,hx,rfl⟩
 have f1:=sub_AttributeError
 have f3:=lcX.lookup
 have f4:=lcX.bind (.ref a)
 have f5:=zbc
 unfold getAttr? getAttrBy? getAttrBy
 repeat (any_goals (first|assumption|exact hT _|((with_reducible show wpAny _ _ (call (Value.builtin "zip.__getattribute__") _ _) _ _ _);refine lct lcX (hT _) qT (F.args_zip_getattribute_2 _ _) (zf9 a vs "keys" _ zcG (by decide +kernel) (by decide +kernel)) ⟨hx,hA,λh' tk' e hx'=>?_⟩)|wp_step))
 obtain⟨t',u',he⟩:=hx'.there
 show wpAny _ _ (getattributeRaised _ _ _ _ _ _ _) _ _ _
 unfold getattributeRaised hookBehind onTheHeap hookOrError attributeErrorLeaves
 repeat (any_goals (first|assumption|wp_step))
 exact h _ _ hx'.keeps
structure ZSt (h:Heap)(z TI TO i1 i2 tp d:Addr)(x:Str)(t:Tok)(ys:Array Value)(i:Nat):Prop where
 zip:(∃f1,IsZipF h z TI TO .none (.bool f1))∨∃(T:Addr) (oT:Obj) (fb:Bool),IsZipF h z TI TO (rawInt T) (.bool fb)/\h.get? T=some oT/\T≠z/\T≠TO/\T≠i1/\T≠i2/\T≠d
 ti:IsPair h TI (.ref i1) (.ref i2)
 to:∃a b,IsPair h TO a b
 s1:h.IsStrIter i1 "str_ascii_iterator" x t i
 s2:h.IsTupleIter i2 tp i/\h.IsTuple tp ys
structure ZAp (z TI TO i1 i2 tp d:Addr):Prop where
 D:Apart z TI TO i1 i2
 tz:tp≠z
 tO:tp≠TO
 t1:tp≠i1
 t2:tp≠i2
 dz:d≠z
 dI:d≠TI
 dO:d≠TO
 d1:d≠i1
 d2:d≠i2
 dt:d≠tp
theorem ZSt.dict {h h':Heap}{z TI TO i1 i2 tp d:Addr}{x:Str}{t:Tok}{ys:Array Value}{i:Nat}(Z:ZSt h z TI TO i1 i2 tp d x t ys i)(Y:ZAp z TI TO i1 i2 tp d)
  (k:∀c o,c≠d->h.get? c=some o->h'.get? c=some o):ZSt h' z TI TO i1 i2 tp d x t ys i:=by
 obtain⟨zp,ti,⟨a,b,to⟩,⟨o1,e1,r1⟩,⟨o2,e2,r2⟩,o3,e3,r3⟩:=Z
 refine⟨?_,k _ _ (lbb Y.dI) ti,⟨a,b,k _ _ (lbb Y.dO) to⟩,⟨o1,k _ _ (lbb Y.d1) e1,r1⟩,⟨o2,k _ _ (lbb Y.d2) e2,r2⟩,o3,k _ _ (lbb Y.dt) e3,r3⟩
 rcases zp with⟨f1,hz⟩|⟨T,oT,fb,hz,hT,n1,n2,n3,n4,n5⟩
 ·exact .inl ⟨f1,k _ _ (lbb Y.dz) hz⟩
 ·exact .inr ⟨T,oT,fb,k _ _ (lbb Y.dz) hz,k _ _ n5 hT,n1,n2,n3,n4,n5⟩
section
variable {prog:Program}{w:World}{A:Around}{E:Value->Shared->Prop}{s:Shared}
theorem ZSt.next {z TI TO i1 i2 tp d:Addr}{x:Str}{t:Tok}{ys:Array Value}{i c:Nat}{y:Value}{Q:Option Value->Shared->Prop}(Z:ZSt s.heap z TI TO i1 i2 tp d x t ys i)(Y:ZAp z TI TO i1 i2 tp d)
  (hd:d<s.heap.objs.size) (hc:x.cps[i]? = some c) (hy:ys[i]? = some y)
  (hQ:∀(T:Addr) u h' tk,ZSt h' z TI TO i1 i2 tp d x t ys (i+1)->IsPair h' T (.str ⟨#[c]⟩ u) y->(∀c o,c≠z->c≠TO->c≠i1->c≠i2->s.heap.get? c=some o->h'.get? c=some o)->h'.objs.size=s.heap.objs.size+1->Q (some (.ref T)) {s with heap:=h',toks:=tk}) :
  wpAny (model prog w) A (pyNext (.ref z)) Q E s:=by
 obtain⟨zp,ti,⟨a,b,to⟩,s1,s2⟩:=Z
 have D:=Y.D
 obtain⟨o1,e1,r1⟩:=id s1
 obtain⟨⟨o2,e2,r2⟩,o3,e3,r3⟩:=id s2
 have lt:∀{c:Addr}{o:Obj},s.heap.get? c=some o->s.heap.objs.size≠c:=λe=>laS (lu e)
 have Y1:=yields_ascii (prog:=prog) (w:=w) (A:=A.in1) (it:=i1) (t:=t) hc
 have Y2:=yields_tuple (prog:=prog) (w:=w) (A:=A.in1) Y.t2 hy
 rcases zp with⟨f1,hz⟩|⟨T,oT,fb,hz,hT,n1,n2,n3,n4,n5⟩
 ·have hTy:s.TypeIs (.ref z) "zip" := ⟨_,hz,rfl⟩
  unfold pyNext
  refine la (lbM (lP (name:=Str.ofString "__next__") hTy lbe
   (lU lbe hTy lcc (next_item D hz ti to Y1 Y2 ?_ ?_ ?_ ?_ ?_) (lb7 _))))
  ·exact λh' k=>⟨o1,k _ _ D.i1z e1,r1⟩
  ·exact λh' k=>⟨⟨o2,k _ _ D.i2z D.TOi2.symm D.i12.symm e2,r2⟩,o3,k _ _ Y.tz Y.tO Y.t1 e3,r3⟩
  ·exact λh h' ⟨p1,q1,w1⟩ k=>⟨p1,k _ _ D.i1z D.TOi1.symm D.i12 q1,w1⟩
  ·exact λh h' ⟨⟨p1,q1,w1⟩,p2,q2,w2⟩ k=>⟨⟨p1,k _ _ D.i2z D.TOi2.symm q1,w1⟩,p2,k _ _ Y.tz Y.tO q2,w2⟩
  ·rintro v1 v2 h' tk ⟨u,rfl⟩ rfl z' to' q1 q2 hp hsz k
   refine lc (hQ _ u h' tk ⟨.inr ⟨_,_,false,z',hp,lt hz,lt to,lt e1,lt e2,laS hd⟩,k _ _ D.TIz D.TITO D.TIi1 D.TIi2 ti,⟨_,_,to'⟩,q1,q2⟩ hp k hsz)
 ·have hTy:s.TypeIs (.ref z) "zip" := ⟨_,hz,rfl⟩
  unfold pyNext
  refine la (lbM (lP (name:=Str.ofString "__next__") hTy lbe
   (lU lbe hTy lcc (zeq D hz ti hT Y1 Y2 ?_ ?_ ?_ ?_ ?_) (lb7 _))))
  ·exact λh' k=>⟨o1,k _ _ D.i1z e1,r1⟩
  ·exact λh' k=>⟨⟨o2,k _ _ D.i2z D.i12.symm e2,r2⟩,o3,k _ _ Y.tz Y.t1 e3,r3⟩
  ·exact λh h' ⟨p1,q1,w1⟩ k=>⟨p1,k _ _ D.i12 q1,w1⟩
  ·exact λh h' ⟨⟨p1,q1,w1⟩,p2,q2,w2⟩ k=>⟨⟨p1,k _ _ q1,w1⟩,p2,k _ _ q2,w2⟩
  ·rintro v1 v2 h' tk ⟨u,rfl⟩ rfl z' q1 q2 hp hsz k
   exact lc (hQ _ u h' tk ⟨.inr ⟨T,oT,true,z',k _ _ n1 n3 n4 hT,n1,n2,n3,n4,n5⟩,k _ _ D.TIz D.TIi1 D.TIi2 ti,⟨_,_,k _ _ D.TOz D.TOi1 D.TOi2 to⟩,q1,q2⟩ hp (λc o c1 _ c3 c4 e=>k c o c1 c3 c4 e) hsz)
theorem ZSt.done {z TI TO i1 i2 tp d:Addr}{x:Str}{t:Tok}{ys:Array Value}{i:Nat}{Q:Option Value->Shared->Prop}(hh:A.handled=none)(Z:ZSt s.heap z TI TO i1 i2 tp d x t ys i)(Y:ZAp z TI TO i1 i2 tp d)
  (hend:x.cps[i]? = none∨ys[i]? = none)
  (hQ:∀h' tk,(∀c o,c≠z->c≠TO->c≠i1->c≠i2->s.heap.get? c=some o->h'.get? c=some o)->Q none {s with heap:=h',toks:=tk}) :
  wpAny (model prog w) A (pyNext (.ref z)) Q E s:=by
 obtain⟨zp,ti,⟨a,b,to⟩,s1,s2⟩:=Z
 have D:=Y.D
 obtain⟨o1,e1,r1⟩:=id s1
 obtain⟨⟨o2,e2,r2⟩,o3,e3,r3⟩:=id s2
 have hend':Ends prog w A.in1 i1 (λh=>h.IsStrIter i1 "str_ascii_iterator" x t i)∨(Yields prog w A.in1 i1 (λh=>h.IsStrIter i1 "str_ascii_iterator" x t i) (λ_=>True) (λ_=>True)/\Ends prog w A.in1 i2 (λh=>h.IsTupleIter i2 tp i/\h.IsTuple tp ys)):=by
  cases hc:x.cps[i]? with
  | none=>exact .inl (ends_ascii hh hc)
  | some c =>
   rcases hend with h|h
   ·rw[hc] at h;cases h
   ·exact .inr ⟨λs Q E g hQ=>yields_ascii hc s Q E g λv h' tk _ _ sb=>hQ v h' tk trivial trivial sb,ends_tuple hh h⟩
 rcases zp with⟨f1,hz⟩|⟨T,oT,fb,hz,hT,n1,n2,n3,n4,n5⟩
 ·have hTy:s.TypeIs (.ref z) "zip" := ⟨_,hz,rfl⟩
  unfold pyNext
  refine la (lbM (lP (name:=Str.ofString "__next__") hTy lbe
   (lU lbe hTy lcc (next_end D hz ti to hend' ?_ ?_ ?_) (lb7 _))))
  ·exact λh' k=>⟨o1,k _ _ D.i1z e1,r1⟩
  ·exact λh' k=>⟨⟨o2,k _ _ D.i2z D.TOi2.symm D.i12.symm e2,r2⟩,o3,k _ _ Y.tz Y.tO Y.t1 e3,r3⟩
  ·intro h' tk e k he
   obtain⟨o,ho,hc⟩:=he
   refine la (lcC (T := "StopIteration") (b:=true) ⟨o,ho,hc⟩ ldB ?_)
   exact lc (hQ _ _ k)
 ·have hTy:s.TypeIs (.ref z) "zip" := ⟨_,hz,rfl⟩
  unfold pyNext
  refine la (lbM (lP (name:=Str.ofString "__next__") hTy lbe
   (lU lbe hTy lcc (ziz D hz ti hT hend' ?_ ?_ ?_) (lb7 _))))
  ·exact λh' k=>⟨o1,k _ _ D.i1z e1,r1⟩
  ·exact λh' k=>⟨⟨o2,k _ _ D.i2z D.i12.symm e2,r2⟩,o3,k _ _ Y.tz Y.t1 e3,r3⟩
  ·intro h' tk e k he
   obtain⟨o,ho,hc⟩:=he
   refine la (lcC (T := "StopIteration") (b:=true) ⟨o,ho,hc⟩ ldB ?_)
   exact lc (hQ _ _ λc o c1 _ c3 c4 e=>k c o c1 c3 c4 e)
end
theorem jm:entryFor table "dict.update.loop" = some Builtin.«dict.update.loop»:=entryFor_of_fast (by kernel_rfl)
theorem xU:plainId "dict.update.loop" = true:=by decide +kernel
section
variable {prog:Program}{w:World}{K:Type} [DecidableEq K]{knd:KeyKind prog w K}{A:Around}{R:Result->Shared->Prop}
theorem ziK {z TI TO i1 i2 tp d:Addr}{x:Str}{t:Tok}{ys:Array Value}(hh:A.handled=none)(Y:ZAp z TI TO i1 i2 tp d)(f:Nat->K)(hk:∀c u,knd.is (f c) (.str ⟨#[c]⟩ u)=true)(hsm:x.cps.size<=1000) :
  ∀ (n i:Nat) (s:Shared) (kvs:List (K×Value)) (q:Int) (tq:Tok),min x.cps.size ys.size - i=n->i<=min x.cps.size ys.size->ZSt s.heap z TI TO i1 i2 tp d x t ys i->s.heap.DictOf knd d kvs->kvs.length<=i ->
   (∀h' tk,h'.DictOf knd d (((x.cps.toList.zip ys.toList).drop i).foldl (λm p=>stored m (f p.1) p.2) kvs)->(∀c o,c≠z->c≠TO->c≠i1->c≠i2->c≠d->s.heap.get? c=some o->h'.get? c=some o) ->
    R (.ok (.ret .none)) {s with heap:=h',toks:=tk}) ->
   codeAny (model prog w) A (.builtin "dict.update.loop" ⟨[.ref d,.ref z,.int q tq,.none],[]⟩) R s:=by
 intro n
 induction n with
 | zero =>
  intro i s kvs q tq hn hi Z hm hl hR
  refine lbf jm ?_
  rw[la9 xU _]
  show wpAny _ A.in1 (pyNext (.ref z) >>= _) _ _ s
  have hend:x.cps[i]? = none∨ys[i]? = none:=by
   rcases lea x.cps.size ys.size with h|h
   ·exact .inl (lbn (by omega))
   ·exact .inr (lbn (by omega))
  refine la (Z.done hh Y hend λh' tk k=>?_)
  refine la (m:=Builtin.Dict.addKeywords d []) (lc (lc ?_))
  have e:(x.cps.toList.zip ys.toList).drop i=[]:=laI (by simp;omega)
  rw[e] at hR
  refine hR h' tk ?_ λc o c1 c2 c3 c4 _ e=>k c o c1 c2 c3 c4 e
  obtain⟨o,ho,r⟩:=la3.mp hm
  exact la3.mpr ⟨o,k _ _ Y.dz Y.dO Y.d1 Y.d2 ho,r⟩
 | succ n ih =>
  intro i s kvs q tq hn hi Z hm hl hR
  refine lbf jm ?_
  rw[la9 xU _]
  show wpAny _ A.in1 (pyNext (.ref z) >>= _) _ _ s
  have hc:x.cps[i]? = some x.cps[i]:=laR (by omega)
  have hy:ys[i]? = some ys[i]:=laR (by omega)
  have hd:d<s.heap.objs.size:=by obtain⟨o,ho,_⟩:=la3.mp hm;exact lu ho
  refine la (Z.next Y hd hc hy λT u h' tk Z' hp k hsz=>?_)
  dsimp only
  have hT:(⟨h',s.gens,s.drawn,tk,s.os⟩:Shared).TypeIs (.ref T) "tuple" := ⟨_,hp,rfl⟩
  refine la (lay (la (wpAny_tryCatch ?_)))
  unfold Builtin.Dict.pairItems
  refine la (lbV hT ?_)
  rw[lH (by decide)]
  refine la (la7 hp rfl (lc ?_))
  show wpAny _ A.in1 (holding [Value.str ⟨#[x.cps[i]]⟩ u,ys[i]] (dictSet d (.str ⟨#[x.cps[i]]⟩ u) ys[i])) _ _ _
  have hm':h'.DictOf knd d kvs:=by
   obtain⟨o,ho,r⟩:=la3.mp hm
   exact la3.mpr ⟨o,k _ _ Y.dz Y.dO Y.d1 Y.d2 ho,r⟩
  refine lay (wpAny_dictSet_pairs (hk _ u) hm' (λh'' hm'' sb=>?_) (by rw[laP];omega))
  refine lc ⟨lbY xU _,?_⟩
  have hl2:(stored kvs (f x.cps[i]) ys[i]).length<=i+1:=by
   have:=stored_length_le kvs (f x.cps[i]) ys[i]
   omega
  refine ih (i+1) _ _ _ _ (by omega) (by omega) (Z'.dict Y λc o hc e=>sb.extBut _ _ hc e) hm'' hl2 λh3 tk3 hm3 k3=>?_
  have e:(x.cps.toList.zip ys.toList).drop i=(x.cps[i],ys[i])::(x.cps.toList.zip ys.toList).drop (i+1):=by
   rw[las (by simp;omega)]
   simp
  rw[e,lag] at hR
  exact hR h3 tk3 hm3 λc o c1 c2 c3 c4 c5 e=>k3 c o c1 c2 c3 c4 c5 (sb.extBut _ _ c5 (k c o c1 c2 c3 c4 e))
end
section
variable {prog:Program}{w:World}{K:Type} [DecidableEq K]{knd:KeyKind prog w K}{A:Around}{E:Value->Shared->Prop}{s:Shared}
theorem call_dict_zip {z TI TO i1 i2 tp:Addr}{x:Str}{t:Tok}{ys:Array Value}{Q:Value->Shared->Prop}(hh:A.handled=none)(D:Apart z TI TO i1 i2)(n1:tp≠z)(n2:tp≠TO)(n3:tp≠i1)(n4:tp≠i2)
  (f:Nat->K) (hk:∀c u,knd.is (f c) (.str ⟨#[c]⟩ u)=true) (hsm:x.cps.size<=1000)
  (hz:IsZipF s.heap z TI TO .none (.bool false)) (hTI:IsPair s.heap TI (.ref i1) (.ref i2)) (hTO:IsPair s.heap TO .none .none) (h1:s.heap.IsStrIter i1 "str_ascii_iterator" x t 0) (h2:s.heap.IsTupleIter i2 tp 0) (h3:s.heap.IsTuple tp ys)
  (h:∀h' tk,h'.DictOf knd s.heap.objs.size ((x.cps.toList.zip ys.toList).foldl (λm p=>stored m (f p.1) p.2) [])->(∀c o,c≠z->c≠TO->c≠i1->c≠i2->s.heap.get? c=some o->h'.get? c=some o) ->
   Q (.ref s.heap.objs.size) {s with heap:=h',toks:=tk}) :
  wpAny (model prog w) A (call (.type "dict") [.ref z]) Q E s:=by
 refine callType_codes (Q₁:=λobj s₁=>obj=.ref s.heap.objs.size/\s₁={s with heap:=s.heap.push {cls:=.type "dict", data:=.dict #[]} }) F.kt_called_dict (F.kt_typeCall_dict_1 _) F.entry_dict_init (kt_code_dict_new _ ⟨rfl,rfl⟩) ?_
 rintro obj s₁ ⟨rfl,rfl⟩
 have hnew:(s.heap.push {cls:=.type "dict", data:=.dict #[]}).DictOf knd s.heap.objs.size []:=Heap.DictOf.new s.heap
 have up:∀c o,s.heap.get? c=some o->(s.heap.push {cls:=.type "dict", data:=.dict #[]}).get? c=some o:=λc o e=>lb _ e
 have hz':=up _ _ hz
 have hzT:({s with heap:=s.heap.push {cls:=.type "dict", data:=.dict #[]} }:Shared).TypeIs (.ref z) "zip" := ⟨_,hz',rfl⟩
 have lt:∀{c:Addr}{o:Obj},s.heap.get? c=some o->s.heap.objs.size≠c:=λe=>laS (lu e)
 obtain⟨o1,e1,r1⟩:=h1
 obtain⟨o2,e2,r2⟩:=h2
 obtain⟨o3,e3,r3⟩:=h3
 have Y:ZAp z TI TO i1 i2 tp s.heap.objs.size:=⟨D,n1,n2,n3,n4,lt hz,lt hTI,lt hTO,lt e1,lt e2,lt e3⟩
 refine⟨hnew.typeIs,F.args_dict_init_2 _ _,?_⟩
 unfold Builtin.«dict.__init__»
 refine la ?_
 unfold Builtin.Dict.selfAndRest
 refine la (wpAny_notOrdered_dict hnew.typeIs ?_)
 show wpAny _ _ (pure (s.heap.objs.size,[Value.ref z])) _ _ _
 refine lc ?_
 show wpAny _ _ (Builtin.Dict.updateFrom "dict.__init__" s.heap.objs.size (.ref z) [] .none) _ _ _
 unfold Builtin.Dict.updateFrom
 refine la (lbV hzT ?_)
 rw[lH (by decide)]
 refine la (zkY hz' hh λh4 tk4 k4=>?_)
 simp only[Option.isNone_none,lbD]
 refine la (lcf ?_)
 have Z:ZSt h4 z TI TO i1 i2 tp s.heap.objs.size x t ys 0:=⟨.inl ⟨false,k4 _ _ hz'⟩,k4 _ _ (up _ _ hTI),⟨_,_,k4 _ _ (up _ _ hTO)⟩,⟨o1,k4 _ _ (up _ _ e1),r1⟩,⟨o2,k4 _ _ (up _ _ e2),r2⟩,o3,k4 _ _ (up _ _ e3),r3⟩
 have hm:h4.DictOf knd s.heap.objs.size []:=by
  obtain⟨o,ho,r⟩:=la3.mp hnew
  exact la3.mpr ⟨o,k4 _ _ ho,r⟩
 refine la (wpAny_pyIter_zip (k4 _ _ hz') ?_)
 refine lc ⟨lbY xU _,?_⟩
 refine ziK (knd:=knd) (A:=A.in1) hh Y f hk hsm _ 0 _ [] _ _ rfl (lbJ _) Z hm (lr _) λh5 tk5 hm5 k5=>?_
 exact⟨rfl,h h5 tk5 (by simpa using hm5) λc o c1 c2 c3 c4 e=>k5 c o c1 c2 c3 c4 (λq=>lt e q.symm) (k4 _ _ (up _ _ e))⟩
end
section
variable {prog:Program}{w:World}{A:Around}{E:Value->Shared->Prop}{s:Shared}
theorem nextOf_list_item {it t:Addr}{i:Nat}{items}{x:Value}{Q:Value->Shared->Prop}(hit:s.heap.IsListIter it t i)
  (ht:s.heap.IsList t items) (hx:items[i]? = some x)
  (hQ:∀h',h'.IsListIter it t (i+1)->Heap.SameBut it s.heap h'->Q x {s with heap:=h'}) :
  wpAny (model prog w) A (Builtin.SmallTypes.nextOf (.ref it)) Q E s:=by
 obtain⟨o,ho,hc,hd⟩:=id hit
 obtain⟨ol,hol,_,nl,hdl⟩:=ht
 unfold Builtin.SmallTypes.nextOf
 refine la (lP (name:=Str.ofString "__next__") hit.typeIs lcY
  (lU lcY hit.typeIs entry_listiter_next ?_ (args_listiter_next _)))
 show wpAny _ _ (field (.ref it) 0 >>= _) _ _ s
 refine la (lai ho hd (x:=.ref t) rfl ?_)
 show wpAny _ _ (if (Value.ref t == Value.none)=true then _ else _) _ _ s
 rw[lap (show ¬((Value.ref t == Value.none)=true) from lD)]
 show wpAny _ _ (field (.ref it) 1 >>= _) _ _ s
 refine la (lai ho hd (x:=.int i 0) rfl ?_)
 show wpAny _ _ (seqItems? (.ref t) >>= _) _ _ s
 refine la (la7 hol hdl ?_)
 simp only[laK,hx]
 refine la (lbp ho hd (by simp) (lc ⟨x,rfl,lc (hQ _ ?_ (lam ..))⟩))
 exact ⟨_,lav _ ho (ldc (lbW hd _)),(ldJ ..).trans hc,by
  rw[lbW hd];simp[rawInt]⟩
theorem nextOf_list_end {it t:Addr}{i:Nat}{items}{Q:Value->Shared->Prop}(hh:A.handled=none)
  (hit:s.heap.IsListIter it t i) (ht:s.heap.IsList t items) (hx:items[i]? = none)
  (hE:∀h' e,Heap.ExtBut it s.heap h'->(∃o,h'.get? e=some o/\o.cls=.type "StopIteration")->E (.ref e) {s with heap:=h'}) :
  wpAny (model prog w) A (Builtin.SmallTypes.nextOf (.ref it)) Q E s:=by
 obtain⟨o,ho,hc,hd⟩:=id hit
 obtain⟨ol,hol,_,nl,hdl⟩:=ht
 unfold Builtin.SmallTypes.nextOf
 refine la (lP (name:=Str.ofString "__next__") hit.typeIs lcY
  (lU lcY hit.typeIs entry_listiter_next ?_ (args_listiter_next _)))
 show wpAny _ _ (field (.ref it) 0 >>= _) _ _ s
 refine la (lai ho hd (x:=.ref t) rfl ?_)
 show wpAny _ _ (if (Value.ref t == Value.none)=true then _ else _) _ _ s
 rw[lap (show ¬((Value.ref t == Value.none)=true) from lD)]
 show wpAny _ _ (field (.ref it) 1 >>= _) _ _ s
 refine la (lai ho hd (x:=.int i 0) rfl ?_)
 show wpAny _ _ (seqItems? (.ref t) >>= _) _ _ s
 refine la (la7 hol hdl ?_)
 simp only[laK,hx]
 refine la (lcf (la (lbp ho hd (by simp) ?_)))
 show wpAny _ _ (newExc (.type "StopIteration") [] >>= _) _ _ _
 refine la ?_
 simp only[newExc,newTuple]
 refine la (laf ?_ (by size_fits))
 refine la (m:=firstArgMember _ _) (ldQ (a:=Value.none) (by first|rfl|(simp only[firstArgMember];rfl)) ?_)
 refine laf ?_ (by size_fits)
 simp only[raiseNew]
 refine la (ldR ?_)
 first|rw[show A.in1.handled=none from hh] | rw[hh]
 refine la (lc (wpAny_throw ?_))
 exact hE _ _ (((lam ..).extBut.push _).push _) ⟨_,lj _ rfl,rfl⟩
end
structure Src (prog:Program)(w:World)(it tp:Addr)(n:Nat)(g:Nat->Value)(S:Nat->Heap->Prop):Prop where
 yl:∀(A:Around) (i:Nat),i<n->Yields prog w A it (S i) (λv=>v=g i) (S (i+1))
 en:∀(A:Around) (i:Nat),A.handled=none->n<=i->Ends prog w A it (S i)
 mv:∀(i:Nat) (h h':Heap),S i h->(∀o,h.get? it=some o->h'.get? it=some o)->(∀o,h.get? tp=some o->h'.get? tp=some o)->S i h'
 li:∀(i:Nat) (h:Heap),S i h->(∃o,h.get? it=some o)/\∃o,h.get? tp=some o
structure GAp (z TI TO i1 i2 p1 p2 d:Addr):Prop where
 D:Apart z TI TO i1 i2
 az:p1≠z
 aO:p1≠TO
 a2:p1≠i2
 bz:p2≠z
 bO:p2≠TO
 b1:p2≠i1
 dz:d≠z
 dI:d≠TI
 dO:d≠TO
 d1:d≠i1
 d2:d≠i2
 da:d≠p1
 db:d≠p2
structure GSt (h:Heap)(z TI TO i1 i2 d:Addr)(S1 S2:Nat->Heap->Prop)(i:Nat):Prop where
 zip:(∃f1,IsZipF h z TI TO .none (.bool f1))∨∃(T:Addr) (oT:Obj) (fb:Bool),IsZipF h z TI TO (rawInt T) (.bool fb)/\h.get? T=some oT/\T≠z/\T≠TO/\T≠i1/\T≠i2/\T≠d
 ti:IsPair h TI (.ref i1) (.ref i2)
 to:∃a b,IsPair h TO a b
 s1:S1 i h
 s2:S2 i h
section
variable {prog:Program}{w:World}{A:Around}{E:Value->Shared->Prop}{s:Shared}{z TI TO i1 i2 p1 p2 d:Addr}{n1 n2:Nat}{g1 g2:Nat->Value}{S1 S2:Nat->Heap->Prop}
theorem GSt.dict {h h':Heap}{i:Nat}(Z:GSt h z TI TO i1 i2 d S1 S2 i)(Y:GAp z TI TO i1 i2 p1 p2 d)(C1:Src prog w i1 p1 n1 g1 S1)(C2:Src prog w i2 p2 n2 g2 S2)
  (k:∀c o,c≠d->h.get? c=some o->h'.get? c=some o):GSt h' z TI TO i1 i2 d S1 S2 i:=by
 obtain⟨zp,ti,⟨a,b,to⟩,s1,s2⟩:=Z
 refine⟨?_,k _ _ (lbb Y.dI) ti,⟨a,b,k _ _ (lbb Y.dO) to⟩,C1.mv _ _ _ s1 (λo=>k _ o (lbb Y.d1)) (λo=>k _ o (lbb Y.da)),C2.mv _ _ _ s2 (λo=>k _ o (lbb Y.d2)) (λo=>k _ o (lbb Y.db))⟩
 rcases zp with⟨f1,hz⟩|⟨T,oT,fb,hz,hT,n1,n2,n3,n4,n5⟩
 ·exact .inl ⟨f1,k _ _ (lbb Y.dz) hz⟩
 ·exact .inr ⟨T,oT,fb,k _ _ (lbb Y.dz) hz,k _ _ n5 hT,n1,n2,n3,n4,n5⟩
theorem GSt.next {i:Nat}{Q:Option Value->Shared->Prop}(Z:GSt s.heap z TI TO i1 i2 d S1 S2 i)(Y:GAp z TI TO i1 i2 p1 p2 d)(C1:Src prog w i1 p1 n1 g1 S1)(C2:Src prog w i2 p2 n2 g2 S2)
  (hd:d<s.heap.objs.size) (hc:i<n1) (hy:i<n2)
  (hQ:∀(T:Addr) h' tk,GSt h' z TI TO i1 i2 d S1 S2 (i+1)->IsPair h' T (g1 i) (g2 i)->(∀c o,c≠z->c≠TO->c≠i1->c≠i2->s.heap.get? c=some o->h'.get? c=some o)->h'.objs.size=s.heap.objs.size+1->Q (some (.ref T)) {s with heap:=h',toks:=tk}) :
  wpAny (model prog w) A (pyNext (.ref z)) Q E s:=by
 obtain⟨zp,ti,⟨a,b,to⟩,s1,s2⟩:=Z
 have D:=Y.D
 obtain⟨⟨o1,e1⟩,_⟩:=C1.li _ _ s1
 obtain⟨⟨o2,e2⟩,_⟩:=C2.li _ _ s2
 have lt:∀{c:Addr}{o:Obj},s.heap.get? c=some o->s.heap.objs.size≠c:=λe=>laS (lu e)
 have Y1:=C1.yl A.in1 i hc
 have Y2:=C2.yl A.in1 i hy
 rcases zp with⟨f1,hz⟩|⟨T,oT,fb,hz,hT,n1,n2,n3,n4,n5⟩
 ·have hTy:s.TypeIs (.ref z) "zip" := ⟨_,hz,rfl⟩
  unfold pyNext
  refine la (lbM (lP (name:=Str.ofString "__next__") hTy lbe
   (lU lbe hTy lcc (next_item D hz ti to Y1 Y2 ?_ ?_ ?_ ?_ ?_) (lb7 _))))
  ·exact λh' k=>C1.mv _ _ _ s1 (λo=>k _ o D.i1z) (λo=>k _ o Y.az)
  ·exact λh' k=>C2.mv _ _ _ s2 (λo=>k _ o D.i2z D.TOi2.symm D.i12.symm) (λo=>k _ o Y.bz Y.bO Y.b1)
  ·exact λh h' q k=>C1.mv _ _ _ q (λo=>k _ o D.i1z D.TOi1.symm D.i12) (λo=>k _ o Y.az Y.aO Y.a2)
  ·exact λh h' q k=>C2.mv _ _ _ q (λo=>k _ o D.i2z D.TOi2.symm) (λo=>k _ o Y.bz Y.bO)
  ·rintro v1 v2 h' tk rfl rfl z' to' q1 q2 hp hsz k
   refine lc (hQ _ h' tk ⟨.inr ⟨_,_,false,z',hp,lt hz,lt to,lt e1,lt e2,laS hd⟩,k _ _ D.TIz D.TITO D.TIi1 D.TIi2 ti,⟨_,_,to'⟩,q1,q2⟩ hp k hsz)
 ·have hTy:s.TypeIs (.ref z) "zip" := ⟨_,hz,rfl⟩
  unfold pyNext
  refine la (lbM (lP (name:=Str.ofString "__next__") hTy lbe
   (lU lbe hTy lcc (zeq D hz ti hT Y1 Y2 ?_ ?_ ?_ ?_ ?_) (lb7 _))))
  ·exact λh' k=>C1.mv _ _ _ s1 (λo=>k _ o D.i1z) (λo=>k _ o Y.az)
  ·exact λh' k=>C2.mv _ _ _ s2 (λo=>k _ o D.i2z D.i12.symm) (λo=>k _ o Y.bz Y.b1)
  ·exact λh h' q k=>C1.mv _ _ _ q (λo=>k _ o D.i12) (λo=>k _ o Y.a2)
  ·exact λh h' q k=>C2.mv _ _ _ q (λo=>k _ o) (λo=>k _ o)
  ·rintro v1 v2 h' tk rfl rfl z' q1 q2 hp hsz k
   exact lc (hQ _ h' tk ⟨.inr ⟨T,oT,true,z',k _ _ n1 n3 n4 hT,n1,n2,n3,n4,n5⟩,k _ _ D.TIz D.TIi1 D.TIi2 ti,⟨_,_,k _ _ D.TOz D.TOi1 D.TOi2 to⟩,q1,q2⟩ hp (λc o c1 _ c3 c4 e=>k c o c1 c3 c4 e) hsz)
end
section
variable {prog:Program}{w:World}{A:Around}{E:Value->Shared->Prop}{s:Shared}
abbrev lIter (t:Addr):Obj:={cls:=.type "list_iterator", data:=.fields #[.ref t,.int 0 0]}
end
end Zp
set_option maxHeartbeats 1000000
namespace L2
open PySem PySem.Spec PyProof.Rows
def TxtOk (x:Str):Prop:=PyData.strOk x=true/\x.length<=1000000
mutual
inductive Is (K:PySem.W.Frag)(H:Hp):V->PyData->Prop
 | non:Is K H .non .none
 | bl (b:Bool):Is K H (.bl b) (.bool b)
 | int (i:Int):Is K H (.int i) (.int i)
 | str (x:Str) (ok:TxtOk x):Is K H (.str x) (.str x)
 | lst {a:Addr}{xs:List V}{ds:List PyData}:SqL K H a xs->Iss K H xs ds->Is K H (.ref a) (.list ds)
 | tup {a:Addr}{xs:List V}{ds:List PyData}:SqT K H a xs->Iss K H xs ds->Is K H (.ref a) (.tuple ds)
inductive Iss (K:PySem.W.Frag)(H:Hp):List V->List PyData->Prop
 | nil:Iss K H [] []
 | cons {v:V}{d:PyData}{vs:List V}{ds:List PyData}:Is K H v d->Iss K H vs ds->Iss K H (v::vs) (d::ds)
end
theorem Same.seqT {K:PySem.W.Frag}{H H':Hp}{a:Addr}{xs:List V}(e:Same H H')(h:SqT K H a xs):SqT K H' a xs:=by
 rcases h with(h|⟨o,h⟩)|h
 ·exact .inl (.inl (e _ _ h))
 ·exact .inl (.inr ⟨o,e _ _ h⟩)
 ·exact .inr h
section
variable {K:PySem.W.Frag}{H H':Hp}
theorem Is.mono_both (e:Same H H'):(∀{v:V}{d:PyData},Is K H v d->Is K H' v d)/\(∀{vs:List V}{ds:List PyData},Iss K H vs ds->Iss K H' vs ds):=by
 refine⟨λ{v d} h=>?_,λ{vs ds} h=>?_⟩
 ·exact Is.rec (motive_1:=λv d _=>Is K H' v d) (motive_2:=λvs ds _=>Iss K H' vs ds) .non .bl .int .str (λq _ ih=>.lst (e.seq q) ih) (λq _ ih=>.tup (e.seqT q) ih) .nil (λ_ _ a b=>.cons a b) h
 ·exact Iss.rec (motive_1:=λv d _=>Is K H' v d) (motive_2:=λvs ds _=>Iss K H' vs ds) .non .bl .int .str (λq _ ih=>.lst (e.seq q) ih) (λq _ ih=>.tup (e.seqT q) ih) .nil (λ_ _ a b=>.cons a b) h
theorem Is.mono {v:V}{d:PyData}(h:Is K H v d)(e:Same H H'):Is K H' v d:=(Is.mono_both e).1 h
theorem Iss.mono {vs:List V}{ds:List PyData}(h:Iss K H vs ds)(e:Same H H'):Iss K H' vs ds:=(Is.mono_both e).2 h
theorem Iss.length:∀{vs:List V}{ds:List PyData},Iss K H vs ds->vs.length=ds.length
 | _,_,.nil=>rfl
 | _,_,.cons _ r=>by simp[r.length]
theorem Iss.append:∀{vs ws:List V}{ds es:List PyData},Iss K H vs ds->Iss K H ws es->Iss K H (vs++ws) (ds++es)
 | _,_,_,_,.nil,s=>s
 | _,_,_,_,.cons r t,s=>.cons r (Iss.append t s)
theorem Iss.get:∀{vs:List V}{ds:List PyData}{i:Nat}{v:V},Iss K H vs ds->vs[i]? = some v->∃d,ds[i]? = some d/\Is K H v d
 | _,_,_,_,.nil,e=>by simp at e
 | _,_,0,_,.cons r _,e=>by simp at e;subst e;exact⟨_,rfl,r⟩
 | _,_,i+1,v,.cons _ t,e=>by
  obtain⟨d,h1,h2⟩:=Iss.get (i:=i) (v:=v) t (by simpa using e)
  exact⟨d,by simpa using h1,h2⟩
theorem Iss.take:∀{vs:List V}{ds:List PyData} (n:Nat),Iss K H vs ds->Iss K H (vs.take n) (ds.take n)
 | _,_,0,_=>.nil
 | _,_,_+1,.nil=>.nil
 | _,_,n+1,.cons r t=>.cons r (Iss.take n t)
theorem Iss.drop:∀{vs:List V}{ds:List PyData} (n:Nat),Iss K H vs ds->Iss K H (vs.drop n) (ds.drop n)
 | _,_,0,r=>r
 | _,_,_+1,.nil=>.nil
 | _,_,n+1,.cons _ t=>Iss.drop n t
theorem Is.can_both:(∀{v:V}{d:PyData},Is K H v d->d.canLay0=true)/\(∀{vs:List V}{ds:List PyData},Iss K H vs ds->PyData.canLayAll0 ds=true):=by
 have hs:∀(x:Str),TxtOk x->(PyData.str x).canLay0=true:=λx h=>h.1
 refine⟨λ{v d} h=>?_,λ{vs ds} h=>?_⟩
 ·exact Is.rec (motive_1:=λv d _=>d.canLay0=true) (motive_2:=λvs ds _=>PyData.canLayAll0 ds=true) rfl (λ_=>rfl) (λ_=>rfl) hs (λ_ _ ih=>ih) (λ_ _ ih=>ih) rfl (λ_ _ a b=>by simp[PyData.canLayAll0,a,b]) h
 ·exact Iss.rec (motive_1:=λv d _=>d.canLay0=true) (motive_2:=λvs ds _=>PyData.canLayAll0 ds=true) rfl (λ_=>rfl) (λ_=>rfl) hs (λ_ _ ih=>ih) (λ_ _ ih=>ih) rfl (λ_ _ a b=>by simp[PyData.canLayAll0,a,b]) h
theorem Is.can {v:V}{d:PyData}(h:Is K H v d):d.canLay0=true:=Is.can_both.1 h
end
section
variable {X:Cx}{pins:List (Addr×Obj)}{σ:St}{H:Hp}{s:Shared}
theorem Inv.reads_both (I:Inv X pins σ H s):(∀{v:V}{d:PyData},Is X.K H v d->∀{u:Value},RelV v u->∃as,Reads s.heap u d as)/\(∀{vs:List V}{ds:List PyData},Iss X.K H vs ds->∀{us:List Value},Vals vs us->∃as,ReadsAll s.heap us ds as):=by
 have h1:∀{u:Value},RelV .non u->∃as,Reads s.heap u .none as:=λ{u} r=>by cases r;exact⟨_,.none⟩
 have h2:∀(b:Bool) {u:Value},RelV (.bl b) u->∃as,Reads s.heap u (.bool b) as:=λb {u} r=>by cases r;exact⟨_,.bool b⟩
 have h3:∀(i:Int) {u:Value},RelV (.int i) u->∃as,Reads s.heap u (.int i) as:=λi {u} r=>by obtain⟨t,rfl⟩:=r;exact⟨_,.int i t⟩
 have h4:∀(x:Str),TxtOk x->∀{u:Value},RelV (.str x) u->∃as,Reads s.heap u (.str x) as:=λx _ {u} r=>by obtain⟨t,rfl⟩:=r;exact⟨_,.str x t⟩
 have h5:∀{a:Addr}{xs:List V}{ds:List PyData} (_:SqL X.K H a xs) (_:Iss X.K H xs ds),(∀{us:List Value},Vals xs us->∃as,ReadsAll s.heap us ds as)->∀{u:Value},RelV (.ref a) u->∃as,Reads s.heap u (.list ds) as:=by
  intro a xs ds q _ ih u r
  cases r
  obtain⟨its,rv,⟨o,n,e,hc,_,hd⟩,_⟩:=I.list q
  obtain⟨as,ra⟩:=ih rv
  exact⟨_,.list e hc hd (by simpa using ra)⟩
 have h6:∀{a:Addr}{xs:List V}{ds:List PyData} (_:SqT X.K H a xs) (_:Iss X.K H xs ds),(∀{us:List Value},Vals xs us->∃as,ReadsAll s.heap us ds as)->∀{u:Value},RelV (.ref a) u->∃as,Reads s.heap u (.tuple ds) as:=by
  intro a xs ds q _ ih u r
  cases r
  obtain⟨its,rv,⟨o,e,hc,n,hd⟩,_⟩:=I.tuple q
  obtain⟨as,ra⟩:=ih rv
  exact⟨_,.tuple e hc hd (by simpa using ra)⟩
 have h7:∀{us:List Value},Vals [] us->∃as,ReadsAll s.heap us [] as:=λ{us} r=>by cases r;exact⟨_,.nil⟩
 have h8:∀{v:V}{d:PyData}{vs:List V}{ds:List PyData} (_:Is X.K H v d) (_:Iss X.K H vs ds),(∀{u:Value},RelV v u->∃as,Reads s.heap u d as)->(∀{us:List Value},Vals vs us->∃as,ReadsAll s.heap us ds as)->∀{us:List Value},Vals (v::vs) us->∃as,ReadsAll s.heap us (d::ds) as:=by
  intro v d vs ds _ _ a b us r
  cases r with
  | cons r t =>
   obtain⟨_,ra⟩:=a r
   obtain⟨_,rb⟩:=b t
   exact⟨_,.cons ra rb⟩
 refine⟨λ{v d} h=>?_,λ{vs ds} h=>?_⟩
 ·exact Is.rec (motive_1:=λv d _=>∀{u:Value},RelV v u->∃as,Reads s.heap u d as) (motive_2:=λvs ds _=>∀{us:List Value},Vals vs us->∃as,ReadsAll s.heap us ds as) h1 h2 h3 h4 h5 h6 h7 h8 h
 ·exact Iss.rec (motive_1:=λv d _=>∀{u:Value},RelV v u->∃as,Reads s.heap u d as) (motive_2:=λvs ds _=>∀{us:List Value},Vals vs us->∃as,ReadsAll s.heap us ds as) h1 h2 h3 h4 h5 h6 h7 h8 h
theorem Inv.reads (I:Inv X pins σ H s){v:V}{d:PyData}{u:Value}(h:Is X.K H v d)(r:RelV v u):∃as,Reads s.heap u d as:=I.reads_both.1 h r
def zoA (K:PySem.W.Frag):R2:=λx y H Q=>∃d e,Is K H x d/\Is K H y e/\d.depth<=60/\Q (.bl (PyData.eqv d e)) H
def zoB (K:PySem.W.Frag):R2:=λx y H Q=>∃d e,Is K H x d/\Is K H y e/\d.depth<=60/\Q (.bl (!PyData.eqv d e)) H
theorem zkc (hu:X.A.units+64<cLine):OpR X (compareOp .Eq) (zoA X.K):=by
 intro pins s σ H x y v u Q I rx ry h
 obtain⟨d,e,hd,he,hz,q⟩:=h
 obtain⟨_,ra⟩:=I.reads hd rx
 obtain⟨_,rb⟩:=I.reads he ry
 exact SeqAt.rcAt_reads ra rb hd.can he.can (by omega) X.prog X.w X.xe _ (zfH I q rfl)
theorem zbq (hu:X.A.units+64<cLine):OpR X (compareOp .NotEq) (zoB X.K):=by
 intro pins s σ H x y v u Q I rx ry h
 obtain⟨d,e,hd,he,hz,q⟩:=h
 obtain⟨_,ra⟩:=I.reads hd rx
 obtain⟨_,rb⟩:=I.reads he ry
 exact SeqAt.rcNeAt_reads ra rb hd.can he.can (by omega) X.prog X.w X.xe _ (zfH I q rfl)
end
def za1 (scope:Scope)(env:Env):List (Str×Addr):=scope.names.foldl (λcs y=>if y.2 == NameKind.free then(y.1,(env.cells.lookup y.1).getD 0)::cs else cs) []
theorem zcM {scope:Scope}{env:Env}(h:∀y∈scope.names,y.2=.free->∃c,env.cells.lookup y.1=some c):closureFor scope env=pure (za1 scope env):=by
 have key:∀(names:List (Str×NameKind)) (cs:List (Str×Addr)),(∀y∈names,y.2=.free->∃c,env.cells.lookup y.1=some c) ->
   (forIn names cs (λ(x:Str×NameKind) (r:List (Str×Addr))=>if (x.2 == NameKind.free)=true then(do let a ← cellOf env x.1;pure (ForInStep.yield ((x.1,a)::r)):Sem (ForInStep (List (Str×Addr)))) else pure (ForInStep.yield r))) =
    pure (names.foldl (λcs y=>if y.2 == NameKind.free then(y.1,(env.cells.lookup y.1).getD 0)::cs else cs) cs):=by
  intro names
  induction names with
  | nil=>intro cs _;rfl
  | cons y r ih =>
   intro cs hy
   have hr:∀z∈r,z.2=.free->∃c,env.cells.lookup z.1=some c:=λz hz=>hy z (lM _ hz)
   rw[lb6,lag]
   cases hk:(y.2 == NameKind.free) with
   | false =>
    simp only[lS,lbx]
    exact ih cs hr
   | true =>
    have e:y.2=.free:=by simpa using hk
    obtain⟨c,hc⟩:=hy y lac e
    have hco:cellOf env y.1=pure c:=by unfold cellOf;rw[hc]
    simp only[lbD,hco,hc,Option.getD_some]
    exact ih _ hr
 unfold closureFor za1
 have:=key scope.names [] h
 first|exact(lbj (· >>= λr=>pure r) this).trans rfl|exact this|simpa using this
theorem zcr {scope:Scope}{env:Env}(h:∀y∈scope.names,y.2=.free->∃c,env.cells.lookup y.1=some c):∀p∈za1 scope env,env.cells.lookup p.1=some p.2/\(p.1,NameKind.free)∈scope.names:=by
 have key:∀(names:List (Str×NameKind)) (cs:List (Str×Addr)),(∀y∈names,y∈scope.names)->(∀p∈cs,env.cells.lookup p.1=some p.2/\(p.1,NameKind.free)∈scope.names) ->
   ∀p∈names.foldl (λcs y=>if y.2 == NameKind.free then(y.1,(env.cells.lookup y.1).getD 0)::cs else cs) cs,env.cells.lookup p.1=some p.2/\(p.1,NameKind.free)∈scope.names:=by
  intro names
  induction names with
  | nil=>intro cs _ hc;exact hc
  | cons y r ih =>
   intro cs hs hc
   rw[lag]
   refine ih _ (λz hz=>hs z (lM _ hz)) ?_
   cases hk:(y.2 == NameKind.free) with
   | false=>simp only[lS,lbx];exact hc
   | true =>
    have e:y.2=.free:=by simpa using hk
    obtain⟨c,hcc⟩:=h y (hs y lac) e
    simp only[lbD]
    intro p hp
    rcases lB.mp hp with rfl|hp
    ·exact⟨by rw[hcc];rfl,by have:=hs y lac;rw[← e];exact this⟩
    ·exact hc p hp
 exact key scope.names [] (λ_ h=>h) (λp hp=>by cases hp)
theorem zdb {l:List (Str×Addr)}{x:Str}(h:∃p∈l,p.1=x):∃c,l.lookup x=some c:=by
 induction l with
 | nil=>obtain⟨p,hp,_⟩:=h;cases hp
 | cons q r ih =>
  rw[lcD]
  cases hq:(x == q.1) with
  | true=>exact⟨_,rfl⟩
  | false =>
   obtain⟨p,hp,e⟩:=h
   rcases lB.mp hp with rfl|hp
   ·subst e;simp at hq
   ·exact ih ⟨p,hp,e⟩
theorem zcv {scope:Scope}{env:Env}{x:Str}(hx:(x,NameKind.free)∈scope.names):∃c,(za1 scope env).lookup x=some c:=by
 refine zdb ?_
 have key:∀(names:List (Str×NameKind)) (cs:List (Str×Addr)),((x,NameKind.free)∈names∨∃p∈cs,p.1=x) ->
   ∃p∈names.foldl (λcs y=>if y.2 == NameKind.free then(y.1,(env.cells.lookup y.1).getD 0)::cs else cs) cs,p.1=x:=by
  intro names
  induction names with
  | nil=>intro cs h;rcases h with h|h;cases h;exact h
  | cons y r ih =>
   intro cs h
   rw[lag]
   refine ih _ ?_
   rcases h with h|⟨p,hp,e⟩
   ·rcases lB.mp h with h|h
    ·subst h
     exact .inr ⟨_,lac,rfl⟩
    ·exact .inl h
   ·refine .inr ⟨p,?_,e⟩
    cases (y.2 == NameKind.free) with
    | true=>exact lM _ hp
    | false=>exact hp
 exact key scope.names [] (.inl hx)
theorem jC {scope:Scope}{env:Env}{x:Str}:(relabel scope env).names.lookup x=(scope.names.lookup x).map λk=>if (k == NameKind.free&&env.scope.kind == .function&&env.kindOf x == some .cell) then NameKind.cell else k:=by
 show(scope.names.map _).lookup x=_
 induction scope.names with
 | nil=>rfl
 | cons y r ih =>
  obtain⟨n,k⟩:=y
  rw[lw,lcD]
  cases hx:(x == n) with
  | true =>
   have e:x=n:=by simpa using hx
   subst e
   show List.lookup x ((if (k == NameKind.free&&env.scope.kind == .function&&env.kindOf x == some .cell)=true then(x,NameKind.cell) else(x,k))::_)=_
   split
   ·rename_i h
    simp only[lcD,hx,leb]
    rw[lH h]
   ·rename_i h
    simp only[lcD,hx,leb]
    rw[lap h]
  | false =>
   show List.lookup x ((if (k == NameKind.free&&env.scope.kind == .function&&env.kindOf n == some .cell)=true then(n,NameKind.cell) else(n,k))::_)=_
   split <;>simp only[lcD,hx] <;>exact ih
structure CompOk (X:Cx)(scope:Scope)(caps:List Nat):Prop where
 kind:scope.kind=.function
 ncell:∀y∈scope.names,y.2=.cell->scope.names.lookup y.1=some .cell
 locs:∀y∈scope.names,y.2=.local->scope.names.lookup y.1=some .local
 free:∀y∈scope.names,y.2=.free->X.env.kindOf y.1=some .cell∨X.env.kindOf y.1=some .free
 caps:∀i∈caps,∃y,X.N[i]? = some y/\scope.names.lookup y=some .free
def zn2 (X:Cx)(own:List Str)(caps:List Nat):List Str:=own++caps.map λi=>X.N.getD i Str.empty
def zes (own:List Str)(caps:List Nat)(σ:St):St:=own.map (λ_=>none)++caps.map λi=>(σ[i]?).getD none
def zi2 (scope:Scope)(C:Addr):List (Str×Addr):=cellsFrom (C+1) scope.names []
def zjP (scope:Scope)(env:Env)(C:Addr):List (Str×Addr):=zi2 scope C++za1 scope env
theorem zad:∀(names:List (Str×NameKind)) (n:Nat) (acc:List (Str×Addr)),cellsFrom n names acc=cellsFrom n names []++acc:=by
 intro names
 induction names with
 | nil=>intro n acc;rfl
 | cons y r ih =>
  obtain⟨x,k⟩:=y
  intro n acc
  unfold cellsFrom
  split
  ·rw[ih _ ((x,n)::acc),ih _ [(x,n)],lbu];rfl
  ·exact ih n acc
theorem zdh:∀(names:List (Str×NameKind)) (n:Nat) (x:Str) (c:Addr),(x,c)∈cellsFrom n names []->(x,NameKind.cell)∈names:=by
 intro names
 induction names with
 | nil=>intro n x c h;cases h
 | cons y r ih =>
  obtain⟨z,k⟩:=y
  intro n x c h
  unfold cellsFrom at h
  split at h
  ·rename_i hk
   rw[zad] at h
   rcases lat.mp h with h|h
   ·exact lM _ (ih _ _ _ h)
   ·have e:=lK.mp h
    injection e with e1 e2
    subst e1
    have ek:k=.cell:=by simpa using hk
    subst ek
    exact lac
  ·exact lM _ (ih _ _ _ h)
theorem zch {l r:List (Str×Addr)}{x:Str}{c:Addr}(h:(l++r).lookup x=some c):l.lookup x=some c∨(l.lookup x=none/\r.lookup x=some c):=by
 rw[ldy] at h
 cases e:l.lookup x with
 | none=>rw[e] at h;exact .inr ⟨rfl,h⟩
 | some d=>rw[e] at h;exact .inl h
theorem zfn {l r:List (Str×Addr)}{x:Str}{c:Addr}(h:l.lookup x=some c):(l++r).lookup x=some c:=by rw[ldy,h];rfl
theorem zfG {l r:List (Str×Addr)}{x:Str}{c:Addr}(n:l.lookup x=none)(h:r.lookup x=some c):(l++r).lookup x=some c:=by rw[ldy,n];exact h
def cxC (X:Cx)(pins:List (Addr×Obj))(scope:Scope)(own:List Str)(caps:List Nat)(C:Addr)(ex:List Addr)(s:Shared)(H:Hp):Cx :=
 {X with N:=zn2 X own caps,s₀:=s,H₀:=H,env:=compEnvC scope (zjP scope X.env C) C X.env,outer:=X.stack,ex:=ex,fn:=λx=>scope.names.lookup x == some .cell,pn:=X.pn++pins,xe:=λ_ _=>False}
section
variable {X:Cx}{pins:List (Addr×Obj)}{σ:St}{H:Hp}{s:Shared}{scope:Scope}{own:List Str}{caps:List Nat}
theorem Inv.track {D:Addr}{o:HO} (I:Inv X pins σ H s) (hn:H D=none) (h0:D∈X.ex∨X.s₀.heap.objs.size<=D) (hL:D≠X.env.locals) (hc:∀x c,X.env.cells.lookup x=some c->c≠D) (hp:∀p∈X.pn++pins,p.1≠D)
  (new:ObjOk X.prog X.w (upd H D o) s.heap D o):Inv X pins σ (upd H D o) s:=by
 have ne:∀b u,H b=some u->b≠D:=λb u e=>wM e hn
 have q := I.step (g':=s.gens) (t':=s.toks) (d':=s.drawn) (ch:=[D]) (h':=s.heap) (H':=upd H D o)
  (λb hb => by
                  have e:b=D:=by simpa using hb
                  subst e;exact⟨h0,hL,hc,hp⟩)
  (λb o' _ _ _ e _=>e) (λb o' _ _ _ e _=>⟨o'.slots,e⟩) (λb o' hb _ n=>by rw[zP (λz=>hb (by simp[z]))];exact n) (λb o' _ e=>⟨o',e⟩)
  (λb xs e=>by rw[zP (ne b _ e)];exact e) (λb o' u e=>by rw[zP (ne b _ e)];exact e) (λb ps e=>⟨#[],by rw[zP (ne b _ e),e];simp⟩) (λm hm=>hm)
  (λb u e=>by
   by_cases hb:b=D
   ·subst hb;rw[zW] at e;cases e;exact new
   ·rw[zP hb] at e
    exact(I.hok b u e).stay (λc v _ q=>q) (λc q=>by rw[zP (ne c _ q)];exact q) λc xs q=>by rw[zP (ne c _ q)];exact q) I.bare
 exact q
theorem CompOk.cells (ok:CompOk X scope caps)(I:Inv X pins σ H s):∀y∈scope.names,y.2=.free->∃c,X.env.cells.lookup y.1=some c:=λy hy e=>I.ok.has y.1 (ok.free y hy e)
theorem Inv.block {h₁:Heap}{D C:Addr}{fp:List Addr}{m:Str->Option Value}{oD:Obj}{t:Nat}(ok:CompOk X scope caps)(I:Inv X pins σ H s)(hf:∀b∈fp,zjc X pins H b)(hfo:∀b∈fp,∃o,s.heap.get? b=some o/\∀v,o.data≠.cell v)
  (hD:D=s.heap.objs.size) (hC:s.heap.objs.size<=C) (hDC:D≠C) (k:∀b u,s.heap.get? b=some u->h₁.get? b=some u) (hn:h₁.Ns C m) (hoD:h₁.get? D=some oD) (hdD:∀v,oD.data≠.cell v) (cok:CellsOk h₁ (C+1) (zi2 scope C)) :
  Inv (cxC X pins scope own caps C fp s H) [(D,oD)] (zes own caps σ) H {s with heap:=h₁,toks:=t}:=by
 have hcl:=ok.cells I
 have lk:∀x c,(za1 scope X.env).lookup x=some c->X.env.cells.lookup x=some c/\(x,NameKind.free)∈scope.names:=λx c e=>zcr hcl (x,c) (laA e)
 have lA:∀x c,(zjP scope X.env C).lookup x=some c->(C<c/\h₁.IsCell c none/\(x,c)∈zi2 scope C)∨(za1 scope X.env).lookup x=some c:=λx c e=>by
  rcases zch e with e|⟨_,e⟩
  ·have m:=laA e
   exact .inl ⟨(cok.empty x c m).2,(cok.empty x c m).1,m⟩
  ·exact .inr e
 have lkC:∀x c,X.env.cells.lookup x=some c->c<C:=λx c e=>by
  obtain⟨v,o,ho,_⟩:=I.cell x c e
  exact lz (lu ho) hC
 have nst:∀b,b≠X.env.locals->b∉X.fs->b∉frs X.stack:=λb h1 h2 hb=>by
  rcases lB.mp (I.stkSub b hb) with e|e
  ·exact h1 e
  ·exact h2 e
 have kinds:∀x,((relabel scope X.env).names.lookup x=some .cell∨(relabel scope X.env).names.lookup x=some .free)->(x,NameKind.free)∈scope.names∨scope.names.lookup x=some .cell:=λx hx=>by
  rw[jC] at hx
  cases e:scope.names.lookup x with
  | none=>rw[e] at hx;rcases hx with hx|hx <;>cases hx
  | some kd =>
   have hm:=laA e
   cases kd with
   | free=>exact .inl hm
   | cell=>exact .inr rfl
   | _=>rw[e] at hx;rcases hx with hx|hx <;>simp at hx
 refine⟨⟨I.ok.mod,ok.kind,I.ok.glob,I.ok.blt,hC,?_,?_,?_,I.ok.hd,I.ok.frames,.inl rfl,?_,I.bs,laj I.ok.bsz I.sz,?_,?_,I.stack,I.stkFree⟩,rfl,I.bare,Un.kept k,⟨m,hn,?_⟩,?_,I.hok.fresh hC,?_,?_,I.hok.kept k,?_⟩
 ·intro x y c h1 h2
  rcases lA x c h1 with⟨l1,_,m1⟩|h1 <;>rcases lA y c h2 with⟨l2,_,m2⟩|h2
  ·exact name_of_addr cok.apart m1 m2
  ·exact absurd (lkC y c (lk y c h2).1) (Nat.lt_asymm l1)
  ·exact absurd (lkC x c (lk x c h1).1) (Nat.lt_asymm l2)
  ·exact I.ok.inj x y c (lk x c h1).1 (lk y c h2).1
 ·intro x hx
  show ∃c,(zjP scope X.env C).lookup x=some c
  cases e:(zi2 scope C).lookup x with
  | some c=>exact⟨c,zfn e⟩
  | none =>
   rcases kinds x hx with h|h
   ·obtain⟨c,h⟩:=zcv (env:=X.env) h
    exact⟨c,zfG e h⟩
   ·obtain⟨c,h⟩:=zbl (n:=C+1) h
    unfold zi2 at e
    rw[h] at e;cases e
 ·intro x c hx e
  have hx:(scope.names.lookup x == some .cell)=true:=hx
  obtain⟨c',h⟩:=zbl (sc:=scope) (n:=C+1) (by simpa using hx)
  have e':=zfn (r:=za1 scope X.env) h
  have e2:(zjP scope X.env C).lookup x=some c:=e
  unfold zjP zi2 at e2
  rw[e'] at e2
  cases e2
  exact laj hC (laj (lbI C) (cok.empty x _ (laA h)).2)
 ·intro b hb
  obtain⟨o,ho,_⟩:=hfo b hb
  refine⟨lO (lz (lu ho) hC),λx c e=>?_⟩
  rcases lA x c e with⟨l,_,_⟩|e
  ·exact laS (ld8 (lz (lu ho) hC) l)
  ·exact(hf b hb).2.2.2.2.1 x c (lk x c e).1
 ·intro b o e hb
  rcases(hf b hb).2.2.2.1 with z|z
  ·exact I.ok.noex b o e z
  ·exact absurd (lz (lu e) (laj I.ok.bsz z)) (lbL _)
 ·exact λb hb=>nst b (hf b hb).2.1 (hf b hb).2.2.1
 ·intro i x v h1 h2 h3
  have h1':(own++caps.map λi=>X.N.getD i Str.empty)[i]? = some x:=h1
  unfold zes at h2
  have hi:own.length<=i:=by
   apply laF
   intro hlt
   rw[laQ (by simpa using hlt),lT] at h2
   cases e:own[i]? with
   | none=>rw[e] at h2;cases h2
   | some y=>rw[e] at h2;cases h2
  rw[laE (by simpa using hi),lT,lh] at h2
  rw[laE hi,lT] at h1'
  cases e:caps[i - own.length]? with
  | none=>rw[e] at h2;cases h2
  | some j =>
   rw[e] at h2 h1'
   have hx:X.N.getD j Str.empty=x:=lg h1'
   have hv:(σ[j]?).getD none=some v:=lg h2
   obtain⟨y,hy,hfr⟩:=ok.caps j (laU e)
   have exy:x=y:=by rw[← hx,lm,hy];rfl
   subst exy
   have hs:σ[j]? = some (some v):=by
    cases q:σ[j]? with
    | none=>rw[q] at hv;cases hv
    | some z=>rw[q] at hv;exact lbj some hv
   have hfm:=laA hfr
   have hkd:=ok.free _ hfm rfl
   obtain⟨m',hn',hl⟩:=I.loc
   obtain⟨u,r,l⟩:=hl j x v hy hs (by rcases hkd with z|z;exact .inr (.inl z);exact .inr (.inr z))
   refine⟨u,r,.inr ⟨?_,?_⟩⟩
   ·show(relabel scope X.env).names.lookup x=some .cell∨(relabel scope X.env).names.lookup x=some .free
    rw[jC,hfr]
    simp only[leb]
    split
    ·exact .inl rfl
    ·exact .inr rfl
   ·rcases l with⟨hk,_⟩|⟨_,c,hc,o,ho,hd⟩
    ·rcases hkd with z|z <;>(rw[hk] at z;cases z)
    ·obtain ⟨c',hc'⟩:=zcv (env:=X.env) hfm
     have e1:=(lk x c' hc').1
     rw[hc] at e1
     cases e1
     refine⟨c,zfG ?_ hc',o,k _ _ ho,hd⟩
     cases e3:(zi2 scope C).lookup x with
     | none=>rfl
     | some c3 =>
      have h3:=ok.ncell _ (zdh _ _ _ _ (laA e3)) rfl
      rw[hfr] at h3;cases h3
 ·intro x c e
  rcases lA x c e with⟨_,h,_⟩|e
  ·exact⟨_,h⟩
  ·obtain⟨v,o,ho,hd⟩:=I.cell x c (lk x c e).1
   exact⟨v,o,k _ _ ho,hd⟩
 ·intro x c e
  rcases lA x c e with⟨l,_,_⟩|e
  ·exact I.hok.fresh (laj hC (ld6 l))
  ·exact I.freeC x c (lk x c e).1
 ·intro p hp
  rcases lat.mp hp with hp|hp
  ·obtain⟨a1,a2,a3,a4,a5⟩:=I.pin p hp
   exact⟨k _ _ a1,a2,lO (lz (lu a1) hC),nst _ a3 a4,a5⟩
  ·have e:p=(D,oD):=by simpa using hp
   subst e
   refine⟨hoD,I.hok.fresh (Nat.le_of_eq hD.symm),hDC,?_,hdD⟩
   refine nst D ?_ (I.nofs (Nat.le_of_eq hD.symm))
   exact laS (by rw[hD];exact I.lt)
 ·show(zes own caps σ).length=(zn2 X own caps).length
  simp[zes,zn2]
end
section
variable {prog:Program}{w:World}{A:Around}{R:Result->Shared->Prop}{s:Shared}
theorem zdM {elt target iter:Expr}{ifs:List Expr}{scope:Scope}{pos:Pos}{it acc:Value}{env:Env}(I:Nat->Shared->Prop)
  (turn : ∀n s,I n s->wpAny (model prog w) A (pyNext it) (λr s₁=>match r with
   | none=>R (.ok .next) s₁
   | some v=>wpAny (model prog w) A (letOwnedTupleGo target it v) (λ_ s₁'=>wpAny (model prog w) A (assign target env v) (λ_ s₂ =>
     wpAny (model prog w) A (forIn ifs true λc r=>if r=true then do let ok ← isTrue c env (eval c env);pure (ForInStep.yield ok) else pure (ForInStep.yield r)) (λok s₃ =>
      if ok=true then wpAny (model prog w) A (eval elt env) (λx s₄ =>
       wpAny (model prog w) A (call (.builtin "list.append") [acc,x]) (λ_ s₅=>∃m,m<n/\I m s₅) (λ_ _=>False) s₄) (λ_ _=>False) s₃
      else ∃m,m<n/\I m s₃) (λ_ _=>False) s₂) (λ_ _=>False) s₁') (λ_ _=>False) s₁) (λ_ _=>False) s)
  (n:Nat) (h:I n s) :
  codeAny (model prog w) A (.compLoop (.ListComp elt [⟨target,iter,ifs,0⟩] scope pos) 0 it acc env) R s:=by
 refine codeAny_loop rfl I (λn s hI=>?_) n h
 show wpAny _ A ((compTurn (.ListComp elt [⟨target,iter,ifs,0⟩] scope pos) 0 it acc env).onRaise (λx=>do noteFrame x env;theTreesLotGoes x)) _ _ s
 refine wpAny_noted ?_
 rw[compTurn_list]
 refine la (wpAny_standAt (la (lbm (turn n s hI) (λr s₁ h₁=>?_) λ_ _ h'=>h'.elim)))
 cases r with
 | none=>exact lc h₁
 | some v =>
  refine la (lbm h₁ (λ_ s₁' h₁'=>?_) λ_ _ h'=>h'.elim)
  refine la (lbm h₁' (λ_ s₂ h₂=>la (lbm h₂ (λok s₃ h₃=>?_) λ_ _ h'=>h'.elim)) λ_ _ h'=>h'.elim)
  cases ok with
  | false=>exact lc ⟨rfl,h₃⟩
  | true =>
   exact la (la (lbm h₃ (λx s₄ h₄=>la (lbm h₄ (λ_ s₅ h₅=>lc (lc ⟨rfl,h₅⟩)) λ_ _ h'=>h'.elim)) λ_ _ h'=>h'.elim))
end
def PTs (X:Cx)(ifs:List Expr)(t:TT):Prop :=
 ∀ (pins:List (Addr×Obj)) (s:Shared) (σ:St) (H:Hp) (Q:Bool->Hp->Prop),Inv X pins σ H s->t σ H Q ->
  wpAny (model X.prog X.w) X.A (forIn ifs true λc r=>if r=true then do let ok ← isTrue c X.env (eval c X.env);pure (ForInStep.yield ok) else pure (ForInStep.yield r)) (TP X pins σ Q) X.xe s
def Kps (σ σ':St):Prop:=σ'.length=σ.length/\∀(i:Nat) (v:V),σ[i]? = some (some v)->σ'[i]? = some (some v)
def zbX (g:TG)(tt:TT)(te:TE)(σ0:St)(F:List V->Hp->Prop)(J:It)(H1:Hp):Prop :=
 ∃ W : Nat->Nat->List V->Hp->Prop,(∃m,W 0 m [] H1)/\∀i m ys H,W i m ys H->ys.length<=sizeLine /\
  ((J.stop i H/\F ys H)∨(J.go i H/\ys.length<sizeLine/\∃N:List V->Hp->Prop,(∀ys' H',N ys' H'->∃m',m'<m/\W (i+1) m' ys' H') /\
    ∀x H',J.yld i H x H'->g x σ0 H' λσ2 H2=>Kps σ0 σ2/\tt σ2 H2 λb H3=>if b=true then te σ2 H3 λy H4=>N (ys++[y]) H4 else N ys H3))
def znM (wi:TI)(g:TG)(tt:TT)(te:TE)(own:List Str)(caps:List Nat):TE:=λσ H Q=>wi σ H λJ H1=>zbX g tt te (zes own caps σ) (λys H'=>∀D,H' D=none->Q (.ref D) (upd H' D (.lst ys))) J H1
section
variable {X:Cx}{pins:List (Addr×Obj)}{σ:St}{H:Hp}{s:Shared}{scope:Scope}{own:List Str}{caps:List Nat}{elt tg iter:Expr}{ifs:List Expr}{wi:TI}{g:TG}{tt:TT}{te:TE}{pos:Pos}
structure CompIn (X:Cx)(scope:Scope)(own:List Str)(caps:List Nat)(tg:Expr)(ifs:List Expr)(elt:Expr)(g:TG)(tt:TT)(te:TE):Prop where
 tgt:∀pins C ex s H,PG (cxC X pins scope own caps C ex s H) tg g
 tst:∀pins C ex s H,PTs (cxC X pins scope own caps C ex s H) ifs tt
 elm:∀pins C ex s H,PE (cxC X pins scope own caps C ex s H) elt te
theorem zeP {M:Model}{A:Around}{E:Value->Shared->Prop}{s:Shared}{scope:Scope}{g:Addr}{cl:List (Str×Addr)}{q:Str}{env:Env}{Q:Env->Shared->Prop}
  (h:∀h',h'.Ns s.heap.objs.size (λ_=>none)->(∀b o,s.heap.get? b=some o->h'.get? b=some o)->CellsOk h' (s.heap.objs.size+1) (zi2 scope s.heap.objs.size) ->
   Q (newEnv scope s.heap.objs.size g (zi2 scope s.heap.objs.size++cl) q none .none (some env) builtinsNs) {s with heap:=h'}) :
  wpAny M A (newFunctionEnv scope g cl [] q none .none (some env)) Q E s:=by
 simp only[newFunctionEnv,Option.isSome_some,lbD]
 refine la (wpAny_alloc ?_)
 refine la (wpAny_layCells _ (λname kind cells=>by cases hkc:kind == NameKind.cell <;>simp[hkc]) _ _ _ _ ?_)
 have ok:=cellsFrom_ok scope.names (s.heap.push {cls:=.type "dict", data:=.dict #[]}) (s.heap.objs.size+1) [] ⟨λ_ _ hm=>(nomatch hm),List.Pairwise.nil⟩ (by rw[laa];exact lr _)
 rw[laa] at ok
 rw[show({s with heap:=s.heap.push {cls:=.type "dict", data:=.dict #[]} }:Shared).heap.objs.size=s.heap.objs.size+1 from laa ..]
 rw[zad,lcg]
 refine la (lc (lc ?_))
 exact h _ ((Heap.Ns.new s.heap (.type "dict")).keeps (pushCells_keeps _ _)) (λb o e=>pushCells_keeps _ _ b o (lb _ e)) ok
theorem zdA {use:Option (Value->Sem Unit)}{Qv:Value->Shared->Prop}{F:List V->Hp->Prop}(ok:CompOk X scope caps)(hc:X.calm=true)(hi:PI X tg iter wi)(CI:CompIn X scope own caps tg ifs elt g tt te)(I:Inv X pins σ H s)
  (h:wi σ H λJ H1=>zbX g tt te (zes own caps σ) F J H1)
  (fin:∀(D C:Addr) (ys:List V) (H':Hp) (s1:Shared) (m:Str->Option Value),Inv X pins σ (upd H' D (.lst ys)) s1->H' D=none->F ys H'->s1.heap.Ns C m->H' C=none->C≠D->C≠X.env.locals->C∉X.fs->X.s₀.heap.objs.size<=C ->
   (∀x c,X.env.cells.lookup x=some c->c≠C)->(∀p∈X.pn++pins,p.1≠C)->compPost (model X.prog X.w) X.A X.xe use Qv (.ref D) C (.ok .next) s1)
  (hs:∀x,foldedSetIterable iter X.env x=pure x:=by intro _;rfl) :
  wpAny (model X.prog X.w) X.A (comprehension (.ListComp elt [⟨tg,iter,ifs,0⟩] scope pos) scope X.env (firstIterPos [⟨tg,iter,ifs,0⟩] pos) (newList []) false (eval iter X.env) use) Qv X.xe s:=by
 refine wpAny_comprehension_free rfl hs (zcM (ok.cells I)) ok.kind ok.locs (thn (hi pins s σ H _ I h) λv s1 h1=>thn h1 λitv s2 h2=>?_)
 obtain⟨it,fp,tn,J,H2,e,I2,T,st2,f2,W,⟨m0,w0⟩,turn⟩:=h2
 subst e
 refine laf (zeP (λh₁ hns₁ hsb₁ cok=>?_))
 dsimp only at hns₁ hsb₁ cok ⊢
 generalize hH2:s2.heap.push {cls:=.type "list", dict:=none,data:=.seq ([]:List Value).toArray}=HH at hns₁ hsb₁ cok ⊢
 have hCs:HH.objs.size=s2.heap.objs.size+1:=by rw[← hH2,laa]
 have hDC:s2.heap.objs.size≠HH.objs.size:=by rw[hCs];exact lO (lcE _)
 have hC:s2.heap.objs.size<=HH.objs.size:=by rw[hCs];exact lbI _
 have old:∀b o,s2.heap.get? b=some o->h₁.get? b=some o:=λb o e =>
  hsb₁ b o (hH2▸lb _ e)
 have hoD:h₁.get? s2.heap.objs.size=some {cls:=.type "list", data:=.seq ([]:List Value).toArray}:=hsb₁ _ _ (hH2▸lj _ rfl)
 have fo:∀b∈fp,∃o,s2.heap.get? b=some o/\∀v,o.data≠.cell v:=T.obj _ _ st2
 have I4:=Inv.block (own:=own) (t:=s2.toks) ok I2 f2 fo rfl hC hDC old hns₁ hoD (λv z=>by cases z) cok
 have st4:tn 0 h₁:=T.keep _ _ _ st2 λb _ o e=>old b o e
 have hDfp:∀b∈fp,b≠s2.heap.objs.size:=λb hb=>by obtain⟨o,ho,_⟩:=fo b hb;exact lO (lu ho)
 have hCfp:∀b∈fp,b≠HH.objs.size:=λb hb=>by obtain⟨o,ho,_⟩:=fo b hb;exact lO (lz (lu ho) hC)
 have pnD:∀p∈X.pn++pins,p.1≠s2.heap.objs.size:=λp hp=>lO (lu (I2.pin p hp).1)
 have pnC:∀p∈X.pn++pins,p.1≠HH.objs.size:=λp hp=>lO (lz (lu (I2.pin p hp).1) hC)
 have clX:∀x c,X.env.cells.lookup x=some c->c<s2.heap.objs.size:=λx c e=>by obtain⟨v,o,ho,_⟩:=I2.cell x c e;exact lu ho
 have cl:∀x c,(zjP scope X.env HH.objs.size).lookup x=some c->X.env.cells.lookup x=some c∨HH.objs.size<c:=λx c e=>by
  rcases zch e with e|⟨_,e⟩
  ·exact .inr (cok.empty x c (laA e)).2
  ·exact .inl (zcr (ok.cells I) (x,c) (laA e)).1
 have YA:(cxC X pins scope own caps HH.objs.size fp s2 H2).env=compEnvC scope (zjP scope X.env HH.objs.size) HH.objs.size X.env:=rfl
 have stat:∀{H':Hp}{oD:Obj},(∀b∈fp,H' b=none)->∀b∈fp,zjc (cxC X pins scope own caps HH.objs.size fp s2 H2) [(s2.heap.objs.size,oD)] H' b:=λ{H' oD} hn b hb=>by
  refine⟨hn b hb,hCfp b hb,?_,.inl hb,λx c e=>?_,λp hp=>?_⟩
  ·intro z
   rcases lB.mp (I2.stkSub b z) with e|e
   ·exact(f2 b hb).2.1 e
   ·exact(f2 b hb).2.2.1 e
  ·rcases cl x c e with e|e
   ·exact(f2 b hb).2.2.2.2.1 x c e
   ·obtain⟨o,ho,_⟩:=fo b hb
    exact laS (ld8 (lz (lu ho) hC) e)
  ·rcases lat.mp hp with hp|hp
   ·exact(f2 b hb).2.2.2.2.2 p hp
   ·have e:p=(s2.heap.objs.size,oD):=by simpa using hp
    subst e
    exact(hDfp b hb).symm
 have loop:∀s₃:Shared,s₃={s2 with heap:=h₁} ->
   codeAny (model X.prog X.w) X.A (.compLoop (.ListComp elt [⟨tg,iter,ifs,0⟩] scope pos) 0 (.ref it) (.ref s2.heap.objs.size) (compEnvC scope (zjP scope X.env HH.objs.size) HH.objs.size X.env)) (compPost (model X.prog X.w) X.A X.xe use Qv (.ref s2.heap.objs.size) HH.objs.size) s₃:=by
  rintro s₃ rfl
  refine zdM (λn s'=>∃i ys its c H',Inv (cxC X pins scope own caps HH.objs.size fp s2 H2) [(s2.heap.objs.size,{cls:=.type "list", data:=.seq its.toArray c})] (zes own caps σ) H' s'/\Vals ys its/\tn i s'.heap/\(∀b∈fp,H' b=none)/\W i n ys H') ?_ m0
   ⟨0,[],[],0,H2,I4,.nil,st4,λb hb=>(f2 b hb).1,w0⟩
  rintro n s' ⟨i,ys,its,c,H',I',rv,st',fr',w'⟩
  obtain⟨hz,hcase⟩:=turn i n ys H' w'
  rcases hcase with⟨stop,qF⟩|⟨go,hlt,N,hN,step⟩
  ·refine thn (T.done (cxC X pins scope own caps HH.objs.size fp s2 H2) rfl rfl rfl hc i _ s' _ H' _ I' (stat fr') st' stop) λr s1 hq26=>?_
   obtain⟨hr,I1⟩:=hq26
   subst hr
   obtain⟨m1,hn1,_⟩:=I1.loc
   obtain⟨pD,nD,_⟩:=I1.pin _ (lQ _ (lK.mpr rfl))
   have J1:Inv X pins σ H' s1:=I2.call' I1.os I1.base I1.hok I1.bare λb hb=>⟨(f2 b hb).2.2.2.1,(f2 b hb).2.1,(f2 b hb).2.2.2.2.1,(f2 b hb).2.2.2.2.2⟩
   have J2:Inv X pins σ (upd H' s2.heap.objs.size (.lst ys)) s1:=J1.track nD (.inr I2.sz) (laS I2.lt) (λx c e=>lO (clX x c e)) pnD ⟨hz,its,c,rv,pD⟩
   exact fin _ _ ys H' s1 m1 J2 nD qF hn1 I1.free hDC.symm (laS (lz I2.lt hC)) (I2.nofs hC) (laj I2.sz hC) (λx c e=>lO (lz (clX x c e) hC)) pnC
  ·refine thn (T.item (cxC X pins scope own caps HH.objs.size fp s2 H2) rfl rfl rfl hc i _ s' _ H' _ I' (stat fr') st' go) λr s1 hq27=>?_
   obtain⟨u,hr,h1⟩:=hq27
   subst hr
   refine thn h1 λ_ s2' hq28=>?_
   obtain⟨x,H5,I5,r5,y5,st5,fr5⟩:=hq28
   have I5':=I5.pinned (stat fr5) (T.obj _ _ st5)
   refine thn (CI.tgt pins _ _ _ _ _ s2' _ H5 x u _ I5' r5 (step x H5 y5)) λ_ s6 hq29=>?_
   obtain⟨σ6,H6,I6,kp6,q6⟩:=hq29
   refine thn (CI.tst pins _ _ _ _ _ s6 σ6 H6 _ I6 q6) λb s7 hq30=>?_
   obtain⟨H7,I7,q7⟩:=hq30
   have again:∀{H8:Hp}{s8:Shared}{ys':List V}{its':List Value}{c':Nat},Inv (cxC X pins scope own caps HH.objs.size fp s2 H2) ([(s2.heap.objs.size,{cls:=.type "list", data:=.seq its'.toArray c'})]++zbt fp s2'.heap) σ6 H8 s8->Vals ys' its'->N ys' H8 ->
     ∃m,m<n/\∃i ys its c H',Inv (cxC X pins scope own caps HH.objs.size fp s2 H2) [(s2.heap.objs.size,{cls:=.type "list", data:=.seq its.toArray c})] (zes own caps σ) H' s8/\Vals ys its/\tn i s8.heap/\(∀b∈fp,H' b=none)/\W i m ys H':=by
    intro H8 s8 ys' its' c' I8 rv' n8
    obtain⟨m',hm,w8⟩:=hN ys' H8 n8
    refine⟨m',hm,i+1,ys',its',c',H8,I8.unpinned.weak kp6.1.symm kp6.2,rv',T.keep _ _ _ st5 λb hb o e=>(I8.pin (b,o) (lQ _ (lQ _ (jw hb e)))).1,λb hb=>?_,w8⟩
    obtain⟨o,e,d⟩:=T.obj _ _ st5 b hb
    exact(I8.pin (b,o) (lQ _ (lQ _ (jw hb e)))).2.1
   cases b with
   | false=>exact again I7 rv q7
   | true =>
    refine thn (CI.elm pins _ _ _ _ _ s7 σ6 H7 _ I7 q7) λyv s8 hq31=>?_
    obtain⟨y,H8,I8,r8,q8⟩:=hq31
    obtain⟨pD,nD,ncD,nfD,_⟩:=I8.pin (s2.heap.objs.size,{cls:=.type "list", data:=.seq its.toArray c}) (lQ _ (lb2 _ (lK.mpr rfl)))
    have hlen:=rv.length
    refine lct PySem.F.slot_list_append ⟨_,pD,rfl⟩ PySem.F.entry_list_append (PySem.F.args_list_append_2 _ _) (PySem.list_append s2.heap.objs.size its.toArray c yv (by rw[lF];omega)) ⟨pD,?_⟩
    have ef:its.toArray.push yv=(its++[yv]).toArray:=by simp
    obtain⟨c',q⟩:∃c',(s8.heap.update s2.heap.objs.size (Obj.mapSeq λxs=>xs.push yv)).get? s2.heap.objs.size=some {cls:=.type "list", data:=.seq (its++[yv]).toArray c'}:=⟨_,by rw[← ef];exact PySem.IsL.update pD (λxs=>xs.push yv)⟩
    have keepB:∀b o,b≠s2.heap.objs.size->s8.heap.get? b=some o->(s8.heap.update s2.heap.objs.size (Obj.mapSeq λxs=>xs.push yv)).get? b=some o:=λb o hb e=>(lbC s8.heap _ (lbb hb)).trans e
    have I9:Inv (cxC X pins scope own caps HH.objs.size fp s2 H2) (zbt fp s2'.heap) σ6 H8 s8:=I8.pins_of λp hp=>I8.pin p (lQ _ (lQ _ hp))
    have I10:Inv (cxC X pins scope own caps HH.objs.size fp s2 H2) (zbt fp s2'.heap) σ6 H8 {s8 with heap:=s8.heap.update s2.heap.objs.size (Obj.mapSeq λxs=>xs.push yv)}:=by
     refine I9.turned (t':=s8.toks) (it:=s2.heap.objs.size) keepB nD ncD (.inr (lr _)) (λx c e=>(cl x c e).elim (λe=>lO (clX x c e)) λe=>laS (ldw hC e)) λp hp=>?_
     rcases lat.mp hp with hp|hp
     ·exact pnD p hp
     ·exact hDfp _ (zdy hp).1
    refine again (its':=its++[yv]) (c':=c') (I10.pins_of λp hp=>?_) (rv.append (.cons r8 .nil)) q8
    rcases lat.mp hp with hp|hp
    ·have e:=lK.mp hp
     subst e
     exact⟨q,nD,ncD,nfD,λv z=>by cases z⟩
    ·exact I10.pin p (lQ _ hp)
 exact codeAny_compStart_list (loop _ rfl) (T.self _ 0 _ _ _ st4 (loop _ rfl))
theorem zhq (ok:CompOk X scope caps)(hc:X.calm=true)(hi:PI X tg iter wi)(CI:CompIn X scope own caps tg ifs elt g tt te)(hs:∀x,foldedSetIterable iter X.env x=pure x:=by intro _;rfl) :
  PE X (.ListComp elt [⟨tg,iter,ifs,0⟩] scope pos) (znM wi g tt te own caps):=by
 intro pins s σ H Q I h
 rw[eval_ListComp]
 refine zdA (use:=none) ok hc hi CI I h (λD C ys H' s1 m I1 nD q hn nC hCD hCL hCf hC0 hCc hCp=>?_) hs
 refine⟨m,hn,λh' hsb=>?_⟩
 have I2:Inv X pins σ (upd H' D (.lst ys)) {s1 with heap:=h'}:=I1.turned (t':=s1.toks) (it:=C) (λb o hb e=>hsb.extBut b o hb e) (by rw[zP hCD];exact nC) hCL (.inr hC0) hCc hCp
 exact⟨.ref D,_,I2,rfl,q D nD⟩
def znW (j:Nat)(wi:TI)(g:TG)(tt:TT)(te:TE)(own:List Str)(caps:List Nat):TS:=λE σ H=>wi σ H λJ H1=>zbX g tt te (zes own caps σ) (λys H'=>∀D,H' D=none->E.nx (σ.set j (some (.ref D))) (upd H' D (.lst ys))) J H1
theorem zii {j:Nat}{y:Str}{py spos:Pos}(hN:X.N.Nodup)(hj:X.N[j]? = some y)(hy:X.env.scope.names.lookup y=some .local)(ok:CompOk X scope caps)(hc:X.calm=true)(hi:PI X tg iter wi)(CI:CompIn X scope own caps tg ifs elt g tt te)
  (hsw:swapsWith (.ListComp elt [⟨tg,iter,ifs,0⟩] scope pos) (some (.Name y py)) spos.line X.env=pure true) (hs:∀x,foldedSetIterable iter X.env x=pure x:=by intro _;rfl) :
  PS X (.Assign [.Name y py] (.ListComp elt [⟨tg,iter,ifs,0⟩] scope pos) spos) (znW j wi g tt te own caps):=by
 intro pins s σ H E I h
 rw[exec_Assign_Name_used _ _ _ _ hsw]
 refine la (wpAny_standAt (la ?_))
 show wpAny _ X.A (do let _ ← comprehension (.ListComp elt [⟨tg,iter,ifs,0⟩] scope pos) scope X.env _ (newList []) false (eval iter X.env) (some (assign (.Name y py) X.env))) _ _ s
 refine la (lbm (zdA (use:=some (assign (.Name y py) X.env)) (Qv:=λ_ s'=>SP X pins E .next s') ok hc hi CI I h (λD C ys H' s1 m I1 nD q hn nC hCD hCL hCf hC0 hCc hCp=>?_) hs) (λ_ s' hq=>lc (lc hq)) λ_ _ e=>e)
 obtain⟨oC,es,ep,eC,dC,rC⟩:=id hn
 have I2:Inv X (pins++[(C,oC)]) σ (upd H' D (.lst ys)) s1:=I1.pins_of λp hp=>by
  rcases lat.mp hp with hp|hp
  ·exact I1.pin p (lQ _ hp)
  ·have e:=lK.mp hp
   subst e
   exact⟨eC,by rw[zP hCD];exact nC,hCL,hCf,λv z=>by rw[dC] at z;cases z⟩
 show wpAny _ X.A (assign (.Name y py) X.env (.ref D)) _ _ s1
 refine wpAny_assign_Name (zcE (v:=.ref D) I2 hN hj (.inl hy) rfl (λs2 I3=>?_) (.inr hy))
 obtain⟨e3,n3,_⟩:=I3.pin (C,oC) (lQ _ (lQ _ (lK.mpr rfl)))
 have I4:Inv X pins (σ.set j (some (.ref D))) (upd H' D (.lst ys)) s2:=I3.pins_of λp hp=>I3.pin p (lQ _ (lb2 _ hp))
 refine⟨m,⟨oC,es,ep,e3,dC,rC⟩,λh' hsb=>?_⟩
 have I5:Inv X pins (σ.set j (some (.ref D))) (upd H' D (.lst ys)) {s2 with heap:=h'}:=I4.turned (t':=s2.toks) (it:=C) (λb o hb e=>hsb.extBut b o hb e) n3 hCL (.inr hC0) hCc hCp
 exact⟨_,_,I5,q D nD⟩
end
def T (l:List Nat):Str:=⟨l.toArray⟩
theorem za8 (l:List Nat):(T l).cps.toList=l:=by simp[T]
theorem zo1 (x:Str):T x.cps.toList=x:=by cases x;simp[T]
theorem zas (l:List Nat):(T l).length=l.length:=by simp[T,Str.length]
theorem zmF (l m:List Nat):T l++T m=T (l++m):=by
 show Str.append (T l) (T m)=_
 simp[Str.append,T]
theorem zjb {l m:List Nat}(h:T l=T m):l=m:=by
 have:=lbj (λx:Str=>x.cps.toList) h
 simpa [T] using this
theorem zl8 (l m:List Nat):(T l == T m)=(l == m):=by
 rw[lcn]
 simp only[ldL]
 exact⟨zjb,lbj T⟩
theorem zb3 {l:List Nat}(h:∀c∈l,c<0x110000)(hl:l.length<=1000000):TxtOk (T l):=by
 refine⟨?_,by rw[zas];exact hl⟩
 show(T l).cps.all (· < 0x110000)=true
 simp only[T,lcF,laL,lbh]
 exact h
theorem TxtOk.app {x y:Str}(hx:TxtOk x)(hy:TxtOk y)(hl:x.length+y.length<=1000000):TxtOk (x++y):=by
 obtain⟨a,_⟩:=hx
 obtain⟨b,_⟩:=hy
 refine⟨?_,?_⟩
 ·have a':x.cps.all (· < 0x110000)=true:=a
  have b':y.cps.all (· < 0x110000)=true:=b
  show(x.cps++y.cps).all (· < 0x110000)=true
  rw[Array.all_append,a',b'];rfl
 ·show(x.cps++y.cps).size<=1000000
  rw[Array.size_append];exact hl
theorem zfO (lo:Option Int)(n d:Nat)(hd:d<=n):(match lo with|none=>(d:Int)|some i=>max 0 (min (if i<0 then i+(n:Int) else i) (n:Int)))=((HT.sIx n d lo:Nat):Int):=by
 cases lo with
 | none=>rfl
 | some i =>
  show max 0 (min (if i<0 then i+(n:Int) else i) (n:Int))=(((if i<0 then(i+(n:Int)).toNat else min i.toNat n):Nat):Int)
  split <;>omega
theorem zlx (x:Str)(lo hi:Option Int):Txt.slice x lo hi=T ((x.cps.toList.drop (HT.sIx x.length 0 lo)).take (HT.sIx x.length x.length hi - HT.sIx x.length 0 lo)):=by
 have ha:HT.sIx x.length 0 lo<=x.length:=HT.sIx_le _ _ (lbJ _) lo
 have hb:HT.sIx x.length x.length hi<=x.length:=HT.sIx_le _ _ (lr _) hi
 have e:Builtin.Str.strSliceIndices lo hi 1 x.length=Builtin.Str.strSliceIndices (some ((HT.sIx x.length 0 lo:Nat):Int)) (some ((HT.sIx x.length x.length hi:Nat):Int)) 1 x.length:=by
  have h1:=zfO lo x.length 0 (lbJ _)
  have h2:=zfO hi x.length x.length (lr _)
  generalize HT.sIx x.length 0 lo=a at *
  generalize HT.sIx x.length x.length hi=b at *
  have k1:max 0 (min (if (a:Int)<0 then(a:Int)+(x.length:Int) else(a:Int)) (x.length:Int))=(a:Int):=by split <;>omega
  have k2:max 0 (min (if (b:Int)<0 then(b:Int)+(x.length:Int) else(b:Int)) (x.length:Int))=(b:Int):=by split <;>omega
  unfold Builtin.Str.strSliceIndices
  simp only[show(1:Int) > 0 by decide,lbD,k1,k2]
  cases lo <;>cases hi <;>simp only at h1 h2 ⊢ <;>first|rw[h1,h2] | (rw[← h1,← h2];rfl)
 have e2:Txt.slice x lo hi=StrLaws.sliceText x (some ((HT.sIx x.length 0 lo:Nat):Int)) (some ((HT.sIx x.length x.length hi:Nat):Int)):=by
  unfold Txt.slice StrLaws.sliceText
  rw[e]
 rw[e2]
 by_cases hab:HT.sIx x.length 0 lo<=HT.sIx x.length x.length hi
 ·exact StrLaws.sliceText_nat x hab hb
 ·have hz:HT.sIx x.length x.length hi - HT.sIx x.length 0 lo=0:=by omega
  rw[hz,leo]
  generalize HT.sIx x.length 0 lo=a at *
  generalize HT.sIx x.length x.length hi=b at *
  have k1:max 0 (min (if (a:Int)<0 then(a:Int)+(x.length:Int) else(a:Int)) (x.length:Int))=(a:Int):=by split <;>omega
  have k2:max 0 (min (if (b:Int)<0 then(b:Int)+(x.length:Int) else(b:Int)) (x.length:Int))=(b:Int):=by split <;>omega
  have e3:Builtin.Str.strSliceIndices (some (a:Int)) (some (b:Int)) 1 x.length=[]:=by
   unfold Builtin.Str.strSliceIndices sliceRange
   simp only[show(1:Int) > 0 by decide,lbD,k1,k2]
   have:¬((b:Int) > (a:Int)):=by omega
   simp[this]
   try omega
  unfold StrLaws.sliceText
  rw[e3]
  simp only[lV,List.filterMap_nil]
  split
  ·rename_i h
   have hn:x.length=0:=by
    simp at h
    omega
   omega
  ·rfl
section
variable {X:Cx}{e:Expr}{te:TE}{pos p2:Pos}
def zpk:V->Option Int->Option Int->Hp->VK->Prop:=λx lo hi H Q=>∃z,x=.str z/\z.length<=sizeLine/\Q (.str (T ((z.cps.toList.drop (HT.sIx z.length 0 lo)).take (HT.sIx z.length z.length hi - HT.sIx z.length 0 lo)))) H
theorem part_of {v:Value}{o:Option Int}(p:IsPart v o):∃q:Option (Int×Tok),v=partValue q/\q.map (·.1)=o:=by
 cases p with
 | none=>exact⟨none,rfl,rfl⟩
 | int i t=>exact⟨some (i,t),rfl,rfl⟩
theorem zmz:SlR X zpk:=by
 intro pins s σ H x v vl vu lo hi sl Q I rx hs pl pu h
 obtain⟨z,rfl,hz,q⟩:=h
 obtain⟨t,rfl⟩:=rx
 obtain⟨l,rfl,rfl⟩:=part_of pl
 obtain⟨u,rfl,rfl⟩:=part_of pu
 refine⟨"str", _,PySem.F.slot_str_getitem.lookup,typeIs_str _ _ _,?_⟩
 refine wpAny_getItem_str_slice (l:=l) (u:=u) (st:=none) hs rfl ?_
 refine post_val_or_str (y:=z) ?_
 have e:=zlx z (l.map (·.1)) (u.map (·.1))
 unfold Txt.slice at e
 refine⟨laj (Txt.slice_le z (l.map (·.1)) (u.map (·.1))) hz,λt' k=>⟨.str _,H,I.tok _,⟨t',?_⟩,q⟩⟩
 exact lbj (λy=>Value.str y t') e
def Its (x:Str):It:=⟨λi _=>i<x.cps.size,λi H v H'=>H'=H/\∃c,x.cps.toList[i]? = some c/\v=.str (T [c]),λi _=>x.cps.size<=i⟩
theorem zfB {P:Program}{w:World}{K:PySem.W.Frag}{tg:Expr}{x:Str}{t:Tok}{ty:String}(it:Addr)(W:∀A':Around,A'.handled=none->Walks P w A' it [it] [it] x.cps.size (SignAt x) (λi h=>h.IsStrIter it ty x t i))
  (hn:["enumerate", "zip", "dict_itemiterator", "dict_reverseitemiterator", "odict_iterator", "itertools.zip_longest", "itertools.pairwise"].contains ty=false)
  (hend:∀(A:Around) (i:Nat) (s:Shared) (Q:Option Value->Shared->Prop) (E:Value->Shared->Prop),A.handled=none->s.heap.IsStrIter it ty x t i->x.cps[i]? = none->(∀h',Heap.ExtBut it s.heap h'->Q none {s with heap:=h'})->wpAny (model P w) A (pyNext (.ref it)) Q E s)
  (hself:∀(A:Around) (i:Nat) (s:Shared) (Q:Value->Shared->Prop) (E:Value->Shared->Prop),s.heap.IsStrIter it ty x t i->Q (.ref it) s->wpAny (model P w) A (pyIter (.ref it)) Q E s) :
  Turn P w K tg (Its x) [it] it (λi h=>h.IsStrIter it ty x t i) where
 mem:=by simp
 obj:=λi h st b hb=>by
  have e:b=it:=by simpa using hb
  subst e
  obtain⟨o,e,c,d⟩:=st
  exact⟨o,e,λv z=>by rw[d] at z;cases z⟩
 keep:=λi h h' st k=>by obtain⟨o,e,r⟩:=st;exact⟨o,k it (by simp) o e,r⟩
 item:=by
  intro X hP hw hK hc i pins s σ H E I hf st hg
  subst hP hw hK
  obtain⟨f0,f1,f2,f3,f4,f5⟩:=hf it (by simp)
  refine(W X.A (I.ok.hd hc)).item i s _ _ hg st λv h' tk hv st' kk=>?_
  obtain⟨c,u,hcc,rfl⟩:=hv
  have I1:Inv X pins σ H {s with heap:=h',toks:=tk}:=I.turned (λb o hb e=>kk b o (by simpa using hb) e) f0 f1 f3 f4 f5
  obtain⟨o,e,c1,d1⟩:=id st'
  exact⟨_,rfl,zjz (s:={s with heap:=h',toks:=tk}) e c1 d1 hn ⟨.str (T [c]),H,I1,⟨u,rfl⟩,⟨rfl,c,by simpa using hcc,rfl⟩,st',λb hb=>(hf b hb).1⟩⟩
 done:=by
  intro X hP hw hK hc i pins s σ H E I hf st hg
  subst hP hw hK
  obtain⟨f0,f1,f2,f3,f4,f5⟩:=hf it (by simp)
  have hge:x.cps.size<=i:=hg
  exact hend X.A i s _ _ (I.ok.hd hc) st (lbn hge) λh' eb=>⟨rfl,I.turned (t':=s.toks) (λb o hb e=>eb b o hb e) f0 f1 f3 f4 f5⟩
 self:=λA i s Q E st h=>hself A i s Q E st h
def zoY (tl:TE):TI:=λσ H R=>tl σ H λv H1=>∃x,v=.str x/\R (Its x) H1
theorem zna {tg l:Expr}{tl:TE}(hl:PE X l tl):PI X tg l (zoY tl):=by
 intro pins s σ H R I h
 refine thn (hl pins s σ H _ I h) λv s1 hq32=>?_
 obtain⟨y,H1,I1,r1,q1⟩:=hq32
 obtain⟨x,e,q⟩:=q1
 subst e
 obtain⟨t,rfl⟩:=r1
 have fin:∀(ty:String) (T':Turn X.prog X.w X.K tg (Its x) [s1.heap.objs.size] s1.heap.objs.size (λi h=>h.IsStrIter s1.heap.objs.size ty x t i)),
   PIE X pins σ tg R (.ref s1.heap.objs.size) {s1 with heap:=s1.heap.push {cls:=.type ty,data:=.fields #[.str x t,.int 0 0]} }:=λty T' =>
  ⟨s1.heap.objs.size,[s1.heap.objs.size],_,_,H1,rfl,I1.kept (t':=s1.toks) λb o e=>lb _ e,T',⟨_,lj _ rfl,rfl,rfl⟩,λb hb=>by
   have e:b=s1.heap.objs.size:=by simpa using hb
   subst e
   exact I1.fpOk (lr _) (I1.hok.fresh (lr _)),q⟩
 cases ha:x.cps.all (· < 128)
 ·exact wpAny_pyIter_wide ha (fin _ (zfB _ (λA' hA=>Walks.strWide hA _ x t) (by decide) (λA i s Q E hh st hx hQ=>wpAny_pyNext_wide_end hh st hx hQ) λA i s Q E st hq=>wpAny_pyIter_striter_wide st hq))
 ·exact ldx ha (fin _ (zfB _ (λA' hA=>Walks.strAscii hA _ x t) (by decide) (λA i s Q E hh st hx hQ=>wpAny_pyNext_ascii_end hh st hx hQ) λA i s Q E st hq=>wpAny_pyIter_striter_ascii st hq))
end
def Wlk (J:It)(G:Hp->Prop)(xs:List V):Prop:=∀H,G H->(∀i,i<xs.length->J.go i H/\∀x H',J.yld i H x H'->H'=H/\xs[i]? = some x)/\J.stop xs.length H
theorem zi5 {K:PySem.W.Frag}{a:Addr}{xs:List V}:Wlk (Itl K a) (λH=>SqL K H a xs) xs:=λH q =>
 ⟨λi hi=>⟨⟨xs,xs[i],q,by simp[hi]⟩,λx H' y=>⟨y.1,y.2 xs q⟩⟩,⟨xs,q,lr _⟩⟩
theorem zlN {K:PySem.W.Frag}{a:Addr}{xs:List V}:Wlk (Itt K a) (λH=>SqT K H a xs) xs:=λH q =>
 ⟨λi hi=>⟨⟨xs,xs[i],q,by simp[hi]⟩,λx H' y=>⟨y.1,y.2 xs q⟩⟩,⟨xs,q,lr _⟩⟩
theorem zee {lo:Int}{n:Nat}{G:Hp->Prop}:Wlk (Itr lo n) G ((List.range n).map λ(k:Nat)=>V.int (lo+(k:Int))):=λH _=>by
 refine⟨λi hi=>⟨by show i<n;simpa using hi,λx H' y=>⟨y.1,?_⟩⟩,?_⟩
 ·have hi':i<n:=by simpa using hi
  rw[y.2];simp[hi']
 ·show n<=_;simp
theorem zkr {x:Str}{G:Hp->Prop}:Wlk (Its x) G (x.cps.toList.map λc=>V.str (T [c])):=λH _=>by
 refine⟨λi hi=>⟨by show i<x.cps.size;simpa using hi,λv H' y=>⟨y.1,?_⟩⟩,?_⟩
 ·obtain⟨_,c,hc,rfl⟩:=y
  rw[lT,hc];rfl
 ·show x.cps.size<=_;simp
theorem zlm {J:It}{G:Hp->Prop}{xs:List V}(W:Wlk J G xs){g:TG}{tb:TS}{D:Ends}{σ:St}{H:Hp}(Pv:Nat->St->Hp->Prop)(h0:Pv 0 σ H)(hG:∀i σ H,i<=xs.length->Pv i σ H->G H)
  (hs:∀i x σ H,xs[i]? = some x->Pv i σ H->g x σ H λσ2 H2=>tb {D with nx:=Pv (i+1),ct:=Pv (i+1),bk:=D.nx} σ2 H2) (hd:∀σ H,Pv xs.length σ H->D.nx σ H) :
  ∃ W:Nat->Nat->St->Hp->Prop,(∃m,W 0 m σ H)/\∀i m σ H,W i m σ H ->
   (J.stop i H/\D.nx σ H)∨(J.go i H/\∃N:St->Hp->Prop,(∀σ' H',N σ' H'->∃m',m'<m/\W (i+1) m' σ' H')/\∀x H',J.yld i H x H'->g x σ H' λσ2 H2=>tb {D with nx:=N,ct:=N,bk:=D.nx} σ2 H2):=by
 refine⟨λi m σ H=>m=xs.length - i/\i<=xs.length/\Pv i σ H,⟨xs.length,by simp,lbJ _,h0⟩,?_⟩
 rintro i m σ H ⟨rfl,hi,p⟩
 obtain⟨w1,w2⟩:=W H (hG i σ H hi p)
 by_cases hlt:i<xs.length
 ·obtain⟨g1,g2⟩:=w1 i hlt
  refine .inr ⟨g1,Pv (i+1),λσ' H' p'=>⟨xs.length - (i+1),by omega,rfl,hlt,p'⟩,λx H' y=>?_⟩
  obtain⟨e,hx⟩:=g2 x H' y
  subst e
  exact hs i x σ _ hx p
 ·have e:i=xs.length:=by omega
  subst e
  exact .inl ⟨w2,hd σ H p⟩
theorem zgZ {J:It}{G:Hp->Prop}{xs:List V}(W:Wlk J G xs)(hz:xs.length<=sizeLine){g:TG}{tt:TT}{te:TE}{σ0:St}{F:List V->Hp->Prop}{H1:Hp}(Pv:Nat->List V->Hp->Prop)(h0:Pv 0 [] H1)(hG:∀i ys H,i<=xs.length->Pv i ys H->G H/\ys.length<=i)
  (hs:∀i x ys H,xs[i]? = some x->Pv i ys H->g x σ0 H λσ2 H2=>Kps σ0 σ2/\tt σ2 H2 λb H3=>if b=true then te σ2 H3 λy H4=>Pv (i+1) (ys++[y]) H4 else Pv (i+1) ys H3) (hd:∀ys H,Pv xs.length ys H->F ys H) :
  zbX g tt te σ0 F J H1:=by
 refine⟨λi m ys H=>m=xs.length - i/\i<=xs.length/\Pv i ys H,⟨xs.length,by simp,lbJ _,h0⟩,?_⟩
 rintro i m ys H ⟨rfl,hi,p⟩
 obtain⟨gH,hl⟩:=hG i ys H hi p
 refine⟨by omega,?_⟩
 obtain⟨w1,w2⟩:=W H gH
 by_cases hlt:i<xs.length
 ·obtain⟨g1,g2⟩:=w1 i hlt
  refine .inr ⟨g1,by omega,Pv (i+1),λys' H' p'=>⟨xs.length - (i+1),by omega,rfl,hlt,p'⟩,λx H' y=>?_⟩
  obtain⟨e,hx⟩:=g2 x H' y
  subst e
  exact hs i x ys _ hx p
 ·have e:i=xs.length:=by omega
  subst e
  exact .inl ⟨w2,hd ys H p⟩
theorem Kps.set {σ:St}{i:Nat}{v:V}(h:σ[i]? = some none):Kps σ (σ.set i (some v)):=by
 refine⟨by simp,λj u e=>?_⟩
 by_cases hj:i=j
 ·subst hj;rw[h] at e;cases e
 ·rw[ly hj];exact e
theorem Kps.trans {a b c:St}(h:Kps a b)(k:Kps b c):Kps a c:=⟨k.1.trans h.1,λi v e=>k.2 i v (h.2 i v e)⟩
def Gat (K:PySem.W.Frag)(H1:Hp)(e:Nat->PyData)(i:Nat)(ys:List V)(H:Hp):Prop:=Same H1 H/\Iss K H ys ((List.range i).map e)
theorem Gat.snoc {K:PySem.W.Frag}{H1 H H4:Hp}{e:Nat->PyData}{i:Nat}{ys:List V}{y:V}(h:Gat K H1 e i ys H)(sm:Same H H4)(is:Is K H4 y (e i)):Gat K H1 e (i+1) (ys++[y]) H4:=by
 refine⟨h.1.trans sm,?_⟩
 rw[lec,la4]
 exact(h.2.mono sm).append (.cons is .nil)
def GatF (K:PySem.W.Frag)(H1:Hp)(p:Nat->Bool)(e:Nat->PyData)(i:Nat)(ys:List V)(H:Hp):Prop:=Same H1 H/\Iss K H ys (((List.range i).filter p).map e)
theorem GatF.snoc {K:PySem.W.Frag}{H1 H H4:Hp}{p:Nat->Bool}{e:Nat->PyData}{i:Nat}{ys:List V}{y:V}(h:GatF K H1 p e i ys H)(hp:p i=true)(sm:Same H H4)(is:Is K H4 y (e i)):GatF K H1 p e (i+1) (ys++[y]) H4:=by
 refine⟨h.1.trans sm,?_⟩
 rw[lec,List.filter_append,la4]
 refine(h.2.mono sm).append ?_
 simp only[ldY,hp,lbD,List.filter_nil,lw,laT]
 exact .cons is .nil
section
variable {X:Cx}
theorem old_ne {s:Shared}{b:Addr}{o:Obj}(e:s.heap.get? b=some o):b∉[s.heap.objs.size]:=λz=>by
 have e':b=s.heap.objs.size:=by simpa using z
 subst e'
 exact absurd (lu e) (lbL _)
theorem zeW:∀{bs:List Bool}{us:List Value},Vals (bs.map V.bl) us->us=bs.map Value.bool
 | [],_,r=>by cases r;rfl
 | b::bs,_,r=>by
  cases r with
  | cons r t=>cases r;rw[zeW t];rfl
theorem range_all {α:Type}(l:List α)(d:α)(p:α->Bool):(List.range l.length).all (λi=>p (l.getD i d))=l.all p:=by
 have:(List.range l.length).map (λi=>l.getD i d)=l:=range_getD l d
 conv=>rhs;rw[← this]
 rw[ldz];rfl
theorem range_any {α:Type}(l:List α)(d:α)(p:α->Bool):(List.range l.length).any (λi=>p (l.getD i d))=l.any p:=by
 have:(List.range l.length).map (λi=>l.getD i d)=l:=range_getD l d
 conv=>rhs;rw[← this]
 rw[lee];rfl
theorem zbF {prog:Program}{w:World}{A:Around}(bs:List Bool):TruthOf prog w A (λi v=>(bs.map Value.bool).toArray[i]? = some v) (λi=>bs.getD i false):=by
 intro i v s Q E hP hQ
 have e:(bs.map Value.bool)[i]? = some v:=by simpa using hP
 rw[lT] at e
 cases hb:bs[i]? with
 | none=>rw[hb] at e;cases e
 | some b =>
  rw[hb] at e
  have e':v=Value.bool b:=(lg e).symm
  subst e'
  have:bs.getD i false=b:=by rw[lm,hb];rfl
  have hQ':Q (bs.getD i false) s:=hQ
  rw[this] at hQ'
  exact lbg hQ'
theorem zbj (hc:X.calm=true):zaa X (.builtin "all") (λxs H Q=>∃(a:Addr) (bs:List Bool),xs=[.ref a]/\SqL X.K H a (bs.map V.bl)/\Q (.bl (bs.all id)) H):=by
 intro pins s σ H xs us Q I r h
 obtain⟨a,bs,rfl,ha,q⟩:=h
 obtain⟨u,rfl,ru⟩:=vals1 r
 cases ru
 obtain⟨its,rv,pl,hz⟩:=I.list ha
 obtain rfl:=zeW rv
 refine call_all_walk (lb5 pl.isList ?_)
 have hlt:a<s.heap.objs.size:=by obtain⟨_,_,e,_⟩:=pl;exact lu e
 refine⟨_,_,_,_,_,_,λi=>bs.getD i false,rfl,Walks.list (show X.A.in1.handled=none from I.ok.hd hc) s.heap.objs.size a (lO hlt) _,⟨⟨_,lj _ rfl,rfl,rfl⟩,pl.isList.push _⟩,zbF bs,λh' tk hk=>?_⟩
 refine⟨.bl _,H,I.kept (h':=h') (t':=tk) λb o e=>hk b o (old_ne e) (lb _ e),rfl,?_⟩
 have:(List.range ((bs.map Value.bool).toArray).size).all (λi=>bs.getD i false)=bs.all id:=by
  rw[show((bs.map Value.bool).toArray).size=bs.length by simp]
  exact range_all bs false id
 rw[this]
 exact q
theorem zf5 (hc:X.calm=true):zaa X (.builtin "any") (λxs H Q=>∃(a:Addr) (bs:List Bool),xs=[.ref a]/\SqL X.K H a (bs.map V.bl)/\Q (.bl (bs.any id)) H):=by
 intro pins s σ H xs us Q I r h
 obtain⟨a,bs,rfl,ha,q⟩:=h
 obtain⟨u,rfl,ru⟩:=vals1 r
 cases ru
 obtain⟨its,rv,pl,hz⟩:=I.list ha
 obtain rfl:=zeW rv
 refine call_any_walk (lb5 pl.isList ?_)
 have hlt:a<s.heap.objs.size:=by obtain⟨_,_,e,_⟩:=pl;exact lu e
 refine⟨_,_,_,_,_,_,λi=>bs.getD i false,rfl,Walks.list (show X.A.in1.handled=none from I.ok.hd hc) s.heap.objs.size a (lO hlt) _,⟨⟨_,lj _ rfl,rfl,rfl⟩,pl.isList.push _⟩,zbF bs,λh' tk hk=>?_⟩
 refine⟨.bl _,H,I.kept (h':=h') (t':=tk) λb o e=>hk b o (old_ne e) (lb _ e),rfl,?_⟩
 have:(List.range ((bs.map Value.bool).toArray).size).any (λi=>bs.getD i false)=bs.any id:=by
  rw[show((bs.map Value.bool).toArray).size=bs.length by simp]
  exact range_any bs false id
 rw[this]
 exact q
theorem ze3 (ns:List Int):∀k,k<=ns.length->preSum (λi=>ns.getD i 0) k=(ns.take k).sum:=by
 intro k
 induction k with
 | zero=>intro _;simp[preSum]
 | succ k ih =>
  intro hk
  have e:ns[k]? = some ns[k]:=lQ9 (by omega)
  rw[lbE,e,List.sum_append]
  simp only[preSum] at ih ⊢
  rw[ih (by omega)]
  simp[lm,e]
theorem zha (hc:X.calm=true):zaa X (.builtin "sum") (λxs H Q=>∃(a:Addr) (ns:List Int),xs=[.ref a]/\SqT X.K H a (ns.map V.int)/\Q (.int ns.sum) H):=by
 intro pins s σ H xs us Q I r h
 obtain⟨a,ns,rfl,ha,q⟩:=h
 obtain⟨u,rfl,ru⟩:=vals1 r
 cases ru
 obtain⟨its,rv,pl,hz⟩:=I.tuple ha
 have pl':s.heap.IsTuple a its.toArray:=pl
 have hlt:a<s.heap.objs.size:=by obtain⟨_,e,_⟩:=pl';exact lu e
 have hlen:=rv.length
 refine call_sum_walkG (lcj pl' ?_)
 refine⟨_,_,_,_,_,_,λi=>ns.getD i 0,rfl,Walks.tuple (show X.A.in1.handled=none from I.ok.hd hc) s.heap.objs.size a (lO hlt) its.toArray,⟨⟨_,lj _ rfl,rfl,rfl⟩,pl'.push _⟩,λb hb=>?_,λi v hv=>?_,λh' tk t' hk=>?_⟩
 ·show b<(s.heap.push _).objs.size
  rw[laa]
  rcases lB.mp hb with rfl|hb
  ·exact lcE _
  ·have e:b=a:=by simpa using hb
   subst e;exact lcu hlt
 ·have e:its[i]? = some v:=by simpa using hv
  have hi:i<(ns.map V.int).length:=by rw[hlen];exact(lv.mp e).1
  obtain⟨u,hu,ru⟩:=rv.get (i:=i) (x:=(ns.map V.int)[i]) (by simp at hi ⊢)
  rw[e] at hu
  cases hu
  have hi':i<ns.length:=by simpa using hi
  rw[List.getElem_map] at ru
  obtain⟨t,e2⟩:=ru
  refine⟨t,?_⟩
  show v=Value.int (ns.getD i 0) t
  rw[e2,lm,lQ9 hi'];rfl
 ·have es:preSum (λi=>ns.getD i 0) its.toArray.size=ns.sum:=by
   have e1:its.toArray.size=ns.length:=by rw[lF,← hlen];simp
   rw[e1,ze3 ns _ (lr _),lde]
  refine⟨.int ns.sum,H,I.kept (h':=h') (t':=tk) λb o e=>hk b o (old_ne e) (lb _ e),⟨t',by rw[es]⟩,q⟩
theorem kE:∀{ss:List Str}{us:List Value},Vals (ss.map V.str) us->StrsAre us ss
 | [],_,r=>by cases r;exact .nil
 | x::ss,_,r=>by
  cases r with
  | cons r t=>obtain⟨u,rfl⟩:=r;exact .cons _ _ (kE t)
theorem zkZ (ls:List (List Nat)):Txt.join (T []) (ls.map T)=T ls.flatten:=by
 have key:∀(ls:List (List Nat)) (acc:Array Nat),(ls.map T).foldl (λacc p=>acc++(T []).cps++p.cps) acc=acc++ls.flatten.toArray:=by
  intro ls
  induction ls with
  | nil=>intro acc;simp
  | cons l r ih =>
   intro acc
   rw[lw,lag,ih]
   simp[T]
 show(⟨((ls.map T).drop 1).foldl (λacc p=>acc++(T []).cps++p.cps) ((ls.map T).headD Str.empty).cps⟩:Str)=_
 cases ls with
 | nil=>rfl
 | cons l r =>
  simp only[lw,List.drop_succ_cons,ldC,List.headD_cons]
  rw[key]
  simp[T]
def rJoin (K:PySem.W.Frag):V->List V->Hp->VK->Prop:=λx vs H Q=>∃(a:Addr) (ls:List (List Nat)),x=.str (T [])/\vs=[.ref a]/\SqL K H a (ls.map λl=>V.str (T l))/\ls.flatten.length<=1000000/\Q (.str (T ls.flatten)) H
theorem zkR:MtR X "str.join" (rJoin X.K):=by
 intro pins s σ H x xs v us Q I rx rs h
 obtain⟨a,ls,rfl,rfl,ha,hz,q⟩:=h
 obtain⟨t,rfl⟩:=rx
 obtain⟨u,rfl,ru⟩:=vals1 rs
 cases ru
 obtain⟨its,rv,pl,hsz⟩:=I.list ha
 have rv':Vals ((ls.map T).map V.str) its:=by rw[lY];exact rv
 have hlen:((ls.map T).map (·.length)).sum=ls.flatten.length:=by
  rw[lY,List.length_flatten]
  exact lbj List.sum (laC λl _=>zas l)
 refine join_list pl.isList (by simpa using kE rv') ?_ λt' k=>?_
 ·rw[hlen,zas]
  simp only[lV,Nat.mul_zero,Nat.add_zero]
  exact laj hz (by decide)
 ·rw[zkZ]
  exact⟨.str _,H,I.tok _,⟨_,rfl⟩,q⟩
theorem zjE (l m:List Nat):Txt.startswith (T l) (T m)=m.isPrefixOf l:=by
 unfold Txt.startswith
 rw[StrLaws.subAt_eq,za8,za8,zas,zas,ldC,lba]
 rw[lcn,lab]
 simp only[lbh,ldL]
 rw[laJ]
 constructor
 ·rintro⟨h1,h2⟩
  rw[← h2];exact lcG _ _
 ·intro h
  exact⟨h.length_le,(lcb.mp h).symm⟩
def zkF:V->List V->Hp->VK->Prop:=λx vs H Q=>∃l m,x=.str (T l)/\vs=[.str (T m)]/\Q (.bl (m.isPrefixOf l)) H
theorem zht:MtR X "str.startswith" zkF:=by
 intro pins s σ H x xs v us Q I rx rs h
 obtain⟨l,m,rfl,rfl,q⟩:=h
 obtain⟨t,rfl⟩:=rx
 obtain⟨u,rfl,ru⟩:=vals1 rs
 obtain⟨t',rfl⟩:=ru
 refine SC.startswith ?_
 rw[zjE]
 exact⟨.bl _,H,I,rfl,q⟩
def zoC:R2:=λx y H Q=>∃c l,x=.str (T [c])/\y=.str (T l)/\Q (.bl (decide (c∈l))) H
theorem znj:OpR X (compareOp .In) zoC:=by
 intro pins s σ H x y v u Q I rx ry h
 obtain⟨c,l,rfl,rfl,q⟩:=h
 obtain⟨t,rfl⟩:=rx
 obtain⟨t',rfl⟩:=ry
 refine in_str (zfH I q ?_)
 have e:=StrLaws.found_one (T l) c
 rw[za8] at e
 exact e.symm
theorem zhh:OpR X (binaryOp .Add) (λx y H Q=>∃l m,x=.str (T l)/\y=.str (T m)/\l.length+m.length<=1000000/\Q (.str (T (l++m))) H):=by
 intro pins s σ H x y v u Q I rx ry h
 obtain⟨l,m,rfl,rfl,hz,q⟩:=h
 refine zgC pins s σ H _ _ v u Q I rx ry ⟨_,_,rfl,rfl,?_,?_⟩
 ·rw[zas,zas]
  first|omega|exact laj hz (by decide)
 ·rw[zmF];exact q
def Sm (i:Int):Prop:=i.natAbs<2 ^ 4000
theorem Sm.log {i:Int}(h:Sm i):i.natAbs.log2<4000:=by
 by_cases h0:i.natAbs=0
 ·rw[h0];decide +kernel
 ·exact(Nat.log2_lt h0).mpr h
theorem xP:OpR X (binaryOp .Mult) (rI (λi j=>Sm i/\Sm j) λi j=>.int (i*j)):=opI λi j _ _ _ _ _ hc q=>mul_int q (by
 obtain⟨h1,h2⟩:=hc
 have a:=h1.log
 have b:=h2.log
 unfold IntMulOk
 intro z
 rw[lab] at z
 have z2:Builtin.Int.intTooBig ((Builtin.Int.intBits i:Int)+(Builtin.Int.intBits j:Int))=true:=by first|exact z.2|exact_mod_cast z.2
 unfold Builtin.Int.intTooBig at z2
 have e1:Builtin.Int.intBits i<=4001:=by unfold Builtin.Int.intBits;split <;>omega
 have e2:Builtin.Int.intBits j<=4001:=by unfold Builtin.Int.intBits;split <;>omega
 have hb:((bitsLine:Nat):Int)≥10000:=by decide
 have:=lc6 z2
 omega)
theorem uh:OpR X (binaryOp .FloorDiv) (rI (λ_ j=>0<j/\Sm j) λi j=>.int (i / j)):=opI λi j _ _ _ _ _ hc q=>by
 obtain⟨h1,h2⟩:=hc
 refine floordiv_int (by omega) ?_ (.inl (PyProof.noPylong_of_log2 (by have:=h2.log;omega)))
 rw[Int.fdiv_eq_ediv_of_nonneg i (by omega)]
 exact q
theorem Same.upd {H:Hp}{p:Addr}{o:HO}(h:H p=none):Same H (upd H p o):=λb u e=>by rw[zP (wM e h)];exact e
def znC (ls:List Nat)(xs:List V):List (Key×V):=(ls.zip xs).foldl (λm p=>putK m (Sum.inr (T [p.1])) p.2) []
theorem zjW:KV ([]:List (Key×V)) ([]:List (Key×Value)):=.nil
theorem zhn:∀(ls:List Nat) {xs:List V}{us:List Value}{m:List (Key×V)}{ms:List (Key×Value)},Vals xs us->KV m ms ->
  KV ((ls.zip xs).foldl (λm p=>putK m (Sum.inr (T [p.1])) p.2) m) ((ls.zip us).foldl (λm p=>stored m (Sum.inr (⟨#[p.1]⟩:Str):Key) p.2) ms)
 | [],_,_,_,_,_,k=>k
 | _::_,_,_,_,_,.nil,k=>k
 | c::ls,_,_,_,_,.cons r t,k=>by
  rw[lbZ,lbZ,lag,lag]
  exact zhn ls t (k.put _ r)
theorem zi9 (ls:List Nat)(xs:List V):(znC ls xs).length<=ls.length:=by
 have key:∀(ps:List (Nat×V)) (m:List (Key×V)),(ps.foldl (λm p=>putK m (Sum.inr (T [p.1])) p.2) m).length<=m.length+ps.length:=by
  intro ps
  induction ps with
  | nil=>intro m;simp
  | cons p r ih =>
   intro m
   rw[lag]
   have h1:=ih (putK m (Sum.inr (T [p.1])) p.2)
   have h2:=vY m (Sum.inr (T [p.1]):Key) p.2
   rw[lC]
   omega
 have:=key (ls.zip xs) []
 have h3:(ls.zip xs).length<=ls.length:=by simp;omega
 rw[lV,lba] at this
 exact laj this h3
def znr (K:PySem.W.Frag)(ta tb:TE):TE:=λσ H Q=>jV ta (jV tb zj4) σ H λvs H2=>∃(l:List Nat) (a:Addr) (xs:List V),vs=[.str (T l),.ref a]/\SqT K H2 a xs/\(∀c∈l,c<128)/\l.length<=1000/\∀p,H2 p=none->Q (.ref p) (upd H2 p (.dK (znC l xs)))
theorem yo {a b:Nat}(h:a<b∨b<a):(a:Addr)≠(b:Addr):=by
 rcases h with h|h
 ·exact lO h
 ·exact laS h
theorem zgf {a b:Expr}{ta tb:TE}{p1 p2 pos1 pos2:Pos}(hc:X.calm=true)(ha:PE X a ta)(hb:PE X b tb)(hd:Gl X "dict")(hz:Gl X "zip")(md:X.mg "dict" = none)(mz:X.mg "zip" = none)
  (hs:starEach [a,b] X.env=[(false,eval a X.env),(false,eval b X.env)]:=by rfl) (hs2:starEach [b] X.env=[(false,eval b X.env)]:=by rfl)
  (hs3:starEach [.Call (.Name "zip" p2) [a,b] [] pos2] X.env=[(false,eval (.Call (.Name "zip" p2) [a,b] [] pos2) X.env)]:=by rfl) :
  PE X (.Call (.Name "dict" p1) [.Call (.Name "zip" p2) [a,b] [] pos2] [] pos1) (znr X.K ta tb):=by
 intro pins s σ H Q I h
 refine lbk (qY I hd md boot_dict ?_)
 refine laG ?_ hs3 rfl
 rw[hs3]
 show wpAny _ _ (spliced ((false,eval (.Call (.Name "zip" p2) [a,b] [] pos2) X.env)::backTo pos1 [])) _ _ s
 refine lcS ?_
 have hA:PA X [a,b] (jV ta (jV tb zj4)):=xO ha (xO hb qO hs2) (by rw[hs,hs2])
 refine lbk (qY I hz mz boot_zip ?_)
 refine laG (thn (hA pos2 pins s σ H _ I h) λus s1 hq33=>?_) (by rw[hs,hs2]) (by rw[hs2];rfl)
 obtain⟨vs,H2,I2,r2,l,ad,xs,ev,hq,h128,hl,q⟩:=hq33
 subst ev
 obtain⟨u1,u2,rfl,ru1,ru2⟩:=vals2 r2
 obtain⟨t,rfl⟩:=ru1
 cases ru2
 obtain⟨its,rv,pl,hsz⟩:=I2.tuple hq
 have pl':s1.heap.IsTuple ad its.toArray:=pl
 have h128':(T l).cps.all (· < 128)=true:=by
  simp only[T,lcF,laL,lbh]
  exact h128
 refine Zp.call_zip_st h128' pl' λh1 m5=>?_
 refine Calls.spliced_nil ?_
 obtain⟨m1,m2,m3,m4,m6,m7,m8⟩:=m5
 have lt:∀{c:Addr}{o:Obj},s1.heap.get? c=some o->c<s1.heap.objs.size:=λe=>lu e
 have had:ad<s1.heap.objs.size:=by obtain⟨o,e,_⟩:=pl';exact lt e
 refine Zp.call_dict_zip (knd:=yW X.prog X.w) (s:={s1 with heap:=h1}) (z:=s1.heap.objs.size+4) (TI:=s1.heap.objs.size+2) (TO:=s1.heap.objs.size+3) (i1:=s1.heap.objs.size) (i2:=s1.heap.objs.size+1) (tp:=ad) (x:=T l) (t:=t) (ys:=its.toArray)
  (I.ok.hd hc) ⟨yo (by omega),yo (by omega),yo (by omega),yo (by omega),yo (by omega),yo (by omega),yo (by omega),yo (by omega),yo (by omega),yo (by omega)⟩ (yo (.inl (lz had (by omega)))) (yo (.inl (lz had (by omega)))) (yo (.inl had)) (yo (.inl (lz had (by omega)))) (λc=>Sum.inr ⟨#[c]⟩) (λc u=>jY _ _ _ u) (by show l.toArray.size<=1000;simpa using hl)
  m1 m2 m3 ⟨_,m4,rfl,rfl⟩ ⟨_,m6,rfl,rfl⟩ (by obtain⟨o,e,r⟩:=pl';exact⟨o,m8 _ _ e,r⟩) λh2 tk hdict keep=>?_
 have keep1:∀b o,s1.heap.get? b=some o->h2.get? b=some o:=λb o e=>by
  have hb:=lt e
  exact keep b o (yo (.inl (lz hb (by omega)))) (yo (.inl (lz hb (by omega)))) (yo (.inl hb)) (yo (.inl (lz hb (by omega)))) (m8 b o e)
 have hp:s1.heap.objs.size<=h1.objs.size:=by rw[m7];omega
 have hnone:H2 h1.objs.size=none:=I2.hok.fresh hp
 refine⟨.ref h1.objs.size,upd H2 h1.objs.size (.dK (znC l xs)),I2.laid (h':=h2) (t':=tk) keep1 hp ?_,rfl,q _ hnone⟩
 refine⟨?_,?_,_,?_,hdict⟩
 ·have:=zi9 l xs
  rw[laP];omega
 ·have hbig:=I2.big
  exact lbO.mpr (by have:=hbig;intro z;rw[z] at hp;exact absurd (lz hbig hp) (lbL _))
 ·rw[za8]
  have:=zhn l rv (zjW)
  simpa [znC] using this
end
def tyN:PyData->String
 | .none => "NoneType" | .bool _ => "bool" | .int _ => "int" | .str _ => "str" | .list _ => "list" | .tuple _ => "tuple" | .dict _ => "dict"
theorem zkJ {K:PySem.W.Frag}(d:PyData):PySem.W.kitOne K (.type (tyN d)) (.type "int")=some (match d with | .int _=>true | .bool _=>true|_=>false):=by cases d <;>rfl
theorem zjF {K:PySem.W.Frag}(d:PyData):PySem.W.kitOne K (.type (tyN d)) (.type "bool")=some (match d with | .bool _=>true|_=>false):=by cases d <;>rfl
theorem zkw {K:PySem.W.Frag}(d:PyData):PySem.W.kitOne K (.type (tyN d)) (.type "str")=some (match d with | .str _=>true|_=>false):=by cases d <;>rfl
theorem kit_tuple {K:PySem.W.Frag}(d:PyData):PySem.W.kitOne K (.type (tyN d)) (.type "tuple")=some (match d with | .tuple _=>true|_=>false):=by cases d <;>rfl
section
variable {X:Cx}
theorem zeh:zaa X (.builtin "isinstance") (λxs H Q=>∃x d n b,xs=[x,.ty n]/\Is X.K H x d/\PySem.W.kitOne X.K (.type (tyN d)) (.type n)=some b/\Q (.bl b) H):=by
 intro pins s σ H xs us Q I r h
 obtain⟨x,d,n,b,rfl,is,e,q⟩:=h
 obtain⟨u,u2,rfl,ru,r2⟩:=vals2 r
 cases r2
 have fin:∀tk,EP X pins σ Q (.bool b) {s with toks:=tk}:=λtk=>⟨.bl b,H,I.tok _,rfl,q⟩
 cases is with
 | non=>cases (show u=Value.none from ru);exact lco PySem.W.kitx_none I.kIn True.intro e (λz=>nomatch z) fin
 | bl y=>cases (show u=Value.bool y from ru);exact lco PySem.W.kitx_bool I.kIn True.intro e (λz=>nomatch z) fin
 | int i=>obtain⟨t,q'⟩:=(show ∃t,u=Value.int i t from ru);cases q';exact lco PySem.W.kitx_int I.kIn True.intro e (λz=>nomatch z) fin
 | str y=>obtain⟨t,q'⟩:=(show ∃t,u=Value.str y t from ru);cases q';exact lco PySem.W.kitx_str I.kIn True.intro e (λz=>nomatch z) fin
 | @lst a xs ds q1 q2 =>
  cases (show u=Value.ref a from ru)
  obtain⟨its,_,⟨o,n',e1,hc,_⟩,_⟩:=I.list q1
  exact lco PySem.W.kitx_list I.kIn ⟨o,e1,hc⟩ e (λz=>nomatch z) fin
 | @tup a xs ds q1 q2 =>
  cases (show u=Value.ref a from ru)
  obtain⟨its,_,⟨o,e1,hc,_⟩,_⟩:=I.tuple q1
  exact lco PySem.W.kitx_tuple I.kIn ⟨o,e1,hc⟩ e (λz=>nomatch z) fin
end
def zho (fs:Scope)(N:List Str)(scope:Scope)(caps:List Nat):Bool :=
 (scope.kind == .function)&&(scope.names.all λy=>y.2 != .cell || scope.names.lookup y.1 == some .cell)&&(scope.names.all λy=>y.2 != .local || scope.names.lookup y.1 == some .local) &&
 (scope.names.all λy=>y.2 != .free || fs.names.lookup y.1 == some .cell || fs.names.lookup y.1 == some .free) &&
 (caps.all λi=>match N[i]? with|some y=>scope.names.lookup y == some .free|none=>false)
theorem xu {X:Cx}{fs scope:Scope}{N:List Str}{caps:List Nat}(hs:X.env.scope=fs)(hN:X.N=N)(h:zho fs N scope caps=true):CompOk X scope caps:=by
 unfold zho at h
 simp only[lab,laL] at h
 obtain⟨⟨⟨⟨h1,h2⟩,h3⟩,h4⟩,h5⟩:=h
 refine⟨by simpa using h1,λy hy e=>?_,λy hy e=>?_,λy hy e=>?_,λi hi=>?_⟩
 ·have:=h2 y hy
  rw[e] at this
  simpa using this
 ·have:=h3 y hy
  rw[e] at this
  simpa using this
 ·have:=h4 y hy
  rw[e] at this
  unfold Env.kindOf
  rw[hs]
  simpa using this
 ·have:=h5 i hi
  rw[hN]
  cases e:N[i]? with
  | none=>rw[e] at this;simp at this
  | some y=>rw[e] at this;exact⟨y,rfl,by simpa using this⟩
theorem jz {X:Cx}{N:List Str}(h:X.N=N)(n:N.Nodup):X.N.Nodup:=h▸n
structure Dn (K:PySem.W.Frag)(mg:Str->Option Value)(x:Str)(st:Stmt)(ps:List Str) where
 f:Addr
 fd:FuncData
 fn:Fun K x x st f fd
 mg:mg x=some (.ref f)
 bd:Binds K fd ps []
section
variable {X:Cx}{pins:List (Addr×Obj)}{σ:St}{H:Hp}{s:Shared}{h':Heap}
theorem Inv.turnedL {t':Nat}{fp:List Addr}(I:Inv X pins σ H s)(k:∀b o,b∉fp->s.heap.get? b=some o->h'.get? b=some o)(hf:∀b∈fp,zjc X pins H b):Inv X pins σ H {s with heap:=h',toks:=t'}:=by
 have nit:∀b u,H b=some u->b∉fp:=λb u e z=>by rw[(hf b z).1] at e;cases e
 have nl:X.env.locals∉fp:=λz=>(hf _ z).2.1 rfl
 refine I.step (g':=s.gens) (d':=s.drawn) (ch:=fp) (λb hb=>?_) (λb o _ _ hc e _=>k b o hc e) (λb o _ _ hc e _=>⟨o.slots,k b o hc e⟩) (λ_ _ _ _ n=>n)
  (λb o hc e=>⟨o,k b o hc e⟩) (λ_ _ e=>e) (λ_ _ _ e=>e) (λb ps e=>⟨#[],by rw[e];simp⟩) (λm hm=>?_) (λb u e=>?_) I.bare
 ·obtain⟨_,f1,_,f3,f4,f5⟩:=hf b hb
  exact⟨f3,f1,f4,f5⟩
 ·obtain⟨o,es,ep,ho,r⟩:=hm
  exact⟨o,es,ep,k _ o nl ho,r⟩
 ·refine(I.hok b u e).stay (λc v hc q=>k c v ?_ q) (λ_ q=>q) λ_ _ q=>q
  rcases hc with z|z
  ·rw[z];exact nit b u e
  ·exact nit c _ z
end
theorem zjV (n:Nat):Zp.Apart (n+4:Nat) (n+2:Nat) (n+3:Nat) n (n+1:Nat) :=
 ⟨yo (by omega),yo (by omega),yo (by omega),yo (by omega),yo (by omega),yo (by omega),yo (by omega),yo (by omega),yo (by omega),yo (by omega)⟩
def fpZ (n:Nat):List Addr:=[(n+4:Nat),(n+2:Nat),(n+3:Nat),n,(n+1:Nat)]
section
variable {prog:Program}{w:World}{A:Around}
theorem zgc {it t:Addr}{i:Nat}{items:Array Value}{x:Value}(hne:t≠it)(hx:items[i]? = some x) :
  Zp.Yields prog w A it (λh=>h.IsListIter it t i/\h.IsList t items) (λv=>v=x) (λh=>h.IsListIter it t (i+1)/\h.IsList t items) :=
 λs Q E g hQ=>Zp.nextOf_list_item g.1 g.2 hx λh' st sb=>hQ _ h' s.toks rfl ⟨st,g.2.extBut sb.extBut hne⟩ sb
theorem zjm {it t:Addr}{i:Nat}{items:Array Value}(hh:A.handled=none)(hx:items[i]? = none) :
  Zp.Ends prog w A it (λh=>h.IsListIter it t i/\h.IsList t items) :=
 λs Q E g hE=>Zp.nextOf_list_end hh g.1 g.2 hx hE
end
def Kp (it n:Nat)(h h':Heap):Prop:=∀(c:Addr) o,(c=it∨(c:Nat)<n)->h.get? c=some o->h'.get? c=some o
structure ZS (P:Program)(w:World)(K:PySem.W.Frag)(xs:List V)(G:Hp->Prop)(n it:Nat)(S:Nat->Heap->Prop):Prop where
 obj:∀i h,S i h->∃o,h.get? (it:Addr)=some o/\∀v,o.data≠.cell v
 keep:∀i h h',S i h->(∀o,h.get? (it:Addr)=some o->h'.get? (it:Addr)=some o)->S i h'
 yld:∀(X:Cx),X.prog=P->X.w=w->X.K=K->∀(pins:List (Addr×Obj)) (s:Shared) (σ:St) (H:Hp) (i:Nat) (x:V),Inv X pins σ H s->G H->xs[i]? = some x->S i s.heap->∃G1 S1:Heap->Prop,
  (∀A,Zp.Yields P w A (it:Addr) G1 (RelV x) S1)/\(∀h',Kp it n s.heap h'->G1 h')/\(∀h h',S1 h->Kp it n h h'->S1 h')/\∀h,S1 h->S (i+1) h
 ends:∀(X:Cx),X.prog=P->X.w=w->X.K=K->∀(pins:List (Addr×Obj)) (s:Shared) (σ:St) (H:Hp) (i:Nat),Inv X pins σ H s->G H->xs.length<=i->S i s.heap->∃G1:Heap->Prop,
  (∀A:Around,A.handled=none->Zp.Ends P w A (it:Addr) G1)/\∀h',Kp it n s.heap h'->G1 h'
theorem zmQ {P:Program}{w:World}{K:PySem.W.Frag}{xs:List V}{n it l:Nat}(hl:l<n)(hi:n<=it):ZS P w K xs (λH=>SqT K H l xs) n it (λi h=>h.IsTupleIter it l i) where
 obj:=λi h ⟨o,e,c,d⟩=>⟨o,e,λv z=>by rw[d] at z;cases z⟩
 keep:=λi h h' z kk=>z.at kk
 yld:=by
  intro X hP hw hK pins s σ H i x I g hx st
  subst hP hw hK
  obtain⟨its,rv,pl,_⟩:=I.tuple g
  obtain⟨u,hu,ru⟩:=rv.get hx
  have p1:s.heap.IsTuple l its.toArray:=pl
  have ne:(l:Addr)≠(it:Addr):=yo (.inl (by omega))
  refine⟨λh=>h.IsTupleIter it l i/\h.IsTuple l its.toArray,λh=>h.IsTupleIter it l (i+1)/\h.IsTuple l its.toArray,λA s Q E g hQ=>Zp.yields_tuple (items:=its.toArray) (i:=i) (x:=u) ne (by simpa using hu) s Q E g λv h' tk e=>hQ v h' tk (e▸ru),λh' kk=>⟨?_,?_⟩,λh h' ⟨a,b⟩ kk=>⟨a.at λo e=>kk _ _ (.inl rfl) e,?_⟩,λh z=>z.1⟩
  ·exact st.at λo e=>kk _ _ (.inl rfl) e
  ·obtain⟨o,e,r⟩:=p1;exact⟨o,kk _ _ (.inr hl) e,r⟩
  ·obtain⟨o,e,r⟩:=b;exact⟨o,kk _ _ (.inr hl) e,r⟩
 ends:=by
  intro X hP hw hK pins s σ H i I g hx st
  subst hP hw hK
  obtain⟨its,rv,pl,_⟩:=I.tuple g
  have p1:s.heap.IsTuple l its.toArray:=pl
  have len:=rv.length
  refine⟨_,λA hh=>Zp.ends_tuple (t:=l) (i:=i) (items:=its.toArray) hh (by simpa using (show its.length<=i by omega)),λh' kk=>⟨st.at λo e=>kk _ _ (.inl rfl) e,?_⟩⟩
  obtain⟨o,e,r⟩:=p1;exact⟨o,kk _ _ (.inr hl) e,r⟩
theorem zmi {P:Program}{w:World}{K:PySem.W.Frag}{xs:List V}{n it l:Nat}(hl:l<n)(hi:n<=it):ZS P w K xs (λH=>SqL K H l xs) n it (λi h=>h.IsListIter it l i) where
 obj:=λi h ⟨o,e,c,d⟩=>⟨o,e,λv z=>by rw[d] at z;cases z⟩
 keep:=λi h h' z kk=>z.at kk
 yld:=by
  intro X hP hw hK pins s σ H i x I g hx st
  subst hP hw hK
  obtain⟨its,rv,pl,_⟩:=I.list g
  obtain⟨u,hu,ru⟩:=rv.get hx
  have p1:s.heap.IsList l its.toArray:=pl.isList
  have ne:(l:Addr)≠(it:Addr):=yo (.inl (by omega))
  refine⟨λh=>h.IsListIter it l i/\h.IsList l its.toArray,λh=>h.IsListIter it l (i+1)/\h.IsList l its.toArray,λA s Q E g hQ=>zgc (items:=its.toArray) (i:=i) (x:=u) ne (by simpa using hu) s Q E g λv h' tk e=>hQ v h' tk (e▸ru),λh' kk=>⟨?_,?_⟩,λh h' ⟨a,b⟩ kk=>⟨a.at λo e=>kk _ _ (.inl rfl) e,?_⟩,λh z=>z.1⟩
  ·exact st.at λo e=>kk _ _ (.inl rfl) e
  ·obtain⟨o,e,r⟩:=p1;exact⟨o,kk _ _ (.inr hl) e,r⟩
  ·obtain⟨o,e,r⟩:=b;exact⟨o,kk _ _ (.inr hl) e,r⟩
 ends:=by
  intro X hP hw hK pins s σ H i I g hx st
  subst hP hw hK
  obtain⟨its,rv,pl,_⟩:=I.list g
  have p1:s.heap.IsList l its.toArray:=pl.isList
  have len:=rv.length
  refine⟨_,λA hh=>zjm (t:=l) (i:=i) (items:=its.toArray) hh (by simpa using (show its.length<=i by omega)),λh' kk=>⟨st.at λo e=>kk _ _ (.inl rfl) e,?_⟩⟩
  obtain⟨o,e,r⟩:=p1;exact⟨o,kk _ _ (.inr hl) e,r⟩
def vC (l:List Nat):List V:=l.map λc=>V.str (T [c])
theorem zmC {P:Program}{w:World}{K:PySem.W.Frag}{l:List Nat}{t:Tok}{n it:Nat}:ZS P w K (vC l) (λ_=>True) n it (λi h=>h.IsStrIter it "str_ascii_iterator" (T l) t i) where
 obj:=λi h z=>by obtain⟨o,e,c,d⟩:=z;exact⟨o,e,λv z=>by rw[d] at z;cases z⟩
 keep:=λi h h' z kk=>by obtain⟨o,e,c,d⟩:=z;exact⟨o,kk o e,c,d⟩
 yld:=by
  intro X hP hw hK pins s σ H i x I g hx st
  subst hP hw hK
  unfold vC at hx
  rw[lT] at hx
  cases ec:l[i]? with
  | none=>rw[ec] at hx;cases hx
  | some c =>
   rw[ec] at hx
   cases hx
   refine⟨λh=>h.IsStrIter it "str_ascii_iterator" (T l) t i,λh=>h.IsStrIter it "str_ascii_iterator" (T l) t (i+1),λA s Q E g hQ=>Zp.yields_ascii (x:=T l) (t:=t) (i:=i) (c:=c) (by show l.toArray[i]? = _;simpa using ec) s Q E g λv h' tk e=>hQ v h' tk ?_,λh' kk=>?_,λh h' z kk=>?_,λh z=>z⟩
   ·obtain⟨u,rfl⟩:=e;exact⟨u,rfl⟩
   ·obtain⟨o,e,c,d⟩:=st;exact⟨o,kk _ _ (.inl rfl) e,c,d⟩
   ·obtain⟨o,e,c,d⟩:=z;exact⟨o,kk _ _ (.inl rfl) e,c,d⟩
 ends:=by
  intro X hP hw hK pins s σ H i I g hx st
  subst hP hw hK
  have hl:l.length<=i:=by simpa [vC] using hx
  refine⟨_,λA hh=>Zp.ends_ascii (x:=T l) (t:=t) (i:=i) hh (by show l.toArray[i]? = none;simpa using hl),λh' kk=>?_⟩
  obtain⟨o,e,c,d⟩:=st;exact⟨o,kk _ _ (.inl rfl) e,c,d⟩
def zoc (G1 G2:Hp->Prop)(xs ys:List V):It :=
 ⟨λi H=>G1 H/\G2 H/\i<min xs.length ys.length,λi H v H'=>∃p x y,H p=none/\xs[i]? = some x/\ys[i]? = some y/\v=.ref p/\H'=upd H p (.tup [x,y]),λi H=>G1 H/\G2 H/\min xs.length ys.length<=i⟩
def zpd (n:Nat)(S1 S2:Nat->Heap->Prop)(i:Nat)(h:Heap):Prop:=∃a b f1,Zp.IsZipF h (n+4:Nat) (n+2:Nat) (n+3:Nat) .none f1/\IsPair h (n+2:Nat) (.ref n) (.ref (n+1:Nat))/\IsPair h (n+3:Nat) a b/\S1 i h/\S2 i h
theorem zhp {P:Program}{w:World}{K:PySem.W.Frag}{elts:List Expr}{k:Nat}{pos:Pos}{n:Nat}{xs ys:List V}{G1 G2:Hp->Prop}{S1 S2:Nat->Heap->Prop}(A1:ZS P w K xs G1 n n S1)(A2:ZS P w K ys G2 n (n+1) S2) :
  Turn P w K (.Tuple elts k pos) (zoc G1 G2 xs ys) (fpZ n) (n+4:Nat) (zpd n S1 S2) where
 mem:=by simp[fpZ]
 obj:=λi h ⟨a,b,f1,z1,z2,z3,z4,z5⟩ c hc=>by
  simp only[fpZ,lB,ld0,leA] at hc
  rcases hc with rfl|rfl|rfl|rfl|rfl
  ·exact⟨_,z1,λv z=>by cases z⟩
  ·exact⟨_,z2,λv z=>by cases z⟩
  ·exact⟨_,z3,λv z=>by cases z⟩
  ·exact A1.obj i h z4
  ·exact A2.obj i h z5
 keep:=λi h h' ⟨a,b,f1,z1,z2,z3,z4,z5⟩ kk=>by
  refine⟨a,b,f1,kk _ (by simp[fpZ]) _ z1,kk _ (by simp[fpZ]) _ z2,kk _ (by simp[fpZ]) _ z3,A1.keep i h h' z4 λo e=>kk _ (by simp[fpZ]) o e,A2.keep i h h' z5 λo e=>kk _ (by simp[fpZ]) o e⟩
 item := by
  intro X hP hw hK hc i pins s σ H E I hf st hg
  obtain⟨q1,q2,hi⟩:=hg
  have i1:i<xs.length:=by omega
  have i2:i<ys.length:=by omega
  obtain⟨a,b,f1,z1,z2,z3,z4,z5⟩:=st
  obtain⟨Ga,Sa,Y1,ga,sa,ta⟩:=A1.yld X hP hw hK pins s σ H i _ I q1 (lQ9 i1) z4
  obtain⟨Gb,Sb,Y2,gb,sb',tb⟩:=A2.yld X hP hw hK pins s σ H i _ I q2 (lQ9 i2) z5
  subst hP hw hK
  have hT:s.TypeIs (.ref ((n+4:Nat):Addr)) "zip" := ⟨_,z1,rfl⟩
  unfold pyNext
  refine la (lbM (lP (name:=Str.ofString "__next__") hT lb0
   (lU lb0 hT PySem.F.entry_zip_next ?_ (PySem.F.args_zip_next_1 _))))
  have D:=zjV n
  have nn:∀{c:Addr}{k:Nat},(c:Nat)<n->c≠((n+k:Nat):Addr):=λ{c k} hc=>yo (.inl (lz hc (lcd _ _)))
  refine Zp.next_item D z1 z2 z3 (Y1 _) (Y2 _) ?_ ?_ ?_ ?_ ?_
  ·refine λh' kk=>ga h' λc o hc e=>kk c o ?_ e
   rcases hc with rfl|hc
   ·exact D.i1z
   ·exact nn hc
  ·refine λh' kk=>gb h' λc o hc e=>?_
   rcases hc with rfl|hc
   ·exact kk _ _ D.i2z D.TOi2.symm D.i12.symm e
   ·exact kk _ _ (nn hc) (nn hc) (nn (k:=0) hc) e
  ·refine λh h' z kk=>sa h h' z λc o hc e=>?_
   rcases hc with rfl|hc
   ·exact kk _ _ D.i1z D.TOi1.symm D.i12 e
   ·exact kk _ _ (nn hc) (nn hc) (nn hc) e
  ·refine λh h' z kk=>sb' h h' z λc o hc e=>?_
   rcases hc with rfl|hc
   ·exact kk _ _ D.i2z D.TOi2.symm e
   ·exact kk _ _ (nn hc) (nn hc) e
  ·rintro v1 v2 h' tk ru1 ru2 z' to' s1 s2 hp hsz kk
   refine lc ⟨_,rfl,?_⟩
   refine wpAny_letOwnedTupleGo_zip (s:={s with heap:=h',toks:=tk}) z' λh2 zz sb=>?_
   obtain⟨o1,e1,_⟩:=A1.obj _ _ z4
   obtain⟨o2,e2,_⟩:=A2.obj _ _ z5
   have nz:∀c:Addr,c=s.heap.objs.size->c∉fpZ n:=λc e hc=>by
    have:=(hf c hc).1
    obtain ⟨o,ho,_⟩:∃o,s.heap.get? c=some o/\True:=by
     simp only[fpZ,lB,ld0,leA] at hc
     rcases hc with rfl|rfl|rfl|rfl|rfl
     ·exact⟨_,z1,trivial⟩
     ·exact⟨_,z2,trivial⟩
     ·exact⟨_,z3,trivial⟩
     ·exact⟨_,e1,trivial⟩
     ·exact⟨_,e2,trivial⟩
    rw[e] at ho
    exact absurd (lu ho) (lbL _)
   have szz:s.heap.objs.size≠((n+4:Nat):Addr):=λe=>nz _ rfl (by rw[e];simp[fpZ])
   have I1:Inv X pins σ H {s with heap:=h2,toks:=tk}:=I.turnedL (fp:=fpZ n) (λc o hc e=>by
    have hc':c≠((n+4:Nat):Addr)/\c≠((n+2:Nat):Addr)/\c≠((n+3:Nat):Addr)/\c≠(n:Addr)/\c≠((n+1:Nat):Addr):=by
     simpa [fpZ] using hc
    exact sb.extBut _ _ hc'.1 (kk c o hc'.1 hc'.2.2.1 hc'.2.2.2.1 hc'.2.2.2.2 e)) hf
   have hfree:H s.heap.objs.size=none:=I.hok.fresh (lr _)
   have hpair:h2.get? s.heap.objs.size=some {cls:=.type "tuple", data:=.seq #[v1,v2]}:=sb.extBut _ _ szz hp
   have I2:Inv X pins σ (upd H s.heap.objs.size (.tup [xs[i],ys[i]])) {s with heap:=h2,toks:=tk}:=I1.track hfree (.inr I.sz) (laS I.lt) (λx c e=>by
     obtain⟨v,o,ho,_⟩:=I.cell x c e
     exact lO (lu ho)) (λp hp=>lO (lu (I.pin p hp).1))
    ⟨by show 2<=sizeLine;decide,[v1,v2],.cons ru1 (.cons ru2 .nil),_,hpair,rfl,⟨_,rfl⟩,rfl⟩
   refine⟨.ref s.heap.objs.size,_,I2,rfl,⟨_,_,_,hfree,lQ9 i1,lQ9 i2,rfl,rfl⟩,⟨v1,v2,.bool false,zz,sb.extBut _ _ D.TIz (kk _ _ D.TIz D.TITO D.TIi1 D.TIi2 z2),sb.extBut _ _ D.TOz to',?_,?_⟩,λb hb=>?_⟩
   ·exact A1.keep _ _ _ (ta _ s1) λo e=>sb.extBut _ _ D.i1z e
   ·exact A2.keep _ _ _ (tb _ s2) λo e=>sb.extBut _ _ D.i2z e
   ·rw[zP (λe=>nz b e hb)]
    exact(hf b hb).1
 done:=by
  intro X hP hw hK hc i pins s σ H E I hf st hg
  obtain⟨q1,q2,hi⟩:=hg
  obtain⟨a,b,f1,z1,z2,z3,z4,z5⟩:=st
  have hT:s.TypeIs (.ref ((n+4:Nat):Addr)) "zip" := ⟨_,z1,rfl⟩
  have D:=zjV n
  have nn:∀{c:Addr}{k:Nat},(c:Nat)<n->c≠((n+k:Nat):Addr):=λ{c k} hc=>yo (.inl (lz hc (lcd _ _)))
  have hh:=I.ok.hd hc
  have key:∃Ga Gb:Heap->Prop,(Zp.Ends X.prog X.w X.A.in1 (n:Addr) Ga∨(Zp.Yields X.prog X.w X.A.in1 (n:Addr) Ga (λ_=>True) (λ_=>True)/\Zp.Ends X.prog X.w X.A.in1 ((n+1:Nat):Addr) Gb))/\(∀h',Kp n n s.heap h'->Ga h')/\(∀h',Kp (n+1) n s.heap h'->Gb h'):=by
   by_cases h1:xs.length<=i
   ·obtain⟨Ga,y,g⟩:=A1.ends X hP hw hK pins s σ H i I q1 h1 z4
    subst hP hw
    exact⟨Ga,λ_=>True,.inl (y _ hh),g,λ_ _=>trivial⟩
   ·obtain⟨Ga,Sa,Y1,ga,sa,ta⟩:=A1.yld X hP hw hK pins s σ H i _ I q1 (lQ9 (Nat.lt_of_not_le h1)) z4
    obtain⟨Gb,y,g⟩:=A2.ends X hP hw hK pins s σ H i I q2 (by omega) z5
    subst hP hw
    exact⟨Ga,Gb,.inr ⟨λs Q E g hQ=>Y1 _ s Q E g λv h' tk _ _ sb=>hQ v h' tk trivial trivial sb,y _ hh⟩,ga,g⟩
  obtain⟨Ga,Gb,hend',ga,gb⟩:=key
  subst hP hw hK
  unfold pyNext
  refine la (lbM (lP (name:=Str.ofString "__next__") hT lb0
   (lU lb0 hT PySem.F.entry_zip_next (Zp.next_end D z1 z2 z3 hend' ?_ ?_ ?_) (PySem.F.args_zip_next_1 _))))
  ·refine λh' kk=>ga h' λc o hc e=>kk c o ?_ e
   rcases hc with rfl|hc
   ·exact D.i1z
   ·exact nn hc
  ·refine λh' kk=>gb h' λc o hc e=>?_
   rcases hc with rfl|hc
   ·exact kk _ _ D.i2z D.TOi2.symm D.i12.symm e
   ·exact kk _ _ (nn hc) (nn hc) (nn (k:=0) hc) e
  ·intro h' tk e kk he
   obtain⟨o,ho,hc⟩:=he
   refine la (lcC (T := "StopIteration") (b:=true) ⟨o,ho,hc⟩ ldB ?_)
   refine lc ⟨rfl,I.turnedL (fp:=fpZ n) (λc o hc e=>?_) hf⟩
   have hc':c≠((n+4:Nat):Addr)/\c≠((n+2:Nat):Addr)/\c≠((n+3:Nat):Addr)/\c≠(n:Addr)/\c≠((n+1:Nat):Addr):=by
    simpa [fpZ] using hc
   exact kk c o hc'.1 hc'.2.2.1 hc'.2.2.2.1 hc'.2.2.2.2 e
 self:=λA i s Q E ⟨a,b,f1,z1,z2,z3,z4,z5⟩ h=>by
  have hT:s.TypeIs (.ref ((n+4:Nat):Addr)) "zip" := ⟨_,z1,rfl⟩
  refine ldM hT PySem.F.slot_zip_iter (lU PySem.F.slot_zip_iter hT PySem.F.entry_zip_iter ?_ (PySem.F.args_zip_iter_1 _))
  show wpAny _ _ (ret (.ref ((n+4:Nat):Addr))) _ _ s
  exact lc ⟨_,rfl, "zip", _,hT,lb0.lookup,h⟩
def Itu (u:Value)(o:Obj)(G:Heap->Prop):Prop:=∀(prog:Program) (w:World) (A:Around) (s:Shared) (Q:Value->Shared->Prop) (E:Value->Shared->Prop),G s.heap->Q (.ref s.heap.objs.size) {s with heap:=s.heap.push o}->wpAny (model prog w) A (pyIter u) Q E s
section
variable {prog:Program}{w:World}{A:Around}{E:Value->Shared->Prop}{s:Shared}
theorem ziH {u1 u2:Value}{o1 o2:Obj}{G1 G2:Heap->Prop}(b1:Itu u1 o1 G1)(b2:Itu u2 o2 G2)(up:∀h,G2 h->G2 (h.push o1)) :
  Meets (Builtin.«zip.__new__» ⟨[.type "zip", u1,u2],[]⟩) (λ_ R s=>G1 s.heap/\G2 s.heap /\
   R (.ok (.ret (.ref (Zp.zH4 s.heap o1 o2).objs.size))) {s with heap:=Zp.zH5 s.heap o1 o2}) :=
 .of_wp λprog w A R s h=>by
  obtain⟨hl1,hl2,h⟩:=h
  have z3:(Zp.zH3 s.heap o1 o2).objs.size=(Zp.zH2 s.heap o1 o2).objs.size+1:=laa ..
  have z4:(Zp.zH4 s.heap o1 o2).objs.size=(Zp.zH2 s.heap o1 o2).objs.size+2:=by rw[laa,z3]
  refine Zp.meets_st_aux (h1:=s.heap.push o1) (h2:=Zp.zH2 s.heap o1 o2) (i1:=s.heap.objs.size) (i2:=(s.heap.push o1).objs.size)
   (λQ E q=>b1 prog w A.in1 s Q E hl1 q) (λQ E q=>b2 prog w A.in1 {s with heap:=s.heap.push o1} Q E (up _ hl2) q) ⟨_,rfl,?_⟩
  rw[← z4,← z3]
  exact h
theorem zhV {u1 u2:Value}{o1 o2:Obj}{G1 G2:Heap->Prop}{Q:Value->Shared->Prop}(f1:o1.isFreed=false)(f2:o2.isFreed=false)(b1:Itu u1 o1 G1)(b2:Itu u2 o2 G2)(up:∀h,G2 h->G2 (h.push o1))(hl1:G1 s.heap)(hl2:G2 s.heap)
  (h:∀h',Zp.Made5 s.heap h' o1 o2->Q (.ref (s.heap.objs.size+4)) {s with heap:=h'}) :
  wpAny (model prog w) A (call (.type "zip") [u1,u2]) Q E s:=by
 refine callType_new F.called_zip (by decide) (F.typeCall_zip_2 _ _) (F.newCall_zip_2 _ _) (λobj=>F.args_object_init_3 obj _ _) F.entry_zip_new
  (ziH b1 b2 up) ⟨hl1,hl2,?_⟩
 obtain⟨m,z4⟩:=Zp.made5 s.heap o1 o2 f1 f2
 show _/\_
 rw[z4]
 exact⟨⟨_,m.1,rfl⟩,h _ m⟩
end
def znT (K:PySem.W.Frag)(H:Hp)(v:V)(xs:List V)(G:Hp->Prop):Prop :=
 (∃l,v=.ref l/\SqT K H l xs/\G=λH=>SqT K H l xs)∨(∃l,v=.ref l/\SqL K H l xs/\G=λH=>SqL K H l xs)∨(∃l,v=.str (T l)/\(∀c∈l,c<128)/\xs=vC l/\G=λ_=>True)
theorem zoN {X:Cx}{pins:List (Addr×Obj)}{s:Shared}{σ:St}{H:Hp}{v:V}{u:Value}{xs:List V}{G:Hp->Prop}(I:Inv X pins σ H s)(z:znT X.K H v xs G)(r:RelV v u):G H/\∃(o:Obj) (C:Heap->Prop),o.isFreed=false/\C s.heap/\(∀h o',C h->C (h.push o'))/\Itu u o C /\
  ∀it:Nat,s.heap.objs.size<=it->∃S,ZS X.prog X.w X.K xs G s.heap.objs.size it S/\∀h:Heap,h.get? (it:Addr)=some o->S 0 h:=by
 rcases z with⟨l,rfl,q,rfl⟩|⟨l,rfl,q,rfl⟩|⟨l,rfl,ha,rfl,rfl⟩
 ·cases r
  obtain⟨its,rv,pl,_⟩:=I.tuple q
  have p1:s.heap.IsTuple l its.toArray:=pl
  have lt1:l<s.heap.objs.size:=by obtain⟨o,e,_⟩:=p1;exact lu e
  exact⟨q,Zp.tIter l,λh=>h.IsTuple l its.toArray,rfl,p1,λh o' ⟨o,e,r⟩=>⟨o,lb _ e,r⟩,λ_ _ _ _ _ _ g q=>lcj g q,λit hit=>⟨_,zmQ lt1 hit,λh e=>⟨_,e,rfl,rfl⟩⟩⟩
 ·cases r
  obtain⟨its,rv,pl,_⟩:=I.list q
  have p1:s.heap.IsList l its.toArray:=pl.isList
  have lt1:l<s.heap.objs.size:=by obtain⟨o,e,_⟩:=p1;exact lu e
  exact⟨q,Zp.lIter l,λh=>h.IsList l its.toArray,rfl,p1,λh o' ⟨o,e,r⟩=>⟨o,lb _ e,r⟩,λ_ _ _ _ _ _ g q=>lb5 g q,λit hit=>⟨_,zmi lt1 hit,λh e=>⟨_,e,rfl,rfl⟩⟩⟩
 ·obtain ⟨t,rfl⟩:=r
  have ha':(T l).cps.all (· < 128)=true:=by
   simp only[T,lcF,laL,lbh]
   exact ha
  exact⟨trivial,Zp.sIter (T l) t,λ_=>True,rfl,trivial,λ_ _ _=>trivial,λ_ _ _ _ _ _ _ q=>ldx ha' q,λit hit=>⟨_,zmC,λh e=>⟨_,e,rfl,rfl⟩⟩⟩
def Itz (K:PySem.W.Frag)(l1 l2:Addr)(xs ys:List V):It :=
 ⟨λi H=>SqT K H l1 xs/\SqT K H l2 ys/\i<min xs.length ys.length,λi H v H'=>∃p x y,H p=none/\xs[i]? = some x/\ys[i]? = some y/\v=.ref p/\H'=upd H p (.tup [x,y]),λi H=>SqT K H l1 xs/\SqT K H l2 ys/\min xs.length ys.length<=i⟩
def zo9 (K:PySem.W.Frag)(ta tb:TE):TI:=λσ H R=>jV ta (jV tb zj4) σ H λvs H1=>∃l1 l2 xs ys,vs=[.ref l1,.ref l2]/\SqT K H1 l1 xs/\SqT K H1 l2 ys/\R (Itz K l1 l2 xs ys) H1
section
variable {X:Cx}
theorem zlw {Z:List V->Hp->(It->Hp->Prop)->Prop}(hZ:∀vs H1 R,Z vs H1 R->∃(v1 v2:V) (xs ys:List V) (G1 G2:Hp->Prop),vs=[v1,v2]/\znT X.K H1 v1 xs G1/\znT X.K H1 v2 ys G2/\R (zoc G1 G2 xs ys) H1){elts:List Expr}{k:Nat}{tpos:Pos}{a b:Expr}{ta tb:TE}{p pos:Pos}(hg:Gl X "zip")(hm:X.mg "zip" = none)(ha:PE X a ta)(hb:PE X b tb)
  (hs:starEach [a,b] X.env=[(false,eval a X.env),(false,eval b X.env)]:=by rfl) (hs2:starEach [b] X.env=[(false,eval b X.env)]:=by rfl) :
  PI X (.Tuple elts k tpos) (.Call (.Name "zip" p) [a,b] [] pos) (λσ H R=>jV ta (jV tb zj4) σ H λvs H1=>Z vs H1 R):=by
 intro pins s σ H R I h
 have hA:PA X [a,b] (jV ta (jV tb zj4)):=xO ha (xO hb qO hs2) (by rw[hs,hs2])
 refine lbk (qY I hg hm boot_zip ?_)
 refine laG (thn (hA pos pins s σ H _ I h) λus s1 hq34=>?_) (by rw[hs,hs2]) (by rw[hs2];rfl)
 obtain⟨vs,H2,I2,r2,zz⟩:=hq34
 obtain⟨v1,v2,xs,ys,G1,G2,ev,q1,q2,q⟩:=hZ _ _ _ zz
 subst ev
 obtain⟨u1,u2,rfl,ru1,ru2⟩:=vals2 r2
 obtain⟨g1,o1,C1,f1,c1,p1,b1,m1⟩:=zoN I2 q1 ru1
 obtain⟨g2,o2,C2,f2,c2,p2,b2,m2⟩:=zoN I2 q2 ru2
 obtain⟨S1,A1,st1⟩:=m1 s1.heap.objs.size (lr _)
 obtain⟨S2,A2,st2⟩:=m2 (s1.heap.objs.size+1) (lbI _)
 refine zhV f1 f2 b1 b2 (λh c=>p2 h _ c) c1 c2 λh1 m5=>?_
 obtain⟨m1,m2,m3,m4,m6,m7,m8⟩:=m5
 have T:=zhp (P:=X.prog) (w:=X.w) (K:=X.K) (elts:=elts) (k:=k) (pos:=tpos) A1 A2
 refine T.self X.A 0 _ _ _ ⟨_,_,_,m1,m2,m3,st1 _ m4,st2 _ m6⟩ ?_
 have I3:Inv X pins σ H2 {s1 with heap:=h1}:=I2.kept (t':=s1.toks) m8
 refine⟨_,fpZ s1.heap.objs.size,_,zoc G1 G2 xs ys,H2,rfl,I3,T,⟨_,_,_,m1,m2,m3,st1 _ m4,st2 _ m6⟩,λc hc=>?_,q⟩
 have hge:s1.heap.objs.size<=c:=by
  simp only[fpZ,lB,ld0,leA] at hc
  rcases hc with rfl|rfl|rfl|rfl|rfl
  ·exact lcd _ _
  ·exact lcd _ _
  ·exact lcd _ _
  ·exact lr _
  ·exact lcd _ _
 obtain⟨f0,f1,f2,f3,f4,f5⟩:=I2.fpOk hge (I2.hok.fresh hge)
 exact⟨f0,f1,f2,f3,f4,f5⟩
theorem zf1 {elts:List Expr}{k:Nat}{tpos:Pos}{a b:Expr}{ta tb:TE}{p pos:Pos}(hg:Gl X "zip")(hm:X.mg "zip" = none)(ha:PE X a ta)(hb:PE X b tb)
  (hs:starEach [a,b] X.env=[(false,eval a X.env),(false,eval b X.env)]:=by rfl) (hs2:starEach [b] X.env=[(false,eval b X.env)]:=by rfl) :
  PI X (.Tuple elts k tpos) (.Call (.Name "zip" p) [a,b] [] pos) (zo9 X.K ta tb):=zlw (λvs H1 R ⟨l1,l2,xs,ys,e,q1,q2,r⟩=>⟨_,_,xs,ys,_,_,e,.inl ⟨l1,rfl,q1,rfl⟩,.inl ⟨l2,rfl,q2,rfl⟩,r⟩) hg hm ha hb hs hs2
end
def Srt (ls:List (List Nat)):Prop:=ls.Pairwise (·<=·)
theorem ze8 {a b:List Nat}(h:ltCps b a=false):a<=b:=by
 rw[ltCps_eq] at h
 exact lcJ.mp (of_decide_eq_false h)
theorem zaU:∀(p:Str) (l:List Str),risingS p l=true->(p::l).Pairwise λa b=>a.cps.toList<=b.cps.toList
 | p,[],_=>by simp
 | p,x::r,h=>by
  have h':(!ltCps x.cps.toList p.cps.toList&&risingS x r)=true:=h
  rw[lab] at h'
  have h1:p.cps.toList<=x.cps.toList:=ze8 (by simpa using h'.1)
  have h2:=zaU x r h'.2
  refine lcZ.mpr ⟨λy hy=>?_,h2⟩
  rcases lB.mp hy with rfl|hy
  ·exact h1
  ·exact List.le_trans h1 (lcy h2 hy)
theorem zgT {ss:List Str}(h:sortedS ss=true):Srt (ss.map λx=>x.cps.toList):=by
 unfold Srt
 rw[lbv]
 cases ss with
 | nil=>simp
 | cons x r=>exact zaU x r h
theorem zak:∀{us:List Value}{ss:List Str},StrsAre us ss->Vals (ss.map V.str) us
 | _,_,.nil=>.nil
 | _,_,.cons x t h=>.cons ⟨t,rfl⟩ (zak h)
def vT (ls:List (List Nat)):List V:=ls.map λl=>V.str (T l)
theorem zco (ss:List Str):ss.map V.str=vT (ss.map λx=>x.cps.toList):=by
 unfold vT
 rw[lY]
 exact laC λx _=>lbj V.str (zo1 x).symm
theorem zoH (ls:List (List Nat)):vT ls=(ls.map T).map V.str:=by unfold vT;rw[lY];rfl
section
variable {X:Cx}
theorem zdr:zaa X (.builtin "sorted") (λxs H Q=>∃a ls,xs=[.ref a]/\SqL X.K H a (vT ls)/\ls.length<64/\∀p ms,H p=none->ms.Perm ls->Srt ms->Q (.ref p) (upd H p (.lst (vT ms)))):=by
 intro pins s σ H xs us Q I r h
 obtain⟨a,ls,rfl,ha,h64,q⟩:=h
 obtain⟨u,rfl,ru⟩:=vals1 r
 cases ru
 obtain⟨its,rv,pl,hz⟩:=I.list ha
 rw[zoH] at rv
 have hl:=rv.length
 simp only[lh] at hl
 refine sorted_strs pl.isList (kE rv) (by omega) λout ss' h1 h2 h3=>?_
 have hS:=zgT h3
 have hP:(ss'.map λx=>x.cps.toList).Perm ls:=by
  have:=h2.map λx:Str=>x.cps.toList
  rw[lY] at this
  have e:ls.map ((λx:Str=>x.cps.toList)∘T)=ls:=by
   have:((λx:Str=>x.cps.toList)∘T)=id:=funext λl=>za8 l
   rw[this,lcp]
  rw[e] at this
  exact this
 obtain⟨c,hat⟩:=sortedAll_at s.heap its out
 have hlen:ss'.length=ls.length:=by have:=h2.length_eq;simpa using this
 refine⟨.ref (s.heap.objs.size+1),_,I.laid (t':=s.toks) (o:=.lst (vT (ss'.map λx=>x.cps.toList))) (λb o e=>sortedAll_old e) (lbI _) ?_,rfl,q _ _ (I.hok.fresh (lbI _)) hP hS⟩
 refine⟨?_,out.toList,c,?_,by simpa [seqObj] using hat⟩
 ·rw[← zco,lh,laP];omega
 ·rw[← zco];exact zak h1
theorem zhR:∀{xs:List V}{us:List Value},xs.length=us.length->(∀(j:Nat) x u,xs[j]? = some x->us[j]? = some u->RelV x u)->Vals xs us
 | [],[],_,_=>.nil
 | [],_::_,h,_=>by simp at h
 | _::_,[],h,_=>by simp at h
 | x::xs,u::us,h,k=>.cons (k 0 x u rfl rfl) (zhR (by simpa using h) λj y v e1 e2=>k (j+1) y v (by simpa using e1) (by simpa using e2))
theorem zdz (hc:X.calm=true):zaa X (.builtin "sorted") (λxs H Q=>∃a kvs ls,xs=[.ref a]/\H a=some (.dK kvs)/\kvs.map (·.1)=ls.map (λl=>(Sum.inr (T l):Key))/\ls.length<64/\∀p ms,H p=none->ms.Perm ls->Srt ms->Q (.ref p) (upd H p (.lst (vT ms)))):=by
 intro pins s σ H xs us Q I r h
 obtain⟨a,kvs,ls,rfl,ha,hks,h64,q⟩:=h
 obtain⟨u,rfl,ru⟩:=vals1 r
 cases ru
 obtain⟨hz,lo,ws,kv,hD⟩:=I.hok a _ ha
 obtain⟨ep,hat⟩:=hD.dictAt
 have hlk:kvs.length=ls.length:=by have:=lbj List.length hks;simpa using this
 have hkeys:∀{kvs:List (Key×V)}{ws:List (Key×Value)},KV kvs ws->ws.map (·.1)=kvs.map (·.1):=λ{kvs ws} kv=>by
  induction kv with
  | nil=>rfl
  | cons r _ ih=>rw[lw,lw,ih,r.1]
 have hw:ws.map (·.1)=ls.map (λl=>(Sum.inr (T l):Key)):=(hkeys kv).trans hks
 have hlw:ws.length=ls.length:=by have:=lbj List.length hw;simpa using this
 refine lcz kind_sorted plain_sorted entry_sorted (args_sorted1 _) ?_
 unfold Builtin.«sorted»
 refine la (m:=checkCount "sorted" 1 1 _) (lc ?_)
 refine la (PySem.W.kdu_collect (A:=X.A.in1) (PySem.W.kdl_dict (knd:=yW X.prog X.w) (kvs:=ws) (ep:=ep) lo) (I.ok.hd hc) hat (by rw[laP];omega) λh' tk acc hk hacc=>?_)
 have hl:acc.toList.length=ls.length:=by rw[lbP,hacc.1,hlw]
 have hS:StrsAre acc.toList (ls.map T):=by
  have hv:Vals ((ls.map T).map V.str) acc.toList:=zhR (by rw[lh,lh,hl]) λj x v e1 e2=>by
   obtain⟨k,y,e3,e4⟩:=hacc.2 j v (by simpa using e2)
   rw[lY,lT] at e1
   have e5:(ws.map (·.1))[j]? = some k:=by rw[lT,e3];rfl
   rw[hw,lT] at e5
   cases e6:ls[j]? with
   | none=>rw[e6] at e5;cases e5
   | some l =>
    rw[e6] at e5 e1
    obtain rfl:=lg e5
    obtain rfl:=lg e1
    rcases yD (show zeI (Sum.inr (T l)) v=true from e4) with⟨i,t,z,_⟩|⟨x,t,z,rfl⟩
    ·cases z
    ·injection z with z
     subst z
     exact⟨t,rfl⟩
  exact kE hv
 refine la (ldT ?_ (by rw[hl,laP];omega))
 have hoL:(h'.push (seqObj "list" acc.toList.toArray 0)).get? h'.objs.size=some (seqObj "list" acc.toList.toArray 0):=lj _ rfl
 show wpAny _ _ _ _ _ {s with heap:=h'.push (seqObj "list" acc.toList.toArray 0),toks:=tk}
 refine la (lay (lU slot_list_sort ⟨_,hoL,rfl⟩ entry_list_sort (list_sort_treeK strKind_oneLt hoL hS.keysOf (λv₁ v₂ rest e=>keyKind_strs (by rw[← e];exact hS)) (by omega) λst' a1 a2=>⟨_,rfl,?_⟩) (args_list_sort _)))
 refine lc ⟨_,rfl,?_⟩
 obtain⟨ss',h1,h2,h3⟩:=sorted_out_str hS a1 a2
 have hSr:=zgT h3
 have hP:(ss'.map λx=>x.cps.toList).Perm ls:=by
  have:=h2.map λx:Str=>x.cps.toList
  rw[lY] at this
  have e:ls.map ((λx:Str=>x.cps.toList)∘T)=ls:=by
   have:((λx:Str=>x.cps.toList)∘T)=id:=funext λl=>za8 l
   rw[this,lcp]
  rw[e] at this
  exact this
 obtain⟨c,hat'⟩:=sortedHeap_at (n:=0) (out:=(arrOf st').map (·.2)) hoL
 have hlen:ss'.length=ls.length:=by have:=h2.length_eq;simpa using this
 have I1:Inv X pins σ H {s with heap:=h',toks:=tk}:=I.kept (t':=tk) hk
 refine⟨.ref h'.objs.size,_,I1.laid (t':=tk) (o:=.lst (vT (ss'.map λx=>x.cps.toList))) (λb o e'=>?_) (lr _) ?_,rfl,q _ _ (I1.hok.fresh (lr _)) hP hSr⟩
 ·have hlt:=lu e'
  rw[sortedHeap_old (lO hlt) (by rw[size_push'];exact lcu hlt)]
  exact lb _ e'
 ·refine⟨?_,((arrOf st').map (·.2)).toList,c,?_,by rw[Array.toArray_toList];exact hat'⟩
  ·rw[← zco,lh,laP];omega
  ·rw[← zco];exact zak h1
theorem zhw {K:PySem.W.Frag}{i j:Nat}{x y:Str}{px py pos:Pos}{k:Nat}(hK:X.K=K)(hc:X.calm=true)(hN:X.N.Nodup)(hi:X.N[i]? = some x)(hj:X.N[j]? = some y)(hx:Loc X.env.scope x)(hy:Loc X.env.scope y)
  (fx:X.fn x=true∨X.env.scope.names.lookup x=some .local:=by first|exact .inl rfl|exact .inr rfl|assumption) (fy:X.fn y=true∨X.env.scope.names.lookup y=some .local:=by first|exact .inl rfl|exact .inr rfl|assumption) :
  PG X (.Tuple [.Name x px,.Name y py] k pos) (zlY K 2 (zbK (kI i) (zbK (kI j) zlV))):=hK▸znu hc (zfS (zX hN hi hx fx) (zfS (zX hN hj hy fy) zku))
end
theorem zhs {K:PySem.W.Frag}{l1 l2:Addr}{xs ys:List V}(hz:xs.length<=sizeLine){g:TG}{tt:TT}{te:TE}{σ0:St}{F:List V->Hp->Prop}{H1:Hp}(Pv:Nat->List V->Hp->Prop)(h0:Pv 0 [] H1)(hG:∀i vs H,Pv i vs H->SqT K H l1 xs/\SqT K H l2 ys/\vs.length<=i)
  (hs:∀i x y p vs H,xs[i]? = some x->ys[i]? = some y->H p=none->Pv i vs H->g (.ref p) σ0 (upd H p (.tup [x,y])) λσ2 H2=>Kps σ0 σ2/\tt σ2 H2 λb H3=>if b=true then te σ2 H3 λv H4=>Pv (i+1) (vs++[v]) H4 else Pv (i+1) vs H3) (hd:∀vs H,Pv (min xs.length ys.length) vs H->F vs H) :
  zbX g tt te σ0 F (Itz K l1 l2 xs ys) H1:=by
 refine⟨λi m vs H=>m=min xs.length ys.length - i/\i<=min xs.length ys.length/\Pv i vs H,⟨_,rfl,lbJ _,h0⟩,?_⟩
 rintro i m vs H ⟨rfl,hi,p⟩
 obtain⟨q1,q2,hl⟩:=hG i vs H p
 refine⟨by omega,?_⟩
 by_cases hlt:i<min xs.length ys.length
 ·refine .inr ⟨⟨q1,q2,hlt⟩,by omega,Pv (i+1),λvs' H' p'=>⟨min xs.length ys.length - (i+1),by omega,rfl,hlt,p'⟩,?_⟩
  rintro v H' ⟨a,x,y,e0,e1,e2,rfl,rfl⟩
  exact hs i x y a vs H e1 e2 e0 p
 ·have e:i=min xs.length ys.length:=by omega
  subst e
  exact .inl ⟨⟨q1,q2,lr _⟩,hd vs H p⟩
theorem zkN {K:PySem.W.Frag}{l1 l2:Addr}{xs ys:List V}{g:TG}{tb:TS}{D:Ends}{σ:St}{H:Hp}(Pv:Nat->St->Hp->Prop)(h0:Pv 0 σ H)(hG:∀i σ H,Pv i σ H->SqT K H l1 xs/\SqT K H l2 ys)
  (hs:∀i x y p σ H,xs[i]? = some x->ys[i]? = some y->H p=none->Pv i σ H->g (.ref p) σ (upd H p (.tup [x,y])) λσ2 H2=>tb {D with nx:=Pv (i+1),ct:=Pv (i+1),bk:=D.nx} σ2 H2) (hd:∀σ H,Pv (min xs.length ys.length) σ H->D.nx σ H) :
  ∃ W:Nat->Nat->St->Hp->Prop,(∃m,W 0 m σ H)/\∀i m σ H,W i m σ H ->
   ((Itz K l1 l2 xs ys).stop i H/\D.nx σ H)∨((Itz K l1 l2 xs ys).go i H/\∃N:St->Hp->Prop,(∀σ' H',N σ' H'->∃m',m'<m/\W (i+1) m' σ' H')/\∀x H',(Itz K l1 l2 xs ys).yld i H x H'->g x σ H' λσ2 H2=>tb {D with nx:=N,ct:=N,bk:=D.nx} σ2 H2):=by
 refine⟨λi m σ H=>m=min xs.length ys.length - i/\i<=min xs.length ys.length/\Pv i σ H,⟨_,rfl,lbJ _,h0⟩,?_⟩
 rintro i m σ H ⟨rfl,hi,p⟩
 obtain⟨q1,q2⟩:=hG i σ H p
 by_cases hlt:i<min xs.length ys.length
 ·refine .inr ⟨⟨q1,q2,hlt⟩,Pv (i+1),λσ' H' p'=>⟨min xs.length ys.length - (i+1),by omega,rfl,hlt,p'⟩,?_⟩
  rintro v H' ⟨a,x,y,e0,e1,e2,rfl,rfl⟩
  exact hs i x y a σ H e1 e2 e0 p
 ·have e:i=min xs.length ys.length:=by omega
  subst e
  exact .inl ⟨⟨q1,q2,lr _⟩,hd σ H p⟩
end L2
namespace My
def abcd:List Nat:=[97,98,99,100]
def wt (ws:List Int)(c:Nat):Int:=ws.getD (c - 97) 0
def up (ws:List Int):List Nat->Int
 | []=>1
 | c::r=>wt ws c*up ws r
def dn (ws:List Int)(l:List Nat):Int:=ws.sum ^ l.length
def shr (ws:List Int)(l:List Nat):Int×Int:=low (up ws l) (dn ws l)
def yj (ws:List Int):Prop:=2<=ws.length/\ws.length<=4/\∀w∈ws,1<=w/\w<=99
def LetOk (m:Nat)(l:List Nat):Prop:=∀c∈l,97<=c/\c<97+m
theorem LetOk.app {m:Nat}{l k:List Nat}(a:LetOk m l)(b:LetOk m k):LetOk m (l++k):=λc hc=>by
 rcases lat.mp hc with h|h
 ·exact a c h
 ·exact b c h
theorem zgS (ws:List Int)(l m:List Nat):up ws (l++m)=up ws l*up ws m:=by
 induction l with
 | nil=>simp[up]
 | cons c r ih=>simp only[laD,up,ih];grind
theorem zj8 {ws:List Int}(h:yj ws){c:Nat}(hc:97<=c/\c<97+ws.length):wt ws c∈ws:=by
 unfold wt
 have hi:c - 97<ws.length:=by omega
 rw[lm,lQ9 hi]
 exact laV hi
theorem zbf {ws:List Int}(h:yj ws){c:Nat}(hc:97<=c/\c<97+ws.length):1<=wt ws c/\wt ws c<=99:=h.2.2 _ (zj8 h hc)
theorem zbO {ws:List Int}(h:yj ws){l:List Nat}(hl:LetOk ws.length l):0<up ws l:=by
 induction l with
 | nil=>show(0:Int)<1;decide
 | cons c r ih =>
  have h1:=(zbf h (hl c lac)).1
  have h2:=ih λd hd=>hl d (lM _ hd)
  exact ldn (by omega) h2
theorem zkq {ws:List Int}(h:yj ws){l:List Nat}(hl:LetOk ws.length l):up ws l<=99 ^ l.length:=by
 induction l with
 | nil=>show(1:Int)<=99 ^ 0;decide
 | cons c r ih =>
  have h1:=zbf h (hl c lac)
  have hr:LetOk ws.length r:=λd hd=>hl d (lM _ hd)
  have h2:=ih hr
  have h3:=zbO h hr
  show wt ws c*up ws r<=99 ^ (r.length+1)
  rw[lbl,laY]
  exact lb1 h2 h1.2 (by omega) (Int.pow_nonneg (by decide))
theorem zbo:∀{ws:List Int},(∀w∈ws,1<=w/\w<=99)->(ws.length:Int)<=ws.sum/\ws.sum<=99*ws.length
 | [],_=>by simp
 | w::r,h=>by
  have h1:=h w lac
  have h2:=zbo (ws:=r) λx hx=>h x (lM _ hx)
  rw[lar,lC]
  omega
theorem zgJ:∀{ws:List Int},(∀w∈ws,1<=w/\w<=99)->∀w∈ws,w+(ws.length:Int) - 1<=ws.sum
 | v::r,h,w,hw=>by
  have h1:=h v lac
  have hr:∀x∈r,1<=x/\x<=99:=λx hx=>h x (lM _ hx)
  rw[lar,lC]
  rcases lB.mp hw with rfl|hw
  ·have:=(zbo hr).1;omega
  ·have:=zgJ hr w hw;omega
theorem uH {ws:List Int}(h:yj ws):2<=ws.sum/\ws.sum<=396:=by
 have:=zbo h.2.2
 have:=h.1
 have:=h.2.1
 omega
theorem zn0 {ws:List Int}(h:yj ws){c:Nat}(hc:97<=c/\c<97+ws.length):wt ws c<ws.sum:=by
 have:=zgJ h.2.2 _ (zj8 h hc)
 have:=h.1
 omega
theorem zfy {ws:List Int}(h:yj ws)(l:List Nat):0<dn ws l:=lbs (by have:=uH h;omega)
theorem zcs {a b:Int}(ha:0<=a)(h:a<=b)(n:Nat):a ^ n<=b ^ n:=by
 induction n with
 | zero=>simp
 | succ n ih =>
  rw[lbl,lbl]
  exact lb1 ih h ha (Int.pow_nonneg (by omega))
theorem jj {a:Int}(ha:1<=a){n m:Nat}(h:n<=m):a ^ n<=a ^ m:=by
 obtain⟨k,rfl⟩:=Nat.exists_eq_add_of_le h
 rw[lbR]
 have h1:0<a ^ n:=lbs (by omega)
 have h2:0<a ^ k:=lbs (by omega)
 have:=la5 (show(1:Int)<=a ^ k by omega) (lau h1)
 omega
theorem zk0 {ws:List Int}(h:yj ws)(l:List Nat):dn ws l<=396 ^ l.length:=zcs (by have:=uH h;omega) (uH h).2 _
def Fra (B:Nat)(x:Int×Int):Prop:=0<=x.1/\0<x.2/\x.1<2 ^ B/\x.2<2 ^ B
theorem zhQ {u d:Int}{B:Nat}(hu:0<=u)(hd:0<d)(h1:u<2 ^ B)(h2:d<2 ^ B):Fra B (low u d):=by
 have:=zmo hd hu
 exact⟨zcj hd hu,zh3 hd,by omega,by omega⟩
theorem zlO (a b:Nat):(2:Int) ^ a*2 ^ b=2 ^ (a+b):=(lbR ..).symm
theorem Fra.mono {B C:Nat}{x:Int×Int}(h:Fra B x)(hBC:B<=C):Fra C x:=by
 have:=jj (a:=2) (by decide) hBC
 obtain⟨a,b,c,d⟩:=h
 exact⟨a,b,by omega,by omega⟩
theorem zfP {a b:Int}{B C:Nat}(ha:0<=a)(hb:0<=b)(h1:a<2 ^ B)(h2:b<2 ^ C):a*b<2 ^ (B+C):=by
 rw[← zlO]
 have h3:(0:Int)<2 ^ B:=by omega
 have h4:=lb1 (lau h1) (lau h2) hb (by omega)
 have:a*b<=a*2 ^ C:=la5 (lau h2) ha
 have h5:a*2 ^ C<2 ^ B*2 ^ C:=Int.mul_lt_mul_of_pos_right h1 (by omega)
 omega
theorem zh9 {ws:List Int}(h:yj ws){l:List Nat}(hl:LetOk ws.length l){n:Nat}(hn:l.length<=n):Fra (9*n+1) (shr ws l):=by
 have h1:=zkq h hl
 have h2:=zk0 h l
 have h3:=zcs (a:=99) (b:=512) (by decide) (by decide) l.length
 have h4:=zcs (a:=396) (b:=512) (by decide) (by decide) l.length
 have h5:=jj (a:=512) (by decide) hn
 have e:(512:Int) ^ n=2 ^ (9*n):=by rw[Int.pow_mul];rfl
 have e2:(2:Int) ^ (9*n+1)=2*2 ^ (9*n):=by rw[lbl];omega
 have h0:(0:Int)<2 ^ (9*n):=lbs (by decide)
 exact zhQ (lau (zbO h hl)) (zfy h l) (by omega) (by omega)
section
variable {ws:List Int}(h:yj ws)
include h
theorem zlE:shr ws []=(1,1):=by
 show low 1 (ws.sum ^ 0)=_
 rw[lcM];decide
def acc (ws:List Int)(l:List Nat)(S:Int):Int×Int:=low (up ws l*S) (dn ws l*ws.sum)
end
section
variable {a b c d e f:Int}(hb:0<b)(hd:0<d)(hf:0<f)
include hb
end
def rising (ps:List (List Nat)):Bool:=(ps.zip ps.tail).all λx=>decide (x.1<x.2)
def isInner (ps:List (List Nat))(x:List Nat):Bool:=ps.any λp=>x.isPrefixOf p && !decide (p=x)
def wL (ps:List (List Nat))(x:List Nat):Bool:=!(ps.any λp=>x.isPrefixOf p || p.isPrefixOf x)
def zK (m:Nat)(xs:List (List Nat)):List (List Nat):=xs.flatMap λx=>(abcd.take m).map λc=>x++[c]
def wY (ps:List (List Nat)):Option (List Nat×List Nat):=(ps.zip ps.tail).find? λx=>x.1.isPrefixOf x.2
def fta (m:Nat)(ps:List (List Nat)):Nat->List (List Nat)->Option (List Nat)
 | 0,_=>none
 | n+1,inner=>if inner=[] then none else match (zK m inner).find? (wL ps) with
  | some x=>some x
  | none=>fta m ps n ((zK m inner).filter (isInner ps))
def vR (m:Nat)(ps:List (List Nat)):Option (List Nat):=fta m ps 32 [[]]
def isBook (m:Nat)(ps:List (List Nat)):Bool:=rising ps&&(wY ps).isNone&&(vR m ps).isNone
def uJ (m:Nat):Nat->List (List Nat)
 | 0=>[[]]
 | n+1=>zK m (uJ m n)
theorem zaM (m:Nat)(hm:m<=4)(xs:List (List Nat)):(zK m xs).length<=4*xs.length:=by
 unfold zK
 induction xs with
 | nil=>simp
 | cons x r ih =>
  rw[lb8,lG,lh,lae,lC]
  omega
theorem uX {m:Nat}{xs:List (List Nat)}{y:List Nat}(h:y∈zK m xs):∃x∈xs,∃c∈abcd.take m,y=x++[c]:=by
 unfold zK at h
 obtain⟨x,hx,hy⟩:=ld1.mp h
 obtain⟨c,hc,rfl⟩:=lah.mp hy
 exact⟨x,hx,c,hc,rfl⟩
theorem zdv {ps:List (List Nat)}{x:List Nat}(h:isInner ps x=true)(h8:∀p∈ps,p.length<=31):x.length<31:=by
 unfold isInner at h
 obtain⟨p,hp,e⟩:=lcH.mp h
 rw[lab] at e
 obtain⟨s,rfl⟩:=laJ.mp e.1
 have hs:s≠[]:=λz=>by subst z;simp at e
 have:=h8 _ hp
 rw[lG] at this
 have:=lbF.mpr hs
 omega
def jk (ks:List (List Nat))(k:List Nat):List (List Nat):=if k∈ks then ks else ks++[k]
def ziB (p:List Nat):List (List Nat):=(List.range p.length).map λe=>p.take e
def zq (ps:List (List Nat)):List (List Nat):=(ps.flatMap ziB).foldl jk []
def sortF (ls:List (List Nat)):List (List Nat):=ls.mergeSort λa b=>!decide (b<a)
theorem j6 (ls:List (List Nat)):(sortF ls).Pairwise (·<=·):=by
 have h:=List.pairwise_mergeSort (le:=λa b:List Nat=>!decide (b<a)) (λa b c h1 h2=>by
  have h1':a<=b:=lcJ.mp (by simpa using h1)
  have h2':b<=c:=lcJ.mp (by simpa using h2)
  have h3:¬c<a:=lcJ.mpr (List.le_trans h1' h2')
  simpa using h3) (λa b=>by
  rcases List.le_total a b with h|h
  ·have:=lcJ.mpr h
   simp[this]
  ·have:=lcJ.mpr h
   simp[this]) ls
 exact h.imp λh=>lcJ.mp (by simpa using h)
theorem yF (ls:List (List Nat)):(sortF ls).Perm ls:=List.mergeSort_perm ls _
theorem sortF_eq {ls ms:List (List Nat)}(h:ms.Pairwise (·<=·))(p:ms.Perm ls):ms=sortF ls:=lcN (λ_ _ _ _ h k=>ld2 h k) h (j6 ls) (p.trans (yF ls).symm)
theorem zfr (ks:List (List Nat))(k:List Nat):(jk ks k).length<=ks.length+1:=by
 unfold jk
 split
 ·omega
 ·rw[lG];exact lr _
structure Book (m:Nat)(B:List (List Nat)):Prop where
 m2:2<=m
 m4:m<=4
 let_:∀p∈B,LetOk m p
 ne:∀p∈B,p≠[]
 pf:∀p∈B,∀q∈B,p <+: q->p=q
 cv:∀x,LetOk m x->∃p∈B,p <+: x∨x <+: p
 srt:B.Pairwise (·<=·)
 nd:B.Nodup
theorem ziJ {m c:Nat}(h:c∈abcd.take m):97<=c/\c<97+m:=by
 obtain⟨i,hi,rfl⟩:=List.mem_iff_getElem.mp h
 have h1:i<m:=by rw[lae] at hi;omega
 have h2:i<4:=by rw[lae] at hi;have:abcd.length=4:=rfl;omega
 rw[List.getElem_take]
 have:i=0∨i=1∨i=2∨i=3:=by omega
 rcases this with rfl|rfl|rfl|rfl
 ·show 97<=97/\97<_;omega
 ·show 97<=98/\98<_;omega
 ·show 97<=99/\99<_;omega
 ·show 97<=100/\100<_;omega
theorem uz {m c:Nat}(hm:m<=4)(h:97<=c/\c<97+m):c∈abcd.take m:=by
 have:m=0∨m=1∨m=2∨m=3∨m=4:=by omega
 have:c=97∨c=98∨c=99∨c=100:=by omega
 rcases this with rfl|rfl|rfl|rfl <;>rcases(by assumption:m=0∨_) with rfl|rfl|rfl|rfl|rfl <;>first|decide|omega
theorem zlJ (m:Nat):(abcd.take m).Nodup:=List.Sublist.nodup (lc5 _ _) (by decide)
theorem LetOk.one {m c:Nat}(h:c∈abcd.take m):LetOk m [c]:=λd hd=>by rw[lK.mp hd];exact ziJ h
theorem LetOk.pre {m:Nat}{x y:List Nat}(h:LetOk m y)(p:x <+: y):LetOk m x:=λc hc=>h c (p.subset hc)
theorem zgF {m:Nat}{B:List (List Nat)}(h:Book m B){x:List Nat}(hx:LetOk m x):wL B x=false:=by
 obtain⟨p,hp,e⟩:=h.cv x hx
 unfold wL
 rw[Bool.not_eq_false',lcH]
 refine⟨p,hp,?_⟩
 rw[Bool.or_eq_true,laJ,laJ]
 exact e.symm
theorem zgo {m:Nat}{xs:List (List Nat)}(h:∀x∈xs,LetOk m x):∀y∈zK m xs,LetOk m y:=λy hy=>by
 obtain⟨x,hx,c,hc,rfl⟩:=uX hy
 exact(h x hx).app (LetOk.one hc)
theorem zfZ {m:Nat}{B:List (List Nat)}(h:Book m B):∀(n:Nat) (xs:List (List Nat)),(∀x∈xs,LetOk m x)->fta m B n xs=none
 | 0,_,_=>rfl
 | n+1,xs,hx=>by
  unfold fta
  split
  ·rfl
  ·have hg:=zgo hx
   have e:(zK m xs).find? (wL B)=none:=List.find?_eq_none.mpr λx hx=>by rw[zgF h (hg x hx)];exact lD
   rw[e]
   exact zfZ h n _ λx hx=>hg x (lbG.mp hx).1
theorem zb4 {m:Nat}{B:List (List Nat)}(h:Book m B):vR m B=none:=zfZ h 32 [[]] λx hx=>by
 rw[lK.mp hx]
 intro c hc
 cases hc
theorem zd0 {α:Type}:∀{l:List α}{x:α×α},x∈l.zip l.tail->x.1∈l/\x.2∈l:=λ{l x} h=>⟨(lcT h).1,List.mem_of_mem_tail (lcT h).2⟩
theorem qj {α:Type}{R:α->α->Prop}:∀{l:List α},l.Pairwise R->∀x∈l.zip l.tail,R x.1 x.2
 | [],_,x,h=>by cases h
 | [_],_,x,h=>by cases h
 | a::b::r,p,x,h=>by
  have h':x∈(a,b)::(b::r).zip r:=h
  rcases lB.mp h' with rfl|h'
  ·exact lcy p lac
  ·exact qj (l:=b::r) (lcZ.mp p).2 x h'
theorem strict {B:List (List Nat)}(s:B.Pairwise (·<=·))(n:B.Nodup):B.Pairwise (· < ·):=by
 have:=List.Pairwise.and s n
 exact this.imp λ⟨h,k⟩=>laF λhn=>k (ld2 h (lcJ.mp hn))
theorem zb5 {m:Nat}{B:List (List Nat)}(h:Book m B):wY B=none:=by
 refine List.find?_eq_none.mpr λx hx=>?_
 intro e
 have hm:=zd0 hx
 have:=h.pf _ hm.1 _ hm.2 (laJ.mp e)
 have lt:=qj (strict h.srt h.nd) x hx
 rw[this] at lt
 exact ldD _ lt
theorem ziu {m:Nat}{B:List (List Nat)}(h:Book m B):rising B=true:=by
 unfold rising
 rw[laL]
 exact λx hx=>lW (qj (strict h.srt h.nd) x hx)
theorem Book.isBook {m:Nat}{B:List (List Nat)}(h:Book m B):isBook m B=true:=by
 unfold My.isBook
 rw[ziu h,zb5 h,zb4 h]
 rfl
def kids (m:Nat)(p:List Nat):List (List Nat):=(abcd.take m).map λc=>p++[c]
theorem kids_mem {m:Nat}{p x:List Nat}:x∈kids m p↔∃c∈abcd.take m,x=p++[c]:=by
 unfold kids
 rw[lah]
 exact⟨λ⟨c,h,e⟩=>⟨c,h,e.symm⟩,λ⟨c,h,e⟩=>⟨c,h,e.symm⟩⟩
theorem zeL (m:Nat)(p:List Nat):(kids m p).Nodup:=by
 unfold kids
 rw[la0,lbv]
 refine(zlJ m).imp λh e=>h ?_
 exact List.singleton_inj.mp (List.append_cancel_left e)
theorem qi (m:Nat)(hm:m<=4)(p:List Nat):(kids m p).length=m:=by
 unfold kids
 rw[lh,lae]
 show min m 4=m
 omega
theorem zlZ {m:Nat}(hm:2<=m){B:List (List Nat)}{p:List Nat}(hp:∀x∈kids m p,x∈B){x:List Nat}(hx:LetOk m x)(m4:m<=4)(h:p <+: x∨x <+: p):∃q∈B,q <+: x∨x <+: q:=by
 have h97:97∈abcd.take m:=uz m4 (by omega)
 rcases h with⟨s,rfl⟩|h
 ·cases s with
  | nil=>exact⟨p++[97],hp _ (kids_mem.mpr ⟨97,h97,rfl⟩),.inr (by rw[lal];exact lbd _ _)⟩
  | cons c r =>
   have hc:=hx c (by simp)
   exact⟨p++[c],hp _ (kids_mem.mpr ⟨c,uz m4 hc,rfl⟩),.inl ⟨r,by simp⟩⟩
 ·exact⟨p++[97],hp _ (kids_mem.mpr ⟨97,h97,rfl⟩),.inr (h.trans (lbd _ _))⟩
theorem zcS (p:List Nat)(c:Nat):p++[c]≠p:=λe=>by have:=lbj List.length e;simp at this
def part (m:Nat)(B:List (List Nat))(j:Nat):List (List Nat):=sortF (B.eraseIdx j++kids m (B.getD j []))
theorem part_mem {m:Nat}{B:List (List Nat)}(hn:B.Nodup){j:Nat}(hj:j<B.length){x:List Nat}:x∈part m B j↔(x∈B/\x≠B.getD j [])∨x∈kids m (B.getD j []):=by
 unfold part
 rw[(yF _).mem_iff,lat]
 have e:B.getD j []=B[j]:=by rw[lm,lQ9 hj];rfl
 have:x∈B.eraseIdx j↔x∈B/\x≠B.getD j []:=by
  rw[List.mem_eraseIdx_iff_getElem,e]
  constructor
  ·rintro⟨i,hi,hij,rfl⟩
   exact⟨laV hi,λz=>hij ((List.getElem_inj hn).mp z)⟩
  ·rintro⟨hx,hne⟩
   obtain⟨i,hi,rfl⟩:=List.mem_iff_getElem.mp hx
   exact⟨i,hi,λz=>hne (by subst z;rfl),rfl⟩
 rw[this]
theorem Book.part {m:Nat}{B:List (List Nat)}(h:Book m B){j:Nat}(hj:j<B.length):Book m (part m B j):=by
 have hpm:B.getD j []∈B:=by rw[lm,lQ9 hj];exact laV hj
 have mem:=λx=>part_mem (m:=m) h.nd hj (x:=x)
 have hsr:(My.part m B j).Pairwise (·<=·):=j6 _
 have hnd:(My.part m B j).Nodup:=by
  unfold My.part
  refine(yF _).nodup_iff.mpr (lbN.mpr ⟨h.nd.eraseIdx j,zeL _ _,?_⟩)
  rintro a ha b hb rfl
  have haB:a∈B:=List.mem_of_mem_eraseIdx ha
  obtain⟨c,hc,rfl⟩:=kids_mem.mp hb
  have:=h.pf _ hpm _ haB (lbd _ _)
  exact zcS _ _ this.symm
 generalize My.part m B j=C at mem hsr hnd
 generalize B.getD j []=p at mem hpm
 refine⟨h.m2,h.m4,λx hx=>?_,λx hx=>?_,λx hx y hy hxy=>?_,λx hx=>?_,hsr,hnd⟩
 ·rcases (mem x).mp hx with⟨hx,_⟩|hx
  ·exact h.let_ x hx
  ·obtain⟨c,hc,rfl⟩:=kids_mem.mp hx
   exact(h.let_ _ hpm).app (LetOk.one hc)
 ·rcases (mem x).mp hx with⟨hx,_⟩|hx
  ·exact h.ne x hx
  ·obtain⟨c,hc,rfl⟩:=kids_mem.mp hx
   simp
 ·rcases (mem x).mp hx with⟨hx,nx⟩|hx <;>rcases(mem y).mp hy with⟨hy,ny⟩|hy
  ·exact h.pf x hx y hy hxy
  ·obtain⟨c,hc,rfl⟩:=kids_mem.mp hy
   rcases lbo.mp hxy with e|e
   ·exact e
   ·exact absurd (h.pf x hx p hpm e) nx
  ·obtain⟨c,hc,rfl⟩:=kids_mem.mp hx
   exact absurd (h.pf p hpm y hy ((lbd _ _).trans hxy)).symm ny
  ·obtain⟨c,hc,rfl⟩:=kids_mem.mp hx
   obtain⟨d,hd,rfl⟩:=kids_mem.mp hy
   exact hxy.eq_of_length (by simp)
 ·obtain ⟨q,hq,e⟩:=h.cv x hx
  by_cases hqp:q=p
  ·subst hqp
   exact zlZ h.m2 (λz hz=>(mem z).mpr (.inr hz)) hx h.m4 e
  ·exact⟨q,(mem q).mpr (.inl ⟨hq,hqp⟩),e⟩
theorem Book.letters {m:Nat}(m2:2<=m)(m4:m<=4):Book m (kids m []):=by
 refine⟨m2,m4,λx hx=>?_,λx hx=>?_,λx hx y hy hxy=>?_,λx hx=>?_,?_,zeL m []⟩
 ·obtain⟨c,hc,rfl⟩:=kids_mem.mp hx
  exact LetOk.one hc
 ·obtain⟨c,hc,rfl⟩:=kids_mem.mp hx
  simp
 ·obtain⟨c,hc,rfl⟩:=kids_mem.mp hx
  obtain⟨d,hd,rfl⟩:=kids_mem.mp hy
  exact hxy.eq_of_length (by simp)
 ·exact zlZ m2 (λz hz=>hz) hx m4 (.inl (ldo))
 ·have:m=2∨m=3∨m=4:=by omega
  rcases this with rfl|rfl|rfl <;>decide
def Inner (B:List (List Nat))(x:List Nat):Prop:=∃p∈B,x <+: p/\x≠p
theorem foldl_addK (l:List (List Nat)):∀ks:List (List Nat),ks.Nodup->(l.foldl jk ks).Nodup/\∀x,x∈l.foldl jk ks↔x∈ks∨x∈l:=by
 induction l with
 | nil=>intro ks h;exact⟨h,λx=>by simp⟩
 | cons k r ih =>
  intro ks h
  rw[lag]
  have h1:(jk ks k).Nodup/\∀x,x∈jk ks k↔x∈ks∨x=k:=by
   unfold jk
   split
   ·exact⟨h,λx=>⟨.inl,λz=>z.elim id λe=>by rw[e];assumption⟩⟩
   ·rename_i hk
    refine⟨lbN.mpr ⟨h,by simp,?_⟩,λx=>by simp⟩
    rintro a ha b hb rfl
    rw[lK.mp hb] at ha
    exact hk ha
  obtain⟨h2,h3⟩:=ih _ h1.1
  refine⟨h2,λx=>?_⟩
  rw[h3,h1.2,lB,or_assoc]
theorem begs_mem {p x:List Nat}:x∈ziB p↔x <+: p/\x≠p:=by
 unfold ziB
 rw[lah]
 constructor
 ·rintro⟨e,he,rfl⟩
  have he':=la6.mp he
  refine⟨lcG _ _,λz=>?_⟩
  have:=lbj List.length z
  rw[lae] at this
  omega
 ·rintro⟨h,hn⟩
  refine⟨x.length,la6.mpr ?_,(lcb.mp h).symm⟩
  have h1:=h.length_le
  have:x.length≠p.length:=λz=>hn (h.eq_of_length z)
  omega
theorem z7 (B:List (List Nat)):(zq B).Nodup:=(foldl_addK _ [] lcA).1
theorem innerKeys_mem {B:List (List Nat)}{x:List Nat}:x∈zq B↔Inner B x:=by
 unfold zq
 rw[(foldl_addK _ [] lcA).2,ld1]
 simp only[ldf,false_or]
 exact⟨λ⟨p,hp,h⟩=>⟨p,hp,begs_mem.mp h⟩,λ⟨p,hp,h⟩=>⟨p,hp,begs_mem.mpr h⟩⟩
theorem zcy {m:Nat}(m2:2<=m)(m4:m<=4){B:List (List Nat)}(hn:B.Nodup){j:Nat}(hj:j<B.length){x:List Nat}(h:Inner (part m B j) x):Inner B x∨x=B.getD j []:=by
 obtain⟨q,hq,hx,hne⟩:=h
 have hpm:B.getD j []∈B:=by rw[lm,lQ9 hj];exact laV hj
 rcases(part_mem hn hj).mp hq with⟨hq,_⟩|hq
 ·exact .inl ⟨q,hq,hx,hne⟩
 ·obtain ⟨c,hc,rfl⟩:=kids_mem.mp hq
  rcases lbo.mp hx with e|e
  ·exact absurd e hne
  ·by_cases hp:x=B.getD j []
   ·exact .inr hp
   ·exact .inl ⟨_,hpm,e,hp⟩
theorem sortF_mem {ls:List (List Nat)}{x:List Nat}:x∈sortF ls↔x∈ls:=(yF ls).mem_iff
theorem zi0 {m:Nat}(m4:m<=4){B:List (List Nat)}{j:Nat}(hj:j<B.length):(part m B j).length=B.length - 1+m:=by
 unfold part
 rw[(yF _).length_eq,lG,qi m m4,List.length_eraseIdx,lH hj]
def zoZ (B:List (List Nat))(x:List Nat):Prop:=∀y,y <+: x->y≠[]->y∉B
theorem Book.free {m:Nat}{B:List (List Nat)}(h:Book m B){x:List Nat}(hx:Inner B x):zoZ B x:=λy hy hn hyB=>by
 obtain⟨p,hp,hxp,hne⟩:=hx
 have e:=h.pf y hyB p hp (hy.trans hxp)
 subst e
 exact hne (List.IsPrefix.eq_of_length hxp (leg hxp.length_le hy.length_le))
inductive Gr (m:Nat):Nat->List (List Nat)->Prop
 | z:Gr m 0 (kids m [])
 | s {t:Nat}{B:List (List Nat)}{j:Nat}:Gr m t B->j<B.length->Gr m (t+1) (part m B j)
theorem Gr.book {m:Nat}(m2:2<=m)(m4:m<=4){t:Nat}{B:List (List Nat)}(h:Gr m t B):Book m B:=by
 induction h with
 | z=>exact Book.letters m2 m4
 | s _ hj ih=>exact ih.part hj
theorem Gr.len {m:Nat}(m2:2<=m)(m4:m<=4){t:Nat}{B:List (List Nat)}(h:Gr m t B):B.length=m+t*(m - 1):=by
 induction h with
 | z=>rw[qi m m4];omega
 | s _ hj ih =>
  rename_i B' t' _
  rw[zi0 m4 hj,ih,Nat.add_mul]
  generalize _*(m - 1)=z
  omega
theorem Gr.short {m:Nat}(m2:2<=m)(m4:m<=4){t:Nat}{B:List (List Nat)}(h:Gr m t B):∀p∈B,p.length<=t+1:=by
 induction h with
 | z=>intro p hp;obtain⟨c,_,rfl⟩:=kids_mem.mp hp;simp
 | s g hj ih =>
  rename_i t' B' j
  intro p hp
  have hpm:B'.getD j []∈B':=by rw[lm,lQ9 hj];exact laV hj
  rcases(part_mem (g.book m2 m4).nd hj).mp hp with⟨hp,_⟩|hp
  ·have:=ih p hp;omega
  ·obtain⟨c,_,rfl⟩:=kids_mem.mp hp
   have:=ih _ hpm
   rw[lG]
   show _+1<=_
   omega
theorem Gr.inner {m:Nat}(m2:2<=m)(m4:m<=4){t:Nat}{B:List (List Nat)}(h:Gr m t B):∃L:List (List Nat),L.length=t+1/\∀x,Inner B x->x∈L:=by
 induction h with
 | z =>
  refine⟨[[]],rfl,λx hq35=>?_⟩
  obtain⟨p,hp,hx,hn⟩:=hq35
  obtain⟨c,_,rfl⟩:=kids_mem.mp hp
  rcases lbo.mp hx with e|e
  ·exact absurd e hn
  ·rw[ldp.mp e];simp
 | s g hj ih =>
  rename_i t' B' j
  obtain⟨L,h1,h2⟩:=ih
  refine⟨L++[B'.getD j []],by simp[h1],λx hx=>?_⟩
  rcases zcy m2 m4 (g.book m2 m4).nd hj hx with h|h
  ·exact lb2 _ (h2 x h)
  ·rw[h];simp
theorem Gr.keys {m:Nat}(m2:2<=m)(m4:m<=4){t:Nat}{B:List (List Nat)}(h:Gr m t B):(zq B).length<=t+1:=by
 obtain⟨L,h1,h2⟩:=h.inner m2 m4
 rw[← h1]
 exact(z7 B).length_le_of_subset λx hx=>h2 x (innerKeys_mem.mp hx)
theorem xH {m:Nat}(m4:m<=4):∀{n:Nat}{x:List Nat},x∈uJ m n↔x.length=n/\LetOk m x
 | 0,x=>by
  show x∈[[]]↔_
  rw[lK,la2]
  exact⟨λe=>⟨e,by rw[e];intro c hc;cases hc⟩,λe=>e.1⟩
 | n+1,x=>by
  show x∈zK m (uJ m n)↔_
  constructor
  ·intro h
   obtain⟨y,hy,c,hc,rfl⟩:=uX h
   obtain⟨h1,h2⟩:=(xH m4).mp hy
   exact⟨by simp[h1],h2.app (LetOk.one hc)⟩
  ·rintro⟨h1,h2⟩
   have hne:x≠[]:=λe=>by rw[e] at h1;simp at h1
   have e:x.dropLast++[x.getLast hne]=x:=List.dropLast_concat_getLast hne
   unfold zK
   refine ld1.mpr ⟨x.dropLast,(xH m4).mpr ⟨by rw[lcv];omega,h2.pre (lbK x)⟩,lah.mpr ⟨x.getLast hne,uz m4 (h2 _ (List.getLast_mem hne)),e⟩⟩
theorem zjZ:∀{x y:List Nat},x.length=y.length->x<y->∀a b:List Nat,x++a<y++b
 | [],[],_,h,_,_=>absurd h (ldD _)
 | x::xs,y::ys,hl,h,a,b=>by
  rw[laD,laD]
  rcases laM.mp h with h'|⟨e,h'⟩
  ·exact laM.mpr (.inl h')
  ·exact laM.mpr (.inr ⟨e,zjZ (by simpa using hl) h' a b⟩)
theorem zeE:∀(x:List Nat) {c d:Nat},c<d->x++[c]<x++[d]
 | [],c,d,h=>laM.mpr (.inl h)
 | y::ys,c,d,h=>laM.mpr (.inr ⟨rfl,zeE ys h⟩)
theorem zg9 {m k:Nat}:∀{xs:List (List Nat)},(∀x∈xs,x.length=k)->xs.Pairwise (· < ·)->(zK m xs).Pairwise (· < ·)
 | [],_,_=>List.Pairwise.nil
 | x::r,hl,hp=>by
  have e:zK m (x::r)=(abcd.take m).map (λc=>x++[c])++zK m r:=by unfold zK;rw[lb8]
  rw[e,lcw]
  refine⟨?_,zg9 (λy hy=>hl y (lM _ hy)) (lcZ.mp hp).2,?_⟩
  ·rw[lbv]
   have h:(abcd.take m).Pairwise (· < ·):=List.Pairwise.sublist (lc5 _ _) (by decide)
   exact h.imp λh=>zeE x h
  ·intro a ha b hb
   obtain⟨c,_,rfl⟩:=lah.mp ha
   obtain⟨y,hy,d,_,rfl⟩:=uX hb
   exact zjZ (by rw[hl x lac,hl y (lM _ hy)]) (lcy hp hy) _ _
theorem zhr {m:Nat}(m4:m<=4):∀n:Nat,(uJ m n).Pairwise (· < ·)
 | 0=>by show[[]].Pairwise _;simp
 | n+1=>zg9 (λx hx=>((xH m4).mp hx).1) (zhr m4 n)
theorem Book.even {m:Nat}(m2:2<=m)(m4:m<=4){n:Nat}(hn:0<n):Book m (uJ m n):=by
 have hlt:=zhr m4 n
 refine⟨m2,m4,λx hx=>((xH m4).mp hx).2,λx hx e=>?_,λx hx y hy h=>h.eq_of_length (by rw[((xH m4).mp hx).1,((xH m4).mp hy).1]),λx hx=>?_,hlt.imp λh=>leB h,hlt.imp λh e=>by rw[e] at h;exact ldD _ h⟩
 ·have:=((xH m4).mp hx).1
  rw[e] at this
  simp at this
  omega
 ·by_cases h:n<=x.length
  ·exact⟨x.take n,(xH m4).mpr ⟨by rw[lae];omega,hx.pre (lcG _ _)⟩,.inl (lcG _ _)⟩
  ·refine⟨x++List.replicate (n - x.length) 97,(xH m4).mpr ⟨by rw[lG,lX];omega,hx.app λc hc=>?_⟩,.inr (lbd _ _)⟩
   rw[lb9 hc]
   omega
end My
namespace L2
open PySem PySem.Spec PyProof.Rows
section
variable {prog:Program}{w:World}{A:Around}{E:Value->Shared->Prop}{s:Shared}
theorem zfe {l:Addr}{vs:List Value}{Q:List Value->Shared->Prop}(hl:IsTup s.heap l vs.toArray)
  (h:Q vs {s with heap:=(s.heap.push (seqObj "list" #[] 0)).update s.heap.objs.size (Obj.mapSeq (· ++ vs.toArray))}) (hsz:vs.length<=sizeLine) :
  wpAny (model prog w) A (collect (.ref l)) Q E s:=by
 obtain⟨o,ho,hc,n,hd⟩:=id hl
 unfold collect
 refine la (wpAny_runValue (lbf entry_proto_collect' ?_))
 show wpAny _ _ (do again (.builtin "list.__iadd__" ⟨[← newList [],.ref l],[]⟩)) _ _ s
 refine la (ldT (lc ⟨Code.quiet_builtin _ (by decide +kernel),lbf entry_list_iadd' ?_⟩))
 show wpAny _ _ (Builtin.List.listExtendWith (.ref s.heap.objs.size) (.ref l) (.ref s.heap.objs.size)) _ _ {s with heap:=s.heap.push (seqObj "list" #[] 0)}
 unfold Builtin.List.listExtendWith
 have ho':(s.heap.push (seqObj "list" #[] 0)).get? l=some o:=lb _ ho
 refine la (lbV (T := "tuple") ⟨o,ho',hc⟩ ?_)
 have ht:(Value.type "tuple" == Value.type "tuple")=true:=by rfl
 rw[lH (by rw[ht];simp)]
 refine la (listItems_at ho' hd ?_)
 refine la (listItems_at (xs:=#[]) (n:=0) (lj _ rfl) rfl ?_)
 rw[lap (by simp)]
 refine la (listUpdate_at (xs:=#[]) (n:=0) (lj _ rfl) rfl ?_ (lbJ _) (by show(#[]++vs.toArray).size<=sizeLine+1;simp only[Array.size_append,lF,lV];omega))
 refine lc ?_
 show wpAny (model prog w) A (do
   let o ← load s.heap.objs.size
   match o.data with
   | .seq xs _=>pure xs.toList
   | _=>unsupported "internal:collect") Q E {s with heap:=(s.heap.push (seqObj "list" #[] 0)).update s.heap.objs.size (Obj.mapSeq (· ++ vs.toArray))}
 refine la (ldH (get?_update_seq (lj _ rfl) _) ?_)
 show wpAny _ _ (pure ((#[]:Array Value)++vs.toArray).toList) Q E _
 rw[show((#[]:Array Value)++vs.toArray).toList=vs by simp]
 exact lc h
theorem ziM {κ:KeyKind}(hO:κ.OneLt){l:Addr}{vs:List Value}{Q:Value->Shared->Prop}(hl:IsTup s.heap l vs.toArray)(h0:KeysOf κ (pairsOf vs))(hkk:∀v₁ v₂ rest,vs=v₁::v₂::rest->keyKind' (v₁::v₂::rest).toArray=pure oneType')(h64:vs.length<64)
  (h:∀st':SortSt,(arrOf st').Perm (pairsOf vs)->SortedToK κ (arrOf st') (pairsOf vs).size->Q (.ref (s.heap.objs.size+1)) {s with heap:=sortedAll s.heap vs ((arrOf st').map (·.2))}) :
  wpAny (model prog w) A (call (.builtin "sorted") [.ref l]) Q E s:=by
 have hz:vs.length<=sizeLine:=by rw[laP];omega
 refine lcz kind_sorted plain_sorted entry_sorted (args_sorted1 _) ?_
 unfold Builtin.«sorted»
 refine la (m:=checkCount "sorted" 1 1 _) (lc ?_)
 refine la (zfe hl ?_ hz)
 refine la (ldT ?_)
 have hsz:((s.heap.push (seqObj "list" #[] 0)).update s.heap.objs.size (Obj.mapSeq (· ++ vs.toArray))).objs.size=s.heap.objs.size+1:=by
  rw[Heap.size_update,size_push']
 have hoL:(((s.heap.push (seqObj "list" #[] 0)).update s.heap.objs.size (Obj.mapSeq (· ++ vs.toArray))).push (seqObj "list" vs.toArray 0)).get? (s.heap.objs.size+1)=some (seqObj "list" vs.toArray 0):=by
  rw[← hsz];exact lj _ rfl
 show wpAny _ _ _ _ _ {s with heap:=((s.heap.push (seqObj "list" #[] 0)).update s.heap.objs.size (Obj.mapSeq (· ++ vs.toArray))).push (seqObj "list" vs.toArray 0)}
 rw[hsz]
 refine la (lay (lU slot_list_sort ⟨_,hoL,rfl⟩ entry_list_sort (list_sort_treeK hO hoL h0 hkk h64 λst' a1 a2=>⟨_,rfl,?_⟩) (args_list_sort _)))
 exact lc ⟨_,rfl,h st' a1 a2⟩
end
section
variable {X:Cx}
theorem zdL:zaa X (.builtin "sorted") (λxs H Q=>∃a ls,xs=[.ref a]/\SqT X.K H a (vT ls)/\ls.length<64/\∀p ms,H p=none->ms.Perm ls->Srt ms->Q (.ref p) (upd H p (.lst (vT ms)))):=by
 intro pins s σ H xs us Q I r h
 obtain⟨a,ls,rfl,ha,h64,q⟩:=h
 obtain⟨u,rfl,ru⟩:=vals1 r
 cases ru
 obtain⟨its,rv,pl,hz⟩:=I.tuple ha
 rw[zoH] at rv
 have hl:=rv.length
 simp only[lh] at hl
 have hS:=kE rv
 refine ziM strKind_oneLt pl hS.keysOf (λv₁ v₂ rest e=>keyKind_strs (by rw[← e];exact hS)) (by omega) λst' hp hs=>?_
 obtain⟨ss',h1,h2,h3⟩:=sorted_out_str hS hp hs
 have hS:=zgT h3
 have hP:(ss'.map λx=>x.cps.toList).Perm ls:=by
  have:=h2.map λx:Str=>x.cps.toList
  rw[lY] at this
  have e:ls.map ((λx:Str=>x.cps.toList)∘T)=ls:=by
   have:((λx:Str=>x.cps.toList)∘T)=id:=funext λl=>za8 l
   rw[this,lcp]
  rw[e] at this
  exact this
 obtain⟨c,hat⟩:=sortedAll_at s.heap its ((arrOf st').map (·.2))
 have hlen:ss'.length=ls.length:=by have:=h2.length_eq;simpa using this
 refine⟨.ref (s.heap.objs.size+1),_,I.laid (t':=s.toks) (o:=.lst (vT (ss'.map λx=>x.cps.toList))) (λb o e=>sortedAll_old e) (lbI _) ?_,rfl,q _ _ (I.hok.fresh (lbI _)) hP hS⟩
 refine⟨?_,((arrOf st').map (·.2)).toList,c,?_,by rw[Array.toArray_toList];exact hat⟩
 ·rw[← zco,lh,laP];omega
 ·rw[← zco];exact zak h1
def zmt (K:PySem.W.Frag):R2:=λx y H Q=>∃a b xs ys,x=.ref a/\y=.ref b/\SqT K H a xs/\SqT K H b ys/\xs.length+ys.length<=sizeLine /\
 ∀p H',Same H H'->SqT K H' p (xs++ys)->Q (.ref p) H'
theorem zgO:OpR X (binaryOp .Add) (zmt X.K):=by
 intro pins s σ H x y v u Q I rx ry h
 obtain⟨a,b,xs,ys,rfl,rfl,ha,hb,hz,q⟩:=h
 cases rx
 cases ry
 obtain⟨its,r1,p1,_⟩:=I.tuple ha
 obtain⟨its2,r2,p2,_⟩:=I.tuple hb
 by_cases hx:xs=[]
 ·obtain ⟨⟨cls,dd,data,sl⟩,ho,hc,n,hd⟩:=id p1
  obtain⟨⟨cls2,dd2,data2,sl2⟩,ho2,hc2,n2,hd2⟩:=id p2
  simp only at hc hd hc2 hd2
  subst hc hd hc2 hd2
  have hi:its=[]:=r1.nil_iff.mpr hx
  refine ld7 ⟨_,ho,rfl⟩ ⟨_,ho2,rfl⟩ ldW seq_tuple_add lc3 lcU (lcL _ _)
   (tuple_addW0 a b its.toArray its2.toArray n n2 dd dd2 sl sl2 (by simp[hi])) ⟨ho,ho2,.ref b,H,I,rfl,q b H (Same.refl _) ?_⟩
  rw[hx]
  exact hb
 ·refine HT.cat_tup p1 p2 (λz=>hx (r1.nil_iff.mp z)) (λz=>⟨.ref a,H,I,rfl,q a H (Same.refl _) ?_⟩) (λz=>?_) (by rw[← r1.length,← r2.length];exact hz)
  ·rw[r2.nil_iff.mp z,lal]
   exact ha
  ·have hf:H s.heap.objs.size=none:=I.hok.fresh (lr _)
   refine⟨.ref s.heap.objs.size,_,I.laid (t':=s.toks) (o:=.tup (xs++ys)) (λb ob q=>lb _ q) (lr _) ?_,rfl,q _ _ (Same.upd hf) (SqT.of zW)⟩
   exact⟨by rw[lG];exact hz,_,r1.append r2,TupD.new _ _⟩
end
end L2
namespace My
theorem inner_iff {ps:List (List Nat)}{x:List Nat}:isInner ps x=true↔Inner ps x:=by
 unfold isInner Inner
 rw[lcH]
 constructor
 ·rintro⟨p,hp,e⟩
  rw[lab,laJ,lc7,lc0] at e
  exact⟨p,hp,e.1,λz=>e.2 z.symm⟩
 ·rintro⟨p,hp,e,hn⟩
  refine⟨p,hp,?_⟩
  rw[lab,laJ,lc7,lc0]
  exact⟨e,λz=>hn z.symm⟩
theorem Book.nilInner {m:Nat}{B:List (List Nat)}(h:Book m B):Inner B []:=by
 obtain⟨p,hp,_⟩:=h.cv [] (λc hc=>by cases hc)
 exact⟨p,hp,ldo,λz=>h.ne p hp z.symm⟩
theorem Book.innerLet {m:Nat}{B:List (List Nat)}(h:Book m B){x:List Nat}(hx:Inner B x):LetOk m x:=by
 obtain⟨p,hp,hxp,_⟩:=hx
 exact(h.let_ p hp).pre hxp
theorem Book.step {m:Nat}{B:List (List Nat)}(h:Book m B){x:List Nat}(hx:Inner B x){c:Nat}(hc:c∈abcd.take m):(Inner B (x++[c])/\x++[c]∉B)∨(¬Inner B (x++[c])/\x++[c]∈B):=by
 have hnot:Inner B (x++[c])->x++[c]∉B:=λhi=>h.free hi _ (lce _) (by simp)
 by_cases hB:x++[c]∈B
 ·exact .inr ⟨λhi=>hnot hi hB,hB⟩
 ·refine .inl ⟨?_,hB⟩
  obtain⟨q,hq,e⟩:=h.cv (x++[c]) ((h.innerLet hx).app (LetOk.one hc))
  rcases e with e|e
  ·rcases lbo.mp e with e|e
   ·exact absurd (e▸hq) hB
   ·exact absurd hq (h.free hx q e (h.ne q hq))
  ·exact⟨q,hq,e,λz=>hB (z▸hq)⟩
theorem j5 {m:Nat}(m2:2<=m)(m4:m<=4){B:List (List Nat)}(hb:Book m B){j:Nat}(hj:j<B.length){x:List Nat}:Inner (part m B j) x↔Inner B x∨x=B.getD j []:=by
 have hpm:B.getD j []∈B:=by rw[lm,lQ9 hj];exact laV hj
 have h97:97∈abcd.take m:=uz m4 (by omega)
 have hk:B.getD j []++[97]∈part m B j:=(part_mem hb.nd hj).mpr (.inr (kids_mem.mpr ⟨97,h97,rfl⟩))
 refine⟨zcy m2 m4 hb.nd hj,?_⟩
 rintro(⟨p,hp,hx,hne⟩|rfl)
 ·by_cases e:p=B.getD j []
  ·refine ⟨_,hk,?_,?_⟩
   ·rw[← e];exact hx.trans (lbd _ _)
   ·intro z
    have h1:=hx.length_le
    rw[z,← e] at h1
    simp at h1
    omega
  ·exact⟨p,(part_mem hb.nd hj).mpr (.inl ⟨hp,e⟩),hx,hne⟩
 ·exact⟨_,hk,lbd _ _,λz=>zcS _ _ z.symm⟩
theorem Gr.keysEq {m:Nat}(m2:2<=m)(m4:m<=4){t:Nat}{B:List (List Nat)}(h:Gr m t B):(zq B).length=t+1:=by
 have key:∃L:List (List Nat),L.Nodup/\L.length=t+1/\∀x,Inner B x↔x∈L:=by
  induction h with
  | z =>
   refine⟨[[]],by simp,rfl,λx=>⟨λ⟨p,hp,hx,hn⟩=>?_,λhx=>?_⟩⟩
   ·obtain⟨c,_,rfl⟩:=kids_mem.mp hp
    rcases lbo.mp hx with e|e
    ·exact absurd e hn
    ·rw[ldp.mp e];simp
   ·rw[lK.mp hx]
    exact(Book.letters m2 m4).nilInner
  | s g hj ih =>
   rename_i t' B' j
   obtain⟨L,h0,h1,h2⟩:=ih
   have hb:=g.book m2 m4
   have hpm:B'.getD j []∈B':=by rw[lm,lQ9 hj];exact laV hj
   refine⟨L++[B'.getD j []],lbN.mpr ⟨h0,by simp,?_⟩,by simp[h1],λx=>?_⟩
   ·rintro a ha b hb' rfl
    rw[lK.mp hb'] at ha
    exact hb.free ((h2 _).mpr ha) _ (lce _) (hb.ne _ hpm) hpm
   ·rw[j5 m2 m4 hb hj,h2,lat,lK]
 obtain⟨L,h0,h1,h2⟩:=key
 rw[← h1]
 refine leg ((z7 B).length_le_of_subset λx hx=>(h2 x).mp (innerKeys_mem.mp hx)) (h0.length_le_of_subset λx hx=>innerKeys_mem.mpr ((h2 x).mpr hx))
theorem zj2:∀(x:List Nat) (c:Nat),x<x++[c]
 | [],c=>List.nil_lt_cons c []
 | a::x,c=>laM.mpr (.inr ⟨rfl,zj2 x c⟩)
end My
namespace L2
open PySem PySem.Spec PyProof.Rows
def zeZ (P:Program)(w:World)(outer:List Env)(H:Hp)(s:Shared)(E:XK)(e:Value)(s':Shared):Prop :=
 ∃ (a C:Addr) (a0:Value) (H':Hp) (B:Heap),e=.ref a/\s'.os=s.os/\AllBare s'.gens /\
  (∀b o,s.heap.get? b=some o->b∉frs outer->∃o',B.get? b=some o'/\(H b=none->o'=o)) /\
  (∀b o,s.heap.get? b=some o->b∈frs outer->∃sl,s'.heap.get? b=some {o with slots:=sl}) /\
  (∀b o,s.heap.get? b=some o->H b=none->H' b=none) /\
  (∀b xs,H b=some (.tup xs)->H' b=some (.tup xs))/\(∀b o u,H b=some (.frz o u)->H' b=some (.frz o u))/\(∀b ps,H b=some (.tbl ps)->∃more,H' b=some (.tbl (ps++more))) /\
  HOk P w H' B/\Heap.FlyingW B outer a (.ref C) a0 s'.heap/\E (.ref C) none H'
abbrev CX1 (P:Program)(w:World):CXT:=zeZ P w
theorem zft {env:Env}{outer:List Env}{L:Addr}(hf:env.frame=some L):frs (env::outer)=L::frs outer:=by
 unfold frs
 rw[lcI,hf]
theorem ziG {P:Program}{w:World}{H:Hp}{h:Heap}{l:List Addr}(ok:HOk P w H h)(hl:∀b∈l,H b=none):HOk P w H (PySem.W.hideAll h l):=λb o e =>
 (ok b o e).stay (λc u hc q=>ldk l q λz=>by
  rcases hc with rfl|hc
  ·rw[hl _ z] at e;cases e
  ·rw[hl _ z] at hc;cases hc) (λ_ q=>q) λ_ _ q=>q
section
variable {X:Cx}{pins:List (Addr×Obj)}{σ:St}{H:Hp}{s:Shared}{M:Model}{F:Value->Shared->Prop}{E:XK}
theorem Inv.fr0 (I:Inv X pins σ H s){b:Addr}(hb:b∈X.fs):X.H₀ b=none/\b∉X.ex:=⟨I.ok.frf b hb,λz=>I.ok.exfs b z hb⟩
theorem zhc (I:Inv X pins σ H s)(hst:X.stack=X.env::X.outer)(hfr:X.env.frame=some X.env.locals)(hex:X.ex=[]){e C:Addr}{args:List Value}{h':Heap}
  (hx:Heap.MadeExcOf s.heap h' e (.ref C) args) (hE:E (.ref C) none H) :
  wpAny M X.A (leaving X.env (.ref e)) (λ_ s''=>zeZ X.prog X.w X.outer X.H₀ X.s₀ E (.ref e) s'') F {s with heap:=h'}:=by
 have hin:∀env∈X.stack,∀b,env.frame=some b->b∈frs X.stack:=λenv he b hb=>ldv.mpr ⟨env,he,hb⟩
 have hstk:frs X.stack=X.env.locals::frs X.outer:=by rw[hst];exact zft hfr
 have nex:∀b:Addr,b∉X.ex:=λb z=>by rw[hex] at z;cases z
 refine wpAny_leaves_madeW (base:=PySem.W.hideAll s.heap (frs X.stack)) (h:=s.heap) (outer:=X.outer) (I.ok.frames.trans (by rw[hst])) hfr (λb o q=>PySem.W.of_hideAll _ q) (by rw[← hst];exact PySem.W.funFrames_hide I.stack hin) hx λh2 t x1 x2 x3 x4=>?_
 refine⟨e,C,.ref t,H,PySem.W.hideAll s.heap (frs X.stack),rfl,I.os,I.bare,λb o q hb=>?_,λb o q hb=>?_,λb o q n=>I.base.free b o q n (nex b),I.base.tups,I.base.frzs,I.base.tbls,ziG I.hok I.stkFree,x1,hE⟩
 ·obtain ⟨o1,e1⟩:=I.base.there b o q (nex b)
  refine⟨o1,ldk _ e1 λz=>?_,λn=>?_⟩
  ·rw[hstk] at z
   rcases lB.mp z with z|z
   ·exact absurd (lu q) (lek.mpr (z▸I.ok.above))
   ·exact hb z
  ·have:=I.base.keep b o q n hb (nex b)
   rw[e1] at this
   exact lg this
 ·obtain ⟨sl,e1⟩:=I.base.slot b o q (I.fr0 hb).1 hb (nex b)
  have hb2:b∈X.stack.filterMap (·.frame):=by
   show b∈frs X.stack
   rw[hstk]
   exact lM _ hb
  obtain⟨_,o2,e2,nf⟩:=I.stack.mem hb2
  rw[e1] at e2
  obtain rfl:=lg e2
  obtain⟨sl2,e3⟩:=x4 b _ (hx.keeps b _ e1) nf
  exact⟨sl2,e3⟩
theorem zi1 (I:Inv X pins σ H s)(hst:X.stack=X.env::X.outer)(hfr:X.env.frame=some X.env.locals)(hex:X.ex=[]){e:Value}{s':Shared}(hf:zeZ X.prog X.w X.stack H s E e s') :
  wpAny M X.A (leaving X.env e) (λ_ s''=>zeZ X.prog X.w X.outer X.H₀ X.s₀ E e s'') F s':=by
 have hstk:frs X.stack=X.env.locals::frs X.outer:=by rw[hst];exact zft hfr
 have nex:∀b:Addr,b∉X.ex:=λb z=>by rw[hex] at z;cases z
 obtain⟨a,C,a0,H',B,rfl,hos,hbare,h1,h2,h3,h4,h5,h6,hok,fly,hE⟩:=hf
 have fly':Heap.FlyingW B (X.env::X.outer) a (.ref C) a0 s'.heap:=by rw[← hst];exact fly
 refine wpAny_leaves_onW (I.ok.frames.trans (by rw[hst])) hfr fly' λh2' x1 x2=>?_
 refine⟨a,C,a0,H',B,rfl,hos.trans I.os,hbare,λb o q hb=>?_,λb o q hb=>?_,λb o q n=>?_,λb xs q=>h4 b xs (I.base.tups b xs q),λb o u q=>h5 b o u (I.base.frzs b o u q),λb ps q=>?_,hok,x1,hE⟩
 ·obtain ⟨o1,e1⟩:=I.base.there b o q (nex b)
  have hbs:b∉frs X.stack:=λz=>by
   rw[hstk] at z
   rcases lB.mp z with z|z
   ·exact absurd (lu q) (lek.mpr (z▸I.ok.above))
   ·exact hb z
  obtain⟨o2,e2,k2⟩:=h1 b o1 e1 hbs
  refine⟨o2,e2,λn=>?_⟩
  have e3:=I.base.keep b o q n hb (nex b)
  rw[e1] at e3
  rw[k2 (I.base.free b o q n (nex b))]
  exact lg e3
 ·obtain⟨sl,e1⟩:=I.base.slot b o q (I.fr0 hb).1 hb (nex b)
  have hb2:b∈frs X.stack:=by rw[hstk];exact lM _ hb
  obtain⟨sl2,e2⟩:=h2 b _ e1 hb2
  obtain⟨_,o3,e3,nf⟩:=fly.2.2.1.mem hb2
  rw[e2] at e3
  obtain rfl:=lg e3
  obtain⟨sl3,e4⟩:=x2 b _ e2 nf
  exact⟨sl3,e4⟩
 ·obtain⟨o1,e1⟩:=I.base.there b o q (nex b)
  exact h3 b o1 e1 (I.base.free b o q n (nex b))
 ·obtain⟨m1,e1⟩:=I.base.tbls b ps q
  obtain⟨m2,e2⟩:=h6 b _ e1
  exact⟨m1++m2,by rw[e2,ldu]⟩
end
theorem zY {P:Program}{w:World}{K:PySem.W.Frag}{mg:Str->Option Value}{base:Heap}{N:List Str}{qual:Str}{scope:Scope}{f:Addr}{cd:Value}{A:Around}{outer:List Env}{s:Shared}{H:Hp}{E:XK} :
  zcf (CX1 P w) (zaX (CX1 P w) P w K mg base N qual scope f cd A outer s H E) E:=λpins σ H' s' e s'' I hf=>zi1 I rfl rfl rfl hf
theorem Fun.okX {P:Program}{w:World}{K:PySem.W.Frag}{mg:Str->Option Value}{base:Heap}{x qual:Str}{st:Stmt}{f:Addr}{fd:FuncData}{N ps:List Str}{k:Nat}{sp:Sp}(F:Fun K x qual st f fd)(S:FnScope N ps (zy st))(len:∀vs H Q E,sp vs H Q E->vs.length=ps.length)
  (hbody:∀(cdv:Value) (A:Around) (outer:List Env) (s:Shared) (H:Hp) (vs:List V) (Q:VK) (E:XK),Room k (A.deeper (envOfC qual (zy st) s.heap.objs.size f cdv))->sp vs H Q E ->
   ∃t,PSs (zaX (CX1 P w) P w K mg base N qual (zy st) f cdv A outer s H E) (uV st) t/\t {nx:=λ_ H'=>Q .non H',rt:=Q} (start N vs) H):FnOk P w K mg base (CX1 P w) (k+1) f fd ps sp:=by
 obtain⟨oc,od,kV,doc,pm,an,cdv,ct,osl,rfl,lk,hcd⟩:=F.ex
 exact zm2 lk hcd S len λA outer s H vs Q E hr hsp=>hbody cdv A outer s H vs Q E hr hsp
theorem PS.nox {X:Cx}{st:Stmt}{t:TS}(h:PS X.nox st t):PS X st t:=λpins s σ H D I hw =>
 lbm (h pins s σ H D (I.wish _) hw) (λ_ _ q=>q.unwish) λ_ _ z=>False.elim z
theorem PA.nox {X:Cx}{es:List Expr}{t:TA}(h:PA X.nox es t):PA X es t:=λpos pins s σ H Q I hw =>
 lbm (h pos pins s σ H Q (I.wish _) hw) (λ_ _ ⟨v,H',I',r,q⟩=>⟨v,H',I'.unwish,r,q⟩) λ_ _ z=>False.elim z
structure Own (K:PySem.W.Frag)(mg:Str->Option Value)(x:Str) where
 C:Addr
 mgx:mg x=some (.ref C)
 exc:PySem.W.excIn K C [.type "ValueError", .type "Exception", .type "BaseException", .type "object"] "ValueError.__new__" = true
inductive ExcD (o:Option Obj)(A:Option Addr->ClassData->Array (Option Value)->Bool):Prop
 | mk (dd:Option Addr) (cd:ClassData) (sl:Array (Option Value)) (e:o=some ⟨.type "type", dd,.cls cd,sl⟩) (q:A dd cd sl=true)
inductive ExcR (x:List Value)(y:List (Option Value))(A:Addr->List Value->Option Value->Option Value->Option Value->Option Value->String->Option Value->Bool):Prop
 | mk (C':Addr) (bm:List Value) (k0 k1 k2 k3:Option Value) (n:String) (k5:Option Value) (e:x=.ref C'::bm) (f:y=[k0,k1,k2,k3,some (.builtin n),k5]) (q:A C' bm k0 k1 k2 k3 n k5=true)
inductive ExcO (h:Heap)(C:Addr)(bmB:List Value)(newId:String):Prop
 | mk (bm:List Value) (N:Addr) (nm qn:Str) (bs:List Value) (hdct:Bool) (sn:List Str) (sub:List Value) (ab:Bool) (col:Option Bool) (dd:Option Addr) (k0 k1 k2 k3 k5:Option Value) (mN:Str->Option Value)
   (hC:h.get? C=some (excClassObj nm qn C N bs bm hdct sn sub ab col dd k0 k1 k2 k3 k5 newId)) (hN:h.Ns N mN) (hni:mN "__init__" = none) (T:OwnTail h bmB bm)
theorem zl5 {o:Option Obj}{A:Option Addr->ClassData->Array (Option Value)->Bool}(q:PySem.W.excIn.match_6 (λ_=>Bool) o A (λ_=>false)=true):ExcD o A:=by
 rcases o with _|⟨c,dd,da,sl⟩
 ·exact absurd q lD
 ·cases c
  all_goals first|exact absurd q lD|skip
  rename_i s
  by_cases hs:s = "type"
  ·subst hs
   cases da
   all_goals first|exact absurd q lD|exact⟨_,_,_,rfl,q⟩
  ·delta PySem.W.excIn.match_6 at q
   exact absurd ((dif_neg hs).symm.trans q) lD
theorem zmB {x:List Value}{y:List (Option Value)}{A:Addr->List Value->Option Value->Option Value->Option Value->Option Value->String->Option Value->Bool}(q:PySem.W.excIn.match_1 (λ_ _=>Bool) x y A (λ_ _=>false)=true):ExcR x y A:=by
 rcases x with _|⟨v,bm⟩
 ·exact absurd q lD
 cases v
 all_goals first|exact absurd q lD|skip
 rcases y with _|⟨k0,_|⟨k1,_|⟨k2,_|⟨k3,_|⟨k4,y⟩⟩⟩⟩⟩
 all_goals first|exact absurd q lD|skip
 rcases k4 with _|k4
 ·exact absurd q lD
 cases k4
 all_goals first|exact absurd q lD|skip
 rcases y with _|⟨k5,_|⟨k6,y⟩⟩
 all_goals first|exact absurd q lD|exact⟨_,_,_,_,_,_,_,_,rfl,rfl,q⟩
theorem zk9 {K:PySem.W.Frag}{h:Heap}{C:Addr}{bmB:List Value}{newId:String}(X:K.In h)(q:PySem.W.excIn K C bmB newId=true):ExcO h C bmB newId:=by
 obtain⟨dd,cd,sl,ho,q⟩:=zl5 q
 obtain⟨C',bm,k0,k1,k2,k3,n,k5,hm,hs,q⟩:=zmB q
 simp only[lab,ldL,lc7] at q
 obtain⟨⟨⟨⟨⟨rfl,rfl⟩,hdel⟩,ht⟩,hok⟩,hni⟩:=q
 obtain⟨nm,bs,mro,ns,qn,hd,sn,sub,ab,col,del⟩:=cd
 obtain⟨l⟩:=sl
 dsimp only at hm hdel hok hni hs
 subst hm hdel hs
 exact⟨bm,ns,nm,qn,bs,hd,sn,sub,ab,col,dd,k0,k1,k2,k3,k5,_,X _ _ ho,.of_isNs (PySem.W.isNs_of_in X hok),PySem.W.nsMap_none_of_in X hok hni,PySem.W.tail_of_in X ht⟩
def zmD (C:Addr)(E:XK)(t:TA):TS:=λ_ σ H=>t σ H λvs H1=>vs.length<=3/\E (.ref C) none H1
section
variable {P:Program}{w:World}{K:PySem.W.Frag}{mg:Str->Option Value}{base:Heap}{N:List Str}{qual:Str}{scope:Scope}{f:Addr}{cd:Value}{A:Around}{outer:List Env}{s₁:Shared}{H₁:Hp}{E:XK}
theorem ziE {x:Str}{e₀:Expr}{rest:List Expr}{np cpos pos:Pos}{t:TA}(O:Own K mg x)(hg:Gl (zaX (CX1 P w) P w K mg base N qual scope f cd A outer s₁ H₁ E) x)
  (ha:PA (zaX (CX1 P w) P w K mg base N qual scope f cd A outer s₁ H₁ E) (e₀::rest) t)
  (he:starEach (e₀::rest) (zaX (CX1 P w) P w K mg base N qual scope f cd A outer s₁ H₁ E).env=(false,eval e₀ (zaX (CX1 P w) P w K mg base N qual scope f cd A outer s₁ H₁ E).env)::starEach rest (zaX (CX1 P w) P w K mg base N qual scope f cd A outer s₁ H₁ E).env:=by rfl)
  (hpl:(backTo cpos (starEach rest (zaX (CX1 P w) P w K mg base N qual scope f cd A outer s₁ H₁ E).env)).any (·.1)=false:=by rfl) (hd:(x == ("__debug__" : Str))=false:=by decide) :
  PS (zaX (CX1 P w) P w K mg base N qual scope f cd A outer s₁ H₁ E) (.Raise (some (.Call (.Name x np) (e₀::rest) [] cpos)) none pos) (zmD O.C E t):=by
 intro pins s σ H D I h
 obtain⟨tl,Na,nm,q,bs,hdct,sn,sub,ab,col,dd,k0,k1,k2,k3,k5,mN,hC,hN,hni,T⟩:=zk9 I.ok.mod.kin O.exc
 refine wpAny_Raise_call_subT (C:=O.C) (nm:=nm) (q:=q) (N:=Na) (bs:=bs) (bm:=tl) (hdct:=hdct) (sn:=sn) (sub:=sub) (ab:=ab) (col:=col) (dd:=dd) (k0:=k0) (k1:=k1) (k2:=k2) (k3:=k3) (k5:=k5)
  PySem.F.excBase_ValueError (mN:=mN) (T.hasType PySem.F.excBase_ValueError.hasBase) (I.ok.hd rfl) (by rw[he];show(false || (backTo cpos (starEach rest (zaX (CX1 P w) P w K mg base N qual scope f cd A outer s₁ H₁ E).env)).any (·.1))=false;rw[hpl];rfl) hni (zeA I hg O.mgx ⟨rfl,?_⟩ hd)
 have h':=ha cpos pins s σ H _ I h
 rw[he] at h' ⊢
 refine ldg (lbm h' (λus s₂ ⟨vs,H2,I2,r,hz,q⟩=>⟨rfl,?_,I2.bk _ _ hC,hN.keeps I2.bk,T.keeps I2.bk,λh'' e hm=>zhc I2 rfl rfl rfl hm q⟩) λ_ _ y=>y)
 rw[← r.length,laP]
 omega
end
def excAt (a C:Addr):HO:=.ext λh=>∃o,h.get? a=some o/\o.cls=.ref C
structure RoomH (k:Nat)(A:Around):Prop where
 dp:A.depth+3*k+5<recursionLimit
 un:A.units+16*k+200<cLine
theorem RoomH.mono {j k:Nat}{A:Around}(r:RoomH k A)(h:j<=k):RoomH j A:=⟨by have:=r.dp;omega,by have:=r.un;omega⟩
theorem ud {P:Program}{w:World}{X:Cx}:zcf (CX1 P w) X E0:=λ_ _ _ _ _ _ _ h=>by
 obtain⟨_,_,_,_,_,_,_,_,_,_,_,_,_,_,_,_,hE⟩:=h
 exact hE.elim
theorem zih {x:V}:∀{xs:List V}{us:List Value},Vals xs us->xs.all zbQ=true->∀(j:Nat) (u:Value),us[j]? = some u->∃y,xs[j]? = some y/\eqU x u=eqV y x
 | _,_,.nil,_=>λj u e=>by simp at e
 | y::xs,u::us,.cons r t,f=>λj v e=>by
  rw[lcs,lab] at f
  cases j with
  | zero =>
   have:u=v:=by simpa using e
   subst this
   exact⟨y,rfl,zj0 r f.1⟩
  | succ j=>exact zih t f.2 j v (by simpa using e)
end L2
namespace My
end My
namespace L2
open PySem PySem.Spec PyProof.Rows
theorem zji {a:List Expr}{b}{c:Pos}{es:List Expr}{env:Env}:starEach (.Tuple a b c::es) env=(false,eval (.Tuple a b c) env)::starEach es env:=by rfl
theorem zfp {a:List Expr}{c:Pos}{es:List Expr}{env:Env}:starEach (.List a c::es) env=(false,eval (.List a c) env)::starEach es env:=by rfl
theorem xj {a b:Expr}{o}{c:Pos}{es:List Expr}{env:Env}:starEach (.BinOp a o b c::es) env=(false,eval (.BinOp a o b c) env)::starEach es env:=by rfl
theorem zL {f:Expr}{a:List Expr}{k}{c:Pos}{es:List Expr}{env:Env}:starEach (.Call f a k c::es) env=(false,eval (.Call f a k c) env)::starEach es env:=by rfl
theorem ju {a b:Expr}{c:Pos}{es:List Expr}{env:Env}:starEach (.Subscript a b c::es) env=(false,eval (.Subscript a b c) env)::starEach es env:=by rfl
theorem zb {a}{c:Pos}{es:List Expr}{env:Env}:starEach (.Name a c::es) env=(false,eval (.Name a c) env)::starEach es env:=by rfl
theorem zF {a}{k}{c:Pos}{es:List Expr}{env:Env}:starEach (.Constant a k c::es) env=(false,eval (.Constant a k c) env)::starEach es env:=by rfl
section
variable {prog:Program}{w:World}{A:Around}{E:Value->Shared->Prop}{s:Shared}
theorem jH {t sl:Addr}{items:Array Value}{vl vu:Value}{lo hi:Option Int}{Q:Value->Shared->Prop}(ht:IsTup s.heap t items)(hs:s.heap.IsSliceOf sl vl vu .none)(pl:IsPart vl lo)(pu:IsPart vu hi)
  (hw:HT.sIx items.size 0 lo=0/\HT.sIx items.size items.size hi=items.size) (h:Q (.ref t) s):wpAny (model prog w) A (getItem (.ref t) (.ref sl)) Q E s:=by
 obtain⟨os,hos,hcs,hds⟩:=id hs
 have hTs:s.TypeIs (.ref sl) "slice" := ⟨os,hos,hcs⟩
 unfold getItem
 try with_reducible refine lay ?_
 first|refine la (lc ?_)|skip
 refine la (wpAny_sequenceKey ht.typeIs (by decide) ?_)
 refine la (lP (name:=Str.ofString "__getitem__") ht.typeIs laW
  (lU laW ht.typeIs entry_tuple_getitem ?_ (args_tuple_getitem _ _)))
 show wpAny _ _ (Builtin.Tuple.tupleItemsOf (.ref t) >>= _) _ _ s
 refine la (tupleItemsOf_ ht ?_)
 refine la (lbV hTs ?_)
 rw[lH (by decide)]
 refine la (HT.sliceApplied_gen hs pl pu ?_)
 have hyes:(((HT.sIx items.size 0 lo:Nat):Int) == 0&&(1:Int) == 1&&(HT.sIx items.size items.size hi - HT.sIx items.size 0 lo) == items.size)=true:=by
  rw[hw.1,hw.2]
  simp
 show wpAny _ _ (if (((HT.sIx items.size 0 lo:Nat):Int) == 0&&(1:Int) == 1&&(HT.sIx items.size items.size hi - HT.sIx items.size 0 lo) == items.size)=true then _ else _) _ _ s
 rw[lH hyes]
 refine la (m:=Builtin.Tuple.tupleIsExact (.ref t)) ?_
 unfold Builtin.Tuple.tupleIsExact
 refine la (lbV ht.typeIs (lc ?_))
 rw[lH (by decide)]
 first
  | exact la (lcf (lc ⟨_,rfl,lc h⟩))
  | exact la (lcf (lc ⟨_,rfl,h⟩))
end
section
variable {X:Cx}
def zpb (K:PySem.W.Frag):V->Option Int->Option Int->Hp->VK->Prop:=λx lo hi H Q=>∃a xs,x=.ref a/\SqT K H a xs/\∀p H',Same H H'->SqT K H' p (zgH xs lo hi)->Q (.ref p) H'
theorem zk2:SlR X (zpb X.K):=by
 intro pins s σ H x v vl vu lo hi sl Q I rx hs pl pu h
 obtain⟨a,xs,rfl,hx,q⟩:=h
 by_cases hw:HT.sIx xs.length 0 lo=0/\HT.sIx xs.length xs.length hi=xs.length
 ·cases rx
  obtain⟨its,r,ht,hz⟩:=I.tuple hx
  have hlen:its.toArray.size=xs.length:=by rw[lF];exact r.length.symm
  refine⟨"tuple", _,laW.lookup,ht.typeIs,jH ht hs pl pu (by rw[hlen];exact hw) ⟨.ref a,H,I,rfl,q a H (Same.refl _) ?_⟩⟩
  have:zgH xs lo hi=xs:=by
   unfold zgH
   rw[hw.1,hw.2,ldC,Nat.sub_zero,lde]
  rw[this]
  exact hx
 ·exact zns pins s σ H (.ref a) v vl vu lo hi sl Q I rx hs pl pu ⟨a,xs,rfl,hx,hw,λp hp=>q p _ (Same.upd hp) (SqT.of zW)⟩
end
end L2
set_option maxHeartbeats 2000000
namespace L2
open PySem PySem.Spec PyProof.Rows
def zlT (ls:List (List Nat))(xs:List V):List (Key×V):=(List.range (min ls.length xs.length)).foldl (λm j=>putK m (Sum.inr (T (ls.getD j []))) (xs.getD j .non)) []
theorem ziS (ls:List (List Nat))(xs:List V):(zlT ls xs).length<=ls.length:=by
 have key:∀(ps:List Nat) (m:List (Key×V)),(ps.foldl (λm j=>putK m (Sum.inr (T (ls.getD j []))) (xs.getD j .non)) m).length<=m.length+ps.length:=by
  intro ps
  induction ps with
  | nil=>intro m;simp
  | cons p r ih =>
   intro m
   rw[lag]
   have h1:=ih (putK m (Sum.inr (T (ls.getD p []))) (xs.getD p .non))
   have h2:=vY m (Sum.inr (T (ls.getD p [])):Key) (xs.getD p .non)
   rw[lC]
   omega
 have:=key (List.range (min ls.length xs.length)) []
 rw[lad,lV] at this
 exact laj this (by omega)
theorem zcX (l:Addr)(items:Array Value)(x:Value)(e:Value->Bool)(j:Nat)(hj:j<items.size)
  (hit:e items[j]=true) (hno:∀m (hm:m<items.size),m<j->e items[m]=false) :
  Meets (Builtin.«tuple.index» ⟨[.ref l,x],[]⟩)
   (λA R s=>s.heap.IsTuple l items/\(∀y,y∈items->SeqAt.EqAt A.in1 s y x (e y))/\R (.ok (.ret (.int j s.toks))) {s with toks:=s.toks+1}):=by
 intro prog w A R s h
 obtain⟨hl,he,h⟩:=h
 obtain⟨o,ho,hc,n,hd⟩:=id hl
 unfold Builtin.«tuple.index»
 refine la ?_
 wp_walk using ldm ho
 rw[hd]
 refine lc (lc ?_)
 refine la (lc (la (lc (la ?_))))
 rw[Std.Legacy.Range.forIn_eq_forIn_range']
 simp only[Std.Legacy.Range.size,Nat.sub_zero,Nat.add_sub_cancel,Nat.div_one,Nat.min_self]
 refine wpAny_forIn_list _ (λrest b s'=>s'=s/\∃i,rest=List.range' i (items.size - i)/\i<=j) _ ?_ ?_ _ _ ⟨rfl,0,by simp,lbJ _⟩
 ·rintro y rest b s' ⟨rfl,i,hr,hi⟩
  obtain ⟨rfl,hrest⟩:y=i/\rest=List.range' (i+1) (items.size - (i+1)):=by
   have e:items.size - i=(items.size - (i+1))+1:=by omega
   rw[e,List.range'_succ] at hr
   injection hr with h1 h2
   exact⟨h1,h2⟩
  have hlt:y<items.size:=by omega
  rw[laR hlt]
  refine la (he _ (Array.getElem_mem hlt) prog w _ _ ?_)
  rcases lcO y j with hyj|hyj
  ·rw[hno y hlt hyj]
   exact lc ⟨rfl,y+1,hrest,hyj⟩
  ·have:y=j:=by omega
   subst this
   rw[hit]
   rw[lH rfl]
   wp_walk
   exact h
 ·rintro b s' ⟨rfl,i,hr,hi⟩
  have:items.size - i=0:=by
   have:=lbj List.length hr
   simpa using this.symm
  omega
section
variable {X:Cx}
def zls (K:PySem.W.Frag):V->List V->Hp->VK->Prop:=λx vs H Q=>∃(l:Addr) (xs:List V) (y:V) (j:Nat) (z:V),x=.ref l/\vs=[y]/\SqT K H l xs/\zbQ y=true/\xs.all zbQ=true/\xs[j]? = some z/\eqV z y=true/\(∀(m:Nat) (w:V),m<j->xs[m]? = some w->eqV w y=false)/\Q (.int (j:Int)) H
theorem zhY:MtR X "tuple.index" (zls X.K):=by
 intro pins s σ H x vs v us Q I rx rv h
 obtain⟨l,xs,y,j,z0,rfl,rfl,hH,fy,fs,hj,hz,hno,q⟩:=h
 cases rx
 obtain⟨u,rfl,ru⟩:=rv.one
 obtain⟨its,r,pl,hl⟩:=I.tuple hH
 obtain⟨o,e,hc,n,hd⟩:=id pl
 have hjl:j<its.length:=by rw[← r.length];exact(lv.mp hj).1
 refine lct F.slot_tuple_index ⟨_,e,hc⟩ F.entry_tuple_index (F.args_tuple_index_2 _ _) (zcX l its.toArray u (eqU y) j (by simpa using hjl) ?_ ?_) ⟨⟨o,e,hc,n,hd⟩,λw hw=>zfR ru fy r fs w (by simpa using hw),?_⟩
 ·obtain⟨y2,e2,e3⟩:=zih (x:=y) r fs j its[j] (lQ9 hjl)
  rw[hj] at e2
  obtain rfl:=lg e2
  show eqU y its[j]=true
  rw[e3,hz]
 ·intro m hm hmj
  have hml:m<its.length:=by simpa using hm
  obtain⟨y2,e2,e3⟩:=zih (x:=y) r fs m its[m] (lQ9 hml)
  show eqU y its[m]=false
  rw[e3]
  exact hno m y2 hmj e2
 ·exact⟨.int _,H,I.tok _,⟨_,rfl⟩,q⟩
end
end L2
set_option maxHeartbeats 1000000
namespace L2
open PySem
def txt:Value->Str
 | .str x _=>x
 | _=>⟨#[]⟩
abbrev stO (es:Array (Int×Value))(ep:Nat)(t:SetTable):Obj:={cls:=.type "set", dict:=none,data:=.set es ep t,slots:=#[]}
structure StS (w:World)(es:Array (Int×Value))(t:SetTable)(ks:List Str):Prop where
 shape:∀e∈es.toList,∃x tk,e=(hashStr w x,Value.str x tk)
 keys:(es.toList.map λe=>txt e.2).Perm ks
 nd:ks.Nodup
 fits:t.fits es.size=true
 led:t.led = !w.params.followText "set-order"
 plain:es.size=0∨t.plain=false
 few:es.size<scanBound
theorem StS.size {w:World}{es:Array (Int×Value)}{t:SetTable}{ks:List Str}(S:StS w es t ks):es.size=ks.length:=by
 have:=S.keys.length_eq
 simpa using this
theorem isStrOf_txt {x y:Str}{tk:Tok}:Value.isStrOf x (.str y tk)=true↔x=y:=by
 constructor
 ·intro h
  obtain⟨t,e⟩:=Value.isStrOf_shape h
  injection e with e _
  exact e.symm
 ·rintro rfl;simp[Value.isStrOf,Value.isStr]
theorem StS.find {w:World}{es:Array (Int×Value)}{t:SetTable}{ks:List Str}(S:StS w es t ks)(x:Str):(∃e∈es.toList,Value.isStrOf x e.2=true)↔x∈ks:=by
 rw[← S.keys.mem_iff,lah]
 constructor
 ·rintro⟨e,he,h⟩
  obtain⟨y,tk,rfl⟩:=S.shape e he
  exact⟨_,he,(isStrOf_txt.mp h).symm⟩
 ·rintro⟨e,he,h⟩
  obtain⟨y,tk,rfl⟩:=S.shape e he
  exact⟨_,he,isStrOf_txt.mpr h.symm⟩
def ded (l:List Str):List Str:=l.foldl (λacc x=>if x∈acc then acc else acc++[x]) []
section
variable {prog:Program}{w:World}{A:Around}{R:Result->Shared->Prop}{I:Addr}{fp wr:List Addr}{G:Array GenState->Array GenState->Prop}{n:Nat}{P:Nat->Value->Prop}{St:Nat->Shared->Prop}
theorem zio:entryFor table "set.update.loop" = some Builtin.«set.update.loop»:=entryFor_of_tree (by kernel_rfl)
theorem zgE:plainId "set.update.loop" = true:=by decide +kernel
end
theorem zaR {α:Type}:∀(l:List α) (k:Nat) (h:k<l.length),(l[k]::l.eraseIdx k).Perm l
 | x::l,0,h=>ldE _
 | x::l,k+1,h=>by
  have ih:=zaR l k (by simpa using h)
  exact(List.Perm.swap _ _ _).trans (ih.cons x)
section
variable {prog:Program}{w:World}{A:Around}{E:Value->Shared->Prop}{s:Shared}
theorem wp_choose {src:Source}{n:Nat}{Q:Nat->Shared->Prop}(hn:n≠0)(h:∀k d,k<n->Q k {s with drawn:=d}):wpAny (model prog w) A (choose src n) Q E s :=
 λΓ p _=>⟨hn,h _ _ (Nat.mod_lt _ (Nat.pos_of_ne_zero hn))⟩
theorem za2 {α:Type}:∀(n:Nat) (xs:List α) (s:Shared) (Q:List α->Shared->Prop),xs.length=n->(∀ys d,ys.Perm xs->Q ys {s with drawn:=d})->wpAny (model prog w) A (drawOrder n xs) Q E s
 | 0,xs,s,Q,hl,h=>by
  unfold drawOrder
  have:xs=[]:=la2.mp hl
  subst this
  exact lc (h [] s.drawn (ldE _))
 | n+1,[],s,Q,hl,h=>by simp at hl
 | n+1,x::xs,s,Q,hl,h=>by
  unfold drawOrder
  refine la (wp_choose (by simp) λk d hk=>?_)
  have e:(x::xs)[k]? = some (x::xs)[k]:=lQ9 hk
  rw[e]
  dsimp only
  have hlen:((x::xs).eraseIdx k).length=n:=by
   rw[List.length_eraseIdx_of_lt hk];omega
  refine la (za2 n _ _ _ hlen λys d' p=>?_)
  refine lc (h _ d' ?_)
  exact(List.Perm.cons _ p).trans (zaR _ _ hk)
theorem zdH {α:Type}(next:Nat->Nat):∀(fuel k:Nat) (left:List α) (out:Array α),left.length=fuel->(pickOrder.go next fuel k left out).toList.Perm (out.toList++left)
 | 0,k,left,out,h=>by
  have:left=[]:=la2.mp h
  subst this
  unfold pickOrder.go
  simp
 | fuel+1,k,left,out,h=>by
  unfold pickOrder.go
  have hp:0<left.length:=by omega
  have hk:next k % left.length<left.length:=Nat.mod_lt _ hp
  have e:left[next k % left.length]? = some left[next k % left.length]:=lQ9 hk
  rw[e]
  dsimp only
  refine(zdH next fuel (k+1) _ _ (by rw[List.length_eraseIdx_of_lt hk];omega)).trans ?_
  rw[Array.toList_push,lbu]
  exact List.Perm.append_left _ (zaR _ _ hk)
theorem uI {α:Type}(next:Nat->Nat)(xs:Array α):(pickOrder next xs).toList.Perm xs.toList:=by
 unfold pickOrder
 have:=zdH next xs.size 0 xs.toList #[] (by simp)
 simpa using this
theorem sl_setnext:Slot "set_iterator" "__next__" "set_iterator.__next__" := .of (owner := "set_iterator") (n := "__next__") (by rw[lcW,lbX];kernel_rfl)
 (by decide +kernel) (by decide +kernel) (by decide +kernel) (by first|exact .inl (by decide +kernel)|exact .inr (by decide +kernel)) (by rw[lda];kernel_rfl)
theorem zcm:entryFor table "set_iterator.__next__" = some Builtin.«set_iterator.__next__»:=entryFor_of_tree (by kernel_rfl)
theorem zfz:Manifest.owners.lookup (String.ofList ['r','o','t','a','r','e','t','i','_','t','e','s'].reverse)=some Manifest.sig_set_iterator:=by kernel_rfl
theorem zct (a:Value):argsOk "set_iterator.__next__" ⟨[a],[]⟩:=by
 unfold argsOk;rw[signature?_of (id := "set_iterator.__next__") (n:=['_','_','t','x','e','n','_','_']) (o:=['r','o','t','a','r','e','t','i','_','t','e','s']) (by kernel_rfl) zfz];kernel_rfl
theorem zfw:Slot "set_iterator" "__iter__" "set_iterator.__iter__" := .of (owner := "set_iterator") (n := "__iter__") (by rw[lcW,lbX];kernel_rfl)
 (by decide +kernel) (by decide +kernel) (by decide +kernel) (by first|exact .inl (by decide +kernel)|exact .inr (by decide +kernel)) (by rw[lda];kernel_rfl)
theorem zgs:entryFor table "set.__iter__" = some Builtin.«frozenset.__iter__»:=entryFor_alias (id' := "frozenset.__iter__") (by kernel_rfl) rfl (by decide +kernel) (by kernel_rfl)
abbrev itO (first:Value)(i:Nat)(a:Addr)(n ep:Nat):Obj:={cls:=.type "set_iterator", dict:=none,data:=.fields #[first,.int i 0,.ref a,.int n 0,.int ep 0],slots:=#[]}
theorem zeV {I a:Addr}{first first':Value}{i n ep:Nat}{v:Value}{es:Array (Int×Value)}{t:SetTable}{Q:Option Value->Shared->Prop}(hI:s.heap.get? I=some (itO first i a es.size ep))(ho:s.heap.get? a=some (stO es ep t))(hf:t.fits es.size=true)
  (how:(∃slot next:Nat,first=.int slot 0/\first'=.int next 0/\∀(A:Around) (Q':Option (Value×Nat)->Shared->Prop) (E:Value->Shared->Prop),Q' (some (v,next)) s->wpAny (model prog w) A (setNext a slot i ep) Q' E s) ∨
   (∃(p:Addr) (ys:List Nat) (k:Nat) (hz:Int),first=.ref p/\first'=first/\(∃c,s.heap.get? p=some {cls:=.type "tuple", dict:=none,data:=.seq (ys.map λ(j:Nat)=>Value.int j 0).toArray c,slots:=#[]})/\ys[i]? = some k/\es[k]? = some (hz,v)))
  (hQ:∀h',h'.get? I=some (itO first' (i+1) a es.size ep)->Heap.SameBut I s.heap h'->Q (some v) {s with heap:=h'}):wpAny (model prog w) A (pyNext (.ref I)) Q E s:=by
 have hT:s.TypeIs (.ref I) "set_iterator" := ⟨_,hI,rfl⟩
 unfold pyNext
 refine la (lbM (lP (name:=Str.ofString "__next__") hT sl_setnext (lU sl_setnext hT zcm ?_ (zct _))))
 unfold Builtin.«set_iterator.__next__»
 refine la (m:=slotArgs "__next__" 0 ⟨[.ref I],[]⟩) (lc ?_)
 refine la (wpAny_fieldsOf hI rfl ?_)
 dsimp only
 refine la (ldq ho rfl hf ?_)
 rw[lap (by simp)]
 rcases how with⟨slot,next,rfl,rfl,hn⟩|⟨p,ys,k,hz,rfl,rfl,⟨c,hp⟩,hy,he⟩
 ·dsimp only
  refine la (hn _ _ _ ?_)
  dsimp only
  refine la (lbp hI rfl (by simp) ?_)
  have g1:(s.heap.update I (Obj.mapFields (·.setIfInBounds 0 (rawInt (next:Int))))).get? I=some (itO (.int next 0) i a es.size ep):=lav (Obj.mapFields (·.setIfInBounds 0 (rawInt (next:Int)))) hI rfl
  refine la (lbp g1 rfl (by simp) ?_)
  have g2:((s.heap.update I (Obj.mapFields (·.setIfInBounds 0 (rawInt (next:Int))))).update I (Obj.mapFields (·.setIfInBounds 1 (rawInt ((i:Int)+1))))).get? I=some (itO (.int next 0) (i+1) a es.size ep):=lav (Obj.mapFields (·.setIfInBounds 1 (rawInt ((i:Int)+1)))) g1 rfl
  exact lc ⟨_,rfl,lc (hQ _ g2 ((lam ..).trans (lam ..)))⟩
 ·dsimp only
  have hq:∀(A:Around) (E:Value->Shared->Prop) (Q':Option (Array Value)->Shared->Prop),Q' (some (ys.map λ(j:Nat)=>Value.int j 0).toArray) s->wpAny (model prog w) A (seqItems? (.ref p)) Q' E s:=λA E Q' q=>by
   unfold seqItems?
   exact la (ldH hp (lc q))
  refine la (hq _ _ _ ?_)
  dsimp only
  have e1:(ys.map λ(j:Nat)=>Value.int j 0).toArray[(i:Int).toNat]? = some (.int k 0):=by simp[hy]
  rw[e1]
  dsimp only
  unfold setNextDrawn
  refine la (la (lbw ho rfl hf ?_))
  dsimp only
  rw[lap (by simp)]
  have e2:es[(k:Int).toNat]? = some (hz,v):=by simpa using he
  rw[e2]
  refine lc (la (lbp hI rfl (by simp) ?_))
  have g2:(s.heap.update I (Obj.mapFields (·.setIfInBounds 1 (rawInt ((i:Int)+1))))).get? I=some (itO (.ref p) (i+1) a es.size ep):=lav (Obj.mapFields (·.setIfInBounds 1 (rawInt ((i:Int)+1)))) hI rfl
  exact lc ⟨_,rfl,lc (hQ _ g2 (lam ..))⟩
end
section
variable {prog:Program}{w:World}{A:Around}{E:Value->Shared->Prop}{s:Shared}
theorem zid {I:Addr}{Q:Option Value->Shared->Prop}{h:Heap}(hh:A.handled=none)(hs:Heap.SameBut I s.heap h)(hQ:∀h',Heap.ExtBut I s.heap h'->Q none {s with heap:=h'}) :
  wpAny (model prog w) A.in1 (newExc (.type "StopIteration") [] >>= λe=>(raiseNew e:Sem PySem.Fin)) (λfin s'=>∃r,fin=.done (.ret r)/\wpAny (model prog w) A (pure (some r)) Q E s')
   (λe s'=>wpAny (model prog w) A (isInstance e (.type "StopIteration") >>= λb=>if b=true then pure none else throw e) Q E s') {s with heap:=h}:=by
 refine la ?_
 simp only[newExc,newTuple]
 refine la (laf ?_ (by size_fits))
 refine la (m:=firstArgMember _ _) (ldQ (a:=Value.none) (by first|rfl|(simp only[firstArgMember];rfl)) ?_)
 refine laf ?_ (by size_fits)
 simp only[raiseNew]
 refine la (ldR ?_)
 have hh':A.in1.handled=none:=hh
 rw[hh']
 refine la (lc (wpAny_throw ?_))
 refine la (lcC (T := "StopIteration") (b:=true) ⟨_,lj _ rfl,rfl⟩ ldB ?_)
 exact lc (hQ _ ((hs.extBut.push _).push _))
theorem zhX {I a:Addr}{first:Value}{i ep:Nat}{es:Array (Int×Value)}{t:SetTable}{Q:Option Value->Shared->Prop}(hh:A.handled=none)(hI:s.heap.get? I=some (itO first i a es.size ep))(ho:s.heap.get? a=some (stO es ep t))(hf:t.fits es.size=true)
  (how:(∃slot:Nat,first=.int slot 0/\∀(A:Around) (Q':Option (Value×Nat)->Shared->Prop) (E:Value->Shared->Prop),Q' none s->wpAny (model prog w) A (setNext a slot i ep) Q' E s) ∨
   (∃(p:Addr) (ys:List Nat),first=.ref p/\(∃c,s.heap.get? p=some {cls:=.type "tuple", dict:=none,data:=.seq (ys.map λ(j:Nat)=>Value.int j 0).toArray c,slots:=#[]})/\ys[i]? = none))
  (hQ:∀h',Heap.ExtBut I s.heap h'->Q none {s with heap:=h'}):wpAny (model prog w) A (pyNext (.ref I)) Q E s:=by
 have hT:s.TypeIs (.ref I) "set_iterator" := ⟨_,hI,rfl⟩
 unfold pyNext
 refine la (lbM (lP (name:=Str.ofString "__next__") hT sl_setnext (lU sl_setnext hT zcm ?_ (zct _))))
 unfold Builtin.«set_iterator.__next__»
 refine la (m:=slotArgs "__next__" 0 ⟨[.ref I],[]⟩) (lc ?_)
 refine la (wpAny_fieldsOf hI rfl ?_)
 dsimp only
 refine la (ldq ho rfl hf ?_)
 rw[lap (by simp)]
 rcases how with⟨slot,rfl,hn⟩|⟨p,ys,rfl,⟨c,hp⟩,hy⟩
 ·dsimp only
  refine la (hn _ _ _ ?_)
  dsimp only
  refine la (lbp hI rfl (by simp) ?_)
  exact zid hh (lam ..) hQ
 ·dsimp only
  have hq:∀(A:Around) (E:Value->Shared->Prop) (Q':Option (Array Value)->Shared->Prop),Q' (some (ys.map λ(j:Nat)=>Value.int j 0).toArray) s->wpAny (model prog w) A (seqItems? (.ref p)) Q' E s:=λA E Q' q=>by
   unfold seqItems?
   exact la (ldH hp (lc q))
  refine la (hq _ _ _ ?_)
  dsimp only
  have e1:(ys.map λ(j:Nat)=>Value.int j 0).toArray[(i:Int).toNat]? = none:=by simpa using hy
  rw[e1]
  dsimp only
  refine la (lbp hI rfl (by simp) ?_)
  have g1:(s.heap.update I (Obj.mapFields (·.setIfInBounds 0 (rawInt 0)))).get? I=some (itO (.int 0 0) i a es.size ep):=lav (Obj.mapFields (·.setIfInBounds 0 (rawInt 0))) hI rfl
  refine la (lbp g1 rfl (by simp) ?_)
  exact zid (s:=s) (I:=I) hh ((lam ..).trans (lam ..)) hQ
theorem zgp:entryFor table "set_iterator.__iter__" = some Builtin.«dict_keyiterator.__iter__»:=entryFor_alias (id' := "dict_keyiterator.__iter__") (by kernel_rfl) rfl (by decide +kernel) (by kernel_rfl)
theorem zgz (a:Value):argsOk "set_iterator.__iter__" ⟨[a],[]⟩:=by
 unfold argsOk;rw[signature?_of (id := "set_iterator.__iter__") (n:=['_','_','r','e','t','i','_','_']) (o:=['r','o','t','a','r','e','t','i','_','t','e','s']) (by kernel_rfl) zfz];kernel_rfl
theorem zeB {I a:Addr}{first:Value}{i n ep:Nat}{Q:Value->Shared->Prop}(hI:s.heap.get? I=some (itO first i a n ep))(hQ:Q (.ref I) s):wpAny (model prog w) A (pyIter (.ref I)) Q E s:=by
 have hT:s.TypeIs (.ref I) "set_iterator" := ⟨_,hI,rfl⟩
 refine ldM hT zfw (lU zfw hT zgp ?_ (zgz _))
 exact la (m:=slotArgs "__iter__" 0 ⟨[.ref I],[]⟩) (lc (lc ⟨_,rfl, "set_iterator", _,hT,sl_setnext.lookup,hQ⟩))
theorem zkp (hh:A.handled=none)(I a:Addr)(hne:a≠I)(es:Array (Int×Value))(ep:Nat)(t:SetTable)(hf:t.fits es.size=true)(hw:w.params.followText "set-order" = true) :
  Walks prog w A I [I,a] [I] es.size (λi v=>((pickOrder (w.params.setOrder a ep) es).toList.map (·.2))[i]? = some v) (λi h=>h.get? I=some (itO (.int 0 0) i a es.size ep)/\h.get? a=some (stO es ep t)) where
 sub:=λb hb=>by simp at hb;simp[hb]
 frame:=λi h h' st k=>⟨k I (by simp) _ st.1,k a (by simp) _ st.2⟩
 item:=λi s Q E hi st hQ=>by
  have hl:(pickOrder (w.params.setOrder a ep) es).size=es.size:=by
   have:=(uI (w.params.setOrder a ep) es).length_eq
   simpa using this
  have hi':i<(pickOrder (w.params.setOrder a ep) es).size:=by rw[hl];exact hi
  refine zeV (v:=(pickOrder (w.params.setOrder a ep) es)[i].2) (n:=0) st.1 st.2 hf (.inl ⟨0,0,rfl,rfl,λA' Q' E' q=>?_⟩) λh' g sb=>?_
  ·unfold setNext setsByText
   refine la (lbw st.2 rfl hf ?_)
   dsimp only
   refine la (la (lbq (lc ?_)))
   dsimp only
   rw[show(model prog w).w.params.followText "set-order" = true from hw,lH rfl,lap (by simp)]
   unfold setWalk setsByText
   refine la (la (lbw st.2 rfl hf ?_))
   dsimp only
   refine la (la (lbq (lc ?_)))
   dsimp only
   rw[show(model prog w).w.params.followText "set-order" = true from hw,lH rfl]
   refine la (lbq (lc (lc ?_)))
   show Q' (((pickOrder (w.params.setOrder a ep) es)[i]?).map λe=>(e.2,0)) s
   rw[laR hi']
   exact q
  ·exact hQ _ h' s.toks (by simp[hi']) ⟨g,(sb.2 a hne).trans st.2⟩ λb o hb e=>(sb.2 b λz=>hb (by simp[z])).trans e
 done:=λs Q E st hQ=>by
  refine zhX hh st.1 st.2 hf (.inl ⟨0,rfl,λA' Q' E' q=>?_⟩) λh' eb=>hQ h' s.toks λb o hb e=>eb b o (λz=>hb (by simp[z])) e
  unfold setNext setsByText
  refine la (lbw st.2 rfl hf ?_)
  dsimp only
  refine la (la (lbq (lc ?_)))
  dsimp only
  rw[show(model prog w).w.params.followText "set-order" = true from hw,lH rfl,lap (by simp)]
  unfold setWalk setsByText
  refine la (la (lbw st.2 rfl hf ?_))
  dsimp only
  refine la (la (lbq (lc ?_)))
  dsimp only
  rw[show(model prog w).w.params.followText "set-order" = true from hw,lH rfl]
  refine la (lbq (lc (lc ?_)))
  have hl:(pickOrder (w.params.setOrder a ep) es).size=es.size:=by
   have:=(uI (w.params.setOrder a ep) es).length_eq
   simpa using this
  show Q' (((pickOrder (w.params.setOrder a ep) es)[es.size]?).map λe=>(e.2,0)) s
  rw[lbn (by omega)]
  exact q
 self:=λi s Q E st hQ=>zeB st.1 hQ
theorem zjC (hh:A.handled=none)(I a p:Addr)(hne:a≠I)(hnp:p≠I)(es:Array (Int×Value))(ep:Nat)(t:SetTable)(hf:t.fits es.size=true)(ys:List Nat)(hy:ys.Perm (List.range es.size)) :
  Walks prog w A I [I,a,p] [I] es.size (λi v=>(ys.map λk=>(es.toList.map (·.2)).getD k .none)[i]? = some v) (λi h=>h.get? I=some (itO (.ref p) i a es.size ep)/\h.get? a=some (stO es ep t)/\∃c,h.get? p=some {cls:=.type "tuple", dict:=none,data:=.seq (ys.map λ(j:Nat)=>Value.int j 0).toArray c,slots:=#[]}) where
 sub:=λb hb=>by simp at hb;simp[hb]
 frame:=λi h h' st k=>⟨k I (by simp) _ st.1,k a (by simp) _ st.2.1,let ⟨c,e⟩:=st.2.2;⟨c,k p (by simp) _ e⟩⟩
 item:=λi s Q E hi st hQ=>by
  have hl:ys.length=es.size:=by simpa using hy.length_eq
  have hi':i<ys.length:=by omega
  have hk:ys[i]<es.size:=by simpa using hy.mem_iff.mp (laV hi')
  refine zeV (v:=es[ys[i]].2) (n:=0) st.1 st.2.1 hf (.inr ⟨p,ys,ys[i],es[ys[i]].1,rfl,rfl,st.2.2,lQ9 hi',by simp[hk]⟩) λh' g sb=>?_
  exact hQ _ h' s.toks (by simp[hi',hk]) ⟨g,(sb.2 a hne).trans st.2.1,let ⟨c,e⟩:=st.2.2;⟨c,(sb.2 p hnp).trans e⟩⟩ λb o hb e=>(sb.2 b λz=>hb (by simp[z])).trans e
 done:=λs Q E st hQ=>by
  have hl:ys.length=es.size:=by simpa using hy.length_eq
  exact zhX hh st.1 st.2.1 hf (.inr ⟨p,ys,rfl,st.2.2,by simp[hl]⟩) λh' eb=>hQ h' s.toks λb o hb e=>eb b o (λz=>hb (by simp[z])) e
 self:=λi s Q E st hQ=>zeB st.1 hQ
end
end L2
set_option maxHeartbeats 3200000
namespace L2
open PySem PySem.Spec PyProof.Rows
section
variable {prog:Program}{w:World}{A:Around}{E:Value->Shared->Prop}{s:Shared}
theorem zkS (a:Value){Q₁:Value->Shared->Prop}(h:Q₁ (.ref s.heap.objs.size) {s with heap:=s.heap.push (stO #[] 0 (.fresh 0 0 (!w.params.followText "set-order")))}) :
  codeAny (model prog w) A (.call (.builtin "set.__new__") ⟨[.type "set", a],[]⟩) (wants Q₁ E) s:=by
 refine codeAny_of_tree (la (m:=checkBuiltinCall "set.__new__" ⟨[.type "set", a],[]⟩) (ldQ (F.newCall_set_1 a) (lc ⟨lbY F.plain_set_new _,lbf F.entry_set_new ?_⟩)))
 rw[la9 F.plain_set_new]
 unfold Builtin.«set.__new__» Builtin.Frozenset.newClass
 have hs:=sub_set_self
 obtain⟨hp,g,d,tk,os⟩:=s
 dsimp only
 wp_walk
 refine lbq (lc ?_)
 dsimp only
 simp only[newObj]
 exact la (wpAny_alloc (lc (lc h)))
theorem StS.new:StS w #[] (.fresh 0 0 (!w.params.followText "set-order")) [] where
 shape:=λe he=>by simp at he
 keys:=ldE _
 nd:=lcA
 fits:=rfl
 led:=rfl
 plain:=.inl rfl
 few:=by decide
theorem zlM {r:Addr}{Q:Bool->Shared->Prop}(hT:s.TypeIs (.ref r) "set")(h:Q false s):wpAny (model prog w) A (Builtin.List.listLengthHint (.ref r)) Q E s:=by
 unfold Builtin.List.listLengthHint
 refine la (wpAny_specialOf hT F.slot_set_len.lookup ?_)
 generalize hid:("set.__len__" : String)=id0
 wp_delta
 have hsp:splitId id0=some ("set", "__len__"):=by subst hid;decide +kernel
 rw[hsp]
 subst hid
 refine la (lcC (T := "set") (b:=true) hT (by rw[lda];kernel_rfl) (lcq (λz=>absurd z (by decide)) λ_=>?_))
 refine lcq (λ_=>?_) (λz=>absurd (by decide +kernel) z)
 exact la (lbV hT (lc h))
end
end L2
set_option maxHeartbeats 1000000
namespace L2
open PySem PySem.Spec PyProof.Rows
inductive D where
 | non|bl (b:Bool)|int (i:Int)|str (l:List Nat)|lst (xs:List D)|tup (xs:List D)|dct (kvs:List (List Nat×D))|exc (n:Nat)
inductive Rs (α:Type) where
 | ok (a:α)|ex (n:Nat)|no
def Rs.bind {α β:Type}:Rs α->(α->Rs β)->Rs β
 | .ok a,f=>f a
 | .ex n,_=>.ex n
 | .no,_=>.no
inductive Sl where
 | no|fz (d:D)|ow (xs:List D)|od (kvs:List (List Nat×D))
abbrev Rho:=List Sl
inductive Out where
 | nx (ρ:Rho)|rt (d:D)|bk (ρ:Rho)|ct (ρ:Rho)|ex (n:Nat)|no
mutual
inductive Dt (K:PySem.W.Frag)(cl:Nat->Addr)(F:Hp):V->D->Prop
 | non:Dt K cl F .non .non
 | bl (b:Bool):Dt K cl F (.bl b) (.bl b)
 | int (i:Int):Dt K cl F (.int i) (.int i)
 | str (l:List Nat) (ok:TxtOk (T l)):Dt K cl F (.str (T l)) (.str l)
 | lst {a:Addr}{xs:List V}{ds:List D}:SqL K F a xs->Dts K cl F xs ds->Dt K cl F (.ref a) (.lst ds)
 | tup {a:Addr}{xs:List V}{ds:List D}:SqT K F a xs->Dts K cl F xs ds->Dt K cl F (.ref a) (.tup ds)
 | dct {a:Addr}{kvs:List (Key×V)}{ds:List (List Nat×D)}:F a=some (.dK kvs)->Dks K cl F kvs ds->Dt K cl F (.ref a) (.dct ds)
 | exc {a:Addr}{n:Nat}:F a=some (excAt a (cl n))->Dt K cl F (.ref a) (.exc n)
inductive Dts (K:PySem.W.Frag)(cl:Nat->Addr)(F:Hp):List V->List D->Prop
 | nil:Dts K cl F [] []
 | cons {v:V}{d:D}{vs:List V}{ds:List D}:Dt K cl F v d->Dts K cl F vs ds->Dts K cl F (v::vs) (d::ds)
inductive Dks (K:PySem.W.Frag)(cl:Nat->Addr)(F:Hp):List (Key×V)->List (List Nat×D)->Prop
 | nil:Dks K cl F [] []
 | cons {l:List Nat}{v:V}{d:D}{vs:List (Key×V)}{ds:List (List Nat×D)}:TxtOk (T l)->Dt K cl F v d->Dks K cl F vs ds->Dks K cl F ((Sum.inr (T l),v)::vs) ((l,d)::ds)
end
section
variable {K:PySem.W.Frag}{cl:Nat->Addr}{F F' H H':Hp}
theorem Dt.monos (e:Same F F'):(∀{v:V}{d:D},Dt K cl F v d->Dt K cl F' v d)/\(∀{vs:List V}{ds:List D},Dts K cl F vs ds->Dts K cl F' vs ds)/\(∀{vs:List (Key×V)}{ds:List (List Nat×D)},Dks K cl F vs ds->Dks K cl F' vs ds):=by
 refine⟨λ{v d} h=>?_,λ{vs ds} h=>?_,λ{vs ds} h=>?_⟩
 ·exact Dt.rec (motive_1:=λv d _=>Dt K cl F' v d) (motive_2:=λvs ds _=>Dts K cl F' vs ds) (motive_3:=λvs ds _=>Dks K cl F' vs ds) .non .bl .int .str (λq _ ih=>.lst (e.seq q) ih) (λq _ ih=>.tup (e.seqT q) ih) (λq _ ih=>.dct (e _ _ q) ih) (λq=>.exc (e _ _ q)) .nil (λ_ _ a b=>.cons a b) .nil (λok _ _ a b=>.cons ok a b) h
 ·exact Dts.rec (motive_1:=λv d _=>Dt K cl F' v d) (motive_2:=λvs ds _=>Dts K cl F' vs ds) (motive_3:=λvs ds _=>Dks K cl F' vs ds) .non .bl .int .str (λq _ ih=>.lst (e.seq q) ih) (λq _ ih=>.tup (e.seqT q) ih) (λq _ ih=>.dct (e _ _ q) ih) (λq=>.exc (e _ _ q)) .nil (λ_ _ a b=>.cons a b) .nil (λok _ _ a b=>.cons ok a b) h
 ·exact Dks.rec (motive_1:=λv d _=>Dt K cl F' v d) (motive_2:=λvs ds _=>Dts K cl F' vs ds) (motive_3:=λvs ds _=>Dks K cl F' vs ds) .non .bl .int .str (λq _ ih=>.lst (e.seq q) ih) (λq _ ih=>.tup (e.seqT q) ih) (λq _ ih=>.dct (e _ _ q) ih) (λq=>.exc (e _ _ q)) .nil (λ_ _ a b=>.cons a b) .nil (λok _ _ a b=>.cons ok a b) h
theorem Dt.mono {v:V}{d:D}(h:Dt K cl F v d)(e:Same F F'):Dt K cl F' v d:=(Dt.monos e).1 h
theorem Dts.mono {vs:List V}{ds:List D}(h:Dts K cl F vs ds)(e:Same F F'):Dts K cl F' vs ds:=(Dt.monos e).2.1 h
theorem Dks.mono {vs:List (Key×V)}{ds:List (List Nat×D)}(h:Dks K cl F vs ds)(e:Same F F'):Dks K cl F' vs ds:=(Dt.monos e).2.2 h
theorem Dts.length:∀{vs:List V}{ds:List D},Dts K cl F vs ds->vs.length=ds.length
 | _,_,.nil=>rfl
 | _,_,.cons _ r=>by simp[r.length]
theorem Dts.append:∀{vs ws:List V}{ds es:List D},Dts K cl F vs ds->Dts K cl F ws es->Dts K cl F (vs++ws) (ds++es)
 | _,_,_,_,.nil,s=>s
 | _,_,_,_,.cons r t,s=>.cons r (Dts.append t s)
theorem Dts.get:∀{vs:List V}{ds:List D}{i:Nat}{v:V},Dts K cl F vs ds->vs[i]? = some v->∃d,ds[i]? = some d/\Dt K cl F v d
 | _,_,_,_,.nil,e=>by simp at e
 | _,_,0,_,.cons r _,e=>by simp at e;subst e;exact⟨_,rfl,r⟩
 | _,_,i+1,v,.cons _ t,e=>by
  obtain⟨d,h1,h2⟩:=Dts.get (i:=i) (v:=v) t (by simpa using e)
  exact⟨d,by simpa using h1,h2⟩
theorem Dts.get':∀{vs:List V}{ds:List D}{i:Nat}{d:D},Dts K cl F vs ds->ds[i]? = some d->∃v,vs[i]? = some v/\Dt K cl F v d
 | _,_,_,_,.nil,e=>by simp at e
 | _,_,0,_,.cons r _,e=>by simp at e;subst e;exact⟨_,rfl,r⟩
 | _,_,i+1,d,.cons _ t,e=>by
  obtain⟨v,h1,h2⟩:=Dts.get' (i:=i) (d:=d) t (by simpa using e)
  exact⟨v,by simpa using h1,h2⟩
theorem Dts.take:∀{vs:List V}{ds:List D} (n:Nat),Dts K cl F vs ds->Dts K cl F (vs.take n) (ds.take n)
 | _,_,0,_=>.nil
 | _,_,_+1,.nil=>.nil
 | _,_,n+1,.cons r t=>.cons r (Dts.take n t)
theorem Dts.drop:∀{vs:List V}{ds:List D} (n:Nat),Dts K cl F vs ds->Dts K cl F (vs.drop n) (ds.drop n)
 | _,_,0,r=>r
 | _,_,_+1,.nil=>.nil
 | _,_,n+1,.cons _ t=>Dts.drop n t
mutual
def D.py:D->PyData
 | .non=>.none
 | .bl b=>.bool b
 | .int i=>.int i
 | .str l=>.str (T l)
 | .lst xs=>.list (D.pys xs)
 | .tup xs=>.tuple (D.pys xs)
 | .dct _=>.none
 | .exc _=>.none
def D.pys:List D->List PyData
 | []=>[]
 | d::ds=>d.py::D.pys ds
end
mutual
def D.pl:D->Bool
 | .lst xs=>D.pls xs
 | .tup xs=>D.pls xs
 | .dct _=>false
 | .exc _=>false
 | _=>true
def D.pls:List D->Bool
 | []=>true
 | d::ds=>d.pl&&D.pls ds
end
theorem Dt.iss:(∀{v:V}{d:D},Dt K cl F v d->d.pl=true->Is K F v d.py)/\(∀{vs:List V}{ds:List D},Dts K cl F vs ds->D.pls ds=true->Iss K F vs (D.pys ds)):=by
 refine⟨λ{v d} h=>?_,λ{vs ds} h=>?_⟩
 ·exact Dt.rec (motive_1:=λv d _=>d.pl=true->Is K F v d.py) (motive_2:=λvs ds _=>D.pls ds=true->Iss K F vs (D.pys ds)) (motive_3:=λ_ _ _=>True) (λ_=>.non) (λb _=>.bl b) (λi _=>.int i) (λl ok _=>.str _ ok) (λq _ ih p=>.lst q (ih p)) (λq _ ih p=>.tup q (ih p)) (λ_ _ _ p=>by simp[D.pl] at p) (λ_ p=>by simp[D.pl] at p) (λ_=>.nil)
   (λ_ _ a b p=>by simp only[D.pls,lab] at p;exact .cons (a p.1) (b p.2)) trivial (λ_ _ _ _ _=>trivial) h
 ·exact Dts.rec (motive_1:=λv d _=>d.pl=true->Is K F v d.py) (motive_2:=λvs ds _=>D.pls ds=true->Iss K F vs (D.pys ds)) (motive_3:=λ_ _ _=>True) (λ_=>.non) (λb _=>.bl b) (λi _=>.int i) (λl ok _=>.str _ ok) (λq _ ih p=>.lst q (ih p)) (λq _ ih p=>.tup q (ih p)) (λ_ _ _ p=>by simp[D.pl] at p) (λ_ p=>by simp[D.pl] at p) (λ_=>.nil)
   (λ_ _ a b p=>by simp only[D.pls,lab] at p;exact .cons (a p.1) (b p.2)) trivial (λ_ _ _ _ _=>trivial) h
theorem Dt.is {v:V}{d:D}(h:Dt K cl F v d)(p:d.pl=true):Is K F v d.py:=Dt.iss.1 h p
def HO.mu:HO->Bool
 | .tup _=>false
 | .frz _ _=>false
 | _=>true
structure Gr (F H F' H':Hp):Prop where
 ff:Same F F'
 hh:Same H H'
 fh:Same F' H'
 no:∀b o,H b=some o->o.mu=true->F b=none->F' b=none
theorem Gr.refl (h:Same F H):Gr F H F H:=⟨Same.refl _,Same.refl _,h,λ_ _ _ _ q=>q⟩
theorem Gr.trans {F1 H1 F2 H2 F3 H3:Hp}(a:Gr F1 H1 F2 H2)(b:Gr F2 H2 F3 H3):Gr F1 H1 F3 H3 :=
 ⟨a.ff.trans b.ff,a.hh.trans b.hh,b.fh,λc o hc m q=>b.no c o (a.hh c o hc) m (a.no c o hc m q)⟩
theorem zfD {H1 H2:Hp}{p:Addr}{o:HO}(h:Same H1 H2):Same (upd H1 p o) (upd H2 p o):=λb u e=>by
 by_cases hb:b=p
 ·subst hb;rw[zW] at e ⊢;exact e
 ·rw[zP hb] at e ⊢;exact h b u e
theorem Gr.new {p:Addr}{o:HO}(h:Same F H)(hp:H p=none):Gr F H (upd F p o) (upd H p o) :=
 ⟨Same.upd (h.free hp),Same.upd hp,zfD h,λb o hb m q=>by
  have hne:b≠p:=λz=>by rw[z,hp] at hb;cases hb
  rw[zP hne];exact q⟩
theorem Gr.newO {p:Addr}{o:HO}(h:Same F H)(hp:H p=none):Gr F H F (upd H p o) :=
 ⟨Same.refl _,Same.upd hp,h.trans (Same.upd hp),λ_ _ _ _ q=>q⟩
def Sl.own:Sl->Bool
 | .ow _=>true
 | .od _=>true
 | _=>false
theorem Gr.tup {K:PySem.W.Frag}{cl:Nat->Addr}{p:Addr}{vs:List V}{ds:List D}(h:Same F H)(s:Same H H')(q:SqT K H' p vs)(d:Dts K cl F vs ds):∃F',Gr F H F' H'/\Dt K cl F' (.ref p) (.tup ds):=by
 have s2:Same F H':=h.trans s
 have add:∀o:HO,H' p=some o->o.mu=false->Gr F H (λb=>if b=p then H' b else F b) H'/\Same F (λb=>if b=p then H' b else F b):=λo e m=>by
  have ff:Same F (λb=>if b=p then H' b else F b):=λb u e'=>by
   show(if b=p then H' b else F b)=some u
   split
   ·exact s2 b u e'
   ·exact e'
  refine⟨⟨ff,s,λb u e'=>?_,λb u hb m' q'=>?_⟩,ff⟩
  ·have e2:(if b=p then H' b else F b)=some u:=e'
   split at e2
   ·exact e2
   ·exact s2 b u e2
  ·show (if b=p then H' b else F b)=none
   split
   ·rename_i w
    subst w
    rw[s b u hb] at e
    injection e with e
    rw[e,m] at m'
    cases m'
   ·exact q'
 rcases q with(e|⟨u,e⟩)|q
 ·obtain⟨g,ff⟩:=add _ e rfl
  exact⟨_,g,.tup (.inl (.inl (by show(if p=p then H' p else F p)=_;rw[lH rfl];exact e))) (d.mono ff)⟩
 ·obtain⟨g,ff⟩:=add _ e rfl
  exact⟨_,g,.tup (.inl (.inr ⟨u,by show(if p=p then H' p else F p)=_;rw[lH rfl];exact e⟩)) (d.mono ff)⟩
 ·exact⟨F,⟨Same.refl _,s,s2,λ_ _ _ _ z=>z⟩,.tup (.inr q) d⟩
structure Rl (K:PySem.W.Frag)(cl:Nat->Addr)(H0 F0:Hp)(ρ:Rho)(σ:St)(H F:Hp):Prop where
 gr:Gr F0 H0 F H
 len:ρ.length=σ.length
 fz:∀(i:Nat) d,ρ[i]? = some (.fz d)->∃v,σ[i]? = some (some v)/\Dt K cl F v d
 ow:∀(i:Nat) ds,ρ[i]? = some (.ow ds)->∃a vs,σ[i]? = some (some (.ref a))/\H a=some (.lst vs)/\F a=none/\H0 a=none/\Dts K cl F vs ds
 od:∀(i:Nat) ds,ρ[i]? = some (.od ds)->∃a vs,σ[i]? = some (some (.ref a))/\H a=some (.dK vs)/\F a=none/\H0 a=none/\Dks K cl F vs ds
 ap:∀(i j:Nat) s t a,ρ[i]? = some s->ρ[j]? = some t->s.own=true->t.own=true->σ[i]? = some (some (.ref a))->σ[j]? = some (some (.ref a))->i=j
theorem Rl.grow {H0 F0:Hp}{ρ:Rho}{σ:St}(R:Rl K cl H0 F0 ρ σ H F)(g:Gr F H F' H'):Rl K cl H0 F0 ρ σ H' F' where
 gr:=R.gr.trans g
 len:=R.len
 fz:=λi d e=>let ⟨v,h1,h2⟩:=R.fz i d e;⟨v,h1,h2.mono g.ff⟩
 ow:=λi d e=>let ⟨a,vs,h1,h2,h3,h4,h5⟩:=R.ow i d e;⟨a,vs,h1,g.hh _ _ h2,g.no a _ h2 rfl h3,h4,h5.mono g.ff⟩
 od:=λi d e=>let ⟨a,vs,h1,h2,h3,h4,h5⟩:=R.od i d e;⟨a,vs,h1,g.hh _ _ h2,g.no a _ h2 rfl h3,h4,h5.mono g.ff⟩
 ap:=R.ap
theorem Rl.fh {H0 F0:Hp}{ρ:Rho}{σ:St}(R:Rl K cl H0 F0 ρ σ H F):Same F H:=R.gr.fh
theorem get_set {α:Type}{l:List α}{i j:Nat}{x y:α}(h:(l.set i x)[j]? = some y):(i=j/\y=x/\i<l.length)∨(i≠j/\l[j]? = some y):=by
 by_cases e:i=j
 ·subst e
  rw[List.getElem?_set_self'] at h
  cases q:l[i]? with
  | none=>rw[q] at h;cases h
  | some z =>
   rw[q] at h
   exact .inl ⟨rfl,(lg h).symm,(lv.mp q).1⟩
 ·rw[ly e] at h
  exact .inr ⟨e,h⟩
theorem uQ {α:Type}{l:List α}{i:Nat}{x:α}(h:i<l.length):(l.set i x)[i]? = some x:=by rw[lch h]
theorem Rl.set {H0 F0:Hp}{ρ:Rho}{σ:St}{i:Nat}{v:V}{d:D}(R:Rl K cl H0 F0 ρ σ H F)(h:Dt K cl F v d):Rl K cl H0 F0 (ρ.set i (.fz d)) (σ.set i (some v)) H F where
 gr:=R.gr
 len:=by simp[R.len]
 fz := λj e z=>by
  rcases get_set z with⟨rfl,q,hl⟩|⟨hj,q⟩
  ·injection q with q;subst q
   exact⟨v,uQ (R.len▸hl),h⟩
  ·rw[ly hj];exact R.fz j e q
 ow:=λj e z=>by
  rcases get_set z with⟨rfl,q,hl⟩|⟨hj,q⟩
  ·cases q
  ·rw[ly hj];exact R.ow j e q
 od:=λj e z=>by
  rcases get_set z with⟨rfl,q,hl⟩|⟨hj,q⟩
  ·cases q
  ·rw[ly hj];exact R.od j e q
 ap := λj k s t a z1 z2 o1 o2 e1 e2=>by
  rcases get_set z1 with⟨rfl,q,hl⟩|⟨hj,q⟩
  ·subst q;cases o1
  ·rcases get_set z2 with⟨rfl,q2,hl⟩|⟨hk,q2⟩
   ·subst q2;cases o2
   ·rw[ly hj] at e1;rw[ly hk] at e2
    exact R.ap j k s t a q q2 o1 o2 e1 e2
theorem Rl.apart {H0 F0:Hp}{ρ:Rho}{σ:St}(R:Rl K cl H0 F0 ρ σ H F){j:Nat}{s:Sl}{a:Addr}(e:ρ[j]? = some s)(o:s.own=true)(z:σ[j]? = some (some (.ref a))):H a≠none:=by
 cases s with
 | ow ds =>
  obtain⟨b,vs,h1,h2,_⟩:=R.ow j ds e
  rw[z] at h1
  injection h1 with h1;injection h1 with h1;injection h1 with h1
  rw[h1,h2];exact λz=>nomatch z
 | od ds =>
  obtain⟨b,vs,h1,h2,_⟩:=R.od j ds e
  rw[z] at h1
  injection h1 with h1;injection h1 with h1;injection h1 with h1
  rw[h1,h2];exact λz=>nomatch z
 | _=>cases o
theorem Rl.setO {H0 F0:Hp}{ρ:Rho}{σ:St}{i:Nat}{p:Addr}{vs:List V}{ds:List D}(R:Rl K cl H0 F0 ρ σ H F)(hp:H p=none)(h:Dts K cl F vs ds):Rl K cl H0 F0 (ρ.set i (.ow ds)) (σ.set i (some (.ref p))) (upd H p (.lst vs)) F where
 gr:=R.gr.trans (Gr.newO R.fh hp)
 len:=by simp[R.len]
 fz:=λj e z=>by
  rcases get_set z with⟨rfl,q,hl⟩|⟨hj,q⟩
  ·cases q
  ·rw[ly hj];exact R.fz j e q
 ow := λj e z=>by
  rcases get_set z with⟨rfl,q,hl⟩|⟨hj,q⟩
  ·injection q with q;subst q
   exact⟨p,vs,uQ (R.len▸hl),zW,R.fh.free hp,R.gr.hh.free hp,h⟩
  ·rw[ly hj]
   obtain⟨a,us,h1,h2,h3⟩:=R.ow j e q
   exact⟨a,us,h1,by rw[zP (λw=>by rw[w,hp] at h2;cases h2)];exact h2,h3⟩
 od := λj e z=>by
  rcases get_set z with⟨rfl,q,hl⟩|⟨hj,q⟩
  ·cases q
  ·rw[ly hj]
   obtain⟨a,us,h1,h2,h3⟩:=R.od j e q
   exact⟨a,us,h1,by rw[zP (λw=>by rw[w,hp] at h2;cases h2)];exact h2,h3⟩
 ap := λj k s t a z1 z2 o1 o2 e1 e2=>by
  rcases get_set z1 with⟨rfl,q,hl⟩|⟨hj,q⟩
  ·rcases get_set z2 with⟨rfl,q2,hl2⟩|⟨hk,q2⟩
   ·rfl
   ·rw[uQ (R.len▸hl)] at e1;rw[ly hk] at e2
    injection e1 with e1;injection e1 with e1;injection e1 with e1
    exact absurd (e1▸hp) (R.apart q2 o2 e2)
  ·rcases get_set z2 with⟨rfl,q2,hl2⟩|⟨hk,q2⟩
   ·rw[uQ (R.len▸hl2)] at e2;rw[ly hj] at e1
    injection e2 with e2;injection e2 with e2;injection e2 with e2
    exact absurd (e2▸hp) (R.apart q o1 e1)
   ·rw[ly hj] at e1;rw[ly hk] at e2
    exact R.ap j k s t a q q2 o1 o2 e1 e2
theorem Rl.put {H0 F0:Hp}{ρ:Rho}{σ:St}{i:Nat}{a:Addr}{us:List V}{ds es:List D}(R:Rl K cl H0 F0 ρ σ H F)(hi:ρ[i]? = some (.ow ds))(hs:σ[i]? = some (some (.ref a)))(h:Dts K cl F us es):Rl K cl H0 F0 (ρ.set i (.ow es)) σ (upd H a (.lst us)) F:=by
 obtain⟨b,ws,h1,h2,h3,h4,_⟩:=R.ow i ds hi
 rw[hs] at h1
 injection h1 with h1;injection h1 with h1;injection h1 with h1
 subst h1
 have far:∀(j:Nat) (s:Sl) (c:Addr),j≠i->ρ[j]? = some s->s.own=true->σ[j]? = some (some (.ref c))->c≠a:=λj s c hj e o z w=>hj (R.ap j i s _ a e hi o rfl (w▸z) hs)
 refine⟨⟨R.gr.ff,λc o e=>?_,λc o e=>?_,R.gr.no⟩,by simp[R.len],λj e z=>?_,λj e z=>?_,λj e z=>?_,λj k s t c z1 z2 o1 o2 e1 e2=>?_⟩
 ·rw[zP (λw=>by rw[w,h4] at e;cases e)];exact R.gr.hh c o e
 ·rw[zP (λw=>by rw[w,h3] at e;cases e)];exact R.fh c o e
 ·rcases get_set z with⟨rfl,q,hl⟩|⟨hj,q⟩
  ·cases q
  ·exact R.fz j e q
 ·rcases get_set z with⟨rfl,q,hl⟩|⟨hj,q⟩
  ·injection q with q;subst q
   exact⟨a,us,hs,zW,h3,h4,h⟩
  ·obtain⟨c,xs,k1,k2,k3⟩:=R.ow j e q
   exact⟨c,xs,k1,by rw[zP (far j _ c (lbb hj) q rfl k1)];exact k2,k3⟩
 ·rcases get_set z with⟨rfl,q,hl⟩|⟨hj,q⟩
  ·cases q
  ·obtain⟨c,xs,k1,k2,k3⟩:=R.od j e q
   exact⟨c,xs,k1,by rw[zP (far j _ c (lbb hj) q rfl k1)];exact k2,k3⟩
 ·have own:∀(j:Nat) (s:Sl),(ρ.set i (.ow es))[j]? = some s->s.own=true->∃s',ρ[j]? = some s'/\s'.own=true:=λj s z o=>by
   rcases get_set z with⟨rfl,q,hl⟩|⟨hj,q⟩
   ·exact⟨_,hi,rfl⟩
   ·exact⟨s,q,o⟩
  obtain⟨s',q1,p1⟩:=own j s z1 o1
  obtain⟨t',q2,p2⟩:=own k t z2 o2
  exact R.ap j k s' t' c q1 q2 p1 p2 e1 e2
theorem Rl.ice {H0 F0:Hp}{ρ:Rho}{σ:St}{i:Nat}{ds:List D}(R:Rl K cl H0 F0 ρ σ H F)(hi:ρ[i]? = some (.ow ds)):∃F',Same F F'/\Rl K cl H0 F0 (ρ.set i (.fz (.lst ds))) σ H F':=by
 obtain⟨a,vs,h1,h2,h3,h4,h5⟩:=R.ow i ds hi
 have sm:Same F (upd F a (.lst vs)):=Same.upd h3
 have far:∀(j:Nat) (s:Sl) (c:Addr),j≠i->ρ[j]? = some s->s.own=true->σ[j]? = some (some (.ref c))->c≠a:=λj s c hj e o z w=>hj (R.ap j i s _ a e hi o rfl (w▸z) h1)
 refine⟨upd F a (.lst vs),sm,⟨⟨R.gr.ff.trans sm,R.gr.hh,λc o e=>?_,λc o hc m q=>?_⟩,by simp[R.len],λj e z=>?_,λj e z=>?_,λj e z=>?_,λj k s t c z1 z2 o1 o2 e1 e2=>?_⟩⟩
 ·by_cases w:c=a
  ·subst w;rw[zW] at e;rw[← e];exact h2
  ·rw[zP w] at e;exact R.fh c o e
 ·have hne:c≠a:=λw=>by rw[w,h4] at hc;cases hc
  rw[zP hne];exact R.gr.no c o hc m q
 ·rcases get_set z with⟨rfl,q,hl⟩|⟨hj,q⟩
  ·injection q with q;subst q
   exact⟨.ref a,h1,.lst (.inl (.inl zW)) (h5.mono sm)⟩
  ·obtain⟨v,k1,k2⟩:=R.fz j e q
   exact⟨v,k1,k2.mono sm⟩
 ·rcases get_set z with⟨rfl,q,hl⟩|⟨hj,q⟩
  ·cases q
  ·obtain⟨c,xs,k1,k2,k3,k4,k5⟩:=R.ow j e q
   exact⟨c,xs,k1,k2,by rw[zP (far j _ c (lbb hj) q rfl k1)];exact k3,k4,k5.mono sm⟩
 ·rcases get_set z with⟨rfl,q,hl⟩|⟨hj,q⟩
  ·cases q
  ·obtain⟨c,xs,k1,k2,k3,k4,k5⟩:=R.od j e q
   exact⟨c,xs,k1,k2,by rw[zP (far j _ c (lbb hj) q rfl k1)];exact k3,k4,k5.mono sm⟩
 ·rcases get_set z1 with⟨rfl,q,hl⟩|⟨hj,q⟩
  ·subst q;cases o1
  ·rcases get_set z2 with⟨rfl,q2,hl⟩|⟨hk,q2⟩
   ·subst q2;cases o2
   ·exact R.ap j k s t c q q2 o1 o2 e1 e2
end
def OutE (K:PySem.W.Frag)(cl:Nat->Addr)(E:XK)(H0 F H:Hp)(r:Rs D)(Q:VK):Prop :=
 match r with
 | .ok d=>∀v H' F',Gr F H F' H'->Dt K cl F' v d->Q v H'
 | .ex n=>∀H',Same H0 H'->E (.ref (cl n)) none H'
 | .no=>False
def OutA (K:PySem.W.Frag)(cl:Nat->Addr)(E:XK)(H0 F H:Hp)(r:Rs (List D))(Q:List V->Hp->Prop):Prop :=
 match r with
 | .ok ds=>∀vs H' F',Gr F H F' H'->Dts K cl F' vs ds->Q vs H'
 | .ex n=>∀H',Same H0 H'->E (.ref (cl n)) none H'
 | .no=>False
def OutB (K:PySem.W.Frag)(cl:Nat->Addr)(E:XK)(H0 F H:Hp)(r:Rs Bool)(Q:Bool->Hp->Prop):Prop :=
 match r with
 | .ok b=>∀H' F',Gr F H F' H'->Q b H'
 | .ex n=>∀H',Same H0 H'->E (.ref (cl n)) none H'
 | .no=>False
def OutS (K:PySem.W.Frag)(cl:Nat->Addr)(E:XK)(H0 F0 F:Hp)(o:Out)(Dn:Ends):Prop :=
 match o with
 | .nx ρ=>∀σ H F',Rl K cl H0 F0 ρ σ H F'->Same F F'->Dn.nx σ H
 | .rt d=>∀v H F',Gr F0 H0 F' H->Dt K cl F' v d->Dn.rt v H
 | .bk ρ=>∀σ H F',Rl K cl H0 F0 ρ σ H F'->Same F F'->Dn.bk σ H
 | .ct ρ=>∀σ H F',Rl K cl H0 F0 ρ σ H F'->Same F F'->Dn.ct σ H
 | .ex n=>∀H',Same H0 H'->E (.ref (cl n)) none H'
 | .no=>False
def XE' (X:Cx)(cl:Nat->Addr)(E:XK)(e:Expr)(f:Rho->Rs D):Prop :=
 ∃t:TE,PE X e t/\∀(H0 F0:Hp) (ρ:Rho) (σ:St) (H F:Hp) (Q:VK),Rl X.K cl H0 F0 ρ σ H F->OutE X.K cl E H0 F H (f ρ) Q->t σ H Q
def XA' (X:Cx)(cl:Nat->Addr)(E:XK)(es:List Expr)(f:Rho->Rs (List D)):Prop :=
 ∃t:TA,PA X es t/\∀(H0 F0:Hp) (ρ:Rho) (σ:St) (H F:Hp) (Q:List V->Hp->Prop),Rl X.K cl H0 F0 ρ σ H F->OutA X.K cl E H0 F H (f ρ) Q->t σ H Q
def XT' (X:Cx)(cl:Nat->Addr)(E:XK)(e:Expr)(f:Rho->Rs Bool):Prop :=
 ∃t:TT,PT X e t/\∀(H0 F0:Hp) (ρ:Rho) (σ:St) (H F:Hp) (Q:Bool->Hp->Prop),Rl X.K cl H0 F0 ρ σ H F->OutB X.K cl E H0 F H (f ρ) Q->t σ H Q
def XW' (X:Cx)(cl:Nat->Addr)(E:XK)(e:Expr)(f:Rho->Rs Bool):Prop :=
 ∃t:TT,PW X e t/\∀(H0 F0:Hp) (ρ:Rho) (σ:St) (H F:Hp) (Q:Bool->Hp->Prop),Rl X.K cl H0 F0 ρ σ H F->OutB X.K cl E H0 F H (f ρ) Q->t σ H Q
def XO' (X:Cx)(cl:Nat->Addr)(E:XK)(e:Option Expr)(f:Rho->Rs (Option Int)):Prop :=
 ∃ t:TO,PO X e t/\∀(H0 F0:Hp) (ρ:Rho) (σ:St) (H F:Hp) (Q:Option Int->Hp->Prop),Rl X.K cl H0 F0 ρ σ H F ->
  (match f ρ with | .ok o=>∀H' F',Gr F H F' H'->Q o H' | .ex n=>∀H',Same H0 H'->E (.ref (cl n)) none H' | .no=>False)->t σ H Q
def tDE (K:PySem.W.Frag)(cl:Nat->Addr)(E:XK)(f:Rho->Rs D):TE:=λσ H Q=>∃H0 F0 ρ F,Rl K cl H0 F0 ρ σ H F/\OutE K cl E H0 F H (f ρ) Q
def tDA (K:PySem.W.Frag)(cl:Nat->Addr)(E:XK)(f:Rho->Rs (List D)):TA:=λσ H Q=>∃H0 F0 ρ F,Rl K cl H0 F0 ρ σ H F/\OutA K cl E H0 F H (f ρ) Q
def tDB (K:PySem.W.Frag)(cl:Nat->Addr)(E:XK)(f:Rho->Rs Bool):TT:=λσ H Q=>∃H0 F0 ρ F,Rl K cl H0 F0 ρ σ H F/\OutB K cl E H0 F H (f ρ) Q
def XE (X:Cx)(cl:Nat->Addr)(E:XK)(e:Expr)(f:Rho->Rs D):Prop:=PE X e (tDE X.K cl E f)
def XA (X:Cx)(cl:Nat->Addr)(E:XK)(es:List Expr)(f:Rho->Rs (List D)):Prop:=PA X es (tDA X.K cl E f)
def XT (X:Cx)(cl:Nat->Addr)(E:XK)(e:Expr)(f:Rho->Rs Bool):Prop:=PT X e (tDB X.K cl E f)
def XW (X:Cx)(cl:Nat->Addr)(E:XK)(e:Expr)(f:Rho->Rs Bool):Prop:=PW X e (tDB X.K cl E f)
section
variable {X:Cx}{cl:Nat->Addr}{E:XK}
theorem XE.ex {e:Expr}{f:Rho->Rs D}(h:XE X cl E e f):XE' X cl E e f:=⟨_,h,λH0 F0 ρ σ H F Q R o=>⟨H0,F0,ρ,F,R,o⟩⟩
theorem XA.ex {e:List Expr}{f:Rho->Rs (List D)}(h:XA X cl E e f):XA' X cl E e f:=⟨_,h,λH0 F0 ρ σ H F Q R o=>⟨H0,F0,ρ,F,R,o⟩⟩
theorem XT.ex {e:Expr}{f:Rho->Rs Bool}(h:XT X cl E e f):XT' X cl E e f:=⟨_,h,λH0 F0 ρ σ H F Q R o=>⟨H0,F0,ρ,F,R,o⟩⟩
theorem XW.ex {e:Expr}{f:Rho->Rs Bool}(h:XW X cl E e f):XW' X cl E e f:=⟨_,h,λH0 F0 ρ σ H F Q R o=>⟨H0,F0,ρ,F,R,o⟩⟩
theorem XE'.out {e:Expr}{f:Rho->Rs D}(h:XE' X cl E e f):XE X cl E e f:=let ⟨_,pt,rt⟩:=h;λpins s σ H Q I ⟨H0,F0,ρ,F,R,o⟩=>pt pins s σ H Q I (rt H0 F0 ρ σ H F Q R o)
theorem XA'.out {e:List Expr}{f:Rho->Rs (List D)}(h:XA' X cl E e f):XA X cl E e f:=let ⟨_,pt,rt⟩:=h;λpos pins s σ H Q I ⟨H0,F0,ρ,F,R,o⟩=>pt pos pins s σ H Q I (rt H0 F0 ρ σ H F Q R o)
theorem XT'.out {e:Expr}{f:Rho->Rs Bool}(h:XT' X cl E e f):XT X cl E e f:=let ⟨_,pt,rt⟩:=h;λpins s σ H Q I ⟨H0,F0,ρ,F,R,o⟩=>pt pins s σ H Q I (rt H0 F0 ρ σ H F Q R o)
theorem XW'.out {e:Expr}{f:Rho->Rs Bool}(h:XW' X cl E e f):XW X cl E e f:=let ⟨_,pt,rt⟩:=h;λwhole pins s σ H Q I ⟨H0,F0,ρ,F,R,o⟩=>pt whole pins s σ H Q I (rt H0 F0 ρ σ H F Q R o)
end
def fC (d:D):Rho->Rs D:=λ_=>.ok d
def fNm (i:Nat):Rho->Rs D:=λρ=>match ρ[i]? with|some (.fz d)=>.ok d|_=>.no
def lf:Option D->Rs D
 | some d=>.ok d
 | none=>.no
def f1 (g:D->Option D)(fa:Rho->Rs D):Rho->Rs D:=λρ=>(fa ρ).bind λa=>lf (g a)
def f2 (g:D->D->Option D)(fa fb:Rho->Rs D):Rho->Rs D:=λρ=>(fa ρ).bind λa=>(fb ρ).bind λb=>lf (g a b)
def zG:Rho->Rs (List D):=λ_=>.ok []
def zj (fa:Rho->Rs D)(fs:Rho->Rs (List D)):Rho->Rs (List D):=λρ=>(fa ρ).bind λa=>(fs ρ).bind λas=>.ok (a::as)
def fO (g:List D->Option D)(fs:Rho->Rs (List D)):Rho->Rs D:=λρ=>(fs ρ).bind λas=>lf (g as)
def fA (g:List D->Rs D)(fs:Rho->Rs (List D)):Rho->Rs D:=λρ=>(fs ρ).bind g
def fIf (ft:Rho->Rs Bool)(fa fb:Rho->Rs D):Rho->Rs D:=λρ=>(ft ρ).bind λb=>if b=true then fa ρ else fb ρ
def tru:D->Rs Bool
 | .bl b=>.ok b
 | _=>.no
def bT (fa:Rho->Rs D):Rho->Rs Bool:=λρ=>(fa ρ).bind tru
def zaL (ft:Rho->Rs Bool):Rho->Rs Bool:=λρ=>(ft ρ).bind λb=>.ok (!b)
def zgD (fa fb:Rho->Rs Bool):Rho->Rs Bool:=λρ=>(fa ρ).bind λb=>if b=true then fb ρ else .ok false
def bOr (fa fb:Rho->Rs Bool):Rho->Rs Bool:=λρ=>(fa ρ).bind λb=>if b=true then .ok true else fb ρ
def zbm (fa fb:Rho->Rs D):Rho->Rs D:=λρ=>(fa ρ).bind λa=>(tru a).bind λb=>if b=true then fb ρ else .ok (.bl false)
def fOr (fa fb:Rho->Rs D):Rho->Rs D:=λρ=>(fa ρ).bind λa=>(tru a).bind λb=>if b=true then .ok (.bl true) else fb ρ
def zdp (fa:Rho->Rs D):Rho->Rs D:=λρ=>(fa ρ).bind λa=>(tru a).bind λb=>.ok (.bl (!b))
section
variable {K:PySem.W.Frag}{cl:Nat->Addr}{E:XK}{H0 F0 F H F1 H1:Hp}{ρ:Rho}{σ:St}
theorem OutE.grow {r:Rs D}{Q:VK}(h:OutE K cl E H0 F H r Q)(g:Gr F H F1 H1):OutE K cl E H0 F1 H1 r Q:=by
 cases r with
 | ok d=>exact λv H' F' g' q=>h v H' F' (g.trans g') q
 | ex n=>exact h
 | no=>exact h
theorem OutA.grow {r:Rs (List D)}{Q:List V->Hp->Prop}(h:OutA K cl E H0 F H r Q)(g:Gr F H F1 H1):OutA K cl E H0 F1 H1 r Q:=by
 cases r with
 | ok d=>exact λv H' F' g' q=>h v H' F' (g.trans g') q
 | ex n=>exact h
 | no=>exact h
theorem OutB.grow {r:Rs Bool}{Q:Bool->Hp->Prop}(h:OutB K cl E H0 F H r Q)(g:Gr F H F1 H1):OutB K cl E H0 F1 H1 r Q:=by
 cases r with
 | ok d=>exact λH' F' g'=>h H' F' (g.trans g')
 | ex n=>exact h
 | no=>exact h
theorem OutE.fst {r:Rs D}{g:D->Rs D}{Q P:VK}(h:OutE K cl E H0 F H (r.bind g) Q)(k:∀d v H1 F1,Gr F H F1 H1->Dt K cl F1 v d->OutE K cl E H0 F1 H1 (g d) Q->P v H1):OutE K cl E H0 F H r P:=by
 cases r with
 | ok d=>exact λv H' F' g' q=>k d v H' F' g' q (h.grow g')
 | ex n=>exact h
 | no=>exact h
theorem OutE.fstA {r:Rs D}{g:D->Rs (List D)}{Q:List V->Hp->Prop}{P:VK}(h:OutA K cl E H0 F H (r.bind g) Q)(k:∀d v H1 F1,Gr F H F1 H1->Dt K cl F1 v d->OutA K cl E H0 F1 H1 (g d) Q->P v H1):OutE K cl E H0 F H r P:=by
 cases r with
 | ok d=>exact λv H' F' g' q=>k d v H' F' g' q (h.grow g')
 | ex n=>exact h
 | no=>exact h
theorem OutA.fst {r:Rs (List D)}{g:List D->Rs D}{Q:VK}{P:List V->Hp->Prop}(h:OutE K cl E H0 F H (r.bind g) Q)(k:∀d v H1 F1,Gr F H F1 H1->Dts K cl F1 v d->OutE K cl E H0 F1 H1 (g d) Q->P v H1):OutA K cl E H0 F H r P:=by
 cases r with
 | ok d=>exact λv H' F' g' q=>k d v H' F' g' q (h.grow g')
 | ex n=>exact h
 | no=>exact h
theorem OutA.fstA {r:Rs (List D)}{g:List D->Rs (List D)}{Q P:List V->Hp->Prop}(h:OutA K cl E H0 F H (r.bind g) Q)(k:∀d v H1 F1,Gr F H F1 H1->Dts K cl F1 v d->OutA K cl E H0 F1 H1 (g d) Q->P v H1):OutA K cl E H0 F H r P:=by
 cases r with
 | ok d=>exact λv H' F' g' q=>k d v H' F' g' q (h.grow g')
 | ex n=>exact h
 | no=>exact h
theorem OutE.fstB {r:Rs D}{g:D->Rs Bool}{Q:Bool->Hp->Prop}{P:VK}(h:OutB K cl E H0 F H (r.bind g) Q)(k:∀d v H1 F1,Gr F H F1 H1->Dt K cl F1 v d->OutB K cl E H0 F1 H1 (g d) Q->P v H1):OutE K cl E H0 F H r P:=by
 cases r with
 | ok d=>exact λv H' F' g' q=>k d v H' F' g' q (h.grow g')
 | ex n=>exact h
 | no=>exact h
theorem OutB.fstB {r:Rs Bool}{g:Bool->Rs Bool}{Q P:Bool->Hp->Prop}(h:OutB K cl E H0 F H (r.bind g) Q)(k:∀b H1 F1,Gr F H F1 H1->OutB K cl E H0 F1 H1 (g b) Q->P b H1):OutB K cl E H0 F H r P:=by
 cases r with
 | ok d=>exact λH' F' g'=>k d H' F' g' (h.grow g')
 | ex n=>exact h
 | no=>exact h
theorem OutE.okI {d:D}{v:V}{Q:VK}(h:OutE K cl E H0 F H (.ok d) Q)(s:Same F H)(q:Dt K cl F v d):Q v H:=h v H F (Gr.refl s) q
theorem zcH {v:V}{d:D}{b:Bool}(q:Dt K cl F v d)(h:tru d=.ok b):v=.bl b:=by
 cases q <;>simp[tru] at h
 subst h;rfl
end
section
variable {X:Cx}{cl:Nat->Addr}{E:XK}{a b:Expr}{fa fb fc:Rho->Rs D}{pos:Pos}
theorem zfx {e:Expr}{v:V}{d:D}(h:PE X e (tC v))(q:∀F,Dt X.K cl F v d):XE X cl E e (fC d):=XE'.out ⟨_,h,λH0 F0 ρ σ H F Q R o=>o.okI R.fh (q F)⟩
theorem zJ {i j pos}:XE X cl E (.Constant (.int i) j pos) (fC (.int i)):=zfx zmE λ_=>.int i
theorem zcc {b j pos}:XE X cl E (.Constant (.bool b) j pos) (fC (.bl b)):=zfx zok λ_=>.bl b
theorem zjT {j pos}:XE X cl E (.Constant .none j pos) (fC .non):=zfx zme λ_=>.non
theorem qQ {x:Str}{j pos}{l:List Nat}(h:x=T l)(ok:TxtOk (T l)):XE X cl E (.Constant (.str x) j pos) (fC (.str l)):=by subst h;exact zfx znv λ_=>.str l ok
theorem zm (i:Nat){e:Expr}(h:PE X e (ziy i)):XE X cl E e (fNm i):=XE'.out ⟨_,h,λH0 F0 ρ σ H F Q R o=>by
 unfold fNm at o
 split at o
 ·rename_i d e
  obtain⟨v,h1,h2⟩:=R.fz i d e
  exact⟨v,h1,o.okI R.fh h2⟩
 ·exact o.elim⟩
theorem zx:XA X cl E [] zG:=XA'.out ⟨_,qO,λH0 F0 ρ σ H F Q R o=>o [] H F (Gr.refl R.fh) .nil⟩
theorem zf {e:Expr}{es:List Expr}{fs:Rho->Rs (List D)}(ha:XE X cl E e fa)(hr:XA X cl E es fs)(hs:starEach (e::es) X.env=(false,eval e X.env)::starEach es X.env):XA X cl E (e::es) (zj fa fs):=by
 obtain⟨t,pt,rt⟩:=ha.ex
 obtain⟨u,pu,ru⟩:=hr.ex
 refine XA'.out ⟨_,xO pt pu hs,λH0 F0 ρ σ H F Q R o=>rt H0 F0 ρ σ H F _ R (OutE.fstA o λd v H1 F1 g q o1=>?_)⟩
 refine ru H0 F0 ρ σ H1 F1 _ (R.grow g) (OutA.fstA o1 λds vs H2 F2 g2 q2 o2=>?_)
 exact o2 (v::vs) H2 F2 (Gr.refl (R.grow (g.trans g2)).fh) (.cons (q.mono g2.ff) q2)
def Op2 (K:PySem.W.Frag)(cl:Nat->Addr)(r:R2)(g:D->D->Option D):Prop :=
 ∀(F H:Hp) (x y:V) (a b d:D) (Q:VK),Same F H->Dt K cl F x a->Dt K cl F y b->g a b=some d->(∀v H' F',Gr F H F' H'->Dt K cl F' v d->Q v H')->r x y H Q
theorem OutE.lf {K:PySem.W.Frag}{cl:Nat->Addr}{E:XK}{H0 F H:Hp}{o:Option D}{Q:VK}(h:OutE K cl E H0 F H (lf o) Q):∃d,o=some d/\∀v H' F',Gr F H F' H'->Dt K cl F' v d->Q v H':=by
 cases o with
 | none=>exact h.elim
 | some d=>exact⟨d,rfl,h⟩
theorem zZ {op:Operator}{r:R2}{g:D->D->Option D}(ho:OpR X (binaryOp op) r)(hg:Op2 X.K cl r g)(ha:XE X cl E a fa)(hb:XE X cl E b fb):XE X cl E (.BinOp a op b pos) (f2 g fa fb):=by
 obtain⟨t,pt,rt⟩:=ha.ex
 obtain⟨u,pu,ru⟩:=hb.ex
 refine XE'.out ⟨_,zlo ho pt pu,λH0 F0 ρ σ H F Q R o=>rt H0 F0 ρ σ H F _ R (OutE.fst o λd v H1 F1 g1 q o1=>?_)⟩
 refine ru H0 F0 ρ σ H1 F1 _ (R.grow g1) (OutE.fst o1 λe w H2 F2 g2 q2 o2=>?_)
 obtain⟨z,hz,k⟩:=o2.lf
 exact hg F2 H2 v w d e z _ (R.grow (g1.trans g2)).fh (q.mono g2.ff) q2 hz k
theorem zcn {op:CmpOp}{r:R2}{g:D->D->Option D}(ho:OpR X (compareOp op) r)(hg:Op2 X.K cl r g)(ha:XE X cl E a fa)(hb:XE X cl E b fb)(hm:behindInMarks op b=false):XE X cl E (.Compare a [op] [b] pos) (f2 g fa fb):=by
 obtain⟨t,pt,rt⟩:=ha.ex
 obtain⟨u,pu,ru⟩:=hb.ex
 refine XE'.out ⟨_,zkM ho pt pu hm,λH0 F0 ρ σ H F Q R o=>rt H0 F0 ρ σ H F _ R (OutE.fst o λd v H1 F1 g1 q o1=>?_)⟩
 refine ru H0 F0 ρ σ H1 F1 _ (R.grow g1) (OutE.fst o1 λe w H2 F2 g2 q2 o2=>?_)
 obtain⟨z,hz,k⟩:=o2.lf
 exact hg F2 H2 v w d e z _ (R.grow (g1.trans g2)).fh (q.mono g2.ff) q2 hz k
theorem zaY {op:CmpOp}{r:R2}{g:D->D->Option D}(ho:OpR X (compareOp op) r)(hg:Op2 X.K cl r g)(ha:XE X cl E a fa)(hb:XE X cl E b fb)(hm:behindInMarks op b=false):XT X cl E (.Compare a [op] [b] pos) (bT (f2 g fa fb)):=by
 obtain⟨t,pt,rt⟩:=ha.ex
 obtain⟨u,pu,ru⟩:=hb.ex
 refine XT'.out ⟨_,zlq ho pt pu hm,λH0 F0 ρ σ H F Q R o=>?_⟩
 have o':OutE X.K cl E H0 F H (f2 g fa fb ρ) λv H1=>∃k,v=.bl k/\Q k H1:=OutE.fstB o λd v H1 F1 g1 q o1=>by
  cases e:tru d with
  | ok b=>rw[e] at o1;exact⟨b,zcH q e,o1 H1 F1 (Gr.refl (R.grow g1).fh)⟩
  | ex n=>cases d <;>simp[tru] at e
  | no=>rw[e] at o1;exact o1.elim
 refine rt H0 F0 ρ σ H F _ R (OutE.fst o' λd v H1 F1 g1 q o1=>?_)
 refine ru H0 F0 ρ σ H1 F1 _ (R.grow g1) (OutE.fst o1 λe w H2 F2 g2 q2 o2=>?_)
 obtain⟨z,hz,k⟩:=o2.lf
 exact hg F2 H2 v w d e z _ (R.grow (g1.trans g2)).fh (q.mono g2.ff) q2 hz k
theorem OutB.bT {ρ:Rho}{H0 F0 H F:Hp}{σ:St}{Q:Bool->Hp->Prop}(R:Rl X.K cl H0 F0 ρ σ H F)(o:OutB X.K cl E H0 F H (bT fa ρ) Q):OutE X.K cl E H0 F H (fa ρ) λv H1=>∃k,v=.bl k/\Q k H1:=OutE.fstB o λd v H1 F1 g1 q o1=>by
  cases e:tru d with
  | ok b=>rw[e] at o1;exact⟨b,zcH q e,o1 H1 F1 (Gr.refl (R.grow g1).fh)⟩
  | ex n=>cases d <;>simp[tru] at e
  | no=>rw[e] at o1;exact o1.elim
theorem ux {e:Expr}(h:XE X cl E e fa)(he:∀whole,isTrue e X.env whole=(do let v ← whole;standAt e.pos;holding [v] (truthy v)):=by intro _;rfl):XT X cl E e (bT fa):=by
 obtain⟨t,pt,rt⟩:=h.ex
 exact XT'.out ⟨_,zl1 pt he,λH0 F0 ρ σ H F Q R o=>rt H0 F0 ρ σ H F _ R (OutB.bT R o)⟩
theorem qP {ft:Rho->Rs Bool}(h:XT X cl E a ft):XT X cl E (.UnaryOp .Not a pos) (zaL ft):=by
 obtain⟨t,pt,rt⟩:=h.ex
 exact XT'.out ⟨_,zni pt,λH0 F0 ρ σ H F Q R o=>rt H0 F0 ρ σ H F _ R (OutB.fstB o λb H1 F1 g o1=>o1 H1 F1 (Gr.refl (R.grow g).fh))⟩
theorem zhz {ft:Rho->Rs Bool}(h:XT X cl E a ft):XW X cl E (.BoolOp .Or [a] pos) ft:=let ⟨t,pt,rt⟩:=h.ex;XW'.out ⟨t,zmd pt,rt⟩
theorem zjx {rest:List Expr}{ft fu:Rho->Rs Bool}(h:XT X cl E a ft)(k:XW X cl E (.BoolOp .Or (b::rest) pos) fu):XW X cl E (.BoolOp .Or (a::b::rest) pos) (bOr ft fu):=by
 obtain⟨t,pt,rt⟩:=h.ex
 obtain⟨u,pu,ru⟩:=k.ex
 refine XW'.out ⟨_,zof pt pu,λH0 F0 ρ σ H F Q R o=>rt H0 F0 ρ σ H F _ R (OutB.fstB o λb H1 F1 g o1=>?_)⟩
 cases b with
 | true=>exact o1 H1 F1 (Gr.refl (R.grow g).fh)
 | false=>exact ru H0 F0 ρ σ H1 F1 _ (R.grow g) o1
theorem XW.xt {e:Expr}{ft:Rho->Rs Bool}(h:XW X cl E e ft):XT X cl E e ft:=let ⟨t,pt,rt⟩:=h.ex;XT'.out ⟨t,pt.pt,rt⟩
def isN (neg:Bool):D->Option D
 | .non=>some (.bl (!neg))
 | _=>some (.bl neg)
theorem Dt.isnon {K:PySem.W.Frag}{F:Hp}{v:V}{d:D}(q:Dt K cl F v d):isN false d=some (.bl (decide (v=.non)))/\isN true d=some (.bl (!decide (v=.non))):=by cases q <;>exact⟨rfl,rfl⟩
theorem zm1 {j pos'}(h:XE X cl E a fa):XE X cl E (.Compare a [.Is] [.Constant .none j pos'] pos) (f1 (isN false) fa):=by
 obtain⟨t,pt,rt⟩:=h.ex
 refine XE'.out ⟨_,zmb (zmc pt),λH0 F0 ρ σ H F Q R o=>rt H0 F0 ρ σ H F _ R (OutE.fst o λd v H1 F1 g q o1=>?_)⟩
 rw[q.isnon.1] at o1
 exact o1.okI (R.grow g).fh (.bl _)
theorem zkH {j pos'}(h:XE X cl E a fa):XT X cl E (.Compare a [.IsNot] [.Constant .none j pos'] pos) (bT (f1 (isN true) fa)):=by
 obtain⟨t,pt,rt⟩:=h.ex
 refine XT'.out ⟨_,zl7 (zko pt),λH0 F0 ρ σ H F Q R o=>rt H0 F0 ρ σ H F _ R (OutE.fst (OutB.bT R o) λd v H1 F1 g q o1=>?_)⟩
 rw[q.isnon.2] at o1
 exact o1.okI (R.grow g).fh (.bl _)
theorem OutE.tru {H0 F H F1 H1:Hp}{d:D}{v:V}{g:Bool->Rs D}{Q:VK}(q:Dt X.K cl F v d)(o:OutE X.K cl E H0 F H ((tru d).bind g) Q):∃b,v=.bl b/\OutE X.K cl E H0 F H (g b) Q:=by
 cases e:L2.tru d with
 | ok b=>rw[e] at o;exact⟨b,zcH q e,o⟩
 | ex n=>cases d <;>simp[L2.tru] at e
 | no=>rw[e] at o;exact o.elim
theorem zaZ {op}(h:XE X cl E a fa):XE X cl E (.BoolOp op [a] pos) fa:=let ⟨t,pt,rt⟩:=h.ex;XE'.out ⟨t,zmf pt,rt⟩
theorem zbp {rest:List Expr}(ha:XE X cl E a fa)(hb:XE X cl E (.BoolOp .And (b::rest) pos) fb):XE X cl E (.BoolOp .And (a::b::rest) pos) (zbm fa fb):=by
 obtain⟨t,pt,rt⟩:=ha.ex
 obtain⟨u,pu,ru⟩:=hb.ex
 refine XE'.out ⟨_,zmh pt pu,λH0 F0 ρ σ H F Q R o=>rt H0 F0 ρ σ H F _ R (OutE.fst o λd v H1 F1 g q o1=>?_)⟩
 obtain⟨b,rfl,o2⟩:=OutE.tru (F1:=F1) (H1:=H1) q o1
 refine⟨b,rfl,?_⟩
 cases b with
 | true=>exact ru H0 F0 ρ σ H1 F1 _ (R.grow g) o2
 | false=>exact o2.okI (R.grow g).fh (.bl _)
theorem zoi {rest:List Expr}(ha:XE X cl E a fa)(hb:XE X cl E (.BoolOp .Or (b::rest) pos) fb):XE X cl E (.BoolOp .Or (a::b::rest) pos) (fOr fa fb):=by
 obtain⟨t,pt,rt⟩:=ha.ex
 obtain⟨u,pu,ru⟩:=hb.ex
 refine XE'.out ⟨_,zos pt pu,λH0 F0 ρ σ H F Q R o=>rt H0 F0 ρ σ H F _ R (OutE.fst o λd v H1 F1 g q o1=>?_)⟩
 obtain⟨b,rfl,o2⟩:=OutE.tru (F1:=F1) (H1:=H1) q o1
 refine⟨b,rfl,?_⟩
 cases b with
 | true=>exact o2.okI (R.grow g).fh (.bl _)
 | false=>exact ru H0 F0 ρ σ H1 F1 _ (R.grow g) o2
theorem zh6 (ha:XE X cl E a fa):XE X cl E (.UnaryOp .Not a pos) (zdp fa):=by
 obtain⟨t,pt,rt⟩:=ha.ex
 refine XE'.out ⟨_,zmU pt,λH0 F0 ρ σ H F Q R o=>rt H0 F0 ρ σ H F _ R (OutE.fst o λd v H1 F1 g q o1=>?_)⟩
 obtain⟨b,rfl,o2⟩:=OutE.tru (F1:=F1) (H1:=H1) q o1
 exact⟨b,rfl,o2.okI (R.grow g).fh (.bl _)⟩
def mkT (ds:List D):Option D:=if ds.length<=1000000 then some (.tup ds) else none
def mkL (ds:List D):Option D:=if ds.length<=1000000 then some (.lst ds) else none
theorem sz6 {n:Nat}(h:n<=1000000):n<=sizeLine:=by rw[laP];omega
theorem zcl {es:List Expr}{x1}{fs:Rho->Rs (List D)}(h:XA X cl E es fs):XE X cl E (.Tuple es x1 pos) (fO mkT fs):=by
 obtain⟨t,pt,rt⟩:=h.ex
 refine XE'.out ⟨_,zmO pt,λH0 F0 ρ σ H F Q R o=>rt H0 F0 ρ σ H F _ R (OutA.fst o λds vs H1 F1 g q o1=>?_)⟩
 unfold mkT at o1
 split at o1
 ·rename_i hl
  refine⟨sz6 (q.length▸hl),λp hp=>?_⟩
  have fh:=(R.grow g).fh
  exact o1 _ _ _ (Gr.new fh hp) (.tup (.inl (.inl zW)) (q.mono (Same.upd (fh.free hp))))
 ·exact o1.elim
theorem zdZ {es:List Expr}{fs:Rho->Rs (List D)}(h:XA X cl E es fs):XE X cl E (.List es pos) (fO mkL fs):=by
 obtain⟨t,pt,rt⟩:=h.ex
 refine XE'.out ⟨_,zjM pt,λH0 F0 ρ σ H F Q R o=>rt H0 F0 ρ σ H F _ R (OutA.fst o λds vs H1 F1 g q o1=>?_)⟩
 unfold mkL at o1
 split at o1
 ·rename_i hl
  refine⟨sz6 (q.length▸hl),λp hp=>?_⟩
  have fh:=(R.grow g).fh
  exact o1 _ _ _ (Gr.new fh hp) (.lst (.inl (.inl zW)) (q.mono (Same.upd (fh.free hp))))
 ·exact o1.elim
def spD (K:PySem.W.Frag)(cl:Nat->Addr)(fn:List D->Rs D)(n:Nat):Sp:=λvs H Q E=>∃F ds,Same F H/\Dts K cl F vs ds/\vs.length=n/\OutE K cl E H F H (fn ds) Q
def ari (n:Nat)(fn:List D->Rs D):List D->Rs D:=λds=>if ds.length=n then fn ds else .no
theorem zB {k:Nat}{f:Addr}{fd:FuncData}{ps:List Str}{fn:List D->Rs D}{n:Nat}{x:Str}{p:Pos}{e:Expr}{es:List Expr}{fs:Rho->Rs (List D)}(G:FnOk X.prog X.w X.K X.mg X.base (CX1 X.prog X.w) k f fd ps (spD X.K cl fn n))(hr:Room k X.A)(hg:Gl X x)(hm:X.mg x=some (.ref f))(hk:PySem.W.keepIn X.K (.ref f)=true)(hb:Binds X.K fd ps [])(hx:zcf (CX1 X.prog X.w) X E)
  (ha:XA X cl E (e::es) fs) (he:starEach (e::es) X.env=(false,eval e X.env)::starEach es X.env) (hdb:(x == ("__debug__" : Str))=false:=by decide) (hpl:(backTo pos (starEach es X.env)).any (·.1)=false:=by rfl):XE X cl E (.Call (.Name x p) (e::es) [] pos) (fA (ari n fn) fs):=by
 obtain⟨t,pt,rt⟩:=ha.ex
 refine XE'.out ⟨_,zg4 G hr hg hm hk hb .nil hx pt hdb he hpl,λH0 F0 ρ σ H F Q R o=>rt H0 F0 ρ σ H F _ R (OutA.fst o λds vs H1 F1 g q o1=>?_)⟩
 unfold ari at o1
 split at o1
 ·rename_i hl
  rw[lal]
  have R1:=R.grow g
  refine⟨F1,ds,R1.fh,q,by rw[q.length,hl],?_⟩
  cases e:fn ds with
  | ok d=>rw[e] at o1;exact o1
  | ex n=>rw[e] at o1;exact λH' s=>o1 H' (R1.gr.hh.trans s)
  | no=>rw[e] at o1;exact o1
 ·exact o1.elim
end
def D.fl:D->Bool
 | .non=>true
 | .bl _=>true
 | .int _=>true
 | .str _=>true
 | _=>false
def qX:D->D->Option D
 | .int i,.int j=>some (.int (i+j))
 | _,_=>none
def zca:D->D->Option D
 | .int i,.int j=>some (.int (i - j))
 | _,_=>none
instance (i:Int):Decidable (Sm i):=inferInstanceAs (Decidable (i.natAbs<2 ^ 4000))
def zci:D->D->Option D
 | .int i,.int j=>if Sm i/\Sm j then some (.int (i*j)) else none
 | _,_=>none
def zdq:D->D->Option D
 | .int i,.int j=>if 0<j then some (.int (i % j)) else none
 | _,_=>none
def zb2:D->D->Option D
 | .int i,.int j=>if 0<j/\Sm j then some (.int (i / j)) else none
 | _,_=>none
def zir:D->D->Option D
 | .str l,.str m=>if l.length+m.length<=1000000 then some (.str (l++m)) else none
 | _,_=>none
def znF:D->D->Option D
 | .tup l,.tup m=>if l.length+m.length<=1000000 then some (.tup (l++m)) else none
 | _,_=>none
def ltI:D->D->Option D
 | .int i,.int j=>some (.bl (decide (i<j)))
 | _,_=>none
def leI:D->D->Option D
 | .int i,.int j=>some (.bl (decide (i<=j)))
 | _,_=>none
def gtI:D->D->Option D
 | .int i,.int j=>some (.bl (decide (j<i)))
 | _,_=>none
def geI:D->D->Option D
 | .int i,.int j=>some (.bl (decide (j<=i)))
 | _,_=>none
def ltS:D->D->Option D
 | .str l,.str m=>some (.bl (decide (l<m)))
 | _,_=>none
def eqD (neg:Bool)(a b:D):Option D:=if a.pl=true/\b.pl=true/\a.py.depth<=60 then some (.bl (if neg then !PyData.eqv a.py b.py else PyData.eqv a.py b.py)) else none
def inC (neg:Bool):D->D->Option D
 | .str [c],.str l=>some (.bl (if neg then !decide (c∈l) else decide (c∈l)))
 | _,_=>none
def ixD:D->D->Option D
 | .lst ds,.int i=>atI ds i
 | .tup ds,.int i=>atI ds i
 | .str l,.int i=>(atI l i).map λc=>.str [c]
 | _,_=>none
def zdo {α:Type}(xs:List α)(lo hi:Option Int):List α:=(xs.drop (HT.sIx xs.length 0 lo)).take (HT.sIx xs.length xs.length hi - HT.sIx xs.length 0 lo)
def slD:D->Option Int->Option Int->Option D
 | .lst ds,lo,hi=>some (.lst (zdo ds lo hi))
 | .tup ds,lo,hi=>some (.tup (zdo ds lo hi))
 | .str l,lo,hi=>some (.str (zdo l lo hi))
 | _,_,_=>none
section
variable {K:PySem.W.Frag}{cl:Nat->Addr}{F H:Hp}
def I2 (f:Int->Int->Option D):D->D->Option D
 | .int i,.int j=>f i j
 | _,_=>none
theorem zkb {f:Int->Int->Option D}{a b d:D}(e:I2 f a b=some d):∃i j,a=.int i/\b=.int j/\f i j=some d:=by
 cases a with
 | int i =>
  cases b with
  | int j=>exact⟨i,j,rfl,rfl,e⟩
  | _=>cases e
 | _=>cases e
def S2 (f:List Nat->List Nat->Option D):D->D->Option D
 | .str i,.str j=>f i j
 | _,_=>none
theorem zkf {f:List Nat->List Nat->Option D}{a b d:D}(e:S2 f a b=some d):∃i j,a=.str i/\b=.str j/\f i j=some d:=by
 cases a with
 | str i =>
  cases b with
  | str j=>exact⟨i,j,rfl,rfl,e⟩
  | _=>cases e
 | _=>cases e
theorem Dt.intE {v:V}{i:Int}(q:Dt K cl F v (.int i)):v=.int i:=by cases q;rfl
theorem Dt.strE {v:V}{l:List Nat}(q:Dt K cl F v (.str l)):v=.str (T l)/\TxtOk (T l):=by cases q with|str _ ok=>exact⟨rfl,ok⟩
theorem zny {f:Int->Int->D}{r:Int->Int->V}(hf:∀{F:Hp} i j,Dt K cl F (r i j) (f i j)):Op2 K cl (rI0 r) (I2 λi j=>some (f i j)):=λF H x y a b d Q s qa qb e k=>by
 obtain⟨i,j,rfl,rfl,e1⟩:=zkb e
 obtain rfl:=qa.intE
 obtain rfl:=qb.intE
 obtain rfl:=lg e1
 exact⟨_,_,rfl,rfl,k _ _ _ (Gr.refl s) (hf i j)⟩
theorem zom {c:Int->Int->Prop} [∀i j,Decidable (c i j)]{f:Int->Int->Int}:Op2 K cl (rI c λi j=>.int (f i j)) (I2 λi j=>if c i j then some (.int (f i j)) else none):=λF H x y a b d Q s qa qb e k=>by
 obtain⟨i,j,rfl,rfl,e1⟩:=zkb e
 obtain rfl:=qa.intE
 obtain rfl:=qb.intE
 by_cases h:c i j
 ·rw[lH h] at e1
  obtain rfl:=lg e1
  exact⟨_,_,rfl,rfl,h,k _ _ _ (Gr.refl s) (.int _)⟩
 ·rw[lap h] at e1;cases e1
theorem wX:Op2 K cl (rI0 λi j=>.int (i+j)) qX:=zny λ_ _=>.int _
theorem zby:Op2 K cl (rI0 λi j=>.int (i - j)) zca:=zny λ_ _=>.int _
theorem vN:Op2 K cl (rI (λi j=>Sm i/\Sm j) λi j=>.int (i*j)) zci:=zom
theorem zal:Op2 K cl (rI (λ_ j=>0<j) λi j=>.int (i % j)) zdq:=zom
theorem jd:Op2 K cl (rI (λ_ j=>0<j/\Sm j) λi j=>.int (i / j)) zb2:=zom
theorem zj7:Op2 K cl (λx y H Q=>∃l m,x=.str (T l)/\y=.str (T m)/\l.length+m.length<=1000000/\Q (.str (T (l++m))) H) zir:=λF H x y a b d Q s qa qb e k=>by
 obtain⟨l,m,rfl,rfl,e1⟩:=zkf (f:=λl m=>if l.length+m.length<=1000000 then some (.str (l++m)) else none) e
 obtain⟨rfl,ok⟩:=qa.strE
 obtain⟨rfl,ok2⟩:=qb.strE
 split at e1
 ·rename_i h
  obtain rfl:=lg e1
  refine⟨_,_,rfl,rfl,h,k _ _ _ (Gr.refl s) (.str _ ?_)⟩
  rw[← zmF]
  exact TxtOk.app ok ok2 (by rw[zas,zas];exact h)
 ·cases e1
theorem ziU {a b d:D}(e:znF a b=some d):∃l m,a=.tup l/\b=.tup m/\l.length+m.length<=1000000/\d=.tup (l++m):=by
 cases a with
 | tup l =>
  cases b with
  | tup m =>
   by_cases h:l.length+m.length<=1000000
   ·exact⟨l,m,rfl,rfl,h,(lg ((lH h).symm.trans e)).symm⟩
   ·cases (lap h).symm.trans e
  | _=>cases e
 | _=>cases e
theorem zkl:Op2 K cl (zmt K) znF:=λF H x y a b d Q s qa qb e k=>by
 obtain⟨l,m,rfl,rfl,h,rfl⟩:=ziU e
 cases qa with
 | tup qx dx =>
  cases qb with
  | tup qy dy =>
   refine⟨_,_,_,_,rfl,rfl,s.seqT qx,s.seqT qy,sz6 (by rw[dx.length,dy.length];exact h),λp H' hs q=>?_⟩
   obtain⟨F',g,q'⟩:=Gr.tup s hs q (dx.append dy)
   exact k _ _ _ g q'
theorem znU:Op2 K cl (rI0 λi j=>.bl (decide (i<j))) ltI:=zny λ_ _=>.bl _
theorem zep:Op2 K cl (rI0 λi j=>.bl (decide (i<=j))) leI:=zny λ_ _=>.bl _
theorem zmW:Op2 K cl (rI0 λi j=>.bl (decide (j<i))) gtI:=zny λ_ _=>.bl _
theorem znS:Op2 K cl (λx y H Q=>∃i j,x=.str i/\y=.str j/\Q (.bl (decide (i.cps.toList<j.cps.toList))) H) ltS:=λF H x y a b d Q s qa qb e k=>by
 obtain⟨l,m,rfl,rfl,e1⟩:=zkf (f:=λl m=>some (.bl (decide (l<m)))) e
 obtain⟨rfl,ok⟩:=qa.strE
 obtain⟨rfl,ok2⟩:=qb.strE
 obtain rfl:=lg e1
 refine⟨_,_,rfl,rfl,?_⟩
 rw[za8,za8]
 exact k _ _ _ (Gr.refl s) (.bl _)
theorem zoF:Op2 K cl (zoA K) (eqD false):=λF H x y a b d Q s qa qb e k=>by
 unfold eqD at e
 split at e
 ·rename_i h
  obtain rfl:=lg e
  exact⟨_,_,(qa.is h.1).mono s,(qb.is h.2.1).mono s,h.2.2,k _ _ _ (Gr.refl s) (.bl _)⟩
 ·cases e
theorem zkQ:Op2 K cl (zoB K) (eqD true):=λF H x y a b d Q s qa qb e k=>by
 unfold eqD at e
 split at e
 ·rename_i h
  obtain rfl:=lg e
  exact⟨_,_,(qa.is h.1).mono s,(qb.is h.2.1).mono s,h.2.2,k _ _ _ (Gr.refl s) (.bl _)⟩
 ·cases e
theorem zlB {neg:Bool}{a b d:D}(e:inC neg a b=some d):∃c l,a=.str [c]/\b=.str l/\d=.bl (if neg then !decide (c∈l) else decide (c∈l)):=by
 cases a with
 | str l =>
  match l,e with
  | [c],e =>
   cases b with
   | str m=>exact⟨c,m,rfl,rfl,(lg e).symm⟩
   | _=>cases e
 | _=>cases e
theorem zor:Op2 K cl zoC (inC false):=λF H x y a b d Q s qa qb e k=>by
 obtain⟨c,l,rfl,rfl,rfl⟩:=zlB e
 obtain⟨rfl,_⟩:=qa.strE
 obtain⟨rfl,_⟩:=qb.strE
 exact⟨c,l,rfl,rfl,k _ _ _ (Gr.refl s) (.bl _)⟩
theorem Dts.at {vs:List V}{ds:List D}{i:Int}{d:D}(q:Dts K cl F vs ds)(e:atI ds i=some d):∃v,atI vs i=some v/\Dt K cl F v d:=by
 unfold atI at e ⊢
 rw[q.length]
 cases h:ixN ds.length i with
 | none=>rw[h] at e;cases e
 | some j =>
  rw[h] at e
  exact q.get' e
theorem zfb {l m:List Nat}(ok:TxtOk (T l))(h:∀c∈m,c∈l)(hl:m.length<=1000000):TxtOk (T m):=by
 refine zb3 (λc hc=>?_) hl
 have a:(T l).cps.all (· < 0x110000)=true:=ok.1
 simp only[T,lcF,laL,lbh] at a
 exact a c (h c hc)
theorem znI {l:List Nat}{c:Nat}(ok:TxtOk (T l))(h:c∈l):TxtOk (T [c]):=zfb ok (λd hd=>by rw[lK.mp hd];exact h) (Nat.le_add_left 1 999999)
theorem zkI {a b d:D}(e:ixD a b=some d):∃i,b=.int i:=by
 cases b with
 | int i=>exact⟨i,rfl⟩
 | _=>cases a <;>cases e
theorem zpi:Op2 K cl (rIx K) ixD:=λF H x y a b d Q s qa qb e k=>by
 obtain⟨i,rfl⟩:=zkI e
 obtain rfl:=qb.intE
 ·cases qa with
  | lst sq dq =>
   obtain⟨v,h1,h2⟩:=dq.at e
   exact .inl ⟨_,_,_,_,rfl,rfl,s.seq sq,h1,k _ _ _ (Gr.refl s) h2⟩
  | tup sq dq =>
   obtain⟨v,h1,h2⟩:=dq.at e
   exact .inr (.inl ⟨_,_,_,_,rfl,rfl,s.seqT sq,h1,k _ _ _ (Gr.refl s) h2⟩)
  | str l ok =>
   have e':(atI l i).map (λc=>D.str [c])=some d:=e
   cases h:atI l i with
   | none=>rw[h] at e';cases e'
   | some c =>
    rw[h] at e'
    obtain rfl:=lg e'
    refine .inr (.inr ⟨T l,i,c,rfl,rfl,sz6 ok.2,by rw[za8];exact h,k _ _ _ (Gr.refl s) (.str [c] (znI ok ?_))⟩)
    unfold atI at h
    cases h2:ixN l.length i with
    | none=>rw[h2] at h;cases h
    | some j=>rw[h2] at h;exact laU h
  | _=>cases e
end
def tDS (K:PySem.W.Frag)(cl:Nat->Addr)(E:XK)(g:Rho->Out):TS:=λDn σ H=>∃H0 F0 ρ F,Rl K cl H0 F0 ρ σ H F/\OutS K cl E H0 F0 F (g ρ) Dn
def XS (X:Cx)(cl:Nat->Addr)(E:XK)(st:Stmt)(g:Rho->Out):Prop:=PS X st (tDS X.K cl E g)
def XSs (X:Cx)(cl:Nat->Addr)(E:XK)(st:List Stmt)(g:Rho->Out):Prop:=PSs X st (tDS X.K cl E g)
def sNx:Rho->Out:=λρ=>.nx ρ
def zT (g h:Rho->Out):Rho->Out:=λρ=>match g ρ with | .nx ρ'=>h ρ'|o=>o
def yM (f:Rho->Rs D):Rho->Out:=λρ=>match f ρ with | .ok d=>.rt d | .ex n=>.ex n | .no=>.no
def vq (f:Rho->Rs D):Rho->Out:=λρ=>match f ρ with | .ok _=>.nx ρ | .ex n=>.ex n | .no=>.no
def yh (i:Nat)(f:Rho->Rs D):Rho->Out:=λρ=>match f ρ with | .ok d=>.nx (ρ.set i (.fz d)) | .ex n=>.ex n | .no=>.no
def sIf (ft:Rho->Rs Bool)(g h:Rho->Out):Rho->Out:=λρ=>match ft ρ with | .ok true=>g ρ | .ok false=>h ρ | .ex n=>.ex n | .no=>.no
def kj (i j:Nat)(f:Rho->Rs D):Rho->Out:=λρ=>match f ρ with | .ok (.tup [a,b])=>.nx ((ρ.set i (.fz a)).set j (.fz b)) | .ok _=>.no | .ex n=>.ex n | .no=>.no
def zcA (i:Nat)(g:Rho->Out):Rho->Out:=λρ=>match ρ[i]? with|some (.ow ds)=>g (ρ.set i (.fz (.lst ds)))|_=>.no
def qR (g:Rho->Out):Rho->Out:=λρ=>match g ρ with | .ex _=>.no|o=>o
def forD (i:Nat)(g:Rho->Out):List D->Rho->Out
 | [],ρ=>.nx ρ
 | d::ds,ρ=>match g (ρ.set i (.fz d)) with | .nx ρ'=>forD i g ds ρ' | .ct ρ'=>forD i g ds ρ' | .bk ρ'=>.nx ρ'|o=>o
def uL (i:Nat)(fi:Rho->Rs (List D))(g:Rho->Out):Rho->Out:=λρ=>match fi ρ with | .ok ds=>forD i g ds ρ | .ex n=>.ex n | .no=>.no
def whD (ft:Rho->Rs Bool)(g:Rho->Out):Nat->Rho->Out
 | 0,_=>.no
 | n+1,ρ=>match ft ρ with
  | .ok true=>(match g ρ with | .nx ρ'=>whD ft g n ρ' | .ct ρ'=>whD ft g n ρ' | .bk ρ'=>.nx ρ'|o=>o)
  | .ok false=>.nx ρ
  | .ex n=>.ex n
  | .no=>.no
def sWh (n:Nat)(ft:Rho->Rs Bool)(g:Rho->Out):Rho->Out:=whD ft g n
def owL (ρ:Rho)(i:Nat):Option (List D):=match ρ[i]? with|some (.ow ds)=>some ds|_=>none
theorem zaf {ρ:Rho}{i:Nat}{ds:List D}(h:owL ρ i=some ds):ρ[i]? = some (.ow ds):=by
 unfold owL at h
 split at h
 ·rename_i e;rw[e,lg h]
 ·cases h
def zcp (i:Nat)(f:Rho->Rs D):Rho->Out:=λρ=>match owL ρ i with
 | some ds=>(match f ρ with | .ok d=>if ds.length<1000000 then .nx (ρ.set i (.ow (ds++[d]))) else .no | .ex n=>.ex n | .no=>.no)
 | none=>.no
section
variable {K:PySem.W.Frag}{cl:Nat->Addr}{E:XK}{H0 F0 F F1:Hp}
theorem OutS.grow {o:Out}{Dn:Ends}(h:OutS K cl E H0 F0 F o Dn)(s:Same F F1):OutS K cl E H0 F0 F1 o Dn:=by
 cases o with
 | nx ρ=>exact λσ H F' R q=>h σ H F' R (s.trans q)
 | bk ρ=>exact λσ H F' R q=>h σ H F' R (s.trans q)
 | ct ρ=>exact λσ H F' R q=>h σ H F' R (s.trans q)
 | rt d=>exact h
 | ex n=>exact h
 | no=>exact h
end
section
variable {X:Cx}{cl:Nat->Addr}{E:XK}{st:Stmt}{rest:List Stmt}{g h:Rho->Out}{f:Rho->Rs D}{e:Expr}{pos:Pos}
def XS' (X:Cx)(cl:Nat->Addr)(E:XK)(st:Stmt)(g:Rho->Out):Prop:=∃t:TS,PS X st t/\∀(H0 F0:Hp) (ρ:Rho) (σ:St) (H F:Hp) (Dn:Ends),Rl X.K cl H0 F0 ρ σ H F->OutS X.K cl E H0 F0 F (g ρ) Dn->t Dn σ H
def XSs' (X:Cx)(cl:Nat->Addr)(E:XK)(st:List Stmt)(g:Rho->Out):Prop:=∃t:TS,PSs X st t/\∀(H0 F0:Hp) (ρ:Rho) (σ:St) (H F:Hp) (Dn:Ends),Rl X.K cl H0 F0 ρ σ H F->OutS X.K cl E H0 F0 F (g ρ) Dn->t Dn σ H
theorem XS.ex (h:XS X cl E st g):XS' X cl E st g:=⟨_,h,λH0 F0 ρ σ H F Dn R o=>⟨H0,F0,ρ,F,R,o⟩⟩
theorem XSs.ex (h:XSs X cl E rest g):XSs' X cl E rest g:=⟨_,h,λH0 F0 ρ σ H F Dn R o=>⟨H0,F0,ρ,F,R,o⟩⟩
theorem XS'.out (h:XS' X cl E st g):XS X cl E st g:=let ⟨_,pt,rt⟩:=h;λpins s σ H Dn I ⟨H0,F0,ρ,F,R,o⟩=>pt pins s σ H Dn I (rt H0 F0 ρ σ H F Dn R o)
theorem XSs'.out (h:XSs' X cl E rest g):XSs X cl E rest g:=let ⟨_,pt,rt⟩:=h;λpins s σ H Dn I ⟨H0,F0,ρ,F,R,o⟩=>pt pins s σ H Dn I (rt H0 F0 ρ σ H F Dn R o)
theorem yG:XSs X cl E [] sNx:=XSs'.out ⟨_,zky,λH0 F0 ρ σ H F Dn R o=>o σ H F R (Same.refl _)⟩
theorem zE (h:XS X cl E st g):XSs X cl E [st] g:=let ⟨t,pt,rt⟩:=h.ex;XSs'.out ⟨t,zhf pt,rt⟩
theorem zu (h1:XS X cl E st g)(h2:XSs X cl E rest h):XSs X cl E (st::rest) (zT g h):=by
 obtain⟨t,pt,rt⟩:=h1.ex
 obtain⟨u,pu,ru⟩:=h2.ex
 refine XSs'.out ⟨_,zc8 pt pu,λH0 F0 ρ σ H F Dn R o=>rt H0 F0 ρ σ H F _ R ?_⟩
 unfold zT at o
 cases e:g ρ with
 | nx ρ'=>rw[e] at o;exact λσ' H' F' R' s=>ru H0 F0 ρ' σ' H' F' Dn R' (o.grow s)
 | bk ρ'=>rw[e] at o;exact o
 | ct ρ'=>rw[e] at o;exact o
 | rt d=>rw[e] at o;exact o
 | ex n=>rw[e] at o;exact o
 | no=>rw[e] at o;exact o
theorem zO (h:XE X cl E e f):XS X cl E (.Return (some e) pos) (yM f):=by
 obtain⟨t,pt,rt⟩:=h.ex
 refine XS'.out ⟨_,zjS pt,λH0 F0 ρ σ H F Dn R o=>rt H0 F0 ρ σ H F _ R ?_⟩
 unfold yM at o
 cases e:f ρ with
 | ok d=>rw[e] at o;exact λv H' F' gg q=>o v H' F' (R.gr.trans gg) q
 | ex n=>rw[e] at o;exact o
 | no=>rw[e] at o;exact o
theorem qG (h:XE X cl E e f)(hs:swapsWith e none pos.line X.env=pure false:=by rfl):XS X cl E (.Expr e pos) (vq f):=by
 obtain⟨t,pt,rt⟩:=h.ex
 refine XS'.out ⟨_,zfi pt hs,λH0 F0 ρ σ H F Dn R o=>rt H0 F0 ρ σ H F _ R ?_⟩
 unfold vq at o
 cases e:f ρ with
 | ok d=>rw[e] at o;exact λv H' F' gg q=>o σ H' F' (R.grow gg) gg.ff
 | ex n=>rw[e] at o;exact o
 | no=>rw[e] at o;exact o
theorem zR {i:Nat}{x:Str}{pos':Pos}(hN:X.N.Nodup)(hi:X.N[i]? = some x)(hx:Loc X.env.scope x)(he:XE X cl E e f)(hs:swapsWith e (some (.Name x pos')) pos.line X.env=pure false:=by rfl)(hf:X.fn x=true∨X.env.scope.names.lookup x=some .local:=by first|exact .inl rfl|exact .inr rfl|assumption) :
  XS X cl E (.Assign [.Name x pos'] e pos) (yh i f):=by
 obtain⟨t,pt,rt⟩:=he.ex
 refine XS'.out ⟨_,zdG hN hi hx pt hs hf,λH0 F0 ρ σ H F Dn R o=>rt H0 F0 ρ σ H F _ R ?_⟩
 unfold yh at o
 cases e:f ρ with
 | ok d=>rw[e] at o;exact λv H' F' gg q=>o _ H' F' ((R.grow gg).set q) gg.ff
 | ex n=>rw[e] at o;exact o
 | no=>rw[e] at o;exact o
theorem qp {c:Expr}{a b:List Stmt}{ft:Rho->Rs Bool}(hc:XT X cl E c ft)(ha:XSs X cl E a g)(hb:XSs X cl E b h):XS X cl E (.If c a b pos) (sIf ft g h):=by
 obtain⟨t,pt,rt⟩:=hc.ex
 obtain⟨u,pu,ru⟩:=ha.ex
 obtain⟨w,pw,rw'⟩:=hb.ex
 refine XS'.out ⟨_,zoh pt pu pw,λH0 F0 ρ σ H F Dn R o=>rt H0 F0 ρ σ H F _ R ?_⟩
 unfold sIf at o
 cases e:ft ρ with
 | ok b =>
  rw[e] at o
  intro H' F' gg
  cases b with
  | true=>exact ru H0 F0 ρ σ H' F' Dn (R.grow gg) (o.grow gg.ff)
  | false=>exact rw' H0 F0 ρ σ H' F' Dn (R.grow gg) (o.grow gg.ff)
 | ex n=>rw[e] at o;exact o
 | no=>rw[e] at o;exact o
theorem vZ (h:XS X.nox cl E0 st g):XS X cl E st (qR g):=by
 obtain⟨t,pt,rt⟩:=h.ex
 refine XS'.out ⟨_,pt.nox,λH0 F0 ρ σ H F Dn R o=>rt H0 F0 ρ σ H F _ R ?_⟩
 unfold qR at o
 cases e:g ρ with
 | nx ρ'=>rw[e] at o;exact o
 | bk ρ'=>rw[e] at o;exact o
 | ct ρ'=>rw[e] at o;exact o
 | rt d=>rw[e] at o;exact o
 | ex n=>rw[e] at o;exact o.elim
 | no=>rw[e] at o;exact o
theorem zhl {i:Nat}(h:XS X cl E st g):XS X cl E st (zcA i g):=by
 obtain⟨t,pt,rt⟩:=h.ex
 refine XS'.out ⟨_,pt,λH0 F0 ρ σ H F Dn R o=>?_⟩
 unfold zcA at o
 split at o
 ·rename_i ds e
  obtain⟨F',s,R'⟩:=R.ice e
  exact rt H0 F0 _ σ H F' Dn R' (o.grow s)
 ·exact o.elim
theorem zfN {c:Expr}{body:List Stmt}{ft:Rho->Rs Bool}(n:Nat)(hp:PassesOwn (model X.prog X.w) X.A X.env X.xe)(hc:XT X cl E c ft)(hb:XSs X cl E body g):XS X cl E (.While c body [] pos) (sWh n ft g):=by
 obtain⟨t,pt,rt⟩:=hc.ex
 obtain⟨u,pu,ru⟩:=hb.ex
 refine XS'.out ⟨_,zi7 hp pt pu,λH0 F0 ρ σ H F Dn R o=>?_⟩
 refine⟨λm σ H=>∃ρ F',Rl X.K cl H0 F0 ρ σ H F'/\OutS X.K cl E H0 F0 F' (whD ft g m ρ) Dn,⟨n,ρ,F,R,o⟩,?_⟩
 rintro m σ1 H1 ⟨ρ1,F1,R1,o1⟩
 cases m with
 | zero=>exact o1.elim
 | succ m =>
  refine rt H0 F0 ρ1 σ1 H1 F1 _ R1 ?_
  unfold whD at o1
  cases e:ft ρ1 with
  | ok b =>
   rw[e] at o1
   intro H2 F2 gg
   have R2:=R1.grow gg
   cases b with
   | false=>exact o1 σ1 H2 F2 R2 gg.ff
   | true =>
    refine⟨λσ H=>∃ρ F',Rl X.K cl H0 F0 ρ σ H F'/\OutS X.K cl E H0 F0 F' (whD ft g m ρ) Dn,λσ' H' p=>⟨m,lcE _,p⟩,ru H0 F0 ρ1 σ1 H2 F2 _ R2 ?_⟩
    have o2:=o1.grow gg.ff
    cases e2:g ρ1 with
    | nx ρ'=>simp only[e2] at o2;exact λσ' H' F' R' s=>⟨ρ',F',R',o2.grow s⟩
    | ct ρ'=>simp only[e2] at o2;exact λσ' H' F' R' s=>⟨ρ',F',R',o2.grow s⟩
    | bk ρ'=>simp only[e2] at o2;exact o2
    | rt d=>simp only[e2] at o2;exact o2
    | ex n=>simp only[e2] at o2;exact o2
    | no=>simp only[e2] at o2;exact o2
  | ex n=>rw[e] at o1;exact o1
  | no=>rw[e] at o1;exact o1
def OutI (K:PySem.W.Frag)(cl:Nat->Addr)(E:XK)(H0 F H:Hp)(r:Rs (List D))(Q:It->Hp->Prop):Prop :=
 match r with
 | .ok ds=>∀J G vs H' F',Gr F H F' H'->Wlk J G vs->(∀H'',Same F' H''->G H'')->Dts K cl F' vs ds->Q J H'
 | .ex n=>∀H',Same H0 H'->E (.ref (cl n)) none H'
 | .no=>False
def tDI (K:PySem.W.Frag)(cl:Nat->Addr)(E:XK)(f:Rho->Rs (List D)):TI:=λσ H Q=>∃H0 F0 ρ F,Rl K cl H0 F0 ρ σ H F/\OutI K cl E H0 F H (f ρ) Q
def XI (X:Cx)(cl:Nat->Addr)(E:XK)(tg e:Expr)(f:Rho->Rs (List D)):Prop:=PI X tg e (tDI X.K cl E f)
theorem XI.mk {tg:Expr}{fi:Rho->Rs (List D)}{t:TI}(pt:PI X tg e t)(rt:∀(H0 F0:Hp) (ρ:Rho) (σ:St) (H F:Hp) (Q:It->Hp->Prop),Rl X.K cl H0 F0 ρ σ H F->OutI X.K cl E H0 F H (fi ρ) Q->t σ H Q):XI X cl E tg e fi :=
 λpins s σ H Q I ⟨H0,F0,ρ,F,R,o⟩=>pt pins s σ H Q I (rt H0 F0 ρ σ H F Q R o)
def lsD:D->Option (List D)
 | .lst ds=>some ds
 | _=>none
def tpD:D->Option (List D)
 | .tup ds=>some ds
 | _=>none
def sgD:D->Option (List D)
 | .str l=>some (l.map λc=>.str [c])
 | _=>none
def fI (g:D->Option (List D))(f:Rho->Rs D):Rho->Rs (List D):=λρ=>(f ρ).bind λd=>match g d with|some ds=>.ok ds|none=>.no
theorem OutI.fst {K:PySem.W.Frag}{H0 F H:Hp}{r:Rs D}{k:D->Rs (List D)}{Q:It->Hp->Prop}{P:VK}(h:OutI K cl E H0 F H (r.bind k) Q)(z:∀d v H1 F1,Gr F H F1 H1->Dt K cl F1 v d->OutI K cl E H0 F1 H1 (k d) Q->P v H1):OutE K cl E H0 F H r P:=by
 cases r with
 | ok d =>
  refine λv H' F' g' q=>z d v H' F' g' q ?_
  have h':OutI K cl E H0 F H (k d) Q:=h
  cases e:k d with
  | ok ds=>rw[e] at h';exact λJ G vs H2 F2 g2=>h' J G vs H2 F2 (g'.trans g2)
  | ex n=>rw[e] at h';exact h'
  | no=>rw[e] at h';exact h'
 | ex n=>exact h
 | no=>exact h
theorem zbT {tg:Expr}(h:XE X cl E e f):XI X cl E tg e (fI lsD f):=by
 obtain⟨t,pt,rt⟩:=h.ex
 refine XI.mk (zla pt) λH0 F0 ρ σ H F Q R o=>rt H0 F0 ρ σ H F _ R (OutI.fst o λd v H1 F1 g q o1=>?_)
 cases q with
 | lst sq dq =>
  have fh:=(R.grow g).fh
  exact⟨_,rfl,⟨_,fh.seq sq⟩,o1 _ _ _ H1 F1 (Gr.refl fh) zi5 (λH'' s=>s.seq sq) dq⟩
 | _=>exact o1.elim
theorem jh {tg:Expr}(h:XE X cl E e f):XI X cl E tg e (fI tpD f):=by
 obtain⟨t,pt,rt⟩:=h.ex
 refine XI.mk (zmL pt) λH0 F0 ρ σ H F Q R o=>rt H0 F0 ρ σ H F _ R (OutI.fst o λd v H1 F1 g q o1=>?_)
 cases q with
 | tup sq dq =>
  have fh:=(R.grow g).fh
  exact⟨_,rfl,⟨_,fh.seqT sq⟩,o1 _ _ _ H1 F1 (Gr.refl fh) zlN (λH'' s=>s.seqT sq) dq⟩
 | _=>exact o1.elim
theorem zel {K:PySem.W.Frag}{F:Hp}:∀{l:List Nat},(∀c∈l,TxtOk (T [c]))->Dts K cl F (l.map λc=>V.str (T [c])) (l.map λc=>D.str [c])
 | [],_=>.nil
 | c::l,h=>.cons (.str [c] (h c (.head _))) (zel λd hd=>h d (.tail _ hd))
theorem zfl {tg:Expr}(h:XE X cl E e f):XI X cl E tg e (fI sgD f):=by
 obtain⟨t,pt,rt⟩:=h.ex
 refine XI.mk (zna pt) λH0 F0 ρ σ H F Q R o=>rt H0 F0 ρ σ H F _ R (OutI.fst o λd v H1 F1 g q o1=>?_)
 cases q with
 | str l ok =>
  have fh:=(R.grow g).fh
  have w:=zkr (x:=T l) (G:=λ_=>True)
  rw[za8] at w
  exact⟨_,rfl,o1 _ _ _ H1 F1 (Gr.refl fh) w (λ_ _=>trivial) (zel λc hc=>znI ok hc)⟩
 | _=>exact o1.elim
def zcu:List D->Option (List D)
 | [.int j]=>if -(2 ^ 62)<=j/\j<2 ^ 62 then some ((List.range j.toNat).map λ(k:Nat)=>.int (k:Int)) else none
 | _=>none
def zm7:List D->Option (List D)
 | [.int i,.int j]=>if -(2 ^ 62)<=i/\i<2 ^ 62/\-(2 ^ 62)<=j/\j<2 ^ 62 then some ((List.range (j - i).toNat).map λ(k:Nat)=>.int (i+(k:Int))) else none
 | _=>none
def fR (g:List D->Option (List D))(fs:Rho->Rs (List D)):Rho->Rs (List D):=λρ=>(fs ρ).bind λds=>match g ds with|some es=>.ok es|none=>.no
theorem OutI.fstA {K:PySem.W.Frag}{H0 F H:Hp}{r:Rs (List D)}{k:List D->Rs (List D)}{Q:It->Hp->Prop}{P:List V->Hp->Prop}(h:OutI K cl E H0 F H (r.bind k) Q)(z:∀d v H1 F1,Gr F H F1 H1->Dts K cl F1 v d->OutI K cl E H0 F1 H1 (k d) Q->P v H1):OutA K cl E H0 F H r P:=by
 cases r with
 | ok d =>
  refine λv H' F' g' q=>z d v H' F' g' q ?_
  have h':OutI K cl E H0 F H (k d) Q:=h
  cases e:k d with
  | ok ds=>rw[e] at h';exact λJ G vs H2 F2 g2=>h' J G vs H2 F2 (g'.trans g2)
  | ex n=>rw[e] at h';exact h'
  | no=>rw[e] at h';exact h'
 | ex n=>exact h
 | no=>exact h
theorem zbW {K:PySem.W.Frag}{F:Hp}{α:Type}{v:α->V}{d:α->D}:∀{l:List α},(∀x∈l,Dt K cl F (v x) (d x))->Dts K cl F (l.map v) (l.map d)
 | [],_=>.nil
 | c::l,h=>.cons (h c (.head _)) (zbW λd hd=>h d (.tail _ hd))
theorem Dts.one {K:PySem.W.Frag}{F:Hp}{vs:List V}{d:D}(q:Dts K cl F vs [d]):∃v,vs=[v]/\Dt K cl F v d:=by
 cases q with
 | cons q r=>cases r;exact⟨_,rfl,q⟩
theorem Dts.two {K:PySem.W.Frag}{F:Hp}{vs:List V}{d e:D}(q:Dts K cl F vs [d,e]):∃v w,vs=[v,w]/\Dt K cl F v d/\Dt K cl F w e:=by
 cases q with
 | cons q r=>obtain⟨w,rfl,q2⟩:=r.one;exact⟨_,_,rfl,q,q2⟩
theorem wg {tg a:Expr}{p:Pos}{fs:Rho->Rs (List D)}(hg:Gl X "range")(hm:X.mg "range" = none)(ha:XA X cl E [a] fs)(hs:starEach [a] X.env=[(false,eval a X.env)]):XI X cl E tg (.Call (.Name "range" p) [a] [] pos) (fR zcu fs):=by
 obtain⟨t,pt,rt⟩:=ha.ex
 refine XI.mk (zhe hg hm pt hs) λH0 F0 ρ σ H F Q R o=>rt H0 F0 ρ σ H F _ R (OutI.fstA o λd v H1 F1 g q o1=>?_)
 match d,q,o1 with
 | [.int j],q,o1 =>
  obtain⟨v',rfl,q1⟩:=q.one
  cases q1
  dsimp only [zcu] at o1
  by_cases h:-(2 ^ 62)<=j/\j<2 ^ 62
  ·rw[lH h] at o1
   refine⟨j,rfl,h.1,h.2,o1 _ (λ_=>True) _ H1 F1 (Gr.refl (R.grow g).fh) zee (λ_ _=>trivial) (zbW λk _=>?_)⟩
   rw[Int.zero_add];exact .int _
  ·rw[lap h] at o1;exact o1.elim
theorem zgV {tg a b:Expr}{p:Pos}{fs:Rho->Rs (List D)}(hg:Gl X "range")(hm:X.mg "range" = none)(ha:XA X cl E [a,b] fs)(hs:starEach [a,b] X.env=[(false,eval a X.env),(false,eval b X.env)])(hs2:starEach [b] X.env=[(false,eval b X.env)]):XI X cl E tg (.Call (.Name "range" p) [a,b] [] pos) (fR zm7 fs):=by
 obtain⟨t,pt,rt⟩:=ha.ex
 refine XI.mk (zh2 hg hm pt hs hs2) λH0 F0 ρ σ H F Q R o=>rt H0 F0 ρ σ H F _ R (OutI.fstA o λd v H1 F1 g q o1=>?_)
 match d,q,o1 with
 | [.int i,.int j],q,o1 =>
  obtain⟨v,w,rfl,q1,q2⟩:=q.two
  cases q1;cases q2
  dsimp only [zm7] at o1
  by_cases h:-(2 ^ 62)<=i/\i<2 ^ 62/\-(2 ^ 62)<=j/\j<2 ^ 62
  ·rw[lH h] at o1
   exact⟨i,j,rfl,h,o1 _ (λ_=>True) _ H1 F1 (Gr.refl (R.grow g).fh) zee (λ_ _=>trivial) (zbW λk _=>.int _)⟩
  ·rw[lap h] at o1;exact o1.elim
theorem vK {tg iter:Expr}{body:List Stmt}{fi:Rho->Rs (List D)}{i:Nat}(hp:PassesOwn (model X.prog X.w) X.A X.env X.xe)(hc:X.calm=true)(hi:XI X cl E tg iter fi)(hg:PG X tg (kI i))(hb:XSs X cl E body g)(hs:∀x,foldedSetIterable iter X.env x=pure x:=by intro _;rfl):XS X cl E (.For tg iter body [] pos) (uL i fi g):=by
 obtain⟨u,pu,ru⟩:=hb.ex
 refine XS'.out ⟨_,zki hp hc hi hg pu hs,λH0 F0 ρ σ H F Dn R o=>⟨H0,F0,ρ,F,R,?_⟩⟩
 unfold uL at o
 cases e:fi ρ with
 | ok ds =>
  rw[e] at o
  intro J G vs H1 F1 gg W hG dq
  refine zlm W (λk σ H=>∃ρ' F',Rl X.K cl H0 F0 ρ' σ H F'/\Same F1 F'/\OutS X.K cl E H0 F0 F' (forD i g (ds.drop k) ρ') Dn) ⟨ρ,F1,R.grow gg,Same.refl _,o.grow gg.ff⟩ (λk σ' H' _ ⟨ρ',F',R',s',_⟩=>hG H' (s'.trans R'.fh)) ?_ ?_
  ·rintro k x σ' H' hx ⟨ρ',F',R',s',o'⟩
   obtain⟨d,hd,qd⟩:=dq.get hx
   have hdr:ds.drop k=d::ds.drop (k+1):=by
    obtain⟨hk,e2⟩:=lv.mp hd
    rw[las hk,e2]
   rw[hdr] at o'
   unfold forD at o'
   refine ru H0 F0 _ _ H' F' _ (R'.set (qd.mono s')) ?_
   cases e2:g (ρ'.set i (.fz d)) with
   | nx ρ2=>simp only[e2] at o';exact λσ2 H2 F2 R2 s2=>⟨ρ2,F2,R2,s'.trans s2,o'.grow s2⟩
   | ct ρ2=>simp only[e2] at o';exact λσ2 H2 F2 R2 s2=>⟨ρ2,F2,R2,s'.trans s2,o'.grow s2⟩
   | bk ρ2=>simp only[e2] at o';exact o'
   | rt d=>simp only[e2] at o';exact o'
   | ex n=>simp only[e2] at o';exact o'
   | no=>simp only[e2] at o';exact o'
  ·rintro σ' H' ⟨ρ',F',R',s',o'⟩
   rw[laI (by rw[dq.length];exact lr _)] at o'
   exact o' σ' H' F' R' (Same.refl _)
 | ex n=>rw[e] at o;exact o
 | no=>rw[e] at o;exact o
end
def v9 (n:Nat)(caps:List Nat)(ρ:Rho):Rho:=List.replicate n .no++caps.map λi=>match ρ[i]? with|some (.fz d)=>.fz d|_=>.no
def yU:Rho->Rs Bool:=λ_=>.ok true
def vm (ft:Rho->Rs Bool)(fe:Rho->Rs D)(ρ0:Rho):List D->Rs (List D)
 | []=>.ok []
 | d::ds=>match ft (ρ0.set 0 (.fz d)) with
  | .ok true=>(match fe (ρ0.set 0 (.fz d)) with | .ok e=>(vm ft fe ρ0 ds).bind λes=>.ok (e::es)|_=>.no)
  | .ok false=>vm ft fe ρ0 ds
  | _=>.no
def fCp (fi:Rho->Rs (List D))(ft:Rho->Rs Bool)(fe:Rho->Rs D)(caps:List Nat):Rho->Rs (List D):=λρ=>(fi ρ).bind λds=>if ds.length<=1000000 then vm ft fe (v9 1 caps ρ) ds else .no
def yS (fi:Rho->Rs (List D))(ft:Rho->Rs Bool)(fe:Rho->Rs D)(caps:List Nat):Rho->Rs D:=λρ=>(fCp fi ft fe caps ρ).bind λes=>.ok (.lst es)
def XTs (X:Cx)(cl:Nat->Addr)(E:XK)(ifs:List Expr)(f:Rho->Rs Bool):Prop:=PTs X ifs (tDB X.K cl E f)
section
variable {X:Cx}{cl:Nat->Addr}{E:XK}
theorem xR:XTs X cl E [] yU:=λpins s σ H Q I ⟨H0,F0,ρ,F,R,o⟩=>wpAny_tests_nil ⟨H,I,o H F (Gr.refl R.fh)⟩
theorem zk6 {c:Expr}{f:Rho->Rs Bool}(h:XT X cl E c f):XTs X cl E [c] f:=λpins s σ H Q I hq=>wpAny_tests_one (h pins s σ H Q I hq)
theorem zaz {ft:Rho->Rs Bool}{fe:Rho->Rs D}{ρ0:Rho}:∀{ds:List D}{n:Nat},vm ft fe ρ0 ds≠.ex n
 | [],n=>λh=>by cases h
 | d :: ds,n=>λh=>by
  unfold vm at h
  split at h
  ·split at h
   ·cases e:vm ft fe ρ0 ds with
    | ok es=>rw[e] at h;cases h
    | ex m=>exact zaz e
    | no=>rw[e] at h;cases h
   ·cases h
  ·exact zaz h
  ·cases h
theorem Rl.cap {K:PySem.W.Frag}{H0 F0 H F:Hp}{ρ:Rho}{σ:St}(R:Rl K cl H0 F0 ρ σ H F)(own:List Str)(caps:List Nat):Rl K cl H F (v9 own.length caps ρ) (zes own caps σ) H F where
 gr:=Gr.refl R.fh
 len:=by simp[v9,zes]
 fz := λi d e=>by
  unfold v9 at e
  unfold zes
  rcases lcO i own.length with h|h
  ·rw[laQ (by simpa using h),la1,lH h] at e
   cases e
  ·rw [laE (by simpa using h),lX,lT] at e
   rw[laE (by simpa using h),lh,lT]
   cases c:caps[i - own.length]? with
   | none=>rw[c] at e;cases e
   | some k =>
    rw[c] at e
    have e':=lg e
    dsimp only at e'
    split at e'
    ·rename_i d' z
     injection e' with e'
     subst e'
     obtain⟨v,h1,h2⟩:=R.fz k _ z
     exact⟨v,by show some ((σ[k]?).getD none)=some (some v);rw[h1];rfl,h2⟩
    ·cases e'
 ow := λi d e=>by
  unfold v9 at e
  rcases lcO i own.length with h|h
  ·rw[laQ (by simpa using h),la1,lH h] at e
   cases e
  ·rw [laE (by simpa using h),lX,lT] at e
   cases c:caps[i - own.length]? with
   | none=>rw[c] at e;cases e
   | some k =>
    rw[c] at e
    have e':=lg e
    dsimp only at e'
    split at e' <;>cases e'
 od := λi d e=>by
  unfold v9 at e
  rcases lcO i own.length with h|h
  ·rw[laQ (by simpa using h),la1,lH h] at e
   cases e
  ·rw [laE (by simpa using h),lX,lT] at e
   cases c:caps[i - own.length]? with
   | none=>rw[c] at e;cases e
   | some k =>
    rw[c] at e
    have e':=lg e
    dsimp only at e'
    split at e' <;>cases e'
 ap := λi j s t a z1 z2 o1 o2 e1 e2=>by
  exfalso
  unfold v9 at z1
  rcases lcO i own.length with h|h
  ·rw[laQ (by simpa using h),la1,lH h] at z1
   injection z1 with z1;subst z1;cases o1
  ·rw [laE (by simpa using h),lX,lT] at z1
   cases c:caps[i - own.length]? with
   | none=>rw[c] at z1;cases z1
   | some k =>
    rw[c] at z1
    have e':=lg z1
    dsimp only at e'
    split at e' <;>(subst e';cases o1)
theorem zms {K:PySem.W.Frag}{H0 F0 H F:Hp}{ρ:Rho}{σ:St}{x:Str}{caps:List Nat}{ft:Rho->Rs Bool}{fe:Rho->Rs D}{ds es:List D}{J:It}{G:Hp->Prop}{vs:List V}{Fn:List V->Hp->Prop}(R:Rl K cl H0 F0 ρ σ H F)(W:Wlk J G vs)(hG:∀H'',Same F H''->G H'')(dq:Dts K cl F vs ds)(hl:ds.length<=1000000)
  (hc:vm ft fe (v9 1 caps ρ) ds=.ok es) (k:∀ys H' F',Gr F H F' H'->Dts K cl F' ys es->Fn ys H'):zbX (kI 0) (tDB K cl E0 ft) (tDE K cl E0 fe) (zes [x] caps σ) Fn J H:=by
 have hz:vs.length<=sizeLine:=sz6 (dq.length▸hl)
 refine zgZ W hz (λi ys H'=>∃F' es1 es2,Gr F H F' H'/\Dts K cl F' ys es1/\ys.length<=i/\es=es1++es2/\vm ft fe (v9 1 caps ρ) (ds.drop i)=.ok es2) ⟨F,[],es,Gr.refl R.fh,.nil,lr _,rfl,hc⟩ (λi ys H' _ ⟨F',_,_,g,_,h1,_⟩=>⟨hG H' (g.ff.trans g.fh),h1⟩) ?_ ?_
 ·rintro i v ys H' hv ⟨F',es1,es2,g,q1,hly,rfl,hc'⟩
  obtain⟨d,hd,qd⟩:=dq.get hv
  have hdr:ds.drop i=d::ds.drop (i+1):=by
   obtain⟨hk,e2⟩:=lv.mp hd
   rw[las hk,e2]
  rw[hdr] at hc'
  unfold vm at hc'
  have R1:=(R.grow g).cap [x] caps
  have R2:Rl K cl H' F' ((v9 1 caps ρ).set 0 (.fz d)) ((zes [x] caps σ).set 0 (some v)) H' F':=R1.set (qd.mono g.ff)
  refine⟨Kps.set rfl,H',F',_,F',R2,?_⟩
  cases e1:ft ((v9 1 caps ρ).set 0 (.fz d)) with
  | ok b =>
   rw[e1] at hc'
   intro H2 F2 g2
   cases b with
   | true =>
    rw[lH rfl]
    cases e2:fe ((v9 1 caps ρ).set 0 (.fz d)) with
    | ok e =>
     simp only[e2] at hc'
     refine⟨H',F',_,F2,R2.grow g2,?_⟩
     rw[e2]
     intro y H3 F3 g3 qy
     cases e3:vm ft fe (v9 1 caps ρ) (ds.drop (i+1)) with
     | ok es3 =>
      rw[e3] at hc'
      injection hc' with hc'
      exact⟨F3,es1++[e],es3,g.trans (g2.trans g3),(q1.mono (g2.ff.trans g3.ff)).append (.cons qy .nil),by simp;exact hly,by rw[← hc',lbu];rfl,rfl⟩
     | ex n=>rw[e3] at hc';cases hc'
     | no=>rw[e3] at hc';cases hc'
    | ex n=>simp only[e2] at hc';cases hc'
    | no=>simp only[e2] at hc';cases hc'
   | false =>
    rw[lap lD]
    exact⟨F2,es1,es2,g.trans g2,q1.mono g2.ff,Nat.le_succ_of_le hly,rfl,hc'⟩
  | ex n=>rw[e1] at hc';cases hc'
  | no=>rw[e1] at hc';cases hc'
 ·rintro ys H' ⟨F',es1,es2,g,q1,hly,rfl,hc'⟩
  rw[laI (by rw[dq.length];exact lr _)] at hc'
  injection hc' with hc'
  rw[← hc',lal] at k
  exact k ys H' F' g q1
variable {scope:Scope}{x:Str}{caps:List Nat}{elt tg iter:Expr}{ifs:List Expr}{fi:Rho->Rs (List D)}{ft:Rho->Rs Bool}{fe:Rho->Rs D}{pos:Pos}
structure CompD (X:Cx)(cl:Nat->Addr)(scope:Scope)(x:Str)(caps:List Nat)(tg:Expr)(ifs:List Expr)(elt:Expr)(ft:Rho->Rs Bool)(fe:Rho->Rs D):Prop where
 tgt:∀pins C ex s H,PG (cxC X pins scope [x] caps C ex s H) tg (kI 0)
 tst:∀pins C ex s H,XTs (cxC X pins scope [x] caps C ex s H) cl E0 ifs ft
 elm:∀pins C ex s H,XE (cxC X pins scope [x] caps C ex s H) cl E0 elt fe
theorem CompD.ci (h:CompD X cl scope x caps tg ifs elt ft fe):CompIn X scope [x] caps tg ifs elt (kI 0) (tDB X.K cl E0 ft) (tDE X.K cl E0 fe):=⟨h.tgt,h.tst,h.elm⟩
theorem OutI.comp {K:PySem.W.Frag}{H0 F0 H F:Hp}{ρ:Rho}{σ:St}{P:List V->Hp->Prop}(R:Rl K cl H0 F0 ρ σ H F)(o:OutA K cl E H0 F H (fCp fi ft fe caps ρ) P):OutI K cl E H0 F H (fi ρ) λJ H1=>zbX (kI 0) (tDB K cl E0 ft) (tDE K cl E0 fe) (zes [x] caps σ) P J H1:=by
 unfold fCp at o
 cases e:fi ρ with
 | ok ds =>
  rw[e] at o
  have o1:OutA K cl E H0 F H (if ds.length<=1000000 then vm ft fe (v9 1 caps ρ) ds else .no) P:=o
  intro J G vs H1 F1 g W hG dq
  split at o1
  ·rename_i hl
   cases e2:vm ft fe (v9 1 caps ρ) ds with
   | ok es=>rw[e2] at o1;exact zms (R.grow g) W hG dq hl e2 λys H' F' g' q=>o1 ys H' F' (g.trans g') q
   | ex n=>exact absurd e2 zaz
   | no=>rw[e2] at o1;exact o1.elim
  ·exact o1.elim
 | ex n=>rw[e] at o;exact o
 | no=>rw[e] at o;exact o
theorem wG (ok:CompOk X scope caps)(hc:X.calm=true)(hi:XI X cl E tg iter fi)(CI:CompD X cl scope x caps tg ifs elt ft fe)(hs:∀x,foldedSetIterable iter X.env x=pure x:=by intro _;rfl):XE X cl E (.ListComp elt [⟨tg,iter,ifs,0⟩] scope pos) (yS fi ft fe caps):=by
 refine XE'.out ⟨_,zhq ok hc hi CI.ci hs,λH0 F0 ρ σ H F Q R o=>⟨H0,F0,ρ,F,R,OutI.comp R ?_⟩⟩
 refine OutA.fst o λes ys H' F' g q o1=>?_
 intro p hp
 have fh:=(R.grow g).fh
 exact o1 _ _ _ (Gr.new fh hp) (.lst (.inl (.inl zW)) (q.mono (Same.upd (fh.free hp))))
def uf (j:Nat)(fs:Rho->Rs (List D)):Rho->Out:=λρ=>match fs ρ with | .ok es=>.nx (ρ.set j (.fz (.lst es))) | .ex n=>.ex n | .no=>.no
def vB (j:Nat)(fs:Rho->Rs (List D)):Rho->Out:=λρ=>match fs ρ with | .ok es=>.nx (ρ.set j (.ow es)) | .ex n=>.ex n | .no=>.no
theorem zlS {j:Nat}{y:Str}{py spos:Pos}(hN:X.N.Nodup)(hj:X.N[j]? = some y)(hy:X.env.scope.names.lookup y=some .local)(ok:CompOk X scope caps)(hc:X.calm=true)(hi:XI X cl E tg iter fi)(CI:CompD X cl scope x caps tg ifs elt ft fe)
  (hsw:swapsWith (.ListComp elt [⟨tg,iter,ifs,0⟩] scope pos) (some (.Name y py)) spos.line X.env=pure true) (hs:∀x,foldedSetIterable iter X.env x=pure x:=by intro _;rfl):XS X cl E (.Assign [.Name y py] (.ListComp elt [⟨tg,iter,ifs,0⟩] scope pos) spos) (uf j (fCp fi ft fe caps)):=by
 refine XS'.out ⟨_,zii hN hj hy ok hc hi CI.ci hsw hs,λH0 F0 ρ σ H F Dn R o=>⟨H0,F0,ρ,F,R,OutI.comp R ?_⟩⟩
 unfold uf at o
 cases e:fCp fi ft fe caps ρ with
 | ok es =>
  rw[e] at o
  intro ys H' F' g q p hp
  have fh:=(R.grow g).fh
  have g2:Gr F' H' (upd F' p (.lst ys)) (upd H' p (.lst ys)):=Gr.new fh hp
  exact o _ _ _ (((R.grow g).grow g2).set (.lst (.inl (.inl zW)) (q.mono g2.ff))) (g.ff.trans g2.ff)
 | ex n=>rw[e] at o;exact o
 | no=>rw[e] at o;exact o
theorem zjf {j:Nat}{y:Str}{py spos:Pos}(hN:X.N.Nodup)(hj:X.N[j]? = some y)(hy:X.env.scope.names.lookup y=some .local)(ok:CompOk X scope caps)(hc:X.calm=true)(hi:XI X cl E tg iter fi)(CI:CompD X cl scope x caps tg ifs elt ft fe)
  (hsw:swapsWith (.ListComp elt [⟨tg,iter,ifs,0⟩] scope pos) (some (.Name y py)) spos.line X.env=pure true) (hs:∀x,foldedSetIterable iter X.env x=pure x:=by intro _;rfl):XS X cl E (.Assign [.Name y py] (.ListComp elt [⟨tg,iter,ifs,0⟩] scope pos) spos) (vB j (fCp fi ft fe caps)):=by
 refine XS'.out ⟨_,zii hN hj hy ok hc hi CI.ci hsw hs,λH0 F0 ρ σ H F Dn R o=>⟨H0,F0,ρ,F,R,OutI.comp R ?_⟩⟩
 unfold vB at o
 cases e:fCp fi ft fe caps ρ with
 | ok es =>
  rw[e] at o
  intro ys H' F' g q p hp
  exact o _ _ _ ((R.grow g).setO hp q) g.ff
 | ex n=>rw[e] at o;exact o
 | no=>rw[e] at o;exact o
end
def Fn1 (K:PySem.W.Frag)(cl:Nat->Addr)(r:List V->Hp->VK->Prop)(g:List D->Option D):Prop :=
 ∀(F H:Hp) (vs:List V) (ds:List D) (d:D) (Q:VK),Same F H->Dts K cl F vs ds->g ds=some d->(∀v H' F',Gr F H F' H'->Dt K cl F' v d->Q v H')->r vs H Q
def qM:List D->Option D
 | [.str l]=>some (.int l.length)
 | [.lst l]=>some (.int l.length)
 | [.tup l]=>some (.int l.length)
 | _=>none
def unB:D->Bool
 | .bl b=>b
 | _=>false
def isB:D->Bool
 | .bl _=>true
 | _=>false
def unS:D->List Nat
 | .str l=>l
 | _=>[]
def isS:D->Bool
 | .str _=>true
 | _=>false
def zlc:List D->Option D
 | [.lst ds]=>if ds.all isB=true then some (.bl (ds.all unB)) else none
 | _=>none
def zl2:List D->Option D
 | [.lst ds]=>if ds.all isB=true then some (.bl (ds.any unB)) else none
 | _=>none
def zhg (ds:List D):Option (List D):=if ds.all isS=true/\ds.length<64 then some ((My.sortF (ds.map unS)).map .str) else none
def zgx:List D->Option (List D)
 | [.lst ds]=>zhg ds
 | [.tup ds]=>zhg ds
 | _=>none
def zj3:List D->Option D
 | [.lst ds]=>some (.tup ds)
 | [.tup ds]=>some (.tup ds)
 | _=>none
def yX:D->D->Option D
 | .str l,.str m=>some (.bl (m.isPrefixOf l))
 | _,_=>none
def zhN:D->D->Option D
 | .str [],.lst ds=>if ds.all isS=true/\(ds.map unS).flatten.length<=1000000 then some (.str (ds.map unS).flatten) else none
 | _,_=>none
def zcQ (g:PyData->Bool)(d:D):Option D:=if d.pl=true then some (.bl (g d.py)) else none
def isInt:PyData->Bool:=λd=>match d with | .int _=>true | .bool _=>true|_=>false
def isBool:PyData->Bool:=λd=>match d with | .bool _=>true|_=>false
def isStr:PyData->Bool:=λd=>match d with | .str _=>true|_=>false
def isTup:PyData->Bool:=λd=>match d with | .tuple _=>true|_=>false
section
variable {K:PySem.W.Frag}{cl:Nat->Addr}{F H:Hp}
theorem Dts.bools:∀{vs:List V}{ds:List D},Dts K cl F vs ds->ds.all isB=true->vs=(ds.map unB).map V.bl
 | _,_,.nil,_=>rfl
 | _,_,.cons q r,h=>by
  rw[lcs,lab] at h
  have:=Dts.bools r h.2
  cases q <;>simp[isB] at h
  rw[this];rfl
theorem Dts.texts:∀{vs:List V}{ds:List D},Dts K cl F vs ds->ds.all isS=true->vs=vT (ds.map unS)/\(∀x∈ds.map unS,TxtOk (T x))/\ds=(ds.map unS).map .str
 | _,_,.nil,_=>⟨rfl,by simp,rfl⟩
 | _,_,.cons q r,h=>by
  rw[lcs,lab] at h
  obtain⟨e1,e2,e3⟩:=Dts.texts r h.2
  cases q with
  | str l ok =>
   refine⟨by rw[e1];rfl,λx hx=>?_,by rw[lw,lw,← e3];rfl⟩
   rw[lw] at hx
   rcases lB.mp hx with rfl|hx
   ·exact ok
   ·exact e2 x hx
  | _=>simp[isS] at h
theorem zdJ {ls:List (List Nat)}(h:∀x∈ls,TxtOk (T x)):Dts K cl F (vT ls) (ls.map .str):=zbW λx hx=>.str x (h x hx)
theorem n_len:Fn1 K cl (λxs H Q=>∃x n,xs=[x]/\zox K x H n/\Q (.int n) H) qM:=λF H vs ds d Q s q e k=>by
 match ds,q,e with
 | [.str l],q,e =>
  obtain⟨v,rfl,q1⟩:=q.one
  obtain rfl:=lg e
  cases q1 with
  | str l ok=>exact⟨_,l.length,rfl,⟨sz6 ok.2,(zas l).symm⟩,k _ _ _ (Gr.refl s) (.int _)⟩
 | [.lst l],q,e =>
  obtain⟨v,rfl,q1⟩:=q.one
  obtain rfl:=lg e
  cases q1 with
  | lst sq dq=>exact⟨_,l.length,rfl,.inl ⟨_,s.seq sq,dq.length.symm⟩,k _ _ _ (Gr.refl s) (.int _)⟩
 | [.tup l],q,e =>
  obtain⟨v,rfl,q1⟩:=q.one
  obtain rfl:=lg e
  cases q1 with
  | tup sq dq=>exact⟨_,l.length,rfl,.inr ⟨_,s.seqT sq,dq.length.symm⟩,k _ _ _ (Gr.refl s) (.int _)⟩
theorem n_all:Fn1 K cl (λxs H Q=>∃(a:Addr) (bs:List Bool),xs=[.ref a]/\SqL K H a (bs.map V.bl)/\Q (.bl (bs.all id)) H) zlc:=λF H vs ds d Q s q e k=>by
 match ds,q,e with
 | [.lst l],q,e =>
  obtain⟨v,rfl,q1⟩:=q.one
  dsimp only [zlc] at e
  split at e
  ·rename_i h
   obtain rfl:=lg e
   cases q1 with
   | lst sq dq =>
    rw[dq.bools h] at sq
    refine⟨_,_,rfl,s.seq sq,?_⟩
    have:=k _ _ _ (Gr.refl s) (.bl (l.all unB))
    rwa [ldz]
  ·cases e
theorem n_any:Fn1 K cl (λxs H Q=>∃(a:Addr) (bs:List Bool),xs=[.ref a]/\SqL K H a (bs.map V.bl)/\Q (.bl (bs.any id)) H) zl2:=λF H vs ds d Q s q e k=>by
 match ds,q,e with
 | [.lst l],q,e =>
  obtain⟨v,rfl,q1⟩:=q.one
  dsimp only [zl2] at e
  split at e
  ·rename_i h
   obtain rfl:=lg e
   cases q1 with
   | lst sq dq =>
    rw[dq.bools h] at sq
    refine⟨_,_,rfl,s.seq sq,?_⟩
    have:=k _ _ _ (Gr.refl s) (.bl (l.any unB))
    rwa [lee]
  ·cases e
theorem zew:Fn1 K cl (λxs H Q=>∃p ys,xs=[.ref p]/\((SqL K H p ys/\∀l,H l=none->Q (.ref l) (upd H l (.tup ys)))∨(SqT K H p ys/\Q (.ref p) H))) zj3:=λF H vs ds d Q s q e k=>by
 match ds,q,e with
 | [.lst l],q,e =>
  obtain⟨v,rfl,q1⟩:=q.one
  obtain rfl:=lg e
  cases q1 with
  | lst sq dq=>exact⟨_,_,rfl,.inl ⟨s.seq sq,λp hp=>k _ _ _ (Gr.new s hp) (.tup (.inl (.inl zW)) (dq.mono (Same.upd (s.free hp))))⟩⟩
 | [.tup l],q,e =>
  obtain⟨v,rfl,q1⟩:=q.one
  obtain rfl:=lg e
  cases q1 with
  | tup sq dq=>exact⟨_,_,rfl,.inr ⟨s.seqT sq,k _ _ _ (Gr.refl s) (.tup sq dq)⟩⟩
end
section
variable {X:Cx}{cl:Nat->Addr}{E:XK}{e o:Expr}{es:List Expr}{fa fb:Rho->Rs D}{fs:Rho->Rs (List D)}{x:Str}{p pos:Pos}
theorem z8 {id:String}{r:List V->Hp->VK->Prop}{g:List D->Option D}(hc:zaa X (.builtin id) r)(hF:Fn1 X.K cl r g)(hg:Gl X x)(hm:X.mg x=none)(hv:bootBuiltins x=some (.builtin id))(ha:XA X cl E (e::es) fs)(he:starEach (e::es) X.env=(false,eval e X.env)::starEach es X.env)(hn:x ≠ "__name__" := by decide)(hdb:(x == ("__debug__" : Str))=false:=by decide)(hpl:(backTo pos (starEach es X.env)).any (·.1)=false:=by rfl):XE X cl E (.Call (.Name x p) (e::es) [] pos) (fO g fs):=by
 obtain⟨t,pt,rt⟩:=ha.ex
 refine XE'.out ⟨_,zbi hc hg hm hv pt hn hdb he hpl,λH0 F0 ρ σ H F Q R o=>rt H0 F0 ρ σ H F _ R (OutA.fst o λds vs H1 F1 g1 q o1=>?_)⟩
 obtain⟨z,hz,k⟩:=o1.lf
 exact hF F1 H1 vs ds z _ (R.grow g1).fh q hz k
theorem vQ {T:String}{r:List V->Hp->VK->Prop}{g:List D->Option D}(hc:zaa X (.type T) r)(hF:Fn1 X.K cl r g)(hg:Gl X x)(hm:X.mg x=none)(hv:bootBuiltins x=some (.type T))(ha:XA X cl E (e::es) fs)(he:starEach (e::es) X.env=(false,eval e X.env)::starEach es X.env)(hn:x ≠ "__name__" := by decide)(hdb:(x == ("__debug__" : Str))=false:=by decide)(hpl:(backTo pos (starEach es X.env)).any (·.1)=false:=by rfl):XE X cl E (.Call (.Name x p) (e::es) [] pos) (fO g fs):=by
 obtain⟨t,pt,rt⟩:=ha.ex
 refine XE'.out ⟨_,zhu hc hg hm hv pt hn hdb he hpl,λH0 F0 ρ σ H F Q R o=>rt H0 F0 ρ σ H F _ R (OutA.fst o λds vs H1 F1 g1 q o1=>?_)⟩
 obtain⟨z,hz,k⟩:=o1.lf
 exact hF F1 H1 vs ds z _ (R.grow g1).fh q hz k
theorem zdY {n:String}{b:Expr}{g:PyData->Bool}(hk:∀d,PySem.W.kitOne X.K (.type (tyN d)) (.type n)=some (g d))(hg:Gl X "isinstance")(hm:X.mg "isinstance" = none)(ha:XE X cl E e fa)(hb:PE X b (tC (.ty n)))(h1:starEach [e,b] X.env=(false,eval e X.env)::starEach [b] X.env)(h2:starEach [b] X.env=(false,eval b X.env)::starEach [] X.env:=by rfl)(hpl:(backTo pos (starEach [b] X.env)).any (·.1)=false:=by rfl):XE X cl E (.Call (.Name "isinstance" p) [e,b] [] pos) (f1 (zcQ g) fa):=by
 obtain⟨t,pt,rt⟩:=ha.ex
 refine XE'.out ⟨_,zbi zeh hg hm boot_isinstance (xO pt (xO hb qO h2) h1) (by decide) (by decide) h1 hpl,λH0 F0 ρ σ H F Q R o=>rt H0 F0 ρ σ H F _ R (OutE.fst o λd v H1 F1 g1 q o1=>?_)⟩
 obtain⟨z,hz,k⟩:=o1.lf
 unfold zcQ at hz
 split at hz
 ·rename_i hp
  obtain rfl:=lg hz
  have fh:=(R.grow g1).fh
  exact⟨v,d.py,n,g d.py,rfl,(q.is hp).mono fh,hk _,k _ _ _ (Gr.refl fh) (.bl _)⟩
 ·cases hz
def fM (chk:D->Bool)(g:D->D->Option D)(fa fb:Rho->Rs D):Rho->Rs D:=λρ=>(fa ρ).bind λa=>if chk a=true then(fb ρ).bind λb=>lf (g a b) else .no
structure Mth (X:Cx)(o e:Expr)(name:Str)(apos cpos:Pos):Prop where
 hs:starEach [e] X.env=(false,eval e X.env)::starEach [] X.env
 base:attributeBase o name X.env (eval o X.env)=eval o X.env
 few:((backTo cpos (starEach [e] X.env)).all (λx=>!x.1)&&(backToKw cpos (keywordEach [] X.env)).all (λx=>x.1.isSome)&&decide (([e]:List Expr).length+([]:List Keyword).length+(if ([]:List Keyword).isEmpty then 0 else 1)<30))=true
 line:(apos.endLine == cpos.line)=true
 plain:(backTo cpos (starEach [] X.env)).any (·.1)=false
theorem j7 {apos cpos:Pos}(ho:XE X cl E o fa)(ha:XE X cl E e fb)(m:Mth X o e "startswith" apos cpos):XE X cl E (.Call (.Attribute o "startswith" apos) [e] [] cpos) (fM isS yX fa fb):=by
 obtain⟨t,pt,rt⟩:=ho.ex
 obtain⟨u,pu,ru⟩:=ha.ex
 refine XE'.out ⟨_,zgW PySem.F.plainAttrs_str PySem.F.slot_str_startswith PySem.F.type_str_startswith zht pt (xO pu qO m.hs) m.base m.few m.line m.hs m.plain,λH0 F0 ρ σ H F Q R o=>rt H0 F0 ρ σ H F _ R (OutE.fst o λd v H1 F1 g1 q o1=>?_)⟩
 split at o1
 ·rename_i hd
  cases q with
  | str l ok =>
   refine⟨rfl,ru H0 F0 ρ σ H1 F1 _ (R.grow g1) (OutE.fst o1 λd2 v2 H2 F2 g2 q2 o2=>?_)⟩
   obtain⟨z,hz,k⟩:=o2.lf
   cases q2 with
   | str m ok2 =>
    obtain rfl:=lg hz
    exact⟨l,m,rfl,rfl,k _ _ _ (Gr.refl (R.grow (g1.trans g2)).fh) (.bl _)⟩
   | _=>cases hz
  | _=>cases hd
 ·exact o1.elim
theorem zln {apos cpos:Pos}(ho:XE X cl E o fa)(ha:XE X cl E e fb)(m:Mth X o e "join" apos cpos):XE X cl E (.Call (.Attribute o "join" apos) [e] [] cpos) (fM isS zhN fa fb):=by
 obtain⟨t,pt,rt⟩:=ho.ex
 obtain⟨u,pu,ru⟩:=ha.ex
 refine XE'.out ⟨_,zgW PySem.F.plainAttrs_str PySem.F.slot_str_join PySem.F.type_str_join zkR pt (xO pu qO m.hs) m.base m.few m.line m.hs m.plain,λH0 F0 ρ σ H F Q R o=>rt H0 F0 ρ σ H F _ R (OutE.fst o λd v H1 F1 g1 q o1=>?_)⟩
 split at o1
 ·rename_i hd
  cases q with
  | str l ok =>
   refine⟨rfl,ru H0 F0 ρ σ H1 F1 _ (R.grow g1) (OutE.fst o1 λd2 v2 H2 F2 g2 q2 o2=>?_)⟩
   obtain⟨z,hz,k⟩:=o2.lf
   cases q2 with
   | lst sq dq =>
    rename_i ds
    match l,hz with
    | [],hz =>
     dsimp only [zhN] at hz
     split at hz
     ·rename_i h
      obtain rfl:=lg hz
      obtain⟨e1,e2,e3⟩:=dq.texts h.1
      have fh:=(R.grow (g1.trans g2)).fh
      rw[e1] at sq
      refine⟨_,ds.map unS,rfl,rfl,fh.seq sq,h.2,k _ _ _ (Gr.refl fh) (.str _ (zb3 (λc hc=>?_) h.2))⟩
      obtain⟨y,hy,hc⟩:=List.mem_flatten.mp hc
      have a:(T y).cps.all (· < 0x110000)=true:=(e2 y hy).1
      simp only[T,lcF,laL,lbh] at a
      exact a c hc
     ·cases hz
    | _::_,hz=>cases hz
   | _=>cases l <;>cases hz
  | _=>cases hd
 ·exact o1.elim
theorem vP {a b:Expr}(ha:XE X cl E a fa)(hb:XE X cl E b fb)(hs:zfg b):XE X cl E (.Subscript a b pos) (f2 ixD fa fb):=by
 obtain⟨t,pt,rt⟩:=ha.ex
 obtain⟨u,pu,ru⟩:=hb.ex
 refine XE'.out ⟨_,zoj zmv pt pu hs,λH0 F0 ρ σ H F Q R o=>rt H0 F0 ρ σ H F _ R (OutE.fst o λd v H1 F1 g1 q o1=>?_)⟩
 refine ru H0 F0 ρ σ H1 F1 _ (R.grow g1) (OutE.fst o1 λe w H2 F2 g2 q2 o2=>?_)
 obtain⟨z,hz,k⟩:=o2.lf
 exact zpi F2 H2 v w d e z _ (R.grow (g1.trans g2)).fh (q.mono g2.ff) q2 hz k
def xV:Rho->Rs (Option Int):=λ_=>.ok none
def xQ (f:Rho->Rs D):Rho->Rs (Option Int):=λρ=>(f ρ).bind λd=>match d with | .int i=>.ok (some i)|_=>.no
theorem jP:XO' X cl E none xV:=⟨_,zlg,λH0 F0 ρ σ H F Q R o=>o H F (Gr.refl R.fh)⟩
theorem jO (h:XE X cl E e fa):XO' X cl E (some e) (xQ fa):=by
 obtain⟨t,pt,rt⟩:=h.ex
 refine⟨_,zkD pt,λH0 F0 ρ σ H F Q R o=>rt H0 F0 ρ σ H F _ R ?_⟩
 unfold xQ at o
 cases e:fa ρ with
 | ok d =>
  rw[e] at o
  intro v H' F' g q
  cases q with
  | int i=>exact⟨i,rfl,o H' F' g⟩
  | _=>exact o.elim
 | ex n=>rw[e] at o;exact o
 | no=>rw[e] at o;exact o
def fSl (fa:Rho->Rs D)(fl fh:Rho->Rs (Option Int)):Rho->Rs D:=λρ=>(fa ρ).bind λa=>(fl ρ).bind λl=>(fh ρ).bind λh=>lf (slD a l h)
theorem zjg {α:Type}(xs:List α)(lo hi:Option Int):(zdo xs lo hi).length<=xs.length:=by
 unfold zdo
 rw[lae,lcB];omega
theorem Dts.cut {K:PySem.W.Frag}{F:Hp}{vs:List V}{ds:List D}(q:Dts K cl F vs ds)(lo hi:Option Int):Dts K cl F (zgH vs lo hi) (zdo ds lo hi):=by
 unfold zgH zdo
 rw[q.length]
 exact(q.drop _).take _
theorem qw {lo hi:Option Expr}{p2:Pos}{fl fh:Rho->Rs (Option Int)}(ha:XE X cl E e fa)(hl:XO' X cl E lo fl)(hh:XO' X cl E hi fh):XE X cl E (.Subscript e (.Slice lo hi none p2) pos) (fSl fa fl fh):=by
 obtain⟨t,pt,rt⟩:=ha.ex
 obtain⟨u,pu,ru⟩:=hl
 obtain⟨w,pw,rw'⟩:=hh
 refine XE'.out ⟨_,zjp (SlR.or zlt (SlR.or zk2 zmz)) pt pu pw,λH0 F0 ρ σ H F Q R o=>rt H0 F0 ρ σ H F _ R (OutE.fst o λd v H1 F1 g1 q o1=>?_)⟩
 refine ru H0 F0 ρ σ H1 F1 _ (R.grow g1) ?_
 cases e1:fl ρ with
 | ok l =>
  rw[e1] at o1
  intro H2 F2 g2
  refine rw' H0 F0 ρ σ H2 F2 _ ((R.grow g1).grow g2) ?_
  cases e2:fh ρ with
  | ok h =>
   rw[e2] at o1
   intro H3 F3 g3
   have o3:OutE X.K cl E H0 F3 H3 (lf (slD d l h)) Q:=OutE.grow o1 (g2.trans g3)
   obtain⟨z,hz,k⟩:=o3.lf
   have fh:=(((R.grow g1).grow g2).grow g3).fh
   have q3:=q.mono (g2.trans g3).ff
   cases q3 with
   | lst sq dq =>
    obtain rfl:=lg hz
    refine .inl ⟨_,_,rfl,fh.seq sq,λp hp=>k _ _ _ (Gr.new fh hp) (.lst (.inl (.inl zW)) ((dq.cut l h).mono (Same.upd (fh.free hp))))⟩
   | tup sq dq =>
    obtain rfl:=lg hz
    refine .inr (.inl ⟨_,_,rfl,fh.seqT sq,λp H' hs qq=>?_⟩)
    obtain⟨F',g,q'⟩:=Gr.tup fh hs qq (dq.cut l h)
    exact k _ _ _ g q'
   | str ls ok =>
    obtain rfl:=lg hz
    refine .inr (.inr ⟨_,rfl,sz6 ok.2,?_⟩)
    rw[za8,zas]
    refine k _ _ _ (Gr.refl fh) (.str (zdo ls l h) (zfb ok (λc hc=>?_) (laj (zjg _ _ _) (by have:=ok.2;rw[zas] at this;exact this))))
    exact ldi (lb3 hc)
   | _=>cases hz
  | ex n=>rw[e2] at o1;exact o1
  | no=>rw[e2] at o1;exact o1
 | ex n=>rw[e1] at o1;exact o1
 | no=>rw[e1] at o1;exact o1
end
def XL (X:Cx)(cl:Nat->Addr)(E:XK)(e:Expr)(f:Rho->Rs (List D)):Prop :=
 ∃t:TE,PE X e t/\∀(H0 F0:Hp) (ρ:Rho) (σ:St) (H F:Hp) (Q:VK),Rl X.K cl H0 F0 ρ σ H F->OutA X.K cl E H0 F H (f ρ) (λvs H1=>∀p,H1 p=none->Q (.ref p) (upd H1 p (.lst vs)))->t σ H Q
def fLs (f:Rho->Rs (List D)):Rho->Rs D:=λρ=>(f ρ).bind λds=>.ok (.lst ds)
section
variable {X:Cx}{cl:Nat->Addr}{E:XK}{e o:Expr}{es:List Expr}{fa fb:Rho->Rs D}{fs:Rho->Rs (List D)}{x:Str}{p pos:Pos}
theorem XL.xe (h:XL X cl E e fs):XE X cl E e (fLs fs):=by
 obtain⟨t,pt,rt⟩:=h
 refine XE'.out ⟨_,pt,λH0 F0 ρ σ H F Q R o=>rt H0 F0 ρ σ H F _ R (OutA.fst o λds vs H1 F1 g q o1=>λp hp=>?_)⟩
 have fh:=(R.grow g).fh
 exact o1 _ _ _ (Gr.new fh hp) (.lst (.inl (.inl zW)) (q.mono (Same.upd (fh.free hp))))
def lf' {α:Type}:Option α->Rs α
 | some d=>.ok d
 | none=>.no
def fL (g:List D->Option (List D))(fs:Rho->Rs (List D)):Rho->Rs (List D):=λρ=>(fs ρ).bind λas=>lf' (g as)
def fL2 (g:D->D->Option (List D))(fa fb:Rho->Rs D):Rho->Rs (List D):=λρ=>(fa ρ).bind λa=>(fb ρ).bind λb=>lf' (g a b)
theorem OutA.lf {K:PySem.W.Frag}{H0 F H:Hp}{o:Option (List D)}{Q:List V->Hp->Prop}(h:OutA K cl E H0 F H (lf' o) Q):∃d,o=some d/\∀v H' F',Gr F H F' H'->Dts K cl F' v d->Q v H':=by
 cases o with
 | none=>exact h.elim
 | some d=>exact⟨d,rfl,h⟩
def szL (ds:List D):Option (List D):=if ds.length<=1000000 then some ds else none
theorem zmj (h:XA X cl E es fs):XL X cl E (.List es pos) (fL szL fs):=by
 obtain⟨t,pt,rt⟩:=h.ex
 refine⟨_,zjM pt,λH0 F0 ρ σ H F Q R o=>rt H0 F0 ρ σ H F _ R (OutA.fstA o λds vs H1 F1 g q o1=>?_)⟩
 obtain⟨z,hz,k⟩:=o1.lf
 unfold szL at hz
 split at hz
 ·rename_i hl
  obtain rfl:=lg hz
  exact⟨sz6 (q.length▸hl),λp hp=>k vs H1 F1 (Gr.refl (R.grow g).fh) q p hp⟩
 ·cases hz
def zkE:D->D->Option (List D)
 | .lst l,.lst m=>if l.length+m.length<=1000000 then some (l++m) else none
 | _,_=>none
theorem zcx {K:PySem.W.Frag}{F H:Hp}{a:Addr}{vs:List V}{ds z:List D}{Q:List V->Hp->Prop}(fh:Same F H)(dq:Dts K cl F vs ds)(hz:zhg ds=some z)(k:∀v H' F',Gr F H F' H'->Dts K cl F' v z->Q v H'):vs=vT (ds.map unS)/\(ds.map unS).length<64/\∀ms,ms.Perm (ds.map unS)->Srt ms->Q (vT ms) H:=by
 unfold zhg at hz
 split at hz
 ·rename_i h
  obtain rfl:=lg hz
  obtain⟨e1,e2,e3⟩:=dq.texts h.1
  refine⟨e1,by rw[lh];exact h.2,λms pm sm=>?_⟩
  obtain rfl:=My.sortF_eq sm pm
  exact k _ _ _ (Gr.refl fh) (zdJ λy hy=>e2 y (My.sortF_mem.mp hy))
 ·cases hz
theorem zeo (hg:Gl X "sorted")(hm:X.mg "sorted" = none)(hv:bootBuiltins "sorted" = some (.builtin "sorted"))(h:XE X cl E e fa)(hs:starEach [e] X.env=(false,eval e X.env)::starEach [] X.env)(hpl:(backTo pos (starEach [] X.env)).any (·.1)=false:=by rfl):XL X cl E (.Call (.Name "sorted" p) [e] [] pos) (fL zgx (zj fa zG)):=by
 obtain⟨t,pt,rt⟩:=(zf h zx hs).ex
 have hc:zaa X (.builtin "sorted") (λxs H Q=>(∃a ls,xs=[.ref a]/\SqL X.K H a (vT ls)/\ls.length<64/\∀p ms,H p=none->ms.Perm ls->Srt ms->Q (.ref p) (upd H p (.lst (vT ms))))∨(∃a ls,xs=[.ref a]/\SqT X.K H a (vT ls)/\ls.length<64/\∀p ms,H p=none->ms.Perm ls->Srt ms->Q (.ref p) (upd H p (.lst (vT ms))))):=λpins s σ H xs us Q I r q=>by
  rcases q with q|q
  ·exact zdr pins s σ H xs us Q I r q
  ·exact zdL pins s σ H xs us Q I r q
 refine⟨_,zbi hc hg hm hv pt (by decide) (by decide) hs hpl,λH0 F0 ρ σ H F Q R o=>rt H0 F0 ρ σ H F _ R (OutA.fstA o λds vs H1 F1 g q o1=>?_)⟩
 obtain⟨z,hz,k⟩:=o1.lf
 have fh:=(R.grow g).fh
 match ds,q,hz with
 | [.lst l],q,hz =>
  obtain⟨v,rfl,q1⟩:=q.one
  cases q1 with
  | lst sq dq =>
   obtain⟨e1,e2,e3⟩:=zcx (a:=0) fh dq hz k
   rw[e1] at sq
   exact .inl ⟨_,_,rfl,fh.seq sq,e2,λp ms hp pm sm=>e3 ms pm sm p hp⟩
 | [.tup l],q,hz =>
  obtain⟨v,rfl,q1⟩:=q.one
  cases q1 with
  | tup sq dq =>
   obtain⟨e1,e2,e3⟩:=zcx (a:=0) fh dq hz k
   rw[e1] at sq
   exact .inr ⟨_,_,rfl,fh.seqT sq,e2,λp ms hp pm sm=>e3 ms pm sm p hp⟩
theorem zeG {i:Nat}{pos':Pos}(hN:X.N.Nodup)(hi:X.N[i]? = some x)(hx:Loc X.env.scope x)(he:XL X cl E e fs)(hs:swapsWith e (some (.Name x pos')) pos.line X.env=pure false:=by rfl)(hf:X.fn x=true∨X.env.scope.names.lookup x=some .local:=by first|exact .inl rfl|exact .inr rfl|assumption) :
  XS X cl E (.Assign [.Name x pos'] e pos) (vB i fs):=by
 obtain⟨t,pt,rt⟩:=he
 refine XS'.out ⟨_,zdG hN hi hx pt hs hf,λH0 F0 ρ σ H F Dn R o=>rt H0 F0 ρ σ H F _ R ?_⟩
 unfold vB at o
 cases e:fs ρ with
 | ok d=>rw[e] at o;exact λvs H' F' gg q p hp=>o _ _ F' ((R.grow gg).setO hp q) gg.ff
 | ex n=>rw[e] at o;exact o
 | no=>rw[e] at o;exact o
theorem zgK {i:Nat}{o:Expr}{apos cpos:Pos}(ho:PE X o (ziy i))(ha:XE X cl E e fa)(m:Mth X o e "append" apos cpos)(hs:swapsWith (.Call (.Attribute o "append" apos) [e] [] cpos) none pos.line X.env=pure false:=by rfl):XS X cl E (.Expr (.Call (.Attribute o "append" apos) [e] [] cpos) pos) (zcp i fa):=by
 obtain⟨u,pu,ru⟩:=ha.ex
 refine XS'.out ⟨_,zfi (zgW PySem.F.plainAttrs_list PySem.F.slot_list_append PySem.F.type_list_append zhk ho (xO pu qO m.hs) m.base m.few m.line m.hs m.plain) hs,λH0 F0 ρ σ H F Dn R oo=>?_⟩
 unfold zcp at oo
 cases hw:owL ρ i with
 | none=>rw[hw] at oo;exact oo.elim
 | some ds =>
  rw[hw] at oo
  have hd:=zaf hw
  obtain⟨a,vs,h1,h2,h3,h4,h5⟩:=R.ow i ds hd
  refine⟨.ref a,h1,.inl ⟨rfl,vs,.inl (.inl h2)⟩,ru H0 F0 ρ σ H F _ R ?_⟩
  cases e:fa ρ with
  | ok d =>
   simp only[e] at oo
   split at oo
   ·rename_i hl
    intro v H1 F1 g q
    have R1:=R.grow g
    refine⟨a,vs,v,rfl,rfl,g.hh _ _ h2,?_,?_⟩
    ·rw[h5.length,laP];omega
    ·exact oo _ _ F1 (R1.put hd h1 ((h5.mono g.ff).append (.cons q .nil))) g.ff
   ·exact oo.elim
  | ex n=>simp only[e] at oo;exact oo
  | no=>simp only[e] at oo;exact oo.elim
def zdm (i j:Nat)(f:Rho->Rs D):Rho->Out:=λρ=>match owL ρ i with
 | some ds=>(match f ρ with | .ok (.int k)=>(if 0<=k/\k<1000000 then(match ds[k.toNat]? with|some d=>.nx ((ρ.set i (.ow (ds.eraseIdx k.toNat))).set j (.fz d))|none=>.no) else .no) | .ex n=>.ex n|_=>.no)
 | none=>.no
theorem Dts.erase {K:PySem.W.Frag}{F:Hp}:∀{vs:List V}{ds:List D} (k:Nat),Dts K cl F vs ds->Dts K cl F (vs.eraseIdx k) (ds.eraseIdx k)
 | _,_,_,.nil=>.nil
 | _,_,0,.cons _ r=>r
 | _,_,k+1,.cons q r=>.cons q (Dts.erase k r)
theorem zmH {i j:Nat}{o:Expr}{y:Str}{py apos cpos:Pos}(hN:X.N.Nodup)(hj:X.N[j]? = some y)(hy:Loc X.env.scope y)(ho:PE X o (ziy i))(ha:XE X cl E e fa)(m:Mth X o e "pop" apos cpos)(hs:swapsWith (.Call (.Attribute o "pop" apos) [e] [] cpos) (some (.Name y py)) pos.line X.env=pure false:=by rfl)(hf:X.fn y=true∨X.env.scope.names.lookup y=some .local:=by first|exact .inl rfl|exact .inr rfl|assumption) :
  XS X cl E (.Assign [.Name y py] (.Call (.Attribute o "pop" apos) [e] [] cpos) pos) (zdm i j fa):=by
 obtain⟨u,pu,ru⟩:=ha.ex
 refine XS'.out ⟨_,zdG hN hj hy (zgW PySem.F.plainAttrs_list PySem.F.slot_list_pop PySem.F.type_list_pop ziC ho (xO pu qO m.hs) m.base m.few m.line m.hs m.plain) hs hf,λH0 F0 ρ σ H F Dn R oo=>?_⟩
 unfold zdm at oo
 cases hw:owL ρ i with
 | none=>rw[hw] at oo;exact oo.elim
 | some ds =>
  rw[hw] at oo
  have hd:=zaf hw
  obtain⟨a,vs,h1,h2,h3,h4,h5⟩:=R.ow i ds hd
  refine⟨.ref a,h1,.inl ⟨rfl,vs,.inl (.inl h2)⟩,ru H0 F0 ρ σ H F _ R ?_⟩
  cases e:fa ρ with
  | ok d =>
   simp only[e] at oo
   intro v H1 F1 g q
   cases q with
   | int k =>
    dsimp only at oo
    split at oo
    ·rename_i hk
     cases hg:ds[k.toNat]? with
     | none=>simp only[hg] at oo;exact oo.elim
     | some d =>
      simp only[hg] at oo
      have R1:=R.grow g
      have h5':=h5.mono g.ff
      obtain⟨w,hw1,hw2⟩:=h5'.get' hg
      have hlt:k.toNat<vs.length:=(lv.mp hw1).1
      refine⟨a,vs,k,k.toNat,w,rfl,rfl,g.hh _ _ h2,by omega,by omega,?_,hw1,?_⟩
      ·exact seqIndex_of hk.1 (by omega)
      ·exact oo _ _ F1 ((R1.put hd h1 (h5'.erase _)).set hw2) g.ff
    ·exact oo.elim
   | _=>exact oo.elim
  | ex n=>simp only[e] at oo;exact oo
  | no=>simp only[e] at oo;exact oo.elim
end
section
variable {X:Cx}{cl:Nat->Addr}{E:XK}{e o a b c:Expr}{es:List Expr}{fa fb fc:Rho->Rs D}{fs:Rho->Rs (List D)}{x y:Str}{p pos:Pos}
theorem zlL {i j:Nat}{px py tp:Pos}{k:Nat}(hg:PG X (.Tuple [.Name x px,.Name y py] k tp) (zlY X.K 2 (zbK (kI i) (zbK (kI j) zlV))))(he:XE X cl E e fa)(hs:swapsWithSole [.Tuple [.Name x px,.Name y py] k tp] e pos.line X.env=pure false:=by rfl)(hw:swappedStores [.Tuple [.Name x px,.Name y py] k tp] e X.env=pure none:=by rfl) :
  XS X cl E (.Assign [.Tuple [.Name x px,.Name y py] k tp] e pos) (kj i j fa):=by
 obtain⟨t,pt,rt⟩:=he.ex
 refine XS'.out ⟨_,zmq pt hg hs hw,λH0 F0 ρ σ H F Dn R o=>rt H0 F0 ρ σ H F _ R ?_⟩
 unfold kj at o
 cases e:fa ρ with
 | ok d =>
  rw[e] at o
  intro v H' F' g q
  match d,q,o with
  | .tup [d1,d2],q,o =>
   cases q with
   | tup sq dq =>
    obtain⟨v1,v2,rfl,q1,q2⟩:=dq.two
    have R1:=R.grow g
    exact⟨_,_,rfl,R1.fh.seqT sq,rfl,v1,_,rfl,v2,_,rfl,rfl,o _ _ F' ((R1.set q1).set q2) g.ff⟩
  | .non,_,o=>exact o.elim
  | .bl _,_,o=>exact o.elim
  | .int _,_,o=>exact o.elim
  | .str _,_,o=>exact o.elim
  | .lst _,_,o=>exact o.elim
  | .dct _,_,o=>exact o.elim
  | .exc _,_,o=>exact o.elim
  | .tup [],_,o=>exact o.elim
  | .tup [_],_,o=>exact o.elim
  | .tup (_::_::_::_),_,o=>exact o.elim
 | ex n=>rw[e] at o;exact o
 | no=>rw[e] at o;exact o
def fCh (g g':D->D->Option D)(fa fb fc:Rho->Rs D):Rho->Rs D:=λρ=>(fa ρ).bind λa=>(fb ρ).bind λb=>(lf (g a b)).bind λz=>(tru z).bind λk=>if k=true then(fc ρ).bind λc=>lf (g' b c) else .ok (.bl false)
theorem zd1 {H0 F0 H F:Hp}{ρ:Rho}{σ:St}{r r':R2}{g g':D->D->Option D}{ta tb tc:TE}{Q:VK}(hg:Op2 X.K cl r g)(hg':Op2 X.K cl r' g')(R:Rl X.K cl H0 F0 ρ σ H F)
  (ra:∀(H0 F0:Hp) (ρ:Rho) (σ:St) (H F:Hp) (Q:VK),Rl X.K cl H0 F0 ρ σ H F->OutE X.K cl E H0 F H (fa ρ) Q->ta σ H Q) (rb:∀(H0 F0:Hp) (ρ:Rho) (σ:St) (H F:Hp) (Q:VK),Rl X.K cl H0 F0 ρ σ H F->OutE X.K cl E H0 F H (fb ρ) Q->tb σ H Q) (rc:∀(H0 F0:Hp) (ρ:Rho) (σ:St) (H F:Hp) (Q:VK),Rl X.K cl H0 F0 ρ σ H F->OutE X.K cl E H0 F H (fc ρ) Q->tc σ H Q)
  (o:OutE X.K cl E H0 F H (fCh g g' fa fb fc ρ) Q):zhJ r r' ta tb tc σ H Q:=by
 refine ra H0 F0 ρ σ H F _ R (OutE.fst o λd v H1 F1 g1 q o1=>?_)
 refine rb H0 F0 ρ σ H1 F1 _ (R.grow g1) (OutE.fst o1 λd2 v2 H2 F2 g2 q2 o2=>?_)
 have R2:=(R.grow g1).grow g2
 cases hz:g d d2 with
 | none=>rw[hz] at o2;exact o2.elim
 | some z =>
  rw[hz] at o2
  refine hg F2 H2 v v2 d d2 z _ R2.fh (q.mono g2.ff) q2 hz λw H3 F3 g3 q3=>?_
  obtain⟨k,rfl,o3⟩:=OutE.tru (F1:=F3) (H1:=H3) q3 (OutE.grow (r:=(tru z).bind _) o2 g3)
  refine⟨k,rfl,?_⟩
  have R3:=R2.grow g3
  cases k with
  | false=>exact o3.okI R3.fh (.bl _)
  | true =>
   refine rc H0 F0 ρ σ H3 F3 _ R3 (OutE.fst o3 λd4 v4 H4 F4 g4 q4 o4=>?_)
   obtain⟨z2,hz2,k2⟩:=o4.lf
   exact hg' F4 H4 v2 v4 d2 d4 z2 _ (R3.grow g4).fh (q2.mono (g3.trans g4).ff) q4 hz2 k2
theorem zjj {op op':CmpOp}{r r':R2}{g g':D->D->Option D}(ho:OpR X (compareOp op) r)(ho':OpR X (compareOp op') r')(hg:Op2 X.K cl r g)(hg':Op2 X.K cl r' g')(ha:XE X cl E a fa)(hb:XE X cl E b fb)(hc:XE X cl E c fc)(hm:lastMarks [op,op'] [b,c]=false:=by with_unfolding_all rfl):XE X cl E (.Compare a [op,op'] [b,c] pos) (fCh g g' fa fb fc):=by
 obtain⟨t,pt,rt⟩:=ha.ex
 obtain⟨u,pu,ru⟩:=hb.ex
 obtain⟨w,pw,rw'⟩:=hc.ex
 exact XE'.out ⟨_,zjH ho ho' pt pu pw hm,λH0 F0 ρ σ H F Q R o=>zd1 hg hg' R rt ru rw' o⟩
theorem zc6 {op op':CmpOp}{r r':R2}{g g':D->D->Option D}(ho:OpR X (compareOp op) r)(ho':OpR X (compareOp op') r')(hg:Op2 X.K cl r g)(hg':Op2 X.K cl r' g')(ha:XE X cl E a fa)(hb:XE X cl E b fb)(hc:XE X cl E c fc)(hm:lastMarks [op,op'] [b,c]=false:=by with_unfolding_all rfl):XT X cl E (.Compare a [op,op'] [b,c] pos) (bT (fCh g g' fa fb fc)):=by
 obtain⟨t,pt,rt⟩:=ha.ex
 obtain⟨u,pu,ru⟩:=hb.ex
 obtain⟨w,pw,rw'⟩:=hc.ex
 exact XT'.out ⟨_,zi4 ho ho' pt pu pw hm,λH0 F0 ρ σ H F Q R o=>zd1 hg hg' R rt ru rw' (OutB.bT R o)⟩
def zoT (ls:List (List Nat)):List (List Nat):=(ded (ls.map T)).map λx=>x.cps.toList
theorem Inv.drawn {pins:List (Addr×Obj)}{σ:St}{H:Hp}{s:Shared}(I:Inv X pins σ H s)(d:Drawn):Inv X pins σ H {s with drawn:=d}:=⟨I.ok,I.os,I.bare,I.base,I.loc,I.cell,I.free,I.freeC,I.pin,I.hok,I.len⟩
theorem zbE:isSubtype (.type "tuple") (.type "set")=pure false:=by rw[lda];kernel_rfl
theorem kO:isSubtype (.type "tuple") (.type "frozenset")=pure false:=by rw[lda];kernel_rfl
end
def zoM (ds:List D):Option (List D):=if ds.all isS=true/\ds.length<64 then some ((My.sortF (zoT (ds.map unS))).map .str) else none
def setD:D->Option (List D)
 | .lst ds=>zoM ds
 | .tup ds=>zoM ds
 | _=>none
def fL1 (g:D->Option (List D))(fa:Rho->Rs D):Rho->Rs (List D):=λρ=>(fa ρ).bind λa=>lf' (g a)
section
variable {X:Cx}{cl:Nat->Addr}{E:XK}{e o a b c:Expr}{es:List Expr}{fa fb fc:Rho->Rs D}{fs:Rho->Rs (List D)}{x y:Str}{p pos:Pos}
def qJ (i:Nat):Rho->Out:=λρ=>.nx (ρ.set i (.od []))
def odL (ρ:Rho)(i:Nat):Option (List (List Nat×D)):=match ρ[i]? with|some (.od ds)=>some ds|_=>none
theorem zap {ρ:Rho}{i:Nat}{ds:List (List Nat×D)}(h:odL ρ i=some ds):ρ[i]? = some (.od ds):=by
 unfold odL at h
 split at h
 ·rename_i e;rw[e,lg h]
 ·cases h
def putD (kvs:List (List Nat×D))(k:List Nat)(v:D):List (List Nat×D):=if (kvs.any λkv=>decide (kv.1=k))=true then kvs.map (λkv=>if kv.1=k then(kv.1,v) else kv) else kvs++[(k,v)]
theorem Rl.setD {K:PySem.W.Frag}{H0 F0 H F:Hp}{ρ:Rho}{σ:St}{i:Nat}{p:Addr}{vs:List (Key×V)}{ds:List (List Nat×D)}(R:Rl K cl H0 F0 ρ σ H F)(hp:H p=none)(h:Dks K cl F vs ds):Rl K cl H0 F0 (ρ.set i (.od ds)) (σ.set i (some (.ref p))) (upd H p (.dK vs)) F where
 gr:=R.gr.trans (Gr.newO R.fh hp)
 len:=by simp[R.len]
 fz:=λj e z=>by
  rcases get_set z with⟨rfl,q,hl⟩|⟨hj,q⟩
  ·cases q
  ·rw[ly hj];exact R.fz j e q
 od := λj e z=>by
  rcases get_set z with⟨rfl,q,hl⟩|⟨hj,q⟩
  ·injection q with q;subst q
   exact⟨p,vs,uQ (R.len▸hl),zW,R.fh.free hp,R.gr.hh.free hp,h⟩
  ·rw[ly hj]
   obtain⟨a,us,h1,h2,h3⟩:=R.od j e q
   exact⟨a,us,h1,by rw[zP (λw=>by rw[w,hp] at h2;cases h2)];exact h2,h3⟩
 ow := λj e z=>by
  rcases get_set z with⟨rfl,q,hl⟩|⟨hj,q⟩
  ·cases q
  ·rw[ly hj]
   obtain⟨a,us,h1,h2,h3⟩:=R.ow j e q
   exact⟨a,us,h1,by rw[zP (λw=>by rw[w,hp] at h2;cases h2)];exact h2,h3⟩
 ap := λj k s t a z1 z2 o1 o2 e1 e2=>by
  rcases get_set z1 with⟨rfl,q,hl⟩|⟨hj,q⟩
  ·rcases get_set z2 with⟨rfl,q2,hl2⟩|⟨hk,q2⟩
   ·rfl
   ·rw[uQ (R.len▸hl)] at e1;rw[ly hk] at e2
    injection e1 with e1;injection e1 with e1;injection e1 with e1
    exact absurd (e1▸hp) (R.apart q2 o2 e2)
  ·rcases get_set z2 with⟨rfl,q2,hl2⟩|⟨hk,q2⟩
   ·rw[uQ (R.len▸hl2)] at e2;rw[ly hj] at e1
    injection e2 with e2;injection e2 with e2;injection e2 with e2
    exact absurd (e2▸hp) (R.apart q o1 e1)
   ·rw[ly hj] at e1;rw[ly hk] at e2
    exact R.ap j k s t a q q2 o1 o2 e1 e2
theorem Rl.putDk {K:PySem.W.Frag}{H0 F0 H F:Hp}{ρ:Rho}{σ:St}{i:Nat}{a:Addr}{us:List (Key×V)}{ds es:List (List Nat×D)}(R:Rl K cl H0 F0 ρ σ H F)(hi:ρ[i]? = some (.od ds))(hs:σ[i]? = some (some (.ref a)))(h:Dks K cl F us es):Rl K cl H0 F0 (ρ.set i (.od es)) σ (upd H a (.dK us)) F:=by
 obtain⟨b,ws,h1,h2,h3,h4,_⟩:=R.od i ds hi
 rw[hs] at h1
 injection h1 with h1;injection h1 with h1;injection h1 with h1
 subst h1
 have far:∀(j:Nat) (s:Sl) (c:Addr),j≠i->ρ[j]? = some s->s.own=true->σ[j]? = some (some (.ref c))->c≠a:=λj s c hj e o z w=>hj (R.ap j i s _ a e hi o rfl (w▸z) hs)
 refine⟨⟨R.gr.ff,λc o e=>?_,λc o e=>?_,R.gr.no⟩,by simp[R.len],λj e z=>?_,λj e z=>?_,λj e z=>?_,λj k s t c z1 z2 o1 o2 e1 e2=>?_⟩
 ·rw[zP (λw=>by rw[w,h4] at e;cases e)];exact R.gr.hh c o e
 ·rw[zP (λw=>by rw[w,h3] at e;cases e)];exact R.fh c o e
 ·rcases get_set z with⟨rfl,q,hl⟩|⟨hj,q⟩
  ·cases q
  ·exact R.fz j e q
 ·rcases get_set z with⟨rfl,q,hl⟩|⟨hj,q⟩
  ·cases q
  ·obtain⟨c,xs,k1,k2,k3⟩:=R.ow j e q
   exact⟨c,xs,k1,by rw[zP (far j _ c (lbb hj) q rfl k1)];exact k2,k3⟩
 ·rcases get_set z with⟨rfl,q,hl⟩|⟨hj,q⟩
  ·injection q with q;subst q
   exact⟨a,us,hs,zW,h3,h4,h⟩
  ·obtain⟨c,xs,k1,k2,k3⟩:=R.od j e q
   exact⟨c,xs,k1,by rw[zP (far j _ c (lbb hj) q rfl k1)];exact k2,k3⟩
 ·have own:∀(j:Nat) (s:Sl),(ρ.set i (.od es))[j]? = some s->s.own=true->∃s',ρ[j]? = some s'/\s'.own=true:=λj s z o=>by
   rcases get_set z with⟨rfl,q,hl⟩|⟨hj,q⟩
   ·exact⟨_,hi,rfl⟩
   ·exact⟨s,q,o⟩
  obtain⟨s',q1,p1⟩:=own j s z1 o1
  obtain⟨t',q2,p2⟩:=own k t z2 o2
  exact R.ap j k s' t' c q1 q2 p1 p2 e1 e2
theorem Dks.any {K:PySem.W.Frag}{F:Hp}{k:List Nat}:∀{vs:List (Key×V)}{ds:List (List Nat×D)},Dks K cl F vs ds->(vs.any λkv=>decide (kv.1=Sum.inr (T k)))=(ds.any λkv=>decide (kv.1=k))
 | _,_,.nil=>rfl
 | _,_,.cons (l:=l) ok q r=>by
  rw[ldj,ldj,Dks.any r]
  congr 1
  by_cases h:l=k
  ·subst h;simp
  ·rw[lN h,lN]
   intro z;injection z with z;exact h (zjb z)
theorem Dks.mapPut {K:PySem.W.Frag}{F:Hp}{k:List Nat}{v:V}{d:D}(hv:Dt K cl F v d):∀{vs:List (Key×V)}{ds:List (List Nat×D)},Dks K cl F vs ds->Dks K cl F (vs.map λkv=>if kv.1=Sum.inr (T k) then(kv.1,v) else kv) (ds.map λkv=>if kv.1=k then(kv.1,d) else kv)
 | _,_,.nil=>.nil
 | _,_,.cons (l:=l) ok q r=>by
  rw[lw,lw]
  by_cases h:l=k
  ·subst h;rw[lH rfl,lH rfl];exact .cons ok hv (Dks.mapPut hv r)
  ·have h':¬((Sum.inr (T l):Key)=Sum.inr (T k)):=λz=>by injection z with z;exact h (zjb z)
   rw[lap h,lap h'];exact .cons ok q (Dks.mapPut hv r)
theorem Dks.snoc {K:PySem.W.Frag}{F:Hp}{k:List Nat}{v:V}{d:D}(hk:TxtOk (T k))(hv:Dt K cl F v d):∀{vs:List (Key×V)}{ds:List (List Nat×D)},Dks K cl F vs ds->Dks K cl F (vs++[(Sum.inr (T k),v)]) (ds++[(k,d)])
 | _,_,.nil=>.cons hk hv .nil
 | _,_,.cons ok q r=>.cons ok q (Dks.snoc hk hv r)
theorem Dks.put {K:PySem.W.Frag}{F:Hp}{k:List Nat}{v:V}{d:D}{vs:List (Key×V)}{ds:List (List Nat×D)}(h:Dks K cl F vs ds)(hk:TxtOk (T k))(hv:Dt K cl F v d):Dks K cl F (putK vs (Sum.inr (T k)) v) (putD ds k d):=by
 unfold putK putD
 rw[h.any]
 split
 ·exact h.mapPut hv
 ·exact h.snoc hk hv
theorem Dks.length {K:PySem.W.Frag}{F:Hp}:∀{vs:List (Key×V)}{ds:List (List Nat×D)},Dks K cl F vs ds->vs.length=ds.length
 | _,_,.nil=>rfl
 | _,_,.cons _ _ r=>by simp[r.length]
theorem Dks.keys {K:PySem.W.Frag}{F:Hp}:∀{vs:List (Key×V)}{ds:List (List Nat×D)},Dks K cl F vs ds->vs.map (·.1)=(ds.map (·.1)).map λl=>(Sum.inr (T l):Key)
 | _,_,.nil=>rfl
 | _,_,.cons _ _ r=>by simp[r.keys]
theorem Dks.oks {K:PySem.W.Frag}{F:Hp}:∀{vs:List (Key×V)}{ds:List (List Nat×D)},Dks K cl F vs ds->∀l∈ds.map (·.1),TxtOk (T l)
 | _,_,.nil=>by simp
 | _,_,.cons ok _ r=>λl hl=>by
  rw[lw] at hl
  rcases lB.mp hl with rfl|hl
  ·exact ok
  ·exact r.oks l hl
theorem zcC {i:Nat}{pos' dpos:Pos}(hN:X.N.Nodup)(hi:X.N[i]? = some x)(hx:Loc X.env.scope x)(hs:swapsWith (.Dict [] [] dpos) (some (.Name x pos')) pos.line X.env=pure false:=by rfl)(hf:X.fn x=true∨X.env.scope.names.lookup x=some .local:=by first|exact .inl rfl|exact .inr rfl|assumption) :
  XS X cl E (.Assign [.Name x pos'] (.Dict [] [] dpos) pos) (qJ i) :=
 XS'.out ⟨_,zdG hN hi hx zjv hs hf,λH0 F0 ρ σ H F Dn R o=>λp hp=>o _ _ F (R.setD hp .nil) (Same.refl _)⟩
def zaB (i:Nat)(fk fv:Rho->Rs D):Rho->Out:=λρ=>match odL ρ i with
 | some ds=>(match fv ρ with
  | .ok v=>(match fk ρ with | .ok (.str k)=>if ds.length<1000000 then .nx (ρ.set i (.od (putD ds k v))) else .no | .ex n=>.ex n|_=>.no)
  | .ex n=>.ex n
  | .no=>.no)
 | none=>.no
theorem zc7 {i:Nat}{k v:Expr}{pos':Pos}(hu:X.A.units+1<cLine)(ho:PE X o (ziy i))(hk:XE X cl E k fa)(hv:XE X cl E v fb)(hs:swapsWith v (some (.Subscript o k pos')) pos.line X.env=pure false:=by rfl):XS X cl E (.Assign [.Subscript o k pos'] v pos) (zaB i fa fb):=by
 obtain⟨t,pt,rt⟩:=hk.ex
 obtain⟨u,pu,ru⟩:=hv.ex
 refine XS'.out ⟨_,zkL hu ho pt pu hs,λH0 F0 ρ σ H F Dn R oo=>ru H0 F0 ρ σ H F _ R ?_⟩
 unfold zaB at oo
 cases hw:odL ρ i with
 | none=>rw[hw] at oo;exact oo.elim
 | some ds =>
  rw[hw] at oo
  have hd:=zap hw
  cases ev:fb ρ with
  | ok dv =>
   simp only[ev] at oo
   intro vv H1 F1 g1 q1
   have R1:=R.grow g1
   obtain⟨ad,vs,h1,h2,h3,h4,h5⟩:=R1.od i ds hd
   refine⟨.ref ad,h1,rt H0 F0 ρ σ H1 F1 _ R1 ?_⟩
   cases ek:fa ρ with
   | ok dk =>
    simp only[ek] at oo
    intro kv H2 F2 g2 q2
    have R2:=R1.grow g2
    cases q2 with
    | str l ok =>
     dsimp only at oo
     split at oo
     ·rename_i hl
      have h5':=h5.mono g2.ff
      refine⟨ad,_,rfl,DPut.k (k:=Sum.inr (T l)) (g2.hh _ _ h2) (by rw[h5.length,laP];omega),?_⟩
      exact oo _ _ F2 (R2.putDk hd h1 (h5'.put ok (q1.mono g2.ff))) (g1.ff.trans g2.ff)
     ·exact oo.elim
    | _=>exact oo.elim
   | ex n=>simp only[ek] at oo;exact oo
   | no=>simp only[ek] at oo;exact oo.elim
  | ex n=>simp only[ev] at oo;exact oo
  | no=>simp only[ev] at oo;exact oo.elim
def fSD (i:Nat):Rho->Rs (List D):=λρ=>match odL ρ i with
 | some ds=>if ds.length<64 then .ok ((My.sortF (ds.map (·.1))).map .str) else .no
 | none=>.no
theorem zf7 {i:Nat}(hc:X.calm=true)(hg:Gl X "sorted")(hm:X.mg "sorted" = none)(ho:PE X e (ziy i))(hs:starEach [e] X.env=(false,eval e X.env)::starEach [] X.env)(hpl:(backTo pos (starEach [] X.env)).any (·.1)=false:=by rfl):XL X cl E (.Call (.Name "sorted" p) [e] [] pos) (fSD i):=by
 refine⟨_,zbi (zdz hc) hg hm boot_sorted (xO ho qO hs) (by decide) (by decide) hs hpl,λH0 F0 ρ σ H F Q R oo=>?_⟩
 unfold fSD at oo
 cases hw:odL ρ i with
 | none=>rw[hw] at oo;exact oo.elim
 | some ds =>
  rw[hw] at oo
  dsimp only at oo
  split at oo
  ·rename_i hl
   obtain⟨ad,vs,h1,h2,h3,h4,h5⟩:=R.od i ds (zap hw)
   refine⟨.ref ad,h1,ad,vs,ds.map (·.1),rfl,h2,h5.keys,by rw[lh];exact hl,λp ms hp pm sm=>?_⟩
   obtain rfl:=My.sortF_eq sm pm
   exact oo _ _ F (Gr.refl R.fh) (zdJ λy hy=>h5.oks y (My.sortF_mem.mp hy)) p hp
  ·exact oo.elim
end
def sRs (n:Nat)(fs:Rho->Rs (List D)):Rho->Out:=λρ=>match fs ρ with | .ok ds=>if ds.length<=3 then .ex n else .no | .ex m=>.ex m | .no=>.no
section
variable {P:Program}{w:World}{K:PySem.W.Frag}{mg:Str->Option Value}{base:Heap}{N:List Str}{qual:Str}{scope:Scope}{f:Addr}{cd:Value}{A:Around}{outer:List Env}{s₁:Shared}{H₁:Hp}{E:XK}{cl:Nat->Addr}
theorem zbe {x:Str}{e₀:Expr}{np cpos pos:Pos}{fs:Rho->Rs (List D)}{n:Nat}(O:Own K mg x)(hO:O.C=cl n)(hg:Gl (zaX (CX1 P w) P w K mg base N qual scope f cd A outer s₁ H₁ E) x)(ha:XA (zaX (CX1 P w) P w K mg base N qual scope f cd A outer s₁ H₁ E) cl E [e₀] fs)
  (he:starEach [e₀] (zaX (CX1 P w) P w K mg base N qual scope f cd A outer s₁ H₁ E).env=(false,eval e₀ (zaX (CX1 P w) P w K mg base N qual scope f cd A outer s₁ H₁ E).env)::starEach [] (zaX (CX1 P w) P w K mg base N qual scope f cd A outer s₁ H₁ E).env) (hd:(x == ("__debug__" : Str))=false:=by decide) :
  XS (zaX (CX1 P w) P w K mg base N qual scope f cd A outer s₁ H₁ E) cl E (.Raise (some (.Call (.Name x np) [e₀] [] cpos)) none pos) (sRs n fs):=by
 obtain⟨t,pt,rt⟩:=ha.ex
 refine XS'.out ⟨_,ziE O hg pt he rfl hd,λH0 F0 ρ σ H F Dn R o=>rt H0 F0 ρ σ H F _ R ?_⟩
 unfold sRs at o
 cases e:fs ρ with
 | ok ds =>
  rw[e] at o
  intro vs H' F' g q
  dsimp only at o
  split at o
  ·rename_i hl
   refine⟨q.length▸hl,?_⟩
   rw[hO]
   exact o H' (R.gr.hh.trans g.hh)
  ·exact o.elim
 | ex n=>rw[e] at o;exact o
 | no=>rw[e] at o;exact o
end
def yg (m:Nat)(g:Rho->Out)(ds:List D):Rs D:=match g (ds.map .fz++List.replicate (m - ds.length) .no) with | .nx _=>.ok .non | .rt d=>.ok d | .ex n=>.ex n|_=>.no
theorem Rl.start {K:PySem.W.Frag}{cl:Nat->Addr}{H F:Hp}{N:List Str}{vs:List V}{ds:List D}(s:Same F H)(q:Dts K cl F vs ds):Rl K cl H F (ds.map .fz++List.replicate (N.length - ds.length) .no) (L2.start N vs) H F:=by
 have shape:∀(i:Nat) (s:Sl),(ds.map Sl.fz++List.replicate (N.length - ds.length) Sl.no)[i]? = some s->(∃d,s=.fz d/\ds[i]? = some d)∨s=.no:=λi s e=>by
  rcases lcO i ds.length with h|h
  ·rw[laQ (by simpa using h),lT,lQ9 h] at e
   exact .inl ⟨ds[i],(lg e).symm,lQ9 h⟩
  ·rw[laE (by simpa using h),la1] at e
   split at e
   ·exact .inr (lg e).symm
   ·cases e
 refine⟨Gr.refl s,by unfold L2.start;simp[q.length],λi d e=>?_,λi d e=>?_,λi d e=>?_,λi j s t a z1 z2 o1 o2 e1 e2=>?_⟩
 ·rcases shape i _ e with⟨d',e1,e2⟩|e1
  ·injection e1 with e1;subst e1
   obtain⟨v,h1,h2⟩:=q.get' e2
   refine⟨v,?_,h2⟩
   unfold L2.start
   have hi:=(lv.mp h1).1
   rw[laQ (by simpa using hi),lT,h1];rfl
  ·cases e1
 ·rcases shape i _ e with⟨d',e1,e2⟩|e1 <;>cases e1
 ·rcases shape i _ e with⟨d',e1,e2⟩|e1 <;>cases e1
 ·rcases shape i _ z1 with⟨d',rfl,_⟩|rfl <;>cases o1
theorem fnD {P:Program}{w:World}{K:PySem.W.Frag}{mg:Str->Option Value}{base:Heap}{cl:Nat->Addr}{x qual:Str}{st:Stmt}{f:Addr}{fd:FuncData}{N ps:List Str}{k m n:Nat}{g:Rho->Out}(Fu:Fun K x qual st f fd)(S:FnScope N ps (zy st))(hm:N.length=m)(hn:ps.length=n)
  (hb:∀(cdv:Value) (A:Around) (outer:List Env) (s:Shared) (H:Hp) (E:XK),Room k (A.deeper (envOfC qual (zy st) s.heap.objs.size f cdv))->XSs (zaX (CX1 P w) P w K mg base N qual (zy st) f cdv A outer s H E) cl E (uV st) g):FnOk P w K mg base (CX1 P w) (k+1) f fd ps (spD K cl (yg m g) n):=by
 subst hm hn
 refine Fu.okX S (λvs H Q E h=>h.choose_spec.choose_spec.2.2.1) λcdv A outer s H vs Q E hr h=>?_
 obtain⟨F,ds,sm,dq,hl,o⟩:=h
 refine⟨_,hb cdv A outer s H E hr,H,F,_,F,Rl.start (N:=N) sm dq,?_⟩
 unfold yg at o
 cases e:g (ds.map .fz++List.replicate (N.length - ds.length) .no) with
 | nx ρ=>rw[e] at o;exact λσ H' F' R _=>o .non H' F' R.gr .non
 | rt d=>rw[e] at o;exact λv H' F' gg q=>o v H' F' gg q
 | bk ρ=>rw[e] at o;exact o.elim
 | ct ρ=>rw[e] at o;exact o.elim
 | ex n=>rw[e] at o;exact o
 | no=>rw[e] at o;exact o
def forZ (i j:Nat)(g:Rho->Out):List D->List D->Rho->Out
 | d::ds,e::es,ρ=>match g ((ρ.set i (.fz d)).set j (.fz e)) with | .nx ρ'=>forZ i j g ds es ρ' | .ct ρ'=>forZ i j g ds es ρ' | .bk ρ'=>.nx ρ'|o=>o
 | _,_,ρ=>.nx ρ
def qW (i j:Nat)(fa fb:Rho->Rs D)(g:Rho->Out):Rho->Out:=λρ=>match (fa ρ),(fb ρ) with
 | .ok (.tup ds),.ok (.tup es)=>forZ i j g ds es ρ
 | _,_=>.no
section
variable {X:Cx}{cl:Nat->Addr}{E:XK}{a b:Expr}{fa fb:Rho->Rs D}{g:Rho->Out}{p pos zpos tp px py:Pos}{x y:Str}{k:Nat}{body:List Stmt}
theorem zhG {K:PySem.W.Frag}{H0 F0 F:Hp}{i j:Nat}{ρ:Rho}{Dn:Ends}(o:OutS K cl E H0 F0 F (qW i j fa fb g ρ) Dn):∃ds es,fa ρ=.ok (.tup ds)/\fb ρ=.ok (.tup es)/\OutS K cl E H0 F0 F (forZ i j g ds es ρ) Dn:=by
 unfold qW at o
 split at o
 ·rename_i ds es e1 e2;exact⟨ds,es,e1,e2,o⟩
 ·exact o.elim
theorem zlG {i j:Nat}(hp:PassesOwn (model X.prog X.w) X.A X.env X.xe)(hc:X.calm=true)(hz:Gl X "zip")(hm:X.mg "zip" = none)(ha:XE X cl E a fa)(hb:XE X cl E b fb)(hg:PG X (.Tuple [.Name x px,.Name y py] k tp) (zlY X.K 2 (zbK (kI i) (zbK (kI j) zlV))))(hbd:XSs X cl E body g)(hs:starEach [a,b] X.env=[(false,eval a X.env),(false,eval b X.env)])(hs2:starEach [b] X.env=[(false,eval b X.env)]):XS X cl E (.For (.Tuple [.Name x px,.Name y py] k tp) (.Call (.Name "zip" p) [a,b] [] zpos) body [] pos) (qW i j fa fb g):=by
 obtain⟨t,pt,rt⟩:=ha.ex
 obtain⟨u,pu,ru⟩:=hb.ex
 obtain⟨w,pw,rw'⟩:=hbd.ex
 refine XS'.out ⟨_,zki hp hc (zf1 hz hm pt pu hs hs2) hg pw,λH0 F0 ρ σ H F Dn R o=>rt H0 F0 ρ σ H F _ R ?_⟩
 obtain⟨ds,es,e1,e2,o'⟩:=zhG o
 rw[e1]
 intro v1 H1 F1 g1 q1
 have R1:=R.grow g1
 refine ru H0 F0 ρ σ H1 F1 _ R1 ?_
 rw[e2]
 intro v2 H2 F2 g2 q2
 have R2:=R1.grow g2
 cases q1 with
 | tup sq1 dq1 =>
  cases q2 with
  | tup sq2 dq2 =>
   have sq1':=g2.ff.seqT sq1
   have dq1':=dq1.mono g2.ff
   refine⟨_,_,_,_,rfl,R2.fh.seqT sq1',R2.fh.seqT sq2,?_⟩
   refine zkN (λm σ' H'=>∃ρ' F',Rl X.K cl H0 F0 ρ' σ' H' F'/\Same F2 F'/\OutS X.K cl E H0 F0 F' (forZ i j g (ds.drop m) (es.drop m) ρ') Dn) ⟨ρ,F2,R2,Same.refl _,o'.grow (g1.ff.trans g2.ff)⟩ (λm σ' H' ⟨ρ',F',R',s',_⟩=>⟨(s'.trans R'.fh).seqT sq1',(s'.trans R'.fh).seqT sq2⟩) ?_ ?_
   ·rintro m z1 z2 pp σ' H' hx hy hpp ⟨ρ',F',R',s',o3⟩
    obtain⟨c1,hd1,qd1⟩:=dq1'.get hx
    obtain⟨c2,hd2,qd2⟩:=dq2.get hy
    have r1:ds.drop m=c1::ds.drop (m+1):=by
     obtain⟨hk,e3⟩:=lv.mp hd1
     rw[las hk,e3]
    have r2:es.drop m=c2::es.drop (m+1):=by
     obtain⟨hk,e3⟩:=lv.mp hd2
     rw[las hk,e3]
    rw[r1,r2] at o3
    unfold forZ at o3
    have R4:=R'.grow (Gr.newO (o:=.tup [z1,z2]) R'.fh hpp)
    refine⟨pp,[z1,z2],rfl,.inl (.inl zW),rfl,z1,_,rfl,z2,_,rfl,rfl,rw' H0 F0 _ _ _ F' _ ((R4.set (qd1.mono s')).set (qd2.mono s')) ?_⟩
    cases e4:g ((ρ'.set i (.fz c1)).set j (.fz c2)) with
    | nx ρ2=>simp only[e4] at o3;exact λσ2 H2 F2 R2 s2=>⟨ρ2,F2,R2,s'.trans s2,o3.grow s2⟩
    | ct ρ2=>simp only[e4] at o3;exact λσ2 H2 F2 R2 s2=>⟨ρ2,F2,R2,s'.trans s2,o3.grow s2⟩
    | bk ρ2=>simp only[e4] at o3;exact o3
    | rt d=>simp only[e4] at o3;exact o3
    | ex n=>simp only[e4] at o3;exact o3
    | no=>simp only[e4] at o3;exact o3
   ·rintro σ' H' ⟨ρ',F',R',s',o3⟩
    rw[dq1'.length,dq2.length] at o3
    have e5:forZ i j g (ds.drop (min ds.length es.length)) (es.drop (min ds.length es.length)) ρ'=.nx ρ':=by
     rcases lea ds.length es.length with h|h
     ·rw[leh h,laI (lr ds.length)];unfold forZ;rfl
     ·rw[ld3 h,laI (lr es.length)]
      cases ds.drop es.length <;>(unfold forZ;rfl)
    rw[e5] at o3
    exact o3 σ' H' F' R' (Same.refl _)
def qU (ft:Rho->Rs Bool)(fe:Rho->Rs D)(ρ0:Rho):List D->List D->Rs (List D)
 | d::ds,c::cs=>match ft ((ρ0.set 0 (.fz d)).set 1 (.fz c)) with
  | .ok true=>(match fe ((ρ0.set 0 (.fz d)).set 1 (.fz c)) with | .ok e=>(qU ft fe ρ0 ds cs).bind λes=>.ok (e::es)|_=>.no)
  | .ok false=>qU ft fe ρ0 ds cs
  | _=>.no
 | _,_=>.ok []
def fCz (fa fb:Rho->Rs D)(ft:Rho->Rs Bool)(fe:Rho->Rs D)(caps:List Nat):Rho->Rs (List D):=λρ=>match fa ρ,fb ρ with
 | .ok (.tup ds),.ok (.tup cs)=>(match qU ft fe (v9 2 caps ρ) ds cs with | .ok es=>if ds.length<=1000000 then .ok es else .no|_=>.no)
 | _,_=>.no
variable {scope:Scope}{caps:List Nat}{elt:Expr}{ifs:List Expr}{ft:Rho->Rs Bool}{fe:Rho->Rs D}
structure CompZ (X:Cx)(cl:Nat->Addr)(scope:Scope)(x y:Str)(caps:List Nat)(tg:Expr)(ifs:List Expr)(elt:Expr)(ft:Rho->Rs Bool)(fe:Rho->Rs D):Prop where
 tgt:∀pins C ex s H,PG (cxC X pins scope [x,y] caps C ex s H) tg (zlY X.K 2 (zbK (kI 0) (zbK (kI 1) zlV)))
 tst:∀pins C ex s H,XTs (cxC X pins scope [x,y] caps C ex s H) cl E0 ifs ft
 elm:∀pins C ex s H,XE (cxC X pins scope [x,y] caps C ex s H) cl E0 elt fe
theorem zlA {K:PySem.W.Frag}{H0 F H:Hp}{ρ:Rho}{Q:List V->Hp->Prop}(o:OutA K cl E H0 F H (fCz fa fb ft fe caps ρ) Q):∃ds cs es,fa ρ=.ok (.tup ds)/\fb ρ=.ok (.tup cs)/\qU ft fe (v9 2 caps ρ) ds cs=.ok es/\ds.length<=1000000/\OutA K cl E H0 F H (.ok es) Q:=by
 unfold fCz at o
 split at o
 ·rename_i ds cs e1 e2
  split at o
  ·rename_i es e3
   split at o
   ·rename_i hl;exact⟨ds,cs,es,e1,e2,e3,hl,o⟩
   ·exact o.elim
  ·exact o.elim
 ·exact o.elim
theorem ziW (ok:CompOk X scope caps)(hc:X.calm=true)(hz:Gl X "zip")(hm:X.mg "zip" = none)(ha:XE X cl E a fa)(hb:XE X cl E b fb)(CI:CompZ X cl scope x y caps (.Tuple [.Name x px,.Name y py] k tp) ifs elt ft fe)(hs:starEach [a,b] X.env=[(false,eval a X.env),(false,eval b X.env)])(hs2:starEach [b] X.env=[(false,eval b X.env)]) :
  XL X cl E (.ListComp elt [⟨.Tuple [.Name x px,.Name y py] k tp,.Call (.Name "zip" p) [a,b] [] zpos,ifs,0⟩] scope pos) (fCz fa fb ft fe caps):=by
 obtain⟨t,pt,rt⟩:=ha.ex
 obtain⟨u,pu,ru⟩:=hb.ex
 refine⟨_,zhq ok hc (zf1 hz hm pt pu hs hs2) (g:=zlY X.K 2 (zbK (kI 0) (zbK (kI 1) zlV))) (tt:=tDB X.K cl E0 ft) (te:=tDE X.K cl E0 fe) ⟨CI.tgt,CI.tst,CI.elm⟩,λH0 F0 ρ σ H F Q R o=>rt H0 F0 ρ σ H F _ R ?_⟩
 obtain⟨ds,cs,es,e1,e2,hcz,hl,o⟩:=zlA o
 rw[e1]
 intro v1 H1 F1 g1 q1
 have R1:=R.grow g1
 refine ru H0 F0 ρ σ H1 F1 _ R1 ?_
 rw[e2]
 intro v2 H2 F2 g2 q2
 have R2:=R1.grow g2
 cases q1 with
 | tup sq1 dq1 =>
  cases q2 with
  | tup sq2 dq2 =>
   have sq1':=g2.ff.seqT sq1
   have dq1':=dq1.mono g2.ff
   refine⟨_,_,_,_,rfl,R2.fh.seqT sq1',R2.fh.seqT sq2,?_⟩
   refine zhs (sz6 (dq1'.length▸hl)) (λm ys H'=>∃F' es1 es2,Gr F2 H2 F' H'/\Dts X.K cl F' ys es1/\ys.length<=m/\es=es1++es2/\qU ft fe (v9 2 caps ρ) (ds.drop m) (cs.drop m)=.ok es2) ⟨F2,[],es,Gr.refl R2.fh,.nil,lr _,rfl,hcz⟩ (λm ys H' ⟨F',_,_,gg,_,h1,_⟩=>⟨(gg.ff.trans gg.fh).seqT sq1',(gg.ff.trans gg.fh).seqT sq2,h1⟩) ?_ ?_
   ·rintro m z1 z2 pp ys H' hx hy hpp ⟨F',es1,es2,gg,qs,hly,rfl,hc'⟩
    obtain⟨c1,hd1,qd1⟩:=dq1'.get hx
    obtain⟨c2,hd2,qd2⟩:=dq2.get hy
    have r1:ds.drop m=c1::ds.drop (m+1):=by
     obtain⟨hk,e3⟩:=lv.mp hd1
     rw[las hk,e3]
    have r2:cs.drop m=c2::cs.drop (m+1):=by
     obtain⟨hk,e3⟩:=lv.mp hd2
     rw[las hk,e3]
    rw[r1,r2] at hc'
    unfold qU at hc'
    have gz:Gr F' H' F' (upd H' pp (.tup [z1,z2])):=Gr.newO (gg.fh) hpp
    have Rz:=((R2.grow gg).grow gz).cap [x,y] caps
    have Rw:Rl X.K cl (upd H' pp (.tup [z1,z2])) F' (((v9 2 caps ρ).set 0 (.fz c1)).set 1 (.fz c2)) (((zes [x,y] caps σ).set 0 (some z1)).set 1 (some z2)) (upd H' pp (.tup [z1,z2])) F':=(Rz.set (qd1.mono gg.ff)).set (qd2.mono gg.ff)
    refine⟨pp,[z1,z2],rfl,.inl (.inl zW),rfl,z1,_,rfl,z2,_,rfl,rfl,?_,_,F',_,F',Rw,?_⟩
    ·exact(Kps.set rfl).trans (Kps.set rfl)
    ·cases e3:ft (((v9 2 caps ρ).set 0 (.fz c1)).set 1 (.fz c2)) with
     | ok bb =>
      rw[e3] at hc'
      intro H3 F3 g3
      cases bb with
      | true =>
       rw[lH rfl]
       cases e4:fe (((v9 2 caps ρ).set 0 (.fz c1)).set 1 (.fz c2)) with
       | ok ee =>
        simp only[e4] at hc'
        refine⟨_,F',_,F3,Rw.grow g3,?_⟩
        rw[e4]
        intro yy H4 F4 g4 qy
        cases e5:qU ft fe (v9 2 caps ρ) (ds.drop (m+1)) (cs.drop (m+1)) with
        | ok es3 =>
         rw[e5] at hc'
         injection hc' with hc'
         exact⟨F4,es1++[ee],es3,gg.trans (gz.trans (g3.trans g4)),(qs.mono (g3.ff.trans g4.ff)).append (.cons qy .nil),by simp;exact hly,by rw[← hc',lbu];rfl,rfl⟩
        | ex n=>rw[e5] at hc';cases hc'
        | no=>rw[e5] at hc';cases hc'
       | ex n=>simp only[e4] at hc';cases hc'
       | no=>simp only[e4] at hc';cases hc'
      | false =>
       rw[lap lD]
       exact⟨F3,es1,es2,gg.trans (gz.trans g3),qs.mono g3.ff,Nat.le_succ_of_le hly,rfl,hc'⟩
     | ex n=>rw[e3] at hc';cases hc'
     | no=>rw[e3] at hc';cases hc'
   ·rintro ys H' ⟨F',es1,es2,gg,qs,hly,rfl,hc'⟩
    rw[dq1'.length,dq2.length] at hc'
    have e5:qU ft fe (v9 2 caps ρ) (ds.drop (min ds.length cs.length)) (cs.drop (min ds.length cs.length))=.ok []:=by
     rcases lea ds.length cs.length with h|h
     ·rw[leh h,laI (lr ds.length)];unfold qU;rfl
     ·rw[ld3 h,laI (lr cs.length)]
      cases ds.drop cs.length <;>(unfold qU;rfl)
    rw[e5] at hc'
    injection hc' with hc'
    rw[← hc',lal] at o
    exact o ys H' F' (g1.trans (g2.trans gg)) qs
end
def zoz:D->Option D
 | .int i=>some (.int (-i))
 | _=>none
def fFl (i:Nat)(f:Rho->Rs D):Rho->Rs D:=λρ=>match owL ρ i with
 | some ds=>(match f (ρ.set i (.fz (.lst ds))) with | .ok d=>if d.fl=true then .ok d else .no | .ex n=>.ex n | .no=>.no)
 | none=>.no
def znD:D->D->Option (List D)
 | .lst l,.int n=>if 0<=n/\n<=1000/\l.length<=1000 then some (List.replicate n.toNat l).flatten else none
 | _,_=>none
section
variable {X:Cx}{cl:Nat->Addr}{E:XK}{e a b:Expr}{fa fb:Rho->Rs D}{pos:Pos}{st:Stmt}
theorem zmM (h:XE X cl E a fa):XE X cl E (.UnaryOp .USub a pos) (f1 zoz fa):=by
 obtain⟨t,pt,rt⟩:=h.ex
 refine XE'.out ⟨_,zn6 zm5 pt,λH0 F0 ρ σ H F Q R o=>rt H0 F0 ρ σ H F _ R (OutE.fst o λd v H1 F1 g q o1=>?_)⟩
 obtain⟨z,hz,k⟩:=o1.lf
 cases q with
 | int i=>obtain rfl:=lg hz;exact⟨i,rfl,k _ _ _ (Gr.refl (R.grow g).fh) (.int _)⟩
 | _=>cases hz
theorem Dt.flatAny {K:PySem.W.Frag}{F F':Hp}{v:V}{d:D}(q:Dt K cl F v d)(h:d.fl=true):Dt K cl F' v d:=by
 cases q with
 | non=>exact .non
 | bl b=>exact .bl b
 | int i=>exact .int i
 | str l ok=>exact .str l ok
 | _=>cases h
theorem zou {i:Nat}(h:XE X cl E e fa):XE X cl E e (fFl i fa):=by
 obtain⟨t,pt,rt⟩:=h.ex
 refine XE'.out ⟨_,pt,λH0 F0 ρ σ H F Q R o=>?_⟩
 unfold fFl at o
 cases hw:owL ρ i with
 | none=>rw[hw] at o;exact o.elim
 | some ds =>
  rw[hw] at o
  obtain⟨F1,s1,R1⟩:=R.ice (zaf hw)
  refine rt H0 F0 _ σ H F1 _ R1 ?_
  cases e:fa (ρ.set i (.fz (.lst ds))) with
  | ok d =>
   simp only[e] at o
   split at o
   ·rename_i hf
    exact λv H' F' g q=>o v H' F ⟨Same.refl _,g.hh,R.fh.trans g.hh,λ_ _ _ _ z=>z⟩ (q.flatAny hf)
   ·exact o.elim
  | ex n=>simp only[e] at o;exact o
  | no=>simp only[e] at o;exact o.elim
variable {scope:Scope}{x:Str}{caps:List Nat}{elt tg iter:Expr}{ifs:List Expr}{fi:Rho->Rs (List D)}{ft:Rho->Rs Bool}{fe:Rho->Rs D}
def zn9 (K:PySem.W.Frag):R2:=λx y H Q=>∃l b xs zs,x=.ref l/\y=.ref b/\SqL K H l xs/\SqL K H b zs/\xs.length+zs.length<=sizeLine/\∀p,H p=none->Q (.ref p) (upd H p (.lst (xs++zs)))
theorem zkG:OpR X (binaryOp .Add) (zn9 X.K):=by
 intro pins s σ H x y v u Q I rx ry h
 obtain⟨l,b,xs,zs,rfl,rfl,hH,hB,hz,q⟩:=h
 cases rx
 cases ry
 obtain⟨its,r,⟨o,n,e,hc,hdd,hd⟩,z⟩:=I.list hH
 obtain⟨its2,r2,⟨o2,n2,e2,hc2,hdd2,hd2⟩,z2⟩:=I.list hB
 obtain⟨cls,dd,data,sl⟩:=o
 obtain⟨cls2,dd2,data2,sl2⟩:=o2
 simp only at hc hd hc2 hd2
 subst hc hd hc2 hd2
 refine ld7 ⟨_,e,rfl⟩ ⟨_,e2,rfl⟩ noFill_list_add seq_list_add PySem.F.slot_list_add PySem.F.entry_list_add (PySem.F.args_list_add_2 _ _) (list_addW l b its.toArray its2.toArray n n2 dd dd2 sl sl2 (by rw[lF,lF,← r.length,← r2.length];exact hz)) ⟨e,e2,?_⟩
 have ea:its.toArray++its2.toArray=(its++its2).toArray:=by simp
 rw[ea]
 exact⟨.ref _,_,I.lnew (t':=s.toks) (r.append r2) (by rw[lG];omega),rfl,q _ I.fresh⟩
theorem ziX {a b:D}{z:List D}(e:zkE a b=some z):∃l m,a=.lst l/\b=.lst m/\l.length+m.length<=1000000/\z=l++m:=by
 cases a with
 | lst l =>
  cases b with
  | lst m =>
   by_cases h:l.length+m.length<=1000000
   ·exact⟨l,m,rfl,rfl,h,(lg ((lH h).symm.trans e)).symm⟩
   ·cases (lap h).symm.trans e
  | _=>cases e
 | _=>cases e
theorem znm (ha:XE X cl E a fa)(hb:XE X cl E b fb):XL X cl E (.BinOp a .Add b pos) (fL2 zkE fa fb):=by
 obtain⟨t,pt,rt⟩:=ha.ex
 obtain⟨u,pu,ru⟩:=hb.ex
 refine⟨_,zlo zkG pt pu,λH0 F0 ρ σ H F Q R o=>rt H0 F0 ρ σ H F _ R (OutE.fstA o λd v H1 F1 g q o1=>?_)⟩
 refine ru H0 F0 ρ σ H1 F1 _ (R.grow g) (OutE.fstA o1 λd2 v2 H2 F2 g2 q2 o2=>?_)
 obtain⟨z,hz,k⟩:=o2.lf
 have fh:=(R.grow (g.trans g2)).fh
 have q':=q.mono g2.ff
 obtain⟨l,m,rfl,rfl,hl,rfl⟩:=ziX hz
 cases q' with
 | lst sq dq =>
  cases q2 with
  | lst sq2 dq2=>exact⟨_,_,_,_,rfl,rfl,fh.seq sq,fh.seq sq2,sz6 (by rw[dq.length,dq2.length];exact hl),λp hp=>k _ _ _ (Gr.refl fh) (dq.append dq2) p hp⟩
end
def zej (K:PySem.W.Frag):Sp:=λvs H Q _=>∃(a:Addr) (ns:List Int),vs=[.ref a]/\SqL K H a (ns.map V.int)/\ns.length<=63/\∀H',Q (.bl true) H'
theorem zka {K:PySem.W.Frag}{cl:Nat->Addr}{fn:List D->Rs D}(h:∀ns:List Int,ns.length<=63->fn [.lst (ns.map .int)]=.ok (.bl true)){vs:List V}{H:Hp}{Q:VK}{E E':XK}(hs:zej K vs H Q E):spD K cl fn 1 vs H Q E':=by
 obtain⟨a,ns,rfl,sq,hl,k⟩:=hs
 refine⟨H,[.lst (ns.map .int)],Same.refl _,.cons (.lst sq (zbW λi _=>.int i)) .nil,rfl,?_⟩
 rw[h ns hl]
 intro v H' F' g q
 cases q
 exact k H'
theorem zm0 {P:Program}{w:World}{K:PySem.W.Frag}{mg:Str->Option Value}{base:Heap}{cl:Nat->Addr}{fn:List D->Rs D}{k:Nat}{f:Addr}{fd:FuncData}{ps:List Str}(G:FnOk P w K mg base (CX1 P w) k f fd ps (spD K cl fn 1))(h:∀ns:List Int,ns.length<=63->fn [.lst (ns.map .int)]=.ok (.bl true)):FnOk P w K mg base CX0 k f fd ps (zej K) where
 len:=λvs H Q E hs=>G.len vs H Q E (zka h hs)
 run:=λA outer s H args us vs Q E hr e0 bt vl hs=>by
  refine lcK (G.run A outer s H args us vs Q E0 hr e0 bt vl (zka (E:=E) h hs)) λr s' q=>?_
  cases r with
  | error e =>
   obtain⟨a,C,a0,H',B,_,_,_,_,_,_,_,_,_,_,_,z⟩:=(show zeZ P w outer H s E0 e s' from q)
   exact z.elim
  | ok fl=>cases fl <;>exact q
theorem zoL {α:Type}{us:List α}(h:us.length=1):∃a,us=[a]:=List.length_eq_one_iff.mp h
theorem zoP {α:Type}{us:List α}(h:us.length=2):∃a b,us=[a,b]:=by
 cases us with
 | nil=>cases h
 | cons a t=>obtain⟨b,rfl⟩:=zoL (Nat.succ.inj h);exact⟨a,b,rfl⟩
theorem zoO {α:Type}{us:List α}(h:us.length=3):∃a b c,us=[a,b,c]:=by
 cases us with
 | nil=>cases h
 | cons a t=>obtain⟨b,c,rfl⟩:=zoP (Nat.succ.inj h);exact⟨a,b,c,rfl⟩
theorem zoU {α:Type}{us:List α}(h:us.length=4):∃a b c d,us=[a,b,c,d]:=by
 cases us with
 | nil=>cases h
 | cons a t=>obtain⟨b,c,d,rfl⟩:=zoO (Nat.succ.inj h);exact⟨a,b,c,d,rfl⟩
def zj5 (ds:List (List Nat×D))(k:List Nat):Option D:=(ds.find? λkv=>decide (kv.1=k)).map (·.2)
def getD:D->D->Option D
 | .dct ds,.str k=>zj5 ds k
 | _,_=>none
theorem Dks.val {K:PySem.W.Frag}{cl:Nat->Addr}{F:Hp}{k:List Nat}:∀{vs:List (Key×V)}{ds:List (List Nat×D)},Dks K cl F vs ds->match zj5 ds k with|some d=>∃v,zeg vs (Sum.inr (T k):Key)=some v/\Dt K cl F v d|none=>zeg vs (Sum.inr (T k):Key)=none
 | _,_,.nil=>rfl
 | _, _,.cons (l:=l) (v:=v) (d:=d) (vs:=vs) (ds:=ds) ok q r=>by
  have ih:=Dks.val (k:=k) r
  by_cases h:l=k
  ·subst h
   have e1:zj5 ((l,d)::ds) l=some d:=by simp[zj5]
   rw[e1]
   exact⟨v,by simp[zeg],q⟩
  ·have h':¬((Sum.inr (T l):Key)=Sum.inr (T k)):=λz=>by injection z with z;exact h (zjb z)
   have e1:zj5 ((l,d)::ds) k=zj5 ds k:=by simp[zj5,h]
   have e2:zeg ((Sum.inr (T l),v)::vs) (Sum.inr (T k):Key)=zeg vs (Sum.inr (T k):Key):=by
    unfold zeg
    rw[lci (by simpa using h')]
   rw[e1,e2]
   exact ih
section
variable {X:Cx}{cl:Nat->Addr}{E:XK}{e o a b:Expr}{es:List Expr}{fa fb:Rho->Rs D}{fs:Rho->Rs (List D)}{x:Str}{p pos:Pos}
theorem zjt {a b d:D}(e:getD a b=some d):∃ds k,a=.dct ds/\b=.str k/\zj5 ds k=some d:=by
 cases a with
 | dct ds =>
  cases b with
  | str k=>exact⟨ds,k,rfl,rfl,e⟩
  | _=>cases e
 | _=>cases e
theorem Dt.dctE {K:PySem.W.Frag}{F:Hp}{v:V}{ds:List (List Nat×D)}(q:Dt K cl F v (.dct ds)):∃(a:Addr) (kvs:List (Key×V)),v=.ref a/\F a=some (.dK kvs)/\Dks K cl F kvs ds:=by
 cases q with|dct h k=>exact⟨_,_,rfl,h,k⟩
theorem zfq (hu:X.A.units+1<cLine)(ha:XE X cl E a fa)(hb:XE X cl E b fb)(hs:zn1 b:=by intro _ _;rfl):XE X cl E (.Subscript a b pos) (f2 getD fa fb):=by
 obtain⟨t,pt,rt⟩:=ha.ex
 obtain⟨u,pu,ru⟩:=hb.ex
 refine XE'.out ⟨_,zk5 hu pt pu hs,λH0 F0 ρ σ H F Q R o=>rt H0 F0 ρ σ H F _ R (OutE.fst o λd v H1 F1 g1 q o1=>?_)⟩
 refine ru H0 F0 ρ σ H1 F1 _ (R.grow g1) (OutE.fst o1 λe w H2 F2 g2 q2 o2=>?_)
 obtain⟨z,hz,k⟩:=o2.lf
 have fh:=(R.grow (g1.trans g2)).fh
 have q':=q.mono g2.ff
 obtain⟨ds,key,rfl,rfl,hz'⟩:=zjt hz
 obtain⟨ad,kvs,rfl,hd,hk⟩:=q'.dctE
 obtain⟨rfl,ok⟩:=q2.strE
 have hv:=hk.val (k:=key)
 rw[hz'] at hv
 obtain⟨v,e1,e2⟩:=hv
 exact⟨ad,v,rfl,e1▸DGet.k (k:=Sum.inr (T key)) (fh _ _ hd),k _ _ _ (Gr.refl fh) e2⟩
def zoo (ks:List (List Nat))(ds:List D):List (List Nat×D):=(List.range (min ks.length ds.length)).foldl (λm j=>putD m (ks.getD j []) (ds.getD j .non)) []
def zph:D->Option (List D)
 | .lst ds=>some ds
 | .tup ds=>some ds
 | _=>none
theorem Dts.getDt {K:PySem.W.Frag}{F:Hp}:∀{vs:List V}{ds:List D} (_:Dts K cl F vs ds) (j:Nat),j<ds.length->Dt K cl F (vs.getD j .non) (ds.getD j .non):=by
 intro vs ds
 induction ds generalizing vs with
 | nil=>intro _ j h;cases h
 | cons d ds ih =>
  intro q j h
  cases q with
  | cons r t =>
   cases j with
   | zero=>exact r
   | succ j=>exact ih t j (Nat.lt_of_succ_lt_succ h)
theorem zkV {K:PySem.W.Frag}{F:Hp}{ks:List (List Nat)}{vs:List V}{ds:List D}(hk:∀x∈ks,TxtOk (T x))(q:Dts K cl F vs ds):Dks K cl F (zlT ks vs) (zoo ks ds):=by
 have key:∀(js:List Nat) (m:List (Key×V)) (n:List (List Nat×D)),(∀j∈js,j<ks.length/\j<ds.length)->Dks K cl F m n ->
   Dks K cl F (js.foldl (λm j=>putK m (Sum.inr (T (ks.getD j []))) (vs.getD j .non)) m) (js.foldl (λm j=>putD m (ks.getD j []) (ds.getD j .non)) n):=by
  intro js
  induction js with
  | nil=>exact λm n _ h=>h
  | cons j js ih =>
   intro m n h hm
   rw[lag,lag]
   obtain⟨h1,h2⟩:=h j (.head _)
   refine ih _ _ (λi hi=>h i (.tail _ hi)) (hm.put (hk _ ?_) (q.getDt j h2))
   rw[lm,lQ9 h1]
   exact laV h1
 unfold zlT zoo
 rw[q.length]
 exact key _ _ _ (λj hj=>by have:=la6.mp hj;omega) .nil
theorem Dt.seq {K:PySem.W.Frag}{F:Hp}{v:V}{d:D}{ds:List D}(q:Dt K cl F v d)(e:zph d=some ds):∃(a:Addr) (vs:List V),v=.ref a/\(SqL K F a vs∨SqT K F a vs)/\Dts K cl F vs ds:=by
 cases q with
 | lst sq dq=>obtain rfl:=lg e;exact⟨_,_,rfl,.inl sq,dq⟩
 | tup sq dq=>obtain rfl:=lg e;exact⟨_,_,rfl,.inr sq,dq⟩
 | _=>cases e
def zmm:D->D->Option D
 | .lst ds,.str k=>if ds.all isS=true/\ds.length<=1000/\k∈ds.map unS then some (.int ((ds.map unS).idxOf k:Nat)) else none
 | .tup ds,.str k=>if ds.all isS=true/\ds.length<=1000/\k∈ds.map unS then some (.int ((ds.map unS).idxOf k:Nat)) else none
 | _,_=>none
def zoE:D->Bool
 | .tup _=>true
 | _=>false
theorem zie {ls:List (List Nat)}{k:List Nat}(h:k∈ls):zbQ (.str (T k))=true/\(vT ls).all zbQ=true/\(vT ls)[ls.idxOf k]? = some (.str (T k))/\eqV (.str (T k)) (.str (T k))=true /\
  ∀(m:Nat) (w:V),m<ls.idxOf k->(vT ls)[m]? = some w->eqV w (.str (T k))=false:=by
 have hl:=List.idxOf_lt_length_of_mem h
 have key:∀x,eqV (.str (T x)) (.str (T k))=(x == k):=λx=>zl8 x k
 refine⟨rfl,?_,?_,?_,?_⟩
 ·unfold vT;simp[zbQ]
 ·unfold vT
  rw[lT,lQ9 hl,lck hl];rfl
 ·rw[key];simp
 ·intro m w hm hw
  unfold vT at hw
  have hml:m<ls.length:=by omega
  rw[lT,lQ9 hml] at hw
  obtain rfl:=lg hw
  have hne:ls[m]≠k:=by
   have:=List.not_of_lt_findIdx (p:=(· == k)) (xs:=ls) (i:=m) hm
   simpa using this
  show eqV (.str (T ls[m])) (.str (T k))=false
  rw[key];simp[hne]
def zo8 (K:PySem.W.Frag)(r:V->List V->Hp->VK->Prop)(to:TE)(t:TA):TE:=λσ H Q=>to σ H λx H1=>(∃(a:Addr) (xs:List V),x=.ref a/\SqT K H1 a xs)/\t σ H1 λxs H2=>r x xs H2 Q
theorem znh {to:TE}{t:TA}{name:Str}{apos cpos:Pos}{id:String}{r:V->List V->Hp->VK->Prop}(pa:PlainAttrs "tuple")(slot:Slot "tuple" name id)(hty:typeOf (.builtin id)=pure (.type "method_descriptor"))(hm:MtR X id r)(ho:PE X o to)(ha:PA X (e::es) t)
  (hbase:attributeBase o name X.env (eval o X.env)=eval o X.env)
  (hfew:((backTo cpos (starEach (e::es) X.env)).all (λx=>!x.1)&&(backToKw cpos (keywordEach [] X.env)).all (λx=>x.1.isSome)
   && decide ((e::es).length+([]:List Keyword).length+(if ([]:List Keyword).isEmpty then 0 else 1)<30))=true)
  (hline:(apos.endLine == cpos.line)=true) (hs:starEach (e::es) X.env=(false,eval e X.env)::starEach es X.env) (hplain:(backTo cpos (starEach es X.env)).any (·.1)=false) :
  PE X (.Call (.Attribute o name apos) (e::es) [] cpos) (zo8 X.K r to t):=by
 intro pins s σ H Q I h
 refine wpAny_Call_method_late hbase hfew hline rfl (thn (ho pins s σ H _ I h) λv s1 hq36=>?_)
 obtain⟨x,H1,I1,r1,ty,q1⟩:=hq36
 obtain⟨ad,xs,rfl,sq⟩:=ty
 cases r1
 obtain⟨ob,e1,c1,d1⟩:=I1.noDict sq
 refine⟨"tuple", id,pa,slot,hty,⟨ob,e1,c1⟩,λa z=>by cases z;exact⟨ob,e1,d1⟩,?_⟩
 have hA:=ha cpos pins s1 σ H1 _ I1 q1
 rw[hs] at hA ⊢
 refine Calls.callWith_builtin (by show(false || (backTo cpos (starEach es X.env)).any (·.1))=false;rw[hplain] <;>rfl) (ldg ?_)
 exact thn hA λus s2 ⟨vs,H2,I2,r2,q2⟩=>hm pins s2 σ H2 (.ref ad) vs (.ref ad) us Q I2 rfl r2 q2
theorem zk7 {apos cpos:Pos}(ho:XE X cl E o fa)(ha:XE X cl E e fb)(m:Mth X o e "index" apos cpos):XE X cl E (.Call (.Attribute o "index" apos) [e] [] cpos) (fM zoE zmm fa fb):=by
 obtain⟨t,pt,rt⟩:=ho.ex
 obtain⟨u,pu,ru⟩:=ha.ex
 refine XE'.out ⟨_,znh PySem.F.plainAttrs_tuple PySem.F.slot_tuple_index PySem.F.type_tuple_index zhY pt (xO pu qO m.hs) m.base m.few m.line m.hs m.plain,λH0 F0 ρ σ H F Q R o=>rt H0 F0 ρ σ H F _ R (OutE.fst o λd v H1 F1 g1 q o1=>?_)⟩
 split at o1
 ·rename_i hd
  cases q with
  | tup sq dq =>
   rename_i ad xs ds
   refine⟨⟨ad,xs,rfl,(R.grow g1).fh.seqT sq⟩,ru H0 F0 ρ σ H1 F1 _ (R.grow g1) (OutE.fst o1 λd2 v2 H2 F2 g2 q2 o2=>?_)⟩
   obtain⟨z,hz,k⟩:=o2.lf
   have fh:=(R.grow (g1.trans g2)).fh
   cases q2 with
   | str key ok2 =>
    dsimp only [zmm] at hz
    split at hz
    ·rename_i h
     obtain rfl:=lg hz
     obtain⟨e1,e2,e3⟩:=dq.texts h.1
     subst e1
     obtain⟨a1,a2,a3,a4,a5⟩:=zie h.2.2
     exact⟨ad,_,_,_,_,rfl,rfl,fh.seqT (g2.ff.seqT sq),a1,a2,a3,a4,a5,k _ _ _ (Gr.refl fh) (.int _)⟩
    ·cases hz
   | _=>cases hz
  | _=>cases hd
 ·exact o1.elim
end
def zoD:List D->Option D
 | [.int i]=>if 0<=i/\i<=9 then some (.str [48+i.toNat]) else none
 | _=>none
section
variable {K:PySem.W.Frag}{cl:Nat->Addr}
theorem n_str:Fn1 K cl (λxs H Q=>∃i,xs=[.int i]/\i.natAbs.log2<1920/\Q (.str (toString i)) H) zoD:=λF H vs ds d Q s q e k=>by
 match ds,q,e with
 | [.int i],q,e =>
  obtain⟨v,rfl,q1⟩:=q.one
  cases q1
  dsimp only [zoD] at e
  split at e
  ·rename_i h
   obtain rfl:=lg e
   obtain⟨n,rfl⟩:=lZ h.1
   have key:∀n<10,((toString ((n:Nat):Int):String):Str)=T [48+n]/\((n:Nat):Int).natAbs.log2<1920:=by decide +kernel
   have hn:n<10:=by omega
   refine⟨_,rfl,(key n hn).2,?_⟩
   have:=k (.str (T [48+n])) _ _ (Gr.refl s) (.str _ (zb3 (λc hc=>by rw[lK.mp hc];omega) (by show 1<=_;decide)))
   rw[(key n hn).1]
   exact this
  ·cases e
end
section
variable {X:Cx}{cl:Nat->Addr}{E:XK}{a b e:Expr}{fa fb:Rho->Rs D}{pos:Pos}{st:Stmt}{g:Rho->Out}
def zhL (l:List Nat)(ds:List D):List (List Nat×D):=(l.zip ds).foldl (λm p=>putD m [p.1] p.2) []
def zju (a b:D):Option D:=match a,b with
 | .str l,.tup ds=>if l.all (λc=>decide (c<128))=true/\l.length<=1000 then some (.dct (zhL l ds)) else none
 | _,_=>none
theorem zfF {K:PySem.W.Frag}{F:Hp}:∀{l:List Nat}{vs:List V}{ds:List D}{m:List (Key×V)}{n:List (List Nat×D)},(∀c∈l,TxtOk (T [c]))->Dts K cl F vs ds->Dks K cl F m n ->
  Dks K cl F ((l.zip vs).foldl (λm p=>putK m (Sum.inr (T [p.1])) p.2) m) ((l.zip ds).foldl (λm p=>putD m [p.1] p.2) n)
 | [],_,_,_,_,_,_,h=>h
 | _::_,_,_,_,_,_,.nil,h=>h
 | c::l,_,_,_,_,k,.cons q t,h=>by
  rw[lbZ,lbZ,lag,lag]
  exact zfF (λd hd=>k d (.tail _ hd)) t (h.put (k c (.head _)) q)
theorem zex {p1 p2 pos1 pos2:Pos}(hc:X.calm=true)(hd:Gl X "dict")(md:X.mg "dict" = none)(hz:Gl X "zip")(mz:X.mg "zip" = none)(ha:XE X cl E a fa)(hb:XE X cl E b fb)
  (hs:starEach [a,b] X.env=[(false,eval a X.env),(false,eval b X.env)]:=by rfl) (hs2:starEach [b] X.env=[(false,eval b X.env)]:=by rfl)
  (hs3:starEach [.Call (.Name "zip" p2) [a,b] [] pos2] X.env=[(false,eval (.Call (.Name "zip" p2) [a,b] [] pos2) X.env)]:=by rfl) :
  XE X cl E (.Call (.Name "dict" p1) [.Call (.Name "zip" p2) [a,b] [] pos2] [] pos1) (f2 zju fa fb):=by
 obtain⟨t,pt,rt⟩:=ha.ex
 obtain⟨u,pu,ru⟩:=hb.ex
 refine XE'.out ⟨_,zgf hc pt pu hd hz md mz hs hs2 hs3,λH0 F0 ρ σ H F Q R o=>?_⟩
 unfold znr jV
 refine rt H0 F0 ρ σ H F _ R (OutE.fst o λd v H1 F1 g1 q o1=>?_)
 refine ru H0 F0 ρ σ H1 F1 _ (R.grow g1) (OutE.fst o1 λe w H2 F2 g2 q2 o2=>?_)
 obtain⟨z,hz,k⟩:=o2.lf
 have fh:=(R.grow (g1.trans g2)).fh
 unfold zju at hz
 split at hz
 ·rename_i l ds
  split at hz
  ·rename_i h
   obtain rfl:=lg hz
   cases q with
   | str l ok =>
   cases q2 with
   | tup sq dq =>
   have h1:∀c∈l,c<128:=λc hc=>lc6 (laL.mp h.1 c hc)
   refine⟨l,_,_,rfl,fh.seqT sq,h1,h.2,λp hp=>k _ _ _ (Gr.new fh hp) ?_⟩
   exact .dct zW ((zfF (λc hc=>znI ok hc) dq .nil).mono (Same.upd (fh.free hp)))
  ·cases hz
 ·cases hz
def isI:D->Bool
 | .int _=>true
 | _=>false
def unN:D->Int
 | .int i=>i
 | _=>0
theorem Dts.ints {K:PySem.W.Frag}{F:Hp}:∀{vs:List V}{ds:List D},Dts K cl F vs ds->ds.all isI=true->vs=(ds.map unN).map V.int
 | _,_,.nil,_=>rfl
 | _,_,.cons q r,h=>by
  rw[lcs,lab] at h
  have:=Dts.ints r h.2
  cases q <;>simp[isI] at h
  rw[this];rfl
def znG:List D->Option D
 | [.tup ds]=>if ds.all isI=true then some (.int (ds.map unN).sum) else none
 | _=>none
theorem n_sum {K:PySem.W.Frag}:Fn1 K cl (λxs H Q=>∃(a:Addr) (ns:List Int),xs=[.ref a]/\SqT K H a (ns.map V.int)/\Q (.int ns.sum) H) znG:=λF H vs ds d Q s q e k=>by
 match ds,q,e with
 | [.tup l],q,e =>
  obtain⟨v,rfl,q1⟩:=q.one
  dsimp only [znG] at e
  split at e
  ·rename_i h
   obtain rfl:=lg e
   cases q1 with
   | tup sq dq =>
    rw[dq.ints h] at sq
    exact⟨_,_,rfl,s.seqT sq,k _ _ _ (Gr.refl s) (.int _)⟩
  ·cases e
theorem Rl.iceD {K:PySem.W.Frag}{F H:Hp}{H0 F0:Hp}{ρ:Rho}{σ:St}{i:Nat}{ds:List (List Nat×D)}(R:Rl K cl H0 F0 ρ σ H F)(hi:ρ[i]? = some (.od ds)):∃F',Same F F'/\Rl K cl H0 F0 (ρ.set i (.fz (.dct ds))) σ H F':=by
 obtain⟨a,vs,h1,h2,h3,h4,h5⟩:=R.od i ds hi
 have sm:Same F (upd F a (.dK vs)):=Same.upd h3
 have far:∀(j:Nat) (s:Sl) (c:Addr),j≠i->ρ[j]? = some s->s.own=true->σ[j]? = some (some (.ref c))->c≠a:=λj s c hj e o z w=>hj (R.ap j i s _ a e hi o rfl (w▸z) h1)
 refine⟨upd F a (.dK vs),sm,⟨⟨R.gr.ff.trans sm,R.gr.hh,λc o e=>?_,λc o hc m q=>?_⟩,by simp[R.len],λj e z=>?_,λj e z=>?_,λj e z=>?_,λj k s t c z1 z2 o1 o2 e1 e2=>?_⟩⟩
 ·by_cases w:c=a
  ·subst w;rw[zW] at e;rw[← e];exact h2
  ·rw[zP w] at e;exact R.fh c o e
 ·have hne:c≠a:=λw=>by rw[w,h4] at hc;cases hc
  rw[zP hne];exact R.gr.no c o hc m q
 ·rcases get_set z with⟨rfl,q,hl⟩|⟨hj,q⟩
  ·injection q with q;subst q
   exact⟨.ref a,h1,.dct zW (h5.mono sm)⟩
  ·obtain⟨v,k1,k2⟩:=R.fz j e q
   exact⟨v,k1,k2.mono sm⟩
 ·rcases get_set z with⟨rfl,q,hl⟩|⟨hj,q⟩
  ·cases q
  ·obtain⟨c,xs,k1,k2,k3,k4,k5⟩:=R.ow j e q
   exact⟨c,xs,k1,k2,by rw[zP (far j _ c (lbb hj) q rfl k1)];exact k3,k4,k5.mono sm⟩
 ·rcases get_set z with⟨rfl,q,hl⟩|⟨hj,q⟩
  ·cases q
  ·obtain⟨c,xs,k1,k2,k3,k4,k5⟩:=R.od j e q
   exact⟨c,xs,k1,k2,by rw[zP (far j _ c (lbb hj) q rfl k1)];exact k3,k4,k5.mono sm⟩
 ·rcases get_set z1 with⟨rfl,q,hl⟩|⟨hj,q⟩
  ·subst q;cases o1
  ·rcases get_set z2 with⟨rfl,q2,hl⟩|⟨hk,q2⟩
   ·subst q2;cases o2
   ·exact R.ap j k s t c q q2 o1 o2 e1 e2
def zje (i:Nat)(g:Rho->Out):Rho->Out:=λρ=>match ρ[i]? with|some (.od ds)=>g (ρ.set i (.fz (.dct ds)))|_=>.no
theorem zhC {i:Nat}(h:XS X cl E st g):XS X cl E st (zje i g):=by
 obtain⟨t,pt,rt⟩:=h.ex
 refine XS'.out ⟨t,pt,λH0 F0 ρ σ H F Dn R o=>?_⟩
 unfold zje at o
 split at o
 ·rename_i ds hi
  obtain⟨F',sm,R'⟩:=R.iceD hi
  exact rt H0 F0 _ σ H F' Dn R' (o.grow sm)
 ·exact o.elim
end
theorem za6:fillsNumberSlot (.type "tuple") "mul" = pure false :=
 PySem.fillsNumberSlot_seq (id := "tuple.__mul__") (r:=some (.builtin "tuple.__rmul__")) ld4.lookup (by decide +kernel) F.slot_tuple_rmul.lookup (by decide +kernel)
theorem zdu:seqRepeat? (.type "tuple")=pure (some (.builtin "tuple.__mul__")):=by
 unfold seqRepeat?
 rw[PySem.seqSlot_of (T := "tuple") (name := "__mul__") (id := "tuple.__mul__") ld4.lookup (by decide +kernel),PySem.seqSlot_of (T := "tuple") (name := "__rmul__") (id := "tuple.__rmul__") F.slot_tuple_rmul.lookup (by decide +kernel)]
 rfl
theorem zgg (a:Int)(t:Tok)(l:Addr)(items:Array Value)(n:Nat)(dd sl) :
  Meets (Builtin.«int.__rmul__» ⟨[.int a t,.ref l],[]⟩) (λ_ R s=>s.heap.get? l=some {cls:=.type "tuple", dict:=dd,data:=.seq items n,slots:=sl}/\R (.ok (.ret Value.notImplemented)) s) :=
 .of_wp λprog w A R s h=>by obtain⟨hp,g,d,tk,os⟩:=s;obtain⟨hl,h⟩:=h;wp_walk;exact⟨_,rfl,h⟩
theorem zhO (l:Addr)(items:Array Value)(n:Nat)(dd sl)(x:Int)(u:Tok)(h0:(decide (x < -(2 ^ 63:Int)) || decide (x≥2 ^ 63))=false)(h1:(items.isEmpty || x == 1)=false)(h2:(decide (x<=0) || items.isEmpty)=false)(h3:¬(items.size:Int)*x > (2 ^ 63 - 1) / 8)(h4:Builtin.Tuple.tupleTooMany ((items.size:Int)*x)=false)(h5:(List.foldl (λx1 x2=>x1++x2) #[] (List.replicate x.toNat items)).size<=sizeLine) :
  Meets (Builtin.«tuple.__mul__» ⟨[.ref l,.int x u],[]⟩) (λ_ R s=>s.heap.get? l=some {cls:=.type "tuple", dict:=dd,data:=.seq items n,slots:=sl}/\R (.ok (.ret (Value.ref s.heap.objs.size))) {s with heap:=s.heap.push {cls:=Value.type "tuple", data:=Data.seq (List.foldl (λx1 x2=>x1++x2) #[] (List.replicate x.toNat items))},toks:=s.toks}) :=
 .of_wp λprog w A R s h=>by
  obtain⟨hp,g,d,tk,os⟩:=s;obtain⟨hl,h⟩:=h
  have f1:=AutoSeq1.idx_int;have f2:=AutoSeq1.sub_tuple_tuple
  wp_walk using lcP hl
  rw[lap (by rw[h0];decide)]
  wp_walk using lcP hl
  rw[lap h3]
  wp_walk using lcP hl
  exact⟨_,rfl,h⟩
section
variable {X:Cx}{cl:Nat->Addr}{E:XK}{a b e:Expr}{fa fb:Rho->Rs D}{pos:Pos}
def znl (K:PySem.W.Frag):R2:=λx y H Q=>∃l k xs,x=.ref l/\y=.int k/\SqT K H l xs/\xs≠[]/\2<=k/\k<=1000/\xs.length<=1000/\∀p,H p=none->Q (.ref p) (upd H p (.tup (List.replicate k.toNat xs).flatten))
theorem zkC:OpR X (binaryOp .Mult) (znl X.K):=by
 intro pins s σ H x y v u Q I rx ry h
 obtain⟨l,k,xs,rfl,rfl,hH,hne,k2,k3,hz,q⟩:=h
 cases rx
 obtain⟨t,rfl⟩:=ry
 obtain⟨its,r,p1,_⟩:=I.tuple hH
 obtain⟨⟨cls,dd,data,sl⟩,ho,hc,n,hd⟩:=id p1
 simp only at hc hd
 subst hc hd
 have hl:=r.length
 have hi:its≠[]:=λz=>hne (r.nil_iff.mp z)
 have hnew:List.foldl (λx1 x2=>x1++x2) #[] (List.replicate k.toNat its.toArray)=(List.replicate k.toNat its).flatten.toArray:=by
  have:=foldl_rep its k.toNat []
  rw[laH] at this
  exact this
 have hsz:(List.replicate k.toNat its).flatten.length<=1000000:=by
  rw[len_rep,← hl]
  exact ldF (show k.toNat<=1000 by omega) hz
 have hsm:(its.toArray.size:Int)*k<=1000*1000:=by
  rw[lF,← hl]
  exact lb1 (by omega) k3 (by omega) (by decide)
 refine wpAny_binaryOp_repeat_ref (T := "tuple") (U := "int") (by decide) ⟨_,ho,rfl⟩ (λs'=>lej s' k t) za6 F.fills_int_mul ldr zdu F.slot_int_index.lookup
  (lct ldr (lej s k t) F.entry_int_rmul (F.args_int_rmul_2 _ _) (zgg k t l its.toArray n dd sl)
   ⟨ho,rfl,⟨_,ho,rfl⟩,lct ld4 ⟨_,ho,rfl⟩ F.entry_tuple_mul (F.args_tuple_mul_2 _ _) (zhO l its.toArray n dd sl k t ?_ ?_ ?_ ?_ ?_ ?_) ⟨ho,?_⟩⟩)
 ·rw[lN (by omega),lN (by omega)];rfl
 ·have:(k == 1)=false:=by rw[lbO];omega
  rw[this,lez]
  cases its with
  | nil=>exact absurd rfl hi
  | cons=>rfl
 ·rw[lN (by omega),Bool.false_or]
  cases its with
  | nil=>exact absurd rfl hi
  | cons=>rfl
 ·omega
 ·show decide (_ > (sizeLine:Int))=false
  rw[lN]
  rw[laP]
  omega
 ·rw[hnew,lF]
  exact sz6 hsz
 ·rw[hnew]
  refine⟨.ref _,_,I.laid (t':=s.toks) (o:=.tup (List.replicate k.toNat xs).flatten) (λb ob q=>lb _ q) (lr _) ?_,rfl,q _ I.fresh⟩
  exact⟨by rw[len_rep,hl,← len_rep];exact sz6 hsz,_,r.rep k.toNat,TupD.new _ _⟩
def zmu:D->D->Option D
 | .tup ds,.int k=>if 2<=k/\k<=1000/\ds.length<=1000/\ds≠[] then some (.tup (List.replicate k.toNat ds).flatten) else none
 | _,_=>none
theorem Dts.rep {K:PySem.W.Frag}{F:Hp}{vs:List V}{ds:List D}(q:Dts K cl F vs ds):∀n:Nat,Dts K cl F (List.replicate n vs).flatten (List.replicate n ds).flatten
 | 0=>.nil
 | n+1=>by
  rw[laB,laB,lbt,lbt]
  exact q.append (Dts.rep q n)
theorem zmw {K:PySem.W.Frag}:Op2 K cl (znl K) zmu:=λF H x y a b d Q s qa qb e k=>by
 match a,b,qa,qb,e with
 | .tup ds,.int n,qa,qb,e =>
  dsimp only [zmu] at e
  split at e
  ·rename_i h
   obtain rfl:=lg e
   cases qb
   cases qa with
   | tup sq dq =>
    have hl:=dq.length
    refine⟨_,_,_,rfl,rfl,s.seqT sq,λz=>h.2.2.2 (by rw[z] at hl;exact la2.mp hl.symm),h.1,h.2.1,by omega,λp hp=>k _ _ _ (Gr.new s hp) ?_⟩
    exact .tup (SqT.of zW) ((dq.rep n.toNat).mono (Same.upd (s.free hp)))
  ·cases e
theorem zcg (its:List Nat):∀(m:Nat) (acc:List Nat),List.foldl (λx1 x2=>x1++x2) acc.toArray (List.replicate m its.toArray)=(acc++(List.replicate m its).flatten).toArray
 | 0,acc=>by simp
 | m+1,acc=>by
  rw[laB,lag]
  have e:acc.toArray++its.toArray=(acc++its).toArray:=by simp
  rw[e,zcg its m,laB,lbt,lbu]
def zmp:R2:=λx y H Q=>∃c k,x=.str (T [c])/\y=.int k/\0<=k/\k<=1000/\Q (.str (T (List.replicate k.toNat c))) H
theorem zlP:OpR X (binaryOp .Mult) zmp:=by
 intro pins s σ H x y v u Q I rx ry h
 obtain⟨c,k,rfl,rfl,k0,k1,q⟩:=h
 obtain⟨t,rfl⟩:=rx
 obtain⟨t',rfl⟩:=ry
 have hlen:(T [c]).length=1:=by rw[zas];rfl
 refine P.mul_str ?_ (λ_ _=>?_) (λ_ _=>?_) ?_
 ·rw[lN (by omega),lN (by omega)];rfl
 ·rw[hlen]
  rename_i h1 _
  have:(1:Int)<=(2 ^ 63 - 1) / k:=Int.le_ediv_of_mul_le (by omega) (by omega)
  show ¬((1:Nat):Int) > _
  omega
 ·rw[hlen,Nat.one_mul]
  show decide (k.toNat > sizeLine)=false
  rw[lN]
  rw[laP];omega
 ·have fin:∀z:Str,z=T (List.replicate k.toNat c)->(Made.str z).post (EP X pins σ Q) s:=λz ez=>by
   subst ez
   exact⟨by rw[zas,lX,laP];omega,.str (T (List.replicate k.toNat c)),H,I.tok _,⟨_,rfl⟩,q⟩
  by_cases h0:k<1
  ·have:k=0:=by omega
   subst this
   rw[lH h0]
   exact fin _ (show Str.empty=T [] by decide +kernel)
  ·rw [lap h0]
   by_cases h1:k=1
   ·subst h1
    rw[lH (by rfl)]
    exact⟨.str (T [c]),H,I,⟨_,rfl⟩,q⟩
   ·have e1:(k == 1 || (T [c]).length == 0)=false:=by
     rw[hlen,Bool.or_eq_false_iff]
     exact⟨lbO.mpr h1,rfl⟩
    rw[e1,lap (by decide)]
    refine fin _ ?_
    have:=zcg [c] k.toNat []
    rw[laH] at this
    have e2:(List.replicate k.toNat [c]).flatten=List.replicate k.toNat c:=by
     generalize k.toNat=n
     induction n with
     | zero=>rfl
     | succ n ih=>rw[laB,lbt,ih,laB];rfl
    rw[e2] at this
    show(⟨List.foldl (λx1 x2=>x1++x2) #[] (List.replicate k.toNat [c].toArray)⟩:Str)=⟨(List.replicate k.toNat c).toArray⟩
    rw[this]
def znE:D->D->Option D
 | .str [c],.int k=>if 0<=k/\k<=1000 then some (.str (List.replicate k.toNat c)) else none
 | _,_=>none
theorem zl3 {K:PySem.W.Frag}:Op2 K cl zmp znE:=λF H x y a b d Q s qa qb e k=>by
 match a,b,qa,qb,e with
 | .str [c],.int n,qa,qb,e =>
  dsimp only [znE] at e
  split at e
  ·rename_i h
   obtain rfl:=lg e
   cases qb
   cases qa with
   | str _ ok =>
    exact⟨c,n,rfl,rfl,h.1,h.2,k _ _ _ (Gr.refl s) (.str _ (zfb ok (λd hd=>by rw[(List.mem_replicate.mp hd).2];exact .head _) (by rw[lX];omega)))⟩
  ·cases e
end
structure XEw (X:Cx)(cl:Nat->Addr)(E:XK)(e:Expr)(f:Rho->Rs D):Prop where
 out:XE X cl E e f
structure XAw (X:Cx)(cl:Nat->Addr)(E:XK)(es:List Expr)(f:Rho->Rs (List D)):Prop where
 out:XA X cl E es f
section
variable {X:Cx}{cl:Nat->Addr}{E:XK}{e:Expr}{es:List Expr}{f:Rho->Rs D}{fs:Rho->Rs (List D)}{pos:Pos}
theorem zcz:XAw X cl E [] zG:=⟨zx⟩
theorem uT (h1:XEw X cl E e f)(h2:XAw X cl E es fs)(hs:starEach (e::es) X.env=(false,eval e X.env)::starEach es X.env):XAw X cl E (e::es) (zj f fs):=⟨zf h1.out h2.out hs⟩
theorem zf4 (h:XAw X cl E es fs):XEw X cl E (.List es pos) (fO mkL fs):=⟨zdZ h.out⟩
theorem zke {x1}(h:XAw X cl E es fs):XEw X cl E (.Tuple es x1 pos) (fO mkT fs):=⟨zcl h.out⟩
theorem zjU {x:Str}{j}{l:List Nat}(h:x=T l)(ok:TxtOk (T l)):XEw X cl E (.Constant (.str x) j pos) (fC (.str l)):=⟨qQ h ok⟩
theorem zot {a b:Expr}{fa fb:Rho->Rs D}(ha:XEw X cl E a fa)(hb:XEw X cl E b fb)(hs:zfg b):XEw X cl E (.Subscript a b pos) (f2 ixD fa fb):=⟨vP ha.out hb.out hs⟩
theorem zaV {i j}:XEw X cl E (.Constant (.int i) j pos) (fC (.int i)):=⟨zJ⟩
end
section
variable {X:Cx}{e e':Expr}{p pos:Pos}
def zoW (ls ms:List (List Nat)):List (List Nat):=(zoT ls).filter λx=>!decide (x∈ms)
end
section
variable {X:Cx}{cl:Nat->Addr}{E:XK}{e:Expr}{f:Rho->Rs D}{p pos:Pos}{tg:Expr}
end
theorem zg7 (l:Addr)(items:Array Value)(n:Nat)(dd:Option Addr)(sl:Array (Option Value))(x:Int)(u:Tok)(hc0:¬(!Builtin.List.listFitsIndex x)=true)(hc1:¬items.size*x.toNat > (2 ^ 63 - 1) / 8)(hc2:¬Builtin.List.listTooLong (items.size*x.toNat)=true) :
  Meets (Builtin.«list.__mul__» ⟨[.ref l,.int x u],[]⟩) (λ_ R s=>s.heap.get? l=some {cls:=.type "list", dict:=dd,data:=.seq items n,slots:=sl}/\R (.ok (.ret (Value.ref s.heap.objs.size))) {s with heap:=s.heap.push {cls:=Value.type "list", data:=Data.seq (List.foldl (λx1 x2=>x1++x2) #[] (List.replicate (if items.isEmpty=true then 0 else x.toNat) items))},toks:=s.toks}) :=
 .of_wp λprog w A R s h=>by
  obtain⟨hp,g,d,tk,os⟩:=s;obtain⟨hl,h⟩:=h
  have hsz:=AutoListH.joined_fits hc2
  wp_walk;refine wpAny_ite_false (lN (lek.mpr hsz)) ?_;wp_walk;exact⟨_,rfl,h⟩
theorem zg0 (a:Int)(t:Tok)(l:Addr)(items:Array Value)(n:Nat)(dd:Option Addr)(sl:Array (Option Value)) :
  Meets (Builtin.«int.__rmul__» ⟨[.int a t,.ref l],[]⟩) (λ_ R s=>s.heap.get? l=some {cls:=.type "list", dict:=dd,data:=.seq items n,slots:=sl}/\R (.ok (.ret Value.notImplemented)) s) :=
 .of_wp λprog w A R s h=>by obtain⟨hp,g,d,tk,os⟩:=s;obtain⟨hl,h⟩:=h;wp_walk;exact⟨_,rfl,h⟩
def znJ (K:PySem.W.Frag):R2:=λx y H Q=>∃l k xs,x=.ref l/\y=.int k/\SqL K H l xs/\-(2 ^ 63)<=k/\k<2 ^ 63/\xs.length*k.toNat<=sizeLine /\
 ∀p,H p=none->Q (.ref p) (upd H p (.lst (List.replicate k.toNat xs).flatten))
section
variable {X:Cx}{cl:Nat->Addr}{E:XK}{a b:Expr}{fa fb:Rho->Rs D}{pos:Pos}
theorem zkx:OpR X (binaryOp .Mult) (znJ X.K):=by
 intro pins s σ H x y v u Q I rx ry h
 obtain⟨l,k,xs,rfl,rfl,hH,h1,h2,hz,q⟩:=h
 cases rx
 obtain⟨t,rfl⟩:=ry
 obtain⟨its,r,⟨o,n,e,hc,hdd,hd⟩,z⟩:=I.list hH
 obtain⟨cls,dd,data,sl⟩:=o
 simp only at hc hd
 subst hc hd
 have hl:=r.length
 have hlen:its.toArray.size*k.toNat<=sizeLine:=by rw[lF,← hl];exact hz
 have hcap:¬its.toArray.size*k.toNat > (2 ^ 63 - 1) / 8:=by
  have:(sizeLine:Nat)<=(2 ^ 63 - 1) / 8:=by decide
  omega
 have hfit:¬(!Builtin.List.listFitsIndex k)=true:=by
  rw[fitsIndex_both h1 h2]
  exact lD
 have hlong:¬Builtin.List.listTooLong (its.toArray.size*k.toNat)=true:=by
  rw[ziP hlen]
  exact lD
 have hnew:List.foldl (λx1 x2=>x1++x2) #[] (List.replicate (if its.toArray.isEmpty=true then 0 else k.toNat) its.toArray)=(List.replicate k.toNat its).flatten.toArray:=by
  have f0:∀m:Nat,List.foldl (λx1 x2=>x1++x2) #[] (List.replicate m its.toArray)=(List.replicate m its).flatten.toArray:=λm=>by
   have:=foldl_rep its m []
   rw[laH] at this
   exact this
  rw[f0]
  cases its with
  | nil=>simp
  | cons a r'=>rw[lap (by simp)]
 refine wpAny_binaryOp_repeat_ref (T := "list") (U := "int") (by decide) ⟨_,e,rfl⟩ (λs'=>lej s' k t) noFill_list_mul F.fills_int_mul ldr repeat_list F.slot_int_index.lookup
  (lct ldr (lej s k t) F.entry_int_rmul (F.args_int_rmul_2 _ _) (zg0 k t l its.toArray n dd sl)
   ⟨e,rfl,⟨_,e,rfl⟩,lct F.slot_list_mul ⟨_,e,rfl⟩ F.entry_list_mul (F.args_list_mul_2 _ _) (zg7 l its.toArray n dd sl k t hfit hcap hlong) ⟨e,?_⟩⟩)
 rw[hnew]
 exact⟨.ref _,_,I.lnew (t':=s.toks) (r.rep k.toNat) (by rw[len_rep,Nat.mul_comm];exact hz),rfl,q _ I.fresh⟩
theorem ziL {a b:D}{z:List D}(e:znD a b=some z):∃l n,a=.lst l/\b=.int n/\0<=n/\n<=1000/\l.length<=1000/\z=(List.replicate n.toNat l).flatten:=by
 cases a with
 | lst l =>
  cases b with
  | int n =>
   by_cases h:0<=n/\n<=1000/\l.length<=1000
   ·exact⟨l,n,rfl,rfl,h.1,h.2.1,h.2.2,(lg ((lH h).symm.trans e)).symm⟩
   ·exact absurd ((lap h).symm.trans e) nofun
  | _=>cases e
 | _=>cases e
theorem zmJ (ha:XE X cl E a fa)(hb:XE X cl E b fb):XL X cl E (.BinOp a .Mult b pos) (fL2 znD fa fb):=by
 obtain⟨t,pt,rt⟩:=ha.ex
 obtain⟨u,pu,ru⟩:=hb.ex
 refine⟨_,zlo zkx pt pu,λH0 F0 ρ σ H F Q R o=>rt H0 F0 ρ σ H F _ R (OutE.fstA o λd v H1 F1 g q o1=>?_)⟩
 refine ru H0 F0 ρ σ H1 F1 _ (R.grow g) (OutE.fstA o1 λd2 v2 H2 F2 g2 q2 o2=>?_)
 obtain⟨z,hz,k⟩:=o2.lf
 have fh:=(R.grow (g.trans g2)).fh
 have q':=q.mono g2.ff
 obtain⟨l,n,rfl,rfl,h0,hn,hl,rfl⟩:=ziL hz
 cases q' with
 | lst sq dq =>
  cases q2 with
  | int =>
   have e1:=dq.length
   have e2:n.toNat<=1000:=by omega
   exact⟨_,_,_,rfl,rfl,fh.seq sq,by omega,by omega,sz6 (laj (ldF (e1▸hl) e2) (by decide)),λp hp=>k _ _ _ (Gr.refl fh) (dq.rep _) p hp⟩
end
def PX (X:Cx)(e:Expr)(t:St->Hp->VK->XK->Prop):Prop:=∀(pins:List (Addr×Obj)) (s:Shared) (σ:St) (H:Hp) (Q:VK) (E:XK) (F':Value->Shared->Prop),Inv X pins σ H s ->
 (∀H s e s',Inv X pins σ H s->zeZ X.prog X.w X.stack H s E e s'->F' e s')->t σ H Q E->wpAny (model X.prog X.w) X.A (eval e X.env) (EP X pins σ Q) F' s
theorem PX.mono {X:Cx}{e:Expr}{t u:St->Hp->VK->XK->Prop}(h:PX X e t)(k:∀σ H Q E,u σ H Q E->t σ H Q E):PX X e u:=λpins s σ H Q E F' I hx q=>h pins s σ H Q E F' I hx (k σ H Q E q)
section
variable {X:Cx}{cl:Nat->Addr}{x:Str}{p pos:Pos}{e c a b:Expr}{es:List Expr}
theorem zfj {ρ:Rho}(h:ρ.all (λs=>!s.own)=true){i:Nat}{s:Sl}(e:ρ[i]? = some s):s.own=false:=by
 have:=laL.mp h s (laU e)
 simpa using this
theorem Rl.base {K:PySem.W.Frag}{H0 F0 H F:Hp}{ρ:Rho}{σ:St}(R:Rl K cl H0 F0 ρ σ H F)(h:ρ.all (λs=>!s.own)=true):Rl K cl H F ρ σ H F where
 gr:=Gr.refl R.fh
 len:=R.len
 fz:=R.fz
 ow:=λi ds e=>by have:=zfj h e;cases this
 od:=λi ds e=>by have:=zfj h e;cases this
 ap:=R.ap
theorem Gr.exc {F H H':Hp}{a:Addr}{o:HO}(h:Same F H)(s:Same H H')(ha:H' a=none):Gr F H (upd F a o) (upd H' a o):=by
 have hH:H a=none:=by
  cases z:H a with
  | none=>rfl
  | some q=>rw[s a q z] at ha;cases ha
 refine⟨Same.upd (h.free hH),s.trans (Same.upd ha),zfD (h.trans s),λb o hb m q=>?_⟩
 have hne:b≠a:=λz=>by rw[z,hH] at hb;cases hb
 rw[zP hne];exact q
def bFl (i:Nat)(f:Rho->Rs Bool):Rho->Rs Bool:=λρ=>match owL ρ i with
 | some ds=>f (ρ.set i (.fz (.lst ds)))
 | none=>.no
theorem zn7 {E:XK}{i:Nat}{ft:Rho->Rs Bool}(h:XT X cl E e ft):XT X cl E e (bFl i ft):=by
 obtain⟨t,pt,rt⟩:=h.ex
 refine XT'.out ⟨_,pt,λH0 F0 ρ σ H F Q R o=>?_⟩
 unfold bFl at o
 cases hw:owL ρ i with
 | none=>rw[hw] at o;exact o.elim
 | some ds =>
  rw[hw] at o
  obtain⟨F1,s1,R1⟩:=R.ice (zaf hw)
  refine rt H0 F0 _ σ H F1 _ R1 ?_
  have o1:OutB X.K cl E H0 F H (ft (ρ.set i (.fz (.lst ds)))) Q:=o
  cases e:ft (ρ.set i (.fz (.lst ds))) with
  | ok d=>rw[e] at o1;exact λH' F' g=>o1 H' F ⟨Same.refl _,g.hh,R.fh.trans g.hh,λ_ _ _ _ z=>z⟩
  | ex n=>rw[e] at o1;exact o1
  | no=>rw[e] at o1;exact o1.elim
end
section
variable {X:Cx}{cl:Nat->Addr}
def PXs (X:Cx)(sts:List Stmt)(t:St->Hp->VK->XK->Prop):Prop:=∀(pins:List (Addr×Obj)) (s:Shared) (σ:St) (H:Hp) (D:Ends) (E:XK) (F':Value->Shared->Prop),Inv X pins σ H s ->
 (∀H s e s',Inv X pins σ H s->zeZ X.prog X.w X.stack H s E e s'->F' e s')->t σ H D.rt E->wpAny (model X.prog X.w) X.A (execs sts X.env) (SP X pins {D with nx:=λ_ _=>False,bk:=λ_ _=>False,ct:=λ_ _=>False}) F' s
theorem PXs.mono {sts:List Stmt}{t u:St->Hp->VK->XK->Prop}(h:PXs X sts t)(k:∀σ H Q E,u σ H Q E->t σ H Q E):PXs X sts u:=λpins s σ H D E F' I hx q=>h pins s σ H D E F' I hx (k σ H D.rt E q)
end
end L2
namespace L2
open PySem PySem.Spec PyProof.Rows
open AutoSeq1 (wpAny_loadPart')
end L2
namespace L2
open PySem PySem.Spec PyProof.Rows
def intD:List D->Option D
 | [.bl b]=>some (.int (if b then 1 else 0))
 | _=>none
theorem n_int {K:PySem.W.Frag}{cl:Nat->Addr}:Fn1 K cl (λxs H Q=>∃b,xs=[.bl b]/\Q (.int (if b then 1 else 0)) H) intD:=λF H vs ds d Q s q e k=>by
 match ds,q,e with
 | [.bl b],q,e =>
  obtain⟨v,rfl,q1⟩:=q.one
  cases q1
  obtain rfl:=lg e
  exact⟨b,rfl,k _ _ _ (Gr.refl s) (.int _)⟩
end L2
namespace L2
open PySem PySem.Spec PyProof.Rows
open AutoSeq1 (wpAny_loadPart')
end L2
namespace L2
open PySem PySem.Spec PyProof.Rows
end L2
namespace L2
open PySem
def tI (led:Bool)(ks:List Nat):SetTable:=if ks.length<5 then {mask:=7,place:=ks.toArray,dummies:=#[],finger:=0,led,moves:=0,plain:=true} else {mask:=31,place:=ks.toArray,dummies:=#[],finger:=0,led,moves:=1,plain:=true}
def insI (x:Nat):List Nat->List Nat
 | []=>[x]
 | y::ys=>if x<y then x::y::ys else y::insI x ys
def zaC:List (List Nat):=([1,2,3,4,5,6]:List Nat).foldr (λx acc=>acc++acc.map (x :: ·)) [[]]
def zeN (x:Nat)(ks:List Nat):Nat:=(ks.filter (· < x)).length
def tI7 (led:Bool)(ks:List Nat):SetTable:={mask:=7,place:=ks.toArray,dummies:=#[],finger:=0,led,moves:=0,plain:=true}
theorem zbL:∀led,∀ks∈zaC,∀x∈([1,2,3,4,5,6]:List Nat),x∉ks->(tI led ks).freeSlot (x:Int)=some (x,false)/\((tI led ks).put x).2=zeN x ks /\
  (if ks.length=4 then((tI led ks).put x).1=tI7 led (insI x ks) else((tI led ks).put x).1=tI led (insI x ks))/\((tI led ks).put x).1.fits (ks.length+1)=true/\insI x ks∈zaC/\insI x ks=ks.take (zeN x ks)++x::ks.drop (zeN x ks):=by decide +kernel
theorem zbx:∀led,∀ks∈zaC,(ks.length=5->(tI7 led ks).tooFull=true/\(tI7 led ks).relaid (ks.map λ(k:Nat)=>(k:Int)).toArray (SetTable.grown 5)=some (tI led ks,(List.range 5).toArray))/\(ks.length≠5->(tI led ks).tooFull=false):=by decide +kernel
theorem zo7:∀led,∀ks∈zaC,SetTable.below (tI led ks).place 0=0/\∀i<ks.length,SetTable.below (tI led ks).place (ks.getD i 0+1)=i+1:=by decide +kernel
theorem zda:∀led,∀ks∈zaC,(tI led ks).fits ks.length=true/\(tI led ks).led=led/\(tI led ks).plain=true/\ks.length<=6/\ks.Nodup/\∀k∈ks,k∈([1,2,3,4,5,6]:List Nat):=by decide +kernel
theorem zm4:∀x∈([1,2,3,4,5,6]:List Nat),hashInt (x:Int)=(x:Int):=by decide +kernel
structure StI (w:World)(es:Array (Int×Value))(t:SetTable)(ks:List Nat):Prop where
 hs:es.toList.map (·.1)=ks.map λ(k:Nat)=>(k:Int)
 vs:∀e∈es.toList,∃(k:Nat) (tk:Tok),k∈ks/\e=((k:Int),Value.int (k:Int) tk)
 tb:t=tI (!w.params.followText "set-order") ks
 sb:ks∈zaC
section
variable {prog:Program}{w:World}{A:Around}{E:Value->Shared->Prop}{s:Shared}{es:Array (Int×Value)}{t:SetTable}{ks:List Nat}
theorem StI.size (S:StI w es t ks):es.size=ks.length:=by
 have:=lbj List.length S.hs
 simpa using this
theorem StI.fits (S:StI w es t ks):t.fits es.size=true:=by rw[S.size,S.tb];exact(zda _ ks S.sb).1
theorem StI.few (S:StI w es t ks):es.size<scanBound:=by
 rw[S.size]
 have:=(zda true ks S.sb).2.2.2.1
 exact ldw this (by decide)
theorem StI.elems (S:StI w es t ks):ElemsOf (intKind prog w) es.toList:=λe he=>by
 obtain⟨k,tk,hk,rfl⟩:=S.vs e he
 have h6:=(zda true ks S.sb).2.2.2.2.2 k hk
 exact⟨⟨(k:Int),by simp[intKind,Value.isInt],(zm4 k h6).symm⟩,rfl⟩
theorem StI.find (S:StI w es t ks)(x:Nat):(∃e∈es.toList,Value.isInt (x:Int) e.2=true)↔x∈ks:=by
 constructor
 ·rintro ⟨e,he,h⟩
  obtain⟨k,tk,hk,rfl⟩:=S.vs e he
  have:(x:Int)=(k:Int):=by
   obtain⟨t,e⟩:=Value.isInt_shape h
   injection e with e _
   exact e.symm
  have:x=k:=by omega
  subst this;exact hk
 ·intro hx
  have:(x:Int)∈es.toList.map (·.1):=by rw[S.hs];exact List.mem_map_of_mem hx
  obtain⟨e,he,e1⟩:=lah.mp this
  obtain⟨k,tk,hk,rfl⟩:=S.vs e he
  refine⟨_,he,?_⟩
  dsimp only at e1
  rw[e1]
  simp[Value.isInt]
theorem zc1 {α:Type}(xs:Array α)(p:Nat)(x:α):(SetTable.insertAt xs p x).toList=xs.toList.take p++x::xs.toList.drop p:=by
 unfold SetTable.insertAt
 simp[lbc]
theorem zfV {α:Type}(xs:Array α)(p:Nat)(x:α):(SetTable.insertAt xs p x).size=xs.size+1:=by
 rw[← lbP,zc1]
 simp
 omega
theorem zpc (S:StI w es t ks){x:Nat}(h6:x∈([1,2,3,4,5,6]:List Nat))(hn:x∉ks)(v:Value):layNew t es (x:Int) v=(SetTable.insertAt es (zeN x ks) ((x:Int),v),(if ks.length=4 then tI7 (!w.params.followText "set-order") (insI x ks) else tI (!w.params.followText "set-order") (insI x ks)),false,false):=by
 obtain⟨f1,f2,f3,f4,_,_⟩:=zbL (!w.params.followText "set-order") ks S.sb x h6 hn
 have ep:(tI (!w.params.followText "set-order") ks).put x=((if ks.length=4 then tI7 (!w.params.followText "set-order") (insI x ks) else tI (!w.params.followText "set-order") (insI x ks)),zeN x ks):=by
  refine Prod.ext ?_ f2
  split at f3
  ·rename_i h;rw[lH h];exact f3
  ·rename_i h;rw[lap h];exact f3
 unfold layNew
 rw[S.tb,f1]
 dsimp only
 rw[ep] at f4 ⊢
 dsimp only at f4 ⊢
 have fs:(if ks.length=4 then tI7 (!w.params.followText "set-order") (insI x ks) else tI (!w.params.followText "set-order") (insI x ks)).fits (SetTable.insertAt es (zeN x ks) ((x:Int),v)).size=true:=by rw[zfV,S.size];exact f4
 unfold SetTable.orStandIn
 rw[lH fs,fs]
 rfl
theorem StI.put (S:StI w es t ks){x:Nat}(h6:x∈([1,2,3,4,5,6]:List Nat))(hn:x∉ks)(tk:Tok):StI w (SetTable.insertAt es (zeN x ks) ((x:Int),Value.int (x:Int) tk)) (tI (!w.params.followText "set-order") (insI x ks)) (insI x ks):=by
 obtain⟨_,_,_,_,f5,f6⟩:=zbL (!w.params.followText "set-order") ks S.sb x h6 hn
 refine⟨?_,λe he=>?_,rfl,f5⟩
 ·rw[zc1,la4,lw,ldU,leC,S.hs,f6,la4,lw,ldU,leC]
 ·rw [zc1] at he
  have mk:∀k∈ks,k∈insI x ks:=λk hk=>by
   rw[f6,lat,lB]
   rw[← ldd (zeN x ks) ks] at hk
   rcases lat.mp hk with z|z
   ·exact .inl z
   ·exact .inr (.inr z)
  rcases lat.mp he with z|z
  ·obtain⟨k,tk',hk,e'⟩:=S.vs e (lb3 z)
   exact⟨k,tk',mk k hk,e'⟩
  ·rcases lB.mp z with z|z
   ·exact⟨x,tk,by rw[f6];simp,z⟩
   ·obtain⟨k,tk',hk,e'⟩:=S.vs e (ldi z)
    exact⟨k,tk',mk k hk,e'⟩
theorem five {α:Type}:∀(l:List α),l.length=5->(List.range 5).filterMap (λi=>l[i]?)=l
 | [a,b,c,d,e],_=>rfl
theorem zmP {es1:Array (Int×Value)}{ks':List Nat}{led:Bool}(hs:es1.toList.map (·.1)=ks'.map λ(k:Nat)=>(k:Int))(h5:ks'.length=5)(sb:ks'∈zaC):relayAll (tI7 led ks') es1 (SetTable.grown es1.size)=(es1,tI led ks',false):=by
 have sz:es1.size=5:=by
  have:=lbj List.length hs
  simp at this
  omega
 obtain⟨q,_⟩:=zbx led ks' sb
 obtain⟨_,q2⟩:=q h5
 have em:es1.map (·.1)=(ks'.map λ(k:Nat)=>(k:Int)).toArray:=by
  rw[← hs]
  apply Array.ext'
  simp
 unfold relayAll
 rw[em,sz,q2]
 dsimp only
 have eo:(List.range 5).toArray.filterMap (λx=>es1[x]?)=es1:=by
  apply Array.ext'
  simp only[List.filterMap_toArray]
  have:=five es1.toList (by simpa using sz)
  simpa using this
 rw[eo]
 have fs:=(zda led ks' sb).1
 rw[h5] at fs
 rw[lH (by rw[sz,fs];decide)]
theorem zk3 {a:Addr}{ep:Nat}{x:Nat}{tk:Tok}{Q:Bool->Shared->Prop}(ho:s.heap.get? a=some (stO es ep t))(S:StI w es t ks)(h6:x∈([1,2,3,4,5,6]:List Nat))
  (h:∀b h' es' ep' t' (n:Nat),s.toks<=n->Heap.SameBut a s.heap h'->h'.get? a=some (stO es' ep' t')->StI w es' t' (if x∈ks then ks else insI x ks)->Q b {s with heap:=h',toks:=n}) :
  wpAny (model prog w) A (setAdd a (.int (x:Int) tk)) Q E s:=by
 have hk:(intKind prog w).is (x:Int) (.int (x:Int) tk)=true:=by simp[intKind,Value.isInt]
 unfold setAdd
 refine lay (la ((intKind prog w).pyHash hk ?_))
 have ho':({s with toks:=s.toks+1}:Shared).heap.get? a=some (stO es ep t):=ho
 unfold setAddHashed setAddHashedIn
 refine lay (la (lbw ho' rfl S.fits ?_))
 have hsc:byScan (Value.int (x:Int) tk) es=true:=byScan_of rfl S.few (S.elems (prog:=prog))
 dsimp only
 rw[lH hsc]
 unfold setAddByScan
 refine la (la (lcf (la (wpAny_setScan_of hk ho' rfl S.fits S.elems ?_))))
 cases hr:es.toList.findIdx? (λe=>(intKind prog w).is (x:Int) e.2) with
 | some j =>
  obtain⟨hj,hpj,_⟩:=List.findIdx?_eq_some_iff_getElem.mp hr
  have hm:x∈ks:=(S.find x).mp ⟨_,laV hj,hpj⟩
  have:=h false s.heap es ep t (s.toks+1) (lbI _) (ldK a s.heap) ho (by rw[lH hm];exact S)
  exact lc (lc this)
 | none =>
  have hm:x∉ks:=λz=>by
   obtain⟨e,he,hp⟩:=(S.find x).mpr z
   have:=List.findIdx?_eq_none_iff.mp hr e he
   exact Bool.noConfusion (hp.symm.trans this)
  dsimp only
  have hh:(intKind prog w).hash (x:Int)=(x:Int):=zm4 x h6
  have S1:=S.put h6 hm tk
  have lI:=zpc S h6 hm (.int (x:Int) tk)
  show wpAny _ _ _ _ _ _
  rw[hh,lI]
  dsimp only
  refine la (lc ?_)
  have z1:(SetTable.insertAt es (zeN x ks) ((x:Int),Value.int (x:Int) tk)).size<=sizeLine:=ldN S1.few
  have pl:(if ks.length=4 then tI7 (!w.params.followText "set-order") (insI x ks) else tI (!w.params.followText "set-order") (insI x ks)).plain=true:=by
   split
   ·rfl
   ·exact(zda _ _ S1.sb).2.2.1
  rw[pl]
  simp only[↓reduceIte]
  rw[hashByValue_scannable 8 (show Value.scannable (Value.int (x:Int) tk)=true from rfl)]
  refine la (lc ?_)
  simp only[plainKind,↓reduceIte]
  have ln:(insI x ks).length=ks.length+1:=by
   have:=lbj List.length S1.hs
   rw[lh,lh,lbP,zfV,S.size] at this
   exact this.symm
  by_cases h4:ks.length=4
  ·rw[lH h4]
   refine la (ldO ho' rfl ?_ z1)
   have g1:(s.heap.update a (Obj.putSet (SetTable.insertAt es (zeN x ks) ((x:Int),Value.int (x:Int) tk)) (tI7 (!w.params.followText "set-order") (insI x ks)))).get? a=some (stO (SetTable.insertAt es (zeN x ks) ((x:Int),Value.int (x:Int) tk)) (ep+1) (tI7 (!w.params.followText "set-order") (insI x ks))):=lav (Obj.putSet _ _) ho rfl
   have b1:=lam s.heap a (Obj.putSet (SetTable.insertAt es (zeN x ks) ((x:Int),Value.int (x:Int) tk)) (tI7 (!w.params.followText "set-order") (insI x ks)))
   have tf:=((zbx (!w.params.followText "set-order") (insI x ks) S1.sb).1 (by omega)).1
   rw[lH (by rw[tf];rfl),zmP S1.hs (by omega) S1.sb]
   dsimp only
   refine la (lc ?_)
   refine la (ldO (o:=stO _ (ep+1) _) g1 rfl ?_ z1)
   exact lc (lc (h _ _ _ (ep+2) _ (s.toks+1) (lbI _) (b1.trans (lam _ a _)) (lav (Obj.putSet _ _) g1 rfl) (by rw[lap hm];exact S1)))
  ·rw[lap h4]
   refine la (ldO ho' rfl ?_ z1)
   have g1:(s.heap.update a (Obj.putSet (SetTable.insertAt es (zeN x ks) ((x:Int),Value.int (x:Int) tk)) (tI (!w.params.followText "set-order") (insI x ks)))).get? a=some (stO (SetTable.insertAt es (zeN x ks) ((x:Int),Value.int (x:Int) tk)) (ep+1) (tI (!w.params.followText "set-order") (insI x ks))):=lav (Obj.putSet _ _) ho rfl
   have b1:=lam s.heap a (Obj.putSet (SetTable.insertAt es (zeN x ks) ((x:Int),Value.int (x:Int) tk)) (tI (!w.params.followText "set-order") (insI x ks)))
   have tf:=(zbx (!w.params.followText "set-order") (insI x ks) S1.sb).2 (by omega)
   rw[lap (by rw[tf];decide)]
   exact lc (lc (h _ _ _ (ep+1) _ (s.toks+1) (lbI _) b1 g1 (by rw[lap hm];exact S1)))
end
section
variable {prog:Program}{w:World}{A:Around}{E:Value->Shared->Prop}{s:Shared}
theorem zlQ (hh:A.handled=none)(I a:Addr)(hne:a≠I)(es:Array (Int×Value))(ep:Nat)(t:SetTable)(hf:t.fits es.size=true)(hpl:t.plain=true)(hbl:∀i (hi:i<t.place.size),SetTable.below t.place (t.place[i]+1)=i+1)(hl:t.led=true)(hw:w.params.followText "set-order" = false) :
  Walks prog w A I [I,a] [I] es.size (λi v=>(es.toList.map (·.2))[i]? = some v) (λi h=>(∃slot:Nat,h.get? I=some (itO (.int slot 0) i a es.size ep)/\SetTable.below t.place slot=i)/\h.get? a=some (stO es ep t)) where
 sub:=λb hb=>by simp at hb;simp[hb]
 frame:=λi h h' st k=>⟨let ⟨x,e,z⟩:=st.1;⟨x,k I (by simp) _ e,z⟩,k a (by simp) _ st.2⟩
 item := λi s Q E hi st hQ=>by
  obtain⟨⟨slot,hI,hb⟩,ho⟩:=st
  have hp:t.place.size=es.size:=by
   simp only[SetTable.fits,lab,ldL] at hf
   exact hf.1
  have hi':i<t.place.size:=by omega
  refine zeV (v:=es[i].2) (n:=0) hI ho hf (.inl ⟨slot,t.place[i]+1,rfl,rfl,λA' Q' E' q=>?_⟩) λh' g sb=>?_
  ·unfold setNext setsByText
   refine la (lbw ho rfl hf ?_)
   dsimp only
   refine la (la (lbq (lc ?_)))
   dsimp only
   rw[show(model prog w).w.params.followText "set-order" = false from hw,lap lD]
   refine lcq (λz=>?_) (λ_=>?_)
   ·exfalso
    have z':(!t.plain&&decide (es.size > 1))=true:=z
    rw[hpl] at z';cases z'
   ·have hm:∀{Q'':Unit->Shared->Prop},Q'' () s->wpAny (model prog w) A' (if (!t.led && !es.isEmpty)=true then unsupported "set:maker-not-led" else pure ()) Q'' E' s:=λ{Q''} q''=>by
     rw[hl]
     exact lc q''
    refine la (hm ?_)
    rw[hb]
    rw[laR hi,laR hi']
    exact lc q
  ·refine hQ _ h' s.toks (by simp[hi]) ⟨⟨t.place[i]+1,g,?_⟩,(sb.2 a hne).trans ho⟩ λb o hb e=>(sb.2 b λz=>hb (by simp[z])).trans e
   exact hbl i hi'
 done:=λs Q E st hQ=>by
  obtain⟨⟨slot,hI,hb⟩,ho⟩:=st
  refine zhX hh hI ho hf (.inl ⟨slot,rfl,λA' Q' E' q=>?_⟩) λh' eb=>hQ h' s.toks λb o hb e=>eb b o (λz=>hb (by simp[z])) e
  unfold setNext setsByText
  refine la (lbw ho rfl hf ?_)
  dsimp only
  refine la (la (lbq (lc ?_)))
  dsimp only
  rw[show(model prog w).w.params.followText "set-order" = false from hw,lap lD]
  refine lcq (λz=>?_) (λ_=>?_)
  ·exfalso
   have z':(!t.plain&&decide (es.size > 1))=true:=z
   rw[hpl] at z';cases z'
  ·have hm:∀{Q'':Unit->Shared->Prop},Q'' () s->wpAny (model prog w) A' (if (!t.led && !es.isEmpty)=true then unsupported "set:maker-not-led" else pure ()) Q'' E' s:=λ{Q''} q''=>by
    rw[hl]
    exact lc q''
   refine la (hm ?_)
   rw[hb]
   rw[lbn (lr _)]
   exact lc q
 self:=λi s Q E st hQ=>let ⟨⟨x,e,_⟩,_⟩:=st;zeB e hQ
theorem zjk {a:Addr}{es:Array (Int×Value)}{ep:Nat}{t:SetTable}{ks:List Nat}{Q:Value->Shared->Prop}(hh:A.handled=none)(ho:s.heap.get? a=some (stO es ep t))(S:StI w es t ks)
  (h:∀(I:Addr) (h':Heap) d (fp:List Addr) (vs:List Value) (St:Nat->Heap->Prop),(∀b o,s.heap.get? b=some o->h'.get? b=some o)->s.heap.objs.size<=I->(∀b∈fp,b=a∨s.heap.objs.size<=b)->vs.Perm (es.toList.map (·.2)) ->
   Walks prog w A I fp [I] es.size (λi v=>vs[i]? = some v) St->St 0 h'->Q (.ref I) {s with heap:=h',drawn:=d}):wpAny (model prog w) A (pyIter (.ref a)) Q E s:=by
 have hT:s.TypeIs (.ref a) "set" := ⟨_,ho,rfl⟩
 have hlt:a<s.heap.objs.size:=lu ho
 refine ldM hT F.slot_set_iter (lU F.slot_set_iter hT zgs ?_ (F.args_set_iter_1 _))
 unfold Builtin.«frozenset.__iter__»
 refine la (m:=Builtin.Frozenset.slot0 "__iter__" ⟨[.ref a],[]⟩) (lc ?_)
 refine la (m:=Builtin.Frozenset.sizeOf a) (la (ldq ho rfl S.fits (lc ?_)))
 have hsz:es.size<=sizeLine:=ldN S.few
 have ep_:∀{A:Around}{E:Value->Shared->Prop}{s':Shared}{Q':Nat->Shared->Prop},s'.heap.get? a=some (stO es ep t)->Q' ep s'->wpAny (model prog w) A (setEpoch a) Q' E s':=λg q=>wpAny_setEpoch_of g rfl S.fits q
 unfold setDrawn setsByText
 refine la (la (lbw ho rfl S.fits ?_))
 dsimp only
 refine la (la (lbq (lc ?_)))
 dsimp only
 cases hw:(model prog w).w.params.followText "set-order" with
 | true =>
  refine lc ?_
  rw[lbr,Bool.false_and,lap lD]
  refine la (lc (la (ep_ ho (la (laf (lc ⟨_,rfl, "set_iterator", _,⟨_,lj _ rfl,rfl⟩,sl_setnext.lookup,?_⟩))))))
  refine h _ (s.heap.push (itO (.int 0 0) 0 a es.size ep)) s.drawn _ _ _ (λb o e=>lb _ e) (lr _) (λb hb=>?_) ((uI (w.params.setOrder a ep) es).map _) (zkp hh _ a (lO hlt) es ep t S.fits hw) ⟨lj _ rfl,lb _ ho⟩
  rcases lB.mp hb with rfl|hb
  ·exact .inr (lr _)
  ·exact .inl (by simpa using hb)
 | false =>
  refine lc ?_
  refine lcq (λz=>?_) (λz=>?_)
  ·refine la (za2 _ _ _ _ (by simp) λys d p=>?_)
   have hl:ys.length=es.size:=by simpa using p.length_eq
   refine la (laf ?_ (by show(ys.map λ(i:Nat)=>rawInt i).toArray.size<=_;simp[hl];omega))
   have g1:(s.heap.push {cls:=.type "tuple", dict:=none,data:=.seq (ys.map λ(j:Nat)=>rawInt (j:Int)).toArray}).get? a=some (stO es ep t):=lb _ ho
   refine la (ep_ g1 (la (laf (lc ⟨_,rfl, "set_iterator", _,⟨_,lj _ rfl,rfl⟩,sl_setnext.lookup,?_⟩))))
   refine h _ ((s.heap.push {cls:=.type "tuple", dict:=none,data:=.seq (ys.map λ(j:Nat)=>rawInt (j:Int)).toArray}).push (itO (.ref s.heap.objs.size) 0 a es.size ep)) d _ _ _ (λb o e=>lb _ (lb _ e)) (by rw[laa];exact lbI _) (λb hb=>?_) ?_
    (zjC hh _ a s.heap.objs.size (by rw[laa];exact lO (lcu hlt)) (by rw[laa];exact lO (lcE _)) es ep t S.fits ys p) ⟨lj _ rfl,lb _ g1,0,lb _ (lj _ rfl)⟩
   ·simp only[lB,ldf,leA] at hb
    rcases hb with rfl|rfl|rfl
    ·exact .inr (by rw[laa];exact lbI _)
    ·exact .inl rfl
    ·exact .inr (lr _)
   ·have:=p.map λk=>(es.toList.map (·.2)).getD k Value.none
    refine this.trans (List.Perm.of_eq ?_)
    apply List.ext_getElem?
    intro i
    simp only[lT]
    by_cases hi:i<es.size
    ·simp[hi]
    ·simp[hi]
  ·have hpl:t.plain=true:=by rw[S.tb];exact(zda _ ks S.sb).2.2.1
   obtain⟨bl0,bl1⟩:=zo7 (!w.params.followText "set-order") ks S.sb
   have epl:t.place=ks.toArray:=by rw[S.tb];unfold tI;split <;>rfl
   have ezl:(tI (!w.params.followText "set-order") ks).place=ks.toArray:=by unfold tI;split <;>rfl
   rw[ezl] at bl0 bl1
   have hbl:∀i (hi:i<t.place.size),SetTable.below t.place (t.place[i]+1)=i+1:=by
    rw[epl]
    intro i hi
    have hi':i<ks.length:=by simpa using hi
    have:=bl1 i hi'
    rw[lm,lQ9 hi'] at this
    simpa using this
   have hled:t.led=true:=by rw[S.tb,(zda _ ks S.sb).2.1];show(!(w.params.followText "set-order"))=true;rw[show w.params.followText "set-order" = false from hw];rfl
   refine la (lc (la (ep_ ho (la (laf (lc ⟨_,rfl, "set_iterator", _,⟨_,lj _ rfl,rfl⟩,sl_setnext.lookup,?_⟩))))))
   refine h _ (s.heap.push (itO (.int 0 0) 0 a es.size ep)) s.drawn _ _ _ (λb o e=>lb _ e) (lr _) (λb hb=>?_) (ldE _) (zlQ hh _ a (lO hlt) es ep t S.fits hpl hbl hled hw) ⟨⟨0,lj _ rfl,(by rw[epl];exact bl0)⟩,lb _ ho⟩
   rcases lB.mp hb with rfl|hb
   ·exact .inr (lr _)
   ·exact .inl (by simpa using hb)
end
end L2
set_option maxHeartbeats 3200000
namespace L2
open PySem
def zcq (l:List Nat):List Nat:=l.foldl (λacc x=>if x∈acc then acc else insI x acc) []
theorem zig (l:List Nat)(x:Nat):zcq (l++[x])=if x∈zcq l then zcq l else insI x (zcq l):=by unfold zcq;rw[ldP];rfl
section
variable {prog:Program}{w:World}{A:Around}{R:Result->Shared->Prop}{I:Addr}{fp wr:List Addr}{G:Array GenState->Array GenState->Prop}{n:Nat}{P:Nat->Value->Prop}{St:Nat->Shared->Prop}
theorem zjn (W:WalksS prog w A.in1 I fp wr G n P St)(a:Addr)(ha:a∉fp)(xs:List Nat)(hn:xs.length=n)(hP:∀i v,P i v->∃t x,xs[i]? = some x/\v=.int (x:Int) t)(h6:∀x∈xs,x∈([1,2,3,4,5,6]:List Nat)) :
  ∀ (k i:Nat) (s:Shared) es ep t,n - i=k->i<=n->St i s->s.heap.get? a=some (stO es ep t)->StI w es t (zcq (xs.take i)) ->
   (∀s' es' ep' t',Moved (a::wr) G s s'->s'.heap.get? a=some (stO es' ep' t')->StI w es' t' (zcq xs)->R (.ok (.ret .none)) s') ->
   codeAny (model prog w) A (.builtin "set.update.loop" ⟨[.ref a,.ref I],[]⟩) R s:=by
 have haw:a∉wr:=λz=>ha (W.sub _ z)
 have up:∀b∈wr,b∈a::wr:=λb z=>lM _ z
 intro k
 induction k with
 | zero =>
  intro i s es ep t hk hi st ho S hR
  obtain rfl:i=n:=by omega
  refine lbf zio ?_
  rw[la9 zgE]
  refine la (m:=pyNext (.ref I)) (W.done s _ _ st λs' hm=>?_)
  refine lc (a:=_) (hR s' es ep t (hm.mono up) (hm.heap a _ haw ho) ?_)
  rwa [← hn,lde] at S
 | succ k ih =>
  intro i s es ep t hk hi st ho S hR
  have hlt:i<n:=by omega
  refine lbf zio ?_
  rw[la9 zgE]
  refine la (m:=pyNext (.ref I)) (W.item i s _ _ hlt st λv s' hv st' hm=>?_)
  obtain⟨tk,x,hx,rfl⟩:=hP i v hv
  have ho':s'.heap.get? a=some (stO es ep t):=hm.heap a _ haw ho
  refine la (m:=holding [Value.int (x:Int) tk] (setAdd a (.int (x:Int) tk))) (lay (zk3 ho' S (h6 x (laU hx)) λb h' es' ep' t' m hmm hsb g' S'=>?_))
  have e:xs.take (i+1)=xs.take i++[x]:=by rw[lbE,hx];rfl
  have S2:StI w es' t' (zcq (xs.take (i+1))):=by rw[e,zig];exact S'
  refine lc ⟨lbY zgE _,ih (i+1) _ es' ep' t' (by omega) hlt (W.frame _ s' _ _ st' hmm λb hb o e=>?_) g' S2 λs'' es'' ep'' t'' hm'' g'' S''=>?_⟩
  ·exact(hsb.2 b λz:b=a=>ha (z▸hb)).trans e
  ·refine hR s'' es'' ep'' t'' (Moved.trans W.gtrans ((hm.mono up).then_heap hmm λb o hb e=>?_) hm'') g'' S''
   exact(hsb.2 b λz:b=a=>hb (z▸lac)).trans e
end
section
variable {prog:Program}{w:World}{A:Around}{E:Value->Shared->Prop}{s:Shared}
theorem StI.new:StI w #[] (.fresh 0 0 (!w.params.followText "set-order")) []:=⟨rfl,λe he=>by simp at he,rfl,by decide⟩
theorem zf3 {Tn:String}{r:Addr}{items:Array Value}{xs:List Nat}{c:Nat}{od:Option Addr}{os:Array (Option Value)}{Q:Value->Shared->Prop}(hh:A.handled=none)(hr:s.heap.get? r=some {cls:=.type Tn,dict:=od,data:=.seq items c,slots:=os})
  (hsl:isSubtype (.type Tn) (.type "set")=pure false) (hsf:isSubtype (.type Tn) (.type "frozenset")=pure false) (hnd:(Value.type Tn == Value.type "dict")=false) (hx:items.toList.length=xs.length/\∀(i:Nat) (v:Value),items[i]? = some v->∃t x,xs[i]? = some x/\v=Value.int (x:Int) t) (h6:∀x∈xs,x∈([1,2,3,4,5,6]:List Nat))
  (hit:∀(A:Around) (s':Shared) (E:Value->Shared->Prop) (Q:Value->Shared->Prop),A.handled=none->s'.heap.get? r=some {cls:=.type Tn,dict:=od,data:=.seq items c,slots:=os}->(∀oI St,(∀A':Around,A'.handled=none->Walks prog w A' s'.heap.objs.size [s'.heap.objs.size,r] [s'.heap.objs.size] items.size (λi v=>items[i]? = some v) St)->St 0 (s'.heap.push oI)->Q (.ref s'.heap.objs.size) {s' with heap:=s'.heap.push oI})->wpAny (model prog w) A (pyIter (.ref r)) Q E s')
  (h:∀h' tk es ep t,h'.get? s.heap.objs.size=some (stO es ep t)->StI w es t (zcq xs)->(∀b o,s.heap.get? b=some o->h'.get? b=some o)->Q (.ref s.heap.objs.size) {s with heap:=h',toks:=tk}) :
  wpAny (model prog w) A (call (.type "set") [.ref r]) Q E s:=by
 obtain⟨c0,tl,hmro⟩:=lcr.mro
 have hmade:=lcr.made
 have hsub:=lcr.sub
 refine wpAny_call (codeAny_of_tree (lc ⟨Code.quiet_builtin _ (by decide +kernel),lbf F.entry_type_call ?_⟩))
 rw[Around.under_plain (weight_type_call_type "set" [.ref r] []) rfl]
 have h1:=lcr.notType
 have h2:=lcr.canCreate
 have hct:=F.typeCall_set_1 (.ref r)
 repeat (any_goals (first|assumption|wp_step))
 refine lcK (zkS (.ref r) (E:=E) (Q₁:=λobj s₁=>obj=.ref s.heap.objs.size/\s₁={s with heap:=s.heap.push (stO #[] 0 (.fresh 0 0 (!w.params.followText "set-order")))}) ⟨rfl,rfl⟩) λq₁ s₁ hq=>?_
 cases q₁ with
 | error e=>exact hq
 | ok fl =>
  cases fl with
  | ret obj =>
   obtain⟨rfl,rfl⟩:=hq
   have hS:(s.heap.push (stO #[] 0 (.fresh 0 0 (!w.params.followText "set-order")))).get? s.heap.objs.size=some (stO #[] 0 (.fresh 0 0 (!w.params.followText "set-order"))):=lj _ rfl
   have hT:Shared.TypeIs {s with heap:=s.heap.push (stO #[] 0 (.fresh 0 0 (!w.params.followText "set-order")))} (.ref s.heap.objs.size) "set" := ⟨_,hS,rfl⟩
   have hli:=lcr.init.lookup
   have hbi:=lcr.init.bind (.ref s.heap.objs.size)
   repeat (any_goals (first|assumption|wp_step))
   refine lcK (codeAny_call_builtin (R:=wants (λv s₂=>v=.none/\∃h' tk es ep t,s₂={s with heap:=h',toks:=tk}/\h'.get? s.heap.objs.size=some (stO es ep t)/\StI w es t (zcq xs)/\(∀b o,s.heap.get? b=some o->h'.get? b=some o)) E) lcr.init.plain F.entry_set_init (check_set_init_1 hT ?_)) λq₂ s₂ hq₂=>?_
   ·have hr':(s.heap.push (stO #[] 0 (.fresh 0 0 (!w.params.followText "set-order")))).get? r=some {cls:=.type Tn,dict:=od,data:=.seq items c,slots:=os}:=lb _ hr
    unfold Builtin.«set.__init__» noKeywords Builtin.Frozenset.updateFrom
    generalize hPI:pyIter=PI
    wp_walk
    subst hPI
    have hrS:r<s.heap.objs.size:=lu hr
    refine hit _ _ _ _ (by simp[hh]) hr' λoI St W st0=>?_
    refine la (wpAny_runValue ?_)
    have hnot:s.heap.objs.size∉[(s.heap.push (stO #[] 0 (.fresh 0 0 (!w.params.followText "set-order")))).objs.size,r]:=by
     rw[laa]
     simp only[lB,ldf,leA,not_or]
     exact⟨lO (lcE _),laS hrS⟩
    refine zjn (W _ (by simp[hh])).toS s.heap.objs.size hnot xs (by rw[← hx.1];simp) hx.2 h6 items.size 0 {s with heap:=(s.heap.push (stO #[] 0 (.fresh 0 0 (!w.params.followText "set-order")))).push oI} #[] 0 _ rfl (lbJ _) st0 (lb _ hS) StI.new λs' es' ep' t' hm g S=>?_
    obtain⟨h',g',d',tk',os'⟩:=s'
    obtain rfl:g'=s.gens:=hm.gens
    obtain rfl:d'=s.drawn:=hm.drawn
    obtain rfl:os'=s.os:=hm.os
    refine lc (lc ⟨rfl,h',tk',es',ep',t',rfl,g,S,λb o e=>?_⟩)
    have hbs:=lu e
    refine hm.heap b o ?_ (lb _ (lb _ e))
    rw[laa]
    simp only[lB,ldf,leA,not_or]
    exact⟨lO hbs,lO (lcu hbs)⟩
   ·cases q₂ with
    | error e=>exact hq₂
    | ok fl₂ =>
     cases fl₂ with
     | ret v =>
      obtain⟨rfl,h',tk,es,ep,t,rfl,g,S,k⟩:=hq₂
      repeat (any_goals (first|assumption|wp_step))
      exact h _ _ _ _ _ g S k
     | _=>exact hq₂.elim
  | _=>exact hq.elim
theorem zgw {R:Result->Shared->Prop}{a:Addr}{es:Array (Int×Value)}{ep:Nat}{t:SetTable}{ks:List Nat}(hh:A.handled=none)(ho:s.heap.get? a=some (stO es ep t))(S:StI w es t ks)(L:Addr)(hL:L≠a)(res:Value)(c₀:Nat)(hS:s.heap.get? L=some {cls:=.type "list", data:=.seq #[] c₀})
  (hR:∀h' tk d (vs:List Value) c',(∀b o,b≠L->s.heap.get? b=some o->h'.get? b=some o)->h'.get? L=some {cls:=.type "list", dict:=none,data:=.seq vs.toArray c',slots:=#[]}->vs.Perm (es.toList.map (·.2))->R (.ok (.ret res)) {s with heap:=h',toks:=tk,drawn:=d}) :
  wpAny (model prog w) A.in1 (Builtin.List.listExtendWith (.ref L) (.ref a) res) (λfin s'=>match fin with | .done f=>R (.ok f) s' | .again c'=>c'.quiet=true/\codeAny (model prog w) A c' R s') (λe s'=>R (.error e) s') s:=by
 have hT:s.TypeIs (.ref a) "set" := ⟨_,ho,rfl⟩
 unfold Builtin.List.listExtendWith
 refine la (lbV (T := "set") hT ?_)
 have n1:Builtin.List.listSameRef (.ref L) (.ref a)=false:=by simp[Builtin.List.listSameRef,hL]
 have n2:(Value.type "set" == Value.type "list")=false:=by decide
 have n3:(Value.type "set" == Value.type "tuple")=false:=by decide
 simp only[n1,n2,n3,lez,lS,lbx]
 refine la (zjk (A:=A.in1) hh ho S λI h1 d fp vs St hk hI hfp hp W st0=>?_)
 have hlt:L<s.heap.objs.size:=lu hS
 have hne:L∉fp:=λz=>(hfp L z).elim hL λq=>absurd hlt (lek.mpr q)
 have hlen:vs.length=es.size:=by simpa using hp.length_eq
 have hz:es.size<=sizeLine:=ldN S.few
 have key:∀(h:Heap) (c₁ tk:Nat),St 0 h->(∀b o,b≠L->s.heap.get? b=some o->h.get? b=some o)->h.get? L=some {cls:=.type "list", data:=.seq #[] c₁} ->
   codeAny (model prog w) A (.builtin "list.extend.loop" ⟨[.ref L,.ref I,res],[]⟩) R {s with heap:=h,toks:=tk,drawn:=d}:=by
  intro h c₁ tk st k g
  refine codeAny_extend_loopS W.toS hz L hne res es.size 0 {s with heap:=h,toks:=tk,drawn:=d} #[] c₁ rfl (lbJ _) st g (ItemsOf.nil _) λs' acc c' hm g' hacc=>?_
  obtain⟨h',g1,d',tk',os'⟩:=s'
  obtain rfl:g1=s.gens:=hm.gens
  obtain rfl:d'=d:=hm.drawn
  obtain rfl:os'=s.os:=hm.os
  have e:acc=vs.toArray:=by
   apply Array.ext_getElem?
   intro i
   by_cases hi:i<acc.size
   ·rw[laR hi]
    have:=hacc.2 i acc[i] (laR hi)
    rw[List.getElem?_toArray]
    exact this.symm
   ·rw[lbn (by omega),List.getElem?_toArray,List.getElem?_eq_none (by have:=hacc.1;omega)]
  subst e
  refine hR h' tk' d' vs c' (λb o hb e=>hm.heap b o (λz=>?_) (k b o hb e)) g' hp
  rcases lB.mp z with z|z
  ·exact hb z
  ·rw[lK] at z
   subst z
   exact absurd (lu e) (lek.mpr hI)
 refine la (lay (zlM ⟨_,hk _ _ ho,rfl⟩ (lcq (λ_=>?_) (λ_=>lc ⟨lbY PySem.F.plain_extend_loop _,key _ c₀ s.toks st0 (λb o _ e=>hk b o e) (hk _ _ hS)⟩))))
 refine la (lcf (la ?_))
 refine la (m:=updateSeq L (·.push .none)) (wpAny_updateSeq (hk _ _ hS) rfl ?_)
 have g2:=lav (Obj.mapSeq (·.push Value.none)) (hk _ _ hS) rfl
 refine wpAny_updateSeq (hz:=by seq_fits) g2 rfl ?_
 have g3:=lav (Obj.mapSeq (·.pop)) g2 rfl
 refine lc ⟨lbY PySem.F.plain_extend_loop _,key _ _ s.toks (W.frame 0 _ _ st0 λb hb o e=>?_) (λb o hb e=>?_) g3⟩
 ·have hbL:b≠L:=λz=>hne (z▸hb)
  exact(lbC _ _ (lbb hbL)).trans ((lbC _ _ (lbb hbL)).trans e)
 ·exact(lbC _ _ (lbb hb)).trans ((lbC _ _ (lbb hb)).trans (hk b o e))
end
end L2
namespace L2
open PySem PySem.Spec PyProof.Rows
section
variable {prog:Program}{w:World}{A:Around}{E:Value->Shared->Prop}{s:Shared}
theorem zeQ {R:List Value->Shared->Prop}{a:Addr}{es:Array (Int×Value)}{ep:Nat}{t:SetTable}{ks:List Nat}(hh:A.handled=none)(ho:s.heap.get? a=some (stO es ep t))(S:StI w es t ks)
  (h:∀h' tk d (vs:List Value),(∀b o,s.heap.get? b=some o->h'.get? b=some o)->vs.Perm (es.toList.map (·.2))->R vs {s with heap:=h',toks:=tk,drawn:=d}):wpAny (model prog w) A (collect (.ref a)) R E s:=by
 unfold collect
 refine la (wpAny_runValue (lbf entry_proto_collect' ?_))
 rw[la9 PySem.F.plain_proto_collect]
 refine la (m:=newList []) (laf ?_)
 refine lc ⟨lbY PySem.F.plain_list_iadd _,lbf entry_list_iadd' ?_⟩
 rw[la9 PySem.F.plain_list_iadd]
 have g:(s.heap.push {cls:=.type "list", data:=.seq ([]:List Value).toArray}).get? s.heap.objs.size=some {cls:=.type "list", data:=.seq #[]}:=lj _ rfl
 have key:=zgw (prog:=prog) (A:=A) (s:={s with heap:=s.heap.push {cls:=.type "list", data:=.seq ([]:List Value).toArray} })
  (R:=λ(q:Result) (s':Shared)=>∃(h':Heap) (tk:Nat) (d:Drawn) (vs:List Value) (c':Nat),q=.ok (.ret (.ref s.heap.objs.size))/\s'={s with heap:=h',toks:=tk,drawn:=d}/\(∀b o,s.heap.get? b=some o->h'.get? b=some o)/\h'.get? s.heap.objs.size=some {cls:=.type "list", dict:=none,data:=.seq vs.toArray c',slots:=#[]}/\vs.Perm (es.toList.map (·.2)))
  hh (lb _ ho) S s.heap.objs.size (laS (lu ho)) (.ref s.heap.objs.size) 0 g
  (λh' tk d vs c' k g' p=>⟨h',tk,d,vs,c',rfl,rfl,λb o e=>k b o (lO (lu e)) (lb _ e),g',p⟩)
 refine lbm (show wpAny _ A.in1 (Builtin.List.listExtendWith (.ref s.heap.objs.size) (.ref a) (.ref s.heap.objs.size)) _ _ _ from key) (λfin s' x=>?_) λe s' x=>?_
 ·cases fin with
  | done f =>
   obtain⟨h',tk,d,vs,c',e,rfl,k,g',p⟩:=x
   cases e
   refine la (m:=load s.heap.objs.size) (ldH g' (lc ?_))
   exact h h' tk d vs k p
  | again c₁ =>
   refine⟨x.1,lcK x.2 λq s₂ y=>?_⟩
   obtain⟨h',tk,d,vs,c',rfl,rfl,k,g',p⟩:=y
   refine la (m:=load s.heap.objs.size) (ldH g' (lc ?_))
   exact h h' tk d vs k p
 ·obtain⟨_,_,_,_,_,e',_⟩:=x
  cases e'
theorem StI.ints {es:Array (Int×Value)}{t:SetTable}{ks:List Nat}(S:StI w es t ks){vs:List Value}(p:vs.Perm (es.toList.map (·.2))):∃ns,IntsAre vs ns/\ns.Perm (ks.map λ(k:Nat)=>(k:Int)):=by
 have hv:∀v∈vs,∃(k:Nat) (tk:Tok),v=Value.int (k:Int) tk:=λv hv=>by
  obtain⟨e,he,rfl⟩:=lah.mp (p.mem_iff.mp hv)
  obtain⟨k,tk,_,rfl⟩:=S.vs e he
  exact⟨k,tk,rfl⟩
 let num:Value->Int:=λv=>match v with | .int i _=>i|_=>0
 refine⟨vs.map num,?_,?_⟩
 ·clear p
  induction vs with
  | nil=>exact .nil
  | cons v vs ih =>
   obtain⟨k,tk,rfl⟩:=hv v (.head _)
   exact .cons _ tk (ih λu hu=>hv u (.tail _ hu))
 ·have:=p.map num
  rw[lY] at this
  refine this.trans (List.Perm.of_eq ?_)
  rw[← S.hs]
  refine laC λe he=>?_
  obtain⟨k,tk,_,rfl⟩:=S.vs e he
  rfl
theorem zf6 {a:Addr}{es:Array (Int×Value)}{ep:Nat}{t:SetTable}{ks:List Nat}{Q:Value->Shared->Prop}(hh:A.handled=none)(ho:s.heap.get? a=some (stO es ep t))(S:StI w es t ks)
  (h:∀(h1 h':Heap) (tk:Nat) (d:Drawn) (out:Array Value) (ns:List Int) c,(∀b o,s.heap.get? b=some o->h1.get? b=some o)->(∀b o,h1.get? b=some o->h'.get? b=some o)->h'.get? h1.objs.size=some (seqObj "list" out c)->IntsAre out.toList ns->ns.Perm (ks.map λ(k:Nat)=>(k:Int))->ns.Pairwise (·<=·)->Q (.ref h1.objs.size) {s with heap:=h',toks:=tk,drawn:=d}) :
  wpAny (model prog w) A (call (.builtin "sorted") [.ref a]) Q E s:=by
 refine lcz kind_sorted plain_sorted entry_sorted (args_sorted1 _) ?_
 unfold Builtin.«sorted»
 refine la (m:=checkCount "sorted" 1 1 _) (lc ?_)
 refine la (zeQ (A:=A.in1) hh ho S λh1 tk d vs k p=>?_)
 obtain⟨ns,hI,hP⟩:=S.ints p
 have h6:=(zda true ks S.sb).2.2.2.1
 have hl:vs.length=ks.length:=by
  have q:=p.length_eq
  have z:=S.size
  simp at q
  omega
 refine la (ldT ?_ (by rw[hl,laP];omega))
 have hoL:(h1.push (seqObj "list" vs.toArray 0)).get? h1.objs.size=some (seqObj "list" vs.toArray 0):=lj _ rfl
 refine la (lay (lU (s:={s with heap:=h1.push (seqObj "list" vs.toArray 0),toks:=tk,drawn:=d}) slot_list_sort ⟨_,hoL,rfl⟩ entry_list_sort (list_sort_tree hoL hI (by omega) λout ns' a1 a2 a3=>⟨_,rfl,?_⟩) (args_list_sort _)))
 refine lc ⟨_,rfl,?_⟩
 obtain⟨c,hat⟩:=sortedHeap_at (n:=0) (out:=out) hoL
 refine h h1 _ tk d _ ns' c k (λb o e=>?_) hat a1 (a2.trans hP) a3
 have hlt:=lu e
 rw[sortedHeap_old (lO hlt) (by rw[size_push'];exact lcu hlt)]
 exact lb _ e
end
end L2
set_option maxHeartbeats 1000000
namespace L2
open PySem PySem.Spec PyProof.Rows
def vI (xs:List Nat):List V:=xs.map λ(k:Nat)=>V.int (k:Int)
theorem zo6:∀ks∈zaC,(ks.map λ(k:Nat)=>(k:Int)).Pairwise (·<=·):=by decide +kernel
theorem zdS:∀{us:List Value}{ns:List Int},IntsAre us ns->Vals (ns.map V.int) us
 | _,_,.nil=>.nil
 | _,_,.cons n t h=>.cons ⟨t,rfl⟩ (zdS h)
theorem zhU {xs:List Nat}{us:List Value}(r:Vals (vI xs) us):us.length=xs.length/\∀(i:Nat) (v:Value),us[i]? = some v->∃t x,xs[i]? = some x/\v=Value.int (x:Int) t:=by
 refine⟨by rw[← r.length];simp[vI],λi v e=>?_⟩
 have hi:i<us.length:=(lv.mp e).1
 have hi':i<xs.length:=by rw[← r.length] at hi;simpa [vI] using hi
 have hx:(vI xs)[i]? = some (.int (xs[i]:Int)):=by unfold vI;rw[lT,lQ9 hi'];rfl
 obtain⟨u,e2,ru⟩:=r.get hx
 rw[e] at e2
 obtain rfl:=lg e2
 obtain⟨t,rfl⟩:=ru
 exact⟨t,xs[i],by rw[lQ9 hi'],rfl⟩
def tSI (K:PySem.W.Frag)(te:TE):TE:=λσ H Q=>te σ H λv H1=>∃a xs,v=.ref a/\(SqL K H1 a (vI xs)∨SqT K H1 a (vI xs))/\(∀x∈xs,x∈([1,2,3,4,5,6]:List Nat))/\∀p,H1 p=none->Q (.ref p) (upd H1 p (.lst (vI (zcq xs))))
section
variable {X:Cx}{cl:Nat->Addr}{E:XK}{e o a b c:Expr}{es:List Expr}{fa fb fc:Rho->Rs D}{fs:Rho->Rs (List D)}{x y:Str}{p pos:Pos}
theorem zfc {te:TE}{p2 pos2:Pos}(hc:X.calm=true)(hgs:Gl X "sorted")(hms:X.mg "sorted" = none)(hgt:Gl X "set")(hmt:X.mg "set" = none)(he:PE X e te)
  (h1:starEach [.Call (.Name "set" p2) [e] [] pos2] X.env=(false,eval (.Call (.Name "set" p2) [e] [] pos2) X.env)::starEach [] X.env) (h2:starEach [e] X.env=(false,eval e X.env)::starEach [] X.env):PE X (.Call (.Name "sorted" p) [.Call (.Name "set" p2) [e] [] pos2] [] pos) (tSI X.K te):=by
 intro pins s σ H Q I h
 refine lbk (qY I hgs hms boot_sorted (PyProof.Rows.callWith_builtin1 ?_ h1 rfl))
 rw[h1]
 show wpAny _ _ (spliced ((false,eval (.Call (.Name "set" p2) [e] [] pos2) X.env)::backTo pos (starEach [] X.env))) _ _ s
 refine lcS (lbk (qY I hgt hmt (show bootBuiltins "set" = some (.type "set") from PyProof.Rows.Boot.«set») (laG ?_ h2 rfl)))
 rw[h2]
 show wpAny _ _ (spliced ((false,eval e X.env)::backTo pos2 (starEach [] X.env))) _ _ s
 refine lcS (thn (he pins s σ H _ I h) λu s1 hq37=>?_)
 obtain⟨v,H1,I1,r1,a,xs,e1,sq,h6,k⟩:=hq37
 subst e1
 cases r1
 refine(show wpAny _ _ (spliced []) _ _ s1 from ?_)
 rw[spliced]
 refine lc ?_
 have hh:X.A.handled=none:=I.ok.hd hc
 have fin:∀(h':Heap) (tk:Nat) es ep t,h'.get? s1.heap.objs.size=some (stO es ep t)->StI X.w es t (zcq xs)->(∀b o,s1.heap.get? b=some o->h'.get? b=some o) ->
   wpAny (model X.prog X.w) X.A (spliced (backTo pos (starEach [] X.env))) (λvs s₂=>wpAny (model X.prog X.w) X.A (call (.builtin "sorted") (.ref s1.heap.objs.size::vs)) (EP X pins σ Q) X.xe s₂) X.xe {s1 with heap:=h',toks:=tk}:=by
  intro h' tk es ep t g S kp
  refine(show wpAny _ _ (spliced []) _ _ _ from ?_)
  rw[spliced]
  refine lc ?_
  refine zf6 hh g S λh1 h2 tk2 d out ns c k1 k2 gp st1 st2 st3=>?_
  have I2:Inv X pins σ H1 {s1 with heap:=h1,toks:=tk2,drawn:=d}:=(I1.kept (t':=tk2) λb o q=>k1 b o (kp b o q)).drawn d
  have hE:ns=(zcq xs).map λ(k:Nat)=>(k:Int):=lcN (λ_ _ _ _ h k=>Int.le_antisymm h k) st3 (zo6 _ S.sb) st2
  refine⟨.ref h1.objs.size,_,I2.laid (t':=tk2) (o:=.lst (vI (zcq xs))) (λb o q=>k2 b o q) (lr _) ?_,rfl,k _ (I2.hok.fresh (lr _))⟩
  refine⟨?_,out.toList,c,?_,by simpa [seqObj] using gp⟩
  ·unfold vI
   rw[lh,laP]
   have:=(zda true _ S.sb).2.2.2.1
   omega
  ·have:=zdS st1
   rw[hE,lY] at this
   exact this
 rcases sq with sq|sq
 ·obtain⟨its,rv,⟨ol,n,hol,hcl,hdl,hdat⟩,hz⟩:=I1.list sq
  obtain⟨ocls,odict,odata,oslots⟩:=ol
  simp only at hcl hdl hdat
  subst hcl;subst hdl;subst hdat
  obtain⟨z1,z2⟩:=zhU rv
  refine zf3 (xs:=xs) hh hol F.sub_list_set F.sub_list_frozenset (by decide) ⟨by simpa using z1,λi v q=>z2 i v (by simpa using q)⟩ h6 (λA' s' E' Q' hh' hr' q=>?_) λh' tk es ep t g S kp=>fin h' tk es ep t g S kp
  have hL:s'.heap.IsList a its.toArray:=⟨_,hr',rfl,n,rfl⟩
  exact lb5 hL (q _ _ (λA'' hh''=>Walks.list hh'' _ a (lO (lu hr')) its.toArray) ⟨⟨_,lj _ rfl,rfl,rfl⟩,hL.push _⟩)
 ·obtain⟨its,rv,⟨ol,hol,hcl,n,hdat⟩,hz⟩:=I1.tuple sq
  obtain⟨ocls,odict,odata,oslots⟩:=ol
  simp only at hcl hdat
  subst hcl;subst hdat
  obtain⟨z1,z2⟩:=zhU rv
  refine zf3 (xs:=xs) hh hol zbE kO (by decide) ⟨by simpa using z1,λi v q=>z2 i v (by simpa using q)⟩ h6 (λA' s' E' Q' hh' hr' q=>?_) λh' tk es ep t g S kp=>fin h' tk es ep t g S kp
  have hL:s'.heap.IsTuple a its.toArray:=⟨_,hr',rfl,n,rfl⟩
  exact lcj hL (q _ _ (λA'' hh''=>Walks.tuple hh'' _ a (lO (lu hr')) its.toArray) ⟨⟨_,lj _ rfl,rfl,rfl⟩,hL.push _⟩)
def za4:List D->Option (List Nat)
 | []=>some []
 | .int i::ds=>if 1<=i/\i<=6 then(za4 ds).map (i.toNat :: ·) else none
 | _=>none
def smI (ds:List D):Option (List D):=(za4 ds).map λxs=>(zcq xs).map λ(k:Nat)=>D.int (k:Int)
def zne:D->Option (List D)
 | .lst ds=>smI ds
 | .tup ds=>smI ds
 | _=>none
theorem zeC {K:PySem.W.Frag}{F:Hp}:∀{ds:List D}{vs:List V}{xs:List Nat},Dts K cl F vs ds->za4 ds=some xs->vs=vI xs/\∀x∈xs,x∈([1,2,3,4,5,6]:List Nat):=by
 intro ds
 induction ds with
 | nil =>
  intro vs xs q h
  obtain rfl:=lg h
  cases q
  exact⟨rfl,λx hx=>by cases hx⟩
 | cons d ds ih =>
  intro vs xs q h
  unfold za4 at h
  split at h
  ·rename_i e1;cases e1
  ·rename_i i ds' e1
   injection e1 with a b
   subst a b
   split at h
   ·rename_i hi
    cases hr:za4 ds with
    | none=>rw[hr] at h;cases h
    | some r =>
     rw[hr] at h
     obtain rfl:=lg h
     cases q with
     | cons q1 q2 =>
      obtain⟨e2,e3⟩:=ih q2 hr
      cases q1
      obtain⟨n,rfl⟩:=lZ (show 0<=i by omega)
      refine⟨by rw[e2];rfl,λx hx=>?_⟩
      rcases lB.mp hx with e4|hx
      ·have key:∀n<7,1<=n->n∈([1,2,3,4,5,6]:List Nat):=by decide
       rw[e4,laK]
       exact key n (by omega) (by omega)
      ·exact e3 x hx
   ·cases h
  ·cases h
theorem zfK {K:PySem.W.Frag}{F:Hp}:∀(xs:List Nat),Dts K cl F (vI xs) (xs.map λ(k:Nat)=>D.int (k:Int))
 | []=>.nil
 | x::xs=>.cons (.int _) (zfK xs)
theorem zfh {p2 pos2:Pos}(hc:X.calm=true)(hgs:Gl X "sorted")(hms:X.mg "sorted" = none)(hgt:Gl X "set")(hmt:X.mg "set" = none)(he:XE X cl E e fa)(h2:starEach [e] X.env=(false,eval e X.env)::starEach [] X.env):XL X cl E (.Call (.Name "sorted" p) [.Call (.Name "set" p2) [e] [] pos2] [] pos) (fL1 zne fa):=by
 obtain⟨t,pt,rt⟩:=he.ex
 refine⟨_,zfc hc hgs hms hgt hmt pt zL h2,λH0 F0 ρ σ H F Q R o=>rt H0 F0 ρ σ H F _ R (OutE.fstA o λd v H1 F1 g q o1=>?_)⟩
 obtain⟨z,hz,k⟩:=o1.lf
 have fh:=(R.grow g).fh
 have run:∀{vs:List V}{ds:List D},Dts X.K cl F1 vs ds->smI ds=some z->∃xs,vs=vI xs/\(∀x∈xs,x∈([1,2,3,4,5,6]:List Nat))/\∀p,H1 p=none->Q (.ref p) (upd H1 p (.lst (vI (zcq xs)))):=λ{vs ds} dq hz=>by
  unfold smI at hz
  cases hr:za4 ds with
  | none=>rw[hr] at hz;cases hz
  | some xs =>
   rw[hr] at hz
   obtain rfl:=lg hz
   obtain⟨e1,e2⟩:=zeC dq hr
   exact⟨xs,e1,e2,λp hp=>k _ _ _ (Gr.refl fh) (zfK _) p hp⟩
 cases q with
 | lst sq dq =>
  obtain⟨xs,e1,e2,e3⟩:=run dq hz
  rw[e1] at sq
  exact⟨_,xs,rfl,.inl (fh.seq sq),e2,e3⟩
 | tup sq dq =>
  obtain⟨xs,e1,e2,e3⟩:=run dq hz
  rw[e1] at sq
  exact⟨_,xs,rfl,.inr (fh.seqT sq),e2,e3⟩
 | _=>cases hz
end
end L2
namespace L2
open PySem PySem.W PyProof.Rows
structure Ord (n:Nat)(b:Nat->Nat->Bool):Prop where
 tr:∀i j k,i<n->j<n->k<n->b i j=true->b j k=true->b i k=true
 tot:∀i j,i<n->j<n->i≠j->b i j=false->b j i=true
 ir:∀i,i<n->b i i=false
def PP (n:Nat)(p:Array Nat):Prop:=p.toList.Perm (List.range n)
section
variable {n:Nat}{b:Nat->Nat->Bool}{cmp:Nat->Nat->(Bool->Shared->Prop)->Shared->Prop}{s:Shared}{p:Array Nat}
theorem gd (p:Array Nat)(i:Nat):p.getD i 0=(p[i]?).getD 0:=by simp[Array.getD];split <;>simp_all
theorem PP.size (h:PP n p):p.size=n:=by have:=h.length_eq;simpa using this
theorem PP.lt (h:PP n p){i:Nat}(hi:i<n):p.getD i 0<n:=by
 have hs:=h.size
 have e:p.getD i 0=p[i]'(by omega):=by rw[gd,getElem?_pos p i (by omega)];rfl
 rw[e]
 exact la6.mp (h.mem_iff.mp (Array.getElem_mem_toList (by omega)))
theorem PP.inj (h:PP n p){i j:Nat}(hi:i<n)(hj:j<n)(hij:i≠j):p.getD i 0≠p.getD j 0:=by
 have hs:=h.size
 have nd:p.toList.Nodup:=h.nodup_iff.mpr ld5
 have e:∀k,k<n->p.getD k 0=p.toList.getD k 0:=λk hk=>by rw[gd];simp
 rw[e i hi,e j hj]
 intro z
 have hl:p.toList.length=n:=by simpa using hs
 rw[lm,lm,lQ9 (by omega),lQ9 (by omega)] at z
 have pw:=List.pairwise_iff_getElem.mp nd
 rcases Nat.lt_or_gt_of_ne hij with c|c
 ·exact pw i j (by omega) (by omega) c z
 ·exact pw j i (by omega) (by omega) c z.symm
variable (O:Ord n b)(hc:∀i j (C:Bool->Shared->Prop),i<n->j<n->C (b i j) s->cmp i j C s)
include O hc
end
def kOf:D->Key
 | .int i=>.inl i
 | .str l=>.inr (T l)
 | _=>.inl 0
def isAt:D->Bool
 | .int _=>true
 | .str _=>true
 | _=>false
def tOf:D->List D
 | .tup ds=>ds
 | _=>[]
def zoV (d:D):List Key:=(tOf d).map kOf
def zow:D->Bool
 | .tup ds=>ds.all isAt
 | _=>false
section
variable {K:PySem.W.Frag}{cl:Nat->Addr}{F:Hp}
theorem Dts.atoms:∀{vs:List V}{ds:List D},Dts K cl F vs ds->ds.all isAt=true->vs=(ds.map kOf).map kV
 | _,_,.nil,_=>rfl
 | _,_,.cons q r,h=>by
  rw[lcs,lab] at h
  have e:=Dts.atoms r h.2
  cases q with
  | int i=>rw[e];rfl
  | str l ok=>rw[e];rfl
  | _=>simp[isAt] at h
theorem Dts.tups:∀{vs:List V}{ds:List D},Dts K cl F vs ds->(∀d∈ds,zow d=true)->∃ts:List Addr,vs=ts.map V.ref/\ts.length=ds.length/\∀i,i<ds.length->SqT K F (ts.getD i 0) (((ds.map zoV).getD i []).map kV)
 | _,_,.nil,_=>⟨[],rfl,rfl,λi hi=>by simp at hi⟩
 | _,_,.cons q r,h=>by
  obtain⟨ts,e1,e2,e3⟩:=Dts.tups r λd hd=>h d (lM _ hd)
  have h0:=h _ lac
  cases q with
  | tup sq dq =>
   rename_i a xs ds'
   have ex:=dq.atoms h0
   refine⟨a::ts,by rw[e1];rfl,by simp[e2],λi hi=>?_⟩
   cases i with
   | zero=>show SqT K F a ((ds'.map kOf).map kV);rw[← ex];exact sq
   | succ i=>exact e3 i (by simpa using hi)
  | _=>simp[zow] at h0
end
end L2
namespace L2
open PySem PySem.Spec PyProof.Rows
def gz:D->Option (List D)
 | .tup ds=>some ds
 | .lst ds=>some ds
 | .str l=>if l.all (· < 128) then some (l.map λc=>.str [c]) else none
 | _=>none
inductive Dz (K:PySem.W.Frag)(x:Str)(st:Stmt):Prop
 | mk {f:Addr}{oc kV dc pm cd ct:Value}{od an:Option Addr}{sl:Array (Option Value)} (a:PySem.W.nsIn K mainGlobals x=some (some (.ref f))) (l:K.lookup f=some ⟨oc,od,.func (PySem.W.fnOf x x (zaJ st) (uV st) (zy st) .none kV dc pm an cd ct),sl⟩) (c:PySem.W.codeIn K cd x=true) (k:PySem.W.keepIn K (.ref f)=true):Dz K x st
theorem Dz.dn {K:PySem.W.Frag}{h:Heap}{mg:Str->Option Value}{x:Str}{st:Stmt}(z:Dz K x st)(X:K.In h)(G:h.Ns mainGlobals mg)(ps:List Str)(hb:∀(kV doc pm:Value) (an:Option Addr) (cdv ct:Value) (us:List Value),us.length=ps.length->bindArgs (PySem.W.fnOf x x (zaJ st) (uV st) (zy st) .none kV doc pm an cdv ct) ⟨us,[]⟩=pure (ps.zip us)):Nonempty (Dn K mg x st ps):=by
 obtain⟨a,l,c,k⟩:=z
 exact⟨⟨_,_,zif l c k,lbz X G a,(zif l c k).binds hb⟩⟩
inductive Oz (K:PySem.W.Frag)(x:Str):Prop
 | mk {a:Addr} (y:PySem.W.nsIn K mainGlobals x=some (some (.ref a))) (q:PySem.W.excIn K a [.type "ValueError", .type "Exception", .type "BaseException", .type "object"] "ValueError.__new__" = true):Oz K x
theorem Oz.ow {K:PySem.W.Frag}{h:Heap}{mg:Str->Option Value}{x:Str}(z:Oz K x)(X:K.In h)(G:h.Ns mainGlobals mg):Nonempty (Own K mg x):=by
 obtain⟨y,q⟩:=z
 exact⟨⟨_,lbz X G y,q⟩⟩
section
variable {α:Type}{p:List α->Prop}
theorem bd1 (h:∀a,p [a])(us:List α)(e:us.length=1):p us:=by obtain⟨_,rfl⟩:=zoL e;exact h _
theorem bd2 (h:∀a b,p [a,b])(us:List α)(e:us.length=2):p us:=by obtain⟨_,_,rfl⟩:=zoP e;exact h _ _
theorem bd3 (h:∀a b c,p [a,b,c])(us:List α)(e:us.length=3):p us:=by obtain⟨_,_,_,rfl⟩:=zoO e;exact h _ _ _
theorem bd4 (h:∀a b c d,p [a,b,c,d])(us:List α)(e:us.length=4):p us:=by obtain⟨_,_,_,_,rfl⟩:=zoU e;exact h _ _ _ _
end
end L2
set_option maxHeartbeats 4000000
namespace Pg
open PySem L2 PyProof.Rows
def v5:Rho->Out :=
  (zT (sIf (bT (f2 (eqD false) (fNm 0) (fO mkL zG)))
  (yM (f2 zci (fC (.int 7)) (fNm 1)))
  sNx)
  (yM (f2 qX (f2 ixD (fNm 0) (f2 zdq (fNm 1) (fO qM (zj (fNm 0) zG)))) (f2 zci (fC (.int 6553)) (f2 zb2 (fNm 1) (fO qM (zj (fNm 0) zG)))))))
def uF:List D->Rs D:=yg 2 v5
def wZ:Rho->Out :=
  (zT (yh 3 (f2 zdq (f2 qX (f2 zci (f2 zdq (fA (ari 2 uF) (zj (fNm 0) (zj (fNm 1) zG))) (fC (.int 2147483563))) (fC (.int 69069))) (f2 zci (fC (.int 104723)) (f2 qX (fNm 1) (fC (.int 1))))) (fC (.int 2147483563))))
  (zT (yh 3 (f2 zdq (f2 qX (f2 zci (fNm 3) (fNm 3)) (f2 zb2 (fNm 3) (fC (.int 3)))) (fC (.int 2147483399))))
  (yM (f2 zdq (f2 zb2 (f2 zdq (f2 qX (f2 zci (fNm 3) (fNm 3)) (f2 zb2 (fNm 3) (fC (.int 7)))) (fC (.int 2147483647))) (fC (.int 11))) (fNm 2)))))
def zM:List D->Rs D:=yg 4 wZ
def vJ:Rho->Out :=
  (zT (vB 4 (fCp (fR zcu (zj (fNm 2) zG)) yU (f2 ixD (fC (.str [97,98,99,100])) (fNm 0)) []))
  (zT (qR (uL 5 (fR zcu (zj (fNm 3) zG))
  (zT (zdm 4 6 (fFl 4 (fA (ari 3 zM) (zj (fNm 0) (zj (f2 qX (fNm 1) (fNm 5)) (zj (fO qM (zj (fNm 4) zG)) zG))))))
  (zcA 4 (vB 4 (fL zgx (zj (fLs (fL2 zkE (fNm 4) (yS (fR zcu (zj (fNm 2) zG)) yU (f2 zir (fNm 1) (f2 ixD (fC (.str [97,98,99,100])) (fNm 0))) [6]))) zG)))))))
  (zcA 4 (yM (fO zj3 (zj (fNm 4) zG))))))
def jg:List D->Rs D:=yg 7 vJ
def uZ:Rho->Out :=
  (zT (qJ 1)
  (zT (qR (uL 2 (fI tpD (fNm 0))
  (uL 3 (fR zcu (zj (fO qM (zj (fNm 2) zG)) zG))
  (zaB 1 (fSl (fNm 2) xV (xQ (fNm 3))) (fC (.bl true))))))
  (yM (fLs (fSD 1)))))
def wD:List D->Rs D:=yg 4 uZ
def qt:Rho->Out :=
  (yM (fO zlc (zj (fLs (fCz (fNm 0) (fSl (fNm 0) (xQ (fC (.int 1))) xV) yU (f2 ltS (fNm 0) (fNm 1)) [])) zG)))
def um:List D->Rs D:=yg 1 qt
def zaS:Rho->Out :=
  (yM (zbm (f1 (zcQ isInt) (fNm 0)) (zdp (f1 (zcQ isBool) (fNm 0)))))
def jQ:List D->Rs D:=yg 1 zaS
def uo:Rho->Out :=
  (yM (zbm (fA (ari 1 jQ) (zj (fNm 0) zG)) (fCh leI leI (fNm 1) (fNm 0) (fNm 2))))
def yZ:List D->Rs D:=yg 3 uo
def yt:Rho->Out :=
  (yM (fA (ari 3 yZ) (zj (fNm 0) (zj (fC (.int 2)) (zj (fO qM (zj (fC (.str [97,98,99,100])) zG)) zG)))))
def z6:List D->Rs D:=yg 1 yt
def uE:Rho->Out :=
  (zT (yh 2 (fSl (fC (.str [97,98,99,100])) xV (xQ (fNm 0))))
  (yM (zbm (f1 (zcQ isStr) (fNm 1)) (fO zlc (zj (yS (fI sgD (fNm 1)) yU (f2 (inC false) (fNm 0) (fNm 1)) [2]) zG)))))
def yI:List D->Rs D:=yg 3 uE
def uw:Rho->Out :=
  (zT (sIf (bOr (zaL (bT (fA (ari 1 z6) (zj (fNm 0) zG)))) (zaL (bT (f1 (zcQ isTup) (fNm 1)))))
  (yM (fC (.bl false)))
  sNx)
  (zT (sIf (zaL (bT (fCh leI leI (fC (.int 1)) (fO qM (zj (fNm 1) zG)) (fC (.int 32)))))
  (yM (fC (.bl false)))
  sNx)
  (zT (sIf (zaL (bT (fO zlc (zj (yS (fI tpD (fNm 1)) yU (zbm (fA (ari 2 yI) (zj (fNm 1) (zj (fNm 0) zG))) (f2 (eqD true) (fNm 0) (fC (.str [])))) [0]) zG))))
  (yM (fC (.bl false)))
  sNx)
  (yM (fA (ari 1 um) (zj (fNm 1) zG))))))
def wB:List D->Rs D:=yg 2 uw
def yV:Rho->Out :=
  (zT (qR (qW 1 2 (fNm 0) (fSl (fNm 0) (xQ (fC (.int 1))) xV)
  (sIf (bT (fM isS yX (fNm 2) (fNm 1)))
  (yM (fO mkT (zj (fNm 1) (zj (fNm 2) zG))))
  sNx)))
  (yM (fC .non)))
def yH:List D->Rs D:=yg 3 yV
def kY:Rho->Out :=
  (zT (vB 2 (fL szL zG))
  (zT (qR (uL 3 (fI lsD (fNm 1))
  (uL 4 (fI sgD (fSl (fC (.str [97,98,99,100])) xV (xQ (fNm 0))))
  (zcp 2 (f2 zir (fNm 3) (fNm 4))))))
  (zcA 2 (yM (fNm 2)))))
def yc:List D->Rs D:=yg 5 kY
def jt:Rho->Out :=
  (yM (zdp (fO zl2 (zj (yS (fI tpD (fNm 0)) yU (fOr (fM isS yX (fNm 0) (fNm 1)) (fM isS yX (fNm 1) (fNm 0))) [1]) zG))))
def z9:List D->Rs D:=yg 2 jt
def jx:Rho->Out :=
  (yM (fO zl2 (zj (yS (fI tpD (fNm 0)) yU (zbm (fM isS yX (fNm 0) (fNm 1)) (f2 (eqD true) (fNm 0) (fNm 1))) [1]) zG)))
def yd:List D->Rs D:=yg 2 jx
def xX:Rho->Out :=
  (zT (yh 2 (fO mkL (zj (fC (.str [])) zG)))
  (zT (qR (sWh 2000 (bT (f2 (eqD true) (fNm 2) (fO mkL zG)))
  (zT (yh 3 (fA (ari 2 yc) (zj (fNm 0) (zj (fNm 2) zG))))
  (zT (uL 4 (fI lsD (fNm 3))
  (sIf (bT (fA (ari 2 z9) (zj (fNm 1) (zj (fNm 4) zG))))
  (yM (fNm 4))
  sNx))
  (uf 2 (fCp (fI lsD (fNm 3)) (bT (fA (ari 2 yd) (zj (fNm 1) (zj (fNm 0) zG)))) (fNm 0) [1]))))))
  (yM (fC .non))))
def yK:List D->Rs D:=yg 5 xX
def wu:Rho->Out :=
  (zT (yh 2 (fA (ari 1 yH) (zj (fNm 1) zG)))
  (zT (sIf (bT (f1 (isN true) (fNm 2)))
  (yM (fNm 2))
  sNx)
  (yM (fA (ari 2 yK) (zj (fNm 0) (zj (fNm 1) zG))))))
def wW:List D->Rs D:=yg 3 wu
def zbB:Rho->Out :=
  (yM (zbm (fA (ari 2 wB) (zj (fNm 0) (zj (fNm 1) zG))) (f1 (isN false) (fA (ari 2 wW) (zj (fNm 0) (zj (fNm 1) zG))))))
def jy:List D->Rs D:=yg 2 zbB
def uN:Rho->Out :=
  (sIf (zaL (bT (fA (ari 2 jy) (zj (fNm 0) (zj (fNm 1) zG)))))
  (sRs 1 (zj (fC (.str [116,104,105,115,32,105,115,32,110,111,32,98,111,111,107,32,111,102,32,115,111,32,109,97,110,121,32,108,101,116,116,101,114,115])) zG))
  sNx)
def vW:List D->Rs D:=yg 2 uN
def wF:Rho->Out :=
  (sIf (zaL (bT (fA (ari 2 yI) (zj (fNm 0) (zj (fNm 1) zG)))))
  (sRs 3 (zj (fC (.str [116,104,105,115,32,105,115,32,110,111,32,116,101,120,116,32,111,102,32,116,104,101,115,101,32,108,101,116,116,101,114,115])) zG))
  sNx)
def wj:List D->Rs D:=yg 2 wF
def qD:Rho->Out :=
  (zT (yh 3 (f2 ixD (fO mkL (zj (fC (.int 3)) (zj (fC (.int 9)) (zj (fC (.int 99)) zG)))) (fA (ari 3 zM) (zj (fNm 0) (zj (fNm 1) (zj (fC (.int 3)) zG))))))
  (yM (fO zj3 (zj (yS (fR zcu (zj (fNm 2) zG)) yU (f2 qX (fC (.int 1)) (fA (ari 3 zM) (zj (fNm 1) (zj (f2 qX (f2 qX (fNm 3) (fC (.int 1))) (fNm 0)) (zj (fNm 2) zG))))) [0,3,1]) zG))))
def uP:List D->Rs D:=yg 4 qD
def jU:Rho->Out :=
  (yM (fA (ari 3 yZ) (zj (fNm 0) (zj (fC (.int 1)) (zj (fC (.int 99)) zG)))))
def ur:List D->Rs D:=yg 1 jU
def jN:Rho->Out :=
  (zT (sIf (zaL (bT (f1 (zcQ isTup) (fNm 0))))
  (yM (fC (.bl false)))
  sNx)
  (zT (sIf (zaL (bT (fCh leI leI (fC (.int 2)) (fO qM (zj (fNm 0) zG)) (fO qM (zj (fC (.str [97,98,99,100])) zG)))))
  (yM (fC (.bl false)))
  sNx)
  (yM (fO zlc (zj (yS (fI tpD (fNm 0)) yU (fA (ari 1 ur) (zj (fNm 0) zG)) []) zG)))))
def je:List D->Rs D:=yg 1 jN
def vg:Rho->Out :=
  (sIf (zaL (bT (fA (ari 1 je) (zj (fNm 0) zG))))
  (sRs 0 (zj (fC (.str [116,104,105,115,32,105,115,32,110,111,32,116,117,112,108,101,32,111,102,32,50,32,116,111,32,52,32,119,101,105,103,104,116,115,32,102,114,111,109,32,49,32,116,111,32,57,57])) zG))
  sNx)
def yE:List D->Rs D:=yg 1 vg
def wJ:Rho->Out :=
  (zT (vq (fA (ari 1 yE) (zj (fNm 0) zG)))
  (vq (fA (ari 2 vW) (zj (fO qM (zj (fNm 0) zG)) (zj (fNm 1) zG)))))
def yw:List D->Rs D:=yg 2 wJ
def xY:Rho->Out :=
  (zT (qR (sWh 4000 (bT (f2 (eqD true) (fNm 1) (fC (.int 0))))
  (zT (yh 2 (f2 zdq (fNm 0) (fNm 1)))
  (zT (yh 0 (fNm 1))
  (yh 1 (fNm 2))))))
  (yM (fNm 0)))
def xK:List D->Rs D:=yg 3 xY
def zcD:Rho->Out :=
  (zT (yh 2 (fA (ari 2 xK) (zj (fNm 0) (zj (fNm 1) zG))))
  (yM (fO mkT (zj (f2 zb2 (fNm 0) (fNm 2)) (zj (f2 zb2 (fNm 1) (fNm 2)) zG)))))
def j9:List D->Rs D:=yg 3 zcD
def zbM:Rho->Out :=
  (zT (vq (fA (ari 1 yE) (zj (fNm 0) zG)))
  (zT (vq (fA (ari 2 wj) (zj (fO qM (zj (fNm 0) zG)) (zj (fNm 1) zG))))
  (zT (yh 2 (f2 zju (fC (.str [97,98,99,100])) (fNm 0)))
  (zT (yh 3 (fO znG (zj (fNm 0) zG)))
  (zT (yh 4 (fC (.int 1)))
  (zT (yh 5 (fC (.int 1)))
  (zT (qR (uL 6 (fI sgD (fNm 1))
  (zT (yh 4 (f2 zci (fNm 4) (f2 getD (fNm 2) (fNm 6))))
  (yh 5 (f2 zci (fNm 5) (fNm 3))))))
  (yM (fA (ari 2 j9) (zj (fNm 4) (zj (fNm 5) zG)))))))))))
def yC:List D->Rs D:=yg 7 zbM
def zey:Rho->Out :=
  (yM (fA (ari 2 j9) (zj (f2 qX (f2 zci (f2 ixD (fNm 0) (fC (.int 0))) (f2 ixD (fNm 1) (fC (.int 1)))) (f2 zci (f2 ixD (fNm 1) (fC (.int 0))) (f2 ixD (fNm 0) (fC (.int 1))))) (zj (f2 zci (f2 ixD (fNm 0) (fC (.int 1))) (f2 ixD (fNm 1) (fC (.int 1)))) zG))))
def zbh:List D->Rs D:=yg 2 zey
def zgY:Rho->Out :=
  (zT (vq (fA (ari 2 yw) (zj (fNm 0) (zj (fNm 1) zG))))
  (zT (yh 2 (fO mkT (zj (fC (.int 0)) (zj (fC (.int 1)) zG))))
  (zT (qR (uL 3 (fI tpD (fNm 1))
  (zT (yh 4 (fA (ari 2 yC) (zj (fNm 0) (zj (fNm 3) zG))))
  (yh 2 (fA (ari 2 zbh) (zj (fNm 2) (zj (fO mkT (zj (f2 zci (f2 ixD (fNm 4) (fC (.int 0))) (fO qM (zj (fNm 3) zG))) (zj (f2 ixD (fNm 4) (fC (.int 1))) zG))) zG)))))))
  (yM (fNm 2)))))
def jG:List D->Rs D:=yg 5 zgY
def zbP:Rho->Out :=
  (yM (f2 ltI (f2 zci (f2 ixD (fNm 0) (fC (.int 0))) (f2 ixD (fNm 1) (fC (.int 1)))) (f2 zci (f2 ixD (fNm 1) (fC (.int 0))) (f2 ixD (fNm 0) (fC (.int 1))))))
def yu:List D->Rs D:=yg 2 zbP
def vf:Rho->Out :=
  (zT (yh 2 (f2 ixD (fNm 0) (fC (.int 0))))
  (zT (qR (uL 3 (fI tpD (fNm 0))
  (sIf (bT (fA (ari 2 yu) (zj (f2 getD (fNm 1) (fNm 2)) (zj (f2 getD (fNm 1) (fNm 3)) zG))))
  (yh 2 (fNm 3))
  sNx)))
  (yM (fNm 2))))
def yp:List D->Rs D:=yg 4 vf
def jX:Rho->Out :=
  (zT (qJ 2)
  (zT (qR (uL 3 (fI tpD (fNm 1))
  (zaB 2 (fNm 3) (fA (ari 2 yC) (zj (fNm 0) (zj (fNm 3) zG))))))
  (zje 2 (yM (fNm 2)))))
def kh:List D->Rs D:=yg 4 jX
def vh:Rho->Out :=
  (zT (vq (fA (ari 2 yw) (zj (fNm 0) (zj (fNm 1) zG))))
  (yM (fA (ari 2 yp) (zj (fNm 1) (zj (fA (ari 2 kh) (zj (fNm 0) (zj (fNm 1) zG))) zG)))))
def xq:List D->Rs D:=yg 2 vh
def qm:Rho->Out :=
  (zT (vq (fA (ari 2 yw) (zj (fNm 0) (zj (fNm 1) zG))))
  (zT (yh 2 (fO mkT (zj (fC (.int 1)) (zj (fC (.int 1)) zG))))
  (zT (qR (uL 3 (fI lsD (fA (ari 1 wD) (zj (fNm 1) zG)))
  (zT (yh 4 (fA (ari 2 yC) (zj (fNm 0) (zj (fNm 3) zG))))
  (sIf (bT (fA (ari 2 yu) (zj (fNm 4) (zj (fNm 2) zG))))
  (yh 2 (fNm 4))
  sNx))))
  (yM (fNm 2)))))
def wR:List D->Rs D:=yg 5 qm
def zdk:Rho->Out :=
  (zT (yh 3 (fM zoE zmm (fNm 1) (fNm 2)))
  (yM (f2 znF (f2 znF (fSl (fNm 1) xV (xQ (fNm 3))) (fO zj3 (zj (fA (ari 2 yc) (zj (fNm 0) (zj (fO mkL (zj (fNm 2) zG)) zG))) zG))) (fSl (fNm 1) (xQ (f2 qX (fNm 3) (fC (.int 1)))) xV))))
def zag:List D->Rs D:=yg 4 zdk
def jD:Rho->Out :=
  (zT (yh 2 (fO mkL (zj (fC (.str [])) zG)))
  (zT (qR (uL 3 (fR zcu (zj (fNm 1) zG))
  (yh 2 (fA (ari 2 yc) (zj (fNm 0) (zj (fNm 2) zG))))))
  (yM (fO zj3 (zj (fNm 2) zG)))))
def xT:List D->Rs D:=yg 4 jD
def jc:Rho->Out :=
  (yM (fA (ari 2 xT) (zj (fNm 0) (zj (fC (.int 1)) zG))))
def ql:List D->Rs D:=yg 1 jc
end Pg
set_option maxHeartbeats 1000000
namespace L2
open PySem
section
variable {ft:Rho->Rs Bool}{fe:Rho->Rs D}{ρ0 ρ:Rho}{α β:Type}{i j:Nat}{g:Rho->Out}
theorem zf0 {l:List α}{enc:α->D}(p:α->Bool)(e:α->D)(h:∀x∈l,ft (ρ0.set 0 (.fz (enc x)))=.ok (p x)/\(p x=true->fe (ρ0.set 0 (.fz (enc x)))=.ok (e x))):vm ft fe ρ0 (l.map enc)=.ok ((l.filter p).map e):=by
 induction l with
 | nil=>rfl
 | cons x l ih =>
  have ih':=ih λy hy=>h y (.tail _ hy)
  obtain⟨h1,h2⟩:=h x (.head _)
  rw[lw]
  unfold vm
  rw[h1]
  cases hp:p x with
  | false=>rw[lc1 (by simp[hp])];exact ih'
  | true =>
   rw[lc2 hp]
   simp only[h2 hp,ih']
   rfl
theorem yx {l:List α}{enc:α->D}(e:α->D)(h:∀x∈l,fe (ρ0.set 0 (.fz (enc x)))=.ok (e x)):vm yU fe ρ0 (l.map enc)=.ok (l.map e):=by
 have:=zf0 (ft:=yU) (fe:=fe) (ρ0:=ρ0) (l:=l) (enc:=enc) (λ_=>true) e λx hx=>⟨rfl,λ_=>h x hx⟩
 rwa [List.filter_eq_self.mpr λ_ _=>rfl] at this
theorem zis {l:List (α×β)}{enc:α->D}{enb:β->D}(e:α×β->D)(h:∀x∈l,fe ((ρ0.set 0 (.fz (enc x.1))).set 1 (.fz (enb x.2)))=.ok (e x)):qU yU fe ρ0 (l.map λx=>enc x.1) (l.map λx=>enb x.2)=.ok (l.map e):=by
 induction l with
 | nil=>rfl
 | cons x l ih =>
  have ih':=ih λy hy=>h y (.tail _ hy)
  rw[lw,lw]
  unfold qU
  simp only[yU,h x (.head _)]
  rw[ih'];rfl
theorem zem:∀(as bs:List D),qU ft fe ρ0 as bs=qU ft fe ρ0 ((as.zip bs).map (·.1)) ((as.zip bs).map (·.2))
 | [],_=>by simp[qU]
 | _::_,[]=>by simp[qU]
 | a::as,b::bs=>by
  rw[lbZ,lw,lw]
  unfold qU
  rw[zem as bs]
theorem zfT:∀(as bs:List D) (ρ:Rho),forZ i j g as bs ρ=forZ i j g ((as.zip bs).map (·.1)) ((as.zip bs).map (·.2)) ρ
 | [],_,ρ=>by simp[forZ]
 | _::_,[],ρ=>by simp[forZ]
 | a::as,b::bs,ρ=>by
  rw[lbZ,lw,lw,forZ.eq_1,forZ.eq_1]
  dsimp only
  cases g ((ρ.set i (.fz a)).set j (.fz b)) <;>first|rfl|exact zfT as bs _
theorem wN {l:List α}{enc:α->D}(I:Nat->Rho->Prop)(h0:I 0 ρ)(hs:∀k x ρ,l[k]? = some x->I k ρ->∃ρ',g (ρ.set i (.fz (enc x)))=.nx ρ'/\I (k+1) ρ'):∃ρ',forD i g (l.map enc) ρ=.nx ρ'/\I l.length ρ':=by
 induction l generalizing ρ I with
 | nil=>exact⟨ρ,rfl,h0⟩
 | cons x l ih =>
  obtain⟨ρ1,e1,i1⟩:=hs 0 x ρ rfl h0
  obtain⟨ρ2,e2,i2⟩:=ih (I:=λk=>I (k+1)) i1 λk y ρ hy hI=>hs (k+1) y ρ (by simpa using hy) hI
  refine⟨ρ2,?_,i2⟩
  rw[lw]
  unfold forD
  rw[e1];exact e2
theorem zg5 {l:List α}{enc:α->D}(I:Rho->Prop)(p:α->Bool)(r:α->D)(h0:I ρ)(hs:∀x∈l,∀ρ,I ρ->if p x=true then g (ρ.set i (.fz (enc x)))=.rt (r x) else ∃ρ',g (ρ.set i (.fz (enc x)))=.nx ρ'/\I ρ') :
  match l.find? p with|some x=>forD i g (l.map enc) ρ=.rt (r x)|none=>∃ρ',forD i g (l.map enc) ρ=.nx ρ'/\I ρ':=by
 induction l generalizing ρ with
 | nil=>exact⟨ρ,rfl,h0⟩
 | cons x l ih =>
  have hx:=hs x (.head _) ρ h0
  cases hp:p x with
  | true =>
   rw[lH hp] at hx
   rw[lc4 hp]
   show forD i g (enc x::l.map enc) ρ=_
   unfold forD
   rw[hx]
  | false =>
   rw[lap (by simp[hp])] at hx
   obtain⟨ρ1,e1,i1⟩:=hx
   rw[lci (by simp[hp])]
   have:=ih i1 λy hy=>hs y (.tail _ hy)
   have e:forD i g ((x::l).map enc) ρ=forD i g (l.map enc) ρ1:=by
    show forD i g (enc x::l.map enc) ρ=_
    rw[forD.eq_2,e1]
   rw[e];exact this
theorem zgQ {l:List (α×β)}{enc:α->D}{enb:β->D}(I:Rho->Prop)(p:α×β->Bool)(r:α×β->D)(h0:I ρ)(hs:∀x∈l,∀ρ,I ρ->if p x=true then g ((ρ.set i (.fz (enc x.1))).set j (.fz (enb x.2)))=.rt (r x) else ∃ρ',g ((ρ.set i (.fz (enc x.1))).set j (.fz (enb x.2)))=.nx ρ'/\I ρ') :
  match l.find? p with|some x=>forZ i j g (l.map λx=>enc x.1) (l.map λx=>enb x.2) ρ=.rt (r x)|none=>∃ρ',forZ i j g (l.map λx=>enc x.1) (l.map λx=>enb x.2) ρ=.nx ρ'/\I ρ':=by
 induction l generalizing ρ with
 | nil=>exact⟨ρ,by simp[forZ],h0⟩
 | cons x l ih =>
  have hx:=hs x (.head _) ρ h0
  cases hp:p x with
  | true =>
   rw[lH hp] at hx
   rw[lc4 hp]
   show forZ i j g (enc x.1::l.map λx=>enc x.1) (enb x.2::l.map λx=>enb x.2) ρ=_
   unfold forZ
   rw[hx]
  | false =>
   rw[lap (by simp[hp])] at hx
   obtain⟨ρ1,e1,i1⟩:=hx
   rw[lci (by simp[hp])]
   have:=ih i1 λy hy=>hs y (.tail _ hy)
   have e:forZ i j g ((x::l).map λx=>enc x.1) ((x::l).map λx=>enb x.2) ρ=forZ i j g (l.map λx=>enc x.1) (l.map λx=>enb x.2) ρ1:=by
    show forZ i j g (enc x.1::l.map λx=>enc x.1) (enb x.2::l.map λx=>enb x.2) ρ=_
    rw[forZ.eq_1,e1]
   rw[e];exact this
end
theorem zQ {m:Nat}{g:Rho->Out}{ds:List D}{d:D}(h:g (ds.map .fz++List.replicate (m - ds.length) .no)=.rt d):yg m g ds=.ok d:=by unfold yg;rw[h]
theorem zbs {m:Nat}{g:Rho->Out}{ds:List D}{ρ:Rho}(h:g (ds.map .fz++List.replicate (m - ds.length) .no)=.nx ρ):yg m g ds=.ok .non:=by unfold yg;rw[h]
theorem zA {g h:Rho->Out}{ρ ρ':Rho}(e:g ρ=.nx ρ'):zT g h ρ=h ρ':=by unfold zT;rw[e]
theorem zcF {g h:Rho->Out}{ρ:Rho}{d:D}(e:g ρ=.rt d):zT g h ρ=.rt d:=by unfold zT;rw[e]
theorem xG {g:Rho->Out}{ρ ρ':Rho}(e:g ρ=.nx ρ'):qR g ρ=.nx ρ':=by unfold qR;rw[e]
theorem zkB {g:Rho->Out}{ρ:Rho}{d:D}(e:g ρ=.rt d):qR g ρ=.rt d:=by unfold qR;rw[e]
theorem yO {i:Nat}{fi:Rho->Rs (List D)}{g:Rho->Out}{ρ:Rho}{ds:List D}(e:fi ρ=.ok ds):uL i fi g ρ=forD i g ds ρ:=by unfold uL;rw[e]
theorem zhD {ft:Rho->Rs Bool}{g h:Rho->Out}{ρ:Rho}(e:ft ρ=.ok true):sIf ft g h ρ=g ρ:=by unfold sIf;rw[e]
theorem zaH {ft:Rho->Rs Bool}{g h:Rho->Out}{ρ:Rho}(e:ft ρ=.ok false):sIf ft g h ρ=h ρ:=by unfold sIf;rw[e]
theorem zH {i:Nat}{f:Rho->Rs D}{ρ:Rho}{d:D}(e:f ρ=.ok d):yh i f ρ=.nx (ρ.set i (.fz d)):=by unfold yh;rw[e]
theorem yq {f:Rho->Rs D}{ρ:Rho}{d:D}(e:f ρ=.ok d):yM f ρ=.rt d:=by unfold yM;rw[e]
theorem zkX {i:Nat}{f:Rho->Rs D}{ρ:Rho}{ds:List D}{d:D}(e:owL ρ i=some ds)(e2:f ρ=.ok d)(hl:ds.length<1000000):zcp i f ρ=.nx (ρ.set i (.ow (ds++[d]))):=by unfold zcp;simp only[e,e2,lH hl]
theorem zhb {l m:List Nat}(h:l.length+m.length<=1000000):zir (.str l) (.str m)=some (.str (l++m)):=lH h
theorem yN {g:D->D->Option D}{fa fb:Rho->Rs D}{ρ:Rho}{a b d:D}(e1:fa ρ=.ok a)(e2:fb ρ=.ok b)(e3:g a b=some d):f2 g fa fb ρ=.ok d:=by unfold f2;rw[e1];show(fb ρ).bind _=_;rw[e2];show lf (g a b)=_;rw[e3];rfl
theorem wO {n:Nat}(h:n<=1000000):zcu [.int (n:Int)]=some ((List.range n).map λ(k:Nat)=>.int (k:Int)):=by
 have h1:-(2 ^ 62)<=(n:Int)/\(n:Int)<2 ^ 62:=by omega
 dsimp only [zcu]
 rw[lH h1,laK]
theorem zb0 {g:List D->Option (List D)}{fs:Rho->Rs (List D)}{ρ:Rho}{ds es:List D}(e1:fs ρ=.ok ds)(e2:g ds=some es):fR g fs ρ=.ok es:=by unfold fR;rw[e1];show(match g ds with|some es=>Rs.ok es|none=>.no)=_;rw[e2]
theorem zay {g:List D->Option D}{fs:Rho->Rs (List D)}{ρ:Rho}{ds:List D}{d:D}(e1:fs ρ=.ok ds)(e2:g ds=some d):fO g fs ρ=.ok d:=by unfold fO;rw[e1];show lf (g ds)=_;rw[e2];rfl
theorem zeU {i:Nat}{fk fv:Rho->Rs D}{ρ:Rho}{ds:List (List Nat×D)}{k:List Nat}{v:D}(e:odL ρ i=some ds)(e1:fv ρ=.ok v)(e2:fk ρ=.ok (.str k))(hl:ds.length<1000000):zaB i fk fv ρ=.nx (ρ.set i (.od (putD ds k v))):=by unfold zaB;simp only[e,e1,e2,lH hl]
theorem xN {f g:Rho->Rs D}{ρ:Rho}{i j:Int}(e1:f ρ=.ok (.int i))(e2:g ρ=.ok (.int j)):f2 qX f g ρ=.ok (.int (i+j)):=yN e1 e2 rfl
theorem zaw {f g:Rho->Rs D}{ρ:Rho}{i j:Int}(e1:f ρ=.ok (.int i))(e2:g ρ=.ok (.int j)):f2 zca f g ρ=.ok (.int (i - j)):=yN e1 e2 rfl
theorem xM {f g:Rho->Rs D}{ρ:Rho}{i j:Int}(e1:f ρ=.ok (.int i))(e2:g ρ=.ok (.int j))(h1:Sm i)(h2:Sm j):f2 zci f g ρ=.ok (.int (i*j)):=yN e1 e2 (lH ⟨h1,h2⟩)
theorem uU {f g:Rho->Rs D}{ρ:Rho}{i j:Int}(e1:f ρ=.ok (.int i))(e2:g ρ=.ok (.int j))(h:0<j):f2 zdq f g ρ=.ok (.int (i % j)):=yN e1 e2 (lH h)
theorem uy {f g:Rho->Rs D}{ρ:Rho}{i j:Int}(e1:f ρ=.ok (.int i))(e2:g ρ=.ok (.int j))(h:0<j)(h2:Sm j):f2 zb2 f g ρ=.ok (.int (i / j)):=yN e1 e2 (lH ⟨h,h2⟩)
theorem ug {i:Int}(h:-(2 ^ 100)<i/\i<2 ^ 100):Sm i:=by
 unfold Sm
 have h1:(2:Nat) ^ 100<=2 ^ 4000:=Nat.pow_le_pow_right (by decide) (by decide)
 have h2:i.natAbs<2 ^ 100:=by omega
 exact lz h2 h1
theorem zkh {fi:Rho->Rs (List D)}{ft:Rho->Rs Bool}{fe:Rho->Rs D}{caps:List Nat}{ρ:Rho}{ds es:List D}(e1:fi ρ=.ok ds)(hl:ds.length<=1000000)(e2:vm ft fe (v9 1 caps ρ) ds=.ok es):fCp fi ft fe caps ρ=.ok es:=by unfold fCp;rw[e1];show(if ds.length<=1000000 then vm ft fe (v9 1 caps ρ) ds else .no)=_;rw[lH hl,e2]
theorem vA {fi:Rho->Rs (List D)}{ft:Rho->Rs Bool}{fe:Rho->Rs D}{caps:List Nat}{ρ:Rho}{ds es:List D}(e1:fi ρ=.ok ds)(hl:ds.length<=1000000)(e2:vm ft fe (v9 1 caps ρ) ds=.ok es):yS fi ft fe caps ρ=.ok (.lst es):=by unfold yS;rw[zkh e1 hl e2];rfl
theorem zcL {i:Nat}{f:Rho->Rs (List D)}{ρ:Rho}{d:List D}(e:f ρ=.ok d):vB i f ρ=.nx (ρ.set i (.ow d)):=by unfold vB;rw[e]
theorem zgP {f:Rho->Rs (List D)}{ρ:Rho}{d:List D}(e:f ρ=.ok d):fLs f ρ=.ok (.lst d):=by unfold fLs;rw[e];rfl
theorem zmA {chk:D->Bool}{g:D->D->Option D}{fa fb:Rho->Rs D}{ρ:Rho}{a b d:D}(e1:fa ρ=.ok a)(hc:chk a=true)(e2:fb ρ=.ok b)(e3:g a b=some d):fM chk g fa fb ρ=.ok d:=by unfold fM;rw[e1];show(if chk a=true then _ else _)=_;rw[lH hc,e2];show lf (g a b)=_;rw[e3];rfl
theorem zll {i j:Nat}{f:Rho->Rs D}{ρ:Rho}{ds:List D}{k:Nat}{d:D}(e:owL ρ i=some ds)(e1:f ρ=.ok (.int (k:Int)))(hk:k<1000000)(e2:ds[k]? = some d):zdm i j f ρ=.nx ((ρ.set i (.ow (ds.eraseIdx k))).set j (.fz d)):=by
 unfold zdm
 have h:(0:Int)<=(k:Int)/\(k:Int)<1000000:=by omega
 simp only[e,e1,lH h,laK,e2]
theorem zmX {i:Nat}{f:Rho->Rs D}{ρ:Rho}{ds:List D}{d:D}(e:owL ρ i=some ds)(e1:f (ρ.set i (.fz (.lst ds)))=.ok d)(h:d.fl=true):fFl i f ρ=.ok d:=by unfold fFl;simp only[e,e1,lH h]
theorem zkO {i:Nat}{g:Rho->Out}{ρ:Rho}{ds:List D}(e:ρ[i]? = some (.ow ds)):zcA i g ρ=g (ρ.set i (.fz (.lst ds))):=by unfold zcA;rw[e]
theorem zm6 {g:List D->Option (List D)}{fs:Rho->Rs (List D)}{ρ:Rho}{ds es:List D}(e1:fs ρ=.ok ds)(e2:g ds=some es):fL g fs ρ=.ok es:=by unfold fL;rw[e1];show lf' (g ds)=_;rw[e2];rfl
theorem zN {fa:Rho->Rs D}{fs:Rho->Rs (List D)}{ρ:Rho}{a:D}{as:List D}(e1:fa ρ=.ok a)(e2:fs ρ=.ok as):zj fa fs ρ=.ok (a::as):=by unfold zj;rw[e1];show(fs ρ).bind _=_;rw[e2];rfl
theorem zef {α β:Type}(f:α->β):∀(l:List α) (k:Nat),(l.map f).eraseIdx k=(l.eraseIdx k).map f
 | [],_=>rfl
 | _::_,0=>rfl
 | a::l,k+1=>by show f a::(l.map f).eraseIdx k=_;rw[zef f l k];rfl
def sT (ls:List (List Nat)):List D:=ls.map .str
theorem zfL (a b:List (List Nat)):sT a++sT b=sT (a++b):=by unfold sT;rw[la4]
theorem zeH (ls:List (List Nat)):(sT ls).all isS=true:=by simp[sT,isS]
theorem zeS (ls:List (List Nat)):(sT ls).map unS=ls:=by
 unfold sT;rw[lY]
 exact(laC λx _=>rfl).trans (lcp ls)
theorem vL:∀ls:List (List Nat),D.pls (sT ls)=true
 | []=>rfl
 | l::ls=>by show((D.str l).pl&&D.pls (sT ls))=true;rw[vL ls];rfl
theorem xZ (ls:List (List Nat)):(sT ls).length=ls.length:=by simp[sT]
end L2
namespace Pg
open PySem L2 My
theorem zbd {α:Type}(l:List α)(m:Nat):zdo l none (some (m:Int))=l.take m:=by
 unfold zdo
 rw[HT.sIx_none,HT.sIx_nat,ldC,Nat.sub_zero,← List.take_take,lde]
theorem zfm {α:Type}(l:List α)(m:Nat):zdo l (some (m:Int)) none=l.drop m:=by
 unfold zdo
 rw[HT.sIx_none,HT.sIx_nat,lbc (by rw[lcB];exact lr _)]
 rcases lea m l.length with h|h
 ·rw[leh h]
 ·rw[ld3 h,laI (lr _),laI h]
theorem zhF (l m:List Nat):PyData.eqv (.str (T l)) (.str (T m))=decide (l=m):=by
 show(T l == T m)=_
 rw[zl8]
 by_cases h:l=m
 ·subst h;simp
 ·rw[lN h];simpa using h
theorem zhm (neg:Bool)(l m:List Nat):eqD neg (.str l) (.str m)=some (.bl (if neg then !decide (l=m) else decide (l=m))):=by
 unfold eqD
 rw[lH ⟨rfl,rfl,by show(PyData.str (T l)).depth<=60;simp[PyData.depth]⟩]
 show some (D.bl (if neg=true then !PyData.eqv (.str (T l)) (.str (T m)) else PyData.eqv (.str (T l)) (.str (T m))))=_
 rw[zhF]
theorem zfU {α:Type}(l:List α)(b:α->Bool):zlc [.lst (l.map λx=>D.bl (b x))]=some (.bl (l.all b)):=by
 show(if (l.map λx=>D.bl (b x)).all isB=true then some (D.bl ((l.map λx=>D.bl (b x)).all unB)) else none)=_
 have h:(l.map λx=>D.bl (b x)).all isB=true:=by rw[ldz];exact laL.mpr λ_ _=>rfl
 rw[lH h,ldz];rfl
theorem zkk {α:Type}(l:List α)(b:α->Bool):zl2 [.lst (l.map λx=>D.bl (b x))]=some (.bl (l.any b)):=by
 show(if (l.map λx=>D.bl (b x)).all isB=true then some (D.bl ((l.map λx=>D.bl (b x)).any unB)) else none)=_
 have h:(l.map λx=>D.bl (b x)).all isB=true:=by rw[ldz];exact laL.mpr λ_ _=>rfl
 rw[lH h,lee];rfl
theorem zfM (ps:List (List Nat)):zdo (sT ps) (some 1) none=sT ps.tail:=by
 have:=zfm (sT ps) 1
 rw[show((1:Nat):Int)=1 from rfl] at this
 rw[this,List.drop_one];exact(List.map_tail).symm
theorem zjX (ps qs:List (List Nat)):(sT ps).zip (sT qs)=(ps.zip qs).map λx=>(D.str x.1,D.str x.2):=by
 unfold sT;rw[List.zip_map];rfl
def isText (m:Nat)(l:List Nat):Bool:=l.all λc=>decide (c∈abcd.take m)
theorem zdF {m:Nat}(m4:m<=4){l:List Nat}(h:LetOk m l):isText m l=true:=by
 unfold isText
 rw[laL]
 exact λc hc=>lW (uz m4 (h c hc))
theorem jB (m:Nat)(l:List Nat)(hl:l.length<=1000000):yI [.int m,.str l]=.ok (.bl (isText m l)):=by
 have e:vm yU (f2 (inC false) (fNm 0) (fNm 1)) [.no,.fz (.str (abcd.take m))] (l.map λc=>.str [c])=.ok (l.map λc=>.bl (decide (c∈abcd.take m))):=yx _ λc hc=>rfl
 have e2:zdo [97,98,99,100] none (some (m:Int))=abcd.take m:=zbd abcd m
 simp only[yI,uE,yg,zT,yM,yh,fC,fNm,f1,f2,zG,zj,fO,tru,zbm,lf,Rs.bind,fI,sgD,fCp,yS,v9,xV,xQ,fSl,slD,zcQ,isStr,D.pl,D.py,lan,lao,laN,laO,lw,laT,lC,lV,List.replicate,lal,laH,laD,Nat.reduceSub,Nat.reduceAdd,Nat.reduceLeDiff,lbr,la8,lbD,lbx,lS,reduceIte,lba,laX,vL,e2,e,lh,lH hl,zfU,isText]
theorem zdI (ps:List (List Nat))(h:ps.length<=1000000):um [.tup (sT ps)]=.ok (.bl (rising ps)):=by
 have e2:qU yU (f2 ltS (fNm 0) (fNm 1)) [.no,.no] (sT ps) (sT ps.tail)=.ok ((ps.zip ps.tail).map λx=>.bl (decide (x.1<x.2))):=by
  rw[zem]
  rw[zjX,lY,lY]
  exact zis (enc:=D.str) (enb:=D.str) _ λx hx=>rfl
 simp only[um,qt,yg,yM,fC,fNm,f2,zG,zj,fO,lf,Rs.bind,fLs,fCz,v9,xV,xQ,fSl,slD,ltS,lan,lao,laN,laO,lw,laT,lC,lV,List.replicate,lal,laH,laD,Nat.reduceSub,Nat.reduceAdd,Nat.reduceLeDiff,lbr,la8,lbD,lbx,lS,reduceIte,lba,laX,vL,zfM,e2,xZ,lH h,zfU,rising]
theorem zdw (i:Int):jQ [.int i]=.ok (.bl true):=rfl
theorem uM (i lo hi:Int):yZ [.int i,.int lo,.int hi]=.ok (.bl (decide (lo<=i)&&decide (i<=hi))):=by
 simp only[yZ,uo,yg,yM,fNm,f1,zG,zj,fA,tru,zbm,zdp,lf,Rs.bind,ari,fCh,zcQ,isInt,isBool,leI,D.pl,D.py,lan,lao,laN,laO,lw,laT,lC,lV,List.replicate,lal,laH,laD,Nat.reduceSub,Nat.reduceAdd,Nat.reduceLeDiff,lbr,la8,lbD,lbx,lS,reduceIte,lba,laX,vL,zdw]
 by_cases h:lo<=i
 ·simp[h]
 ·simp[h]
theorem zaW (i:Int):z6 [.int i]=.ok (.bl (decide (2<=i)&&decide (i<=4))):=by
 simp only[z6,yt,yg,yM,fC,fNm,f1,zG,zj,fO,fA,tru,zbm,zdp,lf,Rs.bind,ari,fCh,zcQ,isInt,isBool,qM,leI,D.pl,D.py,lan,lao,laN,laO,lw,laT,lC,lV,List.replicate,lal,laH,laD,Nat.reduceSub,Nat.reduceAdd,Nat.reduceLeDiff,lbr,la8,lbD,lbx,lS,reduceIte,lba,laX,vL,uM]
 rfl
theorem ze0 (ps:List (List Nat))(x:List Nat)(h:ps.length<=1000000):yd [.tup (sT ps),.str x]=.ok (.bl (isInner ps x)):=by
 have e:vm yU (zbm (fM isS yX (fNm 0) (fNm 1)) (f2 (eqD true) (fNm 0) (fNm 1))) [.no,.fz (.str x)] (sT ps)=.ok (ps.map λp=>.bl (x.isPrefixOf p && !decide (p=x))):=yx _ λp hp=>by
  simp only[yg,zT,yM,vq,yh,sIf,kj,zcA,qR,sRs,uL,qW,sWh,zcp,zdm,uf,vB,qJ,zaB,fSD,owL,odL,sNx,fC,fNm,f1,f2,zG,zj,fO,fA,fIf,tru,bT,zaL,zgD,bOr,zbm,fOr,zdp,lf,lf',Rs.bind,isN,mkT,mkL,ari,fI,lsD,tpD,sgD,fR,fCp,yS,fLs,fL,fL1,fL2,szL,fCz,v9,xV,xQ,fSl,slD,fM,fCh,zcQ,isInt,isBool,isStr,isTup,qM,ltI,leI,gtI,geI,ltS,qX,zca,D.pl,D.py,isS,lan,lao,laN,laO,lw,laT,lC,lV,List.replicate,lal,laH,laD,Nat.reduceSub,Nat.reduceAdd,Nat.reduceLeDiff,lbr,la8,lbD,lbx,lS,reduceIte,lba,laX,vL,yX,zhm]
  cases x.isPrefixOf p <;>simp
 simp only[yd,jx,yg,zT,yM,vq,yh,sIf,kj,zcA,qR,sRs,uL,qW,sWh,zcp,zdm,uf,vB,qJ,zaB,fSD,owL,odL,sNx,fC,fNm,f1,f2,zG,zj,fO,fA,fIf,tru,bT,zaL,zgD,bOr,zbm,fOr,zdp,lf,lf',Rs.bind,isN,mkT,mkL,ari,fI,lsD,tpD,sgD,fR,fCp,yS,fLs,fL,fL1,fL2,szL,fCz,v9,xV,xQ,fSl,slD,fM,fCh,zcQ,isInt,isBool,isStr,isTup,qM,ltI,leI,gtI,geI,ltS,qX,zca,D.pl,D.py,isS,lan,lao,laN,laO,lw,laT,lC,lV,List.replicate,lal,laH,laD,Nat.reduceSub,Nat.reduceAdd,Nat.reduceLeDiff,lbr,la8,lbD,lbx,lS,reduceIte,lba,laX,vL,e,xZ,lH h,zkk]
 rfl
theorem ze1 (ps:List (List Nat))(x:List Nat)(h:ps.length<=1000000):z9 [.tup (sT ps),.str x]=.ok (.bl (wL ps x)):=by
 have e:vm yU (fOr (fM isS yX (fNm 0) (fNm 1)) (fM isS yX (fNm 1) (fNm 0))) [.no,.fz (.str x)] (sT ps)=.ok (ps.map λp=>.bl (x.isPrefixOf p || p.isPrefixOf x)):=yx _ λp hp=>by
  simp only[yg,zT,yM,vq,yh,sIf,kj,zcA,qR,sRs,uL,qW,sWh,zcp,zdm,uf,vB,qJ,zaB,fSD,owL,odL,sNx,fC,fNm,f1,f2,zG,zj,fO,fA,fIf,tru,bT,zaL,zgD,bOr,zbm,fOr,zdp,lf,lf',Rs.bind,isN,mkT,mkL,ari,fI,lsD,tpD,sgD,fR,fCp,yS,fLs,fL,fL1,fL2,szL,fCz,v9,xV,xQ,fSl,slD,fM,fCh,zcQ,isInt,isBool,isStr,isTup,qM,ltI,leI,gtI,geI,ltS,qX,zca,D.pl,D.py,isS,lan,lao,laN,laO,lw,laT,lC,lV,List.replicate,lal,laH,laD,Nat.reduceSub,Nat.reduceAdd,Nat.reduceLeDiff,lbr,la8,lbD,lbx,lS,reduceIte,lba,laX,vL,yX]
  cases x.isPrefixOf p <;>simp
 simp only[z9,jt,yg,zT,yM,vq,yh,sIf,kj,zcA,qR,sRs,uL,qW,sWh,zcp,zdm,uf,vB,qJ,zaB,fSD,owL,odL,sNx,fC,fNm,f1,f2,zG,zj,fO,fA,fIf,tru,bT,zaL,zgD,bOr,zbm,fOr,zdp,lf,lf',Rs.bind,isN,mkT,mkL,ari,fI,lsD,tpD,sgD,fR,fCp,yS,fLs,fL,fL1,fL2,szL,fCz,v9,xV,xQ,fSl,slD,fM,fCh,zcQ,isInt,isBool,isStr,isTup,qM,ltI,leI,gtI,geI,ltS,qX,zca,D.pl,D.py,isS,lan,lao,laN,laO,lw,laT,lC,lV,List.replicate,lal,laH,laD,Nat.reduceSub,Nat.reduceAdd,Nat.reduceLeDiff,lbr,la8,lbD,lbx,lS,reduceIte,lba,laX,vL,e,xZ,lH h,zkk]
 rfl
theorem zac (ps:List (List Nat)):yH [.tup (sT ps)]=.ok (match wY ps with|some x=>.tup [.str x.1,.str x.2] | none=>.non):=by
 have key:=zgQ (i:=1) (j:=2) (g:=sIf (bT (fM isS yX (fNm 2) (fNm 1))) (yM (fO mkT (zj (fNm 1) (zj (fNm 2) zG)))) sNx) (ρ:=[.fz (.tup (sT ps)),.no,.no]) (l:=ps.zip ps.tail) (enc:=D.str) (enb:=D.str)
  (λρ=>∃a b,ρ=[.fz (.tup (sT ps)),a,b]) (λx=>x.1.isPrefixOf x.2) (λx=>.tup [.str x.1,.str x.2]) ⟨_,_,rfl⟩ (λx hx ρ ⟨a,b,e⟩=>by
   subst e
   cases hp:x.1.isPrefixOf x.2 with
   | true=>simp only[yg,zT,yM,sIf,qR,qW,sNx,fC,fNm,zG,zj,fO,tru,bT,lf,Rs.bind,mkT,xV,xQ,fSl,slD,fM,isS,lan,lao,laN,laO,lw,laT,lC,lV,List.replicate,lal,laH,laD,Nat.reduceSub,Nat.reduceAdd,Nat.reduceLeDiff,lbr,la8,lbD,lbx,lS,reduceIte,lba,laX,vL,yX,hp]
   | false=>simp only[yg,zT,yM,sIf,qR,qW,sNx,fC,fNm,zG,zj,fO,tru,bT,lf,Rs.bind,mkT,xV,xQ,fSl,slD,fM,isS,lan,lao,laN,laO,lw,laT,lC,lV,List.replicate,lal,laH,laD,Nat.reduceSub,Nat.reduceAdd,Nat.reduceLeDiff,lbr,la8,lbD,lbx,lS,reduceIte,lba,laX,vL,yX,hp];exact⟨_,rfl,_,_,rfl⟩)
 have e4:forZ 1 2 (sIf (bT (fM isS yX (fNm 2) (fNm 1))) (yM (fO mkT (zj (fNm 1) (zj (fNm 2) zG)))) sNx) (sT ps) (sT ps.tail) [.fz (.tup (sT ps)),.no,.no]=forZ 1 2 (sIf (bT (fM isS yX (fNm 2) (fNm 1))) (yM (fO mkT (zj (fNm 1) (zj (fNm 2) zG)))) sNx) ((ps.zip ps.tail).map λx=>D.str x.1) ((ps.zip ps.tail).map λx=>D.str x.2) [.fz (.tup (sT ps)),.no,.no]:=by
  rw[zfT,zjX,lY,lY];rfl
 have e5:qW 1 2 (fNm 0) (fSl (fNm 0) (xQ (fC (.int 1))) xV) (sIf (bT (fM isS yX (fNm 2) (fNm 1))) (yM (fO mkT (zj (fNm 1) (zj (fNm 2) zG)))) sNx) [.fz (.tup (sT ps)),.no,.no]=forZ 1 2 (sIf (bT (fM isS yX (fNm 2) (fNm 1))) (yM (fO mkT (zj (fNm 1) (zj (fNm 2) zG)))) sNx) ((ps.zip ps.tail).map λx=>D.str x.1) ((ps.zip ps.tail).map λx=>D.str x.2) [.fz (.tup (sT ps)),.no,.no]:=by
  rw[← e4]
  unfold qW
  have e6:fSl (fNm 0) (xQ (fC (.int 1))) xV [.fz (.tup (sT ps)),.no,.no]=.ok (.tup (sT ps.tail)):=by rw[← zfM];rfl
  rw[e6];rfl
 unfold wY
 cases hf:(ps.zip ps.tail).find? λx=>x.1.isPrefixOf x.2 with
 | some x =>
  rw[hf] at key
  have e7:yV [.fz (.tup (sT ps)),.no,.no]=.rt (.tup [.str x.1,.str x.2]):=by
   unfold yV zT qR
   rw[e5,key]
  exact zQ e7
 | none =>
  rw[hf] at key
  obtain⟨ρ',k1,a,b,rfl⟩:=key
  have e7:yV [.fz (.tup (sT ps)),.no,.no]=.rt .non:=by
   unfold yV zT qR
   rw[e5,k1];rfl
  exact zQ e7
def Pcs (m:Nat)(ps:List (List Nat)):Prop:=2<=m/\m<=4/\ps≠[]/\ps.length<=32/\∀p∈ps,LetOk m p/\p≠[]/\p.length<=31
theorem ze2 {m:Nat}{ps:List (List Nat)}(h:∀p∈ps,p.length<=1000000):vm yU (zbm (fA (ari 2 yI) (zj (fNm 1) (zj (fNm 0) zG))) (f2 (eqD true) (fNm 0) (fC (.str [])))) [.no,.fz (.int m)] (sT ps)=.ok (ps.map λp=>.bl (isText m p && !decide (p=[]))):=yx _ λp hp=>by
  simp only[yg,zT,yM,yh,fC,fNm,f1,f2,zG,zj,fO,fA,tru,zbm,lf,Rs.bind,ari,fI,sgD,fCp,yS,v9,xV,xQ,fSl,slD,zcQ,isStr,D.pl,D.py,lan,lao,laN,laO,lw,laT,lC,lV,List.replicate,lal,laH,laD,Nat.reduceSub,Nat.reduceAdd,Nat.reduceLeDiff,lbr,la8,lbD,lbx,lS,reduceIte,lba,laX,vL,jB m p (h p hp),zhm]
  cases isText m p <;>simp
theorem zc3 {m:Nat}{ps:List (List Nat)}(h:Pcs m ps):wB [.int m,.tup (sT ps)]=.ok (.bl (rising ps)):=by
 obtain⟨m2,m4,hne,hl,hp⟩:=h
 have h1:∀p∈ps,p.length<=1000000:=λp q=>by have:=(hp p q).2.2;omega
 have e1:(ps.all λp=>isText m p && !decide (p=[]))=true:=laL.mpr λp q=>by
  obtain⟨a,b,_⟩:=hp p q
  rw[zdF m4 a,lN b];rfl
 have hpos:1<=ps.length:=lbF.mpr hne
 have d1:decide ((2:Int)<=(m:Int))=true:=lW (by omega)
 have d2:decide ((m:Int)<=4)=true:=lW (by omega)
 have d3:decide ((1:Int)<=(ps.length:Int))=true:=lW (by omega)
 have d4:decide ((ps.length:Int)<=32)=true:=lW (by omega)
 have hz:ps.length<=1000000:=by omega
 simp only[wB,uw,yg,zT,yM,yh,sIf,sNx,fC,fNm,f1,f2,zG,zj,fO,fA,tru,bT,zaL,bOr,zbm,zdp,lf,Rs.bind,ari,fI,tpD,sgD,fCp,yS,fLs,fCz,v9,xV,xQ,fSl,slD,fCh,zcQ,isInt,isBool,isStr,isTup,qM,leI,ltS,D.pl,D.py,lan,lao,laN,laO,lw,laT,lC,lV,List.replicate,lal,laH,laD,Nat.reduceSub,Nat.reduceAdd,Nat.reduceLeDiff,lbr,la8,lbD,lbx,lS,reduceIte,lba,laX,vL,zaW,d1,d2,Bool.and_self,xZ,d3,d4,lH hz,ze2 h1,zfU,e1,zdI ps hz]
theorem sIter {m:Nat}{ρ:Rho}(h:ρ[0]? = some (.fz (.int (m:Int)))):fI sgD (fSl (fC (.str [97,98,99,100])) xV (xQ (fNm 0))) ρ=.ok ((abcd.take m).map λc=>.str [c]):=by
 have e2:zdo [97,98,99,100] none (some (m:Int))=abcd.take m:=zbd abcd m
 simp only[fI,fSl,fC,xV,xQ,fNm,h,Rs.bind,slD,lf,e2,sgD]
theorem u5 {m:Nat}(xs:List (List Nat))(hl:∀x∈xs,x.length<=999999)(hn:4*xs.length<=999999):yc [.int m,.lst (sT xs)]=.ok (.lst (sT (zK m xs))):=by
 have hab:(abcd.take m).length<=4:=by rw[lae];exact ldX _ _
 have inner:∀(x:List Nat) (acc:List (List Nat)) (s:Sl),x.length<=999999->acc.length+4<=999999->∃s',uL 4 (fI sgD (fSl (fC (.str [97,98,99,100])) xV (xQ (fNm 0)))) (zcp 2 (f2 zir (fNm 3) (fNm 4))) [.fz (.int m),.fz (.lst (sT xs)),.ow (sT acc),.fz (.str x),s]=.nx [.fz (.int m),.fz (.lst (sT xs)),.ow (sT (acc++(abcd.take m).map λc=>x++[c])),.fz (.str x),s']:=by
  intro x acc s hx ha
  rw[yO (sIter rfl)]
  obtain ⟨ρ',e,s',rfl⟩:=wN (i:=4) (g:=zcp 2 (f2 zir (fNm 3) (fNm 4))) (l:=abcd.take m) (enc:=λc=>D.str [c]) (ρ:=[.fz (.int m),.fz (.lst (sT xs)),.ow (sT acc),.fz (.str x),s])
   (λk ρ=>∃s',ρ=[.fz (.int m),.fz (.lst (sT xs)),.ow (sT (acc++((abcd.take m).take k).map λc=>x++[c])),.fz (.str x),s']) ⟨s,by simp⟩ (λk c ρ hc ⟨s',e⟩=>by
    subst e
    have hk:k<(abcd.take m).length:=(lv.mp hc).1
    have e3:(abcd.take m).take (k+1)=(abcd.take m).take k++[c]:=by rw[lbE,hc];rfl
    have hlen:(sT (acc++((abcd.take m).take k).map λc=>x++[c])).length<1000000:=by
     rw[xZ,lG,lh,lae];omega
    have hz:x.length+1<=1000000:=by omega
    refine⟨_,zkX rfl (yN (a:=.str x) (b:=.str [c]) rfl rfl (zhb hz)) hlen,.fz (.str [c]),?_⟩
    have e5:sT (acc++((abcd.take m).take (k+1)).map λc=>x++[c])=sT (acc++((abcd.take m).take k).map λc=>x++[c])++[D.str (x++[c])]:=by
     rw[e3,la4,← lbu,← zfL (acc++_)];rfl
    rw[e5];rfl)
  refine⟨s',e.trans ?_⟩
  rw[lbc (lr _)]
 have outer:=wN (i:=3) (g:=uL 4 (fI sgD (fSl (fC (.str [97,98,99,100])) xV (xQ (fNm 0)))) (zcp 2 (f2 zir (fNm 3) (fNm 4)))) (l:=xs) (enc:=D.str) (ρ:=[.fz (.int m),.fz (.lst (sT xs)),.ow [],.no,.no])
  (λk ρ=>∃s s',ρ=[.fz (.int m),.fz (.lst (sT xs)),.ow (sT (zK m (xs.take k))),s,s']) ⟨.no,.no,rfl⟩ (λk x ρ hx ⟨s,s',e⟩=>by
   subst e
   have hk:k<xs.length:=(lv.mp hx).1
   have e3:xs.take (k+1)=xs.take k++[x]:=by rw[lbE,hx];rfl
   have hg:(zK m (xs.take k)).length<=4*k:=by
    have:(zK m (xs.take k)).length<=4*(xs.take k).length:=by
     unfold zK
     generalize xs.take k=ys
     induction ys with
     | nil=>simp
     | cons y ys ih=>simp only[lb8,lG,lh,lC];omega
    rw[lae] at this;omega
   obtain⟨s2,e4⟩:=inner x (zK m (xs.take k)) s' (hl x (laU hx)) (by omega)
   refine⟨_,e4,.fz (.str x),s2,?_⟩
   rw[e3]
   unfold zK
   rw[List.flatMap_append]
   simp)
 obtain⟨ρ',e,s,s',rfl⟩:=outer
 rw[lbc (lr _)] at e
 refine zQ ?_
 show kY [.fz (.int m),.fz (.lst (sT xs)),.no,.no,.no]=_
 unfold kY
 refine(zA (g:=vB 2 (fL szL zG)) (ρ':=[.fz (.int m),.fz (.lst (sT xs)),.ow [],.no,.no]) rfl).trans ?_
 refine(zA (xG ((yO (ds:=sT xs) rfl).trans e))).trans ?_
 rfl
theorem zhK {m:Nat}{ps:List (List Nat)}(hl:ps.length<=1000000)(xs:List (List Nat))(hx:∀x∈xs,x.length<=999)(hn:xs.length<=99999)(s3 s4:Sl) :
  match (zK m xs).find? (wL ps) with
  | some x=>zT (yh 3 (fA (ari 2 yc) (zj (fNm 0) (zj (fNm 2) zG)))) (zT (uL 4 (fI lsD (fNm 3)) (sIf (bT (fA (ari 2 z9) (zj (fNm 1) (zj (fNm 4) zG)))) (yM (fNm 4)) sNx)) (uf 2 (fCp (fI lsD (fNm 3)) (bT (fA (ari 2 yd) (zj (fNm 1) (zj (fNm 0) zG)))) (fNm 0) [1]))) [.fz (.int m),.fz (.tup (sT ps)),.fz (.lst (sT xs)),s3,s4]=.rt (.str x)
  | none=>∃s3' s4',zT (yh 3 (fA (ari 2 yc) (zj (fNm 0) (zj (fNm 2) zG)))) (zT (uL 4 (fI lsD (fNm 3)) (sIf (bT (fA (ari 2 z9) (zj (fNm 1) (zj (fNm 4) zG)))) (yM (fNm 4)) sNx)) (uf 2 (fCp (fI lsD (fNm 3)) (bT (fA (ari 2 yd) (zj (fNm 1) (zj (fNm 0) zG)))) (fNm 0) [1]))) [.fz (.int m),.fz (.tup (sT ps)),.fz (.lst (sT xs)),s3,s4]=.nx [.fz (.int m),.fz (.tup (sT ps)),.fz (.lst (sT ((zK m xs).filter (isInner ps)))),s3',s4']:=by
 have eg:=u5 (m:=m) xs (λx q=>by have:=hx x q;omega) (by omega)
 have e1:(yh 3 (fA (ari 2 yc) (zj (fNm 0) (zj (fNm 2) zG)))) [.fz (.int m),.fz (.tup (sT ps)),.fz (.lst (sT xs)),s3,s4]=.nx [.fz (.int m),.fz (.tup (sT ps)),.fz (.lst (sT xs)),.fz (.lst (sT (zK m xs))),s4]:=by
  refine zH (d:=.lst (sT (zK m xs))) ?_
  exact eg
 have hgl:(zK m xs).length<=1000000:=by
  have hab:(abcd.take m).length<=4:=by rw[lae];exact ldX _ _
  have:(zK m xs).length<=4*xs.length:=by
   unfold zK
   clear hn hx eg e1
   induction xs with
   | nil=>simp
   | cons y ys ih=>simp only[lb8,lG,lh,lC];omega
  omega
 have key:=zg5 (i:=4) (g:=sIf (bT (fA (ari 2 z9) (zj (fNm 1) (zj (fNm 4) zG)))) (yM (fNm 4)) sNx) (ρ:=[.fz (.int m),.fz (.tup (sT ps)),.fz (.lst (sT xs)),.fz (.lst (sT (zK m xs))),s4]) (l:=zK m xs) (enc:=D.str)
  (λρ=>∃a,ρ=[.fz (.int m),.fz (.tup (sT ps)),.fz (.lst (sT xs)),.fz (.lst (sT (zK m xs))),a]) (wL ps) (λx=>.str x) ⟨_,rfl⟩ (λx hx ρ ⟨a,e⟩=>by
   subst e
   have ea:(bT (fA (ari 2 z9) (zj (fNm 1) (zj (fNm 4) zG)))) [.fz (.int m),.fz (.tup (sT ps)),.fz (.lst (sT xs)),.fz (.lst (sT (zK m xs))),.fz (.str x)]=.ok (wL ps x):=by
    show(z9 [.tup (sT ps),.str x]).bind tru=_
    rw[ze1 ps x hl];rfl
   cases hp:wL ps x with
   | true=>rw[lH rfl];rw[hp] at ea;exact(zhD ea).trans rfl
   | false=>rw[lap lD];rw[hp] at ea;exact⟨_,(zaH ea).trans rfl,_,rfl⟩)
 cases hf:(zK m xs).find? (wL ps) with
 | some x =>
  rw[hf] at key
  refine(zA e1).trans (zcF ((yO (ds:=sT (zK m xs)) rfl).trans key))
 | none =>
  rw[hf] at key
  obtain⟨ρ',k1,a,rfl⟩:=key
  have ec:vm (bT (fA (ari 2 yd) (zj (fNm 1) (zj (fNm 0) zG)))) (fNm 0) [.no,.fz (.tup (sT ps))] (sT (zK m xs))=.ok (((zK m xs).filter (isInner ps)).map .str):=zf0 _ _ λx hx=>⟨by
   show(yd [.tup (sT ps),.str x]).bind tru=_
   rw[ze0 ps x hl];rfl,λ_=>rfl⟩
  refine⟨.fz (.lst (sT (zK m xs))),a,(zA e1).trans ((zA ((yO (ds:=sT (zK m xs)) rfl).trans k1)).trans ?_)⟩
  have e5:fCp (fI lsD (fNm 3)) (bT (fA (ari 2 yd) (zj (fNm 1) (zj (fNm 0) zG)))) (fNm 0) [1] [.fz (.int m),.fz (.tup (sT ps)),.fz (.lst (sT xs)),.fz (.lst (sT (zK m xs))),a]=.ok (sT ((zK m xs).filter (isInner ps))):=by
   show(if (sT (zK m xs)).length<=1000000 then vm _ _ [.no,.fz (.tup (sT ps))] (sT (zK m xs)) else .no)=_
   rw[xZ,lH hgl]
   exact ec
  unfold uf
  rw[e5];rfl
theorem zdK:∀(xs ys:List (List Nat)),PyData.eqvAll (D.pys (sT xs)) (D.pys (sT ys))=decide (xs=ys)
 | [],[]=>rfl
 | [],_::_=>rfl
 | _::_,[]=>rfl
 | x::xs,y::ys=>by
  show(PyData.eqv (.str (T x)) (.str (T y))&&PyData.eqvAll (D.pys (sT xs)) (D.pys (sT ys)))=_
  rw[zdK xs ys,zhF]
  by_cases h:x=y <;>by_cases h2:xs=ys <;>simp[h,h2]
theorem zjN:∀xs:List (List Nat),PyData.depthAll (D.pys (sT xs))=0
 | []=>rfl
 | x::xs=>by
  show max (PyData.depth (.str (T x))) (PyData.depthAll (D.pys (sT xs)))=0
  rw[zjN xs];rfl
theorem zet (neg:Bool)(xs ys:List (List Nat)):eqD neg (.lst (sT xs)) (.lst (sT ys))=some (.bl (if neg then !decide (xs=ys) else decide (xs=ys))):=by
 have h:(D.lst (sT xs)).pl=true/\(D.lst (sT ys)).pl=true/\(D.lst (sT xs)).py.depth<=60:=⟨vL xs,vL ys,by show PyData.depthAll (D.pys (sT xs))+1<=60;rw[zjN];omega⟩
 unfold eqD
 rw[lH h]
 show some (D.bl (if neg=true then !PyData.eqvAll (D.pys (sT xs)) (D.pys (sT ys)) else PyData.eqvAll (D.pys (sT xs)) (D.pys (sT ys))))=_
 rw[zdK]
theorem zhP (m:Nat){xs:List (List Nat)}(h:xs.Nodup):(zK m xs).Nodup:=by
 induction xs with
 | nil=>exact lcA
 | cons x xs ih =>
  obtain⟨h1,h2⟩:=lbQ.mp h
  show((kids m x)++zK m xs).Nodup
  refine lbN.mpr ⟨zeL m x,ih h2,λy hy z hz e=>?_⟩
  subst e
  obtain⟨c,hc,e⟩:=kids_mem.mp hy
  obtain⟨w,hw,d,hd,e2⟩:=uX hz
  have:=lbj List.dropLast (e.symm.trans e2)
  rw[lcx,lcx] at this
  exact h1 (this▸hw)
theorem ziT {m:Nat}(m4:m<=4){ps:List (List Nat)}(hl:ps.length<=10000)(h8:∀p∈ps,p.length<=31):∀(k L n:Nat) (xs:List (List Nat)) (s3 s4:Sl),L+k=32->(∀x∈xs,x.length=L/\(L=0∨isInner ps x=true))->xs.Nodup->k<n ->
  match fta m ps k xs with
  | some x=>whD (bT (f2 (eqD true) (fNm 2) (fO mkL zG))) (zT (yh 3 (fA (ari 2 yc) (zj (fNm 0) (zj (fNm 2) zG)))) (zT (uL 4 (fI lsD (fNm 3)) (sIf (bT (fA (ari 2 z9) (zj (fNm 1) (zj (fNm 4) zG)))) (yM (fNm 4)) sNx)) (uf 2 (fCp (fI lsD (fNm 3)) (bT (fA (ari 2 yd) (zj (fNm 1) (zj (fNm 0) zG)))) (fNm 0) [1])))) n [.fz (.int m),.fz (.tup (sT ps)),.fz (.lst (sT xs)),s3,s4]=.rt (.str x)
  | none=>∃ρ',whD (bT (f2 (eqD true) (fNm 2) (fO mkL zG))) (zT (yh 3 (fA (ari 2 yc) (zj (fNm 0) (zj (fNm 2) zG)))) (zT (uL 4 (fI lsD (fNm 3)) (sIf (bT (fA (ari 2 z9) (zj (fNm 1) (zj (fNm 4) zG)))) (yM (fNm 4)) sNx)) (uf 2 (fCp (fI lsD (fNm 3)) (bT (fA (ari 2 yd) (zj (fNm 1) (zj (fNm 0) zG)))) (fNm 0) [1])))) n [.fz (.int m),.fz (.tup (sT ps)),.fz (.lst (sT xs)),s3,s4]=.nx ρ':=by
 intro k
 induction k with
 | zero =>
  intro L n xs s3 s4 hL hx hn hk
  have:xs=[]:=by
   cases xs with
   | nil=>rfl
   | cons x xs =>
    obtain⟨e1,e2⟩:=hx x (.head _)
    rcases e2 with e2|e2
    ·omega
    ·have:=zdv e2 h8;omega
  subst this
  obtain⟨n',rfl⟩:∃n',n=n'+1:=⟨n - 1,by omega⟩
  refine⟨[.fz (.int m),.fz (.tup (sT ps)),.fz (.lst (sT [])),s3,s4],?_⟩
  unfold whD
  have e0:(bT (f2 (eqD true) (fNm 2) (fO mkL zG))) [.fz (.int m),.fz (.tup (sT ps)),.fz (.lst (sT [])),s3,s4]=.ok false:=by
   show(lf (eqD true (.lst (sT [])) (.lst (sT [])))).bind tru=_
   rw[zet];rfl
  rw[e0]
 | succ k ih =>
  intro L n xs s3 s4 hL hx hn hk
  obtain⟨n',rfl⟩:∃n',n=n'+1:=⟨n - 1,by omega⟩
  have et:(bT (f2 (eqD true) (fNm 2) (fO mkL zG))) [.fz (.int m),.fz (.tup (sT ps)),.fz (.lst (sT xs)),s3,s4]=.ok (!decide (xs=[])):=by
   show(lf (eqD true (.lst (sT xs)) (.lst (sT [])))).bind tru=_
   rw[zet];rfl
  by_cases h0:xs=[]
  ·have ef:fta m ps (k+1) xs=none:=by unfold fta;rw[lH h0]
   rw[ef]
   refine⟨[.fz (.int m),.fz (.tup (sT ps)),.fz (.lst (sT xs)),s3,s4],?_⟩
   unfold whD
   rw[et,lW h0]
   rfl
  ·have ef:fta m ps (k+1) xs=match (zK m xs).find? (wL ps) with|some x=>some x|none=>fta m ps k ((zK m xs).filter (isInner ps)):=by
    rw[fta.eq_2,lap h0]
    all_goals (cases (zK m xs).find? (wL ps) <;>rfl)
   rw[lN h0] at et
   have hLs:L<=30:=by
    cases xs with
    | nil=>exact absurd rfl h0
    | cons x xs =>
     obtain⟨e1,e2⟩:=hx x (.head _)
     rcases e2 with e2|e2
     ·omega
     ·have:=zdv e2 h8;omega
   have hcnt:xs.length<=ps.length+1:=by
    rcases Nat.eq_zero_or_pos L with z|z
    ·have:xs.length<=([[]]:List (List Nat)).length:=hn.length_le_of_subset λx hxx=>by
      rw[la2.mp ((hx x hxx).1.trans z)];exact .head _
     simp at this;omega
    ·have:xs.length<=(ps.map λp=>p.take L).length:=hn.length_le_of_subset λx hxx=>by
      obtain⟨e1,e2⟩:=hx x hxx
      rcases e2 with e2|e2
      ·omega
      ·obtain⟨p,hp,q1,_⟩:=inner_iff.mp e2
       refine lah.mpr ⟨p,hp,?_⟩
       rw[← e1];exact(lcb.mp q1).symm
     rw[lh] at this;omega
   have R:=zhK (m:=m) (ps:=ps) (by omega) xs (λx q=>by have:=(hx x q).1;omega) (by omega) s3 s4
   rw[ef]
   cases hf:(zK m xs).find? (wL ps) with
   | some x =>
    rw[hf] at R
    show whD _ _ (n'+1) _=_
    unfold whD
    rw[et]
    simp only[la8]
    rw[R]
   | none =>
    rw[hf] at R
    obtain⟨s3',s4',R⟩:=R
    have hx':∀x∈(zK m xs).filter (isInner ps),x.length=L+1/\(L+1=0∨isInner ps x=true):=λx q=>by
     obtain⟨q1,q2⟩:=lbG.mp q
     obtain⟨y,hy,c,hc,rfl⟩:=uX q1
     exact⟨by rw[lG,(hx y hy).1];rfl,.inr q2⟩
    have hn':((zK m xs).filter (isInner ps)).Nodup:=(zhP m hn).filter _
    have:=ih (L+1) n' _ s3' s4' (by omega) hx' hn' (by omega)
    have es:whD (bT (f2 (eqD true) (fNm 2) (fO mkL zG))) (zT (yh 3 (fA (ari 2 yc) (zj (fNm 0) (zj (fNm 2) zG)))) (zT (uL 4 (fI lsD (fNm 3)) (sIf (bT (fA (ari 2 z9) (zj (fNm 1) (zj (fNm 4) zG)))) (yM (fNm 4)) sNx)) (uf 2 (fCp (fI lsD (fNm 3)) (bT (fA (ari 2 yd) (zj (fNm 1) (zj (fNm 0) zG)))) (fNm 0) [1])))) (n'+1) [.fz (.int m),.fz (.tup (sT ps)),.fz (.lst (sT xs)),s3,s4]=whD (bT (f2 (eqD true) (fNm 2) (fO mkL zG))) (zT (yh 3 (fA (ari 2 yc) (zj (fNm 0) (zj (fNm 2) zG)))) (zT (uL 4 (fI lsD (fNm 3)) (sIf (bT (fA (ari 2 z9) (zj (fNm 1) (zj (fNm 4) zG)))) (yM (fNm 4)) sNx)) (uf 2 (fCp (fI lsD (fNm 3)) (bT (fA (ari 2 yd) (zj (fNm 1) (zj (fNm 0) zG)))) (fNm 0) [1])))) n' [.fz (.int m),.fz (.tup (sT ps)),.fz (.lst (sT ((zK m xs).filter (isInner ps)))),s3',s4']:=by
     rw[whD.eq_2,et]
     simp only[la8]
     rw[R]
    simp only[es]
    exact this
theorem zc4 {m:Nat}(m4:m<=4){ps:List (List Nat)}(hl:ps.length<=10000)(h8:∀p∈ps,p.length<=31):yK [.int m,.tup (sT ps)]=.ok (match vR m ps with|some x=>.str x|none=>.non):=by
 have:=ziT m4 hl h8 32 0 2000 [[]] .no .no rfl (λx hx=>by rw[lK.mp hx];exact⟨rfl,.inl rfl⟩) (by decide) (by decide)
 unfold vR
 cases hf:fta m ps 32 [[]] with
 | some x =>
  rw[hf] at this
  refine zQ ?_
  exact(zA (ρ':=[.fz (.int m),.fz (.tup (sT ps)),.fz (.lst (sT [[]])),.no,.no]) rfl).trans (zcF (zkB this))
 | none =>
  rw[hf] at this
  obtain⟨ρ',e⟩:=this
  refine zQ ?_
  exact(zA (ρ':=[.fz (.int m),.fz (.tup (sT ps)),.fz (.lst (sT [[]])),.no,.no]) rfl).trans ((zA (xG e)).trans rfl)
def zl6 (m:Nat)(ps:List (List Nat)):D:=match wY ps with
 | some x=>.tup [.str x.1,.str x.2]
 | none=>(match vR m ps with|some x=>.str x|none=>.non)
theorem zb7 {m:Nat}(m4:m<=4){ps:List (List Nat)}(hl:ps.length<=10000)(h8:∀p∈ps,p.length<=31):wW [.int m,.tup (sT ps)]=.ok (zl6 m ps):=by
 refine zQ ?_
 show wu [.fz (.int m),.fz (.tup (sT ps)),.no]=_
 unfold wu zl6
 cases hf:wY ps with
 | some x =>
  have e1:yh 2 (fA (ari 1 yH) (zj (fNm 1) zG)) [.fz (.int m),.fz (.tup (sT ps)),.no]=.nx [.fz (.int m),.fz (.tup (sT ps)),.fz (.tup [.str x.1,.str x.2])]:=zH (d:=.tup [.str x.1,.str x.2]) (by
   show yH [.tup (sT ps)]=_
   rw[zac,hf])
  exact(zA e1).trans (zcF rfl)
 | none =>
  have e1:yh 2 (fA (ari 1 yH) (zj (fNm 1) zG)) [.fz (.int m),.fz (.tup (sT ps)),.no]=.nx [.fz (.int m),.fz (.tup (sT ps)),.fz .non]:=zH (d:=.non) (by
   show yH [.tup (sT ps)]=_
   rw[zac,hf])
  refine(zA e1).trans ((zA (ρ':=[.fz (.int m),.fz (.tup (sT ps)),.fz .non]) rfl).trans (yq ?_))
  show yK [.int m,.tup (sT ps)]=_
  rw[zc4 m4 hl h8]
theorem zjr {m:Nat}{ps:List (List Nat)}:isN false (zl6 m ps)=some (.bl ((wY ps).isNone&&(vR m ps).isNone)):=by
 unfold zl6
 cases wY ps with
 | some x=>rfl
 | none=>cases vR m ps <;>rfl
theorem zgn {m:Nat}{ps:List (List Nat)}(h:Pcs m ps):jy [.int m,.tup (sT ps)]=.ok (.bl (isBook m ps)):=by
 have h8:∀p∈ps,p.length<=31:=λp q=>(h.2.2.2.2 p q).2.2
 have hl:ps.length<=10000:=by have:=h.2.2.2.1;omega
 refine zQ (yq ?_)
 show(wB [.int m,.tup (sT ps)]).bind (λa=>(tru a).bind λb=>if b=true then(wW [.int m,.tup (sT ps)]).bind (λa=>lf (isN false a)) else .ok (.bl false))=_
 rw[zc3 h,zb7 h.2.1 hl h8]
 show(if rising ps=true then lf (isN false (zl6 m ps)) else Rs.ok (D.bl false))=_
 rw[zjr]
 unfold isBook
 cases rising ps <;>simp[lf]
theorem zbZ {m:Nat}{ps:List (List Nat)}(h:Pcs m ps)(hr:isBook m ps=true):vW [.int m,.tup (sT ps)]=.ok .non:=by
 refine zbs (ρ:=[.fz (.int m),.fz (.tup (sT ps))]) ?_
 refine(zaH ?_).trans rfl
 show((jy [.int m,.tup (sT ps)]).bind tru).bind (λb=>Rs.ok !b)=_
 rw[zgn h,hr];rfl
theorem zbN {m:Nat}(m4:m<=4){l:List Nat}(h:LetOk m l)(hl:l.length<=1000000):wj [.int m,.str l]=.ok .non:=by
 refine zbs (ρ:=[.fz (.int m),.fz (.str l)]) ?_
 refine(zaH ?_).trans rfl
 show((yI [.int m,.str l]).bind tru).bind (λb=>Rs.ok !b)=_
 rw[jB m l hl,zdF m4 h];rfl
def dK (ks:List (List Nat)):List (List Nat×D):=ks.map λk=>(k,.bl true)
theorem zk1 (ks:List (List Nat))(k:List Nat):putD (dK ks) k (.bl true)=dK (jk ks k):=by
 unfold putD jk dK
 have e:((ks.map λk=>(k,D.bl true)).any λkv=>decide (kv.1=k))=decide (k∈ks):=by
  rw[lee,lcn,lcH,lbh]
  constructor
  ·rintro⟨y,hy,z⟩
   have:y=k:=by simpa using z
   exact this▸hy
  ·intro hk;exact⟨k,hk,by simp⟩
 rw[e]
 by_cases h:k∈ks
 ·rw [lH (lW h),lH h,lY]
  exact laC λy hy=>by
   show(if y=k then(y,D.bl true) else(y,D.bl true))=_
   split <;>rfl
 ·rw[lap (by simp[h]),lap h,la4];rfl
theorem zjQ (ks:List (List Nat)):(dK ks).length=ks.length:=by simp[dK]
theorem xg:∀(l ks:List (List Nat)),(l.foldl jk ks).length<=ks.length+l.length
 | [],ks=>lr _
 | x::l,ks=>by
  have h1:=xg l (jk ks x)
  have h2:=zfr ks x
  rw[lag,lC];omega
theorem jL {ps:List (List Nat)}(h8:∀p∈ps,p.length<=31)(hl:ps.length<=1000)(hk:(zq ps).length<64):wD [.tup (sT ps)]=.ok (.lst (sT (sortF (zq ps)))):=by
 have inner:∀(p:List Nat) (ks:List (List Nat)) (s:Sl),p.length<=31->ks.length<=99999->∃s',uL 3 (fR zcu (zj (fO qM (zj (fNm 2) zG)) zG)) (zaB 1 (fSl (fNm 2) xV (xQ (fNm 3))) (fC (.bl true))) [.fz (.tup (sT ps)),.od (dK ks),.fz (.str p),s]=.nx [.fz (.tup (sT ps)),.od (dK ((ziB p).foldl jk ks)),.fz (.str p),s']:=by
  intro p ks s hp hks
  have er:fR zcu (zj (fO qM (zj (fNm 2) zG)) zG) [.fz (.tup (sT ps)),.od (dK ks),.fz (.str p),s]=.ok ((List.range p.length).map λ(k:Nat)=>.int (k:Int)):=by
   exact zb0 (ds:=[.int (p.length:Int)]) rfl (wO (by omega))
  rw[yO er]
  obtain ⟨ρ',e,s',rfl⟩:=wN (i:=3) (g:=zaB 1 (fSl (fNm 2) xV (xQ (fNm 3))) (fC (.bl true))) (l:=List.range p.length) (enc:=λ(k:Nat)=>D.int (k:Int)) (ρ:=[.fz (.tup (sT ps)),.od (dK ks),.fz (.str p),s])
   (λk ρ=>∃s',ρ=[.fz (.tup (sT ps)),.od (dK (((List.range k).map λe=>p.take e).foldl jk ks)),.fz (.str p),s']) ⟨s,rfl⟩ (λk c ρ hc ⟨s',e⟩=>by
    subst e
    have hkk:k<p.length:=by have:=(lv.mp hc).1;simpa using this
    have ec:c=k:=by rw[List.getElem?_range hkk] at hc;exact(lg hc).symm
    subst ec
    have hb:=xg ((List.range c).map λe=>p.take e) ks
    rw[lh,lad] at hb
    have hlen:(dK (((List.range c).map λe=>p.take e).foldl jk ks)).length<1000000:=by rw[zjQ];omega
    have e1:fSl (fNm 2) xV (xQ (fNm 3)) [.fz (.tup (sT ps)),.od (dK (((List.range c).map λe=>p.take e).foldl jk ks)),.fz (.str p),.fz (.int (c:Int))]=.ok (.str (p.take c)):=by
     show Rs.ok (D.str (zdo p none (some (c:Int))))=_
     rw[zbd]
    refine⟨[.fz (.tup (sT ps)),.od (putD (dK (((List.range c).map λe=>p.take e).foldl jk ks)) (p.take c) (.bl true)),.fz (.str p),.fz (.int (c:Int))],?_,.fz (.int (c:Int)),?_⟩
    ·exact zeU rfl rfl e1 hlen
    ·rw[zk1,lec,la4,ldP];rfl)
  refine⟨s',e.trans ?_⟩
  rw[lad];rfl
 have outer:=wN (i:=2) (g:=uL 3 (fR zcu (zj (fO qM (zj (fNm 2) zG)) zG)) (zaB 1 (fSl (fNm 2) xV (xQ (fNm 3))) (fC (.bl true)))) (l:=ps) (enc:=D.str) (ρ:=[.fz (.tup (sT ps)),.od [],.no,.no])
  (λk ρ=>∃s s',ρ=[.fz (.tup (sT ps)),.od (dK (((ps.take k).flatMap ziB).foldl jk [])),s,s']) ⟨.no,.no,rfl⟩ (λk p ρ hp ⟨s,s',e⟩=>by
   subst e
   have hkk:k<ps.length:=(lv.mp hp).1
   have e3:ps.take (k+1)=ps.take k++[p]:=by rw[lbE,hp];rfl
   have hb:=xg ((ps.take k).flatMap ziB) []
   have hb2:((ps.take k).flatMap ziB).length<=31*(ps.take k).length:=by
    have hq:∀q∈ps.take k,q.length<=31:=λq hq=>h8 q (lb3 hq)
    generalize ps.take k=qs at hq
    induction qs with
    | nil=>simp
    | cons q qs ih =>
     have:=ih λy hy=>hq y (.tail _ hy)
     have h1:=hq q (.head _)
     simp only[lb8,lG,lC,ziB,lh,lad] at *
     omega
   rw[lae] at hb2
   simp only[lV] at hb
   obtain⟨s2,e4⟩:=inner p (((ps.take k).flatMap ziB).foldl jk []) s' (h8 p (laU hp)) (by omega)
   refine⟨_,e4,.fz (.str p),s2,?_⟩
   rw[e3,List.flatMap_append,ldP]
   simp)
 obtain⟨ρ',e,s,s',rfl⟩:=outer
 rw[lbc (lr _)] at e
 refine zQ ?_
 show uZ [.fz (.tup (sT ps)),.no,.no,.no]=_
 unfold uZ
 refine(zA (ρ':=[.fz (.tup (sT ps)),.od [],.no,.no]) rfl).trans ?_
 refine(zA (xG ((yO (ds:=sT ps) rfl).trans e))).trans (yq ?_)
 show(if (dK (zq ps)).length<64 then Rs.ok ((sortF ((dK (zq ps)).map (·.1))).map D.str) else .no).bind (λds=>Rs.ok (D.lst ds))=_
 have ek:(dK (zq ps)).map (·.1)=zq ps:=by unfold dK;rw[lY];exact(laC λx _=>rfl).trans (lcp _)
 rw[zjQ,lH hk,ek];rfl
def zdD (ns:List Int)(k:Int):Int:=if ns=[] then 7*k else ns.getD (k % ns.length).toNat 0+6553*(k / ns.length)
def vz (ns:List Int)(k m:Int):Int :=
 let c1:=(zdD ns k % 2147483563*69069+104723*(k+1)) % 2147483563
 let c2:=(c1*c1+c1 / 3) % 2147483399
 (c2*c2+c2 / 7) % 2147483647 / 11 % m
theorem yr (ns:List Int)(k:Int){m:Int}(hm:0<m):0<=vz ns k m/\vz ns k m<m:=by
 unfold vz
 exact⟨lbS _ (by omega),lbA _ (by omega)⟩
def scD (ns:List Int):D:=.lst (ns.map .int)
theorem zde:∀ns:List Int,D.pls (ns.map .int)=true
 | []=>rfl
 | n::ns=>by show((D.int n).pl&&D.pls (ns.map .int))=true;rw[zde ns];rfl
theorem zfI:∀ns:List Int,PyData.depthAll (D.pys (ns.map .int))=0
 | []=>rfl
 | n::ns=>by show max 0 (PyData.depthAll (D.pys (ns.map .int)))=0;rw[zfI ns];rfl
theorem zgk (ns:List Int):eqD false (scD ns) (.lst [])=some (.bl (decide (ns=[]))):=by
 have h:(scD ns).pl=true/\(D.lst []).pl=true/\(scD ns).py.depth<=60:=⟨zde ns,rfl,by show PyData.depthAll (D.pys (ns.map .int))+1<=60;rw[zfI];omega⟩
 unfold eqD
 rw[lH h]
 cases ns <;>rfl
theorem cell_eq (ns:List Int)(hn:ns.length<=63)(k:Int)(h0:0<=k)(h1:k<1000):uF [scD ns,.int k]=.ok (.int (zdD ns k)):=by
 refine zQ ?_
 show v5 [.fz (scD ns),.fz (.int k)]=_
 unfold v5 zdD
 have e1:(bT (f2 (eqD false) (fNm 0) (fO mkL zG))) [.fz (scD ns),.fz (.int k)]=.ok (decide (ns=[])):=by
  show(lf (eqD false (scD ns) (.lst []))).bind tru=_
  rw[zgk];rfl
 by_cases h:ns=[]
 ·rw[lW h] at e1
  rw[lH h]
  exact zcF ((zhD e1).trans (yq (xM rfl rfl (ug (by omega)) (ug (by omega)))))
 ·rw [lN h] at e1
  rw[lap h]
  refine(zA (ρ':=[.fz (scD ns),.fz (.int k)]) ((zaH e1).trans rfl)).trans (yq ?_)
  have hl:0<ns.length:=lbF.mpr h
  have el:fO qM (zj (fNm 0) zG) [.fz (scD ns),.fz (.int k)]=.ok (.int (ns.length:Int)):=by
   show Rs.ok (D.int ((ns.map D.int).length:Int))=_
   rw[lh]
  have hp:(0:Int)<(ns.length:Int):=by omega
  have r1:=lbS k (show(ns.length:Int)≠0 by omega)
  have r2:=lbA k hp
  have hd:0<=k / (ns.length:Int):=Int.ediv_nonneg h0 (by omega)
  have hd2:k / (ns.length:Int)<=k:=Int.ediv_le_self _ h0
  obtain⟨j,hj⟩:=lZ r1
  have hjl:j<ns.length:=by omega
  have ei:f2 ixD (fNm 0) (f2 zdq (fNm 1) (fO qM (zj (fNm 0) zG))) [.fz (scD ns),.fz (.int k)]=.ok (.int (ns.getD (k % (ns.length:Int)).toNat 0)):=by
   refine yN (a:=scD ns) (b:=.int (k % (ns.length:Int))) rfl (uU rfl el hp) ?_
   show atI (ns.map D.int) (k % (ns.length:Int))=_
   rw[hj]
   have:=zg6 (xs:=ns.map D.int) (j:=j) (v:=.int ns[j]) (by rw[lT,lQ9 hjl];rfl)
   rw[this,laK,lm,lQ9 hjl];rfl
  exact xN ei (xM rfl (uy rfl el hp (ug (by omega))) (ug (by omega)) (ug (by omega)))
theorem wV (ns:List Int)(hn:ns.length<=63)(k m:Int)(h0:0<=k)(h1:k<1000)(hm:0<m):zM [scD ns,.int k,.int m]=.ok (.int (vz ns k m)):=by
 refine zQ ?_
 show wZ [.fz (scD ns),.fz (.int k),.fz (.int m),.no]=_
 have hD:∀c1 c2,(zdD ns k % 2147483563*69069+104723*(k+1)) % 2147483563=c1->(c1*c1+c1 / 3) % 2147483399=c2->vz ns k m=(c2*c2+c2 / 7) % 2147483647 / 11 % m:=by
  rintro _ _ rfl rfl;rfl
 unfold wZ
 have ec:fA (ari 2 uF) (zj (fNm 0) (zj (fNm 1) zG)) [.fz (scD ns),.fz (.int k),.fz (.int m),.no]=.ok (.int (zdD ns k)):=cell_eq ns hn k h0 h1
 have a1:=lbS (zdD ns k) (show(2147483563:Int)≠0 by decide)
 have a2:=lbA (zdD ns k) (show(0:Int)<2147483563 by decide)
 generalize hc1:(zdD ns k % 2147483563*69069+104723*(k+1)) % 2147483563=c1
 have b1:0<=c1:=hc1▸lbS _ (by decide)
 have b2:c1<2147483563:=hc1▸lbA _ (by decide)
 refine(zA (ρ':=[.fz (scD ns),.fz (.int k),.fz (.int m),.fz (.int c1)]) ?_).trans ?_
 ·rw[← hc1]
  exact zH (uU (xN (xM (uU ec rfl (by decide)) rfl (ug (by omega)) (ug (by decide))) (xM rfl (xN rfl rfl) (ug (by decide)) (ug (by omega)))) rfl (by decide))
 generalize hc2:(c1*c1+c1 / 3) % 2147483399=c2
 have d1:0<=c2:=hc2▸lbS _ (by decide)
 have d2:c2<2147483399:=hc2▸lbA _ (by decide)
 refine(zA (ρ':=[.fz (scD ns),.fz (.int k),.fz (.int m),.fz (.int c2)]) ?_).trans ?_
 ·rw[← hc2]
  exact zH (uU (xN (xM rfl rfl (ug (by omega)) (ug (by omega))) (uy rfl rfl (by decide) (ug (by decide)))) rfl (by decide))
 rw[hD c1 c2 hc1 hc2]
 exact yq (uU (uy (uU (xN (xM rfl rfl (ug (by omega)) (ug (by omega))) (uy rfl rfl (by decide) (ug (by decide)))) rfl (by decide)) rfl (by decide) (ug (by decide))) rfl hm)
theorem ze5 {j:Nat}(h:j<4):ixD (.str [97,98,99,100]) (.int (j:Int))=some (.str [abcd.getD j 0]):=by
 have e:j=0∨j=1∨j=2∨j=3:=by omega
 rcases e with rfl|rfl|rfl|rfl <;>rfl
def bkF (ns:List Int)(at':Nat)(m:Nat):Nat->List (List Nat)
 | 0=>kids m []
 | t+1=>part m (bkF ns at' m t) (vz ns ((at':Int)+(t:Int)) ((bkF ns at' m t).length:Int)).toNat
theorem zgR (ns:List Int)(at':Nat){m:Nat}(m2:2<=m)(m4:m<=4):∀t:Nat,My.Gr m t (bkF ns at' m t)
 | 0=>.z
 | t+1=>by
  have g:=zgR ns at' m2 m4 t
  have hl:=g.len m2 m4
  have hd:=yr ns ((at':Int)+(t:Int)) (m:=((bkF ns at' m t).length:Int)) (by rw[hl];omega)
  exact .s g (by omega)
theorem zgN (m:Nat)(m4:m<=4)(p:List Nat):kids m p=(List.range m).map λi=>p++[abcd.getD i 0]:=by
 unfold kids
 have:∀m≤4,abcd.take m=(List.range m).map λi=>abcd.getD i 0:=by decide
 rw[this m m4,lY];rfl
theorem zdX {ls:List (List Nat)}(h:ls.length<64):zgx [.lst (sT ls)]=some (sT (sortF ls)):=by
 dsimp only [zgx]
 unfold zhg
 rw[lH ⟨zeH ls,by rw[xZ];exact h⟩,zeS];rfl
theorem ziV (ls:List (List Nat))(k:Nat):(sT ls).eraseIdx k=sT (ls.eraseIdx k):=by
 exact zef D.str ls k
theorem zlD (ns:List Int)(hn:ns.length<=63)(at':Nat){m:Nat}(m2:2<=m)(m4:m<=4)(t:Nat)(ht:t<=8)(hat:at'<=900):jg [scD ns,.int at',.int m,.int t]=.ok (.tup (sT (bkF ns at' m t))):=by
 have e0:fCp (fR zcu (zj (fNm 2) zG)) yU (f2 ixD (fC (.str [97,98,99,100])) (fNm 0)) [] [.fz (scD ns),.fz (.int at'),.fz (.int m),.fz (.int t),.no,.no,.no]=.ok (sT (kids m [])):=by
  refine zkh (zb0 (ds:=[.int (m:Int)]) rfl (wO (by omega))) (by rw[lh,lad];omega) ?_
  rw[zgN m m4]
  have:=yx (fe:=f2 ixD (fC (.str [97,98,99,100])) (fNm 0)) (ρ0:=[.no]) (l:=List.range m) (enc:=λ(k:Nat)=>D.int (k:Int)) (λi=>.str ([]++[abcd.getD i 0])) λi hi=>yN (a:=.str [97,98,99,100]) (b:=.int (i:Int)) rfl rfl (ze5 (by have:=la6.mp hi;omega))
  unfold sT
  rw[lY]
  exact this
 have loop:=wN (i:=5) (g:=zT (zdm 4 6 (fFl 4 (fA (ari 3 zM) (zj (fNm 0) (zj (f2 qX (fNm 1) (fNm 5)) (zj (fO qM (zj (fNm 4) zG)) zG)))))) (zcA 4 (vB 4 (fL zgx (zj (fLs (fL2 zkE (fNm 4) (yS (fR zcu (zj (fNm 2) zG)) yU (f2 zir (fNm 1) (f2 ixD (fC (.str [97,98,99,100])) (fNm 0))) [6]))) zG))))) (l:=List.range t) (enc:=λ(k:Nat)=>D.int (k:Int)) (ρ:=[.fz (scD ns),.fz (.int at'),.fz (.int m),.fz (.int t),.ow (sT (kids m [])),.no,.no])
  (λk ρ=>∃s s',ρ=[.fz (scD ns),.fz (.int at'),.fz (.int m),.fz (.int t),.ow (sT (bkF ns at' m k)),s,s']) ⟨.no,.no,rfl⟩ (λk c ρ hc ⟨s,s',e⟩=>by
   subst e
   have hk:k<t:=by have:=(lv.mp hc).1;simpa using this
   have ec:c=k:=by rw[List.getElem?_range hk] at hc;exact(lg hc).symm
   subst ec
   have g:=zgR ns at' m2 m4 c
   have hl:=g.len m2 m4
   have hsh:=g.short m2 m4
   have hll:(bkF ns at' m c).length<=28:=by
    rw[hl]
    have:c*(m - 1)<=8*3:=ldF (by omega) (by omega)
    omega
   have hpos:0<(bkF ns at' m c).length:=by rw[hl];omega
   have hd:=yr ns ((at':Int)+(c:Int)) (m:=((bkF ns at' m c).length:Int)) (by omega)
   obtain⟨j,hj⟩:=lZ hd.1
   rw[hj] at hd
   have hjl:j<(bkF ns at' m c).length:=by omega
   have eB:bkF ns at' m (c+1)=part m (bkF ns at' m c) j:=by
    show part m (bkF ns at' m c) (vz ns ((at':Int)+(c:Int)) ((bkF ns at' m c).length:Int)).toNat=_
    rw[hj];rfl
   rw[eB]
   generalize hB:bkF ns at' m c=B at *
   have ed:fFl 4 (fA (ari 3 zM) (zj (fNm 0) (zj (f2 qX (fNm 1) (fNm 5)) (zj (fO qM (zj (fNm 4) zG)) zG)))) [.fz (scD ns),.fz (.int at'),.fz (.int m),.fz (.int t),.ow (sT B),.fz (.int (c:Int)),s']=.ok (.int (j:Int)):=by
    refine zmX rfl ?_ rfl
    show zM [scD ns,.int ((at':Int)+(c:Int)),.int ((sT B).length:Int)]=_
    rw[xZ,← hj]
    exact wV ns hn _ _ (by omega) (by omega) (by omega)
   have ep:(sT B)[j]? = some (.str B[j]):=by unfold sT;rw[lT,lQ9 hjl];rfl
   have eg:B.getD j []=B[j]:=by rw[lm,lQ9 hjl];rfl
   have hp8:=hsh B[j] (laV hjl)
   refine⟨_,(zA (zll rfl ed (by omega) ep)).trans ?_,.fz (.int (c:Int)),.fz (.str B[j]),rfl⟩
   rw[ziV]
   refine(zkO (ds:=sT (B.eraseIdx j)) rfl).trans ?_
   refine(zcL (d:=sT (part m B j)) ?_).trans rfl
   have ek:yS (fR zcu (zj (fNm 2) zG)) yU (f2 zir (fNm 1) (f2 ixD (fC (.str [97,98,99,100])) (fNm 0))) [6] [.fz (scD ns),.fz (.int at'),.fz (.int m),.fz (.int t),.fz (.lst (sT (B.eraseIdx j))),.fz (.int (c:Int)),.fz (.str B[j])]=.ok (.lst (sT (kids m B[j]))):=by
    refine vA (zb0 (ds:=[.int (m:Int)]) rfl (wO (by omega))) (by rw[lh,lad];omega) ?_
    rw[zgN m m4]
    have:=yx (fe:=f2 zir (fNm 1) (f2 ixD (fC (.str [97,98,99,100])) (fNm 0))) (ρ0:=[.no,.fz (.str B[j])]) (l:=List.range m) (enc:=λ(k:Nat)=>D.int (k:Int)) (λi=>.str (B[j]++[abcd.getD i 0])) λi hi=>yN (a:=.str B[j]) (b:=.str [abcd.getD i 0]) rfl (yN (a:=.str [97,98,99,100]) (b:=.int (i:Int)) rfl rfl (ze5 (by have:=la6.mp hi;omega))) (zhb (by show B[j].length+1<=_;omega))
    unfold sT
    rw[lY]
    exact this
   have el:(B.eraseIdx j++kids m B[j]).length<64:=by
    rw[lG,qi m m4,List.length_eraseIdx,lH hjl];omega
   have ecat:fL2 zkE (fNm 4) (yS (fR zcu (zj (fNm 2) zG)) yU (f2 zir (fNm 1) (f2 ixD (fC (.str [97,98,99,100])) (fNm 0))) [6]) [.fz (scD ns),.fz (.int at'),.fz (.int m),.fz (.int t),.fz (.lst (sT (B.eraseIdx j))),.fz (.int (c:Int)),.fz (.str B[j])]=.ok (sT (B.eraseIdx j++kids m B[j])):=by
    unfold fL2
    rw[ek]
    show lf' (zkE (.lst (sT (B.eraseIdx j))) (.lst (sT (kids m B[j]))))=_
    dsimp only [zkE]
    rw[lH (by rw[xZ,xZ,← lG];omega),zfL];rfl
   refine zm6 (zN (zgP ecat) rfl) ?_
   rw[zdX el]
   unfold part
   rw[eg])
 obtain⟨ρ',e,s,s',rfl⟩:=loop
 rw[lad] at e
 refine zQ ?_
 show vJ [.fz (scD ns),.fz (.int at'),.fz (.int m),.fz (.int t),.no,.no,.no]=_
 unfold vJ
 refine(zA (zcL e0)).trans ((zA (xG ((yO (zb0 (ds:=[.int (t:Int)]) rfl (wO (by omega)))).trans e))).trans ?_)
 rfl
end Pg
set_option maxHeartbeats 4000000
namespace Pg
open PySem L2 PyProof.Rows
end Pg
set_option maxHeartbeats 1000000
namespace Pg
open PySem L2 My
theorem fA1 {fn:List D->Rs D}{f:Rho->Rs D}{ρ:Rho}{a:D}(e1:f ρ=.ok a):fA (ari 1 fn) (zj f zG) ρ=fn [a]:=by
 unfold fA;rw[zN e1 rfl];rfl
theorem fA2 {fn:List D->Rs D}{f g:Rho->Rs D}{ρ:Rho}{a b:D}(e1:f ρ=.ok a)(e2:g ρ=.ok b):fA (ari 2 fn) (zj f (zj g zG)) ρ=fn [a,b]:=by
 unfold fA;rw[zN e1 (zN e2 rfl)];rfl
theorem fA3 {fn:List D->Rs D}{f g h:Rho->Rs D}{ρ:Rho}{a b c:D}(e1:f ρ=.ok a)(e2:g ρ=.ok b)(e3:h ρ=.ok c):fA (ari 3 fn) (zj f (zj g (zj h zG))) ρ=fn [a,b,c]:=by
 unfold fA;rw[zN e1 (zN e2 (zN e3 rfl))];rfl
theorem fA4 {fn:List D->Rs D}{f g h i:Rho->Rs D}{ρ:Rho}{a b c d:D}(e1:f ρ=.ok a)(e2:g ρ=.ok b)(e3:h ρ=.ok c)(e4:i ρ=.ok d):fA (ari 4 fn) (zj f (zj g (zj h (zj i zG)))) ρ=fn [a,b,c,d]:=by
 unfold fA;rw[zN e1 (zN e2 (zN e3 (zN e4 rfl)))];rfl
theorem ifF {ft:Rho->Rs Bool}{g:Rho->Out}{ρ:Rho}(e:ft ρ=.ok false):sIf ft g sNx ρ=.nx ρ:=zaH e
theorem jA {f:Rho->Rs D}{ρ:Rho}{b:Bool}(e:f ρ=.ok (.bl b)):bT f ρ=.ok b:=by unfold bT;rw[e];rfl
theorem zaP {f:Rho->Rs Bool}{ρ:Rho}{b:Bool}(e:f ρ=.ok b):zaL f ρ=.ok (!b):=by unfold zaL;rw[e];rfl
theorem zim {f g:Rho->Rs Bool}{ρ:Rho}(e:f ρ=.ok false)(e2:g ρ=.ok false):bOr f g ρ=.ok false:=by unfold bOr;rw[e];exact e2
theorem zkd {fa:Rho->Rs D}{fl fh:Rho->Rs (Option Int)}{ρ:Rho}{a d:D}{l h:Option Int}(e1:fa ρ=.ok a)(e2:fl ρ=.ok l)(e3:fh ρ=.ok h)(e4:slD a l h=some d):fSl fa fl fh ρ=.ok d:=by
 unfold fSl;rw[e1];show(fl ρ).bind _=_;rw[e2];show(fh ρ).bind _=_;rw[e3];show lf (slD a l h)=_;rw[e4];rfl
theorem zjq {i j:Nat}{f:Rho->Rs D}{ρ:Rho}{a b:D}(e:f ρ=.ok (.tup [a,b])):kj i j f ρ=.nx ((ρ.set i (.fz a)).set j (.fz b)):=by unfold kj;rw[e]
theorem vD {f:Rho->Rs D}{ρ:Rho}{d:D}(e:f ρ=.ok d):vq f ρ=.nx ρ:=by unfold vq;rw[e]
theorem zlp {n j:Nat}(h:j<n):ixN n (j:Int)=some j:=by
 unfold ixN
 rw[lH (by omega),lH (by omega)];rfl
theorem zmG {B:List (List Nat)}{j:Nat}(h:j<B.length):atI (sT B) (j:Int)=some (.str (B.getD j [])):=by
 unfold atI
 rw[xZ,zlp h]
 simp[sT,h]
def zop (n:Nat):Nat:=if n<=1 then 0 else if n<=2 then 1 else if n<=4 then 2 else if n<=8 then 3 else if n<=16 then 4 else 5
def zoJ (i:Nat):Nat->List Nat
 | 0=>[]
 | k+1=>(48+i / 2 ^ k % 2)::zoJ i k
def W (n:Nat):List (List Nat):=(List.range n).map λi=>zoJ i (zop n)
def frD (x:Int×Int):D:=.tup [.int x.1,.int x.2]
theorem zer {i:Int}{B:Nat}(h0:0<=i)(h:i<2 ^ B)(hB:B<=4000):Sm i:=by
 unfold Sm
 have h1:i<(2:Int) ^ 4000:=Int.lt_of_lt_of_le h (by
  have:=Nat.pow_le_pow_right (n:=2) (by decide) hB
  exact_mod_cast this)
 have h2:(i.natAbs:Int)<(2:Int) ^ 4000:=by rw[Int.natAbs_of_nonneg h0];exact h1
 exact_mod_cast h2
theorem zdi (neg:Bool)(i j:Int):eqD neg (.int i) (.int j)=some (.bl (if neg then !decide (i=j) else decide (i=j))):=by
 unfold eqD
 rw[lH ⟨rfl,rfl,by show(PyData.int _).depth<=60;simp[PyData.depth]⟩]
 have:PyData.eqv (D.int i).py (D.int j).py=decide (i=j):=by
  show(i == j)=_
  by_cases h:i=j <;>simp[h]
 rw[this]
theorem zhT:∀(n:Nat) (a b:Int) (f:Nat) (s:Sl),0<=b->b<=a->a*b<2 ^ n->n<f ->
  ∃s',whD (bT (f2 (eqD true) (fNm 1) (fC (.int 0)))) (zT (yh 2 (f2 zdq (fNm 0) (fNm 1))) (zT (yh 0 (fNm 1)) (yh 1 (fNm 2)))) f [.fz (.int a),.fz (.int b),s]=.nx [.fz (.int (Int.gcd a b:Int)),.fz (.int 0),s']:=by
 intro n
 induction n with
 | zero =>
  intro a b f s h0 h1 h2 h3
  cases f with
  | zero=>omega
  | succ f =>
  have hb:b=0:=by
   rcases Int.lt_or_eq_of_le h0 with h|h
   ·have:1*1<=a*b:=lb1 (by omega) (by omega) (by decide) (by omega)
    omega
   ·exact h.symm
  subst hb
  refine⟨s,?_⟩
  have e:bT (f2 (eqD true) (fNm 1) (fC (.int 0))) [.fz (.int a),.fz (.int 0),s]=.ok false:=jA (yN (a:=.int 0) (b:=.int 0) rfl rfl (by rw[zdi];rfl))
  unfold whD
  rw[e]
  have:(Int.gcd a 0:Int)=a:=by rw[Int.gcd_zero_right];omega
  rw[this]
 | succ n ih =>
  intro a b f s h0 h1 h2 h3
  cases f with
  | zero=>omega
  | succ f =>
  by_cases hb:b=0
  ·subst hb
   refine⟨s,?_⟩
   have e:bT (f2 (eqD true) (fNm 1) (fC (.int 0))) [.fz (.int a),.fz (.int 0),s]=.ok false:=jA (yN (a:=.int 0) (b:=.int 0) rfl rfl (by rw[zdi];rfl))
   unfold whD
   rw[e]
   have:(Int.gcd a 0:Int)=a:=by rw[Int.gcd_zero_right];omega
   rw[this]
  ·have bpos:0<b:=by omega
   have e:bT (f2 (eqD true) (fNm 1) (fC (.int 0))) [.fz (.int a),.fz (.int b),s]=.ok true:=jA (yN (a:=.int b) (b:=.int 0) rfl rfl (by rw[zdi,lN hb];rfl))
   have r0:=lbS a hb
   have r1:=lbA a bpos
   have es:(zT (yh 2 (f2 zdq (fNm 0) (fNm 1))) (zT (yh 0 (fNm 1)) (yh 1 (fNm 2)))) [.fz (.int a),.fz (.int b),s]=.nx [.fz (.int b),.fz (.int (a % b)),.fz (.int (a % b))] :=
    (zA (zH (uU rfl rfl bpos))).trans ((zA (zH (d:=.int b) rfl)).trans (zH (d:=.int (a % b)) rfl))
   have hr:b*(a % b)<2 ^ n:=by
    have d1:b*(a / b)+a % b=a:=Int.mul_ediv_add_emod a b
    have q1:1<=a / b:=Int.le_ediv_of_mul_le bpos (by omega)
    have q2:b*1<=b*(a / b):=la5 q1 (by omega)
    have q3:2*(a % b)<=a:=by omega
    have q4:b*(2*(a % b))<=b*a:=la5 q3 (by omega)
    have q5:b*(2*(a % b))=2*(b*(a % b)):=by rw[← lbi,laY b 2,lbi]
    have q6:b*a=a*b:=laY ..
    have q7:(2:Int) ^ (n+1)=2 ^ n*2:=lbl ..
    omega
   obtain⟨s',k⟩:=ih b (a % b) f (.fz (.int (a % b))) r0 (by omega) hr (by omega)
   refine⟨s',?_⟩
   unfold whD
   rw[e]
   show(match (zT (yh 2 (f2 zdq (fNm 0) (fNm 1))) (zT (yh 0 (fNm 1)) (yh 1 (fNm 2)))) [.fz (.int a),.fz (.int b),s] with | .nx ρ'=>_ | .ct ρ'=>_ | .bk ρ'=>_|o=>o)=_
   rw[es]
   have eg:Int.gcd b (a % b)=Int.gcd a b:=by
    obtain⟨x,rfl⟩:=lZ (show 0<=a by omega)
    obtain⟨y,rfl⟩:=lZ h0
    show Nat.gcd y (x % y)=Nat.gcd x y
    rw[Nat.gcd_comm y,Nat.gcd_comm x,← Nat.gcd_rec]
   rw[← eg]
   exact k
theorem zgb {u d:Int}(hu:0<=u)(hd:0<d)(h1:u<2 ^ 1000)(h2:d<2 ^ 1000):xK [.int u,.int d]=.ok (.int (Int.gcd u d:Int)):=by
 have hp:u*d<2 ^ 2000:=zfP hu (by omega) h1 h2
 have key:∃s',whD (bT (f2 (eqD true) (fNm 1) (fC (.int 0)))) (zT (yh 2 (f2 zdq (fNm 0) (fNm 1))) (zT (yh 0 (fNm 1)) (yh 1 (fNm 2)))) 4000 [.fz (.int u),.fz (.int d),.no]=.nx [.fz (.int (Int.gcd u d:Int)),.fz (.int 0),s']:=by
  by_cases h:d<=u
  ·exact zhT 2000 u d 4000 .no (by omega) h hp (by decide)
  ·obtain ⟨s',k⟩:=zhT 2000 d u 3999 (.fz (.int u)) hu (by omega) (by rw[laY];exact hp) (by decide)
   refine⟨s',?_⟩
   have e:bT (f2 (eqD true) (fNm 1) (fC (.int 0))) [.fz (.int u),.fz (.int d),.no]=.ok true:=jA (yN (a:=.int d) (b:=.int 0) rfl rfl (by rw[zdi,lN (by omega)];rfl))
   have em:u % d=u:=Int.emod_eq_of_lt hu (by omega)
   have es:(zT (yh 2 (f2 zdq (fNm 0) (fNm 1))) (zT (yh 0 (fNm 1)) (yh 1 (fNm 2)))) [.fz (.int u),.fz (.int d),.no]=.nx [.fz (.int d),.fz (.int u),.fz (.int u)]:=by
    have:=(zA (h:=zT (yh 0 (fNm 1)) (yh 1 (fNm 2))) (zH (i:=2) (uU (f:=fNm 0) (g:=fNm 1) (ρ:=[.fz (.int u),.fz (.int d),.no]) (i:=u) (j:=d) rfl rfl hd)))
    rw[em] at this
    exact this.trans ((zA (zH (d:=.int d) rfl)).trans (zH (d:=.int u) rfl))
   show whD _ _ (3999+1) _=_
   unfold whD
   rw[e]
   show(match (zT (yh 2 (f2 zdq (fNm 0) (fNm 1))) (zT (yh 0 (fNm 1)) (yh 1 (fNm 2)))) [.fz (.int u),.fz (.int d),.no] with | .nx ρ'=>_ | .ct ρ'=>_ | .bk ρ'=>_|o=>o)=_
   rw[es]
   rw[Int.gcd_comm]
   exact k
 obtain⟨s',k⟩:=key
 exact zQ ((zA (xG k)).trans rfl)
theorem zmV {u d:Int}(hd:0<d)(h2:d<2 ^ 1000):0<(Int.gcd u d:Int)/\Sm (Int.gcd u d:Int):=by
 have h:=zgU (u:=u) hd
 have h3:(Int.gcd u d:Int)<=d:=Int.le_of_dvd hd (ldI ..)
 exact⟨h,zer (by omega) (ldA h3 h2) (by decide)⟩
theorem zdE {u d:Int}(hu:0<=u)(hd:0<d)(h1:u<2 ^ 1000)(h2:d<2 ^ 1000):j9 [.int u,.int d]=.ok (frD (low u d)):=by
 obtain⟨g1,g2⟩:=zmV (u:=u) hd h2
 refine zQ ((zA (zH ((fA2 (a:=.int u) (b:=.int d) rfl rfl).trans (zgb hu hd h1 h2)))).trans (yq (zay (zN (uy rfl rfl g1 g2) (zN (uy rfl rfl g1 g2) rfl)) ?_)))
 rfl
theorem fr0 {f:Rho->Rs D}{ρ:Rho}{x:Int×Int}(e:f ρ=.ok (frD x)):f2 ixD f (fC (.int 0)) ρ=.ok (.int x.1):=yN (a:=frD x) (b:=.int 0) e rfl rfl
theorem fr1 {f:Rho->Rs D}{ρ:Rho}{x:Int×Int}(e:f ρ=.ok (frD x)):f2 ixD f (fC (.int 1)) ρ=.ok (.int x.2):=yN (a:=frD x) (b:=.int 1) e rfl rfl
theorem Fra.sm {B:Nat}{x:Int×Int}(h:Fra B x)(hB:B<=4000):Sm x.1/\Sm x.2:=⟨zer h.1 h.2.2.1 hB,zer (lau h.2.1) h.2.2.2 hB⟩
theorem zi6 {x y:Int×Int}(hx:Fra 450 x)(hy:Fra 450 y):zbh [frD x,frD y]=.ok (frD (znR x y)):=by
 obtain⟨x1,x2⟩:=Fra.sm hx (by decide)
 obtain⟨y1,y2⟩:=Fra.sm hy (by decide)
 refine zQ (yq ((fA2 (xN (xM (fr0 (x:=x) rfl) (fr1 (x:=y) rfl) x1 y2) (xM (fr0 (x:=y) rfl) (fr1 (x:=x) rfl) y1 x2)) (xM (fr1 (x:=x) rfl) (fr1 (x:=y) rfl) x2 y2)).trans ?_))
 obtain⟨a1,a2,a3,a4⟩:=hx
 obtain⟨b1,b2,b3,b4⟩:=hy
 have p1:=zfP a1 (lau b2) a3 b4
 have p2:=zfP b1 (lau a2) b3 a4
 have p3:=zfP (lau a2) (lau b2) a4 b4
 have q1:0<=x.1*y.2:=ldG a1 (lau b2)
 have q2:0<=y.1*x.2:=ldG b1 (lau a2)
 have q3:0<x.2*y.2:=ldn a2 b2
 have w:(2:Int) ^ (450+450)+2 ^ (450+450)<=2 ^ 1000:=by decide +kernel
 have w2:(2:Int) ^ (450+450)<=2 ^ 1000:=by decide +kernel
 exact zdE (by omega) q3 (by omega) (by omega)
theorem jo {x y:Int×Int}(hx:Fra 450 x)(hy:Fra 450 y):yu [frD x,frD y]=.ok (.bl (zhA x y)):=by
 obtain⟨x1,x2⟩:=Fra.sm hx (by decide)
 obtain⟨y1,y2⟩:=Fra.sm hy (by decide)
 exact zQ (yq (yN (xM (fr0 (x:=x) rfl) (fr1 (x:=y) rfl) x1 y2) (xM (fr0 (x:=y) rfl) (fr1 (x:=x) rfl) y1 x2) rfl))
theorem zj9 (neg:Bool)(x y:Int×Int):eqD neg (frD x) (frD y)=some (.bl (if neg then !decide (x=y) else decide (x=y))):=by
 unfold eqD frD
 rw[lH ⟨rfl,rfl,by simp[D.py,D.pys,PyData.depth,PyData.depthAll]⟩]
 have:PyData.eqv (D.tup [.int x.1,.int x.2]).py (D.tup [.int y.1,.int y.2]).py=decide (x=y):=by
  show(((x.1 == y.1))&&((x.2 == y.2)&&true))=_
  rw[lcn,lbh,Bool.and_true,lab,ldL,ldL]
  exact⟨λh=>Prod.ext h.1 h.2,λh=>by rw[h];exact⟨rfl,rfl⟩⟩
 rw[this]
def sI (ws:List Int):List D:=ws.map .int
theorem zd7 (ws:List Int):(sI ws).length=ws.length:=by simp[sI]
theorem zcO (i:Int):ur [.int i]=.ok (.bl (decide (1<=i)&&decide (i<=99))):=by
 refine zQ (yq ((fA3 (a:=.int i) (b:=.int 1) (c:=.int 99) rfl rfl rfl).trans (uM i 1 99)))
theorem zd8 {ws:List Int}(h:yj ws):je [.tup (sI ws)]=.ok (.bl true):=by
 have e:vm yU (fA (ari 1 ur) (zj (fNm 0) zG)) [.no] (sI ws)=.ok (ws.map λw=>.bl (decide (1<=w)&&decide (w<=99))):=yx _ λw hw=>(fA1 (a:=.int w) rfl).trans (zcO w)
 refine zQ ((zA (ifF (zaP (b:=true) (jA ?_)))).trans ((zA (ifF (zaP (b:=true) (jA ?_)))).trans (yq (zay (zN (vA (ds:=sI ws) rfl (by rw[zd7];have:=h.2.1;omega) e) rfl) ?_))))
 ·show(lf (if (D.tup (sI ws)).pl=true then some (D.bl (isTup (D.tup (sI ws)).py)) else none))=_
  rw[lH (show(D.tup (sI ws)).pl=true from zde ws)];rfl
 ·have e1:(2:Int)<=((sI ws).length:Int):=by rw[zd7];have:=h.1;omega
  have e2:((sI ws).length:Int)<=4:=by rw[zd7];have:=h.2.1;omega
  show(if decide ((2:Int)<=((sI ws).length:Int))=true then(Rs.ok (D.bl (decide (((sI ws).length:Int)<=4)))) else Rs.ok (D.bl false))=_
  rw[lW e1,lW e2];rfl
 ·rw [zfU]
  have:(ws.all λw=>(decide (1<=w)&&decide (w<=99)))=true:=by
   rw[laL]
   intro w hw
   have:=h.2.2 w hw
   rw[lW this.1,lW this.2];rfl
  rw[this]
theorem wK {ws:List Int}(h:yj ws):yE [.tup (sI ws)]=.ok .non :=
 zbs (ifF (zaP (b:=true) (jA ((fA1 (a:=.tup (sI ws)) rfl).trans (zd8 h)))))
theorem wk {ws:List Int}(h:yj ws){B:List (List Nat)}(hp:Pcs ws.length B)(hb:isBook ws.length B=true):yw [.tup (sI ws),.tup (sT B)]=.ok .non:=by
 refine zbs ((zA (vD ((fA1 (a:=.tup (sI ws)) rfl).trans (wK h)))).trans (vD ((fA2 (a:=.int (ws.length:Int)) (b:=.tup (sT B)) ?_ rfl).trans (zbZ hp hb))))
 show Rs.ok (D.int ((sI ws).length:Int))=_
 rw[zd7]
theorem zc5 {ws:List Int}(h1:2<=ws.length)(h2:ws.length<=4):(∃a b,ws=[a,b])∨(∃a b c,ws=[a,b,c])∨∃a b c d,ws=[a,b,c,d]:=by
 rcases ws with _|⟨a,_|⟨b,_|⟨c,_|⟨d,_|⟨e,r⟩⟩⟩⟩⟩
 ·cases h1
 ·cases Nat.le_of_succ_le_succ h1
 ·exact .inl ⟨a,b,rfl⟩
 ·exact .inr (.inl ⟨a,b,c,rfl⟩)
 ·exact .inr (.inr ⟨a,b,c,d,rfl⟩)
 ·exact absurd h2 (Nat.not_le_of_lt (Nat.le_add_left 5 r.length))
theorem zgq {ws:List Int}(h:yj ws){c:Nat}(hc:97<=c/\c<97+ws.length):∃ds,zju (.str [97,98,99,100]) (.tup (sI ws))=some (.dct ds)/\ds=zhL [97,98,99,100] (sI ws)/\getD (.dct ds) (.str [c])=some (.int (wt ws c)):=by
 refine⟨_,rfl,rfl,?_⟩
 obtain⟨h1,h2,h3⟩:=h
 have e:c=97∨c=98∨c=99/\2<ws.length∨c=100/\3<ws.length:=by omega
 rcases zc5 h1 h2 with⟨a,b,rfl⟩|⟨a,b,d,rfl⟩|⟨a,b,d,f,rfl⟩
 ·rcases e with rfl|rfl|⟨_,z⟩|⟨_,z⟩
  ·rfl
  ·rfl
  ·simp at z
  ·simp at z
 ·rcases e with rfl|rfl|⟨rfl,_⟩|⟨_,z⟩
  ·rfl
  ·rfl
  ·rfl
  ·simp at z
 ·rcases e with rfl|rfl|⟨rfl,_⟩|⟨rfl,_⟩ <;>rfl
theorem zmT {ws:List Int}:znG [.tup (sI ws)]=some (.int ws.sum):=by
 have e1:(sI ws).all isI=true:=by simp[sI,isI]
 have e2:(sI ws).map unN=ws:=by
  unfold sI;rw[lY]
  exact(laC λx _=>rfl).trans (lcp ws)
 show(if (sI ws).all isI=true then some (D.int ((sI ws).map unN).sum) else none)=_
 rw[lH e1,e2]
theorem ziv (ws:List Int)(l:List Nat)(c:Nat):up ws (l++[c])=up ws l*wt ws c:=by
 rw[zgS]
 show up ws l*(wt ws c*1)=_
 rw[Int.mul_one]
theorem zar {ws:List Int}(h:yj ws){l:List Nat}(hl:LetOk ws.length l)(h20:l.length<=40):yC [.tup (sI ws),.str l]=.ok (frD (shr ws l)):=by
 have m4:=h.2.1
 have W:=uH h
 have step:=wN (i:=6) (g:=zT (yh 4 (f2 zci (fNm 4) (f2 getD (fNm 2) (fNm 6)))) (yh 5 (f2 zci (fNm 5) (fNm 3)))) (l:=l) (enc:=λc=>D.str [c]) (ρ:=[.fz (.tup (sI ws)),.fz (.str l),.fz (.dct (zhL [97,98,99,100] (sI ws))),.fz (.int ws.sum),.fz (.int 1),.fz (.int 1),.no])
  (λk ρ=>∃s,ρ=[.fz (.tup (sI ws)),.fz (.str l),.fz (.dct (zhL [97,98,99,100] (sI ws))),.fz (.int ws.sum),.fz (.int (up ws (l.take k))),.fz (.int (dn ws (l.take k))),s]) ⟨.no,by rw[leo];simp[up,dn]⟩ (λk c ρ hc ⟨s,e⟩=>by
   subst e
   have hk:k<l.length:=(lv.mp hc).1
   have hcl:c∈l:=laU hc
   have e3:l.take (k+1)=l.take k++[c]:=by rw[lbE,hc];rfl
   have ht:LetOk ws.length (l.take k):=λd hd=>hl d (lb3 hd)
   have tl:(l.take k).length<=40:=by rw[lae];omega
   have u1:=zbO h ht
   have u2:up ws (l.take k)<2 ^ 400:=by
    have a1:=zkq h ht
    have a2:(99:Int) ^ (l.take k).length<=99 ^ 40:=jj (by decide) tl
    have a3:(99:Int) ^ 40<2 ^ 400:=by decide +kernel
    omega
   have d1:=zfy h (l.take k)
   have d2:dn ws (l.take k)<2 ^ 400:=by
    have a1:=zk0 h (l.take k)
    have a2:(396:Int) ^ (l.take k).length<=396 ^ 40:=jj (by decide) tl
    have a3:(396:Int) ^ 40<2 ^ 400:=by decide +kernel
    omega
   have wr:=zbf h (hl c hcl)
   obtain⟨ds,_,rfl,eg⟩:=zgq h (hl c hcl)
   rw[e3,ziv]
   have ed:dn ws (l.take k++[c])=dn ws (l.take k)*ws.sum:=by unfold dn;rw[lG,lbR];show _*ws.sum ^ 1=_;rw[lbl,lcM,ldV]
   rw[ed]
   refine⟨_,(zA (zH (xM (i:=up ws (l.take k)) (j:=wt ws c) rfl (yN (a:=.dct _) (b:=.str [c]) rfl rfl eg) (zer (by omega) u2 (by decide)) (ug (by omega))))).trans (zH (xM (i:=dn ws (l.take k)) (j:=ws.sum) rfl rfl (zer (by omega) d2 (by decide)) (ug (by omega)))),.fz (.str [c]),rfl⟩)
 obtain⟨ρ',e,s,rfl⟩:=step
 rw[lbc (lr _)] at e
 have u1:=zbO h hl
 have d1:=zfy h l
 have u2:up ws l<2 ^ 1000:=by
  have a1:=zkq h hl
  have a2:(99:Int) ^ l.length<=99 ^ 40:=jj (by decide) h20
  have a3:(99:Int) ^ 40<2 ^ 1000:=by decide +kernel
  omega
 have d2:dn ws l<2 ^ 1000:=by
  have a1:=zk0 h l
  have a2:(396:Int) ^ l.length<=396 ^ 40:=jj (by decide) h20
  have a3:(396:Int) ^ 40<2 ^ 1000:=by decide +kernel
  omega
 refine zQ ?_
 show zbM [.fz (.tup (sI ws)),.fz (.str l),.no,.no,.no,.no,.no]=_
 unfold zbM
 refine(zA (vD ((fA1 (a:=.tup (sI ws)) rfl).trans (wK h)))).trans ?_
 refine(zA (vD ((fA2 (a:=.int (ws.length:Int)) (b:=.str l) ?_ rfl).trans (zbN m4 hl (by omega))))).trans ?_
 ·show Rs.ok (D.int ((sI ws).length:Int))=_
  rw[zd7]
 refine(zA (zH (d:=.dct (zhL [97,98,99,100] (sI ws))) rfl)).trans ?_
 refine(zA (zH (d:=.int ws.sum) (zay (ds:=[.tup (sI ws)]) rfl zmT))).trans ?_
 refine(zA (zH (d:=.int 1) rfl)).trans ((zA (zH (d:=.int 1) rfl)).trans ?_)
 refine(zA (xG ((yO (ds:=l.map λc=>.str [c]) rfl).trans e))).trans ?_
 exact yq ((fA2 (a:=.int (up ws l)) (b:=.int (dn ws l)) rfl rfl).trans (zdE (by omega) d1 u2 d2))
def wU (ws:List Int)(l:List Nat):Int:=up ws l*ws.sum ^ (31 - l.length)
def qF (ws:List Int)(a:Int):Int×Int:=low a (ws.sum ^ 31)
theorem jq {l k:List Int}(p:l.Perm k):l.sum=k.sum:=by
 induction p with
 | nil=>rfl
 | cons x _ ih=>rw[lar,lar,ih]
 | swap x y l=>rw[lar,lar,lar,lar];omega
 | trans _ _ a b=>exact a.trans b
theorem zeR (l k:List Int):(l++k).sum=l.sum+k.sum:=by
 induction l with
 | nil=>rw[laH,lei,Int.zero_add]
 | cons x l ih=>rw[laD,lar,lar,ih,Int.add_assoc]
theorem zdW {α:Type}(f:α->Int):∀(B:List α) (j:Nat) (p:α),B[j]? = some p->((B.eraseIdx j).map f).sum+f p=(B.map f).sum
 | [],j,p,h=>by simp at h
 | x::B,0,p,h=>by
  obtain rfl:=lg h
  rw[List.eraseIdx_cons_zero,lw,lar];omega
 | x::B,j+1,p,h=>by
  have:=zdW f B j p h
  rw[List.eraseIdx_cons_succ,lw,lar,lw,lar];omega
theorem getD_some {B:List (List Nat)}{j:Nat}(hj:j<B.length):B[j]? = some (B.getD j []):=by
 rw[lm,lQ9 hj];rfl
theorem zi8 {m:Nat}(f:List Nat->Int){B:List (List Nat)}{j:Nat}(hj:j<B.length):((part m B j).map f).sum=(B.map f).sum - f (B.getD j [])+((kids m (B.getD j [])).map f).sum:=by
 unfold part
 rw[jq ((yF _).map f),la4,zeR]
 have:=zdW f B j _ (getD_some hj)
 omega
theorem zkt {α:Type}(l:List α)(f:α->Int)(k:Int):(l.map λx=>k*f x).sum=k*(l.map f).sum:=by
 induction l with
 | nil=>rw[laT,laT,lei,Int.mul_zero]
 | cons x l ih=>rw[lw,lw,lar,lar,ih,Int.mul_add]
theorem sum_bound {α:Type}{l:List α}{f:α->Int}{k:Int}(h:∀x∈l,0<=f x/\f x<=k):0<=(l.map f).sum/\(l.map f).sum<=l.length*k:=by
 induction l with
 | nil=>rw[laT,lei,lV];simp
 | cons x l ih =>
  rw[lw,lar,lC]
  have:=ih λy hy=>h y (.tail _ hy)
  have h2:=h x (.head _)
  have:((l.length+1:Nat):Int)*k=l.length*k+k:=by rw[lbT,lds];simp
  omega
theorem zno {ws:List Int}(h:yj ws):((abcd.take ws.length).map (wt ws)).sum=ws.sum:=by
 obtain⟨h1,h2,h3⟩:=h
 rcases zc5 h1 h2 with⟨a,b,rfl⟩|⟨a,b,d,rfl⟩|⟨a,b,d,f,rfl⟩ <;>rfl
section
variable {ws:List Int}(h:yj ws)
include h
theorem zan:0<ws.sum ^ 31:=lbs (by have:=uH h;omega)
theorem zgi:ws.sum ^ 31<2 ^ 280:=by
 have W:=uH h
 have a:=zcs (a:=ws.sum) (b:=396) (by omega) W.2 31
 have b:(396:Int) ^ 31<2 ^ 280:=by decide +kernel
 omega
theorem zgr {l:List Nat}(hl:l.length<=31):shr ws l=qF ws (wU ws l):=by
 unfold shr qF wU
 refine ziw (zfy h l) (zan h) ?_
 unfold dn
 rw[lbi,← lbR]
 have:31 - l.length+l.length=31:=by omega
 rw[this]
theorem zfs (a b:Int):zhA (qF ws a) (qF ws b)=decide (a<b):=by
 have D:=zan h
 refine(zij D D).trans ?_
 rw[lcn,lbh,lbh]
 exact Int.mul_lt_mul_right D
theorem zcb {a:Int}(h0:0<=a)(h1:a<2 ^ 400):Fra 450 (qF ws a):=by
 have D:=zan h
 have E:=zgi h
 have b:(2:Int) ^ 280<2 ^ 450:=by decide +kernel
 have c:(2:Int) ^ 400<2 ^ 450:=by decide +kernel
 exact zhQ h0 D (by omega) (by omega)
theorem zaj {l:List Nat}(hl:LetOk ws.length l):0<wU ws l:=ldn (zbO h hl) (lbs (by have:=uH h;omega))
theorem zoR {l:List Nat}(hl:LetOk ws.length l):up ws l<=ws.sum ^ l.length:=by
 have W:=uH h
 induction l with
 | nil=>rw[lV,lcM];exact lc8 _
 | cons c l ih =>
  have h1:=ih λd hd=>hl d (.tail _ hd)
  have h2:=zn0 h (hl c (.head _))
  have h3:=zbf h (hl c (.head _))
  have h4:=zbO h (l:=l) λd hd=>hl d (.tail _ hd)
  show wt ws c*up ws l<=_
  rw[lC,lbl,laY (ws.sum ^ l.length)]
  exact lb1 (by omega) h1 (by omega) (by omega)
theorem zdf {l:List Nat}(hl:LetOk ws.length l)(h8:l.length<=31):wU ws l<=ws.sum ^ 31:=by
 have W:=uH h
 have h1:=zoR h hl
 have h2:0<ws.sum ^ (31 - l.length):=lbs (by omega)
 have h3:=lak h1 (lau h2)
 rw[← lbR] at h3
 have:l.length+(31 - l.length)=31:=by omega
 rw[this] at h3
 exact h3
theorem zjO:wU ws []=ws.sum ^ 31:=by
 show 1*ws.sum ^ (31 - 0)=_
 rw[ldV]
theorem zl9 {p:List Nat}(hp:p.length<31)(g:Nat->Int):((kids ws.length p).map λx=>g x.length*wU ws x).sum=g (p.length+1)*wU ws p:=by
 have e:((kids ws.length p).map λx=>g x.length*wU ws x)=(abcd.take ws.length).map λc=>(g (p.length+1)*(up ws p*ws.sum ^ (31 - (p.length+1))))*wt ws c:=by
  unfold kids
  rw[lY]
  refine laC λc _=>?_
  show g (p++[c]).length*(up ws (p++[c])*ws.sum ^ (31 - (p++[c]).length))=_
  have el:(p++[c]).length=p.length+1:=by simp
  rw[el,ziv]
  have:up ws p*wt ws c*ws.sum ^ (31 - (p.length+1))=up ws p*ws.sum ^ (31 - (p.length+1))*wt ws c:=by
   rw[lbi,laY (wt ws c),← lbi]
  rw[this,← lbi]
 rw[e,zkt,zno h,lbi]
 congr 1
 unfold wU
 rw[lbi,← lbl]
 have:(31 - (p.length+1)).succ=31 - p.length:=by omega
 rw[this]
end
theorem kW {i:Nat}{g:Rho->Out}{d:D}{ds:List D}{ρ ρ':Rho}(e:g (ρ.set i (.fz d))=.nx ρ'):forD i g (d::ds) ρ=forD i g ds ρ':=by
 show(match g (ρ.set i (.fz d)) with | .nx ρ'=>forD i g ds ρ' | .ct ρ'=>forD i g ds ρ' | .bk ρ'=>.nx ρ'|o=>o)=_
 rw[e]
def SG (ws:List Int)(g:Nat->Int)(B:List (List Nat)):Int:=(B.map λp=>g p.length*wU ws p).sum
theorem zlf {ws:List Int}(h:yj ws)(g:Nat->Int){B:List (List Nat)}{j:Nat}(hj:j<B.length)(h7:(B.getD j []).length<31):SG ws g (part ws.length B j)=SG ws g B+(g ((B.getD j []).length+1) - g (B.getD j []).length)*wU ws (B.getD j []):=by
 unfold SG
 rw[zi8 _ hj,zl9 h h7,Int.sub_mul]
 omega
theorem getD_mem {B:List (List Nat)}{j:Nat}(hj:j<B.length):B.getD j []∈B:=by
 rw[lm,lQ9 hj];exact laV hj
theorem zgv {ws:List Int}(h:yj ws)(a k:Int){l:List Nat}(hl:l.length<=31):znR (qF ws a) (k*(shr ws l).1,(shr ws l).2)=qF ws (a+k*wU ws l):=by
 have D:=zan h
 rw[zgr h hl]
 unfold qF
 obtain⟨g,g0,g1,g2,g3,_⟩:=wQ (u:=a) D
 obtain⟨f,f0,f1,f2,f3,_⟩:=wQ (u:=wU ws l) D
 generalize low a (ws.sum ^ 31)=x at *
 generalize low (wU ws l) (ws.sum ^ 31)=y at *
 unfold znR
 show low (x.1*y.2+k*y.1*x.2) (x.2*y.2)=_
 refine ziw (ldn g3 f3) D ?_
 rw[g1,f1]
 have e1:(x.1*y.2+k*y.1*x.2)*ws.sum ^ 31=x.1*y.2*ws.sum ^ 31+k*y.1*x.2*ws.sum ^ 31:=lds ..
 have e2:(g*x.1+k*(f*y.1))*(x.2*y.2)=g*x.1*(x.2*y.2)+k*(f*y.1)*(x.2*y.2):=lds ..
 rw[e1,e2]
 have e3:x.1*y.2*ws.sum ^ 31=g*x.1*(x.2*y.2):=by rw[g2];simp only[lbi,Int.mul_left_comm,laY]
 have e4:k*y.1*x.2*ws.sum ^ 31=k*(f*y.1)*(x.2*y.2):=by rw[f2];simp only[lbi,Int.mul_left_comm,laY]
 rw[e3,e4]
def vM (n:Nat):Int:=n
theorem zlb (ws:List Int)(g:Nat->Int)(B:List (List Nat))(p:List Nat):SG ws g (B++[p])=SG ws g B+g p.length*wU ws p:=by
 unfold SG
 rw[la4,zeR,lw,laT,lar,lei,Int.add_zero]
theorem zfA {ws:List Int}(h:yj ws){g:Nat->Int}{B:List (List Nat)}(hl:∀p∈B,LetOk ws.length p/\p.length<=31)(hg:∀n≤31,0<=g n/\g n<=100)(hB:B.length<=100):0<=SG ws g B/\SG ws g B<2 ^ 400:=by
 have D:=zan h
 have E:=zgi h
 have:=sum_bound (l:=B) (f:=λp=>g p.length*wU ws p) (k:=100*2 ^ 280) λp hp=>by
  have a:=hg p.length (hl p hp).2
  have b:=zaj h (hl p hp).1
  have c:=zdf h (hl p hp).1 (hl p hp).2
  refine⟨ldG a.1 (lau b),lb1 a.2 (by omega) (lau b) (by decide)⟩
 have b:((B.length:Nat):Int)*(100*2 ^ 280)<=100*(100*2 ^ 280):=lak (by omega) (by decide)
 have c:(100:Int)*(100*2 ^ 280)<2 ^ 400:=by decide +kernel
 unfold SG
 omega
theorem znx {ws:List Int}(h:yj ws){l:List Nat}(hl:LetOk ws.length l)(h8:l.length<=31):Fra 450 (((shr ws l).1*(l.length:Int),(shr ws l).2)):=by
 have f:=zh9 h hl h8
 obtain⟨f1,f2,f3,f4⟩:=f
 have w1:(2:Int) ^ (9*31+1)*31<2 ^ 450:=by decide +kernel
 have w2:(2:Int) ^ (9*31+1)<2 ^ 450:=by decide +kernel
 refine⟨ldG f1 (by omega),f2,?_,by show(shr ws l).2<_;omega⟩
 show(shr ws l).1*(l.length:Int)<_
 have:(shr ws l).1*(l.length:Int)<=2 ^ (9*31+1)*31:=lb1 (by omega) (by omega) (by omega) (by decide)
 omega
theorem zkW {ws:List Int}(h:yj ws){B:List (List Nat)}(hp:Pcs ws.length B)(hb:isBook ws.length B=true):jG [.tup (sI ws),.tup (sT B)]=.ok (frD (qF ws (SG ws vM B))):=by
 have hl:∀p∈B,LetOk ws.length p/\p.length<=31:=λp q=>⟨(hp.2.2.2.2 p q).1,(hp.2.2.2.2 p q).2.2⟩
 have q0:qF ws 0=(0,1):=zjD (zan h)
 have step:=wN (i:=3) (g:=zT (yh 4 (fA (ari 2 yC) (zj (fNm 0) (zj (fNm 3) zG)))) (yh 2 (fA (ari 2 zbh) (zj (fNm 2) (zj (fO mkT (zj (f2 zci (f2 ixD (fNm 4) (fC (.int 0))) (fO qM (zj (fNm 3) zG))) (zj (f2 ixD (fNm 4) (fC (.int 1))) zG))) zG))))) (l:=B) (enc:=D.str) (ρ:=[.fz (.tup (sI ws)),.fz (.tup (sT B)),.fz (frD (0,1)),.no,.no])
  (λk ρ=>∃s s',ρ=[.fz (.tup (sI ws)),.fz (.tup (sT B)),.fz (frD (qF ws (SG ws vM (B.take k)))),s,s']) ⟨.no,.no,by
   have:SG ws vM (B.take 0)=0:=by rw[leo];rfl
   rw[this,q0]⟩ (λk p ρ hc ⟨s,s',e⟩=>by
   subst e
   have hpB:p∈B:=laU hc
   have e3:B.take (k+1)=B.take k++[p]:=by rw[lbE,hc];rfl
   obtain⟨p1,p2⟩:=hl p hpB
   have bd:=zfA h (g:=vM) (B:=B.take k) (λq hq=>hl q (lb3 hq)) (λn hn=>by unfold vM;omega) (by rw[lae];have:=hp.2.2.2.1;omega)
   have sf:=zh9 h p1 p2
   have sm:=(Fra.sm sf (by decide)).1
   refine⟨_,(zA (zH (d:=frD (shr ws p)) ((fA2 (a:=.tup (sI ws)) (b:=.str p) rfl rfl).trans (zar h p1 (by omega))))).trans (zH (d:=frD (qF ws (SG ws vM (B.take (k+1))))) ((fA2 (a:=frD (qF ws (SG ws vM (B.take k)))) (b:=frD ((shr ws p).1*(p.length:Int),(shr ws p).2)) rfl (zay (zN (xM (i:=(shr ws p).1) (j:=(p.length:Int)) (fr0 (x:=shr ws p) rfl) rfl sm (ug (by omega))) (zN (fr1 (x:=shr ws p) rfl) rfl)) rfl)).trans ?_)),_,_,rfl⟩
   rw[zi6 (zcb h bd.1 bd.2) (znx h p1 p2),e3,zlb]
   have:=zgv h (SG ws vM (B.take k)) (p.length:Int) p2
   rw[laY (shr ws p).1,this];rfl)
 obtain⟨ρ',e,s,s',rfl⟩:=step
 rw[lbc (lr _)] at e
 refine zQ ((zA (vD ((fA2 (a:=.tup (sI ws)) (b:=.tup (sT B)) rfl rfl).trans (wk h hp hb)))).trans ((zA (zH (d:=frD (0,1)) rfl)).trans ((zA (xG ((yO (ds:=sT B) rfl).trans e))).trans rfl)))
theorem zkU {x y:List Nat}(h:x<y)(hn:¬x <+: y)(a:List Nat):x++a<y:=by
 induction x generalizing y with
 | nil=>exact absurd (ldo) hn
 | cons c x ih =>
  cases y with
  | nil=>exact absurd h (List.not_lt_nil _)
  | cons d y =>
   rcases laM.mp h with h1|⟨rfl,h2⟩
   ·exact laM.mpr (.inl h1)
   ·exact laM.mpr (.inr ⟨rfl,ih h2 λq=>hn (List.cons_prefix_cons.mpr ⟨rfl,q⟩)⟩)
theorem zli (m:Nat)(p:List Nat):(kids m p).Pairwise (· < ·):=by
 unfold kids
 rw[lbv]
 have:(abcd.take m).Pairwise (· < ·):=List.Pairwise.sublist (lc5 _ _) (by decide)
 exact this.imp λz=>zeE p z
theorem zjd {B:List (List Nat)}{j:Nat}(hj:j<B.length):B=B.take j++B.getD j []::B.drop (j+1):=by
 have:B.getD j []=B[j]:=by rw[lm,lQ9 hj];rfl
 rw[this]
 exact(ldd j B).symm.trans (by rw[las hj])
theorem zeX {m:Nat}{B:List (List Nat)}(hb:Book m B){j:Nat}(hj:j<B.length):B.take j++kids m (B.getD j [])++B.drop (j+1)=part m B j:=by
 have hpm:=getD_mem hj
 have sB:=strict hb.srt hb.nd
 have sp:=zjd hj
 generalize hp:B.getD j []=p at *
 rw[sp] at sB
 obtain⟨s1,s2,s3⟩:=lcw.mp sB
 obtain⟨s4,s5⟩:=lcZ.mp s2
 have er:B.eraseIdx j=B.take j++B.drop (j+1):=List.eraseIdx_eq_take_drop_succ B j
 unfold part
 rw[hp,er]
 refine sortF_eq (lc9 (λz=>leB z) ?_) ?_
 ·refine lcw.mpr ⟨lcw.mpr ⟨s1,zli m p,λx hx y hy=>?_⟩,s5,λx hx y hy=>?_⟩
  ·obtain⟨c,_,rfl⟩:=kids_mem.mp hy
   exact List.lt_trans (s3 x hx p (.head _)) (zj2 p c)
  ·rcases lat.mp hx with hx|hx
   ·exact s3 x hx y (.tail _ hy)
   ·obtain⟨c,_,rfl⟩:=kids_mem.mp hx
    have hyB:y∈B:=ldi hy
    refine zkU (s4 y hy) (λq=>?_) [c]
    have:=hb.pf p hpm y hyB q
    subst this
    exact ldD _ (s4 p hy)
 ·rw[lbu,lbu]
  exact List.Perm.append_left _ List.perm_append_comm
theorem zh7 {m:Nat}{B:List (List Nat)}(hp:Pcs m B)(hb:Book m B){p:List Nat}(h:p∈B):zag [.int m,.tup (sT B),.str p]=.ok (.tup (sT (part m B (B.idxOf p)))):=by
 have hj:=List.idxOf_lt_length_of_mem h
 have h32:=hp.2.2.2.1
 have eg:B.getD (B.idxOf p) []=p:=by rw[lm,lQ9 hj];exact lck hj
 have h8:=(hp.2.2.2.2 p h).2.2
 have ps:=zeX hb hj
 rw[eg] at ps
 have ek:zK m [p]=kids m p:=by
  unfold zK kids
  rw[lb8,List.flatMap_nil,lal]
 have m4:=hp.2.1
 have kl:=qi m m4 p
 have tk:∀(l:List (List Nat)) (n:Nat),(sT l).take n=sT (l.take n):=λl n=>by unfold sT;rw[ldU]
 have td:∀(l:List (List Nat)) (n:Nat),(sT l).drop n=sT (l.drop n):=λl n=>by unfold sT;rw[leC]
 have e1:zmm (.tup (sT B)) (.str p)=some (.int ((B.idxOf p:Nat):Int)):=by
  dsimp only [zmm]
  rw[zeS,lH ⟨zeH B,by rw[xZ];omega,h⟩]
 refine zQ ((zA (zH (d:=.int ((B.idxOf p:Nat):Int)) (zmA (a:=.tup (sT B)) (b:=.str p) rfl rfl rfl e1))).trans (yq ?_))
 refine yN (a:=.tup (sT (B.take (B.idxOf p)++kids m p))) (b:=.tup (sT (B.drop (B.idxOf p+1)))) ?_ ?_ ?_
 ·refine yN (a:=.tup (sT (B.take (B.idxOf p)))) (b:=.tup (sT (kids m p))) ?_ ?_ ?_
  ·refine zkd (a:=.tup (sT B)) (l:=none) (h:=some ((B.idxOf p:Nat):Int)) rfl rfl rfl ?_
   show some (D.tup (zdo (sT B) none (some ((B.idxOf p:Nat):Int))))=_
   rw[zbd,tk]
  ·refine zay (ds:=[.lst (sT (kids m p))]) (zN ((fA2 (a:=.int m) (b:=.lst (sT [p])) rfl rfl).trans ?_) rfl) rfl
   rw[u5 [p] (λx hx=>by rw[lK.mp hx];omega) (by show 4*1<=_;decide),ek]
  ·show(if (sT (B.take (B.idxOf p))).length+(sT (kids m p)).length<=1000000 then some (D.tup (sT (B.take (B.idxOf p))++sT (kids m p))) else none)=_
   rw[lH (by rw[xZ,xZ,lae];omega),zfL]
 ·refine zkd (a:=.tup (sT B)) (l:=some ((B.idxOf p+1:Nat):Int)) (h:=none) rfl ?_ rfl ?_
  ·rfl
  ·show some (D.tup (zdo (sT B) (some ((B.idxOf p+1:Nat):Int)) none))=_
   rw[zfm,td]
 ·show(if (sT (B.take (B.idxOf p)++kids m p)).length+(sT (B.drop (B.idxOf p+1))).length<=1000000 then some (D.tup (sT (B.take (B.idxOf p)++kids m p)++sT (B.drop (B.idxOf p+1)))) else none)=_
  rw[lH (by rw[xZ,xZ,lG,lae,lcB];omega),zfL,ps]
def xr (ws:List Int):List (List Nat)->Int->Int
 | [],a=>a
 | x::L,a=>xr ws L (if wU ws x<a then wU ws x else a)
theorem j4 (ws:List Int):∀(L:List (List Nat)) (a:Int),xr ws L a<=a/\(∀x∈L,xr ws L a<=wU ws x)/\(xr ws L a=a∨∃x∈L,xr ws L a=wU ws x)
 | [],a=>⟨lc8 _,(λx hx=>by cases hx),.inl rfl⟩
 | y :: L,a=>by
  obtain⟨h1,h2,h3⟩:=j4 ws L (if wU ws y<a then wU ws y else a)
  show xr ws L (if wU ws y<a then wU ws y else a)<=a/\_
  have e:xr ws (y::L) a=xr ws L (if wU ws y<a then wU ws y else a):=rfl
  rw[e]
  by_cases c:wU ws y<a
  ·rw [lH c] at h1 h2 h3 ⊢
   refine⟨by omega,λx hx=>?_,?_⟩
   ·rcases lB.mp hx with rfl|hx
    ·exact h1
    ·exact h2 x hx
   ·rcases h3 with h3|⟨x,hx,h3⟩
    ·exact .inr ⟨y,.head _,h3⟩
    ·exact .inr ⟨x,.tail _ hx,h3⟩
  ·rw [lap c] at h1 h2 h3 ⊢
   refine⟨h1,λx hx=>?_,?_⟩
   ·rcases lB.mp hx with rfl|hx
    ·omega
    ·exact h2 x hx
   ·rcases h3 with h3|⟨x,hx,h3⟩
    ·exact .inl h3
    ·exact .inr ⟨x,.tail _ hx,h3⟩
theorem znP {ws:List Int}(h:yj ws):qF ws (ws.sum ^ 31)=(1,1):=by
 rw[← zjO h,← zgr h (l:=[]) (by decide),zlE h]
theorem zb6 {ws:List Int}(h:yj ws){B:List (List Nat)}(hp:Pcs ws.length B)(hb:Book ws.length B)(hk:(zq B).length<64):wR [.tup (sI ws),.tup (sT B)]=.ok (frD (qF ws (xr ws (sortF (zq B)) (ws.sum ^ 31)))):=by
 have hin:=jL (ps:=B) (λp q=>(hp.2.2.2.2 p q).2.2) (by have:=hp.2.2.2.1;omega) hk
 have hL:∀x∈sortF (zq B),LetOk ws.length x/\x.length<=31:=λx hx=>by
  have hi:=innerKeys_mem.mp (sortF_mem.mp hx)
  refine⟨hb.innerLet hi,?_⟩
  obtain⟨p,hpB,hpre,_⟩:=hi
  exact laj hpre.length_le (hp.2.2.2.2 p hpB).2.2
 generalize sortF (zq B)=L at *
 have D:=zan h
 have E:=zgi h
 have w:(2:Int) ^ 280<2 ^ 400:=by decide +kernel
 have key:∀(K:List (List Nat)) (a:Int) (s s':Sl),(∀x∈K,LetOk ws.length x/\x.length<=31)->0<=a->a<2 ^ 400->∃s1 s2,forD 3 (zT (yh 4 (fA (ari 2 yC) (zj (fNm 0) (zj (fNm 3) zG)))) (sIf (bT (fA (ari 2 yu) (zj (fNm 4) (zj (fNm 2) zG)))) (yh 2 (fNm 4)) sNx)) (sT K) [.fz (.tup (sI ws)),.fz (.tup (sT B)),.fz (frD (qF ws a)),s,s']=.nx [.fz (.tup (sI ws)),.fz (.tup (sT B)),.fz (frD (qF ws (xr ws K a))),s1,s2]:=by
  intro K
  induction K with
  | nil=>intro a s s' _ _ _;exact⟨s,s',rfl⟩
  | cons x K ih =>
   intro a s s' hK a0 a1
   obtain⟨x1,x2⟩:=hK x (.head _)
   have u0:=zaj h x1
   have u1:=zdf h x1 x2
   have e1:(yh 4 (fA (ari 2 yC) (zj (fNm 0) (zj (fNm 3) zG)))) [.fz (.tup (sI ws)),.fz (.tup (sT B)),.fz (frD (qF ws a)),.fz (.str x),s']=.nx [.fz (.tup (sI ws)),.fz (.tup (sT B)),.fz (frD (qF ws a)),.fz (.str x),.fz (frD (qF ws (wU ws x)))]:=by
    have:=zH (i:=4) (d:=frD (shr ws x)) (ρ:=[.fz (.tup (sI ws)),.fz (.tup (sT B)),.fz (frD (qF ws a)),.fz (.str x),s']) ((fA2 (a:=.tup (sI ws)) (b:=.str x) (f:=fNm 0) (g:=fNm 3) rfl rfl).trans (zar h x1 (by omega)))
    rw[zgr h x2] at this
    exact this
   have e2:bT (fA (ari 2 yu) (zj (fNm 4) (zj (fNm 2) zG))) [.fz (.tup (sI ws)),.fz (.tup (sT B)),.fz (frD (qF ws a)),.fz (.str x),.fz (frD (qF ws (wU ws x)))]=.ok (decide (wU ws x<a)):=jA (((fA2 (a:=frD (qF ws (wU ws x))) (b:=frD (qF ws a)) rfl rfl).trans (jo (zcb h (by omega) (by omega)) (zcb h a0 a1))).trans (by rw[zfs h]))
   by_cases c:wU ws x<a
   ·rw[lW c] at e2
    obtain⟨s1,s2,k⟩:=ih (wU ws x) (.fz (.str x)) (.fz (frD (qF ws (wU ws x)))) (λy hy=>hK y (.tail _ hy)) (by omega) (by omega)
    refine⟨s1,s2,?_⟩
    have:xr ws (x::K) a=xr ws K (wU ws x):=by show xr ws K (if wU ws x<a then wU ws x else a)=_;rw[lH c]
    rw[this]
    exact(kW ((zA e1).trans ((zhD e2).trans (zH (d:=frD (qF ws (wU ws x))) rfl)))).trans k
   ·rw[lN c] at e2
    obtain⟨s1,s2,k⟩:=ih a (.fz (.str x)) (.fz (frD (qF ws (wU ws x)))) (λy hy=>hK y (.tail _ hy)) a0 a1
    refine⟨s1,s2,?_⟩
    have:xr ws (x::K) a=xr ws K a:=by show xr ws K (if wU ws x<a then wU ws x else a)=_;rw[lap c]
    rw[this]
    exact(kW ((zA e1).trans ((zaH e2).trans rfl))).trans k
 obtain⟨s1,s2,k⟩:=key L (ws.sum ^ 31) .no .no hL (by omega) (by omega)
 rw[znP h] at k
 refine zQ ((zA (vD ((fA2 (a:=.tup (sI ws)) (b:=.tup (sT B)) rfl rfl).trans (wk h hp hb.isBook)))).trans ((zA (zH (d:=frD (1,1)) rfl)).trans ((zA (xG ((yO (ds:=sT L) ?_).trans k))).trans rfl)))
 show(fA (ari 1 wD) (zj (fNm 1) zG) [.fz (.tup (sI ws)),.fz (.tup (sT B)),.fz (frD (1,1)),.no,.no]).bind _=_
 rw[fA1 (a:=.tup (sT B)) rfl,hin];rfl
def gpF (ws:List Int):List (List Nat)->List Nat->List Nat
 | [],f=>f
 | x::L,f=>gpF ws L (if wU ws f<wU ws x then x else f)
theorem zc9 (ws:List Int):∀(L:List (List Nat)) (f:List Nat),wU ws f<=wU ws (gpF ws L f)/\(∀x∈L,wU ws x<=wU ws (gpF ws L f))/\(gpF ws L f=f∨gpF ws L f∈L)
 | [],f=>⟨lc8 _,(λx hx=>by cases hx),.inl rfl⟩
 | y :: L,f=>by
  obtain⟨h1,h2,h3⟩:=zc9 ws L (if wU ws f<wU ws y then y else f)
  have e:gpF ws (y::L) f=gpF ws L (if wU ws f<wU ws y then y else f):=rfl
  rw[e]
  by_cases c:wU ws f<wU ws y
  ·rw [lH c] at h1 h2 h3 ⊢
   refine⟨by omega,λx hx=>?_,.inr ?_⟩
   ·rcases lB.mp hx with rfl|hx
    ·exact h1
    ·exact h2 x hx
   ·rcases h3 with h3|h3
    ·rw[h3];exact .head _
    ·exact .tail _ h3
  ·rw[lap c] at h1 h2 h3 ⊢
   refine⟨h1,λx hx=>?_,h3.imp_right (.tail _)⟩
   rcases lB.mp hx with rfl|hx
   ·omega
   ·exact h2 x hx
def shD (ws:List Int)(L:List (List Nat)):List (List Nat×D):=L.map λx=>(x,frD (qF ws (wU ws x)))
theorem zd9 {ws:List Int}(h:yj ws){B:List (List Nat)}(hl:∀p∈B,LetOk ws.length p/\p.length<=31)(nd:B.Nodup)(h32:B.length<=32):kh [.tup (sI ws),.tup (sT B)]=.ok (.dct (shD ws B)):=by
 have step:=wN (i:=3) (g:=zaB 2 (fNm 3) (fA (ari 2 yC) (zj (fNm 0) (zj (fNm 3) zG)))) (l:=B) (enc:=D.str) (ρ:=[.fz (.tup (sI ws)),.fz (.tup (sT B)),.od [],.no])
  (λk ρ=>∃s,ρ=[.fz (.tup (sI ws)),.fz (.tup (sT B)),.od (shD ws (B.take k)),s]) ⟨.no,rfl⟩ (λk p ρ hc ⟨s,e⟩=>by
   subst e
   have hk:k<B.length:=(lv.mp hc).1
   have hpB:p∈B:=laU hc
   have e3:B.take (k+1)=B.take k++[p]:=by rw[lbE,hc];rfl
   obtain⟨p1,p2⟩:=hl p hpB
   have hnin:p∉B.take k:=by
    intro hm
    rw[← ldd k B] at nd
    have hd:p∈B.drop k:=by
     rw[las hk]
     have:B[k]=p:=(lv.mp hc).2
     rw[this];exact .head _
    exact(lbN.mp nd).2.2 p hm p hd rfl
   have e4:putD (shD ws (B.take k)) p (frD (qF ws (wU ws p)))=shD ws (B.take (k+1)):=by
    unfold putD
    have:((shD ws (B.take k)).any λkv=>decide (kv.1=p))=false:=by
     rw[List.any_eq_false]
     intro kv hkv
     obtain⟨x,hx,rfl⟩:=lah.mp hkv
     intro z
     exact hnin (lc6 z▸hx)
    rw[this,lap (by decide),e3]
    unfold shD
    rw[la4];rfl
   refine⟨[.fz (.tup (sI ws)),.fz (.tup (sT B)),.od (putD (shD ws (B.take k)) p (frD (qF ws (wU ws p)))),.fz (.str p)],zeU (v:=frD (qF ws (wU ws p))) (k:=p) rfl (((fA2 (a:=.tup (sI ws)) (b:=.str p) rfl rfl).trans (zar h p1 (by omega))).trans (by rw[zgr h p2])) rfl (by unfold shD;rw[lh,lae];omega),.fz (.str p),?_⟩
   rw[e4])
 obtain⟨ρ',e,s,rfl⟩:=step
 rw[lbc (lr _)] at e
 exact zQ ((zA (ρ':=[.fz (.tup (sI ws)),.fz (.tup (sT B)),.od [],.no]) rfl).trans ((zA (xG ((yO (ds:=sT B) rfl).trans e))).trans rfl))
theorem zbC {ws:List Int}:∀{B:List (List Nat)}{p:List Nat},p∈B->getD (.dct (shD ws B)) (.str p)=some (frD (qF ws (wU ws p)))
 | x::B,p,h=>by
  show Option.map _ (List.find? _ ((x,_)::shD ws B))=_
  by_cases e:x=p
  ·subst e
   rw[lc4 (by simp)];rfl
  ·rw[lci (by simpa using e)]
   rcases lB.mp h with rfl|h
   ·exact absurd rfl e
   ·exact zbC h
theorem ze6 {ws:List Int}(h:yj ws){B:List (List Nat)}(hp:Pcs ws.length B)(hb:Book ws.length B):xq [.tup (sI ws),.tup (sT B)]=.ok (.str (gpF ws B (B.getD 0 []))):=by
 have hl:∀p∈B,LetOk ws.length p/\p.length<=31:=λp q=>⟨(hp.2.2.2.2 p q).1,(hp.2.2.2.2 p q).2.2⟩
 have h0:0<B.length:=by
  cases B with
  | nil=>exact absurd rfl hp.2.2.1
  | cons=>exact Nat.succ_pos _
 have E:=zgi h
 have w:(2:Int) ^ 280<2 ^ 400:=by decide +kernel
 have key:∀(K:List (List Nat)) (f:List Nat) (s:Sl),(∀x∈K,x∈B)->f∈B->∃s1,forD 3 (sIf (bT (fA (ari 2 yu) (zj (f2 getD (fNm 1) (fNm 2)) (zj (f2 getD (fNm 1) (fNm 3)) zG)))) (yh 2 (fNm 3)) sNx) (sT K) [.fz (.tup (sT B)),.fz (.dct (shD ws B)),.fz (.str f),s]=.nx [.fz (.tup (sT B)),.fz (.dct (shD ws B)),.fz (.str (gpF ws K f)),s1]:=by
  intro K
  induction K with
  | nil=>intro f s _ _;exact⟨s,rfl⟩
  | cons x K ih =>
   intro f s hK hf
   have hx:=hK x (.head _)
   have x0:=zaj h (hl x hx).1
   have x1:=zdf h (hl x hx).1 (hl x hx).2
   have f0:=zaj h (hl f hf).1
   have f1:=zdf h (hl f hf).1 (hl f hf).2
   have e2:bT (fA (ari 2 yu) (zj (f2 getD (fNm 1) (fNm 2)) (zj (f2 getD (fNm 1) (fNm 3)) zG))) [.fz (.tup (sT B)),.fz (.dct (shD ws B)),.fz (.str f),.fz (.str x)]=.ok (decide (wU ws f<wU ws x)):=jA (((fA2 (a:=frD (qF ws (wU ws f))) (b:=frD (qF ws (wU ws x))) (yN (a:=.dct (shD ws B)) (b:=.str f) rfl rfl (zbC hf)) (yN (a:=.dct (shD ws B)) (b:=.str x) rfl rfl (zbC hx))).trans (jo (zcb h (by omega) (by omega)) (zcb h (by omega) (by omega)))).trans (by rw[zfs h]))
   by_cases c:wU ws f<wU ws x
   ·rw[lW c] at e2
    obtain⟨s1,k⟩:=ih x (.fz (.str x)) (λy hy=>hK y (.tail _ hy)) hx
    refine⟨s1,?_⟩
    have:gpF ws (x::K) f=gpF ws K x:=by show gpF ws K (if wU ws f<wU ws x then x else f)=_;rw[lH c]
    rw[this]
    exact(kW ((zhD e2).trans (zH (d:=.str x) rfl))).trans k
   ·rw[lN c] at e2
    obtain⟨s1,k⟩:=ih f (.fz (.str x)) (λy hy=>hK y (.tail _ hy)) hf
    refine⟨s1,?_⟩
    have:gpF ws (x::K) f=gpF ws K f:=by show gpF ws K (if wU ws f<wU ws x then x else f)=_;rw[lap c]
    rw[this]
    exact(kW ((zaH e2).trans rfl)).trans k
 obtain⟨s1,k⟩:=key B (B.getD 0 []) .no (λx hx=>hx) (getD_mem h0)
 have e1:yp [.tup (sT B),.dct (shD ws B)]=.ok (.str (gpF ws B (B.getD 0 []))):=by
  refine zQ ((zA (zH (d:=.str (B.getD 0 [])) (yN (a:=.tup (sT B)) (b:=.int 0) rfl rfl ?_))).trans ((zA (xG ((yO (ds:=sT B) rfl).trans k))).trans rfl))
  exact zmG h0
 exact zQ ((zA (vD ((fA2 (a:=.tup (sI ws)) (b:=.tup (sT B)) rfl rfl).trans (wk h hp hb.isBook)))).trans (yq ((fA2 (a:=.tup (sT B)) (b:=.dct (shD ws B)) rfl ((fA2 (a:=.tup (sI ws)) (b:=.tup (sT B)) rfl rfl).trans (zd9 h hl hb.nd hp.2.2.2.1))).trans e1)))
def zjL (ns:List Int)(at':Nat)(m:Nat):List Int:=(List.range m).map λ(k:Nat)=>1+vz ns (at'+1+(k:Int)) ([3,9,99].getD (vz ns at' 3).toNat 0)
theorem zdQ (ns:List Int)(at':Int):∃q:Int,([3,9,99]:List Int).getD (vz ns at' 3).toNat 0=q/\0<q/\q<=99/\ixD (.lst [.int 3,.int 9,.int 99]) (.int (vz ns at' 3))=some (.int q):=by
 have hd:=yr ns at' (m:=3) (by decide)
 obtain⟨r,hr⟩:=lZ hd.1
 rw[hr] at hd ⊢
 have:r=0∨r=1∨r=2:=by omega
 rcases this with rfl|rfl|rfl
 ·exact⟨3,rfl,by decide,by decide,rfl⟩
 ·exact⟨9,rfl,by decide,by decide,rfl⟩
 ·exact⟨99,rfl,by decide,by decide,rfl⟩
theorem zkn (ns:List Int)(at':Nat){m:Nat}(m2:2<=m)(m4:m<=4):yj (zjL ns at' m)/\(zjL ns at' m).length=m:=by
 have hl:(zjL ns at' m).length=m:=by simp[zjL]
 obtain⟨q,e,q0,q1,_⟩:=zdQ ns at'
 refine⟨⟨by omega,by omega,λw hw=>?_⟩,hl⟩
 obtain⟨k,_,rfl⟩:=lah.mp hw
 rw[e]
 have:=yr ns (at'+1+(k:Int)) (m:=q) q0
 omega
theorem zhW (ns:List Int)(hn:ns.length<=63)(at':Nat){m:Nat}(m2:2<=m)(m4:m<=4)(hat:at'<=900):uP [scD ns,.int at',.int m]=.ok (.tup (sI (zjL ns at' m))):=by
 obtain⟨q,e,q0,q1,eq⟩:=zdQ ns at'
 refine zQ ((zA (zH (d:=.int q) (yN (a:=.lst [.int 3,.int 9,.int 99]) (b:=.int (vz ns at' 3)) rfl ((fA3 (a:=scD ns) (b:=.int at') (c:=.int 3) rfl rfl rfl).trans (wV ns hn at' 3 (by omega) (by omega) (by decide))) eq))).trans (yq (zay (ds:=[.lst (sI (zjL ns at' m))]) (zN (vA (ds:=(List.range m).map λ(k:Nat)=>.int (k:Int)) ?_ (by rw[lh,lad];omega) ?_) rfl) rfl)))
 ·exact zb0 (ds:=[.int (m:Int)]) rfl (wO (by omega))
 ·have hk:∀k∈List.range m,f2 qX (fC (.int 1)) (fA (ari 3 zM) (zj (fNm 1) (zj (f2 qX (f2 qX (fNm 3) (fC (.int 1))) (fNm 0)) (zj (fNm 2) zG)))) ([Sl.no,.fz (scD ns),.fz (.int q),.fz (.int at')].set 0 (.fz (D.int (k:Int))))=.ok (.int (1+vz ns (at'+1+(k:Int)) q)):=λk hk=>by
   have:=la6.mp hk
   exact xN rfl ((fA3 (a:=scD ns) (b:=.int ((at':Int)+1+(k:Int))) (c:=.int q) rfl (xN (xN rfl rfl) rfl) rfl).trans (wV ns hn _ q (by omega) (by omega) q0))
  have:=yx (l:=List.range m) (enc:=λ(k:Nat)=>D.int (k:Int)) (λk=>.int (1+vz ns (at'+1+(k:Int)) q)) hk
  have e2:sI (zjL ns at' m)=(List.range m).map λ(k:Nat)=>D.int (1+vz ns (at'+1+(k:Int)) q):=by
   unfold sI zjL
   rw[lY,e];rfl
  rw[e2]
  exact this
end Pg
namespace My
theorem zbg {q p:List Nat}(h:q <+: p)(hn:q≠p):q <+: p.dropLast:=by
 rcases List.eq_nil_or_concat p with rfl|⟨l,c,rfl⟩
 ·exact absurd (ldp.mp h) hn
 ·rw[List.concat_eq_append] at h hn ⊢
  rw[lcx]
  rcases lbo.mp h with e|e
  ·exact absurd e hn
  ·exact e
theorem zgL {p:List Nat}(h:p≠[]):p.dropLast≠p:=λe=>by
 have:=lbj List.length e
 have:=lbF.mpr h
 rw[lcv] at *
 omega
theorem Inner.pre {B:List (List Nat)}{x y:List Nat}(h:Inner B y)(p:x <+: y):Inner B x:=by
 obtain⟨q,hq,hy,hn⟩:=h
 refine⟨q,hq,p.trans hy,λe=>hn ?_⟩
 subst e
 exact hy.eq_of_length (leg hy.length_le p.length_le)
theorem Book.inner_not {m:Nat}{B:List (List Nat)}(h:Book m B){x y:List Nat}(hx:Inner B x)(hy:y <+: x):y∉B:=λhyB=>h.free hx y hy (h.ne y hyB) hyB
theorem Book.mem_iff {m:Nat}{B:List (List Nat)}(h:Book m B){p:List Nat}:p∈B↔p≠[]/\LetOk m p/\Inner B p.dropLast/\¬Inner B p:=by
 constructor
 ·intro hp
  exact⟨h.ne p hp,h.let_ p hp,⟨p,hp,lbK p,zgL (h.ne p hp)⟩,λhi=>h.inner_not hi (lce p) hp⟩
 ·rintro ⟨hn,hl,hi,hni⟩
  obtain⟨q,hq,e|e⟩:=h.cv p hl
  ·by_cases eq:q=p
   ·exact eq▸hq
   ·exact absurd hq (h.inner_not hi (zbg e eq))
  ·by_cases eq:p=q
   ·exact eq▸hq
   ·exact absurd ⟨q,hq,e,eq⟩ hni
theorem Book.ext {m:Nat}{B C:List (List Nat)}(h:Book m B)(k:Book m C)(e:∀x,Inner B x↔Inner C x):B=C:=by
 have p:B.Perm C:=(lbB h.nd k.nd).mpr λp=>by rw[h.mem_iff,k.mem_iff,e,e]
 exact lcN (λ_ _ _ _ h k=>ld2 h k) h.srt k.srt p
structure Clo (m:Nat)(P:List Nat->Prop):Prop where
 nil:P []
 let_:∀x,P x->LetOk m x
 pre:∀x y,x <+: y->P y->P x
 bd:∃N,∀x,P x->x.length<N
theorem Book.clo {m:Nat}{B:List (List Nat)}(h:Book m B):Clo m (Inner B) where
 nil:=h.nilInner
 let_:=λx hx=>h.innerLet hx
 pre:=λx y p hy=>hy.pre p
 bd := by
  have:∃N,∀p∈B,p.length<=N:=by
   clear h
   induction B with
   | nil=>exact⟨0,by simp⟩
   | cons q B ih =>
    obtain⟨N,hN⟩:=ih
    refine⟨max N q.length,λp hp=>?_⟩
    rcases lB.mp hp with rfl|hp
    ·exact Nat.le_max_right _ _
    ·exact laj (hN p hp) (Nat.le_max_left _ _)
  obtain⟨N,hN⟩:=this
  refine⟨N+1,λx hq38=>?_⟩
  obtain⟨p,hp,hx,_⟩:=hq38
  have:=hN p hp
  have:=hx.length_le
  omega
theorem Book.of {m:Nat}(m2:2<=m)(m4:m<=4){P:List Nat->Prop}(c:Clo m P){L:List (List Nat)}(s:L.Pairwise (·<=·))(n:L.Nodup)(hm:∀p,p∈L↔p≠[]/\LetOk m p/\P p.dropLast/\¬P p):Book m L/\∀x,Inner L x↔P x:=by
 have h97:97∈abcd.take m:=uz m4 (by omega)
 obtain⟨N,hN⟩:=c.bd
 have up:∀(k:Nat) (x:List Nat),P x->N<=x.length+k->∃q∈L,x <+: q/\x≠q:=by
  intro k
  induction k with
  | zero=>intro x hx hk;have:=hN x hx;omega
  | succ k ih =>
   intro x hx hk
   by_cases hy:P (x++[97])
   ·obtain⟨q,hq,h1,h2⟩:=ih (x++[97]) hy (by simp;omega)
    refine⟨q,hq,(lbd _ _).trans h1,λe=>?_⟩
    have:=h1.length_le
    rw[← e,lG,ldb] at this
    omega
   ·refine⟨x++[97],(hm _).mpr ⟨by simp,(c.let_ x hx).app (LetOk.one h97),?_,hy⟩,lbd _ _,λe=>zcS x 97 e.symm⟩
    rw[lcx];exact hx
 have down:∀(k:Nat) (x:List Nat),x.length<=k->LetOk m x->¬P x->∃q∈L,q <+: x:=by
  intro k
  induction k with
  | zero =>
   intro x hk _ hx
   have:x=[]:=la2.mp (by omega)
   subst this
   exact absurd c.nil hx
  | succ k ih =>
   intro x hk hl hx
   have hne:x≠[]:=λe=>hx (e▸c.nil)
   by_cases hd:P x.dropLast
   ·exact⟨x,(hm x).mpr ⟨hne,hl,hd,hx⟩,lce x⟩
   ·obtain⟨q,hq,e⟩:=ih x.dropLast (by rw[lcv];omega) (hl.pre (lbK x)) hd
    exact⟨q,hq,e.trans (lbK x)⟩
 have inn:∀x,Inner L x↔P x:=λx=>by
  constructor
  ·rintro⟨p,hp,h1,h2⟩
   exact c.pre _ _ (zbg h1 h2) ((hm p).mp hp).2.2.1
  ·intro hx
   obtain⟨q,hq,h1,h2⟩:=up N x hx (by omega)
   exact⟨q,hq,h1,h2⟩
 refine⟨⟨m2,m4,λp hp=>((hm p).mp hp).2.1,λp hp=>((hm p).mp hp).1,λp hp q hq h=>?_,λx hx=>?_,s,n⟩,inn⟩
 ·by_cases e:p=q
  ·exact e
  ·exact absurd (c.pre _ _ (zbg h e) ((hm q).mp hq).2.2.1) ((hm p).mp hp).2.2.2
 ·by_cases hP:P x
  ·obtain⟨q,hq,h1,_⟩:=up N x hP (by omega)
   exact⟨q,hq,.inr h1⟩
  ·obtain⟨q,hq,h1⟩:=down x.length x (lr _) hx hP
   exact⟨q,hq,.inl h1⟩
def Head (m:Nat)(B:List (List Nat))(x:List Nat):Prop:=x≠[]/\∀k∈kids m x,k∈B
def zcI (B:List (List Nat))(x:List Nat):List (List Nat):=sortF (B.filter (λp=>!x.isPrefixOf p)++[x])
theorem Head.inner {m:Nat}{B:List (List Nat)}(h:Book m B){x:List Nat}(hx:Head m B x):Inner B x:=by
 have h97:97∈abcd.take m:=uz h.m4 (by have:=h.m2;omega)
 exact⟨x++[97],hx.2 _ (kids_mem.mpr ⟨97,h97,rfl⟩),lbd _ _,λe=>zcS x 97 e.symm⟩
theorem Head.top {m:Nat}{B:List (List Nat)}(h:Book m B){x y:List Nat}(hx:Head m B x)(hy:Inner B y)(p:x <+: y):y=x:=by
 obtain⟨r,rfl⟩:=p
 cases r with
 | nil=>simp
 | cons c r =>
  have hc:=h.innerLet hy c (by simp)
  exact absurd (hx.2 _ (kids_mem.mpr ⟨c,uz h.m4 hc,rfl⟩)) (h.inner_not hy ⟨r,by simp⟩)
theorem Book.join {m:Nat}{B:List (List Nat)}(h:Book m B){x:List Nat}(hx:Head m B x):Book m (zcI B x)/\∀y,Inner (zcI B x) y↔Inner B y/\y≠x:=by
 have hi:=hx.inner h
 have hxB:x∉B:=h.inner_not hi (lce x)
 refine Book.of h.m2 h.m4 (P:=λy=>Inner B y/\y≠x) ⟨⟨h.nilInner,λe=>hx.1 e.symm⟩,λy hy=>h.innerLet hy.1,λy z p hz=>⟨hz.1.pre p,λe=>hz.2 (hx.top h hz.1 (e▸p))⟩,?_⟩ (j6 _) ?_ λp=>?_
 ·obtain⟨N,hN⟩:=h.clo.bd
  exact⟨N,λy hy=>hN y hy.1⟩
 ·refine(yF _).nodup_iff.mpr (lbN.mpr ⟨h.nd.filter _,by simp,λa ha b hb e=>?_⟩)
  rw[lK.mp hb] at e
  subst e
  exact hxB (lbG.mp ha).1
 ·unfold zcI
  rw[sortF_mem,lat,lbG,lK]
  have nb:(!x.isPrefixOf p)=true↔¬x <+: p:=by rw[lc7,← Bool.not_eq_true,laJ]
  rw[nb]
  constructor
  ·rintro (⟨hp,hnp⟩|rfl)
   ·obtain⟨a,b,c,d⟩:=h.mem_iff.mp hp
    exact⟨a,b,⟨c,λe=>hnp (e▸lbK p)⟩,λe=>d e.1⟩
   ·exact⟨hx.1,h.innerLet hi,⟨hi.pre (lbK _),zgL hx.1⟩,λe=>e.2 rfl⟩
  ·rintro ⟨a,b,⟨c,c'⟩,d⟩
   by_cases e:p=x
   ·exact .inr e
   ·have hp:p∈B:=h.mem_iff.mpr ⟨a,b,c,λz=>d ⟨z,e⟩⟩
    exact .inl ⟨hp,λz=>c' (hx.top h c (zbg z λz'=>e z'.symm))⟩
theorem Book.partAt {m:Nat}{B:List (List Nat)}(h:Book m B){p:List Nat}(hp:p∈B):Book m (My.part m B (B.idxOf p))/\∀x,Inner (My.part m B (B.idxOf p)) x↔Inner B x∨x=p:=by
 have hj:B.idxOf p<B.length:=laq.mpr hp
 refine⟨h.part hj,λx=>?_⟩
 rw[j5 h.m2 h.m4 h hj]
 have:B.getD (B.idxOf p) []=p:=by rw[lm,lQ9 hj];exact lck hj
 rw[this]
theorem Book.head_mem {m:Nat}{B:List (List Nat)}(h:Book m B){x:List Nat}(hx:Head m B x):x∈zcI B x:=by
 unfold zcI;rw[sortF_mem];simp
theorem Book.join_part {m:Nat}{B:List (List Nat)}(h:Book m B){x:List Nat}(hx:Head m B x):My.part m (zcI B x) ((zcI B x).idxOf x)=B:=by
 obtain⟨hb,hi⟩:=h.join hx
 obtain⟨kb,ki⟩:=hb.partAt (h.head_mem hx)
 refine kb.ext h λy=>?_
 rw[ki,hi]
 constructor
 ·rintro(⟨a,_⟩|rfl)
  ·exact a
  ·exact hx.inner h
 ·intro a
  by_cases e:y=x
  ·exact .inr e
  ·exact .inl ⟨a,e⟩
theorem zaA {m:Nat}(m2:2<=m)(m4:m<=4)(x:List Nat):Inner (kids m []) x↔x=[]:=by
 constructor
 ·rintro⟨p,hp,hx,hn⟩
  obtain⟨c,_,rfl⟩:=kids_mem.mp hp
  rcases lbo.mp hx with e|e
  ·exact absurd e hn
  ·exact ldp.mp e
 ·rintro rfl
  exact(Book.letters m2 m4).nilInner
theorem longest (L:List (List Nat))(P:List Nat->Prop) [DecidablePred P](h:∃x∈L,P x):∃x∈L,P x/\∀y∈L,P y->y.length<=x.length:=by
 induction L with
 | nil=>obtain⟨x,hx,_⟩:=h;cases hx
 | cons a L ih =>
  by_cases hL:∃x∈L,P x
  ·obtain ⟨x,hx,px,mx⟩:=ih hL
   by_cases ha:P a/\x.length<=a.length
   ·refine⟨a,.head _,ha.1,λy hy py=>?_⟩
    rcases lB.mp hy with rfl|hy
    ·exact lr _
    ·exact laj (mx y hy py) ha.2
   ·refine ⟨x,.tail _ hx,px,λy hy py=>?_⟩
    rcases lB.mp hy with rfl|hy
    ·have:¬x.length<=y.length:=λz=>ha ⟨py,z⟩
     omega
    ·exact mx y hy py
  ·obtain ⟨x,hx,px⟩:=h
   rcases lB.mp hx with rfl|hx
   ·refine⟨x,.head _,px,λy hy py=>?_⟩
    rcases lB.mp hy with rfl|hy
    ·exact lr _
    ·exact absurd ⟨y,hy,py⟩ hL
   ·exact absurd ⟨x,hx,px⟩ hL
theorem Book.hasHead {m:Nat}{B:List (List Nat)}(h:Book m B)(hx:∃x,Inner B x/\x≠[]):∃x,Head m B x:=by
 obtain⟨x0,h0,h1⟩:=hx
 obtain⟨x,hxk,hxn,hmax⟩:=longest (zq B) (λx=>x≠[]) ⟨x0,innerKeys_mem.mpr h0,h1⟩
 refine⟨x,hxn,λk hk=>?_⟩
 obtain⟨c,hc,rfl⟩:=kids_mem.mp hk
 rcases h.step (innerKeys_mem.mp hxk) hc with⟨a,_⟩|⟨_,a⟩
 ·have:=hmax _ (innerKeys_mem.mpr a) (by simp)
  rw[lG,ldb] at this
  omega
 ·exact a
theorem zhv {m:Nat}{B:List (List Nat)}(h:Book m B){x:List Nat}(hx:Head m B x):(zq (zcI B x)).length+1<=(zq B).length:=by
 obtain⟨hb,hi⟩:=h.join hx
 have:(x::zq (zcI B x)).length<=(zq B).length:=by
  refine lca (lbQ.mpr ⟨λz=>((hi x).mp (innerKeys_mem.mp z)).2 rfl,z7 _⟩) λy hy=>?_
  rcases lB.mp hy with rfl|hy
  ·exact innerKeys_mem.mpr (hx.inner h)
  ·exact innerKeys_mem.mpr ((hi y).mp (innerKeys_mem.mp hy)).1
 simpa using this
theorem Book.gr {m:Nat}:∀(n:Nat) {B:List (List Nat)},Book m B->(zq B).length<=n->∃t,Gr m t B:=by
 intro n
 induction n with
 | zero =>
  intro B h hn
  have:[]∈zq B:=innerKeys_mem.mpr h.nilInner
  rw[la2.mp (Nat.le_zero.mp hn)] at this
  cases this
 | succ n ih =>
  intro B h hn
  by_cases hx:∃x,Inner B x/\x≠[]
  ·obtain⟨x,hx⟩:=h.hasHead hx
   obtain⟨t,g⟩:=ih (h.join hx).1 (by have:=zhv h hx;omega)
   refine⟨t+1,?_⟩
   have:=Gr.s g (laq.mpr (h.head_mem hx))
   rwa [h.join_part hx] at this
  ·refine ⟨0,?_⟩
   have e:B=kids m []:=h.ext (Book.letters h.m2 h.m4) λx=>by
    rw[zaA h.m2 h.m4]
    constructor
    ·intro hi
     by_cases e:x=[]
     ·exact e
     ·exact absurd ⟨x,hi,e⟩ hx
    ·rintro rfl;exact h.nilInner
   rw[e];exact Gr.z
theorem Book.grAt {m:Nat}{B:List (List Nat)}(h:Book m B):∃t,Gr m t B/\(zq B).length=t+1/\B.length=m+t*(m - 1):=by
 obtain⟨t,g⟩:=Book.gr _ h (lr _)
 exact⟨t,g,g.keysEq h.m2 h.m4,g.len h.m2 h.m4⟩
theorem zaQ {α:Type}(p:α->Bool):∀l:List α,(l.filter λx=>!p x).length+(l.filter p).length=l.length
 | []=>rfl
 | x::l=>by
  have:=zaQ p l
  cases h:p x <;>simp[h] <;>omega
theorem zhZ:∀(p:List Nat) (c:Nat) (r:List Nat),p<p++c::r
 | [],c,r=>List.nil_lt_cons c r
 | a::p,c,r=>laM.mpr (.inr ⟨rfl,zhZ p c r⟩)
end My
namespace Pg
open PySem L2 My
theorem cA1 {fn:List D->Rs D}{f:Rho->Rs D}{ρ:Rho}{a:D}{r:Rs D}(e1:f ρ=.ok a)(e:fn [a]=r):fA (ari 1 fn) (zj f zG) ρ=r:=(fA1 e1).trans e
theorem cA2 {fn:List D->Rs D}{f g:Rho->Rs D}{ρ:Rho}{a b:D}{r:Rs D}(e1:f ρ=.ok a)(e2:g ρ=.ok b)(e:fn [a,b]=r):fA (ari 2 fn) (zj f (zj g zG)) ρ=r:=(fA2 e1 e2).trans e
theorem cA3 {fn:List D->Rs D}{f g h:Rho->Rs D}{ρ:Rho}{a b c:D}{r:Rs D}(e1:f ρ=.ok a)(e2:g ρ=.ok b)(e3:h ρ=.ok c)(e:fn [a,b,c]=r):fA (ari 3 fn) (zj f (zj g (zj h zG))) ρ=r:=(fA3 e1 e2 e3).trans e
theorem cA4 {fn:List D->Rs D}{f g h i:Rho->Rs D}{ρ:Rho}{a b c d:D}{r:Rs D}(e1:f ρ=.ok a)(e2:g ρ=.ok b)(e3:h ρ=.ok c)(e4:i ρ=.ok d)(e:fn [a,b,c,d]=r):fA (ari 4 fn) (zj f (zj g (zj h (zj i zG)))) ρ=r:=(fA4 e1 e2 e3 e4).trans e
theorem znA {g:D->Option (List D)}{fa:Rho->Rs D}{ρ:Rho}{a:D}{d:List D}(e1:fa ρ=.ok a)(e2:g a=some d):fL1 g fa ρ=.ok d:=by unfold fL1;rw[e1];show lf' (g a)=_;rw[e2];rfl
theorem zl4 {g:D->D->Option (List D)}{fa fb:Rho->Rs D}{ρ:Rho}{a b:D}{d:List D}(e1:fa ρ=.ok a)(e2:fb ρ=.ok b)(e3:g a b=some d):fL2 g fa fb ρ=.ok d:=by unfold fL2;rw[e1];show(fb ρ).bind _=_;rw[e2];show lf' (g a b)=_;rw[e3];rfl
structure Bb (m:Nat)(B:List (List Nat)):Prop where
 pcs:Pcs m B
 bk:Book m B
theorem zn4 {m:Nat}{B:List (List Nat)}(h:Book m B){n:Nat}(hn:(zq B).length<=n)(h10:n<=10)(h8:∀p∈B,p.length<=31):Bb m B/\B.length<=1+n*3:=by
 obtain⟨t,g,e1,e2⟩:=h.grAt
 have m2:=h.m2
 have m4:=h.m4
 have:t*(m - 1)<=t*3:=ldt t (by omega)
 have hl:B.length<=1+n*3:=by omega
 refine⟨⟨⟨m2,m4,λz=>?_,by omega,λp hp=>⟨h.let_ p hp,h.ne p hp,h8 p hp⟩⟩,h⟩,hl⟩
 rw[z] at e2
 simp at e2
 omega
theorem zcV {ws:List Int}(h:yj ws){t:Nat}{B:List (List Nat)}(g:My.Gr ws.length t B):t<=30->((zq B).map (wU ws)).sum=SG ws vM B:=by
 have m2:=h.1
 have m4:=h.2.1
 induction g with
 | z =>
  intro _
  have p:(zq (kids ws.length [])).Perm [[]]:=by
   refine(lbB (z7 _) (by simp)).mpr λx=>?_
   rw[innerKeys_mem,lK]
   exact zaA m2 m4 x
  rw[jq (p.map (wU ws))]
  show wU ws []+0=_
  unfold SG
  rw[zl9 h (p:=[]) (by decide) vM]
  show wU ws []+0=((0+1:Nat):Int)*wU ws []
  omega
 | s g hj ih =>
  rename_i t' B' j
  intro ht
  have hb:=g.book m2 m4
  have hm:=getD_mem hj
  have p:(zq (part ws.length B' j)).Perm (zq B'++[B'.getD j []]):=by
   refine(lbB (z7 _) ?_).mpr λx=>?_
   ·refine lbN.mpr ⟨z7 _,by simp,λa ha b hb' e=>?_⟩
    rw[lK.mp hb'] at e
    subst e
    obtain⟨q,hq,hx,hn⟩:=innerKeys_mem.mp ha
    exact hn (hb.pf _ hm q hq hx)
   ·rw[innerKeys_mem,lat,lK,innerKeys_mem]
    exact j5 m2 m4 hb hj
  rw[jq (p.map (wU ws)),la4,zeR,ih (by omega),zlf h vM hj (by have:=g.short m2 m4 _ hm;omega)]
  show _+(wU ws (B'.getD j [])+0)=_
  have:(vM ((B'.getD j []).length+1) - vM (B'.getD j []).length)=1:=by unfold vM;omega
  rw[this,ldV,Int.add_zero]
theorem zck (m:Nat)(x:List Nat):zK m [x]=kids m x:=by
 unfold zK kids;simp
theorem zmI {g:D->Option (List D)}{f:Rho->Rs D}{ρ:Rho}{a:D}{ds:List D}(e1:f ρ=.ok a)(e2:g a=some ds):fI g f ρ=.ok ds:=by
 unfold fI;rw[e1];show(match g a with|some ds=>Rs.ok ds|none=>.no)=_;rw[e2]
def zhA (B C:List (List Nat)):List (List Nat):=sortF (zoW (sortF (zq B)) (sortF (zq C)))
theorem zoX {x y:List (List Nat)}(h:x=y):eqD true (.lst (sT x)) (.lst (sT y))=some (.bl false):=by rw[zet,lW h];rfl
theorem zj1 {f g h:Rho->Rs Bool}{ρ:Rho}(e1:f ρ=.ok false)(e2:g ρ=.ok false)(e3:h ρ=.ok false):bOr f (bOr g h) ρ=.ok false:=zim e1 (zim e2 e3)
structure Kc (m n:Nat)(B:List (List Nat)):Prop where
 bk:Book m B
 ks:(zq B).length<=n
 l7:∀p∈B,p.length<=n
section
variable {m n:Nat}{B C S:List (List Nat)}
theorem Kc.len (h:Kc m n B)(h8:n<=7):B.length<=1+n*3:=(zn4 h.bk h.ks (by omega) λp hp=>by have:=h.l7 p hp;omega).2
theorem Kc.part (h:Kc m n B){p:List Nat}(hp:p∈B):Kc m (n+1) (My.part m B (B.idxOf p)):=by
 obtain⟨b1,b2⟩:=h.bk.partAt hp
 refine⟨b1,?_,λq hq=>?_⟩
 ·have:(zq (My.part m B (B.idxOf p))).length<=(p::zq B).length:=(z7 _).length_le_of_subset λx hx=>by
   rcases(b2 x).mp (innerKeys_mem.mp hx) with z|z
   ·exact .tail _ (innerKeys_mem.mpr z)
   ·exact z▸.head _
  have:=h.ks
  simp only[lC] at *
  omega
 ·rcases (part_mem h.bk.nd (laq.mpr hp)).mp hq with z|z
  ·have:=h.l7 q z.1
   omega
  ·obtain ⟨c,_,rfl⟩:=kids_mem.mp z
   have e:B.getD (B.idxOf p) []=p:=by
    rw[lm,lQ9 (laq.mpr hp)]
    exact lck (laq.mpr hp)
   rw[e]
   have:=h.l7 p hp
   simp
   omega
end
theorem zl0 {f:Rho->Rs D}{ρ:Rho}{L:List (List Nat)}(e:f ρ=.ok (.lst (sT L))):fO qM (zj f zG) ρ=.ok (.int (L.length:Int)):=zay (zN e rfl) (by show some (D.int ((sT L).length:Int))=_;rw[xZ])
theorem zmr {f g:Rho->Rs D}{ρ:Rho}{b:Bool}(e1:f ρ=.ok (.bl true))(e2:g ρ=.ok (.bl b)):zbm f g ρ=.ok (.bl b):=by unfold zbm;rw[e1];exact e2
theorem znQ {g:D->Option D}{fa:Rho->Rs D}{ρ:Rho}{a d:D}(e1:fa ρ=.ok a)(e2:g a=some d):f1 g fa ρ=.ok d:=by unfold f1;rw[e1];show lf (g a)=_;rw[e2];rfl
theorem znf {g g':D->D->Option D}{fa fb fc:Rho->Rs D}{ρ:Rho}{a b c d:D}(ea:fa ρ=.ok a)(eb:fb ρ=.ok b)(ec:fc ρ=.ok c)(h1:g a b=some (.bl true))(h2:g' b c=some d):fCh g g' fa fb fc ρ=.ok d:=by
 unfold fCh
 rw[ea];show(fb ρ).bind _=_;rw[eb];show(lf (g a b)).bind _=_;rw[h1];show(fc ρ).bind _=_;rw[ec];show lf (g' b c)=_;rw[h2];rfl
theorem znt {xs:List D}{j:Nat}(h:j<xs.length):atI xs (j:Int)=some xs[j]:=by
 refine zg6 (lQ9 h)
theorem blT {b:Bool}:eqD true (.bl b) (.bl b)=some (.bl false):=by cases b <;>rfl
theorem zmk {i:Nat}{f:Rho->Rs Bool}{ρ:Rho}{ds:List D}{r:Rs Bool}(e:owL ρ i=some ds)(e1:f (ρ.set i (.fz (.lst ds)))=r):bFl i f ρ=r:=by
 unfold bFl;simp only[e];exact e1
end Pg
namespace L2
open PySem PySem.Spec PyProof.Rows
def zlr:V->List V->Hp->VK->Prop:=λx vs H Q=>∃a b kvs more,x=.ref a/\vs=[.ref b]/\H a=some (.dK kvs)/\H b=some (.dK more)/\a≠b/\kvs.length+more.length<=sizeLine/\Q .non (upd H a (.dK (zdR kvs more)))
theorem zhi {X:Cx}:MtR X "dict.update" zlr:=by
 intro pins s σ H x xs v us Q I rx rv h
 obtain⟨a,b,kvs,more,rfl,rfl,e,e2,ne,hz,q⟩:=h
 cases rx
 obtain⟨u,rfl,ru⟩:=rv.one
 cases ru
 obtain⟨z,hd,vs,rel,dd⟩:=zlK I.hok e
 obtain⟨z2,hd2,vs2,rel2,dd2⟩:=zlK I.hok e2
 refine call_meetsIn PySem.F.slot_dict_update dd.typeIs PySem.F.entry_dict_update (PySem.F.args_dict_update_2 _ _) (meets_dict_update (yW X.prog X.w) a b ne hd2) ⟨vs,vs2,dd,dd2,by rw[← rel.length,← rel2.length];exact hz,λh' dd' _ hs=>?_⟩
 have he:∃q,h'.get? a=some q:=let ⟨q,_,_,hq,_⟩:=dd';⟨q,hq⟩
 exact⟨.non,_,zfa (t':=s.toks) I (by rw[e];exact True.intro) hs he (zjY (laj (j8 more kvs) hz) hd (KV.merge rel2 rel) dd'),rfl,q⟩
def zmK (ds es:List (List Nat×D)):List (List Nat×D):=es.foldl (λacc kv=>putD acc kv.1 kv.2) ds
section
variable {cl:Nat->Addr}
theorem Dks.merge {K:PySem.W.Frag}{F:Hp}:∀(ms:List (Key×V)) {es:List (List Nat×D)},Dks K cl F ms es->∀{vs:List (Key×V)}{ds:List (List Nat×D)},Dks K cl F vs ds->Dks K cl F (zdR vs ms) (zmK ds es)
 | [],_,.nil=>λr=>r
 | _::ms,_,.cons ok q t=>λr=>Dks.merge ms t (r.put ok q)
theorem Dks.len {K:PySem.W.Frag}{F:Hp}:∀{vs:List (Key×V)}{ds:List (List Nat×D)},Dks K cl F vs ds->vs.length=ds.length
 | _,_,.nil=>rfl
 | _,_,.cons _ _ t=>by rw[lC,lC,t.len]
def zlW (i:Nat)(f:Rho->Rs D):Rho->Out:=λρ=>match odL ρ i with
 | some ds=>(match f ρ with
  | .ok (.dct es)=>if ds.length+es.length<=1000000 then .nx (ρ.set i (.od (zmK ds es))) else .no
  | .ex n=>.ex n
  | _=>.no)
 | none=>.no
theorem zh4 {X:Cx}{E:XK}{o e:Expr}{f:Rho->Rs D}{i:Nat}{apos cpos pos:Pos}(ho:PE X o (ziy i))(ha:XE X cl E e f)(m:Mth X o e "update" apos cpos)(hs:swapsWith (.Call (.Attribute o "update" apos) [e] [] cpos) none pos.line X.env=pure false:=by rfl):XS X cl E (.Expr (.Call (.Attribute o "update" apos) [e] [] cpos) pos) (zlW i f):=by
 obtain⟨t,pt,rt⟩:=ha.ex
 refine XS'.out ⟨_,zfi (zgW PySem.F.plainAttrs_dict PySem.F.slot_dict_update PySem.F.type_dict_update zhi ho (xO pt qO m.hs) m.base m.few m.line m.hs m.plain) hs,λH0 F0 ρ σ H F Dn R oo=>?_⟩
 unfold zlW at oo
 cases hw:odL ρ i with
 | none=>rw[hw] at oo;exact oo.elim
 | some ds =>
  rw[hw] at oo
  have hd:=zap hw
  obtain⟨a,vs,h1,h2,h3,h4,h5⟩:=R.od i ds hd
  refine⟨.ref a,h1,.inr (.inr (.inl ⟨rfl,.inl ⟨vs,h2⟩⟩)),rt H0 F0 ρ σ H F _ R ?_⟩
  cases e:f ρ with
  | no=>rw[e] at oo;exact oo.elim
  | ex n=>rw[e] at oo;exact oo
  | ok d =>
   rw[e] at oo
   intro v H' F' g q
   cases q with
   | dct hb hk =>
    rename_i b ms es
    dsimp only at oo
    split at oo
    ·rename_i hl
     have R1:=R.grow g
     have hab:a≠b:=λz=>by
      obtain⟨a',vs',k1,k2,k3,_⟩:=R1.od i ds hd
      rw[h1] at k1
      injection k1 with k1;injection k1 with k1;injection k1 with k1
      rw[← k1,z] at k3
      rw[k3] at hb;cases hb
     refine⟨a,b,vs,ms,rfl,rfl,g.hh _ _ h2,R1.fh _ _ hb,hab,by rw[h5.len,hk.len,laP];omega,?_⟩
     exact oo _ _ F' (R1.putDk hd h1 (Dks.merge _ hk (h5.mono g.ff))) g.ff
    ·exact oo.elim
   | _=>exact oo.elim
def zlX (i:Nat)(f:Rho->Rs D):Rho->Rs D:=λρ=>match odL ρ i with
 | some ds=>(match f (ρ.set i (.fz (.dct ds))) with | .ok d=>if d.fl=true then .ok d else .no | .ex n=>.ex n | .no=>.no)
 | none=>.no
theorem znp {X:Cx}{E:XK}{e:Expr}{fa:Rho->Rs D}{i:Nat}(h:XE X cl E e fa):XE X cl E e (zlX i fa):=by
 obtain⟨t,pt,rt⟩:=h.ex
 refine XE'.out ⟨_,pt,λH0 F0 ρ σ H F Q R o=>?_⟩
 unfold zlX at o
 cases hw:odL ρ i with
 | none=>rw[hw] at o;exact o.elim
 | some ds =>
  rw[hw] at o
  obtain⟨F1,s1,R1⟩:=R.iceD (zap hw)
  refine rt H0 F0 _ σ H F1 _ R1 ?_
  cases e:fa (ρ.set i (.fz (.dct ds))) with
  | ok d =>
   simp only[e] at o
   split at o
   ·rename_i hf
    exact λv H' F' g q=>o v H' F ⟨Same.refl _,g.hh,R.fh.trans g.hh,λ_ _ _ _ z=>z⟩ (q.flatAny hf)
   ·exact o.elim
  | ex n=>simp only[e] at o;exact o
  | no=>simp only[e] at o;exact o.elim
def zpl (K:PySem.W.Frag)(cl:Nat->Addr)(E:XK)(H0 F H:Hp)(r:Rs (List (List Nat×D)))(Q:VK):Prop :=
 match r with
 | .ok ds=>∀c us H' F',Gr F H F' H'->H c=none->H' c=some (.dK us)->F' c=none->Dks K cl F' us ds->Q (.ref c) H'
 | .ex n=>∀H',Same H0 H'->E (.ref (cl n)) none H'
 | .no=>False
def spK (K:PySem.W.Frag)(cl:Nat->Addr)(fn:List D->Rs (List (List Nat×D)))(n:Nat):Sp:=λvs H Q E=>∃F ds,Same F H/\Dts K cl F vs ds/\vs.length=n/\zpl K cl E H F H (fn ds) Q
def runK (m i:Nat)(g1 g2:Rho->Out)(ds:List D):Rs (List (List Nat×D)):=match zT g1 g2 (ds.map .fz++List.replicate (m - ds.length) .no) with
 | .nx ρ=>(match odL ρ i with|some es=>.ok es|none=>.no)
 | .ex n=>.ex n
 | _=>.no
theorem fnK {P:Program}{w:World}{K:PySem.W.Frag}{mg:Str->Option Value}{base:Heap}{x qual:Str}{st s1 s2:Stmt}{f:Addr}{fd:FuncData}{N ps:List Str}{k m n i:Nat}{g1 g2:Rho->Out}{o:Expr}{pos:Pos}(Fu:Fun K x qual st f fd)(S:FnScope N ps (zy st))(hm:N.length=m)(hn:ps.length=n)(hbd:uV st=[s1,s2,.Return (some o) pos])
  (hb:∀(cdv:Value) (A:Around) (outer:List Env) (s:Shared) (H:Hp) (E:XK),Room k (A.deeper (envOfC qual (zy st) s.heap.objs.size f cdv))->XS (zaX (CX1 P w) P w K mg base N qual (zy st) f cdv A outer s H E) cl E s1 g1/\XS (zaX (CX1 P w) P w K mg base N qual (zy st) f cdv A outer s H E) cl E s2 g2/\PE (zaX (CX1 P w) P w K mg base N qual (zy st) f cdv A outer s H E) o (ziy i)):FnOk P w K mg base (CX1 P w) (k+1) f fd ps (spK K cl (runK m i g1 g2) n):=by
 subst hm hn
 refine Fu.okX S (λvs H Q E h=>?_) λcdv A outer s H vs Q E hr h=>?_
 ·obtain⟨F,ds,_,_,h1,_⟩:=h;exact h1
 obtain⟨F,ds,sm,q,h1,oo⟩:=h
 have R0:Rl K cl H F (ds.map .fz++List.replicate (N.length - ds.length) .no) (L2.start N vs) H F:=Rl.start (N:=N) sm q
 obtain⟨b1,b2,b3⟩:=hb cdv A outer s H E hr
 rw[hbd]
 refine⟨_,zc8 b1 (zc8 b2 (zhf (zjS b3))),H,F,_,F,R0,?_⟩
 unfold runK zT at oo
 cases e1:g1 (ds.map .fz++List.replicate (N.length - ds.length) .no) with
 | nx ρ1 =>
  rw[e1] at oo
  dsimp only at oo
  intro σ1 H1 F1 R1 s1
  refine⟨H,F,ρ1,F1,R1,?_⟩
  cases e2:g2 ρ1 with
  | nx ρ2 =>
   rw[e2] at oo
   dsimp only at oo
   intro σ2 H2 F2 R2 s2
   cases e3:odL ρ2 i with
   | none=>rw[e3] at oo;exact oo.elim
   | some es =>
    rw[e3] at oo
    obtain⟨a,us,k1,k2,k3,k4,k5⟩:=R2.od i es (zap e3)
    exact⟨.ref a,k1,oo a us H2 F2 R2.gr k4 k2 k3 k5⟩
  | ex n=>rw[e2] at oo;exact oo
  | rt d=>rw[e2] at oo;exact oo.elim
  | bk ρ=>rw[e2] at oo;exact oo.elim
  | ct ρ=>rw[e2] at oo;exact oo.elim
  | no=>rw[e2] at oo;exact oo.elim
 | ex n=>rw[e1] at oo;exact oo
 | rt d=>rw[e1] at oo;exact oo.elim
 | bk ρ=>rw[e1] at oo;exact oo.elim
 | ct ρ=>rw[e1] at oo;exact oo.elim
 | no=>rw[e1] at oo;exact oo.elim
theorem Rl.ownD {K:PySem.W.Frag}{H0 F0 H F H' F':Hp}{ρ:Rho}{σ:St}{i:Nat}{c:Addr}{us:List (Key×V)}{ds:List (List Nat×D)}(R:Rl K cl H0 F0 ρ σ H F)(g:Gr F H F' H')(hp:H c=none)(h2:H' c=some (.dK us))(h3:F' c=none)(h:Dks K cl F' us ds):Rl K cl H0 F0 (ρ.set i (.od ds)) (σ.set i (some (.ref c))) H' F':=by
 have R1:=R.grow g
 refine⟨R1.gr,by simp[R.len],λj e z=>?_,λj e z=>?_,λj e z=>?_,λj k s t a z1 z2 o1 o2 e1 e2=>?_⟩
 ·rcases get_set z with⟨rfl,q,hl⟩|⟨hj,q⟩
  ·cases q
  ·rw[ly hj];exact R1.fz j e q
 ·rcases get_set z with⟨rfl,q,hl⟩|⟨hj,q⟩
  ·cases q
  ·rw[ly hj];exact R1.ow j e q
 ·rcases get_set z with⟨rfl,q,hl⟩|⟨hj,q⟩
  ·injection q with q;subst q
   exact⟨c,us,uQ (R.len▸hl),h2,h3,R.gr.hh.free hp,h⟩
  ·rw[ly hj];exact R1.od j e q
 ·rcases get_set z1 with⟨rfl,q,hl⟩|⟨hj,q⟩
  ·rcases get_set z2 with⟨rfl,q2,hl2⟩|⟨hk,q2⟩
   ·rfl
   ·rw[uQ (R.len▸hl)] at e1;rw[ly hk] at e2
    injection e1 with e1;injection e1 with e1;injection e1 with e1
    exact absurd (e1▸hp) (R.apart q2 o2 e2)
  ·rcases get_set z2 with⟨rfl,q2,hl2⟩|⟨hk,q2⟩
   ·rw[uQ (R.len▸hl2)] at e2;rw[ly hj] at e1
    injection e2 with e2;injection e2 with e2;injection e2 with e2
    exact absurd (e2▸hp) (R.apart q o1 e1)
   ·rw[ly hj] at e1;rw[ly hk] at e2
    exact R.ap j k s t a q q2 o1 o2 e1 e2
def zhj (i n:Nat)(fn:List D->Rs (List (List Nat×D)))(fs:Rho->Rs (List D)):Rho->Out:=λρ=>match fs ρ with
 | .ok ds=>if ds.length=n then(match fn ds with | .ok es=>.nx (ρ.set i (.od es)) | .ex k=>.ex k | .no=>.no) else .no
 | .ex k=>.ex k
 | .no=>.no
theorem zly {X:Cx}{E:XK}{k n i:Nat}{f:Addr}{fd:FuncData}{ps:List Str}{fn:List D->Rs (List (List Nat×D))}{fs:Rho->Rs (List D)}{x y:Str}{p pos pos' cpos:Pos}{e:Expr}{es:List Expr}(hN:X.N.Nodup)(hi:X.N[i]? = some y)(hy:Loc X.env.scope y)(G:FnOk X.prog X.w X.K X.mg X.base (CX1 X.prog X.w) k f fd ps (spK X.K cl fn n))(hr:Room k X.A)(hg:Gl X x)(hm:X.mg x=some (.ref f))(hk:PySem.W.keepIn X.K (.ref f)=true)(hb:Binds X.K fd ps [])(hx:zcf (CX1 X.prog X.w) X E)
  (ha:XA X cl E (e::es) fs) (he:starEach (e::es) X.env=(false,eval e X.env)::starEach es X.env) (hs:swapsWith (.Call (.Name x p) (e::es) [] cpos) (some (.Name y pos')) pos.line X.env=pure false:=by rfl) (hf:X.fn y=true∨X.env.scope.names.lookup y=some .local:=by first|exact .inl rfl|exact .inr rfl|assumption) (hdb:(x == ("__debug__" : Str))=false:=by decide) (hpl:(backTo cpos (starEach es X.env)).any (·.1)=false:=by rfl) :
  XS X cl E (.Assign [.Name y pos'] (.Call (.Name x p) (e::es) [] cpos) pos) (zhj i n fn fs):=by
 obtain⟨t,pt,rt⟩:=ha.ex
 refine XS'.out ⟨_,zdG hN hi hy (zg4 G hr hg hm hk hb .nil hx pt hdb he hpl) hs hf,λH0 F0 ρ σ H F Dn R o=>rt H0 F0 ρ σ H F _ R ?_⟩
 unfold zhj at o
 cases e:fs ρ with
 | ok ds =>
  rw[e] at o
  dsimp only at o
  intro vs H1 F1 g q
  split at o
  ·rename_i hl
   have R1:=R.grow g
   rw[lal]
   refine⟨F1,ds,R1.fh,q,by rw[q.length,hl],?_⟩
   cases e2:fn ds with
   | ok es=>rw[e2] at o;exact λc us H' F' g' h1 h2 h3 h4=>o _ _ F' (R1.ownD g' h1 h2 h3 h4) (g.ff.trans g'.ff)
   | ex k=>rw[e2] at o;exact λH' s=>o H' (R1.gr.hh.trans s)
   | no=>rw[e2] at o;exact o.elim
  ·exact o.elim
 | ex n=>rw[e] at o;exact o
 | no=>rw[e] at o;exact o.elim
end
def zon (tl ty tv:TE):TS:=λD σ H=>tv σ H λv H1=>tl σ H1 λx H2=>ty σ H2 λy H3=>∃a xs k,x=.ref a/\y=.int k/\H3 a=some (.lst xs)/\0<=k/\k.toNat<xs.length/\k<2 ^ 63/\D.nx σ (upd H3 a (.lst (xs.set k.toNat v)))
theorem zkA {X:Cx}{o i value:Expr}{td ty tv:TE}{pos pos':Pos}(ho:PE X o td)(hi:PE X i ty)(hv:PE X value tv)(hs:swapsWith value (some (.Subscript o i pos')) pos.line X.env=pure false) :
  PS X (.Assign [.Subscript o i pos'] value pos) (zon td ty tv):=by
 intro pins s σ H D I h
 refine wpAny_Assign_Subscript (thn (hv pins s σ H _ I h) λr s1 ⟨v,H1,I1,rv,q1⟩=>thn (ho pins s1 σ H1 _ I1 q1) λu s2 ⟨x,H2,I2,rx,q2⟩=>thn (hi pins s2 σ H2 _ I2 q2) λiv s3 ⟨y,H3,I3,ry,a,xs,k,ex,ey,eH,k0,kl,k63,q3⟩=>?_) hs
 subst ex ey
 obtain rfl:u=Value.ref a:=rx
 obtain⟨t,rfl⟩:∃t,iv=Value.int k t:=ry
 obtain⟨z,its,n,r2,hl,e⟩:=I3.lstM eH
 refine PySem.W.ki_setAt (n:=n) e k0 k63 (by rw[lF];omega) ⟨σ,_,I3.lset (its':=its.set k.toNat r) (t':=s3.toks) eH e ?_ (r2.set rv k.toNat) (by rw[List.length_set];exact z),q3⟩
 apply Array.ext'
 simp
section
variable {cl:Nat->Addr}
theorem Dts.put {K:PySem.W.Frag}{F:Hp}{v:V}{d:D}(q:Dt K cl F v d):∀{vs:List V}{ds:List D} (k:Nat),Dts K cl F vs ds->Dts K cl F (vs.set k v) (ds.set k d)
 | _,_,_,.nil=>.nil
 | _,_,0,.cons _ r=>.cons q r
 | _,_,k+1,.cons p r=>.cons p (Dts.put q k r)
def zhB (i:Nat)(fk fv:Rho->Rs D):Rho->Out:=λρ=>match owL ρ i with
 | some ds=>(match fv ρ with
  | .ok v=>(match fk ρ with | .ok (.int k)=>if 0<=k/\k.toNat<ds.length/\k<1000000 then .nx (ρ.set i (.ow (ds.set k.toNat v))) else .no | .ex n=>.ex n|_=>.no)
  | .ex n=>.ex n
  | .no=>.no)
 | none=>.no
theorem zlz {X:Cx}{E:XK}{o:Expr}{fa fb:Rho->Rs D}{pos:Pos}{i:Nat}{k v:Expr}{pos':Pos}(ho:PE X o (ziy i))(hk:XE X cl E k fa)(hv:XE X cl E v fb)(hs:swapsWith v (some (.Subscript o k pos')) pos.line X.env=pure false:=by rfl):XS X cl E (.Assign [.Subscript o k pos'] v pos) (zhB i fa fb):=by
 obtain⟨t,pt,rt⟩:=hk.ex
 obtain⟨u,pu,ru⟩:=hv.ex
 refine XS'.out ⟨_,zkA ho pt pu hs,λH0 F0 ρ σ H F Dn R oo=>ru H0 F0 ρ σ H F _ R ?_⟩
 unfold zhB at oo
 cases hw:owL ρ i with
 | none=>rw[hw] at oo;exact oo.elim
 | some ds =>
  rw[hw] at oo
  have hd:=zaf hw
  cases ev:fb ρ with
  | ok dv =>
   simp only[ev] at oo
   intro vv H1 F1 g1 q1
   have R1:=R.grow g1
   obtain⟨ad,vs,h1,h2,h3,h4,h5⟩:=R1.ow i ds hd
   refine⟨.ref ad,h1,rt H0 F0 ρ σ H1 F1 _ R1 ?_⟩
   cases ek:fa ρ with
   | ok dk =>
    simp only[ek] at oo
    intro kv H2 F2 g2 q2
    have R2:=R1.grow g2
    cases q2 with
    | int j =>
     dsimp only at oo
     split at oo
     ·rename_i hl
      have h5':=h5.mono g2.ff
      refine⟨ad,vs,_,rfl,rfl,g2.hh _ _ h2,hl.1,by rw[h5.length];exact hl.2.1,by omega,?_⟩
      exact oo _ _ F2 (R2.put hd h1 (Dts.put (q1.mono g2.ff) _ h5')) (g1.ff.trans g2.ff)
     ·exact oo.elim
    | _=>exact oo.elim
   | ex n=>simp only[ek] at oo;exact oo
   | no=>simp only[ek] at oo;exact oo.elim
  | ex n=>simp only[ev] at oo;exact oo
  | no=>simp only[ev] at oo;exact oo.elim
end
end L2
set_option maxHeartbeats 2000000
namespace Zp
open PySem
theorem zb8:typeLookup (.type "list") "keys" = pure none:=by rw[lcW,lbX];kernel_rfl
theorem zjG {prog:Program}{w:World}{A:Around}{E:Value->Shared->Prop}{s:Shared}{a:Addr}{o:Obj}{xs:Array Value}{k:Nat}{Q:Option Value->Shared->Prop}
  (hx:s.heap.get? a=some o) (hc:o.cls=.type "list") (hdat:o.data=.seq xs k) (hd:o.dict=none) (hA:A.handled=none)
  (h:∀h' tk,(∀b o,s.heap.get? b=some o->h'.get? b=some o)->Q none {s with heap:=h',toks:=tk}) :
  wpAny (model prog w) A (getAttr? (.ref a) "keys") Q E s:=by
 obtain⟨c,dct,dat,sl⟩:=o
 simp only at hc hdat hd
 subst hc hdat hd
 obtain⟨hp,g,d,tk,os⟩:=s
 have hT:∀tk',(⟨hp,g,d,tk',os⟩:Shared).TypeIs (.ref a) "list" := λ_=>⟨_,hx,rfl⟩
 have f1:=sub_AttributeError
 have f3:=lcQ.lookup
 have f4:=lcQ.bind (.ref a)
 have f5:=am_list_getattr_none
 unfold getAttr? getAttrBy? getAttrBy
 repeat (any_goals (first|assumption|exact hT _|((with_reducible show wpAny _ _ (call (Value.builtin "list.__getattribute__") _ _) _ _ _);refine lct lcQ (hT _) am_entry_list_getattribute (F.args_list_getattribute_2 _ _) (meets_getattribute_miss_list a xs k sl "keys" _ zb8 (by decide +kernel) (by decide +kernel)) ⟨hx,hA,λh' tk' e hx'=>?_⟩)|wp_step))
 obtain⟨t',u',he⟩:=hx'.there
 show wpAny _ _ (getattributeRaised _ _ _ _ _ _ _) _ _ _
 unfold getattributeRaised hookBehind onTheHeap hookOrError attributeErrorLeaves
 repeat (any_goals (first|assumption|wp_step))
 exact h _ _ hx'.keeps
section
variable {prog:Program}{w:World}{K:Type} [DecidableEq K]{knd:KeyKind prog w K}{A:Around}{R:Result->Shared->Prop}{it l d:Addr}{its:Array Value}
theorem zgX (hh:A.handled=none)(nil:l≠it)(nid:d≠it)(nld:l≠d)(f:Nat->K)(tp:Nat->Addr)(kv vv:Nat->Value)(ht:∀i,i<its.size->its[i]? = some (.ref (tp i))/\tp i≠it/\tp i≠d)(hk:∀i,i<its.size->knd.is (f i) (kv i)=true)(hsm:its.size<=1000) :
  ∀ (n i:Nat) (s:Shared) (kvs:List (K×Value)) (q:Int) (tq:Tok),its.size - i=n->i<=its.size->s.heap.IsListIter it l i->s.heap.IsList l its->(∀i,i<its.size->s.heap.IsTuple (tp i) #[kv i,vv i])->s.heap.DictOf knd d kvs->kvs.length<=i ->
   (∀h' tk,h'.DictOf knd d (((List.range its.size).drop i).foldl (λm j=>stored m (f j) (vv j)) kvs)->(∀c o,c≠it->c≠d->s.heap.get? c=some o->h'.get? c=some o) ->
    R (.ok (.ret .none)) {s with heap:=h',toks:=tk}) ->
   codeAny (model prog w) A (.builtin "dict.update.loop" ⟨[.ref d,.ref it,.int q tq,.none],[]⟩) R s:=by
 intro n
 induction n with
 | zero =>
  intro i s kvs q tq hn hi Z hL hT hm hl hR
  refine lbf jm ?_
  rw[la9 xU _]
  show wpAny _ A.in1 (pyNext (.ref it) >>= _) _ _ s
  refine la (wpAny_pyNext_list_end hh Z hL (lbn (by omega)) λh' k=>?_)
  refine la (m:=Builtin.Dict.addKeywords d []) (lc (lc ?_))
  have e:(List.range its.size).drop i=[]:=laI (by rw[lad];omega)
  rw[e] at hR
  refine hR h' s.toks ?_ λc o c1 _ e=>k c o c1 e
  obtain⟨o,ho,r⟩:=la3.mp hm
  exact la3.mpr ⟨o,k _ _ nid ho,r⟩
 | succ n ih =>
  intro i s kvs q tq hn hi Z hL hT hm hl hR
  refine lbf jm ?_
  rw[la9 xU _]
  show wpAny _ A.in1 (pyNext (.ref it) >>= _) _ _ s
  have hi':i<its.size:=by omega
  obtain⟨hx,t1,t2⟩:=ht i hi'
  refine la (wpAny_pyNext_list_item Z hL hx λh' Z' sb0=>?_)
  have k:∀c o,c≠it->s.heap.get? c=some o->h'.get? c=some o:=λc o c1 e=>sb0.extBut _ _ c1 e
  dsimp only
  obtain⟨ot,et,ct,nt,dt⟩:=hT i hi'
  have et':=k _ _ t1 et
  have hTy:(⟨h',s.gens,s.drawn,s.toks,s.os⟩:Shared).TypeIs (.ref (tp i)) "tuple" := ⟨_,et',ct⟩
  refine la (lay (la (wpAny_tryCatch ?_)))
  unfold Builtin.Dict.pairItems
  refine la (lbV hTy ?_)
  rw[lH (by decide)]
  refine la (la7 et' dt (lc ?_))
  show wpAny _ A.in1 (holding [kv i,vv i] (dictSet d (kv i) (vv i))) _ _ _
  have hm':h'.DictOf knd d kvs:=by
   obtain⟨o,ho,r⟩:=la3.mp hm
   exact la3.mpr ⟨o,k _ _ nid ho,r⟩
  refine lay (wpAny_dictSet_pairs (hk i hi') hm' (λh'' hm'' sb=>?_) (by rw[laP];omega))
  refine lc ⟨lbY xU _,?_⟩
  have hl2:(stored kvs (f i) (vv i)).length<=i+1:=by
   have:=stored_length_le kvs (f i) (vv i)
   omega
  have kk:∀c o,c≠it->c≠d->s.heap.get? c=some o->h''.get? c=some o:=λc o c1 c2 e=>sb.extBut _ _ c2 (k c o c1 e)
  refine ih (i+1) _ _ _ _ (by omega) (by omega) ?_ ?_ (λj hj=>?_) hm'' hl2 λh3 tk3 hm3 k3=>?_
  ·obtain⟨o,e,r⟩:=Z'
   exact⟨o,sb.extBut _ _ (lbb nid) e,r⟩
  ·obtain⟨o,e,r⟩:=hL
   exact⟨o,kk _ _ nil nld e,r⟩
  ·obtain⟨o,e,r⟩:=hT j hj
   exact⟨o,kk _ _ (ht j hj).2.1 (ht j hj).2.2 e,r⟩
  ·have e:(List.range its.size).drop i=i::(List.range its.size).drop (i+1):=by
    rw[las (by rw[lad];omega)]
    simp
   rw[e,lag] at hR
   exact hR h3 tk3 hm3 λc o c1 c2 e=>k3 c o c1 c2 (kk c o c1 c2 e)
end
section
variable {prog:Program}{w:World}{K:Type} [DecidableEq K]{knd:KeyKind prog w K}{A:Around}{E:Value->Shared->Prop}{s:Shared}{l:Addr}{its:Array Value}
theorem call_dict_list {Q:Value->Shared->Prop}{o:Obj}{k:Nat}(hh:A.handled=none)(hx:s.heap.get? l=some o)(hc:o.cls=.type "list")(hdat:o.data=.seq its k)(hdd:o.dict=none)
  (f:Nat->K) (tp:Nat->Addr) (kv vv:Nat->Value) (ht:∀i,i<its.size->its[i]? = some (.ref (tp i))/\s.heap.IsTuple (tp i) #[kv i,vv i]) (hk:∀i,i<its.size->knd.is (f i) (kv i)=true) (hsm:its.size<=1000)
  (h:∀h' tk,h'.DictOf knd s.heap.objs.size ((List.range its.size).foldl (λm j=>stored m (f j) (vv j)) [])->(∀c o,s.heap.get? c=some o->h'.get? c=some o)->Q (.ref s.heap.objs.size) {s with heap:=h',toks:=tk}) :
  wpAny (model prog w) A (call (.type "dict") [.ref l]) Q E s:=by
 refine callType_codes (Q₁:=λobj s₁=>obj=.ref s.heap.objs.size/\s₁={s with heap:=s.heap.push {cls:=.type "dict", data:=.dict #[]} }) F.kt_called_dict (F.kt_typeCall_dict_1 _) F.entry_dict_init (kt_code_dict_new _ ⟨rfl,rfl⟩) ?_
 rintro obj s₁ ⟨rfl,rfl⟩
 have hnew:(s.heap.push {cls:=.type "dict", data:=.dict #[]}).DictOf knd s.heap.objs.size []:=Heap.DictOf.new s.heap
 have up:∀c o,s.heap.get? c=some o->(s.heap.push {cls:=.type "dict", data:=.dict #[]}).get? c=some o:=λc o e=>lb _ e
 have hx':=up _ _ hx
 have hzT:({s with heap:=s.heap.push {cls:=.type "dict", data:=.dict #[]} }:Shared).TypeIs (.ref l) "list" := ⟨_,hx',hc⟩
 have lt:∀{c:Addr}{o:Obj},s.heap.get? c=some o->s.heap.objs.size≠c:=λe=>laS (lu e)
 refine⟨hnew.typeIs,F.args_dict_init_2 _ _,?_⟩
 unfold Builtin.«dict.__init__»
 refine la ?_
 unfold Builtin.Dict.selfAndRest
 refine la (wpAny_notOrdered_dict hnew.typeIs ?_)
 show wpAny _ _ (pure (s.heap.objs.size,[Value.ref l])) _ _ _
 refine lc ?_
 show wpAny _ _ (Builtin.Dict.updateFrom "dict.__init__" s.heap.objs.size (.ref l) [] .none) _ _ _
 unfold Builtin.Dict.updateFrom
 refine la (lbV hzT ?_)
 rw[lH (by decide)]
 refine la (zjG hx' hc hdat hdd hh λh4 tk4 k4=>?_)
 simp only[Option.isNone_none,lbD]
 refine la (lcf ?_)
 have kk:∀c o,s.heap.get? c=some o->h4.get? c=some o:=λc o e=>k4 _ _ (up _ _ e)
 obtain⟨od,eod,rd⟩:=la3.mp hnew
 have hsz:s.heap.objs.size<h4.objs.size:=lu (k4 _ _ eod)
 have hL4:(⟨h4,s.gens,s.drawn,tk4,s.os⟩:Shared).heap.IsList l its:=⟨o,kk _ _ hx,hc,k,hdat⟩
 refine la (lb5 hL4 ?_)
 refine lc ⟨lbY xU _,?_⟩
 have up5:∀c o,h4.get? c=some o->(h4.push {cls:=.type "list_iterator", data:=.fields #[.ref l,.int 0 0]}).get? c=some o:=λc o e=>lb _ e
 have lt4:∀{c:Addr}{o:Obj},s.heap.get? c=some o->c≠h4.objs.size:=λe=>lO (ld8 (lu e) hsz)
 refine zgX (knd:=knd) (A:=A.in1) (it:=h4.objs.size) (l:=l) (d:=s.heap.objs.size) (its:=its) hh (lt4 hx) (lO hsz) (lbb (lt hx)) f tp kv vv (λi hi=>?_) hk hsm _ 0 _ [] _ _ rfl (lbJ _) ?_ ?_ (λi hi=>?_) ?_ (lr _) λh5 tk5 hm5 k5=>?_
 ·obtain⟨a,o2,e2,_⟩:=ht i hi
  exact⟨a,lt4 e2,lbb (lt e2)⟩
 ·exact⟨_,lj _ rfl,rfl,rfl⟩
 ·exact⟨o,up5 _ _ (kk _ _ hx),hc,k,hdat⟩
 ·obtain⟨_,o2,e2,r⟩:=ht i hi
  exact⟨o2,up5 _ _ (kk _ _ e2),r⟩
 ·exact la3.mpr ⟨od,up5 _ _ (k4 _ _ eod),rd⟩
 ·exact⟨rfl,h h5 tk5 (by simpa using hm5) λc o e=>k5 c o (lt4 e) (lbb (lt e)) (up5 _ _ (kk _ _ e))⟩
end
end Zp
namespace L2
open PySem PySem.Spec PyProof.Rows
theorem zfo {ls:List (List Nat)}{xs:List V}{vv:Nat->Value}:∀(js:List Nat) {m:List (Key×V)}{ms:List (Key×Value)},(∀j∈js,RelV (xs.getD j .non) (vv j))->KV m ms ->
  KV (js.foldl (λm j=>putK m (Sum.inr (T (ls.getD j []))) (xs.getD j .non)) m) (js.foldl (λm j=>stored m (Sum.inr (T (ls.getD j [])):Key) (vv j)) ms)
 | [],_,_,_,k=>k
 | j::js,_,_,h,k=>by
  rw[lag,lag]
  exact zfo js (λi hi=>h i (.tail _ hi)) (k.put _ (h j (.head _)))
def zkj (K:PySem.W.Frag)(ta:TE):TE:=λσ H Q=>jV ta zj4 σ H λvs H2=>∃(a:Addr) (ps:List Addr) (ls:List (List Nat)) (xs:List V),vs=[.ref a]/\SqL K H2 a (ps.map .ref)/\ls.length=ps.length/\xs.length=ps.length /\
 (∀j,j<ps.length->SqT K H2 (ps.getD j 0) [.str (T (ls.getD j [])),xs.getD j .non])/\ps.length<=1000/\∀p,H2 p=none->Q (.ref p) (upd H2 p (.dK (zlT ls xs)))
theorem zfE:∀{ps:List Addr}{us:List Value},Vals (ps.map .ref) us->∀j,j<ps.length->us.toArray[j]? = some (.ref (ps.getD j 0))
 | [],_,_,j,hj=>by simp at hj
 | p :: ps,us,r,j,hj=>by
  cases r with
  | cons a t =>
   rename_i u us
   cases a
   cases j with
   | zero=>simp
   | succ j =>
    have:=zfE t j (by simpa using hj)
    simpa using this
theorem zjy {X:Cx}{a:Expr}{ta:TE}{p1 pos1:Pos}(hc:X.calm=true)(ha:PE X a ta)(hd:Gl X "dict")(md:X.mg "dict" = none)(hs:starEach [a] X.env=(false,eval a X.env)::starEach [] X.env) :
  PE X (.Call (.Name "dict" p1) [a] [] pos1) (zkj X.K ta):=by
 intro pins s σ H Q I h
 refine lbk (qY I hd md boot_dict ?_)
 have hA:PA X [a] (jV ta zj4):=xO ha qO hs
 refine laG (thn (hA pos1 pins s σ H _ I h) λus s1 ⟨vs,H2,I2,r2,A1,ps,ls,xs,ev,hq,l1,l2,hp,hl,q⟩=>?_) (by rw[hs]) rfl
 subst ev
 obtain⟨u1,rfl,ru1⟩:=r2.one
 cases ru1
 obtain⟨its,rv,⟨o,n,e,c,d,dat⟩,hz⟩:=I2.list hq
 have el:its.toArray.size=ps.length:=by have:=rv.length;rw[lh] at this;rw[lF];exact this.symm
 have hT:∀j,∃w:Value×Value,j<ps.length->RelV (.str (T (ls.getD j []))) w.1/\RelV (xs.getD j .non) w.2/\s1.heap.IsTuple (ps.getD j 0) #[w.1,w.2]:=λj=>by
  by_cases hj:j<ps.length
  ·obtain⟨its2,rv2,pl2,_⟩:=I2.tuple (hp j hj)
   obtain⟨w1,w2,rfl,q1,q2⟩:=vals2 rv2
   exact⟨(w1,w2),λ_=>⟨q1,q2,pl2⟩⟩
  ·exact⟨(.none,.none),λz=>absurd z hj⟩
 obtain⟨w,hw⟩:=Classical.skolem.mp hT
 refine Zp.call_dict_list (knd:=yW X.prog X.w) (I.ok.hd hc) e c dat d (λj=>Sum.inr (T (ls.getD j []))) (λj=>ps.getD j 0) (λj=>(w j).1) (λj=>(w j).2) (λj hj=>⟨zfE rv j (by omega),(hw j (by omega)).2.2⟩) (λj hj=>?_) (by omega) λh2 tk hdict keep=>?_
 ·obtain⟨t,e⟩:=(hw j (by omega)).1
  rw[e]
  exact jY _ _ _ t
 have hnone:H2 s1.heap.objs.size=none:=I2.hok.fresh (lr _)
 refine⟨.ref s1.heap.objs.size,upd H2 s1.heap.objs.size (.dK (zlT ls xs)),I2.laid (h':=h2) (t':=tk) keep (lr _) ?_,rfl,q _ hnone⟩
 refine⟨?_,?_,_,?_,hdict⟩
 ·have:=ziS ls xs
  rw[laP];omega
 ·have hbig:=I2.big
  exact lbO.mpr (by intro z;rw[z] at hbig;exact absurd hbig (lbL _))
 ·unfold zlT
  rw[l1,l2,Nat.min_self,el]
  exact zfo _ (λj hj=>(hw j (la6.mp hj)).2.1) zjW
def znH:D->Bool
 | .tup [.str _,_]=>true
 | _=>false
def pK:D->List Nat
 | .tup [.str k,_]=>k
 | _=>[]
def pV:D->D
 | .tup [.str _,v]=>v
 | _=>.non
def zfv:D->Option D
 | .lst ds=>if ds.all znH=true/\ds.length<=1000 then some (.dct (zoo (ds.map pK) (ds.map pV))) else none
 | _=>none
theorem zlH {d:D}(h:znH d=true):∃k v,d=.tup [.str k,v]:=by
 unfold znH at h
 split at h
 ·exact⟨_,_,rfl⟩
 ·cases h
section
variable {cl:Nat->Addr}
theorem Dts.pairs {K:PySem.W.Frag}{F:Hp}:∀{vs:List V}{ds:List D},Dts K cl F vs ds->ds.all znH=true->∃(ps:List Addr) (xs:List V),vs=ps.map .ref/\xs.length=ps.length/\(ds.map pK).length=ps.length /\
  (∀j,j<ps.length->SqT K F (ps.getD j 0) [.str (T ((ds.map pK).getD j [])),xs.getD j .non])/\(∀x∈ds.map pK,TxtOk (T x))/\Dts K cl F xs (ds.map pV)
 | [],_,.nil,_=>⟨[],[],rfl,rfl,rfl,(λj hj=>by simp at hj),(λx hx=>by simp at hx),.nil⟩
 | v :: vs,_,.cons q r,h=>by
  rw[lcs,lab] at h
  obtain⟨k,dv,rfl⟩:=zlH h.1
  obtain⟨ps,xs,e1,e2,e3,e4,e5,e6⟩:=Dts.pairs r h.2
  cases q with
  | tup sq dq =>
   rename_i a ws
   cases dq with
   | cons q1 r1 =>
    cases r1 with
    | cons q2 r2 =>
     cases r2
     cases q1 with
     | str _ ok =>
      rename_i x
      refine⟨a::ps,x::xs,by rw[e1];rfl,by simp[e2],by simpa using e3,λj hj=>?_,λy hy=>?_,.cons q2 e6⟩
      ·cases j with
       | zero=>exact sq
       | succ j=>exact e4 j (by simpa using hj)
      ·rcases lB.mp hy with rfl|hy
       ·exact ok
       ·exact e5 y hy
theorem zjw {X:Cx}{E:XK}{a:Expr}{fa:Rho->Rs D}{p1 pos1:Pos}(hc:X.calm=true)(hd:Gl X "dict")(md:X.mg "dict" = none)(ha:XE X cl E a fa)(hs:starEach [a] X.env=(false,eval a X.env)::starEach [] X.env):XE X cl E (.Call (.Name "dict" p1) [a] [] pos1) (f1 zfv fa):=by
 obtain⟨t,pt,rt⟩:=ha.ex
 refine XE'.out ⟨_,zjy hc pt hd md hs,λH0 F0 ρ σ H F Q R o=>?_⟩
 unfold zkj jV
 refine rt H0 F0 ρ σ H F _ R (OutE.fst o λd v H1 F1 g1 q o1=>?_)
 obtain⟨z,hz,k⟩:=o1.lf
 have fh:=(R.grow g1).fh
 unfold zfv at hz
 split at hz
 ·rename_i ds
  split at hz
  ·rename_i h
   obtain rfl:=lg hz
   cases q with
   | lst sq dq =>
    obtain⟨ps,xs,e1,e2,e3,e4,e5,e6⟩:=Dts.pairs dq h.1
    subst e1
    refine⟨_,ps,ds.map pK,xs,rfl,fh.seq sq,e3,e2,λj hj=>fh.seqT (e4 j hj),by rw[← e3,lh];exact h.2,λp hp=>k _ _ _ (Gr.new fh hp) ?_⟩
    exact .dct zW ((zkV e5 e6).mono (Same.upd (fh.free hp)))
  ·cases hz
 ·cases hz
end
end L2
set_option maxHeartbeats 4000000
namespace Pg
open PySem L2 PyProof.Rows
def zbR:Rho->Out :=
  (yM (zbm (fA (ari 1 z6) (zj (fNm 0) zG)) (fA (ari 3 yZ) (zj (fNm 1) (zj (fNm 0) (zj (fC (.int 32)) zG))))))
def zaG:List D->Rs D:=yg 2 zbR
def uR:Rho->Out :=
  (sIf (zaL (bT (fA (ari 2 zaG) (zj (fNm 0) (zj (fNm 1) zG)))))
  (sRs 5 (zj (fC (.str [116,104,105,115,32,105,115,32,110,111,32,115,105,122,101,32,102,114,111,109,32,97,115,32,109,97,110,121,32,97,115,32,116,104,101,114,101,32,97,114,101,32,108,101,116,116,101,114,115,44,32,50,32,116,111,32,52,44,32,116,111,32,51,50])) zG))
  sNx)
def v8:List D->Rs D:=yg 2 uR
def uq:List D->Rs D:=yg 4
  (zT (qJ 2)
  (zT (qR (uL 3 (fI lsD (fNm 1))
  (zaB 2 (fNm 3) (fA (ari 2 yC) (zj (fNm 0) (zj (fNm 3) zG))))))
  (zje 2 (yM (fNm 2)))))
def uD:List D->Rs (List (List Nat×D)):=runK 4 2 (qJ 2)
  (qR (uL 3 (fI tpD (fNm 1))
  (zaB 2 (fNm 3) (fA (ari 2 yC) (zj (fNm 0) (zj (fNm 3) zG))))))
def vV:Rho->Out :=
  (yM (f2 zb2 (f2 zca (fNm 1) (fC (.int 1))) (f2 zca (fNm 0) (fC (.int 1)))))
def vd:List D->Rs D:=yg 2 vV
def jR:Rho->Out :=
  (zT (vq (fA (ari 1 yE) (zj (fNm 0) zG)))
  (zT (yh 2 (fO qM (zj (fNm 0) zG)))
  (zT (vq (fA (ari 2 v8) (zj (fNm 2) (zj (fNm 1) zG))))
  (zT (yh 3 (fA (ari 1 ql) (zj (fNm 2) zG)))
  (zT (zhj 4 2 uD (zj (fNm 0) (zj (fNm 3) zG)))
  (zT (qR (uL 5 (fR zm7 (zj (fC (.int 1)) (zj (fA (ari 2 vd) (zj (fNm 2) (zj (fNm 1) zG))) zG)))
  (zT (yh 6 (zlX 4 (fA (ari 2 yp) (zj (fNm 3) (zj (fNm 4) zG)))))
  (zT (yh 3 (fA (ari 3 zag) (zj (fNm 2) (zj (fNm 3) (zj (fNm 6) zG)))))
  (zlW 4 (fA (ari 2 uq) (zj (fNm 0) (zj (fA (ari 2 yc) (zj (fNm 2) (zj (fO mkL (zj (fNm 6) zG)) zG))) zG))))))))
  (yM (fNm 3))))))))
def w6:List D->Rs D:=yg 7 jR
def v7:Rho->Out :=
  (yM (fA (ari 2 jG) (zj (fNm 0) (zj (fA (ari 2 w6) (zj (fNm 0) (zj (fNm 1) zG))) zG))))
def xJ:List D->Rs D:=yg 2 v7
def zbY:Rho->Out :=
  (zT (yh 2 (fA (ari 2 yC) (zj (fNm 0) (zj (fA (ari 2 xq) (zj (fNm 0) (zj (fNm 1) zG))) zG))))
  (yM (zdp (fA (ari 2 yu) (zj (fA (ari 2 wR) (zj (fNm 0) (zj (fNm 1) zG))) (zj (fNm 2) zG))))))
def vH:List D->Rs D:=yg 3 zbY
end Pg
set_option maxHeartbeats 1000000
namespace Pg
open PySem L2 My
theorem zbH {α:Type}(p:α->Bool)(f:α->Int):∀l:List α,(l.map f).sum=((l.filter p).map f).sum+((l.filter λx=>!p x).map f).sum
 | []=>rfl
 | x::l=>by
  have:=zbH p f l
  cases h:p x
  ·rw[lc1 (by simp[h]),lc2 (by simp[h])];simp only[lw,lar];omega
  ·rw[lc2 (by simp[h]),lc1 (by simp[h])];simp only[lw,lar];omega
theorem zbo {α:Type}{f:α->Int}{k:Int}:∀{l:List α},(∀x∈l,k<=f x)->l.length*k<=(l.map f).sum
 | [],_=>by simp
 | x::l,h=>by
  have:=zbo (l:=l) λy hy=>h y (.tail _ hy)
  have:=h x (.head _)
  rw[lw,lar,lC,lbT,lds];simp;omega
theorem zit {α:Type}{f:α->Int}{k:Int}:∀{l:List α},(∀x∈l,f x<=k)->(l.map f).sum<=l.length*k
 | [],_=>by simp
 | x::l,h=>by
  have:=zit (l:=l) λy hy=>h y (.tail _ hy)
  have:=h x (.head _)
  rw[lw,lar,lC,lbT,lds];simp;omega
theorem zin {α:Type}(f:α->Int):∀(l:List α),l≠[]->∃x∈l,∀y∈l,f y<=f x
 | [],h=>absurd rfl h
 | [x],_=>⟨x,.head _,λy hy=>by rw[lK.mp hy];exact lc8 _⟩
 | x :: z::l,_=>by
  obtain⟨a,ha,hm⟩:=zin f (z::l) (by simp)
  by_cases c:f x<=f a
  ·exact ⟨a,.tail _ ha,λy hy=>by
    rcases lB.mp hy with rfl|hy
    ·exact c
    ·exact hm y hy⟩
  ·exact ⟨x,.head _,λy hy=>by
    rcases lB.mp hy with rfl|hy
    ·exact lc8 _
    ·have:=hm y hy;omega⟩
theorem zoy (f:List Nat->Int){I J:List (List Nat)}(nI:I.Nodup)(nJ:J.Nodup)(hl:I.length=J.length)(h:∀x∈J,∀p∈I,p∉J->f p<=f x):(I.map f).sum<=(J.map f).sum:=by
 rw[zbH (λx=>decide (x∈J)) f I,zbH (λx=>decide (x∈I)) f J]
 have pe:(I.filter λx=>decide (x∈J)).Perm (J.filter λx=>decide (x∈I)):=(lbB (nI.filter _) (nJ.filter _)).mpr λx=>by simp[lbG,and_comm]
 rw[jq (pe.map f)]
 have l1:=zaQ (λx=>decide (x∈J)) I
 have l2:=zaQ (λx=>decide (x∈I)) J
 have l3:=pe.length_eq
 have hl2:(I.filter λx=>!decide (x∈J)).length=(J.filter λx=>!decide (x∈I)).length:=by omega
 by_cases hz:(I.filter λx=>!decide (x∈J))=[]
 ·rw[hz] at hl2 ⊢
  rw[la2.mp hl2.symm];exact lc8 _
 ·obtain⟨a,ha,hm⟩:=zin f _ hz
  have s1:=zit (k:=f a) hm
  have ha':=lbG.mp ha
  have s2:((J.filter λx=>!decide (x∈I)).length:Int)*f a<=_:=zbo (f:=f) (k:=f a) λy hy=>h y (lbG.mp hy).1 a ha'.1 (by simpa using ha'.2)
  rw[hl2] at s1;omega
def Best (ws:List Int)(B:List (List Nat)):Prop:=∀x,Inner B x->∀p∈B,wU ws p<=wU ws x
theorem zfk {ws:List Int}(h:yj ws){q p:List Nat}(hp:LetOk ws.length p)(h31:p.length<=31)(e:q <+: p):wU ws p<=wU ws q:=by
 obtain⟨r,rfl⟩:=e
 have hq:LetOk ws.length q:=hp.pre ⟨r,rfl⟩
 have hr:LetOk ws.length r:=λc hc=>hp c (lat.mpr (.inr hc))
 have W:=uH h
 have u1:=zbO h hq
 have u2:=zoR h hr
 rw[lG] at h31
 unfold wU
 rw[zgS,lG,lbi]
 refine la5 ?_ (by omega)
 have e:31 - q.length=r.length+(31 - (q.length+r.length)):=by omega
 rw[e,lbR]
 exact lak u2 (lau (lbs (by omega)))
theorem Book.cover {m:Nat}{B:List (List Nat)}(h:Book m B){p:List Nat}(hp:LetOk m p)(hn:¬Inner B p):∃q∈B,q <+: p:=by
 obtain⟨q,hq,e|e⟩:=h.cv p hp
 ·exact⟨q,hq,e⟩
 ·by_cases z:p=q
  ·exact⟨q,hq,z▸lce _⟩
  ·exact absurd ⟨q,hq,e,z⟩ hn
theorem Best.top {ws:List Int}(h:yj ws){B:List (List Nat)}(hb:Book ws.length B)(b:Best ws B):∀x∈zq B,∀p,LetOk ws.length p->p.length<=31->p∉zq B->wU ws p<=wU ws x:=λx hx p hp h31 hn=>by
 obtain⟨q,hq,e⟩:=Book.cover hb hp λz=>hn (innerKeys_mem.mpr z)
 exact Int.le_trans (zfk h hp h31 e) (b x (innerKeys_mem.mp hx) q hq)
theorem qe {m t:Nat}(m2:2<=m)(m4:m<=4){B:List (List Nat)}(g:My.Gr m t B)(ht:t<=30){x:List Nat}(hx:x∈zq B):LetOk m x/\x.length<=31:=by
 obtain⟨q,hq,e,_⟩:=innerKeys_mem.mp hx
 exact⟨((g.book m2 m4).let_ q hq).pre e,by have:=g.short m2 m4 q hq;have:=e.length_le;omega⟩
section
variable {ws:List Int}(h:yj ws)
include h
end
def gpB (ws:List Int)(B:List (List Nat)):List Nat:=gpF ws B (B.getD 0 [])
def zU (ws:List Int):Nat->List (List Nat)
 | 0=>kids ws.length []
 | k+1=>part ws.length (zU ws k) ((zU ws k).idxOf (gpB ws (zU ws k)))
theorem zdg {ws:List Int}{B:List (List Nat)}(h:B≠[]):gpB ws B∈B:=by
 rcases(zc9 ws B (B.getD 0 [])).2.2 with e|e
 ·unfold gpB;rw[e];exact getD_mem (lbF.mpr h)
 ·exact e
theorem zg2 {ws:List Int}{B:List (List Nat)}{p:List Nat}(hp:p∈B):wU ws p<=wU ws (gpB ws B):=(zc9 ws B (B.getD 0 [])).2.1 p hp
theorem zbk (ws:List Int)(h:yj ws){k:Nat}(g:My.Gr ws.length k (zU ws k)):zU ws k≠[]:=λz=>by
 have:=g.len h.1 h.2.1
 rw[z] at this
 have:=h.1
 simp at *
 omega
theorem yR {ws:List Int}(h:yj ws):∀k,My.Gr ws.length k (zU ws k)
 | 0=>.z
 | k+1=>.s (yR h k) (laq.mpr (zdg (zbk ws h (yR h k))))
theorem zcR {B:List (List Nat)}{p:List Nat}(hp:p∈B):B.getD (B.idxOf p) []=p:=by
 rw[lm,lQ9 (laq.mpr hp)]
 exact lck (laq.mpr hp)
theorem uY {ws:List Int}(h:yj ws):∀k,k<=30->Best ws (zU ws k)
 | 0,_=>λx hx p hp=>by
  have:=(zaA h.1 h.2.1 x).mp hx
  subst this
  have g:=yR h 0
  exact zfk h ((g.book h.1 h.2.1).let_ p hp) (by have:=g.short h.1 h.2.1 p hp;omega) ldo
 | k + 1,hk=>λx hx p hp=>by
  have g:=yR h k
  have hb:=g.book h.1 h.2.1
  have g1:=yR h (k+1)
  have gm:gpB ws (zU ws k)∈zU ws k:=zdg (zbk ws h g)
  have hx2:=((hb.partAt gm).2 x).mp hx
  have hp2:=(part_mem hb.nd (laq.mpr gm)).mp hp
  rw[zcR gm] at hp2
  have up:wU ws p<=wU ws (gpB ws (zU ws k)):=by
   rcases hp2 with z|z
   ·exact zg2 z.1
   ·obtain⟨c,_,e⟩:=kids_mem.mp z
    exact zfk h ((g1.book h.1 h.2.1).let_ p hp) (by have:=g1.short h.1 h.2.1 p hp;omega) ⟨[c],e.symm⟩
  rcases hx2 with z|z
  ·exact Int.le_trans up (uY h k (by omega) x z _ gm)
  ·rw[z];exact up
theorem zlU {m t:Nat}(m2:2<=m)(hl:m+t*(m - 1)<=32):t<=30:=by
 have:t*1<=t*(m - 1):=ldt t (by omega)
 omega
theorem za3 {m t:Nat}(m2:2<=m)(m4:m<=4){B:List (List Nat)}(g:My.Gr m t B)(hl:m+t*(m - 1)<=32):Pcs m B:=by
 have hb:=g.book m2 m4
 have ln:=g.len m2 m4
 have ht:=zlU m2 hl
 refine⟨m2,m4,λz=>?_,by omega,λp hp=>⟨hb.let_ p hp,hb.ne p hp,by have:=g.short m2 m4 p hp;omega⟩⟩
 rw[z] at ln
 simp at ln
 omega
theorem zj6 (ws:List Int)(L:List (List Nat))(p:List Nat):putD (shD ws L) p (frD (qF ws (wU ws p)))=shD ws (jk L p):=by
 unfold putD jk
 by_cases c:p∈L
 ·have:((shD ws L).any λkv=>decide (kv.1=p))=true:=lcH.mpr ⟨_,lah.mpr ⟨p,c,rfl⟩,by simp⟩
  rw[lH this,lH c]
  refine(laC λkv hkv=>?_).trans (lcp _)
  obtain⟨x,hx,rfl⟩:=lah.mp hkv
  dsimp only
  split
  ·rename_i e;rw[e];rfl
  ·rfl
 ·have:((shD ws L).any λkv=>decide (kv.1=p))=false:=by
   rw[List.any_eq_false]
   intro kv hkv z
   obtain⟨x,hx,rfl⟩:=lah.mp hkv
   exact c (lc6 z▸hx)
  rw[this,lap (by decide),lap c]
  unfold shD
  rw[la4];rfl
theorem zeD {ws:List Int}(h:yj ws){d:D}:∀(K L:List (List Nat)) (s:Sl),(∀p∈K,LetOk ws.length p/\p.length<=31)->L.length+K.length<=1000->∃s',forD 3 (zaB 2 (fNm 3) (fA (ari 2 yC) (zj (fNm 0) (zj (fNm 3) zG)))) (sT K) [.fz (.tup (sI ws)),.fz d,.od (shD ws L),s]=.nx [.fz (.tup (sI ws)),.fz d,.od (shD ws (K.foldl jk L)),s']
 | [],L,s,_,_=>⟨s,rfl⟩
 | p::K,L,s,hK,hl=>by
  obtain⟨p1,p2⟩:=hK p (.head _)
  have hlen:=zfr L p
  rw[lC] at hl
  obtain⟨s',e⟩:=zeD h (d:=d) K (jk L p) (.fz (.str p)) (λq hq=>hK q (.tail _ hq)) (by omega)
  refine⟨s',(kW (ρ':=[.fz (.tup (sI ws)),.fz d,.od (shD ws (jk L p)),.fz (.str p)]) ?_).trans e⟩
  have:=zeU (i:=2) (ρ:=[.fz (.tup (sI ws)),.fz d,.od (shD ws L),.fz (.str p)]) (fk:=fNm 3) (fv:=fA (ari 2 yC) (zj (fNm 0) (zj (fNm 3) zG))) (v:=frD (qF ws (wU ws p))) (k:=p) rfl (((fA2 (a:=.tup (sI ws)) (b:=.str p) rfl rfl).trans (zar h p1 (by omega))).trans (by rw[zgr h p2])) rfl (by unfold shD;rw[lh];omega)
  rw[zj6] at this
  exact this
theorem znN {ws:List Int}(h:yj ws){B:List (List Nat)}(hB:∀p∈B,LetOk ws.length p/\p.length<=31)(hl:B.length<=100):uD [.tup (sI ws),.tup (sT B)]=.ok (shD ws (B.foldl jk [])):=by
 obtain⟨s',e⟩:=zeD h (d:=.tup (sT B)) B [] .no hB (by simp;omega)
 have k:zT (qJ 2) (qR (uL 3 (fI tpD (fNm 1)) (zaB 2 (fNm 3) (fA (ari 2 yC) (zj (fNm 0) (zj (fNm 3) zG)))))) ([.tup (sI ws),.tup (sT B)].map .fz++List.replicate (4 - [D.tup (sI ws),D.tup (sT B)].length) .no)=.nx [.fz (.tup (sI ws)),.fz (.tup (sT B)),.od (shD ws (B.foldl jk [])),s'] :=
  (zA (ρ':=[.fz (.tup (sI ws)),.fz (.tup (sT B)),.od [],.no]) rfl).trans (xG ((yO (ds:=sT B) rfl).trans e))
 unfold uD runK
 rw[k];rfl
theorem zn3 {ws:List Int}(h:yj ws){B:List (List Nat)}(hB:∀p∈B,LetOk ws.length p/\p.length<=31)(hl:B.length<=100):uq [.tup (sI ws),.lst (sT B)]=.ok (.dct (shD ws (B.foldl jk []))):=by
 obtain⟨s',e⟩:=zeD h (d:=.lst (sT B)) B [] .no hB (by simp;omega)
 exact zQ ((zA (ρ':=[.fz (.tup (sI ws)),.fz (.lst (sT B)),.od [],.no]) rfl).trans ((zA (xG ((yO (ds:=sT B) rfl).trans e))).trans rfl))
theorem zkg (ws:List Int):∀(K L:List (List Nat)),zmK (shD ws L) (shD ws K)=shD ws (K.foldl jk L)
 | [],L=>rfl
 | p::K,L=>by
  show zmK (putD (shD ws L) p (frD (qF ws (wU ws p)))) (shD ws K)=_
  rw[zj6]
  exact zkg ws K (jk L p)
theorem zaD {ws:List Int}(h:yj ws){B L:List (List Nat)}(hl:∀p∈B,LetOk ws.length p/\p.length<=31)(h0:0<B.length)(hL:∀p∈B,p∈L):yp [.tup (sT B),.dct (shD ws L)]=.ok (.str (gpB ws B)):=by
 have E:=zgi h
 have w:(2:Int) ^ 280<2 ^ 400:=by decide +kernel
 have key:∀(K:List (List Nat)) (f:List Nat) (s:Sl),(∀x∈K,x∈B)->f∈B->∃s1,forD 3 (sIf (bT (fA (ari 2 yu) (zj (f2 getD (fNm 1) (fNm 2)) (zj (f2 getD (fNm 1) (fNm 3)) zG)))) (yh 2 (fNm 3)) sNx) (sT K) [.fz (.tup (sT B)),.fz (.dct (shD ws L)),.fz (.str f),s]=.nx [.fz (.tup (sT B)),.fz (.dct (shD ws L)),.fz (.str (gpF ws K f)),s1]:=by
  intro K
  induction K with
  | nil=>intro f s _ _;exact⟨s,rfl⟩
  | cons x K ih =>
   intro f s hK hf
   have hx:=hK x (.head _)
   have x0:=zaj h (hl x hx).1
   have x1:=zdf h (hl x hx).1 (hl x hx).2
   have f0:=zaj h (hl f hf).1
   have f1:=zdf h (hl f hf).1 (hl f hf).2
   have e2:bT (fA (ari 2 yu) (zj (f2 getD (fNm 1) (fNm 2)) (zj (f2 getD (fNm 1) (fNm 3)) zG))) [.fz (.tup (sT B)),.fz (.dct (shD ws L)),.fz (.str f),.fz (.str x)]=.ok (decide (wU ws f<wU ws x)):=jA (((fA2 (a:=frD (qF ws (wU ws f))) (b:=frD (qF ws (wU ws x))) (yN (a:=.dct (shD ws L)) (b:=.str f) rfl rfl (zbC (hL f hf))) (yN (a:=.dct (shD ws L)) (b:=.str x) rfl rfl (zbC (hL x hx)))).trans (jo (zcb h (by omega) (by omega)) (zcb h (by omega) (by omega)))).trans (by rw[zfs h]))
   by_cases c:wU ws f<wU ws x
   ·rw[lW c] at e2
    obtain⟨s1,k⟩:=ih x (.fz (.str x)) (λy hy=>hK y (.tail _ hy)) hx
    refine⟨s1,?_⟩
    have:gpF ws (x::K) f=gpF ws K x:=by show gpF ws K (if wU ws f<wU ws x then x else f)=_;rw[lH c]
    rw[this]
    exact(kW ((zhD e2).trans (zH (d:=.str x) rfl))).trans k
   ·rw[lN c] at e2
    obtain⟨s1,k⟩:=ih f (.fz (.str x)) (λy hy=>hK y (.tail _ hy)) hf
    refine⟨s1,?_⟩
    have:gpF ws (x::K) f=gpF ws K f:=by show gpF ws K (if wU ws f<wU ws x then x else f)=_;rw[lap c]
    rw[this]
    exact(kW ((zaH e2).trans rfl)).trans k
 obtain⟨s1,k⟩:=key B (B.getD 0 []) .no (λx hx=>hx) (getD_mem h0)
 refine zQ ((zA (zH (d:=.str (B.getD 0 [])) (yN (a:=.tup (sT B)) (b:=.int 0) rfl rfl ?_))).trans ((zA (xG ((yO (ds:=sT B) rfl).trans k))).trans rfl))
 exact zmG h0
theorem zlR {i:Nat}{f:Rho->Rs D}{ρ:Rho}{ds:List (List Nat×D)}{d:D}(e:odL ρ i=some ds)(e1:f (ρ.set i (.fz (.dct ds)))=.ok d)(hf:d.fl=true):zlX i f ρ=.ok d:=by
 unfold zlX
 rw[e]
 simp only[e1,hf,lbD]
theorem zks {i:Nat}{f:Rho->Rs D}{ρ:Rho}{ds es:List (List Nat×D)}(e:odL ρ i=some ds)(e1:f ρ=.ok (.dct es))(hl:ds.length+es.length<=1000000):zlW i f ρ=.nx (ρ.set i (.od (zmK ds es))):=by
 unfold zlW
 rw[e,e1]
 exact lH hl
theorem zjA {i n:Nat}{fn:List D->Rs (List (List Nat×D))}{fs:Rho->Rs (List D)}{ρ:Rho}{ds:List D}{es:List (List Nat×D)}(e:fs ρ=.ok ds)(hl:ds.length=n)(e2:fn ds=.ok es):zhj i n fn fs ρ=.nx (ρ.set i (.od es)):=by
 unfold zhj
 rw[e]
 show(if ds.length=n then _ else _)=_
 rw[lH hl,e2]
theorem zcZ {m:Nat}:ql [.int m]=.ok (.tup (sT (kids m []))):=by
 have e0:=u5 (m:=m) [[]] (by simp) (by simp)
 have e:xT [.int m,.int 1]=.ok (.tup (sT (kids m []))):=by
  refine zQ ((zA (ρ':=[.fz (.int m),.fz (.int 1),.fz (.lst (sT [[]])),.no]) (zH rfl)).trans ?_)
  refine(zA (ρ':=[.fz (.int m),.fz (.int 1),.fz (.lst (sT (kids m []))),.fz (.int 0)]) (xG ((yO (ds:=[.int 0]) (zb0 (ds:=[.int ((1:Nat):Int)]) rfl (wO (n:=1) (by decide)))).trans ?_))).trans (yq rfl)
  refine(kW (ρ':=[.fz (.int m),.fz (.int 1),.fz (.lst (sT (kids m []))),.fz (.int 0)]) (zH (cA2 (a:=.int m) (b:=.lst (sT [[]])) rfl rfl (e0.trans (by rw[zck]))))).trans rfl
 exact zQ (yq (cA2 (a:=.int m) (b:=.int 1) rfl rfl e))
theorem zbU {m s:Nat}(m2:2<=m)(m4:m<=4)(h1:m<=s)(h2:s<=32):v8 [.int m,.int s]=.ok .non:=by
 have e1:zaG [.int m,.int s]=.ok (.bl true):=zQ (yq (zmr (cA1 (a:=.int m) rfl ((zaW m).trans (by rw[lW (by omega),lW (by omega)];rfl))) (cA3 (a:=.int s) (b:=.int m) (c:=.int 32) rfl rfl rfl ((uM s m 32).trans (by rw[lW (by omega),lW (by omega)];rfl)))))
 exact zbs ((zaH (zaP (b:=true) (jA (cA2 (a:=.int m) (b:=.int s) rfl rfl e1)))).trans rfl)
theorem zi3 {m s:Nat}(m2:2<=m)(h1:m<=s)(hs:m<=4):vd [.int m,.int s]=.ok (.int (((s - 1) / (m - 1):Nat):Int)):=by
 refine zQ (yq ((uy (i:=(s:Int) - 1) (j:=(m:Int) - 1) (zaw (i:=s) (j:=1) rfl rfl) (zaw (i:=m) (j:=1) rfl rfl) (by omega) (ug (by omega))).trans ?_))
 rw[Int.natCast_ediv]
 have a:((s - 1:Nat):Int)=(s:Int) - 1:=by omega
 have b:((m - 1:Nat):Int)=(m:Int) - 1:=by omega
 rw[a,b]
theorem ziZ {n:Nat}(h:n<=1000):zm7 [.int 1,.int ((n+1:Nat):Int)]=some ((List.range n).map λ(k:Nat)=>.int (1+(k:Int))):=by
 have h1:-(2 ^ 62)<=(1:Int)/\(1:Int)<2 ^ 62/\-(2 ^ 62)<=((n+1:Nat):Int)/\((n+1:Nat):Int)<2 ^ 62:=by omega
 dsimp only [zm7]
 rw[lH h1,show(((n+1:Nat):Int) - 1).toNat=n from by omega]
theorem znz {f:Rho->Rs D}{ρ:Rho}{ws:List Int}(e:f ρ=.ok (.tup (sI ws))):fO qM (zj f zG) ρ=.ok (.int (ws.length:Int)):=zay (zN e rfl) (by show some (D.int ((sI ws).length:Int))=_;unfold sI;rw[lh])
theorem q9 {ws:List Int}(h:yj ws){s k:Nat}(hs:ws.length<=s)(h32:s<=32)(hk:(s - 1) / (ws.length - 1)=k+1):w6 [.tup (sI ws),.int s]=.ok (.tup (sT (zU ws k))):=by
 have m2:=h.1
 have m4:=h.2.1
 have hsz:ws.length+k*(ws.length - 1)<=32:=by
  have:=Nat.div_mul_le_self (s - 1) (ws.length - 1)
  rw[hk,Nat.add_mul] at this
  omega
 have hk30:=zlU m2 hsz
 have okB:∀j≤k,Pcs ws.length (zU ws j):=λj hj=>za3 m2 m4 (yR h j) (by
  have:j*(ws.length - 1)<=k*(ws.length - 1):=Nat.mul_le_mul_right _ hj
  omega)
 have step:=wN (i:=5) (g:=zT (yh 6 (zlX 4 (fA (ari 2 yp) (zj (fNm 3) (zj (fNm 4) zG)))))
  (zT (yh 3 (fA (ari 3 zag) (zj (fNm 2) (zj (fNm 3) (zj (fNm 6) zG)))))
  (zlW 4 (fA (ari 2 uq) (zj (fNm 0) (zj (fA (ari 2 yc) (zj (fNm 2) (zj (fO mkL (zj (fNm 6) zG)) zG))) zG)))))) (l:=List.range k) (enc:=λ(k:Nat)=>D.int (1+(k:Int)))
  (ρ:=[.fz (.tup (sI ws)),.fz (.int s),.fz (.int ws.length),.fz (.tup (sT (kids ws.length []))),.od (shD ws ((kids ws.length []).foldl jk [])),.no,.no])
  (λj ρ=>∃L s5 s6,L.Nodup/\(∀p∈zU ws j,p∈L)/\L.length<=4+4*j/\ρ=[.fz (.tup (sI ws)),.fz (.int s),.fz (.int ws.length),.fz (.tup (sT (zU ws j))),.od (shD ws L),s5,s6])
  (by
   obtain⟨a1,a2⟩:=foldl_addK (kids ws.length []) [] lcA
   refine⟨_,.no,.no,a1,λp hp=>(a2 p).mpr (.inr hp),?_,rfl⟩
   have:=xg (kids ws.length []) []
   rw[qi _ m4] at this
   simp at this
   omega)
  (λj c ρ hc ⟨L,s5,s6,nd,hL,hl,e⟩=>by
   subst e
   have hj:j<k:=by have:=(lv.mp hc).1;simpa using this
   have g:=yR h j
   have g1:=yR h (j+1)
   have pc:=okB j (by omega)
   have pc1:=okB (j+1) (by omega)
   have hb:=g.book m2 m4
   have gm:gpB ws (zU ws j)∈zU ws j:=zdg (zbk ws h g)
   have hlB:∀p∈zU ws j,LetOk ws.length p/\p.length<=31:=λp hp=>⟨(pc.2.2.2.2 p hp).1,(pc.2.2.2.2 p hp).2.2⟩
   have hkid:∀p∈kids ws.length (gpB ws (zU ws j)),p∈zU ws (j+1):=λp hp=>(part_mem hb.nd (laq.mpr gm)).mpr (.inr (by rw[zcR gm];exact hp))
   have hlK:∀p∈kids ws.length (gpB ws (zU ws j)),LetOk ws.length p/\p.length<=31:=λp hp=>⟨(pc1.2.2.2.2 p (hkid p hp)).1,(pc1.2.2.2.2 p (hkid p hp)).2.2⟩
   have kl:=qi ws.length m4 (gpB ws (zU ws j))
   have e6:=zaD h hlB (lbF.mpr (zbk ws h g)) hL
   have e3:=zh7 pc hb gm
   have eg:=u5 (m:=ws.length) [gpB ws (zU ws j)] (λx hx=>by rw[lK.mp hx];have:=(hlB _ gm).2;omega) (by simp)
   rw[zck] at eg
   have el:=zn3 h hlK (by omega)
   obtain⟨b1,b2⟩:=foldl_addK (kids ws.length (gpB ws (zU ws j))) [] lcA
   obtain⟨c1,c2⟩:=foldl_addK ((kids ws.length (gpB ws (zU ws j))).foldl jk []) L nd
   have l1:=xg (kids ws.length (gpB ws (zU ws j))) []
   have l2:=xg ((kids ws.length (gpB ws (zU ws j))).foldl jk []) L
   simp only[lV] at l1
   refine ⟨_,(zA (ρ':=[.fz (.tup (sI ws)),.fz (.int s),.fz (.int ws.length),.fz (.tup (sT (zU ws j))),.od (shD ws L),.fz (.int (1+(c:Int))),.fz (.str (gpB ws (zU ws j)))]) (zH (d:=.str (gpB ws (zU ws j))) (zlR (ds:=shD ws L) rfl (cA2 (a:=.tup (sT (zU ws j))) (b:=.dct (shD ws L)) rfl rfl e6) rfl))).trans
    ((zA (ρ':=[.fz (.tup (sI ws)),.fz (.int s),.fz (.int ws.length),.fz (.tup (sT (zU ws (j+1)))),.od (shD ws L),.fz (.int (1+(c:Int))),.fz (.str (gpB ws (zU ws j)))]) (zH (d:=.tup (sT (zU ws (j+1)))) (cA3 (a:=.int ws.length) (b:=.tup (sT (zU ws j))) (c:=.str (gpB ws (zU ws j))) rfl rfl rfl e3))).trans
    (zks (ds:=shD ws L) (es:=shD ws ((kids ws.length (gpB ws (zU ws j))).foldl jk [])) rfl (cA2 (a:=.tup (sI ws)) (b:=.lst (sT (kids ws.length (gpB ws (zU ws j))))) rfl (cA2 (a:=.int ws.length) (b:=.lst (sT [gpB ws (zU ws j)])) rfl rfl eg) el) (by unfold shD;rw[lh,lh];omega))),?_⟩
   rw[zkg]
   refine⟨_,_,_,c1,λp hp=>(c2 p).mpr ?_,by omega,rfl⟩
   rcases(part_mem hb.nd (laq.mpr gm)).mp hp with z|z
   ·exact .inl (hL p z.1)
   ·rw[zcR gm] at z
    exact .inr ((b2 p).mpr (.inr z)))
 obtain⟨ρ',e,L,s5,s6,_,_,_,rfl⟩:=step
 rw[lad] at e
 have pc0:=okB 0 (by omega)
 refine zQ ((zA (vD (cA1 (a:=.tup (sI ws)) rfl (wK h)))).trans ((zA (zH (d:=.int ws.length) (znz rfl))).trans ((zA (vD (cA2 (a:=.int ws.length) (b:=.int s) rfl rfl (zbU m2 m4 hs h32)))).trans ((zA (zH (d:=.tup (sT (kids ws.length []))) (cA1 (a:=.int ws.length) rfl zcZ))).trans ((zA (zjA (ds:=[.tup (sI ws),.tup (sT (kids ws.length []))]) (es:=shD ws ((kids ws.length []).foldl jk [])) rfl rfl (znN h (λp hp=>⟨(pc0.2.2.2.2 p hp).1,(pc0.2.2.2.2 p hp).2.2⟩) (by rw[qi _ m4];omega)))).trans ((zA (xG ((yO (ds:=(List.range k).map λ(k:Nat)=>.int (1+(k:Int))) (zb0 (ds:=[.int 1,.int ((k+1:Nat):Int)]) ?_ (ziZ (by omega)))).trans e))).trans (yq rfl)))))))
 exact zN rfl (zN (cA2 (a:=.int ws.length) (b:=.int s) rfl rfl ((zi3 m2 hs m4).trans (by rw[hk]))) rfl)
theorem zlI {f:Rho->Rs D}{ρ:Rho}{b:Bool}(e:f ρ=.ok (.bl b)):zdp f ρ=.ok (.bl !b):=by unfold zdp;rw[e];rfl
section
variable {ws:List Int}(h:yj ws)
include h
theorem zfd {t:Nat}{B:List (List Nat)}(g:My.Gr ws.length t B)(hl:ws.length+t*(ws.length - 1)<=32):jG [.tup (sI ws),.tup (sT B)]=.ok (frD (qF ws (SG ws vM B))):=zkW h (za3 h.1 h.2.1 g hl) (g.book h.1 h.2.1).isBook
theorem zjJ {t:Nat}{B:List (List Nat)}(g:My.Gr ws.length t B)(hl:ws.length+t*(ws.length - 1)<=32):wR [.tup (sI ws),.tup (sT B)]=.ok (frD (qF ws (xr ws (sortF (zq B)) (ws.sum ^ 31)))):=zb6 h (za3 h.1 h.2.1 g hl) (g.book h.1 h.2.1) (by have:=g.keys h.1 h.2.1;have:=zlU h.1 hl;omega)
theorem zga {t:Nat}{B:List (List Nat)}(g:My.Gr ws.length t B)(hl:ws.length+t*(ws.length - 1)<=32):xq [.tup (sI ws),.tup (sT B)]=.ok (.str (gpB ws B)):=ze6 h (za3 h.1 h.2.1 g hl) (g.book h.1 h.2.1)
theorem zld {t:Nat}{B:List (List Nat)}(g:My.Gr ws.length t B)(hl:ws.length+t*(ws.length - 1)<=32):gpB ws B∈B/\LetOk ws.length (gpB ws B)/\(gpB ws B).length<=31:=by
 have p:=za3 h.1 h.2.1 g hl
 have m:=zdg (ws:=ws) p.2.2.1
 exact⟨m,(p.2.2.2.2 _ m).1,(p.2.2.2.2 _ m).2.2⟩
theorem ziA {t:Nat}{B:List (List Nat)}(g:My.Gr ws.length t B)(hl:ws.length+t*(ws.length - 1)<=32):yC [.tup (sI ws),.str (gpB ws B)]=.ok (frD (qF ws (wU ws (gpB ws B)))):=by
 obtain⟨_,a,b⟩:=zld h g hl
 rw[zar h a (by omega),zgr h b]
theorem zhS {t:Nat}{B:List (List Nat)}(g:My.Gr ws.length t B)(hl:ws.length+t*(ws.length - 1)<=32):(¬xr ws (sortF (zq B)) (ws.sum ^ 31)<wU ws (gpB ws B))↔Best ws B:=by
 obtain⟨a,b,c⟩:=j4 ws (sortF (zq B)) (ws.sum ^ 31)
 obtain⟨m,q1,q2⟩:=zld h g hl
 constructor
 ·intro z x hx p hp
  have:=b x (sortF_mem.mpr (innerKeys_mem.mpr hx))
  have:=zg2 (ws:=ws) hp
  omega
 ·intro z
  have:=zdf h q1 q2
  rcases c with c|⟨x,hx,c⟩
  ·omega
  ·have:=z x (innerKeys_mem.mp (sortF_mem.mp hx)) _ m
   omega
theorem zg3 {t:Nat}{B:List (List Nat)}(g:My.Gr ws.length t B)(hl:ws.length+t*(ws.length - 1)<=32):Fra 450 (qF ws (xr ws (sortF (zq B)) (ws.sum ^ 31)))/\Fra 450 (qF ws (wU ws (gpB ws B))):=by
 obtain⟨a,b,c⟩:=j4 ws (sortF (zq B)) (ws.sum ^ 31)
 obtain⟨m,q1,q2⟩:=zld h g hl
 have W:=zan h
 have E:=zgi h
 have w:(2:Int) ^ 280<2 ^ 400:=by decide +kernel
 have u1:=zdf h q1 q2
 have u0:=zaj h q1
 refine⟨zcb h ?_ (by omega),zcb h (by omega) (by omega)⟩
 rcases c with c|⟨x,hx,c⟩
 ·omega
 ·obtain⟨i1,i2⟩:=qe h.1 h.2.1 g (zlU h.1 hl) (sortF_mem.mp hx)
  have:=zaj h i1
  omega
theorem zlF {t:Nat}{B:List (List Nat)}(g:My.Gr ws.length t B)(hl:ws.length+t*(ws.length - 1)<=32):∃b:Bool,yu [frD (qF ws (xr ws (sortF (zq B)) (ws.sum ^ 31))),frD (qF ws (wU ws (gpB ws B)))]=.ok (.bl b)/\(b=false↔Best ws B):=by
 obtain⟨f1,f2⟩:=zg3 h g hl
 refine⟨decide (xr ws (sortF (zq B)) (ws.sum ^ 31)<wU ws (gpB ws B)),(jo f1 f2).trans (by rw[zfs h]),?_⟩
 rw[lc0]
 exact zhS h g hl
theorem zax {t:Nat}{B:List (List Nat)}(g:My.Gr ws.length t B)(hl:ws.length+t*(ws.length - 1)<=32):∃b:Bool,vH [.tup (sI ws),.tup (sT B)]=.ok (.bl b)/\(b=true↔Best ws B):=by
 obtain⟨b,e,k⟩:=zlF h g hl
 refine⟨!b,zQ ((zA (zH (d:=frD (qF ws (wU ws (gpB ws B)))) (cA2 (a:=.tup (sI ws)) (b:=.str (gpB ws B)) rfl (cA2 (a:=.tup (sI ws)) (b:=.tup (sT B)) rfl rfl (zga h g hl)) (ziA h g hl)))).trans (yq (zlI (cA2 (a:=frD (qF ws (xr ws (sortF (zq B)) (ws.sum ^ 31)))) (b:=frD (qF ws (wU ws (gpB ws B)))) (cA2 (a:=.tup (sI ws)) (b:=.tup (sT B)) rfl rfl (zjJ h g hl)) rfl e)))),?_⟩
 rw[← k]
 cases b <;>simp
theorem ziq {s k:Nat}(hs:ws.length<=s)(h32:s<=32)(hk:(s - 1) / (ws.length - 1)=k+1):ws.length+k*(ws.length - 1)<=32/\ws.length+k*(ws.length - 1)<=s/\s+2<=ws.length+k*(ws.length - 1)+ws.length:=by
 have m2:=h.1
 have a:=Nat.div_mul_le_self (s - 1) (ws.length - 1)
 have b:=Nat.lt_div_mul_add (a:=s - 1) (b:=ws.length - 1) (by omega)
 rw[hk,Nat.add_mul] at a b
 omega
theorem qN {s k:Nat}(hs:ws.length<=s)(h32:s<=32)(hk:(s - 1) / (ws.length - 1)=k+1):xJ [.tup (sI ws),.int s]=.ok (frD (qF ws (SG ws vM (zU ws k)))) :=
 zQ (yq (cA2 (a:=.tup (sI ws)) (b:=.tup (sT (zU ws k))) rfl (cA2 (a:=.tup (sI ws)) (b:=.int s) rfl rfl (q9 h hs h32 hk)) (zfd h (yR h k) (ziq h hs h32 hk).1)))
end
structure Ren (ws ws':List Int)(a b:Nat->Nat):Prop where
 len:ws'.length=ws.length
 sum:ws'.sum=ws.sum
 ta:∀c,97<=c/\c<97+ws.length->97<=a c/\a c<97+ws.length
 tb:∀c,97<=c/\c<97+ws.length->97<=b c/\b c<97+ws.length
 ba:∀c,97<=c/\c<97+ws.length->b (a c)=c
 ab:∀c,97<=c/\c<97+ws.length->a (b c)=c
 w:∀c,97<=c/\c<97+ws.length->wt ws' (a c)=wt ws c
section
variable {ws ws':List Int}{a b:Nat->Nat}(R:Ren ws ws' a b)
include R
theorem Ren.leta {x:List Nat}(h:LetOk ws.length x):LetOk ws.length (x.map a):=λc hc=>by
 obtain⟨d,hd,rfl⟩:=lah.mp hc
 exact R.ta d (h d hd)
theorem Ren.letb {x:List Nat}(h:LetOk ws.length x):LetOk ws.length (x.map b):=λc hc=>by
 obtain⟨d,hd,rfl⟩:=lah.mp hc
 exact R.tb d (h d hd)
theorem Ren.mba {x:List Nat}(h:LetOk ws.length x):(x.map a).map b=x:=by
 rw[lY]
 exact(laC λc hc=>R.ba c (h c hc)).trans (lcp x)
theorem Ren.mab {x:List Nat}(h:LetOk ws.length x):(x.map b).map a=x:=by
 rw[lY]
 exact(laC λc hc=>R.ab c (h c hc)).trans (lcp x)
theorem Ren.up:∀{x:List Nat},LetOk ws.length x->up ws' (x.map a)=My.up ws x
 | [],_=>rfl
 | c::x,h=>by
  show wt ws' (a c)*My.up ws' (x.map a)=wt ws c*My.up ws x
  rw[R.w c (h c (.head _)),Ren.up λd hd=>h d (.tail _ hd)]
theorem Ren.wU {x:List Nat}(h:LetOk ws.length x):wU ws' (x.map a)=Pg.wU ws x:=by
 unfold Pg.wU
 rw[R.up h,lh,R.sum]
theorem Ren.wUb {x:List Nat}(h:LetOk ws.length x):Pg.wU ws (x.map b)=Pg.wU ws' x:=by
 have:=R.wU (R.letb h)
 rw[R.mab h] at this
 exact this.symm
theorem Ren.mean (h:yj ws)(h':yj ws'){t:Nat}(ht:t<=30):SG ws' vM (zU ws' t)=SG ws vM (zU ws t):=by
 have g:=yR h t
 have k:=yR h' t
 rw[← zcV h g ht,← zcV h' k ht]
 have okJ:=λ(x:List Nat) (hx:x∈zq (zU ws t))=>qe h.1 h.2.1 g ht hx
 have okK:∀x∈zq (zU ws' t),LetOk ws.length x/\x.length<=31:=λx hx=>by
  have:=qe h'.1 h'.2.1 k ht hx
  rw[R.len] at this
  exact this
 have eK:((zq (zU ws' t)).map (Pg.wU ws')).sum=(((zq (zU ws' t)).map (List.map b)).map (Pg.wU ws)).sum:=by
  rw[lY]
  exact lbj List.sum (laC λx hx=>(R.wUb (okK x hx).1).symm)
 have nd:((zq (zU ws' t)).map (List.map b)).Nodup:=by
  rw[la0,lbv]
  refine List.Pairwise.imp_of_mem ?_ (z7 (zU ws' t))
  intro x y hx hy n e
  have:=lbj (List.map a) e
  rw[R.mab (okK x hx).1,R.mab (okK y hy).1] at this
  exact n this
 have ln:((zq (zU ws' t)).map (List.map b)).length=(zq (zU ws t)).length:=by
  rw[lh,g.keysEq h.1 h.2.1,k.keysEq h'.1 h'.2.1]
 rw[eK]
 refine Int.le_antisymm (zoy (Pg.wU ws) nd (z7 _) ln λx hx p hp hn=>?_) (zoy (Pg.wU ws) (z7 _) nd ln.symm λx hx p hp hn=>?_)
 ·obtain⟨y,hy,rfl⟩:=lah.mp hp
  obtain⟨a1,a2⟩:=okK y hy
  exact(uY h t ht).top h (g.book h.1 h.2.1) x hx _ (R.letb a1) (by rw[lh];exact a2) hn
 ·obtain⟨y,hy,rfl⟩:=lah.mp hx
  obtain⟨a1,a2⟩:=okJ p hp
  rw[R.wUb (okK y hy).1,← R.wU a1]
  refine(uY h' t ht).top h' (k.book h'.1 h'.2.1) y hy _ (by rw[R.len];exact R.leta a1) (by rw[lh];exact a2) λz=>hn ?_
  exact lah.mpr ⟨_,z,R.mba a1⟩
def zdn (a:Nat->Nat)(B:List (List Nat)):List (List Nat):=sortF (B.map (List.map a))
theorem Ren.book {B:List (List Nat)}(hb:Book ws.length B):Book ws.length (zdn a B):=by
 have mm:∀{p},p∈zdn a B↔∃q∈B,q.map a=p:=λ{p}=>by
  unfold zdn
  rw[sortF_mem,lah]
 refine⟨hb.m2,hb.m4,λp hp=>?_,λp hp=>?_,λp hp q hq e=>?_,λx hx=>?_,j6 _,?_⟩
 ·obtain⟨q,hq,rfl⟩:=mm.mp hp
  exact R.leta (hb.let_ q hq)
 ·obtain⟨q,hq,rfl⟩:=mm.mp hp
  exact λz=>hb.ne q hq (List.map_eq_nil_iff.mp z)
 ·obtain⟨p',hp',rfl⟩:=mm.mp hp
  obtain⟨q',hq',rfl⟩:=mm.mp hq
  have:=e.map b
  rw[R.mba (hb.let_ p' hp'),R.mba (hb.let_ q' hq')] at this
  rw[hb.pf p' hp' q' hq' this]
 ·obtain ⟨p,hp,e|e⟩:=hb.cv (x.map b) (R.letb hx)
  ·have:=e.map a
   rw[R.mab hx] at this
   exact⟨_,mm.mpr ⟨p,hp,rfl⟩,.inl this⟩
  ·have:=e.map a
   rw[R.mab hx] at this
   exact⟨_,mm.mpr ⟨p,hp,rfl⟩,.inr this⟩
 ·unfold zdn
  refine(yF _).nodup_iff.mpr ?_
  rw[la0,lbv]
  refine List.Pairwise.imp_of_mem ?_ hb.nd
  intro x y hx hy n e
  have:=lbj (List.map b) e
  rw[R.mba (hb.let_ x hx),R.mba (hb.let_ y hy)] at this
  exact n this
theorem Ren.best {B:List (List Nat)}(hb:Book ws.length B):Best ws' (zdn a B)↔Best ws B:=by
 have mm:∀{p},p∈zdn a B↔∃q∈B,q.map a=p:=λ{p}=>by
  unfold zdn
  rw[sortF_mem,lah]
 constructor
 ·intro z x hx p hp
  obtain⟨q,hq,e1,e2⟩:=hx
  have lx:=(hb.let_ q hq).pre e1
  have:=z (x.map a) ⟨q.map a,mm.mpr ⟨q,hq,rfl⟩,e1.map a,λe=>e2 (by
   have:=lbj (List.map b) e
   rw[R.mba lx,R.mba (hb.let_ q hq)] at this
   exact this)⟩ (p.map a) (mm.mpr ⟨p,hp,rfl⟩)
  rw[R.wU lx,R.wU (hb.let_ p hp)] at this
  exact this
 ·intro z x hx p hp
  obtain⟨q0,hq0,e1,e2⟩:=hx
  obtain⟨q,hq,rfl⟩:=mm.mp hq0
  obtain⟨p',hp',rfl⟩:=mm.mp hp
  have ex:x=(q.take x.length).map a:=by
   rw[ldU]
   exact lcb.mp e1
  have pr:q.take x.length <+: q:=lcG _ _
  have lx:=(hb.let_ q hq).pre pr
  rw[ex,R.wU lx,R.wU (hb.let_ p' hp')]
  exact z _ ⟨q,hq,pr,λe=>e2 (by rw[ex,e])⟩ p' hp'
theorem Ren.sg {B:List (List Nat)}(hb:Book ws.length B):SG ws' vM (zdn a B)=SG ws vM B:=by
 unfold SG zdn
 rw[jq ((yF _).map _),lY]
 refine lbj List.sum (laC λp hp=>?_)
 show vM (p.map a).length*Pg.wU ws' (p.map a)=_
 rw[lh,R.wU (hb.let_ p hp)]
end
theorem zaq {m:Nat}{c:Int}:∀{x:List Nat},LetOk m x->My.up (List.replicate m c) x=c ^ x.length
 | [],_=>by rw[lV,lcM];rfl
 | d::x,h=>by
  show wt (List.replicate m c) d*My.up (List.replicate m c) x=_
  have hd:=h d (.head _)
  rw[zaq λe he=>h e (.tail _ he),lC,lbl,laY]
  congr 1
  unfold wt
  rw[lm,la1,lH (by omega)];rfl
theorem zib (m:Nat)(c:Int):(List.replicate m c).sum=m*c:=by
 induction m with
 | zero=>simp
 | succ m ih=>rw[laB,lar,ih,lbT,lds];simp;omega
theorem zfJ {m:Nat}{c:Int}(m2:2<=m)(c1:1<=c){x y:List Nat}(hx:LetOk m x)(hy:LetOk m y)(x31:x.length<=31)(y31:y.length<=31):wU (List.replicate m c) x<=wU (List.replicate m c) y↔y.length<=x.length:=by
 have key:∀{x y:List Nat},LetOk m x->LetOk m y->x.length<=31->y.length<x.length->wU (List.replicate m c) x<wU (List.replicate m c) y:=by
  intro x y hx hy x31 lt
  unfold wU
  rw[zaq hx,zaq hy,zib]
  have e1:31 - y.length=(31 - x.length)+(x.length - y.length):=by omega
  have e2:x.length=y.length+(x.length - y.length):=by omega
  have pw:c ^ (x.length - y.length)<((m:Int)*c) ^ (x.length - y.length):=by
   obtain⟨n,hn⟩:∃n,x.length - y.length=n+1:=⟨x.length - y.length - 1,by omega⟩
   rw[hn]
   have base:c<(m:Int)*c:=by
    have:2*c<=(m:Int)*c:=lak (by omega) (by omega)
    omega
   have:∀n:Nat,c ^ (n+1)<((m:Int)*c) ^ (n+1):=by
    intro n
    induction n with
    | zero=>rw[lbl,lcM,ldV,lbl,lcM,ldV];exact base
    | succ n ih =>
     rw[lbl c,lbl ((m:Int)*c)]
     have p0:0<c ^ (n+1):=lbs (by omega)
     have a1:c ^ (n+1)*c<c ^ (n+1)*((m:Int)*c):=laZ base p0
     have a2:c ^ (n+1)*((m:Int)*c)<=((m:Int)*c) ^ (n+1)*((m:Int)*c):=lak (lau ih) (by omega)
     omega
   exact this n
  rw[e1,lbR]
  have p1:0<c ^ y.length:=lbs (by omega)
  have mc:0<(m:Int)*c:=ldn (by omega) (by omega)
  have p2:0<((m:Int)*c) ^ (31 - x.length):=lbs mc
  have l:c ^ x.length=c ^ y.length*c ^ (x.length - y.length):=by rw[← lbR,← e2]
  rw[l,lbi,laY (c ^ (x.length - y.length))]
  exact laZ (laZ pw p2) p1
 constructor
 ·intro le
  exact ldZ λz=>by have:=key hy hx y31 z;omega
 ·intro le
  rcases Nat.lt_or_eq_of_le le with z|z
  ·exact lau (key hx hy x31 z)
  ·unfold wU
   rw[zaq hx,zaq hy,z]
   exact lc8 _
theorem zhH {m:Nat}{c:Int}(m2:2<=m)(m4:m<=4)(c1:1<=c)(c9:c<=99):yj (List.replicate m c):=⟨by rw[lX];exact m2,by rw[lX];exact m4,λw hw=>by rw[lb9 hw];exact⟨c1,c9⟩⟩
theorem zgy {m:Nat}{c:Int}(m2:2<=m)(m4:m<=4)(c1:1<=c){t:Nat}(ht:t<=11){B:List (List Nat)}(g:My.Gr m t B)(b:Best (List.replicate m c) B):(∀p∈B,∀q∈B,q.length<=p.length+1)/\∀p∈B,p.length<=5:=by
 have hb:=g.book m2 m4
 have l31:∀p∈B,p.length<=31:=λp hp=>by have:=g.short m2 m4 p hp;omega
 have le:∀x,Inner B x->∀p∈B,x.length<=p.length:=λx hx p hp=>by
  obtain⟨q,hq,e1,e2⟩:=hx
  have lx:=(hb.let_ q hq).pre e1
  have:x.length<=31:=laj e1.length_le (l31 q hq)
  exact(zfJ m2 c1 (hb.let_ p hp) lx (l31 p hp) this).mp (b x ⟨q,hq,e1,e2⟩ p hp)
 have one:∀p∈B,∀q∈B,q.length<=p.length+1:=λp hp q hq=>by
  have hi:Inner B q.dropLast:=(hb.mem_iff.mp hq).2.2.1
  have:=le _ hi p hp
  rw[lcv] at this
  omega
 refine⟨one,λp hp=>ldZ λz=>?_⟩
 have all:∀x,LetOk m x->x.length=4->x∈zq B:=λx hx e=>by
  refine innerKeys_mem.mpr (laF λhn=>?_)
  obtain⟨q,hq,e1⟩:=Book.cover hb hx hn
  have:=one q hq p hp
  have:=e1.length_le
  omega
 have:([[97,97,97,97],[97,97,97,98],[97,97,98,97],[97,97,98,98],[97,98,97,97],[97,98,97,98],[97,98,98,97],[97,98,98,98],[98,97,97,97],[98,97,97,98],[98,97,98,97],[98,97,98,98],[98,98,97,97]]:List (List Nat)).length<=(zq B).length:=by
  refine lca (by decide) λx hx=>all x (λc hc=>?_) ?_
  ·have h2:∀x∈([[97,97,97,97],[97,97,97,98],[97,97,98,97],[97,97,98,98],[97,98,97,97],[97,98,97,98],[97,98,98,97],[97,98,98,98],[98,97,97,97],[98,97,97,98],[98,97,98,97],[98,97,98,98],[98,98,97,97]]:List (List Nat)),∀c∈x,97<=c/\c<99:=by decide
   have:=h2 x hx c hc
   omega
  ·have h2:∀x∈([[97,97,97,97],[97,97,97,98],[97,97,98,97],[97,97,98,98],[97,98,97,97],[97,98,97,98],[97,98,98,97],[97,98,98,98],[98,97,97,97],[98,97,97,98],[98,97,98,97],[98,97,98,98],[98,98,97,97]]:List (List Nat)),x.length=4:=by decide
   exact h2 x hx
 have:=g.keysEq m2 m4
 simp at *
 omega
def qu (m g:Nat):List Int:=(List.replicate m 1).set g 99
theorem zam {m g:Nat}(m2:2<=m)(m4:m<=4)(hg:g<m):yj (qu m g)/\(qu m g).length=m/\(100<=(qu m g).sum/\(qu m g).sum<=102)/\wt (qu m g) (97+g)=99/\∀c,97<=c/\c<97+m->c≠97+g->wt (qu m g) c=1:=by
 have ln:(qu m g).length=m:=by unfold qu;rw[List.length_set,lX]
 have sm:100<=(qu m g).sum/\(qu m g).sum<=102:=by
  have k:∀m<5,2<=m->∀g<m,100<=(qu m g).sum/\(qu m g).sum<=102:=by decide
  exact k m (by omega) m2 g hg
 refine⟨⟨by rw[ln];exact m2,by rw[ln];exact m4,λw hw=>?_⟩,ln,sm,?_,λc hc hn=>?_⟩
 ·unfold qu at hw
  rcases List.mem_or_eq_of_mem_set hw with z|z
  ·rw[lb9 z];decide
  ·rw[z];decide
 ·unfold wt qu
  rw[lm,show 97+g - 97=g by omega,lch (by rw[lX];exact hg)];rfl
 ·unfold wt qu
  rw[lm,ly (by omega),la1,lH (by omega)];rfl
def sg (g n:Nat):List Nat:=List.replicate n (97+g)
theorem zm3 {m g:Nat}(hg:g<m)(n:Nat):LetOk m (sg g n):=λc hc=>by rw[lb9 hc];omega
theorem zaT (g n:Nat):(sg g n).length=n:=lX
theorem zmg {g i j:Nat}(h:i<=j):sg g i <+: sg g j:=⟨sg g (j - i),by unfold sg;rw[List.replicate_append_replicate];congr 1;omega⟩
theorem zlh {m g:Nat}(m2:2<=m)(m4:m<=4)(hg:g<m):∀n,My.up (qu m g) (sg g n)=99 ^ n
 | 0=>by rw[lcM];rfl
 | n+1=>by
  show wt (qu m g) (97+g)*My.up (qu m g) (sg g n)=_
  rw[(zam m2 m4 hg).2.2.2.1,zlh m2 m4 hg n,lbl,laY]
theorem zkm {g:Nat}:∀{p:List Nat},(∀n,p≠sg g n)->∃i c r,p=sg g i++c::r/\c≠97+g
 | [],h=>absurd rfl (h 0)
 | c::p,h=>by
  by_cases e:c=97+g
  ·obtain⟨i,d,r,e2,e3⟩:=zkm (p:=p) λn z=>h (n+1) (by rw[z,e];rfl)
   exact⟨i+1,d,r,by rw[e2,e];rfl,e3⟩
  ·exact⟨0,c,p,rfl,e⟩
theorem znB {m g:Nat}(m2:2<=m)(m4:m<=4)(hg:g<m){j:Nat}(hj:j<=11){p:List Nat}(hp:LetOk m p)(h31:p.length<=31)(hn:∀n,p≠sg g n):wU (qu m g) p<wU (qu m g) (sg g j):=by
 obtain⟨ok,ln,⟨s1,s2⟩,w1,w2⟩:=zam m2 m4 hg
 obtain⟨i,c,r,rfl,hc⟩:=zkm hn
 have pr:sg g i++[c] <+: sg g i++c::r:=⟨r,by simp⟩
 have hp':LetOk (qu m g).length (sg g i++c::r):=by rw[ln];exact hp
 have le:=zfk ok hp' h31 pr
 refine ldA le ?_
 rw[lG,lC,zaT] at h31
 have cm:=hp c (by simp)
 unfold wU
 rw[zgS,zlh m2 m4 hg,zlh m2 m4 hg,lG,zaT,zaT]
 have uc:My.up (qu m g) [c]=1:=by
  show wt (qu m g) c*1=1
  rw[w2 c cm hc];rfl
 rw[uc,Int.mul_one]
 show 99 ^ i*(qu m g).sum ^ (31 - (i+1))<_
 generalize (qu m g).sum=W at *
 have W0:0<W:=by omega
 rcases lcO i j with z|z
 ·obtain⟨d,rfl⟩:∃d,j=i+(d+1):=⟨j - i - 1,by omega⟩
  have e1:31 - (i+1)=(31 - (i+(d+1)))+d:=by omega
  rw[e1,lbR,lbR,lbi]
  refine laZ ?_ (lbs (by decide))
  rw[laY]
  refine Int.mul_lt_mul_of_pos_right ?_ (lbs W0)
  have a:=zcs (a:=W) (b:=102) (by omega) s2 d
  have b:∀d<11,(102:Int) ^ d<99 ^ (d+1):=by decide +kernel
  exact ldA a (b d (by omega))
 ·obtain⟨d,rfl⟩:∃d,i=j+d:=⟨i - j,by omega⟩
  have e1:31 - j=(31 - (j+d+1))+(d+1):=by omega
  rw[e1,lbR,lbR,lbi]
  refine laZ ?_ (lbs (by decide))
  rw[laY]
  refine laZ ?_ (lbs W0)
  have a:=zcs (a:=99) (b:=W) (by decide) (by omega) d
  have p:0<W ^ d:=lbs W0
  rw[lbl]
  have:W ^ d*2<=W ^ d*W:=la5 (by omega) (lau p)
  omega
theorem zia {m g:Nat}(m2:2<=m)(m4:m<=4)(hg:g<m){k:Nat}(hk:k<=11):sortF (zq (zU (qu m g) k))=(List.range (k+1)).map (sg g):=by
 obtain⟨ok,ln,_⟩:=zam m2 m4 hg
 have gr:=yR ok k
 have hb:=gr.book ok.1 ok.2.1
 have ks:=gr.keysEq ok.1 ok.2.1
 have top:=(uY ok k (by omega)).top ok hb
 have ndJ:((List.range (k+1)).map (sg g)).Nodup:=by
  rw[la0,lbv]
  refine lc9 ?_ (la0.mp ld5)
  intro a b n e
  exact n (by have:=lbj List.length e;rwa [zaT,zaT] at this)
 have lJ:((List.range (k+1)).map (sg g)).length=k+1:=by rw[lh,lad]
 have sub:∀x∈zq (zU (qu m g) k),x∈(List.range (k+1)).map (sg g):=λx hx=>by
  obtain⟨lx,x31⟩:=qe ok.1 ok.2.1 gr (by omega) hx
  rw[ln] at lx
  by_cases hn:∀n,x≠sg g n
  ·refine laF λhxJ=>?_
   obtain ⟨y,hyJ,hyI⟩:∃y∈(List.range (k+1)).map (sg g),y∉zq (zU (qu m g) k):=by
    refine laF λz=>?_
    have:(x::(List.range (k+1)).map (sg g)).length<=(zq (zU (qu m g) k)).length:=(lbQ.mpr ⟨hxJ,ndJ⟩).length_le_of_subset λy hy=>by
     rcases lB.mp hy with rfl|hy
     ·exact hx
     ·exact laF λq=>z ⟨y,hy,q⟩
    rw[lC,lJ] at this
    omega
   obtain⟨j,hj,rfl⟩:=lah.mp hyJ
   have hj:=la6.mp hj
   have a:=top x hx (sg g j) (by rw[ln];exact zm3 hg j) (by rw[zaT];omega) hyI
   have b:=znB m2 m4 hg (j:=j) (by omega) lx x31 hn
   omega
  ·obtain ⟨n,hn⟩:∃n,x=sg g n:=laF λz=>hn λn e=>z ⟨n,e⟩
   subst hn
   have:((List.range (n+1)).map (sg g)).length<=(zq (zU (qu m g) k)).length:=by
    refine lca ?_ λy hy=>?_
    ·rw[la0,lbv]
     refine lc9 ?_ (la0.mp ld5)
     intro a b q e
     exact q (by have:=lbj List.length e;rwa [zaT,zaT] at this)
    ·obtain⟨i,hi,rfl⟩:=lah.mp hy
     have hi:=la6.mp hi
     exact innerKeys_mem.mpr ((innerKeys_mem.mp hx).pre (zmg (by omega)))
   rw[lh,lad] at this
   exact lah.mpr ⟨n,la6.mpr (by omega),rfl⟩
 have pe:((List.range (k+1)).map (sg g)).Perm (zq (zU (qu m g) k)):=by
  refine(lbB ndJ (z7 _)).mpr λy=>⟨λhy=>laF λq=>?_,sub y⟩
  have:(y::zq (zU (qu m g) k)).length<=((List.range (k+1)).map (sg g)).length:=(lbQ.mpr ⟨q,z7 _⟩).length_le_of_subset λz hz=>by
   rcases lB.mp hz with rfl|hz
   ·exact hy
   ·exact sub z hz
  rw[lC,lJ] at this
  omega
 refine(sortF_eq ?_ pe).symm
 rw[lbv]
 refine lc9 ?_ (List.pairwise_lt_range (n:=k+1))
 intro a b lt
 obtain⟨d,rfl⟩:∃d,b=a+(d+1):=⟨b - a - 1,by omega⟩
 have:sg g (a+(d+1))=sg g a++(97+g)::sg g d:=by unfold sg;rw[← laB,List.replicate_append_replicate]
 rw[this]
 exact leB (zhZ _ _ _)
end Pg
set_option maxHeartbeats 4000000
namespace K33
open PySem L2 PyProof.Rows
open My
open Pg
abbrev hq2:=zj (fNm 1) (zj (f2 qX (fC (.int 1)) (fA (ari 3 zM) (zj (fNm 0) (zj (fC (.int 3)) (zj (fC (.int 2)) zG))))) zG)
abbrev hq0:=bOr (bT (f2 gtI (f2 zca (f2 ixD (fNm 5) (f1 zoz (fC (.int 1)))) (f2 ixD (fNm 5) (fC (.int 0)))) (fC (.int 1)))) (zaL (bT (fA (ari 2 vH) (zj (fNm 3) (zj (fA (ari 2 xT) hq2) zG)))))
abbrev zm9:=fC (.str [97,98,99,100])
abbrev hq1:=fO mkT (zj (f2 ixD zm9 (fNm 0)) (zj (f2 ixD zm9 (f2 zdq (f2 qX (fNm 0) (fNm 2)) (fNm 1))) zG))
abbrev hq3:=fM isS zhN (fC (.str [])) (yS (fI sgD (fNm 0)) yU (f2 getD (fNm 1) (fNm 0)) [1])
abbrev hq4:=fR zcu (zj (fNm 1) zG)
abbrev hq5:=fL1 zne (yS (fI tpD (fNm 4)) yU (fO qM (zj (fNm 0) zG)) [])
abbrev hq6:=zj (fNm 10) (zj (fNm 11) zG)
abbrev hq7:=yM (fC (.bl false))
abbrev hq8:=f2 ixD (fNm 1) (f2 zdq (f2 zca (fNm 0) (fNm 3)) (fNm 2))
abbrev hq9:=bT (f2 gtI (fO qM (zj (fNm 5) zG)) (fC (.int 2)))
def zk8:Rho->Out :=
  (zT (yh 1 (f2 qX (fC (.int 2)) (fA (ari 3 zM) (zj (fNm 0) (zj (fC (.int 0)) (zj (fC (.int 3)) zG))))))
  (zT (yh 2 (f2 qX (fNm 1) (fA (ari 3 zM) (zj (fNm 0) (zj (fC (.int 1)) (zj (fC (.int 12)) zG))))))
  (zT (yh 3 (f2 zmu (fO mkT (zj (f2 qX (fC (.int 1)) (fA (ari 3 zM) (zj (fNm 0) (zj (fC (.int 2)) (zj (fC (.int 99)) zG))))) zG)) (fNm 1)))
  (zT (yh 4 (fA (ari 2 w6) (zj (fNm 3) (zj (fNm 2) zG))))
  (zT (yh 5 (fLs hq5))
  (zT (sIf (bOr hq9 hq0)
  hq7
  sNx)
  (zT (yh 6 (fA (ari 3 zM) (zj (fNm 0) (zj (fC (.int 4)) (zj (fNm 1) zG)))))
  (zT (vB 7 (fL2 znD (fO mkL (zj (fC (.int 1)) zG)) (fNm 1)))
  (zT (zhB 7 (fNm 6) (fC (.int 99)))
  (zT (yh 8 (f2 ixD zm9 (fNm 6)))
  (zT (yh 9 (f2 zb2 (f2 zca (fNm 2) (fC (.int 1))) (f2 zca (fNm 1) (fC (.int 1)))))
  (zT (sIf (bFl 7 (bT (f2 (eqD true) (fA (ari 1 wD) (zj (fA (ari 2 w6) (zj (fO zj3 (zj (fNm 7) zG)) (zj (fNm 2) zG))) zG)) (yS (fR zcu (zj (fNm 9) zG)) yU (f2 znE (fNm 1) (fNm 0)) [8]))))
  hq7
  sNx)
  (zT (yh 10 (fA (ari 3 uP) (zj (fNm 0) (zj (fC (.int 10)) (zj (fNm 1) zG)))))
  (zT (yh 11 (fA (ari 4 jg) (zj (fNm 0) (zj (fC (.int 20)) (zj (fNm 1) (zj (fA (ari 3 zM) (zj (fNm 0) (zj (fC (.int 8)) (zj (fC (.int 4)) zG)))) zG))))))
  (zT (kj 12 13 (fA (ari 2 jG) hq6))
  (zT (sIf (zaL (bT (fCh leI leI (fNm 13) (fNm 12) (f2 zci (fNm 13) (fO qM (zj (fA (ari 1 wD) (zj (fNm 11) zG)) zG))))))
  hq7
  sNx)
  (zT (yh 14 (f2 qX (fC (.int 1)) (fA (ari 3 zM) (zj (fNm 0) (zj (fC (.int 40)) (zj (f2 zca (fNm 1) (fC (.int 1))) zG))))))
  (zT (yh 15 (f1 zfv (yS hq4 yU hq1 [1,14])))
  (zT (yh 16 (fO zj3 (zj (fLs (fL zgx (zj (yS (fI tpD (fNm 11)) yU hq3 [15]) zG))) zG)))
  (zT (yh 17 (fO zj3 (zj (yS hq4 yU hq8 [10,1,14]) zG)))
  (zT (sIf (bOr (bT (f2 (eqD true) (fA (ari 2 jG) (zj (fNm 17) (zj (fNm 16) zG))) (fA (ari 2 jG) hq6))) (bT (f2 (eqD true) (fA (ari 2 vH) (zj (fNm 17) (zj (fNm 16) zG))) (fA (ari 2 vH) hq6))))
  hq7
  sNx)
  (yM (f2 (eqD false) (fA (ari 2 xJ) (zj (fNm 17) (zj (fNm 2) zG))) (fA (ari 2 xJ) (zj (fNm 10) (zj (fNm 2) zG))))))))))))))))))))))))))
def zjR:List D->Rs D:=yg 18 zk8
end K33
namespace K33
open PySem L2 My Pg
theorem zfX {x y:Nat}:∀{ks:List Nat},y∈insI x ks↔y=x∨y∈ks
 | []=>by simp[insI]
 | z :: ks=>by
  unfold insI
  split
  ·simp
  ·rw [lB,zfX (ks:=ks),lB]
   constructor
   ·rintro(a|a|a)
    ·exact .inr (.inl a)
    ·exact .inl a
    ·exact .inr (.inr a)
   ·rintro(a|a|a)
    ·exact .inr (.inl a)
    ·exact .inl a
    ·exact .inr (.inr a)
theorem zkK {xs:List Nat}(h:∀x∈xs,x∈([1,2,3,4,5,6]:List Nat)):zcq xs∈zaC/\∀y,y∈zcq xs↔y∈xs:=by
 have key:∀(l:List Nat) (acc:List Nat),(∀x∈l,x∈([1,2,3,4,5,6]:List Nat))->acc∈zaC->(l.foldl (λacc x=>if x∈acc then acc else insI x acc) acc)∈zaC/\∀y,y∈l.foldl (λacc x=>if x∈acc then acc else insI x acc) acc↔y∈acc∨y∈l:=by
  intro l
  induction l with
  | nil=>intro acc _ ha;exact⟨ha,λy=>by simp⟩
  | cons x l ih =>
   intro acc hl ha
   rw[lag]
   by_cases e:x∈acc
   ·rw [lH e]
    obtain⟨i1,i2⟩:=ih acc (λy hy=>hl y (lM _ hy)) ha
    refine⟨i1,λy=>?_⟩
    rw[i2,lB]
    constructor
    ·rintro(a|a)
     ·exact .inl a
     ·exact .inr (.inr a)
    ·rintro(a|a|a)
     ·exact .inl a
     ·exact .inl (a▸e)
     ·exact .inr a
   ·rw [lap e]
    obtain⟨i1,i2⟩:=ih (insI x acc) (λy hy=>hl y (lM _ hy)) (zbL true acc ha x (hl x lac) e).2.2.2.2.1
    refine⟨i1,λy=>?_⟩
    rw[i2,zfX,lB]
    constructor
    ·rintro((a|a)|a)
     ·exact .inr (.inl a)
     ·exact .inl a
     ·exact .inr (.inr a)
    ·rintro(a|a|a)
     ·exact .inl (.inr a)
     ·exact .inl (.inl a)
     ·exact .inr a
 obtain⟨k1,k2⟩:=key xs [] h (by decide)
 exact⟨k1,λy=>by rw[show zcq xs=xs.foldl (λacc x=>if x∈acc then acc else insI x acc) [] from rfl,k2];simp⟩
theorem zbA:∀{xs:List Nat},(∀x∈xs,x∈([1,2,3,4,5,6]:List Nat))->za4 (xs.map λ(k:Nat)=>D.int (k:Int))=some xs
 | [],_=>rfl
 | x::xs,h=>by
  have key:∀n∈([1,2,3,4,5,6]:List Nat),1<=n/\n<=6:=by decide
  have:=key x (h x lac)
  rw[lw]
  unfold za4
  rw[lH ⟨by omega,by omega⟩,zbA λy hy=>h y (lM _ hy)]
  rfl
theorem zfu {m:Nat}(m4:m<=4):∀n,n<=2->(uJ m n).length<=16
 | 0,_=>by show 1<=16;decide
 | 1,_=>by
  have:=zaM m m4 (uJ m 0)
  have e:(uJ m 0).length=1:=rfl
  show(zK m (uJ m 0)).length<=16
  omega
 | 2,_=>by
  have h1:=zaM m m4 (uJ m 0)
  have h2:=zaM m m4 (uJ m 1)
  have e:(uJ m 0).length=1:=rfl
  have e1:(uJ m 1).length=(zK m (uJ m 0)).length:=rfl
  show(zK m (uJ m 1)).length<=16
  omega
theorem zeb {m n:Nat}(m4:m<=4)(hn:n<=2):xT [.int m,.int n]=.ok (.tup (sT (uJ m n))):=by
 obtain ⟨ρ',e,s,rfl⟩:=wN (i:=3) (g:=yh 2 (fA (ari 2 yc) (zj (fNm 0) (zj (fNm 2) zG)))) (l:=List.range n) (enc:=λ(k:Nat)=>D.int (k:Int)) (ρ:=[.fz (.int m),.fz (.int n),.fz (.lst (sT [[]])),.no])
  (λk ρ=>∃s,ρ=[.fz (.int m),.fz (.int n),.fz (.lst (sT (uJ m k))),s]) ⟨.no,rfl⟩ (λk x ρ hc ⟨s,e⟩=>by
   subst e
   have hk:k<n:=by have:=(lv.mp hc).1;simpa using this
   have hl:=zfu m4 k (by omega)
   refine⟨_,zH ((fA2 (a:=.int m) (b:=.lst (sT (uJ m k))) rfl rfl).trans (u5 _ (λy hy=>?_) (by omega))),.fz (.int (x:Int)),rfl⟩
   have:=((xH m4).mp hy).1
   omega)
 rw[lad] at e
 exact zQ ((zA (zH (d:=.lst (sT [[]])) rfl)).trans ((zA (xG ((yO (zb0 (ds:=[.int (n:Int)]) rfl (wO (by omega)))).trans e))).trans rfl))
theorem zle {xs:List (List Nat)}(h:xs.flatten.length<=1000000):zhN (.str []) (.lst (sT xs))=some (.str xs.flatten):=by
 dsimp only [zhN]
 rw[zeS,lH ⟨zeH _,h⟩]
theorem eqT {x y:Int×Int}(h:x=y):eqD true (frD x) (frD y)=some (.bl false):=by rw[zj9,lW h];rfl
theorem eqF {x y:Int×Int}(h:x=y):eqD false (frD x) (frD y)=some (.bl true):=by rw[zj9,lW h];rfl
theorem zjl {i:Nat}{fk fv:Rho->Rs D}{ρ:Rho}{ds:List D}{k:Nat}{v:D}(e:owL ρ i=some ds)(e1:fv ρ=.ok v)(e2:fk ρ=.ok (.int (k:Int)))(hk:k<ds.length)(hl:ds.length<=1000):zhB i fk fv ρ=.nx (ρ.set i (.ow (ds.set k v))):=by
 unfold zhB
 simp only[e,e1,e2]
 rw[lH ⟨by omega,by omega,by omega⟩]
 rfl
theorem ziY {s:List Nat}(hs:s∈zaC)(ne:s≠[])(h:∀x∈s,∀y∈s,y<=x+1):(∃x,s=[x])∨∃x,s=[x,x+1]:=by
 have k:∀s∈zaC,s≠[]->(∀x∈s,∀y∈s,y<=x+1)->s=[s.headD 0]∨s=[s.headD 0,s.headD 0+1]:=by decide +kernel
 rcases k s hs ne h with e|e
 ·exact .inl ⟨_,e⟩
 ·exact .inr ⟨_,e⟩
theorem zjB {ρ:Rho}{B:List (List Nat)}(e:fNm 4 ρ=.ok (.tup (sT B)))(ne:B≠[])(h32:B.length<=32)(h1:∀p∈B,p≠[])(h2:∀p∈B,∀q∈B,q.length<=p.length+1)(h5:∀p∈B,p.length<=5):∃s:List Nat,fLs hq5 ρ=.ok (.lst (s.map λ(k:Nat)=>D.int (k:Int)))/\((∃x,s=[x])∨∃x,s=[x,x+1]):=by
 have hin:∀x∈B.map List.length,x∈([1,2,3,4,5,6]:List Nat):=λx hx=>by
  obtain⟨p,hp,rfl⟩:=lah.mp hx
  have key:∀n<7,1<=n->n∈([1,2,3,4,5,6]:List Nat):=by decide
  have a:=lbF.mpr (h1 p hp)
  have b:=h5 p hp
  exact key _ (by omega) (by omega)
 obtain⟨d1,d2⟩:=zkK hin
 refine⟨zcq (B.map List.length),zgP (znA (a:=.lst ((B.map List.length).map λ(k:Nat)=>D.int (k:Int))) (vA (ds:=sT B) (zmI e rfl) (by rw[xZ];omega) ?_) ?_),ziY d1 (λz=>?_) λx hx y hy=>?_⟩
 ·rw[lY]
  exact yx (l:=B) (enc:=D.str) (λp=>D.int (p.length:Int)) λp hp=>rfl
 ·show smI _=_
  unfold smI
  rw[zbA hin];rfl
 ·cases B with
  | nil=>exact ne rfl
  | cons p B=>have:=(d2 p.length).mpr (.head _);rw[z] at this;cases this
 ·obtain⟨p,hp,rfl⟩:=lah.mp ((d2 x).mp hx)
  obtain⟨q,hq,rfl⟩:=lah.mp ((d2 y).mp hy)
  exact h2 p hp q hq
theorem zhM {m:Nat}{c:Int}(m2:2<=m)(m4:m<=4)(c1:1<=c){n:Nat}(n1:0<n)(n2:n<=2):Best (List.replicate m c) (uJ m n):=λx hx p hp=>by
 obtain⟨q,hq,e1,e2⟩:=hx
 obtain⟨lp,okp⟩:=(xH m4).mp hp
 obtain⟨lq,okq⟩:=(xH m4).mp hq
 have:=e1.length_le
 exact(zfJ m2 c1 okp (okq.pre e1) (by omega) (by omega)).mpr (by omega)
def pi (m st:Nat)(c:Nat):Nat:=97+(c - 97+st) % m
def exW (ws:List Int)(st:Nat):List Int:=(List.range ws.length).map λ(i:Nat)=>ws.getD (((i:Int) - (st:Int)) % (ws.length:Int)).toNat 0
theorem zmZ {ws:List Int}(h:yj ws){st:Nat}(s1:1<=st)(s2:st<ws.length):Ren ws (exW ws st) (pi ws.length st) (pi ws.length (ws.length - st)):=by
 have ln:(exW ws st).length=ws.length:=by unfold exW;rw[lh,lad]
 have arith:∀m<5,2<=m->∀st<m,1<=st->∀i<m,(97<=pi m st (97+i)/\pi m st (97+i)<97+m)/\pi m (m - st) (pi m st (97+i))=97+i/\pi m st (pi m (m - st) (97+i))=97+i/\97<=pi m (m - st) (97+i)/\pi m (m - st) (97+i)<97+m:=by
  intro m hm m2 st hs s1 i hi
  rcases(by omega:m=2∨m=3∨m=4) with rfl|rfl|rfl <;>rcases(by omega:st=1∨st=2∨st=3) with rfl|rfl|rfl <;>rcases(by omega:i=0∨i=1∨i=2∨i=3) with rfl|rfl|rfl|rfl <;>first|(exfalso;omega)|decide
 have ar:∀c,97<=c/\c<97+ws.length->(97<=pi ws.length st c/\pi ws.length st c<97+ws.length)/\pi ws.length (ws.length - st) (pi ws.length st c)=c/\pi ws.length st (pi ws.length (ws.length - st) c)=c/\97<=pi ws.length (ws.length - st) c/\pi ws.length (ws.length - st) c<97+ws.length:=λc hc=>by
  obtain⟨i,rfl⟩:∃i,c=97+i:=⟨c - 97,by omega⟩
  exact arith ws.length (by have:=h.2.1;omega) h.1 st s2 s1 i (by omega)
 refine⟨ln,?_,λc hc=>(ar c hc).1,λc hc=>(ar c hc).2.2.2,λc hc=>(ar c hc).2.1,λc hc=>(ar c hc).2.2.1,?_⟩
 ·rcases zc5 h.1 h.2.1 with⟨a,b,rfl⟩|⟨a,b,d,rfl⟩|⟨a,b,d,f,rfl⟩
  ·have:st=1:=by simp at s2;omega
   subst this
   show b+(a+0)=a+(b+0)
   omega
  ·have:st=1∨st=2:=by simp at s2;omega
   rcases this with rfl|rfl
   ·show d+(a+(b+0))=a+(b+(d+0));omega
   ·show b+(d+(a+0))=a+(b+(d+0));omega
  ·have:st=1∨st=2∨st=3:=by simp at s2;omega
   rcases this with rfl|rfl|rfl
   ·show f+(a+(b+(d+0)))=a+(b+(d+(f+0)));omega
   ·show d+(f+(a+(b+0)))=a+(b+(d+(f+0)));omega
   ·show b+(d+(f+(a+0)))=a+(b+(d+(f+0)));omega
 ·intro c hc
  rcases zc5 h.1 h.2.1 with⟨a,b,rfl⟩|⟨a,b,d,rfl⟩|⟨a,b,d,f,rfl⟩
  ·have:st=1:=by simp at s2;omega
   subst this
   have:c=97∨c=98:=by simp at hc;omega
   rcases this with rfl|rfl <;>(simp only[lC,lV,lba,Nat.reduceAdd];rfl)
  ·have:st=1∨st=2:=by simp at s2;omega
   have hc:c=97∨c=98∨c=99:=by simp at hc;omega
   rcases this with rfl|rfl <;>rcases hc with rfl|rfl|rfl <;>(simp only[lC,lV,lba,Nat.reduceAdd];rfl)
  ·have:st=1∨st=2∨st=3:=by simp at s2;omega
   have hc:c=97∨c=98∨c=99∨c=100:=by simp at hc;omega
   rcases this with rfl|rfl|rfl <;>rcases hc with rfl|rfl|rfl|rfl <;>(simp only[lC,lV,lba,Nat.reduceAdd];rfl)
theorem zml {ws:List Int}(h:yj ws)(st:Nat):yj (exW ws st):=by
 have ln:(exW ws st).length=ws.length:=by unfold exW;rw[lh,lad]
 refine⟨by rw[ln];exact h.1,by rw[ln];exact h.2.1,λw hw=>?_⟩
 obtain⟨i,hi,rfl⟩:=lah.mp hw
 have m0:(0:Int)<(ws.length:Int):=by have:=h.1;omega
 have a:=lbS ((i:Int) - (st:Int)) (b:=(ws.length:Int)) (by omega)
 have b:=lbA ((i:Int) - (st:Int)) m0
 refine h.2.2 _ ?_
 rw[lm,lQ9 (by omega)]
 exact laV _
def nmD (m st:Nat):List (List Nat×D):=(List.range m).map λi=>([97+i],D.str [97+(i+st) % m])
theorem ziD {m st:Nat}(m2:2<=m)(m4:m<=4):zfv (.lst ((List.range m).map λi=>D.tup [.str [97+i],.str [97+(i+st) % m]]))=some (.dct (nmD m st)):=by
 have:m=2∨m=3∨m=4:=by omega
 rcases this with rfl|rfl|rfl <;>rfl
theorem zil {m st c:Nat}(m2:2<=m)(m4:m<=4)(hc:97<=c/\c<97+m):getD (.dct (nmD m st)) (.str [c])=some (.str [pi m st c]):=by
 obtain⟨i,rfl⟩:∃i,c=97+i:=⟨c - 97,by omega⟩
 have hi:i<m:=by omega
 have ec:pi m st (97+i)=97+(i+st) % m:=by unfold pi;rw[show 97+i - 97=i by omega]
 rw[ec]
 have:m=2∨m=3∨m=4:=by omega
 rcases this with rfl|rfl|rfl
 ·have:i=0∨i=1:=by omega
  rcases this with rfl|rfl <;>rfl
 ·have:i=0∨i=1∨i=2:=by omega
  rcases this with rfl|rfl|rfl <;>rfl
 ·have:i=0∨i=1∨i=2∨i=3:=by omega
  rcases this with rfl|rfl|rfl|rfl <;>rfl
theorem zeO {j:Nat}(h:j<4):ixD (.str [97,98,99,100]) (.int (j:Int))=some (.str [97+j]):=by
 rw[ze5 h]
 have:j=0∨j=1∨j=2∨j=3:=by omega
 rcases this with rfl|rfl|rfl|rfl <;>rfl
theorem zgB {m st:Nat}(m2:2<=m)(m4:m<=4){ρ:Rho}(e1:ρ[1]? = some (.fz (.int (m:Int))))(e14:ρ[14]? = some (.fz (.int (st:Int)))):yS hq4 yU hq1 [1,14] ρ=.ok (.lst ((List.range m).map λi=>D.tup [.str [97+i],.str [97+(i+st) % m]])):=by
 have ec:v9 1 [1,14] ρ=[.no,.fz (.int (m:Int)),.fz (.int (st:Int))]:=by
  unfold v9
  simp[e1,e14]
 refine vA (ds:=(List.range m).map λ(k:Nat)=>D.int (k:Int)) (zb0 (ds:=[.int (m:Int)]) ?_ (wO (by omega))) (by rw[lh,lad];omega) ?_
 ·exact zN (by unfold fNm;rw[e1]) rfl
 ·rw[ec]
  refine yx (l:=List.range m) (enc:=λ(k:Nat)=>D.int (k:Int)) (λi=>D.tup [.str [97+i],.str [97+(i+st) % m]]) λi hi=>?_
  have hi:=la6.mp hi
  have md:((i:Int)+(st:Int)) % (m:Int)=(((i+st) % m:Nat):Int):=by rw[Int.natCast_emod,lbT]
  exact zay (ds:=[.str [97+i],.str [97+(i+st) % m]]) (zN (yN (a:=.str [97,98,99,100]) (b:=.int (i:Int)) rfl rfl (zeO (by omega))) (zN (yN (a:=.str [97,98,99,100]) (b:=.int (((i+st) % m:Nat):Int)) rfl ((uU (xN (i:=(i:Int)) (j:=(st:Int)) rfl rfl) (j:=(m:Int)) rfl (by omega)).trans (by rw[md])) (zeO (by have:=Nat.mod_lt (i+st) (show 0<m by omega);omega))) rfl)) rfl
theorem ziN {m st:Nat}(m2:2<=m)(m4:m<=4){B:List (List Nat)}(hB:B.length<=32)(hl:∀p∈B,LetOk m p/\p.length<=31){ρ:Rho}(e11:ρ[11]? = some (.fz (.tup (sT B))))(e15:ρ[15]? = some (.fz (.dct (nmD m st)))) :
  yS (fI tpD (fNm 11)) yU hq3 [15] ρ=.ok (.lst (sT (B.map (List.map (pi m st))))):=by
 have ec:v9 1 [15] ρ=[.no,.fz (.dct (nmD m st))]:=by
  unfold v9
  simp[e15]
 refine vA (ds:=sT B) (zmI (a:=.tup (sT B)) (by unfold fNm;rw[e11]) rfl) (by rw[xZ];omega) ?_
 rw[ec]
 have es:sT (B.map (List.map (pi m st)))=B.map λp=>D.str (p.map (pi m st)):=by unfold sT;rw[lY];rfl
 rw[es]
 refine yx (l:=B) (enc:=D.str) (λp=>D.str (p.map (pi m st))) λp hp=>?_
 obtain⟨lp,p31⟩:=hl p hp
 have e1:yS (fI sgD (fNm 0)) yU (f2 getD (fNm 1) (fNm 0)) [1] [.fz (.str p),.fz (.dct (nmD m st))]=.ok (.lst (sT (p.map λc=>[pi m st c]))):=by
  have es2:sT (p.map λc=>[pi m st c])=p.map λc=>D.str [pi m st c]:=by unfold sT;rw[lY];rfl
  rw[es2]
  exact vA (ds:=p.map λc=>D.str [c]) rfl (by rw[lh];omega) (yx (l:=p) (enc:=λc=>D.str [c]) (λc=>D.str [pi m st c]) λc hc=>yN (a:=.dct (nmD m st)) (b:=.str [c]) rfl rfl (zil m2 m4 (lp c hc)))
 have fl:∀q:List Nat,(q.map λc=>[pi m st c]).flatten=q.map (pi m st):=by
  intro q
  induction q with
  | nil=>rfl
  | cons c q ih=>rw[lw,lbt,ih];rfl
 exact zmA (a:=.str []) (b:=.lst (sT (p.map λc=>[pi m st c]))) rfl rfl e1 ((zle (by rw[fl,lh];omega)).trans (by rw[fl]))
theorem zlk {ws:List Int}(h:yj ws){st:Nat}{ρ:Rho}(e10:ρ[10]? = some (.fz (.tup (sI ws))))(e1:ρ[1]? = some (.fz (.int (ws.length:Int))))(e14:ρ[14]? = some (.fz (.int (st:Int)))) :
  yS hq4 yU hq8 [10,1,14] ρ=.ok (.lst (sI (exW ws st))):=by
 have ec:v9 1 [10,1,14] ρ=[.no,.fz (.tup (sI ws)),.fz (.int (ws.length:Int)),.fz (.int (st:Int))]:=by
  unfold v9
  simp[e1,e10,e14]
 have m0:(0:Int)<(ws.length:Int):=by have:=h.1;omega
 refine vA (ds:=(List.range ws.length).map λ(k:Nat)=>D.int (k:Int)) (zb0 (ds:=[.int (ws.length:Int)]) (zN (by unfold fNm;rw[e1]) rfl) (wO (by have:=h.2.1;omega))) (by rw[lh,lad];have:=h.2.1;omega) ?_
 rw[ec]
 have es:sI (exW ws st)=(List.range ws.length).map λ(i:Nat)=>D.int (ws.getD (((i:Int) - (st:Int)) % (ws.length:Int)).toNat 0):=by unfold sI exW;rw[lY];rfl
 rw[es]
 refine yx (l:=List.range ws.length) (enc:=λ(k:Nat)=>D.int (k:Int)) (λi=>D.int (ws.getD (((i:Int) - (st:Int)) % (ws.length:Int)).toNat 0)) λi hi=>?_
 have a:=lbS ((i:Int) - (st:Int)) (b:=(ws.length:Int)) (by omega)
 have b:=lbA ((i:Int) - (st:Int)) m0
 obtain⟨n,hn⟩:=lZ a
 refine yN (a:=.tup (sI ws)) (b:=.int ((n:Nat):Int)) rfl ((uU (zaw (i:=(i:Int)) (j:=(st:Int)) rfl rfl) (j:=(ws.length:Int)) rfl m0).trans (by rw[hn])) ?_
 rw[hn] at b ⊢
 have hlt:n<(sI ws).length:=by unfold sI;rw[lh];omega
 show atI (sI ws) (n:Int)=_
 rw[znt hlt]
 have:(sI ws)[n]=D.int (ws.getD n 0):=by
  refine(List.getElem_map D.int).trans ?_
  rw[lm,lQ9 (by omega)];rfl
 rw[this];rfl
theorem zeY {ws:List Int}(h:yj ws){t:Nat}(ht:t<=30){B:List (List Nat)}(g:My.Gr ws.length t B):(qF ws (SG ws vM B)).2<=(qF ws (SG ws vM B)).1/\(qF ws (SG ws vM B)).1<=(qF ws (SG ws vM B)).2*((zq B).length:Int):=by
 have hb:=g.book h.1 h.2.1
 have W:=zan h
 have S:=zcV h g ht
 have hin:([]:List Nat)∈zq B:=innerKeys_mem.mpr hb.nilInner
 have lo:ws.sum ^ 31<=SG ws vM B:=by
  rw[← S,jq ((List.perm_cons_erase hin).map (wU ws)),lw,lar,zjO h]
  have:=zbo (l:=(zq B).erase []) (f:=wU ws) (k:=0) λx hx=>lau (zaj h (qe h.1 h.2.1 g ht (List.mem_of_mem_erase hx)).1)
  omega
 have hi:SG ws vM B<=(zq B).length*ws.sum ^ 31:=by
  rw[← S]
  exact zit λx hx=>zdf h (qe h.1 h.2.1 g ht hx).1 (qe h.1 h.2.1 g ht hx).2
 have cr:=zgM (u:=SG ws vM B) W
 have dp:=zh3 (u:=SG ws vM B) W
 unfold qF
 generalize (low (SG ws vM B) (ws.sum ^ 31)).1=u at *
 generalize (low (SG ws vM B) (ws.sum ^ 31)).2=d at *
 generalize SG ws vM B=Sg at *
 generalize ws.sum ^ 31=w at *
 constructor
 ·have a:w*d<=Sg*d:=lak lo (by omega)
  rw[cr,laY u] at a
  exact Int.le_of_mul_le_mul_left a W
 ·have a:Sg*d<=(zq B).length*w*d:=lak hi (by omega)
  rw[cr] at a
  refine Int.le_of_mul_le_mul_right ?_ W
  have e:((zq B).length:Int)*w*d=d*((zq B).length:Int)*w:=by rw[Int.mul_right_comm,laY d]
  omega
theorem zhx {m:Nat}(m2:2<=m)(m4:m<=4)(c:Int):zmu (.tup [.int c]) (.int (m:Int))=some (.tup (sI (List.replicate m c))):=by
 have e:zmu (.tup [.int c]) (.int (m:Int))=if 2<=(m:Int)/\(m:Int)<=1000/\[D.int c].length<=1000/\[D.int c]≠[] then some (.tup (List.replicate (m:Int).toNat [D.int c]).flatten) else none:=rfl
 rw[e,lH ⟨by omega,by omega,by simp,by simp⟩]
 rcases(by omega:m=2∨m=3∨m=4) with rfl|rfl|rfl <;>rfl
theorem zja {m:Nat}(m2:2<=m)(m4:m<=4):znD (.lst [.int 1]) (.int (m:Int))=some (sI (List.replicate m 1)):=by
 rcases(by omega:m=2∨m=3∨m=4) with rfl|rfl|rfl <;>rfl
theorem zjI {g k:Nat}(hk:k<=30){ρ:Rho}(e8:ρ[8]? = some (.fz (.str [97+g])))(e9:ρ[9]? = some (.fz (.int ((k+1:Nat):Int)))):yS (fR zcu (zj (fNm 9) zG)) yU (f2 znE (fNm 1) (fNm 0)) [8] ρ=.ok (.lst (sT ((List.range (k+1)).map (sg g)))):=by
 have ec:v9 1 [8] ρ=[.no,.fz (.str [97+g])]:=by
  unfold v9
  simp[e8]
 refine vA (ds:=(List.range (k+1)).map λ(i:Nat)=>D.int (i:Int)) (zb0 (ds:=[.int ((k+1:Nat):Int)]) (zN (by unfold fNm;rw[e9]) rfl) (wO (by omega))) (by rw[lh,lad];omega) ?_
 rw[ec]
 have es:sT ((List.range (k+1)).map (sg g))=(List.range (k+1)).map λi=>D.str (sg g i):=by unfold sT;rw[lY];rfl
 rw[es]
 refine yx (l:=List.range (k+1)) (enc:=λ(i:Nat)=>D.int (i:Int)) (λi=>D.str (sg g i)) λi hi=>?_
 have hi:=la6.mp hi
 exact yN (a:=.str [97+g]) (b:=.int (i:Int)) rfl rfl (lH ⟨by omega,by omega⟩)
theorem zjo (ns:List Int)(hn:ns.length<=63):zjR [.lst (ns.map .int)]=.ok (.bl true):=by
 have hd:=yr ns 0 (m:=3) (by decide)
 obtain⟨r,hr⟩:=lZ hd.1
 rw[hr] at hd
 have m2:2<=2+r:=by omega
 have m4:2+r<=4:=by omega
 have er:=wV ns hn 0 3 (by decide) (by decide) (by decide)
 rw[hr] at er
 generalize hm:2+r=m at m2 m4
 have hd1:=yr ns 1 (m:=12) (by decide)
 obtain⟨z,hz⟩:=lZ hd1.1
 have e1:=wV ns hn 1 12 (by decide) (by decide) (by decide)
 rw[hz] at hd1 e1
 have hd2:=yr ns 2 (m:=99) (by decide)
 have e2:=wV ns hn 2 99 (by decide) (by decide) (by decide)
 generalize vz ns 2 99=c at hd2 e2
 have hd3:=yr ns 3 (m:=2) (by decide)
 obtain⟨n',hn'⟩:=lZ hd3.1
 have e3:=wV ns hn 3 2 (by decide) (by decide) (by decide)
 rw[hn'] at hd3 e3
 have hd4:=yr ns 4 (m:=(m:Int)) (by omega)
 obtain⟨gg,hgg⟩:=lZ hd4.1
 have e4:=wV ns hn 4 (m:Int) (by decide) (by decide) (by omega)
 rw[hgg] at hd4 e4
 have hd8:=yr ns 8 (m:=4) (by decide)
 obtain⟨t,ht⟩:=lZ hd8.1
 have e8:=wV ns hn 8 4 (by decide) (by decide) (by decide)
 rw[ht] at hd8 e8
 have hd40:=yr ns 40 (m:=(m:Int) - 1) (by omega)
 obtain⟨st',hst⟩:=lZ hd40.1
 have e40:=wV ns hn 40 ((m:Int) - 1) (by decide) (by decide) (by omega)
 rw[hst] at hd40 e40
 have g:=zgR ns 20 m2 m4 t
 have eB:=zlD ns hn 20 m2 m4 t (by omega) (by decide)
 have eS:=zhW ns hn 10 m2 m4 (by decide)
 obtain⟨sok,sl⟩:=zkn ns 10 m2 m4
 generalize hBd:bkF ns 20 m t=B at *
 generalize hws:zjL ns 10 m=ws at *
 subst sl
 have hl:ws.length+t*(ws.length - 1)<=32:=by
  have:t*(ws.length - 1)<=3*3:=ldF (by omega) (by omega)
  omega
 have hb:=g.book m2 m4
 have pB:=za3 m2 m4 g hl
 have ln:=g.len m2 m4
 have hgl:gg<ws.length:=by omega
 have hst1:1+st'<ws.length:=by omega
 have hs1:ws.length<=ws.length+z:=by omega
 have hs2:ws.length+z<=32:=by omega
 obtain ⟨k,hk⟩:∃k,(ws.length+z - 1) / (ws.length - 1)=k+1:=by
  have:=Nat.div_pos (a:=ws.length+z - 1) (b:=ws.length - 1) (by omega) (by omega)
  exact⟨(ws.length+z - 1) / (ws.length - 1) - 1,by omega⟩
 obtain⟨z1,z2,z3⟩:=ziq sok hs1 hs2 hk
 have hk11:k<=11:=by
  have:k*1<=k*(ws.length - 1):=ldt k (by omega)
  omega
 have c1:(1:Int)<=1+c:=by omega
 have ska:=zhH (c:=1+c) m2 m4 c1 (by omega)
 have lra:(List.replicate ws.length (1+c)).length=ws.length:=lX
 have eA:=q9 ska (s:=ws.length+z) (k:=k) (by rw[lra];exact hs1) hs2 (by rw[lra];exact hk)
 have ga:=yR ska k
 rw[lra] at ga
 obtain⟨al1,al2⟩:=zgy m2 m4 c1 hk11 ga (uY ska k (by omega))
 have pA:=za3 m2 m4 ga z1
 have n1:0<1+n':=by omega
 have n2:1+n'<=2:=by omega
 have eE:=zeb (m:=ws.length) m4 n2
 have bE:=Book.even m2 m4 n1
 obtain⟨tE,gE,_,lE⟩:=bE.grAt
 have hE:ws.length+tE*(ws.length - 1)<=32:=by have:=zfu m4 (1+n') n2;omega
 obtain⟨bb,ebb,kbb⟩:=zax ska (B:=uJ ws.length (1+n')) (t:=tE) (by rw[lra];exact gE) (by rw[lra];exact hE)
 rw[kbb.mpr (zhM m2 m4 c1 n1 n2)] at ebb
 obtain⟨oko,lno,_⟩:=zam m2 m4 hgl
 have eO:=q9 oko (s:=ws.length+z) (k:=k) (by rw[lno];exact hs1) hs2 (by rw[lno];exact hk)
 have go:=yR oko k
 have pO:=za3 oko.1 oko.2.1 go (by rw[lno];exact z1)
 have eI:=jL (ps:=zU (qu ws.length gg) k) (λp hp=>(pO.2.2.2.2 p hp).2.2) (by have:=pO.2.2.2.1;omega) (by have:=go.keysEq oko.1 oko.2.1;omega)
 rw[zia m2 m4 hgl hk11] at eI
 have eM:=zfd sok g hl
 have mb:=zeY sok (zlU m2 hl) g
 have eIn:=jL (ps:=B) (λp hp=>(pB.2.2.2.2 p hp).2.2) (by have:=pB.2.2.2.1;omega) (by have:=g.keysEq m2 m4;omega)
 have lIn:(sortF (zq B)).length=(zq B).length:=(yF _).length_eq
 have bd:=zfA sok (g:=vM) (B:=B) (λq hq=>⟨(pB.2.2.2.2 q hq).1,(pB.2.2.2.2 q hq).2.2⟩) (λn hn=>by unfold vM;omega) (by have:=pB.2.2.2.1;omega)
 have fr:=zcb sok bd.1 bd.2
 have R:=zmZ sok (st:=1+st') (by omega) hst1
 have okx:=zml sok (1+st')
 have bR:=R.book hb
 obtain⟨tR,gR,_,lR⟩:=bR.grAt
 have lRB:(zdn (pi ws.length (1+st')) B).length=B.length:=by unfold zdn;rw[(yF _).length_eq,lh]
 have hR:(exW ws (1+st')).length+tR*((exW ws (1+st')).length - 1)<=32:=by rw[R.len];omega
 have gR':My.Gr (exW ws (1+st')).length tR (zdn (pi ws.length (1+st')) B):=by rw[R.len];exact gR
 have eMx:=zfd okx gR' hR
 obtain⟨b1,eb1,kb1⟩:=zax okx gR' hR
 obtain⟨b2,eb2,kb2⟩:=zax sok g hl
 have bb12:b1=b2:=by rw[lcn,kb1,kb2];exact R.best hb
 subst bb12
 have eqm:qF (exW ws (1+st')) (SG (exW ws (1+st')) vM (zdn (pi ws.length (1+st')) B))=qF ws (SG ws vM B):=by
  rw[R.sg hb];unfold qF;rw[R.sum]
 have eG:=qN sok hs1 hs2 hk
 have eGx:=qN okx (s:=ws.length+z) (k:=k) (by rw[R.len];exact hs1) hs2 (by rw[R.len];exact hk)
 have eqg:qF (exW ws (1+st')) (SG (exW ws (1+st')) vM (zU (exW ws (1+st')) k))=qF ws (SG ws vM (zU ws k)):=by
  rw[R.mean sok okx (zlU m2 z1)];unfold qF;rw[R.sum]
 have hmm:(2:Int)+(r:Int)=(ws.length:Int):=by omega
 have htn:(((ws.length+z:Nat):Int) - 1) / ((ws.length:Int) - 1)=((k+1:Nat):Int):=by
  rw[← hk,Int.natCast_ediv]
  have a:((ws.length+z - 1:Nat):Int)=((ws.length+z:Nat):Int) - 1:=by omega
  have b:((ws.length - 1:Nat):Int)=(ws.length:Int) - 1:=by omega
  rw[a,b]
 refine zQ ((zA (zH (d:=.int ws.length) ((xN (i:=2) (j:=(r:Int)) rfl (cA3 (a:=scD ns) (b:=.int 0) (c:=.int 3) rfl rfl rfl er)).trans (by rw[hmm])))).trans ?_)
 refine(zA (zH (d:=.int ((ws.length+z:Nat):Int)) ((xN (i:=(ws.length:Int)) (j:=(z:Int)) rfl (cA3 (a:=scD ns) (b:=.int 1) (c:=.int 12) rfl rfl rfl e1)).trans (by rw[lbT])))).trans ?_
 refine(zA (zH (d:=.tup (sI (List.replicate ws.length (1+c)))) (yN (a:=.tup [.int (1+c)]) (b:=.int ws.length) (zay (ds:=[.int (1+c)]) (zN (xN (i:=1) (j:=c) rfl (cA3 (a:=scD ns) (b:=.int 2) (c:=.int 99) rfl rfl rfl e2)) rfl) rfl) rfl (zhx m2 m4 _)))).trans ?_
 refine(zA (zH (d:=.tup (sT (zU (List.replicate ws.length (1+c)) k))) (cA2 (a:=.tup (sI (List.replicate ws.length (1+c)))) (b:=.int ((ws.length+z:Nat):Int)) rfl rfl eA))).trans ?_
 obtain⟨s,es,hss⟩:=zjB (ρ:=[.fz (scD ns),.fz (.int ws.length),.fz (.int ((ws.length+z:Nat):Int)),.fz (.tup (sI (List.replicate ws.length (1+c)))),.fz (.tup (sT (zU (List.replicate ws.length (1+c)) k))),.no,.no,.no,.no,.no,.no,.no,.no,.no,.no,.no,.no,.no]) (B:=zU (List.replicate ws.length (1+c)) k) rfl pA.2.2.1 pA.2.2.2.1 (λp hp=>(pA.2.2.2.2 p hp).2.1) al1 al2
 refine(zA (zH es)).trans ?_
 have e6:bOr hq9 hq0
   [.fz (scD ns),.fz (.int ws.length),.fz (.int ((ws.length+z:Nat):Int)),.fz (.tup (sI (List.replicate ws.length (1+c)))),.fz (.tup (sT (zU (List.replicate ws.length (1+c)) k))),.fz (.lst (s.map λ(k:Nat)=>D.int (k:Int))),.no,.no,.no,.no,.no,.no,.no,.no,.no,.no,.no,.no]=.ok false:=by
  have e63:=zaP (b:=true) (jA (cA2 (fn:=vH) (f:=fNm 3) (g:=fA (ari 2 xT) hq2) (ρ:=[.fz (scD ns),.fz (.int ws.length),.fz (.int ((ws.length+z:Nat):Int)),.fz (.tup (sI (List.replicate ws.length (1+c)))),.fz (.tup (sT (zU (List.replicate ws.length (1+c)) k))),.fz (.lst (s.map λ(k:Nat)=>D.int (k:Int))),.no,.no,.no,.no,.no,.no,.no,.no,.no,.no,.no,.no]) (a:=.tup (sI (List.replicate ws.length (1+c)))) (b:=.tup (sT (uJ ws.length (1+n')))) rfl (cA2 (a:=.int ws.length) (b:=.int ((1+n':Nat):Int)) rfl ((xN (i:=1) (j:=(n':Int)) rfl (cA3 (a:=scD ns) (b:=.int 3) (c:=.int 2) rfl rfl rfl e3)).trans (by rw[lbT];rfl)) eE) ebb))
  rcases hss with⟨x,rfl⟩|⟨x,rfl⟩
  ·refine zj1 rfl ?_ e63
   show Rs.ok (decide ((1:Int)<(x:Int) - (x:Int)))=_
   rw[lN (by omega)]
  ·refine zj1 rfl ?_ e63
   show Rs.ok (decide ((1:Int)<((x+1:Nat):Int) - (x:Int)))=_
   rw[lN (by omega)]
 refine(zA ((zaH e6).trans rfl)).trans ?_
 refine(zA (zH (d:=.int (gg:Int)) (cA3 (a:=scD ns) (b:=.int 4) (c:=.int ws.length) rfl rfl rfl e4))).trans ?_
 refine(zA (zcL (zl4 (a:=.lst [.int 1]) (b:=.int ws.length) rfl rfl (zja m2 m4)))).trans ?_
 refine(zA (zjl (ds:=sI (List.replicate ws.length 1)) (k:=gg) (v:=.int 99) rfl rfl rfl (by unfold sI;rw[lh,lX];exact hgl) (by unfold sI;rw[lh,lX];omega))).trans ?_
 have eset:(sI (List.replicate ws.length 1)).set gg (.int 99)=sI (qu ws.length gg):=by unfold sI qu;rw[List.map_set]
 rw[eset]
 refine(zA (zH (d:=.str [97+gg]) (yN (a:=.str [97,98,99,100]) (b:=.int (gg:Int)) rfl rfl (zeO (by omega))))).trans ?_
 refine(zA (zH (d:=.int ((k+1:Nat):Int)) ((uy (i:=((ws.length+z:Nat):Int) - 1) (j:=(ws.length:Int) - 1) (zaw rfl rfl) (zaw rfl rfl) (by omega) (ug (by omega))).trans (by rw[htn])))).trans ?_
 refine(zA ((zaH (zmk (ds:=sI (qu ws.length gg)) rfl (jA (yN (a:=.lst (sT ((List.range (k+1)).map (sg gg)))) (b:=.lst (sT ((List.range (k+1)).map (sg gg)))) (cA1 (a:=.tup (sT (zU (qu ws.length gg) k))) (cA2 (a:=.tup (sI (qu ws.length gg))) (b:=.int ((ws.length+z:Nat):Int)) (zay (ds:=[.lst (sI (qu ws.length gg))]) (zN rfl rfl) rfl) rfl eO) eI) (zjI (by omega) rfl rfl) (zoX rfl))))).trans rfl)).trans ?_
 refine(zA (zH (d:=.tup (sI ws)) (cA3 (a:=scD ns) (b:=.int 10) (c:=.int ws.length) rfl rfl rfl eS))).trans ?_
 refine(zA (zH (d:=.tup (sT B)) (cA4 (a:=scD ns) (b:=.int 20) (c:=.int ws.length) (d:=.int t) rfl rfl rfl (cA3 (a:=scD ns) (b:=.int 8) (c:=.int 4) rfl rfl rfl e8) eB))).trans ?_
 refine(zA (zjq (a:=.int (qF ws (SG ws vM B)).1) (b:=.int (qF ws (SG ws vM B)).2) (cA2 (a:=.tup (sI ws)) (b:=.tup (sT B)) rfl rfl eM))).trans ?_
 refine(zA ((zaH (zaP (b:=true) (jA (znf (a:=.int (qF ws (SG ws vM B)).2) (b:=.int (qF ws (SG ws vM B)).1) (c:=.int ((qF ws (SG ws vM B)).2*((zq B).length:Int))) rfl rfl (xM rfl ((zl0 (L:=sortF (zq B)) (cA1 (a:=.tup (sT B)) rfl eIn)).trans (by rw[lIn])) ?_ ?_) ?_ ?_)))).trans rfl)).trans ?_
 ·exact(Fra.sm fr (by decide)).2
 ·exact ug (by have:=g.keysEq m2 m4;omega)
 ·show some (D.bl (decide _))=_
  rw[lW mb.1]
 ·show some (D.bl (decide _))=_
  rw[lW mb.2]
 refine(zA (zH (d:=.int ((1+st':Nat):Int)) ((xN (i:=1) (j:=(st':Int)) rfl (cA3 (a:=scD ns) (b:=.int 40) (c:=.int ((ws.length:Int) - 1)) rfl rfl (zaw rfl rfl) e40)).trans (by rw[lbT];rfl)))).trans ?_
 refine(zA (zH (d:=.dct (nmD ws.length (1+st'))) (znQ (zgB m2 m4 rfl rfl) (ziD m2 m4)))).trans ?_
 refine(zA (zH (d:=.tup (sT (zdn (pi ws.length (1+st')) B))) (zay (ds:=[.lst (sT (zdn (pi ws.length (1+st')) B))]) (zN (zgP (zm6 (ds:=[.lst (sT (B.map (List.map (pi ws.length (1+st')))))]) (zN (ziN m2 m4 pB.2.2.2.1 (λp hp=>⟨(pB.2.2.2.2 p hp).1,(pB.2.2.2.2 p hp).2.2⟩) rfl rfl) rfl) (zdX (by rw[lh];have:=pB.2.2.2.1;omega)))) rfl) rfl))).trans ?_
 refine(zA (zH (d:=.tup (sI (exW ws (1+st')))) (zay (ds:=[.lst (sI (exW ws (1+st')))]) (zN (zlk sok rfl rfl rfl) rfl) rfl))).trans ?_
 refine(zA ((zaH (zim (jA (yN (a:=frD (qF (exW ws (1+st')) (SG (exW ws (1+st')) vM (zdn (pi ws.length (1+st')) B)))) (b:=frD (qF ws (SG ws vM B))) (cA2 (a:=.tup (sI (exW ws (1+st')))) (b:=.tup (sT (zdn (pi ws.length (1+st')) B))) rfl rfl eMx) (cA2 (a:=.tup (sI ws)) (b:=.tup (sT B)) rfl rfl eM) (eqT eqm))) (jA (yN (a:=.bl b1) (b:=.bl b1) (cA2 (a:=.tup (sI (exW ws (1+st')))) (b:=.tup (sT (zdn (pi ws.length (1+st')) B))) rfl rfl eb1) (cA2 (a:=.tup (sI ws)) (b:=.tup (sT B)) rfl rfl eb2) blT)))).trans rfl)).trans ?_
 exact yq (yN (a:=frD (qF (exW ws (1+st')) (SG (exW ws (1+st')) vM (zU (exW ws (1+st')) k)))) (b:=frD (qF ws (SG ws vM (zU ws k)))) (cA2 (a:=.tup (sI (exW ws (1+st')))) (b:=.int ((ws.length+z:Nat):Int)) rfl rfl eGx) (cA2 (a:=.tup (sI ws)) (b:=.int ((ws.length+z:Nat):Int)) rfl rfl eG) (eqF eqg))
end K33
namespace K33
open PySem L2 PyProof.Rows
open PySem.Challenge
open My
open Pg
def top (i:Nat):Stmt:=PySem.Challenge.pw_piecebooks_k33_whole_alike.main.body.getD i (.Pass ⟨0,0,0,0⟩)
abbrev zaE:Stmt:=top 10
abbrev jb:Stmt:=top 11
abbrev jK:Stmt:=top 12
abbrev qg:Stmt:=top 13
abbrev vy:Stmt:=top 15
abbrev yP:Stmt:=top 24
abbrev zbn:Stmt:=top 47
abbrev uO:Stmt:=top 48
abbrev zbz:Stmt:=top 29
abbrev jM:Stmt:=top 38
abbrev kZ:Stmt:=top 37
abbrev ul:Stmt:=top 14
abbrev wI:Stmt:=top 16
abbrev wA:Stmt:=top 17
abbrev zcU:Stmt:=top 18
abbrev ze7:Stmt:=top 19
abbrev jT:Stmt:=top 41
abbrev vU:Stmt:=top 49
abbrev zbV:Stmt:=top 21
abbrev vp:Stmt:=top 42
abbrev zdc:Stmt:=top 30
abbrev jE:Stmt:=top 50
abbrev jW:Stmt:=top 54
abbrev jf:Stmt:=top 55
abbrev vG:Stmt:=top 57
abbrev vO:Stmt:=top 56
abbrev qz:Stmt:=top 25
abbrev uG:Stmt:=top 26
abbrev kJ:Stmt:=top 33
abbrev jr:Stmt:=top 32
abbrev ji:Stmt:=top 31
abbrev yQ:Stmt:=top 34
abbrev qC:Stmt:=top 35
abbrev zbv:Stmt:=top 36
abbrev uK:Stmt:=top 27
abbrev wH:Stmt:=top 28
abbrev zeK:Stmt:=top 20
abbrev zh0:Stmt:=top 43
abbrev zaF:Stmt:=top 39
abbrev vX:Stmt:=top 51
abbrev vo:Stmt:=top 45
abbrev qI:Stmt:=top 44
abbrev zbJ:Stmt:=top 52
abbrev zcB:Stmt:=top 59
structure Txt (K:PySem.W.Frag)(mg:Str->Option Value) where
 d_is_whole:Dn K mg "is_whole" zaE ["thing"]
 d_is_between:Dn K mg "is_between" jb ["thing", "least", "most"]
 d_is_weight:Dn K mg "is_weight" jK ["thing"]
 d_is_source:Dn K mg "is_source" qg ["thing"]
 d_require_source:Dn K mg "require_source" vy ["thing"]
 d_is_number_of_letters:Dn K mg "is_number_of_letters" yP ["thing"]
 d_is_size:Dn K mg "is_size" zbn ["many", "thing"]
 d_require_size:Dn K mg "require_size" uO ["many", "thing"]
 d_gone_on:Dn K mg "gone_on" zbz ["many", "texts"]
 d_even_book:Dn K mg "even_book" jM ["many", "length"]
 d_first_book:Dn K mg "first_book" kZ ["many"]
 d_is_text_of:Dn K mg "is_text_of" ul ["many", "thing"]
 d_require_text_of:Dn K mg "require_text_of" wI ["many", "thing"]
 d_greatest_divisor:Dn K mg "greatest_divisor" wA ["one", "other"]
 d_lowest:Dn K mg "lowest" zcU ["up", "down"]
 d_share:Dn K mg "share" ze7 ["source", "text"]
 d_shares_of:Dn K mg "shares_of" jT ["source", "texts"]
 d_most_partings:Dn K mg "most_partings" vU ["many", "size"]
 d_is_less:Dn K mg "is_less" zbV ["one", "other"]
 d_first_greatest:Dn K mg "first_greatest" vp ["pieces", "shares"]
 d_parted:Dn K mg "parted" zdc ["many", "pieces", "piece"]
 d_best_book:Dn K mg "best_book" jE ["source", "size"]
 d__law_cell:Dn K mg "_law_cell" jW ["_law_script", "_law_k"]
 d__law_drawn:Dn K mg "_law_drawn" jf ["_law_script", "_law_k", "_law_many"]
 d__law_source:Dn K mg "_law_source" vG ["_law_script", "_law_at", "_law_many"]
 d__law_book:Dn K mg "_law_book" vO ["_law_script", "_law_at", "_law_many", "_law_turns"]
 d_is_rising:Dn K mg "is_rising" qz ["texts"]
 d_are_pieces:Dn K mg "are_pieces" uG ["many", "thing"]
 d_first_pair:Dn K mg "first_pair" kJ ["pieces"]
 d_is_apart:Dn K mg "is_apart" jr ["pieces", "text"]
 d_is_inner:Dn K mg "is_inner" ji ["pieces", "text"]
 d_first_text_apart:Dn K mg "first_text_apart" yQ ["many", "pieces"]
 d_first_paper:Dn K mg "first_paper" qC ["many", "pieces"]
 d_is_book:Dn K mg "is_book" zbv ["many", "thing"]
 d_require_book:Dn K mg "require_book" uK ["many", "thing"]
 d_require_book_of:Dn K mg "require_book_of" wH ["source", "thing"]
 d_added:Dn K mg "added" zeK ["one", "other"]
 d_mean:Dn K mg "mean" zh0 ["source", "book"]
 d_inner_of:Dn K mg "inner_of" zaF ["book"]
 d_greatest_mean:Dn K mg "greatest_mean" vX ["source", "size"]
 d_greatest_piece:Dn K mg "greatest_piece" vo ["source", "book"]
 d_least_inner:Dn K mg "least_inner" qI ["source", "book"]
 d_is_best:Dn K mg "is_best" zbJ ["source", "book"]
 d_law:Dn K mg "law" zcB ["_law_script"]
 v_FEWEST_LETTERS:Value
 c_FEWEST_LETTERS:mg "FEWEST_LETTERS" = some v_FEWEST_LETTERS
 r_FEWEST_LETTERS:RelV (.int (2)) v_FEWEST_LETTERS
 v_GREATEST_WEIGHT:Value
 c_GREATEST_WEIGHT:mg "GREATEST_WEIGHT" = some v_GREATEST_WEIGHT
 r_GREATEST_WEIGHT:RelV (.int (99)) v_GREATEST_WEIGHT
 v_LETTERS:Value
 c_LETTERS:mg "LETTERS" = some v_LETTERS
 r_LETTERS:RelV (.str (T [97,98,99,100])) v_LETTERS
 v_MOST_PIECES:Value
 c_MOST_PIECES:mg "MOST_PIECES" = some v_MOST_PIECES
 r_MOST_PIECES:RelV (.int (32)) v_MOST_PIECES
 n_all:mg "all" = none
 n_any:mg "any" = none
 n_bool:mg "bool" = none
 n_dict:mg "dict" = none
 n_int:mg "int" = none
 n_isinstance:mg "isinstance" = none
 n_len:mg "len" = none
 n_range:mg "range" = none
 n_set:mg "set" = none
 n_sorted:mg "sorted" = none
 n_str:mg "str" = none
 n_sum:mg "sum" = none
 n_tuple:mg "tuple" = none
 n_zip:mg "zip" = none
 x_NoBook:Own K mg "NoBook"
 x_NoLetters:Own K mg "NoLetters"
 x_NoSize:Own K mg "NoSize"
 x_NoSource:Own K mg "NoSource"
def zV {K:PySem.W.Frag}{mg:Str->Option Value}(t:Txt K mg):Nat->Addr
 | 1=>t.x_NoBook.C
 | 3=>t.x_NoLetters.C
 | 5=>t.x_NoSize.C
 | 0=>t.x_NoSource.C
 | _=>0
section
variable {P:Program}{w:World}{K:PySem.W.Frag}{mg:Str->Option Value}{base:Heap}
theorem ze4:FnScope ["thing"] ["thing"] (zy zaE):=⟨rfl,rfl,rfl,by decide +kernel,rfl,by decide +kernel,by decide +kernel⟩
theorem zeu (t:Txt K mg):FnOk P w K mg base (CX1 P w) 1 t.d_is_whole.f t.d_is_whole.fd ["thing"] (spD K (zV t) jQ 1) :=
 show FnOk P w K mg base (CX1 P w) 1 t.d_is_whole.f t.d_is_whole.fd ["thing"] (spD K (zV t) (yg 1 zaS) 1) from
 fnD (N:=["thing"]) (ps:=["thing"]) (k:=0) (m:=1) (n:=1) (g:=zaS) (cl:=zV t) t.d_is_whole.fn ze4 rfl rfl λcdv A outer s H E hr =>
   (zE (zO (zbp (zdY zkJ rfl t.n_isinstance (zm 0 (pv 0)) (zbI (v:=.ty "int") rfl t.n_int boot_int rfl) zb) (zaZ (zh6 (zdY zjF rfl t.n_isinstance (zm 0 (pv 0)) (zbI (v:=.ty "bool") rfl t.n_bool boot_bool rfl) zb))))))
theorem zcN:FnScope ["thing", "least", "most"] ["thing", "least", "most"] (zy jb):=⟨rfl,rfl,rfl,by decide +kernel,rfl,by decide +kernel,by decide +kernel⟩
theorem qK (t:Txt K mg):FnOk P w K mg base (CX1 P w) 2 t.d_is_between.f t.d_is_between.fd ["thing", "least", "most"] (spD K (zV t) yZ 3) :=
 show FnOk P w K mg base (CX1 P w) 2 t.d_is_between.f t.d_is_between.fd ["thing", "least", "most"] (spD K (zV t) (yg 3 uo) 3) from
 fnD (N:=["thing", "least", "most"]) (ps:=["thing", "least", "most"]) (k:=1) (m:=3) (n:=3) (g:=uo) (cl:=zV t) t.d_is_between.fn zcN rfl rfl λcdv A outer s H E hr =>
   (zE (zO (zbp (zB (zeu t) (hr.mono (by decide)) rfl t.d_is_whole.mg t.d_is_whole.fn.kp t.d_is_whole.bd zY (zf (zm 0 (pv 0)) zx zb) zb) (zaZ (zjj zdC zdC zep zep (zm 1 (pv 1)) (zm 0 (pv 0)) (zm 2 (pv 2)))))))
theorem zdx:FnScope ["thing"] ["thing"] (zy jK):=⟨rfl,rfl,rfl,by decide +kernel,rfl,by decide +kernel,by decide +kernel⟩
theorem zdU (t:Txt K mg):FnOk P w K mg base (CX1 P w) 3 t.d_is_weight.f t.d_is_weight.fd ["thing"] (spD K (zV t) ur 1) :=
 show FnOk P w K mg base (CX1 P w) 3 t.d_is_weight.f t.d_is_weight.fd ["thing"] (spD K (zV t) (yg 1 jU) 1) from
 fnD (N:=["thing"]) (ps:=["thing"]) (k:=2) (m:=1) (n:=1) (g:=jU) (cl:=zV t) t.d_is_weight.fn zdx rfl rfl λcdv A outer s H E hr =>
   (zE (zO (zB (qK t) (hr.mono (by decide)) rfl t.d_is_between.mg t.d_is_between.fn.kp t.d_is_between.bd zY (zf (zm 0 (pv 0)) (zf zJ (zf (zfx (uW (v:=.int (99)) rfl t.c_GREATEST_WEIGHT t.r_GREATEST_WEIGHT) λ_=>.int _) zx zb) zF) zb) zb)))
theorem zea:FnScope ["thing"] ["thing"] (zy qg):=⟨rfl,rfl,rfl,by decide +kernel,rfl,by decide +kernel,by decide +kernel⟩
theorem zdP (t:Txt K mg):FnOk P w K mg base (CX1 P w) 4 t.d_is_source.f t.d_is_source.fd ["thing"] (spD K (zV t) je 1) :=
 show FnOk P w K mg base (CX1 P w) 4 t.d_is_source.f t.d_is_source.fd ["thing"] (spD K (zV t) (yg 1 jN) 1) from
 fnD (N:=["thing"]) (ps:=["thing"]) (k:=3) (m:=1) (n:=1) (g:=jN) (cl:=zV t) t.d_is_source.fn zea rfl rfl λcdv A outer s H E hr =>
   (zu (qp (qP (ux (zdY kit_tuple rfl t.n_isinstance (zm 0 (pv 0)) (zbI (v:=.ty "tuple") rfl t.n_tuple lcR rfl) zb)))
   (zE (zO zcc))
   yG)
   (zu (qp (qP (zc6 zdC zdC zep zep (zfx (uW (v:=.int (2)) rfl t.c_FEWEST_LETTERS t.r_FEWEST_LETTERS) λ_=>.int _) (z8 yJ n_len rfl t.n_len lcl (zf (zm 0 (pv 0)) zx zb) zb) (z8 yJ n_len rfl t.n_len lcl (zf (zfx (uW (v:=.str (T [97,98,99,100])) rfl t.c_LETTERS t.r_LETTERS) λ_=>.str [97,98,99,100] (zb3 (by decide +kernel) (by decide +kernel))) zx zb) zb)))
   (zE (zO zcc))
   yG)
   (zE (zO (z8 (zbj rfl) n_all rfl t.n_all boot_all (zf (wG (x := "part") (caps:=[]) (xu (fs:=zy qg) (N:=["thing"]) rfl rfl (by decide +kernel)) rfl (jh (zm 0 (pv 0))) ⟨λ_ _ _ _ _=>(zX (i:=0) (jz (N:=["part"]) rfl (by decide +kernel)) rfl (Or.inl rfl)),λ_ _ _ _ _=>xR,λ_ _ _ _ _=>(zB (zdU t) (hr.mono (by decide)) rfl t.d_is_weight.mg t.d_is_weight.fn.kp t.d_is_weight.bd ud (zf (zm 0 (pv 0)) zx zb) zb)⟩) zx rfl) rfl)))))
theorem zaI:FnScope ["thing"] ["thing"] (zy vy):=⟨rfl,rfl,rfl,by decide +kernel,rfl,by decide +kernel,by decide +kernel⟩
theorem wC (t:Txt K mg):FnOk P w K mg base (CX1 P w) 5 t.d_require_source.f t.d_require_source.fd ["thing"] (spD K (zV t) yE 1) :=
 show FnOk P w K mg base (CX1 P w) 5 t.d_require_source.f t.d_require_source.fd ["thing"] (spD K (zV t) (yg 1 vg) 1) from
 fnD (N:=["thing"]) (ps:=["thing"]) (k:=4) (m:=1) (n:=1) (g:=vg) (cl:=zV t) t.d_require_source.fn zaI rfl rfl λcdv A outer s H E hr =>
   (zE (qp (qP (ux (zB (zdP t) (hr.mono (by decide)) rfl t.d_is_source.mg t.d_is_source.fn.kp t.d_is_source.bd zY (zf (zm 0 (pv 0)) zx zb) zb)))
   (zE (zbe t.x_NoSource rfl rfl (zf (qQ (l:=[116,104,105,115,32,105,115,32,110,111,32,116,117,112,108,101,32,111,102,32,50,32,116,111,32,52,32,119,101,105,103,104,116,115,32,102,114,111,109,32,49,32,116,111,32,57,57]) (by decide +kernel) (zb3 (by decide +kernel) (by decide +kernel))) zx zF) zF))
   yG))
theorem qH:FnScope ["thing"] ["thing"] (zy yP):=⟨rfl,rfl,rfl,by decide +kernel,rfl,by decide +kernel,by decide +kernel⟩
theorem wz (t:Txt K mg):FnOk P w K mg base (CX1 P w) 3 t.d_is_number_of_letters.f t.d_is_number_of_letters.fd ["thing"] (spD K (zV t) z6 1) :=
 show FnOk P w K mg base (CX1 P w) 3 t.d_is_number_of_letters.f t.d_is_number_of_letters.fd ["thing"] (spD K (zV t) (yg 1 yt) 1) from
 fnD (N:=["thing"]) (ps:=["thing"]) (k:=2) (m:=1) (n:=1) (g:=yt) (cl:=zV t) t.d_is_number_of_letters.fn qH rfl rfl λcdv A outer s H E hr =>
   (zE (zO (zB (qK t) (hr.mono (by decide)) rfl t.d_is_between.mg t.d_is_between.fn.kp t.d_is_between.bd zY (zf (zm 0 (pv 0)) (zf (zfx (uW (v:=.int (2)) rfl t.c_FEWEST_LETTERS t.r_FEWEST_LETTERS) λ_=>.int _) (zf (z8 yJ n_len rfl t.n_len lcl (zf (zfx (uW (v:=.str (T [97,98,99,100])) rfl t.c_LETTERS t.r_LETTERS) λ_=>.str [97,98,99,100] (zb3 (by decide +kernel) (by decide +kernel))) zx zb) zb) zx zL) zb) zb) zb)))
theorem zgh:FnScope ["many", "thing"] ["many", "thing"] (zy zbn):=⟨rfl,rfl,rfl,by decide +kernel,rfl,by decide +kernel,by decide +kernel⟩
theorem zge (t:Txt K mg):FnOk P w K mg base (CX1 P w) 4 t.d_is_size.f t.d_is_size.fd ["many", "thing"] (spD K (zV t) zaG 2) :=
 show FnOk P w K mg base (CX1 P w) 4 t.d_is_size.f t.d_is_size.fd ["many", "thing"] (spD K (zV t) (yg 2 zbR) 2) from
 fnD (N:=["many", "thing"]) (ps:=["many", "thing"]) (k:=3) (m:=2) (n:=2) (g:=zbR) (cl:=zV t) t.d_is_size.fn zgh rfl rfl λcdv A outer s H E hr =>
   (zE (zO (zbp (zB (wz t) (hr.mono (by decide)) rfl t.d_is_number_of_letters.mg t.d_is_number_of_letters.fn.kp t.d_is_number_of_letters.bd zY (zf (zm 0 (pv 0)) zx zb) zb) (zaZ (zB (qK t) (hr.mono (by decide)) rfl t.d_is_between.mg t.d_is_between.fn.kp t.d_is_between.bd zY (zf (zm 1 (pv 1)) (zf (zm 0 (pv 0)) (zf (zfx (uW (v:=.int (32)) rfl t.c_MOST_PIECES t.r_MOST_PIECES) λ_=>.int _) zx zb) zb) zb) zb)))))
theorem zbD:FnScope ["many", "thing"] ["many", "thing"] (zy uO):=⟨rfl,rfl,rfl,by decide +kernel,rfl,by decide +kernel,by decide +kernel⟩
theorem zbw (t:Txt K mg):FnOk P w K mg base (CX1 P w) 5 t.d_require_size.f t.d_require_size.fd ["many", "thing"] (spD K (zV t) v8 2) :=
 show FnOk P w K mg base (CX1 P w) 5 t.d_require_size.f t.d_require_size.fd ["many", "thing"] (spD K (zV t) (yg 2 uR) 2) from
 fnD (N:=["many", "thing"]) (ps:=["many", "thing"]) (k:=4) (m:=2) (n:=2) (g:=uR) (cl:=zV t) t.d_require_size.fn zbD rfl rfl λcdv A outer s H E hr =>
   (zE (qp (qP (ux (zB (zge t) (hr.mono (by decide)) rfl t.d_is_size.mg t.d_is_size.fn.kp t.d_is_size.bd zY (zf (zm 0 (pv 0)) (zf (zm 1 (pv 1)) zx zb) zb) zb)))
   (zE (zbe t.x_NoSize rfl rfl (zf (qQ (l:=[116,104,105,115,32,105,115,32,110,111,32,115,105,122,101,32,102,114,111,109,32,97,115,32,109,97,110,121,32,97,115,32,116,104,101,114,101,32,97,114,101,32,108,101,116,116,101,114,115,44,32,50,32,116,111,32,52,44,32,116,111,32,51,50]) (by decide +kernel) (zb3 (by decide +kernel) (by decide +kernel))) zx zF) zF))
   yG))
theorem sc_gone_on:FnScope ["many", "texts", "longer", "text", "letter"] ["many", "texts"] (zy zbz):=⟨rfl,rfl,rfl,by decide +kernel,rfl,by decide +kernel,by decide +kernel⟩
theorem jl (t:Txt K mg):FnOk P w K mg base (CX1 P w) 1 t.d_gone_on.f t.d_gone_on.fd ["many", "texts"] (spD K (zV t) yc 2) :=
 show FnOk P w K mg base (CX1 P w) 1 t.d_gone_on.f t.d_gone_on.fd ["many", "texts"] (spD K (zV t) (yg 5 kY) 2) from
 fnD (N:=["many", "texts", "longer", "text", "letter"]) (ps:=["many", "texts"]) (k:=0) (m:=5) (n:=2) (g:=kY) (cl:=zV t) t.d_gone_on.fn sc_gone_on rfl rfl λcdv A outer s H E hr =>
   (zu (zeG (i:=2) sc_gone_on.nd rfl (Or.inl rfl) (zmj zx))
   (zu (vZ (vK (i:=3) lax rfl (zbT (zm 1 (pv 1))) (zX (i:=3) sc_gone_on.nd rfl (Or.inl rfl))
   (zE (vK (i:=4) lax rfl (zfl (qw (zfx (uW (v:=.str (T [97,98,99,100])) rfl t.c_LETTERS t.r_LETTERS) λ_=>.str [97,98,99,100] (zb3 (by decide +kernel) (by decide +kernel))) jP (jO (zm 0 (pv 0))))) (zX (i:=4) sc_gone_on.nd rfl (Or.inl rfl))
   (zE (zgK (pv 2) (zZ zhh zj7 (zm 3 (pv 3)) (zm 4 (pv 4))) ⟨xj,rfl,rfl,rfl,rfl⟩))))))
   (zE (zhl (i:=2) (zO (zm 2 (pv 2)))))))
theorem sc_even_book:FnScope ["many", "length", "texts", "step"] ["many", "length"] (zy jM):=⟨rfl,rfl,rfl,by decide +kernel,rfl,by decide +kernel,by decide +kernel⟩
theorem za0 (t:Txt K mg):FnOk P w K mg base (CX1 P w) 2 t.d_even_book.f t.d_even_book.fd ["many", "length"] (spD K (zV t) xT 2) :=
 show FnOk P w K mg base (CX1 P w) 2 t.d_even_book.f t.d_even_book.fd ["many", "length"] (spD K (zV t) (yg 4 jD) 2) from
 fnD (N:=["many", "length", "texts", "step"]) (ps:=["many", "length"]) (k:=1) (m:=4) (n:=2) (g:=jD) (cl:=zV t) t.d_even_book.fn sc_even_book rfl rfl λcdv A outer s H E hr =>
   (zu (zR (i:=2) sc_even_book.nd rfl (Or.inl rfl) (XEw.out (zf4 (uT (zjU (l:=[]) (by decide +kernel) (zb3 (by decide +kernel) (by decide +kernel))) zcz zF))))
   (zu (vZ (vK (i:=3) lax rfl (wg rfl t.n_range (zf (zm 1 (pv 1)) zx zb) rfl) (zX (i:=3) sc_even_book.nd rfl (Or.inl rfl))
   (zE (zR (i:=2) sc_even_book.nd rfl (Or.inl rfl) (zB (jl t) (hr.mono (by decide)) rfl t.d_gone_on.mg t.d_gone_on.fn.kp t.d_gone_on.bd ud (zf (zm 0 (pv 0)) (zf (zm 2 (pv 2)) zx zb) zb) zb)))))
   (zE (zO (vQ yL zew rfl t.n_tuple lcR (zf (zm 2 (pv 2)) zx zb) zb)))))
theorem zdd:FnScope ["many"] ["many"] (zy kZ):=⟨rfl,rfl,rfl,by decide +kernel,rfl,by decide +kernel,by decide +kernel⟩
theorem zcP (t:Txt K mg):FnOk P w K mg base (CX1 P w) 3 t.d_first_book.f t.d_first_book.fd ["many"] (spD K (zV t) ql 1) :=
 show FnOk P w K mg base (CX1 P w) 3 t.d_first_book.f t.d_first_book.fd ["many"] (spD K (zV t) (yg 1 jc) 1) from
 fnD (N:=["many"]) (ps:=["many"]) (k:=2) (m:=1) (n:=1) (g:=jc) (cl:=zV t) t.d_first_book.fn zdd rfl rfl λcdv A outer s H E hr =>
   (zE (zO (zB (za0 t) (hr.mono (by decide)) rfl t.d_even_book.mg t.d_even_book.fn.kp t.d_even_book.bd zY (zf (zm 0 (pv 0)) (zf zJ zx zF) zb) zb)))
theorem sc_is_text_of:FnScope ["many", "thing", "letters"] ["many", "thing"] (zy ul):=⟨rfl,rfl,rfl,by decide +kernel,rfl,by decide +kernel,by decide +kernel⟩
theorem zao (t:Txt K mg):FnOk P w K mg base (CX1 P w) 1 t.d_is_text_of.f t.d_is_text_of.fd ["many", "thing"] (spD K (zV t) yI 2) :=
 show FnOk P w K mg base (CX1 P w) 1 t.d_is_text_of.f t.d_is_text_of.fd ["many", "thing"] (spD K (zV t) (yg 3 uE) 2) from
 fnD (N:=["many", "thing", "letters"]) (ps:=["many", "thing"]) (k:=0) (m:=3) (n:=2) (g:=uE) (cl:=zV t) t.d_is_text_of.fn sc_is_text_of rfl rfl λcdv A outer s H E hr =>
   (zu (zR (i:=2) sc_is_text_of.nd rfl (Or.inr rfl) (qw (zfx (uW (v:=.str (T [97,98,99,100])) rfl t.c_LETTERS t.r_LETTERS) λ_=>.str [97,98,99,100] (zb3 (by decide +kernel) (by decide +kernel))) jP (jO (zm 0 (pv 0)))))
   (zE (zO (zbp (zdY zkw rfl t.n_isinstance (zm 1 (pv 1)) (zbI (v:=.ty "str") rfl t.n_str boot_str rfl) zb) (zaZ (z8 (zbj rfl) n_all rfl t.n_all boot_all (zf (wG (x := "sign") (caps:=[2]) (xu (fs:=zy ul) (N:=["many", "thing", "letters"]) rfl rfl (by decide +kernel)) rfl (zfl (zm 1 (pv 1))) ⟨λ_ _ _ _ _=>(zX (i:=0) (jz (N:=["sign", "letters"]) rfl (by decide +kernel)) rfl (Or.inl rfl)),λ_ _ _ _ _=>xR,λ_ _ _ _ _=>(zcn znj zor (zm 0 (pv 0)) (zm 1 (pv 1)) (by with_unfolding_all rfl))⟩) zx rfl) rfl))))))
theorem zah:FnScope ["many", "thing"] ["many", "thing"] (zy wI):=⟨rfl,rfl,rfl,by decide +kernel,rfl,by decide +kernel,by decide +kernel⟩
theorem zab (t:Txt K mg):FnOk P w K mg base (CX1 P w) 2 t.d_require_text_of.f t.d_require_text_of.fd ["many", "thing"] (spD K (zV t) wj 2) :=
 show FnOk P w K mg base (CX1 P w) 2 t.d_require_text_of.f t.d_require_text_of.fd ["many", "thing"] (spD K (zV t) (yg 2 wF) 2) from
 fnD (N:=["many", "thing"]) (ps:=["many", "thing"]) (k:=1) (m:=2) (n:=2) (g:=wF) (cl:=zV t) t.d_require_text_of.fn zah rfl rfl λcdv A outer s H E hr =>
   (zE (qp (qP (ux (zB (zao t) (hr.mono (by decide)) rfl t.d_is_text_of.mg t.d_is_text_of.fn.kp t.d_is_text_of.bd zY (zf (zm 0 (pv 0)) (zf (zm 1 (pv 1)) zx zb) zb) zb)))
   (zE (zbe t.x_NoLetters rfl rfl (zf (qQ (l:=[116,104,105,115,32,105,115,32,110,111,32,116,101,120,116,32,111,102,32,116,104,101,115,101,32,108,101,116,116,101,114,115]) (by decide +kernel) (zb3 (by decide +kernel) (by decide +kernel))) zx zF) zF))
   yG))
theorem sc_greatest_divisor:FnScope ["one", "other", "rest"] ["one", "other"] (zy wA):=⟨rfl,rfl,rfl,by decide +kernel,rfl,by decide +kernel,by decide +kernel⟩
theorem jF (t:Txt K mg):FnOk P w K mg base (CX1 P w) 1 t.d_greatest_divisor.f t.d_greatest_divisor.fd ["one", "other"] (spD K (zV t) xK 2) :=
 show FnOk P w K mg base (CX1 P w) 1 t.d_greatest_divisor.f t.d_greatest_divisor.fd ["one", "other"] (spD K (zV t) (yg 3 xY) 2) from
 fnD (N:=["one", "other", "rest"]) (ps:=["one", "other"]) (k:=0) (m:=3) (n:=2) (g:=xY) (cl:=zV t) t.d_greatest_divisor.fn sc_greatest_divisor rfl rfl λcdv A outer s H E hr =>
   (zu (vZ (zfN 4000 lax (zaY (zbq hr.units) zkQ (zm 1 (pv 1)) zJ (u9 _))
   (zu (zR (i:=2) sc_greatest_divisor.nd rfl (Or.inl rfl) (zZ zae zal (zm 0 (pv 0)) (zm 1 (pv 1))))
   (zu (zR (i:=0) sc_greatest_divisor.nd rfl (Or.inl rfl) (zm 1 (pv 1)))
   (zE (zR (i:=1) sc_greatest_divisor.nd rfl (Or.inl rfl) (zm 2 (pv 2))))))))
   (zE (zO (zm 0 (pv 0)))))
theorem sc_lowest:FnScope ["up", "down", "divisor"] ["up", "down"] (zy zcU):=⟨rfl,rfl,rfl,by decide +kernel,rfl,by decide +kernel,by decide +kernel⟩
theorem zdV (t:Txt K mg):FnOk P w K mg base (CX1 P w) 2 t.d_lowest.f t.d_lowest.fd ["up", "down"] (spD K (zV t) j9 2) :=
 show FnOk P w K mg base (CX1 P w) 2 t.d_lowest.f t.d_lowest.fd ["up", "down"] (spD K (zV t) (yg 3 zcD) 2) from
 fnD (N:=["up", "down", "divisor"]) (ps:=["up", "down"]) (k:=1) (m:=3) (n:=2) (g:=zcD) (cl:=zV t) t.d_lowest.fn sc_lowest rfl rfl λcdv A outer s H E hr =>
   (zu (zR (i:=2) sc_lowest.nd rfl (Or.inl rfl) (zB (jF t) (hr.mono (by decide)) rfl t.d_greatest_divisor.mg t.d_greatest_divisor.fn.kp t.d_greatest_divisor.bd zY (zf (zm 0 (pv 0)) (zf (zm 1 (pv 1)) zx zb) zb) zb))
   (zE (zO (zcl (zf (zZ uh jd (zm 0 (pv 0)) (zm 2 (pv 2))) (zf (zZ uh jd (zm 1 (pv 1)) (zm 2 (pv 2))) zx xj) xj)))))
theorem sc_share:FnScope ["source", "text", "weights", "whole", "up", "down", "letter"] ["source", "text"] (zy ze7):=⟨rfl,rfl,rfl,by decide +kernel,rfl,by decide +kernel,by decide +kernel⟩
theorem jn (t:Txt K mg):FnOk P w K mg base (CX1 P w) 6 t.d_share.f t.d_share.fd ["source", "text"] (spD K (zV t) yC 2) :=
 show FnOk P w K mg base (CX1 P w) 6 t.d_share.f t.d_share.fd ["source", "text"] (spD K (zV t) (yg 7 zbM) 2) from
 fnD (N:=["source", "text", "weights", "whole", "up", "down", "letter"]) (ps:=["source", "text"]) (k:=5) (m:=7) (n:=2) (g:=zbM) (cl:=zV t) t.d_share.fn sc_share rfl rfl λcdv A outer s H E hr =>
   (zu (qG (zB (wC t) (hr.mono (by decide)) rfl t.d_require_source.mg t.d_require_source.fn.kp t.d_require_source.bd zY (zf (zm 0 (pv 0)) zx zb) zb))
   (zu (qG (zB (zab t) (hr.mono (by decide)) rfl t.d_require_text_of.mg t.d_require_text_of.fn.kp t.d_require_text_of.bd zY (zf (z8 yJ n_len rfl t.n_len lcl (zf (zm 0 (pv 0)) zx zb) zb) (zf (zm 1 (pv 1)) zx zb) zL) zL))
   (zu (zR (i:=2) sc_share.nd rfl (Or.inl rfl) (zex rfl rfl t.n_dict rfl t.n_zip (zfx (uW (v:=.str (T [97,98,99,100])) rfl t.c_LETTERS t.r_LETTERS) λ_=>.str [97,98,99,100] (zb3 (by decide +kernel) (by decide +kernel))) (zm 0 (pv 0))))
   (zu (zR (i:=3) sc_share.nd rfl (Or.inl rfl) (z8 (zha rfl) n_sum rfl t.n_sum boot_sum (zf (zm 0 (pv 0)) zx zb) zb))
   (zu (zR (i:=4) sc_share.nd rfl (Or.inl rfl) zJ)
   (zu (zR (i:=5) sc_share.nd rfl (Or.inl rfl) zJ)
   (zu (vZ (vK (i:=6) lax rfl (zfl (zm 1 (pv 1))) (zX (i:=6) sc_share.nd rfl (Or.inl rfl))
   (zu (zR (i:=4) sc_share.nd rfl (Or.inl rfl) (zZ xP vN (zm 4 (pv 4)) (zfq (zd3 hr) (zm 2 (pv 2)) (zm 6 (pv 6)))))
   (zE (zR (i:=5) sc_share.nd rfl (Or.inl rfl) (zZ xP vN (zm 5 (pv 5)) (zm 3 (pv 3))))))))
   (zE (zO (zB (zdV t) (hr.mono (by decide)) rfl t.d_lowest.mg t.d_lowest.fn.kp t.d_lowest.bd zY (zf (zm 4 (pv 4)) (zf (zm 5 (pv 5)) zx zb) zb) zb))))))))))
theorem sc_shares_of:FnScope ["source", "texts", "shares", "text"] ["source", "texts"] (zy jT):=⟨rfl,rfl,rfl,by decide +kernel,rfl,by decide +kernel,by decide +kernel⟩
theorem zc0 (t:Txt K mg):FnOk P w K mg base (CX1 P w) 7 t.d_shares_of.f t.d_shares_of.fd ["source", "texts"] (spD K (zV t) uq 2) :=
 fnD (N:=["source", "texts", "shares", "text"]) (ps:=["source", "texts"]) (k:=6) (m:=4) (n:=2) (cl:=zV t) t.d_shares_of.fn sc_shares_of rfl rfl λcdv A outer s H E hr =>
   (zu (zcC (i:=2) sc_shares_of.nd rfl (Or.inl rfl))
   (zu (vZ (vK (i:=3) lax rfl (zbT (zm 1 (pv 1))) (zX (i:=3) sc_shares_of.nd rfl (Or.inl rfl))
   (zE (zc7 (zd3 hr) (pv 2) (zm 3 (pv 3)) (zB (jn t) (hr.mono (by decide)) rfl t.d_share.mg t.d_share.fn.kp t.d_share.bd ud (zf (zm 0 (pv 0)) (zf (zm 3 (pv 3)) zx zb) zb) zb)))))
   (zE (zhC (i:=2) (zO (zm 2 (pv 2)))))))
theorem zcJ (t:Txt K mg):FnOk P w K mg base (CX1 P w) 7 t.d_shares_of.f t.d_shares_of.fd ["source", "texts"] (spK K (zV t) uD 2) :=
 fnK (N:=["source", "texts", "shares", "text"]) (ps:=["source", "texts"]) (k:=6) (m:=4) (n:=2) (i:=2) (g1:=(qJ 2)) (g2:=(qR (uL 3 (fI tpD (fNm 1))
  (zaB 2 (fNm 3) (fA (ari 2 yC) (zj (fNm 0) (zj (fNm 3) zG))))))) (cl:=zV t) t.d_shares_of.fn sc_shares_of rfl rfl rfl λcdv A outer s H E hr=>⟨(zcC (i:=2) sc_shares_of.nd rfl (Or.inl rfl)),(vZ (vK (i:=3) lax rfl (jh (zm 1 (pv 1))) (zX (i:=3) sc_shares_of.nd rfl (Or.inl rfl))
   (zE (zc7 (zd3 hr) (pv 2) (zm 3 (pv 3)) (zB (jn t) (hr.mono (by decide)) rfl t.d_share.mg t.d_share.fn.kp t.d_share.bd ud (zf (zm 0 (pv 0)) (zf (zm 3 (pv 3)) zx zb) zb) zb))))),pv 2⟩
theorem zek (t:Txt K mg):FnOk P w K mg base (CX1 P w) 7 t.d_shares_of.f t.d_shares_of.fd ["source", "texts"] (spD K (zV t) kh 2) :=
 show FnOk P w K mg base (CX1 P w) 7 t.d_shares_of.f t.d_shares_of.fd ["source", "texts"] (spD K (zV t) (yg 4 jX) 2) from
 fnD (N:=["source", "texts", "shares", "text"]) (ps:=["source", "texts"]) (k:=6) (m:=4) (n:=2) (g:=jX) (cl:=zV t) t.d_shares_of.fn sc_shares_of rfl rfl λcdv A outer s H E hr =>
   (zu (zcC (i:=2) sc_shares_of.nd rfl (Or.inl rfl))
   (zu (vZ (vK (i:=3) lax rfl (jh (zm 1 (pv 1))) (zX (i:=3) sc_shares_of.nd rfl (Or.inl rfl))
   (zE (zc7 (zd3 hr) (pv 2) (zm 3 (pv 3)) (zB (jn t) (hr.mono (by decide)) rfl t.d_share.mg t.d_share.fn.kp t.d_share.bd ud (zf (zm 0 (pv 0)) (zf (zm 3 (pv 3)) zx zb) zb) zb)))))
   (zE (zhC (i:=2) (zO (zm 2 (pv 2)))))))
theorem zba:FnScope ["many", "size"] ["many", "size"] (zy vU):=⟨rfl,rfl,rfl,by decide +kernel,rfl,by decide +kernel,by decide +kernel⟩
theorem za7 (t:Txt K mg):FnOk P w K mg base (CX1 P w) 1 t.d_most_partings.f t.d_most_partings.fd ["many", "size"] (spD K (zV t) vd 2) :=
 show FnOk P w K mg base (CX1 P w) 1 t.d_most_partings.f t.d_most_partings.fd ["many", "size"] (spD K (zV t) (yg 2 vV) 2) from
 fnD (N:=["many", "size"]) (ps:=["many", "size"]) (k:=0) (m:=2) (n:=2) (g:=vV) (cl:=zV t) t.d_most_partings.fn zba rfl rfl λcdv A outer s H E hr =>
   (zE (zO (zZ uh jd (zZ zbG zby (zm 1 (pv 1)) zJ) (zZ zbG zby (zm 0 (pv 0)) zJ))))
theorem zgd:FnScope ["one", "other"] ["one", "other"] (zy zbV):=⟨rfl,rfl,rfl,by decide +kernel,rfl,by decide +kernel,by decide +kernel⟩
theorem zat (t:Txt K mg):FnOk P w K mg base (CX1 P w) 1 t.d_is_less.f t.d_is_less.fd ["one", "other"] (spD K (zV t) yu 2) :=
 show FnOk P w K mg base (CX1 P w) 1 t.d_is_less.f t.d_is_less.fd ["one", "other"] (spD K (zV t) (yg 2 zbP) 2) from
 fnD (N:=["one", "other"]) (ps:=["one", "other"]) (k:=0) (m:=2) (n:=2) (g:=zbP) (cl:=zV t) t.d_is_less.fn zgd rfl rfl λcdv A outer s H E hr =>
   (zE (zO (zcn zov znU (zZ xP vN (vP (zm 0 (pv 0)) zJ (λ_ _=>rfl)) (vP (zm 1 (pv 1)) zJ (λ_ _=>rfl))) (zZ xP vN (vP (zm 1 (pv 1)) zJ (λ_ _=>rfl)) (vP (zm 0 (pv 0)) zJ (λ_ _=>rfl))) (u9 _))))
theorem sc_first_greatest:FnScope ["pieces", "shares", "found", "piece"] ["pieces", "shares"] (zy vp):=⟨rfl,rfl,rfl,by decide +kernel,rfl,by decide +kernel,by decide +kernel⟩
theorem u6 (t:Txt K mg):FnOk P w K mg base (CX1 P w) 2 t.d_first_greatest.f t.d_first_greatest.fd ["pieces", "shares"] (spD K (zV t) yp 2) :=
 show FnOk P w K mg base (CX1 P w) 2 t.d_first_greatest.f t.d_first_greatest.fd ["pieces", "shares"] (spD K (zV t) (yg 4 vf) 2) from
 fnD (N:=["pieces", "shares", "found", "piece"]) (ps:=["pieces", "shares"]) (k:=1) (m:=4) (n:=2) (g:=vf) (cl:=zV t) t.d_first_greatest.fn sc_first_greatest rfl rfl λcdv A outer s H E hr =>
   (zu (zR (i:=2) sc_first_greatest.nd rfl (Or.inl rfl) (vP (zm 0 (pv 0)) zJ (λ_ _=>rfl)))
   (zu (vZ (vK (i:=3) lax rfl (jh (zm 0 (pv 0))) (zX (i:=3) sc_first_greatest.nd rfl (Or.inl rfl))
   (zE (qp (ux (zB (zat t) (hr.mono (by decide)) rfl t.d_is_less.mg t.d_is_less.fn.kp t.d_is_less.bd ud (zf (zfq (zd3 hr) (zm 1 (pv 1)) (zm 2 (pv 2))) (zf (zfq (zd3 hr) (zm 1 (pv 1)) (zm 3 (pv 3))) zx ju) ju) ju))
   (zE (zR (i:=2) sc_first_greatest.nd rfl (Or.inl rfl) (zm 3 (pv 3))))
   yG))))
   (zE (zO (zm 2 (pv 2))))))
theorem sc_parted:FnScope ["many", "pieces", "piece", "place"] ["many", "pieces", "piece"] (zy zdc):=⟨rfl,rfl,rfl,by decide +kernel,rfl,by decide +kernel,by decide +kernel⟩
theorem zhE (t:Txt K mg):FnOk P w K mg base (CX1 P w) 2 t.d_parted.f t.d_parted.fd ["many", "pieces", "piece"] (spD K (zV t) zag 3) :=
 show FnOk P w K mg base (CX1 P w) 2 t.d_parted.f t.d_parted.fd ["many", "pieces", "piece"] (spD K (zV t) (yg 4 zdk) 3) from
 fnD (N:=["many", "pieces", "piece", "place"]) (ps:=["many", "pieces", "piece"]) (k:=1) (m:=4) (n:=3) (g:=zdk) (cl:=zV t) t.d_parted.fn sc_parted rfl rfl λcdv A outer s H E hr =>
   (zu (zR (i:=3) sc_parted.nd rfl (Or.inl rfl) (zk7 (zm 1 (pv 1)) (zm 2 (pv 2)) ⟨zb,rfl,rfl,rfl,rfl⟩))
   (zE (zO (zZ zgO zkl (zZ zgO zkl (qw (zm 1 (pv 1)) jP (jO (zm 3 (pv 3)))) (vQ yL zew rfl t.n_tuple lcR (zf (zB (jl t) (hr.mono (by decide)) rfl t.d_gone_on.mg t.d_gone_on.fn.kp t.d_gone_on.bd zY (zf (zm 0 (pv 0)) (zf (zdZ (zf (zm 2 (pv 2)) zx zb)) zx zfp) zb) zb) zx zL) zL)) (qw (zm 1 (pv 1)) (jO (zZ w5 wX (zm 3 (pv 3)) zJ)) jP)))))
theorem sc_best_book:FnScope ["source", "size", "many", "pieces", "shares", "step", "piece"] ["source", "size"] (zy jE):=⟨rfl,rfl,rfl,by decide +kernel,rfl,by decide +kernel,by decide +kernel⟩
theorem qZ (t:Txt K mg):FnOk P w K mg base (CX1 P w) 8 t.d_best_book.f t.d_best_book.fd ["source", "size"] (spD K (zV t) w6 2) :=
 show FnOk P w K mg base (CX1 P w) 8 t.d_best_book.f t.d_best_book.fd ["source", "size"] (spD K (zV t) (yg 7 jR) 2) from
 fnD (N:=["source", "size", "many", "pieces", "shares", "step", "piece"]) (ps:=["source", "size"]) (k:=7) (m:=7) (n:=2) (g:=jR) (cl:=zV t) t.d_best_book.fn sc_best_book rfl rfl λcdv A outer s H E hr =>
   (zu (qG (zB (wC t) (hr.mono (by decide)) rfl t.d_require_source.mg t.d_require_source.fn.kp t.d_require_source.bd zY (zf (zm 0 (pv 0)) zx zb) zb))
   (zu (zR (i:=2) sc_best_book.nd rfl (Or.inl rfl) (z8 yJ n_len rfl t.n_len lcl (zf (zm 0 (pv 0)) zx zb) zb))
   (zu (qG (zB (zbw t) (hr.mono (by decide)) rfl t.d_require_size.mg t.d_require_size.fn.kp t.d_require_size.bd zY (zf (zm 2 (pv 2)) (zf (zm 1 (pv 1)) zx zb) zb) zb))
   (zu (zR (i:=3) sc_best_book.nd rfl (Or.inl rfl) (zB (zcP t) (hr.mono (by decide)) rfl t.d_first_book.mg t.d_first_book.fn.kp t.d_first_book.bd zY (zf (zm 2 (pv 2)) zx zb) zb))
   (zu (zly (i:=4) sc_best_book.nd rfl (Or.inl rfl) (zcJ t) (hr.mono (by decide)) rfl t.d_shares_of.mg t.d_shares_of.fn.kp t.d_shares_of.bd zY (zf (zm 0 (pv 0)) (zf (zm 3 (pv 3)) zx zb) zb) zb)
   (zu (vZ (vK (i:=5) lax rfl (zgV rfl t.n_range (zf zJ (zf (zB (za7 t) (hr.mono (by decide)) rfl t.d_most_partings.mg t.d_most_partings.fn.kp t.d_most_partings.bd ud (zf (zm 2 (pv 2)) (zf (zm 1 (pv 1)) zx zb) zb) zb) zx zL) zF) rfl rfl) (zX (i:=5) sc_best_book.nd rfl (Or.inl rfl))
   (zu (zR (i:=6) sc_best_book.nd rfl (Or.inl rfl) (znp (i:=4) (zB (u6 t) (hr.mono (by decide)) rfl t.d_first_greatest.mg t.d_first_greatest.fn.kp t.d_first_greatest.bd ud (zf (zm 3 (pv 3)) (zf (zm 4 (pv 4)) zx zb) zb) zb)))
   (zu (zR (i:=3) sc_best_book.nd rfl (Or.inl rfl) (zB (zhE t) (hr.mono (by decide)) rfl t.d_parted.mg t.d_parted.fn.kp t.d_parted.bd ud (zf (zm 2 (pv 2)) (zf (zm 3 (pv 3)) (zf (zm 6 (pv 6)) zx zb) zb) zb) zb))
   (zE (zh4 (pv 4) (zB (zc0 t) (hr.mono (by decide)) rfl t.d_shares_of.mg t.d_shares_of.fn.kp t.d_shares_of.bd ud (zf (zm 0 (pv 0)) (zf (zB (jl t) (hr.mono (by decide)) rfl t.d_gone_on.mg t.d_gone_on.fn.kp t.d_gone_on.bd ud (zf (zm 2 (pv 2)) (zf (zdZ (zf (zm 6 (pv 6)) zx zb)) zx zfp) zb) zb) zx zL) zb) zb) ⟨zL,rfl,rfl,rfl,rfl⟩))))))
   (zE (zO (zm 3 (pv 3))))))))))
theorem zdN:FnScope ["_law_script", "_law_k"] ["_law_script", "_law_k"] (zy jW):=⟨rfl,rfl,rfl,by decide +kernel,rfl,by decide +kernel,by decide +kernel⟩
theorem zed (t:Txt K mg):FnOk P w K mg base (CX1 P w) 1 t.d__law_cell.f t.d__law_cell.fd ["_law_script", "_law_k"] (spD K (zV t) uF 2) :=
 show FnOk P w K mg base (CX1 P w) 1 t.d__law_cell.f t.d__law_cell.fd ["_law_script", "_law_k"] (spD K (zV t) (yg 2 v5) 2) from
 fnD (N:=["_law_script", "_law_k"]) (ps:=["_law_script", "_law_k"]) (k:=0) (m:=2) (n:=2) (g:=v5) (cl:=zV t) t.d__law_cell.fn zdN rfl rfl λcdv A outer s H E hr =>
   (zu (qp (zaY (zkc hr.units) zoF (zm 0 (pv 0)) (zdZ zx) (u9 _))
   (zE (zO (zZ xP vN zJ (zm 1 (pv 1)))))
   yG)
   (zE (zO (zZ w5 wX (vP (zm 0 (pv 0)) (zZ zae zal (zm 1 (pv 1)) (z8 yJ n_len rfl t.n_len lcl (zf (zm 0 (pv 0)) zx zb) zb)) (λ_ _=>rfl)) (zZ xP vN zJ (zZ uh jd (zm 1 (pv 1)) (z8 yJ n_len rfl t.n_len lcl (zf (zm 0 (pv 0)) zx zb) zb)))))))
theorem sc__law_drawn:FnScope ["_law_script", "_law_k", "_law_many", "_law_cell_here"] ["_law_script", "_law_k", "_law_many"] (zy jf):=⟨rfl,rfl,rfl,by decide +kernel,rfl,by decide +kernel,by decide +kernel⟩
theorem ye (t:Txt K mg):FnOk P w K mg base (CX1 P w) 2 t.d__law_drawn.f t.d__law_drawn.fd ["_law_script", "_law_k", "_law_many"] (spD K (zV t) zM 3) :=
 show FnOk P w K mg base (CX1 P w) 2 t.d__law_drawn.f t.d__law_drawn.fd ["_law_script", "_law_k", "_law_many"] (spD K (zV t) (yg 4 wZ) 3) from
 fnD (N:=["_law_script", "_law_k", "_law_many", "_law_cell_here"]) (ps:=["_law_script", "_law_k", "_law_many"]) (k:=1) (m:=4) (n:=3) (g:=wZ) (cl:=zV t) t.d__law_drawn.fn sc__law_drawn rfl rfl λcdv A outer s H E hr =>
   (zu (zR (i:=3) sc__law_drawn.nd rfl (Or.inl rfl) (zZ zae zal (zZ w5 wX (zZ xP vN (zZ zae zal (zB (zed t) (hr.mono (by decide)) rfl t.d__law_cell.mg t.d__law_cell.fn.kp t.d__law_cell.bd zY (zf (zm 0 (pv 0)) (zf (zm 1 (pv 1)) zx zb) zb) zb) zJ) zJ) (zZ xP vN zJ (zZ w5 wX (zm 1 (pv 1)) zJ))) zJ))
   (zu (zR (i:=3) sc__law_drawn.nd rfl (Or.inl rfl) (zZ zae zal (zZ w5 wX (zZ xP vN (zm 3 (pv 3)) (zm 3 (pv 3))) (zZ uh jd (zm 3 (pv 3)) zJ)) zJ))
   (zE (zO (zZ zae zal (zZ uh jd (zZ zae zal (zZ w5 wX (zZ xP vN (zm 3 (pv 3)) (zm 3 (pv 3))) (zZ uh jd (zm 3 (pv 3)) zJ)) zJ) zJ) (zm 2 (pv 2)))))))
theorem sc__law_source:FnScope ["_law_script", "_law_at", "_law_many", "_law_most"] ["_law_script", "_law_at", "_law_many"] (zy vG):=⟨rfl,rfl,rfl,by decide +kernel,rfl,by decide +kernel,by decide +kernel⟩
theorem zce (t:Txt K mg):FnOk P w K mg base (CX1 P w) 3 t.d__law_source.f t.d__law_source.fd ["_law_script", "_law_at", "_law_many"] (spD K (zV t) uP 3) :=
 show FnOk P w K mg base (CX1 P w) 3 t.d__law_source.f t.d__law_source.fd ["_law_script", "_law_at", "_law_many"] (spD K (zV t) (yg 4 qD) 3) from
 fnD (N:=["_law_script", "_law_at", "_law_many", "_law_most"]) (ps:=["_law_script", "_law_at", "_law_many"]) (k:=2) (m:=4) (n:=3) (g:=qD) (cl:=zV t) t.d__law_source.fn sc__law_source rfl rfl λcdv A outer s H E hr =>
   (zu (zR (i:=3) sc__law_source.nd rfl (Or.inr rfl) (XEw.out (zot (zf4 (uT zaV (uT zaV (uT zaV zcz zF) zF) zF)) (XEw.mk (zB (ye t) (hr.mono (by decide)) rfl t.d__law_drawn.mg t.d__law_drawn.fn.kp t.d__law_drawn.bd zY (zf (zm 0 (pv 0)) (zf (zm 1 (pv 1)) (zf zJ zx zF) zb) zb) zb)) (λ_ _=>rfl))))
   (zE (zO (vQ yL zew rfl t.n_tuple lcR (zf (wG (x := "_law_k") (caps:=[0,3,1]) (xu (fs:=zy vG) (N:=["_law_script", "_law_at", "_law_many", "_law_most"]) rfl rfl (by decide +kernel)) rfl (wg rfl t.n_range (zf (zm 2 (pv 2)) zx zb) rfl) ⟨λ_ _ _ _ _=>(zX (i:=0) (jz (N:=["_law_k", "_law_script", "_law_most", "_law_at"]) rfl (by decide +kernel)) rfl (Or.inl rfl)),λ_ _ _ _ _=>xR,λ_ _ _ _ _=>(zZ w5 wX zJ (zB (ye t) (hr.mono (by decide)) rfl t.d__law_drawn.mg t.d__law_drawn.fn.kp t.d__law_drawn.bd ud (zf (zm 1 (pv 1)) (zf (zZ w5 wX (zZ w5 wX (zm 3 (pv 3)) zJ) (zm 0 (pv 0))) (zf (zm 2 (pv 2)) zx zb) xj) zb) zb))⟩) zx rfl) rfl))))
theorem sc__law_book:FnScope ["_law_script", "_law_at", "_law_many", "_law_turns", "_law_found", "_law_k", "_law_piece"] ["_law_script", "_law_at", "_law_many", "_law_turns"] (zy vO):=⟨rfl,rfl,rfl,by decide +kernel,rfl,by decide +kernel,by decide +kernel⟩
theorem zd4 (t:Txt K mg):FnOk P w K mg base (CX1 P w) 3 t.d__law_book.f t.d__law_book.fd ["_law_script", "_law_at", "_law_many", "_law_turns"] (spD K (zV t) jg 4) :=
 show FnOk P w K mg base (CX1 P w) 3 t.d__law_book.f t.d__law_book.fd ["_law_script", "_law_at", "_law_many", "_law_turns"] (spD K (zV t) (yg 7 vJ) 4) from
 fnD (N:=["_law_script", "_law_at", "_law_many", "_law_turns", "_law_found", "_law_k", "_law_piece"]) (ps:=["_law_script", "_law_at", "_law_many", "_law_turns"]) (k:=2) (m:=7) (n:=4) (g:=vJ) (cl:=zV t) t.d__law_book.fn sc__law_book rfl rfl λcdv A outer s H E hr =>
   (zu (zjf (j:=4) sc__law_book.nd rfl rfl (x := "_law_k") (caps:=[]) (xu (fs:=zy vO) (N:=["_law_script", "_law_at", "_law_many", "_law_turns", "_law_found", "_law_k", "_law_piece"]) rfl rfl (by decide +kernel)) rfl (wg rfl t.n_range (zf (zm 2 (pv 2)) zx zb) rfl) ⟨λ_ _ _ _ _=>(zX (i:=0) (jz (N:=["_law_k"]) rfl (by decide +kernel)) rfl (Or.inl rfl)),λ_ _ _ _ _=>xR,λ_ _ _ _ _=>(vP (qQ (l:=[97,98,99,100]) (by decide +kernel) (zb3 (by decide +kernel) (by decide +kernel))) (zm 0 (pv 0)) (λ_ _=>rfl))⟩ rfl)
   (zu (vZ (vK (i:=5) lax rfl (wg rfl t.n_range (zf (zm 3 (pv 3)) zx zb) rfl) (zX (i:=5) sc__law_book.nd rfl (Or.inl rfl))
   (zu (zmH (j:=6) sc__law_book.nd rfl (Or.inr rfl) (pv 4) (zou (i:=4) (zB (ye t) (hr.mono (by decide)) rfl t.d__law_drawn.mg t.d__law_drawn.fn.kp t.d__law_drawn.bd ud (zf (zm 0 (pv 0)) (zf (zZ w5 wX (zm 1 (pv 1)) (zm 5 (pv 5))) (zf (z8 yJ n_len rfl t.n_len lcl (zf (zm 4 (pv 4)) zx zb) zb) zx zL) xj) zb) zb)) ⟨zL,rfl,rfl,rfl,rfl⟩)
   (zE (zhl (i:=4) (zeG (i:=4) sc__law_book.nd rfl (Or.inl rfl) (zeo rfl t.n_sorted boot_sorted (XL.xe (znm (zm 4 (pv 4)) (wG (x := "_law_j") (caps:=[6]) (xu (fs:=zy vO) (N:=["_law_script", "_law_at", "_law_many", "_law_turns", "_law_found", "_law_k", "_law_piece"]) rfl rfl (by decide +kernel)) rfl (wg rfl t.n_range (zf (zm 2 (pv 2)) zx zb) rfl) ⟨λ_ _ _ _ _=>(zX (i:=0) (jz (N:=["_law_j", "_law_piece"]) rfl (by decide +kernel)) rfl (Or.inl rfl)),λ_ _ _ _ _=>xR,λ_ _ _ _ _=>(zZ zhh zj7 (zm 1 (pv 1)) (vP (qQ (l:=[97,98,99,100]) (by decide +kernel) (zb3 (by decide +kernel) (by decide +kernel))) (zm 0 (pv 0)) (λ_ _=>rfl)))⟩))) xj)))))))
   (zE (zhl (i:=4) (zO (vQ yL zew rfl t.n_tuple lcR (zf (zm 4 (pv 4)) zx zb) zb))))))
theorem zen:FnScope ["texts"] ["texts"] (zy qz):=⟨rfl,rfl,rfl,by decide +kernel,rfl,by decide +kernel,by decide +kernel⟩
theorem zd2 (t:Txt K mg):FnOk P w K mg base (CX1 P w) 1 t.d_is_rising.f t.d_is_rising.fd ["texts"] (spD K (zV t) um 1) :=
 show FnOk P w K mg base (CX1 P w) 1 t.d_is_rising.f t.d_is_rising.fd ["texts"] (spD K (zV t) (yg 1 qt) 1) from
 fnD (N:=["texts"]) (ps:=["texts"]) (k:=0) (m:=1) (n:=1) (g:=qt) (cl:=zV t) t.d_is_rising.fn zen rfl rfl λcdv A outer s H E hr =>
   (zE (zO (z8 (zbj rfl) n_all rfl t.n_all boot_all (zf (XL.xe (ziW (x := "one") (y := "other") (caps:=[]) (xu (fs:=zy qz) (N:=["texts"]) rfl rfl (by decide +kernel)) rfl rfl t.n_zip (zm 0 (pv 0)) (qw (zm 0 (pv 0)) (jO zJ) jP) ⟨λ_ _ _ _ _=>(zhw (K:=K) (i:=0) (j:=1) rfl rfl (jz (N:=["one", "other"]) rfl (by decide +kernel)) rfl rfl (Or.inl rfl) (Or.inl rfl)),λ_ _ _ _ _=>xR,λ_ _ _ _ _=>(zcn zik znS (zm 0 (pv 0)) (zm 1 (pv 1)) (u9 _))⟩ rfl rfl)) zx rfl) rfl)))
theorem zcW:FnScope ["many", "thing"] ["many", "thing"] (zy uG):=⟨rfl,rfl,rfl,by decide +kernel,rfl,by decide +kernel,by decide +kernel⟩
theorem zcT (t:Txt K mg):FnOk P w K mg base (CX1 P w) 4 t.d_are_pieces.f t.d_are_pieces.fd ["many", "thing"] (spD K (zV t) wB 2) :=
 show FnOk P w K mg base (CX1 P w) 4 t.d_are_pieces.f t.d_are_pieces.fd ["many", "thing"] (spD K (zV t) (yg 2 uw) 2) from
 fnD (N:=["many", "thing"]) (ps:=["many", "thing"]) (k:=3) (m:=2) (n:=2) (g:=uw) (cl:=zV t) t.d_are_pieces.fn zcW rfl rfl λcdv A outer s H E hr =>
   (zu (qp (XW.xt (zjx (qP (ux (zB (wz t) (hr.mono (by decide)) rfl t.d_is_number_of_letters.mg t.d_is_number_of_letters.fn.kp t.d_is_number_of_letters.bd zY (zf (zm 0 (pv 0)) zx zb) zb))) (zhz (qP (ux (zdY kit_tuple rfl t.n_isinstance (zm 1 (pv 1)) (zbI (v:=.ty "tuple") rfl t.n_tuple lcR rfl) zb))))))
   (zE (zO zcc))
   yG)
   (zu (qp (qP (zc6 zdC zdC zep zep zJ (z8 yJ n_len rfl t.n_len lcl (zf (zm 1 (pv 1)) zx zb) zb) (zfx (uW (v:=.int (32)) rfl t.c_MOST_PIECES t.r_MOST_PIECES) λ_=>.int _)))
   (zE (zO zcc))
   yG)
   (zu (qp (qP (ux (z8 (zbj rfl) n_all rfl t.n_all boot_all (zf (wG (x := "part") (caps:=[0]) (xu (fs:=zy uG) (N:=["many", "thing"]) rfl rfl (by decide +kernel)) rfl (jh (zm 1 (pv 1))) ⟨λ_ _ _ _ _=>(zX (i:=0) (jz (N:=["part", "many"]) rfl (by decide +kernel)) rfl (Or.inl rfl)),λ_ _ _ _ _=>xR,λ_ _ _ _ _=>(zbp (zB (zao t) (hr.mono (by decide)) rfl t.d_is_text_of.mg t.d_is_text_of.fn.kp t.d_is_text_of.bd ud (zf (zm 1 (pv 1)) (zf (zm 0 (pv 0)) zx zb) zb) zb) (zaZ (zcn (zbq hr.units) zkQ (zm 0 (pv 0)) (qQ (l:=[]) (by decide +kernel) (zb3 (by decide +kernel) (by decide +kernel))) (u9 _))))⟩) zx rfl) rfl)))
   (zE (zO zcc))
   yG)
   (zE (zO (zB (zd2 t) (hr.mono (by decide)) rfl t.d_is_rising.mg t.d_is_rising.fn.kp t.d_is_rising.bd zY (zf (zm 1 (pv 1)) zx zb) zb))))))
theorem sc_first_pair:FnScope ["pieces", "one", "other"] ["pieces"] (zy kJ):=⟨rfl,rfl,rfl,by decide +kernel,rfl,by decide +kernel,by decide +kernel⟩
theorem zcY (t:Txt K mg):FnOk P w K mg base (CX1 P w) 1 t.d_first_pair.f t.d_first_pair.fd ["pieces"] (spD K (zV t) yH 1) :=
 show FnOk P w K mg base (CX1 P w) 1 t.d_first_pair.f t.d_first_pair.fd ["pieces"] (spD K (zV t) (yg 3 yV) 1) from
 fnD (N:=["pieces", "one", "other"]) (ps:=["pieces"]) (k:=0) (m:=3) (n:=1) (g:=yV) (cl:=zV t) t.d_first_pair.fn sc_first_pair rfl rfl λcdv A outer s H E hr =>
   (zu (vZ (zlG (i:=1) (j:=2) lax rfl rfl t.n_zip (zm 0 (pv 0)) (qw (zm 0 (pv 0)) (jO zJ) jP) (zhw (K:=K) (i:=1) (j:=2) rfl rfl sc_first_pair.nd rfl rfl (Or.inl rfl) (Or.inl rfl))
   (zE (qp (ux (j7 (zm 2 (pv 2)) (zm 1 (pv 1)) ⟨zb,rfl,rfl,rfl,rfl⟩))
   (zE (zO (zcl (zf (zm 1 (pv 1)) (zf (zm 2 (pv 2)) zx zb) zb))))
   yG)) rfl rfl))
   (zE (zO zjT)))
theorem zff:FnScope ["pieces", "text"] ["pieces", "text"] (zy jr):=⟨rfl,rfl,rfl,by decide +kernel,rfl,by decide +kernel,by decide +kernel⟩
theorem zeF (t:Txt K mg):FnOk P w K mg base (CX1 P w) 1 t.d_is_apart.f t.d_is_apart.fd ["pieces", "text"] (spD K (zV t) z9 2) :=
 show FnOk P w K mg base (CX1 P w) 1 t.d_is_apart.f t.d_is_apart.fd ["pieces", "text"] (spD K (zV t) (yg 2 jt) 2) from
 fnD (N:=["pieces", "text"]) (ps:=["pieces", "text"]) (k:=0) (m:=2) (n:=2) (g:=jt) (cl:=zV t) t.d_is_apart.fn zff rfl rfl λcdv A outer s H E hr =>
   (zE (zO (zh6 (z8 (zf5 rfl) n_any rfl t.n_any boot_any (zf (wG (x := "piece") (caps:=[1]) (xu (fs:=zy jr) (N:=["pieces", "text"]) rfl rfl (by decide +kernel)) rfl (jh (zm 0 (pv 0))) ⟨λ_ _ _ _ _=>(zX (i:=0) (jz (N:=["piece", "text"]) rfl (by decide +kernel)) rfl (Or.inl rfl)),λ_ _ _ _ _=>xR,λ_ _ _ _ _=>(zoi (j7 (zm 0 (pv 0)) (zm 1 (pv 1)) ⟨zb,rfl,rfl,rfl,rfl⟩) (zaZ (j7 (zm 1 (pv 1)) (zm 0 (pv 0)) ⟨zb,rfl,rfl,rfl,rfl⟩)))⟩) zx rfl) rfl))))
theorem zeT:FnScope ["pieces", "text"] ["pieces", "text"] (zy ji):=⟨rfl,rfl,rfl,by decide +kernel,rfl,by decide +kernel,by decide +kernel⟩
theorem zeJ (t:Txt K mg):FnOk P w K mg base (CX1 P w) 1 t.d_is_inner.f t.d_is_inner.fd ["pieces", "text"] (spD K (zV t) yd 2) :=
 show FnOk P w K mg base (CX1 P w) 1 t.d_is_inner.f t.d_is_inner.fd ["pieces", "text"] (spD K (zV t) (yg 2 jx) 2) from
 fnD (N:=["pieces", "text"]) (ps:=["pieces", "text"]) (k:=0) (m:=2) (n:=2) (g:=jx) (cl:=zV t) t.d_is_inner.fn zeT rfl rfl λcdv A outer s H E hr =>
   (zE (zO (z8 (zf5 rfl) n_any rfl t.n_any boot_any (zf (wG (x := "piece") (caps:=[1]) (xu (fs:=zy ji) (N:=["pieces", "text"]) rfl rfl (by decide +kernel)) rfl (jh (zm 0 (pv 0))) ⟨λ_ _ _ _ _=>(zX (i:=0) (jz (N:=["piece", "text"]) rfl (by decide +kernel)) rfl (Or.inl rfl)),λ_ _ _ _ _=>xR,λ_ _ _ _ _=>(zbp (j7 (zm 0 (pv 0)) (zm 1 (pv 1)) ⟨zb,rfl,rfl,rfl,rfl⟩) (zaZ (zcn (zbq hr.units) zkQ (zm 0 (pv 0)) (zm 1 (pv 1)) (u9 _))))⟩) zx rfl) rfl)))
theorem sc_first_text_apart:FnScope ["many", "pieces", "inner", "longer", "text"] ["many", "pieces"] (zy yQ):=⟨rfl,rfl,rfl,by decide +kernel,rfl,by decide +kernel,by decide +kernel⟩
theorem jZ (t:Txt K mg):FnOk P w K mg base (CX1 P w) 2 t.d_first_text_apart.f t.d_first_text_apart.fd ["many", "pieces"] (spD K (zV t) yK 2) :=
 show FnOk P w K mg base (CX1 P w) 2 t.d_first_text_apart.f t.d_first_text_apart.fd ["many", "pieces"] (spD K (zV t) (yg 5 xX) 2) from
 fnD (N:=["many", "pieces", "inner", "longer", "text"]) (ps:=["many", "pieces"]) (k:=1) (m:=5) (n:=2) (g:=xX) (cl:=zV t) t.d_first_text_apart.fn sc_first_text_apart rfl rfl λcdv A outer s H E hr =>
   (zu (zR (i:=2) sc_first_text_apart.nd rfl (Or.inl rfl) (XEw.out (zf4 (uT (zjU (l:=[]) (by decide +kernel) (zb3 (by decide +kernel) (by decide +kernel))) zcz zF))))
   (zu (vZ (zfN 2000 lax (zaY (zbq hr.units) zkQ (zm 2 (pv 2)) (zdZ zx) (u9 _))
   (zu (zR (i:=3) sc_first_text_apart.nd rfl (Or.inl rfl) (zB (jl t) (hr.mono (by decide)) rfl t.d_gone_on.mg t.d_gone_on.fn.kp t.d_gone_on.bd ud (zf (zm 0 (pv 0)) (zf (zm 2 (pv 2)) zx zb) zb) zb))
   (zu (vK (i:=4) lax rfl (zbT (zm 3 (pv 3))) (zX (i:=4) sc_first_text_apart.nd rfl (Or.inl rfl))
   (zE (qp (ux (zB (zeF t) (hr.mono (by decide)) rfl t.d_is_apart.mg t.d_is_apart.fn.kp t.d_is_apart.bd ud (zf (zm 1 (pv 1)) (zf (zm 4 (pv 4)) zx zb) zb) zb))
   (zE (zO (zm 4 (pv 4))))
   yG)))
   (zE (zlS (j:=2) sc_first_text_apart.nd rfl rfl (x := "text") (caps:=[1]) (xu (fs:=zy yQ) (N:=["many", "pieces", "inner", "longer", "text"]) rfl rfl (by decide +kernel)) rfl (zbT (zm 3 (pv 3))) ⟨λ_ _ _ _ _=>(zX (i:=0) (jz (N:=["text", "pieces"]) rfl (by decide +kernel)) rfl (Or.inl rfl)),λ_ _ _ _ _=>(zk6 (ux (zB (zeJ t) (hr.mono (by decide)) rfl t.d_is_inner.mg t.d_is_inner.fn.kp t.d_is_inner.bd ud (zf (zm 1 (pv 1)) (zf (zm 0 (pv 0)) zx zb) zb) zb))),λ_ _ _ _ _=>(zm 0 (pv 0))⟩ rfl))))))
   (zE (zO zjT))))
theorem sc_first_paper:FnScope ["many", "pieces", "pair"] ["many", "pieces"] (zy qC):=⟨rfl,rfl,rfl,by decide +kernel,rfl,by decide +kernel,by decide +kernel⟩
theorem zcd (t:Txt K mg):FnOk P w K mg base (CX1 P w) 3 t.d_first_paper.f t.d_first_paper.fd ["many", "pieces"] (spD K (zV t) wW 2) :=
 show FnOk P w K mg base (CX1 P w) 3 t.d_first_paper.f t.d_first_paper.fd ["many", "pieces"] (spD K (zV t) (yg 3 wu) 2) from
 fnD (N:=["many", "pieces", "pair"]) (ps:=["many", "pieces"]) (k:=2) (m:=3) (n:=2) (g:=wu) (cl:=zV t) t.d_first_paper.fn sc_first_paper rfl rfl λcdv A outer s H E hr =>
   (zu (zR (i:=2) sc_first_paper.nd rfl (Or.inl rfl) (zB (zcY t) (hr.mono (by decide)) rfl t.d_first_pair.mg t.d_first_pair.fn.kp t.d_first_pair.bd zY (zf (zm 1 (pv 1)) zx zb) zb))
   (zu (qp (zkH (zm 2 (pv 2)))
   (zE (zO (zm 2 (pv 2))))
   yG)
   (zE (zO (zB (jZ t) (hr.mono (by decide)) rfl t.d_first_text_apart.mg t.d_first_text_apart.fn.kp t.d_first_text_apart.bd zY (zf (zm 0 (pv 0)) (zf (zm 1 (pv 1)) zx zb) zb) zb)))))
theorem zgA:FnScope ["many", "thing"] ["many", "thing"] (zy zbv):=⟨rfl,rfl,rfl,by decide +kernel,rfl,by decide +kernel,by decide +kernel⟩
theorem zf8 (t:Txt K mg):FnOk P w K mg base (CX1 P w) 5 t.d_is_book.f t.d_is_book.fd ["many", "thing"] (spD K (zV t) jy 2) :=
 show FnOk P w K mg base (CX1 P w) 5 t.d_is_book.f t.d_is_book.fd ["many", "thing"] (spD K (zV t) (yg 2 zbB) 2) from
 fnD (N:=["many", "thing"]) (ps:=["many", "thing"]) (k:=4) (m:=2) (n:=2) (g:=zbB) (cl:=zV t) t.d_is_book.fn zgA rfl rfl λcdv A outer s H E hr =>
   (zE (zO (zbp (zB (zcT t) (hr.mono (by decide)) rfl t.d_are_pieces.mg t.d_are_pieces.fn.kp t.d_are_pieces.bd zY (zf (zm 0 (pv 0)) (zf (zm 1 (pv 1)) zx zb) zb) zb) (zaZ (zm1 (zB (zcd t) (hr.mono (by decide)) rfl t.d_first_paper.mg t.d_first_paper.fn.kp t.d_first_paper.bd zY (zf (zm 0 (pv 0)) (zf (zm 1 (pv 1)) zx zb) zb) zb))))))
theorem zbu:FnScope ["many", "thing"] ["many", "thing"] (zy uK):=⟨rfl,rfl,rfl,by decide +kernel,rfl,by decide +kernel,by decide +kernel⟩
theorem zb1 (t:Txt K mg):FnOk P w K mg base (CX1 P w) 6 t.d_require_book.f t.d_require_book.fd ["many", "thing"] (spD K (zV t) vW 2) :=
 show FnOk P w K mg base (CX1 P w) 6 t.d_require_book.f t.d_require_book.fd ["many", "thing"] (spD K (zV t) (yg 2 uN) 2) from
 fnD (N:=["many", "thing"]) (ps:=["many", "thing"]) (k:=5) (m:=2) (n:=2) (g:=uN) (cl:=zV t) t.d_require_book.fn zbu rfl rfl λcdv A outer s H E hr =>
   (zE (qp (qP (ux (zB (zf8 t) (hr.mono (by decide)) rfl t.d_is_book.mg t.d_is_book.fn.kp t.d_is_book.bd zY (zf (zm 0 (pv 0)) (zf (zm 1 (pv 1)) zx zb) zb) zb)))
   (zE (zbe t.x_NoBook rfl rfl (zf (qQ (l:=[116,104,105,115,32,105,115,32,110,111,32,98,111,111,107,32,111,102,32,115,111,32,109,97,110,121,32,108,101,116,116,101,114,115]) (by decide +kernel) (zb3 (by decide +kernel) (by decide +kernel))) zx zF) zF))
   yG))
theorem zai:FnScope ["source", "thing"] ["source", "thing"] (zy wH):=⟨rfl,rfl,rfl,by decide +kernel,rfl,by decide +kernel,by decide +kernel⟩
theorem xW (t:Txt K mg):FnOk P w K mg base (CX1 P w) 7 t.d_require_book_of.f t.d_require_book_of.fd ["source", "thing"] (spD K (zV t) yw 2) :=
 show FnOk P w K mg base (CX1 P w) 7 t.d_require_book_of.f t.d_require_book_of.fd ["source", "thing"] (spD K (zV t) (yg 2 wJ) 2) from
 fnD (N:=["source", "thing"]) (ps:=["source", "thing"]) (k:=6) (m:=2) (n:=2) (g:=wJ) (cl:=zV t) t.d_require_book_of.fn zai rfl rfl λcdv A outer s H E hr =>
   (zu (qG (zB (wC t) (hr.mono (by decide)) rfl t.d_require_source.mg t.d_require_source.fn.kp t.d_require_source.bd zY (zf (zm 0 (pv 0)) zx zb) zb))
   (zE (qG (zB (zb1 t) (hr.mono (by decide)) rfl t.d_require_book.mg t.d_require_book.fn.kp t.d_require_book.bd zY (zf (z8 yJ n_len rfl t.n_len lcl (zf (zm 0 (pv 0)) zx zb) zb) (zf (zm 1 (pv 1)) zx zb) zL) zL))))
theorem ziR:FnScope ["one", "other"] ["one", "other"] (zy zeK):=⟨rfl,rfl,rfl,by decide +kernel,rfl,by decide +kernel,by decide +kernel⟩
theorem ziF (t:Txt K mg):FnOk P w K mg base (CX1 P w) 3 t.d_added.f t.d_added.fd ["one", "other"] (spD K (zV t) zbh 2) :=
 show FnOk P w K mg base (CX1 P w) 3 t.d_added.f t.d_added.fd ["one", "other"] (spD K (zV t) (yg 2 zey) 2) from
 fnD (N:=["one", "other"]) (ps:=["one", "other"]) (k:=2) (m:=2) (n:=2) (g:=zey) (cl:=zV t) t.d_added.fn ziR rfl rfl λcdv A outer s H E hr =>
   (zE (zO (zB (zdV t) (hr.mono (by decide)) rfl t.d_lowest.mg t.d_lowest.fn.kp t.d_lowest.bd zY (zf (zZ w5 wX (zZ xP vN (vP (zm 0 (pv 0)) zJ (λ_ _=>rfl)) (vP (zm 1 (pv 1)) zJ (λ_ _=>rfl))) (zZ xP vN (vP (zm 1 (pv 1)) zJ (λ_ _=>rfl)) (vP (zm 0 (pv 0)) zJ (λ_ _=>rfl)))) (zf (zZ xP vN (vP (zm 0 (pv 0)) zJ (λ_ _=>rfl)) (vP (zm 1 (pv 1)) zJ (λ_ _=>rfl))) zx xj) xj) xj)))
theorem sc_mean:FnScope ["source", "book", "total", "piece", "part"] ["source", "book"] (zy zh0):=⟨rfl,rfl,rfl,by decide +kernel,rfl,by decide +kernel,by decide +kernel⟩
theorem zdl (t:Txt K mg):FnOk P w K mg base (CX1 P w) 8 t.d_mean.f t.d_mean.fd ["source", "book"] (spD K (zV t) jG 2) :=
 show FnOk P w K mg base (CX1 P w) 8 t.d_mean.f t.d_mean.fd ["source", "book"] (spD K (zV t) (yg 5 zgY) 2) from
 fnD (N:=["source", "book", "total", "piece", "part"]) (ps:=["source", "book"]) (k:=7) (m:=5) (n:=2) (g:=zgY) (cl:=zV t) t.d_mean.fn sc_mean rfl rfl λcdv A outer s H E hr =>
   (zu (qG (zB (xW t) (hr.mono (by decide)) rfl t.d_require_book_of.mg t.d_require_book_of.fn.kp t.d_require_book_of.bd zY (zf (zm 0 (pv 0)) (zf (zm 1 (pv 1)) zx zb) zb) zb))
   (zu (zR (i:=2) sc_mean.nd rfl (Or.inl rfl) (XEw.out (zke (uT zaV (uT zaV zcz zF) zF))))
   (zu (vZ (vK (i:=3) lax rfl (jh (zm 1 (pv 1))) (zX (i:=3) sc_mean.nd rfl (Or.inl rfl))
   (zu (zR (i:=4) sc_mean.nd rfl (Or.inl rfl) (zB (jn t) (hr.mono (by decide)) rfl t.d_share.mg t.d_share.fn.kp t.d_share.bd ud (zf (zm 0 (pv 0)) (zf (zm 3 (pv 3)) zx zb) zb) zb))
   (zE (zR (i:=2) sc_mean.nd rfl (Or.inl rfl) (zB (ziF t) (hr.mono (by decide)) rfl t.d_added.mg t.d_added.fn.kp t.d_added.bd ud (zf (zm 2 (pv 2)) (zf (zcl (zf (zZ xP vN (vP (zm 4 (pv 4)) zJ (λ_ _=>rfl)) (z8 yJ n_len rfl t.n_len lcl (zf (zm 3 (pv 3)) zx zb) zb)) (zf (vP (zm 4 (pv 4)) zJ (λ_ _=>rfl)) zx ju) xj)) zx zji) zb) zb))))))
   (zE (zO (zm 2 (pv 2)))))))
theorem sc_inner_of:FnScope ["book", "found", "piece", "end"] ["book"] (zy zaF):=⟨rfl,rfl,rfl,by decide +kernel,rfl,by decide +kernel,by decide +kernel⟩
theorem jJ (t:Txt K mg):FnOk P w K mg base (CX1 P w) 1 t.d_inner_of.f t.d_inner_of.fd ["book"] (spD K (zV t) wD 1) :=
 show FnOk P w K mg base (CX1 P w) 1 t.d_inner_of.f t.d_inner_of.fd ["book"] (spD K (zV t) (yg 4 uZ) 1) from
 fnD (N:=["book", "found", "piece", "end"]) (ps:=["book"]) (k:=0) (m:=4) (n:=1) (g:=uZ) (cl:=zV t) t.d_inner_of.fn sc_inner_of rfl rfl λcdv A outer s H E hr =>
   (zu (zcC (i:=1) sc_inner_of.nd rfl (Or.inl rfl))
   (zu (vZ (vK (i:=2) lax rfl (jh (zm 0 (pv 0))) (zX (i:=2) sc_inner_of.nd rfl (Or.inl rfl))
   (zE (vK (i:=3) lax rfl (wg rfl t.n_range (zf (z8 yJ n_len rfl t.n_len lcl (zf (zm 2 (pv 2)) zx zb) zb) zx zL) rfl) (zX (i:=3) sc_inner_of.nd rfl (Or.inl rfl))
   (zE (zc7 (zd3 hr) (pv 1) (qw (zm 2 (pv 2)) jP (jO (zm 3 (pv 3)))) zcc))))))
   (zE (zO (XL.xe (zf7 rfl rfl t.n_sorted (pv 1) zb))))))
theorem za5:FnScope ["source", "size"] ["source", "size"] (zy vX):=⟨rfl,rfl,rfl,by decide +kernel,rfl,by decide +kernel,by decide +kernel⟩
theorem qL (t:Txt K mg):FnOk P w K mg base (CX1 P w) 9 t.d_greatest_mean.f t.d_greatest_mean.fd ["source", "size"] (spD K (zV t) xJ 2) :=
 show FnOk P w K mg base (CX1 P w) 9 t.d_greatest_mean.f t.d_greatest_mean.fd ["source", "size"] (spD K (zV t) (yg 2 v7) 2) from
 fnD (N:=["source", "size"]) (ps:=["source", "size"]) (k:=8) (m:=2) (n:=2) (g:=v7) (cl:=zV t) t.d_greatest_mean.fn za5 rfl rfl λcdv A outer s H E hr =>
   (zE (zO (zB (zdl t) (hr.mono (by decide)) rfl t.d_mean.mg t.d_mean.fn.kp t.d_mean.bd zY (zf (zm 0 (pv 0)) (zf (zB (qZ t) (hr.mono (by decide)) rfl t.d_best_book.mg t.d_best_book.fn.kp t.d_best_book.bd zY (zf (zm 0 (pv 0)) (zf (zm 1 (pv 1)) zx zb) zb) zb) zx zL) zb) zb)))
theorem zaN:FnScope ["source", "book"] ["source", "book"] (zy vo):=⟨rfl,rfl,rfl,by decide +kernel,rfl,by decide +kernel,by decide +kernel⟩
theorem zaO (t:Txt K mg):FnOk P w K mg base (CX1 P w) 8 t.d_greatest_piece.f t.d_greatest_piece.fd ["source", "book"] (spD K (zV t) xq 2) :=
 show FnOk P w K mg base (CX1 P w) 8 t.d_greatest_piece.f t.d_greatest_piece.fd ["source", "book"] (spD K (zV t) (yg 2 vh) 2) from
 fnD (N:=["source", "book"]) (ps:=["source", "book"]) (k:=7) (m:=2) (n:=2) (g:=vh) (cl:=zV t) t.d_greatest_piece.fn zaN rfl rfl λcdv A outer s H E hr =>
   (zu (qG (zB (xW t) (hr.mono (by decide)) rfl t.d_require_book_of.mg t.d_require_book_of.fn.kp t.d_require_book_of.bd zY (zf (zm 0 (pv 0)) (zf (zm 1 (pv 1)) zx zb) zb) zb))
   (zE (zO (zB (u6 t) (hr.mono (by decide)) rfl t.d_first_greatest.mg t.d_first_greatest.fn.kp t.d_first_greatest.bd zY (zf (zm 1 (pv 1)) (zf (zB (zek t) (hr.mono (by decide)) rfl t.d_shares_of.mg t.d_shares_of.fn.kp t.d_shares_of.bd zY (zf (zm 0 (pv 0)) (zf (zm 1 (pv 1)) zx zb) zb) zb) zx zL) zb) zb))))
theorem sc_least_inner:FnScope ["source", "book", "least", "text", "part"] ["source", "book"] (zy qI):=⟨rfl,rfl,rfl,by decide +kernel,rfl,by decide +kernel,by decide +kernel⟩
theorem zb9 (t:Txt K mg):FnOk P w K mg base (CX1 P w) 8 t.d_least_inner.f t.d_least_inner.fd ["source", "book"] (spD K (zV t) wR 2) :=
 show FnOk P w K mg base (CX1 P w) 8 t.d_least_inner.f t.d_least_inner.fd ["source", "book"] (spD K (zV t) (yg 5 qm) 2) from
 fnD (N:=["source", "book", "least", "text", "part"]) (ps:=["source", "book"]) (k:=7) (m:=5) (n:=2) (g:=qm) (cl:=zV t) t.d_least_inner.fn sc_least_inner rfl rfl λcdv A outer s H E hr =>
   (zu (qG (zB (xW t) (hr.mono (by decide)) rfl t.d_require_book_of.mg t.d_require_book_of.fn.kp t.d_require_book_of.bd zY (zf (zm 0 (pv 0)) (zf (zm 1 (pv 1)) zx zb) zb) zb))
   (zu (zR (i:=2) sc_least_inner.nd rfl (Or.inl rfl) (XEw.out (zke (uT zaV (uT zaV zcz zF) zF))))
   (zu (vZ (vK (i:=3) lax rfl (zbT (zB (jJ t) (hr.mono (by decide)) rfl t.d_inner_of.mg t.d_inner_of.fn.kp t.d_inner_of.bd ud (zf (zm 1 (pv 1)) zx zb) zb)) (zX (i:=3) sc_least_inner.nd rfl (Or.inl rfl))
   (zu (zR (i:=4) sc_least_inner.nd rfl (Or.inl rfl) (zB (jn t) (hr.mono (by decide)) rfl t.d_share.mg t.d_share.fn.kp t.d_share.bd ud (zf (zm 0 (pv 0)) (zf (zm 3 (pv 3)) zx zb) zb) zb))
   (zE (qp (ux (zB (zat t) (hr.mono (by decide)) rfl t.d_is_less.mg t.d_is_less.fn.kp t.d_is_less.bd ud (zf (zm 4 (pv 4)) (zf (zm 2 (pv 2)) zx zb) zb) zb))
   (zE (zR (i:=2) sc_least_inner.nd rfl (Or.inl rfl) (zm 4 (pv 4))))
   yG)))))
   (zE (zO (zm 2 (pv 2)))))))
theorem sc_is_best:FnScope ["source", "book", "greatest"] ["source", "book"] (zy zbJ):=⟨rfl,rfl,rfl,by decide +kernel,rfl,by decide +kernel,by decide +kernel⟩
theorem zav (t:Txt K mg):FnOk P w K mg base (CX1 P w) 9 t.d_is_best.f t.d_is_best.fd ["source", "book"] (spD K (zV t) vH 2) :=
 show FnOk P w K mg base (CX1 P w) 9 t.d_is_best.f t.d_is_best.fd ["source", "book"] (spD K (zV t) (yg 3 zbY) 2) from
 fnD (N:=["source", "book", "greatest"]) (ps:=["source", "book"]) (k:=8) (m:=3) (n:=2) (g:=zbY) (cl:=zV t) t.d_is_best.fn sc_is_best rfl rfl λcdv A outer s H E hr =>
   (zu (zR (i:=2) sc_is_best.nd rfl (Or.inl rfl) (zB (jn t) (hr.mono (by decide)) rfl t.d_share.mg t.d_share.fn.kp t.d_share.bd zY (zf (zm 0 (pv 0)) (zf (zB (zaO t) (hr.mono (by decide)) rfl t.d_greatest_piece.mg t.d_greatest_piece.fn.kp t.d_greatest_piece.bd zY (zf (zm 0 (pv 0)) (zf (zm 1 (pv 1)) zx zb) zb) zb) zx zL) zb) zb))
   (zE (zO (zh6 (zB (zat t) (hr.mono (by decide)) rfl t.d_is_less.mg t.d_is_less.fn.kp t.d_is_less.bd zY (zf (zB (zb9 t) (hr.mono (by decide)) rfl t.d_least_inner.mg t.d_least_inner.fn.kp t.d_least_inner.bd zY (zf (zm 0 (pv 0)) (zf (zm 1 (pv 1)) zx zb) zb) zb) (zf (zm 2 (pv 2)) zx zb) zL) zL)))))
theorem sc_law:FnScope ["_law_script", "_law_many", "_law_size", "_law_alike", "_law_best", "_law_sizes", "_law_great", "_law_weights", "_law_sign", "_law_turns", "_law_source_here", "_law_book_here", "_law_up", "_law_down", "_law_step", "_law_names", "_law_renamed", "_law_exchanged"] ["_law_script"] (zy zcB):=⟨rfl,rfl,rfl,by decide +kernel,rfl,by decide +kernel,by decide +kernel⟩
theorem znn (t:Txt K mg):FnOk P w K mg base (CX1 P w) 10 t.d_law.f t.d_law.fd ["_law_script"] (spD K (zV t) zjR 1) :=
 show FnOk P w K mg base (CX1 P w) 10 t.d_law.f t.d_law.fd ["_law_script"] (spD K (zV t) (yg 18 zk8) 1) from
 fnD (N:=["_law_script", "_law_many", "_law_size", "_law_alike", "_law_best", "_law_sizes", "_law_great", "_law_weights", "_law_sign", "_law_turns", "_law_source_here", "_law_book_here", "_law_up", "_law_down", "_law_step", "_law_names", "_law_renamed", "_law_exchanged"]) (ps:=["_law_script"]) (k:=9) (m:=18) (n:=1) (g:=zk8) (cl:=zV t) t.d_law.fn sc_law rfl rfl λcdv A outer s H E hr =>
   (zu (zR (i:=1) sc_law.nd rfl (Or.inr rfl) (zZ w5 wX zJ (zB (ye t) (hr.mono (by decide)) rfl t.d__law_drawn.mg t.d__law_drawn.fn.kp t.d__law_drawn.bd zY (zf (zm 0 (pv 0)) (zf zJ (zf zJ zx zF) zF) zb) zb)))
   (zu (zR (i:=2) sc_law.nd rfl (Or.inl rfl) (zZ w5 wX (zm 1 (pv 1)) (zB (ye t) (hr.mono (by decide)) rfl t.d__law_drawn.mg t.d__law_drawn.fn.kp t.d__law_drawn.bd zY (zf (zm 0 (pv 0)) (zf zJ (zf zJ zx zF) zF) zb) zb)))
   (zu (zR (i:=3) sc_law.nd rfl (Or.inl rfl) (zZ zkC zmw (zcl (zf (zZ w5 wX zJ (zB (ye t) (hr.mono (by decide)) rfl t.d__law_drawn.mg t.d__law_drawn.fn.kp t.d__law_drawn.bd zY (zf (zm 0 (pv 0)) (zf zJ (zf zJ zx zF) zF) zb) zb)) zx xj)) (zm 1 (pv 1))))
   (zu (zR (i:=4) sc_law.nd rfl (Or.inl rfl) (zB (qZ t) (hr.mono (by decide)) rfl t.d_best_book.mg t.d_best_book.fn.kp t.d_best_book.bd zY (zf (zm 3 (pv 3)) (zf (zm 2 (pv 2)) zx zb) zb) zb))
   (zu (zR (i:=5) sc_law.nd rfl (Or.inl rfl) (XL.xe (zfh rfl rfl t.n_sorted rfl t.n_set (wG (x := "_law_piece") (caps:=[]) (xu (fs:=zy zcB) (N:=["_law_script", "_law_many", "_law_size", "_law_alike", "_law_best", "_law_sizes", "_law_great", "_law_weights", "_law_sign", "_law_turns", "_law_source_here", "_law_book_here", "_law_up", "_law_down", "_law_step", "_law_names", "_law_renamed", "_law_exchanged"]) rfl rfl (by decide +kernel)) rfl (jh (zm 4 (pv 4))) ⟨λ_ _ _ _ _=>(zX (i:=0) (jz (N:=["_law_piece"]) rfl (by decide +kernel)) rfl (Or.inl rfl)),λ_ _ _ _ _=>xR,λ_ _ _ _ _=>(z8 yJ n_len rfl t.n_len lcl (zf (zm 0 (pv 0)) zx zb) zb)⟩) rfl)))
   (zu (qp (XW.xt (zjx (zaY znq zmW (z8 yJ n_len rfl t.n_len lcl (zf (zm 5 (pv 5)) zx zb) zb) zJ (u9 _)) (zjx (zaY znq zmW (zZ zbG zby (vP (zm 5 (pv 5)) (zmM zJ) (λ_ _=>rfl)) (vP (zm 5 (pv 5)) zJ (λ_ _=>rfl))) zJ (u9 _)) (zhz (qP (ux (zB (zav t) (hr.mono (by decide)) rfl t.d_is_best.mg t.d_is_best.fn.kp t.d_is_best.bd zY (zf (zm 3 (pv 3)) (zf (zB (za0 t) (hr.mono (by decide)) rfl t.d_even_book.mg t.d_even_book.fn.kp t.d_even_book.bd zY (zf (zm 1 (pv 1)) (zf (zZ w5 wX zJ (zB (ye t) (hr.mono (by decide)) rfl t.d__law_drawn.mg t.d__law_drawn.fn.kp t.d__law_drawn.bd zY (zf (zm 0 (pv 0)) (zf zJ (zf zJ zx zF) zF) zb) zb)) zx xj) zb) zb) zx zL) zb) zb)))))))
   (zE (zO zcc))
   yG)
   (zu (zR (i:=6) sc_law.nd rfl (Or.inl rfl) (zB (ye t) (hr.mono (by decide)) rfl t.d__law_drawn.mg t.d__law_drawn.fn.kp t.d__law_drawn.bd zY (zf (zm 0 (pv 0)) (zf zJ (zf (zm 1 (pv 1)) zx zb) zF) zb) zb))
   (zu (zeG (i:=7) sc_law.nd rfl (Or.inl rfl) (zmJ (XEw.out (zf4 (uT zaV zcz zF))) (zm 1 (pv 1))))
   (zu (zlz (pv 7) (zm 6 (pv 6)) zJ)
   (zu (zR (i:=8) sc_law.nd rfl (Or.inr rfl) (vP (qQ (l:=[97,98,99,100]) (by decide +kernel) (zb3 (by decide +kernel) (by decide +kernel))) (zm 6 (pv 6)) (λ_ _=>rfl)))
   (zu (zR (i:=9) sc_law.nd rfl (Or.inl rfl) (zZ uh jd (zZ zbG zby (zm 2 (pv 2)) zJ) (zZ zbG zby (zm 1 (pv 1)) zJ)))
   (zu (qp (zn7 (i:=7) (zaY (zbq hr.units) zkQ (zB (jJ t) (hr.mono (by decide)) rfl t.d_inner_of.mg t.d_inner_of.fn.kp t.d_inner_of.bd zY (zf (zB (qZ t) (hr.mono (by decide)) rfl t.d_best_book.mg t.d_best_book.fn.kp t.d_best_book.bd zY (zf (vQ yL zew rfl t.n_tuple lcR (zf (zm 7 (pv 7)) zx zb) zb) (zf (zm 2 (pv 2)) zx zb) zL) zL) zx zL) zL) (wG (x := "_law_k") (caps:=[8]) (xu (fs:=zy zcB) (N:=["_law_script", "_law_many", "_law_size", "_law_alike", "_law_best", "_law_sizes", "_law_great", "_law_weights", "_law_sign", "_law_turns", "_law_source_here", "_law_book_here", "_law_up", "_law_down", "_law_step", "_law_names", "_law_renamed", "_law_exchanged"]) rfl rfl (by decide +kernel)) rfl (wg rfl t.n_range (zf (zm 9 (pv 9)) zx zb) rfl) ⟨λ_ _ _ _ _=>(zX (i:=0) (jz (N:=["_law_k", "_law_sign"]) rfl (by decide +kernel)) rfl (Or.inl rfl)),λ_ _ _ _ _=>xR,λ_ _ _ _ _=>(zZ zlP zl3 (zm 1 (pv 1)) (zm 0 (pv 0)))⟩) (u9 _)))
   (zE (zO zcc))
   yG)
   (zu (zR (i:=10) sc_law.nd rfl (Or.inr rfl) (zB (zce t) (hr.mono (by decide)) rfl t.d__law_source.mg t.d__law_source.fn.kp t.d__law_source.bd zY (zf (zm 0 (pv 0)) (zf zJ (zf (zm 1 (pv 1)) zx zb) zF) zb) zb))
   (zu (zR (i:=11) sc_law.nd rfl (Or.inl rfl) (zB (zd4 t) (hr.mono (by decide)) rfl t.d__law_book.mg t.d__law_book.fn.kp t.d__law_book.bd zY (zf (zm 0 (pv 0)) (zf zJ (zf (zm 1 (pv 1)) (zf (zB (ye t) (hr.mono (by decide)) rfl t.d__law_drawn.mg t.d__law_drawn.fn.kp t.d__law_drawn.bd zY (zf (zm 0 (pv 0)) (zf zJ (zf zJ zx zF) zF) zb) zb) zx zL) zb) zF) zb) zb))
   (zu (zlL (i:=12) (j:=13) (zhw (K:=K) (i:=12) (j:=13) rfl rfl sc_law.nd rfl rfl (Or.inl rfl) (Or.inl rfl)) (zB (zdl t) (hr.mono (by decide)) rfl t.d_mean.mg t.d_mean.fn.kp t.d_mean.bd zY (zf (zm 10 (pv 10)) (zf (zm 11 (pv 11)) zx zb) zb) zb))
   (zu (qp (qP (zc6 zdC zdC zep zep (zm 13 (pv 13)) (zm 12 (pv 12)) (zZ xP vN (zm 13 (pv 13)) (z8 yJ n_len rfl t.n_len lcl (zf (zB (jJ t) (hr.mono (by decide)) rfl t.d_inner_of.mg t.d_inner_of.fn.kp t.d_inner_of.bd zY (zf (zm 11 (pv 11)) zx zb) zb) zx zL) zL))))
   (zE (zO zcc))
   yG)
   (zu (zR (i:=14) sc_law.nd rfl (Or.inr rfl) (zZ w5 wX zJ (zB (ye t) (hr.mono (by decide)) rfl t.d__law_drawn.mg t.d__law_drawn.fn.kp t.d__law_drawn.bd zY (zf (zm 0 (pv 0)) (zf zJ (zf (zZ zbG zby (zm 1 (pv 1)) zJ) zx xj) zF) zb) zb)))
   (zu (zR (i:=15) sc_law.nd rfl (Or.inr rfl) (zjw rfl rfl t.n_dict (wG (x := "_law_at") (caps:=[1,14]) (xu (fs:=zy zcB) (N:=["_law_script", "_law_many", "_law_size", "_law_alike", "_law_best", "_law_sizes", "_law_great", "_law_weights", "_law_sign", "_law_turns", "_law_source_here", "_law_book_here", "_law_up", "_law_down", "_law_step", "_law_names", "_law_renamed", "_law_exchanged"]) rfl rfl (by decide +kernel)) rfl (wg rfl t.n_range (zf (zm 1 (pv 1)) zx zb) rfl) ⟨λ_ _ _ _ _=>(zX (i:=0) (jz (N:=["_law_at", "_law_many", "_law_step"]) rfl (by decide +kernel)) rfl (Or.inl rfl)),λ_ _ _ _ _=>xR,λ_ _ _ _ _=>(zcl (zf (vP (qQ (l:=[97,98,99,100]) (by decide +kernel) (zb3 (by decide +kernel) (by decide +kernel))) (zm 0 (pv 0)) (λ_ _=>rfl)) (zf (vP (qQ (l:=[97,98,99,100]) (by decide +kernel) (zb3 (by decide +kernel) (by decide +kernel))) (zZ zae zal (zZ w5 wX (zm 0 (pv 0)) (zm 2 (pv 2))) (zm 1 (pv 1))) (λ_ _=>rfl)) zx ju) ju))⟩) rfl))
   (zu (zR (i:=16) sc_law.nd rfl (Or.inl rfl) (vQ yL zew rfl t.n_tuple lcR (zf (XL.xe (zeo rfl t.n_sorted boot_sorted (wG (x := "_law_piece") (caps:=[15]) (xu (fs:=zy zcB) (N:=["_law_script", "_law_many", "_law_size", "_law_alike", "_law_best", "_law_sizes", "_law_great", "_law_weights", "_law_sign", "_law_turns", "_law_source_here", "_law_book_here", "_law_up", "_law_down", "_law_step", "_law_names", "_law_renamed", "_law_exchanged"]) rfl rfl (by decide +kernel)) rfl (jh (zm 11 (pv 11))) ⟨λ_ _ _ _ _=>(zX (i:=0) (jz (N:=["_law_piece", "_law_names"]) rfl (by decide +kernel)) rfl (Or.inl rfl)),λ_ _ _ _ _=>xR,λ_ _ _ _ _=>(zln (qQ (l:=[]) (by decide +kernel) (zb3 (by decide +kernel) (by decide +kernel))) (wG (x := "_law_one") (caps:=[1]) (xu (fs:=_) (N:=["_law_piece", "_law_names"]) rfl rfl (by kernel_rfl)) rfl (zfl (zm 0 (pv 0))) ⟨λ_ _ _ _ _=>(zX (i:=0) (jz (N:=["_law_one", "_law_names"]) rfl (by decide +kernel)) rfl (Or.inl rfl)),λ_ _ _ _ _=>xR,λ_ _ _ _ _=>(zfq (zd3 hr) (zm 1 (pv 1)) (zm 0 (pv 0)))⟩) ⟨rfl,rfl,rfl,rfl,rfl⟩)⟩) rfl)) zx zL) zL))
   (zu (zR (i:=17) sc_law.nd rfl (Or.inl rfl) (vQ yL zew rfl t.n_tuple lcR (zf (wG (x := "_law_at") (caps:=[10,1,14]) (xu (fs:=zy zcB) (N:=["_law_script", "_law_many", "_law_size", "_law_alike", "_law_best", "_law_sizes", "_law_great", "_law_weights", "_law_sign", "_law_turns", "_law_source_here", "_law_book_here", "_law_up", "_law_down", "_law_step", "_law_names", "_law_renamed", "_law_exchanged"]) rfl rfl (by decide +kernel)) rfl (wg rfl t.n_range (zf (zm 1 (pv 1)) zx zb) rfl) ⟨λ_ _ _ _ _=>(zX (i:=0) (jz (N:=["_law_at", "_law_source_here", "_law_many", "_law_step"]) rfl (by decide +kernel)) rfl (Or.inl rfl)),λ_ _ _ _ _=>xR,λ_ _ _ _ _=>(vP (zm 1 (pv 1)) (zZ zae zal (zZ zbG zby (zm 0 (pv 0)) (zm 3 (pv 3))) (zm 2 (pv 2))) (λ_ _=>rfl))⟩) zx rfl) rfl))
   (zu (qp (XW.xt (zjx (zaY (zbq hr.units) zkQ (zB (zdl t) (hr.mono (by decide)) rfl t.d_mean.mg t.d_mean.fn.kp t.d_mean.bd zY (zf (zm 17 (pv 17)) (zf (zm 16 (pv 16)) zx zb) zb) zb) (zB (zdl t) (hr.mono (by decide)) rfl t.d_mean.mg t.d_mean.fn.kp t.d_mean.bd zY (zf (zm 10 (pv 10)) (zf (zm 11 (pv 11)) zx zb) zb) zb) (u9 _)) (zhz (zaY (zbq hr.units) zkQ (zB (zav t) (hr.mono (by decide)) rfl t.d_is_best.mg t.d_is_best.fn.kp t.d_is_best.bd zY (zf (zm 17 (pv 17)) (zf (zm 16 (pv 16)) zx zb) zb) zb) (zB (zav t) (hr.mono (by decide)) rfl t.d_is_best.mg t.d_is_best.fn.kp t.d_is_best.bd zY (zf (zm 10 (pv 10)) (zf (zm 11 (pv 11)) zx zb) zb) zb) (u9 _)))))
   (zE (zO zcc))
   yG)
   (zE (zO (zcn (zkc hr.units) zoF (zB (qL t) (hr.mono (by decide)) rfl t.d_greatest_mean.mg t.d_greatest_mean.fn.kp t.d_greatest_mean.bd zY (zf (zm 17 (pv 17)) (zf (zm 2 (pv 2)) zx zb) zb) zb) (zB (qL t) (hr.mono (by decide)) rfl t.d_greatest_mean.mg t.d_greatest_mean.fn.kp t.d_greatest_mean.bd zY (zf (zm 10 (pv 10)) (zf (zm 2 (pv 2)) zx zb) zb) zb) (u9 _)))))))))))))))))))))))))
end
end K33
namespace K33
open PySem L2
theorem all_mk {l:PySem.W.OpenLaw}{w:World}{K:PySem.W.Frag}{h:Heap}{mg:Str->Option Value}{fa:Addr}(X:K.In h)(G:h.Ns mainGlobals mg)(hfa:mg "law" = some (.ref fa))
  {vFEWEST_LETTERS vGREATEST_WEIGHT vLETTERS vMOST_PIECES:Value}
  (a0:Dz K "is_whole" zaE)
  (a1:Dz K "is_between" jb)
  (a2:Dz K "is_weight" jK)
  (a3:Dz K "is_source" qg)
  (a4:Dz K "require_source" vy)
  (a5:Dz K "is_number_of_letters" yP)
  (a6:Dz K "is_size" zbn)
  (a7:Dz K "require_size" uO)
  (a8:Dz K "gone_on" zbz)
  (a9:Dz K "even_book" jM)
  (a10:Dz K "first_book" kZ)
  (a11:Dz K "is_text_of" ul)
  (a12:Dz K "require_text_of" wI)
  (a13:Dz K "greatest_divisor" wA)
  (a14:Dz K "lowest" zcU)
  (a15:Dz K "share" ze7)
  (a16:Dz K "shares_of" jT)
  (a17:Dz K "most_partings" vU)
  (a18:Dz K "is_less" zbV)
  (a19:Dz K "first_greatest" vp)
  (a20:Dz K "parted" zdc)
  (a21:Dz K "best_book" jE)
  (a22:Dz K "_law_cell" jW)
  (a23:Dz K "_law_drawn" jf)
  (a24:Dz K "_law_source" vG)
  (a25:Dz K "_law_book" vO)
  (a26:Dz K "is_rising" qz)
  (a27:Dz K "are_pieces" uG)
  (a28:Dz K "first_pair" kJ)
  (a29:Dz K "is_apart" jr)
  (a30:Dz K "is_inner" ji)
  (a31:Dz K "first_text_apart" yQ)
  (a32:Dz K "first_paper" qC)
  (a33:Dz K "is_book" zbv)
  (a34:Dz K "require_book" uK)
  (a35:Dz K "require_book_of" wH)
  (a36:Dz K "added" zeK)
  (a37:Dz K "mean" zh0)
  (a38:Dz K "inner_of" zaF)
  (a39:Dz K "greatest_mean" vX)
  (a40:Dz K "greatest_piece" vo)
  (a41:Dz K "least_inner" qI)
  (a42:Dz K "is_best" zbJ)
  (a43:Dz K "law" zcB)
  (wFEWEST_LETTERS:PySem.W.nsIn K mainGlobals "FEWEST_LETTERS" = some (some vFEWEST_LETTERS)) (rFEWEST_LETTERS:RelV (.int (2)) vFEWEST_LETTERS)
  (wGREATEST_WEIGHT:PySem.W.nsIn K mainGlobals "GREATEST_WEIGHT" = some (some vGREATEST_WEIGHT)) (rGREATEST_WEIGHT:RelV (.int (99)) vGREATEST_WEIGHT)
  (wLETTERS:PySem.W.nsIn K mainGlobals "LETTERS" = some (some vLETTERS)) (rLETTERS:RelV (.str (T [97,98,99,100])) vLETTERS)
  (wMOST_PIECES:PySem.W.nsIn K mainGlobals "MOST_PIECES" = some (some vMOST_PIECES)) (rMOST_PIECES:RelV (.int (32)) vMOST_PIECES)
  (zall:PySem.W.nsIn K mainGlobals "all" = some none)
  (zany:PySem.W.nsIn K mainGlobals "any" = some none)
  (zbool:PySem.W.nsIn K mainGlobals "bool" = some none)
  (zdict:PySem.W.nsIn K mainGlobals "dict" = some none)
  (zint:PySem.W.nsIn K mainGlobals "int" = some none)
  (zisinstance:PySem.W.nsIn K mainGlobals "isinstance" = some none)
  (zlen:PySem.W.nsIn K mainGlobals "len" = some none)
  (zrange:PySem.W.nsIn K mainGlobals "range" = some none)
  (zset:PySem.W.nsIn K mainGlobals "set" = some none)
  (zsorted:PySem.W.nsIn K mainGlobals "sorted" = some none)
  (zstr:PySem.W.nsIn K mainGlobals "str" = some none)
  (zsum:PySem.W.nsIn K mainGlobals "sum" = some none)
  (ztuple:PySem.W.nsIn K mainGlobals "tuple" = some none)
  (zzip:PySem.W.nsIn K mainGlobals "zip" = some none)
  {xa_NoBook xa_NoLetters xa_NoSize xa_NoSource:Addr}
  (y_NoBook:PySem.W.nsIn K mainGlobals "NoBook" = some (some (.ref xa_NoBook))) (q_NoBook:PySem.W.excIn K xa_NoBook [.type "ValueError", .type "Exception", .type "BaseException", .type "object"] "ValueError.__new__" = true)
  (y_NoLetters:PySem.W.nsIn K mainGlobals "NoLetters" = some (some (.ref xa_NoLetters))) (q_NoLetters:PySem.W.excIn K xa_NoLetters [.type "ValueError", .type "Exception", .type "BaseException", .type "object"] "ValueError.__new__" = true)
  (y_NoSize:PySem.W.nsIn K mainGlobals "NoSize" = some (some (.ref xa_NoSize))) (q_NoSize:PySem.W.excIn K xa_NoSize [.type "ValueError", .type "Exception", .type "BaseException", .type "object"] "ValueError.__new__" = true)
  (y_NoSource:PySem.W.nsIn K mainGlobals "NoSource" = some (some (.ref xa_NoSource))) (q_NoSource:PySem.W.excIn K xa_NoSource [.type "ValueError", .type "Exception", .type "BaseException", .type "object"] "ValueError.__new__" = true) :
  ∃fd:FuncData,(∀(s:Shared) (v:Value),BindsTo s fd ⟨[v],[]⟩ [("_law_script", v)])/\∀base:Heap,K.In base->base.Ns mainGlobals mg->FnOk l.prog w K mg base CX0 10 fa fd ["_law_script"] (zej K):=by
 obtain⟨aL,lL,cL,kL⟩:=a43
 have e:=hfa.symm.trans (lbz X G aL)
 cases e
 have FL:=zif (st:=zcB) lL cL kL
 have bL:=FL.binds (ps:=["_law_script"]) (λ_ _ _ _ _ _=>bd1 λ_=>rfl)
 obtain⟨D0⟩:=a0.dn X G ["thing"] (λ_ _ _ _ _ _=>bd1 λ_=>rfl)
 obtain⟨D1⟩:=a1.dn X G ["thing", "least", "most"] (λ_ _ _ _ _ _=>bd3 λ_ _ _=>rfl)
 obtain⟨D2⟩:=a2.dn X G ["thing"] (λ_ _ _ _ _ _=>bd1 λ_=>rfl)
 obtain⟨D3⟩:=a3.dn X G ["thing"] (λ_ _ _ _ _ _=>bd1 λ_=>rfl)
 obtain⟨D4⟩:=a4.dn X G ["thing"] (λ_ _ _ _ _ _=>bd1 λ_=>rfl)
 obtain⟨D5⟩:=a5.dn X G ["thing"] (λ_ _ _ _ _ _=>bd1 λ_=>rfl)
 obtain⟨D6⟩:=a6.dn X G ["many", "thing"] (λ_ _ _ _ _ _=>bd2 λ_ _=>rfl)
 obtain⟨D7⟩:=a7.dn X G ["many", "thing"] (λ_ _ _ _ _ _=>bd2 λ_ _=>rfl)
 obtain⟨D8⟩:=a8.dn X G ["many", "texts"] (λ_ _ _ _ _ _=>bd2 λ_ _=>rfl)
 obtain⟨D9⟩:=a9.dn X G ["many", "length"] (λ_ _ _ _ _ _=>bd2 λ_ _=>rfl)
 obtain⟨D10⟩:=a10.dn X G ["many"] (λ_ _ _ _ _ _=>bd1 λ_=>rfl)
 obtain⟨D11⟩:=a11.dn X G ["many", "thing"] (λ_ _ _ _ _ _=>bd2 λ_ _=>rfl)
 obtain⟨D12⟩:=a12.dn X G ["many", "thing"] (λ_ _ _ _ _ _=>bd2 λ_ _=>rfl)
 obtain⟨D13⟩:=a13.dn X G ["one", "other"] (λ_ _ _ _ _ _=>bd2 λ_ _=>rfl)
 obtain⟨D14⟩:=a14.dn X G ["up", "down"] (λ_ _ _ _ _ _=>bd2 λ_ _=>rfl)
 obtain⟨D15⟩:=a15.dn X G ["source", "text"] (λ_ _ _ _ _ _=>bd2 λ_ _=>rfl)
 obtain⟨D16⟩:=a16.dn X G ["source", "texts"] (λ_ _ _ _ _ _=>bd2 λ_ _=>rfl)
 obtain⟨D17⟩:=a17.dn X G ["many", "size"] (λ_ _ _ _ _ _=>bd2 λ_ _=>rfl)
 obtain⟨D18⟩:=a18.dn X G ["one", "other"] (λ_ _ _ _ _ _=>bd2 λ_ _=>rfl)
 obtain⟨D19⟩:=a19.dn X G ["pieces", "shares"] (λ_ _ _ _ _ _=>bd2 λ_ _=>rfl)
 obtain⟨D20⟩:=a20.dn X G ["many", "pieces", "piece"] (λ_ _ _ _ _ _=>bd3 λ_ _ _=>rfl)
 obtain⟨D21⟩:=a21.dn X G ["source", "size"] (λ_ _ _ _ _ _=>bd2 λ_ _=>rfl)
 obtain⟨D22⟩:=a22.dn X G ["_law_script", "_law_k"] (λ_ _ _ _ _ _=>bd2 λ_ _=>rfl)
 obtain⟨D23⟩:=a23.dn X G ["_law_script", "_law_k", "_law_many"] (λ_ _ _ _ _ _=>bd3 λ_ _ _=>rfl)
 obtain⟨D24⟩:=a24.dn X G ["_law_script", "_law_at", "_law_many"] (λ_ _ _ _ _ _=>bd3 λ_ _ _=>rfl)
 obtain⟨D25⟩:=a25.dn X G ["_law_script", "_law_at", "_law_many", "_law_turns"] (λ_ _ _ _ _ _=>bd4 λ_ _ _ _=>rfl)
 obtain⟨D26⟩:=a26.dn X G ["texts"] (λ_ _ _ _ _ _=>bd1 λ_=>rfl)
 obtain⟨D27⟩:=a27.dn X G ["many", "thing"] (λ_ _ _ _ _ _=>bd2 λ_ _=>rfl)
 obtain⟨D28⟩:=a28.dn X G ["pieces"] (λ_ _ _ _ _ _=>bd1 λ_=>rfl)
 obtain⟨D29⟩:=a29.dn X G ["pieces", "text"] (λ_ _ _ _ _ _=>bd2 λ_ _=>rfl)
 obtain⟨D30⟩:=a30.dn X G ["pieces", "text"] (λ_ _ _ _ _ _=>bd2 λ_ _=>rfl)
 obtain⟨D31⟩:=a31.dn X G ["many", "pieces"] (λ_ _ _ _ _ _=>bd2 λ_ _=>rfl)
 obtain⟨D32⟩:=a32.dn X G ["many", "pieces"] (λ_ _ _ _ _ _=>bd2 λ_ _=>rfl)
 obtain⟨D33⟩:=a33.dn X G ["many", "thing"] (λ_ _ _ _ _ _=>bd2 λ_ _=>rfl)
 obtain⟨D34⟩:=a34.dn X G ["many", "thing"] (λ_ _ _ _ _ _=>bd2 λ_ _=>rfl)
 obtain⟨D35⟩:=a35.dn X G ["source", "thing"] (λ_ _ _ _ _ _=>bd2 λ_ _=>rfl)
 obtain⟨D36⟩:=a36.dn X G ["one", "other"] (λ_ _ _ _ _ _=>bd2 λ_ _=>rfl)
 obtain⟨D37⟩:=a37.dn X G ["source", "book"] (λ_ _ _ _ _ _=>bd2 λ_ _=>rfl)
 obtain⟨D38⟩:=a38.dn X G ["book"] (λ_ _ _ _ _ _=>bd1 λ_=>rfl)
 obtain⟨D39⟩:=a39.dn X G ["source", "size"] (λ_ _ _ _ _ _=>bd2 λ_ _=>rfl)
 obtain⟨D40⟩:=a40.dn X G ["source", "book"] (λ_ _ _ _ _ _=>bd2 λ_ _=>rfl)
 obtain⟨D41⟩:=a41.dn X G ["source", "book"] (λ_ _ _ _ _ _=>bd2 λ_ _=>rfl)
 obtain⟨D42⟩:=a42.dn X G ["source", "book"] (λ_ _ _ _ _ _=>bd2 λ_ _=>rfl)
 let t:Txt K mg:=⟨D0,D1,D2,D3,D4,D5,D6,D7,D8,D9,D10,D11,D12,D13,D14,D15,D16,D17,D18,D19,D20,D21,D22,D23,D24,D25,D26,D27,D28,D29,D30,D31,D32,D33,D34,D35,D36,D37,D38,D39,D40,D41,D42,⟨_,_,FL,lbz X G aL,bL⟩,vFEWEST_LETTERS,lbz X G wFEWEST_LETTERS,rFEWEST_LETTERS,vGREATEST_WEIGHT,lbz X G wGREATEST_WEIGHT,rGREATEST_WEIGHT,vLETTERS,lbz X G wLETTERS,rLETTERS,vMOST_PIECES,lbz X G wMOST_PIECES,rMOST_PIECES,laz X G zall,laz X G zany,laz X G zbool,laz X G zdict,laz X G zint,laz X G zisinstance,laz X G zlen,laz X G zrange,laz X G zset,laz X G zsorted,laz X G zstr,laz X G zsum,laz X G ztuple,laz X G zzip,⟨xa_NoBook,lbz X G y_NoBook,q_NoBook⟩,⟨xa_NoLetters,lbz X G y_NoLetters,q_NoLetters⟩,⟨xa_NoSize,lbz X G y_NoSize,q_NoSize⟩,⟨xa_NoSource,lbz X G y_NoSource,q_NoSource⟩⟩
 exact⟨_,λs v=>.of_eq rfl,λbase _ _=>zm0 (znn t) zjo⟩
theorem walk {l:PySem.W.OpenLaw}{q:Program}{loose:List Str}{XP:(Str->Option Value)->Heap->Prop}{YP:World->Heap->Prop}{d:DefRec}{K:Params->PySem.W.Frag}(hn:l.most=some 63)(hdf:d.params.defaults=[])
  (hY:∀(w:World) (h:Heap),YP w h->(K w.params).In h)
  (F:∀(w:World) (mg:Str->Option Value) (fa:Addr) (h:Heap),(K w.params).In h->h.Ns mainGlobals mg->mg d.name=some (.ref fa) ->
   ∃fd:FuncData,(∀(s:Shared) (u:Value),BindsTo s fd ⟨[u],[]⟩ [("_law_script", u)])/\∀base:Heap,(K w.params).In base->base.Ns mainGlobals mg->FnOk l.prog w (K w.params) mg base CX0 10 fa fd ["_law_script"] (zej (K w.params))) :
  PySem.W.WalkO q loose XP YP l.row.toRowW d [] (λf vs=>PySem.call f vs) :=
 L2.walk_of (n:=63) (k:=10) (x := "_law_script") (CX:=λ_=>CX0) (sp:=λw=>zej (K w.params)) hn (by decide) hdf ⟨rfl,by decide,by decide⟩ hY F (λ_ _ a ns hl _ hS=>⟨a,ns,rfl,hS,hl,λ_=>rfl⟩) λ_ _ _ _ _ z=>z
end K33
theorem PySem.W.Fast.tw7476709212923001694 : True := trivial
theorem PySem.W.Fast.tw6561923783763640140 : True := trivial
theorem PySem.W.Fast.tw7626803044521642557 : True := trivial
theorem PySem.W.Fast.tw5453182224253261626 : True := trivial
theorem PySem.W.Fast.tw15108525085464724441 : True := trivial
theorem PySem.W.Fast.tw12982408233593424742 : True := trivial
theorem PySem.W.Fast.tw8428060874584356760 : True := trivial
theorem PySem.W.Fast.tw69348794765828659 : True := trivial
theorem PySem.W.Fast.tw2465458135899667603 : True := trivial
theorem PySem.W.Fast.tw12243147399784281882 : True := trivial
theorem PySem.W.Fast.tw14255788611026531870 : True := trivial
theorem PySem.W.Fast.tw10772493523648644536 : True := trivial
theorem PySem.W.Fast.tw9300345672548033273 : True := trivial
theorem PySem.W.Fast.tw727968216860735997 : True := trivial
theorem PySem.W.Fast.tw8804559572967563088 : True := trivial
theorem PySem.W.Fast.tw9651433838193115874 : True := trivial
theorem PySem.W.Fast.tw3148172465889839229 : True := trivial
open PySem PySem.W PyProof.Rows
set_option maxRecDepth 100000 in
set_option maxHeartbeats 0 in
theorem PySem.Challenge.cw_piecebooks_k33_whole_alike_holds : PySem.Challenge.rw_piecebooks_k33_whole_alike.Holds := by
 w_on;o_law;k_head;(case hw=>w_witness2)
 k_fill
 refine K33.walk (l:=PySem.Challenge.rw_piecebooks_k33_whole_alike) rfl rfl (fun w h Y=>PySem.W.kIn_of Y) ?F
 case F =>
  intro w mg fa h KX G hmg
  refine' K33.all_mk KX G hmg ?a0 ?a1 ?a2 ?a3 ?a4 ?a5 ?a6 ?a7 ?a8 ?a9 ?a10 ?a11 ?a12 ?a13 ?a14 ?a15 ?a16 ?a17 ?a18 ?a19 ?a20 ?a21 ?a22 ?a23 ?a24 ?a25 ?a26 ?a27 ?a28 ?a29 ?a30 ?a31 ?a32 ?a33 ?a34 ?a35 ?a36 ?a37 ?a38 ?a39 ?a40 ?a41 ?a42 ?a43 ?wFEWEST_LETTERS ?rFEWEST_LETTERS ?wGREATEST_WEIGHT ?rGREATEST_WEIGHT ?wLETTERS ?rLETTERS ?wMOST_PIECES ?rMOST_PIECES ?zall ?zany ?zbool ?zdict ?zint ?zisinstance ?zlen ?zrange ?zset ?zsorted ?zstr ?zsum ?ztuple ?zzip ?y_NoBook ?q_NoBook ?y_NoLetters ?q_NoLetters ?y_NoSize ?q_NoSize ?y_NoSource ?q_NoSource
  (case a0|a1|a2|a3|a4|a5|a6|a7|a8|a9|a10|a11|a12|a13|a14|a15|a16|a17|a18|a19|a20|a21|a22|a23|a24|a25|a26|a27|a28|a29|a30|a31|a32|a33|a34|a35|a36|a37|a38|a39|a40|a41|a42|a43=>refine' L2.Dz.mk ?za ?zl ?zc ?zk;(case za=>k_is);(case zl=>k_is);(case zc=>k_is);(case zk=>k_is))
  (case wFEWEST_LETTERS=>k_is)
  (case rFEWEST_LETTERS=>exact⟨_,rfl⟩)
  (case wGREATEST_WEIGHT=>k_is)
  (case rGREATEST_WEIGHT=>exact⟨_,rfl⟩)
  (case wLETTERS=>k_is)
  (case rLETTERS=>exact⟨_,rfl⟩)
  (case wMOST_PIECES=>k_is)
  (case rMOST_PIECES=>exact⟨_,rfl⟩)
  (case y_NoBook=>k_is)
  (case q_NoBook=>k_exc)
  (case y_NoLetters=>k_is)
  (case q_NoLetters=>k_exc)
  (case y_NoSize=>k_is)
  (case q_NoSize=>k_exc)
  (case y_NoSource=>k_is)
  (case q_NoSource=>k_exc)
  (case zall|zany|zbool|zdict|zint|zisinstance|zlen|zrange|zset|zsorted|zstr|zsum|ztuple|zzip=>k_is)
#print axioms PySem.Challenge.cw_piecebooks_k33_whole_alike_holds
