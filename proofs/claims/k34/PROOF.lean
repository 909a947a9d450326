import PyProof.Rows.All
import Wide.All
import OpenK.AllK
import Wide.FinOn
import KE.KDictOf
import KE.KDictSum
import KE.KIntText
import KE.KItem
import KE.KLam
import KE.KMinKey
import KE.KRevIter
import OpenK.KOwn
import PyProof.AttrMissHeap
import PyProof.AutoSeq1
import PyProof.CodeObj
import PyProof.CollectWalk
import PyProof.ConsumeWalk
import PyProof.Conv_int_bool
import PyProof.DictIter
import PyProof.DictKinds
import PyProof.DictUpdate
import PyProof.Draws
import PyProof.EnumIter
import PyProof.EnumMake
import PyProof.EqAt
import PyProof.EqKinds
import PyProof.ExcArgsOwn
import PyProof.FactsAll.dict_1
import PyProof.FactsAll.set
import PyProof.FactsAll.set_2
import PyProof.ListMulRoad
import PyProof.ListNew
import PyProof.ListStr
import PyProof.NeData
import PyProof.P3Eq
import PyProof.P3In
import PyProof.Rows.DictSet
import PyProof.Rows.Range3
import PyProof.Rows.SetFrom
import PyProof.Rows.SortShell
import PyProof.Rows.SortStr
import PyProof.Rows.SortWalk
import PyProof.SeqI3
import PyProof.SetKind
import PyProof.StrLawsIn
import PyProof.StrOps2
import PyProof.StrWalks
import PyProof.TupleCall
import PyProof.TupleKey
import PyProof.TupleOps
import PyProof.Walks
import PyProof.WalksMore
import PyProof.WalksS
import PyProof.ZipIter
import Lean
import PySem.Challenge.RW_piecebooks_k34_costs
abbrev qQ3:=PySem.Str->Option PySem.Value
abbrev qQ2:=PySem.Value->PySem.Shared->Prop
abbrev qQ1:=List (List Nat)
abbrev qQ0:=PySem.W.Frag
set_option Elab.async false
set_option linter.all false
set_option maxRecDepth 100000
abbrev la:=@PySem.wpAny_bind
abbrev lg:=@PySem.Heap.get?_push_of_some
abbrev lh:=@List.getElem?_eq_getElem
abbrev lq:=@Option.some.inj
abbrev lr:=@PySem.wpAny_pure
abbrev ly:=@List.getD_eq_getElem?_getD
abbrev lz:=@List.mem_cons_of_mem
abbrev lB:=@Nat.le_refl
abbrev lC:=@PySem.Heap.get?_push_size
abbrev lD:=@List.mem_cons_self
abbrev lE:=@PySem.Heap.lt_size
abbrev lF:=@List.map_cons
abbrev lG:=@List.forall_mem_cons
abbrev lH:=@Bool.false_ne_true
abbrev lI:=@List.mem_cons
abbrev lJ:=@List.getElem?_map
abbrev lK:=@Nat.lt_of_lt_of_le
abbrev lM:=@Bool.and_eq_true
abbrev lN:=@List.mem_append_right
abbrev lO:=@List.getElem?_eq_some_iff
abbrev lP:=@List.size_toArray
abbrev lQ:=@List.length_map
abbrev lR:=@List.mem_singleton
abbrev lS:=@Bool.false_eq_true
abbrev lU:=@if_pos
abbrev lV:=@PySem.wpAny_callSpecial?_slot
abbrev lW:=@List.isPrefixOf_iff_prefix
abbrev lX:=@decide_eq_true
abbrev lY:=@List.append_nil
abbrev lZ:=@List.all_eq_true
abbrev laa:=@decide_eq_false
abbrev lab:=@Nat.ne_of_lt
abbrev lac:=@if_neg
abbrev lad:=@PySem.wpAny_call_entry
abbrev lae:=@List.length_append
abbrev laf:=@List.length_cons
abbrev lag:=@PySem.mem_of_lookup
abbrev lah:=@PySem.Heap.SameBut.update
abbrev lai:=@PySem.F.plain_min_loop
abbrev laj:=@PySem.wpAny_field
abbrev lak:=@PySem.wpAny_holding
abbrev lal:=@List.getElem?_cons_zero
abbrev lan:=@List.getElem?_cons_succ
abbrev lao:=@PySem.PassesOwn.never
abbrev lap:=@List.getElem?_set_ne
abbrev laq:=@Int.toNat_natCast
abbrev lar:=@Nat.le_trans
abbrev las:=@List.length_take
abbrev lat:=@List.mem_map
abbrev lau:=@PySem.wpAny_seqItems
abbrev lav:=@List.drop_of_length_le
abbrev laz:=@PySem.W.mg_none_of
abbrev laA:=@decide_eq_true_eq
abbrev laB:=@List.drop_eq_getElem_cons
abbrev laC:=@List.pairwise_cons
abbrev laD:=@List.getElem_mem
abbrev laE:=@List.nil_append
abbrev laF:=@PySem.wpAny_mono
abbrev laG:=@Int.eq_ofNat_of_zero_le
abbrev laH:=@PySem.wpAny_newObj_type
abbrev laI:=@PySem.F.slot_zip_next
abbrev laJ:=@Nat.ne_of_gt
abbrev laK:=@List.map_map
abbrev laL:=@List.mem_of_getElem?
abbrev laM:=@List.getElem?_append_right
abbrev laN:=@PySem.wpAny_truthy_bool
abbrev laO:=@List.length_nil
abbrev laP:=@List.set_cons_zero
abbrev laQ:=@List.set_cons_succ
abbrev laR:=@PySem.Heap.size_push
abbrev laS:=@Array.getElem?_eq_getElem
abbrev laT:=@PySem.wpAny_tryCatch
abbrev laU:=@if_false
abbrev laV:=@List.cons_append
abbrev laW:=@List.mem_append
abbrev laX:=@PyProof.Rows.slot_tuple_getitem
abbrev laY:=@List.getElem?_nil
abbrev laZ:=@Bool.not_false
abbrev la0:=@List.length_eq_zero_iff
abbrev la1:=@PySem.F.slot_dict_keyiterator_next
abbrev la2:=@List.getElem?_append_left
abbrev la3:=@List.append_assoc
abbrev la4:=@PySem.Around.under_plainId
abbrev la5:=@List.prefix_concat_iff
abbrev la6:=@List.foldl_cons
abbrev la7:=@Nat.zero_add
abbrev la8:=@List.not_lt
abbrev la9:=@PySem.codeAny_builtin
abbrev lba:=@List.all_cons
abbrev lbb:=@Bool.not_true
abbrev lbc:=@List.map_nil
abbrev lbd:=@List.prefix_append
abbrev lbe:=@PySem.F.plain_max_loop
abbrev lbf:=@List.mem_range
abbrev lbg:=@PySem.sizeLine_eq
abbrev lbh:=@PySem.wpAny_letGo
abbrev lbi:=@List.flatten_cons
abbrev lbj:=@Nat.le_of_ble_eq_true
abbrev lbk:=@List.Perm.refl
abbrev lbl:=@PySem.wpAny_Call_Name_kw
abbrev lbm:=@List.getElem?_replicate
abbrev lbn:=@PySem.Obj.data_mapFields
abbrev lbo:=@PySem.wpAny_setField_rec
abbrev lbp:=@PySem.wpAny_attempt
abbrev lbq:=@Nat.zero_le
abbrev lbr:=@PySem.F.plainAttrs_list
abbrev lbs:=@PySem.W.mg_of
abbrev lbt:=@PySem.plainId_quiet
abbrev lbu:=@List.dropLast_prefix
abbrev lbv:=@PySem.F.entry_min_loop
abbrev lbw:=@Array.length_toList
abbrev lbx:=@if_true
abbrev lby:=@List.replicate_succ
abbrev lbz:=@PySem.F.args_zip_next_1
abbrev lbA:=@List.length_range
abbrev lbB:=@congrArg
abbrev lbC:=@List.mem_filter
abbrev lbD:=@List.nodup_cons
abbrev lbE:=@PySem.F.slot_str_ascii_iterator_next
abbrev lbF:=@List.cons_lt_cons_iff
abbrev lbG:=@PySem.wpAny_updateSeq
abbrev lbH:=@List.idxOf_lt_length_iff
abbrev lbI:=@PySem.F.entry_zip_next
abbrev lbJ:=@List.lookup_cons
abbrev lbK:=@PySem.wpAny_typeNameOfWhole_keyiter
abbrev lbL:=@List.mem_append_left
abbrev lbM:=@List.length_dropLast
abbrev lbN:=@of_decide_eq_true
abbrev lbO:=@List.nodup_append
abbrev lbP:=@Bool.not_eq_true'
abbrev lbQ:=@PySem.wpAny_loadPart_at
abbrev lbR:=@PyProof.Rows.callWith_type1
abbrev lbS:=@PySem.W.kia_one
abbrev lbT:=@List.length_pos_iff
abbrev lbU:=@List.prefix_nil
abbrev lbV:=@PyProof.Rows.get?_update_seq
abbrev lbW:=@List.map_append
abbrev lbX:=@List.take_of_length_le
abbrev lbY:=@Ne.symm
abbrev lbZ:=@PySem.F.slot_tuple_iterator_next
abbrev lb0:=@PySem.wpAny_isInstance
abbrev lb1:=@Nat.le_add_right
abbrev lb2:=@List.all_map
abbrev lb3:=@PySem.F.slot_zip_next
abbrev lb4:=@List.zip_cons_cons
abbrev lb5:=@Int.emod_lt_of_pos
abbrev lb6:=@PySem.wpAny_setField
abbrev lb7:=@List.lt_irrefl
abbrev lb8:=@List.nodup_nil
abbrev lb9:=@PySem.wpAny_passesOwn
abbrev lca:=@PySem.wpAny_pyIter_list
abbrev lcb:=@List.of_mem_zip
abbrev lcc:=@List.forIn_cons
abbrev lcd:=@Nat.lt_or_ge
abbrev lce:=@Nat.lt_irrefl
abbrev lcf:=@List.any_eq_true
abbrev lcg:=@List.forIn_nil
abbrev lch:=@List.find?_eq_none
abbrev lci:=@List.dropLast_concat_getLast
abbrev lcj:=@List.getElem_idxOf
abbrev lck:=@List.length_replicate
abbrev lcl:=@PySem.Heap.get?_update_self
abbrev lcn:=@PySem.Obj.isFreed_of_fields
abbrev lco:=@Nat.min_eq_left
abbrev lcp:=@List.idxOf_lt_length_of_mem
abbrev lcq:=@Int.emod_nonneg
abbrev lcr:=@PySem.wpAny_newList
abbrev lct:=@PySem.F.excBase_ValueError
abbrev lcu:=@List.dropLast_concat
abbrev lcv:=@PySem.isSubtype_stop
abbrev lcw:=@Classical.byContradiction
abbrev lcx:=@List.pairwise_iff_getElem
abbrev lcy:=@Nat.lt_succ_self
abbrev lcz:=@List.take_prefix
abbrev lcA:=@PySem.Heap.size_update
abbrev lcB:=@List.prefix_refl
abbrev lcC:=@PySem.W.Looks.at
abbrev lcD:=@beq_eq_false_iff_ne
abbrev lcE:=@List.filterMap_cons
abbrev lcF:=@Nat.le_succ
abbrev lcG:=@List.map_congr_left
abbrev lcH:=@PySem.F.args_tuple_add_2
abbrev lcI:=@PySem.call_meets
abbrev lcJ:=@List.Perm.eq_of_pairwise
abbrev lcK:=@PySem.wpAny_execs_nil
abbrev lcL:=@PySem.F.entry_tuple_add
abbrev lcM:=@List.any_cons
abbrev lcN:=@Array.forIn_toList
abbrev lcO:=@PySem.slot_listiter_next
abbrev lcP:=@List.prefix_iff_eq_take
abbrev lcQ:=@PySem.W.KasT.kasWp_bind
abbrev lcR:=@List.pairwise_singleton
abbrev lcS:=@List.getElem?_set_self
abbrev lcT:=@PySem.W.cellsFrom_some
abbrev lcU:=@PySem.F.slot_tuple_add
abbrev lcV:=@Array.getElem?_eq_none
abbrev lcW:=@List.not_of_lt_findIdx
abbrev lcX:=@PySem.F.entry_max_loop
abbrev lcY:=@PySem.Obj.cls_mapFields
abbrev lcZ:=@PySem.wpAny_rule
abbrev lc0:=@PySem.wpAny_of_eq
abbrev lc1:=@List.foldl_append
abbrev lc2:=@PySem.Heap.get?_push_ne
abbrev lc3:=@List.drop_zero
abbrev lc4:=@PySem.boot_len
abbrev lc5:=@PySem.codeAny_mono
abbrev lc6:=@List.length_singleton
abbrev lc7:=@PySem.F.typeOf_object_class
abbrev lc8:=@Nat.succ.inj
abbrev lc9:=@Nat.succ_pos
abbrev lda:=@PySem.wpAny_execs_cons
abbrev ldb:=@List.length_drop
abbrev ldd:=@List.all_toArray
abbrev lde:=@List.mem_flatMap
abbrev ldf:=@List.le_antisymm
abbrev ldg:=@PySem.Calls.evalArgs_plain
abbrev ldh:=@PySem.wpAny_updateSeq_pair
abbrev ldi:=@List.mem_iff_getElem
abbrev ldj:=@PySem.W.looks_findIn
abbrev ldk:=@PyProof.Rows.listUpdate_at
abbrev ldl:=@List.le_of_lt
abbrev ldm:=@PyProof.Rows.size_push'
abbrev ldo:=@PySem.W.hideAll_get
abbrev ldp:=@List.nil_prefix
abbrev ldq:=@PySem.W.looks_subIn
abbrev ldr:=@Array.append_assoc
abbrev lds:=@Nat.le_of_lt
abbrev ldt:=@PySem.wpAny_pyIter_tuple
abbrev ldu:=@List.mem_filterMap
abbrev ldv:=@PySem.W.callWith_K
abbrev ldw:=@PySem.wpAny_typeOf
abbrev ldx:=@Nat.lt_trans
abbrev ldy:=@List.lookup_append
abbrev ldz:=@of_decide_eq_false
abbrev ldA:=@PyProof.Rows.listItems_at
abbrev ldB:=@PySem.wpAny_newTuple
abbrev ldD:=@beq_iff_eq
abbrev ldE:=@Array.size_append
abbrev ldF:=@List.flatMap_cons
abbrev ldH:=@Nat.lt_succ_of_lt
abbrev ldJ:=@List.take_add_one
abbrev ldL:=@PySem.wpAny_dictEntries
abbrev ldM:=@Nat.le_of_lt_succ
abbrev ldN:=@PyProof.Rows.boot_tuple
abbrev ldO:=@PySem.wpAny_handled
abbrev ldP:=@PySem.wpAny_onRaise
abbrev ldQ:=@List.lt_trans
abbrev ldR:=@PySem.noFill_tuple_add
abbrev ldS:=@Nat.min_le_right
abbrev ldT:=@List.mem_nil_iff
abbrev ldU:=@Nat.min_eq_right
abbrev ldV:=@List.ext_getElem
abbrev ldW:=@decide_eq_decide
abbrev ldX:=@PySem.concat_meets
abbrev ldY:=@Option.map_some
abbrev ldZ:=@Bool.eq_iff_iff
abbrev ld0:=@List.any_map
abbrev ld1:=@Bool.or_eq_true
abbrev ld2:=@Nat.le_antisymm
abbrev ld3:=@Nat.sub_zero
abbrev ld6:=@List.cons.injEq
abbrev ld7:=@List.take_zero
abbrev ld8:=@Nat.mul_le_mul
abbrev lee:=@List.le_trans
namespace L2
open PySem PySem.Spec PyProof.Rows
variable {us:List Value}{x:Str}{u:Value}{a b:Addr}{P:Program}{w:World}{h:Heap}{o:Obj}{g':Array GenState}{t' i j k:Nat}{ch fp:List Addr}{e c tg:Expr}{N ps:List Str}{M:Model}{E:qQ2}{Q:Unit->Shared->Prop}{s:Shared}{pos:Pos}{pins:List (Addr×Obj)}{op:CmpOp}{f:Value->Value->Sem Value}{es:List Expr}{body:List Stmt}{mg:qQ3}{fd:FuncData}{outer:List Env}{scope:Scope}
abbrev Key:=Sum Int Str
def zgB:Key->Value->Bool
 | .inl k,v=>Value.isInt k v
 | .inr x,v=>Value.isStrOf x v
def zp1 (w:World):Key->Int
 | .inl k=>hashInt k
 | .inr x=>hashStr w x
theorem yO:∀{k:Key}{v:Value},zgB k v=true->(∃i t,k=Sum.inl i/\v=Value.int i t)∨(∃x t,k=Sum.inr x/\v=Value.str x t)
 | .inl i,v,h=>by
  obtain⟨t,e⟩:=Value.isInt_shape (k:=i) (v:=v) h
  exact .inl ⟨i,t,rfl,e⟩
 | .inr x,v,h=>by
  obtain⟨t,e⟩:=Value.isStrOf_shape (x:=x) (v:=v) h
  exact .inr ⟨x,t,rfl,e⟩
theorem zg2 (i:Int)(t:Tok):zgB (.inl i) (.int i t)=true:=by simp[zgB,Value.isInt]
theorem zhm (x:Str)(t:Tok):zgB (.inr x) (.str x t)=true:=by simp[zgB,Value.isStrOf]
theorem zmP (a b:Int):decide ((Sum.inl a:Key)=Sum.inl b)=(a == b):=by
 by_cases e:a=b
 ·subst e;simp
 ·have h:¬(Sum.inl a:Key)=Sum.inl b:=λq=>e (Sum.inl.inj q)
  rw[laa h]
  exact(lcD.mpr e).symm
theorem zmL (a b:Str):decide ((Sum.inr a:Key)=Sum.inr b)=decide (a=b):=by
 by_cases e:a=b
 ·subst e;simp
 ·have h:¬(Sum.inr a:Key)=Sum.inr b:=λq=>e (Sum.inr.inj q)
  rw[laa h,laa e]
theorem zns (a:Int)(b:Str):decide ((Sum.inl a:Key)=Sum.inr b)=false:=laa (λq=>nomatch q)
theorem zoc (a:Str)(b:Int):decide ((Sum.inr a:Key)=Sum.inl b)=false:=laa (λq=>nomatch q)
def vA (prog:Program)(w:World):PySem.KeyKind prog w Key where
 is:=zgB
 hash:=zp1 w
 inj:=λv a b ha hb=>by
  rcases yO ha with⟨i,t,rfl,rfl⟩|⟨x,t,rfl,rfl⟩
  ·rcases yO hb with⟨j,u,rfl,e⟩|⟨y,u,rfl,e⟩
   ·injection e with e1 _;rw[e1]
   ·exact nomatch e
  ·rcases yO hb with⟨j,u,rfl,e⟩|⟨y,u,rfl,e⟩
   ·exact nomatch e
   ·injection e with e1 _;rw[e1]
 byValue:=λk v h=>by
  rcases yO h with⟨i,t,rfl,rfl⟩|⟨x,t,rfl,rfl⟩ <;>rfl
 pyHash:=λhv h=>by
  rcases yO hv with⟨i,t,rfl,rfl⟩|⟨x,t,rfl,rfl⟩
  ·exact wpAny_pyHash_int h
  ·exact wpAny_pyHash_str h
 eqBool:=λhu hv h=>by
  rcases yO hu with⟨i,t,rfl,rfl⟩|⟨x,t,rfl,rfl⟩
  ·rcases yO hv with⟨j,u,rfl,rfl⟩|⟨y,u,rfl,rfl⟩
   ·rw[zmP] at h;exact wpAny_eqBool_int h
   ·rw[zns] at h;exact SeqAt.EqAt.int_str i t y u _ _ _ _ h
  ·rcases yO hv with⟨j,u,rfl,rfl⟩|⟨y,u,rfl,rfl⟩
   ·rw[zoc] at h;exact SeqAt.EqAt.str_int x t j u _ _ _ _ h
   ·rw[zmL] at h;exact wpAny_eqBool_str h
 «strs»:=λk x t v h=>by
  rcases yO h with⟨i,u,rfl,e⟩|⟨y,u,rfl,e⟩
  ·exact nomatch e
  ·injection e with e1 _
   subst e1
   cases v <;>rfl
theorem ze5 (prog:Program)(w:World)(i:Int)(t:Tok):(vA prog w).is (.inl i) (.int i t)=true:=zg2 i t
theorem zfc (prog:Program)(w:World)(x:Str)(t:Tok):(vA prog w).is (.inr x) (.str x t)=true:=zhm x t
inductive V where
 | non|bl (b:Bool)|int (i:Int)|str (x:Str)|byt (b:Array UInt8)|flt (b:UInt64)|ref (a:Addr)|ty (n:String)
 deriving DecidableEq
variable {v:V}
def RelV:V->Value->Prop
 | .non,u=>u=Value.none
 | .bl b,u=>u=Value.bool b
 | .int i,u=>∃t,u=Value.int i t
 | .str x,u=>∃t,u=Value.str x t
 | .byt b,u=>∃t,u=Value.bytes b t
 | .flt b,u=>∃t,u=Value.float b t
 | .ref a,u=>u=Value.ref a
 | .ty n,u=>u=Value.type n
abbrev Vals:List V->List Value->Prop:=Paired RelV
theorem Vals.length {xs:List V}(r:Vals xs us):xs.length=us.length:=Paired.length r
theorem Vals.get:∀{xs:List V}{us:List Value}{i:Nat}{x:V},Vals xs us->xs[i]? = some x->∃u,us[i]? = some u/\RelV x u
 | _,_,_,_,.nil,e=>by simp at e
 | _,_,0,_,.cons r _,e=>by simp at e;subst e;exact⟨_,rfl,r⟩
 | _,_,i+1,x,.cons _ t,e=>by
  obtain⟨u,h1,h2⟩:=Vals.get (i:=i) (x:=x) t (by simpa using e)
  exact⟨u,by simpa using h1,h2⟩
theorem Vals.set {x:V}(r:RelV x u):∀{xs:List V}{us:List Value} (i:Nat),Vals xs us->Vals (xs.set i x) (us.set i u)
 | _,_,_,.nil=>.nil
 | _,_,0,.cons _ t=>.cons r t
 | _,_,i+1,.cons q t=>.cons q (Vals.set r i t)
theorem Vals.append:∀{xs ys:List V}{us ws:List Value},Vals xs us->Vals ys ws->Vals (xs++ys) (us++ws):=by
 intro xs ys us ws h k
 induction h with
 | nil=>exact k
 | cons r t ih=>exact .cons r ih
theorem Vals.take:∀{xs:List V}{us:List Value} (n:Nat),Vals xs us->Vals (xs.take n) (us.take n)
 | _,_,0,_=>.nil
 | _,_,_+1,.nil=>.nil
 | _,_,n+1,.cons r t=>.cons r (Vals.take n t)
theorem Vals.drop:∀{xs:List V}{us:List Value} (n:Nat),Vals xs us->Vals (xs.drop n) (us.drop n)
 | _,_,0,r=>r
 | _,_,_+1,.nil=>.nil
 | _,_,n+1,.cons _ t=>Vals.drop n t
def RelO:Option V->Option Value->Prop
 | some v,some u=>RelV v u
 | none,none=>True
 | _,_=>False
def KV {κ:Type}:List (κ×V)->List (κ×Value)->Prop:=Paired λ(p:κ×V) (q:κ×Value)=>p.1=q.1/\RelV p.2 q.2
def kV:Key->V
 | .inl i=>.int i
 | .inr x=>.str x
inductive HO where
 /-- a list -/
 | lst (xs:List V)
 /-- a tuple (never changes) -/
 | tup (xs:List V)
 /-- a dict whose keys are ints and texts; one whose keys are tuples of ints and texts (the empty one is both) -/
 | dK (kvs:List (Key×V))|dT (kvs:List (List Key×V))|dR (kvs:List (List Key×Addr))|cod (q:Str)|lam (q:Str)
 /-- a set of ints: its members, its size -/
 | set (S:Int->Bool) (n:Nat)
 /-- an instance of the class at C, its dict at dx, its attributes -/
 | ins (C dx:Addr) (fs:List (Str×V))
 /-- the dict of the instance at x -/
 | own (x:Addr)
 /-- the dict of an exception -/
 | xd (fs:List (Str×V))
 /-- a bound method, f of x -/
 | met (f x:Addr)
 /-- a range object lo, lo + 1, .. below hi -/
 | rng (lo hi:Int)
 /-- a thing that is known to the object (the script; a dict while a loop walks it): read, never written while it is so -/
 | frz (o:Obj) (u:HO)
 /-- a code object's table -/
 | tbl (ps:Array Value)
 /-- any other thing, by what is true of its one object (a def of one's own: zpR a S n := HO.ext λh => ..) -/
 | ext (φ:Heap->Prop)
abbrev Hp:=Addr->Option HO
variable {H:Hp}
def upd (H:Hp)(a:Addr)(o:HO):Hp:=λb=>if b=a then some o else H b
theorem zV {o:HO}:upd H a o a=some o:=by unfold upd;rw[lU rfl]
theorem zO {o:HO}(h:b≠a):upd H a o b=H b:=by unfold upd;rw[lac h]
theorem yw {o:HO}(h:H a=some o)(h':H b=none):a≠b:=by
 intro e;subst e;rw[h] at h';cases h'
def TupD (h:Heap)(a:Addr)(items:Array Value):Prop:=∃o,h.get? a=some o/\o.cls=.type "tuple" /\ (∃n,o.data=.seq items n)/\o.dict=none
theorem TupD.tup {h:Heap}{a:Addr}{items:Array Value}(x:TupD h a items):IsTup h a items:=let ⟨o,e,c,d,_⟩:=x;⟨o,e,c,d⟩
theorem TupD.new (h:Heap)(items:Array Value):TupD (h.push {cls:=.type "tuple", data:=.seq items}) h.objs.size items:=⟨_,lC _ rfl,rfl,⟨_,rfl⟩,rfl⟩
section
variable (P:Program)(w:World)
def ObjOk (H:Hp)(h:Heap)(a:Addr):HO->Prop
 | .lst xs=>xs.length<=sizeLine/\∃(its:List Value) (n:Nat),Vals xs its/\h.get? a=some {cls:=.type "list", data:=.seq its.toArray n}
 | .tup xs=>xs.length<=sizeLine/\∃its:List Value,Vals xs its/\TupD h a its.toArray
 | .dK kvs=>kvs.length<=sizeLine/\(a == sysModules)=false/\∃vs,KV kvs vs/\h.DictOf (vA P w) a vs
 | .dT kvs=>kvs.length<=sizeLine/\(a == sysModules)=false/\∃xs:List (List Key×Addr×Value),
   Paired (λ(p:List Key×V) (q:List Key×Addr×Value)=>p.1=q.1/\H q.2.1=some (.tup (p.1.map kV))/\RelV p.2 q.2.2) kvs xs /\
   ∃o es ep,h.get? a=some o/\o.ExactDict/\o.data=.dict es ep/\es.toList=xs.map (entryOfKey (tupleKind (vA P w)))/\(xs.map (·.1)).Nodup
 | .dR kvs=>kvs.length<=sizeLine/\(a == sysModules)=false/\∃o es ep,h.get? a=some o/\o.ExactDict/\o.data=.dict es ep/\es.toList=kvs.map (λq=>entryOfKey (tupleKind (vA P w)) (q.1,q.2,Value.bool true))/\(kvs.map (·.1)).Nodup
 | .cod q=>h.CodeRec (.ref a) q
 | .lam q=>∃qs:Array Value,h.get? a=some {cls:=.none,data:=.fields qs}/\TriplesOk qs.toList/\∀pos cv,codeAmong pos qs.toList=some cv->∃c,cv=.ref c/\H c=some (.cod q)
 | .set S n=>h.SetOf (intKind P w) a S n
 | .ins C dx fs=>H dx=some (.own a)/\fs.length<=1000/\dx≠a/\h.get? a=some (PySem.W.instObj C dx) /\
   ∃mA,h.Ns1 dx mA/\(∀f,RelO (fs.lookup f) (mA f))/\PySem.Within mA (fs.map (·.1))
 | .own _=>∃o,h.get? a=some o
 | .xd fs=>∃mA,h.Ns1 a mA/\∀f,RelO (fs.lookup f) (mA f)
 | .rng lo hi=>∃t u v,h.get? a=some {cls:=.type "range", data:=.fields #[.int lo t,.int hi u,.int 1 v]}
 | .frz o u=>h.get? a=some o/\ObjOk H h a u
 | .tbl ps=>h.get? a=some {cls:=.none,data:=.fields ps}
 | .met f x=>h.get? a=some (PySem.W.methodObj (.ref f) (.ref x))
 | .ext φ=>φ h/\(∃o,h.get? a=some o)/\∀h1 h2:Heap,φ h1->(∀o,h1.get? a=some o->h2.get? a=some o)->φ h2
def HOk (H:Hp)(h:Heap):Prop:=∀a o,H a=some o->ObjOk P w H h a o
end
section
variable {P:Program}{w:World}{H H':Hp}{h h':Heap}{a:Addr}{o:HO}
theorem ObjOk.lt (x:ObjOk P w H h a o):a<h.objs.size:=by
 cases o with
 | lst xs=>obtain⟨_,_,_,_,e⟩:=x;exact lE e
 | tup xs=>obtain⟨_,_,_,p⟩:=x;exact p.tup.lt
 | dK kvs=>obtain⟨_,_,_,_,o,_,_,e,_⟩:=x;exact lE e
 | dT kvs=>obtain⟨_,_,_,_,o,_,_,e,_⟩:=x;exact lE e
 | dR kvs=>obtain⟨_,_,o,_,_,e,_⟩:=x;exact lE e
 | cod q=>obtain⟨_,_,_,_,z,e,_⟩:=x;cases z;exact lE e
 | lam q=>obtain⟨_,e,_⟩:=x;exact lE e
 | set S n=>obtain⟨o,_,_,_,e,_⟩:=x;exact lE e
 | ins C dx fs=>obtain⟨_,_,_,e,_⟩:=x;exact lE e
 | own y=>obtain⟨_,e⟩:=x;exact lE e
 | xd fs=>obtain⟨_,⟨_,_,_,e,_⟩,_⟩:=x;exact lE e
 | rng lo hi=>obtain⟨_,_,_,e⟩:=x;exact lE e
 | frz ob u=>obtain⟨e,_⟩:=x;exact lE e
 | tbl ps=>exact lE (show h.get? a=some _ from x)
 | met f y=>exact lE (show h.get? a=some _ from x)
 | ext φ=>obtain⟨_,⟨_,e⟩,_⟩:=x;exact lE e
theorem Paired.mapP {α β:Type}{F G:α->β->Prop}:∀{l₁:List α}{l₂:List β},Paired F l₁ l₂->(∀a b,F a b->G a b)->Paired G l₁ l₂
 | _,_,.nil,_=>.nil
 | _,_,.cons r t,f=>.cons (f _ _ r) (Paired.mapP t f)
def HO.st:List V ⊕ (Str ⊕ Str)->HO
 | .inl xs=>.tup xs
 | .inr (.inl q)=>.cod q
 | .inr (.inr q)=>.lam q
theorem ObjOk.stay (x:ObjOk P w H h a o)(k:∀b u,(b=a∨H b=some (.own a))->h.get? b=some u->h'.get? b=some u)
  (ho:∀b,H b=some (.own a)->H' b=some (.own a)) (ht:∀b xs,H b=some (HO.st xs)->H' b=some (HO.st xs)):ObjOk P w H' h' a o:=by
 induction o with
 | lst xs=>obtain⟨z,its,n,r,e⟩:=x;exact⟨z,its,n,r,k _ _ (.inl rfl) e⟩
 | tup xs=>obtain⟨z,its,r,ob,e,c⟩:=x;exact⟨z,its,r,ob,k _ _ (.inl rfl) e,c⟩
 | dK kvs=>obtain⟨z,y,vs,r,ob,es,ep,e,c⟩:=x;exact⟨z,y,vs,r,ob,es,ep,k _ _ (.inl rfl) e,c⟩
 | dT kvs =>
  obtain⟨z,y,xs,r,ob,es,ep,e,c⟩:=x
  exact⟨z,y,xs,Paired.mapP r λp q z=>⟨z.1,ht _ (.inl _) z.2.1,z.2.2⟩,ob,es,ep,k _ _ (.inl rfl) e,c⟩
 | dR kvs=>obtain⟨z,y,ob,es,ep,e,c⟩:=x;exact⟨z,y,ob,es,ep,k _ _ (.inl rfl) e,c⟩
 | cod q=>obtain⟨c,oc,vs,t,z,e,r⟩:=x;cases z;exact⟨_,oc,vs,t,rfl,k _ _ (.inl rfl) e,r⟩
 | lam q =>
  obtain⟨qs,e,t,c⟩:=x
  refine⟨qs,k _ _ (.inl rfl) e,t,λpos cv z=>?_⟩
  obtain⟨d,e1,e2⟩:=c pos cv z
  exact⟨d,e1,ht _ (.inr (.inl q)) e2⟩
 | set S n=>obtain⟨ob,es,ep,t,e,c⟩:=x;exact⟨ob,es,ep,t,k _ _ (.inl rfl) e,c⟩
 | ins C dx fs =>
  obtain⟨d,z,ne,e,mA,⟨od,es,ep,e2,c⟩,r⟩:=x
  exact⟨ho _ d,z,ne,k _ _ (.inl rfl) e,mA,⟨od,es,ep,k _ _ (.inr d) e2,c⟩,r⟩
 | own y=>obtain⟨ob,e⟩:=x;exact⟨ob,k _ _ (.inl rfl) e⟩
 | xd fs=>obtain⟨mA,⟨od,es,ep,e,c⟩,r⟩:=x;exact⟨mA,⟨od,es,ep,k _ _ (.inl rfl) e,c⟩,r⟩
 | rng lo hi=>obtain⟨t,u,v,e⟩:=x;exact⟨t,u,v,k _ _ (.inl rfl) e⟩
 | frz ob u ih=>obtain⟨e,q⟩:=x;exact⟨k _ _ (.inl rfl) e,ih q⟩
 | tbl ps =>
  have e:h.get? a=some {cls:=.none,data:=.fields ps}:=x
  show h'.get? a=some {cls:=.none,data:=.fields ps}
  exact k a _ (.inl rfl) e
 | met f y =>
  have e:h.get? a=some (PySem.W.methodObj (.ref f) (.ref y)):=x
  show h'.get? a=some (PySem.W.methodObj (.ref f) (.ref y))
  exact k a _ (.inl rfl) e
 | ext φ=>obtain⟨p,⟨o,e⟩,st⟩:=x;exact⟨st _ _ p λo q=>k _ _ (.inl rfl) q,⟨o,k _ _ (.inl rfl) e⟩,st⟩
theorem HOk.lt (x:HOk P w H h)(e:H a=some o):a<h.objs.size:=(x a o e).lt
theorem HOk.fresh (x:HOk P w H h)(e:h.objs.size<=a):H a=none:=by
 cases q:H a with
 | none=>rfl
 | some u=>exact absurd (lK (x.lt q) e) (lce _)
theorem HOk.kept (x:HOk P w H h)(k:∀b u,h.get? b=some u->h'.get? b=some u):HOk P w H h':=λa o e =>
 (x a o e).stay (λb u _ q=>k b u q) (λ_ q=>q) λ_ _ q=>q
theorem HOk.laid (x:HOk P w H h)(k:∀b u,h.get? b=some u->h'.get? b=some u)(hp:h.objs.size<=a)(new:ObjOk P w (upd H a o) h' a o):HOk P w (upd H a o) h':=λb u e=>by
 have hn:=x.fresh hp
 by_cases hb:b=a
 ·subst hb;rw[zV] at e;cases e;exact new
 ·rw[zO hb] at e
  exact(x b u e).stay (λc v _ q=>k c v q) (λc q=>by rw[zO (yw q hn)];exact q) λc xs q=>by rw[zO (yw q hn)];exact q
end
def Rd (H:Hp)(a:Addr)(u:HO):Prop:=H a=some u∨∃o,H a=some (.frz o u)
theorem Rd.ok {u:HO}(r:Rd H a u)(x:HOk P w H h):ObjOk P w H h a u:=by
 rcases r with r|⟨o,r⟩
 ·exact x a u r
 ·obtain⟨_,q⟩:=x a _ r
  exact q
def Mut:Option HO->Prop
 | some (.lst _)=>True
 | some (.dK _)=>True
 | some (.dT _)=>True
 | some (.dR _)=>True
 | some (.set _ _)=>True
 | some (.ins _ _ _)=>True
 | some (.ext _)=>True
 | _=>False
section
variable {P:Program}{w:World}{H:Hp}{h h':Heap}{x e:Addr}{o':HO}
theorem HOk.write (ok:HOk P w H h)(mu:Mut (H x))(he:e=x∨H e=some (.own x))(k:∀b u,b≠e->h.get? b=some u->h'.get? b=some u)(heo:∃u,h'.get? e=some u)
  (new:ObjOk P w (upd H x o') h' x o'):HOk P w (upd H x o') h':=λb u q=>by
 have nown:∀c y,H c=some (.own y)->c≠x:=λc y r z=>by subst z;rw[r] at mu;exact mu
 have ntup:∀c xs,H c=some (HO.st xs)->c≠x:=λc xs r z=>by subst z;rw[r] at mu;rcases xs with xs|q|q <;>exact mu
 by_cases hb:b=x
 ·subst hb;rw[zV] at q;cases q;exact new
 ·rw [zO hb] at q
  by_cases hbe:b=e
  ·have q':H b=some (.own x):=by
    rcases he with z|z
    ·exact absurd (hbe.trans z) hb
    ·rw[hbe];exact z
   rw[q] at q';cases q'
   obtain⟨v,hv⟩:=heo
   exact⟨v,by rw[hbe];exact hv⟩
  ·refine (ok b u q).stay (λc v hc r=>k c v ?_ r) (λc r=>by rw[zO (nown c b r)];exact r) λc xs r=>by rw[zO (ntup c xs r)];exact r
   rcases hc with rfl|hc
   ·exact hbe
   ·rintro rfl
    rcases he with z|z
    ·exact nown c b hc z
    ·rw[hc] at z;cases z;exact hb rfl
end
structure Un (fs ex:List Addr)(H H':Hp)(h h':Heap):Prop where
 keep:∀b o,h.get? b=some o->H b=none->b∉fs->b∉ex->h'.get? b=some o
 slot:∀b o,h.get? b=some o->H b=none->b∈fs->b∉ex->∃sl,h'.get? b=some {o with slots:=sl}
 free:∀b o,h.get? b=some o->H b=none->b∉ex->H' b=none
 there:∀b o,h.get? b=some o->b∉ex->∃o',h'.get? b=some o'
 tups:∀b xs,H b=some (HO.st xs)->H' b=some (HO.st xs)
 frzs:∀b o u,H b=some (.frz o u)->H' b=some (.frz o u)
 tbls:∀b ps,H b=some (.tbl ps)->∃more,H' b=some (.tbl (ps++more))
section
variable {fs fs' ex ex':List Addr}{H H1 H2:Hp}{h h1 h2 h':Heap}{a x e:Addr}{o:HO}
theorem Un.any (u:Un fs ex H H1 h h1){ob:Obj}(q:h.get? b=some ob)(n:H b=none)(hx:b∉ex):∃sl,h1.get? b=some {ob with slots:=sl}:=by
 by_cases hb:b∈fs
 ·exact u.slot b ob q n hb hx
 ·exact⟨ob.slots,u.keep b ob q n hb hx⟩
theorem Un.trans (a:Un fs ex H H1 h h1)(b:Un fs ex H1 H2 h1 h2):Un fs ex H H2 h h2 where
 keep:=λc ob q n hc hx=>b.keep c ob (a.keep c ob q n hc hx) (a.free c ob q n hx) hc hx
 slot:=λc ob q n hc hx=>by
  obtain⟨sl,e1⟩:=a.slot c ob q n hc hx
  obtain⟨sl',e2⟩:=b.slot c _ e1 (a.free c ob q n hx) hc hx
  exact⟨sl',e2⟩
 free:=λc ob q n hx=>by
  obtain⟨o',e1⟩:=a.there c ob q hx
  exact b.free c o' e1 (a.free c ob q n hx) hx
 there:=λc ob q hx=>by
  obtain⟨o',e1⟩:=a.there c ob q hx
  exact b.there c o' e1 hx
 tups:=λc xs q=>b.tups c xs (a.tups c xs q)
 frzs:=λc ob xs q=>b.frzs c ob xs (a.frzs c ob xs q)
 tbls:=λc ps q=>by
  obtain⟨m1,e1⟩:=a.tbls c ps q
  obtain⟨m2,e2⟩:=b.tbls c _ e1
  exact⟨m1++m2,by rw[e2,ldr]⟩
theorem Un.kept (k:∀b u,h.get? b=some u->h'.get? b=some u):Un fs ex H H h h' :=
 ⟨λb ob q _ _ _=>k b ob q,λb ob q _ _ _=>⟨ob.slots,k b ob q⟩,λ_ _ _ n _=>n,λb ob q _=>⟨ob,k b ob q⟩,λ_ _ q=>q,λ_ _ _ q=>q,λ_ ps q=>⟨#[],by rw[q];simp⟩⟩
theorem Un.refl:Un fs ex H H h h:=Un.kept λ_ _ q=>q
theorem Un.laid (k:∀b u,h.get? b=some u->h'.get? b=some u)(hp:h.objs.size<=a)(hn:H a=none):Un fs ex H (upd H a o) h h' where
 keep:=λb u q _ _ _=>k b u q
 slot:=λb u q _ _ _=>⟨u.slots,k b u q⟩
 free:=λb u q n _=>by rw[zO (lab (lK (lE q) hp))];exact n
 there:=λb u q _=>⟨u,k b u q⟩
 tups:=λb xs q=>by rw[zO (yw q hn)];exact q
 frzs:=λb u xs q=>by rw[zO (yw q hn)];exact q
 tbls:=λb ps q=>⟨#[],by rw[zO (yw q hn),q];simp⟩
theorem Un.write (mu:Mut (H x))(he:e=x∨H e=some (.own x))(k:∀b u,b≠e->h.get? b=some u->h'.get? b=some u)(heo:∃u,h'.get? e=some u):Un fs ex H (upd H x o) h h':=by
 have hx:∀b,H b=none->b≠x:=λb n z=>by subst z;rw[n] at mu;exact mu
 have hb:∀b,H b=none->b≠e:=λb n z=>by
  subst z
  rcases he with r|r
  ·exact hx b n r
  ·rw[n] at r;cases r
 have hm:∀b u,H b=some u->¬Mut (some u)->b≠x:=λb u q nm z=>by subst z;rw[q] at mu;exact nm mu
 refine ⟨λb u q n _ _=>k b u (hb b n) q,λb u q n _ _=>⟨u.slots,k b u (hb b n) q⟩,λb u q n _=>by rw[zO (hx b n)];exact n,λb u q _=>?_,
  λb xs q=>by rw[zO (hm b _ q (by rcases xs with xs|c|c <;>exact λz=>z))];exact q,λb u xs q=>by rw[zO (hm b _ q λz=>z)];exact q,λb ps q=>⟨#[],by rw[zO (hm b _ q λz=>z),q];simp⟩⟩
 by_cases hbe:b=e
 ·subst hbe;exact heo
 ·exact⟨u,k b u hbe q⟩
theorem Un.mono (u:Un fs ex H H1 h h1)(hs:∀b∈fs,b∈fs')(hx:∀b∈ex,b∈ex'):Un fs' ex' H H1 h h1 :=
 ⟨λb ob q n hb he=>u.keep b ob q n (λz=>hb (hs b z)) λz=>he (hx b z),λ_ _ q n _ he=>u.any q n λz=>he (hx _ z),λb ob q n he=>u.free b ob q n λz=>he (hx b z),λb ob q he=>u.there b ob q λz=>he (hx b z),u.tups,u.frzs,u.tbls⟩
end
def trk (h:Heap)(H:Hp):List Addr:=(List.range h.objs.size).filter λa=>(H a).isSome
def ziS (h:Heap)(H:Hp):Heap:=PySem.W.hideAll h (trk h H)
theorem zg7 (h:Heap)(H:Hp):(ziS h H).objs.size=h.objs.size:=PySem.W.hideAll_size _ _
theorem zjf (e:h.get? b=some o)(n:H b=none):(ziS h H).get? b=some o :=
 ldo _ e λhm=>by
  have q:(H b).isSome=true:=(lbC.mp hm).2
  rw[n] at q;simp at q
theorem zlt (e:(ziS h H).get? b=some o):h.get? b=some o/\H b=none:=by
 have e':h.get? b=some o:=PySem.W.of_hideAll (trk h H) e
 refine⟨e',?_⟩
 cases q:H b with
 | none=>rfl
 | some x =>
  have hm:b∈trk h H:=lbC.mpr ⟨lbf.mpr (lE e'),by simp[q]⟩
  have z:(ziS h H).get? b=none:=PySem.W.hideAll_none (trk h H) hm
  rw[z] at e;cases e
def zmd (g h:Heap)(L:Addr):List (Addr×Obj):=(List.range h.objs.size).filterMap λa=>if a=L∨(g.get? a).isSome=true then none else(h.get? a).map λo=>(a,o)
def rest (g h:Heap)(L d:Addr):List (Addr×Obj):=(zmd g h L).filter λp=>decide (p.1≠d)
structure Mod (K:qQ0)(mg:qQ3)(base:Heap):Prop where
 kin:K.In base
 glob:base.Ns mainGlobals mg
 blt:∃mb,base.Ns builtinsNs mb/\∀x:Str,x ≠ "__name__" -> mb x=bootBuiltins x
 nolimit:base.NoLimit
structure Cx where
 prog:Program
 w:World
 K:qQ0
 mg:qQ3
 base:Heap
 A:Around
 N:List Str
 s₀:Shared
 H₀:Hp
 env:Env
 outer:List Env
 stack:List Env
 ex:List Addr
 fn:Str->Bool
 calm:Bool
 pn:List (Addr×Obj)
 xe:qQ2
def frs (l:List Env):List Addr:=l.filterMap (·.frame)
abbrev Cx.fs (X:Cx):List Addr:=frs X.outer
def Vis (sc:Scope)(x:Str):Prop:=sc.names.lookup x=some .local∨sc.names.lookup x=some .cell∨sc.names.lookup x=some .free
def Loc (sc:Scope)(x:Str):Prop:=sc.names.lookup x=some .local∨sc.names.lookup x=some .cell
def Look (env:Env)(h:Heap)(m:qQ3)(x:Str)(u:Value):Prop :=
 (env.kindOf x=some .local/\m x=some u)∨((env.kindOf x=some .cell∨env.kindOf x=some .free)/\∃c,env.cells.lookup x=some c/\h.IsCell c (some u))
structure Cx.Ok (X:Cx):Prop where
 mod:Mod X.K X.mg X.base
 kind:X.env.scope.kind=.function
 glob:X.env.globals=mainGlobals
 blt:X.env.builtins=builtinsNs
 above:X.s₀.heap.objs.size<=X.env.locals
 inj:∀x y c,X.env.cells.lookup x=some c->X.env.cells.lookup y=some c->x=y
 has:∀x,(X.env.kindOf x=some .cell∨X.env.kindOf x=some .free)->∃c,X.env.cells.lookup x=some c
 cab:∀x c,X.fn x=true->X.env.cells.lookup x=some c->X.s₀.heap.objs.size<=c
 hd:X.calm=true->X.A.handled=none
 frames:X.A.frames=some X.stack
 stk:X.stack=X.outer∨(X.stack=X.env::X.outer/\X.env.frame=some X.env.locals)
 exf:∀b∈X.ex,b≠X.env.locals/\∀x c,X.env.cells.lookup x=some c->c≠b
 bs:∀b o,X.base.get? b=some o->X.s₀.heap.get? b=some o/\X.H₀ b=none
 bsz:X.base.objs.size<=X.s₀.heap.objs.size
 noex:∀b o,X.base.get? b=some o->b∉X.ex
 exfs:∀b∈X.ex,b∉X.fs
 funs:X.s₀.heap.FunFrames X.base X.outer
 frf:∀b∈X.fs,X.H₀ b=none
structure Inv (X:Cx)(pins:List (Addr×Obj))(σ:List (Option V))(H:Hp)(s:Shared):Prop where
 ok:X.Ok
 os:s.os=X.s₀.os
 bare:AllBare s.gens
 base:Un X.fs X.ex X.H₀ H X.s₀.heap s.heap
 loc:∃m,s.heap.Ns X.env.locals m/\∀(i:Nat) (x:Str) (v:V),X.N[i]? = some x->σ[i]? = some (some v)->Vis X.env.scope x->∃u,RelV v u/\Look X.env s.heap m x u
 cell:∀x c,X.env.cells.lookup x=some c->∃v,s.heap.IsCell c v
 free:H X.env.locals=none
 freeC:∀x c,X.env.cells.lookup x=some c->H c=none
 pin:∀p∈X.pn++pins,s.heap.get? p.1=some p.2/\H p.1=none/\p.1≠X.env.locals/\p.1∉X.fs/\∀v,p.2.data≠.cell v
 hok:HOk X.prog X.w H s.heap
 len:σ.length=X.N.length
section
variable {X:Cx}{pins:List (Addr×Obj)}{σ:List (Option V)}{H H':Hp}{s:Shared}{h':Heap}
theorem Cx.Ok.nofr (ok:X.Ok)(e:X.base.get? b=some o):b∉X.fs:=λhb=>by
 have:=(ok.funs.mem hb).1
 rw[e] at this;cases this
theorem Inv.bs (I:Inv X pins σ H s):∀b o,X.base.get? b=some o->s.heap.get? b=some o/\H b=none:=λb o e =>
 ⟨I.base.keep b o (I.ok.bs b o e).1 (I.ok.bs b o e).2 (I.ok.nofr e) (I.ok.noex b o e),I.base.free b o (I.ok.bs b o e).1 (I.ok.bs b o e).2 (I.ok.noex b o e)⟩
theorem Inv.bk (I:Inv X pins σ H s):∀b o,X.base.get? b=some o->s.heap.get? b=some o:=λb o e=>(I.bs b o e).1
theorem Inv.mod (I:Inv X pins σ H s):Mod X.K X.mg X.base:=I.ok.mod
theorem Inv.kIn (I:Inv X pins σ H s):X.K.In s.heap:=I.ok.mod.kin.keeps I.bk
theorem Inv.nolimit (I:Inv X pins σ H s):s.heap.NoLimit:=I.ok.mod.nolimit.keeps I.bk
theorem Inv.lt (I:Inv X pins σ H s):X.env.locals<s.heap.objs.size:=let ⟨_,hn,_⟩:=I.loc;hn.lt
theorem Inv.sz (I:Inv X pins σ H s):X.s₀.heap.objs.size<=s.heap.objs.size:=lar I.ok.above (lds I.lt)
theorem Inv.nofs (I:Inv X pins σ H s)(h:s.heap.objs.size<=a):a∉X.fs:=λhb=>by
 obtain⟨_,o,ho,_⟩:=I.ok.funs.mem hb
 exact absurd (lK (lE ho) (lar I.sz h)) (lce _)
theorem Inv.cne (I:Inv X pins σ H s):∀x c,X.env.cells.lookup x=some c->c≠X.env.locals:=λx c e z=>by
 obtain⟨v,o,ho,hd⟩:=I.cell x c e
 obtain⟨m,⟨o',es,ep,ho',hd',_⟩,_⟩:=I.loc
 rw[z,ho'] at ho;cases ho;rw[hd'] at hd;cases hd
theorem Inv.funs (I:Inv X pins σ H s):s.heap.FunFrames X.base X.outer:=by
 have all:∀(l:List Env),(∀b∈frs l,b∈X.fs)->X.s₀.heap.FunFrames X.base l->s.heap.FunFrames X.base l:=by
  intro l
  induction l with
  | nil=>intro _ _;trivial
  | cons env r ih =>
   intro hs hl
   obtain⟨hk,⟨L,o,hf,hn,ho,hd⟩,hr⟩:=hl
   have hL:L∈X.fs:=hs L (by unfold frs;rw[lcE,hf];exact lD)
   obtain⟨sl,e⟩:=I.base.slot L o ho (I.ok.frf L hL) hL λz=>I.ok.exfs L z hL
   exact⟨hk,⟨L,_,hf,hn,e,hd⟩,ih (λb hb=>hs b (by unfold frs;rw[lcE,hf];exact lz _ hb)) hr⟩
 exact all X.outer (λ_ hb=>hb) I.ok.funs
theorem Inv.stack (I:Inv X pins σ H s):s.heap.FunFrames X.base X.stack:=by
 rcases I.ok.stk with e|⟨e,hf⟩
 ·rw[e];exact I.funs
 ·rw[e]
  obtain⟨m,hn,_⟩:=I.loc
  refine .cons (by rw[I.ok.kind];decide) hf hn ?_ I.funs
  exact Heap.get?_none_of_le (lar I.ok.bsz I.ok.above)
theorem Inv.stkSub (I:Inv X pins σ H s):∀b∈frs X.stack,b∈X.env.locals::X.fs:=λb hb=>by
 rcases I.ok.stk with e|⟨e,hf⟩
 ·rw[e] at hb;exact lz _ hb
 ·rw[e] at hb
  unfold frs at hb
  rw[lcE,hf] at hb
  exact hb
theorem Inv.stkFree (I:Inv X pins σ H s):∀b∈frs X.stack,H b=none:=λb hb=>by
 rcases lI.mp (I.stkSub b hb) with e|hb
 ·rw[e];exact I.free
 ·obtain⟨_,o,ho,_⟩:=I.ok.funs.mem hb
  exact I.base.free b o ho (I.ok.frf b hb) λz=>I.ok.exfs b z hb
theorem Inv.step {d':Drawn}(I:Inv X pins σ H s)
  (hch:∀b∈ch,(b∈X.ex∨X.s₀.heap.objs.size<=b)/\b≠X.env.locals/\(∀x c,X.env.cells.lookup x=some c->c≠b)/\∀p∈X.pn++pins,p.1≠b)
  (keep:∀b o,b≠X.env.locals->b∉X.fs->b∉ch->s.heap.get? b=some o->H b=none->h'.get? b=some o)
  (slot:∀b o,b≠X.env.locals->b∈X.fs->b∉ch->s.heap.get? b=some o->H b=none->∃sl,h'.get? b=some {o with slots:=sl}) (free:∀b o,b∉ch->s.heap.get? b=some o->H b=none->H' b=none)
  (there:∀b o,b∉ch->s.heap.get? b=some o->∃o',h'.get? b=some o')
  (tups:∀b xs,H b=some (HO.st xs)->H' b=some (HO.st xs)) (frzs:∀b o u,H b=some (.frz o u)->H' b=some (.frz o u)) (tbls:∀b ps,H b=some (.tbl ps)->∃more,H' b=some (.tbl (ps++more)))
  (ns:∀m,s.heap.Ns X.env.locals m->h'.Ns X.env.locals m) (hok:HOk X.prog X.w H' h') (hg:AllBare g') :
  Inv X pins σ H' {s with heap:=h',gens:=g',drawn:=d',toks:=t'}:=by
 have neL:∀b o,X.s₀.heap.get? b=some o->b≠X.env.locals:=λb o e=>lab (lK (lE e) I.ok.above)
 have neC:∀b o,X.s₀.heap.get? b=some o->b∉X.ex->b∉ch:=λb o e hx hb=>by
  rcases(hch b hb).1 with z|z
  ·exact hx z
  ·exact absurd (lK (lE e) z) (lce _)
 have cellK:∀x c,X.env.cells.lookup x=some c->∀v,s.heap.IsCell c v->h'.IsCell c v:=λx c e v ⟨o,ho,hd⟩=>by
  have nch:c∉ch:=λz=>(hch c z).2.2.1 x c e rfl
  by_cases hc:c∈X.fs
  ·obtain⟨sl,q⟩:=slot c o (I.cne x c e) hc nch ho (I.freeC x c e)
   exact⟨_,q,hd⟩
  ·exact⟨o,keep c o (I.cne x c e) hc nch ho (I.freeC x c e),hd⟩
 refine⟨I.ok,I.os,hg,⟨λb o e n hb hx=>?_,λb o e n hb hx=>?_,λb o e n hx=>?_,λb o e hx=>?_,λb xs e=>tups b xs (I.base.tups b xs e),λb o xs e=>frzs b o xs (I.base.frzs b o xs e),λb ps e=>?_⟩,?_,λx c e=>?_,?_,λx c e=>?_,λp hp=>?_,hok,I.len⟩
 ·exact keep b o (neL b o e) hb (neC b o e hx) (I.base.keep b o e n hb hx) (I.base.free b o e n hx)
 ·obtain⟨sl,e1⟩:=I.base.slot b o e n hb hx
  obtain⟨sl',e2⟩:=slot b _ (neL b o e) hb (neC b o e hx) e1 (I.base.free b o e n hx)
  exact⟨sl',e2⟩
 ·obtain⟨o',e1⟩:=I.base.there b o e hx
  exact free b o' (neC b o e hx) e1 (I.base.free b o e n hx)
 ·obtain⟨o',e1⟩:=I.base.there b o e hx
  exact there b o' (neC b o e hx) e1
 ·obtain⟨m1,e1⟩:=I.base.tbls b ps e
  obtain⟨m2,e2⟩:=tbls b _ e1
  exact⟨m1++m2,by rw[e2,ldr]⟩
 ·obtain⟨m,hn,hl⟩:=I.loc
  refine⟨m,ns m hn,λi x v e1 e2 e3=>?_⟩
  obtain⟨u,r,l⟩:=hl i x v e1 e2 e3
  refine⟨u,r,?_⟩
  rcases l with l|⟨k,c,e,z⟩
  ·exact .inl l
  ·exact .inr ⟨k,c,e,cellK x c e _ z⟩
 ·obtain⟨v,z⟩:=I.cell x c e
  exact⟨v,cellK x c e v z⟩
 ·obtain⟨m,⟨o,_,_,ho,_⟩,_⟩:=I.loc
  exact free _ o (λz=>(hch _ z).2.1 rfl) ho I.free
 ·obtain⟨v,o,ho,hd⟩:=I.cell x c e
  exact free c o (λz=>(hch c z).2.2.1 x c e rfl) ho (I.freeC x c e)
 ·obtain⟨e,n,ne,nf,d⟩:=I.pin p hp
  have nch:p.1∉ch:=λz=>(hch p.1 z).2.2.2 p hp rfl
  exact⟨keep p.1 p.2 ne nf nch e n,free p.1 p.2 nch e n,ne,nf,d⟩
theorem Inv.un (I:Inv X pins σ H s)(u:Un X.fs [] H H' s.heap h')(hok:HOk X.prog X.w H' h'):Inv X pins σ H' {s with heap:=h',toks:=t'}:=by
 obtain⟨m,⟨o,es,ep,ho,r⟩,_⟩:=id I.loc
 obtain⟨sl,hL⟩:=u.any ho I.free (by simp)
 exact I.step (g':=s.gens) (d':=s.drawn) (ch:=[]) (λ_ z=>nomatch z) (λb o _ hb _ e n=>u.keep b o e n hb (by simp)) (λb o _ hb _ e n=>u.slot b o e n hb (by simp)) (λb o _ e n=>u.free b o e n (by simp)) (λb o _ e=>u.there b o e (by simp)) u.tups u.frzs u.tbls (λm' hm=>by
  obtain⟨o',es',ep',ho',r'⟩:=hm
  rw[ho] at ho';cases ho'
  exact⟨_,es',ep',hL,r'⟩) hok I.bare
theorem Inv.call {d':Drawn}(I:Inv X pins σ H s)(u:Un (frs X.stack) ch H H' s.heap h')(hok:HOk X.prog X.w H' h')(hg:AllBare g')
  (hch:∀b∈ch,(b∈X.ex∨X.s₀.heap.objs.size<=b)/\b≠X.env.locals/\(∀x c,X.env.cells.lookup x=some c->c≠b)/\∀p∈X.pn++pins,p.1≠b) :
  Inv X pins σ H' {s with heap:=h',gens:=g',drawn:=d',toks:=t'}:=by
 obtain⟨m,⟨o,es,ep,ho,r⟩,_⟩:=id I.loc
 obtain⟨sl,hL⟩:=u.any ho I.free λz=>(hch _ z).2.1 rfl
 exact I.step (ch:=ch) hch (λb o hL hb hc e n=>u.keep b o e n (λz=>(lI.mp (I.stkSub b z)).elim hL hb) hc) (λb o _ _ hc e n=>u.any e n hc) (λb o hc e n=>u.free b o e n hc) (λb o hc e=>u.there b o e hc) u.tups u.frzs u.tbls (λm' hm=>by
  obtain⟨o',es',ep',ho',r'⟩:=hm
  rw[ho] at ho';cases ho'
  exact⟨_,es',ep',hL,r'⟩) hok hg
theorem Inv.turned {it:Addr}(I:Inv X pins σ H s)(k:∀b o,b≠it->s.heap.get? b=some o->h'.get? b=some o)(hn:H it=none)(hL:it≠X.env.locals)
  (h1:it∈X.ex∨X.s₀.heap.objs.size<=it) (h2:∀x c,X.env.cells.lookup x=some c->c≠it) (h3:∀p∈X.pn++pins,p.1≠it):Inv X pins σ H {s with heap:=h',toks:=t'}:=by
 have nit:∀b u,H b=some u->b≠it:=λb u e z=>by rw[z,hn] at e;cases e
 refine I.step (g':=s.gens) (d':=s.drawn) (ch:=[it]) (λb hb=>?_) (λb o _ _ hc e _=>k b o (λz=>hc (by simp[z])) e) (λb o _ _ hc e _=>⟨o.slots,k b o (λz=>hc (by simp[z])) e⟩) (λ_ _ _ _ n=>n)
  (λb o hc e=>⟨o,k b o (λz=>hc (by simp[z])) e⟩) (λ_ _ e=>e) (λ_ _ _ e=>e) (λb ps e=>⟨#[],by rw[e];simp⟩) (λm hm=>?_) (λb u e=>?_) I.bare
 ·have e:b=it:=by simpa using hb
  subst e
  exact⟨h1,hL,h2,h3⟩
 ·obtain⟨o,es,ep,ho,r⟩:=hm
  exact⟨o,es,ep,k _ o (lbY hL) ho,r⟩
 ·refine(I.hok b u e).stay (λc v hc q=>k c v ?_ q) (λ_ q=>q) λ_ _ q=>q
  rcases hc with z|z
  ·rw[z];exact nit b u e
  ·exact nit c _ z
theorem Inv.tok (I:Inv X pins σ H s)(t:Nat):Inv X pins σ H {s with toks:=t}:=I.un (h':=s.heap) (t':=t) Un.refl I.hok
theorem Inv.kept (I:Inv X pins σ H s)(k:∀b u,s.heap.get? b=some u->h'.get? b=some u):Inv X pins σ H {s with heap:=h',toks:=t'}:=I.un (Un.kept k) (I.hok.kept k)
theorem Inv.laid {o:HO}(I:Inv X pins σ H s)(k:∀b u,s.heap.get? b=some u->h'.get? b=some u)(hp:s.heap.objs.size<=a)(new:ObjOk X.prog X.w (upd H a o) h' a o) :
  Inv X pins σ (upd H a o) {s with heap:=h',toks:=t'}:=I.un (Un.laid k hp (I.hok.fresh hp)) (I.hok.laid k hp new)
theorem Inv.write {x e:Addr}{o:HO}(I:Inv X pins σ H s)(mu:Mut (H x))(he:e=x∨H e=some (.own x))(k:∀b u,b≠e->s.heap.get? b=some u->h'.get? b=some u)(heo:∃u,h'.get? e=some u)
  (new:ObjOk X.prog X.w (upd H x o) h' x o):Inv X pins σ (upd H x o) {s with heap:=h',toks:=t'}:=I.un (Un.write mu he k heo) (I.hok.write mu he k heo new)
theorem Inv.weak {σ':List (Option V)}(I:Inv X pins σ H s)(hl:σ'.length=σ.length)(w:∀(i:Nat) v,σ'[i]? = some (some v)->σ[i]? = some (some v)):Inv X pins σ' H s :=
 ⟨I.ok,I.os,I.bare,I.base,let ⟨m,hn,hl'⟩:=I.loc;⟨m,hn,λi x v e1 e2 e3=>hl' i x v e1 (w i v e2) e3⟩,I.cell,I.free,I.freeC,I.pin,I.hok,hl.trans I.len⟩
theorem Inv.pins_of {pins':List (Addr×Obj)}(I:Inv X pins σ H s)(h:∀p∈pins',s.heap.get? p.1=some p.2/\H p.1=none/\p.1≠X.env.locals/\p.1∉X.fs/\∀v,p.2.data≠.cell v):Inv X pins' σ H s :=
 ⟨I.ok,I.os,I.bare,I.base,I.loc,I.cell,I.free,I.freeC,λp hp=>(laW.mp hp).elim (λz=>I.pin p (lbL _ z)) (h p),I.hok,I.len⟩
theorem zf8 (hN:N.Nodup)(a:N[i]? = some x)(b:N[j]? = some x):i=j:=by
 obtain⟨h1,e1⟩:=lO.mp a
 obtain⟨h2,e2⟩:=lO.mp b
 exact(List.getElem_inj hN).mp (e1.trans e2.symm)
theorem ziP {A:Around}(I:Inv X pins σ H s)(hN:X.N.Nodup)(hi:X.N[i]? = some x)(hx:Loc X.env.scope x)(r:RelV v u)
  (h:∀s',Inv X pins (σ.set i (some v)) H s'->(∃a,Heap.SameBut a s.heap s'.heap/\(a=X.env.locals∨X.env.cells.lookup x=some a))->Q () s') (hf:X.fn x=true∨X.env.scope.names.lookup x=some .local:=by first|exact .inl rfl|exact .inr rfl|assumption):wpAny M A (storeName X.env x u) Q E s:=by
 obtain⟨m,hn,hl⟩:=id I.loc
 have hcls:(X.env.scope.kind == .class || (X.env.scope.kind == .module&&X.env.locals != X.env.globals))=false:=by rw[I.ok.kind];rfl
 have hiσ:i<σ.length:=by rw[I.len];exact(lO.mp hi).1
 have cne:=I.cne
 have tracked:∀{a:Addr}{h':Heap},(∃o,s.heap.get? a=some o/\H a=none)->Heap.SameBut a s.heap h'->HOk X.prog X.w H h':=λ{a h'} ha hs b ob e=>by
  obtain⟨_,_,hfree⟩:=ha
  refine(I.hok b ob e).stay (λc w' hc q=>(hs.2 c ?_).trans q) (λ_ q=>q) λ_ _ q=>q
  rintro rfl
  rcases hc with rfl|hc
  ·rw[hfree] at e;cases e
  ·rw[hfree] at hc;cases hc
 rcases hx with hk|hk
 ·refine wpAny_storeName_local hk hn (λh' hn' hs=>?_) hcls
  obtain⟨oL,_,_,hoL,_⟩:=id hn
  refine h _ ⟨I.ok,I.os,I.bare,⟨λb o e n hb hx=>?_,λb o e n hb hx=>?_,I.base.free,λb o e hx=>?_,I.base.tups,I.base.frzs,I.base.tbls⟩,⟨_,hn',λj y v' e1 e2 e3=>?_⟩,λy c e=>?_,I.free,I.freeC,λp hp=>?_,tracked ⟨oL,hoL,I.free⟩ hs,by simpa using I.len⟩ ⟨_,hs,.inl rfl⟩
  ·exact(hs.2 b (lab (lK (lE e) I.ok.above))).trans (I.base.keep b o e n hb hx)
  ·obtain⟨sl,e1⟩:=I.base.slot b o e n hb hx
   exact⟨sl,(hs.2 b (lab (lK (lE e) I.ok.above))).trans e1⟩
  ·obtain⟨o',e1⟩:=I.base.there b o e hx
   exact⟨o',(hs.2 b (lab (lK (lE e) I.ok.above))).trans e1⟩
  ·by_cases hj:j=i
   ·subst hj
    rw[hi] at e1;cases e1
    rw[lcS hiσ] at e2
    cases e2
    exact⟨u,r,.inl ⟨hk,by simp⟩⟩
   ·rw [lap (lbY hj)] at e2
    obtain⟨u',r',q⟩:=hl j y v' e1 e2 e3
    refine⟨u',r',?_⟩
    rcases q with⟨k,e⟩|⟨k,c,e,z⟩
    ·refine .inl ⟨k,?_⟩
     have:y≠x:=λe=>hj (zf8 hN e1 (e▸hi))
     simp[this,e]
    ·exact .inr ⟨k,c,e,z.sameBut hs (cne y c e)⟩
  ·obtain⟨w',z⟩:=I.cell y c e
   exact⟨w',z.sameBut hs (cne y c e)⟩
  ·obtain⟨e,n,ne,nf,d⟩:=I.pin p hp
   exact⟨(hs.2 p.1 ne).trans e,n,ne,nf,d⟩
 ·have hfn:X.fn x=true:=by
   rcases hf with z|z
   ·exact z
   ·rw[z] at hk;cases hk
  obtain⟨c,hc⟩:=I.ok.has x (.inl hk)
  obtain⟨w',z⟩:=I.cell x c hc
  refine wpAny_storeName_cell I.ok.kind hk hc z (λh' hc' hs=>?_)
  obtain⟨oc,hoc,hocd⟩:=id z
  refine h {s with heap:=h'} ⟨I.ok,I.os,I.bare,⟨λb o e n hb hx=>?_,λb o e n hb hx=>?_,I.base.free,λb o e hx=>?_,I.base.tups,I.base.frzs,I.base.tbls⟩,⟨m,hn.sameBut hs (lbY (cne x c hc)),λj y v' e1 e2 e3=>?_⟩,λy c' e=>?_,I.free,I.freeC,λp hp=>?_,tracked ⟨oc,hoc,I.freeC x c hc⟩ hs,by simpa using I.len⟩ ⟨c,hs,.inr hc⟩
  ·exact(hs.2 b (lab (lK (lE e) (I.ok.cab x c hfn hc)))).trans (I.base.keep b o e n hb hx)
  ·obtain⟨sl,e1⟩:=I.base.slot b o e n hb hx
   exact⟨sl,(hs.2 b (lab (lK (lE e) (I.ok.cab x c hfn hc)))).trans e1⟩
  ·obtain⟨o',e1⟩:=I.base.there b o e hx
   exact⟨o',(hs.2 b (lab (lK (lE e) (I.ok.cab x c hfn hc)))).trans e1⟩
  ·by_cases hj:j=i
   ·subst hj
    rw[hi] at e1;cases e1
    rw[lcS hiσ] at e2
    cases e2
    exact⟨u,r,.inr ⟨.inl hk,c,hc,hc'⟩⟩
   ·rw [lap (lbY hj)] at e2
    obtain⟨u',r',q⟩:=hl j y v' e1 e2 e3
    refine⟨u',r',?_⟩
    rcases q with q|⟨k,c',e,z'⟩
    ·exact .inl q
    ·refine .inr ⟨k,c',e,z'.sameBut hs ?_⟩
     rintro rfl
     exact hj (zf8 hN e1 (I.ok.inj _ _ _ e hc▸hi))
  ·by_cases hcc:c'=c
   ·subst hcc;exact⟨_,hc'⟩
   ·obtain⟨w2,z2⟩:=I.cell y c' e
    exact⟨w2,z2.sameBut hs hcc⟩
  ·obtain⟨e,n,ne,nf,d⟩:=I.pin p hp
   refine⟨(hs.2 p.1 ?_).trans e,n,ne,nf,d⟩
   intro q
   rw[q,hoc] at e
   have q':oc=p.2:=lq e
   exact d w' (by rw[← q'];exact hocd)
theorem za5 {A:Around}(I:Inv X pins σ H s)(hN:X.N.Nodup)(hi:X.N[i]? = some x)(hx:Loc X.env.scope x)(r:RelV v u)
  (h:∀s',Inv X pins (σ.set i (some v)) H s'->Q () s') (hf:X.fn x=true∨X.env.scope.names.lookup x=some .local:=by first|exact .inl rfl|exact .inr rfl|assumption):wpAny M A (storeName X.env x u) Q E s :=
 ziP I hN hi hx r (λs' I' _=>h s' I') hf
theorem Inv.call' {s':Shared}(I:Inv X pins σ H s)(ho:s'.os=s.os)(u:Un (frs X.stack) ch H H' s.heap s'.heap)(hok:HOk X.prog X.w H' s'.heap)(hg:AllBare s'.gens)
  (hch:∀b∈ch,(b∈X.ex∨X.s₀.heap.objs.size<=b)/\b≠X.env.locals/\(∀x c,X.env.cells.lookup x=some c->c≠b)/\∀p∈X.pn++pins,p.1≠b):Inv X pins σ H' s':=by
 obtain⟨h',g',d',t',o'⟩:=s'
 have e:o'=s.os:=ho
 subst e
 exact I.call (g':=g') (t':=t') (d':=d') u hok hg hch
end
abbrev XK:=Value->Option Addr->Hp->Prop
abbrev St:=List (Option V)
variable {σ:St}
abbrev VK:=V->Hp->Prop
abbrev TE:=St->Hp->VK->Prop
variable {t:TE}
abbrev TT:=St->Hp->(Bool->Hp->Prop)->Prop
abbrev TA:=St->Hp->(List V->Hp->Prop)->Prop
structure Ends where
 nx:St->Hp->Prop
 rt:VK
 bk:St->Hp->Prop:=λ_ _=>False
 ct:St->Hp->Prop:=λ_ _=>False
abbrev TS:=Ends->St->Hp->Prop
inductive EP (X:Cx)(pins:List (Addr×Obj))(σ:St)(Q:VK)(u:Value)(s':Shared):Prop
 | mk (v:V) (H':Hp) (I:Inv X pins σ H' s') (r:RelV v u) (q:Q v H')
inductive TP (X:Cx)(pins:List (Addr×Obj))(σ:St)(Q:Bool->Hp->Prop)(b:Bool)(s':Shared):Prop
 | mk (H':Hp) (I:Inv X pins σ H' s') (q:Q b H')
inductive AP (X:Cx)(pins:List (Addr×Obj))(σ:St)(Q:List V->Hp->Prop)(us:List Value)(s':Shared):Prop
 | mk (vs:List V) (H':Hp) (I:Inv X pins σ H' s') (r:Vals vs us) (q:Q vs H')
inductive SN (X:Cx)(pins:List (Addr×Obj))(Q:St->Hp->Prop)(s':Shared):Prop
 | mk (a:St) (b:Hp) (I:Inv X pins a b s') (q:Q a b)
inductive SR (X:Cx)(pins:List (Addr×Obj))(Q:VK)(u:Value)(s':Shared):Prop
 | mk (v:V) (a:St) (b:Hp) (I:Inv X pins a b s') (r:RelV v u) (q:Q v b)
def SP (X:Cx)(pins:List (Addr×Obj))(D:Ends)(f:Flow)(s':Shared):Prop :=
 match f with
 | .next=>SN X pins D.nx s'
 | .brk=>SN X pins D.bk s'
 | .cont=>SN X pins D.ct s'
 | .ret u=>SR X pins D.rt u s'
def PE (X:Cx)(e:Expr)(t:TE):Prop :=
 ∀(pins:List (Addr×Obj)) (s:Shared) (σ:St) (H:Hp) (Q:VK),Inv X pins σ H s->t σ H Q->wpAny (model X.prog X.w) X.A (eval e X.env) (EP X pins σ Q) X.xe s
def PT (X:Cx)(e:Expr)(t:TT):Prop :=
 ∀(pins:List (Addr×Obj)) (s:Shared) (σ:St) (H:Hp) (Q:Bool->Hp->Prop),Inv X pins σ H s->t σ H Q->wpAny (model X.prog X.w) X.A (isTrue e X.env (eval e X.env)) (TP X pins σ Q) X.xe s
def PW (X:Cx)(e:Expr)(t:TT):Prop :=
 ∀(whole:Sem Value) (pins:List (Addr×Obj)) (s:Shared) (σ:St) (H:Hp) (Q:Bool->Hp->Prop),Inv X pins σ H s->t σ H Q->wpAny (model X.prog X.w) X.A (isTrue e X.env whole) (TP X pins σ Q) X.xe s
theorem PW.pt {X:Cx}{t:TT}(h:PW X e t):PT X e t:=h _
def PA (X:Cx)(es:List Expr)(t:TA):Prop :=
 ∀(pos:Pos) (pins:List (Addr×Obj)) (s:Shared) (σ:St) (H:Hp) (Q:List V->Hp->Prop),Inv X pins σ H s->t σ H Q->wpAny (model X.prog X.w) X.A (spliced (backTo pos (starEach es X.env))) (AP X pins σ Q) X.xe s
def PS (X:Cx)(st:Stmt)(t:TS):Prop :=
 ∀(pins:List (Addr×Obj)) (s:Shared) (σ:St) (H:Hp) (D:Ends),Inv X pins σ H s->t D σ H->wpAny (model X.prog X.w) X.A (exec st X.env) (SP X pins D) X.xe s
def PSs (X:Cx)(st:List Stmt)(t:TS):Prop :=
 ∀(pins:List (Addr×Obj)) (s:Shared) (σ:St) (H:Hp) (D:Ends),Inv X pins σ H s->t D σ H->wpAny (model X.prog X.w) X.A (execs st X.env) (SP X pins D) X.xe s
theorem thn {α:Type}{t:Sem α}{Q Q':α->Shared->Prop}{A:Around}(h:wpAny M A t Q E s)(hQ:∀a s,Q a s->Q' a s):wpAny M A t Q' E s:=laF h hQ λ_ _ x=>x
section
variable {X:Cx}
def zkv (i:Nat):TE:=λσ H Q=>∃v,σ[i]? = some (some v)/\Q v H
def tC (v:V):TE:=λ_ H Q=>Q v H
theorem znz (hN:X.N[i]? = some x)(hv:Vis X.env.scope x)(hd:(x == ("__debug__" : Str))=false:=by decide)(hcd:(x == ("__classdict__" : Str))=false:=by decide):PE X (.Name x pos) (zkv i):=by
 intro pins s σ H Q I h
 obtain⟨v,e,h⟩:=h
 obtain⟨m,hn,hl⟩:=I.loc
 obtain⟨u,r,l⟩:=hl i x v hN e hv
 have fin:EP X pins σ Q u s:=⟨v,H,I,r,h⟩
 rcases l with⟨hk,hm⟩|⟨hk,c,hc,hcell⟩
 ·exact wpAny_Name (wpAny_loadName_local I.ok.kind hk hn hm fin) hd
 ·rcases hk with hk|hk
  ·exact wpAny_Name (wpAny_loadName_cell I.ok.kind hk hc hcell fin) hd
  ·exact wpAny_Name (wpAny_loadName_free I.ok.kind hk hc hcell fin hcd) hd
theorem zmQ {i j pos}:PE X (.Constant (.int i) j pos) (tC (.int i)):=λ_ _ _ H _ I h=>wpAny_Constant_int ⟨.int i,H,I.tok _,⟨_,rfl⟩,h⟩
theorem zoL {b j pos}:PE X (.Constant (.bool b) j pos) (tC (.bl b)):=λ_ _ _ H _ I h=>Constant_bool ⟨.bl b,H,I,rfl,h⟩
theorem znJ {j pos}:PE X (.Constant .none j pos) (tC .non):=λ_ _ _ H _ I h=>Constant_none ⟨.non,H,I,rfl,h⟩
theorem zmK {x j pos}:PE X (.Constant (.str x) j pos) (tC (.str x)):=λ_ _ _ H _ I h=>Calls.Constant_str ⟨.str x,H,I.tok _,⟨_,rfl⟩,h⟩
def Gl (X:Cx)(x:Str):Prop:=X.env.kindOf x=some .globalImplicit
theorem zal {Q:qQ2}(I:Inv X pins σ H s)(hg:Gl X x)(hm:X.mg x=some u)(h:Q u s)
  (hd:(x == ("__debug__" : Str))=false:=by decide):wpAny (model X.prog X.w) X.A (eval (.Name x pos) X.env) Q E s :=
 Calls.Name_function_global I.ok.kind hg (Calls.loadGlobal_global (by rw[I.ok.glob];exact I.mod.glob.keeps I.bk) hm h) hd
theorem zaO {Q:qQ2}(I:Inv X pins σ H s)(hg:Gl X x)(hm:X.mg x=none)(hv:bootBuiltins x=some u)(h:Q u s)
  (hn:x ≠ "__name__" := by decide) (hd:(x == ("__debug__" : Str))=false:=by decide):wpAny (model X.prog X.w) X.A (eval (.Name x pos) X.env) Q E s:=by
 obtain⟨mb,h1,h2⟩:=I.mod.blt
 exact Calls.Name_function_global I.ok.kind hg (Calls.loadGlobal_builtin (by rw[I.ok.glob];exact I.mod.glob.keeps I.bk) hm (by rw[I.ok.blt];exact h1.keeps I.bk) ((h2 x hn).trans hv) h) hd
theorem uo (hg:Gl X x)(hm:X.mg x=some u)(r:RelV v u)(hd:(x == ("__debug__" : Str))=false:=by decide):PE X (.Name x pos) (tC v) :=
 λ_ _ _ H _ I h=>zal I hg hm ⟨v,H,I,r,h⟩ hd
theorem zbW (hg:Gl X x)(hm:X.mg x=none)(hv:bootBuiltins x=some u)(r:RelV v u)(hn:x ≠ "__name__" := by decide)(hd:(x == ("__debug__" : Str))=false:=by decide):PE X (.Name x pos) (tC v) :=
 λ_ _ _ H _ I h=>zaO I hg hm hv ⟨v,H,I,r,h⟩ hn hd
variable {a b:Expr}{ta tb:TE}{pos:Pos}
def PC (X:Cx)(op:CmpOp)(a b:Expr)(t:TE):Prop :=
 ∀ (pins:List (Addr×Obj)) (s:Shared) (σ:St) (H:Hp) (Q:VK),Inv X pins σ H s->t σ H Q ->
  wpAny (model X.prog X.w) X.A (eval a X.env) (λv s₁=>wpAny (model X.prog X.w) X.A (eval b X.env) (λu s₂=>wpAny (model X.prog X.w) X.A (compareOp op v u) (EP X pins σ Q) X.xe s₂) X.xe s₁) X.xe s
theorem zfO (b:Expr)(h:op≠.In)(h2:op≠.NotIn):behindInMarks op b=false:=by
 have e1:(op == CmpOp.In)=false:=by cases op <;>first|rfl|exact absurd rfl h
 have e2:(op == CmpOp.NotIn)=false:=by cases op <;>first|rfl|exact absurd rfl h2
 cases b <;>simp[behindInMarks,e1,e2]
def zqb (ta:TE):TE:=λσ H Q=>ta σ H λx H1=>Q (.bl (decide (x=.non))) H1
def zoS (ta:TE):TE:=λσ H Q=>ta σ H λx H1=>Q (.bl (!decide (x=.non))) H1
theorem RelV.none_iff {x:V}{v:Value}(r:RelV x v):(v == Value.none)=decide (x=.non):=by
 cases x with
 | non=>cases r;rfl
 | bl _=>cases r;rfl
 | int _=>obtain⟨t,rfl⟩:=r;rfl
 | str _=>obtain⟨t,rfl⟩:=r;rfl
 | byt _=>obtain⟨t,rfl⟩:=r;rfl
 | flt _=>obtain⟨t,rfl⟩:=r;rfl
 | ref _=>cases r;rfl
 | ty _=>cases r;rfl
theorem zm5 {j pos'}(ha:PE X a ta):PC X .Is a (.Constant .none j pos') (zqb ta):=by
 intro pins s σ H Q I h
 refine thn (ha pins s σ H _ I h) λv s1 hq0=>?_
 obtain⟨x,H1,I1,r1,q1⟩:=hq0
 exact Constant_none (is_none_gen ⟨.bl _,H1,I1,by rw[r1.none_iff];rfl,q1⟩)
theorem zlT {j pos'}(ha:PE X a ta):PC X .IsNot a (.Constant .none j pos') (zoS ta):=by
 intro pins s σ H Q I h
 refine thn (ha pins s σ H _ I h) λv s1 hq1=>?_
 obtain⟨x,H1,I1,r1,q1⟩:=hq1
 exact Constant_none (isnot_none_gen ⟨.bl _,H1,I1,by rw[r1.none_iff];rfl,q1⟩)
def tB (t:TE):TT:=λσ H Q=>t σ H λx H1=>∃c,x=.bl c/\Q c H1
theorem zne (h:PC X op a b t)(h1:behindInMarks op b=false:=by first|exact zfO _ (by decide) (by decide)|rfl):PE X (.Compare a [op] [b] pos) t:=λpins s σ H Q I hw=>wpAny_Compare1 (h pins s σ H Q I hw) h1
theorem znP (h:PC X op a b t)(h1:behindInMarks op b=false:=by first|exact zfO _ (by decide) (by decide)|rfl):PT X (.Compare a [op] [b] pos) (tB t):=by
 intro pins s σ H Q I hw
 refine wpAny_isTrue_Compare1 (thn (h pins s σ H _ I hw) λv s1 h1=>thn h1 λu s2 h2=>thn h2 λc s3 ⟨x,H1,I1,r1,q1⟩=>?_) h1
 obtain⟨d,rfl,q⟩:=q1
 cases r1
 exact laN ⟨H1,I1,q⟩
theorem zmY (h:PE X e t)(he:∀whole,isTrue e X.env whole=(do let v ← whole;standAt e.pos;holding [v] (truthy v)):=by intro _;rfl):PT X e (tB t):=by
 intro pins s σ H Q I hw
 refine isTrue_plain (thn (h pins s σ H _ I hw) λv s1 hq2=>?_) (he _)
 obtain⟨x,H1,I1,r1,q1⟩:=hq2
 obtain⟨d,rfl,q⟩:=q1
 cases r1
 exact laN ⟨H1,I1,q⟩
variable {tA tB':TT}{rest:List Expr}
def zqh (t u:TT):TT:=λσ H Q=>t σ H λc H1=>if c=true then u σ H1 Q else Q false H1
def tOr (t u:TT):TT:=λσ H Q=>t σ H λc H1=>if c=true then Q true H1 else u σ H1 Q
def zqf (t:TT):TT:=λσ H Q=>t σ H λc H1=>Q (!c) H1
theorem zk8 (ha:PT X a tA):PW X (.BoolOp .And [a] pos) tA:=by
 intro wh pins s σ H Q I h
 refine isTrue_and (thn (ha pins s σ H Q I h) λc s1 e=>?_)
 cases c with
 | true=>exact isTrue_and_nil e
 | false=>exact e
theorem zn1 (ha:PT X a tA):PW X (.BoolOp .Or [a] pos) tA:=by
 intro wh pins s σ H Q I h
 refine isTrue_or (thn (ha pins s σ H Q I h) λc s1 e=>?_)
 cases c with
 | false=>exact isTrue_or_nil e
 | true=>exact e
theorem zod (ha:PT X a tA)(hb:PW X (.BoolOp .And (b::rest) pos) tB'):PW X (.BoolOp .And (a::b::rest) pos) (zqh tA tB'):=by
 intro wh pins s σ H Q I h
 refine isTrue_and (thn (ha pins s σ H _ I h) λc s1 hq3=>?_)
 obtain⟨H1,I1,q1⟩:=hq3
 cases c with
 | true=>exact hb wh pins s1 σ H1 Q I1 q1
 | false=>exact⟨H1,I1,q1⟩
theorem zpo (ha:PT X a tA)(hb:PW X (.BoolOp .Or (b::rest) pos) tB'):PW X (.BoolOp .Or (a::b::rest) pos) (tOr tA tB'):=by
 intro wh pins s σ H Q I h
 refine isTrue_or (thn (ha pins s σ H _ I h) λc s1 hq4=>?_)
 obtain⟨H1,I1,q1⟩:=hq4
 cases c with
 | true=>exact⟨H1,I1,q1⟩
 | false=>exact hb wh pins s1 σ H1 Q I1 q1
theorem zng (ha:PT X a tA):PT X (.UnaryOp .Not a pos) (zqf tA):=by
 intro pins s σ H Q I h
 exact isTrue_not (thn (ha pins s σ H (λc H1=>Q (!c) H1) I h) λ_ _ ⟨b,I,q⟩=>⟨b,I,q⟩)
def zoz (ta tb:TE):TE:=λσ H Q=>ta σ H λx H1=>∃c,x=.bl c/\if c=true then tb σ H1 Q else Q (.bl false) H1
def zqc (ta tb:TE):TE:=λσ H Q=>ta σ H λx H1=>∃c,x=.bl c/\if c=true then Q (.bl true) H1 else tb σ H1 Q
def zoO (ta:TE):TE:=λσ H Q=>ta σ H λx H1=>∃c,x=.bl c/\Q (.bl (!c)) H1
theorem zog {op}(h:PE X a t):PE X (.BoolOp op [a] pos) t:=λpins s σ H Q I hw=>BoolOp_one (h pins s σ H Q I hw)
theorem zol (ha:PE X a ta)(hb:PE X (.BoolOp .And (b::rest) pos) tb):PE X (.BoolOp .And (a::b::rest) pos) (zoz ta tb):=by
 intro pins s σ H Q I h
 refine BoolOp_and (thn (ha pins s σ H _ I h) λv s1 hq5=>?_)
 obtain⟨x,H1,I1,r1,q1⟩:=hq5
 obtain⟨c,rfl,q1⟩:=q1
 cases r1
 refine laN ?_
 cases c with
 | true=>exact hb pins s1 σ H1 Q I1 q1
 | false=>exact⟨.bl false,H1,I1,rfl,q1⟩
theorem zoN (ha:PE X a ta)(hb:PE X (.BoolOp .Or (b::rest) pos) tb):PE X (.BoolOp .Or (a::b::rest) pos) (zqc ta tb):=by
 intro pins s σ H Q I h
 refine BoolOp_or (thn (ha pins s σ H _ I h) λv s1 hq6=>?_)
 obtain⟨x,H1,I1,r1,q1⟩:=hq6
 obtain⟨c,rfl,q1⟩:=q1
 cases r1
 refine laN ?_
 cases c with
 | false=>exact hb pins s1 σ H1 Q I1 q1
 | true=>exact⟨.bl true,H1,I1,rfl,q1⟩
theorem zmW (ha:PE X a ta):PE X (.UnaryOp .Not a pos) (zoO ta):=by
 intro pins s σ H Q I h
 refine UnaryOp_ (thn (ha pins s σ H _ I h) λv s1 hq7=>?_)
 obtain⟨x,H1,I1,r1,q1⟩:=hq7
 obtain⟨c,rfl,q1⟩:=q1
 cases r1
 exact not_of (laN ⟨.bl (!c),H1,I1,rfl,q1⟩)
def tIf (t:TT)(ta tb:TE):TE:=λσ H Q=>t σ H λc H1=>if c=true then ta σ H1 Q else tb σ H1 Q
theorem zjl (hc:PT X c tA)(ha:PE X a ta)(hb:PE X b tb):PE X (.IfExp c a b pos) (tIf tA ta tb):=by
 intro pins s σ H Q I h
 refine wpAny_IfExp (thn (hc pins s σ H _ I h) λd s1 hq8=>?_)
 obtain⟨H1,I1,q1⟩:=hq8
 cases d with
 | true=>exact ha pins s1 σ H1 Q I1 q1
 | false=>exact hb pins s1 σ H1 Q I1 q1
end
def SqL (K:qQ0)(H:Hp)(a:Addr)(xs:List V):Prop :=
 Rd H a (.lst xs) ∨
  ∃(o:Obj) (its:Array Value) (n:Nat),K.lookup a=some o/\o.cls=.type "list" /\ o.dict=none/\o.data=.seq its n/\its.size<=sizeLine/\Vals xs its.toList
def SqT (K:qQ0)(H:Hp)(a:Addr)(xs:List V):Prop :=
 Rd H a (.tup xs) ∨
  ∃(o:Obj) (its:Array Value) (n:Nat),K.lookup a=some o/\o.cls=.type "tuple" /\ o.dict=none/\o.data=.seq its n/\its.size<=sizeLine/\Vals xs its.toList
def zqj:Value->Option V
 | .none=>some .non
 | .bool b=>some (.bl b)
 | .int i _=>some (.int i)
 | .str x _=>some (.str x)
 | .bytes b _=>some (.byt b)
 | .float b _=>some (.flt b)
 | .ref a=>some (.ref a)
 | .type n=>some (.ty n)
 | _=>none
theorem RelV.abs {x:V}(r:RelV x u):zqj u=some x:=by
 cases x with
 | non=>cases r;rfl
 | bl _=>cases r;rfl
 | int _=>obtain⟨t,rfl⟩:=r;rfl
 | str _=>obtain⟨t,rfl⟩:=r;rfl
 | byt _=>obtain⟨t,rfl⟩:=r;rfl
 | flt _=>obtain⟨t,rfl⟩:=r;rfl
 | ref _=>cases r;rfl
 | ty _=>cases r;rfl
theorem RelV.inj {x y:V}(r:RelV x u)(q:RelV y u):x=y:=lq (r.abs.symm.trans q.abs)
theorem Vals.inj:∀{xs ys:List V}{us:List Value},Vals xs us->Vals ys us->xs=ys:=by
 intro xs ys us h k
 induction h generalizing ys with
 | nil=>cases k;rfl
 | cons r t ih=>cases k with|cons r' t'=>rw[r.inj r',ih t']
section
variable {X:Cx}{pins:List (Addr×Obj)}{σ:St}{H:Hp}{s:Shared}{a:Addr}{xs ys:List V}
theorem SqT.of {K:qQ0}(h:H a=some (.tup xs)):SqT K H a xs:=.inl (.inl h)
theorem Inv.list (I:Inv X pins σ H s)(h:SqL X.K H a xs):∃its:List Value,Vals xs its/\PlainL s.heap a its.toArray/\xs.length<=sizeLine:=by
 rcases h with h|⟨o,its,n,hk,hc,hd,hs,hz,r⟩
 ·obtain⟨z,its,n,r,e⟩:=h.ok I.hok
  exact⟨its,r,⟨_,n,e,rfl,rfl,rfl⟩,z⟩
 ·refine⟨its.toList,r,⟨o,n,I.kIn a o hk,hc,hd,by simpa using hs⟩,?_⟩
  have e:=r.length
  simp only[lbw] at e
  omega
theorem Inv.tuple (I:Inv X pins σ H s)(h:SqT X.K H a xs):∃its:List Value,Vals xs its/\IsTup s.heap a its.toArray/\xs.length<=sizeLine:=by
 rcases h with h|⟨o,its,n,hk,hc,_,hs,hz,r⟩
 ·obtain⟨z,its,r,p⟩:=h.ok I.hok
  exact⟨its,r,p.tup,z⟩
 ·refine⟨its.toList,r,⟨o,I.kIn a o hk,hc,n,by simpa using hs⟩,?_⟩
  have e:=r.length
  simp only[lbw] at e
  omega
theorem Inv.noDict (I:Inv X pins σ H s)(h:SqT X.K H a xs):∃o,s.heap.get? a=some o/\o.cls=.type "tuple" /\ o.dict=none:=by
 rcases h with h|⟨o,its,n,hk,hc,hd,hs,hz,r⟩
 ·obtain⟨z,its,r,o,e,c,_,d⟩:=h.ok I.hok
  exact⟨o,e,c,d⟩
 ·exact⟨o,I.kIn a o hk,hc,hd⟩
theorem Inv.list_inj (I:Inv X pins σ H s)(h:SqL X.K H a xs)(h':SqL X.K H a ys):xs=ys:=by
 obtain⟨its,r,⟨o,n,e,_,_,d⟩,_⟩:=I.list h
 obtain⟨its',r',⟨o',n',e',_,_,d'⟩,_⟩:=I.list h'
 rw[e] at e';cases e'
 rw[d] at d'
 injection d' with d1 _
 have:its=its':=by simpa using lbB Array.toList d1
 subst this
 exact r.inj r'
theorem Inv.tuple_inj (I:Inv X pins σ H s)(h:SqT X.K H a xs)(h':SqT X.K H a ys):xs=ys:=by
 obtain⟨its,r,⟨o,e,_,n,d⟩,_⟩:=I.tuple h
 obtain⟨its',r',⟨o',e',_,n',d'⟩,_⟩:=I.tuple h'
 rw[e] at e';cases e'
 rw[d] at d'
 injection d' with d1 _
 have:its=its':=by simpa using lbB Array.toList d1
 subst this
 exact r.inj r'
end
abbrev Cx.wish (X:Cx)(E:qQ2):Cx:={X with xe:=E}
abbrev Cx.nox (X:Cx):Cx:=X.wish λ_ _=>False
theorem Cx.Ok.wish {X:Cx}(ok:X.Ok)(E:qQ2):(X.wish E).Ok :=
 ⟨ok.mod,ok.kind,ok.glob,ok.blt,ok.above,ok.inj,ok.has,ok.cab,ok.hd,ok.frames,ok.stk,ok.exf,ok.bs,ok.bsz,ok.noex,ok.exfs,ok.funs,ok.frf⟩
theorem Cx.Ok.unwish {X:Cx}(ok:(X.wish E).Ok):X.Ok :=
 ⟨ok.mod,ok.kind,ok.glob,ok.blt,ok.above,ok.inj,ok.has,ok.cab,ok.hd,ok.frames,ok.stk,ok.exf,ok.bs,ok.bsz,ok.noex,ok.exfs,ok.funs,ok.frf⟩
section
variable {X:Cx}{pins:List (Addr×Obj)}{σ:St}{H:Hp}{s:Shared}{E:qQ2}
theorem Inv.wish (I:Inv X pins σ H s)(E:qQ2):Inv (X.wish E) pins σ H s:=⟨I.ok.wish E,I.os,I.bare,I.base,I.loc,I.cell,I.free,I.freeC,I.pin,I.hok,I.len⟩
theorem Inv.unwish (I:Inv (X.wish E) pins σ H s):Inv X pins σ H s:=⟨I.ok.unwish,I.os,I.bare,I.base,I.loc,I.cell,I.free,I.freeC,I.pin,I.hok,I.len⟩
theorem SP.unwish {D:Ends}{f:Flow}{s':Shared}(h:SP (X.wish E) pins D f s'):SP X pins D f s':=by
 cases f with
 | next=>obtain⟨σ',H',I,q⟩:=h;exact⟨σ',H',I.unwish,q⟩
 | brk=>obtain⟨σ',H',I,q⟩:=h;exact⟨σ',H',I.unwish,q⟩
 | cont=>obtain⟨σ',H',I,q⟩:=h;exact⟨σ',H',I.unwish,q⟩
 | ret u=>obtain⟨v,σ',H',I,r,q⟩:=h;exact⟨v,σ',H',I.unwish,r,q⟩
theorem PE.nox (h:PE X.nox e t):PE X e t:=λpins s σ H Q I hw =>
 laF (h pins s σ H Q (I.wish _) hw) (λ_ _ ⟨v,H',I',r,q⟩=>⟨v,H',I'.unwish,r,q⟩) λ_ _ z=>False.elim z
theorem PT.nox {t:TT}(h:PT X.nox e t):PT X e t:=λpins s σ H Q I hw =>
 laF (h pins s σ H Q (I.wish _) hw) (λ_ _ ⟨H',I',q⟩=>⟨H',I'.unwish,q⟩) λ_ _ z=>False.elim z
theorem PSs.nox {st:List Stmt}{t:TS}(h:PSs X.nox st t):PSs X st t:=λpins s σ H D I hw =>
 laF (h pins s σ H D (I.wish _) hw) (λ_ _ q=>q.unwish) λ_ _ z=>False.elim z
end
section
variable {X:Cx}{st:Stmt}{rest:List Stmt}{t u:TS}{e:Expr}{te:TE}{pos:Pos}
def zpk:TS:=λD σ H=>D.nx σ H
def zp3 (t u:TS):TS:=λD σ H=>t {D with nx:=u D} σ H
theorem zlE:PSs X [] zpk:=λ_ _ σ H _ I h=>lcK ⟨σ,H,I,h⟩
theorem zjY (h1:PS X st t)(h2:PSs X rest u):PSs X (st::rest) (zp3 t u):=by
 intro pins s σ H D I h
 refine lda (thn (h1 pins s σ H {D with nx:=u D} I h) λf s1 q=>?_)
 cases f with
 | next =>
  obtain⟨σ',H',I',q⟩:=q
  exact h2 pins s1 σ' H' D I' q
 | ret v=>exact q
 | brk=>exact q
 | cont=>exact q
theorem ziz (h1:PS X st t):PSs X [st] t:=by
 intro pins s σ H D I h
 refine lda (thn (h1 pins s σ H D I h) λf s1 q=>?_)
 cases f with
 | next=>exact lcK q
 | ret v=>exact q
 | brk=>exact q
 | cont=>exact q
theorem Inv.quiet (I:Inv X pins σ H s):interactive X.env=false:=by simp[interactive,I.ok.kind]
def zoM (te:TE):TS:=λD σ H=>te σ H λ_ H1=>D.nx σ H1
theorem zfp (he:PE X e te)(hs:swapsWith e none pos.line X.env=pure false:=by rfl):PS X (.Expr e pos) (zoM te):=by
 intro pins s σ H D I h
 exact wpAny_Expr_any (thn (he pins s σ H _ I h) λv s1 ⟨x,H1,I1,r1,q1⟩=>⟨σ,H1,I1,q1⟩) I.quiet hs
def zqi (te:TE):TS:=λD σ H=>te σ H D.rt
theorem zkz (he:PE X e te):PS X (.Return (some e) pos) (zqi te):=by
 intro pins s σ H D I h
 exact wpAny_Return_some (thn (he pins s σ H _ I h) λv s1 ⟨x,H1,I1,r1,q1⟩=>⟨x,σ,H1,I1,r1,q1⟩)
def zpT (c:TT)(t u:TS):TS:=λD σ H=>c σ H λb H1=>if b=true then t D σ H1 else u D σ H1
theorem zoP {a b:List Stmt}{tc:TT}(hc:PT X c tc)(ha:PSs X a t)(hb:PSs X b u):PS X (.If c a b pos) (zpT tc t u):=by
 intro pins s σ H D I h
 refine wpAny_If (thn (hc pins s σ H _ I h) λd s1 hq9=>?_)
 obtain⟨H1,I1,q1⟩:=hq9
 cases d with
 | true=>exact ha pins s1 σ H1 D I1 q1
 | false=>exact hb pins s1 σ H1 D I1 q1
end
abbrev TG:=V->St->Hp->(St->Hp->Prop)->Prop
abbrev TGs:=List V->St->Hp->(St->Hp->Prop)->Prop
def PG (X:Cx)(target:Expr)(t:TG):Prop :=
 ∀ (pins:List (Addr×Obj)) (s:Shared) (σ:St) (H:Hp) (v:V) (u:Value) (Q:St->Hp->Prop),Inv X pins σ H s->RelV v u->t v σ H Q ->
  wpAny (model X.prog X.w) X.A (assign target X.env u) (λ_ s'=>∃σ' H',Inv X pins σ' H' s'/\Q σ' H') X.xe s
def PGs (X:Cx)(ts:List Expr)(t:TGs):Prop :=
 ∀ (pins:List (Addr×Obj)) (s:Shared) (σ:St) (H:Hp) (vs:List V) (us:List Value) (Q:St->Hp->Prop),Inv X pins σ H s->Vals vs us->t vs σ H Q ->
  wpAny (model X.prog X.w) X.A (assignInOrder ((assignEach ts X.env).map (·.2)) us) (λ_ s'=>∃σ' H',Inv X pins σ' H' s'/\Q σ' H') X.xe s
section
variable {X:Cx}{pos:Pos}
def uq (i:Nat):TG:=λv σ H Q=>Q (σ.set i (some v)) H
theorem zM (hN:X.N.Nodup)(hi:X.N[i]? = some x)(hx:Loc X.env.scope x)(hf:X.fn x=true∨X.env.scope.names.lookup x=some .local:=by first|exact .inl rfl|exact .inr rfl|assumption):PG X (.Name x pos) (uq i):=by
 intro pins s σ H v u Q I r h
 exact wpAny_assign_Name (za5 I hN hi hx r (λs' I'=>⟨_,H,I',h⟩) hf)
def zmC:TGs:=λvs σ H Q=>vs=[]/\Q σ H
def zbG (t:TG)(u:TGs):TGs:=λvs σ H Q=>∃v r,vs=v::r/\t v σ H λσ' H'=>u r σ' H' Q
theorem zlm:PGs X [] zmC:=by
 intro pins s σ H vs us Q I r h
 obtain⟨e,h⟩:=h
 subst e
 cases r
 exact assignInOrder_nil ⟨σ,H,I,h⟩
theorem zgn {t:TG}{u:TGs}(h1:PG X e t)(h2:PGs X es u)
  (hs:(assignEach (e::es) X.env).map (·.2)=assign e X.env::(assignEach es X.env).map (·.2):=by rfl):PGs X (e::es) (zbG t u):=by
 intro pins s σ H vs us Q I r h
 obtain⟨v,vr,e1,h⟩:=h
 subst e1
 cases r with
 | cons r rr =>
  rw[hs]
  refine assignInOrder_cons (thn (h1 pins s σ H _ _ _ I r h) λ_ s1 zmF=>?_)
  obtain⟨σ1,H1,I1,q1⟩:=zmF
  exact h2 pins s1 σ1 H1 _ _ Q I1 rr q1
def zmB (K:qQ0)(n:Nat)(t:TGs):TG:=λv σ H Q=>∃a xs,v=.ref a/\SqT K H a xs/\xs.length=n/\t xs σ H Q
theorem znN {t:TGs}{n:Nat}(hc:X.calm=true)(h:PGs X es t)
  (hn:(assignEach es X.env).length=n:=by rfl) (hst:(assignEach es X.env).findIdx? (·.1)=none:=by rfl):PG X (.Tuple es k pos) (zmB X.K n t):=by
 intro pins s σ H v u Q I r hw
 obtain⟨a,xs,e1,hq,hl,hw⟩:=hw
 subst e1
 cases r
 obtain⟨its,rv,ht,hz⟩:=I.tuple hq
 refine assign_Tuple_tuple (I.ok.hd hc) ht (by simp[hn,← hl,rv.length]) hst λh' hx=>?_
 have I1:Inv X pins σ H {s with heap:=h'}:=I.kept (t':=s.toks) λb o e=>hx b o (lab (lE e)) e
 exact h pins _ σ H xs _ Q I1 (by simpa using rv) hw
def zpI (te:TE)(g:TG):TS:=λD σ H=>te σ H λx H1=>g x σ H1 D.nx
theorem zob {te:TE}{g:TG}(he:PE X e te)(hg:PG X tg g)(hs:swapsWithSole [tg] e pos.line X.env=pure false:=by rfl)(hw:swappedStores [tg] e X.env=pure none:=by rfl)
  (h1:(assignEach [tg] X.env).map (·.2)=[assign tg X.env]:=by rfl):PS X (.Assign [tg] e pos) (zpI te g):=by
 intro pins s σ H D I h
 refine wpAny_Assign_stores (thn (he pins s σ H _ I h) λv s1 ⟨x,H1,I1,r1,q1⟩=>?_) hs hw
 rw[h1]
 exact thn (hg pins s1 σ H1 x v _ I1 r1 q1) λ_ s2 ⟨a,b,I,q⟩=>⟨a,b,I,q⟩
theorem zfA {te:TE}{pos':Pos}(hN:X.N.Nodup)(hi:X.N[i]? = some x)(hx:Loc X.env.scope x)(he:PE X e te)(hs:swapsWith e (some (.Name x pos')) pos.line X.env=pure false:=by rfl)(hf:X.fn x=true∨X.env.scope.names.lookup x=some .local:=by first|exact .inl rfl|exact .inr rfl|assumption) :
  PS X (.Assign [.Name x pos'] e pos) (zpI te (uq i)):=by
 intro pins s σ H D I h
 refine wpAny_Assign_Name (thn (he pins s σ H _ I h) λv s1 ⟨y,H1,I1,r1,q1⟩=>?_) hs
 exact za5 I1 hN hi hx r1 (λs2 I2=>⟨_,H1,I2,q1⟩) hf
end
section
variable {X:Cx}{pos:Pos}
def znu (c:TT)(tb:TS):TS:=λD σ H=>∃W:Nat->St->Hp->Prop,(∃m,W m σ H)/\∀m σ H,W m σ H ->
 c σ H λb H1=>if b=true then ∃N:St->Hp->Prop,(∀σ' H',N σ' H'->∃m',m'<m/\W m' σ' H')/\tb {D with nx:=N,ct:=N,bk:=D.nx} σ H1 else D.nx σ H1
theorem zkc {tc:TT}{tb:TS}(hp:PassesOwn (model X.prog X.w) X.A X.env X.xe)(hc:PT X c tc)(hb:PSs X body tb):PS X (.While c body [] pos) (znu tc tb):=by
 intro pins s σ H D I h
 obtain⟨W,⟨m0,w0⟩,turn⟩:=h
 refine wpAny_While (codeAny_whileLoop (λn s'=>∃σ' H',Inv X pins σ' H' s'/\W n σ' H') ?_ m0 ⟨σ,H,I,w0⟩)
 rintro n s1 ⟨σ1,H1,I1,w1⟩
 refine lb9 hp (thn (hc pins s1 σ1 H1 _ I1 (turn n σ1 H1 w1)) λb s2 zot=>?_)
 obtain⟨H2,I2,q2⟩:=zot
 cases b with
 | true =>
  obtain⟨N,hN,q2⟩:=q2
  rw[lU rfl]
  refine lb9 hp (thn (hb pins s2 σ1 H2 _ I2 q2) λf s3 q3=>?_)
  cases f with
  | next =>
   obtain⟨σ3,H3,I3,n3⟩:=q3
   obtain⟨m',hm,w3⟩:=hN σ3 H3 n3
   exact⟨m',hm,σ3,H3,I3,w3⟩
  | cont =>
   obtain⟨σ3,H3,I3,n3⟩:=q3
   obtain⟨m',hm,w3⟩:=hN σ3 H3 n3
   exact⟨m',hm,σ3,H3,I3,w3⟩
  | brk=>exact q3
  | ret v=>exact q3
 | false =>
  rw[lac lH]
  exact lcK ⟨σ1,H2,I2,q2⟩
end
structure It where
 go:Nat->Hp->Prop
 yld:Nat->Hp->V->Hp->Prop
 stop:Nat->Hp->Prop
def zax (X:Cx)(pins:List (Addr×Obj))(H:Hp)(b:Addr):Prop :=
 H b=none/\b≠X.env.locals/\b∉X.fs/\(b∈X.ex∨X.s₀.heap.objs.size<=b)/\(∀x c,X.env.cells.lookup x=some c->c≠b)/\∀p∈X.pn++pins,p.1≠b
theorem Inv.fpOk {X:Cx}{H':Hp}(I:Inv X pins σ H s)(hb:s.heap.objs.size<=b)(hn:H' b=none):zax X pins H' b:=by
 refine⟨hn,laJ (lK I.lt hb),I.nofs hb,.inr (lar I.sz hb),λx c e z=>?_,λp hp z=>?_⟩
 ·obtain⟨v,q⟩:=I.cell x c e
  exact absurd (lK q.lt (by rw[z];exact hb)) (lce _)
 ·exact absurd (lK (lE (I.pin p hp).1) (by rw[z];exact hb)) (lce _)
structure Turn (P:Program)(w:World)(K:qQ0)(tg:Expr)(J:It)(fp:List Addr)(it:Addr)(tn:Nat->Heap->Prop):Prop where
 mem:it∈fp
 obj:∀i h,tn i h->∀b∈fp,∃o,h.get? b=some o/\∀v,o.data≠.cell v
 keep:∀i h h',tn i h->(∀b∈fp,∀o,h.get? b=some o->h'.get? b=some o)->tn i h'
 item:∀(X:Cx),X.prog=P->X.w=w->X.K=K->X.calm=true->∀(i:Nat) (pins:List (Addr×Obj)) (s:Shared) (σ:St) (H:Hp) (E:qQ2),Inv X pins σ H s->(∀b∈fp,zax X pins H b)->tn i s.heap->J.go i H ->
  wpAny (model P w) X.A (pyNext (.ref it)) (λr s1=>∃u,r=some u /\
   wpAny (model P w) X.A (letOwnedTupleGo tg (.ref it) u) (λ_ s2=>∃x H',Inv X pins σ H' s2/\RelV x u/\J.yld i H x H'/\tn (i+1) s2.heap/\∀b∈fp,H' b=none) E s1) E s
 done:∀(X:Cx),X.prog=P->X.w=w->X.K=K->X.calm=true->∀(i:Nat) (pins:List (Addr×Obj)) (s:Shared) (σ:St) (H:Hp) (E:qQ2),Inv X pins σ H s->(∀b∈fp,zax X pins H b)->tn i s.heap->J.stop i H ->
  wpAny (model P w) X.A (pyNext (.ref it)) (λr s1=>r=none/\Inv X pins σ H s1) E s
 self:∀(A:Around) (i:Nat) (s:Shared) (Q:qQ2) (E:qQ2),tn i s.heap->Q (.ref it) s->wpAny (model P w) A (pyIter (.ref it)) Q E s
abbrev TI:=St->Hp->(It->Hp->Prop)->Prop
inductive PIE (X:Cx)(pins:List (Addr×Obj))(σ:St)(tg:Expr)(R:It->Hp->Prop)(itv:Value)(s2:Shared):Prop
 | mk (it:Addr) (fp:List Addr) (tn:Nat->Heap->Prop) (J:It) (H':Hp) (e:itv=.ref it) (I:Inv X pins σ H' s2) (T:Turn X.prog X.w X.K tg J fp it tn) (z:tn 0 s2.heap) (f:(∀b∈fp,zax X pins H' b)) (q:R J H')
def PI (X:Cx)(tg iter:Expr)(wi:TI):Prop :=
 ∀ (pins:List (Addr×Obj)) (s:Shared) (σ:St) (H:Hp) (R:It->Hp->Prop),Inv X pins σ H s->wi σ H R ->
  wpAny (model X.prog X.w) X.A (eval iter X.env) (λv s1=>wpAny (model X.prog X.w) X.A (pyIter v) (PIE X pins σ tg R) X.xe s1) X.xe s
theorem zjQ {A:Around}{it:Addr}{n:String}{vs:Array Value}(ho:s.heap.get? it=some o)(hc:o.cls=.type n)(hd:o.data=.fields vs)
  (hn:["enumerate", "zip", "dict_itemiterator", "dict_reverseitemiterator", "odict_iterator", "itertools.zip_longest", "itertools.pairwise"].contains n=false) (hQ:Q () s):wpAny M A (letOwnedTupleGo tg (.ref it) u) Q E s:=by
 unfold letOwnedTupleGo
 cases tg <;>first
  | exact lr hQ
  | (cases u <;>first
    | exact lr hQ
    | (refine la (wpAny_load ho ?_)
       rw[hc,hd]
       show wpAny M A (if (["enumerate", "zip", "dict_itemiterator", "dict_reverseitemiterator", "odict_iterator", "itertools.zip_longest", "itertools.pairwise"].contains n&&vs[0]? == some (rawInt _))=true then _ else _) Q E s
       rw[lac (by intro h;rw[hn,Bool.false_and] at h;cases h)]
       exact lr hQ))
def Itl (K:qQ0)(a:Addr):It :=
 ⟨λi H=>∃xs x,SqL K H a xs/\xs[i]? = some x,λi H x H'=>H'=H/\∀xs,SqL K H a xs->xs[i]? = some x,λi H=>∃xs,SqL K H a xs/\xs.length<=i⟩
def Itt (K:qQ0)(a:Addr):It :=
 ⟨λi H=>∃xs x,SqT K H a xs/\xs[i]? = some x,λi H x H'=>H'=H/\∀xs,SqT K H a xs->xs[i]? = some x,λi H=>∃xs,SqT K H a xs/\xs.length<=i⟩
def Itr (lo:Int)(n:Nat):It:=⟨λi _=>i<n,λi H x H'=>H'=H/\x=.int (lo+i),λi _=>n<=i⟩
theorem zht {K:qQ0}(a it:Addr):Turn P w K tg (Itl K a) [it] it (λi h=>h.IsListIter it a i) where
 mem:=by simp
 obj:=λi h st b hb=>by
  have e:b=it:=by simpa using hb
  subst e
  obtain⟨o,e,c,d⟩:=st
  exact⟨o,e,λv z=>by rw[d] at z;cases z⟩
 keep:=λi h h' st k=>st.at λo e=>k it (by simp) o e
 item:=by
  intro X hP hw hK hc i pins s σ H E I hf st hg
  subst hP hw hK
  obtain⟨xs,x,hq,hx⟩:=hg
  obtain⟨its,rv,p,hz⟩:=I.list hq
  obtain⟨u,hu,ru⟩:=rv.get hx
  obtain⟨f0,f1,f2,f3,f4,f5⟩:=hf it (by simp)
  refine wpAny_pyNext_list_item st p.isList (x:=u) (by simpa using hu) λh' st' sb=>?_
  have I1:Inv X pins σ H {s with heap:=h'}:=I.turned (t':=s.toks) (λb o hb e=>(sb.2 b hb).trans e) f0 f1 f3 f4 f5
  obtain⟨o,e,c,d⟩:=id st'
  exact⟨u,rfl,zjQ (s:={s with heap:=h'}) e c d (by decide) ⟨x,H,I1,ru,⟨rfl,λys hy=>by rw[I.list_inj hy hq];exact hx⟩,st',λb hb=>(hf b hb).1⟩⟩
 done:=by
  intro X hP hw hK hc i pins s σ H E I hf st hg
  subst hP hw hK
  obtain⟨xs,hq,hx⟩:=hg
  obtain⟨its,rv,p,hz⟩:=I.list hq
  obtain⟨f0,f1,f2,f3,f4,f5⟩:=hf it (by simp)
  have hl:=rv.length
  exact wpAny_pyNext_list_end (I.ok.hd hc) st p.isList (by simp;omega) λh' eb=>⟨rfl,I.turned (t':=s.toks) (λb o hb e=>eb b o hb e) f0 f1 f3 f4 f5⟩
 self:=λ_ _ _ _ _ st h=>wpAny_pyIter_listiter st h
theorem zgM {K:qQ0}(a it:Addr):Turn P w K tg (Itt K a) [it] it (λi h=>h.IsTupleIter it a i) where
 mem:=by simp
 obj:=λi h st b hb=>by
  have e:b=it:=by simpa using hb
  subst e
  obtain⟨o,e,c,d⟩:=st
  exact⟨o,e,λv z=>by rw[d] at z;cases z⟩
 keep:=λi h h' st k=>st.at λo e=>k it (by simp) o e
 item:=by
  intro X hP hw hK hc i pins s σ H E I hf st hg
  subst hP hw hK
  obtain⟨xs,x,hq,hx⟩:=hg
  obtain⟨its,rv,p,hz⟩:=I.tuple hq
  obtain⟨u,hu,ru⟩:=rv.get hx
  obtain⟨f0,f1,f2,f3,f4,f5⟩:=hf it (by simp)
  refine wpAny_pyNext_tuple_item st (show s.heap.IsTuple a its.toArray from p) (x:=u) (by simpa using hu) λh' st' sb=>?_
  have I1:Inv X pins σ H {s with heap:=h'}:=I.turned (t':=s.toks) (λb o hb e=>(sb.2 b hb).trans e) f0 f1 f3 f4 f5
  obtain⟨o,e,c,d⟩:=id st'
  exact⟨u,rfl,zjQ (s:={s with heap:=h'}) e c d (by decide) ⟨x,H,I1,ru,⟨rfl,λys hy=>by rw[I.tuple_inj hy hq];exact hx⟩,st',λb hb=>(hf b hb).1⟩⟩
 done:=by
  intro X hP hw hK hc i pins s σ H E I hf st hg
  subst hP hw hK
  obtain⟨xs,hq,hx⟩:=hg
  obtain⟨its,rv,p,hz⟩:=I.tuple hq
  obtain⟨f0,f1,f2,f3,f4,f5⟩:=hf it (by simp)
  have hl:=rv.length
  exact wpAny_pyNext_tuple_end (I.ok.hd hc) st (show s.heap.IsTuple a its.toArray from p) (by simp;omega) λh' eb=>⟨rfl,I.turned (t':=s.toks) (λb o hb e=>eb b o hb e) f0 f1 f3 f4 f5⟩
 self:=λ_ _ _ _ _ st h=>wpAny_pyIter_tupleiter st h
theorem zgG {K:qQ0}(it:Addr)(lo:Int)(n:Nat):Turn P w K tg (Itr lo n) [it] it (λi h=>IsRangeIter h it (lo+(i:Nat)*1) ((n:Int) - (i:Nat)) 1) where
 mem:=by simp
 obj:=λi h st b hb=>by
  have e:b=it:=by simpa using hb
  subst e
  exact ⟨_,st,λv z=>by
   have z':Data.fields _=Data.cell v:=z
   cases z'⟩
 keep:=λi h h' st k=>k it (by simp) _ st
 item:=by
  intro X hP hw hK hc i pins s σ H E I hf st hg
  subst hP hw hK
  obtain⟨f0,f1,f2,f3,f4,f5⟩:=hf it (by simp)
  have W:=Walks.range (prog:=X.prog) (w:=X.w) (I.ok.hd hc) it lo 1 n
  refine W.item i s _ _ hg st λv h' tk hv st' kk=>?_
  obtain⟨t,rfl⟩:=hv
  have I1:Inv X pins σ H {s with heap:=h',toks:=tk}:=I.turned (λb o hb e=>kk b o (by simpa using hb) e) f0 f1 f3 f4 f5
  refine⟨_,rfl,zjQ (s:={s with heap:=h',toks:=tk}) (n := "range_iterator") st' rfl rfl (by decide) ⟨.int (lo+i),H,I1,⟨t,?_⟩,⟨rfl,rfl⟩,st',λb hb=>(hf b hb).1⟩⟩
  rw[Int.mul_one]
 done:=by
  intro X hP hw hK hc i pins s σ H E I hf st hg
  subst hP hw hK
  obtain⟨f0,f1,f2,f3,f4,f5⟩:=hf it (by simp)
  exact wpAny_pyNext_range_end (I.ok.hd hc) st (by have:n<=i:=hg;omega) λh' eb=>⟨rfl,I.turned (t':=s.toks) (λb o hb e=>eb b o hb e) f0 f1 f3 f4 f5⟩
 self:=λ_ _ _ _ _ st h=>wpAny_pyIter_rangeiter st h
section
variable {X:Cx}{tg:Expr}
def zph (K:qQ0)(tl:TE):TI:=λσ H R=>tl σ H λx H1=>∃a,x=.ref a/\(∃xs,SqL K H1 a xs)/\R (Itl K a) H1
def zpQ (K:qQ0)(tl:TE):TI:=λσ H R=>tl σ H λx H1=>∃a,x=.ref a/\(∃xs,SqT K H1 a xs)/\R (Itt K a) H1
theorem zml {l:Expr}{tl:TE}(hl:PE X l tl):PI X tg l (zph X.K tl):=by
 intro pins s σ H R I h
 refine thn (hl pins s σ H _ I h) λv s1 zkN=>?_
 obtain⟨x,H1,I1,r1,q1⟩:=zkN
 obtain⟨a,e,⟨xs,hq⟩,q⟩:=q1
 subst e
 cases r1
 obtain⟨its,rv,p,hz⟩:=I1.list hq
 refine lca p.isList ?_
 refine⟨s1.heap.objs.size,[s1.heap.objs.size],_,_,H1,rfl,I1.kept (t':=s1.toks) λb o e=>lg _ e,zht a _,⟨_,lC _ rfl,rfl,rfl⟩,λb hb=>?_,q⟩
 have e:b=s1.heap.objs.size:=by simpa using hb
 subst e
 exact I1.fpOk (lB _) (I1.hok.fresh (lB _))
theorem znx {l:Expr}{tl:TE}(hl:PE X l tl):PI X tg l (zpQ X.K tl):=by
 intro pins s σ H R I h
 refine thn (hl pins s σ H _ I h) λv s1 zkB=>?_
 obtain⟨x,H1,I1,r1,q1⟩:=zkB
 obtain⟨a,e,⟨xs,hq⟩,q⟩:=q1
 subst e
 cases r1
 obtain⟨its,rv,p,hz⟩:=I1.tuple hq
 refine ldt (show s1.heap.IsTuple a its.toArray from p) ?_
 refine⟨s1.heap.objs.size,[s1.heap.objs.size],_,_,H1,rfl,I1.kept (t':=s1.toks) λb o e=>lg _ e,zgM a _,⟨_,lC _ rfl,rfl,rfl⟩,λb hb=>?_,q⟩
 have e:b=s1.heap.objs.size:=by simpa using hb
 subst e
 exact I1.fpOk (lB _) (I1.hok.fresh (lB _))
theorem zfQ {R:It->Hp->Prop}{lo hi:Int}{t u v:Tok}{tk:Nat}(I:Inv X pins σ H s)(h1:-(2 ^ 62)<=lo)(h2:lo<2 ^ 62)(h3:-(2 ^ 62)<=hi)(h4:hi<2 ^ 62)
  (q:R (Itr lo (hi - lo).toNat) H):wpAny (model X.prog X.w) X.A (pyIter (.ref s.heap.objs.size)) (PIE X pins σ tg R) E {s with heap:=s.heap.push {cls:=.type "range", data:=.fields #[.int lo t,.int hi u,.int 1 v]},toks:=tk}:=by
 refine wpAny_pyIter_range (IsRange.new ..) (small_one h1 h2 h3 h4) ?_
 have I1:Inv X pins σ H {s with heap:=s.heap.push {cls:=.type "range", data:=.fields #[.int lo t,.int hi u,.int 1 v]},toks:=tk}:=I.kept λb o e=>lg _ e
 refine ⟨(s.heap.push {cls:=.type "range", data:=.fields #[.int lo t,.int hi u,.int 1 v]}).objs.size,[(s.heap.push {cls:=.type "range", data:=.fields #[.int lo t,.int hi u,.int 1 v]}).objs.size],_,_,H,rfl,
  I1.kept (t':=tk) λb o e=>lg _ e,zgG _ lo (hi - lo).toNat,?_,λb hb=>?_,q⟩
 ·have e1:lo+((0:Nat):Int)*1=lo:=by simp
  have e2:(((hi - lo).toNat:Nat):Int) - ((0:Nat):Int)=Builtin.Range.rangeSize lo hi 1:=by rw[rangeSize_one];split <;>omega
  show IsRangeIter _ _ (lo+((0:Nat):Int)*1) ((((hi - lo).toNat:Nat):Int) - ((0:Nat):Int)) 1
  rw[e1,e2]
  exact lC _ rfl
 ·have e:b=(s.heap.push {cls:=.type "range", data:=.fields #[.int lo t,.int hi u,.int 1 v]}).objs.size:=by simpa using hb
  subst e
  exact I1.fpOk (lB _) (I1.hok.fresh (lB _))
def zpl (ta:TA):TI:=λσ H R=>ta σ H λvs H1=>∃j:Int,vs=[.int j]/\-(2 ^ 62)<=j/\j<2 ^ 62/\R (Itr 0 j.toNat) H1
def zoA (ta:TA):TI:=λσ H R=>ta σ H λvs H1=>∃i j:Int,vs=[.int i,.int j]/\(-(2 ^ 62)<=i/\i<2 ^ 62/\-(2 ^ 62)<=j/\j<2 ^ 62)/\R (Itr i (j - i).toNat) H1
theorem ziv {a:Expr}{ta:TA}{p:Pos}(hg:Gl X "range")(hm:X.mg "range" = none)(ha:PA X [a] ta)(hs:starEach [a] X.env=[(false,eval a X.env)]:=by rfl):PI X tg (.Call (.Name "range" p) [a] [] pos) (zpl ta):=by
 intro pins s σ H R I h
 refine Call_ (zaO I hg hm boot_range (lbR (thn (ha pos pins s σ H _ I h) λus s1 ⟨vs,H1,I1,r1,q1⟩=>?_) hs rfl))
 obtain⟨j,e,q1,q2,q⟩:=q1
 subst e
 cases r1 with
 | cons r rr =>
  cases rr
  obtain⟨t,rfl⟩:=r
  exact call_range_1 (zfQ I1 (by omega) (by omega) q1 q2 (by simpa using q))
theorem zhv {a b:Expr}{ta:TA}{p:Pos}(hg:Gl X "range")(hm:X.mg "range" = none)(ha:PA X [a,b] ta)(hs:starEach [a,b] X.env=[(false,eval a X.env),(false,eval b X.env)]:=by rfl)(hs2:starEach [b] X.env=[(false,eval b X.env)]:=by rfl) :
  PI X tg (.Call (.Name "range" p) [a,b] [] pos) (zoA ta):=by
 intro pins s σ H R I h
 refine Call_ (zaO I hg hm boot_range (lbR (thn (ha pos pins s σ H _ I h) λus s1 zow=>?_) (by rw[hs,hs2]) (by rw[hs2];rfl)))
 obtain⟨vs,H1,I1,r1,q1⟩:=zow
 obtain⟨i,j,e,⟨q1,q2,q3,q4⟩,q⟩:=q1
 subst e
 cases r1 with
 | cons r rr =>
  cases rr with
  | cons r' rr =>
   cases rr
   obtain⟨t,rfl⟩:=r
   obtain⟨t',rfl⟩:=r'
   exact call_range_2 (zfQ I1 q1 q2 q3 q4 q)
def zqa (wi:TI)(g:TG)(tb:TS):TS:=λD σ H=>wi σ H λJ H1=>∃W:Nat->Nat->St->Hp->Prop,(∃m,W 0 m σ H1)/\∀i m σ H,W i m σ H ->
 (J.stop i H/\D.nx σ H)∨(J.go i H/\∃N:St->Hp->Prop,(∀σ' H',N σ' H'->∃m',m'<m/\W (i+1) m' σ' H')/\∀x H',J.yld i H x H'->g x σ H' λσ2 H2=>tb {D with nx:=N,ct:=N,bk:=D.nx} σ2 H2)
def zbH (fp:List Addr)(h:Heap):List (Addr×Obj):=fp.filterMap λb=>(h.get? b).map λo=>(b,o)
theorem vf (hb:b∈fp)(e:h.get? b=some o):(b,o)∈zbH fp h:=ldu.mpr ⟨b,hb,by rw[e];rfl⟩
theorem zds {p:Addr×Obj}(hp:p∈zbH fp h):p.1∈fp/\h.get? p.1=some p.2:=by
 obtain⟨b,hb,e⟩:=ldu.mp hp
 cases q:h.get? b with
 | none=>rw[q] at e;cases e
 | some o =>
  rw[q] at e
  have e':(b,o)=p:=lq e
  subst e'
  exact⟨hb,q⟩
theorem Inv.pinned (I:Inv X pins σ H s)(hf:∀b∈fp,zax X pins H b)(ho:∀b∈fp,∃o,s.heap.get? b=some o/\∀v,o.data≠.cell v):Inv X (pins++zbH fp s.heap) σ H s :=
 I.pins_of λp hp=>(laW.mp hp).elim (λz=>I.pin p (lN _ z)) λz=>by
  obtain⟨hb,e⟩:=zds z
  obtain⟨f0,f1,f2,_⟩:=hf p.1 hb
  obtain⟨o,e',d⟩:=ho p.1 hb
  rw[e] at e';cases e'
  exact⟨e,f0,f1,f2,d⟩
theorem Inv.unpinned {pl:List (Addr×Obj)}(I:Inv X (pins++pl) σ H s):Inv X pins σ H s:=I.pins_of λp hp=>I.pin p (lN _ (lbL _ hp))
theorem zkR {iter:Expr}{wi:TI}{g:TG}{tb:TS}(hp:PassesOwn (model X.prog X.w) X.A X.env X.xe)(hc:X.calm=true)(hi:PI X tg iter wi)(hg:PG X tg g)(hb:PSs X body tb)
  (hs:∀x,foldedSetIterable iter X.env x=pure x:=by intro _;rfl):PS X (.For tg iter body [] pos) (zqa wi g tb):=by
 intro pins s σ H D I h
 refine wpAny_For (thn (hi pins s σ H _ I h) λv s1 h1=>thn h1 λitv s2 h2=>?_) hs
 obtain⟨it,fp,tn,J,H2,e,I2,T,st2,f2,W,⟨m0,w0⟩,turn⟩:=h2
 subst e
 have stat:∀{H':Hp},(∀b∈fp,H' b=none)->∀b∈fp,zax X pins H' b:=λhn b hb=>⟨hn b hb,(f2 b hb).2⟩
 refine codeAny_forLoop_any (λn s'=>∃i σ' H',Inv X pins σ' H' s'/\tn i s'.heap/\(∀b∈fp,H' b=none)/\W i n σ' H') ?_ m0 ⟨0,σ,H2,I2,st2,λb hb=>(f2 b hb).1,w0⟩
 rintro n s3 ⟨i,σ3,H3,I3,st3,fr3,w3⟩
 rcases turn i n σ3 H3 w3 with⟨stop,qn⟩|⟨go,N,hN,step⟩
 ·refine lb9 hp (thn (T.done X rfl rfl rfl hc i pins s3 σ3 H3 X.xe I3 (stat fr3) st3 stop) λr s4 znI=>?_)
  obtain⟨hr,I4⟩:=znI
  subst hr
  exact lcK ⟨σ3,H3,I4,qn⟩
 ·refine lb9 hp (thn (T.item X rfl rfl rfl hc i pins s3 σ3 H3 X.xe I3 (stat fr3) st3 go) λr s4 zon=>?_)
  obtain⟨u,hr,h4⟩:=zon
  subst hr
  refine lb9 hp (thn h4 λ_ s5 zmD=>?_)
  obtain⟨x,H5,I5,r5,y5,st5,fr5⟩:=zmD
  have I5':=I5.pinned (stat fr5) (T.obj _ _ st5)
  refine lb9 hp (thn (hg _ s5 σ3 H5 x u _ I5' r5 (step x H5 y5)) λ_ s6 zny=>?_)
  obtain⟨σ6,H6,I6,q6⟩:=zny
  refine lb9 hp (thn (hb _ s6 σ6 H6 _ I6 q6) λf s7 q7=>?_)
  have again:∀{σ7:St}{H7:Hp},Inv X (pins++zbH fp s5.heap) σ7 H7 s7->N σ7 H7->∃m,m<n/\∃i σ' H',Inv X pins σ' H' s7/\tn i s7.heap/\(∀b∈fp,H' b=none)/\W i m σ' H':=λ{σ7 H7} I7 n7=>by
   obtain⟨m',hm,w7⟩:=hN σ7 H7 n7
   refine⟨m',hm,i+1,σ7,H7,I7.unpinned,T.keep _ _ _ st5 λb hb o e=>(I7.pin (b,o) (lN _ (lN _ (vf hb e)))).1,λb hb=>?_,w7⟩
   obtain⟨o,e,d⟩:=T.obj _ _ st5 b hb
   exact(I7.pin (b,o) (lN _ (lN _ (vf hb e)))).2.1
  cases f with
  | next=>obtain⟨σ7,H7,I7,n7⟩:=q7;exact again I7 n7
  | cont=>obtain⟨σ7,H7,I7,n7⟩:=q7;exact again I7 n7
  | brk=>obtain⟨σ7,H7,I7,q7⟩:=q7;exact⟨σ7,H7,I7.unpinned,q7⟩
  | ret v=>obtain⟨x7,σ7,H7,I7,r7,q7⟩:=q7;exact⟨x7,σ7,H7,I7.unpinned,r7,q7⟩
end
abbrev R2:=V->V->Hp->VK->Prop
variable {r:R2}
def OpR (X:Cx)(f:Value->Value->Sem Value)(r:R2):Prop :=
 ∀ (pins:List (Addr×Obj)) (s:Shared) (σ:St) (H:Hp) (x y:V) (v u:Value) (Q:VK),Inv X pins σ H s->RelV x v->RelV y u->r x y H Q ->
  wpAny (model X.prog X.w) X.A (f v u) (EP X pins σ Q) X.xe s
def UnR (X:Cx)(f:Value->Sem Value)(r:V->Hp->VK->Prop):Prop :=
 ∀ (pins:List (Addr×Obj)) (s:Shared) (σ:St) (H:Hp) (x:V) (v:Value) (Q:VK),Inv X pins σ H s->RelV x v->r x H Q ->
  wpAny (model X.prog X.w) X.A (f v) (EP X pins σ Q) X.xe s
def qP (X:Cx)(f:Value)(r:List V->Hp->VK->Prop):Prop :=
 ∀ (pins:List (Addr×Obj)) (s:Shared) (σ:St) (H:Hp) (xs:List V) (us:List Value) (Q:VK),Inv X pins σ H s->Vals xs us->r xs H Q ->
  wpAny (model X.prog X.w) X.A (call f us) (EP X pins σ Q) X.xe s
def tOp (r:R2)(ta tb:TE):TE:=λσ H Q=>ta σ H λx H1=>tb σ H1 λy H2=>r x y H2 Q
def tUn (r:V->Hp->VK->Prop)(ta:TE):TE:=λσ H Q=>ta σ H λx H1=>r x H1 Q
def rI (C:Int->Int->Prop)(g:Int->Int->V):R2:=λx y H Q=>∃i j,x=.int i/\y=.int j/\C i j/\Q (g i j) H
def rI0 (g:Int->Int->V):R2:=λx y H Q=>∃i j,x=.int i/\y=.int j/\Q (g i j) H
def rU (g:Int->V):V->Hp->VK->Prop:=λx H Q=>∃i,x=.int i/\Q (g i) H
section
variable {X:Cx}{a b c:Expr}{ta tb tc:TE}{pos:Pos}
theorem zoJ (ha:PE X a ta)(hb:PE X b tb){R:V->V->Hp->Prop}(I:Inv X pins σ H s)
  (h:ta σ H λx H1=>tb σ H1 λy H2=>R x y H2) {Q:qQ2}
  (hf:∀v u s2 x y H2,Inv X pins σ H2 s2->RelV x v->RelV y u->R x y H2->wpAny (model X.prog X.w) X.A (f v u) Q X.xe s2) :
  wpAny (model X.prog X.w) X.A (eval a X.env) (λv s₁=>wpAny (model X.prog X.w) X.A (eval b X.env) (λu s₂=>wpAny (model X.prog X.w) X.A (f v u) Q X.xe s₂) X.xe s₁) X.xe s:=by
 refine thn (ha pins s σ H _ I h) λv s1 znl=>?_
 obtain⟨x,H1,I1,r1,q1⟩:=znl
 refine thn (hb pins s1 σ H1 _ I1 q1) λu s2 zn4=>?_
 obtain⟨y,H2,I2,r2,q2⟩:=zn4
 exact hf v u s2 x y H2 I2 r1 r2 q2
theorem zlr {op:Operator}(ho:OpR X (binaryOp op) r)(ha:PE X a ta)(hb:PE X b tb):PE X (.BinOp a op b pos) (tOp r ta tb):=by
 intro pins s σ H Q I h
 exact wpAny_BinOp (zoJ ha hb I h λv u s2 x y H2 I2 rx ry q=>ho pins s2 σ H2 x y v u Q I2 rx ry q)
theorem zo9 {op:UnaryOp}{r:V->Hp->VK->Prop}(ho:UnR X (unaryOp op) r)(ha:PE X a ta):PE X (.UnaryOp op a pos) (tUn r ta):=by
 intro pins s σ H Q I h
 exact UnaryOp_ (thn (ha pins s σ H _ I h) λv s1 ⟨x,H1,I1,r1,q1⟩=>ho pins s1 σ H1 x v Q I1 r1 q1)
theorem opI {C:Int->Int->Prop}{g:Int->Int->Int}
  (rule:∀(i j:Int) (t u:Tok) (s:Shared) (Q:qQ2) (E:qQ2),C i j->Q (.int (g i j) s.toks) {s with toks:=s.toks+1}->wpAny (model X.prog X.w) X.A (f (.int i t) (.int j u)) Q E s) :
  OpR X f (rI C λi j=>.int (g i j)):=by
 intro pins s σ H x y v u Q I rx ry h
 obtain⟨i,j,rfl,rfl,hc,q⟩:=h
 obtain⟨t,rfl⟩:=rx
 obtain⟨t',rfl⟩:=ry
 exact rule i j t t' s _ _ hc ⟨.int (g i j),H,I.tok _,⟨_,rfl⟩,q⟩
theorem zpH {g:Int->Int->Int}
  (rule:∀(i j:Int) (t u:Tok) (s:Shared) (Q:qQ2) (E:qQ2),Q (.int (g i j) s.toks) {s with toks:=s.toks+1}->wpAny (model X.prog X.w) X.A (f (.int i t) (.int j u)) Q E s) :
  OpR X f (rI0 λi j=>.int (g i j)):=by
 intro pins s σ H x y v u Q I rx ry h
 obtain⟨i,j,rfl,rfl,q⟩:=h
 obtain⟨t,rfl⟩:=rx
 obtain⟨t',rfl⟩:=ry
 exact rule i j t t' s _ _ ⟨.int (g i j),H,I.tok _,⟨_,rfl⟩,q⟩
theorem zpz {g:Int->Int->Bool}
  (rule:∀(i j:Int) (t u:Tok) (s:Shared) (Q:qQ2) (E:qQ2),Q (.bool (g i j)) s->wpAny (model X.prog X.w) X.A (f (.int i t) (.int j u)) Q E s) :
  OpR X f (rI0 λi j=>.bl (g i j)):=by
 intro pins s σ H x y v u Q I rx ry h
 obtain⟨i,j,rfl,rfl,q⟩:=h
 obtain⟨t,rfl⟩:=rx
 obtain⟨t',rfl⟩:=ry
 exact rule i j t t' s _ _ ⟨.bl (g i j),H,I,rfl,q⟩
def CMul (i j:Int):Prop:=(-(2 ^ 64)<i/\i<2 ^ 64)∨(-(2 ^ 64)<j/\j<2 ^ 64)
theorem CMul.ok {i j:Int}(h:CMul i j):IntMulOk i j:=by
 rcases h with⟨h1,h2⟩|⟨h1,h2⟩
 ·exact .of_left (intBits_le_64 h1 h2)
 ·exact .of_right (intBits_le_64 h1 h2)
theorem wZ:OpR X (binaryOp .Add) (rI0 λi j=>.int (i+j)):=zpH λ_ _ _ _ _ _ _ q=>add_int q
theorem zfB:OpR X (binaryOp .Sub) (rI0 λi j=>.int (i - j)):=zpH λ_ _ _ _ _ _ _ q=>sub_int q
theorem zco:OpR X (binaryOp .Mod) (rI (λ_ j=>0<j) λi j=>.int (i % j)):=opI λi j _ _ _ _ _ hc q=>by
 have h1:(0:Int)<j:=hc
 exact mod_int' (by omega) (by rw[Int.fmod_eq_emod_of_nonneg i (by omega)];exact q)
theorem unI {f:Value->Sem Value}{g:Int->Int}
  (rule:∀(i:Int) (t:Tok) (s:Shared) (Q:qQ2) (E:qQ2),Q (.int (g i) s.toks) {s with toks:=s.toks+1}->wpAny (model X.prog X.w) X.A (f (.int i t)) Q E s) :
  UnR X f (rU λi=>.int (g i)):=by
 intro pins s σ H x v Q I rx h
 obtain⟨i,rfl,q⟩:=h
 obtain⟨t,rfl⟩:=rx
 exact rule i t s _ _ ⟨.int (g i),H,I.tok _,⟨_,rfl⟩,q⟩
theorem zm3:UnR X (unaryOp .USub) (rU λi=>.int (-i)):=unI λ_ _ _ _ _ q=>neg_int q
end
section
variable {X:Cx}{a b c:Expr}{ta tb tc:TE}{pos:Pos}
theorem zf3 {Q:VK}{k k':Bool}(I:Inv X pins σ H s)(q:Q (.bl k) H)(e:k=k'):EP X pins σ Q (.bool k') s:=by
 subst e
 exact⟨.bl k,H,I,rfl,q⟩
theorem zoZ:OpR X (compareOp .Lt) (rI0 λi j=>.bl (decide (i<j))):=zpz λ_ _ _ _ _ _ _ q=>lt_int q
theorem ziq:OpR X (compareOp .LtE) (rI0 λi j=>.bl (decide (i<=j))):=zpz λ_ _ _ _ _ _ _ q=>le_int q
theorem ziJ:OpR X (compareOp .Lt) (λx y H Q=>∃i j,x=.str i/\y=.str j/\Q (.bl (decide (i.cps.toList<j.cps.toList))) H):=by
 intro pins s σ H x y v u Q I rx ry h
 obtain⟨i,j,rfl,rfl,q⟩:=h
 obtain⟨t,rfl⟩:=rx
 obtain⟨t',rfl⟩:=ry
 exact lt_str (zf3 I q rfl)
theorem yQ (b:Expr)(h:op≠.In:=by decide)(h2:op≠.NotIn:=by decide):behindInMarks op b=false:=by
 have e1:(op == CmpOp.In)=false:=by cases op <;>first|rfl|exact absurd rfl h
 have e2:(op == CmpOp.NotIn)=false:=by cases op <;>first|rfl|exact absurd rfl h2
 cases b <;>simp[behindInMarks,e1,e2]
theorem zlL (ho:OpR X (compareOp op) r)(ha:PE X a ta)(hb:PE X b tb)(hm:behindInMarks op b=false):PE X (.Compare a [op] [b] pos) (tOp r ta tb):=by
 intro pins s σ H Q I h
 exact wpAny_Compare1 (zoJ ha hb I h λv u s2 x y H2 I2 rx ry q=>ho pins s2 σ H2 x y v u Q I2 rx ry q) hm
def znw (t:TE):TT:=λσ H Q=>t σ H λx H'=>∃k,x=.bl k/\Q k H'
theorem zlZ (ho:OpR X (compareOp op) r)(ha:PE X a ta)(hb:PE X b tb)(hm:behindInMarks op b=false):PT X (.Compare a [op] [b] pos) (znw (tOp r ta tb)):=by
 intro pins s σ H Q I h
 refine wpAny_isTrue_Compare1 (thn (ha pins s σ H _ I h) λv s1 ⟨x,H1,I1,r1,q1⟩=>thn (hb pins s1 σ H1 _ I1 q1) λu s2 ⟨y,H2,I2,r2,q2⟩ =>
  thn (ho pins s2 σ H2 x y v u _ I2 r1 r2 q2) λc s3 ⟨z,H3,I3,r3,k,e,q3⟩=>?_) hm
 subst e
 cases r3
 exact laN ⟨H3,I3,q3⟩
def zhf (r r':R2)(ta tb tc:TE):TE:=λσ H Q=>ta σ H λx H1=>tb σ H1 λy H2=>r x y H2 λz H3=>∃k,z=.bl k /\
 (if k=true then tc σ H3 λw' H4=>r' y w' H4 Q else Q (.bl false) H3)
theorem zjt {op':CmpOp}{r':R2}(ho:OpR X (compareOp op) r)(ho':OpR X (compareOp op') r')(ha:PE X a ta)(hb:PE X b tb)(hc:PE X c tc)
  (hm:lastMarks [op,op'] [b,c]=false:=by with_unfolding_all rfl):PE X (.Compare a [op,op'] [b,c] pos) (zhf r r' ta tb tc):=by
 intro pins s σ H Q I h
 refine Compare_chain (thn (ha pins s σ H _ I h) λv s1 ⟨x,H1,I1,r1,q1⟩=>chain_link (thn (hb pins s1 σ H1 _ I1 q1) λu s2 ⟨y,H2,I2,r2,q2⟩ =>
  thn (ho pins s2 σ H2 x y v u _ I2 r1 r2 q2) λd s3 ⟨z,H3,I3,r3,k,e,q3⟩=>?_)) hm
 subst e
 cases r3
 refine laN ?_
 cases k with
 | false=>exact ite_ff ⟨.bl false,H3,I3,rfl,q3⟩
 | true=>exact ite_tt (chain_last (thn (hc pins s3 σ H3 _ I3 q3) λw' s4 ⟨z',H4,I4,r4,q4⟩=>ho' pins s4 σ H4 y z' u w' Q I4 r2 r4 q4))
theorem zjm {op':CmpOp}{r':R2}(ho:OpR X (compareOp op) r)(ho':OpR X (compareOp op') r')(ha:PE X a ta)(hb:PE X b tb)(hc:PE X c tc)
  (hm:lastMarks [op,op'] [b,c]=false:=by with_unfolding_all rfl):PT X (.Compare a [op,op'] [b,c] pos) (znw (zhf r r' ta tb tc)):=by
 intro pins s σ H Q I h
 refine isTrue_chain (thn (ha pins s σ H _ I h) λv s1 ⟨x,H1,I1,r1,q1⟩=>test_link (thn (hb pins s1 σ H1 _ I1 q1) λu s2 ⟨y,H2,I2,r2,q2⟩ =>
  thn (ho pins s2 σ H2 x y v u _ I2 r1 r2 q2) λd s3 ⟨z,H3,I3,r3,k,e,q3⟩=>?_)) hm
 subst e
 cases r3
 refine laN ?_
 cases k with
 | false =>
  obtain⟨k',e',q'⟩:=q3
  cases e'
  exact ite_ff ⟨H3,I3,q'⟩
 | true =>
  refine ite_tt (test_last (thn (hc pins s3 σ H3 _ I3 q3) λw' s4 ⟨z',H4,I4,r4,q4⟩=>thn (ho' pins s4 σ H4 y z' u w' _ I4 r2 r4 q4) λd' s5 zov=>?_))
  obtain⟨z2,H5,I5,r5,k2,e2,q5⟩:=zov
  subst e2
  cases r5
  exact laN ⟨H5,I5,q5⟩
theorem zfF:(sizeLine:Nat)<2 ^ 63:=by rw[lbg];decide
theorem zgH:OpR X (binaryOp .Add) (λx y H Q=>∃i j,x=.str i/\y=.str j/\i.length+j.length<=sizeLine/\Q (.str (i++j)) H):=by
 intro pins s σ H x y v u Q I rx ry h
 obtain⟨i,j,rfl,rfl,hz,q⟩:=h
 obtain⟨t,rfl⟩:=rx
 obtain⟨t',rfl⟩:=ry
 exact add_str (λt' tk=>⟨.str (i++j),H,I.tok _,⟨_,rfl⟩,q⟩) hz
theorem vals1 {x:V}(r:Vals [x] us):∃u,us=[u]/\RelV x u:=by
 cases r with
 | cons r1 r2=>cases r2;exact⟨_,rfl,r1⟩
theorem vals2 {x y:V}(r:Vals [x,y] us):∃u w',us=[u,w']/\RelV x u/\RelV y w':=by
 cases r with
 | cons r1 r2 =>
  cases r2 with
  | cons r3 r4=>cases r4;exact⟨_,_,rfl,r1,r3⟩
def zpL (K:qQ0)(x:V)(H:Hp)(n:Nat):Prop :=
 match x with
 | .str y=>y.length<=sizeLine/\n=y.length
 | .byt y=>y.size<=sizeLine/\n=y.size
 | .ref p=>(∃xs,SqL K H p xs/\n=xs.length)∨∃xs,SqT K H p xs/\n=xs.length
 | _=>False
theorem xX:qP X (.builtin "len") (λxs H Q=>∃x n,xs=[x]/\zpL X.K x H n/\Q (.int n) H):=by
 intro pins s σ H xs us Q I r h
 obtain⟨x,n,rfl,e,q⟩:=h
 obtain⟨u,rfl,rx⟩:=vals1 r
 have hl:=zfF
 have hs:sizeLine=16777216:=lbg
 cases x with
 | str y =>
  obtain⟨t,rfl⟩:=rx
  obtain⟨hy,e'⟩:y.length<=sizeLine/\n=y.length:=e
  subst e'
  exact len_str (by omega) ⟨.int _,H,I.tok _,⟨_,rfl⟩,q⟩
 | byt y =>
  obtain⟨t,rfl⟩:=rx
  obtain⟨hy,e'⟩:y.size<=sizeLine/\n=y.size:=e
  subst e'
  exact PySem.W.len_bytes (by omega) ⟨.int _,H,I.tok _,⟨_,rfl⟩,q⟩
 | ref p =>
  cases rx
  have e':(∃xs,SqL X.K H p xs/\n=xs.length)∨∃xs,SqT X.K H p xs/\n=xs.length:=e
  rcases e' with⟨xs,hx,e'⟩|⟨xs,hx,e'⟩
  ·subst e'
   obtain⟨its,r',pl,hz⟩:=I.list hx
   have hlen:=r'.length
   exact Calls.call_len_list pl.isList (by simp only[lP];omega) ⟨.int xs.length,H,I.tok _,⟨_,by simp only[lP];rw[hlen]⟩,q⟩
  ·subst e'
   obtain⟨its,r',pl,hz⟩:=I.tuple hx
   have hlen:=r'.length
   exact len_tuple pl (by simp only[lP];omega) ⟨.int xs.length,H,I.tok _,⟨_,by simp only[lP];rw[hlen]⟩,q⟩
 | _=>exact(show False from e).elim
end
structure Cls (K:qQ0)(C:Addr):Prop where
 pg:PySem.W.plainGet K C Str.empty=true
 hd:PySem.W.hasDictIn K C=true
 po:PySem.W.plainOver K C=true
 sa:PySem.W.findIn K (.ref C) "__setattr__" = some (some (.builtin "object.__setattr__"))
theorem Cls.get {K:qQ0}{C:Addr}(c:Cls K C)(f:Str):PySem.W.plainGet K C f=true:=c.pg
structure Room (k:Nat)(A:Around):Prop where
 hd:A.handled=none
 dp:A.depth+3*k+5<recursionLimit
 un:A.units+16*k+200<cLine
theorem Room.mono {A:Around}(r:Room k A)(h:j<=k):Room j A:=⟨r.hd,by have:=r.dp;omega,by have:=r.un;omega⟩
theorem Room.deeper {A:Around}(r:Room (k+1) A)(env:Env):Room k (A.deeper env) :=
 ⟨r.hd,by have:=r.dp;show A.depth+1+3*k+5<_;omega,by have:=r.un;show A.units+3+16*k+200<_;omega⟩
theorem Room.in1 {A:Around}(r:Room (k+1) A):Room k A.in1 :=
 ⟨r.hd,by have:=r.dp;show A.depth+3*k+5<_;omega,by have:=r.un;show A.units+1+16*k+200<_;omega⟩
theorem Room.depth {A:Around}(r:Room k A):A.depth<recursionLimit:=by have:=r.dp;omega
theorem Room.units {A:Around}(r:Room k A):A.units+64<cLine:=by have:=r.un;omega
def zor:TA:=λ_ H Q=>Q [] H
def zeV (ta:TE)(tr:TA):TA:=λσ H Q=>ta σ H λx H1=>tr σ H1 λxs H2=>Q (x::xs) H2
section
variable {X:Cx}{e:Expr}{es:List Expr}{te:TE}{t:TA}{pos:Pos}
theorem vX:PA X [] zor:=λ_ _ _ _ H Q I h=>Calls.spliced_nil ⟨[],H,I,.nil,h⟩
theorem yX (ha:PE X e te)(hr:PA X es t)(hs:starEach (e::es) X.env=(false,eval e X.env)::starEach es X.env:=by rfl):PA X (e::es) (zeV te t):=by
 intro pos pins s σ H Q I h
 rw[hs]
 show wpAny _ _ (spliced ((false,eval e X.env)::backTo pos (starEach es X.env))) _ _ s
 refine Calls.spliced_cons (thn (ha pins s σ H _ I h) λu s1 zou=>?_)
 obtain⟨x,H1,I1,r1,q1⟩:=zou
 exact thn (hr pos pins s1 σ H1 _ I1 q1) λus s2 ⟨xs,H2,I2,r2,q2⟩=>⟨x::xs,H2,I2,.cons r1 r2,q2⟩
def zqg (t:TA):TE:=λσ H Q=>t σ H λxs H1=>xs.length<=sizeLine/\∀p,H1 p=none->Q (.ref p) (upd H1 p (.tup xs))
def zpO (t:TA):TE:=λσ H Q=>t σ H λxs H1=>xs.length<=sizeLine/\∀p,H1 p=none->Q (.ref p) (upd H1 p (.lst xs))
theorem zmT {x1}(h:PA X es t):PE X (.Tuple es x1 pos) (zqg t):=by
 intro pins s σ H Q I hq
 refine wpAny_Tuple_spliced (thn (h pos pins s σ H _ I hq) λus s1 ⟨xs,H1,I1,r,z,q⟩=>⟨by rw[← r.length];exact z,?_⟩)
 have hf:H1 s1.heap.objs.size=none:=I1.hok.fresh (lB _)
 refine⟨.ref s1.heap.objs.size,upd H1 s1.heap.objs.size (.tup xs),I1.laid (t':=s1.toks) (λb u e=>lg _ e) (lB _) ?_,rfl,q _ hf⟩
 exact⟨z,us,r,TupD.new _ _⟩
theorem zki (h:PA X es t):PE X (.List es pos) (zpO t):=by
 intro pins s σ H Q I hq
 refine wpAny_List_spliced (thn (h pos pins s σ H _ I hq) λus s1 ⟨xs,H1,I1,r,z,q⟩=>⟨by rw[← r.length];exact z,?_⟩)
 have hf:H1 s1.heap.objs.size=none:=I1.hok.fresh (lB _)
 refine⟨.ref s1.heap.objs.size,upd H1 s1.heap.objs.size (.lst xs),I1.laid (t':=s1.toks) (λb u e=>lg _ e) (lB _) ?_,rfl,q _ hf⟩
 exact⟨z,us,0,r,lC _ rfl⟩
end
abbrev Sp:=List V->Hp->VK->XK->Prop
abbrev CXT:=List Env->Hp->Shared->XK->qQ2
variable {CX:CXT}
structure Env0 (P:Program)(w:World)(K:qQ0)(mg:qQ3)(base:Heap)(A:Around)(outer:List Env)(s:Shared)(H:Hp):Prop where
 frames:A.frames=some outer
 mod:Mod K mg base
 bs:∀b o,base.get? b=some o->s.heap.get? b=some o/\H b=none
 bsz:base.objs.size<=s.heap.objs.size
 funs:s.heap.FunFrames base outer
 frf:∀b∈frs outer,H b=none
 hok:HOk P w H s.heap
 bare:AllBare s.gens
def CE (outer:List Env)(P:Program)(w:World)(H:Hp)(s:Shared)(Q:VK)(u:Value)(s':Shared):Prop :=
 ∃v H',s'.os=s.os/\AllBare s'.gens/\Un (frs outer) [] H H' s.heap s'.heap/\HOk P w H' s'.heap/\RelV v u/\Q v H'
def CR (CX:CXT)(outer:List Env)(P:Program)(w:World)(H:Hp)(s:Shared)(Q:VK)(E:XK)(r:Result)(s':Shared):Prop :=
 match r with
 | .ok (.ret u)=>CE outer P w H s Q u s'
 | .ok _=>False
 | .error e=>CX outer H s E e s'
structure FnOk (P:Program)(w:World)(K:qQ0)(mg:qQ3)(base:Heap)(CX:CXT)(k:Nat)(f:Addr)(fd:FuncData)(ps:List Str)(sp:Sp):Prop where
 len:∀vs H Q E,sp vs H Q E->vs.length=ps.length
 run:∀(A:Around) (outer:List Env) (s:Shared) (H:Hp) (args:Args) (us:List Value) (vs:List V) (Q:VK) (E:XK),Room k A->Env0 P w K mg base A outer s H->BindsTo s fd args (ps.zip us)->Vals vs us->sp vs H Q E ->
  codeAny (model P w) A (.call (.ref f) args) (CR CX outer P w H s Q E) s
theorem FnOk.mono {K:qQ0}{base:Heap}{f:Addr}{sp:Sp}(F:FnOk P w K mg base CX j f fd ps sp)(h:j<=k) :
  FnOk P w K mg base CX k f fd ps sp:=⟨F.len,λA outer s H args us vs Q E hr=>F.run A outer s H args us vs Q E (hr.mono h)⟩
theorem Env0.in1 {K:qQ0}{base:Heap}{A:Around}(e:Env0 P w K mg base A outer s H) :
  Env0 P w K mg base A.in1 outer s H:=⟨e.frames,e.mod,e.bs,e.bsz,e.funs,e.frf,e.hok,e.bare⟩
section
variable {X:Cx}{pins:List (Addr×Obj)}{σ:St}{H:Hp}{s s':Shared}
theorem Inv.env0 (I:Inv X pins σ H s):Env0 X.prog X.w X.K X.mg X.base X.A X.stack s H :=
 ⟨I.ok.frames,I.ok.mod,I.bs,lar I.ok.bsz I.sz,I.stack,I.stkFree,I.hok,I.bare⟩
theorem Inv.after {Q:VK}(I:Inv X pins σ H s)(h:CE X.stack X.prog X.w H s Q u s'):EP X pins σ Q u s':=by
 obtain⟨v,H',os,bare,un,hok,r,q⟩:=h
 obtain⟨hh,g,d,t,os'⟩:=s'
 obtain rfl:os'=s.os:=os
 exact⟨v,H',I.call (h':=hh) (g':=g) (d':=d) (t':=t) (ch:=[]) un hok bare (λb z=>absurd z (by simp)),r,q⟩
end
def zno (sp:Sp)(dvs:List V)(E:XK)(t:TA):TE:=λσ H Q=>t σ H λvs H1=>sp (vs++dvs) H1 Q E
def Binds (K:qQ0)(fd:FuncData)(ps:List Str)(ds:List Value):Prop :=
 ∀(s:Shared) (us:List Value),K.In s.heap->(us++ds).length=ps.length->BindsTo s fd ⟨us,[]⟩ (ps.zip (us++ds))
theorem Binds.all {K:qQ0}(h:∀us:List Value,us.length=ps.length->bindArgs fd ⟨us,[]⟩=pure (ps.zip us)):Binds K fd ps []:=λs us _ hl=>by
 rw[lY] at hl ⊢
 exact .of_eq (h us hl)
def zaH (CX:CXT)(X:Cx)(E:XK):Prop:=∀(pins:List (Addr×Obj)) (σ:St) (H:Hp) (s:Shared) (e:Value) (s':Shared),Inv X pins σ H s->CX X.stack H s E e s'->X.xe e s'
section
variable {X:Cx}{CX:CXT}{k:Nat}{f C:Addr}{fd:FuncData}{ps:List Str}{sp:Sp}{dvs:List V}{ds:List Value}{E:XK}{x m:Str}{p pos apos:Pos}{e o:Expr}{es:List Expr}{ta:TE}{t:TA}
theorem zmM {Q:VK}{vs:List V}(F:FnOk X.prog X.w X.K X.mg X.base CX k f fd ps sp)(hr:Room k X.A)(hb:Binds X.K fd ps ds)(hd:Vals dvs ds)(hx:zaH CX X E)
  (I:Inv X pins σ H s) (r:Vals vs us) (h:sp (vs++dvs) H Q E):wpAny (model X.prog X.w) X.A (call (.ref f) us) (EP X pins σ Q) X.xe s:=by
 have r2:Vals (vs++dvs) (us++ds):=r.append hd
 have hl:(us++ds).length=ps.length:=by rw[← r2.length];exact F.len _ _ _ _ h
 refine wpAny_call (lc5 (F.run X.A X.stack s H ⟨us,[]⟩ (us++ds) (vs++dvs) Q E hr I.env0 (hb s us I.kIn hl) r2 h) λr s' hq=>?_)
 cases r with
 | error e=>exact hx pins σ H s e s' I hq
 | ok fl =>
  cases fl with
  | ret u=>exact I.after hq
  | next=>exact False.elim hq
  | brk=>exact False.elim hq
  | cont=>exact False.elim hq
theorem zeN (F:FnOk X.prog X.w X.K X.mg X.base CX k f fd ps sp)(hr:Room k X.A)(hg:Gl X x)(hm:X.mg x=some (.ref f))(hk:PySem.W.keepIn X.K (.ref f)=true)(hb:Binds X.K fd ps ds)(hd:Vals dvs ds)(hx:zaH CX X E)
  (ha:PA X (e::es) t) (hdb:(x == ("__debug__" : Str))=false:=by decide) (he:starEach (e::es) X.env=(false,eval e X.env)::starEach es X.env:=by rfl) (hpl:(backTo pos (starEach es X.env)).any (·.1)=false:=by rfl) :
  PE X (.Call (.Name x p) (e::es) [] pos) (zno sp dvs E t):=by
 intro pins s σ H Q I h
 refine lbl (zal I hg hm ?_ hdb)
 refine ldv (h₀:=X.base) I.ok.mod.kin hk (thn (ha pos pins s σ H _ I h) λus s1 ⟨vs,H1,I1,r,q⟩=>⟨I1.kIn,?_⟩) he hpl
 exact zmM F hr hb hd hx I1 r q
end
structure FnScope (N P:List Str)(sc:Scope):Prop where
 kind:sc.kind=.function
 co:sc.isCoroutine=false
 gen:sc.isGenerator=false
 nd:N.Nodup
 pre:N.take P.length=P
 par:∀x∈P,sc.names.lookup x=some .local∨sc.names.lookup x=some .cell
 nofree:∀y∈sc.names,y.2≠.free
theorem zdy {kindOf:Str->Option NameKind}{x:Str}:∀{binds:List (Str×Value)}{m:qQ3},(∀v,(x,v)∉binds)->bindL kindOf binds m x=m x
 | [],_,_=>rfl
 | (n,v)::r,m,h=>by
  unfold bindL
  rw[zdy λw hw=>h w (lz _ hw)]
  split
  ·have:x≠n:=by rintro rfl;exact h v lD
   simp[this]
  ·rfl
theorem zdX {kindOf:Str->Option NameKind}{x:Str}:∀{binds:List (Str×Value)}{m:qQ3},(∀v,(x,v)∉binds)->bindC kindOf binds m x=m x
 | [],_,_=>rfl
 | (n,v)::r,m,h=>by
  unfold bindC
  rw[zdX λw hw=>h w (lz _ hw)]
  split
  ·rfl
  ·have:x≠n:=by rintro rfl;exact h v lD
   simp[this]
theorem zeB {kindOf:Str->Option NameKind}{x:Str}{v:Value}:∀{P:List Str}{vs:List Value}{i:Nat}{m:qQ3},P.Nodup->P[i]? = some x->vs[i]? = some v->kindOf x=some .local ->
  bindL kindOf (P.zip vs) m x=some v
 | [],_,_,_,_,h,_,_=>by simp at h
 | _::_,[],_,_,_,_,h,_=>by simp at h
 | p::P,w::vs,0,m,nd,h1,h2,hk=>by
  simp at h1 h2;subst h1;subst h2
  show bindL kindOf ((p,w)::P.zip vs) m p=_
  unfold bindL
  rw[zdy λv hv=>(lbD.mp nd).1 (lcb hv).1,lU hk]
  simp
 | p::P,w::vs,i+1,m,nd,h1,h2,hk=>by
  show bindL kindOf ((p,w)::P.zip vs) m x=_
  unfold bindL
  exact zeB (i:=i) (lbD.mp nd).2 (by simpa using h1) (by simpa using h2) hk
theorem zef {kindOf:Str->Option NameKind}{x:Str}{v:Value}:∀{P:List Str}{vs:List Value}{i:Nat}{m:qQ3},P.Nodup->P[i]? = some x->vs[i]? = some v->kindOf x≠some .local ->
  bindC kindOf (P.zip vs) m x=some v
 | [],_,_,_,_,h,_,_=>by simp at h
 | _::_,[],_,_,_,_,h,_=>by simp at h
 | p::P,w::vs,0,m,nd,h1,h2,hk=>by
  simp at h1 h2;subst h1;subst h2
  show bindC kindOf ((p,w)::P.zip vs) m p=_
  unfold bindC
  rw[zdX λv hv=>(lbD.mp nd).1 (lcb hv).1,lac hk]
  simp
 | p::P,w::vs,i+1,m,nd,h1,h2,hk=>by
  show bindC kindOf ((p,w)::P.zip vs) m x=_
  unfold bindC
  exact zef (i:=i) (lbD.mp nd).2 (by simpa using h1) (by simpa using h2) hk
def start (N:List Str)(vs:List V):St:=vs.map some++List.replicate (N.length - vs.length) none
def je (CX:CXT)(P:Program)(w:World)(K:qQ0)(mg:qQ3)(base:Heap)(N:List Str)(qual:Str)(scope:Scope)(f:Addr)(cd:Value)(A:Around)(outer:List Env)(s:Shared)(H:Hp)(E:XK):Cx where
 prog:=P
 w:=w
 K:=K
 mg:=mg
 base:=base
 A:=A.deeper (envOfC qual scope s.heap.objs.size f cd)
 N:=N
 s₀:=s
 H₀:=H
 env:=envOfC qual scope s.heap.objs.size f cd
 outer:=outer
 stack:=envOfC qual scope s.heap.objs.size f cd::outer
 ex:=[]
 calm:=true
 fn:=λ_=>true
 pn:=[]
 xe:=λe s'=>wpAny (model P w) (A.deeper (envOfC qual scope s.heap.objs.size f cd)) (leaving (envOfC qual scope s.heap.objs.size f cd) e) (λ_ s''=>CX outer H s E e s'') (λe' s''=>CX outer H s E e' s'') s'
theorem za3 {sc:Scope}{n:Nat}(h:sc.names.lookup x=some .cell):∃c,(cellsFrom n sc.names []).lookup x=some c:=by
 have q:=lcT sc.names n [] (.inl h)
 exact Option.isSome_iff_exists.mp q
theorem zeE {K:qQ0}{base:Heap}{qual:Str}{f:Addr}{cd:Value}{A:Around}{s1:Shared}{E:XK}{vs:List V}
  (S:FnScope N ps scope) (hd:A.handled=none) (e0:Env0 P w K mg base A outer s H) (hl:vs.length=ps.length) (r:Vals vs us)
  (x:InCallC s s.heap.objs.size (bindL (envOfC qual scope s.heap.objs.size f cd).kindOf (ps.zip us) λ_=>none) (cellsFrom (s.heap.objs.size+1) scope.names []) (bindC (envOfC qual scope s.heap.objs.size f cd).kindOf (ps.zip us) λ_=>none) s1) :
  Inv (je CX P w K mg base N qual scope f cd A outer s H E) [] (start N vs) H s1:=by
 have hpl:ps.length<=N.length:=by have:=lbB List.length S.pre;rw[las] at this;omega
 obtain⟨h1,tk,rfl,hk⟩:=x.done
 have noA:∀b:Addr,b∉(je CX P w K mg base N qual scope f cd A outer s H E).ex:=λb z=>absurd (show b∈([]:List Addr) from z) (by simp)
 refine ⟨⟨e0.mod,S.kind,rfl,rfl,lB _,λy z c h1 h2=>?_,λy hy=>?_,λy c _ h=>?_,λ_=>hd,Around.frames_deeper e0.frames,.inr ⟨rfl,rfl⟩,λb z=>absurd z (noA b),e0.bs,e0.bsz,λb _ _=>noA b,λb z=>absurd z (noA b),e0.funs,e0.frf⟩,
  rfl,e0.bare,Un.kept hk,⟨_,x.toInCall.ns,λi y v h1 h2 h3=>?_⟩,λy c h=>⟨_,x.cell y c h⟩,e0.hok.fresh (lB _),λy c h=>?_,λp hp=>absurd (show p∈([]:List (Addr×Obj)) from hp) (by simp),e0.hok.kept hk,?_⟩
 ·exact name_of_addr x.apart (lag h1) (lag h2)
 ·have hy:scope.names.lookup y=some .cell∨scope.names.lookup y=some .free:=hy
  rcases hy with hy|hy
  ·exact za3 hy
  ·exact absurd rfl (S.nofree _ (lag hy))
 ·exact lds (x.above y c (lag h))
 ·have hi:i<vs.length:=by
   unfold start at h2
   by_cases hi:i<vs.length
   ·exact hi
   ·rw[laM (by simpa using hi)] at h2
    rw[lbm] at h2
    split at h2 <;>cases h2
  have ha:vs[i]? = some v:=by
   unfold start at h2
   rw[la2 (by simpa using hi),lJ] at h2
   cases e:vs[i]? with
   | none=>rw[e] at h2;cases h2
   | some a=>rw[e] at h2;cases h2;rfl
  obtain⟨u,hu,rv⟩:=r.get ha
  have hp:ps[i]? = some y:=by
   rw[← S.pre,List.getElem?_take_of_lt (by omega)];exact h1
  have ndP:ps.Nodup:=by rw[← S.pre];exact S.nd.sublist (List.take_sublist _ _)
  refine⟨u,rv,?_⟩
  rcases S.par y (laL hp) with k|k
  ·exact .inl ⟨k,zeB ndP hp hu k⟩
  ·obtain⟨c,e⟩:=za3 (n:=s.heap.objs.size+1) k
   refine .inr ⟨.inl k,c,e,?_⟩
   have q:=x.cell y c e
   rw[zef ndP hp hu (by show scope.names.lookup y≠_;rw[k];decide)] at q
   exact q
 ·exact e0.hok.fresh (lds (x.above y c (lag h)))
 ·unfold start
  show _=N.length
  rw[lae,lQ,lck]
  omega
theorem zkW {K:qQ0}{base:Heap}{f:Addr}{name qual:Str}{params:Arguments}{dV kV doc pm cdv ct oc:Value}{an od:Option Addr}
  {osl:Array (Option Value)}{sp:Sp} (lk:K.lookup f=some ⟨oc,od,.func (PySem.W.fnOf name qual params body scope dV kV doc pm an cdv ct),osl⟩) (hcd:PySem.W.codeIn K cdv qual=true) (S:FnScope N ps scope)
  (len:∀vs H Q E,sp vs H Q E->vs.length=ps.length)
  (hbody:∀(A:Around) (outer:List Env) (s:Shared) (H:Hp) (vs:List V) (Q:VK) (E:XK),Room k (A.deeper (envOfC qual scope s.heap.objs.size f cdv))->sp vs H Q E ->
   ∃t,PSs (je CX P w K mg base N qual scope f cdv A outer s H E) body t/\t {nx:=λ_ H'=>Q .non H',rt:=Q} (start N vs) H) :
  FnOk P w K mg base CX (k+1) f (PySem.W.fnOf name qual params body scope dV kV doc pm an cdv ct) ps sp:=by
 refine⟨len,λA outer s H args us vs Q E hr e0 hb r hsp=>?_⟩
 have hl:=len _ _ _ _ hsp
 have KX:K.In s.heap:=e0.mod.kin.keeps λb o e=>(e0.bs b o e).1
 have lim:s.heap.NoLimit:=e0.mod.nolimit.keeps λb o e=>(e0.bs b o e).1
 have hkind:∀y∈ps.zip us,scope.names.lookup y.1=some .local∨(scope.names.lookup y.1=some .cell/\((cellsFrom (s.heap.objs.size+1) scope.names []).lookup y.1).isSome=true):=λ⟨n,v⟩ hy=>by
  rcases S.par n (lcb hy).1 with q|q
  ·exact .inl q
  ·exact .inr ⟨q,lcT _ _ _ (.inl q)⟩
 refine codeAny_call_function hr.depth (KX _ _ lk) rfl S.co S.gen rfl (PySem.W.codeRec_of KX hcd) (hb _ _ _ _ ?_)
 refine wpAny_newFunctionEnv_cells S.kind hkind λenv he s1 x=>?_
 subst he
 refine⟨lim.keeps x.toInCall.keep,codeAny_func ?_⟩
 obtain⟨t,ht,hq⟩:=hbody A outer s H vs Q E (hr.deeper _) hsp
 have I:Inv (je CX P w K mg base N qual scope f cdv A outer s H E) [] (start N vs) H s1:=zeE S hr.hd e0 hl r x
 refine laF (ht [] s1 (start N vs) H _ I hq) (λfl s' hs=>?_) λe s' hs=>hs
 have fin:∀{σ':St}{H':Hp}{v:V}{u:Value},Inv (je CX P w K mg base N qual scope f cdv A outer s H E) [] σ' H' s'->RelV v u->Q v H'->CE outer P w H s Q u s' :=
  λ{σ' H' v u} J rv q=>⟨v,H',J.os,J.bare,J.base,J.hok,rv,q⟩
 cases fl with
 | ret u =>
  obtain⟨v,σ',H',J,rv,q⟩:=hs
  exact fin J rv q
 | next =>
  obtain⟨σ',H',J,q⟩:=hs
  exact fin (v:=V.non) (u:=Value.none) J rfl q
 | brk =>
  obtain⟨_,_,_,q⟩:=hs
  exact False.elim q
 | cont =>
  obtain⟨_,_,_,q⟩:=hs
  exact False.elim q
section
variable {X:Cx}{x:Str}{p pos:Pos}{e:Expr}{es:List Expr}{t:TA}{id T:String}{r:List V->Hp->VK->Prop}
def tCB (r:List V->Hp->VK->Prop)(t:TA):TE:=λσ H Q=>t σ H λvs H1=>r vs H1 Q
theorem jO (hc:qP X (.builtin id) r)(hg:Gl X x)(hm:X.mg x=none)(hv:bootBuiltins x=some (.builtin id))(ha:PA X (e::es) t)(hn:x ≠ "__name__" := by decide)(hdb:(x == ("__debug__" : Str))=false:=by decide)
  (he:starEach (e::es) X.env=(false,eval e X.env)::starEach es X.env:=by rfl) (hpl:(backTo pos (starEach es X.env)).any (·.1)=false:=by rfl):PE X (.Call (.Name x p) (e::es) [] pos) (tCB r t):=by
 intro pins s σ H Q I h
 refine lbl (zaO I hg hm hv ?_ hn hdb)
 exact PyProof.Rows.callWith_builtin1 (thn (ha pos pins s σ H _ I h) λus s1 ⟨vs,H1,I1,r1,q1⟩=>hc pins s1 σ H1 vs us Q I1 r1 q1) he hpl
theorem zeA (hc:qP X (.type T) r)(hg:Gl X x)(hm:X.mg x=none)(hv:bootBuiltins x=some (.type T))(ha:PA X (e::es) t)(hn:x ≠ "__name__" := by decide)(hdb:(x == ("__debug__" : Str))=false:=by decide)
  (he:starEach (e::es) X.env=(false,eval e X.env)::starEach es X.env:=by rfl) (hpl:(backTo pos (starEach es X.env)).any (·.1)=false:=by rfl):PE X (.Call (.Name x p) (e::es) [] pos) (tCB r t):=by
 intro pins s σ H Q I h
 refine lbl (zaO I hg hm hv ?_ hn hdb)
 exact lbR (thn (ha pos pins s σ H _ I h) λus s1 ⟨vs,H1,I1,r1,q1⟩=>hc pins s1 σ H1 vs us Q I1 r1 q1) he hpl
end
end L2
namespace HT
open PySem PyProof.Rows
section
variable {prog:Program}{w:World}{A:Around}{E:qQ2}{s:Shared}
theorem cat_tup {t b:Addr}{vs ws:List Value}{Q:qQ2}(ht:IsTup s.heap t vs.toArray)(hb:IsTup s.heap b ws.toArray)(hv:vs≠[])
  (h1:ws=[]->Q (.ref t) s) (h2:ws≠[]->Q (.ref s.heap.objs.size) {s with heap:=s.heap.push {cls:=.type "tuple", data:=.seq (vs++ws).toArray} })
  (hsz:vs.length+ws.length<=sizeLine):wpAny (model prog w) A (binaryOp .Add (.ref t) (.ref b)) Q E s:=by
 obtain⟨⟨cls,dd,data,sl⟩,ho,hc,n,hd⟩:=id ht
 obtain⟨⟨cls2,dd2,data2,sl2⟩,ho2,hc2,n2,hd2⟩:=id hb
 simp only at hc hd hc2 hd2
 subst hc hd hc2 hd2
 have e:vs.toArray++ws.toArray=(vs++ws).toArray:=by simp
 by_cases hw:ws=[]
 ·exact ldX ⟨_,ho,rfl⟩ ⟨_,ho2,rfl⟩ ldR seq_tuple_add lcU lcL (lcH _ _)
   (tuple_addW1 t b vs.toArray ws.toArray n n2 dd dd2 sl sl2 (by simpa using hv) (by simp[hw])) ⟨ho,ho2,h1 hw⟩
 ·refine ldX ⟨_,ho,rfl⟩ ⟨_,ho2,rfl⟩ ldR seq_tuple_add lcU lcL (lcH _ _)
   (tuple_addW2 t b vs.toArray ws.toArray n n2 dd dd2 sl sl2 (by simpa using hv) (by simpa using hw) (by rw[lP,lP];exact hsz)) ⟨ho,ho2,?_⟩
  rw[e]
  exact h2 hw
def sIx (n d:Nat):Option Int->Nat
 | none=>d
 | some v=>if v<0 then(v+(n:Int)).toNat else min v.toNat n
theorem sIx_none (n d:Nat):sIx n d none=d:=rfl
theorem sIx_nat (n d k:Nat):sIx n d (some (k:Int))=min k n:=by
 show(if (k:Int)<0 then((k:Int)+(n:Int)).toNat else min (k:Int).toNat n)=min k n
 rw[lac (by omega),laq]
theorem sIx_le (n d:Nat)(hd:d<=n)(o:Option Int):sIx n d o<=n:=by
 cases o with
 | none=>exact hd
 | some v =>
  show(if v<0 then(v+(n:Int)).toNat else min v.toNat n)<=n
  by_cases hv:v<0
  ·rw[lU hv];omega
  ·rw[lac hv];exact ldS _ _
theorem zhJ (v:Int)(n d:Nat):(if v<0 then max (v+(n:Int)) 0 else min v (n:Int))=((sIx n d (some v):Nat):Int):=by
 show(if v<0 then max (v+(n:Int)) 0 else min v (n:Int))=(((if v<0 then(v+(n:Int)).toNat else min v.toNat n):Nat):Int)
 by_cases hv:v<0
 ·simp only[lU hv];omega
 ·simp only[lac hv];omega
theorem zgN (lo hi:Option Int)(n:Nat):Builtin.Slice.sliceAdjust lo hi 1 (n:Int)=(((sIx n 0 lo:Nat):Int),((sIx n n hi:Nat):Int)):=by
 have h1:¬((1:Int)<0):=by omega
 unfold Builtin.Slice.sliceAdjust
 simp only[h1,laU]
 refine Prod.ext ?_ ?_
 ·cases lo with
  | none=>rfl
  | some v=>exact zhJ v n 0
 ·cases hi with
  | none=>rfl
  | some v=>exact zhJ v n n
theorem zgv (i j:Nat):Builtin.Slice.slicePlaces (i:Int) (j:Int) 1=j - i:=by
 unfold Builtin.Slice.slicePlaces
 have h1:(1:Int) > 0:=by omega
 simp only[h1,lbx,Int.ediv_one]
 split <;>omega
theorem zcj {v:Value}{o:Option Int}{Q:Option Int->Shared->Prop}(p:IsPart v o)(h:Q o s):wpAny (model prog w) A (Builtin.Slice.slicePartIndex v) Q E s:=by
 cases p with
 | none=>exact slicePart_none h
 | int i t=>exact slicePart_int h
theorem sliceApplied_gen {sl:Addr}{vl vu:Value}{lo hi:Option Int}{n:Nat}{Q:Int×Int×Nat->Shared->Prop}(hs:s.heap.IsSliceOf sl vl vu .none)(pl:IsPart vl lo)(pu:IsPart vu hi)
  (h:Q (((sIx n 0 lo:Nat):Int),1,sIx n n hi - sIx n 0 lo) s):wpAny (model prog w) A (Builtin.Slice.sliceApplied (.ref sl) (pure (n:Int))) Q E s:=by
 obtain⟨os,hos,hcs,hds⟩:=id hs
 unfold Builtin.Slice.sliceApplied Builtin.Slice.sliceFields
 refine la (la (laj hos hds (x:=vl) rfl (la (laj hos hds (x:=vu) rfl (la (laj hos hds (x:=.none) rfl (lr ?_)))))))
 refine la (slicePart_none ?_)
 show wpAny _ _ (if ((1:Int) == 0)=true then _ else _) _ _ s
 rw[lac (by decide)]
 refine la (zcj pl (la (zcj pu (la (lr ?_)))))
 show wpAny _ _ (match Builtin.Slice.sliceAdjust lo hi 1 (n:Int) with|(lo,hi)=>pure (lo,(1:Int),Builtin.Slice.slicePlaces lo hi 1)) _ _ s
 rw[zgN lo hi n]
 show wpAny _ _ (pure (((sIx n 0 lo:Nat):Int),(1:Int),Builtin.Slice.slicePlaces ((sIx n 0 lo:Nat):Int) ((sIx n n hi:Nat):Int) 1)) _ _ s
 rw[zgv]
 exact lr h
theorem zj9 (xs:Array Value)(i k:Nat):((List.range k).filterMap λ(m:Nat)=>xs[((i:Int)+(m:Int)*1).toNat]?).toArray=((xs.toList.drop i).take k).toArray:=by
 have e:(λ(m:Nat)=>xs[((i:Int)+(m:Int)*1).toNat]?)=λm=>xs[i+m]?:=by
  funext m
  have:((i:Int)+(m:Int)*1).toNat=i+m:=by omega
  rw[this]
 rw[e]
 have:=pick_run xs i k
 rw[List.filterMap_map] at this
 have e2:((λx=>xs[x]?)∘λx=>i+x)=λm=>xs[i+m]?:=rfl
 rw[e2] at this
 rw[this]
theorem getItem_tuple_cut {t sl:Addr}{items:Array Value}{vl vu:Value}{lo hi:Option Int}{Q:qQ2}(ht:IsTup s.heap t items)(hs:s.heap.IsSliceOf sl vl vu .none)(pl:IsPart vl lo)(pu:IsPart vu hi)
  (hw:¬(sIx items.size 0 lo=0/\sIx items.size items.size hi=items.size))
  (h:Q (.ref s.heap.objs.size) {s with heap:=s.heap.push {cls:=.type "tuple", data:=.seq ((items.toList.drop (sIx items.size 0 lo)).take (sIx items.size items.size hi - sIx items.size 0 lo)).toArray} })
  (hsz:items.size<=sizeLine):wpAny (model prog w) A (getItem (.ref t) (.ref sl)) Q E s:=by
 have htake:sizeOk (.seq ((items.toList.drop (sIx items.size 0 lo)).take (sIx items.size items.size hi - sIx items.size 0 lo)).toArray):=by
  show((items.toList.drop (sIx items.size 0 lo)).take (sIx items.size items.size hi - sIx items.size 0 lo)).toArray.size<=sizeLine
  rw[lP,las,ldb,lbw]
  omega
 have hj:sIx items.size items.size hi<=items.size:=sIx_le _ _ (lB _) hi
 obtain⟨os,hos,hcs,hds⟩:=id hs
 have hTs:s.TypeIs (.ref sl) "slice" := ⟨os,hos,hcs⟩
 unfold getItem
 try with_reducible refine lak ?_
 first|refine la (lr ?_)|skip
 refine la (wpAny_sequenceKey ht.typeIs (by decide) ?_)
 refine la (lV (name:=Str.ofString "__getitem__") ht.typeIs laX
  (lad laX ht.typeIs entry_tuple_getitem ?_ (args_tuple_getitem _ _)))
 show wpAny _ _ (Builtin.Tuple.tupleItemsOf (.ref t) >>= _) _ _ s
 refine la (tupleItemsOf_ ht ?_)
 refine la (ldw hTs ?_)
 rw[lU (by decide)]
 refine la (sliceApplied_gen hs pl pu ?_)
 have hno:¬((((sIx items.size 0 lo:Nat):Int) == 0&&(1:Int) == 1&&(sIx items.size items.size hi - sIx items.size 0 lo) == items.size)=true):=by
  intro q
  rw[lM,lM] at q
  have q1:((sIx items.size 0 lo:Nat):Int)=0:=eq_of_beq q.1.1
  have q2:sIx items.size items.size hi - sIx items.size 0 lo=items.size:=eq_of_beq q.2
  exact hw ⟨by omega,by omega⟩
 show wpAny _ _ (if (((sIx items.size 0 lo:Nat):Int) == 0&&(1:Int) == 1&&(sIx items.size items.size hi - sIx items.size 0 lo) == items.size)=true then _ else _) _ _ s
 rw[lac hno,zj9]
 first
  | exact la (m:=Builtin.Tuple.tupleExact _) (laH (lr ⟨_,rfl,lr h⟩) htake)
  | exact la (m:=Builtin.Tuple.tupleExact _) (laH (la (lr (lr ⟨_,rfl,lr h⟩))) htake)
  | exact la (la (m:=Builtin.Tuple.tupleExact _) (laH (lr (lr ⟨_,rfl,lr h⟩)) htake))
  | exact la (la (m:=Builtin.Tuple.tupleExact _) (laH (lr ⟨_,rfl,lr h⟩) htake))
end
end HT
namespace L2
open PySem PySem.Spec PyProof.Rows
variable {r:V->Option Int->Option Int->Hp->VK->Prop}{us its:List Value}{n t':Nat}{α:Type}{u:Value}
abbrev TO:=St->Hp->(Option Int->Hp->Prop)->Prop
def PO (X:Cx)(e:Option Expr)(t:TO):Prop :=
 ∀ (pins:List (Addr×Obj)) (s:Shared) (σ:St) (H:Hp) (Q:Option Int->Hp->Prop),Inv X pins σ H s->t σ H Q ->
  wpAny (model X.prog X.w) X.A (evalPart e X.env) (λu s'=>∃o H',Inv X pins σ H' s'/\IsPart u o/\Q o H') X.xe s
def zlR:TO:=λ_ H Q=>Q none H
def zoF (t:TE):TO:=λσ H Q=>t σ H λx H1=>∃i,x=.int i/\Q (some i) H1
section
variable {X:Cx}{e:Expr}{te:TE}{lo hi:Option Expr}{tl th:TO}{pos p2:Pos}
theorem zmi:PO X none zlR:=by
 intro pins s σ H Q I h
 rw[evalPart_none]
 exact lr ⟨none,H,I,.none,h⟩
theorem zlu (h:PE X e te):PO X (some e) (zoF te):=by
 intro pins s σ H Q I hw
 rw[evalPart_some]
 refine thn (h pins s σ H _ I hw) λu s1 zox=>?_
 obtain⟨x,H1,I1,r1,q1⟩:=zox
 obtain⟨i,rfl,q⟩:=q1
 obtain⟨t,rfl⟩:=r1
 exact⟨some i,H1,I1,.int i t,q⟩
def SlR (X:Cx)(r:V->Option Int->Option Int->Hp->VK->Prop):Prop :=
 ∀ (pins:List (Addr×Obj)) (s:Shared) (σ:St) (H:Hp) (x:V) (v vl vu:Value) (lo hi:Option Int) (sl:Addr) (Q:VK),Inv X pins σ H s->RelV x v->s.heap.IsSliceOf sl vl vu .none->IsPart vl lo->IsPart vu hi->r x lo hi H Q ->
  ∃T id,typeLookup (.type T) "__getitem__" = pure (some (.builtin id))/\s.TypeIs v T/\wpAny (model X.prog X.w) X.A (getItem v (.ref sl)) (EP X pins σ Q) X.xe s
theorem SlR.or {r':V->Option Int->Option Int->Hp->VK->Prop}(h:SlR X r)(h':SlR X r'):SlR X (λx lo hi H Q=>r x lo hi H Q∨r' x lo hi H Q):=by
 intro pins s σ H x v vl vu lo hi sl Q I rx hs pl pu q
 rcases q with q|q
 ·exact h pins s σ H x v vl vu lo hi sl Q I rx hs pl pu q
 ·exact h' pins s σ H x v vl vu lo hi sl Q I rx hs pl pu q
def tSl (r:V->Option Int->Option Int->Hp->VK->Prop)(te:TE)(tl th:TO):TE:=λσ H Q=>te σ H λx H1=>tl σ H1 λl H2=>th σ H2 λu H3=>r x l u H3 Q
theorem zka (hr:SlR X r)(he:PE X e te)(hl:PO X lo tl)(hu:PO X hi th):PE X (.Subscript e (.Slice lo hi none p2) pos) (tSl r te tl th):=by
 intro pins s σ H Q I h
 refine Subscript_ (thn (he pins s σ H _ I h) λv s1 znH=>?_)
 obtain⟨x,H1,I1,r1,q1⟩:=znH
 refine wpAny_Slice (thn (hl pins s1 σ H1 _ I1 q1) λvl s2 ⟨l,H2,I2,pl,q2⟩=>thn (hu pins s2 σ H2 _ I2 q2) λvu s3 zoq=>?_)
 obtain⟨u,H3,I3,pu,q3⟩:=zoq
 rw[evalPart_none]
 refine lr ?_
 have I4:Inv X pins σ H3 {s3 with heap:=s3.heap.push {cls:=.type "slice", data:=.fields #[vl,vu,.none]} }:=I3.kept (t':=s3.toks) λb ob q=>lg _ q
 obtain⟨T,id,hT,ht,hg⟩:=hr pins {s3 with heap:=s3.heap.push {cls:=.type "slice", data:=.fields #[vl,vu,.none]} } σ H3 x v vl vu l u s3.heap.objs.size Q I4 r1 (Heap.IsSliceOf.new ..) pl pu q3
 show wpAny (model X.prog X.w) X.A (subscriptTail e (.Slice lo hi none p2) v (.ref s3.heap.objs.size)) (EP X pins σ Q) X.xe {s3 with heap:=s3.heap.push {cls:=.type "slice", data:=.fields #[vl,vu,.none]} }
 exact tail_any (ops:=[.ref s3.heap.objs.size,v]) ht hT hg (by with_unfolding_all rfl)
def zhL (xs:List V)(lo hi:Option Int):List V:=(xs.drop (HT.sIx xs.length 0 lo)).take (HT.sIx xs.length xs.length hi - HT.sIx xs.length 0 lo)
theorem zbM (xs:List V)(lo hi:Option Int):(zhL xs lo hi).length<=xs.length:=by
 unfold zhL
 rw[las,ldb]
 omega
def zpW (K:qQ0):V->Option Int->Option Int->Hp->VK->Prop:=λx lo hi H Q=>∃a xs,x=.ref a/\SqT K H a xs /\
 ¬(HT.sIx xs.length 0 lo=0/\HT.sIx xs.length xs.length hi=xs.length)/\∀p,H p=none->Q (.ref p) (upd H p (.tup (zhL xs lo hi)))
theorem zn7:SlR X (zpW X.K):=by
 intro pins s σ H x v vl vu lo hi sl Q I rx hs pl pu h
 obtain⟨a,xs,rfl,hx,hw,q⟩:=h
 cases rx
 obtain⟨its,r,ht,hz⟩:=I.tuple hx
 have hlen:its.toArray.size=xs.length:=by rw[lP];exact r.length.symm
 refine⟨"tuple", _,laX.lookup,ht.typeIs,?_⟩
 refine HT.getItem_tuple_cut ht hs pl pu (by rw[hlen];exact hw) ?_ (by rw[hlen];exact hz)
 rw[hlen]
 refine⟨.ref s.heap.objs.size,_,I.laid (t':=s.toks) (o:=.tup (zhL xs lo hi)) (λb ob q=>lg _ q) (lB _) ?_,rfl,q _ (I.hok.fresh (lB _))⟩
 exact⟨lar (zbM xs lo hi) hz,_,(r.drop (HT.sIx xs.length 0 lo)).take (HT.sIx xs.length xs.length hi - HT.sIx xs.length 0 lo),TupD.new _ _⟩
theorem Vals.nil_iff {xs:List V}(r:Vals xs us):us=[]↔xs=[]:=by
 cases r with
 | nil=>simp
 | cons _ _=>simp
end
def ixN (n:Nat)(i:Int):Option Nat:=if 0<=i then(if i<n then some i.toNat else none) else if -(n:Int)<=i then some (i+n).toNat else none
def atI {α:Type}(xs:List α)(i:Int):Option α:=(ixN xs.length i).bind λj=>xs[j]?
theorem zkV {i:Int}{j:Nat}(h:ixN n i=some j):seqIndex? i n=some j/\j<n/\-(n:Int)<=i/\i<n:=by
 unfold ixN at h
 by_cases h0:0<=i
 ·rw [lU h0] at h
  by_cases h1:i<n
  ·rw[lU h1] at h
   have e:i.toNat=j:=lq h
   exact⟨by rw[seqIndex_of h0 h1,e],by omega,by omega,h1⟩
  ·rw[lac h1] at h;cases h
 ·rw [lac h0] at h
  by_cases h1:-(n:Int)<=i
  ·rw[lU h1] at h
   have e:(i+n).toNat=j:=lq h
   exact⟨by rw[seqIndex_neg (by omega) h1,e],by omega,h1,by omega⟩
  ·rw[lac h1] at h;cases h
theorem ze1 {xs:List α}{i:Int}{v:α}(h:atI xs i=some v):∃j,seqIndex? i xs.length=some j/\xs[j]? = some v/\j<xs.length/\-(xs.length:Int)<=i/\i<xs.length:=by
 unfold atI at h
 cases e:ixN xs.length i with
 | none=>rw[e] at h;cases h
 | some j =>
  rw[e] at h
  obtain⟨h1,h2,h3,h4⟩:=zkV e
  exact⟨j,h1,h,h2,h3,h4⟩
theorem zgY {xs:List α}{j:Nat}{v:α}(h:xs[j]? = some v):atI xs (j:Int)=some v:=by
 have hj:j<xs.length:=(lO.mp h).1
 have e:ixN xs.length (j:Int)=some j:=by
  unfold ixN
  rw[lU (by omega),lU (by omega)];simp
 unfold atI;rw[e];exact h
def zhe (b:Expr):Prop:=∀o i,subscripted b false o i=operate [o,i] (getItem o i)
def IxR (X:Cx)(r:R2):Prop :=
 ∀ (value slice:Expr) (pins:List (Addr×Obj)) (s:Shared) (σ:St) (H:Hp) (x y:V) (v u:Value) (Q:VK),Inv X pins σ H s->RelV x v->RelV y u->r x y H Q ->
  subscripted slice false v u=operate [v,u] (getItem v u)->wpAny (model X.prog X.w) X.A (subscriptTail value slice v u) (EP X pins σ Q) X.xe s
def MtR (X:Cx)(id:String)(r:V->List V->Hp->VK->Prop):Prop :=
 ∀ (pins:List (Addr×Obj)) (s:Shared) (σ:St) (H:Hp) (x:V) (xs:List V) (v:Value) (us:List Value) (Q:VK),Inv X pins σ H s->RelV x v->Vals xs us->r x xs H Q ->
  wpAny (model X.prog X.w) X.A (call (.builtin id) (v::us)) (EP X pins σ Q) X.xe s
section
variable {X:Cx}{a b:Expr}{ta tb:TE}{pos:Pos}
theorem IxR.or {r r':R2}(h:IxR X r)(h':IxR X r'):IxR X (λx y H Q=>r x y H Q∨r' x y H Q):=by
 intro value slice pins s σ H x y v u Q I rx ry q hs
 rcases q with q|q
 ·exact h value slice pins s σ H x y v u Q I rx ry q hs
 ·exact h' value slice pins s σ H x y v u Q I rx ry q hs
theorem zoT {r:R2}(hr:IxR X r)(ha:PE X a ta)(hb:PE X b tb)(hs:zhe b):PE X (.Subscript a b pos) (tOp r ta tb):=by
 intro pins s σ H Q I h
 exact Subscript_ (zoJ ha hb I h λv u s2 x y H2 I2 rx ry q=>hr a b pins s2 σ H2 x y v u Q I2 rx ry q (hs _ _))
def zpB (K:qQ0):R2:=λx y H Q=>∃p xs i v,x=.ref p/\y=.int i/\SqL K H p xs/\atI xs i=some v/\Q v H
def zpt (K:qQ0):R2:=λx y H Q=>∃p xs i v,x=.ref p/\y=.int i/\SqT K H p xs/\atI xs i=some v/\Q v H
def zpD:R2:=λx y H Q=>∃z i c,x=.str z/\y=.int i/\z.length<=sizeLine/\atI z.cps.toList i=some c/\Q (.str ⟨#[c]⟩) H
theorem ix_list:IxR X (zpB X.K):=by
 intro value slice pins s σ H x y v u Q I rx ry h hs
 obtain⟨p,xs,i,z,rfl,rfl,hq,he,q⟩:=h
 cases rx
 obtain⟨t,rfl⟩:=ry
 obtain⟨its,r,pl,hz⟩:=I.list hq
 obtain⟨j,h1,h2,h3,h4,h5⟩:=ze1 he
 obtain⟨w,ew,rw'⟩:=r.get h2
 have hl:=r.length
 have hn:=zfF
 have fin:EP X pins σ Q w s:=⟨z,H,I,rw',q⟩
 by_cases h0:0<=i
 ·have hj:i.toNat=j:=by
   rw[seqIndex_of h0 h5] at h1
   exact lq h1
  exact item_listR pl.isList h0 (by omega) (by rw[hj];simpa using ew) fin hs
 ·have hj:(i+(its.toArray.size:Int)).toNat=j:=by
   rw[seqIndex_neg (by omega) h4] at h1
   rw[lP,← hl]
   exact lq h1
  exact subscriptTail_builtinR (x:=w) pl.isList.typeIs slot_list_getitem.lookup
   (wpAny_getItem_list_neg (Q:=λr s'=>r=w/\EP X pins σ Q r s') pl.isList (by omega) (by rw[lP] <;>omega) (by omega) (by rw[hj];simpa using ew) ⟨rfl,fin⟩) hs
theorem ix_tup:IxR X (zpt X.K):=by
 intro value slice pins s σ H x y v u Q I rx ry h hs
 obtain⟨p,xs,i,z,rfl,rfl,hq,he,q⟩:=h
 cases rx
 obtain⟨t,rfl⟩:=ry
 obtain⟨its,r,pl,hz⟩:=I.tuple hq
 obtain⟨j,h1,h2,h3,h4,h5⟩:=ze1 he
 obtain⟨w,ew,rw'⟩:=r.get h2
 have hl:=r.length
 have hn:=zfF
 have fin:EP X pins σ Q w s:=⟨z,H,I,rw',q⟩
 exact subscriptTail_builtinR (x:=w) pl.typeIs slot_tuple_getitem.lookup
  (getItem_tuple (j:=j) (Q:=λr s'=>r=w/\EP X pins σ Q r s') pl (by omega) (by omega) (by rw[lP,← hl];exact h1) (by simpa using ew) ⟨rfl,fin⟩) hs
theorem znc:IxR X zpD:=by
 intro value slice pins s σ H x y v u Q I rx ry h hs
 obtain⟨z,i,c,rfl,rfl,hz,he,q⟩:=h
 obtain⟨t,rfl⟩:=rx
 obtain⟨t',rfl⟩:=ry
 obtain⟨j,h1,h2,h3,h4,h5⟩:=ze1 he
 have hl:z.cps.toList.length=z.length:=by simp[Str.length]
 rw[hl] at h1 h4 h5
 have hn:=zfF
 exact tail_any (typeIs_str s z t) slot_str_getitem.lookup (getItem_str (c:=c) (by
  have e1:decide (i < -(2 ^ 63:Int))=false:=laa (by omega)
  have e2:decide (i≥2 ^ 63)=false:=laa (by omega)
  rw[e1,e2,Bool.or_false]) (by rw[h1];simpa using h2) ⟨.str ⟨#[c]⟩,H,I.tok _,⟨_,rfl⟩,q⟩) hs
def rIx (K:qQ0):R2:=λx y H Q=>zpB K x y H Q∨zpt K x y H Q∨zpD x y H Q
theorem zmH:IxR X (rIx X.K):=ix_list.or (ix_tup.or znc)
theorem Inv.lst {pins:List (Addr×Obj)}{σ:St}{H:Hp}{s:Shared}{p:Addr}{xs:List V}(I:Inv X pins σ H s)(h:H p=some (.lst xs)) :
  ∃(its:List Value) (n:Nat),Vals xs its/\s.heap.get? p=some {cls:=.type "list", data:=.seq its.toArray n}/\xs.length<=sizeLine:=by
 obtain⟨z,its,n,r,e⟩:=I.hok p _ h
 exact⟨its,n,r,e,z⟩
theorem zem (lo hi:Option Int)(n:Nat):(sliceBounds lo hi none n).1=((HT.sIx n 0 lo:Nat):Int)/\(sliceBounds lo hi none n).2.1=((HT.sIx n n hi:Nat):Int)/\(sliceBounds lo hi none n).2.2=1:=by
 refine⟨?_,?_,rfl⟩
 ·cases lo with
  | none=>simp[sliceBounds,HT.sIx]
  | some i =>
   simp only[sliceBounds,HT.sIx,Option.getD_none,show(1:Int) > 0 by decide,lbx]
   by_cases h:i<0
   ·simp only[h,lbx] <;>omega
   ·simp only[h,laU] <;>omega
 ·cases hi with
  | none=>simp[sliceBounds,HT.sIx]
  | some i =>
   simp only[sliceBounds,HT.sIx,Option.getD_none,show(1:Int) > 0 by decide,lbx]
   by_cases h:i<0
   ·simp only[h,lbx] <;>omega
   ·simp only[h,laU] <;>omega
theorem zcN (its:List Value)(lo hi:Option Int):slicePick its.toArray lo hi none=((its.drop (HT.sIx its.length 0 lo)).take (HT.sIx its.length its.length hi - HT.sIx its.length 0 lo)).toArray:=by
 obtain⟨h1,h2,h3⟩:=zem lo hi its.toArray.size
 unfold slicePick
 rw[h1,h2,h3]
 simp only[sliceRange_one,pick_run,lP] <;>rfl
def zp9 (K:qQ0):V->Option Int->Option Int->Hp->VK->Prop:=λx lo hi H Q=>∃a xs,x=.ref a/\SqL K H a xs/\∀p,H p=none->Q (.ref p) (upd H p (.lst (zhL xs lo hi)))
theorem zmm:SlR X (zp9 X.K):=by
 intro pins s σ H x v vl vu lo hi sl Q I rx hs pl pu h
 obtain⟨a,xs,rfl,hx,q⟩:=h
 cases rx
 obtain⟨its,r,ht,hz⟩:=I.list hx
 have hlen:=r.length
 refine⟨"list", _,slot_list_getitem.lookup,ht.isList.typeIs,?_⟩
 refine wpAny_getItem_list_slice ht.isList hs pl pu .none (by simp) ?_ (by rw[lP] <;>omega)
 rw[zcN,← hlen]
 refine⟨.ref s.heap.objs.size,_,I.laid (t':=s.toks) (o:=.lst (zhL xs lo hi)) (λb ob q=>lg _ q) (lB _) ?_,rfl,q _ (I.hok.fresh (lB _))⟩
 exact⟨lar (zbM xs lo hi) hz,_,0,(r.drop (HT.sIx xs.length 0 lo)).take (HT.sIx xs.length xs.length hi - HT.sIx xs.length 0 lo),lC _ rfl⟩
def vL:V->Bool
 | .non=>true
 | .bl _=>true
 | .int _=>true
 | .str _=>true
 | _=>false
def eqV:V->V->Bool
 | .non,.non=>true
 | .bl a,.bl b=>a == b
 | .bl a,.int b=>(if a then 1 else 0) == b
 | .int a,.bl b=>a == (if b then 1 else 0)
 | .int a,.int b=>a == b
 | .str a,.str b=>a == b
 | _,_=>false
theorem zmR {A:Around}{s:Shared}{y x:V}{v:Value}(ry:RelV y u)(rx:RelV x v)(fy:vL y=true)(fx:vL x=true):SeqAt.EqAt A s u v (eqV y x):=by
 cases y with
 | non =>
  cases ry
  cases x with
  | non=>cases rx;exact SeqAt.EqAt.same _
  | bl b=>cases rx;exact SeqAt.EqAt.none_bool b
  | int b=>obtain⟨t,rfl⟩:=rx;exact SeqAt.EqAt.none_int b t
  | str b=>obtain⟨t,rfl⟩:=rx;exact SeqAt.EqAt.none_str b t
  | _=>exact absurd (show false=true from fx) lH
 | bl a =>
  cases ry
  cases x with
  | non=>cases rx;exact SeqAt.EqAt.bool_none a
  | bl b=>cases rx;exact SeqAt.EqAt.bool_bool a b
  | int b=>obtain⟨t,rfl⟩:=rx;exact SeqAt.EqAt.bool_int a b t
  | str b=>obtain⟨t,rfl⟩:=rx;exact SeqAt.EqAt.bool_str a b t
  | _=>exact absurd (show false=true from fx) lH
 | int a =>
  obtain⟨t',rfl⟩:=ry
  cases x with
  | non=>cases rx;exact SeqAt.EqAt.int_none a t'
  | bl b=>cases rx;exact SeqAt.EqAt.int_bool a t' b
  | int b=>obtain⟨t,rfl⟩:=rx;exact SeqAt.EqAt.int_int a t' b t
  | str b=>obtain⟨t,rfl⟩:=rx;exact SeqAt.EqAt.int_str a t' b t
  | _=>exact absurd (show false=true from fx) lH
 | str a =>
  obtain⟨t',rfl⟩:=ry
  cases x with
  | non=>cases rx;exact SeqAt.EqAt.str_none a t'
  | bl b=>cases rx;exact SeqAt.EqAt.str_bool a t' b
  | int b=>obtain⟨t,rfl⟩:=rx;exact SeqAt.EqAt.str_int a t' b t
  | str b=>obtain⟨t,rfl⟩:=rx;exact SeqAt.EqAt.str_str a t' b t
  | _=>exact absurd (show false=true from fx) lH
 | _=>exact absurd (show false=true from fy) lH
def eqU (x:V)(u:Value):Bool:=match u with
 | .none=>eqV .non x
 | .bool b=>eqV (.bl b) x
 | .int i _=>eqV (.int i) x
 | .str z _=>eqV (.str z) x
 | _=>false
theorem zfE {x y:V}(r:RelV y u)(f:vL y=true):eqU x u=eqV y x:=by
 cases y with
 | non=>cases r;rfl
 | bl b=>cases r;rfl
 | int i=>obtain⟨t,rfl⟩:=r;rfl
 | str z=>obtain⟨t,rfl⟩:=r;rfl
 | _=>exact absurd (show false=true from f) lH
theorem zfj {x:V}:∀{xs:List V}{us:List Value},Vals xs us->xs.all vL=true->us.any (eqU x)=xs.any λy=>eqV y x
 | _,_,.nil,_=>rfl
 | y::xs,u::us,.cons r t,f=>by
  rw[lba,lM] at f
  rw[lcM,lcM,zfE r f.1,zfj t f.2]
theorem kE {A:Around}{s:Shared}{x:V}{v:Value}(rx:RelV x v)(fx:vL x=true):∀{xs:List V}{us:List Value},Vals xs us->xs.all vL=true->∀u∈us,SeqAt.EqAt A s u v (eqU x u)
 | _,_,.nil,_=>λu hu=>by cases hu
 | y::xs,u::us,.cons r t,f=>λu' hu=>by
  rw[lba,lM] at f
  rcases lI.mp hu with rfl|hu
  ·rw[zfE r f.1];exact zmR r rx f.1 fx
  ·exact kE rx fx t f.2 u' hu
def inV (x:V)(xs:List V):Bool:=xs.any λy=>eqV y x
def rIn (K:qQ0)(neg:Bool):R2:=λx y H Q=>∃p xs,y=.ref p/\(SqL K H p xs∨SqT K H p xs)/\vL x=true/\xs.all vL=true/\Q (.bl (if neg then !inV x xs else inV x xs)) H
theorem zgZ:OpR X (compareOp .In) (rIn X.K false):=by
 intro pins s σ H x y v u Q I rx ry h
 obtain⟨p,xs,rfl,hq,fx,fs,q⟩:=h
 cases ry
 rcases hq with hq|hq
 ·obtain⟨its,r,pl,hz⟩:=I.list hq
  refine SeqAt.in_listAt (eqU x) pl.isList (λw hw=>kE rx fx r fs w (by simpa using hw)) ⟨.bl _,H,I,rfl,?_⟩
  rw[show its.toArray.any (eqU x)=its.any (eqU x) by simp,zfj r fs]
  exact q
 ·obtain⟨its,r,pl,hz⟩:=I.tuple hq
  refine SeqAt.in_tupleAt (eqU x) pl (λw hw=>kE rx fx r fs w (by simpa using hw)) ⟨.bl _,H,I,rfl,?_⟩
  rw[show its.toArray.any (eqU x)=its.any (eqU x) by simp,zfj r fs]
  exact q
theorem zep:qP X (.type "list") (λxs H Q=>∃p ys,xs=[.ref p]/\(SqL X.K H p ys∨SqT X.K H p ys)/\∀l,H l=none->Q (.ref l) (upd H l (.lst ys))):=by
 intro pins s σ H xs us Q I r h
 obtain⟨p,ys,rfl,hq,q⟩:=h
 obtain⟨u,rfl,rx⟩:=vals1 r
 cases rx
 have fin:∀(its:List Value),Vals ys its->ys.length<=sizeLine->∀(h':Heap) (c':Nat),(∀b o',s.heap.get? b=some o'->h'.get? b=some o') ->
   h'.get? s.heap.objs.size=some {cls:=.type "list", dict:=none,data:=.seq its.toArray c',slots:=#[]}->EP X pins σ Q (.ref s.heap.objs.size) {s with heap:=h'}:=λits r' hz h' c' kp e =>
  ⟨.ref s.heap.objs.size,_,I.laid (t':=s.toks) kp (lB _) (show ObjOk X.prog X.w _ h' _ (.lst ys) from⟨hz,its,c',r',e⟩),rfl,q _ (I.hok.fresh (lB _))⟩
 rcases hq with hq|hq
 ·obtain⟨its,r',pl,hz⟩:=I.list hq
  have hlen:=r'.length
  obtain⟨o,ho,hc,n,hd⟩:=pl.isList
  exact call_list_seq p (.inl rfl) ho hc hd (λh' c' kp e=>fin its r' hz h' c' kp e) (by simp only[lP] <;>omega)
 ·obtain⟨its,r',pl,hz⟩:=I.tuple hq
  have hlen:=r'.length
  obtain⟨o,ho,hc,n,hd⟩:=pl
  exact call_list_seq p (.inr rfl) ho hc hd (λh' c' kp e=>fin its r' hz h' c' kp e) (by simp only[lP] <;>omega)
theorem wk:qP X (.type "tuple") (λxs H Q=>∃p ys,xs=[.ref p]/\((SqL X.K H p ys/\∀l,H l=none->Q (.ref l) (upd H l (.tup ys)))∨(SqT X.K H p ys/\Q (.ref p) H))):=by
 intro pins s σ H xs us Q I r h
 obtain⟨p,ys,rfl,h⟩:=h
 obtain⟨u,rfl,rx⟩:=vals1 r
 cases rx
 rcases h with⟨hq,q⟩|⟨hq,q⟩
 ·obtain ⟨its,r',pl,hz⟩:=I.list hq
  have hlen:=r'.length
  refine call_tuple_list pl.isList (λh' kp=>?_) (by simp only[lP] <;>omega)
  have I1:Inv X pins σ H {s with heap:=h'}:=I.kept (t':=s.toks) kp
  have I2:Inv X pins σ (upd H h'.objs.size (.tup ys)) {s with heap:=h'.push {cls:=.type "tuple", data:=.seq its.toArray} } :=
   I1.laid (t':=s.toks) (λb o e=>lg _ e) (lB _) (show ObjOk X.prog X.w _ _ _ (.tup ys) from⟨hz,its,r',TupD.new _ _⟩)
  exact⟨.ref h'.objs.size,_,I2,rfl,q _ (I1.hok.fresh (lB _))⟩
 ·obtain⟨its,r',pl,hz⟩:=I.tuple hq
  exact call_tuple_same pl ⟨.ref p,H,I,rfl,q⟩
def tyV (K:qQ0)(T:String)(x:V)(H:Hp):Prop:=match x with
 | .str _=>T = "str"
 | .int _=>T = "int"
 | .ref p=>(T = "list" /\ ∃xs,SqL K H p xs)∨(T = "tuple" /\ ∃o,K.lookup p=some o/\o.cls=.type "tuple" /\ o.dict=none) ∨
   (T = "dict" /\ ((∃kvs,H p=some (.dK kvs))∨∃kvs,H p=some (.dT kvs)))∨(T = "set" /\ ∃S n,H p=some (.set S n))
 | _=>False
theorem znq {pins:List (Addr×Obj)}{σ:St}{H:Hp}{s:Shared}{T:String}{x:V}{v:Value}(I:Inv X pins σ H s)(r:RelV x v)(ty:tyV X.K T x H) :
  s.TypeIs v T/\∀a,v=.ref a->∃ob,s.heap.get? a=some ob/\ob.dict=none:=by
 cases x with
 | str z =>
  obtain⟨t,rfl⟩:=r
  cases (show T = "str" from ty)
  exact⟨typeIs_str s z t,λ_ e=>nomatch e⟩
 | int i =>
  obtain⟨t,rfl⟩:=r
  cases (show T = "int" from ty)
  exact⟨typeIs_int s i t,λ_ e=>nomatch e⟩
 | ref p =>
  cases r
  rcases ty with⟨rfl,xs,hq⟩|⟨rfl,o,hk,hc,hd⟩|⟨rfl,hk⟩|⟨rfl,S,n,hk⟩
  ·obtain⟨its,_,pl,_⟩:=I.list hq
   refine⟨pl.isList.typeIs,λa e=>?_⟩
   cases e
   obtain⟨o,n,e,c,hd,_⟩:=pl
   exact⟨o,e,hd⟩
  ·refine⟨⟨o,I.kIn p o hk,hc⟩,λa e=>?_⟩
   cases e
   exact⟨o,I.kIn _ o hk,hd⟩
  ·have z:∃o,s.heap.get? p=some o/\o.ExactDict:=by
    rcases hk with⟨kvs,hk⟩|⟨kvs,hk⟩
    ·obtain⟨_,_,_,_,o,_,_,e,ex,_⟩:=I.hok p _ hk
     exact⟨o,e,ex⟩
    ·obtain⟨_,_,_,_,o,_,_,e,ex,_⟩:=I.hok p _ hk
     exact⟨o,e,ex⟩
   obtain⟨o,e,ex⟩:=z
   refine⟨⟨o,e,ex.1⟩,λa e2=>?_⟩
   cases e2
   exact⟨o,e,ex.2.1⟩
  ·obtain⟨o,_,_,_,e,ex,_⟩:=I.hok p _ hk
   refine⟨⟨o,e,ex.1⟩,λa e2=>?_⟩
   cases e2
   exact⟨o,e,ex.2.1⟩
 | _=>exact False.elim ty
def tBM (K:qQ0)(T:String)(r:V->List V->Hp->VK->Prop)(to:TE)(t:TA):TE:=λσ H Q=>to σ H λx H1=>tyV K T x H1/\t σ H1 λxs H2=>r x xs H2 Q
variable {o e:Expr}{es:List Expr}{to:TE}{t:TA}{name:Str}{apos cpos:Pos}{T id:String}{r:V->List V->Hp->VK->Prop}
theorem zd3 (pa:PlainAttrs T)(slot:Slot T name id)(hty:typeOf (.builtin id)=pure (.type "method_descriptor"))(hm:MtR X id r)(ho:PE X o to)(ha:PA X (e::es) t)
  (hbase:attributeBase o name X.env (eval o X.env)=eval o X.env:=by rfl)
  (hfew:((backTo cpos (starEach (e::es) X.env)).all (λx=>!x.1)&&(backToKw cpos (keywordEach [] X.env)).all (λx=>x.1.isSome)
   && decide ((e::es).length+([]:List Keyword).length+(if ([]:List Keyword).isEmpty then 0 else 1)<30))=true:=by rfl)
  (hline:(apos.endLine == cpos.line)=true:=by rfl) (hs:starEach (e::es) X.env=(false,eval e X.env)::starEach es X.env:=by rfl) (hplain:(backTo cpos (starEach es X.env)).any (·.1)=false:=by rfl) :
  PE X (.Call (.Attribute o name apos) (e::es) [] cpos) (tBM X.K T r to t):=by
 intro pins s σ H Q I h
 refine wpAny_Call_method_late hbase hfew hline rfl (thn (ho pins s σ H _ I h) λv s1 zos=>?_)
 obtain⟨x,H1,I1,r1,ty,q1⟩:=zos
 obtain⟨h1,h2⟩:=znq I1 r1 ty
 refine⟨T,id,pa,slot,hty,h1,h2,?_⟩
 have hA:=ha cpos pins s1 σ H1 _ I1 q1
 rw[hs] at hA ⊢
 refine Calls.callWith_builtin (by show(false || (backTo cpos (starEach es X.env)).any (·.1))=false;rw[hplain] <;>rfl) (ldg ?_)
 exact thn hA λus s2 ⟨vs,H2,I2,r2,q2⟩=>hm pins s2 σ H2 x vs v us Q I2 r1 r2 q2
/- xs.append(e), list.index on a module's tuple .. are MtR facts of 06m -/
end
def MtM (X:Cx)(id:String)(r:V->List V->Hp->VK->Prop):Prop :=
 ∀ (pins:List (Addr×Obj)) (s:Shared) (σ:St) (H:Hp) (x:V) (xs:List V) (v:Value) (us:List Value) (Q:VK),Inv X pins σ H s->RelV x v->Vals xs us->r x xs H Q ->
  wpAny (model X.prog X.w) X.A (call (.builtin id) (v::us)) (EP X pins σ Q) X.xe s
theorem Vals.one:∀{x:V}{us:List Value},Vals [x] us->∃u,us=[u]/\RelV x u:=by
 intro x us h
 cases h with
 | cons r t=>cases t;exact⟨_,rfl,r⟩
theorem Vals.two:∀{x y:V}{us:List Value},Vals [x,y] us->∃u v,us=[u,v]/\RelV x u/\RelV y v:=by
 intro x y us h
 cases h with
 | cons r t=>obtain⟨v,rfl,q⟩:=Vals.one t;exact⟨_,_,rfl,r,q⟩
theorem Vals.eraseIdx:∀{xs:List V}{us:List Value} (i:Nat),Vals xs us->Vals (xs.eraseIdx i) (us.eraseIdx i)
 | _,_,_,.nil=>.nil
 | _,_,0,.cons _ t=>t
 | _,_,i+1,.cons r t=>.cons r (Vals.eraseIdx i t)
theorem Vals.rep {xs:List V}(h:Vals xs us):∀k:Nat,Vals (List.replicate k xs).flatten (List.replicate k us).flatten
 | 0=>.nil
 | k+1=>by
  rw[lby,lby,lbi,lbi]
  exact Vals.append h (Vals.rep h k)
theorem zee {α:Type}:∀(l:List α) (i:Nat),(l.eraseIdx i).length<=l.length
 | [],_=>lB _
 | _::_,0=>lcF _
 | _::r,i+1=>Nat.succ_le_succ (zee r i)
theorem foldl_rep (its:List Value):∀(k:Nat) (acc:List Value),
  List.foldl (λx1 x2=>x1++x2) acc.toArray (List.replicate k its.toArray)=(acc++(List.replicate k its).flatten).toArray
 | 0,acc=>by simp
 | k+1,acc=>by
  have e:acc.toArray++its.toArray=(acc++its).toArray:=by simp
  have e2:(acc++its)++(List.replicate k its).flatten=acc++(List.replicate (k+1) its).flatten:=by
   rw[lby,lbi,la3]
  rw[← e2,← foldl_rep its k (acc++its),← e,lby,la6]
section
variable {X:Cx}{pins:List (Addr×Obj)}{σ:St}{H:Hp}{s:Shared}{l b:Addr}{xs ys zs:List V}
theorem Inv.lset {its':List Value}{f:Array Value->Array Value}(I:Inv X pins σ H s)(hH:H l=some (.lst xs))
  (e:s.heap.get? l=some {cls:=.type "list", data:=.seq its.toArray n}) (hf:f its.toArray=its'.toArray) (hv:Vals ys its') (hz:ys.length<=sizeLine) :
  Inv X pins σ (upd H l (.lst ys)) {s with heap:=s.heap.update l (Obj.mapSeq f),toks:=t'}:=by
 have q:=PySem.IsL.update e f
 rw[hf] at q
 refine I.write (x:=l) (e:=l) (by rw[hH];exact trivial) (.inl rfl) (λb' u hb hu=>(Heap.get?_update_other s.heap (Obj.mapSeq f) (lbY hb)).trans hu) ⟨_,q⟩ ?_
 exact⟨hz,its',_,hv,q⟩
theorem Inv.lnew (I:Inv X pins σ H s)(hv:Vals ys its)(hz:ys.length<=sizeLine) :
  Inv X pins σ (upd H s.heap.objs.size (.lst ys)) {s with heap:=s.heap.push {cls:=.type "list", data:=.seq its.toArray},toks:=t'} :=
 I.laid (λ_ _ q=>lg _ q) (lB _) ⟨hz,its,0,hv,lC _ rfl⟩
theorem Inv.fresh (I:Inv X pins σ H s):H s.heap.objs.size=none:=I.hok.fresh (lB _)
theorem Inv.lstM (I:Inv X pins σ H s)(hH:H l=some (.lst xs)):xs.length<=sizeLine/\∃(its:List Value) (n:Nat),Vals xs its/\xs.length=its.length/\s.heap.get? l=some {cls:=.type "list", data:=.seq its.toArray n}:=by
 obtain⟨z,its,n,r,e⟩:=I.hok l _ hH
 exact⟨z,its,n,r,r.length,e⟩
theorem zfJ (h:n<=sizeLine):Builtin.List.listTooLong n=false:=by
 unfold Builtin.List.listTooLong
 exact laa (by omega)
end
section
variable {X:Cx}
def zkU:V->List V->Hp->VK->Prop:=λx vs H Q=>∃l xs y,x=.ref l/\vs=[y]/\H l=some (.lst xs)/\xs.length<sizeLine/\Q .non (upd H l (.lst (xs++[y])))
theorem ziK:MtM X "list.append" zkU:=by
 intro pins s σ H x vs v us Q I rx rv h
 obtain⟨l,xs,y,rfl,rfl,hH,hz,q⟩:=h
 cases rx
 obtain⟨u,rfl,ru⟩:=rv.one
 obtain⟨z,its,n,r,hl,e⟩:=I.lstM hH
 refine lcI F.slot_list_append ⟨_,e,rfl⟩ F.entry_list_append (F.args_list_append_2 _ _) (PySem.list_append l its.toArray n u (by rw[lP];omega)) ⟨e,?_⟩
 refine⟨.non,_,I.lset (its':=its++[u]) hH e (by simp) (r.append (.cons ru .nil)) ?_,rfl,q⟩
 rw[lae,lc6]
 omega
def zmU:V->List V->Hp->VK->Prop:=λx vs H Q=>∃l xs i k y,x=.ref l/\vs=[.int i]/\H l=some (.lst xs)/\-(2 ^ 63)<=i/\i<2 ^ 63/\seqIndex? i xs.length=some k/\xs[k]? = some y/\Q y (upd H l (.lst (xs.eraseIdx k)))
theorem zi8:MtM X "list.pop" zmU:=by
 intro pins s σ H x vs v us Q I rx rv h
 obtain⟨l,xs,i,k,y,rfl,rfl,hH,h1,h2,hk,hy,q⟩:=h
 cases rx
 obtain⟨u,rfl,ru⟩:=rv.one
 obtain⟨t,rfl⟩:=ru
 obtain⟨z,its,n,r,hl,e⟩:=I.lstM hH
 obtain⟨w,hw,rw'⟩:=r.get hy
 refine lcI F.slot_list_pop ⟨_,e,rfl⟩ F.entry_list_pop (F.args_list_pop_2 _ _)
  (MeetsSeq.list_pop_at l its.toArray n i t k w (fitsIndex_both h1 h2) (by rw[lP,← hl];exact hk) (by rw[← Array.getElem?_toList];exact hw) (by rw[lP];omega)) ⟨e,?_⟩
 refine⟨y,_,I.lset (its':=its.eraseIdx k) hH e ?_ (r.eraseIdx k) ?_,rw',q⟩
 ·show its.toArray.eraseIdxIfInBounds k=(its.eraseIdx k).toArray
  rw[List.eraseIdxIfInBounds_toArray]
 ·have:=zee xs k
  omega
theorem len_rep (xs:List α)(k:Nat):(List.replicate k xs).flatten.length=k*xs.length:=by
 induction k with
 | zero=>simp
 | succ k ih=>rw[lby,lbi,lae,ih,Nat.succ_mul,Nat.add_comm]
end
section
variable {κ:Type} [DecidableEq κ]
def zm4 (kvs:List (κ×V))(k:κ):List (κ×V):=kvs.filter λkv=>decide (kv.1≠k)
theorem RelO.getD {o:Option V}{u:Option Value}{d:V}{d':Value}(r:RelO o u)(rd:RelV d d'):RelV (o.getD d) (u.getD d'):=by
 cases o with
 | none=>cases u with
  | none=>exact rd
  | some _=>exact(show False from r).elim
 | some _=>cases u with
  | none=>exact(show False from r).elim
  | some _=>exact r
theorem KV.any {kvs:List (κ×V)}{vs:List (κ×Value)}(r:KV kvs vs)(k:κ):(kvs.any λkv=>decide (kv.1=k))=vs.any λkv=>decide (kv.1=k):=by
 unfold KV at r
 induction r with
 | nil=>rfl
 | cons h t ih=>rw[lcM,lcM,ih,h.1]
theorem KV.drop {kvs:List (κ×V)}{vs:List (κ×Value)}(r:KV kvs vs)(k:κ):KV (zm4 kvs k) (without vs k):=by
 unfold KV at r ⊢
 unfold zm4 without
 induction r with
 | nil=>exact .nil
 | @cons p q ps qs h t ih =>
  obtain⟨h1,h2⟩:=h
  rw[List.filter_cons,List.filter_cons]
  by_cases e:p.1=k
  ·have a:¬decide (p.1≠k)=true:=by simp[e]
   have b:¬decide (q.1≠k)=true:=by simp[h1.symm.trans e]
   rw[lac a,lac b];exact ih
  ·have e':¬q.1=k:=λz=>e (h1.trans z)
   have a:decide (p.1≠k)=true:=by simp[e]
   have b:decide (q.1≠k)=true:=by simp[e']
   rw[lU a,lU b];exact .cons ⟨h1,h2⟩ ih
theorem KV.keys {kvs:List (κ×V)}{vs:List (κ×Value)}(r:KV kvs vs):kvs.map (·.1)=vs.map (·.1):=by
 unfold KV at r
 induction r with
 | nil=>rfl
 | cons h t ih=>rw[lF,lF,ih,h.1]
theorem KV.length {kvs:List (κ×V)}{vs:List (κ×Value)}(r:KV kvs vs):kvs.length=vs.length:=Paired.length r
end
theorem zoD {P:Program}{w:World}{k:Key}(r:RelV (kV k) u):(vA P w).is k u=true:=by
 cases k with
 | inl i=>obtain⟨t,e⟩:=(show ∃t,u=Value.int i t from r);subst e;exact ze5 P w i t
 | inr x=>obtain⟨t,e⟩:=(show ∃t,u=Value.str x t from r);subst e;exact zfc P w x t
theorem zdP {P:Program}{w:World}:∀{ks:List Key}{us:List Value},Vals (ks.map kV) us->ItemsAre (vA P w) ks us
 | [],_,r=>by rw[lbc] at r;cases r;exact .nil
 | k::ks,_,r=>by
  rw[lF] at r
  cases r with
  | cons h t=>exact .cons (zoD h) (zdP t)
section
variable {X:Cx}{pins:List (Addr×Obj)}{σ:St}{H:Hp}{s:Shared}{a:Addr}{y v:V}{u r:Value}{o:Option V}{A:Around}{E:qQ2}
theorem Inv.big (I:Inv X pins σ H s):sysModules<s.heap.objs.size:=by
 have h:mainGlobals<s.heap.objs.size:=(I.mod.glob.keeps I.bk).lt
 exact ldx (by decide) h
theorem zkZ {h':Heap}{ob:HO}(I:Inv X pins σ H s)(mu:Mut (H a))(hs:Heap.SameBut a s.heap h')(he:∃q,h'.get? a=some q)(new:ObjOk X.prog X.w (upd H a ob) h' a ob) :
  Inv X pins σ (upd H a ob) {s with heap:=h',toks:=t'} :=
 I.write (x:=a) (e:=a) mu (.inl rfl) (λb q hb z=>(hs.2 b hb).trans z) he new
end
end L2
namespace Att
open PySem PySem.W PySem.Calls PyProof.Rows
theorem zbp {P:Params}{h:Heap}:∀(ns:List Int) (vs:List Value),WellAll P h vs (ns.map WData.int)->IntsAre vs ns:=by
 intro ns
 induction ns with
 | nil =>
  intro vs w
  rw[lbc] at w
  cases w
  exact .nil
 | cons n ns ih =>
  intro vs w
  rw[lF] at w
  cases w with
  | cons a b =>
   cases a
   exact .cons _ _ (ih _ b)
theorem zhl {l:OpenLaw}{n:Nat}(hn:l.most=some n){P:Params}{h:Heap}{args:List WData}{vals:List Value}
  (hpre:l.row.toRowW.claim.pre args=true) (hwl:WellAll P h vals args) :
  ∃a vs ns,vals=[Value.ref a]/\args=[WData.list (ns.map WData.int)]/\h.get? a=some {cls:=.type "list", data:=.seq vs.toArray}/\IntsAre vs ns/\ns.length<=n:=by
 have hsh:WShape.hasAll [] args [.list .int]=true:=(pre_splitW hpre).1
 have hc:l.pre.holds [] {args:=args}=true:=(pre_splitW hpre).2
 obtain⟨d,r,rfl,h1,h2⟩:=hasAllW_cons hsh
 obtain rfl:=hasAllW_nil h2
 obtain⟨xs,rfl,h3⟩:=hasW_list h1
 obtain⟨ns,rfl⟩:=items_int h3
 have hlen:ns.length<=n:=by
  unfold OpenLaw.pre at hc
  have h4:(WTm.not (.lt (.lit (.int (n:Int))) (.len (.arg 0)))).holds [] {args:=[.list (ns.map .int)]}=true:=by
   have h4:=(holds_andW hc).1
   rw[hn] at h4
   exact h4
  have h5:=condW_of h4 (w_not (w_lt w_lit (w_len_list (w_arg rfl))))
  rw[lQ] at h5
  refine Nat.le_of_not_lt λq=>?_
  have q':(n:Int)<((ns.length:Nat):Int):=by omega
  first
   | (rw[lX q'] at h5;exact absurd h5 (by decide))
   | (simp at h5;omega)
 cases hwl with
 | cons w1 w2 =>
  cases w2
  cases w1 with
  | list ho hall=>exact⟨_,_,ns,rfl,rfl,ho,zbp ns _ hall,hlen⟩
theorem zhq (l:OpenLaw)(args:List WData):l.row.toRowW.claim.post args (.bool true) args=true :=
 postW_of (r:=l.row.toRowW) (X:=(true == true))
  (show WShape.has [] (.bool true) .bool=true by first|rfl|decide|simp[WShape.has,WShape.arms,WShape.armsAll])
  (show(WTm.eq .res (.lit (.bool true))).value [] {args:=args,res:=some (.bool true),after:=args}=some (.bool (true == true)) from w_eq_bool (w_res rfl) w_lit) rfl
theorem attach_call {l:OpenLaw}{n:Nat}{q:Program}{loose:List Str}{XP:(qQ3)->Heap->Prop}{YP:World->Heap->Prop}{d:DefRec}
  (hn:l.most=some n) (hdf:d.params.defaults=[])
  (call:∀(w:World) (s₀ s₁:Shared) (mg mb:qQ3) (fa:Addr) (o:Obj) (pm cd doc:Value) (a:Addr) (vs:List Value) (ns:List Int),
   Ground q loose [] XP w s₀ mg mb s₁.heap->YP w s₁.heap ->
   s₁.heap.get? fa=some o->o.data=.func (docDef d.name d.params d.body d.scope pm cd doc)->s₁.heap.CodeRec cd d.name->mg d.name=some (.ref fa) ->
   s₁.heap.get? a=some {cls:=.type "list", data:=.seq vs.toArray}->IntsAre vs ns->ns.length<=n->s₁.gens = #[] ->
   codeAny (model l.prog w) callerA (.call (.ref fa) ⟨[.ref a],[]⟩) (λr s'=>r=.ok (.ret (.bool true))/\OldK s₁.heap s'.heap/\s'.os=s₁.os/\AllBare s'.gens) s₁) :
  WalkO q loose XP YP l.row.toRowW d [] (λf vs=>PySem.call f vs):=by
 intro w s₀ s₁ mg mb G Y fa o pm cd doc dV kV ho hd hcd hD hmg hg args vals as hpre hlay hrd hwl hlo
 obtain rfl:dV=.none:=Dflts.none hD hdf
 obtain rfl:kV=.none:=Dflts.noKw hD
 obtain⟨a,vs,ns,rfl,rfl,hobj,hints,hlen⟩:=zhl hn hpre hwl
 refine enter_call (lc5 (call w s₀ s₁ mg mb fa o pm cd doc a vs ns G Y ho (fd_plain hd) hcd hmg hobj hints hlen hg) λr s' hq=>?_)
 obtain⟨rfl,h2,h3,h4⟩:=hq
 exact⟨.inl ⟨.bool true,.bool true,[],rfl,λ_=>rfl,.bool true,zhq l _,λ_=>⟨List.Pairwise.nil,λ_ hm=>(nomatch hm)⟩⟩,h2,h3,h4⟩
end Att
namespace L2
open PySem PySem.Spec PyProof.Rows
variable {x qual:Str}{f:Addr}{fd:FuncData}{ps:List Str}
theorem zdO:∀{vs:List Value}{ns:List Int},IntsAre vs ns->Vals (ns.map V.int) vs
 | _,_,.nil=>.nil
 | _,_,.cons n t h=>.cons ⟨t,rfl⟩ (zdO h)
def Only (H:Hp):Prop:=∀b,H b=none∨∃o xs,H b=some (.frz o (.lst xs))
def jB (s:Stmt):Arguments:=match s with
 | .FunctionDef _ a _ _ _ _ _ _ _ _=>a
 | _=>{posonlyargs:=[],args:=[],vararg:=none,kwonlyargs:=[],kw_defaults:=[],kwarg:=none,defaults:=[]}
def xP (s:Stmt):List Stmt:=match s with
 | .FunctionDef _ _ b _ _ _ _ _ _ _=>b
 | _=>[]
def zq (s:Stmt):Scope:=match s with
 | .FunctionDef _ _ _ _ _ _ sc _ _ _=>sc
 | _=>{kind:=.function,names:=[],isGenerator:=false,isCoroutine:=false}
abbrev CX0:CXT:=λ_ _ _ _ _ _=>False
abbrev E0:XK:=λ_ _ _=>False
structure Fun (K:qQ0)(x qual:Str)(st:Stmt)(f:Addr)(fd:FuncData):Prop where
 ex:∃(oc:Value) (od:Option Addr) (kV doc pm:Value) (an:Option Addr) (cdv ct:Value) (osl:Array (Option Value)),
  fd=PySem.W.fnOf x qual (jB st) (xP st) (zq st) .none kV doc pm an cdv ct/\K.lookup f=some ⟨oc,od,.func fd,osl⟩/\PySem.W.codeIn K cdv qual=true
 kp:PySem.W.keepIn K (.ref f)=true
section
variable {P:Program}{w:World}{K:qQ0}{mg:qQ3}{base:Heap}
theorem Fun.ok {st:Stmt}{N:List Str}{k:Nat}{sp:Sp}(F:Fun K x qual st f fd)(S:FnScope N ps (zq st))(len:∀vs H Q E,sp vs H Q E->vs.length=ps.length)
  (hbody:∀(cdv:Value) (A:Around) (outer:List Env) (s:Shared) (H:Hp) (vs:List V) (Q:VK) (E:XK),Room k (A.deeper (envOfC qual (zq st) s.heap.objs.size f cdv))->sp vs H Q E ->
   ∃t,PSs (je CX0 P w K mg base N qual (zq st) f cdv A outer s H E).nox (xP st) t/\t {nx:=λ_ H'=>Q .non H',rt:=Q} (start N vs) H):FnOk P w K mg base CX0 (k+1) f fd ps sp:=by
 obtain⟨oc,od,kV,doc,pm,an,cdv,ct,osl,rfl,lk,hcd⟩:=F.ex
 refine zkW lk hcd S len λA outer s H vs Q E hr hsp=>?_
 obtain⟨t,h,q⟩:=hbody cdv A outer s H vs Q E hr hsp
 exact⟨t,h.nox,q⟩
theorem Fun.binds {st:Stmt}(F:Fun K x qual st f fd)
  (h:∀(kV doc pm:Value) (an:Option Addr) (cdv ct:Value) (us:List Value),us.length=ps.length->bindArgs (PySem.W.fnOf x qual (jB st) (xP st) (zq st) .none kV doc pm an cdv ct) ⟨us,[]⟩=pure (ps.zip us)):Binds K fd ps []:=by
 obtain⟨oc,od,kV,doc,pm,an,cdv,ct,osl,rfl,lk,hcd⟩:=F.ex
 exact .all (h kV doc pm an cdv ct)
theorem zit {st:Stmt}{oc:Value}{od an:Option Addr}{osl:Array (Option Value)}{kV doc pm cdv ct:Value}(l:K.lookup f=some ⟨oc,od,.func (PySem.W.fnOf x qual (jB st) (xP st) (zq st) .none kV doc pm an cdv ct),osl⟩)
  (c:PySem.W.codeIn K cdv qual=true) (k:PySem.W.keepIn K (.ref f)=true):Fun K x qual st f (PySem.W.fnOf x qual (jB st) (xP st) (zq st) .none kV doc pm an cdv ct):=⟨⟨oc,od,kV,doc,pm,an,cdv,ct,osl,rfl,l,c⟩,k⟩
end
theorem zoi {A:Around}{k:Nat}(hr:Room k A):A.units+1<cLine:=Nat.lt_of_le_of_lt (Nat.add_le_add_left (by decide:1<=64) _) hr.units
section
variable {X:Cx}
theorem pv (i:Nat){pos:Pos}(hN:X.N[i]? = some x:=by rfl)(hv:Vis X.env.scope x:=by first|exact Or.inl rfl|exact Or.inr (Or.inl rfl)|exact Or.inr (Or.inr rfl))(hd:(x == ("__debug__" : Str))=false:=by decide)
  (hcd:(x == ("__classdict__" : Str))=false:=by decide):PE X (.Name x pos) (zkv i):=znz hN hv hd hcd
end
def Same (H H':Hp):Prop:=∀b o,H b=some o->H' b=some o
theorem Same.refl (H:Hp):Same H H:=λ_ _ h=>h
theorem Same.trans {H H1 H2:Hp}(a:Same H H1)(b:Same H1 H2):Same H H2:=λc o h=>b c o (a c o h)
theorem Same.free {H H':Hp}(e:Same H H'){l:Addr}(h:H' l=Option.none):H l=Option.none:=by
 cases q:H l with
 | none=>rfl
 | some o =>
  rw[e l o q] at h
  cases h
theorem Same.seq {K:qQ0}{H H':Hp}{a:Addr}{xs:List V}(e:Same H H')(h:SqL K H a xs):SqL K H' a xs:=by
 rcases h with(h|⟨o,h⟩)|h
 ·exact .inl (.inl (e _ _ h))
 ·exact .inl (.inr ⟨o,e _ _ h⟩)
 ·exact .inr h
end L2
namespace My
def low (u d:Int):Int×Int:=(u / (Int.gcd u d:Int),d / (Int.gcd u d:Int))
end My
namespace Zp
open PySem
section
variable {prog:Program}{w:World}{A:Around}{E:qQ2}{s:Shared}
theorem zad {it t:Addr}{i:Nat}{items}{x:Value}{Q:qQ2}(hit:s.heap.IsTupleIter it t i)
  (ht:s.heap.IsTuple t items) (hx:items[i]? = some x)
  (hQ:∀h',h'.IsTupleIter it t (i+1)->Heap.SameBut it s.heap h'->Q x {s with heap:=h'}) :
  wpAny (model prog w) A (Builtin.SmallTypes.nextOf (.ref it)) Q E s:=by
 obtain⟨o,ho,hc,hd⟩:=id hit
 obtain⟨ol,hol,_,nl,hdl⟩:=ht
 unfold Builtin.SmallTypes.nextOf
 refine la (lV (name:=Str.ofString "__next__") hit.typeIs lbZ
  (lad lbZ hit.typeIs F.entry_tuple_iterator_next ?_ (F.args_tuple_iterator_next_1 _)))
 show wpAny _ _ (field (.ref it) 0 >>= _) _ _ s
 refine la (laj ho hd (x:=.ref t) rfl ?_)
 show wpAny _ _ (if (Value.ref t == Value.none)=true then _ else _) _ _ s
 rw[lac (show ¬((Value.ref t == Value.none)=true) from lH)]
 show wpAny _ _ (field (.ref it) 1 >>= _) _ _ s
 refine la (laj ho hd (x:=.int i 0) rfl ?_)
 show wpAny _ _ (seqItems? (.ref t) >>= _) _ _ s
 refine la (lau hol hdl ?_)
 simp only[laq,hx]
 refine la (lb6 ho hd (by simp) (lr ⟨x,rfl,lr (hQ _ ?_ (lah ..))⟩))
 exact ⟨_,lcl _ ho (lcn (lbn hd _)),(lcY ..).trans hc,by
  rw[lbn hd];simp[rawInt]⟩
theorem zaQ {it t:Addr}{i:Nat}{items}{Q:qQ2}(hh:A.handled=none)
  (hit:s.heap.IsTupleIter it t i) (ht:s.heap.IsTuple t items) (hx:items[i]? = none)
  (hE:∀h' e,Heap.ExtBut it s.heap h'->(∃o,h'.get? e=some o/\o.cls=.type "StopIteration")->E (.ref e) {s with heap:=h'}) :
  wpAny (model prog w) A (Builtin.SmallTypes.nextOf (.ref it)) Q E s:=by
 obtain⟨o,ho,hc,hd⟩:=id hit
 obtain⟨ol,hol,_,nl,hdl⟩:=ht
 unfold Builtin.SmallTypes.nextOf
 refine la (lV (name:=Str.ofString "__next__") hit.typeIs lbZ
  (lad lbZ hit.typeIs F.entry_tuple_iterator_next ?_ (F.args_tuple_iterator_next_1 _)))
 show wpAny _ _ (field (.ref it) 0 >>= _) _ _ s
 refine la (laj ho hd (x:=.ref t) rfl ?_)
 show wpAny _ _ (if (Value.ref t == Value.none)=true then _ else _) _ _ s
 rw[lac (show ¬((Value.ref t == Value.none)=true) from lH)]
 show wpAny _ _ (field (.ref it) 1 >>= _) _ _ s
 refine la (laj ho hd (x:=.int i 0) rfl ?_)
 show wpAny _ _ (seqItems? (.ref t) >>= _) _ _ s
 refine la (lau hol hdl ?_)
 simp only[laq,hx]
 refine la (lcZ (la (lb6 ho hd (by simp) ?_)))
 show wpAny _ _ (newExc (.type "StopIteration") [] >>= _) _ _ _
 refine la ?_
 simp only[newExc,newTuple]
 refine la (laH ?_ (by size_fits))
 refine la (m:=firstArgMember _ _) (lc0 (a:=Value.none) (by first|rfl|(simp only[firstArgMember];rfl)) ?_)
 refine laH ?_ (by size_fits)
 simp only[raiseNew]
 refine la (ldO ?_)
 first|rw[show A.in1.handled=none from hh] | rw[hh]
 refine la (lr (wpAny_throw ?_))
 exact hE _ _ (((lah ..).extBut.push _).push _) ⟨_,lC _ rfl,rfl⟩
theorem zaC {it:Addr}{x:Str}{t:Tok}{i c:Nat}{Q:qQ2}(hit:s.heap.IsStrIter it "str_ascii_iterator" x t i)(hx:x.cps[i]? = some c)
  (hQ:∀h',h'.IsStrIter it "str_ascii_iterator" x t (i+1)->Heap.SameBut it s.heap h'->Q (.str ⟨#[c]⟩ s.toks) {s with heap:=h',toks:=s.toks+1}) :
  wpAny (model prog w) A (Builtin.SmallTypes.nextOf (.ref it)) Q E s:=by
 obtain⟨o,ho,hc,hd⟩:=id hit
 unfold Builtin.SmallTypes.nextOf
 refine la (lV (name:=Str.ofString "__next__") hit.typeIs lbE
  (lad lbE hit.typeIs F.entry_str_ascii_iterator_next ?_ (F.args_str_ascii_iterator_next_1 _)))
 show wpAny _ _ (field (.ref it) 0 >>= _) _ _ s
 refine la (laj ho hd (x:=.str x t) rfl ?_)
 show wpAny _ _ (field (.ref it) 1 >>= _) _ _ s
 refine la (laj ho hd (x:=.int i 0) rfl ?_)
 simp only[laq,hx]
 refine la (lb6 ho hd (by simp) (la (wpAny_mkStr (lr ⟨_,rfl,lr (hQ _ ?_ (lah ..))⟩) (by show 1<=sizeLine;decide))))
 exact ⟨_,lcl _ ho (lcn (lbn hd _)),(lcY ..).trans hc,by
  rw[lbn hd];simp[rawInt]⟩
theorem zaS {it:Addr}{x:Str}{t:Tok}{i:Nat}{Q:qQ2}(hh:A.handled=none)
  (hit:s.heap.IsStrIter it "str_ascii_iterator" x t i) (hx:x.cps[i]? = none)
  (hE:∀h' e,Heap.ExtBut it s.heap h'->(∃o,h'.get? e=some o/\o.cls=.type "StopIteration")->E (.ref e) {s with heap:=h'}) :
  wpAny (model prog w) A (Builtin.SmallTypes.nextOf (.ref it)) Q E s:=by
 obtain⟨o,ho,hc,hd⟩:=id hit
 unfold Builtin.SmallTypes.nextOf
 refine la (lV (name:=Str.ofString "__next__") hit.typeIs lbE
  (lad lbE hit.typeIs F.entry_str_ascii_iterator_next ?_ (F.args_str_ascii_iterator_next_1 _)))
 show wpAny _ _ (field (.ref it) 0 >>= _) _ _ s
 refine la (laj ho hd (x:=.str x t) rfl ?_)
 show wpAny _ _ (field (.ref it) 1 >>= _) _ _ s
 refine la (laj ho hd (x:=.int i 0) rfl ?_)
 simp only[laq,hx]
 refine la (lcZ (la (lb6 ho hd (by simp) (la (lbh ?_)))))
 show wpAny _ _ (newExc (.type "StopIteration") [] >>= _) _ _ _
 refine la ?_
 simp only[newExc,newTuple]
 refine la (laH ?_ (by size_fits))
 refine la (m:=firstArgMember _ _) (lc0 (a:=Value.none) (by first|rfl|(simp only[firstArgMember];rfl)) ?_)
 refine laH ?_ (by size_fits)
 simp only[raiseNew]
 refine la (ldO ?_)
 first|rw[show A.in1.handled=none from hh] | rw[hh]
 refine la (lr (wpAny_throw ?_))
 exact hE _ _ (((lah ..).extBut.push _).push _) ⟨_,lC _ rfl,rfl⟩
end
variable {z i1 i2:Addr}{P1 P2:Value->Prop}{S1:Heap->Prop}{Q:qQ2}
abbrev IsZipF (h:Heap)(z TI TO:Addr)(f0 f1:Value):Prop :=
 h.get? z=some {cls:=.type "zip", dict:=none,data:=.fields #[f0,f1,.bool false,.ref TI,.ref TO],slots:=#[]}
structure Apart (z TI TO i1 i2:Addr):Prop where
 TIz:TI≠z
 TOz:TO≠z
 i1z:i1≠z
 i2z:i2≠z
 TITO:TI≠TO
 TIi1:TI≠i1
 TIi2:TI≠i2
 TOi1:TO≠i1
 TOi2:TO≠i2
 i12:i1≠i2
def Yields (prog:Program)(w:World)(A:Around)(it:Addr)(G:Heap->Prop)(P:Value->Prop)(S:Heap->Prop):Prop :=
 ∀ (s:Shared) (Q:qQ2) (E:qQ2),G s.heap->(∀x h' tk,P x->S h'->Heap.SameBut it s.heap h'->Q x {s with heap:=h',toks:=tk}) ->
  wpAny (model prog w) A (Builtin.SmallTypes.nextOf (.ref it)) Q E s
def Ends (prog:Program)(w:World)(A:Around)(it:Addr)(G:Heap->Prop):Prop :=
 ∀ (s:Shared) (Q:qQ2) (E:qQ2),G s.heap->(∀h' e,Heap.ExtBut it s.heap h'->(∃o,h'.get? e=some o/\o.cls=.type "StopIteration")->E (.ref e) {s with heap:=h'}) ->
  wpAny (model prog w) A (Builtin.SmallTypes.nextOf (.ref it)) Q E s
section
variable {prog:Program}{w:World}{A:Around}{E:qQ2}{s:Shared}
theorem next_item {TI TO:Addr}{a b f1:Value}{G1 G2 S2:Heap->Prop}(D:Apart z TI TO i1 i2)
  (hz:IsZipF s.heap z TI TO .none f1) (hTI:IsPair s.heap TI (.ref i1) (.ref i2)) (hTO:IsPair s.heap TO a b)
  (Y1:Yields prog w A i1 G1 P1 S1) (Y2:Yields prog w A i2 G2 P2 S2)
  (g1:∀h',(∀c o,c≠z->s.heap.get? c=some o->h'.get? c=some o)->G1 h') (g2:∀h',(∀c o,c≠z->c≠TO->c≠i1->s.heap.get? c=some o->h'.get? c=some o)->G2 h')
  (k1:∀h h',S1 h->(∀c o,c≠z->c≠TO->c≠i2->h.get? c=some o->h'.get? c=some o)->S1 h')
  (k2:∀h h',S2 h->(∀c o,c≠z->c≠TO->h.get? c=some o->h'.get? c=some o)->S2 h')
  (hQ:∀x y h' tk,P1 x->P2 y->IsZipF h' z TI TO (rawInt s.heap.objs.size) (.bool false)->IsPair h' TO x y->S1 h'->S2 h'->IsPair h' s.heap.objs.size x y->h'.objs.size=s.heap.objs.size+1 ->
   (∀c o,c≠z->c≠TO->c≠i1->c≠i2->s.heap.get? c=some o->h'.get? c=some o)->Q (.ref s.heap.objs.size) {s with heap:=h',toks:=tk}) :
  wpAny (model prog w) A (Builtin.«zip.__next__» ⟨[.ref z],[]⟩) (λfin s'=>∃v,fin=.done (.ret v)/\Q v s') E s:=by
 show wpAny _ _ (field (.ref z) 2 >>= _) _ _ _
 refine la (laj hz rfl (x:=.bool false) rfl ?_)
 show wpAny _ _ (field (.ref z) 3 >>= _) _ _ _
 refine la (laj hz rfl (x:=.ref TI) rfl ?_)
 refine la (lau hTI rfl ?_)
 show wpAny _ _ (Builtin.SmallTypes.ownedTupleIsFree (.ref z) >>= _) _ _ _
 refine la ?_
 unfold Builtin.SmallTypes.ownedTupleIsFree
 refine la (laj hz rfl (x:=.none) rfl (lr ?_))
 simp only[lbx]
 refine la (lcZ ?_)
 refine la (laj hz rfl (x:=.ref TO) rfl ?_)
 refine la (lbo hz (by simp) λh₁ hz₁ hs₁=>?_)
 replace hz₁:IsZipF h₁ z TI TO .ellipsis f1:=hz₁
 refine la ?_
 simp only[List.zipIdx_cons,List.zipIdx_nil,lcc,lcg]
 refine la (la (ldP ?_))
 show wpAny _ _ (Builtin.SmallTypes.nextOf (.ref i1) >>= _) _ _ _
 refine la (Y1 _ _ _ (g1 _ λc o hc e=>hs₁.extBut _ _ hc e) λx h₂ tk₂ px st1 hs₂=>lr ?_)
 have hTO₂:IsPair h₂ TO a b:=hs₂.extBut _ _ D.TOi1 (hs₁.extBut _ _ D.TOz hTO)
 refine la (lau hTO₂ rfl ?_)
 refine la (ldh hTO₂ λh₃ hTO₃ hs₃=>?_)
 replace hTO₃:IsPair h₃ TO x b:=hTO₃
 refine la (lbh (lr ?_))
 refine la (la (ldP ?_))
 show wpAny _ _ (Builtin.SmallTypes.nextOf (.ref i2) >>= _) _ _ _
 refine la (Y2 _ _ _ (g2 _ λc o c1 c2 c3 e=>hs₃.extBut _ _ c2 (hs₂.extBut _ _ c3 (hs₁.extBut _ _ c1 e))) λy h₄ tk₄ py st2 hs₄=>lr ?_)
 have hTO₄:IsPair h₄ TO x b:=hs₄.extBut _ _ D.TOi2 hTO₃
 refine la (lau hTO₄ rfl ?_)
 refine la (ldh hTO₄ λh₅ hTO₅ hs₅=>?_)
 replace hTO₅:IsPair h₅ TO x y:=hTO₅
 refine la (lbh (lr (lr ?_)))
 refine la (lau hTO₅ rfl ?_)
 refine la (ldB ?_)
 have hsz:h₅.objs.size=s.heap.objs.size:=by rw[hs₅.1,hs₄.1,hs₃.1,hs₂.1,hs₁.1]
 have hz₅:IsZipF h₅ z TI TO .ellipsis f1:=hs₅.extBut _ _ D.TOz.symm (hs₄.extBut _ _ D.i2z.symm (hs₃.extBut _ _ D.TOz.symm (hs₂.extBut _ _ D.i1z.symm hz₁)))
 have hk₅:∀c o,c≠z->c≠TO->c≠i1->c≠i2->s.heap.get? c=some o->h₅.get? c=some o:=λc o c1 c2 c3 c4 e =>
  hs₅.extBut _ _ c2 (hs₄.extBut _ _ c4 (hs₃.extBut _ _ c2 (hs₂.extBut _ _ c3 (hs₁.extBut _ _ c1 e))))
 have hzlt:z<h₅.objs.size:=lE hz₅
 show wpAny _ _ (Builtin.SmallTypes.ownedTupleHandOut (.ref z) (.ref h₅.objs.size) >>= _) _ _ _
 refine la ?_
 unfold Builtin.SmallTypes.ownedTupleHandOut
 have hz₆:IsZipF (h₅.push {cls:=.type "tuple", data:=.seq #[x,y]}) z TI TO .ellipsis f1:=lg _ hz₅
 refine la (lbo hz₆ (by simp) λh₇ hz₇ hs₇=>?_)
 replace hz₇:IsZipF h₇ z TI TO (rawInt h₅.objs.size) f1:=hz₇
 refine lbo hz₇ (by simp) λh₈ hz₈ hs₈=>?_
 replace hz₈:IsZipF h₈ z TI TO (rawInt h₅.objs.size) (.bool false):=hz₈
 have up:∀c o,c≠z->h₅.get? c=some o->h₈.get? c=some o:=λc o c1 e=>hs₈.extBut _ _ c1 (hs₇.extBut _ _ c1 (lg _ e))
 have hT₈:IsPair h₈ h₅.objs.size x y:=hs₈.extBut _ _ (laJ hzlt) (hs₇.extBut _ _ (laJ hzlt) (lC _ rfl))
 have hz8:h₈.objs.size=h₅.objs.size+1:=by rw[hs₈.1,hs₇.1,laR]
 have q1:S1 h₈:=k1 h₂ h₈ st1 λc o c1 c2 c4 e=>up c o c1 (hs₅.extBut _ _ c2 (hs₄.extBut _ _ c4 (hs₃.extBut _ _ c2 e)))
 have q2:S2 h₈:=k2 h₄ h₈ st2 λc o c1 c2 e=>up c o c1 (hs₅.extBut _ _ c2 e)
 rw[hsz] at hz₈ hT₈ hz8
 refine lr ⟨_,rfl,?_⟩
 show Q (.ref h₅.objs.size) _
 rw[hsz]
 exact hQ x y h₈ _ px py hz₈ (up _ _ D.TOz hTO₅) q1 q2 hT₈ hz8 λc o c1 c2 c3 c4 e=>up c o c1 (hk₅ c o c1 c2 c3 c4 e)
theorem next_end {TI TO:Addr}{a b f1:Value}{G1 G2:Heap->Prop}{Q:Fin->Shared->Prop}(D:Apart z TI TO i1 i2)
  (hz:IsZipF s.heap z TI TO .none f1) (hTI:IsPair s.heap TI (.ref i1) (.ref i2)) (hTO:IsPair s.heap TO a b)
  (hend:Ends prog w A i1 G1∨(Yields prog w A i1 G1 P1 S1/\Ends prog w A i2 G2))
  (g1:∀h',(∀c o,c≠z->s.heap.get? c=some o->h'.get? c=some o)->G1 h') (g2:∀h',(∀c o,c≠z->c≠TO->c≠i1->s.heap.get? c=some o->h'.get? c=some o)->G2 h')
  (hE:∀h' tk e,(∀c o,c≠z->c≠TO->c≠i1->c≠i2->s.heap.get? c=some o->h'.get? c=some o)->(∃o,h'.get? e=some o/\o.cls=.type "StopIteration")->E (.ref e) {s with heap:=h',toks:=tk}) :
  wpAny (model prog w) A (Builtin.«zip.__next__» ⟨[.ref z],[]⟩) Q E s:=by
 show wpAny _ _ (field (.ref z) 2 >>= _) _ _ _
 refine la (laj hz rfl (x:=.bool false) rfl ?_)
 show wpAny _ _ (field (.ref z) 3 >>= _) _ _ _
 refine la (laj hz rfl (x:=.ref TI) rfl ?_)
 refine la (lau hTI rfl ?_)
 show wpAny _ _ (Builtin.SmallTypes.ownedTupleIsFree (.ref z) >>= _) _ _ _
 refine la ?_
 unfold Builtin.SmallTypes.ownedTupleIsFree
 refine la (laj hz rfl (x:=.none) rfl (lr ?_))
 simp only[lbx]
 refine la (lcZ ?_)
 refine la (laj hz rfl (x:=.ref TO) rfl ?_)
 refine la (lbo hz (by simp) λh₁ hz₁ hs₁=>?_)
 replace hz₁:IsZipF h₁ z TI TO .ellipsis f1:=hz₁
 refine la ?_
 simp only[List.zipIdx_cons,List.zipIdx_nil,lcc,lcg]
 refine la (la (ldP ?_))
 show wpAny _ _ (Builtin.SmallTypes.nextOf (.ref i1) >>= _) _ _ _
 rcases hend with E1|⟨Y1,E2⟩
 ·refine la (E1 _ _ _ (g1 _ λc o hc e=>hs₁.extBut _ _ hc e) λh₂ e hs₂ he=>?_)
  obtain⟨oe,hoe,hce⟩:=he
  have hz₂:IsZipF h₂ z TI TO .ellipsis f1:=hs₂ _ _ D.i1z.symm hz₁
  have hez:e≠z:=λx=>by subst x;rw[hz₂] at hoe;cases hoe;simp at hce
  refine lbo hz₂ (by simp) λh₃ _ hs₃=>hE h₃ _ e (λc o c1 _ c3 _ x=>hs₃.extBut _ _ c1 (hs₂ _ _ c3 (hs₁.extBut _ _ c1 x))) ⟨oe,hs₃.extBut _ _ hez hoe,hce⟩
 ·refine la (Y1 _ _ _ (g1 _ λc o hc e=>hs₁.extBut _ _ hc e) λx h₂ tk₂ px st1 hs₂=>lr ?_)
  have hTO₂:IsPair h₂ TO a b:=hs₂.extBut _ _ D.TOi1 (hs₁.extBut _ _ D.TOz hTO)
  refine la (lau hTO₂ rfl ?_)
  refine la (ldh hTO₂ λh₃ hTO₃ hs₃=>?_)
  refine la (lbh (lr ?_))
  refine la (la (ldP ?_))
  show wpAny _ _ (Builtin.SmallTypes.nextOf (.ref i2) >>= _) _ _ _
  refine la (E2 _ _ _ (g2 _ λc o c1 c2 c3 e=>hs₃.extBut _ _ c2 (hs₂.extBut _ _ c3 (hs₁.extBut _ _ c1 e))) λh₄ e hs₄ he=>?_)
  obtain⟨oe,hoe,hce⟩:=he
  have hz₄:IsZipF h₄ z TI TO .ellipsis f1:=hs₄ _ _ D.i2z.symm (hs₃.extBut _ _ D.TOz.symm (hs₂.extBut _ _ D.i1z.symm hz₁))
  have hez:e≠z:=λx=>by subst x;rw[hz₄] at hoe;cases hoe;simp at hce
  refine lbo hz₄ (by simp) λh₅ _ hs₅=>hE h₅ _ e (λc o c1 c2 c3 c4 x=>hs₅.extBut _ _ c1 (hs₄ _ _ c4 (hs₃.extBut _ _ c2 (hs₂.extBut _ _ c3 (hs₁.extBut _ _ c1 x))))) ⟨oe,hs₅.extBut _ _ hez hoe,hce⟩
end
section
variable {prog:Program}{w:World}{A:Around}{E:qQ2}{s:Shared}
theorem alive {a:Addr}{o:Obj}{Q:Option Obj->Shared->Prop}(ho:s.heap.get? a=some o)(h:Q (some o) s):wpAny (model prog w) A (loadIfAlive a) Q E s:=by
 have h':Q (s.heap.get? a) s:=by rw[ho];exact h
 exact λ_ _ _=>h'
theorem zdH {TI TO T:Addr}{oT:Obj}{fb:Bool}{G1 G2 S2:Heap->Prop}(D:Apart z TI TO i1 i2)
  (hz:IsZipF s.heap z TI TO (rawInt T) (.bool fb)) (hTI:IsPair s.heap TI (.ref i1) (.ref i2)) (hT:s.heap.get? T=some oT)
  (Y1:Yields prog w A i1 G1 P1 S1) (Y2:Yields prog w A i2 G2 P2 S2)
  (g1:∀h',(∀c o,c≠z->s.heap.get? c=some o->h'.get? c=some o)->G1 h') (g2:∀h',(∀c o,c≠z->c≠i1->s.heap.get? c=some o->h'.get? c=some o)->G2 h')
  (k1:∀h h',S1 h->(∀c o,c≠i2->h.get? c=some o->h'.get? c=some o)->S1 h')
  (k2:∀h h',S2 h->(∀c o,h.get? c=some o->h'.get? c=some o)->S2 h')
  (hQ:∀x y h' tk,P1 x->P2 y->IsZipF h' z TI TO (rawInt T) (.bool true)->S1 h'->S2 h'->IsPair h' s.heap.objs.size x y->h'.objs.size=s.heap.objs.size+1 ->
   (∀c o,c≠z->c≠i1->c≠i2->s.heap.get? c=some o->h'.get? c=some o)->Q (.ref s.heap.objs.size) {s with heap:=h',toks:=tk}) :
  wpAny (model prog w) A (Builtin.«zip.__next__» ⟨[.ref z],[]⟩) (λfin s'=>∃v,fin=.done (.ret v)/\Q v s') E s:=by
 show wpAny _ _ (field (.ref z) 2 >>= _) _ _ _
 refine la (laj hz rfl (x:=.bool false) rfl ?_)
 show wpAny _ _ (field (.ref z) 3 >>= _) _ _ _
 refine la (laj hz rfl (x:=.ref TI) rfl ?_)
 refine la (lau hTI rfl ?_)
 show wpAny _ _ (Builtin.SmallTypes.ownedTupleIsFree (.ref z) >>= _) _ _ _
 refine la ?_
 unfold Builtin.SmallTypes.ownedTupleIsFree
 refine la (laj hz rfl (x:=rawInt T) rfl ?_)
 show wpAny _ _ (loadIfAlive ((T:Int).toNat) >>= _) _ _ _
 rw[laq]
 refine la (alive hT ?_)
 simp only[Option.isNone_some,lS,laU]
 refine la (laj hz rfl (x:=.bool fb) rfl ?_)
 cases fb with
 | true =>
  rw[lac (show ¬((Value.bool true != Value.bool true)=true) from lH)]
  refine lr ?_
  simp only[lS,laU]
  have HZ:=hz
  have HS:Heap.SameBut z s.heap s.heap:=Heap.SameBut.refl _ _
  rw[← lcN]
  simp only[lcc,lcg]
  refine la (la (la (lak ?_)))
  show wpAny _ _ (Builtin.SmallTypes.nextOf (.ref i1) >>= _) _ _ _
  refine la (Y1 _ _ _ (g1 _ λc o hc e=>HS.extBut _ _ hc e) λx h₂ tk₂ px st1 hs₂=>lr (lr ?_))
  refine la (la (lak ?_))
  show wpAny _ _ (Builtin.SmallTypes.nextOf (.ref i2) >>= _) _ _ _
  refine la (Y2 _ _ _ (g2 _ λc o c1 c3 e=>hs₂.extBut _ _ c3 (HS.extBut _ _ c1 e)) λy h₄ tk₄ py st2 hs₄=>lr (lr (lr ?_)))
  refine la (ldB ?_ (by show 2<=sizeLine;decide))
  have hsz:h₄.objs.size=s.heap.objs.size:=by rw[hs₄.1,hs₂.1,HS.1]
  have hz₄:IsZipF h₄ z TI TO (rawInt T) (.bool true):=hs₄.extBut _ _ D.i2z.symm (hs₂.extBut _ _ D.i1z.symm HZ)
  refine lr ⟨_,rfl,?_⟩
  show Q (.ref h₄.objs.size) _
  rw[hsz]
  have hp:IsPair (h₄.push {cls:=.type "tuple", data:=.seq #[x,y]}) s.heap.objs.size x y:=by rw[← hsz];exact lC _ rfl
  exact hQ x y _ _ px py (lg _ hz₄) (k1 h₂ _ st1 λc o hc e=>lg _ (hs₄.extBut _ _ hc e)) (k2 h₄ _ st2 λc o e=>lg _ e) hp (by rw[laR,hsz])
   λc o c1 c3 c4 e=>lg _ (hs₄.extBut _ _ c4 (hs₂.extBut _ _ c3 (HS.extBut _ _ c1 e)))
 | false =>
  rw[lU (show(Value.bool false != Value.bool true)=true from rfl)]
  refine la (lbo hz (by simp) λh₁ hz₁ HS=>?_)
  replace HS:Heap.SameBut z s.heap h₁:=HS
  have HZ:IsZipF h₁ z TI TO (rawInt T) (.bool true):=hz₁
  refine lr ?_
  simp only[lS,laU]
  rw[← lcN]
  simp only[lcc,lcg]
  refine la (la (la (lak ?_)))
  show wpAny _ _ (Builtin.SmallTypes.nextOf (.ref i1) >>= _) _ _ _
  refine la (Y1 _ _ _ (g1 _ λc o hc e=>HS.extBut _ _ hc e) λx h₂ tk₂ px st1 hs₂=>lr (lr ?_))
  refine la (la (lak ?_))
  show wpAny _ _ (Builtin.SmallTypes.nextOf (.ref i2) >>= _) _ _ _
  refine la (Y2 _ _ _ (g2 _ λc o c1 c3 e=>hs₂.extBut _ _ c3 (HS.extBut _ _ c1 e)) λy h₄ tk₄ py st2 hs₄=>lr (lr (lr ?_)))
  refine la (ldB ?_ (by show 2<=sizeLine;decide))
  have hsz:h₄.objs.size=s.heap.objs.size:=by rw[hs₄.1,hs₂.1,HS.1]
  have hz₄:IsZipF h₄ z TI TO (rawInt T) (.bool true):=hs₄.extBut _ _ D.i2z.symm (hs₂.extBut _ _ D.i1z.symm HZ)
  refine lr ⟨_,rfl,?_⟩
  show Q (.ref h₄.objs.size) _
  rw[hsz]
  have hp:IsPair (h₄.push {cls:=.type "tuple", data:=.seq #[x,y]}) s.heap.objs.size x y:=by rw[← hsz];exact lC _ rfl
  exact hQ x y _ _ px py (lg _ hz₄) (k1 h₂ _ st1 λc o hc e=>lg _ (hs₄.extBut _ _ hc e)) (k2 h₄ _ st2 λc o e=>lg _ e) hp (by rw[laR,hsz])
   λc o c1 c3 c4 e=>lg _ (hs₄.extBut _ _ c4 (hs₂.extBut _ _ c3 (HS.extBut _ _ c1 e)))
theorem zf6 {TI TO T:Addr}{oT:Obj}{fb:Bool}{G1 G2:Heap->Prop}{Q:Fin->Shared->Prop}(D:Apart z TI TO i1 i2)
  (hz:IsZipF s.heap z TI TO (rawInt T) (.bool fb)) (hTI:IsPair s.heap TI (.ref i1) (.ref i2)) (hT:s.heap.get? T=some oT)
  (hend:Ends prog w A i1 G1∨(Yields prog w A i1 G1 P1 S1/\Ends prog w A i2 G2))
  (g1:∀h',(∀c o,c≠z->s.heap.get? c=some o->h'.get? c=some o)->G1 h') (g2:∀h',(∀c o,c≠z->c≠i1->s.heap.get? c=some o->h'.get? c=some o)->G2 h')
  (hE:∀h' tk e,(∀c o,c≠z->c≠i1->c≠i2->s.heap.get? c=some o->h'.get? c=some o)->(∃o,h'.get? e=some o/\o.cls=.type "StopIteration")->E (.ref e) {s with heap:=h',toks:=tk}) :
  wpAny (model prog w) A (Builtin.«zip.__next__» ⟨[.ref z],[]⟩) Q E s:=by
 show wpAny _ _ (field (.ref z) 2 >>= _) _ _ _
 refine la (laj hz rfl (x:=.bool false) rfl ?_)
 show wpAny _ _ (field (.ref z) 3 >>= _) _ _ _
 refine la (laj hz rfl (x:=.ref TI) rfl ?_)
 refine la (lau hTI rfl ?_)
 show wpAny _ _ (Builtin.SmallTypes.ownedTupleIsFree (.ref z) >>= _) _ _ _
 refine la ?_
 unfold Builtin.SmallTypes.ownedTupleIsFree
 refine la (laj hz rfl (x:=rawInt T) rfl ?_)
 show wpAny _ _ (loadIfAlive ((T:Int).toNat) >>= _) _ _ _
 rw[laq]
 refine la (alive hT ?_)
 simp only[Option.isNone_some,lS,laU]
 refine la (laj hz rfl (x:=.bool fb) rfl ?_)
 cases fb with
 | true =>
  rw[lac (show ¬((Value.bool true != Value.bool true)=true) from lH)]
  refine lr ?_
  simp only[lS,laU]
  have HS:Heap.SameBut z s.heap s.heap:=Heap.SameBut.refl _ _
  rw[← lcN]
  simp only[lcc,lcg]
  refine la (la (la (lak ?_)))
  show wpAny _ _ (Builtin.SmallTypes.nextOf (.ref i1) >>= _) _ _ _
  rcases hend with E1|⟨Y1,E2⟩
  ·refine la (E1 _ _ _ (g1 _ λc o hc e=>HS.extBut _ _ hc e) λh₂ e hs₂ he=>?_)
   exact hE h₂ _ e (λc o c1 c3 _ x=>hs₂ _ _ c3 (HS.extBut _ _ c1 x)) he
  ·refine la (Y1 _ _ _ (g1 _ λc o hc e=>HS.extBut _ _ hc e) λx h₂ tk₂ px st1 hs₂=>lr (lr ?_))
   refine la (la (lak ?_))
   show wpAny _ _ (Builtin.SmallTypes.nextOf (.ref i2) >>= _) _ _ _
   refine la (E2 _ _ _ (g2 _ λc o c1 c3 e=>hs₂.extBut _ _ c3 (HS.extBut _ _ c1 e)) λh₄ e hs₄ he=>?_)
   exact hE h₄ _ e (λc o c1 c3 c4 x=>hs₄ _ _ c4 (hs₂.extBut _ _ c3 (HS.extBut _ _ c1 x))) he
 | false =>
  rw[lU (show(Value.bool false != Value.bool true)=true from rfl)]
  refine la (lbo hz (by simp) λh₁ hz₁ HS=>?_)
  replace HS:Heap.SameBut z s.heap h₁:=HS
  refine lr ?_
  simp only[lS,laU]
  rw[← lcN]
  simp only[lcc,lcg]
  refine la (la (la (lak ?_)))
  show wpAny _ _ (Builtin.SmallTypes.nextOf (.ref i1) >>= _) _ _ _
  rcases hend with E1|⟨Y1,E2⟩
  ·refine la (E1 _ _ _ (g1 _ λc o hc e=>HS.extBut _ _ hc e) λh₂ e hs₂ he=>?_)
   exact hE h₂ _ e (λc o c1 c3 _ x=>hs₂ _ _ c3 (HS.extBut _ _ c1 x)) he
  ·refine la (Y1 _ _ _ (g1 _ λc o hc e=>HS.extBut _ _ hc e) λx h₂ tk₂ px st1 hs₂=>lr (lr ?_))
   refine la (la (lak ?_))
   show wpAny _ _ (Builtin.SmallTypes.nextOf (.ref i2) >>= _) _ _ _
   refine la (E2 _ _ _ (g2 _ λc o c1 c3 e=>hs₂.extBut _ _ c3 (HS.extBut _ _ c1 e)) λh₄ e hs₄ he=>?_)
   exact hE h₄ _ e (λc o c1 c3 c4 x=>hs₄ _ _ c4 (hs₂.extBut _ _ c3 (HS.extBut _ _ c1 x))) he
end
end Zp
set_option maxHeartbeats 2000000
namespace Zp
open PySem
section
variable {prog:Program}{w:World}{A:Around}
theorem yields_tuple {it t:Addr}{i:Nat}{items:Array Value}{x:Value}(hne:t≠it)(hx:items[i]? = some x) :
  Yields prog w A it (λh=>h.IsTupleIter it t i/\h.IsTuple t items) (λv=>v=x) (λh=>h.IsTupleIter it t (i+1)/\h.IsTuple t items) :=
 λs Q E g hQ=>zad g.1 g.2 hx λh' st sb=>hQ _ h' s.toks rfl ⟨st,g.2.extBut sb.extBut hne⟩ sb
theorem ends_tuple {it t:Addr}{i:Nat}{items:Array Value}(hh:A.handled=none)(hx:items[i]? = none) :
  Ends prog w A it (λh=>h.IsTupleIter it t i/\h.IsTuple t items) :=
 λs Q E g hE=>zaQ hh g.1 g.2 hx hE
theorem yields_ascii {it:Addr}{x:Str}{t:Tok}{i c:Nat}(hx:x.cps[i]? = some c) :
  Yields prog w A it (λh=>h.IsStrIter it "str_ascii_iterator" x t i) (λv=>∃u,v=.str ⟨#[c]⟩ u) (λh=>h.IsStrIter it "str_ascii_iterator" x t (i+1)) :=
 λs Q E g hQ=>zaC g hx λh' st sb=>hQ _ h' _ ⟨_,rfl⟩ st sb
theorem ends_ascii {it:Addr}{x:Str}{t:Tok}{i:Nat}(hh:A.handled=none)(hx:x.cps[i]? = none) :
  Ends prog w A it (λh=>h.IsStrIter it "str_ascii_iterator" x t i) :=
 λs Q E g hE=>zaS hh g hx hE
end
section
variable {prog:Program}{w:World}{A:Around}{E:qQ2}{s:Shared}
abbrev zH2 (h:Heap)(o1 o2:Obj):Heap:=(h.push o1).push o2
abbrev zH3 (h:Heap)(o1 o2:Obj):Heap:=(zH2 h o1 o2).push {cls:=.type "tuple", data:=.seq #[.ref h.objs.size,.ref (h.push o1).objs.size]}
abbrev zH4 (h:Heap)(o1 o2:Obj):Heap:=(zH3 h o1 o2).push {cls:=.type "tuple", data:=.seq #[.none,.none]}
abbrev zH5 (h:Heap)(o1 o2:Obj):Heap:=(zH4 h o1 o2).push {cls:=.type "zip", data:=.fields #[.none,.bool false,.bool false,.ref (zH2 h o1 o2).objs.size,.ref (zH3 h o1 o2).objs.size]}
abbrev tIter (t:Addr):Obj:={cls:=.type "tuple_iterator", data:=.fields #[.ref t,.int 0 0]}
abbrev sIter (x:Str)(t:Tok):Obj:={cls:=.type "str_ascii_iterator", data:=.fields #[.str x t,.int 0 0]}
theorem meets_st_aux {prog:Program}{w:World}{A:Around}{a b:Value}{s:Shared}{h1 h2:Heap}{i1 i2:Addr}{E:qQ2}{Q:Fin->Shared->Prop}
  (p1:∀(Q:qQ2) (E:qQ2),Q (.ref i1) {s with heap:=h1}->wpAny (model prog w) A (pyIter a) Q E s)
  (p2:∀(Q:qQ2) (E:qQ2),Q (.ref i2) {s with heap:=h2}->wpAny (model prog w) A (pyIter b) Q E {s with heap:=h1})
  (hQ:Q (.done (.ret (.ref (h2.objs.size+2)))) {s with heap:=((h2.push {cls:=.type "tuple", data:=.seq #[.ref i1,.ref i2]}).push {cls:=.type "tuple", data:=.seq #[.none,.none]}).push {cls:=.type "zip", data:=.fields #[.none,.bool false,.bool false,.ref h2.objs.size,.ref (h2.objs.size+1)]} }) :
  wpAny (model prog w) A (Builtin.«zip.__new__» ⟨[.type "zip", a,b],[]⟩) Q E s:=by
 obtain⟨hp,g,d,tk,os⟩:=s
 have hsub:=sub_zip
 have z1:(h2.push {cls:=.type "tuple", data:=.seq #[.ref i1,.ref i2]}).objs.size=h2.objs.size+1:=laR ..
 have z2:((h2.push {cls:=.type "tuple", data:=.seq #[.ref i1,.ref i2]}).push {cls:=.type "tuple", data:=.seq #[.none,.none]}).objs.size=h2.objs.size+2:=by rw[laR,z1]
 rw[← z2,← z1] at hQ
 wp_walk using p1 _ _,p2 _ _
 exact hQ
def Made5 (h h':Heap)(o1 o2:Obj):Prop :=
 IsZipF h' (h.objs.size+4) (h.objs.size+2) (h.objs.size+3) .none (.bool false)/\IsPair h' (h.objs.size+2) (.ref h.objs.size) (.ref (h.objs.size+1)) /\
  IsPair h' (h.objs.size+3) .none .none/\h'.get? h.objs.size=some o1/\h'.get? (h.objs.size+1)=some o2/\h'.objs.size=h.objs.size+5/\∀c o,h.get? c=some o->h'.get? c=some o
theorem made5 (h:Heap)(o1 o2:Obj)(f1:o1.isFreed=false)(f2:o2.isFreed=false):Made5 h (zH5 h o1 o2) o1 o2/\(zH4 h o1 o2).objs.size=h.objs.size+4:=by
 have z1:(h.push o1).objs.size=h.objs.size+1:=laR ..
 have z2:(zH2 h o1 o2).objs.size=h.objs.size+2:=by rw[laR,z1]
 have z3:(zH3 h o1 o2).objs.size=h.objs.size+3:=by rw[laR,z2]
 have z4:(zH4 h o1 o2).objs.size=h.objs.size+4:=by rw[laR,z3]
 have z5:(zH5 h o1 o2).objs.size=h.objs.size+5:=by rw[laR,z4]
 have g5:(zH5 h o1 o2).get? (zH4 h o1 o2).objs.size=some _:=lC _ rfl
 have g4:(zH5 h o1 o2).get? (zH3 h o1 o2).objs.size=some _:=lg _ (lC _ rfl)
 have g3:(zH5 h o1 o2).get? (zH2 h o1 o2).objs.size=some _:=lg _ (lg _ (lC _ rfl))
 have g2:(zH5 h o1 o2).get? (h.push o1).objs.size=some o2:=lg _ (lg _ (lg _ (lC _ f2)))
 have g1:(zH5 h o1 o2).get? h.objs.size=some o1:=lg _ (lg _ (lg _ (lg _ (lC _ f1))))
 rw[z2,z3,z4] at g5
 rw[z1,z2] at g3
 rw[z3] at g4
 rw[z1] at g2
 exact⟨⟨g5,g3,g4,g1,g2,z5,λc o x=>lg _ (lg _ (lg _ (lg _ (lg _ x))))⟩,z4⟩
end
variable {z i1 i2 tp d:Addr}{x:Str}{t:Tok}{ys:Array Value}{i:Nat}{Q:Option Value->Shared->Prop}
structure ZSt (h:Heap)(z TI TO i1 i2 tp d:Addr)(x:Str)(t:Tok)(ys:Array Value)(i:Nat):Prop where
 zip:(∃f1,IsZipF h z TI TO .none (.bool f1))∨∃(T:Addr) (oT:Obj) (fb:Bool),IsZipF h z TI TO (rawInt T) (.bool fb)/\h.get? T=some oT/\T≠z/\T≠TO/\T≠i1/\T≠i2/\T≠d
 ti:IsPair h TI (.ref i1) (.ref i2)
 to:∃a b,IsPair h TO a b
 s1:h.IsStrIter i1 "str_ascii_iterator" x t i
 s2:h.IsTupleIter i2 tp i/\h.IsTuple tp ys
structure ZAp (z TI TO i1 i2 tp d:Addr):Prop where
 D:Apart z TI TO i1 i2
 tz:tp≠z
 tO:tp≠TO
 t1:tp≠i1
 t2:tp≠i2
 dz:d≠z
 dI:d≠TI
 dO:d≠TO
 d1:d≠i1
 d2:d≠i2
 dt:d≠tp
theorem ZSt.dict {h h':Heap}{TI TO:Addr}(Z:ZSt h z TI TO i1 i2 tp d x t ys i)(Y:ZAp z TI TO i1 i2 tp d)
  (k:∀c o,c≠d->h.get? c=some o->h'.get? c=some o):ZSt h' z TI TO i1 i2 tp d x t ys i:=by
 obtain⟨zp,ti,⟨a,b,to⟩,⟨o1,e1,r1⟩,⟨o2,e2,r2⟩,o3,e3,r3⟩:=Z
 refine⟨?_,k _ _ (lbY Y.dI) ti,⟨a,b,k _ _ (lbY Y.dO) to⟩,⟨o1,k _ _ (lbY Y.d1) e1,r1⟩,⟨o2,k _ _ (lbY Y.d2) e2,r2⟩,o3,k _ _ (lbY Y.dt) e3,r3⟩
 rcases zp with⟨f1,hz⟩|⟨T,oT,fb,hz,hT,n1,n2,n3,n4,n5⟩
 ·exact .inl ⟨f1,k _ _ (lbY Y.dz) hz⟩
 ·exact .inr ⟨T,oT,fb,k _ _ (lbY Y.dz) hz,k _ _ n5 hT,n1,n2,n3,n4,n5⟩
section
variable {prog:Program}{w:World}{A:Around}{E:qQ2}{s:Shared}
theorem ZSt.next {TI TO:Addr}{c:Nat}{y:Value}(Z:ZSt s.heap z TI TO i1 i2 tp d x t ys i)(Y:ZAp z TI TO i1 i2 tp d)
  (hd:d<s.heap.objs.size) (hc:x.cps[i]? = some c) (hy:ys[i]? = some y)
  (hQ:∀(T:Addr) u h' tk,ZSt h' z TI TO i1 i2 tp d x t ys (i+1)->IsPair h' T (.str ⟨#[c]⟩ u) y->(∀c o,c≠z->c≠TO->c≠i1->c≠i2->s.heap.get? c=some o->h'.get? c=some o)->h'.objs.size=s.heap.objs.size+1->Q (some (.ref T)) {s with heap:=h',toks:=tk}) :
  wpAny (model prog w) A (pyNext (.ref z)) Q E s:=by
 obtain⟨zp,ti,⟨a,b,to⟩,s1,s2⟩:=Z
 have D:=Y.D
 obtain⟨o1,e1,r1⟩:=id s1
 obtain⟨⟨o2,e2,r2⟩,o3,e3,r3⟩:=id s2
 have lt:∀{c:Addr}{o:Obj},s.heap.get? c=some o->s.heap.objs.size≠c:=λe=>laJ (lE e)
 have Y1:=yields_ascii (prog:=prog) (w:=w) (A:=A.in1) (it:=i1) (t:=t) hc
 have Y2:=yields_tuple (prog:=prog) (w:=w) (A:=A.in1) Y.t2 hy
 rcases zp with⟨f1,hz⟩|⟨T,oT,fb,hz,hT,n1,n2,n3,n4,n5⟩
 ·have hTy:s.TypeIs (.ref z) "zip" := ⟨_,hz,rfl⟩
  unfold pyNext
  refine la (lbp (lV (name:=Str.ofString "__next__") hTy laI
   (lad laI hTy lbI (next_item D hz ti to Y1 Y2 ?_ ?_ ?_ ?_ ?_) (lbz _))))
  ·exact λh' k=>⟨o1,k _ _ D.i1z e1,r1⟩
  ·exact λh' k=>⟨⟨o2,k _ _ D.i2z D.TOi2.symm D.i12.symm e2,r2⟩,o3,k _ _ Y.tz Y.tO Y.t1 e3,r3⟩
  ·exact λh h' ⟨p1,q1,w1⟩ k=>⟨p1,k _ _ D.i1z D.TOi1.symm D.i12 q1,w1⟩
  ·exact λh h' ⟨⟨p1,q1,w1⟩,p2,q2,w2⟩ k=>⟨⟨p1,k _ _ D.i2z D.TOi2.symm q1,w1⟩,p2,k _ _ Y.tz Y.tO q2,w2⟩
  ·rintro v1 v2 h' tk ⟨u,rfl⟩ rfl z' to' q1 q2 hp hsz k
   refine lr (hQ _ u h' tk ⟨.inr ⟨_,_,false,z',hp,lt hz,lt to,lt e1,lt e2,laJ hd⟩,k _ _ D.TIz D.TITO D.TIi1 D.TIi2 ti,⟨_,_,to'⟩,q1,q2⟩ hp k hsz)
 ·have hTy:s.TypeIs (.ref z) "zip" := ⟨_,hz,rfl⟩
  unfold pyNext
  refine la (lbp (lV (name:=Str.ofString "__next__") hTy laI
   (lad laI hTy lbI (zdH D hz ti hT Y1 Y2 ?_ ?_ ?_ ?_ ?_) (lbz _))))
  ·exact λh' k=>⟨o1,k _ _ D.i1z e1,r1⟩
  ·exact λh' k=>⟨⟨o2,k _ _ D.i2z D.i12.symm e2,r2⟩,o3,k _ _ Y.tz Y.t1 e3,r3⟩
  ·exact λh h' ⟨p1,q1,w1⟩ k=>⟨p1,k _ _ D.i12 q1,w1⟩
  ·exact λh h' ⟨⟨p1,q1,w1⟩,p2,q2,w2⟩ k=>⟨⟨p1,k _ _ q1,w1⟩,p2,k _ _ q2,w2⟩
  ·rintro v1 v2 h' tk ⟨u,rfl⟩ rfl z' q1 q2 hp hsz k
   exact lr (hQ _ u h' tk ⟨.inr ⟨T,oT,true,z',k _ _ n1 n3 n4 hT,n1,n2,n3,n4,n5⟩,k _ _ D.TIz D.TIi1 D.TIi2 ti,⟨_,_,k _ _ D.TOz D.TOi1 D.TOi2 to⟩,q1,q2⟩ hp (λc o c1 _ c3 c4 e=>k c o c1 c3 c4 e) hsz)
theorem ZSt.done {TI TO:Addr}(hh:A.handled=none)(Z:ZSt s.heap z TI TO i1 i2 tp d x t ys i)(Y:ZAp z TI TO i1 i2 tp d)
  (hend:x.cps[i]? = none∨ys[i]? = none)
  (hQ:∀h' tk,(∀c o,c≠z->c≠TO->c≠i1->c≠i2->s.heap.get? c=some o->h'.get? c=some o)->Q none {s with heap:=h',toks:=tk}) :
  wpAny (model prog w) A (pyNext (.ref z)) Q E s:=by
 obtain⟨zp,ti,⟨a,b,to⟩,s1,s2⟩:=Z
 have D:=Y.D
 obtain⟨o1,e1,r1⟩:=id s1
 obtain⟨⟨o2,e2,r2⟩,o3,e3,r3⟩:=id s2
 have hend':Ends prog w A.in1 i1 (λh=>h.IsStrIter i1 "str_ascii_iterator" x t i)∨(Yields prog w A.in1 i1 (λh=>h.IsStrIter i1 "str_ascii_iterator" x t i) (λ_=>True) (λ_=>True)/\Ends prog w A.in1 i2 (λh=>h.IsTupleIter i2 tp i/\h.IsTuple tp ys)):=by
  cases hc:x.cps[i]? with
  | none=>exact .inl (ends_ascii hh hc)
  | some c =>
   rcases hend with h|h
   ·rw[hc] at h;cases h
   ·exact .inr ⟨λs Q E g hQ=>yields_ascii hc s Q E g λv h' tk _ _ sb=>hQ v h' tk trivial trivial sb,ends_tuple hh h⟩
 rcases zp with⟨f1,hz⟩|⟨T,oT,fb,hz,hT,n1,n2,n3,n4,n5⟩
 ·have hTy:s.TypeIs (.ref z) "zip" := ⟨_,hz,rfl⟩
  unfold pyNext
  refine la (lbp (lV (name:=Str.ofString "__next__") hTy laI
   (lad laI hTy lbI (next_end D hz ti to hend' ?_ ?_ ?_) (lbz _))))
  ·exact λh' k=>⟨o1,k _ _ D.i1z e1,r1⟩
  ·exact λh' k=>⟨⟨o2,k _ _ D.i2z D.TOi2.symm D.i12.symm e2,r2⟩,o3,k _ _ Y.tz Y.tO Y.t1 e3,r3⟩
  ·intro h' tk e k he
   obtain⟨o,ho,hc⟩:=he
   refine la (lb0 (T := "StopIteration") (b:=true) ⟨o,ho,hc⟩ lcv ?_)
   exact lr (hQ _ _ k)
 ·have hTy:s.TypeIs (.ref z) "zip" := ⟨_,hz,rfl⟩
  unfold pyNext
  refine la (lbp (lV (name:=Str.ofString "__next__") hTy laI
   (lad laI hTy lbI (zf6 D hz ti hT hend' ?_ ?_ ?_) (lbz _))))
  ·exact λh' k=>⟨o1,k _ _ D.i1z e1,r1⟩
  ·exact λh' k=>⟨⟨o2,k _ _ D.i2z D.i12.symm e2,r2⟩,o3,k _ _ Y.tz Y.t1 e3,r3⟩
  ·intro h' tk e k he
   obtain⟨o,ho,hc⟩:=he
   refine la (lb0 (T := "StopIteration") (b:=true) ⟨o,ho,hc⟩ lcv ?_)
   exact lr (hQ _ _ λc o c1 _ c3 c4 e=>k c o c1 c3 c4 e)
end
section
variable {prog:Program}{w:World}{A:Around}{E:qQ2}{s:Shared}
theorem nextOf_list_item {it t:Addr}{items}{x:Value}{Q:qQ2}(hit:s.heap.IsListIter it t i)
  (ht:s.heap.IsList t items) (hx:items[i]? = some x)
  (hQ:∀h',h'.IsListIter it t (i+1)->Heap.SameBut it s.heap h'->Q x {s with heap:=h'}) :
  wpAny (model prog w) A (Builtin.SmallTypes.nextOf (.ref it)) Q E s:=by
 obtain⟨o,ho,hc,hd⟩:=id hit
 obtain⟨ol,hol,_,nl,hdl⟩:=ht
 unfold Builtin.SmallTypes.nextOf
 refine la (lV (name:=Str.ofString "__next__") hit.typeIs lcO
  (lad lcO hit.typeIs entry_listiter_next ?_ (args_listiter_next _)))
 show wpAny _ _ (field (.ref it) 0 >>= _) _ _ s
 refine la (laj ho hd (x:=.ref t) rfl ?_)
 show wpAny _ _ (if (Value.ref t == Value.none)=true then _ else _) _ _ s
 rw[lac (show ¬((Value.ref t == Value.none)=true) from lH)]
 show wpAny _ _ (field (.ref it) 1 >>= _) _ _ s
 refine la (laj ho hd (x:=.int i 0) rfl ?_)
 show wpAny _ _ (seqItems? (.ref t) >>= _) _ _ s
 refine la (lau hol hdl ?_)
 simp only[laq,hx]
 refine la (lb6 ho hd (by simp) (lr ⟨x,rfl,lr (hQ _ ?_ (lah ..))⟩))
 exact ⟨_,lcl _ ho (lcn (lbn hd _)),(lcY ..).trans hc,by
  rw[lbn hd];simp[rawInt]⟩
theorem nextOf_list_end {it t:Addr}{items}{Q:qQ2}(hh:A.handled=none)
  (hit:s.heap.IsListIter it t i) (ht:s.heap.IsList t items) (hx:items[i]? = none)
  (hE:∀h' e,Heap.ExtBut it s.heap h'->(∃o,h'.get? e=some o/\o.cls=.type "StopIteration")->E (.ref e) {s with heap:=h'}) :
  wpAny (model prog w) A (Builtin.SmallTypes.nextOf (.ref it)) Q E s:=by
 obtain⟨o,ho,hc,hd⟩:=id hit
 obtain⟨ol,hol,_,nl,hdl⟩:=ht
 unfold Builtin.SmallTypes.nextOf
 refine la (lV (name:=Str.ofString "__next__") hit.typeIs lcO
  (lad lcO hit.typeIs entry_listiter_next ?_ (args_listiter_next _)))
 show wpAny _ _ (field (.ref it) 0 >>= _) _ _ s
 refine la (laj ho hd (x:=.ref t) rfl ?_)
 show wpAny _ _ (if (Value.ref t == Value.none)=true then _ else _) _ _ s
 rw[lac (show ¬((Value.ref t == Value.none)=true) from lH)]
 show wpAny _ _ (field (.ref it) 1 >>= _) _ _ s
 refine la (laj ho hd (x:=.int i 0) rfl ?_)
 show wpAny _ _ (seqItems? (.ref t) >>= _) _ _ s
 refine la (lau hol hdl ?_)
 simp only[laq,hx]
 refine la (lcZ (la (lb6 ho hd (by simp) ?_)))
 show wpAny _ _ (newExc (.type "StopIteration") [] >>= _) _ _ _
 refine la ?_
 simp only[newExc,newTuple]
 refine la (laH ?_ (by size_fits))
 refine la (m:=firstArgMember _ _) (lc0 (a:=Value.none) (by first|rfl|(simp only[firstArgMember];rfl)) ?_)
 refine laH ?_ (by size_fits)
 simp only[raiseNew]
 refine la (ldO ?_)
 first|rw[show A.in1.handled=none from hh] | rw[hh]
 refine la (lr (wpAny_throw ?_))
 exact hE _ _ (((lah ..).extBut.push _).push _) ⟨_,lC _ rfl,rfl⟩
end
structure Src (prog:Program)(w:World)(it tp:Addr)(n:Nat)(g:Nat->Value)(S:Nat->Heap->Prop):Prop where
 yl:∀(A:Around) (i:Nat),i<n->Yields prog w A it (S i) (λv=>v=g i) (S (i+1))
 en:∀(A:Around) (i:Nat),A.handled=none->n<=i->Ends prog w A it (S i)
 mv:∀(i:Nat) (h h':Heap),S i h->(∀o,h.get? it=some o->h'.get? it=some o)->(∀o,h.get? tp=some o->h'.get? tp=some o)->S i h'
 li:∀(i:Nat) (h:Heap),S i h->(∃o,h.get? it=some o)/\∃o,h.get? tp=some o
structure GAp (z TI TO i1 i2 p1 p2 d:Addr):Prop where
 D:Apart z TI TO i1 i2
 az:p1≠z
 aO:p1≠TO
 a2:p1≠i2
 bz:p2≠z
 bO:p2≠TO
 b1:p2≠i1
 dz:d≠z
 dI:d≠TI
 dO:d≠TO
 d1:d≠i1
 d2:d≠i2
 da:d≠p1
 db:d≠p2
structure GSt (h:Heap)(z TI TO i1 i2 d:Addr)(S1 S2:Nat->Heap->Prop)(i:Nat):Prop where
 zip:(∃f1,IsZipF h z TI TO .none (.bool f1))∨∃(T:Addr) (oT:Obj) (fb:Bool),IsZipF h z TI TO (rawInt T) (.bool fb)/\h.get? T=some oT/\T≠z/\T≠TO/\T≠i1/\T≠i2/\T≠d
 ti:IsPair h TI (.ref i1) (.ref i2)
 to:∃a b,IsPair h TO a b
 s1:S1 i h
 s2:S2 i h
section
variable {prog:Program}{w:World}{A:Around}{E:qQ2}{s:Shared}{z TI TO i1 i2 p1 p2 d:Addr}{n1 n2:Nat}{g1 g2:Nat->Value}{S1 S2:Nat->Heap->Prop}
theorem GSt.dict {h h':Heap}(Z:GSt h z TI TO i1 i2 d S1 S2 i)(Y:GAp z TI TO i1 i2 p1 p2 d)(C1:Src prog w i1 p1 n1 g1 S1)(C2:Src prog w i2 p2 n2 g2 S2)
  (k:∀c o,c≠d->h.get? c=some o->h'.get? c=some o):GSt h' z TI TO i1 i2 d S1 S2 i:=by
 obtain⟨zp,ti,⟨a,b,to⟩,s1,s2⟩:=Z
 refine⟨?_,k _ _ (lbY Y.dI) ti,⟨a,b,k _ _ (lbY Y.dO) to⟩,C1.mv _ _ _ s1 (λo=>k _ o (lbY Y.d1)) (λo=>k _ o (lbY Y.da)),C2.mv _ _ _ s2 (λo=>k _ o (lbY Y.d2)) (λo=>k _ o (lbY Y.db))⟩
 rcases zp with⟨f1,hz⟩|⟨T,oT,fb,hz,hT,n1,n2,n3,n4,n5⟩
 ·exact .inl ⟨f1,k _ _ (lbY Y.dz) hz⟩
 ·exact .inr ⟨T,oT,fb,k _ _ (lbY Y.dz) hz,k _ _ n5 hT,n1,n2,n3,n4,n5⟩
theorem GSt.next (Z:GSt s.heap z TI TO i1 i2 d S1 S2 i)(Y:GAp z TI TO i1 i2 p1 p2 d)(C1:Src prog w i1 p1 n1 g1 S1)(C2:Src prog w i2 p2 n2 g2 S2)
  (hd:d<s.heap.objs.size) (hc:i<n1) (hy:i<n2)
  (hQ:∀(T:Addr) h' tk,GSt h' z TI TO i1 i2 d S1 S2 (i+1)->IsPair h' T (g1 i) (g2 i)->(∀c o,c≠z->c≠TO->c≠i1->c≠i2->s.heap.get? c=some o->h'.get? c=some o)->h'.objs.size=s.heap.objs.size+1->Q (some (.ref T)) {s with heap:=h',toks:=tk}) :
  wpAny (model prog w) A (pyNext (.ref z)) Q E s:=by
 obtain⟨zp,ti,⟨a,b,to⟩,s1,s2⟩:=Z
 have D:=Y.D
 obtain⟨⟨o1,e1⟩,_⟩:=C1.li _ _ s1
 obtain⟨⟨o2,e2⟩,_⟩:=C2.li _ _ s2
 have lt:∀{c:Addr}{o:Obj},s.heap.get? c=some o->s.heap.objs.size≠c:=λe=>laJ (lE e)
 have Y1:=C1.yl A.in1 i hc
 have Y2:=C2.yl A.in1 i hy
 rcases zp with⟨f1,hz⟩|⟨T,oT,fb,hz,hT,n1,n2,n3,n4,n5⟩
 ·have hTy:s.TypeIs (.ref z) "zip" := ⟨_,hz,rfl⟩
  unfold pyNext
  refine la (lbp (lV (name:=Str.ofString "__next__") hTy laI
   (lad laI hTy lbI (next_item D hz ti to Y1 Y2 ?_ ?_ ?_ ?_ ?_) (lbz _))))
  ·exact λh' k=>C1.mv _ _ _ s1 (λo=>k _ o D.i1z) (λo=>k _ o Y.az)
  ·exact λh' k=>C2.mv _ _ _ s2 (λo=>k _ o D.i2z D.TOi2.symm D.i12.symm) (λo=>k _ o Y.bz Y.bO Y.b1)
  ·exact λh h' q k=>C1.mv _ _ _ q (λo=>k _ o D.i1z D.TOi1.symm D.i12) (λo=>k _ o Y.az Y.aO Y.a2)
  ·exact λh h' q k=>C2.mv _ _ _ q (λo=>k _ o D.i2z D.TOi2.symm) (λo=>k _ o Y.bz Y.bO)
  ·rintro v1 v2 h' tk rfl rfl z' to' q1 q2 hp hsz k
   refine lr (hQ _ h' tk ⟨.inr ⟨_,_,false,z',hp,lt hz,lt to,lt e1,lt e2,laJ hd⟩,k _ _ D.TIz D.TITO D.TIi1 D.TIi2 ti,⟨_,_,to'⟩,q1,q2⟩ hp k hsz)
 ·have hTy:s.TypeIs (.ref z) "zip" := ⟨_,hz,rfl⟩
  unfold pyNext
  refine la (lbp (lV (name:=Str.ofString "__next__") hTy laI
   (lad laI hTy lbI (zdH D hz ti hT Y1 Y2 ?_ ?_ ?_ ?_ ?_) (lbz _))))
  ·exact λh' k=>C1.mv _ _ _ s1 (λo=>k _ o D.i1z) (λo=>k _ o Y.az)
  ·exact λh' k=>C2.mv _ _ _ s2 (λo=>k _ o D.i2z D.i12.symm) (λo=>k _ o Y.bz Y.b1)
  ·exact λh h' q k=>C1.mv _ _ _ q (λo=>k _ o D.i12) (λo=>k _ o Y.a2)
  ·exact λh h' q k=>C2.mv _ _ _ q (λo=>k _ o) (λo=>k _ o)
  ·rintro v1 v2 h' tk rfl rfl z' q1 q2 hp hsz k
   exact lr (hQ _ h' tk ⟨.inr ⟨T,oT,true,z',k _ _ n1 n3 n4 hT,n1,n2,n3,n4,n5⟩,k _ _ D.TIz D.TIi1 D.TIi2 ti,⟨_,_,k _ _ D.TOz D.TOi1 D.TOi2 to⟩,q1,q2⟩ hp (λc o c1 _ c3 c4 e=>k c o c1 c3 c4 e) hsz)
theorem GSt.done (hh:A.handled=none)(Z:GSt s.heap z TI TO i1 i2 d S1 S2 i)(Y:GAp z TI TO i1 i2 p1 p2 d)(C1:Src prog w i1 p1 n1 g1 S1)(C2:Src prog w i2 p2 n2 g2 S2)
  (hend:min n1 n2<=i)
  (hQ:∀h' tk,(∀c o,c≠z->c≠TO->c≠i1->c≠i2->s.heap.get? c=some o->h'.get? c=some o)->Q none {s with heap:=h',toks:=tk}) :
  wpAny (model prog w) A (pyNext (.ref z)) Q E s:=by
 obtain⟨zp,ti,⟨a,b,to⟩,s1,s2⟩:=Z
 have D:=Y.D
 have hend':Ends prog w A.in1 i1 (S1 i)∨(Yields prog w A.in1 i1 (S1 i) (λ_=>True) (λ_=>True)/\Ends prog w A.in1 i2 (S2 i)):=by
  rcases lcd i n1 with h|h
  ·exact .inr ⟨λs Q E g hQ=>C1.yl A.in1 i h s Q E g λv h' tk _ _ sb=>hQ v h' tk trivial trivial sb,C2.en A.in1 i hh (by omega)⟩
  ·exact .inl (C1.en A.in1 i hh h)
 rcases zp with⟨f1,hz⟩|⟨T,oT,fb,hz,hT,n1,n2,n3,n4,n5⟩
 ·have hTy:s.TypeIs (.ref z) "zip" := ⟨_,hz,rfl⟩
  unfold pyNext
  refine la (lbp (lV (name:=Str.ofString "__next__") hTy laI
   (lad laI hTy lbI (next_end D hz ti to hend' ?_ ?_ ?_) (lbz _))))
  ·exact λh' k=>C1.mv _ _ _ s1 (λo=>k _ o D.i1z) (λo=>k _ o Y.az)
  ·exact λh' k=>C2.mv _ _ _ s2 (λo=>k _ o D.i2z D.TOi2.symm D.i12.symm) (λo=>k _ o Y.bz Y.bO Y.b1)
  ·intro h' tk e k he
   obtain⟨o,ho,hc⟩:=he
   refine la (lb0 (T := "StopIteration") (b:=true) ⟨o,ho,hc⟩ lcv ?_)
   exact lr (hQ _ _ k)
 ·have hTy:s.TypeIs (.ref z) "zip" := ⟨_,hz,rfl⟩
  unfold pyNext
  refine la (lbp (lV (name:=Str.ofString "__next__") hTy laI
   (lad laI hTy lbI (zf6 D hz ti hT hend' ?_ ?_ ?_) (lbz _))))
  ·exact λh' k=>C1.mv _ _ _ s1 (λo=>k _ o D.i1z) (λo=>k _ o Y.az)
  ·exact λh' k=>C2.mv _ _ _ s2 (λo=>k _ o D.i2z D.i12.symm) (λo=>k _ o Y.bz Y.b1)
  ·intro h' tk e k he
   obtain⟨o,ho,hc⟩:=he
   refine la (lb0 (T := "StopIteration") (b:=true) ⟨o,ho,hc⟩ lcv ?_)
   exact lr (hQ _ _ λc o c1 _ c3 c4 e=>k c o c1 c3 c4 e)
end
section
variable {prog:Program}{w:World}{A:Around}{E:qQ2}{s:Shared}
abbrev lIter (t:Addr):Obj:={cls:=.type "list_iterator", data:=.fields #[.ref t,.int 0 0]}
end
end Zp
set_option maxHeartbeats 1000000
namespace L2
open PySem PySem.Spec PyProof.Rows
variable {H:Hp}{a c:Addr}{xs ys:List V}{v:V}{d:PyData}{scope:Scope}{env:Env}{l r:List (Str×Addr)}{x y:Str}{fp:List Addr}{pos:Pos}{it n i k:Nat}{F:List V->Hp->Prop}{P:Program}{w:World}{G:Hp->Prop}{g:TG}{σ:St}{items:Array Value}{elts:List Expr}
def TxtOk (x:Str):Prop:=PyData.strOk x=true/\x.length<=1000000
mutual
inductive Is (K:qQ0)(H:Hp):V->PyData->Prop
 | non:Is K H .non .none
 | bl (b:Bool):Is K H (.bl b) (.bool b)
 | int (i:Int):Is K H (.int i) (.int i)
 | str (x:Str) (ok:TxtOk x):Is K H (.str x) (.str x)
 | lst {a:Addr}{xs:List V}{ds:List PyData}:SqL K H a xs->Iss K H xs ds->Is K H (.ref a) (.list ds)
 | tup {a:Addr}{xs:List V}{ds:List PyData}:SqT K H a xs->Iss K H xs ds->Is K H (.ref a) (.tuple ds)
inductive Iss (K:qQ0)(H:Hp):List V->List PyData->Prop
 | nil:Iss K H [] []
 | cons {v:V}{d:PyData}{vs:List V}{ds:List PyData}:Is K H v d->Iss K H vs ds->Iss K H (v::vs) (d::ds)
end
theorem Same.seqT {K:qQ0}{H':Hp}(e:Same H H')(h:SqT K H a xs):SqT K H' a xs:=by
 rcases h with(h|⟨o,h⟩)|h
 ·exact .inl (.inl (e _ _ h))
 ·exact .inl (.inr ⟨o,e _ _ h⟩)
 ·exact .inr h
section
variable {K:qQ0}{H H':Hp}
theorem Is.mono_both (e:Same H H'):(∀{v:V}{d:PyData},Is K H v d->Is K H' v d)/\(∀{vs:List V}{ds:List PyData},Iss K H vs ds->Iss K H' vs ds):=by
 refine⟨λ{v d} h=>?_,λ{vs ds} h=>?_⟩
 ·exact Is.rec (motive_1:=λv d _=>Is K H' v d) (motive_2:=λvs ds _=>Iss K H' vs ds) .non .bl .int .str (λq _ ih=>.lst (e.seq q) ih) (λq _ ih=>.tup (e.seqT q) ih) .nil (λ_ _ a b=>.cons a b) h
 ·exact Iss.rec (motive_1:=λv d _=>Is K H' v d) (motive_2:=λvs ds _=>Iss K H' vs ds) .non .bl .int .str (λq _ ih=>.lst (e.seq q) ih) (λq _ ih=>.tup (e.seqT q) ih) .nil (λ_ _ a b=>.cons a b) h
theorem Is.mono (h:Is K H v d)(e:Same H H'):Is K H' v d:=(Is.mono_both e).1 h
theorem Iss.mono {vs:List V}{ds:List PyData}(h:Iss K H vs ds)(e:Same H H'):Iss K H' vs ds:=(Is.mono_both e).2 h
theorem Iss.length:∀{vs:List V}{ds:List PyData},Iss K H vs ds->vs.length=ds.length
 | _,_,.nil=>rfl
 | _,_,.cons _ r=>by simp[r.length]
theorem Iss.append:∀{vs ws:List V}{ds es:List PyData},Iss K H vs ds->Iss K H ws es->Iss K H (vs++ws) (ds++es)
 | _,_,_,_,.nil,s=>s
 | _,_,_,_,.cons r t,s=>.cons r (Iss.append t s)
theorem Iss.get:∀{vs:List V}{ds:List PyData}{i:Nat}{v:V},Iss K H vs ds->vs[i]? = some v->∃d,ds[i]? = some d/\Is K H v d
 | _,_,_,_,.nil,e=>by simp at e
 | _,_,0,_,.cons r _,e=>by simp at e;subst e;exact⟨_,rfl,r⟩
 | _,_,i+1,v,.cons _ t,e=>by
  obtain⟨d,h1,h2⟩:=Iss.get (i:=i) (v:=v) t (by simpa using e)
  exact⟨d,by simpa using h1,h2⟩
theorem Iss.take:∀{vs:List V}{ds:List PyData} (n:Nat),Iss K H vs ds->Iss K H (vs.take n) (ds.take n)
 | _,_,0,_=>.nil
 | _,_,_+1,.nil=>.nil
 | _,_,n+1,.cons r t=>.cons r (Iss.take n t)
theorem Iss.drop:∀{vs:List V}{ds:List PyData} (n:Nat),Iss K H vs ds->Iss K H (vs.drop n) (ds.drop n)
 | _,_,0,r=>r
 | _,_,_+1,.nil=>.nil
 | _,_,n+1,.cons _ t=>Iss.drop n t
theorem Is.can_both:(∀{v:V}{d:PyData},Is K H v d->d.canLay0=true)/\(∀{vs:List V}{ds:List PyData},Iss K H vs ds->PyData.canLayAll0 ds=true):=by
 have hs:∀(x:Str),TxtOk x->(PyData.str x).canLay0=true:=λx h=>h.1
 refine⟨λ{v d} h=>?_,λ{vs ds} h=>?_⟩
 ·exact Is.rec (motive_1:=λv d _=>d.canLay0=true) (motive_2:=λvs ds _=>PyData.canLayAll0 ds=true) rfl (λ_=>rfl) (λ_=>rfl) hs (λ_ _ ih=>ih) (λ_ _ ih=>ih) rfl (λ_ _ a b=>by simp[PyData.canLayAll0,a,b]) h
 ·exact Iss.rec (motive_1:=λv d _=>d.canLay0=true) (motive_2:=λvs ds _=>PyData.canLayAll0 ds=true) rfl (λ_=>rfl) (λ_=>rfl) hs (λ_ _ ih=>ih) (λ_ _ ih=>ih) rfl (λ_ _ a b=>by simp[PyData.canLayAll0,a,b]) h
theorem Is.can (h:Is K H v d):d.canLay0=true:=Is.can_both.1 h
end
section
variable {X:Cx}{pins:List (Addr×Obj)}{σ:St}{H:Hp}{s:Shared}
theorem Inv.reads_both (I:Inv X pins σ H s):(∀{v:V}{d:PyData},Is X.K H v d->∀{u:Value},RelV v u->∃as,Reads s.heap u d as)/\(∀{vs:List V}{ds:List PyData},Iss X.K H vs ds->∀{us:List Value},Vals vs us->∃as,ReadsAll s.heap us ds as):=by
 have h1:∀{u:Value},RelV .non u->∃as,Reads s.heap u .none as:=λ{u} r=>by cases r;exact⟨_,.none⟩
 have h2:∀(b:Bool) {u:Value},RelV (.bl b) u->∃as,Reads s.heap u (.bool b) as:=λb {u} r=>by cases r;exact⟨_,.bool b⟩
 have h3:∀(i:Int) {u:Value},RelV (.int i) u->∃as,Reads s.heap u (.int i) as:=λi {u} r=>by obtain⟨t,rfl⟩:=r;exact⟨_,.int i t⟩
 have h4:∀(x:Str),TxtOk x->∀{u:Value},RelV (.str x) u->∃as,Reads s.heap u (.str x) as:=λx _ {u} r=>by obtain⟨t,rfl⟩:=r;exact⟨_,.str x t⟩
 have h5:∀{a:Addr}{xs:List V}{ds:List PyData} (_:SqL X.K H a xs) (_:Iss X.K H xs ds),(∀{us:List Value},Vals xs us->∃as,ReadsAll s.heap us ds as)->∀{u:Value},RelV (.ref a) u->∃as,Reads s.heap u (.list ds) as:=by
  intro a xs ds q _ ih u r
  cases r
  obtain⟨its,rv,⟨o,n,e,hc,_,hd⟩,_⟩:=I.list q
  obtain⟨as,ra⟩:=ih rv
  exact⟨_,.list e hc hd (by simpa using ra)⟩
 have h6:∀{a:Addr}{xs:List V}{ds:List PyData} (_:SqT X.K H a xs) (_:Iss X.K H xs ds),(∀{us:List Value},Vals xs us->∃as,ReadsAll s.heap us ds as)->∀{u:Value},RelV (.ref a) u->∃as,Reads s.heap u (.tuple ds) as:=by
  intro a xs ds q _ ih u r
  cases r
  obtain⟨its,rv,⟨o,e,hc,n,hd⟩,_⟩:=I.tuple q
  obtain⟨as,ra⟩:=ih rv
  exact⟨_,.tuple e hc hd (by simpa using ra)⟩
 have h7:∀{us:List Value},Vals [] us->∃as,ReadsAll s.heap us [] as:=λ{us} r=>by cases r;exact⟨_,.nil⟩
 have h8:∀{v:V}{d:PyData}{vs:List V}{ds:List PyData} (_:Is X.K H v d) (_:Iss X.K H vs ds),(∀{u:Value},RelV v u->∃as,Reads s.heap u d as)->(∀{us:List Value},Vals vs us->∃as,ReadsAll s.heap us ds as)->∀{us:List Value},Vals (v::vs) us->∃as,ReadsAll s.heap us (d::ds) as:=by
  intro v d vs ds _ _ a b us r
  cases r with
  | cons r t =>
   obtain⟨_,ra⟩:=a r
   obtain⟨_,rb⟩:=b t
   exact⟨_,.cons ra rb⟩
 refine⟨λ{v d} h=>?_,λ{vs ds} h=>?_⟩
 ·exact Is.rec (motive_1:=λv d _=>∀{u:Value},RelV v u->∃as,Reads s.heap u d as) (motive_2:=λvs ds _=>∀{us:List Value},Vals vs us->∃as,ReadsAll s.heap us ds as) h1 h2 h3 h4 h5 h6 h7 h8 h
 ·exact Iss.rec (motive_1:=λv d _=>∀{u:Value},RelV v u->∃as,Reads s.heap u d as) (motive_2:=λvs ds _=>∀{us:List Value},Vals vs us->∃as,ReadsAll s.heap us ds as) h1 h2 h3 h4 h5 h6 h7 h8 h
theorem Inv.reads (I:Inv X pins σ H s){u:Value}(h:Is X.K H v d)(r:RelV v u):∃as,Reads s.heap u d as:=I.reads_both.1 h r
def zps (K:qQ0):R2:=λx y H Q=>∃d e,Is K H x d/\Is K H y e/\d.depth<=60/\Q (.bl (PyData.eqv d e)) H
def zpu (K:qQ0):R2:=λx y H Q=>∃d e,Is K H x d/\Is K H y e/\d.depth<=60/\Q (.bl (!PyData.eqv d e)) H
theorem zeD (hu:X.A.units+64<cLine):OpR X (compareOp .Eq) (zps X.K):=by
 intro pins s σ H x y v u Q I rx ry h
 obtain⟨d,e,hd,he,hz,q⟩:=h
 obtain⟨_,ra⟩:=I.reads hd rx
 obtain⟨_,rb⟩:=I.reads he ry
 exact SeqAt.rcAt_reads ra rb hd.can he.can (by omega) X.prog X.w X.xe _ (zf3 I q rfl)
theorem wU (hu:X.A.units+64<cLine):OpR X (compareOp .NotEq) (zpu X.K):=by
 intro pins s σ H x y v u Q I rx ry h
 obtain⟨d,e,hd,he,hz,q⟩:=h
 obtain⟨_,ra⟩:=I.reads hd rx
 obtain⟨_,rb⟩:=I.reads he ry
 exact SeqAt.rcNeAt_reads ra rb hd.can he.can (by omega) X.prog X.w X.xe _ (zf3 I q rfl)
end
def wF (scope:Scope)(env:Env):List (Str×Addr):=scope.names.foldl (λcs y=>if y.2 == NameKind.free then(y.1,(env.cells.lookup y.1).getD 0)::cs else cs) []
theorem uW (h:∀y∈scope.names,y.2=.free->∃c,env.cells.lookup y.1=some c):closureFor scope env=pure (wF scope env):=by
 have key:∀(names:List (Str×NameKind)) (cs:List (Str×Addr)),(∀y∈names,y.2=.free->∃c,env.cells.lookup y.1=some c) ->
   (forIn names cs (λ(x:Str×NameKind) (r:List (Str×Addr))=>if (x.2 == NameKind.free)=true then(do let a ← cellOf env x.1;pure (ForInStep.yield ((x.1,a)::r)):Sem (ForInStep (List (Str×Addr)))) else pure (ForInStep.yield r))) =
    pure (names.foldl (λcs y=>if y.2 == NameKind.free then(y.1,(env.cells.lookup y.1).getD 0)::cs else cs) cs):=by
  intro names
  induction names with
  | nil=>intro cs _;rfl
  | cons y r ih =>
   intro cs hy
   have hr:∀z∈r,z.2=.free->∃c,env.cells.lookup z.1=some c:=λz hz=>hy z (lz _ hz)
   rw[lcc,la6]
   cases hk:(y.2 == NameKind.free) with
   | false =>
    simp only[lS,laU]
    exact ih cs hr
   | true =>
    have e:y.2=.free:=by simpa using hk
    obtain⟨c,hc⟩:=hy y lD e
    have hco:cellOf env y.1=pure c:=by unfold cellOf;rw[hc]
    simp only[lbx,hco,hc,Option.getD_some]
    exact ih _ hr
 unfold closureFor wF
 have:=key scope.names [] h
 first|exact(lbB (· >>= λr=>pure r) this).trans rfl|exact this|simpa using this
theorem zar (h:∀y∈scope.names,y.2=.free->∃c,env.cells.lookup y.1=some c):∀p∈wF scope env,env.cells.lookup p.1=some p.2/\(p.1,NameKind.free)∈scope.names:=by
 have key:∀(names:List (Str×NameKind)) (cs:List (Str×Addr)),(∀y∈names,y∈scope.names)->(∀p∈cs,env.cells.lookup p.1=some p.2/\(p.1,NameKind.free)∈scope.names) ->
   ∀p∈names.foldl (λcs y=>if y.2 == NameKind.free then(y.1,(env.cells.lookup y.1).getD 0)::cs else cs) cs,env.cells.lookup p.1=some p.2/\(p.1,NameKind.free)∈scope.names:=by
  intro names
  induction names with
  | nil=>intro cs _ hc;exact hc
  | cons y r ih =>
   intro cs hs hc
   rw[la6]
   refine ih _ (λz hz=>hs z (lz _ hz)) ?_
   cases hk:(y.2 == NameKind.free) with
   | false=>simp only[lS,laU];exact hc
   | true =>
    have e:y.2=.free:=by simpa using hk
    obtain⟨c,hcc⟩:=h y (hs y lD) e
    simp only[lbx]
    intro p hp
    rcases lI.mp hp with rfl|hp
    ·exact⟨by rw[hcc];rfl,by have:=hs y lD;rw[← e];exact this⟩
    ·exact hc p hp
 exact key scope.names [] (λ_ h=>h) (λp hp=>by cases hp)
theorem zcP (h:∃p∈l,p.1=x):∃c,l.lookup x=some c:=by
 induction l with
 | nil=>obtain⟨p,hp,_⟩:=h;cases hp
 | cons q r ih =>
  rw[lbJ]
  cases hq:(x == q.1) with
  | true=>exact⟨_,rfl⟩
  | false =>
   obtain⟨p,hp,e⟩:=h
   rcases lI.mp hp with rfl|hp
   ·subst e;simp at hq
   ·exact ih ⟨p,hp,e⟩
theorem jb (hx:(x,NameKind.free)∈scope.names):∃c,(wF scope env).lookup x=some c:=by
 refine zcP ?_
 have key:∀(names:List (Str×NameKind)) (cs:List (Str×Addr)),((x,NameKind.free)∈names∨∃p∈cs,p.1=x) ->
   ∃p∈names.foldl (λcs y=>if y.2 == NameKind.free then(y.1,(env.cells.lookup y.1).getD 0)::cs else cs) cs,p.1=x:=by
  intro names
  induction names with
  | nil=>intro cs h;rcases h with h|h;cases h;exact h
  | cons y r ih =>
   intro cs h
   rw[la6]
   refine ih _ ?_
   rcases h with h|⟨p,hp,e⟩
   ·rcases lI.mp h with h|h
    ·subst h
     exact .inr ⟨_,lD,rfl⟩
    ·exact .inl h
   ·refine .inr ⟨p,?_,e⟩
    cases (y.2 == NameKind.free) with
    | true=>exact lz _ hp
    | false=>exact hp
 exact key scope.names [] (.inl hx)
theorem jq :(relabel scope env).names.lookup x=(scope.names.lookup x).map λk=>if (k == NameKind.free&&env.scope.kind == .function&&env.kindOf x == some .cell) then NameKind.cell else k:=by
 show(scope.names.map _).lookup x=_
 induction scope.names with
 | nil=>rfl
 | cons y r ih =>
  obtain⟨n,k⟩:=y
  rw[lF,lbJ]
  cases hx:(x == n) with
  | true =>
   have e:x=n:=by simpa using hx
   subst e
   show List.lookup x ((if (k == NameKind.free&&env.scope.kind == .function&&env.kindOf x == some .cell)=true then(x,NameKind.cell) else(x,k))::_)=_
   split
   ·rename_i h
    simp only[lbJ,hx,ldY]
    rw[lU h]
   ·rename_i h
    simp only[lbJ,hx,ldY]
    rw[lac h]
  | false =>
   show List.lookup x ((if (k == NameKind.free&&env.scope.kind == .function&&env.kindOf n == some .cell)=true then(n,NameKind.cell) else(n,k))::_)=_
   split <;>simp only[lbJ,hx] <;>exact ih
structure CompOk (X:Cx)(scope:Scope)(caps:List Nat):Prop where
 kind:scope.kind=.function
 ncell:∀y∈scope.names,y.2=.cell->scope.names.lookup y.1=some .cell
 locs:∀y∈scope.names,y.2=.local->scope.names.lookup y.1=some .local
 free:∀y∈scope.names,y.2=.free->X.env.kindOf y.1=some .cell∨X.env.kindOf y.1=some .free
 caps:∀i∈caps,∃y,X.N[i]? = some y/\scope.names.lookup y=some .free
def zmz (X:Cx)(own:List Str)(caps:List Nat):List Str:=own++caps.map λi=>X.N.getD i Str.empty
def zdm (own:List Str)(caps:List Nat)(σ:St):St:=own.map (λ_=>none)++caps.map λi=>(σ[i]?).getD none
def zjS (scope:Scope)(C:Addr):List (Str×Addr):=cellsFrom (C+1) scope.names []
def zkA (scope:Scope)(env:Env)(C:Addr):List (Str×Addr):=zjS scope C++wF scope env
theorem jW:∀(names:List (Str×NameKind)) (n:Nat) (acc:List (Str×Addr)),cellsFrom n names acc=cellsFrom n names []++acc:=by
 intro names
 induction names with
 | nil=>intro n acc;rfl
 | cons y r ih =>
  obtain⟨x,k⟩:=y
  intro n acc
  unfold cellsFrom
  split
  ·rw[ih _ ((x,n)::acc),ih _ [(x,n)],la3];rfl
  ·exact ih n acc
theorem zcH:∀(names:List (Str×NameKind)) (n:Nat) (x:Str) (c:Addr),(x,c)∈cellsFrom n names []->(x,NameKind.cell)∈names:=by
 intro names
 induction names with
 | nil=>intro n x c h;cases h
 | cons y r ih =>
  obtain⟨z,k⟩:=y
  intro n x c h
  unfold cellsFrom at h
  split at h
  ·rename_i hk
   rw[jW] at h
   rcases laW.mp h with h|h
   ·exact lz _ (ih _ _ _ h)
   ·have e:=lR.mp h
    injection e with e1 e2
    subst e1
    have ek:k=.cell:=by simpa using hk
    subst ek
    exact lD
  ·exact lz _ (ih _ _ _ h)
theorem zch (h:(l++r).lookup x=some c):l.lookup x=some c∨(l.lookup x=none/\r.lookup x=some c):=by
 rw[ldy] at h
 cases e:l.lookup x with
 | none=>rw[e] at h;exact .inr ⟨rfl,h⟩
 | some d=>rw[e] at h;exact .inl h
theorem zfx (h:l.lookup x=some c):(l++r).lookup x=some c:=by rw[ldy,h];rfl
theorem zgb (n:l.lookup x=none)(h:r.lookup x=some c):(l++r).lookup x=some c:=by rw[ldy,n];exact h
def cxC (X:Cx)(pins:List (Addr×Obj))(scope:Scope)(own:List Str)(caps:List Nat)(C:Addr)(ex:List Addr)(s:Shared)(H:Hp):Cx :=
 {X with N:=zmz X own caps,s₀:=s,H₀:=H,env:=compEnvC scope (zkA scope X.env C) C X.env,outer:=X.stack,ex:=ex,fn:=λx=>scope.names.lookup x == some .cell,pn:=X.pn++pins,xe:=λ_ _=>False}
section
variable {X:Cx}{pins:List (Addr×Obj)}{σ:St}{H:Hp}{s:Shared}{scope:Scope}{own:List Str}{caps:List Nat}
theorem Inv.track {D:Addr}{o:HO} (I:Inv X pins σ H s) (hn:H D=none) (h0:D∈X.ex∨X.s₀.heap.objs.size<=D) (hL:D≠X.env.locals) (hc:∀x c,X.env.cells.lookup x=some c->c≠D) (hp:∀p∈X.pn++pins,p.1≠D)
  (new:ObjOk X.prog X.w (upd H D o) s.heap D o):Inv X pins σ (upd H D o) s:=by
 have ne:∀b u,H b=some u->b≠D:=λb u e=>yw e hn
 have q := I.step (g':=s.gens) (t':=s.toks) (d':=s.drawn) (ch:=[D]) (h':=s.heap) (H':=upd H D o)
  (λb hb => by
                  have e:b=D:=by simpa using hb
                  subst e;exact⟨h0,hL,hc,hp⟩)
  (λb o' _ _ _ e _=>e) (λb o' _ _ _ e _=>⟨o'.slots,e⟩) (λb o' hb _ n=>by rw[zO (λz=>hb (by simp[z]))];exact n) (λb o' _ e=>⟨o',e⟩)
  (λb xs e=>by rw[zO (ne b _ e)];exact e) (λb o' u e=>by rw[zO (ne b _ e)];exact e) (λb ps e=>⟨#[],by rw[zO (ne b _ e),e];simp⟩) (λm hm=>hm)
  (λb u e=>by
   by_cases hb:b=D
   ·subst hb;rw[zV] at e;cases e;exact new
   ·rw[zO hb] at e
    exact(I.hok b u e).stay (λc v _ q=>q) (λc q=>by rw[zO (ne c _ q)];exact q) λc xs q=>by rw[zO (ne c _ q)];exact q) I.bare
 exact q
theorem CompOk.cells (ok:CompOk X scope caps)(I:Inv X pins σ H s):∀y∈scope.names,y.2=.free->∃c,X.env.cells.lookup y.1=some c:=λy hy e=>I.ok.has y.1 (ok.free y hy e)
theorem Inv.block {h₁:Heap}{D C:Addr}{m:qQ3}{oD:Obj}{t:Nat}(ok:CompOk X scope caps)(I:Inv X pins σ H s)(hf:∀b∈fp,zax X pins H b)(hfo:∀b∈fp,∃o,s.heap.get? b=some o/\∀v,o.data≠.cell v)
  (hD:D=s.heap.objs.size) (hC:s.heap.objs.size<=C) (hDC:D≠C) (k:∀b u,s.heap.get? b=some u->h₁.get? b=some u) (hn:h₁.Ns C m) (hoD:h₁.get? D=some oD) (hdD:∀v,oD.data≠.cell v) (cok:CellsOk h₁ (C+1) (zjS scope C)) :
  Inv (cxC X pins scope own caps C fp s H) [(D,oD)] (zdm own caps σ) H {s with heap:=h₁,toks:=t}:=by
 have hcl:=ok.cells I
 have lk:∀x c,(wF scope X.env).lookup x=some c->X.env.cells.lookup x=some c/\(x,NameKind.free)∈scope.names:=λx c e=>zar hcl (x,c) (lag e)
 have lA:∀x c,(zkA scope X.env C).lookup x=some c->(C<c/\h₁.IsCell c none/\(x,c)∈zjS scope C)∨(wF scope X.env).lookup x=some c:=λx c e=>by
  rcases zch e with e|⟨_,e⟩
  ·have m:=lag e
   exact .inl ⟨(cok.empty x c m).2,(cok.empty x c m).1,m⟩
  ·exact .inr e
 have lkC:∀x c,X.env.cells.lookup x=some c->c<C:=λx c e=>by
  obtain⟨v,o,ho,_⟩:=I.cell x c e
  exact lK (lE ho) hC
 have nst:∀b,b≠X.env.locals->b∉X.fs->b∉frs X.stack:=λb h1 h2 hb=>by
  rcases lI.mp (I.stkSub b hb) with e|e
  ·exact h1 e
  ·exact h2 e
 have kinds:∀x,((relabel scope X.env).names.lookup x=some .cell∨(relabel scope X.env).names.lookup x=some .free)->(x,NameKind.free)∈scope.names∨scope.names.lookup x=some .cell:=λx hx=>by
  rw[jq] at hx
  cases e:scope.names.lookup x with
  | none=>rw[e] at hx;rcases hx with hx|hx <;>cases hx
  | some kd =>
   have hm:=lag e
   cases kd with
   | free=>exact .inl hm
   | cell=>exact .inr rfl
   | _=>rw[e] at hx;rcases hx with hx|hx <;>simp at hx
 refine⟨⟨I.ok.mod,ok.kind,I.ok.glob,I.ok.blt,hC,?_,?_,?_,I.ok.hd,I.ok.frames,.inl rfl,?_,I.bs,lar I.ok.bsz I.sz,?_,?_,I.stack,I.stkFree⟩,rfl,I.bare,Un.kept k,⟨m,hn,?_⟩,?_,I.hok.fresh hC,?_,?_,I.hok.kept k,?_⟩
 ·intro x y c h1 h2
  rcases lA x c h1 with⟨l1,_,m1⟩|h1 <;>rcases lA y c h2 with⟨l2,_,m2⟩|h2
  ·exact name_of_addr cok.apart m1 m2
  ·exact absurd (lkC y c (lk y c h2).1) (Nat.lt_asymm l1)
  ·exact absurd (lkC x c (lk x c h1).1) (Nat.lt_asymm l2)
  ·exact I.ok.inj x y c (lk x c h1).1 (lk y c h2).1
 ·intro x hx
  show ∃c,(zkA scope X.env C).lookup x=some c
  cases e:(zjS scope C).lookup x with
  | some c=>exact⟨c,zfx e⟩
  | none =>
   rcases kinds x hx with h|h
   ·obtain⟨c,h⟩:=jb (env:=X.env) h
    exact⟨c,zgb e h⟩
   ·obtain⟨c,h⟩:=za3 (n:=C+1) h
    unfold zjS at e
    rw[h] at e;cases e
 ·intro x c hx e
  have hx:(scope.names.lookup x == some .cell)=true:=hx
  obtain⟨c',h⟩:=za3 (sc:=scope) (n:=C+1) (by simpa using hx)
  have e':=zfx (r:=wF scope X.env) h
  have e2:(zkA scope X.env C).lookup x=some c:=e
  unfold zkA zjS at e2
  rw[e'] at e2
  cases e2
  exact lar hC (lar (lcF C) (cok.empty x _ (lag h)).2)
 ·intro b hb
  obtain⟨o,ho,_⟩:=hfo b hb
  refine⟨lab (lK (lE ho) hC),λx c e=>?_⟩
  rcases lA x c e with⟨l,_,_⟩|e
  ·exact laJ (ldx (lK (lE ho) hC) l)
  ·exact(hf b hb).2.2.2.2.1 x c (lk x c e).1
 ·intro b o e hb
  rcases(hf b hb).2.2.2.1 with z|z
  ·exact I.ok.noex b o e z
  ·exact absurd (lK (lE e) (lar I.ok.bsz z)) (lce _)
 ·exact λb hb=>nst b (hf b hb).2.1 (hf b hb).2.2.1
 ·intro i x v h1 h2 h3
  have h1':(own++caps.map λi=>X.N.getD i Str.empty)[i]? = some x:=h1
  unfold zdm at h2
  have hi:own.length<=i:=by
   apply lcw
   intro hlt
   rw[la2 (by simpa using hlt),lJ] at h2
   cases e:own[i]? with
   | none=>rw[e] at h2;cases h2
   | some y=>rw[e] at h2;cases h2
  rw[laM (by simpa using hi),lJ,lQ] at h2
  rw[laM hi,lJ] at h1'
  cases e:caps[i - own.length]? with
  | none=>rw[e] at h2;cases h2
  | some j =>
   rw[e] at h2 h1'
   have hx:X.N.getD j Str.empty=x:=lq h1'
   have hv:(σ[j]?).getD none=some v:=lq h2
   obtain⟨y,hy,hfr⟩:=ok.caps j (laL e)
   have exy:x=y:=by rw[← hx,ly,hy];rfl
   subst exy
   have hs:σ[j]? = some (some v):=by
    cases q:σ[j]? with
    | none=>rw[q] at hv;cases hv
    | some z=>rw[q] at hv;exact lbB some hv
   have hfm:=lag hfr
   have hkd:=ok.free _ hfm rfl
   obtain⟨m',hn',hl⟩:=I.loc
   obtain⟨u,r,l⟩:=hl j x v hy hs (by rcases hkd with z|z;exact .inr (.inl z);exact .inr (.inr z))
   refine⟨u,r,.inr ⟨?_,?_⟩⟩
   ·show(relabel scope X.env).names.lookup x=some .cell∨(relabel scope X.env).names.lookup x=some .free
    rw[jq,hfr]
    simp only[ldY]
    split
    ·exact .inl rfl
    ·exact .inr rfl
   ·rcases l with⟨hk,_⟩|⟨_,c,hc,o,ho,hd⟩
    ·rcases hkd with z|z <;>(rw[hk] at z;cases z)
    ·obtain ⟨c',hc'⟩:=jb (env:=X.env) hfm
     have e1:=(lk x c' hc').1
     rw[hc] at e1
     cases e1
     refine⟨c,zgb ?_ hc',o,k _ _ ho,hd⟩
     cases e3:(zjS scope C).lookup x with
     | none=>rfl
     | some c3 =>
      have h3:=ok.ncell _ (zcH _ _ _ _ (lag e3)) rfl
      rw[hfr] at h3;cases h3
 ·intro x c e
  rcases lA x c e with⟨_,h,_⟩|e
  ·exact⟨_,h⟩
  ·obtain⟨v,o,ho,hd⟩:=I.cell x c (lk x c e).1
   exact⟨v,o,k _ _ ho,hd⟩
 ·intro x c e
  rcases lA x c e with⟨l,_,_⟩|e
  ·exact I.hok.fresh (lar hC (lds l))
  ·exact I.freeC x c (lk x c e).1
 ·intro p hp
  rcases laW.mp hp with hp|hp
  ·obtain⟨a1,a2,a3,a4,a5⟩:=I.pin p hp
   exact⟨k _ _ a1,a2,lab (lK (lE a1) hC),nst _ a3 a4,a5⟩
  ·have e:p=(D,oD):=by simpa using hp
   subst e
   refine⟨hoD,I.hok.fresh (Nat.le_of_eq hD.symm),hDC,?_,hdD⟩
   refine nst D ?_ (I.nofs (Nat.le_of_eq hD.symm))
   exact laJ (by rw[hD];exact I.lt)
 ·show(zdm own caps σ).length=(zmz X own caps).length
  simp[zdm,zmz]
end
section
variable {prog:Program}{w:World}{A:Around}{R:Result->Shared->Prop}{s:Shared}
theorem zex {elt target iter:Expr}{ifs:List Expr}{it acc:Value}(I:Nat->Shared->Prop)
  (turn : ∀n s,I n s->wpAny (model prog w) A (pyNext it) (λr s₁=>match r with
   | none=>R (.ok .next) s₁
   | some v=>wpAny (model prog w) A (letOwnedTupleGo target it v) (λ_ s₁'=>wpAny (model prog w) A (assign target env v) (λ_ s₂ =>
     wpAny (model prog w) A (forIn ifs true λc r=>if r=true then do let ok ← isTrue c env (eval c env);pure (ForInStep.yield ok) else pure (ForInStep.yield r)) (λok s₃ =>
      if ok=true then wpAny (model prog w) A (eval elt env) (λx s₄ =>
       wpAny (model prog w) A (call (.builtin "list.append") [acc,x]) (λ_ s₅=>∃m,m<n/\I m s₅) (λ_ _=>False) s₄) (λ_ _=>False) s₃
      else ∃m,m<n/\I m s₃) (λ_ _=>False) s₂) (λ_ _=>False) s₁') (λ_ _=>False) s₁) (λ_ _=>False) s)
  (n:Nat) (h:I n s) :
  codeAny (model prog w) A (.compLoop (.ListComp elt [⟨target,iter,ifs,0⟩] scope pos) 0 it acc env) R s:=by
 refine codeAny_loop rfl I (λn s hI=>?_) n h
 show wpAny _ A ((compTurn (.ListComp elt [⟨target,iter,ifs,0⟩] scope pos) 0 it acc env).onRaise (λx=>do noteFrame x env;theTreesLotGoes x)) _ _ s
 refine wpAny_noted ?_
 rw[compTurn_list]
 refine la (wpAny_standAt (la (laF (turn n s hI) (λr s₁ h₁=>?_) λ_ _ h'=>h'.elim)))
 cases r with
 | none=>exact lr h₁
 | some v =>
  refine la (laF h₁ (λ_ s₁' h₁'=>?_) λ_ _ h'=>h'.elim)
  refine la (laF h₁' (λ_ s₂ h₂=>la (laF h₂ (λok s₃ h₃=>?_) λ_ _ h'=>h'.elim)) λ_ _ h'=>h'.elim)
  cases ok with
  | false=>exact lr ⟨rfl,h₃⟩
  | true =>
   exact la (la (laF h₃ (λx s₄ h₄=>la (laF h₄ (λ_ s₅ h₅=>lr (lr ⟨rfl,h₅⟩)) λ_ _ h'=>h'.elim)) λ_ _ h'=>h'.elim))
end
def PTs (X:Cx)(ifs:List Expr)(t:TT):Prop :=
 ∀ (pins:List (Addr×Obj)) (s:Shared) (σ:St) (H:Hp) (Q:Bool->Hp->Prop),Inv X pins σ H s->t σ H Q ->
  wpAny (model X.prog X.w) X.A (forIn ifs true λc r=>if r=true then do let ok ← isTrue c X.env (eval c X.env);pure (ForInStep.yield ok) else pure (ForInStep.yield r)) (TP X pins σ Q) X.xe s
def Kps (σ σ':St):Prop:=σ'.length=σ.length/\∀(i:Nat) (v:V),σ[i]? = some (some v)->σ'[i]? = some (some v)
def zaF (g:TG)(tt:TT)(te:TE)(σ0:St)(F:List V->Hp->Prop)(J:It)(H1:Hp):Prop :=
 ∃ W : Nat->Nat->List V->Hp->Prop,(∃m,W 0 m [] H1)/\∀i m ys H,W i m ys H->ys.length<=sizeLine /\
  ((J.stop i H/\F ys H)∨(J.go i H/\ys.length<sizeLine/\∃N:List V->Hp->Prop,(∀ys' H',N ys' H'->∃m',m'<m/\W (i+1) m' ys' H') /\
    ∀x H',J.yld i H x H'->g x σ0 H' λσ2 H2=>Kps σ0 σ2/\tt σ2 H2 λb H3=>if b=true then te σ2 H3 λy H4=>N (ys++[y]) H4 else N ys H3))
def zo5 (wi:TI)(g:TG)(tt:TT)(te:TE)(own:List Str)(caps:List Nat):TE:=λσ H Q=>wi σ H λJ H1=>zaF g tt te (zdm own caps σ) (λys H'=>∀D,H' D=none->Q (.ref D) (upd H' D (.lst ys))) J H1
section
variable {X:Cx}{pins:List (Addr×Obj)}{σ:St}{H:Hp}{s:Shared}{scope:Scope}{own:List Str}{caps:List Nat}{elt tg iter:Expr}{ifs:List Expr}{wi:TI}{g:TG}{tt:TT}{te:TE}{pos:Pos}
structure CompIn (X:Cx)(scope:Scope)(own:List Str)(caps:List Nat)(tg:Expr)(ifs:List Expr)(elt:Expr)(g:TG)(tt:TT)(te:TE):Prop where
 tgt:∀pins C ex s H,PG (cxC X pins scope own caps C ex s H) tg g
 tst:∀pins C ex s H,PTs (cxC X pins scope own caps C ex s H) ifs tt
 elm:∀pins C ex s H,PE (cxC X pins scope own caps C ex s H) elt te
theorem ze3 {M:Model}{A:Around}{E:qQ2}{s:Shared}{scope:Scope}{g:Addr}{cl:List (Str×Addr)}{q:Str}{Q:Env->Shared->Prop}
  (h:∀h',h'.Ns s.heap.objs.size (λ_=>none)->(∀b o,s.heap.get? b=some o->h'.get? b=some o)->CellsOk h' (s.heap.objs.size+1) (zjS scope s.heap.objs.size) ->
   Q (newEnv scope s.heap.objs.size g (zjS scope s.heap.objs.size++cl) q none .none (some env) builtinsNs) {s with heap:=h'}) :
  wpAny M A (newFunctionEnv scope g cl [] q none .none (some env)) Q E s:=by
 simp only[newFunctionEnv,Option.isSome_some,lbx]
 refine la (wpAny_alloc ?_)
 refine la (wpAny_layCells _ (λname kind cells=>by cases hkc:kind == NameKind.cell <;>simp[hkc]) _ _ _ _ ?_)
 have ok:=cellsFrom_ok scope.names (s.heap.push {cls:=.type "dict", data:=.dict #[]}) (s.heap.objs.size+1) [] ⟨λ_ _ hm=>(nomatch hm),List.Pairwise.nil⟩ (by rw[laR];exact lB _)
 rw[laR] at ok
 rw[show({s with heap:=s.heap.push {cls:=.type "dict", data:=.dict #[]} }:Shared).heap.objs.size=s.heap.objs.size+1 from laR ..]
 rw[jW,lcg]
 refine la (lr (lr ?_))
 exact h _ ((Heap.Ns.new s.heap (.type "dict")).keeps (pushCells_keeps _ _)) (λb o e=>pushCells_keeps _ _ b o (lg _ e)) ok
theorem zdI {use:Option (Value->Sem Unit)}{Qv:qQ2}(ok:CompOk X scope caps)(hc:X.calm=true)(hi:PI X tg iter wi)(CI:CompIn X scope own caps tg ifs elt g tt te)(I:Inv X pins σ H s)
  (h:wi σ H λJ H1=>zaF g tt te (zdm own caps σ) F J H1)
  (fin:∀(D C:Addr) (ys:List V) (H':Hp) (s1:Shared) (m:qQ3),Inv X pins σ (upd H' D (.lst ys)) s1->H' D=none->F ys H'->s1.heap.Ns C m->H' C=none->C≠D->C≠X.env.locals->C∉X.fs->X.s₀.heap.objs.size<=C ->
   (∀x c,X.env.cells.lookup x=some c->c≠C)->(∀p∈X.pn++pins,p.1≠C)->compPost (model X.prog X.w) X.A X.xe use Qv (.ref D) C (.ok .next) s1)
  (hs:∀x,foldedSetIterable iter X.env x=pure x:=by intro _;rfl) :
  wpAny (model X.prog X.w) X.A (comprehension (.ListComp elt [⟨tg,iter,ifs,0⟩] scope pos) scope X.env (firstIterPos [⟨tg,iter,ifs,0⟩] pos) (newList []) false (eval iter X.env) use) Qv X.xe s:=by
 refine wpAny_comprehension_free rfl hs (uW (ok.cells I)) ok.kind ok.locs (thn (hi pins s σ H _ I h) λv s1 h1=>thn h1 λitv s2 h2=>?_)
 obtain⟨it,fp,tn,J,H2,e,I2,T,st2,f2,W,⟨m0,w0⟩,turn⟩:=h2
 subst e
 refine laH (ze3 (λh₁ hns₁ hsb₁ cok=>?_))
 dsimp only at hns₁ hsb₁ cok ⊢
 generalize hH2:s2.heap.push {cls:=.type "list", dict:=none,data:=.seq ([]:List Value).toArray}=HH at hns₁ hsb₁ cok ⊢
 have hCs:HH.objs.size=s2.heap.objs.size+1:=by rw[← hH2,laR]
 have hDC:s2.heap.objs.size≠HH.objs.size:=by rw[hCs];exact lab (lcy _)
 have hC:s2.heap.objs.size<=HH.objs.size:=by rw[hCs];exact lcF _
 have old:∀b o,s2.heap.get? b=some o->h₁.get? b=some o:=λb o e =>
  hsb₁ b o (hH2▸lg _ e)
 have hoD:h₁.get? s2.heap.objs.size=some {cls:=.type "list", data:=.seq ([]:List Value).toArray}:=hsb₁ _ _ (hH2▸lC _ rfl)
 have fo:∀b∈fp,∃o,s2.heap.get? b=some o/\∀v,o.data≠.cell v:=T.obj _ _ st2
 have I4:=Inv.block (own:=own) (t:=s2.toks) ok I2 f2 fo rfl hC hDC old hns₁ hoD (λv z=>by cases z) cok
 have st4:tn 0 h₁:=T.keep _ _ _ st2 λb _ o e=>old b o e
 have hDfp:∀b∈fp,b≠s2.heap.objs.size:=λb hb=>by obtain⟨o,ho,_⟩:=fo b hb;exact lab (lE ho)
 have hCfp:∀b∈fp,b≠HH.objs.size:=λb hb=>by obtain⟨o,ho,_⟩:=fo b hb;exact lab (lK (lE ho) hC)
 have pnD:∀p∈X.pn++pins,p.1≠s2.heap.objs.size:=λp hp=>lab (lE (I2.pin p hp).1)
 have pnC:∀p∈X.pn++pins,p.1≠HH.objs.size:=λp hp=>lab (lK (lE (I2.pin p hp).1) hC)
 have clX:∀x c,X.env.cells.lookup x=some c->c<s2.heap.objs.size:=λx c e=>by obtain⟨v,o,ho,_⟩:=I2.cell x c e;exact lE ho
 have cl:∀x c,(zkA scope X.env HH.objs.size).lookup x=some c->X.env.cells.lookup x=some c∨HH.objs.size<c:=λx c e=>by
  rcases zch e with e|⟨_,e⟩
  ·exact .inr (cok.empty x c (lag e)).2
  ·exact .inl (zar (ok.cells I) (x,c) (lag e)).1
 have YA:(cxC X pins scope own caps HH.objs.size fp s2 H2).env=compEnvC scope (zkA scope X.env HH.objs.size) HH.objs.size X.env:=rfl
 have stat:∀{H':Hp}{oD:Obj},(∀b∈fp,H' b=none)->∀b∈fp,zax (cxC X pins scope own caps HH.objs.size fp s2 H2) [(s2.heap.objs.size,oD)] H' b:=λ{H' oD} hn b hb=>by
  refine⟨hn b hb,hCfp b hb,?_,.inl hb,λx c e=>?_,λp hp=>?_⟩
  ·intro z
   rcases lI.mp (I2.stkSub b z) with e|e
   ·exact(f2 b hb).2.1 e
   ·exact(f2 b hb).2.2.1 e
  ·rcases cl x c e with e|e
   ·exact(f2 b hb).2.2.2.2.1 x c e
   ·obtain⟨o,ho,_⟩:=fo b hb
    exact laJ (ldx (lK (lE ho) hC) e)
  ·rcases laW.mp hp with hp|hp
   ·exact(f2 b hb).2.2.2.2.2 p hp
   ·have e:p=(s2.heap.objs.size,oD):=by simpa using hp
    subst e
    exact(hDfp b hb).symm
 have loop:∀s₃:Shared,s₃={s2 with heap:=h₁} ->
   codeAny (model X.prog X.w) X.A (.compLoop (.ListComp elt [⟨tg,iter,ifs,0⟩] scope pos) 0 (.ref it) (.ref s2.heap.objs.size) (compEnvC scope (zkA scope X.env HH.objs.size) HH.objs.size X.env)) (compPost (model X.prog X.w) X.A X.xe use Qv (.ref s2.heap.objs.size) HH.objs.size) s₃:=by
  rintro s₃ rfl
  refine zex (λn s'=>∃i ys its c H',Inv (cxC X pins scope own caps HH.objs.size fp s2 H2) [(s2.heap.objs.size,{cls:=.type "list", data:=.seq its.toArray c})] (zdm own caps σ) H' s'/\Vals ys its/\tn i s'.heap/\(∀b∈fp,H' b=none)/\W i n ys H') ?_ m0
   ⟨0,[],[],0,H2,I4,.nil,st4,λb hb=>(f2 b hb).1,w0⟩
  rintro n s' ⟨i,ys,its,c,H',I',rv,st',fr',w'⟩
  obtain⟨hz,hcase⟩:=turn i n ys H' w'
  rcases hcase with⟨stop,qF⟩|⟨go,hlt,N,hN,step⟩
  ·refine thn (T.done (cxC X pins scope own caps HH.objs.size fp s2 H2) rfl rfl rfl hc i _ s' _ H' _ I' (stat fr') st' stop) λr s1 hq27=>?_
   obtain⟨hr,I1⟩:=hq27
   subst hr
   obtain⟨m1,hn1,_⟩:=I1.loc
   obtain⟨pD,nD,_⟩:=I1.pin _ (lN _ (lR.mpr rfl))
   have J1:Inv X pins σ H' s1:=I2.call' I1.os I1.base I1.hok I1.bare λb hb=>⟨(f2 b hb).2.2.2.1,(f2 b hb).2.1,(f2 b hb).2.2.2.2.1,(f2 b hb).2.2.2.2.2⟩
   have J2:Inv X pins σ (upd H' s2.heap.objs.size (.lst ys)) s1:=J1.track nD (.inr I2.sz) (laJ I2.lt) (λx c e=>lab (clX x c e)) pnD ⟨hz,its,c,rv,pD⟩
   exact fin _ _ ys H' s1 m1 J2 nD qF hn1 I1.free hDC.symm (laJ (lK I2.lt hC)) (I2.nofs hC) (lar I2.sz hC) (λx c e=>lab (lK (clX x c e) hC)) pnC
  ·refine thn (T.item (cxC X pins scope own caps HH.objs.size fp s2 H2) rfl rfl rfl hc i _ s' _ H' _ I' (stat fr') st' go) λr s1 hq28=>?_
   obtain⟨u,hr,h1⟩:=hq28
   subst hr
   refine thn h1 λ_ s2' hq29=>?_
   obtain⟨x,H5,I5,r5,y5,st5,fr5⟩:=hq29
   have I5':=I5.pinned (stat fr5) (T.obj _ _ st5)
   refine thn (CI.tgt pins _ _ _ _ _ s2' _ H5 x u _ I5' r5 (step x H5 y5)) λ_ s6 hq30=>?_
   obtain⟨σ6,H6,I6,kp6,q6⟩:=hq30
   refine thn (CI.tst pins _ _ _ _ _ s6 σ6 H6 _ I6 q6) λb s7 hq31=>?_
   obtain⟨H7,I7,q7⟩:=hq31
   have again:∀{H8:Hp}{s8:Shared}{ys':List V}{its':List Value}{c':Nat},Inv (cxC X pins scope own caps HH.objs.size fp s2 H2) ([(s2.heap.objs.size,{cls:=.type "list", data:=.seq its'.toArray c'})]++zbH fp s2'.heap) σ6 H8 s8->Vals ys' its'->N ys' H8 ->
     ∃m,m<n/\∃i ys its c H',Inv (cxC X pins scope own caps HH.objs.size fp s2 H2) [(s2.heap.objs.size,{cls:=.type "list", data:=.seq its.toArray c})] (zdm own caps σ) H' s8/\Vals ys its/\tn i s8.heap/\(∀b∈fp,H' b=none)/\W i m ys H':=by
    intro H8 s8 ys' its' c' I8 rv' n8
    obtain⟨m',hm,w8⟩:=hN ys' H8 n8
    refine⟨m',hm,i+1,ys',its',c',H8,I8.unpinned.weak kp6.1.symm kp6.2,rv',T.keep _ _ _ st5 λb hb o e=>(I8.pin (b,o) (lN _ (lN _ (vf hb e)))).1,λb hb=>?_,w8⟩
    obtain⟨o,e,d⟩:=T.obj _ _ st5 b hb
    exact(I8.pin (b,o) (lN _ (lN _ (vf hb e)))).2.1
   cases b with
   | false=>exact again I7 rv q7
   | true =>
    refine thn (CI.elm pins _ _ _ _ _ s7 σ6 H7 _ I7 q7) λyv s8 hq32=>?_
    obtain⟨y,H8,I8,r8,q8⟩:=hq32
    obtain⟨pD,nD,ncD,nfD,_⟩:=I8.pin (s2.heap.objs.size,{cls:=.type "list", data:=.seq its.toArray c}) (lN _ (lbL _ (lR.mpr rfl)))
    have hlen:=rv.length
    refine lcI PySem.F.slot_list_append ⟨_,pD,rfl⟩ PySem.F.entry_list_append (PySem.F.args_list_append_2 _ _) (PySem.list_append s2.heap.objs.size its.toArray c yv (by rw[lP];omega)) ⟨pD,?_⟩
    have ef:its.toArray.push yv=(its++[yv]).toArray:=by simp
    obtain⟨c',q⟩:∃c',(s8.heap.update s2.heap.objs.size (Obj.mapSeq λxs=>xs.push yv)).get? s2.heap.objs.size=some {cls:=.type "list", data:=.seq (its++[yv]).toArray c'}:=⟨_,by rw[← ef];exact PySem.IsL.update pD (λxs=>xs.push yv)⟩
    have keepB:∀b o,b≠s2.heap.objs.size->s8.heap.get? b=some o->(s8.heap.update s2.heap.objs.size (Obj.mapSeq λxs=>xs.push yv)).get? b=some o:=λb o hb e=>(Heap.get?_update_other s8.heap _ (lbY hb)).trans e
    have I9:Inv (cxC X pins scope own caps HH.objs.size fp s2 H2) (zbH fp s2'.heap) σ6 H8 s8:=I8.pins_of λp hp=>I8.pin p (lN _ (lN _ hp))
    have I10:Inv (cxC X pins scope own caps HH.objs.size fp s2 H2) (zbH fp s2'.heap) σ6 H8 {s8 with heap:=s8.heap.update s2.heap.objs.size (Obj.mapSeq λxs=>xs.push yv)}:=by
     refine I9.turned (t':=s8.toks) (it:=s2.heap.objs.size) keepB nD ncD (.inr (lB _)) (λx c e=>(cl x c e).elim (λe=>lab (clX x c e)) λe=>laJ (Nat.lt_of_le_of_lt hC e)) λp hp=>?_
     rcases laW.mp hp with hp|hp
     ·exact pnD p hp
     ·exact hDfp _ (zds hp).1
    refine again (its':=its++[yv]) (c':=c') (I10.pins_of λp hp=>?_) (rv.append (.cons r8 .nil)) q8
    rcases laW.mp hp with hp|hp
    ·have e:=lR.mp hp
     subst e
     exact⟨q,nD,ncD,nfD,λv z=>by cases z⟩
    ·exact I10.pin p (lN _ hp)
 exact codeAny_compStart_list (loop _ rfl) (T.self _ 0 _ _ _ st4 (loop _ rfl))
theorem ze4 (ok:CompOk X scope caps)(hc:X.calm=true)(hi:PI X tg iter wi)(CI:CompIn X scope own caps tg ifs elt g tt te)(hs:∀x,foldedSetIterable iter X.env x=pure x:=by intro _;rfl) :
  PE X (.ListComp elt [⟨tg,iter,ifs,0⟩] scope pos) (zo5 wi g tt te own caps):=by
 intro pins s σ H Q I h
 rw[eval_ListComp]
 refine zdI (use:=none) ok hc hi CI I h (λD C ys H' s1 m I1 nD q hn nC hCD hCL hCf hC0 hCc hCp=>?_) hs
 refine⟨m,hn,λh' hsb=>?_⟩
 have I2:Inv X pins σ (upd H' D (.lst ys)) {s1 with heap:=h'}:=I1.turned (t':=s1.toks) (it:=C) (λb o hb e=>hsb.extBut b o hb e) (by rw[zO hCD];exact nC) hCL (.inr hC0) hCc hCp
 exact⟨.ref D,_,I2,rfl,q D nD⟩
def zoG (j:Nat)(wi:TI)(g:TG)(tt:TT)(te:TE)(own:List Str)(caps:List Nat):TS:=λE σ H=>wi σ H λJ H1=>zaF g tt te (zdm own caps σ) (λys H'=>∀D,H' D=none->E.nx (σ.set j (some (.ref D))) (upd H' D (.lst ys))) J H1
theorem ziE {j:Nat}{py spos:Pos}(hN:X.N.Nodup)(hj:X.N[j]? = some y)(hy:X.env.scope.names.lookup y=some .local)(ok:CompOk X scope caps)(hc:X.calm=true)(hi:PI X tg iter wi)(CI:CompIn X scope own caps tg ifs elt g tt te)
  (hsw:swapsWith (.ListComp elt [⟨tg,iter,ifs,0⟩] scope pos) (some (.Name y py)) spos.line X.env=pure true) (hs:∀x,foldedSetIterable iter X.env x=pure x:=by intro _;rfl) :
  PS X (.Assign [.Name y py] (.ListComp elt [⟨tg,iter,ifs,0⟩] scope pos) spos) (zoG j wi g tt te own caps):=by
 intro pins s σ H E I h
 rw[exec_Assign_Name_used _ _ _ _ hsw]
 refine la (wpAny_standAt (la ?_))
 show wpAny _ X.A (do let _ ← comprehension (.ListComp elt [⟨tg,iter,ifs,0⟩] scope pos) scope X.env _ (newList []) false (eval iter X.env) (some (assign (.Name y py) X.env))) _ _ s
 refine la (laF (zdI (use:=some (assign (.Name y py) X.env)) (Qv:=λ_ s'=>SP X pins E .next s') ok hc hi CI I h (λD C ys H' s1 m I1 nD q hn nC hCD hCL hCf hC0 hCc hCp=>?_) hs) (λ_ s' hq=>lr (lr hq)) λ_ _ e=>e)
 obtain⟨oC,es,ep,eC,dC,rC⟩:=id hn
 have I2:Inv X (pins++[(C,oC)]) σ (upd H' D (.lst ys)) s1:=I1.pins_of λp hp=>by
  rcases laW.mp hp with hp|hp
  ·exact I1.pin p (lN _ hp)
  ·have e:=lR.mp hp
   subst e
   exact⟨eC,by rw[zO hCD];exact nC,hCL,hCf,λv z=>by rw[dC] at z;cases z⟩
 show wpAny _ X.A (assign (.Name y py) X.env (.ref D)) _ _ s1
 refine wpAny_assign_Name (za5 (v:=.ref D) I2 hN hj (.inl hy) rfl (λs2 I3=>?_) (.inr hy))
 obtain⟨e3,n3,_⟩:=I3.pin (C,oC) (lN _ (lN _ (lR.mpr rfl)))
 have I4:Inv X pins (σ.set j (some (.ref D))) (upd H' D (.lst ys)) s2:=I3.pins_of λp hp=>I3.pin p (lN _ (lbL _ hp))
 refine⟨m,⟨oC,es,ep,e3,dC,rC⟩,λh' hsb=>?_⟩
 have I5:Inv X pins (σ.set j (some (.ref D))) (upd H' D (.lst ys)) {s2 with heap:=h'}:=I4.turned (t':=s2.toks) (it:=C) (λb o hb e=>hsb.extBut b o hb e) n3 hCL (.inr hC0) hCc hCp
 exact⟨_,_,I5,q D nD⟩
end
def T (l:List Nat):Str:=⟨l.toArray⟩
theorem zac (l:List Nat):(T l).cps.toList=l:=by simp[T]
theorem zpU (x:Str):T x.cps.toList=x:=by cases x;simp[T]
theorem zaT (l:List Nat):(T l).length=l.length:=by simp[T,Str.length]
theorem znG (l m:List Nat):T l++T m=T (l++m):=by
 show Str.append (T l) (T m)=_
 simp[Str.append,T]
theorem zma {l m:List Nat}(h:T l=T m):l=m:=by
 have:=lbB (λx:Str=>x.cps.toList) h
 simpa [T] using this
theorem zlP (l m:List Nat):(T l == T m)=(l == m):=by
 rw[ldZ]
 simp only[ldD]
 exact⟨zma,lbB T⟩
theorem zb1 {l:List Nat}(h:∀c∈l,c<0x110000)(hl:l.length<=1000000):TxtOk (T l):=by
 refine⟨?_,by rw[zaT];exact hl⟩
 show(T l).cps.all (· < 0x110000)=true
 simp only[T,ldd,lZ,laA]
 exact h
theorem TxtOk.app (hx:TxtOk x)(hy:TxtOk y)(hl:x.length+y.length<=1000000):TxtOk (x++y):=by
 obtain⟨a,_⟩:=hx
 obtain⟨b,_⟩:=hy
 refine⟨?_,?_⟩
 ·have a':x.cps.all (· < 0x110000)=true:=a
  have b':y.cps.all (· < 0x110000)=true:=b
  show(x.cps++y.cps).all (· < 0x110000)=true
  rw[Array.all_append,a',b'];rfl
 ·show(x.cps++y.cps).size<=1000000
  rw[ldE];exact hl
theorem zfy (lo:Option Int)(n d:Nat)(hd:d<=n):(match lo with|none=>(d:Int)|some i=>max 0 (min (if i<0 then i+(n:Int) else i) (n:Int)))=((HT.sIx n d lo:Nat):Int):=by
 cases lo with
 | none=>rfl
 | some i =>
  show max 0 (min (if i<0 then i+(n:Int) else i) (n:Int))=(((if i<0 then(i+(n:Int)).toNat else min i.toNat n):Nat):Int)
  split <;>omega
theorem zl2 (x:Str)(lo hi:Option Int):Txt.slice x lo hi=T ((x.cps.toList.drop (HT.sIx x.length 0 lo)).take (HT.sIx x.length x.length hi - HT.sIx x.length 0 lo)):=by
 have ha:HT.sIx x.length 0 lo<=x.length:=HT.sIx_le _ _ (lbq _) lo
 have hb:HT.sIx x.length x.length hi<=x.length:=HT.sIx_le _ _ (lB _) hi
 have e:Builtin.Str.strSliceIndices lo hi 1 x.length=Builtin.Str.strSliceIndices (some ((HT.sIx x.length 0 lo:Nat):Int)) (some ((HT.sIx x.length x.length hi:Nat):Int)) 1 x.length:=by
  have h1:=zfy lo x.length 0 (lbq _)
  have h2:=zfy hi x.length x.length (lB _)
  generalize HT.sIx x.length 0 lo=a at *
  generalize HT.sIx x.length x.length hi=b at *
  have k1:max 0 (min (if (a:Int)<0 then(a:Int)+(x.length:Int) else(a:Int)) (x.length:Int))=(a:Int):=by split <;>omega
  have k2:max 0 (min (if (b:Int)<0 then(b:Int)+(x.length:Int) else(b:Int)) (x.length:Int))=(b:Int):=by split <;>omega
  unfold Builtin.Str.strSliceIndices
  simp only[show(1:Int) > 0 by decide,lbx,k1,k2]
  cases lo <;>cases hi <;>simp only at h1 h2 ⊢ <;>first|rw[h1,h2] | (rw[← h1,← h2];rfl)
 have e2:Txt.slice x lo hi=StrLaws.sliceText x (some ((HT.sIx x.length 0 lo:Nat):Int)) (some ((HT.sIx x.length x.length hi:Nat):Int)):=by
  unfold Txt.slice StrLaws.sliceText
  rw[e]
 rw[e2]
 by_cases hab:HT.sIx x.length 0 lo<=HT.sIx x.length x.length hi
 ·exact StrLaws.sliceText_nat x hab hb
 ·have hz:HT.sIx x.length x.length hi - HT.sIx x.length 0 lo=0:=by omega
  rw[hz,ld7]
  generalize HT.sIx x.length 0 lo=a at *
  generalize HT.sIx x.length x.length hi=b at *
  have k1:max 0 (min (if (a:Int)<0 then(a:Int)+(x.length:Int) else(a:Int)) (x.length:Int))=(a:Int):=by split <;>omega
  have k2:max 0 (min (if (b:Int)<0 then(b:Int)+(x.length:Int) else(b:Int)) (x.length:Int))=(b:Int):=by split <;>omega
  have e3:Builtin.Str.strSliceIndices (some (a:Int)) (some (b:Int)) 1 x.length=[]:=by
   unfold Builtin.Str.strSliceIndices sliceRange
   simp only[show(1:Int) > 0 by decide,lbx,k1,k2]
   have:¬((b:Int) > (a:Int)):=by omega
   simp[this]
   try omega
  unfold StrLaws.sliceText
  rw[e3]
  simp only[laO,List.filterMap_nil]
  split
  ·rename_i h
   have hn:x.length=0:=by
    simp at h
    omega
   omega
  ·rfl
section
variable {X:Cx}{e:Expr}{te:TE}{pos p2:Pos}
def zp2:V->Option Int->Option Int->Hp->VK->Prop:=λx lo hi H Q=>∃z,x=.str z/\z.length<=sizeLine/\Q (.str (T ((z.cps.toList.drop (HT.sIx z.length 0 lo)).take (HT.sIx z.length z.length hi - HT.sIx z.length 0 lo)))) H
theorem part_of {v:Value}{o:Option Int}(p:IsPart v o):∃q:Option (Int×Tok),v=partValue q/\q.map (·.1)=o:=by
 cases p with
 | none=>exact⟨none,rfl,rfl⟩
 | int i t=>exact⟨some (i,t),rfl,rfl⟩
theorem znp:SlR X zp2:=by
 intro pins s σ H x v vl vu lo hi sl Q I rx hs pl pu h
 obtain⟨z,rfl,hz,q⟩:=h
 obtain⟨t,rfl⟩:=rx
 obtain⟨l,rfl,rfl⟩:=part_of pl
 obtain⟨u,rfl,rfl⟩:=part_of pu
 refine⟨"str", _,PySem.F.slot_str_getitem.lookup,typeIs_str _ _ _,?_⟩
 refine wpAny_getItem_str_slice (l:=l) (u:=u) (st:=none) hs rfl ?_
 refine post_val_or_str (y:=z) ?_
 have e:=zl2 z (l.map (·.1)) (u.map (·.1))
 unfold Txt.slice at e
 refine⟨lar (Txt.slice_le z (l.map (·.1)) (u.map (·.1))) hz,λt' k=>⟨.str _,H,I.tok _,⟨t',?_⟩,q⟩⟩
 exact lbB (λy=>Value.str y t') e
def Its (x:Str):It:=⟨λi _=>i<x.cps.size,λi H v H'=>H'=H/\∃c,x.cps.toList[i]? = some c/\v=.str (T [c]),λi _=>x.cps.size<=i⟩
theorem zge {K:qQ0}{tg:Expr}{t:Tok}{ty:String}(it:Addr)(W:∀A':Around,A'.handled=none->Walks P w A' it [it] [it] x.cps.size (SignAt x) (λi h=>h.IsStrIter it ty x t i))
  (hn:["enumerate", "zip", "dict_itemiterator", "dict_reverseitemiterator", "odict_iterator", "itertools.zip_longest", "itertools.pairwise"].contains ty=false)
  (hend:∀(A:Around) (i:Nat) (s:Shared) (Q:Option Value->Shared->Prop) (E:qQ2),A.handled=none->s.heap.IsStrIter it ty x t i->x.cps[i]? = none->(∀h',Heap.ExtBut it s.heap h'->Q none {s with heap:=h'})->wpAny (model P w) A (pyNext (.ref it)) Q E s)
  (hself:∀(A:Around) (i:Nat) (s:Shared) (Q:qQ2) (E:qQ2),s.heap.IsStrIter it ty x t i->Q (.ref it) s->wpAny (model P w) A (pyIter (.ref it)) Q E s) :
  Turn P w K tg (Its x) [it] it (λi h=>h.IsStrIter it ty x t i) where
 mem:=by simp
 obj:=λi h st b hb=>by
  have e:b=it:=by simpa using hb
  subst e
  obtain⟨o,e,c,d⟩:=st
  exact⟨o,e,λv z=>by rw[d] at z;cases z⟩
 keep:=λi h h' st k=>by obtain⟨o,e,r⟩:=st;exact⟨o,k it (by simp) o e,r⟩
 item:=by
  intro X hP hw hK hc i pins s σ H E I hf st hg
  subst hP hw hK
  obtain⟨f0,f1,f2,f3,f4,f5⟩:=hf it (by simp)
  refine(W X.A (I.ok.hd hc)).item i s _ _ hg st λv h' tk hv st' kk=>?_
  obtain⟨c,u,hcc,rfl⟩:=hv
  have I1:Inv X pins σ H {s with heap:=h',toks:=tk}:=I.turned (λb o hb e=>kk b o (by simpa using hb) e) f0 f1 f3 f4 f5
  obtain⟨o,e,c1,d1⟩:=id st'
  exact⟨_,rfl,zjQ (s:={s with heap:=h',toks:=tk}) e c1 d1 hn ⟨.str (T [c]),H,I1,⟨u,rfl⟩,⟨rfl,c,by simpa using hcc,rfl⟩,st',λb hb=>(hf b hb).1⟩⟩
 done:=by
  intro X hP hw hK hc i pins s σ H E I hf st hg
  subst hP hw hK
  obtain⟨f0,f1,f2,f3,f4,f5⟩:=hf it (by simp)
  have hge:x.cps.size<=i:=hg
  exact hend X.A i s _ _ (I.ok.hd hc) st (lcV hge) λh' eb=>⟨rfl,I.turned (t':=s.toks) (λb o hb e=>eb b o hb e) f0 f1 f3 f4 f5⟩
 self:=λA i s Q E st h=>hself A i s Q E st h
def zp7 (tl:TE):TI:=λσ H R=>tl σ H λv H1=>∃x,v=.str x/\R (Its x) H1
theorem zm0 {tg l:Expr}{tl:TE}(hl:PE X l tl):PI X tg l (zp7 tl):=by
 intro pins s σ H R I h
 refine thn (hl pins s σ H _ I h) λv s1 hq33=>?_
 obtain⟨y,H1,I1,r1,q1⟩:=hq33
 obtain⟨x,e,q⟩:=q1
 subst e
 obtain⟨t,rfl⟩:=r1
 have fin:∀(ty:String) (T':Turn X.prog X.w X.K tg (Its x) [s1.heap.objs.size] s1.heap.objs.size (λi h=>h.IsStrIter s1.heap.objs.size ty x t i)),
   PIE X pins σ tg R (.ref s1.heap.objs.size) {s1 with heap:=s1.heap.push {cls:=.type ty,data:=.fields #[.str x t,.int 0 0]} }:=λty T' =>
  ⟨s1.heap.objs.size,[s1.heap.objs.size],_,_,H1,rfl,I1.kept (t':=s1.toks) λb o e=>lg _ e,T',⟨_,lC _ rfl,rfl,rfl⟩,λb hb=>by
   have e:b=s1.heap.objs.size:=by simpa using hb
   subst e
   exact I1.fpOk (lB _) (I1.hok.fresh (lB _)),q⟩
 cases ha:x.cps.all (· < 128)
 ·exact wpAny_pyIter_wide ha (fin _ (zge _ (λA' hA=>Walks.strWide hA _ x t) (by decide) (λA i s Q E hh st hx hQ=>wpAny_pyNext_wide_end hh st hx hQ) λA i s Q E st hq=>wpAny_pyIter_striter_wide st hq))
 ·exact wpAny_pyIter_ascii ha (fin _ (zge _ (λA' hA=>Walks.strAscii hA _ x t) (by decide) (λA i s Q E hh st hx hQ=>wpAny_pyNext_ascii_end hh st hx hQ) λA i s Q E st hq=>wpAny_pyIter_striter_ascii st hq))
end
def Wlk (J:It)(G:Hp->Prop)(xs:List V):Prop:=∀H,G H->(∀i,i<xs.length->J.go i H/\∀x H',J.yld i H x H'->H'=H/\xs[i]? = some x)/\J.stop xs.length H
theorem zjd {K:qQ0}:Wlk (Itl K a) (λH=>SqL K H a xs) xs:=λH q =>
 ⟨λi hi=>⟨⟨xs,xs[i],q,by simp[hi]⟩,λx H' y=>⟨y.1,y.2 xs q⟩⟩,⟨xs,q,lB _⟩⟩
theorem zlY {K:qQ0}:Wlk (Itt K a) (λH=>SqT K H a xs) xs:=λH q =>
 ⟨λi hi=>⟨⟨xs,xs[i],q,by simp[hi]⟩,λx H' y=>⟨y.1,y.2 xs q⟩⟩,⟨xs,q,lB _⟩⟩
theorem zd9 {lo:Int}:Wlk (Itr lo n) G ((List.range n).map λ(k:Nat)=>V.int (lo+(k:Int))):=λH _=>by
 refine⟨λi hi=>⟨by show i<n;simpa using hi,λx H' y=>⟨y.1,?_⟩⟩,?_⟩
 ·have hi':i<n:=by simpa using hi
  rw[y.2];simp[hi']
 ·show n<=_;simp
theorem zlH :Wlk (Its x) G (x.cps.toList.map λc=>V.str (T [c])):=λH _=>by
 refine⟨λi hi=>⟨by show i<x.cps.size;simpa using hi,λv H' y=>⟨y.1,?_⟩⟩,?_⟩
 ·obtain⟨_,c,hc,rfl⟩:=y
  rw[lJ,hc];rfl
 ·show x.cps.size<=_;simp
theorem zmp {J:It}(W:Wlk J G xs){tb:TS}{D:Ends}(Pv:Nat->St->Hp->Prop)(h0:Pv 0 σ H)(hG:∀i σ H,i<=xs.length->Pv i σ H->G H)
  (hs:∀i x σ H,xs[i]? = some x->Pv i σ H->g x σ H λσ2 H2=>tb {D with nx:=Pv (i+1),ct:=Pv (i+1),bk:=D.nx} σ2 H2) (hd:∀σ H,Pv xs.length σ H->D.nx σ H) :
  ∃ W:Nat->Nat->St->Hp->Prop,(∃m,W 0 m σ H)/\∀i m σ H,W i m σ H ->
   (J.stop i H/\D.nx σ H)∨(J.go i H/\∃N:St->Hp->Prop,(∀σ' H',N σ' H'->∃m',m'<m/\W (i+1) m' σ' H')/\∀x H',J.yld i H x H'->g x σ H' λσ2 H2=>tb {D with nx:=N,ct:=N,bk:=D.nx} σ2 H2):=by
 refine⟨λi m σ H=>m=xs.length - i/\i<=xs.length/\Pv i σ H,⟨xs.length,by simp,lbq _,h0⟩,?_⟩
 rintro i m σ H ⟨rfl,hi,p⟩
 obtain⟨w1,w2⟩:=W H (hG i σ H hi p)
 by_cases hlt:i<xs.length
 ·obtain⟨g1,g2⟩:=w1 i hlt
  refine .inr ⟨g1,Pv (i+1),λσ' H' p'=>⟨xs.length - (i+1),by omega,rfl,hlt,p'⟩,λx H' y=>?_⟩
  obtain⟨e,hx⟩:=g2 x H' y
  subst e
  exact hs i x σ _ hx p
 ·have e:i=xs.length:=by omega
  subst e
  exact .inl ⟨w2,hd σ H p⟩
theorem zdw {J:It}(W:Wlk J G xs)(hz:xs.length<=sizeLine){tt:TT}{te:TE}{σ0:St}{H1:Hp}(Pv:Nat->List V->Hp->Prop)(h0:Pv 0 [] H1)(hG:∀i ys H,i<=xs.length->Pv i ys H->G H/\ys.length<=i)
  (hs:∀i x ys H,xs[i]? = some x->Pv i ys H->g x σ0 H λσ2 H2=>Kps σ0 σ2/\tt σ2 H2 λb H3=>if b=true then te σ2 H3 λy H4=>Pv (i+1) (ys++[y]) H4 else Pv (i+1) ys H3) (hd:∀ys H,Pv xs.length ys H->F ys H) :
  zaF g tt te σ0 F J H1:=by
 refine⟨λi m ys H=>m=xs.length - i/\i<=xs.length/\Pv i ys H,⟨xs.length,by simp,lbq _,h0⟩,?_⟩
 rintro i m ys H ⟨rfl,hi,p⟩
 obtain⟨gH,hl⟩:=hG i ys H hi p
 refine⟨by omega,?_⟩
 obtain⟨w1,w2⟩:=W H gH
 by_cases hlt:i<xs.length
 ·obtain⟨g1,g2⟩:=w1 i hlt
  refine .inr ⟨g1,by omega,Pv (i+1),λys' H' p'=>⟨xs.length - (i+1),by omega,rfl,hlt,p'⟩,λx H' y=>?_⟩
  obtain⟨e,hx⟩:=g2 x H' y
  subst e
  exact hs i x ys _ hx p
 ·have e:i=xs.length:=by omega
  subst e
  exact .inl ⟨w2,hd ys H p⟩
theorem Kps.set (h:σ[i]? = some none):Kps σ (σ.set i (some v)):=by
 refine⟨by simp,λj u e=>?_⟩
 by_cases hj:i=j
 ·subst hj;rw[h] at e;cases e
 ·rw[lap hj];exact e
theorem Kps.trans {a b c:St}(h:Kps a b)(k:Kps b c):Kps a c:=⟨k.1.trans h.1,λi v e=>k.2 i v (h.2 i v e)⟩
section
variable {X:Cx}
theorem old_ne {s:Shared}{b:Addr}{o:Obj}(e:s.heap.get? b=some o):b∉[s.heap.objs.size]:=λz=>by
 have e':b=s.heap.objs.size:=by simpa using z
 subst e'
 exact absurd (lE e) (lce _)
theorem zeM:∀{bs:List Bool}{us:List Value},Vals (bs.map V.bl) us->us=bs.map Value.bool
 | [],_,r=>by cases r;rfl
 | b::bs,_,r=>by
  cases r with
  | cons r t=>cases r;rw[zeM t];rfl
theorem range_all {α:Type}(l:List α)(d:α)(p:α->Bool):(List.range l.length).all (λi=>p (l.getD i d))=l.all p:=by
 have:(List.range l.length).map (λi=>l.getD i d)=l:=range_getD l d
 conv=>rhs;rw[← this]
 rw[lb2];rfl
theorem range_any {α:Type}(l:List α)(d:α)(p:α->Bool):(List.range l.length).any (λi=>p (l.getD i d))=l.any p:=by
 have:(List.range l.length).map (λi=>l.getD i d)=l:=range_getD l d
 conv=>rhs;rw[← this]
 rw[ld0];rfl
theorem zbq {prog:Program}{A:Around}(bs:List Bool):TruthOf prog w A (λi v=>(bs.map Value.bool).toArray[i]? = some v) (λi=>bs.getD i false):=by
 intro i v s Q E hP hQ
 have e:(bs.map Value.bool)[i]? = some v:=by simpa using hP
 rw[lJ] at e
 cases hb:bs[i]? with
 | none=>rw[hb] at e;cases e
 | some b =>
  rw[hb] at e
  have e':v=Value.bool b:=(lq e).symm
  subst e'
  have:bs.getD i false=b:=by rw[ly,hb];rfl
  have hQ':Q (bs.getD i false) s:=hQ
  rw[this] at hQ'
  exact laN hQ'
theorem zdc (hc:X.calm=true):qP X (.builtin "all") (λxs H Q=>∃(a:Addr) (bs:List Bool),xs=[.ref a]/\SqL X.K H a (bs.map V.bl)/\Q (.bl (bs.all id)) H):=by
 intro pins s σ H xs us Q I r h
 obtain⟨a,bs,rfl,ha,q⟩:=h
 obtain⟨u,rfl,ru⟩:=vals1 r
 cases ru
 obtain⟨its,rv,pl,hz⟩:=I.list ha
 obtain rfl:=zeM rv
 refine call_all_walk (lca pl.isList ?_)
 have hlt:a<s.heap.objs.size:=by obtain⟨_,_,e,_⟩:=pl;exact lE e
 refine⟨_,_,_,_,_,_,λi=>bs.getD i false,rfl,Walks.list (show X.A.in1.handled=none from I.ok.hd hc) s.heap.objs.size a (lab hlt) _,⟨⟨_,lC _ rfl,rfl,rfl⟩,pl.isList.push _⟩,zbq bs,λh' tk hk=>?_⟩
 refine⟨.bl _,H,I.kept (h':=h') (t':=tk) λb o e=>hk b o (old_ne e) (lg _ e),rfl,?_⟩
 have:(List.range ((bs.map Value.bool).toArray).size).all (λi=>bs.getD i false)=bs.all id:=by
  rw[show((bs.map Value.bool).toArray).size=bs.length by simp]
  exact range_all bs false id
 rw[this]
 exact q
theorem zgg (hc:X.calm=true):qP X (.builtin "any") (λxs H Q=>∃(a:Addr) (bs:List Bool),xs=[.ref a]/\SqL X.K H a (bs.map V.bl)/\Q (.bl (bs.any id)) H):=by
 intro pins s σ H xs us Q I r h
 obtain⟨a,bs,rfl,ha,q⟩:=h
 obtain⟨u,rfl,ru⟩:=vals1 r
 cases ru
 obtain⟨its,rv,pl,hz⟩:=I.list ha
 obtain rfl:=zeM rv
 refine call_any_walk (lca pl.isList ?_)
 have hlt:a<s.heap.objs.size:=by obtain⟨_,_,e,_⟩:=pl;exact lE e
 refine⟨_,_,_,_,_,_,λi=>bs.getD i false,rfl,Walks.list (show X.A.in1.handled=none from I.ok.hd hc) s.heap.objs.size a (lab hlt) _,⟨⟨_,lC _ rfl,rfl,rfl⟩,pl.isList.push _⟩,zbq bs,λh' tk hk=>?_⟩
 refine⟨.bl _,H,I.kept (h':=h') (t':=tk) λb o e=>hk b o (old_ne e) (lg _ e),rfl,?_⟩
 have:(List.range ((bs.map Value.bool).toArray).size).any (λi=>bs.getD i false)=bs.any id:=by
  rw[show((bs.map Value.bool).toArray).size=bs.length by simp]
  exact range_any bs false id
 rw[this]
 exact q
theorem jQ:∀{ss:List Str}{us:List Value},Vals (ss.map V.str) us->StrsAre us ss
 | [],_,r=>by cases r;exact .nil
 | x::ss,_,r=>by
  cases r with
  | cons r t=>obtain⟨u,rfl⟩:=r;exact .cons _ _ (jQ t)
theorem zll (ls:qQ1):Txt.join (T []) (ls.map T)=T ls.flatten:=by
 have key:∀(ls:qQ1) (acc:Array Nat),(ls.map T).foldl (λacc p=>acc++(T []).cps++p.cps) acc=acc++ls.flatten.toArray:=by
  intro ls
  induction ls with
  | nil=>intro acc;simp
  | cons l r ih =>
   intro acc
   rw[lF,la6,ih]
   simp[T]
 show(⟨((ls.map T).drop 1).foldl (λacc p=>acc++(T []).cps++p.cps) ((ls.map T).headD Str.empty).cps⟩:Str)=_
 cases ls with
 | nil=>rfl
 | cons l r =>
  simp only[lF,List.drop_succ_cons,lc3,List.headD_cons]
  rw[key]
  simp[T]
def rJoin (K:qQ0):V->List V->Hp->VK->Prop:=λx vs H Q=>∃(a:Addr) (ls:qQ1),x=.str (T [])/\vs=[.ref a]/\SqL K H a (ls.map λl=>V.str (T l))/\ls.flatten.length<=1000000/\Q (.str (T ls.flatten)) H
theorem zld:MtR X "str.join" (rJoin X.K):=by
 intro pins s σ H x xs v us Q I rx rs h
 obtain⟨a,ls,rfl,rfl,ha,hz,q⟩:=h
 obtain⟨t,rfl⟩:=rx
 obtain⟨u,rfl,ru⟩:=vals1 rs
 cases ru
 obtain⟨its,rv,pl,hsz⟩:=I.list ha
 have rv':Vals ((ls.map T).map V.str) its:=by rw[laK];exact rv
 have hlen:((ls.map T).map (·.length)).sum=ls.flatten.length:=by
  rw[laK,List.length_flatten]
  exact lbB List.sum (lcG λl _=>zaT l)
 refine join_list pl.isList (by simpa using jQ rv') ?_ λt' k=>?_
 ·rw[hlen,zaT]
  simp only[laO,Nat.mul_zero,Nat.add_zero]
  exact lar hz (by decide)
 ·rw[zll]
  exact⟨.str _,H,I.tok _,⟨_,rfl⟩,q⟩
theorem zjo (l m:List Nat):Txt.startswith (T l) (T m)=m.isPrefixOf l:=by
 unfold Txt.startswith
 rw[StrLaws.subAt_eq,zac,zac,zaT,zaT,lc3,la7]
 rw[ldZ,lM]
 simp only[laA,ldD]
 rw[lW]
 constructor
 ·rintro⟨h1,h2⟩
  rw[← h2];exact lcz _ _
 ·intro h
  exact⟨h.length_le,(lcP.mp h).symm⟩
def zk3:V->List V->Hp->VK->Prop:=λx vs H Q=>∃l m,x=.str (T l)/\vs=[.str (T m)]/\Q (.bl (m.isPrefixOf l)) H
theorem ziQ:MtR X "str.startswith" zk3:=by
 intro pins s σ H x xs v us Q I rx rs h
 obtain⟨l,m,rfl,rfl,q⟩:=h
 obtain⟨t,rfl⟩:=rx
 obtain⟨u,rfl,ru⟩:=vals1 rs
 obtain⟨t',rfl⟩:=ru
 refine SC.startswith ?_
 rw[zjo]
 exact⟨.bl _,H,I,rfl,q⟩
def zpE:R2:=λx y H Q=>∃c l,x=.str (T [c])/\y=.str (T l)/\Q (.bl (decide (c∈l))) H
theorem zmZ:OpR X (compareOp .In) zpE:=by
 intro pins s σ H x y v u Q I rx ry h
 obtain⟨c,l,rfl,rfl,q⟩:=h
 obtain⟨t,rfl⟩:=rx
 obtain⟨t',rfl⟩:=ry
 refine in_str (zf3 I q ?_)
 have e:=StrLaws.found_one (T l) c
 rw[zac] at e
 exact e.symm
theorem zb0:OpR X (binaryOp .Add) (λx y H Q=>∃l m,x=.str (T l)/\y=.str (T m)/\l.length+m.length<=1000000/\Q (.str (T (l++m))) H):=by
 intro pins s σ H x y v u Q I rx ry h
 obtain⟨l,m,rfl,rfl,hz,q⟩:=h
 refine zgH pins s σ H _ _ v u Q I rx ry ⟨_,_,rfl,rfl,?_,?_⟩
 ·rw[zaT,zaT]
  first|omega|exact lar hz (by decide)
 ·rw[znG];exact q
def Sm (i:Int):Prop:=i.natAbs<2 ^ 4000
theorem Sm.log {i:Int}(h:Sm i):i.natAbs.log2<4000:=by
 by_cases h0:i.natAbs=0
 ·rw[h0];decide +kernel
 ·exact(Nat.log2_lt h0).mpr h
theorem zaz:OpR X (binaryOp .Mult) (rI (λi j=>Sm i/\Sm j) λi j=>.int (i*j)):=opI λi j _ _ _ _ _ hc q=>mul_int q (by
 obtain⟨h1,h2⟩:=hc
 have a:=h1.log
 have b:=h2.log
 unfold IntMulOk
 intro z
 rw[lM] at z
 have z2:Builtin.Int.intTooBig ((Builtin.Int.intBits i:Int)+(Builtin.Int.intBits j:Int))=true:=by first|exact z.2|exact_mod_cast z.2
 unfold Builtin.Int.intTooBig at z2
 have e1:Builtin.Int.intBits i<=4001:=by unfold Builtin.Int.intBits;split <;>omega
 have e2:Builtin.Int.intBits j<=4001:=by unfold Builtin.Int.intBits;split <;>omega
 have hb:((bitsLine:Nat):Int)≥10000:=by decide
 have:=lbN z2
 omega)
theorem j5:OpR X (binaryOp .FloorDiv) (rI (λ_ j=>0<j/\Sm j) λi j=>.int (i / j)):=opI λi j _ _ _ _ _ hc q=>by
 obtain⟨h1,h2⟩:=hc
 refine floordiv_int (by omega) ?_ (.inl (PyProof.noPylong_of_log2 (by have:=h2.log;omega)))
 rw[Int.fdiv_eq_ediv_of_nonneg i (by omega)]
 exact q
theorem Same.upd {H:Hp}{p:Addr}{o:HO}(h:H p=none):Same H (upd H p o):=λb u e=>by rw[zO (yw e h)];exact e
theorem vQ {a b:Nat}(h:a<b∨b<a):(a:Addr)≠(b:Addr):=by
 rcases h with h|h
 ·exact lab h
 ·exact laJ h
end
def tyN:PyData->String
 | .none => "NoneType" | .bool _ => "bool" | .int _ => "int" | .str _ => "str" | .list _ => "list" | .tuple _ => "tuple" | .dict _ => "dict"
theorem zlV {K:qQ0}(d:PyData):PySem.W.kitOne K (.type (tyN d)) (.type "int")=some (match d with | .int _=>true | .bool _=>true|_=>false):=by cases d <;>rfl
theorem zjH {K:qQ0}(d:PyData):PySem.W.kitOne K (.type (tyN d)) (.type "bool")=some (match d with | .bool _=>true|_=>false):=by cases d <;>rfl
theorem zkX {K:qQ0}(d:PyData):PySem.W.kitOne K (.type (tyN d)) (.type "str")=some (match d with | .str _=>true|_=>false):=by cases d <;>rfl
theorem kit_tuple {K:qQ0}(d:PyData):PySem.W.kitOne K (.type (tyN d)) (.type "tuple")=some (match d with | .tuple _=>true|_=>false):=by cases d <;>rfl
section
variable {X:Cx}
theorem zeH:qP X (.builtin "isinstance") (λxs H Q=>∃x d n b,xs=[x,.ty n]/\Is X.K H x d/\PySem.W.kitOne X.K (.type (tyN d)) (.type n)=some b/\Q (.bl b) H):=by
 intro pins s σ H xs us Q I r h
 obtain⟨x,d,n,b,rfl,is,e,q⟩:=h
 obtain⟨u,u2,rfl,ru,r2⟩:=vals2 r
 cases r2
 have fin:∀tk,EP X pins σ Q (.bool b) {s with toks:=tk}:=λtk=>⟨.bl b,H,I.tok _,rfl,q⟩
 cases is with
 | non=>cases (show u=Value.none from ru);exact lbS PySem.W.kitx_none I.kIn True.intro e (λz=>nomatch z) fin
 | bl y=>cases (show u=Value.bool y from ru);exact lbS PySem.W.kitx_bool I.kIn True.intro e (λz=>nomatch z) fin
 | int i=>obtain⟨t,q'⟩:=(show ∃t,u=Value.int i t from ru);cases q';exact lbS PySem.W.kitx_int I.kIn True.intro e (λz=>nomatch z) fin
 | str y=>obtain⟨t,q'⟩:=(show ∃t,u=Value.str y t from ru);cases q';exact lbS PySem.W.kitx_str I.kIn True.intro e (λz=>nomatch z) fin
 | @lst a xs ds q1 q2 =>
  cases (show u=Value.ref a from ru)
  obtain⟨its,_,⟨o,n',e1,hc,_⟩,_⟩:=I.list q1
  exact lbS PySem.W.kitx_list I.kIn ⟨o,e1,hc⟩ e (λz=>nomatch z) fin
 | @tup a xs ds q1 q2 =>
  cases (show u=Value.ref a from ru)
  obtain⟨its,_,⟨o,e1,hc,_⟩,_⟩:=I.tuple q1
  exact lbS PySem.W.kitx_tuple I.kIn ⟨o,e1,hc⟩ e (λz=>nomatch z) fin
end
def zib (fs:Scope)(N:List Str)(scope:Scope)(caps:List Nat):Bool :=
 (scope.kind == .function)&&(scope.names.all λy=>y.2 != .cell || scope.names.lookup y.1 == some .cell)&&(scope.names.all λy=>y.2 != .local || scope.names.lookup y.1 == some .local) &&
 (scope.names.all λy=>y.2 != .free || fs.names.lookup y.1 == some .cell || fs.names.lookup y.1 == some .free) &&
 (caps.all λi=>match N[i]? with|some y=>scope.names.lookup y == some .free|none=>false)
theorem yt {X:Cx}{fs:Scope}{N:List Str}{caps:List Nat}(hs:X.env.scope=fs)(hN:X.N=N)(h:zib fs N scope caps=true):CompOk X scope caps:=by
 unfold zib at h
 simp only[lM,lZ] at h
 obtain⟨⟨⟨⟨h1,h2⟩,h3⟩,h4⟩,h5⟩:=h
 refine⟨by simpa using h1,λy hy e=>?_,λy hy e=>?_,λy hy e=>?_,λi hi=>?_⟩
 ·have:=h2 y hy
  rw[e] at this
  simpa using this
 ·have:=h3 y hy
  rw[e] at this
  simpa using this
 ·have:=h4 y hy
  rw[e] at this
  unfold Env.kindOf
  rw[hs]
  simpa using this
 ·have:=h5 i hi
  rw[hN]
  cases e:N[i]? with
  | none=>rw[e] at this;simp at this
  | some y=>rw[e] at this;exact⟨y,rfl,by simpa using this⟩
theorem uK {X:Cx}{N:List Str}(h:X.N=N)(n:N.Nodup):X.N.Nodup:=h▸n
structure Dn (K:qQ0)(mg:qQ3)(x:Str)(st:Stmt)(ps:List Str) where
 f:Addr
 fd:FuncData
 fn:Fun K x x st f fd
 mg:mg x=some (.ref f)
 bd:Binds K fd ps []
section
variable {X:Cx}{pins:List (Addr×Obj)}{σ:St}{H:Hp}{s:Shared}{h':Heap}
theorem Inv.turnedL {t':Nat}(I:Inv X pins σ H s)(k:∀b o,b∉fp->s.heap.get? b=some o->h'.get? b=some o)(hf:∀b∈fp,zax X pins H b):Inv X pins σ H {s with heap:=h',toks:=t'}:=by
 have nit:∀b u,H b=some u->b∉fp:=λb u e z=>by rw[(hf b z).1] at e;cases e
 have nl:X.env.locals∉fp:=λz=>(hf _ z).2.1 rfl
 refine I.step (g':=s.gens) (d':=s.drawn) (ch:=fp) (λb hb=>?_) (λb o _ _ hc e _=>k b o hc e) (λb o _ _ hc e _=>⟨o.slots,k b o hc e⟩) (λ_ _ _ _ n=>n)
  (λb o hc e=>⟨o,k b o hc e⟩) (λ_ _ e=>e) (λ_ _ _ e=>e) (λb ps e=>⟨#[],by rw[e];simp⟩) (λm hm=>?_) (λb u e=>?_) I.bare
 ·obtain⟨_,f1,_,f3,f4,f5⟩:=hf b hb
  exact⟨f3,f1,f4,f5⟩
 ·obtain⟨o,es,ep,ho,r⟩:=hm
  exact⟨o,es,ep,k _ o nl ho,r⟩
 ·refine(I.hok b u e).stay (λc v hc q=>k c v ?_ q) (λ_ q=>q) λ_ _ q=>q
  rcases hc with z|z
  ·rw[z];exact nit b u e
  ·exact nit c _ z
end
theorem zkl (n:Nat):Zp.Apart (n+4:Nat) (n+2:Nat) (n+3:Nat) n (n+1:Nat) :=
 ⟨vQ (by omega),vQ (by omega),vQ (by omega),vQ (by omega),vQ (by omega),vQ (by omega),vQ (by omega),vQ (by omega),vQ (by omega),vQ (by omega)⟩
def fpZ (n:Nat):List Addr:=[(n+4:Nat),(n+2:Nat),(n+3:Nat),n,(n+1:Nat)]
section
variable {prog:Program}{w:World}{A:Around}
theorem zgQ {it t:Addr}{x:Value}(hne:t≠it)(hx:items[i]? = some x) :
  Zp.Yields prog w A it (λh=>h.IsListIter it t i/\h.IsList t items) (λv=>v=x) (λh=>h.IsListIter it t (i+1)/\h.IsList t items) :=
 λs Q E g hQ=>Zp.nextOf_list_item g.1 g.2 hx λh' st sb=>hQ _ h' s.toks rfl ⟨st,g.2.extBut sb.extBut hne⟩ sb
theorem zji {it t:Addr}(hh:A.handled=none)(hx:items[i]? = none) :
  Zp.Ends prog w A it (λh=>h.IsListIter it t i/\h.IsList t items) :=
 λs Q E g hE=>Zp.nextOf_list_end hh g.1 g.2 hx hE
end
def Kp (it n:Nat)(h h':Heap):Prop:=∀(c:Addr) o,(c=it∨(c:Nat)<n)->h.get? c=some o->h'.get? c=some o
structure ZS (P:Program)(w:World)(K:qQ0)(xs:List V)(G:Hp->Prop)(n it:Nat)(S:Nat->Heap->Prop):Prop where
 obj:∀i h,S i h->∃o,h.get? (it:Addr)=some o/\∀v,o.data≠.cell v
 keep:∀i h h',S i h->(∀o,h.get? (it:Addr)=some o->h'.get? (it:Addr)=some o)->S i h'
 yld:∀(X:Cx),X.prog=P->X.w=w->X.K=K->∀(pins:List (Addr×Obj)) (s:Shared) (σ:St) (H:Hp) (i:Nat) (x:V),Inv X pins σ H s->G H->xs[i]? = some x->S i s.heap->∃G1 S1:Heap->Prop,
  (∀A,Zp.Yields P w A (it:Addr) G1 (RelV x) S1)/\(∀h',Kp it n s.heap h'->G1 h')/\(∀h h',S1 h->Kp it n h h'->S1 h')/\∀h,S1 h->S (i+1) h
 ends:∀(X:Cx),X.prog=P->X.w=w->X.K=K->∀(pins:List (Addr×Obj)) (s:Shared) (σ:St) (H:Hp) (i:Nat),Inv X pins σ H s->G H->xs.length<=i->S i s.heap->∃G1:Heap->Prop,
  (∀A:Around,A.handled=none->Zp.Ends P w A (it:Addr) G1)/\∀h',Kp it n s.heap h'->G1 h'
theorem znZ {K:qQ0}{l:Nat}(hl:l<n)(hi:n<=it):ZS P w K xs (λH=>SqT K H l xs) n it (λi h=>h.IsTupleIter it l i) where
 obj:=λi h ⟨o,e,c,d⟩=>⟨o,e,λv z=>by rw[d] at z;cases z⟩
 keep:=λi h h' z kk=>z.at kk
 yld:=by
  intro X hP hw hK pins s σ H i x I g hx st
  subst hP hw hK
  obtain⟨its,rv,pl,_⟩:=I.tuple g
  obtain⟨u,hu,ru⟩:=rv.get hx
  have p1:s.heap.IsTuple l its.toArray:=pl
  have ne:(l:Addr)≠(it:Addr):=vQ (.inl (by omega))
  refine⟨λh=>h.IsTupleIter it l i/\h.IsTuple l its.toArray,λh=>h.IsTupleIter it l (i+1)/\h.IsTuple l its.toArray,λA s Q E g hQ=>Zp.yields_tuple (items:=its.toArray) (i:=i) (x:=u) ne (by simpa using hu) s Q E g λv h' tk e=>hQ v h' tk (e▸ru),λh' kk=>⟨?_,?_⟩,λh h' ⟨a,b⟩ kk=>⟨a.at λo e=>kk _ _ (.inl rfl) e,?_⟩,λh z=>z.1⟩
  ·exact st.at λo e=>kk _ _ (.inl rfl) e
  ·obtain⟨o,e,r⟩:=p1;exact⟨o,kk _ _ (.inr hl) e,r⟩
  ·obtain⟨o,e,r⟩:=b;exact⟨o,kk _ _ (.inr hl) e,r⟩
 ends:=by
  intro X hP hw hK pins s σ H i I g hx st
  subst hP hw hK
  obtain⟨its,rv,pl,_⟩:=I.tuple g
  have p1:s.heap.IsTuple l its.toArray:=pl
  have len:=rv.length
  refine⟨_,λA hh=>Zp.ends_tuple (t:=l) (i:=i) (items:=its.toArray) hh (by simpa using (show its.length<=i by omega)),λh' kk=>⟨st.at λo e=>kk _ _ (.inl rfl) e,?_⟩⟩
  obtain⟨o,e,r⟩:=p1;exact⟨o,kk _ _ (.inr hl) e,r⟩
theorem zmV {K:qQ0}{l:Nat}(hl:l<n)(hi:n<=it):ZS P w K xs (λH=>SqL K H l xs) n it (λi h=>h.IsListIter it l i) where
 obj:=λi h ⟨o,e,c,d⟩=>⟨o,e,λv z=>by rw[d] at z;cases z⟩
 keep:=λi h h' z kk=>z.at kk
 yld:=by
  intro X hP hw hK pins s σ H i x I g hx st
  subst hP hw hK
  obtain⟨its,rv,pl,_⟩:=I.list g
  obtain⟨u,hu,ru⟩:=rv.get hx
  have p1:s.heap.IsList l its.toArray:=pl.isList
  have ne:(l:Addr)≠(it:Addr):=vQ (.inl (by omega))
  refine⟨λh=>h.IsListIter it l i/\h.IsList l its.toArray,λh=>h.IsListIter it l (i+1)/\h.IsList l its.toArray,λA s Q E g hQ=>zgQ (items:=its.toArray) (i:=i) (x:=u) ne (by simpa using hu) s Q E g λv h' tk e=>hQ v h' tk (e▸ru),λh' kk=>⟨?_,?_⟩,λh h' ⟨a,b⟩ kk=>⟨a.at λo e=>kk _ _ (.inl rfl) e,?_⟩,λh z=>z.1⟩
  ·exact st.at λo e=>kk _ _ (.inl rfl) e
  ·obtain⟨o,e,r⟩:=p1;exact⟨o,kk _ _ (.inr hl) e,r⟩
  ·obtain⟨o,e,r⟩:=b;exact⟨o,kk _ _ (.inr hl) e,r⟩
 ends:=by
  intro X hP hw hK pins s σ H i I g hx st
  subst hP hw hK
  obtain⟨its,rv,pl,_⟩:=I.list g
  have p1:s.heap.IsList l its.toArray:=pl.isList
  have len:=rv.length
  refine⟨_,λA hh=>zji (t:=l) (i:=i) (items:=its.toArray) hh (by simpa using (show its.length<=i by omega)),λh' kk=>⟨st.at λo e=>kk _ _ (.inl rfl) e,?_⟩⟩
  obtain⟨o,e,r⟩:=p1;exact⟨o,kk _ _ (.inr hl) e,r⟩
def vC (l:List Nat):List V:=l.map λc=>V.str (T [c])
theorem zm2 {K:qQ0}{l:List Nat}{t:Tok}:ZS P w K (vC l) (λ_=>True) n it (λi h=>h.IsStrIter it "str_ascii_iterator" (T l) t i) where
 obj:=λi h z=>by obtain⟨o,e,c,d⟩:=z;exact⟨o,e,λv z=>by rw[d] at z;cases z⟩
 keep:=λi h h' z kk=>by obtain⟨o,e,c,d⟩:=z;exact⟨o,kk o e,c,d⟩
 yld:=by
  intro X hP hw hK pins s σ H i x I g hx st
  subst hP hw hK
  unfold vC at hx
  rw[lJ] at hx
  cases ec:l[i]? with
  | none=>rw[ec] at hx;cases hx
  | some c =>
   rw[ec] at hx
   cases hx
   refine⟨λh=>h.IsStrIter it "str_ascii_iterator" (T l) t i,λh=>h.IsStrIter it "str_ascii_iterator" (T l) t (i+1),λA s Q E g hQ=>Zp.yields_ascii (x:=T l) (t:=t) (i:=i) (c:=c) (by show l.toArray[i]? = _;simpa using ec) s Q E g λv h' tk e=>hQ v h' tk ?_,λh' kk=>?_,λh h' z kk=>?_,λh z=>z⟩
   ·obtain⟨u,rfl⟩:=e;exact⟨u,rfl⟩
   ·obtain⟨o,e,c,d⟩:=st;exact⟨o,kk _ _ (.inl rfl) e,c,d⟩
   ·obtain⟨o,e,c,d⟩:=z;exact⟨o,kk _ _ (.inl rfl) e,c,d⟩
 ends:=by
  intro X hP hw hK pins s σ H i I g hx st
  subst hP hw hK
  have hl:l.length<=i:=by simpa [vC] using hx
  refine⟨_,λA hh=>Zp.ends_ascii (x:=T l) (t:=t) (i:=i) hh (by show l.toArray[i]? = none;simpa using hl),λh' kk=>?_⟩
  obtain⟨o,e,c,d⟩:=st;exact⟨o,kk _ _ (.inl rfl) e,c,d⟩
def zoW (G1 G2:Hp->Prop)(xs ys:List V):It :=
 ⟨λi H=>G1 H/\G2 H/\i<min xs.length ys.length,λi H v H'=>∃p x y,H p=none/\xs[i]? = some x/\ys[i]? = some y/\v=.ref p/\H'=upd H p (.tup [x,y]),λi H=>G1 H/\G2 H/\min xs.length ys.length<=i⟩
def zp4 (n:Nat)(S1 S2:Nat->Heap->Prop)(i:Nat)(h:Heap):Prop:=∃a b f1,Zp.IsZipF h (n+4:Nat) (n+2:Nat) (n+3:Nat) .none f1/\IsPair h (n+2:Nat) (.ref n) (.ref (n+1:Nat))/\IsPair h (n+3:Nat) a b/\S1 i h/\S2 i h
theorem zh7 {K:qQ0}{G1 G2:Hp->Prop}{S1 S2:Nat->Heap->Prop}(A1:ZS P w K xs G1 n n S1)(A2:ZS P w K ys G2 n (n+1) S2) :
  Turn P w K (.Tuple elts k pos) (zoW G1 G2 xs ys) (fpZ n) (n+4:Nat) (zp4 n S1 S2) where
 mem:=by simp[fpZ]
 obj:=λi h ⟨a,b,f1,z1,z2,z3,z4,z5⟩ c hc=>by
  simp only[fpZ,lI,ldT,or_false] at hc
  rcases hc with rfl|rfl|rfl|rfl|rfl
  ·exact⟨_,z1,λv z=>by cases z⟩
  ·exact⟨_,z2,λv z=>by cases z⟩
  ·exact⟨_,z3,λv z=>by cases z⟩
  ·exact A1.obj i h z4
  ·exact A2.obj i h z5
 keep:=λi h h' ⟨a,b,f1,z1,z2,z3,z4,z5⟩ kk=>by
  refine⟨a,b,f1,kk _ (by simp[fpZ]) _ z1,kk _ (by simp[fpZ]) _ z2,kk _ (by simp[fpZ]) _ z3,A1.keep i h h' z4 λo e=>kk _ (by simp[fpZ]) o e,A2.keep i h h' z5 λo e=>kk _ (by simp[fpZ]) o e⟩
 item := by
  intro X hP hw hK hc i pins s σ H E I hf st hg
  obtain⟨q1,q2,hi⟩:=hg
  have i1:i<xs.length:=by omega
  have i2:i<ys.length:=by omega
  obtain⟨a,b,f1,z1,z2,z3,z4,z5⟩:=st
  obtain⟨Ga,Sa,Y1,ga,sa,ta⟩:=A1.yld X hP hw hK pins s σ H i _ I q1 (lh i1) z4
  obtain⟨Gb,Sb,Y2,gb,sb',tb⟩:=A2.yld X hP hw hK pins s σ H i _ I q2 (lh i2) z5
  subst hP hw hK
  have hT:s.TypeIs (.ref ((n+4:Nat):Addr)) "zip" := ⟨_,z1,rfl⟩
  unfold pyNext
  refine la (lbp (lV (name:=Str.ofString "__next__") hT lb3
   (lad lb3 hT PySem.F.entry_zip_next ?_ (PySem.F.args_zip_next_1 _))))
  have D:=zkl n
  have nn:∀{c:Addr}{k:Nat},(c:Nat)<n->c≠((n+k:Nat):Addr):=λ{c k} hc=>vQ (.inl (lK hc (lb1 _ _)))
  refine Zp.next_item D z1 z2 z3 (Y1 _) (Y2 _) ?_ ?_ ?_ ?_ ?_
  ·refine λh' kk=>ga h' λc o hc e=>kk c o ?_ e
   rcases hc with rfl|hc
   ·exact D.i1z
   ·exact nn hc
  ·refine λh' kk=>gb h' λc o hc e=>?_
   rcases hc with rfl|hc
   ·exact kk _ _ D.i2z D.TOi2.symm D.i12.symm e
   ·exact kk _ _ (nn hc) (nn hc) (nn (k:=0) hc) e
  ·refine λh h' z kk=>sa h h' z λc o hc e=>?_
   rcases hc with rfl|hc
   ·exact kk _ _ D.i1z D.TOi1.symm D.i12 e
   ·exact kk _ _ (nn hc) (nn hc) (nn hc) e
  ·refine λh h' z kk=>sb' h h' z λc o hc e=>?_
   rcases hc with rfl|hc
   ·exact kk _ _ D.i2z D.TOi2.symm e
   ·exact kk _ _ (nn hc) (nn hc) e
  ·rintro v1 v2 h' tk ru1 ru2 z' to' s1 s2 hp hsz kk
   refine lr ⟨_,rfl,?_⟩
   refine wpAny_letOwnedTupleGo_zip (s:={s with heap:=h',toks:=tk}) z' λh2 zz sb=>?_
   obtain⟨o1,e1,_⟩:=A1.obj _ _ z4
   obtain⟨o2,e2,_⟩:=A2.obj _ _ z5
   have nz:∀c:Addr,c=s.heap.objs.size->c∉fpZ n:=λc e hc=>by
    have:=(hf c hc).1
    obtain ⟨o,ho,_⟩:∃o,s.heap.get? c=some o/\True:=by
     simp only[fpZ,lI,ldT,or_false] at hc
     rcases hc with rfl|rfl|rfl|rfl|rfl
     ·exact⟨_,z1,trivial⟩
     ·exact⟨_,z2,trivial⟩
     ·exact⟨_,z3,trivial⟩
     ·exact⟨_,e1,trivial⟩
     ·exact⟨_,e2,trivial⟩
    rw[e] at ho
    exact absurd (lE ho) (lce _)
   have szz:s.heap.objs.size≠((n+4:Nat):Addr):=λe=>nz _ rfl (by rw[e];simp[fpZ])
   have I1:Inv X pins σ H {s with heap:=h2,toks:=tk}:=I.turnedL (fp:=fpZ n) (λc o hc e=>by
    have hc':c≠((n+4:Nat):Addr)/\c≠((n+2:Nat):Addr)/\c≠((n+3:Nat):Addr)/\c≠(n:Addr)/\c≠((n+1:Nat):Addr):=by
     simpa [fpZ] using hc
    exact sb.extBut _ _ hc'.1 (kk c o hc'.1 hc'.2.2.1 hc'.2.2.2.1 hc'.2.2.2.2 e)) hf
   have hfree:H s.heap.objs.size=none:=I.hok.fresh (lB _)
   have hpair:h2.get? s.heap.objs.size=some {cls:=.type "tuple", data:=.seq #[v1,v2]}:=sb.extBut _ _ szz hp
   have I2:Inv X pins σ (upd H s.heap.objs.size (.tup [xs[i],ys[i]])) {s with heap:=h2,toks:=tk}:=I1.track hfree (.inr I.sz) (laJ I.lt) (λx c e=>by
     obtain⟨v,o,ho,_⟩:=I.cell x c e
     exact lab (lE ho)) (λp hp=>lab (lE (I.pin p hp).1))
    ⟨by show 2<=sizeLine;decide,[v1,v2],.cons ru1 (.cons ru2 .nil),_,hpair,rfl,⟨_,rfl⟩,rfl⟩
   refine⟨.ref s.heap.objs.size,_,I2,rfl,⟨_,_,_,hfree,lh i1,lh i2,rfl,rfl⟩,⟨v1,v2,.bool false,zz,sb.extBut _ _ D.TIz (kk _ _ D.TIz D.TITO D.TIi1 D.TIi2 z2),sb.extBut _ _ D.TOz to',?_,?_⟩,λb hb=>?_⟩
   ·exact A1.keep _ _ _ (ta _ s1) λo e=>sb.extBut _ _ D.i1z e
   ·exact A2.keep _ _ _ (tb _ s2) λo e=>sb.extBut _ _ D.i2z e
   ·rw[zO (λe=>nz b e hb)]
    exact(hf b hb).1
 done:=by
  intro X hP hw hK hc i pins s σ H E I hf st hg
  obtain⟨q1,q2,hi⟩:=hg
  obtain⟨a,b,f1,z1,z2,z3,z4,z5⟩:=st
  have hT:s.TypeIs (.ref ((n+4:Nat):Addr)) "zip" := ⟨_,z1,rfl⟩
  have D:=zkl n
  have nn:∀{c:Addr}{k:Nat},(c:Nat)<n->c≠((n+k:Nat):Addr):=λ{c k} hc=>vQ (.inl (lK hc (lb1 _ _)))
  have hh:=I.ok.hd hc
  have key:∃Ga Gb:Heap->Prop,(Zp.Ends X.prog X.w X.A.in1 (n:Addr) Ga∨(Zp.Yields X.prog X.w X.A.in1 (n:Addr) Ga (λ_=>True) (λ_=>True)/\Zp.Ends X.prog X.w X.A.in1 ((n+1:Nat):Addr) Gb))/\(∀h',Kp n n s.heap h'->Ga h')/\(∀h',Kp (n+1) n s.heap h'->Gb h'):=by
   by_cases h1:xs.length<=i
   ·obtain⟨Ga,y,g⟩:=A1.ends X hP hw hK pins s σ H i I q1 h1 z4
    subst hP hw
    exact⟨Ga,λ_=>True,.inl (y _ hh),g,λ_ _=>trivial⟩
   ·obtain⟨Ga,Sa,Y1,ga,sa,ta⟩:=A1.yld X hP hw hK pins s σ H i _ I q1 (lh (Nat.lt_of_not_le h1)) z4
    obtain⟨Gb,y,g⟩:=A2.ends X hP hw hK pins s σ H i I q2 (by omega) z5
    subst hP hw
    exact⟨Ga,Gb,.inr ⟨λs Q E g hQ=>Y1 _ s Q E g λv h' tk _ _ sb=>hQ v h' tk trivial trivial sb,y _ hh⟩,ga,g⟩
  obtain⟨Ga,Gb,hend',ga,gb⟩:=key
  subst hP hw hK
  unfold pyNext
  refine la (lbp (lV (name:=Str.ofString "__next__") hT lb3
   (lad lb3 hT PySem.F.entry_zip_next (Zp.next_end D z1 z2 z3 hend' ?_ ?_ ?_) (PySem.F.args_zip_next_1 _))))
  ·refine λh' kk=>ga h' λc o hc e=>kk c o ?_ e
   rcases hc with rfl|hc
   ·exact D.i1z
   ·exact nn hc
  ·refine λh' kk=>gb h' λc o hc e=>?_
   rcases hc with rfl|hc
   ·exact kk _ _ D.i2z D.TOi2.symm D.i12.symm e
   ·exact kk _ _ (nn hc) (nn hc) (nn (k:=0) hc) e
  ·intro h' tk e kk he
   obtain⟨o,ho,hc⟩:=he
   refine la (lb0 (T := "StopIteration") (b:=true) ⟨o,ho,hc⟩ lcv ?_)
   refine lr ⟨rfl,I.turnedL (fp:=fpZ n) (λc o hc e=>?_) hf⟩
   have hc':c≠((n+4:Nat):Addr)/\c≠((n+2:Nat):Addr)/\c≠((n+3:Nat):Addr)/\c≠(n:Addr)/\c≠((n+1:Nat):Addr):=by
    simpa [fpZ] using hc
   exact kk c o hc'.1 hc'.2.2.1 hc'.2.2.2.1 hc'.2.2.2.2 e
 self:=λA i s Q E ⟨a,b,f1,z1,z2,z3,z4,z5⟩ h=>by
  have hT:s.TypeIs (.ref ((n+4:Nat):Addr)) "zip" := ⟨_,z1,rfl⟩
  refine wpAny_pyIter_slot hT PySem.F.slot_zip_iter (lad PySem.F.slot_zip_iter hT PySem.F.entry_zip_iter ?_ (PySem.F.args_zip_iter_1 _))
  show wpAny _ _ (ret (.ref ((n+4:Nat):Addr))) _ _ s
  exact lr ⟨_,rfl, "zip", _,hT,lb3.lookup,h⟩
def Itu (u:Value)(o:Obj)(G:Heap->Prop):Prop:=∀(prog:Program) (w:World) (A:Around) (s:Shared) (Q:qQ2) (E:qQ2),G s.heap->Q (.ref s.heap.objs.size) {s with heap:=s.heap.push o}->wpAny (model prog w) A (pyIter u) Q E s
section
variable {prog:Program}{w:World}{A:Around}{E:qQ2}{s:Shared}
theorem zja {u1 u2:Value}{o1 o2:Obj}{G1 G2:Heap->Prop}(b1:Itu u1 o1 G1)(b2:Itu u2 o2 G2)(up:∀h,G2 h->G2 (h.push o1)) :
  Meets (Builtin.«zip.__new__» ⟨[.type "zip", u1,u2],[]⟩) (λ_ R s=>G1 s.heap/\G2 s.heap /\
   R (.ok (.ret (.ref (Zp.zH4 s.heap o1 o2).objs.size))) {s with heap:=Zp.zH5 s.heap o1 o2}) :=
 .of_wp λprog w A R s h=>by
  obtain⟨hl1,hl2,h⟩:=h
  have z3:(Zp.zH3 s.heap o1 o2).objs.size=(Zp.zH2 s.heap o1 o2).objs.size+1:=laR ..
  have z4:(Zp.zH4 s.heap o1 o2).objs.size=(Zp.zH2 s.heap o1 o2).objs.size+2:=by rw[laR,z3]
  refine Zp.meets_st_aux (h1:=s.heap.push o1) (h2:=Zp.zH2 s.heap o1 o2) (i1:=s.heap.objs.size) (i2:=(s.heap.push o1).objs.size)
   (λQ E q=>b1 prog w A.in1 s Q E hl1 q) (λQ E q=>b2 prog w A.in1 {s with heap:=s.heap.push o1} Q E (up _ hl2) q) ⟨_,rfl,?_⟩
  rw[← z4,← z3]
  exact h
theorem zh4 {u1 u2:Value}{o1 o2:Obj}{G1 G2:Heap->Prop}{Q:qQ2}(f1:o1.isFreed=false)(f2:o2.isFreed=false)(b1:Itu u1 o1 G1)(b2:Itu u2 o2 G2)(up:∀h,G2 h->G2 (h.push o1))(hl1:G1 s.heap)(hl2:G2 s.heap)
  (h:∀h',Zp.Made5 s.heap h' o1 o2->Q (.ref (s.heap.objs.size+4)) {s with heap:=h'}) :
  wpAny (model prog w) A (call (.type "zip") [u1,u2]) Q E s:=by
 refine callType_new F.called_zip (by decide) (F.typeCall_zip_2 _ _) (F.newCall_zip_2 _ _) (λobj=>F.args_object_init_3 obj _ _) F.entry_zip_new
  (zja b1 b2 up) ⟨hl1,hl2,?_⟩
 obtain⟨m,z4⟩:=Zp.made5 s.heap o1 o2 f1 f2
 show _/\_
 rw[z4]
 exact⟨⟨_,m.1,rfl⟩,h _ m⟩
end
def zpm (K:qQ0)(H:Hp)(v:V)(xs:List V)(G:Hp->Prop):Prop :=
 (∃l,v=.ref l/\SqT K H l xs/\G=λH=>SqT K H l xs)∨(∃l,v=.ref l/\SqL K H l xs/\G=λH=>SqL K H l xs)∨(∃l,v=.str (T l)/\(∀c∈l,c<128)/\xs=vC l/\G=λ_=>True)
theorem zpF {X:Cx}{pins:List (Addr×Obj)}{s:Shared}{u:Value}(I:Inv X pins σ H s)(z:zpm X.K H v xs G)(r:RelV v u):G H/\∃(o:Obj) (C:Heap->Prop),o.isFreed=false/\C s.heap/\(∀h o',C h->C (h.push o'))/\Itu u o C /\
  ∀it:Nat,s.heap.objs.size<=it->∃S,ZS X.prog X.w X.K xs G s.heap.objs.size it S/\∀h:Heap,h.get? (it:Addr)=some o->S 0 h:=by
 rcases z with⟨l,rfl,q,rfl⟩|⟨l,rfl,q,rfl⟩|⟨l,rfl,ha,rfl,rfl⟩
 ·cases r
  obtain⟨its,rv,pl,_⟩:=I.tuple q
  have p1:s.heap.IsTuple l its.toArray:=pl
  have lt1:l<s.heap.objs.size:=by obtain⟨o,e,_⟩:=p1;exact lE e
  exact⟨q,Zp.tIter l,λh=>h.IsTuple l its.toArray,rfl,p1,λh o' ⟨o,e,r⟩=>⟨o,lg _ e,r⟩,λ_ _ _ _ _ _ g q=>ldt g q,λit hit=>⟨_,znZ lt1 hit,λh e=>⟨_,e,rfl,rfl⟩⟩⟩
 ·cases r
  obtain⟨its,rv,pl,_⟩:=I.list q
  have p1:s.heap.IsList l its.toArray:=pl.isList
  have lt1:l<s.heap.objs.size:=by obtain⟨o,e,_⟩:=p1;exact lE e
  exact⟨q,Zp.lIter l,λh=>h.IsList l its.toArray,rfl,p1,λh o' ⟨o,e,r⟩=>⟨o,lg _ e,r⟩,λ_ _ _ _ _ _ g q=>lca g q,λit hit=>⟨_,zmV lt1 hit,λh e=>⟨_,e,rfl,rfl⟩⟩⟩
 ·obtain ⟨t,rfl⟩:=r
  have ha':(T l).cps.all (· < 128)=true:=by
   simp only[T,ldd,lZ,laA]
   exact ha
  exact⟨trivial,Zp.sIter (T l) t,λ_=>True,rfl,trivial,λ_ _ _=>trivial,λ_ _ _ _ _ _ _ q=>wpAny_pyIter_ascii ha' q,λit hit=>⟨_,zm2,λh e=>⟨_,e,rfl,rfl⟩⟩⟩
def Itz (K:qQ0)(l1 l2:Addr)(xs ys:List V):It :=
 ⟨λi H=>SqT K H l1 xs/\SqT K H l2 ys/\i<min xs.length ys.length,λi H v H'=>∃p x y,H p=none/\xs[i]? = some x/\ys[i]? = some y/\v=.ref p/\H'=upd H p (.tup [x,y]),λi H=>SqT K H l1 xs/\SqT K H l2 ys/\min xs.length ys.length<=i⟩
def zp6 (K:qQ0)(ta tb:TE):TI:=λσ H R=>zeV ta (zeV tb zor) σ H λvs H1=>∃l1 l2 xs ys,vs=[.ref l1,.ref l2]/\SqT K H1 l1 xs/\SqT K H1 l2 ys/\R (Itz K l1 l2 xs ys) H1
section
variable {X:Cx}
theorem zlb {Z:List V->Hp->(It->Hp->Prop)->Prop}(hZ:∀vs H1 R,Z vs H1 R->∃(v1 v2:V) (xs ys:List V) (G1 G2:Hp->Prop),vs=[v1,v2]/\zpm X.K H1 v1 xs G1/\zpm X.K H1 v2 ys G2/\R (zoW G1 G2 xs ys) H1){tpos:Pos}{a b:Expr}{ta tb:TE}{p:Pos}(hg:Gl X "zip")(hm:X.mg "zip" = none)(ha:PE X a ta)(hb:PE X b tb)
  (hs:starEach [a,b] X.env=[(false,eval a X.env),(false,eval b X.env)]:=by rfl) (hs2:starEach [b] X.env=[(false,eval b X.env)]:=by rfl) :
  PI X (.Tuple elts k tpos) (.Call (.Name "zip" p) [a,b] [] pos) (λσ H R=>zeV ta (zeV tb zor) σ H λvs H1=>Z vs H1 R):=by
 intro pins s σ H R I h
 have hA:PA X [a,b] (zeV ta (zeV tb zor)):=yX ha (yX hb vX hs2) (by rw[hs,hs2])
 refine lbl (zaO I hg hm boot_zip ?_)
 refine lbR (thn (hA pos pins s σ H _ I h) λus s1 hq34=>?_) (by rw[hs,hs2]) (by rw[hs2];rfl)
 obtain⟨vs,H2,I2,r2,zz⟩:=hq34
 obtain⟨v1,v2,xs,ys,G1,G2,ev,q1,q2,q⟩:=hZ _ _ _ zz
 subst ev
 obtain⟨u1,u2,rfl,ru1,ru2⟩:=vals2 r2
 obtain⟨g1,o1,C1,f1,c1,p1,b1,m1⟩:=zpF I2 q1 ru1
 obtain⟨g2,o2,C2,f2,c2,p2,b2,m2⟩:=zpF I2 q2 ru2
 obtain⟨S1,A1,st1⟩:=m1 s1.heap.objs.size (lB _)
 obtain⟨S2,A2,st2⟩:=m2 (s1.heap.objs.size+1) (lcF _)
 refine zh4 f1 f2 b1 b2 (λh c=>p2 h _ c) c1 c2 λh1 m5=>?_
 obtain⟨m1,m2,m3,m4,m6,m7,m8⟩:=m5
 have T:=zh7 (P:=X.prog) (w:=X.w) (K:=X.K) (elts:=elts) (k:=k) (pos:=tpos) A1 A2
 refine T.self X.A 0 _ _ _ ⟨_,_,_,m1,m2,m3,st1 _ m4,st2 _ m6⟩ ?_
 have I3:Inv X pins σ H2 {s1 with heap:=h1}:=I2.kept (t':=s1.toks) m8
 refine⟨_,fpZ s1.heap.objs.size,_,zoW G1 G2 xs ys,H2,rfl,I3,T,⟨_,_,_,m1,m2,m3,st1 _ m4,st2 _ m6⟩,λc hc=>?_,q⟩
 have hge:s1.heap.objs.size<=c:=by
  simp only[fpZ,lI,ldT,or_false] at hc
  rcases hc with rfl|rfl|rfl|rfl|rfl
  ·exact lb1 _ _
  ·exact lb1 _ _
  ·exact lb1 _ _
  ·exact lB _
  ·exact lb1 _ _
 obtain⟨f0,f1,f2,f3,f4,f5⟩:=I2.fpOk hge (I2.hok.fresh hge)
 exact⟨f0,f1,f2,f3,f4,f5⟩
theorem zgc {tpos:Pos}{a b:Expr}{ta tb:TE}{p:Pos}(hg:Gl X "zip")(hm:X.mg "zip" = none)(ha:PE X a ta)(hb:PE X b tb)
  (hs:starEach [a,b] X.env=[(false,eval a X.env),(false,eval b X.env)]:=by rfl) (hs2:starEach [b] X.env=[(false,eval b X.env)]:=by rfl) :
  PI X (.Tuple elts k tpos) (.Call (.Name "zip" p) [a,b] [] pos) (zp6 X.K ta tb):=zlb (λvs H1 R ⟨l1,l2,xs,ys,e,q1,q2,r⟩=>⟨_,_,xs,ys,_,_,e,.inl ⟨l1,rfl,q1,rfl⟩,.inl ⟨l2,rfl,q2,rfl⟩,r⟩) hg hm ha hb hs hs2
end
def Srt (ls:qQ1):Prop:=ls.Pairwise (·<=·)
theorem zfg {a b:List Nat}(h:ltCps b a=false):a<=b:=by
 rw[ltCps_eq] at h
 exact la8.mp (ldz h)
theorem zaK:∀(p:Str) (l:List Str),risingS p l=true->(p::l).Pairwise λa b=>a.cps.toList<=b.cps.toList
 | p,[],_=>by simp
 | p,x::r,h=>by
  have h':(!ltCps x.cps.toList p.cps.toList&&risingS x r)=true:=h
  rw[lM] at h'
  have h1:p.cps.toList<=x.cps.toList:=zfg (by simpa using h'.1)
  have h2:=zaK x r h'.2
  refine laC.mpr ⟨λy hy=>?_,h2⟩
  rcases lI.mp hy with rfl|hy
  ·exact h1
  ·exact lee h1 (List.rel_of_pairwise_cons h2 hy)
theorem zkK {ss:List Str}(h:sortedS ss=true):Srt (ss.map λx=>x.cps.toList):=by
 unfold Srt
 rw[List.pairwise_map]
 cases ss with
 | nil=>simp
 | cons x r=>exact zaK x r h
theorem zbk:∀{us:List Value}{ss:List Str},StrsAre us ss->Vals (ss.map V.str) us
 | _,_,.nil=>.nil
 | _,_,.cons x t h=>.cons ⟨t,rfl⟩ (zbk h)
def vT (ls:qQ1):List V:=ls.map λl=>V.str (T l)
theorem zgf (ss:List Str):ss.map V.str=vT (ss.map λx=>x.cps.toList):=by
 unfold vT
 rw[laK]
 exact lcG λx _=>lbB V.str (zpU x).symm
theorem zpv (ls:qQ1):vT ls=(ls.map T).map V.str:=by unfold vT;rw[laK];rfl
section
variable {X:Cx}
theorem zdM:qP X (.builtin "sorted") (λxs H Q=>∃a ls,xs=[.ref a]/\SqL X.K H a (vT ls)/\ls.length<64/\∀p ms,H p=none->ms.Perm ls->Srt ms->Q (.ref p) (upd H p (.lst (vT ms)))):=by
 intro pins s σ H xs us Q I r h
 obtain⟨a,ls,rfl,ha,h64,q⟩:=h
 obtain⟨u,rfl,ru⟩:=vals1 r
 cases ru
 obtain⟨its,rv,pl,hz⟩:=I.list ha
 rw[zpv] at rv
 have hl:=rv.length
 simp only[lQ] at hl
 refine sorted_strs pl.isList (jQ rv) (by omega) λout ss' h1 h2 h3=>?_
 have hS:=zkK h3
 have hP:(ss'.map λx=>x.cps.toList).Perm ls:=by
  have:=h2.map λx:Str=>x.cps.toList
  rw[laK] at this
  have e:ls.map ((λx:Str=>x.cps.toList)∘T)=ls:=by
   have:((λx:Str=>x.cps.toList)∘T)=id:=funext λl=>zac l
   rw[this,List.map_id]
  rw[e] at this
  exact this
 obtain⟨c,hat⟩:=sortedAll_at s.heap its out
 have hlen:ss'.length=ls.length:=by have:=h2.length_eq;simpa using this
 refine⟨.ref (s.heap.objs.size+1),_,I.laid (t':=s.toks) (o:=.lst (vT (ss'.map λx=>x.cps.toList))) (λb o e=>sortedAll_old e) (lcF _) ?_,rfl,q _ _ (I.hok.fresh (lcF _)) hP hS⟩
 refine⟨?_,out.toList,c,?_,by simpa [seqObj] using hat⟩
 ·rw[← zgf,lQ,lbg];omega
 ·rw[← zgf];exact zbk h1
theorem zhX:∀{xs:List V}{us:List Value},xs.length=us.length->(∀(j:Nat) x u,xs[j]? = some x->us[j]? = some u->RelV x u)->Vals xs us
 | [],[],_,_=>.nil
 | [],_::_,h,_=>by simp at h
 | _::_,[],h,_=>by simp at h
 | x::xs,u::us,h,k=>.cons (k 0 x u rfl rfl) (zhX (by simpa using h) λj y v e1 e2=>k (j+1) y v (by simpa using e1) (by simpa using e2))
theorem zhU {K:qQ0}{j:Nat}{px py:Pos}(hK:X.K=K)(hc:X.calm=true)(hN:X.N.Nodup)(hi:X.N[i]? = some x)(hj:X.N[j]? = some y)(hx:Loc X.env.scope x)(hy:Loc X.env.scope y)
  (fx:X.fn x=true∨X.env.scope.names.lookup x=some .local:=by first|exact .inl rfl|exact .inr rfl|assumption) (fy:X.fn y=true∨X.env.scope.names.lookup y=some .local:=by first|exact .inl rfl|exact .inr rfl|assumption) :
  PG X (.Tuple [.Name x px,.Name y py] k pos) (zmB K 2 (zbG (uq i) (zbG (uq j) zmC))):=hK▸znN hc (zgn (zM hN hi hx fx) (zgn (zM hN hj hy fy) zlm))
end
theorem zhQ {K:qQ0}{l1 l2:Addr}(hz:xs.length<=sizeLine){tt:TT}{te:TE}{σ0:St}{H1:Hp}(Pv:Nat->List V->Hp->Prop)(h0:Pv 0 [] H1)(hG:∀i vs H,Pv i vs H->SqT K H l1 xs/\SqT K H l2 ys/\vs.length<=i)
  (hs:∀i x y p vs H,xs[i]? = some x->ys[i]? = some y->H p=none->Pv i vs H->g (.ref p) σ0 (upd H p (.tup [x,y])) λσ2 H2=>Kps σ0 σ2/\tt σ2 H2 λb H3=>if b=true then te σ2 H3 λv H4=>Pv (i+1) (vs++[v]) H4 else Pv (i+1) vs H3) (hd:∀vs H,Pv (min xs.length ys.length) vs H->F vs H) :
  zaF g tt te σ0 F (Itz K l1 l2 xs ys) H1:=by
 refine⟨λi m vs H=>m=min xs.length ys.length - i/\i<=min xs.length ys.length/\Pv i vs H,⟨_,rfl,lbq _,h0⟩,?_⟩
 rintro i m vs H ⟨rfl,hi,p⟩
 obtain⟨q1,q2,hl⟩:=hG i vs H p
 refine⟨by omega,?_⟩
 by_cases hlt:i<min xs.length ys.length
 ·refine .inr ⟨⟨q1,q2,hlt⟩,by omega,Pv (i+1),λvs' H' p'=>⟨min xs.length ys.length - (i+1),by omega,rfl,hlt,p'⟩,?_⟩
  rintro v H' ⟨a,x,y,e0,e1,e2,rfl,rfl⟩
  exact hs i x y a vs H e1 e2 e0 p
 ·have e:i=min xs.length ys.length:=by omega
  subst e
  exact .inl ⟨⟨q1,q2,lB _⟩,hd vs H p⟩
theorem zl3 {K:qQ0}{l1 l2:Addr}{tb:TS}{D:Ends}(Pv:Nat->St->Hp->Prop)(h0:Pv 0 σ H)(hG:∀i σ H,Pv i σ H->SqT K H l1 xs/\SqT K H l2 ys)
  (hs:∀i x y p σ H,xs[i]? = some x->ys[i]? = some y->H p=none->Pv i σ H->g (.ref p) σ (upd H p (.tup [x,y])) λσ2 H2=>tb {D with nx:=Pv (i+1),ct:=Pv (i+1),bk:=D.nx} σ2 H2) (hd:∀σ H,Pv (min xs.length ys.length) σ H->D.nx σ H) :
  ∃ W:Nat->Nat->St->Hp->Prop,(∃m,W 0 m σ H)/\∀i m σ H,W i m σ H ->
   ((Itz K l1 l2 xs ys).stop i H/\D.nx σ H)∨((Itz K l1 l2 xs ys).go i H/\∃N:St->Hp->Prop,(∀σ' H',N σ' H'->∃m',m'<m/\W (i+1) m' σ' H')/\∀x H',(Itz K l1 l2 xs ys).yld i H x H'->g x σ H' λσ2 H2=>tb {D with nx:=N,ct:=N,bk:=D.nx} σ2 H2):=by
 refine⟨λi m σ H=>m=min xs.length ys.length - i/\i<=min xs.length ys.length/\Pv i σ H,⟨_,rfl,lbq _,h0⟩,?_⟩
 rintro i m σ H ⟨rfl,hi,p⟩
 obtain⟨q1,q2⟩:=hG i σ H p
 by_cases hlt:i<min xs.length ys.length
 ·refine .inr ⟨⟨q1,q2,hlt⟩,Pv (i+1),λσ' H' p'=>⟨min xs.length ys.length - (i+1),by omega,rfl,hlt,p'⟩,?_⟩
  rintro v H' ⟨a,x,y,e0,e1,e2,rfl,rfl⟩
  exact hs i x y a σ H e1 e2 e0 p
 ·have e:i=min xs.length ys.length:=by omega
  subst e
  exact .inl ⟨⟨q1,q2,lB _⟩,hd σ H p⟩
end L2
namespace My
variable {m c j t:Nat}{B xs ls:qQ1}{x p:List Nat}
def abcd:List Nat:=[97,98,99,100]
def wt (ws:List Int)(c:Nat):Int:=ws.getD (c - 97) 0
def up (ws:List Int):List Nat->Int
 | []=>1
 | c::r=>wt ws c*up ws r
def dn (ws:List Int)(l:List Nat):Int:=ws.sum ^ l.length
def zjg (ws:List Int):Prop:=2<=ws.length/\ws.length<=4/\∀w∈ws,1<=w/\w<=99
def LetOk (m:Nat)(l:List Nat):Prop:=∀c∈l,97<=c/\c<97+m
theorem LetOk.app {l k:List Nat}(a:LetOk m l)(b:LetOk m k):LetOk m (l++k):=λc hc=>by
 rcases laW.mp hc with h|h
 ·exact a c h
 ·exact b c h
theorem zjD {a:Int}(ha:1<=a){n:Nat}(h:n<=m):a ^ n<=a ^ m:=by
 obtain⟨k,rfl⟩:=Nat.exists_eq_add_of_le h
 rw[Int.pow_add]
 have h1:0<a ^ n:=Int.pow_pos (by omega)
 have h2:0<a ^ k:=Int.pow_pos (by omega)
 have:=Int.mul_le_mul_of_nonneg_left (show(1:Int)<=a ^ k by omega) (Int.le_of_lt h1)
 omega
def Fra (B:Nat)(x:Int×Int):Prop:=0<=x.1/\0<x.2/\x.1<2 ^ B/\x.2<2 ^ B
theorem Fra.mono {B C:Nat}{x:Int×Int}(h:Fra B x)(hBC:B<=C):Fra C x:=by
 have:=zjD (a:=2) (by decide) hBC
 obtain⟨a,b,c,d⟩:=h
 exact⟨a,b,by omega,by omega⟩
section
variable {ws:List Int}(h:zjg ws)
include h
def acc (ws:List Int)(l:List Nat)(S:Int):Int×Int:=low (up ws l*S) (dn ws l*ws.sum)
end
section
variable {a b c d e f:Int}(hb:0<b)(hd:0<d)(hf:0<f)
include hb
end
def rising (ps:qQ1):Bool:=(ps.zip ps.tail).all λx=>decide (x.1<x.2)
def isInner (ps:qQ1)(x:List Nat):Bool:=ps.any λp=>x.isPrefixOf p && !decide (p=x)
def yS (ps:qQ1)(x:List Nat):Bool:=!(ps.any λp=>x.isPrefixOf p || p.isPrefixOf x)
def zN (m:Nat)(xs:qQ1):qQ1:=xs.flatMap λx=>(abcd.take m).map λc=>x++[c]
def wz (ps:qQ1):Option (List Nat×List Nat):=(ps.zip ps.tail).find? λx=>x.1.isPrefixOf x.2
def fta (m:Nat)(ps:qQ1):Nat->qQ1->Option (List Nat)
 | 0,_=>none
 | n+1,inner=>if inner=[] then none else match (zN m inner).find? (yS ps) with
  | some x=>some x
  | none=>fta m ps n ((zN m inner).filter (isInner ps))
def wM (m:Nat)(ps:qQ1):Option (List Nat):=fta m ps 32 [[]]
def isBook (m:Nat)(ps:qQ1):Bool:=rising ps&&(wz ps).isNone&&(wM m ps).isNone
def zY (m:Nat):Nat->qQ1
 | 0=>[[]]
 | n+1=>zN m (zY m n)
theorem zaq (m:Nat)(hm:m<=4)(xs:qQ1):(zN m xs).length<=4*xs.length:=by
 unfold zN
 induction xs with
 | nil=>simp
 | cons x r ih =>
  rw[ldF,lae,lQ,las,laf]
  omega
theorem jh {y:List Nat}(h:y∈zN m xs):∃x∈xs,∃c∈abcd.take m,y=x++[c]:=by
 unfold zN at h
 obtain⟨x,hx,hy⟩:=lde.mp h
 obtain⟨c,hc,rfl⟩:=lat.mp hy
 exact⟨x,hx,c,hc,rfl⟩
theorem zbn {ps:qQ1}(h:isInner ps x=true)(h8:∀p∈ps,p.length<=31):x.length<31:=by
 unfold isInner at h
 obtain⟨p,hp,e⟩:=lcf.mp h
 rw[lM] at e
 obtain⟨s,rfl⟩:=lW.mp e.1
 have hs:s≠[]:=λz=>by subst z;simp at e
 have:=h8 _ hp
 rw[lae] at this
 have:=lbT.mpr hs
 omega
def zmx (ks:qQ1)(k:List Nat):qQ1:=if k∈ks then ks else ks++[k]
def zoX (p:List Nat):qQ1:=(List.range p.length).map λe=>p.take e
def yd (ps:qQ1):qQ1:=(ps.flatMap zoX).foldl zmx []
def sortF (ls:qQ1):qQ1:=ls.mergeSort λa b=>!decide (b<a)
theorem zbb (ls:qQ1):(sortF ls).Pairwise (·<=·):=by
 have h:=List.pairwise_mergeSort (le:=λa b:List Nat=>!decide (b<a)) (λa b c h1 h2=>by
  have h1':a<=b:=la8.mp (by simpa using h1)
  have h2':b<=c:=la8.mp (by simpa using h2)
  have h3:¬c<a:=la8.mpr (lee h1' h2')
  simpa using h3) (λa b=>by
  rcases List.le_total a b with h|h
  ·have:=la8.mpr h
   simp[this]
  ·have:=la8.mpr h
   simp[this]) ls
 exact h.imp λh=>la8.mp (by simpa using h)
theorem vh (ls:qQ1):(sortF ls).Perm ls:=List.mergeSort_perm ls _
theorem sortF_eq {ms:qQ1}(h:ms.Pairwise (·<=·))(p:ms.Perm ls):ms=sortF ls:=lcJ (λ_ _ _ _ h k=>ldf h k) h (zbb ls) (p.trans (vh ls).symm)
def zQ (ps:qQ1)(s:qQ1×List Nat)(c:Nat):qQ1×List Nat:=if s.2++[c]∈ps then(s.1++[s.2++[c]],[]) else(s.1,s.2++[c])
def wA (ps:qQ1)(l:List Nat):qQ1×List Nat:=l.foldl (zQ ps) ([],[])
theorem zfK (ps:qQ1)(l:List Nat):(wA ps l).1.length<=l.length/\(wA ps l).2.length<=l.length:=by
 have key:∀(l:List Nat) (s:qQ1×List Nat),(l.foldl (zQ ps) s).1.length<=s.1.length+l.length/\(l.foldl (zQ ps) s).2.length<=s.2.length+l.length:=by
  intro l
  induction l with
  | nil=>intro s;simp
  | cons c r ih =>
   intro s
   rw[la6,laf]
   have:=ih (zQ ps s c)
   have h1:(zQ ps s c).1.length<=s.1.length+1/\(zQ ps s c).2.length<=s.2.length+1:=by
    unfold zQ
    split <;>simp
   omega
 have:=key l ([],[])
 simpa [wA] using this
structure Book (m:Nat)(B:qQ1):Prop where
 m2:2<=m
 m4:m<=4
 let_:∀p∈B,LetOk m p
 ne:∀p∈B,p≠[]
 pf:∀p∈B,∀q∈B,p <+: q->p=q
 cv:∀x,LetOk m x->∃p∈B,p <+: x∨x <+: p
 srt:B.Pairwise (·<=·)
 nd:B.Nodup
theorem zjn (h:c∈abcd.take m):97<=c/\c<97+m:=by
 obtain⟨i,hi,rfl⟩:=ldi.mp h
 have h1:i<m:=by rw[las] at hi;omega
 have h2:i<4:=by rw[las] at hi;have:abcd.length=4:=rfl;omega
 rw[List.getElem_take]
 have:i=0∨i=1∨i=2∨i=3:=by omega
 rcases this with rfl|rfl|rfl|rfl
 ·show 97<=97/\97<_;omega
 ·show 97<=98/\98<_;omega
 ·show 97<=99/\99<_;omega
 ·show 97<=100/\100<_;omega
theorem vd (hm:m<=4)(h:97<=c/\c<97+m):c∈abcd.take m:=by
 have:m=0∨m=1∨m=2∨m=3∨m=4:=by omega
 have:c=97∨c=98∨c=99∨c=100:=by omega
 rcases this with rfl|rfl|rfl|rfl <;>rcases(by assumption:m=0∨_) with rfl|rfl|rfl|rfl|rfl <;>first|decide|omega
theorem zk5 (m:Nat):(abcd.take m).Nodup:=List.Sublist.nodup (List.take_sublist _ _) (by decide)
theorem LetOk.one (h:c∈abcd.take m):LetOk m [c]:=λd hd=>by rw[lR.mp hd];exact zjn h
theorem LetOk.pre {y:List Nat}(h:LetOk m y)(p:x <+: y):LetOk m x:=λc hc=>h c (p.subset hc)
theorem zhS (h:Book m B)(hx:LetOk m x):yS B x=false:=by
 obtain⟨p,hp,e⟩:=h.cv x hx
 unfold yS
 rw[Bool.not_eq_false',lcf]
 refine⟨p,hp,?_⟩
 rw[ld1,lW,lW]
 exact e.symm
theorem zgI (h:∀x∈xs,LetOk m x):∀y∈zN m xs,LetOk m y:=λy hy=>by
 obtain⟨x,hx,c,hc,rfl⟩:=jh hy
 exact(h x hx).app (LetOk.one hc)
theorem zgr {m:Nat}{B:qQ1}(h:Book m B):∀(n:Nat) (xs:qQ1),(∀x∈xs,LetOk m x)->fta m B n xs=none
 | 0,_,_=>rfl
 | n+1,xs,hx=>by
  unfold fta
  split
  ·rfl
  ·have hg:=zgI hx
   have e:(zN m xs).find? (yS B)=none:=lch.mpr λx hx=>by rw[zhS h (hg x hx)];exact lH
   rw[e]
   exact zgr h n _ λx hx=>hg x (lbC.mp hx).1
theorem zcc (h:Book m B):wM m B=none:=zgr h 32 [[]] λx hx=>by
 rw[lR.mp hx]
 intro c hc
 cases hc
theorem zdS {α:Type}:∀{l:List α}{x:α×α},x∈l.zip l.tail->x.1∈l/\x.2∈l:=λ{l x} h=>⟨(lcb h).1,List.mem_of_mem_tail (lcb h).2⟩
theorem qe {α:Type}{R:α->α->Prop}:∀{l:List α},l.Pairwise R->∀x∈l.zip l.tail,R x.1 x.2
 | [],_,x,h=>by cases h
 | [_],_,x,h=>by cases h
 | a::b::r,p,x,h=>by
  have h':x∈(a,b)::(b::r).zip r:=h
  rcases lI.mp h' with rfl|h'
  ·exact List.rel_of_pairwise_cons p lD
  ·exact qe (l:=b::r) (laC.mp p).2 x h'
theorem strict (s:B.Pairwise (·<=·))(n:B.Nodup):B.Pairwise (· < ·):=by
 have:=List.Pairwise.and s n
 exact this.imp λ⟨h,k⟩=>lcw λhn=>k (ldf h (la8.mp hn))
theorem zb9 (h:Book m B):wz B=none:=by
 refine lch.mpr λx hx=>?_
 intro e
 have hm:=zdS hx
 have:=h.pf _ hm.1 _ hm.2 (lW.mp e)
 have lt:=qe (strict h.srt h.nd) x hx
 rw[this] at lt
 exact lb7 _ lt
theorem zho (h:Book m B):rising B=true:=by
 unfold rising
 rw[lZ]
 exact λx hx=>lX (qe (strict h.srt h.nd) x hx)
theorem Book.isBook {m:Nat}{B:qQ1}(h:Book m B):isBook m B=true:=by
 unfold My.isBook
 rw[zho h,zb9 h,zcc h]
 rfl
def kids (m:Nat)(p:List Nat):qQ1:=(abcd.take m).map λc=>p++[c]
theorem kids_mem :x∈kids m p↔∃c∈abcd.take m,x=p++[c]:=by
 unfold kids
 rw[lat]
 exact⟨λ⟨c,h,e⟩=>⟨c,h,e.symm⟩,λ⟨c,h,e⟩=>⟨c,h,e.symm⟩⟩
theorem zfl (m:Nat)(p:List Nat):(kids m p).Nodup:=by
 unfold kids
 rw[List.nodup_iff_pairwise_ne,List.pairwise_map]
 refine(zk5 m).imp λh e=>h ?_
 exact List.singleton_inj.mp (List.append_cancel_left e)
theorem zcy (m:Nat)(hm:m<=4)(p:List Nat):(kids m p).length=m:=by
 unfold kids
 rw[lQ,las]
 show min m 4=m
 omega
theorem zof (hm:2<=m)(hp:∀x∈kids m p,x∈B)(hx:LetOk m x)(m4:m<=4)(h:p <+: x∨x <+: p):∃q∈B,q <+: x∨x <+: q:=by
 have h97:97∈abcd.take m:=vd m4 (by omega)
 rcases h with⟨s,rfl⟩|h
 ·cases s with
  | nil=>exact⟨p++[97],hp _ (kids_mem.mpr ⟨97,h97,rfl⟩),.inr (by rw[lY];exact lbd _ _)⟩
  | cons c r =>
   have hc:=hx c (by simp)
   exact⟨p++[c],hp _ (kids_mem.mpr ⟨c,vd m4 hc,rfl⟩),.inl ⟨r,by simp⟩⟩
 ·exact⟨p++[97],hp _ (kids_mem.mpr ⟨97,h97,rfl⟩),.inr (h.trans (lbd _ _))⟩
theorem zcK (p:List Nat)(c:Nat):p++[c]≠p:=λe=>by have:=lbB List.length e;simp at this
def part (m:Nat)(B:qQ1)(j:Nat):qQ1:=sortF (B.eraseIdx j++kids m (B.getD j []))
theorem part_mem (hn:B.Nodup)(hj:j<B.length):x∈part m B j↔(x∈B/\x≠B.getD j [])∨x∈kids m (B.getD j []):=by
 unfold part
 rw[(vh _).mem_iff,laW]
 have e:B.getD j []=B[j]:=by rw[ly,lh hj];rfl
 have:x∈B.eraseIdx j↔x∈B/\x≠B.getD j []:=by
  rw[List.mem_eraseIdx_iff_getElem,e]
  constructor
  ·rintro⟨i,hi,hij,rfl⟩
   exact⟨laD hi,λz=>hij ((List.getElem_inj hn).mp z)⟩
  ·rintro⟨hx,hne⟩
   obtain⟨i,hi,rfl⟩:=ldi.mp hx
   exact⟨i,hi,λz=>hne (by subst z;rfl),rfl⟩
 rw[this]
theorem Book.part {m:Nat}{B:qQ1}(h:Book m B){j:Nat}(hj:j<B.length):Book m (part m B j):=by
 have hpm:B.getD j []∈B:=by rw[ly,lh hj];exact laD hj
 have mem:=λx=>part_mem (m:=m) h.nd hj (x:=x)
 have hsr:(My.part m B j).Pairwise (·<=·):=zbb _
 have hnd:(My.part m B j).Nodup:=by
  unfold My.part
  refine(vh _).nodup_iff.mpr (lbO.mpr ⟨h.nd.eraseIdx j,zfl _ _,?_⟩)
  rintro a ha b hb rfl
  have haB:a∈B:=List.mem_of_mem_eraseIdx ha
  obtain⟨c,hc,rfl⟩:=kids_mem.mp hb
  have:=h.pf _ hpm _ haB (lbd _ _)
  exact zcK _ _ this.symm
 generalize My.part m B j=C at mem hsr hnd
 generalize B.getD j []=p at mem hpm
 refine⟨h.m2,h.m4,λx hx=>?_,λx hx=>?_,λx hx y hy hxy=>?_,λx hx=>?_,hsr,hnd⟩
 ·rcases (mem x).mp hx with⟨hx,_⟩|hx
  ·exact h.let_ x hx
  ·obtain⟨c,hc,rfl⟩:=kids_mem.mp hx
   exact(h.let_ _ hpm).app (LetOk.one hc)
 ·rcases (mem x).mp hx with⟨hx,_⟩|hx
  ·exact h.ne x hx
  ·obtain⟨c,hc,rfl⟩:=kids_mem.mp hx
   simp
 ·rcases (mem x).mp hx with⟨hx,nx⟩|hx <;>rcases(mem y).mp hy with⟨hy,ny⟩|hy
  ·exact h.pf x hx y hy hxy
  ·obtain⟨c,hc,rfl⟩:=kids_mem.mp hy
   rcases la5.mp hxy with e|e
   ·exact e
   ·exact absurd (h.pf x hx p hpm e) nx
  ·obtain⟨c,hc,rfl⟩:=kids_mem.mp hx
   exact absurd (h.pf p hpm y hy ((lbd _ _).trans hxy)).symm ny
  ·obtain⟨c,hc,rfl⟩:=kids_mem.mp hx
   obtain⟨d,hd,rfl⟩:=kids_mem.mp hy
   exact hxy.eq_of_length (by simp)
 ·obtain ⟨q,hq,e⟩:=h.cv x hx
  by_cases hqp:q=p
  ·subst hqp
   exact zof h.m2 (λz hz=>(mem z).mpr (.inr hz)) hx h.m4 e
  ·exact⟨q,(mem q).mpr (.inl ⟨hq,hqp⟩),e⟩
theorem Book.letters (m2:2<=m)(m4:m<=4):Book m (kids m []):=by
 refine⟨m2,m4,λx hx=>?_,λx hx=>?_,λx hx y hy hxy=>?_,λx hx=>?_,?_,zfl m []⟩
 ·obtain⟨c,hc,rfl⟩:=kids_mem.mp hx
  exact LetOk.one hc
 ·obtain⟨c,hc,rfl⟩:=kids_mem.mp hx
  simp
 ·obtain⟨c,hc,rfl⟩:=kids_mem.mp hx
  obtain⟨d,hd,rfl⟩:=kids_mem.mp hy
  exact hxy.eq_of_length (by simp)
 ·exact zof m2 (λz hz=>hz) hx m4 (.inl (ldp))
 ·have:m=2∨m=3∨m=4:=by omega
  rcases this with rfl|rfl|rfl <;>decide
def Inner (B:qQ1)(x:List Nat):Prop:=∃p∈B,x <+: p/\x≠p
theorem foldl_addK (l:qQ1):∀ks:qQ1,ks.Nodup->(l.foldl zmx ks).Nodup/\∀x,x∈l.foldl zmx ks↔x∈ks∨x∈l:=by
 induction l with
 | nil=>intro ks h;exact⟨h,λx=>by simp⟩
 | cons k r ih =>
  intro ks h
  rw[la6]
  have h1:(zmx ks k).Nodup/\∀x,x∈zmx ks k↔x∈ks∨x=k:=by
   unfold zmx
   split
   ·exact⟨h,λx=>⟨.inl,λz=>z.elim id λe=>by rw[e];assumption⟩⟩
   ·rename_i hk
    refine⟨lbO.mpr ⟨h,by simp,?_⟩,λx=>by simp⟩
    rintro a ha b hb rfl
    rw[lR.mp hb] at ha
    exact hk ha
  obtain⟨h2,h3⟩:=ih _ h1.1
  refine⟨h2,λx=>?_⟩
  rw[h3,h1.2,lI,or_assoc]
theorem begs_mem :x∈zoX p↔x <+: p/\x≠p:=by
 unfold zoX
 rw[lat]
 constructor
 ·rintro⟨e,he,rfl⟩
  have he':=lbf.mp he
  refine⟨lcz _ _,λz=>?_⟩
  have:=lbB List.length z
  rw[las] at this
  omega
 ·rintro⟨h,hn⟩
  refine⟨x.length,lbf.mpr ?_,(lcP.mp h).symm⟩
  have h1:=h.length_le
  have:x.length≠p.length:=λz=>hn (h.eq_of_length z)
  omega
theorem vY (B:qQ1):(yd B).Nodup:=(foldl_addK _ [] lb8).1
theorem innerKeys_mem :x∈yd B↔Inner B x:=by
 unfold yd
 rw[(foldl_addK _ [] lb8).2,lde]
 simp only[List.not_mem_nil,false_or]
 exact⟨λ⟨p,hp,h⟩=>⟨p,hp,begs_mem.mp h⟩,λ⟨p,hp,h⟩=>⟨p,hp,begs_mem.mpr h⟩⟩
theorem zcp (m2:2<=m)(m4:m<=4)(hn:B.Nodup)(hj:j<B.length)(h:Inner (part m B j) x):Inner B x∨x=B.getD j []:=by
 obtain⟨q,hq,hx,hne⟩:=h
 have hpm:B.getD j []∈B:=by rw[ly,lh hj];exact laD hj
 rcases(part_mem hn hj).mp hq with⟨hq,_⟩|hq
 ·exact .inl ⟨q,hq,hx,hne⟩
 ·obtain ⟨c,hc,rfl⟩:=kids_mem.mp hq
  rcases la5.mp hx with e|e
  ·exact absurd e hne
  ·by_cases hp:x=B.getD j []
   ·exact .inr hp
   ·exact .inl ⟨_,hpm,e,hp⟩
theorem sortF_mem :x∈sortF ls↔x∈ls:=(vh ls).mem_iff
theorem zi7 (m4:m<=4)(hj:j<B.length):(part m B j).length=B.length - 1+m:=by
 unfold part
 rw[(vh _).length_eq,lae,zcy m m4,List.length_eraseIdx,lU hj]
def ziT (B:qQ1)(x:List Nat):Prop:=∀y,y <+: x->y≠[]->y∉B
theorem zdL {B:qQ1}(acc:qQ1):∀(r l:List Nat),ziT B (l++r)->r.foldl (zQ B) (acc,l)=(acc,l++r)
 | [],l,_=>by simp
 | c::r,l,h=>by
  have hn:l++[c]∉B:=h _ ⟨r,by simp⟩ (by simp)
  rw[la6]
  have e:zQ B (acc,l) c=(acc,l++[c]):=by unfold zQ;rw[lac hn]
  rw[e,zdL acc r (l++[c]) (by simpa using h)]
  simp
theorem zdb {B:qQ1}(acc:qQ1):∀(r:List Nat) (a:qQ1) (l:List Nat),r.foldl (zQ B) (acc++a,l)=(acc++(r.foldl (zQ B) (a,l)).1,(r.foldl (zQ B) (a,l)).2)
 | [],a,l=>rfl
 | c::r,a,l=>by
  rw[la6,la6]
  by_cases h:l++[c]∈B
  ·have e1:zQ B (acc++a,l) c=(acc++(a++[l++[c]]),[]):=by unfold zQ;rw[lU h,la3]
   have e2:zQ B (a,l) c=(a++[l++[c]],[]):=by unfold zQ;rw[lU h]
   rw[e1,e2]
   exact zdb acc r _ _
  ·have e1:zQ B (acc++a,l) c=(acc++a,l++[c]):=by unfold zQ;rw[lac h]
   have e2:zQ B (a,l) c=(a,l++[c]):=by unfold zQ;rw[lac h]
   rw[e1,e2]
   exact zdb acc r _ _
theorem zfw (B:qQ1):∀(r:List Nat) (s:qQ1×List Nat),ziT B s.2->(∀p∈s.1,p∈B)->ziT B (r.foldl (zQ B) s).2/\(∀p∈(r.foldl (zQ B) s).1,p∈B)/\(r.foldl (zQ B) s).1.flatten++(r.foldl (zQ B) s).2=s.1.flatten++s.2++r
 | [],s,h1,h2=>⟨h1,h2,by simp⟩
 | c :: r,s,h1,h2=>by
  rw[la6]
  by_cases h:s.2++[c]∈B
  ·have e:zQ B s c=(s.1++[s.2++[c]],[]):=by unfold zQ;rw[lU h]
   rw[e]
   obtain ⟨a1,a2,a3⟩:=zfw B r (s.1++[s.2++[c]],[]) (λy hy hn=>absurd (lbU.mp hy) hn) (λp hp=>by
    rcases laW.mp hp with hp|hp
    ·exact h2 p hp
    ·rw[lR.mp hp];exact h)
   exact⟨a1,a2,by rw[a3];simp⟩
  ·have e:zQ B s c=(s.1,s.2++[c]):=by unfold zQ;rw[lac h]
   rw[e]
   obtain ⟨a1,a2,a3⟩:=zfw B r (s.1,s.2++[c]) (λy hy hn=>by
    rcases la5.mp hy with e|e
    ·rw[e];exact h
    ·exact h1 y e hn) h2
   exact⟨a1,a2,by rw[a3];simp⟩
theorem zj0 (B:qQ1):ziT B []:=λy hy hn=>absurd (lbU.mp hy) hn
theorem zhP (B:qQ1)(l:List Nat):ziT B (wA B l).2/\(∀p∈(wA B l).1,p∈B)/\(wA B l).1.flatten++(wA B l).2=l:=by
 have:=zfw B l ([],[]) (zj0 B) (by simp)
 simpa [wA] using this
theorem zdh (h:ziT B x):wA B x=([],x):=by
 have:=zdL (B:=B) [] x [] (by simpa using h)
 simpa [wA] using this
theorem zg6 (B:qQ1)(l r:List Nat):wA B (l++r)=((wA B l).1++(wA B ((wA B l).2++r)).1,(wA B ((wA B l).2++r)).2):=by
 have h1:wA B ((wA B l).2++r)=r.foldl (zQ B) ([],(wA B l).2):=by
  have:=zdh (zhP B l).1
  unfold wA at this ⊢
  rw[lc1,this]
 rw[h1]
 have h2:wA B (l++r)=r.foldl (zQ B) (wA B l):=by unfold wA;rw[lc1]
 rw[h2]
 have:=zdb (B:=B) (wA B l).1 r [] (wA B l).2
 rw[lY] at this
 exact this
theorem Book.free (h:Book m B)(hx:Inner B x):ziT B x:=λy hy hn hyB=>by
 obtain⟨p,hp,hxp,hne⟩:=hx
 have e:=h.pf y hyB p hp (hy.trans hxp)
 subst e
 exact hne (List.IsPrefix.eq_of_length hxp (ld2 hxp.length_le hy.length_le))
theorem Book.cutOne (h:Book m B)(hp:p∈B):wA B p=([p],[]):=by
 have hne:=h.ne p hp
 have e:p=p.dropLast++[p.getLast hne]:=(lci hne).symm
 have hf:ziT B p.dropLast:=h.free ⟨p,hp,lbu p,λz=>by
  have:=lbB List.length z
  rw[lbM] at this
  have:=lbT.mpr hne
  omega⟩
 have h1:=zdh hf
 rw[e]
 unfold wA at h1 ⊢
 rw[lc1,h1]
 show zQ B ([],p.dropLast) (p.getLast hne)=_
 unfold zQ
 rw[lU (by rw[← e];exact hp)]
 rfl
theorem Book.cutSome (h:Book m B):∀ps:qQ1,(∀p∈ps,p∈B)->wA B ps.flatten=(ps,[])
 | [],_=>rfl
 | p::r,hp=>by
  rw[lbi,zg6,h.cutOne (hp p lD)]
  have:=Book.cutSome h r λq hq=>hp q (lz _ hq)
  simp only[laE,this]
  rfl
inductive Gr (m:Nat):Nat->qQ1->Prop
 | z:Gr m 0 (kids m [])
 | s {t:Nat}{B:qQ1}{j:Nat}:Gr m t B->j<B.length->Gr m (t+1) (part m B j)
theorem Gr.book (m2:2<=m)(m4:m<=4)(h:Gr m t B):Book m B:=by
 induction h with
 | z=>exact Book.letters m2 m4
 | s _ hj ih=>exact ih.part hj
theorem Gr.len (m2:2<=m)(m4:m<=4)(h:Gr m t B):B.length=m+t*(m - 1):=by
 induction h with
 | z=>rw[zcy m m4];omega
 | s _ hj ih =>
  rename_i B' t' _
  rw[zi7 m4 hj,ih,Nat.add_mul]
  generalize _*(m - 1)=z
  omega
theorem Gr.short (m2:2<=m)(m4:m<=4)(h:Gr m t B):∀p∈B,p.length<=t+1:=by
 induction h with
 | z=>intro p hp;obtain⟨c,_,rfl⟩:=kids_mem.mp hp;simp
 | s g hj ih =>
  rename_i t' B' j
  intro p hp
  have hpm:B'.getD j []∈B':=by rw[ly,lh hj];exact laD hj
  rcases(part_mem (g.book m2 m4).nd hj).mp hp with⟨hp,_⟩|hp
  ·have:=ih p hp;omega
  ·obtain⟨c,_,rfl⟩:=kids_mem.mp hp
   have:=ih _ hpm
   rw[lae]
   show _+1<=_
   omega
theorem Gr.inner (m2:2<=m)(m4:m<=4)(h:Gr m t B):∃L:qQ1,L.length=t+1/\∀x,Inner B x->x∈L:=by
 induction h with
 | z =>
  refine⟨[[]],rfl,λx hq35=>?_⟩
  obtain⟨p,hp,hx,hn⟩:=hq35
  obtain⟨c,_,rfl⟩:=kids_mem.mp hp
  rcases la5.mp hx with e|e
  ·exact absurd e hn
  ·rw[lbU.mp e];simp
 | s g hj ih =>
  rename_i t' B' j
  obtain⟨L,h1,h2⟩:=ih
  refine⟨L++[B'.getD j []],by simp[h1],λx hx=>?_⟩
  rcases zcp m2 m4 (g.book m2 m4).nd hj hx with h|h
  ·exact lbL _ (h2 x h)
  ·rw[h];simp
theorem Gr.keys (m2:2<=m)(m4:m<=4)(h:Gr m t B):(yd B).length<=t+1:=by
 obtain⟨L,h1,h2⟩:=h.inner m2 m4
 rw[← h1]
 exact(vY B).length_le_of_subset λx hx=>h2 x (innerKeys_mem.mp hx)
theorem kY {m:Nat}(m4:m<=4):∀{n:Nat}{x:List Nat},x∈zY m n↔x.length=n/\LetOk m x
 | 0,x=>by
  show x∈[[]]↔_
  rw[lR,la0]
  exact⟨λe=>⟨e,by rw[e];intro c hc;cases hc⟩,λe=>e.1⟩
 | n+1,x=>by
  show x∈zN m (zY m n)↔_
  constructor
  ·intro h
   obtain⟨y,hy,c,hc,rfl⟩:=jh h
   obtain⟨h1,h2⟩:=(kY m4).mp hy
   exact⟨by simp[h1],h2.app (LetOk.one hc)⟩
  ·rintro⟨h1,h2⟩
   have hne:x≠[]:=λe=>by rw[e] at h1;simp at h1
   have e:x.dropLast++[x.getLast hne]=x:=lci hne
   unfold zN
   refine lde.mpr ⟨x.dropLast,(kY m4).mpr ⟨by rw[lbM];omega,h2.pre (lbu x)⟩,lat.mpr ⟨x.getLast hne,vd m4 (h2 _ (List.getLast_mem hne)),e⟩⟩
end My
namespace L2
open PySem PySem.Spec PyProof.Rows
section
variable {prog:Program}{w:World}{A:Around}{E:qQ2}{s:Shared}
theorem zfo {l:Addr}{vs:List Value}{Q:List Value->Shared->Prop}(hl:IsTup s.heap l vs.toArray)
  (h:Q vs {s with heap:=(s.heap.push (seqObj "list" #[] 0)).update s.heap.objs.size (Obj.mapSeq (· ++ vs.toArray))}) (hsz:vs.length<=sizeLine) :
  wpAny (model prog w) A (collect (.ref l)) Q E s:=by
 obtain⟨o,ho,hc,n,hd⟩:=id hl
 unfold collect
 refine la (wpAny_runValue (la9 entry_proto_collect' ?_))
 show wpAny _ _ (do again (.builtin "list.__iadd__" ⟨[← newList [],.ref l],[]⟩)) _ _ s
 refine la (lcr (lr ⟨Code.quiet_builtin _ (by decide +kernel),la9 entry_list_iadd' ?_⟩))
 show wpAny _ _ (Builtin.List.listExtendWith (.ref s.heap.objs.size) (.ref l) (.ref s.heap.objs.size)) _ _ {s with heap:=s.heap.push (seqObj "list" #[] 0)}
 unfold Builtin.List.listExtendWith
 have ho':(s.heap.push (seqObj "list" #[] 0)).get? l=some o:=lg _ ho
 refine la (ldw (T := "tuple") ⟨o,ho',hc⟩ ?_)
 have ht:(Value.type "tuple" == Value.type "tuple")=true:=by rfl
 rw[lU (by rw[ht];simp)]
 refine la (ldA ho' hd ?_)
 refine la (ldA (xs:=#[]) (n:=0) (lC _ rfl) rfl ?_)
 rw[lac (by simp)]
 refine la (ldk (xs:=#[]) (n:=0) (lC _ rfl) rfl ?_ (lbq _) (by show(#[]++vs.toArray).size<=sizeLine+1;simp only[ldE,lP,laO];omega))
 refine lr ?_
 show wpAny (model prog w) A (do
   let o ← load s.heap.objs.size
   match o.data with
   | .seq xs _=>pure xs.toList
   | _=>unsupported "internal:collect") Q E {s with heap:=(s.heap.push (seqObj "list" #[] 0)).update s.heap.objs.size (Obj.mapSeq (· ++ vs.toArray))}
 refine la (wpAny_load (lbV (lC _ rfl) _) ?_)
 show wpAny _ _ (pure ((#[]:Array Value)++vs.toArray).toList) Q E _
 rw[show((#[]:Array Value)++vs.toArray).toList=vs by simp]
 exact lr h
theorem zjj {κ:KeyKind}(hO:κ.OneLt){l:Addr}{vs:List Value}{Q:qQ2}(hl:IsTup s.heap l vs.toArray)(h0:KeysOf κ (pairsOf vs))(hkk:∀v₁ v₂ rest,vs=v₁::v₂::rest->keyKind' (v₁::v₂::rest).toArray=pure oneType')(h64:vs.length<64)
  (h:∀st':SortSt,(arrOf st').Perm (pairsOf vs)->SortedToK κ (arrOf st') (pairsOf vs).size->Q (.ref (s.heap.objs.size+1)) {s with heap:=sortedAll s.heap vs ((arrOf st').map (·.2))}) :
  wpAny (model prog w) A (call (.builtin "sorted") [.ref l]) Q E s:=by
 have hz:vs.length<=sizeLine:=by rw[lbg];omega
 refine Calls.call_function_entry kind_sorted plain_sorted entry_sorted (args_sorted1 _) ?_
 unfold Builtin.«sorted»
 refine la (m:=checkCount "sorted" 1 1 _) (lr ?_)
 refine la (zfo hl ?_ hz)
 refine la (lcr ?_)
 have hsz:((s.heap.push (seqObj "list" #[] 0)).update s.heap.objs.size (Obj.mapSeq (· ++ vs.toArray))).objs.size=s.heap.objs.size+1:=by
  rw[lcA,ldm]
 have hoL:(((s.heap.push (seqObj "list" #[] 0)).update s.heap.objs.size (Obj.mapSeq (· ++ vs.toArray))).push (seqObj "list" vs.toArray 0)).get? (s.heap.objs.size+1)=some (seqObj "list" vs.toArray 0):=by
  rw[← hsz];exact lC _ rfl
 show wpAny _ _ _ _ _ {s with heap:=((s.heap.push (seqObj "list" #[] 0)).update s.heap.objs.size (Obj.mapSeq (· ++ vs.toArray))).push (seqObj "list" vs.toArray 0)}
 rw[hsz]
 refine la (lak (lad slot_list_sort ⟨_,hoL,rfl⟩ entry_list_sort (list_sort_treeK hO hoL h0 hkk h64 λst' a1 a2=>⟨_,rfl,?_⟩) (args_list_sort _)))
 exact lr ⟨_,rfl,h st' a1 a2⟩
end
section
variable {X:Cx}
theorem zeu:qP X (.builtin "sorted") (λxs H Q=>∃a ls,xs=[.ref a]/\SqT X.K H a (vT ls)/\ls.length<64/\∀p ms,H p=none->ms.Perm ls->Srt ms->Q (.ref p) (upd H p (.lst (vT ms)))):=by
 intro pins s σ H xs us Q I r h
 obtain⟨a,ls,rfl,ha,h64,q⟩:=h
 obtain⟨u,rfl,ru⟩:=vals1 r
 cases ru
 obtain⟨its,rv,pl,hz⟩:=I.tuple ha
 rw[zpv] at rv
 have hl:=rv.length
 simp only[lQ] at hl
 have hS:=jQ rv
 refine zjj strKind_oneLt pl hS.keysOf (λv₁ v₂ rest e=>keyKind_strs (by rw[← e];exact hS)) (by omega) λst' hp hs=>?_
 obtain⟨ss',h1,h2,h3⟩:=sorted_out_str hS hp hs
 have hS:=zkK h3
 have hP:(ss'.map λx=>x.cps.toList).Perm ls:=by
  have:=h2.map λx:Str=>x.cps.toList
  rw[laK] at this
  have e:ls.map ((λx:Str=>x.cps.toList)∘T)=ls:=by
   have:((λx:Str=>x.cps.toList)∘T)=id:=funext λl=>zac l
   rw[this,List.map_id]
  rw[e] at this
  exact this
 obtain⟨c,hat⟩:=sortedAll_at s.heap its ((arrOf st').map (·.2))
 have hlen:ss'.length=ls.length:=by have:=h2.length_eq;simpa using this
 refine⟨.ref (s.heap.objs.size+1),_,I.laid (t':=s.toks) (o:=.lst (vT (ss'.map λx=>x.cps.toList))) (λb o e=>sortedAll_old e) (lcF _) ?_,rfl,q _ _ (I.hok.fresh (lcF _)) hP hS⟩
 refine⟨?_,((arrOf st').map (·.2)).toList,c,?_,by rw[Array.toArray_toList];exact hat⟩
 ·rw[← zgf,lQ,lbg];omega
 ·rw[← zgf];exact zbk h1
def zn5 (K:qQ0):R2:=λx y H Q=>∃a b xs ys,x=.ref a/\y=.ref b/\SqT K H a xs/\SqT K H b ys/\xs.length+ys.length<=sizeLine /\
 ∀p H',Same H H'->SqT K H' p (xs++ys)->Q (.ref p) H'
theorem zhF:OpR X (binaryOp .Add) (zn5 X.K):=by
 intro pins s σ H x y v u Q I rx ry h
 obtain⟨a,b,xs,ys,rfl,rfl,ha,hb,hz,q⟩:=h
 cases rx
 cases ry
 obtain⟨its,r1,p1,_⟩:=I.tuple ha
 obtain⟨its2,r2,p2,_⟩:=I.tuple hb
 by_cases hx:xs=[]
 ·obtain ⟨⟨cls,dd,data,sl⟩,ho,hc,n,hd⟩:=id p1
  obtain⟨⟨cls2,dd2,data2,sl2⟩,ho2,hc2,n2,hd2⟩:=id p2
  simp only at hc hd hc2 hd2
  subst hc hd hc2 hd2
  have hi:its=[]:=r1.nil_iff.mpr hx
  refine ldX ⟨_,ho,rfl⟩ ⟨_,ho2,rfl⟩ ldR seq_tuple_add lcU lcL (lcH _ _)
   (tuple_addW0 a b its.toArray its2.toArray n n2 dd dd2 sl sl2 (by simp[hi])) ⟨ho,ho2,.ref b,H,I,rfl,q b H (Same.refl _) ?_⟩
  rw[hx]
  exact hb
 ·refine HT.cat_tup p1 p2 (λz=>hx (r1.nil_iff.mp z)) (λz=>⟨.ref a,H,I,rfl,q a H (Same.refl _) ?_⟩) (λz=>?_) (by rw[← r1.length,← r2.length];exact hz)
  ·rw[r2.nil_iff.mp z,lY]
   exact ha
  ·have hf:H s.heap.objs.size=none:=I.hok.fresh (lB _)
   refine⟨.ref s.heap.objs.size,_,I.laid (t':=s.toks) (o:=.tup (xs++ys)) (λb ob q=>lg _ q) (lB _) ?_,rfl,q _ _ (Same.upd hf) (SqT.of zV)⟩
   exact⟨by rw[lae];exact hz,_,r1.append r2,TupD.new _ _⟩
end
end L2
namespace My
variable {ps B:qQ1}{x:List Nat}{m:Nat}
theorem inner_iff :isInner ps x=true↔Inner ps x:=by
 unfold isInner Inner
 rw[lcf]
 constructor
 ·rintro⟨p,hp,e⟩
  rw[lM,lW,lbP,decide_eq_false_iff_not] at e
  exact⟨p,hp,e.1,λz=>e.2 z.symm⟩
 ·rintro⟨p,hp,e,hn⟩
  refine⟨p,hp,?_⟩
  rw[lM,lW,lbP,decide_eq_false_iff_not]
  exact⟨e,λz=>hn z.symm⟩
theorem apart_iff :yS ps x=true↔∀p∈ps,¬x <+: p/\¬p <+: x:=by
 unfold yS
 rw[lbP,List.any_eq_false]
 constructor
 ·intro h p hp
  have:=h p hp
  rw[ld1,lW,lW] at this
  exact⟨λz=>this (.inl z),λz=>this (.inr z)⟩
 ·intro h p hp
  rw[ld1,lW,lW]
  exact λz=>z.elim (h p hp).1 (h p hp).2
theorem zir {xs:qQ1}{c:Nat}(hx:x∈xs)(hc:c∈abcd.take m):x++[c]∈zN m xs:=by
 unfold zN
 exact lde.mpr ⟨x,hx,lat.mpr ⟨c,hc,rfl⟩⟩
theorem Book.nilInner (h:Book m B):Inner B []:=by
 obtain⟨p,hp,_⟩:=h.cv [] (λc hc=>by cases hc)
 exact⟨p,hp,ldp,λz=>h.ne p hp z.symm⟩
theorem Book.innerLet (h:Book m B)(hx:Inner B x):LetOk m x:=by
 obtain⟨p,hp,hxp,_⟩:=hx
 exact(h.let_ p hp).pre hxp
theorem Book.step (h:Book m B)(hx:Inner B x){c:Nat}(hc:c∈abcd.take m):(Inner B (x++[c])/\x++[c]∉B)∨(¬Inner B (x++[c])/\x++[c]∈B):=by
 have hnot:Inner B (x++[c])->x++[c]∉B:=λhi=>h.free hi _ (lcB _) (by simp)
 by_cases hB:x++[c]∈B
 ·exact .inr ⟨λhi=>hnot hi hB,hB⟩
 ·refine .inl ⟨?_,hB⟩
  obtain⟨q,hq,e⟩:=h.cv (x++[c]) ((h.innerLet hx).app (LetOk.one hc))
  rcases e with e|e
  ·rcases la5.mp e with e|e
   ·exact absurd (e▸hq) hB
   ·exact absurd hq (h.free hx q e (h.ne q hq))
  ·exact⟨q,hq,e,λz=>hB (z▸hq)⟩
theorem zbc (m2:2<=m)(m4:m<=4)(hb:Book m B){j:Nat}(hj:j<B.length):Inner (part m B j) x↔Inner B x∨x=B.getD j []:=by
 have hpm:B.getD j []∈B:=by rw[ly,lh hj];exact laD hj
 have h97:97∈abcd.take m:=vd m4 (by omega)
 have hk:B.getD j []++[97]∈part m B j:=(part_mem hb.nd hj).mpr (.inr (kids_mem.mpr ⟨97,h97,rfl⟩))
 refine⟨zcp m2 m4 hb.nd hj,?_⟩
 rintro(⟨p,hp,hx,hne⟩|rfl)
 ·by_cases e:p=B.getD j []
  ·refine ⟨_,hk,?_,?_⟩
   ·rw[← e];exact hx.trans (lbd _ _)
   ·intro z
    have h1:=hx.length_le
    rw[z,← e] at h1
    simp at h1
    omega
  ·exact⟨p,(part_mem hb.nd hj).mpr (.inl ⟨hp,e⟩),hx,hne⟩
 ·exact⟨_,hk,lbd _ _,λz=>zcK _ _ z.symm⟩
theorem Gr.keysEq (m2:2<=m)(m4:m<=4){t:Nat}(h:Gr m t B):(yd B).length=t+1:=by
 have key:∃L:qQ1,L.Nodup/\L.length=t+1/\∀x,Inner B x↔x∈L:=by
  induction h with
  | z =>
   refine⟨[[]],by simp,rfl,λx=>⟨λ⟨p,hp,hx,hn⟩=>?_,λhx=>?_⟩⟩
   ·obtain⟨c,_,rfl⟩:=kids_mem.mp hp
    rcases la5.mp hx with e|e
    ·exact absurd e hn
    ·rw[lbU.mp e];simp
   ·rw[lR.mp hx]
    exact(Book.letters m2 m4).nilInner
  | s g hj ih =>
   rename_i t' B' j
   obtain⟨L,h0,h1,h2⟩:=ih
   have hb:=g.book m2 m4
   have hpm:B'.getD j []∈B':=by rw[ly,lh hj];exact laD hj
   refine⟨L++[B'.getD j []],lbO.mpr ⟨h0,by simp,?_⟩,by simp[h1],λx=>?_⟩
   ·rintro a ha b hb' rfl
    rw[lR.mp hb'] at ha
    exact hb.free ((h2 _).mpr ha) _ (lcB _) (hb.ne _ hpm) hpm
   ·rw[zbc m2 m4 hb hj,h2,laW,lR]
 obtain⟨L,h0,h1,h2⟩:=key
 rw[← h1]
 refine ld2 ((vY B).length_le_of_subset λx hx=>(h2 x).mp (innerKeys_mem.mp hx)) (h0.length_le_of_subset λx hx=>innerKeys_mem.mpr ((h2 x).mpr hx))
theorem zbt:∀(x z s:List Nat),x<=z->z<=x++s->x <+: z
 | [],z,s,_,_=>ldp
 | a::x,[],s,h,_=>absurd (List.nil_lt_cons a x) (la8.mpr h)
 | a::x,b::z,s,h1,h2=>by
  have e:a=b:=by
   have h3:=(la8.mpr h1)
   have h4:=(la8.mpr h2)
   rw[laV] at h4
   have n1:¬b<a:=λz=>h3 (lbF.mpr (.inl z))
   have n2:¬a<b:=λz=>h4 (lbF.mpr (.inl z))
   omega
  subst e
  refine List.cons_prefix_cons.mpr ⟨rfl,zbt x z s (la8.mp λz=>la8.mpr h1 (lbF.mpr (.inr ⟨rfl,z⟩))) (la8.mp λz=>la8.mpr h2 (lbF.mpr (.inr ⟨rfl,z⟩)))⟩
theorem ziN:∀{l:qQ1},l.Pairwise (· < ·)->∀{x y:List Nat},x∈l->y∈l->x<y->∃z,(x,z)∈l.zip l.tail/\x<z/\z<=y
 | [],_,_,_,h,_,_=>by cases h
 | [a],_,x,y,hx,hy,hlt=>by
  rw[lR.mp hx,lR.mp hy] at hlt
  exact absurd hlt (lb7 _)
 | a :: b::r,p,x,y,hx,hy,hlt=>by
  have pp:=laC.mp p
  rcases lI.mp hx with rfl|hx2
  ·rcases lI.mp hy with rfl|hy
   ·exact absurd hlt (lb7 _)
   ·refine⟨b,lD,pp.1 b lD,?_⟩
    rcases lI.mp hy with rfl|hy
    ·exact List.le_refl _
    ·exact ldl ((laC.mp pp.2).1 y hy)
  ·rcases lI.mp hy with hy|hy
   ·rw[hy] at hlt
    exact absurd (ldQ hlt (pp.1 x hx2)) (lb7 _)
   ·obtain⟨z,h1,h2⟩:=ziN (l:=b::r) pp.2 hx2 hy hlt
    exact⟨z,lz _ h1,h2⟩
end My
namespace L2
open PySem PySem.Spec PyProof.Rows
variable {outer:List Env}{P:Program}{w:World}{H:Hp}{h h':Heap}{C f a:Addr}{mg:qQ3}{N ps:List Str}{qual x:Str}{scope:Scope}{fd:FuncData}{k:Nat}{sp:Sp}{R:Result->Shared->Prop}{tk:Tok}
def zdZ (P:Program)(w:World)(outer:List Env)(H:Hp)(s:Shared)(E:XK)(e:Value)(s':Shared):Prop :=
 ∃ (a C:Addr) (a0:Value) (H':Hp) (B:Heap),e=.ref a/\s'.os=s.os/\AllBare s'.gens /\
  (∀b o,s.heap.get? b=some o->b∉frs outer->∃o',B.get? b=some o'/\(H b=none->o'=o)) /\
  (∀b o,s.heap.get? b=some o->b∈frs outer->∃sl,s'.heap.get? b=some {o with slots:=sl}) /\
  (∀b o,s.heap.get? b=some o->H b=none->H' b=none) /\
  (∀b xs,H b=some (HO.st xs)->H' b=some (HO.st xs))/\(∀b o u,H b=some (.frz o u)->H' b=some (.frz o u))/\(∀b ps,H b=some (.tbl ps)->∃more,H' b=some (.tbl (ps++more))) /\
  HOk P w H' B/\Heap.FlyingW B outer a (.ref C) a0 s'.heap/\E (.ref C) none H'
abbrev CX1 (P:Program)(w:World):CXT:=zdZ P w
theorem zc7 {env:Env}{L:Addr}(hf:env.frame=some L):frs (env::outer)=L::frs outer:=by
 unfold frs
 rw[lcE,hf]
theorem zjx {l:List Addr}(ok:HOk P w H h)(hl:∀b∈l,H b=none):HOk P w H (PySem.W.hideAll h l):=λb o e =>
 (ok b o e).stay (λc u hc q=>ldo l q λz=>by
  rcases hc with rfl|hc
  ·rw[hl _ z] at e;cases e
  ·rw[hl _ z] at hc;cases hc) (λ_ q=>q) λ_ _ q=>q
section
variable {X:Cx}{pins:List (Addr×Obj)}{σ:St}{H:Hp}{s:Shared}{M:Model}{F:qQ2}{E:XK}
theorem Inv.fr0 (I:Inv X pins σ H s){b:Addr}(hb:b∈X.fs):X.H₀ b=none/\b∉X.ex:=⟨I.ok.frf b hb,λz=>I.ok.exfs b z hb⟩
theorem zhR (I:Inv X pins σ H s)(hst:X.stack=X.env::X.outer)(hfr:X.env.frame=some X.env.locals)(hex:X.ex=[]){e:Addr}{args:List Value}
  (hx:Heap.MadeExcOf s.heap h' e (.ref C) args) (hE:E (.ref C) none H) :
  wpAny M X.A (leaving X.env (.ref e)) (λ_ s''=>zdZ X.prog X.w X.outer X.H₀ X.s₀ E (.ref e) s'') F {s with heap:=h'}:=by
 have hin:∀env∈X.stack,∀b,env.frame=some b->b∈frs X.stack:=λenv he b hb=>ldu.mpr ⟨env,he,hb⟩
 have hstk:frs X.stack=X.env.locals::frs X.outer:=by rw[hst];exact zc7 hfr
 have nex:∀b:Addr,b∉X.ex:=λb z=>by rw[hex] at z;cases z
 refine wpAny_leaves_madeW (base:=PySem.W.hideAll s.heap (frs X.stack)) (h:=s.heap) (outer:=X.outer) (I.ok.frames.trans (by rw[hst])) hfr (λb o q=>PySem.W.of_hideAll _ q) (by rw[← hst];exact PySem.W.funFrames_hide I.stack hin) hx λh2 t x1 x2 x3 x4=>?_
 refine⟨e,C,.ref t,H,PySem.W.hideAll s.heap (frs X.stack),rfl,I.os,I.bare,λb o q hb=>?_,λb o q hb=>?_,λb o q n=>I.base.free b o q n (nex b),I.base.tups,I.base.frzs,I.base.tbls,zjx I.hok I.stkFree,x1,hE⟩
 ·obtain ⟨o1,e1⟩:=I.base.there b o q (nex b)
  refine⟨o1,ldo _ e1 λz=>?_,λn=>?_⟩
  ·rw[hstk] at z
   rcases lI.mp z with z|z
   ·exact absurd (lE q) (Nat.not_lt.mpr (z▸I.ok.above))
   ·exact hb z
  ·have:=I.base.keep b o q n hb (nex b)
   rw[e1] at this
   exact lq this
 ·obtain ⟨sl,e1⟩:=I.base.slot b o q (I.fr0 hb).1 hb (nex b)
  have hb2:b∈X.stack.filterMap (·.frame):=by
   show b∈frs X.stack
   rw[hstk]
   exact lz _ hb
  obtain⟨_,o2,e2,nf⟩:=I.stack.mem hb2
  rw[e1] at e2
  obtain rfl:=lq e2
  obtain⟨sl2,e3⟩:=x4 b _ (hx.keeps b _ e1) nf
  exact⟨sl2,e3⟩
theorem zi3 (I:Inv X pins σ H s)(hst:X.stack=X.env::X.outer)(hfr:X.env.frame=some X.env.locals)(hex:X.ex=[]){e:Value}{s':Shared}(hf:zdZ X.prog X.w X.stack H s E e s') :
  wpAny M X.A (leaving X.env e) (λ_ s''=>zdZ X.prog X.w X.outer X.H₀ X.s₀ E e s'') F s':=by
 have hstk:frs X.stack=X.env.locals::frs X.outer:=by rw[hst];exact zc7 hfr
 have nex:∀b:Addr,b∉X.ex:=λb z=>by rw[hex] at z;cases z
 obtain⟨a,C,a0,H',B,rfl,hos,hbare,h1,h2,h3,h4,h5,h6,hok,fly,hE⟩:=hf
 have fly':Heap.FlyingW B (X.env::X.outer) a (.ref C) a0 s'.heap:=by rw[← hst];exact fly
 refine wpAny_leaves_onW (I.ok.frames.trans (by rw[hst])) hfr fly' λh2' x1 x2=>?_
 refine⟨a,C,a0,H',B,rfl,hos.trans I.os,hbare,λb o q hb=>?_,λb o q hb=>?_,λb o q n=>?_,λb xs q=>h4 b xs (I.base.tups b xs q),λb o u q=>h5 b o u (I.base.frzs b o u q),λb ps q=>?_,hok,x1,hE⟩
 ·obtain ⟨o1,e1⟩:=I.base.there b o q (nex b)
  have hbs:b∉frs X.stack:=λz=>by
   rw[hstk] at z
   rcases lI.mp z with z|z
   ·exact absurd (lE q) (Nat.not_lt.mpr (z▸I.ok.above))
   ·exact hb z
  obtain⟨o2,e2,k2⟩:=h1 b o1 e1 hbs
  refine⟨o2,e2,λn=>?_⟩
  have e3:=I.base.keep b o q n hb (nex b)
  rw[e1] at e3
  rw[k2 (I.base.free b o q n (nex b))]
  exact lq e3
 ·obtain⟨sl,e1⟩:=I.base.slot b o q (I.fr0 hb).1 hb (nex b)
  have hb2:b∈frs X.stack:=by rw[hstk];exact lz _ hb
  obtain⟨sl2,e2⟩:=h2 b _ e1 hb2
  obtain⟨_,o3,e3,nf⟩:=fly.2.2.1.mem hb2
  rw[e2] at e3
  obtain rfl:=lq e3
  obtain⟨sl3,e4⟩:=x2 b _ e2 nf
  exact⟨sl3,e4⟩
 ·obtain⟨o1,e1⟩:=I.base.there b o q (nex b)
  exact h3 b o1 e1 (I.base.free b o q n (nex b))
 ·obtain⟨m1,e1⟩:=I.base.tbls b ps q
  obtain⟨m2,e2⟩:=h6 b _ e1
  exact⟨m1++m2,by rw[e2,ldr]⟩
end
theorem yr {K:qQ0}{base:Heap}{cd:Value}{A:Around}{s:Shared}{E:XK} :
  zaH (CX1 P w) (je (CX1 P w) P w K mg base N qual scope f cd A outer s H E) E:=λpins σ H' s' e s'' I hf=>zi3 I rfl rfl rfl hf
theorem Fun.okX {K:qQ0}{base:Heap}{st:Stmt}(F:Fun K x qual st f fd)(S:FnScope N ps (zq st))(len:∀vs H Q E,sp vs H Q E->vs.length=ps.length)
  (hbody:∀(cdv:Value) (A:Around) (outer:List Env) (s:Shared) (H:Hp) (vs:List V) (Q:VK) (E:XK),Room k (A.deeper (envOfC qual (zq st) s.heap.objs.size f cdv))->sp vs H Q E ->
   ∃t,PSs (je (CX1 P w) P w K mg base N qual (zq st) f cdv A outer s H E) (xP st) t/\t {nx:=λ_ H'=>Q .non H',rt:=Q} (start N vs) H):FnOk P w K mg base (CX1 P w) (k+1) f fd ps sp:=by
 obtain⟨oc,od,kV,doc,pm,an,cdv,ct,osl,rfl,lk,hcd⟩:=F.ex
 exact zkW lk hcd S len λA outer s H vs Q E hr hsp=>hbody cdv A outer s H vs Q E hr hsp
theorem PS.nox {X:Cx}{st:Stmt}{t:TS}(h:PS X.nox st t):PS X st t:=λpins s σ H D I hw =>
 laF (h pins s σ H D (I.wish _) hw) (λ_ _ q=>q.unwish) λ_ _ z=>False.elim z
theorem PA.nox {X:Cx}{es:List Expr}{t:TA}(h:PA X.nox es t):PA X es t:=λpos pins s σ H Q I hw =>
 laF (h pos pins s σ H Q (I.wish _) hw) (λ_ _ ⟨v,H',I',r,q⟩=>⟨v,H',I'.unwish,r,q⟩) λ_ _ z=>False.elim z
structure Own (K:qQ0)(mg:qQ3)(x:Str) where
 C:Addr
 mgx:mg x=some (.ref C)
 exc:PySem.W.excIn K C [.type "ValueError", .type "Exception", .type "BaseException", .type "object"] "ValueError.__new__" = true
inductive ExcD (o:Option Obj)(A:Option Addr->ClassData->Array (Option Value)->Bool):Prop
 | mk (dd:Option Addr) (cd:ClassData) (sl:Array (Option Value)) (e:o=some ⟨.type "type", dd,.cls cd,sl⟩) (q:A dd cd sl=true)
inductive ExcR (x:List Value)(y:List (Option Value))(A:Addr->List Value->Option Value->Option Value->Option Value->Option Value->String->Option Value->Bool):Prop
 | mk (C':Addr) (bm:List Value) (k0 k1 k2 k3:Option Value) (n:String) (k5:Option Value) (e:x=.ref C'::bm) (f:y=[k0,k1,k2,k3,some (.builtin n),k5]) (q:A C' bm k0 k1 k2 k3 n k5=true)
inductive ExcO (h:Heap)(C:Addr)(bmB:List Value)(newId:String):Prop
 | mk (bm:List Value) (N:Addr) (nm qn:Str) (bs:List Value) (hdct:Bool) (sn:List Str) (sub:List Value) (ab:Bool) (col:Option Bool) (dd:Option Addr) (k0 k1 k2 k3 k5:Option Value) (mN:qQ3)
   (hC:h.get? C=some (excClassObj nm qn C N bs bm hdct sn sub ab col dd k0 k1 k2 k3 k5 newId)) (hN:h.Ns N mN) (hni:mN "__init__" = none) (T:OwnTail h bmB bm)
theorem zna {o:Option Obj}{A:Option Addr->ClassData->Array (Option Value)->Bool}(q:PySem.W.excIn.match_6 (λ_=>Bool) o A (λ_=>false)=true):ExcD o A:=by
 rcases o with _|⟨c,dd,da,sl⟩
 ·exact absurd q lH
 ·cases c
  all_goals first|exact absurd q lH|skip
  rename_i s
  by_cases hs:s = "type"
  ·subst hs
   cases da
   all_goals first|exact absurd q lH|exact⟨_,_,_,rfl,q⟩
  ·delta PySem.W.excIn.match_6 at q
   exact absurd ((dif_neg hs).symm.trans q) lH
theorem zmN {x:List Value}{y:List (Option Value)}{A:Addr->List Value->Option Value->Option Value->Option Value->Option Value->String->Option Value->Bool}(q:PySem.W.excIn.match_1 (λ_ _=>Bool) x y A (λ_ _=>false)=true):ExcR x y A:=by
 rcases x with _|⟨v,bm⟩
 ·exact absurd q lH
 cases v
 all_goals first|exact absurd q lH|skip
 rcases y with _|⟨k0,_|⟨k1,_|⟨k2,_|⟨k3,_|⟨k4,y⟩⟩⟩⟩⟩
 all_goals first|exact absurd q lH|skip
 rcases k4 with _|k4
 ·exact absurd q lH
 cases k4
 all_goals first|exact absurd q lH|skip
 rcases y with _|⟨k5,_|⟨k6,y⟩⟩
 all_goals first|exact absurd q lH|exact⟨_,_,_,_,_,_,_,_,rfl,rfl,q⟩
theorem zh1 {K:qQ0}{bmB:List Value}{newId:String}(X:K.In h)(q:PySem.W.excIn K C bmB newId=true):ExcO h C bmB newId:=by
 obtain⟨dd,cd,sl,ho,q⟩:=zna q
 obtain⟨C',bm,k0,k1,k2,k3,n,k5,hm,hs,q⟩:=zmN q
 simp only[lM,ldD,lbP] at q
 obtain⟨⟨⟨⟨⟨rfl,rfl⟩,hdel⟩,ht⟩,hok⟩,hni⟩:=q
 obtain⟨nm,bs,mro,ns,qn,hd,sn,sub,ab,col,del⟩:=cd
 obtain⟨l⟩:=sl
 dsimp only at hm hdel hok hni hs
 subst hm hdel hs
 exact⟨bm,ns,nm,qn,bs,hd,sn,sub,ab,col,dd,k0,k1,k2,k3,k5,_,X _ _ ho,.of_isNs (PySem.W.isNs_of_in X hok),PySem.W.nsMap_none_of_in X hok hni,PySem.W.tail_of_in X ht⟩
def znB (C:Addr)(E:XK)(t:TA):TS:=λ_ σ H=>t σ H λvs H1=>vs.length<=3/\E (.ref C) none H1
section
variable {P:Program}{w:World}{K:qQ0}{mg:qQ3}{base:Heap}{N:List Str}{qual:Str}{scope:Scope}{f:Addr}{cd:Value}{A:Around}{outer:List Env}{s₁:Shared}{H₁:Hp}{E:XK}
theorem zjA {e₀:Expr}{rest:List Expr}{np cpos pos:Pos}{t:TA}(O:Own K mg x)(hg:Gl (je (CX1 P w) P w K mg base N qual scope f cd A outer s₁ H₁ E) x)
  (ha:PA (je (CX1 P w) P w K mg base N qual scope f cd A outer s₁ H₁ E) (e₀::rest) t)
  (he:starEach (e₀::rest) (je (CX1 P w) P w K mg base N qual scope f cd A outer s₁ H₁ E).env=(false,eval e₀ (je (CX1 P w) P w K mg base N qual scope f cd A outer s₁ H₁ E).env)::starEach rest (je (CX1 P w) P w K mg base N qual scope f cd A outer s₁ H₁ E).env:=by rfl)
  (hpl:(backTo cpos (starEach rest (je (CX1 P w) P w K mg base N qual scope f cd A outer s₁ H₁ E).env)).any (·.1)=false:=by rfl) (hd:(x == ("__debug__" : Str))=false:=by decide) :
  PS (je (CX1 P w) P w K mg base N qual scope f cd A outer s₁ H₁ E) (.Raise (some (.Call (.Name x np) (e₀::rest) [] cpos)) none pos) (znB O.C E t):=by
 intro pins s σ H D I h
 obtain⟨tl,Na,nm,q,bs,hdct,sn,sub,ab,col,dd,k0,k1,k2,k3,k5,mN,hC,hN,hni,T⟩:=zh1 I.ok.mod.kin O.exc
 refine wpAny_Raise_call_subT (C:=O.C) (nm:=nm) (q:=q) (N:=Na) (bs:=bs) (bm:=tl) (hdct:=hdct) (sn:=sn) (sub:=sub) (ab:=ab) (col:=col) (dd:=dd) (k0:=k0) (k1:=k1) (k2:=k2) (k3:=k3) (k5:=k5)
  lct (mN:=mN) (T.hasType lct.hasBase) (I.ok.hd rfl) (by rw[he];show(false || (backTo cpos (starEach rest (je (CX1 P w) P w K mg base N qual scope f cd A outer s₁ H₁ E).env)).any (·.1))=false;rw[hpl];rfl) hni (zal I hg O.mgx ⟨rfl,?_⟩ hd)
 have h':=ha cpos pins s σ H _ I h
 rw[he] at h' ⊢
 refine ldg (laF h' (λus s₂ ⟨vs,H2,I2,r,hz,q⟩=>⟨rfl,?_,I2.bk _ _ hC,hN.keeps I2.bk,T.keeps I2.bk,λh'' e hm=>zhR I2 rfl rfl rfl hm q⟩) λ_ _ y=>y)
 rw[← r.length,lbg]
 omega
end
def excAt (a C:Addr):HO:=.ext λh=>∃o,h.get? a=some o/\o.cls=.ref C
abbrev Cx.hand (X:Cx)(a:Addr):Cx:={X with A:=X.A.mark (some (.ref a)),calm:=false,xe:=λ_ _=>False}
section
variable {X:Cx}{pins:List (Addr×Obj)}{σ:St}{H:Hp}{s:Shared}
theorem Cx.Ok.hand (ok:X.Ok)(a:Addr):(X.hand a).Ok :=
 ⟨ok.mod,ok.kind,ok.glob,ok.blt,ok.above,ok.inj,ok.has,ok.cab,λz=>(by cases z),ok.frames,ok.stk,ok.exf,ok.bs,ok.bsz,ok.noex,ok.exfs,ok.funs,ok.frf⟩
theorem Inv.hand (I:Inv X pins σ H s)(a:Addr):Inv (X.hand a) pins σ H s:=⟨I.ok.hand a,I.os,I.bare,I.base,I.loc,I.cell,I.free,I.freeC,I.pin,I.hok,I.len⟩
theorem Inv.unhand (ok:X.Ok)(I:Inv (X.hand a) pins σ H s):Inv X pins σ H s:=⟨ok,I.os,I.bare,I.base,I.loc,I.cell,I.free,I.freeC,I.pin,I.hok,I.len⟩
theorem Inv.gone {m':qQ3}{t':Nat}(I:Inv X pins σ H s)(hn:h'.Ns X.env.locals m')(hs:Heap.SameBut X.env.locals s.heap h'):Inv X pins (List.replicate X.N.length none) H {s with heap:=h',toks:=t'}:=by
 have cne:=I.cne
 obtain⟨m,hn0,hl⟩:=id I.loc
 obtain⟨oL,_,_,hoL,_⟩:=id hn0
 refine⟨I.ok,I.os,I.bare,⟨λb o e n hb hx=>?_,λb o e n hb hx=>?_,I.base.free,λb o e hx=>?_,I.base.tups,I.base.frzs,I.base.tbls⟩,⟨m',hn,λj y v' e1 e2 e3=>?_⟩,λy c e=>?_,I.free,I.freeC,λp hp=>?_,λb ob e=>?_,by simp⟩
 ·exact(hs.2 b (lab (lK (lE e) I.ok.above))).trans (I.base.keep b o e n hb hx)
 ·obtain⟨sl,e1⟩:=I.base.slot b o e n hb hx
  exact⟨sl,(hs.2 b (lab (lK (lE e) I.ok.above))).trans e1⟩
 ·obtain⟨o',e1⟩:=I.base.there b o e hx
  exact⟨o',(hs.2 b (lab (lK (lE e) I.ok.above))).trans e1⟩
 ·rw[lbm] at e2
  split at e2 <;>cases e2
 ·obtain⟨w',z⟩:=I.cell y c e
  exact⟨w',z.sameBut hs (cne y c e)⟩
 ·obtain⟨e,n,ne,nf,d⟩:=I.pin p hp
  exact⟨(hs.2 p.1 ne).trans e,n,ne,nf,d⟩
 ·refine(I.hok b ob e).stay (λc w' hc q=>(hs.2 c ?_).trans q) (λ_ q=>q) λ_ _ q=>q
  rintro rfl
  rcases hc with z|hc
  ·rw[← z,I.free] at e;cases e
  ·rw[I.free] at hc;cases hc
end
section
variable {M:Model}{A:Around}{E:qQ2}{s:Shared}
theorem zb5 {K:qQ0}{e C0:Addr}{oe:Obj}{Q:Bool->Shared->Prop}(X:K.In s.heap)(he:s.heap.get? e=some oe)(hc:oe.cls=.ref C)
  (x0:PySem.W.excIn K C0 [.type "ValueError", .type "Exception", .type "BaseException", .type "object"] "ValueError.__new__" = true) (sub:PySem.W.subIn K (.ref C) (.ref C0)=some true) (h:Q true s):wpAny M A (excMatches (.ref e) (.ref C0)) Q E s:=by
 obtain⟨tl,Na,nm,q,bs,hdct,sn,sub',ab,col,dd,k0,k1,k2,k3,k5,mN,hC,hN,hni,T⟩:=zh1 X x0
 have hcB:(Value.ref C0::tl).contains (.type "BaseException")=true:=by rw[List.contains_cons,T.hasType lct.hasBase,Bool.or_true]
 have L:PySem.W.Looks M s.heap (isSubtype (.ref C) (.ref C0)) true:=ldq X sub
 obtain⟨hp,g,d,tk,os⟩:=s
 have f:=tc_notTuple
 unfold excMatches
 repeat (first|(with_reducible refine lbQ he ?_;rw[hc])|with_reducible refine lbQ hC ?_|(with_reducible refine wpAny_isSubtype_exc hC ?_;rw[hcB])|wp_step)
 refine L.at ?_
 repeat wp_step
 exact h
end
theorem ziV {o:HO}(x:ObjOk P w H h a o):∃ob,h.get? a=some ob:=by
 cases o with
 | lst xs=>obtain⟨_,_,_,_,e⟩:=x;exact⟨_,e⟩
 | tup xs=>obtain⟨_,_,_,ob,e,_⟩:=x;exact⟨_,e⟩
 | dK kvs=>obtain⟨_,_,_,_,o,_,_,e,_⟩:=x;exact⟨_,e⟩
 | dT kvs=>obtain⟨_,_,_,_,o,_,_,e,_⟩:=x;exact⟨_,e⟩
 | set S n=>obtain⟨o,_,_,_,e,_⟩:=x;exact⟨_,e⟩
 | ins C dx fs=>obtain⟨_,_,_,e,_⟩:=x;exact⟨_,e⟩
 | own y=>exact x
 | xd fs=>obtain⟨_,⟨_,_,_,e,_⟩,_⟩:=x;exact⟨_,e⟩
 | rng lo hi=>obtain⟨_,_,_,e⟩:=x;exact⟨_,e⟩
 | frz ob u=>obtain⟨e,_⟩:=x;exact⟨_,e⟩
 | dR kvs=>obtain⟨_,_,o,_,_,e,_⟩:=x;exact⟨o,e⟩
 | cod q=>obtain⟨_,_,_,_,z,e,_⟩:=x;cases z;exact⟨_,e⟩
 | lam q=>obtain⟨_,e,_⟩:=x;exact⟨_,e⟩
 | tbl ps=>exact⟨_,x⟩
 | met f y=>exact⟨_,x⟩
 | ext φ=>obtain⟨_,e,_⟩:=x;exact e
theorem zf2 {H':Hp}{B:Heap}(frf:∀b∈frs outer,H b=none)
  (h1:∀b o,h.get? b=some o->b∉frs outer->∃o',B.get? b=some o'/\(H b=none->o'=o)) (h2:∀b o,h.get? b=some o->b∈frs outer->∃sl,h'.get? b=some {o with slots:=sl})
  (h3:∀b o,h.get? b=some o->H b=none->H' b=none) (h4:∀b xs,H b=some (HO.st xs)->H' b=some (HO.st xs)) (h5:∀b o u,H b=some (.frz o u)->H' b=some (.frz o u)) (h6:∀b ps,H b=some (.tbl ps)->∃more,H' b=some (.tbl (ps++more)))
  (st:B.StaysIn h'):Un (frs outer) [] H H' h h':=by
 refine⟨λb o e n hb _=>?_,λb o e n hb _=>h2 b o e hb,λb o e n _=>h3 b o e n,λb o e _=>?_,h4,h5,h6⟩
 ·obtain⟨o',e1,k⟩:=h1 b o e hb
  rw[← k n]
  exact st b o' e1
 ·by_cases hb:b∈frs outer
  ·obtain⟨sl,e1⟩:=h2 b o e hb
   exact⟨_,e1⟩
  ·obtain⟨o',e1,_⟩:=h1 b o e hb
   exact⟨o',st b o' e1⟩
section
variable {X:Cx}{pins:List (Addr×Obj)}{σ:St}{H:Hp}{s s':Shared}{E:XK}{e:Value}{x n:Str}{i:Nat}{b₀:Stmt}{suite:List Stmt}{th:TS}{D:Ends}{np pos:Pos}{rest:List ExceptHandler}
def zke (K:qQ0)(C0:Addr)(i:Nat)(th:TS)(D:Ends)(σ:St):XK:=λcls _ H'=>∃C,cls=.ref C/\PySem.W.subIn K (.ref C) (.ref C0)=some true /\
 ∀a,H' a=none->th {nx:=λ_ _=>False,rt:=D.rt} (σ.set i (some (.ref a))) (upd H' a (excAt a C))
theorem caught (I:Inv X pins σ H s)(hst:X.stack=X.env::X.outer)(hfr:X.env.frame=some X.env.locals)(O:Own X.K X.mg x)(hg:Gl X x)(hN:X.N.Nodup)(hi:X.N[i]? = some n)(hlo:X.env.scope.names.lookup n=some .local)
  (hs:∀a,PSs (X.hand a) (b₀::suite) th) (hf:zdZ X.prog X.w X.stack H s (zke X.K O.C i th D σ) e s') (hd:(x == ("__debug__" : Str))=false:=by decide) :
  wpAny (model X.prog X.w) X.A (noteFrame e X.env) (λ_ s₂=>wpAny (model X.prog X.w) X.A (setFlight e none) (λ_ s₃ =>
   wpAny (model X.prog X.w) X.A (handleBy e X.env (.ExceptHandler (some (.Name x np)) (some n) (b₀::suite) pos::rest)) (SP X pins D) X.xe s₃) X.xe s₂) X.xe s':=by
 have hstk:frs X.stack=X.env.locals::frs X.outer:=by rw[hst];exact zc7 hfr
 obtain⟨a,C,a0,H',B,rfl,hos,hbare,h1,h2,h3,h4,h5,h6,hok,fly,C',eC,sub,kk⟩:=hf
 cases eC
 have fly':Heap.FlyingW B (X.env::X.outer) a (.ref C) a0 s'.heap:=by rw[← hst];exact fly
 have ffr:∀b∈frs X.stack,∃o,s'.heap.get? b=some o/\∀vs,o.data≠.fields vs:=λb hb=>(fly.2.2.1.mem hb).2
 have slots:∀{h':Heap},s'.heap.UpToSlots h'->∀b o,s.heap.get? b=some o->b∈frs X.stack->∃sl,h'.get? b=some {o with slots:=sl}:=λ{h'} u b o q hb=>by
  obtain⟨sl,e1⟩:=h2 b o q hb
  obtain⟨o2,e2,nf⟩:=ffr b hb
  rw[e1] at e2
  obtain rfl:=lq e2
  obtain⟨sl2,e3⟩:=u b _ e1 nf
  exact⟨sl2,e3⟩
 refine wpAny_looks_onW (I.ok.frames.trans (by rw[hst])) hfr fly' λh₄ held₄ sm₄=>?_
 refine wpAny_landsW held₄ λh₅ fly₅ sm₅=>?_
 have sm5:=sm₄.trans sm₅
 have I5:Inv X pins σ H' {s' with heap:=h₅}:=I.call' hos (zf2 I.stkFree h1 (slots sm5) h3 h4 h5 h6 fly₅.1) (hok.kept fly₅.1) hbare (λ_ z=>nomatch z)
 obtain⟨ob,hob,hobc⟩:=fly₅.there
 refine wpAny_handleBy_cons (codeAny_handlers_test (zal (X:=X.hand a) (I5.hand a) hg O.mgx ?_ hd)) (by intro q;cases q)
 refine zb5 I5.kIn hob hobc O.exc sub ?_
 refine codeAny_handlers_suite_as ?_
 refine lands_againW fly₅ λh₆ fly₆ sm₆=>?_
 have sm6:=sm5.trans sm₆
 have hBa:B.get? a=none:=fly₆.2.1
 obtain⟨oe,vs,he6,hec,hed,_⟩:=fly₆.first
 have hnew:∀o,s.heap.get? a≠some o:=λo q=>by
  by_cases hb:a∈frs X.stack
  ·obtain⟨_,o2,e2,nf⟩:=fly₆.2.2.1.mem (by rw[← hst];exact hb)
   rw[he6] at e2
   obtain rfl:=lq e2
   exact nf vs hed
  ·obtain⟨o',e1,_⟩:=h1 a o q hb
   rw[hBa] at e1;cases e1
 have hHa:H' a=none:=by
  cases q:H' a with
  | none=>rfl
  | some o =>
   obtain⟨o2,e2⟩:=ziV (hok a o q)
   rw[hBa] at e2;cases e2
 have ok6:HOk X.prog X.w (upd H' a (excAt a C)) h₆:=λb o q=>by
  by_cases hb:b=a
  ·subst hb
   rw[zV] at q
   obtain rfl:=lq q
   exact⟨⟨oe,he6,hec⟩,⟨oe,he6⟩,λk1 k2 ⟨o1,e1,c1⟩ kk=>⟨o1,kk o1 e1,c1⟩⟩
  ·rw[zO hb] at q
   exact(hok b o q).stay (λc u _ e1=>fly₆.1 c u e1) (λc e1=>by rw[zO (yw e1 hHa)];exact e1) λc xs e1=>by rw[zO (yw e1 hHa)];exact e1
 have un6:Un (frs X.stack) [] H (upd H' a (excAt a C)) s.heap h₆:=zf2 I.stkFree h1 (slots sm6) (λb o q nn=>by
   have hba:b≠a:=λz=>by rw[z] at q;exact hnew o q
   rw[zO hba];exact h3 b o q nn)
  (λb xs q=>by rw[zO (yw (h4 b xs q) hHa)];exact h4 b xs q) (λb o u q=>by rw[zO (yw (h5 b o u q) hHa)];exact h5 b o u q)
  (λb ps q=>by obtain⟨m,q2⟩:=h6 b ps q;exact⟨m,by rw[zO (yw q2 hHa)];exact q2⟩) fly₆.1
 have I6:Inv X pins σ (upd H' a (excAt a C)) {s' with heap:=h₆}:=I.call' hos un6 ok6 hbare (λ_ z=>nomatch z)
 refine za5 (X:=X.hand a) (I6.hand a) hN hi (.inl hlo) (v:=.ref a) rfl (λs₇ I7=>?_) (.inr hlo)
 refine laF (hs a pins s₇ _ _ _ I7 (kk a hHa)) (λf s₈ h8=>?_) λ_ _ z=>False.elim z
 cases f with
 | ret u =>
  obtain⟨v,σ',H'',J,rv,q⟩:=h8
  have J':Inv X pins σ' H'' s₈:=J.unhand I.ok
  obtain⟨m,hn0,_⟩:=id J'.loc
  have hcls:(X.env.scope.kind == .class || (X.env.scope.kind == .module&&X.env.locals != X.env.globals))=false:=by rw[I.ok.kind];rfl
  exact wpAny_nameGoes hlo hn0 hcls λh9 m9 n9 s9=>⟨v,_,H'',J'.gone n9 s9,rv,q⟩
 | next=>obtain⟨_,_,_,z⟩:=h8;exact False.elim z
 | brk=>obtain⟨_,_,_,z⟩:=h8;exact False.elim z
 | cont=>obtain⟨_,_,_,z⟩:=h8;exact False.elim z
end
structure ExcK (K:qQ0)(C:Addr):Prop where
 ga:PySem.W.findIn K (.ref C) "__getattribute__" = some (some (.builtin "BaseException.__getattribute__"))
 gt:PySem.W.findIn K (.ref C) "__getattr__" = some none
 cl:PySem.W.findIn K (.ref C) "__class__" = some (some (.builtin "object.__class__"))
 be:PySem.W.subIn K (.ref C) (.type "BaseException")=some true
 ob:PySem.W.subIn K (.ref C) (.type "object")=some true
 is:(PySem.W.clsIn K C).isSome=true
section
variable {prog:Program}{w:World}{A:Around}{E:qQ2}{h:Heap}{g:Array GenState}{d:Drawn}{t:Nat}{os:OsState}{K:qQ0}{a C:Addr}{o:Obj}
theorem zcz (z:ExcK K C)(X:K.In h)(hx:h.get? a=some o)(hc:o.cls=.ref C)(hq:R (.ok (.ret (.ref C))) ⟨h,g,d,t,os⟩) :
  codeAny (model prog w) A (.call (.builtin "getset_descriptor.__get__") ⟨[.builtin "object.__class__", .ref a,.ref C],[]⟩) R ⟨h,g,d,t,os⟩:=by
 have hT5:(⟨h,g,d,t,os⟩:Shared).TypeIs (.builtin "object.__class__") "getset_descriptor" := lc7
 have L:PySem.W.Looks (model prog w) h (isSubtype (.ref C) (.type (".".intercalate ("object.__class__".cutAt '.').dropLast))) true:=by
  rw[F.owner_object_class]
  exact ldq X z.ob
 refine codeAny_call_builtin F.slot_gs_get.plain F.entry_gs_get (F.slot_gs_get.check _ _ _ _ _ _ _ _ hT5 (F.args_gs_get _ _ _) ?_)
 repeat (any_goals (first|assumption|(with_reducible refine lbQ hx ?_;rw[hc])|with_reducible refine lcC L ?_|wp_step))
 refine⟨Code.quiet_builtin _ (by decide +kernel),la9 F.entry_object_class ?_⟩
 repeat (any_goals (first|assumption|(with_reducible refine lbQ hx ?_;rw[hc])|wp_step))
theorem zbf {Q:Fin->Shared->Prop}(z:ExcK K C)(X:K.In h)(hx:h.get? a=some o)(hc:o.cls=.ref C)(hq:Q (.done (.ret (.ref C))) ⟨h,g,d,t,os⟩) :
  wpAny (model prog w) A (Builtin.«object.__getattribute__» ⟨[.ref a,.str "__class__" tk],[]⟩) Q E ⟨h,g,d,t,os⟩:=by
 have hT5:(⟨h,g,d,t,os⟩:Shared).TypeIs (.builtin "object.__class__") "getset_descriptor" := lc7
 have L:PySem.W.Looks (model prog w) h (typeLookup (.ref C) "__class__") (some (.builtin "object.__class__")):=ldj X z.cl
 have f5:=lc7
 have f6:=F.slot_gs_get.lookup
 have f7:=F.slot_gs_set.lookup
 repeat (any_goals (first|assumption|(with_reducible refine lbQ hx ?_;rw[hc])|with_reducible refine lcC L ?_|wp_step))
 refine zcz z X hx hc ?_
 repeat (any_goals (first|assumption|wp_step))
theorem zh5 {M:Model}{nameV:Value}{Q:Unit->Shared->Prop}(z:ExcK K C)(X:K.In h)(hx:h.get? a=some o)(hc:o.cls=.ref C)(hq:Q () ⟨h,g,d,t,os⟩):wpAny M A (checkBuiltinCall "BaseException.__getattribute__" ⟨[.ref a,nameV],[]⟩) Q E ⟨h,g,d,t,os⟩:=by
 have hk:builtinKind "BaseException.__getattribute__" = some .slot:=by decide +kernel
 have hsplit:splitId "BaseException.__getattribute__" = some ("BaseException", "__getattribute__"):=by decide +kernel
 have L:PySem.W.Looks M h (isSubtype (.ref C) (.type "BaseException")) true:=ldq X z.be
 have ha:=F.args_bexc_ga (.ref a) nameV
 simp only[checkBuiltinCall,hk,hsplit]
 refine la ?_
 unfold isInstance
 repeat (first|(with_reducible refine lbQ hx ?_;rw[hc])|with_reducible refine lcC L ?_|wp_step)
 exact hq
theorem zb7 (z:ExcK K C)(X:K.In h)(hx:h.get? a=some o)(hc:o.cls=.ref C)(hq:R (.ok (.ret (.ref C))) ⟨h,g,d,t,os⟩) :
  codeAny (model prog w) A (.call (.builtin "BaseException.__getattribute__") ⟨[.ref a,.str "__class__" tk],[]⟩) R ⟨h,g,d,t,os⟩ :=
 codeAny_call_builtin F.excAttr_ValueError.ga.plain F.entry_bexc_ga (zh5 z X hx hc (zbf z X hx hc hq))
theorem zdR {Q:qQ2}(z:ExcK K C)(X:K.In h)(hx:h.get? a=some o)(hc:o.cls=.ref C)(hq:Q (.ref C) ⟨h,g,d,t,os⟩):wpAny (model prog w) A (getAttrBy (.ref a) (.str "__class__" tk) false) Q E ⟨h,g,d,t,os⟩:=by
 have f3:=F.excAttr_ValueError.ga.bind (.ref a)
 have hx2:(Value.builtin "BaseException.__getattribute__" == Value.builtin "object.__getattribute__")=false:=by decide +kernel
 have hx1:(onTheHeap (Value.ref C)&&Value.builtin "BaseException.__getattribute__" == Value.builtin "object.__getattribute__")=false:=by rw[hx2];rfl
 have L1:PySem.W.Looks (model prog w) h (typeLookup (.ref C) "__getattribute__") (some (.builtin "BaseException.__getattribute__")):=ldj X z.ga
 have L2:PySem.W.Looks (model prog w) h (typeLookup (.ref C) "__getattr__") none:=ldj X z.gt
 repeat (any_goals (first|assumption|(with_reducible refine lbQ hx ?_;rw[hc])|with_reducible refine lcC L1 ?_|with_reducible refine lcC L2 ?_|wp_step))
 refine zb7 z X hx hc ?_
 repeat (any_goals (first|assumption|wp_step))
theorem zb3 {Q:Option Value->Shared->Prop}(z:ExcK K C)(X:K.In h)(hx:h.get? a=some o)(hc:o.cls=.ref C)(hq:Q (some (.ref C)) ⟨h,g,d,t+1,os⟩):wpAny (model prog w) A (getAttr? (.ref a) "__class__") Q E ⟨h,g,d,t,os⟩:=by
 unfold getAttr? getAttrBy?
 repeat (any_goals (first|assumption|with_reducible apply zdR z X hx hc|wp_step))
end
theorem zfP {K:qQ0}(z:ExcK K C):PySem.W.KitX K (.ref a) (.ref C) (λh=>∃o,h.get? a=some o/\o.cls=.ref C) where
 ty:=λM h X ⟨o,h1,h2⟩=>h2▸(PySem.W.Looks.ld h1).andThen .now
 it := λ_ _ X _=>by
  have hcD:=z.is
  unfold PySem.W.clsIn at hcD
  split at hcD
  ·rename_i c' d' cd' sl' ho
   intro A' Q' E' s' k q
   unfold isType loadHead
   exact la (wpAny_loadPart (k _ _ (X _ _ ho)) (lr q))
  ·cases hcD
 ne := λh tp dd its n sl X htp=>by
  have hcD:=z.is
  refine Bool.eq_false_iff.mpr λq=>?_
  have e:C=tp:=Value.ref.inj (ldD.mp q)
  subst e
  unfold PySem.W.clsIn at hcD
  split at hcD
  ·rename_i c' d' cd' sl' ho
   have z:=(X _ _ ho).symm.trans htp
   cases z
  ·cases hcD
 ca:=λ{_ _ _ _ _ s} X ⟨o,h1,h2⟩ k=>by
  obtain⟨h,g,d,t,os⟩:=s
  exact zb3 z X h1 h2 k
section
variable {X:Cx}
theorem zdJ:qP X (.builtin "isinstance") (λxs H Q=>∃a C v b,xs=[.ref a,v]/\H a=some (excAt a C)/\ExcK X.K C/\((∃C',v=.ref C'/\PySem.W.kitOne X.K (.ref C) (.ref C')=some b)∨(∃n,v=.ty n/\PySem.W.kitOne X.K (.ref C) (.type n)=some b))/\Q (.bl b) H):=by
 intro pins s σ H xs us Q I r h
 obtain⟨a,C,v,b,rfl,ha,z,hv,q⟩:=h
 obtain⟨u,u2,rfl,ru,r2⟩:=vals2 r
 cases ru
 have fin:∀tk,EP X pins σ Q (.bool b) {s with toks:=tk}:=λtk=>⟨.bl b,H,I.tok _,rfl,q⟩
 have hx:∃o,s.heap.get? a=some o/\o.cls=.ref C:=(I.hok a _ ha).1
 rcases hv with⟨C',rfl,e⟩|⟨n,rfl,e⟩
 ·cases r2
  exact lbS (zfP z) I.kIn hx e (λz=>nomatch z) fin
 ·cases r2
  exact lbS (zfP z) I.kIn hx e (λz=>nomatch z) fin
end
section
variable {X:Cx}{CX:CXT}{k:Nat}{f:Addr}{fd:FuncData}{ps:List Str}{sp:Sp}{E:XK}{x y n:Str}{p np cpos rpos hpos pos:Pos}{e:Expr}{es:List Expr}{t:TA}{i:Nat}{b₀:Stmt}{suite:List Stmt}{th:TS}{more:List ExceptHandler}
theorem zm8 {pins:List (Addr×Obj)}{σ:St}{s:Shared}{Q:VK}{us:List Value}{vs:List V}{F':qQ2}(F:FnOk X.prog X.w X.K X.mg X.base CX k f fd ps sp)(hr:Room k X.A)(hb:Binds X.K fd ps [])
  (hx:∀H s e s',Inv X pins σ H s->CX X.stack H s E e s'->F' e s') (I:Inv X pins σ H s) (r:Vals vs us) (h:sp vs H Q E):wpAny (model X.prog X.w) X.A (call (.ref f) us) (EP X pins σ Q) F' s:=by
 have hl:us.length=ps.length:=by rw[← r.length];exact F.len _ _ _ _ h
 have hb':=hb s us I.kIn (by rw[lY];exact hl)
 rw[lY] at hb'
 refine wpAny_call (lc5 (F.run X.A X.stack s H ⟨us,[]⟩ us vs Q E hr I.env0 hb' r h) λr s' hq=>?_)
 cases r with
 | error e=>exact hx H s e s' I hq
 | ok fl =>
  cases fl with
  | ret u=>exact I.after hq
  | next=>exact False.elim hq
  | brk=>exact False.elim hq
  | cont=>exact False.elim hq
end
structure RoomH (k:Nat)(A:Around):Prop where
 dp:A.depth+3*k+5<recursionLimit
 un:A.units+16*k+200<cLine
abbrev Around.calm0 (A:Around):Around:={A with handled:=none}
variable {A:Around}
theorem Room.hand (r:Room k A)(v:Option Value):RoomH k (A.mark v):=⟨r.dp,r.un⟩
theorem RoomH.mono {j:Nat}(r:RoomH k A)(h:j<=k):RoomH j A:=⟨by have:=r.dp;omega,by have:=r.un;omega⟩
theorem RoomH.off (r:RoomH (k+1) A)(env:Env):Room k ((Around.calm0 A).deeper env) :=
 ⟨rfl,by have:=r.dp;show A.depth+1+3*k+5<_;omega,by have:=r.un;show A.units+3+16*k+200<_;omega⟩
structure FnOkH (P:Program)(w:World)(K:qQ0)(mg:qQ3)(base:Heap)(k:Nat)(f:Addr)(fd:FuncData)(ps:List Str)(sp:Sp):Prop where
 len:∀vs H Q E,sp vs H Q E->vs.length=ps.length
 run:∀(A:Around) (outer:List Env) (s:Shared) (H:Hp) (args:Args) (us:List Value) (vs:List V) (Q:VK),RoomH k A->Env0 P w K mg base A outer s H->BindsTo s fd args (ps.zip us)->Vals vs us->sp vs H Q E0 ->
  codeAny (model P w) A (.call (.ref f) args) (CR CX0 outer P w H s Q E0) s
abbrev zg8 (P:Program)(w:World)(K:qQ0)(mg:qQ3)(base:Heap)(N:List Str)(qual:Str)(scope:Scope)(f:Addr)(cd:Value)(A:Around)(outer:List Env)(s:Shared)(H:Hp):Cx :=
 { (je CX0 P w K mg base N qual scope f cd A outer s H E0) with calm:=false,xe:=λ_ _=>False}
theorem znf {K:qQ0}{base:Heap}{name:Str}{params:Arguments}{body:List Stmt}{dV kV doc pm cdv ct oc:Value}{an od:Option Addr}
  {osl:Array (Option Value)} (lk:K.lookup f=some ⟨oc,od,.func (PySem.W.fnOf name qual params body scope dV kV doc pm an cdv ct),osl⟩) (hcd:PySem.W.codeIn K cdv qual=true) (S:FnScope N ps scope)
  (len:∀vs H Q E,sp vs H Q E->vs.length=ps.length)
  (hbody:∀(A:Around) (outer:List Env) (s:Shared) (H:Hp) (vs:List V) (Q:VK),Room k ((Around.calm0 A).deeper (envOfC qual scope s.heap.objs.size f cdv))->sp vs H Q E0 ->
   ∃t,PSs (zg8 P w K mg base N qual scope f cdv A outer s H) body t/\t {nx:=λ_ H'=>Q .non H',rt:=Q} (start N vs) H) :
  FnOkH P w K mg base (k+1) f (PySem.W.fnOf name qual params body scope dV kV doc pm an cdv ct) ps sp:=by
 refine⟨len,λA outer s H args us vs Q hr e0 hb r hsp=>?_⟩
 have hl:=len _ _ _ _ hsp
 have KX:K.In s.heap:=e0.mod.kin.keeps λb o e=>(e0.bs b o e).1
 have lim:s.heap.NoLimit:=e0.mod.nolimit.keeps λb o e=>(e0.bs b o e).1
 have hkind:∀y∈ps.zip us,scope.names.lookup y.1=some .local∨(scope.names.lookup y.1=some .cell/\((cellsFrom (s.heap.objs.size+1) scope.names []).lookup y.1).isSome=true):=λ⟨n,v⟩ hy=>by
  rcases S.par n (lcb hy).1 with q|q
  ·exact .inl q
  ·exact .inr ⟨q,lcT _ _ _ (.inl q)⟩
 have hdp:A.depth<recursionLimit:=by have:=hr.dp;omega
 refine codeAny_call_function hdp (KX _ _ lk) rfl S.co S.gen rfl (PySem.W.codeRec_of KX hcd) (hb _ _ _ _ ?_)
 refine wpAny_newFunctionEnv_cells S.kind hkind λenv he s1 x=>?_
 subst he
 refine⟨lim.keeps x.toInCall.keep,codeAny_func ?_⟩
 obtain⟨t,ht,hq⟩:=hbody A outer s H vs Q (hr.off _) hsp
 have e0':Env0 P w K mg base (Around.calm0 A) outer s H:=⟨e0.frames,e0.mod,e0.bs,e0.bsz,e0.funs,e0.frf,e0.hok,e0.bare⟩
 have I0:Inv (je CX0 P w K mg base N qual scope f cdv (Around.calm0 A) outer s H E0) [] (start N vs) H s1:=zeE S rfl e0' hl r x
 have ok:=I0.ok
 have I:Inv (zg8 P w K mg base N qual scope f cdv A outer s H) [] (start N vs) H s1 :=
  ⟨⟨ok.mod,ok.kind,ok.glob,ok.blt,ok.above,ok.inj,ok.has,ok.cab,λz=>(by cases z),ok.frames,ok.stk,ok.exf,ok.bs,ok.bsz,ok.noex,ok.exfs,ok.funs,ok.frf⟩,I0.os,I0.bare,I0.base,I0.loc,I0.cell,I0.free,I0.freeC,I0.pin,I0.hok,I0.len⟩
 refine laF (ht [] s1 (start N vs) H _ I hq) (λfl s' hs=>?_) λe s' hs=>False.elim hs
 have fin:∀{σ':St}{H':Hp}{v:V}{u:Value},Inv (zg8 P w K mg base N qual scope f cdv A outer s H) [] σ' H' s'->RelV v u->Q v H'->CE outer P w H s Q u s' :=
  λ{σ' H' v u} J rv q=>⟨v,H',J.os,J.bare,J.base,J.hok,rv,q⟩
 cases fl with
 | ret u =>
  obtain⟨v,σ',H',J,rv,q⟩:=hs
  exact fin J rv q
 | next =>
  obtain⟨σ',H',J,q⟩:=hs
  exact fin (v:=V.non) (u:=Value.none) J rfl q
 | brk =>
  obtain⟨_,_,_,q⟩:=hs
  exact False.elim q
 | cont =>
  obtain⟨_,_,_,q⟩:=hs
  exact False.elim q
theorem Fun.okH {K:qQ0}{base:Heap}{st:Stmt}(F:Fun K x qual st f fd)(S:FnScope N ps (zq st))(len:∀vs H Q E,sp vs H Q E->vs.length=ps.length)
  (hbody:∀(cdv:Value) (A:Around) (outer:List Env) (s:Shared) (H:Hp) (vs:List V) (Q:VK),Room k ((Around.calm0 A).deeper (envOfC qual (zq st) s.heap.objs.size f cdv))->sp vs H Q E0 ->
   ∃t,PSs (zg8 P w K mg base N qual (zq st) f cdv A outer s H) (xP st) t/\t {nx:=λ_ H'=>Q .non H',rt:=Q} (start N vs) H):FnOkH P w K mg base (k+1) f fd ps sp:=by
 obtain⟨oc,od,kV,doc,pm,an,cdv,ct,osl,rfl,lk,hcd⟩:=F.ex
 exact znf lk hcd S len λA outer s H vs Q hr hsp=>hbody cdv A outer s H vs Q hr hsp
section
variable {X:Cx}{k:Nat}{f:Addr}{fd:FuncData}{ps:List Str}{sp:Sp}{x:Str}{p pos:Pos}{e:Expr}{es:List Expr}{t:TA}
theorem zjV (F:FnOkH X.prog X.w X.K X.mg X.base k f fd ps sp)(hr:RoomH k X.A)(hg:Gl X x)(hm:X.mg x=some (.ref f))(hk:PySem.W.keepIn X.K (.ref f)=true)(hb:Binds X.K fd ps [])(ha:PA X (e::es) t)
  (hdb:(x == ("__debug__" : Str))=false:=by decide) (he:starEach (e::es) X.env=(false,eval e X.env)::starEach es X.env:=by rfl) (hpl:(backTo pos (starEach es X.env)).any (·.1)=false:=by rfl) :
  PE X (.Call (.Name x p) (e::es) [] pos) (zno sp [] E0 t):=by
 intro pins s σ H Q I h
 refine lbl (zal I hg hm ?_ hdb)
 refine ldv (h₀:=X.base) I.ok.mod.kin hk (thn (ha pos pins s σ H _ I h) λus s1 ⟨vs,H1,I1,r,q⟩=>⟨I1.kIn,?_⟩) he hpl
 have q:sp vs H1 Q E0:=by
  have q':sp (vs++[]) H1 Q E0:=q
  rw[lY] at q'
  exact q'
 have hl:us.length=ps.length:=by rw[← r.length];exact F.len _ _ _ _ q
 have hb':=hb s1 us I1.kIn (by rw[lY];exact hl)
 rw[lY] at hb'
 refine wpAny_call (lc5 (F.run X.A X.stack s1 H1 ⟨us,[]⟩ us vs Q hr I1.env0 hb' r q) λr s' hq=>?_)
 cases r with
 | error e=>exact False.elim hq
 | ok fl =>
  cases fl with
  | ret u=>exact I1.after hq
  | next=>exact False.elim hq
  | brk=>exact False.elim hq
  | cont=>exact False.elim hq
end
theorem zbm:bootBuiltins "ValueError" = some (.type "ValueError"):=PyProof.Rows.Boot.«ValueError»
theorem ur {X:Cx}:zaH (CX1 P w) X E0:=λ_ _ _ _ _ _ _ h=>by
 obtain⟨_,_,_,_,_,_,_,_,_,_,_,_,_,_,_,_,hE⟩:=h
 exact hE.elim
theorem zdN {x:V}:∀{xs:List V}{us:List Value},Vals xs us->xs.all vL=true->us.countP (eqU x)=xs.countP λy=>eqV y x
 | _,_,.nil,_=>rfl
 | y::xs,u::us,.cons r t,f=>by
  rw[lba,lM] at f
  rw[List.countP_cons,List.countP_cons,zfE r f.1,zdN t f.2]
theorem zdG {x:V}:∀{xs:List V}{us:List Value},Vals xs us->xs.all vL=true->∀(j:Nat) (u:Value),us[j]? = some u->∃y,xs[j]? = some y/\eqU x u=eqV y x
 | _,_,.nil,_=>λj u e=>by simp at e
 | y::xs,u::us,.cons r t,f=>λj v e=>by
  rw[lba,lM] at f
  cases j with
  | zero =>
   have:u=v:=by simpa using e
   subst this
   exact⟨y,rfl,zfE r f.1⟩
  | succ j=>exact zdG t f.2 j v (by simpa using e)
end L2
namespace My
theorem Book.cutRows {m:Nat}{B:qQ1}(h:Book m B){rows:qQ1}{left l:List Nat}(hr:∀p∈rows,p∈B)(hf:ziT B left)(e:rows.flatten++left=l):wA B l=(rows,left):=by
 rw[← e,zg6,h.cutSome rows hr]
 simp only[laE]
 rw[zdh hf]
 simp
end My
namespace L2
open PySem PySem.Spec PyProof.Rows
variable {a es:List Expr}{c:Pos}{env:Env}
theorem kZ {b}:starEach (.Tuple a b c::es) env=(false,eval (.Tuple a b c) env)::starEach es env:=by rfl
theorem zgl :starEach (.List a c::es) env=(false,eval (.List a c) env)::starEach es env:=by rfl
theorem ug {a b:Expr}{o}:starEach (.BinOp a o b c::es) env=(false,eval (.BinOp a o b c) env)::starEach es env:=by rfl
theorem zR {f:Expr}{k}:starEach (.Call f a k c::es) env=(false,eval (.Call f a k c) env)::starEach es env:=by rfl
theorem xr {a b:Expr}:starEach (.Subscript a b c::es) env=(false,eval (.Subscript a b c) env)::starEach es env:=by rfl
theorem zb {a}:starEach (.Name a c::es) env=(false,eval (.Name a c) env)::starEach es env:=by rfl
theorem zlX {o}{a:Expr}:starEach (.UnaryOp o a c::es) env=(false,eval (.UnaryOp o a c) env)::starEach es env:=by rfl
theorem zm {a}{k}:starEach (.Constant a k c::es) env=(false,eval (.Constant a k c) env)::starEach es env:=by rfl
section
variable {prog:Program}{w:World}{A:Around}{E:qQ2}{s:Shared}
theorem jM {t sl:Addr}{items:Array Value}{vl vu:Value}{lo hi:Option Int}{Q:qQ2}(ht:IsTup s.heap t items)(hs:s.heap.IsSliceOf sl vl vu .none)(pl:IsPart vl lo)(pu:IsPart vu hi)
  (hw:HT.sIx items.size 0 lo=0/\HT.sIx items.size items.size hi=items.size) (h:Q (.ref t) s):wpAny (model prog w) A (getItem (.ref t) (.ref sl)) Q E s:=by
 obtain⟨os,hos,hcs,hds⟩:=id hs
 have hTs:s.TypeIs (.ref sl) "slice" := ⟨os,hos,hcs⟩
 unfold getItem
 try with_reducible refine lak ?_
 first|refine la (lr ?_)|skip
 refine la (wpAny_sequenceKey ht.typeIs (by decide) ?_)
 refine la (lV (name:=Str.ofString "__getitem__") ht.typeIs laX
  (lad laX ht.typeIs entry_tuple_getitem ?_ (args_tuple_getitem _ _)))
 show wpAny _ _ (Builtin.Tuple.tupleItemsOf (.ref t) >>= _) _ _ s
 refine la (tupleItemsOf_ ht ?_)
 refine la (ldw hTs ?_)
 rw[lU (by decide)]
 refine la (HT.sliceApplied_gen hs pl pu ?_)
 have hyes:(((HT.sIx items.size 0 lo:Nat):Int) == 0&&(1:Int) == 1&&(HT.sIx items.size items.size hi - HT.sIx items.size 0 lo) == items.size)=true:=by
  rw[hw.1,hw.2]
  simp
 show wpAny _ _ (if (((HT.sIx items.size 0 lo:Nat):Int) == 0&&(1:Int) == 1&&(HT.sIx items.size items.size hi - HT.sIx items.size 0 lo) == items.size)=true then _ else _) _ _ s
 rw[lU hyes]
 refine la (m:=Builtin.Tuple.tupleIsExact (.ref t)) ?_
 unfold Builtin.Tuple.tupleIsExact
 refine la (ldw ht.typeIs (lr ?_))
 rw[lU (by decide)]
 first
  | exact la (lcZ (lr ⟨_,rfl,lr h⟩))
  | exact la (lcZ (lr ⟨_,rfl,h⟩))
end
section
variable {X:Cx}
def zqe (K:qQ0):V->Option Int->Option Int->Hp->VK->Prop:=λx lo hi H Q=>∃a xs,x=.ref a/\SqT K H a xs/\∀p H',Same H H'->SqT K H' p (zhL xs lo hi)->Q (.ref p) H'
theorem zlI:SlR X (zqe X.K):=by
 intro pins s σ H x v vl vu lo hi sl Q I rx hs pl pu h
 obtain⟨a,xs,rfl,hx,q⟩:=h
 by_cases hw:HT.sIx xs.length 0 lo=0/\HT.sIx xs.length xs.length hi=xs.length
 ·cases rx
  obtain⟨its,r,ht,hz⟩:=I.tuple hx
  have hlen:its.toArray.size=xs.length:=by rw[lP];exact r.length.symm
  refine⟨"tuple", _,laX.lookup,ht.typeIs,jM ht hs pl pu (by rw[hlen];exact hw) ⟨.ref a,H,I,rfl,q a H (Same.refl _) ?_⟩⟩
  have:zhL xs lo hi=xs:=by
   unfold zhL
   rw[hw.1,hw.2,lc3,ld3,List.take_length]
  rw[this]
  exact hx
 ·exact zn7 pins s σ H (.ref a) v vl vu lo hi sl Q I rx hs pl pu ⟨a,xs,rfl,hx,hw,λp hp=>q p _ (Same.upd hp) (SqT.of zV)⟩
end
end L2
set_option maxHeartbeats 2000000
namespace L2
open PySem PySem.Spec PyProof.Rows
theorem zcX (l:Addr)(items:Array Value)(x:Value)(e:Value->Bool)(j:Nat)(hj:j<items.size)
  (hit:e items[j]=true) (hno:∀m (hm:m<items.size),m<j->e items[m]=false) :
  Meets (Builtin.«tuple.index» ⟨[.ref l,x],[]⟩)
   (λA R s=>s.heap.IsTuple l items/\(∀y,y∈items->SeqAt.EqAt A.in1 s y x (e y))/\R (.ok (.ret (.int j s.toks))) {s with toks:=s.toks+1}):=by
 intro prog w A R s h
 obtain⟨hl,he,h⟩:=h
 obtain⟨o,ho,hc,n,hd⟩:=id hl
 unfold Builtin.«tuple.index»
 refine la ?_
 wp_walk using wpAny_loadPart' ho
 rw[hd]
 refine lr (lr ?_)
 refine la (lr (la (lr (la ?_))))
 rw[Std.Legacy.Range.forIn_eq_forIn_range']
 simp only[Std.Legacy.Range.size,ld3,Nat.add_sub_cancel,Nat.div_one,Nat.min_self]
 refine wpAny_forIn_list _ (λrest b s'=>s'=s/\∃i,rest=List.range' i (items.size - i)/\i<=j) _ ?_ ?_ _ _ ⟨rfl,0,by simp,lbq _⟩
 ·rintro y rest b s' ⟨rfl,i,hr,hi⟩
  obtain ⟨rfl,hrest⟩:y=i/\rest=List.range' (i+1) (items.size - (i+1)):=by
   have e:items.size - i=(items.size - (i+1))+1:=by omega
   rw[e,List.range'_succ] at hr
   injection hr with h1 h2
   exact⟨h1,h2⟩
  have hlt:y<items.size:=by omega
  rw[laS hlt]
  refine la (he _ (Array.getElem_mem hlt) prog w _ _ ?_)
  rcases lcd y j with hyj|hyj
  ·rw[hno y hlt hyj]
   exact lr ⟨rfl,y+1,hrest,hyj⟩
  ·have:y=j:=by omega
   subst this
   rw[hit]
   rw[lU rfl]
   wp_walk
   exact h
 ·rintro b s' ⟨rfl,i,hr,hi⟩
  have:items.size - i=0:=by
   have:=lbB List.length hr
   simpa using this.symm
  omega
section
variable {X:Cx}
def zmb (K:qQ0):V->List V->Hp->VK->Prop:=λx vs H Q=>∃(l:Addr) (xs:List V) (y:V) (j:Nat) (z:V),x=.ref l/\vs=[y]/\SqT K H l xs/\vL y=true/\xs.all vL=true/\xs[j]? = some z/\eqV z y=true/\(∀(m:Nat) (w:V),m<j->xs[m]? = some w->eqV w y=false)/\Q (.int (j:Int)) H
theorem zhw:MtR X "tuple.index" (zmb X.K):=by
 intro pins s σ H x vs v us Q I rx rv h
 obtain⟨l,xs,y,j,z0,rfl,rfl,hH,fy,fs,hj,hz,hno,q⟩:=h
 cases rx
 obtain⟨u,rfl,ru⟩:=rv.one
 obtain⟨its,r,pl,hl⟩:=I.tuple hH
 obtain⟨o,e,hc,n,hd⟩:=id pl
 have hjl:j<its.length:=by rw[← r.length];exact(lO.mp hj).1
 refine lcI F.slot_tuple_index ⟨_,e,hc⟩ F.entry_tuple_index (F.args_tuple_index_2 _ _) (zcX l its.toArray u (eqU y) j (by simpa using hjl) ?_ ?_) ⟨⟨o,e,hc,n,hd⟩,λw hw=>kE ru fy r fs w (by simpa using hw),?_⟩
 ·obtain⟨y2,e2,e3⟩:=zdG (x:=y) r fs j its[j] (lh hjl)
  rw[hj] at e2
  obtain rfl:=lq e2
  show eqU y its[j]=true
  rw[e3,hz]
 ·intro m hm hmj
  have hml:m<its.length:=by simpa using hm
  obtain⟨y2,e2,e3⟩:=zdG (x:=y) r fs m its[m] (lh hml)
  show eqU y its[m]=false
  rw[e3]
  exact hno m y2 hmj e2
 ·exact⟨.int _,H,I.tok _,⟨_,rfl⟩,q⟩
def zje (K:qQ0):V->List V->Hp->VK->Prop:=λx vs H Q=>∃(l:Addr) (xs:List V) (y:V) (j:Nat) (z:V),x=.ref l/\vs=[y]/\SqL K H l xs/\vL y=true/\xs.all vL=true/\xs[j]? = some z/\eqV z y=true/\j<1000000/\(∀(m:Nat) (w:V),m<j->xs[m]? = some w->eqV w y=false)/\Q (.int (j:Int)) H
theorem zdF:MtR X "list.index" (zje X.K):=by
 intro pins s σ H x vs v us Q I rx rv h
 obtain⟨l,xs,y,j,z0,rfl,rfl,hH,fy,fs,hj,hz,h1000,hno,q⟩:=h
 cases rx
 obtain⟨u,rfl,ru⟩:=rv.one
 obtain⟨its,r,pl,hl⟩:=I.list hH
 obtain⟨o,n,e,hc,hd,hs⟩:=id pl
 have hjl:j<its.length:=by rw[← r.length];exact(lO.mp hj).1
 have eo:o={cls:=.type "list", dict:=none,data:=.seq its.toArray n,slots:=o.slots}:=by
  obtain⟨c,d,dt,sl⟩:=o
  dsimp only at hc hd hs
  subst hc hd hs
  rfl
 rw[eo] at e
 refine lcI F.slot_list_index ⟨_,e,rfl⟩ F.entry_list_index (F.args_list_index_2 _ _) (SeqAt.list_indexAt l its.toArray n none o.slots u (eqU y) j (by simpa using hjl) (by omega) ?_ ?_) ⟨e,λw hw=>kE ru fy r fs w (by simpa using hw),?_⟩
 ·obtain⟨y2,e2,e3⟩:=zdG (x:=y) r fs j its[j] (lh hjl)
  rw[hj] at e2
  obtain rfl:=lq e2
  show eqU y its[j]=true
  rw[e3,hz]
 ·intro m hm hmj
  have hml:m<its.length:=by simpa using hm
  obtain⟨y2,e2,e3⟩:=zdG (x:=y) r fs m its[m] (lh hml)
  show eqU y its[m]=false
  rw[e3]
  exact hno m y2 hmj e2
 ·exact⟨.int _,H,I.tok _,⟨_,rfl⟩,q⟩
end
end L2
set_option maxHeartbeats 1000000
namespace L2
open PySem
variable {es:Array (Int×Value)}{ks:List Str}
def txt:Value->Str
 | .str x _=>x
 | _=>⟨#[]⟩
abbrev stO (es:Array (Int×Value))(ep:Nat)(t:SetTable):Obj:={cls:=.type "set", dict:=none,data:=.set es ep t,slots:=#[]}
structure StS (w:World)(es:Array (Int×Value))(t:SetTable)(ks:List Str):Prop where
 shape:∀e∈es.toList,∃x tk,e=(hashStr w x,Value.str x tk)
 keys:(es.toList.map λe=>txt e.2).Perm ks
 nd:ks.Nodup
 fits:t.fits es.size=true
 led:t.led = !w.params.followText "set-order"
 plain:es.size=0∨t.plain=false
 few:es.size<scanBound
theorem StS.size {w:World}{t:SetTable}(S:StS w es t ks):es.size=ks.length:=by
 have:=S.keys.length_eq
 simpa using this
theorem isStrOf_txt {x y:Str}{tk:Tok}:Value.isStrOf x (.str y tk)=true↔x=y:=by
 constructor
 ·intro h
  obtain⟨t,e⟩:=Value.isStrOf_shape h
  injection e with e _
  exact e.symm
 ·rintro rfl;simp[Value.isStrOf,Value.isStr]
theorem StS.find {w:World}{t:SetTable}(S:StS w es t ks)(x:Str):(∃e∈es.toList,Value.isStrOf x e.2=true)↔x∈ks:=by
 rw[← S.keys.mem_iff,lat]
 constructor
 ·rintro⟨e,he,h⟩
  obtain⟨y,tk,rfl⟩:=S.shape e he
  exact⟨_,he,(isStrOf_txt.mp h).symm⟩
 ·rintro⟨e,he,h⟩
  obtain⟨y,tk,rfl⟩:=S.shape e he
  exact⟨_,he,isStrOf_txt.mpr h.symm⟩
end L2
set_option maxHeartbeats 3200000
namespace L2
open PySem PySem.Spec PyProof.Rows
section
variable {prog:Program}{w:World}{A:Around}{E:qQ2}{s:Shared}
theorem StS.new:StS w #[] (.fresh 0 0 (!w.params.followText "set-order")) [] where
 shape:=λe he=>by simp at he
 keys:=lbk _
 nd:=lb8
 fits:=rfl
 led:=rfl
 plain:=.inl rfl
 few:=by decide
end
end L2
set_option maxHeartbeats 1000000
namespace L2
open PySem PySem.Spec PyProof.Rows
variable {v:V}{vs:List V}{H1 H0 F0 F H:Hp}{p a:Addr}{b e c tg:Expr}{σ:St}{α:Type}{i j n k:Nat}{Q P:VK}{r r':R2}{x y:Str}{l:List Nat}{es:List Expr}{op:CmpOp}{fd:FuncData}{ps N:List Str}{neg:Bool}{body sts:List Stmt}{t u tx:St->Hp->VK->XK->Prop}{ls:qQ1}{apos cpos np pos:Pos}{cl:Nat->Addr}{mg:qQ3}{E:XK}
inductive D where
 | non|bl (b:Bool)|int (i:Int)|str (l:List Nat)|lst (xs:List D)|tup (xs:List D)|dct (kvs:List (List Nat×D))|exc (n:Nat)
inductive Rs (α:Type) where
 | ok (a:α)|ex (n:Nat)|no
def Rs.bind {α β:Type}:Rs α->(α->Rs β)->Rs β
 | .ok a,f=>f a
 | .ex n,_=>.ex n
 | .no,_=>.no
inductive Sl where
 | no|fz (d:D)|ow (xs:List D)|od (kvs:List (List Nat×D))|ot (ks:List D)
abbrev Rho:=List Sl
abbrev qQ6:=Rho->Rs Bool
abbrev qQ5:=Rho->Rs D
abbrev qQ4:=Rho->Rs (List D)
variable {ρ:Rho}{f ft fu:qQ6}
inductive Out where
 | nx (ρ:Rho)|rt (d:D)|bk (ρ:Rho)|ct (ρ:Rho)|ex (n:Nat)|no
mutual
inductive Dt (K:qQ0)(cl:Nat->Addr)(F:Hp):V->D->Prop
 | non:Dt K cl F .non .non
 | bl (b:Bool):Dt K cl F (.bl b) (.bl b)
 | int (i:Int):Dt K cl F (.int i) (.int i)
 | str (l:List Nat) (ok:TxtOk (T l)):Dt K cl F (.str (T l)) (.str l)
 | lst {a:Addr}{xs:List V}{ds:List D}:SqL K F a xs->Dts K cl F xs ds->Dt K cl F (.ref a) (.lst ds)
 | tup {a:Addr}{xs:List V}{ds:List D}:SqT K F a xs->Dts K cl F xs ds->Dt K cl F (.ref a) (.tup ds)
 | dct {a:Addr}{kvs:List (Key×V)}{ds:List (List Nat×D)}:F a=some (.dK kvs)->Dks K cl F kvs ds->Dt K cl F (.ref a) (.dct ds)
 | exc {a:Addr}{n:Nat}:F a=some (excAt a (cl n))->Dt K cl F (.ref a) (.exc n)
inductive Dts (K:qQ0)(cl:Nat->Addr)(F:Hp):List V->List D->Prop
 | nil:Dts K cl F [] []
 | cons {v:V}{d:D}{vs:List V}{ds:List D}:Dt K cl F v d->Dts K cl F vs ds->Dts K cl F (v::vs) (d::ds)
inductive Dks (K:qQ0)(cl:Nat->Addr)(F:Hp):List (Key×V)->List (List Nat×D)->Prop
 | nil:Dks K cl F [] []
 | cons {l:List Nat}{v:V}{d:D}{vs:List (Key×V)}{ds:List (List Nat×D)}:TxtOk (T l)->Dt K cl F v d->Dks K cl F vs ds->Dks K cl F ((Sum.inr (T l),v)::vs) ((l,d)::ds)
end
section
variable {K:qQ0}{cl:Nat->Addr}{F F' H H':Hp}
theorem Dt.monos (e:Same F F'):(∀{v:V}{d:D},Dt K cl F v d->Dt K cl F' v d)/\(∀{vs:List V}{ds:List D},Dts K cl F vs ds->Dts K cl F' vs ds)/\(∀{vs:List (Key×V)}{ds:List (List Nat×D)},Dks K cl F vs ds->Dks K cl F' vs ds):=by
 refine⟨λ{v d} h=>?_,λ{vs ds} h=>?_,λ{vs ds} h=>?_⟩
 ·exact Dt.rec (motive_1:=λv d _=>Dt K cl F' v d) (motive_2:=λvs ds _=>Dts K cl F' vs ds) (motive_3:=λvs ds _=>Dks K cl F' vs ds) .non .bl .int .str (λq _ ih=>.lst (e.seq q) ih) (λq _ ih=>.tup (e.seqT q) ih) (λq _ ih=>.dct (e _ _ q) ih) (λq=>.exc (e _ _ q)) .nil (λ_ _ a b=>.cons a b) .nil (λok _ _ a b=>.cons ok a b) h
 ·exact Dts.rec (motive_1:=λv d _=>Dt K cl F' v d) (motive_2:=λvs ds _=>Dts K cl F' vs ds) (motive_3:=λvs ds _=>Dks K cl F' vs ds) .non .bl .int .str (λq _ ih=>.lst (e.seq q) ih) (λq _ ih=>.tup (e.seqT q) ih) (λq _ ih=>.dct (e _ _ q) ih) (λq=>.exc (e _ _ q)) .nil (λ_ _ a b=>.cons a b) .nil (λok _ _ a b=>.cons ok a b) h
 ·exact Dks.rec (motive_1:=λv d _=>Dt K cl F' v d) (motive_2:=λvs ds _=>Dts K cl F' vs ds) (motive_3:=λvs ds _=>Dks K cl F' vs ds) .non .bl .int .str (λq _ ih=>.lst (e.seq q) ih) (λq _ ih=>.tup (e.seqT q) ih) (λq _ ih=>.dct (e _ _ q) ih) (λq=>.exc (e _ _ q)) .nil (λ_ _ a b=>.cons a b) .nil (λok _ _ a b=>.cons ok a b) h
theorem Dt.mono {d:D}(h:Dt K cl F v d)(e:Same F F'):Dt K cl F' v d:=(Dt.monos e).1 h
theorem Dts.mono {ds:List D}(h:Dts K cl F vs ds)(e:Same F F'):Dts K cl F' vs ds:=(Dt.monos e).2.1 h
theorem Dks.mono {vs:List (Key×V)}{ds:List (List Nat×D)}(h:Dks K cl F vs ds)(e:Same F F'):Dks K cl F' vs ds:=(Dt.monos e).2.2 h
theorem Dts.length:∀{vs:List V}{ds:List D},Dts K cl F vs ds->vs.length=ds.length
 | _,_,.nil=>rfl
 | _,_,.cons _ r=>by simp[r.length]
theorem Dts.append:∀{vs ws:List V}{ds es:List D},Dts K cl F vs ds->Dts K cl F ws es->Dts K cl F (vs++ws) (ds++es)
 | _,_,_,_,.nil,s=>s
 | _,_,_,_,.cons r t,s=>.cons r (Dts.append t s)
theorem Dts.get:∀{vs:List V}{ds:List D}{i:Nat}{v:V},Dts K cl F vs ds->vs[i]? = some v->∃d,ds[i]? = some d/\Dt K cl F v d
 | _,_,_,_,.nil,e=>by simp at e
 | _,_,0,_,.cons r _,e=>by simp at e;subst e;exact⟨_,rfl,r⟩
 | _,_,i+1,v,.cons _ t,e=>by
  obtain⟨d,h1,h2⟩:=Dts.get (i:=i) (v:=v) t (by simpa using e)
  exact⟨d,by simpa using h1,h2⟩
theorem Dts.get':∀{vs:List V}{ds:List D}{i:Nat}{d:D},Dts K cl F vs ds->ds[i]? = some d->∃v,vs[i]? = some v/\Dt K cl F v d
 | _,_,_,_,.nil,e=>by simp at e
 | _,_,0,_,.cons r _,e=>by simp at e;subst e;exact⟨_,rfl,r⟩
 | _,_,i+1,d,.cons _ t,e=>by
  obtain⟨v,h1,h2⟩:=Dts.get' (i:=i) (d:=d) t (by simpa using e)
  exact⟨v,by simpa using h1,h2⟩
theorem Dts.take:∀{vs:List V}{ds:List D} (n:Nat),Dts K cl F vs ds->Dts K cl F (vs.take n) (ds.take n)
 | _,_,0,_=>.nil
 | _,_,_+1,.nil=>.nil
 | _,_,n+1,.cons r t=>.cons r (Dts.take n t)
theorem Dts.drop:∀{vs:List V}{ds:List D} (n:Nat),Dts K cl F vs ds->Dts K cl F (vs.drop n) (ds.drop n)
 | _,_,0,r=>r
 | _,_,_+1,.nil=>.nil
 | _,_,n+1,.cons _ t=>Dts.drop n t
def kOf:D->Key
 | .int i=>.inl i
 | .str l=>.inr (T l)
 | _=>.inl 0
def isAt:D->Bool
 | .int _=>true
 | .str _=>true
 | _=>false
def tOf:D->List D
 | .tup ds=>ds
 | _=>[]
def kj (d:D):List Key:=(tOf d).map kOf
def zhV:D->Bool
 | .tup ds=>ds.all isAt
 | _=>false
structure Dtk (K:qQ0)(cl:Nat->Addr)(F:Hp)(kvs:List (List Key×Addr))(ks:List D):Prop where
 ky:kvs.map (·.1)=ks.map kj
 dt:Dts K cl F (kvs.map λq=>V.ref q.2) ks
 ta:∀d∈ks,zhV d=true
 nd:(ks.map kj).Nodup
theorem Dtk.mono {kvs:List (List Key×Addr)}{ks:List D}(h:Dtk K cl F kvs ks)(e:Same F F'):Dtk K cl F' kvs ks:=⟨h.ky,h.dt.mono e,h.ta,h.nd⟩
mutual
def D.py:D->PyData
 | .non=>.none
 | .bl b=>.bool b
 | .int i=>.int i
 | .str l=>.str (T l)
 | .lst xs=>.list (D.pys xs)
 | .tup xs=>.tuple (D.pys xs)
 | .dct _=>.none
 | .exc _=>.none
def D.pys:List D->List PyData
 | []=>[]
 | d::ds=>d.py::D.pys ds
end
mutual
def D.pl:D->Bool
 | .lst xs=>D.pls xs
 | .tup xs=>D.pls xs
 | .dct _=>false
 | .exc _=>false
 | _=>true
def D.pls:List D->Bool
 | []=>true
 | d::ds=>d.pl&&D.pls ds
end
theorem Dt.iss:(∀{v:V}{d:D},Dt K cl F v d->d.pl=true->Is K F v d.py)/\(∀{vs:List V}{ds:List D},Dts K cl F vs ds->D.pls ds=true->Iss K F vs (D.pys ds)):=by
 refine⟨λ{v d} h=>?_,λ{vs ds} h=>?_⟩
 ·exact Dt.rec (motive_1:=λv d _=>d.pl=true->Is K F v d.py) (motive_2:=λvs ds _=>D.pls ds=true->Iss K F vs (D.pys ds)) (motive_3:=λ_ _ _=>True) (λ_=>.non) (λb _=>.bl b) (λi _=>.int i) (λl ok _=>.str _ ok) (λq _ ih p=>.lst q (ih p)) (λq _ ih p=>.tup q (ih p)) (λ_ _ _ p=>by simp[D.pl] at p) (λ_ p=>by simp[D.pl] at p) (λ_=>.nil)
   (λ_ _ a b p=>by simp only[D.pls,lM] at p;exact .cons (a p.1) (b p.2)) trivial (λ_ _ _ _ _=>trivial) h
 ·exact Dts.rec (motive_1:=λv d _=>d.pl=true->Is K F v d.py) (motive_2:=λvs ds _=>D.pls ds=true->Iss K F vs (D.pys ds)) (motive_3:=λ_ _ _=>True) (λ_=>.non) (λb _=>.bl b) (λi _=>.int i) (λl ok _=>.str _ ok) (λq _ ih p=>.lst q (ih p)) (λq _ ih p=>.tup q (ih p)) (λ_ _ _ p=>by simp[D.pl] at p) (λ_ p=>by simp[D.pl] at p) (λ_=>.nil)
   (λ_ _ a b p=>by simp only[D.pls,lM] at p;exact .cons (a p.1) (b p.2)) trivial (λ_ _ _ _ _=>trivial) h
theorem Dt.is {d:D}(h:Dt K cl F v d)(p:d.pl=true):Is K F v d.py:=Dt.iss.1 h p
def HO.mu:HO->Bool
 | .tup _=>false
 | .frz _ _=>false
 | _=>true
structure Gr (F H F' H':Hp):Prop where
 ff:Same F F'
 hh:Same H H'
 fh:Same F' H'
 no:∀b o,H b=some o->o.mu=true->F b=none->F' b=none
theorem Gr.refl (h:Same F H):Gr F H F H:=⟨Same.refl _,Same.refl _,h,λ_ _ _ _ q=>q⟩
theorem Gr.trans {F1 F2 H2 F3 H3:Hp}(a:Gr F1 H1 F2 H2)(b:Gr F2 H2 F3 H3):Gr F1 H1 F3 H3 :=
 ⟨a.ff.trans b.ff,a.hh.trans b.hh,b.fh,λc o hc m q=>b.no c o (a.hh c o hc) m (a.no c o hc m q)⟩
theorem zgd {H2:Hp}{o:HO}(h:Same H1 H2):Same (upd H1 p o) (upd H2 p o):=λb u e=>by
 by_cases hb:b=p
 ·subst hb;rw[zV] at e ⊢;exact e
 ·rw[zO hb] at e ⊢;exact h b u e
theorem Gr.new {o:HO}(h:Same F H)(hp:H p=none):Gr F H (upd F p o) (upd H p o) :=
 ⟨Same.upd (h.free hp),Same.upd hp,zgd h,λb o hb m q=>by
  have hne:b≠p:=λz=>by rw[z,hp] at hb;cases hb
  rw[zO hne];exact q⟩
theorem Gr.newO {o:HO}(h:Same F H)(hp:H p=none):Gr F H F (upd H p o) :=
 ⟨Same.refl _,Same.upd hp,h.trans (Same.upd hp),λ_ _ _ _ q=>q⟩
def Sl.own:Sl->Bool
 | .ow _=>true
 | .od _=>true
 | .ot _=>true
 | _=>false
theorem Gr.tup {K:qQ0}{cl:Nat->Addr}{p:Addr}{vs:List V}{ds:List D}(h:Same F H)(s:Same H H')(q:SqT K H' p vs)(d:Dts K cl F vs ds):∃F',Gr F H F' H'/\Dt K cl F' (.ref p) (.tup ds):=by
 have s2:Same F H':=h.trans s
 have add:∀o:HO,H' p=some o->o.mu=false->Gr F H (λb=>if b=p then H' b else F b) H'/\Same F (λb=>if b=p then H' b else F b):=λo e m=>by
  have ff:Same F (λb=>if b=p then H' b else F b):=λb u e'=>by
   show(if b=p then H' b else F b)=some u
   split
   ·exact s2 b u e'
   ·exact e'
  refine⟨⟨ff,s,λb u e'=>?_,λb u hb m' q'=>?_⟩,ff⟩
  ·have e2:(if b=p then H' b else F b)=some u:=e'
   split at e2
   ·exact e2
   ·exact s2 b u e2
  ·show (if b=p then H' b else F b)=none
   split
   ·rename_i w
    subst w
    rw[s b u hb] at e
    injection e with e
    rw[e,m] at m'
    cases m'
   ·exact q'
 rcases q with(e|⟨u,e⟩)|q
 ·obtain⟨g,ff⟩:=add _ e rfl
  exact⟨_,g,.tup (.inl (.inl (by show(if p=p then H' p else F p)=_;rw[lU rfl];exact e))) (d.mono ff)⟩
 ·obtain⟨g,ff⟩:=add _ e rfl
  exact⟨_,g,.tup (.inl (.inr ⟨u,by show(if p=p then H' p else F p)=_;rw[lU rfl];exact e⟩)) (d.mono ff)⟩
 ·exact⟨F,⟨Same.refl _,s,s2,λ_ _ _ _ z=>z⟩,.tup (.inr q) d⟩
inductive Ly (K:qQ0)(cl:Nat->Addr)(F:Hp):HO->Sl->Prop
 | ow {vs:List V}{ds:List D}:Dts K cl F vs ds->Ly K cl F (.lst vs) (.ow ds)
 | od {vs:List (Key×V)}{ds:List (List Nat×D)}:Dks K cl F vs ds->Ly K cl F (.dK vs) (.od ds)
 | ot {vs:List (List Key×Addr)}{ds:List D}:Dtk K cl F vs ds->Ly K cl F (.dR vs) (.ot ds)
theorem Ly.mono {o:HO}{s:Sl}(h:Ly K cl F o s)(e:Same F F'):Ly K cl F' o s:=by
 cases h with
 | ow q=>exact .ow (q.mono e)
 | od q=>exact .od (q.mono e)
 | ot q=>exact .ot (q.mono e)
theorem Ly.mu {o:HO}{s:Sl}(h:Ly K cl F o s):o.mu=true:=by cases h <;>rfl
theorem zcT {o:Option (Option V)}{b:Addr}(h:o=some (some (.ref a)))(k:o=some (some (.ref b))):a=b:=by rw[h] at k;injection k with k;injection k with k;injection k
structure Rl (K:qQ0)(cl:Nat->Addr)(H0 F0:Hp)(ρ:Rho)(σ:St)(H F:Hp):Prop where
 gr:Gr F0 H0 F H
 len:ρ.length=σ.length
 fz:∀(i:Nat) d,ρ[i]? = some (.fz d)->∃v,σ[i]? = some (some v)/\Dt K cl F v d
 own:∀(i:Nat) s,ρ[i]? = some s->s.own=true->∃a o,σ[i]? = some (some (.ref a))/\H a=some o/\F a=none/\H0 a=none/\Ly K cl F o s
 ap:∀(i j:Nat) s t a,ρ[i]? = some s->ρ[j]? = some t->s.own=true->t.own=true->σ[i]? = some (some (.ref a))->σ[j]? = some (some (.ref a))->i=j
section
variable {H0 F0:Hp}{ρ:Rho}{σ:St}(R:Rl K cl H0 F0 ρ σ H F)
include R
theorem Rl.ow (i:Nat)(ds)(e:ρ[i]? = some (.ow ds)):∃a vs,σ[i]? = some (some (.ref a))/\H a=some (.lst vs)/\F a=none/\H0 a=none/\Dts K cl F vs ds:=by
 obtain⟨a,o,h1,h2,h3,h4,h5⟩:=R.own i _ e rfl
 cases h5 with|ow q=>exact⟨a,_,h1,h2,h3,h4,q⟩
theorem Rl.od (i:Nat)(ds)(e:ρ[i]? = some (.od ds)):∃a vs,σ[i]? = some (some (.ref a))/\H a=some (.dK vs)/\F a=none/\H0 a=none/\Dks K cl F vs ds:=by
 obtain⟨a,o,h1,h2,h3,h4,h5⟩:=R.own i _ e rfl
 cases h5 with|od q=>exact⟨a,_,h1,h2,h3,h4,q⟩
theorem Rl.ot (i:Nat)(ds)(e:ρ[i]? = some (.ot ds)):∃a vs,σ[i]? = some (some (.ref a))/\H a=some (.dR vs)/\F a=none/\H0 a=none/\Dtk K cl F vs ds:=by
 obtain⟨a,o,h1,h2,h3,h4,h5⟩:=R.own i _ e rfl
 cases h5 with|ot q=>exact⟨a,_,h1,h2,h3,h4,q⟩
theorem Rl.grow (g:Gr F H F' H'):Rl K cl H0 F0 ρ σ H' F' where
 gr:=R.gr.trans g
 len:=R.len
 fz:=λi d e=>let ⟨v,h1,h2⟩:=R.fz i d e;⟨v,h1,h2.mono g.ff⟩
 own:=λi s e o=>let ⟨a,q,h1,h2,h3,h4,h5⟩:=R.own i s e o;⟨a,q,h1,g.hh _ _ h2,g.no a _ h2 h5.mu h3,h4,h5.mono g.ff⟩
 ap:=R.ap
end
theorem Rl.fh (R:Rl K cl H0 F0 ρ σ H F):Same F H:=R.gr.fh
theorem get_set {l:List α}{x y:α}(h:(l.set i x)[j]? = some y):(i=j/\y=x/\i<l.length)∨(i≠j/\l[j]? = some y):=by
 by_cases e:i=j
 ·subst e
  rw[List.getElem?_set_self'] at h
  cases q:l[i]? with
  | none=>rw[q] at h;cases h
  | some z =>
   rw[q] at h
   exact .inl ⟨rfl,(lq h).symm,(lO.mp q).1⟩
 ·rw[lap e] at h
  exact .inr ⟨e,h⟩
theorem zcO {l:List α}{x:α}(h:i<l.length):(l.set i x)[i]? = some x:=by rw[lcS h]
theorem Rl.set {d:D}(R:Rl K cl H0 F0 ρ σ H F)(h:Dt K cl F v d):Rl K cl H0 F0 (ρ.set i (.fz d)) (σ.set i (some v)) H F where
 gr:=R.gr
 len:=by simp[R.len]
 fz := λj e z=>by
  rcases get_set z with⟨rfl,q,hl⟩|⟨hj,q⟩
  ·injection q with q;subst q
   exact⟨v,zcO (R.len▸hl),h⟩
  ·rw[lap hj];exact R.fz j e q
 own:=λj s z o=>by
  rcases get_set z with⟨rfl,q,hl⟩|⟨hj,q⟩
  ·subst q;cases o
  ·rw[lap hj];exact R.own j s q o
 ap := λj k s t a z1 z2 o1 o2 e1 e2=>by
  rcases get_set z1 with⟨rfl,q,hl⟩|⟨hj,q⟩
  ·subst q;cases o1
  ·rcases get_set z2 with⟨rfl,q2,hl⟩|⟨hk,q2⟩
   ·subst q2;cases o2
   ·rw[lap hj] at e1;rw[lap hk] at e2
    exact R.ap j k s t a q q2 o1 o2 e1 e2
theorem Rl.apart (R:Rl K cl H0 F0 ρ σ H F){s:Sl}(e:ρ[j]? = some s)(o:s.own=true)(z:σ[j]? = some (some (.ref a))):H a≠none:=by
 obtain⟨b,q,h1,h2,_⟩:=R.own j s e o
 rw[zcT z h1,h2];exact λz=>nomatch z
theorem Rl.ownN {o:HO}{s:Sl}{H' F':Hp}(R:Rl K cl H0 F0 ρ σ H F)(g:Gr F H F' H')(hp:H p=none)(h2:H' p=some o)(h3:F' p=none)(h:Ly K cl F' o s):Rl K cl H0 F0 (ρ.set i s) (σ.set i (some (.ref p))) H' F' where
 gr:=R.gr.trans g
 len:=by simp[R.len]
 fz:=λj e z=>by
  rcases get_set z with⟨rfl,q,hl⟩|⟨hj,q⟩
  ·subst q;cases h
  ·rw[lap hj];exact(R.grow g).fz j e q
 own:=λj e z w=>by
  rcases get_set z with⟨rfl,q,hl⟩|⟨hj,q⟩
  ·subst q
   exact⟨p,o,zcO (R.len▸hl),h2,h3,R.gr.hh.free hp,h⟩
  ·rw[lap hj];exact(R.grow g).own j e q w
 ap := λj k s t a z1 z2 o1 o2 e1 e2=>by
  rcases get_set z1 with⟨rfl,q,hl⟩|⟨hj,q⟩
  ·rcases get_set z2 with⟨rfl,q2,hl2⟩|⟨hk,q2⟩
   ·rfl
   ·rw[zcO (R.len▸hl)] at e1;rw[lap hk] at e2
    exact absurd (zcT e1 rfl▸hp) (R.apart q2 o2 e2)
  ·rcases get_set z2 with⟨rfl,q2,hl2⟩|⟨hk,q2⟩
   ·rw[zcO (R.len▸hl2)] at e2;rw[lap hj] at e1
    exact absurd (zcT e2 rfl▸hp) (R.apart q o1 e1)
   ·rw[lap hj] at e1;rw[lap hk] at e2
    exact R.ap j k s t a q q2 o1 o2 e1 e2
theorem Rl.newOwn {o:HO}{s:Sl}(R:Rl K cl H0 F0 ρ σ H F)(hp:H p=none)(h:Ly K cl F o s):Rl K cl H0 F0 (ρ.set i s) (σ.set i (some (.ref p))) (upd H p o) F:=R.ownN (Gr.newO R.fh hp) hp zV (R.fh.free hp) h
theorem Rl.setO {ds:List D}(R:Rl K cl H0 F0 ρ σ H F)(hp:H p=none)(h:Dts K cl F vs ds):Rl K cl H0 F0 (ρ.set i (.ow ds)) (σ.set i (some (.ref p))) (upd H p (.lst vs)) F:=R.newOwn hp (.ow h)
theorem Rl.chg {o:HO}{s t:Sl}(R:Rl K cl H0 F0 ρ σ H F)(hi:ρ[i]? = some s)(hw:s.own=true)(hs:σ[i]? = some (some (.ref a)))(h:Ly K cl F o t):Rl K cl H0 F0 (ρ.set i t) σ (upd H a o) F:=by
 obtain⟨b,w,h1,h2,h3,h4,_⟩:=R.own i s hi hw
 obtain rfl:=zcT hs h1
 have far:∀(j:Nat) (s:Sl) (c:Addr),j≠i->ρ[j]? = some s->s.own=true->σ[j]? = some (some (.ref c))->c≠a:=λj s c hj e o z w=>hj (R.ap j i s _ a e hi o hw (w▸z) hs)
 refine⟨⟨R.gr.ff,λc o e=>?_,λc o e=>?_,R.gr.no⟩,by simp[R.len],λj e z=>?_,λj e z q=>?_,λj k s1 t1 c z1 z2 o1 o2 e1 e2=>?_⟩
 ·rw[zO (λw=>by rw[w,h4] at e;cases e)];exact R.gr.hh c o e
 ·rw[zO (λw=>by rw[w,h3] at e;cases e)];exact R.fh c o e
 ·rcases get_set z with⟨rfl,q,hl⟩|⟨hj,q⟩
  ·subst q;cases h
  ·exact R.fz j e q
 ·rcases get_set z with⟨rfl,w,hl⟩|⟨hj,w⟩
  ·subst w
   exact⟨a,o,hs,zV,h3,h4,h⟩
  ·obtain⟨c,x,k1,k2,k3⟩:=R.own j e w q
   exact⟨c,x,k1,by rw[zO (far j _ c (lbY hj) w q k1)];exact k2,k3⟩
 ·have own:∀(j:Nat) (r:Sl),(ρ.set i t)[j]? = some r->r.own=true->∃s',ρ[j]? = some s'/\s'.own=true:=λj r z o=>by
   rcases get_set z with⟨rfl,q,hl⟩|⟨hj,q⟩
   ·exact⟨_,hi,hw⟩
   ·exact⟨r,q,o⟩
  obtain⟨s',q1,p1⟩:=own j _ z1 o1
  obtain⟨t',q2,p2⟩:=own k _ z2 o2
  exact R.ap j k s' t' c q1 q2 p1 p2 e1 e2
theorem Rl.put {us:List V}{ds es:List D}(R:Rl K cl H0 F0 ρ σ H F)(hi:ρ[i]? = some (.ow ds))(hs:σ[i]? = some (some (.ref a)))(h:Dts K cl F us es):Rl K cl H0 F0 (ρ.set i (.ow es)) σ (upd H a (.lst us)) F:=R.chg hi rfl hs (.ow h)
theorem Rl.let {s:Sl}{d:D}(R:Rl K cl H0 F0 ρ σ H F)(hi:ρ[i]? = some s)(hw:s.own=true)(hd:∀a o F,Ly K cl F o s->F a=some o->Dt K cl F (.ref a) d):∃F',Same F F'/\Rl K cl H0 F0 (ρ.set i (.fz d)) σ H F':=by
 obtain⟨a,o,h1,h2,h3,h4,h5⟩:=R.own i s hi hw
 have sm:Same F (upd F a o):=Same.upd h3
 have far:∀(j:Nat) (s:Sl) (c:Addr),j≠i->ρ[j]? = some s->s.own=true->σ[j]? = some (some (.ref c))->c≠a:=λj s c hj e o z w=>hj (R.ap j i s _ a e hi o hw (w▸z) h1)
 refine⟨upd F a o,sm,⟨⟨R.gr.ff.trans sm,R.gr.hh,λc o e=>?_,λc o hc m q=>?_⟩,by simp[R.len],λj e z=>?_,λj e z w=>?_,λj k s t c z1 z2 o1 o2 e1 e2=>?_⟩⟩
 ·by_cases w:c=a
  ·subst w;rw[zV] at e;rw[← e];exact h2
  ·rw[zO w] at e;exact R.fh c o e
 ·have hne:c≠a:=λw=>by rw[w,h4] at hc;cases hc
  rw[zO hne];exact R.gr.no c o hc m q
 ·rcases get_set z with⟨rfl,q,hl⟩|⟨hj,q⟩
  ·injection q with q;subst q
   exact⟨.ref a,h1,hd a o _ (h5.mono sm) zV⟩
  ·obtain⟨v,k1,k2⟩:=R.fz j e q
   exact⟨v,k1,k2.mono sm⟩
 ·rcases get_set z with⟨rfl,q,hl⟩|⟨hj,q⟩
  ·subst q;cases w
  ·obtain⟨c,xs,k1,k2,k3,k4,k5⟩:=R.own j e q w
   exact⟨c,xs,k1,k2,by rw[zO (far j _ c (lbY hj) q w k1)];exact k3,k4,k5.mono sm⟩
 ·rcases get_set z1 with⟨rfl,q,hl⟩|⟨hj,q⟩
  ·subst q;cases o1
  ·rcases get_set z2 with⟨rfl,q2,hl⟩|⟨hk,q2⟩
   ·subst q2;cases o2
   ·exact R.ap j k s t c q q2 o1 o2 e1 e2
theorem Rl.ice {ds:List D}(R:Rl K cl H0 F0 ρ σ H F)(hi:ρ[i]? = some (.ow ds)):∃F',Same F F'/\Rl K cl H0 F0 (ρ.set i (.fz (.lst ds))) σ H F':=R.let hi rfl λa o F l e=>by
 cases l with|ow q=>exact .lst (.inl (.inl e)) q
end
def OutE (K:qQ0)(cl:Nat->Addr)(E:XK)(H0 F H:Hp)(r:Rs D)(Q:VK):Prop :=
 match r with
 | .ok d=>∀v H' F',Gr F H F' H'->Dt K cl F' v d->Q v H'
 | .ex n=>∀H',Same H0 H'->E (.ref (cl n)) none H'
 | .no=>False
def OutA (K:qQ0)(cl:Nat->Addr)(E:XK)(H0 F H:Hp)(r:Rs (List D))(Q:List V->Hp->Prop):Prop :=
 match r with
 | .ok ds=>∀vs H' F',Gr F H F' H'->Dts K cl F' vs ds->Q vs H'
 | .ex n=>∀H',Same H0 H'->E (.ref (cl n)) none H'
 | .no=>False
def OutB (K:qQ0)(cl:Nat->Addr)(E:XK)(H0 F H:Hp)(r:Rs Bool)(Q:Bool->Hp->Prop):Prop :=
 match r with
 | .ok b=>∀H' F',Gr F H F' H'->Q b H'
 | .ex n=>∀H',Same H0 H'->E (.ref (cl n)) none H'
 | .no=>False
def OutS (K:qQ0)(cl:Nat->Addr)(E:XK)(H0 F0 F:Hp)(o:Out)(Dn:Ends):Prop :=
 match o with
 | .nx ρ=>∀σ H F',Rl K cl H0 F0 ρ σ H F'->Same F F'->Dn.nx σ H
 | .rt d=>∀v H F',Gr F0 H0 F' H->Dt K cl F' v d->Dn.rt v H
 | .bk ρ=>∀σ H F',Rl K cl H0 F0 ρ σ H F'->Same F F'->Dn.bk σ H
 | .ct ρ=>∀σ H F',Rl K cl H0 F0 ρ σ H F'->Same F F'->Dn.ct σ H
 | .ex n=>∀H',Same H0 H'->E (.ref (cl n)) none H'
 | .no=>False
def XE' (X:Cx)(cl:Nat->Addr)(E:XK)(e:Expr)(f:qQ5):Prop :=
 ∃t:TE,PE X e t/\∀(H0 F0:Hp) (ρ:Rho) (σ:St) (H F:Hp) (Q:VK),Rl X.K cl H0 F0 ρ σ H F->OutE X.K cl E H0 F H (f ρ) Q->t σ H Q
def XA' (X:Cx)(cl:Nat->Addr)(E:XK)(es:List Expr)(f:qQ4):Prop :=
 ∃t:TA,PA X es t/\∀(H0 F0:Hp) (ρ:Rho) (σ:St) (H F:Hp) (Q:List V->Hp->Prop),Rl X.K cl H0 F0 ρ σ H F->OutA X.K cl E H0 F H (f ρ) Q->t σ H Q
def XT' (X:Cx)(cl:Nat->Addr)(E:XK)(e:Expr)(f:qQ6):Prop :=
 ∃t:TT,PT X e t/\∀(H0 F0:Hp) (ρ:Rho) (σ:St) (H F:Hp) (Q:Bool->Hp->Prop),Rl X.K cl H0 F0 ρ σ H F->OutB X.K cl E H0 F H (f ρ) Q->t σ H Q
def XW' (X:Cx)(cl:Nat->Addr)(E:XK)(e:Expr)(f:qQ6):Prop :=
 ∃t:TT,PW X e t/\∀(H0 F0:Hp) (ρ:Rho) (σ:St) (H F:Hp) (Q:Bool->Hp->Prop),Rl X.K cl H0 F0 ρ σ H F->OutB X.K cl E H0 F H (f ρ) Q->t σ H Q
def XO' (X:Cx)(cl:Nat->Addr)(E:XK)(e:Option Expr)(f:Rho->Rs (Option Int)):Prop :=
 ∃ t:TO,PO X e t/\∀(H0 F0:Hp) (ρ:Rho) (σ:St) (H F:Hp) (Q:Option Int->Hp->Prop),Rl X.K cl H0 F0 ρ σ H F ->
  (match f ρ with | .ok o=>∀H' F',Gr F H F' H'->Q o H' | .ex n=>∀H',Same H0 H'->E (.ref (cl n)) none H' | .no=>False)->t σ H Q
def tDE (K:qQ0)(cl:Nat->Addr)(E:XK)(f:qQ5):TE:=λσ H Q=>∃H0 F0 ρ F,Rl K cl H0 F0 ρ σ H F/\OutE K cl E H0 F H (f ρ) Q
def tDA (K:qQ0)(cl:Nat->Addr)(E:XK)(f:qQ4):TA:=λσ H Q=>∃H0 F0 ρ F,Rl K cl H0 F0 ρ σ H F/\OutA K cl E H0 F H (f ρ) Q
def tDB (K:qQ0)(cl:Nat->Addr)(E:XK)(f:qQ6):TT:=λσ H Q=>∃H0 F0 ρ F,Rl K cl H0 F0 ρ σ H F/\OutB K cl E H0 F H (f ρ) Q
def XE (X:Cx)(cl:Nat->Addr)(E:XK)(e:Expr)(f:qQ5):Prop:=PE X e (tDE X.K cl E f)
def XA (X:Cx)(cl:Nat->Addr)(E:XK)(es:List Expr)(f:qQ4):Prop:=PA X es (tDA X.K cl E f)
def XT (X:Cx)(cl:Nat->Addr)(E:XK)(e:Expr)(f:qQ6):Prop:=PT X e (tDB X.K cl E f)
def XW (X:Cx)(cl:Nat->Addr)(E:XK)(e:Expr)(f:qQ6):Prop:=PW X e (tDB X.K cl E f)
section
variable {X:Cx}{cl:Nat->Addr}{E:XK}
theorem XE.ex {f:qQ5}(h:XE X cl E e f):XE' X cl E e f:=⟨_,h,λH0 F0 ρ σ H F Q R o=>⟨H0,F0,ρ,F,R,o⟩⟩
theorem XA.ex {e:List Expr}{f:qQ4}(h:XA X cl E e f):XA' X cl E e f:=⟨_,h,λH0 F0 ρ σ H F Q R o=>⟨H0,F0,ρ,F,R,o⟩⟩
theorem XT.ex (h:XT X cl E e f):XT' X cl E e f:=⟨_,h,λH0 F0 ρ σ H F Q R o=>⟨H0,F0,ρ,F,R,o⟩⟩
theorem XW.ex (h:XW X cl E e f):XW' X cl E e f:=⟨_,h,λH0 F0 ρ σ H F Q R o=>⟨H0,F0,ρ,F,R,o⟩⟩
theorem XE'.out {f:qQ5}(h:XE' X cl E e f):XE X cl E e f:=let ⟨_,pt,rt⟩:=h;λpins s σ H Q I ⟨H0,F0,ρ,F,R,o⟩=>pt pins s σ H Q I (rt H0 F0 ρ σ H F Q R o)
theorem XA'.out {e:List Expr}{f:qQ4}(h:XA' X cl E e f):XA X cl E e f:=let ⟨_,pt,rt⟩:=h;λpos pins s σ H Q I ⟨H0,F0,ρ,F,R,o⟩=>pt pos pins s σ H Q I (rt H0 F0 ρ σ H F Q R o)
theorem XT'.out (h:XT' X cl E e f):XT X cl E e f:=let ⟨_,pt,rt⟩:=h;λpins s σ H Q I ⟨H0,F0,ρ,F,R,o⟩=>pt pins s σ H Q I (rt H0 F0 ρ σ H F Q R o)
theorem XW'.out (h:XW' X cl E e f):XW X cl E e f:=let ⟨_,pt,rt⟩:=h;λwhole pins s σ H Q I ⟨H0,F0,ρ,F,R,o⟩=>pt whole pins s σ H Q I (rt H0 F0 ρ σ H F Q R o)
end
def fC (d:D):qQ5:=λ_=>.ok d
def fNm (i:Nat):qQ5:=λρ=>match ρ[i]? with|some (.fz d)=>.ok d|_=>.no
def lf:Option D->Rs D
 | some d=>.ok d
 | none=>.no
def f1 (g:D->Option D)(fa:qQ5):qQ5:=λρ=>(fa ρ).bind λa=>lf (g a)
def f2 (g:D->D->Option D)(fa fb:qQ5):qQ5:=λρ=>(fa ρ).bind λa=>(fb ρ).bind λb=>lf (g a b)
def zE:qQ4:=λ_=>.ok []
def zj (fa:qQ5)(fs:qQ4):qQ4:=λρ=>(fa ρ).bind λa=>(fs ρ).bind λas=>.ok (a::as)
def fO (g:List D->Option D)(fs:qQ4):qQ5:=λρ=>(fs ρ).bind λas=>lf (g as)
def fA (g:List D->Rs D)(fs:qQ4):qQ5:=λρ=>(fs ρ).bind g
def fIf (ft:qQ6)(fa fb:qQ5):qQ5:=λρ=>(ft ρ).bind λb=>if b=true then fa ρ else fb ρ
def tru:D->Rs Bool
 | .bl b=>.ok b
 | _=>.no
def bT (fa:qQ5):qQ6:=λρ=>(fa ρ).bind tru
def za6 (ft:qQ6):qQ6:=λρ=>(ft ρ).bind λb=>.ok (!b)
def zc1 (fa fb:qQ6):qQ6:=λρ=>(fa ρ).bind λb=>if b=true then fb ρ else .ok false
def bOr (fa fb:qQ6):qQ6:=λρ=>(fa ρ).bind λb=>if b=true then .ok true else fb ρ
def zaY (fa fb:qQ5):qQ5:=λρ=>(fa ρ).bind λa=>(tru a).bind λb=>if b=true then fb ρ else .ok (.bl false)
def fOr (fa fb:qQ5):qQ5:=λρ=>(fa ρ).bind λa=>(tru a).bind λb=>if b=true then .ok (.bl true) else fb ρ
def zfd (fa:qQ5):qQ5:=λρ=>(fa ρ).bind λa=>(tru a).bind λb=>.ok (.bl (!b))
section
variable {K:qQ0}{cl:Nat->Addr}{E:XK}{H0 F0 F H F1 H1:Hp}{ρ:Rho}{σ:St}
theorem OutE.grow {r:Rs D}(h:OutE K cl E H0 F H r Q)(g:Gr F H F1 H1):OutE K cl E H0 F1 H1 r Q:=by
 cases r with
 | ok d=>exact λv H' F' g' q=>h v H' F' (g.trans g') q
 | ex n=>exact h
 | no=>exact h
theorem OutA.grow {r:Rs (List D)}{Q:List V->Hp->Prop}(h:OutA K cl E H0 F H r Q)(g:Gr F H F1 H1):OutA K cl E H0 F1 H1 r Q:=by
 cases r with
 | ok d=>exact λv H' F' g' q=>h v H' F' (g.trans g') q
 | ex n=>exact h
 | no=>exact h
theorem OutB.grow {r:Rs Bool}{Q:Bool->Hp->Prop}(h:OutB K cl E H0 F H r Q)(g:Gr F H F1 H1):OutB K cl E H0 F1 H1 r Q:=by
 cases r with
 | ok d=>exact λH' F' g'=>h H' F' (g.trans g')
 | ex n=>exact h
 | no=>exact h
theorem OutE.fst {r:Rs D}{g:D->Rs D}(h:OutE K cl E H0 F H (r.bind g) Q)(k:∀d v H1 F1,Gr F H F1 H1->Dt K cl F1 v d->OutE K cl E H0 F1 H1 (g d) Q->P v H1):OutE K cl E H0 F H r P:=by
 cases r with
 | ok d=>exact λv H' F' g' q=>k d v H' F' g' q (h.grow g')
 | ex n=>exact h
 | no=>exact h
theorem OutE.fstA {r:Rs D}{g:D->Rs (List D)}{Q:List V->Hp->Prop}(h:OutA K cl E H0 F H (r.bind g) Q)(k:∀d v H1 F1,Gr F H F1 H1->Dt K cl F1 v d->OutA K cl E H0 F1 H1 (g d) Q->P v H1):OutE K cl E H0 F H r P:=by
 cases r with
 | ok d=>exact λv H' F' g' q=>k d v H' F' g' q (h.grow g')
 | ex n=>exact h
 | no=>exact h
theorem OutA.fst {r:Rs (List D)}{g:List D->Rs D}{P:List V->Hp->Prop}(h:OutE K cl E H0 F H (r.bind g) Q)(k:∀d v H1 F1,Gr F H F1 H1->Dts K cl F1 v d->OutE K cl E H0 F1 H1 (g d) Q->P v H1):OutA K cl E H0 F H r P:=by
 cases r with
 | ok d=>exact λv H' F' g' q=>k d v H' F' g' q (h.grow g')
 | ex n=>exact h
 | no=>exact h
theorem OutA.fstA {r:Rs (List D)}{g:List D->Rs (List D)}{Q P:List V->Hp->Prop}(h:OutA K cl E H0 F H (r.bind g) Q)(k:∀d v H1 F1,Gr F H F1 H1->Dts K cl F1 v d->OutA K cl E H0 F1 H1 (g d) Q->P v H1):OutA K cl E H0 F H r P:=by
 cases r with
 | ok d=>exact λv H' F' g' q=>k d v H' F' g' q (h.grow g')
 | ex n=>exact h
 | no=>exact h
theorem OutE.fstB {r:Rs D}{g:D->Rs Bool}{Q:Bool->Hp->Prop}(h:OutB K cl E H0 F H (r.bind g) Q)(k:∀d v H1 F1,Gr F H F1 H1->Dt K cl F1 v d->OutB K cl E H0 F1 H1 (g d) Q->P v H1):OutE K cl E H0 F H r P:=by
 cases r with
 | ok d=>exact λv H' F' g' q=>k d v H' F' g' q (h.grow g')
 | ex n=>exact h
 | no=>exact h
theorem OutB.fst {r:Rs Bool}{g:Bool->Rs D}{P:Bool->Hp->Prop}(h:OutE K cl E H0 F H (r.bind g) Q)(k:∀b H1 F1,Gr F H F1 H1->OutE K cl E H0 F1 H1 (g b) Q->P b H1):OutB K cl E H0 F H r P:=by
 cases r with
 | ok d=>exact λH' F' g'=>k d H' F' g' (h.grow g')
 | ex n=>exact h
 | no=>exact h
theorem OutB.fstB {r:Rs Bool}{g:Bool->Rs Bool}{Q P:Bool->Hp->Prop}(h:OutB K cl E H0 F H (r.bind g) Q)(k:∀b H1 F1,Gr F H F1 H1->OutB K cl E H0 F1 H1 (g b) Q->P b H1):OutB K cl E H0 F H r P:=by
 cases r with
 | ok d=>exact λH' F' g'=>k d H' F' g' (h.grow g')
 | ex n=>exact h
 | no=>exact h
theorem OutE.okI {d:D}(h:OutE K cl E H0 F H (.ok d) Q)(s:Same F H)(q:Dt K cl F v d):Q v H:=h v H F (Gr.refl s) q
theorem zc0 {d:D}{b:Bool}(q:Dt K cl F v d)(h:tru d=.ok b):v=.bl b:=by
 cases q <;>simp[tru] at h
 subst h;rfl
end
section
variable {X:Cx}{cl:Nat->Addr}{E:XK}{a b:Expr}{fa fb fc:qQ5}{pos:Pos}
theorem zie {d:D}(h:PE X e (tC v))(q:∀F,Dt X.K cl F v d):XE X cl E e (fC d):=XE'.out ⟨_,h,λH0 F0 ρ σ H F Q R o=>o.okI R.fh (q F)⟩
theorem zG {i j pos}:XE X cl E (.Constant (.int i) j pos) (fC (.int i)):=zie zmQ λ_=>.int i
theorem qu {b j pos}:XE X cl E (.Constant (.bool b) j pos) (fC (.bl b)):=zie zoL λ_=>.bl b
theorem zcn {j pos}:XE X cl E (.Constant .none j pos) (fC .non):=zie znJ λ_=>.non
theorem zkx {j pos}(h:x=T l)(ok:TxtOk (T l)):XE X cl E (.Constant (.str x) j pos) (fC (.str l)):=by subst h;exact zie zmK λ_=>.str l ok
theorem zpn (i:Nat)(h:PE X e (zkv i)):XE X cl E e (fNm i):=XE'.out ⟨_,h,λH0 F0 ρ σ H F Q R o=>by
 unfold fNm at o
 split at o
 ·rename_i d e
  obtain⟨v,h1,h2⟩:=R.fz i d e
  exact⟨v,h1,o.okI R.fh h2⟩
 ·exact o.elim⟩
theorem zu:XA X cl E [] zE:=XA'.out ⟨_,vX,λH0 F0 ρ σ H F Q R o=>o [] H F (Gr.refl R.fh) .nil⟩
theorem zf {fs:qQ4}(ha:XE X cl E e fa)(hr:XA X cl E es fs)(hs:starEach (e::es) X.env=(false,eval e X.env)::starEach es X.env):XA X cl E (e::es) (zj fa fs):=by
 obtain⟨t,pt,rt⟩:=ha.ex
 obtain⟨u,pu,ru⟩:=hr.ex
 refine XA'.out ⟨_,yX pt pu hs,λH0 F0 ρ σ H F Q R o=>rt H0 F0 ρ σ H F _ R (OutE.fstA o λd v H1 F1 g q o1=>?_)⟩
 refine ru H0 F0 ρ σ H1 F1 _ (R.grow g) (OutA.fstA o1 λds vs H2 F2 g2 q2 o2=>?_)
 exact o2 (v::vs) H2 F2 (Gr.refl (R.grow (g.trans g2)).fh) (.cons (q.mono g2.ff) q2)
def Op2 (K:qQ0)(cl:Nat->Addr)(r:R2)(g:D->D->Option D):Prop :=
 ∀(F H:Hp) (x y:V) (a b d:D) (Q:VK),Same F H->Dt K cl F x a->Dt K cl F y b->g a b=some d->(∀v H' F',Gr F H F' H'->Dt K cl F' v d->Q v H')->r x y H Q
theorem OutE.lf {K:qQ0}{cl:Nat->Addr}{E:XK}{o:Option D}(h:OutE K cl E H0 F H (lf o) Q):∃d,o=some d/\∀v H' F',Gr F H F' H'->Dt K cl F' v d->Q v H':=by
 cases o with
 | none=>exact h.elim
 | some d=>exact⟨d,rfl,h⟩
theorem yC {op:Operator}{g:D->D->Option D}(ho:OpR X (binaryOp op) r)(hg:Op2 X.K cl r g)(ha:XE X cl E a fa)(hb:XE X cl E b fb):XE X cl E (.BinOp a op b pos) (f2 g fa fb):=by
 obtain⟨t,pt,rt⟩:=ha.ex
 obtain⟨u,pu,ru⟩:=hb.ex
 refine XE'.out ⟨_,zlr ho pt pu,λH0 F0 ρ σ H F Q R o=>rt H0 F0 ρ σ H F _ R (OutE.fst o λd v H1 F1 g1 q o1=>?_)⟩
 refine ru H0 F0 ρ σ H1 F1 _ (R.grow g1) (OutE.fst o1 λe w H2 F2 g2 q2 o2=>?_)
 obtain⟨z,hz,k⟩:=o2.lf
 exact hg F2 H2 v w d e z _ (R.grow (g1.trans g2)).fh (q.mono g2.ff) q2 hz k
theorem zdC {g:D->D->Option D}(ho:OpR X (compareOp op) r)(hg:Op2 X.K cl r g)(ha:XE X cl E a fa)(hb:XE X cl E b fb)(hm:behindInMarks op b=false):XE X cl E (.Compare a [op] [b] pos) (f2 g fa fb):=by
 obtain⟨t,pt,rt⟩:=ha.ex
 obtain⟨u,pu,ru⟩:=hb.ex
 refine XE'.out ⟨_,zlL ho pt pu hm,λH0 F0 ρ σ H F Q R o=>rt H0 F0 ρ σ H F _ R (OutE.fst o λd v H1 F1 g1 q o1=>?_)⟩
 refine ru H0 F0 ρ σ H1 F1 _ (R.grow g1) (OutE.fst o1 λe w H2 F2 g2 q2 o2=>?_)
 obtain⟨z,hz,k⟩:=o2.lf
 exact hg F2 H2 v w d e z _ (R.grow (g1.trans g2)).fh (q.mono g2.ff) q2 hz k
theorem xu {g:D->D->Option D}(ho:OpR X (compareOp op) r)(hg:Op2 X.K cl r g)(ha:XE X cl E a fa)(hb:XE X cl E b fb)(hm:behindInMarks op b=false):XT X cl E (.Compare a [op] [b] pos) (bT (f2 g fa fb)):=by
 obtain⟨t,pt,rt⟩:=ha.ex
 obtain⟨u,pu,ru⟩:=hb.ex
 refine XT'.out ⟨_,zlZ ho pt pu hm,λH0 F0 ρ σ H F Q R o=>?_⟩
 have o':OutE X.K cl E H0 F H (f2 g fa fb ρ) λv H1=>∃k,v=.bl k/\Q k H1:=OutE.fstB o λd v H1 F1 g1 q o1=>by
  cases e:tru d with
  | ok b=>rw[e] at o1;exact⟨b,zc0 q e,o1 H1 F1 (Gr.refl (R.grow g1).fh)⟩
  | ex n=>cases d <;>simp[tru] at e
  | no=>rw[e] at o1;exact o1.elim
 refine rt H0 F0 ρ σ H F _ R (OutE.fst o' λd v H1 F1 g1 q o1=>?_)
 refine ru H0 F0 ρ σ H1 F1 _ (R.grow g1) (OutE.fst o1 λe w H2 F2 g2 q2 o2=>?_)
 obtain⟨z,hz,k⟩:=o2.lf
 exact hg F2 H2 v w d e z _ (R.grow (g1.trans g2)).fh (q.mono g2.ff) q2 hz k
theorem OutB.bT {Q:Bool->Hp->Prop}(R:Rl X.K cl H0 F0 ρ σ H F)(o:OutB X.K cl E H0 F H (bT fa ρ) Q):OutE X.K cl E H0 F H (fa ρ) λv H1=>∃k,v=.bl k/\Q k H1:=OutE.fstB o λd v H1 F1 g1 q o1=>by
  cases e:tru d with
  | ok b=>rw[e] at o1;exact⟨b,zc0 q e,o1 H1 F1 (Gr.refl (R.grow g1).fh)⟩
  | ex n=>cases d <;>simp[tru] at e
  | no=>rw[e] at o1;exact o1.elim
theorem uO (h:XE X cl E e fa)(he:∀whole,isTrue e X.env whole=(do let v ← whole;standAt e.pos;holding [v] (truthy v)):=by intro _;rfl):XT X cl E e (bT fa):=by
 obtain⟨t,pt,rt⟩:=h.ex
 exact XT'.out ⟨_,zmY pt he,λH0 F0 ρ σ H F Q R o=>rt H0 F0 ρ σ H F _ R (OutB.bT R o)⟩
theorem jT (h:XT X cl E a ft):XT X cl E (.UnaryOp .Not a pos) (za6 ft):=by
 obtain⟨t,pt,rt⟩:=h.ex
 exact XT'.out ⟨_,zng pt,λH0 F0 ρ σ H F Q R o=>rt H0 F0 ρ σ H F _ R (OutB.fstB o λb H1 F1 g o1=>o1 H1 F1 (Gr.refl (R.grow g).fh))⟩
theorem zlv (h:XT X cl E a ft):XW X cl E (.BoolOp .And [a] pos) ft:=let ⟨t,pt,rt⟩:=h.ex;XW'.out ⟨t,zk8 pt,rt⟩
theorem zkj (h:XT X cl E a ft):XW X cl E (.BoolOp .Or [a] pos) ft:=let ⟨t,pt,rt⟩:=h.ex;XW'.out ⟨t,zn1 pt,rt⟩
theorem zom {rest:List Expr}(h:XT X cl E a ft)(k:XW X cl E (.BoolOp .And (b::rest) pos) fu):XW X cl E (.BoolOp .And (a::b::rest) pos) (zc1 ft fu):=by
 obtain⟨t,pt,rt⟩:=h.ex
 obtain⟨u,pu,ru⟩:=k.ex
 refine XW'.out ⟨_,zod pt pu,λH0 F0 ρ σ H F Q R o=>rt H0 F0 ρ σ H F _ R (OutB.fstB o λb H1 F1 g o1=>?_)⟩
 cases b with
 | true=>exact ru H0 F0 ρ σ H1 F1 _ (R.grow g) o1
 | false=>exact o1 H1 F1 (Gr.refl (R.grow g).fh)
theorem znY {rest:List Expr}(h:XT X cl E a ft)(k:XW X cl E (.BoolOp .Or (b::rest) pos) fu):XW X cl E (.BoolOp .Or (a::b::rest) pos) (bOr ft fu):=by
 obtain⟨t,pt,rt⟩:=h.ex
 obtain⟨u,pu,ru⟩:=k.ex
 refine XW'.out ⟨_,zpo pt pu,λH0 F0 ρ σ H F Q R o=>rt H0 F0 ρ σ H F _ R (OutB.fstB o λb H1 F1 g o1=>?_)⟩
 cases b with
 | true=>exact o1 H1 F1 (Gr.refl (R.grow g).fh)
 | false=>exact ru H0 F0 ρ σ H1 F1 _ (R.grow g) o1
theorem XW.xt (h:XW X cl E e ft):XT X cl E e ft:=let ⟨t,pt,rt⟩:=h.ex;XT'.out ⟨t,pt.pt,rt⟩
def isN (neg:Bool):D->Option D
 | .non=>some (.bl (!neg))
 | _=>some (.bl neg)
theorem Dt.isnon {K:qQ0}{d:D}(q:Dt K cl F v d):isN false d=some (.bl (decide (v=.non)))/\isN true d=some (.bl (!decide (v=.non))):=by cases q <;>exact⟨rfl,rfl⟩
theorem zn2 {j pos'}(h:XE X cl E a fa):XE X cl E (.Compare a [.Is] [.Constant .none j pos'] pos) (f1 (isN false) fa):=by
 obtain⟨t,pt,rt⟩:=h.ex
 refine XE'.out ⟨_,zne (zm5 pt),λH0 F0 ρ σ H F Q R o=>rt H0 F0 ρ σ H F _ R (OutE.fst o λd v H1 F1 g q o1=>?_)⟩
 rw[q.isnon.1] at o1
 exact o1.okI (R.grow g).fh (.bl _)
theorem zlO {j pos'}(h:XE X cl E a fa):XT X cl E (.Compare a [.IsNot] [.Constant .none j pos'] pos) (bT (f1 (isN true) fa)):=by
 obtain⟨t,pt,rt⟩:=h.ex
 refine XT'.out ⟨_,znP (zlT pt),λH0 F0 ρ σ H F Q R o=>rt H0 F0 ρ σ H F _ R (OutE.fst (OutB.bT R o) λd v H1 F1 g q o1=>?_)⟩
 rw[q.isnon.2] at o1
 exact o1.okI (R.grow g).fh (.bl _)
theorem zf1 (hc:XT X cl E c ft)(ha:XE X cl E a fa)(hb:XE X cl E b fb):XE X cl E (.IfExp c a b pos) (fIf ft fa fb):=by
 obtain⟨t,pt,rt⟩:=hc.ex
 obtain⟨u,pu,ru⟩:=ha.ex
 obtain⟨w,pw,rw'⟩:=hb.ex
 refine XE'.out ⟨_,zjl pt pu pw,λH0 F0 ρ σ H F Q R o=>rt H0 F0 ρ σ H F _ R (OutB.fst o λb H1 F1 g o1=>?_)⟩
 cases b with
 | true=>exact ru H0 F0 ρ σ H1 F1 _ (R.grow g) o1
 | false=>exact rw' H0 F0 ρ σ H1 F1 _ (R.grow g) o1
theorem OutE.tru {F1 H1:Hp}{d:D}{g:Bool->Rs D}(q:Dt X.K cl F v d)(o:OutE X.K cl E H0 F H ((tru d).bind g) Q):∃b,v=.bl b/\OutE X.K cl E H0 F H (g b) Q:=by
 cases e:L2.tru d with
 | ok b=>rw[e] at o;exact⟨b,zc0 q e,o⟩
 | ex n=>cases d <;>simp[L2.tru] at e
 | no=>rw[e] at o;exact o.elim
theorem zaG {op}(h:XE X cl E a fa):XE X cl E (.BoolOp op [a] pos) fa:=let ⟨t,pt,rt⟩:=h.ex;XE'.out ⟨t,zog pt,rt⟩
theorem zbL {rest:List Expr}(ha:XE X cl E a fa)(hb:XE X cl E (.BoolOp .And (b::rest) pos) fb):XE X cl E (.BoolOp .And (a::b::rest) pos) (zaY fa fb):=by
 obtain⟨t,pt,rt⟩:=ha.ex
 obtain⟨u,pu,ru⟩:=hb.ex
 refine XE'.out ⟨_,zol pt pu,λH0 F0 ρ σ H F Q R o=>rt H0 F0 ρ σ H F _ R (OutE.fst o λd v H1 F1 g q o1=>?_)⟩
 obtain⟨b,rfl,o2⟩:=OutE.tru (F1:=F1) (H1:=H1) q o1
 refine⟨b,rfl,?_⟩
 cases b with
 | true=>exact ru H0 F0 ρ σ H1 F1 _ (R.grow g) o2
 | false=>exact o2.okI (R.grow g).fh (.bl _)
theorem zoB {rest:List Expr}(ha:XE X cl E a fa)(hb:XE X cl E (.BoolOp .Or (b::rest) pos) fb):XE X cl E (.BoolOp .Or (a::b::rest) pos) (fOr fa fb):=by
 obtain⟨t,pt,rt⟩:=ha.ex
 obtain⟨u,pu,ru⟩:=hb.ex
 refine XE'.out ⟨_,zoN pt pu,λH0 F0 ρ σ H F Q R o=>rt H0 F0 ρ σ H F _ R (OutE.fst o λd v H1 F1 g q o1=>?_)⟩
 obtain⟨b,rfl,o2⟩:=OutE.tru (F1:=F1) (H1:=H1) q o1
 refine⟨b,rfl,?_⟩
 cases b with
 | true=>exact o2.okI (R.grow g).fh (.bl _)
 | false=>exact ru H0 F0 ρ σ H1 F1 _ (R.grow g) o2
theorem zkL (ha:XE X cl E a fa):XE X cl E (.UnaryOp .Not a pos) (zfd fa):=by
 obtain⟨t,pt,rt⟩:=ha.ex
 refine XE'.out ⟨_,zmW pt,λH0 F0 ρ σ H F Q R o=>rt H0 F0 ρ σ H F _ R (OutE.fst o λd v H1 F1 g q o1=>?_)⟩
 obtain⟨b,rfl,o2⟩:=OutE.tru (F1:=F1) (H1:=H1) q o1
 exact⟨b,rfl,o2.okI (R.grow g).fh (.bl _)⟩
def mkT (ds:List D):Option D:=if ds.length<=1000000 then some (.tup ds) else none
def mkL (ds:List D):Option D:=if ds.length<=1000000 then some (.lst ds) else none
theorem sz6 (h:n<=1000000):n<=sizeLine:=by rw[lbg];omega
theorem zbS {x1}{fs:qQ4}(h:XA X cl E es fs):XE X cl E (.Tuple es x1 pos) (fO mkT fs):=by
 obtain⟨t,pt,rt⟩:=h.ex
 refine XE'.out ⟨_,zmT pt,λH0 F0 ρ σ H F Q R o=>rt H0 F0 ρ σ H F _ R (OutA.fst o λds vs H1 F1 g q o1=>?_)⟩
 unfold mkT at o1
 split at o1
 ·rename_i hl
  refine⟨sz6 (q.length▸hl),λp hp=>?_⟩
  have fh:=(R.grow g).fh
  exact o1 _ _ _ (Gr.new fh hp) (.tup (.inl (.inl zV)) (q.mono (Same.upd (fh.free hp))))
 ·exact o1.elim
theorem jk {fs:qQ4}(h:XA X cl E es fs):XE X cl E (.List es pos) (fO mkL fs):=by
 obtain⟨t,pt,rt⟩:=h.ex
 refine XE'.out ⟨_,zki pt,λH0 F0 ρ σ H F Q R o=>rt H0 F0 ρ σ H F _ R (OutA.fst o λds vs H1 F1 g q o1=>?_)⟩
 unfold mkL at o1
 split at o1
 ·rename_i hl
  refine⟨sz6 (q.length▸hl),λp hp=>?_⟩
  have fh:=(R.grow g).fh
  exact o1 _ _ _ (Gr.new fh hp) (.lst (.inl (.inl zV)) (q.mono (Same.upd (fh.free hp))))
 ·exact o1.elim
def spD (K:qQ0)(cl:Nat->Addr)(fn:List D->Rs D)(n:Nat):Sp:=λvs H Q E=>∃F ds,Same F H/\Dts K cl F vs ds/\vs.length=n/\OutE K cl E H F H (fn ds) Q
def ari (n:Nat)(fn:List D->Rs D):List D->Rs D:=λds=>if ds.length=n then fn ds else .no
theorem zmu {f:Addr}{fn:List D->Rs D}{p:Pos}{fs:qQ4}(G:FnOk X.prog X.w X.K X.mg X.base (CX1 X.prog X.w) k f fd ps (spD X.K cl fn n))(hr:Room k X.A)(hg:Gl X x)(hm:X.mg x=some (.ref f))(hk:PySem.W.keepIn X.K (.ref f)=true)(hb:Binds X.K fd ps [])(hx:zaH (CX1 X.prog X.w) X E)
  (ha:XA X cl E (e::es) fs) (he:starEach (e::es) X.env=(false,eval e X.env)::starEach es X.env) (hdb:(x == ("__debug__" : Str))=false:=by decide) (hpl:(backTo pos (starEach es X.env)).any (·.1)=false:=by rfl):XE X cl E (.Call (.Name x p) (e::es) [] pos) (fA (ari n fn) fs):=by
 obtain⟨t,pt,rt⟩:=ha.ex
 refine XE'.out ⟨_,zeN G hr hg hm hk hb .nil hx pt hdb he hpl,λH0 F0 ρ σ H F Q R o=>rt H0 F0 ρ σ H F _ R (OutA.fst o λds vs H1 F1 g q o1=>?_)⟩
 unfold ari at o1
 split at o1
 ·rename_i hl
  rw[lY]
  have R1:=R.grow g
  refine⟨F1,ds,R1.fh,q,by rw[q.length,hl],?_⟩
  cases e:fn ds with
  | ok d=>rw[e] at o1;exact o1
  | ex n=>rw[e] at o1;exact λH' s=>o1 H' (R1.gr.hh.trans s)
  | no=>rw[e] at o1;exact o1
 ·exact o1.elim
end
def D.fl:D->Bool
 | .non=>true
 | .bl _=>true
 | .int _=>true
 | .str _=>true
 | _=>false
def D.toV:D->V
 | .bl b=>.bl b
 | .int i=>.int i
 | .str l=>.str (T l)
 | _=>.non
def u6:D->D->Option D
 | .int i,.int j=>some (.int (i+j))
 | _,_=>none
def zdo:D->D->Option D
 | .int i,.int j=>some (.int (i - j))
 | _,_=>none
instance (i:Int):Decidable (Sm i):=inferInstanceAs (Decidable (i.natAbs<2 ^ 4000))
def zkr:D->D->Option D
 | .int i,.int j=>if Sm i/\Sm j then some (.int (i*j)) else none
 | _,_=>none
def zjF:D->D->Option D
 | .int i,.int j=>if 0<j then some (.int (i % j)) else none
 | _,_=>none
def ze8:D->D->Option D
 | .int i,.int j=>if 0<j/\Sm j then some (.int (i / j)) else none
 | _,_=>none
def zeI:D->D->Option D
 | .str l,.str m=>if l.length+m.length<=1000000 then some (.str (l++m)) else none
 | _,_=>none
def zoo:D->D->Option D
 | .tup l,.tup m=>if l.length+m.length<=1000000 then some (.tup (l++m)) else none
 | _,_=>none
def ltI:D->D->Option D
 | .int i,.int j=>some (.bl (decide (i<j)))
 | _,_=>none
def leI:D->D->Option D
 | .int i,.int j=>some (.bl (decide (i<=j)))
 | _,_=>none
def gtI:D->D->Option D
 | .int i,.int j=>some (.bl (decide (j<i)))
 | _,_=>none
def geI:D->D->Option D
 | .int i,.int j=>some (.bl (decide (j<=i)))
 | _,_=>none
def ltS:D->D->Option D
 | .str l,.str m=>some (.bl (decide (l<m)))
 | _,_=>none
def eqD (neg:Bool)(a b:D):Option D:=if a.pl=true/\b.pl=true/\a.py.depth<=60 then some (.bl (if neg then !PyData.eqv a.py b.py else PyData.eqv a.py b.py)) else none
def inQ (neg:Bool)(x:D)(ds:List D):Option D:=if x.fl=true/\ds.all D.fl=true then some (.bl (if neg then !inV x.toV (ds.map D.toV) else inV x.toV (ds.map D.toV))) else none
def inD (neg:Bool)(x:D):D->Option D
 | .lst ds=>inQ neg x ds
 | .tup ds=>inQ neg x ds
 | _=>none
def inC (neg:Bool):D->D->Option D
 | .str [c],.str l=>some (.bl (if neg then !decide (c∈l) else decide (c∈l)))
 | _,_=>none
def ixD:D->D->Option D
 | .lst ds,.int i=>atI ds i
 | .tup ds,.int i=>atI ds i
 | .str l,.int i=>(atI l i).map λc=>.str [c]
 | _,_=>none
def zdk {α:Type}(xs:List α)(lo hi:Option Int):List α:=(xs.drop (HT.sIx xs.length 0 lo)).take (HT.sIx xs.length xs.length hi - HT.sIx xs.length 0 lo)
def slD:D->Option Int->Option Int->Option D
 | .lst ds,lo,hi=>some (.lst (zdk ds lo hi))
 | .tup ds,lo,hi=>some (.tup (zdk ds lo hi))
 | .str l,lo,hi=>some (.str (zdk l lo hi))
 | _,_,_=>none
section
variable {K:qQ0}{cl:Nat->Addr}{F H:Hp}
theorem Dt.flat {d:D}(q:Dt K cl F v d)(h:d.fl=true):v=d.toV/\vL v=true:=by
 cases q <;>first|exact⟨rfl,rfl⟩|(simp[D.fl] at h)
theorem Dts.flat:∀{vs:List V}{ds:List D},Dts K cl F vs ds->ds.all D.fl=true->vs=ds.map D.toV/\vs.all vL=true
 | _,_,.nil,_=>⟨rfl,rfl⟩
 | _,_,.cons q r,h=>by
  rw[lba,lM] at h
  obtain⟨e1,e2⟩:=q.flat h.1
  obtain⟨e3,e4⟩:=Dts.flat r h.2
  exact⟨by rw[lF,← e1,← e3],by rw[lba,e2,e4];rfl⟩
def I2 (f:Int->Int->Option D):D->D->Option D
 | .int i,.int j=>f i j
 | _,_=>none
theorem zkg {f:Int->Int->Option D}{a b d:D}(e:I2 f a b=some d):∃i j,a=.int i/\b=.int j/\f i j=some d:=by
 cases a with
 | int i =>
  cases b with
  | int j=>exact⟨i,j,rfl,rfl,e⟩
  | _=>cases e
 | _=>cases e
def S2 (f:List Nat->List Nat->Option D):D->D->Option D
 | .str i,.str j=>f i j
 | _,_=>none
theorem zkJ {f:List Nat->List Nat->Option D}{a b d:D}(e:S2 f a b=some d):∃i j,a=.str i/\b=.str j/\f i j=some d:=by
 cases a with
 | str i =>
  cases b with
  | str j=>exact⟨i,j,rfl,rfl,e⟩
  | _=>cases e
 | _=>cases e
theorem Dt.intE {i:Int}(q:Dt K cl F v (.int i)):v=.int i:=by cases q;rfl
theorem Dt.strE (q:Dt K cl F v (.str l)):v=.str (T l)/\TxtOk (T l):=by cases q with|str _ ok=>exact⟨rfl,ok⟩
theorem zoy {f:Int->Int->D}{r:Int->Int->V}(hf:∀{F:Hp} i j,Dt K cl F (r i j) (f i j)):Op2 K cl (rI0 r) (I2 λi j=>some (f i j)):=λF H x y a b d Q s qa qb e k=>by
 obtain⟨i,j,rfl,rfl,e1⟩:=zkg e
 obtain rfl:=qa.intE
 obtain rfl:=qb.intE
 obtain rfl:=lq e1
 exact⟨_,_,rfl,rfl,k _ _ _ (Gr.refl s) (hf i j)⟩
theorem zoV {c:Int->Int->Prop} [∀i j,Decidable (c i j)]{f:Int->Int->Int}:Op2 K cl (rI c λi j=>.int (f i j)) (I2 λi j=>if c i j then some (.int (f i j)) else none):=λF H x y a b d Q s qa qb e k=>by
 obtain⟨i,j,rfl,rfl,e1⟩:=zkg e
 obtain rfl:=qa.intE
 obtain rfl:=qb.intE
 by_cases h:c i j
 ·rw[lU h] at e1
  obtain rfl:=lq e1
  exact⟨_,_,rfl,rfl,h,k _ _ _ (Gr.refl s) (.int _)⟩
 ·rw[lac h] at e1;cases e1
theorem wY:Op2 K cl (rI0 λi j=>.int (i+j)) u6:=zoy λ_ _=>.int _
theorem zgo:Op2 K cl (rI0 λi j=>.int (i - j)) zdo:=zoy λ_ _=>.int _
theorem zcg:Op2 K cl (rI (λi j=>Sm i/\Sm j) λi j=>.int (i*j)) zkr:=zoV
theorem zcs:Op2 K cl (rI (λ_ j=>0<j) λi j=>.int (i % j)) zjF:=zoV
theorem zbV:Op2 K cl (rI (λ_ j=>0<j/\Sm j) λi j=>.int (i / j)) ze8:=zoV
theorem zew:Op2 K cl (λx y H Q=>∃l m,x=.str (T l)/\y=.str (T m)/\l.length+m.length<=1000000/\Q (.str (T (l++m))) H) zeI:=λF H x y a b d Q s qa qb e k=>by
 obtain⟨l,m,rfl,rfl,e1⟩:=zkJ (f:=λl m=>if l.length+m.length<=1000000 then some (.str (l++m)) else none) e
 obtain⟨rfl,ok⟩:=qa.strE
 obtain⟨rfl,ok2⟩:=qb.strE
 split at e1
 ·rename_i h
  obtain rfl:=lq e1
  refine⟨_,_,rfl,rfl,h,k _ _ _ (Gr.refl s) (.str _ ?_)⟩
  rw[← znG]
  exact TxtOk.app ok ok2 (by rw[zaT,zaT];exact h)
 ·cases e1
theorem zjW {a b d:D}(e:zoo a b=some d):∃l m,a=.tup l/\b=.tup m/\l.length+m.length<=1000000/\d=.tup (l++m):=by
 cases a with
 | tup l =>
  cases b with
  | tup m =>
   by_cases h:l.length+m.length<=1000000
   ·exact⟨l,m,rfl,rfl,h,(lq ((lU h).symm.trans e)).symm⟩
   ·cases (lac h).symm.trans e
  | _=>cases e
 | _=>cases e
theorem zkI:Op2 K cl (zn5 K) zoo:=λF H x y a b d Q s qa qb e k=>by
 obtain⟨l,m,rfl,rfl,h,rfl⟩:=zjW e
 cases qa with
 | tup qx dx =>
  cases qb with
  | tup qy dy =>
   refine⟨_,_,_,_,rfl,rfl,s.seqT qx,s.seqT qy,sz6 (by rw[dx.length,dy.length];exact h),λp H' hs q=>?_⟩
   obtain⟨F',g,q'⟩:=Gr.tup s hs q (dx.append dy)
   exact k _ _ _ g q'
theorem zpd:Op2 K cl (rI0 λi j=>.bl (decide (i<j))) ltI:=zoy λ_ _=>.bl _
theorem zhZ:Op2 K cl (rI0 λi j=>.bl (decide (i<=j))) leI:=zoy λ_ _=>.bl _
theorem zoK:Op2 K cl (λx y H Q=>∃i j,x=.str i/\y=.str j/\Q (.bl (decide (i.cps.toList<j.cps.toList))) H) ltS:=λF H x y a b d Q s qa qb e k=>by
 obtain⟨l,m,rfl,rfl,e1⟩:=zkJ (f:=λl m=>some (.bl (decide (l<m)))) e
 obtain⟨rfl,ok⟩:=qa.strE
 obtain⟨rfl,ok2⟩:=qb.strE
 obtain rfl:=lq e1
 refine⟨_,_,rfl,rfl,?_⟩
 rw[zac,zac]
 exact k _ _ _ (Gr.refl s) (.bl _)
theorem znt:Op2 K cl (zps K) (eqD false):=λF H x y a b d Q s qa qb e k=>by
 unfold eqD at e
 split at e
 ·rename_i h
  obtain rfl:=lq e
  exact⟨_,_,(qa.is h.1).mono s,(qb.is h.2.1).mono s,h.2.2,k _ _ _ (Gr.refl s) (.bl _)⟩
 ·cases e
theorem zeC:Op2 K cl (zpu K) (eqD true):=λF H x y a b d Q s qa qb e k=>by
 unfold eqD at e
 split at e
 ·rename_i h
  obtain rfl:=lq e
  exact⟨_,_,(qa.is h.1).mono s,(qb.is h.2.1).mono s,h.2.2,k _ _ _ (Gr.refl s) (.bl _)⟩
 ·cases e
theorem zig {x:V}{a d:D}{ds:List D}(s:Same F H)(qa:Dt K cl F x a)(sq:SqL K H p vs∨SqT K H p vs)(dq:Dts K cl F vs ds)(e:inQ neg a ds=some d)(k:∀v H' F',Gr F H F' H'->Dt K cl F' v d->Q v H'):rIn K neg x (.ref p) H Q:=by
 unfold inQ at e
 split at e
 ·rename_i h
  obtain rfl:=lq e
  obtain⟨e1,e2⟩:=qa.flat h.1
  obtain⟨e3,e4⟩:=dq.flat h.2
  refine⟨p,vs,rfl,sq,e2,e4,?_⟩
  rw[e1,e3]
  exact k _ _ _ (Gr.refl s) (.bl _)
 ·cases e
theorem zp5 :Op2 K cl (rIn K neg) (inD neg):=λF H x y a b d Q s qa qb e k=>by
 cases qb with
 | lst sq dq=>exact zig s qa (.inl (s.seq sq)) dq e k
 | tup sq dq=>exact zig s qa (.inr (s.seqT sq)) dq e k
 | _=>cases e
theorem zlW {a b d:D}(e:inC neg a b=some d):∃c l,a=.str [c]/\b=.str l/\d=.bl (if neg then !decide (c∈l) else decide (c∈l)):=by
 cases a with
 | str l =>
  match l,e with
  | [c],e =>
   cases b with
   | str m=>exact⟨c,m,rfl,rfl,(lq e).symm⟩
   | _=>cases e
 | _=>cases e
theorem zoU:Op2 K cl zpE (inC false):=λF H x y a b d Q s qa qb e k=>by
 obtain⟨c,l,rfl,rfl,rfl⟩:=zlW e
 obtain⟨rfl,_⟩:=qa.strE
 obtain⟨rfl,_⟩:=qb.strE
 exact⟨c,l,rfl,rfl,k _ _ _ (Gr.refl s) (.bl _)⟩
theorem Dts.at {vs:List V}{ds:List D}{i:Int}{d:D}(q:Dts K cl F vs ds)(e:atI ds i=some d):∃v,atI vs i=some v/\Dt K cl F v d:=by
 unfold atI at e ⊢
 rw[q.length]
 cases h:ixN ds.length i with
 | none=>rw[h] at e;cases e
 | some j =>
  rw[h] at e
  exact q.get' e
theorem zhn {m:List Nat}(ok:TxtOk (T l))(h:∀c∈m,c∈l)(hl:m.length<=1000000):TxtOk (T m):=by
 refine zb1 (λc hc=>?_) hl
 have a:(T l).cps.all (· < 0x110000)=true:=ok.1
 simp only[T,ldd,lZ,laA] at a
 exact a c (h c hc)
theorem zpK {c:Nat}(ok:TxtOk (T l))(h:c∈l):TxtOk (T [c]):=zhn ok (λd hd=>by rw[lR.mp hd];exact h) (Nat.le_add_left 1 999999)
theorem zlo {a b d:D}(e:ixD a b=some d):∃i,b=.int i:=by
 cases b with
 | int i=>exact⟨i,rfl⟩
 | _=>cases a <;>cases e
theorem zpZ:Op2 K cl (rIx K) ixD:=λF H x y a b d Q s qa qb e k=>by
 obtain⟨i,rfl⟩:=zlo e
 obtain rfl:=qb.intE
 ·cases qa with
  | lst sq dq =>
   obtain⟨v,h1,h2⟩:=dq.at e
   exact .inl ⟨_,_,_,_,rfl,rfl,s.seq sq,h1,k _ _ _ (Gr.refl s) h2⟩
  | tup sq dq =>
   obtain⟨v,h1,h2⟩:=dq.at e
   exact .inr (.inl ⟨_,_,_,_,rfl,rfl,s.seqT sq,h1,k _ _ _ (Gr.refl s) h2⟩)
  | str l ok =>
   have e':(atI l i).map (λc=>D.str [c])=some d:=e
   cases h:atI l i with
   | none=>rw[h] at e';cases e'
   | some c =>
    rw[h] at e'
    obtain rfl:=lq e'
    refine .inr (.inr ⟨T l,i,c,rfl,rfl,sz6 ok.2,by rw[zac];exact h,k _ _ _ (Gr.refl s) (.str [c] (zpK ok ?_))⟩)
    unfold atI at h
    cases h2:ixN l.length i with
    | none=>rw[h2] at h;cases h
    | some j=>rw[h2] at h;exact laL h
  | _=>cases e
end
def tDS (K:qQ0)(cl:Nat->Addr)(E:XK)(g:Rho->Out):TS:=λDn σ H=>∃H0 F0 ρ F,Rl K cl H0 F0 ρ σ H F/\OutS K cl E H0 F0 F (g ρ) Dn
def XS (X:Cx)(cl:Nat->Addr)(E:XK)(st:Stmt)(g:Rho->Out):Prop:=PS X st (tDS X.K cl E g)
def XSs (X:Cx)(cl:Nat->Addr)(E:XK)(st:List Stmt)(g:Rho->Out):Prop:=PSs X st (tDS X.K cl E g)
def sNx:Rho->Out:=λρ=>.nx ρ
def zW (g h:Rho->Out):Rho->Out:=λρ=>match g ρ with | .nx ρ'=>h ρ'|o=>o
def yR (f:qQ5):Rho->Out:=λρ=>match f ρ with | .ok d=>.rt d | .ex n=>.ex n | .no=>.no
def wW (f:qQ5):Rho->Out:=λρ=>match f ρ with | .ok _=>.nx ρ | .ex n=>.ex n | .no=>.no
def xJ (i:Nat)(f:qQ5):Rho->Out:=λρ=>match f ρ with | .ok d=>.nx (ρ.set i (.fz d)) | .ex n=>.ex n | .no=>.no
def sIf (ft:qQ6)(g h:Rho->Out):Rho->Out:=λρ=>match ft ρ with | .ok true=>g ρ | .ok false=>h ρ | .ex n=>.ex n | .no=>.no
def qG (i j:Nat)(f:qQ5):Rho->Out:=λρ=>match f ρ with | .ok (.tup [a,b])=>.nx ((ρ.set i (.fz a)).set j (.fz b)) | .ok _=>.no | .ex n=>.ex n | .no=>.no
def za8 (i:Nat)(g:Rho->Out):Rho->Out:=λρ=>match ρ[i]? with|some (.ow ds)=>g (ρ.set i (.fz (.lst ds)))|_=>.no
def kh (g:Rho->Out):Rho->Out:=λρ=>match g ρ with | .ex _=>.no|o=>o
def forD (i:Nat)(g:Rho->Out):List D->Rho->Out
 | [],ρ=>.nx ρ
 | d::ds,ρ=>match g (ρ.set i (.fz d)) with | .nx ρ'=>forD i g ds ρ' | .ct ρ'=>forD i g ds ρ' | .bk ρ'=>.nx ρ'|o=>o
def uN (i:Nat)(fi:qQ4)(g:Rho->Out):Rho->Out:=λρ=>match fi ρ with | .ok ds=>forD i g ds ρ | .ex n=>.ex n | .no=>.no
def whD (ft:qQ6)(g:Rho->Out):Nat->Rho->Out
 | 0,_=>.no
 | n+1,ρ=>match ft ρ with
  | .ok true=>(match g ρ with | .nx ρ'=>whD ft g n ρ' | .ct ρ'=>whD ft g n ρ' | .bk ρ'=>.nx ρ'|o=>o)
  | .ok false=>.nx ρ
  | .ex n=>.ex n
  | .no=>.no
def sWh (n:Nat)(ft:qQ6)(g:Rho->Out):Rho->Out:=whD ft g n
def owL (ρ:Rho)(i:Nat):Option (List D):=match ρ[i]? with|some (.ow ds)=>some ds|_=>none
theorem za4 {ds:List D}(h:owL ρ i=some ds):ρ[i]? = some (.ow ds):=by
 unfold owL at h
 split at h
 ·rename_i e;rw[e,lq h]
 ·cases h
def zaU (i:Nat)(f:qQ5):Rho->Out:=λρ=>match owL ρ i with
 | some ds=>(match f ρ with | .ok d=>if ds.length<1000000 then .nx (ρ.set i (.ow (ds++[d]))) else .no | .ex n=>.ex n | .no=>.no)
 | none=>.no
section
variable {K:qQ0}{cl:Nat->Addr}{E:XK}{H0 F0 F F1:Hp}
theorem OutS.grow {o:Out}{Dn:Ends}(h:OutS K cl E H0 F0 F o Dn)(s:Same F F1):OutS K cl E H0 F0 F1 o Dn:=by
 cases o with
 | nx ρ=>exact λσ H F' R q=>h σ H F' R (s.trans q)
 | bk ρ=>exact λσ H F' R q=>h σ H F' R (s.trans q)
 | ct ρ=>exact λσ H F' R q=>h σ H F' R (s.trans q)
 | rt d=>exact h
 | ex n=>exact h
 | no=>exact h
end
section
variable {X:Cx}{cl:Nat->Addr}{E:XK}{st:Stmt}{rest:List Stmt}{g h:Rho->Out}{f:qQ5}{e:Expr}{pos:Pos}
def XS' (X:Cx)(cl:Nat->Addr)(E:XK)(st:Stmt)(g:Rho->Out):Prop:=∃t:TS,PS X st t/\∀(H0 F0:Hp) (ρ:Rho) (σ:St) (H F:Hp) (Dn:Ends),Rl X.K cl H0 F0 ρ σ H F->OutS X.K cl E H0 F0 F (g ρ) Dn->t Dn σ H
def XSs' (X:Cx)(cl:Nat->Addr)(E:XK)(st:List Stmt)(g:Rho->Out):Prop:=∃t:TS,PSs X st t/\∀(H0 F0:Hp) (ρ:Rho) (σ:St) (H F:Hp) (Dn:Ends),Rl X.K cl H0 F0 ρ σ H F->OutS X.K cl E H0 F0 F (g ρ) Dn->t Dn σ H
theorem XS.ex (h:XS X cl E st g):XS' X cl E st g:=⟨_,h,λH0 F0 ρ σ H F Dn R o=>⟨H0,F0,ρ,F,R,o⟩⟩
theorem XSs.ex (h:XSs X cl E rest g):XSs' X cl E rest g:=⟨_,h,λH0 F0 ρ σ H F Dn R o=>⟨H0,F0,ρ,F,R,o⟩⟩
theorem XS'.out (h:XS' X cl E st g):XS X cl E st g:=let ⟨_,pt,rt⟩:=h;λpins s σ H Dn I ⟨H0,F0,ρ,F,R,o⟩=>pt pins s σ H Dn I (rt H0 F0 ρ σ H F Dn R o)
theorem XSs'.out (h:XSs' X cl E rest g):XSs X cl E rest g:=let ⟨_,pt,rt⟩:=h;λpins s σ H Dn I ⟨H0,F0,ρ,F,R,o⟩=>pt pins s σ H Dn I (rt H0 F0 ρ σ H F Dn R o)
theorem yq:XSs X cl E [] sNx:=XSs'.out ⟨_,zlE,λH0 F0 ρ σ H F Dn R o=>o σ H F R (Same.refl _)⟩
theorem zy (h:XS X cl E st g):XSs X cl E [st] g:=let ⟨t,pt,rt⟩:=h.ex;XSs'.out ⟨t,ziz pt,rt⟩
theorem zx (h1:XS X cl E st g)(h2:XSs X cl E rest h):XSs X cl E (st::rest) (zW g h):=by
 obtain⟨t,pt,rt⟩:=h1.ex
 obtain⟨u,pu,ru⟩:=h2.ex
 refine XSs'.out ⟨_,zjY pt pu,λH0 F0 ρ σ H F Dn R o=>rt H0 F0 ρ σ H F _ R ?_⟩
 unfold zW at o
 cases e:g ρ with
 | nx ρ'=>rw[e] at o;exact λσ' H' F' R' s=>ru H0 F0 ρ' σ' H' F' Dn R' (o.grow s)
 | bk ρ'=>rw[e] at o;exact o
 | ct ρ'=>rw[e] at o;exact o
 | rt d=>rw[e] at o;exact o
 | ex n=>rw[e] at o;exact o
 | no=>rw[e] at o;exact o
theorem zK (h:XE X cl E e f):XS X cl E (.Return (some e) pos) (yR f):=by
 obtain⟨t,pt,rt⟩:=h.ex
 refine XS'.out ⟨_,zkz pt,λH0 F0 ρ σ H F Dn R o=>rt H0 F0 ρ σ H F _ R ?_⟩
 unfold yR at o
 cases e:f ρ with
 | ok d=>rw[e] at o;exact λv H' F' gg q=>o v H' F' (R.gr.trans gg) q
 | ex n=>rw[e] at o;exact o
 | no=>rw[e] at o;exact o
theorem jD (h:XE X cl E e f)(hs:swapsWith e none pos.line X.env=pure false:=by rfl):XS X cl E (.Expr e pos) (wW f):=by
 obtain⟨t,pt,rt⟩:=h.ex
 refine XS'.out ⟨_,zfp pt hs,λH0 F0 ρ σ H F Dn R o=>rt H0 F0 ρ σ H F _ R ?_⟩
 unfold wW at o
 cases e:f ρ with
 | ok d=>rw[e] at o;exact λv H' F' gg q=>o σ H' F' (R.grow gg) gg.ff
 | ex n=>rw[e] at o;exact o
 | no=>rw[e] at o;exact o
theorem yj {pos':Pos}(hN:X.N.Nodup)(hi:X.N[i]? = some x)(hx:Loc X.env.scope x)(he:XE X cl E e f)(hs:swapsWith e (some (.Name x pos')) pos.line X.env=pure false:=by rfl)(hf:X.fn x=true∨X.env.scope.names.lookup x=some .local:=by first|exact .inl rfl|exact .inr rfl|assumption) :
  XS X cl E (.Assign [.Name x pos'] e pos) (xJ i f):=by
 obtain⟨t,pt,rt⟩:=he.ex
 refine XS'.out ⟨_,zfA hN hi hx pt hs hf,λH0 F0 ρ σ H F Dn R o=>rt H0 F0 ρ σ H F _ R ?_⟩
 unfold xJ at o
 cases e:f ρ with
 | ok d=>rw[e] at o;exact λv H' F' gg q=>o _ H' F' ((R.grow gg).set q) gg.ff
 | ex n=>rw[e] at o;exact o
 | no=>rw[e] at o;exact o
theorem vI {a b:List Stmt}(hc:XT X cl E c ft)(ha:XSs X cl E a g)(hb:XSs X cl E b h):XS X cl E (.If c a b pos) (sIf ft g h):=by
 obtain⟨t,pt,rt⟩:=hc.ex
 obtain⟨u,pu,ru⟩:=ha.ex
 obtain⟨w,pw,rw'⟩:=hb.ex
 refine XS'.out ⟨_,zoP pt pu pw,λH0 F0 ρ σ H F Dn R o=>rt H0 F0 ρ σ H F _ R ?_⟩
 unfold sIf at o
 cases e:ft ρ with
 | ok b =>
  rw[e] at o
  intro H' F' gg
  cases b with
  | true=>exact ru H0 F0 ρ σ H' F' Dn (R.grow gg) (o.grow gg.ff)
  | false=>exact rw' H0 F0 ρ σ H' F' Dn (R.grow gg) (o.grow gg.ff)
 | ex n=>rw[e] at o;exact o
 | no=>rw[e] at o;exact o
theorem ql (h:XS X.nox cl E0 st g):XS X cl E st (kh g):=by
 obtain⟨t,pt,rt⟩:=h.ex
 refine XS'.out ⟨_,pt.nox,λH0 F0 ρ σ H F Dn R o=>rt H0 F0 ρ σ H F _ R ?_⟩
 unfold kh at o
 cases e:g ρ with
 | nx ρ'=>rw[e] at o;exact o
 | bk ρ'=>rw[e] at o;exact o
 | ct ρ'=>rw[e] at o;exact o
 | rt d=>rw[e] at o;exact o
 | ex n=>rw[e] at o;exact o.elim
 | no=>rw[e] at o;exact o
theorem zct (h:XS X cl E st g):XS X cl E st (za8 i g):=by
 obtain⟨t,pt,rt⟩:=h.ex
 refine XS'.out ⟨_,pt,λH0 F0 ρ σ H F Dn R o=>?_⟩
 unfold za8 at o
 split at o
 ·rename_i ds e
  obtain⟨F',s,R'⟩:=R.ice e
  exact rt H0 F0 _ σ H F' Dn R' (o.grow s)
 ·exact o.elim
theorem zc2 (n:Nat)(hp:PassesOwn (model X.prog X.w) X.A X.env X.xe)(hc:XT X cl E c ft)(hb:XSs X cl E body g):XS X cl E (.While c body [] pos) (sWh n ft g):=by
 obtain⟨t,pt,rt⟩:=hc.ex
 obtain⟨u,pu,ru⟩:=hb.ex
 refine XS'.out ⟨_,zkc hp pt pu,λH0 F0 ρ σ H F Dn R o=>?_⟩
 refine⟨λm σ H=>∃ρ F',Rl X.K cl H0 F0 ρ σ H F'/\OutS X.K cl E H0 F0 F' (whD ft g m ρ) Dn,⟨n,ρ,F,R,o⟩,?_⟩
 rintro m σ1 H1 ⟨ρ1,F1,R1,o1⟩
 cases m with
 | zero=>exact o1.elim
 | succ m =>
  refine rt H0 F0 ρ1 σ1 H1 F1 _ R1 ?_
  unfold whD at o1
  cases e:ft ρ1 with
  | ok b =>
   rw[e] at o1
   intro H2 F2 gg
   have R2:=R1.grow gg
   cases b with
   | false=>exact o1 σ1 H2 F2 R2 gg.ff
   | true =>
    refine⟨λσ H=>∃ρ F',Rl X.K cl H0 F0 ρ σ H F'/\OutS X.K cl E H0 F0 F' (whD ft g m ρ) Dn,λσ' H' p=>⟨m,lcy _,p⟩,ru H0 F0 ρ1 σ1 H2 F2 _ R2 ?_⟩
    have o2:=o1.grow gg.ff
    cases e2:g ρ1 with
    | nx ρ'=>simp only[e2] at o2;exact λσ' H' F' R' s=>⟨ρ',F',R',o2.grow s⟩
    | ct ρ'=>simp only[e2] at o2;exact λσ' H' F' R' s=>⟨ρ',F',R',o2.grow s⟩
    | bk ρ'=>simp only[e2] at o2;exact o2
    | rt d=>simp only[e2] at o2;exact o2
    | ex n=>simp only[e2] at o2;exact o2
    | no=>simp only[e2] at o2;exact o2
  | ex n=>rw[e] at o1;exact o1
  | no=>rw[e] at o1;exact o1
def OutI (K:qQ0)(cl:Nat->Addr)(E:XK)(H0 F H:Hp)(r:Rs (List D))(Q:It->Hp->Prop):Prop :=
 match r with
 | .ok ds=>∀J G vs H' F',Gr F H F' H'->Wlk J G vs->(∀H'',Same F' H''->G H'')->Dts K cl F' vs ds->Q J H'
 | .ex n=>∀H',Same H0 H'->E (.ref (cl n)) none H'
 | .no=>False
def tDI (K:qQ0)(cl:Nat->Addr)(E:XK)(f:qQ4):TI:=λσ H Q=>∃H0 F0 ρ F,Rl K cl H0 F0 ρ σ H F/\OutI K cl E H0 F H (f ρ) Q
def XI (X:Cx)(cl:Nat->Addr)(E:XK)(tg e:Expr)(f:qQ4):Prop:=PI X tg e (tDI X.K cl E f)
theorem XI.mk {fi:qQ4}{t:TI}(pt:PI X tg e t)(rt:∀(H0 F0:Hp) (ρ:Rho) (σ:St) (H F:Hp) (Q:It->Hp->Prop),Rl X.K cl H0 F0 ρ σ H F->OutI X.K cl E H0 F H (fi ρ) Q->t σ H Q):XI X cl E tg e fi :=
 λpins s σ H Q I ⟨H0,F0,ρ,F,R,o⟩=>pt pins s σ H Q I (rt H0 F0 ρ σ H F Q R o)
def lsD:D->Option (List D)
 | .lst ds=>some ds
 | _=>none
def tpD:D->Option (List D)
 | .tup ds=>some ds
 | _=>none
def sgD:D->Option (List D)
 | .str l=>some (l.map λc=>.str [c])
 | _=>none
def fI (g:D->Option (List D))(f:qQ5):qQ4:=λρ=>(f ρ).bind λd=>match g d with|some ds=>.ok ds|none=>.no
theorem OutI.fst {K:qQ0}{r:Rs D}{k:D->Rs (List D)}{Q:It->Hp->Prop}(h:OutI K cl E H0 F H (r.bind k) Q)(z:∀d v H1 F1,Gr F H F1 H1->Dt K cl F1 v d->OutI K cl E H0 F1 H1 (k d) Q->P v H1):OutE K cl E H0 F H r P:=by
 cases r with
 | ok d =>
  refine λv H' F' g' q=>z d v H' F' g' q ?_
  have h':OutI K cl E H0 F H (k d) Q:=h
  cases e:k d with
  | ok ds=>rw[e] at h';exact λJ G vs H2 F2 g2=>h' J G vs H2 F2 (g'.trans g2)
  | ex n=>rw[e] at h';exact h'
  | no=>rw[e] at h';exact h'
 | ex n=>exact h
 | no=>exact h
theorem qO (h:XE X cl E e f):XI X cl E tg e (fI lsD f):=by
 obtain⟨t,pt,rt⟩:=h.ex
 refine XI.mk (zml pt) λH0 F0 ρ σ H F Q R o=>rt H0 F0 ρ σ H F _ R (OutI.fst o λd v H1 F1 g q o1=>?_)
 cases q with
 | lst sq dq =>
  have fh:=(R.grow g).fh
  exact⟨_,rfl,⟨_,fh.seq sq⟩,o1 _ _ _ H1 F1 (Gr.refl fh) zjd (λH'' s=>s.seq sq) dq⟩
 | _=>exact o1.elim
theorem qi (h:XE X cl E e f):XI X cl E tg e (fI tpD f):=by
 obtain⟨t,pt,rt⟩:=h.ex
 refine XI.mk (znx pt) λH0 F0 ρ σ H F Q R o=>rt H0 F0 ρ σ H F _ R (OutI.fst o λd v H1 F1 g q o1=>?_)
 cases q with
 | tup sq dq =>
  have fh:=(R.grow g).fh
  exact⟨_,rfl,⟨_,fh.seqT sq⟩,o1 _ _ _ H1 F1 (Gr.refl fh) zlY (λH'' s=>s.seqT sq) dq⟩
 | _=>exact o1.elim
theorem zdB {K:qQ0}{F:Hp}:∀{l:List Nat},(∀c∈l,TxtOk (T [c]))->Dts K cl F (l.map λc=>V.str (T [c])) (l.map λc=>D.str [c])
 | [],_=>.nil
 | c::l,h=>.cons (.str [c] (h c (.head _))) (zdB λd hd=>h d (.tail _ hd))
theorem zh9 (h:XE X cl E e f):XI X cl E tg e (fI sgD f):=by
 obtain⟨t,pt,rt⟩:=h.ex
 refine XI.mk (zm0 pt) λH0 F0 ρ σ H F Q R o=>rt H0 F0 ρ σ H F _ R (OutI.fst o λd v H1 F1 g q o1=>?_)
 cases q with
 | str l ok =>
  have fh:=(R.grow g).fh
  have w:=zlH (x:=T l) (G:=λ_=>True)
  rw[zac] at w
  exact⟨_,rfl,o1 _ _ _ H1 F1 (Gr.refl fh) w (λ_ _=>trivial) (zdB λc hc=>zpK ok hc)⟩
 | _=>exact o1.elim
def zd7:List D->Option (List D)
 | [.int j]=>if -(2 ^ 62)<=j/\j<2 ^ 62 then some ((List.range j.toNat).map λ(k:Nat)=>.int (k:Int)) else none
 | _=>none
def zpe:List D->Option (List D)
 | [.int i,.int j]=>if -(2 ^ 62)<=i/\i<2 ^ 62/\-(2 ^ 62)<=j/\j<2 ^ 62 then some ((List.range (j - i).toNat).map λ(k:Nat)=>.int (i+(k:Int))) else none
 | _=>none
def fR (g:List D->Option (List D))(fs:qQ4):qQ4:=λρ=>(fs ρ).bind λds=>match g ds with|some es=>.ok es|none=>.no
theorem OutI.fstA {K:qQ0}{r:Rs (List D)}{k:List D->Rs (List D)}{Q:It->Hp->Prop}{P:List V->Hp->Prop}(h:OutI K cl E H0 F H (r.bind k) Q)(z:∀d v H1 F1,Gr F H F1 H1->Dts K cl F1 v d->OutI K cl E H0 F1 H1 (k d) Q->P v H1):OutA K cl E H0 F H r P:=by
 cases r with
 | ok d =>
  refine λv H' F' g' q=>z d v H' F' g' q ?_
  have h':OutI K cl E H0 F H (k d) Q:=h
  cases e:k d with
  | ok ds=>rw[e] at h';exact λJ G vs H2 F2 g2=>h' J G vs H2 F2 (g'.trans g2)
  | ex n=>rw[e] at h';exact h'
  | no=>rw[e] at h';exact h'
 | ex n=>exact h
 | no=>exact h
theorem zbA {K:qQ0}{F:Hp}{α:Type}{v:α->V}{d:α->D}:∀{l:List α},(∀x∈l,Dt K cl F (v x) (d x))->Dts K cl F (l.map v) (l.map d)
 | [],_=>.nil
 | c::l,h=>.cons (h c (.head _)) (zbA λd hd=>h d (.tail _ hd))
theorem Dts.one {K:qQ0}{d:D}(q:Dts K cl F vs [d]):∃v,vs=[v]/\Dt K cl F v d:=by
 cases q with
 | cons q r=>cases r;exact⟨_,rfl,q⟩
theorem Dts.two {K:qQ0}{d e:D}(q:Dts K cl F vs [d,e]):∃v w,vs=[v,w]/\Dt K cl F v d/\Dt K cl F w e:=by
 cases q with
 | cons q r=>obtain⟨w,rfl,q2⟩:=r.one;exact⟨_,_,rfl,q,q2⟩
theorem xN {a:Expr}{p:Pos}{fs:qQ4}(hg:Gl X "range")(hm:X.mg "range" = none)(ha:XA X cl E [a] fs)(hs:starEach [a] X.env=[(false,eval a X.env)]):XI X cl E tg (.Call (.Name "range" p) [a] [] pos) (fR zd7 fs):=by
 obtain⟨t,pt,rt⟩:=ha.ex
 refine XI.mk (ziv hg hm pt hs) λH0 F0 ρ σ H F Q R o=>rt H0 F0 ρ σ H F _ R (OutI.fstA o λd v H1 F1 g q o1=>?_)
 match d,q,o1 with
 | [.int j],q,o1 =>
  obtain⟨v',rfl,q1⟩:=q.one
  cases q1
  dsimp only [zd7] at o1
  by_cases h:-(2 ^ 62)<=j/\j<2 ^ 62
  ·rw[lU h] at o1
   refine⟨j,rfl,h.1,h.2,o1 _ (λ_=>True) _ H1 F1 (Gr.refl (R.grow g).fh) zd9 (λ_ _=>trivial) (zbA λk _=>?_)⟩
   rw[Int.zero_add];exact .int _
  ·rw[lac h] at o1;exact o1.elim
theorem zhd {a:Expr}{p:Pos}{fs:qQ4}(hg:Gl X "range")(hm:X.mg "range" = none)(ha:XA X cl E [a,b] fs)(hs:starEach [a,b] X.env=[(false,eval a X.env),(false,eval b X.env)])(hs2:starEach [b] X.env=[(false,eval b X.env)]):XI X cl E tg (.Call (.Name "range" p) [a,b] [] pos) (fR zpe fs):=by
 obtain⟨t,pt,rt⟩:=ha.ex
 refine XI.mk (zhv hg hm pt hs hs2) λH0 F0 ρ σ H F Q R o=>rt H0 F0 ρ σ H F _ R (OutI.fstA o λd v H1 F1 g q o1=>?_)
 match d,q,o1 with
 | [.int i,.int j],q,o1 =>
  obtain⟨v,w,rfl,q1,q2⟩:=q.two
  cases q1;cases q2
  dsimp only [zpe] at o1
  by_cases h:-(2 ^ 62)<=i/\i<2 ^ 62/\-(2 ^ 62)<=j/\j<2 ^ 62
  ·rw[lU h] at o1
   exact⟨i,j,rfl,h,o1 _ (λ_=>True) _ H1 F1 (Gr.refl (R.grow g).fh) zd9 (λ_ _=>trivial) (zbA λk _=>.int _)⟩
  ·rw[lac h] at o1;exact o1.elim
theorem vR {iter:Expr}{fi:qQ4}(hp:PassesOwn (model X.prog X.w) X.A X.env X.xe)(hc:X.calm=true)(hi:XI X cl E tg iter fi)(hg:PG X tg (uq i))(hb:XSs X cl E body g)(hs:∀x,foldedSetIterable iter X.env x=pure x:=by intro _;rfl):XS X cl E (.For tg iter body [] pos) (uN i fi g):=by
 obtain⟨u,pu,ru⟩:=hb.ex
 refine XS'.out ⟨_,zkR hp hc hi hg pu hs,λH0 F0 ρ σ H F Dn R o=>⟨H0,F0,ρ,F,R,?_⟩⟩
 unfold uN at o
 cases e:fi ρ with
 | ok ds =>
  rw[e] at o
  intro J G vs H1 F1 gg W hG dq
  refine zmp W (λk σ H=>∃ρ' F',Rl X.K cl H0 F0 ρ' σ H F'/\Same F1 F'/\OutS X.K cl E H0 F0 F' (forD i g (ds.drop k) ρ') Dn) ⟨ρ,F1,R.grow gg,Same.refl _,o.grow gg.ff⟩ (λk σ' H' _ ⟨ρ',F',R',s',_⟩=>hG H' (s'.trans R'.fh)) ?_ ?_
  ·rintro k x σ' H' hx ⟨ρ',F',R',s',o'⟩
   obtain⟨d,hd,qd⟩:=dq.get hx
   have hdr:ds.drop k=d::ds.drop (k+1):=by
    obtain⟨hk,e2⟩:=lO.mp hd
    rw[laB hk,e2]
   rw[hdr] at o'
   unfold forD at o'
   refine ru H0 F0 _ _ H' F' _ (R'.set (qd.mono s')) ?_
   cases e2:g (ρ'.set i (.fz d)) with
   | nx ρ2=>simp only[e2] at o';exact λσ2 H2 F2 R2 s2=>⟨ρ2,F2,R2,s'.trans s2,o'.grow s2⟩
   | ct ρ2=>simp only[e2] at o';exact λσ2 H2 F2 R2 s2=>⟨ρ2,F2,R2,s'.trans s2,o'.grow s2⟩
   | bk ρ2=>simp only[e2] at o';exact o'
   | rt d=>simp only[e2] at o';exact o'
   | ex n=>simp only[e2] at o';exact o'
   | no=>simp only[e2] at o';exact o'
  ·rintro σ' H' ⟨ρ',F',R',s',o'⟩
   rw[lav (by rw[dq.length];exact lB _)] at o'
   exact o' σ' H' F' R' (Same.refl _)
 | ex n=>rw[e] at o;exact o
 | no=>rw[e] at o;exact o
end
def xT (n:Nat)(caps:List Nat)(ρ:Rho):Rho:=List.replicate n .no++caps.map λi=>match ρ[i]? with|some (.fz d)=>.fz d|_=>.no
def yo:qQ6:=λ_=>.ok true
def xj (ft:qQ6)(fe:qQ5)(ρ0:Rho):List D->Rs (List D)
 | []=>.ok []
 | d::ds=>match ft (ρ0.set 0 (.fz d)) with
  | .ok true=>(match fe (ρ0.set 0 (.fz d)) with | .ok e=>(xj ft fe ρ0 ds).bind λes=>.ok (e::es)|_=>.no)
  | .ok false=>xj ft fe ρ0 ds
  | _=>.no
def fCp (fi:qQ4)(ft:qQ6)(fe:qQ5)(caps:List Nat):qQ4:=λρ=>(fi ρ).bind λds=>if ds.length<=1000000 then xj ft fe (xT 1 caps ρ) ds else .no
def yU (fi:qQ4)(ft:qQ6)(fe:qQ5)(caps:List Nat):qQ5:=λρ=>(fCp fi ft fe caps ρ).bind λes=>.ok (.lst es)
def XTs (X:Cx)(cl:Nat->Addr)(E:XK)(ifs:List Expr)(f:qQ6):Prop:=PTs X ifs (tDB X.K cl E f)
section
variable {X:Cx}{cl:Nat->Addr}{E:XK}
theorem wu:XTs X cl E [] yo:=λpins s σ H Q I ⟨H0,F0,ρ,F,R,o⟩=>wpAny_tests_nil ⟨H,I,o H F (Gr.refl R.fh)⟩
theorem zfb (h:XT X cl E c f):XTs X cl E [c] f:=λpins s σ H Q I hq=>wpAny_tests_one (h pins s σ H Q I hq)
theorem jc {ft:qQ6}{fe:qQ5}{ρ0:Rho}:∀{ds:List D}{n:Nat},xj ft fe ρ0 ds≠.ex n
 | [],n=>λh=>by cases h
 | d :: ds,n=>λh=>by
  unfold xj at h
  split at h
  ·split at h
   ·cases e:xj ft fe ρ0 ds with
    | ok es=>rw[e] at h;cases h
    | ex m=>exact jc e
    | no=>rw[e] at h;cases h
   ·cases h
  ·exact jc h
  ·cases h
theorem Rl.cap {K:qQ0}(R:Rl K cl H0 F0 ρ σ H F)(own:List Str)(caps:List Nat):Rl K cl H F (xT own.length caps ρ) (zdm own caps σ) H F where
 gr:=Gr.refl R.fh
 len:=by simp[xT,zdm]
 fz := λi d e=>by
  unfold xT at e
  unfold zdm
  rcases lcd i own.length with h|h
  ·rw[la2 (by simpa using h),lbm,lU h] at e
   cases e
  ·rw [laM (by simpa using h),lck,lJ] at e
   rw[laM (by simpa using h),lQ,lJ]
   cases c:caps[i - own.length]? with
   | none=>rw[c] at e;cases e
   | some k =>
    rw[c] at e
    have e':=lq e
    dsimp only at e'
    split at e'
    ·rename_i d' z
     injection e' with e'
     subst e'
     obtain⟨v,h1,h2⟩:=R.fz k _ z
     exact⟨v,by show some ((σ[k]?).getD none)=some (some v);rw[h1];rfl,h2⟩
    ·cases e'
 own := λi s e o=>by
  exfalso
  unfold xT at e
  rcases lcd i own.length with h|h
  ·rw[la2 (by simpa using h),lbm,lU h] at e
   injection e with e;subst e;cases o
  ·rw [laM (by simpa using h),lck,lJ] at e
   cases c:caps[i - own.length]? with
   | none=>rw[c] at e;cases e
   | some k =>
    rw[c] at e
    have e':=lq e
    dsimp only at e'
    split at e' <;>(subst e';cases o)
 ap := λi j s t a z1 z2 o1 o2 e1 e2=>by
  exfalso
  unfold xT at z1
  rcases lcd i own.length with h|h
  ·rw[la2 (by simpa using h),lbm,lU h] at z1
   injection z1 with z1;subst z1;cases o1
  ·rw [laM (by simpa using h),lck,lJ] at z1
   cases c:caps[i - own.length]? with
   | none=>rw[c] at z1;cases z1
   | some k =>
    rw[c] at z1
    have e':=lq z1
    dsimp only at e'
    split at e' <;>(subst e';cases o1)
theorem znU {K:qQ0}{caps:List Nat}{fe:qQ5}{ds es:List D}{J:It}{G:Hp->Prop}{Fn:List V->Hp->Prop}(R:Rl K cl H0 F0 ρ σ H F)(W:Wlk J G vs)(hG:∀H'',Same F H''->G H'')(dq:Dts K cl F vs ds)(hl:ds.length<=1000000)
  (hc:xj ft fe (xT 1 caps ρ) ds=.ok es) (k:∀ys H' F',Gr F H F' H'->Dts K cl F' ys es->Fn ys H'):zaF (uq 0) (tDB K cl E0 ft) (tDE K cl E0 fe) (zdm [x] caps σ) Fn J H:=by
 have hz:vs.length<=sizeLine:=sz6 (dq.length▸hl)
 refine zdw W hz (λi ys H'=>∃F' es1 es2,Gr F H F' H'/\Dts K cl F' ys es1/\ys.length<=i/\es=es1++es2/\xj ft fe (xT 1 caps ρ) (ds.drop i)=.ok es2) ⟨F,[],es,Gr.refl R.fh,.nil,lB _,rfl,hc⟩ (λi ys H' _ ⟨F',_,_,g,_,h1,_⟩=>⟨hG H' (g.ff.trans g.fh),h1⟩) ?_ ?_
 ·rintro i v ys H' hv ⟨F',es1,es2,g,q1,hly,rfl,hc'⟩
  obtain⟨d,hd,qd⟩:=dq.get hv
  have hdr:ds.drop i=d::ds.drop (i+1):=by
   obtain⟨hk,e2⟩:=lO.mp hd
   rw[laB hk,e2]
  rw[hdr] at hc'
  unfold xj at hc'
  have R1:=(R.grow g).cap [x] caps
  have R2:Rl K cl H' F' ((xT 1 caps ρ).set 0 (.fz d)) ((zdm [x] caps σ).set 0 (some v)) H' F':=R1.set (qd.mono g.ff)
  refine⟨Kps.set rfl,H',F',_,F',R2,?_⟩
  cases e1:ft ((xT 1 caps ρ).set 0 (.fz d)) with
  | ok b =>
   rw[e1] at hc'
   intro H2 F2 g2
   cases b with
   | true =>
    rw[lU rfl]
    cases e2:fe ((xT 1 caps ρ).set 0 (.fz d)) with
    | ok e =>
     simp only[e2] at hc'
     refine⟨H',F',_,F2,R2.grow g2,?_⟩
     rw[e2]
     intro y H3 F3 g3 qy
     cases e3:xj ft fe (xT 1 caps ρ) (ds.drop (i+1)) with
     | ok es3 =>
      rw[e3] at hc'
      injection hc' with hc'
      exact⟨F3,es1++[e],es3,g.trans (g2.trans g3),(q1.mono (g2.ff.trans g3.ff)).append (.cons qy .nil),by simp;exact hly,by rw[← hc',la3];rfl,rfl⟩
     | ex n=>rw[e3] at hc';cases hc'
     | no=>rw[e3] at hc';cases hc'
    | ex n=>simp only[e2] at hc';cases hc'
    | no=>simp only[e2] at hc';cases hc'
   | false =>
    rw[lac lH]
    exact⟨F2,es1,es2,g.trans g2,q1.mono g2.ff,Nat.le_succ_of_le hly,rfl,hc'⟩
  | ex n=>rw[e1] at hc';cases hc'
  | no=>rw[e1] at hc';cases hc'
 ·rintro ys H' ⟨F',es1,es2,g,q1,hly,rfl,hc'⟩
  rw[lav (by rw[dq.length];exact lB _)] at hc'
  injection hc' with hc'
  rw[← hc',lY] at k
  exact k ys H' F' g q1
variable {scope:Scope}{x:Str}{caps:List Nat}{elt tg iter:Expr}{ifs:List Expr}{fi:qQ4}{ft:qQ6}{fe:qQ5}{pos:Pos}
structure CompD (X:Cx)(cl:Nat->Addr)(scope:Scope)(x:Str)(caps:List Nat)(tg:Expr)(ifs:List Expr)(elt:Expr)(ft:qQ6)(fe:qQ5):Prop where
 tgt:∀pins C ex s H,PG (cxC X pins scope [x] caps C ex s H) tg (uq 0)
 tst:∀pins C ex s H,XTs (cxC X pins scope [x] caps C ex s H) cl E0 ifs ft
 elm:∀pins C ex s H,XE (cxC X pins scope [x] caps C ex s H) cl E0 elt fe
theorem CompD.ci (h:CompD X cl scope x caps tg ifs elt ft fe):CompIn X scope [x] caps tg ifs elt (uq 0) (tDB X.K cl E0 ft) (tDE X.K cl E0 fe):=⟨h.tgt,h.tst,h.elm⟩
theorem OutI.comp {K:qQ0}{P:List V->Hp->Prop}(R:Rl K cl H0 F0 ρ σ H F)(o:OutA K cl E H0 F H (fCp fi ft fe caps ρ) P):OutI K cl E H0 F H (fi ρ) λJ H1=>zaF (uq 0) (tDB K cl E0 ft) (tDE K cl E0 fe) (zdm [x] caps σ) P J H1:=by
 unfold fCp at o
 cases e:fi ρ with
 | ok ds =>
  rw[e] at o
  have o1:OutA K cl E H0 F H (if ds.length<=1000000 then xj ft fe (xT 1 caps ρ) ds else .no) P:=o
  intro J G vs H1 F1 g W hG dq
  split at o1
  ·rename_i hl
   cases e2:xj ft fe (xT 1 caps ρ) ds with
   | ok es=>rw[e2] at o1;exact znU (R.grow g) W hG dq hl e2 λys H' F' g' q=>o1 ys H' F' (g.trans g') q
   | ex n=>exact absurd e2 jc
   | no=>rw[e2] at o1;exact o1.elim
  ·exact o1.elim
 | ex n=>rw[e] at o;exact o
 | no=>rw[e] at o;exact o
theorem qw (ok:CompOk X scope caps)(hc:X.calm=true)(hi:XI X cl E tg iter fi)(CI:CompD X cl scope x caps tg ifs elt ft fe)(hs:∀x,foldedSetIterable iter X.env x=pure x:=by intro _;rfl):XE X cl E (.ListComp elt [⟨tg,iter,ifs,0⟩] scope pos) (yU fi ft fe caps):=by
 refine XE'.out ⟨_,ze4 ok hc hi CI.ci hs,λH0 F0 ρ σ H F Q R o=>⟨H0,F0,ρ,F,R,OutI.comp R ?_⟩⟩
 refine OutA.fst o λes ys H' F' g q o1=>?_
 intro p hp
 have fh:=(R.grow g).fh
 exact o1 _ _ _ (Gr.new fh hp) (.lst (.inl (.inl zV)) (q.mono (Same.upd (fh.free hp))))
def wB (j:Nat)(fs:qQ4):Rho->Out:=λρ=>match fs ρ with | .ok es=>.nx (ρ.set j (.fz (.lst es))) | .ex n=>.ex n | .no=>.no
def wR (j:Nat)(fs:qQ4):Rho->Out:=λρ=>match fs ρ with | .ok es=>.nx (ρ.set j (.ow es)) | .ex n=>.ex n | .no=>.no
theorem zah {py spos:Pos}(hN:X.N.Nodup)(hj:X.N[j]? = some y)(hy:X.env.scope.names.lookup y=some .local)(ok:CompOk X scope caps)(hc:X.calm=true)(hi:XI X cl E tg iter fi)(CI:CompD X cl scope x caps tg ifs elt ft fe)
  (hsw:swapsWith (.ListComp elt [⟨tg,iter,ifs,0⟩] scope pos) (some (.Name y py)) spos.line X.env=pure true) (hs:∀x,foldedSetIterable iter X.env x=pure x:=by intro _;rfl):XS X cl E (.Assign [.Name y py] (.ListComp elt [⟨tg,iter,ifs,0⟩] scope pos) spos) (wB j (fCp fi ft fe caps)):=by
 refine XS'.out ⟨_,ziE hN hj hy ok hc hi CI.ci hsw hs,λH0 F0 ρ σ H F Dn R o=>⟨H0,F0,ρ,F,R,OutI.comp R ?_⟩⟩
 unfold wB at o
 cases e:fCp fi ft fe caps ρ with
 | ok es =>
  rw[e] at o
  intro ys H' F' g q p hp
  have fh:=(R.grow g).fh
  have g2:Gr F' H' (upd F' p (.lst ys)) (upd H' p (.lst ys)):=Gr.new fh hp
  exact o _ _ _ (((R.grow g).grow g2).set (.lst (.inl (.inl zV)) (q.mono g2.ff))) (g.ff.trans g2.ff)
 | ex n=>rw[e] at o;exact o
 | no=>rw[e] at o;exact o
theorem zj8 {py spos:Pos}(hN:X.N.Nodup)(hj:X.N[j]? = some y)(hy:X.env.scope.names.lookup y=some .local)(ok:CompOk X scope caps)(hc:X.calm=true)(hi:XI X cl E tg iter fi)(CI:CompD X cl scope x caps tg ifs elt ft fe)
  (hsw:swapsWith (.ListComp elt [⟨tg,iter,ifs,0⟩] scope pos) (some (.Name y py)) spos.line X.env=pure true) (hs:∀x,foldedSetIterable iter X.env x=pure x:=by intro _;rfl):XS X cl E (.Assign [.Name y py] (.ListComp elt [⟨tg,iter,ifs,0⟩] scope pos) spos) (wR j (fCp fi ft fe caps)):=by
 refine XS'.out ⟨_,ziE hN hj hy ok hc hi CI.ci hsw hs,λH0 F0 ρ σ H F Dn R o=>⟨H0,F0,ρ,F,R,OutI.comp R ?_⟩⟩
 unfold wR at o
 cases e:fCp fi ft fe caps ρ with
 | ok es =>
  rw[e] at o
  intro ys H' F' g q p hp
  exact o _ _ _ ((R.grow g).setO hp q) g.ff
 | ex n=>rw[e] at o;exact o
 | no=>rw[e] at o;exact o
end
def Fn1 (K:qQ0)(cl:Nat->Addr)(r:List V->Hp->VK->Prop)(g:List D->Option D):Prop :=
 ∀(F H:Hp) (vs:List V) (ds:List D) (d:D) (Q:VK),Same F H->Dts K cl F vs ds->g ds=some d->(∀v H' F',Gr F H F' H'->Dt K cl F' v d->Q v H')->r vs H Q
def jj:List D->Option D
 | [.str l]=>some (.int l.length)
 | [.lst l]=>some (.int l.length)
 | [.tup l]=>some (.int l.length)
 | _=>none
def unB:D->Bool
 | .bl b=>b
 | _=>false
def isB:D->Bool
 | .bl _=>true
 | _=>false
def unS:D->List Nat
 | .str l=>l
 | _=>[]
def isS:D->Bool
 | .str _=>true
 | _=>false
def zmy:List D->Option D
 | [.lst ds]=>if ds.all isB=true then some (.bl (ds.all unB)) else none
 | _=>none
def znD:List D->Option D
 | [.lst ds]=>if ds.all isB=true then some (.bl (ds.any unB)) else none
 | _=>none
def zcR (ds:List D):Option (List D):=if ds.all isS=true/\ds.length<64 then some ((My.sortF (ds.map unS)).map .str) else none
def zdQ:List D->Option (List D)
 | [.lst ds]=>zcR ds
 | [.tup ds]=>zcR ds
 | _=>none
def zmA:List D->Option D
 | [.lst ds]=>some (.tup ds)
 | [.tup ds]=>some (.tup ds)
 | _=>none
def znC:List D->Option (List D)
 | [.lst ds]=>some ds
 | [.tup ds]=>some ds
 | _=>none
def yI:D->D->Option D
 | .str l,.str m=>some (.bl (m.isPrefixOf l))
 | _,_=>none
def zjI:D->D->Option D
 | .str [],.lst ds=>if ds.all isS=true/\(ds.map unS).flatten.length<=1000000 then some (.str (ds.map unS).flatten) else none
 | _,_=>none
def zcq (g:PyData->Bool)(d:D):Option D:=if d.pl=true then some (.bl (g d.py)) else none
def isInt:PyData->Bool:=λd=>match d with | .int _=>true | .bool _=>true|_=>false
def isBool:PyData->Bool:=λd=>match d with | .bool _=>true|_=>false
def isStr:PyData->Bool:=λd=>match d with | .str _=>true|_=>false
def isTup:PyData->Bool:=λd=>match d with | .tuple _=>true|_=>false
section
variable {K:qQ0}{cl:Nat->Addr}{F H:Hp}
theorem Dts.bools:∀{vs:List V}{ds:List D},Dts K cl F vs ds->ds.all isB=true->vs=(ds.map unB).map V.bl
 | _,_,.nil,_=>rfl
 | _,_,.cons q r,h=>by
  rw[lba,lM] at h
  have:=Dts.bools r h.2
  cases q <;>simp[isB] at h
  rw[this];rfl
theorem Dts.texts:∀{vs:List V}{ds:List D},Dts K cl F vs ds->ds.all isS=true->vs=vT (ds.map unS)/\(∀x∈ds.map unS,TxtOk (T x))/\ds=(ds.map unS).map .str
 | _,_,.nil,_=>⟨rfl,by simp,rfl⟩
 | _,_,.cons q r,h=>by
  rw[lba,lM] at h
  obtain⟨e1,e2,e3⟩:=Dts.texts r h.2
  cases q with
  | str l ok =>
   refine⟨by rw[e1];rfl,λx hx=>?_,by rw[lF,lF,← e3];rfl⟩
   rw[lF] at hx
   rcases lI.mp hx with rfl|hx
   ·exact ok
   ·exact e2 x hx
  | _=>simp[isS] at h
theorem ziw (h:∀x∈ls,TxtOk (T x)):Dts K cl F (vT ls) (ls.map .str):=zbA λx hx=>.str x (h x hx)
theorem n_len:Fn1 K cl (λxs H Q=>∃x n,xs=[x]/\zpL K x H n/\Q (.int n) H) jj:=λF H vs ds d Q s q e k=>by
 match ds,q,e with
 | [.str l],q,e =>
  obtain⟨v,rfl,q1⟩:=q.one
  obtain rfl:=lq e
  cases q1 with
  | str l ok=>exact⟨_,l.length,rfl,⟨sz6 ok.2,(zaT l).symm⟩,k _ _ _ (Gr.refl s) (.int _)⟩
 | [.lst l],q,e =>
  obtain⟨v,rfl,q1⟩:=q.one
  obtain rfl:=lq e
  cases q1 with
  | lst sq dq=>exact⟨_,l.length,rfl,.inl ⟨_,s.seq sq,dq.length.symm⟩,k _ _ _ (Gr.refl s) (.int _)⟩
 | [.tup l],q,e =>
  obtain⟨v,rfl,q1⟩:=q.one
  obtain rfl:=lq e
  cases q1 with
  | tup sq dq=>exact⟨_,l.length,rfl,.inr ⟨_,s.seqT sq,dq.length.symm⟩,k _ _ _ (Gr.refl s) (.int _)⟩
theorem n_all:Fn1 K cl (λxs H Q=>∃(a:Addr) (bs:List Bool),xs=[.ref a]/\SqL K H a (bs.map V.bl)/\Q (.bl (bs.all id)) H) zmy:=λF H vs ds d Q s q e k=>by
 match ds,q,e with
 | [.lst l],q,e =>
  obtain⟨v,rfl,q1⟩:=q.one
  dsimp only [zmy] at e
  split at e
  ·rename_i h
   obtain rfl:=lq e
   cases q1 with
   | lst sq dq =>
    rw[dq.bools h] at sq
    refine⟨_,_,rfl,s.seq sq,?_⟩
    have:=k _ _ _ (Gr.refl s) (.bl (l.all unB))
    rwa [lb2]
  ·cases e
theorem n_any:Fn1 K cl (λxs H Q=>∃(a:Addr) (bs:List Bool),xs=[.ref a]/\SqL K H a (bs.map V.bl)/\Q (.bl (bs.any id)) H) znD:=λF H vs ds d Q s q e k=>by
 match ds,q,e with
 | [.lst l],q,e =>
  obtain⟨v,rfl,q1⟩:=q.one
  dsimp only [znD] at e
  split at e
  ·rename_i h
   obtain rfl:=lq e
   cases q1 with
   | lst sq dq =>
    rw[dq.bools h] at sq
    refine⟨_,_,rfl,s.seq sq,?_⟩
    have:=k _ _ _ (Gr.refl s) (.bl (l.any unB))
    rwa [ld0]
  ·cases e
theorem ziC:Fn1 K cl (λxs H Q=>∃p ys,xs=[.ref p]/\((SqL K H p ys/\∀l,H l=none->Q (.ref l) (upd H l (.tup ys)))∨(SqT K H p ys/\Q (.ref p) H))) zmA:=λF H vs ds d Q s q e k=>by
 match ds,q,e with
 | [.lst l],q,e =>
  obtain⟨v,rfl,q1⟩:=q.one
  obtain rfl:=lq e
  cases q1 with
  | lst sq dq=>exact⟨_,_,rfl,.inl ⟨s.seq sq,λp hp=>k _ _ _ (Gr.new s hp) (.tup (.inl (.inl zV)) (dq.mono (Same.upd (s.free hp))))⟩⟩
 | [.tup l],q,e =>
  obtain⟨v,rfl,q1⟩:=q.one
  obtain rfl:=lq e
  cases q1 with
  | tup sq dq=>exact⟨_,_,rfl,.inr ⟨s.seqT sq,k _ _ _ (Gr.refl s) (.tup sq dq)⟩⟩
end
section
variable {X:Cx}{cl:Nat->Addr}{E:XK}{e o:Expr}{es:List Expr}{fa fb:qQ5}{fs:qQ4}{x:Str}{p pos:Pos}
theorem yh {id:String}{r:List V->Hp->VK->Prop}{g:List D->Option D}(hc:qP X (.builtin id) r)(hF:Fn1 X.K cl r g)(hg:Gl X x)(hm:X.mg x=none)(hv:bootBuiltins x=some (.builtin id))(ha:XA X cl E (e::es) fs)(he:starEach (e::es) X.env=(false,eval e X.env)::starEach es X.env)(hn:x ≠ "__name__" := by decide)(hdb:(x == ("__debug__" : Str))=false:=by decide)(hpl:(backTo pos (starEach es X.env)).any (·.1)=false:=by rfl):XE X cl E (.Call (.Name x p) (e::es) [] pos) (fO g fs):=by
 obtain⟨t,pt,rt⟩:=ha.ex
 refine XE'.out ⟨_,jO hc hg hm hv pt hn hdb he hpl,λH0 F0 ρ σ H F Q R o=>rt H0 F0 ρ σ H F _ R (OutA.fst o λds vs H1 F1 g1 q o1=>?_)⟩
 obtain⟨z,hz,k⟩:=o1.lf
 exact hF F1 H1 vs ds z _ (R.grow g1).fh q hz k
theorem qT {T:String}{r:List V->Hp->VK->Prop}{g:List D->Option D}(hc:qP X (.type T) r)(hF:Fn1 X.K cl r g)(hg:Gl X x)(hm:X.mg x=none)(hv:bootBuiltins x=some (.type T))(ha:XA X cl E (e::es) fs)(he:starEach (e::es) X.env=(false,eval e X.env)::starEach es X.env)(hn:x ≠ "__name__" := by decide)(hdb:(x == ("__debug__" : Str))=false:=by decide)(hpl:(backTo pos (starEach es X.env)).any (·.1)=false:=by rfl):XE X cl E (.Call (.Name x p) (e::es) [] pos) (fO g fs):=by
 obtain⟨t,pt,rt⟩:=ha.ex
 refine XE'.out ⟨_,zeA hc hg hm hv pt hn hdb he hpl,λH0 F0 ρ σ H F Q R o=>rt H0 F0 ρ σ H F _ R (OutA.fst o λds vs H1 F1 g1 q o1=>?_)⟩
 obtain⟨z,hz,k⟩:=o1.lf
 exact hF F1 H1 vs ds z _ (R.grow g1).fh q hz k
theorem zfS {n:String}{g:PyData->Bool}(hk:∀d,PySem.W.kitOne X.K (.type (tyN d)) (.type n)=some (g d))(hg:Gl X "isinstance")(hm:X.mg "isinstance" = none)(ha:XE X cl E e fa)(hb:PE X b (tC (.ty n)))(h1:starEach [e,b] X.env=(false,eval e X.env)::starEach [b] X.env)(h2:starEach [b] X.env=(false,eval b X.env)::starEach [] X.env:=by rfl)(hpl:(backTo pos (starEach [b] X.env)).any (·.1)=false:=by rfl):XE X cl E (.Call (.Name "isinstance" p) [e,b] [] pos) (f1 (zcq g) fa):=by
 obtain⟨t,pt,rt⟩:=ha.ex
 refine XE'.out ⟨_,jO zeH hg hm boot_isinstance (yX pt (yX hb vX h2) h1) (by decide) (by decide) h1 hpl,λH0 F0 ρ σ H F Q R o=>rt H0 F0 ρ σ H F _ R (OutE.fst o λd v H1 F1 g1 q o1=>?_)⟩
 obtain⟨z,hz,k⟩:=o1.lf
 unfold zcq at hz
 split at hz
 ·rename_i hp
  obtain rfl:=lq hz
  have fh:=(R.grow g1).fh
  exact⟨v,d.py,n,g d.py,rfl,(q.is hp).mono fh,hk _,k _ _ _ (Gr.refl fh) (.bl _)⟩
 ·cases hz
def fM (chk:D->Bool)(g:D->D->Option D)(fa fb:qQ5):qQ5:=λρ=>(fa ρ).bind λa=>if chk a=true then(fb ρ).bind λb=>lf (g a b) else .no
structure Mth (X:Cx)(o e:Expr)(name:Str)(apos cpos:Pos):Prop where
 hs:starEach [e] X.env=(false,eval e X.env)::starEach [] X.env
 base:attributeBase o name X.env (eval o X.env)=eval o X.env
 few:((backTo cpos (starEach [e] X.env)).all (λx=>!x.1)&&(backToKw cpos (keywordEach [] X.env)).all (λx=>x.1.isSome)&&decide (([e]:List Expr).length+([]:List Keyword).length+(if ([]:List Keyword).isEmpty then 0 else 1)<30))=true
 line:(apos.endLine == cpos.line)=true
 plain:(backTo cpos (starEach [] X.env)).any (·.1)=false
theorem uP (ho:XE X cl E o fa)(ha:XE X cl E e fb)(m:Mth X o e "startswith" apos cpos):XE X cl E (.Call (.Attribute o "startswith" apos) [e] [] cpos) (fM isS yI fa fb):=by
 obtain⟨t,pt,rt⟩:=ho.ex
 obtain⟨u,pu,ru⟩:=ha.ex
 refine XE'.out ⟨_,zd3 PySem.F.plainAttrs_str PySem.F.slot_str_startswith PySem.F.type_str_startswith ziQ pt (yX pu vX m.hs) m.base m.few m.line m.hs m.plain,λH0 F0 ρ σ H F Q R o=>rt H0 F0 ρ σ H F _ R (OutE.fst o λd v H1 F1 g1 q o1=>?_)⟩
 split at o1
 ·rename_i hd
  cases q with
  | str l ok =>
   refine⟨rfl,ru H0 F0 ρ σ H1 F1 _ (R.grow g1) (OutE.fst o1 λd2 v2 H2 F2 g2 q2 o2=>?_)⟩
   obtain⟨z,hz,k⟩:=o2.lf
   cases q2 with
   | str m ok2 =>
    obtain rfl:=lq hz
    exact⟨l,m,rfl,rfl,k _ _ _ (Gr.refl (R.grow (g1.trans g2)).fh) (.bl _)⟩
   | _=>cases hz
  | _=>cases hd
 ·exact o1.elim
theorem zlj (ho:XE X cl E o fa)(ha:XE X cl E e fb)(m:Mth X o e "join" apos cpos):XE X cl E (.Call (.Attribute o "join" apos) [e] [] cpos) (fM isS zjI fa fb):=by
 obtain⟨t,pt,rt⟩:=ho.ex
 obtain⟨u,pu,ru⟩:=ha.ex
 refine XE'.out ⟨_,zd3 PySem.F.plainAttrs_str PySem.F.slot_str_join PySem.F.type_str_join zld pt (yX pu vX m.hs) m.base m.few m.line m.hs m.plain,λH0 F0 ρ σ H F Q R o=>rt H0 F0 ρ σ H F _ R (OutE.fst o λd v H1 F1 g1 q o1=>?_)⟩
 split at o1
 ·rename_i hd
  cases q with
  | str l ok =>
   refine⟨rfl,ru H0 F0 ρ σ H1 F1 _ (R.grow g1) (OutE.fst o1 λd2 v2 H2 F2 g2 q2 o2=>?_)⟩
   obtain⟨z,hz,k⟩:=o2.lf
   cases q2 with
   | lst sq dq =>
    rename_i ds
    match l,hz with
    | [],hz =>
     dsimp only [zjI] at hz
     split at hz
     ·rename_i h
      obtain rfl:=lq hz
      obtain⟨e1,e2,e3⟩:=dq.texts h.1
      have fh:=(R.grow (g1.trans g2)).fh
      rw[e1] at sq
      refine⟨_,ds.map unS,rfl,rfl,fh.seq sq,h.2,k _ _ _ (Gr.refl fh) (.str _ (zb1 (λc hc=>?_) h.2))⟩
      obtain⟨y,hy,hc⟩:=List.mem_flatten.mp hc
      have a:(T y).cps.all (· < 0x110000)=true:=(e2 y hy).1
      simp only[T,ldd,lZ,laA] at a
      exact a c hc
     ·cases hz
    | _::_,hz=>cases hz
   | _=>cases l <;>cases hz
  | _=>cases hd
 ·exact o1.elim
theorem qX {a:Expr}(ha:XE X cl E a fa)(hb:XE X cl E b fb)(hs:zhe b):XE X cl E (.Subscript a b pos) (f2 ixD fa fb):=by
 obtain⟨t,pt,rt⟩:=ha.ex
 obtain⟨u,pu,ru⟩:=hb.ex
 refine XE'.out ⟨_,zoT zmH pt pu hs,λH0 F0 ρ σ H F Q R o=>rt H0 F0 ρ σ H F _ R (OutE.fst o λd v H1 F1 g1 q o1=>?_)⟩
 refine ru H0 F0 ρ σ H1 F1 _ (R.grow g1) (OutE.fst o1 λe w H2 F2 g2 q2 o2=>?_)
 obtain⟨z,hz,k⟩:=o2.lf
 exact zpZ F2 H2 v w d e z _ (R.grow (g1.trans g2)).fh (q.mono g2.ff) q2 hz k
def xR:Rho->Rs (Option Int):=λ_=>.ok none
def xH (f:qQ5):Rho->Rs (Option Int):=λρ=>(f ρ).bind λd=>match d with | .int i=>.ok (some i)|_=>.no
theorem um:XO' X cl E none xR:=⟨_,zmi,λH0 F0 ρ σ H F Q R o=>o H F (Gr.refl R.fh)⟩
theorem uJ (h:XE X cl E e fa):XO' X cl E (some e) (xH fa):=by
 obtain⟨t,pt,rt⟩:=h.ex
 refine⟨_,zlu pt,λH0 F0 ρ σ H F Q R o=>rt H0 F0 ρ σ H F _ R ?_⟩
 unfold xH at o
 cases e:fa ρ with
 | ok d =>
  rw[e] at o
  intro v H' F' g q
  cases q with
  | int i=>exact⟨i,rfl,o H' F' g⟩
  | _=>exact o.elim
 | ex n=>rw[e] at o;exact o
 | no=>rw[e] at o;exact o
def fSl (fa:qQ5)(fl fh:Rho->Rs (Option Int)):qQ5:=λρ=>(fa ρ).bind λa=>(fl ρ).bind λl=>(fh ρ).bind λh=>lf (slD a l h)
theorem zjL (xs:List α)(lo hi:Option Int):(zdk xs lo hi).length<=xs.length:=by
 unfold zdk
 rw[las,ldb];omega
theorem Dts.cut {K:qQ0}{ds:List D}(q:Dts K cl F vs ds)(lo hi:Option Int):Dts K cl F (zhL vs lo hi) (zdk ds lo hi):=by
 unfold zhL zdk
 rw[q.length]
 exact(q.drop _).take _
theorem wK {lo hi:Option Expr}{p2:Pos}{fl fh:Rho->Rs (Option Int)}(ha:XE X cl E e fa)(hl:XO' X cl E lo fl)(hh:XO' X cl E hi fh):XE X cl E (.Subscript e (.Slice lo hi none p2) pos) (fSl fa fl fh):=by
 obtain⟨t,pt,rt⟩:=ha.ex
 obtain⟨u,pu,ru⟩:=hl
 obtain⟨w,pw,rw'⟩:=hh
 refine XE'.out ⟨_,zka (SlR.or zmm (SlR.or zlI znp)) pt pu pw,λH0 F0 ρ σ H F Q R o=>rt H0 F0 ρ σ H F _ R (OutE.fst o λd v H1 F1 g1 q o1=>?_)⟩
 refine ru H0 F0 ρ σ H1 F1 _ (R.grow g1) ?_
 cases e1:fl ρ with
 | ok l =>
  rw[e1] at o1
  intro H2 F2 g2
  refine rw' H0 F0 ρ σ H2 F2 _ ((R.grow g1).grow g2) ?_
  cases e2:fh ρ with
  | ok h =>
   rw[e2] at o1
   intro H3 F3 g3
   have o3:OutE X.K cl E H0 F3 H3 (lf (slD d l h)) Q:=OutE.grow o1 (g2.trans g3)
   obtain⟨z,hz,k⟩:=o3.lf
   have fh:=(((R.grow g1).grow g2).grow g3).fh
   have q3:=q.mono (g2.trans g3).ff
   cases q3 with
   | lst sq dq =>
    obtain rfl:=lq hz
    refine .inl ⟨_,_,rfl,fh.seq sq,λp hp=>k _ _ _ (Gr.new fh hp) (.lst (.inl (.inl zV)) ((dq.cut l h).mono (Same.upd (fh.free hp))))⟩
   | tup sq dq =>
    obtain rfl:=lq hz
    refine .inr (.inl ⟨_,_,rfl,fh.seqT sq,λp H' hs qq=>?_⟩)
    obtain⟨F',g,q'⟩:=Gr.tup fh hs qq (dq.cut l h)
    exact k _ _ _ g q'
   | str ls ok =>
    obtain rfl:=lq hz
    refine .inr (.inr ⟨_,rfl,sz6 ok.2,?_⟩)
    rw[zac,zaT]
    refine k _ _ _ (Gr.refl fh) (.str (zdk ls l h) (zhn ok (λc hc=>?_) (lar (zjL _ _ _) (by have:=ok.2;rw[zaT] at this;exact this))))
    exact List.mem_of_mem_drop (List.mem_of_mem_take hc)
   | _=>cases hz
  | ex n=>rw[e2] at o1;exact o1
  | no=>rw[e2] at o1;exact o1
 | ex n=>rw[e1] at o1;exact o1
 | no=>rw[e1] at o1;exact o1
end
def XL (X:Cx)(cl:Nat->Addr)(E:XK)(e:Expr)(f:qQ4):Prop :=
 ∃t:TE,PE X e t/\∀(H0 F0:Hp) (ρ:Rho) (σ:St) (H F:Hp) (Q:VK),Rl X.K cl H0 F0 ρ σ H F->OutA X.K cl E H0 F H (f ρ) (λvs H1=>∀p,H1 p=none->Q (.ref p) (upd H1 p (.lst vs)))->t σ H Q
def fLs (f:qQ4):qQ5:=λρ=>(f ρ).bind λds=>.ok (.lst ds)
section
variable {X:Cx}{cl:Nat->Addr}{E:XK}{e o:Expr}{es:List Expr}{fa fb:qQ5}{fs:qQ4}{x:Str}{p pos:Pos}
theorem XL.xe (h:XL X cl E e fs):XE X cl E e (fLs fs):=by
 obtain⟨t,pt,rt⟩:=h
 refine XE'.out ⟨_,pt,λH0 F0 ρ σ H F Q R o=>rt H0 F0 ρ σ H F _ R (OutA.fst o λds vs H1 F1 g q o1=>λp hp=>?_)⟩
 have fh:=(R.grow g).fh
 exact o1 _ _ _ (Gr.new fh hp) (.lst (.inl (.inl zV)) (q.mono (Same.upd (fh.free hp))))
def lf' {α:Type}:Option α->Rs α
 | some d=>.ok d
 | none=>.no
def fL (g:List D->Option (List D))(fs:qQ4):qQ4:=λρ=>(fs ρ).bind λas=>lf' (g as)
def fL2 (g:D->D->Option (List D))(fa fb:qQ5):qQ4:=λρ=>(fa ρ).bind λa=>(fb ρ).bind λb=>lf' (g a b)
theorem OutA.lf {K:qQ0}{o:Option (List D)}{Q:List V->Hp->Prop}(h:OutA K cl E H0 F H (lf' o) Q):∃d,o=some d/\∀v H' F',Gr F H F' H'->Dts K cl F' v d->Q v H':=by
 cases o with
 | none=>exact h.elim
 | some d=>exact⟨d,rfl,h⟩
def szL (ds:List D):Option (List D):=if ds.length<=1000000 then some ds else none
theorem ziF (h:XA X cl E es fs):XL X cl E (.List es pos) (fL szL fs):=by
 obtain⟨t,pt,rt⟩:=h.ex
 refine⟨_,zki pt,λH0 F0 ρ σ H F Q R o=>rt H0 F0 ρ σ H F _ R (OutA.fstA o λds vs H1 F1 g q o1=>?_)⟩
 obtain⟨z,hz,k⟩:=o1.lf
 unfold szL at hz
 split at hz
 ·rename_i hl
  obtain rfl:=lq hz
  exact⟨sz6 (q.length▸hl),λp hp=>k vs H1 F1 (Gr.refl (R.grow g).fh) q p hp⟩
 ·cases hz
def zhN:D->D->Option (List D)
 | .lst l,.lst m=>if l.length+m.length<=1000000 then some (l++m) else none
 | _,_=>none
theorem zci {K:qQ0}{a:Addr}{ds z:List D}{Q:List V->Hp->Prop}(fh:Same F H)(dq:Dts K cl F vs ds)(hz:zcR ds=some z)(k:∀v H' F',Gr F H F' H'->Dts K cl F' v z->Q v H'):vs=vT (ds.map unS)/\(ds.map unS).length<64/\∀ms,ms.Perm (ds.map unS)->Srt ms->Q (vT ms) H:=by
 unfold zcR at hz
 split at hz
 ·rename_i h
  obtain rfl:=lq hz
  obtain⟨e1,e2,e3⟩:=dq.texts h.1
  refine⟨e1,by rw[lQ];exact h.2,λms pm sm=>?_⟩
  obtain rfl:=My.sortF_eq sm pm
  exact k _ _ _ (Gr.refl fh) (ziw λy hy=>e2 y (My.sortF_mem.mp hy))
 ·cases hz
theorem zbB (hg:Gl X "sorted")(hm:X.mg "sorted" = none)(hv:bootBuiltins "sorted" = some (.builtin "sorted"))(h:XE X cl E e fa)(hs:starEach [e] X.env=(false,eval e X.env)::starEach [] X.env)(hpl:(backTo pos (starEach [] X.env)).any (·.1)=false:=by rfl):XL X cl E (.Call (.Name "sorted" p) [e] [] pos) (fL zdQ (zj fa zE)):=by
 obtain⟨t,pt,rt⟩:=(zf h zu hs).ex
 have hc:qP X (.builtin "sorted") (λxs H Q=>(∃a ls,xs=[.ref a]/\SqL X.K H a (vT ls)/\ls.length<64/\∀p ms,H p=none->ms.Perm ls->Srt ms->Q (.ref p) (upd H p (.lst (vT ms))))∨(∃a ls,xs=[.ref a]/\SqT X.K H a (vT ls)/\ls.length<64/\∀p ms,H p=none->ms.Perm ls->Srt ms->Q (.ref p) (upd H p (.lst (vT ms))))):=λpins s σ H xs us Q I r q=>by
  rcases q with q|q
  ·exact zdM pins s σ H xs us Q I r q
  ·exact zeu pins s σ H xs us Q I r q
 refine⟨_,jO hc hg hm hv pt (by decide) (by decide) hs hpl,λH0 F0 ρ σ H F Q R o=>rt H0 F0 ρ σ H F _ R (OutA.fstA o λds vs H1 F1 g q o1=>?_)⟩
 obtain⟨z,hz,k⟩:=o1.lf
 have fh:=(R.grow g).fh
 match ds,q,hz with
 | [.lst l],q,hz =>
  obtain⟨v,rfl,q1⟩:=q.one
  cases q1 with
  | lst sq dq =>
   obtain⟨e1,e2,e3⟩:=zci (a:=0) fh dq hz k
   rw[e1] at sq
   exact .inl ⟨_,_,rfl,fh.seq sq,e2,λp ms hp pm sm=>e3 ms pm sm p hp⟩
 | [.tup l],q,hz =>
  obtain⟨v,rfl,q1⟩:=q.one
  cases q1 with
  | tup sq dq =>
   obtain⟨e1,e2,e3⟩:=zci (a:=0) fh dq hz k
   rw[e1] at sq
   exact .inr ⟨_,_,rfl,fh.seqT sq,e2,λp ms hp pm sm=>e3 ms pm sm p hp⟩
theorem zde (hg:Gl X "list")(hm:X.mg "list" = none)(hv:bootBuiltins "list" = some (.type "list"))(h:XE X cl E e fa)(hs:starEach [e] X.env=(false,eval e X.env)::starEach [] X.env)(hpl:(backTo pos (starEach [] X.env)).any (·.1)=false:=by rfl):XL X cl E (.Call (.Name "list" p) [e] [] pos) (fL znC (zj fa zE)):=by
 obtain⟨t,pt,rt⟩:=(zf h zu hs).ex
 refine⟨_,zeA zep hg hm hv pt (by decide) (by decide) hs hpl,λH0 F0 ρ σ H F Q R o=>rt H0 F0 ρ σ H F _ R (OutA.fstA o λds vs H1 F1 g q o1=>?_)⟩
 obtain⟨z,hz,k⟩:=o1.lf
 have fh:=(R.grow g).fh
 match ds,q,hz with
 | [.lst l],q,hz =>
  obtain⟨v,rfl,q1⟩:=q.one
  obtain rfl:=lq hz
  cases q1 with
  | lst sq dq=>exact⟨_,_,rfl,.inl (fh.seq sq),λp hp=>k _ _ _ (Gr.refl fh) dq p hp⟩
 | [.tup l],q,hz =>
  obtain⟨v,rfl,q1⟩:=q.one
  obtain rfl:=lq hz
  cases q1 with
  | tup sq dq=>exact⟨_,_,rfl,.inr (fh.seqT sq),λp hp=>k _ _ _ (Gr.refl fh) dq p hp⟩
theorem zbD {pos':Pos}(hN:X.N.Nodup)(hi:X.N[i]? = some x)(hx:Loc X.env.scope x)(he:XL X cl E e fs)(hs:swapsWith e (some (.Name x pos')) pos.line X.env=pure false:=by rfl)(hf:X.fn x=true∨X.env.scope.names.lookup x=some .local:=by first|exact .inl rfl|exact .inr rfl|assumption) :
  XS X cl E (.Assign [.Name x pos'] e pos) (wR i fs):=by
 obtain⟨t,pt,rt⟩:=he
 refine XS'.out ⟨_,zfA hN hi hx pt hs hf,λH0 F0 ρ σ H F Dn R o=>rt H0 F0 ρ σ H F _ R ?_⟩
 unfold wR at o
 cases e:fs ρ with
 | ok d=>rw[e] at o;exact λvs H' F' gg q p hp=>o _ _ F' ((R.grow gg).setO hp q) gg.ff
 | ex n=>rw[e] at o;exact o
 | no=>rw[e] at o;exact o
theorem zbv {o:Expr}(ho:PE X o (zkv i))(ha:XE X cl E e fa)(m:Mth X o e "append" apos cpos)(hs:swapsWith (.Call (.Attribute o "append" apos) [e] [] cpos) none pos.line X.env=pure false:=by rfl):XS X cl E (.Expr (.Call (.Attribute o "append" apos) [e] [] cpos) pos) (zaU i fa):=by
 obtain⟨u,pu,ru⟩:=ha.ex
 refine XS'.out ⟨_,zfp (zd3 lbr PySem.F.slot_list_append PySem.F.type_list_append ziK ho (yX pu vX m.hs) m.base m.few m.line m.hs m.plain) hs,λH0 F0 ρ σ H F Dn R oo=>?_⟩
 unfold zaU at oo
 cases hw:owL ρ i with
 | none=>rw[hw] at oo;exact oo.elim
 | some ds =>
  rw[hw] at oo
  have hd:=za4 hw
  obtain⟨a,vs,h1,h2,h3,h4,h5⟩:=R.ow i ds hd
  refine⟨.ref a,h1,.inl ⟨rfl,vs,.inl (.inl h2)⟩,ru H0 F0 ρ σ H F _ R ?_⟩
  cases e:fa ρ with
  | ok d =>
   simp only[e] at oo
   split at oo
   ·rename_i hl
    intro v H1 F1 g q
    have R1:=R.grow g
    refine⟨a,vs,v,rfl,rfl,g.hh _ _ h2,?_,?_⟩
    ·rw[h5.length,lbg];omega
    ·exact oo _ _ F1 (R1.put hd h1 ((h5.mono g.ff).append (.cons q .nil))) g.ff
   ·exact oo.elim
  | ex n=>simp only[e] at oo;exact oo
  | no=>simp only[e] at oo;exact oo.elim
def zdn (i j:Nat)(f:qQ5):Rho->Out:=λρ=>match owL ρ i with
 | some ds=>(match f ρ with | .ok (.int k)=>(if 0<=k/\k<1000000 then(match ds[k.toNat]? with|some d=>.nx ((ρ.set i (.ow (ds.eraseIdx k.toNat))).set j (.fz d))|none=>.no) else .no) | .ex n=>.ex n|_=>.no)
 | none=>.no
theorem Dts.erase {K:qQ0}:∀{vs:List V}{ds:List D} (k:Nat),Dts K cl F vs ds->Dts K cl F (vs.eraseIdx k) (ds.eraseIdx k)
 | _,_,_,.nil=>.nil
 | _,_,0,.cons _ r=>r
 | _,_,k+1,.cons q r=>.cons q (Dts.erase k r)
theorem znj {o:Expr}{py:Pos}(hN:X.N.Nodup)(hj:X.N[j]? = some y)(hy:Loc X.env.scope y)(ho:PE X o (zkv i))(ha:XE X cl E e fa)(m:Mth X o e "pop" apos cpos)(hs:swapsWith (.Call (.Attribute o "pop" apos) [e] [] cpos) (some (.Name y py)) pos.line X.env=pure false:=by rfl)(hf:X.fn y=true∨X.env.scope.names.lookup y=some .local:=by first|exact .inl rfl|exact .inr rfl|assumption) :
  XS X cl E (.Assign [.Name y py] (.Call (.Attribute o "pop" apos) [e] [] cpos) pos) (zdn i j fa):=by
 obtain⟨u,pu,ru⟩:=ha.ex
 refine XS'.out ⟨_,zfA hN hj hy (zd3 lbr PySem.F.slot_list_pop PySem.F.type_list_pop zi8 ho (yX pu vX m.hs) m.base m.few m.line m.hs m.plain) hs hf,λH0 F0 ρ σ H F Dn R oo=>?_⟩
 unfold zdn at oo
 cases hw:owL ρ i with
 | none=>rw[hw] at oo;exact oo.elim
 | some ds =>
  rw[hw] at oo
  have hd:=za4 hw
  obtain⟨a,vs,h1,h2,h3,h4,h5⟩:=R.ow i ds hd
  refine⟨.ref a,h1,.inl ⟨rfl,vs,.inl (.inl h2)⟩,ru H0 F0 ρ σ H F _ R ?_⟩
  cases e:fa ρ with
  | ok d =>
   simp only[e] at oo
   intro v H1 F1 g q
   cases q with
   | int k =>
    dsimp only at oo
    split at oo
    ·rename_i hk
     cases hg:ds[k.toNat]? with
     | none=>simp only[hg] at oo;exact oo.elim
     | some d =>
      simp only[hg] at oo
      have R1:=R.grow g
      have h5':=h5.mono g.ff
      obtain⟨w,hw1,hw2⟩:=h5'.get' hg
      have hlt:k.toNat<vs.length:=(lO.mp hw1).1
      refine⟨a,vs,k,k.toNat,w,rfl,rfl,g.hh _ _ h2,by omega,by omega,?_,hw1,?_⟩
      ·exact seqIndex_of hk.1 (by omega)
      ·exact oo _ _ F1 ((R1.put hd h1 (h5'.erase _)).set hw2) g.ff
    ·exact oo.elim
   | _=>exact oo.elim
  | ex n=>simp only[e] at oo;exact oo
  | no=>simp only[e] at oo;exact oo.elim
end
section
variable {X:Cx}{cl:Nat->Addr}{E:XK}{e o a b c:Expr}{es:List Expr}{fa fb fc:qQ5}{fs:qQ4}{x y:Str}{p pos:Pos}
theorem zl1 {px py tp:Pos}(hg:PG X (.Tuple [.Name x px,.Name y py] k tp) (zmB X.K 2 (zbG (uq i) (zbG (uq j) zmC))))(he:XE X cl E e fa)(hs:swapsWithSole [.Tuple [.Name x px,.Name y py] k tp] e pos.line X.env=pure false:=by rfl)(hw:swappedStores [.Tuple [.Name x px,.Name y py] k tp] e X.env=pure none:=by rfl) :
  XS X cl E (.Assign [.Tuple [.Name x px,.Name y py] k tp] e pos) (qG i j fa):=by
 obtain⟨t,pt,rt⟩:=he.ex
 refine XS'.out ⟨_,zob pt hg hs hw,λH0 F0 ρ σ H F Dn R o=>rt H0 F0 ρ σ H F _ R ?_⟩
 unfold qG at o
 cases e:fa ρ with
 | ok d =>
  rw[e] at o
  intro v H' F' g q
  match d,q,o with
  | .tup [d1,d2],q,o =>
   cases q with
   | tup sq dq =>
    obtain⟨v1,v2,rfl,q1,q2⟩:=dq.two
    have R1:=R.grow g
    exact⟨_,_,rfl,R1.fh.seqT sq,rfl,v1,_,rfl,v2,_,rfl,rfl,o _ _ F' ((R1.set q1).set q2) g.ff⟩
  | .non,_,o=>exact o.elim
  | .bl _,_,o=>exact o.elim
  | .int _,_,o=>exact o.elim
  | .str _,_,o=>exact o.elim
  | .lst _,_,o=>exact o.elim
  | .dct _,_,o=>exact o.elim
  | .exc _,_,o=>exact o.elim
  | .tup [],_,o=>exact o.elim
  | .tup [_],_,o=>exact o.elim
  | .tup (_::_::_::_),_,o=>exact o.elim
 | ex n=>rw[e] at o;exact o
 | no=>rw[e] at o;exact o
def fCh (g g':D->D->Option D)(fa fb fc:qQ5):qQ5:=λρ=>(fa ρ).bind λa=>(fb ρ).bind λb=>(lf (g a b)).bind λz=>(tru z).bind λk=>if k=true then(fc ρ).bind λc=>lf (g' b c) else .ok (.bl false)
theorem zdA {g g':D->D->Option D}{ta tb tc:TE}(hg:Op2 X.K cl r g)(hg':Op2 X.K cl r' g')(R:Rl X.K cl H0 F0 ρ σ H F)
  (ra:∀(H0 F0:Hp) (ρ:Rho) (σ:St) (H F:Hp) (Q:VK),Rl X.K cl H0 F0 ρ σ H F->OutE X.K cl E H0 F H (fa ρ) Q->ta σ H Q) (rb:∀(H0 F0:Hp) (ρ:Rho) (σ:St) (H F:Hp) (Q:VK),Rl X.K cl H0 F0 ρ σ H F->OutE X.K cl E H0 F H (fb ρ) Q->tb σ H Q) (rc:∀(H0 F0:Hp) (ρ:Rho) (σ:St) (H F:Hp) (Q:VK),Rl X.K cl H0 F0 ρ σ H F->OutE X.K cl E H0 F H (fc ρ) Q->tc σ H Q)
  (o:OutE X.K cl E H0 F H (fCh g g' fa fb fc ρ) Q):zhf r r' ta tb tc σ H Q:=by
 refine ra H0 F0 ρ σ H F _ R (OutE.fst o λd v H1 F1 g1 q o1=>?_)
 refine rb H0 F0 ρ σ H1 F1 _ (R.grow g1) (OutE.fst o1 λd2 v2 H2 F2 g2 q2 o2=>?_)
 have R2:=(R.grow g1).grow g2
 cases hz:g d d2 with
 | none=>rw[hz] at o2;exact o2.elim
 | some z =>
  rw[hz] at o2
  refine hg F2 H2 v v2 d d2 z _ R2.fh (q.mono g2.ff) q2 hz λw H3 F3 g3 q3=>?_
  obtain⟨k,rfl,o3⟩:=OutE.tru (F1:=F3) (H1:=H3) q3 (OutE.grow (r:=(tru z).bind _) o2 g3)
  refine⟨k,rfl,?_⟩
  have R3:=R2.grow g3
  cases k with
  | false=>exact o3.okI R3.fh (.bl _)
  | true =>
   refine rc H0 F0 ρ σ H3 F3 _ R3 (OutE.fst o3 λd4 v4 H4 F4 g4 q4 o4=>?_)
   obtain⟨z2,hz2,k2⟩:=o4.lf
   exact hg' F4 H4 v2 v4 d2 d4 z2 _ (R3.grow g4).fh (q2.mono (g3.trans g4).ff) q4 hz2 k2
theorem zjU {op':CmpOp}{g g':D->D->Option D}(ho:OpR X (compareOp op) r)(ho':OpR X (compareOp op') r')(hg:Op2 X.K cl r g)(hg':Op2 X.K cl r' g')(ha:XE X cl E a fa)(hb:XE X cl E b fb)(hc:XE X cl E c fc)(hm:lastMarks [op,op'] [b,c]=false:=by with_unfolding_all rfl):XE X cl E (.Compare a [op,op'] [b,c] pos) (fCh g g' fa fb fc):=by
 obtain⟨t,pt,rt⟩:=ha.ex
 obtain⟨u,pu,ru⟩:=hb.ex
 obtain⟨w,pw,rw'⟩:=hc.ex
 exact XE'.out ⟨_,zjt ho ho' pt pu pw hm,λH0 F0 ρ σ H F Q R o=>zdA hg hg' R rt ru rw' o⟩
theorem zjk {op':CmpOp}{g g':D->D->Option D}(ho:OpR X (compareOp op) r)(ho':OpR X (compareOp op') r')(hg:Op2 X.K cl r g)(hg':Op2 X.K cl r' g')(ha:XE X cl E a fa)(hb:XE X cl E b fb)(hc:XE X cl E c fc)(hm:lastMarks [op,op'] [b,c]=false:=by with_unfolding_all rfl):XT X cl E (.Compare a [op,op'] [b,c] pos) (bT (fCh g g' fa fb fc)):=by
 obtain⟨t,pt,rt⟩:=ha.ex
 obtain⟨u,pu,ru⟩:=hb.ex
 obtain⟨w,pw,rw'⟩:=hc.ex
 exact XT'.out ⟨_,zjm ho ho' pt pu pw hm,λH0 F0 ρ σ H F Q R o=>zdA hg hg' R rt ru rw' (OutB.bT R o)⟩
end
def fL1 (g:D->Option (List D))(fa:qQ5):qQ4:=λρ=>(fa ρ).bind λa=>lf' (g a)
section
variable {X:Cx}{cl:Nat->Addr}{E:XK}{e o a b c:Expr}{es:List Expr}{fa fb fc:qQ5}{fs:qQ4}{x y:Str}{p pos:Pos}
def zaP (i:Nat):Rho->Out:=λρ=>.nx (ρ.set i (.od []))
def odL (ρ:Rho)(i:Nat):Option (List (List Nat×D)):=match ρ[i]? with|some (.od ds)=>some ds|_=>none
def putD (kvs:List (List Nat×D))(k:List Nat)(v:D):List (List Nat×D):=if (kvs.any λkv=>decide (kv.1=k))=true then kvs.map (λkv=>if kv.1=k then(kv.1,v) else kv) else kvs++[(k,v)]
theorem Dks.any {K:qQ0}{k:List Nat}:∀{vs:List (Key×V)}{ds:List (List Nat×D)},Dks K cl F vs ds->(vs.any λkv=>decide (kv.1=Sum.inr (T k)))=(ds.any λkv=>decide (kv.1=k))
 | _,_,.nil=>rfl
 | _,_,.cons (l:=l) ok q r=>by
  rw[lcM,lcM,Dks.any r]
  congr 1
  by_cases h:l=k
  ·subst h;simp
  ·rw[laa h,laa]
   intro z;injection z with z;exact h (zma z)
theorem Dks.length {K:qQ0}:∀{vs:List (Key×V)}{ds:List (List Nat×D)},Dks K cl F vs ds->vs.length=ds.length
 | _,_,.nil=>rfl
 | _,_,.cons _ _ r=>by simp[r.length]
theorem Dks.keys {K:qQ0}:∀{vs:List (Key×V)}{ds:List (List Nat×D)},Dks K cl F vs ds->vs.map (·.1)=(ds.map (·.1)).map λl=>(Sum.inr (T l):Key)
 | _,_,.nil=>rfl
 | _,_,.cons _ _ r=>by simp[r.keys]
def zgU (i:Nat)(fk fv:qQ5):Rho->Out:=λρ=>match odL ρ i with
 | some ds=>(match fv ρ with
  | .ok v=>(match fk ρ with | .ok (.str k)=>if ds.length<1000000 then .nx (ρ.set i (.od (putD ds k v))) else .no | .ex n=>.ex n|_=>.no)
  | .ex n=>.ex n
  | .no=>.no)
 | none=>.no
def fSD (i:Nat):qQ4:=λρ=>match odL ρ i with
 | some ds=>if ds.length<64 then .ok ((My.sortF (ds.map (·.1))).map .str) else .no
 | none=>.no
end
def sRs (n:Nat)(fs:qQ4):Rho->Out:=λρ=>match fs ρ with | .ok ds=>if ds.length<=3 then .ex n else .no | .ex m=>.ex m | .no=>.no
section
variable {P:Program}{w:World}{K:qQ0}{mg:qQ3}{base:Heap}{N:List Str}{qual:Str}{scope:Scope}{f:Addr}{cd:Value}{A:Around}{outer:List Env}{s₁:Shared}{H₁:Hp}{E:XK}{cl:Nat->Addr}
theorem zaZ {e₀:Expr}{fs:qQ4}(O:Own K mg x)(hO:O.C=cl n)(hg:Gl (je (CX1 P w) P w K mg base N qual scope f cd A outer s₁ H₁ E) x)(ha:XA (je (CX1 P w) P w K mg base N qual scope f cd A outer s₁ H₁ E) cl E [e₀] fs)
  (he:starEach [e₀] (je (CX1 P w) P w K mg base N qual scope f cd A outer s₁ H₁ E).env=(false,eval e₀ (je (CX1 P w) P w K mg base N qual scope f cd A outer s₁ H₁ E).env)::starEach [] (je (CX1 P w) P w K mg base N qual scope f cd A outer s₁ H₁ E).env) (hd:(x == ("__debug__" : Str))=false:=by decide) :
  XS (je (CX1 P w) P w K mg base N qual scope f cd A outer s₁ H₁ E) cl E (.Raise (some (.Call (.Name x np) [e₀] [] cpos)) none pos) (sRs n fs):=by
 obtain⟨t,pt,rt⟩:=ha.ex
 refine XS'.out ⟨_,zjA O hg pt he rfl hd,λH0 F0 ρ σ H F Dn R o=>rt H0 F0 ρ σ H F _ R ?_⟩
 unfold sRs at o
 cases e:fs ρ with
 | ok ds =>
  rw[e] at o
  intro vs H' F' g q
  dsimp only at o
  split at o
  ·rename_i hl
   refine⟨q.length▸hl,?_⟩
   rw[hO]
   exact o H' (R.gr.hh.trans g.hh)
  ·exact o.elim
 | ex n=>rw[e] at o;exact o
 | no=>rw[e] at o;exact o
end
def z8 (m:Nat)(g:Rho->Out)(ds:List D):Rs D:=match g (ds.map .fz++List.replicate (m - ds.length) .no) with | .nx _=>.ok .non | .rt d=>.ok d | .ex n=>.ex n|_=>.no
theorem Rl.start {K:qQ0}{ds:List D}(s:Same F H)(q:Dts K cl F vs ds):Rl K cl H F (ds.map .fz++List.replicate (N.length - ds.length) .no) (L2.start N vs) H F:=by
 have shape:∀(i:Nat) (s:Sl),(ds.map Sl.fz++List.replicate (N.length - ds.length) Sl.no)[i]? = some s->(∃d,s=.fz d/\ds[i]? = some d)∨s=.no:=λi s e=>by
  rcases lcd i ds.length with h|h
  ·rw[la2 (by simpa using h),lJ,lh h] at e
   exact .inl ⟨ds[i],(lq e).symm,lh h⟩
  ·rw[laM (by simpa using h),lbm] at e
   split at e
   ·exact .inr (lq e).symm
   ·cases e
 refine⟨Gr.refl s,by unfold L2.start;simp[q.length],λi d e=>?_,λi d e o=>?_,λi j s t a z1 z2 o1 o2 e1 e2=>?_⟩
 ·rcases shape i _ e with⟨d',e1,e2⟩|e1
  ·injection e1 with e1;subst e1
   obtain⟨v,h1,h2⟩:=q.get' e2
   refine⟨v,?_,h2⟩
   unfold L2.start
   have hi:=(lO.mp h1).1
   rw[la2 (by simpa using hi),lJ,h1];rfl
  ·cases e1
 ·rcases shape i _ e with⟨d',rfl,_⟩|rfl <;>cases o
 ·rcases shape i _ z1 with⟨d',rfl,_⟩|rfl <;>cases o1
theorem fnD {P:Program}{w:World}{K:qQ0}{base:Heap}{qual:Str}{st:Stmt}{f:Addr}{m:Nat}{g:Rho->Out}(Fu:Fun K x qual st f fd)(S:FnScope N ps (zq st))(hm:N.length=m)(hn:ps.length=n)
  (hb:∀(cdv:Value) (A:Around) (outer:List Env) (s:Shared) (H:Hp) (E:XK),Room k (A.deeper (envOfC qual (zq st) s.heap.objs.size f cdv))->XSs (je (CX1 P w) P w K mg base N qual (zq st) f cdv A outer s H E) cl E (xP st) g):FnOk P w K mg base (CX1 P w) (k+1) f fd ps (spD K cl (z8 m g) n):=by
 subst hm hn
 refine Fu.okX S (λvs H Q E h=>h.choose_spec.choose_spec.2.2.1) λcdv A outer s H vs Q E hr h=>?_
 obtain⟨F,ds,sm,dq,hl,o⟩:=h
 refine⟨_,hb cdv A outer s H E hr,H,F,_,F,Rl.start (N:=N) sm dq,?_⟩
 unfold z8 at o
 cases e:g (ds.map .fz++List.replicate (N.length - ds.length) .no) with
 | nx ρ=>rw[e] at o;exact λσ H' F' R _=>o .non H' F' R.gr .non
 | rt d=>rw[e] at o;exact λv H' F' gg q=>o v H' F' gg q
 | bk ρ=>rw[e] at o;exact o.elim
 | ct ρ=>rw[e] at o;exact o.elim
 | ex n=>rw[e] at o;exact o
 | no=>rw[e] at o;exact o
def forZ (i j:Nat)(g:Rho->Out):List D->List D->Rho->Out
 | d::ds,e::es,ρ=>match g ((ρ.set i (.fz d)).set j (.fz e)) with | .nx ρ'=>forZ i j g ds es ρ' | .ct ρ'=>forZ i j g ds es ρ' | .bk ρ'=>.nx ρ'|o=>o
 | _,_,ρ=>.nx ρ
def qm (i j:Nat)(fa fb:qQ5)(g:Rho->Out):Rho->Out:=λρ=>match (fa ρ),(fb ρ) with
 | .ok (.tup ds),.ok (.tup es)=>forZ i j g ds es ρ
 | _,_=>.no
section
variable {X:Cx}{cl:Nat->Addr}{E:XK}{a b:Expr}{fa fb:qQ5}{g:Rho->Out}{p pos zpos tp px py:Pos}{x y:Str}{k:Nat}{body:List Stmt}
theorem zhy {K:qQ0}{Dn:Ends}(o:OutS K cl E H0 F0 F (qm i j fa fb g ρ) Dn):∃ds es,fa ρ=.ok (.tup ds)/\fb ρ=.ok (.tup es)/\OutS K cl E H0 F0 F (forZ i j g ds es ρ) Dn:=by
 unfold qm at o
 split at o
 ·rename_i ds es e1 e2;exact⟨ds,es,e1,e2,o⟩
 ·exact o.elim
theorem zlS (hp:PassesOwn (model X.prog X.w) X.A X.env X.xe)(hc:X.calm=true)(hz:Gl X "zip")(hm:X.mg "zip" = none)(ha:XE X cl E a fa)(hb:XE X cl E b fb)(hg:PG X (.Tuple [.Name x px,.Name y py] k tp) (zmB X.K 2 (zbG (uq i) (zbG (uq j) zmC))))(hbd:XSs X cl E body g)(hs:starEach [a,b] X.env=[(false,eval a X.env),(false,eval b X.env)])(hs2:starEach [b] X.env=[(false,eval b X.env)]):XS X cl E (.For (.Tuple [.Name x px,.Name y py] k tp) (.Call (.Name "zip" p) [a,b] [] zpos) body [] pos) (qm i j fa fb g):=by
 obtain⟨t,pt,rt⟩:=ha.ex
 obtain⟨u,pu,ru⟩:=hb.ex
 obtain⟨w,pw,rw'⟩:=hbd.ex
 refine XS'.out ⟨_,zkR hp hc (zgc hz hm pt pu hs hs2) hg pw,λH0 F0 ρ σ H F Dn R o=>rt H0 F0 ρ σ H F _ R ?_⟩
 obtain⟨ds,es,e1,e2,o'⟩:=zhy o
 rw[e1]
 intro v1 H1 F1 g1 q1
 have R1:=R.grow g1
 refine ru H0 F0 ρ σ H1 F1 _ R1 ?_
 rw[e2]
 intro v2 H2 F2 g2 q2
 have R2:=R1.grow g2
 cases q1 with
 | tup sq1 dq1 =>
  cases q2 with
  | tup sq2 dq2 =>
   have sq1':=g2.ff.seqT sq1
   have dq1':=dq1.mono g2.ff
   refine⟨_,_,_,_,rfl,R2.fh.seqT sq1',R2.fh.seqT sq2,?_⟩
   refine zl3 (λm σ' H'=>∃ρ' F',Rl X.K cl H0 F0 ρ' σ' H' F'/\Same F2 F'/\OutS X.K cl E H0 F0 F' (forZ i j g (ds.drop m) (es.drop m) ρ') Dn) ⟨ρ,F2,R2,Same.refl _,o'.grow (g1.ff.trans g2.ff)⟩ (λm σ' H' ⟨ρ',F',R',s',_⟩=>⟨(s'.trans R'.fh).seqT sq1',(s'.trans R'.fh).seqT sq2⟩) ?_ ?_
   ·rintro m z1 z2 pp σ' H' hx hy hpp ⟨ρ',F',R',s',o3⟩
    obtain⟨c1,hd1,qd1⟩:=dq1'.get hx
    obtain⟨c2,hd2,qd2⟩:=dq2.get hy
    have r1:ds.drop m=c1::ds.drop (m+1):=by
     obtain⟨hk,e3⟩:=lO.mp hd1
     rw[laB hk,e3]
    have r2:es.drop m=c2::es.drop (m+1):=by
     obtain⟨hk,e3⟩:=lO.mp hd2
     rw[laB hk,e3]
    rw[r1,r2] at o3
    unfold forZ at o3
    have R4:=R'.grow (Gr.newO (o:=.tup [z1,z2]) R'.fh hpp)
    refine⟨pp,[z1,z2],rfl,.inl (.inl zV),rfl,z1,_,rfl,z2,_,rfl,rfl,rw' H0 F0 _ _ _ F' _ ((R4.set (qd1.mono s')).set (qd2.mono s')) ?_⟩
    cases e4:g ((ρ'.set i (.fz c1)).set j (.fz c2)) with
    | nx ρ2=>simp only[e4] at o3;exact λσ2 H2 F2 R2 s2=>⟨ρ2,F2,R2,s'.trans s2,o3.grow s2⟩
    | ct ρ2=>simp only[e4] at o3;exact λσ2 H2 F2 R2 s2=>⟨ρ2,F2,R2,s'.trans s2,o3.grow s2⟩
    | bk ρ2=>simp only[e4] at o3;exact o3
    | rt d=>simp only[e4] at o3;exact o3
    | ex n=>simp only[e4] at o3;exact o3
    | no=>simp only[e4] at o3;exact o3
   ·rintro σ' H' ⟨ρ',F',R',s',o3⟩
    rw[dq1'.length,dq2.length] at o3
    have e5:forZ i j g (ds.drop (min ds.length es.length)) (es.drop (min ds.length es.length)) ρ'=.nx ρ':=by
     rcases Nat.le_total ds.length es.length with h|h
     ·rw[lco h,lav (lB ds.length)];unfold forZ;rfl
     ·rw[ldU h,lav (lB es.length)]
      cases ds.drop es.length <;>(unfold forZ;rfl)
    rw[e5] at o3
    exact o3 σ' H' F' R' (Same.refl _)
def qp (ft:qQ6)(fe:qQ5)(ρ0:Rho):List D->List D->Rs (List D)
 | d::ds,c::cs=>match ft ((ρ0.set 0 (.fz d)).set 1 (.fz c)) with
  | .ok true=>(match fe ((ρ0.set 0 (.fz d)).set 1 (.fz c)) with | .ok e=>(qp ft fe ρ0 ds cs).bind λes=>.ok (e::es)|_=>.no)
  | .ok false=>qp ft fe ρ0 ds cs
  | _=>.no
 | _,_=>.ok []
def fCz (fa fb:qQ5)(ft:qQ6)(fe:qQ5)(caps:List Nat):qQ4:=λρ=>match fa ρ,fb ρ with
 | .ok (.tup ds),.ok (.tup cs)=>(match qp ft fe (xT 2 caps ρ) ds cs with | .ok es=>if ds.length<=1000000 then .ok es else .no|_=>.no)
 | _,_=>.no
variable {scope:Scope}{caps:List Nat}{elt:Expr}{ifs:List Expr}{ft:qQ6}{fe:qQ5}
structure CompZ (X:Cx)(cl:Nat->Addr)(scope:Scope)(x y:Str)(caps:List Nat)(tg:Expr)(ifs:List Expr)(elt:Expr)(ft:qQ6)(fe:qQ5):Prop where
 tgt:∀pins C ex s H,PG (cxC X pins scope [x,y] caps C ex s H) tg (zmB X.K 2 (zbG (uq 0) (zbG (uq 1) zmC)))
 tst:∀pins C ex s H,XTs (cxC X pins scope [x,y] caps C ex s H) cl E0 ifs ft
 elm:∀pins C ex s H,XE (cxC X pins scope [x,y] caps C ex s H) cl E0 elt fe
theorem zl6 {K:qQ0}{Q:List V->Hp->Prop}(o:OutA K cl E H0 F H (fCz fa fb ft fe caps ρ) Q):∃ds cs es,fa ρ=.ok (.tup ds)/\fb ρ=.ok (.tup cs)/\qp ft fe (xT 2 caps ρ) ds cs=.ok es/\ds.length<=1000000/\OutA K cl E H0 F H (.ok es) Q:=by
 unfold fCz at o
 split at o
 ·rename_i ds cs e1 e2
  split at o
  ·rename_i es e3
   split at o
   ·rename_i hl;exact⟨ds,cs,es,e1,e2,e3,hl,o⟩
   ·exact o.elim
  ·exact o.elim
 ·exact o.elim
theorem zjJ (ok:CompOk X scope caps)(hc:X.calm=true)(hz:Gl X "zip")(hm:X.mg "zip" = none)(ha:XE X cl E a fa)(hb:XE X cl E b fb)(CI:CompZ X cl scope x y caps (.Tuple [.Name x px,.Name y py] k tp) ifs elt ft fe)(hs:starEach [a,b] X.env=[(false,eval a X.env),(false,eval b X.env)])(hs2:starEach [b] X.env=[(false,eval b X.env)]) :
  XL X cl E (.ListComp elt [⟨.Tuple [.Name x px,.Name y py] k tp,.Call (.Name "zip" p) [a,b] [] zpos,ifs,0⟩] scope pos) (fCz fa fb ft fe caps):=by
 obtain⟨t,pt,rt⟩:=ha.ex
 obtain⟨u,pu,ru⟩:=hb.ex
 refine⟨_,ze4 ok hc (zgc hz hm pt pu hs hs2) (g:=zmB X.K 2 (zbG (uq 0) (zbG (uq 1) zmC))) (tt:=tDB X.K cl E0 ft) (te:=tDE X.K cl E0 fe) ⟨CI.tgt,CI.tst,CI.elm⟩,λH0 F0 ρ σ H F Q R o=>rt H0 F0 ρ σ H F _ R ?_⟩
 obtain⟨ds,cs,es,e1,e2,hcz,hl,o⟩:=zl6 o
 rw[e1]
 intro v1 H1 F1 g1 q1
 have R1:=R.grow g1
 refine ru H0 F0 ρ σ H1 F1 _ R1 ?_
 rw[e2]
 intro v2 H2 F2 g2 q2
 have R2:=R1.grow g2
 cases q1 with
 | tup sq1 dq1 =>
  cases q2 with
  | tup sq2 dq2 =>
   have sq1':=g2.ff.seqT sq1
   have dq1':=dq1.mono g2.ff
   refine⟨_,_,_,_,rfl,R2.fh.seqT sq1',R2.fh.seqT sq2,?_⟩
   refine zhQ (sz6 (dq1'.length▸hl)) (λm ys H'=>∃F' es1 es2,Gr F2 H2 F' H'/\Dts X.K cl F' ys es1/\ys.length<=m/\es=es1++es2/\qp ft fe (xT 2 caps ρ) (ds.drop m) (cs.drop m)=.ok es2) ⟨F2,[],es,Gr.refl R2.fh,.nil,lB _,rfl,hcz⟩ (λm ys H' ⟨F',_,_,gg,_,h1,_⟩=>⟨(gg.ff.trans gg.fh).seqT sq1',(gg.ff.trans gg.fh).seqT sq2,h1⟩) ?_ ?_
   ·rintro m z1 z2 pp ys H' hx hy hpp ⟨F',es1,es2,gg,qs,hly,rfl,hc'⟩
    obtain⟨c1,hd1,qd1⟩:=dq1'.get hx
    obtain⟨c2,hd2,qd2⟩:=dq2.get hy
    have r1:ds.drop m=c1::ds.drop (m+1):=by
     obtain⟨hk,e3⟩:=lO.mp hd1
     rw[laB hk,e3]
    have r2:cs.drop m=c2::cs.drop (m+1):=by
     obtain⟨hk,e3⟩:=lO.mp hd2
     rw[laB hk,e3]
    rw[r1,r2] at hc'
    unfold qp at hc'
    have gz:Gr F' H' F' (upd H' pp (.tup [z1,z2])):=Gr.newO (gg.fh) hpp
    have Rz:=((R2.grow gg).grow gz).cap [x,y] caps
    have Rw:Rl X.K cl (upd H' pp (.tup [z1,z2])) F' (((xT 2 caps ρ).set 0 (.fz c1)).set 1 (.fz c2)) (((zdm [x,y] caps σ).set 0 (some z1)).set 1 (some z2)) (upd H' pp (.tup [z1,z2])) F':=(Rz.set (qd1.mono gg.ff)).set (qd2.mono gg.ff)
    refine⟨pp,[z1,z2],rfl,.inl (.inl zV),rfl,z1,_,rfl,z2,_,rfl,rfl,?_,_,F',_,F',Rw,?_⟩
    ·exact(Kps.set rfl).trans (Kps.set rfl)
    ·cases e3:ft (((xT 2 caps ρ).set 0 (.fz c1)).set 1 (.fz c2)) with
     | ok bb =>
      rw[e3] at hc'
      intro H3 F3 g3
      cases bb with
      | true =>
       rw[lU rfl]
       cases e4:fe (((xT 2 caps ρ).set 0 (.fz c1)).set 1 (.fz c2)) with
       | ok ee =>
        simp only[e4] at hc'
        refine⟨_,F',_,F3,Rw.grow g3,?_⟩
        rw[e4]
        intro yy H4 F4 g4 qy
        cases e5:qp ft fe (xT 2 caps ρ) (ds.drop (m+1)) (cs.drop (m+1)) with
        | ok es3 =>
         rw[e5] at hc'
         injection hc' with hc'
         exact⟨F4,es1++[ee],es3,gg.trans (gz.trans (g3.trans g4)),(qs.mono (g3.ff.trans g4.ff)).append (.cons qy .nil),by simp;exact hly,by rw[← hc',la3];rfl,rfl⟩
        | ex n=>rw[e5] at hc';cases hc'
        | no=>rw[e5] at hc';cases hc'
       | ex n=>simp only[e4] at hc';cases hc'
       | no=>simp only[e4] at hc';cases hc'
      | false =>
       rw[lac lH]
       exact⟨F3,es1,es2,gg.trans (gz.trans g3),qs.mono g3.ff,Nat.le_succ_of_le hly,rfl,hc'⟩
     | ex n=>rw[e3] at hc';cases hc'
     | no=>rw[e3] at hc';cases hc'
   ·rintro ys H' ⟨F',es1,es2,gg,qs,hly,rfl,hc'⟩
    rw[dq1'.length,dq2.length] at hc'
    have e5:qp ft fe (xT 2 caps ρ) (ds.drop (min ds.length cs.length)) (cs.drop (min ds.length cs.length))=.ok []:=by
     rcases Nat.le_total ds.length cs.length with h|h
     ·rw[lco h,lav (lB ds.length)];unfold qp;rfl
     ·rw[ldU h,lav (lB cs.length)]
      cases ds.drop cs.length <;>(unfold qp;rfl)
    rw[e5] at hc'
    injection hc' with hc'
    rw[← hc',lY] at o
    exact o ys H' F' (g1.trans (g2.trans gg)) qs
end
def zpb:D->Option D
 | .int i=>some (.int (-i))
 | _=>none
def fFl (i:Nat)(f:qQ5):qQ5:=λρ=>match owL ρ i with
 | some ds=>(match f (ρ.set i (.fz (.lst ds))) with | .ok d=>if d.fl=true then .ok d else .no | .ex n=>.ex n | .no=>.no)
 | none=>.no
def zgT:D->D->Option (List D)
 | .lst l,.int n=>if 0<=n/\n<=1000/\l.length<=1000 then some (List.replicate n.toNat l).flatten else none
 | _,_=>none
section
variable {X:Cx}{cl:Nat->Addr}{E:XK}{e a b:Expr}{fa fb:qQ5}{pos:Pos}{st:Stmt}
theorem zkf (h:XE X cl E a fa):XE X cl E (.UnaryOp .USub a pos) (f1 zpb fa):=by
 obtain⟨t,pt,rt⟩:=h.ex
 refine XE'.out ⟨_,zo9 zm3 pt,λH0 F0 ρ σ H F Q R o=>rt H0 F0 ρ σ H F _ R (OutE.fst o λd v H1 F1 g q o1=>?_)⟩
 obtain⟨z,hz,k⟩:=o1.lf
 cases q with
 | int i=>obtain rfl:=lq hz;exact⟨i,rfl,k _ _ _ (Gr.refl (R.grow g).fh) (.int _)⟩
 | _=>cases hz
theorem Dt.flatAny {K:qQ0}{F':Hp}{d:D}(q:Dt K cl F v d)(h:d.fl=true):Dt K cl F' v d:=by
 cases q with
 | non=>exact .non
 | bl b=>exact .bl b
 | int i=>exact .int i
 | str l ok=>exact .str l ok
 | _=>cases h
theorem zo6 (h:XE X cl E e fa):XE X cl E e (fFl i fa):=by
 obtain⟨t,pt,rt⟩:=h.ex
 refine XE'.out ⟨_,pt,λH0 F0 ρ σ H F Q R o=>?_⟩
 unfold fFl at o
 cases hw:owL ρ i with
 | none=>rw[hw] at o;exact o.elim
 | some ds =>
  rw[hw] at o
  obtain⟨F1,s1,R1⟩:=R.ice (za4 hw)
  refine rt H0 F0 _ σ H F1 _ R1 ?_
  cases e:fa (ρ.set i (.fz (.lst ds))) with
  | ok d =>
   simp only[e] at o
   split at o
   ·rename_i hf
    exact λv H' F' g q=>o v H' F ⟨Same.refl _,g.hh,R.fh.trans g.hh,λ_ _ _ _ z=>z⟩ (q.flatAny hf)
   ·exact o.elim
  | ex n=>simp only[e] at o;exact o
  | no=>simp only[e] at o;exact o.elim
variable {scope:Scope}{x:Str}{caps:List Nat}{elt tg iter:Expr}{ifs:List Expr}{fi:qQ4}{ft:qQ6}{fe:qQ5}
def zpi (K:qQ0):R2:=λx y H Q=>∃l b xs zs,x=.ref l/\y=.ref b/\SqL K H l xs/\SqL K H b zs/\xs.length+zs.length<=sizeLine/\∀p,H p=none->Q (.ref p) (upd H p (.lst (xs++zs)))
theorem zlF:OpR X (binaryOp .Add) (zpi X.K):=by
 intro pins s σ H x y v u Q I rx ry h
 obtain⟨l,b,xs,zs,rfl,rfl,hH,hB,hz,q⟩:=h
 cases rx
 cases ry
 obtain⟨its,r,⟨o,n,e,hc,hdd,hd⟩,z⟩:=I.list hH
 obtain⟨its2,r2,⟨o2,n2,e2,hc2,hdd2,hd2⟩,z2⟩:=I.list hB
 obtain⟨cls,dd,data,sl⟩:=o
 obtain⟨cls2,dd2,data2,sl2⟩:=o2
 simp only at hc hd hc2 hd2
 subst hc hd hc2 hd2
 refine ldX ⟨_,e,rfl⟩ ⟨_,e2,rfl⟩ noFill_list_add seq_list_add PySem.F.slot_list_add PySem.F.entry_list_add (PySem.F.args_list_add_2 _ _) (list_addW l b its.toArray its2.toArray n n2 dd dd2 sl sl2 (by rw[lP,lP,← r.length,← r2.length];exact hz)) ⟨e,e2,?_⟩
 have ea:its.toArray++its2.toArray=(its++its2).toArray:=by simp
 rw[ea]
 exact⟨.ref _,_,I.lnew (t':=s.toks) (r.append r2) (by rw[lae];omega),rfl,q _ I.fresh⟩
theorem zjB {a b:D}{z:List D}(e:zhN a b=some z):∃l m,a=.lst l/\b=.lst m/\l.length+m.length<=1000000/\z=l++m:=by
 cases a with
 | lst l =>
  cases b with
  | lst m =>
   by_cases h:l.length+m.length<=1000000
   ·exact⟨l,m,rfl,rfl,h,(lq ((lU h).symm.trans e)).symm⟩
   ·cases (lac h).symm.trans e
  | _=>cases e
 | _=>cases e
theorem zeF (ha:XE X cl E a fa)(hb:XE X cl E b fb):XL X cl E (.BinOp a .Add b pos) (fL2 zhN fa fb):=by
 obtain⟨t,pt,rt⟩:=ha.ex
 obtain⟨u,pu,ru⟩:=hb.ex
 refine⟨_,zlr zlF pt pu,λH0 F0 ρ σ H F Q R o=>rt H0 F0 ρ σ H F _ R (OutE.fstA o λd v H1 F1 g q o1=>?_)⟩
 refine ru H0 F0 ρ σ H1 F1 _ (R.grow g) (OutE.fstA o1 λd2 v2 H2 F2 g2 q2 o2=>?_)
 obtain⟨z,hz,k⟩:=o2.lf
 have fh:=(R.grow (g.trans g2)).fh
 have q':=q.mono g2.ff
 obtain⟨l,m,rfl,rfl,hl,rfl⟩:=zjB hz
 cases q' with
 | lst sq dq =>
  cases q2 with
  | lst sq2 dq2=>exact⟨_,_,_,_,rfl,rfl,fh.seq sq,fh.seq sq2,sz6 (by rw[dq.length,dq2.length];exact hl),λp hp=>k _ _ _ (Gr.refl fh) (dq.append dq2) p hp⟩
end
def zdE (K:qQ0):Sp:=λvs H Q _=>∃(a:Addr) (ns:List Int),vs=[.ref a]/\SqL K H a (ns.map V.int)/\ns.length<=63/\∀H',Q (.bl true) H'
theorem zkh {K:qQ0}{fn:List D->Rs D}(h:∀ns:List Int,ns.length<=63->fn [.lst (ns.map .int)]=.ok (.bl true)){E':XK}(hs:zdE K vs H Q E):spD K cl fn 1 vs H Q E':=by
 obtain⟨a,ns,rfl,sq,hl,k⟩:=hs
 refine⟨H,[.lst (ns.map .int)],Same.refl _,.cons (.lst sq (zbA λi _=>.int i)) .nil,rfl,?_⟩
 rw[h ns hl]
 intro v H' F' g q
 cases q
 exact k H'
theorem zpC {us:List α}(h:us.length=1):∃a,us=[a]:=List.length_eq_one_iff.mp h
theorem zpG {us:List α}(h:us.length=2):∃a b,us=[a,b]:=by
 cases us with
 | nil=>cases h
 | cons a t=>obtain⟨b,rfl⟩:=zpC (lc8 h);exact⟨a,b,rfl⟩
theorem zpq {us:List α}(h:us.length=3):∃a b c,us=[a,b,c]:=by
 cases us with
 | nil=>cases h
 | cons a t=>obtain⟨b,c,rfl⟩:=zpG (lc8 h);exact⟨a,b,c,rfl⟩
theorem zpx {us:List α}(h:us.length=4):∃a b c d,us=[a,b,c,d]:=by
 cases us with
 | nil=>cases h
 | cons a t=>obtain⟨b,c,d,rfl⟩:=zpq (lc8 h);exact⟨a,b,c,d,rfl⟩
theorem zpS {us:List α}(h:us.length=5):∃a b c d e,us=[a,b,c,d,e]:=by
 cases us with
 | nil=>cases h
 | cons a t=>obtain⟨b,c,d,e,rfl⟩:=zpx (lc8 h);exact⟨a,b,c,d,e,rfl⟩
def zp8 (ds:List (List Nat×D))(k:List Nat):Option D:=(ds.find? λkv=>decide (kv.1=k)).map (·.2)
def getD:D->D->Option D
 | .dct ds,.str k=>zp8 ds k
 | _,_=>none
section
variable {X:Cx}{cl:Nat->Addr}{E:XK}{e o a b:Expr}{es:List Expr}{fa fb:qQ5}{fs:qQ4}{x:Str}{p pos:Pos}
def zqd:D->Option (List D)
 | .lst ds=>some ds
 | .tup ds=>some ds
 | _=>none
theorem Dts.getDt {K:qQ0}:∀{vs:List V}{ds:List D} (_:Dts K cl F vs ds) (j:Nat),j<ds.length->Dt K cl F (vs.getD j .non) (ds.getD j .non):=by
 intro vs ds
 induction ds generalizing vs with
 | nil=>intro _ j h;cases h
 | cons d ds ih =>
  intro q j h
  cases q with
  | cons r t =>
   cases j with
   | zero=>exact r
   | succ j=>exact ih t j (Nat.lt_of_succ_lt_succ h)
theorem Dt.seq {K:qQ0}{d:D}{ds:List D}(q:Dt K cl F v d)(e:zqd d=some ds):∃(a:Addr) (vs:List V),v=.ref a/\(SqL K F a vs∨SqT K F a vs)/\Dts K cl F vs ds:=by
 cases q with
 | lst sq dq=>obtain rfl:=lq e;exact⟨_,_,rfl,.inl sq,dq⟩
 | tup sq dq=>obtain rfl:=lq e;exact⟨_,_,rfl,.inr sq,dq⟩
 | _=>cases e
def zoR:D->D->Option D
 | .lst ds,.str k=>if ds.all isS=true/\ds.length<=1000/\k∈ds.map unS then some (.int ((ds.map unS).idxOf k:Nat)) else none
 | .tup ds,.str k=>if ds.all isS=true/\ds.length<=1000/\k∈ds.map unS then some (.int ((ds.map unS).idxOf k:Nat)) else none
 | _,_=>none
def zlz:D->Bool
 | .lst _=>true
 | _=>false
def zpJ:D->Bool
 | .tup _=>true
 | _=>false
theorem zhr {k:List Nat}(h:k∈ls):vL (.str (T k))=true/\(vT ls).all vL=true/\(vT ls)[ls.idxOf k]? = some (.str (T k))/\eqV (.str (T k)) (.str (T k))=true /\
  ∀(m:Nat) (w:V),m<ls.idxOf k->(vT ls)[m]? = some w->eqV w (.str (T k))=false:=by
 have hl:=lcp h
 have key:∀x,eqV (.str (T x)) (.str (T k))=(x == k):=λx=>zlP x k
 refine⟨rfl,?_,?_,?_,?_⟩
 ·unfold vT;simp[vL]
 ·unfold vT
  rw[lJ,lh hl,lcj hl];rfl
 ·rw[key];simp
 ·intro m w hm hw
  unfold vT at hw
  have hml:m<ls.length:=by omega
  rw[lJ,lh hml] at hw
  obtain rfl:=lq hw
  have hne:ls[m]≠k:=by
   have:=lcW (p:=(· == k)) (xs:=ls) (i:=m) hm
   simpa using this
  show eqV (.str (T ls[m])) (.str (T k))=false
  rw[key];simp[hne]
def zpV (K:qQ0)(r:V->List V->Hp->VK->Prop)(to:TE)(t:TA):TE:=λσ H Q=>to σ H λx H1=>(∃(a:Addr) (xs:List V),x=.ref a/\SqT K H1 a xs)/\t σ H1 λxs H2=>r x xs H2 Q
theorem znS {to:TE}{t:TA}{name:Str}{id:String}{r:V->List V->Hp->VK->Prop}(pa:PlainAttrs "tuple")(slot:Slot "tuple" name id)(hty:typeOf (.builtin id)=pure (.type "method_descriptor"))(hm:MtR X id r)(ho:PE X o to)(ha:PA X (e::es) t)
  (hbase:attributeBase o name X.env (eval o X.env)=eval o X.env)
  (hfew:((backTo cpos (starEach (e::es) X.env)).all (λx=>!x.1)&&(backToKw cpos (keywordEach [] X.env)).all (λx=>x.1.isSome)
   && decide ((e::es).length+([]:List Keyword).length+(if ([]:List Keyword).isEmpty then 0 else 1)<30))=true)
  (hline:(apos.endLine == cpos.line)=true) (hs:starEach (e::es) X.env=(false,eval e X.env)::starEach es X.env) (hplain:(backTo cpos (starEach es X.env)).any (·.1)=false) :
  PE X (.Call (.Attribute o name apos) (e::es) [] cpos) (zpV X.K r to t):=by
 intro pins s σ H Q I h
 refine wpAny_Call_method_late hbase hfew hline rfl (thn (ho pins s σ H _ I h) λv s1 hq36=>?_)
 obtain⟨x,H1,I1,r1,ty,q1⟩:=hq36
 obtain⟨ad,xs,rfl,sq⟩:=ty
 cases r1
 obtain⟨ob,e1,c1,d1⟩:=I1.noDict sq
 refine⟨"tuple", id,pa,slot,hty,⟨ob,e1,c1⟩,λa z=>by cases z;exact⟨ob,e1,d1⟩,?_⟩
 have hA:=ha cpos pins s1 σ H1 _ I1 q1
 rw[hs] at hA ⊢
 refine Calls.callWith_builtin (by show(false || (backTo cpos (starEach es X.env)).any (·.1))=false;rw[hplain] <;>rfl) (ldg ?_)
 exact thn hA λus s2 ⟨vs,H2,I2,r2,q2⟩=>hm pins s2 σ H2 (.ref ad) vs (.ref ad) us Q I2 rfl r2 q2
theorem zmr (ho:XE X cl E o fa)(ha:XE X cl E e fb)(m:Mth X o e "index" apos cpos):XE X cl E (.Call (.Attribute o "index" apos) [e] [] cpos) (fM zpJ zoR fa fb):=by
 obtain⟨t,pt,rt⟩:=ho.ex
 obtain⟨u,pu,ru⟩:=ha.ex
 refine XE'.out ⟨_,znS PySem.F.plainAttrs_tuple PySem.F.slot_tuple_index PySem.F.type_tuple_index zhw pt (yX pu vX m.hs) m.base m.few m.line m.hs m.plain,λH0 F0 ρ σ H F Q R o=>rt H0 F0 ρ σ H F _ R (OutE.fst o λd v H1 F1 g1 q o1=>?_)⟩
 split at o1
 ·rename_i hd
  cases q with
  | tup sq dq =>
   rename_i ad xs ds
   refine⟨⟨ad,xs,rfl,(R.grow g1).fh.seqT sq⟩,ru H0 F0 ρ σ H1 F1 _ (R.grow g1) (OutE.fst o1 λd2 v2 H2 F2 g2 q2 o2=>?_)⟩
   obtain⟨z,hz,k⟩:=o2.lf
   have fh:=(R.grow (g1.trans g2)).fh
   cases q2 with
   | str key ok2 =>
    dsimp only [zoR] at hz
    split at hz
    ·rename_i h
     obtain rfl:=lq hz
     obtain⟨e1,e2,e3⟩:=dq.texts h.1
     subst e1
     obtain⟨a1,a2,a3,a4,a5⟩:=zhr h.2.2
     exact⟨ad,_,_,_,_,rfl,rfl,fh.seqT (g2.ff.seqT sq),a1,a2,a3,a4,a5,k _ _ _ (Gr.refl fh) (.int _)⟩
    ·cases hz
   | _=>cases hz
  | _=>cases hd
 ·exact o1.elim
end
def zpA:List D->Option D
 | [.int i]=>if 0<=i/\i<=9 then some (.str [48+i.toNat]) else none
 | _=>none
def maxD:List D->Option D
 | [.int i,.int j]=>some (.int (if j > i then j else i))
 | _=>none
def minD:List D->Option D
 | [.int i,.int j]=>some (.int (if j<i then j else i))
 | _=>none
section
variable {K:qQ0}{cl:Nat->Addr}
theorem n_str:Fn1 K cl (λxs H Q=>∃i,xs=[.int i]/\i.natAbs.log2<1920/\Q (.str (toString i)) H) zpA:=λF H vs ds d Q s q e k=>by
 match ds,q,e with
 | [.int i],q,e =>
  obtain⟨v,rfl,q1⟩:=q.one
  cases q1
  dsimp only [zpA] at e
  split at e
  ·rename_i h
   obtain rfl:=lq e
   obtain⟨n,rfl⟩:=laG h.1
   have key:∀n<10,((toString ((n:Nat):Int):String):Str)=T [48+n]/\((n:Nat):Int).natAbs.log2<1920:=by decide +kernel
   have hn:n<10:=by omega
   refine⟨_,rfl,(key n hn).2,?_⟩
   have:=k (.str (T [48+n])) _ _ (Gr.refl s) (.str _ (zb1 (λc hc=>by rw[lR.mp hc];omega) (by show 1<=_;decide)))
   rw[(key n hn).1]
   exact this
  ·cases e
def LI2 (f:Int->Int->Option D):List D->Option D
 | [.int i,.int j]=>f i j
 | _=>none
theorem zg5 {f:Int->Int->Option D}{ds:List D}{d:D}(e:LI2 f ds=some d):∃i j,ds=[.int i,.int j]/\f i j=some d:=by
 cases ds with
 | nil=>cases e
 | cons a t =>
  cases a with
  | int i =>
   cases t with
   | nil=>cases e
   | cons b t =>
    cases b with
    | int j =>
     cases t with
     | nil=>exact⟨i,j,rfl,e⟩
     | cons _ _=>cases e
    | _=>cases e
  | _=>cases e
theorem n_max:Fn1 K cl (λxs H Q=>∃i j,xs=[.int i,.int j]/\Q (.int (if j > i then j else i)) H) maxD:=λF H vs ds d Q s q e k=>by
 obtain⟨i,j,rfl,e1⟩:=zg5 (f:=λi j=>some (.int (if j > i then j else i))) e
 obtain⟨v,w,rfl,q1,q2⟩:=q.two
 obtain rfl:=q1.intE
 obtain rfl:=q2.intE
 obtain rfl:=lq e1
 exact⟨_,_,rfl,k _ _ _ (Gr.refl s) (.int _)⟩
theorem n_min:Fn1 K cl (λxs H Q=>∃i j,xs=[.int i,.int j]/\Q (.int (if j<i then j else i)) H) minD:=λF H vs ds d Q s q e k=>by
 obtain⟨i,j,rfl,e1⟩:=zg5 (f:=λi j=>some (.int (if j<i then j else i))) e
 obtain⟨v,w,rfl,q1,q2⟩:=q.two
 obtain rfl:=q1.intE
 obtain rfl:=q2.intE
 obtain rfl:=lq e1
 exact⟨_,_,rfl,k _ _ _ (Gr.refl s) (.int _)⟩
end
section
variable {X:Cx}{cl:Nat->Addr}{E:XK}{a b e:Expr}{fa fb:qQ5}{pos:Pos}{st:Stmt}{g:Rho->Out}
def isI:D->Bool
 | .int _=>true
 | _=>false
def unN:D->Int
 | .int i=>i
 | _=>0
theorem Dts.ints {K:qQ0}:∀{vs:List V}{ds:List D},Dts K cl F vs ds->ds.all isI=true->vs=(ds.map unN).map V.int
 | _,_,.nil,_=>rfl
 | _,_,.cons q r,h=>by
  rw[lba,lM] at h
  have:=Dts.ints r h.2
  cases q <;>simp[isI] at h
  rw[this];rfl
def zkM:List Int->Int
 | []=>0
 | x::xs=>xs.foldl (λa b=>if b<a then b else a) x
theorem zdK {ns:List Int}(h:ns≠[]):zkM ns∈ns/\∀i∈ns,zkM ns<=i:=by
 have key:∀(xs:List Int) (x:Int),(xs.foldl (λa b=>if b<a then b else a) x=x∨xs.foldl (λa b=>if b<a then b else a) x∈xs)/\xs.foldl (λa b=>if b<a then b else a) x<=x/\∀i∈xs,xs.foldl (λa b=>if b<a then b else a) x<=i:=by
  intro xs
  induction xs with
  | nil=>intro x;exact⟨.inl rfl,Int.le_refl _,λi hi=>by cases hi⟩
  | cons y xs ih =>
   intro x
   rw[la6]
   obtain⟨h1,h2,h3⟩:=ih (if y<x then y else x)
   by_cases hy:y<x
   ·rw [lU hy] at h1 h2 h3 ⊢
    refine⟨.inr ?_,by omega,λi hi=>?_⟩
    ·rcases h1 with e|e
     ·rw[e];exact .head _
     ·exact .tail _ e
    ·rcases lI.mp hi with rfl|hi
     ·exact h2
     ·exact h3 i hi
   ·rw[lac hy] at h1 h2 h3 ⊢
    refine⟨h1.imp_right (.tail _),h2,λi hi=>?_⟩
    rcases lI.mp hi with rfl|hi
    ·omega
    ·exact h3 i hi
 cases ns with
 | nil=>exact absurd rfl h
 | cons x xs =>
  obtain⟨h1,h2,h3⟩:=key xs x
  refine⟨?_,λi hi=>?_⟩
  ·rcases h1 with e|e
   ·show xs.foldl _ x∈_
    rw[e];exact .head _
   ·exact .tail _ e
  ·rcases lI.mp hi with rfl|hi
   ·exact h2
   ·exact h3 i hi
theorem zdU:∀{ns:List Int}{us:List Value},Vals (ns.map V.int) us->∃xs:List (Int×Tok),us=xs.map (λp=>Value.int p.1 p.2)/\xs.map (·.1)=ns
 | [],_,.nil=>⟨[],rfl,rfl⟩
 | n::ns,_,.cons r t=>by
  obtain⟨xs,rfl,e⟩:=zdU (ns:=ns) t
  obtain⟨k,rfl⟩:=r
  exact⟨(n,k)::xs,rfl,by rw[lF,e]⟩
theorem zed (hc:X.calm=true):qP X (.builtin "min") (λxs H Q=>∃(a:Addr) (ns:List Int),xs=[.ref a]/\SqL X.K H a (ns.map V.int)/\ns≠[]/\Q (.int (zkM ns)) H):=by
 intro pins s σ H xs us Q I r h
 obtain⟨a,ns,rfl,ha,hne,q⟩:=h
 obtain⟨u,rfl,ru⟩:=vals1 r
 cases ru
 obtain⟨its,rv,pl,hz⟩:=I.list ha
 obtain⟨ys,rfl,ey⟩:=zdU rv
 have hl:s.heap.IsList a (intItems ys.toArray):=by
  have:=pl.isList
  simpa [intItems] using this
 have hpos:0<ys.length:=by
  cases ys with
  | nil=>exact absurd ey.symm hne
  | cons=>exact lc9 _
 refine min_intList (I.ok.hd hc) hl (by simpa using hpos) λv h' tk hv hk=>⟨.int (zkM ns),H,I.kept hk,?_,q⟩
 obtain⟨g1,g2⟩:=argBest_lt (numAt ys.toArray) (ys.toArray.size - 1)
 obtain⟨t,rfl⟩:=intItems_at hv
 refine⟨t,?_⟩
 obtain⟨m1,m2⟩:=zdK hne
 have hsz:ys.toArray.size=ys.length:=by simp
 have at_:∀j,j<ys.length->numAt ys.toArray j∈ns/\(numAt ys.toArray j)=ns.getD j 0:=λj hj=>by
  have e:numAt ys.toArray j=(ys.toArray.toList.map (·.1)).getD j 0:=numAt_eq _ _
  rw[e]
  have e2:ys.toArray.toList.map (·.1)=ns:=by simpa using ey
  rw[e2]
  have hj':j<ns.length:=by rw[← ey];simpa using hj
  refine⟨?_,rfl⟩
  rw[ly,lh hj']
  exact laD hj'
 have b1:=m2 _ (at_ _ (by omega:argBest (λi j=>decide (numAt ys.toArray i<numAt ys.toArray j)) (ys.toArray.size - 1)<ys.length)).1
 obtain⟨j,hj,e⟩:=List.getElem_of_mem m1
 have hj':j<ys.length:=by rw[← ey] at hj;simpa using hj
 have b2:=g2 j (by omega)
 rw[(at_ j hj').2,ly,lh hj] at b2
 have b3:numAt ys.toArray (argBest (λi j=>decide (numAt ys.toArray i<numAt ys.toArray j)) (ys.toArray.size - 1))<=zkM ns:=by rw[← e];exact b2
 rw[Int.le_antisymm b3 b1]
def zgX:List D->Option D
 | [.lst ds]=>if ds.all isI=true/\ds≠[] then some (.int (zkM (ds.map unN))) else none
 | _=>none
theorem zku {K:qQ0}:Fn1 K cl (λxs H Q=>∃(a:Addr) (ns:List Int),xs=[.ref a]/\SqL K H a (ns.map V.int)/\ns≠[]/\Q (.int (zkM ns)) H) zgX:=λF H vs ds d Q s q e k=>by
 match ds,q,e with
 | [.lst l],q,e =>
  obtain⟨v,rfl,q1⟩:=q.one
  dsimp only [zgX] at e
  split at e
  ·rename_i h
   obtain rfl:=lq e
   cases q1 with
   | lst sq dq =>
    rw[dq.ints h.1] at sq
    exact⟨_,_,rfl,s.seq sq,λz=>h.2 (List.map_eq_nil_iff.mp z),k _ _ _ (Gr.refl s) (.int _)⟩
  ·cases e
end
section
variable {X:Cx}{cl:Nat->Addr}{E:XK}{a b e:Expr}{fa fb:qQ5}{pos:Pos}
theorem Dts.rep {K:qQ0}{ds:List D}(q:Dts K cl F vs ds):∀n:Nat,Dts K cl F (List.replicate n vs).flatten (List.replicate n ds).flatten
 | 0=>.nil
 | n+1=>by
  rw[lby,lby,lbi,lbi]
  exact q.append (Dts.rep q n)
end
structure XEw (X:Cx)(cl:Nat->Addr)(E:XK)(e:Expr)(f:qQ5):Prop where
 out:XE X cl E e f
structure XAw (X:Cx)(cl:Nat->Addr)(E:XK)(es:List Expr)(f:qQ4):Prop where
 out:XA X cl E es f
section
variable {X:Cx}{cl:Nat->Addr}{E:XK}{e:Expr}{es:List Expr}{f:qQ5}{fs:qQ4}{pos:Pos}
theorem yF:XAw X cl E [] zE:=⟨zu⟩
theorem zH (h1:XEw X cl E e f)(h2:XAw X cl E es fs)(hs:starEach (e::es) X.env=(false,eval e X.env)::starEach es X.env):XAw X cl E (e::es) (zj f fs):=⟨zf h1.out h2.out hs⟩
theorem jV (h:XAw X cl E es fs):XEw X cl E (.List es pos) (fO mkL fs):=⟨jk h.out⟩
theorem wC {x1}(h:XAw X cl E es fs):XEw X cl E (.Tuple es x1 pos) (fO mkT fs):=⟨zbS h.out⟩
theorem w5 {j}(h:x=T l)(ok:TxtOk (T l)):XEw X cl E (.Constant (.str x) j pos) (fC (.str l)):=⟨zkx h ok⟩
theorem zhI {j}:XEw X cl E (.Constant .none j pos) (fC .non):=⟨zcn⟩
theorem xU {i j}:XEw X cl E (.Constant (.int i) j pos) (fC (.int i)):=⟨zG⟩
theorem zok {b j}:XEw X cl E (.Constant (.bool b) j pos) (fC (.bl b)):=⟨qu⟩
end
structure XSb (X:Cx)(cl:Nat->Addr)(E:XK)(sts:List Stmt)(g:Rho->Out):Prop where
 out:XSs X cl E sts g
structure XSt (X:Cx)(cl:Nat->Addr)(E:XK)(st:Stmt)(g:Rho->Out):Prop where
 out:XS X cl E st g
structure XIw (X:Cx)(cl:Nat->Addr)(E:XK)(tg it:Expr)(f:qQ4):Prop where
 out:XI X cl E tg it f
section
variable {X:Cx}{cl:Nat->Addr}{E:XK}{e tg iter:Expr}{st:Stmt}{rest body:List Stmt}{g h:Rho->Out}{f:qQ5}{fi:qQ4}{pos:Pos}
theorem zeh (h1:XS X cl E st g)(h2:XSb X cl E rest h):XSs X cl E (st::rest) (zW g h):=zx h1 h2.out
theorem zgi (h1:XSt X cl E st g)(h2:XSs X cl E rest h):XSb X cl E (st::rest) (zW g h):=⟨zx h1.out h2⟩
theorem zfu (h:XSt X.nox cl E0 st g):XSt X cl E st (kh g):=⟨ql h.out⟩
theorem zfv (hp:PassesOwn (model X.prog X.w) X.A X.env X.xe)(hc:X.calm=true)(hi:XIw X cl E tg iter fi)(hg:PG X tg (uq i))(hb:XSs X cl E body g)(hs:∀x,foldedSetIterable iter X.env x=pure x:=by intro _;rfl):XSt X cl E (.For tg iter body [] pos) (uN i fi g):=⟨vR hp hc hi.out hg hb hs⟩
theorem zfs (h:XEw X cl E e f):XIw X cl E tg e (fI tpD f):=⟨qi h.out⟩
end
theorem zhA (l:Addr)(items:Array Value)(n:Nat)(dd:Option Addr)(sl:Array (Option Value))(x:Int)(u:Tok)(hc0:¬(!Builtin.List.listFitsIndex x)=true)(hc1:¬items.size*x.toNat > (2 ^ 63 - 1) / 8)(hc2:¬Builtin.List.listTooLong (items.size*x.toNat)=true) :
  Meets (Builtin.«list.__mul__» ⟨[.ref l,.int x u],[]⟩) (λ_ R s=>s.heap.get? l=some {cls:=.type "list", dict:=dd,data:=.seq items n,slots:=sl}/\R (.ok (.ret (Value.ref s.heap.objs.size))) {s with heap:=s.heap.push {cls:=Value.type "list", data:=Data.seq (List.foldl (λx1 x2=>x1++x2) #[] (List.replicate (if items.isEmpty=true then 0 else x.toNat) items))},toks:=s.toks}) :=
 .of_wp λprog w A R s h=>by
  obtain⟨hp,g,d,tk,os⟩:=s;obtain⟨hl,h⟩:=h
  have hsz:=AutoListH.joined_fits hc2
  wp_walk;refine wpAny_ite_false (laa (Nat.not_lt.mpr hsz)) ?_;wp_walk;exact⟨_,rfl,h⟩
theorem zhG (a:Int)(t:Tok)(l:Addr)(items:Array Value)(n:Nat)(dd:Option Addr)(sl:Array (Option Value)) :
  Meets (Builtin.«int.__rmul__» ⟨[.int a t,.ref l],[]⟩) (λ_ R s=>s.heap.get? l=some {cls:=.type "list", dict:=dd,data:=.seq items n,slots:=sl}/\R (.ok (.ret Value.notImplemented)) s) :=
 .of_wp λprog w A R s h=>by obtain⟨hp,g,d,tk,os⟩:=s;obtain⟨hl,h⟩:=h;wp_walk;exact⟨_,rfl,h⟩
def zo2 (K:qQ0):R2:=λx y H Q=>∃l k xs,x=.ref l/\y=.int k/\SqL K H l xs/\-(2 ^ 63)<=k/\k<2 ^ 63/\xs.length*k.toNat<=sizeLine /\
 ∀p,H p=none->Q (.ref p) (upd H p (.lst (List.replicate k.toNat xs).flatten))
section
variable {X:Cx}{cl:Nat->Addr}{E:XK}{a b:Expr}{fa fb:qQ5}{pos:Pos}
theorem zlf:OpR X (binaryOp .Mult) (zo2 X.K):=by
 intro pins s σ H x y v u Q I rx ry h
 obtain⟨l,k,xs,rfl,rfl,hH,h1,h2,hz,q⟩:=h
 cases rx
 obtain⟨t,rfl⟩:=ry
 obtain⟨its,r,⟨o,n,e,hc,hdd,hd⟩,z⟩:=I.list hH
 obtain⟨cls,dd,data,sl⟩:=o
 simp only at hc hd
 subst hc hd
 have hl:=r.length
 have hlen:its.toArray.size*k.toNat<=sizeLine:=by rw[lP,← hl];exact hz
 have hcap:¬its.toArray.size*k.toNat > (2 ^ 63 - 1) / 8:=by
  have:(sizeLine:Nat)<=(2 ^ 63 - 1) / 8:=by decide
  omega
 have hfit:¬(!Builtin.List.listFitsIndex k)=true:=by
  rw[fitsIndex_both h1 h2]
  exact lH
 have hlong:¬Builtin.List.listTooLong (its.toArray.size*k.toNat)=true:=by
  rw[zfJ hlen]
  exact lH
 have hnew:List.foldl (λx1 x2=>x1++x2) #[] (List.replicate (if its.toArray.isEmpty=true then 0 else k.toNat) its.toArray)=(List.replicate k.toNat its).flatten.toArray:=by
  have f0:∀m:Nat,List.foldl (λx1 x2=>x1++x2) #[] (List.replicate m its.toArray)=(List.replicate m its).flatten.toArray:=λm=>by
   have:=foldl_rep its m []
   rw[laE] at this
   exact this
  rw[f0]
  cases its with
  | nil=>simp
  | cons a r'=>rw[lac (by simp)]
 refine wpAny_binaryOp_repeat_ref (T := "list") (U := "int") (by decide) ⟨_,e,rfl⟩ (λs'=>typeIs_int s' k t) noFill_list_mul F.fills_int_mul F.slot_int_rmul repeat_list F.slot_int_index.lookup
  (lcI F.slot_int_rmul (typeIs_int s k t) F.entry_int_rmul (F.args_int_rmul_2 _ _) (zhG k t l its.toArray n dd sl)
   ⟨e,rfl,⟨_,e,rfl⟩,lcI F.slot_list_mul ⟨_,e,rfl⟩ F.entry_list_mul (F.args_list_mul_2 _ _) (zhA l its.toArray n dd sl k t hfit hcap hlong) ⟨e,?_⟩⟩)
 rw[hnew]
 exact⟨.ref _,_,I.lnew (t':=s.toks) (r.rep k.toNat) (by rw[len_rep,Nat.mul_comm];exact hz),rfl,q _ I.fresh⟩
theorem zi5 {a b:D}{z:List D}(e:zgT a b=some z):∃l n,a=.lst l/\b=.int n/\0<=n/\n<=1000/\l.length<=1000/\z=(List.replicate n.toNat l).flatten:=by
 cases a with
 | lst l =>
  cases b with
  | int n =>
   by_cases h:0<=n/\n<=1000/\l.length<=1000
   ·exact⟨l,n,rfl,rfl,h.1,h.2.1,h.2.2,(lq ((lU h).symm.trans e)).symm⟩
   ·exact absurd ((lac h).symm.trans e) nofun
  | _=>cases e
 | _=>cases e
theorem zd4 (ha:XE X cl E a fa)(hb:XE X cl E b fb):XL X cl E (.BinOp a .Mult b pos) (fL2 zgT fa fb):=by
 obtain⟨t,pt,rt⟩:=ha.ex
 obtain⟨u,pu,ru⟩:=hb.ex
 refine⟨_,zlr zlf pt pu,λH0 F0 ρ σ H F Q R o=>rt H0 F0 ρ σ H F _ R (OutE.fstA o λd v H1 F1 g q o1=>?_)⟩
 refine ru H0 F0 ρ σ H1 F1 _ (R.grow g) (OutE.fstA o1 λd2 v2 H2 F2 g2 q2 o2=>?_)
 obtain⟨z,hz,k⟩:=o2.lf
 have fh:=(R.grow (g.trans g2)).fh
 have q':=q.mono g2.ff
 obtain⟨l,n,rfl,rfl,h0,hn,hl,rfl⟩:=zi5 hz
 cases q' with
 | lst sq dq =>
  cases q2 with
  | int =>
   have e1:=dq.length
   have e2:n.toNat<=1000:=by omega
   exact⟨_,_,_,rfl,rfl,fh.seq sq,by omega,by omega,sz6 (lar (ld8 (e1▸hl) e2) (by decide)),λp hp=>k _ _ _ (Gr.refl fh) (dq.rep _) p hp⟩
end
def PX (X:Cx)(e:Expr)(t:St->Hp->VK->XK->Prop):Prop:=∀(pins:List (Addr×Obj)) (s:Shared) (σ:St) (H:Hp) (Q:VK) (E:XK) (F':qQ2),Inv X pins σ H s ->
 (∀H s e s',Inv X pins σ H s->zdZ X.prog X.w X.stack H s E e s'->F' e s')->t σ H Q E->wpAny (model X.prog X.w) X.A (eval e X.env) (EP X pins σ Q) F' s
section
variable {X:Cx}{k:Nat}{f:Addr}{fd:FuncData}{ps:List Str}{sp:Sp}{x y n:Str}{p np cpos rpos hpos pos:Pos}{e c a b:Expr}{es:List Expr}{ta:TA}{tc:TT}{i:Nat}{b₀:Stmt}{suite:List Stmt}{th:TS}{more:List ExceptHandler}{tx ty:St->Hp->VK->XK->Prop}
theorem zii (F:FnOk X.prog X.w X.K X.mg X.base (CX1 X.prog X.w) k f fd ps sp)(hr:Room k X.A)(hg:Gl X y)(hm:X.mg y=some (.ref f))(hk:PySem.W.keepIn X.K (.ref f)=true)(hb:Binds X.K fd ps [])(ha:PA X.nox (e::es) ta)
  (he:starEach (e::es) X.env=(false,eval e X.env)::starEach es X.env) (hdb:(y == ("__debug__" : Str))=false:=by decide) (hpl:(backTo cpos (starEach es X.env)).any (·.1)=false:=by rfl) :
  PX X (.Call (.Name y p) (e::es) [] cpos) (λσ H Q E=>ta σ H λvs H1=>sp vs H1 Q E):=by
 intro pins s σ H Q E F' I hx h
 refine lbl (zal I hg hm ?_ hdb)
 refine ldv (h₀:=X.base) I.ok.mod.kin hk (laF (ha cpos pins s σ H _ (I.wish _) h) (λus s1 ⟨vs,H1,I1,r,q⟩=>⟨I1.unwish.kIn,?_⟩) λ_ _ z=>False.elim z) he hpl
 exact zm8 F hr hb hx I1.unwish r q
theorem zo1 (hc:PT X.nox c tc)(ha:PX X a tx)(hb:PX X b ty):PX X (.IfExp c a b pos) (λσ H Q E=>tc σ H λd H1=>if d=true then tx σ H1 Q E else ty σ H1 Q E):=by
 intro pins s σ H Q E F' I hx h
 refine wpAny_IfExp (laF (hc pins s σ H _ (I.wish _) h) (λd s1 ⟨H1,I1,q1⟩=>?_) λ_ _ z=>False.elim z)
 cases d with
 | true=>exact ha pins s1 σ H1 Q E F' I1.unwish hx q1
 | false=>exact hb pins s1 σ H1 Q E F' I1.unwish hx q1
end
def zdl {α:Type}(f:Rho->Rs α):Rho->Rs α:=λρ=>match f ρ with | .ex _=>.no|r=>r
def XX (X:Cx)(cl:Nat->Addr)(e:Expr)(f:qQ5):Prop:=PX X e (λσ H Q E=>∃H0 F0 ρ F,Rl X.K cl H0 F0 ρ σ H F/\OutE X.K cl E H0 F H (f ρ) Q)
theorem PX.mono {X:Cx}(h:PX X e t)(k:∀σ H Q E,u σ H Q E->t σ H Q E):PX X e u:=λpins s σ H Q E F' I hx q=>h pins s σ H Q E F' I hx (k σ H Q E q)
section
variable {X:Cx}{cl:Nat->Addr}{x:Str}{p pos:Pos}{e c a b:Expr}{es:List Expr}
theorem zmk {f:Addr}{fn:List D->Rs D}{fs:qQ4}(G:FnOk X.prog X.w X.K X.mg X.base (CX1 X.prog X.w) k f fd ps (spD X.K cl fn n))(hr:Room k X.A)(hg:Gl X x)(hm:X.mg x=some (.ref f))(hk:PySem.W.keepIn X.K (.ref f)=true)(hb:Binds X.K fd ps [])
  (ha:XA X.nox cl E0 (e::es) fs) (he:starEach (e::es) X.env=(false,eval e X.env)::starEach es X.env) (hdb:(x == ("__debug__" : Str))=false:=by decide) (hpl:(backTo pos (starEach es X.env)).any (·.1)=false:=by rfl):XX X cl (.Call (.Name x p) (e::es) [] pos) (fA (ari n fn) (zdl fs)):=by
 obtain⟨t,pt,rt⟩:=ha.ex
 refine(zii G hr hg hm hk hb pt he hdb hpl).mono λσ H Q E ⟨H0,F0,ρ,F,R,o⟩=>rt H0 F0 ρ σ H F _ R ?_
 unfold fA zdl at o
 cases e:fs ρ with
 | ex n=>rw[e] at o;exact o.elim
 | no=>rw[e] at o;exact o.elim
 | ok ds =>
  rw[e] at o
  intro vs H1 F1 g q
  have o1:OutE X.K cl E H0 F H (ari n fn ds) Q:=o
  unfold ari at o1
  split at o1
  ·rename_i hl
   have R1:=R.grow g
   refine⟨F1,ds,R1.fh,q,by rw[q.length,hl],?_⟩
   cases e:fn ds with
   | ok d=>rw[e] at o1;exact λv H' F' g' q'=>o1 v H' F' (g.trans g') q'
   | ex n=>rw[e] at o1;exact λH' s=>o1 H' (R1.gr.hh.trans s)
   | no=>rw[e] at o1;exact o1
  ·exact o1.elim
theorem zm7 {fa fb:qQ5}(hc:XT X.nox cl E0 c ft)(ha:XX X cl a fa)(hb:XX X cl b fb):XX X cl (.IfExp c a b pos) (fIf (zdl ft) fa fb):=by
 obtain⟨t,pt,rt⟩:=hc.ex
 refine(zo1 pt ha hb).mono λσ H Q E ⟨H0,F0,ρ,F,R,o⟩=>rt H0 F0 ρ σ H F _ R ?_
 unfold fIf zdl at o
 cases e:ft ρ with
 | ex n=>rw[e] at o;exact o.elim
 | no=>rw[e] at o;exact o.elim
 | ok d =>
  rw[e] at o
  intro H1 F1 g
  have o1:OutE X.K cl E H0 F H (if d=true then fa ρ else fb ρ) Q:=o
  have up:∀r:Rs D,OutE X.K cl E H0 F H r Q->OutE X.K cl E H0 F1 H1 r Q:=λr z=>by
   cases r with
   | ok d=>exact λv H' F' g' q'=>z v H' F' (g.trans g') q'
   | ex n=>exact z
   | no=>exact z
  split
  ·rename_i hd
   rw[lU hd] at o1
   exact⟨H0,F0,ρ,F1,R.grow g,up _ o1⟩
  ·rename_i hd
   rw[lac hd] at o1
   exact⟨H0,F0,ρ,F1,R.grow g,up _ o1⟩
def zpa (i:Nat)(cs:List Nat)(ef hf:qQ5):Rho->Out:=λρ=>if ρ.all (λs=>!s.own)=true then(match ef ρ with
 | .ok d=>.rt d
 | .ex n=>if n∈cs then(match hf (ρ.set i (.fz (.exc n))) with | .ok d=>.rt d|_=>.no) else .no
 | .no=>.no) else .no
theorem zju (h:ρ.all (λs=>!s.own)=true){s:Sl}(e:ρ[i]? = some s):s.own=false:=by
 have:=lZ.mp h s (laL e)
 simpa using this
theorem Rl.base {K:qQ0}(R:Rl K cl H0 F0 ρ σ H F)(h:ρ.all (λs=>!s.own)=true):Rl K cl H F ρ σ H F where
 gr:=Gr.refl R.fh
 len:=R.len
 fz:=R.fz
 own:=λi ds e o=>by have:=zju h e;rw[this] at o;cases o
 ap:=R.ap
theorem Gr.exc {H':Hp}{a:Addr}{o:HO}(h:Same F H)(s:Same H H')(ha:H' a=none):Gr F H (upd F a o) (upd H' a o):=by
 have hH:H a=none:=by
  cases z:H a with
  | none=>rfl
  | some q=>rw[s a q z] at ha;cases ha
 refine⟨Same.upd (h.free hH),s.trans (Same.upd ha),zgd (h.trans s),λb o hb m q=>?_⟩
 have hne:b≠a:=λz=>by rw[z,hH] at hb;cases hb
 rw[zO hne];exact q
def zf7 (P:Nat->Prop)(cs:List Nat):Prop:=∀n∈cs,P n
theorem zjq {P:Nat->Prop}:zf7 P []:=λ_ h=>by cases h
theorem zbg {P:Nat->Prop}{r:List Nat}(h:P n)(t:zf7 P r):zf7 P (n::r):=λm z=>by
 rcases lI.mp z with z|z
 ·exact z▸h
 ·exact t m z
theorem zpP {P:Program}{w:World}{K:qQ0}{base:Heap}{x qual:Str}{st:Stmt}{f:Addr}{m:Nat}{g:Rho->Out}(Fu:Fun K x qual st f fd)(S:FnScope N ps (zq st))(hm:N.length=m)(hn:ps.length=n)
  (hb:∀(cdv:Value) (A:Around) (outer:List Env) (s:Shared) (H:Hp),Room k ((Around.calm0 A).deeper (envOfC qual (zq st) s.heap.objs.size f cdv))->XSs (zg8 P w K mg base N qual (zq st) f cdv A outer s H) cl E0 (xP st) g):FnOkH P w K mg base (k+1) f fd ps (spD K cl (z8 m g) n):=by
 subst hm hn
 refine Fu.okH S (λvs H Q E h=>h.choose_spec.choose_spec.2.2.1) λcdv A outer s H vs Q hr h=>?_
 obtain⟨F,ds,sm,dq,hl,o⟩:=h
 refine⟨_,hb cdv A outer s H hr,H,F,_,F,Rl.start (N:=N) sm dq,?_⟩
 unfold z8 at o
 cases e:g (ds.map .fz++List.replicate (N.length - ds.length) .no) with
 | nx ρ=>rw[e] at o;exact λσ H' F' R _=>o .non H' F' R.gr .non
 | rt d=>rw[e] at o;exact λv H' F' gg q=>o v H' F' gg q
 | bk ρ=>rw[e] at o;exact o.elim
 | ct ρ=>rw[e] at o;exact o.elim
 | ex n=>rw[e] at o;exact o
 | no=>rw[e] at o;exact o
theorem zi6 {f:Addr}{fn:List D->Rs D}{fs:qQ4}(G:FnOkH X.prog X.w X.K X.mg X.base k f fd ps (spD X.K cl fn n))(hr:RoomH k X.A)(hg:Gl X x)(hm:X.mg x=some (.ref f))(hk:PySem.W.keepIn X.K (.ref f)=true)(hb:Binds X.K fd ps [])
  (ha:XA X cl E0 (e::es) fs) (he:starEach (e::es) X.env=(false,eval e X.env)::starEach es X.env) (hdb:(x == ("__debug__" : Str))=false:=by decide) (hpl:(backTo pos (starEach es X.env)).any (·.1)=false:=by rfl):XE X cl E0 (.Call (.Name x p) (e::es) [] pos) (fA (ari n fn) fs):=by
 obtain⟨t,pt,rt⟩:=ha.ex
 refine XE'.out ⟨_,zjV G hr hg hm hk hb pt hdb he hpl,λH0 F0 ρ σ H F Q R o=>rt H0 F0 ρ σ H F _ R (OutA.fst o λds vs H1 F1 g q o1=>?_)⟩
 unfold ari at o1
 split at o1
 ·rename_i hl
  rw[lY]
  have R1:=R.grow g
  refine⟨F1,ds,R1.fh,q,by rw[q.length,hl],?_⟩
  cases e:fn ds with
  | ok d=>rw[e] at o1;exact o1
  | ex n=>rw[e] at o1;exact λH' s=>o1 H' (R1.gr.hh.trans s)
  | no=>rw[e] at o1;exact o1
 ·exact o1.elim
def zmG (tab:List (Nat×Bool)):D->Option D
 | .exc n=>(tab.lookup n).map .bl
 | _=>none
def TabOk (P:Nat->Bool->Prop)(tab:List (Nat×Bool)):Prop:=∀n b,(n,b)∈tab->P n b
theorem zcC {P:Nat->Bool->Prop}:TabOk P []:=λ_ _ h=>by cases h
theorem xO {P:Nat->Bool->Prop}{b:Bool}{r:List (Nat×Bool)}(h:P n b)(t:TabOk P r):TabOk P ((n,b)::r):=λm c z=>by
 rcases lI.mp z with z|z
 ·cases z;exact h
 ·exact t m c z
theorem lookup_mem {n:Nat}{b:Bool}:∀{tab:List (Nat×Bool)},tab.lookup n=some b->(n,b)∈tab
 | (m,c)::r,h=>by
  rw[lbJ] at h
  split at h
  ·rename_i e
   rw[ldD] at e
   cases h
   rw[e];exact .head _
  ·exact .tail _ (lookup_mem h)
theorem zcB {fa:qQ5}{tab:List (Nat×Bool)}(hk:TabOk (λn b=>ExcK X.K (cl n)/\((∃C',v=.ref C'/\PySem.W.kitOne X.K (.ref (cl n)) (.ref C')=some b)∨(∃t,v=.ty t/\PySem.W.kitOne X.K (.ref (cl n)) (.type t)=some b))) tab)(hg:Gl X "isinstance")(hm:X.mg "isinstance" = none)(ha:XE X cl E e fa)(hb:PE X b (tC v))(h1:starEach [e,b] X.env=(false,eval e X.env)::starEach [b] X.env)(h2:starEach [b] X.env=(false,eval b X.env)::starEach [] X.env:=by rfl)(hpl:(backTo pos (starEach [b] X.env)).any (·.1)=false:=by rfl):XE X cl E (.Call (.Name "isinstance" p) [e,b] [] pos) (f1 (zmG tab) fa):=by
 obtain⟨t,pt,rt⟩:=ha.ex
 refine XE'.out ⟨_,jO zdJ hg hm boot_isinstance (yX pt (yX hb vX h2) h1) (by decide) (by decide) h1 hpl,λH0 F0 ρ σ H F Q R o=>rt H0 F0 ρ σ H F _ R (OutE.fst o λd u H1 F1 g1 q o1=>?_)⟩
 obtain⟨z,hz,k⟩:=o1.lf
 have fh:=(R.grow g1).fh
 cases q with
 | exc hF =>
  rename_i ad nn
  dsimp only [zmG] at hz
  cases hl:tab.lookup nn with
  | none=>rw[hl] at hz;cases hz
  | some bb =>
   rw[hl] at hz
   obtain rfl:=lq hz
   obtain⟨z1,z2⟩:=hk nn bb (lookup_mem hl)
   exact⟨ad,cl nn,v,bb,rfl,fh _ _ hF,z1,z2,k _ _ _ (Gr.refl fh) (.bl _)⟩
 | _=>cases hz
def zop:D->Bool
 | .bl _=>true
 | _=>false
def ziR:D->Bool
 | .bl b=>b
 | _=>false
theorem Dts.truths {K:qQ0}:∀{vs:List V}{ds:List D},Dts K cl F vs ds->ds.all zop=true->vs=(ds.map ziR).map .bl
 | _,_,.nil,_=>rfl
 | _,_,.cons q r,h=>by
  rw[lba,lM] at h
  cases q with
  | bl b=>rw[Dts.truths r h.2];rfl
  | _=>exact absurd h.1 (by simp[zop])
def zmf:D->D->Option D
 | .lst ds,.bl k=>if ds.all zop=true then some (.int ((ds.map ziR).count k:Nat)) else none
 | _,_=>none
def zk4:D->D->Option D
 | .lst ds,.bl k=>if ds.all zop=true/\ds.length<=1000/\k∈ds.map ziR then some (.int ((ds.map ziR).idxOf k:Nat)) else none
 | _,_=>none
def zmj (K:qQ0):V->List V->Hp->VK->Prop:=λx vs H Q=>∃l xs y,x=.ref l/\vs=[y]/\SqL K H l xs/\vL y=true/\xs.all vL=true/\Q (.int ((xs.countP λz=>eqV z y:Nat):Int)) H
theorem ziI:MtR X "list.count" (zmj X.K):=by
 intro pins s σ H x vs v us Q I rx rv h
 obtain⟨l,xs,y,rfl,rfl,hH,fy,fs,q⟩:=h
 cases rx
 obtain⟨u,rfl,ru⟩:=rv.one
 obtain⟨its,r,pl,hl⟩:=I.list hH
 obtain⟨o,n,e,hc,hd,hs⟩:=id pl
 have eo:o={cls:=.type "list", dict:=none,data:=.seq its.toArray n,slots:=o.slots}:=by
  obtain⟨c,d,dt,sl⟩:=o
  dsimp only at hc hd hs
  subst hc hd hs
  rfl
 rw[eo] at e
 refine lcI F.slot_list_count ⟨_,e,rfl⟩ F.entry_list_count (F.args_list_count_2 _ _) (SeqAt.list_countAt l its.toArray n none o.slots u (eqU y)) ⟨e,λw hw=>kE ru fy r fs w (by simpa using hw),?_⟩
 have ec:((its.toArray.toList.countP (eqU y):Nat):Int)=((xs.countP λz=>eqV z y:Nat):Int):=by
  rw[show its.toArray.toList=its from rfl,zdN r fs]
 rw[ec]
 exact⟨.int _,H,I.tok _,⟨_,rfl⟩,q⟩
theorem zfM (L:List Bool):(L.map V.bl).all vL=true:=by
 rw[lb2];exact lZ.mpr λ_ _=>rfl
theorem zh3 (L:List Bool)(k:Bool):(L.map V.bl).countP (λz=>eqV z (.bl k))=L.count k:=by
 rw[List.countP_map];rfl
theorem zlp {o:Expr}{fa fb:qQ5}(ho:XE X cl E o fa)(ha:XE X cl E e fb)(m:Mth X o e "count" apos cpos):XE X cl E (.Call (.Attribute o "count" apos) [e] [] cpos) (fM zlz zmf fa fb):=by
 obtain⟨t,pt,rt⟩:=ho.ex
 obtain⟨u,pu,ru⟩:=ha.ex
 refine XE'.out ⟨_,zd3 lbr PySem.F.slot_list_count PySem.F.type_list_count ziI pt (yX pu vX m.hs) m.base m.few m.line m.hs m.plain,λH0 F0 ρ σ H F Q R o=>rt H0 F0 ρ σ H F _ R (OutE.fst o λd v H1 F1 g1 q o1=>?_)⟩
 split at o1
 ·rename_i hd
  cases q with
  | lst sq dq =>
   rename_i ad xs ds
   refine⟨.inl ⟨rfl,xs,(R.grow g1).fh.seq sq⟩,ru H0 F0 ρ σ H1 F1 _ (R.grow g1) (OutE.fst o1 λd2 v2 H2 F2 g2 q2 o2=>?_)⟩
   obtain⟨z,hz,k⟩:=o2.lf
   have fh:=(R.grow (g1.trans g2)).fh
   cases q2 with
   | bl key =>
    dsimp only [zmf] at hz
    split at hz
    ·rename_i h
     obtain rfl:=lq hz
     obtain rfl:=dq.truths h
     refine⟨ad,_,_,rfl,rfl,fh.seq (g2.ff.seq sq),rfl,zfM _,?_⟩
     rw[zh3]
     exact k _ _ _ (Gr.refl fh) (.int _)
    ·cases hz
   | _=>cases hz
  | _=>cases hd
 ·exact o1.elim
theorem zmg {o:Expr}{fa fb:qQ5}(ho:XE X cl E o fa)(ha:XE X cl E e fb)(m:Mth X o e "index" apos cpos):XE X cl E (.Call (.Attribute o "index" apos) [e] [] cpos) (fM zlz zk4 fa fb):=by
 obtain⟨t,pt,rt⟩:=ho.ex
 obtain⟨u,pu,ru⟩:=ha.ex
 refine XE'.out ⟨_,zd3 lbr PySem.F.slot_list_index PySem.F.type_list_index zdF pt (yX pu vX m.hs) m.base m.few m.line m.hs m.plain,λH0 F0 ρ σ H F Q R o=>rt H0 F0 ρ σ H F _ R (OutE.fst o λd v H1 F1 g1 q o1=>?_)⟩
 split at o1
 ·rename_i hd
  cases q with
  | lst sq dq =>
   rename_i ad xs ds
   refine⟨.inl ⟨rfl,xs,(R.grow g1).fh.seq sq⟩,ru H0 F0 ρ σ H1 F1 _ (R.grow g1) (OutE.fst o1 λd2 v2 H2 F2 g2 q2 o2=>?_)⟩
   obtain⟨z,hz,k⟩:=o2.lf
   have fh:=(R.grow (g1.trans g2)).fh
   cases q2 with
   | bl key =>
    dsimp only [zk4] at hz
    split at hz
    ·rename_i h
     obtain⟨h1,h2,h3⟩:=h
     obtain rfl:=lq hz
     obtain rfl:=dq.truths h1
     have hlt:=lcp h3
     have hge:(ds.map ziR)[(ds.map ziR).idxOf key]=key:=lcj hlt
     refine⟨ad,_,_,(ds.map ziR).idxOf key,.bl key,rfl,rfl,fh.seq (g2.ff.seq sq),rfl,zfM _,?_,by show(key == key)=true;simp,by rw[lQ] at hlt;omega,λmm w hmm hw=>?_,k _ _ _ (Gr.refl fh) (.int _)⟩
     ·rw[lJ,lh hlt,hge];rfl
     ·have hml:mm<(ds.map ziR).length:=ldx hmm hlt
      rw[lJ,lh hml] at hw
      obtain rfl:=lq hw
      have:=lcW (p:=λz=>z == key) (xs:=ds.map ziR) hmm
      show((ds.map ziR)[mm] == key)=false
      simpa using this
    ·cases hz
   | _=>cases hz
  | _=>cases hd
 ·exact o1.elim
end
structure FnIn (X:Cx)(cl:Nat->Addr)(n:Nat)(fn:List D->Rs D)(f:Addr):Prop where
 ex:∃k fd ps,FnOk X.prog X.w X.K X.mg X.base (CX1 X.prog X.w) k f fd ps (spD X.K cl fn n)/\Room k X.A/\Binds X.K fd ps []
 kp:PySem.W.keepIn X.K (.ref f)=true
inductive FnsIn (X:Cx)(cl:Nat->Addr)(n:Nat):List Expr->List Addr->List (List D->Rs D)->Prop
 | nil:FnsIn X cl n [] [] []
 | cons {e:Expr}{f:Addr}{fn:List D->Rs D}{es:List Expr}{fs:List Addr}{fns:List (List D->Rs D)} (he:PE X.nox e (tC (.ref f))) (h:FnIn X cl n fn f) (r:FnsIn X cl n es fs fns) (hs:starEach (e::es) X.env=(false,eval e X.env)::starEach es X.env):FnsIn X cl n (e::es) (f::fs) (fn::fns)
section
variable {X:Cx}{cl:Nat->Addr}
theorem FnsIn.at {n:Nat}{es:List Expr}{fs:List Addr}{fns:List (List D->Rs D)}(h:FnsIn X cl n es fs fns):∀(i:Nat) (fn:List D->Rs D),fns[i]? = some fn->∃f,fs[i]? = some f/\FnIn X cl n fn f:=by
 induction h with
 | nil=>intro i fn e;simp at e
 | cons he h r hs ih =>
  intro i g e
  cases i with
  | zero=>simp at e;subst e;exact⟨_,rfl,h⟩
  | succ i=>exact ih i g (by simpa using e)
def PXs (X:Cx)(sts:List Stmt)(t:St->Hp->VK->XK->Prop):Prop:=∀(pins:List (Addr×Obj)) (s:Shared) (σ:St) (H:Hp) (D:Ends) (E:XK) (F':qQ2),Inv X pins σ H s ->
 (∀H s e s',Inv X pins σ H s->zdZ X.prog X.w X.stack H s E e s'->F' e s')->t σ H D.rt E->wpAny (model X.prog X.w) X.A (execs sts X.env) (SP X pins {D with nx:=λ_ _=>False,bk:=λ_ _=>False,ct:=λ_ _=>False}) F' s
theorem zme {rpos:Pos}(h:PX X e tx):PXs X [.Return (some e) rpos] tx:=by
 intro pins s σ H D E F' I hx q
 refine lda (wpAny_Return_some ?_)
 exact laF (h pins s σ H D.rt E F' I hx q) (λu s2 ⟨v,H2,I2,rv,q2⟩=>⟨v,σ,H2,I2,rv,q2⟩) λ_ _ z=>z
theorem znO {a rest:List Stmt}{ipos:Pos}{tc:TT}{ty:St->Hp->VK->XK->Prop}(hc:PT X.nox c tc)(ha:PXs X a tx)(hr:PXs X rest ty):PXs X (.If c a [] ipos::rest) (λσ H Q E=>tc σ H λd H1=>if d=true then tx σ H1 Q E else ty σ H1 Q E):=by
 intro pins s σ H D E F' I hx q
 refine lda (wpAny_If (laF (hc pins s σ H _ (I.wish _) q) (λd s1 ⟨H1,I1,q1⟩=>?_) λ_ _ z=>False.elim z))
 cases d with
 | true =>
  refine laF (ha pins s1 σ H1 D E F' I1.unwish hx q1) (λfl s2 z=>?_) λ_ _ z=>z
  cases fl with
  | next=>obtain⟨_,_,_,z⟩:=z;exact z.elim
  | ret v=>exact z
  | brk=>exact z
  | cont=>exact z
 | false=>exact lcK (hr pins s1 σ H1 D E F' I1.unwish hx q1)
def XXs (X:Cx)(cl:Nat->Addr)(sts:List Stmt)(f:qQ5):Prop:=PXs X sts (λσ H Q E=>∃H0 F0 ρ F,Rl X.K cl H0 F0 ρ σ H F/\OutE X.K cl E H0 F H (f ρ) Q)
theorem zh0 {rpos:Pos}{f:qQ5}(h:XX X cl e f):XXs X cl [.Return (some e) rpos] f:=zme h
theorem PXs.mono (h:PXs X sts t)(k:∀σ H Q E,u σ H Q E->t σ H Q E):PXs X sts u:=λpins s σ H D E F' I hx q=>h pins s σ H D E F' I hx (k σ H D.rt E q)
theorem znk {a rest:List Stmt}{ipos:Pos}{fa fb:qQ5}(hc:XT X.nox cl E0 c ft)(ha:XXs X cl a fa)(hb:XXs X cl rest fb):XXs X cl (.If c a [] ipos::rest) (fIf (zdl ft) fa fb):=by
 obtain⟨t,pt,rt⟩:=hc.ex
 refine(znO pt ha hb).mono λσ H Q E ⟨H0,F0,ρ,F,R,o⟩=>rt H0 F0 ρ σ H F _ R ?_
 unfold fIf zdl at o
 cases e:ft ρ with
 | ex n=>rw[e] at o;exact o.elim
 | no=>rw[e] at o;exact o.elim
 | ok d =>
  rw[e] at o
  intro H1 F1 g
  have o1:OutE X.K cl E H0 F H (if d=true then fa ρ else fb ρ) Q:=o
  have up:∀r:Rs D,OutE X.K cl E H0 F H r Q->OutE X.K cl E H0 F1 H1 r Q:=λr z=>by
   cases r with
   | ok d=>exact λv H' F' g' q'=>z v H' F' (g.trans g') q'
   | ex n=>exact z
   | no=>exact z
  split
  ·rename_i hd
   rw[lU hd] at o1
   exact⟨H0,F0,ρ,F1,R.grow g,up _ o1⟩
  ·rename_i hd
   rw[lac hd] at o1
   exact⟨H0,F0,ρ,F1,R.grow g,up _ o1⟩
theorem zj2 {n:Str}{hpos:Pos}{b₀:Stmt}{suite:List Stmt}{th:TS}{more:List ExceptHandler}(hx:PXs X sts tx)(O:Own X.K X.mg x)(hgx:Gl X x)(hN:X.N.Nodup)(hi:X.N[i]? = some n)(hlo:X.env.scope.names.lookup n=some .local)(hs:∀a,PSs (X.hand a) (b₀::suite) th)
  (hst:X.stack=X.env::X.outer) (hfr:X.env.frame=some X.env.locals) (hdx:(x == ("__debug__" : Str))=false:=by decide) :
  PS X (.Try sts (.ExceptHandler (some (.Name x np)) (some n) (b₀::suite) hpos::more) [] [] pos) (λD σ H=>tx σ H D.rt (zke X.K O.C i th D σ)):=by
 intro pins s σ H D I h
 refine wpAny_Try_except (laF (hx pins s σ H D _ _ I (λH2 s2 e2 s3 I2 hf=>caught I2 hst hfr O hgx hN hi hlo hs hf hdx) h) (λfl s2 z=>?_) λ_ _ z=>z)
 cases fl with
 | next=>obtain⟨_,_,_,z⟩:=z;exact z.elim
 | ret v=>exact z
 | brk=>obtain⟨_,_,_,z⟩:=z;exact z.elim
 | cont=>obtain⟨_,_,_,z⟩:=z;exact z.elim
theorem zlg {n xc:Str}{rp2 hpos:Pos}{cs:List Nat}{ef hf:qQ5}{hd:Expr}(hx:XXs X cl sts ef)(O:Own X.K X.mg xc)(hgx:Gl X xc)(hN:X.N.Nodup)(hi:X.N[i]? = some n)(hlo:X.env.scope.names.lookup n=some .local)
  (hcs:zf7 (λn=>PySem.W.subIn X.K (.ref (cl n)) (.ref O.C)=some true) cs) (hh:∀a,XE (X.hand a) cl E0 hd hf) (hst:X.stack=X.env::X.outer) (hfr:X.env.frame=some X.env.locals) (hdx:(xc == ("__debug__" : Str))=false:=by decide) :
  XS X cl E (.Try sts [.ExceptHandler (some (.Name xc np)) (some n) [.Return (some hd) rp2] hpos] [] [] pos) (zpa i cs ef hf):=by
 refine XS'.out ⟨_,zj2 hx O hgx hN hi hlo (λa=>ziz (zkz (te:=tDE X.K cl E0 hf) (hh a))) hst hfr hdx,λH0 F0 ρ σ H F Dn R o=>?_⟩
 unfold zpa at o
 split at o
 ·rename_i hal
  refine⟨H,F,ρ,F,R.base hal,?_⟩
  cases e:ef ρ with
  | ok d=>rw[e] at o;exact λv H' F' g q=>o v H' F' (R.gr.trans g) q
  | no=>rw[e] at o;exact o
  | ex n =>
   rw[e] at o
   dsimp only at o
   split at o
   ·rename_i hn
    intro H' sH
    refine⟨cl n,rfl,hcs n hn,λa ha=>?_⟩
    have g:=Gr.exc (o:=excAt a (cl n)) R.fh sH ha
    refine⟨H0,F0,_,_,(R.grow g).set (i:=i) (.exc zV),?_⟩
    cases e2:hf (ρ.set i (.fz (.exc n))) with
    | ok d=>rw[e2] at o;exact λv H2 F2 g2 q2=>o v H2 F2 ((R.gr.trans g).trans g2) q2
    | ex m=>rw[e2] at o;exact o.elim
    | no=>rw[e2] at o;exact o.elim
   ·exact o.elim
 ·exact o.elim
end
end L2
namespace L2
open PySem PySem.Spec PyProof.Rows
open AutoSeq1 (wpAny_loadPart')
end L2
namespace L2
open PySem PySem.Spec PyProof.Rows
variable {cl:Nat->Addr}
def intD:List D->Option D
 | [.bl b]=>some (.int (if b then 1 else 0))
 | _=>none
theorem n_int {K:qQ0}:Fn1 K cl (λxs H Q=>∃b,xs=[.bl b]/\Q (.int (if b then 1 else 0)) H) intD:=λF H vs ds d Q s q e k=>by
 match ds,q,e with
 | [.bl b],q,e =>
  obtain⟨v,rfl,q1⟩:=q.one
  cases q1
  obtain rfl:=lq e
  exact⟨b,rfl,k _ _ _ (Gr.refl s) (.int _)⟩
theorem zgW {X:Cx}{E:XK}{st:Stmt}{rest:List Stmt}{g h:Rho->Out}(h1:XSt X cl E st g)(h2:XSb X cl E rest h):XSb X cl E (st::rest) (zW g h):=⟨zx h1.out h2.out⟩
end L2
namespace L2
open PySem PySem.Spec PyProof.Rows
open AutoSeq1 (wpAny_loadPart')
end L2
namespace L2
open PySem PySem.Spec PyProof.Rows
end L2
namespace L2
open PySem
def tI (led:Bool)(ks:List Nat):SetTable:=if ks.length<5 then {mask:=7,place:=ks.toArray,dummies:=#[],finger:=0,led,moves:=0,plain:=true} else {mask:=31,place:=ks.toArray,dummies:=#[],finger:=0,led,moves:=1,plain:=true}
def zmX:qQ1:=([1,2,3,4,5,6]:List Nat).foldr (λx acc=>acc++acc.map (x :: ·)) [[]]
theorem zo8:∀led,∀ks∈zmX,(tI led ks).fits ks.length=true/\(tI led ks).led=led/\(tI led ks).plain=true/\ks.length<=6/\ks.Nodup/\∀k∈ks,k∈([1,2,3,4,5,6]:List Nat):=by decide +kernel
structure StI (w:World)(es:Array (Int×Value))(t:SetTable)(ks:List Nat):Prop where
 hs:es.toList.map (·.1)=ks.map λ(k:Nat)=>(k:Int)
 vs:∀e∈es.toList,∃(k:Nat) (tk:Tok),k∈ks/\e=((k:Int),Value.int (k:Int) tk)
 tb:t=tI (!w.params.followText "set-order") ks
 sb:ks∈zmX
section
variable {prog:Program}{w:World}{A:Around}{E:qQ2}{s:Shared}{es:Array (Int×Value)}{t:SetTable}{ks:List Nat}
theorem StI.size (S:StI w es t ks):es.size=ks.length:=by
 have:=lbB List.length S.hs
 simpa using this
theorem StI.fits (S:StI w es t ks):t.fits es.size=true:=by rw[S.size,S.tb];exact(zo8 _ ks S.sb).1
theorem StI.find (S:StI w es t ks)(x:Nat):(∃e∈es.toList,Value.isInt (x:Int) e.2=true)↔x∈ks:=by
 constructor
 ·rintro ⟨e,he,h⟩
  obtain⟨k,tk,hk,rfl⟩:=S.vs e he
  have:(x:Int)=(k:Int):=by
   obtain⟨t,e⟩:=Value.isInt_shape h
   injection e with e _
   exact e.symm
  have:x=k:=by omega
  subst this;exact hk
 ·intro hx
  have:(x:Int)∈es.toList.map (·.1):=by rw[S.hs];exact List.mem_map_of_mem hx
  obtain⟨e,he,e1⟩:=lat.mp this
  obtain⟨k,tk,hk,rfl⟩:=S.vs e he
  refine⟨_,he,?_⟩
  dsimp only at e1
  rw[e1]
  simp[Value.isInt]
end
end L2
set_option maxHeartbeats 3200000
namespace L2
open PySem
section
variable {prog:Program}{w:World}{A:Around}{E:qQ2}{s:Shared}
theorem StI.new:StI w #[] (.fresh 0 0 (!w.params.followText "set-order")) []:=⟨rfl,λe he=>by simp at he,rfl,by decide⟩
end
end L2
namespace L2
open PySem PySem.Spec PyProof.Rows
end L2
set_option maxHeartbeats 1000000
namespace L2
open PySem PySem.Spec PyProof.Rows
end L2
namespace L2
open PySem PySem.W PyProof.Rows
variable {Q:Nat×Array Nat->Shared->Prop}{x y:Key}
structure Ord (n:Nat)(b:Nat->Nat->Bool):Prop where
 tr:∀i j k,i<n->j<n->k<n->b i j=true->b j k=true->b i k=true
 tot:∀i j,i<n->j<n->i≠j->b i j=false->b j i=true
 ir:∀i,i<n->b i i=false
def PP (n:Nat)(p:Array Nat):Prop:=p.toList.Perm (List.range n)
section
variable {n:Nat}{b:Nat->Nat->Bool}{cmp:Nat->Nat->(Bool->Shared->Prop)->Shared->Prop}{s:Shared}{p:Array Nat}
theorem gd (p:Array Nat)(i:Nat):p.getD i 0=(p[i]?).getD 0:=by simp[Array.getD];split <;>simp_all
theorem PP.size (h:PP n p):p.size=n:=by have:=h.length_eq;simpa using this
theorem PP.lt (h:PP n p){i:Nat}(hi:i<n):p.getD i 0<n:=by
 have hs:=h.size
 have e:p.getD i 0=p[i]'(by omega):=by rw[gd,getElem?_pos p i (by omega)];rfl
 rw[e]
 exact lbf.mp (h.mem_iff.mp (Array.getElem_mem_toList (by omega)))
theorem PP.inj (h:PP n p){i j:Nat}(hi:i<n)(hj:j<n)(hij:i≠j):p.getD i 0≠p.getD j 0:=by
 have hs:=h.size
 have nd:p.toList.Nodup:=h.nodup_iff.mpr List.nodup_range
 have e:∀k,k<n->p.getD k 0=p.toList.getD k 0:=λk hk=>by rw[gd];simp
 rw[e i hi,e j hj]
 intro z
 have hl:p.toList.length=n:=by simpa using hs
 rw[ly,ly,lh (by omega),lh (by omega)] at z
 have pw:=lcx.mp nd
 rcases Nat.lt_or_gt_of_ne hij with c|c
 ·exact pw i j (by omega) (by omega) c z
 ·exact pw j i (by omega) (by omega) c z.symm
def Sd (b:Nat->Nat->Bool)(k:Nat)(p:Array Nat):Prop:=∀i j,i<j->j<k->b (p.getD i 0) (p.getD j 0)=true
def Dd (b:Nat->Nat->Bool)(k:Nat)(p:Array Nat):Prop:=∀i j,i<j->j<k->b (p.getD j 0) (p.getD i 0)=true
variable (O:Ord n b)(hc:∀i j (C:Bool->Shared->Prop),i<n->j<n->C (b i j) s->cmp i j C s)
include O hc
theorem zhz (hp:PP n p){Q:Nat->Shared->Prop}:∀(f m:Nat),1<=m->m+f=n->Sd b m p->(∀m',m<=m'->m'<=n->Sd b m' p->(m'<n->b (p.getD m' 0) (p.getD (m' - 1) 0)=true)->Q m' s)->(kas_asc p f m).kasWp cmp Q s
 | 0,m,h1,h2,h3,q=>q m (lB _) (by omega) h3 (λh=>by omega)
 | f + 1,m,h1,h2,h3,q=>by
  refine hc _ _ _ (hp.lt (by omega)) (hp.lt (by omega)) ?_
  cases e:b (p.getD m 0) (p.getD (m - 1) 0) with
  | true=>exact q m (lB _) (by omega) h3 λ_=>e
  | false =>
   refine zhz hp f (m+1) (by omega) (by omega) ?_ λm' a1 a2 a3 a4=>q m' (by omega) a2 a3 a4
   have e':=O.tot _ _ (hp.lt (show m<n by omega)) (hp.lt (show m - 1<n by omega)) (hp.inj (by omega) (by omega) (by omega)) e
   intro i j hij hj
   by_cases hjm:j=m
   ·subst hjm
    by_cases hi:i=j - 1
    ·rw[hi];exact e'
    ·exact O.tr _ _ _ (hp.lt (by omega)) (hp.lt (by omega)) (hp.lt (by omega)) (h3 i (j - 1) (by omega) (by omega)) e'
   ·exact h3 i j hij (by omega)
theorem zhu (hp:PP n p){Q:Array Nat×Nat×Nat->Shared->Prop}:∀(f m:Nat),1<=m->m+f=n->Dd b m p->(∀m',m<=m'->m'<=n->Dd b m' p->Q (p,m',0) s)->(kas_desc f p m 0).kasWp cmp Q s
 | 0,m,h1,h2,h3,q=>q m (lB _) (by omega) h3
 | f + 1,m,h1,h2,h3,q=>by
  refine hc _ _ _ (hp.lt (by omega)) (hp.lt (by omega)) ?_
  cases e:b (p.getD m 0) (p.getD (m - 1) 0) with
  | true =>
   refine zhu hp f (m+1) (by omega) (by omega) ?_ λm' a1 a2 a3=>q m' (by omega) a2 a3
   intro i j hij hj
   by_cases hjm:j=m
   ·subst hjm
    by_cases hi:i=j - 1
    ·rw[hi];exact e
    ·exact O.tr _ _ _ (hp.lt (by omega)) (hp.lt (by omega)) (hp.lt (by omega)) e (h3 i (j - 1) (by omega) (by omega))
   ·exact h3 i j hij (by omega)
  | false =>
   have e':=O.tot _ _ (hp.lt (show m<n by omega)) (hp.lt (show m - 1<n by omega)) (hp.inj (by omega) (by omega) (by omega)) e
   refine hc _ _ _ (hp.lt (by omega)) (hp.lt (by omega)) ?_
   rw[e']
   exact q m (lB _) (by omega) h3
omit O hc in
theorem zkQ (hp:PP n p)(i j:Nat):PP n (kas_rev p i j):=((mirror_perm p i j _).toList).trans hp
omit O hc in
theorem znm (hp:PP n p){m:Nat}(hm:m<=n)(h:Dd b m p):Sd b m (kas_rev p 0 m):=by
 have hs:=hp.size
 have e:∀k,k<m->(kas_rev p 0 m).getD k 0=p.getD (m - 1 - k) 0:=λk hk=>by
  rw[gd,gd]
  unfold kas_rev
  rw[getElem?_mirror_all (by omega),lU ⟨lbq _,hk⟩,la7]
 intro i j hij hj
 rw[e i (by omega),e j hj]
 exact h _ _ (by omega) (by omega)
theorem zlh (hp:PP n p){m:Nat}(h1:1<=m)(hm:m<=n)(h:Dd b m p)(q:∀m' p',PP n p'->1<=m'->m'<=n->Sd b m' p'->Q (m',p') s):(kas_tail3 m n p).kasWp cmp Q s:=by
 unfold kas_tail3
 rw[lcQ]
 exact zhz O hc (zkQ hp 0 m) (n - m) m h1 (by omega) (znm hp hm h) λm' a1 a2 a3 _=>q m' _ (zkQ hp 0 m) (by omega) a2 a3
theorem zj7 (hp:PP n p)(h2:2<=n)(q:∀m' p',PP n p'->1<=m'->m'<=n->Sd b m' p'->Q (m',p') s):(kas_count n p).kasWp cmp Q s:=by
 unfold kas_count
 rw[lcQ]
 refine zhz O hc hp (n - 1) 1 (lB _) (by omega) (λi j hij hj=>by omega) λm a1 a2 a3 a4=>?_
 by_cases e:m=n
 ·rw[lU (by simp[e])]
  exact q m p hp a1 a2 a3
 ·rw [lac (by simp[e])]
  by_cases g:m > 1
  ·rw[lU g]
   refine hc _ _ _ (hp.lt (by omega)) (hp.lt (by omega)) ?_
   rw[a3 0 (m - 1) (by omega) (by omega)]
   exact q m p hp a1 a2 a3
  ·rw [lac g]
   have m1:m=1:=by omega
   subst m1
   unfold kas_descPart
   rw[lcQ]
   have a4':=a4 (by omega)
   refine zhu O hc hp (n - (1+1)) (1+1) (by omega) (by omega) (λi j hij hj=>?_) λm' b1 b2 b3=>?_
   ·have:i=0/\j=1:=by omega
    rw[this.1,this.2]
    exact a4'
   ·rw[lac (by show ¬0 > 0;omega)]
    exact zlh O hc hp (by omega:1<=m') b2 b3 q
theorem zcW (hp:PP n p){k:Nat}(hk:k<n)(sd:Sd b k p){Q:Nat->Shared->Prop}(q:∀l,l<=k->(∀i,i<l->b (p.getD i 0) (p.getD k 0)=true)->(∀i,l<=i->i<k->b (p.getD k 0) (p.getD i 0)=true)->Q l s) :
  ∀(f l r:Nat),l<=r->r<=k->r - l<=f->(∀i,i<l->b (p.getD i 0) (p.getD k 0)=true)->(∀i,r<=i->i<k->b (p.getD k 0) (p.getD i 0)=true)->(kas_place p k f l r).kasWp cmp Q s
 | 0,l,r,h1,h2,h3,ha,hb=>q l (by omega) ha λi hi=>hb i (by omega)
 | f + 1,l,r,h1,h2,h3,ha,hb=>by
  unfold kas_place
  by_cases g:l≥r
  ·rw[lU g]
   exact q l (by omega) ha λi hi=>hb i (by omega)
  ·rw [lac g]
   have mk:(l+r) / 2<k:=by omega
   refine hc _ _ _ (hp.lt (by omega)) (hp.lt (by omega)) ?_
   cases e:b (p.getD k 0) (p.getD ((l+r) / 2) 0) with
   | true =>
    refine zcW hp hk sd q f l ((l+r) / 2) (by omega) (by omega) (by omega) ha λi hi hik=>?_
    by_cases z:i=(l+r) / 2
    ·rw[z];exact e
    ·exact O.tr _ _ _ (hp.lt (by omega)) (hp.lt (by omega)) (hp.lt (by omega)) e (sd _ i (by omega) hik)
   | false =>
    have e':=O.tot _ _ (hp.lt hk) (hp.lt (show(l+r) / 2<n by omega)) (hp.inj hk (by omega) (by omega)) e
    refine zcW hp hk sd q f ((l+r) / 2+1) r (by omega) (by omega) (by omega) (λi hi=>?_) hb
    by_cases z:i=(l+r) / 2
    ·rw[z];exact e'
    ·exact O.tr _ _ _ (hp.lt (by omega)) (hp.lt (by omega)) (hp.lt (by omega)) (sd i _ (by omega) mk) e'
theorem zks {Q:Array Nat->Shared->Prop}(q:∀p',PP n p'->Sd b n p'->Q p' s):∀(f k:Nat) (p:Array Nat),PP n p->k+f=n->Sd b k p->(kas_bin f p k).kasWp cmp Q s
 | 0,k,p,hp,h1,sd=>q p hp ((show k=n by omega)▸sd)
 | f + 1,k,p,hp,h1,sd=>by
  unfold kas_bin
  rw[lcQ]
  refine zcW O hc hp (show k<n by omega) sd (λl hl ha hb=>?_) k 0 k (lbq _) (lB _) (by omega) (λi hi=>by omega) (λi hi hk=>by omega)
  have hs:=hp.size
  have e:∀i,(bubble p k (k - l)).getD i 0=if i=l then p.getD k 0 else if l<i/\i<=k then p.getD (i - 1) 0 else p.getD i 0:=λi=>by
   rw[gd,getElem?_bubble (by omega) _ (by omega)]
   rw[show k - (k - l)=l by omega]
   repeat' split
   all_goals rw[gd]
  refine zks q f (k+1) (bubble p k (k - l)) (((bubble_perm p k _).toList).trans hp) (by omega) λi j hij hj=>?_
  rw[e i,e j]
  by_cases c1:i=l
  ·rw[lU c1,lac (by omega),lU (by omega)]
   exact hb _ (by omega) (by omega)
  ·rw [lac c1]
   by_cases c2:j=l
   ·rw[lU c2,lac (by omega)]
    exact ha i (by omega)
   ·rw [lac c2]
    by_cases c3:l<j
    ·rw[lU (show l<j/\j<=k by omega)]
     by_cases c4:l<i
     ·rw[lU (by omega)];exact sd _ _ (by omega) (by omega)
     ·rw[lac (by omega)];exact sd _ _ (by omega) (by omega)
    ·rw[lac (show ¬(l<j/\j<=k) by omega),lac (by omega)]
     exact sd _ _ hij (by omega)
theorem zk7 (h2:2<=n){Q:Array Nat->Shared->Prop}(q:∀p',PP n p'->Sd b n p'->Q p' s):(kas_sort n).kasWp cmp Q s:=by
 unfold kas_sort
 rw[lcQ]
 refine zj7 O hc (p:=List.toArray (List.range n)) (by unfold PP;exact lbk _) h2 λm p' hp a1 a2 a3=>?_
 dsimp only
 by_cases g:m<n
 ·rw[lU g]
  rw[show max m 1=m by omega]
  exact zks O hc q (n - m) m p' hp (by omega) a3
 ·rw[lac g]
  exact q p' hp ((show m=n by omega)▸a3)
end
def zgS:Key->Key->Bool
 | .inl i,.inl j=>decide (i<j)
 | .inr a,.inr b=>decide (a.cps.toList<b.cps.toList)
 | _,_=>false
def znA:Key->Key->Bool
 | .inl _,.inl _=>true
 | .inr _,.inr _=>true
 | _,_=>false
def jo:List Key->List Key->Bool
 | [],[]=>false
 | [],_::_=>true
 | _::_,[]=>false
 | x::xs,y::ys=>if x=y then jo xs ys else zgS x y
def ze0:List Key->List Key->Bool
 | x::xs,y::ys=>znA x y&&ze0 xs ys
 | _,_=>true
section
variable {prog:Program}{w:World}{A:Around}{E:qQ2}{s:Shared}
theorem znM {p q:Value}{b:Bool}{Q:Bool->Shared->Prop}(o:znA x y=true)(rp:RelV (kV x) p)(rq:RelV (kV y) q)(h:Q (zgS x y) s):wpAny (model prog w) A (oneLt' b p q) Q E s:=by
 cases x with
 | inl i =>
  cases y with
  | inl j =>
   obtain⟨t,rfl⟩:=rp
   obtain⟨u,rfl⟩:=rq
   cases b with
   | true=>exact oneLt_int h
   | false=>exact kat_one _ _ (lt_int h)
  | inr j=>cases o
 | inr i =>
  cases y with
  | inl j=>cases o
  | inr j =>
   obtain⟨t,rfl⟩:=rp
   obtain⟨u,rfl⟩:=rq
   cases b with
   | true=>exact oneLt_str h
   | false=>exact kat_one _ _ (lt_str h)
theorem zkO {p q:Value}{Q:Bool->Shared->Prop}(o:znA x y=true)(rp:RelV (kV x) p)(rq:RelV (kV y) q)(h:Q (decide (x=y)) s):wpAny (model prog w) A (eqBool p q) Q E s:=by
 cases x with
 | inl i =>
  cases y with
  | inl j =>
   obtain⟨t,rfl⟩:=rp
   obtain⟨u,rfl⟩:=rq
   refine wpAny_eqBool_int ?_
   have:(i == j)=decide ((Sum.inl i:Key)=.inl j):=by by_cases z:i=j <;>simp[z]
   rw[this];exact h
  | inr j=>cases o
 | inr i =>
  cases y with
  | inl j=>cases o
  | inr j =>
   obtain⟨t,rfl⟩:=rp
   obtain⟨u,rfl⟩:=rq
   refine wpAny_eqBool_str ?_
   have:decide (i=j)=decide ((Sum.inr i:Key)=.inr j):=by by_cases z:i=j <;>simp[z]
   rw[this];exact h
theorem zhT {fin:Bool}{Q:Bool->Shared->Prop}:∀(xs ys:List Key) (us vs:List Value) (i:Nat),Vals (xs.map kV) us->Vals (ys.map kV) vs->ze0 xs ys=true->fin=decide (xs.length<ys.length)->Q (jo xs ys) s->KatLex prog w A true fin Q (us.zip vs) i s
 | [],[],us,vs,i,r1,r2,o,f,q=>by
  cases r1;cases r2
  refine kat_nil ?_
  rw[f];exact q
 | [],y::ys,us,vs,i,r1,r2,o,f,q=>by
  cases r1
  refine kat_nil ?_
  rw[f,lX (by simp)];exact q
 | x::xs,[],us,vs,i,r1,r2,o,f,q=>by
  cases r2
  rw[List.zip_nil_right]
  refine kat_nil ?_
  rw[f,laa (by simp)];exact q
 | x::xs,y::ys,us,vs,i,r1,r2,o,f,q=>by
  cases r1 with
  | cons rp r1 =>
  cases r2 with
  | cons rq r2 =>
  unfold ze0 at o
  rw[lM] at o
  rw[lb4]
  refine kat_cons (zkO o.1 rp rq ?_)
  unfold jo at q
  by_cases z:x=y
  ·rw[lX z]
   rw[lU z] at q
   exact kat_yes (zhT xs ys _ _ (i+1) r1 r2 o.2 (by rw[f];simp) q)
  ·rw[laa z]
   rw[lac z] at q
   exact kat_no (znM o.1 rp rq q)
end
theorem zjc:∀{a b:List Nat},¬a<b->a≠b->b<a:=λ{a b} h z=>by
 have h1:=la8.mp h
 rcases Classical.em (b<a) with c|c
 ·exact c
 ·exact absurd (ldf (la8.mp c) h1) z
theorem znh {a b:Str}(h:a.cps.toList=b.cps.toList):a=b:=by
 cases a;cases b
 simp only at h
 congr 1
 exact Array.toList_inj.mp h
theorem zjM (o:znA x y=true)(z:x≠y)(h:zgS x y=false):zgS y x=true:=by
 cases x with
 | inl i =>
  cases y with
  | inl j =>
   have h':decide (i<j)=false:=h
   have:i≠j:=λe=>z (by rw[e])
   have h2:=ldz h'
   show decide (j<i)=true
   exact lX (by omega)
  | inr j=>cases o
 | inr i =>
  cases y with
  | inl j=>cases o
  | inr j =>
   have h2:=ldz (show decide (i.cps.toList<j.cps.toList)=false from h)
   exact lX (zjc h2 λe=>z (by rw[znh e]))
theorem zl9 (x:Key):zgS x x=false:=by
 cases x with
 | inl i=>exact laa (by omega)
 | inr i=>exact laa (lb7 _)
theorem zmt:∀{x y z:Key},zgS x y=true->zgS y z=true->zgS x z=true
 | .inl i,.inl j,.inl k,h1,h2=>by
  have a:i<j:=lbN h1
  have b:j<k:=lbN h2
  exact lX (by omega)
 | .inr i,.inr j,.inr k,h1,h2=>lX (ldQ (lbN h1) (lbN h2))
 | .inl _,.inr _,_,h1,_=>by cases h1
 | .inr _,.inl _,_,h1,_=>by cases h1
 | .inl _,.inl _,.inr _,_,h2=>by cases h2
 | .inr _,.inr _,.inl _,_,h2=>by cases h2
theorem zfe:∀xs:List Key,jo xs xs=false
 | []=>rfl
 | x::xs=>by unfold jo;rw[lU rfl];exact zfe xs
theorem zcV:∀{xs ys:List Key},ze0 xs ys=true->xs≠ys->jo xs ys=false->jo ys xs=true
 | [],[],_,z,_=>absurd rfl z
 | [],_::_,_,_,h=>by cases h
 | _::_,[],_,_,_=>rfl
 | x::xs,y::ys,o,z,h=>by
  unfold ze0 at o
  rw[lM] at o
  unfold jo at h ⊢
  by_cases e:x=y
  ·rw[lU e] at h
   rw[lU e.symm]
   exact zcV o.2 (λq=>z (by rw[e,q])) h
  ·rw[lac e] at h
   rw[lac λq=>e q.symm]
   exact zjM o.1 e h
theorem zcF:∀{xs ys zs:List Key},jo xs ys=true->jo ys zs=true->jo xs zs=true
 | [],[],_,h,_=>by cases h
 | [],_::_,[],_,h=>by cases h
 | [],_::_,_::_,_,_=>rfl
 | _::_,[],_,h,_=>by cases h
 | _::_,_::_,[],_,h=>by cases h
 | x :: xs,y::ys,z::zs,h1,h2=>by
  unfold jo at h1 h2 ⊢
  by_cases e1:x=y
  ·subst e1
   rw[lU rfl] at h1
   by_cases e2:x=z
   ·rw[lU e2] at h2 ⊢
    exact zcF h1 h2
   ·rw[lac e2] at h2 ⊢
    exact h2
  ·rw [lac e1] at h1
   by_cases e2:y=z
   ·subst e2
    rw[lac e1]
    exact h1
   ·rw [lac e2] at h2
    have h3:=zmt h1 h2
    by_cases e3:x=z
    ·subst e3
     rw[zl9] at h3
     cases h3
    ·rw[lac e3]
     exact h3
section
variable {prog:Program}{w:World}{A:Around}{E:qQ2}{s:Shared}
abbrev vo (h:Heap)(a:Addr)(vs:List Value):Heap:=((h.update a (Obj.mapSeq λ_=>#[])).push (seqObj "tuple" vs.toArray 0)).push (seqObj "list" #[] 0)
theorem zbd {κ:SortKind}{b:Nat->Nat->Bool}{a:Addr}{vs:List Value}{n:Nat}{P:PySem.Fin->Shared->Prop}(ho:s.heap.get? a=some (seqObj "list" vs.toArray n))(O:Ord vs.length b)
  (hkk:2<=vs.length->∀(Q:SortKind->Shared->Prop),Q κ {s with heap:=vo s.heap a vs}->wpAny (model prog w) A (keyKind' vs.toArray) Q E {s with heap:=vo s.heap a vs})
  (hc:∀i j (C:Bool->Shared->Prop),i<vs.length->j<vs.length->C (b i j) {s with heap:=vo s.heap a vs}->kas_ask prog w A κ vs i j C {s with heap:=vo s.heap a vs}) (h64:vs.length<64)
  (h:∀p,PP vs.length p->Sd b vs.length p->P (.done (.ret .none)) {s with heap:=sortedHeap s.heap a vs (List.toArray (p.toList.map λi=>vs.getD i Value.none))}) :
  wpAny (model prog w) A (Builtin.«list.sort» ⟨[.ref a],[]⟩) P E s:=by
 rw[list_sort_plain]
 have ha:a<s.heap.objs.size:=lE ho
 refine la (ldA ho rfl ?_)
 refine la (ldk ho rfl ?_)
 obtain⟨e1,ho1⟩:∃e1,(s.heap.update a (Obj.mapSeq λ_=>#[])).get? a=some (seqObj "list" #[] e1):=⟨_,lbV ho (λ_=>#[])⟩
 refine la (seqEpoch_at ho1 rfl ?_)
 refine la (ldB ?_)
 refine la (lcr ?_)
 refine lak ?_
 have ho6:(vo s.heap a vs).get? a=some (seqObj "list" #[] e1):=by
  rw[lc2 _ _ _ (by rw[ldm,lcA];exact lab (ldH ha)),lc2 _ _ _ (by rw[lcA];exact lab ha)]
  exact ho1
 show wpAny (model prog w) A _ P E {s with heap:=vo s.heap a vs}
 dsimp only
 have hsz:vs.toArray.size=vs.length:=by simp
 by_cases h2:vs.toArray.size<2
 ·rw [lU h2,lU h2]
  refine la (lr ?_)
  rw[StateT.run_pure]
  refine la (lr ?_)
  dsimp only
  refine la (seqEpoch_at ho6 rfl ?_)
  refine la (ldk ho6 rfl ?_ (hsz2:=by rw[Array.size_map];show(pairsOf vs).size<=_;rw[pairsOf_size,lbg];omega))
  simp only[bne_self_eq_false,lS,laU]
  have f:=h (List.toArray (List.range vs.length)) (lbk _) (λi j hij hj=>by omega)
  have e:(List.toArray ((List.toArray (List.range vs.length)).toList.map λi=>vs.getD i Value.none))=(vs.toArray.zip vs.toArray).map (·.2):=by
   apply Array.toList_inj.mp
   apply ldV
   ·simp
   ·intro i h1 h2
    have hi:i<vs.length:=by simpa using h1
    simp[hi]
  rw[e] at f
  exact lr f
 ·rw [lac h2,lac h2]
  rw[hsz] at h2
  refine la (hkk (by omega) _ ?_)
  refine la (laF (kat_run (ks:=vs) (κ:=κ) (Q:=λst' s'=>s'={s with heap:=vo s.heap a vs}/\∃p:Array Nat,PP vs.length p/\Sd b vs.length p/\arrOf st'=p.map (kas_item (vs.toArray.zip vs.toArray))/\failedOf st'=none)
   (G:=λp s'=>s'={s with heap:=vo s.heap a vs}/\PP vs.length p/\Sd b vs.length p) rfl (by omega) h64 (λp st' s' a1 a2 a3 a4=>⟨a4.1,p,a4.2.1,a4.2.2,a2,a3⟩)
   (zk7 O hc (by omega) λp' q1 q2=>⟨rfl,q1,q2⟩)) ?_ λ_ _ e=>e)
  rintro⟨⟨⟩,st'⟩ s' ⟨rfl,p,hp,sd,har,hf⟩
  dsimp only
  have hout:=kat_snds (ks:=vs) rfl har
  rw[hout]
  have hz:(List.toArray (p.toList.map λi=>vs.getD i Value.none)).size=vs.length:=by rw[lP,lQ,lbw];exact hp.size
  refine la (seqEpoch_at ho6 rfl ?_)
  refine la (ldk ho6 rfl ?_ (hsz2:=by rw[hz,lbg];omega))
  rw[hf]
  simp only[bne_self_eq_false,lS,laU]
  exact lr (h p hp sd)
end
def zpN:Key->Bool
 | .inl _=>true
 | .inr _=>false
structure Srtb (kss:List (List Key)):Prop where
 ne:∃c,∀ks∈kss,∃k r,ks=k::r/\zpN k=c
 ok:∀x∈kss,∀y∈kss,ze0 x y=true
 nd:kss.Nodup
section
variable {X:Cx}
theorem Srtb.ord {kss:List (List Key)}(h:Srtb kss):Ord kss.length λi j=>jo (kss.getD i []) (kss.getD j []):=by
 have mem:∀i,i<kss.length->kss.getD i []∈kss:=λi hi=>by rw[ly,lh hi];exact laD hi
 refine⟨λi j k _ _ _ a b=>zcF a b,λi j hi hj hij e=>zcV (h.ok _ (mem i hi) _ (mem j hj)) (λz=>hij ?_) e,λi _=>zfe _⟩
 rw[ly,ly,lh hi,lh hj] at z
 have pw:=lcx.mp h.nd
 rcases Nat.lt_trichotomy i j with c|c|c
 ·exact absurd z (pw i j hi hj c)
 ·exact c
 ·exact absurd z.symm (pw j i hj hi c)
end
def zj1 (x:D):List D->List D
 | []=>[x]
 | y::ys=>if jo (kj x) (kj y) then x::y::ys else y::zj1 x ys
def ziO (ds:List D):List D:=ds.foldr zj1 []
theorem zbT (x:D):∀ys:List D,(zj1 x ys).Perm (x::ys)
 | []=>lbk _
 | y::ys=>by
  unfold zj1
  split
  ·exact lbk _
  ·exact((zbT x ys).cons y).trans (List.Perm.swap x y ys)
theorem jf:∀ds:List D,(ziO ds).Perm ds
 | []=>lbk _
 | d::ds=>(zbT d (ziO ds)).trans ((jf ds).cons d)
def RisP (ds:List D):Prop:=ds.Pairwise λa b=>jo (kj a) (kj b)=true
theorem zfD {x:D}:∀{ys:List D},RisP ys->(∀y∈ys,ze0 (kj x) (kj y)=true/\kj x≠kj y)->RisP (zj1 x ys)
 | [],_,_=>lcR _ _
 | y :: ys,r,h=>by
  unfold zj1
  obtain⟨r1,r2⟩:=laC.mp r
  by_cases e:jo (kj x) (kj y)=true
  ·rw[lU e]
   refine laC.mpr ⟨λz hz=>?_,r⟩
   rcases lI.mp hz with rfl|hz
   ·exact e
   ·exact zcF e (r1 z hz)
  ·rw [lac e]
   refine laC.mpr ⟨λz hz=>?_,zfD r2 λz hz=>h z (lz _ hz)⟩
   rcases lI.mp ((zbT x ys).mem_iff.mp hz) with rfl|hz
   ·obtain⟨o,n⟩:=h y lD
    exact zcV o n (by simpa using e)
   ·exact r1 z hz
theorem zet:∀{ds:List D},Srtb (ds.map kj)->RisP (ziO ds)
 | [],_=>List.Pairwise.nil
 | d::ds,h=>by
  have nd:=h.nd
  rw[lF,lbD] at nd
  have h':Srtb (ds.map kj):=by
   obtain⟨c,hc⟩:=h.ne
   exact⟨⟨c,λks hk=>hc ks (by rw[lF];exact lz _ hk)⟩,λx hx y hy=>h.ok x (by rw[lF];exact lz _ hx) y (by rw[lF];exact lz _ hy),nd.2⟩
  refine zfD (zet h') λy hy=>?_
  have hy':=(jf ds).mem_iff.mp hy
  have my:kj y∈ds.map kj:=lat.mpr ⟨y,hy',rfl⟩
  exact⟨h.ok _ (by rw[lF];exact lD) _ (by rw[lF];exact lz _ my),λe=>nd.1 (e▸my)⟩
theorem RisP.unique {a b:List D}(ha:RisP a)(hb:RisP b)(p:a.Perm b):a=b:=lcJ (λx y _ _ h k=>by have:=zcF h k;rw[zfe] at this;cases this) ha hb p
section
variable {K:qQ0}{cl:Nat->Addr}{F:Hp}
theorem Dts.atoms:∀{vs:List V}{ds:List D},Dts K cl F vs ds->ds.all isAt=true->vs=(ds.map kOf).map kV
 | _,_,.nil,_=>rfl
 | _,_,.cons q r,h=>by
  rw[lba,lM] at h
  have e:=Dts.atoms r h.2
  cases q with
  | int i=>rw[e];rfl
  | str l ok=>rw[e];rfl
  | _=>simp[isAt] at h
theorem Dts.tups:∀{vs:List V}{ds:List D},Dts K cl F vs ds->(∀d∈ds,zhV d=true)->∃ts:List Addr,vs=ts.map V.ref/\ts.length=ds.length/\∀i,i<ds.length->SqT K F (ts.getD i 0) (((ds.map kj).getD i []).map kV)
 | _,_,.nil,_=>⟨[],rfl,rfl,λi hi=>by simp at hi⟩
 | _,_,.cons q r,h=>by
  obtain⟨ts,e1,e2,e3⟩:=Dts.tups r λd hd=>h d (lz _ hd)
  have h0:=h _ lD
  cases q with
  | tup sq dq =>
   rename_i a xs ds'
   have ex:=dq.atoms h0
   refine⟨a::ts,by rw[e1];rfl,by simp[e2],λi hi=>?_⟩
   cases i with
   | zero=>show SqT K F a ((ds'.map kOf).map kV);rw[← ex];exact sq
   | succ i=>exact e3 i (by simpa using hi)
  | _=>simp[zhV] at h0
end
section
variable {X:Cx}{cl:Nat->Addr}{E:XK}{e:Expr}{fa:qQ5}{p pos:Pos}
theorem znK {α:Type}{d:α}(ds:List α)(π:List Nat)(hp:π.Perm (List.range ds.length)):(π.map λi=>ds.getD i d).Perm ds:=by
 have h:=hp.map λi=>ds.getD i d
 have e:(List.range ds.length).map (λi=>ds.getD i d)=ds:=by
  apply ldV
  ·simp
  ·intro i h1 h2
   simp[h2]
 rw[e] at h
 exact h
end
end L2
namespace L2
open PySem PySem.Spec PyProof.Rows
variable {mg:qQ3}
def gz:D->Option (List D)
 | .tup ds=>some ds
 | .lst ds=>some ds
 | .str l=>if l.all (· < 128) then some (l.map λc=>.str [c]) else none
 | _=>none
inductive Dz (K:qQ0)(x:Str)(st:Stmt):Prop
 | mk {f:Addr}{oc kV dc pm cd ct:Value}{od an:Option Addr}{sl:Array (Option Value)} (a:PySem.W.nsIn K mainGlobals x=some (some (.ref f))) (l:K.lookup f=some ⟨oc,od,.func (PySem.W.fnOf x x (jB st) (xP st) (zq st) .none kV dc pm an cd ct),sl⟩) (c:PySem.W.codeIn K cd x=true) (k:PySem.W.keepIn K (.ref f)=true):Dz K x st
theorem Dz.dn {K:qQ0}{h:Heap}{x:Str}{st:Stmt}(z:Dz K x st)(X:K.In h)(G:h.Ns mainGlobals mg)(ps:List Str)(hb:∀(kV doc pm:Value) (an:Option Addr) (cdv ct:Value) (us:List Value),us.length=ps.length->bindArgs (PySem.W.fnOf x x (jB st) (xP st) (zq st) .none kV doc pm an cdv ct) ⟨us,[]⟩=pure (ps.zip us)):Nonempty (Dn K mg x st ps):=by
 obtain⟨a,l,c,k⟩:=z
 exact⟨⟨_,_,zit l c k,lbs X G a,(zit l c k).binds hb⟩⟩
inductive Oz (K:qQ0)(x:Str):Prop
 | mk {a:Addr} (y:PySem.W.nsIn K mainGlobals x=some (some (.ref a))) (q:PySem.W.excIn K a [.type "ValueError", .type "Exception", .type "BaseException", .type "object"] "ValueError.__new__" = true):Oz K x
theorem Oz.ow {K:qQ0}{h:Heap}{x:Str}(z:Oz K x)(X:K.In h)(G:h.Ns mainGlobals mg):Nonempty (Own K mg x):=by
 obtain⟨y,q⟩:=z
 exact⟨⟨_,lbs X G y,q⟩⟩
section
variable {α:Type}{p:List α->Prop}
theorem bd0 (h:p [])(us:List α)(e:us.length=0):p us:=by obtain rfl:=la0.mp e;exact h
theorem bd1 (h:∀a,p [a])(us:List α)(e:us.length=1):p us:=by obtain⟨_,rfl⟩:=zpC e;exact h _
theorem bd2 (h:∀a b,p [a,b])(us:List α)(e:us.length=2):p us:=by obtain⟨_,_,rfl⟩:=zpG e;exact h _ _
theorem bd3 (h:∀a b c,p [a,b,c])(us:List α)(e:us.length=3):p us:=by obtain⟨_,_,_,rfl⟩:=zpq e;exact h _ _ _
theorem bd4 (h:∀a b c d,p [a,b,c,d])(us:List α)(e:us.length=4):p us:=by obtain⟨_,_,_,_,rfl⟩:=zpx e;exact h _ _ _ _
theorem bd5 (h:∀a b c d f,p [a,b,c,d,f])(us:List α)(e:us.length=5):p us:=by obtain⟨_,_,_,_,_,rfl⟩:=zpS e;exact h _ _ _ _ _
end
end L2
namespace L2
open PySem PySem.W PySem.Spec PyProof.Rows
variable {x:Str}{cl:Nat->Addr}
def fsB (N P:List Str)(sc:Scope):Bool:=decide (sc.kind=.function) && !sc.isCoroutine && !sc.isGenerator&&decide N.Nodup&&decide (N.take P.length=P)&&P.all (λx=>decide (sc.names.lookup x=some .local∨sc.names.lookup x=some .cell))&&sc.names.all λy=>decide (y.2≠.free)
theorem fsc {N P:List Str}{sc:Scope}(h:fsB N P sc=true):FnScope N P sc:=by
 unfold fsB at h
 simp only[lM,laA,lZ,lbP] at h
 exact⟨h.1.1.1.1.1.1,h.1.1.1.1.1.2,h.1.1.1.1.2,h.1.1.1.2,h.1.1.2,h.1.2,h.2⟩
section
variable {X:Cx}{cl:Nat->Addr}{E:XK}{x:Str}{p pos:Pos}{e:Expr}{es:List Expr}{fs:qQ4}{k k' n:Nat}{st:Stmt}{ps:List Str}{d:Dn X.K X.mg x st ps}{fn:List D->Rs D}
theorem zA (G:FnOk X.prog X.w X.K X.mg X.base (CX1 X.prog X.w) k d.f d.fd ps (spD X.K cl fn n))(hr:Room k' X.A)(hx:zaH (CX1 X.prog X.w) X E)(ha:XA X cl E (e::es) fs)(he:starEach (e::es) X.env=(false,eval e X.env)::starEach es X.env)(hk:k<=k':=by decide)(hg:Gl X x:=by rfl)(hdb:(x == ("__debug__" : Str))=false:=by decide)(hpl:(backTo pos (starEach es X.env)).any (·.1)=false:=by rfl):XE X cl E (.Call (.Name x p) (e::es) [] pos) (fA (ari n fn) fs) :=
 zmu G (hr.mono hk) hg d.mg d.fn.kp d.bd hx ha he hdb hpl
theorem zjr (G:FnOk X.prog X.w X.K X.mg X.base (CX1 X.prog X.w) k d.f d.fd ps (spD X.K cl fn n))(hr:Room k' X.A)(ha:XA X.nox cl E0 (e::es) fs)(he:starEach (e::es) X.env=(false,eval e X.env)::starEach es X.env)(hk:k<=k':=by decide)(hg:Gl X x:=by rfl)(hdb:(x == ("__debug__" : Str))=false:=by decide)(hpl:(backTo pos (starEach es X.env)).any (·.1)=false:=by rfl):XX X cl (.Call (.Name x p) (e::es) [] pos) (fA (ari n fn) (zdl fs)) :=
 zmk G (hr.mono hk) hg d.mg d.fn.kp d.bd ha he hdb hpl
end
noncomputable def Dz.D {K:qQ0}{h:Heap}{mg:qQ3}{x:Str}{st:Stmt}{ps:List Str}(z:Dz K x st)(X:K.In h)(G:h.Ns mainGlobals mg)(hb:∀(kV doc pm:Value) (an:Option Addr) (cdv ct:Value) (us:List Value),us.length=ps.length->bindArgs (PySem.W.fnOf x x (jB st) (xP st) (zq st) .none kV doc pm an cdv ct) ⟨us,[]⟩=pure (ps.zip us):=by first|exact λ_ _ _ _ _ _=>bd2 λ_ _=>rfl|exact λ_ _ _ _ _ _=>bd1 λ_=>rfl|exact λ_ _ _ _ _ _=>bd3 λ_ _ _=>rfl|exact λ_ _ _ _ _ _=>bd4 λ_ _ _ _=>rfl|exact λ_ _ _ _ _ _=>bd0 rfl|exact λ_ _ _ _ _ _=>bd5 λ_ _ _ _ _=>rfl):Dn K mg x st ps:=Classical.choice (z.dn X G ps hb)
theorem qZ {P:Program}{w:World}{K:qQ0}{mg:qQ3}{base:Heap}{st:Stmt}{N ps:List Str}(m n k:Nat)(g:Rho->Out)(cl:Nat->Addr)(d:Dn K mg x st ps)(S:FnScope N ps (zq st))
  (hb:∀(cdv:Value) (A:Around) (outer:List Env) (s:Shared) (H:Hp) (E:XK),Room k (A.deeper (envOfC x (zq st) s.heap.objs.size d.f cdv))->XSs (je (CX1 P w) P w K mg base N x (zq st) d.f cdv A outer s H E) cl E (xP st) g) (hm:N.length=m:=by rfl) (hn:ps.length=n:=by rfl):FnOk P w K mg base (CX1 P w) (k+1) d.f d.fd ps (spD K cl (z8 m g) n) :=
 fnD (N:=N) (ps:=ps) (k:=k) (m:=m) (n:=n) (g:=g) (cl:=cl) d.fn S hm hn hb
theorem xv {X:Cx}{E:XK}(i:Nat){pos:Pos}(hN:X.N[i]? = some x:=by rfl)(hv:Vis X.env.scope x:=by first|exact Or.inl rfl|exact Or.inr (Or.inl rfl)|exact Or.inr (Or.inr rfl))(hd:(x == ("__debug__" : Str))=false:=by decide)(hcd:(x == ("__classdict__" : Str))=false:=by decide):XE X cl E (.Name x pos) (fNm i):=zpn i (pv i hN hv hd hcd)
theorem xG {X:Cx}{E:XK}{j pos}(l:List Nat)(h:(decide (x=T l)&&l.all (λc=>decide (c<0x110000))&&decide (l.length<=1000000))=true):XE X cl E (.Constant (.str x) j pos) (fC (.str l)):=by
 simp only[lM,laA,lZ] at h
 exact zkx h.1.1 (zb1 h.1.2 h.2)
end L2
set_option maxHeartbeats 4000000
namespace Pg
open PySem L2 PyProof.Rows
def vz:Rho->Out :=
  (zW (sIf (bT (f2 (eqD false) (fNm 0) (fO mkL zE)))
  (yR (f2 zkr (fC (.int 7)) (fNm 1)))
  sNx)
  (yR (f2 u6 (f2 ixD (fNm 0) (f2 zjF (fNm 1) (fO jj (zj (fNm 0) zE)))) (f2 zkr (fC (.int 6553)) (f2 ze8 (fNm 1) (fO jj (zj (fNm 0) zE)))))))
def ud:List D->Rs D:=z8 2 vz
def wQ:Rho->Out :=
  (zW (xJ 3 (f2 zjF (f2 u6 (f2 zkr (f2 zjF (fA (ari 2 ud) (zj (fNm 0) (zj (fNm 1) zE))) (fC (.int 2147483563))) (fC (.int 69069))) (f2 zkr (fC (.int 104723)) (f2 u6 (fNm 1) (fC (.int 1))))) (fC (.int 2147483563))))
  (zW (xJ 3 (f2 zjF (f2 u6 (f2 zkr (fNm 3) (fNm 3)) (f2 ze8 (fNm 3) (fC (.int 3)))) (fC (.int 2147483399))))
  (yR (f2 zjF (f2 ze8 (f2 zjF (f2 u6 (f2 zkr (fNm 3) (fNm 3)) (f2 ze8 (fNm 3) (fC (.int 7)))) (fC (.int 2147483647))) (fC (.int 11))) (fNm 2)))))
def zJ:List D->Rs D:=z8 4 wQ
def vD:Rho->Out :=
  (zW (wR 4 (fCp (fR zd7 (zj (fNm 2) zE)) yo (f2 ixD (fC (.str [97,98,99,100])) (fNm 0)) []))
  (zW (kh (uN 5 (fR zd7 (zj (fNm 3) zE))
  (zW (zdn 4 6 (fFl 4 (fA (ari 3 zJ) (zj (fNm 0) (zj (f2 u6 (fNm 1) (fNm 5)) (zj (fO jj (zj (fNm 4) zE)) zE))))))
  (za8 4 (wR 4 (fL zdQ (zj (fLs (fL2 zhN (fNm 4) (yU (fR zd7 (zj (fNm 2) zE)) yo (f2 zeI (fNm 1) (f2 ixD (fC (.str [97,98,99,100])) (fNm 0))) [6]))) zE)))))))
  (za8 4 (yR (fO zmA (zj (fNm 4) zE))))))
def uc:List D->Rs D:=z8 7 vD
def vp:Rho->Out :=
  (zW (xJ 4 (fA (ari 3 zJ) (zj (fNm 0) (zj (fNm 1) (zj (f2 u6 (fNm 3) (fC (.int 1))) zE)))))
  (yR (fM isS zjI (fC (.str [])) (yU (fR zd7 (zj (fNm 4) zE)) yo (f2 ixD (fC (.str [97,98,99,100])) (fA (ari 3 zJ) (zj (fNm 1) (zj (f2 u6 (f2 u6 (fNm 3) (fC (.int 1))) (fNm 0)) (zj (fNm 2) zE))))) [0,2,1]))))
def vU:List D->Rs D:=z8 5 vp
def uZ:Rho->Out :=
  (yR (fO zmy (zj (fLs (fCz (fNm 0) (fSl (fNm 0) (xH (fC (.int 1))) xR) yo (f2 ltS (fNm 0) (fNm 1)) [])) zE)))
def uh:List D->Rs D:=z8 1 uZ
def zaf:Rho->Out :=
  (yR (zaY (f1 (zcq isInt) (fNm 0)) (zfd (f1 (zcq isBool) (fNm 0)))))
def jG:List D->Rs D:=z8 1 zaf
def ul:Rho->Out :=
  (yR (zaY (fA (ari 1 jG) (zj (fNm 0) zE)) (fCh leI leI (fNm 1) (fNm 0) (fNm 2))))
def xq:List D->Rs D:=z8 3 ul
def yu:Rho->Out :=
  (yR (fA (ari 3 xq) (zj (fNm 0) (zj (fC (.int 2)) (zj (fO jj (zj (fC (.str [97,98,99,100])) zE)) zE)))))
def zL:List D->Rs D:=z8 1 yu
def vV:Rho->Out :=
  (zW (xJ 2 (fSl (fC (.str [97,98,99,100])) xR (xH (fNm 0))))
  (yR (zaY (f1 (zcq isStr) (fNm 1)) (fO zmy (zj (yU (fI sgD (fNm 1)) yo (f2 (inC false) (fNm 0) (fNm 1)) [2]) zE)))))
def yK:List D->Rs D:=z8 3 vV
def v5:Rho->Out :=
  (zW (sIf (bOr (za6 (bT (fA (ari 1 zL) (zj (fNm 0) zE)))) (za6 (bT (f1 (zcq isTup) (fNm 1)))))
  (yR (fC (.bl false)))
  sNx)
  (zW (sIf (za6 (bT (fCh leI leI (fC (.int 1)) (fO jj (zj (fNm 1) zE)) (fC (.int 32)))))
  (yR (fC (.bl false)))
  sNx)
  (zW (sIf (za6 (bT (fO zmy (zj (yU (fI tpD (fNm 1)) yo (zaY (fA (ari 2 yK) (zj (fNm 1) (zj (fNm 0) zE))) (f2 (eqD true) (fNm 0) (fC (.str [])))) [0]) zE))))
  (yR (fC (.bl false)))
  sNx)
  (yR (fA (ari 1 uh) (zj (fNm 1) zE))))))
def yx:List D->Rs D:=z8 2 v5
def yZ:Rho->Out :=
  (zW (kh (qm 1 2 (fNm 0) (fSl (fNm 0) (xH (fC (.int 1))) xR)
  (sIf (bT (fM isS yI (fNm 2) (fNm 1)))
  (yR (fO mkT (zj (fNm 1) (zj (fNm 2) zE))))
  sNx)))
  (yR (fC .non)))
def yJ:List D->Rs D:=z8 3 yZ
def qC:Rho->Out :=
  (zW (wR 2 (fL szL zE))
  (zW (kh (uN 3 (fI lsD (fNm 1))
  (uN 4 (fI sgD (fSl (fC (.str [97,98,99,100])) xR (xH (fNm 0))))
  (zaU 2 (f2 zeI (fNm 3) (fNm 4))))))
  (za8 2 (yR (fNm 2)))))
def yp:List D->Rs D:=z8 5 qC
def kO:Rho->Out :=
  (yR (zfd (fO znD (zj (yU (fI tpD (fNm 0)) yo (fOr (fM isS yI (fNm 0) (fNm 1)) (fM isS yI (fNm 1) (fNm 0))) [1]) zE))))
def z7:List D->Rs D:=z8 2 kO
def kJ:Rho->Out :=
  (yR (fO znD (zj (yU (fI tpD (fNm 0)) yo (zaY (fM isS yI (fNm 0) (fNm 1)) (f2 (eqD true) (fNm 0) (fNm 1))) [1]) zE)))
def z6:List D->Rs D:=z8 2 kJ
def xY:Rho->Out :=
  (zW (xJ 2 (fO mkL (zj (fC (.str [])) zE)))
  (zW (kh (sWh 2000 (bT (f2 (eqD true) (fNm 2) (fO mkL zE)))
  (zW (xJ 3 (fA (ari 2 yp) (zj (fNm 0) (zj (fNm 2) zE))))
  (zW (uN 4 (fI lsD (fNm 3))
  (sIf (bT (fA (ari 2 z7) (zj (fNm 1) (zj (fNm 4) zE))))
  (yR (fNm 4))
  sNx))
  (wB 2 (fCp (fI lsD (fNm 3)) (bT (fA (ari 2 z6) (zj (fNm 1) (zj (fNm 0) zE)))) (fNm 0) [1]))))))
  (yR (fC .non))))
def yL:List D->Rs D:=z8 5 xY
def xZ:Rho->Out :=
  (zW (xJ 2 (fA (ari 1 yJ) (zj (fNm 1) zE)))
  (zW (sIf (bT (f1 (isN true) (fNm 2)))
  (yR (fNm 2))
  sNx)
  (yR (fA (ari 2 yL) (zj (fNm 0) (zj (fNm 1) zE))))))
def wL:List D->Rs D:=z8 3 xZ
def zbz:Rho->Out :=
  (yR (zaY (fA (ari 2 yx) (zj (fNm 0) (zj (fNm 1) zE))) (f1 (isN false) (fA (ari 2 wL) (zj (fNm 0) (zj (fNm 1) zE))))))
def vg:List D->Rs D:=z8 2 zbz
def ux:Rho->Out :=
  (sIf (za6 (bT (fA (ari 2 vg) (zj (fNm 0) (zj (fNm 1) zE)))))
  (sRs 1 (zj (fC (.str [116,104,105,115,32,105,115,32,110,111,32,98,111,111,107,32,111,102,32,115,111,32,109,97,110,121,32,108,101,116,116,101,114,115])) zE))
  sNx)
def zU:List D->Rs D:=z8 2 ux
def wJ:Rho->Out :=
  (sIf (za6 (bT (fA (ari 2 yK) (zj (fNm 0) (zj (fNm 1) zE)))))
  (sRs 3 (zj (fC (.str [116,104,105,115,32,105,115,32,110,111,32,116,101,120,116,32,111,102,32,116,104,101,115,101,32,108,101,116,116,101,114,115])) zE))
  sNx)
def zT:List D->Rs D:=z8 2 wJ
def jR:Rho->Out :=
  (zW (wR 2 (fL szL zE))
  (zW (xJ 3 (fC (.str [])))
  (zW (kh (uN 4 (fI sgD (fNm 1))
  (zW (xJ 3 (f2 zeI (fNm 3) (fNm 4)))
  (sIf (bT (f2 (inD false) (fNm 3) (fNm 0)))
  (zW (zaU 2 (fNm 3))
  (xJ 3 (fC (.str []))))
  sNx))))
  (za8 2 (yR (fO mkT (zj (fNm 2) (zj (fNm 3) zE))))))))
def zbC:List D->Rs D:=z8 5 jR
def zcI:Rho->Out :=
  (zW (xJ 3 (fM zpJ zoR (fNm 1) (fNm 2)))
  (yR (f2 zoo (f2 zoo (fSl (fNm 1) xR (xH (fNm 3))) (fO zmA (zj (fA (ari 2 yp) (zj (fNm 0) (zj (fO mkL (zj (fNm 2) zE)) zE))) zE))) (fSl (fNm 1) (xH (f2 u6 (fNm 3) (fC (.int 1)))) xR))))
def zeo:List D->Rs D:=z8 4 zcI
def jx:Rho->Out :=
  (zW (xJ 2 (fO mkL (zj (fC (.str [])) zE)))
  (zW (kh (uN 3 (fR zd7 (zj (fNm 1) zE))
  (xJ 2 (fA (ari 2 yp) (zj (fNm 0) (zj (fNm 2) zE))))))
  (yR (fO zmA (zj (fNm 2) zE)))))
def v8:List D->Rs D:=z8 4 jx
def qJ:Rho->Out :=
  (yR (fA (ari 2 v8) (zj (fNm 0) (zj (fC (.int 1)) zE))))
def j9:List D->Rs D:=z8 1 qJ
end Pg
set_option maxHeartbeats 1000000
namespace L2
open PySem
section
variable {ft:qQ6}{fe:qQ5}{ρ0 ρ:Rho}{α β:Type}{i j:Nat}{g:Rho->Out}
theorem zcU {l:List α}{enc:α->D}(p:α->Bool)(e:α->D)(h:∀x∈l,ft (ρ0.set 0 (.fz (enc x)))=.ok (p x)/\(p x=true->fe (ρ0.set 0 (.fz (enc x)))=.ok (e x))):xj ft fe ρ0 (l.map enc)=.ok ((l.filter p).map e):=by
 induction l with
 | nil=>rfl
 | cons x l ih =>
  have ih':=ih λy hy=>h y (.tail _ hy)
  obtain⟨h1,h2⟩:=h x (.head _)
  rw[lF]
  unfold xj
  rw[h1]
  cases hp:p x with
  | false=>rw[List.filter_cons_of_neg (by simp[hp])];exact ih'
  | true =>
   rw[List.filter_cons_of_pos hp]
   simp only[h2 hp,ih']
   rfl
theorem xK {l:List α}{enc:α->D}(e:α->D)(h:∀x∈l,fe (ρ0.set 0 (.fz (enc x)))=.ok (e x)):xj yo fe ρ0 (l.map enc)=.ok (l.map e):=by
 have:=zcU (ft:=yo) (fe:=fe) (ρ0:=ρ0) (l:=l) (enc:=enc) (λ_=>true) e λx hx=>⟨rfl,λ_=>h x hx⟩
 rwa [List.filter_eq_self.mpr λ_ _=>rfl] at this
theorem zh6 {l:List (α×β)}{enc:α->D}{enb:β->D}(e:α×β->D)(h:∀x∈l,fe ((ρ0.set 0 (.fz (enc x.1))).set 1 (.fz (enb x.2)))=.ok (e x)):qp yo fe ρ0 (l.map λx=>enc x.1) (l.map λx=>enb x.2)=.ok (l.map e):=by
 induction l with
 | nil=>rfl
 | cons x l ih =>
  have ih':=ih λy hy=>h y (.tail _ hy)
  rw[lF,lF]
  unfold qp
  simp only[yo,h x (.head _)]
  rw[ih'];rfl
theorem zd6:∀(as bs:List D),qp ft fe ρ0 as bs=qp ft fe ρ0 ((as.zip bs).map (·.1)) ((as.zip bs).map (·.2))
 | [],_=>by simp[qp]
 | _::_,[]=>by simp[qp]
 | a::as,b::bs=>by
  rw[lb4,lF,lF]
  unfold qp
  rw[zd6 as bs]
theorem zfR:∀(as bs:List D) (ρ:Rho),forZ i j g as bs ρ=forZ i j g ((as.zip bs).map (·.1)) ((as.zip bs).map (·.2)) ρ
 | [],_,ρ=>by simp[forZ]
 | _::_,[],ρ=>by simp[forZ]
 | a::as,b::bs,ρ=>by
  rw[lb4,lF,lF,forZ.eq_1,forZ.eq_1]
  dsimp only
  cases g ((ρ.set i (.fz a)).set j (.fz b)) <;>first|rfl|exact zfR as bs _
theorem vN {l:List α}{enc:α->D}(I:Nat->Rho->Prop)(h0:I 0 ρ)(hs:∀k x ρ,l[k]? = some x->I k ρ->∃ρ',g (ρ.set i (.fz (enc x)))=.nx ρ'/\I (k+1) ρ'):∃ρ',forD i g (l.map enc) ρ=.nx ρ'/\I l.length ρ':=by
 induction l generalizing ρ I with
 | nil=>exact⟨ρ,rfl,h0⟩
 | cons x l ih =>
  obtain⟨ρ1,e1,i1⟩:=hs 0 x ρ rfl h0
  obtain⟨ρ2,e2,i2⟩:=ih (I:=λk=>I (k+1)) i1 λk y ρ hy hI=>hs (k+1) y ρ (by simpa using hy) hI
  refine⟨ρ2,?_,i2⟩
  rw[lF]
  unfold forD
  rw[e1];exact e2
theorem zg9 {l:List α}{enc:α->D}(I:Rho->Prop)(p:α->Bool)(r:α->D)(h0:I ρ)(hs:∀x∈l,∀ρ,I ρ->if p x=true then g (ρ.set i (.fz (enc x)))=.rt (r x) else ∃ρ',g (ρ.set i (.fz (enc x)))=.nx ρ'/\I ρ') :
  match l.find? p with|some x=>forD i g (l.map enc) ρ=.rt (r x)|none=>∃ρ',forD i g (l.map enc) ρ=.nx ρ'/\I ρ':=by
 induction l generalizing ρ with
 | nil=>exact⟨ρ,rfl,h0⟩
 | cons x l ih =>
  have hx:=hs x (.head _) ρ h0
  cases hp:p x with
  | true =>
   rw[lU hp] at hx
   rw[List.find?_cons_of_pos hp]
   show forD i g (enc x::l.map enc) ρ=_
   unfold forD
   rw[hx]
  | false =>
   rw[lac (by simp[hp])] at hx
   obtain⟨ρ1,e1,i1⟩:=hx
   rw[List.find?_cons_of_neg (by simp[hp])]
   have:=ih i1 λy hy=>hs y (.tail _ hy)
   have e:forD i g ((x::l).map enc) ρ=forD i g (l.map enc) ρ1:=by
    show forD i g (enc x::l.map enc) ρ=_
    rw[forD.eq_2,e1]
   rw[e];exact this
theorem zia {l:List (α×β)}{enc:α->D}{enb:β->D}(I:Rho->Prop)(p:α×β->Bool)(r:α×β->D)(h0:I ρ)(hs:∀x∈l,∀ρ,I ρ->if p x=true then g ((ρ.set i (.fz (enc x.1))).set j (.fz (enb x.2)))=.rt (r x) else ∃ρ',g ((ρ.set i (.fz (enc x.1))).set j (.fz (enb x.2)))=.nx ρ'/\I ρ') :
  match l.find? p with|some x=>forZ i j g (l.map λx=>enc x.1) (l.map λx=>enb x.2) ρ=.rt (r x)|none=>∃ρ',forZ i j g (l.map λx=>enc x.1) (l.map λx=>enb x.2) ρ=.nx ρ'/\I ρ':=by
 induction l generalizing ρ with
 | nil=>exact⟨ρ,by simp[forZ],h0⟩
 | cons x l ih =>
  have hx:=hs x (.head _) ρ h0
  cases hp:p x with
  | true =>
   rw[lU hp] at hx
   rw[List.find?_cons_of_pos hp]
   show forZ i j g (enc x.1::l.map λx=>enc x.1) (enb x.2::l.map λx=>enb x.2) ρ=_
   unfold forZ
   rw[hx]
  | false =>
   rw[lac (by simp[hp])] at hx
   obtain⟨ρ1,e1,i1⟩:=hx
   rw[List.find?_cons_of_neg (by simp[hp])]
   have:=ih i1 λy hy=>hs y (.tail _ hy)
   have e:forZ i j g ((x::l).map λx=>enc x.1) ((x::l).map λx=>enb x.2) ρ=forZ i j g (l.map λx=>enc x.1) (l.map λx=>enb x.2) ρ1:=by
    show forZ i j g (enc x.1::l.map λx=>enc x.1) (enb x.2::l.map λx=>enb x.2) ρ=_
    rw[forZ.eq_1,e1]
   rw[e];exact this
end
variable {m i:Nat}{g h:Rho->Out}{ds es:List D}{d:D}{ρ:Rho}{fi:qQ4}{ft:qQ6}{f fa fb fe:qQ5}{j:Int}{caps:List Nat}
theorem ye (h:g (ds.map .fz++List.replicate (m - ds.length) .no)=.rt d):z8 m g ds=.ok d:=by unfold z8;rw[h]
theorem zfq (h:g (ds.map .fz++List.replicate (m - ds.length) .no)=.nx ρ):z8 m g ds=.ok .non:=by unfold z8;rw[h]
theorem qN {n:Nat}(h:g (ds.map .fz++List.replicate (m - ds.length) .no)=.ex n):z8 m g ds=.ex n:=by unfold z8;rw[h]
theorem zB {ρ':Rho}(e:g ρ=.nx ρ'):zW g h ρ=h ρ':=by unfold zW;rw[e]
theorem zaj (e:g ρ=.rt d):zW g h ρ=.rt d:=by unfold zW;rw[e]
theorem uX {ρ':Rho}(e:g ρ=.nx ρ'):kh g ρ=.nx ρ':=by unfold kh;rw[e]
theorem zl8 (e:g ρ=.rt d):kh g ρ=.rt d:=by unfold kh;rw[e]
theorem uD (e:fi ρ=.ok ds):uN i fi g ρ=forD i g ds ρ:=by unfold uN;rw[e]
theorem zgC (e:ft ρ=.ok true):sIf ft g h ρ=g ρ:=by unfold sIf;rw[e]
theorem zgw (e:ft ρ=.ok false):sIf ft g h ρ=h ρ:=by unfold sIf;rw[e]
theorem yP (e:f ρ=.ok d):xJ i f ρ=.nx (ρ.set i (.fz d)):=by unfold xJ;rw[e]
theorem xQ (e:f ρ=.ok d):yR f ρ=.rt d:=by unfold yR;rw[e]
theorem zeR (e:owL ρ i=some ds)(e2:f ρ=.ok d)(hl:ds.length<1000000):zaU i f ρ=.nx (ρ.set i (.ow (ds++[d]))):=by unfold zaU;simp only[e,e2,lU hl]
theorem zeT {l m:List Nat}(h:l.length+m.length<=1000000):zeI (.str l) (.str m)=some (.str (l++m)):=lU h
theorem xM {g:D->D->Option D}{a b:D}(e1:fa ρ=.ok a)(e2:fb ρ=.ok b)(e3:g a b=some d):f2 g fa fb ρ=.ok d:=by unfold f2;rw[e1];show(fb ρ).bind _=_;rw[e2];show lf (g a b)=_;rw[e3];rfl
theorem jP {n:Nat}(h:n<=1000000):zd7 [.int (n:Int)]=some ((List.range n).map λ(k:Nat)=>.int (k:Int)):=by
 have h1:-(2 ^ 62)<=(n:Int)/\(n:Int)<2 ^ 62:=by omega
 dsimp only [zd7]
 rw[lU h1,laq]
theorem zhg {g:List D->Option (List D)}{fs:qQ4}(e1:fs ρ=.ok ds)(e2:g ds=some es):fR g fs ρ=.ok es:=by unfold fR;rw[e1];show(match g ds with|some es=>Rs.ok es|none=>.no)=_;rw[e2]
theorem zdv {g:List D->Option D}{fs:qQ4}(e1:fs ρ=.ok ds)(e2:g ds=some d):fO g fs ρ=.ok d:=by unfold fO;rw[e1];show lf (g ds)=_;rw[e2];rfl
theorem uG {g:qQ5}{i:Int}(e1:f ρ=.ok (.int i))(e2:g ρ=.ok (.int j)):f2 u6 f g ρ=.ok (.int (i+j)):=xM e1 e2 rfl
theorem zhY {g:qQ5}{i:Int}(e1:f ρ=.ok (.int i))(e2:g ρ=.ok (.int j)):f2 zdo f g ρ=.ok (.int (i - j)):=xM e1 e2 rfl
theorem zas {g:qQ5}{i:Int}(e1:f ρ=.ok (.int i))(e2:g ρ=.ok (.int j))(h1:Sm i)(h2:Sm j):f2 zkr f g ρ=.ok (.int (i*j)):=xM e1 e2 (lU ⟨h1,h2⟩)
theorem zaw {g:qQ5}{i:Int}(e1:f ρ=.ok (.int i))(e2:g ρ=.ok (.int j))(h:0<j):f2 zjF f g ρ=.ok (.int (i % j)):=xM e1 e2 (lU h)
theorem za1 {g:qQ5}{i:Int}(e1:f ρ=.ok (.int i))(e2:g ρ=.ok (.int j))(h:0<j)(h2:Sm j):f2 ze8 f g ρ=.ok (.int (i / j)):=xM e1 e2 (lU ⟨h,h2⟩)
theorem ji {i:Int}(h:-(2 ^ 100)<i/\i<2 ^ 100):Sm i:=by
 unfold Sm
 have h1:(2:Nat) ^ 100<=2 ^ 4000:=Nat.pow_le_pow_right (by decide) (by decide)
 have h2:i.natAbs<2 ^ 100:=by omega
 exact lK h2 h1
theorem zdD (e1:fi ρ=.ok ds)(hl:ds.length<=1000000)(e2:xj ft fe (xT 1 caps ρ) ds=.ok es):fCp fi ft fe caps ρ=.ok es:=by unfold fCp;rw[e1];show(if ds.length<=1000000 then xj ft fe (xT 1 caps ρ) ds else .no)=_;rw[lU hl,e2]
theorem zaX (e1:fi ρ=.ok ds)(hl:ds.length<=1000000)(e2:xj ft fe (xT 1 caps ρ) ds=.ok es):yU fi ft fe caps ρ=.ok (.lst es):=by unfold yU;rw[zdD e1 hl e2];rfl
theorem zfI {f:qQ4}{d:List D}(e:f ρ=.ok d):wR i f ρ=.nx (ρ.set i (.ow d)):=by unfold wR;rw[e]
theorem za7 {f:qQ4}{d:List D}(e:f ρ=.ok d):wB i f ρ=.nx (ρ.set i (.fz (.lst d))):=by unfold wB;rw[e]
theorem zkn {f:qQ4}{d:List D}(e:f ρ=.ok d):fLs f ρ=.ok (.lst d):=by unfold fLs;rw[e];rfl
theorem zlk {chk:D->Bool}{g:D->D->Option D}{a b:D}(e1:fa ρ=.ok a)(hc:chk a=true)(e2:fb ρ=.ok b)(e3:g a b=some d):fM chk g fa fb ρ=.ok d:=by unfold fM;rw[e1];show(if chk a=true then _ else _)=_;rw[lU hc,e2];show lf (g a b)=_;rw[e3];rfl
theorem zle {j:Nat}{k:Nat}(e:owL ρ i=some ds)(e1:f ρ=.ok (.int (k:Int)))(hk:k<1000000)(e2:ds[k]? = some d):zdn i j f ρ=.nx ((ρ.set i (.ow (ds.eraseIdx k))).set j (.fz d)):=by
 unfold zdn
 have h:(0:Int)<=(k:Int)/\(k:Int)<1000000:=by omega
 simp only[e,e1,lU h,laq,e2]
theorem zni (e:owL ρ i=some ds)(e1:f (ρ.set i (.fz (.lst ds)))=.ok d)(h:d.fl=true):fFl i f ρ=.ok d:=by unfold fFl;simp only[e,e1,lU h]
theorem zhi (e:ρ[i]? = some (.ow ds)):za8 i g ρ=g (ρ.set i (.fz (.lst ds))):=by unfold za8;rw[e]
theorem zm6 {g:List D->Option (List D)}{fs:qQ4}(e1:fs ρ=.ok ds)(e2:g ds=some es):fL g fs ρ=.ok es:=by unfold fL;rw[e1];show lf' (g ds)=_;rw[e2];rfl
theorem zZ {fs:qQ4}{a:D}{as:List D}(e1:fa ρ=.ok a)(e2:fs ρ=.ok as):zj fa fs ρ=.ok (a::as):=by unfold zj;rw[e1];show(fs ρ).bind _=_;rw[e2];rfl
theorem zdY {α β:Type}(f:α->β):∀(l:List α) (k:Nat),(l.map f).eraseIdx k=(l.eraseIdx k).map f
 | [],_=>rfl
 | _::_,0=>rfl
 | a::l,k+1=>by show f a::(l.map f).eraseIdx k=_;rw[zdY f l k];rfl
theorem zpp (x:List Nat)(ps:qQ1):inV (.str (T x)) (vT ps)=decide (x∈ps):=by
 unfold inV vT
 rw[ld0,ldZ,lcf,laA]
 constructor
 ·rintro⟨l,hl,e⟩
  have e':(T l == T x)=true:=e
  rw[zlP] at e'
  rw[← (ldD.mp e')]
  exact hl
 ·intro hx
  refine⟨x,hx,?_⟩
  show(T x == T x)=true
  simp
def sT (ls:qQ1):List D:=ls.map .str
theorem zg0 (a b:qQ1):sT a++sT b=sT (a++b):=by unfold sT;rw[lbW]
theorem zmO (ls:qQ1):(sT ls).all D.fl=true:=by simp[sT,D.fl]
theorem zlM (ls:qQ1):(sT ls).all isS=true:=by simp[sT,isS]
theorem zk9 (ls:qQ1):(sT ls).map unS=ls:=by
 unfold sT;rw[laK]
 exact(lcG λx _=>rfl).trans (List.map_id ls)
theorem wV:∀ls:qQ1,D.pls (sT ls)=true
 | []=>rfl
 | l::ls=>by show((D.str l).pl&&D.pls (sT ls))=true;rw[wV ls];rfl
theorem wN (ls:qQ1):(sT ls).length=ls.length:=by simp[sT]
theorem znV (x:List Nat)(ls:qQ1):inV (D.str x).toV ((sT ls).map D.toV)=decide (x∈ls):=by
 have e:(sT ls).map D.toV=vT ls:=by unfold sT vT;rw[laK];rfl
 rw[e];exact zpp x ls
theorem znv (neg:Bool)(x:List Nat)(ls:qQ1):inQ neg (.str x) (sT ls)=some (.bl (if neg then !decide (x∈ls) else decide (x∈ls))):=by
 unfold inQ
 rw[lU ⟨rfl,zmO ls⟩,znV]
end L2
namespace Pg
open PySem L2 My
variable {α:Type}{m:Nat}{l:List Nat}{ps:qQ1}
theorem zgp (l:List α)(m:Nat):zdk l none (some (m:Int))=l.take m:=by
 unfold zdk
 rw[HT.sIx_none,HT.sIx_nat,lc3,ld3,← List.take_take,List.take_length]
theorem zfU (l:List α)(m:Nat):zdk l (some (m:Int)) none=l.drop m:=by
 unfold zdk
 rw[HT.sIx_none,HT.sIx_nat,lbX (by rw[ldb];exact lB _)]
 rcases Nat.le_total m l.length with h|h
 ·rw[lco h]
 ·rw[ldU h,lav (lB _),lav h]
theorem ze6 (l m:List Nat):PyData.eqv (.str (T l)) (.str (T m))=decide (l=m):=by
 show(T l == T m)=_
 rw[zlP]
 by_cases h:l=m
 ·subst h;simp
 ·rw[laa h];simpa using h
theorem zdg (neg:Bool)(l m:List Nat):eqD neg (.str l) (.str m)=some (.bl (if neg then !decide (l=m) else decide (l=m))):=by
 unfold eqD
 rw[lU ⟨rfl,rfl,by show(PyData.str (T l)).depth<=60;simp[PyData.depth]⟩]
 show some (D.bl (if neg=true then !PyData.eqv (.str (T l)) (.str (T m)) else PyData.eqv (.str (T l)) (.str (T m))))=_
 rw[ze6]
theorem zhO (l:List α)(b:α->Bool):zmy [.lst (l.map λx=>D.bl (b x))]=some (.bl (l.all b)):=by
 show(if (l.map λx=>D.bl (b x)).all isB=true then some (D.bl ((l.map λx=>D.bl (b x)).all unB)) else none)=_
 have h:(l.map λx=>D.bl (b x)).all isB=true:=by rw[lb2];exact lZ.mpr λ_ _=>rfl
 rw[lU h,lb2];rfl
theorem zky (l:List α)(b:α->Bool):znD [.lst (l.map λx=>D.bl (b x))]=some (.bl (l.any b)):=by
 show(if (l.map λx=>D.bl (b x)).all isB=true then some (D.bl ((l.map λx=>D.bl (b x)).any unB)) else none)=_
 have h:(l.map λx=>D.bl (b x)).all isB=true:=by rw[lb2];exact lZ.mpr λ_ _=>rfl
 rw[lU h,ld0];rfl
theorem zfT (ps:qQ1):zdk (sT ps) (some 1) none=sT ps.tail:=by
 have:=zfU (sT ps) 1
 rw[show((1:Nat):Int)=1 from rfl] at this
 rw[this,List.drop_one];exact(List.map_tail).symm
theorem zkq (ps qs:qQ1):(sT ps).zip (sT qs)=(ps.zip qs).map λx=>(D.str x.1,D.str x.2):=by
 unfold sT;rw[List.zip_map];rfl
def isText (m:Nat)(l:List Nat):Bool:=l.all λc=>decide (c∈abcd.take m)
theorem zdx (m4:m<=4)(h:LetOk m l):isText m l=true:=by
 unfold isText
 rw[lZ]
 exact λc hc=>lX (vd m4 (h c hc))
theorem jl (m:Nat)(l:List Nat)(hl:l.length<=1000000):yK [.int m,.str l]=.ok (.bl (isText m l)):=by
 have e:xj yo (f2 (inC false) (fNm 0) (fNm 1)) [.no,.fz (.str (abcd.take m))] (l.map λc=>.str [c])=.ok (l.map λc=>.bl (decide (c∈abcd.take m))):=xK _ λc hc=>rfl
 have e2:zdk [97,98,99,100] none (some (m:Int))=abcd.take m:=zgp abcd m
 simp only[yK,vV,z8,zW,yR,xJ,fC,fNm,f1,f2,zE,zj,fO,tru,zaY,lf,Rs.bind,fI,sgD,fCp,yU,xT,xR,xH,fSl,slD,zcq,isStr,D.pl,D.py,lal,lan,laP,laQ,lF,lbc,laf,laO,List.replicate,lY,laE,laV,Nat.reduceSub,Nat.reduceAdd,Nat.reduceLeDiff,lbb,laZ,lbx,laU,lS,reduceIte,la7,laY,wV,e2,e,lQ,lU hl,zhO,isText]
theorem zd1 (ps:qQ1)(h:ps.length<=1000000):uh [.tup (sT ps)]=.ok (.bl (rising ps)):=by
 have e2:qp yo (f2 ltS (fNm 0) (fNm 1)) [.no,.no] (sT ps) (sT ps.tail)=.ok ((ps.zip ps.tail).map λx=>.bl (decide (x.1<x.2))):=by
  rw[zd6]
  rw[zkq,laK,laK]
  exact zh6 (enc:=D.str) (enb:=D.str) _ λx hx=>rfl
 simp only[uh,uZ,z8,yR,fC,fNm,f2,zE,zj,fO,lf,Rs.bind,fLs,fCz,xT,xR,xH,fSl,slD,ltS,lal,lan,laP,laQ,lF,lbc,laf,laO,List.replicate,lY,laE,laV,Nat.reduceSub,Nat.reduceAdd,Nat.reduceLeDiff,lbb,laZ,lbx,laU,lS,reduceIte,la7,laY,wV,zfT,e2,wN,lU h,zhO,rising]
theorem zer (i:Int):jG [.int i]=.ok (.bl true):=rfl
theorem jn (i lo hi:Int):xq [.int i,.int lo,.int hi]=.ok (.bl (decide (lo<=i)&&decide (i<=hi))):=by
 simp only[xq,ul,z8,yR,fNm,f1,zE,zj,fA,tru,zaY,zfd,lf,Rs.bind,ari,fCh,zcq,isInt,isBool,leI,D.pl,D.py,lal,lan,laP,laQ,lF,lbc,laf,laO,List.replicate,lY,laE,laV,Nat.reduceSub,Nat.reduceAdd,Nat.reduceLeDiff,lbb,laZ,lbx,laU,lS,reduceIte,la7,laY,wV,zer]
 by_cases h:lo<=i
 ·simp[h]
 ·simp[h]
theorem qL (i:Int):zL [.int i]=.ok (.bl (decide (2<=i)&&decide (i<=4))):=by
 simp only[zL,yu,z8,yR,fC,fNm,f1,zE,zj,fO,fA,tru,zaY,zfd,lf,Rs.bind,ari,fCh,zcq,isInt,isBool,jj,leI,D.pl,D.py,lal,lan,laP,laQ,lF,lbc,laf,laO,List.replicate,lY,laE,laV,Nat.reduceSub,Nat.reduceAdd,Nat.reduceLeDiff,lbb,laZ,lbx,laU,lS,reduceIte,la7,laY,wV,jn]
 rfl
theorem zeY (ps:qQ1)(x:List Nat)(h:ps.length<=1000000):z6 [.tup (sT ps),.str x]=.ok (.bl (isInner ps x)):=by
 have e:xj yo (zaY (fM isS yI (fNm 0) (fNm 1)) (f2 (eqD true) (fNm 0) (fNm 1))) [.no,.fz (.str x)] (sT ps)=.ok (ps.map λp=>.bl (x.isPrefixOf p && !decide (p=x))):=xK _ λp hp=>by
  simp only[z8,zW,yR,wW,xJ,sIf,qG,za8,kh,sRs,uN,qm,sWh,zaU,zdn,wB,wR,zaP,zgU,fSD,owL,odL,sNx,fC,fNm,f1,f2,zE,zj,fO,fA,fIf,tru,bT,za6,zc1,bOr,zaY,fOr,zfd,lf,lf',Rs.bind,isN,mkT,mkL,ari,fI,lsD,tpD,sgD,fR,fCp,yU,fLs,fL,fL1,fL2,szL,fCz,xT,xR,xH,fSl,slD,fM,fCh,zcq,isInt,isBool,isStr,isTup,jj,ltI,leI,gtI,geI,ltS,u6,zdo,D.pl,D.py,isS,lal,lan,laP,laQ,lF,lbc,laf,laO,List.replicate,lY,laE,laV,Nat.reduceSub,Nat.reduceAdd,Nat.reduceLeDiff,lbb,laZ,lbx,laU,lS,reduceIte,la7,laY,wV,yI,zdg]
  cases x.isPrefixOf p <;>simp
 simp only[z6,kJ,z8,zW,yR,wW,xJ,sIf,qG,za8,kh,sRs,uN,qm,sWh,zaU,zdn,wB,wR,zaP,zgU,fSD,owL,odL,sNx,fC,fNm,f1,f2,zE,zj,fO,fA,fIf,tru,bT,za6,zc1,bOr,zaY,fOr,zfd,lf,lf',Rs.bind,isN,mkT,mkL,ari,fI,lsD,tpD,sgD,fR,fCp,yU,fLs,fL,fL1,fL2,szL,fCz,xT,xR,xH,fSl,slD,fM,fCh,zcq,isInt,isBool,isStr,isTup,jj,ltI,leI,gtI,geI,ltS,u6,zdo,D.pl,D.py,isS,lal,lan,laP,laQ,lF,lbc,laf,laO,List.replicate,lY,laE,laV,Nat.reduceSub,Nat.reduceAdd,Nat.reduceLeDiff,lbb,laZ,lbx,laU,lS,reduceIte,la7,laY,wV,e,wN,lU h,zky]
 rfl
theorem zeK (ps:qQ1)(x:List Nat)(h:ps.length<=1000000):z7 [.tup (sT ps),.str x]=.ok (.bl (yS ps x)):=by
 have e:xj yo (fOr (fM isS yI (fNm 0) (fNm 1)) (fM isS yI (fNm 1) (fNm 0))) [.no,.fz (.str x)] (sT ps)=.ok (ps.map λp=>.bl (x.isPrefixOf p || p.isPrefixOf x)):=xK _ λp hp=>by
  simp only[z8,zW,yR,wW,xJ,sIf,qG,za8,kh,sRs,uN,qm,sWh,zaU,zdn,wB,wR,zaP,zgU,fSD,owL,odL,sNx,fC,fNm,f1,f2,zE,zj,fO,fA,fIf,tru,bT,za6,zc1,bOr,zaY,fOr,zfd,lf,lf',Rs.bind,isN,mkT,mkL,ari,fI,lsD,tpD,sgD,fR,fCp,yU,fLs,fL,fL1,fL2,szL,fCz,xT,xR,xH,fSl,slD,fM,fCh,zcq,isInt,isBool,isStr,isTup,jj,ltI,leI,gtI,geI,ltS,u6,zdo,D.pl,D.py,isS,lal,lan,laP,laQ,lF,lbc,laf,laO,List.replicate,lY,laE,laV,Nat.reduceSub,Nat.reduceAdd,Nat.reduceLeDiff,lbb,laZ,lbx,laU,lS,reduceIte,la7,laY,wV,yI]
  cases x.isPrefixOf p <;>simp
 simp only[z7,kO,z8,zW,yR,wW,xJ,sIf,qG,za8,kh,sRs,uN,qm,sWh,zaU,zdn,wB,wR,zaP,zgU,fSD,owL,odL,sNx,fC,fNm,f1,f2,zE,zj,fO,fA,fIf,tru,bT,za6,zc1,bOr,zaY,fOr,zfd,lf,lf',Rs.bind,isN,mkT,mkL,ari,fI,lsD,tpD,sgD,fR,fCp,yU,fLs,fL,fL1,fL2,szL,fCz,xT,xR,xH,fSl,slD,fM,fCh,zcq,isInt,isBool,isStr,isTup,jj,ltI,leI,gtI,geI,ltS,u6,zdo,D.pl,D.py,isS,lal,lan,laP,laQ,lF,lbc,laf,laO,List.replicate,lY,laE,laV,Nat.reduceSub,Nat.reduceAdd,Nat.reduceLeDiff,lbb,laZ,lbx,laU,lS,reduceIte,la7,laY,wV,e,wN,lU h,zky]
 rfl
theorem j4 (ps:qQ1):yJ [.tup (sT ps)]=.ok (match wz ps with|some x=>.tup [.str x.1,.str x.2] | none=>.non):=by
 have key:=zia (i:=1) (j:=2) (g:=sIf (bT (fM isS yI (fNm 2) (fNm 1))) (yR (fO mkT (zj (fNm 1) (zj (fNm 2) zE)))) sNx) (ρ:=[.fz (.tup (sT ps)),.no,.no]) (l:=ps.zip ps.tail) (enc:=D.str) (enb:=D.str)
  (λρ=>∃a b,ρ=[.fz (.tup (sT ps)),a,b]) (λx=>x.1.isPrefixOf x.2) (λx=>.tup [.str x.1,.str x.2]) ⟨_,_,rfl⟩ (λx hx ρ ⟨a,b,e⟩=>by
   subst e
   cases hp:x.1.isPrefixOf x.2 with
   | true=>simp only[z8,zW,yR,sIf,kh,qm,sNx,fC,fNm,zE,zj,fO,tru,bT,lf,Rs.bind,mkT,xR,xH,fSl,slD,fM,isS,lal,lan,laP,laQ,lF,lbc,laf,laO,List.replicate,lY,laE,laV,Nat.reduceSub,Nat.reduceAdd,Nat.reduceLeDiff,lbb,laZ,lbx,laU,lS,reduceIte,la7,laY,wV,yI,hp]
   | false=>simp only[z8,zW,yR,sIf,kh,qm,sNx,fC,fNm,zE,zj,fO,tru,bT,lf,Rs.bind,mkT,xR,xH,fSl,slD,fM,isS,lal,lan,laP,laQ,lF,lbc,laf,laO,List.replicate,lY,laE,laV,Nat.reduceSub,Nat.reduceAdd,Nat.reduceLeDiff,lbb,laZ,lbx,laU,lS,reduceIte,la7,laY,wV,yI,hp];exact⟨_,rfl,_,_,rfl⟩)
 have e4:forZ 1 2 (sIf (bT (fM isS yI (fNm 2) (fNm 1))) (yR (fO mkT (zj (fNm 1) (zj (fNm 2) zE)))) sNx) (sT ps) (sT ps.tail) [.fz (.tup (sT ps)),.no,.no]=forZ 1 2 (sIf (bT (fM isS yI (fNm 2) (fNm 1))) (yR (fO mkT (zj (fNm 1) (zj (fNm 2) zE)))) sNx) ((ps.zip ps.tail).map λx=>D.str x.1) ((ps.zip ps.tail).map λx=>D.str x.2) [.fz (.tup (sT ps)),.no,.no]:=by
  rw[zfR,zkq,laK,laK];rfl
 have e5:qm 1 2 (fNm 0) (fSl (fNm 0) (xH (fC (.int 1))) xR) (sIf (bT (fM isS yI (fNm 2) (fNm 1))) (yR (fO mkT (zj (fNm 1) (zj (fNm 2) zE)))) sNx) [.fz (.tup (sT ps)),.no,.no]=forZ 1 2 (sIf (bT (fM isS yI (fNm 2) (fNm 1))) (yR (fO mkT (zj (fNm 1) (zj (fNm 2) zE)))) sNx) ((ps.zip ps.tail).map λx=>D.str x.1) ((ps.zip ps.tail).map λx=>D.str x.2) [.fz (.tup (sT ps)),.no,.no]:=by
  rw[← e4]
  unfold qm
  have e6:fSl (fNm 0) (xH (fC (.int 1))) xR [.fz (.tup (sT ps)),.no,.no]=.ok (.tup (sT ps.tail)):=by rw[← zfT];rfl
  rw[e6];rfl
 unfold wz
 cases hf:(ps.zip ps.tail).find? λx=>x.1.isPrefixOf x.2 with
 | some x =>
  rw[hf] at key
  have e7:yZ [.fz (.tup (sT ps)),.no,.no]=.rt (.tup [.str x.1,.str x.2]):=by
   unfold yZ zW kh
   rw[e5,key]
  exact ye e7
 | none =>
  rw[hf] at key
  obtain⟨ρ',k1,a,b,rfl⟩:=key
  have e7:yZ [.fz (.tup (sT ps)),.no,.no]=.rt .non:=by
   unfold yZ zW kh
   rw[e5,k1];rfl
  exact ye e7
def Pcs (m:Nat)(ps:qQ1):Prop:=2<=m/\m<=4/\ps≠[]/\ps.length<=32/\∀p∈ps,LetOk m p/\p≠[]/\p.length<=31
theorem zff (h:∀p∈ps,p.length<=1000000):xj yo (zaY (fA (ari 2 yK) (zj (fNm 1) (zj (fNm 0) zE))) (f2 (eqD true) (fNm 0) (fC (.str [])))) [.no,.fz (.int m)] (sT ps)=.ok (ps.map λp=>.bl (isText m p && !decide (p=[]))):=xK _ λp hp=>by
  simp only[z8,zW,yR,xJ,fC,fNm,f1,f2,zE,zj,fO,fA,tru,zaY,lf,Rs.bind,ari,fI,sgD,fCp,yU,xT,xR,xH,fSl,slD,zcq,isStr,D.pl,D.py,lal,lan,laP,laQ,lF,lbc,laf,laO,List.replicate,lY,laE,laV,Nat.reduceSub,Nat.reduceAdd,Nat.reduceLeDiff,lbb,laZ,lbx,laU,lS,reduceIte,la7,laY,wV,jl m p (h p hp),zdg]
  cases isText m p <;>simp
theorem zc5 (h:Pcs m ps):yx [.int m,.tup (sT ps)]=.ok (.bl (rising ps)):=by
 obtain⟨m2,m4,hne,hl,hp⟩:=h
 have h1:∀p∈ps,p.length<=1000000:=λp q=>by have:=(hp p q).2.2;omega
 have e1:(ps.all λp=>isText m p && !decide (p=[]))=true:=lZ.mpr λp q=>by
  obtain⟨a,b,_⟩:=hp p q
  rw[zdx m4 a,laa b];rfl
 have hpos:1<=ps.length:=lbT.mpr hne
 have d1:decide ((2:Int)<=(m:Int))=true:=lX (by omega)
 have d2:decide ((m:Int)<=4)=true:=lX (by omega)
 have d3:decide ((1:Int)<=(ps.length:Int))=true:=lX (by omega)
 have d4:decide ((ps.length:Int)<=32)=true:=lX (by omega)
 have hz:ps.length<=1000000:=by omega
 simp only[yx,v5,z8,zW,yR,xJ,sIf,sNx,fC,fNm,f1,f2,zE,zj,fO,fA,tru,bT,za6,bOr,zaY,zfd,lf,Rs.bind,ari,fI,tpD,sgD,fCp,yU,fLs,fCz,xT,xR,xH,fSl,slD,fCh,zcq,isInt,isBool,isStr,isTup,jj,leI,ltS,D.pl,D.py,lal,lan,laP,laQ,lF,lbc,laf,laO,List.replicate,lY,laE,laV,Nat.reduceSub,Nat.reduceAdd,Nat.reduceLeDiff,lbb,laZ,lbx,laU,lS,reduceIte,la7,laY,wV,qL,d1,d2,Bool.and_self,wN,d3,d4,lU hz,zff h1,zhO,e1,zd1 ps hz]
theorem sIter {ρ:Rho}(h:ρ[0]? = some (.fz (.int (m:Int)))):fI sgD (fSl (fC (.str [97,98,99,100])) xR (xH (fNm 0))) ρ=.ok ((abcd.take m).map λc=>.str [c]):=by
 have e2:zdk [97,98,99,100] none (some (m:Int))=abcd.take m:=zgp abcd m
 simp only[fI,fSl,fC,xR,xH,fNm,h,Rs.bind,slD,lf,e2,sgD]
theorem zcx (xs:qQ1)(hl:∀x∈xs,x.length<=999999)(hn:4*xs.length<=999999):yp [.int m,.lst (sT xs)]=.ok (.lst (sT (zN m xs))):=by
 have hab:(abcd.take m).length<=4:=by rw[las];exact ldS _ _
 have inner:∀(x:List Nat) (acc:qQ1) (s:Sl),x.length<=999999->acc.length+4<=999999->∃s',uN 4 (fI sgD (fSl (fC (.str [97,98,99,100])) xR (xH (fNm 0)))) (zaU 2 (f2 zeI (fNm 3) (fNm 4))) [.fz (.int m),.fz (.lst (sT xs)),.ow (sT acc),.fz (.str x),s]=.nx [.fz (.int m),.fz (.lst (sT xs)),.ow (sT (acc++(abcd.take m).map λc=>x++[c])),.fz (.str x),s']:=by
  intro x acc s hx ha
  rw[uD (sIter rfl)]
  obtain ⟨ρ',e,s',rfl⟩:=vN (i:=4) (g:=zaU 2 (f2 zeI (fNm 3) (fNm 4))) (l:=abcd.take m) (enc:=λc=>D.str [c]) (ρ:=[.fz (.int m),.fz (.lst (sT xs)),.ow (sT acc),.fz (.str x),s])
   (λk ρ=>∃s',ρ=[.fz (.int m),.fz (.lst (sT xs)),.ow (sT (acc++((abcd.take m).take k).map λc=>x++[c])),.fz (.str x),s']) ⟨s,by simp⟩ (λk c ρ hc ⟨s',e⟩=>by
    subst e
    have hk:k<(abcd.take m).length:=(lO.mp hc).1
    have e3:(abcd.take m).take (k+1)=(abcd.take m).take k++[c]:=by rw[ldJ,hc];rfl
    have hlen:(sT (acc++((abcd.take m).take k).map λc=>x++[c])).length<1000000:=by
     rw[wN,lae,lQ,las];omega
    have hz:x.length+1<=1000000:=by omega
    refine⟨_,zeR rfl (xM (a:=.str x) (b:=.str [c]) rfl rfl (zeT hz)) hlen,.fz (.str [c]),?_⟩
    have e5:sT (acc++((abcd.take m).take (k+1)).map λc=>x++[c])=sT (acc++((abcd.take m).take k).map λc=>x++[c])++[D.str (x++[c])]:=by
     rw[e3,lbW,← la3,← zg0 (acc++_)];rfl
    rw[e5];rfl)
  refine⟨s',e.trans ?_⟩
  rw[lbX (lB _)]
 have outer:=vN (i:=3) (g:=uN 4 (fI sgD (fSl (fC (.str [97,98,99,100])) xR (xH (fNm 0)))) (zaU 2 (f2 zeI (fNm 3) (fNm 4)))) (l:=xs) (enc:=D.str) (ρ:=[.fz (.int m),.fz (.lst (sT xs)),.ow [],.no,.no])
  (λk ρ=>∃s s',ρ=[.fz (.int m),.fz (.lst (sT xs)),.ow (sT (zN m (xs.take k))),s,s']) ⟨.no,.no,rfl⟩ (λk x ρ hx ⟨s,s',e⟩=>by
   subst e
   have hk:k<xs.length:=(lO.mp hx).1
   have e3:xs.take (k+1)=xs.take k++[x]:=by rw[ldJ,hx];rfl
   have hg:(zN m (xs.take k)).length<=4*k:=by
    have:(zN m (xs.take k)).length<=4*(xs.take k).length:=by
     unfold zN
     generalize xs.take k=ys
     induction ys with
     | nil=>simp
     | cons y ys ih=>simp only[ldF,lae,lQ,laf];omega
    rw[las] at this;omega
   obtain⟨s2,e4⟩:=inner x (zN m (xs.take k)) s' (hl x (laL hx)) (by omega)
   refine⟨_,e4,.fz (.str x),s2,?_⟩
   rw[e3]
   unfold zN
   rw[List.flatMap_append]
   simp)
 obtain⟨ρ',e,s,s',rfl⟩:=outer
 rw[lbX (lB _)] at e
 refine ye ?_
 show qC [.fz (.int m),.fz (.lst (sT xs)),.no,.no,.no]=_
 unfold qC
 refine(zB (g:=wR 2 (fL szL zE)) (ρ':=[.fz (.int m),.fz (.lst (sT xs)),.ow [],.no,.no]) rfl).trans ?_
 refine(zB (uX ((uD (ds:=sT xs) rfl).trans e))).trans ?_
 rfl
theorem zhW (hl:ps.length<=1000000)(xs:qQ1)(hx:∀x∈xs,x.length<=999)(hn:xs.length<=99999)(s3 s4:Sl) :
  match (zN m xs).find? (yS ps) with
  | some x=>zW (xJ 3 (fA (ari 2 yp) (zj (fNm 0) (zj (fNm 2) zE)))) (zW (uN 4 (fI lsD (fNm 3)) (sIf (bT (fA (ari 2 z7) (zj (fNm 1) (zj (fNm 4) zE)))) (yR (fNm 4)) sNx)) (wB 2 (fCp (fI lsD (fNm 3)) (bT (fA (ari 2 z6) (zj (fNm 1) (zj (fNm 0) zE)))) (fNm 0) [1]))) [.fz (.int m),.fz (.tup (sT ps)),.fz (.lst (sT xs)),s3,s4]=.rt (.str x)
  | none=>∃s3' s4',zW (xJ 3 (fA (ari 2 yp) (zj (fNm 0) (zj (fNm 2) zE)))) (zW (uN 4 (fI lsD (fNm 3)) (sIf (bT (fA (ari 2 z7) (zj (fNm 1) (zj (fNm 4) zE)))) (yR (fNm 4)) sNx)) (wB 2 (fCp (fI lsD (fNm 3)) (bT (fA (ari 2 z6) (zj (fNm 1) (zj (fNm 0) zE)))) (fNm 0) [1]))) [.fz (.int m),.fz (.tup (sT ps)),.fz (.lst (sT xs)),s3,s4]=.nx [.fz (.int m),.fz (.tup (sT ps)),.fz (.lst (sT ((zN m xs).filter (isInner ps)))),s3',s4']:=by
 have eg:=zcx (m:=m) xs (λx q=>by have:=hx x q;omega) (by omega)
 have e1:(xJ 3 (fA (ari 2 yp) (zj (fNm 0) (zj (fNm 2) zE)))) [.fz (.int m),.fz (.tup (sT ps)),.fz (.lst (sT xs)),s3,s4]=.nx [.fz (.int m),.fz (.tup (sT ps)),.fz (.lst (sT xs)),.fz (.lst (sT (zN m xs))),s4]:=by
  refine yP (d:=.lst (sT (zN m xs))) ?_
  exact eg
 have hgl:(zN m xs).length<=1000000:=by
  have hab:(abcd.take m).length<=4:=by rw[las];exact ldS _ _
  have:(zN m xs).length<=4*xs.length:=by
   unfold zN
   clear hn hx eg e1
   induction xs with
   | nil=>simp
   | cons y ys ih=>simp only[ldF,lae,lQ,laf];omega
  omega
 have key:=zg9 (i:=4) (g:=sIf (bT (fA (ari 2 z7) (zj (fNm 1) (zj (fNm 4) zE)))) (yR (fNm 4)) sNx) (ρ:=[.fz (.int m),.fz (.tup (sT ps)),.fz (.lst (sT xs)),.fz (.lst (sT (zN m xs))),s4]) (l:=zN m xs) (enc:=D.str)
  (λρ=>∃a,ρ=[.fz (.int m),.fz (.tup (sT ps)),.fz (.lst (sT xs)),.fz (.lst (sT (zN m xs))),a]) (yS ps) (λx=>.str x) ⟨_,rfl⟩ (λx hx ρ ⟨a,e⟩=>by
   subst e
   have ea:(bT (fA (ari 2 z7) (zj (fNm 1) (zj (fNm 4) zE)))) [.fz (.int m),.fz (.tup (sT ps)),.fz (.lst (sT xs)),.fz (.lst (sT (zN m xs))),.fz (.str x)]=.ok (yS ps x):=by
    show(z7 [.tup (sT ps),.str x]).bind tru=_
    rw[zeK ps x hl];rfl
   cases hp:yS ps x with
   | true=>rw[lU rfl];rw[hp] at ea;exact(zgC ea).trans rfl
   | false=>rw[lac lH];rw[hp] at ea;exact⟨_,(zgw ea).trans rfl,_,rfl⟩)
 cases hf:(zN m xs).find? (yS ps) with
 | some x =>
  rw[hf] at key
  refine(zB e1).trans (zaj ((uD (ds:=sT (zN m xs)) rfl).trans key))
 | none =>
  rw[hf] at key
  obtain⟨ρ',k1,a,rfl⟩:=key
  have ec:xj (bT (fA (ari 2 z6) (zj (fNm 1) (zj (fNm 0) zE)))) (fNm 0) [.no,.fz (.tup (sT ps))] (sT (zN m xs))=.ok (((zN m xs).filter (isInner ps)).map .str):=zcU _ _ λx hx=>⟨by
   show(z6 [.tup (sT ps),.str x]).bind tru=_
   rw[zeY ps x hl];rfl,λ_=>rfl⟩
  refine⟨.fz (.lst (sT (zN m xs))),a,(zB e1).trans ((zB ((uD (ds:=sT (zN m xs)) rfl).trans k1)).trans ?_)⟩
  have e5:fCp (fI lsD (fNm 3)) (bT (fA (ari 2 z6) (zj (fNm 1) (zj (fNm 0) zE)))) (fNm 0) [1] [.fz (.int m),.fz (.tup (sT ps)),.fz (.lst (sT xs)),.fz (.lst (sT (zN m xs))),a]=.ok (sT ((zN m xs).filter (isInner ps))):=by
   show(if (sT (zN m xs)).length<=1000000 then xj _ _ [.no,.fz (.tup (sT ps))] (sT (zN m xs)) else .no)=_
   rw[wN,lU hgl]
   exact ec
  unfold wB
  rw[e5];rfl
theorem zbP:∀(xs ys:qQ1),PyData.eqvAll (D.pys (sT xs)) (D.pys (sT ys))=decide (xs=ys)
 | [],[]=>rfl
 | [],_::_=>rfl
 | _::_,[]=>rfl
 | x::xs,y::ys=>by
  show(PyData.eqv (.str (T x)) (.str (T y))&&PyData.eqvAll (D.pys (sT xs)) (D.pys (sT ys)))=_
  rw[zbP xs ys,ze6]
  by_cases h:x=y <;>by_cases h2:xs=ys <;>simp[h,h2]
theorem zhK:∀xs:qQ1,PyData.depthAll (D.pys (sT xs))=0
 | []=>rfl
 | x::xs=>by
  show max (PyData.depth (.str (T x))) (PyData.depthAll (D.pys (sT xs)))=0
  rw[zhK xs];rfl
theorem zbK (neg:Bool)(xs ys:qQ1):eqD neg (.lst (sT xs)) (.lst (sT ys))=some (.bl (if neg then !decide (xs=ys) else decide (xs=ys))):=by
 have h:(D.lst (sT xs)).pl=true/\(D.lst (sT ys)).pl=true/\(D.lst (sT xs)).py.depth<=60:=⟨wV xs,wV ys,by show PyData.depthAll (D.pys (sT xs))+1<=60;rw[zhK];omega⟩
 unfold eqD
 rw[lU h]
 show some (D.bl (if neg=true then !PyData.eqvAll (D.pys (sT xs)) (D.pys (sT ys)) else PyData.eqvAll (D.pys (sT xs)) (D.pys (sT ys))))=_
 rw[zbP]
theorem zlC (neg:Bool)(xs ys:qQ1):eqD neg (.tup (sT xs)) (.tup (sT ys))=some (.bl (if neg then !decide (xs=ys) else decide (xs=ys))):=by
 have h:(D.tup (sT xs)).pl=true/\(D.tup (sT ys)).pl=true/\(D.tup (sT xs)).py.depth<=60:=⟨wV xs,wV ys,by show PyData.depthAll (D.pys (sT xs))+1<=60;rw[zhK];omega⟩
 unfold eqD
 rw[lU h]
 show some (D.bl (if neg=true then !PyData.eqvAll (D.pys (sT xs)) (D.pys (sT ys)) else PyData.eqvAll (D.pys (sT xs)) (D.pys (sT ys))))=_
 rw[zbP]
theorem zid (m:Nat){xs:qQ1}(h:xs.Nodup):(zN m xs).Nodup:=by
 induction xs with
 | nil=>exact lb8
 | cons x xs ih =>
  obtain⟨h1,h2⟩:=lbD.mp h
  show((kids m x)++zN m xs).Nodup
  refine lbO.mpr ⟨zfl m x,ih h2,λy hy z hz e=>?_⟩
  subst e
  obtain⟨c,hc,e⟩:=kids_mem.mp hy
  obtain⟨w,hw,d,hd,e2⟩:=jh hz
  have:=lbB List.dropLast (e.symm.trans e2)
  rw[lcu,lcu] at this
  exact h1 (this▸hw)
theorem zjp (m4:m<=4)(hl:ps.length<=10000)(h8:∀p∈ps,p.length<=31):∀(k L n:Nat) (xs:qQ1) (s3 s4:Sl),L+k=32->(∀x∈xs,x.length=L/\(L=0∨isInner ps x=true))->xs.Nodup->k<n ->
  match fta m ps k xs with
  | some x=>whD (bT (f2 (eqD true) (fNm 2) (fO mkL zE))) (zW (xJ 3 (fA (ari 2 yp) (zj (fNm 0) (zj (fNm 2) zE)))) (zW (uN 4 (fI lsD (fNm 3)) (sIf (bT (fA (ari 2 z7) (zj (fNm 1) (zj (fNm 4) zE)))) (yR (fNm 4)) sNx)) (wB 2 (fCp (fI lsD (fNm 3)) (bT (fA (ari 2 z6) (zj (fNm 1) (zj (fNm 0) zE)))) (fNm 0) [1])))) n [.fz (.int m),.fz (.tup (sT ps)),.fz (.lst (sT xs)),s3,s4]=.rt (.str x)
  | none=>∃ρ',whD (bT (f2 (eqD true) (fNm 2) (fO mkL zE))) (zW (xJ 3 (fA (ari 2 yp) (zj (fNm 0) (zj (fNm 2) zE)))) (zW (uN 4 (fI lsD (fNm 3)) (sIf (bT (fA (ari 2 z7) (zj (fNm 1) (zj (fNm 4) zE)))) (yR (fNm 4)) sNx)) (wB 2 (fCp (fI lsD (fNm 3)) (bT (fA (ari 2 z6) (zj (fNm 1) (zj (fNm 0) zE)))) (fNm 0) [1])))) n [.fz (.int m),.fz (.tup (sT ps)),.fz (.lst (sT xs)),s3,s4]=.nx ρ':=by
 intro k
 induction k with
 | zero =>
  intro L n xs s3 s4 hL hx hn hk
  have:xs=[]:=by
   cases xs with
   | nil=>rfl
   | cons x xs =>
    obtain⟨e1,e2⟩:=hx x (.head _)
    rcases e2 with e2|e2
    ·omega
    ·have:=zbn e2 h8;omega
  subst this
  obtain⟨n',rfl⟩:∃n',n=n'+1:=⟨n - 1,by omega⟩
  refine⟨[.fz (.int m),.fz (.tup (sT ps)),.fz (.lst (sT [])),s3,s4],?_⟩
  unfold whD
  have e0:(bT (f2 (eqD true) (fNm 2) (fO mkL zE))) [.fz (.int m),.fz (.tup (sT ps)),.fz (.lst (sT [])),s3,s4]=.ok false:=by
   show(lf (eqD true (.lst (sT [])) (.lst (sT [])))).bind tru=_
   rw[zbK];rfl
  rw[e0]
 | succ k ih =>
  intro L n xs s3 s4 hL hx hn hk
  obtain⟨n',rfl⟩:∃n',n=n'+1:=⟨n - 1,by omega⟩
  have et:(bT (f2 (eqD true) (fNm 2) (fO mkL zE))) [.fz (.int m),.fz (.tup (sT ps)),.fz (.lst (sT xs)),s3,s4]=.ok (!decide (xs=[])):=by
   show(lf (eqD true (.lst (sT xs)) (.lst (sT [])))).bind tru=_
   rw[zbK];rfl
  by_cases h0:xs=[]
  ·have ef:fta m ps (k+1) xs=none:=by unfold fta;rw[lU h0]
   rw[ef]
   refine⟨[.fz (.int m),.fz (.tup (sT ps)),.fz (.lst (sT xs)),s3,s4],?_⟩
   unfold whD
   rw[et,lX h0]
   rfl
  ·have ef:fta m ps (k+1) xs=match (zN m xs).find? (yS ps) with|some x=>some x|none=>fta m ps k ((zN m xs).filter (isInner ps)):=by
    rw[fta.eq_2,lac h0]
    all_goals (cases (zN m xs).find? (yS ps) <;>rfl)
   rw[laa h0] at et
   have hLs:L<=30:=by
    cases xs with
    | nil=>exact absurd rfl h0
    | cons x xs =>
     obtain⟨e1,e2⟩:=hx x (.head _)
     rcases e2 with e2|e2
     ·omega
     ·have:=zbn e2 h8;omega
   have hcnt:xs.length<=ps.length+1:=by
    rcases Nat.eq_zero_or_pos L with z|z
    ·have:xs.length<=([[]]:qQ1).length:=hn.length_le_of_subset λx hxx=>by
      rw[la0.mp ((hx x hxx).1.trans z)];exact .head _
     simp at this;omega
    ·have:xs.length<=(ps.map λp=>p.take L).length:=hn.length_le_of_subset λx hxx=>by
      obtain⟨e1,e2⟩:=hx x hxx
      rcases e2 with e2|e2
      ·omega
      ·obtain⟨p,hp,q1,_⟩:=inner_iff.mp e2
       refine lat.mpr ⟨p,hp,?_⟩
       rw[← e1];exact(lcP.mp q1).symm
     rw[lQ] at this;omega
   have R:=zhW (m:=m) (ps:=ps) (by omega) xs (λx q=>by have:=(hx x q).1;omega) (by omega) s3 s4
   rw[ef]
   cases hf:(zN m xs).find? (yS ps) with
   | some x =>
    rw[hf] at R
    show whD _ _ (n'+1) _=_
    unfold whD
    rw[et]
    simp only[laZ]
    rw[R]
   | none =>
    rw[hf] at R
    obtain⟨s3',s4',R⟩:=R
    have hx':∀x∈(zN m xs).filter (isInner ps),x.length=L+1/\(L+1=0∨isInner ps x=true):=λx q=>by
     obtain⟨q1,q2⟩:=lbC.mp q
     obtain⟨y,hy,c,hc,rfl⟩:=jh q1
     exact⟨by rw[lae,(hx y hy).1];rfl,.inr q2⟩
    have hn':((zN m xs).filter (isInner ps)).Nodup:=(zid m hn).filter _
    have:=ih (L+1) n' _ s3' s4' (by omega) hx' hn' (by omega)
    have es:whD (bT (f2 (eqD true) (fNm 2) (fO mkL zE))) (zW (xJ 3 (fA (ari 2 yp) (zj (fNm 0) (zj (fNm 2) zE)))) (zW (uN 4 (fI lsD (fNm 3)) (sIf (bT (fA (ari 2 z7) (zj (fNm 1) (zj (fNm 4) zE)))) (yR (fNm 4)) sNx)) (wB 2 (fCp (fI lsD (fNm 3)) (bT (fA (ari 2 z6) (zj (fNm 1) (zj (fNm 0) zE)))) (fNm 0) [1])))) (n'+1) [.fz (.int m),.fz (.tup (sT ps)),.fz (.lst (sT xs)),s3,s4]=whD (bT (f2 (eqD true) (fNm 2) (fO mkL zE))) (zW (xJ 3 (fA (ari 2 yp) (zj (fNm 0) (zj (fNm 2) zE)))) (zW (uN 4 (fI lsD (fNm 3)) (sIf (bT (fA (ari 2 z7) (zj (fNm 1) (zj (fNm 4) zE)))) (yR (fNm 4)) sNx)) (wB 2 (fCp (fI lsD (fNm 3)) (bT (fA (ari 2 z6) (zj (fNm 1) (zj (fNm 0) zE)))) (fNm 0) [1])))) n' [.fz (.int m),.fz (.tup (sT ps)),.fz (.lst (sT ((zN m xs).filter (isInner ps)))),s3',s4']:=by
     rw[whD.eq_2,et]
     simp only[laZ]
     rw[R]
    simp only[es]
    exact this
theorem zcY (m4:m<=4)(hl:ps.length<=10000)(h8:∀p∈ps,p.length<=31):yL [.int m,.tup (sT ps)]=.ok (match wM m ps with|some x=>.str x|none=>.non):=by
 have:=zjp m4 hl h8 32 0 2000 [[]] .no .no rfl (λx hx=>by rw[lR.mp hx];exact⟨rfl,.inl rfl⟩) (by decide) (by decide)
 unfold wM
 cases hf:fta m ps 32 [[]] with
 | some x =>
  rw[hf] at this
  refine ye ?_
  exact(zB (ρ':=[.fz (.int m),.fz (.tup (sT ps)),.fz (.lst (sT [[]])),.no,.no]) rfl).trans (zaj (zl8 this))
 | none =>
  rw[hf] at this
  obtain⟨ρ',e⟩:=this
  refine ye ?_
  exact(zB (ρ':=[.fz (.int m),.fz (.tup (sT ps)),.fz (.lst (sT [[]])),.no,.no]) rfl).trans ((zB (uX e)).trans rfl)
def znb (m:Nat)(ps:qQ1):D:=match wz ps with
 | some x=>.tup [.str x.1,.str x.2]
 | none=>(match wM m ps with|some x=>.str x|none=>.non)
theorem zb4 (m4:m<=4)(hl:ps.length<=10000)(h8:∀p∈ps,p.length<=31):wL [.int m,.tup (sT ps)]=.ok (znb m ps):=by
 refine ye ?_
 show xZ [.fz (.int m),.fz (.tup (sT ps)),.no]=_
 unfold xZ znb
 cases hf:wz ps with
 | some x =>
  have e1:xJ 2 (fA (ari 1 yJ) (zj (fNm 1) zE)) [.fz (.int m),.fz (.tup (sT ps)),.no]=.nx [.fz (.int m),.fz (.tup (sT ps)),.fz (.tup [.str x.1,.str x.2])]:=yP (d:=.tup [.str x.1,.str x.2]) (by
   show yJ [.tup (sT ps)]=_
   rw[j4,hf])
  exact(zB e1).trans (zaj rfl)
 | none =>
  have e1:xJ 2 (fA (ari 1 yJ) (zj (fNm 1) zE)) [.fz (.int m),.fz (.tup (sT ps)),.no]=.nx [.fz (.int m),.fz (.tup (sT ps)),.fz .non]:=yP (d:=.non) (by
   show yJ [.tup (sT ps)]=_
   rw[j4,hf])
  refine(zB e1).trans ((zB (ρ':=[.fz (.int m),.fz (.tup (sT ps)),.fz .non]) rfl).trans (xQ ?_))
  show yL [.int m,.tup (sT ps)]=_
  rw[zcY m4 hl h8]
theorem zjK :isN false (znb m ps)=some (.bl ((wz ps).isNone&&(wM m ps).isNone)):=by
 unfold znb
 cases wz ps with
 | some x=>rfl
 | none=>cases wM m ps <;>rfl
theorem zcf (h:Pcs m ps):vg [.int m,.tup (sT ps)]=.ok (.bl (isBook m ps)):=by
 have h8:∀p∈ps,p.length<=31:=λp q=>(h.2.2.2.2 p q).2.2
 have hl:ps.length<=10000:=by have:=h.2.2.2.1;omega
 refine ye (xQ ?_)
 show(yx [.int m,.tup (sT ps)]).bind (λa=>(tru a).bind λb=>if b=true then(wL [.int m,.tup (sT ps)]).bind (λa=>lf (isN false a)) else .ok (.bl false))=_
 rw[zc5 h,zb4 h.2.1 hl h8]
 show(if rising ps=true then lf (isN false (znb m ps)) else Rs.ok (D.bl false))=_
 rw[zjK]
 unfold isBook
 cases rising ps <;>simp[lf]
theorem xW (h:Pcs m ps)(hr:isBook m ps=true):zU [.int m,.tup (sT ps)]=.ok .non:=by
 refine zfq (ρ:=[.fz (.int m),.fz (.tup (sT ps))]) ?_
 refine(zgw ?_).trans rfl
 show((vg [.int m,.tup (sT ps)]).bind tru).bind (λb=>Rs.ok !b)=_
 rw[zcf h,hr];rfl
theorem q9 (m4:m<=4)(h:LetOk m l)(hl:l.length<=1000000):zT [.int m,.str l]=.ok .non:=by
 refine zfq (ρ:=[.fz (.int m),.fz (.str l)]) ?_
 refine(zgw ?_).trans rfl
 show((yK [.int m,.str l]).bind tru).bind (λb=>Rs.ok !b)=_
 rw[jl m l hl,zdx m4 h];rfl
theorem zhk (hl:l.length<=1000):zbC [.tup (sT ps),.str l]=.ok (.tup [.lst (sT (wA ps l).1),.str (wA ps l).2]):=by
 have step:=vN (i:=4) (g:=zW (xJ 3 (f2 zeI (fNm 3) (fNm 4))) (sIf (bT (f2 (inD false) (fNm 3) (fNm 0))) (zW (zaU 2 (fNm 3)) (xJ 3 (fC (.str [])))) sNx)) (l:=l) (enc:=λc=>D.str [c]) (ρ:=[.fz (.tup (sT ps)),.fz (.str l),.ow [],.fz (.str []),.no])
  (λk ρ=>∃s,ρ=[.fz (.tup (sT ps)),.fz (.str l),.ow (sT (wA ps (l.take k)).1),.fz (.str (wA ps (l.take k)).2),s]) ⟨.no,rfl⟩ (λk c ρ hc ⟨s,e⟩=>by
   subst e
   have hk:k<l.length:=(lO.mp hc).1
   have e3:l.take (k+1)=l.take k++[c]:=by rw[ldJ,hc];rfl
   have e4:wA ps (l.take (k+1))=zQ ps (wA ps (l.take k)) c:=by rw[e3];unfold wA;rw[lc1];rfl
   have b1:=(zfK ps (l.take k)).1
   have b2:=(zfK ps (l.take k)).2
   rw[las] at b1 b2
   rw[e4]
   generalize wA ps (l.take k)=st at *
   obtain⟨acc,left⟩:=st
   have e5:xJ 3 (f2 zeI (fNm 3) (fNm 4)) [.fz (.tup (sT ps)),.fz (.str l),.ow (sT acc),.fz (.str left),.fz (.str [c])]=.nx [.fz (.tup (sT ps)),.fz (.str l),.ow (sT acc),.fz (.str (left++[c])),.fz (.str [c])]:=yP (d:=.str (left++[c])) (xM (a:=.str left) (b:=.str [c]) rfl rfl (zeT (by show left.length+1<=_;dsimp only at b2;omega)))
   have e6:(bT (f2 (inD false) (fNm 3) (fNm 0))) [.fz (.tup (sT ps)),.fz (.str l),.ow (sT acc),.fz (.str (left++[c])),.fz (.str [c])]=.ok (decide (left++[c]∈ps)):=by
    show(lf (inQ false (.str (left++[c])) (sT ps))).bind tru=_
    rw[znv];rfl
   unfold zQ
   by_cases hm:left++[c]∈ps
   ·rw[lX hm] at e6
    rw[lU hm]
    have hlen:(sT acc).length<1000000:=by rw[wN];dsimp only at b1;omega
    refine⟨_,(zB e5).trans ((zgC e6).trans ((zB (zeR rfl rfl hlen)).trans (yP (d:=.str []) rfl))),.fz (.str [c]),?_⟩
    have e7:sT (acc++[left++[c]])=sT acc++[D.str (left++[c])]:=by rw[← zg0];rfl
    show _=[_,_,Sl.ow (sT (acc++[left++[c]])),_,_]
    rw[e7];rfl
   ·rw[laa hm] at e6
    rw[lac hm]
    exact⟨_,(zB e5).trans ((zgw e6).trans rfl),_,rfl⟩)
 obtain⟨ρ',e,s,rfl⟩:=step
 rw[lbX (lB _)] at e
 refine ye ?_
 show jR [.fz (.tup (sT ps)),.fz (.str l),.no,.no,.no]=_
 unfold jR
 refine(zB (ρ':=[.fz (.tup (sT ps)),.fz (.str l),.ow [],.no,.no]) rfl).trans ?_
 refine(zB (ρ':=[.fz (.tup (sT ps)),.fz (.str l),.ow [],.fz (.str []),.no]) rfl).trans ?_
 refine(zB (uX ((uD (ds:=l.map λc=>.str [c]) rfl).trans e))).trans ?_
 rfl
def dK (ks:qQ1):List (List Nat×D):=ks.map λk=>(k,.bl true)
def zd2 (ns:List Int)(k:Int):Int:=if ns=[] then 7*k else ns.getD (k % ns.length).toNat 0+6553*(k / ns.length)
def vO (ns:List Int)(k m:Int):Int :=
 let c1:=(zd2 ns k % 2147483563*69069+104723*(k+1)) % 2147483563
 let c2:=(c1*c1+c1 / 3) % 2147483399
 (c2*c2+c2 / 7) % 2147483647 / 11 % m
theorem yD (ns:List Int)(k:Int){m:Int}(hm:0<m):0<=vO ns k m/\vO ns k m<m:=by
 unfold vO
 exact⟨lcq _ (by omega),lb5 _ (by omega)⟩
def scD (ns:List Int):D:=.lst (ns.map .int)
theorem zf0:∀ns:List Int,D.pls (ns.map .int)=true
 | []=>rfl
 | n::ns=>by show((D.int n).pl&&D.pls (ns.map .int))=true;rw[zf0 ns];rfl
theorem zfZ:∀ns:List Int,PyData.depthAll (D.pys (ns.map .int))=0
 | []=>rfl
 | n::ns=>by show max 0 (PyData.depthAll (D.pys (ns.map .int)))=0;rw[zfZ ns];rfl
theorem zgK (ns:List Int):eqD false (scD ns) (.lst [])=some (.bl (decide (ns=[]))):=by
 have h:(scD ns).pl=true/\(D.lst []).pl=true/\(scD ns).py.depth<=60:=⟨zf0 ns,rfl,by show PyData.depthAll (D.pys (ns.map .int))+1<=60;rw[zfZ];omega⟩
 unfold eqD
 rw[lU h]
 cases ns <;>rfl
theorem cell_eq (ns:List Int)(hn:ns.length<=63)(k:Int)(h0:0<=k)(h1:k<1000):ud [scD ns,.int k]=.ok (.int (zd2 ns k)):=by
 refine ye ?_
 show vz [.fz (scD ns),.fz (.int k)]=_
 unfold vz zd2
 have e1:(bT (f2 (eqD false) (fNm 0) (fO mkL zE))) [.fz (scD ns),.fz (.int k)]=.ok (decide (ns=[])):=by
  show(lf (eqD false (scD ns) (.lst []))).bind tru=_
  rw[zgK];rfl
 by_cases h:ns=[]
 ·rw[lX h] at e1
  rw[lU h]
  exact zaj ((zgC e1).trans (xQ (zas rfl rfl (ji (by omega)) (ji (by omega)))))
 ·rw [laa h] at e1
  rw[lac h]
  refine(zB (ρ':=[.fz (scD ns),.fz (.int k)]) ((zgw e1).trans rfl)).trans (xQ ?_)
  have hl:0<ns.length:=lbT.mpr h
  have el:fO jj (zj (fNm 0) zE) [.fz (scD ns),.fz (.int k)]=.ok (.int (ns.length:Int)):=by
   show Rs.ok (D.int ((ns.map D.int).length:Int))=_
   rw[lQ]
  have hp:(0:Int)<(ns.length:Int):=by omega
  have r1:=lcq k (show(ns.length:Int)≠0 by omega)
  have r2:=lb5 k hp
  have hd:0<=k / (ns.length:Int):=Int.ediv_nonneg h0 (by omega)
  have hd2:k / (ns.length:Int)<=k:=Int.ediv_le_self _ h0
  obtain⟨j,hj⟩:=laG r1
  have hjl:j<ns.length:=by omega
  have ei:f2 ixD (fNm 0) (f2 zjF (fNm 1) (fO jj (zj (fNm 0) zE))) [.fz (scD ns),.fz (.int k)]=.ok (.int (ns.getD (k % (ns.length:Int)).toNat 0)):=by
   refine xM (a:=scD ns) (b:=.int (k % (ns.length:Int))) rfl (zaw rfl el hp) ?_
   show atI (ns.map D.int) (k % (ns.length:Int))=_
   rw[hj]
   have:=zgY (xs:=ns.map D.int) (j:=j) (v:=.int ns[j]) (by rw[lJ,lh hjl];rfl)
   rw[this,laq,ly,lh hjl];rfl
  exact uG ei (zas rfl (za1 rfl el hp (ji (by omega))) (ji (by omega)) (ji (by omega)))
theorem uU (ns:List Int)(hn:ns.length<=63)(k m:Int)(h0:0<=k)(h1:k<1000)(hm:0<m):zJ [scD ns,.int k,.int m]=.ok (.int (vO ns k m)):=by
 refine ye ?_
 show wQ [.fz (scD ns),.fz (.int k),.fz (.int m),.no]=_
 have hD:∀c1 c2,(zd2 ns k % 2147483563*69069+104723*(k+1)) % 2147483563=c1->(c1*c1+c1 / 3) % 2147483399=c2->vO ns k m=(c2*c2+c2 / 7) % 2147483647 / 11 % m:=by
  rintro _ _ rfl rfl;rfl
 unfold wQ
 have ec:fA (ari 2 ud) (zj (fNm 0) (zj (fNm 1) zE)) [.fz (scD ns),.fz (.int k),.fz (.int m),.no]=.ok (.int (zd2 ns k)):=cell_eq ns hn k h0 h1
 have a1:=lcq (zd2 ns k) (show(2147483563:Int)≠0 by decide)
 have a2:=lb5 (zd2 ns k) (show(0:Int)<2147483563 by decide)
 generalize hc1:(zd2 ns k % 2147483563*69069+104723*(k+1)) % 2147483563=c1
 have b1:0<=c1:=hc1▸lcq _ (by decide)
 have b2:c1<2147483563:=hc1▸lb5 _ (by decide)
 refine(zB (ρ':=[.fz (scD ns),.fz (.int k),.fz (.int m),.fz (.int c1)]) ?_).trans ?_
 ·rw[← hc1]
  exact yP (zaw (uG (zas (zaw ec rfl (by decide)) rfl (ji (by omega)) (ji (by decide))) (zas rfl (uG rfl rfl) (ji (by decide)) (ji (by omega)))) rfl (by decide))
 generalize hc2:(c1*c1+c1 / 3) % 2147483399=c2
 have d1:0<=c2:=hc2▸lcq _ (by decide)
 have d2:c2<2147483399:=hc2▸lb5 _ (by decide)
 refine(zB (ρ':=[.fz (scD ns),.fz (.int k),.fz (.int m),.fz (.int c2)]) ?_).trans ?_
 ·rw[← hc2]
  exact yP (zaw (uG (zas rfl rfl (ji (by omega)) (ji (by omega))) (za1 rfl rfl (by decide) (ji (by decide)))) rfl (by decide))
 rw[hD c1 c2 hc1 hc2]
 exact xQ (zaw (za1 (zaw (uG (zas rfl rfl (ji (by omega)) (ji (by omega))) (za1 rfl rfl (by decide) (ji (by decide)))) rfl (by decide)) rfl (by decide) (ji (by decide))) rfl hm)
def zcd (ns:List Int)(at' many long:Int):List Nat:=(List.range (vO ns at' (long+1)).toNat).map λ(i:Nat)=>abcd.getD (vO ns (at'+1+(i:Int)) many).toNat 0
theorem zjv (ns:List Int)(at':Int)(m2:2<=m)(m4:m<=4)(long:Int):LetOk m (zcd ns at' m long):=λc hc=>by
 obtain⟨i,_,rfl⟩:=lat.mp hc
 have hr:=yD ns (at'+1+(i:Int)) (m:=m) (by omega)
 obtain⟨j,hj⟩:=laG hr.1
 rw[hj] at hr ⊢
 rw[laq]
 have hj4:j<m:=by omega
 have:∀j<4,abcd.getD j 0=97+j:=by decide
 rw[this j (by omega)];omega
theorem zey (ns:List Int)(at' m:Int){long:Nat}:(zcd ns at' m long).length<=long:=by
 unfold zcd
 rw[lQ,lbA]
 have:=yD ns at' (m:=(long:Int)+1) (by omega)
 omega
theorem zeW {j:Nat}(h:j<4):ixD (.str [97,98,99,100]) (.int (j:Int))=some (.str [abcd.getD j 0]):=by
 have e:j=0∨j=1∨j=2∨j=3:=by omega
 rcases e with rfl|rfl|rfl|rfl <;>rfl
theorem zkY (ns:List Int)(hn:ns.length<=63)(at':Nat)(m2:2<=m)(m4:m<=4)(long:Nat)(hat:at'+long+1<1000):vU [scD ns,.int at',.int m,.int long]=.ok (.str (zcd ns at' m long)):=by
 have hr:=yD ns at' (m:=(long:Int)+1) (by omega)
 obtain⟨z,hz⟩:=laG hr.1
 rw[hz] at hr
 have e1:fA (ari 3 zJ) (zj (fNm 0) (zj (fNm 1) (zj (f2 u6 (fNm 3) (fC (.int 1))) zE))) [.fz (scD ns),.fz (.int at'),.fz (.int m),.fz (.int long),.no]=.ok (.int (z:Int)):=by
  rw[← hz];exact uU ns hn at' (long+1) (by omega) (by omega) (by omega)
 have e2:xj yo (f2 ixD (fC (.str [97,98,99,100])) (fA (ari 3 zJ) (zj (fNm 1) (zj (f2 u6 (f2 u6 (fNm 3) (fC (.int 1))) (fNm 0)) (zj (fNm 2) zE))))) [.no,.fz (scD ns),.fz (.int m),.fz (.int at')] ((List.range z).map λ(k:Nat)=>.int (k:Int))=.ok ((List.range z).map λ(i:Nat)=>.str [abcd.getD (vO ns ((at':Int)+1+(i:Int)) m).toNat 0]):=xK (enc:=λ(k:Nat)=>D.int (k:Int)) _ λi hi=>by
  have hi':i<z:=by simpa using hi
  have hr2:=yD ns ((at':Int)+1+(i:Int)) (m:=m) (by omega)
  have e3:fA (ari 3 zJ) (zj (fNm 1) (zj (f2 u6 (f2 u6 (fNm 3) (fC (.int 1))) (fNm 0)) (zj (fNm 2) zE))) [.fz (.int (i:Int)),.fz (scD ns),.fz (.int m),.fz (.int at')]=.ok (.int (vO ns ((at':Int)+1+(i:Int)) m)):=uU ns hn _ m (by omega) (by omega) (by omega)
  obtain⟨j,hj⟩:=laG hr2.1
  rw[hj] at e3 hr2 ⊢
  rw[laq]
  exact xM (a:=.str [97,98,99,100]) (b:=.int (j:Int)) rfl e3 (zeW (by omega))
 refine ye ?_
 show vp [.fz (scD ns),.fz (.int at'),.fz (.int m),.fz (.int long),.no]=_
 unfold vp
 refine(zB (yP e1)).trans (xQ ?_)
 have e4:yU (fR zd7 (zj (fNm 4) zE)) yo (f2 ixD (fC (.str [97,98,99,100])) (fA (ari 3 zJ) (zj (fNm 1) (zj (f2 u6 (f2 u6 (fNm 3) (fC (.int 1))) (fNm 0)) (zj (fNm 2) zE))))) [0,2,1] [.fz (scD ns),.fz (.int at'),.fz (.int m),.fz (.int long),.fz (.int (z:Int))]=.ok (.lst ((List.range z).map λ(i:Nat)=>.str [abcd.getD (vO ns ((at':Int)+1+(i:Int)) m).toNat 0])) :=
  zaX (zhg (ds:=[.int (z:Int)]) rfl (jP (by omega))) (by rw[lQ,lbA];omega) e2
 refine zlk (a:=.str []) rfl rfl e4 ?_
 have et:zcd ns at' m long=(List.range z).map λ(i:Nat)=>abcd.getD (vO ns ((at':Int)+1+(i:Int)) m).toNat 0:=by unfold zcd;rw[hz,laq]
 have ef:((((List.range z).map λ(i:Nat)=>D.str [abcd.getD (vO ns ((at':Int)+1+(i:Int)) m).toNat 0])).map unS).flatten=zcd ns at' m long:=by
  rw[et,laK]
  generalize (List.range z)=r
  induction r with
  | nil=>rfl
  | cons a r ih=>rw[lF,lbi,ih];rfl
 dsimp only [zjI]
 rw[ef,lU]
 refine⟨by rw[lb2];exact lZ.mpr λ_ _=>rfl,?_⟩
 have:=zey ns at' m (long:=long)
 omega
def bkF (ns:List Int)(at':Nat)(m:Nat):Nat->qQ1
 | 0=>kids m []
 | t+1=>part m (bkF ns at' m t) (vO ns ((at':Int)+(t:Int)) ((bkF ns at' m t).length:Int)).toNat
theorem zin (ns:List Int)(at':Nat){m:Nat}(m2:2<=m)(m4:m<=4):∀t:Nat,My.Gr m t (bkF ns at' m t)
 | 0=>.z
 | t+1=>by
  have g:=zin ns at' m2 m4 t
  have hl:=g.len m2 m4
  have hd:=yD ns ((at':Int)+(t:Int)) (m:=((bkF ns at' m t).length:Int)) (by rw[hl];omega)
  exact .s g (by omega)
theorem zhE (m:Nat)(m4:m<=4)(p:List Nat):kids m p=(List.range m).map λi=>p++[abcd.getD i 0]:=by
 unfold kids
 have:∀m≤4,abcd.take m=(List.range m).map λi=>abcd.getD i 0:=by decide
 rw[this m m4,laK];rfl
theorem zdW {ls:qQ1}(h:ls.length<64):zdQ [.lst (sT ls)]=some (sT (sortF ls)):=by
 dsimp only [zdQ]
 unfold zcR
 rw[lU ⟨zlM ls,by rw[wN];exact h⟩,zk9];rfl
theorem zj4 (ls:qQ1)(k:Nat):(sT ls).eraseIdx k=sT (ls.eraseIdx k):=by
 exact zdY D.str ls k
theorem zmo (ns:List Int)(hn:ns.length<=63)(at':Nat)(m2:2<=m)(m4:m<=4)(t:Nat)(ht:t<=8)(hat:at'<=900):uc [scD ns,.int at',.int m,.int t]=.ok (.tup (sT (bkF ns at' m t))):=by
 have e0:fCp (fR zd7 (zj (fNm 2) zE)) yo (f2 ixD (fC (.str [97,98,99,100])) (fNm 0)) [] [.fz (scD ns),.fz (.int at'),.fz (.int m),.fz (.int t),.no,.no,.no]=.ok (sT (kids m [])):=by
  refine zdD (zhg (ds:=[.int (m:Int)]) rfl (jP (by omega))) (by rw[lQ,lbA];omega) ?_
  rw[zhE m m4]
  have:=xK (fe:=f2 ixD (fC (.str [97,98,99,100])) (fNm 0)) (ρ0:=[.no]) (l:=List.range m) (enc:=λ(k:Nat)=>D.int (k:Int)) (λi=>.str ([]++[abcd.getD i 0])) λi hi=>xM (a:=.str [97,98,99,100]) (b:=.int (i:Int)) rfl rfl (zeW (by have:=lbf.mp hi;omega))
  unfold sT
  rw[laK]
  exact this
 have loop:=vN (i:=5) (g:=zW (zdn 4 6 (fFl 4 (fA (ari 3 zJ) (zj (fNm 0) (zj (f2 u6 (fNm 1) (fNm 5)) (zj (fO jj (zj (fNm 4) zE)) zE)))))) (za8 4 (wR 4 (fL zdQ (zj (fLs (fL2 zhN (fNm 4) (yU (fR zd7 (zj (fNm 2) zE)) yo (f2 zeI (fNm 1) (f2 ixD (fC (.str [97,98,99,100])) (fNm 0))) [6]))) zE))))) (l:=List.range t) (enc:=λ(k:Nat)=>D.int (k:Int)) (ρ:=[.fz (scD ns),.fz (.int at'),.fz (.int m),.fz (.int t),.ow (sT (kids m [])),.no,.no])
  (λk ρ=>∃s s',ρ=[.fz (scD ns),.fz (.int at'),.fz (.int m),.fz (.int t),.ow (sT (bkF ns at' m k)),s,s']) ⟨.no,.no,rfl⟩ (λk c ρ hc ⟨s,s',e⟩=>by
   subst e
   have hk:k<t:=by have:=(lO.mp hc).1;simpa using this
   have ec:c=k:=by rw[List.getElem?_range hk] at hc;exact(lq hc).symm
   subst ec
   have g:=zin ns at' m2 m4 c
   have hl:=g.len m2 m4
   have hsh:=g.short m2 m4
   have hll:(bkF ns at' m c).length<=28:=by
    rw[hl]
    have:c*(m - 1)<=8*3:=ld8 (by omega) (by omega)
    omega
   have hpos:0<(bkF ns at' m c).length:=by rw[hl];omega
   have hd:=yD ns ((at':Int)+(c:Int)) (m:=((bkF ns at' m c).length:Int)) (by omega)
   obtain⟨j,hj⟩:=laG hd.1
   rw[hj] at hd
   have hjl:j<(bkF ns at' m c).length:=by omega
   have eB:bkF ns at' m (c+1)=part m (bkF ns at' m c) j:=by
    show part m (bkF ns at' m c) (vO ns ((at':Int)+(c:Int)) ((bkF ns at' m c).length:Int)).toNat=_
    rw[hj];rfl
   rw[eB]
   generalize hB:bkF ns at' m c=B at *
   have ed:fFl 4 (fA (ari 3 zJ) (zj (fNm 0) (zj (f2 u6 (fNm 1) (fNm 5)) (zj (fO jj (zj (fNm 4) zE)) zE)))) [.fz (scD ns),.fz (.int at'),.fz (.int m),.fz (.int t),.ow (sT B),.fz (.int (c:Int)),s']=.ok (.int (j:Int)):=by
    refine zni rfl ?_ rfl
    show zJ [scD ns,.int ((at':Int)+(c:Int)),.int ((sT B).length:Int)]=_
    rw[wN,← hj]
    exact uU ns hn _ _ (by omega) (by omega) (by omega)
   have ep:(sT B)[j]? = some (.str B[j]):=by unfold sT;rw[lJ,lh hjl];rfl
   have eg:B.getD j []=B[j]:=by rw[ly,lh hjl];rfl
   have hp8:=hsh B[j] (laD hjl)
   refine⟨_,(zB (zle rfl ed (by omega) ep)).trans ?_,.fz (.int (c:Int)),.fz (.str B[j]),rfl⟩
   rw[zj4]
   refine(zhi (ds:=sT (B.eraseIdx j)) rfl).trans ?_
   refine(zfI (d:=sT (part m B j)) ?_).trans rfl
   have ek:yU (fR zd7 (zj (fNm 2) zE)) yo (f2 zeI (fNm 1) (f2 ixD (fC (.str [97,98,99,100])) (fNm 0))) [6] [.fz (scD ns),.fz (.int at'),.fz (.int m),.fz (.int t),.fz (.lst (sT (B.eraseIdx j))),.fz (.int (c:Int)),.fz (.str B[j])]=.ok (.lst (sT (kids m B[j]))):=by
    refine zaX (zhg (ds:=[.int (m:Int)]) rfl (jP (by omega))) (by rw[lQ,lbA];omega) ?_
    rw[zhE m m4]
    have:=xK (fe:=f2 zeI (fNm 1) (f2 ixD (fC (.str [97,98,99,100])) (fNm 0))) (ρ0:=[.no,.fz (.str B[j])]) (l:=List.range m) (enc:=λ(k:Nat)=>D.int (k:Int)) (λi=>.str (B[j]++[abcd.getD i 0])) λi hi=>xM (a:=.str B[j]) (b:=.str [abcd.getD i 0]) rfl (xM (a:=.str [97,98,99,100]) (b:=.int (i:Int)) rfl rfl (zeW (by have:=lbf.mp hi;omega))) (zeT (by show B[j].length+1<=_;omega))
    unfold sT
    rw[laK]
    exact this
   have el:(B.eraseIdx j++kids m B[j]).length<64:=by
    rw[lae,zcy m m4,List.length_eraseIdx,lU hjl];omega
   have ecat:fL2 zhN (fNm 4) (yU (fR zd7 (zj (fNm 2) zE)) yo (f2 zeI (fNm 1) (f2 ixD (fC (.str [97,98,99,100])) (fNm 0))) [6]) [.fz (scD ns),.fz (.int at'),.fz (.int m),.fz (.int t),.fz (.lst (sT (B.eraseIdx j))),.fz (.int (c:Int)),.fz (.str B[j])]=.ok (sT (B.eraseIdx j++kids m B[j])):=by
    unfold fL2
    rw[ek]
    show lf' (zhN (.lst (sT (B.eraseIdx j))) (.lst (sT (kids m B[j]))))=_
    dsimp only [zhN]
    rw[lU (by rw[wN,wN,← lae];omega),zg0];rfl
   refine zm6 (zZ (zkn ecat) rfl) ?_
   rw[zdW el]
   unfold part
   rw[eg])
 obtain⟨ρ',e,s,s',rfl⟩:=loop
 rw[lbA] at e
 refine ye ?_
 show vD [.fz (scD ns),.fz (.int at'),.fz (.int m),.fz (.int t),.no,.no,.no]=_
 unfold vD
 refine(zB (zfI e0)).trans ((zB (uX ((uD (zhg (ds:=[.int (t:Int)]) rfl (jP (by omega)))).trans e))).trans ?_)
 rfl
theorem zm9 (m2:2<=m)(m4:m<=4){t:Nat}(ht:t<=8){B:qQ1}(g:My.Gr m t B):Pcs m B:=by
 have hb:=g.book m2 m4
 have hl:=g.len m2 m4
 have hs:=g.short m2 m4
 refine⟨m2,m4,λe=>?_,?_,λp hp=>?_⟩
 ·rw[e] at hl;simp at hl;omega
 ·rw[hl]
  have:t*(m - 1)<=8*3:=ld8 (by omega) (by omega)
  omega
 ·exact⟨hb.let_ p hp,hb.ne p hp,by have:=hs p hp;omega⟩
end Pg
set_option maxHeartbeats 4000000
namespace Pg
open PySem L2 PyProof.Rows
end Pg
set_option maxHeartbeats 1000000
namespace Pg
open PySem L2 My
variable {fn:List D->Rs D}{f g h:qQ5}{ρ:Rho}{a b:D}{j:Nat}{B:qQ1}
theorem fA1 (e1:f ρ=.ok a):fA (ari 1 fn) (zj f zE) ρ=fn [a]:=by
 unfold fA;rw[zZ e1 rfl];rfl
theorem fA2 (e1:f ρ=.ok a)(e2:g ρ=.ok b):fA (ari 2 fn) (zj f (zj g zE)) ρ=fn [a,b]:=by
 unfold fA;rw[zZ e1 (zZ e2 rfl)];rfl
theorem fA3 {c:D}(e1:f ρ=.ok a)(e2:g ρ=.ok b)(e3:h ρ=.ok c):fA (ari 3 fn) (zj f (zj g (zj h zE))) ρ=fn [a,b,c]:=by
 unfold fA;rw[zZ e1 (zZ e2 (zZ e3 rfl))];rfl
theorem fA4 {i:qQ5}{c d:D}(e1:f ρ=.ok a)(e2:g ρ=.ok b)(e3:h ρ=.ok c)(e4:i ρ=.ok d):fA (ari 4 fn) (zj f (zj g (zj h (zj i zE)))) ρ=fn [a,b,c,d]:=by
 unfold fA;rw[zZ e1 (zZ e2 (zZ e3 (zZ e4 rfl)))];rfl
theorem ifF {ft:qQ6}{g:Rho->Out}(e:ft ρ=.ok false):sIf ft g sNx ρ=.nx ρ:=zgw e
theorem vK {b:Bool}(e:f ρ=.ok (.bl b)):bT f ρ=.ok b:=by unfold bT;rw[e];rfl
theorem jH {f:qQ6}{b:Bool}(e:f ρ=.ok b):za6 f ρ=.ok (!b):=by unfold za6;rw[e];rfl
theorem zoa {f g:qQ6}(e:f ρ=.ok false)(e2:g ρ=.ok false):bOr f g ρ=.ok false:=by unfold bOr;rw[e];exact e2
theorem zkD {fa:qQ5}{fl fh:Rho->Rs (Option Int)}{d:D}{l h:Option Int}(e1:fa ρ=.ok a)(e2:fl ρ=.ok l)(e3:fh ρ=.ok h)(e4:slD a l h=some d):fSl fa fl fh ρ=.ok d:=by
 unfold fSl;rw[e1];show(fl ρ).bind _=_;rw[e2];show(fh ρ).bind _=_;rw[e3];show lf (slD a l h)=_;rw[e4];rfl
theorem zi1 {i:Nat}(e:f ρ=.ok (.tup [a,b])):qG i j f ρ=.nx ((ρ.set i (.fz a)).set j (.fz b)):=by unfold qG;rw[e]
theorem w6 {d:D}(e:f ρ=.ok d):wW f ρ=.nx ρ:=by unfold wW;rw[e]
theorem zl7 {n:Nat}(h:j<n):ixN n (j:Int)=some j:=by
 unfold ixN
 rw[lU (by omega),lU (by omega)];rfl
theorem zoh (h:j<B.length):atI (sT B) (j:Int)=some (.str (B.getD j [])):=by
 unfold atI
 rw[wN,zl7 h]
 simp[sT,h]
def zn6 (n:Nat):Nat:=if n<=1 then 0 else if n<=2 then 1 else if n<=4 then 2 else if n<=8 then 3 else if n<=16 then 4 else 5
theorem zh2:∀n<33,∀b<6,(2 ^ b<n↔b<zn6 n):=by decide +kernel
def zpr (i:Nat):Nat->List Nat
 | 0=>[]
 | k+1=>(48+i / 2 ^ k % 2)::zpr i k
def W (n:Nat):qQ1:=(List.range n).map λi=>zpr i (zn6 n)
theorem ziG (neg:Bool)(i j:Int):eqD neg (.int i) (.int j)=some (.bl (if neg then !decide (i=j) else decide (i=j))):=by
 unfold eqD
 rw[lU ⟨rfl,rfl,by show(PyData.int _).depth<=60;simp[PyData.depth]⟩]
 have:PyData.eqv (D.int i).py (D.int j).py=decide (i=j):=by
  show(i == j)=_
  by_cases h:i=j <;>simp[h]
 rw[this]
def qF (ws:List Int)(a:Int):Int×Int:=low a (ws.sum ^ 31)
theorem getD_some (hj:j<B.length):B[j]? = some (B.getD j []):=by
 rw[ly,lh hj];rfl
section
variable {ws:List Int}(h:zjg ws)
include h
end
end Pg
namespace My
variable {p x y:List Nat}{B ps:qQ1}{m:Nat}
theorem j8 {q:List Nat}(h:q <+: p)(hn:q≠p):q <+: p.dropLast:=by
 rcases List.eq_nil_or_concat p with rfl|⟨l,c,rfl⟩
 ·exact absurd (lbU.mp h) hn
 ·rw[List.concat_eq_append] at h hn ⊢
  rw[lcu]
  rcases la5.mp h with e|e
  ·exact absurd e hn
  ·exact e
theorem ziH (h:p≠[]):p.dropLast≠p:=λe=>by
 have:=lbB List.length e
 have:=lbT.mpr h
 rw[lbM] at *
 omega
theorem Inner.pre (h:Inner B y)(p:x <+: y):Inner B x:=by
 obtain⟨q,hq,hy,hn⟩:=h
 refine⟨q,hq,p.trans hy,λe=>hn ?_⟩
 subst e
 exact hy.eq_of_length (ld2 hy.length_le p.length_le)
theorem Book.inner_not (h:Book m B)(hx:Inner B x)(hy:y <+: x):y∉B:=λhyB=>h.free hx y hy (h.ne y hyB) hyB
theorem Book.mem_iff (h:Book m B):p∈B↔p≠[]/\LetOk m p/\Inner B p.dropLast/\¬Inner B p:=by
 constructor
 ·intro hp
  exact⟨h.ne p hp,h.let_ p hp,⟨p,hp,lbu p,ziH (h.ne p hp)⟩,λhi=>h.inner_not hi (lcB p) hp⟩
 ·rintro ⟨hn,hl,hi,hni⟩
  obtain⟨q,hq,e|e⟩:=h.cv p hl
  ·by_cases eq:q=p
   ·exact eq▸hq
   ·exact absurd hq (h.inner_not hi (j8 e eq))
  ·by_cases eq:p=q
   ·exact eq▸hq
   ·exact absurd ⟨q,hq,e,eq⟩ hni
theorem Book.ext {C:qQ1}(h:Book m B)(k:Book m C)(e:∀x,Inner B x↔Inner C x):B=C:=by
 have p:B.Perm C:=(List.perm_ext_iff_of_nodup h.nd k.nd).mpr λp=>by rw[h.mem_iff,k.mem_iff,e,e]
 exact lcJ (λ_ _ _ _ h k=>ldf h k) h.srt k.srt p
structure Clo (m:Nat)(P:List Nat->Prop):Prop where
 nil:P []
 let_:∀x,P x->LetOk m x
 pre:∀x y,x <+: y->P y->P x
 bd:∃N,∀x,P x->x.length<N
theorem Book.clo (h:Book m B):Clo m (Inner B) where
 nil:=h.nilInner
 let_:=λx hx=>h.innerLet hx
 pre:=λx y p hy=>hy.pre p
 bd := by
  have:∃N,∀p∈B,p.length<=N:=by
   clear h
   induction B with
   | nil=>exact⟨0,by simp⟩
   | cons q B ih =>
    obtain⟨N,hN⟩:=ih
    refine⟨max N q.length,λp hp=>?_⟩
    rcases lI.mp hp with rfl|hp
    ·exact Nat.le_max_right _ _
    ·exact lar (hN p hp) (Nat.le_max_left _ _)
  obtain⟨N,hN⟩:=this
  refine⟨N+1,λx hq37=>?_⟩
  obtain⟨p,hp,hx,_⟩:=hq37
  have:=hN p hp
  have:=hx.length_le
  omega
theorem Book.of (m2:2<=m)(m4:m<=4){P:List Nat->Prop}(c:Clo m P){L:qQ1}(s:L.Pairwise (·<=·))(n:L.Nodup)(hm:∀p,p∈L↔p≠[]/\LetOk m p/\P p.dropLast/\¬P p):Book m L/\∀x,Inner L x↔P x:=by
 have h97:97∈abcd.take m:=vd m4 (by omega)
 obtain⟨N,hN⟩:=c.bd
 have up:∀(k:Nat) (x:List Nat),P x->N<=x.length+k->∃q∈L,x <+: q/\x≠q:=by
  intro k
  induction k with
  | zero=>intro x hx hk;have:=hN x hx;omega
  | succ k ih =>
   intro x hx hk
   by_cases hy:P (x++[97])
   ·obtain⟨q,hq,h1,h2⟩:=ih (x++[97]) hy (by simp;omega)
    refine⟨q,hq,(lbd _ _).trans h1,λe=>?_⟩
    have:=h1.length_le
    rw[← e,lae,lc6] at this
    omega
   ·refine⟨x++[97],(hm _).mpr ⟨by simp,(c.let_ x hx).app (LetOk.one h97),?_,hy⟩,lbd _ _,λe=>zcK x 97 e.symm⟩
    rw[lcu];exact hx
 have down:∀(k:Nat) (x:List Nat),x.length<=k->LetOk m x->¬P x->∃q∈L,q <+: x:=by
  intro k
  induction k with
  | zero =>
   intro x hk _ hx
   have:x=[]:=la0.mp (by omega)
   subst this
   exact absurd c.nil hx
  | succ k ih =>
   intro x hk hl hx
   have hne:x≠[]:=λe=>hx (e▸c.nil)
   by_cases hd:P x.dropLast
   ·exact⟨x,(hm x).mpr ⟨hne,hl,hd,hx⟩,lcB x⟩
   ·obtain⟨q,hq,e⟩:=ih x.dropLast (by rw[lbM];omega) (hl.pre (lbu x)) hd
    exact⟨q,hq,e.trans (lbu x)⟩
 have inn:∀x,Inner L x↔P x:=λx=>by
  constructor
  ·rintro⟨p,hp,h1,h2⟩
   exact c.pre _ _ (j8 h1 h2) ((hm p).mp hp).2.2.1
  ·intro hx
   obtain⟨q,hq,h1,h2⟩:=up N x hx (by omega)
   exact⟨q,hq,h1,h2⟩
 refine⟨⟨m2,m4,λp hp=>((hm p).mp hp).2.1,λp hp=>((hm p).mp hp).1,λp hp q hq h=>?_,λx hx=>?_,s,n⟩,inn⟩
 ·by_cases e:p=q
  ·exact e
  ·exact absurd (c.pre _ _ (j8 h e) ((hm q).mp hq).2.2.1) ((hm p).mp hp).2.2.2
 ·by_cases hP:P x
  ·obtain⟨q,hq,h1,_⟩:=up N x hP (by omega)
   exact⟨q,hq,.inr h1⟩
  ·obtain⟨q,hq,h1⟩:=down x.length x (lB _) hx hP
   exact⟨q,hq,.inl h1⟩
def Head (m:Nat)(B:qQ1)(x:List Nat):Prop:=x≠[]/\∀k∈kids m x,k∈B
def zc9 (B:qQ1)(x:List Nat):qQ1:=sortF (B.filter (λp=>!x.isPrefixOf p)++[x])
theorem Head.inner (h:Book m B)(hx:Head m B x):Inner B x:=by
 have h97:97∈abcd.take m:=vd h.m4 (by have:=h.m2;omega)
 exact⟨x++[97],hx.2 _ (kids_mem.mpr ⟨97,h97,rfl⟩),lbd _ _,λe=>zcK x 97 e.symm⟩
theorem Head.top (h:Book m B)(hx:Head m B x)(hy:Inner B y)(p:x <+: y):y=x:=by
 obtain⟨r,rfl⟩:=p
 cases r with
 | nil=>simp
 | cons c r =>
  have hc:=h.innerLet hy c (by simp)
  exact absurd (hx.2 _ (kids_mem.mpr ⟨c,vd h.m4 hc,rfl⟩)) (h.inner_not hy ⟨r,by simp⟩)
theorem Book.join (h:Book m B)(hx:Head m B x):Book m (zc9 B x)/\∀y,Inner (zc9 B x) y↔Inner B y/\y≠x:=by
 have hi:=hx.inner h
 have hxB:x∉B:=h.inner_not hi (lcB x)
 refine Book.of h.m2 h.m4 (P:=λy=>Inner B y/\y≠x) ⟨⟨h.nilInner,λe=>hx.1 e.symm⟩,λy hy=>h.innerLet hy.1,λy z p hz=>⟨hz.1.pre p,λe=>hz.2 (hx.top h hz.1 (e▸p))⟩,?_⟩ (zbb _) ?_ λp=>?_
 ·obtain⟨N,hN⟩:=h.clo.bd
  exact⟨N,λy hy=>hN y hy.1⟩
 ·refine(vh _).nodup_iff.mpr (lbO.mpr ⟨h.nd.filter _,by simp,λa ha b hb e=>?_⟩)
  rw[lR.mp hb] at e
  subst e
  exact hxB (lbC.mp ha).1
 ·unfold zc9
  rw[sortF_mem,laW,lbC,lR]
  have nb:(!x.isPrefixOf p)=true↔¬x <+: p:=by rw[lbP,← Bool.not_eq_true,lW]
  rw[nb]
  constructor
  ·rintro (⟨hp,hnp⟩|rfl)
   ·obtain⟨a,b,c,d⟩:=h.mem_iff.mp hp
    exact⟨a,b,⟨c,λe=>hnp (e▸lbu p)⟩,λe=>d e.1⟩
   ·exact⟨hx.1,h.innerLet hi,⟨hi.pre (lbu _),ziH hx.1⟩,λe=>e.2 rfl⟩
  ·rintro ⟨a,b,⟨c,c'⟩,d⟩
   by_cases e:p=x
   ·exact .inr e
   ·have hp:p∈B:=h.mem_iff.mpr ⟨a,b,c,λz=>d ⟨z,e⟩⟩
    exact .inl ⟨hp,λz=>c' (hx.top h c (j8 z λz'=>e z'.symm))⟩
theorem Book.partAt (h:Book m B)(hp:p∈B):Book m (My.part m B (B.idxOf p))/\∀x,Inner (My.part m B (B.idxOf p)) x↔Inner B x∨x=p:=by
 have hj:B.idxOf p<B.length:=lbH.mpr hp
 refine⟨h.part hj,λx=>?_⟩
 rw[zbc h.m2 h.m4 h hj]
 have:B.getD (B.idxOf p) []=p:=by rw[ly,lh hj];exact lcj hj
 rw[this]
theorem Book.head_mem (h:Book m B)(hx:Head m B x):x∈zc9 B x:=by
 unfold zc9;rw[sortF_mem];simp
theorem Book.join_part (h:Book m B)(hx:Head m B x):My.part m (zc9 B x) ((zc9 B x).idxOf x)=B:=by
 obtain⟨hb,hi⟩:=h.join hx
 obtain⟨kb,ki⟩:=hb.partAt (h.head_mem hx)
 refine kb.ext h λy=>?_
 rw[ki,hi]
 constructor
 ·rintro(⟨a,_⟩|rfl)
  ·exact a
  ·exact hx.inner h
 ·intro a
  by_cases e:y=x
  ·exact .inr e
  ·exact .inl ⟨a,e⟩
theorem zgR (m2:2<=m)(m4:m<=4)(x:List Nat):Inner (kids m []) x↔x=[]:=by
 constructor
 ·rintro⟨p,hp,hx,hn⟩
  obtain⟨c,_,rfl⟩:=kids_mem.mp hp
  rcases la5.mp hx with e|e
  ·exact absurd e hn
  ·exact lbU.mp e
 ·rintro rfl
  exact(Book.letters m2 m4).nilInner
theorem longest (L:qQ1)(P:List Nat->Prop) [DecidablePred P](h:∃x∈L,P x):∃x∈L,P x/\∀y∈L,P y->y.length<=x.length:=by
 induction L with
 | nil=>obtain⟨x,hx,_⟩:=h;cases hx
 | cons a L ih =>
  by_cases hL:∃x∈L,P x
  ·obtain ⟨x,hx,px,mx⟩:=ih hL
   by_cases ha:P a/\x.length<=a.length
   ·refine⟨a,.head _,ha.1,λy hy py=>?_⟩
    rcases lI.mp hy with rfl|hy
    ·exact lB _
    ·exact lar (mx y hy py) ha.2
   ·refine ⟨x,.tail _ hx,px,λy hy py=>?_⟩
    rcases lI.mp hy with rfl|hy
    ·have:¬x.length<=y.length:=λz=>ha ⟨py,z⟩
     omega
    ·exact mx y hy py
  ·obtain ⟨x,hx,px⟩:=h
   rcases lI.mp hx with rfl|hx
   ·refine⟨x,.head _,px,λy hy py=>?_⟩
    rcases lI.mp hy with rfl|hy
    ·exact lB _
    ·exact absurd ⟨y,hy,py⟩ hL
   ·exact absurd ⟨x,hx,px⟩ hL
theorem Book.hasHead (h:Book m B)(hx:∃x,Inner B x/\x≠[]):∃x,Head m B x:=by
 obtain⟨x0,h0,h1⟩:=hx
 obtain⟨x,hxk,hxn,hmax⟩:=longest (yd B) (λx=>x≠[]) ⟨x0,innerKeys_mem.mpr h0,h1⟩
 refine⟨x,hxn,λk hk=>?_⟩
 obtain⟨c,hc,rfl⟩:=kids_mem.mp hk
 rcases h.step (innerKeys_mem.mp hxk) hc with⟨a,_⟩|⟨_,a⟩
 ·have:=hmax _ (innerKeys_mem.mpr a) (by simp)
  rw[lae,lc6] at this
  omega
 ·exact a
theorem zix (h:Book m B)(hx:Head m B x):(yd (zc9 B x)).length+1<=(yd B).length:=by
 obtain⟨hb,hi⟩:=h.join hx
 have:(x::yd (zc9 B x)).length<=(yd B).length:=by
  refine List.Nodup.length_le_of_subset (lbD.mpr ⟨λz=>((hi x).mp (innerKeys_mem.mp z)).2 rfl,vY _⟩) λy hy=>?_
  rcases lI.mp hy with rfl|hy
  ·exact innerKeys_mem.mpr (hx.inner h)
  ·exact innerKeys_mem.mpr ((hi y).mp (innerKeys_mem.mp hy)).1
 simpa using this
theorem Book.gr :∀(n:Nat) {B:qQ1},Book m B->(yd B).length<=n->∃t,Gr m t B:=by
 intro n
 induction n with
 | zero =>
  intro B h hn
  have:[]∈yd B:=innerKeys_mem.mpr h.nilInner
  rw[la0.mp (Nat.le_zero.mp hn)] at this
  cases this
 | succ n ih =>
  intro B h hn
  by_cases hx:∃x,Inner B x/\x≠[]
  ·obtain⟨x,hx⟩:=h.hasHead hx
   obtain⟨t,g⟩:=ih (h.join hx).1 (by have:=zix h hx;omega)
   refine⟨t+1,?_⟩
   have:=Gr.s g (lbH.mpr (h.head_mem hx))
   rwa [h.join_part hx] at this
  ·refine ⟨0,?_⟩
   have e:B=kids m []:=h.ext (Book.letters h.m2 h.m4) λx=>by
    rw[zgR h.m2 h.m4]
    constructor
    ·intro hi
     by_cases e:x=[]
     ·exact e
     ·exact absurd ⟨x,hi,e⟩ hx
    ·rintro rfl;exact h.nilInner
   rw[e];exact Gr.z
theorem Book.grAt (h:Book m B):∃t,Gr m t B/\(yd B).length=t+1/\B.length=m+t*(m - 1):=by
 obtain⟨t,g⟩:=Book.gr _ h (lB _)
 exact⟨t,g,g.keysEq h.m2 h.m4,g.len h.m2 h.m4⟩
theorem zea:∀{ps:qQ1},rising ps=true->ps.Pairwise (· < ·)
 | [],_=>.nil
 | [a],_=>lcR _ _
 | a::b::l,h=>by
  have h':decide (a<b)=true/\rising (b::l)=true:=by
   unfold rising at h ⊢
   simpa using h
  have ih:=zea h'.2
  refine laC.mpr ⟨λx hx=>?_,ih⟩
  rcases lI.mp hx with rfl|hx
  ·exact lbN h'.1
  ·exact ldQ (lbN h'.1) ((laC.mp ih).1 x hx)
theorem ziy:∀(p:List Nat) (c:Nat) (r:List Nat),p<p++c::r
 | [],c,r=>List.nil_lt_cons c r
 | a::p,c,r=>lbF.mpr (.inr ⟨rfl,ziy p c r⟩)
theorem zoE (s:ps.Pairwise (· < ·))(h:wz ps=none):∀p∈ps,∀q∈ps,p <+: q->p=q:=by
 intro p hp q hq e
 obtain⟨r,rfl⟩:=e
 cases r with
 | nil=>simp
 | cons c r =>
  exfalso
  obtain⟨z,hz,h1,h2⟩:=ziN s hp hq (ziy p c r)
  have e:=zbt p z (c::r) (ldl h1) h2
  have:=lch.mp h _ hz
  exact this (lW.mpr e)
theorem zn9 (m4:m<=4):∀(n:Nat) (xs:qQ1),fta m ps n xs=none->∀x∈xs,∀r:List Nat,LetOk m r->r≠[]->(∀s,s <+: r->s≠r->s≠[]->isInner ps (x++s)=true)->r.length<=n->yS ps (x++r)=false:=by
 intro n
 induction n with
 | zero=>intro xs _ x _ r _ hr _ hl;exact absurd (la0.mp (Nat.le_zero.mp hl)) hr
 | succ n ih =>
  intro xs h x hx r hl hr hs hlen
  unfold fta at h
  rw[lac (λe=>by rw[e] at hx;cases hx)] at h
  cases r with
  | nil=>exact absurd rfl hr
  | cons c r =>
   have hy:x++[c]∈zN m xs:=zir hx (vd m4 (hl c (.head _)))
   split at h
   ·cases h
   ·rename_i hf
    have ha:yS ps (x++[c])=false:=by
     have:=lch.mp hf _ hy
     simpa using this
    cases r with
    | nil=>exact ha
    | cons d r =>
     have hi:isInner ps (x++[c])=true:=hs [c] ⟨d::r,rfl⟩ (by simp) (by simp)
     have:=ih _ h (x++[c]) (lbC.mpr ⟨hy,hi⟩) (d::r) (λz hz=>hl z (.tail _ hz)) (by simp) (λs hs1 hs2 hs3=>by
      have:=hs (c::s) (List.cons_prefix_cons.mpr ⟨rfl,hs1⟩) (λe=>hs2 (List.cons.inj e).2) (by simp)
      rw[la3];exact this) (by simp only[laf] at hlen ⊢;omega)
     rw[la3] at this
     exact this
theorem zgE (m4:m<=4)(h8:∀p∈ps,p.length<=31)(hne:ps≠[])(hn:∀p∈ps,p≠[])(h:wM m ps=none):∀x,LetOk m x->∃p∈ps,p <+: x∨x <+: p:=by
 intro x hx
 have key:∀k,k<=x.length->Inner ps (x.take k)∨∃p∈ps,p <+: x:=by
  intro k
  induction k with
  | zero =>
   intro _
   obtain⟨p,hp⟩:=List.exists_mem_of_ne_nil ps hne
   exact .inl ⟨p,hp,by rw[ld7];exact ldp,λe=>hn p hp (by rw[← e,ld7])⟩
  | succ k ih =>
   intro hk
   rcases ih (by omega) with hi|hr
   ·by_cases hy:Inner ps (x.take (k+1))
    ·exact .inl hy
    ·refine .inr ?_
     have l8:=zbn (inner_iff.mpr hi) h8
     rw[las,lco (by omega)] at l8
     have ha:yS ps ([]++x.take (k+1))=false:=by
      refine zn9 m4 32 [[]] h [] (by simp) _ (hx.pre (lcz _ _)) (λe=>?_) (λs s1 s2 s3=>?_) (by rw[las];omega)
      ·have:=lbB List.length e
       rw[las,lco hk] at this
       simp at this
      ·rw [laE]
       have p1:=j8 s1 s2
       have e1:(x.take (k+1)).dropLast=x.take k:=by
        rw[List.dropLast_eq_take,las,lco hk,List.take_take]
        congr 1
        omega
       rw[e1] at p1
       exact inner_iff.mpr (hi.pre p1)
     rw[laE] at ha
     have hx2:∃p∈ps,x.take (k+1) <+: p∨p <+: x.take (k+1):=by
      by_cases hc:∃p∈ps,x.take (k+1) <+: p∨p <+: x.take (k+1)
      ·exact hc
      ·have:=apart_iff.mpr (λp hp=>⟨λz=>hc ⟨p,hp,.inl z⟩,λz=>hc ⟨p,hp,.inr z⟩⟩)
       rw[ha] at this
       cases this
     obtain⟨p,hp,e|e⟩:=hx2
     ·by_cases e2:x.take (k+1)=p
      ·exact⟨p,hp,e2▸lcz _ _⟩
      ·exact absurd ⟨p,hp,e,e2⟩ hy
     ·exact⟨p,hp,e.trans (lcz _ _)⟩
   ·exact .inr hr
 rcases key x.length (lB _) with hi|⟨p,hp,e⟩
 ·obtain⟨p,hp,e,_⟩:=hi
  rw[lbX (lB _)] at e
  exact⟨p,hp,.inr e⟩
 ·exact⟨p,hp,.inl e⟩
theorem zbi (hp:Pg.Pcs m ps)(h:isBook m ps=true):Book m ps:=by
 obtain⟨m2,m4,hne,hl,hq⟩:=hp
 unfold isBook at h
 rw[lM,lM,Option.isNone_iff_eq_none,Option.isNone_iff_eq_none] at h
 have s:=zea h.1.1
 exact⟨m2,m4,λp hp=>(hq p hp).1,λp hp=>(hq p hp).2.1,zoE s h.1.2,zgE m4 (λp hp=>(hq p hp).2.2) hne (λp hp=>(hq p hp).2.1) h.2,s.imp ldl,s.imp λh e=>by rw[e] at h;exact lb7 _ h⟩
end My
namespace Pg
open PySem L2 My
variable {fn:List D->Rs D}{f g h fa:qQ5}{ρ:Rho}{a b d:D}{r:Rs D}{m n:Nat}{B:qQ1}{ds:List D}
theorem cA1 (e1:f ρ=.ok a)(e:fn [a]=r):fA (ari 1 fn) (zj f zE) ρ=r:=(fA1 e1).trans e
theorem cA2 (e1:f ρ=.ok a)(e2:g ρ=.ok b)(e:fn [a,b]=r):fA (ari 2 fn) (zj f (zj g zE)) ρ=r:=(fA2 e1 e2).trans e
theorem cA3 {c:D}(e1:f ρ=.ok a)(e2:g ρ=.ok b)(e3:h ρ=.ok c)(e:fn [a,b,c]=r):fA (ari 3 fn) (zj f (zj g (zj h zE))) ρ=r:=(fA3 e1 e2 e3).trans e
theorem cA4 {i:qQ5}{c:D}(e1:f ρ=.ok a)(e2:g ρ=.ok b)(e3:h ρ=.ok c)(e4:i ρ=.ok d)(e:fn [a,b,c,d]=r):fA (ari 4 fn) (zj f (zj g (zj h (zj i zE)))) ρ=r:=(fA4 e1 e2 e3 e4).trans e
structure Bb (m:Nat)(B:qQ1):Prop where
 pcs:Pcs m B
 bk:Book m B
theorem Bb.isB (h:Bb m B):isBook m B=true:=h.bk.isBook
theorem Bb.l32 (h:Bb m B):B.length<=32:=h.pcs.2.2.2.1
theorem zo4 (h:Book m B)(hn:(yd B).length<=n)(h10:n<=10)(h8:∀p∈B,p.length<=31):Bb m B/\B.length<=1+n*3:=by
 obtain⟨t,g,e1,e2⟩:=h.grAt
 have m2:=h.m2
 have m4:=h.m4
 have:t*(m - 1)<=t*3:=Nat.mul_le_mul_left t (by omega)
 have hl:B.length<=1+n*3:=by omega
 refine⟨⟨⟨m2,m4,λz=>?_,by omega,λp hp=>⟨h.let_ p hp,h.ne p hp,h8 p hp⟩⟩,h⟩,hl⟩
 rw[z] at e2
 simp at e2
 omega
theorem zlq {fa fb:qQ6}{a b:Bool}(e1:fa ρ=.ok a)(e2:fb ρ=.ok b):zc1 fa fb ρ=.ok (a&&b):=by
 unfold zc1;rw[e1];show(if a=true then fb ρ else .ok false)=_
 cases a
 ·rfl
 ·exact e2
theorem zmv {g:D->Option (List D)}(e1:f ρ=.ok a)(e2:g a=some ds):fI g f ρ=.ok ds:=by
 unfold fI;rw[e1];show(match g a with|some ds=>Rs.ok ds|none=>.no)=_;rw[e2]
theorem zk1 {f g:qQ6}(e:f ρ=.ok false):zc1 f g ρ=.ok false:=by unfold zc1;rw[e];rfl
structure Kc (m n:Nat)(B:qQ1):Prop where
 bk:Book m B
 ks:(yd B).length<=n
 l7:∀p∈B,p.length<=n
section
variable {m n:Nat}{B C S:qQ1}
theorem Kc.len (h:Kc m n B)(h8:n<=7):B.length<=1+n*3:=(zo4 h.bk h.ks (by omega) λp hp=>by have:=h.l7 p hp;omega).2
theorem Kc.part (h:Kc m n B){p:List Nat}(hp:p∈B):Kc m (n+1) (My.part m B (B.idxOf p)):=by
 obtain⟨b1,b2⟩:=h.bk.partAt hp
 refine⟨b1,?_,λq hq=>?_⟩
 ·have:(yd (My.part m B (B.idxOf p))).length<=(p::yd B).length:=(vY _).length_le_of_subset λx hx=>by
   rcases(b2 x).mp (innerKeys_mem.mp hx) with z|z
   ·exact .tail _ (innerKeys_mem.mpr z)
   ·exact z▸.head _
  have:=h.ks
  simp only[laf] at *
  omega
 ·rcases (part_mem h.bk.nd (lbH.mpr hp)).mp hq with z|z
  ·have:=h.l7 q z.1
   omega
  ·obtain ⟨c,_,rfl⟩:=kids_mem.mp z
   have e:B.getD (B.idxOf p) []=p:=by
    rw[ly,lh (lbH.mpr hp)]
    exact lcj (lbH.mpr hp)
   rw[e]
   have:=h.l7 p hp
   simp
   omega
end
theorem zlD (e1:f ρ=.ok (.bl false)):zaY f g ρ=.ok (.bl false):=by unfold zaY;rw[e1];rfl
theorem zpg {f g:qQ6}{b:Bool}(e1:f ρ=.ok false)(e2:g ρ=.ok b):bOr f g ρ=.ok b:=by unfold bOr;rw[e1];exact e2
theorem zn0 {g:D->Option D}(e1:fa ρ=.ok a)(e2:g a=some d):f1 g fa ρ=.ok d:=by unfold f1;rw[e1];show lf (g a)=_;rw[e2];rfl
theorem wX {α:Type}{f:Rho->Rs α}{x:α}(e:f ρ=.ok x):zdl f ρ=.ok x:=by unfold zdl;rw[e]
theorem zjG {fs:qQ4}(e:fs ρ=.ok ds)(hl:ds.length=n)(h:fn ds=r):fA (ari n fn) fs ρ=r:=by
 unfold fA;rw[e];show ari n fn ds=r;unfold ari;rw[lU hl];exact h
theorem zkt {ft:qQ6}{fe:qQ5}{ρ0:Rho}{e:D}{es:List D}(h1:ft (ρ0.set 0 (.fz d))=.ok true)(h2:fe (ρ0.set 0 (.fz d))=.ok e)(h3:xj ft fe ρ0 ds=.ok es):xj ft fe ρ0 (d::ds)=.ok (e::es):=by
 rw[xj,h1];simp only;rw[h2];simp only;rw[h3];rfl
theorem znE {g g':D->D->Option D}{fb fc:qQ5}{c:D}(ea:fa ρ=.ok a)(eb:fb ρ=.ok b)(ec:fc ρ=.ok c)(h1:g a b=some (.bl true))(h2:g' b c=some d):fCh g g' fa fb fc ρ=.ok d:=by
 unfold fCh
 rw[ea];show(fb ρ).bind _=_;rw[eb];show(lf (g a b)).bind _=_;rw[h1];show(fc ρ).bind _=_;rw[ec];show lf (g' b c)=_;rw[h2];rfl
theorem zo7 (h:d.fl=true):d.pl=true:=by cases d <;>first|rfl|(simp[D.fl] at h)
theorem zkw:∀{ds:List D},(∀d∈ds,d.fl=true)->D.pls ds=true
 | [],_=>rfl
 | d::ds,h=>by show(d.pl&&D.pls ds)=true;rw[zo7 (h d (.head _)),zkw λx hx=>h x (.tail _ hx)];rfl
section
variable {m:Nat}
theorem ziA {m:Nat}(m2:2<=m)(m4:m<=4)(h:d.pl=true)(ht:isTup d.py=false):yx [.int m,d]=.ok (.bl false):=by
 have e0:zL [.int (m:Int)]=.ok (.bl true):=by rw[qL,lX (by omega),lX (by omega)];rfl
 exact ye (zaj ((zgC (zpg (jH (b:=true) (vK (cA1 rfl e0))) (jH (b:=false) (vK (zn0 (a:=d) rfl (by unfold zcq;rw[lU h,ht])))))).trans rfl))
theorem zjy {m:Nat}(m2:2<=m)(m4:m<=4)(hp:D.pls ds=true)(hl:ds.length=0∨32<ds.length):yx [.int m,.tup ds]=.ok (.bl false):=by
 have e0:zL [.int (m:Int)]=.ok (.bl true):=by rw[qL,lX (by omega),lX (by omega)];rfl
 have hp':(D.tup ds).pl=true:=hp
 refine ye ((zB (ifF (zoa (jH (b:=true) (vK (cA1 rfl e0))) (jH (b:=true) (vK (zn0 (a:=.tup ds) rfl (by unfold zcq;rw[lU hp'];rfl))))))).trans (zaj ((zgC (jH (b:=false) (vK ?_))).trans rfl)))
 rcases hl with hl|hl
 ·have:ds=[]:=la0.mp hl
  subst this;rfl
 ·refine znE (a:=.int 1) (b:=.int (ds.length:Int)) (c:=.int 32) rfl (zdv (ds:=[.tup ds]) rfl rfl) rfl (by show some (D.bl (decide ((1:Int)<=(ds.length:Int))))=_;rw[lX (by omega)]) (by show some (D.bl (decide ((ds.length:Int)<=32)))=_;rw[laa (by omega)])
end
theorem zmJ {xs:List D}{j:Nat}(h:j<xs.length):atI xs (j:Int)=some xs[j]:=by
 refine zgY (lh h)
theorem v9 {th:D}(h:vg [a,th]=.ok (.bl false)):zU [a,th]=.ex 1 :=
 qN ((zgC (jH (b:=false) (vK (cA2 (a:=a) (b:=th) rfl rfl h)))).trans rfl)
theorem zcQ (h:yx [a,d]=.ok (.bl false)):vg [a,d]=.ok (.bl false):=ye (xQ (zlD (cA2 rfl rfl h)))
theorem zai {g h:Rho->Out}(e:g ρ=.ex n):zW g h ρ=.ex n:=by unfold zW;rw[e]
theorem jd (e:f ρ=.ex n):wW f ρ=.ex n:=by unfold wW;rw[e]
end Pg
set_option maxHeartbeats 4000000
namespace Pg
open PySem L2 My PyProof.Rows
mutual
theorem zfX:∀d:D,PyData.eqv d.py d.py=true
 | .non=>rfl
 | .bl b=>by cases b <;>rfl
 | .int i=>by show decide (i=i)=true;exact lX rfl
 | .str l=>(ze6 l l).trans (lX rfl)
 | .lst xs=>zbI xs
 | .tup xs=>zbI xs
 | .dct _=>rfl
 | .exc _=>rfl
theorem zbI:∀xs:List D,PyData.eqvAll (D.pys xs) (D.pys xs)=true
 | []=>rfl
 | d::ds=>by
  show(PyData.eqv d.py d.py&&PyData.eqvAll (D.pys ds) (D.pys ds))=true
  rw[zfX d,zbI ds];rfl
end
theorem za0 (neg:Bool){d:D}(h:d.pl=true)(hd:d.py.depth<=60):eqD neg d d=some (.bl (!neg)):=by
 unfold eqD
 rw[lU ⟨h,h,hd⟩,zfX d]
 cases neg <;>rfl
end Pg
set_option maxHeartbeats 1000000
namespace L2
open PySem PySem.Spec PyProof.Rows
section
variable {cl:Nat->Addr}
theorem Dks.len {K:qQ0}{F:Hp}:∀{vs:List (Key×V)}{ds:List (List Nat×D)},Dks K cl F vs ds->vs.length=ds.length
 | _,_,.nil=>rfl
 | _,_,.cons _ _ t=>by rw[laf,laf,t.len]
end
end L2
set_option maxHeartbeats 2000000
namespace Zp
open PySem
end Zp
namespace L2
open PySem PySem.Spec PyProof.Rows
end L2
set_option maxHeartbeats 1000000
namespace L2
open PySem PySem.Spec PyProof.Rows
open PySem.Builtin.Str (occurrences)
end L2
namespace L2
open PySem PySem.W PyProof.Rows
variable {Q:Option Value->Shared->Prop}
def trR (q:List Key×Addr):List Key×Addr×Value:=(q.1,q.2,Value.bool true)
def zi4 (kvs:List (List Key×Addr))(k:List Key)(b:Addr):List (List Key×Addr):=if (kvs.any λq=>decide (q.1=k))=true then kvs else kvs++[(k,b)]
theorem anyR {kvs:List (List Key×Addr)}{k:List Key}:(kvs.any λq=>decide (q.1=k))=true↔k∈kvs.map (·.1):=by
 rw[lcf,lat]
 simp only[laA]
theorem zc3 (kvs:List (List Key×Addr)):(kvs.map trR).map (·.1)=kvs.map (·.1):=by rw[laK];rfl
theorem zla (kvs:List (List Key×Addr))(k:List Key)(b:Addr):storedH (kvs.map trR) k b (.bool true)=(zi4 kvs k b).map trR:=by
 have hs:(atKey (kvs.map trR) k).isSome=true↔k∈kvs.map (·.1):=by
  rw[← zc3]
  unfold atKey
  rw[Option.isSome_map,List.find?_isSome]
  simp only[lat,laA]
 have same:(kvs.map trR).map (putAt k (.bool true))=kvs.map trR:=by
  rw[laK]
  refine lcG λq _=>?_
  show putAt k (.bool true) (trR q)=trR q
  unfold putAt trR
  split <;>rfl
 unfold storedH zi4
 by_cases h:k∈kvs.map (·.1)
 ·rw[lU (anyR.mpr h),lU (hs.mpr h),same]
 ·rw[lac (λz=>h (anyR.mp z)),lac (λz=>h (hs.mp z)),lbW];rfl
theorem zjh (kvs:List (List Key×Addr))(k:List Key)(b:Addr):(zi4 kvs k b).length<=kvs.length+1:=by
 unfold zi4
 split
 ·omega
 ·simp
def zm1:TE:=λ_ H Q=>∀p,H p=none->Q (.ref p) (upd H p (.dR []))
section
variable {X:Cx}{pos:Pos}
theorem zj6 {P:Program}{w:World}{H:Hp}(h:Heap)(hb:sysModules<h.objs.size):ObjOk P w H (h.push {cls:=.type "dict", data:=.dict #[]}) h.objs.size (.dR []) :=
 ⟨lbq _,lcD.mpr (lab hb).symm,_,#[],0,lC _ rfl,⟨rfl,rfl,rfl⟩,rfl,rfl,lb8⟩
theorem ziU:PE X (.Dict [] [] pos) zm1:=λpins s σ H Q I h =>
 wpAny_Dict_empty ⟨.ref s.heap.objs.size,_,I.laid (a:=s.heap.objs.size) (o:=.dR []) (t':=s.toks) (λ_ _ q=>lg _ q) (lB _) (zj6 s.heap I.big),rfl,h _ (I.hok.fresh (lB _))⟩
variable {pins:List (Addr×Obj)}{σ:St}{H:Hp}{s:Shared}{a b:Addr}{A:Around}{E:qQ2}{kvs:List (List Key×Addr)}{k:List Key}
theorem zkC (I:Inv X pins σ H s)(e:SqT X.K H b (k.map kV)):(tupleKind (vA X.prog X.w)).is s.heap k b:=by
 obtain⟨its,r,⟨o,h1,h2,n,h3⟩,_⟩:=I.tuple e
 exact⟨o,its.toArray,n,h1,h2,h3,by simpa using zdP r⟩
theorem zo0 (I:Inv X pins σ H s)(e:H a=some (.dR kvs))(hk:∀q∈kvs,SqT X.K H q.2 (q.1.map kV)):(kvs.length<=sizeLine/\(a == sysModules)=false)/\s.heap.DictOfH (tupleKind (vA X.prog X.w)) a (kvs.map trR):=by
 obtain⟨z,y,o,es,ep,h1,h2,h3,h4,h5⟩:=(show ObjOk X.prog X.w H s.heap a (.dR kvs) from I.hok a _ e)
 refine⟨⟨z,y⟩,o,es,ep,h1,h2,h3,by rw[h4,laK];rfl,λx hx=>?_,by rw[zc3];exact h5⟩
 obtain⟨q,hq,rfl⟩:=lat.mp hx
 exact zkC I (hk q hq)
theorem znF {Q:Unit->Shared->Prop}(hu:A.units+1<cLine)(I:Inv X pins σ H s)(e:H a=some (.dR kvs))(hk:∀q∈kvs,SqT X.K H q.2 (q.1.map kV))(eb:SqT X.K H b (k.map kV))(l:kvs.length<sizeLine)
  (h:∀s',Inv X pins σ (upd H a (.dR (zi4 kvs k b))) s'->Q () s'):wpAny (model X.prog X.w) A (setItem (.ref a) (.ref b) (.bool true)) Q E s:=by
 obtain⟨⟨z,hd⟩,dd⟩:=zo0 I e hk
 have hl:(zi4 kvs k b).length<=sizeLine:=by have:=zjh kvs k b;omega
 refine wpAny_setItem_heap (hsz:=by rw[lQ];exact z) (tupleKind_room_in1 hu) (zkC I eb) dd λh' dd' hs=>h _ ?_
 rw[zla] at dd'
 obtain⟨q,es,ep,hq,h2,h3,h4,_,h5⟩:=dd'
 refine zkZ I (by rw[e];exact True.intro) hs ⟨q,hq⟩ ⟨hl,hd,q,es,ep,hq,h2,h3,by rw[h4,laK];rfl,?_⟩
 rw[zc3] at h5
 exact h5
def znr (K:qQ0)(td ty tv:TE):TS:=λD σ H=>tv σ H λv H1=>td σ H1 λx H2=>ty σ H2 λy H3=>∃a b kvs k,v=.bl true/\x=.ref a/\y=.ref b/\H3 a=some (.dR kvs)/\(∀q∈kvs,SqT K H3 q.2 (q.1.map kV))/\SqT K H3 b (k.map kV)/\kvs.length<sizeLine/\D.nx σ (upd H3 a (.dR (zi4 kvs k b)))
theorem zjw {o i value:Expr}{td ty tv:TE}{pos':Pos}(hu:X.A.units+1<cLine)(ho:PE X o td)(hi:PE X i ty)(hv:PE X value tv)(hs:swapsWith value (some (.Subscript o i pos')) pos.line X.env=pure false):PS X (.Assign [.Subscript o i pos'] value pos) (znr X.K td ty tv):=by
 intro pins s σ H D I h
 refine wpAny_Assign_Subscript (thn (hv pins s σ H _ I h) λr s1 ⟨v,H1,I1,rv,q1⟩=>thn (ho pins s1 σ H1 _ I1 q1) λu s2 ⟨x,H2,I2,rx,q2⟩=>thn (hi pins s2 σ H2 _ I2 q2) λiv s3 ⟨y,H3,I3,ry,a,b,kvs,k,ev,ex,ey,e1,e2,e3,e4,q3⟩=>?_) hs
 subst ex ey ev
 obtain rfl:u=Value.ref a:=rx
 obtain rfl:iv=Value.ref b:=ry
 obtain rfl:r=Value.bool true:=rv
 exact znF hu I3 e1 e2 e3 e4 λs4 I4=>⟨σ,_,I4,q3⟩
end
def DRaw (h:Heap)(d:Addr)(es:Array DictEntry)(ep:Nat):Prop:=∃o,h.get? d=some o/\o.ExactDict/\o.data=.dict es ep
section
variable {prog:Program}{w:World}{A:Around}{E:qQ2}{s:Shared}{d it:Addr}{es:Array DictEntry}{ep i:Nat}
theorem DRaw.ty (D:DRaw s.heap d es ep):s.TypeIs (.ref d) "dict" := let ⟨o,h,c,_⟩:=D;⟨o,h,c.1⟩
theorem zlG {Q:qQ2}(lo:(d == sysModules)=false)(D:DRaw s.heap d es ep)
  (q:Q (.ref s.heap.objs.size) {s with heap:=s.heap.push {cls:=.type "dict_keyiterator", data:=.fields #[.ref d,.int 0 0,.int es.size 0,.int ep 0]} }):wpAny (model prog w) A (pyIter (.ref d)) Q E s:=by
 have T:=D.ty
 obtain⟨o,g,c,dt⟩:=D
 refine wpAny_pyIter_slot T PySem.F.slot_dict_iter (lad PySem.F.slot_dict_iter T PySem.F.entry_dict_iter ?_ (PySem.F.args_dict_iter_1 _))
 unfold Builtin.«dict.__iter__» Builtin.Dict.dictSlotNone
 refine la (la (wpAny_notOrdered_dict T ?_))
 refine lr (a:=Value.ref d) ?_
 show wpAny _ _ (Builtin.Dict.showsAll d >>= _) _ _ s
 unfold Builtin.Dict.showsAll
 rw[lac (by rw[lo];decide)]
 refine la (lr (la (ldL g dt (la (wpAny_dictEpoch g dt ?_)))))
 refine la (laH (lr ⟨_,rfl, "dict_keyiterator", _,⟨_,lC _ rfl,rfl⟩,la1.lookup,?_⟩))
 simpa [rawInt] using q
theorem zk6 {e:DictEntry}(J:s.heap.IsKeyIter it d i es.size ep)(D:DRaw s.heap d es ep)(x:es[i]? = some e)
  (q:∀h',h'.IsKeyIter it d (i+1) es.size ep->Heap.SameBut it s.heap h'->Q (some e.key) {s with heap:=h'}):wpAny (model prog w) A (pyNext (.ref it)) Q E s:=by
 have T:=J.typeIs
 obtain⟨o,g,c,dt⟩:=J
 obtain⟨od,gd,cd,dd⟩:=D
 have lt:i<es.size:=by
  rcases lcd i es.size with z|z
  ·exact z
  ·rw[lcV z] at x;cases x
 have xe:es[i]=e:=by rw[laS lt] at x;exact lq x
 unfold pyNext
 refine la (lbp (lV (name:=Str.ofString "__next__") T la1 (lad la1 T PySem.F.entry_dict_keyiterator_next ?_ (PySem.F.args_dict_keyiterator_next_1 _))))
 refine la (lr (la (la (la (lbK T (lr ?_))))))
 refine la (wpAny_fieldsOf g dt ?_)
 simp only[show Builtin.Dict_items.ownsTuple "dict_keyiterator" = false by decide,lS,laU]
 show wpAny _ _ (if (Value.ref d == Value.none)=true then _ else _) _ _ s
 rw[lac (show ¬((Value.ref d == Value.none)=true) from lH)]
 refine la (lr (la (ldL gd dd ?_)))
 rw[lac (by simp)]
 refine la (lr (la (wpAny_dictEpoch gd dd ?_)))
 rw[lac (by simp)]
 refine lr ?_
 simp only[show ¬((i:Int)<0) from by omega,laU,laq,laS lt,xe]
 refine la (la (lbK T (lr ?_)))
 refine la (wpAny_isOneOf_keyiter T ?_)
 show wpAny _ _ (setField (.ref it) 1 (rawInt ((i:Int)+1)) >>= _) _ _ s
 refine la (lb6 g dt (by simp) ?_)
 have J':(s.heap.update it (Obj.mapFields (·.setIfInBounds 1 (rawInt ((i:Int)+1))))).IsKeyIter it d (i+1) es.size ep :=
  ⟨_,lcl _ g (lcn (lbn dt _)),(lcY ..).trans c,by rw[lbn dt];simp[rawInt]⟩
 refine la (lak (la (wpAny_isOneOf_keyiter (s:={s with heap:=s.heap.update it (Obj.mapFields (·.setIfInBounds 1 (rawInt ((i:Int)+1))))}) J'.typeIs ?_)))
 refine lr (a:=e.key) (lr ⟨_,rfl,lr (q _ J' (lah ..))⟩)
theorem znX (hh:A.handled=none)(J:s.heap.IsKeyIter it d i es.size ep)(D:DRaw s.heap d es ep)(x:es.size<=i)(q:∀h',Heap.ExtBut it s.heap h'->Q none {s with heap:=h'}):wpAny (model prog w) A (pyNext (.ref it)) Q E s:=by
 have T:=J.typeIs
 obtain⟨o,g,c,dt⟩:=J
 obtain⟨od,gd,cd,dd⟩:=D
 unfold pyNext
 refine la (lbp (lV (name:=Str.ofString "__next__") T la1 (lad la1 T PySem.F.entry_dict_keyiterator_next ?_ (PySem.F.args_dict_keyiterator_next_1 _))))
 refine la (lr (la (la (la (lbK T (lr ?_))))))
 refine la (wpAny_fieldsOf g dt ?_)
 simp only[show Builtin.Dict_items.ownsTuple "dict_keyiterator" = false by decide,lS,laU]
 show wpAny _ _ (if (Value.ref d == Value.none)=true then _ else _) _ _ s
 rw[lac (show ¬((Value.ref d == Value.none)=true) from lH)]
 refine la (lr (la (ldL gd dd ?_)))
 rw[lac (by simp)]
 refine la (lr (la (wpAny_dictEpoch gd dd ?_)))
 rw[lac (by simp)]
 refine lr ?_
 simp only[show ¬((i:Int)<0) from by omega,laU,laq,lcV x]
 refine la (la (lbK T (lr ?_)))
 show wpAny _ _ (setField (.ref it) 0 .none >>= _) _ _ s
 refine la (lb6 g dt (by simp) ?_)
 show wpAny _ _ (newExc (.type "StopIteration") [] >>= _) _ _ _
 refine la ?_
 simp only[newExc,newTuple]
 refine la (laH ?_ (by size_fits))
 refine la (m:=firstArgMember _ _) (lc0 (a:=Value.none) (by first|rfl|(simp only[firstArgMember];rfl)) (laH ?_ (by size_fits)))
 simp only[raiseNew]
 refine la (ldO ?_)
 rw[show A.in1.handled=none from hh]
 refine la (lr (wpAny_throw ?_))
 refine la (lb0 (T := "StopIteration") (b:=true) ⟨_,lC _ rfl,rfl⟩ lcv ?_)
 exact lr (q _ (((lah ..).extBut.push _).push _))
theorem DRaw.at {h h':Heap}(D:DRaw h d es ep)(k:∀o,h.get? d=some o->h'.get? d=some o):DRaw h' d es ep:=let ⟨o,g,r⟩:=D;⟨o,k o g,r⟩
theorem zi9 (hh:A.handled=none)(I:Addr)(ne:d≠I):Walks prog w A I [I,d] [I] es.size (λi v=>∃e,es[i]? = some e/\v=e.key) (λi h=>h.IsKeyIter I d i es.size ep/\DRaw h d es ep) where
 sub:=λb z=>by rw[lR.mp z];exact lD
 frame:=λ_ _ _ st k=>⟨st.1.at λo e=>k I lD o e,st.2.at λo e=>k d (lz _ lD) o e⟩
 item:=λi s Q E hi st q=>zk6 st.1 st.2 (laS hi) λh' J sb=>q _ h' s.toks ⟨_,laS hi,rfl⟩ ⟨J,st.2.at λo e=>sb.extBut d o ne e⟩ λb o hb e=>sb.extBut b o (λz=>hb (z▸lD)) e
 done:=λs Q E st q=>znX hh st.1 st.2 (lB _) λh' x=>q h' s.toks λb o hb e=>x b o (λz=>hb (z▸lD)) e
 self:=λ_ _ _ _ st q=>wpAny_pyIter_keyiter st.1 q
theorem znn (lo:(d == sysModules)=false):KdlSrc prog w "dict" d d es.size (λi v=>∃e,es[i]? = some e/\v=e.key) (λh=>DRaw h d es ep) where
 type:=λ_ D=>D.ty
 there:=λ_ D=>let ⟨_,g,_⟩:=D;⟨lE g,lE g⟩
 keep:=λ_ _ D k=>D.at λo e=>k d (.inl rfl) o e
 notList:=by decide
 notTuple:=by decide
 hint:=λ_ _ _ _ D q=>kdl_hint_dict D.ty q
 iter:=λ_ _ hh D=>⟨_,_,(λ_ _ q=>zlG lo D q),zi9 hh _ (let ⟨_,g,_⟩:=D;lab (lE g)),⟨⟨_,lC _ rfl,rfl,rfl⟩,D.at λo e=>lg _ e⟩⟩
theorem zfa {h:Heap}{L b:Addr}{vs:List Value}{o:Obj}(ne:b≠L)(e:h.get? b=some o):(vo h L vs).get? b=some o:=by
 have lt:(b:Nat)<h.objs.size:=lE e
 rw[lc2 _ _ _ (by rw[ldm,lcA];exact lab (ldH lt)),lc2 _ _ _ (by rw[lcA];exact lab lt),Heap.get?_update_ne _ _ _ _ ne]
 exact e
theorem zio {L:Addr}{ts:List Addr}{kss:List (List Key)}{n:Nat}{P:PySem.Fin->Shared->Prop}(ho:s.heap.get? L=some (seqObj "list" (ts.map Value.ref).toArray n))(hl:ts.length=kss.length)(ne:∀t∈ts,t≠L)
  (tup:∀i,i<kss.length->∃vs:List Value,Vals ((kss.getD i []).map kV) vs/\∃o,s.heap.get? (ts.getD i 0)=some o/\o.cls=.type "tuple" /\ ∃n,o.data=.seq vs.toArray n) (sb:Srtb kss) (h64:kss.length<64)
  (h:∀p,PP kss.length p->Sd (λi j=>jo (kss.getD i []) (kss.getD j [])) kss.length p->P (.done (.ret .none)) {s with heap:=sortedHeap s.heap L (ts.map Value.ref) (List.toArray (p.toList.map λi=>(ts.map Value.ref).getD i Value.none))}) :
  wpAny (model prog w) A (Builtin.«list.sort» ⟨[.ref L],[]⟩) P E s:=by
 have hl':(ts.map Value.ref).length=kss.length:=by rw[lQ];exact hl
 have gt:∀i,i<kss.length->(ts.map Value.ref).getD i Value.none=.ref (ts.getD i 0):=λi hi=>by
  rw[ly,ly,lJ,lh (by omega)];rfl
 have mt:∀i,i<kss.length->ts.getD i 0∈ts:=λi hi=>by rw[ly,lh (by omega)];exact laD (by omega)
 have mem:∀i,i<kss.length->kss.getD i []∈kss:=λi hi=>by rw[ly,lh hi];exact laD hi
 obtain⟨c,hne⟩:=sb.ne
 have O:=sb.ord
 rw[← hl'] at O
 refine zbd (κ:=tuples' true) ho O (λh2 Q q=>?_) (λi j C hi hj q=>?_) (by omega) λp hp sd=>h p (hl'▸hp) (hl'▸sd)
 ·have key:∀(l:List Nat),(∀i∈l,i<kss.length)->∃fs:List Value,KatTups (vo s.heap L (ts.map Value.ref)) (l.map λi=>(ts.map Value.ref).getD i Value.none) fs/\fs.length=l.length/\∀v∈fs,if c then ∃n t,v=.int n t else ∃x t,v=.str x t:=by
   intro l
   induction l with
   | nil=>exact λ_=>⟨[],KatTups.nil,rfl,λv hv=>by cases hv⟩
   | cons i l ih =>
    intro hm
    obtain⟨fs,k1,k2,k3⟩:=ih λj hj=>hm j (lz _ hj)
    have hi:=hm i lD
    obtain⟨vs,r1,o,g,hcl,n,hd⟩:=tup i hi
    obtain⟨k,rr,e,kc⟩:=hne _ (mem i hi)
    rw[e,lF] at r1
    cases r1 with
    | cons rp r1 =>
     rename_i f vs'
     refine⟨f::fs,?_,by simp[k2],λv hv=>?_⟩
     ·rw[lF,gt i hi]
      exact KatTups.cons (zfa (ne _ (mt i hi)) g) hcl hd (by simp) k1
     ·rcases lI.mp hv with rfl|hv
      ·cases k with
       | inl z=>obtain⟨t,rfl⟩:=rp;rw[← kc];exact⟨z,t,rfl⟩
       | inr z=>obtain⟨t,rfl⟩:=rp;rw[← kc];exact⟨z,t,rfl⟩
      ·exact k3 v hv
  obtain⟨fs,k1,k2,k3⟩:=key (List.range (ts.map Value.ref).length) λi hi=>by have:=lbf.mp hi;omega
  have e:(List.range (ts.map Value.ref).length).map (λi=>(ts.map Value.ref).getD i Value.none)=ts.map Value.ref:=by
   apply ldV
   ·simp
   ·intro i h1 h2
    have h2':i<ts.length:=by simpa using h2
    simp[h2']
  rw[e] at k1
  rw[lbA] at k2
  cases c with
  | true =>
   refine kat_kind (T:=.type "int") k1 (by omega) (λv hv=>?_) rfl q
   obtain⟨n,t,rfl⟩:=k3 v hv
   exact .now
  | false =>
   refine kat_kind (T:=.type "str") k1 (by omega) (λv hv=>?_) rfl q
   obtain⟨n,t,rfl⟩:=k3 v hv
   exact .now
 ·rw[hl'] at hi hj
  obtain⟨vi,ri,oi,gi,hci,ni,hdi⟩:=tup i hi
  obtain⟨vj,rj,oj,gj,hcj,nj,hdj⟩:=tup j hj
  unfold kas_ask
  rw[gt i hi,gt j hj]
  have li:=ri.length
  have lj:=rj.length
  simp only[lQ] at li lj
  refine kat_lt (s:={s with heap:=vo s.heap L (ts.map Value.ref)}) (zfa (ne _ (mt i hi)) gi) hdi (zfa (ne _ (mt j hj)) gj) hdj (zhT _ _ _ _ 0 ri rj (sb.ok _ (mem i hi) _ (mem j hj)) ?_ q)
  rw[lP,lP,li,lj]
end
section
variable {X:Cx}
theorem zdp (hc:X.calm=true):qP X (.builtin "sorted") (λxs H Q=>∃(a:Addr) (kvs:List (List Key×Addr)),xs=[.ref a]/\H a=some (.dR kvs)/\(∀q∈kvs,SqT X.K H q.2 (q.1.map kV))/\Srtb (kvs.map (·.1))/\kvs.length<64 /\
  ∀p (π:List Nat),H p=none->π.Perm (List.range kvs.length)->(∀i j,i<j->j<kvs.length->jo ((kvs.map (·.1)).getD (π.getD i 0) []) ((kvs.map (·.1)).getD (π.getD j 0) [])=true)->Q (.ref p) (upd H p (.lst (π.map λi=>V.ref ((kvs.map (·.2)).getD i 0))))):=by
 intro pins s σ H xs us Q I r h
 obtain⟨a,kvs,rfl,ha,hk,sb,h64,q⟩:=h
 obtain⟨u,rfl,ru⟩:=vals1 r
 cases ru
 obtain⟨z,lo,o,es,ep,h1,h2,h3,h4,h5⟩:=(show ObjOk X.prog X.w H s.heap a (.dR kvs) from I.hok a _ ha)
 have hz:es.size=kvs.length:=by have:=lbB List.length h4;simpa using this
 refine Calls.call_function_entry kind_sorted plain_sorted entry_sorted (args_sorted1 _) ?_
 unfold Builtin.«sorted»
 refine la (m:=checkCount "sorted" 1 1 _) (lr ?_)
 refine la (kdu_collect (A:=X.A.in1) (znn (es:=es) (ep:=ep) lo) (I.ok.hd hc) ⟨o,h1,h2,h3⟩ (by rw[hz,lbg];omega) λh' tk acc hkp hacc=>?_)
 have ea:acc.toList=(kvs.map (·.2)).map Value.ref:=by
  apply List.ext_getElem?
  intro i
  rcases lcd i kvs.length with hi|hi
  ·have hlt:i<acc.size:=by rw[hacc.1,hz];exact hi
   obtain⟨e,e1,e2⟩:=hacc.2 i acc[i] (by rw[laS hlt])
   have e3:es.toList[i]? = some e:=by simpa using e1
   rw[h4,lJ,lh hi] at e3
   have e4:=lq e3
   rw[lJ,lJ,lh hi,Array.getElem?_toList,laS hlt,e2,← e4]
   rfl
  ·rw[List.getElem?_eq_none (by rw[lbw,hacc.1,hz];exact hi),List.getElem?_eq_none (by simpa using hi)]
 rw[ea]
 refine la (lcr ?_ (by simp only[lQ];rw[lbg];omega))
 have hoL:(h'.push (seqObj "list" ((kvs.map (·.2)).map Value.ref).toArray 0)).get? h'.objs.size=some (seqObj "list" ((kvs.map (·.2)).map Value.ref).toArray 0):=lC _ rfl
 show wpAny _ _ _ _ _ {s with heap:=h'.push (seqObj "list" ((kvs.map (·.2)).map Value.ref).toArray 0),toks:=tk}
 have tup:∀i,i<kvs.length->∃vs:List Value,Vals (((kvs.map (·.1)).getD i []).map kV) vs/\∃o,h'.get? ((kvs.map (·.2)).getD i 0)=some o/\o.cls=.type "tuple" /\ ∃n,o.data=.seq vs.toArray n:=λi hi=>by
  have g1:(kvs.map (·.1)).getD i []=kvs[i].1:=by rw[ly,lJ,lh hi];rfl
  have g2:(kvs.map (·.2)).getD i 0=kvs[i].2:=by rw[ly,lJ,lh hi];rfl
  rw[g1,g2]
  obtain⟨vs,r1,⟨o,p1,p2⟩,_⟩:=I.tuple (hk kvs[i] (laD hi))
  exact⟨vs,r1,o,hkp _ _ p1,p2⟩
 have far:∀t∈kvs.map (·.2),t≠h'.objs.size:=λt ht=>by
  obtain⟨q,hq,rfl⟩:=lat.mp ht
  obtain⟨vs,r1,⟨o,p1,p2⟩,_⟩:=I.tuple (hk q hq)
  exact lab (lE (hkp _ _ p1))
 have hl1:(kvs.map (·.1)).length=kvs.length:=lQ ..
 have hl2:(kvs.map (·.2)).length=kvs.length:=lQ ..
 refine la (lak (lad slot_list_sort ⟨_,hoL,rfl⟩ entry_list_sort (zio (kss:=kvs.map (·.1)) (s:={s with heap:=h'.push (seqObj "list" ((kvs.map (·.2)).map Value.ref).toArray 0),toks:=tk}) hoL (by rw[hl1,hl2]) far (λi hi=>?_) sb (by rw[hl1];exact h64) λp hp sd=>⟨_,rfl,?_⟩) (args_list_sort _)))
 ·obtain⟨vs,r1,o,p1,p2⟩:=tup i (by rw[← hl1];exact hi)
  exact⟨vs,r1,o,lg _ p1,p2⟩
 refine lr ⟨_,rfl,?_⟩
 obtain⟨c,hat'⟩:=sortedHeap_at (n:=0) (out:=List.toArray (p.toList.map λi=>((kvs.map (·.2)).map Value.ref).getD i Value.none)) hoL
 have I1:Inv X pins σ H {s with heap:=h',toks:=tk}:=I.kept (t':=tk) hkp
 rw[hl1] at hp sd
 have hp':p.toList.Perm (List.range kvs.length):=hp
 refine⟨.ref h'.objs.size,_,I1.laid (t':=tk) (o:=.lst (p.toList.map λi=>V.ref ((kvs.map (·.2)).getD i 0))) (λb o e'=>?_) (lB _) ?_,rfl,q _ p.toList (I1.hok.fresh (lB _)) hp' λi j hij hj=>?_⟩
 ·have hlt:=lE e'
  rw[sortedHeap_old (lab hlt) (by rw[ldm];exact ldH hlt)]
  exact lg _ e'
 ·refine ⟨?_,p.toList.map λi=>((kvs.map (·.2)).map Value.ref).getD i Value.none,c,?_,hat'⟩
  ·have:=hp.size;rw[lQ,lbw,lbg];omega
  ·refine zhX (by simp) λj x u hx hu=>?_
   rw[lJ] at hx hu
   cases e:p.toList[j]? with
   | none=>rw[e] at hx;cases hx
   | some i =>
    rw[e] at hx hu
    have hi:i<kvs.length:=lbf.mp (hp'.mem_iff.mp (laL e))
    cases hx
    cases hu
    show RelV (V.ref ((kvs.map (·.2)).getD i 0)) (((kvs.map (·.2)).map Value.ref).getD i Value.none)
    have g:((kvs.map (·.2)).map Value.ref).getD i Value.none=.ref ((kvs.map (·.2)).getD i 0):=by
     rw[ly,ly,lJ,lh (by rw[hl2];exact hi)];rfl
    rw[g];rfl
 ·have:=sd i j hij hj
  rw[gd,gd] at this
  rw[ly,ly]
  simpa using this
end
end L2
namespace L2
open PySem PySem.W PySem.Spec PyProof.Rows
variable {ks ds:List D}{ρ:Rho}{i:Nat}{F:Hp}{kvs:List (List Key×Addr)}
def zkT:D->D->Bool
 | .int i,.int j=>decide (i=j)
 | .str a,.str b=>decide (a=b)
 | _,_=>false
def zfi:List D->List D->Bool
 | [],[]=>true
 | x::xs,y::ys=>zkT x y&&zfi xs ys
 | _,_=>false
def zoY (a b:D):Bool:=zfi (tOf a) (tOf b)
def putT (ks:List D)(k:D):List D:=if ks.any (zoY k)=true then ks else ks++[k]
theorem zfW:∀{a b:D},isAt a=true->isAt b=true->(zkT a b=true↔kOf a=kOf b)
 | .int i,.int j,_,_=>by simp[zkT,kOf]
 | .str a,.str b,_,_=>by
  simp only[zkT,kOf,laA,Sum.inr.injEq]
  exact⟨λe=>e▸rfl,λe=>zma e⟩
 | .int i,.str b,_,_=>by simp[zkT,kOf]
 | .str a,.int j,_,_=>by simp[zkT,kOf]
 | .non,_,h,_=>by simp[isAt] at h
 | .bl _,_,h,_=>by simp[isAt] at h
 | .lst _,_,h,_=>by simp[isAt] at h
 | .tup _,_,h,_=>by simp[isAt] at h
 | .dct _,_,h,_=>by simp[isAt] at h
 | .exc _,_,h,_=>by simp[isAt] at h
 | .int _,.non,_,h=>by simp[isAt] at h
 | .int _,.bl _,_,h=>by simp[isAt] at h
 | .int _,.lst _,_,h=>by simp[isAt] at h
 | .int _,.tup _,_,h=>by simp[isAt] at h
 | .int _,.dct _,_,h=>by simp[isAt] at h
 | .int _,.exc _,_,h=>by simp[isAt] at h
 | .str _,.non,_,h=>by simp[isAt] at h
 | .str _,.bl _,_,h=>by simp[isAt] at h
 | .str _,.lst _,_,h=>by simp[isAt] at h
 | .str _,.tup _,_,h=>by simp[isAt] at h
 | .str _,.dct _,_,h=>by simp[isAt] at h
 | .str _,.exc _,_,h=>by simp[isAt] at h
theorem zd0:∀{a b:List D},a.all isAt=true->b.all isAt=true->(zfi a b=true↔a.map kOf=b.map kOf)
 | [],[],_,_=>by simp[zfi]
 | [],_::_,_,_=>by simp[zfi]
 | _::_,[],_,_=>by simp[zfi]
 | x::xs,y::ys,h,k=>by
  rw[lba,lM] at h k
  rw[zfi,lM,zfW h.1 k.1,zd0 h.2 k.2,lF,lF,ld6]
theorem zfY {d:D}(h:zhV d=true):(tOf d).all isAt=true:=by
 cases d with
 | tup ds=>exact h
 | _=>cases h
theorem zfV {a b:D}(h:zhV a=true)(k:zhV b=true):zoY a b=true↔kj a=kj b:=zd0 (zfY h) (zfY k)
theorem zkP {k:D}(hk:zhV k=true)(h:∀d∈ks,zhV d=true):ks.any (zoY k)=true↔kj k∈ks.map kj:=by
 rw[lcf,lat]
 exact⟨λ⟨x,hx,e⟩=>⟨x,hx,((zfV hk (h x hx)).mp e).symm⟩,λ⟨x,hx,e⟩=>⟨x,hx,(zfV hk (h x hx)).mpr e.symm⟩⟩
def zlA (i:Nat):Rho->Out:=λρ=>.nx (ρ.set i (.ot []))
def otL (ρ:Rho)(i:Nat):Option (List D):=match ρ[i]? with|some (.ot ds)=>some ds|_=>none
theorem zfL (h:otL ρ i=some ds):ρ[i]? = some (.ot ds):=by
 unfold otL at h
 split at h
 ·rename_i e;rw[e,lq h]
 ·cases h
section
variable {X:Cx}{cl:Nat->Addr}{E:XK}{e o a b c:Expr}{es:List Expr}{fa fb fc:qQ5}{fs:qQ4}{x y:Str}{p pos:Pos}
theorem Rl.setT {K:qQ0}{H0 F0 H:Hp}{σ:St}{p:Addr}{vs:List (List Key×Addr)}(R:Rl K cl H0 F0 ρ σ H F)(hp:H p=none)(h:Dtk K cl F vs ds):Rl K cl H0 F0 (ρ.set i (.ot ds)) (σ.set i (some (.ref p))) (upd H p (.dR vs)) F:=R.newOwn hp (.ot h)
theorem Rl.putT {K:qQ0}{H0 F0 H:Hp}{σ:St}{a:Addr}{us:List (List Key×Addr)}{es:List D}(R:Rl K cl H0 F0 ρ σ H F)(hi:ρ[i]? = some (.ot ds))(hs:σ[i]? = some (some (.ref a)))(h:Dtk K cl F us es):Rl K cl H0 F0 (ρ.set i (.ot es)) σ (upd H a (.dR us)) F:=R.chg hi rfl hs (.ot h)
theorem Dts.sq {K:qQ0}{F:Hp}:∀{kvs:List (List Key×Addr)}{ks:List D},kvs.map (·.1)=ks.map kj->Dts K cl F (kvs.map λq=>V.ref q.2) ks->(∀d∈ks,zhV d=true)->∀q∈kvs,SqT K F q.2 (q.1.map kV)
 | [],_,_,_,_=>λq h=>by cases h
 | (k,a)::kvs,[],e,_,_=>by simp at e
 | (k, a)::kvs,d::ks,e,dt,ta=>λq hq=>by
  rw[lF,lF,ld6] at e
  rw[lF] at dt
  cases dt with
  | cons r t =>
   rcases lI.mp hq with rfl|hq
   ·have h0:=ta d lD
    have ek:k=kj d:=e.1
    show SqT K F a (k.map kV)
    cases r with
    | tup sq dq =>
     rename_i xs ds
     have ex:=dq.atoms h0
     rw[ek]
     show SqT K F a ((ds.map kOf).map kV)
     rw[← ex];exact sq
    | _=>cases h0
   ·exact Dts.sq e.2 t (λd hd=>ta d (lz _ hd)) q hq
theorem Dtk.sq {K:qQ0}(h:Dtk K cl F kvs ks):∀q∈kvs,SqT K F q.2 (q.1.map kV):=Dts.sq h.ky h.dt h.ta
theorem Dtk.len {K:qQ0}(h:Dtk K cl F kvs ks):kvs.length=ks.length:=by have:=lbB List.length h.ky;simpa using this
theorem Dtk.put {K:qQ0}{k:D}{b:Addr}(h:Dtk K cl F kvs ks)(hk:zhV k=true)(q:Dt K cl F (.ref b) k):Dtk K cl F (zi4 kvs (kj k) b) (L2.putT ks k):=by
 unfold zi4 L2.putT
 by_cases e:kj k∈ks.map kj
 ·rw[lU (anyR.mpr (by rw[h.ky];exact e)),lU ((zkP hk h.ta).mpr e)];exact h
 ·rw [lac (λz=>e (by rw[← h.ky];exact anyR.mp z)),lac (λz=>e ((zkP hk h.ta).mp z))]
  refine⟨by rw[lbW,lbW,h.ky];rfl,?_,λd hd=>?_,?_⟩
  ·rw[lbW];exact h.dt.append (.cons q .nil)
  ·rcases laW.mp hd with hd|hd
   ·exact h.ta d hd
   ·rw[lR.mp hd];exact hk
  ·rw [lbW]
   exact lbO.mpr ⟨h.nd,lbD.mpr ⟨by simp,lb8⟩,λa ha b hb z=>by
    rw[lF,lbc,lR] at hb;subst hb;subst z;exact e ha⟩
theorem zhM {pos' dpos:Pos}(hN:X.N.Nodup)(hi:X.N[i]? = some x)(hx:Loc X.env.scope x)(hs:swapsWith (.Dict [] [] dpos) (some (.Name x pos')) pos.line X.env=pure false:=by rfl)(hf:X.fn x=true∨X.env.scope.names.lookup x=some .local:=by first|exact .inl rfl|exact .inr rfl|assumption) :
  XS X cl E (.Assign [.Name x pos'] (.Dict [] [] dpos) pos) (zlA i) :=
 XS'.out ⟨_,zfA hN hi hx ziU hs hf,λH0 F0 ρ σ H F Dn R o=>λp hp=>o _ _ F (R.setT hp ⟨rfl,.nil,λ_ h=>(by cases h),lb8⟩) (Same.refl _)⟩
def ziZ (i:Nat)(fk fv:qQ5):Rho->Out:=λρ=>match otL ρ i with
 | some ds=>(match fv ρ with
  | .ok (.bl true)=>(match fk ρ with | .ok k=>if zhV k=true/\ds.length<1000 then .nx (ρ.set i (.ot (L2.putT ds k))) else .no | .ex n=>.ex n|_=>.no)
  | _=>.no)
 | none=>.no
theorem zg4 {k v:Expr}{pos':Pos}(hu:X.A.units+1<cLine)(ho:PE X o (zkv i))(hk:XE X cl E k fa)(hv:XE X cl E v fb)(hs:swapsWith v (some (.Subscript o k pos')) pos.line X.env=pure false:=by rfl):XS X cl E (.Assign [.Subscript o k pos'] v pos) (ziZ i fa fb):=by
 obtain⟨t,pt,rt⟩:=hk.ex
 obtain⟨u,pu,ru⟩:=hv.ex
 refine XS'.out ⟨_,zjw hu ho pt pu hs,λH0 F0 ρ σ H F Dn R oo=>ru H0 F0 ρ σ H F _ R ?_⟩
 unfold ziZ at oo
 cases hw:otL ρ i with
 | none=>rw[hw] at oo;exact oo.elim
 | some ds =>
  rw[hw] at oo
  have hd:=zfL hw
  cases ev:fb ρ with
  | ok dv =>
   cases dv with
   | bl bb =>
    cases bb with
    | true =>
     simp only[ev] at oo
     intro vv H1 F1 g1 q1
     have R1:=R.grow g1
     obtain⟨ad,vs,h1,h2,h3,h4,h5⟩:=R1.ot i ds hd
     refine⟨.ref ad,h1,rt H0 F0 ρ σ H1 F1 _ R1 ?_⟩
     cases ek:fa ρ with
     | ok dk =>
      simp only[ek] at oo
      split at oo
      ·rename_i hl
       intro kv H2 F2 g2 q2
       have R2:=R1.grow g2
       have h5':=h5.mono g2.ff
       cases q1
       cases q2 with
       | tup sq dq =>
        rename_i b xs dks
        have ex:=dq.atoms hl.1
        have sq':SqT X.K H2 b ((kj (.tup dks)).map kV):=by
         show SqT X.K H2 b ((dks.map kOf).map kV)
         rw[← ex];exact R2.fh.seqT sq
        refine⟨ad,b,vs,kj (.tup dks),rfl,rfl,rfl,g2.hh _ _ h2,λq hq=>R2.fh.seqT (h5'.sq q hq),sq',by rw[h5.len,lbg];omega,?_⟩
        exact oo _ _ F2 (R2.putT hd h1 (h5'.put hl.1 (.tup sq dq))) (g1.ff.trans g2.ff)
       | _=>cases hl.1
      ·exact oo.elim
     | ex n=>simp only[ek] at oo;exact oo
     | no=>simp only[ek] at oo;exact oo.elim
    | false=>simp only[ev] at oo;exact oo.elim
   | _=>simp only[ev] at oo;exact oo.elim
  | ex n=>simp only[ev] at oo;exact oo.elim
  | no=>simp only[ev] at oo;exact oo.elim
end
def zg3:List Nat->List Nat->Bool
 | [],[]=>false
 | [],_::_=>true
 | _::_,[]=>false
 | a::as,b::bs=>if a<b then true else if b<a then false else zg3 as bs
def znW:List D->List D->Bool
 | [],[]=>false
 | [],_::_=>true
 | _::_,[]=>false
 | x::xs,y::ys=>if zkT x y=true then znW xs ys else zg3 (unS x) (unS y)
def ziX:D->Bool
 | .tup (d::ds)=>(d::ds).all isS
 | _=>false
def znT (x:D):List D->List D
 | []=>[x]
 | y::ys=>if znW (tOf x) (tOf y) then x::y::ys else y::znT x ys
def zjR (ds:List D):List D:=ds.foldr znT []
theorem nlLt_iff:∀{a b:List Nat},zg3 a b=true↔a<b
 | [],[]=>by simp[zg3]
 | [],_::_=>by simp[zg3]
 | _::_,[]=>by simp[zg3]
 | a :: as,b::bs=>by
  unfold zg3
  rw[lbF]
  by_cases h:a<b
  ·simp[h]
  ·by_cases k:b<a
   ·rw[lac h,lU k]
    simp only[lS,false_iff,not_or,not_and]
    exact⟨h,λe=>by omega⟩
   ·rw[lac h,lac k,nlLt_iff]
    have:a=b:=by omega
    simp[this]
theorem zkG {d:D}(h:isS d=true):isAt d=true:=by cases d <;>simp_all [isS,isAt]
theorem zfN:∀{a b:List D},a.all isS=true->b.all isS=true->znW a b=jo (a.map kOf) (b.map kOf)
 | [],[],_,_=>rfl
 | [],_::_,_,_=>rfl
 | _::_,[],_,_=>rfl
 | x :: xs,y::ys,h,k=>by
  rw[lba,lM] at h k
  rw[lF,lF]
  unfold znW jo
  have e:=zfW (zkG h.1) (zkG k.1)
  by_cases z:kOf x=kOf y
  ·rw[lU z,lU (e.mpr z),zfN h.2 k.2]
  ·rw [lac z,lac (λw=>z (e.mp w))]
   cases x with
   | str a =>
    cases y with
    | str b =>
     show zg3 a b=decide ((T a).cps.toList<(T b).cps.toList)
     rw[zac,zac]
     by_cases q:a<b
     ·rw[nlLt_iff.mpr q,lX q]
     ·rw[laa q]
      cases e2:zg3 a b with
      | false=>rfl
      | true=>exact absurd (nlLt_iff.mp e2) q
    | _=>simp[isS] at k
   | _=>simp[isS] at h
theorem zh8 {x:D}:∀{ys:List D},ziX x=true->(∀y∈ys,ziX y=true)->znT x ys=zj1 x ys
 | [],_,_=>rfl
 | y :: ys,hx,h=>by
  unfold znT zj1
  rw[zh8 hx λz hz=>h z (lz _ hz)]
  have e:znW (tOf x) (tOf y)=jo (kj x) (kj y):=by
   have hy:=h y lD
   have al:∀{d:D},ziX d=true->(tOf d).all isS=true:=λ{d} h=>by
    cases d with
    | tup ds=>cases ds with
     | nil=>cases h
     | cons x xs=>exact h
    | _=>cases h
   exact zfN (al hx) (al hy)
  rw[e]
theorem zgk:∀{ds:List D},(∀y∈ds,ziX y=true)->zjR ds=ziO ds
 | [],_=>rfl
 | d::ds,h=>by
  have h':∀y∈ds,ziX y=true:=λy hy=>h y (lz _ hy)
  show znT d (zjR ds)=zj1 d (ziO ds)
  rw[zgk h']
  exact zh8 (h d lD) λy hy=>h' y ((jf ds).mem_iff.mp hy)
theorem zkk:∀{a b:List D},a.all isS=true->b.all isS=true->ze0 (a.map kOf) (b.map kOf)=true
 | [],_,_,_=>by simp[ze0]
 | _::_,[],_,_=>by simp[ze0]
 | x::xs,y::ys,h,k=>by
  rw[lba,lM] at h k
  rw[lF,lF]
  unfold ze0
  rw[zkk h.2 k.2,Bool.and_true]
  cases x with
  | str a=>cases y with
   | str b=>rfl
   | _=>simp[isS] at k
  | _=>simp[isS] at h
theorem zl4 (h:∀y∈ds,ziX y=true)(nd:(ds.map kj).Nodup):Srtb (ds.map kj):=by
 refine⟨⟨false,λks hk=>?_⟩,λx hx y hy=>?_,nd⟩
 ·obtain ⟨d,hd,rfl⟩:=lat.mp hk
  have:=h d hd
  cases d with
  | tup l=>cases l with
   | nil=>cases this
   | cons x xs =>
    refine⟨kOf x,xs.map kOf,rfl,?_⟩
    have h1:(isS x&&xs.all isS)=true:=this
    rw[lM] at h1
    cases x with
    | str a=>rfl
    | _=>simp[isS] at h1
  | _=>cases this
 ·obtain ⟨d,hd,rfl⟩:=lat.mp hx
  obtain⟨e,he,rfl⟩:=lat.mp hy
  have al:∀{d:D},ziX d=true->(tOf d).all isS=true:=λ{d} h=>by
   cases d with
   | tup ds=>cases ds with
    | nil=>cases h
    | cons x xs=>exact h
   | _=>cases h
  exact zkk (al (h d hd)) (al (h e he))
def fST (i:Nat):qQ4:=λρ=>match otL ρ i with
 | some ds=>if ds.all ziX=true/\ds.length<64 then .ok (zjR ds) else .no
 | none=>.no
section
variable {X:Cx}{cl:Nat->Addr}{E:XK}{e:Expr}{p pos:Pos}
theorem zcl (hc:X.calm=true)(hg:Gl X "sorted")(hm:X.mg "sorted" = none)(ho:PE X e (zkv i))(hs:starEach [e] X.env=(false,eval e X.env)::starEach [] X.env)(hpl:(backTo pos (starEach [] X.env)).any (·.1)=false:=by rfl):XL X cl E (.Call (.Name "sorted" p) [e] [] pos) (fST i):=by
 refine⟨_,jO (zdp hc) hg hm boot_sorted (yX ho vX hs) (by decide) (by decide) hs hpl,λH0 F0 ρ σ H F Q R oo=>?_⟩
 unfold fST at oo
 cases hw:otL ρ i with
 | none=>rw[hw] at oo;exact oo.elim
 | some l =>
  rw[hw] at oo
  dsimp only at oo
  split at oo
  ·rename_i hl
   obtain⟨ad,vs,h1,h2,h3,h4,h5⟩:=R.ot i l (zfL hw)
   have ts:∀y∈l,ziX y=true:=λy hy=>lZ.mp hl.1 y hy
   have sb:=zl4 ts h5.nd
   have e1:=h5.len
   refine⟨.ref ad,h1,ad,vs,rfl,h2,λq hq=>R.fh.seqT (h5.sq q hq),by rw[h5.ky];exact sb,by omega,λp π hp pm rs=>?_⟩
   rw[h5.ky,e1] at rs
   rw[e1] at pm
   have pl:π.length=l.length:=by have:=pm.length_eq;simpa using this
   have hmem:∀i∈π,i<l.length:=λi hi=>lbf.mp (pm.mem_iff.mp hi)
   have er:RisP (π.map λi=>l.getD i .non):=by
    refine lcx.mpr λi j hi hj hij=>?_
    have hi':i<π.length:=by simpa using hi
    have hj':j<π.length:=by simpa using hj
    have r1:=rs i j hij (by omega)
    have gk:∀i (h:i<π.length),(l.map kj).getD (π.getD i 0) []=kj (l.getD π[i] .non):=λi h=>by
     have hm:=hmem π[i] (laD h)
     have e0:π.getD i 0=π[i]:=by rw[ly,lh h];rfl
     rw[e0,ly,ly,lJ,lh hm]
     rfl
    rw[gk i hi',gk j hj'] at r1
    simpa using r1
   have ez:(π.map λi=>l.getD i .non)=zjR l:=by
    rw[zgk ts]
    exact er.unique (zet sb) ((znK l π pm).trans (jf l).symm)
   refine oo _ _ F (Gr.refl R.fh) ?_ p hp
   rw[← ez]
   have dq:=h5.dt
   have key:∀(π:List Nat),(∀i∈π,i<l.length)->Dts X.K cl F (π.map λi=>V.ref ((vs.map (·.2)).getD i 0)) (π.map λi=>l.getD i .non):=by
    intro π
    induction π with
    | nil=>exact λ_=>.nil
    | cons i π ih =>
     intro hm
     have hi:=hm i lD
     refine .cons ?_ (ih λj hj=>hm j (lz _ hj))
     have:=dq.getDt i hi
     have ev:(vs.map λq=>V.ref q.2).getD i .non=V.ref ((vs.map (·.2)).getD i 0):=by
      rw[ly,ly,lJ,lJ,lh (by omega)]
      rfl
     rw[ev] at this
     exact this
   exact key π hmem
  ·exact oo.elim
end
theorem zil (l:Addr)(items:Array Value)(n:Nat)(b:Addr)(more:Array Value)(z1:items.size<=sizeLine)(z2:items.size+more.size<=sizeLine) :
  Meets (Builtin.«list.extend» ⟨[.ref l,.ref b],[]⟩) (λ_ R s=>s.heap.get? l=some (seqObj "list" items n)/\(∃o k,s.heap.get? b=some o/\o.cls=.type "list" /\ o.data=.seq more k)/\R (.ok (.ret Value.none)) {s with heap:=s.heap.update l (Obj.mapSeq λx=>x++more)}) :=
 .of_wp λprog w A R s h=>by
  obtain⟨hl,⟨o,k,hb,hc,hd⟩,h⟩:=h
  unfold Builtin.«list.extend»
  refine la (m:=selfAndOne "list.extend" _) (lr ?_)
  unfold Builtin.List.listExtendWith
  refine la (ldw ⟨o,hb,hc⟩ ?_)
  rw[lU (by simp)]
  refine la (ldA hb hd (la (ldA hl rfl ?_)))
  rw[lac (by rw[zfJ z2,Bool.and_false];exact lH)]
  refine la (ldk (f:=λx=>x++more) hl rfl ?_ (hsz2:=by show(items++more).size<=_;rw[ldE];omega))
  exact lr ⟨_,rfl,h⟩
section
variable {X:Cx}
def zpf (K:qQ0):V->List V->Hp->VK->Prop:=λx vs H Q=>∃l b xs zs,x=.ref l/\vs=[.ref b]/\H l=some (.lst xs)/\SqL K H b zs/\xs.length+zs.length<=sizeLine/\Q .non (upd H l (.lst (xs++zs)))
theorem zgP:MtM X "list.extend" (zpf X.K):=by
 intro pins s σ H x vs v us Q I rx rv h
 obtain⟨l,b,xs,zs,rfl,rfl,hH,hB,hz,q⟩:=h
 cases rx
 obtain⟨u,rfl,ru⟩:=rv.one
 cases ru
 obtain⟨z,its,n,r,hl,e⟩:=I.lstM hH
 obtain⟨its2,r2,⟨o,k,e2,c2,_,d2⟩,hl2⟩:=I.list hB
 have l1:=r.length
 have l2:=r2.length
 refine lcI F.slot_list_extend ⟨_,e,rfl⟩ F.entry_list_extend (F.args_list_extend_2 _ _) (zil l its.toArray n b its2.toArray (by rw[lP];omega) (by rw[lP,lP];omega)) ⟨e,⟨o,k,e2,c2,d2⟩,?_⟩
 refine⟨.non,_,I.lset (its':=its++its2) hH e (by simp) (r.append r2) ?_,rfl,q⟩
 rw[lae]
 omega
variable {cl:Nat->Addr}{E:XK}{e:Expr}{fa:qQ5}{pos:Pos}
def zoI (i:Nat)(f:qQ5):Rho->Out:=λρ=>match owL ρ i with
 | some ds=>(match f ρ with | .ok (.lst es)=>if ds.length+es.length<1000000 then .nx (ρ.set i (.ow (ds++es))) else .no | .ex n=>.ex n|_=>.no)
 | none=>.no
theorem zgV {o:Expr}{apos cpos:Pos}(ho:PE X o (zkv i))(ha:XE X cl E e fa)(m:Mth X o e "extend" apos cpos)(hs:swapsWith (.Call (.Attribute o "extend" apos) [e] [] cpos) none pos.line X.env=pure false:=by rfl):XS X cl E (.Expr (.Call (.Attribute o "extend" apos) [e] [] cpos) pos) (zoI i fa):=by
 obtain⟨u,pu,ru⟩:=ha.ex
 refine XS'.out ⟨_,zfp (zd3 lbr PySem.F.slot_list_extend PySem.F.type_list_extend zgP ho (yX pu vX m.hs) m.base m.few m.line m.hs m.plain) hs,λH0 F0 ρ σ H F Dn R oo=>?_⟩
 unfold zoI at oo
 cases hw:owL ρ i with
 | none=>rw[hw] at oo;exact oo.elim
 | some ds =>
  rw[hw] at oo
  have hd:=za4 hw
  obtain⟨a,vs,h1,h2,h3,h4,h5⟩:=R.ow i ds hd
  refine⟨.ref a,h1,.inl ⟨rfl,vs,.inl (.inl h2)⟩,ru H0 F0 ρ σ H F _ R ?_⟩
  cases e:fa ρ with
  | ok d =>
   simp only[e] at oo
   split at oo
   ·rename_i es e1
    injection e1 with e1
    subst e1
    split at oo
    ·rename_i hl
     intro v H1 F1 g q
     have R1:=R.grow g
     cases q with
     | lst sq dq =>
      rename_i b zs
      refine⟨a,b,vs,zs,rfl,rfl,g.hh _ _ h2,R1.fh.seq sq,?_,?_⟩
      ·rw[h5.length,dq.length,lbg];omega
      ·exact oo _ _ F1 (R1.put hd h1 ((h5.mono g.ff).append dq)) g.ff
    ·exact oo.elim
   ·rename_i e1;cases e1
   ·exact oo.elim
  | ex n=>simp only[e] at oo;exact oo
  | no=>simp only[e] at oo;exact oo.elim
end
end L2
namespace L2
open PySem
variable {m:Nat}
def Msk (m:Nat):Prop:=m=7∨m=31∨m=127
def itr (f:Nat->Nat):Nat->Nat->Nat
 | 0,i=>i
 | n+1,i=>itr f n (f i)
theorem zcA (f:Nat->Nat):∀(a b i:Nat),itr f (a+b) i=itr f b (itr f a i)
 | 0,b,i=>by rw[la7];rfl
 | a+1,b,i=>by rw[show a+1+b=(a+b)+1 by omega];exact zcA f a b (f i)
def lp (m i:Nat):Nat:=(i*5+1) % (m+1)
def orb (m:Nat):Nat->Nat->List Nat
 | 0,_=>[]
 | n+1,i=>i::orb m n (lp m i)
theorem zeZ {m:Nat}:∀{n i j:Nat},j∈orb m n i->∃k,k<n/\itr (lp m) k i=j
 | 0,i,j,h=>by cases h
 | n+1,i,j,h=>by
  rcases lI.mp h with rfl|h
  ·exact⟨0,Nat.zero_lt_succ _,rfl⟩
  ·obtain⟨k,h1,h2⟩:=zeZ h
   exact⟨k+1,by omega,h2⟩
theorem zpY (h:Msk m):(∀j,j<=m->j∈orb m (m+1) 0)/\itr (lp m) (m+1) 0=0:=by
 have key:∀m,((List.range (m+1)).all λj=>(orb m (m+1) 0).contains j)=true->∀j,j<=m->j∈orb m (m+1) 0:=λm h j hj=>by
  have:=lZ.mp h j (lbf.mpr (by omega))
  simpa using this
 rcases h with rfl|rfl|rfl
 ·exact⟨key 7 (by decide +kernel),by decide +kernel⟩
 ·exact⟨key 31 (by decide +kernel),by decide +kernel⟩
 ·exact⟨key 127 (by decide +kernel),by decide +kernel⟩
theorem cyc (h:Msk m){i j:Nat}(hi:i<=m)(hj:j<=m):∃n,n<=m/\itr (lp m) n i=j:=by
 obtain⟨c,z⟩:=zpY h
 obtain⟨a,a1,a2⟩:=zeZ (c i hi)
 obtain⟨b,b1,b2⟩:=zeZ (c j hj)
 rcases lcd b a with q|q
 ·refine⟨b+(m+1) - a,by omega,?_⟩
  rw[← a2,← zcA,show a+(b+(m+1) - a)=(m+1)+b by omega,zcA,z]
  exact b2
 ·refine⟨b - a,by omega,?_⟩
  rw[← a2,← zcA,show a+(b - a)=b by omega]
  exact b2
def jmp (m:Nat):Nat->Nat×Nat->Nat×Nat
 | 0,p=>p
 | n+1,p=>jmp m n (SetTable.leap m p.1 p.2)
theorem zgj (m:Nat):∀(n i p:Nat),(jmp m n (i,p)).2=p / 32 ^ n
 | 0,i,p=>by simp[jmp]
 | n+1,i,p=>by
  show(jmp m n (SetTable.leap m i p)).2=_
  unfold SetTable.leap
  rw[zgj m n _ _,Nat.pow_succ,Nat.mul_comm,Nat.div_div_eq_div_mul]
theorem zkd {m:Nat}:∀(n:Nat) (p:Nat×Nat),p.1<=m->(jmp m n p).1<=m
 | 0,p,h=>h
 | n+1,p,h=>zkd n _ (by unfold SetTable.leap;exact ldM (Nat.mod_lt _ (lc9 _)))
theorem zf5 (m:Nat):∀(n i:Nat),jmp m n (i,0)=(itr (lp m) n i,0)
 | 0,i=>rfl
 | n+1,i=>by
  show jmp m n (SetTable.leap m i 0)=_
  have:SetTable.leap m i 0=(lp m i,0):=by simp[SetTable.leap,lp]
  rw[this,zf5 m n]
  rfl
theorem zhH (m:Nat):∀(a b:Nat) (p:Nat×Nat),jmp m (a+b) p=jmp m b (jmp m a p)
 | 0,b,p=>by rw[la7];rfl
 | a+1,b,p=>by rw[show a+1+b=(a+b)+1 by omega];exact zhH m a b _
theorem zh2 (h:Int):SetTable.bits h<2 ^ 64:=by
 unfold SetTable.bits
 have h1:=lcq h (show(2 ^ 64:Int)≠0 by decide)
 have h2:=lb5 h (show(0:Int)<2 ^ 64 by decide)
 omega
theorem zli (hm:Msk m){i p j:Nat}(hi:i<=m)(hp:p<2 ^ 64)(hj:j<=m):∃n,n<=m+13/\(jmp m n (i,p)).1=j:=by
 have z:(jmp m 13 (i,p)).2=0:=by
  rw[zgj]
  exact Nat.div_eq_of_lt (lK hp (by decide))
 have l:=zkd 13 (i,p) hi
 obtain⟨n,h1,h2⟩:=cyc hm l hj
 refine⟨13+n,by omega,?_⟩
 rw[zhH]
 have e:jmp m 13 (i,p)=((jmp m 13 (i,p)).1,0):=by rw[← z]
 rw[e,zf5]
 exact h2
theorem zen {m:Nat}{owner:Array (Option Nat)}:∀(f:Nat) (p:Nat×Nat),p.1<=m->(∃n,n<f/\owner.getD (jmp m n p).1 (some 0)=none)->∃j,SetTable.layClean.free m owner f p.1 p.2=some j/\j<=m/\owner.getD j (some 0)=none
 | 0,p,_,⟨n,h,_⟩=>by omega
 | f + 1,p,hp,⟨n,h,e⟩=>by
  have hre:SetTable.runEnd m p.1<=m/\p.1<=SetTable.runEnd m p.1:=by unfold SetTable.runEnd;split <;>omega
  unfold SetTable.layClean.free
  split
  ·rename_i k hk
   have h1:=List.find?_some hk
   have h2:=lbf.mp (List.mem_of_find?_eq_some hk)
   refine⟨p.1+k,rfl,by omega,?_⟩
   simpa using h1
  ·rename_i hk
   have h0:=lch.mp hk 0 (lbf.mpr (by omega))
   have n0:n≠0:=λz=>by
    subst z
    have e':owner.getD p.1 (some 0)=none:=e
    rw[Nat.add_zero,e'] at h0
    exact h0 rfl
   obtain⟨n,rfl⟩:∃k,n=k+1:=⟨n - 1,by omega⟩
   exact zen f (SetTable.leap m p.1 p.2) (by unfold SetTable.leap;exact ldM (Nat.mod_lt _ (lc9 _))) ⟨n,by omega,e⟩
structure Ow (m k:Nat)(owner:Array (Option Nat)):Prop where
 sz:owner.size=m+1
 pm:(owner.toList.filterMap id).Perm (List.range k)
theorem Ow.free {k:Nat}{owner:Array (Option Nat)}(o:Ow m k owner)(hm:Msk m)(hk:k<=m)(h:Int):∃j,SetTable.layClean.free m owner (SetTable.turns m) (SetTable.bits h % (m+1)) (SetTable.bits h)=some j/\j<=m/\owner.getD j (some 0)=none:=by
 have hi:SetTable.bits h % (m+1)<=m:=ldM (Nat.mod_lt _ (lc9 _))
 have ex:∃j,j<=m/\owner.getD j (some 0)=none:=by
  refine lcw λz=>?_
  have all:∀x∈owner.toList,x.isSome=true:=λx hx=>by
   obtain⟨j,hj,e⟩:=ldi.mp hx
   have hj':j<owner.size:=by simpa using hj
   cases x with
   | some y=>rfl
   | none =>
    refine absurd ⟨j,by rw[o.sz] at hj';omega,?_⟩ z
    rw[Array.getD_eq_getD_getElem?,laS hj']
    simpa using e
  have hl:(owner.toList.filterMap id).length=owner.toList.length:=by
   have:∀l:List (Option Nat),(∀x∈l,x.isSome=true)->(l.filterMap id).length=l.length:=by
    intro l
    induction l with
    | nil=>intro _;rfl
    | cons x l ih =>
     intro hx
     have:=hx x lD
     cases x with
     | none=>cases this
     | some y =>
      show(y::l.filterMap id).length=_
      rw[laf,laf,ih λz hz=>hx z (lz _ hz)]
   exact this _ all
  have h1:=o.pm.length_eq
  rw[hl,lbA,lbw,o.sz] at h1
  omega
 obtain⟨j,j1,j2⟩:=ex
 obtain⟨n,n1,n2⟩:=zli hm hi (zh2 h) j1
 exact zen (SetTable.turns m) (SetTable.bits h % (m+1),SetTable.bits h) hi ⟨n,(by show n<m+15;omega),(by rw[n2];exact j2)⟩
end L2
namespace L2
open PySem PySem.W PyProof.Rows
abbrev TK (prog:Program)(w:World)(h:Heap)(k:List Key)(b:Addr):Prop:=(tupleKind (vA prog w)).is h k b/\∃x r,k=Sum.inr x::r
abbrev hsT (prog:Program)(w:World)(k:List Key):Int:=(tupleKind (vA prog w)).hash k
def Tab (m n:Nat):Prop:=(m=7/\n<=4)∨(m=31/\n<=18)∨(m=127/\n<=70)
structure StT (prog:Program)(w:World)(es:Array (Int×Value))(t:SetTable)(L:List (List Key×Addr)):Prop where
 pm:es.toList.Perm (L.map λq=>(hsT prog w q.1,Value.ref q.2))
 nd:(L.map (·.1)).Nodup
 fits:t.fits es.size=true
 led:t.led = !w.params.followText "set-order"
 plain:es.size=0∨t.plain=false
 dum:t.dummies = #[]
 tab:Tab t.mask es.size
theorem StT.size {prog:Program}{w:World}{es:Array (Int×Value)}{t:SetTable}{L:List (List Key×Addr)}(S:StT prog w es t L):es.size=L.length:=by
 have:=S.pm.length_eq
 simpa using this
end L2
set_option maxHeartbeats 3200000
namespace L2
open PySem PySem.Spec PyProof.Rows
variable {prog:Program}{w:World}
theorem TK.keep {h h':Heap}{k:List Key}{b:Addr}(q:TK prog w h k b)(e:∀o,h.get? b=some o->h'.get? b=some o):TK prog w h' k b:=by
 obtain⟨⟨o,items,n,g,r⟩,z⟩:=q
 exact⟨⟨o,items,n,e o g,r⟩,z⟩
theorem TK.lt {h:Heap}{k:List Key}{b:Addr}(q:TK prog w h k b):b<h.objs.size:=let ⟨⟨_,_,_,g,_⟩,_⟩:=q;lE g
theorem StT.sz {es:Array (Int×Value)}{t:SetTable}{L:List (List Key×Addr)}(S:StT prog w es t L):es.size<=sizeLine:=by
 have:=S.tab
 unfold Tab at this
 rw[lbg];omega
section
variable {prog:Program}{w:World}{A:Around}{E:qQ2}{s:Shared}
theorem StT.new:StT prog w #[] (.fresh 0 0 (!w.params.followText "set-order")) []:=⟨lbk _,lb8,rfl,rfl,.inl rfl,rfl,.inl ⟨rfl,lbq _⟩⟩
end
end L2
set_option maxHeartbeats 1000000
namespace L2
open PySem PySem.W PySem.Spec PyProof.Rows
theorem zpy {A:Around}{k:Nat}(hr:Room k A):A.units+20<cLine:=by have:=hr.un;omega
def zpR (P:Program)(w:World)(p:Addr)(L:List (List Key×Addr)):HO:=.ext λh=>∃es ep t,h.get? p=some (stO es ep t)/\StT P w es t L
end L2
namespace L2
open PySem PySem.Spec PyProof.Rows
end L2
namespace L2
open PySem PySem.W PySem.Spec PyProof.Rows
section
variable {prog:Program}{w:World}{A:Around}{E:qQ2}{s:Shared}
theorem zlQ {x y:Key}{p q:Value}{Q:qQ2}(o:znA x y=true)(rp:RelV (kV x) p)(rq:RelV (kV y) q)(h:Q (.bool (zgS x y)) s):wpAny (model prog w) A (richCompare .Lt p q) Q E s:=by
 cases x with
 | inl i =>
  cases y with
  | inl j =>
   obtain⟨t,rfl⟩:=rp
   obtain⟨u,rfl⟩:=rq
   exact lt_int h
  | inr j=>cases o
 | inr i =>
  cases y with
  | inl j=>cases o
  | inr j =>
   obtain⟨t,rfl⟩:=rp
   obtain⟨u,rfl⟩:=rq
   exact lt_str h
theorem zc4 {x y:List Key}{us vs:List Value}{a b:Addr}{oa ob:Obj}{na nb:Nat}{P:PySem.Fin->Shared->Prop}(rx:Vals (x.map kV) us)(ry:Vals (y.map kV) vs)(hoa:s.heap.get? a=some oa)(hda:oa.data=.seq us.toArray na)(hob:s.heap.get? b=some ob)(hcb:ob.cls=.type "tuple")(hdb:ob.data=.seq vs.toArray nb)(ok:ze0 x y=true)(h:P (.done (.ret (.bool (jo x y)))) s) :
  wpAny (model prog w) A (Builtin.«tuple.__lt__» ⟨[.ref a,.ref b],[]⟩) P E s:=by
 show wpAny _ _ (isInstance (.ref b) (.type "tuple") >>= _) _ _ s
 refine la (lb0 ⟨_,hob,hcb⟩ isSubtype_tuple_tuple ?_)
 simp only[lbb,lS,laU]
 refine la (wpAny_tupleItemsOf hoa hda ?_)
 refine la (wpAny_tupleItemsOf hob hdb ?_)
 refine la ?_
 refine wpAny_forIn_list _
  (λrest r s'=>r.1=none/\s'=s/\∃x' y' us' vs',rest=List.zip us' vs'/\Vals (x'.map kV) us'/\Vals (y'.map kV) vs'/\ze0 x' y'=true/\jo x' y'=jo x y/\(x'.length<y'.length↔x.length<y.length))
  _ ?_ ?_ _ _ ⟨rfl,rfl,x,y,us,vs,rfl,rx,ry,ok,rfl,Iff.rfl⟩
 ·rintro ⟨u,v⟩ rest r s' ⟨hr,rfl,x',y',us',vs',hz,hx',hy',hk,hdec,hlen⟩
  cases x' with
  | nil=>cases hx';simp at hz
  | cons k1 x'' =>
  cases y' with
  | nil=>cases hy';simp at hz
  | cons k2 y'' =>
  rw[lF] at hx' hy'
  cases hx' with
  | cons h1 hx'' =>
  cases hy' with
  | cons h2 hy'' =>
  simp only[lb4,ld6,Prod.mk.injEq] at hz
  obtain⟨⟨rfl,rfl⟩,rfl⟩:=hz
  unfold ze0 at hk
  rw[lM] at hk
  rw[show jo (k1::x'') (k2::y'')=if k1=k2 then jo x'' y'' else zgS k1 k2 from rfl] at hdec
  refine la (zkO hk.1 h1 h2 ?_)
  by_cases e:k1=k2
  ·rw[lX e]
   rw[lU e] at hdec
   simp only[lbb,lS,laU]
   exact lr ⟨rfl,rfl,x'',y'',_,_,rfl,hx'',hy'',hk.2,hdec,by simpa using hlen⟩
  ·rw[laa e]
   rw[lac e] at hdec
   simp only[laZ,lbx]
   rw[← hdec] at h
   exact la (lcZ (la (zlQ hk.1 h1 h2 (la (lr (lr (lr h)))))))
 ·rintro ⟨r1,r2⟩ s' ⟨hr,rfl,x',y',us',vs',hz,hx',hy',hk,hdec,hlen⟩
  simp only at hr
  subst hr
  refine lr ?_
  have lu:=rx.length
  have lv:=ry.length
  rw[lQ] at lu lv
  have hfin:decide (us.toArray.size<vs.toArray.size)=jo x y:=by
   rw[← hdec,lP,lP,← lu,← lv,ldW.mpr hlen.symm]
   cases x' with
   | nil =>
    cases y' with
    | nil=>rfl
    | cons _ _=>simp[jo]
   | cons _ _ =>
    cases y' with
    | nil=>simp[jo]
    | cons _ _=>cases hx';cases hy';simp at hz
  show P (.done (.ret (.bool (decide (us.toArray.size<vs.toArray.size))))) s'
  rw[hfin];exact h
def TupAt (h:Heap)(ks:List Key)(a:Addr):Prop:=∃us o n,Vals (ks.map kV) us/\h.get? a=some o/\o.cls=.type "tuple" /\ o.data=.seq us.toArray n
theorem zoj {x y:List Key}{a b:Addr}{Q:qQ2}(hu:A.units<cLine)(ha:TupAt s.heap x a)(hb:TupAt s.heap y b)(ok:ze0 x y=true)(h:Q (.bool (jo x y)) s):wpAny (model prog w) A (compareOp .Lt (.ref a) (.ref b)) Q E s:=by
 obtain⟨us,o,n,r,g,c,d⟩:=ha
 obtain⟨us',o',n',r',g',c',d'⟩:=hb
 exact wpAny_richCompare_same_room (op:=.Lt) ⟨_,g,c⟩ ⟨_,g',c'⟩ F.slot_tuple_lt (lad F.slot_tuple_lt ⟨_,g,c⟩ F.entry_tuple_lt (zc4 r r' g d g' c' d' ok ⟨_,rfl,(λe=>nomatch e),h⟩) (F.args_tuple_lt_2 _ _)) hu
end
end L2
namespace L2
open PySem PySem.Spec PyProof.Rows
end L2
namespace L2
open PySem PySem.W PySem.Spec PyProof.Rows
variable {σ:St}{pins:List (Addr×Obj)}{s:Shared}
def Cx.in1 (X:Cx):Cx:={X with A:=X.A.in1}
section
variable {X:Cx}{pins:List (Addr×Obj)}{σ:St}{H:Hp}{s:Shared}
theorem Cx.Ok.in1 (ok:X.Ok):X.in1.Ok:=⟨ok.mod,ok.kind,ok.glob,ok.blt,ok.above,ok.inj,ok.has,ok.cab,ok.hd,ok.frames,ok.stk,ok.exf,ok.bs,ok.bsz,ok.noex,ok.exfs,ok.funs,ok.frf⟩
theorem Inv.in1 (I:Inv X pins σ H s):Inv X.in1 pins σ H s:=⟨I.ok.in1,I.os,I.bare,I.base,I.loc,I.cell,I.free,I.freeC,I.pin,I.hok,I.len⟩
theorem Inv.unin1 (ok:X.Ok)(I:Inv X.in1 pins σ H s):Inv X pins σ H s:=⟨ok,I.os,I.bare,I.base,I.loc,I.cell,I.free,I.freeC,I.pin,I.hok,I.len⟩
end
structure Nx (X:Cx)(it:Addr)(xs:List V)(tn:Nat->Heap->Prop)(Sq:Hp->Prop):Prop where
 keep:∀i (h h':Heap),tn i h->(∀o,h.get? it=some o->h'.get? it=some o)->tn i h'
 obj:∀i (h:Heap),tn i h->∃o,h.get? it=some o/\∀v,o.data≠.cell v
 item:∀(i:Nat) (x:V) (pins:List (Addr×Obj)) (s:Shared) (σ:St) (H:Hp) (E:qQ2) (Q:Option Value->Shared->Prop),Inv X pins σ H s->zax X pins H it->tn i s.heap->Sq H->xs[i]? = some x ->
  (∀u h',RelV x u->(∀b o,b≠it->s.heap.get? b=some o->h'.get? b=some o)->Inv X pins σ H {s with heap:=h'}->tn (i+1) h'->Q (some u) {s with heap:=h'})->wpAny (model X.prog X.w) X.A (pyNext (.ref it)) Q E s
 done:∀(i:Nat) (pins:List (Addr×Obj)) (s:Shared) (σ:St) (H:Hp) (E:qQ2) (Q:Option Value->Shared->Prop),Inv X pins σ H s->zax X pins H it->tn i s.heap->Sq H->xs.length<=i ->
  (∀h',(∀b o,b≠it->s.heap.get? b=some o->h'.get? b=some o)->Inv X pins σ H {s with heap:=h'}->Q none {s with heap:=h'})->wpAny (model X.prog X.w) X.A (pyNext (.ref it)) Q E s
theorem zis {X:Cx}(hc:X.calm=true){a it:Addr}{xs:List V}:Nx X it xs (λi h=>h.IsListIter it a i) (λH=>SqL X.K H a xs) where
 keep:=λi h h' st k=>st.at λo e=>k o e
 obj:=λi h st=>by
  obtain⟨o,e,c,d⟩:=st
  exact⟨o,e,λv z=>by rw[d] at z;cases z⟩
 item:=λi x pins s σ H E Q I hf st hq hx h=>by
  obtain⟨its,rv,p,hz⟩:=I.list hq
  obtain⟨u,hu,ru⟩:=rv.get hx
  obtain⟨f0,f1,f2,f3,f4,f5⟩:=hf
  exact wpAny_pyNext_list_item st p.isList (x:=u) (by simpa using hu) λh' st' sb=>h u h' ru (λb o hb e=>(sb.2 b hb).trans e) (I.turned (t':=s.toks) (λb o hb e=>(sb.2 b hb).trans e) f0 f1 f3 f4 f5) st'
 done:=λi pins s σ H E Q I hf st hq hx h=>by
  obtain⟨its,rv,p,hz⟩:=I.list hq
  obtain⟨f0,f1,f2,f3,f4,f5⟩:=hf
  have hl:=rv.length
  exact wpAny_pyNext_list_end (I.ok.hd hc) st p.isList (by simp;omega) λh' eb=>h h' (λb o hb e=>eb b o hb e) (I.turned (t':=s.toks) (λb o hb e=>eb b o hb e) f0 f1 f3 f4 f5)
theorem zjN {X:Cx}(hc:X.calm=true){a it:Addr}{xs:List V}:Nx X it xs (λi h=>h.IsTupleIter it a i) (λH=>SqT X.K H a xs) where
 keep:=λi h h' st k=>st.at λo e=>k o e
 obj:=λi h st=>by
  obtain⟨o,e,c,d⟩:=st
  exact⟨o,e,λv z=>by rw[d] at z;cases z⟩
 item:=λi x pins s σ H E Q I hf st hq hx h=>by
  obtain⟨its,rv,p,hz⟩:=I.tuple hq
  obtain⟨u,hu,ru⟩:=rv.get hx
  obtain⟨f0,f1,f2,f3,f4,f5⟩:=hf
  exact wpAny_pyNext_tuple_item st p (x:=u) (by simpa using hu) λh' st' sb=>h u h' ru (λb o hb e=>(sb.2 b hb).trans e) (I.turned (t':=s.toks) (λb o hb e=>(sb.2 b hb).trans e) f0 f1 f3 f4 f5) st'
 done:=λi pins s σ H E Q I hf st hq hx h=>by
  obtain⟨its,rv,p,hz⟩:=I.tuple hq
  obtain⟨f0,f1,f2,f3,f4,f5⟩:=hf
  have hl:=rv.length
  exact wpAny_pyNext_tuple_end (I.ok.hd hc) st p (by simp;omega) λh' eb=>h h' (λb o hb e=>eb b o hb e) (I.turned (t':=s.toks) (λb o hb e=>eb b o hb e) f0 f1 f3 f4 f5)
def zbh (lt:Int->Int->Bool)(kq:V->Hp->VK->Prop)(Sq:Hp->Prop):V->Int->List V->Hp->VK->Prop
 | b,_,[],H,Q=>Q b H
 | b,k,x::r,H,Q=>kq x H λv H'=>∃k',v=.int k'/\Sq H'/\(if lt k' k=true then zbh lt kq Sq x k' r H' Q else zbh lt kq Sq b k r H' Q)
section
variable {X:Cx}{bp:List (Addr×Obj)}{it S q:Addr}{xs:List V}{tn:Nat->Heap->Prop}{Sq:Hp->Prop}{kq:V->Hp->VK->Prop}
def zgx (X:Cx)(bp:List (Addr×Obj))(σ:St)(q:Addr)(xs:List V)(kq:V->Hp->VK->Prop):Prop:=∀(x:V) (pins:List (Addr×Obj)) (s:Shared) (H:Hp) (u:Value) (Q:VK),(∀p∈bp,p∈pins)->x∈xs->Inv X.in1 pins σ H s->RelV x u->kq x H Q ->
 wpAny (model X.prog X.w) X.A.in1 (call (.ref q) [u]) (EP X.in1 pins σ Q) (λ_ _=>False) s
theorem za2 (N:Nx X.in1 it xs tn Sq)(key:zgx X bp σ q xs kq){i:Nat}{x:V}{u:Value}{oS:Obj}{H:Hp}{Q:VK}{R:qQ2}(hbp:∀p∈bp,p∈pins)(hx:x∈xs)(I:Inv X.in1 pins σ H s)(fI:zax X pins H it)(fS:zax X pins H S)
  (hS:s.heap.get? S=some oS) (hcS:∀v,oS.data≠.cell v) (st:tn i s.heap) (ru:RelV x u) (h:kq x H Q) (hR:∀v u' H' s',Inv X.in1 pins σ H' s'->zax X pins H' it->zax X pins H' S->s'.heap.get? S=some oS->tn i s'.heap->RelV v u'->Q v H'->R u' s') :
  wpAny (model X.prog X.w) X.A.in1 (call (.ref q) [u]) R (λ_ _=>False) s:=by
 obtain⟨oI,hI,hcI⟩:=N.obj i _ st
 have I1:=I.pinned (fp:=[it,S]) (λb hb=>by rcases lI.mp hb with rfl|hb;exact fI;rw[lR.mp hb];exact fS) (λb hb=>by
  rcases lI.mp hb with rfl|hb
  ·exact⟨oI,hI,hcI⟩
  ·rw[lR.mp hb];exact⟨oS,hS,hcS⟩)
 refine thn (key x _ s H u Q (λp hp=>lbL _ (hbp p hp)) hx I1 ru h) λu' s' hq38=>?_
 obtain⟨v,H',I2,rv,q2⟩:=hq38
 have pI:=I2.pin (it,oI) (lN _ (lN _ (vf (by simp) hI)))
 have pS:=I2.pin (S,oS) (lN _ (lN _ (vf (by simp) hS)))
 exact hR v u' H' s' I2.unpinned ⟨pI.2.1,fI.2⟩ ⟨pS.2.1,fS.2⟩ pS.1 (N.keep i _ _ st λo e=>by rw[hI] at e;cases e;exact pI.1) rv q2
theorem zjC (N:Nx X.in1 it xs tn Sq)(hne:S≠it)(key:zgx X bp σ q xs kq):∀(n i:Nat) (pins:List (Addr×Obj)) (s:Shared) (H:Hp) (b:V) (k:Int) (vb:Value) (tb:Tok) (c:Nat) (Q:VK) (R:Result->Shared->Prop),(∀p∈bp,p∈pins)->xs.length - i=n->Inv X.in1 pins σ H s->zax X pins H it->zax X pins H S ->
  s.heap.get? S=some (seqObj "list" #[vb,.int k tb] c)->tn i s.heap->Sq H->RelV b vb->zbh (λa b=>decide (a<b)) kq Sq b k (xs.drop i) H Q->(∀v u H' s',Inv X.in1 pins σ H' s'->RelV v u->Q v H'->R (.ok (.ret u)) s') ->
  codeAny (model X.prog X.w) X.A (.builtin "min.loop" ⟨[.ref it,.ref q,.ref S],[]⟩) R s:=by
 have hname:(toString "min" ++ toString ".loop" : String) = "min.loop" := by decide
 intro n
 induction n with
 | zero =>
  intro i pins s H b k vb tb c Q R hbp hn I fI fS hS st hq rb h hR
  rw[lav (by omega)] at h
  have h:Q b H:=h
  refine la9 lbv ?_
  rw[la4 lai _]
  show wpAny _ X.A.in1 (seqItems? (.ref S) >>= _) _ _ _
  refine la (lau hS rfl ?_)
  show wpAny _ X.A.in1 (tryCatch (pyNext (.ref it)) _ >>= _) _ _ _
  refine la (laT (N.done i pins s σ H _ _ I fI st hq (by omega) λh' k' I1=>?_))
  show wpAny _ X.A.in1 (updateSeq S (λ_=>#[]) >>= _) _ _ _
  refine la ?_
  refine lbG (k' S _ hne hS) rfl (la (lbh (lr ?_)))
  obtain⟨f0,f1,f2,f3,f4,f5⟩:=fS
  exact hR b vb H _ (I1.turned (t':=s.toks) (λb o hb e=>((lah h' S _).2 b hb).trans e) f0 f1 f3 f4 f5) rb h
 | succ n ih =>
  intro i pins s H b k vb tb c Q R hbp hn I fI fS hS st hq rb h hR
  have hi:i<xs.length:=by omega
  rw[laB hi] at h
  have hx:xs[i]? = some xs[i]:=lh hi
  have hm:=laD hi
  generalize xs[i]=x at h hx hm
  refine la9 lbv ?_
  rw[la4 lai _]
  show wpAny _ X.A.in1 (seqItems? (.ref S) >>= _) _ _ _
  refine la (lau hS rfl ?_)
  show wpAny _ X.A.in1 (tryCatch (pyNext (.ref it)) _ >>= _) _ _ _
  refine la (laT (N.item i x pins s σ H _ _ I fI st hq hx λu h' ru k' I1 st'=>?_))
  show wpAny _ X.A.in1 (tryCatch (holding [u] (call (.ref q) [u])) _ >>= _) _ _ _
  refine la (laT (lak (laF (za2 (i:=i+1) N key hbp hm I1 fI fS (k' S _ hne hS) (λv z=>nomatch z) st' ru h λv u' H2 s2 I2 fI2 fS2 hS2 st2 rv q2=>?_) (λ_ _ z=>z) λ_ _ z=>z.elim)))
  obtain⟨k2,rfl,hq2,h2⟩:=q2
  obtain⟨t2,rfl⟩:=rv
  show wpAny _ X.A.in1 (tryCatch (holding [u,.int k2 t2] (richCompare .Lt (.int k2 t2) (.int k tb) >>= _)) _ >>= _) _ _ _
  refine la (laT (lak (la (lt_int (a:=k2) (b:=k) ?_))))
  refine la (lak (laN ?_))
  refine la (lbh (lr ?_))
  by_cases hb:k2<k
  ·rw[lU (lX hb)] at h2
   simp only[hb,decide_true,lbx]
   obtain⟨c2,hc2⟩:∃c2,(s2.heap.update S (Obj.mapSeq λ_=>#[u,.int k2 t2])).get? S=some (seqObj "list" #[u,.int k2 t2] c2):=⟨_,lbV hS2 λ_=>#[u,.int k2 t2]⟩
   refine la ?_
   refine lbG hS2 rfl (la (lbh ?_))
   rw[hname]
   obtain⟨f0,f1,f2,f3,f4,f5⟩:=id fS2
   have sb:=lah s2.heap S (Obj.mapSeq λ_=>#[u,.int k2 t2])
   exact lr ⟨lbt lai _,ih (i+1) pins _ H2 x k2 u t2 c2 Q R hbp (by omega) (I2.turned (t':=s2.toks) (λb o hb e=>(sb.2 b hb).trans e) f0 f1 f3 f4 f5) fI2 fS2 hc2 (N.keep _ _ _ st2 λo e=>(sb.2 it hne.symm).trans e) hq2 ru h2 hR⟩
  ·rw[lac (by simpa using hb)] at h2
   simp only[hb,decide_false,lS,laU]
   refine la (lbh ?_)
   rw[hname]
   exact lr ⟨lbt lai _,ih (i+1) pins s2 H2 b k vb tb c Q R hbp (by omega) I2 fI2 fS2 hS2 st2 hq2 rb h2 hR⟩
theorem zi0 (ok:X.Ok){H:Hp}{v:Value}{oit:Obj}{x0:V}{r:List V}{Q:VK}(hit:∀(Q:qQ2) (E:qQ2),Q (.ref s.heap.objs.size) {s with heap:=s.heap.push oit}->wpAny (model X.prog X.w) X.A.in1 (pyIter v) Q E s)(N:Nx X.in1 s.heap.objs.size xs tn Sq)(key:zgx X bp σ q xs kq)(hbp:∀p∈bp,p∈pins)(ex:xs=x0::r)
  (I:Inv X pins σ H s) (st:tn 0 ((s.heap.push oit).push (seqObj "list" #[] 0))) (hq:Sq H) (h:kq x0 H λv H'=>∃k,v=.int k/\Sq H'/\zbh (λa b=>decide (a<b)) kq Sq x0 k r H' Q) :
  wpAny (model X.prog X.w) X.A (call (.builtin "min") [v] [(Str.ofString "key", .ref q)]) (EP X pins σ Q) X.xe s:=by
 have hname:(toString "min" ++ toString ".loop" : String) = "min.loop" := by decide
 refine kmk_tree PySem.F.kind_min PySem.F.plain_min PySem.F.entry_min (kmk_min_key _ _) ?_
 show wpAny _ X.A.in1 (Builtin.Builtins.bindParams "min" ["key", "default"] 0 ⟨[],[(Str.ofString "key", .ref q)]⟩ >>= _) _ _ s
 refine la (lc0 (show Builtin.Builtins.bindParams "min" ["key", "default"] 0 ⟨[],[(Str.ofString "key", .ref q)]⟩=pure [some (.ref q),none] from rfl) ?_)
 refine la (lr ?_)
 refine la (hit _ _ ?_)
 refine la (lcr ?_ (lbq _))
 rw[hname]
 have hSz:(s.heap.push oit).objs.size=s.heap.objs.size+1:=ldm ..
 have hne:(s.heap.push oit).objs.size≠s.heap.objs.size:=by rw[hSz];exact laJ (lcy _)
 have I0:Inv X.in1 pins σ H {s with heap:=(s.heap.push oit).push (seqObj "list" #[] 0)}:=I.in1.kept (t':=s.toks) λb o e=>lg _ (lg _ e)
 have fI:zax X pins H s.heap.objs.size:=I.fpOk (lB _) (I.hok.fresh (lB _))
 have fS:zax X pins H (s.heap.push oit).objs.size:=I.fpOk (by rw[hSz];omega) (I.hok.fresh (by rw[hSz];omega))
 have gS:((s.heap.push oit).push (seqObj "list" #[] 0)).get? (s.heap.push oit).objs.size=some (seqObj "list" #[] 0):=lC _ rfl
 have hx:xs[0]? = some x0:=by rw[ex];rfl
 have hm:x0∈xs:=by rw[ex];simp
 have hd:xs.drop 1=r:=by rw[ex];rfl
 refine lr ⟨lbt lai _,?_⟩
 refine la9 lbv ?_
 rw[la4 lai _]
 show wpAny _ X.A.in1 (seqItems? (.ref _) >>= _) _ _ _
 refine la (lau gS rfl ?_)
 show wpAny _ X.A.in1 (tryCatch (pyNext (.ref s.heap.objs.size)) _ >>= _) _ _ _
 refine la (laT (N.item 0 x0 pins _ σ H _ _ I0 fI st hq hx λu h' ru k' I1 st'=>?_))
 show wpAny _ X.A.in1 (tryCatch (holding [u] (call (.ref q) [u])) _ >>= _) _ _ _
 refine la (laT (lak (laF (za2 (i:=1) N key hbp hm I1 fI fS (k' _ _ hne gS) (λv z=>nomatch z) st' ru h λv u' H2 s2 I2 fI2 fS2 hS2 st2 rv q2=>?_) (λ_ _ z=>z) λ_ _ z=>z.elim)))
 obtain⟨k2,rfl,hq2,h2⟩:=q2
 obtain⟨t2,rfl⟩:=rv
 obtain⟨c2,hc2⟩:∃c2,(s2.heap.update (s.heap.push oit).objs.size (Obj.mapSeq λ_=>#[u,.int k2 t2])).get? (s.heap.push oit).objs.size=some (seqObj "list" #[u,.int k2 t2] c2):=⟨_,lbV hS2 λ_=>#[u,.int k2 t2]⟩
 show wpAny _ X.A.in1 (updateSeq (s.heap.push oit).objs.size (λ_=>#[u,.int k2 t2]) >>= _) _ _ _
 refine la ?_
 refine lbG hS2 rfl ?_
 rw[hname]
 obtain⟨f0,f1,f2,f3,f4,f5⟩:=id fS2
 have sb:=lah s2.heap (s.heap.push oit).objs.size (Obj.mapSeq λ_=>#[u,.int k2 t2])
 exact lr ⟨lbt lai _,zjC N hne key _ 1 pins _ H2 x0 k2 u t2 c2 Q _ hbp rfl (I2.turned (t':=s2.toks) (λb o hb e=>(sb.2 b hb).trans e) f0 f1 f3 f4 f5) fI2 fS2 hc2 (N.keep _ _ _ st2 λo e=>(sb.2 _ hne.symm).trans e) hq2 ru (by rw[hd];exact h2) λv u H' s' I3 rv q3=>⟨v,H',I3.unin1 ok,rv,q3⟩⟩
theorem zjX (N:Nx X.in1 it xs tn Sq)(hne:S≠it)(key:zgx X bp σ q xs kq):∀(n i:Nat) (pins:List (Addr×Obj)) (s:Shared) (H:Hp) (b:V) (k:Int) (vb:Value) (tb:Tok) (c:Nat) (Q:VK) (R:Result->Shared->Prop),(∀p∈bp,p∈pins)->xs.length - i=n->Inv X.in1 pins σ H s->zax X pins H it->zax X pins H S ->
  s.heap.get? S=some (seqObj "list" #[vb,.int k tb] c)->tn i s.heap->Sq H->RelV b vb->zbh (λa b=>decide (b<a)) kq Sq b k (xs.drop i) H Q->(∀v u H' s',Inv X.in1 pins σ H' s'->RelV v u->Q v H'->R (.ok (.ret u)) s') ->
  codeAny (model X.prog X.w) X.A (.builtin "max.loop" ⟨[.ref it,.ref q,.ref S],[]⟩) R s:=by
 have hname:(toString "max" ++ toString ".loop" : String) = "max.loop" := by decide
 intro n
 induction n with
 | zero =>
  intro i pins s H b k vb tb c Q R hbp hn I fI fS hS st hq rb h hR
  rw[lav (by omega)] at h
  have h:Q b H:=h
  refine la9 lcX ?_
  rw[la4 lbe _]
  show wpAny _ X.A.in1 (seqItems? (.ref S) >>= _) _ _ _
  refine la (lau hS rfl ?_)
  show wpAny _ X.A.in1 (tryCatch (pyNext (.ref it)) _ >>= _) _ _ _
  refine la (laT (N.done i pins s σ H _ _ I fI st hq (by omega) λh' k' I1=>?_))
  show wpAny _ X.A.in1 (updateSeq S (λ_=>#[]) >>= _) _ _ _
  refine la ?_
  refine lbG (k' S _ hne hS) rfl (la (lbh (lr ?_)))
  obtain⟨f0,f1,f2,f3,f4,f5⟩:=fS
  exact hR b vb H _ (I1.turned (t':=s.toks) (λb o hb e=>((lah h' S _).2 b hb).trans e) f0 f1 f3 f4 f5) rb h
 | succ n ih =>
  intro i pins s H b k vb tb c Q R hbp hn I fI fS hS st hq rb h hR
  have hi:i<xs.length:=by omega
  rw[laB hi] at h
  have hx:xs[i]? = some xs[i]:=lh hi
  have hm:=laD hi
  generalize xs[i]=x at h hx hm
  refine la9 lcX ?_
  rw[la4 lbe _]
  show wpAny _ X.A.in1 (seqItems? (.ref S) >>= _) _ _ _
  refine la (lau hS rfl ?_)
  show wpAny _ X.A.in1 (tryCatch (pyNext (.ref it)) _ >>= _) _ _ _
  refine la (laT (N.item i x pins s σ H _ _ I fI st hq hx λu h' ru k' I1 st'=>?_))
  show wpAny _ X.A.in1 (tryCatch (holding [u] (call (.ref q) [u])) _ >>= _) _ _ _
  refine la (laT (lak (laF (za2 (i:=i+1) N key hbp hm I1 fI fS (k' S _ hne hS) (λv z=>nomatch z) st' ru h λv u' H2 s2 I2 fI2 fS2 hS2 st2 rv q2=>?_) (λ_ _ z=>z) λ_ _ z=>z.elim)))
  obtain⟨k2,rfl,hq2,h2⟩:=q2
  obtain⟨t2,rfl⟩:=rv
  show wpAny _ X.A.in1 (tryCatch (holding [u,.int k2 t2] (richCompare .Gt (.int k2 t2) (.int k tb) >>= _)) _ >>= _) _ _ _
  refine la (laT (lak (la (gt_int (a:=k2) (b:=k) ?_))))
  refine la (lak (laN ?_))
  refine la (lbh (lr ?_))
  by_cases hb:k<k2
  ·rw[lU (lX hb)] at h2
   simp only[hb,decide_true,lbx]
   obtain⟨c2,hc2⟩:∃c2,(s2.heap.update S (Obj.mapSeq λ_=>#[u,.int k2 t2])).get? S=some (seqObj "list" #[u,.int k2 t2] c2):=⟨_,lbV hS2 λ_=>#[u,.int k2 t2]⟩
   refine la ?_
   refine lbG hS2 rfl (la (lbh ?_))
   rw[hname]
   obtain⟨f0,f1,f2,f3,f4,f5⟩:=id fS2
   have sb:=lah s2.heap S (Obj.mapSeq λ_=>#[u,.int k2 t2])
   exact lr ⟨lbt lbe _,ih (i+1) pins _ H2 x k2 u t2 c2 Q R hbp (by omega) (I2.turned (t':=s2.toks) (λb o hb e=>(sb.2 b hb).trans e) f0 f1 f3 f4 f5) fI2 fS2 hc2 (N.keep _ _ _ st2 λo e=>(sb.2 it hne.symm).trans e) hq2 ru h2 hR⟩
  ·rw[lac (by simpa using hb)] at h2
   simp only[hb,decide_false,lS,laU]
   refine la (lbh ?_)
   rw[hname]
   exact lr ⟨lbt lbe _,ih (i+1) pins s2 H2 b k vb tb c Q R hbp (by omega) I2 fI2 fS2 hS2 st2 hq2 rb h2 hR⟩
theorem zi2 (ok:X.Ok){H:Hp}{v:Value}{oit:Obj}{x0:V}{r:List V}{Q:VK}(hit:∀(Q:qQ2) (E:qQ2),Q (.ref s.heap.objs.size) {s with heap:=s.heap.push oit}->wpAny (model X.prog X.w) X.A.in1 (pyIter v) Q E s)(N:Nx X.in1 s.heap.objs.size xs tn Sq)(key:zgx X bp σ q xs kq)(hbp:∀p∈bp,p∈pins)(ex:xs=x0::r)
  (I:Inv X pins σ H s) (st:tn 0 ((s.heap.push oit).push (seqObj "list" #[] 0))) (hq:Sq H) (h:kq x0 H λv H'=>∃k,v=.int k/\Sq H'/\zbh (λa b=>decide (b<a)) kq Sq x0 k r H' Q) :
  wpAny (model X.prog X.w) X.A (call (.builtin "max") [v] [(Str.ofString "key", .ref q)]) (EP X pins σ Q) X.xe s:=by
 have hname:(toString "max" ++ toString ".loop" : String) = "max.loop" := by decide
 refine kmk_tree PySem.F.kind_max PySem.F.plain_max PySem.F.entry_max (kmk_max_key _ _) ?_
 show wpAny _ X.A.in1 (Builtin.Builtins.bindParams "max" ["key", "default"] 0 ⟨[],[(Str.ofString "key", .ref q)]⟩ >>= _) _ _ s
 refine la (lc0 (show Builtin.Builtins.bindParams "max" ["key", "default"] 0 ⟨[],[(Str.ofString "key", .ref q)]⟩=pure [some (.ref q),none] from rfl) ?_)
 refine la (lr ?_)
 refine la (hit _ _ ?_)
 refine la (lcr ?_ (lbq _))
 rw[hname]
 have hSz:(s.heap.push oit).objs.size=s.heap.objs.size+1:=ldm ..
 have hne:(s.heap.push oit).objs.size≠s.heap.objs.size:=by rw[hSz];exact laJ (lcy _)
 have I0:Inv X.in1 pins σ H {s with heap:=(s.heap.push oit).push (seqObj "list" #[] 0)}:=I.in1.kept (t':=s.toks) λb o e=>lg _ (lg _ e)
 have fI:zax X pins H s.heap.objs.size:=I.fpOk (lB _) (I.hok.fresh (lB _))
 have fS:zax X pins H (s.heap.push oit).objs.size:=I.fpOk (by rw[hSz];omega) (I.hok.fresh (by rw[hSz];omega))
 have gS:((s.heap.push oit).push (seqObj "list" #[] 0)).get? (s.heap.push oit).objs.size=some (seqObj "list" #[] 0):=lC _ rfl
 have hx:xs[0]? = some x0:=by rw[ex];rfl
 have hm:x0∈xs:=by rw[ex];simp
 have hd:xs.drop 1=r:=by rw[ex];rfl
 refine lr ⟨lbt lbe _,?_⟩
 refine la9 lcX ?_
 rw[la4 lbe _]
 show wpAny _ X.A.in1 (seqItems? (.ref _) >>= _) _ _ _
 refine la (lau gS rfl ?_)
 show wpAny _ X.A.in1 (tryCatch (pyNext (.ref s.heap.objs.size)) _ >>= _) _ _ _
 refine la (laT (N.item 0 x0 pins _ σ H _ _ I0 fI st hq hx λu h' ru k' I1 st'=>?_))
 show wpAny _ X.A.in1 (tryCatch (holding [u] (call (.ref q) [u])) _ >>= _) _ _ _
 refine la (laT (lak (laF (za2 (i:=1) N key hbp hm I1 fI fS (k' _ _ hne gS) (λv z=>nomatch z) st' ru h λv u' H2 s2 I2 fI2 fS2 hS2 st2 rv q2=>?_) (λ_ _ z=>z) λ_ _ z=>z.elim)))
 obtain⟨k2,rfl,hq2,h2⟩:=q2
 obtain⟨t2,rfl⟩:=rv
 obtain⟨c2,hc2⟩:∃c2,(s2.heap.update (s.heap.push oit).objs.size (Obj.mapSeq λ_=>#[u,.int k2 t2])).get? (s.heap.push oit).objs.size=some (seqObj "list" #[u,.int k2 t2] c2):=⟨_,lbV hS2 λ_=>#[u,.int k2 t2]⟩
 show wpAny _ X.A.in1 (updateSeq (s.heap.push oit).objs.size (λ_=>#[u,.int k2 t2]) >>= _) _ _ _
 refine la ?_
 refine lbG hS2 rfl ?_
 rw[hname]
 obtain⟨f0,f1,f2,f3,f4,f5⟩:=id fS2
 have sb:=lah s2.heap (s.heap.push oit).objs.size (Obj.mapSeq λ_=>#[u,.int k2 t2])
 exact lr ⟨lbt lbe _,zjX N hne key _ 1 pins _ H2 x0 k2 u t2 c2 Q _ hbp rfl (I2.turned (t':=s2.toks) (λb o hb e=>(sb.2 b hb).trans e) f0 f1 f3 f4 f5) fI2 fS2 hc2 (N.keep _ _ _ st2 λo e=>(sb.2 _ hne.symm).trans e) hq2 ru (by rw[hd];exact h2) λv u H' s' I3 rv q3=>⟨v,H',I3.unin1 ok,rv,q3⟩⟩
end
end L2
namespace L2
open PySem PySem.W PySem.Spec PySem.Calls PyProof.Rows
variable {f P c a:Addr}{params:Arguments}{q x:Str}{σ:St}{k:Nat}{H F:Hp}{ds:List D}{S:Addr->List V->Hp->Prop}{L:List (Addr×Str)}{mg mb:qQ3}{ps loose:List Str}{fd:FuncData}{cl:Nat->Addr}
theorem zaI {a b c:Value}(ha:∃i t,a=.int i t)(hb:∃i t,b=.int i t):∀{l:List Value},TriplesOk l->TriplesOk (l++[a,b,c])
 | [],_=>by obtain⟨i,t,rfl⟩:=ha;obtain⟨j,u,rfl⟩:=hb;trivial
 | .int _ _ :: .int _ _::_::r,h=>zaI ha hb (l:=r) h
theorem zcr {pos':Pos}{a b c cv:Value}(ha:∃i t,a=.int i t)(hb:∃i t,b=.int i t):∀{l:List Value},TriplesOk l->codeAmong pos' (l++[a,b,c])=some cv->codeAmong pos' l=some cv∨cv=c
 | [],_,h=>by
  obtain⟨i,t,rfl⟩:=ha
  obtain⟨j,u,rfl⟩:=hb
  have h':(if (i == pos'.line&&j == pos'.col)=true then some c else codeAmong pos' [])=some cv:=h
  split at h'
  ·exact .inr (lq h').symm
  ·cases h'
 | .int i _ :: .int j _::d::r,ht,h=>by
  have h':(if (i == pos'.line&&j == pos'.col)=true then some d else codeAmong pos' (r++[a,b,c]))=some cv:=h
  show(if (i == pos'.line&&j == pos'.col)=true then some d else codeAmong pos' r)=some cv∨_
  split at h'
  ·rename_i z;rw[lU z];exact .inl h'
  ·rename_i z;rw[lac z];exact zcr ha hb (l:=r) ht h'
section
variable {X:Cx}{pins:List (Addr×Obj)}{σ:St}{H:Hp}{s:Shared}
theorem Inv.pin1 {o:Obj}(I:Inv X pins σ H s)(hf:s.heap.get? f=some o)(hn:H f=none)(h1:f≠X.env.locals)(h2:f∉X.fs)(h3:∀v,o.data≠.cell v):Inv X ((f,o)::pins) σ H s :=
 I.pins_of λp hp=>by
  rcases lI.mp hp with rfl|hp
  ·exact⟨hf,hn,h1,h2,h3⟩
  ·exact I.pin p (lN _ hp)
def zn3 (X:Cx):Prop:=∃bm o,X.mg "__builtins__" = some (.ref bm)/\bm≠builtinsNs/\bm≠mainGlobals/\X.base.get? bm=some o/\o.cls=.type "module" /\ o.dict=some builtinsNs/\o.data=.plain
theorem zga {body:Expr}{scope:Scope}{pos:Pos}{clos:List (Str×Addr)}{R:qQ2}{E:qQ2}(I:Inv X pins σ H s)(hP:H P=some (.lam q))(hq:X.env.qual ++ "<lambda>" = q)(hcode:X.env.code=.ref c)(C:CodeHd X.base c P)(hcl:closureFor scope X.env=pure clos)(hB:zn3 X)(hdef:defaultsOf params X.env=([],[]))
  (h:∀f c' ctv H' s',Inv X ((f,kla_obj "<lambda>" q params body scope clos ((X.mg "__name__").getD .none) c' ctv)::pins) σ H' s'->(H'=H∨H c'=none/\H'=upd H c' (.cod q))->H' c'=some (.cod q)->R (.ref f) s') :
  wpAny (model X.prog X.w) X.A (eval (.Lambda params body scope pos) X.env) R E s:=by
 subst hq
 obtain⟨qs,eP,tr,cs⟩:=(show ObjOk X.prog X.w H s.heap P (.lam _) from I.hok P _ hP)
 have nP:∀b o,X.base.get? b=some o->b≠P:=λb o e z=>by
  have:=(I.bs b o e).2
  rw[z,hP] at this;cases this
 obtain⟨bm,ob,b1,b2,b3,b4,b5⟩:=hB
 have bA:s.heap.BuiltinsAt X.mg P:=⟨bm,ob,b1,b2,b3,nP bm ob b4,I.bk bm ob b4,b5⟩
 have gl:=I.ok.mod.glob.keeps I.bk
 have gP:mainGlobals≠P:=by
  obtain⟨o,es,ep,e,_⟩:=I.ok.mod.glob
  exact nP _ _ e
 have lL:=I.lt
 refine kla_eval hdef ?_
 cases hf:codeAmong pos qs.toList with
 | none =>
  refine kla_makeFunction (mg:=X.mg) hcl I.ok.glob gl hcode (C.keeps I.bk) eP tr hf gP bA λc' ctv h' tk hx hge hlt hrec htb=>?_
  have hc':H c'=none:=I.hok.fresh hge
  have sz:s.heap.objs.size<=h'.objs.size:=lar hge (lds hlt)
  have nc:∀b o,H b=some o->b≠c':=λb o e z=>by rw[z,hc'] at e;cases e
  have cne:c'≠P:=λz=>nc P _ hP z.symm
  have pu:∀{b:Addr}{o:Obj}{n:Obj},h'.get? b=some o->(h'.push n).get? b=some o:=λe=>lg _ e
  have un:Un X.fs [] H (upd H c' (.cod (X.env.qual ++ "<lambda>"))) s.heap (h'.push (kla_obj "<lambda>" (X.env.qual ++ "<lambda>") params body scope clos ((X.mg "__name__").getD .none) c' ctv)):=by
   have kp:∀b o,s.heap.get? b=some o->H b=none->(h'.push (kla_obj "<lambda>" (X.env.qual ++ "<lambda>") params body scope clos ((X.mg "__name__").getD .none) c' ctv)).get? b=some o:=λb o e n=>pu (hx b o (λz=>by rw[z,hP] at n;cases n) e)
   refine⟨λb o e n _ _=>kp b o e n,λb o e n _ _=>⟨o.slots,kp b o e n⟩,λb o e n _=>?_,λb o e _=>?_,λb xs e=>?_,λb o u e=>?_,λb ps e=>⟨#[],?_⟩⟩
   ·rw[zO (lab (lK (lE e) hge))];exact n
   ·by_cases z:b=P
    ·subst z;exact⟨_,pu htb⟩
    ·exact⟨o,pu (hx b o z e)⟩
   ·rw[zO (nc b _ e)];exact e
   ·rw[zO (nc b _ e)];exact e
   ·rw[zO (nc b _ e),e];simp
  have ok:HOk X.prog X.w (upd H c' (.cod (X.env.qual ++ "<lambda>"))) (h'.push (kla_obj "<lambda>" (X.env.qual ++ "<lambda>") params body scope clos ((X.mg "__name__").getD .none) c' ctv)):=λb o e=>by
   by_cases zc:b=c'
   ·subst zc
    rw[zV] at e
    cases e
    exact hrec.push _
   ·rw [zO zc] at e
    by_cases zP:b=P
    ·subst zP
     rw[hP] at e
     cases e
     refine⟨_,pu htb,?_,λpos' cv z=>?_⟩
     ·rw[Array.toList_append];exact zaI ⟨_,_,rfl⟩ ⟨_,_,rfl⟩ tr
     ·rw [Array.toList_append] at z
      rcases zcr ⟨_,_,rfl⟩ ⟨_,_,rfl⟩ tr z with z|rfl
      ·obtain⟨d,e1,e2⟩:=cs pos' cv z
       exact⟨d,e1,by rw[zO (nc d _ e2)];exact e2⟩
      ·exact⟨c',rfl,zV⟩
    ·refine(I.hok b o e).stay (λd u hd r=>pu (hx d u ?_ r)) (λd r=>by rw[zO (nc d _ r)];exact r) λd xs r=>by rw[zO (nc d _ r)];exact r
     rcases hd with rfl|hd
     ·exact zP
     ·rintro rfl;rw[hP] at hd;cases hd
  have I1:=I.un (t':=tk) un ok
  have fN:upd H c' (.cod (X.env.qual ++ "<lambda>")) h'.objs.size=none:=by rw[zO (laJ hlt)];exact I.hok.fresh sz
  exact h h'.objs.size c' ctv _ _ (I1.pin1 (lC _ rfl) fN (laJ (lK lL sz)) (I.nofs sz) λv z=>nomatch z) (.inr ⟨hc',rfl⟩) zV
 | some cv =>
  obtain⟨c',rfl,hc'⟩:=cs pos cv hf
  refine kla_makeFunctionHit (mg:=X.mg) hcl I.ok.glob gl hcode (C.keeps I.bk) eP tr hf bA λctv h' tk hk hsz=>?_
  have I1:Inv X pins σ H {s with heap:=h'.push (kla_obj "<lambda>" (X.env.qual ++ "<lambda>") params body scope clos ((X.mg "__name__").getD .none) c' ctv),toks:=tk}:=I.kept (t':=tk) λb o e=>lg _ (hk b o e)
  exact h h'.objs.size c' ctv H _ (I1.pin1 (lC _ rfl) (I.hok.fresh hsz) (laJ (lK lL hsz)) (I.nofs hsz) λv z=>nomatch z) (.inl rfl) hc'
end
def zgs (X:Cx)(q:Str)(scope:Scope)(f c':Addr)(p:Str)(caps:List Nat)(s:Shared)(H:Hp):Cx where
 prog:=X.prog
 w:=X.w
 K:=X.K
 mg:=X.mg
 base:=X.base
 A:=X.A.deeper (envX q scope s.heap.objs.size f (.ref c') (wF scope X.env))
 N:=zmz X [p] caps
 s₀:=s
 H₀:=H
 env:=envX q scope s.heap.objs.size f (.ref c') (wF scope X.env)
 outer:=X.stack
 stack:=envX q scope s.heap.objs.size f (.ref c') (wF scope X.env)::X.stack
 ex:=[]
 calm:=true
 fn:=λ_=>false
 pn:=[]
 xe:=λ_ _=>False
section
variable {X:Cx}{pins:List (Addr×Obj)}{σ:St}{H:Hp}{s:Shared}{q p:Str}{scope:Scope}{f c':Addr}{caps:List Nat}{x:V}{u:Value}
theorem zms {h₁:Heap}{tk:Nat}(I:Inv X pins σ H s)(ok:CompOk X scope caps)(hp:scope.names.lookup p=some .local)(nc:∀y∈scope.names,y.2≠.cell)(hh:X.A.handled=none)(ru:RelV x u)(hns:h₁.Ns s.heap.objs.size (λy=>[(p,u)].reverse.lookup y))(hk:∀b o,s.heap.get? b=some o->h₁.get? b=some o) :
  Inv (zgs X q scope f c' p caps s H) [] (some x::caps.map λi=>(σ[i]?).getD none) H {s with heap:=h₁,toks:=tk}:=by
 have hcl:=ok.cells I
 have clin:∀y c,(wF scope X.env).lookup y=some c->X.env.cells.lookup y=some c:=λy c e=>(zar hcl (y,c) (lag e)).1
 have noA:∀b:Addr,b∉(zgs X q scope f c' p caps s H).ex:=λb z=>absurd (show b∈([]:List Addr) from z) (by simp)
 refine ⟨⟨I.ok.mod,ok.kind,rfl,rfl,lB _,λy z c h1 h2=>I.ok.inj y z c (clin y c h1) (clin z c h2),λy hy=>?_,λy c z _=>(by cases z),λ_=>hh,Around.frames_deeper I.ok.frames,.inr ⟨rfl,rfl⟩,λb z=>absurd z (noA b),I.bs,lar I.ok.bsz I.sz,λb _ _=>noA b,λb z=>absurd z (noA b),I.stack,I.stkFree⟩,
  rfl,I.bare,Un.kept hk,⟨_,hns,λi y v h1 h2 h3=>?_⟩,λy c h=>?_,I.hok.fresh (lB _),λy c h=>I.freeC y c (clin y c h),λp hp=>absurd (show p∈([]:List (Addr×Obj)) from hp) (by simp),I.hok.kept hk,?_⟩
 ·have hy:scope.names.lookup y=some .cell∨scope.names.lookup y=some .free:=hy
  rcases hy with hy|hy
  ·exact absurd rfl (nc _ (lag hy))
  ·exact jb (lag hy)
 ·cases i with
  | zero =>
   cases h1
   cases h2
   exact⟨u,ru,.inl ⟨hp,by simp⟩⟩
  | succ i =>
   have h1:(caps.map λi=>X.N.getD i Str.empty)[i]? = some y:=h1
   have h2:(caps.map λi=>(σ[i]?).getD none)[i]? = some (some v):=h2
   rw[lJ] at h1 h2
   cases e:caps[i]? with
   | none=>rw[e] at h1;cases h1
   | some j =>
    rw[e] at h1 h2
    obtain⟨y',n1,n2⟩:=ok.caps j (laL e)
    have ey:y=y':=by
     have:=lq h1
     rw[← this]
     show X.N.getD j Str.empty=_
     rw[ly,n1];rfl
    subst ey
    have es:σ[j]? = some (some v):=by
     have this:(σ[j]?).getD none=some v:=lq h2
     cases q:σ[j]? with
     | none=>rw[q] at this;cases this
     | some o=>rw[q] at this;rw[show o=some v from this]
    have kf:=ok.free (y,.free) (lag n2) rfl
    obtain⟨m,_,lk⟩:=I.loc
    obtain⟨u',r',L⟩:=lk j y v n1 es (by rcases kf with k|k;exact .inr (.inl k);exact .inr (.inr k))
    refine⟨u',r',.inr ⟨.inr n2,?_⟩⟩
    rcases L with⟨k,_⟩|⟨_,c,e1,e2⟩
    ·rcases kf with z|z <;>(rw[show X.env.kindOf y=_ from k] at z;cases z)
    ·obtain⟨c2,e3⟩:=jb (env:=X.env) (lag n2)
     have:=clin y c2 e3
     rw[e1] at this
     cases this
     exact⟨c,e3,e2.keeps hk⟩
 ·obtain⟨v,e⟩:=I.cell y c (clin y c h)
  exact⟨v,e.keeps hk⟩
 ·show(some x::caps.map _).length=(zmz X [p] caps).length
  unfold zmz
  rw[laf,lae,lQ,lQ];show _=1+_;omega
theorem zjT {body:Expr}{pm ctv:Value}{te:TE}{Q:VK}(I:Inv X pins σ H s)(hf:(f,kla_obj "<lambda>" q params body scope (wF scope X.env) pm c' ctv)∈pins)(hc:H c'=some (.cod q))(ok:CompOk X scope caps)(hp:scope.names.lookup p=some .local)(nc:∀y∈scope.names,y.2≠.cell)(hh:X.A.handled=none)(hroom:X.A.depth<recursionLimit)
  (hbind:bindArgs (kla_fn "<lambda>" q params body scope (wF scope X.env) pm (.ref c') ctv) ⟨[u],[]⟩=pure [(p,u)]) (hco:scope.isCoroutine=false) (hgen:scope.isGenerator=false) (ru:RelV x u) (hb:PE (zgs X q scope f c' p caps s H) body te) (h:te (some x::caps.map λi=>(σ[i]?).getD none) H Q) :
  wpAny (model X.prog X.w) X.A (call (.ref f) [u]) (EP X pins σ Q) (λ_ _=>False) s:=by
 have pf:=I.pin _ (lN _ hf)
 have hcd:s.heap.CodeRec (.ref c') q:=(show ObjOk X.prog X.w H s.heap c' (.cod q) from I.hok c' _ hc)
 refine wpAny_call (kla_callFunE hroom pf.1 rfl hco hgen rfl hcd ?_)
 rw[hbind]
 refine lr (wpAny_newFunctionEnv nc (λy hy=>by rw[lR.mp hy];exact hp) (λh₁ hns hsb=>⟨?_,?_⟩) ok.kind)
 ·exact I.nolimit.fresh _ hsb
 ·show codeAny _ _ (.expr body (envX q scope s.heap.objs.size f (.ref c') (wF scope X.env))) _ _
  have hk₁:∀b o,s.heap.get? b=some o->h₁.get? b=some o:=λb o e=>hsb.extBut b o (lab (lE e)) (lg _ e)
  have I1:=zms (q:=q) (f:=f) (c':=c') (tk:=s.toks+1) I ok hp nc hh ru hns hk₁
  refine kla_codeExpr (laF (hb [] _ _ H Q I1 h) (λv s' ⟨y,H',I2,rv,q2⟩=>?_) λ_ _ z=>z.elim)
  exact I.after ⟨y,H',I2.os,I2.bare,I2.base,I2.hok,rv,q2⟩
end
def kqL (kb:TE)(caps:List Nat)(q:Str)(σ:St)(c':Addr):V->Hp->VK->Prop:=λx H Q=>H c'=some (.cod q)/\kb (some x::caps.map λi=>(σ[i]?).getD none) H Q
def zpw (Sq:Addr->List V->Hp->Prop)(lt:Int->Int->Bool)(ta:TA)(kb:TE)(caps:List Nat)(P:Addr)(q:Str):TE:=λσ H Q=>ta σ H λvs H1=>∃a x0 r,vs=[.ref a]/\Sq a (x0::r) H1/\H1 P=some (.lam q)/\∀c' H2,(H2=H1∨H1 c'=none/\H2=upd H1 c' (.cod q))->H2 c'=some (.cod q) ->
 Sq a (x0::r) H2/\kqL kb caps q σ c' x0 H2 λv H'=>∃k,v=.int k/\Sq a (x0::r) H'/\zbh lt (kqL kb caps q σ c') (Sq a (x0::r)) x0 k r H' Q
section
variable {X:Cx}{e body:Expr}{ta:TA}{kb:TE}{scope:Scope}{params:Arguments}{np lpos pos:Pos}{caps:List Nat}{P c:Addr}{q p:Str}
structure LamIn (X:Cx)(params:Arguments)(body:Expr)(scope:Scope)(caps:List Nat)(p q:Str)(P:Addr)(kb:TE):Prop where
 ok:CompOk X scope caps
 par:scope.names.lookup p=some .local
 ncell:∀y∈scope.names,y.2≠.cell
 co:scope.isCoroutine=false
 gen:scope.isGenerator=false
 qual:X.env.qual ++ "<lambda>" = q
 code:∃c,X.env.code=.ref c/\CodeHd X.base c P
 blt:zn3 X
 dflt:defaultsOf params X.env=([],[])
 bind:∀(cl:List (Str×Addr)) (pm cd ct u:Value),bindArgs (kla_fn "<lambda>" q params body scope cl pm cd ct) ⟨[u],[]⟩=pure [(p,u)]
 room:X.A.in1.depth<recursionLimit
 body:∀(f c':Addr) (s:Shared) (H:Hp),PE (zgs X.in1 q scope f c' p caps s H) body kb
theorem LamIn.key {xs:List V}{c':Addr}{pm ctv:Value}(L:LamIn X params body scope caps p q P kb)(hd:X.A.handled=none) :
  zgx X [(f,kla_obj "<lambda>" q params body scope (wF scope X.env) pm c' ctv)] σ f xs (kqL kb caps q σ c') :=
 λx pins s H u Q hb _ I ru h=>zjT (X:=X.in1) (pm:=pm) (ctv:=ctv) I (hb _ lD) h.1 ⟨L.ok.kind,L.ok.ncell,L.ok.locs,L.ok.free,L.ok.caps⟩ L.par L.ncell hd L.room (L.bind _ _ _ _ _) L.co L.gen ru (L.body f c' s H) h.2
theorem zl5 (L:LamIn X params body scope caps p q P kb)(hc:X.calm=true)(hg:Gl X "min")(hm:X.mg "min" = none)(ha:PA X [e] ta){kp:Pos}(hst:starEach [e] X.env=(false,eval e X.env)::starEach [] X.env:=by rfl) :
  PE X (.Call (.Name "min" np) [e] [⟨some "key", .Lambda params body scope lpos,kp⟩] pos) (zpw (λa xs H=>SqL X.K H a xs) (λa b=>decide (a<b)) ta kb caps P q):=by
 intro pins s σ H Q I h
 have hd:=I.ok.hd hc
 obtain⟨c,hcode,C⟩:=L.code
 refine lbl (zaO I hg hm boot_min ?_ (by decide) (by decide))
 refine callWith_kw (thn (ha pos pins s σ H _ I h) λus s1 hq39=>?_) (by rw[hst];rfl) (by rw[hst];rfl)
 obtain⟨vs,H1,I1,r1,a,x0,r,ev,sq,hP,k⟩:=hq39
 subst ev
 obtain⟨u,rfl,ru⟩:=vals1 r1
 cases ru
 refine kws_cons ?_
 refine zga I1 hP L.qual hcode C (uW (L.ok.cells I1)) L.blt L.dflt λf c' ctv H2 s2 I2 hH hcd=>kws_nil ?_
 obtain⟨sq2,k0⟩:=k c' H2 hH hcd
 obtain⟨its,rv,pl,hz⟩:=I2.list sq2
 have I3:=zi0 (X:=X) (bp:=[(f,kla_obj "<lambda>" q params body scope (wF scope X.env) ((X.mg "__name__").getD .none) c' ctv)]) (v:=.ref a) (oit:={cls:=.type "list_iterator", data:=.fields #[.ref a,.int 0 0]}) I2.ok (λQ E hQ=>lca pl.isList hQ) (zis (X:=X.in1) hc (a:=a)) (L.key hd) (λz hz=>by rw[lR.mp hz];exact lD) rfl I2 ⟨_,lg _ (lC _ rfl),rfl,rfl⟩ sq2 k0
 exact thn I3 λu s' ⟨v,H',I4,rv,qv⟩=>⟨v,H',I4.pins_of λz hz=>I4.pin z (lN _ (lz _ hz)),rv,qv⟩
theorem zk0 (L:LamIn X params body scope caps p q P kb)(hc:X.calm=true)(hg:Gl X "max")(hm:X.mg "max" = none)(ha:PA X [e] ta){kp:Pos}(hst:starEach [e] X.env=(false,eval e X.env)::starEach [] X.env:=by rfl) :
  PE X (.Call (.Name "max" np) [e] [⟨some "key", .Lambda params body scope lpos,kp⟩] pos) (zpw (λa xs H=>SqT X.K H a xs) (λa b=>decide (b<a)) ta kb caps P q):=by
 intro pins s σ H Q I h
 have hd:=I.ok.hd hc
 obtain⟨c,hcode,C⟩:=L.code
 refine lbl (zaO I hg hm boot_max ?_ (by decide) (by decide))
 refine callWith_kw (thn (ha pos pins s σ H _ I h) λus s1 hq40=>?_) (by rw[hst];rfl) (by rw[hst];rfl)
 obtain⟨vs,H1,I1,r1,a,x0,r,ev,sq,hP,k⟩:=hq40
 subst ev
 obtain⟨u,rfl,ru⟩:=vals1 r1
 cases ru
 refine kws_cons ?_
 refine zga I1 hP L.qual hcode C (uW (L.ok.cells I1)) L.blt L.dflt λf c' ctv H2 s2 I2 hH hcd=>kws_nil ?_
 obtain⟨sq2,k0⟩:=k c' H2 hH hcd
 obtain⟨its,rv,pl,hz⟩:=I2.tuple sq2
 have I3:=zi2 (X:=X) (bp:=[(f,kla_obj "<lambda>" q params body scope (wF scope X.env) ((X.mg "__name__").getD .none) c' ctv)]) (v:=.ref a) (oit:={cls:=.type "tuple_iterator", data:=.fields #[.ref a,.int 0 0]}) I2.ok (λQ E hQ=>ldt pl hQ) (zjN (X:=X.in1) hc (a:=a)) (L.key hd) (λz hz=>by rw[lR.mp hz];exact lD) rfl I2 ⟨_,lg _ (lC _ rfl),rfl,rfl⟩ sq2 k0
 exact thn I3 λu s' ⟨v,H',I4,rv,qv⟩=>⟨v,H',I4.pins_of λz hz=>I4.pin z (lN _ (lz _ hz)),rv,qv⟩
end
def jw (lt:Int->Int->Bool)(fk:D->Rs D):D->Int->List D->Rs D
 | b,_,[]=>.ok b
 | b,k,x::r=>match fk x with
  | .ok (.int k')=>if lt k' k=true then jw lt fk x k' r else jw lt fk b k r
  | _=>.no
def zhs (lt:Int->Int->Bool)(fk:D->Rs D):List D->Rs D
 | []=>.no
 | x::r=>match fk x with
  | .ok (.int k)=>jw lt fk x k r
  | _=>.no
def unL:D->Option (List D)
 | .lst ds=>some ds
 | _=>none
def unT:D->Option (List D)
 | .tup ds=>some ds
 | _=>none
def ltL (a b:Int):Bool:=decide (a<b)
def ltG (a b:Int):Bool:=decide (b<a)
def zkF (un:D->Option (List D))(lt:Int->Int->Bool)(fa fb:qQ5)(caps:List Nat):qQ5:=λρ=>(fa ρ).bind λd=>match un d with
 | some ds=>zhs lt (λx=>fb ((xT 1 caps ρ).set 0 (.fz x))) ds
 | none=>.no
theorem zls {lt:Int->Int->Bool}{fk:D->Rs D}{x:D}{r:List D}{A:Rs D}(h:(match fk x with | .ok (.int k)=>jw lt fk x k r|_=>.no)=A)(hn:A≠.no):∃k,fk x=.ok (.int k)/\jw lt fk x k r=A:=by
 split at h
 ·rename_i k e;exact⟨k,e,h⟩
 ·exact absurd h.symm hn
section
variable {K:qQ0}{cl:Nat->Addr}{H0 F0 F1:Hp}{ρ:Rho}{σ:St}{caps:List Nat}{q:Str}{c':Addr}{fb:qQ5}{lt:Int->Int->Bool}{Sq:Hp->Prop}{Q:VK}
theorem zha {x:V}{dx:D}{k:Int}{W:VK}(R:Rl K cl H0 F0 ρ σ H F)(hc:H c'=some (.cod q))(qx:Dt K cl F x dx)(e:fb ((xT 1 caps ρ).set 0 (.fz dx))=.ok (.int k))(h:∀H' F',Gr F H F' H'->W (.int k) H'):kqL (tDE K cl E0 fb) caps q σ c' x H W:=by
 refine⟨hc,H,F,_,F,(R.cap [Str.empty] caps).set (i:=0) qx,?_⟩
 show OutE K cl E0 H F H (fb ((xT 1 caps ρ).set 0 (.fz dx))) W
 rw[e]
 intro v H' F' g qv
 cases qv
 exact h H' F' g
theorem zeS (hS:∀H',Same F1 H'->Sq H'):∀(r:List V) (ds:List D) (b:V) (bd:D) (k:Int) (d:D) (H F:Hp),Rl K cl H0 F0 ρ σ H F->Same F1 F->H c'=some (.cod q)->Dts K cl F r ds->Dt K cl F b bd->jw lt (λx=>fb ((xT 1 caps ρ).set 0 (.fz x))) bd k ds=.ok d ->
  (∀v H' F',Gr F H F' H'->Dt K cl F' v d->Q v H')->zbh lt (kqL (tDE K cl E0 fb) caps q σ c') Sq b k r H Q
 | [],_,b,bd,k,d,H,F,R,s1,hc,.nil,qb,hd,hQ=>by
  unfold jw at hd
  cases hd
  exact hQ b H F (Gr.refl R.fh) qb
 | x :: r,_,b,bd,k,d,H,F,R,s1,hc,.cons (d:=dx) (ds:=ds) qx qr,qb,hd,hQ=>by
  unfold jw at hd
  split at hd
  ·rename_i k' e
   unfold zbh
   refine zha R hc qx e λH' F' g=>⟨k',rfl,hS H' ((s1.trans g.ff).trans g.fh),?_⟩
   have R':=R.grow g
   have hQ':∀v H2 F2,Gr F' H' F2 H2->Dt K cl F2 v d->Q v H2:=λv H2 F2 g2=>hQ v H2 F2 (g.trans g2)
   split
   ·rename_i hl
    rw[lU hl] at hd
    exact zeS hS r ds x dx k' d H' F' R' (s1.trans g.ff) (g.hh _ _ hc) (qr.mono g.ff) (qx.mono g.ff) hd hQ'
   ·rename_i hl
    rw[lac hl] at hd
    exact zeS hS r ds b bd k d H' F' R' (s1.trans g.ff) (g.hh _ _ hc) (qr.mono g.ff) (qb.mono g.ff) hd hQ'
  ·cases hd
theorem zlB {E:XK}{vs:List V}(hS:∀H',Same F H'->S a vs H')(R:Rl K cl H0 F0 ρ σ H F)(hP:H P=some (.lam q))(qs:Dts K cl F vs ds)(o:OutE K cl E H0 F H (zhs lt (λx=>fb ((xT 1 caps ρ).set 0 (.fz x))) ds) Q)(hne:∀n,zhs lt (λx=>fb ((xT 1 caps ρ).set 0 (.fz x))) ds≠.ex n) :
  ∃ x0 r,S a (x0::r) H/\H P=some (.lam q)/\∀c' H2,(H2=H∨H c'=none/\H2=upd H c' (.cod q))->H2 c'=some (.cod q) ->
   S a (x0::r) H2/\kqL (tDE K cl E0 fb) caps q σ c' x0 H2 λv H'=>∃k,v=.int k/\S a (x0::r) H'/\zbh lt (kqL (tDE K cl E0 fb) caps q σ c') (S a (x0::r)) x0 k r H' Q:=by
 cases qs with
 | nil=>exact o.elim
 | cons qx qr =>
  rename_i x0 dx r ds
  refine⟨x0,r,hS H R.fh,hP,λc' H2 h2 hc=>?_⟩
  have g2:Gr F H F H2:=by
   rcases h2 with rfl|⟨hn,rfl⟩
   ·exact Gr.refl R.fh
   ·exact Gr.newO R.fh hn
  have R2:=R.grow g2
  refine⟨hS H2 R2.fh,?_⟩
  unfold zhs at o hne
  cases e:fb ((xT 1 caps ρ).set 0 (.fz dx)) with
  | ex n=>simp only[e] at o;exact o.elim
  | no=>simp only[e] at o;exact o.elim
  | ok kd =>
   cases kd with
   | int k =>
    simp only[e] at o hne
    refine zha R2 hc qx e λH' F' g=>⟨k,rfl,hS H' (g.ff.trans g.fh),?_⟩
    cases e2:jw lt (λx=>fb ((xT 1 caps ρ).set 0 (.fz x))) dx k ds with
    | ok d =>
     rw[e2] at o
     exact zeS (F1:=F) (λH3 s=>hS H3 s) r ds x0 dx k d H' F' (R2.grow g) g.ff (g.hh _ _ hc) (qr.mono g.ff) (qx.mono g.ff) e2 λv H3 F3 g3 q3=>o v H3 F3 (g2.trans (g.trans g3)) q3
    | ex n=>exact absurd e2 (hne n)
    | no=>rw[e2] at o;exact o.elim
   | _=>simp only[e] at o;exact o.elim
end
theorem zae {lt:Int->Int->Bool}{fk:D->Rs D}:∀(ds:List D) (b:D) (k:Int) (n:Nat),jw lt fk b k ds≠.ex n
 | [],b,k,n=>λh=>by unfold jw at h;cases h
 | x::r,b,k,n=>λh=>by
  unfold jw at h
  split at h
  ·split at h
   ·exact zae r _ _ n h
   ·exact zae r _ _ n h
  ·cases h
theorem zim {lt:Int->Int->Bool}{fk:D->Rs D}(n:Nat):zhs lt fk ds≠.ex n:=λh=>by
 cases ds with
 | nil=>cases h
 | cons x r =>
  obtain⟨k,_,e⟩:=zls (lt:=lt) (fk:=fk) (x:=x) (r:=r) (A:=.ex n) (show(match fk x with | .ok (.int k)=>jw lt fk x k r|_=>.no)=.ex n from h) (λz=>nomatch z)
  exact zae r _ _ n e
section
variable {X:Cx}{cl:Nat->Addr}{E:XK}{e body:Expr}{fa fb:qQ5}{scope:Scope}{params:Arguments}{np lpos pos kp:Pos}{caps:List Nat}{P:Addr}{q p:Str}
theorem zfH {H0 F0:Hp}{ρ:Rho}{Q:VK}{lt:Int->Int->Bool}{un:D->Option (List D)}{K:qQ0}(R:Rl K cl H0 F0 ρ σ H F)(hP:H P=some (.lam q))(hu:∀d ds F v,un d=some ds->Dt K cl F v d->∃a vs,v=.ref a/\Dts K cl F vs ds/\∀H',Same F H'->S a vs H')
  (o:OutE K cl E H0 F H (zkF un lt fa fb caps ρ) Q):OutA K cl E H0 F H (zj fa zE ρ) λvs H1=>∃a x0 r,vs=[.ref a]/\S a (x0::r) H1/\H1 P=some (.lam q)/\∀c' H2,(H2=H1∨H1 c'=none/\H2=upd H1 c' (.cod q))->H2 c'=some (.cod q) ->
   S a (x0::r) H2/\kqL (tDE K cl E0 fb) caps q σ c' x0 H2 λv H'=>∃k,v=.int k/\S a (x0::r) H'/\zbh lt (kqL (tDE K cl E0 fb) caps q σ c') (S a (x0::r)) x0 k r H' Q:=by
 unfold zkF at o
 unfold zj zE
 cases e1:fa ρ with
 | ex n=>rw[e1] at o;exact o
 | no=>rw[e1] at o;exact o.elim
 | ok d =>
  rw[e1] at o
  have o:OutE K cl E H0 F H (match un d with|some ds=>zhs lt (λx=>fb ((xT 1 caps ρ).set 0 (.fz x))) ds|none=>.no) Q:=o
  show OutA K cl E H0 F H (.ok [d]) _
  intro us H1 F1 g qs
  cases qs with
  | cons qv qn =>
   cases qn
   cases e2:un d with
   | none=>rw[e2] at o;exact o.elim
   | some ds =>
    rw[e2] at o
    obtain⟨a,vs,rfl,qd,hS⟩:=hu d ds F1 _ e2 qv
    obtain⟨x0,r,k⟩:=zlB (P:=P) (q:=q) hS (R.grow g) (g.hh _ _ hP) qd (o.grow g) zim
    exact⟨a,x0,r,rfl,k⟩
theorem zmn (L:LamIn X params body scope caps p q P (tDE X.K cl E0 fb))(hP:X.H₀ P=some (.lam q))(hc:X.calm=true)(hg:Gl X "min")(hm:X.mg "min" = none)(ha:XE X cl E e fa)(hst:starEach [e] X.env=(false,eval e X.env)::starEach [] X.env) :
  XE X cl E (.Call (.Name "min" np) [e] [⟨some "key", .Lambda params body scope lpos,kp⟩] pos) (zkF unL ltL fa fb caps):=by
 obtain⟨t,pt,rt⟩:=(zf ha zu hst).ex
 intro pins s σ H Q I ⟨H0,F0,ρ,F,R,o⟩
 refine zl5 L hc hg hm pt hst pins s σ H Q I (rt H0 F0 ρ σ H F _ R ?_)
 exact zfH R (I.base.tups P (.inr (.inr q)) hP) (λd ds F v e qv=>by
  cases qv <;>simp[unL] at e
  rename_i a vs ds' sq qd
  subst e
  exact⟨a,vs,rfl,qd,λH' s=>s.seq sq⟩) o
theorem zly (L:LamIn X params body scope caps p q P (tDE X.K cl E0 fb))(hP:X.H₀ P=some (.lam q))(hc:X.calm=true)(hg:Gl X "max")(hm:X.mg "max" = none)(ha:XE X cl E e fa)(hst:starEach [e] X.env=(false,eval e X.env)::starEach [] X.env) :
  XE X cl E (.Call (.Name "max" np) [e] [⟨some "key", .Lambda params body scope lpos,kp⟩] pos) (zkF unT ltG fa fb caps):=by
 obtain⟨t,pt,rt⟩:=(zf ha zu hst).ex
 intro pins s σ H Q I ⟨H0,F0,ρ,F,R,o⟩
 refine zk0 L hc hg hm pt hst pins s σ H Q I (rt H0 F0 ρ σ H F _ R ?_)
 exact zfH R (I.base.tups P (.inr (.inr q)) hP) (λd ds F v e qv=>by
  cases qv <;>simp[unT] at e
  rename_i a vs ds' sq qd
  subst e
  exact⟨a,vs,rfl,qd,λH' s=>s.seqT sq⟩) o
end
def Zt (L:List (Addr×Str))(H:Hp):Prop:=∀p∈L,H p.1=some (.lam p.2)
def spZ (L:List (Addr×Str))(sp:Sp):Sp:=λvs H Q E=>Zt L H/\sp vs H Q E
theorem Zt.un {fs ex:List Addr}{H':Hp}{h h':Heap}(z:Zt L H)(u:Un fs ex H H' h h'):Zt L H':=λp hp=>u.tups _ (.inr (.inr _)) (z p hp)
theorem Zt.same {H':Hp}(z:Zt L H)(s:Same H H'):Zt L H':=λp hp=>s _ _ (z p hp)
abbrev Tbs:=List (Str×Addr×Addr)
variable {Ts:Tbs}
def wD (Ts:Tbs):List (Addr×Str):=Ts.map λt=>(t.2.2,t.1 ++ ".<locals>." ++ "<lambda>")
theorem Zt.at (z:Zt (wD Ts) H)(hm:(x,c,P)∈Ts):H P=some (.lam (x ++ ".<locals>." ++ "<lambda>")):=z _ (lat.mpr ⟨_,hm,rfl⟩)
structure Zx (K:qQ0)(mg:qQ3)(base:Heap)(Ts:Tbs):Prop where
 kin:K.In base
 ns:base.Ns mainGlobals mg
 tab:∀t∈Ts,PySem.W.tabIn K t.1=some t.2/\CodeHd base t.2.1 t.2.2
 blt:∃bm o,mg "__builtins__" = some (.ref bm)/\bm≠builtinsNs/\bm≠mainGlobals/\base.get? bm=some o/\o.cls=.type "module" /\ o.dict=some builtinsNs/\o.data=.plain
theorem Zx.code {K:qQ0}{base:Heap}{st:Stmt}(z:Zx K mg base Ts)(d:Dn K mg x st ps)(hm:(x,c,P)∈Ts):d.fd.code=.ref c/\CodeHd base c P:=by
 obtain⟨ht,hc⟩:=z.tab _ hm
 obtain⟨oc,od,kV,doc,pm,an,cdv,ct,osl,e,lk,_⟩:=d.fn.ex
 exact⟨PySem.W.law_code z.kin z.ns ht d.mg (z.kin _ _ lk) rfl,hc⟩
section
variable {P:Program}{w:World}{K:qQ0}{mg:qQ3}{base:Heap}{x:Str}{st:Stmt}{N ps:List Str}{cl:Nat->Addr}
theorem Fun.okXc {qual:Str}{sp:Sp}(F:Fun K x qual st f fd)(S:FnScope N ps (zq st))(len:∀vs H Q E,sp vs H Q E->vs.length=ps.length)
  (hbody:∀(A:Around) (outer:List Env) (s:Shared) (H:Hp) (vs:List V) (Q:VK) (E:XK),Room k (A.deeper (envOfC qual (zq st) s.heap.objs.size f fd.code))->sp vs H Q E ->
   ∃t,PSs (je (CX1 P w) P w K mg base N qual (zq st) f fd.code A outer s H E) (xP st) t/\t {nx:=λ_ H'=>Q .non H',rt:=Q} (start N vs) H):FnOk P w K mg base (CX1 P w) (k+1) f fd ps sp:=by
 obtain⟨oc,od,kV,doc,pm,an,cdv,ct,osl,rfl,lk,hcd⟩:=F.ex
 exact zkW lk hcd S len λA outer s H vs Q E hr hsp=>hbody A outer s H vs Q E hr hsp
theorem znL (m n k:Nat)(g:Rho->Out)(cl:Nat->Addr)(d:Dn K mg x st ps)(S:FnScope N ps (zq st))
  (hb:∀(A:Around) (outer:List Env) (s:Shared) (H:Hp) (E:XK),Zt L H->Room k (A.deeper (envOfC x (zq st) s.heap.objs.size d.f d.fd.code))->XSs (je (CX1 P w) P w K mg base N x (zq st) d.f d.fd.code A outer s H E) cl E (xP st) g) (hm:N.length=m:=by rfl) (hn:ps.length=n:=by rfl):FnOk P w K mg base (CX1 P w) (k+1) d.f d.fd ps (spZ L (spD K cl (z8 m g) n)):=by
 subst hm hn
 refine d.fn.okXc S (λvs H Q E h=>h.2.choose_spec.choose_spec.2.2.1) λA outer s H vs Q E hr h=>?_
 obtain⟨z,F,ds,sm,dq,hl,o⟩:=h
 refine⟨_,hb A outer s H E z hr,H,F,_,F,Rl.start (N:=N) sm dq,?_⟩
 unfold z8 at o
 cases e:g (ds.map .fz++List.replicate (N.length - ds.length) .no) with
 | nx ρ=>rw[e] at o;exact λσ H' F' R _=>o .non H' F' R.gr .non
 | rt d=>rw[e] at o;exact λv H' F' gg q=>o v H' F' gg q
 | bk ρ=>rw[e] at o;exact o.elim
 | ct ρ=>rw[e] at o;exact o.elim
 | ex n=>rw[e] at o;exact o
 | no=>rw[e] at o;exact o
end
section
variable {X:Cx}{cl:Nat->Addr}{E:XK}{x:Str}{p pos:Pos}{e:Expr}{es:List Expr}{fs:qQ4}{k k' n:Nat}{st:Stmt}{ps:List Str}{d:Dn X.K X.mg x st ps}{fn:List D->Rs D}{L:List (Addr×Str)}
theorem u0 (hz:Zt L X.H₀)(G:FnOk X.prog X.w X.K X.mg X.base (CX1 X.prog X.w) k d.f d.fd ps (spZ L (spD X.K cl fn n)))(hr:Room k' X.A)(hx:zaH (CX1 X.prog X.w) X E)(ha:XA X cl E (e::es) fs)(he:starEach (e::es) X.env=(false,eval e X.env)::starEach es X.env)(hk:k<=k':=by decide)(hg:Gl X x:=by rfl)(hdb:(x == ("__debug__" : Str))=false:=by decide)(hpl:(backTo pos (starEach es X.env)).any (·.1)=false:=by rfl):XE X cl E (.Call (.Name x p) (e::es) [] pos) (fA (ari n fn) fs):=by
 obtain⟨t,pt,rt⟩:=ha.ex
 intro pins s σ H Q I ⟨H0,F0,ρ,F,R,o⟩
 refine zeN G (hr.mono hk) hg d.mg d.fn.kp d.bd .nil hx pt hdb he hpl pins s σ H Q I (rt H0 F0 ρ σ H F _ R (OutA.fst o λds vs H1 F1 g q o1=>?_))
 unfold ari at o1
 split at o1
 ·rename_i hl
  rw[lY]
  have R1:=R.grow g
  refine⟨(hz.un I.base).same g.hh,F1,ds,R1.fh,q,by rw[q.length,hl],?_⟩
  cases e:fn ds with
  | ok d=>rw[e] at o1;exact o1
  | ex n=>rw[e] at o1;exact λH' s=>o1 H' (R1.gr.hh.trans s)
  | no=>rw[e] at o1;exact o1
 ·exact o1.elim
end
section
variable {P:Program}{w:World}{K:qQ0}{mg:qQ3}{base:Heap}{x:Str}{st:Stmt}{N ps:List Str}{cl:Nat->Addr}{A:Around}{outer:List Env}{s:Shared}{H:Hp}{E:XK}{Ts:Tbs}{c Pt:Addr}{params:Arguments}{body:Expr}{scope:Scope}{caps:List Nat}{p:Str}{fb:qQ5}{k:Nat}
theorem zkH (z:Zx K mg base Ts)(d:Dn K mg x st ps)(hm:(x,c,Pt)∈Ts)(hr:Room (k+2) (je (CX1 P w) P w K mg base N x (zq st) d.f d.fd.code A outer s H E).A)(ok:CompOk (je (CX1 P w) P w K mg base N x (zq st) d.f d.fd.code A outer s H E) scope caps)
  (chk:(decide (scope.names.lookup p=some .local)&&scope.names.all (λy=>decide (y.2≠.cell)) && !scope.isCoroutine && !scope.isGenerator)=true)
  (hb:∀(f c':Addr) (s':Shared) (H':Hp),Room k ((zgs (je (CX1 P w) P w K mg base N x (zq st) d.f d.fd.code A outer s H E).in1 q scope f c' p caps s' H').A)->XE (zgs (je (CX1 P w) P w K mg base N x (zq st) d.f d.fd.code A outer s H E).in1 q scope f c' p caps s' H') cl E0 body fb)
  (hq:x ++ ".<locals>." ++ "<lambda>" = q) (hdf:defaultsOf params (je (CX1 P w) P w K mg base N x (zq st) d.f d.fd.code A outer s H E).env=([],[]):=by rfl) (hbd:∀(cl:List (Str×Addr)) (pm cd ct u:Value),bindArgs (kla_fn "<lambda>" q params body scope cl pm cd ct) ⟨[u],[]⟩=pure [(p,u)]:=by intros;rfl) :
  LamIn (je (CX1 P w) P w K mg base N x (zq st) d.f d.fd.code A outer s H E) params body scope caps p q Pt (tDE K cl E0 fb):=by
 simp only[lM,laA,lZ,lbP] at chk
 obtain⟨h1,h2⟩:=z.code d hm
 exact⟨ok,chk.1.1.1,chk.1.1.2,chk.1.2,chk.2,hq,⟨c,h1,h2⟩,z.blt,hdf,hbd,hr.in1.depth,λf c' s' H'=>hb f c' s' H' (hr.in1.deeper _)⟩
end
structure Lt (K:qQ0)(h:Heap)(Ts:Tbs):Prop where
 tab:∀t∈Ts,PySem.W.tabIn K t.1=some t.2/\CodeHd h t.2.1 t.2.2/\h.get? t.2.2=some (tabObj #[])
 nd:(Ts.map (·.2.2)).Nodup
def zb8 (Ts:Tbs)(H:Hp):Hp:=λb=>match (wD Ts).lookup b with
 | some q=>some (.lam q)
 | none=>H b
theorem zfz:∀{l:List (Addr×Str)}{b:Addr}{q:Str},l.lookup b=some q->(b,q)∈l
 | [],_,_,e=>by cases e
 | (c,u)::r,b,q,e=>by
  rw[lbJ] at e
  cases hb:b == c with
  | true=>rw[hb] at e;cases e;rw[eq_of_beq hb];exact .head _
  | false=>rw[hb] at e;exact .tail _ (zfz e)
theorem zj3 {b:Addr}(h:(wD Ts).lookup b=some q):∃t∈Ts,t.2.2=b/\q=t.1 ++ ".<locals>." ++ "<lambda>" := by
 have:=zfz h
 obtain⟨t,ht,e⟩:=lat.mp this
 cases e
 exact⟨t,ht,rfl,rfl⟩
theorem zhx:∀{Ts:Tbs}{t:Str×Addr×Addr},(Ts.map (·.2.2)).Nodup->t∈Ts->(wD Ts).lookup t.2.2=some (t.1 ++ ".<locals>." ++ "<lambda>")
 | u :: r,t,nd,h=>by
  have nd':=lbD.mp (show(u.2.2::r.map (·.2.2)).Nodup from nd)
  show List.lookup t.2.2 ((u.2.2,u.1 ++ ".<locals>." ++ "<lambda>")::wD r)=_
  rw[lbJ]
  rcases lI.mp h with rfl|h
  ·rw[beq_self_eq_true]
  ·have hne:(t.2.2 == u.2.2)=false:=by
    refine lcD.mpr λe=>nd'.1 ?_
    rw[← e]
    exact lat.mpr ⟨t,h,rfl⟩
   rw[hne]
   exact zhx nd'.2 h
theorem ziD {P:Program}{w:World}{K:qQ0}{CX:CXT}{fa:Addr}{sp:Sp}{s₁:Shared}{vs:List Value}{ns:List Int}
  (KX:K.In s₁.heap) (hns:s₁.heap.Ns mainGlobals mg) (hb:s₁.heap.Ns builtinsNs mb) (hbb:∀x:Str,x ≠ "__name__" -> mb x=bootBuiltins x) (hlim:s₁.heap.NoLimit) (hg:s₁.gens = #[])
  (hbm:∃bm ob,mg "__builtins__" = some (.ref bm)/\bm≠builtinsNs/\s₁.heap.get? bm=some ob/\ob.cls=.type "module" /\ ob.dict=some builtinsNs/\ob.data=.plain) (hT:Lt K s₁.heap Ts) (hK:noTabs K=true)
  (ha:s₁.heap.get? a=some {cls:=.type "list", data:=.seq vs.toArray}) (hi:IntsAre vs ns) (hl:ns.length<=sizeLine) (hr:Room k callerA)
  (F:∀base:Heap,Zx K mg base Ts->FnOk P w K mg base CX k fa fd [x] (spZ (wD Ts) sp)) (hbind:∀(s:Shared) (u:Value),BindsTo s fd ⟨[u],[]⟩ [(x,u)])
  (hsp:∀H:Hp,SqL K H a (ns.map V.int)->sp [.ref a] H (λv _=>v=.bl true) λ_ _ _=>False)
  (hCX:∀H e s',CX [] H s₁ (λ_ _ _=>False) e s'->False) :
  codeAny (model P w) callerA (.call (.ref fa) ⟨[.ref a],[]⟩) (λr s'=>r=.ok (.ret (.bool true))/\OldK s₁.heap s'.heap/\s'.os=s₁.os/\AllBare s'.gens) s₁:=by
 have rv:=zdO hi
 have lenV:=hi.length
 have atTab:∀{b:Addr}{q:Str},(wD Ts).lookup b=some q->s₁.heap.get? b=some (tabObj #[])/\isCodeTable s₁.heap b:=λ{b q} e=>by
  obtain⟨t,ht,rfl,_⟩:=zj3 e
  obtain⟨_,h2,h3⟩:=hT.tab t ht
  exact⟨h3,(h2.tab h3).isCodeTable⟩
 have noL:∀{b:Addr}{o:Obj},s₁.heap.get? b=some o->o≠tabObj #[]->(wD Ts).lookup b=none:=λ{b o} e hn=>by
  cases q:(wD Ts).lookup b with
  | none=>rfl
  | some u=>rw[(atTab q).1] at e;exact absurd (lq e).symm hn
 have lT:∀{b:Addr}{o:Obj}{H0:Hp},s₁.heap.get? b=some o->o≠tabObj #[]->H0 b=none->zb8 Ts H0 b=none:=λ{b o H0} e hn h=>by unfold zb8;rw[noL e hn];exact h
 have core:∀H0:Hp,Only H0->SqL K (zb8 Ts H0) a (ns.map V.int)->HOk P w (zb8 Ts H0) s₁.heap->(∀b,H0 b≠none->b=a)->(H0 a≠none->K.lookup a=none) ->
   codeAny (model P w) callerA (.call (.ref fa) ⟨[.ref a],[]⟩) (λr s'=>r=.ok (.ret (.bool true))/\OldK s₁.heap s'.heap/\s'.os=s₁.os/\AllBare s'.gens) s₁:=by
  intro H0 hO hS hok hA hK0
  have base_of:∀{b:Addr}{o:Obj},s₁.heap.get? b=some o->o≠tabObj #[]->H0 b=none->(ziS s₁.heap (zb8 Ts H0)).get? b=some o:=λe hn n=>zjf e (lT e hn n)
  have noA:∀{b:Addr}{o:Obj},s₁.heap.get? b=some o->(∀u n,o.data≠.seq u n)->H0 b=none:=λ{b o} e d=>by
   cases q:H0 b with
   | none=>rfl
   | some u =>
    have e':b=a:=hA b (by rw[q];simp)
    subst e'
    rw[ha] at e;cases e
    exact absurd rfl (d _ _)
  have nsK:∀{b:Addr}{m:qQ3},s₁.heap.Ns b m->(ziS s₁.heap (zb8 Ts H0)).Ns b m:=λ{b m} ⟨o,es,ep,e,d,r⟩=>⟨o,es,ep,base_of e (λz=>by rw[z] at d;cases d) (noA e λu n z=>by rw[d] at z;cases z),d,r⟩
  have hKb:K.In (ziS s₁.heap (zb8 Ts H0)):=λb o e=>base_of (KX b o e) (λz=>by
   have h2:=lZ.mp hK (b,o) (mem_of_lookupK e)
   subst z
   exact absurd (show false=true from h2) lH) (by
   cases q:H0 b with
   | none=>rfl
   | some u =>
    have e':b=a:=hA b (by rw[q];simp)
    subst e'
    rw[hK0 (by rw[q];simp)] at e;cases e)
  have hM:Mod K mg (ziS s₁.heap (zb8 Ts H0)):=⟨hKb,nsK hns,⟨mb,nsK hb,hbb⟩,let ⟨mc,h1,h2⟩:=hlim;⟨mc,nsK h1,h2⟩⟩
  have e0:Env0 P w K mg (ziS s₁.heap (zb8 Ts H0)) callerA [] s₁ (zb8 Ts H0):=⟨rfl,hM,λb o e=>zlt e,Nat.le_of_eq (zg7 _ _),trivial,λb hb=>absurd (show b∈([]:List Addr) from hb) (by simp),hok,.of_eq hg⟩
  have Z:Zx K mg (ziS s₁.heap (zb8 Ts H0)) Ts:=by
   refine⟨hKb,nsK hns,λt ht=>⟨(hT.tab t ht).1,?_⟩,?_⟩
   ·obtain⟨o,us,file,tf,flags,tg,inF,text,tt,e1,r1,r2,r⟩:=(hT.tab t ht).2.1
    exact⟨o,us,file,tf,flags,tg,inF,text,tt,base_of e1 (λz=>by rw[z] at r1;cases r1) (noA e1 λu n z=>by rw[r2] at z;cases z),r1,r2,r⟩
   ·obtain⟨bm,ob,h1,h2,h3,h4,h5,h6⟩:=hbm
    refine⟨bm,ob,h1,h2,λz=>?_,base_of h3 (λz=>by rw[z] at h4;cases h4) (noA h3 λu n z=>by rw[h6] at z;cases z),h4,h5,h6⟩
    obtain⟨o,es,ep,e,d,r⟩:=hns
    rw[z,e] at h3;cases h3
    rw[d] at h6;cases h6
  have hz:Zt (wD Ts) (zb8 Ts H0):=λp hp=>by
   obtain⟨t,ht,rfl⟩:=lat.mp hp
   show(match (wD Ts).lookup t.2.2 with|some q=>some (HO.lam q)|none=>H0 t.2.2)=_
   rw[zhx hT.nd ht]
  refine lc5 ((F _ Z).run callerA [] s₁ (zb8 Ts H0) ⟨[.ref a],[]⟩ [.ref a] [.ref a] _ _ hr e0 (hbind s₁ (.ref a)) (.cons rfl .nil) ⟨hz,hsp _ hS⟩) λr s' h=>?_
  cases r with
  | error e=>exact(hCX _ e s' h).elim
  | ok fl =>
   cases fl with
   | next=>exact False.elim h
   | brk=>exact False.elim h
   | cont=>exact False.elim h
   | ret u =>
    obtain⟨v,H',os,bare,un,hok',r',q⟩:=h
    have q':v=.bl true:=q
    subst q'
    obtain rfl:u=Value.bool true:=r'
    have all:∀b o,s₁.heap.get? b=some o->asItWas s₁.heap s'.heap b o/\∃o',s'.heap.get? b=some o':=λb o e=>by
     cases q:(wD Ts).lookup b with
     | some l =>
      have hl:zb8 Ts H0 b=some (.lam l):=by unfold zb8;rw[q]
      obtain⟨qs,e2,_⟩:=(show ObjOk P w H' s'.heap b (.lam l) from hok' b _ (un.tups b (.inr (.inr l)) hl))
      obtain⟨e3,tb⟩:=atTab q
      rw[e] at e3
      cases e3
      exact⟨.inr (.inl ⟨tb,rfl,#[],qs,rfl,by rw[Array.empty_append];exact e2⟩),_,e2⟩
     | none =>
      have hl:zb8 Ts H0 b=H0 b:=by unfold zb8;rw[q]
      cases q2:H0 b with
      | none =>
       have:=un.keep b o e (hl.trans q2) (by intro z;exact absurd (show b∈([]:List Addr) from z) (by simp)) (by simp)
       exact⟨.inl this,_,this⟩
      | some u =>
       rcases hO b with z|⟨ob,xs,z⟩
       ·rw[q2] at z;cases z
       ·have z2:=un.frzs b ob _ (hl.trans z)
        obtain⟨e1,_⟩:=hok b _ (hl.trans z)
        obtain⟨e2,_⟩:=hok' b _ z2
        rw[e] at e1;cases e1
        exact⟨.inl e2,_,e2⟩
    exact⟨rfl,⟨λb o e=>(all b o e).1,λb o e=>(all b o e).2⟩,os,bare⟩
 have aL:(wD Ts).lookup a=none:=noL ha (λz=>by cases z)
 have okT:∀(H0:Hp),(∀b u,(wD Ts).lookup b=none->H0 b=some u->ObjOk P w (zb8 Ts H0) s₁.heap b u)->HOk P w (zb8 Ts H0) s₁.heap:=λH0 h b u z=>by
  unfold zb8 at z
  split at z
  ·rename_i q e
   cases z
   exact⟨#[],(atTab e).1,trivial,λpos cv z=>by cases z⟩
  ·rename_i e
   exact h b u e z
 cases hk:K.lookup a with
 | some o =>
  have e:=KX a o hk
  rw[ha] at e
  cases e
  refine core (λ_=>none) (λ_=>.inl rfl) (.inr ⟨_,vs.toArray,_,hk,rfl,rfl,rfl,by rw[lP,lenV];exact hl,by simpa using rv⟩) (okT _ λb u _ z=>by have z':(none:Option HO)=some u:=z;cases z') (λb z=>absurd rfl z) λz=>absurd rfl z
 | none =>
  refine core (λb=>if b=a then some (.frz {cls:=.type "list", data:=.seq vs.toArray} (.lst (ns.map V.int))) else none) (λb=>?_) (.inl (.inr ⟨{cls:=.type "list", data:=.seq vs.toArray},by unfold zb8;rw[aL];exact lU rfl⟩)) (okT _ λb u _ z=>?_) (λb z=>?_) λ_=>hk
  ·by_cases hb:b=a
   ·exact .inr ⟨_,_,lU hb⟩
   ·exact .inl (lac hb)
  ·by_cases hb:b=a
   ·have z':=(lU hb).symm.trans z
    cases z'
    subst hb
    exact⟨ha,by rw[lQ];exact hl,vs,_,rv,ha⟩
   ·have z':=(lac hb).symm.trans z
    cases z'
  ·by_cases hb:b=a
   ·exact hb
   ·exact absurd (lac hb) z
theorem zpj {p:Program}{mean:ExcName->Option Value}{h:Heap}{K:qQ0}(T:Top p loose mean mg mb h)(X:K.In h)(ht:∀t∈Ts,PySem.W.tabIn K t.1=some t.2)(hr:Ts.all (λt=>((recsOf p).find? (λe=>e.name == t.1)).isSome)=true)(nd:(Ts.map (·.2.2)).Nodup):Lt K h Ts:=by
 refine⟨λt hm=>?_,nd⟩
 have q:=lZ.mp hr t hm
 obtain⟨d,e⟩:=Option.isSome_iff_exists.mp q
 exact⟨ht t hm,PySem.W.tab_of T X e (ht t hm)⟩
theorem tab_mk {K:qQ0}{oc oc':Value}{od od':Option Addr}{sl sl':Array (Option Value)}{vs:Array Value}(a:PySem.W.nsIn K mainGlobals x=some (some (.ref f)))(l:K.lookup f=some ⟨oc,od,.func fd,sl⟩)(hc:fd.code=.ref c)(lc:K.lookup c=some ⟨oc',od',.fields vs,sl'⟩)(hv:vs[11]? = some (.ref P)):PySem.W.tabIn K x=some (c,P):=by
 unfold PySem.W.tabIn
 simp only[a,l,hc,lc,hv]
theorem zln {P:Program}{w:World}{K:qQ0}{base:Heap}{fn:List D->Rs D}(G:FnOk P w K mg base (CX1 P w) k f fd ps (spZ L (spD K cl fn 1)))(h:∀ns:List Int,ns.length<=63->fn [.lst (ns.map .int)]=.ok (.bl true)):FnOk P w K mg base CX0 k f fd ps (spZ L (zdE K)) where
 len:=λvs H Q E hs=>G.len vs H Q E ⟨hs.1,zkh h hs.2⟩
 run:=λA outer s H args us vs Q E hr e0 bt vl hs=>by
  refine lc5 (G.run A outer s H args us vs Q E0 hr e0 bt vl ⟨hs.1,zkh (E:=E) h hs.2⟩) λr s' q=>?_
  cases r with
  | error e =>
   obtain⟨a,C,a0,H',B,_,_,_,_,_,_,_,_,_,_,_,z⟩:=(show zdZ P w outer H s E0 e s' from q)
   exact z.elim
  | ok fl=>cases fl <;>exact q
theorem walk_ofL {l:PySem.W.OpenLaw}{n:Nat}{q:Program}{XP:(qQ3)->Heap->Prop}{YP:World->Heap->Prop}{d:DefRec}{K:Params->qQ0}
  (hn:l.most=some n) (hn2:n<=sizeLine) (hdf:d.params.defaults=[]) (hr:Room k callerA) (hn3:n<=63)
  (hY:∀(w:World) (h:Heap),YP w h->(K w.params).In h) (hK:∀w:World,noTabs (K w.params)=true)
  (F : ∀(w:World) (mg:qQ3) (fa:Addr) (h:Heap),(K w.params).In h->h.Ns mainGlobals mg->mg d.name=some (.ref fa) ->
   ∃ (Ts:Tbs) (fd:FuncData),(∀t∈Ts,PySem.W.tabIn (K w.params) t.1=some t.2)/\Ts.all (λt=>((recsOf q).find? (λe=>e.name == t.1)).isSome)=true/\(Ts.map (·.2.2)).Nodup/\(∀(s:Shared) (u:Value),BindsTo s fd ⟨[u],[]⟩ [(x,u)]) /\
    ∀base:Heap,Zx (K w.params) mg base Ts->FnOk l.prog w (K w.params) mg base CX0 k fa fd [x] (spZ (wD Ts) (zdE (K w.params)))) :
  PySem.W.WalkO q loose XP YP l.row.toRowW d [] (λf vs=>PySem.call f vs):=by
 refine Att.attach_call hn hdf λw s₀ s₁ mg mb fa o pm cd doc a vs ns G Y ho hd hcd hmg hobj hints hlen hg=>?_
 have KX:=hY w _ Y
 obtain⟨Ts,fd,h1,h2,h3,hb,hF⟩:=F w mg fa _ KX G.T.g hmg
 exact ziD KX G.T.g G.T.b G.T.builtins G.T.nolimit hg G.T.bmain (zpj G.T KX h1 h2 h3) (hK w) hobj hints (lar hlen hn2) hr hF hb (λH hS=>⟨a,ns,rfl,hS,lar hlen hn3,λ_=>rfl⟩) λH e s' z=>z
def zij:D->D->Option D
 | .lst ds,.int k=>if ds.all isI=true/\ds.length<=1000/\k∈ds.map unN then some (.int ((ds.map unN).idxOf k:Nat)) else none
 | _,_=>none
theorem zmq {X:Cx}{e:Expr}{E:XK}{o:Expr}{fa fb:qQ5}{apos cpos:Pos}(ho:XE X cl E o fa)(ha:XE X cl E e fb)(m:Mth X o e "index" apos cpos):XE X cl E (.Call (.Attribute o "index" apos) [e] [] cpos) (fM zlz zij fa fb):=by
 obtain⟨t,pt,rt⟩:=ho.ex
 obtain⟨u,pu,ru⟩:=ha.ex
 refine XE'.out ⟨_,zd3 lbr PySem.F.slot_list_index PySem.F.type_list_index zdF pt (yX pu vX m.hs) m.base m.few m.line m.hs m.plain,λH0 F0 ρ σ H F Q R o=>rt H0 F0 ρ σ H F _ R (OutE.fst o λd v H1 F1 g1 q o1=>?_)⟩
 split at o1
 ·rename_i hd
  cases q with
  | lst sq dq =>
   rename_i ad xs ds
   refine⟨.inl ⟨rfl,xs,(R.grow g1).fh.seq sq⟩,ru H0 F0 ρ σ H1 F1 _ (R.grow g1) (OutE.fst o1 λd2 v2 H2 F2 g2 q2 o2=>?_)⟩
   obtain⟨z,hz,k⟩:=o2.lf
   have fh:=(R.grow (g1.trans g2)).fh
   cases q2 with
   | int key =>
    dsimp only [zij] at hz
    split at hz
    ·rename_i h
     obtain⟨h1,h2,h3⟩:=h
     obtain rfl:=lq hz
     obtain rfl:=dq.ints h1
     have hlt:=lcp h3
     have hge:(ds.map unN)[(ds.map unN).idxOf key]=key:=lcj hlt
     refine⟨ad,_,_,(ds.map unN).idxOf key,.int key,rfl,rfl,fh.seq (g2.ff.seq sq),rfl,by rw[lb2];exact lZ.mpr λ_ _=>rfl,?_,by show decide (key=key)=true;simp,by rw[lQ] at hlt;omega,λmm w hmm hw=>?_,k _ _ _ (Gr.refl fh) (.int _)⟩
     ·rw[lJ,lh hlt,hge];rfl
     ·have hml:mm<(ds.map unN).length:=ldx hmm hlt
      rw[lJ,lh hml] at hw
      obtain rfl:=lq hw
      have:=lcW (p:=λz=>z == key) (xs:=ds.map unN) hmm
      show decide ((ds.map unN)[mm]=key)=false
      simpa using this
    ·cases hz
   | _=>cases hz
  | _=>cases hd
 ·exact o1.elim
section
variable {X:Cx}{cl:Nat->Addr}{E:XK}{x:Str}{p pos:Pos}{e:Expr}{es:List Expr}{fs:qQ4}{k k' n:Nat}{st:Stmt}{ps:List Str}{d:Dn X.K X.mg x st ps}{fn:List D->Rs D}{L:List (Addr×Str)}
theorem zdi (hz:Zt L X.H₀)(G:FnOk X.prog X.w X.K X.mg X.base (CX1 X.prog X.w) k d.f d.fd ps (spZ L (spD X.K cl fn n)))(hr:Room k' X.A)(ha:XA X.nox cl E0 (e::es) fs)(he:starEach (e::es) X.env=(false,eval e X.env)::starEach es X.env)(hk:k<=k':=by decide)(hg:Gl X x:=by rfl)(hdb:(x == ("__debug__" : Str))=false:=by decide)(hpl:(backTo pos (starEach es X.env)).any (·.1)=false:=by rfl):XX X cl (.Call (.Name x p) (e::es) [] pos) (fA (ari n fn) (zdl fs)):=by
 obtain⟨t,pt,rt⟩:=ha.ex
 intro pins s σ H Q E F' I hx ⟨H0,F0,ρ,F,R,o⟩
 refine zii G (hr.mono hk) hg d.mg d.fn.kp d.bd pt he hdb hpl pins s σ H Q E F' I hx (rt H0 F0 ρ σ H F _ R ?_)
 unfold fA zdl at o
 cases e:fs ρ with
 | ex n=>rw[e] at o;exact o.elim
 | no=>rw[e] at o;exact o.elim
 | ok ds =>
  rw[e] at o
  intro vs H1 F1 g q
  have o1:OutE X.K cl E H0 F H (ari n fn ds) Q:=o
  unfold ari at o1
  split at o1
  ·rename_i hl
   have R1:=R.grow g
   refine⟨(hz.un I.base).same g.hh,F1,ds,R1.fh,q,by rw[q.length,hl],?_⟩
   cases e:fn ds with
   | ok d=>rw[e] at o1;exact λv H' F' g' q'=>o1 v H' F' (g.trans g') q'
   | ex n=>rw[e] at o1;exact λH' s=>o1 H' (R1.gr.hh.trans s)
   | no=>rw[e] at o1;exact o1
  ·exact o1.elim
def XEz (X:Cx)(L:List (Addr×Str))(cl:Nat->Addr)(E:XK)(e:Expr)(f:qQ5):Prop:=PE X e (λσ H Q=>Zt L H/\tDE X.K cl E f σ H Q)
theorem jZ (G:FnOk X.prog X.w X.K X.mg X.base (CX1 X.prog X.w) k d.f d.fd ps (spZ L (spD X.K cl fn n)))(hr:Room k' X.A)(hx:zaH (CX1 X.prog X.w) X E)(ha:XA X cl E (e::es) fs)(he:starEach (e::es) X.env=(false,eval e X.env)::starEach es X.env)(hk:k<=k':=by decide)(hg:Gl X x:=by rfl)(hdb:(x == ("__debug__" : Str))=false:=by decide)(hpl:(backTo pos (starEach es X.env)).any (·.1)=false:=by rfl):XEz X L cl E (.Call (.Name x p) (e::es) [] pos) (fA (ari n fn) fs):=by
 obtain⟨t,pt,rt⟩:=ha.ex
 intro pins s σ H Q I ⟨hz,H0,F0,ρ,F,R,o⟩
 refine zeN G (hr.mono hk) hg d.mg d.fn.kp d.bd .nil hx pt hdb he hpl pins s σ H Q I (rt H0 F0 ρ σ H F _ R (OutA.fst o λds vs H1 F1 g q o1=>?_))
 unfold ari at o1
 split at o1
 ·rename_i hl
  rw[lY]
  have R1:=R.grow g
  refine⟨hz.same g.hh,F1,ds,R1.fh,q,by rw[q.length,hl],?_⟩
  cases e:fn ds with
  | ok d=>rw[e] at o1;exact o1
  | ex n=>rw[e] at o1;exact λH' s=>o1 H' (R1.gr.hh.trans s)
  | no=>rw[e] at o1;exact o1
 ·exact o1.elim
end
section
variable {X:Cx}{cl:Nat->Addr}{E:XK}{L:List (Addr×Str)}
theorem zlU {K:qQ0}{H0 F0:Hp}{ρ:Rho}{caps:List Nat}{fe:qQ5}{es:List D}{J:It}{G:Hp->Prop}{vs:List V}{Fn:List V->Hp->Prop}(R:Rl K cl H0 F0 ρ σ H F)(hz:Zt L H)(W:Wlk J G vs)(hG:∀H'',Same F H''->G H'')(dq:Dts K cl F vs ds)(hl:ds.length<=1000000)
  (hc:xj yo fe (xT 1 caps ρ) ds=.ok es) (k:∀ys H' F',Gr F H F' H'->Dts K cl F' ys es->Fn ys H'):zaF (uq 0) (tDB K cl E0 yo) (λσ H Q=>Zt L H/\tDE K cl E0 fe σ H Q) (zdm [x] caps σ) Fn J H:=by
 have hzl:vs.length<=sizeLine:=sz6 (dq.length▸hl)
 refine zdw W hzl (λi ys H'=>∃F' es1 es2,Gr F H F' H'/\Dts K cl F' ys es1/\ys.length<=i/\es=es1++es2/\xj yo fe (xT 1 caps ρ) (ds.drop i)=.ok es2) ⟨F,[],es,Gr.refl R.fh,.nil,lB _,rfl,hc⟩ (λi ys H' _ ⟨F',_,_,g,_,h1,_⟩=>⟨hG H' (g.ff.trans g.fh),h1⟩) ?_ ?_
 ·rintro i v ys H' hv ⟨F',es1,es2,g,q1,hly,rfl,hc'⟩
  obtain⟨d,hd,qd⟩:=dq.get hv
  have hdr:ds.drop i=d::ds.drop (i+1):=by
   obtain⟨hk,e2⟩:=lO.mp hd
   rw[laB hk,e2]
  rw[hdr] at hc'
  unfold xj at hc'
  have R1:=(R.grow g).cap [x] caps
  have R2:Rl K cl H' F' ((xT 1 caps ρ).set 0 (.fz d)) ((zdm [x] caps σ).set 0 (some v)) H' F':=R1.set (qd.mono g.ff)
  refine⟨Kps.set rfl,H',F',_,F',R2,?_⟩
  have e1:yo ((xT 1 caps ρ).set 0 (.fz d))=.ok true:=rfl
  rw[e1] at hc'
  intro H2 F2 g2
  rw[lU rfl]
  cases e2:fe ((xT 1 caps ρ).set 0 (.fz d)) with
  | ok e =>
   simp only[e2] at hc'
   refine⟨(hz.same g.hh).same g2.hh,H',F',_,F2,R2.grow g2,?_⟩
   rw[e2]
   intro y H3 F3 g3 qy
   cases e3:xj yo fe (xT 1 caps ρ) (ds.drop (i+1)) with
   | ok es3 =>
    rw[e3] at hc'
    injection hc' with hc'
    exact⟨F3,es1++[e],es3,g.trans (g2.trans g3),(q1.mono (g2.ff.trans g3.ff)).append (.cons qy .nil),by simp;exact hly,by rw[← hc',la3];rfl,rfl⟩
   | ex n=>rw[e3] at hc';cases hc'
   | no=>rw[e3] at hc';cases hc'
  | ex n=>simp only[e2] at hc';cases hc'
  | no=>simp only[e2] at hc';cases hc'
 ·rintro ys H' ⟨F',es1,es2,g,q1,hly,rfl,hc'⟩
  rw[lav (by rw[dq.length];exact lB _)] at hc'
  injection hc' with hc'
  rw[← hc',lY] at k
  exact k ys H' F' g q1
variable {scope:Scope}{x:Str}{caps:List Nat}{elt tg iter:Expr}{fi:qQ4}{fe:qQ5}{pos:Pos}
structure CompDz (X:Cx)(L:List (Addr×Str))(cl:Nat->Addr)(scope:Scope)(x:Str)(caps:List Nat)(tg:Expr)(elt:Expr)(fe:qQ5):Prop where
 tgt:∀pins C ex s H,PG (cxC X pins scope [x] caps C ex s H) tg (uq 0)
 elm:∀pins C ex s H,XEz (cxC X pins scope [x] caps C ex s H) L cl E0 elt fe
theorem jY (hz:Zt L X.H₀)(ok:CompOk X scope caps)(hc:X.calm=true)(hi:XI X cl E tg iter fi)(CI:CompDz X L cl scope x caps tg elt fe)(hs:∀x,foldedSetIterable iter X.env x=pure x:=by intro _;rfl):XE X cl E (.ListComp elt [⟨tg,iter,[],0⟩] scope pos) (yU fi yo fe caps):=by
 have ci:CompIn X scope [x] caps tg [] elt (uq 0) (tDB X.K cl E0 yo) (λσ H Q=>Zt L H/\tDE X.K cl E0 fe σ H Q):=⟨CI.tgt,λpins C ex s H=>wu,CI.elm⟩
 intro pins s σ H Q I ⟨H0,F0,ρ,F,R,o⟩
 have hz1:=hz.un I.base
 refine ze4 ok hc hi ci hs pins s σ H Q I ⟨H0,F0,ρ,F,R,?_⟩
 have o':OutA X.K cl E H0 F H (fCp fi yo fe caps ρ) (λys H'=>∀D,H' D=none->Q (.ref D) (upd H' D (.lst ys))):=OutA.fst o λes ys H' F' g q o1=>by
  intro p hp
  have fh:=(R.grow g).fh
  exact o1 _ _ _ (Gr.new fh hp) (.lst (.inl (.inl zV)) (q.mono (Same.upd (fh.free hp))))
 clear o
 unfold fCp at o'
 cases e:fi ρ with
 | ok ds =>
  rw[e] at o'
  have o1:OutA X.K cl E H0 F H (if ds.length<=1000000 then xj yo fe (xT 1 caps ρ) ds else .no) (λys H'=>∀D,H' D=none->Q (.ref D) (upd H' D (.lst ys))):=o'
  intro J G vs H1 F1 g W hG dq
  split at o1
  ·rename_i hl
   cases e2:xj yo fe (xT 1 caps ρ) ds with
   | ok es=>rw[e2] at o1;exact zlU (R.grow g) (hz1.same g.hh) W hG dq hl e2 λys H' F' g' q=>o1 ys H' F' (g.trans g') q
   | ex n=>exact absurd e2 jc
   | no=>rw[e2] at o1;exact o1.elim
  ·exact o1.elim
 | ex n=>rw[e] at o';exact o'
 | no=>rw[e] at o';exact o'
end
def wg {α κ:Type}(lt:κ->κ->Bool):α×κ->List (α×κ)->α×κ
 | b,[]=>b
 | b,x::r=>if lt x.2 b.2=true then wg lt x r else wg lt b r
section
variable {X:Cx}{it S:Addr}{κ:Type}{xs:List (V×κ)}{tn:Nat->Heap->Prop}{Sq:Hp->Prop}{lt:κ->κ->Bool}{σ:St}
def zpM (X:Cx)(σ:St){κ:Type}(xs:List (V×κ))(lt:κ->κ->Bool)(Sq:Hp->Prop):Prop:=∀(x y:V×κ) (pins:List (Addr×Obj)) (s:Shared) (H:Hp) (u v:Value) (Q:qQ2) (E:qQ2),x∈xs->y∈xs->Inv X.in1 pins σ H s->Sq H->RelV x.1 u->RelV y.1 v->Q (.bool (lt x.2 y.2)) s ->
 wpAny (model X.prog X.w) X.A.in1 (richCompare .Lt u v) Q E s
theorem zgt (N:Nx X.in1 it (xs.map (·.1)) tn Sq)(hne:S≠it)(key:zpM X σ xs lt Sq):∀(n i:Nat) (pins:List (Addr×Obj)) (s:Shared) (H:Hp) (b:V×κ) (vb:Value) (c:Nat) (Q:VK) (R:Result->Shared->Prop),xs.length - i=n->b∈xs->Inv X.in1 pins σ H s->zax X pins H it->zax X pins H S ->
  s.heap.get? S=some (seqObj "list" #[vb,vb] c)->tn i s.heap->Sq H->RelV b.1 vb->Q (wg lt b (xs.drop i)).1 H->(∀v u H' s',Inv X.in1 pins σ H' s'->RelV v u->Q v H'->R (.ok (.ret u)) s') ->
  codeAny (model X.prog X.w) X.A (.builtin "min.loop" ⟨[.ref it,.none,.ref S],[]⟩) R s:=by
 have hname:(toString "min" ++ toString ".loop" : String) = "min.loop" := by decide
 intro n
 induction n with
 | zero =>
  intro i pins s H b vb c Q R hn hbm I fI fS hS st hq rb h hR
  rw[lav (by omega)] at h
  have h:Q b.1 H:=h
  refine la9 lbv ?_
  rw[la4 lai _]
  show wpAny _ X.A.in1 (seqItems? (.ref S) >>= _) _ _ _
  refine la (lau hS rfl ?_)
  show wpAny _ X.A.in1 (tryCatch (pyNext (.ref it)) _ >>= _) _ _ _
  refine la (laT (N.done i pins s σ H _ _ I fI st hq (by rw[lQ];omega) λh' k' I1=>?_))
  show wpAny _ X.A.in1 (updateSeq S (λ_=>#[]) >>= _) _ _ _
  refine la ?_
  refine lbG (k' S _ hne hS) rfl (la (lbh (lr ?_)))
  obtain⟨f0,f1,f2,f3,f4,f5⟩:=fS
  exact hR b.1 vb H _ (I1.turned (t':=s.toks) (λb o hb e=>((lah h' S _).2 b hb).trans e) f0 f1 f3 f4 f5) rb h
 | succ n ih =>
  intro i pins s H b vb c Q R hn hbm I fI fS hS st hq rb h hR
  have hi:i<xs.length:=by omega
  rw[laB hi] at h
  have hx:(xs.map (·.1))[i]? = some (xs[i]).1:=by rw[lJ,lh hi];rfl
  have hm:=laD hi
  generalize xs[i]=x at h hx hm
  unfold wg at h
  refine la9 lbv ?_
  rw[la4 lai _]
  show wpAny _ X.A.in1 (seqItems? (.ref S) >>= _) _ _ _
  refine la (lau hS rfl ?_)
  show wpAny _ X.A.in1 (tryCatch (pyNext (.ref it)) _ >>= _) _ _ _
  refine la (laT (N.item i x.1 pins s σ H _ _ I fI st hq hx λu h' ru k' I1 st'=>?_))
  have hS':=k' S _ hne hS
  show wpAny _ X.A.in1 (tryCatch (holding [u,u] (richCompare .Lt u vb >>= _)) _ >>= _) _ _ _
  refine la (laT (lak (la (key x b pins _ H u vb _ _ hm hbm I1 hq ru rb ?_))))
  refine la (lak (laN ?_))
  refine la (lbh (lr ?_))
  cases hb:lt x.2 b.2 with
  | true =>
   rw[hb,lU rfl] at h
   simp only[lbx]
   obtain⟨c2,hc2⟩:∃c2,(h'.update S (Obj.mapSeq λ_=>#[u,u])).get? S=some (seqObj "list" #[u,u] c2):=⟨_,lbV hS' λ_=>#[u,u]⟩
   refine la ?_
   refine lbG hS' rfl (la (lbh ?_))
   rw[hname]
   obtain⟨f0,f1,f2,f3,f4,f5⟩:=id fS
   have sb:=lah h' S (Obj.mapSeq λ_=>#[u,u])
   exact lr ⟨lbt lai _,ih (i+1) pins _ H x u c2 Q R (by omega) hm (I1.turned (t':=s.toks) (λb o hb e=>(sb.2 b hb).trans e) f0 f1 f3 f4 f5) fI fS hc2 (N.keep _ _ _ st' λo e=>(sb.2 it hne.symm).trans e) hq ru h hR⟩
  | false =>
   rw[hb,lac lH] at h
   simp only[lS,laU]
   refine la (lbh ?_)
   rw[hname]
   exact lr ⟨lbt lai _,ih (i+1) pins _ H b vb c Q R (by omega) hbm I1 fI fS hS' st' hq rb h hR⟩
theorem zgz (hc:X.calm=true){pins:List (Addr×Obj)}{s:Shared}{x0:V×κ}{r:List (V×κ)}{Q:VK}(key:zpM X σ (x0::r) lt Sq)(I:Inv X pins σ H s)(hs:∀H',Sq H'->SqL X.K H' a ((x0::r).map (·.1)))(hq:Sq H)(h:Q (wg lt x0 r).1 H) :
  wpAny (model X.prog X.w) X.A (call (.builtin "min") [.ref a]) (EP X pins σ Q) X.xe s:=by
 have hname:(toString "min" ++ toString ".loop" : String) = "min.loop" := by decide
 obtain⟨its,rv,pl,hz⟩:=I.list (hs H hq)
 refine call_function_tree PySem.F.kind_min PySem.F.plain_min PySem.F.entry_min (PySem.F.args_min1 _) ?_
 show wpAny _ X.A.in1 (Builtin.Builtins.bindParams "min" ["key", "default"] 0 ⟨[],[]⟩ >>= _) _ _ s
 refine la (lc0 (show Builtin.Builtins.bindParams "min" ["key", "default"] 0 ⟨[],[]⟩=pure [none,none] from rfl) ?_)
 refine la (lr ?_)
 generalize hoit:({cls:=.type "list_iterator", data:=.fields #[.ref a,.int 0 0]}:Obj)=oit
 refine la (lca pl.isList ?_)
 rw[hoit]
 refine la (lcr ?_ (lbq _))
 rw[hname]
 have N0:Nx X.in1 s.heap.objs.size ((x0::r).map (·.1)) (λi h=>h.IsListIter s.heap.objs.size a i) (λH=>SqL X.in1.K H a ((x0::r).map (·.1))):=zis (X:=X.in1) hc
 have N:Nx X.in1 s.heap.objs.size ((x0::r).map (·.1)) (λi h=>h.IsListIter s.heap.objs.size a i) Sq:=⟨N0.keep,N0.obj,λi x pins s σ H E Q I f t q=>N0.item i x pins s σ H E Q I f t (hs H q),λi pins s σ H E Q I f t q=>N0.done i pins s σ H E Q I f t (hs H q)⟩
 have st:((s.heap.push oit).push (seqObj "list" #[] 0)).IsListIter s.heap.objs.size a 0:=by rw[← hoit];exact⟨_,lg _ (lC _ rfl),rfl,rfl⟩
 have hSz:(s.heap.push oit).objs.size=s.heap.objs.size+1:=ldm ..
 have hne:(s.heap.push oit).objs.size≠s.heap.objs.size:=by rw[hSz];exact laJ (lcy _)
 have I0:Inv X.in1 pins σ H {s with heap:=(s.heap.push oit).push (seqObj "list" #[] 0)}:=I.in1.kept (t':=s.toks) λb o e=>lg _ (lg _ e)
 have fI:zax X pins H s.heap.objs.size:=I.fpOk (lB _) (I.hok.fresh (lB _))
 have fS:zax X pins H (s.heap.push oit).objs.size:=I.fpOk (by rw[hSz];omega) (I.hok.fresh (by rw[hSz];omega))
 have gS:((s.heap.push oit).push (seqObj "list" #[] 0)).get? (s.heap.push oit).objs.size=some (seqObj "list" #[] 0):=lC _ rfl
 refine lr ⟨lbt lai _,?_⟩
 refine la9 lbv ?_
 rw[la4 lai _]
 show wpAny _ X.A.in1 (seqItems? (.ref _) >>= _) _ _ _
 refine la (lau gS rfl ?_)
 show wpAny _ X.A.in1 (tryCatch (pyNext (.ref s.heap.objs.size)) _ >>= _) _ _ _
 refine la (laT (N.item 0 x0.1 pins _ σ H _ _ I0 fI st hq rfl λu h' ru k' I1 st'=>?_))
 have hS':=k' _ _ hne gS
 obtain⟨c2,hc2⟩:∃c2,(h'.update (s.heap.push oit).objs.size (Obj.mapSeq λ_=>#[u,u])).get? (s.heap.push oit).objs.size=some (seqObj "list" #[u,u] c2):=⟨_,lbV hS' λ_=>#[u,u]⟩
 show wpAny _ X.A.in1 (updateSeq (s.heap.push oit).objs.size (λ_=>#[u,u]) >>= _) _ _ _
 refine la ?_
 refine lbG hS' rfl ?_
 rw[hname]
 obtain⟨f0,f1,f2,f3,f4,f5⟩:=id fS
 have sb:=lah h' (s.heap.push oit).objs.size (Obj.mapSeq λ_=>#[u,u])
 exact lr ⟨lbt lai _,zgt N hne key _ 1 pins _ H x0 u c2 Q _ rfl lD (I1.turned (t':=s.toks) (λb o hb e=>(sb.2 b hb).trans e) f0 f1 f3 f4 f5) fI fS hc2 (N.keep _ _ _ st' λo e=>(sb.2 _ hne.symm).trans e) hq ru h λv u H' s' I2 rv q2=>⟨v,H',I2.unin1 I.ok,rv,q2⟩⟩
def zmw:D->Bool
 | .tup [.int _,.str _]=>true
 | _=>false
def isLt (a b:D):Bool:=match a,b with
 | .tup [.int i,.str l],.tup [.int j,.str m]=>if i=j then decide (l<m) else decide (i<j)
 | _,_=>false
def zf9 (ds:List D):D:=match ds with
 | []=>.non
 | x::r=>(wg isLt (x,x) (r.map λd=>(d,d))).1
def zhB:List D->Option D
 | [.lst ds]=>if ds.all zmw=true/\ds≠[] then some (zf9 ds) else none
 | _=>none
theorem zlc {d:D}(h:zmw d=true):∃i l,d=.tup [.int i,.str l]:=by
 unfold zmw at h
 split at h
 ·exact⟨_,_,rfl⟩
 ·cases h
theorem zay {lt:D->D->Bool}:∀(vs:List V) (ds:List D) (v:V) (d:D),vs.length=ds.length->(wg lt (v,d) (vs.zip ds)).2=(wg lt (d,d) (ds.map λd=>(d,d))).1
 | [],[],v,d,_=>rfl
 | w::vs,e::ds,v,d,h=>by
  rw[lb4,lF]
  unfold wg
  show(if lt e d=true then wg lt (w,e) (vs.zip ds) else wg lt (v,d) (vs.zip ds)).2=(if lt e d=true then wg lt (e,e) (ds.map λd=>(d,d)) else wg lt (d,d) (ds.map λd=>(d,d))).1
  split
  ·exact zay vs ds w e (lc8 h)
  ·exact zay vs ds v d (lc8 h)
theorem zap {α κ:Type}{lt:κ->κ->Bool}:∀(r:List (α×κ)) (b:α×κ),wg lt b r∈b::r
 | [],b=>by simp[wg]
 | x::r,b=>by
  unfold wg
  split
  ·exact lz _ (zap r x)
  ·rcases lI.mp (zap r b) with h|h
   ·rw[h];exact lD
   ·exact lz _ (lz _ h)
theorem zih {K:qQ0}{cl:Nat->Addr}{F:Hp}:∀{vs:List V}{ds:List D},Dts K cl F vs ds->∀p∈vs.zip ds,Dt K cl F p.1 p.2
 | _,_,.nil,p,h=>by cases h
 | _,_,.cons q r,p,h=>by
  rw[lb4] at h
  rcases lI.mp h with rfl|h
  ·exact q
  ·exact zih r p h
theorem zlx {i j:Int}{l m:List Nat}:isLt (.tup [.int i,.str l]) (.tup [.int j,.str m])=jo [.inl i,.inr (T l)] [.inl j,.inr (T m)]:=by
 show(if i=j then decide (l<m) else decide (i<j))=if (Sum.inl i:Key)=.inl j then(if (Sum.inr (T l):Key)=.inr (T m) then jo [] [] else zgS (.inr (T l)) (.inr (T m))) else zgS (.inl i) (.inl j)
 by_cases h:i=j
 ·rw [lU h,lU (by rw[h])]
  by_cases e:l=m
  ·subst e
   rw[lU rfl]
   exact laa (lb7 l)
  ·rw[lac (λz=>e (by have:=lbB (λz=>z.cps.toList) (Sum.inr.inj z);simpa [T] using this))]
   show _=decide ((T l).cps.toList<(T m).cps.toList)
   rw[zac,zac]
 ·rw[lac h,lac (λz=>h (Sum.inl.inj z))];rfl
theorem zec (hc:X.calm=true)(hu:X.A.units+20<cLine):qP X (.builtin "min") (λxs H Q=>∃(a:Addr) (vs:List V) (ds:List D) (F:Hp),xs=[.ref a]/\Same F H/\SqL X.K F a vs/\Dts X.K cl F vs ds/\ds.all zmw=true/\ds≠[]/\∀v,Dt X.K cl F v (zf9 ds)->Q v H):=by
 intro pins s σ H xs us Q I r h
 obtain⟨a,vs,ds,F,rfl,sm,sq,dq,hi,hne,q⟩:=h
 obtain⟨u,rfl,ru⟩:=vals1 r
 cases ru
 cases dq with
 | nil=>exact absurd rfl hne
 | cons q0 qr =>
  rename_i v0 d0 vr dr
  have hl:=qr.length
  have all:∀p∈(v0,d0)::vr.zip dr,Dt X.K cl F p.1 p.2:=λp hp=>by
   rcases lI.mp hp with rfl|hp
   ·exact q0
   ·exact zih qr p hp
  have alli:∀p∈(v0,d0)::vr.zip dr,zmw p.2=true:=λp hp=>by
   rcases lI.mp hp with rfl|hp
   ·exact lZ.mp hi _ lD
   ·exact lZ.mp hi _ (lz _ (lcb hp).2)
  have em:((v0,d0)::vr.zip dr).map (·.1)=v0::vr:=by
   rw[lF,List.map_fst_zip (by omega)]
  refine zgz (Sq:=λH'=>Same F H') (lt:=isLt) (x0:=(v0,d0)) (r:=vr.zip dr) hc (λx y pins s H u v Q E hx hy I sm ru rv hQ=>?_) I (λH' s'=>by rw[em];exact s'.seq sq) sm (q _ ?_)
  ·have tup:∀p∈(v0,d0)::vr.zip dr,∃a i l,p.1=.ref a/\p.2=.tup [.int i,.str l]/\TupAt s.heap [.inl i,.inr (T l)] a:=λp hp=>by
    obtain⟨i,l,e⟩:=zlc (alli p hp)
    have dt:=all p hp
    rw[e] at dt
    obtain⟨p1,p2⟩:=p
    cases dt with
    | tup sq dq =>
     cases dq with
     | cons q1 dq =>
     cases dq with
     | cons q2 dq =>
     cases dq
     cases q1
     cases q2
     obtain⟨ws,r1,⟨o,g,c,n,d⟩,_⟩:=I.tuple (sm.seqT sq)
     exact⟨_,i,l,rfl,e,ws,o,n,r1,g,c,d⟩
   obtain⟨ax,i,l,e1,e2,t1⟩:=tup x hx
   obtain⟨ay,j,m,e3,e4,t2⟩:=tup y hy
   rw[e1] at ru
   rw[e3] at rv
   rw[e2,e4,zlx] at hQ
   cases ru
   cases rv
   exact zoj (show X.A.in1.units<cLine by show X.A.units+1<cLine;omega) t1 t2 rfl hQ
  ·have:=all _ (zap (lt:=isLt) (vr.zip dr) (v0,d0))
   rw[zay vr dr v0 d0 hl] at this
   exact this
theorem zkE {K:qQ0}:Fn1 K cl (λxs H Q=>∃(a:Addr) (vs:List V) (ds:List D) (F:Hp),xs=[.ref a]/\Same F H/\SqL K F a vs/\Dts K cl F vs ds/\ds.all zmw=true/\ds≠[]/\∀v,Dt K cl F v (zf9 ds)->Q v H) zhB:=λF H vs ds d Q s q e k=>by
 match ds,q,e with
 | [.lst l],q,e =>
  obtain⟨v,rfl,q1⟩:=q.one
  dsimp only [zhB] at e
  split at e
  ·rename_i h
   obtain rfl:=lq e
   cases q1 with
   | lst sq dq=>exact⟨_,_,l,F,rfl,s,sq,dq,h.1,h.2,λv qv=>k v H F (Gr.refl s) qv⟩
  ·cases e
end
end L2
set_option maxHeartbeats 4000000
namespace Pg
open PySem L2 PyProof.Rows
def zbl:Rho->Out :=
  (yR (zaY (fA (ari 1 zL) (zj (fNm 0) zE)) (fA (ari 3 xq) (zj (fNm 1) (zj (fNm 0) (zj (fC (.int 32)) zE))))))
def zcw:List D->Rs D:=z8 2 zbl
def uz:Rho->Out :=
  (sIf (za6 (bT (fA (ari 2 zcw) (zj (fNm 0) (zj (fNm 1) zE)))))
  (sRs 5 (zj (fC (.str [116,104,105,115,32,105,115,32,110,111,32,115,105,122,101,32,102,114,111,109,32,97,115,32,109,97,110,121,32,97,115,32,116,104,101,114,101,32,97,114,101,32,108,101,116,116,101,114,115,44,32,50,32,116,111,32,52,44,32,116,111,32,51,50])) zE))
  sNx)
def zX:List D->Rs D:=z8 2 uz
def vB:Rho->Out :=
  (yR (f2 ze8 (f2 zdo (fNm 1) (fC (.int 1))) (f2 zdo (fNm 0) (fC (.int 1)))))
def qj:List D->Rs D:=z8 2 vB
def qW:Rho->Out :=
  (zW (zlA 2)
  (zW (kh (uN 3 (fI lsD (fNm 1))
  (uN 4 (fI tpD (fNm 3))
  (ziZ 2 (fA (ari 3 zeo) (zj (fNm 0) (zj (fNm 3) (zj (fNm 4) zE)))) (fC (.bl true))))))
  (yR (fLs (fST 2)))))
def j6:List D->Rs D:=z8 5 qW
def jF:Rho->Out :=
  (zW (wW (fA (ari 2 zX) (zj (fNm 0) (zj (fNm 1) zE))))
  (zW (xJ 2 (fO mkL (zj (fA (ari 1 j9) (zj (fNm 0) zE)) zE)))
  (zW (wR 3 (fL znC (zj (fNm 2) zE)))
  (zW (kh (uN 4 (fR zpe (zj (fC (.int 1)) (zj (fA (ari 2 qj) (zj (fNm 0) (zj (fNm 1) zE))) zE)))
  (zW (xJ 2 (fA (ari 2 j6) (zj (fNm 0) (zj (fNm 2) zE))))
  (zoI 3 (fNm 2)))))
  (za8 3 (yR (fNm 3)))))))
def wO:List D->Rs D:=z8 5 jF
end Pg
set_option maxHeartbeats 1000000
namespace Pg
open PySem L2 My
section
variable {ws:List Int}(h:zjg ws)
include h
end
section
variable {ws:List Int}(h:zjg ws)
include h
end
variable {m s:Nat}
def zpX:D->qQ1
 | .tup ds=>ds.map unS
 | _=>[]
def zp0:Rs D->List (qQ1)
 | .ok (.lst ds)=>ds.map zpX
 | _=>[]
def AB (m s:Nat):List (qQ1):=zp0 (wO [.int m,.int s])
def encL (L:List (qQ1)):D:=.lst (L.map λB=>.tup (sT B))
def Comb (m s:Nat):Prop:=(m=2/\2<=s/\s<=5)∨(m=3/\3<=s/\s<=7)∨(m=4/\4<=s/\s<=7)
theorem Comb.cases {P:Nat->Nat->Prop}(h:Comb m s)(a1:P 2 2)(a2:P 2 3)(a3:P 2 4)(a4:P 2 5)(b1:P 3 3)(b2:P 3 4)(b3:P 3 5)(b4:P 3 6)(b5:P 3 7)(c1:P 4 4)(c2:P 4 5)(c3:P 4 6)(c4:P 4 7):P m s:=by
 rcases h with⟨rfl,h1,h2⟩|⟨rfl,h1,h2⟩|⟨rfl,h1,h2⟩
 ·have:s=2∨s=3∨s=4∨s=5:=by omega
  rcases this with rfl|rfl|rfl|rfl <;>assumption
 ·have:s=3∨s=4∨s=5∨s=6∨s=7:=by omega
  rcases this with rfl|rfl|rfl|rfl|rfl <;>assumption
 ·have:s=4∨s=5∨s=6∨s=7:=by omega
  rcases this with rfl|rfl|rfl|rfl <;>assumption
theorem zoH (h:Comb m s):wO [.int m,.int s]=.ok (encL (AB m s)):= by
 refine h.cases (P:=λm s=>wO [.int m,.int s]=.ok (encL (AB m s))) ?_ ?_ ?_ ?_ ?_ ?_ ?_ ?_ ?_ ?_ ?_ ?_ ?_ <;>kernel_rfl
def zoe (m s:Nat):Bool:=(AB m s).all (λB=>isBook m B&&decide (B.length<=s)&&decide (0<B.length)&&B.all (λp=>decide (p.length<=5)&&decide (0<p.length)&&p.all λc=>decide (97<=c)&&decide (c<97+m)))&&decide ((AB m s).head? = some (kids m []))&&decide ((AB m s).length<=30)
theorem zk2 (h:Comb m s):zoe m s=true:=by
 refine h.cases (P:=λm s=>zoe m s=true) ?_ ?_ ?_ ?_ ?_ ?_ ?_ ?_ ?_ ?_ ?_ ?_ ?_ <;>kernel_rfl
theorem Comb.m2 (h:Comb m s):2<=m/\m<=4/\m<=s/\s<=7:=by unfold Comb at h;omega
theorem zl0 (h:Comb m s):∃L,AB m s=kids m []::L:=by
 have:=zk2 h
 unfold zoe at this
 simp only[lM,laA] at this
 have e:=this.1.2
 cases q:AB m s with
 | nil=>rw[q] at e;cases e
 | cons B L=>rw[q] at e;exact⟨L,by rw[lq e]⟩
theorem zkm (h:Comb m s):(AB m s).length<=30:=by
 have:=zk2 h
 unfold zoe at this
 simp only[lM,laA] at this
 exact this.2
theorem zik (h:Comb m s){B:qQ1}(hB:B∈AB m s):Pcs m B/\isBook m B=true/\B.length<=s/\∀p∈B,LetOk m p/\p.length<=5:=by
 have:=zk2 h
 unfold zoe at this
 simp only[lM,laA] at this
 have q:=lZ.mp this.1.1 B hB
 simp only[lM,laA,lZ] at q
 obtain⟨⟨⟨q1,q2⟩,q3⟩,q4⟩:=q
 obtain⟨m2,m4,h1,h2⟩:=h.m2
 have ps:∀p∈B,LetOk m p/\p.length<=5:=λp hp=>⟨λc hc=>(q4 p hp).2 c hc,(q4 p hp).1.1⟩
 exact⟨⟨m2,m4,λz=>(by rw[z] at q3;simp at q3),by omega,λp hp=>⟨(ps p hp).1,λz=>(by have:=(q4 p hp).1.2;rw[z] at this;simp at this),by have:=(ps p hp).2;omega⟩⟩,q1,q2,ps⟩
def zmE (x:List Nat):qQ1->qQ1
 | []=>[x]
 | y::ys=>if zg3 y x then y::zmE x ys else x::y::ys
def zhD (ls:qQ1):qQ1:=ls.foldr zmE []
theorem zbO (x:List Nat):∀ys:qQ1,(zmE x ys).Perm (x::ys)
 | []=>lbk _
 | y::ys=>by
  unfold zmE
  split
  ·exact((zbO x ys).cons y).trans (List.Perm.swap x y ys)
  ·exact lbk _
theorem zf4 {x:List Nat}:∀{ys:qQ1},ys.Pairwise (·<=·)->(zmE x ys).Pairwise (·<=·)
 | [],_=>lcR _ _
 | y::ys,h=>by
  obtain⟨h1,h2⟩:=laC.mp h
  unfold zmE
  by_cases e:zg3 y x=true
  ·rw[lU e]
   refine laC.mpr ⟨λz hz=>?_,zf4 h2⟩
   rcases lI.mp ((zbO x ys).mem_iff.mp hz) with rfl|hz
   ·exact ldl (nlLt_iff.mp e)
   ·exact h1 z hz
  ·rw[lac e]
   have hxy:x<=y:=la8.mp λz=>e (nlLt_iff.mpr z)
   refine laC.mpr ⟨λz hz=>?_,h⟩
   rcases lI.mp hz with rfl|hz
   ·exact hxy
   ·exact lee hxy (h1 z hz)
theorem zcD:∀ls:qQ1,(zhD ls).Perm ls/\(zhD ls).Pairwise (·<=·)
 | []=>⟨lbk _,List.Pairwise.nil⟩
 | x::ls=>by
  obtain⟨p,q⟩:=zcD ls
  exact⟨(zbO x _).trans (p.cons x),zf4 q⟩
def znR:List D->Option (List D)
 | [.lst ds]=>if ds.all isS=true/\ds.length<64 then some ((zhD (ds.map unS)).map .str) else none
 | [.tup ds]=>if ds.all isS=true/\ds.length<64 then some ((zhD (ds.map unS)).map .str) else none
 | _=>none
theorem zj5:zdQ=znR:=by
 have e:∀ls:qQ1,sortF ls=zhD ls:=λls=>(sortF_eq (zcD ls).2 (zcD ls).1).symm
 funext ds
 match ds with
 | []=>rfl
 | [.lst l]=>show zcR l=_;unfold zcR;rw[e];rfl
 | [.tup l]=>show zcR l=_;unfold zcR;rw[e];rfl
 | [.non]=>rfl
 | [.bl _]=>rfl
 | [.int _]=>rfl
 | [.str _]=>rfl
 | [.dct _]=>rfl
 | [.exc _]=>rfl
 | a::_::_=>cases a <;>rfl
end Pg
set_option maxHeartbeats 4000000
namespace Pg
open PySem L2 PyProof.Rows
def zaD:Rho->Out :=
  (zW (xJ 2 (fA (ari 2 zbC) (zj (fNm 0) (zj (fNm 1) zE))))
  (yR (fIf (bT (f2 (eqD false) (f2 ixD (fNm 2) (fC (.int 1))) (fC (.str [])))) (fO jj (zj (f2 ixD (fNm 2) (fC (.int 0))) zE)) (f2 u6 (fO jj (zj (f2 ixD (fNm 2) (fC (.int 0))) zE)) (fC (.int 1))))))
def yM:List D->Rs D:=z8 3 zaD
def jN:Rho->Out :=
  (zW (wW (fA (ari 2 zU) (zj (fNm 0) (zj (fNm 1) zE))))
  (zW (wW (fA (ari 2 zT) (zj (fNm 0) (zj (fNm 2) zE))))
  (yR (fA (ari 2 yM) (zj (fNm 1) (zj (fNm 2) zE))))))
def xV:List D->Rs D:=z8 3 jN
def zat:Rho->Out :=
  (zW (wW (fA (ari 2 zX) (zj (fNm 0) (zj (fNm 1) zE))))
  (zW (wW (fA (ari 2 zT) (zj (fNm 0) (zj (fNm 2) zE))))
  (yR (zkF unL ltL (fA (ari 2 wO) (zj (fNm 0) (zj (fNm 1) zE))) (fA (ari 2 yM) (zj (fNm 0) (zj (fNm 1) zE))) [2]))))
def yE:List D->Rs D:=z8 3 zat
def uI:Rho->Out :=
  (yR (fA (ari 2 yM) (zj (fA (ari 3 yE) (zj (fNm 0) (zj (fNm 1) (zj (fNm 2) zE)))) (zj (fNm 2) zE))))
def xg:List D->Rs D:=z8 3 uI
def wG:Rho->Out :=
  (sIf (za6 (bT (fA (ari 3 xq) (zj (fNm 0) (zj (fNm 1) (zj (fNm 2) zE))))))
  (sRs 5 (zj (fC (.str [116,104,105,115,32,105,115,32,110,111,32,119,104,111,108,101,32,110,117,109,98,101,114,32,119,105,116,104,105,110,32,105,116,115,32,98,111,117,110,100,115])) zE))
  sNx)
def yg:List D->Rs D:=z8 3 wG
def zbR:Rho->Out :=
  (zW (wW (fA (ari 2 zU) (zj (fNm 0) (zj (fNm 1) zE))))
  (zW (wW (fA (ari 3 yg) (zj (fNm 2) (zj (fC (.int 1)) (zj (fC (.int 5)) zE)))))
  (zW (xJ 3 (zkF unT ltG (fA (ari 2 v8) (zj (fNm 0) (zj (fNm 2) zE))) (fA (ari 2 yM) (zj (fNm 1) (zj (fNm 0) zE))) [1]))
  (yR (fO mkT (zj (fNm 3) (zj (fA (ari 2 yM) (zj (fNm 1) (zj (fNm 3) zE))) zE)))))))
def vm:List D->Rs D:=z8 4 zbR
end Pg
set_option maxHeartbeats 1000000
namespace Pg
open PySem L2 My
variable {fa fb:qQ5}{B:qQ1}{l:List Nat}{m s n:Nat}{α:Type}
def Wc (B:qQ1)(l:List Nat):Nat:=(wA B l).1.length+(if (wA B l).2=[] then 0 else 1)
theorem jm {ft:qQ6}{ρ:Rho}{b:Bool}{r:Rs D}(e1:ft ρ=.ok b)(e2:(if b=true then fa ρ else fb ρ)=r):fIf ft fa fb ρ=r:=by unfold fIf;rw[e1];exact e2
theorem vy (hl:l.length<=1000):yM [.tup (sT B),.str l]=.ok (.int (Wc B l:Int)):=by
 refine ye ((zB (yP (cA2 (a:=.tup (sT B)) (b:=.str l) rfl rfl (zhk hl)))).trans (xQ ?_))
 have e0:fO jj (zj (f2 ixD (fNm 2) (fC (.int 0))) zE) [.fz (.tup (sT B)),.fz (.str l),.fz (.tup [.lst (sT (wA B l).1),.str (wA B l).2])]=.ok (.int ((wA B l).1.length:Int)):=by
  show Rs.ok (D.int (((sT (wA B l).1).length:Nat):Int))=_
  rw[wN]
 refine jm (b:=decide ((wA B l).2=[])) (vK (xM (a:=.str (wA B l).2) (b:=.str []) rfl rfl (zdg false _ []))) ?_
 unfold Wc
 by_cases h:(wA B l).2=[]
 ·rw[lX h,lU rfl,lU h,Nat.add_zero];exact e0
 ·rw[laa h,lac (by decide),lac h]
  exact(uG e0 (j:=1) rfl).trans (by rw[Int.natCast_add];rfl)
theorem zeb (h:Bb m B)(hx:LetOk m l)(hl:l.length<=1000):xV [.int m,.tup (sT B),.str l]=.ok (.int (Wc B l:Int)) :=
 ye ((zB (w6 (cA2 (a:=.int m) (b:=.tup (sT B)) rfl rfl (xW h.pcs h.isB)))).trans ((zB (w6 (cA2 (a:=.int m) (b:=.str l) rfl rfl (q9 h.bk.m4 hx (by omega))))).trans (xQ (cA2 (a:=.tup (sT B)) (b:=.str l) rfl rfl (vy hl)))))
section
variable {α:Type}{lt:Int->Int->Bool}{k:α->Int}{enc:α->D}{fk:D->Rs D}
def zbw (lt:Int->Int->Bool)(k:α->Int):α->List α->α
 | b,[]=>b
 | b,x::r=>if lt (k x) (k b)=true then zbw lt k x r else zbw lt k b r
theorem zbF:∀(l:List α) (b:α),(∀x∈l,fk (enc x)=.ok (.int (k x)))->jw lt fk (enc b) (k b) (l.map enc)=.ok (enc (zbw lt k b l))
 | [],b,_=>rfl
 | x::l,b,h=>by
  rw[lF]
  unfold jw zbw
  simp only[h x (.head _)]
  split
  ·exact zbF l x λy hy=>h y (.tail _ hy)
  ·exact zbF l b λy hy=>h y (.tail _ hy)
theorem zgh {l:List α}{b:α}(h:∀x∈b::l,fk (enc x)=.ok (.int (k x))):zhs lt fk ((b::l).map enc)=.ok (enc (zbw lt k b l)):=by
 rw[lF]
 unfold zhs
 simp only[h b (.head _)]
 exact zbF l b λy hy=>h y (.tail _ hy)
theorem zaW:∀(l:List α) (b:α),zbw lt k b l∈b::l
 | [],b=>by simp[zbw]
 | x::l,b=>by
  unfold zbw
  split
  ·exact lz _ (zaW l x)
  ·rcases lI.mp (zaW l b) with h|h
   ·rw[h];exact lD
   ·exact lz _ (lz _ h)
theorem ze7:∀(l:List α) (b:α),∀x∈b::l,k (zbw ltL k b l)<=k x
 | [],b,x,h=>by rw[lR.mp h];exact Int.le_refl _
 | y :: l,b,x,h=>by
  unfold zbw
  by_cases e:k y<k b
  ·rw[lU (show ltL (k y) (k b)=true from lX e)]
   have:=ze7 l y
   rcases lI.mp h with rfl|h
   ·have:=this y lD;omega
   ·exact this x h
  ·rw [lac (by unfold ltL;simp[e])]
   have:=ze7 l b
   rcases lI.mp h with rfl|h
   ·exact this x lD
   ·rcases lI.mp h with rfl|h
    ·have:=this b lD;omega
    ·exact this x (lz _ h)
theorem zaB:∀(l:List α) (b:α),(∀x∈b::l,k x<=k (zbw ltG k b l))/\∃i:Nat,(b::l)[i]? = some (zbw ltG k b l)/\∀(j:Nat) (y:α),j<i->(b::l)[j]? = some y->k y<k (zbw ltG k b l)
 | [],b=>⟨λx h=>by rw[lR.mp h];exact Int.le_refl _,0,rfl,λj y hj=>absurd hj (Nat.not_lt_zero _)⟩
 | x :: l,b=>by
  unfold zbw
  by_cases e:k b<k x
  ·rw [lU (show ltG (k x) (k b)=true from lX e)]
   obtain⟨h1,i,h2,h3⟩:=zaB l x
   have hx:=h1 x lD
   refine⟨λy hy=>?_,i+1,h2,λj y hj hy=>?_⟩
   ·rcases lI.mp hy with rfl|hy
    ·exact Int.le_trans (Int.le_of_lt e) hx
    ·exact h1 y hy
   ·cases j with
    | zero=>obtain rfl:=lq hy;exact Int.lt_of_lt_of_le e hx
    | succ j=>exact h3 j y (by omega) hy
  ·rw [lac (by unfold ltG;simp[e])]
   obtain⟨h1,i,h2,h3⟩:=zaB l b
   have hb:=h1 b lD
   refine⟨λy hy=>?_,?_⟩
   ·rcases lI.mp hy with rfl|hy
    ·exact hb
    ·rcases lI.mp hy with rfl|hy
     ·exact Int.le_trans (Int.not_lt.mp e) hb
     ·exact h1 y (lz _ hy)
   ·cases i with
    | zero=>exact⟨0,h2,λj y hj=>absurd hj (Nat.not_lt_zero _)⟩
    | succ i =>
     have h0:=h3 0 b (lc9 _) rfl
     refine⟨i+2,h2,λj y hj hy=>?_⟩
     match j,hj,hy with
     | 0,_,hy=>obtain rfl:=lq hy;exact h0
     | 1,_,hy=>obtain rfl:=lq hy;exact Int.lt_of_le_of_lt (Int.not_lt.mp e) h0
     | j+2,hj,hy=>exact h3 (j+1) y (by omega) hy
theorem ziB {l:List Int}{i:Nat}{x:Int}(h:l[i]? = some x)(hn:∀(j:Nat) (y:Int),j<i->l[j]? = some y->y≠x):l.idxOf x=i:=by
 induction l generalizing i with
 | nil=>simp at h
 | cons a l ih =>
  cases i with
  | zero=>obtain rfl:=lq h;simp
  | succ i =>
   have ha:a≠x:=hn 0 a (lc9 _) rfl
   rw[List.idxOf_cons,lcD.mpr ha,ih (by simpa using h) λj y hj hy=>hn (j+1) y (by omega) (by simpa using hy)]
   rfl
end
def bfB (m s:Nat)(l:List Nat):qQ1:=zbw ltL (λB=>(Wc B l:Int)) (kids m []) (AB m s).tail
theorem zdj (h:Comb m s):AB m s=kids m []::(AB m s).tail:=by obtain⟨L,e⟩:=zl0 h;rw[e];rfl
theorem zmc (h:Comb m s)(l:List Nat):bfB m s l∈AB m s:=by rw[zdj h];exact zaW _ _
theorem zmS (h:Comb m s)(l:List Nat)(hB:B∈AB m s):Wc (bfB m s l) l<=Wc B l:=by
 rw[zdj h] at hB
 have:=ze7 (k:=λB=>(Wc B l:Int)) (AB m s).tail (kids m []) B hB
 exact Int.ofNat_le.mp this
theorem size_eq (h:Comb m s):zX [.int m,.int s]=.ok .non:=by
 refine h.cases (P:=λm s=>zX [.int m,.int s]=.ok .non) ?_ ?_ ?_ ?_ ?_ ?_ ?_ ?_ ?_ ?_ ?_ ?_ ?_ <;>kernel_rfl
theorem zhj {un:D->Option (List D)}{lt:Int->Int->Bool}{caps:List Nat}{ρ:Rho}{d:D}{ds:List D}{r:Rs D}(e1:fa ρ=.ok d)(e2:un d=some ds)(e3:zhs lt (λx=>fb ((xT 1 caps ρ).set 0 (.fz x))) ds=r):zkF un lt fa fb caps ρ=r:=by
 unfold zkF
 rw[e1]
 show(match un d with|some ds=>zhs lt (λx=>fb ((xT 1 caps ρ).set 0 (.fz x))) ds|none=>.no)=r
 rw[e2];exact e3
theorem zbZ (h:Comb m s)(hx:LetOk m l)(hl:l.length<=1000):yE [.int m,.int s,.str l]=.ok (.tup (sT (bfB m s l))):=by
 obtain⟨m2,m4,_⟩:=h.m2
 refine ye ((zB (w6 (cA2 (a:=.int m) (b:=.int s) rfl rfl (size_eq h)))).trans ((zB (w6 (cA2 (a:=.int m) (b:=.str l) rfl rfl (q9 m4 hx (by omega))))).trans (xQ ?_)))
 refine zhj (d:=encL (AB m s)) (ds:=(AB m s).map λB=>.tup (sT B)) (cA2 (a:=.int m) (b:=.int s) rfl rfl (zoH h)) rfl ?_
 rw[zdj h]
 exact zgh (k:=λB=>(Wc B l:Int)) (enc:=λB=>D.tup (sT B)) λB _=>cA2 (a:=.tup (sT B)) (b:=.str l) rfl rfl (vy hl)
theorem ziM (h:Comb m s)(hx:LetOk m l)(hl:l.length<=1000):xg [.int m,.int s,.str l]=.ok (.int (Wc (bfB m s l) l:Int)) :=
 ye (xQ (cA2 (a:=.tup (sT (bfB m s l))) (b:=.str l) (cA3 (a:=.int m) (b:=.int s) (c:=.str l) rfl rfl rfl (zbZ h hx hl)) rfl (vy hl)))
theorem zlK (m4:m<=4)(hn:n<=3):v8 [.int m,.int n]=.ok (.tup (sT (zY m n))):=by
 obtain ⟨ρ',e,s,rfl⟩:=vN (i:=3) (g:=xJ 2 (fA (ari 2 yp) (zj (fNm 0) (zj (fNm 2) zE)))) (l:=List.range n) (enc:=λ(k:Nat)=>D.int (k:Int)) (ρ:=[.fz (.int m),.fz (.int n),.fz (.lst (sT [[]])),.no])
  (λk ρ=>∃s,ρ=[.fz (.int m),.fz (.int n),.fz (.lst (sT (zY m k))),s]) ⟨.no,rfl⟩ (λk x ρ hc ⟨s,e⟩=>by
   subst e
   have hk:k<n:=by have:=(lO.mp hc).1;simpa using this
   have hl:(zY m k).length<=64:=by
    have h0:=zaq m m4 [[]]
    have h1:=zaq m m4 (zY m 1)
    have h2:=zaq m m4 (zY m 2)
    have:k=0∨k=1∨k=2:=by omega
    rcases this with rfl|rfl|rfl
    ·show 1<=64;decide
    ·exact lar h0 (by decide)
    ·have h0':(zY m 1).length<=4:=h0
     have h1':(zY m 2).length<=4*(zY m 1).length:=h1
     omega
   refine⟨_,yP (cA2 (a:=.int m) (b:=.lst (sT (zY m k))) rfl rfl (zcx _ (λy hy=>?_) (by omega))),.fz (.int (x:Int)),rfl⟩
   have:=((kY m4).mp hy).1
   omega)
 rw[lbA] at e
 exact ye ((zB (yP (d:=.lst (sT [[]])) rfl)).trans ((zB (uX ((uD (zhg (ds:=[.int (n:Int)]) rfl (jP (by omega)))).trans e))).trans rfl))
def drT (m:Nat)(B:qQ1)(n:Nat):List Nat:=zbw ltG (λx=>(Wc B x:Int)) ((zY m n).headD []) (zY m n).tail
theorem zbo (m2:2<=m)(m4:m<=4)(n:Nat):zY m n=(zY m n).headD []::(zY m n).tail:=by
 cases e:zY m n with
 | nil =>
  exfalso
  have:List.replicate n 97∈zY m n:=(kY m4).mpr ⟨by simp,λc hc=>by rw[List.eq_of_mem_replicate hc];omega⟩
  rw[e] at this;cases this
 | cons x r=>rfl
theorem zgA (h1:1<=n)(h5:n<=5):yg [.int n,.int 1,.int 5]=.ok .non:=by
 refine zfq (ifF (jH (b:=true) (vK (cA3 (a:=.int n) (b:=.int 1) (c:=.int 5) rfl rfl rfl ((jn _ _ _).trans ?_)))))
 rw[lX (by omega:(1:Int)<=n),lX (by omega:(n:Int)<=5)];rfl
theorem zck (h:Bb m B)(h1:1<=n)(h3:n<=3):vm [.int m,.tup (sT B),.int n]=.ok (.tup [.str (drT m B n),.int (Wc B (drT m B n):Int)]):=by
 have m2:=h.bk.m2
 have m4:=h.bk.m4
 have el:∀x∈zY m n,x.length<=1000:=λx hx=>by have:=((kY m4).mp hx).1;omega
 have dm:drT m B n∈zY m n:=by rw[zbo m2 m4 n];exact zaW _ _
 refine ye ((zB (w6 (cA2 (a:=.int m) (b:=.tup (sT B)) rfl rfl (xW h.pcs h.isB)))).trans ((zB (w6 (cA3 (a:=.int n) (b:=.int 1) (c:=.int 5) rfl rfl rfl (zgA h1 (by omega))))).trans ((zB (yP (d:=.str (drT m B n)) ?_)).trans (xQ (zdv (ds:=[.str (drT m B n),.int (Wc B (drT m B n):Int)]) (zZ rfl (zZ (cA2 (a:=.tup (sT B)) (b:=.str (drT m B n)) rfl rfl (vy (el _ dm))) rfl)) rfl)))))
 refine zhj (d:=.tup (sT (zY m n))) (ds:=sT (zY m n)) (cA2 (a:=.int m) (b:=.int n) rfl rfl (zlK m4 h3)) rfl ?_
 have ec:=zbo m2 m4 n
 show zhs ltG _ ((zY m n).map D.str)=.ok (.str (zbw ltG (λx=>(Wc B x:Int)) ((zY m n).headD []) (zY m n).tail))
 rw[show(zY m n).map D.str=((zY m n).headD []::(zY m n).tail).map D.str from by rw[← ec]]
 exact zgh (k:=λx=>(Wc B x:Int)) (enc:=D.str) λx hx=>cA2 (a:=.tup (sT B)) (b:=.str x) rfl rfl (vy (el x (by rw[ec];exact hx)))
theorem ze9 (l:List α)(f:α->Int):(l.map λx=>D.int (f x)).map unN=l.map f:=by rw[laK];rfl
theorem zhh (l:List α)(f:α->Int):(l.map λx=>D.int (f x)).all isI=true:=by rw[lb2];exact lZ.mpr λ_ _=>rfl
theorem znQ {l:List α}{f:α->Int}{x:α}(hx:x∈l)(h:∀y∈l,f x<=f y):zgX [.lst (l.map λx=>.int (f x))]=some (.int (f x)):=by
 have hn:l≠[]:=λz=>by rw[z] at hx;cases hx
 refine(lU ⟨zhh l f,by simpa using hn⟩).trans ?_
 rw[ze9]
 obtain⟨h1,h2⟩:=zdK (ns:=l.map f) (by simpa using hn)
 obtain⟨y,hy,e⟩:=lat.mp h1
 have:=h2 (f x) (lat.mpr ⟨x,hx,rfl⟩)
 have h3:=h y hy
 rw[show zkM (l.map f)=f x by omega]
theorem znd {l:List α}{f:α->Int}{i:Nat}{x:α}(h:l[i]? = some x)(hn:∀(j:Nat) (y:α),j<i->l[j]? = some y->f y≠f x)(hl:l.length<=1000):zij (.lst (l.map λx=>.int (f x))) (.int (f x))=some (.int (i:Int)):=by
 have hm:f x∈l.map f:=lat.mpr ⟨x,laL h,rfl⟩
 refine(lU ⟨zhh l f,by rw[lQ];exact hl,by rw[ze9];exact hm⟩).trans ?_
 rw[ze9,ziB (i:=i) (by rw[lJ,h];rfl) λj y hj hy=>?_]
 rw[lJ] at hy
 cases e:l[j]? with
 | none=>rw[e] at hy;cases hy
 | some z=>rw[e] at hy;obtain rfl:=lq hy;exact hn j z hj e
end Pg
set_option maxHeartbeats 4000000
namespace K34
open PySem L2 PyProof.Rows
open My
open Pg
abbrev hq7:=f2 ixD (fNm 3) (fC (.int 0))
abbrev znI:=f2 ixD (fC (.str [97,98,99,100])) (fNm 0)
abbrev zn4:=fR zd7 (zj (fNm 0) zE)
def uQ:Rho->Out :=
  (zW (xJ 2 (fO mkL zE))
  (zW (xJ 3 (fO mkL (zj (fO zmA (zj (yU zn4 yo znI []) zE)) zE)))
  (zW (kh (sWh 12 (bT (f2 leI (fO jj (zj hq7 zE)) (fNm 1)))
  (zW (xJ 2 (fLs (fL2 zhN (fNm 2) (fNm 3))))
  (zW (zlA 4)
  (zW (uN 5 (fI lsD (fNm 3))
  (uN 6 (fR zd7 (zj (fO jj (zj (fNm 5) zE)) zE))
  (zW (wB 7 (fCp zn4 yo (f2 zeI (f2 ixD (fNm 1) (fNm 2)) znI) [5,6]))
  (zW (xJ 8 (fLs (fL zdQ (zj (fLs (fL2 zhN (fLs (fL2 zhN (fLs (fL znC (zj (fSl (fNm 5) xR (xH (fNm 6))) zE))) (fNm 7))) (fLs (fL znC (zj (fSl (fNm 5) (xH (f2 u6 (fNm 6) (fC (.int 1)))) xR) zE))))) zE))))
  (ziZ 4 (fO zmA (zj (fNm 8) zE)) (fC (.bl true)))))))
  (xJ 3 (fLs (fST 4))))))))
  (yR (fNm 2)))))
def jK:List D->Rs D:=z8 9 uQ
abbrev hq0:=fC (.str [114,101,102,117,115,101,100])
def uw:Rho->Out :=
  (zW (xJ 1 (fO mkL (zj (f1 (zmG [(1,true),(3,false),(5,false)]) (fNm 0)) (zj (f1 (zmG [(1,false),(3,false),(5,true)]) (fNm 0)) (zj (f1 (zmG [(1,false),(3,true),(5,false)]) (fNm 0)) zE)))))
  (zW (sIf (bOr (bT (f2 (eqD true) (fM zlz zmf (fNm 1) (fC (.bl true))) (fC (.int 1)))) (za6 (bT (f1 (zmG [(1,true),(3,true),(5,true)]) (fNm 0)))))
  (yR (fO mkT (zj hq0 (zj (f1 zpb (fC (.int 1))) zE))))
  sNx)
  (yR (fO mkT (zj hq0 (zj (fM zlz zk4 (fNm 1) (fC (.bl true))) zE))))))
def yG:List D->Rs D:=z8 2 uw
abbrev hq2:=zj (fNm 1) (zj (fNm 2) (zj (fNm 3) zE))
abbrev hq1:=fIf (zdl (bT (f2 ltI (fNm 0) (fC (.int 2))))) (fIf (zdl (bT (f2 (eqD false) (fNm 0) (fC (.int 0))))) (fA (ari 3 xV) (zdl hq2)) (fA (ari 3 xg) (zdl hq2))) (fIf (zdl (bT (f2 (eqD false) (fNm 0) (fC (.int 2))))) (fA (ari 3 yE) (zdl hq2)) (fA (ari 3 vm) (zdl hq2)))
abbrev znH:=ari 1 yG
def jz:Rho->Out :=
  (zpa 4 [1,3,5] hq1 (fA znH (zj (fNm 4) zE)))
def zF:List D->Rs D:=z8 5 jz
abbrev hq6:=wB 3 (fCp (fI tpD (fNm 0)) (bT (fM isS yI (fNm 1) (fNm 0))) (fNm 0) [1])
abbrev zoq:=bT (f2 (eqD true) (fNm 3) (fO mkL zE))
def zak:Rho->Out :=
  (zW (wR 2 (fL szL zE))
  (zW hq6
  (zW (kh (sWh 64 zoq
  (zW (zaU 2 hq7)
  (zW (xJ 1 (fSl (fNm 1) (xH (fO jj (zj hq7 zE))) xR))
  hq6))))
  (za8 2 (yR (fO mkT (zj (fNm 2) (zj (fNm 1) zE))))))))
def jL:List D->Rs D:=z8 4 zak
abbrev zny:=zj (fNm 0) (zj (fNm 1) zE)
abbrev zox:=bT (f2 (eqD true) (fNm 3) (fC (.str [])))
def qR:Rho->Out :=
  (zW (qG 2 3 (fA (ari 2 jL) zny))
  (yR (f2 u6 (fO jj (zj (fNm 2) zE)) (fIf zox (fC (.int 1)) (fC (.int 0))))))
def yN:List D->Rs D:=z8 4 qR
def qH:Rho->Out :=
  (zW (xJ 2 (fO mkL (zj (fC (.str [])) zE)))
  (zW (kh (uN 3 (fR zd7 (zj (fNm 1) zE))
  (zW (xJ 4 (fO mkL zE))
  (zW (uN 5 (fI lsD (fNm 2))
  (xJ 4 (fLs (fL2 zhN (fNm 4) (yU zn4 yo (f2 zeI (fNm 1) znI) [5])))))
  (xJ 2 (fNm 4))))))
  (yR (fNm 2))))
def qg:List D->Rs D:=z8 6 qH
abbrev hq3:=fA (ari 4 zF) (zj (fNm 0) (zj (fNm 1) (zj (fNm 2) (zj (fC .non) zE))))
abbrev hq4:=yR (fC (.bl false))
abbrev zkN:=zj (fC (.int 2)) zE
abbrev hq5:=fI tpD (fO mkT (zj (fC (.int 1)) zkN))
abbrev hq8:=fI tpD (fO mkT (zj (fC .non) (zj (fO mkT zE) (zj (fSl (fNm 2) xR (xH (f1 zpb (fC (.int 1))))) (zj (fLs (fL znC (zj (fNm 2) zE))) zE)))))
abbrev hq9:=zj (f2 ixD (fO zhB (zj (fNm 8) zE)) (fC (.int 1))) (zj (f2 zdo (fC (.int 0)) (f2 ixD (fO zhB (zj (fNm 8) zE)) (fC (.int 0)))) zE)
abbrev zmF:=zj (fNm 1) (zj (fNm 2) (zj (fNm 9) zE))
abbrev zot:=zj (f2 zdo (fC (.int 0)) (fA (ari 2 yN) (zj (fNm 1) (zj (fNm 0) zE)))) (zj (fNm 0) zE)
abbrev zkB:=zj (fC (.int 1)) zE
abbrev zow:=fL zdQ (zj (fA (ari 2 qg) (zj (fNm 1) (zj (fNm 7) zE))) zE)
abbrev zon:=zj (fC (.int 3)) (zj (fNm 1) (zj (fNm 2) (zj (fNm 0) zE)))
abbrev zmD:=zj (fC (.int 3)) zE
abbrev znl:=fO zgX (zj (fNm 6) zE)
abbrev zov:=zj (fNm 1) (zj (fNm 4) (zj (fNm 3) zE))
abbrev zos:=bT (f2 (eqD true) (fNm 9) (fC (.int 1)))
def zlN:Rho->Out :=
  (zW (xJ 1 (f2 u6 (fC (.int 2)) (fA (ari 3 zJ) (zj (fNm 0) (zj (fC (.int 0)) zkN)))))
  (zW (xJ 2 (fA (ari 4 uc) (zj (fNm 0) (zj (fC (.int 20)) (zj (fNm 1) (zj (fA (ari 3 zJ) (zj (fNm 0) (zj (fC (.int 1)) (zj (fC (.int 4)) zE)))) zE))))))
  (zW (xJ 3 (fA (ari 4 vU) (zj (fNm 0) (zj (fC (.int 40)) (zj (fNm 1) (zj (fC (.int 12)) zE))))))
  (zW (sIf (bT (f2 (eqD true) (fA (ari 4 zF) (zj (fC (.int 0)) hq2)) (fA (ari 2 yN) (zj (fNm 2) (zj (fNm 3) zE)))))
  hq4
  sNx)
  (zW (xJ 4 (f2 u6 (fNm 1) (fA (ari 3 zJ) (zj (fNm 0) (zj (fC (.int 2)) zmD)))))
  (zW (xJ 5 (fA (ari 2 jK) (zj (fNm 1) (zj (fNm 4) zE))))
  (zW (wB 6 (fCp (fI lsD (fNm 5)) yo (fA (ari 2 yN) zny) [3]))
  (zW (sIf (bT (f2 (eqD true) (fA (ari 4 zF) (zj (fC (.int 1)) zov)) znl))
  hq4
  sNx)
  (zW (sIf (bT (f2 (eqD true) (fA (ari 4 zF) (zj (fC (.int 2)) zov)) (f2 ixD (fNm 5) (fM zlz zij (fNm 6) znl))))
  hq4
  sNx)
  (zW (xJ 7 (f2 u6 (fC (.int 1)) (fA (ari 3 zJ) (zj (fNm 0) (zj (fC (.int 3)) zmD)))))
  (zW (wB 8 (fCp (fI lsD (fLs zow)) yo (fO mkT zot) [2]))
  (zW (sIf (bT (f2 (eqD true) (fA (ari 4 zF) (zj (fC (.int 3)) (zj (fNm 1) (zj (fNm 2) (zj (fNm 7) zE))))) (fO mkT hq9)))
  hq4
  sNx)
  (zW (kh (uN 9 (fI tpD (fO mkT (zj (fC (.str [101])) (zj (fC (.str [65])) (zj (fC .non) (zj (fC (.int 1)) (zj (fO mkL (zj (fC (.str [97])) zE)) zE)))))))
  (zW (sIf (bT (f2 (eqD true) (fA (ari 4 zF) (zj (fC (.int 0)) zmF)) (fO mkT (zj hq0 zkN))))
  hq4
  sNx)
  (zW (sIf (bT (f2 (eqD true) (yU hq5 yo (fA (ari 4 zF) (zj (fNm 0) hq2)) [1,4,9]) (fLs (fL2 zgT (fO mkL (zj (fO mkT (zj hq0 zkN)) zE)) (fC (.int 2))))))
  hq4
  sNx)
  (sIf (zc1 (bT (f2 (eqD true) (fA (ari 4 zF) (zj (fC (.int 3)) zmF)) (fO mkT (zj hq0 zkB)))) zos)
  hq4
  sNx)))))
  (zW (kh (uN 9 hq8
  (sIf (bT (f2 (eqD true) (yU (fI tpD (fO mkT (zj (fC (.int 0)) zmD))) yo hq3 [1,9]) (fLs (fL2 zgT (fO mkL (zj (fO mkT (zj hq0 (zj (fC (.int 0)) zE))) zE)) (fC (.int 2))))))
  hq4
  sNx)))
  (zW (sIf (bT (f2 (eqD true) (yU hq5 yo (fA (ari 4 zF) (zj (fNm 0) (zj (fNm 1) (zj (fC (.int 1)) (zj (fC .non) zE))))) [1]) (fLs (fL2 zgT (fO mkL (zj (fO mkT (zj hq0 zkB)) zE)) (fC (.int 2))))))
  hq4
  sNx)
  (zW (kh (uN 9 (fI tpD (fO mkT (zj (fC (.int 0)) (zj (fC (.int 33)) (zj (fC .non) (zj (fC (.bl true)) (zj (fC (.str [50])) zE)))))))
  (sIf (bT (f2 (eqD true) (yU hq5 yo hq3 [1,9]) (fLs (fL2 zgT (fO mkL (zj (fO mkT (zj hq0 zkB)) zE)) (fC (.int 2))))))
  hq4
  sNx)))
  (yR (f2 (eqD false) (yU (fI tpD (fO mkT (zj (fC (.int 0)) (zj (fC (.int 6)) (zj (fC (.bl true)) zE))))) yo (fA (ari 4 zF) zon) [1,2]) (fLs (fL2 zgT (fO mkL (zj (fO mkT (zj hq0 zkB)) zE)) (fC (.int 3))))))))))))))))))))))
def zko:List D->Rs D:=z8 10 zlN
end K34
namespace K34
open PySem L2 My Pg
section
variable {m:Nat}{B:qQ1}
def pfx (B:qQ1)(t:List Nat):qQ1:=B.filter λp=>p.isPrefixOf t
theorem zkp (hB:B.length<=1000){t:List Nat}{ρ:Rho}(h0:ρ[0]? = some (.fz (.tup (sT B))))(h1:ρ[1]? = some (.fz (.str t))):fCp (fI tpD (fNm 0)) (bT (fM isS yI (fNm 1) (fNm 0))) (fNm 0) [1] ρ=.ok (sT (pfx B t)):=by
 refine zdD (ds:=sT B) (zmv (a:=.tup (sT B)) (by unfold fNm;rw[h0]) rfl) (by rw[wN];omega) (zcU (λp=>p.isPrefixOf t) D.str λp hp=>⟨?_,λ_=>rfl⟩)
 have ec:(xT 1 [1] ρ).set 0 (.fz (.str p))=[.fz (.str p),.fz (.str t)]:=by unfold xT;simp[h1]
 rw[ec]
 exact vK (zlk (a:=.str t) (b:=.str p) rfl rfl rfl rfl)
theorem zn8 {ft:qQ6}{g:Rho->Out}{n:Nat}{ρ:Rho}(e:ft ρ=.ok false):whD ft g (n+1) ρ=.nx ρ:=by rw[whD.eq_2,e]
theorem zpc {ft:qQ6}{g:Rho->Out}{n:Nat}{ρ ρ':Rho}(e:ft ρ=.ok true)(e2:g ρ=.nx ρ'):whD ft g (n+1) ρ=whD ft g n ρ':=by rw[whD.eq_2,e];dsimp only;rw[e2]
theorem zjZ (h:Book m B)(hB:B.length<=1000):∀(k:Nat) (t:List Nat) (rows:qQ1) (f:Nat),t.length<=k->k<f->rows.length+t.length<=1000->∃rows' left,whD zoq
  (zW (zaU 2 hq7) (zW (xJ 1 (fSl (fNm 1) (xH (fO jj (zj hq7 zE))) xR)) hq6))
  f [.fz (.tup (sT B)),.fz (.str t),.ow (sT rows),.fz (.lst (sT (pfx B t)))]=.nx [.fz (.tup (sT B)),.fz (.str left),.ow (sT (rows++rows')),.fz (.lst (sT []))]/\(∀p∈rows',p∈B)/\ziT B left/\rows'.flatten++left=t:=by
 intro k
 induction k with
 | zero =>
  intro t rows f ht hf hr
  obtain⟨f,rfl⟩:∃g,f=g+1:=⟨f - 1,by omega⟩
  obtain rfl:t=[]:=la0.mp (by omega)
  have ep:pfx B []=[]:=List.filter_eq_nil_iff.mpr λp hp e=>h.ne p hp (lbU.mp (lW.mp e))
  refine⟨[],[],?_,λp hp=>absurd hp (by simp),λy hy hn=>absurd (lbU.mp hy) hn,rfl⟩
  rw[ep,lY]
  exact zn8 (vK (xM (a:=.lst (sT [])) (b:=.lst (sT [])) rfl rfl (zbK true [] [])))
 | succ k ih =>
  intro t rows f ht hf hr
  obtain⟨f,rfl⟩:∃g,f=g+1:=⟨f - 1,by omega⟩
  cases ep:pfx B t with
  | nil =>
   refine⟨[],t,?_,λp hp=>absurd hp (by simp),λy hy hn hyB=>?_,rfl⟩
   ·rw[lY]
    exact zn8 (vK (xM (a:=.lst (sT [])) (b:=.lst (sT [])) rfl rfl (zbK true [] [])))
   ·have:y∈pfx B t:=lbC.mpr ⟨hyB,lW.mpr hy⟩
    rw[ep] at this;cases this
  | cons p r =>
   have hp:p∈pfx B t:=by rw[ep];exact lD
   obtain⟨hpB,hpt⟩:=lbC.mp hp
   obtain⟨t',rfl⟩:=lW.mp hpt
   have hne:=h.ne p hpB
   have hl1:1<=p.length:=lbT.mpr hne
   rw[lae] at ht hr
   obtain⟨rows',left,e,h1,h2,h3⟩:=ih t' (rows++[p]) f (by omega) (by omega) (by rw[lae];simp;omega)
   refine⟨p::rows',left,?_,λq hq=>by rcases lI.mp hq with rfl|hq;exact hpB;exact h1 q hq,h2,by rw[lbi,la3,h3]⟩
   have eb:zW (zaU 2 hq7) (zW (xJ 1 (fSl (fNm 1) (xH (fO jj (zj hq7 zE))) xR)) hq6) [.fz (.tup (sT B)),.fz (.str (p++t')),.ow (sT rows),.fz (.lst (sT (p::r)))]=.nx [.fz (.tup (sT B)),.fz (.str t'),.ow (sT (rows++[p])),.fz (.lst (sT (pfx B t')))]:=by
    refine(zB (ρ':=[.fz (.tup (sT B)),.fz (.str (p++t')),.ow (sT (rows++[p])),.fz (.lst (sT (p::r)))]) ((zeR (ds:=sT rows) (d:=.str p) rfl (xM (a:=.lst (sT (p::r))) (b:=.int 0) rfl rfl (zoh (B:=p::r) (j:=0) (by simp))) (by rw[wN];omega)).trans ?_)).trans ?_
    ·unfold sT;rw[lbW];rfl
    ·refine (zB (ρ':=[.fz (.tup (sT B)),.fz (.str t'),.ow (sT (rows++[p])),.fz (.lst (sT (p::r)))]) (yP (zkD (a:=.str (p++t')) (l:=some (p.length:Int)) (h:=none) rfl ?_ rfl ?_))).trans (za7 (zkp hB rfl rfl))
     ·unfold xH
      rw[show fO jj (zj hq7 zE) [.fz (.tup (sT B)),.fz (.str (p++t')),.ow (sT (rows++[p])),.fz (.lst (sT (p::r)))]=.ok (.int (p.length:Int)) from zdv (zZ (xM (a:=.lst (sT (p::r))) (b:=.int 0) rfl rfl (zoh (B:=p::r) (j:=0) (by simp))) rfl) rfl]
      rfl
     ·show some (D.str (zdk (p++t') (some (p.length:Int)) none))=_
      rw[zfU,List.drop_left]
   refine(zpc (vK (xM (a:=.lst (sT (p::r))) (b:=.lst (sT [])) rfl rfl ((zbK true _ _).trans (by simp)))) eb).trans ?_
   rw[e,la3]
   rfl
theorem zkS (h:Book m B)(hB:B.length<=1000){t:List Nat}(ht:t.length<=60):jL [.tup (sT B),.str t]=.ok (.tup [.lst (sT (wA B t).1),.str (wA B t).2]):=by
 obtain⟨rows,left,e,h1,h2,h3⟩:=zjZ h hB t.length t [] 64 (lB _) (by omega) (by simp;omega)
 rw[h.cutRows h1 h2 h3]
 refine ye ((zB (ρ':=[.fz (.tup (sT B)),.fz (.str t),.ow (sT []),.no]) rfl).trans ?_)
 refine(zB (ρ':=[.fz (.tup (sT B)),.fz (.str t),.ow (sT []),.fz (.lst (sT (pfx B t)))]) (za7 (zkp hB rfl rfl))).trans ?_
 refine(zB (uX e)).trans ?_
 exact(zhi (ds:=sT rows) rfl).trans (xQ rfl)
theorem zbs (h:Book m B)(hB:B.length<=1000){t:List Nat}(ht:t.length<=60):yN [.tup (sT B),.str t]=.ok (.int (Wc B t:Int)):=by
 refine ye ((zB (zi1 (cA2 (a:=.tup (sT B)) (b:=.str t) rfl rfl (zkS h hB ht)))).trans (xQ ?_))
 have e0:fO jj (zj (fNm 2) zE) [.fz (.tup (sT B)),.fz (.str t),.fz (.lst (sT (wA B t).1)),.fz (.str (wA B t).2)]=.ok (.int ((wA B t).1.length:Int)):=by
  show Rs.ok (D.int (((sT (wA B t).1).length:Nat):Int))=_
  rw[wN]
 have e1:fIf zox (fC (.int 1)) (fC (.int 0)) [.fz (.tup (sT B)),.fz (.str t),.fz (.lst (sT (wA B t).1)),.fz (.str (wA B t).2)]=.ok (.int (if (wA B t).2=[] then 0 else 1)):=by
  refine jm (b:=!decide ((wA B t).2=[])) (vK (xM (a:=.str (wA B t).2) (b:=.str []) rfl rfl (zdg true _ []))) ?_
  by_cases z:(wA B t).2=[]
  ·rw[lX z,lU z];rfl
  ·rw[laa z,lac z];rfl
 refine(uG e0 e1).trans ?_
 unfold Wc
 split <;>simp
end
variable {d:D}{n m:Nat}
def rf (k:Int):D:=.tup [.str [114,101,102,117,115,101,100],.int k]
abbrev EF:qQ5:=hq1
theorem zbQ {w:Int}{a b c:D}(e:EF [.fz (.int w),.fz a,.fz b,.fz c,.no]=.ok d):zF [.int w,a,b,c]=.ok d:=by
 refine ye ?_
 show(if (true:Bool)=true then(match EF [.fz (.int w),.fz a,.fz b,.fz c,.no] with | .ok d=>Out.rt d | .ex n=>if n∈[1,3,5] then(match fA znH (zj (fNm 4) zE) [.fz (.int w),.fz a,.fz b,.fz c,.fz (.exc n)] with | .ok d=>.rt d|_=>.no) else .no | .no=>.no) else .no)=_
 rw[e];rfl
theorem vq {w:Int}{a b c:D}(hn:n∈[1,3,5])(hd:yG [.exc n]=.ok d)(e:EF [.fz (.int w),.fz a,.fz b,.fz c,.no]=.ex n):zF [.int w,a,b,c]=.ok d:=by
 refine ye ?_
 show(if (true:Bool)=true then(match EF [.fz (.int w),.fz a,.fz b,.fz c,.no] with | .ok d=>Out.rt d | .ex n=>if n∈[1,3,5] then(match fA znH (zj (fNm 4) zE) [.fz (.int w),.fz a,.fz b,.fz c,.fz (.exc n)] with | .ok d=>.rt d|_=>.no) else .no | .no=>.no) else .no)=_
 rw[e,lU rfl]
 dsimp only
 rw[lU hn,cA1 (a:=.exc n) rfl hd]
theorem r1:yG [.exc 1]=.ok (rf 0):=by kernel_rfl
theorem r3:yG [.exc 3]=.ok (rf 2):=by kernel_rfl
theorem r5:yG [.exc 5]=.ok (rf 1):=by kernel_rfl
section
variable {a b c:D}
theorem ef0:EF [.fz (.int 0),.fz a,.fz b,.fz c,.no]=xV [a,b,c]:=jm (b:=true) (wX rfl) ((lU rfl).trans (jm (b:=true) (wX rfl) ((lU rfl).trans (zjG (ds:=[a,b,c]) (wX rfl) rfl rfl))))
theorem ef1:EF [.fz (.int 1),.fz a,.fz b,.fz c,.no]=xg [a,b,c]:=jm (b:=true) (wX rfl) ((lU rfl).trans (jm (b:=false) (wX rfl) ((lac lH).trans (zjG (ds:=[a,b,c]) (wX rfl) rfl rfl))))
theorem ef2:EF [.fz (.int 2),.fz a,.fz b,.fz c,.no]=yE [a,b,c]:=jm (b:=false) (wX rfl) ((lac lH).trans (jm (b:=true) (wX rfl) ((lU rfl).trans (zjG (ds:=[a,b,c]) (wX rfl) rfl rfl))))
theorem ef3:EF [.fz (.int 3),.fz a,.fz b,.fz c,.no]=vm [a,b,c]:=jm (b:=false) (wX rfl) ((lac lH).trans (jm (b:=false) (wX rfl) ((lac lH).trans (zjG (ds:=[a,b,c]) (wX rfl) rfl rfl))))
abbrev zou:=zj (fNm 0) (zj (fNm 1) (zj (fNm 2) zE))
theorem zbr (h:yE [a,b,c]=.ex n):xg [a,b,c]=.ex n:=by
 refine qN ?_
 show yR (fA (ari 2 yM) (zj (fA (ari 3 yE) zou) (zj (fNm 2) zE))) [.fz a,.fz b,.fz c]=_
 unfold yR fA
 show(match ((fA (ari 3 yE) zou [.fz a,.fz b,.fz c]).bind λx=>((zj (fNm 2) zE) [.fz a,.fz b,.fz c]).bind λas=>Rs.ok (x::as)).bind (ari 2 yM) with | .ok d=>Out.rt d | .ex n=>.ex n | .no=>.no)=_
 rw[cA3 (a:=a) (b:=b) (c:=c) rfl rfl rfl h];rfl
theorem zcE (h:zX [a,b]=.ex n):yE [a,b,c]=.ex n:=qN (zai (jd (cA2 (a:=a) (b:=b) rfl rfl h)))
theorem zfC (h:zX [a,b]=.ok .non)(h2:zT [a,c]=.ex n):yE [a,b,c]=.ex n:=qN ((zB (w6 (cA2 (a:=a) (b:=b) rfl rfl h))).trans (zai (jd (cA2 (a:=a) (b:=c) rfl rfl h2))))
theorem zjP (h:zU [a,b]=.ex n):xV [a,b,c]=.ex n:=qN (zai (jd (cA2 (a:=a) (b:=b) rfl rfl h)))
theorem zhp (h:zU [a,b]=.ok .non)(h2:zT [a,c]=.ex n):xV [a,b,c]=.ex n:=qN ((zB (w6 (cA2 (a:=a) (b:=b) rfl rfl h))).trans (zai (jd (cA2 (a:=a) (b:=c) rfl rfl h2))))
theorem zlJ (h:zU [a,b]=.ex n):vm [a,b,c]=.ex n:=qN (zai (jd (cA2 (a:=a) (b:=b) rfl rfl h)))
theorem zgm (h:zU [a,b]=.ok .non)(h2:yg [c,.int 1,.int 5]=.ex n):vm [a,b,c]=.ex n:=qN ((zB (w6 (cA2 (a:=a) (b:=b) rfl rfl h))).trans (zai (jd (cA3 (a:=c) (b:=.int 1) (c:=.int 5) rfl rfl rfl h2))))
end
def rw_ (B:qQ1)(x:List Nat):D:=.tup [.int (0 - (Wc B x:Int)),.str x]
theorem zan (B:qQ1):∀(r:qQ1) (b:List Nat),(∀x∈r,b<x)->r.Pairwise (· < ·)->wg isLt (rw_ B b,rw_ B b) ((r.map (rw_ B)).map λd=>(d,d))=(rw_ B (zbw ltG (λx=>(Wc B x:Int)) b r),rw_ B (zbw ltG (λx=>(Wc B x:Int)) b r))
 | [],b,_,_=>rfl
 | x :: r,b,h,s=>by
  rw[lF,lF]
  unfold wg zbw
  have hx:=h x lD
  obtain⟨s1,s2⟩:=laC.mp s
  have e:isLt (rw_ B x) (rw_ B b)=ltG (Wc B x:Int) (Wc B b:Int):=by
   show(if 0 - (Wc B x:Int)=0 - (Wc B b:Int) then decide (x<b) else decide (0 - (Wc B x:Int)<0 - (Wc B b:Int)))=decide ((Wc B b:Int)<(Wc B x:Int))
   split
   ·rename_i z
    rw[laa (λw=>lb7 b (ldQ hx w)),laa (by omega)]
   ·exact ldW.mpr (by omega)
  show(if isLt (rw_ B x) (rw_ B b)=true then _ else _)=_
  rw[e]
  by_cases z:ltG (Wc B x:Int) (Wc B b:Int)=true
  ·rw[lU z,lU z];exact zan B r x s1 s2
  ·rw[lac z,lac z];exact zan B r b (λy hy=>h y (lz _ hy)) s2
theorem zjb (m2:2<=m)(m3:m<=3)(n1:1<=n)(n3:n<=3):(zY m n).Pairwise (· < ·):=by
 have:(m=2∨m=3)/\(n=1∨n=2∨n=3):=by omega
 rcases this with⟨rfl|rfl,rfl|rfl|rfl⟩ <;>decide +kernel
theorem ziY (m2:2<=m)(m3:m<=3)(n1:1<=n)(n3:n<=3):qg [.int m,.int n]=.ok (.lst (sT (zY m n))):=by
 have:(m=2∨m=3)/\(n=1∨n=2∨n=3):=by omega
 rcases this with⟨rfl|rfl,rfl|rfl|rfl⟩ <;>kernel_rfl
theorem zlw {s:Nat}(h:Comb m s):jK [.int m,.int s]=.ok (encL (AB m s)):=by
 show z8 9 uQ _=_
 unfold uQ
 rw[zj5]
 refine h.cases (P:=λm s=>z8 9 _ [.int m,.int s]=.ok (encL (AB m s))) ?_ ?_ ?_ ?_ ?_ ?_ ?_ ?_ ?_ ?_ ?_ ?_ ?_ <;>kernel_rfl
theorem zmh {α:Type}(k:α->Int):∀(l:List α) (b:α),zbw ltL k b l=zbw ltG (λx=>- k x) b l
 | [],b=>rfl
 | x::l,b=>by
  unfold zbw
  have e:ltL (k x) (k b)=ltG (-k x) (-k b):=by unfold ltL ltG;exact ldW.mpr (by omega)
  rw[e,zmh k l x,zmh k l b]
def badT:List D:=[.str [101],.str [65],.non,.int 1,.lst [.str [97]]]
def badS:List D:=[.int 0,.int 33,.non,.bl true,.str [50]]
theorem zjz (m2:2<=m)(m3:m<=3):(∀d∈badT,zT [.int m,d]=.ex 3)/\zT [.int m,.non]=.ex 3:=by
 have:m=2∨m=3:=by omega
 rcases this with rfl|rfl
 ·exact⟨lG.mpr ⟨by kernel_rfl,lG.mpr ⟨by kernel_rfl,lG.mpr ⟨by kernel_rfl,lG.mpr ⟨by kernel_rfl,lG.mpr ⟨by kernel_rfl,λ_ h=>nomatch h⟩⟩⟩⟩⟩,by kernel_rfl⟩
 ·exact⟨lG.mpr ⟨by kernel_rfl,lG.mpr ⟨by kernel_rfl,lG.mpr ⟨by kernel_rfl,lG.mpr ⟨by kernel_rfl,lG.mpr ⟨by kernel_rfl,λ_ h=>nomatch h⟩⟩⟩⟩⟩,by kernel_rfl⟩
theorem zgq (m2:2<=m)(m3:m<=3):(∀d∈badS,zX [.int m,d]=.ex 5)/\zX [.int m,.int 1]=.ex 5:=by
 have:m=2∨m=3:=by omega
 rcases this with rfl|rfl
 ·exact⟨lG.mpr ⟨by kernel_rfl,lG.mpr ⟨by kernel_rfl,lG.mpr ⟨by kernel_rfl,lG.mpr ⟨by kernel_rfl,lG.mpr ⟨by kernel_rfl,λ_ h=>nomatch h⟩⟩⟩⟩⟩,by kernel_rfl⟩
 ·exact⟨lG.mpr ⟨by kernel_rfl,lG.mpr ⟨by kernel_rfl,lG.mpr ⟨by kernel_rfl,lG.mpr ⟨by kernel_rfl,lG.mpr ⟨by kernel_rfl,λ_ h=>nomatch h⟩⟩⟩⟩⟩,by kernel_rfl⟩
theorem zhc:(∀d∈badT,d=.int 1∨yg [d,.int 1,.int 5]=.ex 5)/\∀d∈[D.int 0,.int 6,.bl true],yg [d,.int 1,.int 5]=.ex 5 :=
 ⟨lG.mpr ⟨.inr (by kernel_rfl),lG.mpr ⟨.inr (by kernel_rfl),lG.mpr ⟨.inr (by kernel_rfl),lG.mpr ⟨.inl rfl,lG.mpr ⟨.inr (by kernel_rfl),λ_ h=>nomatch h⟩⟩⟩⟩⟩,lG.mpr ⟨by kernel_rfl,lG.mpr ⟨by kernel_rfl,lG.mpr ⟨by kernel_rfl,λ_ h=>nomatch h⟩⟩⟩⟩
theorem zjE (p:List D):slD (.tup p) none (some (-1))=some (.tup p.dropLast):=by
 show some (D.tup (zdk p none (some (-1))))=_
 unfold zdk
 rw[HT.sIx_none,lc3,ld3,List.dropLast_eq_take]
 congr 3
 show(if (-1:Int)<0 then((-1:Int)+(p.length:Int)).toNat else min (-1:Int).toNat p.length)=_
 rw[lU (by decide)]
 omega
theorem zg1 {B:qQ1}(h:Bb m B)(h2:2<=B.length):∀d∈[D.non,.tup [],.tup (sT B.dropLast),.lst (sT B)],zU [.int m,d]=.ex 1:=by
 have m2:=h.bk.m2
 have m4:=h.bk.m4
 refine lG.mpr ⟨v9 (zcQ (ziA m2 m4 rfl rfl)),lG.mpr ⟨v9 (zcQ (zjy m2 m4 rfl (.inl rfl))),lG.mpr ⟨?_,lG.mpr ⟨v9 (zcQ (ziA m2 m4 (zkw λd hd=>by obtain⟨x,_,rfl⟩:=lat.mp hd;rfl) rfl)),λ_ z=>nomatch z⟩⟩⟩⟩
 have hne:B≠[]:=λz=>by rw[z] at h2;simp at h2
 have sub:∀p∈B.dropLast,p∈B:=λp hp=>List.dropLast_subset B hp
 have pc:Pcs m B.dropLast:=⟨m2,m4,λz=>by have:=lbB List.length z;rw[lbM] at this;simp at this;omega,by have:=h.l32;rw[lbM];omega,λp hp=>h.pcs.2.2.2.2 p (sub p hp)⟩
 refine v9 ((zcf pc).trans ?_)
 have:isBook m B.dropLast=false:=by
  cases e:isBook m B.dropLast with
  | false=>rfl
  | true =>
   exfalso
   have bk:=zbi pc e
   have hl:=List.getLast_mem hne
   obtain⟨q,hq,z⟩:=bk.cv (B.getLast hne) (h.bk.let_ _ hl)
   have eq:q=B.getLast hne:=by
    rcases z with z|z
    ·exact h.bk.pf q (sub q hq) _ hl z
    ·exact(h.bk.pf _ hl q (sub q hq) z).symm
   have nd:=h.bk.nd
   rw[← lci hne] at nd
   have:=(lbO.mp nd).2.2 q hq (B.getLast hne) lD
   exact this eq
 rw[this]
theorem zic (k:Int):eqD true (rf k) (rf k)=some (.bl false):=za0 true rfl (lbj rfl)
theorem zkb (k:Int):eqD true (.lst [rf k,rf k]) (.lst [rf k,rf k])=some (.bl false):=za0 true rfl (lbj rfl)
theorem rep2 (k:Int):fLs (fL2 zgT (fO mkL (zj (fO mkT (zj hq0 (zj (fC (.int k)) zE))) zE)) (fC (.int 2)))=λ_=>.ok (.lst [rf k,rf k]):=by funext ρ;rfl
theorem zfG {w1 w2:Int}{k:Int}{fb fc fd:qQ5}{caps:List Nat}{ρ:Rho}{a b c:D}(e1:zF [.int w1,a,b,c]=.ok (rf k))(e2:zF [.int w2,a,b,c]=.ok (rf k))(ha:∀w:Int,fb ((xT 1 caps ρ).set 0 (.fz (.int w)))=.ok a/\fc ((xT 1 caps ρ).set 0 (.fz (.int w)))=.ok b/\fd ((xT 1 caps ρ).set 0 (.fz (.int w)))=.ok c) :
  bT (f2 (eqD true) (yU (fI tpD (fO mkT (zj (fC (.int w1)) (zj (fC (.int w2)) zE)))) yo (fA (ari 4 zF) (zj (fNm 0) (zj fb (zj fc (zj fd zE))))) caps) (fLs (fL2 zgT (fO mkL (zj (fO mkT (zj hq0 (zj (fC (.int k)) zE))) zE)) (fC (.int 2))))) ρ=.ok false:=by
 refine vK (xM (a:=.lst [rf k,rf k]) (b:=.lst [rf k,rf k]) ?_ (by rw[rep2]) (zkb k))
 have h0:∀w:Int,fNm 0 ((xT 1 caps ρ).set 0 (.fz (.int w)))=.ok (.int w):=λw=>rfl
 refine zaX (ds:=[.int w1,.int w2]) rfl (lbj rfl) ?_
 have c1:=cA4 (h0 w1) (ha w1).1 (ha w1).2.1 (ha w1).2.2 e1
 have c2:=cA4 (h0 w2) (ha w2).1 (ha w2).2.1 (ha w2).2.2 e2
 exact zkt rfl c1 (zkt rfl c2 rfl)
abbrev G1:Rho->Out:=(zW (sIf (bT (f2 (eqD true) (fA (ari 4 zF) (zj (fC (.int 0)) zmF)) (fO mkT (zj hq0 zkN))))
  hq4
  sNx)
  (zW (sIf (bT (f2 (eqD true) (yU hq5 yo (fA (ari 4 zF) (zj (fNm 0) hq2)) [1,4,9]) (fLs (fL2 zgT (fO mkL (zj (fO mkT (zj hq0 zkN)) zE)) (fC (.int 2))))))
  hq4
  sNx)
  (sIf (zc1 (bT (f2 (eqD true) (fA (ari 4 zF) (zj (fC (.int 3)) zmF)) (fO mkT (zj hq0 zkB)))) zos)
  hq4
  sNx)))
abbrev G2:Rho->Out:=(sIf (bT (f2 (eqD true) (yU (fI tpD (fO mkT (zj (fC (.int 0)) zmD))) yo hq3 [1,9]) (fLs (fL2 zgT (fO mkL (zj (fO mkT (zj hq0 (zj (fC (.int 0)) zE))) zE)) (fC (.int 2))))))
  hq4
  sNx)
abbrev G3:Rho->Out:=(sIf (bT (f2 (eqD true) (yU hq5 yo hq3 [1,9]) (fLs (fL2 zgT (fO mkL (zj (fO mkT (zj hq0 zkB)) zE)) (fC (.int 2))))))
  hq4
  sNx)
section
variable {m:Nat}{B:qQ1}{s:Nat}
theorem zo3 (m3:m<=3)(h:Bb m B)(hc:Comb m s)(hd:d∈badT)(a0 a3 a5 a6 a7 a8:Sl):G1 [a0,.fz (.int m),.fz (.tup (sT B)),a3,.fz (.int s),a5,a6,a7,a8,.fz d]=.nx [a0,.fz (.int m),.fz (.tup (sT B)),a3,.fz (.int s),a5,a6,a7,a8,.fz d]:=by
 have m2:=h.bk.m2
 have tb:=(zjz m2 m3).1 d hd
 have rb:=xW h.pcs h.isB
 have t0:zF [.int 0,.int m,.tup (sT B),d]=.ok (rf 2):=vq (n:=3) (by decide) r3 (ef0.trans (zhp rb tb))
 have t1:zF [.int 1,.int m,.int s,d]=.ok (rf 2):=vq (n:=3) (by decide) r3 (ef1.trans (zbr (zfC (size_eq hc) tb)))
 have t2:zF [.int 2,.int m,.int s,d]=.ok (rf 2):=vq (n:=3) (by decide) r3 (ef2.trans (zfC (size_eq hc) tb))
 refine(zB (ifF (vK (xM (a:=rf 2) (b:=rf 2) (cA4 (a:=.int 0) (b:=.int m) (c:=.tup (sT B)) (d:=d) rfl rfl rfl rfl t0) rfl (zic 2))))).trans ?_
 refine(zB (ifF (zfG (a:=.int m) (b:=.int s) (c:=d) t1 t2 λw=>⟨rfl,rfl,rfl⟩))).trans ?_
 refine ifF ?_
 rcases zhc.1 d hd with rfl|lb
 ·have e1:=zck h (n:=1) (by decide) (by decide)
  have t3:=zbQ (w:=3) (ef3.trans e1)
  cases e:eqD true (.tup [.str (drT m B 1),.int (Wc B (drT m B 1):Int)]) (rf 1) with
  | none =>
   exfalso
   have:eqD true (.tup [.str (drT m B 1),.int (Wc B (drT m B 1):Int)]) (rf 1)=some _:=lU ⟨rfl,rfl,lbj rfl⟩
   rw[this] at e;cases e
  | some z =>
   have ez:∃b,z=.bl b:=by
    have:eqD true (.tup [.str (drT m B 1),.int (Wc B (drT m B 1):Int)]) (rf 1)=some _:=lU ⟨rfl,rfl,lbj rfl⟩
    rw[this] at e;exact⟨_,(lq e).symm⟩
   obtain⟨b,rfl⟩:=ez
   refine(zlq (b:=false) (vK (xM (b:=rf 1) (cA4 (a:=.int 3) (b:=.int m) (c:=.tup (sT B)) (d:=.int 1) rfl rfl rfl rfl t3) rfl e)) (vK (xM (a:=.int 1) (b:=.int 1) rfl rfl rfl))).trans (by rw[Bool.and_false])
 ·have t3:zF [.int 3,.int m,.tup (sT B),d]=.ok (rf 1):=vq (n:=5) (by decide) r5 (ef3.trans (zgm rb lb))
  exact zk1 (vK (xM (a:=rf 1) (b:=rf 1) (cA4 (a:=.int 3) (b:=.int m) (c:=.tup (sT B)) (d:=d) rfl rfl rfl rfl t3) rfl (zic 1)))
theorem zoC (h:Bb m B)(h2:2<=B.length)(hd:d∈[D.non,.tup [],.tup (sT B.dropLast),.lst (sT B)])(a0 a2 a3 a4 a5 a6 a7 a8:Sl):G2 [a0,.fz (.int m),a2,a3,a4,a5,a6,a7,a8,.fz d]=.nx [a0,.fz (.int m),a2,a3,a4,a5,a6,a7,a8,.fz d]:=by
 have rb:=zg1 h h2 d hd
 exact ifF (zfG (a:=.int m) (b:=d) (c:=.non) (vq (n:=1) (by decide) r1 (ef0.trans (zjP rb))) (vq (n:=1) (by decide) r1 (ef3.trans (zlJ rb))) λw=>⟨rfl,rfl,rfl⟩)
theorem zoQ (m2:2<=m)(m3:m<=3)(hd:d∈badS)(a0 a2 a3 a4 a5 a6 a7 a8:Sl):G3 [a0,.fz (.int m),a2,a3,a4,a5,a6,a7,a8,.fz d]=.nx [a0,.fz (.int m),a2,a3,a4,a5,a6,a7,a8,.fz d]:=by
 have sb:=(zgq m2 m3).1 d hd
 exact ifF (zfG (a:=.int m) (b:=d) (c:=.non) (vq (n:=5) (by decide) r5 (ef1.trans (zbr (zcE sb)))) (vq (n:=5) (by decide) r5 (ef2.trans (zcE sb))) λw=>⟨rfl,rfl,rfl⟩)
end
theorem zjs (ns:List Int)(hn:ns.length<=63):zko [.lst (ns.map .int)]=.ok (.bl true):=by
 have hd:=yD ns 0 (m:=2) (by decide)
 obtain⟨r,hr⟩:=laG hd.1
 rw[hr] at hd
 have m2:2<=2+r:=by omega
 have m3:2+r<=3:=by omega
 have hmm:(2:Int)+(r:Int)=((2+r:Nat):Int):=by omega
 generalize hm:2+r=m at m2 m3 hmm
 have m4:m<=4:=by omega
 have hd1:=yD ns 1 (m:=4) (by decide)
 obtain⟨t,ht⟩:=laG hd1.1
 rw[ht] at hd1
 have t3:t<=3:=by omega
 have hd2:=yD ns 2 (m:=3) (by decide)
 obtain⟨u,hu⟩:=laG hd2.1
 rw[hu] at hd2
 have hd3:=yD ns 3 (m:=3) (by decide)
 obtain⟨v,hv⟩:=laG hd3.1
 rw[hv] at hd3
 have hs:(m:Int)+(u:Int)=((m+u:Nat):Int):=by omega
 have hnn:(1:Int)+(v:Int)=((1+v:Nat):Int):=by omega
 have hc:Comb m (m+u):=by
  have:m=2∨m=3:=by omega
  rcases this with rfl|rfl
  ·exact .inl ⟨rfl,by omega,by omega⟩
  ·exact .inr (.inl ⟨rfl,by omega,by omega⟩)
 have n1:1<=1+v:=by omega
 have n3:1+v<=3:=by omega
 have g:=zin ns 20 m2 m4 t
 have h:Bb m (bkF ns 20 m t):=⟨zm9 m2 m4 (by omega) g,g.book m2 m4⟩
 have h2:2<=(bkF ns 20 m t).length:=by
  obtain⟨t',_,_,e⟩:=h.bk.grAt
  rw[e]
  exact lar m2 (lb1 _ _)
 have eB:=zmo ns hn 20 m2 m4 t (by omega) (by omega)
 have ex:=zkY ns hn 40 m2 m4 12 (by omega)
 have lx:=zjv ns 40 m2 m4 12
 have nx:(zcd ns 40 m 12).length<=12:=zey ns 40 m (long:=12)
 change vU [scD ns,.int 40,.int m,.int 12]=_ at ex
 change uc [scD ns,.int 20,.int m,.int t]=_ at eB
 change LetOk m (zcd ns 40 m 12) at lx
 generalize bkF ns 20 m t=B at h eB h2
 generalize zcd ns 40 m 12=x at ex lx nx
 generalize m+u=s at hs hc
 generalize 1+v=n at hnn n1 n3
 have l32:=h.l32
 have bb:∀{C:qQ1},C∈AB m s->Bb m C:=λhC=>⟨(zik hc hC).1,zbi (zik hc hC).1 (zik hc hC).2.1⟩
 have wx:yN [.tup (sT B),.str x]=.ok (.int (Wc B x:Int)):=zbs h.bk (by omega) (by omega)
 have td0:=zbQ (w:=0) (ef0.trans (zeb h lx (l:=x) (by omega)))
 have td1:=zbQ (w:=1) (ef1.trans (ziM hc lx (l:=x) (by omega)))
 have td2:=zbQ (w:=2) (ef2.trans (zbZ hc lx (l:=x) (by omega)))
 have td3:=zbQ (w:=3) (ef3.trans (zck h n1 n3))
 have hb:=zmc hc x
 refine ye ?_
 refine(zB (ρ':=[.fz (scD ns),.fz (.int m),.no,.no,.no,.no,.no,.no,.no,.no]) (yP ((uG (i:=2) (j:=(r:Int)) rfl ((cA3 (a:=scD ns) (b:=.int 0) (c:=.int 2) rfl rfl rfl (uU ns hn 0 2 (by decide) (by decide) (by decide))).trans (by rw[hr]))).trans (by rw[hmm])))).trans ?_
 refine(zB (ρ':=[.fz (scD ns),.fz (.int m),.fz (.tup (sT B)),.no,.no,.no,.no,.no,.no,.no]) (yP (cA4 (a:=scD ns) (b:=.int 20) (c:=.int m) (d:=.int t) rfl rfl rfl ((cA3 (a:=scD ns) (b:=.int 1) (c:=.int 4) rfl rfl rfl (uU ns hn 1 4 (by decide) (by decide) (by decide))).trans (by rw[ht])) eB))).trans ?_
 refine(zB (ρ':=[.fz (scD ns),.fz (.int m),.fz (.tup (sT B)),.fz (.str x),.no,.no,.no,.no,.no,.no]) (yP (cA4 (a:=scD ns) (b:=.int 40) (c:=.int m) (d:=.int 12) rfl rfl rfl rfl ex))).trans ?_
 refine(zB (ifF (vK (xM (a:=.int (Wc B x:Int)) (b:=.int (Wc B x:Int)) (cA4 (a:=.int 0) (b:=.int m) (c:=.tup (sT B)) (d:=.str x) rfl rfl rfl rfl td0) (cA2 (a:=.tup (sT B)) (b:=.str x) rfl rfl wx) ((ziG true _ _).trans (by simp)))))).trans ?_
 refine(zB (ρ':=[.fz (scD ns),.fz (.int m),.fz (.tup (sT B)),.fz (.str x),.fz (.int s),.no,.no,.no,.no,.no]) (yP ((uG (i:=(m:Int)) (j:=(u:Int)) rfl ((cA3 (a:=scD ns) (b:=.int 2) (c:=.int 3) rfl rfl rfl (uU ns hn 2 3 (by decide) (by decide) (by decide))).trans (by rw[hu]))).trans (by rw[hs])))).trans ?_
 refine(zB (ρ':=[.fz (scD ns),.fz (.int m),.fz (.tup (sT B)),.fz (.str x),.fz (.int s),.fz (encL (AB m s)),.no,.no,.no,.no]) (yP (cA2 (a:=.int m) (b:=.int s) rfl rfl (zlw hc)))).trans ?_
 have ec:=xK (fe:=fA (ari 2 yN) zny) (ρ0:=[.no,.fz (.str x)]) (l:=AB m s) (enc:=λC=>D.tup (sT C)) (λC=>.int (Wc C x:Int)) λC hC=>cA2 (a:=.tup (sT C)) (b:=.str x) rfl rfl (zbs (bb hC).bk (by have:=(bb hC).l32;omega) (by omega))
 refine(zB (ρ':=[.fz (scD ns),.fz (.int m),.fz (.tup (sT B)),.fz (.str x),.fz (.int s),.fz (encL (AB m s)),.fz (.lst ((AB m s).map λC=>.int (Wc C x:Int))),.no,.no,.no]) (za7 (zdD (ds:=(AB m s).map λC=>.tup (sT C)) rfl (by rw[lQ];have:=zkm hc;omega) ec))).trans ?_
 have emin:fO zgX (zj (fNm 6) zE) [.fz (scD ns),.fz (.int m),.fz (.tup (sT B)),.fz (.str x),.fz (.int s),.fz (encL (AB m s)),.fz (.lst ((AB m s).map λC=>.int (Wc C x:Int))),.no,.no,.no]=.ok (.int (Wc (bfB m s x) x:Int)):=zdv (ds:=[.lst ((AB m s).map λC=>.int (Wc C x:Int))]) rfl (znQ (f:=λC=>(Wc C x:Int)) hb λC hC=>Int.ofNat_le.mpr (zmS hc x hC))
 refine(zB (ifF (vK (xM (a:=.int (Wc (bfB m s x) x:Int)) (b:=.int (Wc (bfB m s x) x:Int)) (cA4 (a:=.int 1) (b:=.int m) (c:=.int s) (d:=.str x) rfl rfl rfl rfl td1) emin ((ziG true _ _).trans (by simp)))))).trans ?_
 obtain ⟨i,gi,gj⟩:∃i:Nat,(AB m s)[i]? = some (bfB m s x)/\∀(j:Nat) (C:qQ1),j<i->(AB m s)[j]? = some C->(Wc C x:Int)≠(Wc (bfB m s x) x:Int):=by
  obtain⟨_,i,q2,q3⟩:=zaB (k:=λC=>- (Wc C x:Int)) (AB m s).tail (kids m [])
  rw[← zmh (λC=>(Wc C x:Int)),← zdj hc] at q2 q3
  exact ⟨i,q2,λj C hj hC z=>by
   have:=q3 j C hj hC
   change - (Wc C x:Int) < - (Wc (bfB m s x) x:Int) at this
   omega⟩
 have eix:f2 ixD (fNm 5) (fM zlz zij (fNm 6) znl) [.fz (scD ns),.fz (.int m),.fz (.tup (sT B)),.fz (.str x),.fz (.int s),.fz (encL (AB m s)),.fz (.lst ((AB m s).map λC=>.int (Wc C x:Int))),.no,.no,.no]=.ok (.tup (sT (bfB m s x))):=by
  refine xM (a:=encL (AB m s)) (b:=.int (i:Int)) rfl (zlk (a:=.lst ((AB m s).map λC=>.int (Wc C x:Int))) (b:=.int (Wc (bfB m s x) x:Int)) rfl rfl emin (znd (f:=λC=>(Wc C x:Int)) gi gj (by have:=zkm hc;omega))) ?_
  have hi:i<((AB m s).map λC=>D.tup (sT C)).length:=by rw[lQ];exact(lO.mp gi).1
  refine(zmJ hi).trans ?_
  rw[← lh hi,lJ,gi];rfl
 refine(zB (ifF (vK (xM (a:=.tup (sT (bfB m s x))) (b:=.tup (sT (bfB m s x))) (cA4 (a:=.int 2) (b:=.int m) (c:=.int s) (d:=.str x) rfl rfl rfl rfl td2) eix ((zlC true _ _).trans (by simp)))))).trans ?_
 refine(zB (ρ':=[.fz (scD ns),.fz (.int m),.fz (.tup (sT B)),.fz (.str x),.fz (.int s),.fz (encL (AB m s)),.fz (.lst ((AB m s).map λC=>.int (Wc C x:Int))),.fz (.int n),.no,.no]) (yP ((uG (i:=1) (j:=(v:Int)) rfl ((cA3 (a:=scD ns) (b:=.int 3) (c:=.int 3) rfl rfl rfl (uU ns hn 3 3 (by decide) (by decide) (by decide))).trans (by rw[hv]))).trans (by rw[hnn])))).trans ?_
 have srt:=zjb m2 m3 n1 n3
 have el:(zY m n).length<=60:=by
  have:(m=2∨m=3)/\(n=1∨n=2∨n=3):=by omega
  rcases this with⟨rfl|rfl,rfl|rfl|rfl⟩ <;>decide +kernel
 have esort:fLs zow [.fz (scD ns),.fz (.int m),.fz (.tup (sT B)),.fz (.str x),.fz (.int s),.fz (encL (AB m s)),.fz (.lst ((AB m s).map λC=>.int (Wc C x:Int))),.fz (.int n),.no,.no]=.ok (.lst (sT (zY m n))):=by
  refine zkn (zm6 (ds:=[.lst (sT (zY m n))]) (zZ (cA2 (a:=.int m) (b:=.int n) rfl rfl (ziY m2 m3 n1 n3)) rfl) ((zdW (by omega)).trans ?_))
  rw[← sortF_eq (srt.imp λh=>ldl h) (lbk _)]
 have er:=xK (fe:=fO mkT zot) (ρ0:=[.no,.fz (.tup (sT B))]) (l:=zY m n) (enc:=D.str) (rw_ B) λz hz=>zdv (ds:=[.int (0 - (Wc B z:Int)),.str z]) (zZ (zhY (i:=0) (j:=(Wc B z:Int)) rfl (cA2 (a:=.tup (sT B)) (b:=.str z) rfl rfl (zbs h.bk (by omega) (by have:=((kY m4).mp hz).1;omega)))) rfl) rfl
 refine(zB (ρ':=[.fz (scD ns),.fz (.int m),.fz (.tup (sT B)),.fz (.str x),.fz (.int s),.fz (encL (AB m s)),.fz (.lst ((AB m s).map λC=>.int (Wc C x:Int))),.fz (.int n),.fz (.lst ((zY m n).map (rw_ B))),.no]) (za7 (zdD (ds:=sT (zY m n)) (zmv (a:=.lst (sT (zY m n))) esort rfl) (by rw[wN];omega) er))).trans ?_
 have emT:fO zhB (zj (fNm 8) zE) [.fz (scD ns),.fz (.int m),.fz (.tup (sT B)),.fz (.str x),.fz (.int s),.fz (encL (AB m s)),.fz (.lst ((AB m s).map λC=>.int (Wc C x:Int))),.fz (.int n),.fz (.lst ((zY m n).map (rw_ B))),.no]=.ok (rw_ B (drT m B n)):=by
  refine zdv (ds:=[.lst ((zY m n).map (rw_ B))]) rfl ?_
  have ecn:=zbo m2 m4 n
  refine(lU ⟨by rw[lb2];exact lZ.mpr λ_ _=>rfl,λz=>by rw[ecn] at z;cases z⟩).trans ?_
  have srt':=srt
  rw[ecn] at srt'
  obtain⟨s1,s2⟩:=laC.mp srt'
  have:=zan B (zY m n).tail ((zY m n).headD []) s1 s2
  show some (zf9 ((zY m n).map (rw_ B)))=_
  rw[show(zY m n).map (rw_ B)=((zY m n).headD []::(zY m n).tail).map (rw_ B) from by rw[← ecn]]
  show some (wg isLt (rw_ B ((zY m n).headD []),rw_ B ((zY m n).headD [])) (((zY m n).tail.map (rw_ B)).map λd=>(d,d))).1=_
  rw[this];rfl
 have e13:fO mkT hq9 [.fz (scD ns),.fz (.int m),.fz (.tup (sT B)),.fz (.str x),.fz (.int s),.fz (encL (AB m s)),.fz (.lst ((AB m s).map λC=>.int (Wc C x:Int))),.fz (.int n),.fz (.lst ((zY m n).map (rw_ B))),.no]=.ok (.tup [.str (drT m B n),.int (Wc B (drT m B n):Int)]):=by
  refine zdv (ds:=[.str (drT m B n),.int (Wc B (drT m B n):Int)]) (zZ (xM emT rfl rfl) (zZ ((zhY (i:=0) (j:=0 - (Wc B (drT m B n):Int)) rfl (xM emT rfl rfl)).trans ?_) rfl)) rfl
  rw[show(0:Int) - (0 - (Wc B (drT m B n):Int))=(Wc B (drT m B n):Int) by omega]
 refine(zB (ifF (vK (xM (a:=.tup [.str (drT m B n),.int (Wc B (drT m B n):Int)]) (cA4 (a:=.int 3) (b:=.int m) (c:=.tup (sT B)) (d:=.int n) rfl rfl rfl rfl td3) e13 (za0 true rfl (lbj rfl)))))).trans ?_
 obtain ⟨ρ1,q1,c1,rfl⟩:=vN (i:=9) (g:=G1) (l:=badT) (enc:=id) (ρ:=[.fz (scD ns),.fz (.int m),.fz (.tup (sT B)),.fz (.str x),.fz (.int s),.fz (encL (AB m s)),.fz (.lst ((AB m s).map λC=>.int (Wc C x:Int))),.fz (.int n),.fz (.lst ((zY m n).map (rw_ B))),.no]) (λ_ ρ=>∃c,ρ=[.fz (scD ns),.fz (.int m),.fz (.tup (sT B)),.fz (.str x),.fz (.int s),.fz (encL (AB m s)),.fz (.lst ((AB m s).map λC=>.int (Wc C x:Int))),.fz (.int n),.fz (.lst ((zY m n).map (rw_ B))),c]) ⟨_,rfl⟩ (by
  rintro k d ρ hk ⟨c,rfl⟩
  exact⟨_,zo3 m3 h hc (laL hk) _ _ _ _ _ _,_,rfl⟩)
 refine(zB (uX ((uD (ds:=badT.map id) rfl).trans q1))).trans ?_
 obtain ⟨ρ2,q2,c2,rfl⟩:=vN (i:=9) (g:=G2) (l:=[D.non,.tup [],.tup (sT B.dropLast),.lst (sT B)]) (enc:=id) (ρ:=[.fz (scD ns),.fz (.int m),.fz (.tup (sT B)),.fz (.str x),.fz (.int s),.fz (encL (AB m s)),.fz (.lst ((AB m s).map λC=>.int (Wc C x:Int))),.fz (.int n),.fz (.lst ((zY m n).map (rw_ B))),c1]) (λ_ ρ=>∃c,ρ=[.fz (scD ns),.fz (.int m),.fz (.tup (sT B)),.fz (.str x),.fz (.int s),.fz (encL (AB m s)),.fz (.lst ((AB m s).map λC=>.int (Wc C x:Int))),.fz (.int n),.fz (.lst ((zY m n).map (rw_ B))),c]) ⟨_,rfl⟩ (by
  rintro k d ρ hk ⟨c,rfl⟩
  exact⟨_,zoC h h2 (laL hk) _ _ _ _ _ _ _ _,_,rfl⟩)
 have edl:(sT B).dropLast=sT B.dropLast:=by unfold sT;rw[List.map_dropLast]
 have eI2:hq8 [.fz (scD ns),.fz (.int m),.fz (.tup (sT B)),.fz (.str x),.fz (.int s),.fz (encL (AB m s)),.fz (.lst ((AB m s).map λC=>.int (Wc C x:Int))),.fz (.int n),.fz (.lst ((zY m n).map (rw_ B))),c1]=.ok [D.non,.tup [],.tup (sT B.dropLast),.lst (sT B)]:=zmv (a:=.tup [D.non,.tup [],.tup (sT B.dropLast),.lst (sT B)]) (zdv (ds:=[D.non,.tup [],.tup (sT B.dropLast),.lst (sT B)]) (zZ rfl (zZ rfl (zZ (zkD (a:=.tup (sT B)) (l:=none) (h:=some (-1)) rfl rfl rfl ((zjE (sT B)).trans (by rw[edl]))) (zZ rfl rfl)))) rfl) rfl
 refine(zB (uX ((uD eI2).trans q2))).trans ?_
 have sb1:=(zgq m2 m3).2
 refine(zB (ifF (zfG (a:=.int m) (b:=.int 1) (c:=.non) (vq (n:=5) (by decide) r5 (ef1.trans (zbr (zcE sb1)))) (vq (n:=5) (by decide) r5 (ef2.trans (zcE sb1))) λw=>⟨rfl,rfl,rfl⟩))).trans ?_
 obtain ⟨ρ3,q3,c3,rfl⟩:=vN (i:=9) (g:=G3) (l:=badS) (enc:=id) (ρ:=[.fz (scD ns),.fz (.int m),.fz (.tup (sT B)),.fz (.str x),.fz (.int s),.fz (encL (AB m s)),.fz (.lst ((AB m s).map λC=>.int (Wc C x:Int))),.fz (.int n),.fz (.lst ((zY m n).map (rw_ B))),c2]) (λ_ ρ=>∃c,ρ=[.fz (scD ns),.fz (.int m),.fz (.tup (sT B)),.fz (.str x),.fz (.int s),.fz (encL (AB m s)),.fz (.lst ((AB m s).map λC=>.int (Wc C x:Int))),.fz (.int n),.fz (.lst ((zY m n).map (rw_ B))),c]) ⟨_,rfl⟩ (by
  rintro k d ρ hk ⟨c,rfl⟩
  exact⟨_,zoQ m2 m3 (laL hk) _ _ _ _ _ _ _ _,_,rfl⟩)
 refine(zB (uX ((uD (ds:=badS.map id) rfl).trans q3))).trans ?_
 have rb:=xW h.pcs h.isB
 have tb:∀d∈[D.int 0,.int 6,.bl true],zF [.int 3,.int m,.tup (sT B),d]=.ok (rf 1):=λd hd=>vq (n:=5) (by decide) r5 (ef3.trans (zgm rb (zhc.2 d hd)))
 have cb:=xK (fe:=fA (ari 4 zF) zon) (ρ0:=[.no,.fz (.int m),.fz (.tup (sT B))]) (l:=[D.int 0,.int 6,.bl true]) (enc:=id) (λ_=>rf 1) λd hd=>cA4 (a:=.int 3) (b:=.int m) (c:=.tup (sT B)) (d:=d) rfl rfl rfl rfl (tb d hd)
 exact xQ (xM (a:=.lst [rf 1,rf 1,rf 1]) (b:=.lst [rf 1,rf 1,rf 1]) (zaX (ds:=[.int 0,.int 6,.bl true]) rfl (by decide) cb) rfl (za0 false rfl (lbj rfl)))
end K34
namespace K34
open PySem L2 PyProof.Rows
open PySem.Challenge
open My
open Pg
def top (i:Nat):Stmt:=PySem.Challenge.pw_piecebooks_k34_costs.main.body.getD i (.Pass ⟨0,0,0,0⟩)
abbrev jE:Stmt:=top 44
abbrev qI:Stmt:=top 45
abbrev vG:Stmt:=top 46
abbrev uY:Stmt:=top 47
abbrev uL:Stmt:=top 50
abbrev zaA:Stmt:=top 8
abbrev qK:Stmt:=top 9
abbrev yV:Stmt:=top 15
abbrev za9:Stmt:=top 31
abbrev uF:Stmt:=top 32
abbrev vP:Stmt:=top 10
abbrev wH:Stmt:=top 11
abbrev zba:Stmt:=top 19
abbrev jC:Stmt:=top 28
abbrev qU:Stmt:=top 27
abbrev vH:Stmt:=top 33
abbrev zcS:Stmt:=top 20
abbrev qz:Stmt:=top 34
abbrev jJ:Stmt:=top 35
abbrev zda:Stmt:=top 29
abbrev zam:Stmt:=top 38
abbrev kI:Stmt:=top 40
abbrev u5:Stmt:=top 16
abbrev vW:Stmt:=top 17
abbrev qD:Stmt:=top 23
abbrev jg:Stmt:=top 22
abbrev kW:Stmt:=top 21
abbrev yW:Stmt:=top 24
abbrev uT:Stmt:=top 25
abbrev zbJ:Stmt:=top 26
abbrev uH:Stmt:=top 18
abbrev wI:Stmt:=top 12
abbrev zab:Stmt:=top 42
abbrev uy:Stmt:=top 51
abbrev jt:Stmt:=top 39
abbrev uE:Stmt:=top 41
abbrev ju:Stmt:=top 52
abbrev uM:Stmt:=top 49
abbrev qQ:Stmt:=top 53
abbrev v7:Stmt:=top 48
abbrev zbY:Stmt:=top 54
structure Txt (K:qQ0)(mg:qQ3) where
 a0:Dn K mg "_law_cell" jE ["_law_script", "_law_k"]
 a1:Dn K mg "_law_drawn" qI ["_law_script", "_law_k", "_law_many"]
 a2:Dn K mg "_law_book" vG ["_law_script", "_law_at", "_law_many", "_law_turns"]
 a3:Dn K mg "_law_text" uY ["_law_script", "_law_at", "_law_many", "_law_long"]
 a4:Dn K mg "_law_all" uL ["_law_many", "_law_size"]
 a5:Dn K mg "is_whole" zaA ["thing"]
 a6:Dn K mg "is_between" qK ["thing", "least", "most"]
 a7:Dn K mg "is_number_of_letters" yV ["thing"]
 a8:Dn K mg "is_size" za9 ["many", "thing"]
 a9:Dn K mg "require_size" uF ["many", "thing"]
 b0:Dn K mg "is_text_of" vP ["many", "thing"]
 b1:Dn K mg "require_text_of" wH ["many", "thing"]
 b2:Dn K mg "gone_on" zba ["many", "texts"]
 b3:Dn K mg "even_book" jC ["many", "length"]
 b4:Dn K mg "first_book" qU ["many"]
 b5:Dn K mg "most_partings" vH ["many", "size"]
 b6:Dn K mg "parted" zcS ["many", "pieces", "piece"]
 b7:Dn K mg "all_parted" qz ["many", "books"]
 b8:Dn K mg "all_books" jJ ["many", "size"]
 b9:Dn K mg "cut_by" zda ["book", "text"]
 c0:Dn K mg "words_by" zam ["book", "text"]
 c1:Dn K mg "best_for" kI ["many", "size", "text"]
 c2:Dn K mg "is_rising" u5 ["texts"]
 c3:Dn K mg "are_pieces" vW ["many", "thing"]
 c4:Dn K mg "first_pair" qD ["pieces"]
 c5:Dn K mg "is_apart" jg ["pieces", "text"]
 c6:Dn K mg "is_inner" kW ["pieces", "text"]
 c7:Dn K mg "first_text_apart" yW ["many", "pieces"]
 c8:Dn K mg "first_paper" uT ["many", "pieces"]
 c9:Dn K mg "is_book" zbJ ["many", "thing"]
 d0:Dn K mg "require_book" uH ["many", "thing"]
 d1:Dn K mg "require_between" wI ["thing", "least", "most"]
 d2:Dn K mg "dearest" zab ["many", "book", "length"]
 d3:Dn K mg "_law_refused" uy ["_law_e"]
 d4:Dn K mg "words_for" jt ["many", "book", "text"]
 d5:Dn K mg "fewest_words" uE ["many", "size", "text"]
 d6:Dn K mg "_law_told" ju ["_law_way", "_law_many", "_law_book_here", "_law_text_here"]
 d7:Dn K mg "_law_cut" uM ["_law_book_here", "_law_text_here"]
 d8:Dn K mg "_law_words" qQ ["_law_book_here", "_law_text_here"]
 d9:Dn K mg "_law_texts" v7 ["_law_many", "_law_long"]
 e0:Dn K mg "law" zbY ["_law_script"]
 e1:Value
 e2:mg "FEWEST_LETTERS" = some e1
 e3:RelV (.int (2)) e1
 e4:Value
 e5:mg "LETTERS" = some e4
 e6:RelV (.str (T [97,98,99,100])) e4
 e7:Value
 e8:mg "LONGEST_TEXT" = some e7
 e9:RelV (.int (5)) e7
 f0:Value
 f1:mg "MOST_PIECES" = some f0
 f2:RelV (.int (32)) f0
 f3:mg "ValueError" = none
 f4:mg "all" = none
 f5:mg "any" = none
 f6:mg "bool" = none
 f7:mg "int" = none
 f8:mg "isinstance" = none
 f9:mg "len" = none
 g0:mg "list" = none
 g1:mg "max" = none
 g2:mg "min" = none
 g3:mg "range" = none
 g4:mg "sorted" = none
 g5:mg "str" = none
 g6:mg "tuple" = none
 g7:mg "zip" = none
 g8:Own K mg "NoBook"
 g9:Own K mg "NoLetters"
 h0:Own K mg "NoSize"
 h1:Own K mg "PieceError"
 h2:ExcK K g8.C
 h3:PySem.W.subIn K (.ref g8.C) (.ref h1.C)=some true
 h4:PySem.W.kitOne K (.ref g8.C) (.ref g8.C)=some true
 h5:PySem.W.kitOne K (.ref g8.C) (.ref h0.C)=some false
 h6:PySem.W.kitOne K (.ref g8.C) (.ref g9.C)=some false
 h7:PySem.W.kitOne K (.ref g8.C) (.type "ValueError")=some true
 h8:ExcK K g9.C
 h9:PySem.W.subIn K (.ref g9.C) (.ref h1.C)=some true
 i0:PySem.W.kitOne K (.ref g9.C) (.ref g8.C)=some false
 i1:PySem.W.kitOne K (.ref g9.C) (.ref h0.C)=some false
 i2:PySem.W.kitOne K (.ref g9.C) (.ref g9.C)=some true
 i3:PySem.W.kitOne K (.ref g9.C) (.type "ValueError")=some true
 i4:ExcK K h0.C
 i5:PySem.W.subIn K (.ref h0.C) (.ref h1.C)=some true
 i6:PySem.W.kitOne K (.ref h0.C) (.ref g8.C)=some false
 i7:PySem.W.kitOne K (.ref h0.C) (.ref h0.C)=some true
 i8:PySem.W.kitOne K (.ref h0.C) (.ref g9.C)=some false
 i9:PySem.W.kitOne K (.ref h0.C) (.type "ValueError")=some true
def vM {K:qQ0}{mg:qQ3}(t:Txt K mg):Nat->Addr
 | 1=>t.g8.C
 | 3=>t.g9.C
 | 5=>t.h0.C
 | _=>0
section
variable {P:Program}{w:World}{K:qQ0}{mg:qQ3}{base:Heap}
abbrev FO (P:Program)(w:World)(base:Heap)(t:Txt K mg)(k:Nat){x:Str}{st:Stmt}{ps:List Str}(d:Dn K mg x st ps)(fn:List D->Rs D)(n:Nat):Prop:=FnOk P w K mg base (CX1 P w) k d.f d.fd ps (spD K (vM t) fn n)
variable {c_best_for P_best_for c_dearest P_dearest:Addr}
abbrev jy (c_best_for P_best_for c_dearest P_dearest:Addr):Tbs:=[("best_for", c_best_for,P_best_for),("dearest", c_dearest,P_dearest)]
abbrev FZ (P:Program)(w:World)(base:Heap)(Ts:Tbs)(t:Txt K mg)(k:Nat){x:Str}{st:Stmt}{ps:List Str}(d:Dn K mg x st ps)(fn:List D->Rs D)(n:Nat):Prop:=FnOk P w K mg base (CX1 P w) k d.f d.fd ps (spZ (wD Ts) (spD K (vM t) fn n))
abbrev zeQ:List Str:=["_law_script", "_law_k"]
theorem zdT:FnScope zeQ ["_law_script", "_law_k"] (zq jE):=fsc (by decide +kernel)
theorem zeq (t:Txt K mg):FO P w base t 1 t.a0 ud 2:=(qZ 2 2 0 vz (vM t) t.a0 zdT λ_ _ _ _ _ _ hr =>
   (zx (vI (xu (zeD hr.units) znt (xv 0) (jk zu) (yQ _))
   (zy (zK (yC zaz zcg zG (xv 1))))
   yq)
   (zy (zK (yC wZ wY (qX (xv 0) (yC zco zcs (xv 1) (yh xX n_len rfl t.f9 lc4 (zf (xv 0) zu zb) zb)) (λ_ _=>rfl)) (yC zaz zcg zG (yC j5 zbV (xv 1) (yh xX n_len rfl t.f9 lc4 (zf (xv 0) zu zb) zb))))))):FO P w base t 1 t.a0 (z8 2 vz) 2)
abbrev zd8:List Str:=["_law_script", "_law_k", "_law_many", "_law_cell_here"]
theorem sc__law_drawn:FnScope zd8 ["_law_script", "_law_k", "_law_many"] (zq qI):=fsc (by decide +kernel)
theorem yH (t:Txt K mg):FO P w base t 2 t.a1 zJ 3:=(qZ 4 3 1 wQ (vM t) t.a1 sc__law_drawn λ_ _ _ _ _ _ hr =>
   (zx (yj (i:=3) sc__law_drawn.nd rfl (Or.inl rfl) (yC zco zcs (yC wZ wY (yC zaz zcg (yC zco zcs (zA (zeq t) hr yr (zf (xv 0) (zf (xv 1) zu zb) zb) zb) zG) zG) (yC zaz zcg zG (yC wZ wY (xv 1) zG))) zG))
   (zx (yj (i:=3) sc__law_drawn.nd rfl (Or.inl rfl) (yC zco zcs (yC wZ wY (yC zaz zcg (xv 3) (xv 3)) (yC j5 zbV (xv 3) zG)) zG))
   (zy (zK (yC zco zcs (yC j5 zbV (yC zco zcs (yC wZ wY (yC zaz zcg (xv 3) (xv 3)) (yC j5 zbV (xv 3) zG)) zG) zG) (xv 2)))))):FO P w base t 2 t.a1 (z8 4 wQ) 3)
abbrev jA:List Str:=["_law_script", "_law_at", "_law_many", "_law_turns", "_law_found", "_law_k", "_law_piece"]
theorem sc__law_book:FnScope jA ["_law_script", "_law_at", "_law_many", "_law_turns"] (zq vG):=fsc (by decide +kernel)
theorem zei (t:Txt K mg):FO P w base t 3 t.a2 uc 4:=(qZ 7 4 2 vD (vM t) t.a2 sc__law_book λ_ _ _ _ _ _ hr =>
   (zx (zj8 (j:=4) sc__law_book.nd rfl rfl (x := "_law_k") (caps:=[]) (yt (fs:=zq vG) (N:=jA) rfl rfl (by decide +kernel)) rfl (xN rfl t.g3 (zf (xv 2) zu zb) rfl) ⟨λ_ _ _ _ _=>(zM (i:=0) (uK (N:=["_law_k"]) rfl (by decide +kernel)) rfl (Or.inl rfl)),λ_ _ _ _ _=>wu,λ_ _ _ _ _=>(qX (xG [97,98,99,100] (by decide +kernel)) (xv 0) (λ_ _=>rfl))⟩ rfl)
   (zx (ql (vR (i:=5) lao rfl (xN rfl t.g3 (zf (xv 3) zu zb) rfl) (zM (i:=5) sc__law_book.nd rfl (Or.inl rfl))
   (zx (znj (j:=6) sc__law_book.nd rfl (Or.inr rfl) (pv 4) (zo6 (i:=4) (zA (yH t) hr ur (zf (xv 0) (zf (yC wZ wY (xv 1) (xv 5)) (zf (yh xX n_len rfl t.f9 lc4 (zf (xv 4) zu zb) zb) zu zR) ug) zb) zb)) ⟨zR,rfl,rfl,rfl,rfl⟩)
   (zy (zct (i:=4) (zbD (i:=4) sc__law_book.nd rfl (Or.inl rfl) (zbB rfl t.g4 boot_sorted (XL.xe (zeF (xv 4) (qw (x := "_law_j") (caps:=[6]) (yt (fs:=zq vG) (N:=jA) rfl rfl (by decide +kernel)) rfl (xN rfl t.g3 (zf (xv 2) zu zb) rfl) ⟨λ_ _ _ _ _=>(zM (i:=0) (uK (N:=["_law_j", "_law_piece"]) rfl (by decide +kernel)) rfl (Or.inl rfl)),λ_ _ _ _ _=>wu,λ_ _ _ _ _=>(yC zb0 zew (xv 1) (qX (xG [97,98,99,100] (by decide +kernel)) (xv 0) (λ_ _=>rfl)))⟩))) ug)))))))
   (zy (zct (i:=4) (zK (qT wk ziC rfl t.g6 ldN (zf (xv 4) zu zb) zb)))))):FO P w base t 3 t.a2 (z8 7 vD) 4)
abbrev zbj:List Str:=["_law_script", "_law_at", "_law_many", "_law_long", "_law_size"]
theorem sc__law_text:FnScope zbj ["_law_script", "_law_at", "_law_many", "_law_long"] (zq uY):=fsc (by decide +kernel)
theorem zd5 (t:Txt K mg):FO P w base t 3 t.a3 vU 4:=(qZ 5 4 2 vp (vM t) t.a3 sc__law_text λ_ _ _ _ _ _ hr =>
   (zx (yj (i:=4) sc__law_text.nd rfl (Or.inl rfl) (zA (yH t) hr yr (zf (xv 0) (zf (xv 1) (zf (yC wZ wY (xv 3) zG) zu ug) zb) zb) zb))
   (zy (zK (zlj (xG [] (by decide +kernel)) (qw (x := "_law_k") (caps:=[0,2,1]) (yt (fs:=zq uY) (N:=zbj) rfl rfl (by decide +kernel)) rfl (xN rfl t.g3 (zf (xv 4) zu zb) rfl) ⟨λ_ _ _ _ _=>(zM (i:=0) (uK (N:=["_law_k", "_law_script", "_law_many", "_law_at"]) rfl (by decide +kernel)) rfl (Or.inl rfl)),λ_ _ _ _ _=>wu,λ_ _ _ _ _=>(qX (xG [97,98,99,100] (by decide +kernel)) (zA (yH t) hr ur (zf (xv 1) (zf (yC wZ wY (yC wZ wY (xv 3) zG) (xv 0)) (zf (xv 2) zu zb) ug) zb) zb) (λ_ _=>rfl))⟩) ⟨rfl,rfl,rfl,rfl,rfl⟩)))):FO P w base t 3 t.a3 (z8 5 vp) 4)
abbrev zaE:List Str:=["_law_many", "_law_size", "_law_found", "_law_row", "_law_longer", "_law_book_here", "_law_at", "_law_parts", "_law_more"]
theorem sc__law_all:FnScope zaE ["_law_many", "_law_size"] (zq uL):=fsc (by decide +kernel)
theorem zeO (t:Txt K mg):FO P w base t 1 t.a4 jK 2:=(qZ 9 2 0 uQ (vM t) t.a4 sc__law_all λ_ _ _ _ _ _ hr =>
   (zx (yj (i:=2) sc__law_all.nd rfl (Or.inl rfl) (jk zu))
   (zx (yj (i:=3) sc__law_all.nd rfl (Or.inl rfl) (jk (zf (qT wk ziC rfl t.g6 ldN (zf (qw (x := "_law_k") (caps:=[]) (yt (fs:=zq uL) (N:=zaE) rfl rfl (by decide +kernel)) rfl (xN rfl t.g3 (zf (xv 0) zu zb) rfl) ⟨λ_ _ _ _ _=>(zM (i:=0) (uK (N:=["_law_k"]) rfl (by decide +kernel)) rfl (Or.inl rfl)),λ_ _ _ _ _=>wu,λ_ _ _ _ _=>(qX (xG [97,98,99,100] (by decide +kernel)) (xv 0) (λ_ _=>rfl))⟩) zu rfl) rfl) zu zR)))
   (zx (ql (zc2 12 lao (xu ziq zhZ (yh xX n_len rfl t.f9 lc4 (zf (qX (xv 3) zG (λ_ _=>rfl)) zu xr) xr) (xv 1) (yQ _))
   (zx (yj (i:=2) sc__law_all.nd rfl (Or.inl rfl) (XL.xe (zeF (xv 2) (xv 3))))
   (zx (zhM (i:=4) sc__law_all.nd rfl (Or.inl rfl))
   (zx (vR (i:=5) lao rfl (qO (xv 3)) (zM (i:=5) sc__law_all.nd rfl (Or.inr rfl))
   (zy (vR (i:=6) lao rfl (xN rfl t.g3 (zf (yh xX n_len rfl t.f9 lc4 (zf (xv 5) zu zb) zb) zu zR) rfl) (zM (i:=6) sc__law_all.nd rfl (Or.inr rfl))
   (zx (zah (j:=7) sc__law_all.nd rfl rfl (x := "_law_k") (caps:=[5,6]) (yt (fs:=zq uL) (N:=zaE) rfl rfl (by decide +kernel)) rfl (xN rfl t.g3 (zf (xv 0) zu zb) rfl) ⟨λ_ _ _ _ _=>(zM (i:=0) (uK (N:=["_law_k", "_law_book_here", "_law_at"]) rfl (by decide +kernel)) rfl (Or.inl rfl)),λ_ _ _ _ _=>wu,λ_ _ _ _ _=>(yC zb0 zew (qX (xv 1) (xv 2) (λ_ _=>rfl)) (qX (xG [97,98,99,100] (by decide +kernel)) (xv 0) (λ_ _=>rfl)))⟩ rfl)
   (zx (yj (i:=8) sc__law_all.nd rfl (Or.inl rfl) (XL.xe (zbB rfl t.g4 boot_sorted (XL.xe (zeF (XL.xe (zeF (XL.xe (zde rfl t.g0 boot_list (wK (xv 5) um (uJ (xv 6))) xr)) (xv 7))) (XL.xe (zde rfl t.g0 boot_list (wK (xv 5) (uJ (yC wZ wY (xv 6) zG)) um) xr)))) ug)))
   (zy (zg4 (zoi hr) (pv 4) (qT wk ziC rfl t.g6 ldN (zf (xv 8) zu zb) zb) qu)))))))
   (zy (yj (i:=3) sc__law_all.nd rfl (Or.inl rfl) (XL.xe (zcl rfl rfl t.g4 (pv 4) zb)))))))))
   (zy (zK (xv 2)))))):FO P w base t 1 t.a4 (z8 9 uQ) 2)
abbrev zgu:List Str:=["thing"]
theorem zft:FnScope zgu ["thing"] (zq zaA):=fsc (by decide +kernel)
theorem zeJ (t:Txt K mg):FO P w base t 1 t.a5 jG 1:=(qZ 1 1 0 zaf (vM t) t.a5 zft λ_ _ _ _ _ _ hr =>
   (zy (zK (zbL (zfS zlV rfl t.f8 (xv 0) (zbW (v:=.ty "int") rfl t.f7 boot_int rfl) zb) (zaG (zkL (zfS zjH rfl t.f8 (xv 0) (zbW (v:=.ty "bool") rfl t.f6 boot_bool rfl) zb)))))):FO P w base t 1 t.a5 (z8 1 zaf) 1)
abbrev zdV:List Str:=["thing", "least", "most"]
theorem zcZ:FnScope zdV ["thing", "least", "most"] (zq qK):=fsc (by decide +kernel)
theorem u9 (t:Txt K mg):FO P w base t 2 t.a6 xq 3:=(qZ 3 3 1 ul (vM t) t.a6 zcZ λ_ _ _ _ _ _ hr =>
   (zy (zK (zbL (zA (zeJ t) hr yr (zf (xv 0) zu zb) zb) (zaG (zjU ziq ziq zhZ zhZ (xv 1) (xv 0) (xv 2)))))):FO P w base t 2 t.a6 (z8 3 ul) 3)
abbrev qt:List Str:=["thing"]
theorem uV:FnScope qt ["thing"] (zq yV):=fsc (by decide +kernel)
theorem wj (t:Txt K mg):FO P w base t 3 t.a7 zL 1:=(qZ 1 1 2 yu (vM t) t.a7 uV λ_ _ _ _ _ _ hr =>
   (zy (zK (zA (u9 t) hr yr (zf (xv 0) (zf (zie (uo (v:=.int (2)) rfl t.e2 t.e3) λ_=>.int _) (zf (yh xX n_len rfl t.f9 lc4 (zf (zie (uo (v:=.str (T [97,98,99,100])) rfl t.e5 t.e6) λ_=>.str [97,98,99,100] (zb1 (by decide +kernel) (by decide +kernel))) zu zb) zb) zu zR) zb) zb) zb))):FO P w base t 3 t.a7 (z8 1 yu) 1)
abbrev zif:List Str:=["many", "thing"]
theorem zgF:FnScope zif ["many", "thing"] (zq za9):=fsc (by decide +kernel)
theorem zgL (t:Txt K mg):FO P w base t 4 t.a8 zcw 2:=(qZ 2 2 3 zbl (vM t) t.a8 zgF λ_ _ _ _ _ _ hr =>
   (zy (zK (zbL (zA (wj t) hr yr (zf (xv 0) zu zb) zb) (zaG (zA (u9 t) hr yr (zf (xv 1) (zf (xv 0) (zf (zie (uo (v:=.int (32)) rfl t.f1 t.f2) λ_=>.int _) zu zb) zb) zb) zb))))):FO P w base t 4 t.a8 (z8 2 zbl) 2)
abbrev zce:List Str:=["many", "thing"]
theorem zbx:FnScope zce ["many", "thing"] (zq uF):=fsc (by decide +kernel)
theorem qM (t:Txt K mg):FO P w base t 5 t.a9 zX 2:=(qZ 2 2 4 uz (vM t) t.a9 zbx λ_ _ _ _ _ _ hr =>
   (zy (vI (jT (uO (zA (zgL t) hr yr (zf (xv 0) (zf (xv 1) zu zb) zb) zb)))
   (zy (zaZ t.h0 rfl rfl (zf (xG [116,104,105,115,32,105,115,32,110,111,32,115,105,122,101,32,102,114,111,109,32,97,115,32,109,97,110,121,32,97,115,32,116,104,101,114,101,32,97,114,101,32,108,101,116,116,101,114,115,44,32,50,32,116,111,32,52,44,32,116,111,32,51,50] (by decide +kernel)) zu zm) zm))
   yq)):FO P w base t 5 t.a9 (z8 2 uz) 2)
abbrev zaM:List Str:=["many", "thing", "letters"]
theorem sc_is_text_of:FnScope zaM ["many", "thing"] (zq vP):=fsc (by decide +kernel)
theorem j7 (t:Txt K mg):FO P w base t 1 t.b0 yK 2:=(qZ 3 2 0 vV (vM t) t.b0 sc_is_text_of λ_ _ _ _ _ _ hr =>
   (zx (yj (i:=2) sc_is_text_of.nd rfl (Or.inr rfl) (wK (zie (uo (v:=.str (T [97,98,99,100])) rfl t.e5 t.e6) λ_=>.str [97,98,99,100] (zb1 (by decide +kernel) (by decide +kernel))) um (uJ (xv 0))))
   (zy (zK (zbL (zfS zkX rfl t.f8 (xv 1) (zbW (v:=.ty "str") rfl t.g5 boot_str rfl) zb) (zaG (yh (zdc rfl) n_all rfl t.f4 boot_all (zf (qw (x := "sign") (caps:=[2]) (yt (fs:=zq vP) (N:=zaM) rfl rfl (by decide +kernel)) rfl (zh9 (xv 1)) ⟨λ_ _ _ _ _=>(zM (i:=0) (uK (N:=["sign", "letters"]) rfl (by decide +kernel)) rfl (Or.inl rfl)),λ_ _ _ _ _=>wu,λ_ _ _ _ _=>(zdC zmZ zoU (xv 0) (xv 1) (by with_unfolding_all rfl))⟩) zu rfl) rfl)))))):FO P w base t 1 t.b0 (z8 3 vV) 2)
abbrev zav:List Str:=["many", "thing"]
theorem jU:FnScope zav ["many", "thing"] (zq wH):=fsc (by decide +kernel)
theorem uf (t:Txt K mg):FO P w base t 2 t.b1 zT 2:=(qZ 2 2 1 wJ (vM t) t.b1 jU λ_ _ _ _ _ _ hr =>
   (zy (vI (jT (uO (zA (j7 t) hr yr (zf (xv 0) (zf (xv 1) zu zb) zb) zb)))
   (zy (zaZ t.g9 rfl rfl (zf (xG [116,104,105,115,32,105,115,32,110,111,32,116,101,120,116,32,111,102,32,116,104,101,115,101,32,108,101,116,116,101,114,115] (by decide +kernel)) zu zm) zm))
   yq)):FO P w base t 2 t.b1 (z8 2 wJ) 2)
abbrev zhb:List Str:=["many", "texts", "longer", "text", "letter"]
theorem sc_gone_on:FnScope zhb ["many", "texts"] (zq zba):=fsc (by decide +kernel)
theorem zau (t:Txt K mg):FO P w base t 1 t.b2 yp 2:=(qZ 5 2 0 qC (vM t) t.b2 sc_gone_on λ_ _ _ _ _ _ hr =>
   (zx (zbD (i:=2) sc_gone_on.nd rfl (Or.inl rfl) (ziF zu))
   (zx (ql (vR (i:=3) lao rfl (qO (xv 1)) (zM (i:=3) sc_gone_on.nd rfl (Or.inl rfl))
   (zy (vR (i:=4) lao rfl (zh9 (wK (zie (uo (v:=.str (T [97,98,99,100])) rfl t.e5 t.e6) λ_=>.str [97,98,99,100] (zb1 (by decide +kernel) (by decide +kernel))) um (uJ (xv 0)))) (zM (i:=4) sc_gone_on.nd rfl (Or.inl rfl))
   (zy (zbv (pv 2) (yC zb0 zew (xv 3) (xv 4)) ⟨ug,rfl,rfl,rfl,rfl⟩))))))
   (zy (zct (i:=2) (zK (xv 2)))))):FO P w base t 1 t.b2 (z8 5 qC) 2)
abbrev zeX:List Str:=["many", "length", "texts", "step"]
theorem sc_even_book:FnScope zeX ["many", "length"] (zq jC):=fsc (by decide +kernel)
theorem zaJ (t:Txt K mg):FO P w base t 2 t.b3 v8 2:=(qZ 4 2 1 jx (vM t) t.b3 sc_even_book λ_ _ _ _ _ _ hr =>
   (zx (yj (i:=2) sc_even_book.nd rfl (Or.inl rfl) (XEw.out (jV (zH (w5 (l:=[]) (by decide +kernel) (zb1 (by decide +kernel) (by decide +kernel))) yF zm))))
   (zx (ql (vR (i:=3) lao rfl (xN rfl t.g3 (zf (xv 1) zu zb) rfl) (zM (i:=3) sc_even_book.nd rfl (Or.inl rfl))
   (zy (yj (i:=2) sc_even_book.nd rfl (Or.inl rfl) (zA (zau t) hr ur (zf (xv 0) (zf (xv 2) zu zb) zb) zb)))))
   (zy (zK (qT wk ziC rfl t.g6 ldN (zf (xv 2) zu zb) zb))))):FO P w base t 2 t.b3 (z8 4 jx) 2)
abbrev zel:List Str:=["many"]
theorem zcJ:FnScope zel ["many"] (zq qU):=fsc (by decide +kernel)
theorem zdd (t:Txt K mg):FO P w base t 3 t.b4 j9 1:=(qZ 1 1 2 qJ (vM t) t.b4 zcJ λ_ _ _ _ _ _ hr =>
   (zy (zK (zA (zaJ t) hr yr (zf (xv 0) (zf zG zu zm) zb) zb))):FO P w base t 3 t.b4 (z8 1 qJ) 1)
abbrev zbe:List Str:=["many", "size"]
theorem zaR:FnScope zbe ["many", "size"] (zq vH):=fsc (by decide +kernel)
theorem zaV (t:Txt K mg):FO P w base t 1 t.b5 qj 2:=(qZ 2 2 0 vB (vM t) t.b5 zaR λ_ _ _ _ _ _ hr =>
   (zy (zK (yC j5 zbV (yC zfB zgo (xv 1) zG) (yC zfB zgo (xv 0) zG)))):FO P w base t 1 t.b5 (z8 2 vB) 2)
abbrev ziW:List Str:=["many", "pieces", "piece", "place"]
theorem sc_parted:FnScope ziW ["many", "pieces", "piece"] (zq zcS):=fsc (by decide +kernel)
theorem zhC (t:Txt K mg):FO P w base t 2 t.b6 zeo 3:=(qZ 4 3 1 zcI (vM t) t.b6 sc_parted λ_ _ _ _ _ _ hr =>
   (zx (yj (i:=3) sc_parted.nd rfl (Or.inl rfl) (zmr (xv 1) (xv 2) ⟨zb,rfl,rfl,rfl,rfl⟩))
   (zy (zK (yC zhF zkI (yC zhF zkI (wK (xv 1) um (uJ (xv 3))) (qT wk ziC rfl t.g6 ldN (zf (zA (zau t) hr yr (zf (xv 0) (zf (jk (zf (xv 2) zu zb)) zu zgl) zb) zb) zu zR) zR)) (wK (xv 1) (uJ (yC wZ wY (xv 3) zG)) um))))):FO P w base t 2 t.b6 (z8 4 zcI) 3)
abbrev zej:List Str:=["many", "books", "found", "book", "piece"]
theorem sc_all_parted:FnScope zej ["many", "books"] (zq qz):=fsc (by decide +kernel)
theorem zdf (t:Txt K mg):FO P w base t 3 t.b7 j6 2:=(qZ 5 2 2 qW (vM t) t.b7 sc_all_parted λ_ _ _ _ _ _ hr =>
   (zx (zhM (i:=2) sc_all_parted.nd rfl (Or.inl rfl))
   (zx (ql (vR (i:=3) lao rfl (qO (xv 1)) (zM (i:=3) sc_all_parted.nd rfl (Or.inl rfl))
   (zy (vR (i:=4) lao rfl (qi (xv 3)) (zM (i:=4) sc_all_parted.nd rfl (Or.inl rfl))
   (zy (zg4 (zoi hr) (pv 2) (zA (zhC t) hr ur (zf (xv 0) (zf (xv 3) (zf (xv 4) zu zb) zb) zb) zb) qu))))))
   (zy (zK (XL.xe (zcl rfl rfl t.g4 (pv 2) zb)))))):FO P w base t 3 t.b7 (z8 5 qW) 2)
abbrev zfr:List Str:=["many", "size", "books", "told", "step"]
theorem sc_all_books:FnScope zfr ["many", "size"] (zq jJ):=fsc (by decide +kernel)
theorem zdz (t:Txt K mg):FO P w base t 6 t.b8 wO 2:=(qZ 5 2 5 jF (vM t) t.b8 sc_all_books λ_ _ _ _ _ _ hr =>
   (zx (jD (zA (qM t) hr yr (zf (xv 0) (zf (xv 1) zu zb) zb) zb))
   (zx (yj (i:=2) sc_all_books.nd rfl (Or.inl rfl) (jk (zf (zA (zdd t) hr yr (zf (xv 0) zu zb) zb) zu zR)))
   (zx (zbD (i:=3) sc_all_books.nd rfl (Or.inl rfl) (zde rfl t.g0 boot_list (xv 2) zb))
   (zx (ql (vR (i:=4) lao rfl (zhd rfl t.g3 (zf zG (zf (zA (zaV t) hr ur (zf (xv 0) (zf (xv 1) zu zb) zb) zb) zu zR) zm) rfl rfl) (zM (i:=4) sc_all_books.nd rfl (Or.inl rfl))
   (zx (yj (i:=2) sc_all_books.nd rfl (Or.inl rfl) (zA (zdf t) hr ur (zf (xv 0) (zf (xv 2) zu zb) zb) zb))
   (zy (zgV (pv 3) (xv 2) ⟨zb,rfl,rfl,rfl,rfl⟩)))))
   (zy (zct (i:=3) (zK (xv 3)))))))):FO P w base t 6 t.b8 (z8 5 jF) 2)
abbrev zjO:List Str:=["book", "text", "pieces", "left", "letter"]
theorem sc_cut_by:FnScope zjO ["book", "text"] (zq zda):=fsc (by decide +kernel)
theorem ziL (t:Txt K mg):FO P w base t 1 t.b9 zbC 2:=(qZ 5 2 0 jR (vM t) t.b9 sc_cut_by λ_ _ _ _ _ _ hr =>
   (zx (zbD (i:=2) sc_cut_by.nd rfl (Or.inl rfl) (ziF zu))
   (zx (yj (i:=3) sc_cut_by.nd rfl (Or.inl rfl) (xG [] (by decide +kernel)))
   (zx (ql (vR (i:=4) lao rfl (zh9 (xv 1)) (zM (i:=4) sc_cut_by.nd rfl (Or.inl rfl))
   (zx (yj (i:=3) sc_cut_by.nd rfl (Or.inl rfl) (yC zb0 zew (xv 3) (xv 4)))
   (zy (vI (xu zgZ zp5 (xv 3) (xv 0) (by with_unfolding_all rfl))
   (zx (zbv (pv 2) (xv 3) ⟨zb,rfl,rfl,rfl,rfl⟩)
   (zy (yj (i:=3) sc_cut_by.nd rfl (Or.inl rfl) (xG [] (by decide +kernel)))))
   yq)))))
   (zy (zct (i:=2) (zK (zbS (zf (xv 2) (zf (xv 3) zu zb) zb)))))))):FO P w base t 1 t.b9 (z8 5 jR) 2)
abbrev zgJ:List Str:=["book", "text", "found"]
theorem sc_words_by:FnScope zgJ ["book", "text"] (zq zam):=fsc (by decide +kernel)
theorem vJ (t:Txt K mg):FO P w base t 2 t.c0 yM 2:=(qZ 3 2 1 zaD (vM t) t.c0 sc_words_by λ_ _ _ _ _ _ hr =>
   (zx (yj (i:=2) sc_words_by.nd rfl (Or.inl rfl) (zA (ziL t) hr yr (zf (xv 0) (zf (xv 1) zu zb) zb) zb))
   (zy (zK (zf1 (xu (zeD hr.units) znt (qX (xv 2) zG (λ_ _=>rfl)) (xG [] (by decide +kernel)) (yQ _)) (yh xX n_len rfl t.f9 lc4 (zf (qX (xv 2) zG (λ_ _=>rfl)) zu xr) xr) (yC wZ wY (yh xX n_len rfl t.f9 lc4 (zf (qX (xv 2) zG (λ_ _=>rfl)) zu xr) xr) zG))))):FO P w base t 2 t.c0 (z8 3 zaD) 2)
abbrev zcv:List Str:=["many", "size", "text"]
theorem zeU:FnScope zcv ["many", "size", "text"] (zq kI):=fsc (by decide +kernel)
theorem zbE (t:Txt K mg)(z:Zx K mg base (jy c_best_for P_best_for c_dearest P_dearest)):FZ P w base (jy c_best_for P_best_for c_dearest P_dearest) t 7 t.c1 yE 3:=(znL 3 3 6 zat (vM t) t.c1 zeU λ_ _ _ _ _ hz hr =>
   (zx (jD (zA (qM t) hr yr (zf (xv 0) (zf (xv 1) zu zb) zb) zb))
   (zx (jD (zA (uf t) hr yr (zf (xv 0) (zf (xv 2) zu zb) zb) zb))
   (zy (zK (zmn (zkH (p := "book") (q:=("best_for" ++ ".<locals>." ++ "<lambda>")) (k:=4) (caps:=[2]) z t.c1 (.head _) hr (yt (fs:=zq kI) (N:=zcv) rfl rfl (by decide +kernel)) (by decide +kernel) (λ_ _ _ _ hr=>(zA (vJ t) hr ur (zf (xv 0) (zf (xv 1) zu zb) zb) zb)) rfl) (hz.at (.head _)) rfl rfl t.g2 (zA (zdz t) hr yr (zf (xv 0) (zf (xv 1) zu zb) zb) zb) zR))))):FZ P w base (jy c_best_for P_best_for c_dearest P_dearest) t 7 t.c1 (z8 3 zat) 3)
abbrev zbU:List Str:=["texts"]
theorem zdr:FnScope zbU ["texts"] (zq u5):=fsc (by decide +kernel)
theorem zeg (t:Txt K mg):FO P w base t 1 t.c2 uh 1:=(qZ 1 1 0 uZ (vM t) t.c2 zdr λ_ _ _ _ _ _ hr =>
   (zy (zK (yh (zdc rfl) n_all rfl t.f4 boot_all (zf (XL.xe (zjJ (x := "one") (y := "other") (caps:=[]) (yt (fs:=zq u5) (N:=zbU) rfl rfl (by decide +kernel)) rfl rfl t.g7 (xv 0) (wK (xv 0) (uJ zG) um) ⟨λ_ _ _ _ _=>(zhU (K:=K) (i:=0) (j:=1) rfl rfl (uK (N:=["one", "other"]) rfl (by decide +kernel)) rfl rfl (Or.inl rfl) (Or.inl rfl)),λ_ _ _ _ _=>wu,λ_ _ _ _ _=>(zdC ziJ zoK (xv 0) (xv 1) (yQ _))⟩ rfl rfl)) zu rfl) rfl))):FO P w base t 1 t.c2 (z8 1 uZ) 1)
abbrev zaN:List Str:=["many", "thing"]
theorem zcL:FnScope zaN ["many", "thing"] (zq vW):=fsc (by decide +kernel)
theorem zcG (t:Txt K mg):FO P w base t 4 t.c3 yx 2:=(qZ 2 2 3 v5 (vM t) t.c3 zcL λ_ _ _ _ _ _ hr =>
   (zx (vI (XW.xt (znY (jT (uO (zA (wj t) hr yr (zf (xv 0) zu zb) zb))) (zkj (jT (uO (zfS kit_tuple rfl t.f8 (xv 1) (zbW (v:=.ty "tuple") rfl t.g6 ldN rfl) zb))))))
   (zy (zK qu))
   yq)
   (zx (vI (jT (zjk ziq ziq zhZ zhZ zG (yh xX n_len rfl t.f9 lc4 (zf (xv 1) zu zb) zb) (zie (uo (v:=.int (32)) rfl t.f1 t.f2) λ_=>.int _)))
   (zy (zK qu))
   yq)
   (zx (vI (jT (uO (yh (zdc rfl) n_all rfl t.f4 boot_all (zf (qw (x := "part") (caps:=[0]) (yt (fs:=zq vW) (N:=zaN) rfl rfl (by decide +kernel)) rfl (qi (xv 1)) ⟨λ_ _ _ _ _=>(zM (i:=0) (uK (N:=["part", "many"]) rfl (by decide +kernel)) rfl (Or.inl rfl)),λ_ _ _ _ _=>wu,λ_ _ _ _ _=>(zbL (zA (j7 t) hr ur (zf (xv 1) (zf (xv 0) zu zb) zb) zb) (zaG (zdC (wU hr.units) zeC (xv 0) (xG [] (by decide +kernel)) (yQ _))))⟩) zu rfl) rfl)))
   (zy (zK qu))
   yq)
   (zy (zK (zA (zeg t) hr yr (zf (xv 1) zu zb) zb)))))):FO P w base t 4 t.c3 (z8 2 v5) 2)
abbrev zek:List Str:=["pieces", "one", "other"]
theorem sc_first_pair:FnScope zek ["pieces"] (zq qD):=fsc (by decide +kernel)
theorem zc6 (t:Txt K mg):FO P w base t 1 t.c4 yJ 1:=(qZ 3 1 0 yZ (vM t) t.c4 sc_first_pair λ_ _ _ _ _ _ hr =>
   (zx (ql (zlS (i:=1) (j:=2) lao rfl rfl t.g7 (xv 0) (wK (xv 0) (uJ zG) um) (zhU (K:=K) (i:=1) (j:=2) rfl rfl sc_first_pair.nd rfl rfl (Or.inl rfl) (Or.inl rfl))
   (zy (vI (uO (uP (xv 2) (xv 1) ⟨zb,rfl,rfl,rfl,rfl⟩))
   (zy (zK (zbS (zf (xv 1) (zf (xv 2) zu zb) zb))))
   yq)) rfl rfl))
   (zy (zK zcn))):FO P w base t 1 t.c4 (z8 3 yZ) 1)
abbrev zcu:List Str:=["pieces", "text"]
theorem zeL:FnScope zcu ["pieces", "text"] (zq jg):=fsc (by decide +kernel)
theorem ze2 (t:Txt K mg):FO P w base t 1 t.c5 z7 2:=(qZ 2 2 0 kO (vM t) t.c5 zeL λ_ _ _ _ _ _ hr =>
   (zy (zK (zkL (yh (zgg rfl) n_any rfl t.f5 boot_any (zf (qw (x := "piece") (caps:=[1]) (yt (fs:=zq jg) (N:=zcu) rfl rfl (by decide +kernel)) rfl (qi (xv 0)) ⟨λ_ _ _ _ _=>(zM (i:=0) (uK (N:=["piece", "text"]) rfl (by decide +kernel)) rfl (Or.inl rfl)),λ_ _ _ _ _=>wu,λ_ _ _ _ _=>(zoB (uP (xv 0) (xv 1) ⟨zb,rfl,rfl,rfl,rfl⟩) (zaG (uP (xv 1) (xv 0) ⟨zb,rfl,rfl,rfl,rfl⟩)))⟩) zu rfl) rfl)))):FO P w base t 1 t.c5 (z8 2 kO) 2)
abbrev zcm:List Str:=["pieces", "text"]
theorem zfn:FnScope zcm ["pieces", "text"] (zq kW):=fsc (by decide +kernel)
theorem zfk (t:Txt K mg):FO P w base t 1 t.c6 z6 2:=(qZ 2 2 0 kJ (vM t) t.c6 zfn λ_ _ _ _ _ _ hr =>
   (zy (zK (yh (zgg rfl) n_any rfl t.f5 boot_any (zf (qw (x := "piece") (caps:=[1]) (yt (fs:=zq kW) (N:=zcm) rfl rfl (by decide +kernel)) rfl (qi (xv 0)) ⟨λ_ _ _ _ _=>(zM (i:=0) (uK (N:=["piece", "text"]) rfl (by decide +kernel)) rfl (Or.inl rfl)),λ_ _ _ _ _=>wu,λ_ _ _ _ _=>(zbL (uP (xv 0) (xv 1) ⟨zb,rfl,rfl,rfl,rfl⟩) (zaG (zdC (wU hr.units) zeC (xv 0) (xv 1) (yQ _))))⟩) zu rfl) rfl))):FO P w base t 1 t.c6 (z8 2 kJ) 2)
abbrev vZ:List Str:=["many", "pieces", "inner", "longer", "text"]
theorem sc_first_text_apart:FnScope vZ ["many", "pieces"] (zq yW):=fsc (by decide +kernel)
theorem jr (t:Txt K mg):FO P w base t 2 t.c7 yL 2:=(qZ 5 2 1 xY (vM t) t.c7 sc_first_text_apart λ_ _ _ _ _ _ hr =>
   (zx (yj (i:=2) sc_first_text_apart.nd rfl (Or.inl rfl) (XEw.out (jV (zH (w5 (l:=[]) (by decide +kernel) (zb1 (by decide +kernel) (by decide +kernel))) yF zm))))
   (zx (ql (zc2 2000 lao (xu (wU hr.units) zeC (xv 2) (jk zu) (yQ _))
   (zx (yj (i:=3) sc_first_text_apart.nd rfl (Or.inl rfl) (zA (zau t) hr ur (zf (xv 0) (zf (xv 2) zu zb) zb) zb))
   (zx (vR (i:=4) lao rfl (qO (xv 3)) (zM (i:=4) sc_first_text_apart.nd rfl (Or.inl rfl))
   (zy (vI (uO (zA (ze2 t) hr ur (zf (xv 1) (zf (xv 4) zu zb) zb) zb))
   (zy (zK (xv 4)))
   yq)))
   (zy (zah (j:=2) sc_first_text_apart.nd rfl rfl (x := "text") (caps:=[1]) (yt (fs:=zq yW) (N:=vZ) rfl rfl (by decide +kernel)) rfl (qO (xv 3)) ⟨λ_ _ _ _ _=>(zM (i:=0) (uK (N:=["text", "pieces"]) rfl (by decide +kernel)) rfl (Or.inl rfl)),λ_ _ _ _ _=>(zfb (uO (zA (zfk t) hr ur (zf (xv 1) (zf (xv 0) zu zb) zb) zb))),λ_ _ _ _ _=>(xv 0)⟩ rfl))))))
   (zy (zK zcn)))):FO P w base t 2 t.c7 (z8 5 xY) 2)
abbrev zc8:List Str:=["many", "pieces", "pair"]
theorem sc_first_paper:FnScope zc8 ["many", "pieces"] (zq uT):=fsc (by decide +kernel)
theorem zb6 (t:Txt K mg):FO P w base t 3 t.c8 wL 2:=(qZ 3 2 2 xZ (vM t) t.c8 sc_first_paper λ_ _ _ _ _ _ hr =>
   (zx (yj (i:=2) sc_first_paper.nd rfl (Or.inl rfl) (zA (zc6 t) hr yr (zf (xv 1) zu zb) zb))
   (zx (vI (zlO (xv 2))
   (zy (zK (xv 2)))
   yq)
   (zy (zK (zA (jr t) hr yr (zf (xv 0) (zf (xv 1) zu zb) zb) zb))))):FO P w base t 3 t.c8 (z8 3 xZ) 2)
abbrev ziu:List Str:=["many", "thing"]
theorem zgO:FnScope ziu ["many", "thing"] (zq zbJ):=fsc (by decide +kernel)
theorem zgD (t:Txt K mg):FO P w base t 5 t.c9 vg 2:=(qZ 2 2 4 zbz (vM t) t.c9 zgO λ_ _ _ _ _ _ hr =>
   (zy (zK (zbL (zA (zcG t) hr yr (zf (xv 0) (zf (xv 1) zu zb) zb) zb) (zaG (zn2 (zA (zb6 t) hr yr (zf (xv 0) (zf (xv 1) zu zb) zb) zb)))))):FO P w base t 5 t.c9 (z8 2 zbz) 2)
abbrev zca:List Str:=["many", "thing"]
theorem zbX:FnScope zca ["many", "thing"] (zq uH):=fsc (by decide +kernel)
theorem qY (t:Txt K mg):FO P w base t 6 t.d0 zU 2:=(qZ 2 2 5 ux (vM t) t.d0 zbX λ_ _ _ _ _ _ hr =>
   (zy (vI (jT (uO (zA (zgD t) hr yr (zf (xv 0) (zf (xv 1) zu zb) zb) zb)))
   (zy (zaZ t.g8 rfl rfl (zf (xG [116,104,105,115,32,105,115,32,110,111,32,98,111,111,107,32,111,102,32,115,111,32,109,97,110,121,32,108,101,116,116,101,114,115] (by decide +kernel)) zu zm) zm))
   yq)):FO P w base t 6 t.d0 (z8 2 ux) 2)
abbrev zao:List Str:=["thing", "least", "most"]
theorem jX:FnScope zao ["thing", "least", "most"] (zq wI):=fsc (by decide +kernel)
theorem zaa (t:Txt K mg):FO P w base t 3 t.d1 yg 3:=(qZ 3 3 2 wG (vM t) t.d1 jX λ_ _ _ _ _ _ hr =>
   (zy (vI (jT (uO (zA (u9 t) hr yr (zf (xv 0) (zf (xv 1) (zf (xv 2) zu zb) zb) zb) zb)))
   (zy (zaZ t.h0 rfl rfl (zf (xG [116,104,105,115,32,105,115,32,110,111,32,119,104,111,108,101,32,110,117,109,98,101,114,32,119,105,116,104,105,110,32,105,116,115,32,98,111,117,110,100,115] (by decide +kernel)) zu zm) zm))
   yq)):FO P w base t 3 t.d1 (z8 3 wG) 3)
abbrev zdu:List Str:=["many", "book", "length", "text"]
theorem sc_dearest:FnScope zdu ["many", "book", "length"] (zq zab):=fsc (by decide +kernel)
theorem zgy (t:Txt K mg)(z:Zx K mg base (jy c_best_for P_best_for c_dearest P_dearest)):FZ P w base (jy c_best_for P_best_for c_dearest P_dearest) t 7 t.d2 vm 3:=(znL 4 3 6 zbR (vM t) t.d2 sc_dearest λ_ _ _ _ _ hz hr =>
   (zx (jD (zA (qY t) hr yr (zf (xv 0) (zf (xv 1) zu zb) zb) zb))
   (zx (jD (zA (zaa t) hr yr (zf (xv 2) (zf zG (zf (zie (uo (v:=.int (5)) rfl t.e8 t.e9) λ_=>.int _) zu zb) zm) zb) zb))
   (zx (yj (i:=3) sc_dearest.nd rfl (Or.inl rfl) (zly (zkH (p := "one") (q:=("dearest" ++ ".<locals>." ++ "<lambda>")) (k:=4) (caps:=[1]) z t.d2 (.tail _ (.head _)) hr (yt (fs:=zq zab) (N:=zdu) rfl rfl (by decide +kernel)) (by decide +kernel) (λ_ _ _ _ hr=>(zA (vJ t) hr ur (zf (xv 1) (zf (xv 0) zu zb) zb) zb)) rfl) (hz.at (.tail _ (.head _))) rfl rfl t.g1 (zA (zaJ t) hr yr (zf (xv 0) (zf (xv 2) zu zb) zb) zb) zR))
   (zy (zK (zbS (zf (xv 3) (zf (zA (vJ t) hr yr (zf (xv 1) (zf (xv 3) zu zb) zb) zb) zu zR) zb))))))):FZ P w base (jy c_best_for P_best_for c_dearest P_dearest) t 7 t.d2 (z8 4 zbR) 3)
abbrev zb2:List Str:=["_law_e", "_law_flags"]
theorem sc__law_refused:FnScope zb2 ["_law_e"] (zq uy):=fsc (by decide +kernel)
theorem zbN (t:Txt K mg):FnOkH P w K mg base 1 t.d3.f t.d3.fd ["_law_e"] (spD K (vM t) yG 1) :=
 show FnOkH P w K mg base 1 t.d3.f t.d3.fd ["_law_e"] (spD K (vM t) (z8 2 uw) 1) from
 zpP (N:=["_law_e", "_law_flags"]) (ps:=["_law_e"]) (k:=0) (m:=2) (n:=1) (g:=uw) (cl:=vM t) t.d3.fn sc__law_refused rfl rfl λcdv A outer s H hr =>
   (zx (yj (i:=1) sc__law_refused.nd rfl (Or.inl rfl) (jk (zf (zcB (tab:=[(1,true),(3,false),(5,false)]) (xO ⟨t.h2,.inl ⟨_,rfl,t.h4⟩⟩ (xO ⟨t.h8,.inl ⟨_,rfl,t.i0⟩⟩ (xO ⟨t.i4,.inl ⟨_,rfl,t.i6⟩⟩ zcC))) rfl t.f8 (xv 0) (uo (v:=.ref t.g8.C) rfl t.g8.mgx rfl) zb) (zf (zcB (tab:=[(1,false),(3,false),(5,true)]) (xO ⟨t.h2,.inl ⟨_,rfl,t.h5⟩⟩ (xO ⟨t.h8,.inl ⟨_,rfl,t.i1⟩⟩ (xO ⟨t.i4,.inl ⟨_,rfl,t.i7⟩⟩ zcC))) rfl t.f8 (xv 0) (uo (v:=.ref t.h0.C) rfl t.h0.mgx rfl) zb) (zf (zcB (tab:=[(1,false),(3,true),(5,false)]) (xO ⟨t.h2,.inl ⟨_,rfl,t.h6⟩⟩ (xO ⟨t.h8,.inl ⟨_,rfl,t.i2⟩⟩ (xO ⟨t.i4,.inl ⟨_,rfl,t.i8⟩⟩ zcC))) rfl t.f8 (xv 0) (uo (v:=.ref t.g9.C) rfl t.g9.mgx rfl) zb) zu zR) zR) zR)))
   (zx (vI (XW.xt (znY (xu (wU hr.units) zeC (zlp (xv 1) qu ⟨zm,rfl,rfl,rfl,rfl⟩) zG (yQ _)) (zkj (jT (uO (zcB (tab:=[(1,true),(3,true),(5,true)]) (xO ⟨t.h2,.inr ⟨_,rfl,t.h7⟩⟩ (xO ⟨t.h8,.inr ⟨_,rfl,t.i3⟩⟩ (xO ⟨t.i4,.inr ⟨_,rfl,t.i9⟩⟩ zcC))) rfl t.f8 (xv 0) (zbW (v:=.ty "ValueError") rfl t.f3 zbm rfl) zb))))))
   (zy (zK (XEw.out (wC (zH (w5 (l:=[114,101,102,117,115,101,100]) (by decide +kernel) (zb1 (by decide +kernel) (by decide +kernel))) (zH (XEw.mk (zkf zG)) yF zlX) zm)))))
   yq)
   (zy (zK (XEw.out (wC (zH (w5 (l:=[114,101,102,117,115,101,100]) (by decide +kernel) (zb1 (by decide +kernel) (by decide +kernel))) (zH (XEw.mk (zmg (xv 1) qu ⟨zm,rfl,rfl,rfl,rfl⟩)) yF zR) zm)))))))
abbrev zeP:List Str:=["many", "book", "text"]
theorem zes:FnScope zeP ["many", "book", "text"] (zq jt):=fsc (by decide +kernel)
theorem zdq (t:Txt K mg):FO P w base t 7 t.d4 xV 3:=(qZ 3 3 6 jN (vM t) t.d4 zes λ_ _ _ _ _ _ hr =>
   (zx (jD (zA (qY t) hr yr (zf (xv 0) (zf (xv 1) zu zb) zb) zb))
   (zx (jD (zA (uf t) hr yr (zf (xv 0) (zf (xv 2) zu zb) zb) zb))
   (zy (zK (zA (vJ t) hr yr (zf (xv 1) (zf (xv 2) zu zb) zb) zb))))):FO P w base t 7 t.d4 (z8 3 jN) 3)
abbrev zcb:List Str:=["many", "size", "text"]
theorem zby:FnScope zcb ["many", "size", "text"] (zq uE):=fsc (by decide +kernel)
theorem zbu (t:Txt K mg)(z:Zx K mg base (jy c_best_for P_best_for c_dearest P_dearest)):FZ P w base (jy c_best_for P_best_for c_dearest P_dearest) t 8 t.d5 xg 3:=(znL 3 3 7 uI (vM t) t.d5 zby λ_ _ _ _ _ hz hr =>
   (zy (zK (zA (vJ t) hr yr (zf (u0 hz (zbE t z) hr yr (zf (xv 0) (zf (xv 1) (zf (xv 2) zu zb) zb) zb) zb) (zf (xv 2) zu zb) zR) zR))):FZ P w base (jy c_best_for P_best_for c_dearest P_dearest) t 8 t.d5 (z8 3 uI) 3)
abbrev zfm:List Str:=["_law_way", "_law_many", "_law_book_here", "_law_text_here", "_law_e"]
theorem sc__law_told:FnScope zfm ["_law_way", "_law_many", "_law_book_here", "_law_text_here"] (zq ju):=fsc (by decide +kernel)
theorem z9 (t:Txt K mg)(z:Zx K mg base (jy c_best_for P_best_for c_dearest P_dearest)):FZ P w base (jy c_best_for P_best_for c_dearest P_dearest) t 9 t.d6 zF 4:=(znL 5 4 8 jz (vM t) t.d6 sc__law_told λ_ _ _ _ _ hz hr =>
   (zy (zlg (i:=4) (cs:=[1,3,5]) (znk (xu zoZ zpd (xv 0) zG (yQ _)) (zh0 (zm7 (xu (zeD hr.units) znt (xv 0) zG (yQ _)) (zjr (zdq t) hr (zf (xv 1) (zf (xv 2) (zf (xv 3) zu zb) zb) zb) zb) (zdi hz (zbu t z) hr (zf (xv 1) (zf (xv 2) (zf (xv 3) zu zb) zb) zb) zb))) (zh0 (zm7 (xu (zeD hr.units) znt (xv 0) zG (yQ _)) (zdi hz (zbE t z) hr (zf (xv 1) (zf (xv 2) (zf (xv 3) zu zb) zb) zb) zb) (zdi hz (zgy t z) hr (zf (xv 1) (zf (xv 2) (zf (xv 3) zu zb) zb) zb) zb)))) t.h1 rfl sc__law_told.nd rfl rfl (zbg t.h3 (zbg t.h9 (zbg t.i5 zjq))) (λ_=>(zi6 (zbN t) ((hr.mono (by decide)).hand _) rfl t.d3.mg t.d3.fn.kp t.d3.bd (zf (xv 4) zu zb) zb)) rfl rfl)):FZ P w base (jy c_best_for P_best_for c_dearest P_dearest) t 9 t.d6 (z8 5 jz) 4)
abbrev zag:List Str:=["_law_book_here", "_law_text_here", "_law_pieces", "_law_some"]
theorem sc__law_cut:FnScope zag ["_law_book_here", "_law_text_here"] (zq uM):=fsc (by decide +kernel)
theorem zfh (t:Txt K mg):FO P w base t 1 t.d7 jL 2:=(qZ 4 2 0 zak (vM t) t.d7 sc__law_cut λ_ _ _ _ _ _ hr =>
   (zx (zbD (i:=2) sc__law_cut.nd rfl (Or.inl rfl) (ziF zu))
   (zx (zah (j:=3) sc__law_cut.nd rfl rfl (x := "_law_piece") (caps:=[1]) (yt (fs:=zq uM) (N:=zag) rfl rfl (by decide +kernel)) rfl (qi (xv 0)) ⟨λ_ _ _ _ _=>(zM (i:=0) (uK (N:=["_law_piece", "_law_text_here"]) rfl (by decide +kernel)) rfl (Or.inl rfl)),λ_ _ _ _ _=>(zfb (uO (uP (xv 1) (xv 0) ⟨zb,rfl,rfl,rfl,rfl⟩))),λ_ _ _ _ _=>(xv 0)⟩ rfl)
   (zx (ql (zc2 64 lao (xu (wU hr.units) zeC (xv 3) (jk zu) (yQ _))
   (zx (zbv (pv 2) (qX (xv 3) zG (λ_ _=>rfl)) ⟨xr,rfl,rfl,rfl,rfl⟩)
   (zx (yj (i:=1) sc__law_cut.nd rfl (Or.inr rfl) (wK (xv 1) (uJ (yh xX n_len rfl t.f9 lc4 (zf (qX (xv 3) zG (λ_ _=>rfl)) zu xr) xr)) um))
   (zy (zah (j:=3) sc__law_cut.nd rfl rfl (x := "_law_piece") (caps:=[1]) (yt (fs:=zq uM) (N:=zag) rfl rfl (by decide +kernel)) rfl (qi (xv 0)) ⟨λ_ _ _ _ _=>(zM (i:=0) (uK (N:=["_law_piece", "_law_text_here"]) rfl (by decide +kernel)) rfl (Or.inl rfl)),λ_ _ _ _ _=>(zfb (uO (uP (xv 1) (xv 0) ⟨zb,rfl,rfl,rfl,rfl⟩))),λ_ _ _ _ _=>(xv 0)⟩ rfl))))))
   (zy (zct (i:=2) (zK (zbS (zf (xv 2) (zf (xv 1) zu zb) zb)))))))):FO P w base t 1 t.d7 (z8 4 zak) 2)
abbrev zeG:List Str:=["_law_book_here", "_law_text_here", "_law_pieces", "_law_left"]
theorem sc__law_words:FnScope zeG ["_law_book_here", "_law_text_here"] (zq qQ):=fsc (by decide +kernel)
theorem uR (t:Txt K mg):FO P w base t 2 t.d8 yN 2:=(qZ 4 2 1 qR (vM t) t.d8 sc__law_words λ_ _ _ _ _ _ hr =>
   (zx (zl1 (i:=2) (j:=3) (zhU (K:=K) (i:=2) (j:=3) rfl rfl sc__law_words.nd rfl rfl (Or.inl rfl) (Or.inl rfl)) (zA (zfh t) hr yr (zf (xv 0) (zf (xv 1) zu zb) zb) zb))
   (zy (zK (yC wZ wY (yh xX n_len rfl t.f9 lc4 (zf (xv 2) zu zb) zb) (zf1 (xu (wU hr.units) zeC (xv 3) (xG [] (by decide +kernel)) (yQ _)) zG zG))))):FO P w base t 2 t.d8 (z8 4 qR) 2)
abbrev zaL:List Str:=["_law_many", "_law_long", "_law_found", "_law_turn", "_law_longer", "_law_text_here"]
theorem sc__law_texts:FnScope zaL ["_law_many", "_law_long"] (zq v7):=fsc (by decide +kernel)
theorem zcM (t:Txt K mg):FO P w base t 1 t.d9 qg 2:=(qZ 6 2 0 qH (vM t) t.d9 sc__law_texts λ_ _ _ _ _ _ hr =>
   (zx (yj (i:=2) sc__law_texts.nd rfl (Or.inl rfl) (XEw.out (jV (zH (w5 (l:=[]) (by decide +kernel) (zb1 (by decide +kernel) (by decide +kernel))) yF zm))))
   (zx (ql (vR (i:=3) lao rfl (xN rfl t.g3 (zf (xv 1) zu zb) rfl) (zM (i:=3) sc__law_texts.nd rfl (Or.inl rfl))
   (zx (yj (i:=4) sc__law_texts.nd rfl (Or.inl rfl) (jk zu))
   (zx (vR (i:=5) lao rfl (qO (xv 2)) (zM (i:=5) sc__law_texts.nd rfl (Or.inr rfl))
   (zy (yj (i:=4) sc__law_texts.nd rfl (Or.inl rfl) (XL.xe (zeF (xv 4) (qw (x := "_law_k") (caps:=[5]) (yt (fs:=zq v7) (N:=zaL) rfl rfl (by decide +kernel)) rfl (xN rfl t.g3 (zf (xv 0) zu zb) rfl) ⟨λ_ _ _ _ _=>(zM (i:=0) (uK (N:=["_law_k", "_law_text_here"]) rfl (by decide +kernel)) rfl (Or.inl rfl)),λ_ _ _ _ _=>wu,λ_ _ _ _ _=>(yC zb0 zew (xv 1) (qX (xG [97,98,99,100] (by decide +kernel)) (xv 0) (λ_ _=>rfl)))⟩))))))
   (zy (yj (i:=2) sc__law_texts.nd rfl (Or.inl rfl) (xv 4)))))))
   (zy (zK (xv 2))))):FO P w base t 1 t.d9 (z8 6 qH) 2)
abbrev zez:List Str:=["_law_script", "_law_many", "_law_book_here", "_law_text_here", "_law_size", "_law_some", "_law_costs", "_law_long", "_law_rows", "_law_bad"]
theorem sc_law:FnScope zez ["_law_script"] (zq zbY):=fsc (by decide +kernel)
theorem zmI (t:Txt K mg)(z:Zx K mg base (jy c_best_for P_best_for c_dearest P_dearest)):FZ P w base (jy c_best_for P_best_for c_dearest P_dearest) t 10 t.e0 zko 1:=(znL 10 1 9 zlN (vM t) t.e0 sc_law λ_ _ _ _ _ hz hr =>
   (zx (yj (i:=1) sc_law.nd rfl (Or.inr rfl) (yC wZ wY zG (zA (yH t) hr yr (zf (xv 0) (zf zG (zf zG zu zm) zm) zb) zb)))
   (zx (yj (i:=2) sc_law.nd rfl (Or.inr rfl) (zA (zei t) hr yr (zf (xv 0) (zf zG (zf (xv 1) (zf (zA (yH t) hr yr (zf (xv 0) (zf zG (zf zG zu zm) zm) zb) zb) zu zR) zb) zm) zb) zb))
   (zx (yj (i:=3) sc_law.nd rfl (Or.inr rfl) (zA (zd5 t) hr yr (zf (xv 0) (zf zG (zf (xv 1) (zf zG zu zm) zb) zm) zb) zb))
   (zx (vI (xu (wU hr.units) zeC (u0 hz (z9 t z) hr yr (zf zG (zf (xv 1) (zf (xv 2) (zf (xv 3) zu zb) zb) zb) zm) zm) (zA (uR t) hr yr (zf (xv 2) (zf (xv 3) zu zb) zb) zb) (yQ _))
   (zy (zK qu))
   yq)
   (zx (yj (i:=4) sc_law.nd rfl (Or.inr rfl) (yC wZ wY (xv 1) (zA (yH t) hr yr (zf (xv 0) (zf zG (zf zG zu zm) zm) zb) zb)))
   (zx (yj (i:=5) sc_law.nd rfl (Or.inl rfl) (zA (zeO t) hr yr (zf (xv 1) (zf (xv 4) zu zb) zb) zb))
   (zx (zah (j:=6) sc_law.nd rfl rfl (x := "_law_one") (caps:=[3]) (yt (fs:=zq zbY) (N:=zez) rfl rfl (by decide +kernel)) rfl (qO (xv 5)) ⟨λ_ _ _ _ _=>(zM (i:=0) (uK (N:=["_law_one", "_law_text_here"]) rfl (by decide +kernel)) rfl (Or.inl rfl)),λ_ _ _ _ _=>wu,λ_ _ _ _ _=>(zA (uR t) hr ur (zf (xv 0) (zf (xv 1) zu zb) zb) zb)⟩ rfl)
   (zx (vI (xu (wU hr.units) zeC (u0 hz (z9 t z) hr yr (zf zG (zf (xv 1) (zf (xv 4) (zf (xv 3) zu zb) zb) zb) zm) zm) (yh (zed rfl) zku rfl t.g2 boot_min (zf (xv 6) zu zb) zb) (yQ _))
   (zy (zK qu))
   yq)
   (zx (vI (xu (wU hr.units) zeC (u0 hz (z9 t z) hr yr (zf zG (zf (xv 1) (zf (xv 4) (zf (xv 3) zu zb) zb) zb) zm) zm) (qX (xv 5) (zmq (xv 6) (yh (zed rfl) zku rfl t.g2 boot_min (zf (xv 6) zu zb) zb) ⟨zR,rfl,rfl,rfl,rfl⟩) (λ_ _=>rfl)) (yQ _))
   (zy (zK qu))
   yq)
   (zx (yj (i:=7) sc_law.nd rfl (Or.inl rfl) (yC wZ wY zG (zA (yH t) hr yr (zf (xv 0) (zf zG (zf zG zu zm) zm) zb) zb)))
   (zx (zah (j:=8) sc_law.nd rfl rfl (x := "_law_one") (caps:=[2]) (yt (fs:=zq zbY) (N:=zez) rfl rfl (by decide +kernel)) rfl (qO (XL.xe (zbB rfl t.g4 boot_sorted (zA (zcM t) hr yr (zf (xv 1) (zf (xv 7) zu zb) zb) zb) zR))) ⟨λ_ _ _ _ _=>(zM (i:=0) (uK (N:=["_law_one", "_law_book_here"]) rfl (by decide +kernel)) rfl (Or.inl rfl)),λ_ _ _ _ _=>wu,λ_ _ _ _ _=>(zbS (zf (yC zfB zgo zG (zA (uR t) hr ur (zf (xv 1) (zf (xv 0) zu zb) zb) zb)) (zf (xv 0) zu zb) ug))⟩ rfl)
   (zeh (vI (xu (wU hr.units) zeC (u0 hz (z9 t z) hr yr (zf zG (zf (xv 1) (zf (xv 2) (zf (xv 7) zu zb) zb) zb) zm) zm) (zbS (zf (qX (yh (zec rfl (zpy hr)) zkE rfl t.g2 boot_min (zf (xv 8) zu zb) zb) zG (λ_ _=>rfl)) (zf (yC zfB zgo zG (qX (yh (zec rfl (zpy hr)) zkE rfl t.g2 boot_min (zf (xv 8) zu zb) zb) zG (λ_ _=>rfl))) zu ug) xr)) (yQ _))
   (zy (zK qu))
   yq)
   (zgW (zfu (zfv (i:=9) lao rfl (zfs (wC (zH (w5 (l:=[101]) (by decide +kernel) (zb1 (by decide +kernel) (by decide +kernel))) (zH (w5 (l:=[65]) (by decide +kernel) (zb1 (by decide +kernel) (by decide +kernel))) (zH zhI (zH xU (zH (jV (zH (w5 (l:=[97]) (by decide +kernel) (zb1 (by decide +kernel) (by decide +kernel))) yF zm)) yF zgl) zm) zm) zm) zm))) (zM (i:=9) sc_law.nd rfl (Or.inr rfl))
   (zx (vI (xu (wU hr.units) zeC (u0 hz (z9 t z) hr ur (zf zG (zf (xv 1) (zf (xv 2) (zf (xv 9) zu zb) zb) zb) zm) zm) (XEw.out (wC (zH (w5 (l:=[114,101,102,117,115,101,100]) (by decide +kernel) (zb1 (by decide +kernel) (by decide +kernel))) (zH xU yF zm) zm))) (yQ _))
   (zy (zK qu))
   yq)
   (zx (vI (xu (wU hr.units) zeC (jY hz (x := "_law_way") (caps:=[1,4,9]) (yt (fs:=zq zbY) (N:=zez) rfl rfl (by decide +kernel)) rfl (qi (XEw.out (wC (zH xU (zH xU yF zm) zm)))) ⟨λ_ _ _ _ _=>(zM (i:=0) (uK (N:=["_law_way", "_law_many", "_law_size", "_law_bad"]) rfl (by decide +kernel)) rfl (Or.inl rfl)),λ_ _ _ _ _=>(jZ (z9 t z) hr ur (zf (xv 0) (zf (xv 1) (zf (xv 2) (zf (xv 3) zu zb) zb) zb) zb) zb)⟩) (XL.xe (zd4 (XEw.out (jV (zH (wC (zH (w5 (l:=[114,101,102,117,115,101,100]) (by decide +kernel) (zb1 (by decide +kernel) (by decide +kernel))) (zH xU yF zm) zm)) yF kZ))) zG)) (yQ _))
   (zy (zK qu))
   yq)
   (zy (vI (XW.xt (zom (xu (wU hr.units) zeC (u0 hz (z9 t z) hr ur (zf zG (zf (xv 1) (zf (xv 2) (zf (xv 9) zu zb) zb) zb) zm) zm) (XEw.out (wC (zH (w5 (l:=[114,101,102,117,115,101,100]) (by decide +kernel) (zb1 (by decide +kernel) (by decide +kernel))) (zH xU yF zm) zm))) (yQ _)) (zlv (xu (wU hr.units) zeC (xv 9) zG (yQ _)))))
   (zy (zK qu))
   yq))))))
   (zgi (zfu (zfv (i:=9) lao rfl (zfs (wC (zH zhI (zH (wC yF) (zH (XEw.mk (wK (xv 2) um (uJ (zkf zG)))) (zH (XEw.mk (XL.xe (zde rfl t.g0 boot_list (xv 2) zb))) yF zR) xr) kZ) zm))) (zM (i:=9) sc_law.nd rfl (Or.inr rfl))
   (zy (vI (xu (wU hr.units) zeC (jY hz (x := "_law_way") (caps:=[1,9]) (yt (fs:=zq zbY) (N:=zez) rfl rfl (by decide +kernel)) rfl (qi (XEw.out (wC (zH xU (zH xU yF zm) zm)))) ⟨λ_ _ _ _ _=>(zM (i:=0) (uK (N:=["_law_way", "_law_many", "_law_bad"]) rfl (by decide +kernel)) rfl (Or.inl rfl)),λ_ _ _ _ _=>(jZ (z9 t z) hr ur (zf (xv 0) (zf (xv 1) (zf (xv 2) (zf zcn zu zm) zb) zb) zb) zb)⟩) (XL.xe (zd4 (XEw.out (jV (zH (wC (zH (w5 (l:=[114,101,102,117,115,101,100]) (by decide +kernel) (zb1 (by decide +kernel) (by decide +kernel))) (zH xU yF zm) zm)) yF kZ))) zG)) (yQ _))
   (zy (zK qu))
   yq))))
   (zeh (vI (xu (wU hr.units) zeC (jY hz (x := "_law_way") (caps:=[1]) (yt (fs:=zq zbY) (N:=zez) rfl rfl (by decide +kernel)) rfl (qi (XEw.out (wC (zH xU (zH xU yF zm) zm)))) ⟨λ_ _ _ _ _=>(zM (i:=0) (uK (N:=["_law_way", "_law_many"]) rfl (by decide +kernel)) rfl (Or.inl rfl)),λ_ _ _ _ _=>(jZ (z9 t z) hr ur (zf (xv 0) (zf (xv 1) (zf zG (zf zcn zu zm) zm) zb) zb) zb)⟩) (XL.xe (zd4 (XEw.out (jV (zH (wC (zH (w5 (l:=[114,101,102,117,115,101,100]) (by decide +kernel) (zb1 (by decide +kernel) (by decide +kernel))) (zH xU yF zm) zm)) yF kZ))) zG)) (yQ _))
   (zy (zK qu))
   yq)
   (zgi (zfu (zfv (i:=9) lao rfl (zfs (wC (zH xU (zH xU (zH zhI (zH zok (zH (w5 (l:=[50]) (by decide +kernel) (zb1 (by decide +kernel) (by decide +kernel))) yF zm) zm) zm) zm) zm))) (zM (i:=9) sc_law.nd rfl (Or.inr rfl))
   (zy (vI (xu (wU hr.units) zeC (jY hz (x := "_law_way") (caps:=[1,9]) (yt (fs:=zq zbY) (N:=zez) rfl rfl (by decide +kernel)) rfl (qi (XEw.out (wC (zH xU (zH xU yF zm) zm)))) ⟨λ_ _ _ _ _=>(zM (i:=0) (uK (N:=["_law_way", "_law_many", "_law_bad"]) rfl (by decide +kernel)) rfl (Or.inl rfl)),λ_ _ _ _ _=>(jZ (z9 t z) hr ur (zf (xv 0) (zf (xv 1) (zf (xv 2) (zf zcn zu zm) zb) zb) zb) zb)⟩) (XL.xe (zd4 (XEw.out (jV (zH (wC (zH (w5 (l:=[114,101,102,117,115,101,100]) (by decide +kernel) (zb1 (by decide +kernel) (by decide +kernel))) (zH xU yF zm) zm)) yF kZ))) zG)) (yQ _))
   (zy (zK qu))
   yq))))
   (zy (zK (zdC (zeD hr.units) znt (jY hz (x := "_law_bad") (caps:=[1,2]) (yt (fs:=zq zbY) (N:=zez) rfl rfl (by decide +kernel)) rfl (qi (XEw.out (wC (zH xU (zH xU (zH zok yF zm) zm) zm)))) ⟨λ_ _ _ _ _=>(zM (i:=0) (uK (N:=["_law_bad", "_law_many", "_law_book_here"]) rfl (by decide +kernel)) rfl (Or.inl rfl)),λ_ _ _ _ _=>(jZ (z9 t z) hr ur (zf zG (zf (xv 1) (zf (xv 2) (zf (xv 0) zu zb) zb) zb) zm) zm)⟩) (XL.xe (zd4 (XEw.out (jV (zH (wC (zH (w5 (l:=[114,101,102,117,115,101,100]) (by decide +kernel) (zb1 (by decide +kernel) (by decide +kernel))) (zH xU yF zm) zm)) yF kZ))) zG)) (yQ _)))))))))))))))))))):FZ P w base (jy c_best_for P_best_for c_dearest P_dearest) t 10 t.e0 (z8 10 zlN) 1)
end
end K34
namespace K34
open PySem L2
theorem all_mk {l:PySem.W.OpenLaw}{w:World}{K:qQ0}{h:Heap}{mg:qQ3}{fa:Addr}(X:K.In h)(G:h.Ns mainGlobals mg)(hfa:mg "law" = some (.ref fa))
  {vFEWEST_LETTERS vLETTERS vLONGEST_TEXT vMOST_PIECES:Value}
  (a0:Dz K "_law_cell" jE)
  (a1:Dz K "_law_drawn" qI)
  (a2:Dz K "_law_book" vG)
  (a3:Dz K "_law_text" uY)
  (a4:Dz K "_law_all" uL)
  (a5:Dz K "is_whole" zaA)
  (a6:Dz K "is_between" qK)
  (a7:Dz K "is_number_of_letters" yV)
  (a8:Dz K "is_size" za9)
  (a9:Dz K "require_size" uF)
  (a10:Dz K "is_text_of" vP)
  (a11:Dz K "require_text_of" wH)
  (a12:Dz K "gone_on" zba)
  (a13:Dz K "even_book" jC)
  (a14:Dz K "first_book" qU)
  (a15:Dz K "most_partings" vH)
  (a16:Dz K "parted" zcS)
  (a17:Dz K "all_parted" qz)
  (a18:Dz K "all_books" jJ)
  (a19:Dz K "cut_by" zda)
  (a20:Dz K "words_by" zam)
  (a21:Dz K "best_for" kI)
  (a22:Dz K "is_rising" u5)
  (a23:Dz K "are_pieces" vW)
  (a24:Dz K "first_pair" qD)
  (a25:Dz K "is_apart" jg)
  (a26:Dz K "is_inner" kW)
  (a27:Dz K "first_text_apart" yW)
  (a28:Dz K "first_paper" uT)
  (a29:Dz K "is_book" zbJ)
  (a30:Dz K "require_book" uH)
  (a31:Dz K "require_between" wI)
  (a32:Dz K "dearest" zab)
  (a33:Dz K "_law_refused" uy)
  (a34:Dz K "words_for" jt)
  (a35:Dz K "fewest_words" uE)
  (a36:Dz K "_law_told" ju)
  (a37:Dz K "_law_cut" uM)
  (a38:Dz K "_law_words" qQ)
  (a39:Dz K "_law_texts" v7)
  (a40:Dz K "law" zbY)
  (wFEWEST_LETTERS:PySem.W.nsIn K mainGlobals "FEWEST_LETTERS" = some (some vFEWEST_LETTERS)) (rFEWEST_LETTERS:RelV (.int (2)) vFEWEST_LETTERS)
  (wLETTERS:PySem.W.nsIn K mainGlobals "LETTERS" = some (some vLETTERS)) (rLETTERS:RelV (.str (T [97,98,99,100])) vLETTERS)
  (wLONGEST_TEXT:PySem.W.nsIn K mainGlobals "LONGEST_TEXT" = some (some vLONGEST_TEXT)) (rLONGEST_TEXT:RelV (.int (5)) vLONGEST_TEXT)
  (wMOST_PIECES:PySem.W.nsIn K mainGlobals "MOST_PIECES" = some (some vMOST_PIECES)) (rMOST_PIECES:RelV (.int (32)) vMOST_PIECES)
  (zValueError:PySem.W.nsIn K mainGlobals "ValueError" = some none)
  (zall:PySem.W.nsIn K mainGlobals "all" = some none)
  (zany:PySem.W.nsIn K mainGlobals "any" = some none)
  (zbool:PySem.W.nsIn K mainGlobals "bool" = some none)
  (zint:PySem.W.nsIn K mainGlobals "int" = some none)
  (zisinstance:PySem.W.nsIn K mainGlobals "isinstance" = some none)
  (zlen:PySem.W.nsIn K mainGlobals "len" = some none)
  (zlist:PySem.W.nsIn K mainGlobals "list" = some none)
  (zmax:PySem.W.nsIn K mainGlobals "max" = some none)
  (zmin:PySem.W.nsIn K mainGlobals "min" = some none)
  (zrange:PySem.W.nsIn K mainGlobals "range" = some none)
  (zsorted:PySem.W.nsIn K mainGlobals "sorted" = some none)
  (zstr:PySem.W.nsIn K mainGlobals "str" = some none)
  (ztuple:PySem.W.nsIn K mainGlobals "tuple" = some none)
  (zzip:PySem.W.nsIn K mainGlobals "zip" = some none)
  {xa_NoBook xa_NoLetters xa_NoSize xa_PieceError:Addr}
  (y_NoBook:PySem.W.nsIn K mainGlobals "NoBook" = some (some (.ref xa_NoBook))) (q_NoBook:PySem.W.excIn K xa_NoBook [.type "ValueError", .type "Exception", .type "BaseException", .type "object"] "ValueError.__new__" = true)
  (y_NoLetters:PySem.W.nsIn K mainGlobals "NoLetters" = some (some (.ref xa_NoLetters))) (q_NoLetters:PySem.W.excIn K xa_NoLetters [.type "ValueError", .type "Exception", .type "BaseException", .type "object"] "ValueError.__new__" = true)
  (y_NoSize:PySem.W.nsIn K mainGlobals "NoSize" = some (some (.ref xa_NoSize))) (q_NoSize:PySem.W.excIn K xa_NoSize [.type "ValueError", .type "Exception", .type "BaseException", .type "object"] "ValueError.__new__" = true)
  (y_PieceError:PySem.W.nsIn K mainGlobals "PieceError" = some (some (.ref xa_PieceError))) (q_PieceError:PySem.W.excIn K xa_PieceError [.type "ValueError", .type "Exception", .type "BaseException", .type "object"] "ValueError.__new__" = true)
  (ga_NoBook:PySem.W.findIn K (.ref xa_NoBook) "__getattribute__" = some (some (.builtin "BaseException.__getattribute__")))
  (gt_NoBook:PySem.W.findIn K (.ref xa_NoBook) "__getattr__" = some none)
  (cl_NoBook:PySem.W.findIn K (.ref xa_NoBook) "__class__" = some (some (.builtin "object.__class__")))
  (be_NoBook:PySem.W.subIn K (.ref xa_NoBook) (.type "BaseException")=some true)
  (ob_NoBook:PySem.W.subIn K (.ref xa_NoBook) (.type "object")=some true)
  (is_NoBook:PySem.W.isClsIn K xa_NoBook=true)
  (fs_NoBook:PySem.W.subIn K (.ref xa_NoBook) (.ref xa_PieceError)=some true)
  (fk_NoBook_NoBook:PySem.W.kitOne K (.ref xa_NoBook) (.ref xa_NoBook)=some true)
  (fk_NoBook_NoSize:PySem.W.kitOne K (.ref xa_NoBook) (.ref xa_NoSize)=some false)
  (fk_NoBook_NoLetters:PySem.W.kitOne K (.ref xa_NoBook) (.ref xa_NoLetters)=some false)
  (fv_NoBook:PySem.W.kitOne K (.ref xa_NoBook) (.type "ValueError")=some true)
  (ga_NoLetters:PySem.W.findIn K (.ref xa_NoLetters) "__getattribute__" = some (some (.builtin "BaseException.__getattribute__")))
  (gt_NoLetters:PySem.W.findIn K (.ref xa_NoLetters) "__getattr__" = some none)
  (cl_NoLetters:PySem.W.findIn K (.ref xa_NoLetters) "__class__" = some (some (.builtin "object.__class__")))
  (be_NoLetters:PySem.W.subIn K (.ref xa_NoLetters) (.type "BaseException")=some true)
  (ob_NoLetters:PySem.W.subIn K (.ref xa_NoLetters) (.type "object")=some true)
  (is_NoLetters:PySem.W.isClsIn K xa_NoLetters=true)
  (fs_NoLetters:PySem.W.subIn K (.ref xa_NoLetters) (.ref xa_PieceError)=some true)
  (fk_NoLetters_NoBook:PySem.W.kitOne K (.ref xa_NoLetters) (.ref xa_NoBook)=some false)
  (fk_NoLetters_NoSize:PySem.W.kitOne K (.ref xa_NoLetters) (.ref xa_NoSize)=some false)
  (fk_NoLetters_NoLetters:PySem.W.kitOne K (.ref xa_NoLetters) (.ref xa_NoLetters)=some true)
  (fv_NoLetters:PySem.W.kitOne K (.ref xa_NoLetters) (.type "ValueError")=some true)
  (ga_NoSize:PySem.W.findIn K (.ref xa_NoSize) "__getattribute__" = some (some (.builtin "BaseException.__getattribute__")))
  (gt_NoSize:PySem.W.findIn K (.ref xa_NoSize) "__getattr__" = some none)
  (cl_NoSize:PySem.W.findIn K (.ref xa_NoSize) "__class__" = some (some (.builtin "object.__class__")))
  (be_NoSize:PySem.W.subIn K (.ref xa_NoSize) (.type "BaseException")=some true)
  (ob_NoSize:PySem.W.subIn K (.ref xa_NoSize) (.type "object")=some true)
  (is_NoSize:PySem.W.isClsIn K xa_NoSize=true)
  (fs_NoSize:PySem.W.subIn K (.ref xa_NoSize) (.ref xa_PieceError)=some true)
  (fk_NoSize_NoBook:PySem.W.kitOne K (.ref xa_NoSize) (.ref xa_NoBook)=some false)
  (fk_NoSize_NoSize:PySem.W.kitOne K (.ref xa_NoSize) (.ref xa_NoSize)=some true)
  (fk_NoSize_NoLetters:PySem.W.kitOne K (.ref xa_NoSize) (.ref xa_NoLetters)=some false)
  (fv_NoSize:PySem.W.kitOne K (.ref xa_NoSize) (.type "ValueError")=some true)
  {c_best_for P_best_for c_dearest P_dearest:Addr}{pq:Program}
  (tb_best_for:PySem.W.tabIn K "best_for" = some (c_best_for,P_best_for))
  (tb_dearest:PySem.W.tabIn K "dearest" = some (c_dearest,P_dearest))
  (tn:(List.map (λz:Str×Addr×Addr=>z.2.2) ([("best_for", c_best_for,P_best_for),("dearest", c_dearest,P_dearest)]:Tbs)).Nodup) (tr:List.all ([("best_for", c_best_for,P_best_for),("dearest", c_dearest,P_dearest)]:Tbs) (λt=>((PyProof.Rows.recsOf pq).find? (λe=>e.name == t.1)).isSome)=true) :
  ∃(Ts:Tbs) (fd:FuncData),(∀t∈Ts,PySem.W.tabIn K t.1=some t.2)/\Ts.all (λt=>((PyProof.Rows.recsOf pq).find? (λe=>e.name == t.1)).isSome)=true/\(Ts.map (·.2.2)).Nodup/\(∀(s:Shared) (v:Value),BindsTo s fd ⟨[v],[]⟩ [("_law_script", v)])/\∀base:Heap,Zx K mg base Ts->FnOk l.prog w K mg base CX0 10 fa fd ["_law_script"] (spZ (wD Ts) (zdE K)):=by
 obtain⟨aL,lL,cL,kL⟩:=a40
 have e:=hfa.symm.trans (lbs X G aL)
 cases e
 have FL:=zit (st:=zbY) lL cL kL
 have bL:=FL.binds (ps:=["_law_script"]) (λ_ _ _ _ _ _=>bd1 λ_=>rfl)
 let t:Txt K mg:=⟨a0.D X G,a1.D X G,a2.D X G,a3.D X G,a4.D X G,a5.D X G,a6.D X G,a7.D X G,a8.D X G,a9.D X G,a10.D X G,a11.D X G,a12.D X G,a13.D X G,a14.D X G,a15.D X G,a16.D X G,a17.D X G,a18.D X G,a19.D X G,a20.D X G,a21.D X G,a22.D X G,a23.D X G,a24.D X G,a25.D X G,a26.D X G,a27.D X G,a28.D X G,a29.D X G,a30.D X G,a31.D X G,a32.D X G,a33.D X G,a34.D X G,a35.D X G,a36.D X G,a37.D X G,a38.D X G,a39.D X G,⟨_,_,FL,lbs X G aL,bL⟩,vFEWEST_LETTERS,lbs X G wFEWEST_LETTERS,rFEWEST_LETTERS,vLETTERS,lbs X G wLETTERS,rLETTERS,vLONGEST_TEXT,lbs X G wLONGEST_TEXT,rLONGEST_TEXT,vMOST_PIECES,lbs X G wMOST_PIECES,rMOST_PIECES,laz X G zValueError,laz X G zall,laz X G zany,laz X G zbool,laz X G zint,laz X G zisinstance,laz X G zlen,laz X G zlist,laz X G zmax,laz X G zmin,laz X G zrange,laz X G zsorted,laz X G zstr,laz X G ztuple,laz X G zzip,⟨xa_NoBook,lbs X G y_NoBook,q_NoBook⟩,⟨xa_NoLetters,lbs X G y_NoLetters,q_NoLetters⟩,⟨xa_NoSize,lbs X G y_NoSize,q_NoSize⟩,⟨xa_PieceError,lbs X G y_PieceError,q_PieceError⟩,⟨ga_NoBook,gt_NoBook,cl_NoBook,be_NoBook,ob_NoBook,is_NoBook⟩,fs_NoBook,fk_NoBook_NoBook,fk_NoBook_NoSize,fk_NoBook_NoLetters,fv_NoBook,⟨ga_NoLetters,gt_NoLetters,cl_NoLetters,be_NoLetters,ob_NoLetters,is_NoLetters⟩,fs_NoLetters,fk_NoLetters_NoBook,fk_NoLetters_NoSize,fk_NoLetters_NoLetters,fv_NoLetters,⟨ga_NoSize,gt_NoSize,cl_NoSize,be_NoSize,ob_NoSize,is_NoSize⟩,fs_NoSize,fk_NoSize_NoBook,fk_NoSize_NoSize,fk_NoSize_NoLetters,fv_NoSize⟩
 exact⟨([("best_for", c_best_for,P_best_for),("dearest", c_dearest,P_dearest)]:Tbs),_,lG.mpr ⟨tb_best_for,lG.mpr ⟨tb_dearest,λ_ h=>nomatch h⟩⟩,tr,tn,λs v=>.of_eq rfl,λbase zz=>zln (zmI t zz) zjs⟩
theorem walk {l:PySem.W.OpenLaw}{q:Program}{loose:List Str}{XP:(qQ3)->Heap->Prop}{YP:World->Heap->Prop}{d:DefRec}{K:Params->qQ0}(hn:l.most=some 63)(hdf:d.params.defaults=[])
  (hY:∀(w:World) (h:Heap),YP w h->(K w.params).In h) (hK:∀w:World,PySem.W.noTabs (K w.params)=true)
  (F:∀(w:World) (mg:qQ3) (fa:Addr) (h:Heap),(K w.params).In h->h.Ns mainGlobals mg->mg d.name=some (.ref fa) ->
   ∃(Ts:Tbs) (fd:FuncData),(∀t∈Ts,PySem.W.tabIn (K w.params) t.1=some t.2)/\Ts.all (λt=>((PyProof.Rows.recsOf q).find? (λe=>e.name == t.1)).isSome)=true/\(Ts.map (·.2.2)).Nodup/\(∀(s:Shared) (u:Value),BindsTo s fd ⟨[u],[]⟩ [("_law_script", u)])/\∀base:Heap,Zx (K w.params) mg base Ts->FnOk l.prog w (K w.params) mg base CX0 10 fa fd ["_law_script"] (spZ (wD Ts) (zdE (K w.params)))) :
  PySem.W.WalkO q loose XP YP l.row.toRowW d [] (λf vs=>PySem.call f vs) :=
 L2.walk_ofL (n:=63) (k:=10) (x := "_law_script") hn (by decide) hdf ⟨rfl,by decide,by decide⟩ (by decide) hY hK F
end K34
theorem PySem.W.Fast.tw5875030433954092941 : True := trivial
theorem PySem.W.Fast.tw1078517711785426142 : True := trivial
theorem PySem.W.Fast.tw17502863733257124767 : True := trivial
theorem PySem.W.Fast.tw10183015247380827777 : True := trivial
theorem PySem.W.Fast.tw9959630110603193891 : True := trivial
theorem PySem.W.Fast.tw4829984044580836341 : True := trivial
theorem PySem.W.Fast.tw12711720769599580973 : True := trivial
theorem PySem.W.Fast.tw16418450780682001988 : True := trivial
theorem PySem.W.Fast.tw18415928197409290802 : True := trivial
theorem PySem.W.Fast.tw17837729244047619816 : True := trivial
theorem PySem.W.Fast.tw14299047342268824350 : True := trivial
theorem PySem.W.Fast.tw1749079331956651163 : True := trivial
theorem PySem.W.Fast.tw17182673851304217057 : True := trivial
open PySem PySem.W PyProof.Rows
set_option maxRecDepth 100000 in
set_option maxHeartbeats 0 in
theorem PySem.Challenge.cw_piecebooks_k34_costs_holds : PySem.Challenge.rw_piecebooks_k34_costs.Holds := by
 w_on;o_law;k_head;(case hw=>w_witness2)
 k_fill
 refine K34.walk (l:=PySem.Challenge.rw_piecebooks_k34_costs) rfl rfl (fun w h Y=>PySem.W.km_in_of Y) (fun w=>by kernel_rfl) ?F
 case F =>
  intro w mg fa h KX G hmg
  refine' K34.all_mk KX G hmg ?a0 ?a1 ?a2 ?a3 ?a4 ?a5 ?a6 ?a7 ?a8 ?a9 ?a10 ?a11 ?a12 ?a13 ?a14 ?a15 ?a16 ?a17 ?a18 ?a19 ?a20 ?a21 ?a22 ?a23 ?a24 ?a25 ?a26 ?a27 ?a28 ?a29 ?a30 ?a31 ?a32 ?a33 ?a34 ?a35 ?a36 ?a37 ?a38 ?a39 ?a40 ?wFEWEST_LETTERS ?rFEWEST_LETTERS ?wLETTERS ?rLETTERS ?wLONGEST_TEXT ?rLONGEST_TEXT ?wMOST_PIECES ?rMOST_PIECES ?zValueError ?zall ?zany ?zbool ?zint ?zisinstance ?zlen ?zlist ?zmax ?zmin ?zrange ?zsorted ?zstr ?ztuple ?zzip ?y_NoBook ?q_NoBook ?y_NoLetters ?q_NoLetters ?y_NoSize ?q_NoSize ?y_PieceError ?q_PieceError ?ga_NoBook ?gt_NoBook ?cl_NoBook ?be_NoBook ?ob_NoBook ?is_NoBook ?fs_NoBook ?fk_NoBook_NoBook ?fk_NoBook_NoSize ?fk_NoBook_NoLetters ?fv_NoBook ?ga_NoLetters ?gt_NoLetters ?cl_NoLetters ?be_NoLetters ?ob_NoLetters ?is_NoLetters ?fs_NoLetters ?fk_NoLetters_NoBook ?fk_NoLetters_NoSize ?fk_NoLetters_NoLetters ?fv_NoLetters ?ga_NoSize ?gt_NoSize ?cl_NoSize ?be_NoSize ?ob_NoSize ?is_NoSize ?fs_NoSize ?fk_NoSize_NoBook ?fk_NoSize_NoSize ?fk_NoSize_NoLetters ?fv_NoSize ?tb_best_for ?tb_dearest ?tn ?tr
  (case a0|a1|a2|a3|a4|a5|a6|a7|a8|a9|a10|a11|a12|a13|a14|a15|a16|a17|a18|a19|a20|a21|a22|a23|a24|a25|a26|a27|a28|a29|a30|a31|a32|a33|a34|a35|a36|a37|a38|a39|a40=>refine' L2.Dz.mk ?za ?zl ?zc ?zk;(case za=>k_is);(case zl=>k_is);(case zc=>k_is);(case zk=>k_is))
  (case tb_best_for=>refine' L2.tab_mk ?ya ?yl ?yc ?yk ?yv;(case ya=>k_is);(case yl=>k_is);(case yc=>exact rfl);(case yk=>k_is);(case yv=>exact rfl))
  (case tb_dearest=>refine' L2.tab_mk ?ya ?yl ?yc ?yk ?yv;(case ya=>k_is);(case yl=>k_is);(case yc=>exact rfl);(case yk=>k_is);(case yv=>exact rfl))
  (case tn=>decide)
  (case tr=>exact rfl)
  (case wFEWEST_LETTERS=>k_is)
  (case rFEWEST_LETTERS=>exact⟨_,rfl⟩)
  (case wLETTERS=>k_is)
  (case rLETTERS=>exact⟨_,rfl⟩)
  (case wLONGEST_TEXT=>k_is)
  (case rLONGEST_TEXT=>exact⟨_,rfl⟩)
  (case wMOST_PIECES=>k_is)
  (case rMOST_PIECES=>exact⟨_,rfl⟩)
  (case y_NoBook=>k_is)
  (case q_NoBook=>k_exc)
  (case y_NoLetters=>k_is)
  (case q_NoLetters=>k_exc)
  (case y_NoSize=>k_is)
  (case q_NoSize=>k_exc)
  (case y_PieceError=>k_is)
  (case q_PieceError=>k_exc)
  (case zValueError|zall|zany|zbool|zint|zisinstance|zlen|zlist|zmax|zmin|zrange|zsorted|zstr|ztuple|zzip=>k_is)
  (case ga_NoBook|gt_NoBook|cl_NoBook|be_NoBook|ob_NoBook|is_NoBook|fs_NoBook|ga_NoLetters|gt_NoLetters|cl_NoLetters|be_NoLetters|ob_NoLetters|is_NoLetters|fs_NoLetters|ga_NoSize|gt_NoSize|cl_NoSize|be_NoSize|ob_NoSize|is_NoSize|fs_NoSize=>k_is)
  (case fk_NoBook_NoBook|fk_NoBook_NoSize|fk_NoBook_NoLetters|fv_NoBook|fk_NoLetters_NoBook|fk_NoLetters_NoSize|fk_NoLetters_NoLetters|fv_NoLetters|fk_NoSize_NoBook|fk_NoSize_NoSize|fk_NoSize_NoLetters|fv_NoSize=>kit_is)
#print axioms PySem.Challenge.cw_piecebooks_k34_costs_holds
