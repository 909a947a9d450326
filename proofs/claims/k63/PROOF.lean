import PyProof.Rows.All
import Wide.All
import OpenK.AllK
import Wide.FinOn
import KE.KDictOf
import KE.KDictSum
import KE.KIntText
import KE.KRevIter
import OpenK.KOwn
import PyProof.AttrMissHeap
import PyProof.AutoSeq1
import PyProof.CodeObj
import PyProof.CollectWalk
import PyProof.ConsumeWalk
import PyProof.Conv_int_bool
import PyProof.DictIter
import PyProof.DictKinds
import PyProof.DictUpdate
import PyProof.Draws
import PyProof.EnumIter
import PyProof.EnumMake
import PyProof.EqAt
import PyProof.EqKinds
import PyProof.ExcArgsOwn
import PyProof.FactsAll.dict_1
import PyProof.FactsAll.set
import PyProof.FactsAll.set_2
import PyProof.ListMulRoad
import PyProof.ListNew
import PyProof.ListStr
import PyProof.NeData
import PyProof.P3In
import PyProof.Rows.DictSet
import PyProof.Rows.Range3
import PyProof.Rows.SetFrom
import PyProof.Rows.SortShell
import PyProof.Rows.SortStr
import PyProof.Rows.SortWalk
import PyProof.SeqI3
import PyProof.SetKind
import PyProof.StrOps2
import PyProof.StrWalks
import PyProof.TupleCall
import PyProof.TupleOps
import PyProof.Walks
import PyProof.WalksMore
import PyProof.WalksS
import PyProof.ZipIter
import Lean
import PySem.Challenge.RW_piecebooks_k63_streams
set_option Elab.async false
set_option linter.all false
set_option maxRecDepth 100000
abbrev la:=@PySem.wpAny_bind
abbrev lb:=@PySem.Heap.get?_push_of_some
abbrev lc:=@Option.some.inj
abbrev lg:=@List.getElem?_eq_getElem
abbrev lh:=@List.getElem?_eq_some_iff
abbrev lj:=@PySem.wpAny_pure
abbrev lm:=@Nat.lt_of_lt_of_le
abbrev lp:=@Nat.le_refl
abbrev lq:=@List.getElem?_set_ne
abbrev lr:=@List.getD_eq_getElem?_getD
abbrev lu:=@PySem.Heap.lt_size
abbrev lv:=@Bool.false_ne_true
abbrev lw:=@List.length_append
abbrev lx:=@PySem.Heap.get?_push_size
abbrev ly:=@List.length_map
abbrev lz:=@List.mem_cons
abbrev lB:=@if_pos
abbrev lC:=@List.map_cons
abbrev lD:=@List.append_nil
abbrev lE:=@List.getElem?_append_right
abbrev lF:=@List.length_cons
abbrev lG:=@List.size_toArray
abbrev lH:=@List.isPrefixOf_iff_prefix
abbrev lI:=@List.mem_singleton
abbrev lJ:=@List.mem_append_right
abbrev lK:=@List.mem_cons_of_mem
abbrev lM:=@PySem.wpAny_callSpecial?_slot
abbrev lN:=@Bool.false_eq_true
abbrev lO:=@List.length_take
abbrev lP:=@List.getElem?_append_left
abbrev lQ:=@Bool.and_eq_true
abbrev lR:=@List.getElem?_map
abbrev lS:=@decide_eq_true
abbrev lT:=@decide_eq_false
abbrev lU:=@Nat.ne_of_lt
abbrev lV:=@PySem.wpAny_field
abbrev lW:=@if_neg
abbrev lX:=@Nat.le_trans
abbrev lY:=@List.mem_cons_self
abbrev lZ:=@List.getElem?_cons_zero
abbrev laa:=@List.getElem?_cons_succ
abbrev lab:=@PySem.W.mg_none_of
abbrev lac:=@PySem.wpAny_call_entry
abbrev lad:=@List.length_nil
abbrev lae:=@List.drop_of_length_le
abbrev laf:=@List.length_range
abbrev lag:=@PySem.Heap.size_push
abbrev lah:=@List.drop_eq_getElem_cons
abbrev lai:=@PySem.wpAny_mono
abbrev laj:=@Int.toNat_natCast
abbrev lak:=@PySem.mem_of_lookup
abbrev lal:=@List.all_eq_true
abbrev lam:=@List.mem_append
abbrev lan:=@List.foldl_cons
abbrev lao:=@List.nil_append
abbrev lap:=@List.map_map
abbrev laq:=@List.set_cons_zero
abbrev lar:=@List.set_cons_succ
abbrev las:=@List.prefix_concat_iff
abbrev lat:=@List.take_of_length_le
abbrev lau:=@List.cons_append
abbrev lav:=@PyProof.Rows.slot_tuple_getitem
abbrev lax:=@List.getElem?_nil
abbrev lay:=@Int.eq_ofNat_of_zero_le
abbrev laz:=@PySem.PassesOwn.never
abbrev laA:=@PySem.wpAny_newObj_type
abbrev laB:=@List.flatten_cons
abbrev laC:=@Bool.not_false
abbrev laD:=@List.mem_of_getElem?
abbrev laE:=@Nat.ne_of_gt
abbrev laF:=@List.length_singleton
abbrev laG:=@PySem.F.slot_zip_next
abbrev laH:=@PySem.wpAny_seqItems
abbrev laI:=@List.getElem_mem
abbrev laJ:=@PySem.wpAny_truthy_bool
abbrev laK:=@List.getElem?_replicate
abbrev laL:=@List.append_assoc
abbrev laM:=@PySem.F.plainAttrs_list
abbrev laN:=@List.map_nil
abbrev laO:=@List.prefix_append
abbrev laP:=@List.mem_filter
abbrev laQ:=@PySem.wpAny_holding
abbrev laR:=@PyProof.Rows.callWith_type1
abbrev laS:=@PySem.wpAny_Call_Name_kw
abbrev laT:=@if_false
abbrev laU:=@PySem.wpAny_setField_rec
abbrev laV:=@List.not_lt
abbrev laW:=@List.idxOf_lt_length_of_mem
abbrev laX:=@PySem.W.mg_of
abbrev laY:=@Bool.not_true
abbrev laZ:=@List.lookup_cons
abbrev la0:=@Nat.zero_add
abbrev la1:=@List.prefix_refl
abbrev la2:=@Nat.zero_le
abbrev la3:=@List.replicate_succ
abbrev la4:=@List.length_pos_iff
abbrev la5:=@List.mem_range
abbrev la6:=@PySem.F.slot_str_ascii_iterator_next
abbrev la7:=@List.map_append
abbrev la8:=@List.idxOf_lt_length_iff
abbrev la9:=@Ne.symm
abbrev lba:=@if_true
abbrev lbb:=@List.length_drop
abbrev lbc:=@List.dropLast_prefix
abbrev lbd:=@congrArg
abbrev lbe:=@List.all_cons
abbrev lbf:=@List.length_eq_zero_iff
abbrev lbg:=@Nat.lt_or_ge
abbrev lbh:=@List.mem_map
abbrev lbi:=@decide_eq_true_eq
abbrev lbj:=@PySem.wpAny_loadPart_at
abbrev lbk:=@List.take_add_one
abbrev lbl:=@beq_eq_false_iff_ne
abbrev lbm:=@PySem.sizeLine_eq
abbrev lbn:=@PySem.Heap.SameBut.update
abbrev lbo:=@PySem.W.kia_one
abbrev lbp:=@List.prefix_nil
abbrev lbq:=@PySem.F.slot_tuple_iterator_next
abbrev lbr:=@List.not_mem_nil
abbrev lbs:=@Nat.lt_irrefl
abbrev lbt:=@List.length_replicate
abbrev lbu:=@PySem.Obj.data_mapFields
abbrev lbv:=@PySem.F.slot_zip_next
abbrev lbw:=@List.pairwise_cons
abbrev lbx:=@List.cons_lt_cons_iff
abbrev lby:=@Classical.byContradiction
abbrev lbz:=@List.mem_append_left
abbrev lbA:=@List.length_dropLast
abbrev lbB:=@PySem.boot_len
abbrev lbC:=@PySem.wpAny_passesOwn
abbrev lbD:=@List.nodup_cons
abbrev lbE:=@List.of_mem_zip
abbrev lbF:=@List.reverse_cons
abbrev lbG:=@List.forIn_cons
abbrev lbH:=@PySem.F.args_zip_next_1
abbrev lbI:=@PySem.Heap.dictOf_iff
abbrev lbJ:=@of_decide_eq_true
abbrev lbK:=@PySem.wpAny_attempt
abbrev lbL:=@PySem.F.entry_zip_next
abbrev lbM:=@List.take_prefix
abbrev lbN:=@Nat.le_add_right
abbrev lbO:=@beq_iff_eq
abbrev lbP:=@PySem.call_meets
abbrev lbQ:=@List.forIn_nil
abbrev lbR:=@PySem.W.callWith_K
abbrev lbS:=@List.find?_eq_none
abbrev lbT:=@List.zip_cons_cons
abbrev lbU:=@Int.emod_lt_of_pos
abbrev lbV:=@PySem.W.methodCall_KW
abbrev lbW:=@Nat.le_succ
abbrev lbX:=@List.find?_cons
abbrev lbY:=@List.range_succ
abbrev lbZ:=@Nat.min_eq_left
abbrev lb0:=@PySem.wpAny_pyIter_list
abbrev lb1:=@List.nodup_append
abbrev lb2:=@List.foldl_append
abbrev lb3:=@Bool.not_eq_true'
abbrev lb4:=@PySem.F.excBase_ValueError
abbrev lb5:=@PySem.W.looks_findIn
abbrev lb6:=@List.mem_of_mem_take
abbrev lb7:=@PySem.wpAny_setField
abbrev lb8:=@Array.getElem?_eq_getElem
abbrev lb9:=@List.drop_zero
abbrev lca:=@List.lt_irrefl
abbrev lcb:=@List.pairwise_iff_getElem
abbrev lcc:=@PySem.wpAny_execs_cons
abbrev lcd:=@List.all_toArray
abbrev lce:=@List.any_eq_true
abbrev lcf:=@PySem.W.Looks.at
abbrev lcg:=@List.filterMap_cons
abbrev lch:=@List.map_congr_left
abbrev lci:=@PySem.codeAny_mono
abbrev lcj:=@PySem.F.slot_list_append
abbrev lck:=@List.all_map
abbrev lcl:=@PySem.wpAny_execs_nil
abbrev lcm:=@List.any_cons
abbrev lcn:=@Array.forIn_toList
abbrev lco:=@PySem.F.slot_zip_getattribute
abbrev lcp:=@PySem.slot_listiter_next
abbrev lcq:=@PySem.codeAny_builtin
abbrev lcr:=@List.nil_prefix
abbrev lcs:=@List.getElem_idxOf
abbrev lct:=@Int.emod_nonneg
abbrev lcu:=@List.getElem?_set_self
abbrev lcv:=@PySem.W.cellsFrom_some
abbrev lcw:=@PySem.Calls.callWith_builtin
abbrev lcx:=@Array.getElem?_eq_none
abbrev lcy:=@PySem.F.plainAttrs_str
abbrev lcz:=@List.find?_cons_of_neg
abbrev lcA:=@List.filter_eq_nil_iff
abbrev lcB:=@PySem.wpAny_rule
abbrev lcC:=@PySem.wpAny_typeOf
abbrev lcD:=@PySem.Heap.get?_update_self
abbrev lcE:=@PySem.Obj.isFreed_of_fields
abbrev lcF:=@PySem.F.typeOf_object_class
abbrev lcG:=@Nat.lt_succ_self
abbrev lcH:=@List.take_length
abbrev lcI:=@PySem.Calls.evalArgs_plain
abbrev lcJ:=@PySem.wpAny_updateSeq_pair
abbrev lcK:=@List.mem_iff_getElem
abbrev lcL:=@Nat.pow_le_pow_right
abbrev lcM:=@List.dropLast_concat
abbrev lcN:=@PySem.W.hideAll_get
abbrev lcO:=@Array.length_toList
abbrev lcP:=@PySem.W.plainGet_of
abbrev lcQ:=@PySem.wpAny_loadPart'
abbrev lcR:=@PySem.W.looks_subIn
abbrev lcS:=@List.length_zip
abbrev lcT:=@List.length_set
abbrev lcU:=@List.flatten_append
abbrev lcV:=@List.length_reverse
abbrev lcW:=@Array.append_assoc
abbrev lcX:=@PySem.wpAny_pyIter_tuple
abbrev lcY:=@List.mem_filterMap
abbrev lcZ:=@List.lookup_append
abbrev lc0:=@or_false
abbrev lc1:=@Nat.sub_self
abbrev lc2:=@List.mem_replicate
abbrev lc3:=@Nat.mul_le_mul
abbrev lc4:=@PySem.wpAny_Return_some
abbrev lc5:=@PySem.Obj.cls_mapFields
abbrev lc6:=@List.flatMap_cons
abbrev lc7:=@PySem.wpAny_onRaise
abbrev lc8:=@Nat.min_le_right
abbrev lc9:=@List.filter_cons
abbrev lda:=@PySem.wpAny_isInstance
abbrev ldb:=@List.mem_nil_iff
abbrev ldc:=@List.mem_flatMap
abbrev ldd:=@List.le_antisymm
abbrev lde:=@Nat.min_eq_right
abbrev ldf:=@Nat.le_of_lt
abbrev ldg:=@Nat.le_of_eq
abbrev ldh:=@Nat.lt_trans
abbrev ldi:=@Option.map_some
abbrev ldj:=@Bool.eq_iff_iff
abbrev ldk:=@List.any_map
abbrev ldl:=@Bool.or_eq_true
abbrev ldm:=@Nat.le_antisymm
abbrev ldn:=@Nat.sub_zero
abbrev ldo:=@Nat.pow_succ
abbrev ldp:=@List.drop_left'
abbrev lds:=@List.take_zero
abbrev ldt:=@List.nodup_nil
abbrev ldx:=@List.le_of_lt
abbrev ldz:=@List.map_take
namespace L2
open PySem PySem.Spec PyProof.Rows
abbrev Key:=Sum Int Str
def zhm:Key->Value->Bool
 | .inl k,v=>Value.isInt k v
 | .inr x,v=>Value.isStrOf x v
def zqI (w:World):Key->Int
 | .inl k=>hashInt k
 | .inr x=>hashStr w x
theorem yZ:∀{k:Key}{v:Value},zhm k v=true->(∃i t,k=Sum.inl i/\v=Value.int i t)∨(∃x t,k=Sum.inr x/\v=Value.str x t)
 | .inl i,v,h=>by
  obtain⟨t,e⟩:=Value.isInt_shape (k:=i) (v:=v) h
  exact .inl ⟨i,t,rfl,e⟩
 | .inr x,v,h=>by
  obtain⟨t,e⟩:=Value.isStrOf_shape (x:=x) (v:=v) h
  exact .inr ⟨x,t,rfl,e⟩
theorem zhR (i:Int)(t:Tok):zhm (.inl i) (.int i t)=true:=by simp[zhm,Value.isInt]
theorem ziY (x:Str)(t:Tok):zhm (.inr x) (.str x t)=true:=by simp[zhm,Value.isStrOf]
theorem znx (a b:Int):decide ((Sum.inl a:Key)=Sum.inl b)=(a == b):=by
 by_cases e:a=b
 ·subst e;simp
 ·have h:¬(Sum.inl a:Key)=Sum.inl b:=λq=>e (Sum.inl.inj q)
  rw[lT h]
  exact(lbl.mpr e).symm
theorem znG (a b:Str):decide ((Sum.inr a:Key)=Sum.inr b)=decide (a=b):=by
 by_cases e:a=b
 ·subst e;simp
 ·have h:¬(Sum.inr a:Key)=Sum.inr b:=λq=>e (Sum.inr.inj q)
  rw[lT h,lT e]
theorem znJ (a:Int)(b:Str):decide ((Sum.inl a:Key)=Sum.inr b)=false:=lT (λq=>nomatch q)
theorem zoR (a:Str)(b:Int):decide ((Sum.inr a:Key)=Sum.inl b)=false:=lT (λq=>nomatch q)
def v5 (prog:Program)(w:World):PySem.KeyKind prog w Key where
 is:=zhm
 hash:=zqI w
 inj:=λv a b ha hb=>by
  rcases yZ ha with⟨i,t,rfl,rfl⟩|⟨x,t,rfl,rfl⟩
  ·rcases yZ hb with⟨j,u,rfl,e⟩|⟨y,u,rfl,e⟩
   ·injection e with e1 _;rw[e1]
   ·exact nomatch e
  ·rcases yZ hb with⟨j,u,rfl,e⟩|⟨y,u,rfl,e⟩
   ·exact nomatch e
   ·injection e with e1 _;rw[e1]
 byValue:=λk v h=>by
  rcases yZ h with⟨i,t,rfl,rfl⟩|⟨x,t,rfl,rfl⟩ <;>rfl
 pyHash:=λhv h=>by
  rcases yZ hv with⟨i,t,rfl,rfl⟩|⟨x,t,rfl,rfl⟩
  ·exact wpAny_pyHash_int h
  ·exact wpAny_pyHash_str h
 eqBool:=λhu hv h=>by
  rcases yZ hu with⟨i,t,rfl,rfl⟩|⟨x,t,rfl,rfl⟩
  ·rcases yZ hv with⟨j,u,rfl,rfl⟩|⟨y,u,rfl,rfl⟩
   ·rw[znx] at h;exact wpAny_eqBool_int h
   ·rw[znJ] at h;exact SeqAt.EqAt.int_str i t y u _ _ _ _ h
  ·rcases yZ hv with⟨j,u,rfl,rfl⟩|⟨y,u,rfl,rfl⟩
   ·rw[zoR] at h;exact SeqAt.EqAt.str_int x t j u _ _ _ _ h
   ·rw[znG] at h;exact wpAny_eqBool_str h
 «strs»:=λk x t v h=>by
  rcases yZ h with⟨i,u,rfl,e⟩|⟨y,u,rfl,e⟩
  ·exact nomatch e
  ·injection e with e1 _
   subst e1
   cases v <;>rfl
theorem zf3 (prog:Program)(w:World)(i:Int)(t:Tok):(v5 prog w).is (.inl i) (.int i t)=true:=zhR i t
theorem zbT (prog:Program)(w:World)(x:Str)(t:Tok):(v5 prog w).is (.inr x) (.str x t)=true:=ziY x t
inductive V where
 | non|bl (b:Bool)|int (i:Int)|str (x:Str)|byt (b:Array UInt8)|flt (b:UInt64)|ref (a:Addr)|ty (n:String)
 deriving DecidableEq
def RelV:V->Value->Prop
 | .non,u=>u=Value.none
 | .bl b,u=>u=Value.bool b
 | .int i,u=>∃t,u=Value.int i t
 | .str x,u=>∃t,u=Value.str x t
 | .byt b,u=>∃t,u=Value.bytes b t
 | .flt b,u=>∃t,u=Value.float b t
 | .ref a,u=>u=Value.ref a
 | .ty n,u=>u=Value.type n
abbrev Vals:List V->List Value->Prop:=Paired RelV
theorem Vals.length {xs:List V}{us:List Value}(r:Vals xs us):xs.length=us.length:=Paired.length r
theorem Vals.get:∀{xs:List V}{us:List Value}{i:Nat}{x:V},Vals xs us->xs[i]? = some x->∃u,us[i]? = some u/\RelV x u
 | _,_,_,_,.nil,e=>by simp at e
 | _,_,0,_,.cons r _,e=>by simp at e;subst e;exact⟨_,rfl,r⟩
 | _,_,i+1,x,.cons _ t,e=>by
  obtain⟨u,h1,h2⟩:=Vals.get (i:=i) (x:=x) t (by simpa using e)
  exact⟨u,by simpa using h1,h2⟩
theorem Vals.set {x:V}{u:Value}(r:RelV x u):∀{xs:List V}{us:List Value} (i:Nat),Vals xs us->Vals (xs.set i x) (us.set i u)
 | _,_,_,.nil=>.nil
 | _,_,0,.cons _ t=>.cons r t
 | _,_,i+1,.cons q t=>.cons q (Vals.set r i t)
theorem Vals.append:∀{xs ys:List V}{us ws:List Value},Vals xs us->Vals ys ws->Vals (xs++ys) (us++ws):=by
 intro xs ys us ws h k
 induction h with
 | nil=>exact k
 | cons r t ih=>exact .cons r ih
theorem Vals.take:∀{xs:List V}{us:List Value} (n:Nat),Vals xs us->Vals (xs.take n) (us.take n)
 | _,_,0,_=>.nil
 | _,_,_+1,.nil=>.nil
 | _,_,n+1,.cons r t=>.cons r (Vals.take n t)
theorem Vals.drop:∀{xs:List V}{us:List Value} (n:Nat),Vals xs us->Vals (xs.drop n) (us.drop n)
 | _,_,0,r=>r
 | _,_,_+1,.nil=>.nil
 | _,_,n+1,.cons _ t=>Vals.drop n t
def RelO:Option V->Option Value->Prop
 | some v,some u=>RelV v u
 | none,none=>True
 | _,_=>False
def KV {κ:Type}:List (κ×V)->List (κ×Value)->Prop:=Paired λ(p:κ×V) (q:κ×Value)=>p.1=q.1/\RelV p.2 q.2
def kV:Key->V
 | .inl i=>.int i
 | .inr x=>.str x
inductive HO where
 /-- a list -/
 | lst (xs:List V)
 /-- a tuple (never changes) -/
 | tup (xs:List V)
 /-- a dict whose keys are ints and texts; one whose keys are tuples of ints and texts (the empty one is both) -/
 | dK (kvs:List (Key×V))|dT (kvs:List (List Key×V))
 /-- a set of ints: its members, its size -/
 | set (S:Int->Bool) (n:Nat)
 /-- an instance of the class at C, its dict at dx, its attributes -/
 | ins (C dx:Addr) (fs:List (Str×V))
 /-- the dict of the instance at x -/
 | own (x:Addr)
 /-- the dict of an exception -/
 | xd (fs:List (Str×V))
 /-- a bound method, f of x -/
 | met (f x:Addr)
 /-- a range object lo, lo + 1, .. below hi -/
 | rng (lo hi:Int)
 /-- a thing that is known to the object (the script; a dict while a loop walks it): read, never written while it is so -/
 | frz (o:Obj) (u:HO)
 /-- a code object's table -/
 | tbl (ps:Array Value)
 /-- any other thing, by what is true of its one object (a def of one's own: SetO a S n := HO.ext λh => ..) -/
 | ext (φ:Heap->Prop)
abbrev Hp:=Addr->Option HO
def upd (H:Hp)(a:Addr)(o:HO):Hp:=λb=>if b=a then some o else H b
theorem zK {H:Hp}{a:Addr}{o:HO}:upd H a o a=some o:=by unfold upd;rw[lB rfl]
theorem zF {H:Hp}{a b:Addr}{o:HO}(h:b≠a):upd H a o b=H b:=by unfold upd;rw[lW h]
theorem yK {H:Hp}{a b:Addr}{o:HO}(h:H a=some o)(h':H b=none):a≠b:=by
 intro e;subst e;rw[h] at h';cases h'
def TupD (h:Heap)(a:Addr)(items:Array Value):Prop:=∃o,h.get? a=some o/\o.cls=.type "tuple" /\ (∃n,o.data=.seq items n)/\o.dict=none
theorem TupD.tup {h:Heap}{a:Addr}{items:Array Value}(x:TupD h a items):IsTup h a items:=let ⟨o,e,c,d,_⟩:=x;⟨o,e,c,d⟩
theorem TupD.new (h:Heap)(items:Array Value):TupD (h.push {cls:=.type "tuple", data:=.seq items}) h.objs.size items:=⟨_,lx _ rfl,rfl,⟨_,rfl⟩,rfl⟩
section
variable (P:Program)(w:World)
def ObjOk (H:Hp)(h:Heap)(a:Addr):HO->Prop
 | .lst xs=>xs.length<=sizeLine/\∃(its:List Value) (n:Nat),Vals xs its/\h.get? a=some {cls:=.type "list", data:=.seq its.toArray n}
 | .tup xs=>xs.length<=sizeLine/\∃its:List Value,Vals xs its/\TupD h a its.toArray
 | .dK kvs=>kvs.length<=sizeLine/\(a == sysModules)=false/\∃vs,KV kvs vs/\h.DictOf (v5 P w) a vs
 | .dT kvs=>kvs.length<=sizeLine/\(a == sysModules)=false/\∃xs:List (List Key×Addr×Value),
   Paired (λ(p:List Key×V) (q:List Key×Addr×Value)=>p.1=q.1/\H q.2.1=some (.tup (p.1.map kV))/\RelV p.2 q.2.2) kvs xs /\
   ∃o es ep,h.get? a=some o/\o.ExactDict/\o.data=.dict es ep/\es.toList=xs.map (entryOfKey (tupleKind (v5 P w)))/\(xs.map (·.1)).Nodup
 | .set S n=>h.SetOf (intKind P w) a S n
 | .ins C dx fs=>H dx=some (.own a)/\fs.length<=1000/\dx≠a/\h.get? a=some (PySem.W.instObj C dx) /\
   ∃mA,h.Ns1 dx mA/\(∀f,RelO (fs.lookup f) (mA f))/\PySem.Within mA (fs.map (·.1))
 | .own _=>∃o,h.get? a=some o
 | .xd fs=>∃mA,h.Ns1 a mA/\∀f,RelO (fs.lookup f) (mA f)
 | .rng lo hi=>∃t u v,h.get? a=some {cls:=.type "range", data:=.fields #[.int lo t,.int hi u,.int 1 v]}
 | .frz o u=>h.get? a=some o/\ObjOk H h a u
 | .tbl ps=>h.get? a=some {cls:=.none,data:=.fields ps}
 | .met f x=>h.get? a=some (PySem.W.methodObj (.ref f) (.ref x))
 | .ext φ=>φ h/\(∃o,h.get? a=some o)/\∀h1 h2:Heap,φ h1->(∀o,h1.get? a=some o->h2.get? a=some o)->φ h2
def HOk (H:Hp)(h:Heap):Prop:=∀a o,H a=some o->ObjOk P w H h a o
end
section
variable {P:Program}{w:World}{H H':Hp}{h h':Heap}{a:Addr}{o:HO}
theorem ObjOk.lt (x:ObjOk P w H h a o):a<h.objs.size:=by
 cases o with
 | lst xs=>obtain⟨_,_,_,_,e⟩:=x;exact lu e
 | tup xs=>obtain⟨_,_,_,p⟩:=x;exact p.tup.lt
 | dK kvs=>obtain⟨_,_,_,_,o,_,_,e,_⟩:=x;exact lu e
 | dT kvs=>obtain⟨_,_,_,_,o,_,_,e,_⟩:=x;exact lu e
 | set S n=>obtain⟨o,_,_,_,e,_⟩:=x;exact lu e
 | ins C dx fs=>obtain⟨_,_,_,e,_⟩:=x;exact lu e
 | own y=>obtain⟨_,e⟩:=x;exact lu e
 | xd fs=>obtain⟨_,⟨_,_,_,e,_⟩,_⟩:=x;exact lu e
 | rng lo hi=>obtain⟨_,_,_,e⟩:=x;exact lu e
 | frz ob u=>obtain⟨e,_⟩:=x;exact lu e
 | tbl ps=>exact lu (show h.get? a=some _ from x)
 | met f y=>exact lu (show h.get? a=some _ from x)
 | ext φ=>obtain⟨_,⟨_,e⟩,_⟩:=x;exact lu e
theorem Paired.mapP {α β:Type}{F G:α->β->Prop}:∀{l₁:List α}{l₂:List β},Paired F l₁ l₂->(∀a b,F a b->G a b)->Paired G l₁ l₂
 | _,_,.nil,_=>.nil
 | _,_,.cons r t,f=>.cons (f _ _ r) (Paired.mapP t f)
theorem ObjOk.stay (x:ObjOk P w H h a o)(k:∀b u,(b=a∨H b=some (.own a))->h.get? b=some u->h'.get? b=some u)
  (ho:∀b,H b=some (.own a)->H' b=some (.own a)) (ht:∀b xs,H b=some (.tup xs)->H' b=some (.tup xs)):ObjOk P w H' h' a o:=by
 induction o with
 | lst xs=>obtain⟨z,its,n,r,e⟩:=x;exact⟨z,its,n,r,k _ _ (.inl rfl) e⟩
 | tup xs=>obtain⟨z,its,r,ob,e,c⟩:=x;exact⟨z,its,r,ob,k _ _ (.inl rfl) e,c⟩
 | dK kvs=>obtain⟨z,y,vs,r,ob,es,ep,e,c⟩:=x;exact⟨z,y,vs,r,ob,es,ep,k _ _ (.inl rfl) e,c⟩
 | dT kvs =>
  obtain⟨z,y,xs,r,ob,es,ep,e,c⟩:=x
  exact⟨z,y,xs,Paired.mapP r λp q z=>⟨z.1,ht _ _ z.2.1,z.2.2⟩,ob,es,ep,k _ _ (.inl rfl) e,c⟩
 | set S n=>obtain⟨ob,es,ep,t,e,c⟩:=x;exact⟨ob,es,ep,t,k _ _ (.inl rfl) e,c⟩
 | ins C dx fs =>
  obtain⟨d,z,ne,e,mA,⟨od,es,ep,e2,c⟩,r⟩:=x
  exact⟨ho _ d,z,ne,k _ _ (.inl rfl) e,mA,⟨od,es,ep,k _ _ (.inr d) e2,c⟩,r⟩
 | own y=>obtain⟨ob,e⟩:=x;exact⟨ob,k _ _ (.inl rfl) e⟩
 | xd fs=>obtain⟨mA,⟨od,es,ep,e,c⟩,r⟩:=x;exact⟨mA,⟨od,es,ep,k _ _ (.inl rfl) e,c⟩,r⟩
 | rng lo hi=>obtain⟨t,u,v,e⟩:=x;exact⟨t,u,v,k _ _ (.inl rfl) e⟩
 | frz ob u ih=>obtain⟨e,q⟩:=x;exact⟨k _ _ (.inl rfl) e,ih q⟩
 | tbl ps =>
  have e:h.get? a=some {cls:=.none,data:=.fields ps}:=x
  show h'.get? a=some {cls:=.none,data:=.fields ps}
  exact k a _ (.inl rfl) e
 | met f y =>
  have e:h.get? a=some (PySem.W.methodObj (.ref f) (.ref y)):=x
  show h'.get? a=some (PySem.W.methodObj (.ref f) (.ref y))
  exact k a _ (.inl rfl) e
 | ext φ=>obtain⟨p,⟨o,e⟩,st⟩:=x;exact⟨st _ _ p λo q=>k _ _ (.inl rfl) q,⟨o,k _ _ (.inl rfl) e⟩,st⟩
theorem HOk.lt (x:HOk P w H h)(e:H a=some o):a<h.objs.size:=(x a o e).lt
theorem HOk.fresh (x:HOk P w H h)(e:h.objs.size<=a):H a=none:=by
 cases q:H a with
 | none=>rfl
 | some u=>exact absurd (lm (x.lt q) e) (lbs _)
theorem HOk.kept (x:HOk P w H h)(k:∀b u,h.get? b=some u->h'.get? b=some u):HOk P w H h':=λa o e =>
 (x a o e).stay (λb u _ q=>k b u q) (λ_ q=>q) λ_ _ q=>q
theorem HOk.laid (x:HOk P w H h)(k:∀b u,h.get? b=some u->h'.get? b=some u)(hp:h.objs.size<=a)(new:ObjOk P w (upd H a o) h' a o):HOk P w (upd H a o) h':=λb u e=>by
 have hn:=x.fresh hp
 by_cases hb:b=a
 ·subst hb;rw[zK] at e;cases e;exact new
 ·rw[zF hb] at e
  exact(x b u e).stay (λc v _ q=>k c v q) (λc q=>by rw[zF (yK q hn)];exact q) λc xs q=>by rw[zF (yK q hn)];exact q
end
def Rd (H:Hp)(a:Addr)(u:HO):Prop:=H a=some u∨∃o,H a=some (.frz o u)
theorem Rd.ok {P:Program}{w:World}{H:Hp}{h:Heap}{a:Addr}{u:HO}(r:Rd H a u)(x:HOk P w H h):ObjOk P w H h a u:=by
 rcases r with r|⟨o,r⟩
 ·exact x a u r
 ·obtain⟨_,q⟩:=x a _ r
  exact q
def Mut:Option HO->Prop
 | some (.lst _)=>True
 | some (.dK _)=>True
 | some (.dT _)=>True
 | some (.set _ _)=>True
 | some (.ins _ _ _)=>True
 | some (.ext _)=>True
 | _=>False
section
variable {P:Program}{w:World}{H:Hp}{h h':Heap}{x e:Addr}{o':HO}
theorem HOk.write (ok:HOk P w H h)(mu:Mut (H x))(he:e=x∨H e=some (.own x))(k:∀b u,b≠e->h.get? b=some u->h'.get? b=some u)(heo:∃u,h'.get? e=some u)
  (new:ObjOk P w (upd H x o') h' x o'):HOk P w (upd H x o') h':=λb u q=>by
 have nown:∀c y,H c=some (.own y)->c≠x:=λc y r z=>by subst z;rw[r] at mu;exact mu
 have ntup:∀c xs,H c=some (.tup xs)->c≠x:=λc xs r z=>by subst z;rw[r] at mu;exact mu
 by_cases hb:b=x
 ·subst hb;rw[zK] at q;cases q;exact new
 ·rw [zF hb] at q
  by_cases hbe:b=e
  ·have q':H b=some (.own x):=by
    rcases he with z|z
    ·exact absurd (hbe.trans z) hb
    ·rw[hbe];exact z
   rw[q] at q';cases q'
   obtain⟨v,hv⟩:=heo
   exact⟨v,by rw[hbe];exact hv⟩
  ·refine (ok b u q).stay (λc v hc r=>k c v ?_ r) (λc r=>by rw[zF (nown c b r)];exact r) λc xs r=>by rw[zF (ntup c xs r)];exact r
   rcases hc with rfl|hc
   ·exact hbe
   ·rintro rfl
    rcases he with z|z
    ·exact nown c b hc z
    ·rw[hc] at z;cases z;exact hb rfl
end
structure Un (fs ex:List Addr)(H H':Hp)(h h':Heap):Prop where
 keep:∀b o,h.get? b=some o->H b=none->b∉fs->b∉ex->h'.get? b=some o
 slot:∀b o,h.get? b=some o->H b=none->b∈fs->b∉ex->∃sl,h'.get? b=some {o with slots:=sl}
 free:∀b o,h.get? b=some o->H b=none->b∉ex->H' b=none
 there:∀b o,h.get? b=some o->b∉ex->∃o',h'.get? b=some o'
 tups:∀b xs,H b=some (.tup xs)->H' b=some (.tup xs)
 frzs:∀b o u,H b=some (.frz o u)->H' b=some (.frz o u)
 tbls:∀b ps,H b=some (.tbl ps)->∃more,H' b=some (.tbl (ps++more))
section
variable {fs fs' ex ex':List Addr}{H H1 H2:Hp}{h h1 h2 h':Heap}{a x e:Addr}{o:HO}
theorem Un.any (u:Un fs ex H H1 h h1){b:Addr}{ob:Obj}(q:h.get? b=some ob)(n:H b=none)(hx:b∉ex):∃sl,h1.get? b=some {ob with slots:=sl}:=by
 by_cases hb:b∈fs
 ·exact u.slot b ob q n hb hx
 ·exact⟨ob.slots,u.keep b ob q n hb hx⟩
theorem Un.trans (a:Un fs ex H H1 h h1)(b:Un fs ex H1 H2 h1 h2):Un fs ex H H2 h h2 where
 keep:=λc ob q n hc hx=>b.keep c ob (a.keep c ob q n hc hx) (a.free c ob q n hx) hc hx
 slot:=λc ob q n hc hx=>by
  obtain⟨sl,e1⟩:=a.slot c ob q n hc hx
  obtain⟨sl',e2⟩:=b.slot c _ e1 (a.free c ob q n hx) hc hx
  exact⟨sl',e2⟩
 free:=λc ob q n hx=>by
  obtain⟨o',e1⟩:=a.there c ob q hx
  exact b.free c o' e1 (a.free c ob q n hx) hx
 there:=λc ob q hx=>by
  obtain⟨o',e1⟩:=a.there c ob q hx
  exact b.there c o' e1 hx
 tups:=λc xs q=>b.tups c xs (a.tups c xs q)
 frzs:=λc ob xs q=>b.frzs c ob xs (a.frzs c ob xs q)
 tbls:=λc ps q=>by
  obtain⟨m1,e1⟩:=a.tbls c ps q
  obtain⟨m2,e2⟩:=b.tbls c _ e1
  exact⟨m1++m2,by rw[e2,lcW]⟩
theorem Un.kept (k:∀b u,h.get? b=some u->h'.get? b=some u):Un fs ex H H h h' :=
 ⟨λb ob q _ _ _=>k b ob q,λb ob q _ _ _=>⟨ob.slots,k b ob q⟩,λ_ _ _ n _=>n,λb ob q _=>⟨ob,k b ob q⟩,λ_ _ q=>q,λ_ _ _ q=>q,λ_ ps q=>⟨#[],by rw[q];simp⟩⟩
theorem Un.refl:Un fs ex H H h h:=Un.kept λ_ _ q=>q
theorem Un.laid (k:∀b u,h.get? b=some u->h'.get? b=some u)(hp:h.objs.size<=a)(hn:H a=none):Un fs ex H (upd H a o) h h' where
 keep:=λb u q _ _ _=>k b u q
 slot:=λb u q _ _ _=>⟨u.slots,k b u q⟩
 free:=λb u q n _=>by rw[zF (lU (lm (lu q) hp))];exact n
 there:=λb u q _=>⟨u,k b u q⟩
 tups:=λb xs q=>by rw[zF (yK q hn)];exact q
 frzs:=λb u xs q=>by rw[zF (yK q hn)];exact q
 tbls:=λb ps q=>⟨#[],by rw[zF (yK q hn),q];simp⟩
theorem Un.write (mu:Mut (H x))(he:e=x∨H e=some (.own x))(k:∀b u,b≠e->h.get? b=some u->h'.get? b=some u)(heo:∃u,h'.get? e=some u):Un fs ex H (upd H x o) h h':=by
 have hx:∀b,H b=none->b≠x:=λb n z=>by subst z;rw[n] at mu;exact mu
 have hb:∀b,H b=none->b≠e:=λb n z=>by
  subst z
  rcases he with r|r
  ·exact hx b n r
  ·rw[n] at r;cases r
 have hm:∀b u,H b=some u->¬Mut (some u)->b≠x:=λb u q nm z=>by subst z;rw[q] at mu;exact nm mu
 refine ⟨λb u q n _ _=>k b u (hb b n) q,λb u q n _ _=>⟨u.slots,k b u (hb b n) q⟩,λb u q n _=>by rw[zF (hx b n)];exact n,λb u q _=>?_,
  λb xs q=>by rw[zF (hm b _ q λz=>z)];exact q,λb u xs q=>by rw[zF (hm b _ q λz=>z)];exact q,λb ps q=>⟨#[],by rw[zF (hm b _ q λz=>z),q];simp⟩⟩
 by_cases hbe:b=e
 ·subst hbe;exact heo
 ·exact⟨u,k b u hbe q⟩
theorem Un.mono (u:Un fs ex H H1 h h1)(hs:∀b∈fs,b∈fs')(hx:∀b∈ex,b∈ex'):Un fs' ex' H H1 h h1 :=
 ⟨λb ob q n hb he=>u.keep b ob q n (λz=>hb (hs b z)) λz=>he (hx b z),λ_ _ q n _ he=>u.any q n λz=>he (hx _ z),λb ob q n he=>u.free b ob q n λz=>he (hx b z),λb ob q he=>u.there b ob q λz=>he (hx b z),u.tups,u.frzs,u.tbls⟩
end
def trk (h:Heap)(H:Hp):List Addr:=(List.range h.objs.size).filter λa=>(H a).isSome
def zjK (h:Heap)(H:Hp):Heap:=PySem.W.hideAll h (trk h H)
theorem zhL (h:Heap)(H:Hp):(zjK h H).objs.size=h.objs.size:=PySem.W.hideAll_size _ _
theorem zj2 {h:Heap}{H:Hp}{b:Addr}{o:Obj}(e:h.get? b=some o)(n:H b=none):(zjK h H).get? b=some o :=
 lcN _ e λhm=>by
  have q:(H b).isSome=true:=(laP.mp hm).2
  rw[n] at q;simp at q
theorem zmo {h:Heap}{H:Hp}{b:Addr}{o:Obj}(e:(zjK h H).get? b=some o):h.get? b=some o/\H b=none:=by
 have e':h.get? b=some o:=PySem.W.of_hideAll (trk h H) e
 refine⟨e',?_⟩
 cases q:H b with
 | none=>rfl
 | some x =>
  have hm:b∈trk h H:=laP.mpr ⟨la5.mpr (lu e'),by simp[q]⟩
  have z:(zjK h H).get? b=none:=PySem.W.hideAll_none (trk h H) hm
  rw[z] at e;cases e
def zmC (g h:Heap)(L:Addr):List (Addr×Obj):=(List.range h.objs.size).filterMap λa=>if a=L∨(g.get? a).isSome=true then none else(h.get? a).map λo=>(a,o)
def rest (g h:Heap)(L d:Addr):List (Addr×Obj):=(zmC g h L).filter λp=>decide (p.1≠d)
structure Mod (K:PySem.W.Frag)(mg:Str->Option Value)(base:Heap):Prop where
 kin:K.In base
 glob:base.Ns mainGlobals mg
 blt:∃mb,base.Ns builtinsNs mb/\∀x:Str,x ≠ "__name__" -> mb x=bootBuiltins x
 nolimit:base.NoLimit
structure Cx where
 prog:Program
 w:World
 K:PySem.W.Frag
 mg:Str->Option Value
 base:Heap
 A:Around
 N:List Str
 s₀:Shared
 H₀:Hp
 env:Env
 outer:List Env
 stack:List Env
 ex:List Addr
 fn:Str->Bool
 calm:Bool
 pn:List (Addr×Obj)
 xe:Value->Shared->Prop
def frs (l:List Env):List Addr:=l.filterMap (·.frame)
abbrev Cx.fs (X:Cx):List Addr:=frs X.outer
def Vis (sc:Scope)(x:Str):Prop:=sc.names.lookup x=some .local∨sc.names.lookup x=some .cell∨sc.names.lookup x=some .free
def Loc (sc:Scope)(x:Str):Prop:=sc.names.lookup x=some .local∨sc.names.lookup x=some .cell
def Look (env:Env)(h:Heap)(m:Str->Option Value)(x:Str)(u:Value):Prop :=
 (env.kindOf x=some .local/\m x=some u)∨((env.kindOf x=some .cell∨env.kindOf x=some .free)/\∃c,env.cells.lookup x=some c/\h.IsCell c (some u))
structure Cx.Ok (X:Cx):Prop where
 mod:Mod X.K X.mg X.base
 kind:X.env.scope.kind=.function
 glob:X.env.globals=mainGlobals
 blt:X.env.builtins=builtinsNs
 above:X.s₀.heap.objs.size<=X.env.locals
 inj:∀x y c,X.env.cells.lookup x=some c->X.env.cells.lookup y=some c->x=y
 has:∀x,(X.env.kindOf x=some .cell∨X.env.kindOf x=some .free)->∃c,X.env.cells.lookup x=some c
 cab:∀x c,X.fn x=true->X.env.cells.lookup x=some c->X.s₀.heap.objs.size<=c
 hd:X.calm=true->X.A.handled=none
 frames:X.A.frames=some X.stack
 stk:X.stack=X.outer∨(X.stack=X.env::X.outer/\X.env.frame=some X.env.locals)
 exf:∀b∈X.ex,b≠X.env.locals/\∀x c,X.env.cells.lookup x=some c->c≠b
 bs:∀b o,X.base.get? b=some o->X.s₀.heap.get? b=some o/\X.H₀ b=none
 bsz:X.base.objs.size<=X.s₀.heap.objs.size
 noex:∀b o,X.base.get? b=some o->b∉X.ex
 exfs:∀b∈X.ex,b∉X.fs
 funs:X.s₀.heap.FunFrames X.base X.outer
 frf:∀b∈X.fs,X.H₀ b=none
structure Inv (X:Cx)(pins:List (Addr×Obj))(σ:List (Option V))(H:Hp)(s:Shared):Prop where
 ok:X.Ok
 os:s.os=X.s₀.os
 bare:AllBare s.gens
 base:Un X.fs X.ex X.H₀ H X.s₀.heap s.heap
 loc:∃m,s.heap.Ns X.env.locals m/\∀(i:Nat) (x:Str) (v:V),X.N[i]? = some x->σ[i]? = some (some v)->Vis X.env.scope x->∃u,RelV v u/\Look X.env s.heap m x u
 cell:∀x c,X.env.cells.lookup x=some c->∃v,s.heap.IsCell c v
 free:H X.env.locals=none
 freeC:∀x c,X.env.cells.lookup x=some c->H c=none
 pin:∀p∈X.pn++pins,s.heap.get? p.1=some p.2/\H p.1=none/\p.1≠X.env.locals/\p.1∉X.fs/\∀v,p.2.data≠.cell v
 hok:HOk X.prog X.w H s.heap
 len:σ.length=X.N.length
section
variable {X:Cx}{pins:List (Addr×Obj)}{σ:List (Option V)}{H H':Hp}{s:Shared}{h':Heap}
theorem Cx.Ok.nofr (ok:X.Ok){b:Addr}{o:Obj}(e:X.base.get? b=some o):b∉X.fs:=λhb=>by
 have:=(ok.funs.mem hb).1
 rw[e] at this;cases this
theorem Inv.bs (I:Inv X pins σ H s):∀b o,X.base.get? b=some o->s.heap.get? b=some o/\H b=none:=λb o e =>
 ⟨I.base.keep b o (I.ok.bs b o e).1 (I.ok.bs b o e).2 (I.ok.nofr e) (I.ok.noex b o e),I.base.free b o (I.ok.bs b o e).1 (I.ok.bs b o e).2 (I.ok.noex b o e)⟩
theorem Inv.bk (I:Inv X pins σ H s):∀b o,X.base.get? b=some o->s.heap.get? b=some o:=λb o e=>(I.bs b o e).1
theorem Inv.mod (I:Inv X pins σ H s):Mod X.K X.mg X.base:=I.ok.mod
theorem Inv.kIn (I:Inv X pins σ H s):X.K.In s.heap:=I.ok.mod.kin.keeps I.bk
theorem Inv.fr (I:Inv X pins σ H s):∃m,Fr X.base X.env.locals s.heap m :=
 let ⟨m,hn,_⟩:=I.loc
 ⟨m,hn,I.bk,lX I.ok.bsz I.ok.above⟩
theorem Inv.lt (I:Inv X pins σ H s):X.env.locals<s.heap.objs.size:=let ⟨_,hn,_⟩:=I.loc;hn.lt
theorem Inv.sz (I:Inv X pins σ H s):X.s₀.heap.objs.size<=s.heap.objs.size:=lX I.ok.above (ldf I.lt)
theorem Inv.nofs (I:Inv X pins σ H s){a:Addr}(h:s.heap.objs.size<=a):a∉X.fs:=λhb=>by
 obtain⟨_,o,ho,_⟩:=I.ok.funs.mem hb
 exact absurd (lm (lu ho) (lX I.sz h)) (lbs _)
theorem Inv.cne (I:Inv X pins σ H s):∀x c,X.env.cells.lookup x=some c->c≠X.env.locals:=λx c e z=>by
 obtain⟨v,o,ho,hd⟩:=I.cell x c e
 obtain⟨m,⟨o',es,ep,ho',hd',_⟩,_⟩:=I.loc
 rw[z,ho'] at ho;cases ho;rw[hd'] at hd;cases hd
theorem Inv.funs (I:Inv X pins σ H s):s.heap.FunFrames X.base X.outer:=by
 have all:∀(l:List Env),(∀b∈frs l,b∈X.fs)->X.s₀.heap.FunFrames X.base l->s.heap.FunFrames X.base l:=by
  intro l
  induction l with
  | nil=>intro _ _;trivial
  | cons env r ih =>
   intro hs hl
   obtain⟨hk,⟨L,o,hf,hn,ho,hd⟩,hr⟩:=hl
   have hL:L∈X.fs:=hs L (by unfold frs;rw[lcg,hf];exact lY)
   obtain⟨sl,e⟩:=I.base.slot L o ho (I.ok.frf L hL) hL λz=>I.ok.exfs L z hL
   exact⟨hk,⟨L,_,hf,hn,e,hd⟩,ih (λb hb=>hs b (by unfold frs;rw[lcg,hf];exact lK _ hb)) hr⟩
 exact all X.outer (λ_ hb=>hb) I.ok.funs
theorem Inv.stack (I:Inv X pins σ H s):s.heap.FunFrames X.base X.stack:=by
 rcases I.ok.stk with e|⟨e,hf⟩
 ·rw[e];exact I.funs
 ·rw[e]
  obtain⟨m,hn,_⟩:=I.loc
  refine .cons (by rw[I.ok.kind];decide) hf hn ?_ I.funs
  exact Heap.get?_none_of_le (lX I.ok.bsz I.ok.above)
theorem Inv.stkSub (I:Inv X pins σ H s):∀b∈frs X.stack,b∈X.env.locals::X.fs:=λb hb=>by
 rcases I.ok.stk with e|⟨e,hf⟩
 ·rw[e] at hb;exact lK _ hb
 ·rw[e] at hb
  unfold frs at hb
  rw[lcg,hf] at hb
  exact hb
theorem Inv.stkFree (I:Inv X pins σ H s):∀b∈frs X.stack,H b=none:=λb hb=>by
 rcases lz.mp (I.stkSub b hb) with e|hb
 ·rw[e];exact I.free
 ·obtain⟨_,o,ho,_⟩:=I.ok.funs.mem hb
  exact I.base.free b o ho (I.ok.frf b hb) λz=>I.ok.exfs b z hb
theorem Inv.step {g':Array GenState}{t':Nat}{d':Drawn}{ch:List Addr}(I:Inv X pins σ H s)
  (hch:∀b∈ch,(b∈X.ex∨X.s₀.heap.objs.size<=b)/\b≠X.env.locals/\(∀x c,X.env.cells.lookup x=some c->c≠b)/\∀p∈X.pn++pins,p.1≠b)
  (keep:∀b o,b≠X.env.locals->b∉X.fs->b∉ch->s.heap.get? b=some o->H b=none->h'.get? b=some o)
  (slot:∀b o,b≠X.env.locals->b∈X.fs->b∉ch->s.heap.get? b=some o->H b=none->∃sl,h'.get? b=some {o with slots:=sl}) (free:∀b o,b∉ch->s.heap.get? b=some o->H b=none->H' b=none)
  (there:∀b o,b∉ch->s.heap.get? b=some o->∃o',h'.get? b=some o')
  (tups:∀b xs,H b=some (.tup xs)->H' b=some (.tup xs)) (frzs:∀b o u,H b=some (.frz o u)->H' b=some (.frz o u)) (tbls:∀b ps,H b=some (.tbl ps)->∃more,H' b=some (.tbl (ps++more)))
  (ns:∀m,s.heap.Ns X.env.locals m->h'.Ns X.env.locals m) (hok:HOk X.prog X.w H' h') (hg:AllBare g') :
  Inv X pins σ H' {s with heap:=h',gens:=g',drawn:=d',toks:=t'}:=by
 have neL:∀b o,X.s₀.heap.get? b=some o->b≠X.env.locals:=λb o e=>lU (lm (lu e) I.ok.above)
 have neC:∀b o,X.s₀.heap.get? b=some o->b∉X.ex->b∉ch:=λb o e hx hb=>by
  rcases(hch b hb).1 with z|z
  ·exact hx z
  ·exact absurd (lm (lu e) z) (lbs _)
 have cellK:∀x c,X.env.cells.lookup x=some c->∀v,s.heap.IsCell c v->h'.IsCell c v:=λx c e v ⟨o,ho,hd⟩=>by
  have nch:c∉ch:=λz=>(hch c z).2.2.1 x c e rfl
  by_cases hc:c∈X.fs
  ·obtain⟨sl,q⟩:=slot c o (I.cne x c e) hc nch ho (I.freeC x c e)
   exact⟨_,q,hd⟩
  ·exact⟨o,keep c o (I.cne x c e) hc nch ho (I.freeC x c e),hd⟩
 refine⟨I.ok,I.os,hg,⟨λb o e n hb hx=>?_,λb o e n hb hx=>?_,λb o e n hx=>?_,λb o e hx=>?_,λb xs e=>tups b xs (I.base.tups b xs e),λb o xs e=>frzs b o xs (I.base.frzs b o xs e),λb ps e=>?_⟩,?_,λx c e=>?_,?_,λx c e=>?_,λp hp=>?_,hok,I.len⟩
 ·exact keep b o (neL b o e) hb (neC b o e hx) (I.base.keep b o e n hb hx) (I.base.free b o e n hx)
 ·obtain⟨sl,e1⟩:=I.base.slot b o e n hb hx
  obtain⟨sl',e2⟩:=slot b _ (neL b o e) hb (neC b o e hx) e1 (I.base.free b o e n hx)
  exact⟨sl',e2⟩
 ·obtain⟨o',e1⟩:=I.base.there b o e hx
  exact free b o' (neC b o e hx) e1 (I.base.free b o e n hx)
 ·obtain⟨o',e1⟩:=I.base.there b o e hx
  exact there b o' (neC b o e hx) e1
 ·obtain⟨m1,e1⟩:=I.base.tbls b ps e
  obtain⟨m2,e2⟩:=tbls b _ e1
  exact⟨m1++m2,by rw[e2,lcW]⟩
 ·obtain⟨m,hn,hl⟩:=I.loc
  refine⟨m,ns m hn,λi x v e1 e2 e3=>?_⟩
  obtain⟨u,r,l⟩:=hl i x v e1 e2 e3
  refine⟨u,r,?_⟩
  rcases l with l|⟨k,c,e,z⟩
  ·exact .inl l
  ·exact .inr ⟨k,c,e,cellK x c e _ z⟩
 ·obtain⟨v,z⟩:=I.cell x c e
  exact⟨v,cellK x c e v z⟩
 ·obtain⟨m,⟨o,_,_,ho,_⟩,_⟩:=I.loc
  exact free _ o (λz=>(hch _ z).2.1 rfl) ho I.free
 ·obtain⟨v,o,ho,hd⟩:=I.cell x c e
  exact free c o (λz=>(hch c z).2.2.1 x c e rfl) ho (I.freeC x c e)
 ·obtain⟨e,n,ne,nf,d⟩:=I.pin p hp
  have nch:p.1∉ch:=λz=>(hch p.1 z).2.2.2 p hp rfl
  exact⟨keep p.1 p.2 ne nf nch e n,free p.1 p.2 nch e n,ne,nf,d⟩
theorem Inv.un {t':Nat}(I:Inv X pins σ H s)(u:Un X.fs [] H H' s.heap h')(hok:HOk X.prog X.w H' h'):Inv X pins σ H' {s with heap:=h',toks:=t'}:=by
 obtain⟨m,⟨o,es,ep,ho,r⟩,_⟩:=id I.loc
 obtain⟨sl,hL⟩:=u.any ho I.free (by simp)
 exact I.step (g':=s.gens) (d':=s.drawn) (ch:=[]) (λ_ z=>nomatch z) (λb o _ hb _ e n=>u.keep b o e n hb (by simp)) (λb o _ hb _ e n=>u.slot b o e n hb (by simp)) (λb o _ e n=>u.free b o e n (by simp)) (λb o _ e=>u.there b o e (by simp)) u.tups u.frzs u.tbls (λm' hm=>by
  obtain⟨o',es',ep',ho',r'⟩:=hm
  rw[ho] at ho';cases ho'
  exact⟨_,es',ep',hL,r'⟩) hok I.bare
theorem Inv.call {g':Array GenState}{t':Nat}{d':Drawn}{ch:List Addr}(I:Inv X pins σ H s)(u:Un (frs X.stack) ch H H' s.heap h')(hok:HOk X.prog X.w H' h')(hg:AllBare g')
  (hch:∀b∈ch,(b∈X.ex∨X.s₀.heap.objs.size<=b)/\b≠X.env.locals/\(∀x c,X.env.cells.lookup x=some c->c≠b)/\∀p∈X.pn++pins,p.1≠b) :
  Inv X pins σ H' {s with heap:=h',gens:=g',drawn:=d',toks:=t'}:=by
 obtain⟨m,⟨o,es,ep,ho,r⟩,_⟩:=id I.loc
 obtain⟨sl,hL⟩:=u.any ho I.free λz=>(hch _ z).2.1 rfl
 exact I.step (ch:=ch) hch (λb o hL hb hc e n=>u.keep b o e n (λz=>(lz.mp (I.stkSub b z)).elim hL hb) hc) (λb o _ _ hc e n=>u.any e n hc) (λb o hc e n=>u.free b o e n hc) (λb o hc e=>u.there b o e hc) u.tups u.frzs u.tbls (λm' hm=>by
  obtain⟨o',es',ep',ho',r'⟩:=hm
  rw[ho] at ho';cases ho'
  exact⟨_,es',ep',hL,r'⟩) hok hg
theorem Inv.turned {t':Nat}{it:Addr}(I:Inv X pins σ H s)(k:∀b o,b≠it->s.heap.get? b=some o->h'.get? b=some o)(hn:H it=none)(hL:it≠X.env.locals)
  (h1:it∈X.ex∨X.s₀.heap.objs.size<=it) (h2:∀x c,X.env.cells.lookup x=some c->c≠it) (h3:∀p∈X.pn++pins,p.1≠it):Inv X pins σ H {s with heap:=h',toks:=t'}:=by
 have nit:∀b u,H b=some u->b≠it:=λb u e z=>by rw[z,hn] at e;cases e
 refine I.step (g':=s.gens) (d':=s.drawn) (ch:=[it]) (λb hb=>?_) (λb o _ _ hc e _=>k b o (λz=>hc (by simp[z])) e) (λb o _ _ hc e _=>⟨o.slots,k b o (λz=>hc (by simp[z])) e⟩) (λ_ _ _ _ n=>n)
  (λb o hc e=>⟨o,k b o (λz=>hc (by simp[z])) e⟩) (λ_ _ e=>e) (λ_ _ _ e=>e) (λb ps e=>⟨#[],by rw[e];simp⟩) (λm hm=>?_) (λb u e=>?_) I.bare
 ·have e:b=it:=by simpa using hb
  subst e
  exact⟨h1,hL,h2,h3⟩
 ·obtain⟨o,es,ep,ho,r⟩:=hm
  exact⟨o,es,ep,k _ o (la9 hL) ho,r⟩
 ·refine(I.hok b u e).stay (λc v hc q=>k c v ?_ q) (λ_ q=>q) λ_ _ q=>q
  rcases hc with z|z
  ·rw[z];exact nit b u e
  ·exact nit c _ z
theorem Inv.tok (I:Inv X pins σ H s)(t:Nat):Inv X pins σ H {s with toks:=t}:=I.un (h':=s.heap) (t':=t) Un.refl I.hok
theorem Inv.kept {t':Nat}(I:Inv X pins σ H s)(k:∀b u,s.heap.get? b=some u->h'.get? b=some u):Inv X pins σ H {s with heap:=h',toks:=t'}:=I.un (Un.kept k) (I.hok.kept k)
theorem Inv.laid {a:Addr}{o:HO}{t':Nat}(I:Inv X pins σ H s)(k:∀b u,s.heap.get? b=some u->h'.get? b=some u)(hp:s.heap.objs.size<=a)(new:ObjOk X.prog X.w (upd H a o) h' a o) :
  Inv X pins σ (upd H a o) {s with heap:=h',toks:=t'}:=I.un (Un.laid k hp (I.hok.fresh hp)) (I.hok.laid k hp new)
theorem Inv.write {x e:Addr}{o:HO}{t':Nat}(I:Inv X pins σ H s)(mu:Mut (H x))(he:e=x∨H e=some (.own x))(k:∀b u,b≠e->s.heap.get? b=some u->h'.get? b=some u)(heo:∃u,h'.get? e=some u)
  (new:ObjOk X.prog X.w (upd H x o) h' x o):Inv X pins σ (upd H x o) {s with heap:=h',toks:=t'}:=I.un (Un.write mu he k heo) (I.hok.write mu he k heo new)
theorem Inv.weak {σ':List (Option V)}(I:Inv X pins σ H s)(hl:σ'.length=σ.length)(w:∀(i:Nat) v,σ'[i]? = some (some v)->σ[i]? = some (some v)):Inv X pins σ' H s :=
 ⟨I.ok,I.os,I.bare,I.base,let ⟨m,hn,hl'⟩:=I.loc;⟨m,hn,λi x v e1 e2 e3=>hl' i x v e1 (w i v e2) e3⟩,I.cell,I.free,I.freeC,I.pin,I.hok,hl.trans I.len⟩
theorem Inv.pins_of {pins':List (Addr×Obj)}(I:Inv X pins σ H s)(h:∀p∈pins',s.heap.get? p.1=some p.2/\H p.1=none/\p.1≠X.env.locals/\p.1∉X.fs/\∀v,p.2.data≠.cell v):Inv X pins' σ H s :=
 ⟨I.ok,I.os,I.bare,I.base,I.loc,I.cell,I.free,I.freeC,λp hp=>(lam.mp hp).elim (λz=>I.pin p (lbz _ z)) (h p),I.hok,I.len⟩
theorem zgx {N:List Str}(hN:N.Nodup){i j:Nat}{x:Str}(a:N[i]? = some x)(b:N[j]? = some x):i=j:=by
 obtain⟨h1,e1⟩:=lh.mp a
 obtain⟨h2,e2⟩:=lh.mp b
 exact(List.getElem_inj hN).mp (e1.trans e2.symm)
theorem zhH {M:Model}{A:Around}{E:Value->Shared->Prop}{i:Nat}{x:Str}{v:V}{u:Value}{Q:Unit->Shared->Prop}(I:Inv X pins σ H s)(hN:X.N.Nodup)(hi:X.N[i]? = some x)(hx:Loc X.env.scope x)(r:RelV v u)
  (h:∀s',Inv X pins (σ.set i (some v)) H s'->(∃a,Heap.SameBut a s.heap s'.heap/\(a=X.env.locals∨X.env.cells.lookup x=some a))->Q () s') (hf:X.fn x=true∨X.env.scope.names.lookup x=some .local:=by first|exact .inl rfl|exact .inr rfl|assumption):wpAny M A (storeName X.env x u) Q E s:=by
 obtain⟨m,hn,hl⟩:=id I.loc
 have hcls:(X.env.scope.kind == .class || (X.env.scope.kind == .module&&X.env.locals != X.env.globals))=false:=by rw[I.ok.kind];rfl
 have hiσ:i<σ.length:=by rw[I.len];exact(lh.mp hi).1
 have cne:=I.cne
 have tracked:∀{a:Addr}{h':Heap},(∃o,s.heap.get? a=some o/\H a=none)->Heap.SameBut a s.heap h'->HOk X.prog X.w H h':=λ{a h'} ha hs b ob e=>by
  obtain⟨_,_,hfree⟩:=ha
  refine(I.hok b ob e).stay (λc w' hc q=>(hs.2 c ?_).trans q) (λ_ q=>q) λ_ _ q=>q
  rintro rfl
  rcases hc with rfl|hc
  ·rw[hfree] at e;cases e
  ·rw[hfree] at hc;cases hc
 rcases hx with hk|hk
 ·refine wpAny_storeName_local hk hn (λh' hn' hs=>?_) hcls
  obtain⟨oL,_,_,hoL,_⟩:=id hn
  refine h _ ⟨I.ok,I.os,I.bare,⟨λb o e n hb hx=>?_,λb o e n hb hx=>?_,I.base.free,λb o e hx=>?_,I.base.tups,I.base.frzs,I.base.tbls⟩,⟨_,hn',λj y v' e1 e2 e3=>?_⟩,λy c e=>?_,I.free,I.freeC,λp hp=>?_,tracked ⟨oL,hoL,I.free⟩ hs,by simpa using I.len⟩ ⟨_,hs,.inl rfl⟩
  ·exact(hs.2 b (lU (lm (lu e) I.ok.above))).trans (I.base.keep b o e n hb hx)
  ·obtain⟨sl,e1⟩:=I.base.slot b o e n hb hx
   exact⟨sl,(hs.2 b (lU (lm (lu e) I.ok.above))).trans e1⟩
  ·obtain⟨o',e1⟩:=I.base.there b o e hx
   exact⟨o',(hs.2 b (lU (lm (lu e) I.ok.above))).trans e1⟩
  ·by_cases hj:j=i
   ·subst hj
    rw[hi] at e1;cases e1
    rw[lcu hiσ] at e2
    cases e2
    exact⟨u,r,.inl ⟨hk,by simp⟩⟩
   ·rw [lq (la9 hj)] at e2
    obtain⟨u',r',q⟩:=hl j y v' e1 e2 e3
    refine⟨u',r',?_⟩
    rcases q with⟨k,e⟩|⟨k,c,e,z⟩
    ·refine .inl ⟨k,?_⟩
     have:y≠x:=λe=>hj (zgx hN e1 (e▸hi))
     simp[this,e]
    ·exact .inr ⟨k,c,e,z.sameBut hs (cne y c e)⟩
  ·obtain⟨w',z⟩:=I.cell y c e
   exact⟨w',z.sameBut hs (cne y c e)⟩
  ·obtain⟨e,n,ne,nf,d⟩:=I.pin p hp
   exact⟨(hs.2 p.1 ne).trans e,n,ne,nf,d⟩
 ·have hfn:X.fn x=true:=by
   rcases hf with z|z
   ·exact z
   ·rw[z] at hk;cases hk
  obtain⟨c,hc⟩:=I.ok.has x (.inl hk)
  obtain⟨w',z⟩:=I.cell x c hc
  refine wpAny_storeName_cell I.ok.kind hk hc z (λh' hc' hs=>?_)
  obtain⟨oc,hoc,hocd⟩:=id z
  refine h {s with heap:=h'} ⟨I.ok,I.os,I.bare,⟨λb o e n hb hx=>?_,λb o e n hb hx=>?_,I.base.free,λb o e hx=>?_,I.base.tups,I.base.frzs,I.base.tbls⟩,⟨m,hn.sameBut hs (la9 (cne x c hc)),λj y v' e1 e2 e3=>?_⟩,λy c' e=>?_,I.free,I.freeC,λp hp=>?_,tracked ⟨oc,hoc,I.freeC x c hc⟩ hs,by simpa using I.len⟩ ⟨c,hs,.inr hc⟩
  ·exact(hs.2 b (lU (lm (lu e) (I.ok.cab x c hfn hc)))).trans (I.base.keep b o e n hb hx)
  ·obtain⟨sl,e1⟩:=I.base.slot b o e n hb hx
   exact⟨sl,(hs.2 b (lU (lm (lu e) (I.ok.cab x c hfn hc)))).trans e1⟩
  ·obtain⟨o',e1⟩:=I.base.there b o e hx
   exact⟨o',(hs.2 b (lU (lm (lu e) (I.ok.cab x c hfn hc)))).trans e1⟩
  ·by_cases hj:j=i
   ·subst hj
    rw[hi] at e1;cases e1
    rw[lcu hiσ] at e2
    cases e2
    exact⟨u,r,.inr ⟨.inl hk,c,hc,hc'⟩⟩
   ·rw [lq (la9 hj)] at e2
    obtain⟨u',r',q⟩:=hl j y v' e1 e2 e3
    refine⟨u',r',?_⟩
    rcases q with q|⟨k,c',e,z'⟩
    ·exact .inl q
    ·refine .inr ⟨k,c',e,z'.sameBut hs ?_⟩
     rintro rfl
     exact hj (zgx hN e1 (I.ok.inj _ _ _ e hc▸hi))
  ·by_cases hcc:c'=c
   ·subst hcc;exact⟨_,hc'⟩
   ·obtain⟨w2,z2⟩:=I.cell y c' e
    exact⟨w2,z2.sameBut hs hcc⟩
  ·obtain⟨e,n,ne,nf,d⟩:=I.pin p hp
   refine⟨(hs.2 p.1 ?_).trans e,n,ne,nf,d⟩
   intro q
   rw[q,hoc] at e
   have q':oc=p.2:=lc e
   exact d w' (by rw[← q'];exact hocd)
theorem zbK {M:Model}{A:Around}{E:Value->Shared->Prop}{i:Nat}{x:Str}{v:V}{u:Value}{Q:Unit->Shared->Prop}(I:Inv X pins σ H s)(hN:X.N.Nodup)(hi:X.N[i]? = some x)(hx:Loc X.env.scope x)(r:RelV v u)
  (h:∀s',Inv X pins (σ.set i (some v)) H s'->Q () s') (hf:X.fn x=true∨X.env.scope.names.lookup x=some .local:=by first|exact .inl rfl|exact .inr rfl|assumption):wpAny M A (storeName X.env x u) Q E s :=
 zhH I hN hi hx r (λs' I' _=>h s' I') hf
theorem Inv.call' {s':Shared}{ch:List Addr}(I:Inv X pins σ H s)(ho:s'.os=s.os)(u:Un (frs X.stack) ch H H' s.heap s'.heap)(hok:HOk X.prog X.w H' s'.heap)(hg:AllBare s'.gens)
  (hch:∀b∈ch,(b∈X.ex∨X.s₀.heap.objs.size<=b)/\b≠X.env.locals/\(∀x c,X.env.cells.lookup x=some c->c≠b)/\∀p∈X.pn++pins,p.1≠b):Inv X pins σ H' s':=by
 obtain⟨h',g',d',t',o'⟩:=s'
 have e:o'=s.os:=ho
 subst e
 exact I.call (g':=g') (t':=t') (d':=d') u hok hg hch
end
abbrev XK:=Value->Option Addr->Hp->Prop
abbrev St:=List (Option V)
abbrev VK:=V->Hp->Prop
abbrev TE:=St->Hp->VK->Prop
abbrev TT:=St->Hp->(Bool->Hp->Prop)->Prop
abbrev TA:=St->Hp->(List V->Hp->Prop)->Prop
structure Ends where
 nx:St->Hp->Prop
 rt:VK
 bk:St->Hp->Prop:=λ_ _=>False
 ct:St->Hp->Prop:=λ_ _=>False
abbrev TS:=Ends->St->Hp->Prop
inductive EP (X:Cx)(pins:List (Addr×Obj))(σ:St)(Q:VK)(u:Value)(s':Shared):Prop
 | mk (v:V) (H':Hp) (I:Inv X pins σ H' s') (r:RelV v u) (q:Q v H')
inductive TP (X:Cx)(pins:List (Addr×Obj))(σ:St)(Q:Bool->Hp->Prop)(b:Bool)(s':Shared):Prop
 | mk (H':Hp) (I:Inv X pins σ H' s') (q:Q b H')
inductive AP (X:Cx)(pins:List (Addr×Obj))(σ:St)(Q:List V->Hp->Prop)(us:List Value)(s':Shared):Prop
 | mk (vs:List V) (H':Hp) (I:Inv X pins σ H' s') (r:Vals vs us) (q:Q vs H')
inductive SN (X:Cx)(pins:List (Addr×Obj))(Q:St->Hp->Prop)(s':Shared):Prop
 | mk (a:St) (b:Hp) (I:Inv X pins a b s') (q:Q a b)
inductive SR (X:Cx)(pins:List (Addr×Obj))(Q:VK)(u:Value)(s':Shared):Prop
 | mk (v:V) (a:St) (b:Hp) (I:Inv X pins a b s') (r:RelV v u) (q:Q v b)
def SP (X:Cx)(pins:List (Addr×Obj))(D:Ends)(f:Flow)(s':Shared):Prop :=
 match f with
 | .next=>SN X pins D.nx s'
 | .brk=>SN X pins D.bk s'
 | .cont=>SN X pins D.ct s'
 | .ret u=>SR X pins D.rt u s'
def PE (X:Cx)(e:Expr)(t:TE):Prop :=
 ∀(pins:List (Addr×Obj)) (s:Shared) (σ:St) (H:Hp) (Q:VK),Inv X pins σ H s->t σ H Q->wpAny (model X.prog X.w) X.A (eval e X.env) (EP X pins σ Q) X.xe s
def PT (X:Cx)(e:Expr)(t:TT):Prop :=
 ∀(pins:List (Addr×Obj)) (s:Shared) (σ:St) (H:Hp) (Q:Bool->Hp->Prop),Inv X pins σ H s->t σ H Q->wpAny (model X.prog X.w) X.A (isTrue e X.env (eval e X.env)) (TP X pins σ Q) X.xe s
def PW (X:Cx)(e:Expr)(t:TT):Prop :=
 ∀(whole:Sem Value) (pins:List (Addr×Obj)) (s:Shared) (σ:St) (H:Hp) (Q:Bool->Hp->Prop),Inv X pins σ H s->t σ H Q->wpAny (model X.prog X.w) X.A (isTrue e X.env whole) (TP X pins σ Q) X.xe s
theorem PW.pt {X:Cx}{e:Expr}{t:TT}(h:PW X e t):PT X e t:=h _
def PA (X:Cx)(es:List Expr)(t:TA):Prop :=
 ∀(pos:Pos) (pins:List (Addr×Obj)) (s:Shared) (σ:St) (H:Hp) (Q:List V->Hp->Prop),Inv X pins σ H s->t σ H Q->wpAny (model X.prog X.w) X.A (spliced (backTo pos (starEach es X.env))) (AP X pins σ Q) X.xe s
def PS (X:Cx)(st:Stmt)(t:TS):Prop :=
 ∀(pins:List (Addr×Obj)) (s:Shared) (σ:St) (H:Hp) (D:Ends),Inv X pins σ H s->t D σ H->wpAny (model X.prog X.w) X.A (exec st X.env) (SP X pins D) X.xe s
def PSs (X:Cx)(st:List Stmt)(t:TS):Prop :=
 ∀(pins:List (Addr×Obj)) (s:Shared) (σ:St) (H:Hp) (D:Ends),Inv X pins σ H s->t D σ H->wpAny (model X.prog X.w) X.A (execs st X.env) (SP X pins D) X.xe s
theorem thn {α:Type}{t:Sem α}{Q Q':α->Shared->Prop}{M:Model}{A:Around}{E:Value->Shared->Prop}{s:Shared}(h:wpAny M A t Q E s)(hQ:∀a s,Q a s->Q' a s):wpAny M A t Q' E s:=lai h hQ λ_ _ x=>x
section
variable {X:Cx}
def zcH (i:Nat):TE:=λσ H Q=>∃v,σ[i]? = some (some v)/\Q v H
def tC (v:V):TE:=λ_ H Q=>Q v H
theorem zle {i:Nat}{x:Str}{pos:Pos}(hN:X.N[i]? = some x)(hv:Vis X.env.scope x)(hd:(x == ("__debug__" : Str))=false:=by decide)(hcd:(x == ("__classdict__" : Str))=false:=by decide):PE X (.Name x pos) (zcH i):=by
 intro pins s σ H Q I h
 obtain⟨v,e,h⟩:=h
 obtain⟨m,hn,hl⟩:=I.loc
 obtain⟨u,r,l⟩:=hl i x v hN e hv
 have fin:EP X pins σ Q u s:=⟨v,H,I,r,h⟩
 rcases l with⟨hk,hm⟩|⟨hk,c,hc,hcell⟩
 ·exact wpAny_Name (wpAny_loadName_local I.ok.kind hk hn hm fin) hd
 ·rcases hk with hk|hk
  ·exact wpAny_Name (wpAny_loadName_cell I.ok.kind hk hc hcell fin) hd
  ·exact wpAny_Name (wpAny_loadName_free I.ok.kind hk hc hcell fin hcd) hd
theorem zoL {i j pos}:PE X (.Constant (.int i) j pos) (tC (.int i)):=λ_ _ _ H _ I h=>wpAny_Constant_int ⟨.int i,H,I.tok _,⟨_,rfl⟩,h⟩
theorem zpl {b j pos}:PE X (.Constant (.bool b) j pos) (tC (.bl b)):=λ_ _ _ H _ I h=>Constant_bool ⟨.bl b,H,I,rfl,h⟩
theorem znX {j pos}:PE X (.Constant .none j pos) (tC .non):=λ_ _ _ H _ I h=>Constant_none ⟨.non,H,I,rfl,h⟩
theorem zor {x j pos}:PE X (.Constant (.str x) j pos) (tC (.str x)):=λ_ _ _ H _ I h=>Calls.Constant_str ⟨.str x,H,I.tok _,⟨_,rfl⟩,h⟩
def Gl (X:Cx)(x:Str):Prop:=X.env.kindOf x=some .globalImplicit
theorem zbn {E:Value->Shared->Prop}{pins:List (Addr×Obj)}{s:Shared}{σ:St}{H:Hp}{x:Str}{u:Value}{pos:Pos}{Q:Value->Shared->Prop}(I:Inv X pins σ H s)(hg:Gl X x)(hm:X.mg x=some u)(h:Q u s)
  (hd:(x == ("__debug__" : Str))=false:=by decide):wpAny (model X.prog X.w) X.A (eval (.Name x pos) X.env) Q E s :=
 Calls.Name_function_global I.ok.kind hg (Calls.loadGlobal_global (by rw[I.ok.glob];exact I.mod.glob.keeps I.bk) hm h) hd
theorem zcE {E:Value->Shared->Prop}{pins:List (Addr×Obj)}{s:Shared}{σ:St}{H:Hp}{x:Str}{u:Value}{pos:Pos}{Q:Value->Shared->Prop}(I:Inv X pins σ H s)(hg:Gl X x)(hm:X.mg x=none)(hv:bootBuiltins x=some u)(h:Q u s)
  (hn:x ≠ "__name__" := by decide) (hd:(x == ("__debug__" : Str))=false:=by decide):wpAny (model X.prog X.w) X.A (eval (.Name x pos) X.env) Q E s:=by
 obtain⟨mb,h1,h2⟩:=I.mod.blt
 exact Calls.Name_function_global I.ok.kind hg (Calls.loadGlobal_builtin (by rw[I.ok.glob];exact I.mod.glob.keeps I.bk) hm (by rw[I.ok.blt];exact h1.keeps I.bk) ((h2 x hn).trans hv) h) hd
theorem jo {x:Str}{v:V}{u:Value}{pos:Pos}(hg:Gl X x)(hm:X.mg x=some u)(r:RelV v u)(hd:(x == ("__debug__" : Str))=false:=by decide):PE X (.Name x pos) (tC v) :=
 λ_ _ _ H _ I h=>zbn I hg hm ⟨v,H,I,r,h⟩ hd
theorem zbo {x:Str}{v:V}{u:Value}{pos:Pos}(hg:Gl X x)(hm:X.mg x=none)(hv:bootBuiltins x=some u)(r:RelV v u)(hn:x ≠ "__name__" := by decide)(hd:(x == ("__debug__" : Str))=false:=by decide):PE X (.Name x pos) (tC v) :=
 λ_ _ _ H _ I h=>zcE I hg hm hv ⟨v,H,I,r,h⟩ hn hd
variable {a b:Expr}{ta tb:TE}{pos:Pos}
def PC (X:Cx)(op:CmpOp)(a b:Expr)(t:TE):Prop :=
 ∀ (pins:List (Addr×Obj)) (s:Shared) (σ:St) (H:Hp) (Q:VK),Inv X pins σ H s->t σ H Q ->
  wpAny (model X.prog X.w) X.A (eval a X.env) (λv s₁=>wpAny (model X.prog X.w) X.A (eval b X.env) (λu s₂=>wpAny (model X.prog X.w) X.A (compareOp op v u) (EP X pins σ Q) X.xe s₂) X.xe s₁) X.xe s
theorem zgy (b:Expr){op:CmpOp}(h:op≠.In)(h2:op≠.NotIn):behindInMarks op b=false:=by
 have e1:(op == CmpOp.In)=false:=by cases op <;>first|rfl|exact absurd rfl h
 have e2:(op == CmpOp.NotIn)=false:=by cases op <;>first|rfl|exact absurd rfl h2
 cases b <;>simp[behindInMarks,e1,e2]
def zqA (ta:TE):TE:=λσ H Q=>ta σ H λx H1=>Q (.bl (decide (x=.non))) H1
def zpd (ta:TE):TE:=λσ H Q=>ta σ H λx H1=>Q (.bl (!decide (x=.non))) H1
theorem RelV.none_iff {x:V}{v:Value}(r:RelV x v):(v == Value.none)=decide (x=.non):=by
 cases x with
 | non=>cases r;rfl
 | bl _=>cases r;rfl
 | int _=>obtain⟨t,rfl⟩:=r;rfl
 | str _=>obtain⟨t,rfl⟩:=r;rfl
 | byt _=>obtain⟨t,rfl⟩:=r;rfl
 | flt _=>obtain⟨t,rfl⟩:=r;rfl
 | ref _=>cases r;rfl
 | ty _=>cases r;rfl
theorem znq {j pos'}(ha:PE X a ta):PC X .Is a (.Constant .none j pos') (zqA ta):=by
 intro pins s σ H Q I h
 refine thn (ha pins s σ H _ I h) λv s1 hq0=>?_
 obtain⟨x,H1,I1,r1,q1⟩:=hq0
 exact Constant_none (is_none_gen ⟨.bl _,H1,I1,by rw[r1.none_iff];rfl,q1⟩)
theorem zlB {j pos'}(ha:PE X a ta):PC X .IsNot a (.Constant .none j pos') (zpd ta):=by
 intro pins s σ H Q I h
 refine thn (ha pins s σ H _ I h) λv s1 hq1=>?_
 obtain⟨x,H1,I1,r1,q1⟩:=hq1
 exact Constant_none (isnot_none_gen ⟨.bl _,H1,I1,by rw[r1.none_iff];rfl,q1⟩)
def tB (t:TE):TT:=λσ H Q=>t σ H λx H1=>∃c,x=.bl c/\Q c H1
theorem zn7 {op:CmpOp}{t:TE}(h:PC X op a b t)(h1:behindInMarks op b=false:=by first|exact zgy _ (by decide) (by decide)|rfl):PE X (.Compare a [op] [b] pos) t:=λpins s σ H Q I hw=>wpAny_Compare1 (h pins s σ H Q I hw) h1
theorem zoh {op:CmpOp}{t:TE}(h:PC X op a b t)(h1:behindInMarks op b=false:=by first|exact zgy _ (by decide) (by decide)|rfl):PT X (.Compare a [op] [b] pos) (tB t):=by
 intro pins s σ H Q I hw
 refine wpAny_isTrue_Compare1 (thn (h pins s σ H _ I hw) λv s1 h1=>thn h1 λu s2 h2=>thn h2 λc s3 ⟨x,H1,I1,r1,q1⟩=>?_) h1
 obtain⟨d,rfl,q⟩:=q1
 cases r1
 exact laJ ⟨H1,I1,q⟩
theorem zoG {e:Expr}{t:TE}(h:PE X e t)(he:∀whole,isTrue e X.env whole=(do let v ← whole;standAt e.pos;holding [v] (truthy v)):=by intro _;rfl):PT X e (tB t):=by
 intro pins s σ H Q I hw
 refine isTrue_plain (thn (h pins s σ H _ I hw) λv s1 hq2=>?_) (he _)
 obtain⟨x,H1,I1,r1,q1⟩:=hq2
 obtain⟨d,rfl,q⟩:=q1
 cases r1
 exact laJ ⟨H1,I1,q⟩
variable {tA tB':TT}{rest:List Expr}
def zqF (t u:TT):TT:=λσ H Q=>t σ H λc H1=>if c=true then u σ H1 Q else Q false H1
def tOr (t u:TT):TT:=λσ H Q=>t σ H λc H1=>if c=true then Q true H1 else u σ H1 Q
def zqJ (t:TT):TT:=λσ H Q=>t σ H λc H1=>Q (!c) H1
theorem zlV (ha:PT X a tA):PW X (.BoolOp .And [a] pos) tA:=by
 intro wh pins s σ H Q I h
 refine isTrue_and (thn (ha pins s σ H Q I h) λc s1 e=>?_)
 cases c with
 | true=>exact isTrue_and_nil e
 | false=>exact e
theorem zlg (ha:PT X a tA):PW X (.BoolOp .Or [a] pos) tA:=by
 intro wh pins s σ H Q I h
 refine isTrue_or (thn (ha pins s σ H Q I h) λc s1 e=>?_)
 cases c with
 | false=>exact isTrue_or_nil e
 | true=>exact e
theorem znP (ha:PT X a tA)(hb:PW X (.BoolOp .And (b::rest) pos) tB'):PW X (.BoolOp .And (a::b::rest) pos) (zqF tA tB'):=by
 intro wh pins s σ H Q I h
 refine isTrue_and (thn (ha pins s σ H _ I h) λc s1 hq3=>?_)
 obtain⟨H1,I1,q1⟩:=hq3
 cases c with
 | true=>exact hb wh pins s1 σ H1 Q I1 q1
 | false=>exact⟨H1,I1,q1⟩
theorem zog (ha:PT X a tA)(hb:PW X (.BoolOp .Or (b::rest) pos) tB'):PW X (.BoolOp .Or (a::b::rest) pos) (tOr tA tB'):=by
 intro wh pins s σ H Q I h
 refine isTrue_or (thn (ha pins s σ H _ I h) λc s1 hq4=>?_)
 obtain⟨H1,I1,q1⟩:=hq4
 cases c with
 | true=>exact⟨H1,I1,q1⟩
 | false=>exact hb wh pins s1 σ H1 Q I1 q1
theorem znn (ha:PT X a tA):PT X (.UnaryOp .Not a pos) (zqJ tA):=by
 intro pins s σ H Q I h
 exact isTrue_not (thn (ha pins s σ H (λc H1=>Q (!c) H1) I h) λ_ _ ⟨b,I,q⟩=>⟨b,I,q⟩)
def zpL (ta tb:TE):TE:=λσ H Q=>ta σ H λx H1=>∃c,x=.bl c/\if c=true then tb σ H1 Q else Q (.bl false) H1
def zqo (ta tb:TE):TE:=λσ H Q=>ta σ H λx H1=>∃c,x=.bl c/\if c=true then Q (.bl true) H1 else tb σ H1 Q
def zpb (ta:TE):TE:=λσ H Q=>ta σ H λx H1=>∃c,x=.bl c/\Q (.bl (!c)) H1
theorem znr {op}{t:TE}(h:PE X a t):PE X (.BoolOp op [a] pos) t:=λpins s σ H Q I hw=>BoolOp_one (h pins s σ H Q I hw)
theorem znA (ha:PE X a ta)(hb:PE X (.BoolOp .And (b::rest) pos) tb):PE X (.BoolOp .And (a::b::rest) pos) (zpL ta tb):=by
 intro pins s σ H Q I h
 refine BoolOp_and (thn (ha pins s σ H _ I h) λv s1 hq5=>?_)
 obtain⟨x,H1,I1,r1,q1⟩:=hq5
 obtain⟨c,rfl,q1⟩:=q1
 cases r1
 refine laJ ?_
 cases c with
 | true=>exact hb pins s1 σ H1 Q I1 q1
 | false=>exact⟨.bl false,H1,I1,rfl,q1⟩
theorem zpe (ha:PE X a ta)(hb:PE X (.BoolOp .Or (b::rest) pos) tb):PE X (.BoolOp .Or (a::b::rest) pos) (zqo ta tb):=by
 intro pins s σ H Q I h
 refine BoolOp_or (thn (ha pins s σ H _ I h) λv s1 hq6=>?_)
 obtain⟨x,H1,I1,r1,q1⟩:=hq6
 obtain⟨c,rfl,q1⟩:=q1
 cases r1
 refine laJ ?_
 cases c with
 | false=>exact hb pins s1 σ H1 Q I1 q1
 | true=>exact⟨.bl true,H1,I1,rfl,q1⟩
theorem zoH (ha:PE X a ta):PE X (.UnaryOp .Not a pos) (zpb ta):=by
 intro pins s σ H Q I h
 refine UnaryOp_ (thn (ha pins s σ H _ I h) λv s1 hq7=>?_)
 obtain⟨x,H1,I1,r1,q1⟩:=hq7
 obtain⟨c,rfl,q1⟩:=q1
 cases r1
 exact not_of (laJ ⟨.bl (!c),H1,I1,rfl,q1⟩)
def tIf (t:TT)(ta tb:TE):TE:=λσ H Q=>t σ H λc H1=>if c=true then ta σ H1 Q else tb σ H1 Q
theorem zkC {c:Expr}(hc:PT X c tA)(ha:PE X a ta)(hb:PE X b tb):PE X (.IfExp c a b pos) (tIf tA ta tb):=by
 intro pins s σ H Q I h
 refine wpAny_IfExp (thn (hc pins s σ H _ I h) λd s1 hq8=>?_)
 obtain⟨H1,I1,q1⟩:=hq8
 cases d with
 | true=>exact ha pins s1 σ H1 Q I1 q1
 | false=>exact hb pins s1 σ H1 Q I1 q1
end
def SqL (K:PySem.W.Frag)(H:Hp)(a:Addr)(xs:List V):Prop :=
 Rd H a (.lst xs) ∨
  ∃(o:Obj) (its:Array Value) (n:Nat),K.lookup a=some o/\o.cls=.type "list" /\ o.dict=none/\o.data=.seq its n/\its.size<=sizeLine/\Vals xs its.toList
def SqT (K:PySem.W.Frag)(H:Hp)(a:Addr)(xs:List V):Prop :=
 Rd H a (.tup xs) ∨
  ∃(o:Obj) (its:Array Value) (n:Nat),K.lookup a=some o/\o.cls=.type "tuple" /\ o.dict=none/\o.data=.seq its n/\its.size<=sizeLine/\Vals xs its.toList
def zqz:Value->Option V
 | .none=>some .non
 | .bool b=>some (.bl b)
 | .int i _=>some (.int i)
 | .str x _=>some (.str x)
 | .bytes b _=>some (.byt b)
 | .float b _=>some (.flt b)
 | .ref a=>some (.ref a)
 | .type n=>some (.ty n)
 | _=>none
theorem RelV.abs {x:V}{u:Value}(r:RelV x u):zqz u=some x:=by
 cases x with
 | non=>cases r;rfl
 | bl _=>cases r;rfl
 | int _=>obtain⟨t,rfl⟩:=r;rfl
 | str _=>obtain⟨t,rfl⟩:=r;rfl
 | byt _=>obtain⟨t,rfl⟩:=r;rfl
 | flt _=>obtain⟨t,rfl⟩:=r;rfl
 | ref _=>cases r;rfl
 | ty _=>cases r;rfl
theorem RelV.inj {x y:V}{u:Value}(r:RelV x u)(q:RelV y u):x=y:=lc (r.abs.symm.trans q.abs)
theorem Vals.inj:∀{xs ys:List V}{us:List Value},Vals xs us->Vals ys us->xs=ys:=by
 intro xs ys us h k
 induction h generalizing ys with
 | nil=>cases k;rfl
 | cons r t ih=>cases k with|cons r' t'=>rw[r.inj r',ih t']
section
variable {X:Cx}{pins:List (Addr×Obj)}{σ:St}{H:Hp}{s:Shared}{a:Addr}{xs ys:List V}
theorem SqT.of {K:PySem.W.Frag}(h:H a=some (.tup xs)):SqT K H a xs:=.inl (.inl h)
theorem Inv.list (I:Inv X pins σ H s)(h:SqL X.K H a xs):∃its:List Value,Vals xs its/\PlainL s.heap a its.toArray/\xs.length<=sizeLine:=by
 rcases h with h|⟨o,its,n,hk,hc,hd,hs,hz,r⟩
 ·obtain⟨z,its,n,r,e⟩:=h.ok I.hok
  exact⟨its,r,⟨_,n,e,rfl,rfl,rfl⟩,z⟩
 ·refine⟨its.toList,r,⟨o,n,I.kIn a o hk,hc,hd,by simpa using hs⟩,?_⟩
  have e:=r.length
  simp only[lcO] at e
  omega
theorem Inv.tuple (I:Inv X pins σ H s)(h:SqT X.K H a xs):∃its:List Value,Vals xs its/\IsTup s.heap a its.toArray/\xs.length<=sizeLine:=by
 rcases h with h|⟨o,its,n,hk,hc,_,hs,hz,r⟩
 ·obtain⟨z,its,r,p⟩:=h.ok I.hok
  exact⟨its,r,p.tup,z⟩
 ·refine⟨its.toList,r,⟨o,I.kIn a o hk,hc,n,by simpa using hs⟩,?_⟩
  have e:=r.length
  simp only[lcO] at e
  omega
theorem Inv.noDict (I:Inv X pins σ H s)(h:SqT X.K H a xs):∃o,s.heap.get? a=some o/\o.cls=.type "tuple" /\ o.dict=none:=by
 rcases h with h|⟨o,its,n,hk,hc,hd,hs,hz,r⟩
 ·obtain⟨z,its,r,o,e,c,_,d⟩:=h.ok I.hok
  exact⟨o,e,c,d⟩
 ·exact⟨o,I.kIn a o hk,hc,hd⟩
theorem Inv.list_inj (I:Inv X pins σ H s)(h:SqL X.K H a xs)(h':SqL X.K H a ys):xs=ys:=by
 obtain⟨its,r,⟨o,n,e,_,_,d⟩,_⟩:=I.list h
 obtain⟨its',r',⟨o',n',e',_,_,d'⟩,_⟩:=I.list h'
 rw[e] at e';cases e'
 rw[d] at d'
 injection d' with d1 _
 have:its=its':=by simpa using lbd Array.toList d1
 subst this
 exact r.inj r'
theorem Inv.tuple_inj (I:Inv X pins σ H s)(h:SqT X.K H a xs)(h':SqT X.K H a ys):xs=ys:=by
 obtain⟨its,r,⟨o,e,_,n,d⟩,_⟩:=I.tuple h
 obtain⟨its',r',⟨o',e',_,n',d'⟩,_⟩:=I.tuple h'
 rw[e] at e';cases e'
 rw[d] at d'
 injection d' with d1 _
 have:its=its':=by simpa using lbd Array.toList d1
 subst this
 exact r.inj r'
end
abbrev Cx.wish (X:Cx)(E:Value->Shared->Prop):Cx:={X with xe:=E}
abbrev Cx.nox (X:Cx):Cx:=X.wish λ_ _=>False
theorem Cx.Ok.wish {X:Cx}(ok:X.Ok)(E:Value->Shared->Prop):(X.wish E).Ok :=
 ⟨ok.mod,ok.kind,ok.glob,ok.blt,ok.above,ok.inj,ok.has,ok.cab,ok.hd,ok.frames,ok.stk,ok.exf,ok.bs,ok.bsz,ok.noex,ok.exfs,ok.funs,ok.frf⟩
theorem Cx.Ok.unwish {X:Cx}{E:Value->Shared->Prop}(ok:(X.wish E).Ok):X.Ok :=
 ⟨ok.mod,ok.kind,ok.glob,ok.blt,ok.above,ok.inj,ok.has,ok.cab,ok.hd,ok.frames,ok.stk,ok.exf,ok.bs,ok.bsz,ok.noex,ok.exfs,ok.funs,ok.frf⟩
section
variable {X:Cx}{pins:List (Addr×Obj)}{σ:St}{H:Hp}{s:Shared}{E:Value->Shared->Prop}
theorem Inv.wish (I:Inv X pins σ H s)(E:Value->Shared->Prop):Inv (X.wish E) pins σ H s:=⟨I.ok.wish E,I.os,I.bare,I.base,I.loc,I.cell,I.free,I.freeC,I.pin,I.hok,I.len⟩
theorem Inv.unwish (I:Inv (X.wish E) pins σ H s):Inv X pins σ H s:=⟨I.ok.unwish,I.os,I.bare,I.base,I.loc,I.cell,I.free,I.freeC,I.pin,I.hok,I.len⟩
theorem SP.unwish {D:Ends}{f:Flow}{s':Shared}(h:SP (X.wish E) pins D f s'):SP X pins D f s':=by
 cases f with
 | next=>obtain⟨σ',H',I,q⟩:=h;exact⟨σ',H',I.unwish,q⟩
 | brk=>obtain⟨σ',H',I,q⟩:=h;exact⟨σ',H',I.unwish,q⟩
 | cont=>obtain⟨σ',H',I,q⟩:=h;exact⟨σ',H',I.unwish,q⟩
 | ret u=>obtain⟨v,σ',H',I,r,q⟩:=h;exact⟨v,σ',H',I.unwish,r,q⟩
theorem PE.nox {e:Expr}{t:TE}(h:PE X.nox e t):PE X e t:=λpins s σ H Q I hw =>
 lai (h pins s σ H Q (I.wish _) hw) (λ_ _ ⟨v,H',I',r,q⟩=>⟨v,H',I'.unwish,r,q⟩) λ_ _ z=>False.elim z
theorem PT.nox {e:Expr}{t:TT}(h:PT X.nox e t):PT X e t:=λpins s σ H Q I hw =>
 lai (h pins s σ H Q (I.wish _) hw) (λ_ _ ⟨H',I',q⟩=>⟨H',I'.unwish,q⟩) λ_ _ z=>False.elim z
theorem PSs.nox {st:List Stmt}{t:TS}(h:PSs X.nox st t):PSs X st t:=λpins s σ H D I hw =>
 lai (h pins s σ H D (I.wish _) hw) (λ_ _ q=>q.unwish) λ_ _ z=>False.elim z
end
section
variable {X:Cx}{st:Stmt}{rest:List Stmt}{t u:TS}{e:Expr}{te:TE}{pos:Pos}
def zpf:TS:=λD σ H=>D.nx σ H
def zqH (t u:TS):TS:=λD σ H=>t {D with nx:=u D} σ H
theorem zir:PSs X [] zpf:=λ_ _ σ H _ I h=>lcl ⟨σ,H,I,h⟩
theorem jG (h1:PS X st t)(h2:PSs X rest u):PSs X (st::rest) (zqH t u):=by
 intro pins s σ H D I h
 refine lcc (thn (h1 pins s σ H {D with nx:=u D} I h) λf s1 q=>?_)
 cases f with
 | next =>
  obtain⟨σ',H',I',q⟩:=q
  exact h2 pins s1 σ' H' D I' q
 | ret v=>exact q
 | brk=>exact q
 | cont=>exact q
theorem zaq (h1:PS X st t):PSs X [st] t:=by
 intro pins s σ H D I h
 refine lcc (thn (h1 pins s σ H D I h) λf s1 q=>?_)
 cases f with
 | next=>exact lcl q
 | ret v=>exact q
 | brk=>exact q
 | cont=>exact q
theorem Inv.quiet {pins:List (Addr×Obj)}{σ:St}{H:Hp}{s:Shared}(I:Inv X pins σ H s):interactive X.env=false:=by simp[interactive,I.ok.kind]
def zpr (te:TE):TS:=λD σ H=>te σ H λ_ H1=>D.nx σ H1
theorem zdY (he:PE X e te)(hs:swapsWith e none pos.line X.env=pure false:=by rfl):PS X (.Expr e pos) (zpr te):=by
 intro pins s σ H D I h
 exact wpAny_Expr_any (thn (he pins s σ H _ I h) λv s1 ⟨x,H1,I1,r1,q1⟩=>⟨σ,H1,I1,q1⟩) I.quiet hs
def zqq (te:TE):TS:=λD σ H=>te σ H D.rt
theorem zeZ (he:PE X e te):PS X (.Return (some e) pos) (zqq te):=by
 intro pins s σ H D I h
 exact lc4 (thn (he pins s σ H _ I h) λv s1 ⟨x,H1,I1,r1,q1⟩=>⟨x,σ,H1,I1,r1,q1⟩)
def zqN (c:TT)(t u:TS):TS:=λD σ H=>c σ H λb H1=>if b=true then t D σ H1 else u D σ H1
theorem znm {c:Expr}{a b:List Stmt}{tc:TT}(hc:PT X c tc)(ha:PSs X a t)(hb:PSs X b u):PS X (.If c a b pos) (zqN tc t u):=by
 intro pins s σ H D I h
 refine wpAny_If (thn (hc pins s σ H _ I h) λd s1 hq9=>?_)
 obtain⟨H1,I1,q1⟩:=hq9
 cases d with
 | true=>exact ha pins s1 σ H1 D I1 q1
 | false=>exact hb pins s1 σ H1 D I1 q1
end
abbrev TG:=V->St->Hp->(St->Hp->Prop)->Prop
abbrev TGs:=List V->St->Hp->(St->Hp->Prop)->Prop
def PG (X:Cx)(target:Expr)(t:TG):Prop :=
 ∀ (pins:List (Addr×Obj)) (s:Shared) (σ:St) (H:Hp) (v:V) (u:Value) (Q:St->Hp->Prop),Inv X pins σ H s->RelV v u->t v σ H Q ->
  wpAny (model X.prog X.w) X.A (assign target X.env u) (λ_ s'=>∃σ' H',Inv X pins σ' H' s'/\Q σ' H') X.xe s
def PGs (X:Cx)(ts:List Expr)(t:TGs):Prop :=
 ∀ (pins:List (Addr×Obj)) (s:Shared) (σ:St) (H:Hp) (vs:List V) (us:List Value) (Q:St->Hp->Prop),Inv X pins σ H s->Vals vs us->t vs σ H Q ->
  wpAny (model X.prog X.w) X.A (assignInOrder ((assignEach ts X.env).map (·.2)) us) (λ_ s'=>∃σ' H',Inv X pins σ' H' s'/\Q σ' H') X.xe s
section
variable {X:Cx}{pos:Pos}
def kY (i:Nat):TG:=λv σ H Q=>Q (σ.set i (some v)) H
theorem yc {i:Nat}{x:Str}(hN:X.N.Nodup)(hi:X.N[i]? = some x)(hx:Loc X.env.scope x)(hf:X.fn x=true∨X.env.scope.names.lookup x=some .local:=by first|exact .inl rfl|exact .inr rfl|assumption):PG X (.Name x pos) (kY i):=by
 intro pins s σ H v u Q I r h
 exact wpAny_assign_Name (zbK I hN hi hx r (λs' I'=>⟨_,H,I',h⟩) hf)
def zmX:TGs:=λvs σ H Q=>vs=[]/\Q σ H
def zcw (t:TG)(u:TGs):TGs:=λvs σ H Q=>∃v r,vs=v::r/\t v σ H λσ' H'=>u r σ' H' Q
theorem zml:PGs X [] zmX:=by
 intro pins s σ H vs us Q I r h
 obtain⟨e,h⟩:=h
 subst e
 cases r
 exact assignInOrder_nil ⟨σ,H,I,h⟩
theorem zgB {e:Expr}{es:List Expr}{t:TG}{u:TGs}(h1:PG X e t)(h2:PGs X es u)
  (hs:(assignEach (e::es) X.env).map (·.2)=assign e X.env::(assignEach es X.env).map (·.2):=by rfl):PGs X (e::es) (zcw t u):=by
 intro pins s σ H vs us Q I r h
 obtain⟨v,vr,e1,h⟩:=h
 subst e1
 cases r with
 | cons r rr =>
  rw[hs]
  refine assignInOrder_cons (thn (h1 pins s σ H _ _ _ I r h) λ_ s1 zmU=>?_)
  obtain⟨σ1,H1,I1,q1⟩:=zmU
  exact h2 pins s1 σ1 H1 _ _ Q I1 rr q1
def zmR (K:PySem.W.Frag)(n:Nat)(t:TGs):TG:=λv σ H Q=>∃a xs,v=.ref a/\SqT K H a xs/\xs.length=n/\t xs σ H Q
theorem znH {es:List Expr}{k:Nat}{t:TGs}{n:Nat}(hc:X.calm=true)(h:PGs X es t)
  (hn:(assignEach es X.env).length=n:=by rfl) (hst:(assignEach es X.env).findIdx? (·.1)=none:=by rfl):PG X (.Tuple es k pos) (zmR X.K n t):=by
 intro pins s σ H v u Q I r hw
 obtain⟨a,xs,e1,hq,hl,hw⟩:=hw
 subst e1
 cases r
 obtain⟨its,rv,ht,hz⟩:=I.tuple hq
 refine assign_Tuple_tuple (I.ok.hd hc) ht (by simp[hn,← hl,rv.length]) hst λh' hx=>?_
 have I1:Inv X pins σ H {s with heap:=h'}:=I.kept (t':=s.toks) λb o e=>hx b o (lU (lu e)) e
 exact h pins _ σ H xs _ Q I1 (by simpa using rv) hw
def zp9 (te:TE)(g:TG):TS:=λD σ H=>te σ H λx H1=>g x σ H1 D.nx
theorem zoT {tg e:Expr}{te:TE}{g:TG}(he:PE X e te)(hg:PG X tg g)(hs:swapsWithSole [tg] e pos.line X.env=pure false:=by rfl)(hw:swappedStores [tg] e X.env=pure none:=by rfl)
  (h1:(assignEach [tg] X.env).map (·.2)=[assign tg X.env]:=by rfl):PS X (.Assign [tg] e pos) (zp9 te g):=by
 intro pins s σ H D I h
 refine wpAny_Assign_stores (thn (he pins s σ H _ I h) λv s1 ⟨x,H1,I1,r1,q1⟩=>?_) hs hw
 rw[h1]
 exact thn (hg pins s1 σ H1 x v _ I1 r1 q1) λ_ s2 ⟨a,b,I,q⟩=>⟨a,b,I,q⟩
theorem zeX {i:Nat}{x:Str}{e:Expr}{te:TE}{pos':Pos}(hN:X.N.Nodup)(hi:X.N[i]? = some x)(hx:Loc X.env.scope x)(he:PE X e te)(hs:swapsWith e (some (.Name x pos')) pos.line X.env=pure false:=by rfl)(hf:X.fn x=true∨X.env.scope.names.lookup x=some .local:=by first|exact .inl rfl|exact .inr rfl|assumption) :
  PS X (.Assign [.Name x pos'] e pos) (zp9 te (kY i)):=by
 intro pins s σ H D I h
 refine wpAny_Assign_Name (thn (he pins s σ H _ I h) λv s1 ⟨y,H1,I1,r1,q1⟩=>?_) hs
 exact zbK I1 hN hi hx r1 (λs2 I2=>⟨_,H1,I2,q1⟩) hf
end
section
variable {X:Cx}{pos:Pos}
def zos (c:TT)(tb:TS):TS:=λD σ H=>∃W:Nat->St->Hp->Prop,(∃m,W m σ H)/\∀m σ H,W m σ H ->
 c σ H λb H1=>if b=true then ∃N:St->Hp->Prop,(∀σ' H',N σ' H'->∃m',m'<m/\W m' σ' H')/\tb {D with nx:=N,ct:=N,bk:=D.nx} σ H1 else D.nx σ H1
theorem zj0 {c:Expr}{body:List Stmt}{tc:TT}{tb:TS}(hp:PassesOwn (model X.prog X.w) X.A X.env X.xe)(hc:PT X c tc)(hb:PSs X body tb):PS X (.While c body [] pos) (zos tc tb):=by
 intro pins s σ H D I h
 obtain⟨W,⟨m0,w0⟩,turn⟩:=h
 refine wpAny_While (codeAny_whileLoop (λn s'=>∃σ' H',Inv X pins σ' H' s'/\W n σ' H') ?_ m0 ⟨σ,H,I,w0⟩)
 rintro n s1 ⟨σ1,H1,I1,w1⟩
 refine lbC hp (thn (hc pins s1 σ1 H1 _ I1 (turn n σ1 H1 w1)) λb s2 zjv=>?_)
 obtain⟨H2,I2,q2⟩:=zjv
 cases b with
 | true =>
  obtain⟨N,hN,q2⟩:=q2
  rw[lB rfl]
  refine lbC hp (thn (hb pins s2 σ1 H2 _ I2 q2) λf s3 q3=>?_)
  cases f with
  | next =>
   obtain⟨σ3,H3,I3,n3⟩:=q3
   obtain⟨m',hm,w3⟩:=hN σ3 H3 n3
   exact⟨m',hm,σ3,H3,I3,w3⟩
  | cont =>
   obtain⟨σ3,H3,I3,n3⟩:=q3
   obtain⟨m',hm,w3⟩:=hN σ3 H3 n3
   exact⟨m',hm,σ3,H3,I3,w3⟩
  | brk=>exact q3
  | ret v=>exact q3
 | false =>
  rw[lW lv]
  exact lcl ⟨σ1,H2,I2,q2⟩
end
structure It where
 go:Nat->Hp->Prop
 yld:Nat->Hp->V->Hp->Prop
 stop:Nat->Hp->Prop
def zjA (X:Cx)(pins:List (Addr×Obj))(H:Hp)(b:Addr):Prop :=
 H b=none/\b≠X.env.locals/\b∉X.fs/\(b∈X.ex∨X.s₀.heap.objs.size<=b)/\(∀x c,X.env.cells.lookup x=some c->c≠b)/\∀p∈X.pn++pins,p.1≠b
theorem Inv.fpOk {X:Cx}{pins:List (Addr×Obj)}{σ:St}{H H':Hp}{s:Shared}{b:Addr}(I:Inv X pins σ H s)(hb:s.heap.objs.size<=b)(hn:H' b=none):zjA X pins H' b:=by
 refine⟨hn,laE (lm I.lt hb),I.nofs hb,.inr (lX I.sz hb),λx c e z=>?_,λp hp z=>?_⟩
 ·obtain⟨v,q⟩:=I.cell x c e
  exact absurd (lm q.lt (by rw[z];exact hb)) (lbs _)
 ·exact absurd (lm (lu (I.pin p hp).1) (by rw[z];exact hb)) (lbs _)
structure Turn (P:Program)(w:World)(K:PySem.W.Frag)(tg:Expr)(J:It)(fp:List Addr)(it:Addr)(tn:Nat->Heap->Prop):Prop where
 mem:it∈fp
 obj:∀i h,tn i h->∀b∈fp,∃o,h.get? b=some o/\∀v,o.data≠.cell v
 keep:∀i h h',tn i h->(∀b∈fp,∀o,h.get? b=some o->h'.get? b=some o)->tn i h'
 item:∀(X:Cx),X.prog=P->X.w=w->X.K=K->X.calm=true->∀(i:Nat) (pins:List (Addr×Obj)) (s:Shared) (σ:St) (H:Hp) (E:Value->Shared->Prop),Inv X pins σ H s->(∀b∈fp,zjA X pins H b)->tn i s.heap->J.go i H ->
  wpAny (model P w) X.A (pyNext (.ref it)) (λr s1=>∃u,r=some u /\
   wpAny (model P w) X.A (letOwnedTupleGo tg (.ref it) u) (λ_ s2=>∃x H',Inv X pins σ H' s2/\RelV x u/\J.yld i H x H'/\tn (i+1) s2.heap/\∀b∈fp,H' b=none) E s1) E s
 done:∀(X:Cx),X.prog=P->X.w=w->X.K=K->X.calm=true->∀(i:Nat) (pins:List (Addr×Obj)) (s:Shared) (σ:St) (H:Hp) (E:Value->Shared->Prop),Inv X pins σ H s->(∀b∈fp,zjA X pins H b)->tn i s.heap->J.stop i H ->
  wpAny (model P w) X.A (pyNext (.ref it)) (λr s1=>r=none/\Inv X pins σ H s1) E s
 self:∀(A:Around) (i:Nat) (s:Shared) (Q:Value->Shared->Prop) (E:Value->Shared->Prop),tn i s.heap->Q (.ref it) s->wpAny (model P w) A (pyIter (.ref it)) Q E s
abbrev TI:=St->Hp->(It->Hp->Prop)->Prop
inductive PIE (X:Cx)(pins:List (Addr×Obj))(σ:St)(tg:Expr)(R:It->Hp->Prop)(itv:Value)(s2:Shared):Prop
 | mk (it:Addr) (fp:List Addr) (tn:Nat->Heap->Prop) (J:It) (H':Hp) (e:itv=.ref it) (I:Inv X pins σ H' s2) (T:Turn X.prog X.w X.K tg J fp it tn) (z:tn 0 s2.heap) (f:(∀b∈fp,zjA X pins H' b)) (q:R J H')
def PI (X:Cx)(tg iter:Expr)(wi:TI):Prop :=
 ∀ (pins:List (Addr×Obj)) (s:Shared) (σ:St) (H:Hp) (R:It->Hp->Prop),Inv X pins σ H s->wi σ H R ->
  wpAny (model X.prog X.w) X.A (eval iter X.env) (λv s1=>wpAny (model X.prog X.w) X.A (pyIter v) (PIE X pins σ tg R) X.xe s1) X.xe s
theorem zkJ {M:Model}{A:Around}{E:Value->Shared->Prop}{s:Shared}{tg:Expr}{it:Addr}{u:Value}{o:Obj}{n:String}{vs:Array Value}{Q:Unit->Shared->Prop}(ho:s.heap.get? it=some o)(hc:o.cls=.type n)(hd:o.data=.fields vs)
  (hn:["enumerate", "zip", "dict_itemiterator", "dict_reverseitemiterator", "odict_iterator", "itertools.zip_longest", "itertools.pairwise"].contains n=false) (hQ:Q () s):wpAny M A (letOwnedTupleGo tg (.ref it) u) Q E s:=by
 unfold letOwnedTupleGo
 cases tg <;>first
  | exact lj hQ
  | (cases u <;>first
    | exact lj hQ
    | (refine la (wpAny_load ho ?_)
       rw[hc,hd]
       show wpAny M A (if (["enumerate", "zip", "dict_itemiterator", "dict_reverseitemiterator", "odict_iterator", "itertools.zip_longest", "itertools.pairwise"].contains n&&vs[0]? == some (rawInt _))=true then _ else _) Q E s
       rw[lW (by intro h;rw[hn,Bool.false_and] at h;cases h)]
       exact lj hQ))
def Itl (K:PySem.W.Frag)(a:Addr):It :=
 ⟨λi H=>∃xs x,SqL K H a xs/\xs[i]? = some x,λi H x H'=>H'=H/\∀xs,SqL K H a xs->xs[i]? = some x,λi H=>∃xs,SqL K H a xs/\xs.length<=i⟩
def Itt (K:PySem.W.Frag)(a:Addr):It :=
 ⟨λi H=>∃xs x,SqT K H a xs/\xs[i]? = some x,λi H x H'=>H'=H/\∀xs,SqT K H a xs->xs[i]? = some x,λi H=>∃xs,SqT K H a xs/\xs.length<=i⟩
def Itr (lo:Int)(n:Nat):It:=⟨λi _=>i<n,λi H x H'=>H'=H/\x=.int (lo+i),λi _=>n<=i⟩
theorem zik {P:Program}{w:World}{K:PySem.W.Frag}{tg:Expr}(a it:Addr):Turn P w K tg (Itl K a) [it] it (λi h=>h.IsListIter it a i) where
 mem:=by simp
 obj:=λi h st b hb=>by
  have e:b=it:=by simpa using hb
  subst e
  obtain⟨o,e,c,d⟩:=st
  exact⟨o,e,λv z=>by rw[d] at z;cases z⟩
 keep:=λi h h' st k=>st.at λo e=>k it (by simp) o e
 item:=by
  intro X hP hw hK hc i pins s σ H E I hf st hg
  subst hP hw hK
  obtain⟨xs,x,hq,hx⟩:=hg
  obtain⟨its,rv,p,hz⟩:=I.list hq
  obtain⟨u,hu,ru⟩:=rv.get hx
  obtain⟨f0,f1,f2,f3,f4,f5⟩:=hf it (by simp)
  refine wpAny_pyNext_list_item st p.isList (x:=u) (by simpa using hu) λh' st' sb=>?_
  have I1:Inv X pins σ H {s with heap:=h'}:=I.turned (t':=s.toks) (λb o hb e=>(sb.2 b hb).trans e) f0 f1 f3 f4 f5
  obtain⟨o,e,c,d⟩:=id st'
  exact⟨u,rfl,zkJ (s:={s with heap:=h'}) e c d (by decide) ⟨x,H,I1,ru,⟨rfl,λys hy=>by rw[I.list_inj hy hq];exact hx⟩,st',λb hb=>(hf b hb).1⟩⟩
 done:=by
  intro X hP hw hK hc i pins s σ H E I hf st hg
  subst hP hw hK
  obtain⟨xs,hq,hx⟩:=hg
  obtain⟨its,rv,p,hz⟩:=I.list hq
  obtain⟨f0,f1,f2,f3,f4,f5⟩:=hf it (by simp)
  have hl:=rv.length
  exact wpAny_pyNext_list_end (I.ok.hd hc) st p.isList (by simp;omega) λh' eb=>⟨rfl,I.turned (t':=s.toks) (λb o hb e=>eb b o hb e) f0 f1 f3 f4 f5⟩
 self:=λ_ _ _ _ _ st h=>wpAny_pyIter_listiter st h
theorem zg7 {P:Program}{w:World}{K:PySem.W.Frag}{tg:Expr}(a it:Addr):Turn P w K tg (Itt K a) [it] it (λi h=>h.IsTupleIter it a i) where
 mem:=by simp
 obj:=λi h st b hb=>by
  have e:b=it:=by simpa using hb
  subst e
  obtain⟨o,e,c,d⟩:=st
  exact⟨o,e,λv z=>by rw[d] at z;cases z⟩
 keep:=λi h h' st k=>st.at λo e=>k it (by simp) o e
 item:=by
  intro X hP hw hK hc i pins s σ H E I hf st hg
  subst hP hw hK
  obtain⟨xs,x,hq,hx⟩:=hg
  obtain⟨its,rv,p,hz⟩:=I.tuple hq
  obtain⟨u,hu,ru⟩:=rv.get hx
  obtain⟨f0,f1,f2,f3,f4,f5⟩:=hf it (by simp)
  refine wpAny_pyNext_tuple_item st (show s.heap.IsTuple a its.toArray from p) (x:=u) (by simpa using hu) λh' st' sb=>?_
  have I1:Inv X pins σ H {s with heap:=h'}:=I.turned (t':=s.toks) (λb o hb e=>(sb.2 b hb).trans e) f0 f1 f3 f4 f5
  obtain⟨o,e,c,d⟩:=id st'
  exact⟨u,rfl,zkJ (s:={s with heap:=h'}) e c d (by decide) ⟨x,H,I1,ru,⟨rfl,λys hy=>by rw[I.tuple_inj hy hq];exact hx⟩,st',λb hb=>(hf b hb).1⟩⟩
 done:=by
  intro X hP hw hK hc i pins s σ H E I hf st hg
  subst hP hw hK
  obtain⟨xs,hq,hx⟩:=hg
  obtain⟨its,rv,p,hz⟩:=I.tuple hq
  obtain⟨f0,f1,f2,f3,f4,f5⟩:=hf it (by simp)
  have hl:=rv.length
  exact wpAny_pyNext_tuple_end (I.ok.hd hc) st (show s.heap.IsTuple a its.toArray from p) (by simp;omega) λh' eb=>⟨rfl,I.turned (t':=s.toks) (λb o hb e=>eb b o hb e) f0 f1 f3 f4 f5⟩
 self:=λ_ _ _ _ _ st h=>wpAny_pyIter_tupleiter st h
theorem zhp {P:Program}{w:World}{K:PySem.W.Frag}{tg:Expr}(it:Addr)(lo:Int)(n:Nat):Turn P w K tg (Itr lo n) [it] it (λi h=>IsRangeIter h it (lo+(i:Nat)*1) ((n:Int) - (i:Nat)) 1) where
 mem:=by simp
 obj:=λi h st b hb=>by
  have e:b=it:=by simpa using hb
  subst e
  exact ⟨_,st,λv z=>by
   have z':Data.fields _=Data.cell v:=z
   cases z'⟩
 keep:=λi h h' st k=>k it (by simp) _ st
 item:=by
  intro X hP hw hK hc i pins s σ H E I hf st hg
  subst hP hw hK
  obtain⟨f0,f1,f2,f3,f4,f5⟩:=hf it (by simp)
  have W:=Walks.range (prog:=X.prog) (w:=X.w) (I.ok.hd hc) it lo 1 n
  refine W.item i s _ _ hg st λv h' tk hv st' kk=>?_
  obtain⟨t,rfl⟩:=hv
  have I1:Inv X pins σ H {s with heap:=h',toks:=tk}:=I.turned (λb o hb e=>kk b o (by simpa using hb) e) f0 f1 f3 f4 f5
  refine⟨_,rfl,zkJ (s:={s with heap:=h',toks:=tk}) (n := "range_iterator") st' rfl rfl (by decide) ⟨.int (lo+i),H,I1,⟨t,?_⟩,⟨rfl,rfl⟩,st',λb hb=>(hf b hb).1⟩⟩
  rw[Int.mul_one]
 done:=by
  intro X hP hw hK hc i pins s σ H E I hf st hg
  subst hP hw hK
  obtain⟨f0,f1,f2,f3,f4,f5⟩:=hf it (by simp)
  exact wpAny_pyNext_range_end (I.ok.hd hc) st (by have:n<=i:=hg;omega) λh' eb=>⟨rfl,I.turned (t':=s.toks) (λb o hb e=>eb b o hb e) f0 f1 f3 f4 f5⟩
 self:=λ_ _ _ _ _ st h=>wpAny_pyIter_rangeiter st h
section
variable {X:Cx}{tg:Expr}
def zpW (K:PySem.W.Frag)(tl:TE):TI:=λσ H R=>tl σ H λx H1=>∃a,x=.ref a/\(∃xs,SqL K H1 a xs)/\R (Itl K a) H1
def zqv (K:PySem.W.Frag)(tl:TE):TI:=λσ H R=>tl σ H λx H1=>∃a,x=.ref a/\(∃xs,SqT K H1 a xs)/\R (Itt K a) H1
theorem zlN {l:Expr}{tl:TE}(hl:PE X l tl):PI X tg l (zpW X.K tl):=by
 intro pins s σ H R I h
 refine thn (hl pins s σ H _ I h) λv s1 zon=>?_
 obtain⟨x,H1,I1,r1,q1⟩:=zon
 obtain⟨a,e,⟨xs,hq⟩,q⟩:=q1
 subst e
 cases r1
 obtain⟨its,rv,p,hz⟩:=I1.list hq
 refine lb0 p.isList ?_
 refine⟨s1.heap.objs.size,[s1.heap.objs.size],_,_,H1,rfl,I1.kept (t':=s1.toks) λb o e=>lb _ e,zik a _,⟨_,lx _ rfl,rfl,rfl⟩,λb hb=>?_,q⟩
 have e:b=s1.heap.objs.size:=by simpa using hb
 subst e
 exact I1.fpOk (lp _) (I1.hok.fresh (lp _))
theorem znt {l:Expr}{tl:TE}(hl:PE X l tl):PI X tg l (zqv X.K tl):=by
 intro pins s σ H R I h
 refine thn (hl pins s σ H _ I h) λv s1 zm0=>?_
 obtain⟨x,H1,I1,r1,q1⟩:=zm0
 obtain⟨a,e,⟨xs,hq⟩,q⟩:=q1
 subst e
 cases r1
 obtain⟨its,rv,p,hz⟩:=I1.tuple hq
 refine lcX (show s1.heap.IsTuple a its.toArray from p) ?_
 refine⟨s1.heap.objs.size,[s1.heap.objs.size],_,_,H1,rfl,I1.kept (t':=s1.toks) λb o e=>lb _ e,zg7 a _,⟨_,lx _ rfl,rfl,rfl⟩,λb hb=>?_,q⟩
 have e:b=s1.heap.objs.size:=by simpa using hb
 subst e
 exact I1.fpOk (lp _) (I1.hok.fresh (lp _))
theorem zkn {pins:List (Addr×Obj)}{σ:St}{H:Hp}{s:Shared}{R:It->Hp->Prop}{E:Value->Shared->Prop}{lo hi:Int}{t u v:Tok}{tk:Nat}(I:Inv X pins σ H s)(h1:-(2 ^ 62)<=lo)(h2:lo<2 ^ 62)(h3:-(2 ^ 62)<=hi)(h4:hi<2 ^ 62)
  (q:R (Itr lo (hi - lo).toNat) H):wpAny (model X.prog X.w) X.A (pyIter (.ref s.heap.objs.size)) (PIE X pins σ tg R) E {s with heap:=s.heap.push {cls:=.type "range", data:=.fields #[.int lo t,.int hi u,.int 1 v]},toks:=tk}:=by
 refine wpAny_pyIter_range (IsRange.new ..) (small_one h1 h2 h3 h4) ?_
 have I1:Inv X pins σ H {s with heap:=s.heap.push {cls:=.type "range", data:=.fields #[.int lo t,.int hi u,.int 1 v]},toks:=tk}:=I.kept λb o e=>lb _ e
 refine ⟨(s.heap.push {cls:=.type "range", data:=.fields #[.int lo t,.int hi u,.int 1 v]}).objs.size,[(s.heap.push {cls:=.type "range", data:=.fields #[.int lo t,.int hi u,.int 1 v]}).objs.size],_,_,H,rfl,
  I1.kept (t':=tk) λb o e=>lb _ e,zhp _ lo (hi - lo).toNat,?_,λb hb=>?_,q⟩
 ·have e1:lo+((0:Nat):Int)*1=lo:=by simp
  have e2:(((hi - lo).toNat:Nat):Int) - ((0:Nat):Int)=Builtin.Range.rangeSize lo hi 1:=by rw[rangeSize_one];split <;>omega
  show IsRangeIter _ _ (lo+((0:Nat):Int)*1) ((((hi - lo).toNat:Nat):Int) - ((0:Nat):Int)) 1
  rw[e1,e2]
  exact lx _ rfl
 ·have e:b=(s.heap.push {cls:=.type "range", data:=.fields #[.int lo t,.int hi u,.int 1 v]}).objs.size:=by simpa using hb
  subst e
  exact I1.fpOk (lp _) (I1.hok.fresh (lp _))
def zpu (ta:TA):TI:=λσ H R=>ta σ H λvs H1=>∃j:Int,vs=[.int j]/\-(2 ^ 62)<=j/\j<2 ^ 62/\R (Itr 0 j.toNat) H1
theorem zis {a:Expr}{ta:TA}{p pos:Pos}(hg:Gl X "range")(hm:X.mg "range" = none)(ha:PA X [a] ta)(hs:starEach [a] X.env=[(false,eval a X.env)]:=by rfl):PI X tg (.Call (.Name "range" p) [a] [] pos) (zpu ta):=by
 intro pins s σ H R I h
 refine Call_ (zcE I hg hm boot_range (laR (thn (ha pos pins s σ H _ I h) λus s1 ⟨vs,H1,I1,r1,q1⟩=>?_) hs rfl))
 obtain⟨j,e,q1,q2,q⟩:=q1
 subst e
 cases r1 with
 | cons r rr =>
  cases rr
  obtain⟨t,rfl⟩:=r
  exact call_range_1 (zkn I1 (by omega) (by omega) q1 q2 (by simpa using q))
def zqs (wi:TI)(g:TG)(tb:TS):TS:=λD σ H=>wi σ H λJ H1=>∃W:Nat->Nat->St->Hp->Prop,(∃m,W 0 m σ H1)/\∀i m σ H,W i m σ H ->
 (J.stop i H/\D.nx σ H)∨(J.go i H/\∃N:St->Hp->Prop,(∀σ' H',N σ' H'->∃m',m'<m/\W (i+1) m' σ' H')/\∀x H',J.yld i H x H'->g x σ H' λσ2 H2=>tb {D with nx:=N,ct:=N,bk:=D.nx} σ2 H2)
def zb3 (fp:List Addr)(h:Heap):List (Addr×Obj):=fp.filterMap λb=>(h.get? b).map λo=>(b,o)
theorem jK {fp:List Addr}{h:Heap}{b:Addr}{o:Obj}(hb:b∈fp)(e:h.get? b=some o):(b,o)∈zb3 fp h:=lcY.mpr ⟨b,hb,by rw[e];rfl⟩
theorem zeN {fp:List Addr}{h:Heap}{p:Addr×Obj}(hp:p∈zb3 fp h):p.1∈fp/\h.get? p.1=some p.2:=by
 obtain⟨b,hb,e⟩:=lcY.mp hp
 cases q:h.get? b with
 | none=>rw[q] at e;cases e
 | some o =>
  rw[q] at e
  have e':(b,o)=p:=lc e
  subst e'
  exact⟨hb,q⟩
theorem Inv.pinned {pins:List (Addr×Obj)}{σ:St}{H:Hp}{s:Shared}{fp:List Addr}(I:Inv X pins σ H s)(hf:∀b∈fp,zjA X pins H b)(ho:∀b∈fp,∃o,s.heap.get? b=some o/\∀v,o.data≠.cell v):Inv X (pins++zb3 fp s.heap) σ H s :=
 I.pins_of λp hp=>(lam.mp hp).elim (λz=>I.pin p (lJ _ z)) λz=>by
  obtain⟨hb,e⟩:=zeN z
  obtain⟨f0,f1,f2,_⟩:=hf p.1 hb
  obtain⟨o,e',d⟩:=ho p.1 hb
  rw[e] at e';cases e'
  exact⟨e,f0,f1,f2,d⟩
theorem Inv.unpinned {pins pl:List (Addr×Obj)}{σ:St}{H:Hp}{s:Shared}(I:Inv X (pins++pl) σ H s):Inv X pins σ H s:=I.pins_of λp hp=>I.pin p (lJ _ (lbz _ hp))
theorem zio {iter:Expr}{body:List Stmt}{wi:TI}{g:TG}{tb:TS}{pos:Pos}(hp:PassesOwn (model X.prog X.w) X.A X.env X.xe)(hc:X.calm=true)(hi:PI X tg iter wi)(hg:PG X tg g)(hb:PSs X body tb)
  (hs:∀x,foldedSetIterable iter X.env x=pure x:=by intro _;rfl):PS X (.For tg iter body [] pos) (zqs wi g tb):=by
 intro pins s σ H D I h
 refine wpAny_For (thn (hi pins s σ H _ I h) λv s1 h1=>thn h1 λitv s2 h2=>?_) hs
 obtain⟨it,fp,tn,J,H2,e,I2,T,st2,f2,W,⟨m0,w0⟩,turn⟩:=h2
 subst e
 have stat:∀{H':Hp},(∀b∈fp,H' b=none)->∀b∈fp,zjA X pins H' b:=λhn b hb=>⟨hn b hb,(f2 b hb).2⟩
 refine codeAny_forLoop_any (λn s'=>∃i σ' H',Inv X pins σ' H' s'/\tn i s'.heap/\(∀b∈fp,H' b=none)/\W i n σ' H') ?_ m0 ⟨0,σ,H2,I2,st2,λb hb=>(f2 b hb).1,w0⟩
 rintro n s3 ⟨i,σ3,H3,I3,st3,fr3,w3⟩
 rcases turn i n σ3 H3 w3 with⟨stop,qn⟩|⟨go,N,hN,step⟩
 ·refine lbC hp (thn (T.done X rfl rfl rfl hc i pins s3 σ3 H3 X.xe I3 (stat fr3) st3 stop) λr s4 zo1=>?_)
  obtain⟨hr,I4⟩:=zo1
  subst hr
  exact lcl ⟨σ3,H3,I4,qn⟩
 ·refine lbC hp (thn (T.item X rfl rfl rfl hc i pins s3 σ3 H3 X.xe I3 (stat fr3) st3 go) λr s4 zoE=>?_)
  obtain⟨u,hr,h4⟩:=zoE
  subst hr
  refine lbC hp (thn h4 λ_ s5 zov=>?_)
  obtain⟨x,H5,I5,r5,y5,st5,fr5⟩:=zov
  have I5':=I5.pinned (stat fr5) (T.obj _ _ st5)
  refine lbC hp (thn (hg _ s5 σ3 H5 x u _ I5' r5 (step x H5 y5)) λ_ s6 zn6=>?_)
  obtain⟨σ6,H6,I6,q6⟩:=zn6
  refine lbC hp (thn (hb _ s6 σ6 H6 _ I6 q6) λf s7 q7=>?_)
  have again:∀{σ7:St}{H7:Hp},Inv X (pins++zb3 fp s5.heap) σ7 H7 s7->N σ7 H7->∃m,m<n/\∃i σ' H',Inv X pins σ' H' s7/\tn i s7.heap/\(∀b∈fp,H' b=none)/\W i m σ' H':=λ{σ7 H7} I7 n7=>by
   obtain⟨m',hm,w7⟩:=hN σ7 H7 n7
   refine⟨m',hm,i+1,σ7,H7,I7.unpinned,T.keep _ _ _ st5 λb hb o e=>(I7.pin (b,o) (lJ _ (lJ _ (jK hb e)))).1,λb hb=>?_,w7⟩
   obtain⟨o,e,d⟩:=T.obj _ _ st5 b hb
   exact(I7.pin (b,o) (lJ _ (lJ _ (jK hb e)))).2.1
  cases f with
  | next=>obtain⟨σ7,H7,I7,n7⟩:=q7;exact again I7 n7
  | cont=>obtain⟨σ7,H7,I7,n7⟩:=q7;exact again I7 n7
  | brk=>obtain⟨σ7,H7,I7,q7⟩:=q7;exact⟨σ7,H7,I7.unpinned,q7⟩
  | ret v=>obtain⟨x7,σ7,H7,I7,r7,q7⟩:=q7;exact⟨x7,σ7,H7,I7.unpinned,r7,q7⟩
end
abbrev R2:=V->V->Hp->VK->Prop
def OpR (X:Cx)(f:Value->Value->Sem Value)(r:R2):Prop :=
 ∀ (pins:List (Addr×Obj)) (s:Shared) (σ:St) (H:Hp) (x y:V) (v u:Value) (Q:VK),Inv X pins σ H s->RelV x v->RelV y u->r x y H Q ->
  wpAny (model X.prog X.w) X.A (f v u) (EP X pins σ Q) X.xe s
def UnR (X:Cx)(f:Value->Sem Value)(r:V->Hp->VK->Prop):Prop :=
 ∀ (pins:List (Addr×Obj)) (s:Shared) (σ:St) (H:Hp) (x:V) (v:Value) (Q:VK),Inv X pins σ H s->RelV x v->r x H Q ->
  wpAny (model X.prog X.w) X.A (f v) (EP X pins σ Q) X.xe s
def jb (X:Cx)(f:Value)(r:List V->Hp->VK->Prop):Prop :=
 ∀ (pins:List (Addr×Obj)) (s:Shared) (σ:St) (H:Hp) (xs:List V) (us:List Value) (Q:VK),Inv X pins σ H s->Vals xs us->r xs H Q ->
  wpAny (model X.prog X.w) X.A (call f us) (EP X pins σ Q) X.xe s
def tOp (r:R2)(ta tb:TE):TE:=λσ H Q=>ta σ H λx H1=>tb σ H1 λy H2=>r x y H2 Q
def tUn (r:V->Hp->VK->Prop)(ta:TE):TE:=λσ H Q=>ta σ H λx H1=>r x H1 Q
def rI (C:Int->Int->Prop)(g:Int->Int->V):R2:=λx y H Q=>∃i j,x=.int i/\y=.int j/\C i j/\Q (g i j) H
def rI0 (g:Int->Int->V):R2:=λx y H Q=>∃i j,x=.int i/\y=.int j/\Q (g i j) H
def rU (g:Int->V):V->Hp->VK->Prop:=λx H Q=>∃i,x=.int i/\Q (g i) H
section
variable {X:Cx}{a b c:Expr}{ta tb tc:TE}{pos:Pos}
theorem zpj (ha:PE X a ta)(hb:PE X b tb){pins:List (Addr×Obj)}{s:Shared}{σ:St}{H:Hp}{R:V->V->Hp->Prop}(I:Inv X pins σ H s)
  (h:ta σ H λx H1=>tb σ H1 λy H2=>R x y H2) {Q:Value->Shared->Prop}{f:Value->Value->Sem Value}
  (hf:∀v u s2 x y H2,Inv X pins σ H2 s2->RelV x v->RelV y u->R x y H2->wpAny (model X.prog X.w) X.A (f v u) Q X.xe s2) :
  wpAny (model X.prog X.w) X.A (eval a X.env) (λv s₁=>wpAny (model X.prog X.w) X.A (eval b X.env) (λu s₂=>wpAny (model X.prog X.w) X.A (f v u) Q X.xe s₂) X.xe s₁) X.xe s:=by
 refine thn (ha pins s σ H _ I h) λv s1 zlh=>?_
 obtain⟨x,H1,I1,r1,q1⟩:=zlh
 refine thn (hb pins s1 σ H1 _ I1 q1) λu s2 zm9=>?_
 obtain⟨y,H2,I2,r2,q2⟩:=zm9
 exact hf v u s2 x y H2 I2 r1 r2 q2
theorem zjL {op:Operator}{r:R2}(ho:OpR X (binaryOp op) r)(ha:PE X a ta)(hb:PE X b tb):PE X (.BinOp a op b pos) (tOp r ta tb):=by
 intro pins s σ H Q I h
 exact wpAny_BinOp (zpj ha hb I h λv u s2 x y H2 I2 rx ry q=>ho pins s2 σ H2 x y v u Q I2 rx ry q)
theorem zpB {op:UnaryOp}{r:V->Hp->VK->Prop}(ho:UnR X (unaryOp op) r)(ha:PE X a ta):PE X (.UnaryOp op a pos) (tUn r ta):=by
 intro pins s σ H Q I h
 exact UnaryOp_ (thn (ha pins s σ H _ I h) λv s1 ⟨x,H1,I1,r1,q1⟩=>ho pins s1 σ H1 x v Q I1 r1 q1)
theorem opI {f:Value->Value->Sem Value}{C:Int->Int->Prop}{g:Int->Int->Int}
  (rule:∀(i j:Int) (t u:Tok) (s:Shared) (Q:Value->Shared->Prop) (E:Value->Shared->Prop),C i j->Q (.int (g i j) s.toks) {s with toks:=s.toks+1}->wpAny (model X.prog X.w) X.A (f (.int i t) (.int j u)) Q E s) :
  OpR X f (rI C λi j=>.int (g i j)):=by
 intro pins s σ H x y v u Q I rx ry h
 obtain⟨i,j,rfl,rfl,hc,q⟩:=h
 obtain⟨t,rfl⟩:=rx
 obtain⟨t',rfl⟩:=ry
 exact rule i j t t' s _ _ hc ⟨.int (g i j),H,I.tok _,⟨_,rfl⟩,q⟩
theorem zqi {f:Value->Value->Sem Value}{g:Int->Int->Int}
  (rule:∀(i j:Int) (t u:Tok) (s:Shared) (Q:Value->Shared->Prop) (E:Value->Shared->Prop),Q (.int (g i j) s.toks) {s with toks:=s.toks+1}->wpAny (model X.prog X.w) X.A (f (.int i t) (.int j u)) Q E s) :
  OpR X f (rI0 λi j=>.int (g i j)):=by
 intro pins s σ H x y v u Q I rx ry h
 obtain⟨i,j,rfl,rfl,q⟩:=h
 obtain⟨t,rfl⟩:=rx
 obtain⟨t',rfl⟩:=ry
 exact rule i j t t' s _ _ ⟨.int (g i j),H,I.tok _,⟨_,rfl⟩,q⟩
theorem zqh {f:Value->Value->Sem Value}{g:Int->Int->Bool}
  (rule:∀(i j:Int) (t u:Tok) (s:Shared) (Q:Value->Shared->Prop) (E:Value->Shared->Prop),Q (.bool (g i j)) s->wpAny (model X.prog X.w) X.A (f (.int i t) (.int j u)) Q E s) :
  OpR X f (rI0 λi j=>.bl (g i j)):=by
 intro pins s σ H x y v u Q I rx ry h
 obtain⟨i,j,rfl,rfl,q⟩:=h
 obtain⟨t,rfl⟩:=rx
 obtain⟨t',rfl⟩:=ry
 exact rule i j t t' s _ _ ⟨.bl (g i j),H,I,rfl,q⟩
def CMul (i j:Int):Prop:=(-(2 ^ 64)<i/\i<2 ^ 64)∨(-(2 ^ 64)<j/\j<2 ^ 64)
theorem CMul.ok {i j:Int}(h:CMul i j):IntMulOk i j:=by
 rcases h with⟨h1,h2⟩|⟨h1,h2⟩
 ·exact .of_left (intBits_le_64 h1 h2)
 ·exact .of_right (intBits_le_64 h1 h2)
theorem wR:OpR X (binaryOp .Add) (rI0 λi j=>.int (i+j)):=zqi λ_ _ _ _ _ _ _ q=>add_int q
theorem zla:OpR X (binaryOp .Sub) (rI0 λi j=>.int (i - j)):=zqi λ_ _ _ _ _ _ _ q=>sub_int q
theorem zbr:OpR X (binaryOp .Mod) (rI (λ_ j=>0<j) λi j=>.int (i % j)):=opI λi j _ _ _ _ _ hc q=>by
 have h1:(0:Int)<j:=hc
 exact mod_int' (by omega) (by rw[Int.fmod_eq_emod_of_nonneg i (by omega)];exact q)
theorem unI {f:Value->Sem Value}{g:Int->Int}
  (rule:∀(i:Int) (t:Tok) (s:Shared) (Q:Value->Shared->Prop) (E:Value->Shared->Prop),Q (.int (g i) s.toks) {s with toks:=s.toks+1}->wpAny (model X.prog X.w) X.A (f (.int i t)) Q E s) :
  UnR X f (rU λi=>.int (g i)):=by
 intro pins s σ H x v Q I rx h
 obtain⟨i,rfl,q⟩:=h
 obtain⟨t,rfl⟩:=rx
 exact rule i t s _ _ ⟨.int (g i),H,I.tok _,⟨_,rfl⟩,q⟩
theorem zoO:UnR X (unaryOp .USub) (rU λi=>.int (-i)):=unI λ_ _ _ _ _ q=>neg_int q
end
section
variable {X:Cx}{a b c:Expr}{ta tb tc:TE}{pos:Pos}
theorem zes {pins:List (Addr×Obj)}{σ:St}{H:Hp}{s:Shared}{Q:VK}{k k':Bool}(I:Inv X pins σ H s)(q:Q (.bl k) H)(e:k=k'):EP X pins σ Q (.bool k') s:=by
 subst e
 exact⟨.bl k,H,I,rfl,q⟩
theorem zm7:OpR X (compareOp .Lt) (rI0 λi j=>.bl (decide (i<j))):=zqh λ_ _ _ _ _ _ _ q=>lt_int q
theorem zeF:OpR X (compareOp .LtE) (rI0 λi j=>.bl (decide (i<=j))):=zqh λ_ _ _ _ _ _ _ q=>le_int q
theorem ziA:OpR X (compareOp .Lt) (λx y H Q=>∃i j,x=.str i/\y=.str j/\Q (.bl (decide (i.cps.toList<j.cps.toList))) H):=by
 intro pins s σ H x y v u Q I rx ry h
 obtain⟨i,j,rfl,rfl,q⟩:=h
 obtain⟨t,rfl⟩:=rx
 obtain⟨t',rfl⟩:=ry
 exact lt_str (zes I q rfl)
theorem xJ (b:Expr){op:CmpOp}(h:op≠.In:=by decide)(h2:op≠.NotIn:=by decide):behindInMarks op b=false:=by
 have e1:(op == CmpOp.In)=false:=by cases op <;>first|rfl|exact absurd rfl h
 have e2:(op == CmpOp.NotIn)=false:=by cases op <;>first|rfl|exact absurd rfl h2
 cases b <;>simp[behindInMarks,e1,e2]
theorem zlF {op:CmpOp}{r:R2}(ho:OpR X (compareOp op) r)(ha:PE X a ta)(hb:PE X b tb)(hm:behindInMarks op b=false):PE X (.Compare a [op] [b] pos) (tOp r ta tb):=by
 intro pins s σ H Q I h
 exact wpAny_Compare1 (zpj ha hb I h λv u s2 x y H2 I2 rx ry q=>ho pins s2 σ H2 x y v u Q I2 rx ry q) hm
def znz (t:TE):TT:=λσ H Q=>t σ H λx H'=>∃k,x=.bl k/\Q k H'
theorem zit {op:CmpOp}{r:R2}(ho:OpR X (compareOp op) r)(ha:PE X a ta)(hb:PE X b tb)(hm:behindInMarks op b=false):PT X (.Compare a [op] [b] pos) (znz (tOp r ta tb)):=by
 intro pins s σ H Q I h
 refine wpAny_isTrue_Compare1 (thn (ha pins s σ H _ I h) λv s1 ⟨x,H1,I1,r1,q1⟩=>thn (hb pins s1 σ H1 _ I1 q1) λu s2 ⟨y,H2,I2,r2,q2⟩ =>
  thn (ho pins s2 σ H2 x y v u _ I2 r1 r2 q2) λc s3 ⟨z,H3,I3,r3,k,e,q3⟩=>?_) hm
 subst e
 cases r3
 exact laJ ⟨H3,I3,q3⟩
def zix (r r':R2)(ta tb tc:TE):TE:=λσ H Q=>ta σ H λx H1=>tb σ H1 λy H2=>r x y H2 λz H3=>∃k,z=.bl k /\
 (if k=true then tc σ H3 λw' H4=>r' y w' H4 Q else Q (.bl false) H3)
theorem zkg {op op':CmpOp}{r r':R2}(ho:OpR X (compareOp op) r)(ho':OpR X (compareOp op') r')(ha:PE X a ta)(hb:PE X b tb)(hc:PE X c tc)
  (hm:lastMarks [op,op'] [b,c]=false:=by with_unfolding_all rfl):PE X (.Compare a [op,op'] [b,c] pos) (zix r r' ta tb tc):=by
 intro pins s σ H Q I h
 refine Compare_chain (thn (ha pins s σ H _ I h) λv s1 ⟨x,H1,I1,r1,q1⟩=>chain_link (thn (hb pins s1 σ H1 _ I1 q1) λu s2 ⟨y,H2,I2,r2,q2⟩ =>
  thn (ho pins s2 σ H2 x y v u _ I2 r1 r2 q2) λd s3 ⟨z,H3,I3,r3,k,e,q3⟩=>?_)) hm
 subst e
 cases r3
 refine laJ ?_
 cases k with
 | false=>exact ite_ff ⟨.bl false,H3,I3,rfl,q3⟩
 | true=>exact ite_tt (chain_last (thn (hc pins s3 σ H3 _ I3 q3) λw' s4 ⟨z',H4,I4,r4,q4⟩=>ho' pins s4 σ H4 y z' u w' Q I4 r2 r4 q4))
theorem zjU {op op':CmpOp}{r r':R2}(ho:OpR X (compareOp op) r)(ho':OpR X (compareOp op') r')(ha:PE X a ta)(hb:PE X b tb)(hc:PE X c tc)
  (hm:lastMarks [op,op'] [b,c]=false:=by with_unfolding_all rfl):PT X (.Compare a [op,op'] [b,c] pos) (znz (zix r r' ta tb tc)):=by
 intro pins s σ H Q I h
 refine isTrue_chain (thn (ha pins s σ H _ I h) λv s1 ⟨x,H1,I1,r1,q1⟩=>test_link (thn (hb pins s1 σ H1 _ I1 q1) λu s2 ⟨y,H2,I2,r2,q2⟩ =>
  thn (ho pins s2 σ H2 x y v u _ I2 r1 r2 q2) λd s3 ⟨z,H3,I3,r3,k,e,q3⟩=>?_)) hm
 subst e
 cases r3
 refine laJ ?_
 cases k with
 | false =>
  obtain⟨k',e',q'⟩:=q3
  cases e'
  exact ite_ff ⟨H3,I3,q'⟩
 | true =>
  refine ite_tt (test_last (thn (hc pins s3 σ H3 _ I3 q3) λw' s4 ⟨z',H4,I4,r4,q4⟩=>thn (ho' pins s4 σ H4 y z' u w' _ I4 r2 r4 q4) λd' s5 zo5=>?_))
  obtain⟨z2,H5,I5,r5,k2,e2,q5⟩:=zo5
  subst e2
  cases r5
  exact laJ ⟨H5,I5,q5⟩
theorem zgm:(sizeLine:Nat)<2 ^ 63:=by rw[lbm];decide
theorem zhf:OpR X (binaryOp .Add) (λx y H Q=>∃i j,x=.str i/\y=.str j/\i.length+j.length<=sizeLine/\Q (.str (i++j)) H):=by
 intro pins s σ H x y v u Q I rx ry h
 obtain⟨i,j,rfl,rfl,hz,q⟩:=h
 obtain⟨t,rfl⟩:=rx
 obtain⟨t',rfl⟩:=ry
 exact add_str (λt' tk=>⟨.str (i++j),H,I.tok _,⟨_,rfl⟩,q⟩) hz
theorem vals1 {x:V}{us:List Value}(r:Vals [x] us):∃u,us=[u]/\RelV x u:=by
 cases r with
 | cons r1 r2=>cases r2;exact⟨_,rfl,r1⟩
theorem vals2 {x y:V}{us:List Value}(r:Vals [x,y] us):∃u w',us=[u,w']/\RelV x u/\RelV y w':=by
 cases r with
 | cons r1 r2 =>
  cases r2 with
  | cons r3 r4=>cases r4;exact⟨_,_,rfl,r1,r3⟩
theorem zi0 (hc:X.calm=true):jb X (.builtin "max") (λxs H Q=>∃i j,xs=[.int i,.int j]/\Q (.int (if j > i then j else i)) H):=by
 intro pins s σ H xs us Q I r h
 obtain⟨i,j,rfl,q⟩:=h
 obtain⟨u,w',rfl,⟨t,rfl⟩,⟨t',rfl⟩⟩:=vals2 r
 refine max_two_ints (I.ok.hd hc) λh' tk k=>⟨_,H,I.kept k,?_,q⟩
 by_cases hj:j > i
 ·rw[lB hj,lB hj];exact⟨_,rfl⟩
 ·rw[lW hj,lW hj];exact⟨_,rfl⟩
theorem zeA (hc:X.calm=true):jb X (.builtin "min") (λxs H Q=>∃i j,xs=[.int i,.int j]/\Q (.int (if j<i then j else i)) H):=by
 intro pins s σ H xs us Q I r h
 obtain⟨i,j,rfl,q⟩:=h
 obtain⟨u,w',rfl,⟨t,rfl⟩,⟨t',rfl⟩⟩:=vals2 r
 refine min_two_ints (I.ok.hd hc) λh' tk k=>⟨_,H,I.kept k,?_,q⟩
 by_cases hj:j<i
 ·rw[lB hj,lB hj];exact⟨_,rfl⟩
 ·rw[lW hj,lW hj];exact⟨_,rfl⟩
theorem ze6:jb X (.type "str") (λxs H Q=>∃i,xs=[.int i]/\i.natAbs.log2<1920/\Q (.str (toString i)) H):=by
 intro pins s σ H xs us Q I r h
 obtain⟨i,rfl,hz,q⟩:=h
 obtain⟨u,rfl,t,rfl⟩:=vals1 r
 exact PySem.P.str_of_int hz ⟨.str _,H,I.tok _,⟨_,rfl⟩,q⟩
def zp3 (K:PySem.W.Frag)(x:V)(H:Hp)(n:Nat):Prop :=
 match x with
 | .str y=>y.length<=sizeLine/\n=y.length
 | .byt y=>y.size<=sizeLine/\n=y.size
 | .ref p=>(∃xs,SqL K H p xs/\n=xs.length)∨∃xs,SqT K H p xs/\n=xs.length
 | _=>False
theorem yN:jb X (.builtin "len") (λxs H Q=>∃x n,xs=[x]/\zp3 X.K x H n/\Q (.int n) H):=by
 intro pins s σ H xs us Q I r h
 obtain⟨x,n,rfl,e,q⟩:=h
 obtain⟨u,rfl,rx⟩:=vals1 r
 have hl:=zgm
 have hs:sizeLine=16777216:=lbm
 cases x with
 | str y =>
  obtain⟨t,rfl⟩:=rx
  obtain⟨hy,e'⟩:y.length<=sizeLine/\n=y.length:=e
  subst e'
  exact len_str (by omega) ⟨.int _,H,I.tok _,⟨_,rfl⟩,q⟩
 | byt y =>
  obtain⟨t,rfl⟩:=rx
  obtain⟨hy,e'⟩:y.size<=sizeLine/\n=y.size:=e
  subst e'
  exact PySem.W.len_bytes (by omega) ⟨.int _,H,I.tok _,⟨_,rfl⟩,q⟩
 | ref p =>
  cases rx
  have e':(∃xs,SqL X.K H p xs/\n=xs.length)∨∃xs,SqT X.K H p xs/\n=xs.length:=e
  rcases e' with⟨xs,hx,e'⟩|⟨xs,hx,e'⟩
  ·subst e'
   obtain⟨its,r',pl,hz⟩:=I.list hx
   have hlen:=r'.length
   exact Calls.call_len_list pl.isList (by simp only[lG];omega) ⟨.int xs.length,H,I.tok _,⟨_,by simp only[lG];rw[hlen]⟩,q⟩
  ·subst e'
   obtain⟨its,r',pl,hz⟩:=I.tuple hx
   have hlen:=r'.length
   exact len_tuple pl (by simp only[lG];omega) ⟨.int xs.length,H,I.tok _,⟨_,by simp only[lG];rw[hlen]⟩,q⟩
 | _=>exact(show False from e).elim
end
structure ObjM (h:Heap)(x dx C:Addr)(mA:Str->Option Value):Prop where
 obj:h.get? x=some (PySem.W.instObj C dx)
 ns:h.Ns1 dx mA
 ne:dx≠x
theorem ziq {h:Heap}{dx:Addr}{mA:Str->Option Value}(n:h.Ns1 dx mA):∃od,h.get? dx=some od/\∀name,PySem.W.lookIn name od=some (mA name):=by
 obtain⟨o,es,ep,ho,hd,hk,_,hm⟩:=n
 refine⟨o,ho,λname=>?_⟩
 have e:=hm name
 unfold nsFind findBy at e
 rw[← Array.find?_toList] at e
 unfold PySem.W.lookIn
 rw[hd]
 dsimp only
 split
 ·rename_i y q
  rw[q] at e
  exact lbd some e
 ·rename_i q
  rw[q] at e
  have a:es.toList.any (·.refKey)=false:=by
   rw[List.any_eq_false]
   intro y hy
   obtain⟨z,t,hkey⟩:=hk y (Array.mem_toList_iff.mp hy)
   simp[DictEntry.refKey,hkey]
  have a':¬es.toList.any (·.refKey)=true:=by rw[a];exact lv
  rw[lW a']
  exact lbd some e
theorem ObjM.look {h:Heap}{x dx C:Addr}{mA:Str->Option Value}(I:ObjM h x dx C mA):∃od,PySem.W.InstAt h x (PySem.W.instObj C dx) C (some od)/\∀name,PySem.W.lookIn name od=some (mA name) :=
 let ⟨od,ho,hl⟩:=ziq I.ns
 ⟨od,⟨I.obj,rfl,rfl,ho⟩,hl⟩
section
variable {prog:Program}{w:World}{A:Around}{E:Value->Shared->Prop}{s:Shared}{K:PySem.W.Frag}{x dx C f:Addr}{mA:Str->Option Value}{name:Str}{v:Value}
theorem get_map {expr:Bool}{Q:Value->Shared->Prop}(X:K.In s.heap)(I:ObjM s.heap x dx C mA)(hg:PySem.W.plainGet K C name=true)(hh:PySem.W.hasDictIn K C=true)
  (ha:PySem.W.findIn K (.ref C) name=some none) (hv:mA name=some v) (hv':PySem.W.handedIn v=true) (h:Q v {s with toks:=s.toks+1}) :
  wpAny (model prog w) A (getAttr (.ref x) name expr) Q E s:=by
 obtain⟨od,J,hl⟩:=I.look
 exact PySem.W.get_value X J (lcP hg).1 (PySem.W.findObj_own hh ha rfl (by rw[hl,hv])) hv' h
theorem zkb {pl:Sem Bool}{Q:Value×List Value->Shared->Prop}(X:K.In s.heap)(I:ObjM s.heap x dx C mA)(hg:PySem.W.plainGet K C name=true)
  (hf:PySem.W.findIn K (.ref C) name=some (some (.ref f))) (ht:PySem.W.isFn K (.ref f)=true) (hv:mA name=none) (h:Q (.ref f,[.ref x]) s) :
  wpAny (model prog w) A (getMethod (.ref x) name pl) Q E s:=by
 obtain⟨od,J,hl⟩:=I.look
 exact PySem.W.method_fn X J (lcP hg).1 (lcP hg).2 hf (lbO.mp ht) (by show(PySem.W.lookIn name od).map (·.isSome)=some false;rw[hl,hv];rfl) h
theorem zlJ {ns:List Str}{Q:Unit->Shared->Prop}(X:K.In s.heap)(I:ObjM s.heap x dx C mA)
  (hs:PySem.W.findIn K (.ref C) "__setattr__" = some (some (.builtin "object.__setattr__"))) (hp:PySem.W.plainOver K C=true) (ht:PySem.W.takerIn K C name=some none) (hh:PySem.W.hasDictIn K C=true)
  (hw:PySem.Within mA ns) (hsz:ns.length<=sizeLine)
  (h:∀h',ObjM h' x dx C (λy=>if y=name then some v else mA y)->Heap.SameBut dx s.heap h'->Q () {s with heap:=h',toks:=s.toks+2}) :
  wpAny (model prog w) A (setAttr (.ref x) name v) Q E s:=by
 obtain⟨od,J,hl⟩:=I.look
 refine PySem.W.set_plain X J hs (PySem.W.osa_open (s:={s with toks:=s.toks+1}) (r:=none) X J hp ht λb=>?_)
 obtain⟨cd,hc,hd'⟩:=PySem.W.any_some hh
 have hx:s.heap.get? x=some ⟨.ref C,some dx,.plain,#[]⟩:=I.obj
 refine la (lj (la (la (wpAny_loadPart hx (la (PySem.W.Looks.here (s:={s with toks:=s.toks+1}) (PySem.W.looks_clsIn X hc) ?_))))))
 rw[hd']
 refine lj (a:=some dx) (la (lj (la ?_)))
 refine wpAny_nsSet1 (s:={s with toks:=s.toks+1}) I.ns λh' hn2 hs2=>?_
 obtain⟨oD,esD,epD,hoD,hdD,hcD⟩:=hn2.count (PySem.Within.cons name v hw)
 refine la (wpAny_lookBehind hoD (by rw[hdD];exact pastItsLine_dict (lX hcD (by rw[lF];omega))) ?_)
 exact lj (h _ ⟨(hs2.2 _ (la9 I.ne)).trans I.obj,hn2,I.ne⟩ hs2)
theorem zkx {R:Result->Shared->Prop}{vs:List Value}{kw:List (Str×Value)}(X:K.In s.heap)(hm:PySem.W.makesIn K C=true)
  (hi:PySem.W.findIn K (.ref C) "__init__" = some (some (.ref f))) (hf:PySem.W.typeIn K (.ref f)=some (.type "function"))
  (h:codeAny (model prog w) (A.under (.builtin "type.__call__" ⟨.ref C::vs,kw⟩)) (.call (.ref f) ⟨.ref (s.heap.objs.size+1)::vs,kw⟩) (PySem.W.InitBack (s.heap.objs.size+1) R)
   {s with heap:=(s.heap.push PySem.W.emptyDict).push (PySem.W.instObj C s.heap.objs.size)}) :
  codeAny (model prog w) A (.call (.ref C) ⟨vs,kw⟩) R s:=by
 obtain⟨hh,g,d,t,os⟩:=s
 exact PySem.W.make_core (PySem.W.makes_of X hm) (lb5 X hi) (λself=>PySem.W.bind_fn X self hf) (.inl rfl) h
end
def zc9 (f:Str)(v:V):List (Str×V)->List (Str×V)
 | []=>[(f,v)]
 | (g,x)::r=>if g=f then(g,v)::r else(g,x)::zc9 f v r
theorem zcx (f g:Str)(v:V):∀fs:List (Str×V),(zc9 f v fs).lookup g=if g=f then some v else fs.lookup g
 | []=>by
  show List.lookup g [(f,v)]=_
  by_cases h:g=f
  ·have hb:(g == f)=true:=lbO.mpr h
   simp only[List.lookup,hb,lB h]
  ·have hb:(g == f)=false:=lbl.mpr h
   simp only[List.lookup,hb,lW h]
 | (k,x)::r=>by
  have ih:=zcx f g v r
  rw[show zc9 f v ((k,x)::r)=(if k=f then(k,v)::r else(k,x)::zc9 f v r) from rfl]
  by_cases hk:k=f
  ·rw [lB hk]
   by_cases h:g=k
   ·have hb:(g == k)=true:=lbO.mpr h
    simp only[List.lookup,hb,lB (h.trans hk)]
   ·have hb:(g == k)=false:=lbl.mpr h
    simp only[List.lookup,hb,lW (λe:g=f=>h (e.trans hk.symm))]
  ·rw [lW hk]
   by_cases h:g=k
   ·have hb:(g == k)=true:=lbO.mpr h
    simp only[List.lookup,hb,lW (λe:g=f=>hk (h.symm.trans e))]
   ·have hb:(g == k)=false:=lbl.mpr h
    simp only[List.lookup,hb]
    exact ih
theorem zbS (f:Str)(v:V):∀fs:List (Str×V),f∈(zc9 f v fs).map (·.1)/\∀g,g∈fs.map (·.1)->g∈(zc9 f v fs).map (·.1)
 | []=>⟨by simp[zc9],λg h=>by simp at h⟩
 | (k,x)::r=>by
  obtain⟨i1,i2⟩:=zbS f v r
  rw[show zc9 f v ((k,x)::r)=(if k=f then(k,v)::r else(k,x)::zc9 f v r) from rfl]
  by_cases hk:k=f
  ·rw[lB hk]
   subst hk
   exact⟨by simp,λg h=>by simpa using h⟩
  ·rw [lW hk]
   refine⟨?_,λg h=>?_⟩
   ·rw[lC]
    exact lK _ i1
   ·rw[lC] at h ⊢
    rcases lz.mp h with e|e
    ·exact lz.mpr (.inl e)
    ·exact lK _ (i2 g e)
theorem zcv (f:Str)(v:V):∀fs:List (Str×V),(zc9 f v fs).length<=fs.length+1
 | []=>by simp[zc9]
 | (k,x)::r=>by
  have ih:=zcv f v r
  rw[show zc9 f v ((k,x)::r)=(if k=f then(k,v)::r else(k,x)::zc9 f v r) from rfl]
  by_cases hk:k=f
  ·rw[lB hk,lF,lF];omega
  ·rw[lW hk,lF,lF];omega
theorem RelO.some_of {v:V}{o:Option Value}(r:RelO (some v) o):∃u,o=some u/\RelV v u:=by
 cases o with
 | none=>exact(show False from r).elim
 | some u=>exact⟨u,rfl,r⟩
theorem RelO.none_of {o:Option Value}(r:RelO none o):o=none:=by
 cases o with
 | none=>rfl
 | some u=>exact(show False from r).elim
theorem ziv {v:V}{u:Value}(r:RelV v u):PySem.W.handedIn u=true:=by
 cases v with
 | non=>cases (show u=Value.none from r);rfl
 | bl b=>cases (show u=Value.bool b from r);rfl
 | int i=>obtain⟨t,e⟩:=(show ∃t,u=Value.int i t from r);cases e;rfl
 | str x=>obtain⟨t,e⟩:=(show ∃t,u=Value.str x t from r);cases e;rfl
 | byt b=>obtain⟨t,e⟩:=(show ∃t,u=Value.bytes b t from r);cases e;rfl
 | flt b=>obtain⟨t,e⟩:=(show ∃t,u=Value.float b t from r);cases e;rfl
 | ref a=>cases (show u=Value.ref a from r);rfl
 | ty n=>cases (show u=Value.type n from r);rfl
section
variable {P:Program}{w:World}{H H':Hp}{h h':Heap}{a C dx:Addr}{fs fs':List (Str×V)}
theorem zfR (hok:HOk P w H h)(e:H a=some (.ins C dx fs)):∃mA,ObjM h a dx C mA/\(∀f,RelO (fs.lookup f) (mA f))/\PySem.Within mA (fs.map (·.1))/\fs.length<=1000/\H dx=some (.own a):=by
 obtain⟨d,z,ne,ob,mA,n,r,q⟩:=(show ObjOk P w H h a (.ins C dx fs) from hok a _ e)
 exact⟨mA,⟨ob,n,ne⟩,r,q,z,d⟩
end
structure Cls (K:PySem.W.Frag)(C:Addr):Prop where
 pg:PySem.W.plainGet K C Str.empty=true
 hd:PySem.W.hasDictIn K C=true
 po:PySem.W.plainOver K C=true
 sa:PySem.W.findIn K (.ref C) "__setattr__" = some (some (.builtin "object.__setattr__"))
theorem Cls.get {K:PySem.W.Frag}{C:Addr}(c:Cls K C)(f:Str):PySem.W.plainGet K C f=true:=c.pg
def NoAttr (K:PySem.W.Frag)(C:Addr)(f:Str):Prop:=PySem.W.findIn K (.ref C) f=some none
theorem NoAttr.taker {K:PySem.W.Frag}{C:Addr}{f:Str}(n:NoAttr K C f):PySem.W.takerIn K C f=some none:=by
 unfold PySem.W.takerIn
 rw[show PySem.W.findIn K (.ref C) f=some none from n]
 rfl
structure Meth (K:PySem.W.Frag)(C:Addr)(m:Str)(f:Addr):Prop where
 at_:PySem.W.findIn K (.ref C) m=some (some (.ref f))
 fn:PySem.W.isFn K (.ref f)=true
 kp:PySem.W.keepIn K (.ref f)=true
section
variable {X:Cx}{pins:List (Addr×Obj)}{σ:St}{H:Hp}{s:Shared}{a C dx:Addr}{fs:List (Str×V)}{f:Str}{v:V}{A:Around}{E:Value->Shared->Prop}
theorem zhn {b:Bool}{Q:Value->Shared->Prop}(I:Inv X pins σ H s)(e:H a=some (.ins C dx fs))(c:Cls X.K C)(n:NoAttr X.K C f)(l:fs.lookup f=some v)
  (h:∀u s',Inv X pins σ H s'->RelV v u->Q u s'):wpAny (model X.prog X.w) A (getAttr (.ref a) f b) Q E s:=by
 obtain⟨mA,O,r,_,_,_⟩:=zfR I.hok e
 obtain⟨u,hu,ru⟩:=RelO.some_of (v:=v) (o:=mA f) (by rw[← l];exact r f)
 exact get_map I.kIn O (c.get f) c.hd n hu (ziv ru) (h u _ (I.tok _) ru)
theorem jJ {m:Str}{g:Addr}{pl:Sem Bool}{Q:Value×List Value->Shared->Prop}(I:Inv X pins σ H s)(e:H a=some (.ins C dx fs))(c:Cls X.K C)(k:Meth X.K C m g)(l:fs.lookup m=none)
  (h:Q (.ref g,[.ref a]) s):wpAny (model X.prog X.w) A (getMethod (.ref a) m pl) Q E s:=by
 obtain⟨mA,O,r,_,_,_⟩:=zfR I.hok e
 have hn:mA m=none:=RelO.none_of (by rw[← l];exact r m)
 exact zkb I.kIn O (c.get m) k.at_ k.fn hn h
theorem zht {y:V}{u:Value}{Q:Unit->Shared->Prop}(I:Inv X pins σ H s)(e:H a=some (.ins C dx fs))(c:Cls X.K C)(n:NoAttr X.K C f)(hl:fs.length<1000)(ry:RelV y u)
  (h:∀s',Inv X pins σ (upd H a (.ins C dx (zc9 f y fs))) s'->Q () s'):wpAny (model X.prog X.w) A (setAttr (.ref a) f u) Q E s:=by
 obtain⟨mA,O,r,wi,_,ho⟩:=zfR I.hok e
 have hz:(fs.map (·.1)).length<=sizeLine:=by rw[ly,lbm];omega
 refine zlJ I.kIn O c.sa c.po n.taker c.hd wi hz λh' O' sb=>h _ ?_
 have hd:∃o,h'.get? dx=some o:=let ⟨o,_,_,e',_⟩:=O'.ns;⟨o,e'⟩
 refine I.write (x:=a) (e:=dx) (by rw[e];exact True.intro) (.inr ho) (λb q hb z=>(sb.2 b hb).trans z) hd ?_
 refine⟨by rw[zF O.ne];exact ho,?_,O.ne,O'.obj,_,O'.ns,λg=>?_,λg hg=>?_⟩
 ·have:=zcv f y fs;omega
 ·show RelO ((zc9 f y fs).lookup g) (if g=f then some u else mA g)
  rw[zcx]
  by_cases q:g=f
  ·rw[lB q,lB q];exact ry
  ·rw[lW q,lW q];exact r g
 ·by_cases q:g=f
  ·rw[q];exact(zbS f y fs).1
  ·refine(zbS f y fs).2 g (wi g λz=>hg ?_)
   show(if g=f then some u else mA g)=none
   rw[lW q];exact z
theorem Inv.made (I:Inv X pins σ H s):Inv X pins σ (upd (upd H s.heap.objs.size (.own (s.heap.objs.size+1))) (s.heap.objs.size+1) (.ins C s.heap.objs.size []))
  {s with heap:=(s.heap.push PySem.W.emptyDict).push (PySem.W.instObj C s.heap.objs.size)}:=by
 have e1:(s.heap.push PySem.W.emptyDict).get? s.heap.objs.size=some PySem.W.emptyDict:=lx s.heap rfl
 have e2:((s.heap.push PySem.W.emptyDict).push (PySem.W.instObj C s.heap.objs.size)).get? (s.heap.objs.size+1)=some (PySem.W.instObj C s.heap.objs.size):=by
  have:=lx (s.heap.push PySem.W.emptyDict) (o:=PySem.W.instObj C s.heap.objs.size) rfl
  rwa [lag] at this
 have e3:(s.heap.push PySem.W.emptyDict).Ns s.heap.objs.size (λ_=>none):=⟨PySem.W.emptyDict,#[],_,e1,rfl,(λe he=>absurd he (by simp)),λ_=>rfl⟩
 have I1:=I.laid (a:=s.heap.objs.size) (o:=.own (s.heap.objs.size+1)) (h':=s.heap.push PySem.W.emptyDict) (t':=s.toks) (λb u q=>lb _ q) (lp _) ⟨_,e1⟩
 refine I1.laid (a:=s.heap.objs.size+1) (o:=.ins C s.heap.objs.size []) (t':=s.toks) (λb u q=>lb _ q) (ldg (lag _ _)) ?_
 have ne:s.heap.objs.size≠s.heap.objs.size+1:=lU (lcG _)
 refine⟨by rw[zF ne,zK],la2 _,ne,e2,λ_=>none,(Heap.Ns1.of_empty e3).at λo q=>lb _ q,λ_=>True.intro,λy hy=>absurd rfl hy⟩
theorem zmO {prog:Program}{w:World}{env:Env}{e:Expr}{f:Str}{pos:Pos}{s:Shared}{Q:Value->Shared->Prop}(hb:attributeBase e f env (eval e env)=eval e env)
  (h:wpAny (model prog w) A (eval e env) (λo s₁=>wpAny (model prog w) A (getAttr o f true) Q E s₁) E s):wpAny (model prog w) A (eval (.Attribute e f pos) env) Q E s :=
 Attribute_any_ h (by rw[arm_eval_Attribute,hb])
end
def zp0 (K:PySem.W.Frag)(ta:TE)(f:Str):TE:=λσ H Q=>ta σ H λx H1=>∃a C dx fs v,x=.ref a/\H1 a=some (.ins C dx fs)/\Cls K C/\NoAttr K C f/\fs.lookup f=some v/\Q v H1
def zqS (K:PySem.W.Frag)(ta tv:TE)(f:Str):TS:=λD σ H=>tv σ H λy H1=>ta σ H1 λx H2=>∃a C dx fs,x=.ref a/\H2 a=some (.ins C dx fs)/\Cls K C/\NoAttr K C f/\fs.length<1000 /\
 D.nx σ (upd H2 a (.ins C dx (zc9 f y fs)))
section
variable {X:Cx}{o e value:Expr}{f:Str}{pos pos' tpos:Pos}{ta tv:TE}
theorem zk6 (he:PE X e ta)(hb:attributeBase e f X.env (eval e X.env)=eval e X.env):PE X (.Attribute e f pos) (zp0 X.K ta f):=by
 intro pins s σ H Q I h
 refine zmO hb (thn (he pins s σ H _ I h) λu s1 zn0=>?_)
 obtain⟨x,H1,I1,rx,a,C,dx,fs,v,ex,ea,c,n,l,q⟩:=zn0
 subst ex
 obtain rfl:u=Value.ref a:=rx
 exact zhn I1 ea c n l λu' s2 I2 ru=>⟨v,H1,I2,ru,q⟩
theorem zkT (ha:PE X o ta)(hv:PE X value tv)(hs:swapsWith value (some (.Attribute o f pos')) pos.line X.env=pure false):PS X (.Assign [.Attribute o f pos'] value pos) (zqS X.K ta tv f):=by
 intro pins s σ H D I h
 refine plainObj_wpAny_Assign_Attribute (thn (hv pins s σ H _ I h) λu s1 ⟨y,H1,I1,ry,q⟩=>thn (ha pins s1 σ H1 _ I1 q) λov s2 ⟨x,H2,I2,rx,a,C,dx,fs,ex,ea,c,n,l,q2⟩=>?_) hs
 subst ex
 obtain rfl:ov=Value.ref a:=rx
 exact zht I2 ea c n l ry λs3 I3=>⟨σ,_,I3,q2⟩
end
structure Room (k:Nat)(A:Around):Prop where
 hd:A.handled=none
 dp:A.depth+3*k+5<recursionLimit
 un:A.units+16*k+200<cLine
theorem Room.mono {j k:Nat}{A:Around}(r:Room k A)(h:j<=k):Room j A:=⟨r.hd,by have:=r.dp;omega,by have:=r.un;omega⟩
theorem Room.deeper {k:Nat}{A:Around}(r:Room (k+1) A)(env:Env):Room k (A.deeper env) :=
 ⟨r.hd,by have:=r.dp;show A.depth+1+3*k+5<_;omega,by have:=r.un;show A.units+3+16*k+200<_;omega⟩
theorem Room.in1 {k:Nat}{A:Around}(r:Room (k+1) A):Room k A.in1 :=
 ⟨r.hd,by have:=r.dp;show A.depth+3*k+5<_;omega,by have:=r.un;show A.units+1+16*k+200<_;omega⟩
theorem zhh {A:Around}{C:Addr}{us:List Value}{kw:List (Str×Value)}:(A.under (.builtin "type.__call__" ⟨.ref C::us,kw⟩)).depth=A.depth+1:=by
 first|rfl|simp[Around.under,Code.weight,Code.isCreation,Code.isGuard,Code.isCaller,Code.frames,Code.isFrame,guardIds]
theorem zhe {A:Around}{C:Addr}{us:List Value}{kw:List (Str×Value)}:(A.under (.builtin "type.__call__" ⟨.ref C::us,kw⟩)).units=A.units+1:=by
 first|rfl|simp[Around.under,Code.cUnits,Code.frames,Code.isFrame]
theorem Room.make {k:Nat}{A:Around}(r:Room (k+1) A)(C:Addr)(us:List Value)(kw:List (Str×Value)):Room k (A.under (.builtin "type.__call__" ⟨.ref C::us,kw⟩)) :=
 ⟨r.hd,by have:=r.dp;rw[zhh];omega,by have:=r.un;rw[zhe];omega⟩
theorem Room.depth {k:Nat}{A:Around}(r:Room k A):A.depth<recursionLimit:=by have:=r.dp;omega
theorem Room.units {k:Nat}{A:Around}(r:Room k A):A.units+64<cLine:=by have:=r.un;omega
def zmh:TA:=λ_ H Q=>Q [] H
def zbD (ta:TE)(tr:TA):TA:=λσ H Q=>ta σ H λx H1=>tr σ H1 λxs H2=>Q (x::xs) H2
section
variable {X:Cx}{e:Expr}{es:List Expr}{te:TE}{t:TA}{pos:Pos}
theorem vp:PA X [] zmh:=λ_ _ _ _ H Q I h=>Calls.spliced_nil ⟨[],H,I,.nil,h⟩
theorem yJ (ha:PE X e te)(hr:PA X es t)(hs:starEach (e::es) X.env=(false,eval e X.env)::starEach es X.env:=by rfl):PA X (e::es) (zbD te t):=by
 intro pos pins s σ H Q I h
 rw[hs]
 show wpAny _ _ (spliced ((false,eval e X.env)::backTo pos (starEach es X.env))) _ _ s
 refine Calls.spliced_cons (thn (ha pins s σ H _ I h) λu s1 zk8=>?_)
 obtain⟨x,H1,I1,r1,q1⟩:=zk8
 exact thn (hr pos pins s1 σ H1 _ I1 q1) λus s2 ⟨xs,H2,I2,r2,q2⟩=>⟨x::xs,H2,I2,.cons r1 r2,q2⟩
def zqB (t:TA):TE:=λσ H Q=>t σ H λxs H1=>xs.length<=sizeLine/\∀p,H1 p=none->Q (.ref p) (upd H1 p (.tup xs))
def zqR (t:TA):TE:=λσ H Q=>t σ H λxs H1=>xs.length<=sizeLine/\∀p,H1 p=none->Q (.ref p) (upd H1 p (.lst xs))
theorem zlb {x1}(h:PA X es t):PE X (.Tuple es x1 pos) (zqB t):=by
 intro pins s σ H Q I hq
 refine wpAny_Tuple_spliced (thn (h pos pins s σ H _ I hq) λus s1 ⟨xs,H1,I1,r,z,q⟩=>⟨by rw[← r.length];exact z,?_⟩)
 have hf:H1 s1.heap.objs.size=none:=I1.hok.fresh (lp _)
 refine⟨.ref s1.heap.objs.size,upd H1 s1.heap.objs.size (.tup xs),I1.laid (t':=s1.toks) (λb u e=>lb _ e) (lp _) ?_,rfl,q _ hf⟩
 exact⟨z,us,r,TupD.new _ _⟩
theorem ziD (h:PA X es t):PE X (.List es pos) (zqR t):=by
 intro pins s σ H Q I hq
 refine wpAny_List_spliced (thn (h pos pins s σ H _ I hq) λus s1 ⟨xs,H1,I1,r,z,q⟩=>⟨by rw[← r.length];exact z,?_⟩)
 have hf:H1 s1.heap.objs.size=none:=I1.hok.fresh (lp _)
 refine⟨.ref s1.heap.objs.size,upd H1 s1.heap.objs.size (.lst xs),I1.laid (t':=s1.toks) (λb u e=>lb _ e) (lp _) ?_,rfl,q _ hf⟩
 exact⟨z,us,0,r,lx _ rfl⟩
end
abbrev Sp:=List V->Hp->VK->XK->Prop
abbrev CXT:=List Env->Hp->Shared->XK->Value->Shared->Prop
structure Env0 (P:Program)(w:World)(K:PySem.W.Frag)(mg:Str->Option Value)(base:Heap)(A:Around)(outer:List Env)(s:Shared)(H:Hp):Prop where
 frames:A.frames=some outer
 mod:Mod K mg base
 bs:∀b o,base.get? b=some o->s.heap.get? b=some o/\H b=none
 bsz:base.objs.size<=s.heap.objs.size
 funs:s.heap.FunFrames base outer
 frf:∀b∈frs outer,H b=none
 hok:HOk P w H s.heap
 bare:AllBare s.gens
def CE (outer:List Env)(P:Program)(w:World)(H:Hp)(s:Shared)(Q:VK)(u:Value)(s':Shared):Prop :=
 ∃v H',s'.os=s.os/\AllBare s'.gens/\Un (frs outer) [] H H' s.heap s'.heap/\HOk P w H' s'.heap/\RelV v u/\Q v H'
def CR (CX:CXT)(outer:List Env)(P:Program)(w:World)(H:Hp)(s:Shared)(Q:VK)(E:XK)(r:Result)(s':Shared):Prop :=
 match r with
 | .ok (.ret u)=>CE outer P w H s Q u s'
 | .ok _=>False
 | .error e=>CX outer H s E e s'
structure FnOk (P:Program)(w:World)(K:PySem.W.Frag)(mg:Str->Option Value)(base:Heap)(CX:CXT)(k:Nat)(f:Addr)(fd:FuncData)(ps:List Str)(sp:Sp):Prop where
 len:∀vs H Q E,sp vs H Q E->vs.length=ps.length
 run:∀(A:Around) (outer:List Env) (s:Shared) (H:Hp) (args:Args) (us:List Value) (vs:List V) (Q:VK) (E:XK),Room k A->Env0 P w K mg base A outer s H->BindsTo s fd args (ps.zip us)->Vals vs us->sp vs H Q E ->
  codeAny (model P w) A (.call (.ref f) args) (CR CX outer P w H s Q E) s
theorem FnOk.mono {P:Program}{w:World}{K:PySem.W.Frag}{mg:Str->Option Value}{base:Heap}{CX:CXT}{j k:Nat}{f:Addr}{fd:FuncData}{ps:List Str}{sp:Sp}(F:FnOk P w K mg base CX j f fd ps sp)(h:j<=k) :
  FnOk P w K mg base CX k f fd ps sp:=⟨F.len,λA outer s H args us vs Q E hr=>F.run A outer s H args us vs Q E (hr.mono h)⟩
theorem Env0.make {P:Program}{w:World}{K:PySem.W.Frag}{mg:Str->Option Value}{base:Heap}{A:Around}{outer:List Env}{s:Shared}{H:Hp}(e:Env0 P w K mg base A outer s H)(C:Addr)(us:List Value)(kw:List (Str×Value)) :
  Env0 P w K mg base (A.under (.builtin "type.__call__" ⟨.ref C::us,kw⟩)) outer s H:=⟨by first|exact e.frames|(simpa [Around.under,Code.envs,Code.isFrame,pushEnvs] using e.frames),e.mod,e.bs,e.bsz,e.funs,e.frf,e.hok,e.bare⟩
theorem Env0.in1 {P:Program}{w:World}{K:PySem.W.Frag}{mg:Str->Option Value}{base:Heap}{A:Around}{outer:List Env}{s:Shared}{H:Hp}(e:Env0 P w K mg base A outer s H) :
  Env0 P w K mg base A.in1 outer s H:=⟨e.frames,e.mod,e.bs,e.bsz,e.funs,e.frf,e.hok,e.bare⟩
section
variable {X:Cx}{pins:List (Addr×Obj)}{σ:St}{H:Hp}{s s':Shared}
theorem Inv.env0 (I:Inv X pins σ H s):Env0 X.prog X.w X.K X.mg X.base X.A X.stack s H :=
 ⟨I.ok.frames,I.ok.mod,I.bs,lX I.ok.bsz I.sz,I.stack,I.stkFree,I.hok,I.bare⟩
theorem Inv.after {Q:VK}{u:Value}(I:Inv X pins σ H s)(h:CE X.stack X.prog X.w H s Q u s'):EP X pins σ Q u s':=by
 obtain⟨v,H',os,bare,un,hok,r,q⟩:=h
 obtain⟨hh,g,d,t,os'⟩:=s'
 obtain rfl:os'=s.os:=os
 exact⟨v,H',I.call (h':=hh) (g':=g) (d':=d) (t':=t) (ch:=[]) un hok bare (λb z=>absurd z (by simp)),r,q⟩
end
def zoc (sp:Sp)(dvs:List V)(E:XK)(t:TA):TE:=λσ H Q=>t σ H λvs H1=>sp (vs++dvs) H1 Q E
def zno (C:Addr)(m:Str)(sp:Sp)(dvs:List V)(E:XK)(ta:TE)(t:TA):TE:=λσ H Q=>ta σ H λx H1=>∃a dx fs,x=.ref a/\H1 a=some (.ins C dx fs)/\fs.lookup m=none /\
 t σ H1 λvs H2=>sp (x::(vs++dvs)) H2 Q E
def Binds (K:PySem.W.Frag)(fd:FuncData)(ps:List Str)(ds:List Value):Prop :=
 ∀(s:Shared) (us:List Value),K.In s.heap->(us++ds).length=ps.length->BindsTo s fd ⟨us,[]⟩ (ps.zip (us++ds))
theorem Binds.all {K:PySem.W.Frag}{fd:FuncData}{ps:List Str}(h:∀us:List Value,us.length=ps.length->bindArgs fd ⟨us,[]⟩=pure (ps.zip us)):Binds K fd ps []:=λs us _ hl=>by
 rw[lD] at hl ⊢
 exact .of_eq (h us hl)
def uE (CX:CXT)(X:Cx)(E:XK):Prop:=∀(pins:List (Addr×Obj)) (σ:St) (H:Hp) (s:Shared) (e:Value) (s':Shared),Inv X pins σ H s->CX X.stack H s E e s'->X.xe e s'
section
variable {X:Cx}{CX:CXT}{k:Nat}{f C:Addr}{fd:FuncData}{ps:List Str}{sp:Sp}{dvs:List V}{ds:List Value}{E:XK}{x m:Str}{p pos apos:Pos}{e o:Expr}{es:List Expr}{ta:TE}{t:TA}
theorem zhO {pins:List (Addr×Obj)}{σ:St}{H:Hp}{s:Shared}{Q:VK}{us:List Value}{vs:List V}(F:FnOk X.prog X.w X.K X.mg X.base CX k f fd ps sp)(hr:Room k X.A)(hb:Binds X.K fd ps ds)(hd:Vals dvs ds)(hx:uE CX X E)
  (I:Inv X pins σ H s) (r:Vals vs us) (h:sp (vs++dvs) H Q E):wpAny (model X.prog X.w) X.A (call (.ref f) us) (EP X pins σ Q) X.xe s:=by
 have r2:Vals (vs++dvs) (us++ds):=r.append hd
 have hl:(us++ds).length=ps.length:=by rw[← r2.length];exact F.len _ _ _ _ h
 refine wpAny_call (lci (F.run X.A X.stack s H ⟨us,[]⟩ (us++ds) (vs++dvs) Q E hr I.env0 (hb s us I.kIn hl) r2 h) λr s' hq=>?_)
 cases r with
 | error e=>exact hx pins σ H s e s' I hq
 | ok fl =>
  cases fl with
  | ret u=>exact I.after hq
  | next=>exact False.elim hq
  | brk=>exact False.elim hq
  | cont=>exact False.elim hq
theorem zbh (F:FnOk X.prog X.w X.K X.mg X.base CX k f fd ps sp)(hr:Room k X.A)(hg:Gl X x)(hm:X.mg x=some (.ref f))(hk:PySem.W.keepIn X.K (.ref f)=true)(hb:Binds X.K fd ps ds)(hd:Vals dvs ds)(hx:uE CX X E)
  (ha:PA X (e::es) t) (hdb:(x == ("__debug__" : Str))=false:=by decide) (he:starEach (e::es) X.env=(false,eval e X.env)::starEach es X.env:=by rfl) (hpl:(backTo pos (starEach es X.env)).any (·.1)=false:=by rfl) :
  PE X (.Call (.Name x p) (e::es) [] pos) (zoc sp dvs E t):=by
 intro pins s σ H Q I h
 refine laS (zbn I hg hm ?_ hdb)
 refine lbR (h₀:=X.base) I.ok.mod.kin hk (thn (ha pos pins s σ H _ I h) λus s1 ⟨vs,H1,I1,r,q⟩=>⟨I1.kIn,?_⟩) he hpl
 exact zhO F hr hb hd hx I1 r q
theorem zlx {pl:Sem Bool}(he:PE X o ta)(c:Cls X.K C)(hm:Meth X.K C m f)(F:FnOk X.prog X.w X.K X.mg X.base CX k f fd ps sp)(hr:Room k X.A)(hb:Binds X.K fd ps ds)(hd:Vals dvs ds)(hx:uE CX X E)(ha:PA X (e::es) t)
  (hst:starEach (e::es) X.env=(false,eval e X.env)::starEach es X.env:=by rfl) (hpl:(backTo pos (starEach es X.env)).any (·.1)=false:=by rfl)
  (ht:eval (.Call (.Attribute o m apos) (e::es) [] pos) X.env=(do
   let ov ← eval o X.env
   standAt apos.atName
   let (f,first) ← holding [ov] (getMethod ov m pl)
   callWith pos f first (backTo pos (starEach (e::es) X.env)) (backToKw pos (keywordEach [] X.env))):=by rfl) :
  PE X (.Call (.Attribute o m apos) (e::es) [] pos) (zno C m sp dvs E ta t):=by
 intro pins s σ H Q I h
 refine lbV (pl:=pl) (thn (he pins s σ H _ I h) λu s1 ⟨x,H1,I1,rx,a,dx,fs,ex,ea,l,q⟩=>?_) ht
 subst ex
 obtain rfl:u=Value.ref a:=rx
 refine jJ I1 ea c hm l ?_
 refine lbR (first:=[.ref a]) (h₀:=X.base) I.ok.mod.kin hm.kp (thn (ha pos pins s1 σ H1 _ I1 q) λus s2 ⟨vs,H2,I2,r,q2⟩=>⟨I2.kIn,?_⟩) hst hpl
 exact zhO (us:=.ref a::us) (vs:=.ref a::vs) F hr hb hd hx I2 (.cons rfl r) q2
theorem zjE {pl:Sem Bool}(he:PE X o ta)(c:Cls X.K C)(hm:Meth X.K C m f)(F:FnOk X.prog X.w X.K X.mg X.base CX k f fd ps sp)(hr:Room k X.A)(hb:Binds X.K fd ps ds)(hd:Vals dvs ds)(hx:uE CX X E)
  (ht:eval (.Call (.Attribute o m apos) [] [] pos) X.env=(do
   let ov ← eval o X.env
   standAt apos.atName
   let (f,first) ← holding [ov] (getMethod ov m pl)
   callWith pos f first (backTo pos (starEach [] X.env)) (backToKw pos (keywordEach [] X.env))):=by rfl) :
  PE X (.Call (.Attribute o m apos) [] [] pos) (zno C m sp dvs E ta zmh):=by
 intro pins s σ H Q I h
 refine lbV (pl:=pl) (thn (he pins s σ H _ I h) λu s1 ⟨x,H1,I1,rx,a,dx,fs,ex,ea,l,q⟩=>?_) ht
 subst ex
 obtain rfl:u=Value.ref a:=rx
 refine jJ I1 ea c hm l ?_
 exact PySem.W.callWith_K0 (first:=[.ref a]) I1.kIn hm.kp (zhO (us:=[.ref a]) (vs:=[.ref a]) F hr hb hd hx I1 (.cons rfl .nil) q)
structure Mk (K:PySem.W.Frag)(C f:Addr):Prop where
 makes:PySem.W.makesIn K C=true
 init:PySem.W.findIn K (.ref C) "__init__" = some (some (.ref f))
 fn:PySem.W.isFn K (.ref f)=true
 kp:PySem.W.keepIn K (.ref C)=true
end
structure FnScope (N P:List Str)(sc:Scope):Prop where
 kind:sc.kind=.function
 co:sc.isCoroutine=false
 gen:sc.isGenerator=false
 nd:N.Nodup
 pre:N.take P.length=P
 par:∀x∈P,sc.names.lookup x=some .local∨sc.names.lookup x=some .cell
 nofree:∀y∈sc.names,y.2≠.free
theorem zeV {kindOf:Str->Option NameKind}{x:Str}:∀{binds:List (Str×Value)}{m:Str->Option Value},(∀v,(x,v)∉binds)->bindL kindOf binds m x=m x
 | [],_,_=>rfl
 | (n,v)::r,m,h=>by
  unfold bindL
  rw[zeV λw hw=>h w (lK _ hw)]
  split
  ·have:x≠n:=by rintro rfl;exact h v lY
   simp[this]
  ·rfl
theorem zep {kindOf:Str->Option NameKind}{x:Str}:∀{binds:List (Str×Value)}{m:Str->Option Value},(∀v,(x,v)∉binds)->bindC kindOf binds m x=m x
 | [],_,_=>rfl
 | (n,v)::r,m,h=>by
  unfold bindC
  rw[zep λw hw=>h w (lK _ hw)]
  split
  ·rfl
  ·have:x≠n:=by rintro rfl;exact h v lY
   simp[this]
theorem zff {kindOf:Str->Option NameKind}{x:Str}{v:Value}:∀{P:List Str}{vs:List Value}{i:Nat}{m:Str->Option Value},P.Nodup->P[i]? = some x->vs[i]? = some v->kindOf x=some .local ->
  bindL kindOf (P.zip vs) m x=some v
 | [],_,_,_,_,h,_,_=>by simp at h
 | _::_,[],_,_,_,_,h,_=>by simp at h
 | p::P,w::vs,0,m,nd,h1,h2,hk=>by
  simp at h1 h2;subst h1;subst h2
  show bindL kindOf ((p,w)::P.zip vs) m p=_
  unfold bindL
  rw[zeV λv hv=>(lbD.mp nd).1 (lbE hv).1,lB hk]
  simp
 | p::P,w::vs,i+1,m,nd,h1,h2,hk=>by
  show bindL kindOf ((p,w)::P.zip vs) m x=_
  unfold bindL
  exact zff (i:=i) (lbD.mp nd).2 (by simpa using h1) (by simpa using h2) hk
theorem zej {kindOf:Str->Option NameKind}{x:Str}{v:Value}:∀{P:List Str}{vs:List Value}{i:Nat}{m:Str->Option Value},P.Nodup->P[i]? = some x->vs[i]? = some v->kindOf x≠some .local ->
  bindC kindOf (P.zip vs) m x=some v
 | [],_,_,_,_,h,_,_=>by simp at h
 | _::_,[],_,_,_,_,h,_=>by simp at h
 | p::P,w::vs,0,m,nd,h1,h2,hk=>by
  simp at h1 h2;subst h1;subst h2
  show bindC kindOf ((p,w)::P.zip vs) m p=_
  unfold bindC
  rw[zep λv hv=>(lbD.mp nd).1 (lbE hv).1,lW hk]
  simp
 | p::P,w::vs,i+1,m,nd,h1,h2,hk=>by
  show bindC kindOf ((p,w)::P.zip vs) m x=_
  unfold bindC
  exact zej (i:=i) (lbD.mp nd).2 (by simpa using h1) (by simpa using h2) hk
def start (N:List Str)(vs:List V):St:=vs.map some++List.replicate (N.length - vs.length) none
def jc (CX:CXT)(P:Program)(w:World)(K:PySem.W.Frag)(mg:Str->Option Value)(base:Heap)(N:List Str)(qual:Str)(scope:Scope)(f:Addr)(cd:Value)(A:Around)(outer:List Env)(s:Shared)(H:Hp)(E:XK):Cx where
 prog:=P
 w:=w
 K:=K
 mg:=mg
 base:=base
 A:=A.deeper (envOfC qual scope s.heap.objs.size f cd)
 N:=N
 s₀:=s
 H₀:=H
 env:=envOfC qual scope s.heap.objs.size f cd
 outer:=outer
 stack:=envOfC qual scope s.heap.objs.size f cd::outer
 ex:=[]
 calm:=true
 fn:=λ_=>true
 pn:=[]
 xe:=λe s'=>wpAny (model P w) (A.deeper (envOfC qual scope s.heap.objs.size f cd)) (leaving (envOfC qual scope s.heap.objs.size f cd) e) (λ_ s''=>CX outer H s E e s'') (λe' s''=>CX outer H s E e' s'') s'
theorem zbP {sc:Scope}{n:Nat}{x:Str}(h:sc.names.lookup x=some .cell):∃c,(cellsFrom n sc.names []).lookup x=some c:=by
 have q:=lcv sc.names n [] (.inl h)
 exact Option.isSome_iff_exists.mp q
theorem zeh {CX:CXT}{P:Program}{w:World}{K:PySem.W.Frag}{mg:Str->Option Value}{base:Heap}{N ps:List Str}{qual:Str}{scope:Scope}{f:Addr}{cd:Value}{A:Around}{outer:List Env}{s s1:Shared}{H:Hp}{E:XK}{us:List Value}{vs:List V}
  (S:FnScope N ps scope) (hd:A.handled=none) (e0:Env0 P w K mg base A outer s H) (hl:vs.length=ps.length) (r:Vals vs us)
  (x:InCallC s s.heap.objs.size (bindL (envOfC qual scope s.heap.objs.size f cd).kindOf (ps.zip us) λ_=>none) (cellsFrom (s.heap.objs.size+1) scope.names []) (bindC (envOfC qual scope s.heap.objs.size f cd).kindOf (ps.zip us) λ_=>none) s1) :
  Inv (jc CX P w K mg base N qual scope f cd A outer s H E) [] (start N vs) H s1:=by
 have hpl:ps.length<=N.length:=by have:=lbd List.length S.pre;rw[lO] at this;omega
 obtain⟨h1,tk,rfl,hk⟩:=x.done
 have noA:∀b:Addr,b∉(jc CX P w K mg base N qual scope f cd A outer s H E).ex:=λb z=>absurd (show b∈([]:List Addr) from z) (by simp)
 refine ⟨⟨e0.mod,S.kind,rfl,rfl,lp _,λy z c h1 h2=>?_,λy hy=>?_,λy c _ h=>?_,λ_=>hd,Around.frames_deeper e0.frames,.inr ⟨rfl,rfl⟩,λb z=>absurd z (noA b),e0.bs,e0.bsz,λb _ _=>noA b,λb z=>absurd z (noA b),e0.funs,e0.frf⟩,
  rfl,e0.bare,Un.kept hk,⟨_,x.toInCall.ns,λi y v h1 h2 h3=>?_⟩,λy c h=>⟨_,x.cell y c h⟩,e0.hok.fresh (lp _),λy c h=>?_,λp hp=>absurd (show p∈([]:List (Addr×Obj)) from hp) (by simp),e0.hok.kept hk,?_⟩
 ·exact name_of_addr x.apart (lak h1) (lak h2)
 ·have hy:scope.names.lookup y=some .cell∨scope.names.lookup y=some .free:=hy
  rcases hy with hy|hy
  ·exact zbP hy
  ·exact absurd rfl (S.nofree _ (lak hy))
 ·exact ldf (x.above y c (lak h))
 ·have hi:i<vs.length:=by
   unfold start at h2
   by_cases hi:i<vs.length
   ·exact hi
   ·rw[lE (by simpa using hi)] at h2
    rw[laK] at h2
    split at h2 <;>cases h2
  have ha:vs[i]? = some v:=by
   unfold start at h2
   rw[lP (by simpa using hi),lR] at h2
   cases e:vs[i]? with
   | none=>rw[e] at h2;cases h2
   | some a=>rw[e] at h2;cases h2;rfl
  obtain⟨u,hu,rv⟩:=r.get ha
  have hp:ps[i]? = some y:=by
   rw[← S.pre,List.getElem?_take_of_lt (by omega)];exact h1
  have ndP:ps.Nodup:=by rw[← S.pre];exact S.nd.sublist (List.take_sublist _ _)
  refine⟨u,rv,?_⟩
  rcases S.par y (laD hp) with k|k
  ·exact .inl ⟨k,zff ndP hp hu k⟩
  ·obtain⟨c,e⟩:=zbP (n:=s.heap.objs.size+1) k
   refine .inr ⟨.inl k,c,e,?_⟩
   have q:=x.cell y c e
   rw[zej ndP hp hu (by show scope.names.lookup y≠_;rw[k];decide)] at q
   exact q
 ·exact e0.hok.fresh (ldf (x.above y c (lak h)))
 ·unfold start
  show _=N.length
  rw[lw,ly,lbt]
  omega
theorem zof {CX:CXT}{P:Program}{w:World}{K:PySem.W.Frag}{mg:Str->Option Value}{base:Heap}{k:Nat}{f:Addr}{name qual:Str}{params:Arguments}{body:List Stmt}{scope:Scope}{dV kV doc pm cdv ct oc:Value}{an od:Option Addr}
  {osl:Array (Option Value)}{N ps:List Str}{sp:Sp} (lk:K.lookup f=some ⟨oc,od,.func (PySem.W.fnOf name qual params body scope dV kV doc pm an cdv ct),osl⟩) (hcd:PySem.W.codeIn K cdv qual=true) (S:FnScope N ps scope)
  (len:∀vs H Q E,sp vs H Q E->vs.length=ps.length)
  (hbody:∀(A:Around) (outer:List Env) (s:Shared) (H:Hp) (vs:List V) (Q:VK) (E:XK),Room k (A.deeper (envOfC qual scope s.heap.objs.size f cdv))->sp vs H Q E ->
   ∃t,PSs (jc CX P w K mg base N qual scope f cdv A outer s H E) body t/\t {nx:=λ_ H'=>Q .non H',rt:=Q} (start N vs) H) :
  FnOk P w K mg base CX (k+1) f (PySem.W.fnOf name qual params body scope dV kV doc pm an cdv ct) ps sp:=by
 refine⟨len,λA outer s H args us vs Q E hr e0 hb r hsp=>?_⟩
 have hl:=len _ _ _ _ hsp
 have KX:K.In s.heap:=e0.mod.kin.keeps λb o e=>(e0.bs b o e).1
 have lim:s.heap.NoLimit:=e0.mod.nolimit.keeps λb o e=>(e0.bs b o e).1
 have hkind:∀y∈ps.zip us,scope.names.lookup y.1=some .local∨(scope.names.lookup y.1=some .cell/\((cellsFrom (s.heap.objs.size+1) scope.names []).lookup y.1).isSome=true):=λ⟨n,v⟩ hy=>by
  rcases S.par n (lbE hy).1 with q|q
  ·exact .inl q
  ·exact .inr ⟨q,lcv _ _ _ (.inl q)⟩
 refine codeAny_call_function hr.depth (KX _ _ lk) rfl S.co S.gen rfl (PySem.W.codeRec_of KX hcd) (hb _ _ _ _ ?_)
 refine wpAny_newFunctionEnv_cells S.kind hkind λenv he s1 x=>?_
 subst he
 refine⟨lim.keeps x.toInCall.keep,codeAny_func ?_⟩
 obtain⟨t,ht,hq⟩:=hbody A outer s H vs Q E (hr.deeper _) hsp
 have I:Inv (jc CX P w K mg base N qual scope f cdv A outer s H E) [] (start N vs) H s1:=zeh S hr.hd e0 hl r x
 refine lai (ht [] s1 (start N vs) H _ I hq) (λfl s' hs=>?_) λe s' hs=>hs
 have fin:∀{σ':St}{H':Hp}{v:V}{u:Value},Inv (jc CX P w K mg base N qual scope f cdv A outer s H E) [] σ' H' s'->RelV v u->Q v H'->CE outer P w H s Q u s' :=
  λ{σ' H' v u} J rv q=>⟨v,H',J.os,J.bare,J.base,J.hok,rv,q⟩
 cases fl with
 | ret u =>
  obtain⟨v,σ',H',J,rv,q⟩:=hs
  exact fin J rv q
 | next =>
  obtain⟨σ',H',J,q⟩:=hs
  exact fin (v:=V.non) (u:=Value.none) J rfl q
 | brk =>
  obtain⟨_,_,_,q⟩:=hs
  exact False.elim q
 | cont =>
  obtain⟨_,_,_,q⟩:=hs
  exact False.elim q
section
variable {X:Cx}{x:Str}{p pos:Pos}{e:Expr}{es:List Expr}{t:TA}{id T:String}{r:List V->Hp->VK->Prop}
def tCB (r:List V->Hp->VK->Prop)(t:TA):TE:=λσ H Q=>t σ H λvs H1=>r vs H1 Q
theorem zaM (hc:jb X (.builtin id) r)(hg:Gl X x)(hm:X.mg x=none)(hv:bootBuiltins x=some (.builtin id))(ha:PA X (e::es) t)(hn:x ≠ "__name__" := by decide)(hdb:(x == ("__debug__" : Str))=false:=by decide)
  (he:starEach (e::es) X.env=(false,eval e X.env)::starEach es X.env:=by rfl) (hpl:(backTo pos (starEach es X.env)).any (·.1)=false:=by rfl):PE X (.Call (.Name x p) (e::es) [] pos) (tCB r t):=by
 intro pins s σ H Q I h
 refine laS (zcE I hg hm hv ?_ hn hdb)
 exact PyProof.Rows.callWith_builtin1 (thn (ha pos pins s σ H _ I h) λus s1 ⟨vs,H1,I1,r1,q1⟩=>hc pins s1 σ H1 vs us Q I1 r1 q1) he hpl
theorem zeg (hc:jb X (.type T) r)(hg:Gl X x)(hm:X.mg x=none)(hv:bootBuiltins x=some (.type T))(ha:PA X (e::es) t)(hn:x ≠ "__name__" := by decide)(hdb:(x == ("__debug__" : Str))=false:=by decide)
  (he:starEach (e::es) X.env=(false,eval e X.env)::starEach es X.env:=by rfl) (hpl:(backTo pos (starEach es X.env)).any (·.1)=false:=by rfl):PE X (.Call (.Name x p) (e::es) [] pos) (tCB r t):=by
 intro pins s σ H Q I h
 refine laS (zcE I hg hm hv ?_ hn hdb)
 exact laR (thn (ha pos pins s σ H _ I h) λus s1 ⟨vs,H1,I1,r1,q1⟩=>hc pins s1 σ H1 vs us Q I1 r1 q1) he hpl
end
end L2
namespace HT
open PySem PyProof.Rows
section
open PySem.SeqAt
open PySem.AutoSeq1 (wpAny_loadPart')
open PySem.MeetsSeq PySem.MeetsSeq2 PySem.MeetsSeq3
end
section
variable {prog:Program}{w:World}{A:Around}{E:Value->Shared->Prop}{s:Shared}
def sIx (n d:Nat):Option Int->Nat
 | none=>d
 | some v=>if v<0 then(v+(n:Int)).toNat else min v.toNat n
theorem sIx_none (n d:Nat):sIx n d none=d:=rfl
theorem sIx_nat (n d k:Nat):sIx n d (some (k:Int))=min k n:=by
 show(if (k:Int)<0 then((k:Int)+(n:Int)).toNat else min (k:Int).toNat n)=min k n
 rw[lW (by omega),laj]
theorem sIx_le (n d:Nat)(hd:d<=n)(o:Option Int):sIx n d o<=n:=by
 cases o with
 | none=>exact hd
 | some v =>
  show(if v<0 then(v+(n:Int)).toNat else min v.toNat n)<=n
  by_cases hv:v<0
  ·rw[lB hv];omega
  ·rw[lW hv];exact lc8 _ _
theorem zh9 (v:Int)(n d:Nat):(if v<0 then max (v+(n:Int)) 0 else min v (n:Int))=((sIx n d (some v):Nat):Int):=by
 show(if v<0 then max (v+(n:Int)) 0 else min v (n:Int))=(((if v<0 then(v+(n:Int)).toNat else min v.toNat n):Nat):Int)
 by_cases hv:v<0
 ·simp only[lB hv];omega
 ·simp only[lW hv];omega
theorem zhv (lo hi:Option Int)(n:Nat):Builtin.Slice.sliceAdjust lo hi 1 (n:Int)=(((sIx n 0 lo:Nat):Int),((sIx n n hi:Nat):Int)):=by
 have h1:¬((1:Int)<0):=by omega
 unfold Builtin.Slice.sliceAdjust
 simp only[h1,laT]
 refine Prod.ext ?_ ?_
 ·cases lo with
  | none=>rfl
  | some v=>exact zh9 v n 0
 ·cases hi with
  | none=>rfl
  | some v=>exact zh9 v n n
theorem zha (i j:Nat):Builtin.Slice.slicePlaces (i:Int) (j:Int) 1=j - i:=by
 unfold Builtin.Slice.slicePlaces
 have h1:(1:Int) > 0:=by omega
 simp only[h1,lba,Int.ediv_one]
 split <;>omega
theorem zc6 {v:Value}{o:Option Int}{Q:Option Int->Shared->Prop}(p:IsPart v o)(h:Q o s):wpAny (model prog w) A (Builtin.Slice.slicePartIndex v) Q E s:=by
 cases p with
 | none=>exact slicePart_none h
 | int i t=>exact slicePart_int h
theorem sliceApplied_gen {sl:Addr}{vl vu:Value}{lo hi:Option Int}{n:Nat}{Q:Int×Int×Nat->Shared->Prop}(hs:s.heap.IsSliceOf sl vl vu .none)(pl:IsPart vl lo)(pu:IsPart vu hi)
  (h:Q (((sIx n 0 lo:Nat):Int),1,sIx n n hi - sIx n 0 lo) s):wpAny (model prog w) A (Builtin.Slice.sliceApplied (.ref sl) (pure (n:Int))) Q E s:=by
 obtain⟨os,hos,hcs,hds⟩:=id hs
 unfold Builtin.Slice.sliceApplied Builtin.Slice.sliceFields
 refine la (la (lV hos hds (x:=vl) rfl (la (lV hos hds (x:=vu) rfl (la (lV hos hds (x:=.none) rfl (lj ?_)))))))
 refine la (slicePart_none ?_)
 show wpAny _ _ (if ((1:Int) == 0)=true then _ else _) _ _ s
 rw[lW (by decide)]
 refine la (zc6 pl (la (zc6 pu (la (lj ?_)))))
 show wpAny _ _ (match Builtin.Slice.sliceAdjust lo hi 1 (n:Int) with|(lo,hi)=>pure (lo,(1:Int),Builtin.Slice.slicePlaces lo hi 1)) _ _ s
 rw[zhv lo hi n]
 show wpAny _ _ (pure (((sIx n 0 lo:Nat):Int),(1:Int),Builtin.Slice.slicePlaces ((sIx n 0 lo:Nat):Int) ((sIx n n hi:Nat):Int) 1)) _ _ s
 rw[zha]
 exact lj h
theorem zkm (xs:Array Value)(i k:Nat):((List.range k).filterMap λ(m:Nat)=>xs[((i:Int)+(m:Int)*1).toNat]?).toArray=((xs.toList.drop i).take k).toArray:=by
 have e:(λ(m:Nat)=>xs[((i:Int)+(m:Int)*1).toNat]?)=λm=>xs[i+m]?:=by
  funext m
  have:((i:Int)+(m:Int)*1).toNat=i+m:=by omega
  rw[this]
 rw[e]
 have:=pick_run xs i k
 rw[List.filterMap_map] at this
 have e2:((λx=>xs[x]?)∘λx=>i+x)=λm=>xs[i+m]?:=rfl
 rw[e2] at this
 rw[this]
theorem getItem_tuple_cut {t sl:Addr}{items:Array Value}{vl vu:Value}{lo hi:Option Int}{Q:Value->Shared->Prop}(ht:IsTup s.heap t items)(hs:s.heap.IsSliceOf sl vl vu .none)(pl:IsPart vl lo)(pu:IsPart vu hi)
  (hw:¬(sIx items.size 0 lo=0/\sIx items.size items.size hi=items.size))
  (h:Q (.ref s.heap.objs.size) {s with heap:=s.heap.push {cls:=.type "tuple", data:=.seq ((items.toList.drop (sIx items.size 0 lo)).take (sIx items.size items.size hi - sIx items.size 0 lo)).toArray} })
  (hsz:items.size<=sizeLine):wpAny (model prog w) A (getItem (.ref t) (.ref sl)) Q E s:=by
 have htake:sizeOk (.seq ((items.toList.drop (sIx items.size 0 lo)).take (sIx items.size items.size hi - sIx items.size 0 lo)).toArray):=by
  show((items.toList.drop (sIx items.size 0 lo)).take (sIx items.size items.size hi - sIx items.size 0 lo)).toArray.size<=sizeLine
  rw[lG,lO,lbb,lcO]
  omega
 have hj:sIx items.size items.size hi<=items.size:=sIx_le _ _ (lp _) hi
 obtain⟨os,hos,hcs,hds⟩:=id hs
 have hTs:s.TypeIs (.ref sl) "slice" := ⟨os,hos,hcs⟩
 unfold getItem
 try with_reducible refine laQ ?_
 first|refine la (lj ?_)|skip
 refine la (wpAny_sequenceKey ht.typeIs (by decide) ?_)
 refine la (lM (name:=Str.ofString "__getitem__") ht.typeIs lav
  (lac lav ht.typeIs entry_tuple_getitem ?_ (args_tuple_getitem _ _)))
 show wpAny _ _ (Builtin.Tuple.tupleItemsOf (.ref t) >>= _) _ _ s
 refine la (tupleItemsOf_ ht ?_)
 refine la (lcC hTs ?_)
 rw[lB (by decide)]
 refine la (sliceApplied_gen hs pl pu ?_)
 have hno:¬((((sIx items.size 0 lo:Nat):Int) == 0&&(1:Int) == 1&&(sIx items.size items.size hi - sIx items.size 0 lo) == items.size)=true):=by
  intro q
  rw[lQ,lQ] at q
  have q1:((sIx items.size 0 lo:Nat):Int)=0:=eq_of_beq q.1.1
  have q2:sIx items.size items.size hi - sIx items.size 0 lo=items.size:=eq_of_beq q.2
  exact hw ⟨by omega,by omega⟩
 show wpAny _ _ (if (((sIx items.size 0 lo:Nat):Int) == 0&&(1:Int) == 1&&(sIx items.size items.size hi - sIx items.size 0 lo) == items.size)=true then _ else _) _ _ s
 rw[lW hno,zkm]
 first
  | exact la (m:=Builtin.Tuple.tupleExact _) (laA (lj ⟨_,rfl,lj h⟩) htake)
  | exact la (m:=Builtin.Tuple.tupleExact _) (laA (la (lj (lj ⟨_,rfl,lj h⟩))) htake)
  | exact la (la (m:=Builtin.Tuple.tupleExact _) (laA (lj (lj ⟨_,rfl,lj h⟩)) htake))
  | exact la (la (m:=Builtin.Tuple.tupleExact _) (laA (lj ⟨_,rfl,lj h⟩) htake))
end
end HT
namespace L2
open PySem PySem.Spec PyProof.Rows
abbrev TO:=St->Hp->(Option Int->Hp->Prop)->Prop
def PO (X:Cx)(e:Option Expr)(t:TO):Prop :=
 ∀ (pins:List (Addr×Obj)) (s:Shared) (σ:St) (H:Hp) (Q:Option Int->Hp->Prop),Inv X pins σ H s->t σ H Q ->
  wpAny (model X.prog X.w) X.A (evalPart e X.env) (λu s'=>∃o H',Inv X pins σ H' s'/\IsPart u o/\Q o H') X.xe s
def zlw:TO:=λ_ H Q=>Q none H
def zpP (t:TE):TO:=λσ H Q=>t σ H λx H1=>∃i,x=.int i/\Q (some i) H1
section
variable {X:Cx}{e:Expr}{te:TE}{lo hi:Option Expr}{tl th:TO}{pos p2:Pos}
theorem zma:PO X none zlw:=by
 intro pins s σ H Q I h
 rw[evalPart_none]
 exact lj ⟨none,H,I,.none,h⟩
theorem zmr (h:PE X e te):PO X (some e) (zpP te):=by
 intro pins s σ H Q I hw
 rw[evalPart_some]
 refine thn (h pins s σ H _ I hw) λu s1 zm1=>?_
 obtain⟨x,H1,I1,r1,q1⟩:=zm1
 obtain⟨i,rfl,q⟩:=q1
 obtain⟨t,rfl⟩:=r1
 exact⟨some i,H1,I1,.int i t,q⟩
def SlR (X:Cx)(r:V->Option Int->Option Int->Hp->VK->Prop):Prop :=
 ∀ (pins:List (Addr×Obj)) (s:Shared) (σ:St) (H:Hp) (x:V) (v vl vu:Value) (lo hi:Option Int) (sl:Addr) (Q:VK),Inv X pins σ H s->RelV x v->s.heap.IsSliceOf sl vl vu .none->IsPart vl lo->IsPart vu hi->r x lo hi H Q ->
  ∃T id,typeLookup (.type T) "__getitem__" = pure (some (.builtin id))/\s.TypeIs v T/\wpAny (model X.prog X.w) X.A (getItem v (.ref sl)) (EP X pins σ Q) X.xe s
theorem SlR.or {r r':V->Option Int->Option Int->Hp->VK->Prop}(h:SlR X r)(h':SlR X r'):SlR X (λx lo hi H Q=>r x lo hi H Q∨r' x lo hi H Q):=by
 intro pins s σ H x v vl vu lo hi sl Q I rx hs pl pu q
 rcases q with q|q
 ·exact h pins s σ H x v vl vu lo hi sl Q I rx hs pl pu q
 ·exact h' pins s σ H x v vl vu lo hi sl Q I rx hs pl pu q
def tSl (r:V->Option Int->Option Int->Hp->VK->Prop)(te:TE)(tl th:TO):TE:=λσ H Q=>te σ H λx H1=>tl σ H1 λl H2=>th σ H2 λu H3=>r x l u H3 Q
theorem zka {r:V->Option Int->Option Int->Hp->VK->Prop}(hr:SlR X r)(he:PE X e te)(hl:PO X lo tl)(hu:PO X hi th):PE X (.Subscript e (.Slice lo hi none p2) pos) (tSl r te tl th):=by
 intro pins s σ H Q I h
 refine Subscript_ (thn (he pins s σ H _ I h) λv s1 zo2=>?_)
 obtain⟨x,H1,I1,r1,q1⟩:=zo2
 refine wpAny_Slice (thn (hl pins s1 σ H1 _ I1 q1) λvl s2 ⟨l,H2,I2,pl,q2⟩=>thn (hu pins s2 σ H2 _ I2 q2) λvu s3 zmY=>?_)
 obtain⟨u,H3,I3,pu,q3⟩:=zmY
 rw[evalPart_none]
 refine lj ?_
 have I4:Inv X pins σ H3 {s3 with heap:=s3.heap.push {cls:=.type "slice", data:=.fields #[vl,vu,.none]} }:=I3.kept (t':=s3.toks) λb ob q=>lb _ q
 obtain⟨T,id,hT,ht,hg⟩:=hr pins {s3 with heap:=s3.heap.push {cls:=.type "slice", data:=.fields #[vl,vu,.none]} } σ H3 x v vl vu l u s3.heap.objs.size Q I4 r1 (Heap.IsSliceOf.new ..) pl pu q3
 show wpAny (model X.prog X.w) X.A (subscriptTail e (.Slice lo hi none p2) v (.ref s3.heap.objs.size)) (EP X pins σ Q) X.xe {s3 with heap:=s3.heap.push {cls:=.type "slice", data:=.fields #[vl,vu,.none]} }
 exact tail_any (ops:=[.ref s3.heap.objs.size,v]) ht hT hg (by with_unfolding_all rfl)
def zij (xs:List V)(lo hi:Option Int):List V:=(xs.drop (HT.sIx xs.length 0 lo)).take (HT.sIx xs.length xs.length hi - HT.sIx xs.length 0 lo)
theorem zct (xs:List V)(lo hi:Option Int):(zij xs lo hi).length<=xs.length:=by
 unfold zij
 rw[lO,lbb]
 omega
def zqK (K:PySem.W.Frag):V->Option Int->Option Int->Hp->VK->Prop:=λx lo hi H Q=>∃a xs,x=.ref a/\SqT K H a xs /\
 ¬(HT.sIx xs.length 0 lo=0/\HT.sIx xs.length xs.length hi=xs.length)/\∀p,H p=none->Q (.ref p) (upd H p (.tup (zij xs lo hi)))
theorem zoK:SlR X (zqK X.K):=by
 intro pins s σ H x v vl vu lo hi sl Q I rx hs pl pu h
 obtain⟨a,xs,rfl,hx,hw,q⟩:=h
 cases rx
 obtain⟨its,r,ht,hz⟩:=I.tuple hx
 have hlen:its.toArray.size=xs.length:=by rw[lG];exact r.length.symm
 refine⟨"tuple", _,lav.lookup,ht.typeIs,?_⟩
 refine HT.getItem_tuple_cut ht hs pl pu (by rw[hlen];exact hw) ?_ (by rw[hlen];exact hz)
 rw[hlen]
 refine⟨.ref s.heap.objs.size,_,I.laid (t':=s.toks) (o:=.tup (zij xs lo hi)) (λb ob q=>lb _ q) (lp _) ?_,rfl,q _ (I.hok.fresh (lp _))⟩
 exact⟨lX (zct xs lo hi) hz,_,(r.drop (HT.sIx xs.length 0 lo)).take (HT.sIx xs.length xs.length hi - HT.sIx xs.length 0 lo),TupD.new _ _⟩
end
def ixN (n:Nat)(i:Int):Option Nat:=if 0<=i then(if i<n then some i.toNat else none) else if -(n:Int)<=i then some (i+n).toNat else none
def atI {α:Type}(xs:List α)(i:Int):Option α:=(ixN xs.length i).bind λj=>xs[j]?
theorem zmF {n:Nat}{i:Int}{j:Nat}(h:ixN n i=some j):seqIndex? i n=some j/\j<n/\-(n:Int)<=i/\i<n:=by
 unfold ixN at h
 by_cases h0:0<=i
 ·rw [lB h0] at h
  by_cases h1:i<n
  ·rw[lB h1] at h
   have e:i.toNat=j:=lc h
   exact⟨by rw[seqIndex_of h0 h1,e],by omega,by omega,h1⟩
  ·rw[lW h1] at h;cases h
 ·rw [lW h0] at h
  by_cases h1:-(n:Int)<=i
  ·rw[lB h1] at h
   have e:(i+n).toNat=j:=lc h
   exact⟨by rw[seqIndex_neg (by omega) h1,e],by omega,h1,by omega⟩
  ·rw[lW h1] at h;cases h
theorem zfB {α:Type}{xs:List α}{i:Int}{v:α}(h:atI xs i=some v):∃j,seqIndex? i xs.length=some j/\xs[j]? = some v/\j<xs.length/\-(xs.length:Int)<=i/\i<xs.length:=by
 unfold atI at h
 cases e:ixN xs.length i with
 | none=>rw[e] at h;cases h
 | some j =>
  rw[e] at h
  obtain⟨h1,h2,h3,h4⟩:=zmF e
  exact⟨j,h1,h,h2,h3,h4⟩
theorem zmH {α:Type}{xs:List α}{j:Nat}{v:α}(h:xs[j]? = some v):atI xs (j:Int)=some v:=by
 have hj:j<xs.length:=(lh.mp h).1
 have e:ixN xs.length (j:Int)=some j:=by
  unfold ixN
  rw[lB (by omega),lB (by omega)];simp
 unfold atI;rw[e];exact h
def zbV (b:Expr):Prop:=∀o i,subscripted b false o i=operate [o,i] (getItem o i)
def IxR (X:Cx)(r:R2):Prop :=
 ∀ (value slice:Expr) (pins:List (Addr×Obj)) (s:Shared) (σ:St) (H:Hp) (x y:V) (v u:Value) (Q:VK),Inv X pins σ H s->RelV x v->RelV y u->r x y H Q ->
  subscripted slice false v u=operate [v,u] (getItem v u)->wpAny (model X.prog X.w) X.A (subscriptTail value slice v u) (EP X pins σ Q) X.xe s
def MtR (X:Cx)(id:String)(r:V->List V->Hp->VK->Prop):Prop :=
 ∀ (pins:List (Addr×Obj)) (s:Shared) (σ:St) (H:Hp) (x:V) (xs:List V) (v:Value) (us:List Value) (Q:VK),Inv X pins σ H s->RelV x v->Vals xs us->r x xs H Q ->
  wpAny (model X.prog X.w) X.A (call (.builtin id) (v::us)) (EP X pins σ Q) X.xe s
section
variable {X:Cx}{a b:Expr}{ta tb:TE}{pos:Pos}
theorem IxR.or {r r':R2}(h:IxR X r)(h':IxR X r'):IxR X (λx y H Q=>r x y H Q∨r' x y H Q):=by
 intro value slice pins s σ H x y v u Q I rx ry q hs
 rcases q with q|q
 ·exact h value slice pins s σ H x y v u Q I rx ry q hs
 ·exact h' value slice pins s σ H x y v u Q I rx ry q hs
theorem zlL {r:R2}(hr:IxR X r)(ha:PE X a ta)(hb:PE X b tb)(hs:zbV b):PE X (.Subscript a b pos) (tOp r ta tb):=by
 intro pins s σ H Q I h
 exact Subscript_ (zpj ha hb I h λv u s2 x y H2 I2 rx ry q=>hr a b pins s2 σ H2 x y v u Q I2 rx ry q (hs _ _))
def zqm (K:PySem.W.Frag):R2:=λx y H Q=>∃p xs i v,x=.ref p/\y=.int i/\SqL K H p xs/\atI xs i=some v/\Q v H
def zqf (K:PySem.W.Frag):R2:=λx y H Q=>∃p xs i v,x=.ref p/\y=.int i/\SqT K H p xs/\atI xs i=some v/\Q v H
def zqb:R2:=λx y H Q=>∃z i c,x=.str z/\y=.int i/\z.length<=sizeLine/\atI z.cps.toList i=some c/\Q (.str ⟨#[c]⟩) H
theorem ix_list:IxR X (zqm X.K):=by
 intro value slice pins s σ H x y v u Q I rx ry h hs
 obtain⟨p,xs,i,z,rfl,rfl,hq,he,q⟩:=h
 cases rx
 obtain⟨t,rfl⟩:=ry
 obtain⟨its,r,pl,hz⟩:=I.list hq
 obtain⟨j,h1,h2,h3,h4,h5⟩:=zfB he
 obtain⟨w,ew,rw'⟩:=r.get h2
 have hl:=r.length
 have hn:=zgm
 have fin:EP X pins σ Q w s:=⟨z,H,I,rw',q⟩
 by_cases h0:0<=i
 ·have hj:i.toNat=j:=by
   rw[seqIndex_of h0 h5] at h1
   exact lc h1
  exact item_listR pl.isList h0 (by omega) (by rw[hj];simpa using ew) fin hs
 ·have hj:(i+(its.toArray.size:Int)).toNat=j:=by
   rw[seqIndex_neg (by omega) h4] at h1
   rw[lG,← hl]
   exact lc h1
  exact subscriptTail_builtinR (x:=w) pl.isList.typeIs slot_list_getitem.lookup
   (wpAny_getItem_list_neg (Q:=λr s'=>r=w/\EP X pins σ Q r s') pl.isList (by omega) (by rw[lG] <;>omega) (by omega) (by rw[hj];simpa using ew) ⟨rfl,fin⟩) hs
theorem ix_tup:IxR X (zqf X.K):=by
 intro value slice pins s σ H x y v u Q I rx ry h hs
 obtain⟨p,xs,i,z,rfl,rfl,hq,he,q⟩:=h
 cases rx
 obtain⟨t,rfl⟩:=ry
 obtain⟨its,r,pl,hz⟩:=I.tuple hq
 obtain⟨j,h1,h2,h3,h4,h5⟩:=zfB he
 obtain⟨w,ew,rw'⟩:=r.get h2
 have hl:=r.length
 have hn:=zgm
 have fin:EP X pins σ Q w s:=⟨z,H,I,rw',q⟩
 exact subscriptTail_builtinR (x:=w) pl.typeIs slot_tuple_getitem.lookup
  (getItem_tuple (j:=j) (Q:=λr s'=>r=w/\EP X pins σ Q r s') pl (by omega) (by omega) (by rw[lG,← hl];exact h1) (by simpa using ew) ⟨rfl,fin⟩) hs
theorem zop:IxR X zqb:=by
 intro value slice pins s σ H x y v u Q I rx ry h hs
 obtain⟨z,i,c,rfl,rfl,hz,he,q⟩:=h
 obtain⟨t,rfl⟩:=rx
 obtain⟨t',rfl⟩:=ry
 obtain⟨j,h1,h2,h3,h4,h5⟩:=zfB he
 have hl:z.cps.toList.length=z.length:=by simp[Str.length]
 rw[hl] at h1 h4 h5
 have hn:=zgm
 exact tail_any (typeIs_str s z t) slot_str_getitem.lookup (getItem_str (c:=c) (by
  have e1:decide (i < -(2 ^ 63:Int))=false:=lT (by omega)
  have e2:decide (i≥2 ^ 63)=false:=lT (by omega)
  rw[e1,e2,Bool.or_false]) (by rw[h1];simpa using h2) ⟨.str ⟨#[c]⟩,H,I.tok _,⟨_,rfl⟩,q⟩) hs
def rIx (K:PySem.W.Frag):R2:=λx y H Q=>zqm K x y H Q∨zqf K x y H Q∨zqb x y H Q
theorem zii:IxR X (rIx X.K):=ix_list.or (ix_tup.or zop)
theorem Inv.lst {pins:List (Addr×Obj)}{σ:St}{H:Hp}{s:Shared}{p:Addr}{xs:List V}(I:Inv X pins σ H s)(h:H p=some (.lst xs)) :
  ∃(its:List Value) (n:Nat),Vals xs its/\s.heap.get? p=some {cls:=.type "list", data:=.seq its.toArray n}/\xs.length<=sizeLine:=by
 obtain⟨z,its,n,r,e⟩:=I.hok p _ h
 exact⟨its,n,r,e,z⟩
theorem zeD (lo hi:Option Int)(n:Nat):(sliceBounds lo hi none n).1=((HT.sIx n 0 lo:Nat):Int)/\(sliceBounds lo hi none n).2.1=((HT.sIx n n hi:Nat):Int)/\(sliceBounds lo hi none n).2.2=1:=by
 refine⟨?_,?_,rfl⟩
 ·cases lo with
  | none=>simp[sliceBounds,HT.sIx]
  | some i =>
   simp only[sliceBounds,HT.sIx,Option.getD_none,show(1:Int) > 0 by decide,lba]
   by_cases h:i<0
   ·simp only[h,lba] <;>omega
   ·simp only[h,laT] <;>omega
 ·cases hi with
  | none=>simp[sliceBounds,HT.sIx]
  | some i =>
   simp only[sliceBounds,HT.sIx,Option.getD_none,show(1:Int) > 0 by decide,lba]
   by_cases h:i<0
   ·simp only[h,lba] <;>omega
   ·simp only[h,laT] <;>omega
theorem zd1 (its:List Value)(lo hi:Option Int):slicePick its.toArray lo hi none=((its.drop (HT.sIx its.length 0 lo)).take (HT.sIx its.length its.length hi - HT.sIx its.length 0 lo)).toArray:=by
 obtain⟨h1,h2,h3⟩:=zeD lo hi its.toArray.size
 unfold slicePick
 rw[h1,h2,h3]
 simp only[sliceRange_one,pick_run,lG] <;>rfl
def zqx (K:PySem.W.Frag):V->Option Int->Option Int->Hp->VK->Prop:=λx lo hi H Q=>∃a xs,x=.ref a/\SqL K H a xs/\∀p,H p=none->Q (.ref p) (upd H p (.lst (zij xs lo hi)))
theorem zlD:SlR X (zqx X.K):=by
 intro pins s σ H x v vl vu lo hi sl Q I rx hs pl pu h
 obtain⟨a,xs,rfl,hx,q⟩:=h
 cases rx
 obtain⟨its,r,ht,hz⟩:=I.list hx
 have hlen:=r.length
 refine⟨"list", _,slot_list_getitem.lookup,ht.isList.typeIs,?_⟩
 refine wpAny_getItem_list_slice ht.isList hs pl pu .none (by simp) ?_ (by rw[lG] <;>omega)
 rw[zd1,← hlen]
 refine⟨.ref s.heap.objs.size,_,I.laid (t':=s.toks) (o:=.lst (zij xs lo hi)) (λb ob q=>lb _ q) (lp _) ?_,rfl,q _ (I.hok.fresh (lp _))⟩
 exact⟨lX (zct xs lo hi) hz,_,0,(r.drop (HT.sIx xs.length 0 lo)).take (HT.sIx xs.length xs.length hi - HT.sIx xs.length 0 lo),lx _ rfl⟩
def um:V->Bool
 | .non=>true
 | .bl _=>true
 | .int _=>true
 | .str _=>true
 | _=>false
def eqV:V->V->Bool
 | .non,.non=>true
 | .bl a,.bl b=>a == b
 | .bl a,.int b=>(if a then 1 else 0) == b
 | .int a,.bl b=>a == (if b then 1 else 0)
 | .int a,.int b=>a == b
 | .str a,.str b=>a == b
 | _,_=>false
theorem znw {A:Around}{s:Shared}{y x:V}{u v:Value}(ry:RelV y u)(rx:RelV x v)(fy:um y=true)(fx:um x=true):SeqAt.EqAt A s u v (eqV y x):=by
 cases y with
 | non =>
  cases ry
  cases x with
  | non=>cases rx;exact SeqAt.EqAt.same _
  | bl b=>cases rx;exact SeqAt.EqAt.none_bool b
  | int b=>obtain⟨t,rfl⟩:=rx;exact SeqAt.EqAt.none_int b t
  | str b=>obtain⟨t,rfl⟩:=rx;exact SeqAt.EqAt.none_str b t
  | _=>exact absurd (show false=true from fx) lv
 | bl a =>
  cases ry
  cases x with
  | non=>cases rx;exact SeqAt.EqAt.bool_none a
  | bl b=>cases rx;exact SeqAt.EqAt.bool_bool a b
  | int b=>obtain⟨t,rfl⟩:=rx;exact SeqAt.EqAt.bool_int a b t
  | str b=>obtain⟨t,rfl⟩:=rx;exact SeqAt.EqAt.bool_str a b t
  | _=>exact absurd (show false=true from fx) lv
 | int a =>
  obtain⟨t',rfl⟩:=ry
  cases x with
  | non=>cases rx;exact SeqAt.EqAt.int_none a t'
  | bl b=>cases rx;exact SeqAt.EqAt.int_bool a t' b
  | int b=>obtain⟨t,rfl⟩:=rx;exact SeqAt.EqAt.int_int a t' b t
  | str b=>obtain⟨t,rfl⟩:=rx;exact SeqAt.EqAt.int_str a t' b t
  | _=>exact absurd (show false=true from fx) lv
 | str a =>
  obtain⟨t',rfl⟩:=ry
  cases x with
  | non=>cases rx;exact SeqAt.EqAt.str_none a t'
  | bl b=>cases rx;exact SeqAt.EqAt.str_bool a t' b
  | int b=>obtain⟨t,rfl⟩:=rx;exact SeqAt.EqAt.str_int a t' b t
  | str b=>obtain⟨t,rfl⟩:=rx;exact SeqAt.EqAt.str_str a t' b t
  | _=>exact absurd (show false=true from fx) lv
 | _=>exact absurd (show false=true from fy) lv
def eqU (x:V)(u:Value):Bool:=match u with
 | .none=>eqV .non x
 | .bool b=>eqV (.bl b) x
 | .int i _=>eqV (.int i) x
 | .str z _=>eqV (.str z) x
 | _=>false
theorem zgr {x y:V}{u:Value}(r:RelV y u)(f:um y=true):eqU x u=eqV y x:=by
 cases y with
 | non=>cases r;rfl
 | bl b=>cases r;rfl
 | int i=>obtain⟨t,rfl⟩:=r;rfl
 | str z=>obtain⟨t,rfl⟩:=r;rfl
 | _=>exact absurd (show false=true from f) lv
theorem zfw {x:V}:∀{xs:List V}{us:List Value},Vals xs us->xs.all um=true->us.any (eqU x)=xs.any λy=>eqV y x
 | _,_,.nil,_=>rfl
 | y::xs,u::us,.cons r t,f=>by
  rw[lbe,lQ] at f
  rw[lcm,lcm,zgr r f.1,zfw t f.2]
theorem jH {A:Around}{s:Shared}{x:V}{v:Value}(rx:RelV x v)(fx:um x=true):∀{xs:List V}{us:List Value},Vals xs us->xs.all um=true->∀u∈us,SeqAt.EqAt A s u v (eqU x u)
 | _,_,.nil,_=>λu hu=>by cases hu
 | y::xs,u::us,.cons r t,f=>λu' hu=>by
  rw[lbe,lQ] at f
  rcases lz.mp hu with rfl|hu
  ·rw[zgr r f.1];exact znw r rx f.1 fx
  ·exact jH rx fx t f.2 u' hu
def inV (x:V)(xs:List V):Bool:=xs.any λy=>eqV y x
def rIn (K:PySem.W.Frag)(neg:Bool):R2:=λx y H Q=>∃p xs,y=.ref p/\(SqL K H p xs∨SqT K H p xs)/\um x=true/\xs.all um=true/\Q (.bl (if neg then !inV x xs else inV x xs)) H
theorem zhQ:OpR X (compareOp .In) (rIn X.K false):=by
 intro pins s σ H x y v u Q I rx ry h
 obtain⟨p,xs,rfl,hq,fx,fs,q⟩:=h
 cases ry
 rcases hq with hq|hq
 ·obtain⟨its,r,pl,hz⟩:=I.list hq
  refine SeqAt.in_listAt (eqU x) pl.isList (λw hw=>jH rx fx r fs w (by simpa using hw)) ⟨.bl _,H,I,rfl,?_⟩
  rw[show its.toArray.any (eqU x)=its.any (eqU x) by simp,zfw r fs]
  exact q
 ·obtain⟨its,r,pl,hz⟩:=I.tuple hq
  refine SeqAt.in_tupleAt (eqU x) pl (λw hw=>jH rx fx r fs w (by simpa using hw)) ⟨.bl _,H,I,rfl,?_⟩
  rw[show its.toArray.any (eqU x)=its.any (eqU x) by simp,zfw r fs]
  exact q
theorem zfc:jb X (.type "list") (λxs H Q=>∃p ys,xs=[.ref p]/\(SqL X.K H p ys∨SqT X.K H p ys)/\∀l,H l=none->Q (.ref l) (upd H l (.lst ys))):=by
 intro pins s σ H xs us Q I r h
 obtain⟨p,ys,rfl,hq,q⟩:=h
 obtain⟨u,rfl,rx⟩:=vals1 r
 cases rx
 have fin:∀(its:List Value),Vals ys its->ys.length<=sizeLine->∀(h':Heap) (c':Nat),(∀b o',s.heap.get? b=some o'->h'.get? b=some o') ->
   h'.get? s.heap.objs.size=some {cls:=.type "list", dict:=none,data:=.seq its.toArray c',slots:=#[]}->EP X pins σ Q (.ref s.heap.objs.size) {s with heap:=h'}:=λits r' hz h' c' kp e =>
  ⟨.ref s.heap.objs.size,_,I.laid (t':=s.toks) kp (lp _) (show ObjOk X.prog X.w _ h' _ (.lst ys) from⟨hz,its,c',r',e⟩),rfl,q _ (I.hok.fresh (lp _))⟩
 rcases hq with hq|hq
 ·obtain⟨its,r',pl,hz⟩:=I.list hq
  have hlen:=r'.length
  obtain⟨o,ho,hc,n,hd⟩:=pl.isList
  exact call_list_seq p (.inl rfl) ho hc hd (λh' c' kp e=>fin its r' hz h' c' kp e) (by simp only[lG] <;>omega)
 ·obtain⟨its,r',pl,hz⟩:=I.tuple hq
  have hlen:=r'.length
  obtain⟨o,ho,hc,n,hd⟩:=pl
  exact call_list_seq p (.inr rfl) ho hc hd (λh' c' kp e=>fin its r' hz h' c' kp e) (by simp only[lG] <;>omega)
theorem zdk:jb X (.type "tuple") (λxs H Q=>∃p ys,xs=[.ref p]/\((SqL X.K H p ys/\∀l,H l=none->Q (.ref l) (upd H l (.tup ys)))∨(SqT X.K H p ys/\Q (.ref p) H))):=by
 intro pins s σ H xs us Q I r h
 obtain⟨p,ys,rfl,h⟩:=h
 obtain⟨u,rfl,rx⟩:=vals1 r
 cases rx
 rcases h with⟨hq,q⟩|⟨hq,q⟩
 ·obtain ⟨its,r',pl,hz⟩:=I.list hq
  have hlen:=r'.length
  refine call_tuple_list pl.isList (λh' kp=>?_) (by simp only[lG] <;>omega)
  have I1:Inv X pins σ H {s with heap:=h'}:=I.kept (t':=s.toks) kp
  have I2:Inv X pins σ (upd H h'.objs.size (.tup ys)) {s with heap:=h'.push {cls:=.type "tuple", data:=.seq its.toArray} } :=
   I1.laid (t':=s.toks) (λb o e=>lb _ e) (lp _) (show ObjOk X.prog X.w _ _ _ (.tup ys) from⟨hz,its,r',TupD.new _ _⟩)
  exact⟨.ref h'.objs.size,_,I2,rfl,q _ (I1.hok.fresh (lp _))⟩
 ·obtain⟨its,r',pl,hz⟩:=I.tuple hq
  exact call_tuple_same pl ⟨.ref p,H,I,rfl,q⟩
def tyV (K:PySem.W.Frag)(T:String)(x:V)(H:Hp):Prop:=match x with
 | .str _=>T = "str"
 | .int _=>T = "int"
 | .ref p=>(T = "list" /\ ∃xs,SqL K H p xs)∨(T = "tuple" /\ ∃o,K.lookup p=some o/\o.cls=.type "tuple" /\ o.dict=none) ∨
   (T = "dict" /\ ((∃kvs,H p=some (.dK kvs))∨∃kvs,H p=some (.dT kvs)))∨(T = "set" /\ ∃S n,H p=some (.set S n))
 | _=>False
theorem zk0 {pins:List (Addr×Obj)}{σ:St}{H:Hp}{s:Shared}{T:String}{x:V}{v:Value}(I:Inv X pins σ H s)(r:RelV x v)(ty:tyV X.K T x H) :
  s.TypeIs v T/\∀a,v=.ref a->∃ob,s.heap.get? a=some ob/\ob.dict=none:=by
 cases x with
 | str z =>
  obtain⟨t,rfl⟩:=r
  cases (show T = "str" from ty)
  exact⟨typeIs_str s z t,λ_ e=>nomatch e⟩
 | int i =>
  obtain⟨t,rfl⟩:=r
  cases (show T = "int" from ty)
  exact⟨typeIs_int s i t,λ_ e=>nomatch e⟩
 | ref p =>
  cases r
  rcases ty with⟨rfl,xs,hq⟩|⟨rfl,o,hk,hc,hd⟩|⟨rfl,hk⟩|⟨rfl,S,n,hk⟩
  ·obtain⟨its,_,pl,_⟩:=I.list hq
   refine⟨pl.isList.typeIs,λa e=>?_⟩
   cases e
   obtain⟨o,n,e,c,hd,_⟩:=pl
   exact⟨o,e,hd⟩
  ·refine⟨⟨o,I.kIn p o hk,hc⟩,λa e=>?_⟩
   cases e
   exact⟨o,I.kIn _ o hk,hd⟩
  ·have z:∃o,s.heap.get? p=some o/\o.ExactDict:=by
    rcases hk with⟨kvs,hk⟩|⟨kvs,hk⟩
    ·obtain⟨_,_,_,_,o,_,_,e,ex,_⟩:=I.hok p _ hk
     exact⟨o,e,ex⟩
    ·obtain⟨_,_,_,_,o,_,_,e,ex,_⟩:=I.hok p _ hk
     exact⟨o,e,ex⟩
   obtain⟨o,e,ex⟩:=z
   refine⟨⟨o,e,ex.1⟩,λa e2=>?_⟩
   cases e2
   exact⟨o,e,ex.2.1⟩
  ·obtain⟨o,_,_,_,e,ex,_⟩:=I.hok p _ hk
   refine⟨⟨o,e,ex.1⟩,λa e2=>?_⟩
   cases e2
   exact⟨o,e,ex.2.1⟩
 | _=>exact False.elim ty
def zqp (K:PySem.W.Frag)(T:String)(r:V->List V->Hp->VK->Prop)(to:TE):TE:=λσ H Q=>to σ H λx H1=>tyV K T x H1/\r x [] H1 Q
def tBM (K:PySem.W.Frag)(T:String)(r:V->List V->Hp->VK->Prop)(to:TE)(t:TA):TE:=λσ H Q=>to σ H λx H1=>tyV K T x H1/\t σ H1 λxs H2=>r x xs H2 Q
variable {o e:Expr}{es:List Expr}{to:TE}{t:TA}{name:Str}{apos cpos:Pos}{T id:String}{r:V->List V->Hp->VK->Prop}
theorem zk5 (pa:PlainAttrs T)(slot:Slot T name id)(hty:typeOf (.builtin id)=pure (.type "method_descriptor"))(hm:MtR X id r)(ho:PE X o to)
  (hbase:attributeBase o name X.env (eval o X.env)=eval o X.env:=by rfl) (hline:(apos.endLine == cpos.line)=true:=by rfl):PE X (.Call (.Attribute o name apos) [] [] cpos) (zqp X.K T r to):=by
 intro pins s σ H Q I h
 refine wpAny_Call_method0_late hbase hline (thn (ho pins s σ H _ I h) λv s1 zmv=>?_)
 obtain⟨x,H1,I1,r1,ty,q1⟩:=zmv
 obtain⟨h1,h2⟩:=zk0 I1 r1 ty
 exact⟨T,id,pa,slot,hty,h1,h2,lcw rfl (PySem.evalArgs_none (hm pins s1 σ H1 x [] v [] Q I1 r1 .nil q1))⟩
theorem zec (pa:PlainAttrs T)(slot:Slot T name id)(hty:typeOf (.builtin id)=pure (.type "method_descriptor"))(hm:MtR X id r)(ho:PE X o to)(ha:PA X (e::es) t)
  (hbase:attributeBase o name X.env (eval o X.env)=eval o X.env:=by rfl)
  (hfew:((backTo cpos (starEach (e::es) X.env)).all (λx=>!x.1)&&(backToKw cpos (keywordEach [] X.env)).all (λx=>x.1.isSome)
   && decide ((e::es).length+([]:List Keyword).length+(if ([]:List Keyword).isEmpty then 0 else 1)<30))=true:=by rfl)
  (hline:(apos.endLine == cpos.line)=true:=by rfl) (hs:starEach (e::es) X.env=(false,eval e X.env)::starEach es X.env:=by rfl) (hplain:(backTo cpos (starEach es X.env)).any (·.1)=false:=by rfl) :
  PE X (.Call (.Attribute o name apos) (e::es) [] cpos) (tBM X.K T r to t):=by
 intro pins s σ H Q I h
 refine wpAny_Call_method_late hbase hfew hline rfl (thn (ho pins s σ H _ I h) λv s1 zmE=>?_)
 obtain⟨x,H1,I1,r1,ty,q1⟩:=zmE
 obtain⟨h1,h2⟩:=zk0 I1 r1 ty
 refine⟨T,id,pa,slot,hty,h1,h2,?_⟩
 have hA:=ha cpos pins s1 σ H1 _ I1 q1
 rw[hs] at hA ⊢
 refine lcw (by show(false || (backTo cpos (starEach es X.env)).any (·.1))=false;rw[hplain] <;>rfl) (lcI ?_)
 exact thn hA λus s2 ⟨vs,H2,I2,r2,q2⟩=>hm pins s2 σ H2 x vs v us Q I2 r1 r2 q2
/- xs.append(e), list.index on a module's tuple .. are MtR facts of 06m -/
end
def MtM (X:Cx)(id:String)(r:V->List V->Hp->VK->Prop):Prop :=
 ∀ (pins:List (Addr×Obj)) (s:Shared) (σ:St) (H:Hp) (x:V) (xs:List V) (v:Value) (us:List Value) (Q:VK),Inv X pins σ H s->RelV x v->Vals xs us->r x xs H Q ->
  wpAny (model X.prog X.w) X.A (call (.builtin id) (v::us)) (EP X pins σ Q) X.xe s
theorem Vals.one:∀{x:V}{us:List Value},Vals [x] us->∃u,us=[u]/\RelV x u:=by
 intro x us h
 cases h with
 | cons r t=>cases t;exact⟨_,rfl,r⟩
theorem Vals.zero:∀{us:List Value},Vals [] us->us=[]
 | _,.nil=>rfl
theorem Vals.dropLast {xs:List V}{us:List Value}(h:Vals xs us):Vals xs.dropLast us.dropLast:=by
 induction h with
 | nil=>exact .nil
 | cons r t ih =>
  cases t with
  | nil=>exact .nil
  | cons q t'=>exact .cons r ih
theorem Vals.eraseIdx:∀{xs:List V}{us:List Value} (i:Nat),Vals xs us->Vals (xs.eraseIdx i) (us.eraseIdx i)
 | _,_,_,.nil=>.nil
 | _,_,0,.cons _ t=>t
 | _,_,i+1,.cons r t=>.cons r (Vals.eraseIdx i t)
theorem Vals.reverse {xs:List V}{us:List Value}(h:Vals xs us):Vals xs.reverse us.reverse:=by
 induction h with
 | nil=>exact .nil
 | cons r t ih=>rw[lbF,lbF];exact Vals.append ih (.cons r .nil)
theorem Vals.rep {xs:List V}{us:List Value}(h:Vals xs us):∀k:Nat,Vals (List.replicate k xs).flatten (List.replicate k us).flatten
 | 0=>.nil
 | k+1=>by
  rw[la3,la3,laB,laB]
  exact Vals.append h (Vals.rep h k)
theorem zaZ {α:Type}(l:List α):l.eraseIdx (l.length - 1)=l.dropLast:=by
 induction l with
 | nil=>rfl
 | cons a r ih =>
  cases r with
  | nil=>rfl
  | cons b r =>
   have e:(a::b::r).length - 1=((b::r).length - 1)+1:=by
    have h1:(a::b::r).length=r.length+2:=rfl
    have h2:(b::r).length=r.length+1:=rfl
    omega
   rw[e,List.eraseIdx_cons_succ,ih]
   all_goals rfl
theorem ze8 {α:Type}:∀(l:List α) (i:Nat),(l.eraseIdx i).length<=l.length
 | [],_=>lp _
 | _::_,0=>lbW _
 | _::r,i+1=>Nat.succ_le_succ (ze8 r i)
theorem foldl_rep (its:List Value):∀(k:Nat) (acc:List Value),
  List.foldl (λx1 x2=>x1++x2) acc.toArray (List.replicate k its.toArray)=(acc++(List.replicate k its).flatten).toArray
 | 0,acc=>by simp
 | k+1,acc=>by
  have e:acc.toArray++its.toArray=(acc++its).toArray:=by simp
  have e2:(acc++its)++(List.replicate k its).flatten=acc++(List.replicate (k+1) its).flatten:=by
   rw[la3,laB,laL]
  rw[← e2,← foldl_rep its k (acc++its),← e,la3,lan]
section
variable {X:Cx}{pins:List (Addr×Obj)}{σ:St}{H:Hp}{s:Shared}{l b:Addr}{xs ys zs:List V}
theorem Inv.lset {its its':List Value}{n:Nat}{f:Array Value->Array Value}{t':Nat}(I:Inv X pins σ H s)(hH:H l=some (.lst xs))
  (e:s.heap.get? l=some {cls:=.type "list", data:=.seq its.toArray n}) (hf:f its.toArray=its'.toArray) (hv:Vals ys its') (hz:ys.length<=sizeLine) :
  Inv X pins σ (upd H l (.lst ys)) {s with heap:=s.heap.update l (Obj.mapSeq f),toks:=t'}:=by
 have q:=PySem.IsL.update e f
 rw[hf] at q
 refine I.write (x:=l) (e:=l) (by rw[hH];exact trivial) (.inl rfl) (λb' u hb hu=>(Heap.get?_update_other s.heap (Obj.mapSeq f) (la9 hb)).trans hu) ⟨_,q⟩ ?_
 exact⟨hz,its',_,hv,q⟩
theorem Inv.lnew {its:List Value}{t':Nat}(I:Inv X pins σ H s)(hv:Vals ys its)(hz:ys.length<=sizeLine) :
  Inv X pins σ (upd H s.heap.objs.size (.lst ys)) {s with heap:=s.heap.push {cls:=.type "list", data:=.seq its.toArray},toks:=t'} :=
 I.laid (λ_ _ q=>lb _ q) (lp _) ⟨hz,its,0,hv,lx _ rfl⟩
theorem Inv.fresh (I:Inv X pins σ H s):H s.heap.objs.size=none:=I.hok.fresh (lp _)
theorem Inv.lstM (I:Inv X pins σ H s)(hH:H l=some (.lst xs)):xs.length<=sizeLine/\∃(its:List Value) (n:Nat),Vals xs its/\xs.length=its.length/\s.heap.get? l=some {cls:=.type "list", data:=.seq its.toArray n}:=by
 obtain⟨z,its,n,r,e⟩:=I.hok l _ hH
 exact⟨z,its,n,r,r.length,e⟩
theorem zkt {n:Nat}(h:n<=sizeLine):Builtin.List.listTooLong n=false:=by
 unfold Builtin.List.listTooLong
 exact lT (by omega)
end
section
variable {X:Cx}
def zlK:V->List V->Hp->VK->Prop:=λx vs H Q=>∃l xs y,x=.ref l/\vs=[y]/\H l=some (.lst xs)/\xs.length<sizeLine/\Q .non (upd H l (.lst (xs++[y])))
theorem zeS:MtM X "list.append" zlK:=by
 intro pins s σ H x vs v us Q I rx rv h
 obtain⟨l,xs,y,rfl,rfl,hH,hz,q⟩:=h
 cases rx
 obtain⟨u,rfl,ru⟩:=rv.one
 obtain⟨z,its,n,r,hl,e⟩:=I.lstM hH
 refine lbP F.slot_list_append ⟨_,e,rfl⟩ F.entry_list_append (F.args_list_append_2 _ _) (PySem.list_append l its.toArray n u (by rw[lG];omega)) ⟨e,?_⟩
 refine⟨.non,_,I.lset (its':=its++[u]) hH e (by simp) (r.append (.cons ru .nil)) ?_,rfl,q⟩
 rw[lw,laF]
 omega
def zqD:V->List V->Hp->VK->Prop:=λx vs H Q=>∃l xs y,x=.ref l/\vs=[]/\H l=some (.lst xs)/\xs[xs.length - 1]? = some y/\Q y (upd H l (.lst xs.dropLast))
theorem zoF:MtM X "list.pop" zqD:=by
 intro pins s σ H x vs v us Q I rx rv h
 obtain⟨l,xs,y,rfl,rfl,hH,hy,q⟩:=h
 cases rx
 have hus:=rv.zero
 subst hus
 obtain⟨z,its,n,r,hl,e⟩:=I.lstM hH
 obtain⟨u,hu,ru⟩:=r.get hy
 have hy':its.toArray[its.toArray.size - 1]? = some u:=by
  show its.toArray[its.length - 1]? = some u
  rw[← Array.getElem?_toList,← hl]
  exact hu
 refine lbP F.slot_list_pop ⟨_,e,rfl⟩ F.entry_list_pop (F.args_list_pop_1 _) (MeetsSeq.list_pop_last l its.toArray n u hy' (by rw[lG];omega)) ⟨e,?_⟩
 refine⟨y,_,I.lset (its':=its.dropLast) hH e ?_ r.dropLast ?_,ru,q⟩
 ·show its.toArray.eraseIdxIfInBounds (its.toArray.size - 1)=its.dropLast.toArray
  rw[lG,List.eraseIdxIfInBounds_toArray,zaZ]
 ·rw[lbA]
  omega
def zns:V->List V->Hp->VK->Prop:=λx vs H Q=>∃l xs i k y,x=.ref l/\vs=[.int i]/\H l=some (.lst xs)/\-(2 ^ 63)<=i/\i<2 ^ 63/\seqIndex? i xs.length=some k/\xs[k]? = some y/\Q y (upd H l (.lst (xs.eraseIdx k)))
theorem zjX:MtM X "list.pop" zns:=by
 intro pins s σ H x vs v us Q I rx rv h
 obtain⟨l,xs,i,k,y,rfl,rfl,hH,h1,h2,hk,hy,q⟩:=h
 cases rx
 obtain⟨u,rfl,ru⟩:=rv.one
 obtain⟨t,rfl⟩:=ru
 obtain⟨z,its,n,r,hl,e⟩:=I.lstM hH
 obtain⟨w,hw,rw'⟩:=r.get hy
 refine lbP F.slot_list_pop ⟨_,e,rfl⟩ F.entry_list_pop (F.args_list_pop_2 _ _)
  (MeetsSeq.list_pop_at l its.toArray n i t k w (fitsIndex_both h1 h2) (by rw[lG,← hl];exact hk) (by rw[← Array.getElem?_toList];exact hw) (by rw[lG];omega)) ⟨e,?_⟩
 refine⟨y,_,I.lset (its':=its.eraseIdx k) hH e ?_ (r.eraseIdx k) ?_,rw',q⟩
 ·show its.toArray.eraseIdxIfInBounds k=(its.eraseIdx k).toArray
  rw[List.eraseIdxIfInBounds_toArray]
 ·have:=ze8 xs k
  omega
def zoA:V->List V->Hp->VK->Prop:=λx vs H Q=>∃l xs,x=.ref l/\vs=[]/\H l=some (.lst xs)/\Q .non (upd H l (.lst []))
theorem zjw:MtM X "list.clear" zoA:=by
 intro pins s σ H x vs v us Q I rx rv h
 obtain⟨l,xs,rfl,rfl,hH,q⟩:=h
 cases rx
 have hus:=rv.zero
 subst hus
 obtain⟨z,its,n,r,hl,e⟩:=I.lstM hH
 refine lbP F.slot_list_clear ⟨_,e,rfl⟩ F.entry_list_clear (F.args_list_clear_1 _) (AutoSeq1.list_clear_list_0 l its.toArray n (by rw[lG];omega)) ⟨e,?_⟩
 exact⟨.non,_,I.lset (its':=[]) (ys:=[]) hH e rfl .nil (la2 _),rfl,q⟩
theorem len_rep {α:Type}(xs:List α)(k:Nat):(List.replicate k xs).flatten.length=k*xs.length:=by
 induction k with
 | zero=>simp
 | succ k ih=>rw[la3,laB,lw,ih,Nat.succ_mul,Nat.add_comm]
end
section
variable {κ:Type} [DecidableEq κ]
def zfm (kvs:List (κ×V))(k:κ):Option V:=(kvs.find? λkv=>decide (kv.1=k)).map (·.2)
def putK (kvs:List (κ×V))(k:κ)(v:V):List (κ×V) :=
 if (kvs.any λkv=>decide (kv.1=k))=true then kvs.map (λkv=>if kv.1=k then(kv.1,v) else kv) else kvs++[(k,v)]
def zoM (kvs:List (κ×V))(k:κ):List (κ×V):=kvs.filter λkv=>decide (kv.1≠k)
theorem zgS {p:κ×V}{r:List (κ×V)}{k:κ}(e:p.1=k):zfm (p::r) k=some p.2:=by simp[zfm,lbX,e]
theorem zgk {p:κ×V}{r:List (κ×V)}{k:κ}(e:¬p.1=k):zfm (p::r) k=zfm r k:=by simp[zfm,lbX,e]
theorem zft (kvs:List (κ×V))(k:κ)(v:V):(putK kvs k v).length<=kvs.length+1:=by
 unfold putK
 split
 ·rw[ly];omega
 ·rw[lw,lF,lad];omega
theorem RelO.getD {o:Option V}{u:Option Value}{d:V}{d':Value}(r:RelO o u)(rd:RelV d d'):RelV (o.getD d) (u.getD d'):=by
 cases o with
 | none=>cases u with
  | none=>exact rd
  | some _=>exact(show False from r).elim
 | some _=>cases u with
  | none=>exact(show False from r).elim
  | some _=>exact r
theorem KV.val {kvs:List (κ×V)}{vs:List (κ×Value)}(r:KV kvs vs)(k:κ):RelO (zfm kvs k) (valueAt vs k):=by
 unfold KV at r
 induction r with
 | nil=>exact True.intro
 | @cons p q ps qs h t ih =>
  obtain⟨h1,h2⟩:=h
  by_cases e:p.1=k
  ·have e':q.1=k:=h1.symm.trans e
   have b:valueAt (q::qs) k=some q.2:=by simp[valueAt,lbX,e']
   rw[zgS e,b];exact h2
  ·have e':¬q.1=k:=λz=>e (h1.trans z)
   have b:valueAt (q::qs) k=valueAt qs k:=by simp[valueAt,lbX,e']
   rw[zgk e,b];exact ih
theorem KV.any {kvs:List (κ×V)}{vs:List (κ×Value)}(r:KV kvs vs)(k:κ):(kvs.any λkv=>decide (kv.1=k))=vs.any λkv=>decide (kv.1=k):=by
 unfold KV at r
 induction r with
 | nil=>rfl
 | cons h t ih=>rw[lcm,lcm,ih,h.1]
theorem KV.repl {kvs:List (κ×V)}{vs:List (κ×Value)}(r:KV kvs vs)(k:κ){y:V}{u:Value}(ry:RelV y u) :
  KV (kvs.map λkv=>if kv.1=k then(kv.1,y) else kv) (vs.map λkv=>if kv.1=k then(kv.1,u) else kv):=by
 unfold KV at r ⊢
 induction r with
 | nil=>exact .nil
 | @cons p q ps qs h t ih =>
  rw[lC,lC]
  refine .cons ?_ ih
  obtain⟨h1,h2⟩:=h
  by_cases e:p.1=k
  ·rw[lB e,lB (h1.symm.trans e)];exact⟨h1,ry⟩
  ·rw[lW e,lW (λz=>e (h1.trans z))];exact⟨h1,h2⟩
theorem KV.put {kvs:List (κ×V)}{vs:List (κ×Value)}(r:KV kvs vs)(k:κ){y:V}{u:Value}(ry:RelV y u):KV (putK kvs k y) (stored vs k u):=by
 unfold putK stored
 rw[r.any k]
 by_cases e:(vs.any λkv=>decide (kv.1=k))=true
 ·rw[lB e,lB e];exact r.repl k ry
 ·rw[lW e,lW e];exact Paired.snoc r ⟨rfl,ry⟩
theorem KV.drop {kvs:List (κ×V)}{vs:List (κ×Value)}(r:KV kvs vs)(k:κ):KV (zoM kvs k) (without vs k):=by
 unfold KV at r ⊢
 unfold zoM without
 induction r with
 | nil=>exact .nil
 | @cons p q ps qs h t ih =>
  obtain⟨h1,h2⟩:=h
  rw[lc9,lc9]
  by_cases e:p.1=k
  ·have a:¬decide (p.1≠k)=true:=by simp[e]
   have b:¬decide (q.1≠k)=true:=by simp[h1.symm.trans e]
   rw[lW a,lW b];exact ih
  ·have e':¬q.1=k:=λz=>e (h1.trans z)
   have a:decide (p.1≠k)=true:=by simp[e]
   have b:decide (q.1≠k)=true:=by simp[e']
   rw[lB a,lB b];exact .cons ⟨h1,h2⟩ ih
theorem KV.keys {kvs:List (κ×V)}{vs:List (κ×Value)}(r:KV kvs vs):kvs.map (·.1)=vs.map (·.1):=by
 unfold KV at r
 induction r with
 | nil=>rfl
 | cons h t ih=>rw[lC,lC,ih,h.1]
theorem KV.length {kvs:List (κ×V)}{vs:List (κ×Value)}(r:KV kvs vs):kvs.length=vs.length:=Paired.length r
end
theorem znR {P:Program}{w:World}{k:Key}{u:Value}(r:RelV (kV k) u):(v5 P w).is k u=true:=by
 cases k with
 | inl i=>obtain⟨t,e⟩:=(show ∃t,u=Value.int i t from r);subst e;exact zf3 P w i t
 | inr x=>obtain⟨t,e⟩:=(show ∃t,u=Value.str x t from r);subst e;exact zbT P w x t
theorem zfi {P:Program}{w:World}:∀{ks:List Key}{us:List Value},Vals (ks.map kV) us->ItemsAre (v5 P w) ks us
 | [],_,r=>by rw[laN] at r;cases r;exact .nil
 | k::ks,_,r=>by
  rw[lC] at r
  cases r with
  | cons h t=>exact .cons (znR h) (zfi t)
abbrev KT (H:Hp):List (List Key×V)->List (List Key×Addr×Value)->Prop:=Paired λp q=>p.1=q.1/\H q.2.1=some (.tup (p.1.map kV))/\RelV p.2 q.2.2
theorem KT.val {H:Hp}{kvs:List (List Key×V)}{xs:List (List Key×Addr×Value)}(r:KT H kvs xs)(k:List Key):RelO (zfm kvs k) ((atKey xs k).map (·.2)):=by
 induction r with
 | nil=>exact True.intro
 | @cons p q ps qs h t ih =>
  obtain⟨h1,_,h2⟩:=h
  by_cases e:p.1=k
  ·have e':q.1=k:=h1.symm.trans e
   have b:atKey (q::qs) k=some q.2:=by simp[atKey,lbX,e']
   rw[zgS e,b];exact h2
  ·have e':¬q.1=k:=λz=>e (h1.trans z)
   have b:atKey (q::qs) k=atKey qs k:=by simp[atKey,lbX,e']
   rw[zgk e,b];exact ih
section
variable {P:Program}{w:World}{H:Hp}{h:Heap}{a:Addr}
theorem zoq {u:HO}(ok:HOk P w H h)(e:Rd H a u):ObjOk P w H h a u:=e.ok ok
theorem zoD {kvs:List (Key×V)}(ok:HOk P w H h)(e:Rd H a (.dK kvs)):kvs.length<=sizeLine/\(a == sysModules)=false/\∃vs,KV kvs vs/\h.DictOf (v5 P w) a vs :=
 show ObjOk P w H h a (.dK kvs) from zoq ok e
theorem zli {ks:List Key}(ok:HOk P w H h)(e:H a=some (.tup (ks.map kV))):(tupleKind (v5 P w)).is h ks a:=by
 obtain⟨_,its,r,o,h1,h2,⟨n,h3⟩,_⟩:=(show ObjOk P w H h a (.tup (ks.map kV)) from ok a _ e)
 exact⟨o,its.toArray,n,h1,h2,h3,by simpa using zfi r⟩
theorem zna {kvs:List (List Key×V)}(ok:HOk P w H h)(e:Rd H a (.dT kvs)):kvs.length<=sizeLine/\(a == sysModules)=false /\
  ∃xs,KT H kvs xs/\h.DictOfH (tupleKind (v5 P w)) a xs:=by
 obtain⟨z,y,xs,r,o,es,ep,h1,h2,h3,h4,h5⟩:=(show ObjOk P w H h a (.dT kvs) from zoq ok e)
 refine⟨z,y,xs,r,o,es,ep,h1,h2,h3,h4,λx hx=>?_,h5⟩
 have all:∀{l:List (List Key×V)}{m:List (List Key×Addr×Value)},KT H l m->∀x∈m,(tupleKind (v5 P w)).is h x.1 x.2.1:=by
  intro l m q
  induction q with
  | nil=>intro x hx;exact nomatch hx
  | @cons p q ps qs hq t ih =>
   intro x hx
   rcases lz.mp hx with e|hx
   ·subst e
    exact zli ok (by rw[← hq.1];exact hq.2.1)
   ·exact ih x hx
 exact all r x hx
end
def DGet (H:Hp)(a:Addr)(y:V)(r:Option V):Prop :=
 (∃kvs k,Rd H a (.dK kvs)/\y=kV k/\r=zfm kvs k)∨∃kvs k b,Rd H a (.dT kvs)/\y=.ref b/\H b=some (.tup (k.map kV))/\r=zfm kvs k
theorem DGet.k {H:Hp}{a:Addr}{kvs:List (Key×V)}{k:Key}(e:H a=some (.dK kvs)):DGet H a (kV k) (zfm kvs k):=.inl ⟨kvs,k,.inl e,rfl,rfl⟩
section
variable {X:Cx}{pins:List (Addr×Obj)}{σ:St}{H:Hp}{s:Shared}{a:Addr}{y v:V}{u r:Value}{o:Option V}{A:Around}{E:Value->Shared->Prop}
theorem Inv.big (I:Inv X pins σ H s):sysModules<s.heap.objs.size:=by
 have h:mainGlobals<s.heap.objs.size:=(I.mod.glob.keeps I.bk).lt
 exact ldh (by decide) h
theorem zi7 {Q:Value->Shared->Prop}(hu:A.units+1<cLine)(I:Inv X pins σ H s)(g:DGet H a y (some v))(ry:RelV y u)(h:∀w' s',Inv X pins σ H s'->RelV v w'->Q w' s') :
  wpAny (model X.prog X.w) A (getItem (.ref a) u) Q E s:=by
 rcases g with⟨kvs,k,e,ey,l⟩|⟨kvs,k,b,e,ey,eb,l⟩
 ·subst ey
  obtain⟨z,hd,vs,rel,dd⟩:=zoD I.hok e
  obtain⟨w',hw,rw'⟩:=RelO.some_of (v:=v) (o:=valueAt vs k) (by rw[l];exact rel.val k)
  exact wpAny_getItem_of (znR ry) dd.mapOf hw (h w' _ (I.tok _) rw')
 ·subst ey
  cases (show u=Value.ref b from ry)
  obtain⟨z,hd,xs,rel,dd⟩:=zna I.hok e
  obtain⟨w',hw,rw'⟩:=RelO.some_of (v:=v) (o:=(atKey xs k).map (·.2)) (by rw[l];exact rel.val k)
  obtain⟨p,hp,hp2⟩:=Option.map_eq_some_iff.mp hw
  refine wpAny_getItem_heap (tupleKind_room_in1 hu) (zli I.hok eb) dd hp ?_
  rw[hp2]
  exact h w' _ (I.tok _) rw'
end
def zpg (i:Expr):Prop:=∀ov iv,subscripted i false ov iv=operate [ov,iv] (getItem ov iv)
theorem zmx {prog:Program}{w:World}{A:Around}{E:Value->Shared->Prop}{s:Shared}{env:Env}{value slice:Expr}{pos:Pos}{T id:String}{Q:Value->Shared->Prop}
  (hl:typeLookup (.type T) "__getitem__" = pure (some (.builtin id))) (hs:zpg slice)
  (h:wpAny (model prog w) A (eval value env) (λo s₁=>wpAny (model prog w) A (eval slice env) (λi s₂=>s₂.TypeIs o T/\wpAny (model prog w) A (getItem o i) Q E s₂) E s₁) E s) :
  wpAny (model prog w) A (eval (.Subscript value slice pos) env) Q E s:=by
 refine Subscript_ (lai h (λo s₁ h₁=>lai h₁ (λi s₂ h₂=>?_) λ_ _ x=>x) λ_ _ x=>x)
 obtain⟨hT,h₂⟩:=h₂
 unfold subscriptTail
 refine la ?_
 rw[getitemInPython_of_ne hT.not_modules]
 refine la (wpAny_specialOf hT hl ?_)
 have fin:wpAny (model prog w) A (subscripted slice false o i) (λr s₃=>wpAny (model prog w) A (letTemporaryGo value o r >>= λ_=>pure r) Q E s₃) E s₂:=by
  rw[hs o i]
  exact wpAny_operating (lai h₂ (λr s₃ h₃=>la (wpAny_letTemporaryGo (lj h₃))) λ_ _ x=>x)
 first
  | exact lj (la fin)
  | exact la (lj (la fin))
  | exact la fin
theorem zfQ {X:Cx}{pins:List (Addr×Obj)}{σ:St}{H:Hp}{s:Shared}{a:Addr}{y:V}{o:Option V}(I:Inv X pins σ H s)(g:DGet H a y o):s.TypeIs (.ref a) "dict" := by
 rcases g with⟨kvs,k,e,_,_⟩|⟨kvs,k,b,e,_,_,_⟩
 ·obtain⟨_,_,vs,_,dd⟩:=zoD I.hok e
  exact dd.typeIs
 ·obtain⟨_,_,xs,_,dd⟩:=zna I.hok e
  exact dd.typeIs
def zps (td ty:TE):TE:=λσ H Q=>td σ H λx H1=>ty σ H1 λy H2=>∃a v,x=.ref a/\DGet H2 a y (some v)/\Q v H2
section
variable {X:Cx}{o i e value:Expr}{pos pos' tpos:Pos}{td ty tv:TE}
theorem zlG (hu:X.A.units+1<cLine)(ho:PE X o td)(hi:PE X i ty)(hs:zpg i):PE X (.Subscript o i pos) (zps td ty):=by
 intro pins s σ H Q I h
 refine zmx PySem.F.slot_dict_getitem.lookup hs (thn (ho pins s σ H _ I h) λu s1 ⟨x,H1,I1,rx,q1⟩=>thn (hi pins s1 σ H1 _ I1 q1) λiv s2 zoV=>?_)
 obtain⟨y,H2,I2,ry,a,v,ex,g,q2⟩:=zoV
 subst ex
 obtain rfl:u=Value.ref a:=rx
 exact⟨zfQ I2 g,zi7 hu I2 g ry λw' s3 I3 rw'=>⟨v,H2,I3,rw',q2⟩⟩
end
end L2
namespace Att
open PySem PySem.W PySem.Calls PyProof.Rows
theorem zcG {P:Params}{h:Heap}:∀(ns:List Int) (vs:List Value),WellAll P h vs (ns.map WData.int)->IntsAre vs ns:=by
 intro ns
 induction ns with
 | nil =>
  intro vs w
  rw[laN] at w
  cases w
  exact .nil
 | cons n ns ih =>
  intro vs w
  rw[lC] at w
  cases w with
  | cons a b =>
   cases a
   exact .cons _ _ (ih _ b)
theorem zji {l:OpenLaw}{n:Nat}(hn:l.most=some n){P:Params}{h:Heap}{args:List WData}{vals:List Value}
  (hpre:l.row.toRowW.claim.pre args=true) (hwl:WellAll P h vals args) :
  ∃a vs ns,vals=[Value.ref a]/\args=[WData.list (ns.map WData.int)]/\h.get? a=some {cls:=.type "list", data:=.seq vs.toArray}/\IntsAre vs ns/\ns.length<=n:=by
 have hsh:WShape.hasAll [] args [.list .int]=true:=(pre_splitW hpre).1
 have hc:l.pre.holds [] {args:=args}=true:=(pre_splitW hpre).2
 obtain⟨d,r,rfl,h1,h2⟩:=hasAllW_cons hsh
 obtain rfl:=hasAllW_nil h2
 obtain⟨xs,rfl,h3⟩:=hasW_list h1
 obtain⟨ns,rfl⟩:=items_int h3
 have hlen:ns.length<=n:=by
  unfold OpenLaw.pre at hc
  have h4:(WTm.not (.lt (.lit (.int (n:Int))) (.len (.arg 0)))).holds [] {args:=[.list (ns.map .int)]}=true:=by
   have h4:=(holds_andW hc).1
   rw[hn] at h4
   exact h4
  have h5:=condW_of h4 (w_not (w_lt w_lit (w_len_list (w_arg rfl))))
  rw[ly] at h5
  refine Nat.le_of_not_lt λq=>?_
  have q':(n:Int)<((ns.length:Nat):Int):=by omega
  first
   | (rw[lS q'] at h5;exact absurd h5 (by decide))
   | (simp at h5;omega)
 cases hwl with
 | cons w1 w2 =>
  cases w2
  cases w1 with
  | list ho hall=>exact⟨_,_,ns,rfl,rfl,ho,zcG ns _ hall,hlen⟩
theorem zja (l:OpenLaw)(args:List WData):l.row.toRowW.claim.post args (.bool true) args=true :=
 postW_of (r:=l.row.toRowW) (X:=(true == true))
  (show WShape.has [] (.bool true) .bool=true by first|rfl|decide|simp[WShape.has,WShape.arms,WShape.armsAll])
  (show(WTm.eq .res (.lit (.bool true))).value [] {args:=args,res:=some (.bool true),after:=args}=some (.bool (true == true)) from w_eq_bool (w_res rfl) w_lit) rfl
theorem attach_call {l:OpenLaw}{n:Nat}{q:Program}{loose:List Str}{XP:(Str->Option Value)->Heap->Prop}{YP:World->Heap->Prop}{d:DefRec}
  (hn:l.most=some n) (hdf:d.params.defaults=[])
  (call:∀(w:World) (s₀ s₁:Shared) (mg mb:Str->Option Value) (fa:Addr) (o:Obj) (pm cd doc:Value) (a:Addr) (vs:List Value) (ns:List Int),
   Ground q loose [] XP w s₀ mg mb s₁.heap->YP w s₁.heap ->
   s₁.heap.get? fa=some o->o.data=.func (docDef d.name d.params d.body d.scope pm cd doc)->s₁.heap.CodeRec cd d.name->mg d.name=some (.ref fa) ->
   s₁.heap.get? a=some {cls:=.type "list", data:=.seq vs.toArray}->IntsAre vs ns->ns.length<=n->s₁.gens = #[] ->
   codeAny (model l.prog w) callerA (.call (.ref fa) ⟨[.ref a],[]⟩) (λr s'=>r=.ok (.ret (.bool true))/\OldK s₁.heap s'.heap/\s'.os=s₁.os/\AllBare s'.gens) s₁) :
  WalkO q loose XP YP l.row.toRowW d [] (λf vs=>PySem.call f vs):=by
 intro w s₀ s₁ mg mb G Y fa o pm cd doc dV kV ho hd hcd hD hmg hg args vals as hpre hlay hrd hwl hlo
 obtain rfl:dV=.none:=Dflts.none hD hdf
 obtain rfl:kV=.none:=Dflts.noKw hD
 obtain⟨a,vs,ns,rfl,rfl,hobj,hints,hlen⟩:=zji hn hpre hwl
 refine enter_call (lci (call w s₀ s₁ mg mb fa o pm cd doc a vs ns G Y ho (fd_plain hd) hcd hmg hobj hints hlen hg) λr s' hq=>?_)
 obtain⟨rfl,h2,h3,h4⟩:=hq
 exact⟨.inl ⟨.bool true,.bool true,[],rfl,λ_=>rfl,.bool true,zja l _,λ_=>⟨List.Pairwise.nil,λ_ hm=>(nomatch hm)⟩⟩,h2,h3,h4⟩
section
variable {prog:Program}{w:World}{A:Around}{E:Value->Shared->Prop}{s:Shared}{K:Frag}
end
end Att
namespace L2
open PySem PySem.Spec PyProof.Rows
theorem zeW:∀{vs:List Value}{ns:List Int},IntsAre vs ns->Vals (ns.map V.int) vs
 | _,_,.nil=>.nil
 | _,_,.cons n t h=>.cons ⟨t,rfl⟩ (zeW h)
def Only (H:Hp):Prop:=∀b,H b=none∨∃o xs,H b=some (.frz o (.lst xs))
theorem zj6 {P:Program}{w:World}{K:PySem.W.Frag}{mg mb:Str->Option Value}{CX:CXT}{k:Nat}{fa a:Addr}{fd:FuncData}{x:Str}{sp:Sp}{s₁:Shared}{vs:List Value}{ns:List Int}
  (KX:K.In s₁.heap) (hns:s₁.heap.Ns mainGlobals mg) (hb:s₁.heap.Ns builtinsNs mb) (hbb:∀x:Str,x ≠ "__name__" -> mb x=bootBuiltins x) (hlim:s₁.heap.NoLimit) (hg:s₁.gens = #[])
  (ha:s₁.heap.get? a=some {cls:=.type "list", data:=.seq vs.toArray}) (hi:IntsAre vs ns) (hl:ns.length<=sizeLine) (hr:Room k callerA)
  (F:∀base:Heap,K.In base->base.Ns mainGlobals mg->FnOk P w K mg base CX k fa fd [x] sp) (hbind:∀(s:Shared) (u:Value),BindsTo s fd ⟨[u],[]⟩ [(x,u)])
  (hsp:∀H:Hp,Only H->SqL K H a (ns.map V.int)->sp [.ref a] H (λv _=>v=.bl true) λ_ _ _=>False)
  (hCX:∀H e s',CX [] H s₁ (λ_ _ _=>False) e s'->False) :
  codeAny (model P w) callerA (.call (.ref fa) ⟨[.ref a],[]⟩) (λr s'=>r=.ok (.ret (.bool true))/\OldK s₁.heap s'.heap/\s'.os=s₁.os/\AllBare s'.gens) s₁:=by
 have rv:=zeW hi
 have lenV:=hi.length
 have core:∀H:Hp,Only H->SqL K H a (ns.map V.int)->HOk P w H s₁.heap->(∀b,H b≠none->b=a)->(H a≠none->K.lookup a=none) ->
   codeAny (model P w) callerA (.call (.ref fa) ⟨[.ref a],[]⟩) (λr s'=>r=.ok (.ret (.bool true))/\OldK s₁.heap s'.heap/\s'.os=s₁.os/\AllBare s'.gens) s₁:=by
  intro H hO hS hok hA hK
  have base_of:∀{b:Addr}{o:Obj},s₁.heap.get? b=some o->H b=none->(zjK s₁.heap H).get? b=some o:=λe n=>zj2 e n
  have noA:∀{b:Addr}{o:Obj}{es:Array DictEntry}{ep:Nat},s₁.heap.get? b=some o->o.data=.dict es ep->H b=none:=λ{b o es ep} e d=>by
   cases q:H b with
   | none=>rfl
   | some u =>
    have e':b=a:=hA b (by rw[q];simp)
    subst e'
    rw[ha] at e;cases e
    have d':Data.seq vs.toArray _=Data.dict es ep:=d
    cases d'
  have nsK:∀{b:Addr}{m:Str->Option Value},s₁.heap.Ns b m->(zjK s₁.heap H).Ns b m:=λ{b m} ⟨o,es,ep,e,d,r⟩=>⟨o,es,ep,base_of e (noA e d),d,r⟩
  have hKb:K.In (zjK s₁.heap H):=λb o e=>base_of (KX b o e) (by
   cases q:H b with
   | none=>rfl
   | some u =>
    have e':b=a:=hA b (by rw[q];simp)
    subst e'
    rw[hK (by rw[q];simp)] at e;cases e)
  have hM:Mod K mg (zjK s₁.heap H):=⟨hKb,nsK hns,⟨mb,nsK hb,hbb⟩,let ⟨mc,h1,h2⟩:=hlim;⟨mc,nsK h1,h2⟩⟩
  have e0:Env0 P w K mg (zjK s₁.heap H) callerA [] s₁ H:=⟨rfl,hM,λb o e=>zmo e,ldg (zhL _ _),trivial,λb hb=>absurd (show b∈([]:List Addr) from hb) (by simp),hok,.of_eq hg⟩
  refine lci ((F _ hKb (nsK hns)).run callerA [] s₁ H ⟨[.ref a],[]⟩ [.ref a] [.ref a] _ _ hr e0 (hbind s₁ (.ref a)) (.cons rfl .nil) (hsp H hO hS)) λr s' h=>?_
  cases r with
  | error e=>exact(hCX H e s' h).elim
  | ok fl =>
   cases fl with
   | next=>exact False.elim h
   | brk=>exact False.elim h
   | cont=>exact False.elim h
   | ret u =>
    obtain⟨v,H',os,bare,un,hok',r',q⟩:=h
    have q':v=.bl true:=q
    subst q'
    obtain rfl:u=Value.bool true:=r'
    refine⟨rfl,OldK.of_keep λb o e=>?_,os,bare⟩
    cases q:H b with
    | none=>exact un.keep b o e q (by intro z;exact absurd (show b∈([]:List Addr) from z) (by simp)) (by simp)
    | some u =>
     rcases hO b with z|⟨ob,xs,z⟩
     ·rw[q] at z;cases z
     ·have z2:=un.frzs b ob _ z
      obtain⟨e1,_⟩:=hok b _ z
      obtain⟨e2,_⟩:=hok' b _ z2
      rw[e] at e1;cases e1
      exact e2
 cases hk:K.lookup a with
 | some o =>
  have e:=KX a o hk
  rw[ha] at e
  cases e
  refine core (λ_=>none) (λ_=>.inl rfl) (.inr ⟨_,vs.toArray,_,hk,rfl,rfl,rfl,by rw[lG,lenV];exact hl,by simpa using rv⟩) (λb u z=>by have z':(none:Option HO)=some u:=z;cases z') (λb z=>absurd rfl z) λz=>absurd rfl z
 | none =>
  refine core (λb=>if b=a then some (.frz {cls:=.type "list", data:=.seq vs.toArray} (.lst (ns.map V.int))) else none) (λb=>?_) (.inl (.inr ⟨{cls:=.type "list", data:=.seq vs.toArray},lB rfl⟩)) (λb u z=>?_) (λb z=>?_) λ_=>hk
  ·by_cases hb:b=a
   ·exact .inr ⟨_,_,lB hb⟩
   ·exact .inl (lW hb)
  ·by_cases hb:b=a
   ·have z':=(lB hb).symm.trans z
    cases z'
    subst hb
    exact⟨ha,by rw[ly];exact hl,vs,_,rv,ha⟩
   ·have z':=(lW hb).symm.trans z
    cases z'
  ·by_cases hb:b=a
   ·exact hb
   ·exact absurd (lW hb) z
theorem walk_of {l:PySem.W.OpenLaw}{n k:Nat}{q:Program}{loose:List Str}{XP:(Str->Option Value)->Heap->Prop}{YP:World->Heap->Prop}{d:DefRec}{K:Params->PySem.W.Frag}{CX:World->CXT}{sp:World->Sp}{x:Str}
  (hn:l.most=some n) (hn2:n<=sizeLine) (hdf:d.params.defaults=[]) (hr:Room k callerA)
  (hY:∀(w:World) (h:Heap),YP w h->(K w.params).In h)
  (F : ∀(w:World) (mg:Str->Option Value) (fa:Addr) (h:Heap),(K w.params).In h->h.Ns mainGlobals mg->mg d.name=some (.ref fa) ->
   ∃ fd:FuncData,(∀(s:Shared) (u:Value),BindsTo s fd ⟨[u],[]⟩ [(x,u)]) /\
    ∀base:Heap,(K w.params).In base->base.Ns mainGlobals mg->FnOk l.prog w (K w.params) mg base (CX w) k fa fd [x] (sp w))
  (hsp:∀(w:World) (H:Hp) (a:Addr) (ns:List Int),ns.length<=n->Only H->SqL (K w.params) H a (ns.map V.int)->sp w [.ref a] H (λv _=>v=.bl true) λ_ _ _=>False)
  (hCX:∀(w:World) (H:Hp) (s:Shared) (e:Value) (s':Shared),CX w [] H s (λ_ _ _=>False) e s'->False) :
  PySem.W.WalkO q loose XP YP l.row.toRowW d [] (λf vs=>PySem.call f vs):=by
 refine Att.attach_call hn hdf λw s₀ s₁ mg mb fa o pm cd doc a vs ns G Y ho hd hcd hmg hobj hints hlen hg=>?_
 have KX:=hY w _ Y
 obtain⟨fd,hb,hF⟩:=F w mg fa _ KX G.T.g hmg
 exact zj6 KX G.T.g G.T.b G.T.builtins G.T.nolimit hg hobj hints (lX hlen hn2) hr hF hb (λH hO hS=>hsp w H a ns hlen hO hS) λH e s'=>hCX w H s₁ e s'
def inClass (s:Stmt)(j:Nat):Stmt:=match s with
 | .ClassDef _ _ _ body _ _ _ _ _ _ _=>body.getD j (.Pass ⟨0,0,0,0⟩)
 | _=>.Pass ⟨0,0,0,0⟩
def jj (s:Stmt):Arguments:=match s with
 | .FunctionDef _ a _ _ _ _ _ _ _ _=>a
 | _=>{posonlyargs:=[],args:=[],vararg:=none,kwonlyargs:=[],kw_defaults:=[],kwarg:=none,defaults:=[]}
def xq (s:Stmt):List Stmt:=match s with
 | .FunctionDef _ _ b _ _ _ _ _ _ _=>b
 | _=>[]
def zm (s:Stmt):Scope:=match s with
 | .FunctionDef _ _ _ _ _ _ sc _ _ _=>sc
 | _=>{kind:=.function,names:=[],isGenerator:=false,isCoroutine:=false}
abbrev CX0:CXT:=λ_ _ _ _ _ _=>False
abbrev E0:XK:=λ_ _ _=>False
structure Fun (K:PySem.W.Frag)(x qual:Str)(st:Stmt)(f:Addr)(fd:FuncData):Prop where
 ex:∃(oc:Value) (od:Option Addr) (kV doc pm:Value) (an:Option Addr) (cdv ct:Value) (osl:Array (Option Value)),
  fd=PySem.W.fnOf x qual (jj st) (xq st) (zm st) .none kV doc pm an cdv ct/\K.lookup f=some ⟨oc,od,.func fd,osl⟩/\PySem.W.codeIn K cdv qual=true
 kp:PySem.W.keepIn K (.ref f)=true
section
variable {P:Program}{w:World}{K:PySem.W.Frag}{mg:Str->Option Value}{base:Heap}
theorem Fun.ok {x qual:Str}{st:Stmt}{f:Addr}{fd:FuncData}{N ps:List Str}{k:Nat}{sp:Sp}(F:Fun K x qual st f fd)(S:FnScope N ps (zm st))(len:∀vs H Q E,sp vs H Q E->vs.length=ps.length)
  (hbody:∀(cdv:Value) (A:Around) (outer:List Env) (s:Shared) (H:Hp) (vs:List V) (Q:VK) (E:XK),Room k (A.deeper (envOfC qual (zm st) s.heap.objs.size f cdv))->sp vs H Q E ->
   ∃t,PSs (jc CX0 P w K mg base N qual (zm st) f cdv A outer s H E).nox (xq st) t/\t {nx:=λ_ H'=>Q .non H',rt:=Q} (start N vs) H):FnOk P w K mg base CX0 (k+1) f fd ps sp:=by
 obtain⟨oc,od,kV,doc,pm,an,cdv,ct,osl,rfl,lk,hcd⟩:=F.ex
 refine zof lk hcd S len λA outer s H vs Q E hr hsp=>?_
 obtain⟨t,h,q⟩:=hbody cdv A outer s H vs Q E hr hsp
 exact⟨t,h.nox,q⟩
theorem Fun.binds {x qual:Str}{st:Stmt}{f:Addr}{fd:FuncData}{ps:List Str}(F:Fun K x qual st f fd)
  (h:∀(kV doc pm:Value) (an:Option Addr) (cdv ct:Value) (us:List Value),us.length=ps.length->bindArgs (PySem.W.fnOf x qual (jj st) (xq st) (zm st) .none kV doc pm an cdv ct) ⟨us,[]⟩=pure (ps.zip us)):Binds K fd ps []:=by
 obtain⟨oc,od,kV,doc,pm,an,cdv,ct,osl,rfl,lk,hcd⟩:=F.ex
 exact .all (h kV doc pm an cdv ct)
theorem zeH {x qual:Str}{st:Stmt}{f:Addr}{oc:Value}{od an:Option Addr}{osl:Array (Option Value)}{kV doc pm cdv ct:Value}(l:K.lookup f=some ⟨oc,od,.func (PySem.W.fnOf x qual (jj st) (xq st) (zm st) .none kV doc pm an cdv ct),osl⟩)
  (c:PySem.W.codeIn K cdv qual=true) (k:PySem.W.keepIn K (.ref f)=true):Fun K x qual st f (PySem.W.fnOf x qual (jj st) (xq st) (zm st) .none kV doc pm an cdv ct):=⟨⟨oc,od,kV,doc,pm,an,cdv,ct,osl,rfl,l,c⟩,k⟩
end
theorem zpc {A:Around}{k:Nat}(hr:Room k A):A.units+1<cLine:=Nat.lt_of_le_of_lt (Nat.add_le_add_left (by decide:1<=64) _) hr.units
section
variable {X:Cx}
theorem pv (i:Nat){x:Str}{pos:Pos}(hN:X.N[i]? = some x:=by rfl)(hv:Vis X.env.scope x:=by first|exact Or.inl rfl|exact Or.inr (Or.inl rfl)|exact Or.inr (Or.inr rfl))(hd:(x == ("__debug__" : Str))=false:=by decide)
  (hcd:(x == ("__classdict__" : Str))=false:=by decide):PE X (.Name x pos) (zcH i):=zle hN hv hd hcd
end
def Same (H H':Hp):Prop:=∀b o,H b=some o->H' b=some o
theorem Same.refl (H:Hp):Same H H:=λ_ _ h=>h
theorem Same.trans {H H1 H2:Hp}(a:Same H H1)(b:Same H1 H2):Same H H2:=λc o h=>b c o (a c o h)
theorem Same.free {H H':Hp}(e:Same H H'){l:Addr}(h:H' l=Option.none):H l=Option.none:=by
 cases q:H l with
 | none=>rfl
 | some o =>
  rw[e l o q] at h
  cases h
theorem Same.seq {K:PySem.W.Frag}{H H':Hp}{a:Addr}{xs:List V}(e:Same H H')(h:SqL K H a xs):SqL K H' a xs:=by
 rcases h with(h|⟨o,h⟩)|h
 ·exact .inl (.inl (e _ _ h))
 ·exact .inl (.inr ⟨o,e _ _ h⟩)
 ·exact .inr h
end L2
namespace My
def low (u d:Int):Int×Int:=(u / (Int.gcd u d:Int),d / (Int.gcd u d:Int))
end My
namespace Zp
open PySem
section
variable {prog:Program}{w:World}{A:Around}{E:Value->Shared->Prop}{s:Shared}
theorem za8 {it t:Addr}{i:Nat}{items}{x:Value}{Q:Value->Shared->Prop}(hit:s.heap.IsTupleIter it t i)
  (ht:s.heap.IsTuple t items) (hx:items[i]? = some x)
  (hQ:∀h',h'.IsTupleIter it t (i+1)->Heap.SameBut it s.heap h'->Q x {s with heap:=h'}) :
  wpAny (model prog w) A (Builtin.SmallTypes.nextOf (.ref it)) Q E s:=by
 obtain⟨o,ho,hc,hd⟩:=id hit
 obtain⟨ol,hol,_,nl,hdl⟩:=ht
 unfold Builtin.SmallTypes.nextOf
 refine la (lM (name:=Str.ofString "__next__") hit.typeIs lbq
  (lac lbq hit.typeIs F.entry_tuple_iterator_next ?_ (F.args_tuple_iterator_next_1 _)))
 show wpAny _ _ (field (.ref it) 0 >>= _) _ _ s
 refine la (lV ho hd (x:=.ref t) rfl ?_)
 show wpAny _ _ (if (Value.ref t == Value.none)=true then _ else _) _ _ s
 rw[lW (show ¬((Value.ref t == Value.none)=true) from lv)]
 show wpAny _ _ (field (.ref it) 1 >>= _) _ _ s
 refine la (lV ho hd (x:=.int i 0) rfl ?_)
 show wpAny _ _ (seqItems? (.ref t) >>= _) _ _ s
 refine la (laH hol hdl ?_)
 simp only[laj,hx]
 refine la (lb7 ho hd (by simp) (lj ⟨x,rfl,lj (hQ _ ?_ (lbn ..))⟩))
 exact ⟨_,lcD _ ho (lcE (lbu hd _)),(lc5 ..).trans hc,by
  rw[lbu hd];simp[rawInt]⟩
theorem zbI {it t:Addr}{i:Nat}{items}{Q:Value->Shared->Prop}(hh:A.handled=none)
  (hit:s.heap.IsTupleIter it t i) (ht:s.heap.IsTuple t items) (hx:items[i]? = none)
  (hE:∀h' e,Heap.ExtBut it s.heap h'->(∃o,h'.get? e=some o/\o.cls=.type "StopIteration")->E (.ref e) {s with heap:=h'}) :
  wpAny (model prog w) A (Builtin.SmallTypes.nextOf (.ref it)) Q E s:=by
 obtain⟨o,ho,hc,hd⟩:=id hit
 obtain⟨ol,hol,_,nl,hdl⟩:=ht
 unfold Builtin.SmallTypes.nextOf
 refine la (lM (name:=Str.ofString "__next__") hit.typeIs lbq
  (lac lbq hit.typeIs F.entry_tuple_iterator_next ?_ (F.args_tuple_iterator_next_1 _)))
 show wpAny _ _ (field (.ref it) 0 >>= _) _ _ s
 refine la (lV ho hd (x:=.ref t) rfl ?_)
 show wpAny _ _ (if (Value.ref t == Value.none)=true then _ else _) _ _ s
 rw[lW (show ¬((Value.ref t == Value.none)=true) from lv)]
 show wpAny _ _ (field (.ref it) 1 >>= _) _ _ s
 refine la (lV ho hd (x:=.int i 0) rfl ?_)
 show wpAny _ _ (seqItems? (.ref t) >>= _) _ _ s
 refine la (laH hol hdl ?_)
 simp only[laj,hx]
 refine la (lcB (la (lb7 ho hd (by simp) ?_)))
 show wpAny _ _ (newExc (.type "StopIteration") [] >>= _) _ _ _
 refine la ?_
 simp only[newExc,newTuple]
 refine la (laA ?_ (by size_fits))
 refine la (m:=firstArgMember _ _) (wpAny_of_eq (a:=Value.none) (by first|rfl|(simp only[firstArgMember];rfl)) ?_)
 refine laA ?_ (by size_fits)
 simp only[raiseNew]
 refine la (wpAny_handled ?_)
 first|rw[show A.in1.handled=none from hh] | rw[hh]
 refine la (lj (wpAny_throw ?_))
 exact hE _ _ (((lbn ..).extBut.push _).push _) ⟨_,lx _ rfl,rfl⟩
theorem zbg {it:Addr}{x:Str}{t:Tok}{i c:Nat}{Q:Value->Shared->Prop}(hit:s.heap.IsStrIter it "str_ascii_iterator" x t i)(hx:x.cps[i]? = some c)
  (hQ:∀h',h'.IsStrIter it "str_ascii_iterator" x t (i+1)->Heap.SameBut it s.heap h'->Q (.str ⟨#[c]⟩ s.toks) {s with heap:=h',toks:=s.toks+1}) :
  wpAny (model prog w) A (Builtin.SmallTypes.nextOf (.ref it)) Q E s:=by
 obtain⟨o,ho,hc,hd⟩:=id hit
 unfold Builtin.SmallTypes.nextOf
 refine la (lM (name:=Str.ofString "__next__") hit.typeIs la6
  (lac la6 hit.typeIs F.entry_str_ascii_iterator_next ?_ (F.args_str_ascii_iterator_next_1 _)))
 show wpAny _ _ (field (.ref it) 0 >>= _) _ _ s
 refine la (lV ho hd (x:=.str x t) rfl ?_)
 show wpAny _ _ (field (.ref it) 1 >>= _) _ _ s
 refine la (lV ho hd (x:=.int i 0) rfl ?_)
 simp only[laj,hx]
 refine la (lb7 ho hd (by simp) (la (wpAny_mkStr (lj ⟨_,rfl,lj (hQ _ ?_ (lbn ..))⟩) (by show 1<=sizeLine;decide))))
 exact ⟨_,lcD _ ho (lcE (lbu hd _)),(lc5 ..).trans hc,by
  rw[lbu hd];simp[rawInt]⟩
theorem zbz {it:Addr}{x:Str}{t:Tok}{i:Nat}{Q:Value->Shared->Prop}(hh:A.handled=none)
  (hit:s.heap.IsStrIter it "str_ascii_iterator" x t i) (hx:x.cps[i]? = none)
  (hE:∀h' e,Heap.ExtBut it s.heap h'->(∃o,h'.get? e=some o/\o.cls=.type "StopIteration")->E (.ref e) {s with heap:=h'}) :
  wpAny (model prog w) A (Builtin.SmallTypes.nextOf (.ref it)) Q E s:=by
 obtain⟨o,ho,hc,hd⟩:=id hit
 unfold Builtin.SmallTypes.nextOf
 refine la (lM (name:=Str.ofString "__next__") hit.typeIs la6
  (lac la6 hit.typeIs F.entry_str_ascii_iterator_next ?_ (F.args_str_ascii_iterator_next_1 _)))
 show wpAny _ _ (field (.ref it) 0 >>= _) _ _ s
 refine la (lV ho hd (x:=.str x t) rfl ?_)
 show wpAny _ _ (field (.ref it) 1 >>= _) _ _ s
 refine la (lV ho hd (x:=.int i 0) rfl ?_)
 simp only[laj,hx]
 refine la (lcB (la (lb7 ho hd (by simp) (la (wpAny_letGo ?_)))))
 show wpAny _ _ (newExc (.type "StopIteration") [] >>= _) _ _ _
 refine la ?_
 simp only[newExc,newTuple]
 refine la (laA ?_ (by size_fits))
 refine la (m:=firstArgMember _ _) (wpAny_of_eq (a:=Value.none) (by first|rfl|(simp only[firstArgMember];rfl)) ?_)
 refine laA ?_ (by size_fits)
 simp only[raiseNew]
 refine la (wpAny_handled ?_)
 first|rw[show A.in1.handled=none from hh] | rw[hh]
 refine la (lj (wpAny_throw ?_))
 exact hE _ _ (((lbn ..).extBut.push _).push _) ⟨_,lx _ rfl,rfl⟩
end
abbrev IsZipF (h:Heap)(z TI TO:Addr)(f0 f1:Value):Prop :=
 h.get? z=some {cls:=.type "zip", dict:=none,data:=.fields #[f0,f1,.bool false,.ref TI,.ref TO],slots:=#[]}
structure Apart (z TI TO i1 i2:Addr):Prop where
 TIz:TI≠z
 TOz:TO≠z
 i1z:i1≠z
 i2z:i2≠z
 TITO:TI≠TO
 TIi1:TI≠i1
 TIi2:TI≠i2
 TOi1:TO≠i1
 TOi2:TO≠i2
 i12:i1≠i2
def Yields (prog:Program)(w:World)(A:Around)(it:Addr)(G:Heap->Prop)(P:Value->Prop)(S:Heap->Prop):Prop :=
 ∀ (s:Shared) (Q:Value->Shared->Prop) (E:Value->Shared->Prop),G s.heap->(∀x h' tk,P x->S h'->Heap.SameBut it s.heap h'->Q x {s with heap:=h',toks:=tk}) ->
  wpAny (model prog w) A (Builtin.SmallTypes.nextOf (.ref it)) Q E s
def Ends (prog:Program)(w:World)(A:Around)(it:Addr)(G:Heap->Prop):Prop :=
 ∀ (s:Shared) (Q:Value->Shared->Prop) (E:Value->Shared->Prop),G s.heap->(∀h' e,Heap.ExtBut it s.heap h'->(∃o,h'.get? e=some o/\o.cls=.type "StopIteration")->E (.ref e) {s with heap:=h'}) ->
  wpAny (model prog w) A (Builtin.SmallTypes.nextOf (.ref it)) Q E s
section
variable {prog:Program}{w:World}{A:Around}{E:Value->Shared->Prop}{s:Shared}
theorem next_item {z TI TO i1 i2:Addr}{a b f1:Value}{P1 P2:Value->Prop}{G1 G2 S1 S2:Heap->Prop}{Q:Value->Shared->Prop}(D:Apart z TI TO i1 i2)
  (hz:IsZipF s.heap z TI TO .none f1) (hTI:IsPair s.heap TI (.ref i1) (.ref i2)) (hTO:IsPair s.heap TO a b)
  (Y1:Yields prog w A i1 G1 P1 S1) (Y2:Yields prog w A i2 G2 P2 S2)
  (g1:∀h',(∀c o,c≠z->s.heap.get? c=some o->h'.get? c=some o)->G1 h') (g2:∀h',(∀c o,c≠z->c≠TO->c≠i1->s.heap.get? c=some o->h'.get? c=some o)->G2 h')
  (k1:∀h h',S1 h->(∀c o,c≠z->c≠TO->c≠i2->h.get? c=some o->h'.get? c=some o)->S1 h')
  (k2:∀h h',S2 h->(∀c o,c≠z->c≠TO->h.get? c=some o->h'.get? c=some o)->S2 h')
  (hQ:∀x y h' tk,P1 x->P2 y->IsZipF h' z TI TO (rawInt s.heap.objs.size) (.bool false)->IsPair h' TO x y->S1 h'->S2 h'->IsPair h' s.heap.objs.size x y->h'.objs.size=s.heap.objs.size+1 ->
   (∀c o,c≠z->c≠TO->c≠i1->c≠i2->s.heap.get? c=some o->h'.get? c=some o)->Q (.ref s.heap.objs.size) {s with heap:=h',toks:=tk}) :
  wpAny (model prog w) A (Builtin.«zip.__next__» ⟨[.ref z],[]⟩) (λfin s'=>∃v,fin=.done (.ret v)/\Q v s') E s:=by
 show wpAny _ _ (field (.ref z) 2 >>= _) _ _ _
 refine la (lV hz rfl (x:=.bool false) rfl ?_)
 show wpAny _ _ (field (.ref z) 3 >>= _) _ _ _
 refine la (lV hz rfl (x:=.ref TI) rfl ?_)
 refine la (laH hTI rfl ?_)
 show wpAny _ _ (Builtin.SmallTypes.ownedTupleIsFree (.ref z) >>= _) _ _ _
 refine la ?_
 unfold Builtin.SmallTypes.ownedTupleIsFree
 refine la (lV hz rfl (x:=.none) rfl (lj ?_))
 simp only[lba]
 refine la (lcB ?_)
 refine la (lV hz rfl (x:=.ref TO) rfl ?_)
 refine la (laU hz (by simp) λh₁ hz₁ hs₁=>?_)
 replace hz₁:IsZipF h₁ z TI TO .ellipsis f1:=hz₁
 refine la ?_
 simp only[List.zipIdx_cons,List.zipIdx_nil,lbG,lbQ]
 refine la (la (lc7 ?_))
 show wpAny _ _ (Builtin.SmallTypes.nextOf (.ref i1) >>= _) _ _ _
 refine la (Y1 _ _ _ (g1 _ λc o hc e=>hs₁.extBut _ _ hc e) λx h₂ tk₂ px st1 hs₂=>lj ?_)
 have hTO₂:IsPair h₂ TO a b:=hs₂.extBut _ _ D.TOi1 (hs₁.extBut _ _ D.TOz hTO)
 refine la (laH hTO₂ rfl ?_)
 refine la (lcJ hTO₂ λh₃ hTO₃ hs₃=>?_)
 replace hTO₃:IsPair h₃ TO x b:=hTO₃
 refine la (wpAny_letGo (lj ?_))
 refine la (la (lc7 ?_))
 show wpAny _ _ (Builtin.SmallTypes.nextOf (.ref i2) >>= _) _ _ _
 refine la (Y2 _ _ _ (g2 _ λc o c1 c2 c3 e=>hs₃.extBut _ _ c2 (hs₂.extBut _ _ c3 (hs₁.extBut _ _ c1 e))) λy h₄ tk₄ py st2 hs₄=>lj ?_)
 have hTO₄:IsPair h₄ TO x b:=hs₄.extBut _ _ D.TOi2 hTO₃
 refine la (laH hTO₄ rfl ?_)
 refine la (lcJ hTO₄ λh₅ hTO₅ hs₅=>?_)
 replace hTO₅:IsPair h₅ TO x y:=hTO₅
 refine la (wpAny_letGo (lj (lj ?_)))
 refine la (laH hTO₅ rfl ?_)
 refine la (wpAny_newTuple ?_)
 have hsz:h₅.objs.size=s.heap.objs.size:=by rw[hs₅.1,hs₄.1,hs₃.1,hs₂.1,hs₁.1]
 have hz₅:IsZipF h₅ z TI TO .ellipsis f1:=hs₅.extBut _ _ D.TOz.symm (hs₄.extBut _ _ D.i2z.symm (hs₃.extBut _ _ D.TOz.symm (hs₂.extBut _ _ D.i1z.symm hz₁)))
 have hk₅:∀c o,c≠z->c≠TO->c≠i1->c≠i2->s.heap.get? c=some o->h₅.get? c=some o:=λc o c1 c2 c3 c4 e =>
  hs₅.extBut _ _ c2 (hs₄.extBut _ _ c4 (hs₃.extBut _ _ c2 (hs₂.extBut _ _ c3 (hs₁.extBut _ _ c1 e))))
 have hzlt:z<h₅.objs.size:=lu hz₅
 show wpAny _ _ (Builtin.SmallTypes.ownedTupleHandOut (.ref z) (.ref h₅.objs.size) >>= _) _ _ _
 refine la ?_
 unfold Builtin.SmallTypes.ownedTupleHandOut
 have hz₆:IsZipF (h₅.push {cls:=.type "tuple", data:=.seq #[x,y]}) z TI TO .ellipsis f1:=lb _ hz₅
 refine la (laU hz₆ (by simp) λh₇ hz₇ hs₇=>?_)
 replace hz₇:IsZipF h₇ z TI TO (rawInt h₅.objs.size) f1:=hz₇
 refine laU hz₇ (by simp) λh₈ hz₈ hs₈=>?_
 replace hz₈:IsZipF h₈ z TI TO (rawInt h₅.objs.size) (.bool false):=hz₈
 have up:∀c o,c≠z->h₅.get? c=some o->h₈.get? c=some o:=λc o c1 e=>hs₈.extBut _ _ c1 (hs₇.extBut _ _ c1 (lb _ e))
 have hT₈:IsPair h₈ h₅.objs.size x y:=hs₈.extBut _ _ (laE hzlt) (hs₇.extBut _ _ (laE hzlt) (lx _ rfl))
 have hz8:h₈.objs.size=h₅.objs.size+1:=by rw[hs₈.1,hs₇.1,lag]
 have q1:S1 h₈:=k1 h₂ h₈ st1 λc o c1 c2 c4 e=>up c o c1 (hs₅.extBut _ _ c2 (hs₄.extBut _ _ c4 (hs₃.extBut _ _ c2 e)))
 have q2:S2 h₈:=k2 h₄ h₈ st2 λc o c1 c2 e=>up c o c1 (hs₅.extBut _ _ c2 e)
 rw[hsz] at hz₈ hT₈ hz8
 refine lj ⟨_,rfl,?_⟩
 show Q (.ref h₅.objs.size) _
 rw[hsz]
 exact hQ x y h₈ _ px py hz₈ (up _ _ D.TOz hTO₅) q1 q2 hT₈ hz8 λc o c1 c2 c3 c4 e=>up c o c1 (hk₅ c o c1 c2 c3 c4 e)
theorem next_end {z TI TO i1 i2:Addr}{a b f1:Value}{P1:Value->Prop}{G1 G2 S1:Heap->Prop}{Q:Fin->Shared->Prop}(D:Apart z TI TO i1 i2)
  (hz:IsZipF s.heap z TI TO .none f1) (hTI:IsPair s.heap TI (.ref i1) (.ref i2)) (hTO:IsPair s.heap TO a b)
  (hend:Ends prog w A i1 G1∨(Yields prog w A i1 G1 P1 S1/\Ends prog w A i2 G2))
  (g1:∀h',(∀c o,c≠z->s.heap.get? c=some o->h'.get? c=some o)->G1 h') (g2:∀h',(∀c o,c≠z->c≠TO->c≠i1->s.heap.get? c=some o->h'.get? c=some o)->G2 h')
  (hE:∀h' tk e,(∀c o,c≠z->c≠TO->c≠i1->c≠i2->s.heap.get? c=some o->h'.get? c=some o)->(∃o,h'.get? e=some o/\o.cls=.type "StopIteration")->E (.ref e) {s with heap:=h',toks:=tk}) :
  wpAny (model prog w) A (Builtin.«zip.__next__» ⟨[.ref z],[]⟩) Q E s:=by
 show wpAny _ _ (field (.ref z) 2 >>= _) _ _ _
 refine la (lV hz rfl (x:=.bool false) rfl ?_)
 show wpAny _ _ (field (.ref z) 3 >>= _) _ _ _
 refine la (lV hz rfl (x:=.ref TI) rfl ?_)
 refine la (laH hTI rfl ?_)
 show wpAny _ _ (Builtin.SmallTypes.ownedTupleIsFree (.ref z) >>= _) _ _ _
 refine la ?_
 unfold Builtin.SmallTypes.ownedTupleIsFree
 refine la (lV hz rfl (x:=.none) rfl (lj ?_))
 simp only[lba]
 refine la (lcB ?_)
 refine la (lV hz rfl (x:=.ref TO) rfl ?_)
 refine la (laU hz (by simp) λh₁ hz₁ hs₁=>?_)
 replace hz₁:IsZipF h₁ z TI TO .ellipsis f1:=hz₁
 refine la ?_
 simp only[List.zipIdx_cons,List.zipIdx_nil,lbG,lbQ]
 refine la (la (lc7 ?_))
 show wpAny _ _ (Builtin.SmallTypes.nextOf (.ref i1) >>= _) _ _ _
 rcases hend with E1|⟨Y1,E2⟩
 ·refine la (E1 _ _ _ (g1 _ λc o hc e=>hs₁.extBut _ _ hc e) λh₂ e hs₂ he=>?_)
  obtain⟨oe,hoe,hce⟩:=he
  have hz₂:IsZipF h₂ z TI TO .ellipsis f1:=hs₂ _ _ D.i1z.symm hz₁
  have hez:e≠z:=λx=>by subst x;rw[hz₂] at hoe;cases hoe;simp at hce
  refine laU hz₂ (by simp) λh₃ _ hs₃=>hE h₃ _ e (λc o c1 _ c3 _ x=>hs₃.extBut _ _ c1 (hs₂ _ _ c3 (hs₁.extBut _ _ c1 x))) ⟨oe,hs₃.extBut _ _ hez hoe,hce⟩
 ·refine la (Y1 _ _ _ (g1 _ λc o hc e=>hs₁.extBut _ _ hc e) λx h₂ tk₂ px st1 hs₂=>lj ?_)
  have hTO₂:IsPair h₂ TO a b:=hs₂.extBut _ _ D.TOi1 (hs₁.extBut _ _ D.TOz hTO)
  refine la (laH hTO₂ rfl ?_)
  refine la (lcJ hTO₂ λh₃ hTO₃ hs₃=>?_)
  refine la (wpAny_letGo (lj ?_))
  refine la (la (lc7 ?_))
  show wpAny _ _ (Builtin.SmallTypes.nextOf (.ref i2) >>= _) _ _ _
  refine la (E2 _ _ _ (g2 _ λc o c1 c2 c3 e=>hs₃.extBut _ _ c2 (hs₂.extBut _ _ c3 (hs₁.extBut _ _ c1 e))) λh₄ e hs₄ he=>?_)
  obtain⟨oe,hoe,hce⟩:=he
  have hz₄:IsZipF h₄ z TI TO .ellipsis f1:=hs₄ _ _ D.i2z.symm (hs₃.extBut _ _ D.TOz.symm (hs₂.extBut _ _ D.i1z.symm hz₁))
  have hez:e≠z:=λx=>by subst x;rw[hz₄] at hoe;cases hoe;simp at hce
  refine laU hz₄ (by simp) λh₅ _ hs₅=>hE h₅ _ e (λc o c1 c2 c3 c4 x=>hs₅.extBut _ _ c1 (hs₄ _ _ c4 (hs₃.extBut _ _ c2 (hs₂.extBut _ _ c3 (hs₁.extBut _ _ c1 x))))) ⟨oe,hs₅.extBut _ _ hez hoe,hce⟩
end
section
variable {prog:Program}{w:World}{A:Around}{E:Value->Shared->Prop}{s:Shared}
theorem alive {a:Addr}{o:Obj}{Q:Option Obj->Shared->Prop}(ho:s.heap.get? a=some o)(h:Q (some o) s):wpAny (model prog w) A (loadIfAlive a) Q E s:=by
 have h':Q (s.heap.get? a) s:=by rw[ho];exact h
 exact λ_ _ _=>h'
theorem zfl {z TI TO i1 i2 T:Addr}{oT:Obj}{P1 P2:Value->Prop}{fb:Bool}{G1 G2 S1 S2:Heap->Prop}{Q:Value->Shared->Prop}(D:Apart z TI TO i1 i2)
  (hz:IsZipF s.heap z TI TO (rawInt T) (.bool fb)) (hTI:IsPair s.heap TI (.ref i1) (.ref i2)) (hT:s.heap.get? T=some oT)
  (Y1:Yields prog w A i1 G1 P1 S1) (Y2:Yields prog w A i2 G2 P2 S2)
  (g1:∀h',(∀c o,c≠z->s.heap.get? c=some o->h'.get? c=some o)->G1 h') (g2:∀h',(∀c o,c≠z->c≠i1->s.heap.get? c=some o->h'.get? c=some o)->G2 h')
  (k1:∀h h',S1 h->(∀c o,c≠i2->h.get? c=some o->h'.get? c=some o)->S1 h')
  (k2:∀h h',S2 h->(∀c o,h.get? c=some o->h'.get? c=some o)->S2 h')
  (hQ:∀x y h' tk,P1 x->P2 y->IsZipF h' z TI TO (rawInt T) (.bool true)->S1 h'->S2 h'->IsPair h' s.heap.objs.size x y->h'.objs.size=s.heap.objs.size+1 ->
   (∀c o,c≠z->c≠i1->c≠i2->s.heap.get? c=some o->h'.get? c=some o)->Q (.ref s.heap.objs.size) {s with heap:=h',toks:=tk}) :
  wpAny (model prog w) A (Builtin.«zip.__next__» ⟨[.ref z],[]⟩) (λfin s'=>∃v,fin=.done (.ret v)/\Q v s') E s:=by
 show wpAny _ _ (field (.ref z) 2 >>= _) _ _ _
 refine la (lV hz rfl (x:=.bool false) rfl ?_)
 show wpAny _ _ (field (.ref z) 3 >>= _) _ _ _
 refine la (lV hz rfl (x:=.ref TI) rfl ?_)
 refine la (laH hTI rfl ?_)
 show wpAny _ _ (Builtin.SmallTypes.ownedTupleIsFree (.ref z) >>= _) _ _ _
 refine la ?_
 unfold Builtin.SmallTypes.ownedTupleIsFree
 refine la (lV hz rfl (x:=rawInt T) rfl ?_)
 show wpAny _ _ (loadIfAlive ((T:Int).toNat) >>= _) _ _ _
 rw[laj]
 refine la (alive hT ?_)
 simp only[Option.isNone_some,lN,laT]
 refine la (lV hz rfl (x:=.bool fb) rfl ?_)
 cases fb with
 | true =>
  rw[lW (show ¬((Value.bool true != Value.bool true)=true) from lv)]
  refine lj ?_
  simp only[lN,laT]
  have HZ:=hz
  have HS:Heap.SameBut z s.heap s.heap:=Heap.SameBut.refl _ _
  rw[← lcn]
  simp only[lbG,lbQ]
  refine la (la (la (laQ ?_)))
  show wpAny _ _ (Builtin.SmallTypes.nextOf (.ref i1) >>= _) _ _ _
  refine la (Y1 _ _ _ (g1 _ λc o hc e=>HS.extBut _ _ hc e) λx h₂ tk₂ px st1 hs₂=>lj (lj ?_))
  refine la (la (laQ ?_))
  show wpAny _ _ (Builtin.SmallTypes.nextOf (.ref i2) >>= _) _ _ _
  refine la (Y2 _ _ _ (g2 _ λc o c1 c3 e=>hs₂.extBut _ _ c3 (HS.extBut _ _ c1 e)) λy h₄ tk₄ py st2 hs₄=>lj (lj (lj ?_)))
  refine la (wpAny_newTuple ?_ (by show 2<=sizeLine;decide))
  have hsz:h₄.objs.size=s.heap.objs.size:=by rw[hs₄.1,hs₂.1,HS.1]
  have hz₄:IsZipF h₄ z TI TO (rawInt T) (.bool true):=hs₄.extBut _ _ D.i2z.symm (hs₂.extBut _ _ D.i1z.symm HZ)
  refine lj ⟨_,rfl,?_⟩
  show Q (.ref h₄.objs.size) _
  rw[hsz]
  have hp:IsPair (h₄.push {cls:=.type "tuple", data:=.seq #[x,y]}) s.heap.objs.size x y:=by rw[← hsz];exact lx _ rfl
  exact hQ x y _ _ px py (lb _ hz₄) (k1 h₂ _ st1 λc o hc e=>lb _ (hs₄.extBut _ _ hc e)) (k2 h₄ _ st2 λc o e=>lb _ e) hp (by rw[lag,hsz])
   λc o c1 c3 c4 e=>lb _ (hs₄.extBut _ _ c4 (hs₂.extBut _ _ c3 (HS.extBut _ _ c1 e)))
 | false =>
  rw[lB (show(Value.bool false != Value.bool true)=true from rfl)]
  refine la (laU hz (by simp) λh₁ hz₁ HS=>?_)
  replace HS:Heap.SameBut z s.heap h₁:=HS
  have HZ:IsZipF h₁ z TI TO (rawInt T) (.bool true):=hz₁
  refine lj ?_
  simp only[lN,laT]
  rw[← lcn]
  simp only[lbG,lbQ]
  refine la (la (la (laQ ?_)))
  show wpAny _ _ (Builtin.SmallTypes.nextOf (.ref i1) >>= _) _ _ _
  refine la (Y1 _ _ _ (g1 _ λc o hc e=>HS.extBut _ _ hc e) λx h₂ tk₂ px st1 hs₂=>lj (lj ?_))
  refine la (la (laQ ?_))
  show wpAny _ _ (Builtin.SmallTypes.nextOf (.ref i2) >>= _) _ _ _
  refine la (Y2 _ _ _ (g2 _ λc o c1 c3 e=>hs₂.extBut _ _ c3 (HS.extBut _ _ c1 e)) λy h₄ tk₄ py st2 hs₄=>lj (lj (lj ?_)))
  refine la (wpAny_newTuple ?_ (by show 2<=sizeLine;decide))
  have hsz:h₄.objs.size=s.heap.objs.size:=by rw[hs₄.1,hs₂.1,HS.1]
  have hz₄:IsZipF h₄ z TI TO (rawInt T) (.bool true):=hs₄.extBut _ _ D.i2z.symm (hs₂.extBut _ _ D.i1z.symm HZ)
  refine lj ⟨_,rfl,?_⟩
  show Q (.ref h₄.objs.size) _
  rw[hsz]
  have hp:IsPair (h₄.push {cls:=.type "tuple", data:=.seq #[x,y]}) s.heap.objs.size x y:=by rw[← hsz];exact lx _ rfl
  exact hQ x y _ _ px py (lb _ hz₄) (k1 h₂ _ st1 λc o hc e=>lb _ (hs₄.extBut _ _ hc e)) (k2 h₄ _ st2 λc o e=>lb _ e) hp (by rw[lag,hsz])
   λc o c1 c3 c4 e=>lb _ (hs₄.extBut _ _ c4 (hs₂.extBut _ _ c3 (HS.extBut _ _ c1 e)))
theorem zkl {z TI TO i1 i2 T:Addr}{oT:Obj}{P1:Value->Prop}{fb:Bool}{G1 G2 S1:Heap->Prop}{Q:Fin->Shared->Prop}(D:Apart z TI TO i1 i2)
  (hz:IsZipF s.heap z TI TO (rawInt T) (.bool fb)) (hTI:IsPair s.heap TI (.ref i1) (.ref i2)) (hT:s.heap.get? T=some oT)
  (hend:Ends prog w A i1 G1∨(Yields prog w A i1 G1 P1 S1/\Ends prog w A i2 G2))
  (g1:∀h',(∀c o,c≠z->s.heap.get? c=some o->h'.get? c=some o)->G1 h') (g2:∀h',(∀c o,c≠z->c≠i1->s.heap.get? c=some o->h'.get? c=some o)->G2 h')
  (hE:∀h' tk e,(∀c o,c≠z->c≠i1->c≠i2->s.heap.get? c=some o->h'.get? c=some o)->(∃o,h'.get? e=some o/\o.cls=.type "StopIteration")->E (.ref e) {s with heap:=h',toks:=tk}) :
  wpAny (model prog w) A (Builtin.«zip.__next__» ⟨[.ref z],[]⟩) Q E s:=by
 show wpAny _ _ (field (.ref z) 2 >>= _) _ _ _
 refine la (lV hz rfl (x:=.bool false) rfl ?_)
 show wpAny _ _ (field (.ref z) 3 >>= _) _ _ _
 refine la (lV hz rfl (x:=.ref TI) rfl ?_)
 refine la (laH hTI rfl ?_)
 show wpAny _ _ (Builtin.SmallTypes.ownedTupleIsFree (.ref z) >>= _) _ _ _
 refine la ?_
 unfold Builtin.SmallTypes.ownedTupleIsFree
 refine la (lV hz rfl (x:=rawInt T) rfl ?_)
 show wpAny _ _ (loadIfAlive ((T:Int).toNat) >>= _) _ _ _
 rw[laj]
 refine la (alive hT ?_)
 simp only[Option.isNone_some,lN,laT]
 refine la (lV hz rfl (x:=.bool fb) rfl ?_)
 cases fb with
 | true =>
  rw[lW (show ¬((Value.bool true != Value.bool true)=true) from lv)]
  refine lj ?_
  simp only[lN,laT]
  have HS:Heap.SameBut z s.heap s.heap:=Heap.SameBut.refl _ _
  rw[← lcn]
  simp only[lbG,lbQ]
  refine la (la (la (laQ ?_)))
  show wpAny _ _ (Builtin.SmallTypes.nextOf (.ref i1) >>= _) _ _ _
  rcases hend with E1|⟨Y1,E2⟩
  ·refine la (E1 _ _ _ (g1 _ λc o hc e=>HS.extBut _ _ hc e) λh₂ e hs₂ he=>?_)
   exact hE h₂ _ e (λc o c1 c3 _ x=>hs₂ _ _ c3 (HS.extBut _ _ c1 x)) he
  ·refine la (Y1 _ _ _ (g1 _ λc o hc e=>HS.extBut _ _ hc e) λx h₂ tk₂ px st1 hs₂=>lj (lj ?_))
   refine la (la (laQ ?_))
   show wpAny _ _ (Builtin.SmallTypes.nextOf (.ref i2) >>= _) _ _ _
   refine la (E2 _ _ _ (g2 _ λc o c1 c3 e=>hs₂.extBut _ _ c3 (HS.extBut _ _ c1 e)) λh₄ e hs₄ he=>?_)
   exact hE h₄ _ e (λc o c1 c3 c4 x=>hs₄ _ _ c4 (hs₂.extBut _ _ c3 (HS.extBut _ _ c1 x))) he
 | false =>
  rw[lB (show(Value.bool false != Value.bool true)=true from rfl)]
  refine la (laU hz (by simp) λh₁ hz₁ HS=>?_)
  replace HS:Heap.SameBut z s.heap h₁:=HS
  refine lj ?_
  simp only[lN,laT]
  rw[← lcn]
  simp only[lbG,lbQ]
  refine la (la (la (laQ ?_)))
  show wpAny _ _ (Builtin.SmallTypes.nextOf (.ref i1) >>= _) _ _ _
  rcases hend with E1|⟨Y1,E2⟩
  ·refine la (E1 _ _ _ (g1 _ λc o hc e=>HS.extBut _ _ hc e) λh₂ e hs₂ he=>?_)
   exact hE h₂ _ e (λc o c1 c3 _ x=>hs₂ _ _ c3 (HS.extBut _ _ c1 x)) he
  ·refine la (Y1 _ _ _ (g1 _ λc o hc e=>HS.extBut _ _ hc e) λx h₂ tk₂ px st1 hs₂=>lj (lj ?_))
   refine la (la (laQ ?_))
   show wpAny _ _ (Builtin.SmallTypes.nextOf (.ref i2) >>= _) _ _ _
   refine la (E2 _ _ _ (g2 _ λc o c1 c3 e=>hs₂.extBut _ _ c3 (HS.extBut _ _ c1 e)) λh₄ e hs₄ he=>?_)
   exact hE h₄ _ e (λc o c1 c3 c4 x=>hs₄ _ _ c4 (hs₂.extBut _ _ c3 (HS.extBut _ _ c1 x))) he
end
end Zp
set_option maxHeartbeats 2000000
namespace Zp
open PySem
section
variable {prog:Program}{w:World}{A:Around}
theorem yields_tuple {it t:Addr}{i:Nat}{items:Array Value}{x:Value}(hne:t≠it)(hx:items[i]? = some x) :
  Yields prog w A it (λh=>h.IsTupleIter it t i/\h.IsTuple t items) (λv=>v=x) (λh=>h.IsTupleIter it t (i+1)/\h.IsTuple t items) :=
 λs Q E g hQ=>za8 g.1 g.2 hx λh' st sb=>hQ _ h' s.toks rfl ⟨st,g.2.extBut sb.extBut hne⟩ sb
theorem ends_tuple {it t:Addr}{i:Nat}{items:Array Value}(hh:A.handled=none)(hx:items[i]? = none) :
  Ends prog w A it (λh=>h.IsTupleIter it t i/\h.IsTuple t items) :=
 λs Q E g hE=>zbI hh g.1 g.2 hx hE
theorem yields_ascii {it:Addr}{x:Str}{t:Tok}{i c:Nat}(hx:x.cps[i]? = some c) :
  Yields prog w A it (λh=>h.IsStrIter it "str_ascii_iterator" x t i) (λv=>∃u,v=.str ⟨#[c]⟩ u) (λh=>h.IsStrIter it "str_ascii_iterator" x t (i+1)) :=
 λs Q E g hQ=>zbg g hx λh' st sb=>hQ _ h' _ ⟨_,rfl⟩ st sb
theorem ends_ascii {it:Addr}{x:Str}{t:Tok}{i:Nat}(hh:A.handled=none)(hx:x.cps[i]? = none) :
  Ends prog w A it (λh=>h.IsStrIter it "str_ascii_iterator" x t i) :=
 λs Q E g hE=>zbz hh g hx hE
end
section
variable {prog:Program}{w:World}{A:Around}{E:Value->Shared->Prop}{s:Shared}
abbrev zH2 (h:Heap)(o1 o2:Obj):Heap:=(h.push o1).push o2
abbrev zH3 (h:Heap)(o1 o2:Obj):Heap:=(zH2 h o1 o2).push {cls:=.type "tuple", data:=.seq #[.ref h.objs.size,.ref (h.push o1).objs.size]}
abbrev zH4 (h:Heap)(o1 o2:Obj):Heap:=(zH3 h o1 o2).push {cls:=.type "tuple", data:=.seq #[.none,.none]}
abbrev zH5 (h:Heap)(o1 o2:Obj):Heap:=(zH4 h o1 o2).push {cls:=.type "zip", data:=.fields #[.none,.bool false,.bool false,.ref (zH2 h o1 o2).objs.size,.ref (zH3 h o1 o2).objs.size]}
abbrev tIter (t:Addr):Obj:={cls:=.type "tuple_iterator", data:=.fields #[.ref t,.int 0 0]}
abbrev sIter (x:Str)(t:Tok):Obj:={cls:=.type "str_ascii_iterator", data:=.fields #[.str x t,.int 0 0]}
theorem meets_st_aux {prog:Program}{w:World}{A:Around}{a b:Value}{s:Shared}{h1 h2:Heap}{i1 i2:Addr}{E:Value->Shared->Prop}{Q:Fin->Shared->Prop}
  (p1:∀(Q:Value->Shared->Prop) (E:Value->Shared->Prop),Q (.ref i1) {s with heap:=h1}->wpAny (model prog w) A (pyIter a) Q E s)
  (p2:∀(Q:Value->Shared->Prop) (E:Value->Shared->Prop),Q (.ref i2) {s with heap:=h2}->wpAny (model prog w) A (pyIter b) Q E {s with heap:=h1})
  (hQ:Q (.done (.ret (.ref (h2.objs.size+2)))) {s with heap:=((h2.push {cls:=.type "tuple", data:=.seq #[.ref i1,.ref i2]}).push {cls:=.type "tuple", data:=.seq #[.none,.none]}).push {cls:=.type "zip", data:=.fields #[.none,.bool false,.bool false,.ref h2.objs.size,.ref (h2.objs.size+1)]} }) :
  wpAny (model prog w) A (Builtin.«zip.__new__» ⟨[.type "zip", a,b],[]⟩) Q E s:=by
 obtain⟨hp,g,d,tk,os⟩:=s
 have hsub:=sub_zip
 have z1:(h2.push {cls:=.type "tuple", data:=.seq #[.ref i1,.ref i2]}).objs.size=h2.objs.size+1:=lag ..
 have z2:((h2.push {cls:=.type "tuple", data:=.seq #[.ref i1,.ref i2]}).push {cls:=.type "tuple", data:=.seq #[.none,.none]}).objs.size=h2.objs.size+2:=by rw[lag,z1]
 rw[← z2,← z1] at hQ
 wp_walk using p1 _ _,p2 _ _
 exact hQ
def Made5 (h h':Heap)(o1 o2:Obj):Prop :=
 IsZipF h' (h.objs.size+4) (h.objs.size+2) (h.objs.size+3) .none (.bool false)/\IsPair h' (h.objs.size+2) (.ref h.objs.size) (.ref (h.objs.size+1)) /\
  IsPair h' (h.objs.size+3) .none .none/\h'.get? h.objs.size=some o1/\h'.get? (h.objs.size+1)=some o2/\h'.objs.size=h.objs.size+5/\∀c o,h.get? c=some o->h'.get? c=some o
theorem made5 (h:Heap)(o1 o2:Obj)(f1:o1.isFreed=false)(f2:o2.isFreed=false):Made5 h (zH5 h o1 o2) o1 o2/\(zH4 h o1 o2).objs.size=h.objs.size+4:=by
 have z1:(h.push o1).objs.size=h.objs.size+1:=lag ..
 have z2:(zH2 h o1 o2).objs.size=h.objs.size+2:=by rw[lag,z1]
 have z3:(zH3 h o1 o2).objs.size=h.objs.size+3:=by rw[lag,z2]
 have z4:(zH4 h o1 o2).objs.size=h.objs.size+4:=by rw[lag,z3]
 have z5:(zH5 h o1 o2).objs.size=h.objs.size+5:=by rw[lag,z4]
 have g5:(zH5 h o1 o2).get? (zH4 h o1 o2).objs.size=some _:=lx _ rfl
 have g4:(zH5 h o1 o2).get? (zH3 h o1 o2).objs.size=some _:=lb _ (lx _ rfl)
 have g3:(zH5 h o1 o2).get? (zH2 h o1 o2).objs.size=some _:=lb _ (lb _ (lx _ rfl))
 have g2:(zH5 h o1 o2).get? (h.push o1).objs.size=some o2:=lb _ (lb _ (lb _ (lx _ f2)))
 have g1:(zH5 h o1 o2).get? h.objs.size=some o1:=lb _ (lb _ (lb _ (lb _ (lx _ f1))))
 rw[z2,z3,z4] at g5
 rw[z1,z2] at g3
 rw[z3] at g4
 rw[z1] at g2
 exact⟨⟨g5,g3,g4,g1,g2,z5,λc o x=>lb _ (lb _ (lb _ (lb _ (lb _ x))))⟩,z4⟩
end
theorem zbA:typeLookup (.type "zip") "__getattr__" = pure none:=by rw[typeLookup_type,builtinLookup_eq_fast];kernel_rfl
theorem zdI:typeLookup (.type "zip") "keys" = pure none:=by rw[typeLookup_type,builtinLookup_eq_fast];kernel_rfl
theorem kZ:entryFor table "zip.__getattribute__" = some Builtin.«object.__getattribute__» :=
 entryFor_alias (id' := "object.__getattribute__") (by kernel_rfl) (by decide +kernel) (by decide +kernel) (by kernel_rfl)
theorem zhd (a:Addr)(vs:Array Value)(name:Str)(u:Tok)(hmiss:typeLookup (.type "zip") name=pure none)(hname:(["__module__", "__name__", "__qualname__", "__doc__", "__annotations__"]:List Str).contains name=false)(hsz:name.length+100<=sizeLine:=by size_fits) :
  Meets (Builtin.«object.__getattribute__» ⟨[.ref a,.str name u],[]⟩) (λA R s=>s.heap.get? a=some {cls:=.type "zip", dict:=none,data:=.fields vs,slots:=#[]}/\raisesAttr (.ref a) name A R s) :=
 Meets.of_wp λprog w A R s hs=>by
  obtain⟨hp,g,d,tk,os⟩:=s
  obtain⟨hx,hs⟩:=hs
  have hT:(⟨hp,g,d,tk,os⟩:Shared).TypeIs (.ref a) "zip" := ⟨_,hx,rfl⟩
  unfold Builtin.«object.__getattribute__»
  repeat (any_goals (first|assumption|wp_step))
  simp only[hname,lN,laT]
  repeat (any_goals (first|assumption|wp_step))
  exact wpAny_raiseAttrError hs.1 hs.2 (attrMsg_fits (by decide +kernel) hsz)
theorem zmk {prog:Program}{w:World}{A:Around}{E:Value->Shared->Prop}{s:Shared}{a:Addr}{vs:Array Value}{Q:Option Value->Shared->Prop}
  (hx:s.heap.get? a=some {cls:=.type "zip", dict:=none,data:=.fields vs,slots:=#[]}) (hA:A.handled=none)
  (h:∀h' tk,(∀b o,s.heap.get? b=some o->h'.get? b=some o)->Q none {s with heap:=h',toks:=tk}) :
  wpAny (model prog w) A (getAttr? (.ref a) "keys") Q E s:=by
 obtain⟨hp,g,d,tk,os⟩:=s
 have hT:∀tk',(⟨hp,g,d,tk',os⟩:Shared).TypeIs (.ref a) "zip" := λ_=>⟨_,hx,rfl⟩
 have f1:=sub_AttributeError
 have f3:=lco.lookup
 have f4:=lco.bind (.ref a)
 have f5:=zbA
 unfold getAttr? getAttrBy? getAttrBy
 repeat (any_goals (first|assumption|exact hT _|((with_reducible show wpAny _ _ (call (Value.builtin "zip.__getattribute__") _ _) _ _ _);refine lbP lco (hT _) kZ (F.args_zip_getattribute_2 _ _) (zhd a vs "keys" _ zdI (by decide +kernel) (by decide +kernel)) ⟨hx,hA,λh' tk' e hx'=>?_⟩)|wp_step))
 obtain⟨t',u',he⟩:=hx'.there
 show wpAny _ _ (getattributeRaised _ _ _ _ _ _ _) _ _ _
 unfold getattributeRaised hookBehind onTheHeap hookOrError attributeErrorLeaves
 repeat (any_goals (first|assumption|wp_step))
 exact h _ _ hx'.keeps
structure ZSt (h:Heap)(z TI TO i1 i2 tp d:Addr)(x:Str)(t:Tok)(ys:Array Value)(i:Nat):Prop where
 zip:(∃f1,IsZipF h z TI TO .none (.bool f1))∨∃(T:Addr) (oT:Obj) (fb:Bool),IsZipF h z TI TO (rawInt T) (.bool fb)/\h.get? T=some oT/\T≠z/\T≠TO/\T≠i1/\T≠i2/\T≠d
 ti:IsPair h TI (.ref i1) (.ref i2)
 to:∃a b,IsPair h TO a b
 s1:h.IsStrIter i1 "str_ascii_iterator" x t i
 s2:h.IsTupleIter i2 tp i/\h.IsTuple tp ys
structure ZAp (z TI TO i1 i2 tp d:Addr):Prop where
 D:Apart z TI TO i1 i2
 tz:tp≠z
 tO:tp≠TO
 t1:tp≠i1
 t2:tp≠i2
 dz:d≠z
 dI:d≠TI
 dO:d≠TO
 d1:d≠i1
 d2:d≠i2
 dt:d≠tp
theorem ZSt.dict {h h':Heap}{z TI TO i1 i2 tp d:Addr}{x:Str}{t:Tok}{ys:Array Value}{i:Nat}(Z:ZSt h z TI TO i1 i2 tp d x t ys i)(Y:ZAp z TI TO i1 i2 tp d)
  (k:∀c o,c≠d->h.get? c=some o->h'.get? c=some o):ZSt h' z TI TO i1 i2 tp d x t ys i:=by
 obtain⟨zp,ti,⟨a,b,to⟩,⟨o1,e1,r1⟩,⟨o2,e2,r2⟩,o3,e3,r3⟩:=Z
 refine⟨?_,k _ _ (la9 Y.dI) ti,⟨a,b,k _ _ (la9 Y.dO) to⟩,⟨o1,k _ _ (la9 Y.d1) e1,r1⟩,⟨o2,k _ _ (la9 Y.d2) e2,r2⟩,o3,k _ _ (la9 Y.dt) e3,r3⟩
 rcases zp with⟨f1,hz⟩|⟨T,oT,fb,hz,hT,n1,n2,n3,n4,n5⟩
 ·exact .inl ⟨f1,k _ _ (la9 Y.dz) hz⟩
 ·exact .inr ⟨T,oT,fb,k _ _ (la9 Y.dz) hz,k _ _ n5 hT,n1,n2,n3,n4,n5⟩
section
variable {prog:Program}{w:World}{A:Around}{E:Value->Shared->Prop}{s:Shared}
theorem ZSt.next {z TI TO i1 i2 tp d:Addr}{x:Str}{t:Tok}{ys:Array Value}{i c:Nat}{y:Value}{Q:Option Value->Shared->Prop}(Z:ZSt s.heap z TI TO i1 i2 tp d x t ys i)(Y:ZAp z TI TO i1 i2 tp d)
  (hd:d<s.heap.objs.size) (hc:x.cps[i]? = some c) (hy:ys[i]? = some y)
  (hQ:∀(T:Addr) u h' tk,ZSt h' z TI TO i1 i2 tp d x t ys (i+1)->IsPair h' T (.str ⟨#[c]⟩ u) y->(∀c o,c≠z->c≠TO->c≠i1->c≠i2->s.heap.get? c=some o->h'.get? c=some o)->h'.objs.size=s.heap.objs.size+1->Q (some (.ref T)) {s with heap:=h',toks:=tk}) :
  wpAny (model prog w) A (pyNext (.ref z)) Q E s:=by
 obtain⟨zp,ti,⟨a,b,to⟩,s1,s2⟩:=Z
 have D:=Y.D
 obtain⟨o1,e1,r1⟩:=id s1
 obtain⟨⟨o2,e2,r2⟩,o3,e3,r3⟩:=id s2
 have lt:∀{c:Addr}{o:Obj},s.heap.get? c=some o->s.heap.objs.size≠c:=λe=>laE (lu e)
 have Y1:=yields_ascii (prog:=prog) (w:=w) (A:=A.in1) (it:=i1) (t:=t) hc
 have Y2:=yields_tuple (prog:=prog) (w:=w) (A:=A.in1) Y.t2 hy
 rcases zp with⟨f1,hz⟩|⟨T,oT,fb,hz,hT,n1,n2,n3,n4,n5⟩
 ·have hTy:s.TypeIs (.ref z) "zip" := ⟨_,hz,rfl⟩
  unfold pyNext
  refine la (lbK (lM (name:=Str.ofString "__next__") hTy laG
   (lac laG hTy lbL (next_item D hz ti to Y1 Y2 ?_ ?_ ?_ ?_ ?_) (lbH _))))
  ·exact λh' k=>⟨o1,k _ _ D.i1z e1,r1⟩
  ·exact λh' k=>⟨⟨o2,k _ _ D.i2z D.TOi2.symm D.i12.symm e2,r2⟩,o3,k _ _ Y.tz Y.tO Y.t1 e3,r3⟩
  ·exact λh h' ⟨p1,q1,w1⟩ k=>⟨p1,k _ _ D.i1z D.TOi1.symm D.i12 q1,w1⟩
  ·exact λh h' ⟨⟨p1,q1,w1⟩,p2,q2,w2⟩ k=>⟨⟨p1,k _ _ D.i2z D.TOi2.symm q1,w1⟩,p2,k _ _ Y.tz Y.tO q2,w2⟩
  ·rintro v1 v2 h' tk ⟨u,rfl⟩ rfl z' to' q1 q2 hp hsz k
   refine lj (hQ _ u h' tk ⟨.inr ⟨_,_,false,z',hp,lt hz,lt to,lt e1,lt e2,laE hd⟩,k _ _ D.TIz D.TITO D.TIi1 D.TIi2 ti,⟨_,_,to'⟩,q1,q2⟩ hp k hsz)
 ·have hTy:s.TypeIs (.ref z) "zip" := ⟨_,hz,rfl⟩
  unfold pyNext
  refine la (lbK (lM (name:=Str.ofString "__next__") hTy laG
   (lac laG hTy lbL (zfl D hz ti hT Y1 Y2 ?_ ?_ ?_ ?_ ?_) (lbH _))))
  ·exact λh' k=>⟨o1,k _ _ D.i1z e1,r1⟩
  ·exact λh' k=>⟨⟨o2,k _ _ D.i2z D.i12.symm e2,r2⟩,o3,k _ _ Y.tz Y.t1 e3,r3⟩
  ·exact λh h' ⟨p1,q1,w1⟩ k=>⟨p1,k _ _ D.i12 q1,w1⟩
  ·exact λh h' ⟨⟨p1,q1,w1⟩,p2,q2,w2⟩ k=>⟨⟨p1,k _ _ q1,w1⟩,p2,k _ _ q2,w2⟩
  ·rintro v1 v2 h' tk ⟨u,rfl⟩ rfl z' q1 q2 hp hsz k
   exact lj (hQ _ u h' tk ⟨.inr ⟨T,oT,true,z',k _ _ n1 n3 n4 hT,n1,n2,n3,n4,n5⟩,k _ _ D.TIz D.TIi1 D.TIi2 ti,⟨_,_,k _ _ D.TOz D.TOi1 D.TOi2 to⟩,q1,q2⟩ hp (λc o c1 _ c3 c4 e=>k c o c1 c3 c4 e) hsz)
end
theorem zc2:entryFor table "dict.update.loop" = some Builtin.«dict.update.loop»:=entryFor_of_fast (by kernel_rfl)
theorem jP:plainId "dict.update.loop" = true:=by decide +kernel
section
variable {prog:Program}{w:World}{A:Around}{E:Value->Shared->Prop}{s:Shared}
theorem nextOf_list_item {it t:Addr}{i:Nat}{items}{x:Value}{Q:Value->Shared->Prop}(hit:s.heap.IsListIter it t i)
  (ht:s.heap.IsList t items) (hx:items[i]? = some x)
  (hQ:∀h',h'.IsListIter it t (i+1)->Heap.SameBut it s.heap h'->Q x {s with heap:=h'}) :
  wpAny (model prog w) A (Builtin.SmallTypes.nextOf (.ref it)) Q E s:=by
 obtain⟨o,ho,hc,hd⟩:=id hit
 obtain⟨ol,hol,_,nl,hdl⟩:=ht
 unfold Builtin.SmallTypes.nextOf
 refine la (lM (name:=Str.ofString "__next__") hit.typeIs lcp
  (lac lcp hit.typeIs entry_listiter_next ?_ (args_listiter_next _)))
 show wpAny _ _ (field (.ref it) 0 >>= _) _ _ s
 refine la (lV ho hd (x:=.ref t) rfl ?_)
 show wpAny _ _ (if (Value.ref t == Value.none)=true then _ else _) _ _ s
 rw[lW (show ¬((Value.ref t == Value.none)=true) from lv)]
 show wpAny _ _ (field (.ref it) 1 >>= _) _ _ s
 refine la (lV ho hd (x:=.int i 0) rfl ?_)
 show wpAny _ _ (seqItems? (.ref t) >>= _) _ _ s
 refine la (laH hol hdl ?_)
 simp only[laj,hx]
 refine la (lb7 ho hd (by simp) (lj ⟨x,rfl,lj (hQ _ ?_ (lbn ..))⟩))
 exact ⟨_,lcD _ ho (lcE (lbu hd _)),(lc5 ..).trans hc,by
  rw[lbu hd];simp[rawInt]⟩
theorem nextOf_list_end {it t:Addr}{i:Nat}{items}{Q:Value->Shared->Prop}(hh:A.handled=none)
  (hit:s.heap.IsListIter it t i) (ht:s.heap.IsList t items) (hx:items[i]? = none)
  (hE:∀h' e,Heap.ExtBut it s.heap h'->(∃o,h'.get? e=some o/\o.cls=.type "StopIteration")->E (.ref e) {s with heap:=h'}) :
  wpAny (model prog w) A (Builtin.SmallTypes.nextOf (.ref it)) Q E s:=by
 obtain⟨o,ho,hc,hd⟩:=id hit
 obtain⟨ol,hol,_,nl,hdl⟩:=ht
 unfold Builtin.SmallTypes.nextOf
 refine la (lM (name:=Str.ofString "__next__") hit.typeIs lcp
  (lac lcp hit.typeIs entry_listiter_next ?_ (args_listiter_next _)))
 show wpAny _ _ (field (.ref it) 0 >>= _) _ _ s
 refine la (lV ho hd (x:=.ref t) rfl ?_)
 show wpAny _ _ (if (Value.ref t == Value.none)=true then _ else _) _ _ s
 rw[lW (show ¬((Value.ref t == Value.none)=true) from lv)]
 show wpAny _ _ (field (.ref it) 1 >>= _) _ _ s
 refine la (lV ho hd (x:=.int i 0) rfl ?_)
 show wpAny _ _ (seqItems? (.ref t) >>= _) _ _ s
 refine la (laH hol hdl ?_)
 simp only[laj,hx]
 refine la (lcB (la (lb7 ho hd (by simp) ?_)))
 show wpAny _ _ (newExc (.type "StopIteration") [] >>= _) _ _ _
 refine la ?_
 simp only[newExc,newTuple]
 refine la (laA ?_ (by size_fits))
 refine la (m:=firstArgMember _ _) (wpAny_of_eq (a:=Value.none) (by first|rfl|(simp only[firstArgMember];rfl)) ?_)
 refine laA ?_ (by size_fits)
 simp only[raiseNew]
 refine la (wpAny_handled ?_)
 first|rw[show A.in1.handled=none from hh] | rw[hh]
 refine la (lj (wpAny_throw ?_))
 exact hE _ _ (((lbn ..).extBut.push _).push _) ⟨_,lx _ rfl,rfl⟩
end
structure Src (prog:Program)(w:World)(it tp:Addr)(n:Nat)(g:Nat->Value)(S:Nat->Heap->Prop):Prop where
 yl:∀(A:Around) (i:Nat),i<n->Yields prog w A it (S i) (λv=>v=g i) (S (i+1))
 en:∀(A:Around) (i:Nat),A.handled=none->n<=i->Ends prog w A it (S i)
 mv:∀(i:Nat) (h h':Heap),S i h->(∀o,h.get? it=some o->h'.get? it=some o)->(∀o,h.get? tp=some o->h'.get? tp=some o)->S i h'
 li:∀(i:Nat) (h:Heap),S i h->(∃o,h.get? it=some o)/\∃o,h.get? tp=some o
theorem src_tup {prog:Program}{w:World}{it tp:Addr}{xs:Array Value}(hne:tp≠it):Src prog w it tp xs.size (λi=>xs.getD i .none) (λi h=>h.IsTupleIter it tp i/\h.IsTuple tp xs) :=
 ⟨λA i hi=>yields_tuple hne (by rw[lb8 hi];simp[Array.getD,hi]),λA i hh hi=>ends_tuple hh (lcx hi),
  λi h h' ⟨⟨o,e,r⟩,o2,e2,r2⟩ k1 k2=>⟨⟨o,k1 _ e,r⟩,o2,k2 _ e2,r2⟩,λi h ⟨⟨o,e,r⟩,o2,e2,r2⟩=>⟨⟨o,e⟩,o2,e2⟩⟩
theorem src_lst {prog:Program}{w:World}{it tp:Addr}{xs:Array Value}(hne:tp≠it):Src prog w it tp xs.size (λi=>xs.getD i .none) (λi h=>h.IsListIter it tp i/\h.IsList tp xs) :=
 ⟨λA i hi s Q E g hQ=>nextOf_list_item g.1 g.2 (lb8 hi) λh' st sb=>hQ _ h' s.toks (by simp[Array.getD,hi]) ⟨st,g.2.extBut sb.extBut hne⟩ sb,
  λA i hh hi s Q E g hE=>nextOf_list_end hh g.1 g.2 (lcx hi) hE,
  λi h h' ⟨⟨o,e,r⟩,o2,e2,r2⟩ k1 k2=>⟨⟨o,k1 _ e,r⟩,o2,k2 _ e2,r2⟩,λi h ⟨⟨o,e,r⟩,o2,e2,r2⟩=>⟨⟨o,e⟩,o2,e2⟩⟩
structure GAp (z TI TO i1 i2 p1 p2 d:Addr):Prop where
 D:Apart z TI TO i1 i2
 az:p1≠z
 aO:p1≠TO
 a2:p1≠i2
 bz:p2≠z
 bO:p2≠TO
 b1:p2≠i1
 dz:d≠z
 dI:d≠TI
 dO:d≠TO
 d1:d≠i1
 d2:d≠i2
 da:d≠p1
 db:d≠p2
structure GSt (h:Heap)(z TI TO i1 i2 d:Addr)(S1 S2:Nat->Heap->Prop)(i:Nat):Prop where
 zip:(∃f1,IsZipF h z TI TO .none (.bool f1))∨∃(T:Addr) (oT:Obj) (fb:Bool),IsZipF h z TI TO (rawInt T) (.bool fb)/\h.get? T=some oT/\T≠z/\T≠TO/\T≠i1/\T≠i2/\T≠d
 ti:IsPair h TI (.ref i1) (.ref i2)
 to:∃a b,IsPair h TO a b
 s1:S1 i h
 s2:S2 i h
section
variable {prog:Program}{w:World}{A:Around}{E:Value->Shared->Prop}{s:Shared}{z TI TO i1 i2 p1 p2 d:Addr}{n1 n2:Nat}{g1 g2:Nat->Value}{S1 S2:Nat->Heap->Prop}
theorem GSt.dict {h h':Heap}{i:Nat}(Z:GSt h z TI TO i1 i2 d S1 S2 i)(Y:GAp z TI TO i1 i2 p1 p2 d)(C1:Src prog w i1 p1 n1 g1 S1)(C2:Src prog w i2 p2 n2 g2 S2)
  (k:∀c o,c≠d->h.get? c=some o->h'.get? c=some o):GSt h' z TI TO i1 i2 d S1 S2 i:=by
 obtain⟨zp,ti,⟨a,b,to⟩,s1,s2⟩:=Z
 refine⟨?_,k _ _ (la9 Y.dI) ti,⟨a,b,k _ _ (la9 Y.dO) to⟩,C1.mv _ _ _ s1 (λo=>k _ o (la9 Y.d1)) (λo=>k _ o (la9 Y.da)),C2.mv _ _ _ s2 (λo=>k _ o (la9 Y.d2)) (λo=>k _ o (la9 Y.db))⟩
 rcases zp with⟨f1,hz⟩|⟨T,oT,fb,hz,hT,n1,n2,n3,n4,n5⟩
 ·exact .inl ⟨f1,k _ _ (la9 Y.dz) hz⟩
 ·exact .inr ⟨T,oT,fb,k _ _ (la9 Y.dz) hz,k _ _ n5 hT,n1,n2,n3,n4,n5⟩
theorem GSt.next {i:Nat}{Q:Option Value->Shared->Prop}(Z:GSt s.heap z TI TO i1 i2 d S1 S2 i)(Y:GAp z TI TO i1 i2 p1 p2 d)(C1:Src prog w i1 p1 n1 g1 S1)(C2:Src prog w i2 p2 n2 g2 S2)
  (hd:d<s.heap.objs.size) (hc:i<n1) (hy:i<n2)
  (hQ:∀(T:Addr) h' tk,GSt h' z TI TO i1 i2 d S1 S2 (i+1)->IsPair h' T (g1 i) (g2 i)->(∀c o,c≠z->c≠TO->c≠i1->c≠i2->s.heap.get? c=some o->h'.get? c=some o)->h'.objs.size=s.heap.objs.size+1->Q (some (.ref T)) {s with heap:=h',toks:=tk}) :
  wpAny (model prog w) A (pyNext (.ref z)) Q E s:=by
 obtain⟨zp,ti,⟨a,b,to⟩,s1,s2⟩:=Z
 have D:=Y.D
 obtain⟨⟨o1,e1⟩,_⟩:=C1.li _ _ s1
 obtain⟨⟨o2,e2⟩,_⟩:=C2.li _ _ s2
 have lt:∀{c:Addr}{o:Obj},s.heap.get? c=some o->s.heap.objs.size≠c:=λe=>laE (lu e)
 have Y1:=C1.yl A.in1 i hc
 have Y2:=C2.yl A.in1 i hy
 rcases zp with⟨f1,hz⟩|⟨T,oT,fb,hz,hT,n1,n2,n3,n4,n5⟩
 ·have hTy:s.TypeIs (.ref z) "zip" := ⟨_,hz,rfl⟩
  unfold pyNext
  refine la (lbK (lM (name:=Str.ofString "__next__") hTy laG
   (lac laG hTy lbL (next_item D hz ti to Y1 Y2 ?_ ?_ ?_ ?_ ?_) (lbH _))))
  ·exact λh' k=>C1.mv _ _ _ s1 (λo=>k _ o D.i1z) (λo=>k _ o Y.az)
  ·exact λh' k=>C2.mv _ _ _ s2 (λo=>k _ o D.i2z D.TOi2.symm D.i12.symm) (λo=>k _ o Y.bz Y.bO Y.b1)
  ·exact λh h' q k=>C1.mv _ _ _ q (λo=>k _ o D.i1z D.TOi1.symm D.i12) (λo=>k _ o Y.az Y.aO Y.a2)
  ·exact λh h' q k=>C2.mv _ _ _ q (λo=>k _ o D.i2z D.TOi2.symm) (λo=>k _ o Y.bz Y.bO)
  ·rintro v1 v2 h' tk rfl rfl z' to' q1 q2 hp hsz k
   refine lj (hQ _ h' tk ⟨.inr ⟨_,_,false,z',hp,lt hz,lt to,lt e1,lt e2,laE hd⟩,k _ _ D.TIz D.TITO D.TIi1 D.TIi2 ti,⟨_,_,to'⟩,q1,q2⟩ hp k hsz)
 ·have hTy:s.TypeIs (.ref z) "zip" := ⟨_,hz,rfl⟩
  unfold pyNext
  refine la (lbK (lM (name:=Str.ofString "__next__") hTy laG
   (lac laG hTy lbL (zfl D hz ti hT Y1 Y2 ?_ ?_ ?_ ?_ ?_) (lbH _))))
  ·exact λh' k=>C1.mv _ _ _ s1 (λo=>k _ o D.i1z) (λo=>k _ o Y.az)
  ·exact λh' k=>C2.mv _ _ _ s2 (λo=>k _ o D.i2z D.i12.symm) (λo=>k _ o Y.bz Y.b1)
  ·exact λh h' q k=>C1.mv _ _ _ q (λo=>k _ o D.i12) (λo=>k _ o Y.a2)
  ·exact λh h' q k=>C2.mv _ _ _ q (λo=>k _ o) (λo=>k _ o)
  ·rintro v1 v2 h' tk rfl rfl z' q1 q2 hp hsz k
   exact lj (hQ _ h' tk ⟨.inr ⟨T,oT,true,z',k _ _ n1 n3 n4 hT,n1,n2,n3,n4,n5⟩,k _ _ D.TIz D.TIi1 D.TIi2 ti,⟨_,_,k _ _ D.TOz D.TOi1 D.TOi2 to⟩,q1,q2⟩ hp (λc o c1 _ c3 c4 e=>k c o c1 c3 c4 e) hsz)
theorem GSt.done {i:Nat}{Q:Option Value->Shared->Prop}(hh:A.handled=none)(Z:GSt s.heap z TI TO i1 i2 d S1 S2 i)(Y:GAp z TI TO i1 i2 p1 p2 d)(C1:Src prog w i1 p1 n1 g1 S1)(C2:Src prog w i2 p2 n2 g2 S2)
  (hend:min n1 n2<=i)
  (hQ:∀h' tk,(∀c o,c≠z->c≠TO->c≠i1->c≠i2->s.heap.get? c=some o->h'.get? c=some o)->Q none {s with heap:=h',toks:=tk}) :
  wpAny (model prog w) A (pyNext (.ref z)) Q E s:=by
 obtain⟨zp,ti,⟨a,b,to⟩,s1,s2⟩:=Z
 have D:=Y.D
 have hend':Ends prog w A.in1 i1 (S1 i)∨(Yields prog w A.in1 i1 (S1 i) (λ_=>True) (λ_=>True)/\Ends prog w A.in1 i2 (S2 i)):=by
  rcases lbg i n1 with h|h
  ·exact .inr ⟨λs Q E g hQ=>C1.yl A.in1 i h s Q E g λv h' tk _ _ sb=>hQ v h' tk trivial trivial sb,C2.en A.in1 i hh (by omega)⟩
  ·exact .inl (C1.en A.in1 i hh h)
 rcases zp with⟨f1,hz⟩|⟨T,oT,fb,hz,hT,n1,n2,n3,n4,n5⟩
 ·have hTy:s.TypeIs (.ref z) "zip" := ⟨_,hz,rfl⟩
  unfold pyNext
  refine la (lbK (lM (name:=Str.ofString "__next__") hTy laG
   (lac laG hTy lbL (next_end D hz ti to hend' ?_ ?_ ?_) (lbH _))))
  ·exact λh' k=>C1.mv _ _ _ s1 (λo=>k _ o D.i1z) (λo=>k _ o Y.az)
  ·exact λh' k=>C2.mv _ _ _ s2 (λo=>k _ o D.i2z D.TOi2.symm D.i12.symm) (λo=>k _ o Y.bz Y.bO Y.b1)
  ·intro h' tk e k he
   obtain⟨o,ho,hc⟩:=he
   refine la (lda (T := "StopIteration") (b:=true) ⟨o,ho,hc⟩ isSubtype_stop ?_)
   exact lj (hQ _ _ k)
 ·have hTy:s.TypeIs (.ref z) "zip" := ⟨_,hz,rfl⟩
  unfold pyNext
  refine la (lbK (lM (name:=Str.ofString "__next__") hTy laG
   (lac laG hTy lbL (zkl D hz ti hT hend' ?_ ?_ ?_) (lbH _))))
  ·exact λh' k=>C1.mv _ _ _ s1 (λo=>k _ o D.i1z) (λo=>k _ o Y.az)
  ·exact λh' k=>C2.mv _ _ _ s2 (λo=>k _ o D.i2z D.i12.symm) (λo=>k _ o Y.bz Y.b1)
  ·intro h' tk e k he
   obtain⟨o,ho,hc⟩:=he
   refine la (lda (T := "StopIteration") (b:=true) ⟨o,ho,hc⟩ isSubtype_stop ?_)
   exact lj (hQ _ _ λc o c1 _ c3 c4 e=>k c o c1 c3 c4 e)
end
section
variable {prog:Program}{w:World}{K:Type} [DecidableEq K]{knd:KeyKind prog w K}{A:Around}{R:Result->Shared->Prop}{z TI TO i1 i2 p1 p2 d:Addr}{n1 n2:Nat}{g1 g2:Nat->Value}{S1 S2:Nat->Heap->Prop}
theorem zjs (hh:A.handled=none)(Y:GAp z TI TO i1 i2 p1 p2 d)(C1:Src prog w i1 p1 n1 g1 S1)(C2:Src prog w i2 p2 n2 g2 S2)(f:Nat->K)(hk:∀i,i<min n1 n2->knd.is (f i) (g1 i)=true)(hsm:n1<=1000) :
  ∀ (n i:Nat) (s:Shared) (kvs:List (K×Value)) (q:Int) (tq:Tok),min n1 n2 - i=n->i<=min n1 n2->GSt s.heap z TI TO i1 i2 d S1 S2 i->s.heap.DictOf knd d kvs->kvs.length<=i ->
   (∀h' tk,h'.DictOf knd d (((List.range (min n1 n2)).drop i).foldl (λm j=>stored m (f j) (g2 j)) kvs)->(∀c o,c≠z->c≠TO->c≠i1->c≠i2->c≠d->s.heap.get? c=some o->h'.get? c=some o) ->
    R (.ok (.ret .none)) {s with heap:=h',toks:=tk}) ->
   codeAny (model prog w) A (.builtin "dict.update.loop" ⟨[.ref d,.ref z,.int q tq,.none],[]⟩) R s:=by
 intro n
 induction n with
 | zero =>
  intro i s kvs q tq hn hi Z hm hl hR
  refine lcq zc2 ?_
  rw[Around.under_plainId jP _]
  show wpAny _ A.in1 (pyNext (.ref z) >>= _) _ _ s
  refine la (Z.done hh Y C1 C2 (by omega) λh' tk k=>?_)
  refine la (m:=Builtin.Dict.addKeywords d []) (lj (lj ?_))
  have e:(List.range (min n1 n2)).drop i=[]:=lae (by rw[laf];omega)
  rw[e] at hR
  refine hR h' tk ?_ λc o c1 c2 c3 c4 _ e=>k c o c1 c2 c3 c4 e
  obtain⟨o,ho,r⟩:=lbI.mp hm
  exact lbI.mpr ⟨o,k _ _ Y.dz Y.dO Y.d1 Y.d2 ho,r⟩
 | succ n ih =>
  intro i s kvs q tq hn hi Z hm hl hR
  refine lcq zc2 ?_
  rw[Around.under_plainId jP _]
  show wpAny _ A.in1 (pyNext (.ref z) >>= _) _ _ s
  have hd:d<s.heap.objs.size:=by obtain⟨o,ho,_⟩:=lbI.mp hm;exact lu ho
  refine la (Z.next Y C1 C2 hd (by omega) (by omega) λT h' tk Z' hp k hsz=>?_)
  dsimp only
  have hT:(⟨h',s.gens,s.drawn,tk,s.os⟩:Shared).TypeIs (.ref T) "tuple" := ⟨_,hp,rfl⟩
  refine la (laQ (la (wpAny_tryCatch ?_)))
  unfold Builtin.Dict.pairItems
  refine la (lcC hT ?_)
  rw[lB (by decide)]
  refine la (laH hp rfl (lj ?_))
  show wpAny _ A.in1 (holding [g1 i,g2 i] (dictSet d (g1 i) (g2 i))) _ _ _
  have hm':h'.DictOf knd d kvs:=by
   obtain⟨o,ho,r⟩:=lbI.mp hm
   exact lbI.mpr ⟨o,k _ _ Y.dz Y.dO Y.d1 Y.d2 ho,r⟩
  refine laQ (wpAny_dictSet_pairs (hk i (by omega)) hm' (λh'' hm'' sb=>?_) (by rw[lbm];omega))
  refine lj ⟨plainId_quiet jP _,?_⟩
  have hl2:(stored kvs (f i) (g2 i)).length<=i+1:=by
   have:=stored_length_le kvs (f i) (g2 i)
   omega
  refine ih (i+1) _ _ _ _ (by omega) (by omega) (Z'.dict Y C1 C2 λc o hc e=>sb.extBut _ _ hc e) hm'' hl2 λh3 tk3 hm3 k3=>?_
  have e:(List.range (min n1 n2)).drop i=i::(List.range (min n1 n2)).drop (i+1):=by
   rw[lah (by rw[laf];omega)]
   simp
  rw[e,lan] at hR
  exact hR h3 tk3 hm3 λc o c1 c2 c3 c4 c5 e=>k3 c o c1 c2 c3 c4 c5 (sb.extBut _ _ c5 (k c o c1 c2 c3 c4 e))
end
section
variable {prog:Program}{w:World}{K:Type} [DecidableEq K]{knd:KeyKind prog w K}{A:Around}{E:Value->Shared->Prop}{s:Shared}{z TI TO i1 i2 p1 p2:Addr}{n1 n2:Nat}{g1 g2:Nat->Value}{S1 S2:Nat->Heap->Prop}
theorem call_dict_zipG {Q:Value->Shared->Prop}(hh:A.handled=none)(D:Apart z TI TO i1 i2)(az:p1≠z)(aO:p1≠TO)(a2:p1≠i2)(bz:p2≠z)(bO:p2≠TO)(b1:p2≠i1)
  (C1:Src prog w i1 p1 n1 g1 S1) (C2:Src prog w i2 p2 n2 g2 S2) (f:Nat->K) (hk:∀i,i<min n1 n2->knd.is (f i) (g1 i)=true) (hsm:n1<=1000)
  (hz:IsZipF s.heap z TI TO .none (.bool false)) (hTI:IsPair s.heap TI (.ref i1) (.ref i2)) (hTO:IsPair s.heap TO .none .none) (s1:S1 0 s.heap) (s2:S2 0 s.heap)
  (h:∀h' tk,h'.DictOf knd s.heap.objs.size ((List.range (min n1 n2)).foldl (λm j=>stored m (f j) (g2 j)) [])->(∀c o,c≠z->c≠TO->c≠i1->c≠i2->s.heap.get? c=some o->h'.get? c=some o) ->
   Q (.ref s.heap.objs.size) {s with heap:=h',toks:=tk}) :
  wpAny (model prog w) A (call (.type "dict") [.ref z]) Q E s:=by
 refine callType_codes (Q₁:=λobj s₁=>obj=.ref s.heap.objs.size/\s₁={s with heap:=s.heap.push {cls:=.type "dict", data:=.dict #[]} }) F.kt_called_dict (F.kt_typeCall_dict_1 _) F.entry_dict_init (kt_code_dict_new _ ⟨rfl,rfl⟩) ?_
 rintro obj s₁ ⟨rfl,rfl⟩
 have hnew:(s.heap.push {cls:=.type "dict", data:=.dict #[]}).DictOf knd s.heap.objs.size []:=Heap.DictOf.new s.heap
 have up:∀c o,s.heap.get? c=some o->(s.heap.push {cls:=.type "dict", data:=.dict #[]}).get? c=some o:=λc o e=>lb _ e
 have hz':=up _ _ hz
 have hzT:({s with heap:=s.heap.push {cls:=.type "dict", data:=.dict #[]} }:Shared).TypeIs (.ref z) "zip" := ⟨_,hz',rfl⟩
 have lt:∀{c:Addr}{o:Obj},s.heap.get? c=some o->s.heap.objs.size≠c:=λe=>laE (lu e)
 obtain⟨⟨o1,e1⟩,q1,f1⟩:=C1.li _ _ s1
 obtain⟨⟨o2,e2⟩,q2,f2⟩:=C2.li _ _ s2
 have Y:GAp z TI TO i1 i2 p1 p2 s.heap.objs.size:=⟨D,az,aO,a2,bz,bO,b1,lt hz,lt hTI,lt hTO,lt e1,lt e2,lt f1,lt f2⟩
 refine⟨hnew.typeIs,F.args_dict_init_2 _ _,?_⟩
 unfold Builtin.«dict.__init__»
 refine la ?_
 unfold Builtin.Dict.selfAndRest
 refine la (wpAny_notOrdered_dict hnew.typeIs ?_)
 show wpAny _ _ (pure (s.heap.objs.size,[Value.ref z])) _ _ _
 refine lj ?_
 show wpAny _ _ (Builtin.Dict.updateFrom "dict.__init__" s.heap.objs.size (.ref z) [] .none) _ _ _
 unfold Builtin.Dict.updateFrom
 refine la (lcC hzT ?_)
 rw[lB (by decide)]
 refine la (zmk hz' hh λh4 tk4 k4=>?_)
 simp only[Option.isNone_none,lba]
 refine la (lcB ?_)
 have kk:∀c o,s.heap.get? c=some o->h4.get? c=some o:=λc o e=>k4 _ _ (up _ _ e)
 have Z:GSt h4 z TI TO i1 i2 s.heap.objs.size S1 S2 0:=⟨.inl ⟨false,k4 _ _ hz'⟩,kk _ _ hTI,⟨_,_,kk _ _ hTO⟩,C1.mv _ _ _ s1 (λo=>kk _ o) (λo=>kk _ o),C2.mv _ _ _ s2 (λo=>kk _ o) (λo=>kk _ o)⟩
 have hm:h4.DictOf knd s.heap.objs.size []:=by
  obtain⟨o,ho,r⟩:=lbI.mp hnew
  exact lbI.mpr ⟨o,k4 _ _ ho,r⟩
 refine la (wpAny_pyIter_zip (k4 _ _ hz') ?_)
 refine lj ⟨plainId_quiet jP _,?_⟩
 refine zjs (knd:=knd) (A:=A.in1) hh Y C1 C2 f hk hsm _ 0 _ [] _ _ rfl (la2 _) Z hm (lp _) λh5 tk5 hm5 k5=>?_
 exact⟨rfl,h h5 tk5 (by simpa using hm5) λc o c1 c2 c3 c4 e=>k5 c o c1 c2 c3 c4 (λq=>lt e q.symm) (kk _ _ e)⟩
end
section
variable {prog:Program}{w:World}{A:Around}{E:Value->Shared->Prop}{s:Shared}
abbrev lIter (t:Addr):Obj:={cls:=.type "list_iterator", data:=.fields #[.ref t,.int 0 0]}
def Itb (l:Addr)(o:Obj)(G:Heap->Prop):Prop:=∀(prog:Program) (w:World) (A:Around) (s:Shared) (Q:Value->Shared->Prop) (E:Value->Shared->Prop),G s.heap->Q (.ref s.heap.objs.size) {s with heap:=s.heap.push o}->wpAny (model prog w) A (pyIter (.ref l)) Q E s
theorem itb_tup (l:Addr)(xs:Array Value):Itb l (tIter l) (λh=>h.IsTuple l xs):=λ_ _ _ _ _ _ g q=>lcX g q
theorem itb_lst (l:Addr)(xs:Array Value):Itb l (lIter l) (λh=>h.IsList l xs):=λ_ _ _ _ _ _ g q=>lb0 g q
theorem zjH {l1 l2:Addr}{o1 o2:Obj}{G1 G2:Heap->Prop}(b1:Itb l1 o1 G1)(b2:Itb l2 o2 G2)(up:∀h,G2 h->G2 (h.push o1)) :
  Meets (Builtin.«zip.__new__» ⟨[.type "zip", .ref l1,.ref l2],[]⟩) (λ_ R s=>G1 s.heap/\G2 s.heap /\
   R (.ok (.ret (.ref (zH4 s.heap o1 o2).objs.size))) {s with heap:=zH5 s.heap o1 o2}) :=
 .of_wp λprog w A R s h=>by
  obtain⟨hl1,hl2,h⟩:=h
  have z3:(zH3 s.heap o1 o2).objs.size=(zH2 s.heap o1 o2).objs.size+1:=lag ..
  have z4:(zH4 s.heap o1 o2).objs.size=(zH2 s.heap o1 o2).objs.size+2:=by rw[lag,z3]
  refine meets_st_aux (h1:=s.heap.push o1) (h2:=zH2 s.heap o1 o2) (i1:=s.heap.objs.size) (i2:=(s.heap.push o1).objs.size)
   (λQ E q=>b1 prog w A.in1 s Q E hl1 q) (λQ E q=>b2 prog w A.in1 {s with heap:=s.heap.push o1} Q E (up _ hl2) q) ⟨_,rfl,?_⟩
  rw[← z4,← z3]
  exact h
theorem call_zipG {l1 l2:Addr}{o1 o2:Obj}{G1 G2:Heap->Prop}{Q:Value->Shared->Prop}(f1:o1.isFreed=false)(f2:o2.isFreed=false)(b1:Itb l1 o1 G1)(b2:Itb l2 o2 G2)(up:∀h,G2 h->G2 (h.push o1))(hl1:G1 s.heap)(hl2:G2 s.heap)
  (h:∀h',Made5 s.heap h' o1 o2->Q (.ref (s.heap.objs.size+4)) {s with heap:=h'}) :
  wpAny (model prog w) A (call (.type "zip") [.ref l1,.ref l2]) Q E s:=by
 refine callType_new F.called_zip (by decide) (F.typeCall_zip_2 _ _) (F.newCall_zip_2 _ _) (λobj=>F.args_object_init_3 obj _ _) F.entry_zip_new
  (zjH b1 b2 up) ⟨hl1,hl2,?_⟩
 obtain⟨m,z4⟩:=made5 s.heap o1 o2 f1 f2
 show _/\_
 rw[z4]
 exact⟨⟨_,m.1,rfl⟩,h _ m⟩
end
end Zp
set_option maxHeartbeats 1000000
namespace L2
open PySem PySem.Spec PyProof.Rows
def TxtOk (x:Str):Prop:=PyData.strOk x=true/\x.length<=1000000
mutual
inductive Is (K:PySem.W.Frag)(H:Hp):V->PyData->Prop
 | non:Is K H .non .none
 | bl (b:Bool):Is K H (.bl b) (.bool b)
 | int (i:Int):Is K H (.int i) (.int i)
 | str (x:Str) (ok:TxtOk x):Is K H (.str x) (.str x)
 | lst {a:Addr}{xs:List V}{ds:List PyData}:SqL K H a xs->Iss K H xs ds->Is K H (.ref a) (.list ds)
 | tup {a:Addr}{xs:List V}{ds:List PyData}:SqT K H a xs->Iss K H xs ds->Is K H (.ref a) (.tuple ds)
inductive Iss (K:PySem.W.Frag)(H:Hp):List V->List PyData->Prop
 | nil:Iss K H [] []
 | cons {v:V}{d:PyData}{vs:List V}{ds:List PyData}:Is K H v d->Iss K H vs ds->Iss K H (v::vs) (d::ds)
end
theorem Same.seqT {K:PySem.W.Frag}{H H':Hp}{a:Addr}{xs:List V}(e:Same H H')(h:SqT K H a xs):SqT K H' a xs:=by
 rcases h with(h|⟨o,h⟩)|h
 ·exact .inl (.inl (e _ _ h))
 ·exact .inl (.inr ⟨o,e _ _ h⟩)
 ·exact .inr h
section
variable {K:PySem.W.Frag}{H H':Hp}
theorem Is.mono_both (e:Same H H'):(∀{v:V}{d:PyData},Is K H v d->Is K H' v d)/\(∀{vs:List V}{ds:List PyData},Iss K H vs ds->Iss K H' vs ds):=by
 refine⟨λ{v d} h=>?_,λ{vs ds} h=>?_⟩
 ·exact Is.rec (motive_1:=λv d _=>Is K H' v d) (motive_2:=λvs ds _=>Iss K H' vs ds) .non .bl .int .str (λq _ ih=>.lst (e.seq q) ih) (λq _ ih=>.tup (e.seqT q) ih) .nil (λ_ _ a b=>.cons a b) h
 ·exact Iss.rec (motive_1:=λv d _=>Is K H' v d) (motive_2:=λvs ds _=>Iss K H' vs ds) .non .bl .int .str (λq _ ih=>.lst (e.seq q) ih) (λq _ ih=>.tup (e.seqT q) ih) .nil (λ_ _ a b=>.cons a b) h
theorem Is.mono {v:V}{d:PyData}(h:Is K H v d)(e:Same H H'):Is K H' v d:=(Is.mono_both e).1 h
theorem Iss.mono {vs:List V}{ds:List PyData}(h:Iss K H vs ds)(e:Same H H'):Iss K H' vs ds:=(Is.mono_both e).2 h
theorem Iss.length:∀{vs:List V}{ds:List PyData},Iss K H vs ds->vs.length=ds.length
 | _,_,.nil=>rfl
 | _,_,.cons _ r=>by simp[r.length]
theorem Iss.append:∀{vs ws:List V}{ds es:List PyData},Iss K H vs ds->Iss K H ws es->Iss K H (vs++ws) (ds++es)
 | _,_,_,_,.nil,s=>s
 | _,_,_,_,.cons r t,s=>.cons r (Iss.append t s)
theorem Iss.get:∀{vs:List V}{ds:List PyData}{i:Nat}{v:V},Iss K H vs ds->vs[i]? = some v->∃d,ds[i]? = some d/\Is K H v d
 | _,_,_,_,.nil,e=>by simp at e
 | _,_,0,_,.cons r _,e=>by simp at e;subst e;exact⟨_,rfl,r⟩
 | _,_,i+1,v,.cons _ t,e=>by
  obtain⟨d,h1,h2⟩:=Iss.get (i:=i) (v:=v) t (by simpa using e)
  exact⟨d,by simpa using h1,h2⟩
theorem Iss.take:∀{vs:List V}{ds:List PyData} (n:Nat),Iss K H vs ds->Iss K H (vs.take n) (ds.take n)
 | _,_,0,_=>.nil
 | _,_,_+1,.nil=>.nil
 | _,_,n+1,.cons r t=>.cons r (Iss.take n t)
theorem Iss.drop:∀{vs:List V}{ds:List PyData} (n:Nat),Iss K H vs ds->Iss K H (vs.drop n) (ds.drop n)
 | _,_,0,r=>r
 | _,_,_+1,.nil=>.nil
 | _,_,n+1,.cons _ t=>Iss.drop n t
theorem Is.can_both:(∀{v:V}{d:PyData},Is K H v d->d.canLay0=true)/\(∀{vs:List V}{ds:List PyData},Iss K H vs ds->PyData.canLayAll0 ds=true):=by
 have hs:∀(x:Str),TxtOk x->(PyData.str x).canLay0=true:=λx h=>h.1
 refine⟨λ{v d} h=>?_,λ{vs ds} h=>?_⟩
 ·exact Is.rec (motive_1:=λv d _=>d.canLay0=true) (motive_2:=λvs ds _=>PyData.canLayAll0 ds=true) rfl (λ_=>rfl) (λ_=>rfl) hs (λ_ _ ih=>ih) (λ_ _ ih=>ih) rfl (λ_ _ a b=>by simp[PyData.canLayAll0,a,b]) h
 ·exact Iss.rec (motive_1:=λv d _=>d.canLay0=true) (motive_2:=λvs ds _=>PyData.canLayAll0 ds=true) rfl (λ_=>rfl) (λ_=>rfl) hs (λ_ _ ih=>ih) (λ_ _ ih=>ih) rfl (λ_ _ a b=>by simp[PyData.canLayAll0,a,b]) h
theorem Is.can {v:V}{d:PyData}(h:Is K H v d):d.canLay0=true:=Is.can_both.1 h
end
section
variable {X:Cx}{pins:List (Addr×Obj)}{σ:St}{H:Hp}{s:Shared}
theorem Inv.reads_both (I:Inv X pins σ H s):(∀{v:V}{d:PyData},Is X.K H v d->∀{u:Value},RelV v u->∃as,Reads s.heap u d as)/\(∀{vs:List V}{ds:List PyData},Iss X.K H vs ds->∀{us:List Value},Vals vs us->∃as,ReadsAll s.heap us ds as):=by
 have h1:∀{u:Value},RelV .non u->∃as,Reads s.heap u .none as:=λ{u} r=>by cases r;exact⟨_,.none⟩
 have h2:∀(b:Bool) {u:Value},RelV (.bl b) u->∃as,Reads s.heap u (.bool b) as:=λb {u} r=>by cases r;exact⟨_,.bool b⟩
 have h3:∀(i:Int) {u:Value},RelV (.int i) u->∃as,Reads s.heap u (.int i) as:=λi {u} r=>by obtain⟨t,rfl⟩:=r;exact⟨_,.int i t⟩
 have h4:∀(x:Str),TxtOk x->∀{u:Value},RelV (.str x) u->∃as,Reads s.heap u (.str x) as:=λx _ {u} r=>by obtain⟨t,rfl⟩:=r;exact⟨_,.str x t⟩
 have h5:∀{a:Addr}{xs:List V}{ds:List PyData} (_:SqL X.K H a xs) (_:Iss X.K H xs ds),(∀{us:List Value},Vals xs us->∃as,ReadsAll s.heap us ds as)->∀{u:Value},RelV (.ref a) u->∃as,Reads s.heap u (.list ds) as:=by
  intro a xs ds q _ ih u r
  cases r
  obtain⟨its,rv,⟨o,n,e,hc,_,hd⟩,_⟩:=I.list q
  obtain⟨as,ra⟩:=ih rv
  exact⟨_,.list e hc hd (by simpa using ra)⟩
 have h6:∀{a:Addr}{xs:List V}{ds:List PyData} (_:SqT X.K H a xs) (_:Iss X.K H xs ds),(∀{us:List Value},Vals xs us->∃as,ReadsAll s.heap us ds as)->∀{u:Value},RelV (.ref a) u->∃as,Reads s.heap u (.tuple ds) as:=by
  intro a xs ds q _ ih u r
  cases r
  obtain⟨its,rv,⟨o,e,hc,n,hd⟩,_⟩:=I.tuple q
  obtain⟨as,ra⟩:=ih rv
  exact⟨_,.tuple e hc hd (by simpa using ra)⟩
 have h7:∀{us:List Value},Vals [] us->∃as,ReadsAll s.heap us [] as:=λ{us} r=>by cases r;exact⟨_,.nil⟩
 have h8:∀{v:V}{d:PyData}{vs:List V}{ds:List PyData} (_:Is X.K H v d) (_:Iss X.K H vs ds),(∀{u:Value},RelV v u->∃as,Reads s.heap u d as)->(∀{us:List Value},Vals vs us->∃as,ReadsAll s.heap us ds as)->∀{us:List Value},Vals (v::vs) us->∃as,ReadsAll s.heap us (d::ds) as:=by
  intro v d vs ds _ _ a b us r
  cases r with
  | cons r t =>
   obtain⟨_,ra⟩:=a r
   obtain⟨_,rb⟩:=b t
   exact⟨_,.cons ra rb⟩
 refine⟨λ{v d} h=>?_,λ{vs ds} h=>?_⟩
 ·exact Is.rec (motive_1:=λv d _=>∀{u:Value},RelV v u->∃as,Reads s.heap u d as) (motive_2:=λvs ds _=>∀{us:List Value},Vals vs us->∃as,ReadsAll s.heap us ds as) h1 h2 h3 h4 h5 h6 h7 h8 h
 ·exact Iss.rec (motive_1:=λv d _=>∀{u:Value},RelV v u->∃as,Reads s.heap u d as) (motive_2:=λvs ds _=>∀{us:List Value},Vals vs us->∃as,ReadsAll s.heap us ds as) h1 h2 h3 h4 h5 h6 h7 h8 h
theorem Inv.reads (I:Inv X pins σ H s){v:V}{d:PyData}{u:Value}(h:Is X.K H v d)(r:RelV v u):∃as,Reads s.heap u d as:=I.reads_both.1 h r
def zp4 (K:PySem.W.Frag):R2:=λx y H Q=>∃d e,Is K H x d/\Is K H y e/\d.depth<=60/\Q (.bl (PyData.eqv d e)) H
def zqk (K:PySem.W.Frag):R2:=λx y H Q=>∃d e,Is K H x d/\Is K H y e/\d.depth<=60/\Q (.bl (!PyData.eqv d e)) H
theorem zab (hu:X.A.units+64<cLine):OpR X (compareOp .Eq) (zp4 X.K):=by
 intro pins s σ H x y v u Q I rx ry h
 obtain⟨d,e,hd,he,hz,q⟩:=h
 obtain⟨_,ra⟩:=I.reads hd rx
 obtain⟨_,rb⟩:=I.reads he ry
 exact SeqAt.rcAt_reads ra rb hd.can he.can (by omega) X.prog X.w X.xe _ (zes I q rfl)
theorem ju (hu:X.A.units+64<cLine):OpR X (compareOp .NotEq) (zqk X.K):=by
 intro pins s σ H x y v u Q I rx ry h
 obtain⟨d,e,hd,he,hz,q⟩:=h
 obtain⟨_,ra⟩:=I.reads hd rx
 obtain⟨_,rb⟩:=I.reads he ry
 exact SeqAt.rcNeAt_reads ra rb hd.can he.can (by omega) X.prog X.w X.xe _ (zes I q rfl)
end
def zbv (scope:Scope)(env:Env):List (Str×Addr):=scope.names.foldl (λcs y=>if y.2 == NameKind.free then(y.1,(env.cells.lookup y.1).getD 0)::cs else cs) []
theorem zdv {scope:Scope}{env:Env}(h:∀y∈scope.names,y.2=.free->∃c,env.cells.lookup y.1=some c):closureFor scope env=pure (zbv scope env):=by
 have key:∀(names:List (Str×NameKind)) (cs:List (Str×Addr)),(∀y∈names,y.2=.free->∃c,env.cells.lookup y.1=some c) ->
   (forIn names cs (λ(x:Str×NameKind) (r:List (Str×Addr))=>if (x.2 == NameKind.free)=true then(do let a ← cellOf env x.1;pure (ForInStep.yield ((x.1,a)::r)):Sem (ForInStep (List (Str×Addr)))) else pure (ForInStep.yield r))) =
    pure (names.foldl (λcs y=>if y.2 == NameKind.free then(y.1,(env.cells.lookup y.1).getD 0)::cs else cs) cs):=by
  intro names
  induction names with
  | nil=>intro cs _;rfl
  | cons y r ih =>
   intro cs hy
   have hr:∀z∈r,z.2=.free->∃c,env.cells.lookup z.1=some c:=λz hz=>hy z (lK _ hz)
   rw[lbG,lan]
   cases hk:(y.2 == NameKind.free) with
   | false =>
    simp only[lN,laT]
    exact ih cs hr
   | true =>
    have e:y.2=.free:=by simpa using hk
    obtain⟨c,hc⟩:=hy y lY e
    have hco:cellOf env y.1=pure c:=by unfold cellOf;rw[hc]
    simp only[lba,hco,hc,Option.getD_some]
    exact ih _ hr
 unfold closureFor zbv
 have:=key scope.names [] h
 first|exact(lbd (· >>= λr=>pure r) this).trans rfl|exact this|simpa using this
theorem zc4 {scope:Scope}{env:Env}(h:∀y∈scope.names,y.2=.free->∃c,env.cells.lookup y.1=some c):∀p∈zbv scope env,env.cells.lookup p.1=some p.2/\(p.1,NameKind.free)∈scope.names:=by
 have key:∀(names:List (Str×NameKind)) (cs:List (Str×Addr)),(∀y∈names,y∈scope.names)->(∀p∈cs,env.cells.lookup p.1=some p.2/\(p.1,NameKind.free)∈scope.names) ->
   ∀p∈names.foldl (λcs y=>if y.2 == NameKind.free then(y.1,(env.cells.lookup y.1).getD 0)::cs else cs) cs,env.cells.lookup p.1=some p.2/\(p.1,NameKind.free)∈scope.names:=by
  intro names
  induction names with
  | nil=>intro cs _ hc;exact hc
  | cons y r ih =>
   intro cs hs hc
   rw[lan]
   refine ih _ (λz hz=>hs z (lK _ hz)) ?_
   cases hk:(y.2 == NameKind.free) with
   | false=>simp only[lN,laT];exact hc
   | true =>
    have e:y.2=.free:=by simpa using hk
    obtain⟨c,hcc⟩:=h y (hs y lY) e
    simp only[lba]
    intro p hp
    rcases lz.mp hp with rfl|hp
    ·exact⟨by rw[hcc];rfl,by have:=hs y lY;rw[← e];exact this⟩
    ·exact hc p hp
 exact key scope.names [] (λ_ h=>h) (λp hp=>by cases hp)
theorem zdn {l:List (Str×Addr)}{x:Str}(h:∃p∈l,p.1=x):∃c,l.lookup x=some c:=by
 induction l with
 | nil=>obtain⟨p,hp,_⟩:=h;cases hp
 | cons q r ih =>
  rw[laZ]
  cases hq:(x == q.1) with
  | true=>exact⟨_,rfl⟩
  | false =>
   obtain⟨p,hp,e⟩:=h
   rcases lz.mp hp with rfl|hp
   ·subst e;simp at hq
   ·exact ih ⟨p,hp,e⟩
theorem zdb {scope:Scope}{env:Env}{x:Str}(hx:(x,NameKind.free)∈scope.names):∃c,(zbv scope env).lookup x=some c:=by
 refine zdn ?_
 have key:∀(names:List (Str×NameKind)) (cs:List (Str×Addr)),((x,NameKind.free)∈names∨∃p∈cs,p.1=x) ->
   ∃p∈names.foldl (λcs y=>if y.2 == NameKind.free then(y.1,(env.cells.lookup y.1).getD 0)::cs else cs) cs,p.1=x:=by
  intro names
  induction names with
  | nil=>intro cs h;rcases h with h|h;cases h;exact h
  | cons y r ih =>
   intro cs h
   rw[lan]
   refine ih _ ?_
   rcases h with h|⟨p,hp,e⟩
   ·rcases lz.mp h with h|h
    ·subst h
     exact .inr ⟨_,lY,rfl⟩
    ·exact .inl h
   ·refine .inr ⟨p,?_,e⟩
    cases (y.2 == NameKind.free) with
    | true=>exact lK _ hp
    | false=>exact hp
 exact key scope.names [] (.inl hx)
theorem j8 {scope:Scope}{env:Env}{x:Str}:(relabel scope env).names.lookup x=(scope.names.lookup x).map λk=>if (k == NameKind.free&&env.scope.kind == .function&&env.kindOf x == some .cell) then NameKind.cell else k:=by
 show(scope.names.map _).lookup x=_
 induction scope.names with
 | nil=>rfl
 | cons y r ih =>
  obtain⟨n,k⟩:=y
  rw[lC,laZ]
  cases hx:(x == n) with
  | true =>
   have e:x=n:=by simpa using hx
   subst e
   show List.lookup x ((if (k == NameKind.free&&env.scope.kind == .function&&env.kindOf x == some .cell)=true then(x,NameKind.cell) else(x,k))::_)=_
   split
   ·rename_i h
    simp only[laZ,hx,ldi]
    rw[lB h]
   ·rename_i h
    simp only[laZ,hx,ldi]
    rw[lW h]
  | false =>
   show List.lookup x ((if (k == NameKind.free&&env.scope.kind == .function&&env.kindOf n == some .cell)=true then(n,NameKind.cell) else(n,k))::_)=_
   split <;>simp only[laZ,hx] <;>exact ih
structure CompOk (X:Cx)(scope:Scope)(caps:List Nat):Prop where
 kind:scope.kind=.function
 ncell:∀y∈scope.names,y.2=.cell->scope.names.lookup y.1=some .cell
 locs:∀y∈scope.names,y.2=.local->scope.names.lookup y.1=some .local
 free:∀y∈scope.names,y.2=.free->X.env.kindOf y.1=some .cell∨X.env.kindOf y.1=some .free
 caps:∀i∈caps,∃y,X.N[i]? = some y/\scope.names.lookup y=some .free
def zpC (X:Cx)(own:List Str)(caps:List Nat):List Str:=own++caps.map λi=>X.N.getD i Str.empty
def zfo (own:List Str)(caps:List Nat)(σ:St):St:=own.map (λ_=>none)++caps.map λi=>(σ[i]?).getD none
def zjY (scope:Scope)(C:Addr):List (Str×Addr):=cellsFrom (C+1) scope.names []
def zk2 (scope:Scope)(env:Env)(C:Addr):List (Str×Addr):=zjY scope C++zbv scope env
theorem zaC:∀(names:List (Str×NameKind)) (n:Nat) (acc:List (Str×Addr)),cellsFrom n names acc=cellsFrom n names []++acc:=by
 intro names
 induction names with
 | nil=>intro n acc;rfl
 | cons y r ih =>
  obtain⟨x,k⟩:=y
  intro n acc
  unfold cellsFrom
  split
  ·rw[ih _ ((x,n)::acc),ih _ [(x,n)],laL];rfl
  ·exact ih n acc
theorem zd3:∀(names:List (Str×NameKind)) (n:Nat) (x:Str) (c:Addr),(x,c)∈cellsFrom n names []->(x,NameKind.cell)∈names:=by
 intro names
 induction names with
 | nil=>intro n x c h;cases h
 | cons y r ih =>
  obtain⟨z,k⟩:=y
  intro n x c h
  unfold cellsFrom at h
  split at h
  ·rename_i hk
   rw[zaC] at h
   rcases lam.mp h with h|h
   ·exact lK _ (ih _ _ _ h)
   ·have e:=lI.mp h
    injection e with e1 e2
    subst e1
    have ek:k=.cell:=by simpa using hk
    subst ek
    exact lY
  ·exact lK _ (ih _ _ _ h)
theorem zde {l r:List (Str×Addr)}{x:Str}{c:Addr}(h:(l++r).lookup x=some c):l.lookup x=some c∨(l.lookup x=none/\r.lookup x=some c):=by
 rw[lcZ] at h
 cases e:l.lookup x with
 | none=>rw[e] at h;exact .inr ⟨rfl,h⟩
 | some d=>rw[e] at h;exact .inl h
theorem zg3 {l r:List (Str×Addr)}{x:Str}{c:Addr}(h:l.lookup x=some c):(l++r).lookup x=some c:=by rw[lcZ,h];rfl
theorem zgv {l r:List (Str×Addr)}{x:Str}{c:Addr}(n:l.lookup x=none)(h:r.lookup x=some c):(l++r).lookup x=some c:=by rw[lcZ,n];exact h
def cxC (X:Cx)(pins:List (Addr×Obj))(scope:Scope)(own:List Str)(caps:List Nat)(C:Addr)(ex:List Addr)(s:Shared)(H:Hp):Cx :=
 {X with N:=zpC X own caps,s₀:=s,H₀:=H,env:=compEnvC scope (zk2 scope X.env C) C X.env,outer:=X.stack,ex:=ex,fn:=λx=>scope.names.lookup x == some .cell,pn:=X.pn++pins,xe:=λ_ _=>False}
section
variable {X:Cx}{pins:List (Addr×Obj)}{σ:St}{H:Hp}{s:Shared}{scope:Scope}{own:List Str}{caps:List Nat}
theorem Inv.track {D:Addr}{o:HO} (I:Inv X pins σ H s) (hn:H D=none) (h0:D∈X.ex∨X.s₀.heap.objs.size<=D) (hL:D≠X.env.locals) (hc:∀x c,X.env.cells.lookup x=some c->c≠D) (hp:∀p∈X.pn++pins,p.1≠D)
  (new:ObjOk X.prog X.w (upd H D o) s.heap D o):Inv X pins σ (upd H D o) s:=by
 have ne:∀b u,H b=some u->b≠D:=λb u e=>yK e hn
 have q := I.step (g':=s.gens) (t':=s.toks) (d':=s.drawn) (ch:=[D]) (h':=s.heap) (H':=upd H D o)
  (λb hb => by
                  have e:b=D:=by simpa using hb
                  subst e;exact⟨h0,hL,hc,hp⟩)
  (λb o' _ _ _ e _=>e) (λb o' _ _ _ e _=>⟨o'.slots,e⟩) (λb o' hb _ n=>by rw[zF (λz=>hb (by simp[z]))];exact n) (λb o' _ e=>⟨o',e⟩)
  (λb xs e=>by rw[zF (ne b _ e)];exact e) (λb o' u e=>by rw[zF (ne b _ e)];exact e) (λb ps e=>⟨#[],by rw[zF (ne b _ e),e];simp⟩) (λm hm=>hm)
  (λb u e=>by
   by_cases hb:b=D
   ·subst hb;rw[zK] at e;cases e;exact new
   ·rw[zF hb] at e
    exact(I.hok b u e).stay (λc v _ q=>q) (λc q=>by rw[zF (ne c _ q)];exact q) λc xs q=>by rw[zF (ne c _ q)];exact q) I.bare
 exact q
theorem CompOk.cells (ok:CompOk X scope caps)(I:Inv X pins σ H s):∀y∈scope.names,y.2=.free->∃c,X.env.cells.lookup y.1=some c:=λy hy e=>I.ok.has y.1 (ok.free y hy e)
theorem Inv.block {h₁:Heap}{D C:Addr}{fp:List Addr}{m:Str->Option Value}{oD:Obj}{t:Nat}(ok:CompOk X scope caps)(I:Inv X pins σ H s)(hf:∀b∈fp,zjA X pins H b)(hfo:∀b∈fp,∃o,s.heap.get? b=some o/\∀v,o.data≠.cell v)
  (hD:D=s.heap.objs.size) (hC:s.heap.objs.size<=C) (hDC:D≠C) (k:∀b u,s.heap.get? b=some u->h₁.get? b=some u) (hn:h₁.Ns C m) (hoD:h₁.get? D=some oD) (hdD:∀v,oD.data≠.cell v) (cok:CellsOk h₁ (C+1) (zjY scope C)) :
  Inv (cxC X pins scope own caps C fp s H) [(D,oD)] (zfo own caps σ) H {s with heap:=h₁,toks:=t}:=by
 have hcl:=ok.cells I
 have lk:∀x c,(zbv scope X.env).lookup x=some c->X.env.cells.lookup x=some c/\(x,NameKind.free)∈scope.names:=λx c e=>zc4 hcl (x,c) (lak e)
 have lA:∀x c,(zk2 scope X.env C).lookup x=some c->(C<c/\h₁.IsCell c none/\(x,c)∈zjY scope C)∨(zbv scope X.env).lookup x=some c:=λx c e=>by
  rcases zde e with e|⟨_,e⟩
  ·have m:=lak e
   exact .inl ⟨(cok.empty x c m).2,(cok.empty x c m).1,m⟩
  ·exact .inr e
 have lkC:∀x c,X.env.cells.lookup x=some c->c<C:=λx c e=>by
  obtain⟨v,o,ho,_⟩:=I.cell x c e
  exact lm (lu ho) hC
 have nst:∀b,b≠X.env.locals->b∉X.fs->b∉frs X.stack:=λb h1 h2 hb=>by
  rcases lz.mp (I.stkSub b hb) with e|e
  ·exact h1 e
  ·exact h2 e
 have kinds:∀x,((relabel scope X.env).names.lookup x=some .cell∨(relabel scope X.env).names.lookup x=some .free)->(x,NameKind.free)∈scope.names∨scope.names.lookup x=some .cell:=λx hx=>by
  rw[j8] at hx
  cases e:scope.names.lookup x with
  | none=>rw[e] at hx;rcases hx with hx|hx <;>cases hx
  | some kd =>
   have hm:=lak e
   cases kd with
   | free=>exact .inl hm
   | cell=>exact .inr rfl
   | _=>rw[e] at hx;rcases hx with hx|hx <;>simp at hx
 refine⟨⟨I.ok.mod,ok.kind,I.ok.glob,I.ok.blt,hC,?_,?_,?_,I.ok.hd,I.ok.frames,.inl rfl,?_,I.bs,lX I.ok.bsz I.sz,?_,?_,I.stack,I.stkFree⟩,rfl,I.bare,Un.kept k,⟨m,hn,?_⟩,?_,I.hok.fresh hC,?_,?_,I.hok.kept k,?_⟩
 ·intro x y c h1 h2
  rcases lA x c h1 with⟨l1,_,m1⟩|h1 <;>rcases lA y c h2 with⟨l2,_,m2⟩|h2
  ·exact name_of_addr cok.apart m1 m2
  ·exact absurd (lkC y c (lk y c h2).1) (Nat.lt_asymm l1)
  ·exact absurd (lkC x c (lk x c h1).1) (Nat.lt_asymm l2)
  ·exact I.ok.inj x y c (lk x c h1).1 (lk y c h2).1
 ·intro x hx
  show ∃c,(zk2 scope X.env C).lookup x=some c
  cases e:(zjY scope C).lookup x with
  | some c=>exact⟨c,zg3 e⟩
  | none =>
   rcases kinds x hx with h|h
   ·obtain⟨c,h⟩:=zdb (env:=X.env) h
    exact⟨c,zgv e h⟩
   ·obtain⟨c,h⟩:=zbP (n:=C+1) h
    unfold zjY at e
    rw[h] at e;cases e
 ·intro x c hx e
  have hx:(scope.names.lookup x == some .cell)=true:=hx
  obtain⟨c',h⟩:=zbP (sc:=scope) (n:=C+1) (by simpa using hx)
  have e':=zg3 (r:=zbv scope X.env) h
  have e2:(zk2 scope X.env C).lookup x=some c:=e
  unfold zk2 zjY at e2
  rw[e'] at e2
  cases e2
  exact lX hC (lX (lbW C) (cok.empty x _ (lak h)).2)
 ·intro b hb
  obtain⟨o,ho,_⟩:=hfo b hb
  refine⟨lU (lm (lu ho) hC),λx c e=>?_⟩
  rcases lA x c e with⟨l,_,_⟩|e
  ·exact laE (ldh (lm (lu ho) hC) l)
  ·exact(hf b hb).2.2.2.2.1 x c (lk x c e).1
 ·intro b o e hb
  rcases(hf b hb).2.2.2.1 with z|z
  ·exact I.ok.noex b o e z
  ·exact absurd (lm (lu e) (lX I.ok.bsz z)) (lbs _)
 ·exact λb hb=>nst b (hf b hb).2.1 (hf b hb).2.2.1
 ·intro i x v h1 h2 h3
  have h1':(own++caps.map λi=>X.N.getD i Str.empty)[i]? = some x:=h1
  unfold zfo at h2
  have hi:own.length<=i:=by
   apply lby
   intro hlt
   rw[lP (by simpa using hlt),lR] at h2
   cases e:own[i]? with
   | none=>rw[e] at h2;cases h2
   | some y=>rw[e] at h2;cases h2
  rw[lE (by simpa using hi),lR,ly] at h2
  rw[lE hi,lR] at h1'
  cases e:caps[i - own.length]? with
  | none=>rw[e] at h2;cases h2
  | some j =>
   rw[e] at h2 h1'
   have hx:X.N.getD j Str.empty=x:=lc h1'
   have hv:(σ[j]?).getD none=some v:=lc h2
   obtain⟨y,hy,hfr⟩:=ok.caps j (laD e)
   have exy:x=y:=by rw[← hx,lr,hy];rfl
   subst exy
   have hs:σ[j]? = some (some v):=by
    cases q:σ[j]? with
    | none=>rw[q] at hv;cases hv
    | some z=>rw[q] at hv;exact lbd some hv
   have hfm:=lak hfr
   have hkd:=ok.free _ hfm rfl
   obtain⟨m',hn',hl⟩:=I.loc
   obtain⟨u,r,l⟩:=hl j x v hy hs (by rcases hkd with z|z;exact .inr (.inl z);exact .inr (.inr z))
   refine⟨u,r,.inr ⟨?_,?_⟩⟩
   ·show(relabel scope X.env).names.lookup x=some .cell∨(relabel scope X.env).names.lookup x=some .free
    rw[j8,hfr]
    simp only[ldi]
    split
    ·exact .inl rfl
    ·exact .inr rfl
   ·rcases l with⟨hk,_⟩|⟨_,c,hc,o,ho,hd⟩
    ·rcases hkd with z|z <;>(rw[hk] at z;cases z)
    ·obtain ⟨c',hc'⟩:=zdb (env:=X.env) hfm
     have e1:=(lk x c' hc').1
     rw[hc] at e1
     cases e1
     refine⟨c,zgv ?_ hc',o,k _ _ ho,hd⟩
     cases e3:(zjY scope C).lookup x with
     | none=>rfl
     | some c3 =>
      have h3:=ok.ncell _ (zd3 _ _ _ _ (lak e3)) rfl
      rw[hfr] at h3;cases h3
 ·intro x c e
  rcases lA x c e with⟨_,h,_⟩|e
  ·exact⟨_,h⟩
  ·obtain⟨v,o,ho,hd⟩:=I.cell x c (lk x c e).1
   exact⟨v,o,k _ _ ho,hd⟩
 ·intro x c e
  rcases lA x c e with⟨l,_,_⟩|e
  ·exact I.hok.fresh (lX hC (ldf l))
  ·exact I.freeC x c (lk x c e).1
 ·intro p hp
  rcases lam.mp hp with hp|hp
  ·obtain⟨a1,a2,a3,a4,a5⟩:=I.pin p hp
   exact⟨k _ _ a1,a2,lU (lm (lu a1) hC),nst _ a3 a4,a5⟩
  ·have e:p=(D,oD):=by simpa using hp
   subst e
   refine⟨hoD,I.hok.fresh (ldg hD.symm),hDC,?_,hdD⟩
   refine nst D ?_ (I.nofs (ldg hD.symm))
   exact laE (by rw[hD];exact I.lt)
 ·show(zfo own caps σ).length=(zpC X own caps).length
  simp[zfo,zpC]
end
section
variable {prog:Program}{w:World}{A:Around}{R:Result->Shared->Prop}{s:Shared}
theorem ze2 {elt target iter:Expr}{ifs:List Expr}{scope:Scope}{pos:Pos}{it acc:Value}{env:Env}(I:Nat->Shared->Prop)
  (turn : ∀n s,I n s->wpAny (model prog w) A (pyNext it) (λr s₁=>match r with
   | none=>R (.ok .next) s₁
   | some v=>wpAny (model prog w) A (letOwnedTupleGo target it v) (λ_ s₁'=>wpAny (model prog w) A (assign target env v) (λ_ s₂ =>
     wpAny (model prog w) A (forIn ifs true λc r=>if r=true then do let ok ← isTrue c env (eval c env);pure (ForInStep.yield ok) else pure (ForInStep.yield r)) (λok s₃ =>
      if ok=true then wpAny (model prog w) A (eval elt env) (λx s₄ =>
       wpAny (model prog w) A (call (.builtin "list.append") [acc,x]) (λ_ s₅=>∃m,m<n/\I m s₅) (λ_ _=>False) s₄) (λ_ _=>False) s₃
      else ∃m,m<n/\I m s₃) (λ_ _=>False) s₂) (λ_ _=>False) s₁') (λ_ _=>False) s₁) (λ_ _=>False) s)
  (n:Nat) (h:I n s) :
  codeAny (model prog w) A (.compLoop (.ListComp elt [⟨target,iter,ifs,0⟩] scope pos) 0 it acc env) R s:=by
 refine codeAny_loop rfl I (λn s hI=>?_) n h
 show wpAny _ A ((compTurn (.ListComp elt [⟨target,iter,ifs,0⟩] scope pos) 0 it acc env).onRaise (λx=>do noteFrame x env;theTreesLotGoes x)) _ _ s
 refine wpAny_noted ?_
 rw[compTurn_list]
 refine la (wpAny_standAt (la (lai (turn n s hI) (λr s₁ h₁=>?_) λ_ _ h'=>h'.elim)))
 cases r with
 | none=>exact lj h₁
 | some v =>
  refine la (lai h₁ (λ_ s₁' h₁'=>?_) λ_ _ h'=>h'.elim)
  refine la (lai h₁' (λ_ s₂ h₂=>la (lai h₂ (λok s₃ h₃=>?_) λ_ _ h'=>h'.elim)) λ_ _ h'=>h'.elim)
  cases ok with
  | false=>exact lj ⟨rfl,h₃⟩
  | true =>
   exact la (la (lai h₃ (λx s₄ h₄=>la (lai h₄ (λ_ s₅ h₅=>lj (lj ⟨rfl,h₅⟩)) λ_ _ h'=>h'.elim)) λ_ _ h'=>h'.elim))
end
def PTs (X:Cx)(ifs:List Expr)(t:TT):Prop :=
 ∀ (pins:List (Addr×Obj)) (s:Shared) (σ:St) (H:Hp) (Q:Bool->Hp->Prop),Inv X pins σ H s->t σ H Q ->
  wpAny (model X.prog X.w) X.A (forIn ifs true λc r=>if r=true then do let ok ← isTrue c X.env (eval c X.env);pure (ForInStep.yield ok) else pure (ForInStep.yield r)) (TP X pins σ Q) X.xe s
def Kps (σ σ':St):Prop:=σ'.length=σ.length/\∀(i:Nat) (v:V),σ[i]? = some (some v)->σ'[i]? = some (some v)
def zcj (g:TG)(tt:TT)(te:TE)(σ0:St)(F:List V->Hp->Prop)(J:It)(H1:Hp):Prop :=
 ∃ W : Nat->Nat->List V->Hp->Prop,(∃m,W 0 m [] H1)/\∀i m ys H,W i m ys H->ys.length<=sizeLine /\
  ((J.stop i H/\F ys H)∨(J.go i H/\ys.length<sizeLine/\∃N:List V->Hp->Prop,(∀ys' H',N ys' H'->∃m',m'<m/\W (i+1) m' ys' H') /\
    ∀x H',J.yld i H x H'->g x σ0 H' λσ2 H2=>Kps σ0 σ2/\tt σ2 H2 λb H3=>if b=true then te σ2 H3 λy H4=>N (ys++[y]) H4 else N ys H3))
def zpT (wi:TI)(g:TG)(tt:TT)(te:TE)(own:List Str)(caps:List Nat):TE:=λσ H Q=>wi σ H λJ H1=>zcj g tt te (zfo own caps σ) (λys H'=>∀D,H' D=none->Q (.ref D) (upd H' D (.lst ys))) J H1
section
variable {X:Cx}{pins:List (Addr×Obj)}{σ:St}{H:Hp}{s:Shared}{scope:Scope}{own:List Str}{caps:List Nat}{elt tg iter:Expr}{ifs:List Expr}{wi:TI}{g:TG}{tt:TT}{te:TE}{pos:Pos}
structure CompIn (X:Cx)(scope:Scope)(own:List Str)(caps:List Nat)(tg:Expr)(ifs:List Expr)(elt:Expr)(g:TG)(tt:TT)(te:TE):Prop where
 tgt:∀pins C ex s H,PG (cxC X pins scope own caps C ex s H) tg g
 tst:∀pins C ex s H,PTs (cxC X pins scope own caps C ex s H) ifs tt
 elm:∀pins C ex s H,PE (cxC X pins scope own caps C ex s H) elt te
theorem zfI {M:Model}{A:Around}{E:Value->Shared->Prop}{s:Shared}{scope:Scope}{g:Addr}{cl:List (Str×Addr)}{q:Str}{env:Env}{Q:Env->Shared->Prop}
  (h:∀h',h'.Ns s.heap.objs.size (λ_=>none)->(∀b o,s.heap.get? b=some o->h'.get? b=some o)->CellsOk h' (s.heap.objs.size+1) (zjY scope s.heap.objs.size) ->
   Q (newEnv scope s.heap.objs.size g (zjY scope s.heap.objs.size++cl) q none .none (some env) builtinsNs) {s with heap:=h'}) :
  wpAny M A (newFunctionEnv scope g cl [] q none .none (some env)) Q E s:=by
 simp only[newFunctionEnv,Option.isSome_some,lba]
 refine la (wpAny_alloc ?_)
 refine la (wpAny_layCells _ (λname kind cells=>by cases hkc:kind == NameKind.cell <;>simp[hkc]) _ _ _ _ ?_)
 have ok:=cellsFrom_ok scope.names (s.heap.push {cls:=.type "dict", data:=.dict #[]}) (s.heap.objs.size+1) [] ⟨λ_ _ hm=>(nomatch hm),List.Pairwise.nil⟩ (by rw[lag];exact lp _)
 rw[lag] at ok
 rw[show({s with heap:=s.heap.push {cls:=.type "dict", data:=.dict #[]} }:Shared).heap.objs.size=s.heap.objs.size+1 from lag ..]
 rw[zaC,lbQ]
 refine la (lj (lj ?_))
 exact h _ ((Heap.Ns.new s.heap (.type "dict")).keeps (pushCells_keeps _ _)) (λb o e=>pushCells_keeps _ _ b o (lb _ e)) ok
theorem zeT {use:Option (Value->Sem Unit)}{Qv:Value->Shared->Prop}{F:List V->Hp->Prop}(ok:CompOk X scope caps)(hc:X.calm=true)(hi:PI X tg iter wi)(CI:CompIn X scope own caps tg ifs elt g tt te)(I:Inv X pins σ H s)
  (h:wi σ H λJ H1=>zcj g tt te (zfo own caps σ) F J H1)
  (fin:∀(D C:Addr) (ys:List V) (H':Hp) (s1:Shared) (m:Str->Option Value),Inv X pins σ (upd H' D (.lst ys)) s1->H' D=none->F ys H'->s1.heap.Ns C m->H' C=none->C≠D->C≠X.env.locals->C∉X.fs->X.s₀.heap.objs.size<=C ->
   (∀x c,X.env.cells.lookup x=some c->c≠C)->(∀p∈X.pn++pins,p.1≠C)->compPost (model X.prog X.w) X.A X.xe use Qv (.ref D) C (.ok .next) s1)
  (hs:∀x,foldedSetIterable iter X.env x=pure x:=by intro _;rfl) :
  wpAny (model X.prog X.w) X.A (comprehension (.ListComp elt [⟨tg,iter,ifs,0⟩] scope pos) scope X.env (firstIterPos [⟨tg,iter,ifs,0⟩] pos) (newList []) false (eval iter X.env) use) Qv X.xe s:=by
 refine wpAny_comprehension_free rfl hs (zdv (ok.cells I)) ok.kind ok.locs (thn (hi pins s σ H _ I h) λv s1 h1=>thn h1 λitv s2 h2=>?_)
 obtain⟨it,fp,tn,J,H2,e,I2,T,st2,f2,W,⟨m0,w0⟩,turn⟩:=h2
 subst e
 refine laA (zfI (λh₁ hns₁ hsb₁ cok=>?_))
 dsimp only at hns₁ hsb₁ cok ⊢
 generalize hH2:s2.heap.push {cls:=.type "list", dict:=none,data:=.seq ([]:List Value).toArray}=HH at hns₁ hsb₁ cok ⊢
 have hCs:HH.objs.size=s2.heap.objs.size+1:=by rw[← hH2,lag]
 have hDC:s2.heap.objs.size≠HH.objs.size:=by rw[hCs];exact lU (lcG _)
 have hC:s2.heap.objs.size<=HH.objs.size:=by rw[hCs];exact lbW _
 have old:∀b o,s2.heap.get? b=some o->h₁.get? b=some o:=λb o e =>
  hsb₁ b o (hH2▸lb _ e)
 have hoD:h₁.get? s2.heap.objs.size=some {cls:=.type "list", data:=.seq ([]:List Value).toArray}:=hsb₁ _ _ (hH2▸lx _ rfl)
 have fo:∀b∈fp,∃o,s2.heap.get? b=some o/\∀v,o.data≠.cell v:=T.obj _ _ st2
 have I4:=Inv.block (own:=own) (t:=s2.toks) ok I2 f2 fo rfl hC hDC old hns₁ hoD (λv z=>by cases z) cok
 have st4:tn 0 h₁:=T.keep _ _ _ st2 λb _ o e=>old b o e
 have hDfp:∀b∈fp,b≠s2.heap.objs.size:=λb hb=>by obtain⟨o,ho,_⟩:=fo b hb;exact lU (lu ho)
 have hCfp:∀b∈fp,b≠HH.objs.size:=λb hb=>by obtain⟨o,ho,_⟩:=fo b hb;exact lU (lm (lu ho) hC)
 have pnD:∀p∈X.pn++pins,p.1≠s2.heap.objs.size:=λp hp=>lU (lu (I2.pin p hp).1)
 have pnC:∀p∈X.pn++pins,p.1≠HH.objs.size:=λp hp=>lU (lm (lu (I2.pin p hp).1) hC)
 have clX:∀x c,X.env.cells.lookup x=some c->c<s2.heap.objs.size:=λx c e=>by obtain⟨v,o,ho,_⟩:=I2.cell x c e;exact lu ho
 have cl:∀x c,(zk2 scope X.env HH.objs.size).lookup x=some c->X.env.cells.lookup x=some c∨HH.objs.size<c:=λx c e=>by
  rcases zde e with e|⟨_,e⟩
  ·exact .inr (cok.empty x c (lak e)).2
  ·exact .inl (zc4 (ok.cells I) (x,c) (lak e)).1
 have YA:(cxC X pins scope own caps HH.objs.size fp s2 H2).env=compEnvC scope (zk2 scope X.env HH.objs.size) HH.objs.size X.env:=rfl
 have stat:∀{H':Hp}{oD:Obj},(∀b∈fp,H' b=none)->∀b∈fp,zjA (cxC X pins scope own caps HH.objs.size fp s2 H2) [(s2.heap.objs.size,oD)] H' b:=λ{H' oD} hn b hb=>by
  refine⟨hn b hb,hCfp b hb,?_,.inl hb,λx c e=>?_,λp hp=>?_⟩
  ·intro z
   rcases lz.mp (I2.stkSub b z) with e|e
   ·exact(f2 b hb).2.1 e
   ·exact(f2 b hb).2.2.1 e
  ·rcases cl x c e with e|e
   ·exact(f2 b hb).2.2.2.2.1 x c e
   ·obtain⟨o,ho,_⟩:=fo b hb
    exact laE (ldh (lm (lu ho) hC) e)
  ·rcases lam.mp hp with hp|hp
   ·exact(f2 b hb).2.2.2.2.2 p hp
   ·have e:p=(s2.heap.objs.size,oD):=by simpa using hp
    subst e
    exact(hDfp b hb).symm
 have loop:∀s₃:Shared,s₃={s2 with heap:=h₁} ->
   codeAny (model X.prog X.w) X.A (.compLoop (.ListComp elt [⟨tg,iter,ifs,0⟩] scope pos) 0 (.ref it) (.ref s2.heap.objs.size) (compEnvC scope (zk2 scope X.env HH.objs.size) HH.objs.size X.env)) (compPost (model X.prog X.w) X.A X.xe use Qv (.ref s2.heap.objs.size) HH.objs.size) s₃:=by
  rintro s₃ rfl
  refine ze2 (λn s'=>∃i ys its c H',Inv (cxC X pins scope own caps HH.objs.size fp s2 H2) [(s2.heap.objs.size,{cls:=.type "list", data:=.seq its.toArray c})] (zfo own caps σ) H' s'/\Vals ys its/\tn i s'.heap/\(∀b∈fp,H' b=none)/\W i n ys H') ?_ m0
   ⟨0,[],[],0,H2,I4,.nil,st4,λb hb=>(f2 b hb).1,w0⟩
  rintro n s' ⟨i,ys,its,c,H',I',rv,st',fr',w'⟩
  obtain⟨hz,hcase⟩:=turn i n ys H' w'
  rcases hcase with⟨stop,qF⟩|⟨go,hlt,N,hN,step⟩
  ·refine thn (T.done (cxC X pins scope own caps HH.objs.size fp s2 H2) rfl rfl rfl hc i _ s' _ H' _ I' (stat fr') st' stop) λr s1 zo6=>?_
   obtain⟨hr,I1⟩:=zo6
   subst hr
   obtain⟨m1,hn1,_⟩:=I1.loc
   obtain⟨pD,nD,_⟩:=I1.pin _ (lJ _ (lI.mpr rfl))
   have J1:Inv X pins σ H' s1:=I2.call' I1.os I1.base I1.hok I1.bare λb hb=>⟨(f2 b hb).2.2.2.1,(f2 b hb).2.1,(f2 b hb).2.2.2.2.1,(f2 b hb).2.2.2.2.2⟩
   have J2:Inv X pins σ (upd H' s2.heap.objs.size (.lst ys)) s1:=J1.track nD (.inr I2.sz) (laE I2.lt) (λx c e=>lU (clX x c e)) pnD ⟨hz,its,c,rv,pD⟩
   exact fin _ _ ys H' s1 m1 J2 nD qF hn1 I1.free hDC.symm (laE (lm I2.lt hC)) (I2.nofs hC) (lX I2.sz hC) (λx c e=>lU (lm (clX x c e) hC)) pnC
  ·refine thn (T.item (cxC X pins scope own caps HH.objs.size fp s2 H2) rfl rfl rfl hc i _ s' _ H' _ I' (stat fr') st' go) λr s1 zoW=>?_
   obtain⟨u,hr,h1⟩:=zoW
   subst hr
   refine thn h1 λ_ s2' zm2=>?_
   obtain⟨x,H5,I5,r5,y5,st5,fr5⟩:=zm2
   have I5':=I5.pinned (stat fr5) (T.obj _ _ st5)
   refine thn (CI.tgt pins _ _ _ _ _ s2' _ H5 x u _ I5' r5 (step x H5 y5)) λ_ s6 zo3=>?_
   obtain⟨σ6,H6,I6,kp6,q6⟩:=zo3
   refine thn (CI.tst pins _ _ _ _ _ s6 σ6 H6 _ I6 q6) λb s7 znW=>?_
   obtain⟨H7,I7,q7⟩:=znW
   have again:∀{H8:Hp}{s8:Shared}{ys':List V}{its':List Value}{c':Nat},Inv (cxC X pins scope own caps HH.objs.size fp s2 H2) ([(s2.heap.objs.size,{cls:=.type "list", data:=.seq its'.toArray c'})]++zb3 fp s2'.heap) σ6 H8 s8->Vals ys' its'->N ys' H8 ->
     ∃m,m<n/\∃i ys its c H',Inv (cxC X pins scope own caps HH.objs.size fp s2 H2) [(s2.heap.objs.size,{cls:=.type "list", data:=.seq its.toArray c})] (zfo own caps σ) H' s8/\Vals ys its/\tn i s8.heap/\(∀b∈fp,H' b=none)/\W i m ys H':=by
    intro H8 s8 ys' its' c' I8 rv' n8
    obtain⟨m',hm,w8⟩:=hN ys' H8 n8
    refine⟨m',hm,i+1,ys',its',c',H8,I8.unpinned.weak kp6.1.symm kp6.2,rv',T.keep _ _ _ st5 λb hb o e=>(I8.pin (b,o) (lJ _ (lJ _ (jK hb e)))).1,λb hb=>?_,w8⟩
    obtain⟨o,e,d⟩:=T.obj _ _ st5 b hb
    exact(I8.pin (b,o) (lJ _ (lJ _ (jK hb e)))).2.1
   cases b with
   | false=>exact again I7 rv q7
   | true =>
    refine thn (CI.elm pins _ _ _ _ _ s7 σ6 H7 _ I7 q7) λyv s8 znT=>?_
    obtain⟨y,H8,I8,r8,q8⟩:=znT
    obtain⟨pD,nD,ncD,nfD,_⟩:=I8.pin (s2.heap.objs.size,{cls:=.type "list", data:=.seq its.toArray c}) (lJ _ (lbz _ (lI.mpr rfl)))
    have hlen:=rv.length
    refine lbP lcj ⟨_,pD,rfl⟩ PySem.F.entry_list_append (PySem.F.args_list_append_2 _ _) (PySem.list_append s2.heap.objs.size its.toArray c yv (by rw[lG];omega)) ⟨pD,?_⟩
    have ef:its.toArray.push yv=(its++[yv]).toArray:=by simp
    obtain⟨c',q⟩:∃c',(s8.heap.update s2.heap.objs.size (Obj.mapSeq λxs=>xs.push yv)).get? s2.heap.objs.size=some {cls:=.type "list", data:=.seq (its++[yv]).toArray c'}:=⟨_,by rw[← ef];exact PySem.IsL.update pD (λxs=>xs.push yv)⟩
    have keepB:∀b o,b≠s2.heap.objs.size->s8.heap.get? b=some o->(s8.heap.update s2.heap.objs.size (Obj.mapSeq λxs=>xs.push yv)).get? b=some o:=λb o hb e=>(Heap.get?_update_other s8.heap _ (la9 hb)).trans e
    have I9:Inv (cxC X pins scope own caps HH.objs.size fp s2 H2) (zb3 fp s2'.heap) σ6 H8 s8:=I8.pins_of λp hp=>I8.pin p (lJ _ (lJ _ hp))
    have I10:Inv (cxC X pins scope own caps HH.objs.size fp s2 H2) (zb3 fp s2'.heap) σ6 H8 {s8 with heap:=s8.heap.update s2.heap.objs.size (Obj.mapSeq λxs=>xs.push yv)}:=by
     refine I9.turned (t':=s8.toks) (it:=s2.heap.objs.size) keepB nD ncD (.inr (lp _)) (λx c e=>(cl x c e).elim (λe=>lU (clX x c e)) λe=>laE (Nat.lt_of_le_of_lt hC e)) λp hp=>?_
     rcases lam.mp hp with hp|hp
     ·exact pnD p hp
     ·exact hDfp _ (zeN hp).1
    refine again (its':=its++[yv]) (c':=c') (I10.pins_of λp hp=>?_) (rv.append (.cons r8 .nil)) q8
    rcases lam.mp hp with hp|hp
    ·have e:=lI.mp hp
     subst e
     exact⟨q,nD,ncD,nfD,λv z=>by cases z⟩
    ·exact I10.pin p (lJ _ hp)
 exact codeAny_compStart_list (loop _ rfl) (T.self _ 0 _ _ _ st4 (loop _ rfl))
theorem zhZ (ok:CompOk X scope caps)(hc:X.calm=true)(hi:PI X tg iter wi)(CI:CompIn X scope own caps tg ifs elt g tt te)(hs:∀x,foldedSetIterable iter X.env x=pure x:=by intro _;rfl) :
  PE X (.ListComp elt [⟨tg,iter,ifs,0⟩] scope pos) (zpT wi g tt te own caps):=by
 intro pins s σ H Q I h
 rw[eval_ListComp]
 refine zeT (use:=none) ok hc hi CI I h (λD C ys H' s1 m I1 nD q hn nC hCD hCL hCf hC0 hCc hCp=>?_) hs
 refine⟨m,hn,λh' hsb=>?_⟩
 have I2:Inv X pins σ (upd H' D (.lst ys)) {s1 with heap:=h'}:=I1.turned (t':=s1.toks) (it:=C) (λb o hb e=>hsb.extBut b o hb e) (by rw[zF hCD];exact nC) hCL (.inr hC0) hCc hCp
 exact⟨.ref D,_,I2,rfl,q D nD⟩
def zpN (j:Nat)(wi:TI)(g:TG)(tt:TT)(te:TE)(own:List Str)(caps:List Nat):TS:=λE σ H=>wi σ H λJ H1=>zcj g tt te (zfo own caps σ) (λys H'=>∀D,H' D=none->E.nx (σ.set j (some (.ref D))) (upd H' D (.lst ys))) J H1
theorem zi1 {j:Nat}{y:Str}{py spos:Pos}(hN:X.N.Nodup)(hj:X.N[j]? = some y)(hy:X.env.scope.names.lookup y=some .local)(ok:CompOk X scope caps)(hc:X.calm=true)(hi:PI X tg iter wi)(CI:CompIn X scope own caps tg ifs elt g tt te)
  (hsw:swapsWith (.ListComp elt [⟨tg,iter,ifs,0⟩] scope pos) (some (.Name y py)) spos.line X.env=pure true) (hs:∀x,foldedSetIterable iter X.env x=pure x:=by intro _;rfl) :
  PS X (.Assign [.Name y py] (.ListComp elt [⟨tg,iter,ifs,0⟩] scope pos) spos) (zpN j wi g tt te own caps):=by
 intro pins s σ H E I h
 rw[exec_Assign_Name_used _ _ _ _ hsw]
 refine la (wpAny_standAt (la ?_))
 show wpAny _ X.A (do let _ ← comprehension (.ListComp elt [⟨tg,iter,ifs,0⟩] scope pos) scope X.env _ (newList []) false (eval iter X.env) (some (assign (.Name y py) X.env))) _ _ s
 refine la (lai (zeT (use:=some (assign (.Name y py) X.env)) (Qv:=λ_ s'=>SP X pins E .next s') ok hc hi CI I h (λD C ys H' s1 m I1 nD q hn nC hCD hCL hCf hC0 hCc hCp=>?_) hs) (λ_ s' hq=>lj (lj hq)) λ_ _ e=>e)
 obtain⟨oC,es,ep,eC,dC,rC⟩:=id hn
 have I2:Inv X (pins++[(C,oC)]) σ (upd H' D (.lst ys)) s1:=I1.pins_of λp hp=>by
  rcases lam.mp hp with hp|hp
  ·exact I1.pin p (lJ _ hp)
  ·have e:=lI.mp hp
   subst e
   exact⟨eC,by rw[zF hCD];exact nC,hCL,hCf,λv z=>by rw[dC] at z;cases z⟩
 show wpAny _ X.A (assign (.Name y py) X.env (.ref D)) _ _ s1
 refine wpAny_assign_Name (zbK (v:=.ref D) I2 hN hj (.inl hy) rfl (λs2 I3=>?_) (.inr hy))
 obtain⟨e3,n3,_⟩:=I3.pin (C,oC) (lJ _ (lJ _ (lI.mpr rfl)))
 have I4:Inv X pins (σ.set j (some (.ref D))) (upd H' D (.lst ys)) s2:=I3.pins_of λp hp=>I3.pin p (lJ _ (lbz _ hp))
 refine⟨m,⟨oC,es,ep,e3,dC,rC⟩,λh' hsb=>?_⟩
 have I5:Inv X pins (σ.set j (some (.ref D))) (upd H' D (.lst ys)) {s2 with heap:=h'}:=I4.turned (t':=s2.toks) (it:=C) (λb o hb e=>hsb.extBut b o hb e) n3 hCL (.inr hC0) hCc hCp
 exact⟨_,_,I5,q D nD⟩
end
def T (l:List Nat):Str:=⟨l.toArray⟩
theorem zcD (l:List Nat):(T l).cps.toList=l:=by simp[T]
theorem zqE (x:Str):T x.cps.toList=x:=by cases x;simp[T]
theorem zbF (l:List Nat):(T l).length=l.length:=by simp[T,Str.length]
theorem zod (l m:List Nat):T l++T m=T (l++m):=by
 show Str.append (T l) (T m)=_
 simp[Str.append,T]
theorem zkP {l m:List Nat}(h:T l=T m):l=m:=by
 have:=lbd (λx:Str=>x.cps.toList) h
 simpa [T] using this
theorem zl1 (l m:List Nat):(T l == T m)=(l == m):=by
 rw[ldj]
 simp only[lbO]
 exact⟨zkP,lbd T⟩
theorem jd {l:List Nat}(h:∀c∈l,c<0x110000)(hl:l.length<=1000000):TxtOk (T l):=by
 refine⟨?_,by rw[zbF];exact hl⟩
 show(T l).cps.all (· < 0x110000)=true
 simp only[T,lcd,lal,lbi]
 exact h
theorem TxtOk.app {x y:Str}(hx:TxtOk x)(hy:TxtOk y)(hl:x.length+y.length<=1000000):TxtOk (x++y):=by
 obtain⟨a,_⟩:=hx
 obtain⟨b,_⟩:=hy
 refine⟨?_,?_⟩
 ·have a':x.cps.all (· < 0x110000)=true:=a
  have b':y.cps.all (· < 0x110000)=true:=b
  show(x.cps++y.cps).all (· < 0x110000)=true
  rw[Array.all_append,a',b'];rfl
 ·show(x.cps++y.cps).size<=1000000
  rw[Array.size_append];exact hl
theorem zgO (lo:Option Int)(n d:Nat)(hd:d<=n):(match lo with|none=>(d:Int)|some i=>max 0 (min (if i<0 then i+(n:Int) else i) (n:Int)))=((HT.sIx n d lo:Nat):Int):=by
 cases lo with
 | none=>rfl
 | some i =>
  show max 0 (min (if i<0 then i+(n:Int) else i) (n:Int))=(((if i<0 then(i+(n:Int)).toNat else min i.toNat n):Nat):Int)
  split <;>omega
theorem zly (x:Str)(lo hi:Option Int):Txt.slice x lo hi=T ((x.cps.toList.drop (HT.sIx x.length 0 lo)).take (HT.sIx x.length x.length hi - HT.sIx x.length 0 lo)):=by
 have ha:HT.sIx x.length 0 lo<=x.length:=HT.sIx_le _ _ (la2 _) lo
 have hb:HT.sIx x.length x.length hi<=x.length:=HT.sIx_le _ _ (lp _) hi
 have e:Builtin.Str.strSliceIndices lo hi 1 x.length=Builtin.Str.strSliceIndices (some ((HT.sIx x.length 0 lo:Nat):Int)) (some ((HT.sIx x.length x.length hi:Nat):Int)) 1 x.length:=by
  have h1:=zgO lo x.length 0 (la2 _)
  have h2:=zgO hi x.length x.length (lp _)
  generalize HT.sIx x.length 0 lo=a at *
  generalize HT.sIx x.length x.length hi=b at *
  have k1:max 0 (min (if (a:Int)<0 then(a:Int)+(x.length:Int) else(a:Int)) (x.length:Int))=(a:Int):=by split <;>omega
  have k2:max 0 (min (if (b:Int)<0 then(b:Int)+(x.length:Int) else(b:Int)) (x.length:Int))=(b:Int):=by split <;>omega
  unfold Builtin.Str.strSliceIndices
  simp only[show(1:Int) > 0 by decide,lba,k1,k2]
  cases lo <;>cases hi <;>simp only at h1 h2 ⊢ <;>first|rw[h1,h2] | (rw[← h1,← h2];rfl)
 have e2:Txt.slice x lo hi=StrLaws.sliceText x (some ((HT.sIx x.length 0 lo:Nat):Int)) (some ((HT.sIx x.length x.length hi:Nat):Int)):=by
  unfold Txt.slice StrLaws.sliceText
  rw[e]
 rw[e2]
 by_cases hab:HT.sIx x.length 0 lo<=HT.sIx x.length x.length hi
 ·exact StrLaws.sliceText_nat x hab hb
 ·have hz:HT.sIx x.length x.length hi - HT.sIx x.length 0 lo=0:=by omega
  rw[hz,lds]
  generalize HT.sIx x.length 0 lo=a at *
  generalize HT.sIx x.length x.length hi=b at *
  have k1:max 0 (min (if (a:Int)<0 then(a:Int)+(x.length:Int) else(a:Int)) (x.length:Int))=(a:Int):=by split <;>omega
  have k2:max 0 (min (if (b:Int)<0 then(b:Int)+(x.length:Int) else(b:Int)) (x.length:Int))=(b:Int):=by split <;>omega
  have e3:Builtin.Str.strSliceIndices (some (a:Int)) (some (b:Int)) 1 x.length=[]:=by
   unfold Builtin.Str.strSliceIndices sliceRange
   simp only[show(1:Int) > 0 by decide,lba,k1,k2]
   have:¬((b:Int) > (a:Int)):=by omega
   simp[this]
   try omega
  unfold StrLaws.sliceText
  rw[e3]
  simp only[lad,List.filterMap_nil]
  split
  ·rename_i h
   have hn:x.length=0:=by
    simp at h
    omega
   omega
  ·rfl
section
variable {X:Cx}{e:Expr}{te:TE}{pos p2:Pos}
def zqO:V->Option Int->Option Int->Hp->VK->Prop:=λx lo hi H Q=>∃z,x=.str z/\z.length<=sizeLine/\Q (.str (T ((z.cps.toList.drop (HT.sIx z.length 0 lo)).take (HT.sIx z.length z.length hi - HT.sIx z.length 0 lo)))) H
theorem part_of {v:Value}{o:Option Int}(p:IsPart v o):∃q:Option (Int×Tok),v=partValue q/\q.map (·.1)=o:=by
 cases p with
 | none=>exact⟨none,rfl,rfl⟩
 | int i t=>exact⟨some (i,t),rfl,rfl⟩
theorem znS:SlR X zqO:=by
 intro pins s σ H x v vl vu lo hi sl Q I rx hs pl pu h
 obtain⟨z,rfl,hz,q⟩:=h
 obtain⟨t,rfl⟩:=rx
 obtain⟨l,rfl,rfl⟩:=part_of pl
 obtain⟨u,rfl,rfl⟩:=part_of pu
 refine⟨"str", _,PySem.F.slot_str_getitem.lookup,typeIs_str _ _ _,?_⟩
 refine wpAny_getItem_str_slice (l:=l) (u:=u) (st:=none) hs rfl ?_
 refine post_val_or_str (y:=z) ?_
 have e:=zly z (l.map (·.1)) (u.map (·.1))
 unfold Txt.slice at e
 refine⟨lX (Txt.slice_le z (l.map (·.1)) (u.map (·.1))) hz,λt' k=>⟨.str _,H,I.tok _,⟨t',?_⟩,q⟩⟩
 exact lbd (λy=>Value.str y t') e
def Its (x:Str):It:=⟨λi _=>i<x.cps.size,λi H v H'=>H'=H/\∃c,x.cps.toList[i]? = some c/\v=.str (T [c]),λi _=>x.cps.size<=i⟩
theorem zgn {P:Program}{w:World}{K:PySem.W.Frag}{tg:Expr}{x:Str}{t:Tok}{ty:String}(it:Addr)(W:∀A':Around,A'.handled=none->Walks P w A' it [it] [it] x.cps.size (SignAt x) (λi h=>h.IsStrIter it ty x t i))
  (hn:["enumerate", "zip", "dict_itemiterator", "dict_reverseitemiterator", "odict_iterator", "itertools.zip_longest", "itertools.pairwise"].contains ty=false)
  (hend:∀(A:Around) (i:Nat) (s:Shared) (Q:Option Value->Shared->Prop) (E:Value->Shared->Prop),A.handled=none->s.heap.IsStrIter it ty x t i->x.cps[i]? = none->(∀h',Heap.ExtBut it s.heap h'->Q none {s with heap:=h'})->wpAny (model P w) A (pyNext (.ref it)) Q E s)
  (hself:∀(A:Around) (i:Nat) (s:Shared) (Q:Value->Shared->Prop) (E:Value->Shared->Prop),s.heap.IsStrIter it ty x t i->Q (.ref it) s->wpAny (model P w) A (pyIter (.ref it)) Q E s) :
  Turn P w K tg (Its x) [it] it (λi h=>h.IsStrIter it ty x t i) where
 mem:=by simp
 obj:=λi h st b hb=>by
  have e:b=it:=by simpa using hb
  subst e
  obtain⟨o,e,c,d⟩:=st
  exact⟨o,e,λv z=>by rw[d] at z;cases z⟩
 keep:=λi h h' st k=>by obtain⟨o,e,r⟩:=st;exact⟨o,k it (by simp) o e,r⟩
 item:=by
  intro X hP hw hK hc i pins s σ H E I hf st hg
  subst hP hw hK
  obtain⟨f0,f1,f2,f3,f4,f5⟩:=hf it (by simp)
  refine(W X.A (I.ok.hd hc)).item i s _ _ hg st λv h' tk hv st' kk=>?_
  obtain⟨c,u,hcc,rfl⟩:=hv
  have I1:Inv X pins σ H {s with heap:=h',toks:=tk}:=I.turned (λb o hb e=>kk b o (by simpa using hb) e) f0 f1 f3 f4 f5
  obtain⟨o,e,c1,d1⟩:=id st'
  exact⟨_,rfl,zkJ (s:={s with heap:=h',toks:=tk}) e c1 d1 hn ⟨.str (T [c]),H,I1,⟨u,rfl⟩,⟨rfl,c,by simpa using hcc,rfl⟩,st',λb hb=>(hf b hb).1⟩⟩
 done:=by
  intro X hP hw hK hc i pins s σ H E I hf st hg
  subst hP hw hK
  obtain⟨f0,f1,f2,f3,f4,f5⟩:=hf it (by simp)
  have hge:x.cps.size<=i:=hg
  exact hend X.A i s _ _ (I.ok.hd hc) st (lcx hge) λh' eb=>⟨rfl,I.turned (t':=s.toks) (λb o hb e=>eb b o hb e) f0 f1 f3 f4 f5⟩
 self:=λA i s Q E st h=>hself A i s Q E st h
def zqM (tl:TE):TI:=λσ H R=>tl σ H λv H1=>∃x,v=.str x/\R (Its x) H1
theorem zot {tg l:Expr}{tl:TE}(hl:PE X l tl):PI X tg l (zqM tl):=by
 intro pins s σ H R I h
 refine thn (hl pins s σ H _ I h) λv s1 zoX=>?_
 obtain⟨y,H1,I1,r1,q1⟩:=zoX
 obtain⟨x,e,q⟩:=q1
 subst e
 obtain⟨t,rfl⟩:=r1
 have fin:∀(ty:String) (T':Turn X.prog X.w X.K tg (Its x) [s1.heap.objs.size] s1.heap.objs.size (λi h=>h.IsStrIter s1.heap.objs.size ty x t i)),
   PIE X pins σ tg R (.ref s1.heap.objs.size) {s1 with heap:=s1.heap.push {cls:=.type ty,data:=.fields #[.str x t,.int 0 0]} }:=λty T' =>
  ⟨s1.heap.objs.size,[s1.heap.objs.size],_,_,H1,rfl,I1.kept (t':=s1.toks) λb o e=>lb _ e,T',⟨_,lx _ rfl,rfl,rfl⟩,λb hb=>by
   have e:b=s1.heap.objs.size:=by simpa using hb
   subst e
   exact I1.fpOk (lp _) (I1.hok.fresh (lp _)),q⟩
 cases ha:x.cps.all (· < 128)
 ·exact wpAny_pyIter_wide ha (fin _ (zgn _ (λA' hA=>Walks.strWide hA _ x t) (by decide) (λA i s Q E hh st hx hQ=>wpAny_pyNext_wide_end hh st hx hQ) λA i s Q E st hq=>wpAny_pyIter_striter_wide st hq))
 ·exact wpAny_pyIter_ascii ha (fin _ (zgn _ (λA' hA=>Walks.strAscii hA _ x t) (by decide) (λA i s Q E hh st hx hQ=>wpAny_pyNext_ascii_end hh st hx hQ) λA i s Q E st hq=>wpAny_pyIter_striter_ascii st hq))
end
def Wlk (J:It)(G:Hp->Prop)(xs:List V):Prop:=∀H,G H->(∀i,i<xs.length->J.go i H/\∀x H',J.yld i H x H'->H'=H/\xs[i]? = some x)/\J.stop xs.length H
theorem zky {K:PySem.W.Frag}{a:Addr}{xs:List V}:Wlk (Itl K a) (λH=>SqL K H a xs) xs:=λH q =>
 ⟨λi hi=>⟨⟨xs,xs[i],q,by simp[hi]⟩,λx H' y=>⟨y.1,y.2 xs q⟩⟩,⟨xs,q,lp _⟩⟩
theorem zlI {K:PySem.W.Frag}{a:Addr}{xs:List V}:Wlk (Itt K a) (λH=>SqT K H a xs) xs:=λH q =>
 ⟨λi hi=>⟨⟨xs,xs[i],q,by simp[hi]⟩,λx H' y=>⟨y.1,y.2 xs q⟩⟩,⟨xs,q,lp _⟩⟩
theorem zid {lo:Int}{n:Nat}{G:Hp->Prop}:Wlk (Itr lo n) G ((List.range n).map λ(k:Nat)=>V.int (lo+(k:Int))):=λH _=>by
 refine⟨λi hi=>⟨by show i<n;simpa using hi,λx H' y=>⟨y.1,?_⟩⟩,?_⟩
 ·have hi':i<n:=by simpa using hi
  rw[y.2];simp[hi']
 ·show n<=_;simp
theorem zme {x:Str}{G:Hp->Prop}:Wlk (Its x) G (x.cps.toList.map λc=>V.str (T [c])):=λH _=>by
 refine⟨λi hi=>⟨by show i<x.cps.size;simpa using hi,λv H' y=>⟨y.1,?_⟩⟩,?_⟩
 ·obtain⟨_,c,hc,rfl⟩:=y
  rw[lR,hc];rfl
 ·show x.cps.size<=_;simp
theorem zjo {J:It}{G:Hp->Prop}{xs:List V}(W:Wlk J G xs){g:TG}{tb:TS}{D:Ends}{σ:St}{H:Hp}(Pv:Nat->St->Hp->Prop)(h0:Pv 0 σ H)(hG:∀i σ H,i<=xs.length->Pv i σ H->G H)
  (hs:∀i x σ H,xs[i]? = some x->Pv i σ H->g x σ H λσ2 H2=>tb {D with nx:=Pv (i+1),ct:=Pv (i+1),bk:=D.nx} σ2 H2) (hd:∀σ H,Pv xs.length σ H->D.nx σ H) :
  ∃ W:Nat->Nat->St->Hp->Prop,(∃m,W 0 m σ H)/\∀i m σ H,W i m σ H ->
   (J.stop i H/\D.nx σ H)∨(J.go i H/\∃N:St->Hp->Prop,(∀σ' H',N σ' H'->∃m',m'<m/\W (i+1) m' σ' H')/\∀x H',J.yld i H x H'->g x σ H' λσ2 H2=>tb {D with nx:=N,ct:=N,bk:=D.nx} σ2 H2):=by
 refine⟨λi m σ H=>m=xs.length - i/\i<=xs.length/\Pv i σ H,⟨xs.length,by simp,la2 _,h0⟩,?_⟩
 rintro i m σ H ⟨rfl,hi,p⟩
 obtain⟨w1,w2⟩:=W H (hG i σ H hi p)
 by_cases hlt:i<xs.length
 ·obtain⟨g1,g2⟩:=w1 i hlt
  refine .inr ⟨g1,Pv (i+1),λσ' H' p'=>⟨xs.length - (i+1),by omega,rfl,hlt,p'⟩,λx H' y=>?_⟩
  obtain⟨e,hx⟩:=g2 x H' y
  subst e
  exact hs i x σ _ hx p
 ·have e:i=xs.length:=by omega
  subst e
  exact .inl ⟨w2,hd σ H p⟩
theorem zhG {J:It}{G:Hp->Prop}{xs:List V}(W:Wlk J G xs)(hz:xs.length<=sizeLine){g:TG}{tt:TT}{te:TE}{σ0:St}{F:List V->Hp->Prop}{H1:Hp}(Pv:Nat->List V->Hp->Prop)(h0:Pv 0 [] H1)(hG:∀i ys H,i<=xs.length->Pv i ys H->G H/\ys.length<=i)
  (hs:∀i x ys H,xs[i]? = some x->Pv i ys H->g x σ0 H λσ2 H2=>Kps σ0 σ2/\tt σ2 H2 λb H3=>if b=true then te σ2 H3 λy H4=>Pv (i+1) (ys++[y]) H4 else Pv (i+1) ys H3) (hd:∀ys H,Pv xs.length ys H->F ys H) :
  zcj g tt te σ0 F J H1:=by
 refine⟨λi m ys H=>m=xs.length - i/\i<=xs.length/\Pv i ys H,⟨xs.length,by simp,la2 _,h0⟩,?_⟩
 rintro i m ys H ⟨rfl,hi,p⟩
 obtain⟨gH,hl⟩:=hG i ys H hi p
 refine⟨by omega,?_⟩
 obtain⟨w1,w2⟩:=W H gH
 by_cases hlt:i<xs.length
 ·obtain⟨g1,g2⟩:=w1 i hlt
  refine .inr ⟨g1,by omega,Pv (i+1),λys' H' p'=>⟨xs.length - (i+1),by omega,rfl,hlt,p'⟩,λx H' y=>?_⟩
  obtain⟨e,hx⟩:=g2 x H' y
  subst e
  exact hs i x ys _ hx p
 ·have e:i=xs.length:=by omega
  subst e
  exact .inl ⟨w2,hd ys H p⟩
theorem Kps.set {σ:St}{i:Nat}{v:V}(h:σ[i]? = some none):Kps σ (σ.set i (some v)):=by
 refine⟨by simp,λj u e=>?_⟩
 by_cases hj:i=j
 ·subst hj;rw[h] at e;cases e
 ·rw[lq hj];exact e
theorem Kps.trans {a b c:St}(h:Kps a b)(k:Kps b c):Kps a c:=⟨k.1.trans h.1,λi v e=>k.2 i v (h.2 i v e)⟩
def Gat (K:PySem.W.Frag)(H1:Hp)(e:Nat->PyData)(i:Nat)(ys:List V)(H:Hp):Prop:=Same H1 H/\Iss K H ys ((List.range i).map e)
theorem Gat.snoc {K:PySem.W.Frag}{H1 H H4:Hp}{e:Nat->PyData}{i:Nat}{ys:List V}{y:V}(h:Gat K H1 e i ys H)(sm:Same H H4)(is:Is K H4 y (e i)):Gat K H1 e (i+1) (ys++[y]) H4:=by
 refine⟨h.1.trans sm,?_⟩
 rw[lbY,la7]
 exact(h.2.mono sm).append (.cons is .nil)
def GatF (K:PySem.W.Frag)(H1:Hp)(p:Nat->Bool)(e:Nat->PyData)(i:Nat)(ys:List V)(H:Hp):Prop:=Same H1 H/\Iss K H ys (((List.range i).filter p).map e)
theorem GatF.snoc {K:PySem.W.Frag}{H1 H H4:Hp}{p:Nat->Bool}{e:Nat->PyData}{i:Nat}{ys:List V}{y:V}(h:GatF K H1 p e i ys H)(hp:p i=true)(sm:Same H H4)(is:Is K H4 y (e i)):GatF K H1 p e (i+1) (ys++[y]) H4:=by
 refine⟨h.1.trans sm,?_⟩
 rw[lbY,List.filter_append,la7]
 refine(h.2.mono sm).append ?_
 simp only[lc9,hp,lba,List.filter_nil,lC,laN]
 exact .cons is .nil
section
variable {X:Cx}
theorem old_ne {s:Shared}{b:Addr}{o:Obj}(e:s.heap.get? b=some o):b∉[s.heap.objs.size]:=λz=>by
 have e':b=s.heap.objs.size:=by simpa using z
 subst e'
 exact absurd (lu e) (lbs _)
theorem zf9:∀{bs:List Bool}{us:List Value},Vals (bs.map V.bl) us->us=bs.map Value.bool
 | [],_,r=>by cases r;rfl
 | b::bs,_,r=>by
  cases r with
  | cons r t=>cases r;rw[zf9 t];rfl
theorem range_all {α:Type}(l:List α)(d:α)(p:α->Bool):(List.range l.length).all (λi=>p (l.getD i d))=l.all p:=by
 have:(List.range l.length).map (λi=>l.getD i d)=l:=range_getD l d
 conv=>rhs;rw[← this]
 rw[lck];rfl
theorem range_any {α:Type}(l:List α)(d:α)(p:α->Bool):(List.range l.length).any (λi=>p (l.getD i d))=l.any p:=by
 have:(List.range l.length).map (λi=>l.getD i d)=l:=range_getD l d
 conv=>rhs;rw[← this]
 rw[ldk];rfl
theorem zb2 {prog:Program}{w:World}{A:Around}(bs:List Bool):TruthOf prog w A (λi v=>(bs.map Value.bool).toArray[i]? = some v) (λi=>bs.getD i false):=by
 intro i v s Q E hP hQ
 have e:(bs.map Value.bool)[i]? = some v:=by simpa using hP
 rw[lR] at e
 cases hb:bs[i]? with
 | none=>rw[hb] at e;cases e
 | some b =>
  rw[hb] at e
  have e':v=Value.bool b:=(lc e).symm
  subst e'
  have:bs.getD i false=b:=by rw[lr,hb];rfl
  have hQ':Q (bs.getD i false) s:=hQ
  rw[this] at hQ'
  exact laJ hQ'
theorem zdE (hc:X.calm=true):jb X (.builtin "all") (λxs H Q=>∃(a:Addr) (bs:List Bool),xs=[.ref a]/\SqL X.K H a (bs.map V.bl)/\Q (.bl (bs.all id)) H):=by
 intro pins s σ H xs us Q I r h
 obtain⟨a,bs,rfl,ha,q⟩:=h
 obtain⟨u,rfl,ru⟩:=vals1 r
 cases ru
 obtain⟨its,rv,pl,hz⟩:=I.list ha
 obtain rfl:=zf9 rv
 refine call_all_walk (lb0 pl.isList ?_)
 have hlt:a<s.heap.objs.size:=by obtain⟨_,_,e,_⟩:=pl;exact lu e
 refine⟨_,_,_,_,_,_,λi=>bs.getD i false,rfl,Walks.list (show X.A.in1.handled=none from I.ok.hd hc) s.heap.objs.size a (lU hlt) _,⟨⟨_,lx _ rfl,rfl,rfl⟩,pl.isList.push _⟩,zb2 bs,λh' tk hk=>?_⟩
 refine⟨.bl _,H,I.kept (h':=h') (t':=tk) λb o e=>hk b o (old_ne e) (lb _ e),rfl,?_⟩
 have:(List.range ((bs.map Value.bool).toArray).size).all (λi=>bs.getD i false)=bs.all id:=by
  rw[show((bs.map Value.bool).toArray).size=bs.length by simp]
  exact range_all bs false id
 rw[this]
 exact q
theorem zgl (hc:X.calm=true):jb X (.builtin "any") (λxs H Q=>∃(a:Addr) (bs:List Bool),xs=[.ref a]/\SqL X.K H a (bs.map V.bl)/\Q (.bl (bs.any id)) H):=by
 intro pins s σ H xs us Q I r h
 obtain⟨a,bs,rfl,ha,q⟩:=h
 obtain⟨u,rfl,ru⟩:=vals1 r
 cases ru
 obtain⟨its,rv,pl,hz⟩:=I.list ha
 obtain rfl:=zf9 rv
 refine call_any_walk (lb0 pl.isList ?_)
 have hlt:a<s.heap.objs.size:=by obtain⟨_,_,e,_⟩:=pl;exact lu e
 refine⟨_,_,_,_,_,_,λi=>bs.getD i false,rfl,Walks.list (show X.A.in1.handled=none from I.ok.hd hc) s.heap.objs.size a (lU hlt) _,⟨⟨_,lx _ rfl,rfl,rfl⟩,pl.isList.push _⟩,zb2 bs,λh' tk hk=>?_⟩
 refine⟨.bl _,H,I.kept (h':=h') (t':=tk) λb o e=>hk b o (old_ne e) (lb _ e),rfl,?_⟩
 have:(List.range ((bs.map Value.bool).toArray).size).any (λi=>bs.getD i false)=bs.any id:=by
  rw[show((bs.map Value.bool).toArray).size=bs.length by simp]
  exact range_any bs false id
 rw[this]
 exact q
theorem zaA:∀{ss:List Str}{us:List Value},Vals (ss.map V.str) us->StrsAre us ss
 | [],_,r=>by cases r;exact .nil
 | x::ss,_,r=>by
  cases r with
  | cons r t=>obtain⟨u,rfl⟩:=r;exact .cons _ _ (zaA t)
theorem zlq (ls:List (List Nat)):Txt.join (T []) (ls.map T)=T ls.flatten:=by
 have key:∀(ls:List (List Nat)) (acc:Array Nat),(ls.map T).foldl (λacc p=>acc++(T []).cps++p.cps) acc=acc++ls.flatten.toArray:=by
  intro ls
  induction ls with
  | nil=>intro acc;simp
  | cons l r ih =>
   intro acc
   rw[lC,lan,ih]
   simp[T]
 show(⟨((ls.map T).drop 1).foldl (λacc p=>acc++(T []).cps++p.cps) ((ls.map T).headD Str.empty).cps⟩:Str)=_
 cases ls with
 | nil=>rfl
 | cons l r =>
  simp only[lC,List.drop_succ_cons,lb9,List.headD_cons]
  rw[key]
  simp[T]
def rJoin (K:PySem.W.Frag):V->List V->Hp->VK->Prop:=λx vs H Q=>∃(a:Addr) (ls:List (List Nat)),x=.str (T [])/\vs=[.ref a]/\SqL K H a (ls.map λl=>V.str (T l))/\ls.flatten.length<=1000000/\Q (.str (T ls.flatten)) H
theorem zhT:MtR X "str.join" (rJoin X.K):=by
 intro pins s σ H x xs v us Q I rx rs h
 obtain⟨a,ls,rfl,rfl,ha,hz,q⟩:=h
 obtain⟨t,rfl⟩:=rx
 obtain⟨u,rfl,ru⟩:=vals1 rs
 cases ru
 obtain⟨its,rv,pl,hsz⟩:=I.list ha
 have rv':Vals ((ls.map T).map V.str) its:=by rw[lap];exact rv
 have hlen:((ls.map T).map (·.length)).sum=ls.flatten.length:=by
  rw[lap,List.length_flatten]
  exact lbd List.sum (lch λl _=>zbF l)
 refine join_list pl.isList (by simpa using zaA rv') ?_ λt' k=>?_
 ·rw[hlen,zbF]
  simp only[lad,Nat.mul_zero,Nat.add_zero]
  exact lX hz (by decide)
 ·rw[zlq]
  exact⟨.str _,H,I.tok _,⟨_,rfl⟩,q⟩
theorem zkk (l m:List Nat):Txt.startswith (T l) (T m)=m.isPrefixOf l:=by
 unfold Txt.startswith
 rw[StrLaws.subAt_eq,zcD,zcD,zbF,zbF,lb9,la0]
 rw[ldj,lQ]
 simp only[lbi,lbO]
 rw[lH]
 constructor
 ·rintro⟨h1,h2⟩
  rw[← h2];exact lbM _ _
 ·intro h
  exact⟨h.length_le,(List.prefix_iff_eq_take.mp h).symm⟩
def zmG:V->List V->Hp->VK->Prop:=λx vs H Q=>∃l m,x=.str (T l)/\vs=[.str (T m)]/\Q (.bl (m.isPrefixOf l)) H
theorem ziX:MtR X "str.startswith" zmG:=by
 intro pins s σ H x xs v us Q I rx rs h
 obtain⟨l,m,rfl,rfl,q⟩:=h
 obtain⟨t,rfl⟩:=rx
 obtain⟨u,rfl,ru⟩:=vals1 rs
 obtain⟨t',rfl⟩:=ru
 refine SC.startswith ?_
 rw[zkk]
 exact⟨.bl _,H,I,rfl,q⟩
def zp1:R2:=λx y H Q=>∃c l,x=.str (T [c])/\y=.str (T l)/\Q (.bl (decide (c∈l))) H
theorem zoo:OpR X (compareOp .In) zp1:=by
 intro pins s σ H x y v u Q I rx ry h
 obtain⟨c,l,rfl,rfl,q⟩:=h
 obtain⟨t,rfl⟩:=rx
 obtain⟨t',rfl⟩:=ry
 refine in_str (zes I q ?_)
 have e:=StrLaws.found_one (T l) c
 rw[zcD] at e
 exact e.symm
theorem ziQ:OpR X (compareOp .NotIn) (λx y H Q=>∃c l,x=.str (T [c])/\y=.str (T l)/\Q (.bl (!decide (c∈l))) H):=by
 intro pins s σ H x y v u Q I rx ry h
 obtain⟨c,l,rfl,rfl,q⟩:=h
 obtain⟨t,rfl⟩:=rx
 obtain⟨t',rfl⟩:=ry
 refine notIn_str (zes I q ?_)
 have e:=StrLaws.found_one (T l) c
 rw[zcD] at e
 exact lbd not e.symm
theorem zas:OpR X (binaryOp .Add) (λx y H Q=>∃l m,x=.str (T l)/\y=.str (T m)/\l.length+m.length<=1000000/\Q (.str (T (l++m))) H):=by
 intro pins s σ H x y v u Q I rx ry h
 obtain⟨l,m,rfl,rfl,hz,q⟩:=h
 refine zhf pins s σ H _ _ v u Q I rx ry ⟨_,_,rfl,rfl,?_,?_⟩
 ·rw[zbF,zbF]
  first|omega|exact lX hz (by decide)
 ·rw[zod];exact q
def Sm (i:Int):Prop:=i.natAbs<2 ^ 4000
theorem Sm.log {i:Int}(h:Sm i):i.natAbs.log2<4000:=by
 by_cases h0:i.natAbs=0
 ·rw[h0];decide +kernel
 ·exact(Nat.log2_lt h0).mpr h
theorem qH:OpR X (binaryOp .Mult) (rI (λi j=>Sm i/\Sm j) λi j=>.int (i*j)):=opI λi j _ _ _ _ _ hc q=>mul_int q (by
 obtain⟨h1,h2⟩:=hc
 have a:=h1.log
 have b:=h2.log
 unfold IntMulOk
 intro z
 rw[lQ] at z
 have z2:Builtin.Int.intTooBig ((Builtin.Int.intBits i:Int)+(Builtin.Int.intBits j:Int))=true:=by first|exact z.2|exact_mod_cast z.2
 unfold Builtin.Int.intTooBig at z2
 have e1:Builtin.Int.intBits i<=4001:=by unfold Builtin.Int.intBits;split <;>omega
 have e2:Builtin.Int.intBits j<=4001:=by unfold Builtin.Int.intBits;split <;>omega
 have hb:((bitsLine:Nat):Int)≥10000:=by decide
 have:=lbJ z2
 omega)
theorem jF:OpR X (binaryOp .FloorDiv) (rI (λ_ j=>0<j/\Sm j) λi j=>.int (i / j)):=opI λi j _ _ _ _ _ hc q=>by
 obtain⟨h1,h2⟩:=hc
 refine floordiv_int (by omega) ?_ (.inl (PyProof.noPylong_of_log2 (by have:=h2.log;omega)))
 rw[Int.fdiv_eq_ediv_of_nonneg i (by omega)]
 exact q
theorem Same.upd {H:Hp}{p:Addr}{o:HO}(h:H p=none):Same H (upd H p o):=λb u e=>by rw[zF (yK e h)];exact e
theorem zom:KV ([]:List (Key×V)) ([]:List (Key×Value)):=.nil
theorem yg {a b:Nat}(h:a<b∨b<a):(a:Addr)≠(b:Addr):=by
 rcases h with h|h
 ·exact lU h
 ·exact laE h
end
def tyN:PyData->String
 | .none => "NoneType" | .bool _ => "bool" | .int _ => "int" | .str _ => "str" | .list _ => "list" | .tuple _ => "tuple" | .dict _ => "dict"
theorem zmm {K:PySem.W.Frag}(d:PyData):PySem.W.kitOne K (.type (tyN d)) (.type "int")=some (match d with | .int _=>true | .bool _=>true|_=>false):=by cases d <;>rfl
theorem zkD {K:PySem.W.Frag}(d:PyData):PySem.W.kitOne K (.type (tyN d)) (.type "bool")=some (match d with | .bool _=>true|_=>false):=by cases d <;>rfl
theorem zh7 {K:PySem.W.Frag}(d:PyData):PySem.W.kitOne K (.type (tyN d)) (.type "str")=some (match d with | .str _=>true|_=>false):=by cases d <;>rfl
theorem kit_tuple {K:PySem.W.Frag}(d:PyData):PySem.W.kitOne K (.type (tyN d)) (.type "tuple")=some (match d with | .tuple _=>true|_=>false):=by cases d <;>rfl
section
variable {X:Cx}
theorem ze7:jb X (.builtin "isinstance") (λxs H Q=>∃x d n b,xs=[x,.ty n]/\Is X.K H x d/\PySem.W.kitOne X.K (.type (tyN d)) (.type n)=some b/\Q (.bl b) H):=by
 intro pins s σ H xs us Q I r h
 obtain⟨x,d,n,b,rfl,is,e,q⟩:=h
 obtain⟨u,u2,rfl,ru,r2⟩:=vals2 r
 cases r2
 have fin:∀tk,EP X pins σ Q (.bool b) {s with toks:=tk}:=λtk=>⟨.bl b,H,I.tok _,rfl,q⟩
 cases is with
 | non=>cases (show u=Value.none from ru);exact lbo PySem.W.kitx_none I.kIn True.intro e (λz=>nomatch z) fin
 | bl y=>cases (show u=Value.bool y from ru);exact lbo PySem.W.kitx_bool I.kIn True.intro e (λz=>nomatch z) fin
 | int i=>obtain⟨t,q'⟩:=(show ∃t,u=Value.int i t from ru);cases q';exact lbo PySem.W.kitx_int I.kIn True.intro e (λz=>nomatch z) fin
 | str y=>obtain⟨t,q'⟩:=(show ∃t,u=Value.str y t from ru);cases q';exact lbo PySem.W.kitx_str I.kIn True.intro e (λz=>nomatch z) fin
 | @lst a xs ds q1 q2 =>
  cases (show u=Value.ref a from ru)
  obtain⟨its,_,⟨o,n',e1,hc,_⟩,_⟩:=I.list q1
  exact lbo PySem.W.kitx_list I.kIn ⟨o,e1,hc⟩ e (λz=>nomatch z) fin
 | @tup a xs ds q1 q2 =>
  cases (show u=Value.ref a from ru)
  obtain⟨its,_,⟨o,e1,hc,_⟩,_⟩:=I.tuple q1
  exact lbo PySem.W.kitx_tuple I.kIn ⟨o,e1,hc⟩ e (λz=>nomatch z) fin
end
def zi4 (fs:Scope)(N:List Str)(scope:Scope)(caps:List Nat):Bool :=
 (scope.kind == .function)&&(scope.names.all λy=>y.2 != .cell || scope.names.lookup y.1 == some .cell)&&(scope.names.all λy=>y.2 != .local || scope.names.lookup y.1 == some .local) &&
 (scope.names.all λy=>y.2 != .free || fs.names.lookup y.1 == some .cell || fs.names.lookup y.1 == some .free) &&
 (caps.all λi=>match N[i]? with|some y=>scope.names.lookup y == some .free|none=>false)
theorem xW {X:Cx}{fs scope:Scope}{N:List Str}{caps:List Nat}(hs:X.env.scope=fs)(hN:X.N=N)(h:zi4 fs N scope caps=true):CompOk X scope caps:=by
 unfold zi4 at h
 simp only[lQ,lal] at h
 obtain⟨⟨⟨⟨h1,h2⟩,h3⟩,h4⟩,h5⟩:=h
 refine⟨by simpa using h1,λy hy e=>?_,λy hy e=>?_,λy hy e=>?_,λi hi=>?_⟩
 ·have:=h2 y hy
  rw[e] at this
  simpa using this
 ·have:=h3 y hy
  rw[e] at this
  simpa using this
 ·have:=h4 y hy
  rw[e] at this
  unfold Env.kindOf
  rw[hs]
  simpa using this
 ·have:=h5 i hi
  rw[hN]
  cases e:N[i]? with
  | none=>rw[e] at this;simp at this
  | some y=>rw[e] at this;exact⟨y,rfl,by simpa using this⟩
theorem jY {X:Cx}{N:List Str}(h:X.N=N)(n:N.Nodup):X.N.Nodup:=h▸n
structure Dn (K:PySem.W.Frag)(mg:Str->Option Value)(x:Str)(st:Stmt)(ps:List Str) where
 f:Addr
 fd:FuncData
 fn:Fun K x x st f fd
 mg:mg x=some (.ref f)
 bd:Binds K fd ps []
section
variable {X:Cx}{pins:List (Addr×Obj)}{σ:St}{H:Hp}{s:Shared}{h':Heap}
theorem Inv.turnedL {t':Nat}{fp:List Addr}(I:Inv X pins σ H s)(k:∀b o,b∉fp->s.heap.get? b=some o->h'.get? b=some o)(hf:∀b∈fp,zjA X pins H b):Inv X pins σ H {s with heap:=h',toks:=t'}:=by
 have nit:∀b u,H b=some u->b∉fp:=λb u e z=>by rw[(hf b z).1] at e;cases e
 have nl:X.env.locals∉fp:=λz=>(hf _ z).2.1 rfl
 refine I.step (g':=s.gens) (d':=s.drawn) (ch:=fp) (λb hb=>?_) (λb o _ _ hc e _=>k b o hc e) (λb o _ _ hc e _=>⟨o.slots,k b o hc e⟩) (λ_ _ _ _ n=>n)
  (λb o hc e=>⟨o,k b o hc e⟩) (λ_ _ e=>e) (λ_ _ _ e=>e) (λb ps e=>⟨#[],by rw[e];simp⟩) (λm hm=>?_) (λb u e=>?_) I.bare
 ·obtain⟨_,f1,_,f3,f4,f5⟩:=hf b hb
  exact⟨f3,f1,f4,f5⟩
 ·obtain⟨o,es,ep,ho,r⟩:=hm
  exact⟨o,es,ep,k _ o nl ho,r⟩
 ·refine(I.hok b u e).stay (λc v hc q=>k c v ?_ q) (λ_ q=>q) λ_ _ q=>q
  rcases hc with z|z
  ·rw[z];exact nit b u e
  ·exact nit c _ z
end
theorem zlf (n:Nat):Zp.Apart (n+4:Nat) (n+2:Nat) (n+3:Nat) n (n+1:Nat) :=
 ⟨yg (by omega),yg (by omega),yg (by omega),yg (by omega),yg (by omega),yg (by omega),yg (by omega),yg (by omega),yg (by omega),yg (by omega)⟩
def fpZ (n:Nat):List Addr:=[(n+4:Nat),(n+2:Nat),(n+3:Nat),n,(n+1:Nat)]
section
variable {prog:Program}{w:World}{A:Around}
theorem zhu {it t:Addr}{i:Nat}{items:Array Value}{x:Value}(hne:t≠it)(hx:items[i]? = some x) :
  Zp.Yields prog w A it (λh=>h.IsListIter it t i/\h.IsList t items) (λv=>v=x) (λh=>h.IsListIter it t (i+1)/\h.IsList t items) :=
 λs Q E g hQ=>Zp.nextOf_list_item g.1 g.2 hx λh' st sb=>hQ _ h' s.toks rfl ⟨st,g.2.extBut sb.extBut hne⟩ sb
theorem zjz {it t:Addr}{i:Nat}{items:Array Value}(hh:A.handled=none)(hx:items[i]? = none) :
  Zp.Ends prog w A it (λh=>h.IsListIter it t i/\h.IsList t items) :=
 λs Q E g hE=>Zp.nextOf_list_end hh g.1 g.2 hx hE
end
def Kp (it n:Nat)(h h':Heap):Prop:=∀(c:Addr) o,(c=it∨(c:Nat)<n)->h.get? c=some o->h'.get? c=some o
structure ZS (P:Program)(w:World)(K:PySem.W.Frag)(xs:List V)(G:Hp->Prop)(n it:Nat)(S:Nat->Heap->Prop):Prop where
 obj:∀i h,S i h->∃o,h.get? (it:Addr)=some o/\∀v,o.data≠.cell v
 keep:∀i h h',S i h->(∀o,h.get? (it:Addr)=some o->h'.get? (it:Addr)=some o)->S i h'
 yld:∀(X:Cx),X.prog=P->X.w=w->X.K=K->∀(pins:List (Addr×Obj)) (s:Shared) (σ:St) (H:Hp) (i:Nat) (x:V),Inv X pins σ H s->G H->xs[i]? = some x->S i s.heap->∃G1 S1:Heap->Prop,
  (∀A,Zp.Yields P w A (it:Addr) G1 (RelV x) S1)/\(∀h',Kp it n s.heap h'->G1 h')/\(∀h h',S1 h->Kp it n h h'->S1 h')/\∀h,S1 h->S (i+1) h
 ends:∀(X:Cx),X.prog=P->X.w=w->X.K=K->∀(pins:List (Addr×Obj)) (s:Shared) (σ:St) (H:Hp) (i:Nat),Inv X pins σ H s->G H->xs.length<=i->S i s.heap->∃G1:Heap->Prop,
  (∀A:Around,A.handled=none->Zp.Ends P w A (it:Addr) G1)/\∀h',Kp it n s.heap h'->G1 h'
theorem znk {P:Program}{w:World}{K:PySem.W.Frag}{xs:List V}{n it l:Nat}(hl:l<n)(hi:n<=it):ZS P w K xs (λH=>SqT K H l xs) n it (λi h=>h.IsTupleIter it l i) where
 obj:=λi h ⟨o,e,c,d⟩=>⟨o,e,λv z=>by rw[d] at z;cases z⟩
 keep:=λi h h' z kk=>z.at kk
 yld:=by
  intro X hP hw hK pins s σ H i x I g hx st
  subst hP hw hK
  obtain⟨its,rv,pl,_⟩:=I.tuple g
  obtain⟨u,hu,ru⟩:=rv.get hx
  have p1:s.heap.IsTuple l its.toArray:=pl
  have ne:(l:Addr)≠(it:Addr):=yg (.inl (by omega))
  refine⟨λh=>h.IsTupleIter it l i/\h.IsTuple l its.toArray,λh=>h.IsTupleIter it l (i+1)/\h.IsTuple l its.toArray,λA s Q E g hQ=>Zp.yields_tuple (items:=its.toArray) (i:=i) (x:=u) ne (by simpa using hu) s Q E g λv h' tk e=>hQ v h' tk (e▸ru),λh' kk=>⟨?_,?_⟩,λh h' ⟨a,b⟩ kk=>⟨a.at λo e=>kk _ _ (.inl rfl) e,?_⟩,λh z=>z.1⟩
  ·exact st.at λo e=>kk _ _ (.inl rfl) e
  ·obtain⟨o,e,r⟩:=p1;exact⟨o,kk _ _ (.inr hl) e,r⟩
  ·obtain⟨o,e,r⟩:=b;exact⟨o,kk _ _ (.inr hl) e,r⟩
 ends:=by
  intro X hP hw hK pins s σ H i I g hx st
  subst hP hw hK
  obtain⟨its,rv,pl,_⟩:=I.tuple g
  have p1:s.heap.IsTuple l its.toArray:=pl
  have len:=rv.length
  refine⟨_,λA hh=>Zp.ends_tuple (t:=l) (i:=i) (items:=its.toArray) hh (by simpa using (show its.length<=i by omega)),λh' kk=>⟨st.at λo e=>kk _ _ (.inl rfl) e,?_⟩⟩
  obtain⟨o,e,r⟩:=p1;exact⟨o,kk _ _ (.inr hl) e,r⟩
theorem znp {P:Program}{w:World}{K:PySem.W.Frag}{xs:List V}{n it l:Nat}(hl:l<n)(hi:n<=it):ZS P w K xs (λH=>SqL K H l xs) n it (λi h=>h.IsListIter it l i) where
 obj:=λi h ⟨o,e,c,d⟩=>⟨o,e,λv z=>by rw[d] at z;cases z⟩
 keep:=λi h h' z kk=>z.at kk
 yld:=by
  intro X hP hw hK pins s σ H i x I g hx st
  subst hP hw hK
  obtain⟨its,rv,pl,_⟩:=I.list g
  obtain⟨u,hu,ru⟩:=rv.get hx
  have p1:s.heap.IsList l its.toArray:=pl.isList
  have ne:(l:Addr)≠(it:Addr):=yg (.inl (by omega))
  refine⟨λh=>h.IsListIter it l i/\h.IsList l its.toArray,λh=>h.IsListIter it l (i+1)/\h.IsList l its.toArray,λA s Q E g hQ=>zhu (items:=its.toArray) (i:=i) (x:=u) ne (by simpa using hu) s Q E g λv h' tk e=>hQ v h' tk (e▸ru),λh' kk=>⟨?_,?_⟩,λh h' ⟨a,b⟩ kk=>⟨a.at λo e=>kk _ _ (.inl rfl) e,?_⟩,λh z=>z.1⟩
  ·exact st.at λo e=>kk _ _ (.inl rfl) e
  ·obtain⟨o,e,r⟩:=p1;exact⟨o,kk _ _ (.inr hl) e,r⟩
  ·obtain⟨o,e,r⟩:=b;exact⟨o,kk _ _ (.inr hl) e,r⟩
 ends:=by
  intro X hP hw hK pins s σ H i I g hx st
  subst hP hw hK
  obtain⟨its,rv,pl,_⟩:=I.list g
  have p1:s.heap.IsList l its.toArray:=pl.isList
  have len:=rv.length
  refine⟨_,λA hh=>zjz (t:=l) (i:=i) (items:=its.toArray) hh (by simpa using (show its.length<=i by omega)),λh' kk=>⟨st.at λo e=>kk _ _ (.inl rfl) e,?_⟩⟩
  obtain⟨o,e,r⟩:=p1;exact⟨o,kk _ _ (.inr hl) e,r⟩
def vC (l:List Nat):List V:=l.map λc=>V.str (T [c])
theorem zoJ {P:Program}{w:World}{K:PySem.W.Frag}{l:List Nat}{t:Tok}{n it:Nat}:ZS P w K (vC l) (λ_=>True) n it (λi h=>h.IsStrIter it "str_ascii_iterator" (T l) t i) where
 obj:=λi h z=>by obtain⟨o,e,c,d⟩:=z;exact⟨o,e,λv z=>by rw[d] at z;cases z⟩
 keep:=λi h h' z kk=>by obtain⟨o,e,c,d⟩:=z;exact⟨o,kk o e,c,d⟩
 yld:=by
  intro X hP hw hK pins s σ H i x I g hx st
  subst hP hw hK
  unfold vC at hx
  rw[lR] at hx
  cases ec:l[i]? with
  | none=>rw[ec] at hx;cases hx
  | some c =>
   rw[ec] at hx
   cases hx
   refine⟨λh=>h.IsStrIter it "str_ascii_iterator" (T l) t i,λh=>h.IsStrIter it "str_ascii_iterator" (T l) t (i+1),λA s Q E g hQ=>Zp.yields_ascii (x:=T l) (t:=t) (i:=i) (c:=c) (by show l.toArray[i]? = _;simpa using ec) s Q E g λv h' tk e=>hQ v h' tk ?_,λh' kk=>?_,λh h' z kk=>?_,λh z=>z⟩
   ·obtain⟨u,rfl⟩:=e;exact⟨u,rfl⟩
   ·obtain⟨o,e,c,d⟩:=st;exact⟨o,kk _ _ (.inl rfl) e,c,d⟩
   ·obtain⟨o,e,c,d⟩:=z;exact⟨o,kk _ _ (.inl rfl) e,c,d⟩
 ends:=by
  intro X hP hw hK pins s σ H i I g hx st
  subst hP hw hK
  have hl:l.length<=i:=by simpa [vC] using hx
  refine⟨_,λA hh=>Zp.ends_ascii (x:=T l) (t:=t) (i:=i) hh (by show l.toArray[i]? = none;simpa using hl),λh' kk=>?_⟩
  obtain⟨o,e,c,d⟩:=st;exact⟨o,kk _ _ (.inl rfl) e,c,d⟩
def zpS (G1 G2:Hp->Prop)(xs ys:List V):It :=
 ⟨λi H=>G1 H/\G2 H/\i<min xs.length ys.length,λi H v H'=>∃p x y,H p=none/\xs[i]? = some x/\ys[i]? = some y/\v=.ref p/\H'=upd H p (.tup [x,y]),λi H=>G1 H/\G2 H/\min xs.length ys.length<=i⟩
def zqu (n:Nat)(S1 S2:Nat->Heap->Prop)(i:Nat)(h:Heap):Prop:=∃a b f1,Zp.IsZipF h (n+4:Nat) (n+2:Nat) (n+3:Nat) .none f1/\IsPair h (n+2:Nat) (.ref n) (.ref (n+1:Nat))/\IsPair h (n+3:Nat) a b/\S1 i h/\S2 i h
theorem ziN {P:Program}{w:World}{K:PySem.W.Frag}{elts:List Expr}{k:Nat}{pos:Pos}{n:Nat}{xs ys:List V}{G1 G2:Hp->Prop}{S1 S2:Nat->Heap->Prop}(A1:ZS P w K xs G1 n n S1)(A2:ZS P w K ys G2 n (n+1) S2) :
  Turn P w K (.Tuple elts k pos) (zpS G1 G2 xs ys) (fpZ n) (n+4:Nat) (zqu n S1 S2) where
 mem:=by simp[fpZ]
 obj:=λi h ⟨a,b,f1,z1,z2,z3,z4,z5⟩ c hc=>by
  simp only[fpZ,lz,ldb,lc0] at hc
  rcases hc with rfl|rfl|rfl|rfl|rfl
  ·exact⟨_,z1,λv z=>by cases z⟩
  ·exact⟨_,z2,λv z=>by cases z⟩
  ·exact⟨_,z3,λv z=>by cases z⟩
  ·exact A1.obj i h z4
  ·exact A2.obj i h z5
 keep:=λi h h' ⟨a,b,f1,z1,z2,z3,z4,z5⟩ kk=>by
  refine⟨a,b,f1,kk _ (by simp[fpZ]) _ z1,kk _ (by simp[fpZ]) _ z2,kk _ (by simp[fpZ]) _ z3,A1.keep i h h' z4 λo e=>kk _ (by simp[fpZ]) o e,A2.keep i h h' z5 λo e=>kk _ (by simp[fpZ]) o e⟩
 item := by
  intro X hP hw hK hc i pins s σ H E I hf st hg
  obtain⟨q1,q2,hi⟩:=hg
  have i1:i<xs.length:=by omega
  have i2:i<ys.length:=by omega
  obtain⟨a,b,f1,z1,z2,z3,z4,z5⟩:=st
  obtain⟨Ga,Sa,Y1,ga,sa,ta⟩:=A1.yld X hP hw hK pins s σ H i _ I q1 (lg i1) z4
  obtain⟨Gb,Sb,Y2,gb,sb',tb⟩:=A2.yld X hP hw hK pins s σ H i _ I q2 (lg i2) z5
  subst hP hw hK
  have hT:s.TypeIs (.ref ((n+4:Nat):Addr)) "zip" := ⟨_,z1,rfl⟩
  unfold pyNext
  refine la (lbK (lM (name:=Str.ofString "__next__") hT lbv
   (lac lbv hT PySem.F.entry_zip_next ?_ (PySem.F.args_zip_next_1 _))))
  have D:=zlf n
  have nn:∀{c:Addr}{k:Nat},(c:Nat)<n->c≠((n+k:Nat):Addr):=λ{c k} hc=>yg (.inl (lm hc (lbN _ _)))
  refine Zp.next_item D z1 z2 z3 (Y1 _) (Y2 _) ?_ ?_ ?_ ?_ ?_
  ·refine λh' kk=>ga h' λc o hc e=>kk c o ?_ e
   rcases hc with rfl|hc
   ·exact D.i1z
   ·exact nn hc
  ·refine λh' kk=>gb h' λc o hc e=>?_
   rcases hc with rfl|hc
   ·exact kk _ _ D.i2z D.TOi2.symm D.i12.symm e
   ·exact kk _ _ (nn hc) (nn hc) (nn (k:=0) hc) e
  ·refine λh h' z kk=>sa h h' z λc o hc e=>?_
   rcases hc with rfl|hc
   ·exact kk _ _ D.i1z D.TOi1.symm D.i12 e
   ·exact kk _ _ (nn hc) (nn hc) (nn hc) e
  ·refine λh h' z kk=>sb' h h' z λc o hc e=>?_
   rcases hc with rfl|hc
   ·exact kk _ _ D.i2z D.TOi2.symm e
   ·exact kk _ _ (nn hc) (nn hc) e
  ·rintro v1 v2 h' tk ru1 ru2 z' to' s1 s2 hp hsz kk
   refine lj ⟨_,rfl,?_⟩
   refine wpAny_letOwnedTupleGo_zip (s:={s with heap:=h',toks:=tk}) z' λh2 zz sb=>?_
   obtain⟨o1,e1,_⟩:=A1.obj _ _ z4
   obtain⟨o2,e2,_⟩:=A2.obj _ _ z5
   have nz:∀c:Addr,c=s.heap.objs.size->c∉fpZ n:=λc e hc=>by
    have:=(hf c hc).1
    obtain ⟨o,ho,_⟩:∃o,s.heap.get? c=some o/\True:=by
     simp only[fpZ,lz,ldb,lc0] at hc
     rcases hc with rfl|rfl|rfl|rfl|rfl
     ·exact⟨_,z1,trivial⟩
     ·exact⟨_,z2,trivial⟩
     ·exact⟨_,z3,trivial⟩
     ·exact⟨_,e1,trivial⟩
     ·exact⟨_,e2,trivial⟩
    rw[e] at ho
    exact absurd (lu ho) (lbs _)
   have szz:s.heap.objs.size≠((n+4:Nat):Addr):=λe=>nz _ rfl (by rw[e];simp[fpZ])
   have I1:Inv X pins σ H {s with heap:=h2,toks:=tk}:=I.turnedL (fp:=fpZ n) (λc o hc e=>by
    have hc':c≠((n+4:Nat):Addr)/\c≠((n+2:Nat):Addr)/\c≠((n+3:Nat):Addr)/\c≠(n:Addr)/\c≠((n+1:Nat):Addr):=by
     simpa [fpZ] using hc
    exact sb.extBut _ _ hc'.1 (kk c o hc'.1 hc'.2.2.1 hc'.2.2.2.1 hc'.2.2.2.2 e)) hf
   have hfree:H s.heap.objs.size=none:=I.hok.fresh (lp _)
   have hpair:h2.get? s.heap.objs.size=some {cls:=.type "tuple", data:=.seq #[v1,v2]}:=sb.extBut _ _ szz hp
   have I2:Inv X pins σ (upd H s.heap.objs.size (.tup [xs[i],ys[i]])) {s with heap:=h2,toks:=tk}:=I1.track hfree (.inr I.sz) (laE I.lt) (λx c e=>by
     obtain⟨v,o,ho,_⟩:=I.cell x c e
     exact lU (lu ho)) (λp hp=>lU (lu (I.pin p hp).1))
    ⟨by show 2<=sizeLine;decide,[v1,v2],.cons ru1 (.cons ru2 .nil),_,hpair,rfl,⟨_,rfl⟩,rfl⟩
   refine⟨.ref s.heap.objs.size,_,I2,rfl,⟨_,_,_,hfree,lg i1,lg i2,rfl,rfl⟩,⟨v1,v2,.bool false,zz,sb.extBut _ _ D.TIz (kk _ _ D.TIz D.TITO D.TIi1 D.TIi2 z2),sb.extBut _ _ D.TOz to',?_,?_⟩,λb hb=>?_⟩
   ·exact A1.keep _ _ _ (ta _ s1) λo e=>sb.extBut _ _ D.i1z e
   ·exact A2.keep _ _ _ (tb _ s2) λo e=>sb.extBut _ _ D.i2z e
   ·rw[zF (λe=>nz b e hb)]
    exact(hf b hb).1
 done:=by
  intro X hP hw hK hc i pins s σ H E I hf st hg
  obtain⟨q1,q2,hi⟩:=hg
  obtain⟨a,b,f1,z1,z2,z3,z4,z5⟩:=st
  have hT:s.TypeIs (.ref ((n+4:Nat):Addr)) "zip" := ⟨_,z1,rfl⟩
  have D:=zlf n
  have nn:∀{c:Addr}{k:Nat},(c:Nat)<n->c≠((n+k:Nat):Addr):=λ{c k} hc=>yg (.inl (lm hc (lbN _ _)))
  have hh:=I.ok.hd hc
  have key:∃Ga Gb:Heap->Prop,(Zp.Ends X.prog X.w X.A.in1 (n:Addr) Ga∨(Zp.Yields X.prog X.w X.A.in1 (n:Addr) Ga (λ_=>True) (λ_=>True)/\Zp.Ends X.prog X.w X.A.in1 ((n+1:Nat):Addr) Gb))/\(∀h',Kp n n s.heap h'->Ga h')/\(∀h',Kp (n+1) n s.heap h'->Gb h'):=by
   by_cases h1:xs.length<=i
   ·obtain⟨Ga,y,g⟩:=A1.ends X hP hw hK pins s σ H i I q1 h1 z4
    subst hP hw
    exact⟨Ga,λ_=>True,.inl (y _ hh),g,λ_ _=>trivial⟩
   ·obtain⟨Ga,Sa,Y1,ga,sa,ta⟩:=A1.yld X hP hw hK pins s σ H i _ I q1 (lg (Nat.lt_of_not_le h1)) z4
    obtain⟨Gb,y,g⟩:=A2.ends X hP hw hK pins s σ H i I q2 (by omega) z5
    subst hP hw
    exact⟨Ga,Gb,.inr ⟨λs Q E g hQ=>Y1 _ s Q E g λv h' tk _ _ sb=>hQ v h' tk trivial trivial sb,y _ hh⟩,ga,g⟩
  obtain⟨Ga,Gb,hend',ga,gb⟩:=key
  subst hP hw hK
  unfold pyNext
  refine la (lbK (lM (name:=Str.ofString "__next__") hT lbv
   (lac lbv hT PySem.F.entry_zip_next (Zp.next_end D z1 z2 z3 hend' ?_ ?_ ?_) (PySem.F.args_zip_next_1 _))))
  ·refine λh' kk=>ga h' λc o hc e=>kk c o ?_ e
   rcases hc with rfl|hc
   ·exact D.i1z
   ·exact nn hc
  ·refine λh' kk=>gb h' λc o hc e=>?_
   rcases hc with rfl|hc
   ·exact kk _ _ D.i2z D.TOi2.symm D.i12.symm e
   ·exact kk _ _ (nn hc) (nn hc) (nn (k:=0) hc) e
  ·intro h' tk e kk he
   obtain⟨o,ho,hc⟩:=he
   refine la (lda (T := "StopIteration") (b:=true) ⟨o,ho,hc⟩ isSubtype_stop ?_)
   refine lj ⟨rfl,I.turnedL (fp:=fpZ n) (λc o hc e=>?_) hf⟩
   have hc':c≠((n+4:Nat):Addr)/\c≠((n+2:Nat):Addr)/\c≠((n+3:Nat):Addr)/\c≠(n:Addr)/\c≠((n+1:Nat):Addr):=by
    simpa [fpZ] using hc
   exact kk c o hc'.1 hc'.2.2.1 hc'.2.2.2.1 hc'.2.2.2.2 e
 self:=λA i s Q E ⟨a,b,f1,z1,z2,z3,z4,z5⟩ h=>by
  have hT:s.TypeIs (.ref ((n+4:Nat):Addr)) "zip" := ⟨_,z1,rfl⟩
  refine wpAny_pyIter_slot hT PySem.F.slot_zip_iter (lac PySem.F.slot_zip_iter hT PySem.F.entry_zip_iter ?_ (PySem.F.args_zip_iter_1 _))
  show wpAny _ _ (ret (.ref ((n+4:Nat):Addr))) _ _ s
  exact lj ⟨_,rfl, "zip", _,hT,lbv.lookup,h⟩
def Itu (u:Value)(o:Obj)(G:Heap->Prop):Prop:=∀(prog:Program) (w:World) (A:Around) (s:Shared) (Q:Value->Shared->Prop) (E:Value->Shared->Prop),G s.heap->Q (.ref s.heap.objs.size) {s with heap:=s.heap.push o}->wpAny (model prog w) A (pyIter u) Q E s
section
variable {prog:Program}{w:World}{A:Around}{E:Value->Shared->Prop}{s:Shared}
theorem zkr {u1 u2:Value}{o1 o2:Obj}{G1 G2:Heap->Prop}(b1:Itu u1 o1 G1)(b2:Itu u2 o2 G2)(up:∀h,G2 h->G2 (h.push o1)) :
  Meets (Builtin.«zip.__new__» ⟨[.type "zip", u1,u2],[]⟩) (λ_ R s=>G1 s.heap/\G2 s.heap /\
   R (.ok (.ret (.ref (Zp.zH4 s.heap o1 o2).objs.size))) {s with heap:=Zp.zH5 s.heap o1 o2}) :=
 .of_wp λprog w A R s h=>by
  obtain⟨hl1,hl2,h⟩:=h
  have z3:(Zp.zH3 s.heap o1 o2).objs.size=(Zp.zH2 s.heap o1 o2).objs.size+1:=lag ..
  have z4:(Zp.zH4 s.heap o1 o2).objs.size=(Zp.zH2 s.heap o1 o2).objs.size+2:=by rw[lag,z3]
  refine Zp.meets_st_aux (h1:=s.heap.push o1) (h2:=Zp.zH2 s.heap o1 o2) (i1:=s.heap.objs.size) (i2:=(s.heap.push o1).objs.size)
   (λQ E q=>b1 prog w A.in1 s Q E hl1 q) (λQ E q=>b2 prog w A.in1 {s with heap:=s.heap.push o1} Q E (up _ hl2) q) ⟨_,rfl,?_⟩
  rw[← z4,← z3]
  exact h
theorem zhz {u1 u2:Value}{o1 o2:Obj}{G1 G2:Heap->Prop}{Q:Value->Shared->Prop}(f1:o1.isFreed=false)(f2:o2.isFreed=false)(b1:Itu u1 o1 G1)(b2:Itu u2 o2 G2)(up:∀h,G2 h->G2 (h.push o1))(hl1:G1 s.heap)(hl2:G2 s.heap)
  (h:∀h',Zp.Made5 s.heap h' o1 o2->Q (.ref (s.heap.objs.size+4)) {s with heap:=h'}) :
  wpAny (model prog w) A (call (.type "zip") [u1,u2]) Q E s:=by
 refine callType_new F.called_zip (by decide) (F.typeCall_zip_2 _ _) (F.newCall_zip_2 _ _) (λobj=>F.args_object_init_3 obj _ _) F.entry_zip_new
  (zkr b1 b2 up) ⟨hl1,hl2,?_⟩
 obtain⟨m,z4⟩:=Zp.made5 s.heap o1 o2 f1 f2
 show _/\_
 rw[z4]
 exact⟨⟨_,m.1,rfl⟩,h _ m⟩
end
def zpm (K:PySem.W.Frag)(H:Hp)(v:V)(xs:List V)(G:Hp->Prop):Prop :=
 (∃l,v=.ref l/\SqT K H l xs/\G=λH=>SqT K H l xs)∨(∃l,v=.ref l/\SqL K H l xs/\G=λH=>SqL K H l xs)∨(∃l,v=.str (T l)/\(∀c∈l,c<128)/\xs=vC l/\G=λ_=>True)
theorem zqd {X:Cx}{pins:List (Addr×Obj)}{s:Shared}{σ:St}{H:Hp}{v:V}{u:Value}{xs:List V}{G:Hp->Prop}(I:Inv X pins σ H s)(z:zpm X.K H v xs G)(r:RelV v u):G H/\∃(o:Obj) (C:Heap->Prop),o.isFreed=false/\C s.heap/\(∀h o',C h->C (h.push o'))/\Itu u o C /\
  ∀it:Nat,s.heap.objs.size<=it->∃S,ZS X.prog X.w X.K xs G s.heap.objs.size it S/\∀h:Heap,h.get? (it:Addr)=some o->S 0 h:=by
 rcases z with⟨l,rfl,q,rfl⟩|⟨l,rfl,q,rfl⟩|⟨l,rfl,ha,rfl,rfl⟩
 ·cases r
  obtain⟨its,rv,pl,_⟩:=I.tuple q
  have p1:s.heap.IsTuple l its.toArray:=pl
  have lt1:l<s.heap.objs.size:=by obtain⟨o,e,_⟩:=p1;exact lu e
  exact⟨q,Zp.tIter l,λh=>h.IsTuple l its.toArray,rfl,p1,λh o' ⟨o,e,r⟩=>⟨o,lb _ e,r⟩,λ_ _ _ _ _ _ g q=>lcX g q,λit hit=>⟨_,znk lt1 hit,λh e=>⟨_,e,rfl,rfl⟩⟩⟩
 ·cases r
  obtain⟨its,rv,pl,_⟩:=I.list q
  have p1:s.heap.IsList l its.toArray:=pl.isList
  have lt1:l<s.heap.objs.size:=by obtain⟨o,e,_⟩:=p1;exact lu e
  exact⟨q,Zp.lIter l,λh=>h.IsList l its.toArray,rfl,p1,λh o' ⟨o,e,r⟩=>⟨o,lb _ e,r⟩,λ_ _ _ _ _ _ g q=>lb0 g q,λit hit=>⟨_,znp lt1 hit,λh e=>⟨_,e,rfl,rfl⟩⟩⟩
 ·obtain ⟨t,rfl⟩:=r
  have ha':(T l).cps.all (· < 128)=true:=by
   simp only[T,lcd,lal,lbi]
   exact ha
  exact⟨trivial,Zp.sIter (T l) t,λ_=>True,rfl,trivial,λ_ _ _=>trivial,λ_ _ _ _ _ _ _ q=>wpAny_pyIter_ascii ha' q,λit hit=>⟨_,zoJ,λh e=>⟨_,e,rfl,rfl⟩⟩⟩
def Itz (K:PySem.W.Frag)(l1 l2:Addr)(xs ys:List V):It :=
 ⟨λi H=>SqT K H l1 xs/\SqT K H l2 ys/\i<min xs.length ys.length,λi H v H'=>∃p x y,H p=none/\xs[i]? = some x/\ys[i]? = some y/\v=.ref p/\H'=upd H p (.tup [x,y]),λi H=>SqT K H l1 xs/\SqT K H l2 ys/\min xs.length ys.length<=i⟩
def zqy (K:PySem.W.Frag)(ta tb:TE):TI:=λσ H R=>zbD ta (zbD tb zmh) σ H λvs H1=>∃l1 l2 xs ys,vs=[.ref l1,.ref l2]/\SqT K H1 l1 xs/\SqT K H1 l2 ys/\R (Itz K l1 l2 xs ys) H1
section
variable {X:Cx}
theorem zlO {Z:List V->Hp->(It->Hp->Prop)->Prop}(hZ:∀vs H1 R,Z vs H1 R->∃(v1 v2:V) (xs ys:List V) (G1 G2:Hp->Prop),vs=[v1,v2]/\zpm X.K H1 v1 xs G1/\zpm X.K H1 v2 ys G2/\R (zpS G1 G2 xs ys) H1){elts:List Expr}{k:Nat}{tpos:Pos}{a b:Expr}{ta tb:TE}{p pos:Pos}(hg:Gl X "zip")(hm:X.mg "zip" = none)(ha:PE X a ta)(hb:PE X b tb)
  (hs:starEach [a,b] X.env=[(false,eval a X.env),(false,eval b X.env)]:=by rfl) (hs2:starEach [b] X.env=[(false,eval b X.env)]:=by rfl) :
  PI X (.Tuple elts k tpos) (.Call (.Name "zip" p) [a,b] [] pos) (λσ H R=>zbD ta (zbD tb zmh) σ H λvs H1=>Z vs H1 R):=by
 intro pins s σ H R I h
 have hA:PA X [a,b] (zbD ta (zbD tb zmh)):=yJ ha (yJ hb vp hs2) (by rw[hs,hs2])
 refine laS (zcE I hg hm boot_zip ?_)
 refine laR (thn (hA pos pins s σ H _ I h) λus s1 zoY=>?_) (by rw[hs,hs2]) (by rw[hs2];rfl)
 obtain⟨vs,H2,I2,r2,zz⟩:=zoY
 obtain⟨v1,v2,xs,ys,G1,G2,ev,q1,q2,q⟩:=hZ _ _ _ zz
 subst ev
 obtain⟨u1,u2,rfl,ru1,ru2⟩:=vals2 r2
 obtain⟨g1,o1,C1,f1,c1,p1,b1,m1⟩:=zqd I2 q1 ru1
 obtain⟨g2,o2,C2,f2,c2,p2,b2,m2⟩:=zqd I2 q2 ru2
 obtain⟨S1,A1,st1⟩:=m1 s1.heap.objs.size (lp _)
 obtain⟨S2,A2,st2⟩:=m2 (s1.heap.objs.size+1) (lbW _)
 refine zhz f1 f2 b1 b2 (λh c=>p2 h _ c) c1 c2 λh1 m5=>?_
 obtain⟨m1,m2,m3,m4,m6,m7,m8⟩:=m5
 have T:=ziN (P:=X.prog) (w:=X.w) (K:=X.K) (elts:=elts) (k:=k) (pos:=tpos) A1 A2
 refine T.self X.A 0 _ _ _ ⟨_,_,_,m1,m2,m3,st1 _ m4,st2 _ m6⟩ ?_
 have I3:Inv X pins σ H2 {s1 with heap:=h1}:=I2.kept (t':=s1.toks) m8
 refine⟨_,fpZ s1.heap.objs.size,_,zpS G1 G2 xs ys,H2,rfl,I3,T,⟨_,_,_,m1,m2,m3,st1 _ m4,st2 _ m6⟩,λc hc=>?_,q⟩
 have hge:s1.heap.objs.size<=c:=by
  simp only[fpZ,lz,ldb,lc0] at hc
  rcases hc with rfl|rfl|rfl|rfl|rfl
  ·exact lbN _ _
  ·exact lbN _ _
  ·exact lbN _ _
  ·exact lp _
  ·exact lbN _ _
 obtain⟨f0,f1,f2,f3,f4,f5⟩:=I2.fpOk hge (I2.hok.fresh hge)
 exact⟨f0,f1,f2,f3,f4,f5⟩
theorem zgQ {elts:List Expr}{k:Nat}{tpos:Pos}{a b:Expr}{ta tb:TE}{p pos:Pos}(hg:Gl X "zip")(hm:X.mg "zip" = none)(ha:PE X a ta)(hb:PE X b tb)
  (hs:starEach [a,b] X.env=[(false,eval a X.env),(false,eval b X.env)]:=by rfl) (hs2:starEach [b] X.env=[(false,eval b X.env)]:=by rfl) :
  PI X (.Tuple elts k tpos) (.Call (.Name "zip" p) [a,b] [] pos) (zqy X.K ta tb):=zlO (λvs H1 R ⟨l1,l2,xs,ys,e,q1,q2,r⟩=>⟨_,_,xs,ys,_,_,e,.inl ⟨l1,rfl,q1,rfl⟩,.inl ⟨l2,rfl,q2,rfl⟩,r⟩) hg hm ha hb hs hs2
end
def Srt (ls:List (List Nat)):Prop:=ls.Pairwise (·<=·)
theorem zfW {a b:List Nat}(h:ltCps b a=false):a<=b:=by
 rw[ltCps_eq] at h
 exact laV.mp (of_decide_eq_false h)
theorem zbp:∀(p:Str) (l:List Str),risingS p l=true->(p::l).Pairwise λa b=>a.cps.toList<=b.cps.toList
 | p,[],_=>by simp
 | p,x::r,h=>by
  have h':(!ltCps x.cps.toList p.cps.toList&&risingS x r)=true:=h
  rw[lQ] at h'
  have h1:p.cps.toList<=x.cps.toList:=zfW (by simpa using h'.1)
  have h2:=zbp x r h'.2
  refine lbw.mpr ⟨λy hy=>?_,h2⟩
  rcases lz.mp hy with rfl|hy
  ·exact h1
  ·exact List.le_trans h1 (List.rel_of_pairwise_cons h2 hy)
theorem zlo {ss:List Str}(h:sortedS ss=true):Srt (ss.map λx=>x.cps.toList):=by
 unfold Srt
 rw[List.pairwise_map]
 cases ss with
 | nil=>simp
 | cons x r=>exact zbp x r h
theorem zbW:∀{us:List Value}{ss:List Str},StrsAre us ss->Vals (ss.map V.str) us
 | _,_,.nil=>.nil
 | _,_,.cons x t h=>.cons ⟨t,rfl⟩ (zbW h)
def vT (ls:List (List Nat)):List V:=ls.map λl=>V.str (T l)
theorem zgp (ss:List Str):ss.map V.str=vT (ss.map λx=>x.cps.toList):=by
 unfold vT
 rw[lap]
 exact lch λx _=>lbd V.str (zqE x).symm
theorem zp7 (ls:List (List Nat)):vT ls=(ls.map T).map V.str:=by unfold vT;rw[lap];rfl
section
variable {X:Cx}
theorem zet:jb X (.builtin "sorted") (λxs H Q=>∃a ls,xs=[.ref a]/\SqL X.K H a (vT ls)/\ls.length<64/\∀p ms,H p=none->ms.Perm ls->Srt ms->Q (.ref p) (upd H p (.lst (vT ms)))):=by
 intro pins s σ H xs us Q I r h
 obtain⟨a,ls,rfl,ha,h64,q⟩:=h
 obtain⟨u,rfl,ru⟩:=vals1 r
 cases ru
 obtain⟨its,rv,pl,hz⟩:=I.list ha
 rw[zp7] at rv
 have hl:=rv.length
 simp only[ly] at hl
 refine sorted_strs pl.isList (zaA rv) (by omega) λout ss' h1 h2 h3=>?_
 have hS:=zlo h3
 have hP:(ss'.map λx=>x.cps.toList).Perm ls:=by
  have:=h2.map λx:Str=>x.cps.toList
  rw[lap] at this
  have e:ls.map ((λx:Str=>x.cps.toList)∘T)=ls:=by
   have:((λx:Str=>x.cps.toList)∘T)=id:=funext λl=>zcD l
   rw[this,List.map_id]
  rw[e] at this
  exact this
 obtain⟨c,hat⟩:=sortedAll_at s.heap its out
 have hlen:ss'.length=ls.length:=by have:=h2.length_eq;simpa using this
 refine⟨.ref (s.heap.objs.size+1),_,I.laid (t':=s.toks) (o:=.lst (vT (ss'.map λx=>x.cps.toList))) (λb o e=>sortedAll_old e) (lbW _) ?_,rfl,q _ _ (I.hok.fresh (lbW _)) hP hS⟩
 refine⟨?_,out.toList,c,?_,by simpa [seqObj] using hat⟩
 ·rw[← zgp,ly,lbm];omega
 ·rw[← zgp];exact zbW h1
theorem ziO {K:PySem.W.Frag}{i j:Nat}{x y:Str}{px py pos:Pos}{k:Nat}(hK:X.K=K)(hc:X.calm=true)(hN:X.N.Nodup)(hi:X.N[i]? = some x)(hj:X.N[j]? = some y)(hx:Loc X.env.scope x)(hy:Loc X.env.scope y)
  (fx:X.fn x=true∨X.env.scope.names.lookup x=some .local:=by first|exact .inl rfl|exact .inr rfl|assumption) (fy:X.fn y=true∨X.env.scope.names.lookup y=some .local:=by first|exact .inl rfl|exact .inr rfl|assumption) :
  PG X (.Tuple [.Name x px,.Name y py] k pos) (zmR K 2 (zcw (kY i) (zcw (kY j) zmX))):=hK▸znH hc (zgB (yc hN hi hx fx) (zgB (yc hN hj hy fy) zml))
end
theorem zhE {K:PySem.W.Frag}{l1 l2:Addr}{xs ys:List V}(hz:xs.length<=sizeLine){g:TG}{tt:TT}{te:TE}{σ0:St}{F:List V->Hp->Prop}{H1:Hp}(Pv:Nat->List V->Hp->Prop)(h0:Pv 0 [] H1)(hG:∀i vs H,Pv i vs H->SqT K H l1 xs/\SqT K H l2 ys/\vs.length<=i)
  (hs:∀i x y p vs H,xs[i]? = some x->ys[i]? = some y->H p=none->Pv i vs H->g (.ref p) σ0 (upd H p (.tup [x,y])) λσ2 H2=>Kps σ0 σ2/\tt σ2 H2 λb H3=>if b=true then te σ2 H3 λv H4=>Pv (i+1) (vs++[v]) H4 else Pv (i+1) vs H3) (hd:∀vs H,Pv (min xs.length ys.length) vs H->F vs H) :
  zcj g tt te σ0 F (Itz K l1 l2 xs ys) H1:=by
 refine⟨λi m vs H=>m=min xs.length ys.length - i/\i<=min xs.length ys.length/\Pv i vs H,⟨_,rfl,la2 _,h0⟩,?_⟩
 rintro i m vs H ⟨rfl,hi,p⟩
 obtain⟨q1,q2,hl⟩:=hG i vs H p
 refine⟨by omega,?_⟩
 by_cases hlt:i<min xs.length ys.length
 ·refine .inr ⟨⟨q1,q2,hlt⟩,by omega,Pv (i+1),λvs' H' p'=>⟨min xs.length ys.length - (i+1),by omega,rfl,hlt,p'⟩,?_⟩
  rintro v H' ⟨a,x,y,e0,e1,e2,rfl,rfl⟩
  exact hs i x y a vs H e1 e2 e0 p
 ·have e:i=min xs.length ys.length:=by omega
  subst e
  exact .inl ⟨⟨q1,q2,lp _⟩,hd vs H p⟩
theorem zl8 {K:PySem.W.Frag}{l1 l2:Addr}{xs ys:List V}{g:TG}{tb:TS}{D:Ends}{σ:St}{H:Hp}(Pv:Nat->St->Hp->Prop)(h0:Pv 0 σ H)(hG:∀i σ H,Pv i σ H->SqT K H l1 xs/\SqT K H l2 ys)
  (hs:∀i x y p σ H,xs[i]? = some x->ys[i]? = some y->H p=none->Pv i σ H->g (.ref p) σ (upd H p (.tup [x,y])) λσ2 H2=>tb {D with nx:=Pv (i+1),ct:=Pv (i+1),bk:=D.nx} σ2 H2) (hd:∀σ H,Pv (min xs.length ys.length) σ H->D.nx σ H) :
  ∃ W:Nat->Nat->St->Hp->Prop,(∃m,W 0 m σ H)/\∀i m σ H,W i m σ H ->
   ((Itz K l1 l2 xs ys).stop i H/\D.nx σ H)∨((Itz K l1 l2 xs ys).go i H/\∃N:St->Hp->Prop,(∀σ' H',N σ' H'->∃m',m'<m/\W (i+1) m' σ' H')/\∀x H',(Itz K l1 l2 xs ys).yld i H x H'->g x σ H' λσ2 H2=>tb {D with nx:=N,ct:=N,bk:=D.nx} σ2 H2):=by
 refine⟨λi m σ H=>m=min xs.length ys.length - i/\i<=min xs.length ys.length/\Pv i σ H,⟨_,rfl,la2 _,h0⟩,?_⟩
 rintro i m σ H ⟨rfl,hi,p⟩
 obtain⟨q1,q2⟩:=hG i σ H p
 by_cases hlt:i<min xs.length ys.length
 ·refine .inr ⟨⟨q1,q2,hlt⟩,Pv (i+1),λσ' H' p'=>⟨min xs.length ys.length - (i+1),by omega,rfl,hlt,p'⟩,?_⟩
  rintro v H' ⟨a,x,y,e0,e1,e2,rfl,rfl⟩
  exact hs i x y a σ H e1 e2 e0 p
 ·have e:i=min xs.length ys.length:=by omega
  subst e
  exact .inl ⟨⟨q1,q2,lp _⟩,hd σ H p⟩
end L2
namespace My
def abcd:List Nat:=[97,98,99,100]
def wt (ws:List Int)(c:Nat):Int:=ws.getD (c - 97) 0
def up (ws:List Int):List Nat->Int
 | []=>1
 | c::r=>wt ws c*up ws r
def dn (ws:List Int)(l:List Nat):Int:=ws.sum ^ l.length
def znC (ws:List Int):Prop:=2<=ws.length/\ws.length<=4/\∀w∈ws,1<=w/\w<=99
def LetOk (m:Nat)(l:List Nat):Prop:=∀c∈l,97<=c/\c<97+m
theorem LetOk.app {m:Nat}{l k:List Nat}(a:LetOk m l)(b:LetOk m k):LetOk m (l++k):=λc hc=>by
 rcases lam.mp hc with h|h
 ·exact a c h
 ·exact b c h
theorem zjB {a:Int}(ha:1<=a){n m:Nat}(h:n<=m):a ^ n<=a ^ m:=by
 obtain⟨k,rfl⟩:=Nat.exists_eq_add_of_le h
 rw[Int.pow_add]
 have h1:0<a ^ n:=Int.pow_pos (by omega)
 have h2:0<a ^ k:=Int.pow_pos (by omega)
 have:=Int.mul_le_mul_of_nonneg_left (show(1:Int)<=a ^ k by omega) (Int.le_of_lt h1)
 omega
def Fra (B:Nat)(x:Int×Int):Prop:=0<=x.1/\0<x.2/\x.1<2 ^ B/\x.2<2 ^ B
theorem Fra.mono {B C:Nat}{x:Int×Int}(h:Fra B x)(hBC:B<=C):Fra C x:=by
 have:=zjB (a:=2) (by decide) hBC
 obtain⟨a,b,c,d⟩:=h
 exact⟨a,b,by omega,by omega⟩
section
variable {ws:List Int}(h:znC ws)
include h
def acc (ws:List Int)(l:List Nat)(S:Int):Int×Int:=low (up ws l*S) (dn ws l*ws.sum)
end
section
variable {a b c d e f:Int}(hb:0<b)(hd:0<d)(hf:0<f)
include hb
end
def rising (ps:List (List Nat)):Bool:=(ps.zip ps.tail).all λx=>decide (x.1<x.2)
def isInner (ps:List (List Nat))(x:List Nat):Bool:=ps.any λp=>x.isPrefixOf p && !decide (p=x)
def yD (ps:List (List Nat))(x:List Nat):Bool:=!(ps.any λp=>x.isPrefixOf p || p.isPrefixOf x)
def zM (m:Nat)(xs:List (List Nat)):List (List Nat):=xs.flatMap λx=>(abcd.take m).map λc=>x++[c]
def wI (ps:List (List Nat)):Option (List Nat×List Nat):=(ps.zip ps.tail).find? λx=>x.1.isPrefixOf x.2
def fta (m:Nat)(ps:List (List Nat)):Nat->List (List Nat)->Option (List Nat)
 | 0,_=>none
 | n+1,inner=>if inner=[] then none else match (zM m inner).find? (yD ps) with
  | some x=>some x
  | none=>fta m ps n ((zM m inner).filter (isInner ps))
def wM (m:Nat)(ps:List (List Nat)):Option (List Nat):=fta m ps 10 [[]]
def isBook (m:Nat)(ps:List (List Nat)):Bool:=rising ps&&(wI ps).isNone&&(wM m ps).isNone
theorem zhq (m:Nat)(hm:m<=4)(xs:List (List Nat)):(zM m xs).length<=4*xs.length:=by
 unfold zM
 induction xs with
 | nil=>simp
 | cons x r ih =>
  rw[lc6,lw,ly,lO,lF]
  omega
theorem zbf {m:Nat}{xs:List (List Nat)}{y:List Nat}(h:y∈zM m xs):∃x∈xs,∃c∈abcd.take m,y=x++[c]:=by
 unfold zM at h
 obtain⟨x,hx,hy⟩:=ldc.mp h
 obtain⟨c,hc,rfl⟩:=lbh.mp hy
 exact⟨x,hx,c,hc,rfl⟩
theorem zcm {ps:List (List Nat)}{x:List Nat}(h:isInner ps x=true)(h8:∀p∈ps,p.length<=9):x.length<9:=by
 unfold isInner at h
 obtain⟨p,hp,e⟩:=lce.mp h
 rw[lQ] at e
 obtain⟨s,rfl⟩:=lH.mp e.1
 have hs:s≠[]:=λz=>by subst z;simp at e
 have:=h8 _ hp
 rw[lw] at this
 have:=la4.mpr hs
 omega
def zmV (ks:List (List Nat))(k:List Nat):List (List Nat):=if k∈ks then ks else ks++[k]
def zpw (p:List Nat):List (List Nat):=(List.range p.length).map λe=>p.take e
def yj (ps:List (List Nat)):List (List Nat):=(ps.flatMap zpw).foldl zmV []
def sortF (ls:List (List Nat)):List (List Nat):=ls.mergeSort λa b=>!decide (b<a)
theorem zcB (ls:List (List Nat)):(sortF ls).Pairwise (·<=·):=by
 have h:=List.pairwise_mergeSort (le:=λa b:List Nat=>!decide (b<a)) (λa b c h1 h2=>by
  have h1':a<=b:=laV.mp (by simpa using h1)
  have h2':b<=c:=laV.mp (by simpa using h2)
  have h3:¬c<a:=laV.mpr (List.le_trans h1' h2')
  simpa using h3) (λa b=>by
  rcases List.le_total a b with h|h
  ·have:=laV.mpr h
   simp[this]
  ·have:=laV.mpr h
   simp[this]) ls
 exact h.imp λh=>laV.mp (by simpa using h)
theorem vP (ls:List (List Nat)):(sortF ls).Perm ls:=List.mergeSort_perm ls _
theorem sortF_eq {ls ms:List (List Nat)}(h:ms.Pairwise (·<=·))(p:ms.Perm ls):ms=sortF ls:=List.Perm.eq_of_pairwise (λ_ _ _ _ h k=>ldd h k) h (zcB ls) (p.trans (vP ls).symm)
def zP (ps:List (List Nat))(s:List (List Nat)×List Nat)(c:Nat):List (List Nat)×List Nat:=if s.2++[c]∈ps then(s.1++[s.2++[c]],[]) else(s.1,s.2++[c])
def yI (ps:List (List Nat))(l:List Nat):List (List Nat)×List Nat:=l.foldl (zP ps) ([],[])
theorem jU (ps:List (List Nat))(l:List Nat):(yI ps l).1.length<=l.length/\(yI ps l).2.length<=l.length:=by
 have key:∀(l:List Nat) (s:List (List Nat)×List Nat),(l.foldl (zP ps) s).1.length<=s.1.length+l.length/\(l.foldl (zP ps) s).2.length<=s.2.length+l.length:=by
  intro l
  induction l with
  | nil=>intro s;simp
  | cons c r ih =>
   intro s
   rw[lan,lF]
   have:=ih (zP ps s c)
   have h1:(zP ps s c).1.length<=s.1.length+1/\(zP ps s c).2.length<=s.2.length+1:=by
    unfold zP
    split <;>simp
   omega
 have:=key l ([],[])
 simpa [yI] using this
structure Book (m:Nat)(B:List (List Nat)):Prop where
 m2:2<=m
 m4:m<=4
 let_:∀p∈B,LetOk m p
 ne:∀p∈B,p≠[]
 pf:∀p∈B,∀q∈B,p <+: q->p=q
 cv:∀x,LetOk m x->∃p∈B,p <+: x∨x <+: p
 srt:B.Pairwise (·<=·)
 nd:B.Nodup
theorem zjD {m c:Nat}(h:c∈abcd.take m):97<=c/\c<97+m:=by
 obtain⟨i,hi,rfl⟩:=lcK.mp h
 have h1:i<m:=by rw[lO] at hi;omega
 have h2:i<4:=by rw[lO] at hi;have:abcd.length=4:=rfl;omega
 rw[List.getElem_take]
 have:i=0∨i=1∨i=2∨i=3:=by omega
 rcases this with rfl|rfl|rfl|rfl
 ·show 97<=97/\97<_;omega
 ·show 97<=98/\98<_;omega
 ·show 97<=99/\99<_;omega
 ·show 97<=100/\100<_;omega
theorem vM {m c:Nat}(hm:m<=4)(h:97<=c/\c<97+m):c∈abcd.take m:=by
 have:m=0∨m=1∨m=2∨m=3∨m=4:=by omega
 have:c=97∨c=98∨c=99∨c=100:=by omega
 rcases this with rfl|rfl|rfl|rfl <;>rcases(by assumption:m=0∨_) with rfl|rfl|rfl|rfl|rfl <;>first|decide|omega
theorem zlR (m:Nat):(abcd.take m).Nodup:=List.Sublist.nodup (List.take_sublist _ _) (by decide)
theorem LetOk.one {m c:Nat}(h:c∈abcd.take m):LetOk m [c]:=λd hd=>by rw[lI.mp hd];exact zjD h
theorem LetOk.pre {m:Nat}{x y:List Nat}(h:LetOk m y)(p:x <+: y):LetOk m x:=λc hc=>h c (p.subset hc)
theorem zh3 {m:Nat}{B:List (List Nat)}(h:Book m B){x:List Nat}(hx:LetOk m x):yD B x=false:=by
 obtain⟨p,hp,e⟩:=h.cv x hx
 unfold yD
 rw[Bool.not_eq_false',lce]
 refine⟨p,hp,?_⟩
 rw[ldl,lH,lH]
 exact e.symm
theorem zda {m:Nat}{xs:List (List Nat)}(h:∀x∈xs,LetOk m x):∀y∈zM m xs,LetOk m y:=λy hy=>by
 obtain⟨x,hx,c,hc,rfl⟩:=zbf hy
 exact(h x hx).app (LetOk.one hc)
theorem zgF {m:Nat}{B:List (List Nat)}(h:Book m B):∀(n:Nat) (xs:List (List Nat)),(∀x∈xs,LetOk m x)->fta m B n xs=none
 | 0,_,_=>rfl
 | n+1,xs,hx=>by
  unfold fta
  split
  ·rfl
  ·have hg:=zda hx
   have e:(zM m xs).find? (yD B)=none:=lbS.mpr λx hx=>by rw[zh3 h (hg x hx)];exact lv
   rw[e]
   exact zgF h n _ λx hx=>hg x (laP.mp hx).1
theorem zcU {m:Nat}{B:List (List Nat)}(h:Book m B):wM m B=none:=zgF h 10 [[]] λx hx=>by
 rw[lI.mp hx]
 intro c hc
 cases hc
theorem zfj {α:Type}:∀{l:List α}{x:α×α},x∈l.zip l.tail->x.1∈l/\x.2∈l:=λ{l x} h=>⟨(lbE h).1,List.mem_of_mem_tail (lbE h).2⟩
theorem qG {α:Type}{R:α->α->Prop}:∀{l:List α},l.Pairwise R->∀x∈l.zip l.tail,R x.1 x.2
 | [],_,x,h=>by cases h
 | [_],_,x,h=>by cases h
 | a::b::r,p,x,h=>by
  have h':x∈(a,b)::(b::r).zip r:=h
  rcases lz.mp h' with rfl|h'
  ·exact List.rel_of_pairwise_cons p lY
  ·exact qG (l:=b::r) (lbw.mp p).2 x h'
theorem strict {B:List (List Nat)}(s:B.Pairwise (·<=·))(n:B.Nodup):B.Pairwise (· < ·):=by
 have:=List.Pairwise.and s n
 exact this.imp λ⟨h,k⟩=>lby λhn=>k (ldd h (laV.mp hn))
theorem zcI {m:Nat}{B:List (List Nat)}(h:Book m B):wI B=none:=by
 refine lbS.mpr λx hx=>?_
 intro e
 have hm:=zfj hx
 have:=h.pf _ hm.1 _ hm.2 (lH.mp e)
 have lt:=qG (strict h.srt h.nd) x hx
 rw[this] at lt
 exact lca _ lt
theorem zjh {m:Nat}{B:List (List Nat)}(h:Book m B):rising B=true:=by
 unfold rising
 rw[lal]
 exact λx hx=>lS (qG (strict h.srt h.nd) x hx)
theorem Book.isBook {m:Nat}{B:List (List Nat)}(h:Book m B):isBook m B=true:=by
 unfold My.isBook
 rw[zjh h,zcI h,zcU h]
 rfl
def kids (m:Nat)(p:List Nat):List (List Nat):=(abcd.take m).map λc=>p++[c]
theorem kids_mem {m:Nat}{p x:List Nat}:x∈kids m p↔∃c∈abcd.take m,x=p++[c]:=by
 unfold kids
 rw[lbh]
 exact⟨λ⟨c,h,e⟩=>⟨c,h,e.symm⟩,λ⟨c,h,e⟩=>⟨c,h,e.symm⟩⟩
theorem zia (m:Nat)(p:List Nat):(kids m p).Nodup:=by
 unfold kids
 rw[List.nodup_iff_pairwise_ne,List.pairwise_map]
 refine(zlR m).imp λh e=>h ?_
 exact List.singleton_inj.mp (List.append_cancel_left e)
theorem zdB (m:Nat)(hm:m<=4)(p:List Nat):(kids m p).length=m:=by
 unfold kids
 rw[ly,lO]
 show min m 4=m
 omega
theorem znv {m:Nat}(hm:2<=m){B:List (List Nat)}{p:List Nat}(hp:∀x∈kids m p,x∈B){x:List Nat}(hx:LetOk m x)(m4:m<=4)(h:p <+: x∨x <+: p):∃q∈B,q <+: x∨x <+: q:=by
 have h97:97∈abcd.take m:=vM m4 (by omega)
 rcases h with⟨s,rfl⟩|h
 ·cases s with
  | nil=>exact⟨p++[97],hp _ (kids_mem.mpr ⟨97,h97,rfl⟩),.inr (by rw[lD];exact laO _ _)⟩
  | cons c r =>
   have hc:=hx c (by simp)
   exact⟨p++[c],hp _ (kids_mem.mpr ⟨c,vM m4 hc,rfl⟩),.inl ⟨r,by simp⟩⟩
 ·exact⟨p++[97],hp _ (kids_mem.mpr ⟨97,h97,rfl⟩),.inr (h.trans (laO _ _))⟩
theorem zdp (p:List Nat)(c:Nat):p++[c]≠p:=λe=>by have:=lbd List.length e;simp at this
def part (m:Nat)(B:List (List Nat))(j:Nat):List (List Nat):=sortF (B.eraseIdx j++kids m (B.getD j []))
theorem part_mem {m:Nat}{B:List (List Nat)}(hn:B.Nodup){j:Nat}(hj:j<B.length){x:List Nat}:x∈part m B j↔(x∈B/\x≠B.getD j [])∨x∈kids m (B.getD j []):=by
 unfold part
 rw[(vP _).mem_iff,lam]
 have e:B.getD j []=B[j]:=by rw[lr,lg hj];rfl
 have:x∈B.eraseIdx j↔x∈B/\x≠B.getD j []:=by
  rw[List.mem_eraseIdx_iff_getElem,e]
  constructor
  ·rintro⟨i,hi,hij,rfl⟩
   exact⟨laI hi,λz=>hij ((List.getElem_inj hn).mp z)⟩
  ·rintro⟨hx,hne⟩
   obtain⟨i,hi,rfl⟩:=lcK.mp hx
   exact⟨i,hi,λz=>hne (by subst z;rfl),rfl⟩
 rw[this]
theorem Book.part {m:Nat}{B:List (List Nat)}(h:Book m B){j:Nat}(hj:j<B.length):Book m (part m B j):=by
 have hpm:B.getD j []∈B:=by rw[lr,lg hj];exact laI hj
 have mem:=λx=>part_mem (m:=m) h.nd hj (x:=x)
 have hsr:(My.part m B j).Pairwise (·<=·):=zcB _
 have hnd:(My.part m B j).Nodup:=by
  unfold My.part
  refine(vP _).nodup_iff.mpr (lb1.mpr ⟨h.nd.eraseIdx j,zia _ _,?_⟩)
  rintro a ha b hb rfl
  have haB:a∈B:=List.mem_of_mem_eraseIdx ha
  obtain⟨c,hc,rfl⟩:=kids_mem.mp hb
  have:=h.pf _ hpm _ haB (laO _ _)
  exact zdp _ _ this.symm
 generalize My.part m B j=C at mem hsr hnd
 generalize B.getD j []=p at mem hpm
 refine⟨h.m2,h.m4,λx hx=>?_,λx hx=>?_,λx hx y hy hxy=>?_,λx hx=>?_,hsr,hnd⟩
 ·rcases (mem x).mp hx with⟨hx,_⟩|hx
  ·exact h.let_ x hx
  ·obtain⟨c,hc,rfl⟩:=kids_mem.mp hx
   exact(h.let_ _ hpm).app (LetOk.one hc)
 ·rcases (mem x).mp hx with⟨hx,_⟩|hx
  ·exact h.ne x hx
  ·obtain⟨c,hc,rfl⟩:=kids_mem.mp hx
   simp
 ·rcases (mem x).mp hx with⟨hx,nx⟩|hx <;>rcases(mem y).mp hy with⟨hy,ny⟩|hy
  ·exact h.pf x hx y hy hxy
  ·obtain⟨c,hc,rfl⟩:=kids_mem.mp hy
   rcases las.mp hxy with e|e
   ·exact e
   ·exact absurd (h.pf x hx p hpm e) nx
  ·obtain⟨c,hc,rfl⟩:=kids_mem.mp hx
   exact absurd (h.pf p hpm y hy ((laO _ _).trans hxy)).symm ny
  ·obtain⟨c,hc,rfl⟩:=kids_mem.mp hx
   obtain⟨d,hd,rfl⟩:=kids_mem.mp hy
   exact hxy.eq_of_length (by simp)
 ·obtain ⟨q,hq,e⟩:=h.cv x hx
  by_cases hqp:q=p
  ·subst hqp
   exact znv h.m2 (λz hz=>(mem z).mpr (.inr hz)) hx h.m4 e
  ·exact⟨q,(mem q).mpr (.inl ⟨hq,hqp⟩),e⟩
theorem Book.letters {m:Nat}(m2:2<=m)(m4:m<=4):Book m (kids m []):=by
 refine⟨m2,m4,λx hx=>?_,λx hx=>?_,λx hx y hy hxy=>?_,λx hx=>?_,?_,zia m []⟩
 ·obtain⟨c,hc,rfl⟩:=kids_mem.mp hx
  exact LetOk.one hc
 ·obtain⟨c,hc,rfl⟩:=kids_mem.mp hx
  simp
 ·obtain⟨c,hc,rfl⟩:=kids_mem.mp hx
  obtain⟨d,hd,rfl⟩:=kids_mem.mp hy
  exact hxy.eq_of_length (by simp)
 ·exact znv m2 (λz hz=>hz) hx m4 (.inl (lcr))
 ·have:m=2∨m=3∨m=4:=by omega
  rcases this with rfl|rfl|rfl <;>decide
def Inner (B:List (List Nat))(x:List Nat):Prop:=∃p∈B,x <+: p/\x≠p
theorem foldl_addK (l:List (List Nat)):∀ks:List (List Nat),ks.Nodup->(l.foldl zmV ks).Nodup/\∀x,x∈l.foldl zmV ks↔x∈ks∨x∈l:=by
 induction l with
 | nil=>intro ks h;exact⟨h,λx=>by simp⟩
 | cons k r ih =>
  intro ks h
  rw[lan]
  have h1:(zmV ks k).Nodup/\∀x,x∈zmV ks k↔x∈ks∨x=k:=by
   unfold zmV
   split
   ·exact⟨h,λx=>⟨.inl,λz=>z.elim id λe=>by rw[e];assumption⟩⟩
   ·rename_i hk
    refine⟨lb1.mpr ⟨h,by simp,?_⟩,λx=>by simp⟩
    rintro a ha b hb rfl
    rw[lI.mp hb] at ha
    exact hk ha
  obtain⟨h2,h3⟩:=ih _ h1.1
  refine⟨h2,λx=>?_⟩
  rw[h3,h1.2,lz,or_assoc]
theorem begs_mem {p x:List Nat}:x∈zpw p↔x <+: p/\x≠p:=by
 unfold zpw
 rw[lbh]
 constructor
 ·rintro⟨e,he,rfl⟩
  have he':=la5.mp he
  refine⟨lbM _ _,λz=>?_⟩
  have:=lbd List.length z
  rw[lO] at this
  omega
 ·rintro⟨h,hn⟩
  refine⟨x.length,la5.mpr ?_,(List.prefix_iff_eq_take.mp h).symm⟩
  have h1:=h.length_le
  have:x.length≠p.length:=λz=>hn (h.eq_of_length z)
  omega
theorem uI (B:List (List Nat)):(yj B).Nodup:=(foldl_addK _ [] ldt).1
theorem innerKeys_mem {B:List (List Nat)}{x:List Nat}:x∈yj B↔Inner B x:=by
 unfold yj
 rw[(foldl_addK _ [] ldt).2,ldc]
 simp only[lbr,false_or]
 exact⟨λ⟨p,hp,h⟩=>⟨p,hp,begs_mem.mp h⟩,λ⟨p,hp,h⟩=>⟨p,hp,begs_mem.mpr h⟩⟩
theorem zdg {m:Nat}(m2:2<=m)(m4:m<=4){B:List (List Nat)}(hn:B.Nodup){j:Nat}(hj:j<B.length){x:List Nat}(h:Inner (part m B j) x):Inner B x∨x=B.getD j []:=by
 obtain⟨q,hq,hx,hne⟩:=h
 have hpm:B.getD j []∈B:=by rw[lr,lg hj];exact laI hj
 rcases(part_mem hn hj).mp hq with⟨hq,_⟩|hq
 ·exact .inl ⟨q,hq,hx,hne⟩
 ·obtain ⟨c,hc,rfl⟩:=kids_mem.mp hq
  rcases las.mp hx with e|e
  ·exact absurd e hne
  ·by_cases hp:x=B.getD j []
   ·exact .inr hp
   ·exact .inl ⟨_,hpm,e,hp⟩
theorem sortF_mem {ls:List (List Nat)}{x:List Nat}:x∈sortF ls↔x∈ls:=(vP ls).mem_iff
theorem zkA {m:Nat}(m4:m<=4){B:List (List Nat)}{j:Nat}(hj:j<B.length):(part m B j).length=B.length - 1+m:=by
 unfold part
 rw[(vP _).length_eq,lw,zdB m m4,List.length_eraseIdx,lB hj]
def zi5 (B:List (List Nat))(x:List Nat):Prop:=∀y,y <+: x->y≠[]->y∉B
theorem ze0 {B:List (List Nat)}(acc:List (List Nat)):∀(r l:List Nat),zi5 B (l++r)->r.foldl (zP B) (acc,l)=(acc,l++r)
 | [],l,_=>by simp
 | c::r,l,h=>by
  have hn:l++[c]∉B:=h _ ⟨r,by simp⟩ (by simp)
  rw[lan]
  have e:zP B (acc,l) c=(acc,l++[c]):=by unfold zP;rw[lW hn]
  rw[e,ze0 acc r (l++[c]) (by simpa using h)]
  simp
theorem zdV {B:List (List Nat)}(acc:List (List Nat)):∀(r:List Nat) (a:List (List Nat)) (l:List Nat),r.foldl (zP B) (acc++a,l)=(acc++(r.foldl (zP B) (a,l)).1,(r.foldl (zP B) (a,l)).2)
 | [],a,l=>rfl
 | c::r,a,l=>by
  rw[lan,lan]
  by_cases h:l++[c]∈B
  ·have e1:zP B (acc++a,l) c=(acc++(a++[l++[c]]),[]):=by unfold zP;rw[lB h,laL]
   have e2:zP B (a,l) c=(a++[l++[c]],[]):=by unfold zP;rw[lB h]
   rw[e1,e2]
   exact zdV acc r _ _
  ·have e1:zP B (acc++a,l) c=(acc++a,l++[c]):=by unfold zP;rw[lW h]
   have e2:zP B (a,l) c=(a,l++[c]):=by unfold zP;rw[lW h]
   rw[e1,e2]
   exact zdV acc r _ _
theorem zfD (B:List (List Nat)):∀(r:List Nat) (s:List (List Nat)×List Nat),zi5 B s.2->(∀p∈s.1,p∈B)->zi5 B (r.foldl (zP B) s).2/\(∀p∈(r.foldl (zP B) s).1,p∈B)/\(r.foldl (zP B) s).1.flatten++(r.foldl (zP B) s).2=s.1.flatten++s.2++r
 | [],s,h1,h2=>⟨h1,h2,by simp⟩
 | c :: r,s,h1,h2=>by
  rw[lan]
  by_cases h:s.2++[c]∈B
  ·have e:zP B s c=(s.1++[s.2++[c]],[]):=by unfold zP;rw[lB h]
   rw[e]
   obtain ⟨a1,a2,a3⟩:=zfD B r (s.1++[s.2++[c]],[]) (λy hy hn=>absurd (lbp.mp hy) hn) (λp hp=>by
    rcases lam.mp hp with hp|hp
    ·exact h2 p hp
    ·rw[lI.mp hp];exact h)
   exact⟨a1,a2,by rw[a3];simp⟩
  ·have e:zP B s c=(s.1,s.2++[c]):=by unfold zP;rw[lW h]
   rw[e]
   obtain ⟨a1,a2,a3⟩:=zfD B r (s.1,s.2++[c]) (λy hy hn=>by
    rcases las.mp hy with e|e
    ·rw[e];exact h
    ·exact h1 y e hn) h2
   exact⟨a1,a2,by rw[a3];simp⟩
theorem zkN (B:List (List Nat)):zi5 B []:=λy hy hn=>absurd (lbp.mp hy) hn
theorem zaR (B:List (List Nat))(l:List Nat):zi5 B (yI B l).2/\(∀p∈(yI B l).1,p∈B)/\(yI B l).1.flatten++(yI B l).2=l:=by
 have:=zfD B l ([],[]) (zkN B) (by simp)
 simpa [yI] using this
theorem zdL {B:List (List Nat)}{x:List Nat}(h:zi5 B x):yI B x=([],x):=by
 have:=ze0 (B:=B) [] x [] (by simpa using h)
 simpa [yI] using this
theorem zf4 (B:List (List Nat))(l r:List Nat):yI B (l++r)=((yI B l).1++(yI B ((yI B l).2++r)).1,(yI B ((yI B l).2++r)).2):=by
 have h1:yI B ((yI B l).2++r)=r.foldl (zP B) ([],(yI B l).2):=by
  have:=zdL (zaR B l).1
  unfold yI at this ⊢
  rw[lb2,this]
 rw[h1]
 have h2:yI B (l++r)=r.foldl (zP B) (yI B l):=by unfold yI;rw[lb2]
 rw[h2]
 have:=zdV (B:=B) (yI B l).1 r [] (yI B l).2
 rw[lD] at this
 exact this
theorem Book.free {m:Nat}{B:List (List Nat)}(h:Book m B){x:List Nat}(hx:Inner B x):zi5 B x:=λy hy hn hyB=>by
 obtain⟨p,hp,hxp,hne⟩:=hx
 have e:=h.pf y hyB p hp (hy.trans hxp)
 subst e
 exact hne (List.IsPrefix.eq_of_length hxp (ldm hxp.length_le hy.length_le))
theorem Book.left {m:Nat}{B:List (List Nat)}(h:Book m B){x:List Nat}(hl:LetOk m x)(hf:zi5 B x):Inner B x:=by
 obtain⟨p,hp,e⟩:=h.cv x hl
 rcases e with e|e
 ·exact absurd hp (hf p e (h.ne p hp))
 ·refine⟨p,hp,e,λz=>?_⟩
  subst z
  exact hf x (la1 _) (h.ne x hp) hp
theorem Book.cutOne {m:Nat}{B:List (List Nat)}(h:Book m B){p:List Nat}(hp:p∈B):yI B p=([p],[]):=by
 have hne:=h.ne p hp
 have e:p=p.dropLast++[p.getLast hne]:=(List.dropLast_concat_getLast hne).symm
 have hf:zi5 B p.dropLast:=h.free ⟨p,hp,lbc p,λz=>by
  have:=lbd List.length z
  rw[lbA] at this
  have:=la4.mpr hne
  omega⟩
 have h1:=zdL hf
 rw[e]
 unfold yI at h1 ⊢
 rw[lb2,h1]
 show zP B ([],p.dropLast) (p.getLast hne)=_
 unfold zP
 rw[lB (by rw[← e];exact hp)]
 rfl
theorem Book.cutSome {m:Nat}{B:List (List Nat)}(h:Book m B):∀ps:List (List Nat),(∀p∈ps,p∈B)->yI B ps.flatten=(ps,[])
 | [],_=>rfl
 | p::r,hp=>by
  rw[laB,zf4,h.cutOne (hp p lY)]
  have:=Book.cutSome h r λq hq=>hp q (lK _ hq)
  simp only[lao,this]
  rfl
inductive Gr (m:Nat):Nat->List (List Nat)->Prop
 | z:Gr m 0 (kids m [])
 | s {t:Nat}{B:List (List Nat)}{j:Nat}:Gr m t B->j<B.length->Gr m (t+1) (part m B j)
theorem Gr.book {m:Nat}(m2:2<=m)(m4:m<=4){t:Nat}{B:List (List Nat)}(h:Gr m t B):Book m B:=by
 induction h with
 | z=>exact Book.letters m2 m4
 | s _ hj ih=>exact ih.part hj
theorem Gr.len {m:Nat}(m2:2<=m)(m4:m<=4){t:Nat}{B:List (List Nat)}(h:Gr m t B):B.length=m+t*(m - 1):=by
 induction h with
 | z=>rw[zdB m m4];omega
 | s _ hj ih =>
  rename_i B' t' _
  rw[zkA m4 hj,ih,Nat.add_mul]
  generalize _*(m - 1)=z
  omega
theorem Gr.short {m:Nat}(m2:2<=m)(m4:m<=4){t:Nat}{B:List (List Nat)}(h:Gr m t B):∀p∈B,p.length<=t+1:=by
 induction h with
 | z=>intro p hp;obtain⟨c,_,rfl⟩:=kids_mem.mp hp;simp
 | s g hj ih =>
  rename_i t' B' j
  intro p hp
  have hpm:B'.getD j []∈B':=by rw[lr,lg hj];exact laI hj
  rcases(part_mem (g.book m2 m4).nd hj).mp hp with⟨hp,_⟩|hp
  ·have:=ih p hp;omega
  ·obtain⟨c,_,rfl⟩:=kids_mem.mp hp
   have:=ih _ hpm
   rw[lw]
   show _+1<=_
   omega
theorem Gr.inner {m:Nat}(m2:2<=m)(m4:m<=4){t:Nat}{B:List (List Nat)}(h:Gr m t B):∃L:List (List Nat),L.length=t+1/\∀x,Inner B x->x∈L:=by
 induction h with
 | z =>
  refine⟨[[]],rfl,λx znu=>?_⟩
  obtain⟨p,hp,hx,hn⟩:=znu
  obtain⟨c,_,rfl⟩:=kids_mem.mp hp
  rcases las.mp hx with e|e
  ·exact absurd e hn
  ·rw[lbp.mp e];simp
 | s g hj ih =>
  rename_i t' B' j
  obtain⟨L,h1,h2⟩:=ih
  refine⟨L++[B'.getD j []],by simp[h1],λx hx=>?_⟩
  rcases zdg m2 m4 (g.book m2 m4).nd hj hx with h|h
  ·exact lbz _ (h2 x h)
  ·rw[h];simp
theorem Gr.keys {m:Nat}(m2:2<=m)(m4:m<=4){t:Nat}{B:List (List Nat)}(h:Gr m t B):(yj B).length<=t+1:=by
 obtain⟨L,h1,h2⟩:=h.inner m2 m4
 rw[← h1]
 exact(uI B).length_le_of_subset λx hx=>h2 x (innerKeys_mem.mp hx)
end My
namespace L2
open PySem PySem.Spec PyProof.Rows
section
variable {prog:Program}{w:World}{A:Around}{E:Value->Shared->Prop}{s:Shared}
theorem zfL {l:Addr}{vs:List Value}{Q:List Value->Shared->Prop}(hl:IsTup s.heap l vs.toArray)
  (h:Q vs {s with heap:=(s.heap.push (seqObj "list" #[] 0)).update s.heap.objs.size (Obj.mapSeq (· ++ vs.toArray))}) (hsz:vs.length<=sizeLine) :
  wpAny (model prog w) A (collect (.ref l)) Q E s:=by
 obtain⟨o,ho,hc,n,hd⟩:=id hl
 unfold collect
 refine la (wpAny_runValue (lcq entry_proto_collect' ?_))
 show wpAny _ _ (do again (.builtin "list.__iadd__" ⟨[← newList [],.ref l],[]⟩)) _ _ s
 refine la (wpAny_newList (lj ⟨Code.quiet_builtin _ (by decide +kernel),lcq entry_list_iadd' ?_⟩))
 show wpAny _ _ (Builtin.List.listExtendWith (.ref s.heap.objs.size) (.ref l) (.ref s.heap.objs.size)) _ _ {s with heap:=s.heap.push (seqObj "list" #[] 0)}
 unfold Builtin.List.listExtendWith
 have ho':(s.heap.push (seqObj "list" #[] 0)).get? l=some o:=lb _ ho
 refine la (lcC (T := "tuple") ⟨o,ho',hc⟩ ?_)
 have ht:(Value.type "tuple" == Value.type "tuple")=true:=by rfl
 rw[lB (by rw[ht];simp)]
 refine la (listItems_at ho' hd ?_)
 refine la (listItems_at (xs:=#[]) (n:=0) (lx _ rfl) rfl ?_)
 rw[lW (by simp)]
 refine la (listUpdate_at (xs:=#[]) (n:=0) (lx _ rfl) rfl ?_ (la2 _) (by show(#[]++vs.toArray).size<=sizeLine+1;simp only[Array.size_append,lG,lad];omega))
 refine lj ?_
 show wpAny (model prog w) A (do
   let o ← load s.heap.objs.size
   match o.data with
   | .seq xs _=>pure xs.toList
   | _=>unsupported "internal:collect") Q E {s with heap:=(s.heap.push (seqObj "list" #[] 0)).update s.heap.objs.size (Obj.mapSeq (· ++ vs.toArray))}
 refine la (wpAny_load (get?_update_seq (lx _ rfl) _) ?_)
 show wpAny _ _ (pure ((#[]:Array Value)++vs.toArray).toList) Q E _
 rw[show((#[]:Array Value)++vs.toArray).toList=vs by simp]
 exact lj h
theorem zjR {κ:KeyKind}(hO:κ.OneLt){l:Addr}{vs:List Value}{Q:Value->Shared->Prop}(hl:IsTup s.heap l vs.toArray)(h0:KeysOf κ (pairsOf vs))(hkk:∀v₁ v₂ rest,vs=v₁::v₂::rest->keyKind' (v₁::v₂::rest).toArray=pure oneType')(h64:vs.length<64)
  (h:∀st':SortSt,(arrOf st').Perm (pairsOf vs)->SortedToK κ (arrOf st') (pairsOf vs).size->Q (.ref (s.heap.objs.size+1)) {s with heap:=sortedAll s.heap vs ((arrOf st').map (·.2))}) :
  wpAny (model prog w) A (call (.builtin "sorted") [.ref l]) Q E s:=by
 have hz:vs.length<=sizeLine:=by rw[lbm];omega
 refine Calls.call_function_entry kind_sorted plain_sorted entry_sorted (args_sorted1 _) ?_
 unfold Builtin.«sorted»
 refine la (m:=checkCount "sorted" 1 1 _) (lj ?_)
 refine la (zfL hl ?_ hz)
 refine la (wpAny_newList ?_)
 have hsz:((s.heap.push (seqObj "list" #[] 0)).update s.heap.objs.size (Obj.mapSeq (· ++ vs.toArray))).objs.size=s.heap.objs.size+1:=by
  rw[Heap.size_update,size_push']
 have hoL:(((s.heap.push (seqObj "list" #[] 0)).update s.heap.objs.size (Obj.mapSeq (· ++ vs.toArray))).push (seqObj "list" vs.toArray 0)).get? (s.heap.objs.size+1)=some (seqObj "list" vs.toArray 0):=by
  rw[← hsz];exact lx _ rfl
 show wpAny _ _ _ _ _ {s with heap:=((s.heap.push (seqObj "list" #[] 0)).update s.heap.objs.size (Obj.mapSeq (· ++ vs.toArray))).push (seqObj "list" vs.toArray 0)}
 rw[hsz]
 refine la (laQ (lac slot_list_sort ⟨_,hoL,rfl⟩ entry_list_sort (list_sort_treeK hO hoL h0 hkk h64 λst' a1 a2=>⟨_,rfl,?_⟩) (args_list_sort _)))
 exact lj ⟨_,rfl,h st' a1 a2⟩
end
section
variable {X:Cx}
theorem zeK:jb X (.builtin "sorted") (λxs H Q=>∃a ls,xs=[.ref a]/\SqT X.K H a (vT ls)/\ls.length<64/\∀p ms,H p=none->ms.Perm ls->Srt ms->Q (.ref p) (upd H p (.lst (vT ms)))):=by
 intro pins s σ H xs us Q I r h
 obtain⟨a,ls,rfl,ha,h64,q⟩:=h
 obtain⟨u,rfl,ru⟩:=vals1 r
 cases ru
 obtain⟨its,rv,pl,hz⟩:=I.tuple ha
 rw[zp7] at rv
 have hl:=rv.length
 simp only[ly] at hl
 have hS:=zaA rv
 refine zjR strKind_oneLt pl hS.keysOf (λv₁ v₂ rest e=>keyKind_strs (by rw[← e];exact hS)) (by omega) λst' hp hs=>?_
 obtain⟨ss',h1,h2,h3⟩:=sorted_out_str hS hp hs
 have hS:=zlo h3
 have hP:(ss'.map λx=>x.cps.toList).Perm ls:=by
  have:=h2.map λx:Str=>x.cps.toList
  rw[lap] at this
  have e:ls.map ((λx:Str=>x.cps.toList)∘T)=ls:=by
   have:((λx:Str=>x.cps.toList)∘T)=id:=funext λl=>zcD l
   rw[this,List.map_id]
  rw[e] at this
  exact this
 obtain⟨c,hat⟩:=sortedAll_at s.heap its ((arrOf st').map (·.2))
 have hlen:ss'.length=ls.length:=by have:=h2.length_eq;simpa using this
 refine⟨.ref (s.heap.objs.size+1),_,I.laid (t':=s.toks) (o:=.lst (vT (ss'.map λx=>x.cps.toList))) (λb o e=>sortedAll_old e) (lbW _) ?_,rfl,q _ _ (I.hok.fresh (lbW _)) hP hS⟩
 refine⟨?_,((arrOf st').map (·.2)).toList,c,?_,by rw[Array.toArray_toList];exact hat⟩
 ·rw[← zgp,ly,lbm];omega
 ·rw[← zgp];exact zbW h1
end
end L2
namespace My
theorem inner_iff {ps:List (List Nat)}{x:List Nat}:isInner ps x=true↔Inner ps x:=by
 unfold isInner Inner
 rw[lce]
 constructor
 ·rintro⟨p,hp,e⟩
  rw[lQ,lH,lb3,decide_eq_false_iff_not] at e
  exact⟨p,hp,e.1,λz=>e.2 z.symm⟩
 ·rintro⟨p,hp,e,hn⟩
  refine⟨p,hp,?_⟩
  rw[lQ,lH,lb3,decide_eq_false_iff_not]
  exact⟨e,λz=>hn z.symm⟩
theorem apart_iff {ps:List (List Nat)}{x:List Nat}:yD ps x=true↔∀p∈ps,¬x <+: p/\¬p <+: x:=by
 unfold yD
 rw[lb3,List.any_eq_false]
 constructor
 ·intro h p hp
  have:=h p hp
  rw[ldl,lH,lH] at this
  exact⟨λz=>this (.inl z),λz=>this (.inr z)⟩
 ·intro h p hp
  rw[ldl,lH,lH]
  exact λz=>z.elim (h p hp).1 (h p hp).2
theorem zfe {m:Nat}{xs:List (List Nat)}{x:List Nat}{c:Nat}(hx:x∈xs)(hc:c∈abcd.take m):x++[c]∈zM m xs:=by
 unfold zM
 exact ldc.mpr ⟨x,hx,lbh.mpr ⟨c,hc,rfl⟩⟩
theorem Book.nilInner {m:Nat}{B:List (List Nat)}(h:Book m B):Inner B []:=by
 obtain⟨p,hp,_⟩:=h.cv [] (λc hc=>by cases hc)
 exact⟨p,hp,lcr,λz=>h.ne p hp z.symm⟩
theorem Book.innerLet {m:Nat}{B:List (List Nat)}(h:Book m B){x:List Nat}(hx:Inner B x):LetOk m x:=by
 obtain⟨p,hp,hxp,_⟩:=hx
 exact(h.let_ p hp).pre hxp
theorem Book.step {m:Nat}{B:List (List Nat)}(h:Book m B){x:List Nat}(hx:Inner B x){c:Nat}(hc:c∈abcd.take m):(Inner B (x++[c])/\x++[c]∉B)∨(¬Inner B (x++[c])/\x++[c]∈B):=by
 have hnot:Inner B (x++[c])->x++[c]∉B:=λhi=>h.free hi _ (la1 _) (by simp)
 by_cases hB:x++[c]∈B
 ·exact .inr ⟨λhi=>hnot hi hB,hB⟩
 ·refine .inl ⟨?_,hB⟩
  obtain⟨q,hq,e⟩:=h.cv (x++[c]) ((h.innerLet hx).app (LetOk.one hc))
  rcases e with e|e
  ·rcases las.mp e with e|e
   ·exact absurd (e▸hq) hB
   ·exact absurd hq (h.free hx q e (h.ne q hq))
  ·exact⟨q,hq,e,λz=>hB (z▸hq)⟩
theorem zbX {m:Nat}(m2:2<=m)(m4:m<=4){B:List (List Nat)}(hb:Book m B){j:Nat}(hj:j<B.length){x:List Nat}:Inner (part m B j) x↔Inner B x∨x=B.getD j []:=by
 have hpm:B.getD j []∈B:=by rw[lr,lg hj];exact laI hj
 have h97:97∈abcd.take m:=vM m4 (by omega)
 have hk:B.getD j []++[97]∈part m B j:=(part_mem hb.nd hj).mpr (.inr (kids_mem.mpr ⟨97,h97,rfl⟩))
 refine⟨zdg m2 m4 hb.nd hj,?_⟩
 rintro(⟨p,hp,hx,hne⟩|rfl)
 ·by_cases e:p=B.getD j []
  ·refine ⟨_,hk,?_,?_⟩
   ·rw[← e];exact hx.trans (laO _ _)
   ·intro z
    have h1:=hx.length_le
    rw[z,← e] at h1
    simp at h1
    omega
  ·exact⟨p,(part_mem hb.nd hj).mpr (.inl ⟨hp,e⟩),hx,hne⟩
 ·exact⟨_,hk,laO _ _,λz=>zdp _ _ z.symm⟩
theorem Gr.keysEq {m:Nat}(m2:2<=m)(m4:m<=4){t:Nat}{B:List (List Nat)}(h:Gr m t B):(yj B).length=t+1:=by
 have key:∃L:List (List Nat),L.Nodup/\L.length=t+1/\∀x,Inner B x↔x∈L:=by
  induction h with
  | z =>
   refine⟨[[]],by simp,rfl,λx=>⟨λ⟨p,hp,hx,hn⟩=>?_,λhx=>?_⟩⟩
   ·obtain⟨c,_,rfl⟩:=kids_mem.mp hp
    rcases las.mp hx with e|e
    ·exact absurd e hn
    ·rw[lbp.mp e];simp
   ·rw[lI.mp hx]
    exact(Book.letters m2 m4).nilInner
  | s g hj ih =>
   rename_i t' B' j
   obtain⟨L,h0,h1,h2⟩:=ih
   have hb:=g.book m2 m4
   have hpm:B'.getD j []∈B':=by rw[lr,lg hj];exact laI hj
   refine⟨L++[B'.getD j []],lb1.mpr ⟨h0,by simp,?_⟩,by simp[h1],λx=>?_⟩
   ·rintro a ha b hb' rfl
    rw[lI.mp hb'] at ha
    exact hb.free ((h2 _).mpr ha) _ (la1 _) (hb.ne _ hpm) hpm
   ·rw[zbX m2 m4 hb hj,h2,lam,lI]
 obtain⟨L,h0,h1,h2⟩:=key
 rw[← h1]
 refine ldm ((uI B).length_le_of_subset λx hx=>(h2 x).mp (innerKeys_mem.mp hx)) (h0.length_le_of_subset λx hx=>innerKeys_mem.mpr ((h2 x).mpr hx))
structure Less (m:Nat)(B:List (List Nat))(p:List Nat)(L:List (List Nat)):Prop where
 bk:Book m B
 hp:p∈B
 mem:∀x,x∈L↔x∈B/\x≠p
 srt:L.Pairwise (· < ·)
theorem Less.apart {m:Nat}{B:List (List Nat)}{p:List Nat}{L:List (List Nat)}(h:Less m B p L){x:List Nat}(hx:p <+: x):yD L x=true:=by
 refine apart_iff.mpr λq hq=>⟨λe=>?_,λe=>?_⟩
 ·have:=(h.mem q).mp hq
  exact this.2 (h.bk.pf p h.hp q this.1 (hx.trans e)).symm
 ·have:=(h.mem q).mp hq
  rcases List.prefix_or_prefix_of_prefix e hx with z|z
  ·exact this.2 (h.bk.pf q this.1 p h.hp z)
  ·exact this.2 (h.bk.pf p h.hp q this.1 z).symm
theorem Less.fta {m:Nat}{B:List (List Nat)}{p:List Nat}{L:List (List Nat)}(h:Less m B p L):∀(n j:Nat) (xs:List (List Nat)),(∀x∈xs,LetOk m x/\Inner L x)->j<p.length->p.length<=j+n->p.take j∈xs->∃x,fta m L n xs=some x/\x <+: p/\yD L x=true
 | 0,j,xs,_,h1,h2,_=>by omega
 | n + 1,j,xs,hx,h1,h2,hj=>by
  have hl:=h.bk.let_ p h.hp
  have hg:∀y∈zM m xs,yD L y=true->y <+: p:=λy hy ha=>by
   obtain⟨x,hxx,c,hc,rfl⟩:=zbf hy
   have hlet:=(hx x hxx).1.app (LetOk.one hc)
   obtain⟨q,hq,e⟩:=h.bk.cv _ hlet
   by_cases hqp:q=p
   ·subst hqp
    rcases e with e|e
    ·rcases las.mp e with e|e
     ·rw[e];exact la1 _
     ·obtain⟨r,hr,hxr,_⟩:=(hx x hxx).2
      have hr':=(h.mem r).mp hr
      exact absurd (h.bk.pf q hq r hr'.1 (e.trans hxr)).symm hr'.2
    ·exact e
   ·have:=apart_iff.mp ha q ((h.mem q).mpr ⟨hq,hqp⟩)
    exact(e.elim this.2 this.1).elim
  unfold My.fta
  rw[lW (λe=>by rw[e] at hj;cases hj)]
  cases ef:(zM m xs).find? (yD L) with
  | some x=>exact⟨x,rfl,hg x (List.mem_of_find?_eq_some ef) (List.find?_some ef),List.find?_some ef⟩
  | none =>
   have hno:=lbS.mp ef
   have hc:p[j]∈abcd.take m:=vM h.bk.m4 (hl _ (laI h1))
   have hmem:p.take (j+1)∈zM m xs:=by
    rw[← List.take_append_getElem h1]
    exact zfe hj hc
   have hna:=hno _ hmem
   have hj1:j+1<p.length:=by
    refine lby λhge=>hna ?_
    rw[lat (by omega)]
    exact h.apart (la1 _)
   refine h.fta n (j+1) _ (λx hxf=>?_) hj1 (by omega) (laP.mpr ⟨hmem,?_⟩)
   ·obtain⟨h3,h4⟩:=laP.mp hxf
    exact⟨zda (λx hx'=>(hx x hx').1) x h3,inner_iff.mp h4⟩
   ·refine inner_iff.mpr ?_
    have:∃q∈L,p.take (j+1) <+: q∨q <+: p.take (j+1):=by
     refine lby λhne=>hna (apart_iff.mpr λq hq=>⟨λz=>hne ⟨q,hq,.inl z⟩,λz=>hne ⟨q,hq,.inr z⟩⟩)
    obtain⟨q,hq,e⟩:=this
    have hq':=(h.mem q).mp hq
    have key:¬q <+: p.take (j+1):=λz=>hq'.2 (h.bk.pf q hq'.1 p h.hp (z.trans (lbM _ _)))
    exact⟨q,hq,e.resolve_right key,λz=>key (z▸la1 _)⟩
theorem Less.text {m:Nat}{B:List (List Nat)}{p:List Nat}{L:List (List Nat)}(h:Less m B p L)(hne:L≠[])(h8:p.length<=9):∃x,wM m L=some x/\x <+: p/\yD L x=true:=by
 refine h.fta 10 0 [[]] (λx hx=>?_) (la4.mpr (h.bk.ne p h.hp)) (by omega) (by simp)
 rw[lI.mp hx]
 refine⟨λc hc=>by (cases hc),?_⟩
 obtain⟨q,hq⟩:=List.exists_mem_of_ne_nil L hne
 exact⟨q,hq,lcr,λz=>h.bk.ne q ((h.mem q).mp hq).1 z.symm⟩
theorem zcz:∀(x z s:List Nat),x<=z->z<=x++s->x <+: z
 | [],z,s,_,_=>lcr
 | a::x,[],s,h,_=>absurd (List.nil_lt_cons a x) (laV.mpr h)
 | a::x,b::z,s,h1,h2=>by
  have e:a=b:=by
   have h3:=(laV.mpr h1)
   have h4:=(laV.mpr h2)
   rw[lau] at h4
   have n1:¬b<a:=λz=>h3 (lbx.mpr (.inl z))
   have n2:¬a<b:=λz=>h4 (lbx.mpr (.inl z))
   omega
  subst e
  refine List.cons_prefix_cons.mpr ⟨rfl,zcz x z s (laV.mp λz=>laV.mpr h1 (lbx.mpr (.inr ⟨rfl,z⟩))) (laV.mp λz=>laV.mpr h2 (lbx.mpr (.inr ⟨rfl,z⟩)))⟩
theorem ziH:∀{l:List (List Nat)},l.Pairwise (· < ·)->∀{x y:List Nat},x∈l->y∈l->x<y->∃z,(x,z)∈l.zip l.tail/\x<z/\z<=y
 | [],_,_,_,h,_,_=>by cases h
 | [a],_,x,y,hx,hy,hlt=>by
  rw[lI.mp hx,lI.mp hy] at hlt
  exact absurd hlt (lca _)
 | a :: b::r,p,x,y,hx,hy,hlt=>by
  have pp:=lbw.mp p
  rcases lz.mp hx with rfl|hx2
  ·rcases lz.mp hy with rfl|hy
   ·exact absurd hlt (lca _)
   ·refine⟨b,lY,pp.1 b lY,?_⟩
    rcases lz.mp hy with rfl|hy
    ·exact List.le_refl _
    ·exact ldx ((lbw.mp pp.2).1 y hy)
  ·rcases lz.mp hy with hy|hy
   ·rw[hy] at hlt
    exact absurd (List.lt_trans hlt (pp.1 x hx2)) (lca _)
   ·obtain⟨z,h1,h2⟩:=ziH (l:=b::r) pp.2 hx2 hy hlt
    exact⟨z,lK _ h1,h2⟩
end My
namespace L2
open PySem PySem.Spec PyProof.Rows
def zd9 (P:Program)(w:World)(outer:List Env)(H:Hp)(s:Shared)(E:XK)(e:Value)(s':Shared):Prop :=
 ∃ (a C:Addr) (a0:Value) (H':Hp) (B:Heap),e=.ref a/\s'.os=s.os/\AllBare s'.gens /\
  (∀b o,s.heap.get? b=some o->b∉frs outer->∃o',B.get? b=some o'/\(H b=none->o'=o)) /\
  (∀b o,s.heap.get? b=some o->b∈frs outer->∃sl,s'.heap.get? b=some {o with slots:=sl}) /\
  (∀b o,s.heap.get? b=some o->H b=none->H' b=none) /\
  (∀b xs,H b=some (.tup xs)->H' b=some (.tup xs))/\(∀b o u,H b=some (.frz o u)->H' b=some (.frz o u))/\(∀b ps,H b=some (.tbl ps)->∃more,H' b=some (.tbl (ps++more))) /\
  HOk P w H' B/\Heap.FlyingW B outer a (.ref C) a0 s'.heap/\E (.ref C) none H'
abbrev CX1 (P:Program)(w:World):CXT:=zd9 P w
theorem zdW {env:Env}{outer:List Env}{L:Addr}(hf:env.frame=some L):frs (env::outer)=L::frs outer:=by
 unfold frs
 rw[lcg,hf]
theorem zkf {P:Program}{w:World}{H:Hp}{h:Heap}{l:List Addr}(ok:HOk P w H h)(hl:∀b∈l,H b=none):HOk P w H (PySem.W.hideAll h l):=λb o e =>
 (ok b o e).stay (λc u hc q=>lcN l q λz=>by
  rcases hc with rfl|hc
  ·rw[hl _ z] at e;cases e
  ·rw[hl _ z] at hc;cases hc) (λ_ q=>q) λ_ _ q=>q
section
variable {X:Cx}{pins:List (Addr×Obj)}{σ:St}{H:Hp}{s:Shared}{M:Model}{F:Value->Shared->Prop}{E:XK}
theorem Inv.fr0 (I:Inv X pins σ H s){b:Addr}(hb:b∈X.fs):X.H₀ b=none/\b∉X.ex:=⟨I.ok.frf b hb,λz=>I.ok.exfs b z hb⟩
theorem ziT (I:Inv X pins σ H s)(hst:X.stack=X.env::X.outer)(hfr:X.env.frame=some X.env.locals)(hex:X.ex=[]){e C:Addr}{args:List Value}{h':Heap}
  (hx:Heap.MadeExcOf s.heap h' e (.ref C) args) (hE:E (.ref C) none H) :
  wpAny M X.A (leaving X.env (.ref e)) (λ_ s''=>zd9 X.prog X.w X.outer X.H₀ X.s₀ E (.ref e) s'') F {s with heap:=h'}:=by
 have hin:∀env∈X.stack,∀b,env.frame=some b->b∈frs X.stack:=λenv he b hb=>lcY.mpr ⟨env,he,hb⟩
 have hstk:frs X.stack=X.env.locals::frs X.outer:=by rw[hst];exact zdW hfr
 have nex:∀b:Addr,b∉X.ex:=λb z=>by rw[hex] at z;cases z
 refine wpAny_leaves_madeW (base:=PySem.W.hideAll s.heap (frs X.stack)) (h:=s.heap) (outer:=X.outer) (I.ok.frames.trans (by rw[hst])) hfr (λb o q=>PySem.W.of_hideAll _ q) (by rw[← hst];exact PySem.W.funFrames_hide I.stack hin) hx λh2 t x1 x2 x3 x4=>?_
 refine⟨e,C,.ref t,H,PySem.W.hideAll s.heap (frs X.stack),rfl,I.os,I.bare,λb o q hb=>?_,λb o q hb=>?_,λb o q n=>I.base.free b o q n (nex b),I.base.tups,I.base.frzs,I.base.tbls,zkf I.hok I.stkFree,x1,hE⟩
 ·obtain ⟨o1,e1⟩:=I.base.there b o q (nex b)
  refine⟨o1,lcN _ e1 λz=>?_,λn=>?_⟩
  ·rw[hstk] at z
   rcases lz.mp z with z|z
   ·exact absurd (lu q) (Nat.not_lt.mpr (z▸I.ok.above))
   ·exact hb z
  ·have:=I.base.keep b o q n hb (nex b)
   rw[e1] at this
   exact lc this
 ·obtain ⟨sl,e1⟩:=I.base.slot b o q (I.fr0 hb).1 hb (nex b)
  have hb2:b∈X.stack.filterMap (·.frame):=by
   show b∈frs X.stack
   rw[hstk]
   exact lK _ hb
  obtain⟨_,o2,e2,nf⟩:=I.stack.mem hb2
  rw[e1] at e2
  obtain rfl:=lc e2
  obtain⟨sl2,e3⟩:=x4 b _ (hx.keeps b _ e1) nf
  exact⟨sl2,e3⟩
theorem zjF (I:Inv X pins σ H s)(hst:X.stack=X.env::X.outer)(hfr:X.env.frame=some X.env.locals)(hex:X.ex=[]){e:Value}{s':Shared}(hf:zd9 X.prog X.w X.stack H s E e s') :
  wpAny M X.A (leaving X.env e) (λ_ s''=>zd9 X.prog X.w X.outer X.H₀ X.s₀ E e s'') F s':=by
 have hstk:frs X.stack=X.env.locals::frs X.outer:=by rw[hst];exact zdW hfr
 have nex:∀b:Addr,b∉X.ex:=λb z=>by rw[hex] at z;cases z
 obtain⟨a,C,a0,H',B,rfl,hos,hbare,h1,h2,h3,h4,h5,h6,hok,fly,hE⟩:=hf
 have fly':Heap.FlyingW B (X.env::X.outer) a (.ref C) a0 s'.heap:=by rw[← hst];exact fly
 refine wpAny_leaves_onW (I.ok.frames.trans (by rw[hst])) hfr fly' λh2' x1 x2=>?_
 refine⟨a,C,a0,H',B,rfl,hos.trans I.os,hbare,λb o q hb=>?_,λb o q hb=>?_,λb o q n=>?_,λb xs q=>h4 b xs (I.base.tups b xs q),λb o u q=>h5 b o u (I.base.frzs b o u q),λb ps q=>?_,hok,x1,hE⟩
 ·obtain ⟨o1,e1⟩:=I.base.there b o q (nex b)
  have hbs:b∉frs X.stack:=λz=>by
   rw[hstk] at z
   rcases lz.mp z with z|z
   ·exact absurd (lu q) (Nat.not_lt.mpr (z▸I.ok.above))
   ·exact hb z
  obtain⟨o2,e2,k2⟩:=h1 b o1 e1 hbs
  refine⟨o2,e2,λn=>?_⟩
  have e3:=I.base.keep b o q n hb (nex b)
  rw[e1] at e3
  rw[k2 (I.base.free b o q n (nex b))]
  exact lc e3
 ·obtain⟨sl,e1⟩:=I.base.slot b o q (I.fr0 hb).1 hb (nex b)
  have hb2:b∈frs X.stack:=by rw[hstk];exact lK _ hb
  obtain⟨sl2,e2⟩:=h2 b _ e1 hb2
  obtain⟨_,o3,e3,nf⟩:=fly.2.2.1.mem hb2
  rw[e2] at e3
  obtain rfl:=lc e3
  obtain⟨sl3,e4⟩:=x2 b _ e2 nf
  exact⟨sl3,e4⟩
 ·obtain⟨o1,e1⟩:=I.base.there b o q (nex b)
  exact h3 b o1 e1 (I.base.free b o q n (nex b))
 ·obtain⟨m1,e1⟩:=I.base.tbls b ps q
  obtain⟨m2,e2⟩:=h6 b _ e1
  exact⟨m1++m2,by rw[e2,lcW]⟩
end
theorem yF {P:Program}{w:World}{K:PySem.W.Frag}{mg:Str->Option Value}{base:Heap}{N:List Str}{qual:Str}{scope:Scope}{f:Addr}{cd:Value}{A:Around}{outer:List Env}{s:Shared}{H:Hp}{E:XK} :
  uE (CX1 P w) (jc (CX1 P w) P w K mg base N qual scope f cd A outer s H E) E:=λpins σ H' s' e s'' I hf=>zjF I rfl rfl rfl hf
theorem Fun.okX {P:Program}{w:World}{K:PySem.W.Frag}{mg:Str->Option Value}{base:Heap}{x qual:Str}{st:Stmt}{f:Addr}{fd:FuncData}{N ps:List Str}{k:Nat}{sp:Sp}(F:Fun K x qual st f fd)(S:FnScope N ps (zm st))(len:∀vs H Q E,sp vs H Q E->vs.length=ps.length)
  (hbody:∀(cdv:Value) (A:Around) (outer:List Env) (s:Shared) (H:Hp) (vs:List V) (Q:VK) (E:XK),Room k (A.deeper (envOfC qual (zm st) s.heap.objs.size f cdv))->sp vs H Q E ->
   ∃t,PSs (jc (CX1 P w) P w K mg base N qual (zm st) f cdv A outer s H E) (xq st) t/\t {nx:=λ_ H'=>Q .non H',rt:=Q} (start N vs) H):FnOk P w K mg base (CX1 P w) (k+1) f fd ps sp:=by
 obtain⟨oc,od,kV,doc,pm,an,cdv,ct,osl,rfl,lk,hcd⟩:=F.ex
 exact zof lk hcd S len λA outer s H vs Q E hr hsp=>hbody cdv A outer s H vs Q E hr hsp
theorem PS.nox {X:Cx}{st:Stmt}{t:TS}(h:PS X.nox st t):PS X st t:=λpins s σ H D I hw =>
 lai (h pins s σ H D (I.wish _) hw) (λ_ _ q=>q.unwish) λ_ _ z=>False.elim z
theorem PA.nox {X:Cx}{es:List Expr}{t:TA}(h:PA X.nox es t):PA X es t:=λpos pins s σ H Q I hw =>
 lai (h pos pins s σ H Q (I.wish _) hw) (λ_ _ ⟨v,H',I',r,q⟩=>⟨v,H',I'.unwish,r,q⟩) λ_ _ z=>False.elim z
structure Own (K:PySem.W.Frag)(mg:Str->Option Value)(x:Str) where
 C:Addr
 mgx:mg x=some (.ref C)
 exc:PySem.W.excIn K C [.type "ValueError", .type "Exception", .type "BaseException", .type "object"] "ValueError.__new__" = true
inductive ExcD (o:Option Obj)(A:Option Addr->ClassData->Array (Option Value)->Bool):Prop
 | mk (dd:Option Addr) (cd:ClassData) (sl:Array (Option Value)) (e:o=some ⟨.type "type", dd,.cls cd,sl⟩) (q:A dd cd sl=true)
inductive ExcR (x:List Value)(y:List (Option Value))(A:Addr->List Value->Option Value->Option Value->Option Value->Option Value->String->Option Value->Bool):Prop
 | mk (C':Addr) (bm:List Value) (k0 k1 k2 k3:Option Value) (n:String) (k5:Option Value) (e:x=.ref C'::bm) (f:y=[k0,k1,k2,k3,some (.builtin n),k5]) (q:A C' bm k0 k1 k2 k3 n k5=true)
inductive ExcO (h:Heap)(C:Addr)(bmB:List Value)(newId:String):Prop
 | mk (bm:List Value) (N:Addr) (nm qn:Str) (bs:List Value) (hdct:Bool) (sn:List Str) (sub:List Value) (ab:Bool) (col:Option Bool) (dd:Option Addr) (k0 k1 k2 k3 k5:Option Value) (mN:Str->Option Value)
   (hC:h.get? C=some (excClassObj nm qn C N bs bm hdct sn sub ab col dd k0 k1 k2 k3 k5 newId)) (hN:h.Ns N mN) (hni:mN "__init__" = none) (T:OwnTail h bmB bm)
theorem zoz {o:Option Obj}{A:Option Addr->ClassData->Array (Option Value)->Bool}(q:PySem.W.excIn.match_6 (λ_=>Bool) o A (λ_=>false)=true):ExcD o A:=by
 rcases o with _|⟨c,dd,da,sl⟩
 ·exact absurd q lv
 ·cases c
  all_goals first|exact absurd q lv|skip
  rename_i s
  by_cases hs:s = "type"
  ·subst hs
   cases da
   all_goals first|exact absurd q lv|exact⟨_,_,_,rfl,q⟩
  ·delta PySem.W.excIn.match_6 at q
   exact absurd ((dif_neg hs).symm.trans q) lv
theorem zoB {x:List Value}{y:List (Option Value)}{A:Addr->List Value->Option Value->Option Value->Option Value->Option Value->String->Option Value->Bool}(q:PySem.W.excIn.match_1 (λ_ _=>Bool) x y A (λ_ _=>false)=true):ExcR x y A:=by
 rcases x with _|⟨v,bm⟩
 ·exact absurd q lv
 cases v
 all_goals first|exact absurd q lv|skip
 rcases y with _|⟨k0,_|⟨k1,_|⟨k2,_|⟨k3,_|⟨k4,y⟩⟩⟩⟩⟩
 all_goals first|exact absurd q lv|skip
 rcases k4 with _|k4
 ·exact absurd q lv
 cases k4
 all_goals first|exact absurd q lv|skip
 rcases y with _|⟨k5,_|⟨k6,y⟩⟩
 all_goals first|exact absurd q lv|exact⟨_,_,_,_,_,_,_,_,rfl,rfl,q⟩
theorem zhS {K:PySem.W.Frag}{h:Heap}{C:Addr}{bmB:List Value}{newId:String}(X:K.In h)(q:PySem.W.excIn K C bmB newId=true):ExcO h C bmB newId:=by
 obtain⟨dd,cd,sl,ho,q⟩:=zoz q
 obtain⟨C',bm,k0,k1,k2,k3,n,k5,hm,hs,q⟩:=zoB q
 simp only[lQ,lbO,lb3] at q
 obtain⟨⟨⟨⟨⟨rfl,rfl⟩,hdel⟩,ht⟩,hok⟩,hni⟩:=q
 obtain⟨nm,bs,mro,ns,qn,hd,sn,sub,ab,col,del⟩:=cd
 obtain⟨l⟩:=sl
 dsimp only at hm hdel hok hni hs
 subst hm hdel hs
 exact⟨bm,ns,nm,qn,bs,hd,sn,sub,ab,col,dd,k0,k1,k2,k3,k5,_,X _ _ ho,.of_isNs (PySem.W.isNs_of_in X hok),PySem.W.nsMap_none_of_in X hok hni,PySem.W.tail_of_in X ht⟩
def znE (C:Addr)(E:XK)(t:TA):TS:=λ_ σ H=>t σ H λvs H1=>vs.length<=3/\E (.ref C) none H1
section
variable {P:Program}{w:World}{K:PySem.W.Frag}{mg:Str->Option Value}{base:Heap}{N:List Str}{qual:Str}{scope:Scope}{f:Addr}{cd:Value}{A:Around}{outer:List Env}{s₁:Shared}{H₁:Hp}{E:XK}
theorem zjS {x:Str}{e₀:Expr}{rest:List Expr}{np cpos pos:Pos}{t:TA}(O:Own K mg x)(hg:Gl (jc (CX1 P w) P w K mg base N qual scope f cd A outer s₁ H₁ E) x)
  (ha:PA (jc (CX1 P w) P w K mg base N qual scope f cd A outer s₁ H₁ E) (e₀::rest) t)
  (he:starEach (e₀::rest) (jc (CX1 P w) P w K mg base N qual scope f cd A outer s₁ H₁ E).env=(false,eval e₀ (jc (CX1 P w) P w K mg base N qual scope f cd A outer s₁ H₁ E).env)::starEach rest (jc (CX1 P w) P w K mg base N qual scope f cd A outer s₁ H₁ E).env:=by rfl)
  (hpl:(backTo cpos (starEach rest (jc (CX1 P w) P w K mg base N qual scope f cd A outer s₁ H₁ E).env)).any (·.1)=false:=by rfl) (hd:(x == ("__debug__" : Str))=false:=by decide) :
  PS (jc (CX1 P w) P w K mg base N qual scope f cd A outer s₁ H₁ E) (.Raise (some (.Call (.Name x np) (e₀::rest) [] cpos)) none pos) (znE O.C E t):=by
 intro pins s σ H D I h
 obtain⟨tl,Na,nm,q,bs,hdct,sn,sub,ab,col,dd,k0,k1,k2,k3,k5,mN,hC,hN,hni,T⟩:=zhS I.ok.mod.kin O.exc
 refine wpAny_Raise_call_subT (C:=O.C) (nm:=nm) (q:=q) (N:=Na) (bs:=bs) (bm:=tl) (hdct:=hdct) (sn:=sn) (sub:=sub) (ab:=ab) (col:=col) (dd:=dd) (k0:=k0) (k1:=k1) (k2:=k2) (k3:=k3) (k5:=k5)
  lb4 (mN:=mN) (T.hasType lb4.hasBase) (I.ok.hd rfl) (by rw[he];show(false || (backTo cpos (starEach rest (jc (CX1 P w) P w K mg base N qual scope f cd A outer s₁ H₁ E).env)).any (·.1))=false;rw[hpl];rfl) hni (zbn I hg O.mgx ⟨rfl,?_⟩ hd)
 have h':=ha cpos pins s σ H _ I h
 rw[he] at h' ⊢
 refine lcI (lai h' (λus s₂ ⟨vs,H2,I2,r,hz,q⟩=>⟨rfl,?_,I2.bk _ _ hC,hN.keeps I2.bk,T.keeps I2.bk,λh'' e hm=>ziT I2 rfl rfl rfl hm q⟩) λ_ _ y=>y)
 rw[← r.length,lbm]
 omega
end
def excAt (a C:Addr):HO:=.ext λh=>∃o,h.get? a=some o/\o.cls=.ref C
abbrev Cx.hand (X:Cx)(a:Addr):Cx:={X with A:=X.A.mark (some (.ref a)),calm:=false,xe:=λ_ _=>False}
section
variable {X:Cx}{pins:List (Addr×Obj)}{σ:St}{H:Hp}{s:Shared}
theorem Cx.Ok.hand (ok:X.Ok)(a:Addr):(X.hand a).Ok :=
 ⟨ok.mod,ok.kind,ok.glob,ok.blt,ok.above,ok.inj,ok.has,ok.cab,λz=>(by cases z),ok.frames,ok.stk,ok.exf,ok.bs,ok.bsz,ok.noex,ok.exfs,ok.funs,ok.frf⟩
theorem Inv.hand (I:Inv X pins σ H s)(a:Addr):Inv (X.hand a) pins σ H s:=⟨I.ok.hand a,I.os,I.bare,I.base,I.loc,I.cell,I.free,I.freeC,I.pin,I.hok,I.len⟩
theorem Inv.unhand {a:Addr}(ok:X.Ok)(I:Inv (X.hand a) pins σ H s):Inv X pins σ H s:=⟨ok,I.os,I.bare,I.base,I.loc,I.cell,I.free,I.freeC,I.pin,I.hok,I.len⟩
theorem Inv.gone {h':Heap}{m':Str->Option Value}{t':Nat}(I:Inv X pins σ H s)(hn:h'.Ns X.env.locals m')(hs:Heap.SameBut X.env.locals s.heap h'):Inv X pins (List.replicate X.N.length none) H {s with heap:=h',toks:=t'}:=by
 have cne:=I.cne
 obtain⟨m,hn0,hl⟩:=id I.loc
 obtain⟨oL,_,_,hoL,_⟩:=id hn0
 refine⟨I.ok,I.os,I.bare,⟨λb o e n hb hx=>?_,λb o e n hb hx=>?_,I.base.free,λb o e hx=>?_,I.base.tups,I.base.frzs,I.base.tbls⟩,⟨m',hn,λj y v' e1 e2 e3=>?_⟩,λy c e=>?_,I.free,I.freeC,λp hp=>?_,λb ob e=>?_,by simp⟩
 ·exact(hs.2 b (lU (lm (lu e) I.ok.above))).trans (I.base.keep b o e n hb hx)
 ·obtain⟨sl,e1⟩:=I.base.slot b o e n hb hx
  exact⟨sl,(hs.2 b (lU (lm (lu e) I.ok.above))).trans e1⟩
 ·obtain⟨o',e1⟩:=I.base.there b o e hx
  exact⟨o',(hs.2 b (lU (lm (lu e) I.ok.above))).trans e1⟩
 ·rw[laK] at e2
  split at e2 <;>cases e2
 ·obtain⟨w',z⟩:=I.cell y c e
  exact⟨w',z.sameBut hs (cne y c e)⟩
 ·obtain⟨e,n,ne,nf,d⟩:=I.pin p hp
  exact⟨(hs.2 p.1 ne).trans e,n,ne,nf,d⟩
 ·refine(I.hok b ob e).stay (λc w' hc q=>(hs.2 c ?_).trans q) (λ_ q=>q) λ_ _ q=>q
  rintro rfl
  rcases hc with z|hc
  ·rw[← z,I.free] at e;cases e
  ·rw[I.free] at hc;cases hc
end
section
variable {M:Model}{A:Around}{E:Value->Shared->Prop}{s:Shared}
theorem zcQ {K:PySem.W.Frag}{e C C0:Addr}{oe:Obj}{Q:Bool->Shared->Prop}(X:K.In s.heap)(he:s.heap.get? e=some oe)(hc:oe.cls=.ref C)
  (x0:PySem.W.excIn K C0 [.type "ValueError", .type "Exception", .type "BaseException", .type "object"] "ValueError.__new__" = true) (sub:PySem.W.subIn K (.ref C) (.ref C0)=some true) (h:Q true s):wpAny M A (excMatches (.ref e) (.ref C0)) Q E s:=by
 obtain⟨tl,Na,nm,q,bs,hdct,sn,sub',ab,col,dd,k0,k1,k2,k3,k5,mN,hC,hN,hni,T⟩:=zhS X x0
 have hcB:(Value.ref C0::tl).contains (.type "BaseException")=true:=by rw[List.contains_cons,T.hasType lb4.hasBase,Bool.or_true]
 have L:PySem.W.Looks M s.heap (isSubtype (.ref C) (.ref C0)) true:=lcR X sub
 obtain⟨hp,g,d,tk,os⟩:=s
 have f:=tc_notTuple
 unfold excMatches
 repeat (first|(with_reducible refine lbj he ?_;rw[hc])|with_reducible refine lbj hC ?_|(with_reducible refine wpAny_isSubtype_exc hC ?_;rw[hcB])|wp_step)
 refine L.at ?_
 repeat wp_step
 exact h
end
theorem zkv {P:Program}{w:World}{H:Hp}{h:Heap}{a:Addr}{o:HO}(x:ObjOk P w H h a o):∃ob,h.get? a=some ob:=by
 cases o with
 | lst xs=>obtain⟨_,_,_,_,e⟩:=x;exact⟨_,e⟩
 | tup xs=>obtain⟨_,_,_,ob,e,_⟩:=x;exact⟨_,e⟩
 | dK kvs=>obtain⟨_,_,_,_,o,_,_,e,_⟩:=x;exact⟨_,e⟩
 | dT kvs=>obtain⟨_,_,_,_,o,_,_,e,_⟩:=x;exact⟨_,e⟩
 | set S n=>obtain⟨o,_,_,_,e,_⟩:=x;exact⟨_,e⟩
 | ins C dx fs=>obtain⟨_,_,_,e,_⟩:=x;exact⟨_,e⟩
 | own y=>exact x
 | xd fs=>obtain⟨_,⟨_,_,_,e,_⟩,_⟩:=x;exact⟨_,e⟩
 | rng lo hi=>obtain⟨_,_,_,e⟩:=x;exact⟨_,e⟩
 | frz ob u=>obtain⟨e,_⟩:=x;exact⟨_,e⟩
 | tbl ps=>exact⟨_,x⟩
 | met f y=>exact⟨_,x⟩
 | ext φ=>obtain⟨_,e,_⟩:=x;exact e
theorem zgq {outer:List Env}{H H':Hp}{B h h':Heap}(frf:∀b∈frs outer,H b=none)
  (h1:∀b o,h.get? b=some o->b∉frs outer->∃o',B.get? b=some o'/\(H b=none->o'=o)) (h2:∀b o,h.get? b=some o->b∈frs outer->∃sl,h'.get? b=some {o with slots:=sl})
  (h3:∀b o,h.get? b=some o->H b=none->H' b=none) (h4:∀b xs,H b=some (.tup xs)->H' b=some (.tup xs)) (h5:∀b o u,H b=some (.frz o u)->H' b=some (.frz o u)) (h6:∀b ps,H b=some (.tbl ps)->∃more,H' b=some (.tbl (ps++more)))
  (st:B.StaysIn h'):Un (frs outer) [] H H' h h':=by
 refine⟨λb o e n hb _=>?_,λb o e n hb _=>h2 b o e hb,λb o e n _=>h3 b o e n,λb o e _=>?_,h4,h5,h6⟩
 ·obtain⟨o',e1,k⟩:=h1 b o e hb
  rw[← k n]
  exact st b o' e1
 ·by_cases hb:b∈frs outer
  ·obtain⟨sl,e1⟩:=h2 b o e hb
   exact⟨_,e1⟩
  ·obtain⟨o',e1,_⟩:=h1 b o e hb
   exact⟨o',st b o' e1⟩
section
variable {X:Cx}{pins:List (Addr×Obj)}{σ:St}{H:Hp}{s s':Shared}{E:XK}{e:Value}{x n:Str}{i:Nat}{b₀:Stmt}{suite:List Stmt}{th:TS}{D:Ends}{np pos:Pos}{rest:List ExceptHandler}
def zgR (K:PySem.W.Frag)(C0:Addr)(i:Nat)(th:TS)(D:Ends)(σ:St):XK:=λcls _ H'=>∃C,cls=.ref C/\PySem.W.subIn K (.ref C) (.ref C0)=some true /\
 ∀a,H' a=none->th {nx:=λ_ _=>False,rt:=D.rt} (σ.set i (some (.ref a))) (upd H' a (excAt a C))
theorem caught (I:Inv X pins σ H s)(hst:X.stack=X.env::X.outer)(hfr:X.env.frame=some X.env.locals)(O:Own X.K X.mg x)(hg:Gl X x)(hN:X.N.Nodup)(hi:X.N[i]? = some n)(hlo:X.env.scope.names.lookup n=some .local)
  (hs:∀a,PSs (X.hand a) (b₀::suite) th) (hf:zd9 X.prog X.w X.stack H s (zgR X.K O.C i th D σ) e s') (hd:(x == ("__debug__" : Str))=false:=by decide) :
  wpAny (model X.prog X.w) X.A (noteFrame e X.env) (λ_ s₂=>wpAny (model X.prog X.w) X.A (setFlight e none) (λ_ s₃ =>
   wpAny (model X.prog X.w) X.A (handleBy e X.env (.ExceptHandler (some (.Name x np)) (some n) (b₀::suite) pos::rest)) (SP X pins D) X.xe s₃) X.xe s₂) X.xe s':=by
 have hstk:frs X.stack=X.env.locals::frs X.outer:=by rw[hst];exact zdW hfr
 obtain⟨a,C,a0,H',B,rfl,hos,hbare,h1,h2,h3,h4,h5,h6,hok,fly,C',eC,sub,kk⟩:=hf
 cases eC
 have fly':Heap.FlyingW B (X.env::X.outer) a (.ref C) a0 s'.heap:=by rw[← hst];exact fly
 have ffr:∀b∈frs X.stack,∃o,s'.heap.get? b=some o/\∀vs,o.data≠.fields vs:=λb hb=>(fly.2.2.1.mem hb).2
 have slots:∀{h':Heap},s'.heap.UpToSlots h'->∀b o,s.heap.get? b=some o->b∈frs X.stack->∃sl,h'.get? b=some {o with slots:=sl}:=λ{h'} u b o q hb=>by
  obtain⟨sl,e1⟩:=h2 b o q hb
  obtain⟨o2,e2,nf⟩:=ffr b hb
  rw[e1] at e2
  obtain rfl:=lc e2
  obtain⟨sl2,e3⟩:=u b _ e1 nf
  exact⟨sl2,e3⟩
 refine wpAny_looks_onW (I.ok.frames.trans (by rw[hst])) hfr fly' λh₄ held₄ sm₄=>?_
 refine wpAny_landsW held₄ λh₅ fly₅ sm₅=>?_
 have sm5:=sm₄.trans sm₅
 have I5:Inv X pins σ H' {s' with heap:=h₅}:=I.call' hos (zgq I.stkFree h1 (slots sm5) h3 h4 h5 h6 fly₅.1) (hok.kept fly₅.1) hbare (λ_ z=>nomatch z)
 obtain⟨ob,hob,hobc⟩:=fly₅.there
 refine wpAny_handleBy_cons (codeAny_handlers_test (zbn (X:=X.hand a) (I5.hand a) hg O.mgx ?_ hd)) (by intro q;cases q)
 refine zcQ I5.kIn hob hobc O.exc sub ?_
 refine codeAny_handlers_suite_as ?_
 refine lands_againW fly₅ λh₆ fly₆ sm₆=>?_
 have sm6:=sm5.trans sm₆
 have hBa:B.get? a=none:=fly₆.2.1
 obtain⟨oe,vs,he6,hec,hed,_⟩:=fly₆.first
 have hnew:∀o,s.heap.get? a≠some o:=λo q=>by
  by_cases hb:a∈frs X.stack
  ·obtain⟨_,o2,e2,nf⟩:=fly₆.2.2.1.mem (by rw[← hst];exact hb)
   rw[he6] at e2
   obtain rfl:=lc e2
   exact nf vs hed
  ·obtain⟨o',e1,_⟩:=h1 a o q hb
   rw[hBa] at e1;cases e1
 have hHa:H' a=none:=by
  cases q:H' a with
  | none=>rfl
  | some o =>
   obtain⟨o2,e2⟩:=zkv (hok a o q)
   rw[hBa] at e2;cases e2
 have ok6:HOk X.prog X.w (upd H' a (excAt a C)) h₆:=λb o q=>by
  by_cases hb:b=a
  ·subst hb
   rw[zK] at q
   obtain rfl:=lc q
   exact⟨⟨oe,he6,hec⟩,⟨oe,he6⟩,λk1 k2 ⟨o1,e1,c1⟩ kk=>⟨o1,kk o1 e1,c1⟩⟩
  ·rw[zF hb] at q
   exact(hok b o q).stay (λc u _ e1=>fly₆.1 c u e1) (λc e1=>by rw[zF (yK e1 hHa)];exact e1) λc xs e1=>by rw[zF (yK e1 hHa)];exact e1
 have un6:Un (frs X.stack) [] H (upd H' a (excAt a C)) s.heap h₆:=zgq I.stkFree h1 (slots sm6) (λb o q nn=>by
   have hba:b≠a:=λz=>by rw[z] at q;exact hnew o q
   rw[zF hba];exact h3 b o q nn)
  (λb xs q=>by rw[zF (yK (h4 b xs q) hHa)];exact h4 b xs q) (λb o u q=>by rw[zF (yK (h5 b o u q) hHa)];exact h5 b o u q)
  (λb ps q=>by obtain⟨m,q2⟩:=h6 b ps q;exact⟨m,by rw[zF (yK q2 hHa)];exact q2⟩) fly₆.1
 have I6:Inv X pins σ (upd H' a (excAt a C)) {s' with heap:=h₆}:=I.call' hos un6 ok6 hbare (λ_ z=>nomatch z)
 refine zbK (X:=X.hand a) (I6.hand a) hN hi (.inl hlo) (v:=.ref a) rfl (λs₇ I7=>?_) (.inr hlo)
 refine lai (hs a pins s₇ _ _ _ I7 (kk a hHa)) (λf s₈ h8=>?_) λ_ _ z=>False.elim z
 cases f with
 | ret u =>
  obtain⟨v,σ',H'',J,rv,q⟩:=h8
  have J':Inv X pins σ' H'' s₈:=J.unhand I.ok
  obtain⟨m,hn0,_⟩:=id J'.loc
  have hcls:(X.env.scope.kind == .class || (X.env.scope.kind == .module&&X.env.locals != X.env.globals))=false:=by rw[I.ok.kind];rfl
  exact wpAny_nameGoes hlo hn0 hcls λh9 m9 n9 s9=>⟨v,_,H'',J'.gone n9 s9,rv,q⟩
 | next=>obtain⟨_,_,_,z⟩:=h8;exact False.elim z
 | brk=>obtain⟨_,_,_,z⟩:=h8;exact False.elim z
 | cont=>obtain⟨_,_,_,z⟩:=h8;exact False.elim z
end
structure ExcK (K:PySem.W.Frag)(C:Addr):Prop where
 ga:PySem.W.findIn K (.ref C) "__getattribute__" = some (some (.builtin "BaseException.__getattribute__"))
 gt:PySem.W.findIn K (.ref C) "__getattr__" = some none
 cl:PySem.W.findIn K (.ref C) "__class__" = some (some (.builtin "object.__class__"))
 be:PySem.W.subIn K (.ref C) (.type "BaseException")=some true
 ob:PySem.W.subIn K (.ref C) (.type "object")=some true
 is:(PySem.W.clsIn K C).isSome=true
section
variable {prog:Program}{w:World}{A:Around}{E:Value->Shared->Prop}{h:Heap}{g:Array GenState}{d:Drawn}{t:Nat}{os:OsState}{K:PySem.W.Frag}{a C:Addr}{o:Obj}
theorem zdN {R:Result->Shared->Prop}(z:ExcK K C)(X:K.In h)(hx:h.get? a=some o)(hc:o.cls=.ref C)(hq:R (.ok (.ret (.ref C))) ⟨h,g,d,t,os⟩) :
  codeAny (model prog w) A (.call (.builtin "getset_descriptor.__get__") ⟨[.builtin "object.__class__", .ref a,.ref C],[]⟩) R ⟨h,g,d,t,os⟩:=by
 have hT5:(⟨h,g,d,t,os⟩:Shared).TypeIs (.builtin "object.__class__") "getset_descriptor" := lcF
 have L:PySem.W.Looks (model prog w) h (isSubtype (.ref C) (.type (".".intercalate ("object.__class__".cutAt '.').dropLast))) true:=by
  rw[F.owner_object_class]
  exact lcR X z.ob
 refine codeAny_call_builtin F.slot_gs_get.plain F.entry_gs_get (F.slot_gs_get.check _ _ _ _ _ _ _ _ hT5 (F.args_gs_get _ _ _) ?_)
 repeat (any_goals (first|assumption|(with_reducible refine lbj hx ?_;rw[hc])|with_reducible refine lcf L ?_|wp_step))
 refine⟨Code.quiet_builtin _ (by decide +kernel),lcq F.entry_object_class ?_⟩
 repeat (any_goals (first|assumption|(with_reducible refine lbj hx ?_;rw[hc])|wp_step))
theorem zb8 {tk:Tok}{Q:Fin->Shared->Prop}(z:ExcK K C)(X:K.In h)(hx:h.get? a=some o)(hc:o.cls=.ref C)(hq:Q (.done (.ret (.ref C))) ⟨h,g,d,t,os⟩) :
  wpAny (model prog w) A (Builtin.«object.__getattribute__» ⟨[.ref a,.str "__class__" tk],[]⟩) Q E ⟨h,g,d,t,os⟩:=by
 have hT5:(⟨h,g,d,t,os⟩:Shared).TypeIs (.builtin "object.__class__") "getset_descriptor" := lcF
 have L:PySem.W.Looks (model prog w) h (typeLookup (.ref C) "__class__") (some (.builtin "object.__class__")):=lb5 X z.cl
 have f5:=lcF
 have f6:=F.slot_gs_get.lookup
 have f7:=F.slot_gs_set.lookup
 repeat (any_goals (first|assumption|(with_reducible refine lbj hx ?_;rw[hc])|with_reducible refine lcf L ?_|wp_step))
 refine zdN z X hx hc ?_
 repeat (any_goals (first|assumption|wp_step))
theorem zil {M:Model}{nameV:Value}{Q:Unit->Shared->Prop}(z:ExcK K C)(X:K.In h)(hx:h.get? a=some o)(hc:o.cls=.ref C)(hq:Q () ⟨h,g,d,t,os⟩):wpAny M A (checkBuiltinCall "BaseException.__getattribute__" ⟨[.ref a,nameV],[]⟩) Q E ⟨h,g,d,t,os⟩:=by
 have hk:builtinKind "BaseException.__getattribute__" = some .slot:=by decide +kernel
 have hsplit:splitId "BaseException.__getattribute__" = some ("BaseException", "__getattribute__"):=by decide +kernel
 have L:PySem.W.Looks M h (isSubtype (.ref C) (.type "BaseException")) true:=lcR X z.be
 have ha:=F.args_bexc_ga (.ref a) nameV
 simp only[checkBuiltinCall,hk,hsplit]
 refine la ?_
 unfold isInstance
 repeat (first|(with_reducible refine lbj hx ?_;rw[hc])|with_reducible refine lcf L ?_|wp_step)
 exact hq
theorem zcM {tk:Tok}{R:Result->Shared->Prop}(z:ExcK K C)(X:K.In h)(hx:h.get? a=some o)(hc:o.cls=.ref C)(hq:R (.ok (.ret (.ref C))) ⟨h,g,d,t,os⟩) :
  codeAny (model prog w) A (.call (.builtin "BaseException.__getattribute__") ⟨[.ref a,.str "__class__" tk],[]⟩) R ⟨h,g,d,t,os⟩ :=
 codeAny_call_builtin F.excAttr_ValueError.ga.plain F.entry_bexc_ga (zil z X hx hc (zb8 z X hx hc hq))
theorem zeq {tk:Tok}{Q:Value->Shared->Prop}(z:ExcK K C)(X:K.In h)(hx:h.get? a=some o)(hc:o.cls=.ref C)(hq:Q (.ref C) ⟨h,g,d,t,os⟩):wpAny (model prog w) A (getAttrBy (.ref a) (.str "__class__" tk) false) Q E ⟨h,g,d,t,os⟩:=by
 have f3:=F.excAttr_ValueError.ga.bind (.ref a)
 have hx2:(Value.builtin "BaseException.__getattribute__" == Value.builtin "object.__getattribute__")=false:=by decide +kernel
 have hx1:(onTheHeap (Value.ref C)&&Value.builtin "BaseException.__getattribute__" == Value.builtin "object.__getattribute__")=false:=by rw[hx2];rfl
 have L1:PySem.W.Looks (model prog w) h (typeLookup (.ref C) "__getattribute__") (some (.builtin "BaseException.__getattribute__")):=lb5 X z.ga
 have L2:PySem.W.Looks (model prog w) h (typeLookup (.ref C) "__getattr__") none:=lb5 X z.gt
 repeat (any_goals (first|assumption|(with_reducible refine lbj hx ?_;rw[hc])|with_reducible refine lcf L1 ?_|with_reducible refine lcf L2 ?_|wp_step))
 refine zcM z X hx hc ?_
 repeat (any_goals (first|assumption|wp_step))
theorem zcT {Q:Option Value->Shared->Prop}(z:ExcK K C)(X:K.In h)(hx:h.get? a=some o)(hc:o.cls=.ref C)(hq:Q (some (.ref C)) ⟨h,g,d,t+1,os⟩):wpAny (model prog w) A (getAttr? (.ref a) "__class__") Q E ⟨h,g,d,t,os⟩:=by
 unfold getAttr? getAttrBy?
 repeat (any_goals (first|assumption|with_reducible apply zeq z X hx hc|wp_step))
end
theorem zgj {K:PySem.W.Frag}{a C:Addr}(z:ExcK K C):PySem.W.KitX K (.ref a) (.ref C) (λh=>∃o,h.get? a=some o/\o.cls=.ref C) where
 ty:=λM h X ⟨o,h1,h2⟩=>h2▸(PySem.W.Looks.ld h1).andThen .now
 it := λ_ _ X _=>by
  have hcD:=z.is
  unfold PySem.W.clsIn at hcD
  split at hcD
  ·rename_i c' d' cd' sl' ho
   intro A' Q' E' s' k q
   unfold isType loadHead
   exact la (wpAny_loadPart (k _ _ (X _ _ ho)) (lj q))
  ·cases hcD
 ne := λh tp dd its n sl X htp=>by
  have hcD:=z.is
  refine Bool.eq_false_iff.mpr λq=>?_
  have e:C=tp:=Value.ref.inj (lbO.mp q)
  subst e
  unfold PySem.W.clsIn at hcD
  split at hcD
  ·rename_i c' d' cd' sl' ho
   have z:=(X _ _ ho).symm.trans htp
   cases z
  ·cases hcD
 ca:=λ{_ _ _ _ _ s} X ⟨o,h1,h2⟩ k=>by
  obtain⟨h,g,d,t,os⟩:=s
  exact zcT z X h1 h2 k
section
variable {X:Cx}
theorem zed:jb X (.builtin "isinstance") (λxs H Q=>∃a C v b,xs=[.ref a,v]/\H a=some (excAt a C)/\ExcK X.K C/\((∃C',v=.ref C'/\PySem.W.kitOne X.K (.ref C) (.ref C')=some b)∨(∃n,v=.ty n/\PySem.W.kitOne X.K (.ref C) (.type n)=some b))/\Q (.bl b) H):=by
 intro pins s σ H xs us Q I r h
 obtain⟨a,C,v,b,rfl,ha,z,hv,q⟩:=h
 obtain⟨u,u2,rfl,ru,r2⟩:=vals2 r
 cases ru
 have fin:∀tk,EP X pins σ Q (.bool b) {s with toks:=tk}:=λtk=>⟨.bl b,H,I.tok _,rfl,q⟩
 have hx:∃o,s.heap.get? a=some o/\o.cls=.ref C:=(I.hok a _ ha).1
 rcases hv with⟨C',rfl,e⟩|⟨n,rfl,e⟩
 ·cases r2
  exact lbo (zgj z) I.kIn hx e (λz=>nomatch z) fin
 ·cases r2
  exact lbo (zgj z) I.kIn hx e (λz=>nomatch z) fin
end
section
variable {X:Cx}{CX:CXT}{k:Nat}{f:Addr}{fd:FuncData}{ps:List Str}{sp:Sp}{E:XK}{x y n:Str}{p np cpos rpos hpos pos:Pos}{e:Expr}{es:List Expr}{t:TA}{i:Nat}{b₀:Stmt}{suite:List Stmt}{th:TS}{more:List ExceptHandler}
theorem zkV {pins:List (Addr×Obj)}{σ:St}{H:Hp}{s:Shared}{Q:VK}{us:List Value}{vs:List V}{F':Value->Shared->Prop}(F:FnOk X.prog X.w X.K X.mg X.base CX k f fd ps sp)(hr:Room k X.A)(hb:Binds X.K fd ps [])
  (hx:∀H s e s',Inv X pins σ H s->CX X.stack H s E e s'->F' e s') (I:Inv X pins σ H s) (r:Vals vs us) (h:sp vs H Q E):wpAny (model X.prog X.w) X.A (call (.ref f) us) (EP X pins σ Q) F' s:=by
 have hl:us.length=ps.length:=by rw[← r.length];exact F.len _ _ _ _ h
 have hb':=hb s us I.kIn (by rw[lD];exact hl)
 rw[lD] at hb'
 refine wpAny_call (lci (F.run X.A X.stack s H ⟨us,[]⟩ us vs Q E hr I.env0 hb' r h) λr s' hq=>?_)
 cases r with
 | error e=>exact hx H s e s' I hq
 | ok fl =>
  cases fl with
  | ret u=>exact I.after hq
  | next=>exact False.elim hq
  | brk=>exact False.elim hq
  | cont=>exact False.elim hq
end
structure RoomH (k:Nat)(A:Around):Prop where
 dp:A.depth+3*k+5<recursionLimit
 un:A.units+16*k+200<cLine
abbrev Around.calm0 (A:Around):Around:={A with handled:=none}
theorem Room.hand {k:Nat}{A:Around}(r:Room k A)(v:Option Value):RoomH k (A.mark v):=⟨r.dp,r.un⟩
theorem RoomH.mono {j k:Nat}{A:Around}(r:RoomH k A)(h:j<=k):RoomH j A:=⟨by have:=r.dp;omega,by have:=r.un;omega⟩
theorem RoomH.off {k:Nat}{A:Around}(r:RoomH (k+1) A)(env:Env):Room k ((Around.calm0 A).deeper env) :=
 ⟨rfl,by have:=r.dp;show A.depth+1+3*k+5<_;omega,by have:=r.un;show A.units+3+16*k+200<_;omega⟩
structure FnOkH (P:Program)(w:World)(K:PySem.W.Frag)(mg:Str->Option Value)(base:Heap)(k:Nat)(f:Addr)(fd:FuncData)(ps:List Str)(sp:Sp):Prop where
 len:∀vs H Q E,sp vs H Q E->vs.length=ps.length
 run:∀(A:Around) (outer:List Env) (s:Shared) (H:Hp) (args:Args) (us:List Value) (vs:List V) (Q:VK),RoomH k A->Env0 P w K mg base A outer s H->BindsTo s fd args (ps.zip us)->Vals vs us->sp vs H Q E0 ->
  codeAny (model P w) A (.call (.ref f) args) (CR CX0 outer P w H s Q E0) s
abbrev zhC (P:Program)(w:World)(K:PySem.W.Frag)(mg:Str->Option Value)(base:Heap)(N:List Str)(qual:Str)(scope:Scope)(f:Addr)(cd:Value)(A:Around)(outer:List Env)(s:Shared)(H:Hp):Cx :=
 { (jc CX0 P w K mg base N qual scope f cd A outer s H E0) with calm:=false,xe:=λ_ _=>False}
theorem znL {P:Program}{w:World}{K:PySem.W.Frag}{mg:Str->Option Value}{base:Heap}{k:Nat}{f:Addr}{name qual:Str}{params:Arguments}{body:List Stmt}{scope:Scope}{dV kV doc pm cdv ct oc:Value}{an od:Option Addr}
  {osl:Array (Option Value)}{N ps:List Str}{sp:Sp} (lk:K.lookup f=some ⟨oc,od,.func (PySem.W.fnOf name qual params body scope dV kV doc pm an cdv ct),osl⟩) (hcd:PySem.W.codeIn K cdv qual=true) (S:FnScope N ps scope)
  (len:∀vs H Q E,sp vs H Q E->vs.length=ps.length)
  (hbody:∀(A:Around) (outer:List Env) (s:Shared) (H:Hp) (vs:List V) (Q:VK),Room k ((Around.calm0 A).deeper (envOfC qual scope s.heap.objs.size f cdv))->sp vs H Q E0 ->
   ∃t,PSs (zhC P w K mg base N qual scope f cdv A outer s H) body t/\t {nx:=λ_ H'=>Q .non H',rt:=Q} (start N vs) H) :
  FnOkH P w K mg base (k+1) f (PySem.W.fnOf name qual params body scope dV kV doc pm an cdv ct) ps sp:=by
 refine⟨len,λA outer s H args us vs Q hr e0 hb r hsp=>?_⟩
 have hl:=len _ _ _ _ hsp
 have KX:K.In s.heap:=e0.mod.kin.keeps λb o e=>(e0.bs b o e).1
 have lim:s.heap.NoLimit:=e0.mod.nolimit.keeps λb o e=>(e0.bs b o e).1
 have hkind:∀y∈ps.zip us,scope.names.lookup y.1=some .local∨(scope.names.lookup y.1=some .cell/\((cellsFrom (s.heap.objs.size+1) scope.names []).lookup y.1).isSome=true):=λ⟨n,v⟩ hy=>by
  rcases S.par n (lbE hy).1 with q|q
  ·exact .inl q
  ·exact .inr ⟨q,lcv _ _ _ (.inl q)⟩
 have hdp:A.depth<recursionLimit:=by have:=hr.dp;omega
 refine codeAny_call_function hdp (KX _ _ lk) rfl S.co S.gen rfl (PySem.W.codeRec_of KX hcd) (hb _ _ _ _ ?_)
 refine wpAny_newFunctionEnv_cells S.kind hkind λenv he s1 x=>?_
 subst he
 refine⟨lim.keeps x.toInCall.keep,codeAny_func ?_⟩
 obtain⟨t,ht,hq⟩:=hbody A outer s H vs Q (hr.off _) hsp
 have e0':Env0 P w K mg base (Around.calm0 A) outer s H:=⟨e0.frames,e0.mod,e0.bs,e0.bsz,e0.funs,e0.frf,e0.hok,e0.bare⟩
 have I0:Inv (jc CX0 P w K mg base N qual scope f cdv (Around.calm0 A) outer s H E0) [] (start N vs) H s1:=zeh S rfl e0' hl r x
 have ok:=I0.ok
 have I:Inv (zhC P w K mg base N qual scope f cdv A outer s H) [] (start N vs) H s1 :=
  ⟨⟨ok.mod,ok.kind,ok.glob,ok.blt,ok.above,ok.inj,ok.has,ok.cab,λz=>(by cases z),ok.frames,ok.stk,ok.exf,ok.bs,ok.bsz,ok.noex,ok.exfs,ok.funs,ok.frf⟩,I0.os,I0.bare,I0.base,I0.loc,I0.cell,I0.free,I0.freeC,I0.pin,I0.hok,I0.len⟩
 refine lai (ht [] s1 (start N vs) H _ I hq) (λfl s' hs=>?_) λe s' hs=>False.elim hs
 have fin:∀{σ':St}{H':Hp}{v:V}{u:Value},Inv (zhC P w K mg base N qual scope f cdv A outer s H) [] σ' H' s'->RelV v u->Q v H'->CE outer P w H s Q u s' :=
  λ{σ' H' v u} J rv q=>⟨v,H',J.os,J.bare,J.base,J.hok,rv,q⟩
 cases fl with
 | ret u =>
  obtain⟨v,σ',H',J,rv,q⟩:=hs
  exact fin J rv q
 | next =>
  obtain⟨σ',H',J,q⟩:=hs
  exact fin (v:=V.non) (u:=Value.none) J rfl q
 | brk =>
  obtain⟨_,_,_,q⟩:=hs
  exact False.elim q
 | cont =>
  obtain⟨_,_,_,q⟩:=hs
  exact False.elim q
theorem Fun.okH {P:Program}{w:World}{K:PySem.W.Frag}{mg:Str->Option Value}{base:Heap}{x qual:Str}{st:Stmt}{f:Addr}{fd:FuncData}{N ps:List Str}{k:Nat}{sp:Sp}(F:Fun K x qual st f fd)(S:FnScope N ps (zm st))(len:∀vs H Q E,sp vs H Q E->vs.length=ps.length)
  (hbody:∀(cdv:Value) (A:Around) (outer:List Env) (s:Shared) (H:Hp) (vs:List V) (Q:VK),Room k ((Around.calm0 A).deeper (envOfC qual (zm st) s.heap.objs.size f cdv))->sp vs H Q E0 ->
   ∃t,PSs (zhC P w K mg base N qual (zm st) f cdv A outer s H) (xq st) t/\t {nx:=λ_ H'=>Q .non H',rt:=Q} (start N vs) H):FnOkH P w K mg base (k+1) f fd ps sp:=by
 obtain⟨oc,od,kV,doc,pm,an,cdv,ct,osl,rfl,lk,hcd⟩:=F.ex
 exact znL lk hcd S len λA outer s H vs Q hr hsp=>hbody cdv A outer s H vs Q hr hsp
section
variable {X:Cx}{k:Nat}{f:Addr}{fd:FuncData}{ps:List Str}{sp:Sp}{x:Str}{p pos:Pos}{e:Expr}{es:List Expr}{t:TA}
theorem zjG (F:FnOkH X.prog X.w X.K X.mg X.base k f fd ps sp)(hr:RoomH k X.A)(hg:Gl X x)(hm:X.mg x=some (.ref f))(hk:PySem.W.keepIn X.K (.ref f)=true)(hb:Binds X.K fd ps [])(ha:PA X (e::es) t)
  (hdb:(x == ("__debug__" : Str))=false:=by decide) (he:starEach (e::es) X.env=(false,eval e X.env)::starEach es X.env:=by rfl) (hpl:(backTo pos (starEach es X.env)).any (·.1)=false:=by rfl) :
  PE X (.Call (.Name x p) (e::es) [] pos) (zoc sp [] E0 t):=by
 intro pins s σ H Q I h
 refine laS (zbn I hg hm ?_ hdb)
 refine lbR (h₀:=X.base) I.ok.mod.kin hk (thn (ha pos pins s σ H _ I h) λus s1 ⟨vs,H1,I1,r,q⟩=>⟨I1.kIn,?_⟩) he hpl
 have q:sp vs H1 Q E0:=by
  have q':sp (vs++[]) H1 Q E0:=q
  rw[lD] at q'
  exact q'
 have hl:us.length=ps.length:=by rw[← r.length];exact F.len _ _ _ _ q
 have hb':=hb s1 us I1.kIn (by rw[lD];exact hl)
 rw[lD] at hb'
 refine wpAny_call (lci (F.run X.A X.stack s1 H1 ⟨us,[]⟩ us vs Q hr I1.env0 hb' r q) λr s' hq=>?_)
 cases r with
 | error e=>exact False.elim hq
 | ok fl =>
  cases fl with
  | ret u=>exact I1.after hq
  | next=>exact False.elim hq
  | brk=>exact False.elim hq
  | cont=>exact False.elim hq
end
theorem zcf:bootBuiltins "ValueError" = some (.type "ValueError"):=PyProof.Rows.Boot.«ValueError»
theorem ze1 {P:Program}{w:World}{X:Cx}:uE (CX1 P w) X E0:=λ_ _ _ _ _ _ _ h=>by
 obtain⟨_,_,_,_,_,_,_,_,_,_,_,_,_,_,_,_,hE⟩:=h
 exact hE.elim
theorem zer {x:V}:∀{xs:List V}{us:List Value},Vals xs us->xs.all um=true->us.countP (eqU x)=xs.countP λy=>eqV y x
 | _,_,.nil,_=>rfl
 | y::xs,u::us,.cons r t,f=>by
  rw[lbe,lQ] at f
  rw[List.countP_cons,List.countP_cons,zgr r f.1,zer t f.2]
theorem zeM {x:V}:∀{xs:List V}{us:List Value},Vals xs us->xs.all um=true->∀(j:Nat) (u:Value),us[j]? = some u->∃y,xs[j]? = some y/\eqU x u=eqV y x
 | _,_,.nil,_=>λj u e=>by simp at e
 | y::xs,u::us,.cons r t,f=>λj v e=>by
  rw[lbe,lQ] at f
  cases j with
  | zero =>
   have:u=v:=by simpa using e
   subst this
   exact⟨y,rfl,zgr r f.1⟩
  | succ j=>exact zeM t f.2 j v (by simpa using e)
end L2
namespace My
theorem Book.cutRows {m:Nat}{B:List (List Nat)}(h:Book m B){rows:List (List Nat)}{left l:List Nat}(hr:∀p∈rows,p∈B)(hf:zi5 B left)(e:rows.flatten++left=l):yI B l=(rows,left):=by
 rw[← e,zf4,h.cutSome rows hr]
 simp only[lao]
 rw[zdL hf]
 simp
end My
namespace L2
open PySem PySem.Spec PyProof.Rows
theorem zgE {a:List Expr}{b}{c:Pos}{es:List Expr}{env:Env}:starEach (.Tuple a b c::es) env=(false,eval (.Tuple a b c) env)::starEach es env:=by rfl
theorem zkh {a:List Expr}{c:Pos}{es:List Expr}{env:Env}:starEach (.List a c::es) env=(false,eval (.List a c) env)::starEach es env:=by rfl
theorem xU {a b:Expr}{o}{c:Pos}{es:List Expr}{env:Env}:starEach (.BinOp a o b c::es) env=(false,eval (.BinOp a o b c) env)::starEach es env:=by rfl
theorem zQ {f:Expr}{a:List Expr}{k}{c:Pos}{es:List Expr}{env:Env}:starEach (.Call f a k c::es) env=(false,eval (.Call f a k c) env)::starEach es env:=by rfl
theorem uD {a b:Expr}{c:Pos}{es:List Expr}{env:Env}:starEach (.Subscript a b c::es) env=(false,eval (.Subscript a b c) env)::starEach es env:=by rfl
theorem zb {a}{c:Pos}{es:List Expr}{env:Env}:starEach (.Name a c::es) env=(false,eval (.Name a c) env)::starEach es env:=by rfl
theorem zms {o}{a:Expr}{c:Pos}{es:List Expr}{env:Env}:starEach (.UnaryOp o a c::es) env=(false,eval (.UnaryOp o a c) env)::starEach es env:=by rfl
theorem zu {a}{k}{c:Pos}{es:List Expr}{env:Env}:starEach (.Constant a k c::es) env=(false,eval (.Constant a k c) env)::starEach es env:=by rfl
section
variable {prog:Program}{w:World}{A:Around}{E:Value->Shared->Prop}{s:Shared}
theorem zav {t sl:Addr}{items:Array Value}{vl vu:Value}{lo hi:Option Int}{Q:Value->Shared->Prop}(ht:IsTup s.heap t items)(hs:s.heap.IsSliceOf sl vl vu .none)(pl:IsPart vl lo)(pu:IsPart vu hi)
  (hw:HT.sIx items.size 0 lo=0/\HT.sIx items.size items.size hi=items.size) (h:Q (.ref t) s):wpAny (model prog w) A (getItem (.ref t) (.ref sl)) Q E s:=by
 obtain⟨os,hos,hcs,hds⟩:=id hs
 have hTs:s.TypeIs (.ref sl) "slice" := ⟨os,hos,hcs⟩
 unfold getItem
 try with_reducible refine laQ ?_
 first|refine la (lj ?_)|skip
 refine la (wpAny_sequenceKey ht.typeIs (by decide) ?_)
 refine la (lM (name:=Str.ofString "__getitem__") ht.typeIs lav
  (lac lav ht.typeIs entry_tuple_getitem ?_ (args_tuple_getitem _ _)))
 show wpAny _ _ (Builtin.Tuple.tupleItemsOf (.ref t) >>= _) _ _ s
 refine la (tupleItemsOf_ ht ?_)
 refine la (lcC hTs ?_)
 rw[lB (by decide)]
 refine la (HT.sliceApplied_gen hs pl pu ?_)
 have hyes:(((HT.sIx items.size 0 lo:Nat):Int) == 0&&(1:Int) == 1&&(HT.sIx items.size items.size hi - HT.sIx items.size 0 lo) == items.size)=true:=by
  rw[hw.1,hw.2]
  simp
 show wpAny _ _ (if (((HT.sIx items.size 0 lo:Nat):Int) == 0&&(1:Int) == 1&&(HT.sIx items.size items.size hi - HT.sIx items.size 0 lo) == items.size)=true then _ else _) _ _ s
 rw[lB hyes]
 refine la (m:=Builtin.Tuple.tupleIsExact (.ref t)) ?_
 unfold Builtin.Tuple.tupleIsExact
 refine la (lcC ht.typeIs (lj ?_))
 rw[lB (by decide)]
 first
  | exact la (lcB (lj ⟨_,rfl,lj h⟩))
  | exact la (lcB (lj ⟨_,rfl,h⟩))
end
section
variable {X:Cx}
def zqP (K:PySem.W.Frag):V->Option Int->Option Int->Hp->VK->Prop:=λx lo hi H Q=>∃a xs,x=.ref a/\SqT K H a xs/\∀p H',Same H H'->SqT K H' p (zij xs lo hi)->Q (.ref p) H'
theorem zlE:SlR X (zqP X.K):=by
 intro pins s σ H x v vl vu lo hi sl Q I rx hs pl pu h
 obtain⟨a,xs,rfl,hx,q⟩:=h
 by_cases hw:HT.sIx xs.length 0 lo=0/\HT.sIx xs.length xs.length hi=xs.length
 ·cases rx
  obtain⟨its,r,ht,hz⟩:=I.tuple hx
  have hlen:its.toArray.size=xs.length:=by rw[lG];exact r.length.symm
  refine⟨"tuple", _,lav.lookup,ht.typeIs,zav ht hs pl pu (by rw[hlen];exact hw) ⟨.ref a,H,I,rfl,q a H (Same.refl _) ?_⟩⟩
  have:zij xs lo hi=xs:=by
   unfold zij
   rw[hw.1,hw.2,lb9,ldn,lcH]
  rw[this]
  exact hx
 ·exact zoK pins s σ H (.ref a) v vl vu lo hi sl Q I rx hs pl pu ⟨a,xs,rfl,hx,hw,λp hp=>q p _ (Same.upd hp) (SqT.of zK)⟩
end
end L2
set_option maxHeartbeats 2000000
namespace L2
open PySem PySem.Spec PyProof.Rows
section
variable {X:Cx}{pins:List (Addr×Obj)}{σ:St}{H:Hp}{s:Shared}{a:Addr}{xs:List V}
theorem zln (I:Inv X pins σ H s)(h:SqL X.K H a xs∨SqT X.K H a xs):∃(its:List Value) (o:Obj) (G:Heap->Prop),Vals xs its/\xs.length<=sizeLine/\o.isFreed=false/\Zp.Itb a o G/\G s.heap /\
  (∀h h':Heap,(∀u,h.get? a=some u->h'.get? a=some u)->G h->G h')/\(∃u,s.heap.get? a=some u) /\
  ∀it,a≠it->∃S:Nat->Heap->Prop,Zp.Src X.prog X.w it a its.length (λi=>its.toArray.getD i .none) S/\∀h:Heap,h.get? it=some o->G h->S 0 h:=by
 rcases h with h|h
 ·obtain⟨its,rv,pl,hz⟩:=I.list h
  have pl':s.heap.IsList a its.toArray:=pl.isList
  refine⟨its,Zp.lIter a,λh=>h.IsList a its.toArray,rv,hz,rfl,Zp.itb_lst a _,pl',λh h' k ⟨o,e,r⟩=>⟨o,k _ e,r⟩,?_,λit hne=>⟨_,Zp.src_lst (xs:=its.toArray) hne,λh e g=>⟨⟨_,e,rfl,rfl⟩,g⟩⟩⟩
  obtain⟨o,e,_⟩:=pl'
  exact⟨o,e⟩
 ·obtain⟨its,rv,pl,hz⟩:=I.tuple h
  have pl':s.heap.IsTuple a its.toArray:=pl
  refine⟨its,Zp.tIter a,λh=>h.IsTuple a its.toArray,rv,hz,rfl,Zp.itb_tup a _,pl',λh h' k ⟨o,e,r⟩=>⟨o,k _ e,r⟩,?_,λit hne=>⟨_,Zp.src_tup (xs:=its.toArray) hne,λh e g=>⟨⟨_,e,rfl,rfl⟩,g⟩⟩⟩
  obtain⟨o,e,_⟩:=pl'
  exact⟨o,e⟩
end
def zmZ (ls:List (List Nat))(xs:List V):List (Key×V):=(List.range (min ls.length xs.length)).foldl (λm j=>putK m (Sum.inr (T (ls.getD j []))) (xs.getD j .non)) []
theorem zj1 (ls:List (List Nat))(xs:List V):(zmZ ls xs).length<=ls.length:=by
 have key:∀(ps:List Nat) (m:List (Key×V)),(ps.foldl (λm j=>putK m (Sum.inr (T (ls.getD j []))) (xs.getD j .non)) m).length<=m.length+ps.length:=by
  intro ps
  induction ps with
  | nil=>intro m;simp
  | cons p r ih =>
   intro m
   rw[lan]
   have h1:=ih (putK m (Sum.inr (T (ls.getD p []))) (xs.getD p .non))
   have h2:=zft m (Sum.inr (T (ls.getD p [])):Key) (xs.getD p .non)
   rw[lF]
   omega
 have:=key (List.range (min ls.length xs.length)) []
 rw[laf,lad] at this
 exact lX this (by omega)
theorem zeC {xs:List V}{us:List Value}(r:Vals xs us){j:Nat}(hj:j<us.length):RelV (xs.getD j .non) (us.toArray.getD j .none):=by
 induction r generalizing j with
 | nil=>simp at hj
 | cons p t ih =>
  cases j with
  | zero=>simpa using p
  | succ j =>
   have:=ih (j:=j) (by simpa using hj)
   rename_i _ _ l1 l2
   have hj':j<l2.length:=by simpa using hj
   simpa [Array.getD,hj'] using this
theorem zgz {ls:List (List Nat)}{xs:List V}{us:List Value}(r:Vals xs us):∀(js:List Nat) {m:List (Key×V)}{ms:List (Key×Value)},(∀j∈js,j<us.length)->KV m ms ->
  KV (js.foldl (λm j=>putK m (Sum.inr (T (ls.getD j []))) (xs.getD j .non)) m) (js.foldl (λm j=>stored m (Sum.inr (T (ls.getD j [])):Key) (us.toArray.getD j .none)) ms)
 | [],_,_,_,k=>k
 | j::js,_,_,h,k=>by
  rw[lan,lan]
  exact zgz r js (λi hi=>h i (.tail _ hi)) (k.put _ (zeC r (h j (.head _))))
def znV (K:PySem.W.Frag)(ta tb:TE):TE:=λσ H Q=>zbD ta (zbD tb zmh) σ H λvs H2=>∃(ls:List (List Nat)) (a b:Addr) (xs:List V),vs=[.ref a,.ref b]/\(SqL K H2 a (vT ls)∨SqT K H2 a (vT ls))/\(SqL K H2 b xs∨SqT K H2 b xs)/\ls.length<=1000/\∀p,H2 p=none->Q (.ref p) (upd H2 p (.dK (zmZ ls xs)))
section
variable {X:Cx}
theorem zfs {a b:Expr}{ta tb:TE}{p1 p2 pos1 pos2:Pos}(hc:X.calm=true)(ha:PE X a ta)(hb:PE X b tb)(hd:Gl X "dict")(hz:Gl X "zip")(md:X.mg "dict" = none)(mz:X.mg "zip" = none)
  (hs:starEach [a,b] X.env=[(false,eval a X.env),(false,eval b X.env)]:=by rfl) (hs2:starEach [b] X.env=[(false,eval b X.env)]:=by rfl)
  (hs3:starEach [.Call (.Name "zip" p2) [a,b] [] pos2] X.env=[(false,eval (.Call (.Name "zip" p2) [a,b] [] pos2) X.env)]:=by rfl) :
  PE X (.Call (.Name "dict" p1) [.Call (.Name "zip" p2) [a,b] [] pos2] [] pos1) (znV X.K ta tb):=by
 intro pins s σ H Q I h
 refine laS (zcE I hd md boot_dict ?_)
 refine laR ?_ hs3 rfl
 rw[hs3]
 show wpAny _ _ (spliced ((false,eval (.Call (.Name "zip" p2) [a,b] [] pos2) X.env)::backTo pos1 [])) _ _ s
 refine Calls.spliced_cons ?_
 have hA:PA X [a,b] (zbD ta (zbD tb zmh)):=yJ ha (yJ hb vp hs2) (by rw[hs,hs2])
 refine laS (zcE I hz mz boot_zip ?_)
 refine laR (thn (hA pos2 pins s σ H _ I h) λus s1 znK=>?_) (by rw[hs,hs2]) (by rw[hs2];rfl)
 obtain⟨vs,H2,I2,r2,ls,A1,B1,xs,ev,hq,hq2,hl,q⟩:=znK
 subst ev
 obtain⟨u1,u2,rfl,ru1,ru2⟩:=vals2 r2
 cases ru1
 cases ru2
 obtain⟨its1,o1,G1,rv1,hz1,fr1,it1,g1,mv1,⟨w1,e1⟩,sr1⟩:=zln I2 hq
 obtain⟨its2,o2,G2,rv2,hz2,fr2,it2,g2,mv2,⟨w2,e2⟩,sr2⟩:=zln I2 hq2
 refine Zp.call_zipG fr1 fr2 it1 it2 (λh g=>mv2 _ _ (λu e=>lb _ e) g) g1 g2 λh1 m5=>?_
 refine Calls.spliced_nil ?_
 obtain⟨m1,m2,m3,m4,m6,m7,m8⟩:=m5
 have lt:∀{c:Addr}{o:Obj},s1.heap.get? c=some o->c<s1.heap.objs.size:=λe=>lu e
 have hA1:=lt e1
 have hB1:=lt e2
 obtain⟨S1,C1,z1⟩:=sr1 s1.heap.objs.size (yg (.inl hA1))
 obtain⟨S2,C2,z2⟩:=sr2 (s1.heap.objs.size+1) (yg (.inl (lm hB1 (by omega))))
 have el1:ls.length=its1.length:=by have:=rv1.length;unfold vT at this;rw[ly] at this;exact this
 have el2:xs.length=its2.length:=rv2.length
 refine Zp.call_dict_zipG (knd:=v5 X.prog X.w) (s:={s1 with heap:=h1}) (z:=s1.heap.objs.size+4) (TI:=s1.heap.objs.size+2) (TO:=s1.heap.objs.size+3) (i1:=s1.heap.objs.size) (i2:=s1.heap.objs.size+1) (p1:=A1) (p2:=B1)
  (I.ok.hd hc) ⟨yg (by omega),yg (by omega),yg (by omega),yg (by omega),yg (by omega),yg (by omega),yg (by omega),yg (by omega),yg (by omega),yg (by omega)⟩
  (yg (.inl (lm hA1 (by omega)))) (yg (.inl (lm hA1 (by omega)))) (yg (.inl (lm hA1 (by omega))))
  (yg (.inl (lm hB1 (by omega)))) (yg (.inl (lm hB1 (by omega)))) (yg (.inl hB1)) C1 C2 (λj=>Sum.inr (T (ls.getD j []))) (λj hj=>?_) (by omega)
  m1 m2 m3 (z1 _ m4 (mv1 _ _ (λu e=>m8 _ _ e) g1)) (z2 _ m6 (mv2 _ _ (λu e=>m8 _ _ e) g2)) λh2 tk hdict keep=>?_
 ·have hj1:j<its1.length:=by omega
  have r:=zeC rv1 hj1
  have er:(vT ls).getD j .non=.str (T (ls.getD j [])):=by
   unfold vT
   simp[List.getD,el1,hj1]
  rw[er] at r
  obtain⟨t,e⟩:=r
  rw[e]
  exact zbT _ _ _ t
 have keep1:∀b o,s1.heap.get? b=some o->h2.get? b=some o:=λb o e=>by
  have hb:=lt e
  exact keep b o (yg (.inl (lm hb (by omega)))) (yg (.inl (lm hb (by omega)))) (yg (.inl hb)) (yg (.inl (lm hb (by omega)))) (m8 b o e)
 have hp:s1.heap.objs.size<=h1.objs.size:=by rw[m7];omega
 have hnone:H2 h1.objs.size=none:=I2.hok.fresh hp
 refine⟨.ref h1.objs.size,upd H2 h1.objs.size (.dK (zmZ ls xs)),I2.laid (h':=h2) (t':=tk) keep1 hp ?_,rfl,q _ hnone⟩
 refine⟨?_,?_,_,?_,hdict⟩
 ·have:=zj1 ls xs
  rw[lbm];omega
 ·have hbig:=I2.big
  exact lbl.mpr (by have:=hbig;intro z;rw[z] at hp;exact absurd (lm hbig hp) (lbs _))
 ·unfold zmZ
  rw[el1,el2]
  exact zgz rv2 _ (λj hj=>by have:=la5.mp hj;omega) zom
end
theorem zdy (l:Addr)(items:Array Value)(x:Value)(e:Value->Bool)(j:Nat)(hj:j<items.size)
  (hit:e items[j]=true) (hno:∀m (hm:m<items.size),m<j->e items[m]=false) :
  Meets (Builtin.«tuple.index» ⟨[.ref l,x],[]⟩)
   (λA R s=>s.heap.IsTuple l items/\(∀y,y∈items->SeqAt.EqAt A.in1 s y x (e y))/\R (.ok (.ret (.int j s.toks))) {s with toks:=s.toks+1}):=by
 intro prog w A R s h
 obtain⟨hl,he,h⟩:=h
 obtain⟨o,ho,hc,n,hd⟩:=id hl
 unfold Builtin.«tuple.index»
 refine la ?_
 wp_walk using lcQ ho
 rw[hd]
 refine lj (lj ?_)
 refine la (lj (la (lj (la ?_))))
 rw[Std.Legacy.Range.forIn_eq_forIn_range']
 simp only[Std.Legacy.Range.size,ldn,Nat.add_sub_cancel,Nat.div_one,Nat.min_self]
 refine wpAny_forIn_list _ (λrest b s'=>s'=s/\∃i,rest=List.range' i (items.size - i)/\i<=j) _ ?_ ?_ _ _ ⟨rfl,0,by simp,la2 _⟩
 ·rintro y rest b s' ⟨rfl,i,hr,hi⟩
  obtain ⟨rfl,hrest⟩:y=i/\rest=List.range' (i+1) (items.size - (i+1)):=by
   have e:items.size - i=(items.size - (i+1))+1:=by omega
   rw[e,List.range'_succ] at hr
   injection hr with h1 h2
   exact⟨h1,h2⟩
  have hlt:y<items.size:=by omega
  rw[lb8 hlt]
  refine la (he _ (Array.getElem_mem hlt) prog w _ _ ?_)
  rcases lbg y j with hyj|hyj
  ·rw[hno y hlt hyj]
   exact lj ⟨rfl,y+1,hrest,hyj⟩
  ·have:y=j:=by omega
   subst this
   rw[hit]
   rw[lB rfl]
   wp_walk
   exact h
 ·rintro b s' ⟨rfl,i,hr,hi⟩
  have:items.size - i=0:=by
   have:=lbd List.length hr
   simpa using this.symm
  omega
section
variable {X:Cx}
def zmI (K:PySem.W.Frag):V->List V->Hp->VK->Prop:=λx vs H Q=>∃(l:Addr) (xs:List V) (y:V) (j:Nat) (z:V),x=.ref l/\vs=[y]/\SqT K H l xs/\um y=true/\xs.all um=true/\xs[j]? = some z/\eqV z y=true/\(∀(m:Nat) (w:V),m<j->xs[m]? = some w->eqV w y=false)/\Q (.int (j:Int)) H
theorem zhV:MtR X "tuple.index" (zmI X.K):=by
 intro pins s σ H x vs v us Q I rx rv h
 obtain⟨l,xs,y,j,z0,rfl,rfl,hH,fy,fs,hj,hz,hno,q⟩:=h
 cases rx
 obtain⟨u,rfl,ru⟩:=rv.one
 obtain⟨its,r,pl,hl⟩:=I.tuple hH
 obtain⟨o,e,hc,n,hd⟩:=id pl
 have hjl:j<its.length:=by rw[← r.length];exact(lh.mp hj).1
 refine lbP F.slot_tuple_index ⟨_,e,hc⟩ F.entry_tuple_index (F.args_tuple_index_2 _ _) (zdy l its.toArray u (eqU y) j (by simpa using hjl) ?_ ?_) ⟨⟨o,e,hc,n,hd⟩,λw hw=>jH ru fy r fs w (by simpa using hw),?_⟩
 ·obtain⟨y2,e2,e3⟩:=zeM (x:=y) r fs j its[j] (lg hjl)
  rw[hj] at e2
  obtain rfl:=lc e2
  show eqU y its[j]=true
  rw[e3,hz]
 ·intro m hm hmj
  have hml:m<its.length:=by simpa using hm
  obtain⟨y2,e2,e3⟩:=zeM (x:=y) r fs m its[m] (lg hml)
  show eqU y its[m]=false
  rw[e3]
  exact hno m y2 hmj e2
 ·exact⟨.int _,H,I.tok _,⟨_,rfl⟩,q⟩
def zkz (K:PySem.W.Frag):V->List V->Hp->VK->Prop:=λx vs H Q=>∃(l:Addr) (xs:List V) (y:V) (j:Nat) (z:V),x=.ref l/\vs=[y]/\SqL K H l xs/\um y=true/\xs.all um=true/\xs[j]? = some z/\eqV z y=true/\j<1000000/\(∀(m:Nat) (w:V),m<j->xs[m]? = some w->eqV w y=false)/\Q (.int (j:Int)) H
theorem zhW:MtR X "list.index" (zkz X.K):=by
 intro pins s σ H x vs v us Q I rx rv h
 obtain⟨l,xs,y,j,z0,rfl,rfl,hH,fy,fs,hj,hz,h1000,hno,q⟩:=h
 cases rx
 obtain⟨u,rfl,ru⟩:=rv.one
 obtain⟨its,r,pl,hl⟩:=I.list hH
 obtain⟨o,n,e,hc,hd,hs⟩:=id pl
 have hjl:j<its.length:=by rw[← r.length];exact(lh.mp hj).1
 have eo:o={cls:=.type "list", dict:=none,data:=.seq its.toArray n,slots:=o.slots}:=by
  obtain⟨c,d,dt,sl⟩:=o
  dsimp only at hc hd hs
  subst hc hd hs
  rfl
 rw[eo] at e
 refine lbP F.slot_list_index ⟨_,e,rfl⟩ F.entry_list_index (F.args_list_index_2 _ _) (SeqAt.list_indexAt l its.toArray n none o.slots u (eqU y) j (by simpa using hjl) (by omega) ?_ ?_) ⟨e,λw hw=>jH ru fy r fs w (by simpa using hw),?_⟩
 ·obtain⟨y2,e2,e3⟩:=zeM (x:=y) r fs j its[j] (lg hjl)
  rw[hj] at e2
  obtain rfl:=lc e2
  show eqU y its[j]=true
  rw[e3,hz]
 ·intro m hm hmj
  have hml:m<its.length:=by simpa using hm
  obtain⟨y2,e2,e3⟩:=zeM (x:=y) r fs m its[m] (lg hml)
  show eqU y its[m]=false
  rw[e3]
  exact hno m y2 hmj e2
 ·exact⟨.int _,H,I.tok _,⟨_,rfl⟩,q⟩
end
end L2
set_option maxHeartbeats 1000000
namespace L2
open PySem
def txt:Value->Str
 | .str x _=>x
 | _=>⟨#[]⟩
structure StS (w:World)(es:Array (Int×Value))(t:SetTable)(ks:List Str):Prop where
 shape:∀e∈es.toList,∃x tk,e=(hashStr w x,Value.str x tk)
 keys:(es.toList.map λe=>txt e.2).Perm ks
 nd:ks.Nodup
 fits:t.fits es.size=true
 led:t.led = !w.params.followText "set-order"
 plain:es.size=0∨t.plain=false
 few:es.size<scanBound
theorem StS.size {w:World}{es:Array (Int×Value)}{t:SetTable}{ks:List Str}(S:StS w es t ks):es.size=ks.length:=by
 have:=S.keys.length_eq
 simpa using this
theorem isStrOf_txt {x y:Str}{tk:Tok}:Value.isStrOf x (.str y tk)=true↔x=y:=by
 constructor
 ·intro h
  obtain⟨t,e⟩:=Value.isStrOf_shape h
  injection e with e _
  exact e.symm
 ·rintro rfl;simp[Value.isStrOf,Value.isStr]
theorem StS.find {w:World}{es:Array (Int×Value)}{t:SetTable}{ks:List Str}(S:StS w es t ks)(x:Str):(∃e∈es.toList,Value.isStrOf x e.2=true)↔x∈ks:=by
 rw[← S.keys.mem_iff,lbh]
 constructor
 ·rintro⟨e,he,h⟩
  obtain⟨y,tk,rfl⟩:=S.shape e he
  exact⟨_,he,(isStrOf_txt.mp h).symm⟩
 ·rintro⟨e,he,h⟩
  obtain⟨y,tk,rfl⟩:=S.shape e he
  exact⟨_,he,isStrOf_txt.mpr h.symm⟩
end L2
set_option maxHeartbeats 3200000
namespace L2
open PySem PySem.Spec PyProof.Rows
section
variable {prog:Program}{w:World}{A:Around}{E:Value->Shared->Prop}{s:Shared}
theorem StS.new:StS w #[] (.fresh 0 0 (!w.params.followText "set-order")) [] where
 shape:=λe he=>by simp at he
 keys:=List.Perm.refl _
 nd:=ldt
 fits:=rfl
 led:=rfl
 plain:=.inl rfl
 few:=by decide
end
end L2
set_option maxHeartbeats 1000000
namespace L2
open PySem PySem.Spec PyProof.Rows
inductive D where
 | non|bl (b:Bool)|int (i:Int)|str (l:List Nat)|lst (xs:List D)|tup (xs:List D)|dct (kvs:List (List Nat×D))|exc (n:Nat)
inductive Rs (α:Type) where
 | ok (a:α)|ex (n:Nat)|no
def Rs.bind {α β:Type}:Rs α->(α->Rs β)->Rs β
 | .ok a,f=>f a
 | .ex n,_=>.ex n
 | .no,_=>.no
inductive Sl where
 | no|fz (d:D)|ow (xs:List D)|od (kvs:List (List Nat×D))
abbrev Rho:=List Sl
inductive Out where
 | nx (ρ:Rho)|rt (d:D)|bk (ρ:Rho)|ct (ρ:Rho)|ex (n:Nat)|no
mutual
inductive Dt (K:PySem.W.Frag)(cl:Nat->Addr)(F:Hp):V->D->Prop
 | non:Dt K cl F .non .non
 | bl (b:Bool):Dt K cl F (.bl b) (.bl b)
 | int (i:Int):Dt K cl F (.int i) (.int i)
 | str (l:List Nat) (ok:TxtOk (T l)):Dt K cl F (.str (T l)) (.str l)
 | lst {a:Addr}{xs:List V}{ds:List D}:SqL K F a xs->Dts K cl F xs ds->Dt K cl F (.ref a) (.lst ds)
 | tup {a:Addr}{xs:List V}{ds:List D}:SqT K F a xs->Dts K cl F xs ds->Dt K cl F (.ref a) (.tup ds)
 | dct {a:Addr}{kvs:List (Key×V)}{ds:List (List Nat×D)}:F a=some (.dK kvs)->Dks K cl F kvs ds->Dt K cl F (.ref a) (.dct ds)
 | exc {a:Addr}{n:Nat}:F a=some (excAt a (cl n))->Dt K cl F (.ref a) (.exc n)
inductive Dts (K:PySem.W.Frag)(cl:Nat->Addr)(F:Hp):List V->List D->Prop
 | nil:Dts K cl F [] []
 | cons {v:V}{d:D}{vs:List V}{ds:List D}:Dt K cl F v d->Dts K cl F vs ds->Dts K cl F (v::vs) (d::ds)
inductive Dks (K:PySem.W.Frag)(cl:Nat->Addr)(F:Hp):List (Key×V)->List (List Nat×D)->Prop
 | nil:Dks K cl F [] []
 | cons {l:List Nat}{v:V}{d:D}{vs:List (Key×V)}{ds:List (List Nat×D)}:TxtOk (T l)->Dt K cl F v d->Dks K cl F vs ds->Dks K cl F ((Sum.inr (T l),v)::vs) ((l,d)::ds)
end
section
variable {K:PySem.W.Frag}{cl:Nat->Addr}{F F' H H':Hp}
theorem Dt.monos (e:Same F F'):(∀{v:V}{d:D},Dt K cl F v d->Dt K cl F' v d)/\(∀{vs:List V}{ds:List D},Dts K cl F vs ds->Dts K cl F' vs ds)/\(∀{vs:List (Key×V)}{ds:List (List Nat×D)},Dks K cl F vs ds->Dks K cl F' vs ds):=by
 refine⟨λ{v d} h=>?_,λ{vs ds} h=>?_,λ{vs ds} h=>?_⟩
 ·exact Dt.rec (motive_1:=λv d _=>Dt K cl F' v d) (motive_2:=λvs ds _=>Dts K cl F' vs ds) (motive_3:=λvs ds _=>Dks K cl F' vs ds) .non .bl .int .str (λq _ ih=>.lst (e.seq q) ih) (λq _ ih=>.tup (e.seqT q) ih) (λq _ ih=>.dct (e _ _ q) ih) (λq=>.exc (e _ _ q)) .nil (λ_ _ a b=>.cons a b) .nil (λok _ _ a b=>.cons ok a b) h
 ·exact Dts.rec (motive_1:=λv d _=>Dt K cl F' v d) (motive_2:=λvs ds _=>Dts K cl F' vs ds) (motive_3:=λvs ds _=>Dks K cl F' vs ds) .non .bl .int .str (λq _ ih=>.lst (e.seq q) ih) (λq _ ih=>.tup (e.seqT q) ih) (λq _ ih=>.dct (e _ _ q) ih) (λq=>.exc (e _ _ q)) .nil (λ_ _ a b=>.cons a b) .nil (λok _ _ a b=>.cons ok a b) h
 ·exact Dks.rec (motive_1:=λv d _=>Dt K cl F' v d) (motive_2:=λvs ds _=>Dts K cl F' vs ds) (motive_3:=λvs ds _=>Dks K cl F' vs ds) .non .bl .int .str (λq _ ih=>.lst (e.seq q) ih) (λq _ ih=>.tup (e.seqT q) ih) (λq _ ih=>.dct (e _ _ q) ih) (λq=>.exc (e _ _ q)) .nil (λ_ _ a b=>.cons a b) .nil (λok _ _ a b=>.cons ok a b) h
theorem Dt.mono {v:V}{d:D}(h:Dt K cl F v d)(e:Same F F'):Dt K cl F' v d:=(Dt.monos e).1 h
theorem Dts.mono {vs:List V}{ds:List D}(h:Dts K cl F vs ds)(e:Same F F'):Dts K cl F' vs ds:=(Dt.monos e).2.1 h
theorem Dks.mono {vs:List (Key×V)}{ds:List (List Nat×D)}(h:Dks K cl F vs ds)(e:Same F F'):Dks K cl F' vs ds:=(Dt.monos e).2.2 h
theorem Dts.length:∀{vs:List V}{ds:List D},Dts K cl F vs ds->vs.length=ds.length
 | _,_,.nil=>rfl
 | _,_,.cons _ r=>by simp[r.length]
theorem Dts.append:∀{vs ws:List V}{ds es:List D},Dts K cl F vs ds->Dts K cl F ws es->Dts K cl F (vs++ws) (ds++es)
 | _,_,_,_,.nil,s=>s
 | _,_,_,_,.cons r t,s=>.cons r (Dts.append t s)
theorem Dts.get:∀{vs:List V}{ds:List D}{i:Nat}{v:V},Dts K cl F vs ds->vs[i]? = some v->∃d,ds[i]? = some d/\Dt K cl F v d
 | _,_,_,_,.nil,e=>by simp at e
 | _,_,0,_,.cons r _,e=>by simp at e;subst e;exact⟨_,rfl,r⟩
 | _,_,i+1,v,.cons _ t,e=>by
  obtain⟨d,h1,h2⟩:=Dts.get (i:=i) (v:=v) t (by simpa using e)
  exact⟨d,by simpa using h1,h2⟩
theorem Dts.get':∀{vs:List V}{ds:List D}{i:Nat}{d:D},Dts K cl F vs ds->ds[i]? = some d->∃v,vs[i]? = some v/\Dt K cl F v d
 | _,_,_,_,.nil,e=>by simp at e
 | _,_,0,_,.cons r _,e=>by simp at e;subst e;exact⟨_,rfl,r⟩
 | _,_,i+1,d,.cons _ t,e=>by
  obtain⟨v,h1,h2⟩:=Dts.get' (i:=i) (d:=d) t (by simpa using e)
  exact⟨v,by simpa using h1,h2⟩
theorem Dts.take:∀{vs:List V}{ds:List D} (n:Nat),Dts K cl F vs ds->Dts K cl F (vs.take n) (ds.take n)
 | _,_,0,_=>.nil
 | _,_,_+1,.nil=>.nil
 | _,_,n+1,.cons r t=>.cons r (Dts.take n t)
theorem Dts.drop:∀{vs:List V}{ds:List D} (n:Nat),Dts K cl F vs ds->Dts K cl F (vs.drop n) (ds.drop n)
 | _,_,0,r=>r
 | _,_,_+1,.nil=>.nil
 | _,_,n+1,.cons _ t=>Dts.drop n t
mutual
def D.py:D->PyData
 | .non=>.none
 | .bl b=>.bool b
 | .int i=>.int i
 | .str l=>.str (T l)
 | .lst xs=>.list (D.pys xs)
 | .tup xs=>.tuple (D.pys xs)
 | .dct _=>.none
 | .exc _=>.none
def D.pys:List D->List PyData
 | []=>[]
 | d::ds=>d.py::D.pys ds
end
mutual
def D.pl:D->Bool
 | .lst xs=>D.pls xs
 | .tup xs=>D.pls xs
 | .dct _=>false
 | .exc _=>false
 | _=>true
def D.pls:List D->Bool
 | []=>true
 | d::ds=>d.pl&&D.pls ds
end
theorem Dt.iss:(∀{v:V}{d:D},Dt K cl F v d->d.pl=true->Is K F v d.py)/\(∀{vs:List V}{ds:List D},Dts K cl F vs ds->D.pls ds=true->Iss K F vs (D.pys ds)):=by
 refine⟨λ{v d} h=>?_,λ{vs ds} h=>?_⟩
 ·exact Dt.rec (motive_1:=λv d _=>d.pl=true->Is K F v d.py) (motive_2:=λvs ds _=>D.pls ds=true->Iss K F vs (D.pys ds)) (motive_3:=λ_ _ _=>True) (λ_=>.non) (λb _=>.bl b) (λi _=>.int i) (λl ok _=>.str _ ok) (λq _ ih p=>.lst q (ih p)) (λq _ ih p=>.tup q (ih p)) (λ_ _ _ p=>by simp[D.pl] at p) (λ_ p=>by simp[D.pl] at p) (λ_=>.nil)
   (λ_ _ a b p=>by simp only[D.pls,lQ] at p;exact .cons (a p.1) (b p.2)) trivial (λ_ _ _ _ _=>trivial) h
 ·exact Dts.rec (motive_1:=λv d _=>d.pl=true->Is K F v d.py) (motive_2:=λvs ds _=>D.pls ds=true->Iss K F vs (D.pys ds)) (motive_3:=λ_ _ _=>True) (λ_=>.non) (λb _=>.bl b) (λi _=>.int i) (λl ok _=>.str _ ok) (λq _ ih p=>.lst q (ih p)) (λq _ ih p=>.tup q (ih p)) (λ_ _ _ p=>by simp[D.pl] at p) (λ_ p=>by simp[D.pl] at p) (λ_=>.nil)
   (λ_ _ a b p=>by simp only[D.pls,lQ] at p;exact .cons (a p.1) (b p.2)) trivial (λ_ _ _ _ _=>trivial) h
theorem Dt.is {v:V}{d:D}(h:Dt K cl F v d)(p:d.pl=true):Is K F v d.py:=Dt.iss.1 h p
def HO.mu:HO->Bool
 | .tup _=>false
 | .frz _ _=>false
 | _=>true
structure Gr (F H F' H':Hp):Prop where
 ff:Same F F'
 hh:Same H H'
 fh:Same F' H'
 no:∀b o,H b=some o->o.mu=true->F b=none->F' b=none
theorem Gr.refl (h:Same F H):Gr F H F H:=⟨Same.refl _,Same.refl _,h,λ_ _ _ _ q=>q⟩
theorem Gr.trans {F1 H1 F2 H2 F3 H3:Hp}(a:Gr F1 H1 F2 H2)(b:Gr F2 H2 F3 H3):Gr F1 H1 F3 H3 :=
 ⟨a.ff.trans b.ff,a.hh.trans b.hh,b.fh,λc o hc m q=>b.no c o (a.hh c o hc) m (a.no c o hc m q)⟩
theorem zgs {H1 H2:Hp}{p:Addr}{o:HO}(h:Same H1 H2):Same (upd H1 p o) (upd H2 p o):=λb u e=>by
 by_cases hb:b=p
 ·subst hb;rw[zK] at e ⊢;exact e
 ·rw[zF hb] at e ⊢;exact h b u e
theorem Gr.new {p:Addr}{o:HO}(h:Same F H)(hp:H p=none):Gr F H (upd F p o) (upd H p o) :=
 ⟨Same.upd (h.free hp),Same.upd hp,zgs h,λb o hb m q=>by
  have hne:b≠p:=λz=>by rw[z,hp] at hb;cases hb
  rw[zF hne];exact q⟩
theorem Gr.newO {p:Addr}{o:HO}(h:Same F H)(hp:H p=none):Gr F H F (upd H p o) :=
 ⟨Same.refl _,Same.upd hp,h.trans (Same.upd hp),λ_ _ _ _ q=>q⟩
def Sl.own:Sl->Bool
 | .ow _=>true
 | .od _=>true
 | _=>false
theorem Gr.tup {K:PySem.W.Frag}{cl:Nat->Addr}{p:Addr}{vs:List V}{ds:List D}(h:Same F H)(s:Same H H')(q:SqT K H' p vs)(d:Dts K cl F vs ds):∃F',Gr F H F' H'/\Dt K cl F' (.ref p) (.tup ds):=by
 have s2:Same F H':=h.trans s
 have add:∀o:HO,H' p=some o->o.mu=false->Gr F H (λb=>if b=p then H' b else F b) H'/\Same F (λb=>if b=p then H' b else F b):=λo e m=>by
  have ff:Same F (λb=>if b=p then H' b else F b):=λb u e'=>by
   show(if b=p then H' b else F b)=some u
   split
   ·exact s2 b u e'
   ·exact e'
  refine⟨⟨ff,s,λb u e'=>?_,λb u hb m' q'=>?_⟩,ff⟩
  ·have e2:(if b=p then H' b else F b)=some u:=e'
   split at e2
   ·exact e2
   ·exact s2 b u e2
  ·show (if b=p then H' b else F b)=none
   split
   ·rename_i w
    subst w
    rw[s b u hb] at e
    injection e with e
    rw[e,m] at m'
    cases m'
   ·exact q'
 rcases q with(e|⟨u,e⟩)|q
 ·obtain⟨g,ff⟩:=add _ e rfl
  exact⟨_,g,.tup (.inl (.inl (by show(if p=p then H' p else F p)=_;rw[lB rfl];exact e))) (d.mono ff)⟩
 ·obtain⟨g,ff⟩:=add _ e rfl
  exact⟨_,g,.tup (.inl (.inr ⟨u,by show(if p=p then H' p else F p)=_;rw[lB rfl];exact e⟩)) (d.mono ff)⟩
 ·exact⟨F,⟨Same.refl _,s,s2,λ_ _ _ _ z=>z⟩,.tup (.inr q) d⟩
structure Rl (K:PySem.W.Frag)(cl:Nat->Addr)(H0 F0:Hp)(ρ:Rho)(σ:St)(H F:Hp):Prop where
 gr:Gr F0 H0 F H
 len:ρ.length=σ.length
 fz:∀(i:Nat) d,ρ[i]? = some (.fz d)->∃v,σ[i]? = some (some v)/\Dt K cl F v d
 ow:∀(i:Nat) ds,ρ[i]? = some (.ow ds)->∃a vs,σ[i]? = some (some (.ref a))/\H a=some (.lst vs)/\F a=none/\H0 a=none/\Dts K cl F vs ds
 od:∀(i:Nat) ds,ρ[i]? = some (.od ds)->∃a vs,σ[i]? = some (some (.ref a))/\H a=some (.dK vs)/\F a=none/\H0 a=none/\Dks K cl F vs ds
 ap:∀(i j:Nat) s t a,ρ[i]? = some s->ρ[j]? = some t->s.own=true->t.own=true->σ[i]? = some (some (.ref a))->σ[j]? = some (some (.ref a))->i=j
theorem Rl.grow {H0 F0:Hp}{ρ:Rho}{σ:St}(R:Rl K cl H0 F0 ρ σ H F)(g:Gr F H F' H'):Rl K cl H0 F0 ρ σ H' F' where
 gr:=R.gr.trans g
 len:=R.len
 fz:=λi d e=>let ⟨v,h1,h2⟩:=R.fz i d e;⟨v,h1,h2.mono g.ff⟩
 ow:=λi d e=>let ⟨a,vs,h1,h2,h3,h4,h5⟩:=R.ow i d e;⟨a,vs,h1,g.hh _ _ h2,g.no a _ h2 rfl h3,h4,h5.mono g.ff⟩
 od:=λi d e=>let ⟨a,vs,h1,h2,h3,h4,h5⟩:=R.od i d e;⟨a,vs,h1,g.hh _ _ h2,g.no a _ h2 rfl h3,h4,h5.mono g.ff⟩
 ap:=R.ap
theorem Rl.fh {H0 F0:Hp}{ρ:Rho}{σ:St}(R:Rl K cl H0 F0 ρ σ H F):Same F H:=R.gr.fh
theorem get_set {α:Type}{l:List α}{i j:Nat}{x y:α}(h:(l.set i x)[j]? = some y):(i=j/\y=x/\i<l.length)∨(i≠j/\l[j]? = some y):=by
 by_cases e:i=j
 ·subst e
  rw[List.getElem?_set_self'] at h
  cases q:l[i]? with
  | none=>rw[q] at h;cases h
  | some z =>
   rw[q] at h
   exact .inl ⟨rfl,(lc h).symm,(lh.mp q).1⟩
 ·rw[lq e] at h
  exact .inr ⟨e,h⟩
theorem wH {α:Type}{l:List α}{i:Nat}{x:α}(h:i<l.length):(l.set i x)[i]? = some x:=by rw[lcu h]
theorem Rl.set {H0 F0:Hp}{ρ:Rho}{σ:St}{i:Nat}{v:V}{d:D}(R:Rl K cl H0 F0 ρ σ H F)(h:Dt K cl F v d):Rl K cl H0 F0 (ρ.set i (.fz d)) (σ.set i (some v)) H F where
 gr:=R.gr
 len:=by simp[R.len]
 fz := λj e z=>by
  rcases get_set z with⟨rfl,q,hl⟩|⟨hj,q⟩
  ·injection q with q;subst q
   exact⟨v,wH (R.len▸hl),h⟩
  ·rw[lq hj];exact R.fz j e q
 ow:=λj e z=>by
  rcases get_set z with⟨rfl,q,hl⟩|⟨hj,q⟩
  ·cases q
  ·rw[lq hj];exact R.ow j e q
 od:=λj e z=>by
  rcases get_set z with⟨rfl,q,hl⟩|⟨hj,q⟩
  ·cases q
  ·rw[lq hj];exact R.od j e q
 ap := λj k s t a z1 z2 o1 o2 e1 e2=>by
  rcases get_set z1 with⟨rfl,q,hl⟩|⟨hj,q⟩
  ·subst q;cases o1
  ·rcases get_set z2 with⟨rfl,q2,hl⟩|⟨hk,q2⟩
   ·subst q2;cases o2
   ·rw[lq hj] at e1;rw[lq hk] at e2
    exact R.ap j k s t a q q2 o1 o2 e1 e2
theorem Rl.apart {H0 F0:Hp}{ρ:Rho}{σ:St}(R:Rl K cl H0 F0 ρ σ H F){j:Nat}{s:Sl}{a:Addr}(e:ρ[j]? = some s)(o:s.own=true)(z:σ[j]? = some (some (.ref a))):H a≠none:=by
 cases s with
 | ow ds =>
  obtain⟨b,vs,h1,h2,_⟩:=R.ow j ds e
  rw[z] at h1
  injection h1 with h1;injection h1 with h1;injection h1 with h1
  rw[h1,h2];exact λz=>nomatch z
 | od ds =>
  obtain⟨b,vs,h1,h2,_⟩:=R.od j ds e
  rw[z] at h1
  injection h1 with h1;injection h1 with h1;injection h1 with h1
  rw[h1,h2];exact λz=>nomatch z
 | _=>cases o
theorem Rl.setO {H0 F0:Hp}{ρ:Rho}{σ:St}{i:Nat}{p:Addr}{vs:List V}{ds:List D}(R:Rl K cl H0 F0 ρ σ H F)(hp:H p=none)(h:Dts K cl F vs ds):Rl K cl H0 F0 (ρ.set i (.ow ds)) (σ.set i (some (.ref p))) (upd H p (.lst vs)) F where
 gr:=R.gr.trans (Gr.newO R.fh hp)
 len:=by simp[R.len]
 fz:=λj e z=>by
  rcases get_set z with⟨rfl,q,hl⟩|⟨hj,q⟩
  ·cases q
  ·rw[lq hj];exact R.fz j e q
 ow := λj e z=>by
  rcases get_set z with⟨rfl,q,hl⟩|⟨hj,q⟩
  ·injection q with q;subst q
   exact⟨p,vs,wH (R.len▸hl),zK,R.fh.free hp,R.gr.hh.free hp,h⟩
  ·rw[lq hj]
   obtain⟨a,us,h1,h2,h3⟩:=R.ow j e q
   exact⟨a,us,h1,by rw[zF (λw=>by rw[w,hp] at h2;cases h2)];exact h2,h3⟩
 od := λj e z=>by
  rcases get_set z with⟨rfl,q,hl⟩|⟨hj,q⟩
  ·cases q
  ·rw[lq hj]
   obtain⟨a,us,h1,h2,h3⟩:=R.od j e q
   exact⟨a,us,h1,by rw[zF (λw=>by rw[w,hp] at h2;cases h2)];exact h2,h3⟩
 ap := λj k s t a z1 z2 o1 o2 e1 e2=>by
  rcases get_set z1 with⟨rfl,q,hl⟩|⟨hj,q⟩
  ·rcases get_set z2 with⟨rfl,q2,hl2⟩|⟨hk,q2⟩
   ·rfl
   ·rw[wH (R.len▸hl)] at e1;rw[lq hk] at e2
    injection e1 with e1;injection e1 with e1;injection e1 with e1
    exact absurd (e1▸hp) (R.apart q2 o2 e2)
  ·rcases get_set z2 with⟨rfl,q2,hl2⟩|⟨hk,q2⟩
   ·rw[wH (R.len▸hl2)] at e2;rw[lq hj] at e1
    injection e2 with e2;injection e2 with e2;injection e2 with e2
    exact absurd (e2▸hp) (R.apart q o1 e1)
   ·rw[lq hj] at e1;rw[lq hk] at e2
    exact R.ap j k s t a q q2 o1 o2 e1 e2
theorem Rl.put {H0 F0:Hp}{ρ:Rho}{σ:St}{i:Nat}{a:Addr}{us:List V}{ds es:List D}(R:Rl K cl H0 F0 ρ σ H F)(hi:ρ[i]? = some (.ow ds))(hs:σ[i]? = some (some (.ref a)))(h:Dts K cl F us es):Rl K cl H0 F0 (ρ.set i (.ow es)) σ (upd H a (.lst us)) F:=by
 obtain⟨b,ws,h1,h2,h3,h4,_⟩:=R.ow i ds hi
 rw[hs] at h1
 injection h1 with h1;injection h1 with h1;injection h1 with h1
 subst h1
 have far:∀(j:Nat) (s:Sl) (c:Addr),j≠i->ρ[j]? = some s->s.own=true->σ[j]? = some (some (.ref c))->c≠a:=λj s c hj e o z w=>hj (R.ap j i s _ a e hi o rfl (w▸z) hs)
 refine⟨⟨R.gr.ff,λc o e=>?_,λc o e=>?_,R.gr.no⟩,by simp[R.len],λj e z=>?_,λj e z=>?_,λj e z=>?_,λj k s t c z1 z2 o1 o2 e1 e2=>?_⟩
 ·rw[zF (λw=>by rw[w,h4] at e;cases e)];exact R.gr.hh c o e
 ·rw[zF (λw=>by rw[w,h3] at e;cases e)];exact R.fh c o e
 ·rcases get_set z with⟨rfl,q,hl⟩|⟨hj,q⟩
  ·cases q
  ·exact R.fz j e q
 ·rcases get_set z with⟨rfl,q,hl⟩|⟨hj,q⟩
  ·injection q with q;subst q
   exact⟨a,us,hs,zK,h3,h4,h⟩
  ·obtain⟨c,xs,k1,k2,k3⟩:=R.ow j e q
   exact⟨c,xs,k1,by rw[zF (far j _ c (la9 hj) q rfl k1)];exact k2,k3⟩
 ·rcases get_set z with⟨rfl,q,hl⟩|⟨hj,q⟩
  ·cases q
  ·obtain⟨c,xs,k1,k2,k3⟩:=R.od j e q
   exact⟨c,xs,k1,by rw[zF (far j _ c (la9 hj) q rfl k1)];exact k2,k3⟩
 ·have own:∀(j:Nat) (s:Sl),(ρ.set i (.ow es))[j]? = some s->s.own=true->∃s',ρ[j]? = some s'/\s'.own=true:=λj s z o=>by
   rcases get_set z with⟨rfl,q,hl⟩|⟨hj,q⟩
   ·exact⟨_,hi,rfl⟩
   ·exact⟨s,q,o⟩
  obtain⟨s',q1,p1⟩:=own j s z1 o1
  obtain⟨t',q2,p2⟩:=own k t z2 o2
  exact R.ap j k s' t' c q1 q2 p1 p2 e1 e2
theorem Rl.ice {H0 F0:Hp}{ρ:Rho}{σ:St}{i:Nat}{ds:List D}(R:Rl K cl H0 F0 ρ σ H F)(hi:ρ[i]? = some (.ow ds)):∃F',Same F F'/\Rl K cl H0 F0 (ρ.set i (.fz (.lst ds))) σ H F':=by
 obtain⟨a,vs,h1,h2,h3,h4,h5⟩:=R.ow i ds hi
 have sm:Same F (upd F a (.lst vs)):=Same.upd h3
 have far:∀(j:Nat) (s:Sl) (c:Addr),j≠i->ρ[j]? = some s->s.own=true->σ[j]? = some (some (.ref c))->c≠a:=λj s c hj e o z w=>hj (R.ap j i s _ a e hi o rfl (w▸z) h1)
 refine⟨upd F a (.lst vs),sm,⟨⟨R.gr.ff.trans sm,R.gr.hh,λc o e=>?_,λc o hc m q=>?_⟩,by simp[R.len],λj e z=>?_,λj e z=>?_,λj e z=>?_,λj k s t c z1 z2 o1 o2 e1 e2=>?_⟩⟩
 ·by_cases w:c=a
  ·subst w;rw[zK] at e;rw[← e];exact h2
  ·rw[zF w] at e;exact R.fh c o e
 ·have hne:c≠a:=λw=>by rw[w,h4] at hc;cases hc
  rw[zF hne];exact R.gr.no c o hc m q
 ·rcases get_set z with⟨rfl,q,hl⟩|⟨hj,q⟩
  ·injection q with q;subst q
   exact⟨.ref a,h1,.lst (.inl (.inl zK)) (h5.mono sm)⟩
  ·obtain⟨v,k1,k2⟩:=R.fz j e q
   exact⟨v,k1,k2.mono sm⟩
 ·rcases get_set z with⟨rfl,q,hl⟩|⟨hj,q⟩
  ·cases q
  ·obtain⟨c,xs,k1,k2,k3,k4,k5⟩:=R.ow j e q
   exact⟨c,xs,k1,k2,by rw[zF (far j _ c (la9 hj) q rfl k1)];exact k3,k4,k5.mono sm⟩
 ·rcases get_set z with⟨rfl,q,hl⟩|⟨hj,q⟩
  ·cases q
  ·obtain⟨c,xs,k1,k2,k3,k4,k5⟩:=R.od j e q
   exact⟨c,xs,k1,k2,by rw[zF (far j _ c (la9 hj) q rfl k1)];exact k3,k4,k5.mono sm⟩
 ·rcases get_set z1 with⟨rfl,q,hl⟩|⟨hj,q⟩
  ·subst q;cases o1
  ·rcases get_set z2 with⟨rfl,q2,hl⟩|⟨hk,q2⟩
   ·subst q2;cases o2
   ·exact R.ap j k s t c q q2 o1 o2 e1 e2
end
def OutE (K:PySem.W.Frag)(cl:Nat->Addr)(E:XK)(H0 F H:Hp)(r:Rs D)(Q:VK):Prop :=
 match r with
 | .ok d=>∀v H' F',Gr F H F' H'->Dt K cl F' v d->Q v H'
 | .ex n=>∀H',Same H0 H'->E (.ref (cl n)) none H'
 | .no=>False
def OutA (K:PySem.W.Frag)(cl:Nat->Addr)(E:XK)(H0 F H:Hp)(r:Rs (List D))(Q:List V->Hp->Prop):Prop :=
 match r with
 | .ok ds=>∀vs H' F',Gr F H F' H'->Dts K cl F' vs ds->Q vs H'
 | .ex n=>∀H',Same H0 H'->E (.ref (cl n)) none H'
 | .no=>False
def OutB (K:PySem.W.Frag)(cl:Nat->Addr)(E:XK)(H0 F H:Hp)(r:Rs Bool)(Q:Bool->Hp->Prop):Prop :=
 match r with
 | .ok b=>∀H' F',Gr F H F' H'->Q b H'
 | .ex n=>∀H',Same H0 H'->E (.ref (cl n)) none H'
 | .no=>False
def OutS (K:PySem.W.Frag)(cl:Nat->Addr)(E:XK)(H0 F0 F:Hp)(o:Out)(Dn:Ends):Prop :=
 match o with
 | .nx ρ=>∀σ H F',Rl K cl H0 F0 ρ σ H F'->Same F F'->Dn.nx σ H
 | .rt d=>∀v H F',Gr F0 H0 F' H->Dt K cl F' v d->Dn.rt v H
 | .bk ρ=>∀σ H F',Rl K cl H0 F0 ρ σ H F'->Same F F'->Dn.bk σ H
 | .ct ρ=>∀σ H F',Rl K cl H0 F0 ρ σ H F'->Same F F'->Dn.ct σ H
 | .ex n=>∀H',Same H0 H'->E (.ref (cl n)) none H'
 | .no=>False
def XE' (X:Cx)(cl:Nat->Addr)(E:XK)(e:Expr)(f:Rho->Rs D):Prop :=
 ∃t:TE,PE X e t/\∀(H0 F0:Hp) (ρ:Rho) (σ:St) (H F:Hp) (Q:VK),Rl X.K cl H0 F0 ρ σ H F->OutE X.K cl E H0 F H (f ρ) Q->t σ H Q
def XA' (X:Cx)(cl:Nat->Addr)(E:XK)(es:List Expr)(f:Rho->Rs (List D)):Prop :=
 ∃t:TA,PA X es t/\∀(H0 F0:Hp) (ρ:Rho) (σ:St) (H F:Hp) (Q:List V->Hp->Prop),Rl X.K cl H0 F0 ρ σ H F->OutA X.K cl E H0 F H (f ρ) Q->t σ H Q
def XT' (X:Cx)(cl:Nat->Addr)(E:XK)(e:Expr)(f:Rho->Rs Bool):Prop :=
 ∃t:TT,PT X e t/\∀(H0 F0:Hp) (ρ:Rho) (σ:St) (H F:Hp) (Q:Bool->Hp->Prop),Rl X.K cl H0 F0 ρ σ H F->OutB X.K cl E H0 F H (f ρ) Q->t σ H Q
def XW' (X:Cx)(cl:Nat->Addr)(E:XK)(e:Expr)(f:Rho->Rs Bool):Prop :=
 ∃t:TT,PW X e t/\∀(H0 F0:Hp) (ρ:Rho) (σ:St) (H F:Hp) (Q:Bool->Hp->Prop),Rl X.K cl H0 F0 ρ σ H F->OutB X.K cl E H0 F H (f ρ) Q->t σ H Q
def XO' (X:Cx)(cl:Nat->Addr)(E:XK)(e:Option Expr)(f:Rho->Rs (Option Int)):Prop :=
 ∃ t:TO,PO X e t/\∀(H0 F0:Hp) (ρ:Rho) (σ:St) (H F:Hp) (Q:Option Int->Hp->Prop),Rl X.K cl H0 F0 ρ σ H F ->
  (match f ρ with | .ok o=>∀H' F',Gr F H F' H'->Q o H' | .ex n=>∀H',Same H0 H'->E (.ref (cl n)) none H' | .no=>False)->t σ H Q
def tDE (K:PySem.W.Frag)(cl:Nat->Addr)(E:XK)(f:Rho->Rs D):TE:=λσ H Q=>∃H0 F0 ρ F,Rl K cl H0 F0 ρ σ H F/\OutE K cl E H0 F H (f ρ) Q
def tDA (K:PySem.W.Frag)(cl:Nat->Addr)(E:XK)(f:Rho->Rs (List D)):TA:=λσ H Q=>∃H0 F0 ρ F,Rl K cl H0 F0 ρ σ H F/\OutA K cl E H0 F H (f ρ) Q
def tDB (K:PySem.W.Frag)(cl:Nat->Addr)(E:XK)(f:Rho->Rs Bool):TT:=λσ H Q=>∃H0 F0 ρ F,Rl K cl H0 F0 ρ σ H F/\OutB K cl E H0 F H (f ρ) Q
def XE (X:Cx)(cl:Nat->Addr)(E:XK)(e:Expr)(f:Rho->Rs D):Prop:=PE X e (tDE X.K cl E f)
def XA (X:Cx)(cl:Nat->Addr)(E:XK)(es:List Expr)(f:Rho->Rs (List D)):Prop:=PA X es (tDA X.K cl E f)
def XT (X:Cx)(cl:Nat->Addr)(E:XK)(e:Expr)(f:Rho->Rs Bool):Prop:=PT X e (tDB X.K cl E f)
def XW (X:Cx)(cl:Nat->Addr)(E:XK)(e:Expr)(f:Rho->Rs Bool):Prop:=PW X e (tDB X.K cl E f)
section
variable {X:Cx}{cl:Nat->Addr}{E:XK}
theorem XE.ex {e:Expr}{f:Rho->Rs D}(h:XE X cl E e f):XE' X cl E e f:=⟨_,h,λH0 F0 ρ σ H F Q R o=>⟨H0,F0,ρ,F,R,o⟩⟩
theorem XA.ex {e:List Expr}{f:Rho->Rs (List D)}(h:XA X cl E e f):XA' X cl E e f:=⟨_,h,λH0 F0 ρ σ H F Q R o=>⟨H0,F0,ρ,F,R,o⟩⟩
theorem XT.ex {e:Expr}{f:Rho->Rs Bool}(h:XT X cl E e f):XT' X cl E e f:=⟨_,h,λH0 F0 ρ σ H F Q R o=>⟨H0,F0,ρ,F,R,o⟩⟩
theorem XW.ex {e:Expr}{f:Rho->Rs Bool}(h:XW X cl E e f):XW' X cl E e f:=⟨_,h,λH0 F0 ρ σ H F Q R o=>⟨H0,F0,ρ,F,R,o⟩⟩
theorem XE'.out {e:Expr}{f:Rho->Rs D}(h:XE' X cl E e f):XE X cl E e f:=let ⟨_,pt,rt⟩:=h;λpins s σ H Q I ⟨H0,F0,ρ,F,R,o⟩=>pt pins s σ H Q I (rt H0 F0 ρ σ H F Q R o)
theorem XA'.out {e:List Expr}{f:Rho->Rs (List D)}(h:XA' X cl E e f):XA X cl E e f:=let ⟨_,pt,rt⟩:=h;λpos pins s σ H Q I ⟨H0,F0,ρ,F,R,o⟩=>pt pos pins s σ H Q I (rt H0 F0 ρ σ H F Q R o)
theorem XT'.out {e:Expr}{f:Rho->Rs Bool}(h:XT' X cl E e f):XT X cl E e f:=let ⟨_,pt,rt⟩:=h;λpins s σ H Q I ⟨H0,F0,ρ,F,R,o⟩=>pt pins s σ H Q I (rt H0 F0 ρ σ H F Q R o)
theorem XW'.out {e:Expr}{f:Rho->Rs Bool}(h:XW' X cl E e f):XW X cl E e f:=let ⟨_,pt,rt⟩:=h;λwhole pins s σ H Q I ⟨H0,F0,ρ,F,R,o⟩=>pt whole pins s σ H Q I (rt H0 F0 ρ σ H F Q R o)
end
def fC (d:D):Rho->Rs D:=λ_=>.ok d
def fNm (i:Nat):Rho->Rs D:=λρ=>match ρ[i]? with|some (.fz d)=>.ok d|_=>.no
def lf:Option D->Rs D
 | some d=>.ok d
 | none=>.no
def f1 (g:D->Option D)(fa:Rho->Rs D):Rho->Rs D:=λρ=>(fa ρ).bind λa=>lf (g a)
def f2 (g:D->D->Option D)(fa fb:Rho->Rs D):Rho->Rs D:=λρ=>(fa ρ).bind λa=>(fb ρ).bind λb=>lf (g a b)
def zE:Rho->Rs (List D):=λ_=>.ok []
def zf (fa:Rho->Rs D)(fs:Rho->Rs (List D)):Rho->Rs (List D):=λρ=>(fa ρ).bind λa=>(fs ρ).bind λas=>.ok (a::as)
def fO (g:List D->Option D)(fs:Rho->Rs (List D)):Rho->Rs D:=λρ=>(fs ρ).bind λas=>lf (g as)
def fA (g:List D->Rs D)(fs:Rho->Rs (List D)):Rho->Rs D:=λρ=>(fs ρ).bind g
def fIf (ft:Rho->Rs Bool)(fa fb:Rho->Rs D):Rho->Rs D:=λρ=>(ft ρ).bind λb=>if b=true then fa ρ else fb ρ
def tru:D->Rs Bool
 | .bl b=>.ok b
 | _=>.no
def bT (fa:Rho->Rs D):Rho->Rs Bool:=λρ=>(fa ρ).bind tru
def zbR (ft:Rho->Rs Bool):Rho->Rs Bool:=λρ=>(ft ρ).bind λb=>.ok (!b)
def zea (fa fb:Rho->Rs Bool):Rho->Rs Bool:=λρ=>(fa ρ).bind λb=>if b=true then fb ρ else .ok false
def bOr (fa fb:Rho->Rs Bool):Rho->Rs Bool:=λρ=>(fa ρ).bind λb=>if b=true then .ok true else fb ρ
def zaW (fa fb:Rho->Rs D):Rho->Rs D:=λρ=>(fa ρ).bind λa=>(tru a).bind λb=>if b=true then fb ρ else .ok (.bl false)
def fOr (fa fb:Rho->Rs D):Rho->Rs D:=λρ=>(fa ρ).bind λa=>(tru a).bind λb=>if b=true then .ok (.bl true) else fb ρ
def zf0 (fa:Rho->Rs D):Rho->Rs D:=λρ=>(fa ρ).bind λa=>(tru a).bind λb=>.ok (.bl (!b))
section
variable {K:PySem.W.Frag}{cl:Nat->Addr}{E:XK}{H0 F0 F H F1 H1:Hp}{ρ:Rho}{σ:St}
theorem OutE.grow {r:Rs D}{Q:VK}(h:OutE K cl E H0 F H r Q)(g:Gr F H F1 H1):OutE K cl E H0 F1 H1 r Q:=by
 cases r with
 | ok d=>exact λv H' F' g' q=>h v H' F' (g.trans g') q
 | ex n=>exact h
 | no=>exact h
theorem OutA.grow {r:Rs (List D)}{Q:List V->Hp->Prop}(h:OutA K cl E H0 F H r Q)(g:Gr F H F1 H1):OutA K cl E H0 F1 H1 r Q:=by
 cases r with
 | ok d=>exact λv H' F' g' q=>h v H' F' (g.trans g') q
 | ex n=>exact h
 | no=>exact h
theorem OutB.grow {r:Rs Bool}{Q:Bool->Hp->Prop}(h:OutB K cl E H0 F H r Q)(g:Gr F H F1 H1):OutB K cl E H0 F1 H1 r Q:=by
 cases r with
 | ok d=>exact λH' F' g'=>h H' F' (g.trans g')
 | ex n=>exact h
 | no=>exact h
theorem OutE.fst {r:Rs D}{g:D->Rs D}{Q P:VK}(h:OutE K cl E H0 F H (r.bind g) Q)(k:∀d v H1 F1,Gr F H F1 H1->Dt K cl F1 v d->OutE K cl E H0 F1 H1 (g d) Q->P v H1):OutE K cl E H0 F H r P:=by
 cases r with
 | ok d=>exact λv H' F' g' q=>k d v H' F' g' q (h.grow g')
 | ex n=>exact h
 | no=>exact h
theorem OutE.fstA {r:Rs D}{g:D->Rs (List D)}{Q:List V->Hp->Prop}{P:VK}(h:OutA K cl E H0 F H (r.bind g) Q)(k:∀d v H1 F1,Gr F H F1 H1->Dt K cl F1 v d->OutA K cl E H0 F1 H1 (g d) Q->P v H1):OutE K cl E H0 F H r P:=by
 cases r with
 | ok d=>exact λv H' F' g' q=>k d v H' F' g' q (h.grow g')
 | ex n=>exact h
 | no=>exact h
theorem OutA.fst {r:Rs (List D)}{g:List D->Rs D}{Q:VK}{P:List V->Hp->Prop}(h:OutE K cl E H0 F H (r.bind g) Q)(k:∀d v H1 F1,Gr F H F1 H1->Dts K cl F1 v d->OutE K cl E H0 F1 H1 (g d) Q->P v H1):OutA K cl E H0 F H r P:=by
 cases r with
 | ok d=>exact λv H' F' g' q=>k d v H' F' g' q (h.grow g')
 | ex n=>exact h
 | no=>exact h
theorem OutA.fstA {r:Rs (List D)}{g:List D->Rs (List D)}{Q P:List V->Hp->Prop}(h:OutA K cl E H0 F H (r.bind g) Q)(k:∀d v H1 F1,Gr F H F1 H1->Dts K cl F1 v d->OutA K cl E H0 F1 H1 (g d) Q->P v H1):OutA K cl E H0 F H r P:=by
 cases r with
 | ok d=>exact λv H' F' g' q=>k d v H' F' g' q (h.grow g')
 | ex n=>exact h
 | no=>exact h
theorem OutE.fstB {r:Rs D}{g:D->Rs Bool}{Q:Bool->Hp->Prop}{P:VK}(h:OutB K cl E H0 F H (r.bind g) Q)(k:∀d v H1 F1,Gr F H F1 H1->Dt K cl F1 v d->OutB K cl E H0 F1 H1 (g d) Q->P v H1):OutE K cl E H0 F H r P:=by
 cases r with
 | ok d=>exact λv H' F' g' q=>k d v H' F' g' q (h.grow g')
 | ex n=>exact h
 | no=>exact h
theorem OutB.fst {r:Rs Bool}{g:Bool->Rs D}{Q:VK}{P:Bool->Hp->Prop}(h:OutE K cl E H0 F H (r.bind g) Q)(k:∀b H1 F1,Gr F H F1 H1->OutE K cl E H0 F1 H1 (g b) Q->P b H1):OutB K cl E H0 F H r P:=by
 cases r with
 | ok d=>exact λH' F' g'=>k d H' F' g' (h.grow g')
 | ex n=>exact h
 | no=>exact h
theorem OutB.fstB {r:Rs Bool}{g:Bool->Rs Bool}{Q P:Bool->Hp->Prop}(h:OutB K cl E H0 F H (r.bind g) Q)(k:∀b H1 F1,Gr F H F1 H1->OutB K cl E H0 F1 H1 (g b) Q->P b H1):OutB K cl E H0 F H r P:=by
 cases r with
 | ok d=>exact λH' F' g'=>k d H' F' g' (h.grow g')
 | ex n=>exact h
 | no=>exact h
theorem OutE.okI {d:D}{v:V}{Q:VK}(h:OutE K cl E H0 F H (.ok d) Q)(s:Same F H)(q:Dt K cl F v d):Q v H:=h v H F (Gr.refl s) q
theorem zdr {v:V}{d:D}{b:Bool}(q:Dt K cl F v d)(h:tru d=.ok b):v=.bl b:=by
 cases q <;>simp[tru] at h
 subst h;rfl
end
section
variable {X:Cx}{cl:Nat->Addr}{E:XK}{a b:Expr}{fa fb fc:Rho->Rs D}{pos:Pos}
theorem zkK {e:Expr}{v:V}{d:D}(h:PE X e (tC v))(q:∀F,Dt X.K cl F v d):XE X cl E e (fC d):=XE'.out ⟨_,h,λH0 F0 ρ σ H F Q R o=>o.okI R.fh (q F)⟩
theorem zB {i j pos}:XE X cl E (.Constant (.int i) j pos) (fC (.int i)):=zkK zoL λ_=>.int i
theorem zdS {b j pos}:XE X cl E (.Constant (.bool b) j pos) (fC (.bl b)):=zkK zpl λ_=>.bl b
theorem zjp {j pos}:XE X cl E (.Constant .none j pos) (fC .non):=zkK znX λ_=>.non
theorem xZ {x:Str}{j pos}{l:List Nat}(h:x=T l)(ok:TxtOk (T l)):XE X cl E (.Constant (.str x) j pos) (fC (.str l)):=by subst h;exact zkK zor λ_=>.str l ok
theorem zpK (i:Nat){e:Expr}(h:PE X e (zcH i)):XE X cl E e (fNm i):=XE'.out ⟨_,h,λH0 F0 ρ σ H F Q R o=>by
 unfold fNm at o
 split at o
 ·rename_i d e
  obtain⟨v,h1,h2⟩:=R.fz i d e
  exact⟨v,h1,o.okI R.fh h2⟩
 ·exact o.elim⟩
theorem zq:XA X cl E [] zE:=XA'.out ⟨_,vp,λH0 F0 ρ σ H F Q R o=>o [] H F (Gr.refl R.fh) .nil⟩
theorem zj {e:Expr}{es:List Expr}{fs:Rho->Rs (List D)}(ha:XE X cl E e fa)(hr:XA X cl E es fs)(hs:starEach (e::es) X.env=(false,eval e X.env)::starEach es X.env):XA X cl E (e::es) (zf fa fs):=by
 obtain⟨t,pt,rt⟩:=ha.ex
 obtain⟨u,pu,ru⟩:=hr.ex
 refine XA'.out ⟨_,yJ pt pu hs,λH0 F0 ρ σ H F Q R o=>rt H0 F0 ρ σ H F _ R (OutE.fstA o λd v H1 F1 g q o1=>?_)⟩
 refine ru H0 F0 ρ σ H1 F1 _ (R.grow g) (OutA.fstA o1 λds vs H2 F2 g2 q2 o2=>?_)
 exact o2 (v::vs) H2 F2 (Gr.refl (R.grow (g.trans g2)).fh) (.cons (q.mono g2.ff) q2)
def Op2 (K:PySem.W.Frag)(cl:Nat->Addr)(r:R2)(g:D->D->Option D):Prop :=
 ∀(F H:Hp) (x y:V) (a b d:D) (Q:VK),Same F H->Dt K cl F x a->Dt K cl F y b->g a b=some d->(∀v H' F',Gr F H F' H'->Dt K cl F' v d->Q v H')->r x y H Q
theorem OutE.lf {K:PySem.W.Frag}{cl:Nat->Addr}{E:XK}{H0 F H:Hp}{o:Option D}{Q:VK}(h:OutE K cl E H0 F H (lf o) Q):∃d,o=some d/\∀v H' F',Gr F H F' H'->Dt K cl F' v d->Q v H':=by
 cases o with
 | none=>exact h.elim
 | some d=>exact⟨d,rfl,h⟩
theorem yt {op:Operator}{r:R2}{g:D->D->Option D}(ho:OpR X (binaryOp op) r)(hg:Op2 X.K cl r g)(ha:XE X cl E a fa)(hb:XE X cl E b fb):XE X cl E (.BinOp a op b pos) (f2 g fa fb):=by
 obtain⟨t,pt,rt⟩:=ha.ex
 obtain⟨u,pu,ru⟩:=hb.ex
 refine XE'.out ⟨_,zjL ho pt pu,λH0 F0 ρ σ H F Q R o=>rt H0 F0 ρ σ H F _ R (OutE.fst o λd v H1 F1 g1 q o1=>?_)⟩
 refine ru H0 F0 ρ σ H1 F1 _ (R.grow g1) (OutE.fst o1 λe w H2 F2 g2 q2 o2=>?_)
 obtain⟨z,hz,k⟩:=o2.lf
 exact hg F2 H2 v w d e z _ (R.grow (g1.trans g2)).fh (q.mono g2.ff) q2 hz k
theorem zc1 {op:CmpOp}{r:R2}{g:D->D->Option D}(ho:OpR X (compareOp op) r)(hg:Op2 X.K cl r g)(ha:XE X cl E a fa)(hb:XE X cl E b fb)(hm:behindInMarks op b=false):XE X cl E (.Compare a [op] [b] pos) (f2 g fa fb):=by
 obtain⟨t,pt,rt⟩:=ha.ex
 obtain⟨u,pu,ru⟩:=hb.ex
 refine XE'.out ⟨_,zlF ho pt pu hm,λH0 F0 ρ σ H F Q R o=>rt H0 F0 ρ σ H F _ R (OutE.fst o λd v H1 F1 g1 q o1=>?_)⟩
 refine ru H0 F0 ρ σ H1 F1 _ (R.grow g1) (OutE.fst o1 λe w H2 F2 g2 q2 o2=>?_)
 obtain⟨z,hz,k⟩:=o2.lf
 exact hg F2 H2 v w d e z _ (R.grow (g1.trans g2)).fh (q.mono g2.ff) q2 hz k
theorem v9 {op:CmpOp}{r:R2}{g:D->D->Option D}(ho:OpR X (compareOp op) r)(hg:Op2 X.K cl r g)(ha:XE X cl E a fa)(hb:XE X cl E b fb)(hm:behindInMarks op b=false):XT X cl E (.Compare a [op] [b] pos) (bT (f2 g fa fb)):=by
 obtain⟨t,pt,rt⟩:=ha.ex
 obtain⟨u,pu,ru⟩:=hb.ex
 refine XT'.out ⟨_,zit ho pt pu hm,λH0 F0 ρ σ H F Q R o=>?_⟩
 have o':OutE X.K cl E H0 F H (f2 g fa fb ρ) λv H1=>∃k,v=.bl k/\Q k H1:=OutE.fstB o λd v H1 F1 g1 q o1=>by
  cases e:tru d with
  | ok b=>rw[e] at o1;exact⟨b,zdr q e,o1 H1 F1 (Gr.refl (R.grow g1).fh)⟩
  | ex n=>cases d <;>simp[tru] at e
  | no=>rw[e] at o1;exact o1.elim
 refine rt H0 F0 ρ σ H F _ R (OutE.fst o' λd v H1 F1 g1 q o1=>?_)
 refine ru H0 F0 ρ σ H1 F1 _ (R.grow g1) (OutE.fst o1 λe w H2 F2 g2 q2 o2=>?_)
 obtain⟨z,hz,k⟩:=o2.lf
 exact hg F2 H2 v w d e z _ (R.grow (g1.trans g2)).fh (q.mono g2.ff) q2 hz k
theorem OutB.bT {ρ:Rho}{H0 F0 H F:Hp}{σ:St}{Q:Bool->Hp->Prop}(R:Rl X.K cl H0 F0 ρ σ H F)(o:OutB X.K cl E H0 F H (bT fa ρ) Q):OutE X.K cl E H0 F H (fa ρ) λv H1=>∃k,v=.bl k/\Q k H1:=OutE.fstB o λd v H1 F1 g1 q o1=>by
  cases e:tru d with
  | ok b=>rw[e] at o1;exact⟨b,zdr q e,o1 H1 F1 (Gr.refl (R.grow g1).fh)⟩
  | ex n=>cases d <;>simp[tru] at e
  | no=>rw[e] at o1;exact o1.elim
theorem kE {e:Expr}(h:XE X cl E e fa)(he:∀whole,isTrue e X.env whole=(do let v ← whole;standAt e.pos;holding [v] (truthy v)):=by intro _;rfl):XT X cl E e (bT fa):=by
 obtain⟨t,pt,rt⟩:=h.ex
 exact XT'.out ⟨_,zoG pt he,λH0 F0 ρ σ H F Q R o=>rt H0 F0 ρ σ H F _ R (OutB.bT R o)⟩
theorem zbw {ft:Rho->Rs Bool}(h:XT X cl E a ft):XT X cl E (.UnaryOp .Not a pos) (zbR ft):=by
 obtain⟨t,pt,rt⟩:=h.ex
 exact XT'.out ⟨_,znn pt,λH0 F0 ρ σ H F Q R o=>rt H0 F0 ρ σ H F _ R (OutB.fstB o λb H1 F1 g o1=>o1 H1 F1 (Gr.refl (R.grow g).fh))⟩
theorem zmL {ft:Rho->Rs Bool}(h:XT X cl E a ft):XW X cl E (.BoolOp .And [a] pos) ft:=let ⟨t,pt,rt⟩:=h.ex;XW'.out ⟨t,zlV pt,rt⟩
theorem zkS {ft:Rho->Rs Bool}(h:XT X cl E a ft):XW X cl E (.BoolOp .Or [a] pos) ft:=let ⟨t,pt,rt⟩:=h.ex;XW'.out ⟨t,zlg pt,rt⟩
theorem znN {rest:List Expr}{ft fu:Rho->Rs Bool}(h:XT X cl E a ft)(k:XW X cl E (.BoolOp .And (b::rest) pos) fu):XW X cl E (.BoolOp .And (a::b::rest) pos) (zea ft fu):=by
 obtain⟨t,pt,rt⟩:=h.ex
 obtain⟨u,pu,ru⟩:=k.ex
 refine XW'.out ⟨_,znP pt pu,λH0 F0 ρ σ H F Q R o=>rt H0 F0 ρ σ H F _ R (OutB.fstB o λb H1 F1 g o1=>?_)⟩
 cases b with
 | true=>exact ru H0 F0 ρ σ H1 F1 _ (R.grow g) o1
 | false=>exact o1 H1 F1 (Gr.refl (R.grow g).fh)
theorem zoU {rest:List Expr}{ft fu:Rho->Rs Bool}(h:XT X cl E a ft)(k:XW X cl E (.BoolOp .Or (b::rest) pos) fu):XW X cl E (.BoolOp .Or (a::b::rest) pos) (bOr ft fu):=by
 obtain⟨t,pt,rt⟩:=h.ex
 obtain⟨u,pu,ru⟩:=k.ex
 refine XW'.out ⟨_,zog pt pu,λH0 F0 ρ σ H F Q R o=>rt H0 F0 ρ σ H F _ R (OutB.fstB o λb H1 F1 g o1=>?_)⟩
 cases b with
 | true=>exact o1 H1 F1 (Gr.refl (R.grow g).fh)
 | false=>exact ru H0 F0 ρ σ H1 F1 _ (R.grow g) o1
theorem XW.xt {e:Expr}{ft:Rho->Rs Bool}(h:XW X cl E e ft):XT X cl E e ft:=let ⟨t,pt,rt⟩:=h.ex;XT'.out ⟨t,pt.pt,rt⟩
def isN (neg:Bool):D->Option D
 | .non=>some (.bl (!neg))
 | _=>some (.bl neg)
theorem Dt.isnon {K:PySem.W.Frag}{F:Hp}{v:V}{d:D}(q:Dt K cl F v d):isN false d=some (.bl (decide (v=.non)))/\isN true d=some (.bl (!decide (v=.non))):=by cases q <;>exact⟨rfl,rfl⟩
theorem zm8 {j pos'}(h:XE X cl E a fa):XE X cl E (.Compare a [.Is] [.Constant .none j pos'] pos) (f1 (isN false) fa):=by
 obtain⟨t,pt,rt⟩:=h.ex
 refine XE'.out ⟨_,zn7 (znq pt),λH0 F0 ρ σ H F Q R o=>rt H0 F0 ρ σ H F _ R (OutE.fst o λd v H1 F1 g q o1=>?_)⟩
 rw[q.isnon.1] at o1
 exact o1.okI (R.grow g).fh (.bl _)
theorem zlQ {j pos'}(h:XE X cl E a fa):XT X cl E (.Compare a [.IsNot] [.Constant .none j pos'] pos) (bT (f1 (isN true) fa)):=by
 obtain⟨t,pt,rt⟩:=h.ex
 refine XT'.out ⟨_,zoh (zlB pt),λH0 F0 ρ σ H F Q R o=>rt H0 F0 ρ σ H F _ R (OutE.fst (OutB.bT R o) λd v H1 F1 g q o1=>?_)⟩
 rw[q.isnon.2] at o1
 exact o1.okI (R.grow g).fh (.bl _)
theorem zdM {c:Expr}{ft:Rho->Rs Bool}(hc:XT X cl E c ft)(ha:XE X cl E a fa)(hb:XE X cl E b fb):XE X cl E (.IfExp c a b pos) (fIf ft fa fb):=by
 obtain⟨t,pt,rt⟩:=hc.ex
 obtain⟨u,pu,ru⟩:=ha.ex
 obtain⟨w,pw,rw'⟩:=hb.ex
 refine XE'.out ⟨_,zkC pt pu pw,λH0 F0 ρ σ H F Q R o=>rt H0 F0 ρ σ H F _ R (OutB.fst o λb H1 F1 g o1=>?_)⟩
 cases b with
 | true=>exact ru H0 F0 ρ σ H1 F1 _ (R.grow g) o1
 | false=>exact rw' H0 F0 ρ σ H1 F1 _ (R.grow g) o1
theorem OutE.tru {H0 F H F1 H1:Hp}{d:D}{v:V}{g:Bool->Rs D}{Q:VK}(q:Dt X.K cl F v d)(o:OutE X.K cl E H0 F H ((tru d).bind g) Q):∃b,v=.bl b/\OutE X.K cl E H0 F H (g b) Q:=by
 cases e:L2.tru d with
 | ok b=>rw[e] at o;exact⟨b,zdr q e,o⟩
 | ex n=>cases d <;>simp[L2.tru] at e
 | no=>rw[e] at o;exact o.elim
theorem zbu {op}(h:XE X cl E a fa):XE X cl E (.BoolOp op [a] pos) fa:=let ⟨t,pt,rt⟩:=h.ex;XE'.out ⟨t,znr pt,rt⟩
theorem zcd {rest:List Expr}(ha:XE X cl E a fa)(hb:XE X cl E (.BoolOp .And (b::rest) pos) fb):XE X cl E (.BoolOp .And (a::b::rest) pos) (zaW fa fb):=by
 obtain⟨t,pt,rt⟩:=ha.ex
 obtain⟨u,pu,ru⟩:=hb.ex
 refine XE'.out ⟨_,znA pt pu,λH0 F0 ρ σ H F Q R o=>rt H0 F0 ρ σ H F _ R (OutE.fst o λd v H1 F1 g q o1=>?_)⟩
 obtain⟨b,rfl,o2⟩:=OutE.tru (F1:=F1) (H1:=H1) q o1
 refine⟨b,rfl,?_⟩
 cases b with
 | true=>exact ru H0 F0 ρ σ H1 F1 _ (R.grow g) o2
 | false=>exact o2.okI (R.grow g).fh (.bl _)
theorem zpG {rest:List Expr}(ha:XE X cl E a fa)(hb:XE X cl E (.BoolOp .Or (b::rest) pos) fb):XE X cl E (.BoolOp .Or (a::b::rest) pos) (fOr fa fb):=by
 obtain⟨t,pt,rt⟩:=ha.ex
 obtain⟨u,pu,ru⟩:=hb.ex
 refine XE'.out ⟨_,zpe pt pu,λH0 F0 ρ σ H F Q R o=>rt H0 F0 ρ σ H F _ R (OutE.fst o λd v H1 F1 g q o1=>?_)⟩
 obtain⟨b,rfl,o2⟩:=OutE.tru (F1:=F1) (H1:=H1) q o1
 refine⟨b,rfl,?_⟩
 cases b with
 | true=>exact o2.okI (R.grow g).fh (.bl _)
 | false=>exact ru H0 F0 ρ σ H1 F1 _ (R.grow g) o2
theorem zlj (ha:XE X cl E a fa):XE X cl E (.UnaryOp .Not a pos) (zf0 fa):=by
 obtain⟨t,pt,rt⟩:=ha.ex
 refine XE'.out ⟨_,zoH pt,λH0 F0 ρ σ H F Q R o=>rt H0 F0 ρ σ H F _ R (OutE.fst o λd v H1 F1 g q o1=>?_)⟩
 obtain⟨b,rfl,o2⟩:=OutE.tru (F1:=F1) (H1:=H1) q o1
 exact⟨b,rfl,o2.okI (R.grow g).fh (.bl _)⟩
def mkT (ds:List D):Option D:=if ds.length<=1000000 then some (.tup ds) else none
def mkL (ds:List D):Option D:=if ds.length<=1000000 then some (.lst ds) else none
theorem sz6 {n:Nat}(h:n<=1000000):n<=sizeLine:=by rw[lbm];omega
theorem zc3 {es:List Expr}{x1}{fs:Rho->Rs (List D)}(h:XA X cl E es fs):XE X cl E (.Tuple es x1 pos) (fO mkT fs):=by
 obtain⟨t,pt,rt⟩:=h.ex
 refine XE'.out ⟨_,zlb pt,λH0 F0 ρ σ H F Q R o=>rt H0 F0 ρ σ H F _ R (OutA.fst o λds vs H1 F1 g q o1=>?_)⟩
 unfold mkT at o1
 split at o1
 ·rename_i hl
  refine⟨sz6 (q.length▸hl),λp hp=>?_⟩
  have fh:=(R.grow g).fh
  exact o1 _ _ _ (Gr.new fh hp) (.tup (.inl (.inl zK)) (q.mono (Same.upd (fh.free hp))))
 ·exact o1.elim
theorem zaS {es:List Expr}{fs:Rho->Rs (List D)}(h:XA X cl E es fs):XE X cl E (.List es pos) (fO mkL fs):=by
 obtain⟨t,pt,rt⟩:=h.ex
 refine XE'.out ⟨_,ziD pt,λH0 F0 ρ σ H F Q R o=>rt H0 F0 ρ σ H F _ R (OutA.fst o λds vs H1 F1 g q o1=>?_)⟩
 unfold mkL at o1
 split at o1
 ·rename_i hl
  refine⟨sz6 (q.length▸hl),λp hp=>?_⟩
  have fh:=(R.grow g).fh
  exact o1 _ _ _ (Gr.new fh hp) (.lst (.inl (.inl zK)) (q.mono (Same.upd (fh.free hp))))
 ·exact o1.elim
def spD (K:PySem.W.Frag)(cl:Nat->Addr)(fn:List D->Rs D)(n:Nat):Sp:=λvs H Q E=>∃F ds,Same F H/\Dts K cl F vs ds/\vs.length=n/\OutE K cl E H F H (fn ds) Q
def ari (n:Nat)(fn:List D->Rs D):List D->Rs D:=λds=>if ds.length=n then fn ds else .no
theorem zN {k:Nat}{f:Addr}{fd:FuncData}{ps:List Str}{fn:List D->Rs D}{n:Nat}{x:Str}{p:Pos}{e:Expr}{es:List Expr}{fs:Rho->Rs (List D)}(G:FnOk X.prog X.w X.K X.mg X.base (CX1 X.prog X.w) k f fd ps (spD X.K cl fn n))(hr:Room k X.A)(hg:Gl X x)(hm:X.mg x=some (.ref f))(hk:PySem.W.keepIn X.K (.ref f)=true)(hb:Binds X.K fd ps [])(hx:uE (CX1 X.prog X.w) X E)
  (ha:XA X cl E (e::es) fs) (he:starEach (e::es) X.env=(false,eval e X.env)::starEach es X.env) (hdb:(x == ("__debug__" : Str))=false:=by decide) (hpl:(backTo pos (starEach es X.env)).any (·.1)=false:=by rfl):XE X cl E (.Call (.Name x p) (e::es) [] pos) (fA (ari n fn) fs):=by
 obtain⟨t,pt,rt⟩:=ha.ex
 refine XE'.out ⟨_,zbh G hr hg hm hk hb .nil hx pt hdb he hpl,λH0 F0 ρ σ H F Q R o=>rt H0 F0 ρ σ H F _ R (OutA.fst o λds vs H1 F1 g q o1=>?_)⟩
 unfold ari at o1
 split at o1
 ·rename_i hl
  rw[lD]
  have R1:=R.grow g
  refine⟨F1,ds,R1.fh,q,by rw[q.length,hl],?_⟩
  cases e:fn ds with
  | ok d=>rw[e] at o1;exact o1
  | ex n=>rw[e] at o1;exact λH' s=>o1 H' (R1.gr.hh.trans s)
  | no=>rw[e] at o1;exact o1
 ·exact o1.elim
end
def D.fl:D->Bool
 | .non=>true
 | .bl _=>true
 | .int _=>true
 | .str _=>true
 | _=>false
def D.toV:D->V
 | .bl b=>.bl b
 | .int i=>.int i
 | .str l=>.str (T l)
 | _=>.non
def uh:D->D->Option D
 | .int i,.int j=>some (.int (i+j))
 | _,_=>none
def zfn:D->D->Option D
 | .int i,.int j=>some (.int (i - j))
 | _,_=>none
instance (i:Int):Decidable (Sm i):=inferInstanceAs (Decidable (i.natAbs<2 ^ 4000))
def zfp:D->D->Option D
 | .int i,.int j=>if Sm i/\Sm j then some (.int (i*j)) else none
 | _,_=>none
def zgM:D->D->Option D
 | .int i,.int j=>if 0<j then some (.int (i % j)) else none
 | _,_=>none
def zcp:D->D->Option D
 | .int i,.int j=>if 0<j/\Sm j then some (.int (i / j)) else none
 | _,_=>none
def zdc:D->D->Option D
 | .str l,.str m=>if l.length+m.length<=1000000 then some (.str (l++m)) else none
 | _,_=>none
def ltI:D->D->Option D
 | .int i,.int j=>some (.bl (decide (i<j)))
 | _,_=>none
def leI:D->D->Option D
 | .int i,.int j=>some (.bl (decide (i<=j)))
 | _,_=>none
def gtI:D->D->Option D
 | .int i,.int j=>some (.bl (decide (j<i)))
 | _,_=>none
def geI:D->D->Option D
 | .int i,.int j=>some (.bl (decide (j<=i)))
 | _,_=>none
def ltS:D->D->Option D
 | .str l,.str m=>some (.bl (decide (l<m)))
 | _,_=>none
def eqD (neg:Bool)(a b:D):Option D:=if a.pl=true/\b.pl=true/\a.py.depth<=60 then some (.bl (if neg then !PyData.eqv a.py b.py else PyData.eqv a.py b.py)) else none
def inQ (neg:Bool)(x:D)(ds:List D):Option D:=if x.fl=true/\ds.all D.fl=true then some (.bl (if neg then !inV x.toV (ds.map D.toV) else inV x.toV (ds.map D.toV))) else none
def inD (neg:Bool)(x:D):D->Option D
 | .lst ds=>inQ neg x ds
 | .tup ds=>inQ neg x ds
 | _=>none
def inC (neg:Bool):D->D->Option D
 | .str [c],.str l=>some (.bl (if neg then !decide (c∈l) else decide (c∈l)))
 | _,_=>none
def ixD:D->D->Option D
 | .lst ds,.int i=>atI ds i
 | .tup ds,.int i=>atI ds i
 | .str l,.int i=>(atI l i).map λc=>.str [c]
 | _,_=>none
def zcu {α:Type}(xs:List α)(lo hi:Option Int):List α:=(xs.drop (HT.sIx xs.length 0 lo)).take (HT.sIx xs.length xs.length hi - HT.sIx xs.length 0 lo)
def slD:D->Option Int->Option Int->Option D
 | .lst ds,lo,hi=>some (.lst (zcu ds lo hi))
 | .tup ds,lo,hi=>some (.tup (zcu ds lo hi))
 | .str l,lo,hi=>some (.str (zcu l lo hi))
 | _,_,_=>none
section
variable {K:PySem.W.Frag}{cl:Nat->Addr}{F H:Hp}
theorem Dt.flat {v:V}{d:D}(q:Dt K cl F v d)(h:d.fl=true):v=d.toV/\um v=true:=by
 cases q <;>first|exact⟨rfl,rfl⟩|(simp[D.fl] at h)
theorem Dts.flat:∀{vs:List V}{ds:List D},Dts K cl F vs ds->ds.all D.fl=true->vs=ds.map D.toV/\vs.all um=true
 | _,_,.nil,_=>⟨rfl,rfl⟩
 | _,_,.cons q r,h=>by
  rw[lbe,lQ] at h
  obtain⟨e1,e2⟩:=q.flat h.1
  obtain⟨e3,e4⟩:=Dts.flat r h.2
  exact⟨by rw[lC,← e1,← e3],by rw[lbe,e2,e4];rfl⟩
def I2 (f:Int->Int->Option D):D->D->Option D
 | .int i,.int j=>f i j
 | _,_=>none
theorem zk7 {f:Int->Int->Option D}{a b d:D}(e:I2 f a b=some d):∃i j,a=.int i/\b=.int j/\f i j=some d:=by
 cases a with
 | int i =>
  cases b with
  | int j=>exact⟨i,j,rfl,rfl,e⟩
  | _=>cases e
 | _=>cases e
def S2 (f:List Nat->List Nat->Option D):D->D->Option D
 | .str i,.str j=>f i j
 | _,_=>none
theorem zlk {f:List Nat->List Nat->Option D}{a b d:D}(e:S2 f a b=some d):∃i j,a=.str i/\b=.str j/\f i j=some d:=by
 cases a with
 | str i =>
  cases b with
  | str j=>exact⟨i,j,rfl,rfl,e⟩
  | _=>cases e
 | _=>cases e
theorem Dt.intE {v:V}{i:Int}(q:Dt K cl F v (.int i)):v=.int i:=by cases q;rfl
theorem Dt.strE {v:V}{l:List Nat}(q:Dt K cl F v (.str l)):v=.str (T l)/\TxtOk (T l):=by cases q with|str _ ok=>exact⟨rfl,ok⟩
theorem zoZ {f:Int->Int->D}{r:Int->Int->V}(hf:∀{F:Hp} i j,Dt K cl F (r i j) (f i j)):Op2 K cl (rI0 r) (I2 λi j=>some (f i j)):=λF H x y a b d Q s qa qb e k=>by
 obtain⟨i,j,rfl,rfl,e1⟩:=zk7 e
 obtain rfl:=qa.intE
 obtain rfl:=qb.intE
 obtain rfl:=lc e1
 exact⟨_,_,rfl,rfl,k _ _ _ (Gr.refl s) (hf i j)⟩
theorem zpY {c:Int->Int->Prop} [∀i j,Decidable (c i j)]{f:Int->Int->Int}:Op2 K cl (rI c λi j=>.int (f i j)) (I2 λi j=>if c i j then some (.int (f i j)) else none):=λF H x y a b d Q s qa qb e k=>by
 obtain⟨i,j,rfl,rfl,e1⟩:=zk7 e
 obtain rfl:=qa.intE
 obtain rfl:=qb.intE
 by_cases h:c i j
 ·rw[lB h] at e1
  obtain rfl:=lc e1
  exact⟨_,_,rfl,rfl,h,k _ _ _ (Gr.refl s) (.int _)⟩
 ·rw[lW h] at e1;cases e1
theorem wV:Op2 K cl (rI0 λi j=>.int (i+j)) uh:=zoZ λ_ _=>.int _
theorem zkX:Op2 K cl (rI0 λi j=>.int (i - j)) zfn:=zoZ λ_ _=>.int _
theorem zaH:Op2 K cl (rI (λi j=>Sm i/\Sm j) λi j=>.int (i*j)) zfp:=zpY
theorem zbx:Op2 K cl (rI (λ_ j=>0<j) λi j=>.int (i % j)) zgM:=zpY
theorem zbi:Op2 K cl (rI (λ_ j=>0<j/\Sm j) λi j=>.int (i / j)) zcp:=zpY
theorem zcs:Op2 K cl (λx y H Q=>∃l m,x=.str (T l)/\y=.str (T m)/\l.length+m.length<=1000000/\Q (.str (T (l++m))) H) zdc:=λF H x y a b d Q s qa qb e k=>by
 obtain⟨l,m,rfl,rfl,e1⟩:=zlk (f:=λl m=>if l.length+m.length<=1000000 then some (.str (l++m)) else none) e
 obtain⟨rfl,ok⟩:=qa.strE
 obtain⟨rfl,ok2⟩:=qb.strE
 split at e1
 ·rename_i h
  obtain rfl:=lc e1
  refine⟨_,_,rfl,rfl,h,k _ _ _ (Gr.refl s) (.str _ ?_)⟩
  rw[← zod]
  exact TxtOk.app ok ok2 (by rw[zbF,zbF];exact h)
 ·cases e1
theorem zn4:Op2 K cl (rI0 λi j=>.bl (decide (i<j))) ltI:=zoZ λ_ _=>.bl _
theorem zel:Op2 K cl (rI0 λi j=>.bl (decide (i<=j))) leI:=zoZ λ_ _=>.bl _
theorem zpx:Op2 K cl (λx y H Q=>∃i j,x=.str i/\y=.str j/\Q (.bl (decide (i.cps.toList<j.cps.toList))) H) ltS:=λF H x y a b d Q s qa qb e k=>by
 obtain⟨l,m,rfl,rfl,e1⟩:=zlk (f:=λl m=>some (.bl (decide (l<m)))) e
 obtain⟨rfl,ok⟩:=qa.strE
 obtain⟨rfl,ok2⟩:=qb.strE
 obtain rfl:=lc e1
 refine⟨_,_,rfl,rfl,?_⟩
 rw[zcD,zcD]
 exact k _ _ _ (Gr.refl s) (.bl _)
theorem zjt:Op2 K cl (zp4 K) (eqD false):=λF H x y a b d Q s qa qb e k=>by
 unfold eqD at e
 split at e
 ·rename_i h
  obtain rfl:=lc e
  exact⟨_,_,(qa.is h.1).mono s,(qb.is h.2.1).mono s,h.2.2,k _ _ _ (Gr.refl s) (.bl _)⟩
 ·cases e
theorem zi2:Op2 K cl (zqk K) (eqD true):=λF H x y a b d Q s qa qb e k=>by
 unfold eqD at e
 split at e
 ·rename_i h
  obtain rfl:=lc e
  exact⟨_,_,(qa.is h.1).mono s,(qb.is h.2.1).mono s,h.2.2,k _ _ _ (Gr.refl s) (.bl _)⟩
 ·cases e
theorem zh1 {neg:Bool}{x:V}{a d:D}{p:Addr}{vs:List V}{ds:List D}{Q:VK}(s:Same F H)(qa:Dt K cl F x a)(sq:SqL K H p vs∨SqT K H p vs)(dq:Dts K cl F vs ds)(e:inQ neg a ds=some d)(k:∀v H' F',Gr F H F' H'->Dt K cl F' v d->Q v H'):rIn K neg x (.ref p) H Q:=by
 unfold inQ at e
 split at e
 ·rename_i h
  obtain rfl:=lc e
  obtain⟨e1,e2⟩:=qa.flat h.1
  obtain⟨e3,e4⟩:=dq.flat h.2
  refine⟨p,vs,rfl,sq,e2,e4,?_⟩
  rw[e1,e3]
  exact k _ _ _ (Gr.refl s) (.bl _)
 ·cases e
theorem zqt {neg:Bool}:Op2 K cl (rIn K neg) (inD neg):=λF H x y a b d Q s qa qb e k=>by
 cases qb with
 | lst sq dq=>exact zh1 s qa (.inl (s.seq sq)) dq e k
 | tup sq dq=>exact zh1 s qa (.inr (s.seqT sq)) dq e k
 | _=>cases e
theorem zie {neg:Bool}{a b d:D}(e:inC neg a b=some d):∃c l,a=.str [c]/\b=.str l/\d=.bl (if neg then !decide (c∈l) else decide (c∈l)):=by
 cases a with
 | str l =>
  match l,e with
  | [c],e =>
   cases b with
   | str m=>exact⟨c,m,rfl,rfl,(lc e).symm⟩
   | _=>cases e
 | _=>cases e
theorem zpE:Op2 K cl zp1 (inC false):=λF H x y a b d Q s qa qb e k=>by
 obtain⟨c,l,rfl,rfl,rfl⟩:=zie e
 obtain⟨rfl,_⟩:=qa.strE
 obtain⟨rfl,_⟩:=qb.strE
 exact⟨c,l,rfl,rfl,k _ _ _ (Gr.refl s) (.bl _)⟩
theorem zjy:Op2 K cl (λx y H Q=>∃c l,x=.str (T [c])/\y=.str (T l)/\Q (.bl (!decide (c∈l))) H) (inC true):=λF H x y a b d Q s qa qb e k=>by
 obtain⟨c,l,rfl,rfl,rfl⟩:=zie e
 obtain⟨rfl,_⟩:=qa.strE
 obtain⟨rfl,_⟩:=qb.strE
 exact⟨c,l,rfl,rfl,k _ _ _ (Gr.refl s) (.bl _)⟩
theorem Dts.at {vs:List V}{ds:List D}{i:Int}{d:D}(q:Dts K cl F vs ds)(e:atI ds i=some d):∃v,atI vs i=some v/\Dt K cl F v d:=by
 unfold atI at e ⊢
 rw[q.length]
 cases h:ixN ds.length i with
 | none=>rw[h] at e;cases e
 | some j =>
  rw[h] at e
  exact q.get' e
theorem ziy {l m:List Nat}(ok:TxtOk (T l))(h:∀c∈m,c∈l)(hl:m.length<=1000000):TxtOk (T m):=by
 refine jd (λc hc=>?_) hl
 have a:(T l).cps.all (· < 0x110000)=true:=ok.1
 simp only[T,lcd,lal,lbi] at a
 exact a c (h c hc)
theorem zqe {l:List Nat}{c:Nat}(ok:TxtOk (T l))(h:c∈l):TxtOk (T [c]):=ziy ok (λd hd=>by rw[lI.mp hd];exact h) (Nat.le_add_left 1 999999)
theorem zlu {a b d:D}(e:ixD a b=some d):∃i,b=.int i:=by
 cases b with
 | int i=>exact⟨i,rfl⟩
 | _=>cases a <;>cases e
theorem zpM:Op2 K cl (rIx K) ixD:=λF H x y a b d Q s qa qb e k=>by
 obtain⟨i,rfl⟩:=zlu e
 obtain rfl:=qb.intE
 ·cases qa with
  | lst sq dq =>
   obtain⟨v,h1,h2⟩:=dq.at e
   exact .inl ⟨_,_,_,_,rfl,rfl,s.seq sq,h1,k _ _ _ (Gr.refl s) h2⟩
  | tup sq dq =>
   obtain⟨v,h1,h2⟩:=dq.at e
   exact .inr (.inl ⟨_,_,_,_,rfl,rfl,s.seqT sq,h1,k _ _ _ (Gr.refl s) h2⟩)
  | str l ok =>
   have e':(atI l i).map (λc=>D.str [c])=some d:=e
   cases h:atI l i with
   | none=>rw[h] at e';cases e'
   | some c =>
    rw[h] at e'
    obtain rfl:=lc e'
    refine .inr (.inr ⟨T l,i,c,rfl,rfl,sz6 ok.2,by rw[zcD];exact h,k _ _ _ (Gr.refl s) (.str [c] (zqe ok ?_))⟩)
    unfold atI at h
    cases h2:ixN l.length i with
    | none=>rw[h2] at h;cases h
    | some j=>rw[h2] at h;exact laD h
  | _=>cases e
end
def tDS (K:PySem.W.Frag)(cl:Nat->Addr)(E:XK)(g:Rho->Out):TS:=λDn σ H=>∃H0 F0 ρ F,Rl K cl H0 F0 ρ σ H F/\OutS K cl E H0 F0 F (g ρ) Dn
def XS (X:Cx)(cl:Nat->Addr)(E:XK)(st:Stmt)(g:Rho->Out):Prop:=PS X st (tDS X.K cl E g)
def XSs (X:Cx)(cl:Nat->Addr)(E:XK)(st:List Stmt)(g:Rho->Out):Prop:=PSs X st (tDS X.K cl E g)
def sNx:Rho->Out:=λρ=>.nx ρ
def yr (g h:Rho->Out):Rho->Out:=λρ=>match g ρ with | .nx ρ'=>h ρ'|o=>o
def wz (f:Rho->Rs D):Rho->Out:=λρ=>match f ρ with | .ok d=>.rt d | .ex n=>.ex n | .no=>.no
def zby (f:Rho->Rs D):Rho->Out:=λρ=>match f ρ with | .ok _=>.nx ρ | .ex n=>.ex n | .no=>.no
def xR (i:Nat)(f:Rho->Rs D):Rho->Out:=λρ=>match f ρ with | .ok d=>.nx (ρ.set i (.fz d)) | .ex n=>.ex n | .no=>.no
def sIf (ft:Rho->Rs Bool)(g h:Rho->Out):Rho->Out:=λρ=>match ft ρ with | .ok true=>g ρ | .ok false=>h ρ | .ex n=>.ex n | .no=>.no
def zbH (i j:Nat)(f:Rho->Rs D):Rho->Out:=λρ=>match f ρ with | .ok (.tup [a,b])=>.nx ((ρ.set i (.fz a)).set j (.fz b)) | .ok _=>.no | .ex n=>.ex n | .no=>.no
def zch (i:Nat)(g:Rho->Out):Rho->Out:=λρ=>match ρ[i]? with|some (.ow ds)=>g (ρ.set i (.fz (.lst ds)))|_=>.no
def zai (g:Rho->Out):Rho->Out:=λρ=>match g ρ with | .ex _=>.no|o=>o
def forD (i:Nat)(g:Rho->Out):List D->Rho->Out
 | [],ρ=>.nx ρ
 | d::ds,ρ=>match g (ρ.set i (.fz d)) with | .nx ρ'=>forD i g ds ρ' | .ct ρ'=>forD i g ds ρ' | .bk ρ'=>.nx ρ'|o=>o
def jn (i:Nat)(fi:Rho->Rs (List D))(g:Rho->Out):Rho->Out:=λρ=>match fi ρ with | .ok ds=>forD i g ds ρ | .ex n=>.ex n | .no=>.no
def whD (ft:Rho->Rs Bool)(g:Rho->Out):Nat->Rho->Out
 | 0,_=>.no
 | n+1,ρ=>match ft ρ with
  | .ok true=>(match g ρ with | .nx ρ'=>whD ft g n ρ' | .ct ρ'=>whD ft g n ρ' | .bk ρ'=>.nx ρ'|o=>o)
  | .ok false=>.nx ρ
  | .ex n=>.ex n
  | .no=>.no
def sWh (n:Nat)(ft:Rho->Rs Bool)(g:Rho->Out):Rho->Out:=whD ft g n
def owL (ρ:Rho)(i:Nat):Option (List D):=match ρ[i]? with|some (.ow ds)=>some ds|_=>none
theorem zdC {ρ:Rho}{i:Nat}{ds:List D}(h:owL ρ i=some ds):ρ[i]? = some (.ow ds):=by
 unfold owL at h
 split at h
 ·rename_i e;rw[e,lc h]
 ·cases h
def zbj (i:Nat)(f:Rho->Rs D):Rho->Out:=λρ=>match owL ρ i with
 | some ds=>(match f ρ with | .ok d=>if ds.length<1000000 then .nx (ρ.set i (.ow (ds++[d]))) else .no | .ex n=>.ex n | .no=>.no)
 | none=>.no
section
variable {K:PySem.W.Frag}{cl:Nat->Addr}{E:XK}{H0 F0 F F1:Hp}
theorem OutS.grow {o:Out}{Dn:Ends}(h:OutS K cl E H0 F0 F o Dn)(s:Same F F1):OutS K cl E H0 F0 F1 o Dn:=by
 cases o with
 | nx ρ=>exact λσ H F' R q=>h σ H F' R (s.trans q)
 | bk ρ=>exact λσ H F' R q=>h σ H F' R (s.trans q)
 | ct ρ=>exact λσ H F' R q=>h σ H F' R (s.trans q)
 | rt d=>exact h
 | ex n=>exact h
 | no=>exact h
end
section
variable {X:Cx}{cl:Nat->Addr}{E:XK}{st:Stmt}{rest:List Stmt}{g h:Rho->Out}{f:Rho->Rs D}{e:Expr}{pos:Pos}
def XS' (X:Cx)(cl:Nat->Addr)(E:XK)(st:Stmt)(g:Rho->Out):Prop:=∃t:TS,PS X st t/\∀(H0 F0:Hp) (ρ:Rho) (σ:St) (H F:Hp) (Dn:Ends),Rl X.K cl H0 F0 ρ σ H F->OutS X.K cl E H0 F0 F (g ρ) Dn->t Dn σ H
def XSs' (X:Cx)(cl:Nat->Addr)(E:XK)(st:List Stmt)(g:Rho->Out):Prop:=∃t:TS,PSs X st t/\∀(H0 F0:Hp) (ρ:Rho) (σ:St) (H F:Hp) (Dn:Ends),Rl X.K cl H0 F0 ρ σ H F->OutS X.K cl E H0 F0 F (g ρ) Dn->t Dn σ H
theorem XS.ex (h:XS X cl E st g):XS' X cl E st g:=⟨_,h,λH0 F0 ρ σ H F Dn R o=>⟨H0,F0,ρ,F,R,o⟩⟩
theorem XSs.ex (h:XSs X cl E rest g):XSs' X cl E rest g:=⟨_,h,λH0 F0 ρ σ H F Dn R o=>⟨H0,F0,ρ,F,R,o⟩⟩
theorem XS'.out (h:XS' X cl E st g):XS X cl E st g:=let ⟨_,pt,rt⟩:=h;λpins s σ H Dn I ⟨H0,F0,ρ,F,R,o⟩=>pt pins s σ H Dn I (rt H0 F0 ρ σ H F Dn R o)
theorem XSs'.out (h:XSs' X cl E rest g):XSs X cl E rest g:=let ⟨_,pt,rt⟩:=h;λpins s σ H Dn I ⟨H0,F0,ρ,F,R,o⟩=>pt pins s σ H Dn I (rt H0 F0 ρ σ H F Dn R o)
theorem wX:XSs X cl E [] sNx:=XSs'.out ⟨_,zir,λH0 F0 ρ σ H F Dn R o=>o σ H F R (Same.refl _)⟩
theorem zA (h:XS X cl E st g):XSs X cl E [st] g:=let ⟨t,pt,rt⟩:=h.ex;XSs'.out ⟨t,zaq pt,rt⟩
theorem zy (h1:XS X cl E st g)(h2:XSs X cl E rest h):XSs X cl E (st::rest) (yr g h):=by
 obtain⟨t,pt,rt⟩:=h1.ex
 obtain⟨u,pu,ru⟩:=h2.ex
 refine XSs'.out ⟨_,jG pt pu,λH0 F0 ρ σ H F Dn R o=>rt H0 F0 ρ σ H F _ R ?_⟩
 unfold yr at o
 cases e:g ρ with
 | nx ρ'=>rw[e] at o;exact λσ' H' F' R' s=>ru H0 F0 ρ' σ' H' F' Dn R' (o.grow s)
 | bk ρ'=>rw[e] at o;exact o
 | ct ρ'=>rw[e] at o;exact o
 | rt d=>rw[e] at o;exact o
 | ex n=>rw[e] at o;exact o
 | no=>rw[e] at o;exact o
theorem yo (h:XE X cl E e f):XS X cl E (.Return (some e) pos) (wz f):=by
 obtain⟨t,pt,rt⟩:=h.ex
 refine XS'.out ⟨_,zeZ pt,λH0 F0 ρ σ H F Dn R o=>rt H0 F0 ρ σ H F _ R ?_⟩
 unfold wz at o
 cases e:f ρ with
 | ok d=>rw[e] at o;exact λv H' F' gg q=>o v H' F' (R.gr.trans gg) q
 | ex n=>rw[e] at o;exact o
 | no=>rw[e] at o;exact o
theorem yw {i:Nat}{x:Str}{pos':Pos}(hN:X.N.Nodup)(hi:X.N[i]? = some x)(hx:Loc X.env.scope x)(he:XE X cl E e f)(hs:swapsWith e (some (.Name x pos')) pos.line X.env=pure false:=by rfl)(hf:X.fn x=true∨X.env.scope.names.lookup x=some .local:=by first|exact .inl rfl|exact .inr rfl|assumption) :
  XS X cl E (.Assign [.Name x pos'] e pos) (xR i f):=by
 obtain⟨t,pt,rt⟩:=he.ex
 refine XS'.out ⟨_,zeX hN hi hx pt hs hf,λH0 F0 ρ σ H F Dn R o=>rt H0 F0 ρ σ H F _ R ?_⟩
 unfold xR at o
 cases e:f ρ with
 | ok d=>rw[e] at o;exact λv H' F' gg q=>o _ H' F' ((R.grow gg).set q) gg.ff
 | ex n=>rw[e] at o;exact o
 | no=>rw[e] at o;exact o
theorem za2 {c:Expr}{a b:List Stmt}{ft:Rho->Rs Bool}(hc:XT X cl E c ft)(ha:XSs X cl E a g)(hb:XSs X cl E b h):XS X cl E (.If c a b pos) (sIf ft g h):=by
 obtain⟨t,pt,rt⟩:=hc.ex
 obtain⟨u,pu,ru⟩:=ha.ex
 obtain⟨w,pw,rw'⟩:=hb.ex
 refine XS'.out ⟨_,znm pt pu pw,λH0 F0 ρ σ H F Dn R o=>rt H0 F0 ρ σ H F _ R ?_⟩
 unfold sIf at o
 cases e:ft ρ with
 | ok b =>
  rw[e] at o
  intro H' F' gg
  cases b with
  | true=>exact ru H0 F0 ρ σ H' F' Dn (R.grow gg) (o.grow gg.ff)
  | false=>exact rw' H0 F0 ρ σ H' F' Dn (R.grow gg) (o.grow gg.ff)
 | ex n=>rw[e] at o;exact o
 | no=>rw[e] at o;exact o
theorem j5 (h:XS X.nox cl E0 st g):XS X cl E st (zai g):=by
 obtain⟨t,pt,rt⟩:=h.ex
 refine XS'.out ⟨_,pt.nox,λH0 F0 ρ σ H F Dn R o=>rt H0 F0 ρ σ H F _ R ?_⟩
 unfold zai at o
 cases e:g ρ with
 | nx ρ'=>rw[e] at o;exact o
 | bk ρ'=>rw[e] at o;exact o
 | ct ρ'=>rw[e] at o;exact o
 | rt d=>rw[e] at o;exact o
 | ex n=>rw[e] at o;exact o.elim
 | no=>rw[e] at o;exact o
theorem zdd {i:Nat}(h:XS X cl E st g):XS X cl E st (zch i g):=by
 obtain⟨t,pt,rt⟩:=h.ex
 refine XS'.out ⟨_,pt,λH0 F0 ρ σ H F Dn R o=>?_⟩
 unfold zch at o
 split at o
 ·rename_i ds e
  obtain⟨F',s,R'⟩:=R.ice e
  exact rt H0 F0 _ σ H F' Dn R' (o.grow s)
 ·exact o.elim
theorem zdK {c:Expr}{body:List Stmt}{ft:Rho->Rs Bool}(n:Nat)(hp:PassesOwn (model X.prog X.w) X.A X.env X.xe)(hc:XT X cl E c ft)(hb:XSs X cl E body g):XS X cl E (.While c body [] pos) (sWh n ft g):=by
 obtain⟨t,pt,rt⟩:=hc.ex
 obtain⟨u,pu,ru⟩:=hb.ex
 refine XS'.out ⟨_,zj0 hp pt pu,λH0 F0 ρ σ H F Dn R o=>?_⟩
 refine⟨λm σ H=>∃ρ F',Rl X.K cl H0 F0 ρ σ H F'/\OutS X.K cl E H0 F0 F' (whD ft g m ρ) Dn,⟨n,ρ,F,R,o⟩,?_⟩
 rintro m σ1 H1 ⟨ρ1,F1,R1,o1⟩
 cases m with
 | zero=>exact o1.elim
 | succ m =>
  refine rt H0 F0 ρ1 σ1 H1 F1 _ R1 ?_
  unfold whD at o1
  cases e:ft ρ1 with
  | ok b =>
   rw[e] at o1
   intro H2 F2 gg
   have R2:=R1.grow gg
   cases b with
   | false=>exact o1 σ1 H2 F2 R2 gg.ff
   | true =>
    refine⟨λσ H=>∃ρ F',Rl X.K cl H0 F0 ρ σ H F'/\OutS X.K cl E H0 F0 F' (whD ft g m ρ) Dn,λσ' H' p=>⟨m,lcG _,p⟩,ru H0 F0 ρ1 σ1 H2 F2 _ R2 ?_⟩
    have o2:=o1.grow gg.ff
    cases e2:g ρ1 with
    | nx ρ'=>simp only[e2] at o2;exact λσ' H' F' R' s=>⟨ρ',F',R',o2.grow s⟩
    | ct ρ'=>simp only[e2] at o2;exact λσ' H' F' R' s=>⟨ρ',F',R',o2.grow s⟩
    | bk ρ'=>simp only[e2] at o2;exact o2
    | rt d=>simp only[e2] at o2;exact o2
    | ex n=>simp only[e2] at o2;exact o2
    | no=>simp only[e2] at o2;exact o2
  | ex n=>rw[e] at o1;exact o1
  | no=>rw[e] at o1;exact o1
def OutI (K:PySem.W.Frag)(cl:Nat->Addr)(E:XK)(H0 F H:Hp)(r:Rs (List D))(Q:It->Hp->Prop):Prop :=
 match r with
 | .ok ds=>∀J G vs H' F',Gr F H F' H'->Wlk J G vs->(∀H'',Same F' H''->G H'')->Dts K cl F' vs ds->Q J H'
 | .ex n=>∀H',Same H0 H'->E (.ref (cl n)) none H'
 | .no=>False
def tDI (K:PySem.W.Frag)(cl:Nat->Addr)(E:XK)(f:Rho->Rs (List D)):TI:=λσ H Q=>∃H0 F0 ρ F,Rl K cl H0 F0 ρ σ H F/\OutI K cl E H0 F H (f ρ) Q
def XI (X:Cx)(cl:Nat->Addr)(E:XK)(tg e:Expr)(f:Rho->Rs (List D)):Prop:=PI X tg e (tDI X.K cl E f)
theorem XI.mk {tg:Expr}{fi:Rho->Rs (List D)}{t:TI}(pt:PI X tg e t)(rt:∀(H0 F0:Hp) (ρ:Rho) (σ:St) (H F:Hp) (Q:It->Hp->Prop),Rl X.K cl H0 F0 ρ σ H F->OutI X.K cl E H0 F H (fi ρ) Q->t σ H Q):XI X cl E tg e fi :=
 λpins s σ H Q I ⟨H0,F0,ρ,F,R,o⟩=>pt pins s σ H Q I (rt H0 F0 ρ σ H F Q R o)
def lsD:D->Option (List D)
 | .lst ds=>some ds
 | _=>none
def tpD:D->Option (List D)
 | .tup ds=>some ds
 | _=>none
def sgD:D->Option (List D)
 | .str l=>some (l.map λc=>.str [c])
 | _=>none
def fI (g:D->Option (List D))(f:Rho->Rs D):Rho->Rs (List D):=λρ=>(f ρ).bind λd=>match g d with|some ds=>.ok ds|none=>.no
theorem OutI.fst {K:PySem.W.Frag}{H0 F H:Hp}{r:Rs D}{k:D->Rs (List D)}{Q:It->Hp->Prop}{P:VK}(h:OutI K cl E H0 F H (r.bind k) Q)(z:∀d v H1 F1,Gr F H F1 H1->Dt K cl F1 v d->OutI K cl E H0 F1 H1 (k d) Q->P v H1):OutE K cl E H0 F H r P:=by
 cases r with
 | ok d =>
  refine λv H' F' g' q=>z d v H' F' g' q ?_
  have h':OutI K cl E H0 F H (k d) Q:=h
  cases e:k d with
  | ok ds=>rw[e] at h';exact λJ G vs H2 F2 g2=>h' J G vs H2 F2 (g'.trans g2)
  | ex n=>rw[e] at h';exact h'
  | no=>rw[e] at h';exact h'
 | ex n=>exact h
 | no=>exact h
theorem zck {tg:Expr}(h:XE X cl E e f):XI X cl E tg e (fI lsD f):=by
 obtain⟨t,pt,rt⟩:=h.ex
 refine XI.mk (zlN pt) λH0 F0 ρ σ H F Q R o=>rt H0 F0 ρ σ H F _ R (OutI.fst o λd v H1 F1 g q o1=>?_)
 cases q with
 | lst sq dq =>
  have fh:=(R.grow g).fh
  exact⟨_,rfl,⟨_,fh.seq sq⟩,o1 _ _ _ H1 F1 (Gr.refl fh) zky (λH'' s=>s.seq sq) dq⟩
 | _=>exact o1.elim
theorem zc8 {tg:Expr}(h:XE X cl E e f):XI X cl E tg e (fI tpD f):=by
 obtain⟨t,pt,rt⟩:=h.ex
 refine XI.mk (znt pt) λH0 F0 ρ σ H F Q R o=>rt H0 F0 ρ σ H F _ R (OutI.fst o λd v H1 F1 g q o1=>?_)
 cases q with
 | tup sq dq =>
  have fh:=(R.grow g).fh
  exact⟨_,rfl,⟨_,fh.seqT sq⟩,o1 _ _ _ H1 F1 (Gr.refl fh) zlI (λH'' s=>s.seqT sq) dq⟩
 | _=>exact o1.elim
theorem zfh {K:PySem.W.Frag}{F:Hp}:∀{l:List Nat},(∀c∈l,TxtOk (T [c]))->Dts K cl F (l.map λc=>V.str (T [c])) (l.map λc=>D.str [c])
 | [],_=>.nil
 | c::l,h=>.cons (.str [c] (h c (.head _))) (zfh λd hd=>h d (.tail _ hd))
theorem zgK {tg:Expr}(h:XE X cl E e f):XI X cl E tg e (fI sgD f):=by
 obtain⟨t,pt,rt⟩:=h.ex
 refine XI.mk (zot pt) λH0 F0 ρ σ H F Q R o=>rt H0 F0 ρ σ H F _ R (OutI.fst o λd v H1 F1 g q o1=>?_)
 cases q with
 | str l ok =>
  have fh:=(R.grow g).fh
  have w:=zme (x:=T l) (G:=λ_=>True)
  rw[zcD] at w
  exact⟨_,rfl,o1 _ _ _ H1 F1 (Gr.refl fh) w (λ_ _=>trivial) (zfh λc hc=>zqe ok hc)⟩
 | _=>exact o1.elim
def zc5:List D->Option (List D)
 | [.int j]=>if -(2 ^ 62)<=j/\j<2 ^ 62 then some ((List.range j.toNat).map λ(k:Nat)=>.int (k:Int)) else none
 | _=>none
def fR (g:List D->Option (List D))(fs:Rho->Rs (List D)):Rho->Rs (List D):=λρ=>(fs ρ).bind λds=>match g ds with|some es=>.ok es|none=>.no
theorem OutI.fstA {K:PySem.W.Frag}{H0 F H:Hp}{r:Rs (List D)}{k:List D->Rs (List D)}{Q:It->Hp->Prop}{P:List V->Hp->Prop}(h:OutI K cl E H0 F H (r.bind k) Q)(z:∀d v H1 F1,Gr F H F1 H1->Dts K cl F1 v d->OutI K cl E H0 F1 H1 (k d) Q->P v H1):OutA K cl E H0 F H r P:=by
 cases r with
 | ok d =>
  refine λv H' F' g' q=>z d v H' F' g' q ?_
  have h':OutI K cl E H0 F H (k d) Q:=h
  cases e:k d with
  | ok ds=>rw[e] at h';exact λJ G vs H2 F2 g2=>h' J G vs H2 F2 (g'.trans g2)
  | ex n=>rw[e] at h';exact h'
  | no=>rw[e] at h';exact h'
 | ex n=>exact h
 | no=>exact h
theorem zdH {K:PySem.W.Frag}{F:Hp}{α:Type}{v:α->V}{d:α->D}:∀{l:List α},(∀x∈l,Dt K cl F (v x) (d x))->Dts K cl F (l.map v) (l.map d)
 | [],_=>.nil
 | c::l,h=>.cons (h c (.head _)) (zdH λd hd=>h d (.tail _ hd))
theorem Dts.one {K:PySem.W.Frag}{F:Hp}{vs:List V}{d:D}(q:Dts K cl F vs [d]):∃v,vs=[v]/\Dt K cl F v d:=by
 cases q with
 | cons q r=>cases r;exact⟨_,rfl,q⟩
theorem Dts.two {K:PySem.W.Frag}{F:Hp}{vs:List V}{d e:D}(q:Dts K cl F vs [d,e]):∃v w,vs=[v,w]/\Dt K cl F v d/\Dt K cl F w e:=by
 cases q with
 | cons q r=>obtain⟨w,rfl,q2⟩:=r.one;exact⟨_,_,rfl,q,q2⟩
theorem wj {tg a:Expr}{p:Pos}{fs:Rho->Rs (List D)}(hg:Gl X "range")(hm:X.mg "range" = none)(ha:XA X cl E [a] fs)(hs:starEach [a] X.env=[(false,eval a X.env)]):XI X cl E tg (.Call (.Name "range" p) [a] [] pos) (fR zc5 fs):=by
 obtain⟨t,pt,rt⟩:=ha.ex
 refine XI.mk (zis hg hm pt hs) λH0 F0 ρ σ H F Q R o=>rt H0 F0 ρ σ H F _ R (OutI.fstA o λd v H1 F1 g q o1=>?_)
 match d,q,o1 with
 | [.int j],q,o1 =>
  obtain⟨v',rfl,q1⟩:=q.one
  cases q1
  dsimp only [zc5] at o1
  by_cases h:-(2 ^ 62)<=j/\j<2 ^ 62
  ·rw[lB h] at o1
   refine⟨j,rfl,h.1,h.2,o1 _ (λ_=>True) _ H1 F1 (Gr.refl (R.grow g).fh) zid (λ_ _=>trivial) (zdH λk _=>?_)⟩
   rw[Int.zero_add];exact .int _
  ·rw[lW h] at o1;exact o1.elim
theorem zaK {tg iter:Expr}{body:List Stmt}{fi:Rho->Rs (List D)}{i:Nat}(hp:PassesOwn (model X.prog X.w) X.A X.env X.xe)(hc:X.calm=true)(hi:XI X cl E tg iter fi)(hg:PG X tg (kY i))(hb:XSs X cl E body g)(hs:∀x,foldedSetIterable iter X.env x=pure x:=by intro _;rfl):XS X cl E (.For tg iter body [] pos) (jn i fi g):=by
 obtain⟨u,pu,ru⟩:=hb.ex
 refine XS'.out ⟨_,zio hp hc hi hg pu hs,λH0 F0 ρ σ H F Dn R o=>⟨H0,F0,ρ,F,R,?_⟩⟩
 unfold jn at o
 cases e:fi ρ with
 | ok ds =>
  rw[e] at o
  intro J G vs H1 F1 gg W hG dq
  refine zjo W (λk σ H=>∃ρ' F',Rl X.K cl H0 F0 ρ' σ H F'/\Same F1 F'/\OutS X.K cl E H0 F0 F' (forD i g (ds.drop k) ρ') Dn) ⟨ρ,F1,R.grow gg,Same.refl _,o.grow gg.ff⟩ (λk σ' H' _ ⟨ρ',F',R',s',_⟩=>hG H' (s'.trans R'.fh)) ?_ ?_
  ·rintro k x σ' H' hx ⟨ρ',F',R',s',o'⟩
   obtain⟨d,hd,qd⟩:=dq.get hx
   have hdr:ds.drop k=d::ds.drop (k+1):=by
    obtain⟨hk,e2⟩:=lh.mp hd
    rw[lah hk,e2]
   rw[hdr] at o'
   unfold forD at o'
   refine ru H0 F0 _ _ H' F' _ (R'.set (qd.mono s')) ?_
   cases e2:g (ρ'.set i (.fz d)) with
   | nx ρ2=>simp only[e2] at o';exact λσ2 H2 F2 R2 s2=>⟨ρ2,F2,R2,s'.trans s2,o'.grow s2⟩
   | ct ρ2=>simp only[e2] at o';exact λσ2 H2 F2 R2 s2=>⟨ρ2,F2,R2,s'.trans s2,o'.grow s2⟩
   | bk ρ2=>simp only[e2] at o';exact o'
   | rt d=>simp only[e2] at o';exact o'
   | ex n=>simp only[e2] at o';exact o'
   | no=>simp only[e2] at o';exact o'
  ·rintro σ' H' ⟨ρ',F',R',s',o'⟩
   rw[lae (by rw[dq.length];exact lp _)] at o'
   exact o' σ' H' F' R' (Same.refl _)
 | ex n=>rw[e] at o;exact o
 | no=>rw[e] at o;exact o
end
def qt (n:Nat)(caps:List Nat)(ρ:Rho):Rho:=List.replicate n .no++caps.map λi=>match ρ[i]? with|some (.fz d)=>.fz d|_=>.no
def wA:Rho->Rs Bool:=λ_=>.ok true
def vD (ft:Rho->Rs Bool)(fe:Rho->Rs D)(ρ0:Rho):List D->Rs (List D)
 | []=>.ok []
 | d::ds=>match ft (ρ0.set 0 (.fz d)) with
  | .ok true=>(match fe (ρ0.set 0 (.fz d)) with | .ok e=>(vD ft fe ρ0 ds).bind λes=>.ok (e::es)|_=>.no)
  | .ok false=>vD ft fe ρ0 ds
  | _=>.no
def fCp (fi:Rho->Rs (List D))(ft:Rho->Rs Bool)(fe:Rho->Rs D)(caps:List Nat):Rho->Rs (List D):=λρ=>(fi ρ).bind λds=>if ds.length<=1000000 then vD ft fe (qt 1 caps ρ) ds else .no
def xX (fi:Rho->Rs (List D))(ft:Rho->Rs Bool)(fe:Rho->Rs D)(caps:List Nat):Rho->Rs D:=λρ=>(fCp fi ft fe caps ρ).bind λes=>.ok (.lst es)
def XTs (X:Cx)(cl:Nat->Addr)(E:XK)(ifs:List Expr)(f:Rho->Rs Bool):Prop:=PTs X ifs (tDB X.K cl E f)
section
variable {X:Cx}{cl:Nat->Addr}{E:XK}
theorem vH:XTs X cl E [] wA:=λpins s σ H Q I ⟨H0,F0,ρ,F,R,o⟩=>wpAny_tests_nil ⟨H,I,o H F (Gr.refl R.fh)⟩
theorem zdG {c:Expr}{f:Rho->Rs Bool}(h:XT X cl E c f):XTs X cl E [c] f:=λpins s σ H Q I hq=>wpAny_tests_one (h pins s σ H Q I hq)
theorem zbc {ft:Rho->Rs Bool}{fe:Rho->Rs D}{ρ0:Rho}:∀{ds:List D}{n:Nat},vD ft fe ρ0 ds≠.ex n
 | [],n=>λh=>by cases h
 | d :: ds,n=>λh=>by
  unfold vD at h
  split at h
  ·split at h
   ·cases e:vD ft fe ρ0 ds with
    | ok es=>rw[e] at h;cases h
    | ex m=>exact zbc e
    | no=>rw[e] at h;cases h
   ·cases h
  ·exact zbc h
  ·cases h
theorem Rl.cap {K:PySem.W.Frag}{H0 F0 H F:Hp}{ρ:Rho}{σ:St}(R:Rl K cl H0 F0 ρ σ H F)(own:List Str)(caps:List Nat):Rl K cl H F (qt own.length caps ρ) (zfo own caps σ) H F where
 gr:=Gr.refl R.fh
 len:=by simp[qt,zfo]
 fz := λi d e=>by
  unfold qt at e
  unfold zfo
  rcases lbg i own.length with h|h
  ·rw[lP (by simpa using h),laK,lB h] at e
   cases e
  ·rw [lE (by simpa using h),lbt,lR] at e
   rw[lE (by simpa using h),ly,lR]
   cases c:caps[i - own.length]? with
   | none=>rw[c] at e;cases e
   | some k =>
    rw[c] at e
    have e':=lc e
    dsimp only at e'
    split at e'
    ·rename_i d' z
     injection e' with e'
     subst e'
     obtain⟨v,h1,h2⟩:=R.fz k _ z
     exact⟨v,by show some ((σ[k]?).getD none)=some (some v);rw[h1];rfl,h2⟩
    ·cases e'
 ow := λi d e=>by
  unfold qt at e
  rcases lbg i own.length with h|h
  ·rw[lP (by simpa using h),laK,lB h] at e
   cases e
  ·rw [lE (by simpa using h),lbt,lR] at e
   cases c:caps[i - own.length]? with
   | none=>rw[c] at e;cases e
   | some k =>
    rw[c] at e
    have e':=lc e
    dsimp only at e'
    split at e' <;>cases e'
 od := λi d e=>by
  unfold qt at e
  rcases lbg i own.length with h|h
  ·rw[lP (by simpa using h),laK,lB h] at e
   cases e
  ·rw [lE (by simpa using h),lbt,lR] at e
   cases c:caps[i - own.length]? with
   | none=>rw[c] at e;cases e
   | some k =>
    rw[c] at e
    have e':=lc e
    dsimp only at e'
    split at e' <;>cases e'
 ap := λi j s t a z1 z2 o1 o2 e1 e2=>by
  exfalso
  unfold qt at z1
  rcases lbg i own.length with h|h
  ·rw[lP (by simpa using h),laK,lB h] at z1
   injection z1 with z1;subst z1;cases o1
  ·rw [lE (by simpa using h),lbt,lR] at z1
   cases c:caps[i - own.length]? with
   | none=>rw[c] at z1;cases z1
   | some k =>
    rw[c] at z1
    have e':=lc z1
    dsimp only at e'
    split at e' <;>(subst e';cases o1)
theorem zoi {K:PySem.W.Frag}{H0 F0 H F:Hp}{ρ:Rho}{σ:St}{x:Str}{caps:List Nat}{ft:Rho->Rs Bool}{fe:Rho->Rs D}{ds es:List D}{J:It}{G:Hp->Prop}{vs:List V}{Fn:List V->Hp->Prop}(R:Rl K cl H0 F0 ρ σ H F)(W:Wlk J G vs)(hG:∀H'',Same F H''->G H'')(dq:Dts K cl F vs ds)(hl:ds.length<=1000000)
  (hc:vD ft fe (qt 1 caps ρ) ds=.ok es) (k:∀ys H' F',Gr F H F' H'->Dts K cl F' ys es->Fn ys H'):zcj (kY 0) (tDB K cl E0 ft) (tDE K cl E0 fe) (zfo [x] caps σ) Fn J H:=by
 have hz:vs.length<=sizeLine:=sz6 (dq.length▸hl)
 refine zhG W hz (λi ys H'=>∃F' es1 es2,Gr F H F' H'/\Dts K cl F' ys es1/\ys.length<=i/\es=es1++es2/\vD ft fe (qt 1 caps ρ) (ds.drop i)=.ok es2) ⟨F,[],es,Gr.refl R.fh,.nil,lp _,rfl,hc⟩ (λi ys H' _ ⟨F',_,_,g,_,h1,_⟩=>⟨hG H' (g.ff.trans g.fh),h1⟩) ?_ ?_
 ·rintro i v ys H' hv ⟨F',es1,es2,g,q1,hly,rfl,hc'⟩
  obtain⟨d,hd,qd⟩:=dq.get hv
  have hdr:ds.drop i=d::ds.drop (i+1):=by
   obtain⟨hk,e2⟩:=lh.mp hd
   rw[lah hk,e2]
  rw[hdr] at hc'
  unfold vD at hc'
  have R1:=(R.grow g).cap [x] caps
  have R2:Rl K cl H' F' ((qt 1 caps ρ).set 0 (.fz d)) ((zfo [x] caps σ).set 0 (some v)) H' F':=R1.set (qd.mono g.ff)
  refine⟨Kps.set rfl,H',F',_,F',R2,?_⟩
  cases e1:ft ((qt 1 caps ρ).set 0 (.fz d)) with
  | ok b =>
   rw[e1] at hc'
   intro H2 F2 g2
   cases b with
   | true =>
    rw[lB rfl]
    cases e2:fe ((qt 1 caps ρ).set 0 (.fz d)) with
    | ok e =>
     simp only[e2] at hc'
     refine⟨H',F',_,F2,R2.grow g2,?_⟩
     rw[e2]
     intro y H3 F3 g3 qy
     cases e3:vD ft fe (qt 1 caps ρ) (ds.drop (i+1)) with
     | ok es3 =>
      rw[e3] at hc'
      injection hc' with hc'
      exact⟨F3,es1++[e],es3,g.trans (g2.trans g3),(q1.mono (g2.ff.trans g3.ff)).append (.cons qy .nil),by simp;exact hly,by rw[← hc',laL];rfl,rfl⟩
     | ex n=>rw[e3] at hc';cases hc'
     | no=>rw[e3] at hc';cases hc'
    | ex n=>simp only[e2] at hc';cases hc'
    | no=>simp only[e2] at hc';cases hc'
   | false =>
    rw[lW lv]
    exact⟨F2,es1,es2,g.trans g2,q1.mono g2.ff,Nat.le_succ_of_le hly,rfl,hc'⟩
  | ex n=>rw[e1] at hc';cases hc'
  | no=>rw[e1] at hc';cases hc'
 ·rintro ys H' ⟨F',es1,es2,g,q1,hly,rfl,hc'⟩
  rw[lae (by rw[dq.length];exact lp _)] at hc'
  injection hc' with hc'
  rw[← hc',lD] at k
  exact k ys H' F' g q1
variable {scope:Scope}{x:Str}{caps:List Nat}{elt tg iter:Expr}{ifs:List Expr}{fi:Rho->Rs (List D)}{ft:Rho->Rs Bool}{fe:Rho->Rs D}{pos:Pos}
structure CompD (X:Cx)(cl:Nat->Addr)(scope:Scope)(x:Str)(caps:List Nat)(tg:Expr)(ifs:List Expr)(elt:Expr)(ft:Rho->Rs Bool)(fe:Rho->Rs D):Prop where
 tgt:∀pins C ex s H,PG (cxC X pins scope [x] caps C ex s H) tg (kY 0)
 tst:∀pins C ex s H,XTs (cxC X pins scope [x] caps C ex s H) cl E0 ifs ft
 elm:∀pins C ex s H,XE (cxC X pins scope [x] caps C ex s H) cl E0 elt fe
theorem CompD.ci (h:CompD X cl scope x caps tg ifs elt ft fe):CompIn X scope [x] caps tg ifs elt (kY 0) (tDB X.K cl E0 ft) (tDE X.K cl E0 fe):=⟨h.tgt,h.tst,h.elm⟩
theorem OutI.comp {K:PySem.W.Frag}{H0 F0 H F:Hp}{ρ:Rho}{σ:St}{P:List V->Hp->Prop}(R:Rl K cl H0 F0 ρ σ H F)(o:OutA K cl E H0 F H (fCp fi ft fe caps ρ) P):OutI K cl E H0 F H (fi ρ) λJ H1=>zcj (kY 0) (tDB K cl E0 ft) (tDE K cl E0 fe) (zfo [x] caps σ) P J H1:=by
 unfold fCp at o
 cases e:fi ρ with
 | ok ds =>
  rw[e] at o
  have o1:OutA K cl E H0 F H (if ds.length<=1000000 then vD ft fe (qt 1 caps ρ) ds else .no) P:=o
  intro J G vs H1 F1 g W hG dq
  split at o1
  ·rename_i hl
   cases e2:vD ft fe (qt 1 caps ρ) ds with
   | ok es=>rw[e2] at o1;exact zoi (R.grow g) W hG dq hl e2 λys H' F' g' q=>o1 ys H' F' (g.trans g') q
   | ex n=>exact absurd e2 zbc
   | no=>rw[e2] at o1;exact o1.elim
  ·exact o1.elim
 | ex n=>rw[e] at o;exact o
 | no=>rw[e] at o;exact o
theorem vQ (ok:CompOk X scope caps)(hc:X.calm=true)(hi:XI X cl E tg iter fi)(CI:CompD X cl scope x caps tg ifs elt ft fe)(hs:∀x,foldedSetIterable iter X.env x=pure x:=by intro _;rfl):XE X cl E (.ListComp elt [⟨tg,iter,ifs,0⟩] scope pos) (xX fi ft fe caps):=by
 refine XE'.out ⟨_,zhZ ok hc hi CI.ci hs,λH0 F0 ρ σ H F Q R o=>⟨H0,F0,ρ,F,R,OutI.comp R ?_⟩⟩
 refine OutA.fst o λes ys H' F' g q o1=>?_
 intro p hp
 have fh:=(R.grow g).fh
 exact o1 _ _ _ (Gr.new fh hp) (.lst (.inl (.inl zK)) (q.mono (Same.upd (fh.free hp))))
def vB (j:Nat)(fs:Rho->Rs (List D)):Rho->Out:=λρ=>match fs ρ with | .ok es=>.nx (ρ.set j (.fz (.lst es))) | .ex n=>.ex n | .no=>.no
def vy (j:Nat)(fs:Rho->Rs (List D)):Rho->Out:=λρ=>match fs ρ with | .ok es=>.nx (ρ.set j (.ow es)) | .ex n=>.ex n | .no=>.no
theorem zfO {j:Nat}{y:Str}{py spos:Pos}(hN:X.N.Nodup)(hj:X.N[j]? = some y)(hy:X.env.scope.names.lookup y=some .local)(ok:CompOk X scope caps)(hc:X.calm=true)(hi:XI X cl E tg iter fi)(CI:CompD X cl scope x caps tg ifs elt ft fe)
  (hsw:swapsWith (.ListComp elt [⟨tg,iter,ifs,0⟩] scope pos) (some (.Name y py)) spos.line X.env=pure true) (hs:∀x,foldedSetIterable iter X.env x=pure x:=by intro _;rfl):XS X cl E (.Assign [.Name y py] (.ListComp elt [⟨tg,iter,ifs,0⟩] scope pos) spos) (vB j (fCp fi ft fe caps)):=by
 refine XS'.out ⟨_,zi1 hN hj hy ok hc hi CI.ci hsw hs,λH0 F0 ρ σ H F Dn R o=>⟨H0,F0,ρ,F,R,OutI.comp R ?_⟩⟩
 unfold vB at o
 cases e:fCp fi ft fe caps ρ with
 | ok es =>
  rw[e] at o
  intro ys H' F' g q p hp
  have fh:=(R.grow g).fh
  have g2:Gr F' H' (upd F' p (.lst ys)) (upd H' p (.lst ys)):=Gr.new fh hp
  exact o _ _ _ (((R.grow g).grow g2).set (.lst (.inl (.inl zK)) (q.mono g2.ff))) (g.ff.trans g2.ff)
 | ex n=>rw[e] at o;exact o
 | no=>rw[e] at o;exact o
theorem zks {j:Nat}{y:Str}{py spos:Pos}(hN:X.N.Nodup)(hj:X.N[j]? = some y)(hy:X.env.scope.names.lookup y=some .local)(ok:CompOk X scope caps)(hc:X.calm=true)(hi:XI X cl E tg iter fi)(CI:CompD X cl scope x caps tg ifs elt ft fe)
  (hsw:swapsWith (.ListComp elt [⟨tg,iter,ifs,0⟩] scope pos) (some (.Name y py)) spos.line X.env=pure true) (hs:∀x,foldedSetIterable iter X.env x=pure x:=by intro _;rfl):XS X cl E (.Assign [.Name y py] (.ListComp elt [⟨tg,iter,ifs,0⟩] scope pos) spos) (vy j (fCp fi ft fe caps)):=by
 refine XS'.out ⟨_,zi1 hN hj hy ok hc hi CI.ci hsw hs,λH0 F0 ρ σ H F Dn R o=>⟨H0,F0,ρ,F,R,OutI.comp R ?_⟩⟩
 unfold vy at o
 cases e:fCp fi ft fe caps ρ with
 | ok es =>
  rw[e] at o
  intro ys H' F' g q p hp
  exact o _ _ _ ((R.grow g).setO hp q) g.ff
 | ex n=>rw[e] at o;exact o
 | no=>rw[e] at o;exact o
end
def Fn1 (K:PySem.W.Frag)(cl:Nat->Addr)(r:List V->Hp->VK->Prop)(g:List D->Option D):Prop :=
 ∀(F H:Hp) (vs:List V) (ds:List D) (d:D) (Q:VK),Same F H->Dts K cl F vs ds->g ds=some d->(∀v H' F',Gr F H F' H'->Dt K cl F' v d->Q v H')->r vs H Q
def ul:List D->Option D
 | [.str l]=>some (.int l.length)
 | [.lst l]=>some (.int l.length)
 | [.tup l]=>some (.int l.length)
 | _=>none
def unB:D->Bool
 | .bl b=>b
 | _=>false
def isB:D->Bool
 | .bl _=>true
 | _=>false
def unS:D->List Nat
 | .str l=>l
 | _=>[]
def isS:D->Bool
 | .str _=>true
 | _=>false
def zmS:List D->Option D
 | [.lst ds]=>if ds.all isB=true then some (.bl (ds.all unB)) else none
 | _=>none
def znh:List D->Option D
 | [.lst ds]=>if ds.all isB=true then some (.bl (ds.any unB)) else none
 | _=>none
def zi6 (ds:List D):Option (List D):=if ds.all isS=true/\ds.length<64 then some ((My.sortF (ds.map unS)).map .str) else none
def zif:List D->Option (List D)
 | [.lst ds]=>zi6 ds
 | [.tup ds]=>zi6 ds
 | _=>none
def zp8:List D->Option D
 | [.lst ds]=>some (.tup ds)
 | [.tup ds]=>some (.tup ds)
 | _=>none
def zqj:List D->Option (List D)
 | [.lst ds]=>some ds
 | [.tup ds]=>some ds
 | _=>none
def xg:D->D->Option D
 | .str l,.str m=>some (.bl (m.isPrefixOf l))
 | _,_=>none
def qQ:D->D->Option D
 | .str [],.lst ds=>if ds.all isS=true/\(ds.map unS).flatten.length<=1000000 then some (.str (ds.map unS).flatten) else none
 | _,_=>none
def zcP (g:PyData->Bool)(d:D):Option D:=if d.pl=true then some (.bl (g d.py)) else none
def isInt:PyData->Bool:=λd=>match d with | .int _=>true | .bool _=>true|_=>false
def isBool:PyData->Bool:=λd=>match d with | .bool _=>true|_=>false
def isStr:PyData->Bool:=λd=>match d with | .str _=>true|_=>false
def isTup:PyData->Bool:=λd=>match d with | .tuple _=>true|_=>false
section
variable {K:PySem.W.Frag}{cl:Nat->Addr}{F H:Hp}
theorem Dts.bools:∀{vs:List V}{ds:List D},Dts K cl F vs ds->ds.all isB=true->vs=(ds.map unB).map V.bl
 | _,_,.nil,_=>rfl
 | _,_,.cons q r,h=>by
  rw[lbe,lQ] at h
  have:=Dts.bools r h.2
  cases q <;>simp[isB] at h
  rw[this];rfl
theorem Dts.texts:∀{vs:List V}{ds:List D},Dts K cl F vs ds->ds.all isS=true->vs=vT (ds.map unS)/\(∀x∈ds.map unS,TxtOk (T x))/\ds=(ds.map unS).map .str
 | _,_,.nil,_=>⟨rfl,by simp,rfl⟩
 | _,_,.cons q r,h=>by
  rw[lbe,lQ] at h
  obtain⟨e1,e2,e3⟩:=Dts.texts r h.2
  cases q with
  | str l ok =>
   refine⟨by rw[e1];rfl,λx hx=>?_,by rw[lC,lC,← e3];rfl⟩
   rw[lC] at hx
   rcases lz.mp hx with rfl|hx
   ·exact ok
   ·exact e2 x hx
  | _=>simp[isS] at h
theorem zhU {ls:List (List Nat)}(h:∀x∈ls,TxtOk (T x)):Dts K cl F (vT ls) (ls.map .str):=zdH λx hx=>.str x (h x hx)
theorem n_len:Fn1 K cl (λxs H Q=>∃x n,xs=[x]/\zp3 K x H n/\Q (.int n) H) ul:=λF H vs ds d Q s q e k=>by
 match ds,q,e with
 | [.str l],q,e =>
  obtain⟨v,rfl,q1⟩:=q.one
  obtain rfl:=lc e
  cases q1 with
  | str l ok=>exact⟨_,l.length,rfl,⟨sz6 ok.2,(zbF l).symm⟩,k _ _ _ (Gr.refl s) (.int _)⟩
 | [.lst l],q,e =>
  obtain⟨v,rfl,q1⟩:=q.one
  obtain rfl:=lc e
  cases q1 with
  | lst sq dq=>exact⟨_,l.length,rfl,.inl ⟨_,s.seq sq,dq.length.symm⟩,k _ _ _ (Gr.refl s) (.int _)⟩
 | [.tup l],q,e =>
  obtain⟨v,rfl,q1⟩:=q.one
  obtain rfl:=lc e
  cases q1 with
  | tup sq dq=>exact⟨_,l.length,rfl,.inr ⟨_,s.seqT sq,dq.length.symm⟩,k _ _ _ (Gr.refl s) (.int _)⟩
theorem n_all:Fn1 K cl (λxs H Q=>∃(a:Addr) (bs:List Bool),xs=[.ref a]/\SqL K H a (bs.map V.bl)/\Q (.bl (bs.all id)) H) zmS:=λF H vs ds d Q s q e k=>by
 match ds,q,e with
 | [.lst l],q,e =>
  obtain⟨v,rfl,q1⟩:=q.one
  dsimp only [zmS] at e
  split at e
  ·rename_i h
   obtain rfl:=lc e
   cases q1 with
   | lst sq dq =>
    rw[dq.bools h] at sq
    refine⟨_,_,rfl,s.seq sq,?_⟩
    have:=k _ _ _ (Gr.refl s) (.bl (l.all unB))
    rwa [lck]
  ·cases e
theorem n_any:Fn1 K cl (λxs H Q=>∃(a:Addr) (bs:List Bool),xs=[.ref a]/\SqL K H a (bs.map V.bl)/\Q (.bl (bs.any id)) H) znh:=λF H vs ds d Q s q e k=>by
 match ds,q,e with
 | [.lst l],q,e =>
  obtain⟨v,rfl,q1⟩:=q.one
  dsimp only [znh] at e
  split at e
  ·rename_i h
   obtain rfl:=lc e
   cases q1 with
   | lst sq dq =>
    rw[dq.bools h] at sq
    refine⟨_,_,rfl,s.seq sq,?_⟩
    have:=k _ _ _ (Gr.refl s) (.bl (l.any unB))
    rwa [ldk]
  ·cases e
theorem zpV:Fn1 K cl (λxs H Q=>∃p ys,xs=[.ref p]/\((SqL K H p ys/\∀l,H l=none->Q (.ref l) (upd H l (.tup ys)))∨(SqT K H p ys/\Q (.ref p) H))) zp8:=λF H vs ds d Q s q e k=>by
 match ds,q,e with
 | [.lst l],q,e =>
  obtain⟨v,rfl,q1⟩:=q.one
  obtain rfl:=lc e
  cases q1 with
  | lst sq dq=>exact⟨_,_,rfl,.inl ⟨s.seq sq,λp hp=>k _ _ _ (Gr.new s hp) (.tup (.inl (.inl zK)) (dq.mono (Same.upd (s.free hp))))⟩⟩
 | [.tup l],q,e =>
  obtain⟨v,rfl,q1⟩:=q.one
  obtain rfl:=lc e
  cases q1 with
  | tup sq dq=>exact⟨_,_,rfl,.inr ⟨s.seqT sq,k _ _ _ (Gr.refl s) (.tup sq dq)⟩⟩
end
section
variable {X:Cx}{cl:Nat->Addr}{E:XK}{e o:Expr}{es:List Expr}{fa fb:Rho->Rs D}{fs:Rho->Rs (List D)}{x:Str}{p pos:Pos}
theorem zW {id:String}{r:List V->Hp->VK->Prop}{g:List D->Option D}(hc:jb X (.builtin id) r)(hF:Fn1 X.K cl r g)(hg:Gl X x)(hm:X.mg x=none)(hv:bootBuiltins x=some (.builtin id))(ha:XA X cl E (e::es) fs)(he:starEach (e::es) X.env=(false,eval e X.env)::starEach es X.env)(hn:x ≠ "__name__" := by decide)(hdb:(x == ("__debug__" : Str))=false:=by decide)(hpl:(backTo pos (starEach es X.env)).any (·.1)=false:=by rfl):XE X cl E (.Call (.Name x p) (e::es) [] pos) (fO g fs):=by
 obtain⟨t,pt,rt⟩:=ha.ex
 refine XE'.out ⟨_,zaM hc hg hm hv pt hn hdb he hpl,λH0 F0 ρ σ H F Q R o=>rt H0 F0 ρ σ H F _ R (OutA.fst o λds vs H1 F1 g1 q o1=>?_)⟩
 obtain⟨z,hz,k⟩:=o1.lf
 exact hF F1 H1 vs ds z _ (R.grow g1).fh q hz k
theorem ze3 {T:String}{r:List V->Hp->VK->Prop}{g:List D->Option D}(hc:jb X (.type T) r)(hF:Fn1 X.K cl r g)(hg:Gl X x)(hm:X.mg x=none)(hv:bootBuiltins x=some (.type T))(ha:XA X cl E (e::es) fs)(he:starEach (e::es) X.env=(false,eval e X.env)::starEach es X.env)(hn:x ≠ "__name__" := by decide)(hdb:(x == ("__debug__" : Str))=false:=by decide)(hpl:(backTo pos (starEach es X.env)).any (·.1)=false:=by rfl):XE X cl E (.Call (.Name x p) (e::es) [] pos) (fO g fs):=by
 obtain⟨t,pt,rt⟩:=ha.ex
 refine XE'.out ⟨_,zeg hc hg hm hv pt hn hdb he hpl,λH0 F0 ρ σ H F Q R o=>rt H0 F0 ρ σ H F _ R (OutA.fst o λds vs H1 F1 g1 q o1=>?_)⟩
 obtain⟨z,hz,k⟩:=o1.lf
 exact hF F1 H1 vs ds z _ (R.grow g1).fh q hz k
theorem ze4 {n:String}{b:Expr}{g:PyData->Bool}(hk:∀d,PySem.W.kitOne X.K (.type (tyN d)) (.type n)=some (g d))(hg:Gl X "isinstance")(hm:X.mg "isinstance" = none)(ha:XE X cl E e fa)(hb:PE X b (tC (.ty n)))(h1:starEach [e,b] X.env=(false,eval e X.env)::starEach [b] X.env)(h2:starEach [b] X.env=(false,eval b X.env)::starEach [] X.env:=by rfl)(hpl:(backTo pos (starEach [b] X.env)).any (·.1)=false:=by rfl):XE X cl E (.Call (.Name "isinstance" p) [e,b] [] pos) (f1 (zcP g) fa):=by
 obtain⟨t,pt,rt⟩:=ha.ex
 refine XE'.out ⟨_,zaM ze7 hg hm boot_isinstance (yJ pt (yJ hb vp h2) h1) (by decide) (by decide) h1 hpl,λH0 F0 ρ σ H F Q R o=>rt H0 F0 ρ σ H F _ R (OutE.fst o λd v H1 F1 g1 q o1=>?_)⟩
 obtain⟨z,hz,k⟩:=o1.lf
 unfold zcP at hz
 split at hz
 ·rename_i hp
  obtain rfl:=lc hz
  have fh:=(R.grow g1).fh
  exact⟨v,d.py,n,g d.py,rfl,(q.is hp).mono fh,hk _,k _ _ _ (Gr.refl fh) (.bl _)⟩
 ·cases hz
def fM (chk:D->Bool)(g:D->D->Option D)(fa fb:Rho->Rs D):Rho->Rs D:=λρ=>(fa ρ).bind λa=>if chk a=true then(fb ρ).bind λb=>lf (g a b) else .no
structure Mth (X:Cx)(o e:Expr)(name:Str)(apos cpos:Pos):Prop where
 hs:starEach [e] X.env=(false,eval e X.env)::starEach [] X.env
 base:attributeBase o name X.env (eval o X.env)=eval o X.env
 few:((backTo cpos (starEach [e] X.env)).all (λx=>!x.1)&&(backToKw cpos (keywordEach [] X.env)).all (λx=>x.1.isSome)&&decide (([e]:List Expr).length+([]:List Keyword).length+(if ([]:List Keyword).isEmpty then 0 else 1)<30))=true
 line:(apos.endLine == cpos.line)=true
 plain:(backTo cpos (starEach [] X.env)).any (·.1)=false
theorem qj {apos cpos:Pos}(ho:XE X cl E o fa)(ha:XE X cl E e fb)(m:Mth X o e "startswith" apos cpos):XE X cl E (.Call (.Attribute o "startswith" apos) [e] [] cpos) (fM isS xg fa fb):=by
 obtain⟨t,pt,rt⟩:=ho.ex
 obtain⟨u,pu,ru⟩:=ha.ex
 refine XE'.out ⟨_,zec lcy PySem.F.slot_str_startswith PySem.F.type_str_startswith ziX pt (yJ pu vp m.hs) m.base m.few m.line m.hs m.plain,λH0 F0 ρ σ H F Q R o=>rt H0 F0 ρ σ H F _ R (OutE.fst o λd v H1 F1 g1 q o1=>?_)⟩
 split at o1
 ·rename_i hd
  cases q with
  | str l ok =>
   refine⟨rfl,ru H0 F0 ρ σ H1 F1 _ (R.grow g1) (OutE.fst o1 λd2 v2 H2 F2 g2 q2 o2=>?_)⟩
   obtain⟨z,hz,k⟩:=o2.lf
   cases q2 with
   | str m ok2 =>
    obtain rfl:=lc hz
    exact⟨l,m,rfl,rfl,k _ _ _ (Gr.refl (R.grow (g1.trans g2)).fh) (.bl _)⟩
   | _=>cases hz
  | _=>cases hd
 ·exact o1.elim
theorem zci {apos cpos:Pos}(ho:XE X cl E o fa)(ha:XE X cl E e fb)(m:Mth X o e "join" apos cpos):XE X cl E (.Call (.Attribute o "join" apos) [e] [] cpos) (fM isS qQ fa fb):=by
 obtain⟨t,pt,rt⟩:=ho.ex
 obtain⟨u,pu,ru⟩:=ha.ex
 refine XE'.out ⟨_,zec lcy PySem.F.slot_str_join PySem.F.type_str_join zhT pt (yJ pu vp m.hs) m.base m.few m.line m.hs m.plain,λH0 F0 ρ σ H F Q R o=>rt H0 F0 ρ σ H F _ R (OutE.fst o λd v H1 F1 g1 q o1=>?_)⟩
 split at o1
 ·rename_i hd
  cases q with
  | str l ok =>
   refine⟨rfl,ru H0 F0 ρ σ H1 F1 _ (R.grow g1) (OutE.fst o1 λd2 v2 H2 F2 g2 q2 o2=>?_)⟩
   obtain⟨z,hz,k⟩:=o2.lf
   cases q2 with
   | lst sq dq =>
    rename_i ds
    match l,hz with
    | [],hz =>
     dsimp only [qQ] at hz
     split at hz
     ·rename_i h
      obtain rfl:=lc hz
      obtain⟨e1,e2,e3⟩:=dq.texts h.1
      have fh:=(R.grow (g1.trans g2)).fh
      rw[e1] at sq
      refine⟨_,ds.map unS,rfl,rfl,fh.seq sq,h.2,k _ _ _ (Gr.refl fh) (.str _ (jd (λc hc=>?_) h.2))⟩
      obtain⟨y,hy,hc⟩:=List.mem_flatten.mp hc
      have a:(T y).cps.all (· < 0x110000)=true:=(e2 y hy).1
      simp only[T,lcd,lal,lbi] at a
      exact a c hc
     ·cases hz
    | _::_,hz=>cases hz
   | _=>cases l <;>cases hz
  | _=>cases hd
 ·exact o1.elim
theorem zax {a b:Expr}(ha:XE X cl E a fa)(hb:XE X cl E b fb)(hs:zbV b):XE X cl E (.Subscript a b pos) (f2 ixD fa fb):=by
 obtain⟨t,pt,rt⟩:=ha.ex
 obtain⟨u,pu,ru⟩:=hb.ex
 refine XE'.out ⟨_,zlL zii pt pu hs,λH0 F0 ρ σ H F Q R o=>rt H0 F0 ρ σ H F _ R (OutE.fst o λd v H1 F1 g1 q o1=>?_)⟩
 refine ru H0 F0 ρ σ H1 F1 _ (R.grow g1) (OutE.fst o1 λe w H2 F2 g2 q2 o2=>?_)
 obtain⟨z,hz,k⟩:=o2.lf
 exact zpM F2 H2 v w d e z _ (R.grow (g1.trans g2)).fh (q.mono g2.ff) q2 hz k
def wg:Rho->Rs (Option Int):=λ_=>.ok none
def xK (f:Rho->Rs D):Rho->Rs (Option Int):=λρ=>(f ρ).bind λd=>match d with | .int i=>.ok (some i)|_=>.no
theorem vZ:XO' X cl E none wg:=⟨_,zma,λH0 F0 ρ σ H F Q R o=>o H F (Gr.refl R.fh)⟩
theorem vR (h:XE X cl E e fa):XO' X cl E (some e) (xK fa):=by
 obtain⟨t,pt,rt⟩:=h.ex
 refine⟨_,zmr pt,λH0 F0 ρ σ H F Q R o=>rt H0 F0 ρ σ H F _ R ?_⟩
 unfold xK at o
 cases e:fa ρ with
 | ok d =>
  rw[e] at o
  intro v H' F' g q
  cases q with
  | int i=>exact⟨i,rfl,o H' F' g⟩
  | _=>exact o.elim
 | ex n=>rw[e] at o;exact o
 | no=>rw[e] at o;exact o
def fSl (fa:Rho->Rs D)(fl fh:Rho->Rs (Option Int)):Rho->Rs D:=λρ=>(fa ρ).bind λa=>(fl ρ).bind λl=>(fh ρ).bind λh=>lf (slD a l h)
theorem zjP {α:Type}(xs:List α)(lo hi:Option Int):(zcu xs lo hi).length<=xs.length:=by
 unfold zcu
 rw[lO,lbb];omega
theorem Dts.cut {K:PySem.W.Frag}{F:Hp}{vs:List V}{ds:List D}(q:Dts K cl F vs ds)(lo hi:Option Int):Dts K cl F (zij vs lo hi) (zcu ds lo hi):=by
 unfold zij zcu
 rw[q.length]
 exact(q.drop _).take _
theorem wL {lo hi:Option Expr}{p2:Pos}{fl fh:Rho->Rs (Option Int)}(ha:XE X cl E e fa)(hl:XO' X cl E lo fl)(hh:XO' X cl E hi fh):XE X cl E (.Subscript e (.Slice lo hi none p2) pos) (fSl fa fl fh):=by
 obtain⟨t,pt,rt⟩:=ha.ex
 obtain⟨u,pu,ru⟩:=hl
 obtain⟨w,pw,rw'⟩:=hh
 refine XE'.out ⟨_,zka (SlR.or zlD (SlR.or zlE znS)) pt pu pw,λH0 F0 ρ σ H F Q R o=>rt H0 F0 ρ σ H F _ R (OutE.fst o λd v H1 F1 g1 q o1=>?_)⟩
 refine ru H0 F0 ρ σ H1 F1 _ (R.grow g1) ?_
 cases e1:fl ρ with
 | ok l =>
  rw[e1] at o1
  intro H2 F2 g2
  refine rw' H0 F0 ρ σ H2 F2 _ ((R.grow g1).grow g2) ?_
  cases e2:fh ρ with
  | ok h =>
   rw[e2] at o1
   intro H3 F3 g3
   have o3:OutE X.K cl E H0 F3 H3 (lf (slD d l h)) Q:=OutE.grow o1 (g2.trans g3)
   obtain⟨z,hz,k⟩:=o3.lf
   have fh:=(((R.grow g1).grow g2).grow g3).fh
   have q3:=q.mono (g2.trans g3).ff
   cases q3 with
   | lst sq dq =>
    obtain rfl:=lc hz
    refine .inl ⟨_,_,rfl,fh.seq sq,λp hp=>k _ _ _ (Gr.new fh hp) (.lst (.inl (.inl zK)) ((dq.cut l h).mono (Same.upd (fh.free hp))))⟩
   | tup sq dq =>
    obtain rfl:=lc hz
    refine .inr (.inl ⟨_,_,rfl,fh.seqT sq,λp H' hs qq=>?_⟩)
    obtain⟨F',g,q'⟩:=Gr.tup fh hs qq (dq.cut l h)
    exact k _ _ _ g q'
   | str ls ok =>
    obtain rfl:=lc hz
    refine .inr (.inr ⟨_,rfl,sz6 ok.2,?_⟩)
    rw[zcD,zbF]
    refine k _ _ _ (Gr.refl fh) (.str (zcu ls l h) (ziy ok (λc hc=>?_) (lX (zjP _ _ _) (by have:=ok.2;rw[zbF] at this;exact this))))
    exact List.mem_of_mem_drop (lb6 hc)
   | _=>cases hz
  | ex n=>rw[e2] at o1;exact o1
  | no=>rw[e2] at o1;exact o1
 | ex n=>rw[e1] at o1;exact o1
 | no=>rw[e1] at o1;exact o1
end
def XL (X:Cx)(cl:Nat->Addr)(E:XK)(e:Expr)(f:Rho->Rs (List D)):Prop :=
 ∃t:TE,PE X e t/\∀(H0 F0:Hp) (ρ:Rho) (σ:St) (H F:Hp) (Q:VK),Rl X.K cl H0 F0 ρ σ H F->OutA X.K cl E H0 F H (f ρ) (λvs H1=>∀p,H1 p=none->Q (.ref p) (upd H1 p (.lst vs)))->t σ H Q
def fLs (f:Rho->Rs (List D)):Rho->Rs D:=λρ=>(f ρ).bind λds=>.ok (.lst ds)
section
variable {X:Cx}{cl:Nat->Addr}{E:XK}{e o:Expr}{es:List Expr}{fa fb:Rho->Rs D}{fs:Rho->Rs (List D)}{x:Str}{p pos:Pos}
theorem XL.xe (h:XL X cl E e fs):XE X cl E e (fLs fs):=by
 obtain⟨t,pt,rt⟩:=h
 refine XE'.out ⟨_,pt,λH0 F0 ρ σ H F Q R o=>rt H0 F0 ρ σ H F _ R (OutA.fst o λds vs H1 F1 g q o1=>λp hp=>?_)⟩
 have fh:=(R.grow g).fh
 exact o1 _ _ _ (Gr.new fh hp) (.lst (.inl (.inl zK)) (q.mono (Same.upd (fh.free hp))))
def lf' {α:Type}:Option α->Rs α
 | some d=>.ok d
 | none=>.no
def fL (g:List D->Option (List D))(fs:Rho->Rs (List D)):Rho->Rs (List D):=λρ=>(fs ρ).bind λas=>lf' (g as)
def fL2 (g:D->D->Option (List D))(fa fb:Rho->Rs D):Rho->Rs (List D):=λρ=>(fa ρ).bind λa=>(fb ρ).bind λb=>lf' (g a b)
theorem OutA.lf {K:PySem.W.Frag}{H0 F H:Hp}{o:Option (List D)}{Q:List V->Hp->Prop}(h:OutA K cl E H0 F H (lf' o) Q):∃d,o=some d/\∀v H' F',Gr F H F' H'->Dts K cl F' v d->Q v H':=by
 cases o with
 | none=>exact h.elim
 | some d=>exact⟨d,rfl,h⟩
def szL (ds:List D):Option (List D):=if ds.length<=1000000 then some ds else none
theorem zgC (h:XA X cl E es fs):XL X cl E (.List es pos) (fL szL fs):=by
 obtain⟨t,pt,rt⟩:=h.ex
 refine⟨_,ziD pt,λH0 F0 ρ σ H F Q R o=>rt H0 F0 ρ σ H F _ R (OutA.fstA o λds vs H1 F1 g q o1=>?_)⟩
 obtain⟨z,hz,k⟩:=o1.lf
 unfold szL at hz
 split at hz
 ·rename_i hl
  obtain rfl:=lc hz
  exact⟨sz6 (q.length▸hl),λp hp=>k vs H1 F1 (Gr.refl (R.grow g).fh) q p hp⟩
 ·cases hz
def zjb:D->D->Option (List D)
 | .lst l,.lst m=>if l.length+m.length<=1000000 then some (l++m) else none
 | _,_=>none
theorem zdh {K:PySem.W.Frag}{F H:Hp}{a:Addr}{vs:List V}{ds z:List D}{Q:List V->Hp->Prop}(fh:Same F H)(dq:Dts K cl F vs ds)(hz:zi6 ds=some z)(k:∀v H' F',Gr F H F' H'->Dts K cl F' v z->Q v H'):vs=vT (ds.map unS)/\(ds.map unS).length<64/\∀ms,ms.Perm (ds.map unS)->Srt ms->Q (vT ms) H:=by
 unfold zi6 at hz
 split at hz
 ·rename_i h
  obtain rfl:=lc hz
  obtain⟨e1,e2,e3⟩:=dq.texts h.1
  refine⟨e1,by rw[ly];exact h.2,λms pm sm=>?_⟩
  obtain rfl:=My.sortF_eq sm pm
  exact k _ _ _ (Gr.refl fh) (zhU λy hy=>e2 y (My.sortF_mem.mp hy))
 ·cases hz
theorem zhY (hg:Gl X "sorted")(hm:X.mg "sorted" = none)(hv:bootBuiltins "sorted" = some (.builtin "sorted"))(h:XE X cl E e fa)(hs:starEach [e] X.env=(false,eval e X.env)::starEach [] X.env)(hpl:(backTo pos (starEach [] X.env)).any (·.1)=false:=by rfl):XL X cl E (.Call (.Name "sorted" p) [e] [] pos) (fL zif (zf fa zE)):=by
 obtain⟨t,pt,rt⟩:=(zj h zq hs).ex
 have hc:jb X (.builtin "sorted") (λxs H Q=>(∃a ls,xs=[.ref a]/\SqL X.K H a (vT ls)/\ls.length<64/\∀p ms,H p=none->ms.Perm ls->Srt ms->Q (.ref p) (upd H p (.lst (vT ms))))∨(∃a ls,xs=[.ref a]/\SqT X.K H a (vT ls)/\ls.length<64/\∀p ms,H p=none->ms.Perm ls->Srt ms->Q (.ref p) (upd H p (.lst (vT ms))))):=λpins s σ H xs us Q I r q=>by
  rcases q with q|q
  ·exact zet pins s σ H xs us Q I r q
  ·exact zeK pins s σ H xs us Q I r q
 refine⟨_,zaM hc hg hm hv pt (by decide) (by decide) hs hpl,λH0 F0 ρ σ H F Q R o=>rt H0 F0 ρ σ H F _ R (OutA.fstA o λds vs H1 F1 g q o1=>?_)⟩
 obtain⟨z,hz,k⟩:=o1.lf
 have fh:=(R.grow g).fh
 match ds,q,hz with
 | [.lst l],q,hz =>
  obtain⟨v,rfl,q1⟩:=q.one
  cases q1 with
  | lst sq dq =>
   obtain⟨e1,e2,e3⟩:=zdh (a:=0) fh dq hz k
   rw[e1] at sq
   exact .inl ⟨_,_,rfl,fh.seq sq,e2,λp ms hp pm sm=>e3 ms pm sm p hp⟩
 | [.tup l],q,hz =>
  obtain⟨v,rfl,q1⟩:=q.one
  cases q1 with
  | tup sq dq =>
   obtain⟨e1,e2,e3⟩:=zdh (a:=0) fh dq hz k
   rw[e1] at sq
   exact .inr ⟨_,_,rfl,fh.seqT sq,e2,λp ms hp pm sm=>e3 ms pm sm p hp⟩
theorem zl9 (hg:Gl X "list")(hm:X.mg "list" = none)(hv:bootBuiltins "list" = some (.type "list"))(h:XE X cl E e fa)(hs:starEach [e] X.env=(false,eval e X.env)::starEach [] X.env)(hpl:(backTo pos (starEach [] X.env)).any (·.1)=false:=by rfl):XL X cl E (.Call (.Name "list" p) [e] [] pos) (fL zqj (zf fa zE)):=by
 obtain⟨t,pt,rt⟩:=(zj h zq hs).ex
 refine⟨_,zeg zfc hg hm hv pt (by decide) (by decide) hs hpl,λH0 F0 ρ σ H F Q R o=>rt H0 F0 ρ σ H F _ R (OutA.fstA o λds vs H1 F1 g q o1=>?_)⟩
 obtain⟨z,hz,k⟩:=o1.lf
 have fh:=(R.grow g).fh
 match ds,q,hz with
 | [.lst l],q,hz =>
  obtain⟨v,rfl,q1⟩:=q.one
  obtain rfl:=lc hz
  cases q1 with
  | lst sq dq=>exact⟨_,_,rfl,.inl (fh.seq sq),λp hp=>k _ _ _ (Gr.refl fh) dq p hp⟩
 | [.tup l],q,hz =>
  obtain⟨v,rfl,q1⟩:=q.one
  obtain rfl:=lc hz
  cases q1 with
  | tup sq dq=>exact⟨_,_,rfl,.inr (fh.seqT sq),λp hp=>k _ _ _ (Gr.refl fh) dq p hp⟩
theorem zbQ {i:Nat}{pos':Pos}(hN:X.N.Nodup)(hi:X.N[i]? = some x)(hx:Loc X.env.scope x)(he:XL X cl E e fs)(hs:swapsWith e (some (.Name x pos')) pos.line X.env=pure false:=by rfl)(hf:X.fn x=true∨X.env.scope.names.lookup x=some .local:=by first|exact .inl rfl|exact .inr rfl|assumption) :
  XS X cl E (.Assign [.Name x pos'] e pos) (vy i fs):=by
 obtain⟨t,pt,rt⟩:=he
 refine XS'.out ⟨_,zeX hN hi hx pt hs hf,λH0 F0 ρ σ H F Dn R o=>rt H0 F0 ρ σ H F _ R ?_⟩
 unfold vy at o
 cases e:fs ρ with
 | ok d=>rw[e] at o;exact λvs H' F' gg q p hp=>o _ _ F' ((R.grow gg).setO hp q) gg.ff
 | ex n=>rw[e] at o;exact o
 | no=>rw[e] at o;exact o
theorem zaJ {i:Nat}{o:Expr}{apos cpos:Pos}(ho:PE X o (zcH i))(ha:XE X cl E e fa)(m:Mth X o e "append" apos cpos)(hs:swapsWith (.Call (.Attribute o "append" apos) [e] [] cpos) none pos.line X.env=pure false:=by rfl):XS X cl E (.Expr (.Call (.Attribute o "append" apos) [e] [] cpos) pos) (zbj i fa):=by
 obtain⟨u,pu,ru⟩:=ha.ex
 refine XS'.out ⟨_,zdY (zec laM lcj PySem.F.type_list_append zeS ho (yJ pu vp m.hs) m.base m.few m.line m.hs m.plain) hs,λH0 F0 ρ σ H F Dn R oo=>?_⟩
 unfold zbj at oo
 cases hw:owL ρ i with
 | none=>rw[hw] at oo;exact oo.elim
 | some ds =>
  rw[hw] at oo
  have hd:=zdC hw
  obtain⟨a,vs,h1,h2,h3,h4,h5⟩:=R.ow i ds hd
  refine⟨.ref a,h1,.inl ⟨rfl,vs,.inl (.inl h2)⟩,ru H0 F0 ρ σ H F _ R ?_⟩
  cases e:fa ρ with
  | ok d =>
   simp only[e] at oo
   split at oo
   ·rename_i hl
    intro v H1 F1 g q
    have R1:=R.grow g
    refine⟨a,vs,v,rfl,rfl,g.hh _ _ h2,?_,?_⟩
    ·rw[h5.length,lbm];omega
    ·exact oo _ _ F1 (R1.put hd h1 ((h5.mono g.ff).append (.cons q .nil))) g.ff
   ·exact oo.elim
  | ex n=>simp only[e] at oo;exact oo
  | no=>simp only[e] at oo;exact oo.elim
def zeb (i j:Nat)(f:Rho->Rs D):Rho->Out:=λρ=>match owL ρ i with
 | some ds=>(match f ρ with | .ok (.int k)=>(if 0<=k/\k<1000000 then(match ds[k.toNat]? with|some d=>.nx ((ρ.set i (.ow (ds.eraseIdx k.toNat))).set j (.fz d))|none=>.no) else .no) | .ex n=>.ex n|_=>.no)
 | none=>.no
theorem Dts.erase {K:PySem.W.Frag}{F:Hp}:∀{vs:List V}{ds:List D} (k:Nat),Dts K cl F vs ds->Dts K cl F (vs.eraseIdx k) (ds.eraseIdx k)
 | _,_,_,.nil=>.nil
 | _,_,0,.cons _ r=>r
 | _,_,k+1,.cons q r=>.cons q (Dts.erase k r)
theorem zoa {i j:Nat}{o:Expr}{y:Str}{py apos cpos:Pos}(hN:X.N.Nodup)(hj:X.N[j]? = some y)(hy:Loc X.env.scope y)(ho:PE X o (zcH i))(ha:XE X cl E e fa)(m:Mth X o e "pop" apos cpos)(hs:swapsWith (.Call (.Attribute o "pop" apos) [e] [] cpos) (some (.Name y py)) pos.line X.env=pure false:=by rfl)(hf:X.fn y=true∨X.env.scope.names.lookup y=some .local:=by first|exact .inl rfl|exact .inr rfl|assumption) :
  XS X cl E (.Assign [.Name y py] (.Call (.Attribute o "pop" apos) [e] [] cpos) pos) (zeb i j fa):=by
 obtain⟨u,pu,ru⟩:=ha.ex
 refine XS'.out ⟨_,zeX hN hj hy (zec laM PySem.F.slot_list_pop PySem.F.type_list_pop zjX ho (yJ pu vp m.hs) m.base m.few m.line m.hs m.plain) hs hf,λH0 F0 ρ σ H F Dn R oo=>?_⟩
 unfold zeb at oo
 cases hw:owL ρ i with
 | none=>rw[hw] at oo;exact oo.elim
 | some ds =>
  rw[hw] at oo
  have hd:=zdC hw
  obtain⟨a,vs,h1,h2,h3,h4,h5⟩:=R.ow i ds hd
  refine⟨.ref a,h1,.inl ⟨rfl,vs,.inl (.inl h2)⟩,ru H0 F0 ρ σ H F _ R ?_⟩
  cases e:fa ρ with
  | ok d =>
   simp only[e] at oo
   intro v H1 F1 g q
   cases q with
   | int k =>
    dsimp only at oo
    split at oo
    ·rename_i hk
     cases hg:ds[k.toNat]? with
     | none=>simp only[hg] at oo;exact oo.elim
     | some d =>
      simp only[hg] at oo
      have R1:=R.grow g
      have h5':=h5.mono g.ff
      obtain⟨w,hw1,hw2⟩:=h5'.get' hg
      have hlt:k.toNat<vs.length:=(lh.mp hw1).1
      refine⟨a,vs,k,k.toNat,w,rfl,rfl,g.hh _ _ h2,by omega,by omega,?_,hw1,?_⟩
      ·exact seqIndex_of hk.1 (by omega)
      ·exact oo _ _ F1 ((R1.put hd h1 (h5'.erase _)).set hw2) g.ff
    ·exact oo.elim
   | _=>exact oo.elim
  | ex n=>simp only[e] at oo;exact oo
  | no=>simp only[e] at oo;exact oo.elim
end
section
variable {X:Cx}{cl:Nat->Addr}{E:XK}{e o a b c:Expr}{es:List Expr}{fa fb fc:Rho->Rs D}{fs:Rho->Rs (List D)}{x y:Str}{p pos:Pos}
def fCh (g g':D->D->Option D)(fa fb fc:Rho->Rs D):Rho->Rs D:=λρ=>(fa ρ).bind λa=>(fb ρ).bind λb=>(lf (g a b)).bind λz=>(tru z).bind λk=>if k=true then(fc ρ).bind λc=>lf (g' b c) else .ok (.bl false)
theorem zee {H0 F0 H F:Hp}{ρ:Rho}{σ:St}{r r':R2}{g g':D->D->Option D}{ta tb tc:TE}{Q:VK}(hg:Op2 X.K cl r g)(hg':Op2 X.K cl r' g')(R:Rl X.K cl H0 F0 ρ σ H F)
  (ra:∀(H0 F0:Hp) (ρ:Rho) (σ:St) (H F:Hp) (Q:VK),Rl X.K cl H0 F0 ρ σ H F->OutE X.K cl E H0 F H (fa ρ) Q->ta σ H Q) (rb:∀(H0 F0:Hp) (ρ:Rho) (σ:St) (H F:Hp) (Q:VK),Rl X.K cl H0 F0 ρ σ H F->OutE X.K cl E H0 F H (fb ρ) Q->tb σ H Q) (rc:∀(H0 F0:Hp) (ρ:Rho) (σ:St) (H F:Hp) (Q:VK),Rl X.K cl H0 F0 ρ σ H F->OutE X.K cl E H0 F H (fc ρ) Q->tc σ H Q)
  (o:OutE X.K cl E H0 F H (fCh g g' fa fb fc ρ) Q):zix r r' ta tb tc σ H Q:=by
 refine ra H0 F0 ρ σ H F _ R (OutE.fst o λd v H1 F1 g1 q o1=>?_)
 refine rb H0 F0 ρ σ H1 F1 _ (R.grow g1) (OutE.fst o1 λd2 v2 H2 F2 g2 q2 o2=>?_)
 have R2:=(R.grow g1).grow g2
 cases hz:g d d2 with
 | none=>rw[hz] at o2;exact o2.elim
 | some z =>
  rw[hz] at o2
  refine hg F2 H2 v v2 d d2 z _ R2.fh (q.mono g2.ff) q2 hz λw H3 F3 g3 q3=>?_
  obtain⟨k,rfl,o3⟩:=OutE.tru (F1:=F3) (H1:=H3) q3 (OutE.grow (r:=(tru z).bind _) o2 g3)
  refine⟨k,rfl,?_⟩
  have R3:=R2.grow g3
  cases k with
  | false=>exact o3.okI R3.fh (.bl _)
  | true =>
   refine rc H0 F0 ρ σ H3 F3 _ R3 (OutE.fst o3 λd4 v4 H4 F4 g4 q4 o4=>?_)
   obtain⟨z2,hz2,k2⟩:=o4.lf
   exact hg' F4 H4 v2 v4 d2 d4 z2 _ (R3.grow g4).fh (q2.mono (g3.trans g4).ff) q4 hz2 k2
theorem zku {op op':CmpOp}{r r':R2}{g g':D->D->Option D}(ho:OpR X (compareOp op) r)(ho':OpR X (compareOp op') r')(hg:Op2 X.K cl r g)(hg':Op2 X.K cl r' g')(ha:XE X cl E a fa)(hb:XE X cl E b fb)(hc:XE X cl E c fc)(hm:lastMarks [op,op'] [b,c]=false:=by with_unfolding_all rfl):XE X cl E (.Compare a [op,op'] [b,c] pos) (fCh g g' fa fb fc):=by
 obtain⟨t,pt,rt⟩:=ha.ex
 obtain⟨u,pu,ru⟩:=hb.ex
 obtain⟨w,pw,rw'⟩:=hc.ex
 exact XE'.out ⟨_,zkg ho ho' pt pu pw hm,λH0 F0 ρ σ H F Q R o=>zee hg hg' R rt ru rw' o⟩
theorem zdO {op op':CmpOp}{r r':R2}{g g':D->D->Option D}(ho:OpR X (compareOp op) r)(ho':OpR X (compareOp op') r')(hg:Op2 X.K cl r g)(hg':Op2 X.K cl r' g')(ha:XE X cl E a fa)(hb:XE X cl E b fb)(hc:XE X cl E c fc)(hm:lastMarks [op,op'] [b,c]=false:=by with_unfolding_all rfl):XT X cl E (.Compare a [op,op'] [b,c] pos) (bT (fCh g g' fa fb fc)):=by
 obtain⟨t,pt,rt⟩:=ha.ex
 obtain⟨u,pu,ru⟩:=hb.ex
 obtain⟨w,pw,rw'⟩:=hc.ex
 exact XT'.out ⟨_,zjU ho ho' pt pu pw hm,λH0 F0 ρ σ H F Q R o=>zee hg hg' R rt ru rw' (OutB.bT R o)⟩
end
def fL1 (g:D->Option (List D))(fa:Rho->Rs D):Rho->Rs (List D):=λρ=>(fa ρ).bind λa=>lf' (g a)
section
variable {X:Cx}{cl:Nat->Addr}{E:XK}{e o a b c:Expr}{es:List Expr}{fa fb fc:Rho->Rs D}{fs:Rho->Rs (List D)}{x y:Str}{p pos:Pos}
def zbC (i:Nat):Rho->Out:=λρ=>.nx (ρ.set i (.od []))
def odL (ρ:Rho)(i:Nat):Option (List (List Nat×D)):=match ρ[i]? with|some (.od ds)=>some ds|_=>none
def putD (kvs:List (List Nat×D))(k:List Nat)(v:D):List (List Nat×D):=if (kvs.any λkv=>decide (kv.1=k))=true then kvs.map (λkv=>if kv.1=k then(kv.1,v) else kv) else kvs++[(k,v)]
theorem Dks.any {K:PySem.W.Frag}{F:Hp}{k:List Nat}:∀{vs:List (Key×V)}{ds:List (List Nat×D)},Dks K cl F vs ds->(vs.any λkv=>decide (kv.1=Sum.inr (T k)))=(ds.any λkv=>decide (kv.1=k))
 | _,_,.nil=>rfl
 | _,_,.cons (l:=l) ok q r=>by
  rw[lcm,lcm,Dks.any r]
  congr 1
  by_cases h:l=k
  ·subst h;simp
  ·rw[lT h,lT]
   intro z;injection z with z;exact h (zkP z)
theorem Dks.mapPut {K:PySem.W.Frag}{F:Hp}{k:List Nat}{v:V}{d:D}(hv:Dt K cl F v d):∀{vs:List (Key×V)}{ds:List (List Nat×D)},Dks K cl F vs ds->Dks K cl F (vs.map λkv=>if kv.1=Sum.inr (T k) then(kv.1,v) else kv) (ds.map λkv=>if kv.1=k then(kv.1,d) else kv)
 | _,_,.nil=>.nil
 | _,_,.cons (l:=l) ok q r=>by
  rw[lC,lC]
  by_cases h:l=k
  ·subst h;rw[lB rfl,lB rfl];exact .cons ok hv (Dks.mapPut hv r)
  ·have h':¬((Sum.inr (T l):Key)=Sum.inr (T k)):=λz=>by injection z with z;exact h (zkP z)
   rw[lW h,lW h'];exact .cons ok q (Dks.mapPut hv r)
theorem Dks.snoc {K:PySem.W.Frag}{F:Hp}{k:List Nat}{v:V}{d:D}(hk:TxtOk (T k))(hv:Dt K cl F v d):∀{vs:List (Key×V)}{ds:List (List Nat×D)},Dks K cl F vs ds->Dks K cl F (vs++[(Sum.inr (T k),v)]) (ds++[(k,d)])
 | _,_,.nil=>.cons hk hv .nil
 | _,_,.cons ok q r=>.cons ok q (Dks.snoc hk hv r)
theorem Dks.put {K:PySem.W.Frag}{F:Hp}{k:List Nat}{v:V}{d:D}{vs:List (Key×V)}{ds:List (List Nat×D)}(h:Dks K cl F vs ds)(hk:TxtOk (T k))(hv:Dt K cl F v d):Dks K cl F (putK vs (Sum.inr (T k)) v) (putD ds k d):=by
 unfold putK putD
 rw[h.any]
 split
 ·exact h.mapPut hv
 ·exact h.snoc hk hv
theorem Dks.length {K:PySem.W.Frag}{F:Hp}:∀{vs:List (Key×V)}{ds:List (List Nat×D)},Dks K cl F vs ds->vs.length=ds.length
 | _,_,.nil=>rfl
 | _,_,.cons _ _ r=>by simp[r.length]
theorem Dks.keys {K:PySem.W.Frag}{F:Hp}:∀{vs:List (Key×V)}{ds:List (List Nat×D)},Dks K cl F vs ds->vs.map (·.1)=(ds.map (·.1)).map λl=>(Sum.inr (T l):Key)
 | _,_,.nil=>rfl
 | _,_,.cons _ _ r=>by simp[r.keys]
def zhy (i:Nat)(fk fv:Rho->Rs D):Rho->Out:=λρ=>match odL ρ i with
 | some ds=>(match fv ρ with
  | .ok v=>(match fk ρ with | .ok (.str k)=>if ds.length<1000000 then .nx (ρ.set i (.od (putD ds k v))) else .no | .ex n=>.ex n|_=>.no)
  | .ex n=>.ex n
  | .no=>.no)
 | none=>.no
def fSD (i:Nat):Rho->Rs (List D):=λρ=>match odL ρ i with
 | some ds=>if ds.length<64 then .ok ((My.sortF (ds.map (·.1))).map .str) else .no
 | none=>.no
end
def sRs (n:Nat)(fs:Rho->Rs (List D)):Rho->Out:=λρ=>match fs ρ with | .ok ds=>if ds.length<=3 then .ex n else .no | .ex m=>.ex m | .no=>.no
section
variable {P:Program}{w:World}{K:PySem.W.Frag}{mg:Str->Option Value}{base:Heap}{N:List Str}{qual:Str}{scope:Scope}{f:Addr}{cd:Value}{A:Around}{outer:List Env}{s₁:Shared}{H₁:Hp}{E:XK}{cl:Nat->Addr}
theorem zdm {x:Str}{e₀:Expr}{np cpos pos:Pos}{fs:Rho->Rs (List D)}{n:Nat}(O:Own K mg x)(hO:O.C=cl n)(hg:Gl (jc (CX1 P w) P w K mg base N qual scope f cd A outer s₁ H₁ E) x)(ha:XA (jc (CX1 P w) P w K mg base N qual scope f cd A outer s₁ H₁ E) cl E [e₀] fs)
  (he:starEach [e₀] (jc (CX1 P w) P w K mg base N qual scope f cd A outer s₁ H₁ E).env=(false,eval e₀ (jc (CX1 P w) P w K mg base N qual scope f cd A outer s₁ H₁ E).env)::starEach [] (jc (CX1 P w) P w K mg base N qual scope f cd A outer s₁ H₁ E).env) (hd:(x == ("__debug__" : Str))=false:=by decide) :
  XS (jc (CX1 P w) P w K mg base N qual scope f cd A outer s₁ H₁ E) cl E (.Raise (some (.Call (.Name x np) [e₀] [] cpos)) none pos) (sRs n fs):=by
 obtain⟨t,pt,rt⟩:=ha.ex
 refine XS'.out ⟨_,zjS O hg pt he rfl hd,λH0 F0 ρ σ H F Dn R o=>rt H0 F0 ρ σ H F _ R ?_⟩
 unfold sRs at o
 cases e:fs ρ with
 | ok ds =>
  rw[e] at o
  intro vs H' F' g q
  dsimp only at o
  split at o
  ·rename_i hl
   refine⟨q.length▸hl,?_⟩
   rw[hO]
   exact o H' (R.gr.hh.trans g.hh)
  ·exact o.elim
 | ex n=>rw[e] at o;exact o
 | no=>rw[e] at o;exact o
end
def yQ (m:Nat)(g:Rho->Out)(ds:List D):Rs D:=match g (ds.map .fz++List.replicate (m - ds.length) .no) with | .nx _=>.ok .non | .rt d=>.ok d | .ex n=>.ex n|_=>.no
theorem Rl.start {K:PySem.W.Frag}{cl:Nat->Addr}{H F:Hp}{N:List Str}{vs:List V}{ds:List D}(s:Same F H)(q:Dts K cl F vs ds):Rl K cl H F (ds.map .fz++List.replicate (N.length - ds.length) .no) (L2.start N vs) H F:=by
 have shape:∀(i:Nat) (s:Sl),(ds.map Sl.fz++List.replicate (N.length - ds.length) Sl.no)[i]? = some s->(∃d,s=.fz d/\ds[i]? = some d)∨s=.no:=λi s e=>by
  rcases lbg i ds.length with h|h
  ·rw[lP (by simpa using h),lR,lg h] at e
   exact .inl ⟨ds[i],(lc e).symm,lg h⟩
  ·rw[lE (by simpa using h),laK] at e
   split at e
   ·exact .inr (lc e).symm
   ·cases e
 refine⟨Gr.refl s,by unfold L2.start;simp[q.length],λi d e=>?_,λi d e=>?_,λi d e=>?_,λi j s t a z1 z2 o1 o2 e1 e2=>?_⟩
 ·rcases shape i _ e with⟨d',e1,e2⟩|e1
  ·injection e1 with e1;subst e1
   obtain⟨v,h1,h2⟩:=q.get' e2
   refine⟨v,?_,h2⟩
   unfold L2.start
   have hi:=(lh.mp h1).1
   rw[lP (by simpa using hi),lR,h1];rfl
  ·cases e1
 ·rcases shape i _ e with⟨d',e1,e2⟩|e1 <;>cases e1
 ·rcases shape i _ e with⟨d',e1,e2⟩|e1 <;>cases e1
 ·rcases shape i _ z1 with⟨d',rfl,_⟩|rfl <;>cases o1
theorem fnD {P:Program}{w:World}{K:PySem.W.Frag}{mg:Str->Option Value}{base:Heap}{cl:Nat->Addr}{x qual:Str}{st:Stmt}{f:Addr}{fd:FuncData}{N ps:List Str}{k m n:Nat}{g:Rho->Out}(Fu:Fun K x qual st f fd)(S:FnScope N ps (zm st))(hm:N.length=m)(hn:ps.length=n)
  (hb:∀(cdv:Value) (A:Around) (outer:List Env) (s:Shared) (H:Hp) (E:XK),Room k (A.deeper (envOfC qual (zm st) s.heap.objs.size f cdv))->XSs (jc (CX1 P w) P w K mg base N qual (zm st) f cdv A outer s H E) cl E (xq st) g):FnOk P w K mg base (CX1 P w) (k+1) f fd ps (spD K cl (yQ m g) n):=by
 subst hm hn
 refine Fu.okX S (λvs H Q E h=>h.choose_spec.choose_spec.2.2.1) λcdv A outer s H vs Q E hr h=>?_
 obtain⟨F,ds,sm,dq,hl,o⟩:=h
 refine⟨_,hb cdv A outer s H E hr,H,F,_,F,Rl.start (N:=N) sm dq,?_⟩
 unfold yQ at o
 cases e:g (ds.map .fz++List.replicate (N.length - ds.length) .no) with
 | nx ρ=>rw[e] at o;exact λσ H' F' R _=>o .non H' F' R.gr .non
 | rt d=>rw[e] at o;exact λv H' F' gg q=>o v H' F' gg q
 | bk ρ=>rw[e] at o;exact o.elim
 | ct ρ=>rw[e] at o;exact o.elim
 | ex n=>rw[e] at o;exact o
 | no=>rw[e] at o;exact o
def forZ (i j:Nat)(g:Rho->Out):List D->List D->Rho->Out
 | d::ds,e::es,ρ=>match g ((ρ.set i (.fz d)).set j (.fz e)) with | .nx ρ'=>forZ i j g ds es ρ' | .ct ρ'=>forZ i j g ds es ρ' | .bk ρ'=>.nx ρ'|o=>o
 | _,_,ρ=>.nx ρ
def kO (i j:Nat)(fa fb:Rho->Rs D)(g:Rho->Out):Rho->Out:=λρ=>match (fa ρ),(fb ρ) with
 | .ok (.tup ds),.ok (.tup es)=>forZ i j g ds es ρ
 | _,_=>.no
section
variable {X:Cx}{cl:Nat->Addr}{E:XK}{a b:Expr}{fa fb:Rho->Rs D}{g:Rho->Out}{p pos zpos tp px py:Pos}{x y:Str}{k:Nat}{body:List Stmt}
theorem ziR {K:PySem.W.Frag}{H0 F0 F:Hp}{i j:Nat}{ρ:Rho}{Dn:Ends}(o:OutS K cl E H0 F0 F (kO i j fa fb g ρ) Dn):∃ds es,fa ρ=.ok (.tup ds)/\fb ρ=.ok (.tup es)/\OutS K cl E H0 F0 F (forZ i j g ds es ρ) Dn:=by
 unfold kO at o
 split at o
 ·rename_i ds es e1 e2;exact⟨ds,es,e1,e2,o⟩
 ·exact o.elim
theorem zmA {i j:Nat}(hp:PassesOwn (model X.prog X.w) X.A X.env X.xe)(hc:X.calm=true)(hz:Gl X "zip")(hm:X.mg "zip" = none)(ha:XE X cl E a fa)(hb:XE X cl E b fb)(hg:PG X (.Tuple [.Name x px,.Name y py] k tp) (zmR X.K 2 (zcw (kY i) (zcw (kY j) zmX))))(hbd:XSs X cl E body g)(hs:starEach [a,b] X.env=[(false,eval a X.env),(false,eval b X.env)])(hs2:starEach [b] X.env=[(false,eval b X.env)]):XS X cl E (.For (.Tuple [.Name x px,.Name y py] k tp) (.Call (.Name "zip" p) [a,b] [] zpos) body [] pos) (kO i j fa fb g):=by
 obtain⟨t,pt,rt⟩:=ha.ex
 obtain⟨u,pu,ru⟩:=hb.ex
 obtain⟨w,pw,rw'⟩:=hbd.ex
 refine XS'.out ⟨_,zio hp hc (zgQ hz hm pt pu hs hs2) hg pw,λH0 F0 ρ σ H F Dn R o=>rt H0 F0 ρ σ H F _ R ?_⟩
 obtain⟨ds,es,e1,e2,o'⟩:=ziR o
 rw[e1]
 intro v1 H1 F1 g1 q1
 have R1:=R.grow g1
 refine ru H0 F0 ρ σ H1 F1 _ R1 ?_
 rw[e2]
 intro v2 H2 F2 g2 q2
 have R2:=R1.grow g2
 cases q1 with
 | tup sq1 dq1 =>
  cases q2 with
  | tup sq2 dq2 =>
   have sq1':=g2.ff.seqT sq1
   have dq1':=dq1.mono g2.ff
   refine⟨_,_,_,_,rfl,R2.fh.seqT sq1',R2.fh.seqT sq2,?_⟩
   refine zl8 (λm σ' H'=>∃ρ' F',Rl X.K cl H0 F0 ρ' σ' H' F'/\Same F2 F'/\OutS X.K cl E H0 F0 F' (forZ i j g (ds.drop m) (es.drop m) ρ') Dn) ⟨ρ,F2,R2,Same.refl _,o'.grow (g1.ff.trans g2.ff)⟩ (λm σ' H' ⟨ρ',F',R',s',_⟩=>⟨(s'.trans R'.fh).seqT sq1',(s'.trans R'.fh).seqT sq2⟩) ?_ ?_
   ·rintro m z1 z2 pp σ' H' hx hy hpp ⟨ρ',F',R',s',o3⟩
    obtain⟨c1,hd1,qd1⟩:=dq1'.get hx
    obtain⟨c2,hd2,qd2⟩:=dq2.get hy
    have r1:ds.drop m=c1::ds.drop (m+1):=by
     obtain⟨hk,e3⟩:=lh.mp hd1
     rw[lah hk,e3]
    have r2:es.drop m=c2::es.drop (m+1):=by
     obtain⟨hk,e3⟩:=lh.mp hd2
     rw[lah hk,e3]
    rw[r1,r2] at o3
    unfold forZ at o3
    have R4:=R'.grow (Gr.newO (o:=.tup [z1,z2]) R'.fh hpp)
    refine⟨pp,[z1,z2],rfl,.inl (.inl zK),rfl,z1,_,rfl,z2,_,rfl,rfl,rw' H0 F0 _ _ _ F' _ ((R4.set (qd1.mono s')).set (qd2.mono s')) ?_⟩
    cases e4:g ((ρ'.set i (.fz c1)).set j (.fz c2)) with
    | nx ρ2=>simp only[e4] at o3;exact λσ2 H2 F2 R2 s2=>⟨ρ2,F2,R2,s'.trans s2,o3.grow s2⟩
    | ct ρ2=>simp only[e4] at o3;exact λσ2 H2 F2 R2 s2=>⟨ρ2,F2,R2,s'.trans s2,o3.grow s2⟩
    | bk ρ2=>simp only[e4] at o3;exact o3
    | rt d=>simp only[e4] at o3;exact o3
    | ex n=>simp only[e4] at o3;exact o3
    | no=>simp only[e4] at o3;exact o3
   ·rintro σ' H' ⟨ρ',F',R',s',o3⟩
    rw[dq1'.length,dq2.length] at o3
    have e5:forZ i j g (ds.drop (min ds.length es.length)) (es.drop (min ds.length es.length)) ρ'=.nx ρ':=by
     rcases Nat.le_total ds.length es.length with h|h
     ·rw[lbZ h,lae (lp ds.length)];unfold forZ;rfl
     ·rw[lde h,lae (lp es.length)]
      cases ds.drop es.length <;>(unfold forZ;rfl)
    rw[e5] at o3
    exact o3 σ' H' F' R' (Same.refl _)
def kW (ft:Rho->Rs Bool)(fe:Rho->Rs D)(ρ0:Rho):List D->List D->Rs (List D)
 | d::ds,c::cs=>match ft ((ρ0.set 0 (.fz d)).set 1 (.fz c)) with
  | .ok true=>(match fe ((ρ0.set 0 (.fz d)).set 1 (.fz c)) with | .ok e=>(kW ft fe ρ0 ds cs).bind λes=>.ok (e::es)|_=>.no)
  | .ok false=>kW ft fe ρ0 ds cs
  | _=>.no
 | _,_=>.ok []
def fCz (fa fb:Rho->Rs D)(ft:Rho->Rs Bool)(fe:Rho->Rs D)(caps:List Nat):Rho->Rs (List D):=λρ=>match fa ρ,fb ρ with
 | .ok (.tup ds),.ok (.tup cs)=>(match kW ft fe (qt 2 caps ρ) ds cs with | .ok es=>if ds.length<=1000000 then .ok es else .no|_=>.no)
 | _,_=>.no
variable {scope:Scope}{caps:List Nat}{elt:Expr}{ifs:List Expr}{ft:Rho->Rs Bool}{fe:Rho->Rs D}
structure CompZ (X:Cx)(cl:Nat->Addr)(scope:Scope)(x y:Str)(caps:List Nat)(tg:Expr)(ifs:List Expr)(elt:Expr)(ft:Rho->Rs Bool)(fe:Rho->Rs D):Prop where
 tgt:∀pins C ex s H,PG (cxC X pins scope [x,y] caps C ex s H) tg (zmR X.K 2 (zcw (kY 0) (zcw (kY 1) zmX)))
 tst:∀pins C ex s H,XTs (cxC X pins scope [x,y] caps C ex s H) cl E0 ifs ft
 elm:∀pins C ex s H,XE (cxC X pins scope [x,y] caps C ex s H) cl E0 elt fe
theorem zlA {K:PySem.W.Frag}{H0 F H:Hp}{ρ:Rho}{Q:List V->Hp->Prop}(o:OutA K cl E H0 F H (fCz fa fb ft fe caps ρ) Q):∃ds cs es,fa ρ=.ok (.tup ds)/\fb ρ=.ok (.tup cs)/\kW ft fe (qt 2 caps ρ) ds cs=.ok es/\ds.length<=1000000/\OutA K cl E H0 F H (.ok es) Q:=by
 unfold fCz at o
 split at o
 ·rename_i ds cs e1 e2
  split at o
  ·rename_i es e3
   split at o
   ·rename_i hl;exact⟨ds,cs,es,e1,e2,e3,hl,o⟩
   ·exact o.elim
  ·exact o.elim
 ·exact o.elim
theorem zkc (ok:CompOk X scope caps)(hc:X.calm=true)(hz:Gl X "zip")(hm:X.mg "zip" = none)(ha:XE X cl E a fa)(hb:XE X cl E b fb)(CI:CompZ X cl scope x y caps (.Tuple [.Name x px,.Name y py] k tp) ifs elt ft fe)(hs:starEach [a,b] X.env=[(false,eval a X.env),(false,eval b X.env)])(hs2:starEach [b] X.env=[(false,eval b X.env)]) :
  XL X cl E (.ListComp elt [⟨.Tuple [.Name x px,.Name y py] k tp,.Call (.Name "zip" p) [a,b] [] zpos,ifs,0⟩] scope pos) (fCz fa fb ft fe caps):=by
 obtain⟨t,pt,rt⟩:=ha.ex
 obtain⟨u,pu,ru⟩:=hb.ex
 refine⟨_,zhZ ok hc (zgQ hz hm pt pu hs hs2) (g:=zmR X.K 2 (zcw (kY 0) (zcw (kY 1) zmX))) (tt:=tDB X.K cl E0 ft) (te:=tDE X.K cl E0 fe) ⟨CI.tgt,CI.tst,CI.elm⟩,λH0 F0 ρ σ H F Q R o=>rt H0 F0 ρ σ H F _ R ?_⟩
 obtain⟨ds,cs,es,e1,e2,hcz,hl,o⟩:=zlA o
 rw[e1]
 intro v1 H1 F1 g1 q1
 have R1:=R.grow g1
 refine ru H0 F0 ρ σ H1 F1 _ R1 ?_
 rw[e2]
 intro v2 H2 F2 g2 q2
 have R2:=R1.grow g2
 cases q1 with
 | tup sq1 dq1 =>
  cases q2 with
  | tup sq2 dq2 =>
   have sq1':=g2.ff.seqT sq1
   have dq1':=dq1.mono g2.ff
   refine⟨_,_,_,_,rfl,R2.fh.seqT sq1',R2.fh.seqT sq2,?_⟩
   refine zhE (sz6 (dq1'.length▸hl)) (λm ys H'=>∃F' es1 es2,Gr F2 H2 F' H'/\Dts X.K cl F' ys es1/\ys.length<=m/\es=es1++es2/\kW ft fe (qt 2 caps ρ) (ds.drop m) (cs.drop m)=.ok es2) ⟨F2,[],es,Gr.refl R2.fh,.nil,lp _,rfl,hcz⟩ (λm ys H' ⟨F',_,_,gg,_,h1,_⟩=>⟨(gg.ff.trans gg.fh).seqT sq1',(gg.ff.trans gg.fh).seqT sq2,h1⟩) ?_ ?_
   ·rintro m z1 z2 pp ys H' hx hy hpp ⟨F',es1,es2,gg,qs,hly,rfl,hc'⟩
    obtain⟨c1,hd1,qd1⟩:=dq1'.get hx
    obtain⟨c2,hd2,qd2⟩:=dq2.get hy
    have r1:ds.drop m=c1::ds.drop (m+1):=by
     obtain⟨hk,e3⟩:=lh.mp hd1
     rw[lah hk,e3]
    have r2:cs.drop m=c2::cs.drop (m+1):=by
     obtain⟨hk,e3⟩:=lh.mp hd2
     rw[lah hk,e3]
    rw[r1,r2] at hc'
    unfold kW at hc'
    have gz:Gr F' H' F' (upd H' pp (.tup [z1,z2])):=Gr.newO (gg.fh) hpp
    have Rz:=((R2.grow gg).grow gz).cap [x,y] caps
    have Rw:Rl X.K cl (upd H' pp (.tup [z1,z2])) F' (((qt 2 caps ρ).set 0 (.fz c1)).set 1 (.fz c2)) (((zfo [x,y] caps σ).set 0 (some z1)).set 1 (some z2)) (upd H' pp (.tup [z1,z2])) F':=(Rz.set (qd1.mono gg.ff)).set (qd2.mono gg.ff)
    refine⟨pp,[z1,z2],rfl,.inl (.inl zK),rfl,z1,_,rfl,z2,_,rfl,rfl,?_,_,F',_,F',Rw,?_⟩
    ·exact(Kps.set rfl).trans (Kps.set rfl)
    ·cases e3:ft (((qt 2 caps ρ).set 0 (.fz c1)).set 1 (.fz c2)) with
     | ok bb =>
      rw[e3] at hc'
      intro H3 F3 g3
      cases bb with
      | true =>
       rw[lB rfl]
       cases e4:fe (((qt 2 caps ρ).set 0 (.fz c1)).set 1 (.fz c2)) with
       | ok ee =>
        simp only[e4] at hc'
        refine⟨_,F',_,F3,Rw.grow g3,?_⟩
        rw[e4]
        intro yy H4 F4 g4 qy
        cases e5:kW ft fe (qt 2 caps ρ) (ds.drop (m+1)) (cs.drop (m+1)) with
        | ok es3 =>
         rw[e5] at hc'
         injection hc' with hc'
         exact⟨F4,es1++[ee],es3,gg.trans (gz.trans (g3.trans g4)),(qs.mono (g3.ff.trans g4.ff)).append (.cons qy .nil),by simp;exact hly,by rw[← hc',laL];rfl,rfl⟩
        | ex n=>rw[e5] at hc';cases hc'
        | no=>rw[e5] at hc';cases hc'
       | ex n=>simp only[e4] at hc';cases hc'
       | no=>simp only[e4] at hc';cases hc'
      | false =>
       rw[lW lv]
       exact⟨F3,es1,es2,gg.trans (gz.trans g3),qs.mono g3.ff,Nat.le_succ_of_le hly,rfl,hc'⟩
     | ex n=>rw[e3] at hc';cases hc'
     | no=>rw[e3] at hc';cases hc'
   ·rintro ys H' ⟨F',es1,es2,gg,qs,hly,rfl,hc'⟩
    rw[dq1'.length,dq2.length] at hc'
    have e5:kW ft fe (qt 2 caps ρ) (ds.drop (min ds.length cs.length)) (cs.drop (min ds.length cs.length))=.ok []:=by
     rcases Nat.le_total ds.length cs.length with h|h
     ·rw[lbZ h,lae (lp ds.length)];unfold kW;rfl
     ·rw[lde h,lae (lp cs.length)]
      cases ds.drop cs.length <;>(unfold kW;rfl)
    rw[e5] at hc'
    injection hc' with hc'
    rw[← hc',lD] at o
    exact o ys H' F' (g1.trans (g2.trans gg)) qs
end
def zpH:D->Option D
 | .int i=>some (.int (-i))
 | _=>none
def fFl (i:Nat)(f:Rho->Rs D):Rho->Rs D:=λρ=>match owL ρ i with
 | some ds=>(match f (ρ.set i (.fz (.lst ds))) with | .ok d=>if d.fl=true then .ok d else .no | .ex n=>.ex n | .no=>.no)
 | none=>.no
def zpA:D->D->Option (List D)
 | .lst l,.int n=>if 0<=n/\n<=1000/\l.length<=1000 then some (List.replicate n.toNat l).flatten else none
 | _,_=>none
section
variable {X:Cx}{cl:Nat->Addr}{E:XK}{e a b:Expr}{fa fb:Rho->Rs D}{pos:Pos}{st:Stmt}
theorem ziI (h:XE X cl E a fa):XE X cl E (.UnaryOp .USub a pos) (f1 zpH fa):=by
 obtain⟨t,pt,rt⟩:=h.ex
 refine XE'.out ⟨_,zpB zoO pt,λH0 F0 ρ σ H F Q R o=>rt H0 F0 ρ σ H F _ R (OutE.fst o λd v H1 F1 g q o1=>?_)⟩
 obtain⟨z,hz,k⟩:=o1.lf
 cases q with
 | int i=>obtain rfl:=lc hz;exact⟨i,rfl,k _ _ _ (Gr.refl (R.grow g).fh) (.int _)⟩
 | _=>cases hz
theorem Dt.flatAny {K:PySem.W.Frag}{F F':Hp}{v:V}{d:D}(q:Dt K cl F v d)(h:d.fl=true):Dt K cl F' v d:=by
 cases q with
 | non=>exact .non
 | bl b=>exact .bl b
 | int i=>exact .int i
 | str l ok=>exact .str l ok
 | _=>cases h
theorem zo9 {i:Nat}(h:XE X cl E e fa):XE X cl E e (fFl i fa):=by
 obtain⟨t,pt,rt⟩:=h.ex
 refine XE'.out ⟨_,pt,λH0 F0 ρ σ H F Q R o=>?_⟩
 unfold fFl at o
 cases hw:owL ρ i with
 | none=>rw[hw] at o;exact o.elim
 | some ds =>
  rw[hw] at o
  obtain⟨F1,s1,R1⟩:=R.ice (zdC hw)
  refine rt H0 F0 _ σ H F1 _ R1 ?_
  cases e:fa (ρ.set i (.fz (.lst ds))) with
  | ok d =>
   simp only[e] at o
   split at o
   ·rename_i hf
    exact λv H' F' g q=>o v H' F ⟨Same.refl _,g.hh,R.fh.trans g.hh,λ_ _ _ _ z=>z⟩ (q.flatAny hf)
   ·exact o.elim
  | ex n=>simp only[e] at o;exact o
  | no=>simp only[e] at o;exact o.elim
variable {scope:Scope}{x:Str}{caps:List Nat}{elt tg iter:Expr}{ifs:List Expr}{fi:Rho->Rs (List D)}{ft:Rho->Rs Bool}{fe:Rho->Rs D}
def zpz (K:PySem.W.Frag):R2:=λx y H Q=>∃l b xs zs,x=.ref l/\y=.ref b/\SqL K H l xs/\SqL K H b zs/\xs.length+zs.length<=sizeLine/\∀p,H p=none->Q (.ref p) (upd H p (.lst (xs++zs)))
theorem zmu:OpR X (binaryOp .Add) (zpz X.K):=by
 intro pins s σ H x y v u Q I rx ry h
 obtain⟨l,b,xs,zs,rfl,rfl,hH,hB,hz,q⟩:=h
 cases rx
 cases ry
 obtain⟨its,r,⟨o,n,e,hc,hdd,hd⟩,z⟩:=I.list hH
 obtain⟨its2,r2,⟨o2,n2,e2,hc2,hdd2,hd2⟩,z2⟩:=I.list hB
 obtain⟨cls,dd,data,sl⟩:=o
 obtain⟨cls2,dd2,data2,sl2⟩:=o2
 simp only at hc hd hc2 hd2
 subst hc hd hc2 hd2
 refine concat_meets ⟨_,e,rfl⟩ ⟨_,e2,rfl⟩ noFill_list_add seq_list_add PySem.F.slot_list_add PySem.F.entry_list_add (PySem.F.args_list_add_2 _ _) (list_addW l b its.toArray its2.toArray n n2 dd dd2 sl sl2 (by rw[lG,lG,← r.length,← r2.length];exact hz)) ⟨e,e2,?_⟩
 have ea:its.toArray++its2.toArray=(its++its2).toArray:=by simp
 rw[ea]
 exact⟨.ref _,_,I.lnew (t':=s.toks) (r.append r2) (by rw[lw];omega),rfl,q _ I.fresh⟩
theorem zj8 {a b:D}{z:List D}(e:zjb a b=some z):∃l m,a=.lst l/\b=.lst m/\l.length+m.length<=1000000/\z=l++m:=by
 cases a with
 | lst l =>
  cases b with
  | lst m =>
   by_cases h:l.length+m.length<=1000000
   ·exact⟨l,m,rfl,rfl,h,(lc ((lB h).symm.trans e)).symm⟩
   ·cases (lW h).symm.trans e
  | _=>cases e
 | _=>cases e
theorem zlc (ha:XE X cl E a fa)(hb:XE X cl E b fb):XL X cl E (.BinOp a .Add b pos) (fL2 zjb fa fb):=by
 obtain⟨t,pt,rt⟩:=ha.ex
 obtain⟨u,pu,ru⟩:=hb.ex
 refine⟨_,zjL zmu pt pu,λH0 F0 ρ σ H F Q R o=>rt H0 F0 ρ σ H F _ R (OutE.fstA o λd v H1 F1 g q o1=>?_)⟩
 refine ru H0 F0 ρ σ H1 F1 _ (R.grow g) (OutE.fstA o1 λd2 v2 H2 F2 g2 q2 o2=>?_)
 obtain⟨z,hz,k⟩:=o2.lf
 have fh:=(R.grow (g.trans g2)).fh
 have q':=q.mono g2.ff
 obtain⟨l,m,rfl,rfl,hl,rfl⟩:=zj8 hz
 cases q' with
 | lst sq dq =>
  cases q2 with
  | lst sq2 dq2=>exact⟨_,_,_,_,rfl,rfl,fh.seq sq,fh.seq sq2,sz6 (by rw[dq.length,dq2.length];exact hl),λp hp=>k _ _ _ (Gr.refl fh) (dq.append dq2) p hp⟩
end
def zeL (K:PySem.W.Frag):Sp:=λvs H Q _=>∃(a:Addr) (ns:List Int),vs=[.ref a]/\SqL K H a (ns.map V.int)/\ns.length<=63/\∀H',Q (.bl true) H'
theorem zld {K:PySem.W.Frag}{cl:Nat->Addr}{fn:List D->Rs D}(h:∀ns:List Int,ns.length<=63->fn [.lst (ns.map .int)]=.ok (.bl true)){vs:List V}{H:Hp}{Q:VK}{E E':XK}(hs:zeL K vs H Q E):spD K cl fn 1 vs H Q E':=by
 obtain⟨a,ns,rfl,sq,hl,k⟩:=hs
 refine⟨H,[.lst (ns.map .int)],Same.refl _,.cons (.lst sq (zdH λi _=>.int i)) .nil,rfl,?_⟩
 rw[h ns hl]
 intro v H' F' g q
 cases q
 exact k H'
theorem zm6 {P:Program}{w:World}{K:PySem.W.Frag}{mg:Str->Option Value}{base:Heap}{cl:Nat->Addr}{fn:List D->Rs D}{k:Nat}{f:Addr}{fd:FuncData}{ps:List Str}(G:FnOk P w K mg base (CX1 P w) k f fd ps (spD K cl fn 1))(h:∀ns:List Int,ns.length<=63->fn [.lst (ns.map .int)]=.ok (.bl true)):FnOk P w K mg base CX0 k f fd ps (zeL K) where
 len:=λvs H Q E hs=>G.len vs H Q E (zld h hs)
 run:=λA outer s H args us vs Q E hr e0 bt vl hs=>by
  refine lci (G.run A outer s H args us vs Q E0 hr e0 bt vl (zld (E:=E) h hs)) λr s' q=>?_
  cases r with
  | error e =>
   obtain⟨a,C,a0,H',B,_,_,_,_,_,_,_,_,_,_,_,z⟩:=(show zd9 P w outer H s E0 e s' from q)
   exact z.elim
  | ok fl=>cases fl <;>exact q
theorem zp2 {α:Type}{us:List α}(h:us.length=1):∃a,us=[a]:=List.length_eq_one_iff.mp h
theorem zpZ {α:Type}{us:List α}(h:us.length=2):∃a b,us=[a,b]:=by
 cases us with
 | nil=>cases h
 | cons a t=>obtain⟨b,rfl⟩:=zp2 (Nat.succ.inj h);exact⟨a,b,rfl⟩
theorem zqc {α:Type}{us:List α}(h:us.length=3):∃a b c,us=[a,b,c]:=by
 cases us with
 | nil=>cases h
 | cons a t=>obtain⟨b,c,rfl⟩:=zpZ (Nat.succ.inj h);exact⟨a,b,c,rfl⟩
theorem zqC {α:Type}{us:List α}(h:us.length=4):∃a b c d,us=[a,b,c,d]:=by
 cases us with
 | nil=>cases h
 | cons a t=>obtain⟨b,c,d,rfl⟩:=zqc (Nat.succ.inj h);exact⟨a,b,c,d,rfl⟩
def zhb (ds:List (List Nat×D))(k:List Nat):Option D:=(ds.find? λkv=>decide (kv.1=k)).map (·.2)
def getD:D->D->Option D
 | .dct ds,.str k=>zhb ds k
 | _,_=>none
theorem Dks.val {K:PySem.W.Frag}{cl:Nat->Addr}{F:Hp}{k:List Nat}:∀{vs:List (Key×V)}{ds:List (List Nat×D)},Dks K cl F vs ds->match zhb ds k with|some d=>∃v,zfm vs (Sum.inr (T k):Key)=some v/\Dt K cl F v d|none=>zfm vs (Sum.inr (T k):Key)=none
 | _,_,.nil=>rfl
 | _, _,.cons (l:=l) (v:=v) (d:=d) (vs:=vs) (ds:=ds) ok q r=>by
  have ih:=Dks.val (k:=k) r
  by_cases h:l=k
  ·subst h
   have e1:zhb ((l,d)::ds) l=some d:=by simp[zhb]
   rw[e1]
   exact⟨v,by simp[zfm],q⟩
  ·have h':¬((Sum.inr (T l):Key)=Sum.inr (T k)):=λz=>by injection z with z;exact h (zkP z)
   have e1:zhb ((l,d)::ds) k=zhb ds k:=by simp[zhb,h]
   have e2:zfm ((Sum.inr (T l),v)::vs) (Sum.inr (T k):Key)=zfm vs (Sum.inr (T k):Key):=by
    unfold zfm
    rw[lcz (by simpa using h')]
   rw[e1,e2]
   exact ih
section
variable {X:Cx}{cl:Nat->Addr}{E:XK}{e o a b:Expr}{es:List Expr}{fa fb:Rho->Rs D}{fs:Rho->Rs (List D)}{x:Str}{p pos:Pos}
theorem zjW {a b d:D}(e:getD a b=some d):∃ds k,a=.dct ds/\b=.str k/\zhb ds k=some d:=by
 cases a with
 | dct ds =>
  cases b with
  | str k=>exact⟨ds,k,rfl,rfl,e⟩
  | _=>cases e
 | _=>cases e
theorem Dt.dctE {K:PySem.W.Frag}{F:Hp}{v:V}{ds:List (List Nat×D)}(q:Dt K cl F v (.dct ds)):∃(a:Addr) (kvs:List (Key×V)),v=.ref a/\F a=some (.dK kvs)/\Dks K cl F kvs ds:=by
 cases q with|dct h k=>exact⟨_,_,rfl,h,k⟩
theorem znO (hu:X.A.units+1<cLine)(ha:XE X cl E a fa)(hb:XE X cl E b fb)(hs:zpg b:=by intro _ _;rfl):XE X cl E (.Subscript a b pos) (f2 getD fa fb):=by
 obtain⟨t,pt,rt⟩:=ha.ex
 obtain⟨u,pu,ru⟩:=hb.ex
 refine XE'.out ⟨_,zlG hu pt pu hs,λH0 F0 ρ σ H F Q R o=>rt H0 F0 ρ σ H F _ R (OutE.fst o λd v H1 F1 g1 q o1=>?_)⟩
 refine ru H0 F0 ρ σ H1 F1 _ (R.grow g1) (OutE.fst o1 λe w H2 F2 g2 q2 o2=>?_)
 obtain⟨z,hz,k⟩:=o2.lf
 have fh:=(R.grow (g1.trans g2)).fh
 have q':=q.mono g2.ff
 obtain⟨ds,key,rfl,rfl,hz'⟩:=zjW hz
 obtain⟨ad,kvs,rfl,hd,hk⟩:=q'.dctE
 obtain⟨rfl,ok⟩:=q2.strE
 have hv:=hk.val (k:=key)
 rw[hz'] at hv
 obtain⟨v,e1,e2⟩:=hv
 exact⟨ad,v,rfl,e1▸DGet.k (k:=Sum.inr (T key)) (fh _ _ hd),k _ _ _ (Gr.refl fh) e2⟩
def zmT (ks:List (List Nat))(ds:List D):List (List Nat×D):=(List.range (min ks.length ds.length)).foldl (λm j=>putD m (ks.getD j []) (ds.getD j .non)) []
def zpJ:D->Option (List D)
 | .lst ds=>some ds
 | .tup ds=>some ds
 | _=>none
def ziK (a b:D):Option D:=match zpJ a,zpJ b with
 | some ks,some ds=>if ks.all isS=true/\ks.length<=1000 then some (.dct (zmT (ks.map unS) ds)) else none
 | _,_=>none
theorem Dts.getDt {K:PySem.W.Frag}{F:Hp}:∀{vs:List V}{ds:List D} (_:Dts K cl F vs ds) (j:Nat),j<ds.length->Dt K cl F (vs.getD j .non) (ds.getD j .non):=by
 intro vs ds
 induction ds generalizing vs with
 | nil=>intro _ j h;cases h
 | cons d ds ih =>
  intro q j h
  cases q with
  | cons r t =>
   cases j with
   | zero=>exact r
   | succ j=>exact ih t j (Nat.lt_of_succ_lt_succ h)
theorem zmb {K:PySem.W.Frag}{F:Hp}{ks:List (List Nat)}{vs:List V}{ds:List D}(hk:∀x∈ks,TxtOk (T x))(q:Dts K cl F vs ds):Dks K cl F (zmZ ks vs) (zmT ks ds):=by
 have key:∀(js:List Nat) (m:List (Key×V)) (n:List (List Nat×D)),(∀j∈js,j<ks.length/\j<ds.length)->Dks K cl F m n ->
   Dks K cl F (js.foldl (λm j=>putK m (Sum.inr (T (ks.getD j []))) (vs.getD j .non)) m) (js.foldl (λm j=>putD m (ks.getD j []) (ds.getD j .non)) n):=by
  intro js
  induction js with
  | nil=>exact λm n _ h=>h
  | cons j js ih =>
   intro m n h hm
   rw[lan,lan]
   obtain⟨h1,h2⟩:=h j (.head _)
   refine ih _ _ (λi hi=>h i (.tail _ hi)) (hm.put (hk _ ?_) (q.getDt j h2))
   rw[lr,lg h1]
   exact laI h1
 unfold zmZ zmT
 rw[q.length]
 exact key _ _ _ (λj hj=>by have:=la5.mp hj;omega) .nil
theorem Dt.seq {K:PySem.W.Frag}{F:Hp}{v:V}{d:D}{ds:List D}(q:Dt K cl F v d)(e:zpJ d=some ds):∃(a:Addr) (vs:List V),v=.ref a/\(SqL K F a vs∨SqT K F a vs)/\Dts K cl F vs ds:=by
 cases q with
 | lst sq dq=>obtain rfl:=lc e;exact⟨_,_,rfl,.inl sq,dq⟩
 | tup sq dq=>obtain rfl:=lc e;exact⟨_,_,rfl,.inr sq,dq⟩
 | _=>cases e
theorem zhw {p1 p2 pos1 pos2:Pos}(hc:X.calm=true)(hd:Gl X "dict")(md:X.mg "dict" = none)(hz:Gl X "zip")(mz:X.mg "zip" = none)(ha:XE X cl E a fa)(hb:XE X cl E b fb)
  (hs:starEach [a,b] X.env=[(false,eval a X.env),(false,eval b X.env)]:=by rfl) (hs2:starEach [b] X.env=[(false,eval b X.env)]:=by rfl)
  (hs3:starEach [.Call (.Name "zip" p2) [a,b] [] pos2] X.env=[(false,eval (.Call (.Name "zip" p2) [a,b] [] pos2) X.env)]:=by rfl) :
  XE X cl E (.Call (.Name "dict" p1) [.Call (.Name "zip" p2) [a,b] [] pos2] [] pos1) (f2 ziK fa fb):=by
 obtain⟨t,pt,rt⟩:=ha.ex
 obtain⟨u,pu,ru⟩:=hb.ex
 refine XE'.out ⟨_,zfs hc pt pu hd hz md mz hs hs2 hs3,λH0 F0 ρ σ H F Q R o=>?_⟩
 unfold znV zbD
 refine rt H0 F0 ρ σ H F _ R (OutE.fst o λd v H1 F1 g1 q o1=>?_)
 refine ru H0 F0 ρ σ H1 F1 _ (R.grow g1) (OutE.fst o1 λe w H2 F2 g2 q2 o2=>?_)
 obtain⟨z,hz,k⟩:=o2.lf
 have fh:=(R.grow (g1.trans g2)).fh
 have q':=q.mono g2.ff
 unfold ziK at hz
 split at hz
 ·rename_i ks ds ek ed
  split at hz
  ·rename_i h
   obtain rfl:=lc hz
   obtain⟨A1,vs1,rfl,s1,d1⟩:=q'.seq ek
   obtain⟨A2,vs2,rfl,s2,d2⟩:=q2.seq ed
   obtain⟨e1,e2,e3⟩:=d1.texts h.1
   subst e1
   refine⟨ks.map unS,A1,A2,vs2,rfl,s1.imp fh.seq fh.seqT,s2.imp fh.seq fh.seqT,by rw[ly];exact h.2,λp hp=>k _ _ _ (Gr.new fh hp) ?_⟩
   exact .dct zK ((zmb e2 d2).mono (Same.upd (fh.free hp)))
  ·cases hz
 ·cases hz
def zn8:D->D->Option D
 | .lst ds,.str k=>if ds.all isS=true/\ds.length<=1000/\k∈ds.map unS then some (.int ((ds.map unS).idxOf k:Nat)) else none
 | .tup ds,.str k=>if ds.all isS=true/\ds.length<=1000/\k∈ds.map unS then some (.int ((ds.map unS).idxOf k:Nat)) else none
 | _,_=>none
def zo8:D->Bool
 | .lst _=>true
 | _=>false
def zql:D->Bool
 | .tup _=>true
 | _=>false
theorem zim {ls:List (List Nat)}{k:List Nat}(h:k∈ls):um (.str (T k))=true/\(vT ls).all um=true/\(vT ls)[ls.idxOf k]? = some (.str (T k))/\eqV (.str (T k)) (.str (T k))=true /\
  ∀(m:Nat) (w:V),m<ls.idxOf k->(vT ls)[m]? = some w->eqV w (.str (T k))=false:=by
 have hl:=laW h
 have key:∀x,eqV (.str (T x)) (.str (T k))=(x == k):=λx=>zl1 x k
 refine⟨rfl,?_,?_,?_,?_⟩
 ·unfold vT;simp[um]
 ·unfold vT
  rw[lR,lg hl,lcs hl];rfl
 ·rw[key];simp
 ·intro m w hm hw
  unfold vT at hw
  have hml:m<ls.length:=by omega
  rw[lR,lg hml] at hw
  obtain rfl:=lc hw
  have hne:ls[m]≠k:=by
   have:=List.not_of_lt_findIdx (p:=(· == k)) (xs:=ls) (i:=m) hm
   simpa using this
  show eqV (.str (T ls[m])) (.str (T k))=false
  rw[key];simp[hne]
def zqr (K:PySem.W.Frag)(r:V->List V->Hp->VK->Prop)(to:TE)(t:TA):TE:=λσ H Q=>to σ H λx H1=>(∃(a:Addr) (xs:List V),x=.ref a/\SqT K H1 a xs)/\t σ H1 λxs H2=>r x xs H2 Q
theorem zn9 {to:TE}{t:TA}{name:Str}{apos cpos:Pos}{id:String}{r:V->List V->Hp->VK->Prop}(pa:PlainAttrs "tuple")(slot:Slot "tuple" name id)(hty:typeOf (.builtin id)=pure (.type "method_descriptor"))(hm:MtR X id r)(ho:PE X o to)(ha:PA X (e::es) t)
  (hbase:attributeBase o name X.env (eval o X.env)=eval o X.env)
  (hfew:((backTo cpos (starEach (e::es) X.env)).all (λx=>!x.1)&&(backToKw cpos (keywordEach [] X.env)).all (λx=>x.1.isSome)
   && decide ((e::es).length+([]:List Keyword).length+(if ([]:List Keyword).isEmpty then 0 else 1)<30))=true)
  (hline:(apos.endLine == cpos.line)=true) (hs:starEach (e::es) X.env=(false,eval e X.env)::starEach es X.env) (hplain:(backTo cpos (starEach es X.env)).any (·.1)=false) :
  PE X (.Call (.Attribute o name apos) (e::es) [] cpos) (zqr X.K r to t):=by
 intro pins s σ H Q I h
 refine wpAny_Call_method_late hbase hfew hline rfl (thn (ho pins s σ H _ I h) λv s1 znb=>?_)
 obtain⟨x,H1,I1,r1,ty,q1⟩:=znb
 obtain⟨ad,xs,rfl,sq⟩:=ty
 cases r1
 obtain⟨ob,e1,c1,d1⟩:=I1.noDict sq
 refine⟨"tuple", id,pa,slot,hty,⟨ob,e1,c1⟩,λa z=>by cases z;exact⟨ob,e1,d1⟩,?_⟩
 have hA:=ha cpos pins s1 σ H1 _ I1 q1
 rw[hs] at hA ⊢
 refine lcw (by show(false || (backTo cpos (starEach es X.env)).any (·.1))=false;rw[hplain] <;>rfl) (lcI ?_)
 exact thn hA λus s2 ⟨vs,H2,I2,r2,q2⟩=>hm pins s2 σ H2 (.ref ad) vs (.ref ad) us Q I2 rfl r2 q2
theorem zmg {apos cpos:Pos}(ho:XE X cl E o fa)(ha:XE X cl E e fb)(m:Mth X o e "index" apos cpos):XE X cl E (.Call (.Attribute o "index" apos) [e] [] cpos) (fM zql zn8 fa fb):=by
 obtain⟨t,pt,rt⟩:=ho.ex
 obtain⟨u,pu,ru⟩:=ha.ex
 refine XE'.out ⟨_,zn9 PySem.F.plainAttrs_tuple PySem.F.slot_tuple_index PySem.F.type_tuple_index zhV pt (yJ pu vp m.hs) m.base m.few m.line m.hs m.plain,λH0 F0 ρ σ H F Q R o=>rt H0 F0 ρ σ H F _ R (OutE.fst o λd v H1 F1 g1 q o1=>?_)⟩
 split at o1
 ·rename_i hd
  cases q with
  | tup sq dq =>
   rename_i ad xs ds
   refine⟨⟨ad,xs,rfl,(R.grow g1).fh.seqT sq⟩,ru H0 F0 ρ σ H1 F1 _ (R.grow g1) (OutE.fst o1 λd2 v2 H2 F2 g2 q2 o2=>?_)⟩
   obtain⟨z,hz,k⟩:=o2.lf
   have fh:=(R.grow (g1.trans g2)).fh
   cases q2 with
   | str key ok2 =>
    dsimp only [zn8] at hz
    split at hz
    ·rename_i h
     obtain rfl:=lc hz
     obtain⟨e1,e2,e3⟩:=dq.texts h.1
     subst e1
     obtain⟨a1,a2,a3,a4,a5⟩:=zim h.2.2
     exact⟨ad,_,_,_,_,rfl,rfl,fh.seqT (g2.ff.seqT sq),a1,a2,a3,a4,a5,k _ _ _ (Gr.refl fh) (.int _)⟩
    ·cases hz
   | _=>cases hz
  | _=>cases hd
 ·exact o1.elim
end
def zm3:List D->Option D
 | [.int i]=>if 0<=i/\i<=9 then some (.str [48+i.toNat]) else none
 | _=>none
def maxD:List D->Option D
 | [.int i,.int j]=>some (.int (if j > i then j else i))
 | _=>none
def minD:List D->Option D
 | [.int i,.int j]=>some (.int (if j<i then j else i))
 | _=>none
section
variable {K:PySem.W.Frag}{cl:Nat->Addr}
theorem n_str:Fn1 K cl (λxs H Q=>∃i,xs=[.int i]/\i.natAbs.log2<1920/\Q (.str (toString i)) H) zm3:=λF H vs ds d Q s q e k=>by
 match ds,q,e with
 | [.int i],q,e =>
  obtain⟨v,rfl,q1⟩:=q.one
  cases q1
  dsimp only [zm3] at e
  split at e
  ·rename_i h
   obtain rfl:=lc e
   obtain⟨n,rfl⟩:=lay h.1
   have key:∀n<10,((toString ((n:Nat):Int):String):Str)=T [48+n]/\((n:Nat):Int).natAbs.log2<1920:=by decide +kernel
   have hn:n<10:=by omega
   refine⟨_,rfl,(key n hn).2,?_⟩
   have:=k (.str (T [48+n])) _ _ (Gr.refl s) (.str _ (jd (λc hc=>by rw[lI.mp hc];omega) (by show 1<=_;decide)))
   rw[(key n hn).1]
   exact this
  ·cases e
def LI2 (f:Int->Int->Option D):List D->Option D
 | [.int i,.int j]=>f i j
 | _=>none
theorem zjl {f:Int->Int->Option D}{ds:List D}{d:D}(e:LI2 f ds=some d):∃i j,ds=[.int i,.int j]/\f i j=some d:=by
 cases ds with
 | nil=>cases e
 | cons a t =>
  cases a with
  | int i =>
   cases t with
   | nil=>cases e
   | cons b t =>
    cases b with
    | int j =>
     cases t with
     | nil=>exact⟨i,j,rfl,e⟩
     | cons _ _=>cases e
    | _=>cases e
  | _=>cases e
theorem n_max:Fn1 K cl (λxs H Q=>∃i j,xs=[.int i,.int j]/\Q (.int (if j > i then j else i)) H) maxD:=λF H vs ds d Q s q e k=>by
 obtain⟨i,j,rfl,e1⟩:=zjl (f:=λi j=>some (.int (if j > i then j else i))) e
 obtain⟨v,w,rfl,q1,q2⟩:=q.two
 obtain rfl:=q1.intE
 obtain rfl:=q2.intE
 obtain rfl:=lc e1
 exact⟨_,_,rfl,k _ _ _ (Gr.refl s) (.int _)⟩
theorem n_min:Fn1 K cl (λxs H Q=>∃i j,xs=[.int i,.int j]/\Q (.int (if j<i then j else i)) H) minD:=λF H vs ds d Q s q e k=>by
 obtain⟨i,j,rfl,e1⟩:=zjl (f:=λi j=>some (.int (if j<i then j else i))) e
 obtain⟨v,w,rfl,q1,q2⟩:=q.two
 obtain rfl:=q1.intE
 obtain rfl:=q2.intE
 obtain rfl:=lc e1
 exact⟨_,_,rfl,k _ _ _ (Gr.refl s) (.int _)⟩
end
section
variable {X:Cx}{cl:Nat->Addr}{E:XK}{a b e:Expr}{fa fb:Rho->Rs D}{pos:Pos}{st:Stmt}{g:Rho->Out}
end
section
variable {X:Cx}{cl:Nat->Addr}{E:XK}{a b e:Expr}{fa fb:Rho->Rs D}{pos:Pos}
theorem Dts.rep {K:PySem.W.Frag}{F:Hp}{vs:List V}{ds:List D}(q:Dts K cl F vs ds):∀n:Nat,Dts K cl F (List.replicate n vs).flatten (List.replicate n ds).flatten
 | 0=>.nil
 | n+1=>by
  rw[la3,la3,laB,laB]
  exact q.append (Dts.rep q n)
end
structure XEw (X:Cx)(cl:Nat->Addr)(E:XK)(e:Expr)(f:Rho->Rs D):Prop where
 out:XE X cl E e f
structure XAw (X:Cx)(cl:Nat->Addr)(E:XK)(es:List Expr)(f:Rho->Rs (List D)):Prop where
 out:XA X cl E es f
section
variable {X:Cx}{cl:Nat->Addr}{E:XK}{e:Expr}{es:List Expr}{f:Rho->Rs D}{fs:Rho->Rs (List D)}{pos:Pos}
theorem kI:XAw X cl E [] zE:=⟨zq⟩
theorem zZ (h1:XEw X cl E e f)(h2:XAw X cl E es fs)(hs:starEach (e::es) X.env=(false,eval e X.env)::starEach es X.env):XAw X cl E (e::es) (zf f fs):=⟨zj h1.out h2.out hs⟩
theorem zek (h:XAw X cl E es fs):XEw X cl E (.List es pos) (fO mkL fs):=⟨zaS h.out⟩
theorem zcF {x1}(h:XAw X cl E es fs):XEw X cl E (.Tuple es x1 pos) (fO mkT fs):=⟨zc3 h.out⟩
theorem zay {x:Str}{j}{l:List Nat}(h:x=T l)(ok:TxtOk (T l)):XEw X cl E (.Constant (.str x) j pos) (fC (.str l)):=⟨xZ h ok⟩
theorem zoN {a b:Expr}{fa fb:Rho->Rs D}(ha:XEw X cl E a fa)(hb:XEw X cl E b fb)(hs:zbV b):XEw X cl E (.Subscript a b pos) (f2 ixD fa fb):=⟨zax ha.out hb.out hs⟩
theorem zk4 {j}:XEw X cl E (.Constant .none j pos) (fC .non):=⟨zjp⟩
theorem zad {i j}:XEw X cl E (.Constant (.int i) j pos) (fC (.int i)):=⟨zB⟩
end
section
variable {X:Cx}{cl:Nat->Addr}{E:XK}{e:Expr}{f:Rho->Rs D}{p pos:Pos}{tg:Expr}
theorem Dts.reverse {K:PySem.W.Frag}{F:Hp}:∀{vs:List V}{ds:List D},Dts K cl F vs ds->Dts K cl F vs.reverse ds.reverse
 | _,_,.nil=>.nil
 | _,_,.cons q r=>by rw[lbF,lbF];exact Dts.append (Dts.reverse r) (.cons q .nil)
end
theorem ziC (l:Addr)(items:Array Value)(n:Nat)(dd:Option Addr)(sl:Array (Option Value))(x:Int)(u:Tok)(hc0:¬(!Builtin.List.listFitsIndex x)=true)(hc1:¬items.size*x.toNat > (2 ^ 63 - 1) / 8)(hc2:¬Builtin.List.listTooLong (items.size*x.toNat)=true) :
  Meets (Builtin.«list.__mul__» ⟨[.ref l,.int x u],[]⟩) (λ_ R s=>s.heap.get? l=some {cls:=.type "list", dict:=dd,data:=.seq items n,slots:=sl}/\R (.ok (.ret (Value.ref s.heap.objs.size))) {s with heap:=s.heap.push {cls:=Value.type "list", data:=Data.seq (List.foldl (λx1 x2=>x1++x2) #[] (List.replicate (if items.isEmpty=true then 0 else x.toNat) items))},toks:=s.toks}) :=
 .of_wp λprog w A R s h=>by
  obtain⟨hp,g,d,tk,os⟩:=s;obtain⟨hl,h⟩:=h
  have hsz:=AutoListH.joined_fits hc2
  wp_walk;refine wpAny_ite_false (lT (Nat.not_lt.mpr hsz)) ?_;wp_walk;exact⟨_,rfl,h⟩
theorem ziL (a:Int)(t:Tok)(l:Addr)(items:Array Value)(n:Nat)(dd:Option Addr)(sl:Array (Option Value)) :
  Meets (Builtin.«int.__rmul__» ⟨[.int a t,.ref l],[]⟩) (λ_ R s=>s.heap.get? l=some {cls:=.type "list", dict:=dd,data:=.seq items n,slots:=sl}/\R (.ok (.ret Value.notImplemented)) s) :=
 .of_wp λprog w A R s h=>by obtain⟨hp,g,d,tk,os⟩:=s;obtain⟨hl,h⟩:=h;wp_walk;exact⟨_,rfl,h⟩
def zpU (K:PySem.W.Frag):R2:=λx y H Q=>∃l k xs,x=.ref l/\y=.int k/\SqL K H l xs/\-(2 ^ 63)<=k/\k<2 ^ 63/\xs.length*k.toNat<=sizeLine /\
 ∀p,H p=none->Q (.ref p) (upd H p (.lst (List.replicate k.toNat xs).flatten))
section
variable {X:Cx}{cl:Nat->Addr}{E:XK}{a b:Expr}{fa fb:Rho->Rs D}{pos:Pos}
theorem zlT:OpR X (binaryOp .Mult) (zpU X.K):=by
 intro pins s σ H x y v u Q I rx ry h
 obtain⟨l,k,xs,rfl,rfl,hH,h1,h2,hz,q⟩:=h
 cases rx
 obtain⟨t,rfl⟩:=ry
 obtain⟨its,r,⟨o,n,e,hc,hdd,hd⟩,z⟩:=I.list hH
 obtain⟨cls,dd,data,sl⟩:=o
 simp only at hc hd
 subst hc hd
 have hl:=r.length
 have hlen:its.toArray.size*k.toNat<=sizeLine:=by rw[lG,← hl];exact hz
 have hcap:¬its.toArray.size*k.toNat > (2 ^ 63 - 1) / 8:=by
  have:(sizeLine:Nat)<=(2 ^ 63 - 1) / 8:=by decide
  omega
 have hfit:¬(!Builtin.List.listFitsIndex k)=true:=by
  rw[fitsIndex_both h1 h2]
  exact lv
 have hlong:¬Builtin.List.listTooLong (its.toArray.size*k.toNat)=true:=by
  rw[zkt hlen]
  exact lv
 have hnew:List.foldl (λx1 x2=>x1++x2) #[] (List.replicate (if its.toArray.isEmpty=true then 0 else k.toNat) its.toArray)=(List.replicate k.toNat its).flatten.toArray:=by
  have f0:∀m:Nat,List.foldl (λx1 x2=>x1++x2) #[] (List.replicate m its.toArray)=(List.replicate m its).flatten.toArray:=λm=>by
   have:=foldl_rep its m []
   rw[lao] at this
   exact this
  rw[f0]
  cases its with
  | nil=>simp
  | cons a r'=>rw[lW (by simp)]
 refine wpAny_binaryOp_repeat_ref (T := "list") (U := "int") (by decide) ⟨_,e,rfl⟩ (λs'=>typeIs_int s' k t) noFill_list_mul F.fills_int_mul F.slot_int_rmul repeat_list F.slot_int_index.lookup
  (lbP F.slot_int_rmul (typeIs_int s k t) F.entry_int_rmul (F.args_int_rmul_2 _ _) (ziL k t l its.toArray n dd sl)
   ⟨e,rfl,⟨_,e,rfl⟩,lbP F.slot_list_mul ⟨_,e,rfl⟩ F.entry_list_mul (F.args_list_mul_2 _ _) (ziC l its.toArray n dd sl k t hfit hcap hlong) ⟨e,?_⟩⟩)
 rw[hnew]
 exact⟨.ref _,_,I.lnew (t':=s.toks) (r.rep k.toNat) (by rw[len_rep,Nat.mul_comm];exact hz),rfl,q _ I.fresh⟩
theorem zkj {a b:D}{z:List D}(e:zpA a b=some z):∃l n,a=.lst l/\b=.int n/\0<=n/\n<=1000/\l.length<=1000/\z=(List.replicate n.toNat l).flatten:=by
 cases a with
 | lst l =>
  cases b with
  | int n =>
   by_cases h:0<=n/\n<=1000/\l.length<=1000
   ·exact⟨l,n,rfl,rfl,h.1,h.2.1,h.2.2,(lc ((lB h).symm.trans e)).symm⟩
   ·exact absurd ((lW h).symm.trans e) nofun
  | _=>cases e
 | _=>cases e
theorem znU (ha:XE X cl E a fa)(hb:XE X cl E b fb):XL X cl E (.BinOp a .Mult b pos) (fL2 zpA fa fb):=by
 obtain⟨t,pt,rt⟩:=ha.ex
 obtain⟨u,pu,ru⟩:=hb.ex
 refine⟨_,zjL zlT pt pu,λH0 F0 ρ σ H F Q R o=>rt H0 F0 ρ σ H F _ R (OutE.fstA o λd v H1 F1 g q o1=>?_)⟩
 refine ru H0 F0 ρ σ H1 F1 _ (R.grow g) (OutE.fstA o1 λd2 v2 H2 F2 g2 q2 o2=>?_)
 obtain⟨z,hz,k⟩:=o2.lf
 have fh:=(R.grow (g.trans g2)).fh
 have q':=q.mono g2.ff
 obtain⟨l,n,rfl,rfl,h0,hn,hl,rfl⟩:=zkj hz
 cases q' with
 | lst sq dq =>
  cases q2 with
  | int =>
   have e1:=dq.length
   have e2:n.toNat<=1000:=by omega
   exact⟨_,_,_,rfl,rfl,fh.seq sq,by omega,by omega,sz6 (lX (lc3 (e1▸hl) e2) (by decide)),λp hp=>k _ _ _ (Gr.refl fh) (dq.rep _) p hp⟩
end
def PX (X:Cx)(e:Expr)(t:St->Hp->VK->XK->Prop):Prop:=∀(pins:List (Addr×Obj)) (s:Shared) (σ:St) (H:Hp) (Q:VK) (E:XK) (F':Value->Shared->Prop),Inv X pins σ H s ->
 (∀H s e s',Inv X pins σ H s->zd9 X.prog X.w X.stack H s E e s'->F' e s')->t σ H Q E->wpAny (model X.prog X.w) X.A (eval e X.env) (EP X pins σ Q) F' s
section
variable {X:Cx}{k:Nat}{f:Addr}{fd:FuncData}{ps:List Str}{sp:Sp}{x y n:Str}{p np cpos rpos hpos pos:Pos}{e c a b:Expr}{es:List Expr}{ta:TA}{tc:TT}{i:Nat}{b₀:Stmt}{suite:List Stmt}{th:TS}{more:List ExceptHandler}{tx ty:St->Hp->VK->XK->Prop}
theorem zpX (hc:PT X.nox c tc)(ha:PX X a tx)(hb:PX X b ty):PX X (.IfExp c a b pos) (λσ H Q E=>tc σ H λd H1=>if d=true then tx σ H1 Q E else ty σ H1 Q E):=by
 intro pins s σ H Q E F' I hx h
 refine wpAny_IfExp (lai (hc pins s σ H _ (I.wish _) h) (λd s1 ⟨H1,I1,q1⟩=>?_) λ_ _ z=>False.elim z)
 cases d with
 | true=>exact ha pins s1 σ H1 Q E F' I1.unwish hx q1
 | false=>exact hb pins s1 σ H1 Q E F' I1.unwish hx q1
theorem zmM (hx:PX X e tx)(O:Own X.K X.mg x)(hgx:Gl X x)(hN:X.N.Nodup)(hi:X.N[i]? = some n)(hlo:X.env.scope.names.lookup n=some .local)(hs:∀a,PSs (X.hand a) (b₀::suite) th)
  (hst:X.stack=X.env::X.outer) (hfr:X.env.frame=some X.env.locals) (hdx:(x == ("__debug__" : Str))=false:=by decide) :
  PS X (.Try [.Return (some e) rpos] (.ExceptHandler (some (.Name x np)) (some n) (b₀::suite) hpos::more) [] [] pos) (λD σ H=>tx σ H D.rt (zgR X.K O.C i th D σ)):=by
 intro pins s σ H D I h
 refine wpAny_Try_except (lcc (lc4 ?_))
 exact lai (hx pins s σ H D.rt _ _ I (λH2 s2 e2 s3 I2 hf=>caught I2 hst hfr O hgx hN hi hlo hs hf hdx) h) (λu s2 ⟨v,H2,I2,rv,q2⟩=>⟨v,σ,H2,I2,rv,q2⟩) λ_ _ z=>z
end
def XX (X:Cx)(cl:Nat->Addr)(e:Expr)(f:Rho->Rs D):Prop:=PX X e (λσ H Q E=>∃H0 F0 ρ F,Rl X.K cl H0 F0 ρ σ H F/\OutE X.K cl E H0 F H (f ρ) Q)
theorem PX.mono {X:Cx}{e:Expr}{t u:St->Hp->VK->XK->Prop}(h:PX X e t)(k:∀σ H Q E,u σ H Q E->t σ H Q E):PX X e u:=λpins s σ H Q E F' I hx q=>h pins s σ H Q E F' I hx (k σ H Q E q)
section
variable {X:Cx}{cl:Nat->Addr}{x:Str}{p pos:Pos}{e c a b:Expr}{es:List Expr}
def znB (i:Nat)(cs:List Nat)(ef hf:Rho->Rs D):Rho->Out:=λρ=>if ρ.all (λs=>!s.own)=true then(match ef ρ with
 | .ok d=>.rt d
 | .ex n=>if n∈cs then(match hf (ρ.set i (.fz (.exc n))) with | .ok d=>.rt d|_=>.no) else .no
 | .no=>.no) else .no
theorem zgu {ρ:Rho}(h:ρ.all (λs=>!s.own)=true){i:Nat}{s:Sl}(e:ρ[i]? = some s):s.own=false:=by
 have:=lal.mp h s (laD e)
 simpa using this
theorem Rl.base {K:PySem.W.Frag}{H0 F0 H F:Hp}{ρ:Rho}{σ:St}(R:Rl K cl H0 F0 ρ σ H F)(h:ρ.all (λs=>!s.own)=true):Rl K cl H F ρ σ H F where
 gr:=Gr.refl R.fh
 len:=R.len
 fz:=R.fz
 ow:=λi ds e=>by have:=zgu h e;cases this
 od:=λi ds e=>by have:=zgu h e;cases this
 ap:=R.ap
theorem Gr.exc {F H H':Hp}{a:Addr}{o:HO}(h:Same F H)(s:Same H H')(ha:H' a=none):Gr F H (upd F a o) (upd H' a o):=by
 have hH:H a=none:=by
  cases z:H a with
  | none=>rfl
  | some q=>rw[s a q z] at ha;cases ha
 refine⟨Same.upd (h.free hH),s.trans (Same.upd ha),zgs (h.trans s),λb o hb m q=>?_⟩
 have hne:b≠a:=λz=>by rw[z,hH] at hb;cases hb
 rw[zF hne];exact q
def zeO (P:Nat->Prop)(cs:List Nat):Prop:=∀n∈cs,P n
theorem zgw {P:Nat->Prop}:zeO P []:=λ_ h=>by cases h
theorem ql {P:Nat->Prop}{n:Nat}{r:List Nat}(h:P n)(t:zeO P r):zeO P (n::r):=λm z=>by
 rcases lz.mp z with z|z
 ·exact z▸h
 ·exact t m z
theorem zob {E:XK}{n xc:Str}{np rpos rp2 hpos:Pos}{i:Nat}{cs:List Nat}{ef hf:Rho->Rs D}{hd:Expr}(hx:XX X cl e ef)(O:Own X.K X.mg xc)(hgx:Gl X xc)(hN:X.N.Nodup)(hi:X.N[i]? = some n)(hlo:X.env.scope.names.lookup n=some .local)
  (hcs:zeO (λn=>PySem.W.subIn X.K (.ref (cl n)) (.ref O.C)=some true) cs) (hh:∀a,XE (X.hand a) cl E0 hd hf) (hst:X.stack=X.env::X.outer) (hfr:X.env.frame=some X.env.locals) (hdx:(xc == ("__debug__" : Str))=false:=by decide) :
  XS X cl E (.Try [.Return (some e) rpos] [.ExceptHandler (some (.Name xc np)) (some n) [.Return (some hd) rp2] hpos] [] [] pos) (znB i cs ef hf):=by
 refine XS'.out ⟨_,zmM hx O hgx hN hi hlo (λa=>zaq (zeZ (te:=tDE X.K cl E0 hf) (hh a))) hst hfr hdx,λH0 F0 ρ σ H F Dn R o=>?_⟩
 unfold znB at o
 split at o
 ·rename_i hal
  refine⟨H,F,ρ,F,R.base hal,?_⟩
  cases e:ef ρ with
  | ok d=>rw[e] at o;exact λv H' F' g q=>o v H' F' (R.gr.trans g) q
  | no=>rw[e] at o;exact o
  | ex n =>
   rw[e] at o
   dsimp only at o
   split at o
   ·rename_i hn
    intro H' sH
    refine⟨cl n,rfl,hcs n hn,λa ha=>?_⟩
    have g:=Gr.exc (o:=excAt a (cl n)) R.fh sH ha
    refine⟨H0,F0,_,_,(R.grow g).set (i:=i) (.exc zK),?_⟩
    cases e2:hf (ρ.set i (.fz (.exc n))) with
    | ok d=>rw[e2] at o;exact λv H2 F2 g2 q2=>o v H2 F2 ((R.gr.trans g).trans g2) q2
    | ex m=>rw[e2] at o;exact o.elim
    | no=>rw[e2] at o;exact o.elim
   ·exact o.elim
 ·exact o.elim
theorem zqL {P:Program}{w:World}{K:PySem.W.Frag}{mg:Str->Option Value}{base:Heap}{x qual:Str}{st:Stmt}{f:Addr}{fd:FuncData}{N ps:List Str}{k m n:Nat}{g:Rho->Out}(Fu:Fun K x qual st f fd)(S:FnScope N ps (zm st))(hm:N.length=m)(hn:ps.length=n)
  (hb:∀(cdv:Value) (A:Around) (outer:List Env) (s:Shared) (H:Hp),Room k ((Around.calm0 A).deeper (envOfC qual (zm st) s.heap.objs.size f cdv))->XSs (zhC P w K mg base N qual (zm st) f cdv A outer s H) cl E0 (xq st) g):FnOkH P w K mg base (k+1) f fd ps (spD K cl (yQ m g) n):=by
 subst hm hn
 refine Fu.okH S (λvs H Q E h=>h.choose_spec.choose_spec.2.2.1) λcdv A outer s H vs Q hr h=>?_
 obtain⟨F,ds,sm,dq,hl,o⟩:=h
 refine⟨_,hb cdv A outer s H hr,H,F,_,F,Rl.start (N:=N) sm dq,?_⟩
 unfold yQ at o
 cases e:g (ds.map .fz++List.replicate (N.length - ds.length) .no) with
 | nx ρ=>rw[e] at o;exact λσ H' F' R _=>o .non H' F' R.gr .non
 | rt d=>rw[e] at o;exact λv H' F' gg q=>o v H' F' gg q
 | bk ρ=>rw[e] at o;exact o.elim
 | ct ρ=>rw[e] at o;exact o.elim
 | ex n=>rw[e] at o;exact o
 | no=>rw[e] at o;exact o
theorem zdz {k:Nat}{f:Addr}{fd:FuncData}{ps:List Str}{fn:List D->Rs D}{n:Nat}{fs:Rho->Rs (List D)}(G:FnOkH X.prog X.w X.K X.mg X.base k f fd ps (spD X.K cl fn n))(hr:RoomH k X.A)(hg:Gl X x)(hm:X.mg x=some (.ref f))(hk:PySem.W.keepIn X.K (.ref f)=true)(hb:Binds X.K fd ps [])
  (ha:XA X cl E0 (e::es) fs) (he:starEach (e::es) X.env=(false,eval e X.env)::starEach es X.env) (hdb:(x == ("__debug__" : Str))=false:=by decide) (hpl:(backTo pos (starEach es X.env)).any (·.1)=false:=by rfl):XE X cl E0 (.Call (.Name x p) (e::es) [] pos) (fA (ari n fn) fs):=by
 obtain⟨t,pt,rt⟩:=ha.ex
 refine XE'.out ⟨_,zjG G hr hg hm hk hb pt hdb he hpl,λH0 F0 ρ σ H F Q R o=>rt H0 F0 ρ σ H F _ R (OutA.fst o λds vs H1 F1 g q o1=>?_)⟩
 unfold ari at o1
 split at o1
 ·rename_i hl
  rw[lD]
  have R1:=R.grow g
  refine⟨F1,ds,R1.fh,q,by rw[q.length,hl],?_⟩
  cases e:fn ds with
  | ok d=>rw[e] at o1;exact o1
  | ex n=>rw[e] at o1;exact λH' s=>o1 H' (R1.gr.hh.trans s)
  | no=>rw[e] at o1;exact o1
 ·exact o1.elim
def zmW (tab:List (Nat×Bool)):D->Option D
 | .exc n=>(tab.lookup n).map .bl
 | _=>none
def TabOk (P:Nat->Bool->Prop)(tab:List (Nat×Bool)):Prop:=∀n b,(n,b)∈tab->P n b
theorem zdF {P:Nat->Bool->Prop}:TabOk P []:=λ_ _ h=>by cases h
theorem wu {P:Nat->Bool->Prop}{n:Nat}{b:Bool}{r:List (Nat×Bool)}(h:P n b)(t:TabOk P r):TabOk P ((n,b)::r):=λm c z=>by
 rcases lz.mp z with z|z
 ·cases z;exact h
 ·exact t m c z
theorem lookup_mem {n:Nat}{b:Bool}:∀{tab:List (Nat×Bool)},tab.lookup n=some b->(n,b)∈tab
 | (m,c)::r,h=>by
  rw[laZ] at h
  split at h
  ·rename_i e
   rw[lbO] at e
   cases h
   rw[e];exact .head _
  ·exact .tail _ (lookup_mem h)
theorem zdl {E:XK}{fa:Rho->Rs D}{tab:List (Nat×Bool)}{v:V}(hk:TabOk (λn b=>ExcK X.K (cl n)/\((∃C',v=.ref C'/\PySem.W.kitOne X.K (.ref (cl n)) (.ref C')=some b)∨(∃t,v=.ty t/\PySem.W.kitOne X.K (.ref (cl n)) (.type t)=some b))) tab)(hg:Gl X "isinstance")(hm:X.mg "isinstance" = none)(ha:XE X cl E e fa)(hb:PE X b (tC v))(h1:starEach [e,b] X.env=(false,eval e X.env)::starEach [b] X.env)(h2:starEach [b] X.env=(false,eval b X.env)::starEach [] X.env:=by rfl)(hpl:(backTo pos (starEach [b] X.env)).any (·.1)=false:=by rfl):XE X cl E (.Call (.Name "isinstance" p) [e,b] [] pos) (f1 (zmW tab) fa):=by
 obtain⟨t,pt,rt⟩:=ha.ex
 refine XE'.out ⟨_,zaM zed hg hm boot_isinstance (yJ pt (yJ hb vp h2) h1) (by decide) (by decide) h1 hpl,λH0 F0 ρ σ H F Q R o=>rt H0 F0 ρ σ H F _ R (OutE.fst o λd u H1 F1 g1 q o1=>?_)⟩
 obtain⟨z,hz,k⟩:=o1.lf
 have fh:=(R.grow g1).fh
 cases q with
 | exc hF =>
  rename_i ad nn
  dsimp only [zmW] at hz
  cases hl:tab.lookup nn with
  | none=>rw[hl] at hz;cases hz
  | some bb =>
   rw[hl] at hz
   obtain rfl:=lc hz
   obtain⟨z1,z2⟩:=hk nn bb (lookup_mem hl)
   exact⟨ad,cl nn,v,bb,rfl,fh _ _ hF,z1,z2,k _ _ _ (Gr.refl fh) (.bl _)⟩
 | _=>cases hz
def zo7:D->Bool
 | .bl _=>true
 | _=>false
def zju:D->Bool
 | .bl b=>b
 | _=>false
theorem Dts.truths {K:PySem.W.Frag}{F:Hp}:∀{vs:List V}{ds:List D},Dts K cl F vs ds->ds.all zo7=true->vs=(ds.map zju).map .bl
 | _,_,.nil,_=>rfl
 | _,_,.cons q r,h=>by
  rw[lbe,lQ] at h
  cases q with
  | bl b=>rw[Dts.truths r h.2];rfl
  | _=>exact absurd h.1 (by simp[zo7])
def zlC:D->D->Option D
 | .lst ds,.bl k=>if ds.all zo7=true then some (.int ((ds.map zju).count k:Nat)) else none
 | _,_=>none
def zl6:D->D->Option D
 | .lst ds,.bl k=>if ds.all zo7=true/\ds.length<=1000/\k∈ds.map zju then some (.int ((ds.map zju).idxOf k:Nat)) else none
 | _,_=>none
def zl5 (K:PySem.W.Frag):V->List V->Hp->VK->Prop:=λx vs H Q=>∃l xs y,x=.ref l/\vs=[y]/\SqL K H l xs/\um y=true/\xs.all um=true/\Q (.int ((xs.countP λz=>eqV z y:Nat):Int)) H
theorem ziz:MtR X "list.count" (zl5 X.K):=by
 intro pins s σ H x vs v us Q I rx rv h
 obtain⟨l,xs,y,rfl,rfl,hH,fy,fs,q⟩:=h
 cases rx
 obtain⟨u,rfl,ru⟩:=rv.one
 obtain⟨its,r,pl,hl⟩:=I.list hH
 obtain⟨o,n,e,hc,hd,hs⟩:=id pl
 have eo:o={cls:=.type "list", dict:=none,data:=.seq its.toArray n,slots:=o.slots}:=by
  obtain⟨c,d,dt,sl⟩:=o
  dsimp only at hc hd hs
  subst hc hd hs
  rfl
 rw[eo] at e
 refine lbP F.slot_list_count ⟨_,e,rfl⟩ F.entry_list_count (F.args_list_count_2 _ _) (SeqAt.list_countAt l its.toArray n none o.slots u (eqU y)) ⟨e,λw hw=>jH ru fy r fs w (by simpa using hw),?_⟩
 have ec:((its.toArray.toList.countP (eqU y):Nat):Int)=((xs.countP λz=>eqV z y:Nat):Int):=by
  rw[show its.toArray.toList=its from rfl,zer r fs]
 rw[ec]
 exact⟨.int _,H,I.tok _,⟨_,rfl⟩,q⟩
theorem zgN (L:List Bool):(L.map V.bl).all um=true:=by
 rw[lck];exact lal.mpr λ_ _=>rfl
theorem zig (L:List Bool)(k:Bool):(L.map V.bl).countP (λz=>eqV z (.bl k))=L.count k:=by
 rw[List.countP_map];rfl
theorem zmi {E:XK}{o:Expr}{fa fb:Rho->Rs D}{apos cpos:Pos}(ho:XE X cl E o fa)(ha:XE X cl E e fb)(m:Mth X o e "count" apos cpos):XE X cl E (.Call (.Attribute o "count" apos) [e] [] cpos) (fM zo8 zlC fa fb):=by
 obtain⟨t,pt,rt⟩:=ho.ex
 obtain⟨u,pu,ru⟩:=ha.ex
 refine XE'.out ⟨_,zec laM PySem.F.slot_list_count PySem.F.type_list_count ziz pt (yJ pu vp m.hs) m.base m.few m.line m.hs m.plain,λH0 F0 ρ σ H F Q R o=>rt H0 F0 ρ σ H F _ R (OutE.fst o λd v H1 F1 g1 q o1=>?_)⟩
 split at o1
 ·rename_i hd
  cases q with
  | lst sq dq =>
   rename_i ad xs ds
   refine⟨.inl ⟨rfl,xs,(R.grow g1).fh.seq sq⟩,ru H0 F0 ρ σ H1 F1 _ (R.grow g1) (OutE.fst o1 λd2 v2 H2 F2 g2 q2 o2=>?_)⟩
   obtain⟨z,hz,k⟩:=o2.lf
   have fh:=(R.grow (g1.trans g2)).fh
   cases q2 with
   | bl key =>
    dsimp only [zlC] at hz
    split at hz
    ·rename_i h
     obtain rfl:=lc hz
     obtain rfl:=dq.truths h
     refine⟨ad,_,_,rfl,rfl,fh.seq (g2.ff.seq sq),rfl,zgN _,?_⟩
     rw[zig]
     exact k _ _ _ (Gr.refl fh) (.int _)
    ·cases hz
   | _=>cases hz
  | _=>cases hd
 ·exact o1.elim
theorem zlX {E:XK}{o:Expr}{fa fb:Rho->Rs D}{apos cpos:Pos}(ho:XE X cl E o fa)(ha:XE X cl E e fb)(m:Mth X o e "index" apos cpos):XE X cl E (.Call (.Attribute o "index" apos) [e] [] cpos) (fM zo8 zl6 fa fb):=by
 obtain⟨t,pt,rt⟩:=ho.ex
 obtain⟨u,pu,ru⟩:=ha.ex
 refine XE'.out ⟨_,zec laM PySem.F.slot_list_index PySem.F.type_list_index zhW pt (yJ pu vp m.hs) m.base m.few m.line m.hs m.plain,λH0 F0 ρ σ H F Q R o=>rt H0 F0 ρ σ H F _ R (OutE.fst o λd v H1 F1 g1 q o1=>?_)⟩
 split at o1
 ·rename_i hd
  cases q with
  | lst sq dq =>
   rename_i ad xs ds
   refine⟨.inl ⟨rfl,xs,(R.grow g1).fh.seq sq⟩,ru H0 F0 ρ σ H1 F1 _ (R.grow g1) (OutE.fst o1 λd2 v2 H2 F2 g2 q2 o2=>?_)⟩
   obtain⟨z,hz,k⟩:=o2.lf
   have fh:=(R.grow (g1.trans g2)).fh
   cases q2 with
   | bl key =>
    dsimp only [zl6] at hz
    split at hz
    ·rename_i h
     obtain⟨h1,h2,h3⟩:=h
     obtain rfl:=lc hz
     obtain rfl:=dq.truths h1
     have hlt:=laW h3
     have hge:(ds.map zju)[(ds.map zju).idxOf key]=key:=lcs hlt
     refine⟨ad,_,_,(ds.map zju).idxOf key,.bl key,rfl,rfl,fh.seq (g2.ff.seq sq),rfl,zgN _,?_,by show(key == key)=true;simp,by rw[ly] at hlt;omega,λmm w hmm hw=>?_,k _ _ _ (Gr.refl fh) (.int _)⟩
     ·rw[lR,lg hlt,hge];rfl
     ·have hml:mm<(ds.map zju).length:=ldh hmm hlt
      rw[lR,lg hml] at hw
      obtain rfl:=lc hw
      have:=List.not_of_lt_findIdx (p:=λz=>z == key) (xs:=ds.map zju) hmm
      show((ds.map zju)[mm] == key)=false
      simpa using this
    ·cases hz
   | _=>cases hz
  | _=>cases hd
 ·exact o1.elim
end
structure FnIn (X:Cx)(cl:Nat->Addr)(n:Nat)(fn:List D->Rs D)(f:Addr):Prop where
 ex:∃k fd ps,FnOk X.prog X.w X.K X.mg X.base (CX1 X.prog X.w) k f fd ps (spD X.K cl fn n)/\Room k X.A/\Binds X.K fd ps []
 kp:PySem.W.keepIn X.K (.ref f)=true
inductive FnsIn (X:Cx)(cl:Nat->Addr)(n:Nat):List Expr->List Addr->List (List D->Rs D)->Prop
 | nil:FnsIn X cl n [] [] []
 | cons {e:Expr}{f:Addr}{fn:List D->Rs D}{es:List Expr}{fs:List Addr}{fns:List (List D->Rs D)} (he:PE X.nox e (tC (.ref f))) (h:FnIn X cl n fn f) (r:FnsIn X cl n es fs fns) (hs:starEach (e::es) X.env=(false,eval e X.env)::starEach es X.env):FnsIn X cl n (e::es) (f::fs) (fn::fns)
section
variable {X:Cx}{cl:Nat->Addr}
theorem FnsIn.at {n:Nat}{es:List Expr}{fs:List Addr}{fns:List (List D->Rs D)}(h:FnsIn X cl n es fs fns):∀(i:Nat) (fn:List D->Rs D),fns[i]? = some fn->∃f,fs[i]? = some f/\FnIn X cl n fn f:=by
 induction h with
 | nil=>intro i fn e;simp at e
 | cons he h r hs ih =>
  intro i g e
  cases i with
  | zero=>simp at e;subst e;exact⟨_,rfl,h⟩
  | succ i=>exact ih i g (by simpa using e)
def PXs (X:Cx)(sts:List Stmt)(t:St->Hp->VK->XK->Prop):Prop:=∀(pins:List (Addr×Obj)) (s:Shared) (σ:St) (H:Hp) (D:Ends) (E:XK) (F':Value->Shared->Prop),Inv X pins σ H s ->
 (∀H s e s',Inv X pins σ H s->zd9 X.prog X.w X.stack H s E e s'->F' e s')->t σ H D.rt E->wpAny (model X.prog X.w) X.A (execs sts X.env) (SP X pins {D with nx:=λ_ _=>False,bk:=λ_ _=>False,ct:=λ_ _=>False}) F' s
theorem zi9 {e:Expr}{rpos:Pos}{tx:St->Hp->VK->XK->Prop}(h:PX X e tx):PXs X [.Return (some e) rpos] tx:=by
 intro pins s σ H D E F' I hx q
 refine lcc (lc4 ?_)
 exact lai (h pins s σ H D.rt E F' I hx q) (λu s2 ⟨v,H2,I2,rv,q2⟩=>⟨v,σ,H2,I2,rv,q2⟩) λ_ _ z=>z
theorem zn1 {c:Expr}{a rest:List Stmt}{ipos:Pos}{tc:TT}{tx ty:St->Hp->VK->XK->Prop}(hc:PT X.nox c tc)(ha:PXs X a tx)(hr:PXs X rest ty):PXs X (.If c a [] ipos::rest) (λσ H Q E=>tc σ H λd H1=>if d=true then tx σ H1 Q E else ty σ H1 Q E):=by
 intro pins s σ H D E F' I hx q
 refine lcc (wpAny_If (lai (hc pins s σ H _ (I.wish _) q) (λd s1 ⟨H1,I1,q1⟩=>?_) λ_ _ z=>False.elim z))
 cases d with
 | true =>
  refine lai (ha pins s1 σ H1 D E F' I1.unwish hx q1) (λfl s2 z=>?_) λ_ _ z=>z
  cases fl with
  | next=>obtain⟨_,_,_,z⟩:=z;exact z.elim
  | ret v=>exact z
  | brk=>exact z
  | cont=>exact z
 | false=>exact lcl (hr pins s1 σ H1 D E F' I1.unwish hx q1)
theorem PXs.mono {sts:List Stmt}{t u:St->Hp->VK->XK->Prop}(h:PXs X sts t)(k:∀σ H Q E,u σ H Q E->t σ H Q E):PXs X sts u:=λpins s σ H D E F' I hx q=>h pins s σ H D E F' I hx (k σ H D.rt E q)
theorem zgU {sts:List Stmt}{x n:Str}{np hpos pos:Pos}{i:Nat}{b₀:Stmt}{suite:List Stmt}{th:TS}{more:List ExceptHandler}{tx:St->Hp->VK->XK->Prop}(hx:PXs X sts tx)(O:Own X.K X.mg x)(hgx:Gl X x)(hN:X.N.Nodup)(hi:X.N[i]? = some n)(hlo:X.env.scope.names.lookup n=some .local)(hs:∀a,PSs (X.hand a) (b₀::suite) th)
  (hst:X.stack=X.env::X.outer) (hfr:X.env.frame=some X.env.locals) (hdx:(x == ("__debug__" : Str))=false:=by decide) :
  PS X (.Try sts (.ExceptHandler (some (.Name x np)) (some n) (b₀::suite) hpos::more) [] [] pos) (λD σ H=>tx σ H D.rt (zgR X.K O.C i th D σ)):=by
 intro pins s σ H D I h
 refine wpAny_Try_except (lai (hx pins s σ H D _ _ I (λH2 s2 e2 s3 I2 hf=>caught I2 hst hfr O hgx hN hi hlo hs hf hdx) h) (λfl s2 z=>?_) λ_ _ z=>z)
 cases fl with
 | next=>obtain⟨_,_,_,z⟩:=z;exact z.elim
 | ret v=>exact z
 | brk=>obtain⟨_,_,_,z⟩:=z;exact z.elim
 | cont=>obtain⟨_,_,_,z⟩:=z;exact z.elim
end
end L2
namespace L2
open PySem PySem.Spec PyProof.Rows
open AutoSeq1 (wpAny_loadPart')
end L2
namespace L2
open PySem PySem.Spec PyProof.Rows
def intD:List D->Option D
 | [.bl b]=>some (.int (if b then 1 else 0))
 | _=>none
theorem n_int {K:PySem.W.Frag}{cl:Nat->Addr}:Fn1 K cl (λxs H Q=>∃b,xs=[.bl b]/\Q (.int (if b then 1 else 0)) H) intD:=λF H vs ds d Q s q e k=>by
 match ds,q,e with
 | [.bl b],q,e =>
  obtain⟨v,rfl,q1⟩:=q.one
  cases q1
  obtain rfl:=lc e
  exact⟨b,rfl,k _ _ _ (Gr.refl s) (.int _)⟩
end L2
namespace L2
open PySem PySem.Spec PyProof.Rows
open AutoSeq1 (wpAny_loadPart')
end L2
namespace L2
open PySem PySem.Spec PyProof.Rows
end L2
namespace L2
open PySem
def tI (led:Bool)(ks:List Nat):SetTable:=if ks.length<5 then {mask:=7,place:=ks.toArray,dummies:=#[],finger:=0,led,moves:=0,plain:=true} else {mask:=31,place:=ks.toArray,dummies:=#[],finger:=0,led,moves:=1,plain:=true}
def zoC:List (List Nat):=([1,2,3,4,5,6]:List Nat).foldr (λx acc=>acc++acc.map (x :: ·)) [[]]
theorem zpk:∀led,∀ks∈zoC,(tI led ks).fits ks.length=true/\(tI led ks).led=led/\(tI led ks).plain=true/\ks.length<=6/\ks.Nodup/\∀k∈ks,k∈([1,2,3,4,5,6]:List Nat):=by decide +kernel
structure StI (w:World)(es:Array (Int×Value))(t:SetTable)(ks:List Nat):Prop where
 hs:es.toList.map (·.1)=ks.map λ(k:Nat)=>(k:Int)
 vs:∀e∈es.toList,∃(k:Nat) (tk:Tok),k∈ks/\e=((k:Int),Value.int (k:Int) tk)
 tb:t=tI (!w.params.followText "set-order") ks
 sb:ks∈zoC
section
variable {prog:Program}{w:World}{A:Around}{E:Value->Shared->Prop}{s:Shared}{es:Array (Int×Value)}{t:SetTable}{ks:List Nat}
theorem StI.size (S:StI w es t ks):es.size=ks.length:=by
 have:=lbd List.length S.hs
 simpa using this
theorem StI.fits (S:StI w es t ks):t.fits es.size=true:=by rw[S.size,S.tb];exact(zpk _ ks S.sb).1
theorem StI.find (S:StI w es t ks)(x:Nat):(∃e∈es.toList,Value.isInt (x:Int) e.2=true)↔x∈ks:=by
 constructor
 ·rintro ⟨e,he,h⟩
  obtain⟨k,tk,hk,rfl⟩:=S.vs e he
  have:(x:Int)=(k:Int):=by
   obtain⟨t,e⟩:=Value.isInt_shape h
   injection e with e _
   exact e.symm
  have:x=k:=by omega
  subst this;exact hk
 ·intro hx
  have:(x:Int)∈es.toList.map (·.1):=by rw[S.hs];exact List.mem_map_of_mem hx
  obtain⟨e,he,e1⟩:=lbh.mp this
  obtain⟨k,tk,hk,rfl⟩:=S.vs e he
  refine⟨_,he,?_⟩
  dsimp only at e1
  rw[e1]
  simp[Value.isInt]
end
end L2
set_option maxHeartbeats 3200000
namespace L2
open PySem
section
variable {prog:Program}{w:World}{A:Around}{E:Value->Shared->Prop}{s:Shared}
theorem StI.new:StI w #[] (.fresh 0 0 (!w.params.followText "set-order")) []:=⟨rfl,λe he=>by simp at he,rfl,by decide⟩
end
end L2
namespace L2
open PySem PySem.Spec PyProof.Rows
section
variable {prog:Program}{w:World}{A:Around}{E:Value->Shared->Prop}{s:Shared}
end
end L2
set_option maxHeartbeats 1000000
namespace L2
open PySem PySem.Spec PyProof.Rows
end L2
namespace L2
open PySem PySem.W PyProof.Rows
structure Ord (n:Nat)(b:Nat->Nat->Bool):Prop where
 tr:∀i j k,i<n->j<n->k<n->b i j=true->b j k=true->b i k=true
 tot:∀i j,i<n->j<n->i≠j->b i j=false->b j i=true
 ir:∀i,i<n->b i i=false
def PP (n:Nat)(p:Array Nat):Prop:=p.toList.Perm (List.range n)
section
variable {n:Nat}{b:Nat->Nat->Bool}{cmp:Nat->Nat->(Bool->Shared->Prop)->Shared->Prop}{s:Shared}{p:Array Nat}
theorem gd (p:Array Nat)(i:Nat):p.getD i 0=(p[i]?).getD 0:=by simp[Array.getD];split <;>simp_all
theorem PP.size (h:PP n p):p.size=n:=by have:=h.length_eq;simpa using this
theorem PP.lt (h:PP n p){i:Nat}(hi:i<n):p.getD i 0<n:=by
 have hs:=h.size
 have e:p.getD i 0=p[i]'(by omega):=by rw[gd,getElem?_pos p i (by omega)];rfl
 rw[e]
 exact la5.mp (h.mem_iff.mp (Array.getElem_mem_toList (by omega)))
theorem PP.inj (h:PP n p){i j:Nat}(hi:i<n)(hj:j<n)(hij:i≠j):p.getD i 0≠p.getD j 0:=by
 have hs:=h.size
 have nd:p.toList.Nodup:=h.nodup_iff.mpr List.nodup_range
 have e:∀k,k<n->p.getD k 0=p.toList.getD k 0:=λk hk=>by rw[gd];simp
 rw[e i hi,e j hj]
 intro z
 have hl:p.toList.length=n:=by simpa using hs
 rw[lr,lr,lg (by omega),lg (by omega)] at z
 have pw:=lcb.mp nd
 rcases Nat.lt_or_gt_of_ne hij with c|c
 ·exact pw i j (by omega) (by omega) c z
 ·exact pw j i (by omega) (by omega) c z.symm
variable (O:Ord n b)(hc:∀i j (C:Bool->Shared->Prop),i<n->j<n->C (b i j) s->cmp i j C s)
include O hc
end
def kOf:D->Key
 | .int i=>.inl i
 | .str l=>.inr (T l)
 | _=>.inl 0
def isAt:D->Bool
 | .int _=>true
 | .str _=>true
 | _=>false
def tOf:D->List D
 | .tup ds=>ds
 | _=>[]
def zqw (d:D):List Key:=(tOf d).map kOf
def zqn:D->Bool
 | .tup ds=>ds.all isAt
 | _=>false
section
variable {K:PySem.W.Frag}{cl:Nat->Addr}{F:Hp}
theorem Dts.atoms:∀{vs:List V}{ds:List D},Dts K cl F vs ds->ds.all isAt=true->vs=(ds.map kOf).map kV
 | _,_,.nil,_=>rfl
 | _,_,.cons q r,h=>by
  rw[lbe,lQ] at h
  have e:=Dts.atoms r h.2
  cases q with
  | int i=>rw[e];rfl
  | str l ok=>rw[e];rfl
  | _=>simp[isAt] at h
theorem Dts.tups:∀{vs:List V}{ds:List D},Dts K cl F vs ds->(∀d∈ds,zqn d=true)->∃ts:List Addr,vs=ts.map V.ref/\ts.length=ds.length/\∀i,i<ds.length->SqT K F (ts.getD i 0) (((ds.map zqw).getD i []).map kV)
 | _,_,.nil,_=>⟨[],rfl,rfl,λi hi=>by simp at hi⟩
 | _,_,.cons q r,h=>by
  obtain⟨ts,e1,e2,e3⟩:=Dts.tups r λd hd=>h d (lK _ hd)
  have h0:=h _ lY
  cases q with
  | tup sq dq =>
   rename_i a xs ds'
   have ex:=dq.atoms h0
   refine⟨a::ts,by rw[e1];rfl,by simp[e2],λi hi=>?_⟩
   cases i with
   | zero=>show SqT K F a ((ds'.map kOf).map kV);rw[← ex];exact sq
   | succ i=>exact e3 i (by simpa using hi)
  | _=>simp[zqn] at h0
end
end L2
namespace L2
open PySem PySem.Spec PyProof.Rows
def gz:D->Option (List D)
 | .tup ds=>some ds
 | .lst ds=>some ds
 | .str l=>if l.all (· < 128) then some (l.map λc=>.str [c]) else none
 | _=>none
def gG (a b c:D):Rs D:=match a,b with
 | .dct ds,.str k=>.ok ((zhb ds k).getD c)
 | _,_=>.no
def zqT:D->Bool
 | .dct _=>true
 | _=>false
def fG (fa fb fc:Rho->Rs D):Rho->Rs D:=λρ=>(fa ρ).bind λa=>if zqT a=true then(fb ρ).bind λb=>(fc ρ).bind λc=>gG a b c else .no
inductive Dz (K:PySem.W.Frag)(x:Str)(st:Stmt):Prop
 | mk {f:Addr}{oc kV dc pm cd ct:Value}{od an:Option Addr}{sl:Array (Option Value)} (a:PySem.W.nsIn K mainGlobals x=some (some (.ref f))) (l:K.lookup f=some ⟨oc,od,.func (PySem.W.fnOf x x (jj st) (xq st) (zm st) .none kV dc pm an cd ct),sl⟩) (c:PySem.W.codeIn K cd x=true) (k:PySem.W.keepIn K (.ref f)=true):Dz K x st
theorem Dz.dn {K:PySem.W.Frag}{h:Heap}{mg:Str->Option Value}{x:Str}{st:Stmt}(z:Dz K x st)(X:K.In h)(G:h.Ns mainGlobals mg)(ps:List Str)(hb:∀(kV doc pm:Value) (an:Option Addr) (cdv ct:Value) (us:List Value),us.length=ps.length->bindArgs (PySem.W.fnOf x x (jj st) (xq st) (zm st) .none kV doc pm an cdv ct) ⟨us,[]⟩=pure (ps.zip us)):Nonempty (Dn K mg x st ps):=by
 obtain⟨a,l,c,k⟩:=z
 exact⟨⟨_,_,zeH l c k,laX X G a,(zeH l c k).binds hb⟩⟩
inductive Oz (K:PySem.W.Frag)(x:Str):Prop
 | mk {a:Addr} (y:PySem.W.nsIn K mainGlobals x=some (some (.ref a))) (q:PySem.W.excIn K a [.type "ValueError", .type "Exception", .type "BaseException", .type "object"] "ValueError.__new__" = true):Oz K x
theorem Oz.ow {K:PySem.W.Frag}{h:Heap}{mg:Str->Option Value}{x:Str}(z:Oz K x)(X:K.In h)(G:h.Ns mainGlobals mg):Nonempty (Own K mg x):=by
 obtain⟨y,q⟩:=z
 exact⟨⟨_,laX X G y,q⟩⟩
section
variable {α:Type}{p:List α->Prop}
theorem bd1 (h:∀a,p [a])(us:List α)(e:us.length=1):p us:=by obtain⟨_,rfl⟩:=zp2 e;exact h _
theorem bd2 (h:∀a b,p [a,b])(us:List α)(e:us.length=2):p us:=by obtain⟨_,_,rfl⟩:=zpZ e;exact h _ _
theorem bd3 (h:∀a b c,p [a,b,c])(us:List α)(e:us.length=3):p us:=by obtain⟨_,_,_,rfl⟩:=zqc e;exact h _ _ _
theorem bd4 (h:∀a b c d,p [a,b,c,d])(us:List α)(e:us.length=4):p us:=by obtain⟨_,_,_,_,rfl⟩:=zqC e;exact h _ _ _ _
end
end L2
set_option maxHeartbeats 4000000
namespace Pg
open PySem L2 PyProof.Rows
def v8:Rho->Out :=
  (yr (sIf (bT (f2 (eqD false) (fNm 0) (fO mkL zE)))
  (wz (f2 zfp (fC (.int 7)) (fNm 1)))
  sNx)
  (wz (f2 uh (f2 ixD (fNm 0) (f2 zgM (fNm 1) (fO ul (zf (fNm 0) zE)))) (f2 zfp (fC (.int 6553)) (f2 zcp (fNm 1) (fO ul (zf (fNm 0) zE)))))))
def uK:List D->Rs D:=yQ 2 v8
def vz:Rho->Out :=
  (yr (xR 3 (f2 zgM (f2 uh (f2 zfp (f2 zgM (fA (ari 2 uK) (zf (fNm 0) (zf (fNm 1) zE))) (fC (.int 2147483563))) (fC (.int 69069))) (f2 zfp (fC (.int 104723)) (f2 uh (fNm 1) (fC (.int 1))))) (fC (.int 2147483563))))
  (yr (xR 3 (f2 zgM (f2 uh (f2 zfp (fNm 3) (fNm 3)) (f2 zcp (fNm 3) (fC (.int 3)))) (fC (.int 2147483399))))
  (wz (f2 zgM (f2 zcp (f2 zgM (f2 uh (f2 zfp (fNm 3) (fNm 3)) (f2 zcp (fNm 3) (fC (.int 7)))) (fC (.int 2147483647))) (fC (.int 11))) (fNm 2)))))
def zJ:List D->Rs D:=yQ 4 vz
def uf:Rho->Out :=
  (yr (vy 4 (fCp (fR zc5 (zf (fNm 2) zE)) wA (f2 ixD (fC (.str [97,98,99,100])) (fNm 0)) []))
  (yr (zai (jn 5 (fR zc5 (zf (fNm 3) zE))
  (yr (zeb 4 6 (fFl 4 (fA (ari 3 zJ) (zf (fNm 0) (zf (f2 uh (fNm 1) (fNm 5)) (zf (fO ul (zf (fNm 4) zE)) zE))))))
  (zch 4 (vy 4 (fL zif (zf (fLs (fL2 zjb (fNm 4) (xX (fR zc5 (zf (fNm 2) zE)) wA (f2 zdc (fNm 1) (f2 ixD (fC (.str [97,98,99,100])) (fNm 0))) [6]))) zE)))))))
  (zch 4 (wz (fO zp8 (zf (fNm 4) zE))))))
def uw:List D->Rs D:=yQ 7 uf
def uc:Rho->Out :=
  (yr (xR 4 (fA (ari 3 zJ) (zf (fNm 0) (zf (fNm 1) (zf (f2 uh (fNm 3) (fC (.int 1))) zE)))))
  (wz (fM isS qQ (fC (.str [])) (xX (fR zc5 (zf (fNm 4) zE)) wA (f2 ixD (fC (.str [97,98,99,100])) (fA (ari 3 zJ) (zf (fNm 1) (zf (f2 uh (f2 uh (fNm 3) (fC (.int 1))) (fNm 0)) (zf (fNm 2) zE))))) [0,2,1]))))
def vq:List D->Rs D:=yQ 5 uc
def qz:Rho->Out :=
  (wz (fO zmS (zf (fLs (fCz (fNm 0) (fSl (fNm 0) (xK (fC (.int 1))) wg) wA (f2 ltS (fNm 0) (fNm 1)) [])) zE)))
def uy:List D->Rs D:=yQ 1 qz
def zbk:Rho->Out :=
  (wz (zaW (f1 (zcP isInt) (fNm 0)) (zf0 (f1 (zcP isBool) (fNm 0)))))
def zat:List D->Rs D:=yQ 1 zbk
def uH:Rho->Out :=
  (wz (zaW (fA (ari 1 zat) (zf (fNm 0) zE)) (fCh leI leI (fNm 1) (fNm 0) (fNm 2))))
def vN:List D->Rs D:=yQ 3 uH
def yG:Rho->Out :=
  (wz (fA (ari 3 vN) (zf (fNm 0) (zf (fC (.int 2)) (zf (fO ul (zf (fC (.str [97,98,99,100])) zE)) zE)))))
def zR:List D->Rs D:=yQ 1 yG
def uo:Rho->Out :=
  (yr (xR 2 (fSl (fC (.str [97,98,99,100])) wg (xK (fNm 0))))
  (wz (zaW (f1 (zcP isStr) (fNm 1)) (fO zmS (zf (xX (fI sgD (fNm 1)) wA (f2 (inC false) (fNm 0) (fNm 1)) [2]) zE)))))
def xj:List D->Rs D:=yQ 3 uo
def uq:Rho->Out :=
  (yr (sIf (bOr (zbR (bT (fA (ari 1 zR) (zf (fNm 0) zE)))) (zbR (bT (f1 (zcP isTup) (fNm 1)))))
  (wz (fC (.bl false)))
  sNx)
  (yr (sIf (zbR (bT (fCh leI leI (fC (.int 1)) (fO ul (zf (fNm 1) zE)) (fC (.int 32)))))
  (wz (fC (.bl false)))
  sNx)
  (yr (sIf (zbR (bT (fO zmS (zf (xX (fI tpD (fNm 1)) wA (zaW (fA (ari 2 xj) (zf (fNm 1) (zf (fNm 0) zE))) (f2 (eqD true) (fNm 0) (fC (.str [])))) [0]) zE))))
  (wz (fC (.bl false)))
  sNx)
  (wz (fA (ari 1 uy) (zf (fNm 1) zE))))))
def yM:List D->Rs D:=yQ 2 uq
def xP:Rho->Out :=
  (yr (zai (kO 1 2 (fNm 0) (fSl (fNm 0) (xK (fC (.int 1))) wg)
  (sIf (bT (fM isS xg (fNm 2) (fNm 1)))
  (wz (fO mkT (zf (fNm 1) (zf (fNm 2) zE))))
  sNx)))
  (wz (fC .non)))
def yX:List D->Rs D:=yQ 3 xP
def ji:Rho->Out :=
  (yr (vy 2 (fL szL zE))
  (yr (zai (jn 3 (fI lsD (fNm 1))
  (jn 4 (fI sgD (fSl (fC (.str [97,98,99,100])) wg (xK (fNm 0))))
  (zbj 2 (f2 zdc (fNm 3) (fNm 4))))))
  (zch 2 (wz (fNm 2)))))
def xu:List D->Rs D:=yQ 5 ji
def jV:Rho->Out :=
  (wz (zf0 (fO znh (zf (xX (fI tpD (fNm 0)) wA (fOr (fM isS xg (fNm 0) (fNm 1)) (fM isS xg (fNm 1) (fNm 0))) [1]) zE))))
def yd:List D->Rs D:=yQ 2 jV
def jM:Rho->Out :=
  (wz (fO znh (zf (xX (fI tpD (fNm 0)) wA (zaW (fM isS xg (fNm 0) (fNm 1)) (f2 (eqD true) (fNm 0) (fNm 1))) [1]) zE)))
def ye:List D->Rs D:=yQ 2 jM
def wO:Rho->Out :=
  (yr (xR 2 (fO mkL (zf (fC (.str [])) zE)))
  (yr (zai (sWh 2000 (bT (f2 (eqD true) (fNm 2) (fO mkL zE)))
  (yr (xR 3 (fA (ari 2 xu) (zf (fNm 0) (zf (fNm 2) zE))))
  (yr (jn 4 (fI lsD (fNm 3))
  (sIf (bT (fA (ari 2 yd) (zf (fNm 1) (zf (fNm 4) zE))))
  (wz (fNm 4))
  sNx))
  (vB 2 (fCp (fI lsD (fNm 3)) (bT (fA (ari 2 ye) (zf (fNm 1) (zf (fNm 0) zE)))) (fNm 0) [1]))))))
  (wz (fC .non))))
def yW:List D->Rs D:=yQ 5 wO
def wC:Rho->Out :=
  (yr (xR 2 (fA (ari 1 yX) (zf (fNm 1) zE)))
  (yr (sIf (bT (f1 (isN true) (fNm 2)))
  (wz (fNm 2))
  sNx)
  (wz (fA (ari 2 yW) (zf (fNm 0) (zf (fNm 1) zE))))))
def vh:List D->Rs D:=yQ 3 wC
def zbZ:Rho->Out :=
  (wz (zaW (fA (ari 2 yM) (zf (fNm 0) (zf (fNm 1) zE))) (f1 (isN false) (fA (ari 2 vh) (zf (fNm 0) (zf (fNm 1) zE))))))
def yx:List D->Rs D:=yQ 2 zbZ
def uP:Rho->Out :=
  (sIf (zbR (bT (fA (ari 2 yx) (zf (fNm 0) (zf (fNm 1) zE)))))
  (sRs 1 (zf (fC (.str [116,104,105,115,32,105,115,32,110,111,32,98,111,111,107,32,111,102,32,115,111,32,109,97,110,121,32,108,101,116,116,101,114,115])) zE))
  sNx)
def wN:List D->Rs D:=yQ 2 uP
def wW:Rho->Out :=
  (sIf (zbR (bT (fA (ari 2 xj) (zf (fNm 0) (zf (fNm 1) zE)))))
  (sRs 3 (zf (fC (.str [116,104,105,115,32,105,115,32,110,111,32,116,101,120,116,32,111,102,32,116,104,101,115,101,32,108,101,116,116,101,114,115])) zE))
  sNx)
def yp:List D->Rs D:=yQ 2 wW
def zaF:Rho->Out :=
  (yr (vy 2 (fL szL zE))
  (yr (xR 3 (fC (.str [])))
  (yr (zai (jn 4 (fI sgD (fNm 1))
  (yr (xR 3 (f2 zdc (fNm 3) (fNm 4)))
  (sIf (bT (f2 (inD false) (fNm 3) (fNm 0)))
  (yr (zbj 2 (fNm 3))
  (xR 3 (fC (.str []))))
  sNx))))
  (zch 2 (wz (fO mkT (zf (fNm 2) (zf (fNm 3) zE))))))))
def zaT:List D->Rs D:=yQ 5 zaF
def za6:Rho->Out :=
  (yr (xR 1 (fC (.int 0)))
  (yr (xR 2 (fC (.int 1)))
  (yr (zai (sWh 64 (bT (f2 ltI (fNm 2) (fNm 0)))
  (yr (xR 1 (f2 uh (fNm 1) (fC (.int 1))))
  (xR 2 (f2 zfp (fNm 2) (fC (.int 2)))))))
  (wz (fNm 1)))))
def zag:List D->Rs D:=yQ 3 za6
def za3:Rho->Out :=
  (yr (xR 2 (fC (.str [])))
  (yr (zai (jn 3 (fR zc5 (zf (fNm 1) zE))
  (yr (xR 2 (f2 zdc (fO zm3 (zf (f2 zgM (fNm 0) (fC (.int 2))) zE)) (fNm 2)))
  (xR 0 (f2 zcp (fNm 0) (fC (.int 2)))))))
  (wz (fNm 2))))
def qT:List D->Rs D:=yQ 4 za3
def za4:Rho->Out :=
  (yr (xR 1 (fA (ari 1 zag) (zf (fO ul (zf (fNm 0) zE)) zE)))
  (wz (xX (fR zc5 (zf (fO ul (zf (fNm 0) zE)) zE)) wA (fA (ari 2 qT) (zf (fNm 0) (zf (fNm 1) zE))) [1])))
def zan:List D->Rs D:=yQ 2 za4
def zdJ:Rho->Out :=
  (yr (xR 2 (fA (ari 2 zaT) (zf (fNm 0) (zf (fNm 1) zE))))
  (yr (xR 3 (f2 ziK (fNm 0) (fA (ari 1 zan) (zf (fNm 0) zE))))
  (wz (fO mkT (zf (fM isS qQ (fC (.str [])) (xX (fI lsD (f2 ixD (fNm 2) (fC (.int 0)))) wA (f2 getD (fNm 1) (fNm 0)) [3])) (zf (f2 ixD (fNm 2) (fC (.int 1))) zE))))))
def jg:List D->Rs D:=yQ 4 zdJ
end Pg
set_option maxHeartbeats 1000000
namespace L2
open PySem
section
variable {ft:Rho->Rs Bool}{fe:Rho->Rs D}{ρ0 ρ:Rho}{α β:Type}{i j:Nat}{g:Rho->Out}
theorem zbO {l:List α}{enc:α->D}(p:α->Bool)(e:α->D)(h:∀x∈l,ft (ρ0.set 0 (.fz (enc x)))=.ok (p x)/\(p x=true->fe (ρ0.set 0 (.fz (enc x)))=.ok (e x))):vD ft fe ρ0 (l.map enc)=.ok ((l.filter p).map e):=by
 induction l with
 | nil=>rfl
 | cons x l ih =>
  have ih':=ih λy hy=>h y (.tail _ hy)
  obtain⟨h1,h2⟩:=h x (.head _)
  rw[lC]
  unfold vD
  rw[h1]
  cases hp:p x with
  | false=>rw[List.filter_cons_of_neg (by simp[hp])];exact ih'
  | true =>
   rw[List.filter_cons_of_pos hp]
   simp only[h2 hp,ih']
   rfl
theorem xO {l:List α}{enc:α->D}(e:α->D)(h:∀x∈l,fe (ρ0.set 0 (.fz (enc x)))=.ok (e x)):vD wA fe ρ0 (l.map enc)=.ok (l.map e):=by
 have:=zbO (ft:=wA) (fe:=fe) (ρ0:=ρ0) (l:=l) (enc:=enc) (λ_=>true) e λx hx=>⟨rfl,λ_=>h x hx⟩
 rwa [List.filter_eq_self.mpr λ_ _=>rfl] at this
theorem zjg {l:List (α×β)}{enc:α->D}{enb:β->D}(e:α×β->D)(h:∀x∈l,fe ((ρ0.set 0 (.fz (enc x.1))).set 1 (.fz (enb x.2)))=.ok (e x)):kW wA fe ρ0 (l.map λx=>enc x.1) (l.map λx=>enb x.2)=.ok (l.map e):=by
 induction l with
 | nil=>rfl
 | cons x l ih =>
  have ih':=ih λy hy=>h y (.tail _ hy)
  rw[lC,lC]
  unfold kW
  simp only[wA,h x (.head _)]
  rw[ih'];rfl
theorem zem:∀(as bs:List D),kW ft fe ρ0 as bs=kW ft fe ρ0 ((as.zip bs).map (·.1)) ((as.zip bs).map (·.2))
 | [],_=>by simp[kW]
 | _::_,[]=>by simp[kW]
 | a::as,b::bs=>by
  rw[lbT,lC,lC]
  unfold kW
  rw[zem as bs]
theorem zgI:∀(as bs:List D) (ρ:Rho),forZ i j g as bs ρ=forZ i j g ((as.zip bs).map (·.1)) ((as.zip bs).map (·.2)) ρ
 | [],_,ρ=>by simp[forZ]
 | _::_,[],ρ=>by simp[forZ]
 | a::as,b::bs,ρ=>by
  rw[lbT,lC,lC,forZ.eq_1,forZ.eq_1]
  dsimp only
  cases g ((ρ.set i (.fz a)).set j (.fz b)) <;>first|rfl|exact zgI as bs _
theorem uG {l:List α}{enc:α->D}(I:Nat->Rho->Prop)(h0:I 0 ρ)(hs:∀k x ρ,l[k]? = some x->I k ρ->∃ρ',g (ρ.set i (.fz (enc x)))=.nx ρ'/\I (k+1) ρ'):∃ρ',forD i g (l.map enc) ρ=.nx ρ'/\I l.length ρ':=by
 induction l generalizing ρ I with
 | nil=>exact⟨ρ,rfl,h0⟩
 | cons x l ih =>
  obtain⟨ρ1,e1,i1⟩:=hs 0 x ρ rfl h0
  obtain⟨ρ2,e2,i2⟩:=ih (I:=λk=>I (k+1)) i1 λk y ρ hy hI=>hs (k+1) y ρ (by simpa using hy) hI
  refine⟨ρ2,?_,i2⟩
  rw[lC]
  unfold forD
  rw[e1];exact e2
theorem ziU {l:List α}{enc:α->D}(I:Rho->Prop)(p:α->Bool)(r:α->D)(h0:I ρ)(hs:∀x∈l,∀ρ,I ρ->if p x=true then g (ρ.set i (.fz (enc x)))=.rt (r x) else ∃ρ',g (ρ.set i (.fz (enc x)))=.nx ρ'/\I ρ') :
  match l.find? p with|some x=>forD i g (l.map enc) ρ=.rt (r x)|none=>∃ρ',forD i g (l.map enc) ρ=.nx ρ'/\I ρ':=by
 induction l generalizing ρ with
 | nil=>exact⟨ρ,rfl,h0⟩
 | cons x l ih =>
  have hx:=hs x (.head _) ρ h0
  cases hp:p x with
  | true =>
   rw[lB hp] at hx
   rw[List.find?_cons_of_pos hp]
   show forD i g (enc x::l.map enc) ρ=_
   unfold forD
   rw[hx]
  | false =>
   rw[lW (by simp[hp])] at hx
   obtain⟨ρ1,e1,i1⟩:=hx
   rw[lcz (by simp[hp])]
   have:=ih i1 λy hy=>hs y (.tail _ hy)
   have e:forD i g ((x::l).map enc) ρ=forD i g (l.map enc) ρ1:=by
    show forD i g (enc x::l.map enc) ρ=_
    rw[forD.eq_2,e1]
   rw[e];exact this
theorem zjr {l:List (α×β)}{enc:α->D}{enb:β->D}(I:Rho->Prop)(p:α×β->Bool)(r:α×β->D)(h0:I ρ)(hs:∀x∈l,∀ρ,I ρ->if p x=true then g ((ρ.set i (.fz (enc x.1))).set j (.fz (enb x.2)))=.rt (r x) else ∃ρ',g ((ρ.set i (.fz (enc x.1))).set j (.fz (enb x.2)))=.nx ρ'/\I ρ') :
  match l.find? p with|some x=>forZ i j g (l.map λx=>enc x.1) (l.map λx=>enb x.2) ρ=.rt (r x)|none=>∃ρ',forZ i j g (l.map λx=>enc x.1) (l.map λx=>enb x.2) ρ=.nx ρ'/\I ρ':=by
 induction l generalizing ρ with
 | nil=>exact⟨ρ,by simp[forZ],h0⟩
 | cons x l ih =>
  have hx:=hs x (.head _) ρ h0
  cases hp:p x with
  | true =>
   rw[lB hp] at hx
   rw[List.find?_cons_of_pos hp]
   show forZ i j g (enc x.1::l.map λx=>enc x.1) (enb x.2::l.map λx=>enb x.2) ρ=_
   unfold forZ
   rw[hx]
  | false =>
   rw[lW (by simp[hp])] at hx
   obtain⟨ρ1,e1,i1⟩:=hx
   rw[lcz (by simp[hp])]
   have:=ih i1 λy hy=>hs y (.tail _ hy)
   have e:forZ i j g ((x::l).map λx=>enc x.1) ((x::l).map λx=>enb x.2) ρ=forZ i j g (l.map λx=>enc x.1) (l.map λx=>enb x.2) ρ1:=by
    show forZ i j g (enc x.1::l.map λx=>enc x.1) (enb x.2::l.map λx=>enb x.2) ρ=_
    rw[forZ.eq_1,e1]
   rw[e];exact this
end
theorem yu {m:Nat}{g:Rho->Out}{ds:List D}{d:D}(h:g (ds.map .fz++List.replicate (m - ds.length) .no)=.rt d):yQ m g ds=.ok d:=by unfold yQ;rw[h]
theorem zgb {m:Nat}{g:Rho->Out}{ds:List D}{ρ:Rho}(h:g (ds.map .fz++List.replicate (m - ds.length) .no)=.nx ρ):yQ m g ds=.ok .non:=by unfold yQ;rw[h]
theorem zf6 {m:Nat}{g:Rho->Out}{ds:List D}{n:Nat}(h:g (ds.map .fz++List.replicate (m - ds.length) .no)=.ex n):yQ m g ds=.ex n:=by unfold yQ;rw[h]
theorem zG {g h:Rho->Out}{ρ ρ':Rho}(e:g ρ=.nx ρ'):yr g h ρ=h ρ':=by unfold yr;rw[e]
theorem zba {g h:Rho->Out}{ρ:Rho}{d:D}(e:g ρ=.rt d):yr g h ρ=.rt d:=by unfold yr;rw[e]
theorem zaw {g:Rho->Out}{ρ ρ':Rho}(e:g ρ=.nx ρ'):zai g ρ=.nx ρ':=by unfold zai;rw[e]
theorem zlP {g:Rho->Out}{ρ:Rho}{d:D}(e:g ρ=.rt d):zai g ρ=.rt d:=by unfold zai;rw[e]
theorem jw {i:Nat}{fi:Rho->Rs (List D)}{g:Rho->Out}{ρ:Rho}{ds:List D}(e:fi ρ=.ok ds):jn i fi g ρ=forD i g ds ρ:=by unfold jn;rw[e]
theorem zdD {ft:Rho->Rs Bool}{g h:Rho->Out}{ρ:Rho}(e:ft ρ=.ok true):sIf ft g h ρ=g ρ:=by unfold sIf;rw[e]
theorem zg9 {ft:Rho->Rs Bool}{g h:Rho->Out}{ρ:Rho}(e:ft ρ=.ok false):sIf ft g h ρ=h ρ:=by unfold sIf;rw[e]
theorem zX {i:Nat}{f:Rho->Rs D}{ρ:Rho}{d:D}(e:f ρ=.ok d):xR i f ρ=.nx (ρ.set i (.fz d)):=by unfold xR;rw[e]
theorem vI {f:Rho->Rs D}{ρ:Rho}{d:D}(e:f ρ=.ok d):wz f ρ=.rt d:=by unfold wz;rw[e]
theorem zdU {i:Nat}{f:Rho->Rs D}{ρ:Rho}{ds:List D}{d:D}(e:owL ρ i=some ds)(e2:f ρ=.ok d)(hl:ds.length<1000000):zbj i f ρ=.nx (ρ.set i (.ow (ds++[d]))):=by unfold zbj;simp only[e,e2,lB hl]
theorem zdT {l m:List Nat}(h:l.length+m.length<=1000000):zdc (.str l) (.str m)=some (.str (l++m)):=lB h
theorem yV {g:D->D->Option D}{fa fb:Rho->Rs D}{ρ:Rho}{a b d:D}(e1:fa ρ=.ok a)(e2:fb ρ=.ok b)(e3:g a b=some d):f2 g fa fb ρ=.ok d:=by unfold f2;rw[e1];show(fb ρ).bind _=_;rw[e2];show lf (g a b)=_;rw[e3];rfl
theorem vo {n:Nat}(h:n<=1000000):zc5 [.int (n:Int)]=some ((List.range n).map λ(k:Nat)=>.int (k:Int)):=by
 have h1:-(2 ^ 62)<=(n:Int)/\(n:Int)<2 ^ 62:=by omega
 dsimp only [zc5]
 rw[lB h1,laj]
theorem zcL {g:List D->Option (List D)}{fs:Rho->Rs (List D)}{ρ:Rho}{ds es:List D}(e1:fs ρ=.ok ds)(e2:g ds=some es):fR g fs ρ=.ok es:=by unfold fR;rw[e1];show(match g ds with|some es=>Rs.ok es|none=>.no)=_;rw[e2]
theorem zbG {g:List D->Option D}{fs:Rho->Rs (List D)}{ρ:Rho}{ds:List D}{d:D}(e1:fs ρ=.ok ds)(e2:g ds=some d):fO g fs ρ=.ok d:=by unfold fO;rw[e1];show lf (g ds)=_;rw[e2];rfl
theorem wD {f g:Rho->Rs D}{ρ:Rho}{i j:Int}(e1:f ρ=.ok (.int i))(e2:g ρ=.ok (.int j)):f2 uh f g ρ=.ok (.int (i+j)):=yV e1 e2 rfl
theorem zjc {f g:Rho->Rs D}{ρ:Rho}{i j:Int}(e1:f ρ=.ok (.int i))(e2:g ρ=.ok (.int j)):f2 zfn f g ρ=.ok (.int (i - j)):=yV e1 e2 rfl
theorem zaj {f g:Rho->Rs D}{ρ:Rho}{i j:Int}(e1:f ρ=.ok (.int i))(e2:g ρ=.ok (.int j))(h1:Sm i)(h2:Sm j):f2 zfp f g ρ=.ok (.int (i*j)):=yV e1 e2 (lB ⟨h1,h2⟩)
theorem jq {f g:Rho->Rs D}{ρ:Rho}{i j:Int}(e1:f ρ=.ok (.int i))(e2:g ρ=.ok (.int j))(h:0<j):f2 zgM f g ρ=.ok (.int (i % j)):=yV e1 e2 (lB h)
theorem jR {f g:Rho->Rs D}{ρ:Rho}{i j:Int}(e1:f ρ=.ok (.int i))(e2:g ρ=.ok (.int j))(h:0<j)(h2:Sm j):f2 zcp f g ρ=.ok (.int (i / j)):=yV e1 e2 (lB ⟨h,h2⟩)
theorem qg {i:Int}(h:-(2 ^ 100)<i/\i<2 ^ 100):Sm i:=by
 unfold Sm
 have h1:(2:Nat) ^ 100<=2 ^ 4000:=lcL (by decide) (by decide)
 have h2:i.natAbs<2 ^ 100:=by omega
 exact lm h2 h1
theorem zhX {fi:Rho->Rs (List D)}{ft:Rho->Rs Bool}{fe:Rho->Rs D}{caps:List Nat}{ρ:Rho}{ds es:List D}(e1:fi ρ=.ok ds)(hl:ds.length<=1000000)(e2:vD ft fe (qt 1 caps ρ) ds=.ok es):fCp fi ft fe caps ρ=.ok es:=by unfold fCp;rw[e1];show(if ds.length<=1000000 then vD ft fe (qt 1 caps ρ) ds else .no)=_;rw[lB hl,e2]
theorem qK {fi:Rho->Rs (List D)}{ft:Rho->Rs Bool}{fe:Rho->Rs D}{caps:List Nat}{ρ:Rho}{ds es:List D}(e1:fi ρ=.ok ds)(hl:ds.length<=1000000)(e2:vD ft fe (qt 1 caps ρ) ds=.ok es):xX fi ft fe caps ρ=.ok (.lst es):=by unfold xX;rw[zhX e1 hl e2];rfl
theorem zdA {i:Nat}{f:Rho->Rs (List D)}{ρ:Rho}{d:List D}(e:f ρ=.ok d):vy i f ρ=.nx (ρ.set i (.ow d)):=by unfold vy;rw[e]
theorem zgV {i:Nat}{f:Rho->Rs (List D)}{ρ:Rho}{d:List D}(e:f ρ=.ok d):vB i f ρ=.nx (ρ.set i (.fz (.lst d))):=by unfold vB;rw[e]
theorem zk1 {f:Rho->Rs (List D)}{ρ:Rho}{d:List D}(e:f ρ=.ok d):fLs f ρ=.ok (.lst d):=by unfold fLs;rw[e];rfl
theorem zga {chk:D->Bool}{g:D->D->Option D}{fa fb:Rho->Rs D}{ρ:Rho}{a b d:D}(e1:fa ρ=.ok a)(hc:chk a=true)(e2:fb ρ=.ok b)(e3:g a b=some d):fM chk g fa fb ρ=.ok d:=by unfold fM;rw[e1];show(if chk a=true then _ else _)=_;rw[lB hc,e2];show lf (g a b)=_;rw[e3];rfl
theorem zmp {i j:Nat}{f:Rho->Rs D}{ρ:Rho}{ds:List D}{k:Nat}{d:D}(e:owL ρ i=some ds)(e1:f ρ=.ok (.int (k:Int)))(hk:k<1000000)(e2:ds[k]? = some d):zeb i j f ρ=.nx ((ρ.set i (.ow (ds.eraseIdx k))).set j (.fz d)):=by
 unfold zeb
 have h:(0:Int)<=(k:Int)/\(k:Int)<1000000:=by omega
 simp only[e,e1,lB h,laj,e2]
theorem zny {i:Nat}{f:Rho->Rs D}{ρ:Rho}{ds:List D}{d:D}(e:owL ρ i=some ds)(e1:f (ρ.set i (.fz (.lst ds)))=.ok d)(h:d.fl=true):fFl i f ρ=.ok d:=by unfold fFl;simp only[e,e1,lB h]
theorem zfJ {i:Nat}{g:Rho->Out}{ρ:Rho}{ds:List D}(e:ρ[i]? = some (.ow ds)):zch i g ρ=g (ρ.set i (.fz (.lst ds))):=by unfold zch;rw[e]
theorem zpi {g:List D->Option (List D)}{fs:Rho->Rs (List D)}{ρ:Rho}{ds es:List D}(e1:fs ρ=.ok ds)(e2:g ds=some es):fL g fs ρ=.ok es:=by unfold fL;rw[e1];show lf' (g ds)=_;rw[e2];rfl
theorem zO {fa:Rho->Rs D}{fs:Rho->Rs (List D)}{ρ:Rho}{a:D}{as:List D}(e1:fa ρ=.ok a)(e2:fs ρ=.ok as):zf fa fs ρ=.ok (a::as):=by unfold zf;rw[e1];show(fs ρ).bind _=_;rw[e2];rfl
theorem zeP {α β:Type}(f:α->β):∀(l:List α) (k:Nat),(l.map f).eraseIdx k=(l.eraseIdx k).map f
 | [],_=>rfl
 | _::_,0=>rfl
 | a::l,k+1=>by show f a::(l.map f).eraseIdx k=_;rw[zeP f l k];rfl
theorem zpv (x:List Nat)(ps:List (List Nat)):inV (.str (T x)) (vT ps)=decide (x∈ps):=by
 unfold inV vT
 rw[ldk,ldj,lce,lbi]
 constructor
 ·rintro⟨l,hl,e⟩
  have e':(T l == T x)=true:=e
  rw[zl1] at e'
  rw[← (lbO.mp e')]
  exact hl
 ·intro hx
  refine⟨x,hx,?_⟩
  show(T x == T x)=true
  simp
def sT (ls:List (List Nat)):List D:=ls.map .str
theorem kJ (a b:List (List Nat)):sT a++sT b=sT (a++b):=by unfold sT;rw[la7]
theorem zne (ls:List (List Nat)):(sT ls).all D.fl=true:=by simp[sT,D.fl]
theorem zbl (ls:List (List Nat)):(sT ls).all isS=true:=by simp[sT,isS]
theorem za0 (ls:List (List Nat)):(sT ls).map unS=ls:=by
 unfold sT;rw[lap]
 exact(lch λx _=>rfl).trans (List.map_id ls)
theorem vK:∀ls:List (List Nat),D.pls (sT ls)=true
 | []=>rfl
 | l::ls=>by show((D.str l).pl&&D.pls (sT ls))=true;rw[vK ls];rfl
theorem yq (ls:List (List Nat)):(sT ls).length=ls.length:=by simp[sT]
theorem zow (x:List Nat)(ls:List (List Nat)):inV (D.str x).toV ((sT ls).map D.toV)=decide (x∈ls):=by
 have e:(sT ls).map D.toV=vT ls:=by unfold sT vT;rw[lap];rfl
 rw[e];exact zpv x ls
theorem znI (neg:Bool)(x:List Nat)(ls:List (List Nat)):inQ neg (.str x) (sT ls)=some (.bl (if neg then !decide (x∈ls) else decide (x∈ls))):=by
 unfold inQ
 rw[lB ⟨rfl,zne ls⟩,zow]
end L2
namespace Pg
open PySem L2 My
theorem zaP {α:Type}(l:List α)(m:Nat):zcu l none (some (m:Int))=l.take m:=by
 unfold zcu
 rw[HT.sIx_none,HT.sIx_nat,lb9,ldn,← List.take_take,lcH]
theorem zd4 {α:Type}(l:List α)(m:Nat):zcu l (some (m:Int)) none=l.drop m:=by
 unfold zcu
 rw[HT.sIx_none,HT.sIx_nat,lat (by rw[lbb];exact lp _)]
 rcases Nat.le_total m l.length with h|h
 ·rw[lbZ h]
 ·rw[lde h,lae (lp _),lae h]
theorem zf8 (l m:List Nat):PyData.eqv (.str (T l)) (.str (T m))=decide (l=m):=by
 show(T l == T m)=_
 rw[zl1]
 by_cases h:l=m
 ·subst h;simp
 ·rw[lT h];simpa using h
theorem zfA (neg:Bool)(l m:List Nat):eqD neg (.str l) (.str m)=some (.bl (if neg then !decide (l=m) else decide (l=m))):=by
 unfold eqD
 rw[lB ⟨rfl,rfl,by show(PyData.str (T l)).depth<=60;simp[PyData.depth]⟩]
 show some (D.bl (if neg=true then !PyData.eqv (.str (T l)) (.str (T m)) else PyData.eqv (.str (T l)) (.str (T m))))=_
 rw[zf8]
theorem zjk {α:Type}(l:List α)(b:α->Bool):zmS [.lst (l.map λx=>D.bl (b x))]=some (.bl (l.all b)):=by
 show(if (l.map λx=>D.bl (b x)).all isB=true then some (D.bl ((l.map λx=>D.bl (b x)).all unB)) else none)=_
 have h:(l.map λx=>D.bl (b x)).all isB=true:=by rw[lck];exact lal.mpr λ_ _=>rfl
 rw[lB h,lck];rfl
theorem zk9 {α:Type}(l:List α)(b:α->Bool):znh [.lst (l.map λx=>D.bl (b x))]=some (.bl (l.any b)):=by
 show(if (l.map λx=>D.bl (b x)).all isB=true then some (D.bl ((l.map λx=>D.bl (b x)).any unB)) else none)=_
 have h:(l.map λx=>D.bl (b x)).all isB=true:=by rw[lck];exact lal.mpr λ_ _=>rfl
 rw[lB h,ldk];rfl
theorem zgL (ps:List (List Nat)):zcu (sT ps) (some 1) none=sT ps.tail:=by
 have:=zd4 (sT ps) 1
 rw[show((1:Nat):Int)=1 from rfl] at this
 rw[this,List.drop_one];exact(List.map_tail).symm
theorem zll (ps qs:List (List Nat)):(sT ps).zip (sT qs)=(ps.zip qs).map λx=>(D.str x.1,D.str x.2):=by
 unfold sT;rw[List.zip_map];rfl
def isText (m:Nat)(l:List Nat):Bool:=l.all λc=>decide (c∈abcd.take m)
theorem zca {m:Nat}(m4:m<=4){l:List Nat}(h:LetOk m l):isText m l=true:=by
 unfold isText
 rw[lal]
 exact λc hc=>lS (vM m4 (h c hc))
theorem u9 (m:Nat)(l:List Nat)(hl:l.length<=1000000):xj [.int m,.str l]=.ok (.bl (isText m l)):=by
 have e:vD wA (f2 (inC false) (fNm 0) (fNm 1)) [.no,.fz (.str (abcd.take m))] (l.map λc=>.str [c])=.ok (l.map λc=>.bl (decide (c∈abcd.take m))):=xO _ λc hc=>rfl
 have e2:zcu [97,98,99,100] none (some (m:Int))=abcd.take m:=zaP abcd m
 simp only[xj,uo,yQ,yr,wz,xR,fC,fNm,f1,f2,zE,zf,fO,tru,zaW,lf,Rs.bind,fI,sgD,fCp,xX,qt,wg,xK,fSl,slD,zcP,isStr,D.pl,D.py,lZ,laa,laq,lar,lC,laN,lF,lad,List.replicate,lD,lao,lau,Nat.reduceSub,Nat.reduceAdd,Nat.reduceLeDiff,laY,laC,lba,laT,lN,reduceIte,la0,lax,vK,e2,e,ly,lB hl,zjk,isText]
theorem zeB (ps:List (List Nat))(h:ps.length<=1000000):uy [.tup (sT ps)]=.ok (.bl (rising ps)):=by
 have e2:kW wA (f2 ltS (fNm 0) (fNm 1)) [.no,.no] (sT ps) (sT ps.tail)=.ok ((ps.zip ps.tail).map λx=>.bl (decide (x.1<x.2))):=by
  rw[zem]
  rw[zll,lap,lap]
  exact zjg (enc:=D.str) (enb:=D.str) _ λx hx=>rfl
 simp only[uy,qz,yQ,wz,fC,fNm,f2,zE,zf,fO,lf,Rs.bind,fLs,fCz,qt,wg,xK,fSl,slD,ltS,lZ,laa,laq,lar,lC,laN,lF,lad,List.replicate,lD,lao,lau,Nat.reduceSub,Nat.reduceAdd,Nat.reduceLeDiff,laY,laC,lba,laT,lN,reduceIte,la0,lax,vK,zgL,e2,yq,lB h,zjk,rising]
theorem zef (i:Int):zat [.int i]=.ok (.bl true):=rfl
theorem zcR (i lo hi:Int):vN [.int i,.int lo,.int hi]=.ok (.bl (decide (lo<=i)&&decide (i<=hi))):=by
 simp only[vN,uH,yQ,wz,fNm,f1,zE,zf,fA,tru,zaW,zf0,lf,Rs.bind,ari,fCh,zcP,isInt,isBool,leI,D.pl,D.py,lZ,laa,laq,lar,lC,laN,lF,lad,List.replicate,lD,lao,lau,Nat.reduceSub,Nat.reduceAdd,Nat.reduceLeDiff,laY,laC,lba,laT,lN,reduceIte,la0,lax,vK,zef]
 by_cases h:lo<=i
 ·simp[h]
 ·simp[h]
theorem jx (i:Int):zR [.int i]=.ok (.bl (decide (2<=i)&&decide (i<=4))):=by
 simp only[zR,yG,yQ,wz,fC,fNm,f1,zE,zf,fO,fA,tru,zaW,zf0,lf,Rs.bind,ari,fCh,zcP,isInt,isBool,ul,leI,D.pl,D.py,lZ,laa,laq,lar,lC,laN,lF,lad,List.replicate,lD,lao,lau,Nat.reduceSub,Nat.reduceAdd,Nat.reduceLeDiff,laY,laC,lba,laT,lN,reduceIte,la0,lax,vK,zcR]
 rfl
theorem zge (ps:List (List Nat))(x:List Nat)(h:ps.length<=1000000):ye [.tup (sT ps),.str x]=.ok (.bl (isInner ps x)):=by
 have e:vD wA (zaW (fM isS xg (fNm 0) (fNm 1)) (f2 (eqD true) (fNm 0) (fNm 1))) [.no,.fz (.str x)] (sT ps)=.ok (ps.map λp=>.bl (x.isPrefixOf p && !decide (p=x))):=xO _ λp hp=>by
  simp only[yQ,yr,wz,zby,xR,sIf,zbH,zch,zai,sRs,jn,kO,sWh,zbj,zeb,vB,vy,zbC,zhy,fSD,owL,odL,sNx,fC,fNm,f1,f2,zE,zf,fO,fA,fIf,tru,bT,zbR,zea,bOr,zaW,fOr,zf0,lf,lf',Rs.bind,isN,mkT,mkL,ari,fI,lsD,tpD,sgD,fR,fCp,xX,fLs,fL,fL1,fL2,szL,fCz,qt,wg,xK,fSl,slD,fM,fCh,zcP,isInt,isBool,isStr,isTup,ul,ltI,leI,gtI,geI,ltS,uh,zfn,D.pl,D.py,isS,lZ,laa,laq,lar,lC,laN,lF,lad,List.replicate,lD,lao,lau,Nat.reduceSub,Nat.reduceAdd,Nat.reduceLeDiff,laY,laC,lba,laT,lN,reduceIte,la0,lax,vK,xg,zfA]
  cases x.isPrefixOf p <;>simp
 simp only[ye,jM,yQ,yr,wz,zby,xR,sIf,zbH,zch,zai,sRs,jn,kO,sWh,zbj,zeb,vB,vy,zbC,zhy,fSD,owL,odL,sNx,fC,fNm,f1,f2,zE,zf,fO,fA,fIf,tru,bT,zbR,zea,bOr,zaW,fOr,zf0,lf,lf',Rs.bind,isN,mkT,mkL,ari,fI,lsD,tpD,sgD,fR,fCp,xX,fLs,fL,fL1,fL2,szL,fCz,qt,wg,xK,fSl,slD,fM,fCh,zcP,isInt,isBool,isStr,isTup,ul,ltI,leI,gtI,geI,ltS,uh,zfn,D.pl,D.py,isS,lZ,laa,laq,lar,lC,laN,lF,lad,List.replicate,lD,lao,lau,Nat.reduceSub,Nat.reduceAdd,Nat.reduceLeDiff,laY,laC,lba,laT,lN,reduceIte,la0,lax,vK,e,yq,lB h,zk9]
 rfl
theorem zfx (ps:List (List Nat))(x:List Nat)(h:ps.length<=1000000):yd [.tup (sT ps),.str x]=.ok (.bl (yD ps x)):=by
 have e:vD wA (fOr (fM isS xg (fNm 0) (fNm 1)) (fM isS xg (fNm 1) (fNm 0))) [.no,.fz (.str x)] (sT ps)=.ok (ps.map λp=>.bl (x.isPrefixOf p || p.isPrefixOf x)):=xO _ λp hp=>by
  simp only[yQ,yr,wz,zby,xR,sIf,zbH,zch,zai,sRs,jn,kO,sWh,zbj,zeb,vB,vy,zbC,zhy,fSD,owL,odL,sNx,fC,fNm,f1,f2,zE,zf,fO,fA,fIf,tru,bT,zbR,zea,bOr,zaW,fOr,zf0,lf,lf',Rs.bind,isN,mkT,mkL,ari,fI,lsD,tpD,sgD,fR,fCp,xX,fLs,fL,fL1,fL2,szL,fCz,qt,wg,xK,fSl,slD,fM,fCh,zcP,isInt,isBool,isStr,isTup,ul,ltI,leI,gtI,geI,ltS,uh,zfn,D.pl,D.py,isS,lZ,laa,laq,lar,lC,laN,lF,lad,List.replicate,lD,lao,lau,Nat.reduceSub,Nat.reduceAdd,Nat.reduceLeDiff,laY,laC,lba,laT,lN,reduceIte,la0,lax,vK,xg]
  cases x.isPrefixOf p <;>simp
 simp only[yd,jV,yQ,yr,wz,zby,xR,sIf,zbH,zch,zai,sRs,jn,kO,sWh,zbj,zeb,vB,vy,zbC,zhy,fSD,owL,odL,sNx,fC,fNm,f1,f2,zE,zf,fO,fA,fIf,tru,bT,zbR,zea,bOr,zaW,fOr,zf0,lf,lf',Rs.bind,isN,mkT,mkL,ari,fI,lsD,tpD,sgD,fR,fCp,xX,fLs,fL,fL1,fL2,szL,fCz,qt,wg,xK,fSl,slD,fM,fCh,zcP,isInt,isBool,isStr,isTup,ul,ltI,leI,gtI,geI,ltS,uh,zfn,D.pl,D.py,isS,lZ,laa,laq,lar,lC,laN,lF,lad,List.replicate,lD,lao,lau,Nat.reduceSub,Nat.reduceAdd,Nat.reduceLeDiff,laY,laC,lba,laT,lN,reduceIte,la0,lax,vK,e,yq,lB h,zk9]
 rfl
theorem zaN (ps:List (List Nat)):yX [.tup (sT ps)]=.ok (match wI ps with|some x=>.tup [.str x.1,.str x.2] | none=>.non):=by
 have key:=zjr (i:=1) (j:=2) (g:=sIf (bT (fM isS xg (fNm 2) (fNm 1))) (wz (fO mkT (zf (fNm 1) (zf (fNm 2) zE)))) sNx) (ρ:=[.fz (.tup (sT ps)),.no,.no]) (l:=ps.zip ps.tail) (enc:=D.str) (enb:=D.str)
  (λρ=>∃a b,ρ=[.fz (.tup (sT ps)),a,b]) (λx=>x.1.isPrefixOf x.2) (λx=>.tup [.str x.1,.str x.2]) ⟨_,_,rfl⟩ (λx hx ρ ⟨a,b,e⟩=>by
   subst e
   cases hp:x.1.isPrefixOf x.2 with
   | true=>simp only[yQ,yr,wz,sIf,zai,kO,sNx,fC,fNm,zE,zf,fO,tru,bT,lf,Rs.bind,mkT,wg,xK,fSl,slD,fM,isS,lZ,laa,laq,lar,lC,laN,lF,lad,List.replicate,lD,lao,lau,Nat.reduceSub,Nat.reduceAdd,Nat.reduceLeDiff,laY,laC,lba,laT,lN,reduceIte,la0,lax,vK,xg,hp]
   | false=>simp only[yQ,yr,wz,sIf,zai,kO,sNx,fC,fNm,zE,zf,fO,tru,bT,lf,Rs.bind,mkT,wg,xK,fSl,slD,fM,isS,lZ,laa,laq,lar,lC,laN,lF,lad,List.replicate,lD,lao,lau,Nat.reduceSub,Nat.reduceAdd,Nat.reduceLeDiff,laY,laC,lba,laT,lN,reduceIte,la0,lax,vK,xg,hp];exact⟨_,rfl,_,_,rfl⟩)
 have e4:forZ 1 2 (sIf (bT (fM isS xg (fNm 2) (fNm 1))) (wz (fO mkT (zf (fNm 1) (zf (fNm 2) zE)))) sNx) (sT ps) (sT ps.tail) [.fz (.tup (sT ps)),.no,.no]=forZ 1 2 (sIf (bT (fM isS xg (fNm 2) (fNm 1))) (wz (fO mkT (zf (fNm 1) (zf (fNm 2) zE)))) sNx) ((ps.zip ps.tail).map λx=>D.str x.1) ((ps.zip ps.tail).map λx=>D.str x.2) [.fz (.tup (sT ps)),.no,.no]:=by
  rw[zgI,zll,lap,lap];rfl
 have e5:kO 1 2 (fNm 0) (fSl (fNm 0) (xK (fC (.int 1))) wg) (sIf (bT (fM isS xg (fNm 2) (fNm 1))) (wz (fO mkT (zf (fNm 1) (zf (fNm 2) zE)))) sNx) [.fz (.tup (sT ps)),.no,.no]=forZ 1 2 (sIf (bT (fM isS xg (fNm 2) (fNm 1))) (wz (fO mkT (zf (fNm 1) (zf (fNm 2) zE)))) sNx) ((ps.zip ps.tail).map λx=>D.str x.1) ((ps.zip ps.tail).map λx=>D.str x.2) [.fz (.tup (sT ps)),.no,.no]:=by
  rw[← e4]
  unfold kO
  have e6:fSl (fNm 0) (xK (fC (.int 1))) wg [.fz (.tup (sT ps)),.no,.no]=.ok (.tup (sT ps.tail)):=by rw[← zgL];rfl
  rw[e6];rfl
 unfold wI
 cases hf:(ps.zip ps.tail).find? λx=>x.1.isPrefixOf x.2 with
 | some x =>
  rw[hf] at key
  have e7:xP [.fz (.tup (sT ps)),.no,.no]=.rt (.tup [.str x.1,.str x.2]):=by
   unfold xP yr zai
   rw[e5,key]
  exact yu e7
 | none =>
  rw[hf] at key
  obtain⟨ρ',k1,a,b,rfl⟩:=key
  have e7:xP [.fz (.tup (sT ps)),.no,.no]=.rt .non:=by
   unfold xP yr zai
   rw[e5,k1];rfl
  exact yu e7
def Pcs (m:Nat)(ps:List (List Nat)):Prop:=2<=m/\m<=4/\ps≠[]/\ps.length<=32/\∀p∈ps,LetOk m p/\p≠[]/\p.length<=9
theorem zf7 {m:Nat}{ps:List (List Nat)}(h:∀p∈ps,p.length<=1000000):vD wA (zaW (fA (ari 2 xj) (zf (fNm 1) (zf (fNm 0) zE))) (f2 (eqD true) (fNm 0) (fC (.str [])))) [.no,.fz (.int m)] (sT ps)=.ok (ps.map λp=>.bl (isText m p && !decide (p=[]))):=xO _ λp hp=>by
  simp only[yQ,yr,wz,xR,fC,fNm,f1,f2,zE,zf,fO,fA,tru,zaW,lf,Rs.bind,ari,fI,sgD,fCp,xX,qt,wg,xK,fSl,slD,zcP,isStr,D.pl,D.py,lZ,laa,laq,lar,lC,laN,lF,lad,List.replicate,lD,lao,lau,Nat.reduceSub,Nat.reduceAdd,Nat.reduceLeDiff,laY,laC,lba,laT,lN,reduceIte,la0,lax,vK,u9 m p (h p hp),zfA]
  cases isText m p <;>simp
theorem zdq {m:Nat}{ps:List (List Nat)}(h:Pcs m ps):yM [.int m,.tup (sT ps)]=.ok (.bl (rising ps)):=by
 obtain⟨m2,m4,hne,hl,hp⟩:=h
 have h1:∀p∈ps,p.length<=1000000:=λp q=>by have:=(hp p q).2.2;omega
 have e1:(ps.all λp=>isText m p && !decide (p=[]))=true:=lal.mpr λp q=>by
  obtain⟨a,b,_⟩:=hp p q
  rw[zca m4 a,lT b];rfl
 have hpos:1<=ps.length:=la4.mpr hne
 have d1:decide ((2:Int)<=(m:Int))=true:=lS (by omega)
 have d2:decide ((m:Int)<=4)=true:=lS (by omega)
 have d3:decide ((1:Int)<=(ps.length:Int))=true:=lS (by omega)
 have d4:decide ((ps.length:Int)<=32)=true:=lS (by omega)
 have hz:ps.length<=1000000:=by omega
 simp only[yM,uq,yQ,yr,wz,xR,sIf,sNx,fC,fNm,f1,f2,zE,zf,fO,fA,tru,bT,zbR,bOr,zaW,zf0,lf,Rs.bind,ari,fI,tpD,sgD,fCp,xX,fLs,fCz,qt,wg,xK,fSl,slD,fCh,zcP,isInt,isBool,isStr,isTup,ul,leI,ltS,D.pl,D.py,lZ,laa,laq,lar,lC,laN,lF,lad,List.replicate,lD,lao,lau,Nat.reduceSub,Nat.reduceAdd,Nat.reduceLeDiff,laY,laC,lba,laT,lN,reduceIte,la0,lax,vK,jx,d1,d2,Bool.and_self,yq,d3,d4,lB hz,zf7 h1,zjk,e1,zeB ps hz]
theorem sIter {m:Nat}{ρ:Rho}(h:ρ[0]? = some (.fz (.int (m:Int)))):fI sgD (fSl (fC (.str [97,98,99,100])) wg (xK (fNm 0))) ρ=.ok ((abcd.take m).map λc=>.str [c]):=by
 have e2:zcu [97,98,99,100] none (some (m:Int))=abcd.take m:=zaP abcd m
 simp only[fI,fSl,fC,wg,xK,fNm,h,Rs.bind,slD,lf,e2,sgD]
theorem zho {m:Nat}(xs:List (List Nat))(hl:∀x∈xs,x.length<=999999)(hn:4*xs.length<=999999):xu [.int m,.lst (sT xs)]=.ok (.lst (sT (zM m xs))):=by
 have hab:(abcd.take m).length<=4:=by rw[lO];exact lc8 _ _
 have inner:∀(x:List Nat) (acc:List (List Nat)) (s:Sl),x.length<=999999->acc.length+4<=999999->∃s',jn 4 (fI sgD (fSl (fC (.str [97,98,99,100])) wg (xK (fNm 0)))) (zbj 2 (f2 zdc (fNm 3) (fNm 4))) [.fz (.int m),.fz (.lst (sT xs)),.ow (sT acc),.fz (.str x),s]=.nx [.fz (.int m),.fz (.lst (sT xs)),.ow (sT (acc++(abcd.take m).map λc=>x++[c])),.fz (.str x),s']:=by
  intro x acc s hx ha
  rw[jw (sIter rfl)]
  obtain ⟨ρ',e,s',rfl⟩:=uG (i:=4) (g:=zbj 2 (f2 zdc (fNm 3) (fNm 4))) (l:=abcd.take m) (enc:=λc=>D.str [c]) (ρ:=[.fz (.int m),.fz (.lst (sT xs)),.ow (sT acc),.fz (.str x),s])
   (λk ρ=>∃s',ρ=[.fz (.int m),.fz (.lst (sT xs)),.ow (sT (acc++((abcd.take m).take k).map λc=>x++[c])),.fz (.str x),s']) ⟨s,by simp⟩ (λk c ρ hc ⟨s',e⟩=>by
    subst e
    have hk:k<(abcd.take m).length:=(lh.mp hc).1
    have e3:(abcd.take m).take (k+1)=(abcd.take m).take k++[c]:=by rw[lbk,hc];rfl
    have hlen:(sT (acc++((abcd.take m).take k).map λc=>x++[c])).length<1000000:=by
     rw[yq,lw,ly,lO];omega
    have hz:x.length+1<=1000000:=by omega
    refine⟨_,zdU rfl (yV (a:=.str x) (b:=.str [c]) rfl rfl (zdT hz)) hlen,.fz (.str [c]),?_⟩
    have e5:sT (acc++((abcd.take m).take (k+1)).map λc=>x++[c])=sT (acc++((abcd.take m).take k).map λc=>x++[c])++[D.str (x++[c])]:=by
     rw[e3,la7,← laL,← kJ (acc++_)];rfl
    rw[e5];rfl)
  refine⟨s',e.trans ?_⟩
  rw[lat (lp _)]
 have outer:=uG (i:=3) (g:=jn 4 (fI sgD (fSl (fC (.str [97,98,99,100])) wg (xK (fNm 0)))) (zbj 2 (f2 zdc (fNm 3) (fNm 4)))) (l:=xs) (enc:=D.str) (ρ:=[.fz (.int m),.fz (.lst (sT xs)),.ow [],.no,.no])
  (λk ρ=>∃s s',ρ=[.fz (.int m),.fz (.lst (sT xs)),.ow (sT (zM m (xs.take k))),s,s']) ⟨.no,.no,rfl⟩ (λk x ρ hx ⟨s,s',e⟩=>by
   subst e
   have hk:k<xs.length:=(lh.mp hx).1
   have e3:xs.take (k+1)=xs.take k++[x]:=by rw[lbk,hx];rfl
   have hg:(zM m (xs.take k)).length<=4*k:=by
    have:(zM m (xs.take k)).length<=4*(xs.take k).length:=by
     unfold zM
     generalize xs.take k=ys
     induction ys with
     | nil=>simp
     | cons y ys ih=>simp only[lc6,lw,ly,lF];omega
    rw[lO] at this;omega
   obtain⟨s2,e4⟩:=inner x (zM m (xs.take k)) s' (hl x (laD hx)) (by omega)
   refine⟨_,e4,.fz (.str x),s2,?_⟩
   rw[e3]
   unfold zM
   rw[List.flatMap_append]
   simp)
 obtain⟨ρ',e,s,s',rfl⟩:=outer
 rw[lat (lp _)] at e
 refine yu ?_
 show ji [.fz (.int m),.fz (.lst (sT xs)),.no,.no,.no]=_
 unfold ji
 refine(zG (g:=vy 2 (fL szL zE)) (ρ':=[.fz (.int m),.fz (.lst (sT xs)),.ow [],.no,.no]) rfl).trans ?_
 refine(zG (zaw ((jw (ds:=sT xs) rfl).trans e))).trans ?_
 rfl
theorem ziF {m:Nat}{ps:List (List Nat)}(hl:ps.length<=1000000)(xs:List (List Nat))(hx:∀x∈xs,x.length<=999)(hn:xs.length<=99999)(s3 s4:Sl) :
  match (zM m xs).find? (yD ps) with
  | some x=>yr (xR 3 (fA (ari 2 xu) (zf (fNm 0) (zf (fNm 2) zE)))) (yr (jn 4 (fI lsD (fNm 3)) (sIf (bT (fA (ari 2 yd) (zf (fNm 1) (zf (fNm 4) zE)))) (wz (fNm 4)) sNx)) (vB 2 (fCp (fI lsD (fNm 3)) (bT (fA (ari 2 ye) (zf (fNm 1) (zf (fNm 0) zE)))) (fNm 0) [1]))) [.fz (.int m),.fz (.tup (sT ps)),.fz (.lst (sT xs)),s3,s4]=.rt (.str x)
  | none=>∃s3' s4',yr (xR 3 (fA (ari 2 xu) (zf (fNm 0) (zf (fNm 2) zE)))) (yr (jn 4 (fI lsD (fNm 3)) (sIf (bT (fA (ari 2 yd) (zf (fNm 1) (zf (fNm 4) zE)))) (wz (fNm 4)) sNx)) (vB 2 (fCp (fI lsD (fNm 3)) (bT (fA (ari 2 ye) (zf (fNm 1) (zf (fNm 0) zE)))) (fNm 0) [1]))) [.fz (.int m),.fz (.tup (sT ps)),.fz (.lst (sT xs)),s3,s4]=.nx [.fz (.int m),.fz (.tup (sT ps)),.fz (.lst (sT ((zM m xs).filter (isInner ps)))),s3',s4']:=by
 have eg:=zho (m:=m) xs (λx q=>by have:=hx x q;omega) (by omega)
 have e1:(xR 3 (fA (ari 2 xu) (zf (fNm 0) (zf (fNm 2) zE)))) [.fz (.int m),.fz (.tup (sT ps)),.fz (.lst (sT xs)),s3,s4]=.nx [.fz (.int m),.fz (.tup (sT ps)),.fz (.lst (sT xs)),.fz (.lst (sT (zM m xs))),s4]:=by
  refine zX (d:=.lst (sT (zM m xs))) ?_
  exact eg
 have hgl:(zM m xs).length<=1000000:=by
  have hab:(abcd.take m).length<=4:=by rw[lO];exact lc8 _ _
  have:(zM m xs).length<=4*xs.length:=by
   unfold zM
   clear hn hx eg e1
   induction xs with
   | nil=>simp
   | cons y ys ih=>simp only[lc6,lw,ly,lF];omega
  omega
 have key:=ziU (i:=4) (g:=sIf (bT (fA (ari 2 yd) (zf (fNm 1) (zf (fNm 4) zE)))) (wz (fNm 4)) sNx) (ρ:=[.fz (.int m),.fz (.tup (sT ps)),.fz (.lst (sT xs)),.fz (.lst (sT (zM m xs))),s4]) (l:=zM m xs) (enc:=D.str)
  (λρ=>∃a,ρ=[.fz (.int m),.fz (.tup (sT ps)),.fz (.lst (sT xs)),.fz (.lst (sT (zM m xs))),a]) (yD ps) (λx=>.str x) ⟨_,rfl⟩ (λx hx ρ ⟨a,e⟩=>by
   subst e
   have ea:(bT (fA (ari 2 yd) (zf (fNm 1) (zf (fNm 4) zE)))) [.fz (.int m),.fz (.tup (sT ps)),.fz (.lst (sT xs)),.fz (.lst (sT (zM m xs))),.fz (.str x)]=.ok (yD ps x):=by
    show(yd [.tup (sT ps),.str x]).bind tru=_
    rw[zfx ps x hl];rfl
   cases hp:yD ps x with
   | true=>rw[lB rfl];rw[hp] at ea;exact(zdD ea).trans rfl
   | false=>rw[lW lv];rw[hp] at ea;exact⟨_,(zg9 ea).trans rfl,_,rfl⟩)
 cases hf:(zM m xs).find? (yD ps) with
 | some x =>
  rw[hf] at key
  refine(zG e1).trans (zba ((jw (ds:=sT (zM m xs)) rfl).trans key))
 | none =>
  rw[hf] at key
  obtain⟨ρ',k1,a,rfl⟩:=key
  have ec:vD (bT (fA (ari 2 ye) (zf (fNm 1) (zf (fNm 0) zE)))) (fNm 0) [.no,.fz (.tup (sT ps))] (sT (zM m xs))=.ok (((zM m xs).filter (isInner ps)).map .str):=zbO _ _ λx hx=>⟨by
   show(ye [.tup (sT ps),.str x]).bind tru=_
   rw[zge ps x hl];rfl,λ_=>rfl⟩
  refine⟨.fz (.lst (sT (zM m xs))),a,(zG e1).trans ((zG ((jw (ds:=sT (zM m xs)) rfl).trans k1)).trans ?_)⟩
  have e5:fCp (fI lsD (fNm 3)) (bT (fA (ari 2 ye) (zf (fNm 1) (zf (fNm 0) zE)))) (fNm 0) [1] [.fz (.int m),.fz (.tup (sT ps)),.fz (.lst (sT xs)),.fz (.lst (sT (zM m xs))),a]=.ok (sT ((zM m xs).filter (isInner ps))):=by
   show(if (sT (zM m xs)).length<=1000000 then vD _ _ [.no,.fz (.tup (sT ps))] (sT (zM m xs)) else .no)=_
   rw[yq,lB hgl]
   exact ec
  unfold vB
  rw[e5];rfl
theorem zew:∀(xs ys:List (List Nat)),PyData.eqvAll (D.pys (sT xs)) (D.pys (sT ys))=decide (xs=ys)
 | [],[]=>rfl
 | [],_::_=>rfl
 | _::_,[]=>rfl
 | x::xs,y::ys=>by
  show(PyData.eqv (.str (T x)) (.str (T y))&&PyData.eqvAll (D.pys (sT xs)) (D.pys (sT ys)))=_
  rw[zew xs ys,zf8]
  by_cases h:x=y <;>by_cases h2:xs=ys <;>simp[h,h2]
theorem zkU:∀xs:List (List Nat),PyData.depthAll (D.pys (sT xs))=0
 | []=>rfl
 | x::xs=>by
  show max (PyData.depth (.str (T x))) (PyData.depthAll (D.pys (sT xs)))=0
  rw[zkU xs];rfl
theorem qZ (neg:Bool)(xs ys:List (List Nat)):eqD neg (.lst (sT xs)) (.lst (sT ys))=some (.bl (if neg then !decide (xs=ys) else decide (xs=ys))):=by
 have h:(D.lst (sT xs)).pl=true/\(D.lst (sT ys)).pl=true/\(D.lst (sT xs)).py.depth<=60:=⟨vK xs,vK ys,by show PyData.depthAll (D.pys (sT xs))+1<=60;rw[zkU];omega⟩
 unfold eqD
 rw[lB h]
 show some (D.bl (if neg=true then !PyData.eqvAll (D.pys (sT xs)) (D.pys (sT ys)) else PyData.eqvAll (D.pys (sT xs)) (D.pys (sT ys))))=_
 rw[zew]
theorem zj3 {m:Nat}(m4:m<=4){ps:List (List Nat)}(hl:ps.length<=1000000)(h8:∀p∈ps,p.length<=9):∀(k L n:Nat) (xs:List (List Nat)) (s3 s4:Sl),L+k=10->(∀x∈xs,x.length=L/\(L=0∨isInner ps x=true))->xs.length<=4 ^ L->k<n ->
  match fta m ps k xs with
  | some x=>whD (bT (f2 (eqD true) (fNm 2) (fO mkL zE))) (yr (xR 3 (fA (ari 2 xu) (zf (fNm 0) (zf (fNm 2) zE)))) (yr (jn 4 (fI lsD (fNm 3)) (sIf (bT (fA (ari 2 yd) (zf (fNm 1) (zf (fNm 4) zE)))) (wz (fNm 4)) sNx)) (vB 2 (fCp (fI lsD (fNm 3)) (bT (fA (ari 2 ye) (zf (fNm 1) (zf (fNm 0) zE)))) (fNm 0) [1])))) n [.fz (.int m),.fz (.tup (sT ps)),.fz (.lst (sT xs)),s3,s4]=.rt (.str x)
  | none=>∃ρ',whD (bT (f2 (eqD true) (fNm 2) (fO mkL zE))) (yr (xR 3 (fA (ari 2 xu) (zf (fNm 0) (zf (fNm 2) zE)))) (yr (jn 4 (fI lsD (fNm 3)) (sIf (bT (fA (ari 2 yd) (zf (fNm 1) (zf (fNm 4) zE)))) (wz (fNm 4)) sNx)) (vB 2 (fCp (fI lsD (fNm 3)) (bT (fA (ari 2 ye) (zf (fNm 1) (zf (fNm 0) zE)))) (fNm 0) [1])))) n [.fz (.int m),.fz (.tup (sT ps)),.fz (.lst (sT xs)),s3,s4]=.nx ρ':=by
 intro k
 induction k with
 | zero =>
  intro L n xs s3 s4 hL hx hn hk
  have:xs=[]:=by
   cases xs with
   | nil=>rfl
   | cons x xs =>
    obtain⟨e1,e2⟩:=hx x (.head _)
    rcases e2 with e2|e2
    ·omega
    ·have:=zcm e2 h8;omega
  subst this
  obtain⟨n',rfl⟩:∃n',n=n'+1:=⟨n - 1,by omega⟩
  refine⟨[.fz (.int m),.fz (.tup (sT ps)),.fz (.lst (sT [])),s3,s4],?_⟩
  unfold whD
  have e0:(bT (f2 (eqD true) (fNm 2) (fO mkL zE))) [.fz (.int m),.fz (.tup (sT ps)),.fz (.lst (sT [])),s3,s4]=.ok false:=by
   show(lf (eqD true (.lst (sT [])) (.lst (sT [])))).bind tru=_
   rw[qZ];rfl
  rw[e0]
 | succ k ih =>
  intro L n xs s3 s4 hL hx hn hk
  obtain⟨n',rfl⟩:∃n',n=n'+1:=⟨n - 1,by omega⟩
  have et:(bT (f2 (eqD true) (fNm 2) (fO mkL zE))) [.fz (.int m),.fz (.tup (sT ps)),.fz (.lst (sT xs)),s3,s4]=.ok (!decide (xs=[])):=by
   show(lf (eqD true (.lst (sT xs)) (.lst (sT [])))).bind tru=_
   rw[qZ];rfl
  by_cases h0:xs=[]
  ·have ef:fta m ps (k+1) xs=none:=by unfold fta;rw[lB h0]
   rw[ef]
   refine⟨[.fz (.int m),.fz (.tup (sT ps)),.fz (.lst (sT xs)),s3,s4],?_⟩
   unfold whD
   rw[et,lS h0]
   rfl
  ·have ef:fta m ps (k+1) xs=match (zM m xs).find? (yD ps) with|some x=>some x|none=>fta m ps k ((zM m xs).filter (isInner ps)):=by
    rw[fta.eq_2,lW h0]
    all_goals (cases (zM m xs).find? (yD ps) <;>rfl)
   rw[lT h0] at et
   have hLs:L<=8:=by
    cases xs with
    | nil=>exact absurd rfl h0
    | cons x xs =>
     obtain⟨e1,e2⟩:=hx x (.head _)
     rcases e2 with e2|e2
     ·omega
     ·have:=zcm e2 h8;omega
   have hpow:(4:Nat) ^ L<=4 ^ 8:=lcL (by decide) hLs
   have h47:(4:Nat) ^ 8=65536:=by decide
   have R:=ziF (m:=m) hl xs (λx q=>by have:=(hx x q).1;omega) (by omega) s3 s4
   rw[ef]
   cases hf:(zM m xs).find? (yD ps) with
   | some x =>
    rw[hf] at R
    show whD _ _ (n'+1) _=_
    unfold whD
    rw[et]
    simp only[laC]
    rw[R]
   | none =>
    rw[hf] at R
    obtain⟨s3',s4',R⟩:=R
    have hx':∀x∈(zM m xs).filter (isInner ps),x.length=L+1/\(L+1=0∨isInner ps x=true):=λx q=>by
     obtain⟨q1,q2⟩:=laP.mp q
     obtain⟨y,hy,c,hc,rfl⟩:=zbf q1
     exact⟨by rw[lw,(hx y hy).1];rfl,.inr q2⟩
    have hn':((zM m xs).filter (isInner ps)).length<=4 ^ (L+1):=by
     have h1:((zM m xs).filter (isInner ps)).length<=(zM m xs).length:=List.length_filter_le _ _
     have h2:=zhq m m4 xs
     rw[ldo];omega
    have:=ih (L+1) n' _ s3' s4' (by omega) hx' hn' (by omega)
    have es:whD (bT (f2 (eqD true) (fNm 2) (fO mkL zE))) (yr (xR 3 (fA (ari 2 xu) (zf (fNm 0) (zf (fNm 2) zE)))) (yr (jn 4 (fI lsD (fNm 3)) (sIf (bT (fA (ari 2 yd) (zf (fNm 1) (zf (fNm 4) zE)))) (wz (fNm 4)) sNx)) (vB 2 (fCp (fI lsD (fNm 3)) (bT (fA (ari 2 ye) (zf (fNm 1) (zf (fNm 0) zE)))) (fNm 0) [1])))) (n'+1) [.fz (.int m),.fz (.tup (sT ps)),.fz (.lst (sT xs)),s3,s4]=whD (bT (f2 (eqD true) (fNm 2) (fO mkL zE))) (yr (xR 3 (fA (ari 2 xu) (zf (fNm 0) (zf (fNm 2) zE)))) (yr (jn 4 (fI lsD (fNm 3)) (sIf (bT (fA (ari 2 yd) (zf (fNm 1) (zf (fNm 4) zE)))) (wz (fNm 4)) sNx)) (vB 2 (fCp (fI lsD (fNm 3)) (bT (fA (ari 2 ye) (zf (fNm 1) (zf (fNm 0) zE)))) (fNm 0) [1])))) n' [.fz (.int m),.fz (.tup (sT ps)),.fz (.lst (sT ((zM m xs).filter (isInner ps)))),s3',s4']:=by
     rw[whD.eq_2,et]
     simp only[laC]
     rw[R]
    simp only[es]
    exact this
theorem zdQ {m:Nat}(m4:m<=4){ps:List (List Nat)}(hl:ps.length<=1000000)(h8:∀p∈ps,p.length<=9):yW [.int m,.tup (sT ps)]=.ok (match wM m ps with|some x=>.str x|none=>.non):=by
 have:=zj3 m4 hl h8 10 0 2000 [[]] .no .no rfl (λx hx=>by rw[lI.mp hx];exact⟨rfl,.inl rfl⟩) (by decide) (by decide)
 unfold wM
 cases hf:fta m ps 10 [[]] with
 | some x =>
  rw[hf] at this
  refine yu ?_
  exact(zG (ρ':=[.fz (.int m),.fz (.tup (sT ps)),.fz (.lst (sT [[]])),.no,.no]) rfl).trans (zba (zlP this))
 | none =>
  rw[hf] at this
  obtain⟨ρ',e⟩:=this
  refine yu ?_
  exact(zG (ρ':=[.fz (.int m),.fz (.tup (sT ps)),.fz (.lst (sT [[]])),.no,.no]) rfl).trans ((zG (zaw e)).trans rfl)
def zol (m:Nat)(ps:List (List Nat)):D:=match wI ps with
 | some x=>.tup [.str x.1,.str x.2]
 | none=>(match wM m ps with|some x=>.str x|none=>.non)
theorem zcY {m:Nat}(m4:m<=4){ps:List (List Nat)}(hl:ps.length<=1000000)(h8:∀p∈ps,p.length<=9):vh [.int m,.tup (sT ps)]=.ok (zol m ps):=by
 refine yu ?_
 show wC [.fz (.int m),.fz (.tup (sT ps)),.no]=_
 unfold wC zol
 cases hf:wI ps with
 | some x =>
  have e1:xR 2 (fA (ari 1 yX) (zf (fNm 1) zE)) [.fz (.int m),.fz (.tup (sT ps)),.no]=.nx [.fz (.int m),.fz (.tup (sT ps)),.fz (.tup [.str x.1,.str x.2])]:=zX (d:=.tup [.str x.1,.str x.2]) (by
   show yX [.tup (sT ps)]=_
   rw[zaN,hf])
  exact(zG e1).trans (zba rfl)
 | none =>
  have e1:xR 2 (fA (ari 1 yX) (zf (fNm 1) zE)) [.fz (.int m),.fz (.tup (sT ps)),.no]=.nx [.fz (.int m),.fz (.tup (sT ps)),.fz .non]:=zX (d:=.non) (by
   show yX [.tup (sT ps)]=_
   rw[zaN,hf])
  refine(zG e1).trans ((zG (ρ':=[.fz (.int m),.fz (.tup (sT ps)),.fz .non]) rfl).trans (vI ?_))
  show yW [.int m,.tup (sT ps)]=_
  rw[zdQ m4 hl h8]
theorem zkO {m:Nat}{ps:List (List Nat)}:isN false (zol m ps)=some (.bl ((wI ps).isNone&&(wM m ps).isNone)):=by
 unfold zol
 cases wI ps with
 | some x=>rfl
 | none=>cases wM m ps <;>rfl
theorem zdi {m:Nat}{ps:List (List Nat)}(h:Pcs m ps):yx [.int m,.tup (sT ps)]=.ok (.bl (isBook m ps)):=by
 have h8:∀p∈ps,p.length<=9:=λp q=>(h.2.2.2.2 p q).2.2
 have hl:ps.length<=1000000:=by have:=h.2.2.2.1;omega
 refine yu (vI ?_)
 show(yM [.int m,.tup (sT ps)]).bind (λa=>(tru a).bind λb=>if b=true then(vh [.int m,.tup (sT ps)]).bind (λa=>lf (isN false a)) else .ok (.bl false))=_
 rw[zdq h,zcY h.2.1 hl h8]
 show(if rising ps=true then lf (isN false (zol m ps)) else Rs.ok (D.bl false))=_
 rw[zkO]
 unfold isBook
 cases rising ps <;>simp[lf]
theorem zb6 {m:Nat}{ps:List (List Nat)}(h:Pcs m ps)(hr:isBook m ps=true):wN [.int m,.tup (sT ps)]=.ok .non:=by
 refine zgb (ρ:=[.fz (.int m),.fz (.tup (sT ps))]) ?_
 refine(zg9 ?_).trans rfl
 show((yx [.int m,.tup (sT ps)]).bind tru).bind (λb=>Rs.ok !b)=_
 rw[zdi h,hr];rfl
theorem zcq {m:Nat}(m4:m<=4){l:List Nat}(h:LetOk m l)(hl:l.length<=1000000):yp [.int m,.str l]=.ok .non:=by
 refine zgb (ρ:=[.fz (.int m),.fz (.str l)]) ?_
 refine(zg9 ?_).trans rfl
 show((xj [.int m,.str l]).bind tru).bind (λb=>Rs.ok !b)=_
 rw[u9 m l hl,zca m4 h];rfl
theorem zeG {ps:List (List Nat)}{l:List Nat}(hl:l.length<=1000):zaT [.tup (sT ps),.str l]=.ok (.tup [.lst (sT (yI ps l).1),.str (yI ps l).2]):=by
 have step:=uG (i:=4) (g:=yr (xR 3 (f2 zdc (fNm 3) (fNm 4))) (sIf (bT (f2 (inD false) (fNm 3) (fNm 0))) (yr (zbj 2 (fNm 3)) (xR 3 (fC (.str [])))) sNx)) (l:=l) (enc:=λc=>D.str [c]) (ρ:=[.fz (.tup (sT ps)),.fz (.str l),.ow [],.fz (.str []),.no])
  (λk ρ=>∃s,ρ=[.fz (.tup (sT ps)),.fz (.str l),.ow (sT (yI ps (l.take k)).1),.fz (.str (yI ps (l.take k)).2),s]) ⟨.no,rfl⟩ (λk c ρ hc ⟨s,e⟩=>by
   subst e
   have hk:k<l.length:=(lh.mp hc).1
   have e3:l.take (k+1)=l.take k++[c]:=by rw[lbk,hc];rfl
   have e4:yI ps (l.take (k+1))=zP ps (yI ps (l.take k)) c:=by rw[e3];unfold yI;rw[lb2];rfl
   have b1:=(jU ps (l.take k)).1
   have b2:=(jU ps (l.take k)).2
   rw[lO] at b1 b2
   rw[e4]
   generalize yI ps (l.take k)=st at *
   obtain⟨acc,left⟩:=st
   have e5:xR 3 (f2 zdc (fNm 3) (fNm 4)) [.fz (.tup (sT ps)),.fz (.str l),.ow (sT acc),.fz (.str left),.fz (.str [c])]=.nx [.fz (.tup (sT ps)),.fz (.str l),.ow (sT acc),.fz (.str (left++[c])),.fz (.str [c])]:=zX (d:=.str (left++[c])) (yV (a:=.str left) (b:=.str [c]) rfl rfl (zdT (by show left.length+1<=_;dsimp only at b2;omega)))
   have e6:(bT (f2 (inD false) (fNm 3) (fNm 0))) [.fz (.tup (sT ps)),.fz (.str l),.ow (sT acc),.fz (.str (left++[c])),.fz (.str [c])]=.ok (decide (left++[c]∈ps)):=by
    show(lf (inQ false (.str (left++[c])) (sT ps))).bind tru=_
    rw[znI];rfl
   unfold zP
   by_cases hm:left++[c]∈ps
   ·rw[lS hm] at e6
    rw[lB hm]
    have hlen:(sT acc).length<1000000:=by rw[yq];dsimp only at b1;omega
    refine⟨_,(zG e5).trans ((zdD e6).trans ((zG (zdU rfl rfl hlen)).trans (zX (d:=.str []) rfl))),.fz (.str [c]),?_⟩
    have e7:sT (acc++[left++[c]])=sT acc++[D.str (left++[c])]:=by rw[← kJ];rfl
    show _=[_,_,Sl.ow (sT (acc++[left++[c]])),_,_]
    rw[e7];rfl
   ·rw[lT hm] at e6
    rw[lW hm]
    exact⟨_,(zG e5).trans ((zg9 e6).trans rfl),_,rfl⟩)
 obtain⟨ρ',e,s,rfl⟩:=step
 rw[lat (lp _)] at e
 refine yu ?_
 show zaF [.fz (.tup (sT ps)),.fz (.str l),.no,.no,.no]=_
 unfold zaF
 refine(zG (ρ':=[.fz (.tup (sT ps)),.fz (.str l),.ow [],.no,.no]) rfl).trans ?_
 refine(zG (ρ':=[.fz (.tup (sT ps)),.fz (.str l),.ow [],.fz (.str []),.no]) rfl).trans ?_
 refine(zG (zaw ((jw (ds:=l.map λc=>.str [c]) rfl).trans e))).trans ?_
 rfl
def dK (ks:List (List Nat)):List (List Nat×D):=ks.map λk=>(k,.bl true)
def zey (ns:List Int)(k:Int):Int:=if ns=[] then 7*k else ns.getD (k % ns.length).toNat 0+6553*(k / ns.length)
def xM (ns:List Int)(k m:Int):Int :=
 let c1:=(zey ns k % 2147483563*69069+104723*(k+1)) % 2147483563
 let c2:=(c1*c1+c1 / 3) % 2147483399
 (c2*c2+c2 / 7) % 2147483647 / 11 % m
theorem yP (ns:List Int)(k:Int){m:Int}(hm:0<m):0<=xM ns k m/\xM ns k m<m:=by
 unfold xM
 exact⟨lct _ (by omega),lbU _ (by omega)⟩
def scD (ns:List Int):D:=.lst (ns.map .int)
theorem zgG:∀ns:List Int,D.pls (ns.map .int)=true
 | []=>rfl
 | n::ns=>by show((D.int n).pl&&D.pls (ns.map .int))=true;rw[zgG ns];rfl
theorem zgZ:∀ns:List Int,PyData.depthAll (D.pys (ns.map .int))=0
 | []=>rfl
 | n::ns=>by show max 0 (PyData.depthAll (D.pys (ns.map .int)))=0;rw[zgZ ns];rfl
theorem zhk (ns:List Int):eqD false (scD ns) (.lst [])=some (.bl (decide (ns=[]))):=by
 have h:(scD ns).pl=true/\(D.lst []).pl=true/\(scD ns).py.depth<=60:=⟨zgG ns,rfl,by show PyData.depthAll (D.pys (ns.map .int))+1<=60;rw[zgZ];omega⟩
 unfold eqD
 rw[lB h]
 cases ns <;>rfl
theorem cell_eq (ns:List Int)(hn:ns.length<=63)(k:Int)(h0:0<=k)(h1:k<1000):uK [scD ns,.int k]=.ok (.int (zey ns k)):=by
 refine yu ?_
 show v8 [.fz (scD ns),.fz (.int k)]=_
 unfold v8 zey
 have e1:(bT (f2 (eqD false) (fNm 0) (fO mkL zE))) [.fz (scD ns),.fz (.int k)]=.ok (decide (ns=[])):=by
  show(lf (eqD false (scD ns) (.lst []))).bind tru=_
  rw[zhk];rfl
 by_cases h:ns=[]
 ·rw[lS h] at e1
  rw[lB h]
  exact zba ((zdD e1).trans (vI (zaj rfl rfl (qg (by omega)) (qg (by omega)))))
 ·rw [lT h] at e1
  rw[lW h]
  refine(zG (ρ':=[.fz (scD ns),.fz (.int k)]) ((zg9 e1).trans rfl)).trans (vI ?_)
  have hl:0<ns.length:=la4.mpr h
  have el:fO ul (zf (fNm 0) zE) [.fz (scD ns),.fz (.int k)]=.ok (.int (ns.length:Int)):=by
   show Rs.ok (D.int ((ns.map D.int).length:Int))=_
   rw[ly]
  have hp:(0:Int)<(ns.length:Int):=by omega
  have r1:=lct k (show(ns.length:Int)≠0 by omega)
  have r2:=lbU k hp
  have hd:0<=k / (ns.length:Int):=Int.ediv_nonneg h0 (by omega)
  have hd2:k / (ns.length:Int)<=k:=Int.ediv_le_self _ h0
  obtain⟨j,hj⟩:=lay r1
  have hjl:j<ns.length:=by omega
  have ei:f2 ixD (fNm 0) (f2 zgM (fNm 1) (fO ul (zf (fNm 0) zE))) [.fz (scD ns),.fz (.int k)]=.ok (.int (ns.getD (k % (ns.length:Int)).toNat 0)):=by
   refine yV (a:=scD ns) (b:=.int (k % (ns.length:Int))) rfl (jq rfl el hp) ?_
   show atI (ns.map D.int) (k % (ns.length:Int))=_
   rw[hj]
   have:=zmH (xs:=ns.map D.int) (j:=j) (v:=.int ns[j]) (by rw[lR,lg hjl];rfl)
   rw[this,laj,lr,lg hjl];rfl
  exact wD ei (zaj rfl (jR rfl el hp (qg (by omega))) (qg (by omega)) (qg (by omega)))
theorem uz (ns:List Int)(hn:ns.length<=63)(k m:Int)(h0:0<=k)(h1:k<1000)(hm:0<m):zJ [scD ns,.int k,.int m]=.ok (.int (xM ns k m)):=by
 refine yu ?_
 show vz [.fz (scD ns),.fz (.int k),.fz (.int m),.no]=_
 have hD:∀c1 c2,(zey ns k % 2147483563*69069+104723*(k+1)) % 2147483563=c1->(c1*c1+c1 / 3) % 2147483399=c2->xM ns k m=(c2*c2+c2 / 7) % 2147483647 / 11 % m:=by
  rintro _ _ rfl rfl;rfl
 unfold vz
 have ec:fA (ari 2 uK) (zf (fNm 0) (zf (fNm 1) zE)) [.fz (scD ns),.fz (.int k),.fz (.int m),.no]=.ok (.int (zey ns k)):=cell_eq ns hn k h0 h1
 have a1:=lct (zey ns k) (show(2147483563:Int)≠0 by decide)
 have a2:=lbU (zey ns k) (show(0:Int)<2147483563 by decide)
 generalize hc1:(zey ns k % 2147483563*69069+104723*(k+1)) % 2147483563=c1
 have b1:0<=c1:=hc1▸lct _ (by decide)
 have b2:c1<2147483563:=hc1▸lbU _ (by decide)
 refine(zG (ρ':=[.fz (scD ns),.fz (.int k),.fz (.int m),.fz (.int c1)]) ?_).trans ?_
 ·rw[← hc1]
  exact zX (jq (wD (zaj (jq ec rfl (by decide)) rfl (qg (by omega)) (qg (by decide))) (zaj rfl (wD rfl rfl) (qg (by decide)) (qg (by omega)))) rfl (by decide))
 generalize hc2:(c1*c1+c1 / 3) % 2147483399=c2
 have d1:0<=c2:=hc2▸lct _ (by decide)
 have d2:c2<2147483399:=hc2▸lbU _ (by decide)
 refine(zG (ρ':=[.fz (scD ns),.fz (.int k),.fz (.int m),.fz (.int c2)]) ?_).trans ?_
 ·rw[← hc2]
  exact zX (jq (wD (zaj rfl rfl (qg (by omega)) (qg (by omega))) (jR rfl rfl (by decide) (qg (by decide)))) rfl (by decide))
 rw[hD c1 c2 hc1 hc2]
 exact vI (jq (jR (jq (wD (zaj rfl rfl (qg (by omega)) (qg (by omega))) (jR rfl rfl (by decide) (qg (by decide)))) rfl (by decide)) rfl (by decide) (qg (by decide))) rfl hm)
def zeo (ns:List Int)(at' many long:Int):List Nat:=(List.range (xM ns at' (long+1)).toNat).map λ(i:Nat)=>abcd.getD (xM ns (at'+1+(i:Int)) many).toNat 0
theorem zkw (ns:List Int)(at':Int){m:Nat}(m2:2<=m)(m4:m<=4)(long:Int):LetOk m (zeo ns at' m long):=λc hc=>by
 obtain⟨i,_,rfl⟩:=lbh.mp hc
 have hr:=yP ns (at'+1+(i:Int)) (m:=m) (by omega)
 obtain⟨j,hj⟩:=lay hr.1
 rw[hj] at hr ⊢
 rw[laj]
 have hj4:j<m:=by omega
 have:∀j<4,abcd.getD j 0=97+j:=by decide
 rw[this j (by omega)];omega
theorem zex (ns:List Int)(at' m:Int){long:Nat}:(zeo ns at' m long).length<=long:=by
 unfold zeo
 rw[ly,laf]
 have:=yP ns at' (m:=(long:Int)+1) (by omega)
 omega
theorem zgh {j:Nat}(h:j<4):ixD (.str [97,98,99,100]) (.int (j:Int))=some (.str [abcd.getD j 0]):=by
 have e:j=0∨j=1∨j=2∨j=3:=by omega
 rcases e with rfl|rfl|rfl|rfl <;>rfl
theorem zlY (ns:List Int)(hn:ns.length<=63)(at':Nat){m:Nat}(m2:2<=m)(m4:m<=4)(long:Nat)(hat:at'+long+1<1000):vq [scD ns,.int at',.int m,.int long]=.ok (.str (zeo ns at' m long)):=by
 have hr:=yP ns at' (m:=(long:Int)+1) (by omega)
 obtain⟨z,hz⟩:=lay hr.1
 rw[hz] at hr
 have e1:fA (ari 3 zJ) (zf (fNm 0) (zf (fNm 1) (zf (f2 uh (fNm 3) (fC (.int 1))) zE))) [.fz (scD ns),.fz (.int at'),.fz (.int m),.fz (.int long),.no]=.ok (.int (z:Int)):=by
  rw[← hz];exact uz ns hn at' (long+1) (by omega) (by omega) (by omega)
 have e2:vD wA (f2 ixD (fC (.str [97,98,99,100])) (fA (ari 3 zJ) (zf (fNm 1) (zf (f2 uh (f2 uh (fNm 3) (fC (.int 1))) (fNm 0)) (zf (fNm 2) zE))))) [.no,.fz (scD ns),.fz (.int m),.fz (.int at')] ((List.range z).map λ(k:Nat)=>.int (k:Int))=.ok ((List.range z).map λ(i:Nat)=>.str [abcd.getD (xM ns ((at':Int)+1+(i:Int)) m).toNat 0]):=xO (enc:=λ(k:Nat)=>D.int (k:Int)) _ λi hi=>by
  have hi':i<z:=by simpa using hi
  have hr2:=yP ns ((at':Int)+1+(i:Int)) (m:=m) (by omega)
  have e3:fA (ari 3 zJ) (zf (fNm 1) (zf (f2 uh (f2 uh (fNm 3) (fC (.int 1))) (fNm 0)) (zf (fNm 2) zE))) [.fz (.int (i:Int)),.fz (scD ns),.fz (.int m),.fz (.int at')]=.ok (.int (xM ns ((at':Int)+1+(i:Int)) m)):=uz ns hn _ m (by omega) (by omega) (by omega)
  obtain⟨j,hj⟩:=lay hr2.1
  rw[hj] at e3 hr2 ⊢
  rw[laj]
  exact yV (a:=.str [97,98,99,100]) (b:=.int (j:Int)) rfl e3 (zgh (by omega))
 refine yu ?_
 show uc [.fz (scD ns),.fz (.int at'),.fz (.int m),.fz (.int long),.no]=_
 unfold uc
 refine(zG (zX e1)).trans (vI ?_)
 have e4:xX (fR zc5 (zf (fNm 4) zE)) wA (f2 ixD (fC (.str [97,98,99,100])) (fA (ari 3 zJ) (zf (fNm 1) (zf (f2 uh (f2 uh (fNm 3) (fC (.int 1))) (fNm 0)) (zf (fNm 2) zE))))) [0,2,1] [.fz (scD ns),.fz (.int at'),.fz (.int m),.fz (.int long),.fz (.int (z:Int))]=.ok (.lst ((List.range z).map λ(i:Nat)=>.str [abcd.getD (xM ns ((at':Int)+1+(i:Int)) m).toNat 0])) :=
  qK (zcL (ds:=[.int (z:Int)]) rfl (vo (by omega))) (by rw[ly,laf];omega) e2
 refine zga (a:=.str []) rfl rfl e4 ?_
 have et:zeo ns at' m long=(List.range z).map λ(i:Nat)=>abcd.getD (xM ns ((at':Int)+1+(i:Int)) m).toNat 0:=by unfold zeo;rw[hz,laj]
 have ef:((((List.range z).map λ(i:Nat)=>D.str [abcd.getD (xM ns ((at':Int)+1+(i:Int)) m).toNat 0])).map unS).flatten=zeo ns at' m long:=by
  rw[et,lap]
  generalize (List.range z)=r
  induction r with
  | nil=>rfl
  | cons a r ih=>rw[lC,laB,ih];rfl
 dsimp only [qQ]
 rw[ef,lB]
 refine⟨by rw[lck];exact lal.mpr λ_ _=>rfl,?_⟩
 have:=zex ns at' m (long:=long)
 omega
def bkF (ns:List Int)(at':Nat)(m:Nat):Nat->List (List Nat)
 | 0=>kids m []
 | t+1=>part m (bkF ns at' m t) (xM ns ((at':Int)+(t:Int)) ((bkF ns at' m t).length:Int)).toNat
theorem ziB (ns:List Int)(at':Nat){m:Nat}(m2:2<=m)(m4:m<=4):∀t:Nat,My.Gr m t (bkF ns at' m t)
 | 0=>.z
 | t+1=>by
  have g:=ziB ns at' m2 m4 t
  have hl:=g.len m2 m4
  have hd:=yP ns ((at':Int)+(t:Int)) (m:=((bkF ns at' m t).length:Int)) (by rw[hl];omega)
  exact .s g (by omega)
theorem ziu (m:Nat)(m4:m<=4)(p:List Nat):kids m p=(List.range m).map λi=>p++[abcd.getD i 0]:=by
 unfold kids
 have:∀m≤4,abcd.take m=(List.range m).map λi=>abcd.getD i 0:=by decide
 rw[this m m4,lap];rfl
theorem ziZ {ls:List (List Nat)}(h:ls.length<64):zif [.lst (sT ls)]=some (sT (sortF ls)):=by
 dsimp only [zif]
 unfold zi6
 rw[lB ⟨zbl ls,by rw[yq];exact h⟩,za0];rfl
theorem zkp (ls:List (List Nat))(k:Nat):(sT ls).eraseIdx k=sT (ls.eraseIdx k):=by
 exact zeP D.str ls k
theorem zl2 (ns:List Int)(hn:ns.length<=63)(at':Nat){m:Nat}(m2:2<=m)(m4:m<=4)(t:Nat)(ht:t<=8)(hat:at'<=900):uw [scD ns,.int at',.int m,.int t]=.ok (.tup (sT (bkF ns at' m t))):=by
 have e0:fCp (fR zc5 (zf (fNm 2) zE)) wA (f2 ixD (fC (.str [97,98,99,100])) (fNm 0)) [] [.fz (scD ns),.fz (.int at'),.fz (.int m),.fz (.int t),.no,.no,.no]=.ok (sT (kids m [])):=by
  refine zhX (zcL (ds:=[.int (m:Int)]) rfl (vo (by omega))) (by rw[ly,laf];omega) ?_
  rw[ziu m m4]
  have:=xO (fe:=f2 ixD (fC (.str [97,98,99,100])) (fNm 0)) (ρ0:=[.no]) (l:=List.range m) (enc:=λ(k:Nat)=>D.int (k:Int)) (λi=>.str ([]++[abcd.getD i 0])) λi hi=>yV (a:=.str [97,98,99,100]) (b:=.int (i:Int)) rfl rfl (zgh (by have:=la5.mp hi;omega))
  unfold sT
  rw[lap]
  exact this
 have loop:=uG (i:=5) (g:=yr (zeb 4 6 (fFl 4 (fA (ari 3 zJ) (zf (fNm 0) (zf (f2 uh (fNm 1) (fNm 5)) (zf (fO ul (zf (fNm 4) zE)) zE)))))) (zch 4 (vy 4 (fL zif (zf (fLs (fL2 zjb (fNm 4) (xX (fR zc5 (zf (fNm 2) zE)) wA (f2 zdc (fNm 1) (f2 ixD (fC (.str [97,98,99,100])) (fNm 0))) [6]))) zE))))) (l:=List.range t) (enc:=λ(k:Nat)=>D.int (k:Int)) (ρ:=[.fz (scD ns),.fz (.int at'),.fz (.int m),.fz (.int t),.ow (sT (kids m [])),.no,.no])
  (λk ρ=>∃s s',ρ=[.fz (scD ns),.fz (.int at'),.fz (.int m),.fz (.int t),.ow (sT (bkF ns at' m k)),s,s']) ⟨.no,.no,rfl⟩ (λk c ρ hc ⟨s,s',e⟩=>by
   subst e
   have hk:k<t:=by have:=(lh.mp hc).1;simpa using this
   have ec:c=k:=by rw[List.getElem?_range hk] at hc;exact(lc hc).symm
   subst ec
   have g:=ziB ns at' m2 m4 c
   have hl:=g.len m2 m4
   have hsh:=g.short m2 m4
   have hll:(bkF ns at' m c).length<=28:=by
    rw[hl]
    have:c*(m - 1)<=8*3:=lc3 (by omega) (by omega)
    omega
   have hpos:0<(bkF ns at' m c).length:=by rw[hl];omega
   have hd:=yP ns ((at':Int)+(c:Int)) (m:=((bkF ns at' m c).length:Int)) (by omega)
   obtain⟨j,hj⟩:=lay hd.1
   rw[hj] at hd
   have hjl:j<(bkF ns at' m c).length:=by omega
   have eB:bkF ns at' m (c+1)=part m (bkF ns at' m c) j:=by
    show part m (bkF ns at' m c) (xM ns ((at':Int)+(c:Int)) ((bkF ns at' m c).length:Int)).toNat=_
    rw[hj];rfl
   rw[eB]
   generalize hB:bkF ns at' m c=B at *
   have ed:fFl 4 (fA (ari 3 zJ) (zf (fNm 0) (zf (f2 uh (fNm 1) (fNm 5)) (zf (fO ul (zf (fNm 4) zE)) zE)))) [.fz (scD ns),.fz (.int at'),.fz (.int m),.fz (.int t),.ow (sT B),.fz (.int (c:Int)),s']=.ok (.int (j:Int)):=by
    refine zny rfl ?_ rfl
    show zJ [scD ns,.int ((at':Int)+(c:Int)),.int ((sT B).length:Int)]=_
    rw[yq,← hj]
    exact uz ns hn _ _ (by omega) (by omega) (by omega)
   have ep:(sT B)[j]? = some (.str B[j]):=by unfold sT;rw[lR,lg hjl];rfl
   have eg:B.getD j []=B[j]:=by rw[lr,lg hjl];rfl
   have hp8:=hsh B[j] (laI hjl)
   refine⟨_,(zG (zmp rfl ed (by omega) ep)).trans ?_,.fz (.int (c:Int)),.fz (.str B[j]),rfl⟩
   rw[zkp]
   refine(zfJ (ds:=sT (B.eraseIdx j)) rfl).trans ?_
   refine(zdA (d:=sT (part m B j)) ?_).trans rfl
   have ek:xX (fR zc5 (zf (fNm 2) zE)) wA (f2 zdc (fNm 1) (f2 ixD (fC (.str [97,98,99,100])) (fNm 0))) [6] [.fz (scD ns),.fz (.int at'),.fz (.int m),.fz (.int t),.fz (.lst (sT (B.eraseIdx j))),.fz (.int (c:Int)),.fz (.str B[j])]=.ok (.lst (sT (kids m B[j]))):=by
    refine qK (zcL (ds:=[.int (m:Int)]) rfl (vo (by omega))) (by rw[ly,laf];omega) ?_
    rw[ziu m m4]
    have:=xO (fe:=f2 zdc (fNm 1) (f2 ixD (fC (.str [97,98,99,100])) (fNm 0))) (ρ0:=[.no,.fz (.str B[j])]) (l:=List.range m) (enc:=λ(k:Nat)=>D.int (k:Int)) (λi=>.str (B[j]++[abcd.getD i 0])) λi hi=>yV (a:=.str B[j]) (b:=.str [abcd.getD i 0]) rfl (yV (a:=.str [97,98,99,100]) (b:=.int (i:Int)) rfl rfl (zgh (by have:=la5.mp hi;omega))) (zdT (by show B[j].length+1<=_;omega))
    unfold sT
    rw[lap]
    exact this
   have el:(B.eraseIdx j++kids m B[j]).length<64:=by
    rw[lw,zdB m m4,List.length_eraseIdx,lB hjl];omega
   have ecat:fL2 zjb (fNm 4) (xX (fR zc5 (zf (fNm 2) zE)) wA (f2 zdc (fNm 1) (f2 ixD (fC (.str [97,98,99,100])) (fNm 0))) [6]) [.fz (scD ns),.fz (.int at'),.fz (.int m),.fz (.int t),.fz (.lst (sT (B.eraseIdx j))),.fz (.int (c:Int)),.fz (.str B[j])]=.ok (sT (B.eraseIdx j++kids m B[j])):=by
    unfold fL2
    rw[ek]
    show lf' (zjb (.lst (sT (B.eraseIdx j))) (.lst (sT (kids m B[j]))))=_
    dsimp only [zjb]
    rw[lB (by rw[yq,yq,← lw];omega),kJ];rfl
   refine zpi (zO (zk1 ecat) rfl) ?_
   rw[ziZ el]
   unfold part
   rw[eg])
 obtain⟨ρ',e,s,s',rfl⟩:=loop
 rw[laf] at e
 refine yu ?_
 show uf [.fz (scD ns),.fz (.int at'),.fz (.int m),.fz (.int t),.no,.no,.no]=_
 unfold uf
 refine(zG (zdA e0)).trans ((zG (zaw ((jw (zcL (ds:=[.int (t:Int)]) rfl (vo (by omega)))).trans e))).trans ?_)
 rfl
end Pg
set_option maxHeartbeats 4000000
namespace Pg
open PySem L2 PyProof.Rows
end Pg
set_option maxHeartbeats 1000000
namespace Pg
open PySem L2 My
theorem fA1 {fn:List D->Rs D}{f:Rho->Rs D}{ρ:Rho}{a:D}(e1:f ρ=.ok a):fA (ari 1 fn) (zf f zE) ρ=fn [a]:=by
 unfold fA;rw[zO e1 rfl];rfl
theorem fA2 {fn:List D->Rs D}{f g:Rho->Rs D}{ρ:Rho}{a b:D}(e1:f ρ=.ok a)(e2:g ρ=.ok b):fA (ari 2 fn) (zf f (zf g zE)) ρ=fn [a,b]:=by
 unfold fA;rw[zO e1 (zO e2 rfl)];rfl
theorem fA3 {fn:List D->Rs D}{f g h:Rho->Rs D}{ρ:Rho}{a b c:D}(e1:f ρ=.ok a)(e2:g ρ=.ok b)(e3:h ρ=.ok c):fA (ari 3 fn) (zf f (zf g (zf h zE))) ρ=fn [a,b,c]:=by
 unfold fA;rw[zO e1 (zO e2 (zO e3 rfl))];rfl
theorem fA4 {fn:List D->Rs D}{f g h i:Rho->Rs D}{ρ:Rho}{a b c d:D}(e1:f ρ=.ok a)(e2:g ρ=.ok b)(e3:h ρ=.ok c)(e4:i ρ=.ok d):fA (ari 4 fn) (zf f (zf g (zf h (zf i zE)))) ρ=fn [a,b,c,d]:=by
 unfold fA;rw[zO e1 (zO e2 (zO e3 (zO e4 rfl)))];rfl
theorem ifF {ft:Rho->Rs Bool}{g:Rho->Out}{ρ:Rho}(e:ft ρ=.ok false):sIf ft g sNx ρ=.nx ρ:=zg9 e
theorem xV {f:Rho->Rs D}{ρ:Rho}{b:Bool}(e:f ρ=.ok (.bl b)):bT f ρ=.ok b:=by unfold bT;rw[e];rfl
theorem qu {f:Rho->Rs Bool}{ρ:Rho}{b:Bool}(e:f ρ=.ok b):zbR f ρ=.ok (!b):=by unfold zbR;rw[e];rfl
theorem zoI {f g:Rho->Rs Bool}{ρ:Rho}(e:f ρ=.ok false)(e2:g ρ=.ok false):bOr f g ρ=.ok false:=by unfold bOr;rw[e];exact e2
theorem zf2 {i:Nat}{fi:Rho->Rs (List D)}{body rest:Rho->Out}{ρ:Rho}{ds:List D}{o:Out}(I:Rho->Prop)(e:fi ρ=.ok ds)(h:∃ρ',forD i body ds ρ=.nx ρ'/\I ρ')(k:∀ρ',I ρ'->rest ρ'=o):yr (zai (jn i fi body)) rest ρ=o:=by
 obtain⟨ρ',e1,i1⟩:=h
 exact(zG (zaw ((jw e).trans e1))).trans (k ρ' i1)
theorem zcg {fa:Rho->Rs D}{fl fh:Rho->Rs (Option Int)}{ρ:Rho}{a d:D}{l h:Option Int}(e1:fa ρ=.ok a)(e2:fl ρ=.ok l)(e3:fh ρ=.ok h)(e4:slD a l h=some d):fSl fa fl fh ρ=.ok d:=by
 unfold fSl;rw[e1];show(fl ρ).bind _=_;rw[e2];show(fh ρ).bind _=_;rw[e3];show lf (slD a l h)=_;rw[e4];rfl
theorem zmJ {n j:Nat}(h:j<n):ixN n (j:Int)=some j:=by
 unfold ixN
 rw[lB (by omega),lB (by omega)];rfl
theorem ziS {B:List (List Nat)}{j:Nat}(h:j<B.length):atI (sT B) (j:Int)=some (.str (B.getD j [])):=by
 unfold atI
 rw[yq,zmJ h]
 simp[sT,h]
def wQ (n:Nat):Nat:=if n<=1 then 0 else if n<=2 then 1 else if n<=4 then 2 else if n<=8 then 3 else if n<=16 then 4 else 5
theorem zjd:∀n<33,∀b<6,(2 ^ b<n↔b<wQ n):=by decide +kernel
theorem zfH (n:Nat):wQ n<=5:=by unfold wQ;(repeat' split) <;>omega
theorem zi8 {n:Nat}(h:n<=32):∀(j b f:Nat),wQ n - b=j->b<=wQ n->j<f ->
  whD (bT (f2 ltI (fNm 2) (fNm 0))) (yr (xR 1 (f2 uh (fNm 1) (fC (.int 1)))) (xR 2 (f2 zfp (fNm 2) (fC (.int 2))))) f [.fz (.int n),.fz (.int (b:Int)),.fz (.int ((2 ^ b:Nat):Int))]=.nx [.fz (.int n),.fz (.int ((wQ n:Nat):Int)),.fz (.int ((2 ^ wQ n:Nat):Int))]:=by
 intro j
 induction j with
 | zero =>
  intro b f hj hb hf
  have eb:b=wQ n:=by omega
  subst eb
  obtain⟨f,rfl⟩:∃g,f=g+1:=⟨f - 1,by omega⟩
  have hb5:=zfH n
  have et:bT (f2 ltI (fNm 2) (fNm 0)) [.fz (.int n),.fz (.int ((wQ n:Nat):Int)),.fz (.int ((2 ^ wQ n:Nat):Int))]=.ok false:=by
   have:¬2 ^ wQ n<n:=λz=>by have:=(zjd n (by omega) (wQ n) (by omega)).mp z;omega
   refine xV (yV (a:=.int ((2 ^ wQ n:Nat):Int)) (b:=.int (n:Int)) rfl rfl ?_)
   show some (D.bl (decide (((2 ^ wQ n:Nat):Int)<(n:Int))))=_
   rw[lT (by omega)]
  unfold whD
  rw[et]
 | succ j ih =>
  intro b f hj hb hf
  obtain⟨f,rfl⟩:∃g,f=g+1:=⟨f - 1,by omega⟩
  have hb5:=zfH n
  have hlt:2 ^ b<n:=(zjd n (by omega) b (by omega)).mpr (by omega)
  have et:bT (f2 ltI (fNm 2) (fNm 0)) [.fz (.int n),.fz (.int (b:Int)),.fz (.int ((2 ^ b:Nat):Int))]=.ok true:=by
   refine xV (yV (a:=.int ((2 ^ b:Nat):Int)) (b:=.int (n:Int)) rfl rfl ?_)
   show some (D.bl (decide (((2 ^ b:Nat):Int)<(n:Int))))=_
   rw[lS (by omega)]
  have hp:2 ^ (b+1)=2 ^ b*2:=ldo ..
  have es:(yr (xR 1 (f2 uh (fNm 1) (fC (.int 1)))) (xR 2 (f2 zfp (fNm 2) (fC (.int 2))))) [.fz (.int n),.fz (.int (b:Int)),.fz (.int ((2 ^ b:Nat):Int))]=.nx [.fz (.int n),.fz (.int ((b+1:Nat):Int)),.fz (.int ((2 ^ (b+1):Nat):Int))]:=by
   refine(zG (zX (wD rfl rfl))).trans ?_
   refine(zX (zaj (i:=((2 ^ b:Nat):Int)) (j:=2) rfl rfl (qg (by omega)) (qg (by omega)))).trans ?_
   have:((2 ^ b:Nat):Int)*2=((2 ^ (b+1):Nat):Int):=by omega
   rw[this];rfl
  unfold whD
  rw[et]
  show(match (yr (xR 1 (f2 uh (fNm 1) (fC (.int 1)))) (xR 2 (f2 zfp (fNm 2) (fC (.int 2))))) [.fz (.int n),.fz (.int (b:Int)),.fz (.int ((2 ^ b:Nat):Int))] with | .nx ρ'=>_ | .ct ρ'=>_ | .bk ρ'=>_|o=>o)=_
  rw[es]
  exact ih (b+1) f (by omega) (by omega) (by omega)
theorem zgg {n:Nat}(h:n<=32):zag [.int n]=.ok (.int ((wQ n:Nat):Int)):=by
 have hb5:=zfH n
 have:=zi8 h (wQ n) 0 64 rfl (la2 _) (by omega)
 refine yu ?_
 refine(zG (zX (d:=.int 0) rfl)).trans ((zG (zX (d:=.int 1) rfl)).trans ((zG (zaw this)).trans rfl))
def zao (i:Nat):Nat->List Nat
 | 0=>[]
 | k+1=>(48+i / 2 ^ k % 2)::zao i k
theorem zbN (i:Nat):∀b,(zao i b).length=b
 | 0=>rfl
 | b+1=>by show(zao i b).length+1=_;rw[zbN i b]
theorem zfY {i b:Nat}(hi:i<=1000)(hb:b<=1000):qT [.int i,.int b]=.ok (.str (zao i b)):=by
 refine yu ?_
 refine(zG (ρ':=[.fz (.int i),.fz (.int b),.fz (.str []),.no]) (zX (d:=.str []) rfl)).trans ?_
 refine zf2 (λρ=>∃s,ρ=[.fz (.int ((i / 2 ^ b:Nat):Int)),.fz (.int b),.fz (.str (zao i b)),s]) (zcL (ds:=[.int (b:Int)]) rfl (vo (by omega))) ?_ (λρ ⟨s,e⟩=>by subst e;rfl)
 have:=uG (i:=3) (g:=yr (xR 2 (f2 zdc (fO zm3 (zf (f2 zgM (fNm 0) (fC (.int 2))) zE)) (fNm 2))) (xR 0 (f2 zcp (fNm 0) (fC (.int 2))))) (l:=List.range b) (enc:=λ(k:Nat)=>D.int (k:Int)) (ρ:=[.fz (.int i),.fz (.int b),.fz (.str []),.no])
  (λk ρ=>∃s,ρ=[.fz (.int ((i / 2 ^ k:Nat):Int)),.fz (.int b),.fz (.str (zao i k)),s]) ⟨.no,by simp[zao]⟩ (λk c ρ hc ⟨s,e⟩=>by
   subst e
   have hk:k<b:=by have:=(lh.mp hc).1;simpa using this
   have hle:i / 2 ^ k<=i:=Nat.div_le_self _ _
   have e1:f2 zgM (fNm 0) (fC (.int 2)) [.fz (.int ((i / 2 ^ k:Nat):Int)),.fz (.int b),.fz (.str (zao i k)),.fz (.int (c:Int))]=.ok (.int (((i / 2 ^ k % 2:Nat)):Int)):=by
    refine(jq (i:=((i / 2 ^ k:Nat):Int)) (j:=2) rfl rfl (by decide)).trans ?_
    have:(((i / 2 ^ k:Nat):Int)) % 2=((i / 2 ^ k % 2:Nat):Int):=by omega
    rw[this]
   have hm2:i / 2 ^ k % 2<2:=Nat.mod_lt _ (by decide)
   have e2:zm3 [.int (((i / 2 ^ k % 2:Nat)):Int)]=some (.str [48+i / 2 ^ k % 2]):=by
    dsimp only [zm3]
    rw[lB (by omega)];rfl
   have e3:f2 zcp (fNm 0) (fC (.int 2)) [.fz (.int ((i / 2 ^ k:Nat):Int)),.fz (.int b),.fz (.str (zao i (k+1))),.fz (.int (c:Int))]=.ok (.int ((i / 2 ^ (k+1):Nat):Int)):=by
    refine(jR (i:=((i / 2 ^ k:Nat):Int)) (j:=2) rfl rfl (by decide) (qg (by omega))).trans ?_
    have h1:i / 2 ^ (k+1)=i / 2 ^ k / 2:=by rw[ldo,Nat.div_div_eq_div_mul]
    have:(((i / 2 ^ k:Nat):Int)) / 2=((i / 2 ^ k / 2:Nat):Int):=by omega
    rw[h1,this]
   refine⟨_,(zG (ρ':=[.fz (.int ((i / 2 ^ k:Nat):Int)),.fz (.int b),.fz (.str (zao i (k+1))),.fz (.int (c:Int))]) (zX (d:=.str (zao i (k+1))) (yV (a:=.str [48+i / 2 ^ k % 2]) (b:=.str (zao i k)) (zbG (zO e1 rfl) e2) rfl (zdT (by rw[zbN];show 1+k<=_;omega))))).trans (zX e3),.fz (.int (c:Int)),rfl⟩)
 rw[laf] at this
 exact this
def W (n:Nat):List (List Nat):=(List.range n).map λi=>zao i (wQ n)
theorem zic (n:Nat):(W n).length=n:=by simp[W]
theorem zqG {n:Nat}{w:List Nat}(h:w∈W n):w.length=wQ n:=by
 obtain⟨i,_,rfl⟩:=lbh.mp h
 exact zbN i _
theorem zfE {B:List (List Nat)}(h:B.length<=32):zan [.tup (sT B)]=.ok (.lst (sT (W B.length))):=by
 have hb5:=zfH B.length
 have el:fO ul (zf (fNm 0) zE) [.fz (.tup (sT B)),.no]=.ok (.int (B.length:Int)):=by
  show Rs.ok (D.int ((sT B).length:Int))=_;rw[yq]
 refine yu ((zG (ρ':=[.fz (.tup (sT B)),.fz (.int ((wQ B.length:Nat):Int))]) (zX ((fA1 el).trans (zgg h)))).trans (vI ?_))
 have el2:fO ul (zf (fNm 0) zE) [.fz (.tup (sT B)),.fz (.int ((wQ B.length:Nat):Int))]=.ok (.int (B.length:Int)):=by
  show Rs.ok (D.int ((sT B).length:Int))=_;rw[yq]
 refine qK (zcL (zO el2 rfl) (vo (by omega))) (by rw[ly,laf];omega) ?_
 have:=xO (fe:=fA (ari 2 qT) (zf (fNm 0) (zf (fNm 1) zE))) (ρ0:=[.no,.fz (.int ((wQ B.length:Nat):Int))]) (l:=List.range B.length) (enc:=λ(k:Nat)=>D.int (k:Int)) (λi=>.str (zao i (wQ B.length))) λi hi=>(fA2 (a:=.int (i:Int)) (b:=.int ((wQ B.length:Nat):Int)) rfl rfl).trans (zfY (by have:=la5.mp hi;omega) (by omega))
 unfold sT W
 rw[lap]
 exact this
def wd (B:List (List Nat))(p:List Nat):List Nat:=(W B.length).getD (B.idxOf p) []
theorem zn2 {B:List (List Nat)}{p:List Nat}(h:p∈B):wd B p∈W B.length:=by
 have h1:=laW h
 have h2:B.idxOf p<(W B.length).length:=by rw[zic];exact h1
 unfold wd
 rw[lr,lg h2]
 exact laI h2
theorem zkH {ds:List (List Nat×D)}{k:List Nat}{v:D}(h:∀kv∈ds,kv.1≠k):putD ds k v=ds++[(k,v)]:=by
 unfold putD
 rw[lW]
 intro z
 obtain⟨kv,hm,e⟩:=lce.mp z
 exact h kv hm (lbJ e)
theorem zmB {ks:List (List Nat)}{ds:List D}(s:ks.Pairwise (· < ·))(hl:ks.length=ds.length):zmT ks ds=ks.zip ds:=by
 have key:∀n,n<=ks.length->(List.range n).foldl (λm j=>putD m (ks.getD j []) (ds.getD j .non)) []=(ks.zip ds).take n:=by
  intro n
  induction n with
  | zero=>intro _;rfl
  | succ n ih =>
   intro hn
   have h1:n<ks.length:=by omega
   have h2:n<ds.length:=by omega
   have h3:n<(ks.zip ds).length:=by rw[lcS];omega
   rw[lbY,lb2,ih (by omega)]
   show putD ((ks.zip ds).take n) (ks.getD n []) (ds.getD n .non)=_
   have e1:ks.getD n []=ks[n]:=by rw[lr,lg h1];rfl
   have e2:ds.getD n .non=ds[n]:=by rw[lr,lg h2];rfl
   rw[e1,e2,zkH,lbk,lg h3,List.getElem_zip];rfl
   intro kv hkv z
   obtain⟨i,hi,e⟩:=lcK.mp hkv
   rw[lO] at hi
   rw[List.getElem_take,List.getElem_zip] at e
   subst e
   have:=lcb.mp s i n (by omega) h1 (by omega)
   dsimp only at z
   rw[z] at this
   exact lca _ this
 unfold zmT
 rw[← hl,Nat.min_self,key _ (lp _),lat (by rw[lcS];omega)]
theorem zg0:∀(ks:List (List Nat)) (ds:List D) {k:List Nat},k∈ks->ks.length=ds.length->zhb (ks.zip ds) k=ds[ks.idxOf k]?
 | [],_,_,h,_=>by simp at h
 | _::_,[],_,_,h=>by simp at h
 | a :: ks,d::ds,k,h,hl=>by
  by_cases e:a=k
  ·subst e
   simp[zhb]
  ·have hk:k∈ks:=by
    rcases lz.mp h with z|z
    ·exact absurd z.symm e
    ·exact z
   have ih:=zg0 ks ds hk (by simpa using hl)
   have e2:(a::ks).idxOf k=ks.idxOf k+1:=by rw[List.idxOf_cons,lbl.mpr e];rfl
   rw[e2]
   show _=ds[ks.idxOf k]?
   rw[← ih]
   simp[zhb,e]
theorem zje {B:List (List Nat)}(s:B.Pairwise (· < ·))(hl:B.length<=32):ziK (.tup (sT B)) (.lst (sT (W B.length)))=some (.dct (B.zip (sT (W B.length)))):=by
 have:ziK (.tup (sT B)) (.lst (sT (W B.length)))=if (sT B).all isS=true/\(sT B).length<=1000 then some (.dct (zmT ((sT B).map unS) (sT (W B.length)))) else none:=rfl
 rw[this,lB ⟨zbl B,by rw[yq];omega⟩,za0,zmB s (by rw[yq,zic])]
theorem zkM {B:List (List Nat)}{p:List Nat}(h:p∈B):getD (.dct (B.zip (sT (W B.length)))) (.str p)=some (.str (wd B p)):=by
 have h1:=laW h
 have h2:B.idxOf p<(W B.length).length:=by rw[zic];exact h1
 show zhb _ p=_
 rw[zg0 _ _ h (by rw[yq,zic])]
 unfold sT wd
 rw[lR,lr,lg h2];rfl
theorem zgA {B:List (List Nat)}{cs:List (List Nat)}(h:∀p∈cs,p∈B):(cs.map (wd B)).flatten.length=wQ B.length*cs.length:=by
 induction cs with
 | nil=>rfl
 | cons p cs ih =>
  rw[lC,laB,lw,ih λq hq=>h q (.tail _ hq),zqG (zn2 (h p (.head _))),lF,Nat.mul_succ]
  omega
theorem zhD {B:List (List Nat)}(h32:B.length<=32)(s:B.Pairwise (· < ·)){l:List Nat}(hl:l.length<=1000):jg [.tup (sT B),.str l]=.ok (.tup [.str ((yI B l).1.map (wd B)).flatten,.str (yI B l).2]):=by
 obtain⟨_,hin,_⟩:=zaR B l
 have hlen:=(jU B l).1
 have hb5:=zfH B.length
 have ec:=zeG (ps:=B) hl
 generalize yI B l=cf at *
 obtain⟨cs,left⟩:=cf
 dsimp only at hin hlen ec ⊢
 refine yu ((zG (ρ':=[.fz (.tup (sT B)),.fz (.str l),.fz (.tup [.lst (sT cs),.str left]),.no]) (zX ((fA2 (a:=.tup (sT B)) (b:=.str l) rfl rfl).trans ec))).trans ?_)
 refine(zG (ρ':=[.fz (.tup (sT B)),.fz (.str l),.fz (.tup [.lst (sT cs),.str left]),.fz (.dct (B.zip (sT (W B.length))))]) (zX (yV (a:=.tup (sT B)) (b:=.lst (sT (W B.length))) rfl ((fA1 (a:=.tup (sT B)) rfl).trans (zfE h32)) (zje s h32)))).trans (vI ?_)
 have e1:=xO (fe:=f2 getD (fNm 1) (fNm 0)) (ρ0:=[.no,.fz (.dct (B.zip (sT (W B.length))))]) (l:=cs) (enc:=D.str) (λp=>.str (wd B p)) λp hpc=>yV (a:=.dct (B.zip (sT (W B.length)))) (b:=.str p) rfl rfl (zkM (hin p hpc))
 have hfl:=zgA hin
 have hcl:wQ B.length*cs.length<=5*1000:=lc3 hb5 (by omega)
 refine zbG (ds:=[.str (cs.map (wd B)).flatten,.str left]) (zO (zga (a:=.str []) (b:=.lst (sT (cs.map (wd B)))) rfl rfl (qK (ds:=cs.map .str) rfl (by rw[ly];omega) ?_) ?_) rfl) rfl
 ·have:sT (cs.map (wd B))=cs.map λp=>.str (wd B p):=by unfold sT;rw[lap];rfl
  rw[this];exact e1
 ·dsimp only [qQ]
  rw[za0,lB ⟨zbl _,by omega⟩]
theorem zg2 {i:Int}{B:Nat}(h0:0<=i)(h:i<2 ^ B)(hB:B<=4000):Sm i:=by
 unfold Sm
 have h1:i<(2:Int) ^ 4000:=Int.lt_of_lt_of_le h (by
  have:=lcL (n:=2) (by decide) hB
  exact_mod_cast this)
 have h2:(i.natAbs:Int)<(2:Int) ^ 4000:=by rw[Int.natAbs_of_nonneg h0];exact h1
 exact_mod_cast h2
theorem zlW (neg:Bool)(i j:Int):eqD neg (.int i) (.int j)=some (.bl (if neg then !decide (i=j) else decide (i=j))):=by
 unfold eqD
 rw[lB ⟨rfl,rfl,by show(PyData.int _).depth<=60;simp[PyData.depth]⟩]
 have:PyData.eqv (D.int i).py (D.int j).py=decide (i=j):=by
  show(i == j)=_
  by_cases h:i=j <;>simp[h]
 rw[this]
def qF (ws:List Int)(a:Int):Int×Int:=low a (ws.sum ^ 9)
theorem getD_some {B:List (List Nat)}{j:Nat}(hj:j<B.length):B[j]? = some (B.getD j []):=by
 rw[lr,lg hj];rfl
section
variable {ws:List Int}(h:znC ws)
include h
end
end Pg
namespace My
theorem zaG {q p:List Nat}(h:q <+: p)(hn:q≠p):q <+: p.dropLast:=by
 rcases List.eq_nil_or_concat p with rfl|⟨l,c,rfl⟩
 ·exact absurd (lbp.mp h) hn
 ·rw[List.concat_eq_append] at h hn ⊢
  rw[lcM]
  rcases las.mp h with e|e
  ·exact absurd e hn
  ·exact e
theorem zi3 {p:List Nat}(h:p≠[]):p.dropLast≠p:=λe=>by
 have:=lbd List.length e
 have:=la4.mpr h
 rw[lbA] at *
 omega
theorem Inner.pre {B:List (List Nat)}{x y:List Nat}(h:Inner B y)(p:x <+: y):Inner B x:=by
 obtain⟨q,hq,hy,hn⟩:=h
 refine⟨q,hq,p.trans hy,λe=>hn ?_⟩
 subst e
 exact hy.eq_of_length (ldm hy.length_le p.length_le)
theorem Book.inner_not {m:Nat}{B:List (List Nat)}(h:Book m B){x y:List Nat}(hx:Inner B x)(hy:y <+: x):y∉B:=λhyB=>h.free hx y hy (h.ne y hyB) hyB
theorem Book.mem_iff {m:Nat}{B:List (List Nat)}(h:Book m B){p:List Nat}:p∈B↔p≠[]/\LetOk m p/\Inner B p.dropLast/\¬Inner B p:=by
 constructor
 ·intro hp
  exact⟨h.ne p hp,h.let_ p hp,⟨p,hp,lbc p,zi3 (h.ne p hp)⟩,λhi=>h.inner_not hi (la1 p) hp⟩
 ·rintro ⟨hn,hl,hi,hni⟩
  obtain⟨q,hq,e|e⟩:=h.cv p hl
  ·by_cases eq:q=p
   ·exact eq▸hq
   ·exact absurd hq (h.inner_not hi (zaG e eq))
  ·by_cases eq:p=q
   ·exact eq▸hq
   ·exact absurd ⟨q,hq,e,eq⟩ hni
theorem Book.ext {m:Nat}{B C:List (List Nat)}(h:Book m B)(k:Book m C)(e:∀x,Inner B x↔Inner C x):B=C:=by
 have p:B.Perm C:=(List.perm_ext_iff_of_nodup h.nd k.nd).mpr λp=>by rw[h.mem_iff,k.mem_iff,e,e]
 exact List.Perm.eq_of_pairwise (λ_ _ _ _ h k=>ldd h k) h.srt k.srt p
structure Clo (m:Nat)(P:List Nat->Prop):Prop where
 nil:P []
 let_:∀x,P x->LetOk m x
 pre:∀x y,x <+: y->P y->P x
 bd:∃N,∀x,P x->x.length<N
theorem Book.clo {m:Nat}{B:List (List Nat)}(h:Book m B):Clo m (Inner B) where
 nil:=h.nilInner
 let_:=λx hx=>h.innerLet hx
 pre:=λx y p hy=>hy.pre p
 bd := by
  have:∃N,∀p∈B,p.length<=N:=by
   clear h
   induction B with
   | nil=>exact⟨0,by simp⟩
   | cons q B ih =>
    obtain⟨N,hN⟩:=ih
    refine⟨max N q.length,λp hp=>?_⟩
    rcases lz.mp hp with rfl|hp
    ·exact Nat.le_max_right _ _
    ·exact lX (hN p hp) (Nat.le_max_left _ _)
  obtain⟨N,hN⟩:=this
  refine⟨N+1,λx znY=>?_⟩
  obtain⟨p,hp,hx,_⟩:=znY
  have:=hN p hp
  have:=hx.length_le
  omega
theorem Book.of {m:Nat}(m2:2<=m)(m4:m<=4){P:List Nat->Prop}(c:Clo m P){L:List (List Nat)}(s:L.Pairwise (·<=·))(n:L.Nodup)(hm:∀p,p∈L↔p≠[]/\LetOk m p/\P p.dropLast/\¬P p):Book m L/\∀x,Inner L x↔P x:=by
 have h97:97∈abcd.take m:=vM m4 (by omega)
 obtain⟨N,hN⟩:=c.bd
 have up:∀(k:Nat) (x:List Nat),P x->N<=x.length+k->∃q∈L,x <+: q/\x≠q:=by
  intro k
  induction k with
  | zero=>intro x hx hk;have:=hN x hx;omega
  | succ k ih =>
   intro x hx hk
   by_cases hy:P (x++[97])
   ·obtain⟨q,hq,h1,h2⟩:=ih (x++[97]) hy (by simp;omega)
    refine⟨q,hq,(laO _ _).trans h1,λe=>?_⟩
    have:=h1.length_le
    rw[← e,lw,laF] at this
    omega
   ·refine⟨x++[97],(hm _).mpr ⟨by simp,(c.let_ x hx).app (LetOk.one h97),?_,hy⟩,laO _ _,λe=>zdp x 97 e.symm⟩
    rw[lcM];exact hx
 have down:∀(k:Nat) (x:List Nat),x.length<=k->LetOk m x->¬P x->∃q∈L,q <+: x:=by
  intro k
  induction k with
  | zero =>
   intro x hk _ hx
   have:x=[]:=lbf.mp (by omega)
   subst this
   exact absurd c.nil hx
  | succ k ih =>
   intro x hk hl hx
   have hne:x≠[]:=λe=>hx (e▸c.nil)
   by_cases hd:P x.dropLast
   ·exact⟨x,(hm x).mpr ⟨hne,hl,hd,hx⟩,la1 x⟩
   ·obtain⟨q,hq,e⟩:=ih x.dropLast (by rw[lbA];omega) (hl.pre (lbc x)) hd
    exact⟨q,hq,e.trans (lbc x)⟩
 have inn:∀x,Inner L x↔P x:=λx=>by
  constructor
  ·rintro⟨p,hp,h1,h2⟩
   exact c.pre _ _ (zaG h1 h2) ((hm p).mp hp).2.2.1
  ·intro hx
   obtain⟨q,hq,h1,h2⟩:=up N x hx (by omega)
   exact⟨q,hq,h1,h2⟩
 refine⟨⟨m2,m4,λp hp=>((hm p).mp hp).2.1,λp hp=>((hm p).mp hp).1,λp hp q hq h=>?_,λx hx=>?_,s,n⟩,inn⟩
 ·by_cases e:p=q
  ·exact e
  ·exact absurd (c.pre _ _ (zaG h e) ((hm q).mp hq).2.2.1) ((hm p).mp hp).2.2.2
 ·by_cases hP:P x
  ·obtain⟨q,hq,h1,_⟩:=up N x hP (by omega)
   exact⟨q,hq,.inr h1⟩
  ·obtain⟨q,hq,h1⟩:=down x.length x (lp _) hx hP
   exact⟨q,hq,.inl h1⟩
def Head (m:Nat)(B:List (List Nat))(x:List Nat):Prop:=x≠[]/\∀k∈kids m x,k∈B
def zdR (B:List (List Nat))(x:List Nat):List (List Nat):=sortF (B.filter (λp=>!x.isPrefixOf p)++[x])
theorem Head.inner {m:Nat}{B:List (List Nat)}(h:Book m B){x:List Nat}(hx:Head m B x):Inner B x:=by
 have h97:97∈abcd.take m:=vM h.m4 (by have:=h.m2;omega)
 exact⟨x++[97],hx.2 _ (kids_mem.mpr ⟨97,h97,rfl⟩),laO _ _,λe=>zdp x 97 e.symm⟩
theorem Head.top {m:Nat}{B:List (List Nat)}(h:Book m B){x y:List Nat}(hx:Head m B x)(hy:Inner B y)(p:x <+: y):y=x:=by
 obtain⟨r,rfl⟩:=p
 cases r with
 | nil=>simp
 | cons c r =>
  have hc:=h.innerLet hy c (by simp)
  exact absurd (hx.2 _ (kids_mem.mpr ⟨c,vM h.m4 hc,rfl⟩)) (h.inner_not hy ⟨r,by simp⟩)
theorem Book.join {m:Nat}{B:List (List Nat)}(h:Book m B){x:List Nat}(hx:Head m B x):Book m (zdR B x)/\∀y,Inner (zdR B x) y↔Inner B y/\y≠x:=by
 have hi:=hx.inner h
 have hxB:x∉B:=h.inner_not hi (la1 x)
 refine Book.of h.m2 h.m4 (P:=λy=>Inner B y/\y≠x) ⟨⟨h.nilInner,λe=>hx.1 e.symm⟩,λy hy=>h.innerLet hy.1,λy z p hz=>⟨hz.1.pre p,λe=>hz.2 (hx.top h hz.1 (e▸p))⟩,?_⟩ (zcB _) ?_ λp=>?_
 ·obtain⟨N,hN⟩:=h.clo.bd
  exact⟨N,λy hy=>hN y hy.1⟩
 ·refine(vP _).nodup_iff.mpr (lb1.mpr ⟨h.nd.filter _,by simp,λa ha b hb e=>?_⟩)
  rw[lI.mp hb] at e
  subst e
  exact hxB (laP.mp ha).1
 ·unfold zdR
  rw[sortF_mem,lam,laP,lI]
  have nb:(!x.isPrefixOf p)=true↔¬x <+: p:=by rw[lb3,← Bool.not_eq_true,lH]
  rw[nb]
  constructor
  ·rintro (⟨hp,hnp⟩|rfl)
   ·obtain⟨a,b,c,d⟩:=h.mem_iff.mp hp
    exact⟨a,b,⟨c,λe=>hnp (e▸lbc p)⟩,λe=>d e.1⟩
   ·exact⟨hx.1,h.innerLet hi,⟨hi.pre (lbc _),zi3 hx.1⟩,λe=>e.2 rfl⟩
  ·rintro ⟨a,b,⟨c,c'⟩,d⟩
   by_cases e:p=x
   ·exact .inr e
   ·have hp:p∈B:=h.mem_iff.mpr ⟨a,b,c,λz=>d ⟨z,e⟩⟩
    exact .inl ⟨hp,λz=>c' (hx.top h c (zaG z λz'=>e z'.symm))⟩
theorem Book.partAt {m:Nat}{B:List (List Nat)}(h:Book m B){p:List Nat}(hp:p∈B):Book m (My.part m B (B.idxOf p))/\∀x,Inner (My.part m B (B.idxOf p)) x↔Inner B x∨x=p:=by
 have hj:B.idxOf p<B.length:=la8.mpr hp
 refine⟨h.part hj,λx=>?_⟩
 rw[zbX h.m2 h.m4 h hj]
 have:B.getD (B.idxOf p) []=p:=by rw[lr,lg hj];exact lcs hj
 rw[this]
theorem Book.head_mem {m:Nat}{B:List (List Nat)}(h:Book m B){x:List Nat}(hx:Head m B x):x∈zdR B x:=by
 unfold zdR;rw[sortF_mem];simp
theorem Book.join_part {m:Nat}{B:List (List Nat)}(h:Book m B){x:List Nat}(hx:Head m B x):My.part m (zdR B x) ((zdR B x).idxOf x)=B:=by
 obtain⟨hb,hi⟩:=h.join hx
 obtain⟨kb,ki⟩:=hb.partAt (h.head_mem hx)
 refine kb.ext h λy=>?_
 rw[ki,hi]
 constructor
 ·rintro(⟨a,_⟩|rfl)
  ·exact a
  ·exact hx.inner h
 ·intro a
  by_cases e:y=x
  ·exact .inr e
  ·exact .inl ⟨a,e⟩
theorem zhc {m:Nat}(m2:2<=m)(m4:m<=4)(x:List Nat):Inner (kids m []) x↔x=[]:=by
 constructor
 ·rintro⟨p,hp,hx,hn⟩
  obtain⟨c,_,rfl⟩:=kids_mem.mp hp
  rcases las.mp hx with e|e
  ·exact absurd e hn
  ·exact lbp.mp e
 ·rintro rfl
  exact(Book.letters m2 m4).nilInner
theorem longest (L:List (List Nat))(P:List Nat->Prop) [DecidablePred P](h:∃x∈L,P x):∃x∈L,P x/\∀y∈L,P y->y.length<=x.length:=by
 induction L with
 | nil=>obtain⟨x,hx,_⟩:=h;cases hx
 | cons a L ih =>
  by_cases hL:∃x∈L,P x
  ·obtain ⟨x,hx,px,mx⟩:=ih hL
   by_cases ha:P a/\x.length<=a.length
   ·refine⟨a,.head _,ha.1,λy hy py=>?_⟩
    rcases lz.mp hy with rfl|hy
    ·exact lp _
    ·exact lX (mx y hy py) ha.2
   ·refine ⟨x,.tail _ hx,px,λy hy py=>?_⟩
    rcases lz.mp hy with rfl|hy
    ·have:¬x.length<=y.length:=λz=>ha ⟨py,z⟩
     omega
    ·exact mx y hy py
  ·obtain ⟨x,hx,px⟩:=h
   rcases lz.mp hx with rfl|hx
   ·refine⟨x,.head _,px,λy hy py=>?_⟩
    rcases lz.mp hy with rfl|hy
    ·exact lp _
    ·exact absurd ⟨y,hy,py⟩ hL
   ·exact absurd ⟨x,hx,px⟩ hL
theorem Book.hasHead {m:Nat}{B:List (List Nat)}(h:Book m B)(hx:∃x,Inner B x/\x≠[]):∃x,Head m B x:=by
 obtain⟨x0,h0,h1⟩:=hx
 obtain⟨x,hxk,hxn,hmax⟩:=longest (yj B) (λx=>x≠[]) ⟨x0,innerKeys_mem.mpr h0,h1⟩
 refine⟨x,hxn,λk hk=>?_⟩
 obtain⟨c,hc,rfl⟩:=kids_mem.mp hk
 rcases h.step (innerKeys_mem.mp hxk) hc with⟨a,_⟩|⟨_,a⟩
 ·have:=hmax _ (innerKeys_mem.mpr a) (by simp)
  rw[lw,laF] at this
  omega
 ·exact a
theorem ziE {m:Nat}{B:List (List Nat)}(h:Book m B){x:List Nat}(hx:Head m B x):(yj (zdR B x)).length+1<=(yj B).length:=by
 obtain⟨hb,hi⟩:=h.join hx
 have:(x::yj (zdR B x)).length<=(yj B).length:=by
  refine List.Nodup.length_le_of_subset (lbD.mpr ⟨λz=>((hi x).mp (innerKeys_mem.mp z)).2 rfl,uI _⟩) λy hy=>?_
  rcases lz.mp hy with rfl|hy
  ·exact innerKeys_mem.mpr (hx.inner h)
  ·exact innerKeys_mem.mpr ((hi y).mp (innerKeys_mem.mp hy)).1
 simpa using this
theorem Book.gr {m:Nat}:∀(n:Nat) {B:List (List Nat)},Book m B->(yj B).length<=n->∃t,Gr m t B:=by
 intro n
 induction n with
 | zero =>
  intro B h hn
  have:[]∈yj B:=innerKeys_mem.mpr h.nilInner
  rw[lbf.mp (Nat.le_zero.mp hn)] at this
  cases this
 | succ n ih =>
  intro B h hn
  by_cases hx:∃x,Inner B x/\x≠[]
  ·obtain⟨x,hx⟩:=h.hasHead hx
   obtain⟨t,g⟩:=ih (h.join hx).1 (by have:=ziE h hx;omega)
   refine⟨t+1,?_⟩
   have:=Gr.s g (la8.mpr (h.head_mem hx))
   rwa [h.join_part hx] at this
  ·refine ⟨0,?_⟩
   have e:B=kids m []:=h.ext (Book.letters h.m2 h.m4) λx=>by
    rw[zhc h.m2 h.m4]
    constructor
    ·intro hi
     by_cases e:x=[]
     ·exact e
     ·exact absurd ⟨x,hi,e⟩ hx
    ·rintro rfl;exact h.nilInner
   rw[e];exact Gr.z
theorem Book.grAt {m:Nat}{B:List (List Nat)}(h:Book m B):∃t,Gr m t B/\(yj B).length=t+1/\B.length=m+t*(m - 1):=by
 obtain⟨t,g⟩:=Book.gr _ h (lp _)
 exact⟨t,g,g.keysEq h.m2 h.m4,g.len h.m2 h.m4⟩
theorem zeu:∀{ps:List (List Nat)},rising ps=true->ps.Pairwise (· < ·)
 | [],_=>.nil
 | [a],_=>List.pairwise_singleton _ _
 | a::b::l,h=>by
  have h':decide (a<b)=true/\rising (b::l)=true:=by
   unfold rising at h ⊢
   simpa using h
  have ih:=zeu h'.2
  refine lbw.mpr ⟨λx hx=>?_,ih⟩
  rcases lz.mp hx with rfl|hx
  ·exact lbJ h'.1
  ·exact List.lt_trans (lbJ h'.1) ((lbw.mp ih).1 x hx)
theorem ziw:∀(p:List Nat) (c:Nat) (r:List Nat),p<p++c::r
 | [],c,r=>List.nil_lt_cons c r
 | a::p,c,r=>lbx.mpr (.inr ⟨rfl,ziw p c r⟩)
theorem zpR {ps:List (List Nat)}(s:ps.Pairwise (· < ·))(h:wI ps=none):∀p∈ps,∀q∈ps,p <+: q->p=q:=by
 intro p hp q hq e
 obtain⟨r,rfl⟩:=e
 cases r with
 | nil=>simp
 | cons c r =>
  exfalso
  obtain⟨z,hz,h1,h2⟩:=ziH s hp hq (ziw p c r)
  have e:=zcz p z (c::r) (ldx h1) h2
  have:=lbS.mp h _ hz
  exact this (lH.mpr e)
theorem znF {m:Nat}(m4:m<=4){ps:List (List Nat)}:∀(n:Nat) (xs:List (List Nat)),fta m ps n xs=none->∀x∈xs,∀r:List Nat,LetOk m r->r≠[]->(∀s,s <+: r->s≠r->s≠[]->isInner ps (x++s)=true)->r.length<=n->yD ps (x++r)=false:=by
 intro n
 induction n with
 | zero=>intro xs _ x _ r _ hr _ hl;exact absurd (lbf.mp (Nat.le_zero.mp hl)) hr
 | succ n ih =>
  intro xs h x hx r hl hr hs hlen
  unfold fta at h
  rw[lW (λe=>by rw[e] at hx;cases hx)] at h
  cases r with
  | nil=>exact absurd rfl hr
  | cons c r =>
   have hy:x++[c]∈zM m xs:=zfe hx (vM m4 (hl c (.head _)))
   split at h
   ·cases h
   ·rename_i hf
    have ha:yD ps (x++[c])=false:=by
     have:=lbS.mp hf _ hy
     simpa using this
    cases r with
    | nil=>exact ha
    | cons d r =>
     have hi:isInner ps (x++[c])=true:=hs [c] ⟨d::r,rfl⟩ (by simp) (by simp)
     have:=ih _ h (x++[c]) (laP.mpr ⟨hy,hi⟩) (d::r) (λz hz=>hl z (.tail _ hz)) (by simp) (λs hs1 hs2 hs3=>by
      have:=hs (c::s) (List.cons_prefix_cons.mpr ⟨rfl,hs1⟩) (λe=>hs2 (List.cons.inj e).2) (by simp)
      rw[laL];exact this) (by simp only[lF] at hlen ⊢;omega)
     rw[laL] at this
     exact this
theorem zg6 {m:Nat}(m4:m<=4){ps:List (List Nat)}(h8:∀p∈ps,p.length<=9)(hne:ps≠[])(hn:∀p∈ps,p≠[])(h:wM m ps=none):∀x,LetOk m x->∃p∈ps,p <+: x∨x <+: p:=by
 intro x hx
 have key:∀k,k<=x.length->Inner ps (x.take k)∨∃p∈ps,p <+: x:=by
  intro k
  induction k with
  | zero =>
   intro _
   obtain⟨p,hp⟩:=List.exists_mem_of_ne_nil ps hne
   exact .inl ⟨p,hp,by rw[lds];exact lcr,λe=>hn p hp (by rw[← e,lds])⟩
  | succ k ih =>
   intro hk
   rcases ih (by omega) with hi|hr
   ·by_cases hy:Inner ps (x.take (k+1))
    ·exact .inl hy
    ·refine .inr ?_
     have l8:=zcm (inner_iff.mpr hi) h8
     rw[lO,lbZ (by omega)] at l8
     have ha:yD ps ([]++x.take (k+1))=false:=by
      refine znF m4 10 [[]] h [] (by simp) _ (hx.pre (lbM _ _)) (λe=>?_) (λs s1 s2 s3=>?_) (by rw[lO];omega)
      ·have:=lbd List.length e
       rw[lO,lbZ hk] at this
       simp at this
      ·rw [lao]
       have p1:=zaG s1 s2
       have e1:(x.take (k+1)).dropLast=x.take k:=by
        rw[List.dropLast_eq_take,lO,lbZ hk,List.take_take]
        congr 1
        omega
       rw[e1] at p1
       exact inner_iff.mpr (hi.pre p1)
     rw[lao] at ha
     have hx2:∃p∈ps,x.take (k+1) <+: p∨p <+: x.take (k+1):=by
      by_cases hc:∃p∈ps,x.take (k+1) <+: p∨p <+: x.take (k+1)
      ·exact hc
      ·have:=apart_iff.mpr (λp hp=>⟨λz=>hc ⟨p,hp,.inl z⟩,λz=>hc ⟨p,hp,.inr z⟩⟩)
       rw[ha] at this
       cases this
     obtain⟨p,hp,e|e⟩:=hx2
     ·by_cases e2:x.take (k+1)=p
      ·exact⟨p,hp,e2▸lbM _ _⟩
      ·exact absurd ⟨p,hp,e,e2⟩ hy
     ·exact⟨p,hp,e.trans (lbM _ _)⟩
   ·exact .inr hr
 rcases key x.length (lp _) with hi|⟨p,hp,e⟩
 ·obtain⟨p,hp,e,_⟩:=hi
  rw[lat (lp _)] at e
  exact⟨p,hp,.inr e⟩
 ·exact⟨p,hp,.inl e⟩
theorem zfy {m:Nat}{ps:List (List Nat)}(hp:Pg.Pcs m ps)(h:isBook m ps=true):Book m ps:=by
 obtain⟨m2,m4,hne,hl,hq⟩:=hp
 unfold isBook at h
 rw[lQ,lQ,Option.isNone_iff_eq_none,Option.isNone_iff_eq_none] at h
 have s:=zeu h.1.1
 exact⟨m2,m4,λp hp=>(hq p hp).1,λp hp=>(hq p hp).2.1,zpR s h.1.2,zg6 m4 (λp hp=>(hq p hp).2.2) hne (λp hp=>(hq p hp).2.1) h.2,s.imp ldx,s.imp λh e=>by rw[e] at h;exact lca _ h⟩
end My
namespace Pg
open PySem L2 My
theorem cA1 {fn:List D->Rs D}{f:Rho->Rs D}{ρ:Rho}{a:D}{r:Rs D}(e1:f ρ=.ok a)(e:fn [a]=r):fA (ari 1 fn) (zf f zE) ρ=r:=(fA1 e1).trans e
theorem cA2 {fn:List D->Rs D}{f g:Rho->Rs D}{ρ:Rho}{a b:D}{r:Rs D}(e1:f ρ=.ok a)(e2:g ρ=.ok b)(e:fn [a,b]=r):fA (ari 2 fn) (zf f (zf g zE)) ρ=r:=(fA2 e1 e2).trans e
theorem cA3 {fn:List D->Rs D}{f g h:Rho->Rs D}{ρ:Rho}{a b c:D}{r:Rs D}(e1:f ρ=.ok a)(e2:g ρ=.ok b)(e3:h ρ=.ok c)(e:fn [a,b,c]=r):fA (ari 3 fn) (zf f (zf g (zf h zE))) ρ=r:=(fA3 e1 e2 e3).trans e
theorem cA4 {fn:List D->Rs D}{f g h i:Rho->Rs D}{ρ:Rho}{a b c d:D}{r:Rs D}(e1:f ρ=.ok a)(e2:g ρ=.ok b)(e3:h ρ=.ok c)(e4:i ρ=.ok d)(e:fn [a,b,c,d]=r):fA (ari 4 fn) (zf f (zf g (zf h (zf i zE)))) ρ=r:=(fA4 e1 e2 e3 e4).trans e
theorem znD {g:D->D->Option (List D)}{fa fb:Rho->Rs D}{ρ:Rho}{a b:D}{d:List D}(e1:fa ρ=.ok a)(e2:fb ρ=.ok b)(e3:g a b=some d):fL2 g fa fb ρ=.ok d:=by unfold fL2;rw[e1];show(fb ρ).bind _=_;rw[e2];show lf' (g a b)=_;rw[e3];rfl
structure Bb (m:Nat)(B:List (List Nat)):Prop where
 pcs:Pcs m B
 bk:Book m B
theorem Bb.isB {m:Nat}{B:List (List Nat)}(h:Bb m B):isBook m B=true:=h.bk.isBook
theorem Bb.l32 {m:Nat}{B:List (List Nat)}(h:Bb m B):B.length<=32:=h.pcs.2.2.2.1
theorem znc {m:Nat}{B:List (List Nat)}(h:Book m B){n:Nat}(hn:(yj B).length<=n)(h10:n<=10)(h8:∀p∈B,p.length<=9):Bb m B/\B.length<=1+n*3:=by
 obtain⟨t,g,e1,e2⟩:=h.grAt
 have m2:=h.m2
 have m4:=h.m4
 have:t*(m - 1)<=t*3:=Nat.mul_le_mul_left t (by omega)
 have hl:B.length<=1+n*3:=by omega
 refine⟨⟨⟨m2,m4,λz=>?_,by omega,λp hp=>⟨h.let_ p hp,h.ne p hp,h8 p hp⟩⟩,h⟩,hl⟩
 rw[z] at e2
 simp at e2
 omega
theorem zhM {fa fb:Rho->Rs Bool}{ρ:Rho}{a b:Bool}(e1:fa ρ=.ok a)(e2:fb ρ=.ok b):zea fa fb ρ=.ok (a&&b):=by
 unfold zea;rw[e1];show(if a=true then fb ρ else .ok false)=_
 cases a
 ·rfl
 ·exact e2
theorem zjx {g:D->Option (List D)}{f:Rho->Rs D}{ρ:Rho}{a:D}{ds:List D}(e1:f ρ=.ok a)(e2:g a=some ds):fI g f ρ=.ok ds:=by
 unfold fI;rw[e1];show(match g a with|some ds=>Rs.ok ds|none=>.no)=_;rw[e2]
theorem zqQ {x y:List (List Nat)}(h:x=y):eqD true (.lst (sT x)) (.lst (sT y))=some (.bl false):=by rw[qZ,lS h];rfl
theorem zhI {ft:Rho->Rs Bool}{fa fb:Rho->Rs D}{ρ:Rho}{r:Rs D}(e:ft ρ=.ok true)(e2:fa ρ=r):fIf ft fa fb ρ=r:=by unfold fIf;rw[e];exact e2
theorem zhN {ft:Rho->Rs Bool}{fa fb:Rho->Rs D}{ρ:Rho}{r:Rs D}(e:ft ρ=.ok false)(e2:fb ρ=r):fIf ft fa fb ρ=r:=by unfold fIf;rw[e];exact e2
theorem zh2 {f g:Rho->Rs Bool}{ρ:Rho}(e:f ρ=.ok false):zea f g ρ=.ok false:=by unfold zea;rw[e];rfl
structure Kc (m n:Nat)(B:List (List Nat)):Prop where
 bk:Book m B
 ks:(yj B).length<=n
 l7:∀p∈B,p.length<=n
section
variable {m n:Nat}{B C S:List (List Nat)}
theorem Kc.bb (h:Kc m n B)(h8:n<=7):Bb m B:=(znc h.bk h.ks (by omega) λp hp=>by have:=h.l7 p hp;omega).1
theorem Kc.len (h:Kc m n B)(h8:n<=7):B.length<=1+n*3:=(znc h.bk h.ks (by omega) λp hp=>by have:=h.l7 p hp;omega).2
theorem Kc.of_gr (m2:2<=m)(m4:m<=4){t:Nat}(g:My.Gr m t B)(ht:t+1<=n):Kc m n B :=
 ⟨g.book m2 m4,by have:=g.keys m2 m4;omega,λp hp=>by have:=g.short m2 m4 p hp;omega⟩
theorem Kc.part (h:Kc m n B){p:List Nat}(hp:p∈B):Kc m (n+1) (My.part m B (B.idxOf p)):=by
 obtain⟨b1,b2⟩:=h.bk.partAt hp
 refine⟨b1,?_,λq hq=>?_⟩
 ·have:(yj (My.part m B (B.idxOf p))).length<=(p::yj B).length:=(uI _).length_le_of_subset λx hx=>by
   rcases(b2 x).mp (innerKeys_mem.mp hx) with z|z
   ·exact .tail _ (innerKeys_mem.mpr z)
   ·exact z▸.head _
  have:=h.ks
  simp only[lF] at *
  omega
 ·rcases (part_mem h.bk.nd (la8.mpr hp)).mp hq with z|z
  ·have:=h.l7 q z.1
   omega
  ·obtain ⟨c,_,rfl⟩:=kids_mem.mp z
   have e:B.getD (B.idxOf p) []=p:=by
    rw[lr,lg (la8.mpr hp)]
    exact lcs (la8.mpr hp)
   rw[e]
   have:=h.l7 p hp
   simp
   omega
end
theorem zdZ {f g:Rho->Rs D}{ρ:Rho}(e1:f ρ=.ok (.bl false)):zaW f g ρ=.ok (.bl false):=by unfold zaW;rw[e1];rfl
theorem zn3 {f g:Rho->Rs D}{ρ:Rho}{b:Bool}(e1:f ρ=.ok (.bl true))(e2:g ρ=.ok (.bl b)):zaW f g ρ=.ok (.bl b):=by unfold zaW;rw[e1];exact e2
theorem zpD {f g:Rho->Rs Bool}{ρ:Rho}{b:Bool}(e1:f ρ=.ok false)(e2:g ρ=.ok b):bOr f g ρ=.ok b:=by unfold bOr;rw[e1];exact e2
theorem zoy {g:D->Option D}{fa:Rho->Rs D}{ρ:Rho}{a d:D}(e1:fa ρ=.ok a)(e2:g a=some d):f1 g fa ρ=.ok d:=by unfold f1;rw[e1];show lf (g a)=_;rw[e2];rfl
theorem zhB {g g':D->D->Option D}{fa fb fc:Rho->Rs D}{ρ:Rho}{a b c d:D}(ea:fa ρ=.ok a)(eb:fb ρ=.ok b)(ec:fc ρ=.ok c)(h1:g a b=some (.bl true))(h2:g' b c=some d):fCh g g' fa fb fc ρ=.ok d:=by
 unfold fCh
 rw[ea];show(fb ρ).bind _=_;rw[eb];show(lf (g a b)).bind _=_;rw[h1];show(fc ρ).bind _=_;rw[ec];show lf (g' b c)=_;rw[h2];rfl
section
variable {m:Nat}
theorem zh5 {m:Nat}(m2:2<=m)(m4:m<=4){d:D}(h:d.pl=true)(ht:isTup d.py=false):yM [.int m,d]=.ok (.bl false):=by
 have e0:zR [.int (m:Int)]=.ok (.bl true):=by rw[jx,lS (by omega),lS (by omega)];rfl
 exact yu (zba ((zdD (zpD (qu (b:=true) (xV (cA1 rfl e0))) (qu (b:=false) (xV (zoy (a:=d) rfl (by unfold zcP;rw[lB h,ht])))))).trans rfl))
theorem zke {m:Nat}(m2:2<=m)(m4:m<=4){ds:List D}(hp:D.pls ds=true)(hl:ds.length=0∨32<ds.length):yM [.int m,.tup ds]=.ok (.bl false):=by
 have e0:zR [.int (m:Int)]=.ok (.bl true):=by rw[jx,lS (by omega),lS (by omega)];rfl
 have hp':(D.tup ds).pl=true:=hp
 refine yu ((zG (ifF (zoI (qu (b:=true) (xV (cA1 rfl e0))) (qu (b:=true) (xV (zoy (a:=.tup ds) rfl (by unfold zcP;rw[lB hp'];rfl))))))).trans (zba ((zdD (qu (b:=false) (xV ?_))).trans rfl)))
 rcases hl with hl|hl
 ·have:ds=[]:=lbf.mp hl
  subst this;rfl
 ·refine zhB (a:=.int 1) (b:=.int (ds.length:Int)) (c:=.int 32) rfl (zbG (ds:=[.tup ds]) rfl rfl) rfl (by show some (D.bl (decide ((1:Int)<=(ds.length:Int))))=_;rw[lS (by omega)]) (by show some (D.bl (decide ((ds.length:Int)<=32)))=_;rw[lT (by omega)])
end
theorem znd {l m:List D}(h:l.length+m.length<=1000000):zjb (.lst l) (.lst m)=some (l++m):=lB h
theorem zen {a th:D}(h:yx [a,th]=.ok (.bl false)):wN [a,th]=.ex 1 :=
 zf6 ((zdD (qu (b:=false) (xV (cA2 (a:=a) (b:=th) rfl rfl h)))).trans rfl)
theorem zd8 {a d:D}(h:yM [a,d]=.ok (.bl false)):yx [a,d]=.ok (.bl false):=yu (vI (zdZ (cA2 rfl rfl h)))
end Pg
set_option maxHeartbeats 4000000
namespace Pg
open PySem L2 My PyProof.Rows
mutual
theorem zgW:∀d:D,PyData.eqv d.py d.py=true
 | .non=>rfl
 | .bl b=>by cases b <;>rfl
 | .int i=>by show decide (i=i)=true;exact lS rfl
 | .str l=>(zf8 l l).trans (lS rfl)
 | .lst xs=>zb5 xs
 | .tup xs=>zb5 xs
 | .dct _=>rfl
 | .exc _=>rfl
theorem zb5:∀xs:List D,PyData.eqvAll (D.pys xs) (D.pys xs)=true
 | []=>rfl
 | d::ds=>by
  show(PyData.eqv d.py d.py&&PyData.eqvAll (D.pys ds) (D.pys ds))=true
  rw[zgW d,zb5 ds];rfl
end
theorem zfM {n:Nat}:∀{xs:List D},(∀d∈xs,d.py.depth<=n)->PyData.depthAll (D.pys xs)<=n
 | [],_=>la2 _
 | d::ds,h=>by
  show max (PyData.depth d.py) (PyData.depthAll (D.pys ds))<=n
  exact Nat.max_le.mpr ⟨h d lY,zfM λe he=>h e (lK _ he)⟩
theorem zdo (neg:Bool){d:D}(h:d.pl=true)(hd:d.py.depth<=60):eqD neg d d=some (.bl (!neg)):=by
 unfold eqD
 rw[lB ⟨h,h,hd⟩,zgW d]
 cases neg <;>rfl
theorem zmn {n:Nat}{xs:List D}(h:∀d∈xs,d.py.depth<=n):(D.lst xs).py.depth<=n+1:=by
 show PyData.depthAll (D.pys xs)+1<=n+1
 have:=zfM h
 omega
theorem zfS {n:Nat}{xs:List D}(h:∀d∈xs,d.py.depth<=n):(D.tup xs).py.depth<=n+1:=by
 show PyData.depthAll (D.pys xs)+1<=n+1
 have:=zfM h
 omega
end Pg
set_option maxHeartbeats 1000000
namespace L2
open PySem PySem.Spec PyProof.Rows
inductive Fl where
 | dt (d:D)|ls (ds:List D)
abbrev Ob:=List Fl
structure Kd where
 C:Addr
 nm:List Str
 N:List Nat
structure Pt (kd:Kd) where
 a:Addr
 dx:Addr
 ad:Nat->Addr
def Pt.cell {kd:Kd}(p:Pt kd)(b:Addr):Prop:=b=p.a∨∃i∈kd.N,b=p.ad i
def FlR (K:PySem.W.Frag)(cl:Nat->Addr){kd:Kd}(F H:Hp)(p:Pt kd)(i:Nat)(v:V):Fl->Prop
 | .dt d=>Dt K cl F v d
 | .ls ds=>i∈kd.N/\v=.ref (p.ad i)/\F (p.ad i)=none/\∃us,H (p.ad i)=some (.lst us)/\Dts K cl F us ds
structure Sto (K:PySem.W.Frag)(cl:Nat->Addr){kd:Kd}(F H:Hp)(p:Pt kd)(S:Ob):Prop where
 fs:∃vs:List V,H p.a=some (.ins kd.C p.dx (kd.nm.zip vs))/\vs.length=S.length/\∀(i:Nat) fl,S[i]? = some fl->∃v,vs[i]? = some v/\FlR K cl F H p i v fl
 fa:F p.a=none
 nl:kd.nm.length=S.length
 lt:∀i∈kd.N,∃ds,S[i]? = some (.ls ds)
 inj:∀i∈kd.N,∀j∈kd.N,p.ad i=p.ad j->i=j
structure GrS {kd:Kd}(p:Pt kd)(F H F' H':Hp):Prop where
 ff:Same F F'
 hh:∀b o,H b=some o->¬p.cell b->H' b=some o
 fh:Same F' H'
 no:∀b o,H b=some o->o.mu=true->F b=none->F' b=none
 mm:∀b o,p.cell b->H b=some o->o.mu=true->∃o',H' b=some o'/\o'.mu=true
section
variable {K:PySem.W.Frag}{cl:Nat->Addr}{F F' H H':Hp}{kd:Kd}{p:Pt kd}{S:Ob}
theorem Gr.grS (g:Gr F H F' H'):GrS p F H F' H':=⟨g.ff,λb o e _=>g.hh b o e,g.fh,g.no,λb o _ e m=>⟨o,g.hh b o e,m⟩⟩
theorem GrS.trans {F1 H1 F2 H2 F3 H3:Hp}(a:GrS p F1 H1 F2 H2)(b:GrS p F2 H2 F3 H3):GrS p F1 H1 F3 H3 where
 ff:=a.ff.trans b.ff
 hh:=λc o e n=>b.hh c o (a.hh c o e n) n
 fh:=b.fh
 no := λc o e m q=>by
  by_cases hc:p.cell c
  ·obtain⟨o',e',m'⟩:=a.mm c o hc e m
   exact b.no c o' e' m' (a.no c o e m q)
  ·exact b.no c o (a.hh c o e hc) m (a.no c o e m q)
 mm:=λc o hc e m=>by
  obtain⟨o',e',m'⟩:=a.mm c o hc e m
  exact b.mm c o' hc e' m'
theorem Sto.grow (s:Sto K cl F H p S)(g:Gr F H F' H'):Sto K cl F' H' p S:=by
 obtain⟨vs,e,l,k⟩:=s.fs
 refine⟨⟨vs,g.hh _ _ e,l,λi fl h=>?_⟩,g.no _ _ e rfl s.fa,s.nl,s.lt,s.inj⟩
 obtain⟨v,hv,r⟩:=k i fl h
 refine⟨v,hv,?_⟩
 cases fl with
 | dt d=>exact Dt.mono r g.ff
 | ls ds =>
  obtain⟨h1,h2,h3,us,h4,h5⟩:=r
  exact⟨h1,h2,g.no _ _ h4 rfl h3,us,g.hh _ _ h4,h5.mono g.ff⟩
theorem Rl.here {H0 F0:Hp}{ρ:Rho}{σ:St}(R:Rl K cl H0 F0 ρ σ H F):Rl K cl F F ρ σ H F where
 gr:=⟨Same.refl _,R.fh,R.fh,λ_ _ _ _ q=>q⟩
 len:=R.len
 fz:=R.fz
 ow:=λi d e=>let ⟨a,vs,h1,h2,h3,h4,h5⟩:=R.ow i d e;⟨a,vs,h1,h2,h3,h3,h5⟩
 od:=λi d e=>let ⟨a,vs,h1,h2,h3,h4,h5⟩:=R.od i d e;⟨a,vs,h1,h2,h3,h3,h5⟩
 ap:=R.ap
structure RS (K:PySem.W.Frag)(cl:Nat->Addr){kd:Kd}(p:Pt kd)(q:Nat)(ρ:Rho)(σ:St)(H F:Hp):Prop where
 rl:Rl K cl F F ρ σ H F
 at_:σ[q]? = some (some (.ref p.a))
 no:ρ[q]? = some .no
 ap:∀(i:Nat) s b,ρ[i]? = some s->s.own=true->σ[i]? = some (some (.ref b))->¬p.cell b
theorem RS.fh {q:Nat}{ρ:Rho}{σ:St}(R:RS K cl p q ρ σ H F):Same F H:=R.rl.fh
theorem RS.grow {q:Nat}{ρ:Rho}{σ:St}(R:RS K cl p q ρ σ H F)(g:GrS p F H F' H'):RS K cl p q ρ σ H' F' where
 rl := {
  gr:=⟨Same.refl _,g.fh,g.fh,λ_ _ _ _ q=>q⟩
  len:=R.rl.len
  fz:=λi d e=>let ⟨v,h1,h2⟩:=R.rl.fz i d e;⟨v,h1,h2.mono g.ff⟩
  ow:=λi d e=>by
   obtain⟨a,vs,h1,h2,h3,h4,h5⟩:=R.rl.ow i d e
   have n:=g.no _ _ h2 rfl h3
   exact⟨a,vs,h1,g.hh _ _ h2 (R.ap i _ a e rfl h1),n,n,h5.mono g.ff⟩
  od:=λi d e=>by
   obtain⟨a,vs,h1,h2,h3,h4,h5⟩:=R.rl.od i d e
   have n:=g.no _ _ h2 rfl h3
   exact⟨a,vs,h1,g.hh _ _ h2 (R.ap i _ a e rfl h1),n,n,h5.mono g.ff⟩
  ap:=R.rl.ap}
 at_:=R.at_
 no:=R.no
 ap:=R.ap
theorem GrS.refl (h:Same F H):GrS p F H F H:=(Gr.refl h).grS
end
abbrev Ro (α:Type):=Option (α×Ob)
def OG {α β:Type}(W:Hp->β->α->Prop)(K:PySem.W.Frag)(cl:Nat->Addr){kd:Kd}(p:Pt kd)(F H:Hp)(r:Ro α)(Q:β->Hp->Prop):Prop :=
 match r with
 | some (d,S)=>∀v H' F',GrS p F H F' H'->Sto K cl F' H' p S->W F' v d->Q v H'
 | none=>False
abbrev OE2 (K:PySem.W.Frag)(cl:Nat->Addr){kd:Kd}(p:Pt kd)(F H:Hp)(r:Ro D)(Q:VK):Prop:=OG (Dt K cl) K cl p F H r Q
abbrev OA2 (K:PySem.W.Frag)(cl:Nat->Addr){kd:Kd}(p:Pt kd)(F H:Hp)(r:Ro (List D))(Q:List V->Hp->Prop):Prop:=OG (Dts K cl) K cl p F H r Q
abbrev OB2 (K:PySem.W.Frag)(cl:Nat->Addr){kd:Kd}(p:Pt kd)(F H:Hp)(r:Ro Bool)(Q:Bool->Hp->Prop):Prop:=OG (λ_ (v b:Bool)=>v=b) K cl p F H r Q
def tE2 (K:PySem.W.Frag)(cl:Nat->Addr)(kd:Kd)(q:Nat)(f:Rho->Ob->Ro D):TE:=λσ H Q=>∃(p:Pt kd) (ρ:Rho) (F:Hp) (S:Ob),RS K cl p q ρ σ H F/\Sto K cl F H p S/\OE2 K cl p F H (f ρ S) Q
def tA2 (K:PySem.W.Frag)(cl:Nat->Addr)(kd:Kd)(q:Nat)(f:Rho->Ob->Ro (List D)):TA:=λσ H Q=>∃(p:Pt kd) (ρ:Rho) (F:Hp) (S:Ob),RS K cl p q ρ σ H F/\Sto K cl F H p S/\OA2 K cl p F H (f ρ S) Q
def tB2 (K:PySem.W.Frag)(cl:Nat->Addr)(kd:Kd)(q:Nat)(f:Rho->Ob->Ro Bool):TT:=λσ H Q=>∃(p:Pt kd) (ρ:Rho) (F:Hp) (S:Ob),RS K cl p q ρ σ H F/\Sto K cl F H p S/\OB2 K cl p F H (f ρ S) Q
def XE2 (X:Cx)(cl:Nat->Addr)(kd:Kd)(q:Nat)(e:Expr)(f:Rho->Ob->Ro D):Prop:=PE X e (tE2 X.K cl kd q f)
def XA2 (X:Cx)(cl:Nat->Addr)(kd:Kd)(q:Nat)(es:List Expr)(f:Rho->Ob->Ro (List D)):Prop:=PA X es (tA2 X.K cl kd q f)
def XT2 (X:Cx)(cl:Nat->Addr)(kd:Kd)(q:Nat)(e:Expr)(f:Rho->Ob->Ro Bool):Prop:=PT X e (tB2 X.K cl kd q f)
def XW2 (X:Cx)(cl:Nat->Addr)(kd:Kd)(q:Nat)(e:Expr)(f:Rho->Ob->Ro Bool):Prop:=PW X e (tB2 X.K cl kd q f)
def up {α:Type}(f:Rho->Rs α):Rho->Ob->Ro α:=λρ S=>match f ρ with | .ok a=>some (a,S)|_=>none
def b2 {α β:Type}(f:Rho->Ob->Ro α)(g:α->Rho->Ob->Ro β):Rho->Ob->Ro β:=λρ S=>match f ρ S with|some (a,S')=>g a ρ S'|none=>none
section
variable {X:Cx}{cl:Nat->Addr}{E:XK}{kd:Kd}{q:Nat}
theorem zY {e:Expr}{f:Rho->Rs D}(h:XE X cl E e f):XE2 X cl kd q e (up f):=by
 intro pins s σ H Q I ⟨p,ρ,F,S,R,st,o⟩
 refine h pins s σ H Q I ⟨F,F,ρ,F,R.rl,?_⟩
 unfold up at o
 cases e:f ρ with
 | ok d=>rw[e] at o;exact λv H' F' g q=>o v H' F' g.grS (st.grow g) q
 | ex n=>rw[e] at o;exact o.elim
 | no=>rw[e] at o;exact o.elim
theorem zg5 {es:List Expr}{f:Rho->Rs (List D)}(h:XA X cl E es f):XA2 X cl kd q es (up f):=by
 intro pos pins s σ H Q I ⟨p,ρ,F,S,R,st,o⟩
 refine h pos pins s σ H Q I ⟨F,F,ρ,F,R.rl,?_⟩
 unfold up at o
 cases e:f ρ with
 | ok d=>rw[e] at o;exact λv H' F' g q=>o v H' F' g.grS (st.grow g) q
 | ex n=>rw[e] at o;exact o.elim
 | no=>rw[e] at o;exact o.elim
theorem zh4 {e:Expr}{f:Rho->Rs Bool}(h:XT X cl E e f):XT2 X cl kd q e (up f):=by
 intro pins s σ H Q I ⟨p,ρ,F,S,R,st,o⟩
 refine h pins s σ H Q I ⟨F,F,ρ,F,R.rl,?_⟩
 unfold up at o
 cases e:f ρ with
 | ok d=>rw[e] at o;exact λH' F' g=>o _ H' F' g.grS (st.grow g) rfl
 | ex n=>rw[e] at o;exact o.elim
 | no=>rw[e] at o;exact o.elim
end
section
variable {K:PySem.W.Frag}{cl:Nat->Addr}{kd:Kd}{p:Pt kd}{F H:Hp}{ρ:Rho}{S:Ob}
theorem OG.bd {α β α' β':Type}{W:Hp->β->α->Prop}{W':Hp->β'->α'->Prop}{f:Rho->Ob->Ro α}{k:α->Rho->Ob->Ro α'}{Q:β'->Hp->Prop}{P:β->Hp->Prop}(h:OG W' K cl p F H (b2 f k ρ S) Q)
  (kk:∀a v H1 F1 S1,GrS p F H F1 H1->Sto K cl F1 H1 p S1->W F1 v a->OG W' K cl p F1 H1 (k a ρ S1) Q->P v H1):OG W K cl p F H (f ρ S) P:=by
 unfold b2 at h
 cases e:f ρ S with
 | none=>rw[e] at h;exact h
 | some a =>
  obtain⟨a,S1⟩:=a
  rw[e] at h
  exact λv H1 F1 g st w=>kk a v H1 F1 S1 g st w (by
   have h':OG W' K cl p F H (k a ρ S1) Q:=h
   show OG W' K cl p F1 H1 (k a ρ S1) Q
   cases e2:k a ρ S1 with
   | none=>rw[e2] at h';exact h'
   | some r =>
    obtain⟨r,S2⟩:=r
    rw[e2] at h'
    exact λv' H2 F2 g2 st2 w2=>h' v' H2 F2 (g.trans g2) st2 w2)
theorem OG.here {α β:Type}{W:Hp->β->α->Prop}{d:α}{v:β}{Q:β->Hp->Prop}(h:OG W K cl p F H (some (d,S)) Q)(fh:Same F H)(st:Sto K cl F H p S)(w:W F v d):Q v H:=h v H F (GrS.refl fh) st w
theorem OG.end_ {α β:Type}{W:Hp->β->α->Prop}{o:Option α}{Q:β->Hp->Prop}(h:OG W K cl p F H (o.map λd=>(d,S)) Q)(st:Sto K cl F H p S):∃d,o=some d/\∀v H' F',Gr F H F' H'->W F' v d->Q v H':=by
 cases o with
 | none=>exact h.elim
 | some d=>exact⟨d,rfl,λv H' F' g w=>h v H' F' g.grS (st.grow g) w⟩
end
def e1 (g:D->Option D)(fa:Rho->Ob->Ro D):Rho->Ob->Ro D:=b2 fa λa _ S=>(g a).map λd=>(d,S)
def e2 (g:D->D->Option D)(fa fb:Rho->Ob->Ro D):Rho->Ob->Ro D:=b2 fa λa=>b2 fb λb _ S=>(g a b).map λd=>(d,S)
def eO (g:List D->Option D)(fs:Rho->Ob->Ro (List D)):Rho->Ob->Ro D:=b2 fs λas _ S=>(g as).map λd=>(d,S)
def rsO:Rs D->Option D
 | .ok d=>some d
 | _=>none
def eA (g:List D->Rs D)(fs:Rho->Ob->Ro (List D)):Rho->Ob->Ro D:=b2 fs λas _ S=>(rsO (g as)).map λd=>(d,S)
def cN:Rho->Ob->Ro (List D):=λ_ S=>some ([],S)
def cC (fa:Rho->Ob->Ro D)(fs:Rho->Ob->Ro (List D)):Rho->Ob->Ro (List D):=b2 fa λa=>b2 fs λas _ S=>some (a::as,S)
def zp5:D->Option Bool
 | .bl b=>some b
 | _=>none
def bB (fa:Rho->Ob->Ro D):Rho->Ob->Ro Bool:=b2 fa λa _ S=>(zp5 a).map λb=>(b,S)
def bO2 (ft fu:Rho->Ob->Ro Bool):Rho->Ob->Ro Bool:=b2 ft λb ρ S=>if b=true then some (true,S) else fu ρ S
section
variable {X:Cx}{cl:Nat->Addr}{kd:Kd}{q:Nat}{a b:Expr}{fa fb:Rho->Ob->Ro D}{pos:Pos}
theorem znZ {op:Operator}{r:R2}{g:D->D->Option D}(ho:OpR X (binaryOp op) r)(hg:Op2 X.K cl r g)(ha:XE2 X cl kd q a fa)(hb:XE2 X cl kd q b fb):XE2 X cl kd q (.BinOp a op b pos) (e2 g fa fb):=by
 intro pins s σ H Q I ⟨p,ρ,F,S,R,st,o⟩
 refine zjL ho ha hb pins s σ H Q I ⟨p,ρ,F,S,R,st,o.bd λd v H1 F1 S1 g1 st1 w1 o1=>?_⟩
 refine⟨p,ρ,F1,S1,R.grow g1,st1,o1.bd λd2 v2 H2 F2 S2 g2 st2 w2 o2=>?_⟩
 obtain⟨z,hz,k⟩:=o2.end_ st2
 exact hg F2 H2 v v2 d d2 z _ g2.fh (Dt.mono w1 g2.ff) w2 hz k
theorem OG.bB {p:Pt kd}{F H:Hp}{ρ:Rho}{S:Ob}{Q:Bool->Hp->Prop}(o:OB2 X.K cl p F H (bB fa ρ S) Q):OE2 X.K cl p F H (fa ρ S) λv H1=>∃k,v=.bl k/\Q k H1:=o.bd λd v H1 F1 S1 g1 st1 w1 o1=>by
 obtain⟨z,hz,k⟩:=o1.end_ st1
 cases w1 <;>simp[zp5] at hz
 subst hz
 exact⟨_,rfl,k _ H1 F1 (Gr.refl g1.fh) rfl⟩
theorem za1 {op:CmpOp}{r:R2}{g:D->D->Option D}(ho:OpR X (compareOp op) r)(hg:Op2 X.K cl r g)(ha:XE2 X cl kd q a fa)(hb:XE2 X cl kd q b fb)(hm:behindInMarks op b=false):XT2 X cl kd q (.Compare a [op] [b] pos) (bB (e2 g fa fb)):=by
 intro pins s σ H Q I ⟨p,ρ,F,S,R,st,o⟩
 refine zit ho ha hb hm pins s σ H Q I ⟨p,ρ,F,S,R,st,(OG.bB o).bd λd v H1 F1 S1 g1 st1 w1 o1=>?_⟩
 refine⟨p,ρ,F1,S1,R.grow g1,st1,o1.bd λd2 v2 H2 F2 S2 g2 st2 w2 o2=>?_⟩
 obtain⟨z,hz,k⟩:=o2.end_ st2
 exact hg F2 H2 v v2 d d2 z _ g2.fh (Dt.mono w1 g2.ff) w2 hz k
theorem zih {ft:Rho->Ob->Ro Bool}(h:XT2 X cl kd q a ft):XW2 X cl kd q (.BoolOp .Or [a] pos) ft:=zlg h
theorem zkZ {rest:List Expr}{ft fu:Rho->Ob->Ro Bool}(h:XT2 X cl kd q a ft)(k:XW2 X cl kd q (.BoolOp .Or (b::rest) pos) fu):XW2 X cl kd q (.BoolOp .Or (a::b::rest) pos) (bO2 ft fu):=by
 intro wh pins s σ H Q I ⟨p,ρ,F,S,R,st,o⟩
 refine zog h k wh pins s σ H Q I ⟨p,ρ,F,S,R,st,o.bd λc v H1 F1 S1 g1 st1 w1 o1=>?_⟩
 subst w1
 cases v with
 | true=>exact o1.here g1.fh st1 rfl
 | false=>exact⟨p,ρ,F1,S1,R.grow g1,st1,o1⟩
theorem XW2.xt {e:Expr}{ft:Rho->Ob->Ro Bool}(h:XW2 X cl kd q e ft):XT2 X cl kd q e ft:=PW.pt h
theorem zco:XA2 X cl kd q [] cN:=by
 intro pos pins s σ H Q I ⟨p,ρ,F,S,R,st,o⟩
 exact vp pos pins s σ H Q I (o.here R.fh st .nil)
theorem vg {es:List Expr}{fs:Rho->Ob->Ro (List D)}(ha:XE2 X cl kd q a fa)(hs:XA2 X cl kd q es fs)(he:starEach (a::es) X.env=(false,eval a X.env)::starEach es X.env):XA2 X cl kd q (a::es) (cC fa fs):=by
 intro pos pins s σ H Q I ⟨p,ρ,F,S,R,st,o⟩
 refine yJ ha hs he pos pins s σ H Q I ⟨p,ρ,F,S,R,st,o.bd λd v H1 F1 S1 g1 st1 w1 o1=>?_⟩
 refine⟨p,ρ,F1,S1,R.grow g1,st1,o1.bd λds vs H2 F2 S2 g2 st2 w2 o2=>?_⟩
 exact o2.here g2.fh st2 (.cons (Dt.mono w1 g2.ff) w2)
theorem zmN {es:List Expr}{x1}{fs:Rho->Ob->Ro (List D)}(h:XA2 X cl kd q es fs):XE2 X cl kd q (.Tuple es x1 pos) (eO mkT fs):=by
 intro pins s σ H Q I ⟨p,ρ,F,S,R,st,o⟩
 refine zlb h pins s σ H Q I ⟨p,ρ,F,S,R,st,o.bd λds vs H1 F1 S1 g1 st1 w1 o1=>?_⟩
 obtain⟨z,hz,k⟩:=o1.end_ st1
 unfold mkT at hz
 split at hz
 ·rename_i hl
  obtain rfl:=lc hz
  have fh:=g1.fh
  exact⟨sz6 (Dts.length w1▸hl),λc hp=>k _ _ _ (Gr.new fh hp) (.tup (.inl (.inl zK)) (Dts.mono w1 (Same.upd (fh.free hp))))⟩
 ·cases hz
theorem zdw {E:XK}{k:Nat}{f:Addr}{fd:FuncData}{ps:List Str}{fn:List D->Rs D}{n:Nat}{x:Str}{p:Pos}{e:Expr}{es:List Expr}{fs:Rho->Ob->Ro (List D)}(G:FnOk X.prog X.w X.K X.mg X.base (CX1 X.prog X.w) k f fd ps (spD X.K cl fn n))(hr:Room k X.A)(hg:Gl X x)(hm:X.mg x=some (.ref f))(hk:PySem.W.keepIn X.K (.ref f)=true)(hb:Binds X.K fd ps [])(hx:uE (CX1 X.prog X.w) X E)
  (ha:XA2 X cl kd q (e::es) fs) (he:starEach (e::es) X.env=(false,eval e X.env)::starEach es X.env) (hdb:(x == ("__debug__" : Str))=false:=by decide) (hpl:(backTo pos (starEach es X.env)).any (·.1)=false:=by rfl):XE2 X cl kd q (.Call (.Name x p) (e::es) [] pos) (eA (ari n fn) fs):=by
 intro pins s σ H Q I ⟨p,ρ,F,S,R,st,o⟩
 refine zbh G hr hg hm hk hb .nil hx ha hdb he hpl pins s σ H Q I ⟨p,ρ,F,S,R,st,o.bd λds vs H1 F1 S1 g1 st1 w1 o1=>?_⟩
 obtain⟨z,hz,k⟩:=o1.end_ st1
 unfold ari at hz
 split at hz
 ·rename_i hl
  rw[lD]
  refine⟨F1,ds,g1.fh,w1,by rw[Dts.length w1,hl],?_⟩
  cases e:fn ds with
  | ok d =>
   rw[e] at hz
   obtain rfl:=lc hz
   exact λv H' F' g' w'=>k v H' F' g' w'
  | ex n=>rw[e] at hz;cases hz
  | no=>rw[e] at hz;cases hz
 ·cases hz
end
theorem zcZ:∀{nm:List Str}{vs:List V}{i:Nat}{f:Str}{v:V},nm.Nodup->nm[i]? = some f->vs[i]? = some v->(nm.zip vs).lookup f=some v
 | [],_,_,_,_,_,h,_=>by simp at h
 | _::_,[],_,_,_,_,_,h=>by simp at h
 | n::nm,w::vs,0,f,v,_,h,h2=>by
  simp at h h2;subst h h2
  rw[lbT,laZ];simp
 | n::nm,w::vs,i+1,f,v,nd,h,h2=>by
  have h':nm[i]? = some f:=by simpa using h
  have h2':vs[i]? = some v:=by simpa using h2
  have ne:¬f=n:=λz=>by subst z;exact(lbD.mp nd).1 (laD h')
  rw[lbT,laZ,show(f == n)=false from by simpa using ne]
  exact zcZ (lbD.mp nd).2 h' h2'
theorem xQ:∀{nm:List Str}{vs:List V}{f:Str},f∉nm->(nm.zip vs).lookup f=none
 | [],_,_,_=>by simp
 | _::_,[],_,_=>by simp
 | n::nm,w::vs,f,h=>by
  have ne:¬f=n:=λz=>h (by simp[z])
  rw[lbT,laZ,show(f == n)=false from by simpa using ne]
  exact xQ λz=>h (lK _ z)
section
variable {K:PySem.W.Frag}{cl:Nat->Addr}{kd:Kd}{p:Pt kd}{F H:Hp}{S:Ob}
theorem Sto.lst (st:Sto K cl F H p S){i:Nat}(hi:i∈kd.N):∃ds us,S[i]? = some (.ls ds)/\H (p.ad i)=some (.lst us)/\Dts K cl F us ds/\F (p.ad i)=none:=by
 obtain⟨ds,e⟩:=st.lt i hi
 obtain⟨vs,_,_,k⟩:=st.fs
 obtain⟨v,_,h1,h2,h3,us,h4,h5⟩:=k i _ e
 exact⟨ds,us,e,h4,h5,h3⟩
theorem Sto.put (st:Sto K cl F H p S)(fh:Same F H){i:Nat}(hi:i∈kd.N){us:List V}{ds:List D}(q:Dts K cl F us ds):Sto K cl F (upd H (p.ad i) (.lst us)) p (S.set i (.ls ds))/\GrS p F H F (upd H (p.ad i) (.lst us)):=by
 obtain⟨vs,e,l,k⟩:=st.fs
 obtain⟨d0,u0,e0,h0,q0,f0⟩:=st.lst hi
 have il:i<S.length:=(lh.mp e0).1
 have na:p.a≠p.ad i:=λz=>by rw[z,h0] at e;cases e
 refine⟨⟨⟨vs,by rw[zF na];exact e,by rw[lcT];exact l,λj fl hj=>?_⟩,st.fa,by rw[lcT];exact st.nl,λj hj=>?_,st.inj⟩,⟨Same.refl _,λb o hb n=>?_,λb o hb=>?_,λ_ _ _ _ z=>z,λb o hc hb m=>?_⟩⟩
 ·rcases get_set hj with⟨rfl,z,_⟩|⟨ne,z⟩
  ·subst z
   obtain⟨v,hv,h1,h2,h3,_⟩:=k i _ e0
   exact⟨v,hv,h1,h2,h3,us,zK,q⟩
  ·obtain ⟨v,hv,r⟩:=k j fl z
   refine⟨v,hv,?_⟩
   cases fl with
   | dt d=>exact r
   | ls ds' =>
    obtain⟨h1,h2,h3,us',h4,h5⟩:=r
    exact⟨h1,h2,h3,us',by rw[zF λz=>ne (st.inj i hi j h1 z.symm)];exact h4,h5⟩
 ·by_cases ne:i=j
  ·subst ne;exact⟨ds,wH il⟩
  ·obtain⟨ds',z⟩:=st.lt j hj
   exact⟨ds',by rw[lq ne];exact z⟩
 ·rw[zF λz=>n (.inr ⟨i,hi,z⟩)];exact hb
 ·rw[zF λz=>by rw[z,f0] at hb;cases hb];exact fh b o hb
 ·by_cases z:b=p.ad i
  ·subst z;exact⟨_,zK,rfl⟩
  ·exact⟨o,by rw[zF z];exact hb,m⟩
theorem Sto.ice (st:Sto K cl F H p S)(fh:Same F H){i:Nat}{ds:List D}(e:S[i]? = some (.ls ds)):∃F1,Same F1 H/\Dt K cl F1 (.ref (p.ad i)) (.lst ds)/\(∀F2 H2,Gr F1 H F2 H2->Gr F H F H2)/\Same F F1:=by
 obtain⟨vs,_,_,k⟩:=st.fs
 obtain⟨v,_,h1,h2,h3,us,h4,h5⟩:=k i _ e
 refine⟨upd F (p.ad i) (.lst us),λb o hb=>?_,.lst (.inl (.inl zK)) (h5.mono (Same.upd h3)),λF2 H2 g=>⟨Same.refl _,g.hh,fh.trans g.hh,λ_ _ _ _ z=>z⟩,Same.upd h3⟩
 by_cases z:b=p.ad i
 ·subst z;rw[zK] at hb;rw[← hb];exact h4
 ·rw[zF z] at hb;exact fh b o hb
end
theorem Dt.anyF {K:PySem.W.Frag}{cl:Nat->Addr}{F F':Hp}{v:V}{d:D}(q:Dt K cl F v d)(h:d.fl=true):Dt K cl F' v d:=by
 cases q with
 | non=>exact .non
 | bl b=>exact .bl b
 | int i=>exact .int i
 | str l ok=>exact .str l ok
 | _=>simp[D.fl] at h
def oD (i:Nat):Rho->Ob->Ro D:=λ_ S=>match S[i]? with|some (.dt d)=>some (d,S)|_=>none
def oL (i:Nat)(g:List D->Option D):Rho->Ob->Ro D:=λ_ S=>match S[i]? with|some (.ls ds)=>(match g ds with|some d=>if d.fl=true then some (d,S) else none|none=>none)|_=>none
def zm5 (i:Nat)(fa:Rho->Ob->Ro D):Rho->Ob->Ro D:=b2 fa λa _ S=>match S[i]? with|some (.ls ds)=>if ds.length<1000000 then some (.non,S.set i (.ls (ds++[a]))) else none|_=>none
def zmj (i:Nat):Rho->Ob->Ro D:=λ_ S=>match S[i]? with|some (.ls ds)=>(match ds[ds.length - 1]? with|some d=>some (d,S.set i (.ls ds.dropLast))|none=>none)|_=>none
def zp6 (i:Nat):Rho->Ob->Ro D:=λ_ S=>some (.non,S.set i (.ls []))
structure At (X:Cx)(kd:Kd)(i:Nat)(o:Expr)(f:Str):Prop where
 c:Cls X.K kd.C
 n:NoAttr X.K kd.C f
 hi:kd.nm[i]? = some f
 nd:kd.nm.Nodup
 base:attributeBase o f X.env (eval o X.env)=eval o X.env
section
variable {X:Cx}{cl:Nat->Addr}{kd:Kd}{q:Nat}{o e:Expr}{f:Str}{i:Nat}{pos apos cpos:Pos}{fa:Rho->Ob->Ro D}
theorem zlp {σ:St}{H F:Hp}{p:Pt kd}{ρ:Rho}{S:Ob}{v:V}{Q:VK}(A:At X kd i o f)(R:RS X.K cl p q ρ σ H F)(st:Sto X.K cl F H p S){vs:List V}(e:H p.a=some (.ins kd.C p.dx (kd.nm.zip vs)))(hv:vs[i]? = some v)(h:Q v H):zp0 X.K (zcH q) f σ H Q :=
 ⟨.ref p.a,R.at_,p.a,kd.C,p.dx,_,v,rfl,e,A.c,A.n,zcZ A.nd A.hi hv,h⟩
theorem zdP (A:At X kd i o f)(ho:PE X o (zcH q)):XE2 X cl kd q (.Attribute o f pos) (oD i):=by
 intro pins s σ H Q I ⟨p,ρ,F,S,R,st,oo⟩
 refine zk6 ho A.base pins s σ H Q I ?_
 unfold oD at oo
 split at oo
 ·rename_i d hd
  obtain⟨vs,e,l,k⟩:=st.fs
  obtain⟨v,hv,r⟩:=k i _ hd
  exact zlp A R st e hv (oo.here R.fh st r)
 ·exact oo.elim
def tL2 (K:PySem.W.Frag)(cl:Nat->Addr)(kd:Kd)(q i:Nat):TE:=λσ H Q=>∃(p:Pt kd) (ρ:Rho) (F:Hp) (S:Ob),RS K cl p q ρ σ H F/\Sto K cl F H p S/\i∈kd.N/\Q (.ref (p.ad i)) H
theorem zf1 (A:At X kd i o f)(ho:PE X o (zcH q)):PE X (.Attribute o f pos) (tL2 X.K cl kd q i):=by
 intro pins s σ H Q I ⟨p,ρ,F,S,R,st,hi,h⟩
 refine zk6 ho A.base pins s σ H Q I ?_
 obtain⟨ds,hd⟩:=st.lt i hi
 obtain⟨vs,e,l,k⟩:=st.fs
 obtain⟨v,hv,h1,rfl,_⟩:=k i _ hd
 exact zlp A R st e hv h
theorem zfT {pos':Pos}(hN:i∈kd.N)(A:At X kd i o f)(ho:PE X o (zcH q))(ha:XE2 X cl kd q e fa)(m:Mth X (.Attribute o f pos') e "append" apos cpos):XE2 X cl kd q (.Call (.Attribute (.Attribute o f pos') "append" apos) [e] [] cpos) (zm5 i fa):=by
 intro pins s σ H Q I ⟨p,ρ,F,S,R,st,oo⟩
 refine zec laM lcj PySem.F.type_list_append zeS (zf1 (cl:=cl) A ho) (yJ ha vp m.hs) m.base m.few m.line m.hs m.plain pins s σ H Q I ?_
 obtain⟨ds,us,e1,h1,q1,f1⟩:=st.lst hN
 refine⟨p,ρ,F,S,R,st,hN,.inl ⟨rfl,us,.inl (.inl h1)⟩,p,ρ,F,S,R,st,oo.bd λa v H1 F1 S1 g1 st1 w1 o1=>?_⟩
 obtain⟨ds1,us1,e2,h2,q2,f2⟩:=st1.lst hN
 have o2:OE2 X.K cl p F1 H1 (match S1[i]? with|some (.ls ds)=>if ds.length<1000000 then some (.non,S1.set i (.ls (ds++[a]))) else none|_=>none) Q:=o1
 simp only[e2] at o2
 split at o2
 ·rename_i hl
  obtain⟨st2,g2⟩:=st1.put g1.fh hN (q2.append (.cons w1 .nil))
  exact⟨p.ad i,us1,v,rfl,rfl,h2,by rw[q2.length,lbm];omega,o2 _ _ F1 g2 st2 .non⟩
 ·exact o2.elim
theorem zfV {pos':Pos}(hN:i∈kd.N)(A:At X kd i o f)(ho:PE X o (zcH q))(hb:attributeBase (.Attribute o f pos') "pop" X.env (eval (.Attribute o f pos') X.env)=eval (.Attribute o f pos') X.env)(hline:(apos.endLine == cpos.line)=true):XE2 X cl kd q (.Call (.Attribute (.Attribute o f pos') "pop" apos) [] [] cpos) (zmj i):=by
 intro pins s σ H Q I ⟨p,ρ,F,S,R,st,oo⟩
 refine zk5 laM PySem.F.slot_list_pop PySem.F.type_list_pop zoF (zf1 (cl:=cl) A ho) hb hline pins s σ H Q I ?_
 obtain⟨ds,us,e1,h1,q1,f1⟩:=st.lst hN
 unfold zmj at oo
 simp only[e1] at oo
 refine⟨p,ρ,F,S,R,st,hN,.inl ⟨rfl,us,.inl (.inl h1)⟩,p.ad i,us,?_⟩
 split at oo
 ·rename_i d hd
  rw[← q1.length] at hd
  obtain⟨y,hy,r⟩:=q1.get' hd
  have qd:Dts X.K cl F us.dropLast ds.dropLast:=by rw[← zaZ,← zaZ,q1.length];exact Dts.erase _ q1
  obtain⟨st2,g2⟩:=st.put R.fh hN qd
  exact⟨y,rfl,rfl,h1,hy,oo _ _ F g2 st2 r⟩
 ·exact oo.elim
theorem zmw {pos':Pos}(hN:i∈kd.N)(A:At X kd i o f)(ho:PE X o (zcH q))(hb:attributeBase (.Attribute o f pos') "clear" X.env (eval (.Attribute o f pos') X.env)=eval (.Attribute o f pos') X.env)(hline:(apos.endLine == cpos.line)=true):XE2 X cl kd q (.Call (.Attribute (.Attribute o f pos') "clear" apos) [] [] cpos) (zp6 i):=by
 intro pins s σ H Q I ⟨p,ρ,F,S,R,st,oo⟩
 refine zk5 laM PySem.F.slot_list_clear PySem.F.type_list_clear zjw (zf1 (cl:=cl) A ho) hb hline pins s σ H Q I ?_
 obtain⟨ds,us,e1,h1,q1,f1⟩:=st.lst hN
 obtain⟨st2,g2⟩:=st.put R.fh hN Dts.nil
 exact⟨p,ρ,F,S,R,st,hN,.inl ⟨rfl,us,.inl (.inl h1)⟩,p.ad i,us,rfl,rfl,h1,oo _ _ F g2 st2 .non⟩
theorem zjn {p:Pt kd}{F H:Hp}{ρ:Rho}{S:Ob}{g:List D->Option D}{Q:VK}(oo:OE2 X.K cl p F H (oL i g ρ S) Q):∃ds d,S[i]? = some (.ls ds)/\g ds=some d/\d.fl=true/\OE2 X.K cl p F H (some (d,S)) Q:=by
 unfold oL at oo
 split at oo
 ·rename_i ds e
  split at oo
  ·rename_i d hd
   split at oo
   ·rename_i hf
    exact⟨ds,d,e,hd,hf,oo⟩
   ·exact oo.elim
  ·exact oo.elim
 ·exact oo.elim
theorem zez {id:String}{r:List V->Hp->VK->Prop}{g:List D->Option D}{x:Str}{p':Pos}{pos':Pos}(hN:i∈kd.N)(A:At X kd i o f)(ho:PE X o (zcH q))(hc:jb X (.builtin id) r)(hF:Fn1 X.K cl r g)(hg:Gl X x)(hm:X.mg x=none)(hv:bootBuiltins x=some (.builtin id))(he:starEach [.Attribute o f pos'] X.env=(false,eval (.Attribute o f pos') X.env)::starEach [] X.env)(hn:x ≠ "__name__" := by decide)(hdb:(x == ("__debug__" : Str))=false:=by decide)(hpl:(backTo pos (starEach [] X.env)).any (·.1)=false:=by rfl) :
  XE2 X cl kd q (.Call (.Name x p') [.Attribute o f pos'] [] pos) (oL i λds=>g [.lst ds]):=by
 intro pins s σ H Q I ⟨p,ρ,F,S,R,st,oo⟩
 obtain⟨ds,d,e1,hd,hf,oo⟩:=zjn oo
 refine zaM hc hg hm hv (yJ (zf1 (cl:=cl) A ho) vp he) hn hdb he hpl pins s σ H Q I ⟨p,ρ,F,S,R,st,hN,?_⟩
 obtain⟨F1,s1,d1,back,_⟩:=st.ice R.fh e1
 refine hF F1 H _ _ d _ s1 (.cons d1 .nil) hd λv H' F' g' w'=>?_
 have gg:=back F' H' g'
 exact oo v H' F gg.grS (st.grow gg) (w'.anyF hf)
theorem zl0 {E:XK}{b:Expr}{j:Int}{pos':Pos}(hN:i∈kd.N)(A:At X kd i o f)(ho:PE X o (zcH q))(hb:XE X cl E b (fC (.int j)))(hs:zbV b):XE2 X cl kd q (.Subscript (.Attribute o f pos') b pos) (oL i λds=>ixD (.lst ds) (.int j)):=by
 intro pins s σ H Q I ⟨p,ρ,F,S,R,st,oo⟩
 obtain⟨ds,d,e1,hd,hf,oo⟩:=zjn oo
 refine zlL zii (zf1 (cl:=cl) A ho) hb hs pins s σ H Q I ⟨p,ρ,F,S,R,st,hN,?_⟩
 obtain⟨F1,s1,d1,back,ff⟩:=st.ice R.fh e1
 refine⟨F,F,ρ,F,R.rl,λw H1 F2 g2 w2=>?_⟩
 have st1:=st.grow g2
 obtain⟨F3,s3,d3,back3,ff3⟩:=st1.ice g2.fh e1
 refine zpM F3 H1 _ w _ _ d _ s3 d3 (w2.mono ff3) hd λv H' F' g' w'=>?_
 have gg:=back3 F' H' g'
 exact oo v H' F2 (g2.trans gg).grS (st1.grow gg) (w'.anyF hf)
theorem ziM {E:XK}{b:Expr}{pos':Pos}(hN:i∈kd.N)(A:At X kd i o f)(ho:PE X o (zcH q))(hb:XE X cl E b (fC (.str [])))(m:Mth X b (.Attribute o f pos') "join" apos cpos):XE2 X cl kd q (.Call (.Attribute b "join" apos) [.Attribute o f pos'] [] cpos) (oL i λds=>qQ (.str []) (.lst ds)):=by
 intro pins s σ H Q I ⟨p,ρ,F,S,R,st,oo⟩
 obtain⟨ds,d,e1,hd,hf,oo⟩:=zjn oo
 refine zec lcy PySem.F.slot_str_join PySem.F.type_str_join zhT hb (yJ (zf1 (cl:=cl) A ho) vp m.hs) m.base m.few m.line m.hs m.plain pins s σ H Q I ⟨F,F,ρ,F,R.rl,λw H1 F2 g2 w2=>?_⟩
 cases w2 with
 | str _ ok =>
  have st1:=st.grow g2
  refine⟨rfl,p,ρ,F2,S,R.grow g2.grS,st1,hN,?_⟩
  obtain⟨F3,s3,d3,back3,ff3⟩:=st1.ice g2.fh e1
  cases d3 with
  | lst sq dq =>
   dsimp only [qQ] at hd
   split at hd
   ·rename_i h
    obtain rfl:=lc hd
    obtain⟨x1,x2,x3⟩:=dq.texts h.1
    rw[x1] at sq
    refine⟨_,ds.map unS,rfl,rfl,s3.seq sq,h.2,oo _ H1 F2 g2.grS st1 (.str _ (jd (λc hc=>?_) h.2))⟩
    obtain⟨y,hy,hc⟩:=List.mem_flatten.mp hc
    have a:(T y).cps.all (· < 0x110000)=true:=(x2 y hy).1
    simp only[T,lcd,lal,lbi] at a
    exact a c hc
   ·cases hd
theorem zkW {a b:Expr}{fb:Rho->Ob->Ro D}(ha:XE2 X cl kd q a fa)(hb:XE2 X cl kd q b fb)(hs:zbV b):XE2 X cl kd q (.Subscript a b pos) (e2 ixD fa fb):=by
 intro pins s σ H Q I ⟨p,ρ,F,S,R,st,o⟩
 refine zlL zii ha hb hs pins s σ H Q I ⟨p,ρ,F,S,R,st,o.bd λd v H1 F1 S1 g1 st1 w1 o1=>?_⟩
 refine⟨p,ρ,F1,S1,R.grow g1,st1,o1.bd λd2 v2 H2 F2 S2 g2 st2 w2 o2=>?_⟩
 obtain⟨z,hz,k⟩:=o2.end_ st2
 exact zpM F2 H2 v v2 d d2 z _ g2.fh (Dt.mono w1 g2.ff) w2 hz k
end
inductive O2 where
 | nx (ρ:Rho) (S:Ob)|rt (d:D) (S:Ob)|no
structure FS (K:PySem.W.Frag)(cl:Nat->Addr){kd:Kd}(p:Pt kd)(q:Nat)(H0 F0:Hp)(ρ:Rho)(S:Ob)(σ:St)(H F:Hp):Prop where
 gr:GrS p F0 H0 F H
 rs:RS K cl p q ρ σ H F
 st:Sto K cl F H p S
 nw:∀(i:Nat) s b,ρ[i]? = some s->s.own=true->σ[i]? = some (some (.ref b))->H0 b=none
section
variable {K:PySem.W.Frag}{cl:Nat->Addr}{kd:Kd}{p:Pt kd}{q:Nat}{H0 F0 H F H1 F1:Hp}{ρ:Rho}{S S1:Ob}{σ:St}
theorem FS.grow (f:FS K cl p q H0 F0 ρ S σ H F)(g:GrS p F H F1 H1)(st:Sto K cl F1 H1 p S1):FS K cl p q H0 F0 ρ S1 σ H1 F1:=⟨f.gr.trans g,f.rs.grow g,st,f.nw⟩
theorem FS.fh (f:FS K cl p q H0 F0 ρ S σ H F):Same F H:=f.gr.fh
theorem Sto.cellH (st:Sto K cl F H p S){b:Addr}(h:p.cell b):∃o,H b=some o/\o.mu=true:=by
 rcases h with rfl|⟨i,hi,rfl⟩
 ·obtain⟨vs,e,_⟩:=st.fs;exact⟨_,e,rfl⟩
 ·obtain⟨ds,us,_,h,_⟩:=st.lst hi;exact⟨_,h,rfl⟩
theorem FS.set (f:FS K cl p q H0 F0 ρ S σ H F){i:Nat}{v:V}{d:D}(ne:i≠q)(h:Dt K cl F v d):FS K cl p q H0 F0 (ρ.set i (.fz d)) S (σ.set i (some v)) H F where
 gr:=f.gr
 st:=f.st
 rs := {
  rl:=f.rs.rl.set h
  at_:=by rw[lq ne];exact f.rs.at_
  no:=by rw[lq ne];exact f.rs.no
  ap:=λj s b z o e=>by
   rcases get_set z with⟨rfl,w,_⟩|⟨hj,w⟩
   ·subst w;cases o
   ·rw[lq hj] at e;exact f.rs.ap j s b w o e}
 nw:=λj s b z o e=>by
  rcases get_set z with⟨rfl,w,_⟩|⟨hj,w⟩
  ·subst w;cases o
  ·rw[lq hj] at e;exact f.nw j s b w o e
theorem FS.setO (f:FS K cl p q H0 F0 ρ S σ H F){i:Nat}{c:Addr}{vs:List V}{ds:List D}(ne:i≠q)(hc:H c=none)(h:Dts K cl F vs ds):FS K cl p q H0 F0 (ρ.set i (.ow ds)) S (σ.set i (some (.ref c))) (upd H c (.lst vs)) F:=by
 have g:Gr F H F (upd H c (.lst vs)):=Gr.newO f.fh hc
 have hn:H0 c=none:=by
  cases e:H0 c with
  | none=>rfl
  | some o =>
   by_cases hcell:p.cell c
   ·obtain⟨o',e',_⟩:=f.st.cellH hcell
    rw[hc] at e';cases e'
   ·rw[f.gr.hh c o e hcell] at hc;cases hc
 have ncell:¬p.cell c:=λz=>by obtain⟨o,e,_⟩:=f.st.cellH z;rw[hc] at e;cases e
 refine⟨f.gr.trans g.grS,⟨(f.rs.rl.setO hc h),?_,?_,λj s b z o e=>?_⟩,f.st.grow g,λj s b z o e=>?_⟩
 ·rw[lq ne];exact f.rs.at_
 ·rw[lq ne];exact f.rs.no
 ·rcases get_set z with⟨rfl,w,hl⟩|⟨hj,w⟩
  ·rw[wH (f.rs.rl.len▸hl)] at e
   injection e with e;injection e with e;injection e with e
   rw[← e];exact ncell
  ·rw[lq hj] at e;exact f.rs.ap j s b w o e
 ·rcases get_set z with⟨rfl,w,hl⟩|⟨hj,w⟩
  ·rw[wH (f.rs.rl.len▸hl)] at e
   injection e with e;injection e with e;injection e with e
   rw[← e];exact hn
  ·rw[lq hj] at e;exact f.nw j s b w o e
end
def OS2 (K:PySem.W.Frag)(cl:Nat->Addr){kd:Kd}(p:Pt kd)(q:Nat)(H0 F0 F:Hp)(o:O2)(Dn:Ends):Prop :=
 match o with
 | .nx ρ S=>∀σ H F',FS K cl p q H0 F0 ρ S σ H F'->Same F F'->Dn.nx σ H
 | .rt d S=>∀v H F',GrS p F0 H0 F' H->Sto K cl F' H p S->Dt K cl F' v d->Dn.rt v H
 | .no=>False
def tS2 (K:PySem.W.Frag)(cl:Nat->Addr)(kd:Kd)(q:Nat)(g:Rho->Ob->O2):TS:=λDn σ H=>∃(p:Pt kd) (H0 F0:Hp) (ρ:Rho) (F:Hp) (S:Ob),FS K cl p q H0 F0 ρ S σ H F/\OS2 K cl p q H0 F0 F (g ρ S) Dn
def XS2 (X:Cx)(cl:Nat->Addr)(kd:Kd)(q:Nat)(st:Stmt)(g:Rho->Ob->O2):Prop:=PS X st (tS2 X.K cl kd q g)
def ziP (X:Cx)(cl:Nat->Addr)(kd:Kd)(q:Nat)(st:List Stmt)(g:Rho->Ob->O2):Prop:=PSs X st (tS2 X.K cl kd q g)
def zNx:Rho->Ob->O2:=.nx
def vJ (g h:Rho->Ob->O2):Rho->Ob->O2:=λρ S=>match g ρ S with | .nx ρ' S'=>h ρ' S'|o=>o
def zfG (f:Rho->Ob->Ro D):Rho->Ob->O2:=λρ S=>match f ρ S with|some (d,S')=>.rt d S'|none=>.no
def zcK (f:Rho->Ob->Ro D):Rho->Ob->O2:=λρ S=>match f ρ S with|some (_,S')=>.nx ρ S'|none=>.no
def jf (i:Nat)(f:Rho->Ob->Ro D):Rho->Ob->O2:=λρ S=>match f ρ S with|some (d,S')=>.nx (ρ.set i (.fz d)) S'|none=>.no
def zIf (ft:Rho->Ob->Ro Bool)(g h:Rho->Ob->O2):Rho->Ob->O2:=λρ S=>match ft ρ S with|some (b,S')=>if b=true then g ρ S' else h ρ S'|none=>.no
def zlt (i:Nat)(g:Rho->Ob->O2):List D->Rho->Ob->O2
 | [],ρ,S=>.nx ρ S
 | d::ds,ρ,S=>match g (ρ.set i (.fz d)) S with | .nx ρ' S'=>zlt i g ds ρ' S'|o=>o
def zoS (i:Nat)(fi:Rho->Rs (List D))(g:Rho->Ob->O2):Rho->Ob->O2:=λρ S=>match fi ρ with | .ok ds=>zlt i g ds ρ S|_=>.no
section
variable {X:Cx}{cl:Nat->Addr}{kd:Kd}{q:Nat}{st:Stmt}{rest:List Stmt}{g h:Rho->Ob->O2}{f:Rho->Ob->Ro D}{e:Expr}{pos:Pos}
theorem OS2.grow {K:PySem.W.Frag}{p:Pt kd}{H0 F0 F F1:Hp}{o:O2}{Dn:Ends}(h:OS2 K cl p q H0 F0 F o Dn)(s:Same F F1):OS2 K cl p q H0 F0 F1 o Dn:=by
 cases o with
 | nx ρ S=>exact λσ H F' R z=>h σ H F' R (s.trans z)
 | rt d S=>exact h
 | no=>exact h
theorem zaz:ziP X cl kd q [] zNx:=by
 intro pins s σ H Dn I ⟨p,H0,F0,ρ,F,S,fs,o⟩
 exact zir pins s σ H Dn I (o σ H F fs (Same.refl _))
theorem yh (h:XS2 X cl kd q st g):ziP X cl kd q [st] g:=zaq h
theorem zH (h1:XS2 X cl kd q st g)(h2:ziP X cl kd q rest h):ziP X cl kd q (st::rest) (vJ g h):=by
 intro pins s σ H Dn I ⟨p,H0,F0,ρ,F,S,fs,o⟩
 refine jG h1 h2 pins s σ H Dn I ⟨p,H0,F0,ρ,F,S,fs,?_⟩
 unfold vJ at o
 cases e:g ρ S with
 | nx ρ' S'=>rw[e] at o;exact λσ' H' F' fs' s'=>⟨p,H0,F0,ρ',F',S',fs',o.grow s'⟩
 | rt d S'=>rw[e] at o;exact o
 | no=>rw[e] at o;exact o
theorem wK (h:XE2 X cl kd q e f):XS2 X cl kd q (.Return (some e) pos) (zfG f):=by
 intro pins s σ H Dn I ⟨p,H0,F0,ρ,F,S,fs,o⟩
 refine zeZ h pins s σ H Dn I ⟨p,ρ,F,S,fs.rs,fs.st,?_⟩
 unfold zfG at o
 cases e:f ρ S with
 | none=>rw[e] at o;exact o
 | some r=>obtain⟨d,S'⟩:=r;rw[e] at o;exact λv H' F' gg st' w=>o v H' F' (fs.gr.trans gg) st' w
theorem jX (h:XE2 X cl kd q e f)(hs:swapsWith e none pos.line X.env=pure false:=by rfl):XS2 X cl kd q (.Expr e pos) (zcK f):=by
 intro pins s σ H Dn I ⟨p,H0,F0,ρ,F,S,fs,o⟩
 refine zdY h hs pins s σ H Dn I ⟨p,ρ,F,S,fs.rs,fs.st,?_⟩
 unfold zcK at o
 cases e:f ρ S with
 | none=>rw[e] at o;exact o
 | some r=>obtain⟨d,S'⟩:=r;rw[e] at o;exact λv H' F' gg st' w=>o σ H' F' (fs.grow gg st') gg.ff
theorem yS {i:Nat}{x:Str}{pos':Pos}(ne:i≠q)(hN:X.N.Nodup)(hi:X.N[i]? = some x)(hx:Loc X.env.scope x)(he:XE2 X cl kd q e f)(hs:swapsWith e (some (.Name x pos')) pos.line X.env=pure false:=by rfl)(hf:X.fn x=true∨X.env.scope.names.lookup x=some .local:=by first|exact .inl rfl|exact .inr rfl|assumption) :
  XS2 X cl kd q (.Assign [.Name x pos'] e pos) (jf i f):=by
 intro pins s σ H Dn I ⟨p,H0,F0,ρ,F,S,fs,o⟩
 refine zeX hN hi hx he hs hf pins s σ H Dn I ⟨p,ρ,F,S,fs.rs,fs.st,?_⟩
 unfold jf at o
 cases e:f ρ S with
 | none=>rw[e] at o;exact o
 | some r=>obtain⟨d,S'⟩:=r;rw[e] at o;exact λv H' F' gg st' w=>o _ H' F' ((fs.grow gg st').set ne w) gg.ff
theorem zbU {c:Expr}{a b:List Stmt}{ft:Rho->Ob->Ro Bool}(hc:XT2 X cl kd q c ft)(ha:ziP X cl kd q a g)(hb:ziP X cl kd q b h):XS2 X cl kd q (.If c a b pos) (zIf ft g h):=by
 intro pins s σ H Dn I ⟨p,H0,F0,ρ,F,S,fs,o⟩
 refine znm hc ha hb pins s σ H Dn I ⟨p,ρ,F,S,fs.rs,fs.st,?_⟩
 unfold zIf at o
 cases e:ft ρ S with
 | none=>rw[e] at o;exact o
 | some r =>
  obtain⟨b,S'⟩:=r
  rw[e] at o
  intro v H' F' gg st' w
  subst w
  cases v with
  | true=>exact⟨p,H0,F0,ρ,F',S',fs.grow gg st',o.grow gg.ff⟩
  | false=>exact⟨p,H0,F0,ρ,F',S',fs.grow gg st',o.grow gg.ff⟩
theorem zls {E:XK}{tg iter:Expr}{body:List Stmt}{fi:Rho->Rs (List D)}{i:Nat}(ne:i≠q)(hp:PassesOwn (model X.prog X.w) X.A X.env X.xe)(hc:X.calm=true)(hi:XI X cl E tg iter fi)(hg:PG X tg (kY i))(hb:ziP X cl kd q body g)(hs:∀x,foldedSetIterable iter X.env x=pure x:=by intro _;rfl):XS2 X cl kd q (.For tg iter body [] pos) (zoS i fi g):=by
 intro pins s σ H Dn I ⟨p,H0,F0,ρ,F,S,fs,o⟩
 refine zio hp hc hi hg hb hs pins s σ H Dn I ⟨F,F,ρ,F,fs.rs.rl,?_⟩
 unfold zoS at o
 cases e:fi ρ with
 | ok ds =>
  rw[e] at o
  intro J G vs H1 F1 gg W hG dq
  refine zjo W (λk σ H=>∃ρ' F' S',FS X.K cl p q H0 F0 ρ' S' σ H F'/\Same F1 F'/\OS2 X.K cl p q H0 F0 F' (zlt i g (ds.drop k) ρ' S') Dn) ⟨ρ,F1,S,fs.grow gg.grS (fs.st.grow gg),Same.refl _,o.grow gg.ff⟩ (λk σ' H' _ ⟨ρ',F',S',R',s',_⟩=>hG H' (s'.trans R'.fh)) ?_ ?_
  ·rintro k x σ' H' hx ⟨ρ',F',S',R',s',o'⟩
   obtain⟨d,hd,qd⟩:=dq.get hx
   have hdr:ds.drop k=d::ds.drop (k+1):=by
    obtain⟨hk,e2⟩:=lh.mp hd
    rw[lah hk,e2]
   rw[hdr] at o'
   unfold zlt at o'
   refine⟨p,H0,F0,_,F',S',R'.set ne (qd.mono s'),?_⟩
   cases e2:g (ρ'.set i (.fz d)) S' with
   | nx ρ2 S2=>simp only[e2] at o';exact λσ2 H2 F2 R2 s2=>⟨ρ2,F2,S2,R2,s'.trans s2,o'.grow s2⟩
   | rt d S2=>simp only[e2] at o';exact o'
   | no=>simp only[e2] at o';exact o'
  ·rintro σ' H' ⟨ρ',F',S',R',s',o'⟩
   rw[lae (by rw[dq.length];exact lp _)] at o'
   exact o' σ' H' F' R' (Same.refl _)
 | ex n=>rw[e] at o;exact o.elim
 | no=>rw[e] at o;exact o.elim
end
def spS (K:PySem.W.Frag)(cl:Nat->Addr)(kd:Kd)(fn:List D->Ob->Ro D)(n j:Nat):Sp:=λvs H Q _=>∃(p:Pt kd) (F:Hp) (S:Ob) (us1 us2:List V) (ds1 ds2:List D),vs=us1 ++ .ref p.a::us2/\us1.length=j/\j+1+us2.length=n/\Same F H/\Sto K cl F H p S/\Dts K cl F us1 ds1/\Dts K cl F us2 ds2/\OE2 K cl p F H (fn (ds1++ds2) S) Q
def je (m j:Nat)(ds:List D):Rho:=((ds.take j++D.non::ds.drop j).map Sl.fz++List.replicate (m - (ds.length+1)) Sl.no).set j .no
def zd0 (m j:Nat)(g:Rho->Ob->O2)(ds:List D)(S:Ob):Ro D:=match g (je m j ds) S with | .nx _ S'=>some (.non,S') | .rt d S'=>some (d,S') | .no=>none
theorem Rl.hide {K:PySem.W.Frag}{cl:Nat->Addr}{H0 F0 H F:Hp}{ρ:Rho}{σ:St}{j:Nat}{x:Option V}(R:Rl K cl H0 F0 ρ σ H F):Rl K cl H0 F0 (ρ.set j .no) (σ.set j x) H F where
 gr:=R.gr
 len:=by simp[R.len]
 fz:=λi e z=>by
  rcases get_set z with⟨rfl,q,hl⟩|⟨hj,q⟩
  ·cases q
  ·rw[lq hj];exact R.fz i e q
 ow:=λi e z=>by
  rcases get_set z with⟨rfl,q,hl⟩|⟨hj,q⟩
  ·cases q
  ·rw[lq hj];exact R.ow i e q
 od:=λi e z=>by
  rcases get_set z with⟨rfl,q,hl⟩|⟨hj,q⟩
  ·cases q
  ·rw[lq hj];exact R.od i e q
 ap := λi k s t a z1 z2 o1 o2 e1 e2=>by
  rcases get_set z1 with⟨rfl,q,hl⟩|⟨hj,q⟩
  ·subst q;cases o1
  ·rcases get_set z2 with⟨rfl,q2,hl⟩|⟨hk,q2⟩
   ·subst q2;cases o2
   ·rw[lq hj] at e1;rw[lq hk] at e2
    exact R.ap i k s t a q q2 o1 o2 e1 e2
theorem fnS {P:Program}{w:World}{K:PySem.W.Frag}{mg:Str->Option Value}{base:Heap}{cl:Nat->Addr}{kd:Kd}{x qual:Str}{st:Stmt}{f:Addr}{fd:FuncData}{N ps:List Str}{k m n j:Nat}{g:Rho->Ob->O2}(Fu:Fun K x qual st f fd)(S:FnScope N ps (zm st))(hm:N.length=m)(hn:ps.length=n)
  (hb:∀(cdv:Value) (A:Around) (outer:List Env) (s:Shared) (H:Hp) (E:XK),Room k (A.deeper (envOfC qual (zm st) s.heap.objs.size f cdv))->ziP (jc (CX1 P w) P w K mg base N qual (zm st) f cdv A outer s H E) cl kd j (xq st) g):FnOk P w K mg base (CX1 P w) (k+1) f fd ps (spS K cl kd (zd0 m j g) n j):=by
 subst hm hn
 refine Fu.okX S (λvs H Q E h=>?_) λcdv A outer s H vs Q E hr h=>?_
 ·obtain⟨p,F,S,us1,us2,ds1,ds2,rfl,h1,h2,_⟩:=h
  rw[lw,lF,h1];omega
 obtain⟨p,F,S0,us1,us2,ds1,ds2,rfl,h1,h2,sm,sto,q1,q2,o⟩:=h
 have l1:ds1.length=j:=by rw[← q1.length];exact h1
 have t1:(ds1++ds2).take j=ds1:=by rw[← l1,List.take_left'];rfl
 have t2:(ds1++ds2).drop j=ds2:=by rw[← l1,ldp];rfl
 have R0:Rl K cl H F ((ds1++D.non::ds2).map .fz++List.replicate (N.length - (ds1++D.non::ds2).length) .no) (L2.start N (us1++V.non::us2)) H F:=Rl.start (N:=N) sm (q1.append (.cons .non q2))
 have eR:je N.length j (ds1++ds2)=((ds1++D.non::ds2).map Sl.fz++List.replicate (N.length - (ds1++D.non::ds2).length) Sl.no).set j .no:=by
  unfold je
  rw[t1,t2,show(ds1++ds2).length+1=(ds1++D.non::ds2).length from by simp;omega]
 have eσ:L2.start N (us1++V.ref p.a::us2)=(L2.start N (us1++V.non::us2)).set j (some (V.ref p.a)):=by
  unfold L2.start
  have z:us1.map some++(some V.non::us2.map some++List.replicate (N.length - (us1++V.non::us2).length) none)=(us1++V.non::us2).map some++List.replicate (N.length - (us1++V.non::us2).length) none:=by simp
  rw[← z,List.set_append_right _ _ (by rw[ly,h1];exact lp _),ly,h1,lc1]
  simp
 have R1:=(R0.hide (j:=j) (x:=some (V.ref p.a)))
 rw[← eR,← eσ] at R1
 have jl:j<(je N.length j (ds1++ds2)).length:=by rw[eR];simp;omega
 have no1:∀(i:Nat) s,(je N.length j (ds1++ds2))[i]? = some s->s.own=false:=λi s e=>by
  rw[eR] at e
  rcases get_set e with⟨_,rfl,_⟩|⟨_,e⟩
  ·rfl
  ·have:=laD e
   rcases lam.mp this with z|z
   ·obtain⟨d,_,rfl⟩:=lbh.mp z;rfl
   ·rw[(lc2.mp z).2];rfl
 refine⟨_,hb cdv A outer s H E hr,p,H,F,je N.length j (ds1++ds2),F,S0,⟨GrS.refl sm,⟨R1.here,?_,?_,λi s b e z=>by rw[no1 i s e] at z;cases z⟩,sto,λi s b e z=>by rw[no1 i s e] at z;cases z⟩,?_⟩
 ·rw[eσ]
  exact wH (by unfold L2.start;simp;omega)
 ·rw[eR] at jl ⊢
  exact wH (by rw[lcT] at jl;exact jl)
 ·unfold zd0 at o
  cases e:g (je N.length j (ds1++ds2)) S0 with
  | nx ρ S'=>rw[e] at o;exact λσ H' F' fs _=>o .non H' F' fs.gr fs.st .non
  | rt d S'=>rw[e] at o;exact λv H' F' gg st' w'=>o v H' F' gg st' w'
  | no=>rw[e] at o;exact o
def eM (n:Nat)(fn:List D->Ob->Ro D)(fs:Rho->Ob->Ro (List D)):Rho->Ob->Ro D:=b2 fs λds _ S=>if ds.length+1=n then fn ds S else none
def eM0 (fn:List D->Ob->Ro D):Rho->Ob->Ro D:=λ_ S=>fn [] S
def OA3 (K:PySem.W.Frag)(cl:Nat->Addr){kd:Kd}(j:Nat)(p:Pt kd)(F H:Hp)(r:Ro (List D))(Q:List V->Hp->Prop):Prop :=
 match r with
 | some (ds,S)=>∀us1 us2 H' F',us1.length=j->j<=ds.length->GrS p F H F' H'->Sto K cl F' H' p S->Dts K cl F' us1 (ds.take j)->Dts K cl F' us2 (ds.drop j)->Q (us1 ++ .ref p.a::us2) H'
 | none=>False
def tA3 (K:PySem.W.Frag)(cl:Nat->Addr)(kd:Kd)(q j:Nat)(f:Rho->Ob->Ro (List D)):TA:=λσ H Q=>∃(p:Pt kd) (ρ:Rho) (F:Hp) (S:Ob),RS K cl p q ρ σ H F/\Sto K cl F H p S/\OA3 K cl j p F H (f ρ S) Q
def XA3 (X:Cx)(cl:Nat->Addr)(kd:Kd)(q j:Nat)(es:List Expr)(f:Rho->Ob->Ro (List D)):Prop:=PA X es (tA3 X.K cl kd q j f)
section
variable {X:Cx}{cl:Nat->Addr}{kd:Kd}{q:Nat}{o e a:Expr}{es:List Expr}{fa:Rho->Ob->Ro D}{fs:Rho->Ob->Ro (List D)}{m x:Str}{pos apos p':Pos}{E:XK}{k:Nat}{f:Addr}{fd:FuncData}{ps:List Str}{fn:List D->Ob->Ro D}{n j:Nat}
theorem zkd (ho:PE X o (zcH q))(hs:XA2 X cl kd q es fs)(he:starEach (o::es) X.env=(false,eval o X.env)::starEach es X.env):XA3 X cl kd q 0 (o::es) fs:=by
 intro pos pins s σ H Q I ⟨p,ρ,F,S,R,st,oo⟩
 refine yJ ho hs he pos pins s σ H Q I ⟨.ref p.a,R.at_,p,ρ,F,S,R,st,?_⟩
 cases e:fs ρ S with
 | none=>rw[e] at oo;exact oo
 | some r =>
  obtain⟨ds,S'⟩:=r
  rw[e] at oo
  exact λvs H' F' g st' w=>oo [] vs H' F' rfl (la2 _) g st' .nil (by rw[lb9];exact w)
theorem zgY {pl:Sem Bool}(c:Cls X.K kd.C)(hm:Meth X.K kd.C m f)(nm:m∉kd.nm)(G:FnOk X.prog X.w X.K X.mg X.base (CX1 X.prog X.w) k f fd ps (spS X.K cl kd fn n 0))(hr:Room k X.A)(hb:Binds X.K fd ps [])(hx:uE (CX1 X.prog X.w) X E)(ho:PE X o (zcH q))(ha:XA2 X cl kd q (e::es) fs)
  (hst:starEach (e::es) X.env=(false,eval e X.env)::starEach es X.env) (hpl:(backTo pos (starEach es X.env)).any (·.1)=false:=by rfl)
  (ht:eval (.Call (.Attribute o m apos) (e::es) [] pos) X.env=(do
   let ov ← eval o X.env
   standAt apos.atName
   let (f,first) ← holding [ov] (getMethod ov m pl)
   callWith pos f first (backTo pos (starEach (e::es) X.env)) (backToKw pos (keywordEach [] X.env))):=by rfl) :
  XE2 X cl kd q (.Call (.Attribute o m apos) (e::es) [] pos) (eM n fn fs):=by
 intro pins s σ H Q I ⟨p,ρ,F,S,R,st,oo⟩
 obtain⟨vs,ei,_⟩:=st.fs
 refine zlx (pl:=pl) ho c hm G hr hb .nil hx ha hst hpl ht pins s σ H Q I ⟨.ref p.a,R.at_,p.a,p.dx,_,rfl,ei,xQ nm,p,ρ,F,S,R,st,oo.bd λds us H1 F1 S1 g1 st1 w1 o1=>?_⟩
 have o2:OE2 X.K cl p F1 H1 (if ds.length+1=n then fn ds S1 else none) Q:=o1
 split at o2
 ·rename_i hl
  rw[lD]
  exact⟨p,F1,S1,[],us,[],ds,rfl,rfl,by rw[Dts.length w1];omega,g1.fh,st1,.nil,w1,o2⟩
 ·exact o2.elim
theorem vA {pl:Sem Bool}(c:Cls X.K kd.C)(hm:Meth X.K kd.C m f)(nm:m∉kd.nm)(G:FnOk X.prog X.w X.K X.mg X.base (CX1 X.prog X.w) k f fd ps (spS X.K cl kd fn 1 0))(hr:Room k X.A)(hb:Binds X.K fd ps [])(hx:uE (CX1 X.prog X.w) X E)(ho:PE X o (zcH q))
  (ht:eval (.Call (.Attribute o m apos) [] [] pos) X.env=(do
   let ov ← eval o X.env
   standAt apos.atName
   let (f,first) ← holding [ov] (getMethod ov m pl)
   callWith pos f first (backTo pos (starEach [] X.env)) (backToKw pos (keywordEach [] X.env))):=by rfl) :
  XE2 X cl kd q (.Call (.Attribute o m apos) [] [] pos) (eM0 fn):=by
 intro pins s σ H Q I ⟨p,ρ,F,S,R,st,oo⟩
 obtain⟨vs,ei,_⟩:=st.fs
 refine zjE (pl:=pl) ho c hm G hr hb .nil hx ht pins s σ H Q I ⟨.ref p.a,R.at_,p.a,p.dx,_,rfl,ei,xQ nm,p,F,S,[],[],[],[],rfl,rfl,rfl,R.fh,st,.nil,.nil,oo⟩
theorem ziV (G:FnOk X.prog X.w X.K X.mg X.base (CX1 X.prog X.w) k f fd ps (spS X.K cl kd fn n j))(hr:Room k X.A)(hg:Gl X x)(hm:X.mg x=some (.ref f))(hk:PySem.W.keepIn X.K (.ref f)=true)(hb:Binds X.K fd ps [])(hx:uE (CX1 X.prog X.w) X E)
  (ha:XA3 X cl kd q j (e::es) fs) (he:starEach (e::es) X.env=(false,eval e X.env)::starEach es X.env) (hdb:(x == ("__debug__" : Str))=false:=by decide) (hpl:(backTo pos (starEach es X.env)).any (·.1)=false:=by rfl):XE2 X cl kd q (.Call (.Name x p') (e::es) [] pos) (eM n fn fs):=by
 intro pins s σ H Q I ⟨p,ρ,F,S,R,st,oo⟩
 refine zbh G hr hg hm hk hb .nil hx ha hdb he hpl pins s σ H Q I ⟨p,ρ,F,S,R,st,?_⟩
 unfold eM b2 at oo
 cases e:fs ρ S with
 | none=>rw[e] at oo;exact oo
 | some r =>
  obtain⟨ds,S'⟩:=r
  rw[e] at oo
  dsimp only at oo
  intro us1 us2 H' F' h1 h2 g st' w1 w2
  split at oo
  ·rename_i hl
   rw[lD]
   have t2:=w2.length
   rw[lbb] at t2
   refine⟨p,F',S',us1,us2,ds.take j,ds.drop j,rfl,h1,by omega,g.fh,st',w1,w2,?_⟩
   rw[List.take_append_drop]
   cases e3:fn ds S' with
   | none=>rw[e3] at oo;exact oo
   | some r3=>obtain⟨d3,S3⟩:=r3;rw[e3] at oo;exact λv H2 F2 g2 st2 w=>oo v H2 F2 (g.trans g2) st2 w
  ·exact oo.elim
end
section
variable {K:PySem.W.Frag}{cl:Nat->Addr}{kd:Kd}{p:Pt kd}{q:Nat}{H F:Hp}{ρ:Rho}{σ:St}
theorem RS.set (R:RS K cl p q ρ σ H F){i:Nat}{v:V}{d:D}(ne:i≠q)(h:Dt K cl F v d):RS K cl p q (ρ.set i (.fz d)) (σ.set i (some v)) H F where
 rl:=R.rl.set h
 at_:=by rw[lq ne];exact R.at_
 no:=by rw[lq ne];exact R.no
 ap:=λj s b z o e=>by
  rcases get_set z with⟨rfl,w,_⟩|⟨hj,w⟩
  ·subst w;cases o
  ·rw[lq hj] at e;exact R.ap j s b w o e
end
theorem zgD:∀{fs:List (Str×V)}{f:Str}{v:V},(∀x∈fs,x.1≠f)->zc9 f v fs=fs++[(f,v)]
 | [],_,_,_=>rfl
 | (g,w)::fs,f,v,h=>by
  show(if g=f then _ else _)=_
  rw[lW (h (g,w) (.head _)),zgD λx hx=>h x (.tail _ hx)];rfl
structure BI (K:PySem.W.Frag)(cl:Nat->Addr)(kd:Kd)(x dx:Addr)(H0 F0:Hp)(ρ:Rho)(σ:St)(H F:Hp)(vs:List V)(S:Ob)(ad:Nat->Addr):Prop where
 rl:Rl K cl F F ρ σ H F
 at_:σ[0]? = some (some (.ref x))
 ob:H x=some (.ins kd.C dx ((kd.nm.take vs.length).zip vs))
 fx:F x=none
 ff:Same F0 F
 hh:∀b o,H0 b=some o->b≠x->H b=some o
 no:∀b o,H0 b=some o->o.mu=true->F0 b=none->F b=none
 ln:vs.length=S.length
 fl:∀(i:Nat) fl,S[i]? = some fl->∃v,vs[i]? = some v/\match fl with
  | .dt d=>Dt K cl F v d
  | .ls ds=>v=.ref (ad i)/\F (ad i)=none/\H0 (ad i)=none/\∃us,H (ad i)=some (.lst us)/\Dts K cl F us ds
 inj:∀(i j:Nat) ds es,S[i]? = some (.ls ds)->S[j]? = some (.ls es)->ad i=ad j->i=j
section
variable {K:PySem.W.Frag}{cl:Nat->Addr}{kd:Kd}{x dx:Addr}{H0 F0 H F H' F':Hp}{ρ:Rho}{σ:St}{vs:List V}{S:Ob}{ad:Nat->Addr}
theorem BI.grow (b:BI K cl kd x dx H0 F0 ρ σ H F vs S ad)(hx:∃o,H0 x=some o/\o.mu=true)(g:Gr F H F' H'):BI K cl kd x dx H0 F0 ρ σ H' F' vs S ad where
 rl:=(b.rl.grow g).here
 at_:=b.at_
 ob:=g.hh _ _ b.ob
 fx:=g.no _ _ b.ob rfl b.fx
 ff:=b.ff.trans g.ff
 hh:=λc o e n=>g.hh _ _ (b.hh c o e n)
 no:=λc o e m w=>by
  by_cases z:c=x
  ·subst z;exact g.no _ _ b.ob rfl b.fx
  ·exact g.no c o (b.hh c o e z) m (b.no c o e m w)
 ln:=b.ln
 fl:=λi fl e=>by
  obtain⟨v,h1,h2⟩:=b.fl i fl e
  refine⟨v,h1,?_⟩
  cases fl with
  | dt d=>exact Dt.mono h2 g.ff
  | ls ds=>obtain⟨r1,r2,r3,us,r4,r5⟩:=h2;exact⟨r1,g.no _ _ r4 rfl r2,r3,us,g.hh _ _ r4,r5.mono g.ff⟩
 inj:=b.inj
theorem BI.name (b:BI K cl kd x dx H0 F0 ρ σ H F vs S ad)(nd:kd.nm.Nodup){f:Str}(hf:kd.nm[S.length]? = some f)(v:V):zc9 f v ((kd.nm.take vs.length).zip vs)=(kd.nm.take (vs++[v]).length).zip (vs++[v]):=by
 have hl:=b.ln
 have h1:S.length<kd.nm.length:=(lh.mp hf).1
 rw[zgD]
 ·rw[lw,laF,lbk,hl,hf]
  show _=(kd.nm.take S.length++[f]).zip (vs++[v])
  rw[List.zip_append (by rw[lO,hl];omega)];rfl
 ·intro y hy z
  have hm:=lbE (a:=y.1) (b:=y.2) hy
  obtain⟨i,hi⟩:=List.getElem?_of_mem hm.1
  rw[List.getElem?_take] at hi
  split at hi
  ·rename_i hlt
   rw[z] at hi
   have e1:=(lh.mp hi)
   have e2:=(lh.mp hf)
   obtain⟨a1,a2⟩:=e1
   obtain⟨b1,b2⟩:=e2
   exact lcb.mp nd i S.length a1 b1 (by omega) (a2.trans b2.symm)
  ·cases hi
theorem Rl.other (R:Rl K cl F F ρ σ H F)(no:∀(i:Nat) s,ρ[i]? = some s->s.own=false)(fh:Same F H'):Rl K cl F F ρ σ H' F where
 gr:=⟨Same.refl _,fh,fh,λ_ _ _ _ q=>q⟩
 len:=R.len
 fz:=R.fz
 ow:=λi d e=>by have:=no i _ e;cases this
 od:=λi d e=>by have:=no i _ e;cases this
 ap:=R.ap
theorem BI.addD (b:BI K cl kd x dx H0 F0 ρ σ H F vs S ad)(no:∀(i:Nat) s,ρ[i]? = some s->s.own=false)(nd:kd.nm.Nodup){f:Str}(hf:kd.nm[S.length]? = some f){v:V}{d:D}(q:Dt K cl F v d) :
  BI K cl kd x dx H0 F0 ρ σ (upd H x (.ins kd.C dx (zc9 f v ((kd.nm.take vs.length).zip vs)))) F (vs++[v]) (S++[.dt d]) ad:=by
 rw[b.name nd hf v]
 have fh:Same F (upd H x (.ins kd.C dx ((kd.nm.take (vs++[v]).length).zip (vs++[v])))):=λc o e=>by
  rw[zF λz=>by rw[z,b.fx] at e;cases e];exact b.rl.fh c o e
 refine⟨b.rl.other no fh,b.at_,zK,b.fx,b.ff,λc o e n=>by rw[zF n];exact b.hh c o e n,b.no,by simp[b.ln],λi fl e=>?_,λi j ds es e1 e2 z=>?_⟩
 ·rcases lbg i S.length with h|h
  ·rw[lP h] at e
   obtain⟨w,h1,h2⟩:=b.fl i fl e
   refine⟨w,by rw[lP (by rw[b.ln];exact h)];exact h1,?_⟩
   cases fl with
   | dt d=>exact h2
   | ls ds=>obtain⟨r1,r2,r3,us,r4,r5⟩:=h2;exact⟨r1,r2,r3,us,by rw[zF λz=>by rw[z,b.ob] at r4;cases r4];exact r4,r5⟩
  ·rw [lE h] at e
   cases h3:i - S.length with
   | zero =>
    rw[h3] at e
    obtain rfl:=lc e
    exact⟨v,by rw[lE (by rw[b.ln];exact h),b.ln,h3];rfl,q⟩
   | succ k=>rw[h3] at e;simp at e
 ·have g1:S[i]? = some (.ls ds):=by
   rcases lbg i S.length with h|h
   ·rw[lP h] at e1;exact e1
   ·rw[lE h] at e1
    cases h3:i - S.length with
    | zero=>rw[h3] at e1;simp at e1
    | succ k=>rw[h3] at e1;simp at e1
  have g2:S[j]? = some (.ls es):=by
   rcases lbg j S.length with h|h
   ·rw[lP h] at e2;exact e2
   ·rw[lE h] at e2
    cases h3:j - S.length with
    | zero=>rw[h3] at e2;simp at e2
    | succ k=>rw[h3] at e2;simp at e2
  exact b.inj i j ds es g1 g2 z
theorem BI.addL (b:BI K cl kd x dx H0 F0 ρ σ H F vs S ad)(hx:∃o,H0 x=some o/\o.mu=true)(no:∀(i:Nat) s,ρ[i]? = some s->s.own=false)(nd:kd.nm.Nodup){f:Str}(hf:kd.nm[S.length]? = some f){c:Addr}{us:List V}{ds:List D}(hc:H c=none)(q:Dts K cl F us ds) :
  BI K cl kd x dx H0 F0 ρ σ (upd (upd H c (.lst us)) x (.ins kd.C dx (zc9 f (.ref c) ((kd.nm.take vs.length).zip vs)))) F (vs++[.ref c]) (S++[.ls ds]) (λi=>if i=S.length then c else ad i):=by
 rw[b.name nd hf (.ref c)]
 have cx:c≠x:=λz=>by rw[z,b.ob] at hc;cases hc
 have c0:H0 c=none:=by
  cases e:H0 c with
  | none=>rfl
  | some o=>rw[b.hh c o e cx] at hc;cases hc
 have fc:F c=none:=b.rl.fh.free hc
 have fh:Same F (upd (upd H c (.lst us)) x (.ins kd.C dx ((kd.nm.take (vs++[V.ref c]).length).zip (vs++[V.ref c])))):=λa o e=>by
  have z1:a≠x:=λz=>by rw[z,b.fx] at e;cases e
  have z2:a≠c:=λz=>by rw[z,fc] at e;cases e
  rw[zF z1,zF z2];exact b.rl.fh a o e
 have old:∀(i:Nat) es,S[i]? = some (.ls es)->ad i≠c:=λi es e z=>by
  obtain⟨w,h1,h2,h3,h4,us',h5,h6⟩:=b.fl i _ e
  rw[z,hc] at h5;cases h5
 have lt:∀(i:Nat) fl,S[i]? = some fl->i<S.length:=λi fl e=>(lh.mp e).1
 have split:∀(i:Nat) fl,(S++[Fl.ls ds])[i]? = some fl->S[i]? = some fl∨(i=S.length/\fl=.ls ds):=λi fl e=>by
  rcases lbg i S.length with h|h
  ·rw[lP h] at e;exact .inl e
  ·rw[lE h] at e
   cases h3:i - S.length with
   | zero=>rw[h3] at e;exact .inr ⟨by omega,(lc e).symm⟩
   | succ k=>rw[h3] at e;simp at e
 refine⟨b.rl.other no fh,b.at_,zK,b.fx,b.ff,λa o e n=>?_,b.no,by simp[b.ln],λi fl e=>?_,λi j d1 d2 e1 e2 z=>?_⟩
 ·have z2:a≠c:=λz=>by rw[z,c0] at e;cases e
  rw[zF n,zF z2];exact b.hh a o e n
 ·rcases split i fl e with e|⟨rfl,rfl⟩
  ·have hi:=lt i fl e
   obtain⟨w,h1,h2⟩:=b.fl i fl e
   refine⟨w,by rw[lP (by rw[b.ln];exact hi)];exact h1,?_⟩
   cases fl with
   | dt d=>exact h2
   | ls es =>
    obtain⟨r1,r2,r3,us',r4,r5⟩:=h2
    dsimp only
    rw[lW (show ¬i=S.length from by omega)]
    have z1:ad i≠x:=λz=>by rw[z,b.ob] at r4;cases r4
    exact⟨r1,r2,r3,us',by rw[zF z1,zF (old i es e)];exact r4,r5⟩
  ·refine⟨.ref c,by rw[lE (by rw[b.ln];exact lp _),b.ln,lc1];rfl,?_⟩
   dsimp only
   rw[lB rfl]
   exact⟨rfl,fc,c0,us,by rw[zF cx,zK],q⟩
 ·have z:(if i=S.length then c else ad i)=(if j=S.length then c else ad j):=z
  rcases split i _ e1 with e1|⟨rfl,_⟩ <;>rcases split j _ e2 with e2|⟨rfl,_⟩
  ·rw[lW (show ¬i=S.length from by have:=lt i _ e1;omega),lW (show ¬j=S.length from by have:=lt j _ e2;omega)] at z
   exact b.inj i j d1 d2 e1 e2 z
  ·rw[lW (show ¬i=S.length from by have:=lt i _ e1;omega),lB rfl] at z
   exact absurd z (old i _ e1)
  ·rw[lB rfl,lW (show ¬j=S.length from by have:=lt j _ e2;omega)] at z
   exact absurd z.symm (old j _ e2)
  ·rfl
end
def tIn (K:PySem.W.Frag)(cl:Nat->Addr)(kd:Kd)(g:Rho->Ob->Option Ob):TS:=λDn σ H=>∃x dx H0 F0 ρ F vs S ad,BI K cl kd x dx H0 F0 ρ σ H F vs S ad/\(∃o,H0 x=some o/\o.mu=true)/\(∀(i:Nat) s,ρ[i]? = some s->s.own=false) /\
 match g ρ S with|some S'=>∀H' F' vs' ad',BI K cl kd x dx H0 F0 ρ σ H' F' vs' S' ad'->Dn.nx σ H'|none=>False
def XIs (X:Cx)(cl:Nat->Addr)(kd:Kd)(st:List Stmt)(g:Rho->Ob->Option Ob):Prop:=PSs X st (tIn X.K cl kd g)
def XI1 (X:Cx)(cl:Nat->Addr)(kd:Kd)(st:Stmt)(g:Rho->Ob->Option Ob):Prop:=PS X st (tIn X.K cl kd g)
def zm4 (g h:Rho->Ob->Option Ob):Rho->Ob->Option Ob:=λρ S=>match g ρ S with|some S'=>h ρ S'|none=>none
def iDt (k:Nat)(f:Rho->Rs D):Rho->Ob->Option Ob:=λρ S=>match f ρ with | .ok d=>if S.length=k then some (S++[.dt d]) else none|_=>none
def iLs (k:Nat)(f:Rho->Rs (List D)):Rho->Ob->Option Ob:=λρ S=>match f ρ with | .ok ds=>if S.length=k/\ds.length<=1000000 then some (S++[.ls ds]) else none|_=>none
section
variable {X:Cx}{cl:Nat->Addr}{kd:Kd}{E:XK}{st:Stmt}{rest:List Stmt}{g h:Rho->Ob->Option Ob}{e o:Expr}{f:Rho->Rs D}{fn:Str}{pos pos':Pos}
theorem zlr (h:XI1 X cl kd st g):XIs X cl kd [st] g:=zaq h
theorem zbM (h1:XI1 X cl kd st g)(h2:XIs X cl kd rest h):XIs X cl kd (st::rest) (zm4 g h):=by
 intro pins s σ H Dn I ⟨x,dx,H0,F0,ρ,F,vs,S,ad,b,hx,no,oo⟩
 refine jG h1 h2 pins s σ H Dn I ⟨x,dx,H0,F0,ρ,F,vs,S,ad,b,hx,no,?_⟩
 unfold zm4 at oo
 cases e:g ρ S with
 | none=>rw[e] at oo;exact oo
 | some S'=>rw[e] at oo;exact λH' F' vs' ad' b'=>⟨x,dx,H0,F0,ρ,F',vs',S',ad',b',hx,no,oo⟩
theorem zkY (k:Nat)(c:Cls X.K kd.C)(n:NoAttr X.K kd.C fn)(hi:kd.nm[k]? = some fn)(nd:kd.nm.Nodup)(h9:kd.nm.length<1000)(ho:PE X o (zcH 0))(h:XE X cl E e f)(hs:swapsWith e (some (.Attribute o fn pos')) pos.line X.env=pure false:=by rfl):XI1 X cl kd (.Assign [.Attribute o fn pos'] e pos) (iDt k f):=by
 intro pins s σ H Dn I ⟨x,dx,H0,F0,ρ,F,vs,S,ad,b,hx,no,oo⟩
 refine zkT ho h hs pins s σ H Dn I ⟨F,F,ρ,F,b.rl,?_⟩
 unfold iDt at oo
 cases e:f ρ with
 | ok d =>
  rw[e] at oo
  intro v H' F' gg w
  dsimp only at oo
  by_cases hk:S.length=k
  ·rw[lB hk] at oo
   have b1:=b.grow hx gg
   have hl:=(lh.mp hi).1
   exact⟨.ref x,b.at_,x,kd.C,dx,_,rfl,b1.ob,c,n,by rw[lcS,lO];have:=b.ln;omega,oo _ F' _ ad (b1.addD no nd (by rw[hk];exact hi) w)⟩
  ·rw[lW hk] at oo;exact oo.elim
 | ex n=>rw[e] at oo;exact oo.elim
 | no=>rw[e] at oo;exact oo.elim
theorem zh8 (k:Nat){es:List Expr}{fs:Rho->Rs (List D)}{pos2:Pos}(c:Cls X.K kd.C)(n:NoAttr X.K kd.C fn)(hi:kd.nm[k]? = some fn)(nd:kd.nm.Nodup)(h9:kd.nm.length<1000)(ho:PE X o (zcH 0))(h:XA X cl E es fs)(hs:swapsWith (.List es pos2) (some (.Attribute o fn pos')) pos.line X.env=pure false:=by rfl):XI1 X cl kd (.Assign [.Attribute o fn pos'] (.List es pos2) pos) (iLs k fs):=by
 intro pins s σ H Dn I ⟨x,dx,H0,F0,ρ,F,vs,S,ad,b,hx,no,oo⟩
 refine zkT ho (ziD h) hs pins s σ H Dn I ⟨F,F,ρ,F,b.rl,?_⟩
 unfold iLs at oo
 cases e:fs ρ with
 | ok ds =>
  rw[e] at oo
  intro us H' F' gg w
  dsimp only at oo
  by_cases hk:S.length=k/\ds.length<=1000000
  ·rw[lB hk] at oo
   refine⟨sz6 (Dts.length w▸hk.2),λcc hc=>?_⟩
   have b1:=b.grow hx gg
   have hl:=(lh.mp hi).1
   have cx:x≠cc:=λz=>by rw[← z,b1.ob] at hc;cases hc
   exact⟨.ref x,b.at_,x,kd.C,dx,_,rfl,by rw[zF cx];exact b1.ob,c,n,by rw[lcS,lO];have:=b.ln;omega,oo _ F' _ _ (b1.addL hx no nd (by rw[hk.1];exact hi) hc w)⟩
  ·rw[lW hk] at oo;exact oo.elim
 | ex n=>rw[e] at oo;exact oo.elim
 | no=>rw[e] at oo;exact oo.elim
end
def zlM (m:Nat)(kd:Kd)(g:Rho->Ob->Option Ob)(ds:List D):Option Ob:=match g (je m 0 ds) [] with
 | some S=>if S.length=kd.nm.length/\(∀i∈kd.N,i<S.length)/\∀i<S.length,(decide (i∈kd.N)=match S[i]? with|some (.ls _)=>true|_=>false) then some S else none
 | none=>none
structure Md (K:PySem.W.Frag)(C:Addr)(x qual:Str)(st:Stmt)(ps:List Str) where
 f:Addr
 fd:FuncData
 fn:Fun K x qual st f fd
 me:Meth K C x f
 bd:Binds K fd ps []
structure Cd (K:PySem.W.Frag)(mg:Str->Option Value)(x:Str) where
 C:Addr
 cl:Cls K C
 mgx:mg x=some (.ref C)
 mkr:PySem.W.makesIn K C=true
 kp:PySem.W.keepIn K (.ref C)=true
theorem Cd.mkd {K:PySem.W.Frag}{mg:Str->Option Value}{x qual:Str}{st:Stmt}{ps:List Str}(c:Cd K mg x)(m:Md K c.C "__init__" qual st ps):Mk K c.C m.f:=⟨c.mkr,m.me.at_,m.me.fn,c.kp⟩
section
variable {X:Cx}{k:Nat}{f C:Addr}{fd:FuncData}{ps:List Str}{sp:Sp}{x m:Str}{p apos pos:Pos}{o e:Expr}{es:List Expr}{ta:TE}{t:TA}
theorem zlz {pl:Sem Bool}(he:PE X.nox o ta)(c:Cls X.K C)(hm:Meth X.K C m f)(F:FnOk X.prog X.w X.K X.mg X.base (CX1 X.prog X.w) k f fd ps sp)(hr:Room k X.A)(hb:Binds X.K fd ps [])(ha:PA X.nox (e::es) t)
  (hst:starEach (e::es) X.env=(false,eval e X.env)::starEach es X.env) (hpl:(backTo pos (starEach es X.env)).any (·.1)=false:=by rfl)
  (ht:eval (.Call (.Attribute o m apos) (e::es) [] pos) X.env=(do
   let ov ← eval o X.env
   standAt apos.atName
   let (f,first) ← holding [ov] (getMethod ov m pl)
   callWith pos f first (backTo pos (starEach (e::es) X.env)) (backToKw pos (keywordEach [] X.env))):=by rfl) :
  PX X (.Call (.Attribute o m apos) (e::es) [] pos) (λσ H Q E=>ta σ H λx H1=>∃a dx fs,x=.ref a/\H1 a=some (.ins C dx fs)/\fs.lookup m=none/\t σ H1 λvs H2=>sp (x::vs) H2 Q E):=by
 intro pins s σ H Q E F' I hx h
 refine lbV (pl:=pl) (lai (he pins s σ H _ (I.wish _) h) (λu s1 ⟨x,H1,I1,rx,a,dx,fs,ex,ea,l,q⟩=>?_) λ_ _ z=>False.elim z) ht
 subst ex
 obtain rfl:u=Value.ref a:=rx
 refine jJ I1.unwish ea c hm l ?_
 refine lbR (first:=[.ref a]) (h₀:=X.base) I.ok.mod.kin hm.kp (lai (ha pos pins s1 σ H1 _ I1 q) (λus s2 ⟨vs,H2,I2,r,q2⟩=>⟨I2.unwish.kIn,?_⟩) λ_ _ z=>False.elim z) hst hpl
 exact zkV (us:=.ref a::us) (vs:=.ref a::vs) F hr hb hx I2.unwish (.cons rfl r) q2
theorem zki {pl:Sem Bool}(he:PE X.nox o ta)(c:Cls X.K C)(hm:Meth X.K C m f)(F:FnOk X.prog X.w X.K X.mg X.base (CX1 X.prog X.w) k f fd ps sp)(hr:Room k X.A)(hb:Binds X.K fd ps [])
  (ht:eval (.Call (.Attribute o m apos) [] [] pos) X.env=(do
   let ov ← eval o X.env
   standAt apos.atName
   let (f,first) ← holding [ov] (getMethod ov m pl)
   callWith pos f first (backTo pos (starEach [] X.env)) (backToKw pos (keywordEach [] X.env))):=by rfl) :
  PX X (.Call (.Attribute o m apos) [] [] pos) (λσ H Q E=>ta σ H λx H1=>∃a dx fs,x=.ref a/\H1 a=some (.ins C dx fs)/\fs.lookup m=none/\sp [x] H1 Q E):=by
 intro pins s σ H Q E F' I hx h
 refine lbV (pl:=pl) (lai (he pins s σ H _ (I.wish _) h) (λu s1 ⟨x,H1,I1,rx,a,dx,fs,ex,ea,l,q⟩=>?_) λ_ _ z=>False.elim z) ht
 subst ex
 obtain rfl:u=Value.ref a:=rx
 refine jJ I1.unwish ea c hm l ?_
 exact PySem.W.callWith_K0 (first:=[.ref a]) I1.unwish.kIn hm.kp (zkV (us:=[.ref a]) (vs:=[.ref a]) F hr hb hx I1.unwish (.cons rfl .nil) q)
theorem ziW {pins:List (Addr×Obj)}{σ:St}{H:Hp}{s:Shared}{Q:VK}{us:List Value}{vs:List V}{E:XK}{F':Value->Shared->Prop}(M:Mk X.K C f)(F:FnOk X.prog X.w X.K X.mg X.base (CX1 X.prog X.w) k f fd ps sp)(hr:Room (k+1) X.A)(hb:Binds X.K fd ps [])
  (hx:∀H s e s',Inv X pins σ H s->zd9 X.prog X.w X.stack H s E e s'->F' e s') (I:Inv X pins σ H s) (r:Vals vs us)
  (h:∀x dx,H x=none->H dx=none->dx≠x->sp (.ref x::vs) (upd (upd H dx (.own x)) x (.ins C dx [])) (λv H2=>v=.non/\Q (.ref x) H2) E) :
  wpAny (model X.prog X.w) X.A (call (.ref C) us) (EP X pins σ Q) F' s:=by
 have hq:=h (s.heap.objs.size+1) s.heap.objs.size (I.hok.fresh (lbW _)) (I.hok.fresh (lp _)) (lU (lcG _))
 have I2:=Inv.made (C:=C) I
 have r2:Vals (V.ref (s.heap.objs.size+1)::vs) (Value.ref (s.heap.objs.size+1)::us):=.cons rfl r
 have hl:(Value.ref (s.heap.objs.size+1)::us).length=ps.length:=by
  have e:=r2.length
  rw[F.len _ _ _ _ hq] at e
  exact e.symm
 have hb':=hb _ (Value.ref (s.heap.objs.size+1)::us) I2.kIn (by rw[lD];exact hl)
 rw[lD] at hb'
 refine wpAny_call (zkx (f:=f) I.kIn M.makes M.init (lbO.mp M.fn) (lci (F.run _ X.stack _ _ ⟨Value.ref (s.heap.objs.size+1)::us,[]⟩ (Value.ref (s.heap.objs.size+1)::us) _ _ E (hr.make C us [])
  (I2.env0.make C us []) hb' r2 hq) λr s' hq'=>?_))
 cases r with
 | error e=>exact hx _ _ e s' I2 hq'
 | ok fl =>
  cases fl with
  | ret u =>
   obtain⟨v,H',I3,rv,ev,q3⟩:=I2.after hq'
   subst ev
   exact⟨rv,⟨V.ref (s.heap.objs.size+1),H',I3,rfl,q3⟩⟩
  | next=>exact False.elim hq'
  | brk=>exact False.elim hq'
  | cont=>exact False.elim hq'
theorem zhA (M:Mk X.K C f)(F:FnOk X.prog X.w X.K X.mg X.base (CX1 X.prog X.w) k f fd ps sp)(hr:Room (k+1) X.A)(hg:Gl X x)(hm:X.mg x=some (.ref C))(hb:Binds X.K fd ps [])
  (ha:PA X.nox (e::es) t) (he:starEach (e::es) X.env=(false,eval e X.env)::starEach es X.env) (hdb:(x == ("__debug__" : Str))=false:=by decide) (hpl:(backTo pos (starEach es X.env)).any (·.1)=false:=by rfl) :
  PX X (.Call (.Name x p) (e::es) [] pos) (λσ H Q E=>t σ H λvs H1=>∀x dx,H1 x=none->H1 dx=none->dx≠x->sp (.ref x::vs) (upd (upd H1 dx (.own x)) x (.ins C dx [])) (λv H2=>v=.non/\Q (.ref x) H2) E):=by
 intro pins s σ H Q E F' I hx h
 refine laS (zbn I hg hm ?_ hdb)
 refine lbR (h₀:=X.base) I.ok.mod.kin M.kp (lai (ha pos pins s σ H _ (I.wish _) h) (λus s1 ⟨vs,H1,I1,r,q⟩=>⟨I1.unwish.kIn,?_⟩) λ_ _ z=>False.elim z) he hpl
 exact ziW M F hr hb hx I1.unwish r q
end
inductive Rz where
 | ok (d:D) (S:Ob)|ex (n:Nat) (S:Ob)|no
def OZ (K:PySem.W.Frag)(cl:Nat->Addr){kd:Kd}(p:Pt kd)(F H:Hp)(r:Rz)(Q:VK)(E:XK):Prop :=
 match r with
 | .ok d S=>∀v H' F',GrS p F H F' H'->Sto K cl F' H' p S->Dt K cl F' v d->Q v H'
 | .ex n S=>∀H' F',GrS p F H F' H'->Sto K cl F' H' p S->E (.ref (cl n)) none H'
 | .no=>False
theorem OZ.grow {K:PySem.W.Frag}{cl:Nat->Addr}{kd:Kd}{p:Pt kd}{F H F1 H1:Hp}{r:Rz}{Q:VK}{E:XK}(o:OZ K cl p F H r Q E)(g:GrS p F H F1 H1):OZ K cl p F1 H1 r Q E:=by
 cases r with
 | ok d S=>exact λv H' F' g'=>o v H' F' (g.trans g')
 | ex n S=>exact λH' F' g'=>o H' F' (g.trans g')
 | no=>exact o
def spZ (K:PySem.W.Frag)(cl:Nat->Addr)(kd:Kd)(fn:List D->Ob->Rz)(n j:Nat):Sp:=λvs H Q E=>∃(p:Pt kd) (F:Hp) (S:Ob) (us1 us2:List V) (ds1 ds2:List D),vs=us1 ++ .ref p.a::us2/\us1.length=j/\j+1+us2.length=n/\Same F H/\Sto K cl F H p S/\Dts K cl F us1 ds1/\Dts K cl F us2 ds2/\OZ K cl p F H (fn (ds1++ds2) S) Q E
def tQ (K:PySem.W.Frag)(cl:Nat->Addr)(kd:Kd)(q:Nat)(E:XK)(f:Rho->Ob->Rz):TE:=λσ H Q=>∃(p:Pt kd) (ρ:Rho) (F:Hp) (S:Ob),RS K cl p q ρ σ H F/\Sto K cl F H p S/\OZ K cl p F H (f ρ S) Q E
def XQ (X:Cx)(cl:Nat->Addr)(kd:Kd)(q:Nat)(E:XK)(e:Expr)(f:Rho->Ob->Rz):Prop:=PE X e (tQ X.K cl kd q E f)
def qC (n:Nat)(fn:List D->Rs D)(fs:Rho->Ob->Ro (List D)):Rho->Ob->Rz:=λρ S=>match fs ρ S with
 | some (ds,S')=>if ds.length=n then(match fn ds with | .ok d=>.ok d S' | .ex k=>.ex k S' | .no=>.no) else .no
 | none=>.no
def qL (i:Nat)(fn:List D->Rs D):Rho->Ob->Rz:=λ_ S=>match S[i]? with
 | some (.ls ds)=>(match fn [.lst ds] with | .ok d=>if d.fl=true then .ok d S else .no | .ex k=>.ex k S | .no=>.no)
 | _=>.no
theorem Gr.up {F H H':Hp}(fh:Same F H)(s:Same H H'):Gr F H F H':=⟨Same.refl _,s,fh.trans s,λ_ _ _ _ z=>z⟩
section
variable {X:Cx}{cl:Nat->Addr}{kd:Kd}{q:Nat}{o e:Expr}{es:List Expr}{E:XK}{k:Nat}{f:Addr}{fd:FuncData}{ps:List Str}{fn:List D->Rs D}{n i:Nat}{x fx:Str}{p' pos pos':Pos}{fs:Rho->Ob->Ro (List D)}
theorem zlH (G:FnOk X.prog X.w X.K X.mg X.base (CX1 X.prog X.w) k f fd ps (spD X.K cl fn n))(hr:Room k X.A)(hg:Gl X x)(hm:X.mg x=some (.ref f))(hk:PySem.W.keepIn X.K (.ref f)=true)(hb:Binds X.K fd ps [])(hx:uE (CX1 X.prog X.w) X E)
  (ha:XA2 X cl kd q (e::es) fs) (he:starEach (e::es) X.env=(false,eval e X.env)::starEach es X.env) (hdb:(x == ("__debug__" : Str))=false:=by decide) (hpl:(backTo pos (starEach es X.env)).any (·.1)=false:=by rfl):XQ X cl kd q E (.Call (.Name x p') (e::es) [] pos) (qC n fn fs):=by
 intro pins s σ H Q I ⟨p,ρ,F,S,R,st,oo⟩
 refine zbh G hr hg hm hk hb .nil hx ha hdb he hpl pins s σ H Q I ⟨p,ρ,F,S,R,st,?_⟩
 unfold qC at oo
 cases e1:fs ρ S with
 | none=>rw[e1] at oo;exact oo
 | some r =>
  obtain⟨ds,S1⟩:=r
  rw[e1] at oo
  dsimp only at oo
  intro vs H1 F1 g1 st1 w1
  split at oo
  ·rename_i hl
   rw[lD]
   refine⟨F1,ds,g1.fh,w1,by rw[Dts.length w1,hl],?_⟩
   cases e:fn ds with
   | ok d=>rw[e] at oo;exact λv H' F' g' w'=>oo v H' F' (g1.trans g'.grS) (st1.grow g') w'
   | ex n=>rw[e] at oo;exact λH' s'=>oo H' F1 (g1.trans (Gr.up g1.fh s').grS) (st1.grow (Gr.up g1.fh s'))
   | no=>rw[e] at oo;exact oo
  ·exact oo.elim
theorem zei (hN:i∈kd.N)(A:At X kd i o fx)(ho:PE X o (zcH q))(G:FnOk X.prog X.w X.K X.mg X.base (CX1 X.prog X.w) k f fd ps (spD X.K cl fn 1))(hr:Room k X.A)(hg:Gl X x)(hm:X.mg x=some (.ref f))(hk:PySem.W.keepIn X.K (.ref f)=true)(hb:Binds X.K fd ps [])(hx:uE (CX1 X.prog X.w) X E)
  (he:starEach [.Attribute o fx pos'] X.env=(false,eval (.Attribute o fx pos') X.env)::starEach [] X.env) (hdb:(x == ("__debug__" : Str))=false:=by decide) (hpl:(backTo pos (starEach [] X.env)).any (·.1)=false:=by rfl):XQ X cl kd q E (.Call (.Name x p') [.Attribute o fx pos'] [] pos) (qL i fn):=by
 intro pins s σ H Q I ⟨p,ρ,F,S,R,st,oo⟩
 obtain⟨ds,us,e1,_⟩:=st.lst hN
 unfold qL at oo
 simp only[e1] at oo
 refine zbh G hr hg hm hk hb .nil hx (yJ (zf1 (cl:=cl) A ho) vp he) hdb he hpl pins s σ H Q I ⟨p,ρ,F,S,R,st,hN,?_⟩
 obtain⟨F1,s1,d1,back,_⟩:=st.ice R.fh e1
 refine⟨F1,[.lst ds],s1,.cons d1 .nil,rfl,?_⟩
 cases e:fn [.lst ds] with
 | ok d' =>
  rw[e] at oo
  intro v H' F' g' w'
  have gg:=back F' H' g'
  dsimp only at oo
  split at oo
  ·rename_i hf
   exact oo v H' F gg.grS (st.grow gg) (w'.anyF hf)
  ·exact oo.elim
 | ex n=>rw[e] at oo;exact λH' s'=>oo H' F (Gr.up R.fh s').grS (st.grow (Gr.up R.fh s'))
 | no=>rw[e] at oo;exact oo
end
def zhx (m j:Nat)(fq:Rho->Ob->Rz)(g:Rho->Ob->O2)(ds:List D)(S:Ob):Rz:=match fq (je m j ds) S with
 | .ok _ S'=>(match g (je m j ds) S' with | .nx _ S''=>.ok .non S'' | .rt d S''=>.ok d S'' | .no=>.no)
 | .ex n S'=>.ex n S'
 | .no=>.no
theorem fnZ {P:Program}{w:World}{K:PySem.W.Frag}{mg:Str->Option Value}{base:Heap}{cl:Nat->Addr}{kd:Kd}{x qual:Str}{st:Stmt}{f:Addr}{fd:FuncData}{N ps:List Str}{k m n j:Nat}{fq:Rho->Ob->Rz}{g:Rho->Ob->O2}{e0:Expr}{pos:Pos}{rest:List Stmt}(Fu:Fun K x qual st f fd)(S:FnScope N ps (zm st))(hm:N.length=m)(hn:ps.length=n)(hbd:xq st=.Expr e0 pos::rest)
  (hb:∀(cdv:Value) (A:Around) (outer:List Env) (s:Shared) (H:Hp) (E:XK),Room k (A.deeper (envOfC qual (zm st) s.heap.objs.size f cdv))->XQ (jc (CX1 P w) P w K mg base N qual (zm st) f cdv A outer s H E) cl kd j E e0 fq/\ziP (jc (CX1 P w) P w K mg base N qual (zm st) f cdv A outer s H E) cl kd j rest g/\swapsWith e0 none pos.line (jc (CX1 P w) P w K mg base N qual (zm st) f cdv A outer s H E).env=pure false):FnOk P w K mg base (CX1 P w) (k+1) f fd ps (spZ K cl kd (zhx m j fq g) n j):=by
 subst hm hn
 refine Fu.okX S (λvs H Q E h=>?_) λcdv A outer s H vs Q E hr h=>?_
 ·obtain⟨p,F,S,us1,us2,ds1,ds2,rfl,h1,h2,_⟩:=h
  rw[lw,lF,h1];omega
 obtain⟨p,F,S0,us1,us2,ds1,ds2,rfl,h1,h2,sm,sto,q1,q2,o⟩:=h
 have l1:ds1.length=j:=by rw[← q1.length];exact h1
 have t1:(ds1++ds2).take j=ds1:=by rw[← l1,List.take_left'];rfl
 have t2:(ds1++ds2).drop j=ds2:=by rw[← l1,ldp];rfl
 have R0:Rl K cl H F ((ds1++D.non::ds2).map .fz++List.replicate (N.length - (ds1++D.non::ds2).length) .no) (L2.start N (us1++V.non::us2)) H F:=Rl.start (N:=N) sm (q1.append (.cons .non q2))
 have eR:je N.length j (ds1++ds2)=((ds1++D.non::ds2).map Sl.fz++List.replicate (N.length - (ds1++D.non::ds2).length) Sl.no).set j .no:=by
  unfold je
  rw[t1,t2,show(ds1++ds2).length+1=(ds1++D.non::ds2).length from by simp;omega]
 have eσ:L2.start N (us1++V.ref p.a::us2)=(L2.start N (us1++V.non::us2)).set j (some (V.ref p.a)):=by
  unfold L2.start
  have z:us1.map some++(some V.non::us2.map some++List.replicate (N.length - (us1++V.non::us2).length) none)=(us1++V.non::us2).map some++List.replicate (N.length - (us1++V.non::us2).length) none:=by simp
  rw[← z,List.set_append_right _ _ (by rw[ly,h1];exact lp _),ly,h1,lc1]
  simp
 have R1:=(R0.hide (j:=j) (x:=some (V.ref p.a)))
 rw[← eR,← eσ] at R1
 have jl:j<(je N.length j (ds1++ds2)).length:=by rw[eR];simp;omega
 have no1:∀(i:Nat) s,(je N.length j (ds1++ds2))[i]? = some s->s.own=false:=λi s e=>by
  rw[eR] at e
  rcases get_set e with⟨_,rfl,_⟩|⟨_,e⟩
  ·rfl
  ·have:=laD e
   rcases lam.mp this with z|z
   ·obtain⟨d,_,rfl⟩:=lbh.mp z;rfl
   ·rw[(lc2.mp z).2];rfl
 have RS0:RS K cl p j (je N.length j (ds1++ds2)) (L2.start N (us1++V.ref p.a::us2)) H F:=by
  refine⟨R1.here,?_,?_,λi s b e z=>by rw[no1 i s e] at z;cases z⟩
  ·rw[eσ]
   exact wH (by unfold L2.start;simp;omega)
  ·rw[eR] at jl ⊢
   exact wH (by rw[lcT] at jl;exact jl)
 obtain⟨b1,b2,b3⟩:=hb cdv A outer s H E hr
 rw[hbd]
 refine⟨_,jG (zdY b1 b3) b2,p,je N.length j (ds1++ds2),F,S0,RS0,sto,?_⟩
 unfold zhx at o
 cases e:fq (je N.length j (ds1++ds2)) S0 with
 | no=>rw[e] at o;exact o
 | ex n S'=>rw[e] at o;exact o
 | ok d S' =>
  rw[e] at o
  dsimp only at o
  intro v H' F' gg st' w'
  refine⟨p,H,F,je N.length j (ds1++ds2),F',S',⟨gg,RS0.grow gg,st',λi s b e z=>by rw[no1 i s e] at z;cases z⟩,?_⟩
  cases e2:g (je N.length j (ds1++ds2)) S' with
  | nx ρ S''=>rw[e2] at o;exact λσ H' F' fs _=>o .non H' F' fs.gr fs.st .non
  | rt d S''=>rw[e2] at o;exact λv H' F' gg st' w'=>o v H' F' gg st' w'
  | no=>rw[e2] at o;exact o
def XXo (X:Cx)(cl:Nat->Addr)(kd:Kd)(q:Nat)(e:Expr)(f:Rho->Ob->Rz):Prop:=PX X e (λσ H Q E=>∃(p:Pt kd) (ρ:Rho) (F:Hp) (S:Ob),RS X.K cl p q ρ σ H F/\Sto X.K cl F H p S/\OZ X.K cl p F H (f ρ S) Q E)
def zoe (X:Cx)(cl:Nat->Addr)(kd:Kd)(q:Nat)(sts:List Stmt)(f:Rho->Ob->Rz):Prop:=PXs X sts (λσ H Q E=>∃(p:Pt kd) (ρ:Rho) (F:Hp) (S:Ob),RS X.K cl p q ρ σ H F/\Sto X.K cl F H p S/\OZ X.K cl p F H (f ρ S) Q E)
def qM (n:Nat)(fn:List D->Ob->Rz)(fs:Rho->Ob->Ro (List D)):Rho->Ob->Rz:=λρ S=>match fs ρ S with|some (ds,S')=>if ds.length+1=n then fn ds S' else .no|none=>.no
def qM0 (fn:List D->Ob->Rz):Rho->Ob->Rz:=λ_ S=>fn [] S
def qIf (ft:Rho->Rs Bool)(f g:Rho->Ob->Rz):Rho->Ob->Rz:=λρ S=>match ft ρ with | .ok true=>f ρ S | .ok false=>g ρ S|_=>.no
section
variable {X:Cx}{cl:Nat->Addr}{kd:Kd}{q:Nat}{o e c a b:Expr}{es:List Expr}{k:Nat}{f:Addr}{fd:FuncData}{ps:List Str}{fn:List D->Ob->Rz}{n:Nat}{m:Str}{apos pos:Pos}{fs:Rho->Ob->Ro (List D)}{fz gz:Rho->Ob->Rz}{ft:Rho->Rs Bool}
theorem zjC {pl:Sem Bool}(c:Cls X.K kd.C)(hm:Meth X.K kd.C m f)(nm:m∉kd.nm)(G:FnOk X.prog X.w X.K X.mg X.base (CX1 X.prog X.w) k f fd ps (spZ X.K cl kd fn n 0))(hr:Room k X.A)(hb:Binds X.K fd ps [])(ho:PE X.nox o (zcH q))(ha:XA2 X.nox cl kd q (e::es) fs)
  (hst:starEach (e::es) X.env=(false,eval e X.env)::starEach es X.env) (hpl:(backTo pos (starEach es X.env)).any (·.1)=false:=by rfl)
  (ht:eval (.Call (.Attribute o m apos) (e::es) [] pos) X.env=(do
   let ov ← eval o X.env
   standAt apos.atName
   let (f,first) ← holding [ov] (getMethod ov m pl)
   callWith pos f first (backTo pos (starEach (e::es) X.env)) (backToKw pos (keywordEach [] X.env))):=by rfl) :
  XXo X cl kd q (.Call (.Attribute o m apos) (e::es) [] pos) (qM n fn fs):=by
 refine(zlz (pl:=pl) ho c hm G hr hb ha hst hpl ht).mono λσ H Q E zo0=>?_
 obtain⟨p,ρ,F,S,R,st,oo⟩:=zo0
 obtain⟨vs,ei,_⟩:=st.fs
 refine⟨.ref p.a,R.at_,p.a,p.dx,_,rfl,ei,xQ nm,p,ρ,F,S,R,st,?_⟩
 unfold qM at oo
 cases e1:fs ρ S with
 | none=>rw[e1] at oo;exact oo
 | some r =>
  obtain⟨ds,S1⟩:=r
  rw[e1] at oo
  dsimp only at oo
  intro us H1 F1 g1 st1 w1
  split at oo
  ·rename_i hl
   exact⟨p,F1,S1,[],us,[],ds,rfl,rfl,by rw[Dts.length w1];omega,g1.fh,st1,.nil,w1,oo.grow g1⟩
  ·exact oo.elim
theorem ze5 {pl:Sem Bool}(c:Cls X.K kd.C)(hm:Meth X.K kd.C m f)(nm:m∉kd.nm)(G:FnOk X.prog X.w X.K X.mg X.base (CX1 X.prog X.w) k f fd ps (spZ X.K cl kd fn 1 0))(hr:Room k X.A)(hb:Binds X.K fd ps [])(ho:PE X.nox o (zcH q))
  (ht:eval (.Call (.Attribute o m apos) [] [] pos) X.env=(do
   let ov ← eval o X.env
   standAt apos.atName
   let (f,first) ← holding [ov] (getMethod ov m pl)
   callWith pos f first (backTo pos (starEach [] X.env)) (backToKw pos (keywordEach [] X.env))):=by rfl) :
  XXo X cl kd q (.Call (.Attribute o m apos) [] [] pos) (qM0 fn):=by
 refine(zki (pl:=pl) ho c hm G hr hb ht).mono λσ H Q E zo4=>?_
 obtain⟨p,ρ,F,S,R,st,oo⟩:=zo4
 obtain⟨vs,ei,_⟩:=st.fs
 exact⟨.ref p.a,R.at_,p.a,p.dx,_,rfl,ei,xQ nm,p,F,S,[],[],[],[],rfl,rfl,rfl,R.fh,st,.nil,.nil,oo⟩
theorem zhF {p:Pt kd}{ρ:Rho}{σ:St}{H F:Hp}{S:Ob}{Q:VK}{E:XK}(R:RS X.K cl p q ρ σ H F)(st:Sto X.K cl F H p S)(oo:OZ X.K cl p F H (qIf ft fz gz ρ S) Q E) :
  ∃H0 F0 ρ F,Rl X.K cl H0 F0 ρ σ H F/\OutB X.K cl E0 H0 F H (ft ρ) λd H1=>if d=true then(∃(p:Pt kd) (ρ:Rho) (F:Hp) (S:Ob),RS X.K cl p q ρ σ H1 F/\Sto X.K cl F H1 p S/\OZ X.K cl p F H1 (fz ρ S) Q E) else(∃(p:Pt kd) (ρ:Rho) (F:Hp) (S:Ob),RS X.K cl p q ρ σ H1 F/\Sto X.K cl F H1 p S/\OZ X.K cl p F H1 (gz ρ S) Q E):=by
 refine⟨F,F,ρ,F,R.rl,?_⟩
 unfold qIf at oo
 cases e:ft ρ with
 | ok d =>
  rw[e] at oo
  intro H1 F1 g1
  cases d with
  | true=>rw[lB rfl];exact⟨p,ρ,F1,S,R.grow g1.grS,st.grow g1,oo.grow g1.grS⟩
  | false=>rw[lW lv];exact⟨p,ρ,F1,S,R.grow g1.grS,st.grow g1,oo.grow g1.grS⟩
 | ex n=>rw[e] at oo;exact oo.elim
 | no=>rw[e] at oo;exact oo.elim
theorem zok (hc:XT X.nox cl E0 c ft)(ha:XXo X cl kd q a fz)(hb:XXo X cl kd q b gz):XXo X cl kd q (.IfExp c a b pos) (qIf ft fz gz) :=
 (zpX hc ha hb).mono λσ H Q E ⟨p,ρ,F,S,R,st,oo⟩=>zhF R st oo
theorem zgt {rpos:Pos}(h:XXo X cl kd q e fz):zoe X cl kd q [.Return (some e) rpos] fz:=zi9 h
theorem zlS {sa rest:List Stmt}{ipos:Pos}(hc:XT X.nox cl E0 c ft)(ha:zoe X cl kd q sa fz)(hb:zoe X cl kd q rest gz):zoe X cl kd q (.If c sa [] ipos::rest) (qIf ft fz gz) :=
 (zn1 hc ha hb).mono λσ H Q E ⟨p,ρ,F,S,R,st,oo⟩=>zhF R st oo
end
def zjN (i:Nat)(cs:List Nat)(fz:Rho->Ob->Rz)(hf:Rho->Rs D):Rho->Ob->O2:=λρ S=>match fz ρ S with
 | .ok d S'=>.rt d S'
 | .ex n S'=>if n∈cs then(match hf (ρ.set i (.fz (.exc n))) with | .ok d=>.rt d S'|_=>.no) else .no
 | .no=>.no
theorem zmK {X:Cx}{cl:Nat->Addr}{kd:Kd}{q:Nat}{sts:List Stmt}{n xc:Str}{np rp2 hpos pos:Pos}{i:Nat}{cs:List Nat}{fz:Rho->Ob->Rz}{hf:Rho->Rs D}{hd:Expr}(ne:i≠q)(hx:zoe X cl kd q sts fz)(O:Own X.K X.mg xc)(hgx:Gl X xc)(hN:X.N.Nodup)(hi:X.N[i]? = some n)(hlo:X.env.scope.names.lookup n=some .local)
  (hcs:zeO (λn=>PySem.W.subIn X.K (.ref (cl n)) (.ref O.C)=some true) cs) (hh:∀a,XE (X.hand a) cl E0 hd hf) (hst:X.stack=X.env::X.outer) (hfr:X.env.frame=some X.env.locals) (hdx:(xc == ("__debug__" : Str))=false:=by decide) :
  XS2 X cl kd q (.Try sts [.ExceptHandler (some (.Name xc np)) (some n) [.Return (some hd) rp2] hpos] [] [] pos) (zjN i cs fz hf):=by
 intro pins s σ H Dn I ⟨p,H0,F0,ρ,F,S,fs,o⟩
 refine zgU hx O hgx hN hi hlo (λa=>zaq (zeZ (te:=tDE X.K cl E0 hf) (hh a))) hst hfr hdx pins s σ H Dn I ⟨p,ρ,F,S,fs.rs,fs.st,?_⟩
 unfold zjN at o
 cases e:fz ρ S with
 | ok d S'=>rw[e] at o;exact λv H' F' g st' w=>o v H' F' (fs.gr.trans g) st' w
 | no=>rw[e] at o;exact o
 | ex n S' =>
  rw[e] at o
  dsimp only at o
  split at o
  ·rename_i hn
   intro H' F' g st'
   refine⟨cl n,rfl,hcs n hn,λa ha=>?_⟩
   have R1:=fs.rs.grow g
   have gE:Gr F' H' (upd F' a (excAt a (cl n))) (upd H' a (excAt a (cl n))):=Gr.exc R1.fh (Same.refl _) ha
   have R2:RS X.K cl p q (ρ.set i (.fz (.exc n))) (σ.set i (some (.ref a))) (upd H' a (excAt a (cl n))) (upd F' a (excAt a (cl n))):=(R1.grow gE.grS).set ne (.exc zK)
   refine⟨_,_,_,_,R2.rl,?_⟩
   cases e2:hf (ρ.set i (.fz (.exc n))) with
   | ok d=>rw[e2] at o;exact λv H2 F2 g2 q2=>o v H2 F2 (fs.gr.trans (g.trans (gE.trans g2).grS)) ((st'.grow gE).grow g2) q2
   | ex m=>rw[e2] at o;exact o.elim
   | no=>rw[e2] at o;exact o.elim
  ·exact o.elim
inductive Rj where
 | ok (S:Ob)|ex (n:Nat)|no
def spJ (K:PySem.W.Frag)(cl:Nat->Addr)(kd:Kd)(ini:List D->Rj)(n:Nat):Sp:=λvs H Q E=>∃(x dx:Addr) (us:List V) (F:Hp) (ds:List D),vs=.ref x::us/\us.length+1=n/\H x=some (.ins kd.C dx [])/\F x=none/\Same F H/\Dts K cl F us ds /\
 match ini ds with
 | .ok S=>∀(p:Pt kd) (H' F':Hp),p.a=x->p.dx=dx->Same F F'->Same F' H'->(∀b o,H b=some o->b≠x->H' b=some o)->(∀b o,H b=some o->o.mu=true->F b=none->F' b=none)->(∀i∈kd.N,H (p.ad i)=none)->Sto K cl F' H' p S->Q .non H'
 | .ex n=>∀H',Same H H'->E (.ref (cl n)) none H'
 | .no=>False
def zmQ (m:Nat)(kd:Kd)(f:Rho->Rs D)(g:Rho->Ob->Option Ob)(ds:List D):Rj:=match f (je m 0 ds) with
 | .ok _=>(match zlM m kd g ds with|some S=>.ok S|none=>.no)
 | .ex n=>.ex n
 | .no=>.no
theorem zjf {m:Nat}{kd:Kd}{g:Rho->Ob->Option Ob}{ds:List D}{S:Ob}(h:zlM m kd g ds=some S):g (je m 0 ds) []=some S/\S.length=kd.nm.length/\(∀(i:Nat) es,S[i]? = some (.ls es)->i∈kd.N)/\∀i∈kd.N,∃es,S[i]? = some (.ls es):=by
 unfold zlM at h
 cases e:g (je m 0 ds) [] with
 | none=>rw[e] at h;cases h
 | some S' =>
  rw[e] at h
  dsimp only at h
  split at h
  ·rename_i hc
   cases h
   refine⟨rfl,hc.1,λi es e=>?_,λi hi=>?_⟩
   ·have:=hc.2.2 i (lh.mp e).1
    rw[e] at this
    exact lbJ this
   ·have:=hc.2.2 i (hc.2.1 i hi)
    rw[lS hi] at this
    cases z:S[i]? with
    | none=>rw[z] at this;cases this
    | some fl=>cases fl with
     | dt d=>rw[z] at this;cases this
     | ls es=>exact⟨es,rfl⟩
  ·cases h
theorem fnJ {P:Program}{w:World}{K:PySem.W.Frag}{mg:Str->Option Value}{base:Heap}{cl:Nat->Addr}{kd:Kd}{x qual:Str}{st:Stmt}{f:Addr}{fd:FuncData}{N ps:List Str}{k m n:Nat}{f0:Rho->Rs D}{g:Rho->Ob->Option Ob}{e0:Expr}{pos:Pos}{rest:List Stmt}(Fu:Fun K x qual st f fd)(S:FnScope N ps (zm st))(hm:N.length=m)(hn:ps.length=n)(hbd:xq st=.Expr e0 pos::rest)
  (hb:∀(cdv:Value) (A:Around) (outer:List Env) (s:Shared) (H:Hp) (E:XK),Room k (A.deeper (envOfC qual (zm st) s.heap.objs.size f cdv))->XE (jc (CX1 P w) P w K mg base N qual (zm st) f cdv A outer s H E) cl E e0 f0/\XIs (jc (CX1 P w) P w K mg base N qual (zm st) f cdv A outer s H E) cl kd rest g/\swapsWith e0 none pos.line (jc (CX1 P w) P w K mg base N qual (zm st) f cdv A outer s H E).env=pure false):FnOk P w K mg base (CX1 P w) (k+1) f fd ps (spJ K cl kd (zmQ m kd f0 g) n):=by
 subst hm hn
 refine Fu.okX S (λvs H Q E h=>?_) λcdv A outer s H vs Q E hr h=>?_
 ·obtain⟨x,dx,us,F,ds,rfl,h1,_⟩:=h
  rw[lF];exact h1
 obtain⟨x,dx,us,F,ds,rfl,h1,hx,fx,sm,q,o⟩:=h
 have R0:Rl K cl H F ((D.non::ds).map .fz++List.replicate (N.length - (D.non::ds).length) .no) (L2.start N (V.non::us)) H F:=Rl.start (N:=N) sm (.cons .non q)
 have eR:je N.length 0 ds=((D.non::ds).map Sl.fz++List.replicate (N.length - (D.non::ds).length) Sl.no).set 0 .no:=rfl
 have eσ:L2.start N (V.ref x::us)=(L2.start N (V.non::us)).set 0 (some (V.ref x)):=rfl
 have R1:=(R0.hide (j:=0) (x:=some (V.ref x)))
 rw[← eR,← eσ] at R1
 have no1:∀(i:Nat) s,(je N.length 0 ds)[i]? = some s->s.own=false:=λi s e=>by
  rw[eR] at e
  rcases get_set e with⟨_,rfl,_⟩|⟨_,e⟩
  ·rfl
  ·have:=laD e
   rcases lam.mp this with z|z
   ·obtain⟨d,_,rfl⟩:=lbh.mp z;rfl
   ·rw[(lc2.mp z).2];rfl
 obtain⟨b1,b2,b3⟩:=hb cdv A outer s H E hr
 have B0:BI K cl kd x dx H F (je N.length 0 ds) (L2.start N (V.ref x::us)) H F [] [] (λ_=>0):=⟨R1.here,by rw[eσ];exact wH (by unfold L2.start;simp),by rw[hx];simp,fx,Same.refl _,λb o e _=>e,λ_ _ _ _ z=>z,rfl,λi fl e=>by simp at e,λi j ds es e=>by simp at e⟩
 rw[hbd]
 refine⟨_,jG (zdY b1 b3) b2,H,F,je N.length 0 ds,F,R1,?_⟩
 unfold zmQ at o
 cases e0':f0 (je N.length 0 ds) with
 | no=>rw[e0'] at o;exact o
 | ex n=>rw[e0'] at o;exact o
 | ok d0 =>
  rw[e0'] at o
  dsimp only at o
  intro v1 H1 F1 gg w1
  have B1:=B0.grow ⟨_,hx,rfl⟩ gg
  refine⟨x,dx,H,F,je N.length 0 ds,F1,[],[],λ_=>0,B1,⟨_,hx,rfl⟩,no1,?_⟩
  cases eI:zlM N.length kd g ds with
  | none=>rw[eI] at o;exact o.elim
  | some S' =>
   rw[eI] at o
   dsimp only at o
   obtain⟨eg,hc1,isN,ofN⟩:=zjf eI
   rw[eg]
   intro H' F' vs' ad' b
   refine o ⟨x,dx,ad'⟩ H' F' rfl rfl b.ff b.rl.fh b.hh b.no (λi hi=>?_) ⟨⟨vs',?_,b.ln,λi fl e=>?_⟩,b.fx,hc1.symm,ofN,λi hi j hj z=>?_⟩
   ·obtain⟨es,e⟩:=ofN i hi
    obtain⟨v,_,_,_,h3,_⟩:=b.fl i _ e
    exact h3
   ·have:=b.ob
    rw[b.ln,hc1,lcH] at this
    exact this
   ·obtain⟨v,h1,h2⟩:=b.fl i fl e
    refine⟨v,h1,?_⟩
    cases fl with
    | dt d=>exact h2
    | ls es=>obtain⟨r1,r2,r3,us',r4,r5⟩:=h2;exact⟨isN i es e,r1,r2,us',r4,r5⟩
   ·obtain⟨es,e⟩:=ofN i hi
    obtain⟨es',e'⟩:=ofN j hj
    exact b.inj i j es es' e e' z
def mkX (n:Nat)(ini:List D->Rj)(fs:Rho->Rs (List D)):Rho->Rs D:=λρ=>match fs ρ with | .ok ds=>if ds.length+1=n then(match ini ds with | .ex k=>.ex k|_=>.no) else .no|_=>.no
theorem zmD {X:Cx}{cl:Nat->Addr}{kd:Kd}{k n:Nat}{f:Addr}{fd:FuncData}{ps:List Str}{ini:List D->Rj}{x:Str}{p pos:Pos}{e:Expr}{es:List Expr}{fs:Rho->Rs (List D)}(M:Mk X.K kd.C f)(G:FnOk X.prog X.w X.K X.mg X.base (CX1 X.prog X.w) k f fd ps (spJ X.K cl kd ini n))(hr:Room (k+1) X.A)(hg:Gl X x)(hm:X.mg x=some (.ref kd.C))(hb:Binds X.K fd ps [])
  (ha:XA X.nox cl E0 (e::es) fs) (he:starEach (e::es) X.env=(false,eval e X.env)::starEach es X.env) (hdb:(x == ("__debug__" : Str))=false:=by decide) (hpl:(backTo pos (starEach es X.env)).any (·.1)=false:=by rfl):XX X cl (.Call (.Name x p) (e::es) [] pos) (mkX n ini fs):=by
 refine(zhA M G hr hg hm hb ha he hdb hpl).mono λσ H Q E ⟨H0,F0,ρ,F,R,o⟩=>⟨H0,F0,ρ,F,R,?_⟩
 unfold mkX at o
 cases e:fs ρ with
 | ex n=>rw[e] at o;exact o.elim
 | no=>rw[e] at o;exact o.elim
 | ok ds =>
  rw[e] at o
  dsimp only at o
  intro vs H1 F1 g1 w1 x dx nx ndx nex
  split at o
  ·rename_i hl
   have R1:=R.grow g1
   have s1:Same H1 (upd (upd H1 dx (.own x)) x (.ins kd.C dx [])):=λb o' eb=>by
    have z1:b≠x:=λz=>by rw[z,nx] at eb;cases eb
    have z2:b≠dx:=λz=>by rw[z,ndx] at eb;cases eb
    rw[zF z1,zF z2];exact eb
   refine⟨x,dx,vs,F1,ds,rfl,by rw[Dts.length w1];exact hl,zK,R1.fh.free nx,R1.fh.trans s1,w1,?_⟩
   cases e2:ini ds with
   | ok S=>rw[e2] at o;exact o.elim
   | no=>rw[e2] at o;exact o.elim
   | ex n=>rw[e2] at o;exact λH' s'=>o H' (R1.gr.hh.trans (s1.trans s'))
  ·exact o.elim
def spN (K:PySem.W.Frag)(cl:Nat->Addr)(kd:Kd)(fn:List D->Option Ob)(n:Nat):Sp:=λvs H Q _=>∃(F:Hp) (ds:List D),Same F H/\Dts K cl F vs ds/\vs.length=n /\
 match fn ds with
 | some S=>∀(p:Pt kd) (H' F':Hp),Gr F H F' H'->(∀b,p.cell b->H b=none)->Sto K cl F' H' p S->Q (.ref p.a) H'
 | none=>False
def runN (m n:Nat)(ini:List D->Rj)(fs:Rho->Rs (List D))(ds:List D):Option Ob:=match fs (ds.map Sl.fz++List.replicate (m - ds.length) Sl.no) with
 | .ok as=>if as.length+1=n then(match ini as with | .ok S=>some S|_=>none) else none
 | _=>none
theorem fnN {P:Program}{w:World}{K:PySem.W.Frag}{mg:Str->Option Value}{base:Heap}{cl:Nat->Addr}{kd:Kd}{x qual:Str}{st:Stmt}{f:Addr}{fd:FuncData}{N ps:List Str}{k m n n2:Nat}{ini:List D->Rj}{fs:Rho->Rs (List D)}{cx xc nn:Str}{cp cpos rpos np rp2 hpos tpos:Pos}{e hd:Expr}{es:List Expr}{i:Nat}(Fu:Fun K x qual st f fd)(S:FnScope N ps (zm st))(hm:N.length=m)(hn:ps.length=n)
  (hbd:xq st=[.Try [.Return (some (.Call (.Name cx cp) (e::es) [] cpos)) rpos] [.ExceptHandler (some (.Name xc np)) (some nn) [.Return (some hd) rp2] hpos] [] [] tpos])
  (hb:∀(cdv:Value) (A:Around) (outer:List Env) (s:Shared) (H:Hp) (E:XK),Room k (A.deeper (envOfC qual (zm st) s.heap.objs.size f cdv))->∃(th:TS) (C0:Addr),PS (jc (CX1 P w) P w K mg base N qual (zm st) f cdv A outer s H E) (.Try [.Return (some (.Call (.Name cx cp) (e::es) [] cpos)) rpos] [.ExceptHandler (some (.Name xc np)) (some nn) [.Return (some hd) rp2] hpos] [] [] tpos) (λD σ H=>(tDA K cl E0 fs σ H λvs H1=>∀x dx,H1 x=none->H1 dx=none->dx≠x->spJ K cl kd ini n2 (.ref x::vs) (upd (upd H1 dx (.own x)) x (.ins kd.C dx [])) (λv H2=>v=.non/\D.rt (.ref x) H2) (zgR K C0 i th D σ)))) :
  FnOk P w K mg base (CX1 P w) (k+1) f fd ps (spN K cl kd (runN m n2 ini fs) n):=by
 subst hm hn
 refine Fu.okX S (λvs H Q E h=>?_) λcdv A outer s H vs Q E hr h=>?_
 ·obtain⟨F,ds,_,_,h1,_⟩:=h;exact h1
 obtain⟨F,ds,sm,q,h1,o⟩:=h
 have R0:Rl K cl H F (ds.map .fz++List.replicate (N.length - ds.length) .no) (L2.start N vs) H F:=Rl.start (N:=N) sm q
 obtain⟨th,C0,b2⟩:=hb cdv A outer s H E hr
 rw[hbd]
 refine⟨_,zaq b2,H,F,_,F,R0,?_⟩
 unfold runN at o
 cases e1:fs (ds.map .fz++List.replicate (N.length - ds.length) .no) with
 | ex n=>rw[e1] at o;exact o.elim
 | no=>rw[e1] at o;exact o.elim
 | ok as =>
  rw[e1] at o
  dsimp only at o
  intro us H1 F1 g1 w1 x dx nx ndx nex
  by_cases hl:as.length+1=n2
  ·rw [lB hl] at o
   have s1:Same H1 (upd (upd H1 dx (.own x)) x (.ins kd.C dx [])):=λb o' eb=>by
    have z1:b≠x:=λz=>by rw[z,nx] at eb;cases eb
    have z2:b≠dx:=λz=>by rw[z,ndx] at eb;cases eb
    rw[zF z1,zF z2];exact eb
   have fh1:=g1.fh
   refine⟨x,dx,us,F1,as,rfl,by rw[Dts.length w1];exact hl,zK,fh1.free nx,fh1.trans s1,w1,?_⟩
   cases e2:ini as with
   | no=>rw[e2] at o;exact o.elim
   | ex n=>rw[e2] at o;exact o.elim
   | ok T =>
    rw[e2] at o
    dsimp only at o
    intro pn H' F' pa pdx ff fh' hk hno hfr st
    have sub:∀b o',H1 b=some o'->H' b=some o':=λb o' eb=>hk b o' (s1 b o' eb) λz=>by rw[z,nx] at eb;cases eb
    have no':∀b o',H1 b=some o'->o'.mu=true->F1 b=none->F' b=none:=λb o' eb m' w'=>hno b o' (s1 b o' eb) m' w'
    refine⟨rfl,?_⟩
    rw[← pa]
    refine o pn H' F' (g1.trans ⟨ff,sub,fh',no'⟩) (λb hb=>?_) st
    refine g1.hh.free ?_
    rcases hb with rfl|⟨i,hi',rfl⟩
    ·rw[pa];exact nx
    ·exact s1.free (hfr i hi')
  ·rw[lW hl] at o;exact o.elim
def sNw (q n:Nat)(fn:List D->Option Ob)(fs:Rho->Rs (List D))(g:Rho->Ob->O2):Rho->Out:=λρ=>match fs ρ with
 | .ok ds=>if ds.length=n then(match fn ds with|some S=>(match g (ρ.set q .no) S with | .rt d _=>.rt d|_=>.no)|none=>.no) else .no
 | _=>.no
theorem zl7 {X:Cx}{cl:Nat->Addr}{E:XK}{kd:Kd}{q n k:Nat}{f:Addr}{fd:FuncData}{ps:List Str}{fn:List D->Option Ob}{e:Expr}{es:List Expr}{fs:Rho->Rs (List D)}{x y:Str}{p' pos pos' spos:Pos}{rest:List Stmt}{g:Rho->Ob->O2}(G:FnOk X.prog X.w X.K X.mg X.base (CX1 X.prog X.w) k f fd ps (spN X.K cl kd fn n))(hr:Room k X.A)(hg:Gl X x)(hm:X.mg x=some (.ref f))(hk:PySem.W.keepIn X.K (.ref f)=true)(hb:Binds X.K fd ps [])(hx:uE (CX1 X.prog X.w) X E)
  (hN:X.N.Nodup) (hi:X.N[q]? = some y) (hy:Loc X.env.scope y) (ha:XA X cl E (e::es) fs) (hrest:ziP X cl kd q rest g) (he:starEach (e::es) X.env=(false,eval e X.env)::starEach es X.env) (hs:swapsWith (.Call (.Name x p') (e::es) [] pos) (some (.Name y pos')) spos.line X.env=pure false:=by rfl) (hf:X.fn y=true∨X.env.scope.names.lookup y=some .local:=by first|exact .inl rfl|exact .inr rfl|assumption) (hdb:(x == ("__debug__" : Str))=false:=by decide) (hpl:(backTo pos (starEach es X.env)).any (·.1)=false:=by rfl) :
  XSs X cl E (.Assign [.Name y pos'] (.Call (.Name x p') (e::es) [] pos) spos::rest) (sNw q n fn fs g):=by
 intro pins s σ H Dn I ⟨H0,F0,ρ,F,R,o⟩
 refine jG (zeX hN hi hy (zbh G hr hg hm hk hb .nil hx ha hdb he hpl) hs hf) hrest pins s σ H Dn I ⟨H0,F0,ρ,F,R,?_⟩
 have qs:q<σ.length:=by rw[I.len];exact(lh.mp hi).1
 unfold sNw at o
 cases e1:fs ρ with
 | ok ds =>
  rw[e1] at o
  dsimp only at o
  intro vs H1 F1 g1 w1
  split at o
  ·rename_i hl
   rw[lD]
   have R1:=R.grow g1
   refine⟨F1,ds,R1.fh,w1,by rw[Dts.length w1];exact hl,?_⟩
   cases e2:fn ds with
   | none=>rw[e2] at o;exact o.elim
   | some S =>
    rw[e2] at o
    dsimp only at o
    intro p H' F' gn fr st
    have R2:=(R1.grow gn).hide (j:=q) (x:=some (V.ref p.a))
    have nc:∀b o',H1 b=some o'->¬p.cell b:=λb o' eb z=>by rw[fr b z] at eb;cases eb
    refine⟨p,H0,F0,ρ.set q .no,F',S,⟨⟨(R1.gr.trans gn).ff,λb o' eb _=>(R1.gr.trans gn).hh b o' eb,gn.fh,(R1.gr.trans gn).no,λb o' hc eb _=>absurd hc (nc b o' (R1.gr.hh b o' eb))⟩,⟨R2.here,wH qs,wH (R.len▸qs),λi s b z oo eb=>?_⟩,st,λi s b z oo eb=>?_⟩,?_⟩
    ·rcases get_set z with⟨rfl,w,_⟩|⟨hj,w⟩
     ·subst w;cases oo
     ·rw[lq hj] at eb
      have:=R1.apart w oo eb
      cases e5:H1 b with
      | none=>exact absurd e5 this
      | some o5=>exact nc b o5 e5
    ·rcases get_set z with⟨rfl,w,_⟩|⟨hj,w⟩
     ·subst w;cases oo
     ·rw [lq hj] at eb
      cases s with
      | ow ds' =>
       obtain⟨a',vs',x1,x2,x3,x4,x5⟩:=R.ow i ds' w
       rw[eb] at x1
       injection x1 with x1;injection x1 with x1;injection x1 with x1
       rw[x1];exact x4
      | od ds' =>
       obtain⟨a',vs',x1,x2,x3,x4,x5⟩:=R.od i ds' w
       rw[eb] at x1
       injection x1 with x1;injection x1 with x1;injection x1 with x1
       rw[x1];exact x4
      | _=>cases oo
    ·cases e6:g (ρ.set q .no) S with
     | nx ρ6 S6=>rw[e6] at o;exact o.elim
     | no=>rw[e6] at o;exact o.elim
     | rt d S6 =>
      rw[e6] at o
      intro v H6 F6 g6 st6 w6
      refine o v H6 F6 ⟨g6.ff,λb o' eb=>g6.hh b o' eb ?_,g6.fh,g6.no⟩ w6
      intro z
      have eb1:=R1.gr.hh b o' eb
      rw[fr b z] at eb1;cases eb1
  ·exact o.elim
 | ex n=>rw[e1] at o;exact o.elim
 | no=>rw[e1] at o;exact o.elim
def zin (i j:Nat)(f:Rho->Ob->Ro D):Rho->Ob->O2:=λρ S=>match f ρ S with|some (.tup [a,b],S')=>.nx ((ρ.set i (.fz a)).set j (.fz b)) S'|_=>.no
theorem zkI {X:Cx}{cl:Nat->Addr}{kd:Kd}{q:Nat}{e:Expr}{f:Rho->Ob->Ro D}{i j:Nat}{x y:Str}{px py tp pos:Pos}{k:Nat}(ni:i≠q)(nj:j≠q)(hg:PG X (.Tuple [.Name x px,.Name y py] k tp) (zmR X.K 2 (zcw (kY i) (zcw (kY j) zmX))))(he:XE2 X cl kd q e f)(hs:swapsWithSole [.Tuple [.Name x px,.Name y py] k tp] e pos.line X.env=pure false:=by rfl)(hw:swappedStores [.Tuple [.Name x px,.Name y py] k tp] e X.env=pure none:=by rfl) :
  XS2 X cl kd q (.Assign [.Tuple [.Name x px,.Name y py] k tp] e pos) (zin i j f):=by
 intro pins s σ H Dn I ⟨p,H0,F0,ρ,F,S,fs,o⟩
 refine(zoT he hg hs hw) pins s σ H Dn I ⟨p,ρ,F,S,fs.rs,fs.st,?_⟩
 unfold zin at o
 cases e:f ρ S with
 | none=>rw[e] at o;exact o
 | some r =>
  obtain⟨d,S'⟩:=r
  rw[e] at o
  intro v H' F' gg st' q
  match d,q,o with
  | .tup [d1,d2],q,o =>
   cases q with
   | tup sq dq =>
    obtain⟨v1,v2,rfl,q1,q2⟩:=dq.two
    exact⟨_,_,rfl,gg.fh.seqT sq,rfl,v1,_,rfl,v2,_,rfl,rfl,o _ _ F' (((fs.grow gg st').set ni q1).set nj q2) gg.ff⟩
  | .non,_,o=>exact o.elim
  | .bl _,_,o=>exact o.elim
  | .int _,_,o=>exact o.elim
  | .str _,_,o=>exact o.elim
  | .lst _,_,o=>exact o.elim
  | .dct _,_,o=>exact o.elim
  | .exc _,_,o=>exact o.elim
  | .tup [],_,o=>exact o.elim
  | .tup [_],_,o=>exact o.elim
  | .tup (_::_::_::_),_,o=>exact o.elim
inductive Mz (K:PySem.W.Frag)(C:Addr)(x q:Str)(st:Stmt):Prop
 | mk {f:Addr}{oc kV dc pm cd ct:Value}{od an:Option Addr}{sl:Array (Option Value)} (a:PySem.W.findIn K (.ref C) x=some (some (.ref f))) (i:PySem.W.isFn K (.ref f)=true) (l:K.lookup f=some ⟨oc,od,.func (PySem.W.fnOf x q (jj st) (xq st) (zm st) .none kV dc pm an cd ct),sl⟩) (c:PySem.W.codeIn K cd q=true) (k:PySem.W.keepIn K (.ref f)=true):Mz K C x q st
theorem Mz.md {K:PySem.W.Frag}{C:Addr}{x q:Str}{st:Stmt}(z:Mz K C x q st)(ps:List Str)(hb:∀(kV doc pm:Value) (an:Option Addr) (cdv ct:Value) (us:List Value),us.length=ps.length->bindArgs (PySem.W.fnOf x q (jj st) (xq st) (zm st) .none kV doc pm an cdv ct) ⟨us,[]⟩=pure (ps.zip us)):Nonempty (Md K C x q st ps):=by
 obtain⟨a,i,l,c,k⟩:=z
 exact⟨⟨_,_,zeH l c k,⟨a,i,k⟩,(zeH l c k).binds hb⟩⟩
theorem yR {N ps:List Str}{sc:Scope}(h:N.Nodup/\(∀x∈ps,sc.names.lookup x=some .local∨sc.names.lookup x=some .cell)/\∀y∈sc.names,y.2≠.free)(a:sc.kind=.function:=by rfl)(b:sc.isCoroutine=false:=by rfl)(c:sc.isGenerator=false:=by rfl)(d:N.take ps.length=ps:=by rfl):FnScope N ps sc:=⟨a,b,c,h.1,d,h.2.1,h.2.2⟩
section
variable {P:Program}{w:World}{K:PySem.W.Frag}{mg:Str->Option Value}{base:Heap}{cl:Nat->Addr}{x q:Str}{st:Stmt}{ps N:List Str}{k m n j:Nat}{C:Addr}
abbrev OkD (P:Program)(w:World)(base:Heap)(cl:Nat->Addr)(d:Dn K mg x st ps)(k:Nat)(fn:List D->Rs D)(n:Nat):Prop:=FnOk P w K mg base (CX1 P w) k d.f d.fd ps (spD K cl fn n)
theorem okD {d:Dn K mg x st ps}{g:Rho->Out}(S:FnScope N ps (zm st))(hm:N.length=m)(hn:ps.length=n)
  (hb:∀(cdv:Value) (A:Around) (outer:List Env) (s:Shared) (H:Hp) (E:XK),Room k (A.deeper (envOfC x (zm st) s.heap.objs.size d.f cdv))->XSs (jc (CX1 P w) P w K mg base N x (zm st) d.f cdv A outer s H E) cl E (xq st) g):OkD P w base cl d (k+1) (yQ m g) n:=fnD d.fn S hm hn hb
abbrev OkS (P:Program)(w:World)(mg:Str->Option Value)(base:Heap)(cl:Nat->Addr)(kd:Kd)(d:Md K C x q st ps)(k:Nat)(fn:List D->Ob->Ro D)(n j:Nat):Prop:=FnOk P w K mg base (CX1 P w) k d.f d.fd ps (spS K cl kd fn n j)
theorem okS {d:Md K C x q st ps}{kd:Kd}{g:Rho->Ob->O2}(S:FnScope N ps (zm st))(hm:N.length=m)(hn:ps.length=n)
  (hb:∀(cdv:Value) (A:Around) (outer:List Env) (s:Shared) (H:Hp) (E:XK),Room k (A.deeper (envOfC q (zm st) s.heap.objs.size d.f cdv))->ziP (jc (CX1 P w) P w K mg base N q (zm st) d.f cdv A outer s H E) cl kd j (xq st) g):OkS P w mg base cl kd d (k+1) (zd0 m j g) n j:=fnS d.fn S hm hn hb
end
theorem xn {X:Cx}{cl:Nat->Addr}{E:XK}(i:Nat){x:Str}{pos:Pos}(hN:X.N[i]? = some x:=by rfl)(hv:Vis X.env.scope x:=by first|exact Or.inl rfl|exact Or.inr (Or.inl rfl)|exact Or.inr (Or.inr rfl))(hd:(x == ("__debug__" : Str))=false:=by decide)(hcd:(x == ("__classdict__" : Str))=false:=by decide):XE X cl E (.Name x pos) (fNm i):=zpK i (zle hN hv hd hcd)
end L2
set_option maxHeartbeats 4000000
namespace K63
open PySem L2 PyProof.Rows
open My
open Pg
def zx (C:Addr):Kd:=⟨C,["many", "chosen", "done", "rests", "undone"],[2,3,4]⟩
def yU:Rho->Rs D :=
  (fA (ari 2 wN) (zf (fNm 1) (zf (fNm 2) zE)))
def yC:Rho->Ob->Option Ob :=
  (zm4 (iDt 0 (fNm 1))
  (zm4 (iDt 1 (fNm 2))
  (zm4 (iLs 2 zE)
  (zm4 (iLs 3 (zf (fC (.str [])) zE))
  (iLs 4 zE)))))
def yL:List D->Rj:=zmQ 3 (zx 0) yU yC
abbrev hq8:=fC (.str [114,101,102,117,115,101,100])
def u6:Rho->Out :=
  (yr (xR 1 (fO mkL (zf (f1 (zmW [(1,true),(3,false),(7,false)]) (fNm 0)) (zf (f1 (zmW [(1,false),(3,true),(7,false)]) (fNm 0)) (zf (f1 (zmW [(1,false),(3,false),(7,true)]) (fNm 0)) zE)))))
  (yr (sIf (bOr (bT (f2 (eqD true) (fM zo8 zlC (fNm 1) (fC (.bl true))) (fC (.int 1)))) (zbR (bT (f1 (zmW [(1,true),(3,true),(7,true)]) (fNm 0)))))
  (wz (fO mkT (zf hq8 (zf (f1 zpH (fC (.int 1))) zE))))
  sNx)
  (wz (fO mkT (zf hq8 (zf (fM zo8 zl6 (fNm 1) (fC (.bl true))) zE))))))
def wJ:List D->Rs D:=yQ 2 u6
abbrev zlh:=zf (fNm 0) (zf (fNm 1) zE)
def zbm:Rho->Out :=
  (znB 2 [1,3,7] (mkX 3 yL zlh) (fA (ari 1 wJ) (zf (fNm 2) zE)))
def v7:List D->Rs D:=yQ 3 zbm
def uJ:List D->Option Ob:=runN 3 3 yL zlh
abbrev hq7:=vB 3 (fCp (fI tpD (fNm 0)) (bT (fM isS xg (fNm 1) (fNm 0))) (fNm 0) [1])
abbrev zmv:=f2 ixD (fNm 3) (fC (.int 0))
abbrev zoE:=xR 1 (fSl (fNm 1) (xK (fO ul (zf zmv zE))) wg)
abbrev zqg:=bT (f2 (eqD true) (fNm 3) (fO mkL zE))
def za5:Rho->Out :=
  (yr (vy 2 (fL szL zE))
  (yr hq7
  (yr (zai (sWh 100 zqg
  (yr (zbj 2 zmv)
  (yr zoE
  hq7))))
  (zch 2 (wz (fO mkT (zf (fNm 2) (zf (fNm 1) zE))))))))
def wZ:List D->Rs D:=yQ 4 za5
def kh:Rho->Ob->O2 :=
  (zfG (oL 3 λds=>ixD (.lst ds) (.int (-1))))
def vm:List D->Ob->Ro D:=zd0 1 0 kh
def vf:Rho->Ob->O2 :=
  (vJ (jf 2 (eA (ari 2 jg) (cC (oD 1) (cC (e2 zdc (eM0 vm) (L2.up (fNm 1))) cN))))
  (vJ (zcK (zm5 2 (L2.up (fNm 1))))
  (vJ (zcK (zm5 3 (L2.up (f2 ixD (fNm 2) (fC (.int 1))))))
  (zfG (L2.up (f2 ixD (fNm 2) (fC (.int 0))))))))
def vU:List D->Ob->Ro D:=zd0 3 0 vf
def qD:Rho->Ob->Rz :=
  (qC 2 yp (cC (oD 0) (cC (L2.up (fNm 1)) cN)))
abbrev zo0:=eM 2 vU (L2.up (zf (fNm 1) zE))
def vL:Rho->Ob->O2 :=
  (vJ (zcK (zp6 4))
  (zfG zo0))
def wk:List D->Ob->Rz:=zhx 2 0 qD vL
def uQ:Rho->Out :=
  (sIf (bT (f2 (eqD false) (fNm 0) (fO mkL zE)))
  (sRs 7 (zf (fC (.str [116,104,101,114,101,32,105,115,32,110,111,32,116,101,120,116,32,116,111,32,116,97,107,101,32,98,97,99,107,32,111,114,32,116,111,32,116,101,108,108,32,97,103,97,105,110])) zE))
  sNx)
def xT:List D->Rs D:=yQ 1 uQ
def qN:Rho->Ob->Rz :=
  (qL 2 xT)
def vO:Rho->Ob->O2 :=
  (vJ (jf 1 (zmj 2))
  (vJ (zcK (zmj 3))
  (vJ (zcK (zm5 4 (L2.up (fNm 1))))
  (zfG (L2.up (fNm 1))))))
def xr:List D->Ob->Rz:=zhx 2 0 qN vO
def uR:Rho->Ob->Rz :=
  (qL 4 xT)
def vd:Rho->Ob->O2 :=
  (vJ (jf 1 (zmj 4))
  (vJ (zcK zo0)
  (zfG (L2.up (fNm 1)))))
def yE:List D->Ob->Rz:=zhx 2 0 uR vd
abbrev zo6:=qIf (bT (f2 (eqD false) (fNm 1) (fC (.int 1)))) (qM0 xr) (qM0 yE)
abbrev zo4:=qM 2 wk (L2.up (zf (fNm 2) zE))
abbrev zqa:=bT (f2 (eqD false) (fNm 1) (fC (.int 0)))
def zal:Rho->Ob->O2 :=
  (zjN 3 [1,3,7] (qIf zqa zo4 zo6) (fA (ari 1 wJ) (zf (fNm 3) zE)))
def xN:List D->Ob->Ro D:=zd0 4 0 zal
def u5:Rho->Ob->O2 :=
  (zfG (eO mkT (cC (oL 2 λds=>ul [.lst ds]) (cC (oL 4 λds=>ul [.lst ds]) cN))))
def wG:List D->Ob->Ro D:=zd0 1 0 u5
def qx:Rho->Ob->O2 :=
  (zfG (oL 2 λds=>qQ (.str []) (.lst ds)))
def xY:List D->Ob->Ro D:=zd0 1 0 qx
def vX:Rho->Ob->O2 :=
  (zfG (e2 ixD (eA (ari 2 zaT) (cC (oD 1) (cC (eM0 xY) cN))) (L2.up (fC (.int 0)))))
def vG:List D->Ob->Ro D:=zd0 1 0 vX
def uX:Rho->Ob->O2 :=
  (zfG (e2 ixD (eA (ari 2 jg) (cC (oD 1) (cC (eM0 xY) cN))) (L2.up (fC (.int 0)))))
def ug:List D->Ob->Ro D:=zd0 1 0 uX
abbrev zov:=xR 6 (f2 zdc (f2 ixD (fC (.str [48,49])) (f2 zgM (fNm 5) (fC (.int 2)))) (fNm 6))
abbrev zmE:=fO ul (zf (fNm 0) zE)
abbrev znT:=xR 5 (f2 zcp (fNm 5) (fC (.int 2)))
def zam:Rho->Out :=
  (yr (xR 1 (fC (.int 0)))
  (yr (xR 2 (fC (.int 1)))
  (yr (zai (jn 3 (fR zc5 (zf (fC (.int 6)) zE))
  (sIf (bT (f2 ltI (fNm 2) zmE))
  (yr (xR 2 (f2 zfp (fC (.int 2)) (fNm 2)))
  (xR 1 (f2 uh (fNm 1) (fC (.int 1)))))
  sNx)))
  (yr (vy 4 (fL szL zE))
  (yr (zai (jn 5 (fR zc5 (zf zmE zE))
  (yr (xR 6 (fC (.str [])))
  (yr (jn 3 (fR zc5 (zf (fNm 1) zE))
  (yr zov
  znT))
  (zbj 4 (fNm 6))))))
  (zch 4 (wz (fNm 4))))))))
def jm:List D->Rs D:=yQ 7 zam
abbrev znb:=fM zql zn8 (fNm 2) (fNm 0)
def jz:Rho->Out :=
  (yr (xR 2 (fA (ari 1 jm) (zf (fNm 0) zE)))
  (wz (fM isS qQ (fC (.str [])) (xX (fI lsD (f2 ixD (fA (ari 2 wZ) zlh) (fC (.int 0)))) wA (f2 ixD (fNm 1) znb) [2,0]))))
def wF:List D->Rs D:=yQ 3 jz
abbrev zpa:=zf (fC (.int 5)) zE
abbrev hq0:=jf 9 (L2.up (f2 ixD (fO mkL (zf (fC (.str [101])) (zf (fC .non) (zf (fC (.int 1)) (zf (fO mkL (zf (fC (.str [97])) zE)) (zf (fC (.str [97,65])) zE)))))) (fA (ari 3 zJ) (zf (fNm 0) (zf (f2 uh (fNm 7) (fC (.int 9))) zpa)))))
abbrev hq1:=f2 (eqD false) (fA (ari 3 zJ) (zf (fNm 0) (zf (f2 uh (fNm 7) (fC (.int 8))) (zf (fC (.int 9)) zE)))) (fC (.int 0))
abbrev hq2:=fCh leI leI (fC (.int 0)) (fNm 14) (fO ul (zf (fNm 4) zE))
abbrev hq3:=fO mkT (zf (fC .non) (zf (fSl (fNm 2) wg (xK (f1 zpH (fC (.int 1))))) (zf (fLs (fL zqj (zf (fNm 2) zE))) (zf (fO mkT zE) zE))))
abbrev hq4:=zf (fA (ari 2 wF) (zf (fNm 2) (zf (fNm 10) zE))) zE
abbrev zpy:=zf (fC (.int 2)) zE
abbrev hq5:=fO mkL (zf (fC (.int 0)) (zf (fC (.int 0)) (zf (fC (.int 0)) (zf (fC (.int 0)) (zf (fC (.int 1)) zpy)))))
abbrev hq6:=fSl (fNm 4) wg (xK (fNm 5))
abbrev znK:=f2 (inC true) (fNm 0) (fNm 1)
abbrev hq9:=f2 (eqD false) (xX (fI sgD (fNm 9)) (bT znK) (fNm 0) [11]) (fO mkL zE)
abbrev znW:=bT (f2 (eqD false) (fNm 8) (fC (.int 0)))
abbrev zmU:=zea znW (zbR (bT (fNm 12)))
abbrev zjv:=zfG (L2.up (fC (.bl false)))
abbrev zon:=zf (fNm 0) (zf (f2 uh (fNm 7) (fC (.int 1))) (zf (fNm 1) zpa))
abbrev zm0:=zf (fC (.int 16)) (zf zmE zE)
abbrev zo1:=bO2 (bB (e2 (eqD true) (eM0 vm) (L2.up (fNm 17)))) (bB (e2 (eqD true) (eM0 ug) (L2.up (fA (ari 2 wF) (zf (fNm 2) (zf (fNm 15) zE))))))
abbrev zn6:=fA (ari 3 zJ) (zf (fNm 0) (zf (fNm 7) (zf (fC (.int 6)) zE)))
abbrev zm9:=fA (ari 2 wF) (zf (fNm 2) (zf (f2 zdc (fNm 10) (fNm 9)) zE))
abbrev zo5:=zf (fNm 0) (zf (fC (.int 20)) (zf (fNm 1) (zf (fA (ari 3 zJ) (zf (fNm 0) (zf (fC (.int 1)) zpa))) zE)))
abbrev zn0:=zf (fNm 5) (zf (f2 zfn (fO ul (zf (fNm 4) zE)) (fNm 5)) zE)
abbrev zk8:=f2 uh (fNm 5) (fC (.int 1))
abbrev zm1:=fO minD (zf (fNm 5) (zf (fNm 14) zE))
abbrev zo2:=bO2 (bB (e2 (eqD true) (eM0 xY) (L2.up (fNm 15)))) (bB (e2 (eqD true) (eM0 vG) (L2.up (fNm 16))))
abbrev zmY:=bT (f2 (eqD false) (fNm 8) (fC (.int 1)))
abbrev zoV:=bB (e2 (eqD true) (eM 3 xN (L2.up (zf (fNm 8) (zf (fNm 9) zE)))) (L2.up (fNm 13)))
abbrev zoW:=fA (ari 3 zJ) (zf (fNm 0) (zf (fC (.int 0)) (zf (fC (.int 3)) zE)))
abbrev zm2:=f2 zfn (fNm 5) (fC (.int 1))
abbrev zo3:=zin 16 17 (L2.up (fA (ari 2 wZ) (zf (fNm 2) (zf (fNm 15) zE))))
abbrev zoX:=jf 7 (L2.up (f2 uh (fC (.int 40)) (f2 zfp (fC (.int 10)) (fNm 6))))
abbrev zoY:=jf 11 (L2.up (fSl (fC (.str [97,98,99,100])) wg (xK (fNm 1))))
abbrev znu:=zf (fNm 1) (zf (fNm 0) zE)
abbrev znY:=fO mkL (zf (fNm 9) zE)
abbrev zph:=f1 (zcP isStr) (fNm 9)
def zlv:Rho->Out :=
  (yr (xR 1 (f2 uh (fC (.int 2)) zoW))
  (yr (xR 2 (fA (ari 4 uw) zo5))
  (sNw 3 2 uJ (zf (fNm 1) (zf (fNm 2) zE))
  (vJ (jf 4 (L2.up (fO mkL zE)))
  (vJ (jf 5 (L2.up (fC (.int 0))))
  (vJ (zoS 6 (fR zc5 (zf (fO maxD (zf (fC (.int 1)) (zf (fO minD zm0) zE))) zE))
  (vJ zoX
  (vJ (jf 8 (L2.up (f2 ixD hq5 zn6)))
  (vJ (jf 9 (L2.up (fA (ari 4 vq) zon)))
  (vJ (zIf (L2.up (bT hq1))
  hq0
  zNx)
  (vJ (jf 10 (L2.up (fM isS qQ (fC (.str [])) hq6)))
  (vJ zoY
  (vJ (jf 12 (L2.up (zaW zph hq9)))
  (vJ (zIf (L2.up zmU)
  (jf 13 (L2.up (fO mkT (zf hq8 (zf (fC (.int 1)) zE)))))
  (zIf (L2.up znW)
  (vJ (jf 13 (L2.up (fSl zm9 (xK (fO ul hq4)) wg)))
  (vJ (jf 4 (L2.up (fLs (fL2 zjb hq6 znY))))
  (jf 5 (L2.up zk8))))
  (vJ (jf 14 (L2.up (fIf zmY zm2 zk8)))
  (vJ (jf 13 (L2.up (fIf (bT hq2) (f2 ixD (fNm 4) zm1) (fO mkT (zf hq8 zpy)))))
  (jf 5 (L2.up (fIf (bT hq2) (fNm 14) (fNm 5))))))))
  (vJ (zIf zoV
  zjv
  zNx)
  (vJ (zIf (bB (e2 (eqD true) (eM0 wG) (L2.up (fO mkT zn0))))
  zjv
  zNx)
  (vJ (jf 15 (L2.up (fM isS qQ (fC (.str [])) hq6)))
  (vJ zo3
  (vJ (zIf zo2
  zjv
  zNx)
  (zIf zo1
  zjv
  zNx)))))))))))))))
  (zfG (L2.up (f2 (eqD false) (xX (fI tpD hq3) wA (fA (ari 2 v7) znu) [1]) (fLs (fL2 zpA (fO mkL (zf (fO mkT (zf hq8 (zf (fC (.int 0)) zE))) zE)) (fC (.int 4)))))))))))))
def zkR:List D->Rs D:=yQ 18 zlv
end K63
namespace K63
open PySem L2 My Pg
section
variable {α β:Type}{f fa fb:Rho->Ob->Ro D}{fs:Rho->Ob->Ro (List D)}{ft fu:Rho->Ob->Ro Bool}{ρ ρ':Rho}{S S1 S2:Ob}{a b d:D}{g h:Rho->Ob->O2}{i:Nat}
theorem zV {f:Rho->Rs α}{a:α}(e:f ρ=.ok a):L2.up f ρ S=some (a,S):=by unfold L2.up;rw[e]
theorem zcO {f:Rho->Ob->Ro α}{k:α->Rho->Ob->Ro β}{a:α}{r:Ro β}(e:f ρ S=some (a,S1))(e2:k a ρ S1=r):b2 f k ρ S=r:=by unfold b2;rw[e];exact e2
theorem zdx {k:D->D->Option D}(h1:fa ρ S=some (a,S1))(h2:fb ρ S1=some (b,S2))(h3:k a b=some d):e2 k fa fb ρ S=some (d,S2):=zcO h1 (zcO h2 (by rw[h3];rfl))
theorem zbJ {as:List D}(h1:fa ρ S=some (a,S1))(h2:fs ρ S1=some (as,S2)):cC fa fs ρ S=some (a::as,S2):=zcO h1 (zcO h2 rfl)
theorem zpp {k:List D->Option D}{ds:List D}(h1:fs ρ S=some (ds,S1))(h2:k ds=some d):eO k fs ρ S=some (d,S1):=zcO h1 (by rw[h2];rfl)
theorem zmd {k:List D->Rs D}{ds:List D}(h1:fs ρ S=some (ds,S1))(h2:k ds=.ok d):eA k fs ρ S=some (d,S1):=zcO h1 (by rw[h2];rfl)
theorem zmf {n:Nat}{k:List D->Ob->Ro D}{ds:List D}{r:Ro D}(h1:fs ρ S=some (ds,S1))(hl:ds.length+1=n)(h2:k ds S1=r):eM n k fs ρ S=r:=zcO h1 (by rw[lB hl];exact h2)
theorem zhr {c:Bool}(h1:fa ρ S=some (.bl c,S1)):bB fa ρ S=some (c,S1):=zcO h1 rfl
theorem zn5 {c:Bool}(h1:ft ρ S=some (false,S1))(h2:fu ρ S1=some (c,S2)):bO2 ft fu ρ S=some (c,S2):=zcO h1 (by rw[lW lv];exact h2)
theorem zL (e:g ρ S=.nx ρ' S1):vJ g h ρ S=h ρ' S1:=by unfold vJ;rw[e]
theorem zU (e:f ρ S=some (d,S1)):jf i f ρ S=.nx (ρ.set i (.fz d)) S1:=by unfold jf;rw[e]
theorem jL (e:f ρ S=some (d,S1)):zcK f ρ S=.nx ρ S1:=by unfold zcK;rw[e]
theorem uT (e:f ρ S=some (d,S1)):zfG f ρ S=.rt d S1:=by unfold zfG;rw[e]
theorem zox (e:ft ρ S=some (false,S1)):zIf ft g zNx ρ S=.nx ρ S1:=by unfold zIf;rw[e];rfl
theorem zlU {fi:Rho->Rs (List D)}{ds:List D}(e:fi ρ=.ok ds):zoS i fi g ρ S=zlt i g ds ρ S:=by unfold zoS;rw[e]
theorem qw {m j:Nat}{ds:List D}(e:g (je m j ds) S=.rt d S1):zd0 m j g ds S=some (d,S1):=by unfold zd0;rw[e]
theorem zkq {l:List α}{enc:α->D}(I:Nat->Rho->Ob->Prop)(h0:I 0 ρ S)(hs:∀k x ρ S,l[k]? = some x->I k ρ S->∃ρ' S',g (ρ.set i (.fz (enc x))) S=.nx ρ' S'/\I (k+1) ρ' S'):∃ρ' S',zlt i g (l.map enc) ρ S=.nx ρ' S'/\I l.length ρ' S':=by
 induction l generalizing ρ S I with
 | nil=>exact⟨ρ,S,rfl,h0⟩
 | cons x l ih =>
  obtain⟨ρ1,S1,e1,i1⟩:=hs 0 x ρ S rfl h0
  obtain⟨ρ2,S2,e2,i2⟩:=ih (λk=>I (k+1)) i1 λk y ρ S hk hI=>hs (k+1) y ρ S hk hI
  refine⟨ρ2,S2,?_,i2⟩
  show(match g (ρ.set i (.fz (enc x))) S with | .nx ρ' S'=>zlt i g (l.map enc) ρ' S'|o=>o)=_
  rw[e1];exact e2
theorem zj5 {k:List D->Option D}{ds:List D}(h1:S[i]? = some (.ls ds))(h2:k ds=some d)(h3:d.fl=true):oL i k ρ S=some (d,S):=by
 unfold oL;rw[h1];show(match k ds with|some d=>if d.fl=true then some (d,S) else none|none=>none)=_;rw[h2];exact lB h3
theorem zfF {ds:List D}(h1:fa ρ S=some (a,S1))(h2:S1[i]? = some (.ls ds))(hl:ds.length<1000000):zm5 i fa ρ S=some (.non,S1.set i (.ls (ds++[a]))):=zcO h1 (by rw[h2];exact lB hl)
theorem zfC {ds:List D}(h2:S[i]? = some (.ls (ds++[d]))):zmj i ρ S=some (d,S.set i (.ls ds)):=by
 unfold zmj;rw[h2]
 show(match (ds++[d])[(ds++[d]).length - 1]? with|some d'=>some (d',S.set i (.ls (ds++[d]).dropLast))|none=>none)=_
 rw[lw,laF,Nat.add_sub_cancel,lE (lp _),lc1,lcM];rfl
end
def st (m:Nat)(B dn rs ud:List (List Nat)):Ob:=[.dt (.int m),.dt (.tup (sT B)),.ls (sT dn),.ls (sT rs),.ls (sT ud)]
def rF (B dn:List (List Nat)):List (List Nat):=(List.range (dn.length+1)).map λk=>(yI B (dn.take k).flatten).2
abbrev Qs (m:Nat)(B dn ud:List (List Nat)):Ob:=st m B dn (rF B dn) ud
def sg (B:List (List Nat))(l:List Nat):List Nat:=((yI B l).1.map (wd B)).flatten
theorem zlZ (B dn:List (List Nat)):∃L,rF B dn=L++[(yI B dn.flatten).2]:=by
 unfold rF
 rw[lbY,la7]
 exact⟨_,by rw[List.map_singleton,lcH]⟩
theorem zh6 (B dn:List (List Nat))(x:List Nat):rF B (dn++[x])=rF B dn++[(yI B (dn++[x]).flatten).2]:=by
 have e:rF B (dn++[x])=((List.range (dn.length+1)).map λk=>(yI B ((dn++[x]).take k).flatten).2)++[(yI B (dn++[x]).flatten).2]:=by
  unfold rF
  rw[show(dn++[x]).length+1=(dn.length+1)+1 from by simp,lbY (n:=dn.length+1),la7,List.map_singleton,lat (by simp)]
 rw[e]
 congr 1
 unfold rF
 refine lch λk hk=>?_
 have:=la5.mp hk
 rw[List.take_append_of_le_length (by omega)]
theorem zl3 (L:List (List Nat))(x:List Nat):ixD (.lst (sT (L++[x]))) (.int (-1))=some (.str x):=by
 show atI (sT (L++[x])) (-1)=_
 unfold atI
 have:ixN (sT (L++[x])).length (-1)=some L.length:=by
  rw[yq,lw,laF]
  unfold ixN
  rw[lW (by omega),lB (by omega)]
  congr 1
  omega
 rw[this,← kJ]
 show(sT L++[D.str x])[L.length]? = _
 rw[lE (by rw[yq];exact lp _),yq,lc1];rfl
section
variable {m:Nat}{B dn ud:List (List Nat)}{x:List Nat}
theorem zjm:vm [] (Qs m B dn ud)=some (.str (yI B dn.flatten).2,Qs m B dn ud):=by
 obtain⟨L,e⟩:=zlZ B dn
 exact qw (uT (zj5 (ds:=sT (rF B dn)) rfl (by rw[e];exact zl3 L _) rfl))
theorem zdj (hl:dn.flatten.length<=900):xY [] (Qs m B dn ud)=some (.str dn.flatten,Qs m B dn ud) :=
 qw (uT (zj5 (ds:=sT dn) rfl (by dsimp only [qQ];rw[za0,lB ⟨zbl _,by omega⟩]) rfl))
theorem zk3 (h:Bb m B){l:List Nat}(hl:l.length<=900):jg [.tup (sT B),.str l]=.ok (.tup [.str (sg B l),.str (yI B l).2]):=zhD h.l32 (strict h.bk.srt h.bk.nd) (by omega)
theorem zpI {fn:List D->Rs D}{a b:D}{r:Rs D}(e:fn [a,b]=r):ari 2 fn [a,b]=r:=(lB rfl).trans e
theorem zkG (h:Bb m B)(hl:dn.flatten.length<=900):ug [] (Qs m B dn ud)=some (.str (sg B dn.flatten),Qs m B dn ud) :=
 qw (uT (zdx (zmd (ds:=[.tup (sT B),.str dn.flatten]) (zbJ (a:=.tup (sT B)) (S1:=Qs m B dn ud) rfl (zbJ (a:=.str dn.flatten) (S1:=Qs m B dn ud) (zdj hl) rfl)) (zpI (zk3 h hl))) (zV (a:=.int 0) rfl) rfl))
theorem zhP (hl:dn.flatten.length<=900):vG [] (Qs m B dn ud)=some (.lst (sT (yI B dn.flatten).1),Qs m B dn ud) :=
 qw (uT (zdx (zmd (ds:=[.tup (sT B),.str dn.flatten]) (zbJ (a:=.tup (sT B)) (S1:=Qs m B dn ud) rfl (zbJ (a:=.str dn.flatten) (S1:=Qs m B dn ud) (zdj hl) rfl)) (zpI (zeG (by omega)))) (zV (a:=.int 0) rfl) rfl))
theorem zjM:wG [] (Qs m B dn ud)=some (.tup [.int dn.length,.int ud.length],Qs m B dn ud) :=
 qw (uT (zpp (ds:=[.int dn.length,.int ud.length]) (zbJ (S1:=Qs m B dn ud) (zj5 (ds:=sT dn) rfl (by show some (D.int ((sT dn).length:Int))=_;rw[yq]) rfl) (zbJ (S1:=Qs m B dn ud) (zj5 (ds:=sT ud) rfl (by show some (D.int ((sT ud).length:Int))=_;rw[yq]) rfl) rfl)) rfl))
theorem zgT (B dn:List (List Nat))(x:List Nat):yI B (dn++[x]).flatten=((yI B dn.flatten).1++(yI B ((yI B dn.flatten).2++x)).1,(yI B ((yI B dn.flatten).2++x)).2):=by
 rw[lcU,List.flatten_singleton];exact zf4 B _ _
theorem zmc (B dn:List (List Nat))(x:List Nat):sg B (dn++[x]).flatten=sg B dn.flatten++sg B ((yI B dn.flatten).2++x):=by
 unfold sg
 rw[zgT,la7,lcU]
theorem zg1 (h:Bb m B)(hl:dn.flatten.length+x.length<=900)(hd:dn.length<=900):vU [.str x] (Qs m B dn ud)=some (.str (sg B ((yI B dn.flatten).2++x)),Qs m B (dn++[x]) ud):=by
 have l2:=(jU B dn.flatten).2
 have l3:((yI B dn.flatten).2++x).length<=900:=by rw[lw];omega
 have rl:(rF B dn).length<=1000:=by unfold rF;simp;omega
 refine qw ?_
 show vf [.no,.fz (.str x),.no] (Qs m B dn ud)=_
 refine(zL (zU (d:=.tup [.str (sg B ((yI B dn.flatten).2++x)),.str (yI B ((yI B dn.flatten).2++x)).2]) (zmd (ds:=[.tup (sT B),.str ((yI B dn.flatten).2++x)]) (S1:=Qs m B dn ud) (zbJ (a:=.tup (sT B)) (S1:=Qs m B dn ud) rfl (zbJ (S1:=Qs m B dn ud) (zdx (S1:=Qs m B dn ud) (b:=.str x) zjm (zV rfl) (lB (by rw[lw] at l3;omega))) rfl)) (zpI (zk3 h l3))))).trans ?_
 refine(zL (jL (zfF (a:=.str x) (ds:=sT dn) (zV rfl) rfl (by rw[yq];omega)))).trans ?_
 refine(zL (jL (zfF (a:=.str (yI B ((yI B dn.flatten).2++x)).2) (ds:=sT (rF B dn)) (zV rfl) rfl (by rw[yq];omega)))).trans ?_
 refine(uT (zV (a:=.str (sg B ((yI B dn.flatten).2++x))) rfl)).trans ?_
 have e1:sT dn++[D.str x]=sT (dn++[x]):=kJ dn [x]
 have e2:sT (rF B dn)++[D.str (yI B ((yI B dn.flatten).2++x)).2]=sT (rF B (dn++[x])):=by
  rw[zh6,← kJ,zgT];rfl
 show O2.rt _ [.dt (.int m),.dt (.tup (sT B)),.ls (sT dn++[D.str x]),.ls (sT (rF B dn)++[D.str (yI B ((yI B dn.flatten).2++x)).2]),.ls (sT ud)]=_
 rw[e1,e2];rfl
theorem zhJ (i j:Int)(neg:Bool):eqD neg (.tup [.int i,.int j]) (.tup [.int i,.int j])=some (.bl (!neg)):=zdo neg rfl (lX (zfS (n:=0) λd hd=>by simp only[lz,lbr,lc0] at hd;rcases hd with rfl|rfl <;>exact lp 0) (by decide))
theorem jN (l:List Nat)(neg:Bool):eqD neg (.str l) (.str l)=some (.bl (!neg)):=(zfA neg l l).trans (by cases neg <;>simp)
theorem fl5:∀{L:List (List Nat)},(∀w∈L,w.length<=5)->L.flatten.length<=5*L.length
 | [],_=>by simp
 | w::L,h=>by
  have:=fl5 λz hz=>h z (lK _ hz)
  have:=h w lY
  rw[laB,lw,lF]
  omega
def pfx (B:List (List Nat))(t:List Nat):List (List Nat):=B.filter λp=>p.isPrefixOf t
theorem zlm (hB:B.length<=1000){t:List Nat}{ρ:Rho}(h0:ρ[0]? = some (.fz (.tup (sT B))))(h1:ρ[1]? = some (.fz (.str t))):fCp (fI tpD (fNm 0)) (bT (fM isS xg (fNm 1) (fNm 0))) (fNm 0) [1] ρ=.ok (sT (pfx B t)):=by
 refine zhX (ds:=sT B) (zjx (a:=.tup (sT B)) (by unfold fNm;rw[h0]) rfl) (by rw[yq];omega) (zbO (λp=>p.isPrefixOf t) D.str λp hp=>⟨?_,λ_=>rfl⟩)
 have ec:(qt 1 [1] ρ).set 0 (.fz (.str p))=[.fz (.str p),.fz (.str t)]:=by unfold qt;simp[h1]
 rw[ec]
 exact xV (zga (a:=.str t) (b:=.str p) rfl rfl rfl rfl)
theorem zoj {ft:Rho->Rs Bool}{g:Rho->Out}{n:Nat}{ρ:Rho}(e:ft ρ=.ok false):whD ft g (n+1) ρ=.nx ρ:=by rw[whD.eq_2,e]
theorem zpn {ft:Rho->Rs Bool}{g:Rho->Out}{n:Nat}{ρ ρ':Rho}(e:ft ρ=.ok true)(e2:g ρ=.nx ρ'):whD ft g (n+1) ρ=whD ft g n ρ':=by rw[whD.eq_2,e];dsimp only;rw[e2]
theorem zko (h:Book m B)(hB:B.length<=1000):∀(k:Nat) (t:List Nat) (rows:List (List Nat)) (f:Nat),t.length<=k->k<f->rows.length+t.length<=1000->∃rows' left,whD zqg
  (yr (zbj 2 zmv) (yr zoE hq7))
  f [.fz (.tup (sT B)),.fz (.str t),.ow (sT rows),.fz (.lst (sT (pfx B t)))]=.nx [.fz (.tup (sT B)),.fz (.str left),.ow (sT (rows++rows')),.fz (.lst (sT []))]/\(∀p∈rows',p∈B)/\zi5 B left/\rows'.flatten++left=t:=by
 intro k
 induction k with
 | zero =>
  intro t rows f ht hf hr
  obtain⟨f,rfl⟩:∃g,f=g+1:=⟨f - 1,by omega⟩
  obtain rfl:t=[]:=lbf.mp (by omega)
  have ep:pfx B []=[]:=lcA.mpr λp hp e=>h.ne p hp (lbp.mp (lH.mp e))
  refine⟨[],[],?_,λp hp=>absurd hp (by simp),λy hy hn=>absurd (lbp.mp hy) hn,rfl⟩
  rw[ep,lD]
  exact zoj (xV (yV (a:=.lst (sT [])) (b:=.lst (sT [])) rfl rfl (qZ true [] [])))
 | succ k ih =>
  intro t rows f ht hf hr
  obtain⟨f,rfl⟩:∃g,f=g+1:=⟨f - 1,by omega⟩
  cases ep:pfx B t with
  | nil =>
   refine⟨[],t,?_,λp hp=>absurd hp (by simp),λy hy hn hyB=>?_,rfl⟩
   ·rw[lD]
    exact zoj (xV (yV (a:=.lst (sT [])) (b:=.lst (sT [])) rfl rfl (qZ true [] [])))
   ·have:y∈pfx B t:=laP.mpr ⟨hyB,lH.mpr hy⟩
    rw[ep] at this;cases this
  | cons p r =>
   have hp:p∈pfx B t:=by rw[ep];exact lY
   obtain⟨hpB,hpt⟩:=laP.mp hp
   obtain⟨t',rfl⟩:=lH.mp hpt
   have hne:=h.ne p hpB
   have hl1:1<=p.length:=la4.mpr hne
   rw[lw] at ht hr
   obtain⟨rows',left,e,h1,h2,h3⟩:=ih t' (rows++[p]) f (by omega) (by omega) (by rw[lw];simp;omega)
   refine⟨p::rows',left,?_,λq hq=>by rcases lz.mp hq with rfl|hq;exact hpB;exact h1 q hq,h2,by rw[laB,laL,h3]⟩
   have eb:yr (zbj 2 zmv) (yr zoE hq7) [.fz (.tup (sT B)),.fz (.str (p++t')),.ow (sT rows),.fz (.lst (sT (p::r)))]=.nx [.fz (.tup (sT B)),.fz (.str t'),.ow (sT (rows++[p])),.fz (.lst (sT (pfx B t')))]:=by
    refine(zG (ρ':=[.fz (.tup (sT B)),.fz (.str (p++t')),.ow (sT (rows++[p])),.fz (.lst (sT (p::r)))]) ((zdU (ds:=sT rows) (d:=.str p) rfl (yV (a:=.lst (sT (p::r))) (b:=.int 0) rfl rfl (ziS (B:=p::r) (j:=0) (by simp))) (by rw[yq];omega)).trans ?_)).trans ?_
    ·unfold sT;rw[la7];rfl
    ·refine (zG (ρ':=[.fz (.tup (sT B)),.fz (.str t'),.ow (sT (rows++[p])),.fz (.lst (sT (p::r)))]) (zX (zcg (a:=.str (p++t')) (l:=some (p.length:Int)) (h:=none) rfl ?_ rfl ?_))).trans (zgV (zlm hB rfl rfl))
     ·unfold xK
      rw[show fO ul (zf zmv zE) [.fz (.tup (sT B)),.fz (.str (p++t')),.ow (sT (rows++[p])),.fz (.lst (sT (p::r)))]=.ok (.int (p.length:Int)) from zbG (zO (yV (a:=.lst (sT (p::r))) (b:=.int 0) rfl rfl (ziS (B:=p::r) (j:=0) (by simp))) rfl) rfl]
      rfl
     ·show some (D.str (zcu (p++t') (some (p.length:Int)) none))=_
      rw[zd4,List.drop_left]
   refine(zpn (xV (yV (a:=.lst (sT (p::r))) (b:=.lst (sT [])) rfl rfl ((qZ true _ _).trans (by simp)))) eb).trans ?_
   rw[e,laL]
   rfl
theorem zhK (h:Book m B)(hB:B.length<=1000){t:List Nat}(ht:t.length<=96):wZ [.tup (sT B),.str t]=.ok (.tup [.lst (sT (yI B t).1),.str (yI B t).2]):=by
 obtain⟨rows,left,e,h1,h2,h3⟩:=zko h hB t.length t [] 100 (lp _) (by omega) (by simp;omega)
 rw[h.cutRows h1 h2 h3]
 refine yu ((zG (ρ':=[.fz (.tup (sT B)),.fz (.str t),.ow (sT []),.no]) rfl).trans ?_)
 refine(zG (ρ':=[.fz (.tup (sT B)),.fz (.str t),.ow (sT []),.fz (.lst (sT (pfx B t)))]) (zgV (zlm hB rfl rfl))).trans ?_
 refine(zG (zaw e)).trans ?_
 exact(zfJ (ds:=sT rows) rfl).trans (vI rfl)
theorem zjq {m n:Nat}(h:Kc m n B)(h7:n<=7):yx [.int m,.tup (sT B.dropLast)]=.ok (.bl false):=by
 have bb:=h.bb h7
 obtain⟨t,_,e1,e2⟩:=h.bk.grAt
 have m2:=h.bk.m2
 have l32:=bb.l32
 have nd:=h.bk.nd
 have hne:B≠[]:=λz=>by rw[z,lad] at e2;omega
 have sub:∀x∈B.dropLast,x∈B:=λx hx=>(List.dropLast_sublist B).subset hx
 have ed:B.dropLast++[B.getLast hne]=B:=List.dropLast_concat_getLast hne
 have hdl:B.dropLast.length=B.length - 1:=lbA
 have pr:Pcs m B.dropLast:=⟨m2,h.bk.m4,λz=>by rw[z,lad] at hdl;omega,by omega,λx hx=>bb.pcs.2.2.2.2 x (sub x hx)⟩
 refine(zdi pr).trans ?_
 cases e:isBook m B.dropLast with
 | false=>rfl
 | true =>
  have b:=zfy pr e
  have hp:B.getLast hne∈B:=List.getLast_mem hne
  obtain⟨q,hq,z⟩:=b.cv (B.getLast hne) (h.bk.let_ _ hp)
  have qp:q=B.getLast hne:=by
   rcases z with z|z
   ·exact h.bk.pf q (sub q hq) _ hp z
   ·exact(h.bk.pf _ hp q (sub q hq) z).symm
  rw[qp] at hq
  rw[← ed] at nd
  exact absurd rfl ((lb1.mp nd).2.2 _ hq _ (by simp))
theorem zjI (B:List (List Nat)):zcu (sT B) none (some (-1))=sT B.dropLast:=by
 unfold zcu
 rw[HT.sIx_none,lb9,ldn]
 unfold sT
 rw[List.dropLast_eq_take,ldz]
 congr 1
 rw[ly]
 show(if (-1:Int)<0 then((-1:Int)+(B.length:Int)).toNat else min (-1:Int).toNat B.length)=_
 rw[lB (by decide)]
 omega
theorem znQ (B:List (List Nat))(l:List Nat):(sg B l).length<=5*l.length:=by
 have:=zgA (B:=B) (cs:=(yI B l).1) (zaR B _).2.1
 unfold sg
 rw[this]
 exact lc3 (zfH _) (jU B l).1
theorem zfr {xs:List (List Nat)}(h:xs.flatten.length<=1000000):qQ (.str []) (.lst (sT xs))=some (.str xs.flatten):=by
 dsimp only [qQ];rw[za0,lB ⟨zbl _,h⟩]
section
variable {m j n i:Nat}{fq:Rho->Ob->Rz}{g:Rho->Ob->O2}{ds:List D}{S S1 S2:Ob}{d0 d:D}{fn:List D->Rs D}{fs:Rho->Ob->Ro (List D)}{ρ:Rho}
theorem zfU (e1:fq (je m j ds) S=.ok d0 S1)(e2:g (je m j ds) S1=.rt d S2):zhx m j fq g ds S=.ok d S2:=by
 unfold zhx;rw[e1];show(match g (je m j ds) S1 with | .nx _ S''=>Rz.ok .non S'' | .rt d S''=>.ok d S'' | .no=>.no)=_;rw[e2]
theorem zfq (e1:fq (je m j ds) S=.ex n S1):zhx m j fq g ds S=.ex n S1:=by unfold zhx;rw[e1]
theorem zpO (h1:fs ρ S=some (ds,S1))(hl:ds.length=n)(h2:fn ds=.ok d):qC n fn fs ρ S=.ok d S1:=by
 unfold qC;rw[h1];show(if ds.length=n then(match fn ds with | .ok d=>Rz.ok d S1 | .ex k=>.ex k S1 | .no=>.no) else .no)=_;rw[lB hl,h2]
theorem zpF {k:Nat}(h1:fs ρ S=some (ds,S1))(hl:ds.length=n)(h2:fn ds=.ex k):qC n fn fs ρ S=.ex k S1:=by
 unfold qC;rw[h1];show(if ds.length=n then(match fn ds with | .ok d=>Rz.ok d S1 | .ex k=>.ex k S1 | .no=>.no) else .no)=_;rw[lB hl,h2]
theorem zoQ (h1:S[i]? = some (.ls ds))(h2:fn [.lst ds]=.ok d)(hf:d.fl=true):qL i fn ρ S=.ok d S:=by
 unfold qL;rw[h1];show(match fn [.lst ds] with | .ok d=>if d.fl=true then Rz.ok d S else .no | .ex k=>.ex k S | .no=>.no)=_;rw[h2];exact lB hf
theorem znf {k:Nat}(h1:S[i]? = some (.ls ds))(h2:fn [.lst ds]=.ex k):qL i fn ρ S=.ex k S:=by
 unfold qL;rw[h1];show(match fn [.lst ds] with | .ok d=>if d.fl=true then Rz.ok d S else .no | .ex k=>.ex k S | .no=>.no)=_;rw[h2]
end
theorem zmz (h:Bb m B)(hx:LetOk m x)(hl:dn.flatten.length+x.length<=900)(hd:dn.length<=900):wk [.str x] (Qs m B dn ud)=.ok (.str (sg B ((yI B dn.flatten).2++x))) (Qs m B (dn++[x]) []):=by
 refine zfU (S1:=Qs m B dn ud) (zpO (ds:=[.int m,.str x]) (S1:=Qs m B dn ud) (zbJ (a:=.int m) (S1:=Qs m B dn ud) rfl (zbJ (a:=.str x) (S1:=Qs m B dn ud) (zV rfl) rfl)) rfl (zcq h.bk.m4 hx (by omega))) ?_
 show vL [.no,.fz (.str x)] (Qs m B dn ud)=_
 refine(zL (jL (d:=.non) (S1:=Qs m B dn []) rfl)).trans ?_
 exact uT (zmf (ds:=[.str x]) (S1:=Qs m B dn []) (zV rfl) rfl (zg1 h hl hd))
theorem zj9 {d:D}(hx:yp [.int m,d]=.ex 3):wk [d] (Qs m B dn ud)=.ex 3 (Qs m B dn ud) :=
 zfq (zpF (ds:=[.int m,d]) (S1:=Qs m B dn ud) (zbJ (a:=.int m) (S1:=Qs m B dn ud) rfl (zbJ (a:=d) (S1:=Qs m B dn ud) (zV rfl) rfl)) rfl hx)
theorem zgJ {L:List (List Nat)}(hne:L≠[]):xT [.lst (sT L)]=.ok .non:=zgb (ifF (xV (yV (a:=.lst (sT L)) (b:=.lst (sT [])) rfl rfl ((qZ false L []).trans (by simp[hne])))))
theorem zgP:xT [.lst (sT [])]=.ex 7:=zf6 ((zdD (xV (yV (a:=.lst (sT [])) (b:=.lst (sT [])) rfl rfl ((qZ false [] []).trans (by simp))))).trans rfl)
theorem zj4 (hd:ud.length<=900):xr [] (Qs m B (dn++[x]) ud)=.ok (.str x) (Qs m B dn (ud++[x])):=by
 refine zfU (S1:=Qs m B (dn++[x]) ud) (zoQ (ds:=sT (dn++[x])) rfl (zgJ (by simp)) rfl) ?_
 show vO [.no,.no] (Qs m B (dn++[x]) ud)=_
 refine(zL (zU (d:=.str x) (zfC (ds:=sT dn) (by show some (Fl.ls (sT (dn++[x])))=_;rw[← kJ];rfl)))).trans ?_
 refine(zL (jL (d:=.str (yI B (dn++[x]).flatten).2) (zfC (ds:=sT (rF B dn)) (by show some (Fl.ls (sT (rF B (dn++[x]))))=_;rw[zh6,← kJ];rfl)))).trans ?_
 refine(zL (jL (zfF (a:=.str x) (ds:=sT ud) (zV rfl) rfl (by rw[yq];omega)))).trans ?_
 refine(uT (zV (a:=.str x) rfl)).trans ?_
 have e1:sT ud++[D.str x]=sT (ud++[x]):=kJ ud [x]
 show O2.rt _ [.dt (.int m),.dt (.tup (sT B)),.ls (sT dn),.ls (sT (rF B dn)),.ls (sT ud++[D.str x])]=_
 rw[e1];rfl
theorem zib:xr [] (Qs m B [] ud)=.ex 7 (Qs m B [] ud):=zfq (znf (ds:=sT []) rfl zgP)
theorem zjJ (h:Bb m B)(hl:dn.flatten.length+x.length<=900)(hd:dn.length<=900):yE [] (Qs m B dn (ud++[x]))=.ok (.str x) (Qs m B (dn++[x]) ud):=by
 refine zfU (S1:=Qs m B dn (ud++[x])) (zoQ (ds:=sT (ud++[x])) rfl (zgJ (by simp)) rfl) ?_
 show vd [.no,.no] (Qs m B dn (ud++[x]))=_
 refine(zL (zU (d:=.str x) (S1:=Qs m B dn ud) (zfC (ds:=sT ud) (by show some (Fl.ls (sT (ud++[x])))=_;rw[← kJ];rfl)))).trans ?_
 refine(zL (jL (zmf (ds:=[.str x]) (S1:=Qs m B dn ud) (zV rfl) rfl (zg1 h hl hd)))).trans ?_
 exact uT (zV (f:=fNm 1) (a:=D.str x) rfl)
theorem zhs:yE [] (Qs m B dn [])=.ex 7 (Qs m B dn []):=zfq (znf (ds:=sT []) rfl zgP)
theorem znj (h:Bb m B):yL [.int m,.tup (sT B)]=.ok (Qs m B [] []):=by
 have e1:yU (je 3 0 [.int m,.tup (sT B)])=.ok .non:=cA2 (a:=.int m) (b:=.tup (sT B)) rfl rfl (zb6 h.pcs h.isB)
 have e2:zlM 3 (zx 0) yC [.int m,.tup (sT B)]=some (Qs m B [] []):=by
  unfold zlM
  have e:yC (je 3 0 [.int m,.tup (sT B)]) []=some (Qs m B [] []):=rfl
  rw[e]
  refine lB ⟨rfl,λi hi=>?_,λi hi=>?_⟩
  ·have:i∈([2,3,4]:List Nat):=hi
   show i<5
   simp at this;omega
  ·have h5:i<5:=hi
   have:i=0∨i=1∨i=2∨i=3∨i=4:=by omega
   rcases this with rfl|rfl|rfl|rfl|rfl <;>rfl
 unfold yL zmQ
 rw[e1]
 show(match zlM 3 (zx 0) yC [.int m,.tup (sT B)] with|some S=>Rj.ok S|none=>.no)=_
 rw[e2]
theorem zmq {d:D}(h:yx [.int m,d]=.ok (.bl false)):yL [.int m,d]=.ex 1:=by
 have e1:yU (je 3 0 [.int m,d])=.ex 1:=cA2 (a:=.int m) (b:=d) rfl rfl (zen h)
 unfold yL zmQ
 rw[e1]
theorem znl (h:Bb m B):uJ [.int m,.tup (sT B)]=some (Qs m B [] []):=by
 unfold uJ L2.runN
 have e:zf (fNm 0) (zf (fNm 1) zE) [.fz (.int m),.fz (.tup (sT B)),.no]=.ok [.int m,.tup (sT B)]:=rfl
 show(match zf (fNm 0) (zf (fNm 1) zE) [.fz (.int m),.fz (.tup (sT B)),.no] with | .ok as=>if as.length+1=3 then(match yL as with | .ok S=>some S|_=>none) else none|_=>none)=_
 rw[e]
 show(match yL [.int m,.tup (sT B)] with | .ok S=>some S|_=>none)=_
 rw[znj h]
def rf (j:Int):D:=.tup [.str [114,101,102,117,115,101,100],.int j]
theorem zl4 {d:D}(h:yx [.int m,d]=.ok (.bl false)):v7 [.int m,d]=.ok (rf 0):=by
 refine yu ?_
 show znB 2 [1,3,7] _ _ [.fz (.int m),.fz d,.no]=_
 unfold znB
 have e:mkX 3 yL zlh [.fz (.int m),.fz d,.no]=.ex 1:=by
  show(match yL [.int m,d] with | .ex k=>Rs.ex k|_=>.no)=_
  rw[zmq h]
 rw[lB (show([_,_,_]:Rho).all _=true from rfl),e];rfl
abbrev fzT:Rho->Ob->Rz:=qIf zqa zo4 zo6
theorem zfP {w:Int}{d v:D}{S S':Ob}(e:fzT [.no,.fz (.int w),.fz d,.no] S=.ok v S'):xN [.int w,d] S=some (v,S'):=by
 refine qw ?_
 show zjN 3 [1,3,7] fzT _ [.no,.fz (.int w),.fz d,.no] S=_
 unfold zjN
 rw[e]
theorem zkF {w:Int}{d:D}{S S':Ob}(e:fzT [.no,.fz (.int w),.fz d,.no] S=.ex 3 S'):xN [.int w,d] S=some (rf 1,S'):=by
 refine qw ?_
 show zjN 3 [1,3,7] fzT _ [.no,.fz (.int w),.fz d,.no] S=_
 unfold zjN
 rw[e];rfl
theorem zgo {w:Int}{d:D}{S S':Ob}(e:fzT [.no,.fz (.int w),.fz d,.no] S=.ex 7 S'):xN [.int w,d] S=some (rf 2,S'):=by
 refine qw ?_
 show zjN 3 [1,3,7] fzT _ [.no,.fz (.int w),.fz d,.no] S=_
 unfold zjN
 rw[e];rfl
theorem way0 {d:D}{S:Ob}:fzT [.no,.fz (.int 0),.fz d,.no] S=wk [d] S:=rfl
theorem way1 {d:D}{S:Ob}:fzT [.no,.fz (.int 1),.fz d,.no] S=xr [] S:=rfl
theorem way2 {d:D}{S:Ob}:fzT [.no,.fz (.int 2),.fz d,.no] S=yE [] S:=rfl
def stp (n:Nat):Nat->Nat×Nat
 | 0=>(0,1)
 | k+1=>if (stp n k).2<n then((stp n k).1+1,2*(stp n k).2) else stp n k
theorem zj7:∀n<33,(stp n 6).1=wQ n:=by decide +kernel
theorem zh0:∀n<33,∀k<7,(stp n k).1<=6/\(stp n k).2<=64:=by decide +kernel
theorem zjV (hB:B.length<=32):jm [.tup (sT B)]=.ok (.lst (sT (W B.length))):=by
 refine yu ?_
 refine(zG (ρ':=[.fz (.tup (sT B)),.fz (.int 0),.no,.no,.no,.no,.no]) (zX (d:=.int 0) rfl)).trans ?_
 refine(zG (ρ':=[.fz (.tup (sT B)),.fz (.int 0),.fz (.int 1),.no,.no,.no,.no]) (zX (d:=.int 1) rfl)).trans ?_
 have el:∀ρ:Rho,ρ[0]? = some (.fz (.tup (sT B)))->fO ul (zf (fNm 0) zE) ρ=.ok (.int (B.length:Int)):=λρ h0=>by
  have:fNm 0 ρ=.ok (.tup (sT B)):=by unfold fNm;rw[h0]
  exact zbG (zO this rfl) (by show some (D.int ((sT B).length:Int))=_;rw[yq])
 refine zf2 (λρ=>∃s3,ρ=[.fz (.tup (sT B)),.fz (.int ((wQ B.length:Nat):Int)),.fz (.int (((stp B.length 6).2:Nat):Int)),s3,.no,.no,.no]) (zcL (ds:=[.int ((6:Nat):Int)]) rfl (vo (by omega))) ?_ ?_
 ·obtain ⟨ρ',e,s3,e2⟩:=uG (i:=3) (g:=sIf (bT (f2 ltI (fNm 2) zmE))
  (yr (xR 2 (f2 zfp (fC (.int 2)) (fNm 2)))
  (xR 1 (f2 uh (fNm 1) (fC (.int 1)))))
  sNx) (l:=List.range 6) (enc:=λ(k:Nat)=>D.int (k:Int)) (ρ:=[.fz (.tup (sT B)),.fz (.int 0),.fz (.int 1),.no,.no,.no,.no])
   (λk ρ=>∃s3,ρ=[.fz (.tup (sT B)),.fz (.int (((stp B.length k).1:Nat):Int)),.fz (.int (((stp B.length k).2:Nat):Int)),s3,.no,.no,.no]) ⟨.no,rfl⟩ (by
    rintro k c ρ hc ⟨s3,rfl⟩
    have hk:k<6:=by have:=(lh.mp hc).1;simpa using this
    obtain⟨b1,b2⟩:=zh0 B.length (by omega) k (by omega)
    have et:bT (f2 ltI (fNm 2) zmE) [.fz (.tup (sT B)),.fz (.int (((stp B.length k).1:Nat):Int)),.fz (.int (((stp B.length k).2:Nat):Int)),.fz (.int (c:Int)),.no,.no,.no]=.ok (decide ((stp B.length k).2<B.length)):=xV (yV (a:=.int (((stp B.length k).2:Nat):Int)) (b:=.int (B.length:Int)) rfl (el _ rfl) (by show some (D.bl (decide ((((stp B.length k).2:Nat):Int)<(B.length:Int))))=_;congr 2;exact decide_eq_decide.mpr (by omega)))
    by_cases hlt:(stp B.length k).2<B.length
    ·rw [lS hlt] at et
     have es:stp B.length (k+1)=((stp B.length k).1+1,2*(stp B.length k).2):=lB hlt
     refine⟨_,(zdD et).trans ((zG (zX (d:=.int (((2*(stp B.length k).2:Nat)):Int)) ?_)).trans (zX (d:=.int ((((stp B.length k).1+1:Nat)):Int)) ?_)),.fz (.int (c:Int)),by rw[es];rfl⟩
     ·refine(yV (a:=.int 2) (b:=.int (((stp B.length k).2:Nat):Int)) (d:=.int (2*(((stp B.length k).2:Nat):Int))) rfl rfl (lB ⟨zg2 (B:=10) (by omega) (by omega) (by omega),zg2 (B:=10) (by omega) (by omega) (by omega)⟩)).trans ?_
      congr 2
     ·exact(wD (i:=(((stp B.length k).1:Nat):Int)) (j:=1) rfl rfl).trans (by congr 2)
    ·rw[lT hlt] at et
     have es:stp B.length (k+1)=stp B.length k:=lW hlt
     exact⟨_,(ifF et),.fz (.int (c:Int)),by rw[es];rfl⟩)
  rw[laf,zj7 B.length (by omega)] at e2
  exact⟨ρ',e,s3,e2⟩
 rintro ρ ⟨s3,rfl⟩
 have b5:=zfH B.length
 generalize hb:wQ B.length=b at b5
 refine(zG (ρ':=[.fz (.tup (sT B)),.fz (.int (b:Int)),.fz (.int (((stp B.length 6).2:Nat):Int)),s3,.ow [],.no,.no]) (zdA rfl)).trans ?_
 refine zf2 (λρ=>∃s3 s5 s6,ρ=[.fz (.tup (sT B)),.fz (.int (b:Int)),.fz (.int (((stp B.length 6).2:Nat):Int)),s3,.ow (sT (W B.length)),s5,s6]) (zcL (ds:=[.int (B.length:Int)]) (zO (el _ rfl) rfl) (vo (by omega))) ?_ ?_
 ·obtain ⟨ρ',e,z3,z5,z6,e2⟩:=uG (i:=5) (g:=yr (xR 6 (fC (.str [])))
  (yr (jn 3 (fR zc5 (zf (fNm 1) zE))
  (yr zov
  znT))
  (zbj 4 (fNm 6)))) (l:=List.range B.length) (enc:=λ(k:Nat)=>D.int (k:Int)) (ρ:=[.fz (.tup (sT B)),.fz (.int (b:Int)),.fz (.int (((stp B.length 6).2:Nat):Int)),s3,.ow [],.no,.no])
   (λk ρ=>∃s3 s5 s6,ρ=[.fz (.tup (sT B)),.fz (.int (b:Int)),.fz (.int (((stp B.length 6).2:Nat):Int)),s3,.ow (sT ((List.range k).map λi=>zao i b)),s5,s6]) ⟨s3,.no,.no,rfl⟩ (by
    rintro k c ρ hc ⟨z3,z5,z6,rfl⟩
    obtain⟨hk,ec⟩:=lh.mp hc
    rw[List.getElem_range] at ec
    subst ec
    rw[laf] at hk
    obtain⟨ρ2,i1,y3,rfl⟩:=uG (i:=3) (g:=yr zov
  znT) (l:=List.range b) (enc:=λ(k:Nat)=>D.int (k:Int)) (ρ:=[.fz (.tup (sT B)),.fz (.int (b:Int)),.fz (.int (((stp B.length 6).2:Nat):Int)),z3,.ow (sT ((List.range k).map λi=>zao i b)),.fz (.int (k:Int)),.fz (.str [])])
     (λt ρ=>∃y3,ρ=[.fz (.tup (sT B)),.fz (.int (b:Int)),.fz (.int (((stp B.length 6).2:Nat):Int)),y3,.ow (sT ((List.range k).map λi=>zao i b)),.fz (.int ((k / 2 ^ t:Nat):Int)),.fz (.str (zao k t))]) ⟨z3,by simp[zao]⟩ (by
      rintro t c ρ hc ⟨y3,rfl⟩
      have ht:t<b:=by have:=(lh.mp hc).1;simpa using this
      have hle:k / 2 ^ t<=k:=Nat.div_le_self _ _
      have hm2:k / 2 ^ t % 2<2:=Nat.mod_lt _ (by decide)
      have e1:f2 zgM (fNm 5) (fC (.int 2)) [.fz (.tup (sT B)),.fz (.int (b:Int)),.fz (.int (((stp B.length 6).2:Nat):Int)),.fz (.int (c:Int)),.ow (sT ((List.range k).map λi=>zao i b)),.fz (.int ((k / 2 ^ t:Nat):Int)),.fz (.str (zao k t))]=.ok (.int (((k / 2 ^ t % 2:Nat)):Int)):=by
       refine(jq (i:=((k / 2 ^ t:Nat):Int)) (j:=2) rfl rfl (by decide)).trans ?_
       have:(((k / 2 ^ t:Nat):Int)) % 2=((k / 2 ^ t % 2:Nat):Int):=by omega
       rw[this]
      have e2:ixD (.str [48,49]) (.int (((k / 2 ^ t % 2:Nat)):Int))=some (.str [48+k / 2 ^ t % 2]):=by
       generalize k / 2 ^ t % 2=r at hm2
       have:r=0∨r=1:=by omega
       rcases this with rfl|rfl <;>rfl
      have e3:f2 zcp (fNm 5) (fC (.int 2)) [.fz (.tup (sT B)),.fz (.int (b:Int)),.fz (.int (((stp B.length 6).2:Nat):Int)),.fz (.int (c:Int)),.ow (sT ((List.range k).map λi=>zao i b)),.fz (.int ((k / 2 ^ t:Nat):Int)),.fz (.str (zao k (t+1)))]=.ok (.int ((k / 2 ^ (t+1):Nat):Int)):=by
       refine(jR (i:=((k / 2 ^ t:Nat):Int)) (j:=2) rfl rfl (by decide) (qg (by omega))).trans ?_
       have h1:k / 2 ^ (t+1)=k / 2 ^ t / 2:=by rw[ldo,Nat.div_div_eq_div_mul]
       have:(((k / 2 ^ t:Nat):Int)) / 2=((k / 2 ^ t / 2:Nat):Int):=by omega
       rw[h1,this]
      exact⟨_,(zG (ρ':=[.fz (.tup (sT B)),.fz (.int (b:Int)),.fz (.int (((stp B.length 6).2:Nat):Int)),.fz (.int (c:Int)),.ow (sT ((List.range k).map λi=>zao i b)),.fz (.int ((k / 2 ^ t:Nat):Int)),.fz (.str (zao k (t+1)))]) (zX (d:=.str (zao k (t+1))) (yV (a:=.str [48+k / 2 ^ t % 2]) (b:=.str (zao k t)) (yV (a:=.str [48,49]) rfl e1 e2) rfl (lB (by rw[zbN];show 1+t<=_;omega))))).trans (zX e3),.fz (.int (c:Int)),rfl⟩)
    rw[laf] at i1
    refine⟨_,(zG (ρ':=[.fz (.tup (sT B)),.fz (.int (b:Int)),.fz (.int (((stp B.length 6).2:Nat):Int)),z3,.ow (sT ((List.range k).map λi=>zao i b)),.fz (.int (k:Int)),.fz (.str [])]) (zX (d:=.str []) rfl)).trans ((zG ((jw (zcL (ds:=[.int (b:Int)]) rfl (vo (by omega)))).trans i1)).trans (zdU (d:=.str (zao k b)) (ds:=sT ((List.range k).map λi=>zao i b)) rfl rfl (by rw[yq,ly,laf];omega))),y3,.fz (.int ((k / 2 ^ (List.range b).length:Nat):Int)),.fz (.str (zao k (List.range b).length)),?_⟩
    rw[lbY,la7,← kJ];simp;rfl)
  exact⟨ρ',e,z3,z5,z6,by rw[e2,laf];unfold W;rw[hb]⟩
 rintro ρ ⟨z3,z5,z6,rfl⟩
 exact(zfJ (ds:=sT (W B.length)) rfl).trans (vI rfl)
theorem zpo (h:Bb m B){p:List Nat}(hp:p∈B):(W B.length).getD (B.idxOf p) []=wd B p:=rfl
theorem zcy (h:Bb m B){l:List Nat}(hl:l.length<=96):wF [.tup (sT B),.str l]=.ok (.str (sg B l)):=by
 have l32:=h.l32
 refine yu ((zG (ρ':=[.fz (.tup (sT B)),.fz (.str l),.fz (.lst (sT (W B.length)))]) (zX (cA1 (a:=.tup (sT B)) rfl (zjV l32)))).trans (vI ?_))
 have ec:f2 ixD (fA (ari 2 wZ) zlh) (fC (.int 0)) [.fz (.tup (sT B)),.fz (.str l),.fz (.lst (sT (W B.length)))]=.ok (.lst (sT (yI B l).1)):=yV (a:=.tup [.lst (sT (yI B l).1),.str (yI B l).2]) (b:=.int 0) (cA2 (a:=.tup (sT B)) (b:=.str l) rfl rfl (zhK h.bk (by omega) hl)) rfl rfl
 have cl:=(jU B l).1
 have sl:=znQ B l
 have em:xX (fI lsD (f2 ixD (fA (ari 2 wZ) zlh) (fC (.int 0)))) wA (f2 ixD (fNm 1) znb) [2,0] [.fz (.tup (sT B)),.fz (.str l),.fz (.lst (sT (W B.length)))]=.ok (.lst (sT ((yI B l).1.map (wd B)))):=by
  refine qK (ds:=(yI B l).1.map .str) (zjx ec rfl) (by rw[ly];omega) ?_
  have:=xO (fe:=f2 ixD (fNm 1) znb) (ρ0:=[.no,.fz (.lst (sT (W B.length))),.fz (.tup (sT B))]) (l:=(yI B l).1) (enc:=.str) (λp=>.str (wd B p)) λp hp=>by
   have hpB:p∈B:=(zaR B l).2.1 p hp
   have hi:B.idxOf p<B.length:=laW hpB
   have ei:zn8 (.tup (sT B)) (.str p)=some (.int ((B.idxOf p:Nat):Int)):=by dsimp only [zn8];rw[za0,lB ⟨zbl B,by rw[yq];omega,hpB⟩]
   exact yV (a:=.lst (sT (W B.length))) (b:=.int ((B.idxOf p:Nat):Int)) rfl (zga (a:=.tup (sT B)) (b:=.str p) rfl rfl rfl ei) ((ziS (B:=W B.length) (j:=B.idxOf p) (by rw[zic];exact hi)).trans (by rw[zpo h hpB]))
  rw[show sT ((yI B l).1.map (wd B))=(yI B l).1.map (λp=>D.str (wd B p)) from by unfold sT;rw[lap];rfl]
  exact this
 refine zga (a:=.str []) (b:=.lst (sT ((yI B l).1.map (wd B)))) rfl rfl em ?_
 exact zfr (xs:=(yI B l).1.map (wd B)) (by show(sg B l).length<=_;omega)
theorem zkE {f:Rho->Ob->Ro D}{i j:Nat}{ρ:Rho}{S S1:Ob}{a b:D}(e:f ρ S=some (.tup [a,b],S1)):zin i j f ρ S=.nx ((ρ.set i (.fz a)).set j (.fz b)) S1:=by unfold zin;rw[e]
abbrev gB:Rho->Ob->O2:=(vJ (zIf zoV
  zjv
  zNx)
  (vJ (zIf (bB (e2 (eqD true) (eM0 wG) (L2.up (fO mkT zn0))))
  zjv
  zNx)
  (vJ (jf 15 (L2.up (fM isS qQ (fC (.str [])) hq6)))
  (vJ zo3
  (vJ (zIf zo2
  zjv
  zNx)
  (zIf zo1
  zjv
  zNx))))))
abbrev gT:Rho->Ob->O2:=(vJ zoX
  (vJ (jf 8 (L2.up (f2 ixD hq5 zn6)))
  (vJ (jf 9 (L2.up (fA (ari 4 vq) zon)))
  (vJ (zIf (L2.up (bT hq1))
  hq0
  zNx)
  (vJ (jf 10 (L2.up (fM isS qQ (fC (.str [])) hq6)))
  (vJ zoY
  (vJ (jf 12 (L2.up (zaW zph hq9)))
  (vJ (zIf (L2.up zmU)
  (jf 13 (L2.up (fO mkT (zf hq8 (zf (fC (.int 1)) zE)))))
  (zIf (L2.up znW)
  (vJ (jf 13 (L2.up (fSl zm9 (xK (fO ul hq4)) wg)))
  (vJ (jf 4 (L2.up (fLs (fL2 zjb hq6 znY))))
  (jf 5 (L2.up zk8))))
  (vJ (jf 14 (L2.up (fIf zmY zm2 zk8)))
  (vJ (jf 13 (L2.up (fIf (bT hq2) (f2 ixD (fNm 4) zm1) (fO mkT (zf hq8 zpy)))))
  (jf 5 (L2.up (fIf (bT hq2) (fNm 14) (fNm 5))))))))
  gB))))))))
abbrev rh (ns:List Int)(m:Nat)(B T:List (List Nat))(at':Nat)(s6 s7 s8 s9 s10 s11 s12 s13 s14 s15 s16 s17:Sl):Rho:=[.fz (scD ns),.fz (.int m),.fz (.tup (sT B)),.no,.fz (.lst (sT T)),.fz (.int (at':Int)),s6,s7,s8,s9,s10,s11,s12,s13,s14,s15,s16,s17]
abbrev Qt (m:Nat)(B T:List (List Nat))(at':Nat):Ob:=Qs m B (T.take at') (T.drop at').reverse
theorem zng (h:Bb m B)(ns:List Int){T T':List (List Nat)}{a a':Nat}{w:Int}{d due:D}(h5:∀w∈T',w.length<=5)(tl:T'.length<=16)(al:a'<=T'.length)(ht:xN [.int w,d] (Qt m B T a)=some (due,Qt m B T' a'))(hs:eqD true due due=some (.bl false))(s6 s7 s10 s11 s12 s14 s15 s16 s17:Sl) :
  ∃s15' s16' s17',gB (rh ns m B T' a' s6 s7 (.fz (.int w)) (.fz d) s10 s11 s12 (.fz due) s14 s15 s16 s17) (Qt m B T a)=.nx (rh ns m B T' a' s6 s7 (.fz (.int w)) (.fz d) s10 s11 s12 (.fz due) s14 s15' s16' s17') (Qt m B T' a'):=by
 have ft:=fl5 (L:=T'.take a') λw hw=>h5 w (lb6 hw)
 have t1:(T'.take a').length=a':=by rw[lO];omega
 have t2:(T'.drop a').reverse.length=T'.length - a':=by rw[lcV,lbb]
 have fl:(T'.take a').flatten.length<=80:=by omega
 obtain⟨Wh,hW⟩:∃Wh,(T'.take a').flatten=Wh:=⟨_,rfl⟩
 rw[hW] at fl
 refine⟨.fz (.str Wh),.fz (.lst (sT (yI B Wh).1)),.fz (.str (yI B Wh).2),(zL (zox (zhr (zdx (zmf (ds:=[.int w,d]) (S1:=Qt m B T a) (zV rfl) rfl ht) (zV (a:=due) rfl) hs)))).trans ?_⟩
 have est:fO mkT zn0 (rh ns m B T' a' s6 s7 (.fz (.int w)) (.fz d) s10 s11 s12 (.fz due) s14 s15 s16 s17)=.ok (.tup [.int (a':Int),.int ((T'.length - a':Nat):Int)]):=by
  have el:fO ul (zf (fNm 4) zE) (rh ns m B T' a' s6 s7 (.fz (.int w)) (.fz d) s10 s11 s12 (.fz due) s14 s15 s16 s17)=.ok (.int (T'.length:Int)):=by show Rs.ok (D.int ((sT T').length:Int))=_;rw[yq]
  have es:=zjc (i:=(T'.length:Int)) (j:=(a':Int)) el (show fNm 5 _=.ok (.int (a':Int)) from rfl)
  rw[show(T'.length:Int) - (a':Int)=((T'.length - a':Nat):Int) from by omega] at es
  exact zbG (zO rfl (zO es rfl)) rfl
 have sq:=zjM (m:=m) (B:=B) (dn:=T'.take a') (ud:=(T'.drop a').reverse)
 rw[t1,t2] at sq
 refine(zL (zox (zhr (zdx sq (zV est) (zhJ _ _ true))))).trans ?_
 have sl:slD (.lst (sT T')) none (some (a':Int))=some (.lst (sT (T'.take a'))):=by
  show some (D.lst (zcu (sT T') none (some (a':Int))))=_
  rw[zaP];unfold sT;rw[ldz]
 have ew:fM isS qQ (fC (.str [])) hq6 (rh ns m B T' a' s6 s7 (.fz (.int w)) (.fz d) s10 s11 s12 (.fz due) s14 s15 s16 s17)=.ok (.str (T'.take a').flatten):=zga (a:=.str []) (b:=.lst (sT (T'.take a'))) rfl rfl (zcg (a:=.lst (sT T')) (l:=none) (h:=some (a':Int)) rfl rfl rfl sl) (zfr (by rw[hW];omega))
 rw[hW] at ew
 refine(zL (ρ':=rh ns m B T' a' s6 s7 (.fz (.int w)) (.fz d) s10 s11 s12 (.fz due) s14 (.fz (.str Wh)) s16 s17) (zU (zV ew))).trans ?_
 refine(zL (ρ':=rh ns m B T' a' s6 s7 (.fz (.int w)) (.fz d) s10 s11 s12 (.fz due) s14 (.fz (.str Wh)) (.fz (.lst (sT (yI B Wh).1))) (.fz (.str (yI B Wh).2))) (zkE (zV (cA2 (a:=.tup (sT B)) (b:=.str Wh) rfl rfl (zhK h.bk (by have:=h.l32;omega) (by omega)))))).trans ?_
 have q1:=zdj (m:=m) (B:=B) (dn:=T'.take a') (ud:=(T'.drop a').reverse) (by rw[hW];omega)
 have q2:=zhP (m:=m) (B:=B) (dn:=T'.take a') (ud:=(T'.drop a').reverse) (by rw[hW];omega)
 have q3:=zjm (m:=m) (B:=B) (dn:=T'.take a') (ud:=(T'.drop a').reverse)
 have q4:=zkG (dn:=T'.take a') (ud:=(T'.drop a').reverse) h (by rw[hW];omega)
 rw[hW] at q1 q2 q3 q4
 refine(zL (zox (zn5 (zhr (zdx q1 (zV (a:=.str Wh) rfl) (jN _ true))) (zhr (zdx q2 (zV (a:=.lst (sT (yI B Wh).1)) rfl) (zqQ rfl)))))).trans ?_
 exact zox (zn5 (zhr (zdx q3 (zV (a:=.str (yI B Wh).2) rfl) (jN _ true))) (zhr (zdx q4 (zV (cA2 (a:=.tup (sT B)) (b:=.str Wh) rfl rfl (zcy h (by omega)))) (jN _ true))))
abbrev rj (ns:List Int)(m:Nat)(B T:List (List Nat))(a k hr:Nat)(w:Int)(s9 s10 s11 s12 s13 s14 s15 s16 s17:Sl):Rho:=rh ns m B T a (.fz (.int (k:Int))) (.fz (.int (hr:Int))) (.fz (.int w)) s9 s10 s11 s12 s13 s14 s15 s16 s17
abbrev rk (ns:List Int)(m:Nat)(B T:List (List Nat))(a k hr:Nat)(w:Int)(d:D)(bf:List Nat)(g:Bool)(s13 s14 s15 s16 s17:Sl):Rho:=rj ns m B T a k hr w (.fz d) (.fz (.str bf)) (.fz (.str (abcd.take m))) (.fz (.bl g)) s13 s14 s15 s16 s17
theorem zpq {ft:Rho->Ob->Ro Bool}{g h:Rho->Ob->O2}{ρ:Rho}{S S1:Ob}(e:ft ρ S=some (true,S1)):zIf ft g h ρ S=g ρ S1:=by unfold zIf;rw[e];exact lB rfl
theorem zkB {ft:Rho->Ob->Ro Bool}{g h:Rho->Ob->O2}{ρ:Rho}{S S1:Ob}(e:ft ρ S=some (false,S1)):zIf ft g h ρ S=h ρ S1:=by unfold zIf;rw[e];exact lW lv
theorem zpQ {g g':D->D->Option D}{fa fb fc:Rho->Rs D}{ρ:Rho}{a b:D}(ea:fa ρ=.ok a)(eb:fb ρ=.ok b)(h1:g a b=some (.bl false)):fCh g g' fa fb fc ρ=.ok (.bl false):=by
 unfold fCh;rw[ea];show(fb ρ).bind _=_;rw[eb];show(lf (g a b)).bind _=_;rw[h1];rfl
def zgX:List D:=[.str [101],.non,.int 1,.lst [.str [97]],.str [97,65]]
def okDd (m:Nat)(d:D):Prop:=∃x,d=.str x/\LetOk m x/\x.length<=5
theorem ziG (m2:2<=m)(m4:m<=4){l:List Nat}(hl:isText m l=false)(h9:l.length<=9):yp [.int m,.str l]=.ex 3 :=
 zf6 ((zdD (qu (b:=false) (xV (cA2 (a:=.int m) (b:=.str l) rfl rfl ((u9 m l (by omega)).trans (by rw[hl])))))).trans rfl)
theorem zmP (m2:2<=m)(m4:m<=4):∀d∈zgX,yp [.int m,d]=.ex 3:=by
 intro d hd
 have hm:m=2∨m=3∨m=4:=by omega
 unfold zgX at hd
 simp only[lz,lbr,lc0] at hd
 rcases hd with rfl|rfl|rfl|rfl|rfl
 ·refine ziG m2 m4 ?_ (by decide)
  rcases hm with rfl|rfl|rfl <;>decide
 ·rcases hm with rfl|rfl|rfl <;>rfl
 ·rcases hm with rfl|rfl|rfl <;>rfl
 ·rcases hm with rfl|rfl|rfl <;>rfl
 ·refine ziG m2 m4 ?_ (by decide)
  rcases hm with rfl|rfl|rfl <;>decide
abbrev fG:Rho->Rs D:=zaW zph hq9
theorem good_str (ns:List Int)(T:List (List Nat))(a:Nat){x:List Nat}(hx:x.length<=9)(s6 s7 s8 s10 s12 s13 s14 s15 s16 s17:Sl):fG (rh ns m B T a s6 s7 s8 (.fz (.str x)) s10 (.fz (.str (abcd.take m))) s12 s13 s14 s15 s16 s17)=.ok (.bl (isText m x)):=by
 refine zn3 rfl ?_
 have ec:xX (fI sgD (fNm 9)) (bT znK) (fNm 0) [11] (rh ns m B T a s6 s7 s8 (.fz (.str x)) s10 (.fz (.str (abcd.take m))) s12 s13 s14 s15 s16 s17)=.ok (.lst (sT ((x.filter λc=>!decide (c∈abcd.take m)).map λc=>[c]))):=by
  refine qK (ds:=x.map λc=>.str [c]) (zjx (a:=.str x) rfl rfl) (by rw[ly];omega) ?_
  have:=zbO (ft:=bT znK) (fe:=fNm 0) (ρ0:=[.no,.fz (.str (abcd.take m))]) (l:=x) (enc:=λc=>D.str [c]) (λc=>!decide (c∈abcd.take m)) (λc=>.str [c]) λc _=>⟨xV (yV (a:=.str [c]) (b:=.str (abcd.take m)) rfl rfl rfl),λ_=>rfl⟩
  rw[show sT ((x.filter λc=>!decide (c∈abcd.take m)).map λc=>[c])=(x.filter λc=>!decide (c∈abcd.take m)).map λc=>D.str [c] from by unfold sT;rw[lap];rfl]
  exact this
 refine yV (a:=.lst (sT ((x.filter λc=>!decide (c∈abcd.take m)).map λc=>[c]))) (b:=.lst (sT [])) ec rfl ((qZ false _ _).trans ?_)
 congr 2
 show decide _=isText m x
 unfold isText
 by_cases hh:∀c∈x,c∈abcd.take m
 ·have e1:x.filter (λc=>!decide (c∈abcd.take m))=[]:=lcA.mpr λc hc=>by simp[hh c hc]
  rw[e1,lal.mpr λc hc=>by simp[hh c hc]];rfl
 ·have e2:(x.all λc=>decide (c∈abcd.take m))=false:=by
   cases e:(x.all λc=>decide (c∈abcd.take m)) with
   | false=>rfl
   | true=>exact absurd (λc hc=>lbJ (lal.mp e c hc)) hh
  rw[e2]
  refine lT λz=>hh λc hc=>?_
  have z1:x.filter (λc=>!decide (c∈abcd.take m))=[]:=List.map_eq_nil_iff.mp z
  have:=lcA.mp z1 c hc
  simpa using this
theorem zjT (m2:2<=m)(m4:m<=4)(ns:List Int)(T:List (List Nat))(a:Nat){d:D}(hd:d∈zgX)(s6 s7 s8 s10 s12 s13 s14 s15 s16 s17:Sl):fG (rh ns m B T a s6 s7 s8 (.fz d) s10 (.fz (.str (abcd.take m))) s12 s13 s14 s15 s16 s17)=.ok (.bl false):=by
 have hm:m=2∨m=3∨m=4:=by omega
 unfold zgX at hd
 simp only[lz,lbr,lc0] at hd
 rcases hd with rfl|rfl|rfl|rfl|rfl
 ·refine(good_str ns T a (by decide) s6 s7 s8 s10 s12 s13 s14 s15 s16 s17).trans ?_
  rcases hm with rfl|rfl|rfl <;>rfl
 ·exact zdZ rfl
 ·exact zdZ rfl
 ·exact zdZ rfl
 ·refine(good_str ns T a (by decide) s6 s7 s8 s10 s12 s13 s14 s15 s16 s17).trans ?_
  rcases hm with rfl|rfl|rfl <;>rfl
theorem zfN (j:Int):eqD true (rf j) (rf j)=some (.bl false):=zdo true rfl (lX (zfS (n:=0) λd hd=>by simp only[lz,lbr,lc0] at hd;rcases hd with rfl|rfl <;>exact lp 0) (by decide))
def Nxt (m:Nat)(B T:List (List Nat))(a k:Nat)(o:O2)(ns:List Int):Prop:=∃T' a' s7 s8 s9 s10 s11 s12 s13 s14 s15 s16 s17,o=.nx (rh ns m B T' a' (.fz (.int (k:Int))) s7 s8 s9 s10 s11 s12 s13 s14 s15 s16 s17) (Qt m B T' a')/\(∀w∈T',w.length<=5)/\T'.length<=k+1/\a'<=T'.length
theorem Nxt.step {m:Nat}{B T:List (List Nat)}{a k:Nat}{o o':O2}{ns:List Int}(e:o=o')(h:Nxt m B T a k o' ns):Nxt m B T a k o ns:=by rw[e];exact h
theorem zhg (h:Bb m B)(ns:List Int){T T':List (List Nat)}{a a' k:Nat}{w:Int}{d due:D}(k16:k<16)(h5:∀w∈T',w.length<=5)(tl:T'.length<=k+1)(al:a'<=T'.length)(ht:xN [.int w,d] (Qt m B T a)=some (due,Qt m B T' a'))(hs:eqD true due due=some (.bl false))(s7 s10 s11 s12 s14 s15 s16 s17:Sl) :
  Nxt m B T a k (gB (rh ns m B T' a' (.fz (.int (k:Int))) s7 (.fz (.int w)) (.fz d) s10 s11 s12 (.fz due) s14 s15 s16 s17) (Qt m B T a)) ns:=by
 obtain⟨z15,z16,z17,e⟩:=zng h ns h5 (by omega) al ht hs (.fz (.int (k:Int))) s7 s10 s11 s12 s14 s15 s16 s17
 exact⟨T',a',_,_,_,_,_,_,_,_,_,_,_,e,h5,tl,al⟩
theorem turn (h:Bb m B)(ns:List Int)(hn:ns.length<=63){T:List (List Nat)}{a k:Nat}(k16:k<16)(h5:∀w∈T,w.length<=5)(tl:T.length<=k)(al:a<=T.length)(s7 s8 s9 s10 s11 s12 s13 s14 s15 s16 s17:Sl) :
  Nxt m B T a k (gT (rh ns m B T a (.fz (.int (k:Int))) s7 s8 s9 s10 s11 s12 s13 s14 s15 s16 s17) (Qt m B T a)) ns:=by
 have m2:=h.bk.m2
 have m4:=h.bk.m4
 have e7:f2 uh (fC (.int 40)) (f2 zfp (fC (.int 10)) (fNm 6)) (rh ns m B T a (.fz (.int (k:Int))) s7 s8 s9 s10 s11 s12 s13 s14 s15 s16 s17)=.ok (.int ((40+10*k:Nat):Int)):=by
  refine(wD (i:=40) (j:=10*(k:Int)) rfl (yV (a:=.int 10) (b:=.int (k:Int)) rfl rfl (lB ⟨zg2 (B:=10) (by omega) (by omega) (by omega),zg2 (B:=10) (by omega) (by omega) (by omega)⟩))).trans ?_
  congr 2
 obtain⟨hr,hhr⟩:∃hr,hr=40+10*k:=⟨_,rfl⟩
 rw[← hhr] at e7
 refine Nxt.step (zL (ρ':=rh ns m B T a (.fz (.int (k:Int))) (.fz (.int (hr:Int))) s8 s9 s10 s11 s12 s13 s14 s15 s16 s17) (S1:=Qt m B T a) (zU (zV e7))) ?_
 obtain ⟨w,hw,ew⟩:∃w:Int,(w=0∨w=1∨w=2)/\ixD (.lst [.int 0,.int 0,.int 0,.int 0,.int 1,.int 2]) (.int (xM ns (hr:Int) 6))=some (.int w):=by
  have hd:=yP ns (hr:Int) (m:=6) (by decide)
  generalize xM ns (hr:Int) 6=j at hd
  have:j=0∨j=1∨j=2∨j=3∨j=4∨j=5:=by omega
  rcases this with rfl|rfl|rfl|rfl|rfl|rfl
  ·exact⟨0,.inl rfl,rfl⟩
  ·exact⟨0,.inl rfl,rfl⟩
  ·exact⟨0,.inl rfl,rfl⟩
  ·exact⟨0,.inl rfl,rfl⟩
  ·exact⟨1,.inr (.inl rfl),rfl⟩
  ·exact⟨2,.inr (.inr rfl),rfl⟩
 have e8:f2 ixD hq5 zn6 (rh ns m B T a (.fz (.int (k:Int))) (.fz (.int (hr:Int))) s8 s9 s10 s11 s12 s13 s14 s15 s16 s17)=.ok (.int w):=yV (a:=.lst [.int 0,.int 0,.int 0,.int 0,.int 1,.int 2]) (b:=.int (xM ns (hr:Int) 6)) rfl (cA3 (a:=scD ns) (b:=.int (hr:Int)) (c:=.int 6) rfl rfl rfl (uz ns hn (hr:Int) 6 (by omega) (by omega) (by decide))) ew
 refine Nxt.step (zL (ρ':=rj ns m B T a k hr w s9 s10 s11 s12 s13 s14 s15 s16 s17) (S1:=Qt m B T a) (zU (zV e8))) ?_
 have tx:=zlY ns hn (hr+1) m2 m4 5 (by omega)
 have txl:=zex ns ((hr+1:Nat):Int) m (long:=5)
 have txo:=zkw ns ((hr+1:Nat):Int) m2 m4 5
 have c5:((5:Nat):Int)=5:=rfl
 simp only[c5] at tx txl txo
 generalize zeo ns ((hr+1:Nat):Int) m 5=x0 at tx txl txo
 have e9:fA (ari 4 vq) zon (rj ns m B T a k hr w s9 s10 s11 s12 s13 s14 s15 s16 s17)=.ok (.str x0):=cA4 (a:=scD ns) (b:=.int ((hr+1:Nat):Int)) (c:=.int m) (d:=.int 5) rfl ((wD (i:=(hr:Int)) (j:=1) rfl rfl).trans (by congr 2)) rfl rfl tx
 refine Nxt.step (zL (ρ':=rj ns m B T a k hr w (.fz (.str x0)) s10 s11 s12 s13 s14 s15 s16 s17) (S1:=Qt m B T a) (zU (zV e9))) ?_
 obtain ⟨d,hdd,ed⟩:∃d,(okDd m d∨d∈zgX)/\zIf (L2.up (bT hq1))
  hq0
  zNx (rj ns m B T a k hr w (.fz (.str x0)) s10 s11 s12 s13 s14 s15 s16 s17) (Qt m B T a)=.nx (rj ns m B T a k hr w (.fz d) s10 s11 s12 s13 s14 s15 s16 s17) (Qt m B T a):=by
  have et:bT hq1 (rj ns m B T a k hr w (.fz (.str x0)) s10 s11 s12 s13 s14 s15 s16 s17)=.ok (decide (xM ns ((hr:Int)+8) 9=0)):=xV (yV (a:=.int (xM ns ((hr:Int)+8) 9)) (b:=.int 0) (cA3 (a:=scD ns) (b:=.int ((hr:Int)+8)) (c:=.int 9) rfl (wD (i:=(hr:Int)) (j:=8) rfl rfl) rfl (uz ns hn ((hr:Int)+8) 9 (by omega) (by omega) (by decide))) rfl (zlW false _ _))
  by_cases hz:xM ns ((hr:Int)+8) 9=0
  ·rw [lS hz] at et
   obtain ⟨d,hd,eo⟩:∃d∈zgX,ixD (.lst zgX) (.int (xM ns ((hr:Int)+9) 5))=some d:=by
    have hd:=yP ns ((hr:Int)+9) (m:=5) (by decide)
    generalize xM ns ((hr:Int)+9) 5=j at hd
    have:j=0∨j=1∨j=2∨j=3∨j=4:=by omega
    rcases this with rfl|rfl|rfl|rfl|rfl
    ·exact⟨.str [101],by simp[zgX],rfl⟩
    ·exact⟨.non,by simp[zgX],rfl⟩
    ·exact⟨.int 1,by simp[zgX],rfl⟩
    ·exact⟨.lst [.str [97]],by simp[zgX],rfl⟩
    ·exact⟨.str [97,65],by simp[zgX],rfl⟩
   refine⟨d,.inr hd,(zpq (zV et)).trans (zU (zV (yV (a:=.lst zgX) (b:=.int (xM ns ((hr:Int)+9) 5)) rfl (cA3 (a:=scD ns) (b:=.int ((hr:Int)+9)) (c:=.int 5) rfl (wD (i:=(hr:Int)) (j:=9) rfl rfl) rfl (uz ns hn ((hr:Int)+9) 5 (by omega) (by omega) (by decide))) eo)))⟩
  ·rw[lT hz] at et
   exact⟨.str x0,.inl ⟨x0,rfl,txo,txl⟩,zox (zV et)⟩
 refine Nxt.step (zL ed) ?_
 have ft:=fl5 (L:=T.take a) λw hw=>h5 w (lb6 hw)
 have t1:(T.take a).length=a:=by rw[lO];omega
 have slT:slD (.lst (sT T)) none (some (a:Int))=some (.lst (sT (T.take a))):=by
  show some (D.lst (zcu (sT T) none (some (a:Int))))=_
  rw[zaP];unfold sT;rw[ldz]
 obtain⟨bf,hbf⟩:∃bf,(T.take a).flatten=bf:=⟨_,rfl⟩
 rw[hbf] at ft
 have e10:fM isS qQ (fC (.str [])) hq6 (rj ns m B T a k hr w (.fz d) s10 s11 s12 s13 s14 s15 s16 s17)=.ok (.str bf):=by
  have:=zga (chk:=isS) (a:=.str []) (b:=.lst (sT (T.take a))) (fa:=fC (.str [])) (ρ:=rj ns m B T a k hr w (.fz d) s10 s11 s12 s13 s14 s15 s16 s17) rfl rfl (zcg (fa:=fNm 4) (fl:=wg) (fh:=xK (fNm 5)) (a:=.lst (sT T)) (l:=none) (h:=some (a:Int)) rfl rfl rfl slT) (zfr (xs:=T.take a) (by rw[hbf];omega))
  rw[hbf] at this;exact this
 refine Nxt.step (zL (ρ':=rj ns m B T a k hr w (.fz d) (.fz (.str bf)) s11 s12 s13 s14 s15 s16 s17) (S1:=Qt m B T a) (zU (zV e10))) ?_
 have e11:fSl (fC (.str [97,98,99,100])) wg (xK (fNm 1)) (rj ns m B T a k hr w (.fz d) (.fz (.str bf)) s11 s12 s13 s14 s15 s16 s17)=.ok (.str (abcd.take m)):=zcg (a:=.str [97,98,99,100]) (l:=none) (h:=some (m:Int)) rfl rfl rfl (by show some (D.str (zcu abcd none (some (m:Int))))=_;rw[zaP])
 refine Nxt.step (zL (ρ':=rj ns m B T a k hr w (.fz d) (.fz (.str bf)) (.fz (.str (abcd.take m))) s12 s13 s14 s15 s16 s17) (S1:=Qt m B T a) (zU (zV e11))) ?_
 obtain ⟨gd,egd,hgd⟩:∃gd:Bool,fG (rj ns m B T a k hr w (.fz d) (.fz (.str bf)) (.fz (.str (abcd.take m))) s12 s13 s14 s15 s16 s17)=.ok (.bl gd)/\((gd=true/\okDd m d)∨(gd=false/\d∈zgX)):=by
  rcases hdd with⟨x,rfl,ho,hl⟩|ho
  ·exact⟨true,(good_str ns T a (by omega) _ _ _ _ _ _ _ _ _ _).trans (by rw[zca m4 ho]),.inl ⟨rfl,x,rfl,ho,hl⟩⟩
  ·exact⟨false,zjT m2 m4 ns T a ho _ _ _ _ _ _ _ _ _ _,.inr ⟨rfl,ho⟩⟩
 refine Nxt.step (zL (ρ':=rk ns m B T a k hr w d bf gd s13 s14 s15 s16 s17) (S1:=Qt m B T a) (zU (zV egd))) ?_
 have t2:(T.drop a).reverse.length=T.length - a:=by rw[lcV,lbb]
 rcases hw with rfl|rfl|rfl
 ·rcases hgd with⟨rfl,x,rfl,xo,xl⟩|⟨rfl,ho⟩
  ·-- a text is told
   have sf:=zmc B (T.take a) x
   have te:=zmz (ud:=(T.drop a).reverse) (dn:=T.take a) h xo (by rw[hbf];omega) (by omega)
   rw[hbf] at te sf
   rw[show(T.take a++[x]).flatten=bf++x from by rw[lcU,hbf];simp] at sf
   have s1:=zcy h (l:=bf++x) (by rw[lw];omega)
   have s2:=zcy h (l:=bf) (by omega)
   have eA:f2 zdc (fNm 10) (fNm 9) (rk ns m B T a k hr 0 (.str x) bf true s13 s14 s15 s16 s17)=.ok (.str (bf++x)):=yV (a:=.str bf) (b:=.str x) rfl rfl (lB (by omega))
   have eLn:fO ul hq4 (rk ns m B T a k hr 0 (.str x) bf true s13 s14 s15 s16 s17)=.ok (.int ((sg B bf).length:Int)):=zbG (zO (cA2 (a:=.tup (sT B)) (b:=.str bf) rfl rfl s2) rfl) rfl
   have eO:xK (fO ul hq4) (rk ns m B T a k hr 0 (.str x) bf true s13 s14 s15 s16 s17)=.ok (some ((sg B bf).length:Int)):=by unfold xK;rw[eLn];rfl
   have eD:fSl zm9 (xK (fO ul hq4)) wg (rk ns m B T a k hr 0 (.str x) bf true s13 s14 s15 s16 s17)=.ok (.str (sg B ((yI B bf).2++x))):=by
    refine zcg (a:=.str (sg B (bf++x))) (l:=some ((sg B bf).length:Int)) (h:=none) (cA2 (a:=.tup (sT B)) (b:=.str (bf++x)) rfl eA s1) eO rfl ?_
    show some (D.str (zcu (sg B (bf++x)) (some ((sg B bf).length:Int)) none))=_
    rw[zd4,sf,ldp];rfl
   have eC:fLs (fL2 zjb hq6 znY) (rk ns m B T a k hr 0 (.str x) bf true (.fz (.str (sg B ((yI B bf).2++x)))) s14 s15 s16 s17)=.ok (.lst (sT (T.take a++[x]))):=by
    refine zk1 (znD (a:=.lst (sT (T.take a))) (b:=.lst [.str x]) (zcg (a:=.lst (sT T)) (l:=none) (h:=some (a:Int)) rfl rfl rfl slT) rfl ((znd (by rw[yq,t1];show a+1<=_;omega)).trans ?_))
    congr 1
    exact kJ (T.take a) [x]
   refine Nxt.step (zL (ρ':=rk ns m B (T.take a++[x]) (a+1) k hr 0 (.str x) bf true (.fz (.str (sg B ((yI B bf).2++x)))) s14 s15 s16 s17) (S1:=Qt m B T a) ((zkB (zV (zhM (a:=true) (b:=false) (xV rfl) (qu (b:=true) (xV rfl))))).trans ((zpq (zV (xV rfl))).trans ((zL (zU (zV eD))).trans ((zL (zU (zV eC))).trans (zU (zV ((wD (i:=(a:Int)) (j:=1) rfl rfl).trans (by congr 2))))))))) ?_
   have e1':(T.take a++[x]).take (a+1)=T.take a++[x]:=lat (by rw[lw,t1];exact lp _)
   have e2':(T.take a++[x]).drop (a+1)=[]:=lae (by rw[lw,t1];exact lp _)
   refine zhg h ns k16 (λv hv=>?_) (by rw[lw,t1,laF];omega) (by rw[lw,t1,laF];exact lp _) (zfP (way0.trans (te.trans ?_))) (jN _ true) _ _ _ _ _ _ _ _
   ·rcases lam.mp hv with hv|hv
    ·exact h5 v (lb6 hv)
    ·rw[lI.mp hv];exact xl
   ·show _=Rz.ok _ (Qs m B ((T.take a++[x]).take (a+1)) ((T.take a++[x]).drop (a+1)).reverse)
    rw[e1',e2'];rfl
  ·-- refused
   refine Nxt.step (zL (ρ':=rk ns m B T a k hr 0 d bf false (.fz (rf 1)) s14 s15 s16 s17) (S1:=Qt m B T a) ((zpq (zV (zhM (a:=true) (b:=true) (xV rfl) (qu (b:=false) (xV rfl))))).trans (zU (zV (a:=rf 1) rfl)))) ?_
   exact zhg h ns k16 h5 (by omega) al (zkF (way0.trans (zj9 (zmP m2 m4 d ho)))) (zfN 1) _ _ _ _ _ _ _ _
 ·-- back
  have e14:∀s13 s14,fIf zmY zm2 zk8 (rk ns m B T a k hr 1 d bf gd s13 s14 s15 s16 s17)=.ok (.int ((a:Int) - 1)):=λ_ _=>zhI (xV rfl) (zjc (i:=(a:Int)) (j:=1) rfl rfl)
  have elT:∀a0 s13 s14,fO ul (zf (fNm 4) zE) (rk ns m B T a0 k hr 1 d bf gd s13 s14 s15 s16 s17)=.ok (.int (T.length:Int)):=λ_ _ _=>by show Rs.ok (D.int ((sT T).length:Int))=_;rw[yq]
  have bfalse:L2.up zmU (rk ns m B T a k hr 1 d bf gd s13 s14 s15 s16 s17) (Qt m B T a)=some (false,Qt m B T a):=zV (zh2 (xV rfl))
  cases a with
  | zero =>
   have ch:∀s13,bT hq2 (rk ns m B T 0 k hr 1 d bf gd s13 (.fz (.int (((0:Nat):Int) - 1))) s15 s16 s17)=.ok false:=λ_=>xV (zpQ (a:=.int 0) (b:=.int (((0:Nat):Int) - 1)) rfl rfl rfl)
   refine Nxt.step (zL (ρ':=rk ns m B T 0 k hr 1 d bf gd (.fz (rf 2)) (.fz (.int (((0:Nat):Int) - 1))) s15 s16 s17) (S1:=Qt m B T 0) ((zkB bfalse).trans ((zkB (zV (xV rfl))).trans ((zL (zU (zV (e14 _ _)))).trans ((zL (zU (zV (zhN (ch _) (e2:=(rfl:_=Rs.ok (rf 2))))))).trans (zU (d:=.int ((0:Nat):Int)) (zV (zhN (ch _) rfl)))))))) ?_
   exact zhg h ns k16 h5 (by omega) al (zgo (way1.trans zib)) (zfN 2) _ _ _ _ _ _ _ _
  | succ a =>
   have al':a<T.length:=by omega
   obtain⟨x,hx⟩:∃x,T[a]=x:=⟨_,rfl⟩
   have tk:T.take (a+1)=T.take a++[x]:=by rw[lbk,lg al',hx];rfl
   have dr:(T.drop a).reverse=(T.drop (a+1)).reverse++[x]:=by rw[lah al',lbF,hx]
   have ch:∀a0 s13,bT hq2 (rk ns m B T a0 k hr 1 d bf gd s13 (.fz (.int (((a+1:Nat):Int) - 1))) s15 s16 s17)=.ok true:=λa0 s13=>xV (zhB (a:=.int 0) (b:=.int (((a+1:Nat):Int) - 1)) (c:=.int (T.length:Int)) rfl rfl (elT _ _ _) (by show some (D.bl (decide (0<=((a+1:Nat):Int) - 1)))=_;rw[lS (by omega)]) (by show some (D.bl (decide (((a+1:Nat):Int) - 1<=(T.length:Int))))=_;rw[lS (by omega)]))
   have emin:f2 ixD (fNm 4) zm1 (rk ns m B T (a+1) k hr 1 d bf gd s13 (.fz (.int (((a+1:Nat):Int) - 1))) s15 s16 s17)=.ok (.str x):=by
    refine yV (a:=.lst (sT T)) (b:=.int (a:Int)) rfl (zbG (ds:=[.int ((a+1:Nat):Int),.int (((a+1:Nat):Int) - 1)]) rfl (by show some (D.int (if ((a+1:Nat):Int) - 1<((a+1:Nat):Int) then((a+1:Nat):Int) - 1 else((a+1:Nat):Int)))=_;rw[lB (by omega)];congr 2;omega)) ((ziS (B:=T) al').trans ?_)
    rw[lr,lg al',hx];rfl
   refine Nxt.step (zL (ρ':=rk ns m B T a k hr 1 d bf gd (.fz (.str x)) (.fz (.int (((a+1:Nat):Int) - 1))) s15 s16 s17) (S1:=Qt m B T (a+1)) ((zkB bfalse).trans ((zkB (zV (xV rfl))).trans ((zL (zU (zV (e14 _ _)))).trans ((zL (zU (zV (zhI (ch _ _) emin)))).trans (zU (d:=.int (a:Int)) (zV (zhI (ch _ _) (show _=Rs.ok (D.int (a:Int)) from by show Rs.ok (D.int (((a+1:Nat):Int) - 1))=_;congr 2;omega)))))))) ) ?_
   refine zhg h ns k16 h5 (by omega) (by omega) (zfP (way1.trans ?_)) (jN x true) _ _ _ _ _ _ _ _
   show xr [] (Qs m B (T.take (a+1)) (T.drop (a+1)).reverse)=.ok _ (Qs m B (T.take a) (T.drop a).reverse)
   rw[tk,dr]
   exact zj4 (by rw[lcV,lbb];omega)
 ·-- forth
  have e14:∀s13 s14,fIf zmY zm2 zk8 (rk ns m B T a k hr 2 d bf gd s13 s14 s15 s16 s17)=.ok (.int ((a+1:Nat):Int)):=λ_ _=>zhN (xV rfl) ((wD (i:=(a:Int)) (j:=1) rfl rfl).trans (by congr 2))
  have elT:∀a0 s13 s14,fO ul (zf (fNm 4) zE) (rk ns m B T a0 k hr 2 d bf gd s13 s14 s15 s16 s17)=.ok (.int (T.length:Int)):=λ_ _ _=>by show Rs.ok (D.int ((sT T).length:Int))=_;rw[yq]
  have bfalse:L2.up zmU (rk ns m B T a k hr 2 d bf gd s13 s14 s15 s16 s17) (Qt m B T a)=some (false,Qt m B T a):=zV (zh2 (xV rfl))
  have ch:∀a0 s13,bT hq2 (rk ns m B T a0 k hr 2 d bf gd s13 (.fz (.int ((a+1:Nat):Int))) s15 s16 s17)=.ok (decide (a+1<=T.length)):=λa0 s13=>xV (zhB (a:=.int 0) (b:=.int ((a+1:Nat):Int)) (c:=.int (T.length:Int)) rfl rfl (elT _ _ _) (by show some (D.bl (decide (0<=((a+1:Nat):Int))))=_;rw[lS (by omega)]) (by show some (D.bl (decide (((a+1:Nat):Int)<=(T.length:Int))))=_;congr 2;exact decide_eq_decide.mpr (by omega)))
  by_cases hle:a+1<=T.length
  ·rw [lS hle] at ch
   have al':a<T.length:=by omega
   obtain⟨x,hx⟩:∃x,T[a]=x:=⟨_,rfl⟩
   have x5:x.length<=5:=h5 x (by rw[← hx];exact laI al')
   have tk:T.take (a+1)=T.take a++[x]:=by rw[lbk,lg al',hx];rfl
   have dr:(T.drop a).reverse=(T.drop (a+1)).reverse++[x]:=by rw[lah al',lbF,hx]
   have emin:f2 ixD (fNm 4) zm1 (rk ns m B T a k hr 2 d bf gd s13 (.fz (.int ((a+1:Nat):Int))) s15 s16 s17)=.ok (.str x):=by
    refine yV (a:=.lst (sT T)) (b:=.int (a:Int)) rfl (zbG (ds:=[.int (a:Int),.int ((a+1:Nat):Int)]) rfl (by show some (D.int (if ((a+1:Nat):Int)<(a:Int) then((a+1:Nat):Int) else(a:Int)))=_;rw[lW (by omega)])) ((ziS (B:=T) al').trans ?_)
    rw[lr,lg al',hx];rfl
   refine Nxt.step (zL (ρ':=rk ns m B T (a+1) k hr 2 d bf gd (.fz (.str x)) (.fz (.int ((a+1:Nat):Int))) s15 s16 s17) (S1:=Qt m B T a) ((zkB bfalse).trans ((zkB (zV (xV rfl))).trans ((zL (zU (zV (e14 _ _)))).trans ((zL (zU (zV (zhI (ch _ _) emin)))).trans (zU (d:=.int ((a+1:Nat):Int)) (zV (zhI (ch _ _) rfl)))))))) ?_
   refine zhg h ns k16 h5 (by omega) hle (zfP (way2.trans ?_)) (jN x true) _ _ _ _ _ _ _ _
   show yE [] (Qs m B (T.take a) (T.drop a).reverse)=.ok _ (Qs m B (T.take (a+1)) (T.drop (a+1)).reverse)
   rw[tk,dr]
   exact zjJ h (by rw[hbf];omega) (by omega)
  ·rw[lT hle] at ch
   have ea:a=T.length:=by omega
   have dn0:T.drop a=[]:=lae (by omega)
   refine Nxt.step (zL (ρ':=rk ns m B T a k hr 2 d bf gd (.fz (rf 2)) (.fz (.int ((a+1:Nat):Int))) s15 s16 s17) (S1:=Qt m B T a) ((zkB bfalse).trans ((zkB (zV (xV rfl))).trans ((zL (zU (zV (e14 _ _)))).trans ((zL (zU (zV (zhN (ch _ _) (e2:=(rfl:_=Rs.ok (rf 2))))))).trans (zU (d:=.int (a:Int)) (zV (zhN (ch _ _) rfl)))))))) ?_
   refine zhg h ns k16 h5 (by omega) al (zgo (way2.trans ?_)) (zfN 2) _ _ _ _ _ _ _ _
   show yE [] (Qs m B (T.take a) (T.drop a).reverse)=.ex 7 (Qs m B (T.take a) (T.drop a).reverse)
   rw[dn0];exact zhs
theorem zni {q n:Nat}{fn:List D->Option Ob}{fs:Rho->Rs (List D)}{g:Rho->Ob->O2}{ρ:Rho}{ds:List D}{S:Ob}{d:D}(e1:fs ρ=.ok ds)(hl:ds.length=n)(e2:fn ds=some S)(e3:∃S',g (ρ.set q .no) S=.rt d S'):sNw q n fn fs g ρ=.rt d:=by
 obtain⟨S',e3⟩:=e3
 unfold sNw
 rw[e1]
 show(if ds.length=n then(match fn ds with|some S=>(match g (ρ.set q .no) S with | .rt d _=>Out.rt d|_=>.no)|none=>.no) else .no)=_
 rw[lB hl,e2]
 show(match g (ρ.set q .no) S with | .rt d _=>Out.rt d|_=>.no)=_
 rw[e3]
theorem zjZ (ns:List Int)(hn:ns.length<=63):zkR [.lst (ns.map .int)]=.ok (.bl true):=by
 have hd:=yP ns 0 (m:=3) (by decide)
 obtain⟨r,hr⟩:=lay hd.1
 rw[hr] at hd
 have m2:2<=2+r:=by omega
 have m4:2+r<=4:=by omega
 have hmm:(2:Int)+(r:Int)=((2+r:Nat):Int):=by omega
 generalize hm:2+r=m at m2 m4 hmm
 have hd1:=yP ns 1 (m:=5) (by decide)
 obtain⟨t1,h1⟩:=lay hd1.1
 rw[h1] at hd1
 have e1:=zl2 ns hn 20 m2 m4 t1 (by omega) (by decide)
 have hk:=Kc.of_gr (n:=5) m2 m4 (ziB ns 20 m2 m4 t1) (by omega)
 generalize bkF ns 20 m t1=B at e1 hk
 have h:=hk.bb (by decide)
 have l32:=h.l32
 refine yu ?_
 have e0:f2 uh (fC (.int 2)) zoW [.fz (scD ns),.no,.no,.no,.no,.no,.no,.no,.no,.no,.no,.no,.no,.no,.no,.no,.no,.no]=.ok (.int m):=(wD (i:=2) (j:=(r:Int)) rfl ((cA3 (a:=scD ns) (b:=.int 0) (c:=.int 3) rfl rfl rfl (uz ns hn 0 3 (by decide) (by decide) (by decide))).trans (by rw[hr]))).trans (by rw[hmm])
 refine(zG (ρ':=[.fz (scD ns),.fz (.int m),.no,.no,.no,.no,.no,.no,.no,.no,.no,.no,.no,.no,.no,.no,.no,.no]) (zX e0)).trans ?_
 have eB:fA (ari 4 uw) zo5 [.fz (scD ns),.fz (.int m),.no,.no,.no,.no,.no,.no,.no,.no,.no,.no,.no,.no,.no,.no,.no,.no]=.ok (.tup (sT B)):=cA4 (a:=scD ns) (b:=.int 20) (c:=.int m) (d:=.int t1) rfl rfl rfl ((cA3 (a:=scD ns) (b:=.int 1) (c:=.int 5) rfl rfl rfl (uz ns hn 1 5 (by decide) (by decide) (by decide))).trans (by rw[h1])) e1
 refine(zG (ρ':=[.fz (scD ns),.fz (.int m),.fz (.tup (sT B)),.no,.no,.no,.no,.no,.no,.no,.no,.no,.no,.no,.no,.no,.no,.no]) (zX eB)).trans ?_
 refine zni (ds:=[.int m,.tup (sT B)]) rfl rfl (znl h) ?_
 obtain ⟨n,hn1,hn2⟩:∃n:Nat,n<=16/\(if (if (ns.length:Int)<16 then(ns.length:Int) else 16) > 1 then(if (ns.length:Int)<16 then(ns.length:Int) else 16) else 1)=(n:Int):=by
  by_cases c1:(ns.length:Int)<16
  ·rw[lB c1]
   by_cases c2:(ns.length:Int) > 1
   ·rw[lB c2];exact⟨ns.length,by omega,rfl⟩
   ·rw[lW c2];exact⟨1,by omega,rfl⟩
  ·rw[lW c1];exact⟨16,by omega,rfl⟩
 have eN:zf (fO maxD (zf (fC (.int 1)) (zf (fO minD zm0) zE))) zE (rh ns m B [] 0 .no .no .no .no .no .no .no .no .no .no .no .no)=.ok [.int (n:Int)]:=by
  have el:fO ul (zf (fNm 0) zE) (rh ns m B [] 0 .no .no .no .no .no .no .no .no .no .no .no .no)=.ok (.int (ns.length:Int)):=by show Rs.ok (D.int ((ns.map D.int).length:Int))=_;rw[ly]
  have e2:fO minD zm0 (rh ns m B [] 0 .no .no .no .no .no .no .no .no .no .no .no .no)=.ok (.int (if (ns.length:Int)<16 then(ns.length:Int) else 16)):=zbG (ds:=[.int 16,.int (ns.length:Int)]) (zO rfl (zO el rfl)) rfl
  have ea:zf (fC (.int 1)) (zf (fO minD zm0) zE) (rh ns m B [] 0 .no .no .no .no .no .no .no .no .no .no .no .no)=.ok [.int 1,.int (if (ns.length:Int)<16 then(ns.length:Int) else 16)]:=zO rfl (zO e2 rfl)
  have e3:=zbG (g:=maxD) (d:=.int (n:Int)) ea (by show some (D.int (if (if (ns.length:Int)<16 then(ns.length:Int) else 16) > 1 then(if (ns.length:Int)<16 then(ns.length:Int) else 16) else 1))=_;rw[hn2])
  exact zO e3 rfl
 obtain ⟨ρ',S',e,T,a,s6,s7,s8,s9,s10,s11,s12,s13,s14,s15,s16,s17,rfl,rfl,_⟩:=zkq (i:=6) (l:=List.range n) (enc:=λ(k:Nat)=>D.int (k:Int)) (ρ:=rh ns m B [] 0 .no .no .no .no .no .no .no .no .no .no .no .no) (S:=Qt m B [] 0) (g:=gT)
  (λk ρ S=>∃T a s6 s7 s8 s9 s10 s11 s12 s13 s14 s15 s16 s17,ρ=rh ns m B T a s6 s7 s8 s9 s10 s11 s12 s13 s14 s15 s16 s17/\S=Qt m B T a/\(∀w∈T,w.length<=5)/\T.length<=k/\a<=T.length) ⟨[],0,_,_,_,_,_,_,_,_,_,_,_,_,rfl,rfl,(λw hw=>by cases hw),lp _,lp _⟩ (by
   rintro k c ρ S hc ⟨T,a,s6,s7,s8,s9,s10,s11,s12,s13,s14,s15,s16,s17,rfl,rfl,h5,tl,al⟩
   obtain⟨hk',ec⟩:=lh.mp hc
   rw[List.getElem_range] at ec
   subst ec
   rw[laf] at hk'
   obtain⟨T',a',z7,z8,z9,z10,z11,z12,z13,z14,z15,z16,z17,e,h5',tl',al'⟩:=turn h ns hn (by omega) h5 tl al s7 s8 s9 s10 s11 s12 s13 s14 s15 s16 s17
   exact⟨_,_,e,T',a',_,z7,z8,z9,z10,z11,z12,z13,z14,z15,z16,z17,rfl,rfl,h5',tl',al'⟩)
 have b1:yx [.int m,.non]=.ok (.bl false):=zd8 (zh5 m2 m4 rfl rfl)
 have b2:=zjq hk (by decide)
 have b3:yx [.int m,.lst (sT B)]=.ok (.bl false):=zd8 (zh5 m2 m4 (vK B) rfl)
 have b4:yx [.int m,.tup []]=.ok (.bl false):=zd8 (zke m2 m4 rfl (.inl rfl))
 have bb:∀d∈([.non,.tup (sT B.dropLast),.lst (sT B),.tup []]:List D),yx [.int m,d]=.ok (.bl false):=λd hd=>by
  rcases lz.mp hd with rfl|hd
  ·exact b1
  rcases lz.mp hd with rfl|hd
  ·exact b2
  rcases lz.mp hd with rfl|hd
  ·exact b3
  rw[lI.mp hd];exact b4
 have eI:∀s4 s5,fI tpD hq3 [.fz (scD ns),.fz (.int m),.fz (.tup (sT B)),.no,s4,s5,s6,s7,s8,s9,s10,s11,s12,s13,s14,s15,s16,s17]=.ok [.non,.tup (sT B.dropLast),.lst (sT B),.tup []]:=λs4 s5=>by
  refine zjx (a:=.tup [.non,.tup (sT B.dropLast),.lst (sT B),.tup []]) (zbG (ds:=[.non,.tup (sT B.dropLast),.lst (sT B),.tup []]) (zO rfl (zO (zcg (a:=.tup (sT B)) (l:=none) (h:=some (-1)) rfl rfl rfl ?_) (zO rfl (zO rfl rfl)))) rfl) rfl
  show some (D.tup (zcu (sT B) none (some (-1))))=_
  rw[zjI]
 have eC:∀s4 s5,xX (fI tpD hq3) wA (fA (ari 2 v7) znu) [1] [.fz (scD ns),.fz (.int m),.fz (.tup (sT B)),.no,s4,s5,s6,s7,s8,s9,s10,s11,s12,s13,s14,s15,s16,s17]=.ok (.lst [rf 0,rf 0,rf 0,rf 0]):=λs4 s5=>by
  refine qK (eI s4 s5) (show 4<=1000000 by decide) ?_
  have:=xO (fe:=fA (ari 2 v7) znu) (ρ0:=[.no,.fz (.int m)]) (l:=([.non,.tup (sT B.dropLast),.lst (sT B),.tup []]:List D)) (enc:=λd=>d) (λ_=>rf 0) λd hd=>cA2 (a:=.int m) (b:=d) rfl rfl (zl4 (bb d hd))
  rw[List.map_id'] at this
  exact this
 have same4:eqD false (.lst [rf 0,rf 0,rf 0,rf 0]) (.lst [rf 0,rf 0,rf 0,rf 0])=some (.bl true):=zdo false rfl (lX (zmn (n:=1) λd hd=>by
  simp only[lz,lbr,lc0] at hd
  have:d=rf 0:=by rcases hd with rfl|rfl|rfl|rfl <;>rfl
  rw[this]
  exact zfS (n:=0) λd hd=>by simp only[lz,lbr,lc0] at hd;rcases hd with rfl|rfl <;>exact lp 0) (by decide))
 refine⟨Qt m B T a,?_⟩
 refine(zL (zU (i:=4) (d:=.lst (sT [])) (S1:=Qt m B [] 0) (zV rfl))).trans ?_
 refine(zL (ρ':=rh ns m B [] 0 .no .no .no .no .no .no .no .no .no .no .no .no) (S1:=Qt m B [] 0) (zU (d:=.int 0) (zV rfl))).trans ?_
 refine(zL ((zlU (ds:=(List.range n).map λ(k:Nat)=>D.int (k:Int)) (zcL (ds:=[.int (n:Int)]) eN (vo (by omega)))).trans e)).trans ?_
 exact uT (zV (yV (a:=.lst [rf 0,rf 0,rf 0,rf 0]) (b:=.lst [rf 0,rf 0,rf 0,rf 0]) (eC _ _) rfl same4))
end
end K63
namespace K63
open PySem L2 PyProof.Rows
open PySem.Challenge
open My
open Pg
def top (i:Nat):Stmt:=PySem.Challenge.pw_piecebooks_k63_streams.main.body.getD i (.Pass ⟨0,0,0,0⟩)
abbrev zah:Stmt:=top 37
abbrev jA:Stmt:=top 38
abbrev vW:Stmt:=top 39
abbrev qX:Stmt:=top 16
abbrev zaY:Stmt:=top 9
abbrev jB:Stmt:=top 10
abbrev xG:Stmt:=top 15
abbrev uL:Stmt:=top 11
abbrev ux:Stmt:=top 17
abbrev jk:Stmt:=top 22
abbrev zcl:Stmt:=top 19
abbrev jQ:Stmt:=top 21
abbrev jW:Stmt:=top 20
abbrev xH:Stmt:=top 23
abbrev qI:Stmt:=top 24
abbrev zcn:Stmt:=top 25
abbrev uO:Stmt:=top 18
abbrev wY:Stmt:=inClass (top 35) 0
abbrev uY:Stmt:=top 43
abbrev jE:Stmt:=top 45
abbrev q9:Stmt:=top 40
abbrev qi:Stmt:=top 41
abbrev w5:Stmt:=top 12
abbrev zd6:Stmt:=top 26
abbrev za9:Stmt:=top 28
abbrev zbe:Stmt:=top 30
abbrev jT:Stmt:=top 31
abbrev zbL:Stmt:=top 32
abbrev qO:Stmt:=inClass (top 35) 4
abbrev uU:Stmt:=inClass (top 35) 1
abbrev qW:Stmt:=inClass (top 35) 2
abbrev uN:Stmt:=top 34
abbrev qU:Stmt:=inClass (top 35) 7
abbrev uZ:Stmt:=inClass (top 35) 8
abbrev zak:Stmt:=top 44
abbrev uV:Stmt:=inClass (top 35) 9
abbrev qJ:Stmt:=inClass (top 35) 5
abbrev vY:Stmt:=inClass (top 35) 6
abbrev uM:Stmt:=inClass (top 35) 3
abbrev zap:Stmt:=top 42
abbrev uF:Stmt:=top 46
abbrev zhi:Stmt:=top 47
structure Txt (K:PySem.W.Frag)(mg:Str->Option Value) where
 o_Stream:Cd K mg "Stream"
 a_many:NoAttr K o_Stream.C "many"
 a_chosen:NoAttr K o_Stream.C "chosen"
 a_done:NoAttr K o_Stream.C "done"
 a_rests:NoAttr K o_Stream.C "rests"
 a_undone:NoAttr K o_Stream.C "undone"
 d__law_cell:Dn K mg "_law_cell" zah ["_law_script", "_law_k"]
 d__law_drawn:Dn K mg "_law_drawn" jA ["_law_script", "_law_k", "_law_many"]
 d__law_book:Dn K mg "_law_book" vW ["_law_script", "_law_at", "_law_many", "_law_turns"]
 d_is_rising:Dn K mg "is_rising" qX ["texts"]
 d_is_whole:Dn K mg "is_whole" zaY ["thing"]
 d_is_between:Dn K mg "is_between" jB ["thing", "least", "most"]
 d_is_number_of_letters:Dn K mg "is_number_of_letters" xG ["thing"]
 d_is_text_of:Dn K mg "is_text_of" uL ["many", "thing"]
 d_are_pieces:Dn K mg "are_pieces" ux ["many", "thing"]
 d_first_pair:Dn K mg "first_pair" jk ["pieces"]
 d_gone_on:Dn K mg "gone_on" zcl ["many", "texts"]
 d_is_apart:Dn K mg "is_apart" jQ ["pieces", "text"]
 d_is_inner:Dn K mg "is_inner" jW ["pieces", "text"]
 d_first_text_apart:Dn K mg "first_text_apart" xH ["many", "pieces"]
 d_first_paper:Dn K mg "first_paper" qI ["many", "pieces"]
 d_is_book:Dn K mg "is_book" zcn ["many", "thing"]
 d_require_book:Dn K mg "require_book" uO ["many", "thing"]
 m___init__:Md K o_Stream.C "__init__" "Stream.__init__" wY ["self", "many", "book"]
 d__law_refused:Dn K mg "_law_refused" uY ["_law_e"]
 d__law_new:Dn K mg "_law_new" jE ["_law_many", "_law_book_here"]
 d__law_text:Dn K mg "_law_text" q9 ["_law_script", "_law_at", "_law_many", "_law_long"]
 d__law_cut:Dn K mg "_law_cut" qi ["_law_book_here", "_law_text_here"]
 d_require_text_of:Dn K mg "require_text_of" w5 ["many", "thing"]
 d_cut_by:Dn K mg "cut_by" zd6 ["book", "text"]
 d_bits_for:Dn K mg "bits_for" za9 ["size"]
 d_word_for:Dn K mg "word_for" zbe ["number", "bits"]
 d_words_of:Dn K mg "words_of" jT ["book"]
 d_led_by:Dn K mg "led_by" zbL ["book", "text"]
 m_left:Md K o_Stream.C "left" "Stream.left" qO ["self"]
 m_go_on:Md K o_Stream.C "go_on" "Stream.go_on" uU ["self", "text"]
 m_tell:Md K o_Stream.C "tell" "Stream.tell" qW ["self", "text"]
 d_require_step:Dn K mg "require_step" uN ["texts"]
 m_back:Md K o_Stream.C "back" "Stream.back" qU ["self"]
 m_forth:Md K o_Stream.C "forth" "Stream.forth" uZ ["self"]
 d__law_told:Dn K mg "_law_told" zak ["_law_stream", "_law_way", "_law_text_here"]
 m_steps:Md K o_Stream.C "steps" "Stream.steps" uV ["self"]
 m_text:Md K o_Stream.C "text" "Stream.text" qJ ["self"]
 m_pieces:Md K o_Stream.C "pieces" "Stream.pieces" vY ["self"]
 m_signs:Md K o_Stream.C "signs" "Stream.signs" uM ["self"]
 d__law_bits:Dn K mg "_law_bits" zap ["_law_book_here"]
 d__law_signs:Dn K mg "_law_signs" uF ["_law_book_here", "_law_text_here"]
 d_law:Dn K mg "law" zhi ["_law_script"]
 v_FEWEST_LETTERS:Value
 c_FEWEST_LETTERS:mg "FEWEST_LETTERS" = some v_FEWEST_LETTERS
 r_FEWEST_LETTERS:RelV (.int (2)) v_FEWEST_LETTERS
 v_LETTERS:Value
 c_LETTERS:mg "LETTERS" = some v_LETTERS
 r_LETTERS:RelV (.str (T [97,98,99,100])) v_LETTERS
 v_MOST_PIECES:Value
 c_MOST_PIECES:mg "MOST_PIECES" = some v_MOST_PIECES
 r_MOST_PIECES:RelV (.int (32)) v_MOST_PIECES
 n_ValueError:mg "ValueError" = none
 n_all:mg "all" = none
 n_any:mg "any" = none
 n_bool:mg "bool" = none
 n_dict:mg "dict" = none
 n_int:mg "int" = none
 n_isinstance:mg "isinstance" = none
 n_len:mg "len" = none
 n_list:mg "list" = none
 n_max:mg "max" = none
 n_min:mg "min" = none
 n_range:mg "range" = none
 n_sorted:mg "sorted" = none
 n_str:mg "str" = none
 n_tuple:mg "tuple" = none
 n_zip:mg "zip" = none
 x_NoBook:Own K mg "NoBook"
 x_NoLetters:Own K mg "NoLetters"
 x_NoStep:Own K mg "NoStep"
 x_PieceError:Own K mg "PieceError"
 e_NoBook:ExcK K x_NoBook.C
 s_NoBook:PySem.W.subIn K (.ref x_NoBook.C) (.ref x_PieceError.C)=some true
 k_NoBook_NoBook:PySem.W.kitOne K (.ref x_NoBook.C) (.ref x_NoBook.C)=some true
 k_NoBook_NoLetters:PySem.W.kitOne K (.ref x_NoBook.C) (.ref x_NoLetters.C)=some false
 k_NoBook_NoStep:PySem.W.kitOne K (.ref x_NoBook.C) (.ref x_NoStep.C)=some false
 v_NoBook:PySem.W.kitOne K (.ref x_NoBook.C) (.type "ValueError")=some true
 e_NoLetters:ExcK K x_NoLetters.C
 s_NoLetters:PySem.W.subIn K (.ref x_NoLetters.C) (.ref x_PieceError.C)=some true
 k_NoLetters_NoBook:PySem.W.kitOne K (.ref x_NoLetters.C) (.ref x_NoBook.C)=some false
 k_NoLetters_NoLetters:PySem.W.kitOne K (.ref x_NoLetters.C) (.ref x_NoLetters.C)=some true
 k_NoLetters_NoStep:PySem.W.kitOne K (.ref x_NoLetters.C) (.ref x_NoStep.C)=some false
 v_NoLetters:PySem.W.kitOne K (.ref x_NoLetters.C) (.type "ValueError")=some true
 e_NoStep:ExcK K x_NoStep.C
 s_NoStep:PySem.W.subIn K (.ref x_NoStep.C) (.ref x_PieceError.C)=some true
 k_NoStep_NoBook:PySem.W.kitOne K (.ref x_NoStep.C) (.ref x_NoBook.C)=some false
 k_NoStep_NoLetters:PySem.W.kitOne K (.ref x_NoStep.C) (.ref x_NoLetters.C)=some false
 k_NoStep_NoStep:PySem.W.kitOne K (.ref x_NoStep.C) (.ref x_NoStep.C)=some true
 v_NoStep:PySem.W.kitOne K (.ref x_NoStep.C) (.type "ValueError")=some true
def yH {K:PySem.W.Frag}{mg:Str->Option Value}(t:Txt K mg):Nat->Addr
 | 1=>t.x_NoBook.C
 | 3=>t.x_NoLetters.C
 | 7=>t.x_NoStep.C
 | _=>0
theorem znM {C:Addr}:2∈(zx C).N:=show 2∈([2,3,4]:List Nat) by decide
theorem zpt {C:Addr}:3∈(zx C).N:=show 3∈([2,3,4]:List Nat) by decide
theorem zou {C:Addr}:4∈(zx C).N:=show 4∈([2,3,4]:List Nat) by decide
theorem zg4 {C:Addr}:("go_on" : Str)∉(zx C).nm:=show("go_on" : Str)∉(["many", "chosen", "done", "rests", "undone"]:List Str) by decide +kernel
theorem zmt {C:Addr}:("tell" : Str)∉(zx C).nm:=show("tell" : Str)∉(["many", "chosen", "done", "rests", "undone"]:List Str) by decide +kernel
theorem zjQ {C:Addr}:("signs" : Str)∉(zx C).nm:=show("signs" : Str)∉(["many", "chosen", "done", "rests", "undone"]:List Str) by decide +kernel
theorem ziJ {C:Addr}:("left" : Str)∉(zx C).nm:=show("left" : Str)∉(["many", "chosen", "done", "rests", "undone"]:List Str) by decide +kernel
theorem zgi {C:Addr}:("text" : Str)∉(zx C).nm:=show("text" : Str)∉(["many", "chosen", "done", "rests", "undone"]:List Str) by decide +kernel
theorem zjj {C:Addr}:("pieces" : Str)∉(zx C).nm:=show("pieces" : Str)∉(["many", "chosen", "done", "rests", "undone"]:List Str) by decide +kernel
theorem zmy {C:Addr}:("back" : Str)∉(zx C).nm:=show("back" : Str)∉(["many", "chosen", "done", "rests", "undone"]:List Str) by decide +kernel
theorem zjO {C:Addr}:("forth" : Str)∉(zx C).nm:=show("forth" : Str)∉(["many", "chosen", "done", "rests", "undone"]:List Str) by decide +kernel
theorem zkQ {C:Addr}:("steps" : Str)∉(zx C).nm:=show("steps" : Str)∉(["many", "chosen", "done", "rests", "undone"]:List Str) by decide +kernel
theorem zT {C:Addr}:(zx C).nm.Nodup:=show(["many", "chosen", "done", "rests", "undone"]:List Str).Nodup by decide +kernel
section
variable {P:Program}{w:World}{K:PySem.W.Frag}{mg:Str->Option Value}{base:Heap}
abbrev zb0:List Str:=["_law_script", "_law_k"]
theorem zeY:FnScope zb0 ["_law_script", "_law_k"] (zm zah):=yR (by decide +kernel)
theorem zfk (t:Txt K mg):OkD P w base (yH t) t.d__law_cell 1 uK 2 :=
 show OkD P w base (yH t) t.d__law_cell 1 (yQ 2 v8) 2 from okD (N:=zb0) (k:=0) (m:=2) (g:=v8) zeY rfl rfl λcdv A outer s H E hr =>
   (zy (za2 (v9 (zab hr.units) zjt (xn 0) (zaS zq) (xJ _))
   (zA (yo (yt qH zaH zB (xn 1))))
   wX)
   (zA (yo (yt wR wV (zax (xn 0) (yt zbr zbx (xn 1) (zW yN n_len rfl t.n_len lbB (zj (xn 0) zq zb) zb)) (λ_ _=>rfl)) (yt qH zaH zB (yt jF zbi (xn 1) (zW yN n_len rfl t.n_len lbB (zj (xn 0) zq zb) zb)))))))
abbrev zbq:List Str:=["_law_script", "_law_k", "_law_many", "_law_cell_here"]
theorem sc__law_drawn:FnScope zbq ["_law_script", "_law_k", "_law_many"] (zm jA):=yR (by decide +kernel)
theorem yO (t:Txt K mg):OkD P w base (yH t) t.d__law_drawn 2 zJ 3 :=
 show OkD P w base (yH t) t.d__law_drawn 2 (yQ 4 vz) 3 from okD (N:=zbq) (k:=1) (m:=4) (g:=vz) sc__law_drawn rfl rfl λcdv A outer s H E hr =>
   (zy (yw (i:=3) sc__law_drawn.nd rfl (Or.inl rfl) (yt zbr zbx (yt wR wV (yt qH zaH (yt zbr zbx (zN (zfk t) (hr.mono (by decide)) rfl t.d__law_cell.mg t.d__law_cell.fn.kp t.d__law_cell.bd yF (zj (xn 0) (zj (xn 1) zq zb) zb) zb) zB) zB) (yt qH zaH zB (yt wR wV (xn 1) zB))) zB))
   (zy (yw (i:=3) sc__law_drawn.nd rfl (Or.inl rfl) (yt zbr zbx (yt wR wV (yt qH zaH (xn 3) (xn 3)) (yt jF zbi (xn 3) zB)) zB))
   (zA (yo (yt zbr zbx (yt jF zbi (yt zbr zbx (yt wR wV (yt qH zaH (xn 3) (xn 3)) (yt jF zbi (xn 3) zB)) zB) zB) (xn 2))))))
abbrev qR:List Str:=["_law_script", "_law_at", "_law_many", "_law_turns", "_law_found", "_law_k", "_law_piece"]
theorem sc__law_book:FnScope qR ["_law_script", "_law_at", "_law_many", "_law_turns"] (zm vW):=yR (by decide +kernel)
theorem zeQ (t:Txt K mg):OkD P w base (yH t) t.d__law_book 3 uw 4 :=
 show OkD P w base (yH t) t.d__law_book 3 (yQ 7 uf) 4 from okD (N:=qR) (k:=2) (m:=7) (g:=uf) sc__law_book rfl rfl λcdv A outer s H E hr =>
   (zy (zks (j:=4) sc__law_book.nd rfl rfl (x := "_law_k") (caps:=[]) (xW (fs:=zm vW) (N:=qR) rfl rfl (by decide +kernel)) rfl (wj rfl t.n_range (zj (xn 2) zq zb) rfl) ⟨λ_ _ _ _ _=>(yc (i:=0) (jY (N:=["_law_k"]) rfl (by decide +kernel)) rfl (Or.inl rfl)),λ_ _ _ _ _=>vH,λ_ _ _ _ _=>(zax (xZ (l:=[97,98,99,100]) (by decide +kernel) (jd (by decide +kernel) (by decide +kernel))) (xn 0) (λ_ _=>rfl))⟩ rfl)
   (zy (j5 (zaK (i:=5) laz rfl (wj rfl t.n_range (zj (xn 3) zq zb) rfl) (yc (i:=5) sc__law_book.nd rfl (Or.inl rfl))
   (zy (zoa (j:=6) sc__law_book.nd rfl (Or.inr rfl) (pv 4) (zo9 (i:=4) (zN (yO t) (hr.mono (by decide)) rfl t.d__law_drawn.mg t.d__law_drawn.fn.kp t.d__law_drawn.bd ze1 (zj (xn 0) (zj (yt wR wV (xn 1) (xn 5)) (zj (zW yN n_len rfl t.n_len lbB (zj (xn 4) zq zb) zb) zq zQ) xU) zb) zb)) ⟨zQ,rfl,rfl,rfl,rfl⟩)
   (zA (zdd (i:=4) (zbQ (i:=4) sc__law_book.nd rfl (Or.inl rfl) (zhY rfl t.n_sorted boot_sorted (XL.xe (zlc (xn 4) (vQ (x := "_law_j") (caps:=[6]) (xW (fs:=zm vW) (N:=qR) rfl rfl (by decide +kernel)) rfl (wj rfl t.n_range (zj (xn 2) zq zb) rfl) ⟨λ_ _ _ _ _=>(yc (i:=0) (jY (N:=["_law_j", "_law_piece"]) rfl (by decide +kernel)) rfl (Or.inl rfl)),λ_ _ _ _ _=>vH,λ_ _ _ _ _=>(yt zas zcs (xn 1) (zax (xZ (l:=[97,98,99,100]) (by decide +kernel) (jd (by decide +kernel) (by decide +kernel))) (xn 0) (λ_ _=>rfl)))⟩))) xU)))))))
   (zA (zdd (i:=4) (yo (ze3 zdk zpV rfl t.n_tuple boot_tuple (zj (xn 4) zq zb) zb))))))
abbrev zau:List Str:=["texts"]
theorem ze9:FnScope zau ["texts"] (zm qX):=yR (by decide +kernel)
theorem zfb (t:Txt K mg):OkD P w base (yH t) t.d_is_rising 1 uy 1 :=
 show OkD P w base (yH t) t.d_is_rising 1 (yQ 1 qz) 1 from okD (N:=zau) (k:=0) (m:=1) (g:=qz) ze9 rfl rfl λcdv A outer s H E hr =>
   (zA (yo (zW (zdE rfl) n_all rfl t.n_all boot_all (zj (XL.xe (zkc (x := "one") (y := "other") (caps:=[]) (xW (fs:=zm qX) (N:=zau) rfl rfl (by decide +kernel)) rfl rfl t.n_zip (xn 0) (wL (xn 0) (vR zB) vZ) ⟨λ_ _ _ _ _=>(ziO (K:=K) (i:=0) (j:=1) rfl rfl (jY (N:=["one", "other"]) rfl (by decide +kernel)) rfl rfl (Or.inl rfl) (Or.inl rfl)),λ_ _ _ _ _=>vH,λ_ _ _ _ _=>(zc1 ziA zpx (xn 0) (xn 1) (xJ _))⟩ rfl rfl)) zq rfl) rfl)))
abbrev zc0:List Str:=["thing"]
theorem zfK:FnScope zc0 ["thing"] (zm zaY):=yR (by decide +kernel)
theorem zfZ (t:Txt K mg):OkD P w base (yH t) t.d_is_whole 1 zat 1 :=
 show OkD P w base (yH t) t.d_is_whole 1 (yQ 1 zbk) 1 from okD (N:=zc0) (k:=0) (m:=1) (g:=zbk) zfK rfl rfl λcdv A outer s H E hr =>
   (zA (yo (zcd (ze4 zmm rfl t.n_isinstance (xn 0) (zbo (v:=.ty "int") rfl t.n_int boot_int rfl) zb) (zbu (zlj (ze4 zkD rfl t.n_isinstance (xn 0) (zbo (v:=.ty "bool") rfl t.n_bool boot_bool rfl) zb))))))
abbrev zbs:List Str:=["thing", "least", "most"]
theorem zdu:FnScope zbs ["thing", "least", "most"] (zm jB):=yR (by decide +kernel)
theorem zds (t:Txt K mg):OkD P w base (yH t) t.d_is_between 2 vN 3 :=
 show OkD P w base (yH t) t.d_is_between 2 (yQ 3 uH) 3 from okD (N:=zbs) (k:=1) (m:=3) (g:=uH) zdu rfl rfl λcdv A outer s H E hr =>
   (zA (yo (zcd (zN (zfZ t) (hr.mono (by decide)) rfl t.d_is_whole.mg t.d_is_whole.fn.kp t.d_is_whole.bd yF (zj (xn 0) zq zb) zb) (zbu (zku zeF zeF zel zel (xn 1) (xn 0) (xn 2))))))
abbrev wU:List Str:=["thing"]
theorem qY:FnScope wU ["thing"] (zm xG):=yR (by decide +kernel)
theorem kj (t:Txt K mg):OkD P w base (yH t) t.d_is_number_of_letters 3 zR 1 :=
 show OkD P w base (yH t) t.d_is_number_of_letters 3 (yQ 1 yG) 1 from okD (N:=wU) (k:=2) (m:=1) (g:=yG) qY rfl rfl λcdv A outer s H E hr =>
   (zA (yo (zN (zds t) (hr.mono (by decide)) rfl t.d_is_between.mg t.d_is_between.fn.kp t.d_is_between.bd yF (zj (xn 0) (zj (zkK (jo (v:=.int (2)) rfl t.c_FEWEST_LETTERS t.r_FEWEST_LETTERS) λ_=>.int _) (zj (zW yN n_len rfl t.n_len lbB (zj (zkK (jo (v:=.str (T [97,98,99,100])) rfl t.c_LETTERS t.r_LETTERS) λ_=>.str [97,98,99,100] (jd (by decide +kernel) (by decide +kernel))) zq zb) zb) zq zQ) zb) zb) zb)))
abbrev jr:List Str:=["many", "thing", "letters"]
theorem sc_is_text_of:FnScope jr ["many", "thing"] (zm uL):=yR (by decide +kernel)
theorem zaD (t:Txt K mg):OkD P w base (yH t) t.d_is_text_of 1 xj 2 :=
 show OkD P w base (yH t) t.d_is_text_of 1 (yQ 3 uo) 2 from okD (N:=jr) (k:=0) (m:=3) (g:=uo) sc_is_text_of rfl rfl λcdv A outer s H E hr =>
   (zy (yw (i:=2) sc_is_text_of.nd rfl (Or.inr rfl) (wL (zkK (jo (v:=.str (T [97,98,99,100])) rfl t.c_LETTERS t.r_LETTERS) λ_=>.str [97,98,99,100] (jd (by decide +kernel) (by decide +kernel))) vZ (vR (xn 0))))
   (zA (yo (zcd (ze4 zh7 rfl t.n_isinstance (xn 1) (zbo (v:=.ty "str") rfl t.n_str boot_str rfl) zb) (zbu (zW (zdE rfl) n_all rfl t.n_all boot_all (zj (vQ (x := "sign") (caps:=[2]) (xW (fs:=zm uL) (N:=jr) rfl rfl (by decide +kernel)) rfl (zgK (xn 1)) ⟨λ_ _ _ _ _=>(yc (i:=0) (jY (N:=["sign", "letters"]) rfl (by decide +kernel)) rfl (Or.inl rfl)),λ_ _ _ _ _=>vH,λ_ _ _ _ _=>(zc1 zoo zpE (xn 0) (xn 1) (by with_unfolding_all rfl))⟩) zq rfl) rfl))))))
abbrev jt:List Str:=["many", "thing"]
theorem zd5:FnScope jt ["many", "thing"] (zm ux):=yR (by decide +kernel)
theorem zd7 (t:Txt K mg):OkD P w base (yH t) t.d_are_pieces 4 yM 2 :=
 show OkD P w base (yH t) t.d_are_pieces 4 (yQ 2 uq) 2 from okD (N:=jt) (k:=3) (m:=2) (g:=uq) zd5 rfl rfl λcdv A outer s H E hr =>
   (zy (za2 (XW.xt (zoU (zbw (kE (zN (kj t) (hr.mono (by decide)) rfl t.d_is_number_of_letters.mg t.d_is_number_of_letters.fn.kp t.d_is_number_of_letters.bd yF (zj (xn 0) zq zb) zb))) (zkS (zbw (kE (ze4 kit_tuple rfl t.n_isinstance (xn 1) (zbo (v:=.ty "tuple") rfl t.n_tuple boot_tuple rfl) zb))))))
   (zA (yo zdS))
   wX)
   (zy (za2 (zbw (zdO zeF zeF zel zel zB (zW yN n_len rfl t.n_len lbB (zj (xn 1) zq zb) zb) (zkK (jo (v:=.int (32)) rfl t.c_MOST_PIECES t.r_MOST_PIECES) λ_=>.int _)))
   (zA (yo zdS))
   wX)
   (zy (za2 (zbw (kE (zW (zdE rfl) n_all rfl t.n_all boot_all (zj (vQ (x := "part") (caps:=[0]) (xW (fs:=zm ux) (N:=jt) rfl rfl (by decide +kernel)) rfl (zc8 (xn 1)) ⟨λ_ _ _ _ _=>(yc (i:=0) (jY (N:=["part", "many"]) rfl (by decide +kernel)) rfl (Or.inl rfl)),λ_ _ _ _ _=>vH,λ_ _ _ _ _=>(zcd (zN (zaD t) (hr.mono (by decide)) rfl t.d_is_text_of.mg t.d_is_text_of.fn.kp t.d_is_text_of.bd ze1 (zj (xn 1) (zj (xn 0) zq zb) zb) zb) (zbu (zc1 (ju hr.units) zi2 (xn 0) (xZ (l:=[]) (by decide +kernel) (jd (by decide +kernel) (by decide +kernel))) (xJ _))))⟩) zq rfl) rfl)))
   (zA (yo zdS))
   wX)
   (zA (yo (zN (zfb t) (hr.mono (by decide)) rfl t.d_is_rising.mg t.d_is_rising.fn.kp t.d_is_rising.bd yF (zj (xn 1) zq zb) zb))))))
abbrev zbt:List Str:=["pieces", "one", "other"]
theorem sc_first_pair:FnScope zbt ["pieces"] (zm jk):=yR (by decide +kernel)
theorem zdX (t:Txt K mg):OkD P w base (yH t) t.d_first_pair 1 yX 1 :=
 show OkD P w base (yH t) t.d_first_pair 1 (yQ 3 xP) 1 from okD (N:=zbt) (k:=0) (m:=3) (g:=xP) sc_first_pair rfl rfl λcdv A outer s H E hr =>
   (zy (j5 (zmA (i:=1) (j:=2) laz rfl rfl t.n_zip (xn 0) (wL (xn 0) (vR zB) vZ) (ziO (K:=K) (i:=1) (j:=2) rfl rfl sc_first_pair.nd rfl rfl (Or.inl rfl) (Or.inl rfl))
   (zA (za2 (kE (qj (xn 2) (xn 1) ⟨zb,rfl,rfl,rfl,rfl⟩))
   (zA (yo (zc3 (zj (xn 1) (zj (xn 2) zq zb) zb))))
   wX)) rfl rfl))
   (zA (yo zjp)))
abbrev zfg:List Str:=["many", "texts", "longer", "text", "letter"]
theorem sc_gone_on:FnScope zfg ["many", "texts"] (zm zcl):=yR (by decide +kernel)
theorem zg8 (t:Txt K mg):OkD P w base (yH t) t.d_gone_on 1 xu 2 :=
 show OkD P w base (yH t) t.d_gone_on 1 (yQ 5 ji) 2 from okD (N:=zfg) (k:=0) (m:=5) (g:=ji) sc_gone_on rfl rfl λcdv A outer s H E hr =>
   (zy (zbQ (i:=2) sc_gone_on.nd rfl (Or.inl rfl) (zgC zq))
   (zy (j5 (zaK (i:=3) laz rfl (zck (xn 1)) (yc (i:=3) sc_gone_on.nd rfl (Or.inl rfl))
   (zA (zaK (i:=4) laz rfl (zgK (wL (zkK (jo (v:=.str (T [97,98,99,100])) rfl t.c_LETTERS t.r_LETTERS) λ_=>.str [97,98,99,100] (jd (by decide +kernel) (by decide +kernel))) vZ (vR (xn 0)))) (yc (i:=4) sc_gone_on.nd rfl (Or.inl rfl))
   (zA (zaJ (pv 2) (yt zas zcs (xn 3) (xn 4)) ⟨xU,rfl,rfl,rfl,rfl⟩))))))
   (zA (zdd (i:=2) (yo (xn 2))))))
abbrev za7:List Str:=["pieces", "text"]
theorem zfv:FnScope za7 ["pieces", "text"] (zm jQ):=yR (by decide +kernel)
theorem zgf (t:Txt K mg):OkD P w base (yH t) t.d_is_apart 1 yd 2 :=
 show OkD P w base (yH t) t.d_is_apart 1 (yQ 2 jV) 2 from okD (N:=za7) (k:=0) (m:=2) (g:=jV) zfv rfl rfl λcdv A outer s H E hr =>
   (zA (yo (zlj (zW (zgl rfl) n_any rfl t.n_any boot_any (zj (vQ (x := "piece") (caps:=[1]) (xW (fs:=zm jQ) (N:=za7) rfl rfl (by decide +kernel)) rfl (zc8 (xn 0)) ⟨λ_ _ _ _ _=>(yc (i:=0) (jY (N:=["piece", "text"]) rfl (by decide +kernel)) rfl (Or.inl rfl)),λ_ _ _ _ _=>vH,λ_ _ _ _ _=>(zpG (qj (xn 0) (xn 1) ⟨zb,rfl,rfl,rfl,rfl⟩) (zbu (qj (xn 1) (xn 0) ⟨zb,rfl,rfl,rfl,rfl⟩)))⟩) zq rfl) rfl))))
abbrev zaX:List Str:=["pieces", "text"]
theorem zfX:FnScope zaX ["pieces", "text"] (zm jW):=yR (by decide +kernel)
theorem zgd (t:Txt K mg):OkD P w base (yH t) t.d_is_inner 1 ye 2 :=
 show OkD P w base (yH t) t.d_is_inner 1 (yQ 2 jM) 2 from okD (N:=zaX) (k:=0) (m:=2) (g:=jM) zfX rfl rfl λcdv A outer s H E hr =>
   (zA (yo (zW (zgl rfl) n_any rfl t.n_any boot_any (zj (vQ (x := "piece") (caps:=[1]) (xW (fs:=zm jW) (N:=zaX) rfl rfl (by decide +kernel)) rfl (zc8 (xn 0)) ⟨λ_ _ _ _ _=>(yc (i:=0) (jY (N:=["piece", "text"]) rfl (by decide +kernel)) rfl (Or.inl rfl)),λ_ _ _ _ _=>vH,λ_ _ _ _ _=>(zcd (qj (xn 0) (xn 1) ⟨zb,rfl,rfl,rfl,rfl⟩) (zbu (zc1 (ju hr.units) zi2 (xn 0) (xn 1) (xJ _))))⟩) zq rfl) rfl)))
abbrev wB:List Str:=["many", "pieces", "inner", "longer", "text"]
theorem sc_first_text_apart:FnScope wB ["many", "pieces"] (zm xH):=yR (by decide +kernel)
theorem zaf (t:Txt K mg):OkD P w base (yH t) t.d_first_text_apart 2 yW 2 :=
 show OkD P w base (yH t) t.d_first_text_apart 2 (yQ 5 wO) 2 from okD (N:=wB) (k:=1) (m:=5) (g:=wO) sc_first_text_apart rfl rfl λcdv A outer s H E hr =>
   (zy (yw (i:=2) sc_first_text_apart.nd rfl (Or.inl rfl) (XEw.out (zek (zZ (zay (l:=[]) (by decide +kernel) (jd (by decide +kernel) (by decide +kernel))) kI zu))))
   (zy (j5 (zdK 2000 laz (v9 (ju hr.units) zi2 (xn 2) (zaS zq) (xJ _))
   (zy (yw (i:=3) sc_first_text_apart.nd rfl (Or.inl rfl) (zN (zg8 t) (hr.mono (by decide)) rfl t.d_gone_on.mg t.d_gone_on.fn.kp t.d_gone_on.bd ze1 (zj (xn 0) (zj (xn 2) zq zb) zb) zb))
   (zy (zaK (i:=4) laz rfl (zck (xn 3)) (yc (i:=4) sc_first_text_apart.nd rfl (Or.inl rfl))
   (zA (za2 (kE (zN (zgf t) (hr.mono (by decide)) rfl t.d_is_apart.mg t.d_is_apart.fn.kp t.d_is_apart.bd ze1 (zj (xn 1) (zj (xn 4) zq zb) zb) zb))
   (zA (yo (xn 4)))
   wX)))
   (zA (zfO (j:=2) sc_first_text_apart.nd rfl rfl (x := "text") (caps:=[1]) (xW (fs:=zm xH) (N:=wB) rfl rfl (by decide +kernel)) rfl (zck (xn 3)) ⟨λ_ _ _ _ _=>(yc (i:=0) (jY (N:=["text", "pieces"]) rfl (by decide +kernel)) rfl (Or.inl rfl)),λ_ _ _ _ _=>(zdG (kE (zN (zgd t) (hr.mono (by decide)) rfl t.d_is_inner.mg t.d_is_inner.fn.kp t.d_is_inner.bd ze1 (zj (xn 1) (zj (xn 0) zq zb) zb) zb))),λ_ _ _ _ _=>(xn 0)⟩ rfl))))))
   (zA (yo zjp))))
abbrev zaQ:List Str:=["many", "pieces", "pair"]
theorem sc_first_paper:FnScope zaQ ["many", "pieces"] (zm qI):=yR (by decide +kernel)
theorem zcN (t:Txt K mg):OkD P w base (yH t) t.d_first_paper 3 vh 2 :=
 show OkD P w base (yH t) t.d_first_paper 3 (yQ 3 wC) 2 from okD (N:=zaQ) (k:=2) (m:=3) (g:=wC) sc_first_paper rfl rfl λcdv A outer s H E hr =>
   (zy (yw (i:=2) sc_first_paper.nd rfl (Or.inl rfl) (zN (zdX t) (hr.mono (by decide)) rfl t.d_first_pair.mg t.d_first_pair.fn.kp t.d_first_pair.bd yF (zj (xn 1) zq zb) zb))
   (zy (za2 (zlQ (xn 2))
   (zA (yo (xn 2)))
   wX)
   (zA (yo (zN (zaf t) (hr.mono (by decide)) rfl t.d_first_text_apart.mg t.d_first_text_apart.fn.kp t.d_first_text_apart.bd yF (zj (xn 0) (zj (xn 1) zq zb) zb) zb)))))
abbrev zeE:List Str:=["many", "thing"]
theorem zhj:FnScope zeE ["many", "thing"] (zm zcn):=yR (by decide +kernel)
theorem zhl (t:Txt K mg):OkD P w base (yH t) t.d_is_book 5 yx 2 :=
 show OkD P w base (yH t) t.d_is_book 5 (yQ 2 zbZ) 2 from okD (N:=zeE) (k:=4) (m:=2) (g:=zbZ) zhj rfl rfl λcdv A outer s H E hr =>
   (zA (yo (zcd (zN (zd7 t) (hr.mono (by decide)) rfl t.d_are_pieces.mg t.d_are_pieces.fn.kp t.d_are_pieces.bd yF (zj (xn 0) (zj (xn 1) zq zb) zb) zb) (zbu (zm8 (zN (zcN t) (hr.mono (by decide)) rfl t.d_first_paper.mg t.d_first_paper.fn.kp t.d_first_paper.bd yF (zj (xn 0) (zj (xn 1) zq zb) zb) zb))))))
abbrev jZ:List Str:=["many", "thing"]
theorem zb9:FnScope jZ ["many", "thing"] (zm uO):=yR (by decide +kernel)
theorem zcC (t:Txt K mg):OkD P w base (yH t) t.d_require_book 6 wN 2 :=
 show OkD P w base (yH t) t.d_require_book 6 (yQ 2 uP) 2 from okD (N:=jZ) (k:=5) (m:=2) (g:=uP) zb9 rfl rfl λcdv A outer s H E hr =>
   (zA (za2 (zbw (kE (zN (zhl t) (hr.mono (by decide)) rfl t.d_is_book.mg t.d_is_book.fn.kp t.d_is_book.bd yF (zj (xn 0) (zj (xn 1) zq zb) zb) zb)))
   (zA (zdm t.x_NoBook rfl rfl (zj (xZ (l:=[116,104,105,115,32,105,115,32,110,111,32,98,111,111,107,32,111,102,32,115,111,32,109,97,110,121,32,108,101,116,116,101,114,115]) (by decide +kernel) (jd (by decide +kernel) (by decide +kernel))) zq zu) zu))
   wX))
abbrev qe:List Str:=["self", "many", "book"]
theorem zaI:FnScope qe ["self", "many", "book"] (zm wY):=yR (by decide +kernel)
theorem ur (t:Txt K mg):FnOk P w K mg base (CX1 P w) 7 t.m___init__.f t.m___init__.fd ["self", "many", "book"] (spJ K (yH t) (zx t.o_Stream.C) yL 3) :=
 show FnOk P w K mg base (CX1 P w) 7 t.m___init__.f t.m___init__.fd ["self", "many", "book"] (spJ K (yH t) (zx t.o_Stream.C) (zmQ 3 (zx t.o_Stream.C) yU yC) 3) from
 fnJ (kd:=(zx t.o_Stream.C)) (N:=qe) (ps:=["self", "many", "book"]) (k:=6) (m:=3) (n:=3) (f0:=yU) (g:=yC) (cl:=yH t) t.m___init__.fn zaI rfl rfl rfl λcdv A outer s H E hr=>⟨
   (zN (zcC t) (hr.mono (by decide)) rfl t.d_require_book.mg t.d_require_book.fn.kp t.d_require_book.bd yF (zj (xn 1) (zj (xn 2) zq zb) zb) zb),
   (zbM (zkY (E:=E) 0 t.o_Stream.cl t.a_many rfl zT (show 5<1000 by decide) (pv 0) (xn 1))
   (zbM (zkY (E:=E) 1 t.o_Stream.cl t.a_chosen rfl zT (show 5<1000 by decide) (pv 0) (xn 2))
   (zbM (zh8 (E:=E) 2 t.o_Stream.cl t.a_done rfl zT (show 5<1000 by decide) (pv 0) zq)
   (zbM (zh8 (E:=E) 3 t.o_Stream.cl t.a_rests rfl zT (show 5<1000 by decide) (pv 0) (zj (xZ (l:=[]) (by decide +kernel) (jd (by decide +kernel) (by decide +kernel))) zq zu))
   (zlr (zh8 (E:=E) 4 t.o_Stream.cl t.a_undone rfl zT (show 5<1000 by decide) (pv 0) zq)))))),rfl⟩
abbrev j7:List Str:=["_law_e", "_law_flags"]
theorem sc__law_refused:FnScope j7 ["_law_e"] (zm uY):=yR (by decide +kernel)
theorem vV (t:Txt K mg):FnOkH P w K mg base 1 t.d__law_refused.f t.d__law_refused.fd ["_law_e"] (spD K (yH t) wJ 1) :=
 show FnOkH P w K mg base 1 t.d__law_refused.f t.d__law_refused.fd ["_law_e"] (spD K (yH t) (yQ 2 u6) 1) from
 zqL (N:=j7) (ps:=["_law_e"]) (k:=0) (m:=2) (n:=1) (g:=u6) (cl:=yH t) t.d__law_refused.fn sc__law_refused rfl rfl λcdv A outer s H hr =>
   (zy (yw (i:=1) sc__law_refused.nd rfl (Or.inl rfl) (zaS (zj (zdl (tab:=[(1,true),(3,false),(7,false)]) (wu ⟨t.e_NoBook,.inl ⟨_,rfl,t.k_NoBook_NoBook⟩⟩ (wu ⟨t.e_NoLetters,.inl ⟨_,rfl,t.k_NoLetters_NoBook⟩⟩ (wu ⟨t.e_NoStep,.inl ⟨_,rfl,t.k_NoStep_NoBook⟩⟩ zdF))) rfl t.n_isinstance (xn 0) (jo (v:=.ref t.x_NoBook.C) rfl t.x_NoBook.mgx rfl) zb) (zj (zdl (tab:=[(1,false),(3,true),(7,false)]) (wu ⟨t.e_NoBook,.inl ⟨_,rfl,t.k_NoBook_NoLetters⟩⟩ (wu ⟨t.e_NoLetters,.inl ⟨_,rfl,t.k_NoLetters_NoLetters⟩⟩ (wu ⟨t.e_NoStep,.inl ⟨_,rfl,t.k_NoStep_NoLetters⟩⟩ zdF))) rfl t.n_isinstance (xn 0) (jo (v:=.ref t.x_NoLetters.C) rfl t.x_NoLetters.mgx rfl) zb) (zj (zdl (tab:=[(1,false),(3,false),(7,true)]) (wu ⟨t.e_NoBook,.inl ⟨_,rfl,t.k_NoBook_NoStep⟩⟩ (wu ⟨t.e_NoLetters,.inl ⟨_,rfl,t.k_NoLetters_NoStep⟩⟩ (wu ⟨t.e_NoStep,.inl ⟨_,rfl,t.k_NoStep_NoStep⟩⟩ zdF))) rfl t.n_isinstance (xn 0) (jo (v:=.ref t.x_NoStep.C) rfl t.x_NoStep.mgx rfl) zb) zq zQ) zQ) zQ)))
   (zy (za2 (XW.xt (zoU (v9 (ju hr.units) zi2 (zmi (xn 1) zdS ⟨zu,rfl,rfl,rfl,rfl⟩) zB (xJ _)) (zkS (zbw (kE (zdl (tab:=[(1,true),(3,true),(7,true)]) (wu ⟨t.e_NoBook,.inr ⟨_,rfl,t.v_NoBook⟩⟩ (wu ⟨t.e_NoLetters,.inr ⟨_,rfl,t.v_NoLetters⟩⟩ (wu ⟨t.e_NoStep,.inr ⟨_,rfl,t.v_NoStep⟩⟩ zdF))) rfl t.n_isinstance (xn 0) (zbo (v:=.ty "ValueError") rfl t.n_ValueError zcf rfl) zb))))))
   (zA (yo (XEw.out (zcF (zZ (zay (l:=[114,101,102,117,115,101,100]) (by decide +kernel) (jd (by decide +kernel) (by decide +kernel))) (zZ (XEw.mk (ziI zB)) kI zms) zu)))))
   wX)
   (zA (yo (XEw.out (zcF (zZ (zay (l:=[114,101,102,117,115,101,100]) (by decide +kernel) (jd (by decide +kernel) (by decide +kernel))) (zZ (XEw.mk (zlX (xn 1) zdS ⟨zu,rfl,rfl,rfl,rfl⟩)) kI zQ) zu)))))))
abbrev zbd:List Str:=["_law_many", "_law_book_here", "_law_e"]
theorem sc__law_new:FnScope zbd ["_law_many", "_law_book_here"] (zm jE):=yR (by decide +kernel)
theorem zeI (t:Txt K mg):FnOk P w K mg base (CX1 P w) 9 t.d__law_new.f t.d__law_new.fd ["_law_many", "_law_book_here"] (spN K (yH t) (zx t.o_Stream.C) uJ 2) :=
 show FnOk P w K mg base (CX1 P w) 9 t.d__law_new.f t.d__law_new.fd ["_law_many", "_law_book_here"] (spN K (yH t) (zx t.o_Stream.C) (runN 3 3 yL (zf (fNm 0) (zf (fNm 1) zE))) 2) from
 fnN (kd:=(zx t.o_Stream.C)) (N:=zbd) (ps:=["_law_many", "_law_book_here"]) (k:=8) (m:=3) (n:=2) (n2:=3) (i:=2) (cl:=yH t) t.d__law_new.fn sc__law_new rfl rfl rfl λcdv A outer s H E hr=>⟨_,_,
   zgU (X:=jc (CX1 P w) P w K mg base ["_law_many", "_law_book_here", "_law_e"] "_law_new" (zm jE) t.d__law_new.f cdv A outer s H E) (zi9 (zhA (x := "Stream") (t.o_Stream.mkd t.m___init__) (ur t) (hr.mono (by decide)) rfl t.o_Stream.mgx t.m___init__.bd (zj (xn 0) (zj (xn 1) zq zb) zb) zb)) t.x_PieceError rfl sc__law_new.nd rfl rfl (λa=>zaq (zeZ (te:=tDE K (yH t) E0 (fA (ari 1 wJ) (zf (fNm 2) zE))) ((zdz (vV t) ((hr.mono (by decide)).hand _) rfl t.d__law_refused.mg t.d__law_refused.fn.kp t.d__law_refused.bd (zj (xn 2) zq zb) zb)))) rfl rfl⟩
theorem zgc (t:Txt K mg):OkD P w base (yH t) t.d__law_new 9 v7 2 :=
 show OkD P w base (yH t) t.d__law_new 9 (yQ 3 zbm) 2 from okD (N:=zbd) (k:=8) (m:=3) (g:=zbm) sc__law_new rfl rfl λcdv A outer s H E hr =>
   (zA (zob (i:=2) (cs:=[1,3,7]) (zmD (kd:=zx t.o_Stream.C) (t.o_Stream.mkd t.m___init__) (ur t) (hr.mono (by decide)) rfl t.o_Stream.mgx t.m___init__.bd (zj (xn 0) (zj (xn 1) zq zb) zb) zb) t.x_PieceError rfl sc__law_new.nd rfl rfl (ql t.s_NoBook (ql t.s_NoLetters (ql t.s_NoStep zgw))) (λ_=>(zdz (vV t) ((hr.mono (by decide)).hand _) rfl t.d__law_refused.mg t.d__law_refused.fn.kp t.d__law_refused.bd (zj (xn 2) zq zb) zb)) rfl rfl))
abbrev zar:List Str:=["_law_script", "_law_at", "_law_many", "_law_long", "_law_size"]
theorem sc__law_text:FnScope zar ["_law_script", "_law_at", "_law_many", "_law_long"] (zm q9):=yR (by decide +kernel)
theorem zeR (t:Txt K mg):OkD P w base (yH t) t.d__law_text 3 vq 4 :=
 show OkD P w base (yH t) t.d__law_text 3 (yQ 5 uc) 4 from okD (N:=zar) (k:=2) (m:=5) (g:=uc) sc__law_text rfl rfl λcdv A outer s H E hr =>
   (zy (yw (i:=4) sc__law_text.nd rfl (Or.inl rfl) (zN (yO t) (hr.mono (by decide)) rfl t.d__law_drawn.mg t.d__law_drawn.fn.kp t.d__law_drawn.bd yF (zj (xn 0) (zj (xn 1) (zj (yt wR wV (xn 3) zB) zq xU) zb) zb) zb))
   (zA (yo (zci (xZ (l:=[]) (by decide +kernel) (jd (by decide +kernel) (by decide +kernel))) (vQ (x := "_law_k") (caps:=[0,2,1]) (xW (fs:=zm q9) (N:=zar) rfl rfl (by decide +kernel)) rfl (wj rfl t.n_range (zj (xn 4) zq zb) rfl) ⟨λ_ _ _ _ _=>(yc (i:=0) (jY (N:=["_law_k", "_law_script", "_law_many", "_law_at"]) rfl (by decide +kernel)) rfl (Or.inl rfl)),λ_ _ _ _ _=>vH,λ_ _ _ _ _=>(zax (xZ (l:=[97,98,99,100]) (by decide +kernel) (jd (by decide +kernel) (by decide +kernel))) (zN (yO t) (hr.mono (by decide)) rfl t.d__law_drawn.mg t.d__law_drawn.fn.kp t.d__law_drawn.bd ze1 (zj (xn 1) (zj (yt wR wV (yt wR wV (xn 3) zB) (xn 0)) (zj (xn 2) zq zb) xU) zb) zb) (λ_ _=>rfl))⟩) ⟨rfl,rfl,rfl,rfl,rfl⟩))))
abbrev jO:List Str:=["_law_book_here", "_law_text_here", "_law_pieces", "_law_some"]
theorem sc__law_cut:FnScope jO ["_law_book_here", "_law_text_here"] (zm qi):=yR (by decide +kernel)
theorem zcr (t:Txt K mg):OkD P w base (yH t) t.d__law_cut 1 wZ 2 :=
 show OkD P w base (yH t) t.d__law_cut 1 (yQ 4 za5) 2 from okD (N:=jO) (k:=0) (m:=4) (g:=za5) sc__law_cut rfl rfl λcdv A outer s H E hr =>
   (zy (zbQ (i:=2) sc__law_cut.nd rfl (Or.inl rfl) (zgC zq))
   (zy (zfO (j:=3) sc__law_cut.nd rfl rfl (x := "_law_piece") (caps:=[1]) (xW (fs:=zm qi) (N:=jO) rfl rfl (by decide +kernel)) rfl (zc8 (xn 0)) ⟨λ_ _ _ _ _=>(yc (i:=0) (jY (N:=["_law_piece", "_law_text_here"]) rfl (by decide +kernel)) rfl (Or.inl rfl)),λ_ _ _ _ _=>(zdG (kE (qj (xn 1) (xn 0) ⟨zb,rfl,rfl,rfl,rfl⟩))),λ_ _ _ _ _=>(xn 0)⟩ rfl)
   (zy (j5 (zdK 100 laz (v9 (ju hr.units) zi2 (xn 3) (zaS zq) (xJ _))
   (zy (zaJ (pv 2) (zax (xn 3) zB (λ_ _=>rfl)) ⟨uD,rfl,rfl,rfl,rfl⟩)
   (zy (yw (i:=1) sc__law_cut.nd rfl (Or.inr rfl) (wL (xn 1) (vR (zW yN n_len rfl t.n_len lbB (zj (zax (xn 3) zB (λ_ _=>rfl)) zq uD) uD)) vZ))
   (zA (zfO (j:=3) sc__law_cut.nd rfl rfl (x := "_law_piece") (caps:=[1]) (xW (fs:=zm qi) (N:=jO) rfl rfl (by decide +kernel)) rfl (zc8 (xn 0)) ⟨λ_ _ _ _ _=>(yc (i:=0) (jY (N:=["_law_piece", "_law_text_here"]) rfl (by decide +kernel)) rfl (Or.inl rfl)),λ_ _ _ _ _=>(zdG (kE (qj (xn 1) (xn 0) ⟨zb,rfl,rfl,rfl,rfl⟩))),λ_ _ _ _ _=>(xn 0)⟩ rfl))))))
   (zA (zdd (i:=2) (yo (zc3 (zj (xn 2) (zj (xn 1) zq zb) zb))))))))
abbrev qm:List Str:=["many", "thing"]
theorem zaU:FnScope qm ["many", "thing"] (zm w5):=yR (by decide +kernel)
theorem zaV (t:Txt K mg):OkD P w base (yH t) t.d_require_text_of 2 yp 2 :=
 show OkD P w base (yH t) t.d_require_text_of 2 (yQ 2 wW) 2 from okD (N:=qm) (k:=1) (m:=2) (g:=wW) zaU rfl rfl λcdv A outer s H E hr =>
   (zA (za2 (zbw (kE (zN (zaD t) (hr.mono (by decide)) rfl t.d_is_text_of.mg t.d_is_text_of.fn.kp t.d_is_text_of.bd yF (zj (xn 0) (zj (xn 1) zq zb) zb) zb)))
   (zA (zdm t.x_NoLetters rfl rfl (zj (xZ (l:=[116,104,105,115,32,105,115,32,110,111,32,116,101,120,116,32,111,102,32,116,104,101,115,101,32,108,101,116,116,101,114,115]) (by decide +kernel) (jd (by decide +kernel) (by decide +kernel))) zq zu) zu))
   wX))
abbrev zgH:List Str:=["book", "text", "pieces", "left", "letter"]
theorem sc_cut_by:FnScope zgH ["book", "text"] (zm zd6):=yR (by decide +kernel)
theorem zfa (t:Txt K mg):OkD P w base (yH t) t.d_cut_by 1 zaT 2 :=
 show OkD P w base (yH t) t.d_cut_by 1 (yQ 5 zaF) 2 from okD (N:=zgH) (k:=0) (m:=5) (g:=zaF) sc_cut_by rfl rfl λcdv A outer s H E hr =>
   (zy (zbQ (i:=2) sc_cut_by.nd rfl (Or.inl rfl) (zgC zq))
   (zy (yw (i:=3) sc_cut_by.nd rfl (Or.inl rfl) (xZ (l:=[]) (by decide +kernel) (jd (by decide +kernel) (by decide +kernel))))
   (zy (j5 (zaK (i:=4) laz rfl (zgK (xn 1)) (yc (i:=4) sc_cut_by.nd rfl (Or.inl rfl))
   (zy (yw (i:=3) sc_cut_by.nd rfl (Or.inl rfl) (yt zas zcs (xn 3) (xn 4)))
   (zA (za2 (v9 zhQ zqt (xn 3) (xn 0) (by with_unfolding_all rfl))
   (zy (zaJ (pv 2) (xn 3) ⟨zb,rfl,rfl,rfl,rfl⟩)
   (zA (yw (i:=3) sc_cut_by.nd rfl (Or.inl rfl) (xZ (l:=[]) (by decide +kernel) (jd (by decide +kernel) (by decide +kernel))))))
   wX)))))
   (zA (zdd (i:=2) (yo (zc3 (zj (xn 2) (zj (xn 3) zq zb) zb))))))))
abbrev zdf:List Str:=["size", "bits", "room"]
theorem sc_bits_for:FnScope zdf ["size"] (zm za9):=yR (by decide +kernel)
theorem zfz (t:Txt K mg):OkD P w base (yH t) t.d_bits_for 1 zag 1 :=
 show OkD P w base (yH t) t.d_bits_for 1 (yQ 3 za6) 1 from okD (N:=zdf) (k:=0) (m:=3) (g:=za6) sc_bits_for rfl rfl λcdv A outer s H E hr =>
   (zy (yw (i:=1) sc_bits_for.nd rfl (Or.inl rfl) zB)
   (zy (yw (i:=2) sc_bits_for.nd rfl (Or.inl rfl) zB)
   (zy (j5 (zdK 64 laz (v9 zm7 zn4 (xn 2) (xn 0) (xJ _))
   (zy (yw (i:=1) sc_bits_for.nd rfl (Or.inl rfl) (yt wR wV (xn 1) zB))
   (zA (yw (i:=2) sc_bits_for.nd rfl (Or.inl rfl) (yt qH zaH (xn 2) zB))))))
   (zA (yo (xn 1))))))
abbrev zc7:List Str:=["number", "bits", "word", "place"]
theorem sc_word_for:FnScope zc7 ["number", "bits"] (zm zbe):=yR (by decide +kernel)
theorem zf5 (t:Txt K mg):OkD P w base (yH t) t.d_word_for 1 qT 2 :=
 show OkD P w base (yH t) t.d_word_for 1 (yQ 4 za3) 2 from okD (N:=zc7) (k:=0) (m:=4) (g:=za3) sc_word_for rfl rfl λcdv A outer s H E hr =>
   (zy (yw (i:=2) sc_word_for.nd rfl (Or.inl rfl) (xZ (l:=[]) (by decide +kernel) (jd (by decide +kernel) (by decide +kernel))))
   (zy (j5 (zaK (i:=3) laz rfl (wj rfl t.n_range (zj (xn 1) zq zb) rfl) (yc (i:=3) sc_word_for.nd rfl (Or.inl rfl))
   (zy (yw (i:=2) sc_word_for.nd rfl (Or.inl rfl) (yt zas zcs (ze3 ze6 n_str rfl t.n_str boot_str (zj (yt zbr zbx (xn 0) zB) zq xU) xU) (xn 2)))
   (zA (yw (i:=0) sc_word_for.nd rfl (Or.inl rfl) (yt jF zbi (xn 0) zB))))))
   (zA (yo (xn 2)))))
abbrev zbb:List Str:=["book", "bits"]
theorem sc_words_of:FnScope zbb ["book"] (zm jT):=yR (by decide +kernel)
theorem zfu (t:Txt K mg):OkD P w base (yH t) t.d_words_of 2 zan 1 :=
 show OkD P w base (yH t) t.d_words_of 2 (yQ 2 za4) 1 from okD (N:=zbb) (k:=1) (m:=2) (g:=za4) sc_words_of rfl rfl λcdv A outer s H E hr =>
   (zy (yw (i:=1) sc_words_of.nd rfl (Or.inr rfl) (zN (zfz t) (hr.mono (by decide)) rfl t.d_bits_for.mg t.d_bits_for.fn.kp t.d_bits_for.bd yF (zj (zW yN n_len rfl t.n_len lbB (zj (xn 0) zq zb) zb) zq zQ) zQ))
   (zA (yo (vQ (x := "number") (caps:=[1]) (xW (fs:=zm jT) (N:=zbb) rfl rfl (by decide +kernel)) rfl (wj rfl t.n_range (zj (zW yN n_len rfl t.n_len lbB (zj (xn 0) zq zb) zb) zq zQ) rfl) ⟨λ_ _ _ _ _=>(yc (i:=0) (jY (N:=["number", "bits"]) rfl (by decide +kernel)) rfl (Or.inl rfl)),λ_ _ _ _ _=>vH,λ_ _ _ _ _=>(zN (zf5 t) (hr.mono (by decide)) rfl t.d_word_for.mg t.d_word_for.fn.kp t.d_word_for.bd ze1 (zj (xn 0) (zj (xn 1) zq zb) zb) zb)⟩))))
abbrev zd2:List Str:=["book", "text", "found", "words"]
theorem sc_led_by:FnScope zd2 ["book", "text"] (zm zbL):=yR (by decide +kernel)
theorem zfd (t:Txt K mg):OkD P w base (yH t) t.d_led_by 3 jg 2 :=
 show OkD P w base (yH t) t.d_led_by 3 (yQ 4 zdJ) 2 from okD (N:=zd2) (k:=2) (m:=4) (g:=zdJ) sc_led_by rfl rfl λcdv A outer s H E hr =>
   (zy (yw (i:=2) sc_led_by.nd rfl (Or.inl rfl) (zN (zfa t) (hr.mono (by decide)) rfl t.d_cut_by.mg t.d_cut_by.fn.kp t.d_cut_by.bd yF (zj (xn 0) (zj (xn 1) zq zb) zb) zb))
   (zy (yw (i:=3) sc_led_by.nd rfl (Or.inr rfl) (zhw rfl rfl t.n_dict rfl t.n_zip (xn 0) (zN (zfu t) (hr.mono (by decide)) rfl t.d_words_of.mg t.d_words_of.fn.kp t.d_words_of.bd yF (zj (xn 0) zq zb) zb)))
   (zA (yo (zc3 (zj (zci (xZ (l:=[]) (by decide +kernel) (jd (by decide +kernel) (by decide +kernel))) (vQ (x := "piece") (caps:=[3]) (xW (fs:=zm zbL) (N:=zd2) rfl rfl (by decide +kernel)) rfl (zck (zax (xn 2) zB (λ_ _=>rfl))) ⟨λ_ _ _ _ _=>(yc (i:=0) (jY (N:=["piece", "words"]) rfl (by decide +kernel)) rfl (Or.inl rfl)),λ_ _ _ _ _=>vH,λ_ _ _ _ _=>(znO (zpc hr) (xn 1) (xn 0))⟩) ⟨rfl,rfl,rfl,rfl,rfl⟩) (zj (zax (xn 2) zB (λ_ _=>rfl)) zq uD) zQ))))))
abbrev zaO:List Str:=["self"]
theorem zcS:FnScope zaO ["self"] (zm qO):=yR (by decide +kernel)
theorem zac (t:Txt K mg):OkS P w mg base (yH t) (zx t.o_Stream.C) t.m_left 1 vm 1 0 :=
 show OkS P w mg base (yH t) (zx t.o_Stream.C) t.m_left 1 (zd0 1 0 kh) 1 0 from okS (N:=zaO) (k:=0) (m:=1) (g:=kh) zcS rfl rfl λcdv A outer s H E hr =>
   (yh (wK (zl0 (i:=3) (j:=-1) zpt ⟨t.o_Stream.cl,t.a_rests,rfl,zT,rfl⟩ (pv 0) (show XE _ _ E _ (fC (.int (-1))) from(ziI zB)) (λ_ _=>rfl))))
abbrev zae:List Str:=["self", "text", "found"]
theorem sc_Stream_go_on:FnScope zae ["self", "text"] (zm uU):=yR (by decide +kernel)
theorem jC (t:Txt K mg):OkS P w mg base (yH t) (zx t.o_Stream.C) t.m_go_on 4 vU 2 0 :=
 show OkS P w mg base (yH t) (zx t.o_Stream.C) t.m_go_on 4 (zd0 3 0 vf) 2 0 from okS (N:=zae) (k:=3) (m:=3) (g:=vf) sc_Stream_go_on rfl rfl λcdv A outer s H E hr =>
   (zH (yS (i:=2) (by decide) sc_Stream_go_on.nd rfl (Or.inl rfl) (zdw (zfd t) (hr.mono (by decide)) rfl t.d_led_by.mg t.d_led_by.fn.kp t.d_led_by.bd yF (vg (zdP (i:=1) ⟨t.o_Stream.cl,t.a_chosen,rfl,zT,rfl⟩ (pv 0)) (vg (znZ zas zcs (vA (E:=E) t.o_Stream.cl t.m_left.me ziJ (zac t) (hr.mono (by decide)) t.m_left.bd yF (pv 0)) (zY (E:=E) (xn 1))) zco xU) rfl) rfl))
   (zH (jX (zfT (i:=2) znM ⟨t.o_Stream.cl,t.a_done,rfl,zT,rfl⟩ (pv 0) (zY (E:=E) (xn 1)) ⟨zb,rfl,rfl,rfl,rfl⟩))
   (zH (jX (zfT (i:=3) zpt ⟨t.o_Stream.cl,t.a_rests,rfl,zT,rfl⟩ (pv 0) (zY (E:=E) (zax (xn 2) zB (λ_ _=>rfl))) ⟨uD,rfl,rfl,rfl,rfl⟩))
   (yh (wK (zY (E:=E) (zax (xn 2) zB (λ_ _=>rfl))))))))
abbrev zaE:List Str:=["self", "text"]
theorem zcW:FnScope zaE ["self", "text"] (zm qW):=yR (by decide +kernel)
theorem zcJ (t:Txt K mg):FnOk P w K mg base (CX1 P w) 5 t.m_tell.f t.m_tell.fd ["self", "text"] (spZ K (yH t) (zx t.o_Stream.C) wk 2 0) :=
 show FnOk P w K mg base (CX1 P w) 5 t.m_tell.f t.m_tell.fd ["self", "text"] (spZ K (yH t) (zx t.o_Stream.C) (zhx 2 0 qD vL) 2 0) from
 fnZ (kd:=(zx t.o_Stream.C)) (j:=0) (N:=zaE) (ps:=["self", "text"]) (k:=4) (m:=2) (n:=2) (fq:=qD) (g:=vL) (cl:=yH t) t.m_tell.fn zcW rfl rfl rfl λcdv A outer s H E hr=>⟨
   (zlH (zaV t) (hr.mono (by decide)) rfl t.d_require_text_of.mg t.d_require_text_of.fn.kp t.d_require_text_of.bd yF (vg (zdP (i:=0) ⟨t.o_Stream.cl,t.a_many,rfl,zT,rfl⟩ (pv 0)) (vg (zY (E:=E) (xn 1)) zco zb) rfl) rfl),
   (zH (jX (zmw (i:=4) zou ⟨t.o_Stream.cl,t.a_undone,rfl,zT,rfl⟩ (pv 0) rfl rfl))
   (yh (wK (zgY (E:=E) t.o_Stream.cl t.m_go_on.me zg4 (jC t) (hr.mono (by decide)) t.m_go_on.bd yF (pv 0) (zg5 (E:=E) (zj (xn 1) zq zb)) zb)))),rfl⟩
abbrev j9:List Str:=["texts"]
theorem zb7:FnScope j9 ["texts"] (zm uN):=yR (by decide +kernel)
theorem jh (t:Txt K mg):OkD P w base (yH t) t.d_require_step 1 xT 1 :=
 show OkD P w base (yH t) t.d_require_step 1 (yQ 1 uQ) 1 from okD (N:=j9) (k:=0) (m:=1) (g:=uQ) zb7 rfl rfl λcdv A outer s H E hr =>
   (zA (za2 (v9 (zab hr.units) zjt (xn 0) (zaS zq) (xJ _))
   (zA (zdm t.x_NoStep rfl rfl (zj (xZ (l:=[116,104,101,114,101,32,105,115,32,110,111,32,116,101,120,116,32,116,111,32,116,97,107,101,32,98,97,99,107,32,111,114,32,116,111,32,116,101,108,108,32,97,103,97,105,110]) (by decide +kernel) (jd (by decide +kernel) (by decide +kernel))) zq zu) zu))
   wX))
abbrev zaL:List Str:=["self", "text"]
theorem sc_Stream_back:FnScope zaL ["self"] (zm qU):=yR (by decide +kernel)
theorem zcX (t:Txt K mg):FnOk P w K mg base (CX1 P w) 2 t.m_back.f t.m_back.fd ["self"] (spZ K (yH t) (zx t.o_Stream.C) xr 1 0) :=
 show FnOk P w K mg base (CX1 P w) 2 t.m_back.f t.m_back.fd ["self"] (spZ K (yH t) (zx t.o_Stream.C) (zhx 2 0 qN vO) 1 0) from
 fnZ (kd:=(zx t.o_Stream.C)) (j:=0) (N:=zaL) (ps:=["self"]) (k:=1) (m:=2) (n:=1) (fq:=qN) (g:=vO) (cl:=yH t) t.m_back.fn sc_Stream_back rfl rfl rfl λcdv A outer s H E hr=>⟨
   (zei (i:=2) znM ⟨t.o_Stream.cl,t.a_done,rfl,zT,rfl⟩ (pv 0) (jh t) (hr.mono (by decide)) rfl t.d_require_step.mg t.d_require_step.fn.kp t.d_require_step.bd yF rfl),
   (zH (yS (i:=1) (by decide) sc_Stream_back.nd rfl (Or.inl rfl) (zfV (i:=2) znM ⟨t.o_Stream.cl,t.a_done,rfl,zT,rfl⟩ (pv 0) rfl rfl))
   (zH (jX (zfV (i:=3) zpt ⟨t.o_Stream.cl,t.a_rests,rfl,zT,rfl⟩ (pv 0) rfl rfl))
   (zH (jX (zfT (i:=4) zou ⟨t.o_Stream.cl,t.a_undone,rfl,zT,rfl⟩ (pv 0) (zY (E:=E) (xn 1)) ⟨zb,rfl,rfl,rfl,rfl⟩))
   (yh (wK (zY (E:=E) (xn 1))))))),rfl⟩
abbrev zaa:List Str:=["self", "text"]
theorem sc_Stream_forth:FnScope zaa ["self"] (zm uZ):=yR (by decide +kernel)
theorem zb4 (t:Txt K mg):FnOk P w K mg base (CX1 P w) 5 t.m_forth.f t.m_forth.fd ["self"] (spZ K (yH t) (zx t.o_Stream.C) yE 1 0) :=
 show FnOk P w K mg base (CX1 P w) 5 t.m_forth.f t.m_forth.fd ["self"] (spZ K (yH t) (zx t.o_Stream.C) (zhx 2 0 uR vd) 1 0) from
 fnZ (kd:=(zx t.o_Stream.C)) (j:=0) (N:=zaa) (ps:=["self"]) (k:=4) (m:=2) (n:=1) (fq:=uR) (g:=vd) (cl:=yH t) t.m_forth.fn sc_Stream_forth rfl rfl rfl λcdv A outer s H E hr=>⟨
   (zei (i:=4) zou ⟨t.o_Stream.cl,t.a_undone,rfl,zT,rfl⟩ (pv 0) (jh t) (hr.mono (by decide)) rfl t.d_require_step.mg t.d_require_step.fn.kp t.d_require_step.bd yF rfl),
   (zH (yS (i:=1) (by decide) sc_Stream_forth.nd rfl (Or.inl rfl) (zfV (i:=4) zou ⟨t.o_Stream.cl,t.a_undone,rfl,zT,rfl⟩ (pv 0) rfl rfl))
   (zH (jX (zgY (E:=E) t.o_Stream.cl t.m_go_on.me zg4 (jC t) (hr.mono (by decide)) t.m_go_on.bd yF (pv 0) (zg5 (E:=E) (zj (xn 1) zq zb)) zb))
   (yh (wK (zY (E:=E) (xn 1)))))),rfl⟩
abbrev zcc:List Str:=["_law_stream", "_law_way", "_law_text_here", "_law_e"]
theorem sc__law_told:FnScope zcc ["_law_stream", "_law_way", "_law_text_here"] (zm zak):=yR (by decide +kernel)
theorem zeJ (t:Txt K mg):FnOk P w K mg base (CX1 P w) 6 t.d__law_told.f t.d__law_told.fd ["_law_stream", "_law_way", "_law_text_here"] (spS K (yH t) (zx t.o_Stream.C) xN 3 0) :=
 show FnOk P w K mg base (CX1 P w) 6 t.d__law_told.f t.d__law_told.fd ["_law_stream", "_law_way", "_law_text_here"] (spS K (yH t) (zx t.o_Stream.C) (zd0 4 0 zal) 3 0) from
 fnS (kd:=(zx t.o_Stream.C)) (j:=0) (N:=zcc) (ps:=["_law_stream", "_law_way", "_law_text_here"]) (k:=5) (m:=4) (n:=3) (g:=zal) (cl:=yH t) t.d__law_told.fn sc__law_told rfl rfl λcdv A outer s H E hr =>
   (yh (zmK (i:=3) (cs:=[1,3,7]) (by decide) (zlS (v9 (zab hr.units) zjt (xn 1) zB (xJ _)) (zgt (zjC t.o_Stream.cl t.m_tell.me zmt (zcJ t) (hr.mono (by decide)) t.m_tell.bd (pv 0) (zg5 (E:=E) (zj (xn 2) zq zb)) zb)) (zgt (zok (v9 (zab hr.units) zjt (xn 1) zB (xJ _)) (ze5 t.o_Stream.cl t.m_back.me zmy (zcX t) (hr.mono (by decide)) t.m_back.bd (pv 0)) (ze5 t.o_Stream.cl t.m_forth.me zjO (zb4 t) (hr.mono (by decide)) t.m_forth.bd (pv 0))))) t.x_PieceError rfl sc__law_told.nd rfl rfl (ql t.s_NoBook (ql t.s_NoLetters (ql t.s_NoStep zgw))) (λ_=>(zdz (vV t) ((hr.mono (by decide)).hand _) rfl t.d__law_refused.mg t.d__law_refused.fn.kp t.d__law_refused.bd (zj (xn 3) zq zb) zb)) rfl rfl))
abbrev j6:List Str:=["self"]
theorem zcb:FnScope j6 ["self"] (zm uV):=yR (by decide +kernel)
theorem zbY (t:Txt K mg):OkS P w mg base (yH t) (zx t.o_Stream.C) t.m_steps 1 wG 1 0 :=
 show OkS P w mg base (yH t) (zx t.o_Stream.C) t.m_steps 1 (zd0 1 0 u5) 1 0 from okS (N:=j6) (k:=0) (m:=1) (g:=u5) zcb rfl rfl λcdv A outer s H E hr =>
   (yh (wK (zmN (vg (zez (i:=2) (g:=ul) znM ⟨t.o_Stream.cl,t.a_done,rfl,zT,rfl⟩ (pv 0) yN n_len rfl t.n_len lbB rfl) (vg (zez (i:=4) (g:=ul) zou ⟨t.o_Stream.cl,t.a_undone,rfl,zT,rfl⟩ (pv 0) yN n_len rfl t.n_len lbB rfl) zco zQ) zQ))))
abbrev zaB:List Str:=["self"]
theorem zcV:FnScope zaB ["self"] (zm qJ):=yR (by decide +kernel)
theorem uW (t:Txt K mg):OkS P w mg base (yH t) (zx t.o_Stream.C) t.m_text 1 xY 1 0 :=
 show OkS P w mg base (yH t) (zx t.o_Stream.C) t.m_text 1 (zd0 1 0 qx) 1 0 from okS (N:=zaB) (k:=0) (m:=1) (g:=qx) zcV rfl rfl λcdv A outer s H E hr =>
   (yh (wK (ziM (E:=E) (i:=2) znM ⟨t.o_Stream.cl,t.a_done,rfl,zT,rfl⟩ (pv 0) (xZ (l:=[]) (by decide +kernel) (jd (by decide +kernel) (by decide +kernel))) ⟨rfl,rfl,rfl,rfl,rfl⟩)))
abbrev jD:List Str:=["self"]
theorem zbB:FnScope jD ["self"] (zm vY):=yR (by decide +kernel)
theorem zbE (t:Txt K mg):OkS P w mg base (yH t) (zx t.o_Stream.C) t.m_pieces 2 vG 1 0 :=
 show OkS P w mg base (yH t) (zx t.o_Stream.C) t.m_pieces 2 (zd0 1 0 vX) 1 0 from okS (N:=jD) (k:=1) (m:=1) (g:=vX) zbB rfl rfl λcdv A outer s H E hr =>
   (yh (wK (zkW (zdw (zfa t) (hr.mono (by decide)) rfl t.d_cut_by.mg t.d_cut_by.fn.kp t.d_cut_by.bd yF (vg (zdP (i:=1) ⟨t.o_Stream.cl,t.a_chosen,rfl,zT,rfl⟩ (pv 0)) (vg (vA (E:=E) t.o_Stream.cl t.m_text.me zgi (uW t) (hr.mono (by decide)) t.m_text.bd yF (pv 0)) zco zQ) rfl) rfl) (zY (E:=E) zB) (λ_ _=>rfl))))
abbrev j4:List Str:=["self"]
theorem zcA:FnScope j4 ["self"] (zm uM):=yR (by decide +kernel)
theorem zce (t:Txt K mg):OkS P w mg base (yH t) (zx t.o_Stream.C) t.m_signs 4 ug 1 0 :=
 show OkS P w mg base (yH t) (zx t.o_Stream.C) t.m_signs 4 (zd0 1 0 uX) 1 0 from okS (N:=j4) (k:=3) (m:=1) (g:=uX) zcA rfl rfl λcdv A outer s H E hr =>
   (yh (wK (zkW (zdw (zfd t) (hr.mono (by decide)) rfl t.d_led_by.mg t.d_led_by.fn.kp t.d_led_by.bd yF (vg (zdP (i:=1) ⟨t.o_Stream.cl,t.a_chosen,rfl,zT,rfl⟩ (pv 0)) (vg (vA (E:=E) t.o_Stream.cl t.m_text.me zgi (uW t) (hr.mono (by decide)) t.m_text.bd yF (pv 0)) zco zQ) rfl) rfl) (zY (E:=E) zB) (λ_ _=>rfl))))
abbrev zb1:List Str:=["_law_book_here", "_law_long", "_law_size", "_law_turn", "_law_found", "_law_number", "_law_word"]
theorem sc__law_bits:FnScope zb1 ["_law_book_here"] (zm zap):=yR (by decide +kernel)
theorem zeU (t:Txt K mg):OkD P w base (yH t) t.d__law_bits 1 jm 1 :=
 show OkD P w base (yH t) t.d__law_bits 1 (yQ 7 zam) 1 from okD (N:=zb1) (k:=0) (m:=7) (g:=zam) sc__law_bits rfl rfl λcdv A outer s H E hr =>
   (zy (yw (i:=1) sc__law_bits.nd rfl (Or.inl rfl) zB)
   (zy (yw (i:=2) sc__law_bits.nd rfl (Or.inl rfl) zB)
   (zy (j5 (zaK (i:=3) laz rfl (wj rfl t.n_range (zj zB zq zu) rfl) (yc (i:=3) sc__law_bits.nd rfl (Or.inl rfl))
   (zA (za2 (v9 zm7 zn4 (xn 2) (zW yN n_len rfl t.n_len lbB (zj (xn 0) zq zb) zb) (xJ _))
   (zy (yw (i:=2) sc__law_bits.nd rfl (Or.inl rfl) (yt qH zaH zB (xn 2)))
   (zA (yw (i:=1) sc__law_bits.nd rfl (Or.inl rfl) (yt wR wV (xn 1) zB))))
   wX))))
   (zy (zbQ (i:=4) sc__law_bits.nd rfl (Or.inl rfl) (zgC zq))
   (zy (j5 (zaK (i:=5) laz rfl (wj rfl t.n_range (zj (zW yN n_len rfl t.n_len lbB (zj (xn 0) zq zb) zb) zq zQ) rfl) (yc (i:=5) sc__law_bits.nd rfl (Or.inl rfl))
   (zy (yw (i:=6) sc__law_bits.nd rfl (Or.inl rfl) (xZ (l:=[]) (by decide +kernel) (jd (by decide +kernel) (by decide +kernel))))
   (zy (zaK (i:=3) laz rfl (wj rfl t.n_range (zj (xn 1) zq zb) rfl) (yc (i:=3) sc__law_bits.nd rfl (Or.inl rfl))
   (zy (yw (i:=6) sc__law_bits.nd rfl (Or.inl rfl) (yt zas zcs (zax (xZ (l:=[48,49]) (by decide +kernel) (jd (by decide +kernel) (by decide +kernel))) (yt zbr zbx (xn 5) zB) (λ_ _=>rfl)) (xn 6)))
   (zA (yw (i:=5) sc__law_bits.nd rfl (Or.inl rfl) (yt jF zbi (xn 5) zB)))))
   (zA (zaJ (pv 4) (xn 6) ⟨zb,rfl,rfl,rfl,rfl⟩))))))
   (zA (zdd (i:=4) (yo (xn 4)))))))))
abbrev jy:List Str:=["_law_book_here", "_law_text_here", "_law_words"]
theorem sc__law_signs:FnScope jy ["_law_book_here", "_law_text_here"] (zm uF):=yR (by decide +kernel)
theorem qP (t:Txt K mg):OkD P w base (yH t) t.d__law_signs 2 wF 2 :=
 show OkD P w base (yH t) t.d__law_signs 2 (yQ 3 jz) 2 from okD (N:=jy) (k:=1) (m:=3) (g:=jz) sc__law_signs rfl rfl λcdv A outer s H E hr =>
   (zy (yw (i:=2) sc__law_signs.nd rfl (Or.inr rfl) (zN (zeU t) (hr.mono (by decide)) rfl t.d__law_bits.mg t.d__law_bits.fn.kp t.d__law_bits.bd yF (zj (xn 0) zq zb) zb))
   (zA (yo (zci (xZ (l:=[]) (by decide +kernel) (jd (by decide +kernel) (by decide +kernel))) (vQ (x := "_law_piece") (caps:=[2,0]) (xW (fs:=zm uF) (N:=jy) rfl rfl (by decide +kernel)) rfl (zck (zax (zN (zcr t) (hr.mono (by decide)) rfl t.d__law_cut.mg t.d__law_cut.fn.kp t.d__law_cut.bd yF (zj (xn 0) (zj (xn 1) zq zb) zb) zb) zB (λ_ _=>rfl))) ⟨λ_ _ _ _ _=>(yc (i:=0) (jY (N:=["_law_piece", "_law_words", "_law_book_here"]) rfl (by decide +kernel)) rfl (Or.inl rfl)),λ_ _ _ _ _=>vH,λ_ _ _ _ _=>(zax (xn 1) (zmg (xn 2) (xn 0) ⟨zb,rfl,rfl,rfl,rfl⟩) (λ_ _=>rfl))⟩) ⟨rfl,rfl,rfl,rfl,rfl⟩))))
abbrev zkL:List Str:=["_law_script", "_law_many", "_law_book_here", "_law_stream", "_law_texts", "_law_at", "_law_k", "_law_here", "_law_way", "_law_text_here", "_law_before", "_law_letters", "_law_is_good", "_law_due", "_law_there", "_law_whole", "_law_pieces", "_law_left"]
theorem sc_law:FnScope zkL ["_law_script"] (zm zhi):=yR (by decide +kernel)
theorem zoP (t:Txt K mg):OkD P w base (yH t) t.d_law 10 zkR 1 :=
 show OkD P w base (yH t) t.d_law 10 (yQ 18 zlv) 1 from okD (N:=zkL) (k:=9) (m:=18) (g:=zlv) sc_law rfl rfl λcdv A outer s H E hr =>
   (zy (yw (i:=1) sc_law.nd rfl (Or.inr rfl) (yt wR wV zB (zN (yO t) (hr.mono (by decide)) rfl t.d__law_drawn.mg t.d__law_drawn.fn.kp t.d__law_drawn.bd yF (zj (xn 0) (zj zB (zj zB zq zu) zu) zb) zb)))
   (zy (yw (i:=2) sc_law.nd rfl (Or.inl rfl) (zN (zeQ t) (hr.mono (by decide)) rfl t.d__law_book.mg t.d__law_book.fn.kp t.d__law_book.bd yF (zj (xn 0) (zj zB (zj (xn 1) (zj (zN (yO t) (hr.mono (by decide)) rfl t.d__law_drawn.mg t.d__law_drawn.fn.kp t.d__law_drawn.bd yF (zj (xn 0) (zj zB (zj zB zq zu) zu) zb) zb) zq zQ) zb) zu) zb) zb))
   (zl7 (kd:=zx t.o_Stream.C) (q:=3) (zeI t) (hr.mono (by decide)) rfl t.d__law_new.mg t.d__law_new.fn.kp t.d__law_new.bd yF sc_law.nd rfl (Or.inl rfl) (zj (xn 1) (zj (xn 2) zq zb) zb)
   (zH (yS (i:=4) (by decide) sc_law.nd rfl (Or.inl rfl) (zY (E:=E) (zaS zq)))
   (zH (yS (i:=5) (by decide) sc_law.nd rfl (Or.inl rfl) (zY (E:=E) zB))
   (zH (zls (E:=E) (i:=6) (by decide) PassesOwn.leaving rfl (wj rfl t.n_range (zj (zW (zi0 rfl) n_max rfl t.n_max boot_max (zj zB (zj (zW (zeA rfl) n_min rfl t.n_min boot_min (zj zB (zj (zW yN n_len rfl t.n_len lbB (zj (xn 0) zq zb) zb) zq zQ) zu) zu) zq zQ) zu) zu) zq zQ) rfl) (yc (i:=6) sc_law.nd rfl (Or.inl rfl))
   (zH (yS (i:=7) (by decide) sc_law.nd rfl (Or.inl rfl) (zY (E:=E) (yt wR wV zB (yt qH zaH zB (xn 6)))))
   (zH (yS (i:=8) (by decide) sc_law.nd rfl (Or.inl rfl) (zY (E:=E) (XEw.out (zoN (zek (zZ zad (zZ zad (zZ zad (zZ zad (zZ zad (zZ zad kI zu) zu) zu) zu) zu) zu)) (XEw.mk (zN (yO t) (hr.mono (by decide)) rfl t.d__law_drawn.mg t.d__law_drawn.fn.kp t.d__law_drawn.bd yF (zj (xn 0) (zj (xn 7) (zj zB zq zu) zb) zb) zb)) (λ_ _=>rfl)))))
   (zH (yS (i:=9) (by decide) sc_law.nd rfl (Or.inl rfl) (zY (E:=E) (zN (zeR t) (hr.mono (by decide)) rfl t.d__law_text.mg t.d__law_text.fn.kp t.d__law_text.bd yF (zj (xn 0) (zj (yt wR wV (xn 7) zB) (zj (xn 1) (zj zB zq zu) zb) xU) zb) zb)))
   (zH (zbU (zh4 (E:=E) (v9 (zab hr.units) zjt (zN (yO t) (hr.mono (by decide)) rfl t.d__law_drawn.mg t.d__law_drawn.fn.kp t.d__law_drawn.bd yF (zj (xn 0) (zj (yt wR wV (xn 7) zB) (zj zB zq zu) xU) zb) zb) zB (xJ _)))
   (yh (yS (i:=9) (by decide) sc_law.nd rfl (Or.inl rfl) (zY (E:=E) (XEw.out (zoN (zek (zZ (zay (l:=[101]) (by decide +kernel) (jd (by decide +kernel) (by decide +kernel))) (zZ zk4 (zZ zad (zZ (zek (zZ (zay (l:=[97]) (by decide +kernel) (jd (by decide +kernel) (by decide +kernel))) kI zu)) (zZ (zay (l:=[97,65]) (by decide +kernel) (jd (by decide +kernel) (by decide +kernel))) kI zu) zkh) zu) zu) zu)) (XEw.mk (zN (yO t) (hr.mono (by decide)) rfl t.d__law_drawn.mg t.d__law_drawn.fn.kp t.d__law_drawn.bd yF (zj (xn 0) (zj (yt wR wV (xn 7) zB) (zj zB zq zu) xU) zb) zb)) (λ_ _=>rfl))))))
   zaz)
   (zH (yS (i:=10) (by decide) sc_law.nd rfl (Or.inl rfl) (zY (E:=E) (zci (xZ (l:=[]) (by decide +kernel) (jd (by decide +kernel) (by decide +kernel))) (wL (xn 4) vZ (vR (xn 5))) ⟨uD,rfl,rfl,rfl,rfl⟩)))
   (zH (yS (i:=11) (by decide) sc_law.nd rfl (Or.inr rfl) (zY (E:=E) (wL (xZ (l:=[97,98,99,100]) (by decide +kernel) (jd (by decide +kernel) (by decide +kernel))) vZ (vR (xn 1)))))
   (zH (yS (i:=12) (by decide) sc_law.nd rfl (Or.inl rfl) (zY (E:=E) (zcd (ze4 zh7 rfl t.n_isinstance (xn 9) (zbo (v:=.ty "str") rfl t.n_str boot_str rfl) zb) (zbu (zc1 (zab hr.units) zjt (vQ (x := "_law_sign") (caps:=[11]) (xW (fs:=zm zhi) (N:=zkL) rfl rfl (by decide +kernel)) rfl (zgK (xn 9)) ⟨λ_ _ _ _ _=>(yc (i:=0) (jY (N:=["_law_sign", "_law_letters"]) rfl (by decide +kernel)) rfl (Or.inl rfl)),λ_ _ _ _ _=>(zdG (v9 ziQ zjy (xn 0) (xn 1) (by with_unfolding_all rfl))),λ_ _ _ _ _=>(xn 0)⟩) (zaS zq) (xJ _))))))
   (zH (zbU (zh4 (E:=E) (XW.xt (znN (v9 (zab hr.units) zjt (xn 8) zB (xJ _)) (zmL (zbw (kE (xn 12)))))))
   (yh (yS (i:=13) (by decide) sc_law.nd rfl (Or.inl rfl) (zY (E:=E) (XEw.out (zcF (zZ (zay (l:=[114,101,102,117,115,101,100]) (by decide +kernel) (jd (by decide +kernel) (by decide +kernel))) (zZ zad kI zu) zu))))))
   (yh (zbU (zh4 (E:=E) (v9 (zab hr.units) zjt (xn 8) zB (xJ _)))
   (zH (yS (i:=13) (by decide) sc_law.nd rfl (Or.inl rfl) (zY (E:=E) (wL (zN (qP t) (hr.mono (by decide)) rfl t.d__law_signs.mg t.d__law_signs.fn.kp t.d__law_signs.bd yF (zj (xn 2) (zj (yt zas zcs (xn 10) (xn 9)) zq xU) zb) zb) (vR (zW yN n_len rfl t.n_len lbB (zj (zN (qP t) (hr.mono (by decide)) rfl t.d__law_signs.mg t.d__law_signs.fn.kp t.d__law_signs.bd yF (zj (xn 2) (zj (xn 10) zq zb) zb) zb) zq zQ) zQ)) vZ)))
   (zH (yS (i:=4) (by decide) sc_law.nd rfl (Or.inl rfl) (zY (E:=E) (XL.xe (zlc (wL (xn 4) vZ (vR (xn 5))) (zaS (zj (xn 9) zq zb))))))
   (yh (yS (i:=5) (by decide) sc_law.nd rfl (Or.inl rfl) (zY (E:=E) (yt wR wV (xn 5) zB))))))
   (zH (yS (i:=14) (by decide) sc_law.nd rfl (Or.inl rfl) (zY (E:=E) (zdM (v9 (zab hr.units) zjt (xn 8) zB (xJ _)) (yt zla zkX (xn 5) zB) (yt wR wV (xn 5) zB))))
   (zH (yS (i:=13) (by decide) sc_law.nd rfl (Or.inl rfl) (zY (E:=E) (zdM (zdO zeF zeF zel zel zB (xn 14) (zW yN n_len rfl t.n_len lbB (zj (xn 4) zq zb) zb)) (zax (xn 4) (zW (zeA rfl) n_min rfl t.n_min boot_min (zj (xn 5) (zj (xn 14) zq zb) zb) zb) (λ_ _=>rfl)) (XEw.out (zcF (zZ (zay (l:=[114,101,102,117,115,101,100]) (by decide +kernel) (jd (by decide +kernel) (by decide +kernel))) (zZ zad kI zu) zu))))))
   (yh (yS (i:=5) (by decide) sc_law.nd rfl (Or.inl rfl) (zY (E:=E) (zdM (zdO zeF zeF zel zel zB (xn 14) (zW yN n_len rfl t.n_len lbB (zj (xn 4) zq zb) zb)) (xn 14) (xn 5))))))))))
   (zH (zbU (za1 (ju hr.units) zi2 (ziV (j:=0) (zeJ t) (hr.mono (by decide)) rfl t.d__law_told.mg t.d__law_told.fn.kp t.d__law_told.bd yF (zkd (pv 3) (zg5 (E:=E) (zj (xn 8) (zj (xn 9) zq zb) zb)) zb) zb) (zY (E:=E) (xn 13)) (xJ _))
   (yh (wK (zY (E:=E) zdS)))
   zaz)
   (zH (zbU (za1 (ju hr.units) zi2 (vA (E:=E) t.o_Stream.cl t.m_steps.me zkQ (zbY t) (hr.mono (by decide)) t.m_steps.bd yF (pv 3)) (zY (E:=E) (zc3 (zj (xn 5) (zj (yt zla zkX (zW yN n_len rfl t.n_len lbB (zj (xn 4) zq zb) zb) (xn 5)) zq xU) zb))) (xJ _))
   (yh (wK (zY (E:=E) zdS)))
   zaz)
   (zH (yS (i:=15) (by decide) sc_law.nd rfl (Or.inl rfl) (zY (E:=E) (zci (xZ (l:=[]) (by decide +kernel) (jd (by decide +kernel) (by decide +kernel))) (wL (xn 4) vZ (vR (xn 5))) ⟨uD,rfl,rfl,rfl,rfl⟩)))
   (zH (zkI (i:=16) (j:=17) (by decide) (by decide) (ziO (K:=K) (i:=16) (j:=17) rfl rfl sc_law.nd rfl rfl (Or.inl rfl) (Or.inl rfl)) (zY (E:=E) (zN (zcr t) (hr.mono (by decide)) rfl t.d__law_cut.mg t.d__law_cut.fn.kp t.d__law_cut.bd yF (zj (xn 2) (zj (xn 15) zq zb) zb) zb)))
   (zH (zbU (XW2.xt (zkZ (za1 (ju hr.units) zi2 (vA (E:=E) t.o_Stream.cl t.m_text.me zgi (uW t) (hr.mono (by decide)) t.m_text.bd yF (pv 3)) (zY (E:=E) (xn 15)) (xJ _)) (zih (za1 (ju hr.units) zi2 (vA (E:=E) t.o_Stream.cl t.m_pieces.me zjj (zbE t) (hr.mono (by decide)) t.m_pieces.bd yF (pv 3)) (zY (E:=E) (xn 16)) (xJ _)))))
   (yh (wK (zY (E:=E) zdS)))
   zaz)
   (yh (zbU (XW2.xt (zkZ (za1 (ju hr.units) zi2 (vA (E:=E) t.o_Stream.cl t.m_left.me ziJ (zac t) (hr.mono (by decide)) t.m_left.bd yF (pv 3)) (zY (E:=E) (xn 17)) (xJ _)) (zih (za1 (ju hr.units) zi2 (vA (E:=E) t.o_Stream.cl t.m_signs.me zjQ (zce t) (hr.mono (by decide)) t.m_signs.bd yF (pv 3)) (zY (E:=E) (zN (qP t) (hr.mono (by decide)) rfl t.d__law_signs.mg t.d__law_signs.fn.kp t.d__law_signs.bd yF (zj (xn 2) (zj (xn 15) zq zb) zb) zb)) (xJ _)))))
   (yh (wK (zY (E:=E) zdS)))
   zaz))))))))))))))))
   (yh (wK (zY (E:=E) (zc1 (zab hr.units) zjt (vQ (x := "_law_bad") (caps:=[1]) (xW (fs:=zm zhi) (N:=zkL) rfl rfl (by decide +kernel)) rfl (zc8 (XEw.out (zcF (zZ zk4 (zZ (XEw.mk (wL (xn 2) vZ (vR (ziI zB)))) (zZ (XEw.mk (XL.xe (zl9 rfl t.n_list boot_list (xn 2) zb))) (zZ (zcF kI) kI zgE) zQ) uD) zu)))) ⟨λ_ _ _ _ _=>(yc (i:=0) (jY (N:=["_law_bad", "_law_many"]) rfl (by decide +kernel)) rfl (Or.inl rfl)),λ_ _ _ _ _=>vH,λ_ _ _ _ _=>(zN (zgc t) (hr.mono (by decide)) rfl t.d__law_new.mg t.d__law_new.fn.kp t.d__law_new.bd ze1 (zj (xn 1) (zj (xn 0) zq zb) zb) zb)⟩) (XL.xe (znU (XEw.out (zek (zZ (zcF (zZ (zay (l:=[114,101,102,117,115,101,100]) (by decide +kernel) (jd (by decide +kernel) (by decide +kernel))) (zZ zad kI zu) zu)) kI zgE))) zB)) (xJ _)))))))) zb)))
end
end K63
namespace K63
open PySem L2
theorem all_mk {l:PySem.W.OpenLaw}{w:World}{K:PySem.W.Frag}{h:Heap}{mg:Str->Option Value}{fa CC:Addr}(X:K.In h)(G:h.Ns mainGlobals mg)(hfa:mg "law" = some (.ref fa))
  {vFEWEST_LETTERS vLETTERS vMOST_PIECES:Value}
  (aC:PySem.W.nsIn K mainGlobals "Stream" = some (some (.ref CC))) (pg:PySem.W.plainGet K CC Str.empty=true) (hd:PySem.W.hasDictIn K CC=true) (po:PySem.W.plainOver K CC=true) (sa:PySem.W.findIn K (.ref CC) "__setattr__" = some (some (.builtin "object.__setattr__"))) (mkC:PySem.W.makesIn K CC=true) (kC:PySem.W.keepIn K (.ref CC)=true)
  (na_many:PySem.W.findIn K (.ref CC) "many" = some none)
  (na_chosen:PySem.W.findIn K (.ref CC) "chosen" = some none)
  (na_done:PySem.W.findIn K (.ref CC) "done" = some none)
  (na_rests:PySem.W.findIn K (.ref CC) "rests" = some none)
  (na_undone:PySem.W.findIn K (.ref CC) "undone" = some none)
  (a0:Dz K "_law_cell" zah)
  (a1:Dz K "_law_drawn" jA)
  (a2:Dz K "_law_book" vW)
  (a3:Dz K "is_rising" qX)
  (a4:Dz K "is_whole" zaY)
  (a5:Dz K "is_between" jB)
  (a6:Dz K "is_number_of_letters" xG)
  (a7:Dz K "is_text_of" uL)
  (a8:Dz K "are_pieces" ux)
  (a9:Dz K "first_pair" jk)
  (a10:Dz K "gone_on" zcl)
  (a11:Dz K "is_apart" jQ)
  (a12:Dz K "is_inner" jW)
  (a13:Dz K "first_text_apart" xH)
  (a14:Dz K "first_paper" qI)
  (a15:Dz K "is_book" zcn)
  (a16:Dz K "require_book" uO)
  (a17:Mz K CC "__init__" "Stream.__init__" wY)
  (a18:Dz K "_law_refused" uY)
  (a19:Dz K "_law_new" jE)
  (a20:Dz K "_law_text" q9)
  (a21:Dz K "_law_cut" qi)
  (a22:Dz K "require_text_of" w5)
  (a23:Dz K "cut_by" zd6)
  (a24:Dz K "bits_for" za9)
  (a25:Dz K "word_for" zbe)
  (a26:Dz K "words_of" jT)
  (a27:Dz K "led_by" zbL)
  (a28:Mz K CC "left" "Stream.left" qO)
  (a29:Mz K CC "go_on" "Stream.go_on" uU)
  (a30:Mz K CC "tell" "Stream.tell" qW)
  (a31:Dz K "require_step" uN)
  (a32:Mz K CC "back" "Stream.back" qU)
  (a33:Mz K CC "forth" "Stream.forth" uZ)
  (a34:Dz K "_law_told" zak)
  (a35:Mz K CC "steps" "Stream.steps" uV)
  (a36:Mz K CC "text" "Stream.text" qJ)
  (a37:Mz K CC "pieces" "Stream.pieces" vY)
  (a38:Mz K CC "signs" "Stream.signs" uM)
  (a39:Dz K "_law_bits" zap)
  (a40:Dz K "_law_signs" uF)
  (a41:Dz K "law" zhi)
  (wFEWEST_LETTERS:PySem.W.nsIn K mainGlobals "FEWEST_LETTERS" = some (some vFEWEST_LETTERS)) (rFEWEST_LETTERS:RelV (.int (2)) vFEWEST_LETTERS)
  (wLETTERS:PySem.W.nsIn K mainGlobals "LETTERS" = some (some vLETTERS)) (rLETTERS:RelV (.str (T [97,98,99,100])) vLETTERS)
  (wMOST_PIECES:PySem.W.nsIn K mainGlobals "MOST_PIECES" = some (some vMOST_PIECES)) (rMOST_PIECES:RelV (.int (32)) vMOST_PIECES)
  (zValueError:PySem.W.nsIn K mainGlobals "ValueError" = some none)
  (zall:PySem.W.nsIn K mainGlobals "all" = some none)
  (zany:PySem.W.nsIn K mainGlobals "any" = some none)
  (zbool:PySem.W.nsIn K mainGlobals "bool" = some none)
  (zdict:PySem.W.nsIn K mainGlobals "dict" = some none)
  (zint:PySem.W.nsIn K mainGlobals "int" = some none)
  (zisinstance:PySem.W.nsIn K mainGlobals "isinstance" = some none)
  (zlen:PySem.W.nsIn K mainGlobals "len" = some none)
  (zlist:PySem.W.nsIn K mainGlobals "list" = some none)
  (zmax:PySem.W.nsIn K mainGlobals "max" = some none)
  (zmin:PySem.W.nsIn K mainGlobals "min" = some none)
  (zrange:PySem.W.nsIn K mainGlobals "range" = some none)
  (zsorted:PySem.W.nsIn K mainGlobals "sorted" = some none)
  (zstr:PySem.W.nsIn K mainGlobals "str" = some none)
  (ztuple:PySem.W.nsIn K mainGlobals "tuple" = some none)
  (zzip:PySem.W.nsIn K mainGlobals "zip" = some none)
  {xa_NoBook xa_NoLetters xa_NoStep xa_PieceError:Addr}
  (y_NoBook:PySem.W.nsIn K mainGlobals "NoBook" = some (some (.ref xa_NoBook))) (q_NoBook:PySem.W.excIn K xa_NoBook [.type "ValueError", .type "Exception", .type "BaseException", .type "object"] "ValueError.__new__" = true)
  (y_NoLetters:PySem.W.nsIn K mainGlobals "NoLetters" = some (some (.ref xa_NoLetters))) (q_NoLetters:PySem.W.excIn K xa_NoLetters [.type "ValueError", .type "Exception", .type "BaseException", .type "object"] "ValueError.__new__" = true)
  (y_NoStep:PySem.W.nsIn K mainGlobals "NoStep" = some (some (.ref xa_NoStep))) (q_NoStep:PySem.W.excIn K xa_NoStep [.type "ValueError", .type "Exception", .type "BaseException", .type "object"] "ValueError.__new__" = true)
  (y_PieceError:PySem.W.nsIn K mainGlobals "PieceError" = some (some (.ref xa_PieceError))) (q_PieceError:PySem.W.excIn K xa_PieceError [.type "ValueError", .type "Exception", .type "BaseException", .type "object"] "ValueError.__new__" = true)
  (ga_NoBook:PySem.W.findIn K (.ref xa_NoBook) "__getattribute__" = some (some (.builtin "BaseException.__getattribute__")))
  (gt_NoBook:PySem.W.findIn K (.ref xa_NoBook) "__getattr__" = some none)
  (cl_NoBook:PySem.W.findIn K (.ref xa_NoBook) "__class__" = some (some (.builtin "object.__class__")))
  (be_NoBook:PySem.W.subIn K (.ref xa_NoBook) (.type "BaseException")=some true)
  (ob_NoBook:PySem.W.subIn K (.ref xa_NoBook) (.type "object")=some true)
  (is_NoBook:PySem.W.isClsIn K xa_NoBook=true)
  (fs_NoBook:PySem.W.subIn K (.ref xa_NoBook) (.ref xa_PieceError)=some true)
  (fk_NoBook_NoBook:PySem.W.kitOne K (.ref xa_NoBook) (.ref xa_NoBook)=some true)
  (fk_NoBook_NoLetters:PySem.W.kitOne K (.ref xa_NoBook) (.ref xa_NoLetters)=some false)
  (fk_NoBook_NoStep:PySem.W.kitOne K (.ref xa_NoBook) (.ref xa_NoStep)=some false)
  (fv_NoBook:PySem.W.kitOne K (.ref xa_NoBook) (.type "ValueError")=some true)
  (ga_NoLetters:PySem.W.findIn K (.ref xa_NoLetters) "__getattribute__" = some (some (.builtin "BaseException.__getattribute__")))
  (gt_NoLetters:PySem.W.findIn K (.ref xa_NoLetters) "__getattr__" = some none)
  (cl_NoLetters:PySem.W.findIn K (.ref xa_NoLetters) "__class__" = some (some (.builtin "object.__class__")))
  (be_NoLetters:PySem.W.subIn K (.ref xa_NoLetters) (.type "BaseException")=some true)
  (ob_NoLetters:PySem.W.subIn K (.ref xa_NoLetters) (.type "object")=some true)
  (is_NoLetters:PySem.W.isClsIn K xa_NoLetters=true)
  (fs_NoLetters:PySem.W.subIn K (.ref xa_NoLetters) (.ref xa_PieceError)=some true)
  (fk_NoLetters_NoBook:PySem.W.kitOne K (.ref xa_NoLetters) (.ref xa_NoBook)=some false)
  (fk_NoLetters_NoLetters:PySem.W.kitOne K (.ref xa_NoLetters) (.ref xa_NoLetters)=some true)
  (fk_NoLetters_NoStep:PySem.W.kitOne K (.ref xa_NoLetters) (.ref xa_NoStep)=some false)
  (fv_NoLetters:PySem.W.kitOne K (.ref xa_NoLetters) (.type "ValueError")=some true)
  (ga_NoStep:PySem.W.findIn K (.ref xa_NoStep) "__getattribute__" = some (some (.builtin "BaseException.__getattribute__")))
  (gt_NoStep:PySem.W.findIn K (.ref xa_NoStep) "__getattr__" = some none)
  (cl_NoStep:PySem.W.findIn K (.ref xa_NoStep) "__class__" = some (some (.builtin "object.__class__")))
  (be_NoStep:PySem.W.subIn K (.ref xa_NoStep) (.type "BaseException")=some true)
  (ob_NoStep:PySem.W.subIn K (.ref xa_NoStep) (.type "object")=some true)
  (is_NoStep:PySem.W.isClsIn K xa_NoStep=true)
  (fs_NoStep:PySem.W.subIn K (.ref xa_NoStep) (.ref xa_PieceError)=some true)
  (fk_NoStep_NoBook:PySem.W.kitOne K (.ref xa_NoStep) (.ref xa_NoBook)=some false)
  (fk_NoStep_NoLetters:PySem.W.kitOne K (.ref xa_NoStep) (.ref xa_NoLetters)=some false)
  (fk_NoStep_NoStep:PySem.W.kitOne K (.ref xa_NoStep) (.ref xa_NoStep)=some true)
  (fv_NoStep:PySem.W.kitOne K (.ref xa_NoStep) (.type "ValueError")=some true) :
  ∃fd:FuncData,(∀(s:Shared) (v:Value),BindsTo s fd ⟨[v],[]⟩ [("_law_script", v)])/\∀base:Heap,K.In base->base.Ns mainGlobals mg->FnOk l.prog w K mg base CX0 10 fa fd ["_law_script"] (zeL K):=by
 obtain⟨aL,lL,cL,kL⟩:=a41
 have e:=hfa.symm.trans (laX X G aL)
 cases e
 have FL:=zeH (st:=zhi) lL cL kL
 have bL:=FL.binds (ps:=["_law_script"]) (λ_ _ _ _ _ _=>bd1 λ_=>rfl)
 obtain⟨D0⟩:=a0.dn X G ["_law_script", "_law_k"] (λ_ _ _ _ _ _=>bd2 λ_ _=>rfl)
 obtain⟨D1⟩:=a1.dn X G ["_law_script", "_law_k", "_law_many"] (λ_ _ _ _ _ _=>bd3 λ_ _ _=>rfl)
 obtain⟨D2⟩:=a2.dn X G ["_law_script", "_law_at", "_law_many", "_law_turns"] (λ_ _ _ _ _ _=>bd4 λ_ _ _ _=>rfl)
 obtain⟨D3⟩:=a3.dn X G ["texts"] (λ_ _ _ _ _ _=>bd1 λ_=>rfl)
 obtain⟨D4⟩:=a4.dn X G ["thing"] (λ_ _ _ _ _ _=>bd1 λ_=>rfl)
 obtain⟨D5⟩:=a5.dn X G ["thing", "least", "most"] (λ_ _ _ _ _ _=>bd3 λ_ _ _=>rfl)
 obtain⟨D6⟩:=a6.dn X G ["thing"] (λ_ _ _ _ _ _=>bd1 λ_=>rfl)
 obtain⟨D7⟩:=a7.dn X G ["many", "thing"] (λ_ _ _ _ _ _=>bd2 λ_ _=>rfl)
 obtain⟨D8⟩:=a8.dn X G ["many", "thing"] (λ_ _ _ _ _ _=>bd2 λ_ _=>rfl)
 obtain⟨D9⟩:=a9.dn X G ["pieces"] (λ_ _ _ _ _ _=>bd1 λ_=>rfl)
 obtain⟨D10⟩:=a10.dn X G ["many", "texts"] (λ_ _ _ _ _ _=>bd2 λ_ _=>rfl)
 obtain⟨D11⟩:=a11.dn X G ["pieces", "text"] (λ_ _ _ _ _ _=>bd2 λ_ _=>rfl)
 obtain⟨D12⟩:=a12.dn X G ["pieces", "text"] (λ_ _ _ _ _ _=>bd2 λ_ _=>rfl)
 obtain⟨D13⟩:=a13.dn X G ["many", "pieces"] (λ_ _ _ _ _ _=>bd2 λ_ _=>rfl)
 obtain⟨D14⟩:=a14.dn X G ["many", "pieces"] (λ_ _ _ _ _ _=>bd2 λ_ _=>rfl)
 obtain⟨D15⟩:=a15.dn X G ["many", "thing"] (λ_ _ _ _ _ _=>bd2 λ_ _=>rfl)
 obtain⟨D16⟩:=a16.dn X G ["many", "thing"] (λ_ _ _ _ _ _=>bd2 λ_ _=>rfl)
 obtain⟨D17⟩:=a17.md ["self", "many", "book"] (λ_ _ _ _ _ _=>bd3 λ_ _ _=>rfl)
 obtain⟨D18⟩:=a18.dn X G ["_law_e"] (λ_ _ _ _ _ _=>bd1 λ_=>rfl)
 obtain⟨D19⟩:=a19.dn X G ["_law_many", "_law_book_here"] (λ_ _ _ _ _ _=>bd2 λ_ _=>rfl)
 obtain⟨D20⟩:=a20.dn X G ["_law_script", "_law_at", "_law_many", "_law_long"] (λ_ _ _ _ _ _=>bd4 λ_ _ _ _=>rfl)
 obtain⟨D21⟩:=a21.dn X G ["_law_book_here", "_law_text_here"] (λ_ _ _ _ _ _=>bd2 λ_ _=>rfl)
 obtain⟨D22⟩:=a22.dn X G ["many", "thing"] (λ_ _ _ _ _ _=>bd2 λ_ _=>rfl)
 obtain⟨D23⟩:=a23.dn X G ["book", "text"] (λ_ _ _ _ _ _=>bd2 λ_ _=>rfl)
 obtain⟨D24⟩:=a24.dn X G ["size"] (λ_ _ _ _ _ _=>bd1 λ_=>rfl)
 obtain⟨D25⟩:=a25.dn X G ["number", "bits"] (λ_ _ _ _ _ _=>bd2 λ_ _=>rfl)
 obtain⟨D26⟩:=a26.dn X G ["book"] (λ_ _ _ _ _ _=>bd1 λ_=>rfl)
 obtain⟨D27⟩:=a27.dn X G ["book", "text"] (λ_ _ _ _ _ _=>bd2 λ_ _=>rfl)
 obtain⟨D28⟩:=a28.md ["self"] (λ_ _ _ _ _ _=>bd1 λ_=>rfl)
 obtain⟨D29⟩:=a29.md ["self", "text"] (λ_ _ _ _ _ _=>bd2 λ_ _=>rfl)
 obtain⟨D30⟩:=a30.md ["self", "text"] (λ_ _ _ _ _ _=>bd2 λ_ _=>rfl)
 obtain⟨D31⟩:=a31.dn X G ["texts"] (λ_ _ _ _ _ _=>bd1 λ_=>rfl)
 obtain⟨D32⟩:=a32.md ["self"] (λ_ _ _ _ _ _=>bd1 λ_=>rfl)
 obtain⟨D33⟩:=a33.md ["self"] (λ_ _ _ _ _ _=>bd1 λ_=>rfl)
 obtain⟨D34⟩:=a34.dn X G ["_law_stream", "_law_way", "_law_text_here"] (λ_ _ _ _ _ _=>bd3 λ_ _ _=>rfl)
 obtain⟨D35⟩:=a35.md ["self"] (λ_ _ _ _ _ _=>bd1 λ_=>rfl)
 obtain⟨D36⟩:=a36.md ["self"] (λ_ _ _ _ _ _=>bd1 λ_=>rfl)
 obtain⟨D37⟩:=a37.md ["self"] (λ_ _ _ _ _ _=>bd1 λ_=>rfl)
 obtain⟨D38⟩:=a38.md ["self"] (λ_ _ _ _ _ _=>bd1 λ_=>rfl)
 obtain⟨D39⟩:=a39.dn X G ["_law_book_here"] (λ_ _ _ _ _ _=>bd1 λ_=>rfl)
 obtain⟨D40⟩:=a40.dn X G ["_law_book_here", "_law_text_here"] (λ_ _ _ _ _ _=>bd2 λ_ _=>rfl)
 let t:Txt K mg:=⟨⟨CC,⟨pg,hd,po,sa⟩,laX X G aC,mkC,kC⟩,na_many,na_chosen,na_done,na_rests,na_undone,D0,D1,D2,D3,D4,D5,D6,D7,D8,D9,D10,D11,D12,D13,D14,D15,D16,D17,D18,D19,D20,D21,D22,D23,D24,D25,D26,D27,D28,D29,D30,D31,D32,D33,D34,D35,D36,D37,D38,D39,D40,⟨_,_,FL,laX X G aL,bL⟩,vFEWEST_LETTERS,laX X G wFEWEST_LETTERS,rFEWEST_LETTERS,vLETTERS,laX X G wLETTERS,rLETTERS,vMOST_PIECES,laX X G wMOST_PIECES,rMOST_PIECES,lab X G zValueError,lab X G zall,lab X G zany,lab X G zbool,lab X G zdict,lab X G zint,lab X G zisinstance,lab X G zlen,lab X G zlist,lab X G zmax,lab X G zmin,lab X G zrange,lab X G zsorted,lab X G zstr,lab X G ztuple,lab X G zzip,⟨xa_NoBook,laX X G y_NoBook,q_NoBook⟩,⟨xa_NoLetters,laX X G y_NoLetters,q_NoLetters⟩,⟨xa_NoStep,laX X G y_NoStep,q_NoStep⟩,⟨xa_PieceError,laX X G y_PieceError,q_PieceError⟩,⟨ga_NoBook,gt_NoBook,cl_NoBook,be_NoBook,ob_NoBook,is_NoBook⟩,fs_NoBook,fk_NoBook_NoBook,fk_NoBook_NoLetters,fk_NoBook_NoStep,fv_NoBook,⟨ga_NoLetters,gt_NoLetters,cl_NoLetters,be_NoLetters,ob_NoLetters,is_NoLetters⟩,fs_NoLetters,fk_NoLetters_NoBook,fk_NoLetters_NoLetters,fk_NoLetters_NoStep,fv_NoLetters,⟨ga_NoStep,gt_NoStep,cl_NoStep,be_NoStep,ob_NoStep,is_NoStep⟩,fs_NoStep,fk_NoStep_NoBook,fk_NoStep_NoLetters,fk_NoStep_NoStep,fv_NoStep⟩
 exact⟨_,λs v=>.of_eq rfl,λbase _ _=>zm6 (zoP t) zjZ⟩
theorem walk {l:PySem.W.OpenLaw}{q:Program}{loose:List Str}{XP:(Str->Option Value)->Heap->Prop}{YP:World->Heap->Prop}{d:DefRec}{K:Params->PySem.W.Frag}(hn:l.most=some 63)(hdf:d.params.defaults=[])
  (hY:∀(w:World) (h:Heap),YP w h->(K w.params).In h)
  (F:∀(w:World) (mg:Str->Option Value) (fa:Addr) (h:Heap),(K w.params).In h->h.Ns mainGlobals mg->mg d.name=some (.ref fa) ->
   ∃fd:FuncData,(∀(s:Shared) (u:Value),BindsTo s fd ⟨[u],[]⟩ [("_law_script", u)])/\∀base:Heap,(K w.params).In base->base.Ns mainGlobals mg->FnOk l.prog w (K w.params) mg base CX0 10 fa fd ["_law_script"] (zeL (K w.params))) :
  PySem.W.WalkO q loose XP YP l.row.toRowW d [] (λf vs=>PySem.call f vs) :=
 L2.walk_of (n:=63) (k:=10) (x := "_law_script") (CX:=λ_=>CX0) (sp:=λw=>zeL (K w.params)) hn (by decide) hdf ⟨rfl,by decide,by decide⟩ hY F (λ_ _ a ns hl _ hS=>⟨a,ns,rfl,hS,hl,λ_=>rfl⟩) λ_ _ _ _ _ z=>z
end K63
theorem PySem.W.Fast.tw2145440825131482567 : True := trivial
theorem PySem.W.Fast.tw4584890025174835854 : True := trivial
theorem PySem.W.Fast.tw8519061037650651464 : True := trivial
theorem PySem.W.Fast.tw10248033830323026979 : True := trivial
theorem PySem.W.Fast.tw16338813140986534003 : True := trivial
theorem PySem.W.Fast.tw3283156792194704978 : True := trivial
theorem PySem.W.Fast.tw18393297835768211357 : True := trivial
theorem PySem.W.Fast.tw14849056918613528125 : True := trivial
theorem PySem.W.Fast.tw5245670456715210616 : True := trivial
theorem PySem.W.Fast.tw3360590638000264265 : True := trivial
theorem PySem.W.Fast.tw4946360756286075362 : True := trivial
theorem PySem.W.Fast.tw1825219302069824660 : True := trivial
theorem PySem.W.Fast.tw2279145603601291470 : True := trivial
theorem PySem.W.Fast.tw6920746842735146581 : True := trivial
open PySem PySem.W PyProof.Rows
set_option maxRecDepth 100000 in
set_option maxHeartbeats 0 in
theorem PySem.Challenge.cw_piecebooks_k63_streams_holds : PySem.Challenge.rw_piecebooks_k63_streams.Holds := by
 w_on;o_law;k_head;(case hw=>w_witness2)
 k_fill
 refine K63.walk (l:=PySem.Challenge.rw_piecebooks_k63_streams) rfl rfl (fun w h Y=>PySem.W.kIn_of Y) ?F
 case F =>
  intro w mg fa h KX G hmg
  refine' K63.all_mk KX G hmg ?aC ?pg ?hd ?po ?sa ?mkC ?kC ?na_many ?na_chosen ?na_done ?na_rests ?na_undone ?a0 ?a1 ?a2 ?a3 ?a4 ?a5 ?a6 ?a7 ?a8 ?a9 ?a10 ?a11 ?a12 ?a13 ?a14 ?a15 ?a16 ?a17 ?a18 ?a19 ?a20 ?a21 ?a22 ?a23 ?a24 ?a25 ?a26 ?a27 ?a28 ?a29 ?a30 ?a31 ?a32 ?a33 ?a34 ?a35 ?a36 ?a37 ?a38 ?a39 ?a40 ?a41 ?wFEWEST_LETTERS ?rFEWEST_LETTERS ?wLETTERS ?rLETTERS ?wMOST_PIECES ?rMOST_PIECES ?zValueError ?zall ?zany ?zbool ?zdict ?zint ?zisinstance ?zlen ?zlist ?zmax ?zmin ?zrange ?zsorted ?zstr ?ztuple ?zzip ?y_NoBook ?q_NoBook ?y_NoLetters ?q_NoLetters ?y_NoStep ?q_NoStep ?y_PieceError ?q_PieceError ?ga_NoBook ?gt_NoBook ?cl_NoBook ?be_NoBook ?ob_NoBook ?is_NoBook ?fs_NoBook ?fk_NoBook_NoBook ?fk_NoBook_NoLetters ?fk_NoBook_NoStep ?fv_NoBook ?ga_NoLetters ?gt_NoLetters ?cl_NoLetters ?be_NoLetters ?ob_NoLetters ?is_NoLetters ?fs_NoLetters ?fk_NoLetters_NoBook ?fk_NoLetters_NoLetters ?fk_NoLetters_NoStep ?fv_NoLetters ?ga_NoStep ?gt_NoStep ?cl_NoStep ?be_NoStep ?ob_NoStep ?is_NoStep ?fs_NoStep ?fk_NoStep_NoBook ?fk_NoStep_NoLetters ?fk_NoStep_NoStep ?fv_NoStep
  (case aC=>k_is)
  (case pg=>k_is)
  (case hd=>k_is)
  (case po=>k_is)
  (case sa=>k_is)
  (case mkC=>k_is)
  (case kC=>k_is)
  (case na_many=>k_is)
  (case na_chosen=>k_is)
  (case na_done=>k_is)
  (case na_rests=>k_is)
  (case na_undone=>k_is)
  (case a17|a28|a29|a30|a32|a33|a35|a36|a37|a38=>refine' L2.Mz.mk ?za ?zi ?zl ?zc ?zk;(case za=>k_is);(case zi=>k_is);(case zl=>k_is);(case zc=>k_is);(case zk=>k_is))
  (case a0|a1|a2|a3|a4|a5|a6|a7|a8|a9|a10|a11|a12|a13|a14|a15|a16|a18|a19|a20|a21|a22|a23|a24|a25|a26|a27|a31|a34|a39|a40|a41=>refine' L2.Dz.mk ?za ?zl ?zc ?zk;(case za=>k_is);(case zl=>k_is);(case zc=>k_is);(case zk=>k_is))
  (case wFEWEST_LETTERS=>k_is)
  (case rFEWEST_LETTERS=>exact⟨_,rfl⟩)
  (case wLETTERS=>k_is)
  (case rLETTERS=>exact⟨_,rfl⟩)
  (case wMOST_PIECES=>k_is)
  (case rMOST_PIECES=>exact⟨_,rfl⟩)
  (case zValueError|zall|zany|zbool|zdict|zint|zisinstance|zlen|zlist|zmax|zmin|zrange|zsorted|zstr|ztuple|zzip=>k_is)
  (case y_NoBook=>k_is)
  (case q_NoBook=>k_exc)
  (case y_NoLetters=>k_is)
  (case q_NoLetters=>k_exc)
  (case y_NoStep=>k_is)
  (case q_NoStep=>k_exc)
  (case y_PieceError=>k_is)
  (case q_PieceError=>k_exc)
  (case ga_NoBook|gt_NoBook|cl_NoBook|be_NoBook|ob_NoBook|is_NoBook|fs_NoBook|ga_NoLetters|gt_NoLetters|cl_NoLetters|be_NoLetters|ob_NoLetters|is_NoLetters|fs_NoLetters|ga_NoStep|gt_NoStep|cl_NoStep|be_NoStep|ob_NoStep|is_NoStep|fs_NoStep=>k_is)
  (case fk_NoBook_NoBook|fk_NoBook_NoLetters|fk_NoBook_NoStep|fv_NoBook|fk_NoLetters_NoBook|fk_NoLetters_NoLetters|fk_NoLetters_NoStep|fv_NoLetters|fk_NoStep_NoBook|fk_NoStep_NoLetters|fk_NoStep_NoStep|fv_NoStep=>kit_is)
#print axioms PySem.Challenge.cw_piecebooks_k63_streams_holds
