import PyProof.Rows.All
import Wide.All
import OpenK.AllK
import Wide.FinOn
import KE.KDictOf
import KE.KDictSum
import KE.KRevIter
import OpenK.KOwn
import PyProof.AttrMissHeap
import PyProof.AutoSeq1
import PyProof.CodeObj
import PyProof.CollectWalk
import PyProof.ConsumeWalk
import PyProof.Conv_int_bool
import PyProof.DictIter
import PyProof.DictKinds
import PyProof.DictUpdate
import PyProof.Draws
import PyProof.EnumIter
import PyProof.EnumMake
import PyProof.EqAt
import PyProof.EqKinds
import PyProof.ExcArgsOwn
import PyProof.FactsAll.dict_1
import PyProof.FactsAll.set
import PyProof.FactsAll.set_2
import PyProof.ListMulRoad
import PyProof.ListNew
import PyProof.ListStr
import PyProof.NeData
import PyProof.P3In
import PyProof.Rows.DictSet
import PyProof.Rows.Range3
import PyProof.Rows.SetFrom
import PyProof.Rows.SortStr
import PyProof.Rows.SortWalk
import PyProof.SeqI3
import PyProof.SetKind
import PyProof.StrOps2
import PyProof.StrWalks
import PyProof.TupleCall
import PyProof.TupleOps
import PyProof.Walks
import PyProof.WalksMore
import PyProof.WalksS
import PyProof.ZipIter
import Lean
import PySem.Challenge.RW_piecebooks_k40_words
set_option Elab.async false
set_option linter.all false
set_option genSizeOf false
set_option compiler.extract_closed false
set_option genSizeOfSpec false
set_option maxRecDepth 100000
local macro_rules | `(tactic| omega)=>`(tactic| lia)
namespace L2
open PySem PySem.Spec PyProof.Rows
noncomputable abbrev Key:=Sum Int Str
noncomputable def keyIs:Key→Value→Bool
 | .inl k,v=>Value.isInt k v
 | .inr x,v=>Value.isStrOf x v
noncomputable def keyH (w:World):Key→Int
 | .inl k=>hashInt k
 | .inr x=>hashStr w x
theorem xu:∀{k:Key}{v:Value},keyIs k v=true→(∃i t,k=Sum.inl i∧v=Value.int i t)∨(∃x t,k=Sum.inr x∧v=Value.str x t)
 | .inl i,v,h=>by
  obtain ⟨t,e⟩:=Value.isInt_shape (k:=i) (v:=v) h
  exact .inl ⟨i,t,rfl,e⟩
 | .inr x,v,h=>by
  obtain ⟨t,e⟩:=Value.isStrOf_shape (x:=x) (v:=v) h
  exact .inr ⟨x,t,rfl,e⟩
theorem keyIs_int (i:Int)(t:Tok):keyIs (.inl i) (.int i t)=true:=by simp [keyIs,Value.isInt]
theorem keyIs_str (x:Str)(t:Tok):keyIs (.inr x) (.str x t)=true:=by simp [keyIs,Value.isStrOf]
theorem key_ll (a b:Int):decide ((Sum.inl a:Key)=Sum.inl b)=(a == b):=by
 by_cases e:a=b
 ·subst e; simp
 ·have h:¬(Sum.inl a:Key)=Sum.inl b:=fun q=>e (Sum.inl.inj q)
  rw [decide_eq_false h]
  exact (beq_eq_false_iff_ne.mpr e).symm
theorem key_rr (a b:Str):decide ((Sum.inr a:Key)=Sum.inr b)=decide (a=b):=by
 by_cases e:a=b
 ·subst e; simp
 ·have h:¬(Sum.inr a:Key)=Sum.inr b:=fun q=>e (Sum.inr.inj q)
  rw [decide_eq_false h,decide_eq_false e]
theorem key_lr (a:Int)(b:Str):decide ((Sum.inl a:Key)=Sum.inr b)=false:=decide_eq_false (fun q=>nomatch q)
theorem key_rl (a:Str)(b:Int):decide ((Sum.inr a:Key)=Sum.inl b)=false:=decide_eq_false (fun q=>nomatch q)
noncomputable def vZ (prog:Program)(w:World):PySem.KeyKind prog w Key where
 is:=keyIs
 hash:=keyH w
 inj:=fun v a b ha hb=>by
  rcases xu ha with ⟨i,t,rfl,rfl⟩ | ⟨x,t,rfl,rfl⟩
  ·rcases xu hb with ⟨j,u,rfl,e⟩ | ⟨y,u,rfl,e⟩
   ·injection e with e1 _; rw [e1]
   ·exact nomatch e
  ·rcases xu hb with ⟨j,u,rfl,e⟩ | ⟨y,u,rfl,e⟩
   ·exact nomatch e
   ·injection e with e1 _; rw [e1]
 byValue:=fun k v h=>by
  rcases xu h with ⟨i,t,rfl,rfl⟩ | ⟨x,t,rfl,rfl⟩ <;> rfl
 pyHash:=fun hv h=>by
  rcases xu hv with ⟨i,t,rfl,rfl⟩ | ⟨x,t,rfl,rfl⟩
  ·exact wpAny_pyHash_int h
  ·exact wpAny_pyHash_str h
 eqBool:=fun hu hv h=>by
  rcases xu hu with ⟨i,t,rfl,rfl⟩ | ⟨x,t,rfl,rfl⟩
  ·rcases xu hv with ⟨j,u,rfl,rfl⟩ | ⟨y,u,rfl,rfl⟩
   ·rw [key_ll] at h; exact wpAny_eqBool_int h
   ·rw [key_lr] at h; exact SeqAt.EqAt.int_str i t y u _ _ _ _ h
  ·rcases xu hv with ⟨j,u,rfl,rfl⟩ | ⟨y,u,rfl,rfl⟩
   ·rw [key_rl] at h; exact SeqAt.EqAt.str_int x t j u _ _ _ _ h
   ·rw [key_rr] at h; exact wpAny_eqBool_str h
 «strs»:=fun k x t v h=>by
  rcases xu h with ⟨i,u,rfl,e⟩ | ⟨y,u,rfl,e⟩
  ·exact nomatch e
  ·injection e with e1 _
   subst e1
   cases v <;> rfl
theorem mixKind_int (prog:Program)(w:World)(i:Int)(t:Tok):(vZ prog w).is (.inl i) (.int i t)=true:=keyIs_int i t
theorem za0 (prog:Program)(w:World)(x:Str)(t:Tok):(vZ prog w).is (.inr x) (.str x t)=true:=keyIs_str x t
end L2
namespace L2
open PySem PySem.Spec PyProof.Rows
inductive V where
 | non | bl (b:Bool) | int (i:Int) | str (x:Str) | byt (b:Array UInt8) | flt (b:UInt64) | ref (a:Addr) | ty (n:String)
 deriving DecidableEq
noncomputable def RelV:V→Value→Prop
 | .non,u=>u=Value.none
 | .bl b,u=>u=Value.bool b
 | .int i,u=>∃t,u=Value.int i t
 | .str x,u=>∃t,u=Value.str x t
 | .byt b,u=>∃t,u=Value.bytes b t
 | .flt b,u=>∃t,u=Value.float b t
 | .ref a,u=>u=Value.ref a
 | .ty n,u=>u=Value.type n
noncomputable abbrev Vals:List V→List Value→Prop:=Paired RelV
theorem Vals.length {xs:List V}{us:List Value}(r:Vals xs us):xs.length=us.length:=Paired.length r
theorem Vals.get:∀{xs:List V}{us:List Value}{i:Nat}{x:V},Vals xs us→xs[i]? = some x→∃u,us[i]? = some u∧RelV x u
 | _,_,_,_,.nil,e=>by simp at e
 | _,_,0,_,.cons r _,e=>by simp at e; subst e; exact ⟨_,rfl,r⟩
 | _,_,i + 1,x,.cons _ t,e=>by
  obtain ⟨u,h1,h2⟩:=Vals.get (i:=i) (x:=x) t (by simpa using e)
  exact ⟨u,by simpa using h1,h2⟩
theorem Vals.set {x:V}{u:Value}(r:RelV x u):∀{xs:List V}{us:List Value} (i:Nat),Vals xs us→Vals (xs.set i x) (us.set i u)
 | _,_,_,.nil=>.nil
 | _,_,0,.cons _ t=>.cons r t
 | _,_,i + 1,.cons q t=>.cons q (Vals.set r i t)
theorem Vals.append:∀{xs ys:List V}{us ws:List Value},Vals xs us→Vals ys ws→Vals (xs++ys) (us++ws):=by
 intro xs ys us ws h k
 induction h with
 | nil=>exact k
 | cons r t ih=>exact .cons r ih
theorem Vals.take:∀{xs:List V}{us:List Value} (n:Nat),Vals xs us→Vals (xs.take n) (us.take n)
 | _,_,0,_=>.nil
 | _,_,_ + 1,.nil=>.nil
 | _,_,n + 1,.cons r t=>.cons r (Vals.take n t)
theorem Vals.drop:∀{xs:List V}{us:List Value} (n:Nat),Vals xs us→Vals (xs.drop n) (us.drop n)
 | _,_,0,r=>r
 | _,_,_ + 1,.nil=>.nil
 | _,_,n + 1,.cons _ t=>Vals.drop n t
noncomputable def RelO:Option V→Option Value→Prop
 | some v,some u=>RelV v u
 | none,none=>True
 | _,_=>False
noncomputable def KV {κ:Type}:List (κ×V)→List (κ×Value)→Prop:=Paired fun (p:κ×V) (q:κ×Value)=>p.1=q.1∧RelV p.2 q.2
noncomputable def kV:Key→V
 | .inl i=>.int i
 | .inr x=>.str x
inductive HO where
 /-- a list -/
 | lst (xs:List V)
 /-- a tuple (never changes) -/
 | tup (xs:List V)
 /-- a dict whose keys are ints and texts; one whose keys are tuples of ints and texts (the empty one is both) -/
 | dK (kvs:List (Key×V)) | dT (kvs:List (List Key×V))
 /-- a set of ints: its members, its size -/
 | set (S:Int→Bool) (n:Nat)
 /-- an instance of the class at C, its dict at dx, its attributes -/
 | ins (C dx:Addr) (fs:List (Str×V))
 /-- the dict of the instance at x -/
 | own (x:Addr)
 /-- the dict of an exception -/
 | xd (fs:List (Str×V))
 /-- a bound method, f of x -/
 | met (f x:Addr)
 /-- a range object lo, lo + 1, .. below hi -/
 | rng (lo hi:Int)
 /-- a thing that is known to the object (the script; a dict while a loop walks it): read, never written while it is so -/
 | frz (o:Obj) (u:HO)
 /-- a code object's table -/
 | tbl (ps:Array Value)
 /-- any other thing, by what is true of its one object (a def of one's own: SetO a S n := HO.ext fun h => ..) -/
 | ext (φ:Heap→Prop)
noncomputable abbrev Hp:=Addr→Option HO
noncomputable def upd (H:Hp)(a:Addr)(o:HO):Hp:=fun b=>if b=a then some o else H b
theorem yd {H:Hp}{a:Addr}{o:HO}:upd H a o a=some o:=by unfold upd; rw [if_pos rfl]
theorem zV {H:Hp}{a b:Addr}{o:HO}(h:b≠a):upd H a o b=H b:=by unfold upd; rw [if_neg h]
theorem yM {H:Hp}{a b:Addr}{o:HO}(h:H a=some o)(h':H b=none):a≠b:=by
 intro e; subst e; rw [h] at h'; cases h'
noncomputable def TupD (h:Heap)(a:Addr)(items:Array Value):Prop:=∃o,h.get? a=some o∧o.cls=.type "tuple" ∧ (∃n,o.data=.seq items n)∧o.dict=none
theorem TupD.tup {h:Heap}{a:Addr}{items:Array Value}(x:TupD h a items):IsTup h a items:=let ⟨o,e,c,d,_⟩:=x; ⟨o,e,c,d⟩
theorem TupD.new (h:Heap)(items:Array Value):TupD (h.push { cls:=.type "tuple", data:=.seq items }) h.objs.size items:=⟨_,Heap.get?_push_size _ rfl,rfl,⟨_,rfl⟩,rfl⟩
section
variable (P:Program)(w:World)
noncomputable def ObjOk (H:Hp)(h:Heap)(a:Addr):HO→Prop
 | .lst xs=>xs.length≤sizeLine∧∃(its:List Value) (n:Nat),Vals xs its∧h.get? a=some { cls:=.type "list", data:=.seq its.toArray n }
 | .tup xs=>xs.length≤sizeLine∧∃its:List Value,Vals xs its∧TupD h a its.toArray
 | .dK kvs=>kvs.length≤sizeLine∧(a == sysModules)=false∧∃vs,KV kvs vs∧h.DictOf (vZ P w) a vs
 | .dT kvs=>kvs.length≤sizeLine∧(a == sysModules)=false∧∃xs:List (List Key×Addr×Value),
   Paired (fun (p:List Key×V) (q:List Key×Addr×Value)=>p.1=q.1∧H q.2.1=some (.tup (p.1.map kV))∧RelV p.2 q.2.2) kvs xs ∧
   ∃o es ep,h.get? a=some o∧o.ExactDict∧o.data=.dict es ep∧es.toList=xs.map (entryOfKey (tupleKind (vZ P w)))∧(xs.map (·.1)).Nodup
 | .set S n=>h.SetOf (intKind P w) a S n
 | .ins C dx fs=>H dx=some (.own a)∧fs.length≤1000∧dx≠a∧h.get? a=some (PySem.W.instObj C dx) ∧
   ∃mA,h.Ns1 dx mA∧(∀f,RelO (fs.lookup f) (mA f))∧PySem.Within mA (fs.map (·.1))
 | .own _=>∃o,h.get? a=some o
 | .xd fs=>∃mA,h.Ns1 a mA∧∀f,RelO (fs.lookup f) (mA f)
 | .rng lo hi=>∃t u v,h.get? a=some { cls:=.type "range", data:=.fields #[.int lo t,.int hi u,.int 1 v] }
 | .frz o u=>h.get? a=some o∧ObjOk H h a u
 | .tbl ps=>h.get? a=some { cls:=.none,data:=.fields ps }
 | .met f x=>h.get? a=some (PySem.W.methodObj (.ref f) (.ref x))
 | .ext φ=>φ h∧(∃o,h.get? a=some o)∧∀h1 h2:Heap,φ h1→(∀o,h1.get? a=some o→h2.get? a=some o)→φ h2
noncomputable def HOk (H:Hp)(h:Heap):Prop:=∀a o,H a=some o→ObjOk P w H h a o
end
section
variable {P:Program}{w:World}{H H':Hp}{h h':Heap}{a:Addr}{o:HO}
theorem ObjOk.lt (x:ObjOk P w H h a o):a < h.objs.size:=by
 cases o with
 | lst xs=>obtain ⟨_,_,_,_,e⟩:=x; exact Heap.lt_size e
 | tup xs=>obtain ⟨_,_,_,p⟩:=x; exact p.tup.lt
 | dK kvs=>obtain ⟨_,_,_,_,o,_,_,e,_⟩:=x; exact Heap.lt_size e
 | dT kvs=>obtain ⟨_,_,_,_,o,_,_,e,_⟩:=x; exact Heap.lt_size e
 | set S n=>obtain ⟨o,_,_,_,e,_⟩:=x; exact Heap.lt_size e
 | ins C dx fs=>obtain ⟨_,_,_,e,_⟩:=x; exact Heap.lt_size e
 | own y=>obtain ⟨_,e⟩:=x; exact Heap.lt_size e
 | xd fs=>obtain ⟨_,⟨_,_,_,e,_⟩,_⟩:=x; exact Heap.lt_size e
 | rng lo hi=>obtain ⟨_,_,_,e⟩:=x; exact Heap.lt_size e
 | frz ob u=>obtain ⟨e,_⟩:=x; exact Heap.lt_size e
 | tbl ps=>exact Heap.lt_size (show h.get? a=some _ from x)
 | met f y=>exact Heap.lt_size (show h.get? a=some _ from x)
 | ext φ=>obtain ⟨_,⟨_,e⟩,_⟩:=x; exact Heap.lt_size e
theorem Paired.mapP {α β:Type}{F G:α→β→Prop}:∀{l₁:List α}{l₂:List β},Paired F l₁ l₂→(∀a b,F a b→G a b)→Paired G l₁ l₂
 | _,_,.nil,_=>.nil
 | _,_,.cons r t,f=>.cons (f _ _ r) (Paired.mapP t f)
theorem ObjOk.stay (x:ObjOk P w H h a o)(k:∀b u,(b=a∨H b=some (.own a))→h.get? b=some u→h'.get? b=some u)
  (ho:∀b,H b=some (.own a)→H' b=some (.own a)) (ht:∀b xs,H b=some (.tup xs)→H' b=some (.tup xs)):ObjOk P w H' h' a o:=by
 induction o with
 | lst xs=>obtain ⟨z,its,n,r,e⟩:=x; exact ⟨z,its,n,r,k _ _ (.inl rfl) e⟩
 | tup xs=>obtain ⟨z,its,r,ob,e,c⟩:=x; exact ⟨z,its,r,ob,k _ _ (.inl rfl) e,c⟩
 | dK kvs=>obtain ⟨z,y,vs,r,ob,es,ep,e,c⟩:=x; exact ⟨z,y,vs,r,ob,es,ep,k _ _ (.inl rfl) e,c⟩
 | dT kvs =>
  obtain ⟨z,y,xs,r,ob,es,ep,e,c⟩:=x
  exact ⟨z,y,xs,Paired.mapP r fun p q z=>⟨z.1,ht _ _ z.2.1,z.2.2⟩,ob,es,ep,k _ _ (.inl rfl) e,c⟩
 | set S n=>obtain ⟨ob,es,ep,t,e,c⟩:=x; exact ⟨ob,es,ep,t,k _ _ (.inl rfl) e,c⟩
 | ins C dx fs =>
  obtain ⟨d,z,ne,e,mA,⟨od,es,ep,e2,c⟩,r⟩:=x
  exact ⟨ho _ d,z,ne,k _ _ (.inl rfl) e,mA,⟨od,es,ep,k _ _ (.inr d) e2,c⟩,r⟩
 | own y=>obtain ⟨ob,e⟩:=x; exact ⟨ob,k _ _ (.inl rfl) e⟩
 | xd fs=>obtain ⟨mA,⟨od,es,ep,e,c⟩,r⟩:=x; exact ⟨mA,⟨od,es,ep,k _ _ (.inl rfl) e,c⟩,r⟩
 | rng lo hi=>obtain ⟨t,u,v,e⟩:=x; exact ⟨t,u,v,k _ _ (.inl rfl) e⟩
 | frz ob u ih=>obtain ⟨e,q⟩:=x; exact ⟨k _ _ (.inl rfl) e,ih q⟩
 | tbl ps =>
  have e:h.get? a=some { cls:=.none,data:=.fields ps }:=x
  show h'.get? a=some { cls:=.none,data:=.fields ps }
  exact k a _ (.inl rfl) e
 | met f y =>
  have e:h.get? a=some (PySem.W.methodObj (.ref f) (.ref y)):=x
  show h'.get? a=some (PySem.W.methodObj (.ref f) (.ref y))
  exact k a _ (.inl rfl) e
 | ext φ=>obtain ⟨p,⟨o,e⟩,st⟩:=x; exact ⟨st _ _ p fun o q=>k _ _ (.inl rfl) q,⟨o,k _ _ (.inl rfl) e⟩,st⟩
theorem HOk.lt (x:HOk P w H h)(e:H a=some o):a < h.objs.size:=(x a o e).lt
theorem HOk.fresh (x:HOk P w H h)(e:h.objs.size≤a):H a=none:=by
 cases q:H a with
 | none=>rfl
 | some u=>exact absurd (Nat.lt_of_lt_of_le (x.lt q) e) (Nat.lt_irrefl _)
theorem HOk.kept (x:HOk P w H h)(k:∀b u,h.get? b=some u→h'.get? b=some u):HOk P w H h':=fun a o e =>
 (x a o e).stay (fun b u _ q=>k b u q) (fun _ q=>q) fun _ _ q=>q
theorem HOk.laid (x:HOk P w H h)(k:∀b u,h.get? b=some u→h'.get? b=some u)(hp:h.objs.size≤a)(new:ObjOk P w (upd H a o) h' a o):HOk P w (upd H a o) h':=fun b u e=>by
 have hn:=x.fresh hp
 by_cases hb:b=a
 ·subst hb; rw [yd] at e; cases e; exact new
 ·rw [zV hb] at e
  exact (x b u e).stay (fun c v _ q=>k c v q) (fun c q=>by rw [zV (yM q hn)]; exact q) fun c xs q=>by rw [zV (yM q hn)]; exact q
end
noncomputable def Rd (H:Hp)(a:Addr)(u:HO):Prop:=H a=some u∨∃o,H a=some (.frz o u)
theorem Rd.ok {P:Program}{w:World}{H:Hp}{h:Heap}{a:Addr}{u:HO}(r:Rd H a u)(x:HOk P w H h):ObjOk P w H h a u:=by
 rcases r with r | ⟨o,r⟩
 ·exact x a u r
 ·obtain ⟨_,q⟩:=x a _ r
  exact q
noncomputable def Mut:Option HO→Prop
 | some (.lst _)=>True
 | some (.dK _)=>True
 | some (.dT _)=>True
 | some (.set _ _)=>True
 | some (.ins _ _ _)=>True
 | some (.ext _)=>True
 | _=>False
section
variable {P:Program}{w:World}{H:Hp}{h h':Heap}{x e:Addr}{o':HO}
theorem HOk.write (ok:HOk P w H h)(mu:Mut (H x))(he:e=x∨H e=some (.own x))(k:∀b u,b≠e→h.get? b=some u→h'.get? b=some u)(heo:∃u,h'.get? e=some u)
  (new:ObjOk P w (upd H x o') h' x o'):HOk P w (upd H x o') h':=fun b u q=>by
 have nown:∀c y,H c=some (.own y)→c≠x:=fun c y r z=>by subst z; rw [r] at mu; exact mu
 have ntup:∀c xs,H c=some (.tup xs)→c≠x:=fun c xs r z=>by subst z; rw [r] at mu; exact mu
 by_cases hb:b=x
 ·subst hb; rw [yd] at q; cases q; exact new
 ·rw [zV hb] at q
  by_cases hbe:b=e
  ·have q':H b=some (.own x):=by
    rcases he with z | z
    ·exact absurd (hbe.trans z) hb
    ·rw [hbe]; exact z
   rw [q] at q'; cases q'
   obtain ⟨v,hv⟩:=heo
   exact ⟨v,by rw [hbe]; exact hv⟩
  ·refine (ok b u q).stay (fun c v hc r=>k c v ?_ r) (fun c r=>by rw [zV (nown c b r)]; exact r) fun c xs r=>by rw [zV (ntup c xs r)]; exact r
   rcases hc with rfl | hc
   ·exact hbe
   ·rintro rfl
    rcases he with z | z
    ·exact nown c b hc z
    ·rw [hc] at z; cases z; exact hb rfl
end
structure Un (fs ex:List Addr)(H H':Hp)(h h':Heap):Prop where
 keep:∀b o,h.get? b=some o→H b=none→b∉fs→b∉ex→h'.get? b=some o
 slot:∀b o,h.get? b=some o→H b=none→b∈fs→b∉ex→∃sl,h'.get? b=some { o with slots:=sl }
 free:∀b o,h.get? b=some o→H b=none→b∉ex→H' b=none
 there:∀b o,h.get? b=some o→b∉ex→∃o',h'.get? b=some o'
 tups:∀b xs,H b=some (.tup xs)→H' b=some (.tup xs)
 frzs:∀b o u,H b=some (.frz o u)→H' b=some (.frz o u)
 tbls:∀b ps,H b=some (.tbl ps)→∃more,H' b=some (.tbl (ps++more))
section
variable {fs fs' ex ex':List Addr}{H H1 H2:Hp}{h h1 h2 h':Heap}{a x e:Addr}{o:HO}
theorem Un.any (u:Un fs ex H H1 h h1){b:Addr}{ob:Obj}(q:h.get? b=some ob)(n:H b=none)(hx:b∉ex):∃sl,h1.get? b=some { ob with slots:=sl }:=by
 by_cases hb:b∈fs
 ·exact u.slot b ob q n hb hx
 ·exact ⟨ob.slots,u.keep b ob q n hb hx⟩
theorem Un.trans (a:Un fs ex H H1 h h1)(b:Un fs ex H1 H2 h1 h2):Un fs ex H H2 h h2 where
 keep:=fun c ob q n hc hx=>b.keep c ob (a.keep c ob q n hc hx) (a.free c ob q n hx) hc hx
 slot:=fun c ob q n hc hx=>by
  obtain ⟨sl,e1⟩:=a.slot c ob q n hc hx
  obtain ⟨sl',e2⟩:=b.slot c _ e1 (a.free c ob q n hx) hc hx
  exact ⟨sl',e2⟩
 free:=fun c ob q n hx=>by
  obtain ⟨o',e1⟩:=a.there c ob q hx
  exact b.free c o' e1 (a.free c ob q n hx) hx
 there:=fun c ob q hx=>by
  obtain ⟨o',e1⟩:=a.there c ob q hx
  exact b.there c o' e1 hx
 tups:=fun c xs q=>b.tups c xs (a.tups c xs q)
 frzs:=fun c ob xs q=>b.frzs c ob xs (a.frzs c ob xs q)
 tbls:=fun c ps q=>by
  obtain ⟨m1,e1⟩:=a.tbls c ps q
  obtain ⟨m2,e2⟩:=b.tbls c _ e1
  exact ⟨m1++m2,by rw [e2,Array.append_assoc]⟩
theorem Un.kept (k:∀b u,h.get? b=some u→h'.get? b=some u):Un fs ex H H h h' :=
 ⟨fun b ob q _ _ _=>k b ob q,fun b ob q _ _ _=>⟨ob.slots,k b ob q⟩,fun _ _ _ n _=>n,fun b ob q _=>⟨ob,k b ob q⟩,fun _ _ q=>q,fun _ _ _ q=>q,fun _ ps q=>⟨#[],by rw [q]; simp⟩⟩
theorem Un.refl:Un fs ex H H h h:=Un.kept fun _ _ q=>q
theorem Un.laid (k:∀b u,h.get? b=some u→h'.get? b=some u)(hp:h.objs.size≤a)(hn:H a=none):Un fs ex H (upd H a o) h h' where
 keep:=fun b u q _ _ _=>k b u q
 slot:=fun b u q _ _ _=>⟨u.slots,k b u q⟩
 free:=fun b u q n _=>by rw [zV (Nat.ne_of_lt (Nat.lt_of_lt_of_le (Heap.lt_size q) hp))]; exact n
 there:=fun b u q _=>⟨u,k b u q⟩
 tups:=fun b xs q=>by rw [zV (yM q hn)]; exact q
 frzs:=fun b u xs q=>by rw [zV (yM q hn)]; exact q
 tbls:=fun b ps q=>⟨#[],by rw [zV (yM q hn),q]; simp⟩
theorem Un.write (mu:Mut (H x))(he:e=x∨H e=some (.own x))(k:∀b u,b≠e→h.get? b=some u→h'.get? b=some u)(heo:∃u,h'.get? e=some u):Un fs ex H (upd H x o) h h':=by
 have hx:∀b,H b=none→b≠x:=fun b n z=>by subst z; rw [n] at mu; exact mu
 have hb:∀b,H b=none→b≠e:=fun b n z=>by
  subst z
  rcases he with r | r
  ·exact hx b n r
  ·rw [n] at r; cases r
 have hm:∀b u,H b=some u→¬Mut (some u)→b≠x:=fun b u q nm z=>by subst z; rw [q] at mu; exact nm mu
 refine ⟨fun b u q n _ _=>k b u (hb b n) q,fun b u q n _ _=>⟨u.slots,k b u (hb b n) q⟩,fun b u q n _=>by rw [zV (hx b n)]; exact n,fun b u q _=>?_,
  fun b xs q=>by rw [zV (hm b _ q fun z=>z)]; exact q,fun b u xs q=>by rw [zV (hm b _ q fun z=>z)]; exact q,fun b ps q=>⟨#[],by rw [zV (hm b _ q fun z=>z),q]; simp⟩⟩
 by_cases hbe:b=e
 ·subst hbe; exact heo
 ·exact ⟨u,k b u hbe q⟩
theorem Un.mono (u:Un fs ex H H1 h h1)(hs:∀b∈fs,b∈fs')(hx:∀b∈ex,b∈ex'):Un fs' ex' H H1 h h1 :=
 ⟨fun b ob q n hb he=>u.keep b ob q n (fun z=>hb (hs b z)) fun z=>he (hx b z),fun _ _ q n _ he=>u.any q n fun z=>he (hx _ z),fun b ob q n he=>u.free b ob q n fun z=>he (hx b z),fun b ob q he=>u.there b ob q fun z=>he (hx b z),u.tups,u.frzs,u.tbls⟩
end
noncomputable def trk (h:Heap)(H:Hp):List Addr:=(List.range h.objs.size).filter fun a=>(H a).isSome
noncomputable def hidT (h:Heap)(H:Hp):Heap:=PySem.W.hideAll h (trk h H)
theorem hidT_size (h:Heap)(H:Hp):(hidT h H).objs.size=h.objs.size:=PySem.W.hideAll_size _ _
theorem hidT_get {h:Heap}{H:Hp}{b:Addr}{o:Obj}(e:h.get? b=some o)(n:H b=none):(hidT h H).get? b=some o :=
 PySem.W.hideAll_get _ e fun hm=>by
  have q:(H b).isSome=true:=(List.mem_filter.mp hm).2
  rw [n] at q; simp at q
theorem of_hidT {h:Heap}{H:Hp}{b:Addr}{o:Obj}(e:(hidT h H).get? b=some o):h.get? b=some o∧H b=none:=by
 have e':h.get? b=some o:=PySem.W.of_hideAll (trk h H) e
 refine ⟨e',?_⟩
 cases q:H b with
 | none=>rfl
 | some x =>
  have hm:b∈trk h H:=List.mem_filter.mpr ⟨List.mem_range.mpr (Heap.lt_size e'),by simp [q]⟩
  have z:(hidT h H).get? b=none:=PySem.W.hideAll_none (trk h H) hm
  rw [z] at e; cases e
noncomputable def allNews (g h:Heap)(L:Addr):List (Addr×Obj):=(List.range h.objs.size).filterMap fun a=>if a=L∨(g.get? a).isSome=true then none else (h.get? a).map fun o=>(a,o)
noncomputable def rest (g h:Heap)(L d:Addr):List (Addr×Obj):=(allNews g h L).filter fun p=>decide (p.1≠d)
end L2
namespace L2
open PySem PySem.Spec PyProof.Rows
structure Mod (K:PySem.W.Frag)(mg:Str→Option Value)(base:Heap):Prop where
 kin:K.In base
 glob:base.Ns mainGlobals mg
 blt:∃mb,base.Ns builtinsNs mb∧∀x:Str,x ≠ "__name__" → mb x=bootBuiltins x
 nolimit:base.NoLimit
structure Cx where
 prog:Program
 w:World
 K:PySem.W.Frag
 mg:Str→Option Value
 base:Heap
 A:Around
 N:List Str
 s₀:Shared
 H₀:Hp
 env:Env
 outer:List Env
 stack:List Env
 ex:List Addr
 fn:Str→Bool
 calm:Bool
 pn:List (Addr×Obj)
 xe:Value→Shared→Prop
noncomputable def frs (l:List Env):List Addr:=l.filterMap (·.frame)
noncomputable abbrev Cx.fs (X:Cx):List Addr:=frs X.outer
noncomputable def Vis (sc:Scope)(x:Str):Prop:=sc.names.lookup x=some .local∨sc.names.lookup x=some .cell∨sc.names.lookup x=some .free
noncomputable def Loc (sc:Scope)(x:Str):Prop:=sc.names.lookup x=some .local∨sc.names.lookup x=some .cell
noncomputable def Look (env:Env)(h:Heap)(m:Str→Option Value)(x:Str)(u:Value):Prop :=
 (env.kindOf x=some .local∧m x=some u)∨((env.kindOf x=some .cell∨env.kindOf x=some .free)∧∃c,env.cells.lookup x=some c∧h.IsCell c (some u))
structure Cx.Ok (X:Cx):Prop where
 mod:Mod X.K X.mg X.base
 kind:X.env.scope.kind=.function
 glob:X.env.globals=mainGlobals
 blt:X.env.builtins=builtinsNs
 above:X.s₀.heap.objs.size≤X.env.locals
 inj:∀x y c,X.env.cells.lookup x=some c→X.env.cells.lookup y=some c→x=y
 has:∀x,(X.env.kindOf x=some .cell∨X.env.kindOf x=some .free)→∃c,X.env.cells.lookup x=some c
 cab:∀x c,X.fn x=true→X.env.cells.lookup x=some c→X.s₀.heap.objs.size≤c
 hd:X.calm=true→X.A.handled=none
 frames:X.A.frames=some X.stack
 stk:X.stack=X.outer∨(X.stack=X.env::X.outer∧X.env.frame=some X.env.locals)
 exf:∀b∈X.ex,b≠X.env.locals∧∀x c,X.env.cells.lookup x=some c→c≠b
 bs:∀b o,X.base.get? b=some o→X.s₀.heap.get? b=some o∧X.H₀ b=none
 bsz:X.base.objs.size≤X.s₀.heap.objs.size
 noex:∀b o,X.base.get? b=some o→b∉X.ex
 exfs:∀b∈X.ex,b∉X.fs
 funs:X.s₀.heap.FunFrames X.base X.outer
 frf:∀b∈X.fs,X.H₀ b=none
structure Inv (X:Cx)(pins:List (Addr×Obj))(σ:List (Option V))(H:Hp)(s:Shared):Prop where
 ok:X.Ok
 os:s.os=X.s₀.os
 bare:AllBare s.gens
 base:Un X.fs X.ex X.H₀ H X.s₀.heap s.heap
 loc:∃m,s.heap.Ns X.env.locals m∧∀(i:Nat) (x:Str) (v:V),X.N[i]? = some x→σ[i]? = some (some v)→Vis X.env.scope x→∃u,RelV v u∧Look X.env s.heap m x u
 cell:∀x c,X.env.cells.lookup x=some c→∃v,s.heap.IsCell c v
 free:H X.env.locals=none
 freeC:∀x c,X.env.cells.lookup x=some c→H c=none
 pin:∀p∈X.pn++pins,s.heap.get? p.1=some p.2∧H p.1=none∧p.1≠X.env.locals∧p.1∉X.fs∧∀v,p.2.data≠.cell v
 hok:HOk X.prog X.w H s.heap
 len:σ.length=X.N.length
section
variable {X:Cx}{pins:List (Addr×Obj)}{σ:List (Option V)}{H H':Hp}{s:Shared}{h':Heap}
theorem Cx.Ok.nofr (ok:X.Ok){b:Addr}{o:Obj}(e:X.base.get? b=some o):b∉X.fs:=fun hb=>by
 have:=(ok.funs.mem hb).1
 rw [e] at this; cases this
theorem Inv.bs (I:Inv X pins σ H s):∀b o,X.base.get? b=some o→s.heap.get? b=some o∧H b=none:=fun b o e =>
 ⟨I.base.keep b o (I.ok.bs b o e).1 (I.ok.bs b o e).2 (I.ok.nofr e) (I.ok.noex b o e),I.base.free b o (I.ok.bs b o e).1 (I.ok.bs b o e).2 (I.ok.noex b o e)⟩
theorem Inv.bk (I:Inv X pins σ H s):∀b o,X.base.get? b=some o→s.heap.get? b=some o:=fun b o e=>(I.bs b o e).1
theorem Inv.mod (I:Inv X pins σ H s):Mod X.K X.mg X.base:=I.ok.mod
theorem Inv.kIn (I:Inv X pins σ H s):X.K.In s.heap:=I.ok.mod.kin.keeps I.bk
theorem Inv.lt (I:Inv X pins σ H s):X.env.locals < s.heap.objs.size:=let ⟨_,hn,_⟩:=I.loc; hn.lt
theorem Inv.sz (I:Inv X pins σ H s):X.s₀.heap.objs.size≤s.heap.objs.size:=Nat.le_trans I.ok.above (Nat.le_of_lt I.lt)
theorem Inv.nofs (I:Inv X pins σ H s){a:Addr}(h:s.heap.objs.size≤a):a∉X.fs:=fun hb=>by
 obtain ⟨_,o,ho,_⟩:=I.ok.funs.mem hb
 exact absurd (Nat.lt_of_lt_of_le (Heap.lt_size ho) (Nat.le_trans I.sz h)) (Nat.lt_irrefl _)
theorem Inv.cne (I:Inv X pins σ H s):∀x c,X.env.cells.lookup x=some c→c≠X.env.locals:=fun x c e z=>by
 obtain ⟨v,o,ho,hd⟩:=I.cell x c e
 obtain ⟨m,⟨o',es,ep,ho',hd',_⟩,_⟩:=I.loc
 rw [z,ho'] at ho; cases ho; rw [hd'] at hd; cases hd
theorem Inv.funs (I:Inv X pins σ H s):s.heap.FunFrames X.base X.outer:=by
 have all:∀(l:List Env),(∀b∈frs l,b∈X.fs)→X.s₀.heap.FunFrames X.base l→s.heap.FunFrames X.base l:=by
  intro l
  induction l with
  | nil=>intro _ _; trivial
  | cons env r ih =>
   intro hs hl
   obtain ⟨hk,⟨L,o,hf,hn,ho,hd⟩,hr⟩:=hl
   have hL:L∈X.fs:=hs L (by unfold frs; rw [List.filterMap_cons,hf]; exact List.mem_cons_self)
   obtain ⟨sl,e⟩:=I.base.slot L o ho (I.ok.frf L hL) hL fun z=>I.ok.exfs L z hL
   exact ⟨hk,⟨L,_,hf,hn,e,hd⟩,ih (fun b hb=>hs b (by unfold frs; rw [List.filterMap_cons,hf]; exact List.mem_cons_of_mem _ hb)) hr⟩
 exact all X.outer (fun _ hb=>hb) I.ok.funs
theorem Inv.stack (I:Inv X pins σ H s):s.heap.FunFrames X.base X.stack:=by
 rcases I.ok.stk with e | ⟨e,hf⟩
 ·rw [e]; exact I.funs
 ·rw [e]
  obtain ⟨m,hn,_⟩:=I.loc
  refine .cons (by rw [I.ok.kind]; decide) hf hn ?_ I.funs
  exact Heap.get?_none_of_le (Nat.le_trans I.ok.bsz I.ok.above)
theorem Inv.stkSub (I:Inv X pins σ H s):∀b∈frs X.stack,b∈X.env.locals::X.fs:=fun b hb=>by
 rcases I.ok.stk with e | ⟨e,hf⟩
 ·rw [e] at hb; exact List.mem_cons_of_mem _ hb
 ·rw [e] at hb
  unfold frs at hb
  rw [List.filterMap_cons,hf] at hb
  exact hb
theorem Inv.stkFree (I:Inv X pins σ H s):∀b∈frs X.stack,H b=none:=fun b hb=>by
 rcases List.mem_cons.mp (I.stkSub b hb) with e | hb
 ·rw [e]; exact I.free
 ·obtain ⟨_,o,ho,_⟩:=I.ok.funs.mem hb
  exact I.base.free b o ho (I.ok.frf b hb) fun z=>I.ok.exfs b z hb
theorem Inv.step {g':Array GenState}{t':Nat}{d':Drawn}{ch:List Addr}(I:Inv X pins σ H s)
  (hch:∀b∈ch,(b∈X.ex∨X.s₀.heap.objs.size≤b)∧b≠X.env.locals∧(∀x c,X.env.cells.lookup x=some c→c≠b)∧∀p∈X.pn++pins,p.1≠b)
  (keep:∀b o,b≠X.env.locals→b∉X.fs→b∉ch→s.heap.get? b=some o→H b=none→h'.get? b=some o)
  (slot:∀b o,b≠X.env.locals→b∈X.fs→b∉ch→s.heap.get? b=some o→H b=none→∃sl,h'.get? b=some { o with slots:=sl }) (free:∀b o,b∉ch→s.heap.get? b=some o→H b=none→H' b=none)
  (there:∀b o,b∉ch→s.heap.get? b=some o→∃o',h'.get? b=some o')
  (tups:∀b xs,H b=some (.tup xs)→H' b=some (.tup xs)) (frzs:∀b o u,H b=some (.frz o u)→H' b=some (.frz o u)) (tbls:∀b ps,H b=some (.tbl ps)→∃more,H' b=some (.tbl (ps++more)))
  (ns:∀m,s.heap.Ns X.env.locals m→h'.Ns X.env.locals m) (hok:HOk X.prog X.w H' h') (hg:AllBare g') :
  Inv X pins σ H' { s with heap:=h',gens:=g',drawn:=d',toks:=t' }:=by
 have neL:∀b o,X.s₀.heap.get? b=some o→b≠X.env.locals:=fun b o e=>Nat.ne_of_lt (Nat.lt_of_lt_of_le (Heap.lt_size e) I.ok.above)
 have neC:∀b o,X.s₀.heap.get? b=some o→b∉X.ex→b∉ch:=fun b o e hx hb=>by
  rcases (hch b hb).1 with z | z
  ·exact hx z
  ·exact absurd (Nat.lt_of_lt_of_le (Heap.lt_size e) z) (Nat.lt_irrefl _)
 have cellK:∀x c,X.env.cells.lookup x=some c→∀v,s.heap.IsCell c v→h'.IsCell c v:=fun x c e v ⟨o,ho,hd⟩=>by
  have nch:c∉ch:=fun z=>(hch c z).2.2.1 x c e rfl
  by_cases hc:c∈X.fs
  ·obtain ⟨sl,q⟩:=slot c o (I.cne x c e) hc nch ho (I.freeC x c e)
   exact ⟨_,q,hd⟩
  ·exact ⟨o,keep c o (I.cne x c e) hc nch ho (I.freeC x c e),hd⟩
 refine ⟨I.ok,I.os,hg,⟨fun b o e n hb hx=>?_,fun b o e n hb hx=>?_,fun b o e n hx=>?_,fun b o e hx=>?_,fun b xs e=>tups b xs (I.base.tups b xs e),fun b o xs e=>frzs b o xs (I.base.frzs b o xs e),fun b ps e=>?_⟩,?_,fun x c e=>?_,?_,fun x c e=>?_,fun p hp=>?_,hok,I.len⟩
 ·exact keep b o (neL b o e) hb (neC b o e hx) (I.base.keep b o e n hb hx) (I.base.free b o e n hx)
 ·obtain ⟨sl,e1⟩:=I.base.slot b o e n hb hx
  obtain ⟨sl',e2⟩:=slot b _ (neL b o e) hb (neC b o e hx) e1 (I.base.free b o e n hx)
  exact ⟨sl',e2⟩
 ·obtain ⟨o',e1⟩:=I.base.there b o e hx
  exact free b o' (neC b o e hx) e1 (I.base.free b o e n hx)
 ·obtain ⟨o',e1⟩:=I.base.there b o e hx
  exact there b o' (neC b o e hx) e1
 ·obtain ⟨m1,e1⟩:=I.base.tbls b ps e
  obtain ⟨m2,e2⟩:=tbls b _ e1
  exact ⟨m1++m2,by rw [e2,Array.append_assoc]⟩
 ·obtain ⟨m,hn,hl⟩:=I.loc
  refine ⟨m,ns m hn,fun i x v e1 e2 e3=>?_⟩
  obtain ⟨u,r,l⟩:=hl i x v e1 e2 e3
  refine ⟨u,r,?_⟩
  rcases l with l | ⟨k,c,e,z⟩
  ·exact .inl l
  ·exact .inr ⟨k,c,e,cellK x c e _ z⟩
 ·obtain ⟨v,z⟩:=I.cell x c e
  exact ⟨v,cellK x c e v z⟩
 ·obtain ⟨m,⟨o,_,_,ho,_⟩,_⟩:=I.loc
  exact free _ o (fun z=>(hch _ z).2.1 rfl) ho I.free
 ·obtain ⟨v,o,ho,hd⟩:=I.cell x c e
  exact free c o (fun z=>(hch c z).2.2.1 x c e rfl) ho (I.freeC x c e)
 ·obtain ⟨e,n,ne,nf,d⟩:=I.pin p hp
  have nch:p.1∉ch:=fun z=>(hch p.1 z).2.2.2 p hp rfl
  exact ⟨keep p.1 p.2 ne nf nch e n,free p.1 p.2 nch e n,ne,nf,d⟩
theorem Inv.un {t':Nat}(I:Inv X pins σ H s)(u:Un X.fs [] H H' s.heap h')(hok:HOk X.prog X.w H' h'):Inv X pins σ H' { s with heap:=h',toks:=t' }:=by
 obtain ⟨m,⟨o,es,ep,ho,r⟩,_⟩:=id I.loc
 obtain ⟨sl,hL⟩:=u.any ho I.free (by simp)
 exact I.step (g':=s.gens) (d':=s.drawn) (ch:=[]) (fun _ z=>nomatch z) (fun b o _ hb _ e n=>u.keep b o e n hb (by simp)) (fun b o _ hb _ e n=>u.slot b o e n hb (by simp)) (fun b o _ e n=>u.free b o e n (by simp)) (fun b o _ e=>u.there b o e (by simp)) u.tups u.frzs u.tbls (fun m' hm=>by
  obtain ⟨o',es',ep',ho',r'⟩:=hm
  rw [ho] at ho'; cases ho'
  exact ⟨_,es',ep',hL,r'⟩) hok I.bare
theorem Inv.call {g':Array GenState}{t':Nat}{d':Drawn}{ch:List Addr}(I:Inv X pins σ H s)(u:Un (frs X.stack) ch H H' s.heap h')(hok:HOk X.prog X.w H' h')(hg:AllBare g')
  (hch:∀b∈ch,(b∈X.ex∨X.s₀.heap.objs.size≤b)∧b≠X.env.locals∧(∀x c,X.env.cells.lookup x=some c→c≠b)∧∀p∈X.pn++pins,p.1≠b) :
  Inv X pins σ H' { s with heap:=h',gens:=g',drawn:=d',toks:=t' }:=by
 obtain ⟨m,⟨o,es,ep,ho,r⟩,_⟩:=id I.loc
 obtain ⟨sl,hL⟩:=u.any ho I.free fun z=>(hch _ z).2.1 rfl
 exact I.step (ch:=ch) hch (fun b o hL hb hc e n=>u.keep b o e n (fun z=>(List.mem_cons.mp (I.stkSub b z)).elim hL hb) hc) (fun b o _ _ hc e n=>u.any e n hc) (fun b o hc e n=>u.free b o e n hc) (fun b o hc e=>u.there b o e hc) u.tups u.frzs u.tbls (fun m' hm=>by
  obtain ⟨o',es',ep',ho',r'⟩:=hm
  rw [ho] at ho'; cases ho'
  exact ⟨_,es',ep',hL,r'⟩) hok hg
theorem Inv.turned {t':Nat}{it:Addr}(I:Inv X pins σ H s)(k:∀b o,b≠it→s.heap.get? b=some o→h'.get? b=some o)(hn:H it=none)(hL:it≠X.env.locals)
  (h1:it∈X.ex∨X.s₀.heap.objs.size≤it) (h2:∀x c,X.env.cells.lookup x=some c→c≠it) (h3:∀p∈X.pn++pins,p.1≠it):Inv X pins σ H { s with heap:=h',toks:=t' }:=by
 have nit:∀b u,H b=some u→b≠it:=fun b u e z=>by rw [z,hn] at e; cases e
 refine I.step (g':=s.gens) (d':=s.drawn) (ch:=[it]) (fun b hb=>?_) (fun b o _ _ hc e _=>k b o (fun z=>hc (by simp [z])) e) (fun b o _ _ hc e _=>⟨o.slots,k b o (fun z=>hc (by simp [z])) e⟩) (fun _ _ _ _ n=>n)
  (fun b o hc e=>⟨o,k b o (fun z=>hc (by simp [z])) e⟩) (fun _ _ e=>e) (fun _ _ _ e=>e) (fun b ps e=>⟨#[],by rw [e]; simp⟩) (fun m hm=>?_) (fun b u e=>?_) I.bare
 ·have e:b=it:=by simpa using hb
  subst e
  exact ⟨h1,hL,h2,h3⟩
 ·obtain ⟨o,es,ep,ho,r⟩:=hm
  exact ⟨o,es,ep,k _ o (Ne.symm hL) ho,r⟩
 ·refine (I.hok b u e).stay (fun c v hc q=>k c v ?_ q) (fun _ q=>q) fun _ _ q=>q
  rcases hc with z | z
  ·rw [z]; exact nit b u e
  ·exact nit c _ z
theorem Inv.tok (I:Inv X pins σ H s)(t:Nat):Inv X pins σ H { s with toks:=t }:=I.un (h':=s.heap) (t':=t) Un.refl I.hok
theorem Inv.kept {t':Nat}(I:Inv X pins σ H s)(k:∀b u,s.heap.get? b=some u→h'.get? b=some u):Inv X pins σ H { s with heap:=h',toks:=t' }:=I.un (Un.kept k) (I.hok.kept k)
theorem Inv.laid {a:Addr}{o:HO}{t':Nat}(I:Inv X pins σ H s)(k:∀b u,s.heap.get? b=some u→h'.get? b=some u)(hp:s.heap.objs.size≤a)(new:ObjOk X.prog X.w (upd H a o) h' a o) :
  Inv X pins σ (upd H a o) { s with heap:=h',toks:=t' }:=I.un (Un.laid k hp (I.hok.fresh hp)) (I.hok.laid k hp new)
theorem Inv.write {x e:Addr}{o:HO}{t':Nat}(I:Inv X pins σ H s)(mu:Mut (H x))(he:e=x∨H e=some (.own x))(k:∀b u,b≠e→s.heap.get? b=some u→h'.get? b=some u)(heo:∃u,h'.get? e=some u)
  (new:ObjOk X.prog X.w (upd H x o) h' x o):Inv X pins σ (upd H x o) { s with heap:=h',toks:=t' }:=I.un (Un.write mu he k heo) (I.hok.write mu he k heo new)
theorem Inv.weak {σ':List (Option V)}(I:Inv X pins σ H s)(hl:σ'.length=σ.length)(w:∀(i:Nat) v,σ'[i]? = some (some v)→σ[i]? = some (some v)):Inv X pins σ' H s :=
 ⟨I.ok,I.os,I.bare,I.base,let ⟨m,hn,hl'⟩:=I.loc; ⟨m,hn,fun i x v e1 e2 e3=>hl' i x v e1 (w i v e2) e3⟩,I.cell,I.free,I.freeC,I.pin,I.hok,hl.trans I.len⟩
theorem Inv.pins_of {pins':List (Addr×Obj)}(I:Inv X pins σ H s)(h:∀p∈pins',s.heap.get? p.1=some p.2∧H p.1=none∧p.1≠X.env.locals∧p.1∉X.fs∧∀v,p.2.data≠.cell v):Inv X pins' σ H s :=
 ⟨I.ok,I.os,I.bare,I.base,I.loc,I.cell,I.free,I.freeC,fun p hp=>(List.mem_append.mp hp).elim (fun z=>I.pin p (List.mem_append_left _ z)) (h p),I.hok,I.len⟩
theorem nodup_ix {N:List Str}(hN:N.Nodup){i j:Nat}{x:Str}(a:N[i]? = some x)(b:N[j]? = some x):i=j:=by
 obtain ⟨h1,e1⟩:=List.getElem?_eq_some_iff.mp a
 obtain ⟨h2,e2⟩:=List.getElem?_eq_some_iff.mp b
 exact (List.getElem_inj hN).mp (e1.trans e2.symm)
theorem store_ok2 {M:Model}{A:Around}{E:Value→Shared→Prop}{i:Nat}{x:Str}{v:V}{u:Value}{Q:Unit→Shared→Prop}(I:Inv X pins σ H s)(hN:X.N.Nodup)(hi:X.N[i]? = some x)(hx:Loc X.env.scope x)(r:RelV v u)
  (h:∀s',Inv X pins (σ.set i (some v)) H s'→(∃a,Heap.SameBut a s.heap s'.heap∧(a=X.env.locals∨X.env.cells.lookup x=some a))→Q () s') (hf:X.fn x=true∨X.env.scope.names.lookup x=some .local:=by first | exact .inl rfl | exact .inr rfl | assumption):wpAny M A (storeName X.env x u) Q E s:=by
 obtain ⟨m,hn,hl⟩:=id I.loc
 have hcls:(X.env.scope.kind == .class || (X.env.scope.kind == .module&&X.env.locals != X.env.globals))=false:=by rw [I.ok.kind]; rfl
 have hiσ:i < σ.length:=by rw [I.len]; exact (List.getElem?_eq_some_iff.mp hi).1
 have cne:=I.cne
 have tracked:∀{a:Addr}{h':Heap},(∃o,s.heap.get? a=some o∧H a=none)→Heap.SameBut a s.heap h'→HOk X.prog X.w H h':=fun {a h'} ha hs b ob e=>by
  obtain ⟨_,_,hfree⟩:=ha
  refine (I.hok b ob e).stay (fun c w' hc q=>(hs.2 c ?_).trans q) (fun _ q=>q) fun _ _ q=>q
  rintro rfl
  rcases hc with rfl | hc
  ·rw [hfree] at e; cases e
  ·rw [hfree] at hc; cases hc
 rcases hx with hk | hk
 ·refine wpAny_storeName_local hk hn (fun h' hn' hs=>?_) hcls
  obtain ⟨oL,_,_,hoL,_⟩:=id hn
  refine h _ ⟨I.ok,I.os,I.bare,⟨fun b o e n hb hx=>?_,fun b o e n hb hx=>?_,I.base.free,fun b o e hx=>?_,I.base.tups,I.base.frzs,I.base.tbls⟩,⟨_,hn',fun j y v' e1 e2 e3=>?_⟩,fun y c e=>?_,I.free,I.freeC,fun p hp=>?_,tracked ⟨oL,hoL,I.free⟩ hs,by simpa using I.len⟩ ⟨_,hs,.inl rfl⟩
  ·exact (hs.2 b (Nat.ne_of_lt (Nat.lt_of_lt_of_le (Heap.lt_size e) I.ok.above))).trans (I.base.keep b o e n hb hx)
  ·obtain ⟨sl,e1⟩:=I.base.slot b o e n hb hx
   exact ⟨sl,(hs.2 b (Nat.ne_of_lt (Nat.lt_of_lt_of_le (Heap.lt_size e) I.ok.above))).trans e1⟩
  ·obtain ⟨o',e1⟩:=I.base.there b o e hx
   exact ⟨o',(hs.2 b (Nat.ne_of_lt (Nat.lt_of_lt_of_le (Heap.lt_size e) I.ok.above))).trans e1⟩
  ·by_cases hj:j=i
   ·subst hj
    rw [hi] at e1; cases e1
    rw [List.getElem?_set_self hiσ] at e2
    cases e2
    exact ⟨u,r,.inl ⟨hk,by simp⟩⟩
   ·rw [List.getElem?_set_ne (Ne.symm hj)] at e2
    obtain ⟨u',r',q⟩:=hl j y v' e1 e2 e3
    refine ⟨u',r',?_⟩
    rcases q with ⟨k,e⟩ | ⟨k,c,e,z⟩
    ·refine .inl ⟨k,?_⟩
     have:y≠x:=fun e=>hj (nodup_ix hN e1 (e ▸ hi))
     simp [this,e]
    ·exact .inr ⟨k,c,e,z.sameBut hs (cne y c e)⟩
  ·obtain ⟨w',z⟩:=I.cell y c e
   exact ⟨w',z.sameBut hs (cne y c e)⟩
  ·obtain ⟨e,n,ne,nf,d⟩:=I.pin p hp
   exact ⟨(hs.2 p.1 ne).trans e,n,ne,nf,d⟩
 ·have hfn:X.fn x=true:=by
   rcases hf with z | z
   ·exact z
   ·rw [z] at hk; cases hk
  obtain ⟨c,hc⟩:=I.ok.has x (.inl hk)
  obtain ⟨w',z⟩:=I.cell x c hc
  refine wpAny_storeName_cell I.ok.kind hk hc z (fun h' hc' hs=>?_)
  obtain ⟨oc,hoc,hocd⟩:=id z
  refine h { s with heap:=h' } ⟨I.ok,I.os,I.bare,⟨fun b o e n hb hx=>?_,fun b o e n hb hx=>?_,I.base.free,fun b o e hx=>?_,I.base.tups,I.base.frzs,I.base.tbls⟩,⟨m,hn.sameBut hs (Ne.symm (cne x c hc)),fun j y v' e1 e2 e3=>?_⟩,fun y c' e=>?_,I.free,I.freeC,fun p hp=>?_,tracked ⟨oc,hoc,I.freeC x c hc⟩ hs,by simpa using I.len⟩ ⟨c,hs,.inr hc⟩
  ·exact (hs.2 b (Nat.ne_of_lt (Nat.lt_of_lt_of_le (Heap.lt_size e) (I.ok.cab x c hfn hc)))).trans (I.base.keep b o e n hb hx)
  ·obtain ⟨sl,e1⟩:=I.base.slot b o e n hb hx
   exact ⟨sl,(hs.2 b (Nat.ne_of_lt (Nat.lt_of_lt_of_le (Heap.lt_size e) (I.ok.cab x c hfn hc)))).trans e1⟩
  ·obtain ⟨o',e1⟩:=I.base.there b o e hx
   exact ⟨o',(hs.2 b (Nat.ne_of_lt (Nat.lt_of_lt_of_le (Heap.lt_size e) (I.ok.cab x c hfn hc)))).trans e1⟩
  ·by_cases hj:j=i
   ·subst hj
    rw [hi] at e1; cases e1
    rw [List.getElem?_set_self hiσ] at e2
    cases e2
    exact ⟨u,r,.inr ⟨.inl hk,c,hc,hc'⟩⟩
   ·rw [List.getElem?_set_ne (Ne.symm hj)] at e2
    obtain ⟨u',r',q⟩:=hl j y v' e1 e2 e3
    refine ⟨u',r',?_⟩
    rcases q with q | ⟨k,c',e,z'⟩
    ·exact .inl q
    ·refine .inr ⟨k,c',e,z'.sameBut hs ?_⟩
     rintro rfl
     exact hj (nodup_ix hN e1 (I.ok.inj _ _ _ e hc ▸ hi))
  ·by_cases hcc:c'=c
   ·subst hcc; exact ⟨_,hc'⟩
   ·obtain ⟨w2,z2⟩:=I.cell y c' e
    exact ⟨w2,z2.sameBut hs hcc⟩
  ·obtain ⟨e,n,ne,nf,d⟩:=I.pin p hp
   refine ⟨(hs.2 p.1 ?_).trans e,n,ne,nf,d⟩
   intro q
   rw [q,hoc] at e
   have q':oc=p.2:=Option.some.inj e
   exact d w' (by rw [← q']; exact hocd)
theorem zat {M:Model}{A:Around}{E:Value→Shared→Prop}{i:Nat}{x:Str}{v:V}{u:Value}{Q:Unit→Shared→Prop}(I:Inv X pins σ H s)(hN:X.N.Nodup)(hi:X.N[i]? = some x)(hx:Loc X.env.scope x)(r:RelV v u)
  (h:∀s',Inv X pins (σ.set i (some v)) H s'→Q () s') (hf:X.fn x=true∨X.env.scope.names.lookup x=some .local:=by first | exact .inl rfl | exact .inr rfl | assumption):wpAny M A (storeName X.env x u) Q E s :=
 store_ok2 I hN hi hx r (fun s' I' _=>h s' I') hf
theorem Inv.call' {s':Shared}{ch:List Addr}(I:Inv X pins σ H s)(ho:s'.os=s.os)(u:Un (frs X.stack) ch H H' s.heap s'.heap)(hok:HOk X.prog X.w H' s'.heap)(hg:AllBare s'.gens)
  (hch:∀b∈ch,(b∈X.ex∨X.s₀.heap.objs.size≤b)∧b≠X.env.locals∧(∀x c,X.env.cells.lookup x=some c→c≠b)∧∀p∈X.pn++pins,p.1≠b):Inv X pins σ H' s':=by
 obtain ⟨h',g',d',t',o'⟩:=s'
 have e:o'=s.os:=ho
 subst e
 exact I.call (g':=g') (t':=t') (d':=d') u hok hg hch
end
noncomputable abbrev XK:=Value→Option Addr→Hp→Prop
noncomputable abbrev St:=List (Option V)
noncomputable abbrev VK:=V→Hp→Prop
noncomputable abbrev TE:=St→Hp→VK→Prop
noncomputable abbrev TT:=St→Hp→(Bool→Hp→Prop)→Prop
noncomputable abbrev TA:=St→Hp→(List V→Hp→Prop)→Prop
structure Ends where
 nx:St→Hp→Prop
 rt:VK
 bk:St→Hp→Prop:=fun _ _=>False
 ct:St→Hp→Prop:=fun _ _=>False
noncomputable abbrev TS:=Ends→St→Hp→Prop
inductive EP (X:Cx)(pins:List (Addr×Obj))(σ:St)(Q:VK)(u:Value)(s':Shared):Prop
 | mk (v:V) (H':Hp) (I:Inv X pins σ H' s') (r:RelV v u) (q:Q v H')
inductive TP (X:Cx)(pins:List (Addr×Obj))(σ:St)(Q:Bool→Hp→Prop)(b:Bool)(s':Shared):Prop
 | mk (H':Hp) (I:Inv X pins σ H' s') (q:Q b H')
inductive AP (X:Cx)(pins:List (Addr×Obj))(σ:St)(Q:List V→Hp→Prop)(us:List Value)(s':Shared):Prop
 | mk (vs:List V) (H':Hp) (I:Inv X pins σ H' s') (r:Vals vs us) (q:Q vs H')
inductive SN (X:Cx)(pins:List (Addr×Obj))(Q:St→Hp→Prop)(s':Shared):Prop
 | mk (a:St) (b:Hp) (I:Inv X pins a b s') (q:Q a b)
inductive SR (X:Cx)(pins:List (Addr×Obj))(Q:VK)(u:Value)(s':Shared):Prop
 | mk (v:V) (a:St) (b:Hp) (I:Inv X pins a b s') (r:RelV v u) (q:Q v b)
noncomputable def SP (X:Cx)(pins:List (Addr×Obj))(D:Ends)(f:Flow)(s':Shared):Prop :=
 match f with
 | .next=>SN X pins D.nx s'
 | .brk=>SN X pins D.bk s'
 | .cont=>SN X pins D.ct s'
 | .ret u=>SR X pins D.rt u s'
noncomputable def PE (X:Cx)(e:Expr)(t:TE):Prop :=
 ∀(pins:List (Addr×Obj)) (s:Shared) (σ:St) (H:Hp) (Q:VK),Inv X pins σ H s→t σ H Q→wpAny (model X.prog X.w) X.A (eval e X.env) (EP X pins σ Q) X.xe s
noncomputable def PT (X:Cx)(e:Expr)(t:TT):Prop :=
 ∀(pins:List (Addr×Obj)) (s:Shared) (σ:St) (H:Hp) (Q:Bool→Hp→Prop),Inv X pins σ H s→t σ H Q→wpAny (model X.prog X.w) X.A (isTrue e X.env (eval e X.env)) (TP X pins σ Q) X.xe s
noncomputable def PW (X:Cx)(e:Expr)(t:TT):Prop :=
 ∀(whole:Sem Value) (pins:List (Addr×Obj)) (s:Shared) (σ:St) (H:Hp) (Q:Bool→Hp→Prop),Inv X pins σ H s→t σ H Q→wpAny (model X.prog X.w) X.A (isTrue e X.env whole) (TP X pins σ Q) X.xe s
theorem PW.pt {X:Cx}{e:Expr}{t:TT}(h:PW X e t):PT X e t:=h _
noncomputable def PA (X:Cx)(es:List Expr)(t:TA):Prop :=
 ∀(pos:Pos) (pins:List (Addr×Obj)) (s:Shared) (σ:St) (H:Hp) (Q:List V→Hp→Prop),Inv X pins σ H s→t σ H Q→wpAny (model X.prog X.w) X.A (spliced (backTo pos (starEach es X.env))) (AP X pins σ Q) X.xe s
noncomputable def PS (X:Cx)(st:Stmt)(t:TS):Prop :=
 ∀(pins:List (Addr×Obj)) (s:Shared) (σ:St) (H:Hp) (D:Ends),Inv X pins σ H s→t D σ H→wpAny (model X.prog X.w) X.A (exec st X.env) (SP X pins D) X.xe s
noncomputable def PSs (X:Cx)(st:List Stmt)(t:TS):Prop :=
 ∀(pins:List (Addr×Obj)) (s:Shared) (σ:St) (H:Hp) (D:Ends),Inv X pins σ H s→t D σ H→wpAny (model X.prog X.w) X.A (execs st X.env) (SP X pins D) X.xe s
theorem thn {α:Type}{t:Sem α}{Q Q':α→Shared→Prop}{M:Model}{A:Around}{E:Value→Shared→Prop}{s:Shared}(h:wpAny M A t Q E s)(hQ:∀a s,Q a s→Q' a s):wpAny M A t Q' E s:=wpAny_mono h hQ fun _ _ x=>x
end L2
namespace L2
open PySem PySem.Spec PyProof.Rows
section
variable {X:Cx}
noncomputable def tVar (i:Nat):TE:=fun σ H Q=>∃v,σ[i]? = some (some v)∧Q v H
noncomputable def tC (v:V):TE:=fun _ H Q=>Q v H
theorem pe_var {i:Nat}{x:Str}{pos:Pos}(hN:X.N[i]? = some x)(hv:Vis X.env.scope x)(hd:(x == ("__debug__" : Str))=false:=by decide)(hcd:(x == ("__classdict__" : Str))=false:=by decide):PE X (.Name x pos) (tVar i):=by
 intro pins s σ H Q I h
 obtain ⟨v,e,h⟩:=h
 obtain ⟨m,hn,hl⟩:=I.loc
 obtain ⟨u,r,l⟩:=hl i x v hN e hv
 have fin:EP X pins σ Q u s:=⟨v,H,I,r,h⟩
 rcases l with ⟨hk,hm⟩ | ⟨hk,c,hc,hcell⟩
 ·exact wpAny_Name (wpAny_loadName_local I.ok.kind hk hn hm fin) hd
 ·rcases hk with hk | hk
  ·exact wpAny_Name (wpAny_loadName_cell I.ok.kind hk hc hcell fin) hd
  ·exact wpAny_Name (wpAny_loadName_free I.ok.kind hk hc hcell fin hcd) hd
theorem pe_int {i j pos}:PE X (.Constant (.int i) j pos) (tC (.int i)):=fun _ _ _ H _ I h=>wpAny_Constant_int ⟨.int i,H,I.tok _,⟨_,rfl⟩,h⟩
theorem pe_bl {b j pos}:PE X (.Constant (.bool b) j pos) (tC (.bl b)):=fun _ _ _ H _ I h=>Constant_bool ⟨.bl b,H,I,rfl,h⟩
theorem pe_non {j pos}:PE X (.Constant .none j pos) (tC .non):=fun _ _ _ H _ I h=>Constant_none ⟨.non,H,I,rfl,h⟩
theorem pe_str {x j pos}:PE X (.Constant (.str x) j pos) (tC (.str x)):=fun _ _ _ H _ I h=>Calls.Constant_str ⟨.str x,H,I.tok _,⟨_,rfl⟩,h⟩
noncomputable def Gl (X:Cx)(x:Str):Prop:=X.env.kindOf x=some .globalImplicit
theorem jJ {E:Value→Shared→Prop}{pins:List (Addr×Obj)}{s:Shared}{σ:St}{H:Hp}{x:Str}{u:Value}{pos:Pos}{Q:Value→Shared→Prop}(I:Inv X pins σ H s)(hg:Gl X x)(hm:X.mg x=some u)(h:Q u s)
  (hd:(x == ("__debug__" : Str))=false:=by decide):wpAny (model X.prog X.w) X.A (eval (.Name x pos) X.env) Q E s :=
 Calls.Name_function_global I.ok.kind hg (Calls.loadGlobal_global (by rw [I.ok.glob]; exact I.mod.glob.keeps I.bk) hm h) hd
theorem ju {E:Value→Shared→Prop}{pins:List (Addr×Obj)}{s:Shared}{σ:St}{H:Hp}{x:Str}{u:Value}{pos:Pos}{Q:Value→Shared→Prop}(I:Inv X pins σ H s)(hg:Gl X x)(hm:X.mg x=none)(hv:bootBuiltins x=some u)(h:Q u s)
  (hn:x ≠ "__name__" := by decide) (hd:(x == ("__debug__" : Str))=false:=by decide):wpAny (model X.prog X.w) X.A (eval (.Name x pos) X.env) Q E s:=by
 obtain ⟨mb,h1,h2⟩:=I.mod.blt
 exact Calls.Name_function_global I.ok.kind hg (Calls.loadGlobal_builtin (by rw [I.ok.glob]; exact I.mod.glob.keeps I.bk) hm (by rw [I.ok.blt]; exact h1.keeps I.bk) ((h2 x hn).trans hv) h) hd
theorem wG {x:Str}{v:V}{u:Value}{pos:Pos}(hg:Gl X x)(hm:X.mg x=some u)(r:RelV v u)(hd:(x == ("__debug__" : Str))=false:=by decide):PE X (.Name x pos) (tC v) :=
 fun _ _ _ H _ I h=>jJ I hg hm ⟨v,H,I,r,h⟩ hd
theorem jU {x:Str}{v:V}{u:Value}{pos:Pos}(hg:Gl X x)(hm:X.mg x=none)(hv:bootBuiltins x=some u)(r:RelV v u)(hn:x ≠ "__name__" := by decide)(hd:(x == ("__debug__" : Str))=false:=by decide):PE X (.Name x pos) (tC v) :=
 fun _ _ _ H _ I h=>ju I hg hm hv ⟨v,H,I,r,h⟩ hn hd
variable {a b:Expr}{ta tb:TE}{pos:Pos}
noncomputable def PC (X:Cx)(op:CmpOp)(a b:Expr)(t:TE):Prop :=
 ∀ (pins:List (Addr×Obj)) (s:Shared) (σ:St) (H:Hp) (Q:VK),Inv X pins σ H s→t σ H Q →
  wpAny (model X.prog X.w) X.A (eval a X.env) (fun v s₁=>wpAny (model X.prog X.w) X.A (eval b X.env) (fun u s₂=>wpAny (model X.prog X.w) X.A (compareOp op v u) (EP X pins σ Q) X.xe s₂) X.xe s₁) X.xe s
theorem nobehind (b:Expr){op:CmpOp}(h:op≠.In)(h2:op≠.NotIn):behindInMarks op b=false:=by
 have e1:(op == CmpOp.In)=false:=by cases op <;> first | rfl | exact absurd rfl h
 have e2:(op == CmpOp.NotIn)=false:=by cases op <;> first | rfl | exact absurd rfl h2
 cases b <;> simp [behindInMarks,e1,e2]
noncomputable def tIsN (ta:TE):TE:=fun σ H Q=>ta σ H fun x H1=>Q (.bl (decide (x=.non))) H1
noncomputable def tNotN (ta:TE):TE:=fun σ H Q=>ta σ H fun x H1=>Q (.bl (!decide (x=.non))) H1
theorem RelV.none_iff {x:V}{v:Value}(r:RelV x v):(v == Value.none)=decide (x=.non):=by
 cases x with
 | non=>cases r; rfl
 | bl _=>cases r; rfl
 | int _=>obtain ⟨t,rfl⟩:=r; rfl
 | str _=>obtain ⟨t,rfl⟩:=r; rfl
 | byt _=>obtain ⟨t,rfl⟩:=r; rfl
 | flt _=>obtain ⟨t,rfl⟩:=r; rfl
 | ref _=>cases r; rfl
 | ty _=>cases r; rfl
theorem pc_isN {j pos'}(ha:PE X a ta):PC X .Is a (.Constant .none j pos') (tIsN ta):=by
 intro pins s σ H Q I h
 refine thn (ha pins s σ H _ I h) fun v s1 hq0=>?_
 obtain ⟨x,H1,I1,r1,q1⟩:=hq0
 exact Constant_none (is_none_gen ⟨.bl _,H1,I1,by rw [r1.none_iff]; rfl,q1⟩)
theorem pc_notN {j pos'}(ha:PE X a ta):PC X .IsNot a (.Constant .none j pos') (tNotN ta):=by
 intro pins s σ H Q I h
 refine thn (ha pins s σ H _ I h) fun v s1 hq1=>?_
 obtain ⟨x,H1,I1,r1,q1⟩:=hq1
 exact Constant_none (isnot_none_gen ⟨.bl _,H1,I1,by rw [r1.none_iff]; rfl,q1⟩)
noncomputable def tB (t:TE):TT:=fun σ H Q=>t σ H fun x H1=>∃c,x=.bl c∧Q c H1
theorem pe_cmp {op:CmpOp}{t:TE}(h:PC X op a b t)(h1:behindInMarks op b=false:=by first | exact nobehind _ (by decide) (by decide) | rfl):PE X (.Compare a [op] [b] pos) t:=fun pins s σ H Q I hw=>wpAny_Compare1 (h pins s σ H Q I hw) h1
theorem pt_cmp {op:CmpOp}{t:TE}(h:PC X op a b t)(h1:behindInMarks op b=false:=by first | exact nobehind _ (by decide) (by decide) | rfl):PT X (.Compare a [op] [b] pos) (tB t):=by
 intro pins s σ H Q I hw
 refine wpAny_isTrue_Compare1 (thn (h pins s σ H _ I hw) fun v s1 h1=>thn h1 fun u s2 h2=>thn h2 fun c s3 ⟨x,H1,I1,r1,q1⟩=>?_) h1
 obtain ⟨d,rfl,q⟩:=q1
 cases r1
 exact wpAny_truthy_bool ⟨H1,I1,q⟩
theorem pt_val {e:Expr}{t:TE}(h:PE X e t)(he:∀whole,isTrue e X.env whole=(do let v ← whole; standAt e.pos; holding [v] (truthy v)):=by intro _; rfl):PT X e (tB t):=by
 intro pins s σ H Q I hw
 refine isTrue_plain (thn (h pins s σ H _ I hw) fun v s1 hq2=>?_) (he _)
 obtain ⟨x,H1,I1,r1,q1⟩:=hq2
 obtain ⟨d,rfl,q⟩:=q1
 cases r1
 exact wpAny_truthy_bool ⟨H1,I1,q⟩
variable {tA tB':TT}{rest:List Expr}
noncomputable def tOr (t u:TT):TT:=fun σ H Q=>t σ H fun c H1=>if c=true then Q true H1 else u σ H1 Q
noncomputable def tNot (t:TT):TT:=fun σ H Q=>t σ H fun c H1=>Q (!c) H1
theorem pw_or1 (ha:PT X a tA):PW X (.BoolOp .Or [a] pos) tA:=by
 intro wh pins s σ H Q I h
 refine isTrue_or (thn (ha pins s σ H Q I h) fun c s1 e=>?_)
 cases c with
 | false=>exact isTrue_or_nil e
 | true=>exact e
theorem pw_or (ha:PT X a tA)(hb:PW X (.BoolOp .Or (b::rest) pos) tB'):PW X (.BoolOp .Or (a::b::rest) pos) (tOr tA tB'):=by
 intro wh pins s σ H Q I h
 refine isTrue_or (thn (ha pins s σ H _ I h) fun c s1 hq3=>?_)
 obtain ⟨H1,I1,q1⟩:=hq3
 cases c with
 | true=>exact ⟨H1,I1,q1⟩
 | false=>exact hb wh pins s1 σ H1 Q I1 q1
theorem pt_not (ha:PT X a tA):PT X (.UnaryOp .Not a pos) (tNot tA):=by
 intro pins s σ H Q I h
 exact isTrue_not (thn (ha pins s σ H (fun c H1=>Q (!c) H1) I h) fun _ _ ⟨b,I,q⟩=>⟨b,I,q⟩)
noncomputable def tAndV (ta tb:TE):TE:=fun σ H Q=>ta σ H fun x H1=>∃c,x=.bl c∧if c=true then tb σ H1 Q else Q (.bl false) H1
noncomputable def tOrV (ta tb:TE):TE:=fun σ H Q=>ta σ H fun x H1=>∃c,x=.bl c∧if c=true then Q (.bl true) H1 else tb σ H1 Q
noncomputable def tNotV (ta:TE):TE:=fun σ H Q=>ta σ H fun x H1=>∃c,x=.bl c∧Q (.bl (!c)) H1
theorem pe_one {op}{t:TE}(h:PE X a t):PE X (.BoolOp op [a] pos) t:=fun pins s σ H Q I hw=>BoolOp_one (h pins s σ H Q I hw)
theorem pe_and (ha:PE X a ta)(hb:PE X (.BoolOp .And (b::rest) pos) tb):PE X (.BoolOp .And (a::b::rest) pos) (tAndV ta tb):=by
 intro pins s σ H Q I h
 refine BoolOp_and (thn (ha pins s σ H _ I h) fun v s1 hq4=>?_)
 obtain ⟨x,H1,I1,r1,q1⟩:=hq4
 obtain ⟨c,rfl,q1⟩:=q1
 cases r1
 refine wpAny_truthy_bool ?_
 cases c with
 | true=>exact hb pins s1 σ H1 Q I1 q1
 | false=>exact ⟨.bl false,H1,I1,rfl,q1⟩
theorem pe_or (ha:PE X a ta)(hb:PE X (.BoolOp .Or (b::rest) pos) tb):PE X (.BoolOp .Or (a::b::rest) pos) (tOrV ta tb):=by
 intro pins s σ H Q I h
 refine BoolOp_or (thn (ha pins s σ H _ I h) fun v s1 hq5=>?_)
 obtain ⟨x,H1,I1,r1,q1⟩:=hq5
 obtain ⟨c,rfl,q1⟩:=q1
 cases r1
 refine wpAny_truthy_bool ?_
 cases c with
 | false=>exact hb pins s1 σ H1 Q I1 q1
 | true=>exact ⟨.bl true,H1,I1,rfl,q1⟩
theorem pe_not (ha:PE X a ta):PE X (.UnaryOp .Not a pos) (tNotV ta):=by
 intro pins s σ H Q I h
 refine UnaryOp_ (thn (ha pins s σ H _ I h) fun v s1 hq6=>?_)
 obtain ⟨x,H1,I1,r1,q1⟩:=hq6
 obtain ⟨c,rfl,q1⟩:=q1
 cases r1
 exact not_of (wpAny_truthy_bool ⟨.bl (!c),H1,I1,rfl,q1⟩)
end
end L2
namespace L2
open PySem PySem.Spec PyProof.Rows
noncomputable def SqL (K:PySem.W.Frag)(H:Hp)(a:Addr)(xs:List V):Prop :=
 Rd H a (.lst xs) ∨
  ∃(o:Obj) (its:Array Value) (n:Nat),K.lookup a=some o∧o.cls=.type "list" ∧ o.dict=none∧o.data=.seq its n∧its.size≤sizeLine∧Vals xs its.toList
noncomputable def SqT (K:PySem.W.Frag)(H:Hp)(a:Addr)(xs:List V):Prop :=
 Rd H a (.tup xs) ∨
  ∃(o:Obj) (its:Array Value) (n:Nat),K.lookup a=some o∧o.cls=.type "tuple" ∧ o.dict=none∧o.data=.seq its n∧its.size≤sizeLine∧Vals xs its.toList
noncomputable def absV:Value→Option V
 | .none=>some .non
 | .bool b=>some (.bl b)
 | .int i _=>some (.int i)
 | .str x _=>some (.str x)
 | .bytes b _=>some (.byt b)
 | .float b _=>some (.flt b)
 | .ref a=>some (.ref a)
 | .type n=>some (.ty n)
 | _=>none
theorem RelV.abs {x:V}{u:Value}(r:RelV x u):absV u=some x:=by
 cases x with
 | non=>cases r; rfl
 | bl _=>cases r; rfl
 | int _=>obtain ⟨t,rfl⟩:=r; rfl
 | str _=>obtain ⟨t,rfl⟩:=r; rfl
 | byt _=>obtain ⟨t,rfl⟩:=r; rfl
 | flt _=>obtain ⟨t,rfl⟩:=r; rfl
 | ref _=>cases r; rfl
 | ty _=>cases r; rfl
theorem RelV.inj {x y:V}{u:Value}(r:RelV x u)(q:RelV y u):x=y:=Option.some.inj (r.abs.symm.trans q.abs)
theorem Vals.inj:∀{xs ys:List V}{us:List Value},Vals xs us→Vals ys us→xs=ys:=by
 intro xs ys us h k
 induction h generalizing ys with
 | nil=>cases k; rfl
 | cons r t ih=>cases k with | cons r' t'=>rw [r.inj r',ih t']
section
variable {X:Cx}{pins:List (Addr×Obj)}{σ:St}{H:Hp}{s:Shared}{a:Addr}{xs ys:List V}
theorem SqT.of {K:PySem.W.Frag}(h:H a=some (.tup xs)):SqT K H a xs:=.inl (.inl h)
theorem Inv.list (I:Inv X pins σ H s)(h:SqL X.K H a xs):∃its:List Value,Vals xs its∧PlainL s.heap a its.toArray∧xs.length≤sizeLine:=by
 rcases h with h | ⟨o,its,n,hk,hc,hd,hs,hz,r⟩
 ·obtain ⟨z,its,n,r,e⟩:=h.ok I.hok
  exact ⟨its,r,⟨_,n,e,rfl,rfl,rfl⟩,z⟩
 ·refine ⟨its.toList,r,⟨o,n,I.kIn a o hk,hc,hd,by simpa using hs⟩,?_⟩
  have e:=r.length
  simp only [Array.length_toList] at e
  omega
theorem Inv.tuple (I:Inv X pins σ H s)(h:SqT X.K H a xs):∃its:List Value,Vals xs its∧IsTup s.heap a its.toArray∧xs.length≤sizeLine:=by
 rcases h with h | ⟨o,its,n,hk,hc,_,hs,hz,r⟩
 ·obtain ⟨z,its,r,p⟩:=h.ok I.hok
  exact ⟨its,r,p.tup,z⟩
 ·refine ⟨its.toList,r,⟨o,I.kIn a o hk,hc,n,by simpa using hs⟩,?_⟩
  have e:=r.length
  simp only [Array.length_toList] at e
  omega
theorem Inv.noDict (I:Inv X pins σ H s)(h:SqT X.K H a xs):∃o,s.heap.get? a=some o∧o.cls=.type "tuple" ∧ o.dict=none:=by
 rcases h with h | ⟨o,its,n,hk,hc,hd,hs,hz,r⟩
 ·obtain ⟨z,its,r,o,e,c,_,d⟩:=h.ok I.hok
  exact ⟨o,e,c,d⟩
 ·exact ⟨o,I.kIn a o hk,hc,hd⟩
theorem Inv.list_inj (I:Inv X pins σ H s)(h:SqL X.K H a xs)(h':SqL X.K H a ys):xs=ys:=by
 obtain ⟨its,r,⟨o,n,e,_,_,d⟩,_⟩:=I.list h
 obtain ⟨its',r',⟨o',n',e',_,_,d'⟩,_⟩:=I.list h'
 rw [e] at e'; cases e'
 rw [d] at d'
 injection d' with d1 _
 have:its=its':=by simpa using congrArg Array.toList d1
 subst this
 exact r.inj r'
theorem Inv.tuple_inj (I:Inv X pins σ H s)(h:SqT X.K H a xs)(h':SqT X.K H a ys):xs=ys:=by
 obtain ⟨its,r,⟨o,e,_,n,d⟩,_⟩:=I.tuple h
 obtain ⟨its',r',⟨o',e',_,n',d'⟩,_⟩:=I.tuple h'
 rw [e] at e'; cases e'
 rw [d] at d'
 injection d' with d1 _
 have:its=its':=by simpa using congrArg Array.toList d1
 subst this
 exact r.inj r'
end
noncomputable abbrev Cx.wish (X:Cx)(E:Value→Shared→Prop):Cx:={ X with xe:=E }
noncomputable abbrev Cx.nox (X:Cx):Cx:=X.wish fun _ _=>False
theorem Cx.Ok.wish {X:Cx}(ok:X.Ok)(E:Value→Shared→Prop):(X.wish E).Ok :=
 ⟨ok.mod,ok.kind,ok.glob,ok.blt,ok.above,ok.inj,ok.has,ok.cab,ok.hd,ok.frames,ok.stk,ok.exf,ok.bs,ok.bsz,ok.noex,ok.exfs,ok.funs,ok.frf⟩
theorem Cx.Ok.unwish {X:Cx}{E:Value→Shared→Prop}(ok:(X.wish E).Ok):X.Ok :=
 ⟨ok.mod,ok.kind,ok.glob,ok.blt,ok.above,ok.inj,ok.has,ok.cab,ok.hd,ok.frames,ok.stk,ok.exf,ok.bs,ok.bsz,ok.noex,ok.exfs,ok.funs,ok.frf⟩
section
variable {X:Cx}{pins:List (Addr×Obj)}{σ:St}{H:Hp}{s:Shared}{E:Value→Shared→Prop}
theorem Inv.wish (I:Inv X pins σ H s)(E:Value→Shared→Prop):Inv (X.wish E) pins σ H s:=⟨I.ok.wish E,I.os,I.bare,I.base,I.loc,I.cell,I.free,I.freeC,I.pin,I.hok,I.len⟩
theorem Inv.unwish (I:Inv (X.wish E) pins σ H s):Inv X pins σ H s:=⟨I.ok.unwish,I.os,I.bare,I.base,I.loc,I.cell,I.free,I.freeC,I.pin,I.hok,I.len⟩
theorem SP.unwish {D:Ends}{f:Flow}{s':Shared}(h:SP (X.wish E) pins D f s'):SP X pins D f s':=by
 cases f with
 | next=>obtain ⟨σ',H',I,q⟩:=h; exact ⟨σ',H',I.unwish,q⟩
 | brk=>obtain ⟨σ',H',I,q⟩:=h; exact ⟨σ',H',I.unwish,q⟩
 | cont=>obtain ⟨σ',H',I,q⟩:=h; exact ⟨σ',H',I.unwish,q⟩
 | ret u=>obtain ⟨v,σ',H',I,r,q⟩:=h; exact ⟨v,σ',H',I.unwish,r,q⟩
theorem PE.nox {e:Expr}{t:TE}(h:PE X.nox e t):PE X e t:=fun pins s σ H Q I hw =>
 wpAny_mono (h pins s σ H Q (I.wish _) hw) (fun _ _ ⟨v,H',I',r,q⟩=>⟨v,H',I'.unwish,r,q⟩) fun _ _ z=>False.elim z
theorem PT.nox {e:Expr}{t:TT}(h:PT X.nox e t):PT X e t:=fun pins s σ H Q I hw =>
 wpAny_mono (h pins s σ H Q (I.wish _) hw) (fun _ _ ⟨H',I',q⟩=>⟨H',I'.unwish,q⟩) fun _ _ z=>False.elim z
theorem PSs.nox {st:List Stmt}{t:TS}(h:PSs X.nox st t):PSs X st t:=fun pins s σ H D I hw =>
 wpAny_mono (h pins s σ H D (I.wish _) hw) (fun _ _ q=>q.unwish) fun _ _ z=>False.elim z
end
section
variable {X:Cx}{st:Stmt}{rest:List Stmt}{t u:TS}{e:Expr}{te:TE}{pos:Pos}
noncomputable def tNext:TS:=fun D σ H=>D.nx σ H
noncomputable def tSeq (t u:TS):TS:=fun D σ H=>t { D with nx:=u D } σ H
theorem pss_nil:PSs X [] tNext:=fun _ _ σ H _ I h=>wpAny_execs_nil ⟨σ,H,I,h⟩
theorem pss_cons (h1:PS X st t)(h2:PSs X rest u):PSs X (st::rest) (tSeq t u):=by
 intro pins s σ H D I h
 refine wpAny_execs_cons (thn (h1 pins s σ H { D with nx:=u D } I h) fun f s1 q=>?_)
 cases f with
 | next =>
  obtain ⟨σ',H',I',q⟩:=q
  exact h2 pins s1 σ' H' D I' q
 | ret v=>exact q
 | brk=>exact q
 | cont=>exact q
theorem pss_one (h1:PS X st t):PSs X [st] t:=by
 intro pins s σ H D I h
 refine wpAny_execs_cons (thn (h1 pins s σ H D I h) fun f s1 q=>?_)
 cases f with
 | next=>exact wpAny_execs_nil q
 | ret v=>exact q
 | brk=>exact q
 | cont=>exact q
theorem Inv.quiet {pins:List (Addr×Obj)}{σ:St}{H:Hp}{s:Shared}(I:Inv X pins σ H s):interactive X.env=false:=by simp [interactive,I.ok.kind]
noncomputable def tDrop (te:TE):TS:=fun D σ H=>te σ H fun _ H1=>D.nx σ H1
theorem ps_expr (he:PE X e te)(hs:swapsWith e none pos.line X.env=pure false:=by rfl):PS X (.Expr e pos) (tDrop te):=by
 intro pins s σ H D I h
 exact wpAny_Expr_any (thn (he pins s σ H _ I h) fun v s1 ⟨x,H1,I1,r1,q1⟩=>⟨σ,H1,I1,q1⟩) I.quiet hs
noncomputable def tRet (te:TE):TS:=fun D σ H=>te σ H D.rt
theorem ps_ret (he:PE X e te):PS X (.Return (some e) pos) (tRet te):=by
 intro pins s σ H D I h
 exact wpAny_Return_some (thn (he pins s σ H _ I h) fun v s1 ⟨x,H1,I1,r1,q1⟩=>⟨x,σ,H1,I1,r1,q1⟩)
noncomputable def tIfS (c:TT)(t u:TS):TS:=fun D σ H=>c σ H fun b H1=>if b=true then t D σ H1 else u D σ H1
theorem ps_if {c:Expr}{a b:List Stmt}{tc:TT}(hc:PT X c tc)(ha:PSs X a t)(hb:PSs X b u):PS X (.If c a b pos) (tIfS tc t u):=by
 intro pins s σ H D I h
 refine wpAny_If (thn (hc pins s σ H _ I h) fun d s1 hq7=>?_)
 obtain ⟨H1,I1,q1⟩:=hq7
 cases d with
 | true=>exact ha pins s1 σ H1 D I1 q1
 | false=>exact hb pins s1 σ H1 D I1 q1
end
noncomputable abbrev TG:=V→St→Hp→(St→Hp→Prop)→Prop
noncomputable abbrev TGs:=List V→St→Hp→(St→Hp→Prop)→Prop
noncomputable def PG (X:Cx)(target:Expr)(t:TG):Prop :=
 ∀ (pins:List (Addr×Obj)) (s:Shared) (σ:St) (H:Hp) (v:V) (u:Value) (Q:St→Hp→Prop),Inv X pins σ H s→RelV v u→t v σ H Q →
  wpAny (model X.prog X.w) X.A (assign target X.env u) (fun _ s'=>∃σ' H',Inv X pins σ' H' s'∧Q σ' H') X.xe s
noncomputable def PGs (X:Cx)(ts:List Expr)(t:TGs):Prop :=
 ∀ (pins:List (Addr×Obj)) (s:Shared) (σ:St) (H:Hp) (vs:List V) (us:List Value) (Q:St→Hp→Prop),Inv X pins σ H s→Vals vs us→t vs σ H Q →
  wpAny (model X.prog X.w) X.A (assignInOrder ((assignEach ts X.env).map (·.2)) us) (fun _ s'=>∃σ' H',Inv X pins σ' H' s'∧Q σ' H') X.xe s
section
variable {X:Cx}{pos:Pos}
noncomputable def uP (i:Nat):TG:=fun v σ H Q=>Q (σ.set i (some v)) H
theorem zX {i:Nat}{x:Str}(hN:X.N.Nodup)(hi:X.N[i]? = some x)(hx:Loc X.env.scope x)(hf:X.fn x=true∨X.env.scope.names.lookup x=some .local:=by first | exact .inl rfl | exact .inr rfl | assumption):PG X (.Name x pos) (uP i):=by
 intro pins s σ H v u Q I r h
 exact wpAny_assign_Name (zat I hN hi hx r (fun s' I'=>⟨_,H,I',h⟩) hf)
noncomputable def gNil:TGs:=fun vs σ H Q=>vs=[]∧Q σ H
noncomputable def jL (t:TG)(u:TGs):TGs:=fun vs σ H Q=>∃v r,vs=v::r∧t v σ H fun σ' H'=>u r σ' H' Q
theorem pgs_nil:PGs X [] gNil:=by
 intro pins s σ H vs us Q I r h
 obtain ⟨e,h⟩:=h
 subst e
 cases r
 exact assignInOrder_nil ⟨σ,H,I,h⟩
theorem pgs_cons {e:Expr}{es:List Expr}{t:TG}{u:TGs}(h1:PG X e t)(h2:PGs X es u)
  (hs:(assignEach (e::es) X.env).map (·.2)=assign e X.env::(assignEach es X.env).map (·.2):=by rfl):PGs X (e::es) (jL t u):=by
 intro pins s σ H vs us Q I r h
 obtain ⟨v,vr,e1,h⟩:=h
 subst e1
 cases r with
 | cons r rr =>
  rw [hs]
  refine assignInOrder_cons (thn (h1 pins s σ H _ _ _ I r h) fun _ s1 hq8=>?_)
  obtain ⟨σ1,H1,I1,q1⟩:=hq8
  exact h2 pins s1 σ1 H1 _ _ Q I1 rr q1
noncomputable def gTup (K:PySem.W.Frag)(n:Nat)(t:TGs):TG:=fun v σ H Q=>∃a xs,v=.ref a∧SqT K H a xs∧xs.length=n∧t xs σ H Q
theorem pg_tup {es:List Expr}{k:Nat}{t:TGs}{n:Nat}(hc:X.calm=true)(h:PGs X es t)
  (hn:(assignEach es X.env).length=n:=by rfl) (hst:(assignEach es X.env).findIdx? (·.1)=none:=by rfl):PG X (.Tuple es k pos) (gTup X.K n t):=by
 intro pins s σ H v u Q I r hw
 obtain ⟨a,xs,e1,hq,hl,hw⟩:=hw
 subst e1
 cases r
 obtain ⟨its,rv,ht,hz⟩:=I.tuple hq
 refine assign_Tuple_tuple (I.ok.hd hc) ht (by simp [hn,← hl,rv.length]) hst fun h' hx=>?_
 have I1:Inv X pins σ H { s with heap:=h' }:=I.kept (t':=s.toks) fun b o e=>hx b o (Nat.ne_of_lt (Heap.lt_size e)) e
 exact h pins _ σ H xs _ Q I1 (by simpa using rv) hw
noncomputable def tAsg (te:TE)(g:TG):TS:=fun D σ H=>te σ H fun x H1=>g x σ H1 D.nx
theorem ps_asg {tg e:Expr}{te:TE}{g:TG}(he:PE X e te)(hg:PG X tg g)(hs:swapsWithSole [tg] e pos.line X.env=pure false:=by rfl)(hw:swappedStores [tg] e X.env=pure none:=by rfl)
  (h1:(assignEach [tg] X.env).map (·.2)=[assign tg X.env]:=by rfl):PS X (.Assign [tg] e pos) (tAsg te g):=by
 intro pins s σ H D I h
 refine wpAny_Assign_stores (thn (he pins s σ H _ I h) fun v s1 ⟨x,H1,I1,r1,q1⟩=>?_) hs hw
 rw [h1]
 exact thn (hg pins s1 σ H1 x v _ I1 r1 q1) fun _ s2 ⟨a,b,I,q⟩=>⟨a,b,I,q⟩
theorem ps_set {i:Nat}{x:Str}{e:Expr}{te:TE}{pos':Pos}(hN:X.N.Nodup)(hi:X.N[i]? = some x)(hx:Loc X.env.scope x)(he:PE X e te)(hs:swapsWith e (some (.Name x pos')) pos.line X.env=pure false:=by rfl)(hf:X.fn x=true∨X.env.scope.names.lookup x=some .local:=by first | exact .inl rfl | exact .inr rfl | assumption) :
  PS X (.Assign [.Name x pos'] e pos) (tAsg te (uP i)):=by
 intro pins s σ H D I h
 refine wpAny_Assign_Name (thn (he pins s σ H _ I h) fun v s1 ⟨y,H1,I1,r1,q1⟩=>?_) hs
 exact zat I1 hN hi hx r1 (fun s2 I2=>⟨_,H1,I2,q1⟩) hf
end
section
variable {X:Cx}{pos:Pos}
noncomputable def tWhile (c:TT)(tb:TS):TS:=fun D σ H=>∃W:Nat→St→Hp→Prop,(∃m,W m σ H)∧∀m σ H,W m σ H →
 c σ H fun b H1=>if b=true then ∃N:St→Hp→Prop,(∀σ' H',N σ' H'→∃m',m' < m∧W m' σ' H')∧tb { D with nx:=N,ct:=N,bk:=D.nx } σ H1 else D.nx σ H1
theorem ps_while {c:Expr}{body:List Stmt}{tc:TT}{tb:TS}(hp:PassesOwn (model X.prog X.w) X.A X.env X.xe)(hc:PT X c tc)(hb:PSs X body tb):PS X (.While c body [] pos) (tWhile tc tb):=by
 intro pins s σ H D I h
 obtain ⟨W,⟨m0,w0⟩,turn⟩:=h
 refine wpAny_While (codeAny_whileLoop (fun n s'=>∃σ' H',Inv X pins σ' H' s'∧W n σ' H') ?_ m0 ⟨σ,H,I,w0⟩)
 rintro n s1 ⟨σ1,H1,I1,w1⟩
 refine wpAny_passesOwn hp (thn (hc pins s1 σ1 H1 _ I1 (turn n σ1 H1 w1)) fun b s2 hq9=>?_)
 obtain ⟨H2,I2,q2⟩:=hq9
 cases b with
 | true =>
  obtain ⟨N,hN,q2⟩:=q2
  rw [if_pos rfl]
  refine wpAny_passesOwn hp (thn (hb pins s2 σ1 H2 _ I2 q2) fun f s3 q3=>?_)
  cases f with
  | next =>
   obtain ⟨σ3,H3,I3,n3⟩:=q3
   obtain ⟨m',hm,w3⟩:=hN σ3 H3 n3
   exact ⟨m',hm,σ3,H3,I3,w3⟩
  | cont =>
   obtain ⟨σ3,H3,I3,n3⟩:=q3
   obtain ⟨m',hm,w3⟩:=hN σ3 H3 n3
   exact ⟨m',hm,σ3,H3,I3,w3⟩
  | brk=>exact q3
  | ret v=>exact q3
 | false =>
  rw [if_neg Bool.false_ne_true]
  exact wpAny_execs_nil ⟨σ1,H2,I2,q2⟩
end
structure It where
 go:Nat→Hp→Prop
 yld:Nat→Hp→V→Hp→Prop
 stop:Nat→Hp→Prop
noncomputable def FpOk (X:Cx)(pins:List (Addr×Obj))(H:Hp)(b:Addr):Prop :=
 H b=none∧b≠X.env.locals∧b∉X.fs∧(b∈X.ex∨X.s₀.heap.objs.size≤b)∧(∀x c,X.env.cells.lookup x=some c→c≠b)∧∀p∈X.pn++pins,p.1≠b
theorem Inv.fpOk {X:Cx}{pins:List (Addr×Obj)}{σ:St}{H H':Hp}{s:Shared}{b:Addr}(I:Inv X pins σ H s)(hb:s.heap.objs.size≤b)(hn:H' b=none):FpOk X pins H' b:=by
 refine ⟨hn,Nat.ne_of_gt (Nat.lt_of_lt_of_le I.lt hb),I.nofs hb,.inr (Nat.le_trans I.sz hb),fun x c e z=>?_,fun p hp z=>?_⟩
 ·obtain ⟨v,q⟩:=I.cell x c e
  exact absurd (Nat.lt_of_lt_of_le q.lt (by rw [z]; exact hb)) (Nat.lt_irrefl _)
 ·exact absurd (Nat.lt_of_lt_of_le (Heap.lt_size (I.pin p hp).1) (by rw [z]; exact hb)) (Nat.lt_irrefl _)
structure Turn (P:Program)(w:World)(K:PySem.W.Frag)(tg:Expr)(J:It)(fp:List Addr)(it:Addr)(tn:Nat→Heap→Prop):Prop where
 mem:it∈fp
 obj:∀i h,tn i h→∀b∈fp,∃o,h.get? b=some o∧∀v,o.data≠.cell v
 keep:∀i h h',tn i h→(∀b∈fp,∀o,h.get? b=some o→h'.get? b=some o)→tn i h'
 item:∀(X:Cx),X.prog=P→X.w=w→X.K=K→X.calm=true→∀(i:Nat) (pins:List (Addr×Obj)) (s:Shared) (σ:St) (H:Hp) (E:Value→Shared→Prop),Inv X pins σ H s→(∀b∈fp,FpOk X pins H b)→tn i s.heap→J.go i H →
  wpAny (model P w) X.A (pyNext (.ref it)) (fun r s1=>∃u,r=some u ∧
   wpAny (model P w) X.A (letOwnedTupleGo tg (.ref it) u) (fun _ s2=>∃x H',Inv X pins σ H' s2∧RelV x u∧J.yld i H x H'∧tn (i + 1) s2.heap∧∀b∈fp,H' b=none) E s1) E s
 done:∀(X:Cx),X.prog=P→X.w=w→X.K=K→X.calm=true→∀(i:Nat) (pins:List (Addr×Obj)) (s:Shared) (σ:St) (H:Hp) (E:Value→Shared→Prop),Inv X pins σ H s→(∀b∈fp,FpOk X pins H b)→tn i s.heap→J.stop i H →
  wpAny (model P w) X.A (pyNext (.ref it)) (fun r s1=>r=none∧Inv X pins σ H s1) E s
 self:∀(A:Around) (i:Nat) (s:Shared) (Q:Value→Shared→Prop) (E:Value→Shared→Prop),tn i s.heap→Q (.ref it) s→wpAny (model P w) A (pyIter (.ref it)) Q E s
noncomputable abbrev TI:=St→Hp→(It→Hp→Prop)→Prop
inductive PIE (X:Cx)(pins:List (Addr×Obj))(σ:St)(tg:Expr)(R:It→Hp→Prop)(itv:Value)(s2:Shared):Prop
 | mk (it:Addr) (fp:List Addr) (tn:Nat→Heap→Prop) (J:It) (H':Hp) (e:itv=.ref it) (I:Inv X pins σ H' s2) (T:Turn X.prog X.w X.K tg J fp it tn) (z:tn 0 s2.heap) (f:(∀b∈fp,FpOk X pins H' b)) (q:R J H')
noncomputable def PI (X:Cx)(tg iter:Expr)(wi:TI):Prop :=
 ∀ (pins:List (Addr×Obj)) (s:Shared) (σ:St) (H:Hp) (R:It→Hp→Prop),Inv X pins σ H s→wi σ H R →
  wpAny (model X.prog X.w) X.A (eval iter X.env) (fun v s1=>wpAny (model X.prog X.w) X.A (pyIter v) (PIE X pins σ tg R) X.xe s1) X.xe s
theorem go_of {M:Model}{A:Around}{E:Value→Shared→Prop}{s:Shared}{tg:Expr}{it:Addr}{u:Value}{o:Obj}{n:String}{vs:Array Value}{Q:Unit→Shared→Prop}(ho:s.heap.get? it=some o)(hc:o.cls=.type n)(hd:o.data=.fields vs)
  (hn:["enumerate", "zip", "dict_itemiterator", "dict_reverseitemiterator", "odict_iterator", "itertools.zip_longest", "itertools.pairwise"].contains n=false) (hQ:Q () s):wpAny M A (letOwnedTupleGo tg (.ref it) u) Q E s:=by
 unfold letOwnedTupleGo
 cases tg <;> first
  | exact wpAny_pure hQ
  | (cases u <;> first
    | exact wpAny_pure hQ
    | (refine wpAny_bind (wpAny_load ho ?_)
       rw [hc,hd]
       show wpAny M A (if (["enumerate", "zip", "dict_itemiterator", "dict_reverseitemiterator", "odict_iterator", "itertools.zip_longest", "itertools.pairwise"].contains n&&vs[0]? == some (rawInt _))=true then _ else _) Q E s
       rw [if_neg (by intro h; rw [hn,Bool.false_and] at h; cases h)]
       exact wpAny_pure hQ))
noncomputable def Itl (K:PySem.W.Frag)(a:Addr):It :=
 ⟨fun i H=>∃xs x,SqL K H a xs∧xs[i]? = some x,fun i H x H'=>H'=H∧∀xs,SqL K H a xs→xs[i]? = some x,fun i H=>∃xs,SqL K H a xs∧xs.length≤i⟩
noncomputable def Itt (K:PySem.W.Frag)(a:Addr):It :=
 ⟨fun i H=>∃xs x,SqT K H a xs∧xs[i]? = some x,fun i H x H'=>H'=H∧∀xs,SqT K H a xs→xs[i]? = some x,fun i H=>∃xs,SqT K H a xs∧xs.length≤i⟩
noncomputable def Itr (lo:Int)(n:Nat):It:=⟨fun i _=>i < n,fun i H x H'=>H'=H∧x=.int (lo + i),fun i _=>n≤i⟩
theorem turn_list {P:Program}{w:World}{K:PySem.W.Frag}{tg:Expr}(a it:Addr):Turn P w K tg (Itl K a) [it] it (fun i h=>h.IsListIter it a i) where
 mem:=by simp
 obj:=fun i h st b hb=>by
  have e:b=it:=by simpa using hb
  subst e
  obtain ⟨o,e,c,d⟩:=st
  exact ⟨o,e,fun v z=>by rw [d] at z; cases z⟩
 keep:=fun i h h' st k=>st.at fun o e=>k it (by simp) o e
 item:=by
  intro X hP hw hK hc i pins s σ H E I hf st hg
  subst hP hw hK
  obtain ⟨xs,x,hq,hx⟩:=hg
  obtain ⟨its,rv,p,hz⟩:=I.list hq
  obtain ⟨u,hu,ru⟩:=rv.get hx
  obtain ⟨f0,f1,f2,f3,f4,f5⟩:=hf it (by simp)
  refine wpAny_pyNext_list_item st p.isList (x:=u) (by simpa using hu) fun h' st' sb=>?_
  have I1:Inv X pins σ H { s with heap:=h' }:=I.turned (t':=s.toks) (fun b o hb e=>(sb.2 b hb).trans e) f0 f1 f3 f4 f5
  obtain ⟨o,e,c,d⟩:=id st'
  exact ⟨u,rfl,go_of (s:={ s with heap:=h' }) e c d (by decide) ⟨x,H,I1,ru,⟨rfl,fun ys hy=>by rw [I.list_inj hy hq]; exact hx⟩,st',fun b hb=>(hf b hb).1⟩⟩
 done:=by
  intro X hP hw hK hc i pins s σ H E I hf st hg
  subst hP hw hK
  obtain ⟨xs,hq,hx⟩:=hg
  obtain ⟨its,rv,p,hz⟩:=I.list hq
  obtain ⟨f0,f1,f2,f3,f4,f5⟩:=hf it (by simp)
  have hl:=rv.length
  exact wpAny_pyNext_list_end (I.ok.hd hc) st p.isList (by simp; omega) fun h' eb=>⟨rfl,I.turned (t':=s.toks) (fun b o hb e=>eb b o hb e) f0 f1 f3 f4 f5⟩
 self:=fun _ _ _ _ _ st h=>wpAny_pyIter_listiter st h
theorem turn_tuple {P:Program}{w:World}{K:PySem.W.Frag}{tg:Expr}(a it:Addr):Turn P w K tg (Itt K a) [it] it (fun i h=>h.IsTupleIter it a i) where
 mem:=by simp
 obj:=fun i h st b hb=>by
  have e:b=it:=by simpa using hb
  subst e
  obtain ⟨o,e,c,d⟩:=st
  exact ⟨o,e,fun v z=>by rw [d] at z; cases z⟩
 keep:=fun i h h' st k=>st.at fun o e=>k it (by simp) o e
 item:=by
  intro X hP hw hK hc i pins s σ H E I hf st hg
  subst hP hw hK
  obtain ⟨xs,x,hq,hx⟩:=hg
  obtain ⟨its,rv,p,hz⟩:=I.tuple hq
  obtain ⟨u,hu,ru⟩:=rv.get hx
  obtain ⟨f0,f1,f2,f3,f4,f5⟩:=hf it (by simp)
  refine wpAny_pyNext_tuple_item st (show s.heap.IsTuple a its.toArray from p) (x:=u) (by simpa using hu) fun h' st' sb=>?_
  have I1:Inv X pins σ H { s with heap:=h' }:=I.turned (t':=s.toks) (fun b o hb e=>(sb.2 b hb).trans e) f0 f1 f3 f4 f5
  obtain ⟨o,e,c,d⟩:=id st'
  exact ⟨u,rfl,go_of (s:={ s with heap:=h' }) e c d (by decide) ⟨x,H,I1,ru,⟨rfl,fun ys hy=>by rw [I.tuple_inj hy hq]; exact hx⟩,st',fun b hb=>(hf b hb).1⟩⟩
 done:=by
  intro X hP hw hK hc i pins s σ H E I hf st hg
  subst hP hw hK
  obtain ⟨xs,hq,hx⟩:=hg
  obtain ⟨its,rv,p,hz⟩:=I.tuple hq
  obtain ⟨f0,f1,f2,f3,f4,f5⟩:=hf it (by simp)
  have hl:=rv.length
  exact wpAny_pyNext_tuple_end (I.ok.hd hc) st (show s.heap.IsTuple a its.toArray from p) (by simp; omega) fun h' eb=>⟨rfl,I.turned (t':=s.toks) (fun b o hb e=>eb b o hb e) f0 f1 f3 f4 f5⟩
 self:=fun _ _ _ _ _ st h=>wpAny_pyIter_tupleiter st h
theorem turn_range {P:Program}{w:World}{K:PySem.W.Frag}{tg:Expr}(it:Addr)(lo:Int)(n:Nat):Turn P w K tg (Itr lo n) [it] it (fun i h=>IsRangeIter h it (lo + (i:Nat) * 1) ((n:Int) - (i:Nat)) 1) where
 mem:=by simp
 obj:=fun i h st b hb=>by
  have e:b=it:=by simpa using hb
  subst e
  exact ⟨_,st,fun v z=>by
   have z':Data.fields _=Data.cell v:=z
   cases z'⟩
 keep:=fun i h h' st k=>k it (by simp) _ st
 item:=by
  intro X hP hw hK hc i pins s σ H E I hf st hg
  subst hP hw hK
  obtain ⟨f0,f1,f2,f3,f4,f5⟩:=hf it (by simp)
  have W:=Walks.range (prog:=X.prog) (w:=X.w) (I.ok.hd hc) it lo 1 n
  refine W.item i s _ _ hg st fun v h' tk hv st' kk=>?_
  obtain ⟨t,rfl⟩:=hv
  have I1:Inv X pins σ H { s with heap:=h',toks:=tk }:=I.turned (fun b o hb e=>kk b o (by simpa using hb) e) f0 f1 f3 f4 f5
  refine ⟨_,rfl,go_of (s:={ s with heap:=h',toks:=tk }) (n := "range_iterator") st' rfl rfl (by decide) ⟨.int (lo + i),H,I1,⟨t,?_⟩,⟨rfl,rfl⟩,st',fun b hb=>(hf b hb).1⟩⟩
  rw [Int.mul_one]
 done:=by
  intro X hP hw hK hc i pins s σ H E I hf st hg
  subst hP hw hK
  obtain ⟨f0,f1,f2,f3,f4,f5⟩:=hf it (by simp)
  exact wpAny_pyNext_range_end (I.ok.hd hc) st (by have:n≤i:=hg; omega) fun h' eb=>⟨rfl,I.turned (t':=s.toks) (fun b o hb e=>eb b o hb e) f0 f1 f3 f4 f5⟩
 self:=fun _ _ _ _ _ st h=>wpAny_pyIter_rangeiter st h
end L2
namespace L2
open PySem PySem.Spec PyProof.Rows
section
variable {X:Cx}{tg:Expr}
noncomputable def iList (K:PySem.W.Frag)(tl:TE):TI:=fun σ H R=>tl σ H fun x H1=>∃a,x=.ref a∧(∃xs,SqL K H1 a xs)∧R (Itl K a) H1
noncomputable def iTup (K:PySem.W.Frag)(tl:TE):TI:=fun σ H R=>tl σ H fun x H1=>∃a,x=.ref a∧(∃xs,SqT K H1 a xs)∧R (Itt K a) H1
theorem pi_list {l:Expr}{tl:TE}(hl:PE X l tl):PI X tg l (iList X.K tl):=by
 intro pins s σ H R I h
 refine thn (hl pins s σ H _ I h) fun v s1 hq10=>?_
 obtain ⟨x,H1,I1,r1,q1⟩:=hq10
 obtain ⟨a,e,⟨xs,hq⟩,q⟩:=q1
 subst e
 cases r1
 obtain ⟨its,rv,p,hz⟩:=I1.list hq
 refine wpAny_pyIter_list p.isList ?_
 refine ⟨s1.heap.objs.size,[s1.heap.objs.size],_,_,H1,rfl,I1.kept (t':=s1.toks) fun b o e=>Heap.get?_push_of_some _ e,turn_list a _,⟨_,Heap.get?_push_size _ rfl,rfl,rfl⟩,fun b hb=>?_,q⟩
 have e:b=s1.heap.objs.size:=by simpa using hb
 subst e
 exact I1.fpOk (Nat.le_refl _) (I1.hok.fresh (Nat.le_refl _))
theorem pi_tup {l:Expr}{tl:TE}(hl:PE X l tl):PI X tg l (iTup X.K tl):=by
 intro pins s σ H R I h
 refine thn (hl pins s σ H _ I h) fun v s1 hq11=>?_
 obtain ⟨x,H1,I1,r1,q1⟩:=hq11
 obtain ⟨a,e,⟨xs,hq⟩,q⟩:=q1
 subst e
 cases r1
 obtain ⟨its,rv,p,hz⟩:=I1.tuple hq
 refine wpAny_pyIter_tuple (show s1.heap.IsTuple a its.toArray from p) ?_
 refine ⟨s1.heap.objs.size,[s1.heap.objs.size],_,_,H1,rfl,I1.kept (t':=s1.toks) fun b o e=>Heap.get?_push_of_some _ e,turn_tuple a _,⟨_,Heap.get?_push_size _ rfl,rfl,rfl⟩,fun b hb=>?_,q⟩
 have e:b=s1.heap.objs.size:=by simpa using hb
 subst e
 exact I1.fpOk (Nat.le_refl _) (I1.hok.fresh (Nat.le_refl _))
theorem range_it {pins:List (Addr×Obj)}{σ:St}{H:Hp}{s:Shared}{R:It→Hp→Prop}{E:Value→Shared→Prop}{lo hi:Int}{t u v:Tok}{tk:Nat}(I:Inv X pins σ H s)(h1:-(2 ^ 62)≤lo)(h2:lo < 2 ^ 62)(h3:-(2 ^ 62)≤hi)(h4:hi < 2 ^ 62)
  (q:R (Itr lo (hi - lo).toNat) H):wpAny (model X.prog X.w) X.A (pyIter (.ref s.heap.objs.size)) (PIE X pins σ tg R) E { s with heap:=s.heap.push { cls:=.type "range", data:=.fields #[.int lo t,.int hi u,.int 1 v] },toks:=tk }:=by
 refine wpAny_pyIter_range (IsRange.new ..) (small_one h1 h2 h3 h4) ?_
 have I1:Inv X pins σ H { s with heap:=s.heap.push { cls:=.type "range", data:=.fields #[.int lo t,.int hi u,.int 1 v] },toks:=tk }:=I.kept fun b o e=>Heap.get?_push_of_some _ e
 refine ⟨(s.heap.push { cls:=.type "range", data:=.fields #[.int lo t,.int hi u,.int 1 v] }).objs.size,[(s.heap.push { cls:=.type "range", data:=.fields #[.int lo t,.int hi u,.int 1 v] }).objs.size],_,_,H,rfl,
  I1.kept (t':=tk) fun b o e=>Heap.get?_push_of_some _ e,turn_range _ lo (hi - lo).toNat,?_,fun b hb=>?_,q⟩
 ·have e1:lo + ((0:Nat):Int) * 1=lo:=by simp
  have e2:(((hi - lo).toNat:Nat):Int) - ((0:Nat):Int)=Builtin.Range.rangeSize lo hi 1:=by rw [rangeSize_one]; split <;> omega
  show IsRangeIter _ _ (lo + ((0:Nat):Int) * 1) ((((hi - lo).toNat:Nat):Int) - ((0:Nat):Int)) 1
  rw [e1,e2]
  exact Heap.get?_push_size _ rfl
 ·have e:b=(s.heap.push { cls:=.type "range", data:=.fields #[.int lo t,.int hi u,.int 1 v] }).objs.size:=by simpa using hb
  subst e
  exact I1.fpOk (Nat.le_refl _) (I1.hok.fresh (Nat.le_refl _))
noncomputable def iRng1 (ta:TA):TI:=fun σ H R=>ta σ H fun vs H1=>∃j:Int,vs=[.int j]∧-(2 ^ 62)≤j∧j < 2 ^ 62∧R (Itr 0 j.toNat) H1
theorem pi_range1 {a:Expr}{ta:TA}{p pos:Pos}(hg:Gl X "range")(hm:X.mg "range" = none)(ha:PA X [a] ta)(hs:starEach [a] X.env=[(false,eval a X.env)]:=by rfl):PI X tg (.Call (.Name "range" p) [a] [] pos) (iRng1 ta):=by
 intro pins s σ H R I h
 refine Call_ (ju I hg hm boot_range (PyProof.Rows.callWith_type1 (thn (ha pos pins s σ H _ I h) fun us s1 ⟨vs,H1,I1,r1,q1⟩=>?_) hs rfl))
 obtain ⟨j,e,q1,q2,q⟩:=q1
 subst e
 cases r1 with
 | cons r rr =>
  cases rr
  obtain ⟨t,rfl⟩:=r
  exact call_range_1 (range_it I1 (by omega) (by omega) q1 q2 (by simpa using q))
noncomputable def tFor (wi:TI)(g:TG)(tb:TS):TS:=fun D σ H=>wi σ H fun J H1=>∃W:Nat→Nat→St→Hp→Prop,(∃m,W 0 m σ H1)∧∀i m σ H,W i m σ H →
 (J.stop i H∧D.nx σ H)∨(J.go i H∧∃N:St→Hp→Prop,(∀σ' H',N σ' H'→∃m',m' < m∧W (i + 1) m' σ' H')∧∀x H',J.yld i H x H'→g x σ H' fun σ2 H2=>tb { D with nx:=N,ct:=N,bk:=D.nx } σ2 H2)
noncomputable def zaR (fp:List Addr)(h:Heap):List (Addr×Obj):=fp.filterMap fun b=>(h.get? b).map fun o=>(b,o)
theorem kh {fp:List Addr}{h:Heap}{b:Addr}{o:Obj}(hb:b∈fp)(e:h.get? b=some o):(b,o)∈zaR fp h:=List.mem_filterMap.mpr ⟨b,hb,by rw [e]; rfl⟩
theorem zcX {fp:List Addr}{h:Heap}{p:Addr×Obj}(hp:p∈zaR fp h):p.1∈fp∧h.get? p.1=some p.2:=by
 obtain ⟨b,hb,e⟩:=List.mem_filterMap.mp hp
 cases q:h.get? b with
 | none=>rw [q] at e; cases e
 | some o =>
  rw [q] at e
  have e':(b,o)=p:=Option.some.inj e
  subst e'
  exact ⟨hb,q⟩
theorem Inv.pinned {pins:List (Addr×Obj)}{σ:St}{H:Hp}{s:Shared}{fp:List Addr}(I:Inv X pins σ H s)(hf:∀b∈fp,FpOk X pins H b)(ho:∀b∈fp,∃o,s.heap.get? b=some o∧∀v,o.data≠.cell v):Inv X (pins++zaR fp s.heap) σ H s :=
 I.pins_of fun p hp=>(List.mem_append.mp hp).elim (fun z=>I.pin p (List.mem_append_right _ z)) fun z=>by
  obtain ⟨hb,e⟩:=zcX z
  obtain ⟨f0,f1,f2,_⟩:=hf p.1 hb
  obtain ⟨o,e',d⟩:=ho p.1 hb
  rw [e] at e'; cases e'
  exact ⟨e,f0,f1,f2,d⟩
theorem Inv.unpinned {pins pl:List (Addr×Obj)}{σ:St}{H:Hp}{s:Shared}(I:Inv X (pins++pl) σ H s):Inv X pins σ H s:=I.pins_of fun p hp=>I.pin p (List.mem_append_right _ (List.mem_append_left _ hp))
theorem ps_for {iter:Expr}{body:List Stmt}{wi:TI}{g:TG}{tb:TS}{pos:Pos}(hp:PassesOwn (model X.prog X.w) X.A X.env X.xe)(hc:X.calm=true)(hi:PI X tg iter wi)(hg:PG X tg g)(hb:PSs X body tb)
  (hs:∀x,foldedSetIterable iter X.env x=pure x:=by intro _; rfl):PS X (.For tg iter body [] pos) (tFor wi g tb):=by
 intro pins s σ H D I h
 refine wpAny_For (thn (hi pins s σ H _ I h) fun v s1 h1=>thn h1 fun itv s2 h2=>?_) hs
 obtain ⟨it,fp,tn,J,H2,e,I2,T,st2,f2,W,⟨m0,w0⟩,turn⟩:=h2
 subst e
 have stat:∀{H':Hp},(∀b∈fp,H' b=none)→∀b∈fp,FpOk X pins H' b:=fun hn b hb=>⟨hn b hb,(f2 b hb).2⟩
 refine codeAny_forLoop_any (fun n s'=>∃i σ' H',Inv X pins σ' H' s'∧tn i s'.heap∧(∀b∈fp,H' b=none)∧W i n σ' H') ?_ m0 ⟨0,σ,H2,I2,st2,fun b hb=>(f2 b hb).1,w0⟩
 rintro n s3 ⟨i,σ3,H3,I3,st3,fr3,w3⟩
 rcases turn i n σ3 H3 w3 with ⟨stop,qn⟩ | ⟨go,N,hN,step⟩
 ·refine wpAny_passesOwn hp (thn (T.done X rfl rfl rfl hc i pins s3 σ3 H3 X.xe I3 (stat fr3) st3 stop) fun r s4 hq12=>?_)
  obtain ⟨hr,I4⟩:=hq12
  subst hr
  exact wpAny_execs_nil ⟨σ3,H3,I4,qn⟩
 ·refine wpAny_passesOwn hp (thn (T.item X rfl rfl rfl hc i pins s3 σ3 H3 X.xe I3 (stat fr3) st3 go) fun r s4 hq13=>?_)
  obtain ⟨u,hr,h4⟩:=hq13
  subst hr
  refine wpAny_passesOwn hp (thn h4 fun _ s5 hq14=>?_)
  obtain ⟨x,H5,I5,r5,y5,st5,fr5⟩:=hq14
  have I5':=I5.pinned (stat fr5) (T.obj _ _ st5)
  refine wpAny_passesOwn hp (thn (hg _ s5 σ3 H5 x u _ I5' r5 (step x H5 y5)) fun _ s6 hq15=>?_)
  obtain ⟨σ6,H6,I6,q6⟩:=hq15
  refine wpAny_passesOwn hp (thn (hb _ s6 σ6 H6 _ I6 q6) fun f s7 q7=>?_)
  have again:∀{σ7:St}{H7:Hp},Inv X (pins++zaR fp s5.heap) σ7 H7 s7→N σ7 H7→∃m,m < n∧∃i σ' H',Inv X pins σ' H' s7∧tn i s7.heap∧(∀b∈fp,H' b=none)∧W i m σ' H':=fun {σ7 H7} I7 n7=>by
   obtain ⟨m',hm,w7⟩:=hN σ7 H7 n7
   refine ⟨m',hm,i + 1,σ7,H7,I7.unpinned,T.keep _ _ _ st5 fun b hb o e=>(I7.pin (b,o) (List.mem_append_right _ (List.mem_append_right _ (kh hb e)))).1,fun b hb=>?_,w7⟩
   obtain ⟨o,e,d⟩:=T.obj _ _ st5 b hb
   exact (I7.pin (b,o) (List.mem_append_right _ (List.mem_append_right _ (kh hb e)))).2.1
  cases f with
  | next=>obtain ⟨σ7,H7,I7,n7⟩:=q7; exact again I7 n7
  | cont=>obtain ⟨σ7,H7,I7,n7⟩:=q7; exact again I7 n7
  | brk=>obtain ⟨σ7,H7,I7,q7⟩:=q7; exact ⟨σ7,H7,I7.unpinned,q7⟩
  | ret v=>obtain ⟨x7,σ7,H7,I7,r7,q7⟩:=q7; exact ⟨x7,σ7,H7,I7.unpinned,r7,q7⟩
end
end L2
namespace L2
open PySem PySem.Spec PyProof.Rows
noncomputable abbrev R2:=V→V→Hp→VK→Prop
noncomputable def OpR (X:Cx)(f:Value→Value→Sem Value)(r:R2):Prop :=
 ∀ (pins:List (Addr×Obj)) (s:Shared) (σ:St) (H:Hp) (x y:V) (v u:Value) (Q:VK),Inv X pins σ H s→RelV x v→RelV y u→r x y H Q →
  wpAny (model X.prog X.w) X.A (f v u) (EP X pins σ Q) X.xe s
noncomputable def UnR (X:Cx)(f:Value→Sem Value)(r:V→Hp→VK→Prop):Prop :=
 ∀ (pins:List (Addr×Obj)) (s:Shared) (σ:St) (H:Hp) (x:V) (v:Value) (Q:VK),Inv X pins σ H s→RelV x v→r x H Q →
  wpAny (model X.prog X.w) X.A (f v) (EP X pins σ Q) X.xe s
noncomputable def qL (X:Cx)(f:Value)(r:List V→Hp→VK→Prop):Prop :=
 ∀ (pins:List (Addr×Obj)) (s:Shared) (σ:St) (H:Hp) (xs:List V) (us:List Value) (Q:VK),Inv X pins σ H s→Vals xs us→r xs H Q →
  wpAny (model X.prog X.w) X.A (call f us) (EP X pins σ Q) X.xe s
noncomputable def tOp (r:R2)(ta tb:TE):TE:=fun σ H Q=>ta σ H fun x H1=>tb σ H1 fun y H2=>r x y H2 Q
noncomputable def tUn (r:V→Hp→VK→Prop)(ta:TE):TE:=fun σ H Q=>ta σ H fun x H1=>r x H1 Q
noncomputable def rI (C:Int→Int→Prop)(g:Int→Int→V):R2:=fun x y H Q=>∃i j,x=.int i∧y=.int j∧C i j∧Q (g i j) H
noncomputable def rI0 (g:Int→Int→V):R2:=fun x y H Q=>∃i j,x=.int i∧y=.int j∧Q (g i j) H
noncomputable def rU (g:Int→V):V→Hp→VK→Prop:=fun x H Q=>∃i,x=.int i∧Q (g i) H
section
variable {X:Cx}{a b c:Expr}{ta tb tc:TE}{pos:Pos}
theorem binT (ha:PE X a ta)(hb:PE X b tb){pins:List (Addr×Obj)}{s:Shared}{σ:St}{H:Hp}{R:V→V→Hp→Prop}(I:Inv X pins σ H s)
  (h:ta σ H fun x H1=>tb σ H1 fun y H2=>R x y H2) {Q:Value→Shared→Prop}{f:Value→Value→Sem Value}
  (hf:∀v u s2 x y H2,Inv X pins σ H2 s2→RelV x v→RelV y u→R x y H2→wpAny (model X.prog X.w) X.A (f v u) Q X.xe s2) :
  wpAny (model X.prog X.w) X.A (eval a X.env) (fun v s₁=>wpAny (model X.prog X.w) X.A (eval b X.env) (fun u s₂=>wpAny (model X.prog X.w) X.A (f v u) Q X.xe s₂) X.xe s₁) X.xe s:=by
 refine thn (ha pins s σ H _ I h) fun v s1 hq16=>?_
 obtain ⟨x,H1,I1,r1,q1⟩:=hq16
 refine thn (hb pins s1 σ H1 _ I1 q1) fun u s2 hq17=>?_
 obtain ⟨y,H2,I2,r2,q2⟩:=hq17
 exact hf v u s2 x y H2 I2 r1 r2 q2
theorem pe_op {op:Operator}{r:R2}(ho:OpR X (binaryOp op) r)(ha:PE X a ta)(hb:PE X b tb):PE X (.BinOp a op b pos) (tOp r ta tb):=by
 intro pins s σ H Q I h
 exact wpAny_BinOp (binT ha hb I h fun v u s2 x y H2 I2 rx ry q=>ho pins s2 σ H2 x y v u Q I2 rx ry q)
theorem pe_un {op:UnaryOp}{r:V→Hp→VK→Prop}(ho:UnR X (unaryOp op) r)(ha:PE X a ta):PE X (.UnaryOp op a pos) (tUn r ta):=by
 intro pins s σ H Q I h
 exact UnaryOp_ (thn (ha pins s σ H _ I h) fun v s1 ⟨x,H1,I1,r1,q1⟩=>ho pins s1 σ H1 x v Q I1 r1 q1)
theorem opI {f:Value→Value→Sem Value}{C:Int→Int→Prop}{g:Int→Int→Int}
  (rule:∀(i j:Int) (t u:Tok) (s:Shared) (Q:Value→Shared→Prop) (E:Value→Shared→Prop),C i j→Q (.int (g i j) s.toks) { s with toks:=s.toks + 1 }→wpAny (model X.prog X.w) X.A (f (.int i t) (.int j u)) Q E s) :
  OpR X f (rI C fun i j=>.int (g i j)):=by
 intro pins s σ H x y v u Q I rx ry h
 obtain ⟨i,j,rfl,rfl,hc,q⟩:=h
 obtain ⟨t,rfl⟩:=rx
 obtain ⟨t',rfl⟩:=ry
 exact rule i j t t' s _ _ hc ⟨.int (g i j),H,I.tok _,⟨_,rfl⟩,q⟩
theorem opI0 {f:Value→Value→Sem Value}{g:Int→Int→Int}
  (rule:∀(i j:Int) (t u:Tok) (s:Shared) (Q:Value→Shared→Prop) (E:Value→Shared→Prop),Q (.int (g i j) s.toks) { s with toks:=s.toks + 1 }→wpAny (model X.prog X.w) X.A (f (.int i t) (.int j u)) Q E s) :
  OpR X f (rI0 fun i j=>.int (g i j)):=by
 intro pins s σ H x y v u Q I rx ry h
 obtain ⟨i,j,rfl,rfl,q⟩:=h
 obtain ⟨t,rfl⟩:=rx
 obtain ⟨t',rfl⟩:=ry
 exact rule i j t t' s _ _ ⟨.int (g i j),H,I.tok _,⟨_,rfl⟩,q⟩
theorem opB0 {f:Value→Value→Sem Value}{g:Int→Int→Bool}
  (rule:∀(i j:Int) (t u:Tok) (s:Shared) (Q:Value→Shared→Prop) (E:Value→Shared→Prop),Q (.bool (g i j)) s→wpAny (model X.prog X.w) X.A (f (.int i t) (.int j u)) Q E s) :
  OpR X f (rI0 fun i j=>.bl (g i j)):=by
 intro pins s σ H x y v u Q I rx ry h
 obtain ⟨i,j,rfl,rfl,q⟩:=h
 obtain ⟨t,rfl⟩:=rx
 obtain ⟨t',rfl⟩:=ry
 exact rule i j t t' s _ _ ⟨.bl (g i j),H,I,rfl,q⟩
noncomputable def CMul (i j:Int):Prop:=(-(2 ^ 64) < i∧i < 2 ^ 64)∨(-(2 ^ 64) < j∧j < 2 ^ 64)
theorem CMul.ok {i j:Int}(h:CMul i j):IntMulOk i j:=by
 rcases h with ⟨h1,h2⟩ | ⟨h1,h2⟩
 ·exact .of_left (intBits_le_64 h1 h2)
 ·exact .of_right (intBits_le_64 h1 h2)
theorem uW:OpR X (binaryOp .Add) (rI0 fun i j=>.int (i + j)):=opI0 fun _ _ _ _ _ _ _ q=>add_int q
theorem zaa:OpR X (binaryOp .Mod) (rI (fun _ j=>0 < j) fun i j=>.int (i % j)):=opI fun i j _ _ _ _ _ hc q=>by
 have h1:(0:Int) < j:=hc
 exact mod_int' (by omega) (by rw [Int.fmod_eq_emod_of_nonneg i (by omega)]; exact q)
theorem unI {f:Value→Sem Value}{g:Int→Int}
  (rule:∀(i:Int) (t:Tok) (s:Shared) (Q:Value→Shared→Prop) (E:Value→Shared→Prop),Q (.int (g i) s.toks) { s with toks:=s.toks + 1 }→wpAny (model X.prog X.w) X.A (f (.int i t)) Q E s) :
  UnR X f (rU fun i=>.int (g i)):=by
 intro pins s σ H x v Q I rx h
 obtain ⟨i,rfl,q⟩:=h
 obtain ⟨t,rfl⟩:=rx
 exact rule i t s _ _ ⟨.int (g i),H,I.tok _,⟨_,rfl⟩,q⟩
theorem un_neg:UnR X (unaryOp .USub) (rU fun i=>.int (-i)):=unI fun _ _ _ _ _ q=>neg_int q
end
section
variable {X:Cx}{a b c:Expr}{ta tb tc:TE}{pos:Pos}
theorem fin_bl {pins:List (Addr×Obj)}{σ:St}{H:Hp}{s:Shared}{Q:VK}{k k':Bool}(I:Inv X pins σ H s)(q:Q (.bl k) H)(e:k=k'):EP X pins σ Q (.bool k') s:=by
 subst e
 exact ⟨.bl k,H,I,rfl,q⟩
theorem op_lt:OpR X (compareOp .Lt) (rI0 fun i j=>.bl (decide (i < j))):=opB0 fun _ _ _ _ _ _ _ q=>lt_int q
theorem op_le:OpR X (compareOp .LtE) (rI0 fun i j=>.bl (decide (i≤j))):=opB0 fun _ _ _ _ _ _ _ q=>le_int q
theorem op_gt:OpR X (compareOp .Gt) (rI0 fun i j=>.bl (decide (j < i))):=opB0 fun _ _ _ _ _ _ _ q=>gt_int q
theorem op_lt_str:OpR X (compareOp .Lt) (fun x y H Q=>∃i j,x=.str i∧y=.str j∧Q (.bl (decide (i.cps.toList < j.cps.toList))) H):=by
 intro pins s σ H x y v u Q I rx ry h
 obtain ⟨i,j,rfl,rfl,q⟩:=h
 obtain ⟨t,rfl⟩:=rx
 obtain ⟨t',rfl⟩:=ry
 exact lt_str (fin_bl I q rfl)
theorem xO (b:Expr){op:CmpOp}(h:op≠.In:=by decide)(h2:op≠.NotIn:=by decide):behindInMarks op b=false:=by
 have e1:(op == CmpOp.In)=false:=by cases op <;> first | rfl | exact absurd rfl h
 have e2:(op == CmpOp.NotIn)=false:=by cases op <;> first | rfl | exact absurd rfl h2
 cases b <;> simp [behindInMarks,e1,e2]
theorem pe_cmpR {op:CmpOp}{r:R2}(ho:OpR X (compareOp op) r)(ha:PE X a ta)(hb:PE X b tb)(hm:behindInMarks op b=false):PE X (.Compare a [op] [b] pos) (tOp r ta tb):=by
 intro pins s σ H Q I h
 exact wpAny_Compare1 (binT ha hb I h fun v u s2 x y H2 I2 rx ry q=>ho pins s2 σ H2 x y v u Q I2 rx ry q) hm
noncomputable def tTest (t:TE):TT:=fun σ H Q=>t σ H fun x H'=>∃k,x=.bl k∧Q k H'
theorem pt_cmpR {op:CmpOp}{r:R2}(ho:OpR X (compareOp op) r)(ha:PE X a ta)(hb:PE X b tb)(hm:behindInMarks op b=false):PT X (.Compare a [op] [b] pos) (tTest (tOp r ta tb)):=by
 intro pins s σ H Q I h
 refine wpAny_isTrue_Compare1 (thn (ha pins s σ H _ I h) fun v s1 ⟨x,H1,I1,r1,q1⟩=>thn (hb pins s1 σ H1 _ I1 q1) fun u s2 ⟨y,H2,I2,r2,q2⟩ =>
  thn (ho pins s2 σ H2 x y v u _ I2 r1 r2 q2) fun c s3 ⟨z,H3,I3,r3,k,e,q3⟩=>?_) hm
 subst e
 cases r3
 exact wpAny_truthy_bool ⟨H3,I3,q3⟩
noncomputable def tChain (r r':R2)(ta tb tc:TE):TE:=fun σ H Q=>ta σ H fun x H1=>tb σ H1 fun y H2=>r x y H2 fun z H3=>∃k,z=.bl k ∧
 (if k=true then tc σ H3 fun w' H4=>r' y w' H4 Q else Q (.bl false) H3)
theorem pe_chain {op op':CmpOp}{r r':R2}(ho:OpR X (compareOp op) r)(ho':OpR X (compareOp op') r')(ha:PE X a ta)(hb:PE X b tb)(hc:PE X c tc)
  (hm:lastMarks [op,op'] [b,c]=false:=by with_unfolding_all rfl):PE X (.Compare a [op,op'] [b,c] pos) (tChain r r' ta tb tc):=by
 intro pins s σ H Q I h
 refine Compare_chain (thn (ha pins s σ H _ I h) fun v s1 ⟨x,H1,I1,r1,q1⟩=>chain_link (thn (hb pins s1 σ H1 _ I1 q1) fun u s2 ⟨y,H2,I2,r2,q2⟩ =>
  thn (ho pins s2 σ H2 x y v u _ I2 r1 r2 q2) fun d s3 ⟨z,H3,I3,r3,k,e,q3⟩=>?_)) hm
 subst e
 cases r3
 refine wpAny_truthy_bool ?_
 cases k with
 | false=>exact ite_ff ⟨.bl false,H3,I3,rfl,q3⟩
 | true=>exact ite_tt (chain_last (thn (hc pins s3 σ H3 _ I3 q3) fun w' s4 ⟨z',H4,I4,r4,q4⟩=>ho' pins s4 σ H4 y z' u w' Q I4 r2 r4 q4))
theorem pt_chain {op op':CmpOp}{r r':R2}(ho:OpR X (compareOp op) r)(ho':OpR X (compareOp op') r')(ha:PE X a ta)(hb:PE X b tb)(hc:PE X c tc)
  (hm:lastMarks [op,op'] [b,c]=false:=by with_unfolding_all rfl):PT X (.Compare a [op,op'] [b,c] pos) (tTest (tChain r r' ta tb tc)):=by
 intro pins s σ H Q I h
 refine isTrue_chain (thn (ha pins s σ H _ I h) fun v s1 ⟨x,H1,I1,r1,q1⟩=>test_link (thn (hb pins s1 σ H1 _ I1 q1) fun u s2 ⟨y,H2,I2,r2,q2⟩ =>
  thn (ho pins s2 σ H2 x y v u _ I2 r1 r2 q2) fun d s3 ⟨z,H3,I3,r3,k,e,q3⟩=>?_)) hm
 subst e
 cases r3
 refine wpAny_truthy_bool ?_
 cases k with
 | false =>
  obtain ⟨k',e',q'⟩:=q3
  cases e'
  exact ite_ff ⟨H3,I3,q'⟩
 | true =>
  refine ite_tt (test_last (thn (hc pins s3 σ H3 _ I3 q3) fun w' s4 ⟨z',H4,I4,r4,q4⟩=>thn (ho' pins s4 σ H4 y z' u w' _ I4 r2 r4 q4) fun d' s5 hq18=>?_))
  obtain ⟨z2,H5,I5,r5,k2,e2,q5⟩:=hq18
  subst e2
  cases r5
  exact wpAny_truthy_bool ⟨H5,I5,q5⟩
theorem line63:(sizeLine:Nat) < 2 ^ 63:=by rw [sizeLine_eq]; decide
theorem op_add_str:OpR X (binaryOp .Add) (fun x y H Q=>∃i j,x=.str i∧y=.str j∧i.length + j.length≤sizeLine∧Q (.str (i++j)) H):=by
 intro pins s σ H x y v u Q I rx ry h
 obtain ⟨i,j,rfl,rfl,hz,q⟩:=h
 obtain ⟨t,rfl⟩:=rx
 obtain ⟨t',rfl⟩:=ry
 exact add_str (fun t' tk=>⟨.str (i++j),H,I.tok _,⟨_,rfl⟩,q⟩) hz
theorem vals1 {x:V}{us:List Value}(r:Vals [x] us):∃u,us=[u]∧RelV x u:=by
 cases r with
 | cons r1 r2=>cases r2; exact ⟨_,rfl,r1⟩
theorem vals2 {x y:V}{us:List Value}(r:Vals [x,y] us):∃u w',us=[u,w']∧RelV x u∧RelV y w':=by
 cases r with
 | cons r1 r2 =>
  cases r2 with
  | cons r3 r4=>cases r4; exact ⟨_,_,rfl,r1,r3⟩
theorem call_max2 (hc:X.calm=true):qL X (.builtin "max") (fun xs H Q=>∃i j,xs=[.int i,.int j]∧Q (.int (if j > i then j else i)) H):=by
 intro pins s σ H xs us Q I r h
 obtain ⟨i,j,rfl,q⟩:=h
 obtain ⟨u,w',rfl,⟨t,rfl⟩,⟨t',rfl⟩⟩:=vals2 r
 refine max_two_ints (I.ok.hd hc) fun h' tk k=>⟨_,H,I.kept k,?_,q⟩
 by_cases hj:j > i
 ·rw [if_pos hj,if_pos hj]; exact ⟨_,rfl⟩
 ·rw [if_neg hj,if_neg hj]; exact ⟨_,rfl⟩
theorem zcr:qL X (.type "str") (fun xs H Q=>∃i,xs=[.int i]∧i.natAbs.log2 < 1920∧Q (.str (toString i)) H):=by
 intro pins s σ H xs us Q I r h
 obtain ⟨i,rfl,hz,q⟩:=h
 obtain ⟨u,rfl,t,rfl⟩:=vals1 r
 exact PySem.P.str_of_int hz ⟨.str _,H,I.tok _,⟨_,rfl⟩,q⟩
noncomputable def LenV (K:PySem.W.Frag)(x:V)(H:Hp)(n:Nat):Prop :=
 match x with
 | .str y=>y.length≤sizeLine∧n=y.length
 | .byt y=>y.size≤sizeLine∧n=y.size
 | .ref p=>(∃xs,SqL K H p xs∧n=xs.length)∨∃xs,SqT K H p xs∧n=xs.length
 | _=>False
theorem yV:qL X (.builtin "len") (fun xs H Q=>∃x n,xs=[x]∧LenV X.K x H n∧Q (.int n) H):=by
 intro pins s σ H xs us Q I r h
 obtain ⟨x,n,rfl,e,q⟩:=h
 obtain ⟨u,rfl,rx⟩:=vals1 r
 have hl:=line63
 have hs:sizeLine=16777216:=sizeLine_eq
 cases x with
 | str y =>
  obtain ⟨t,rfl⟩:=rx
  obtain ⟨hy,e'⟩:y.length≤sizeLine∧n=y.length:=e
  subst e'
  exact len_str (by omega) ⟨.int _,H,I.tok _,⟨_,rfl⟩,q⟩
 | byt y =>
  obtain ⟨t,rfl⟩:=rx
  obtain ⟨hy,e'⟩:y.size≤sizeLine∧n=y.size:=e
  subst e'
  exact PySem.W.len_bytes (by omega) ⟨.int _,H,I.tok _,⟨_,rfl⟩,q⟩
 | ref p =>
  cases rx
  have e':(∃xs,SqL X.K H p xs∧n=xs.length)∨∃xs,SqT X.K H p xs∧n=xs.length:=e
  rcases e' with ⟨xs,hx,e'⟩ | ⟨xs,hx,e'⟩
  ·subst e'
   obtain ⟨its,r',pl,hz⟩:=I.list hx
   have hlen:=r'.length
   exact Calls.call_len_list pl.isList (by simp only [List.size_toArray]; omega) ⟨.int xs.length,H,I.tok _,⟨_,by simp only [List.size_toArray]; rw [hlen]⟩,q⟩
  ·subst e'
   obtain ⟨its,r',pl,hz⟩:=I.tuple hx
   have hlen:=r'.length
   exact len_tuple pl (by simp only [List.size_toArray]; omega) ⟨.int xs.length,H,I.tok _,⟨_,by simp only [List.size_toArray]; rw [hlen]⟩,q⟩
 | _=>exact (show False from e).elim
end
end L2
namespace L2
open PySem PySem.Spec PyProof.Rows
section
variable {prog:Program}{w:World}{A:Around}{E:Value→Shared→Prop}{s:Shared}{K:PySem.W.Frag}{x dx C f:Addr}{mA:Str→Option Value}{name:Str}{v:Value}
end
theorem RelO.some_of {v:V}{o:Option Value}(r:RelO (some v) o):∃u,o=some u∧RelV v u:=by
 cases o with
 | none=>exact (show False from r).elim
 | some u=>exact ⟨u,rfl,r⟩
structure Cls (K:PySem.W.Frag)(C:Addr):Prop where
 pg:PySem.W.plainGet K C Str.empty=true
 hd:PySem.W.hasDictIn K C=true
 po:PySem.W.plainOver K C=true
 sa:PySem.W.findIn K (.ref C) "__setattr__" = some (some (.builtin "object.__setattr__"))
theorem Cls.get {K:PySem.W.Frag}{C:Addr}(c:Cls K C)(f:Str):PySem.W.plainGet K C f=true:=c.pg
section
variable {X:Cx}{pins:List (Addr×Obj)}{σ:St}{H:Hp}{s:Shared}{a C dx:Addr}{fs:List (Str×V)}{f:Str}{v:V}{A:Around}{E:Value→Shared→Prop}
end
end L2
namespace L2
open PySem PySem.Spec PyProof.Rows
structure Room (k:Nat)(A:Around):Prop where
 hd:A.handled=none
 dp:A.depth + 3 * k + 5 < recursionLimit
 un:A.units + 16 * k + 200 < cLine
theorem Room.mono {j k:Nat}{A:Around}(r:Room k A)(h:j≤k):Room j A:=⟨r.hd,by have:=r.dp; omega,by have:=r.un; omega⟩
theorem Room.deeper {k:Nat}{A:Around}(r:Room (k + 1) A)(env:Env):Room k (A.deeper env) :=
 ⟨r.hd,by have:=r.dp; show A.depth + 1 + 3 * k + 5 < _; omega,by have:=r.un; show A.units + 3 + 16 * k + 200 < _; omega⟩
theorem Room.in1 {k:Nat}{A:Around}(r:Room (k + 1) A):Room k A.in1 :=
 ⟨r.hd,by have:=r.dp; show A.depth + 3 * k + 5 < _; omega,by have:=r.un; show A.units + 1 + 16 * k + 200 < _; omega⟩
theorem Room.depth {k:Nat}{A:Around}(r:Room k A):A.depth < recursionLimit:=by have:=r.dp; omega
theorem Room.units {k:Nat}{A:Around}(r:Room k A):A.units + 64 < cLine:=by have:=r.un; omega
noncomputable def tNil:TA:=fun _ H Q=>Q [] H
noncomputable def zal (ta:TE)(tr:TA):TA:=fun σ H Q=>ta σ H fun x H1=>tr σ H1 fun xs H2=>Q (x::xs) H2
section
variable {X:Cx}{e:Expr}{es:List Expr}{te:TE}{t:TA}{pos:Pos}
theorem vY:PA X [] tNil:=fun _ _ _ _ H Q I h=>Calls.spliced_nil ⟨[],H,I,.nil,h⟩
theorem xM (ha:PE X e te)(hr:PA X es t)(hs:starEach (e::es) X.env=(false,eval e X.env)::starEach es X.env:=by rfl):PA X (e::es) (zal te t):=by
 intro pos pins s σ H Q I h
 rw [hs]
 show wpAny _ _ (spliced ((false,eval e X.env)::backTo pos (starEach es X.env))) _ _ s
 refine Calls.spliced_cons (thn (ha pins s σ H _ I h) fun u s1 hq19=>?_)
 obtain ⟨x,H1,I1,r1,q1⟩:=hq19
 exact thn (hr pos pins s1 σ H1 _ I1 q1) fun us s2 ⟨xs,H2,I2,r2,q2⟩=>⟨x::xs,H2,I2,.cons r1 r2,q2⟩
noncomputable def tTup (t:TA):TE:=fun σ H Q=>t σ H fun xs H1=>xs.length≤sizeLine∧∀p,H1 p=none→Q (.ref p) (upd H1 p (.tup xs))
noncomputable def tLst (t:TA):TE:=fun σ H Q=>t σ H fun xs H1=>xs.length≤sizeLine∧∀p,H1 p=none→Q (.ref p) (upd H1 p (.lst xs))
theorem pe_tup {x1}(h:PA X es t):PE X (.Tuple es x1 pos) (tTup t):=by
 intro pins s σ H Q I hq
 refine wpAny_Tuple_spliced (thn (h pos pins s σ H _ I hq) fun us s1 ⟨xs,H1,I1,r,z,q⟩=>⟨by rw [← r.length]; exact z,?_⟩)
 have hf:H1 s1.heap.objs.size=none:=I1.hok.fresh (Nat.le_refl _)
 refine ⟨.ref s1.heap.objs.size,upd H1 s1.heap.objs.size (.tup xs),I1.laid (t':=s1.toks) (fun b u e=>Heap.get?_push_of_some _ e) (Nat.le_refl _) ?_,rfl,q _ hf⟩
 exact ⟨z,us,r,TupD.new _ _⟩
theorem pe_lst (h:PA X es t):PE X (.List es pos) (tLst t):=by
 intro pins s σ H Q I hq
 refine wpAny_List_spliced (thn (h pos pins s σ H _ I hq) fun us s1 ⟨xs,H1,I1,r,z,q⟩=>⟨by rw [← r.length]; exact z,?_⟩)
 have hf:H1 s1.heap.objs.size=none:=I1.hok.fresh (Nat.le_refl _)
 refine ⟨.ref s1.heap.objs.size,upd H1 s1.heap.objs.size (.lst xs),I1.laid (t':=s1.toks) (fun b u e=>Heap.get?_push_of_some _ e) (Nat.le_refl _) ?_,rfl,q _ hf⟩
 exact ⟨z,us,0,r,Heap.get?_push_size _ rfl⟩
end
noncomputable abbrev Sp:=List V→Hp→VK→XK→Prop
noncomputable abbrev CXT:=List Env→Hp→Shared→XK→Value→Shared→Prop
structure Env0 (P:Program)(w:World)(K:PySem.W.Frag)(mg:Str→Option Value)(base:Heap)(A:Around)(outer:List Env)(s:Shared)(H:Hp):Prop where
 frames:A.frames=some outer
 mod:Mod K mg base
 bs:∀b o,base.get? b=some o→s.heap.get? b=some o∧H b=none
 bsz:base.objs.size≤s.heap.objs.size
 funs:s.heap.FunFrames base outer
 frf:∀b∈frs outer,H b=none
 hok:HOk P w H s.heap
 bare:AllBare s.gens
noncomputable def CE (outer:List Env)(P:Program)(w:World)(H:Hp)(s:Shared)(Q:VK)(u:Value)(s':Shared):Prop :=
 ∃v H',s'.os=s.os∧AllBare s'.gens∧Un (frs outer) [] H H' s.heap s'.heap∧HOk P w H' s'.heap∧RelV v u∧Q v H'
noncomputable def CR (CX:CXT)(outer:List Env)(P:Program)(w:World)(H:Hp)(s:Shared)(Q:VK)(E:XK)(r:Result)(s':Shared):Prop :=
 match r with
 | .ok (.ret u)=>CE outer P w H s Q u s'
 | .ok _=>False
 | .error e=>CX outer H s E e s'
structure FnOk (P:Program)(w:World)(K:PySem.W.Frag)(mg:Str→Option Value)(base:Heap)(CX:CXT)(k:Nat)(f:Addr)(fd:FuncData)(ps:List Str)(sp:Sp):Prop where
 len:∀vs H Q E,sp vs H Q E→vs.length=ps.length
 run:∀(A:Around) (outer:List Env) (s:Shared) (H:Hp) (args:Args) (us:List Value) (vs:List V) (Q:VK) (E:XK),Room k A→Env0 P w K mg base A outer s H→BindsTo s fd args (ps.zip us)→Vals vs us→sp vs H Q E →
  codeAny (model P w) A (.call (.ref f) args) (CR CX outer P w H s Q E) s
theorem FnOk.mono {P:Program}{w:World}{K:PySem.W.Frag}{mg:Str→Option Value}{base:Heap}{CX:CXT}{j k:Nat}{f:Addr}{fd:FuncData}{ps:List Str}{sp:Sp}(F:FnOk P w K mg base CX j f fd ps sp)(h:j≤k) :
  FnOk P w K mg base CX k f fd ps sp:=⟨F.len,fun A outer s H args us vs Q E hr=>F.run A outer s H args us vs Q E (hr.mono h)⟩
theorem Env0.in1 {P:Program}{w:World}{K:PySem.W.Frag}{mg:Str→Option Value}{base:Heap}{A:Around}{outer:List Env}{s:Shared}{H:Hp}(e:Env0 P w K mg base A outer s H) :
  Env0 P w K mg base A.in1 outer s H:=⟨e.frames,e.mod,e.bs,e.bsz,e.funs,e.frf,e.hok,e.bare⟩
section
variable {X:Cx}{pins:List (Addr×Obj)}{σ:St}{H:Hp}{s s':Shared}
theorem Inv.env0 (I:Inv X pins σ H s):Env0 X.prog X.w X.K X.mg X.base X.A X.stack s H :=
 ⟨I.ok.frames,I.ok.mod,I.bs,Nat.le_trans I.ok.bsz I.sz,I.stack,I.stkFree,I.hok,I.bare⟩
theorem Inv.after {Q:VK}{u:Value}(I:Inv X pins σ H s)(h:CE X.stack X.prog X.w H s Q u s'):EP X pins σ Q u s':=by
 obtain ⟨v,H',os,bare,un,hok,r,q⟩:=h
 obtain ⟨hh,g,d,t,os'⟩:=s'
 obtain rfl:os'=s.os:=os
 exact ⟨v,H',I.call (h':=hh) (g':=g) (d':=d) (t':=t) (ch:=[]) un hok bare (fun b z=>absurd z (by simp)),r,q⟩
end
noncomputable def tCall (sp:Sp)(dvs:List V)(E:XK)(t:TA):TE:=fun σ H Q=>t σ H fun vs H1=>sp (vs++dvs) H1 Q E
noncomputable def Binds (K:PySem.W.Frag)(fd:FuncData)(ps:List Str)(ds:List Value):Prop :=
 ∀(s:Shared) (us:List Value),K.In s.heap→(us++ds).length=ps.length→BindsTo s fd ⟨us,[]⟩ (ps.zip (us++ds))
theorem Binds.all {K:PySem.W.Frag}{fd:FuncData}{ps:List Str}(h:∀us:List Value,us.length=ps.length→bindArgs fd ⟨us,[]⟩=pure (ps.zip us)):Binds K fd ps []:=fun s us _ hl=>by
 rw [List.append_nil] at hl ⊢
 exact .of_eq (h us hl)
noncomputable def zcV (CX:CXT)(X:Cx)(E:XK):Prop:=∀(pins:List (Addr×Obj)) (σ:St) (H:Hp) (s:Shared) (e:Value) (s':Shared),Inv X pins σ H s→CX X.stack H s E e s'→X.xe e s'
section
variable {X:Cx}{CX:CXT}{k:Nat}{f C:Addr}{fd:FuncData}{ps:List Str}{sp:Sp}{dvs:List V}{ds:List Value}{E:XK}{x m:Str}{p pos apos:Pos}{e o:Expr}{es:List Expr}{ta:TE}{t:TA}
theorem run_fn {pins:List (Addr×Obj)}{σ:St}{H:Hp}{s:Shared}{Q:VK}{us:List Value}{vs:List V}(F:FnOk X.prog X.w X.K X.mg X.base CX k f fd ps sp)(hr:Room k X.A)(hb:Binds X.K fd ps ds)(hd:Vals dvs ds)(hx:zcV CX X E)
  (I:Inv X pins σ H s) (r:Vals vs us) (h:sp (vs++dvs) H Q E):wpAny (model X.prog X.w) X.A (call (.ref f) us) (EP X pins σ Q) X.xe s:=by
 have r2:Vals (vs++dvs) (us++ds):=r.append hd
 have hl:(us++ds).length=ps.length:=by rw [← r2.length]; exact F.len _ _ _ _ h
 refine wpAny_call (codeAny_mono (F.run X.A X.stack s H ⟨us,[]⟩ (us++ds) (vs++dvs) Q E hr I.env0 (hb s us I.kIn hl) r2 h) fun r s' hq=>?_)
 cases r with
 | error e=>exact hx pins σ H s e s' I hq
 | ok fl =>
  cases fl with
  | ret u=>exact I.after hq
  | next=>exact False.elim hq
  | brk=>exact False.elim hq
  | cont=>exact False.elim hq
theorem pe_call (F:FnOk X.prog X.w X.K X.mg X.base CX k f fd ps sp)(hr:Room k X.A)(hg:Gl X x)(hm:X.mg x=some (.ref f))(hk:PySem.W.keepIn X.K (.ref f)=true)(hb:Binds X.K fd ps ds)(hd:Vals dvs ds)(hx:zcV CX X E)
  (ha:PA X (e::es) t) (hdb:(x == ("__debug__" : Str))=false:=by decide) (he:starEach (e::es) X.env=(false,eval e X.env)::starEach es X.env:=by rfl) (hpl:(backTo pos (starEach es X.env)).any (·.1)=false:=by rfl) :
  PE X (.Call (.Name x p) (e::es) [] pos) (tCall sp dvs E t):=by
 intro pins s σ H Q I h
 refine wpAny_Call_Name_kw (jJ I hg hm ?_ hdb)
 refine PySem.W.callWith_K (h₀:=X.base) I.ok.mod.kin hk (thn (ha pos pins s σ H _ I h) fun us s1 ⟨vs,H1,I1,r,q⟩=>⟨I1.kIn,?_⟩) he hpl
 exact run_fn F hr hb hd hx I1 r q
end
structure FnScope (N P:List Str)(sc:Scope):Prop where
 kind:sc.kind=.function
 co:sc.isCoroutine=false
 gen:sc.isGenerator=false
 nd:N.Nodup
 pre:N.take P.length=P
 par:∀x∈P,sc.names.lookup x=some .local∨sc.names.lookup x=some .cell
 nofree:∀y∈sc.names,y.2≠.free
theorem zdj {kindOf:Str→Option NameKind}{x:Str}:∀{binds:List (Str×Value)}{m:Str→Option Value},(∀v,(x,v)∉binds)→bindL kindOf binds m x=m x
 | [],_,_=>rfl
 | (n,v)::r,m,h=>by
  unfold bindL
  rw [zdj fun w hw=>h w (List.mem_cons_of_mem _ hw)]
  split
  ·have:x≠n:=by rintro rfl; exact h v List.mem_cons_self
   simp [this]
  ·rfl
theorem zc8 {kindOf:Str→Option NameKind}{x:Str}:∀{binds:List (Str×Value)}{m:Str→Option Value},(∀v,(x,v)∉binds)→bindC kindOf binds m x=m x
 | [],_,_=>rfl
 | (n,v)::r,m,h=>by
  unfold bindC
  rw [zc8 fun w hw=>h w (List.mem_cons_of_mem _ hw)]
  split
  ·rfl
  ·have:x≠n:=by rintro rfl; exact h v List.mem_cons_self
   simp [this]
theorem zdi {kindOf:Str→Option NameKind}{x:Str}{v:Value}:∀{P:List Str}{vs:List Value}{i:Nat}{m:Str→Option Value},P.Nodup→P[i]? = some x→vs[i]? = some v→kindOf x=some .local →
  bindL kindOf (P.zip vs) m x=some v
 | [],_,_,_,_,h,_,_=>by simp at h
 | _::_,[],_,_,_,_,h,_=>by simp at h
 | p::P,w::vs,0,m,nd,h1,h2,hk=>by
  simp at h1 h2; subst h1; subst h2
  show bindL kindOf ((p,w)::P.zip vs) m p=_
  unfold bindL
  rw [zdj fun v hv=>(List.nodup_cons.mp nd).1 (List.of_mem_zip hv).1,if_pos hk]
  simp
 | p::P,w::vs,i + 1,m,nd,h1,h2,hk=>by
  show bindL kindOf ((p,w)::P.zip vs) m x=_
  unfold bindL
  exact zdi (i:=i) (List.nodup_cons.mp nd).2 (by simpa using h1) (by simpa using h2) hk
theorem zde {kindOf:Str→Option NameKind}{x:Str}{v:Value}:∀{P:List Str}{vs:List Value}{i:Nat}{m:Str→Option Value},P.Nodup→P[i]? = some x→vs[i]? = some v→kindOf x≠some .local →
  bindC kindOf (P.zip vs) m x=some v
 | [],_,_,_,_,h,_,_=>by simp at h
 | _::_,[],_,_,_,_,h,_=>by simp at h
 | p::P,w::vs,0,m,nd,h1,h2,hk=>by
  simp at h1 h2; subst h1; subst h2
  show bindC kindOf ((p,w)::P.zip vs) m p=_
  unfold bindC
  rw [zc8 fun v hv=>(List.nodup_cons.mp nd).1 (List.of_mem_zip hv).1,if_neg hk]
  simp
 | p::P,w::vs,i + 1,m,nd,h1,h2,hk=>by
  show bindC kindOf ((p,w)::P.zip vs) m x=_
  unfold bindC
  exact zde (i:=i) (List.nodup_cons.mp nd).2 (by simpa using h1) (by simpa using h2) hk
noncomputable def start (N:List Str)(vs:List V):St:=vs.map some++List.replicate (N.length - vs.length) none
noncomputable def zag (CX:CXT)(P:Program)(w:World)(K:PySem.W.Frag)(mg:Str→Option Value)(base:Heap)(N:List Str)(qual:Str)(scope:Scope)(f:Addr)(cd:Value)(A:Around)(outer:List Env)(s:Shared)(H:Hp)(E:XK):Cx where
 prog:=P
 w:=w
 K:=K
 mg:=mg
 base:=base
 A:=A.deeper (envOfC qual scope s.heap.objs.size f cd)
 N:=N
 s₀:=s
 H₀:=H
 env:=envOfC qual scope s.heap.objs.size f cd
 outer:=outer
 stack:=envOfC qual scope s.heap.objs.size f cd::outer
 ex:=[]
 calm:=true
 fn:=fun _=>true
 pn:=[]
 xe:=fun e s'=>wpAny (model P w) (A.deeper (envOfC qual scope s.heap.objs.size f cd)) (leaving (envOfC qual scope s.heap.objs.size f cd) e) (fun _ s''=>CX outer H s E e s'') (fun e' s''=>CX outer H s E e' s'') s'
theorem zas {sc:Scope}{n:Nat}{x:Str}(h:sc.names.lookup x=some .cell):∃c,(cellsFrom n sc.names []).lookup x=some c:=by
 have q:=PySem.W.cellsFrom_some sc.names n [] (.inl h)
 exact Option.isSome_iff_exists.mp q
theorem zcw {CX:CXT}{P:Program}{w:World}{K:PySem.W.Frag}{mg:Str→Option Value}{base:Heap}{N ps:List Str}{qual:Str}{scope:Scope}{f:Addr}{cd:Value}{A:Around}{outer:List Env}{s s1:Shared}{H:Hp}{E:XK}{us:List Value}{vs:List V}
  (S:FnScope N ps scope) (hd:A.handled=none) (e0:Env0 P w K mg base A outer s H) (hl:vs.length=ps.length) (r:Vals vs us)
  (x:InCallC s s.heap.objs.size (bindL (envOfC qual scope s.heap.objs.size f cd).kindOf (ps.zip us) fun _=>none) (cellsFrom (s.heap.objs.size + 1) scope.names []) (bindC (envOfC qual scope s.heap.objs.size f cd).kindOf (ps.zip us) fun _=>none) s1) :
  Inv (zag CX P w K mg base N qual scope f cd A outer s H E) [] (start N vs) H s1:=by
 have hpl:ps.length≤N.length:=by have:=congrArg List.length S.pre; rw [List.length_take] at this; omega
 obtain ⟨h1,tk,rfl,hk⟩:=x.done
 have noA:∀b:Addr,b∉(zag CX P w K mg base N qual scope f cd A outer s H E).ex:=fun b z=>absurd (show b∈([]:List Addr) from z) (by simp)
 refine ⟨⟨e0.mod,S.kind,rfl,rfl,Nat.le_refl _,fun y z c h1 h2=>?_,fun y hy=>?_,fun y c _ h=>?_,fun _=>hd,Around.frames_deeper e0.frames,.inr ⟨rfl,rfl⟩,fun b z=>absurd z (noA b),e0.bs,e0.bsz,fun b _ _=>noA b,fun b z=>absurd z (noA b),e0.funs,e0.frf⟩,
  rfl,e0.bare,Un.kept hk,⟨_,x.toInCall.ns,fun i y v h1 h2 h3=>?_⟩,fun y c h=>⟨_,x.cell y c h⟩,e0.hok.fresh (Nat.le_refl _),fun y c h=>?_,fun p hp=>absurd (show p∈([]:List (Addr×Obj)) from hp) (by simp),e0.hok.kept hk,?_⟩
 ·exact name_of_addr x.apart (PySem.mem_of_lookup h1) (PySem.mem_of_lookup h2)
 ·have hy:scope.names.lookup y=some .cell∨scope.names.lookup y=some .free:=hy
  rcases hy with hy | hy
  ·exact zas hy
  ·exact absurd rfl (S.nofree _ (PySem.mem_of_lookup hy))
 ·exact Nat.le_of_lt (x.above y c (PySem.mem_of_lookup h))
 ·have hi:i < vs.length:=by
   unfold start at h2
   by_cases hi:i < vs.length
   ·exact hi
   ·rw [List.getElem?_append_right (by simpa using hi)] at h2
    rw [List.getElem?_replicate] at h2
    split at h2 <;> cases h2
  have ha:vs[i]? = some v:=by
   unfold start at h2
   rw [List.getElem?_append_left (by simpa using hi),List.getElem?_map] at h2
   cases e:vs[i]? with
   | none=>rw [e] at h2; cases h2
   | some a=>rw [e] at h2; cases h2; rfl
  obtain ⟨u,hu,rv⟩:=r.get ha
  have hp:ps[i]? = some y:=by
   rw [← S.pre,List.getElem?_take_of_lt (by omega)]; exact h1
  have ndP:ps.Nodup:=by rw [← S.pre]; exact S.nd.sublist (List.take_sublist _ _)
  refine ⟨u,rv,?_⟩
  rcases S.par y (List.mem_of_getElem? hp) with k | k
  ·exact .inl ⟨k,zdi ndP hp hu k⟩
  ·obtain ⟨c,e⟩:=zas (n:=s.heap.objs.size + 1) k
   refine .inr ⟨.inl k,c,e,?_⟩
   have q:=x.cell y c e
   rw [zde ndP hp hu (by show scope.names.lookup y≠_; rw [k]; decide)] at q
   exact q
 ·exact e0.hok.fresh (Nat.le_of_lt (x.above y c (PySem.mem_of_lookup h)))
 ·unfold start
  show _=N.length
  rw [List.length_append,List.length_map,List.length_replicate]
  omega
theorem fn_of {CX:CXT}{P:Program}{w:World}{K:PySem.W.Frag}{mg:Str→Option Value}{base:Heap}{k:Nat}{f:Addr}{name qual:Str}{params:Arguments}{body:List Stmt}{scope:Scope}{dV kV doc pm cdv ct oc:Value}{an od:Option Addr}
  {osl:Array (Option Value)}{N ps:List Str}{sp:Sp} (lk:K.lookup f=some ⟨oc,od,.func (PySem.W.fnOf name qual params body scope dV kV doc pm an cdv ct),osl⟩) (hcd:PySem.W.codeIn K cdv qual=true) (S:FnScope N ps scope)
  (len:∀vs H Q E,sp vs H Q E→vs.length=ps.length)
  (hbody:∀(A:Around) (outer:List Env) (s:Shared) (H:Hp) (vs:List V) (Q:VK) (E:XK),Room k (A.deeper (envOfC qual scope s.heap.objs.size f cdv))→sp vs H Q E →
   ∃t,PSs (zag CX P w K mg base N qual scope f cdv A outer s H E) body t∧t { nx:=fun _ H'=>Q .non H',rt:=Q } (start N vs) H) :
  FnOk P w K mg base CX (k + 1) f (PySem.W.fnOf name qual params body scope dV kV doc pm an cdv ct) ps sp:=by
 refine ⟨len,fun A outer s H args us vs Q E hr e0 hb r hsp=>?_⟩
 have hl:=len _ _ _ _ hsp
 have KX:K.In s.heap:=e0.mod.kin.keeps fun b o e=>(e0.bs b o e).1
 have lim:s.heap.NoLimit:=e0.mod.nolimit.keeps fun b o e=>(e0.bs b o e).1
 have hkind:∀y∈ps.zip us,scope.names.lookup y.1=some .local∨(scope.names.lookup y.1=some .cell∧((cellsFrom (s.heap.objs.size + 1) scope.names []).lookup y.1).isSome=true):=fun ⟨n,v⟩ hy=>by
  rcases S.par n (List.of_mem_zip hy).1 with q | q
  ·exact .inl q
  ·exact .inr ⟨q,PySem.W.cellsFrom_some _ _ _ (.inl q)⟩
 refine codeAny_call_function hr.depth (KX _ _ lk) rfl S.co S.gen rfl (PySem.W.codeRec_of KX hcd) (hb _ _ _ _ ?_)
 refine wpAny_newFunctionEnv_cells S.kind hkind fun env he s1 x=>?_
 subst he
 refine ⟨lim.keeps x.toInCall.keep,codeAny_func ?_⟩
 obtain ⟨t,ht,hq⟩:=hbody A outer s H vs Q E (hr.deeper _) hsp
 have I:Inv (zag CX P w K mg base N qual scope f cdv A outer s H E) [] (start N vs) H s1:=zcw S hr.hd e0 hl r x
 refine wpAny_mono (ht [] s1 (start N vs) H _ I hq) (fun fl s' hs=>?_) fun e s' hs=>hs
 have fin:∀{σ':St}{H':Hp}{v:V}{u:Value},Inv (zag CX P w K mg base N qual scope f cdv A outer s H E) [] σ' H' s'→RelV v u→Q v H'→CE outer P w H s Q u s' :=
  fun {σ' H' v u} J rv q=>⟨v,H',J.os,J.bare,J.base,J.hok,rv,q⟩
 cases fl with
 | ret u =>
  obtain ⟨v,σ',H',J,rv,q⟩:=hs
  exact fin J rv q
 | next =>
  obtain ⟨σ',H',J,q⟩:=hs
  exact fin (v:=V.non) (u:=Value.none) J rfl q
 | brk =>
  obtain ⟨_,_,_,q⟩:=hs
  exact False.elim q
 | cont =>
  obtain ⟨_,_,_,q⟩:=hs
  exact False.elim q
end L2
namespace L2
open PySem PySem.Spec PyProof.Rows
section
variable {X:Cx}{x:Str}{p pos:Pos}{e:Expr}{es:List Expr}{t:TA}{id T:String}{r:List V→Hp→VK→Prop}
noncomputable def tCB (r:List V→Hp→VK→Prop)(t:TA):TE:=fun σ H Q=>t σ H fun vs H1=>r vs H1 Q
theorem zau (hc:qL X (.builtin id) r)(hg:Gl X x)(hm:X.mg x=none)(hv:bootBuiltins x=some (.builtin id))(ha:PA X (e::es) t)(hn:x ≠ "__name__" := by decide)(hdb:(x == ("__debug__" : Str))=false:=by decide)
  (he:starEach (e::es) X.env=(false,eval e X.env)::starEach es X.env:=by rfl) (hpl:(backTo pos (starEach es X.env)).any (·.1)=false:=by rfl):PE X (.Call (.Name x p) (e::es) [] pos) (tCB r t):=by
 intro pins s σ H Q I h
 refine wpAny_Call_Name_kw (ju I hg hm hv ?_ hn hdb)
 exact PyProof.Rows.callWith_builtin1 (thn (ha pos pins s σ H _ I h) fun us s1 ⟨vs,H1,I1,r1,q1⟩=>hc pins s1 σ H1 vs us Q I1 r1 q1) he hpl
theorem zc0 (hc:qL X (.type T) r)(hg:Gl X x)(hm:X.mg x=none)(hv:bootBuiltins x=some (.type T))(ha:PA X (e::es) t)(hn:x ≠ "__name__" := by decide)(hdb:(x == ("__debug__" : Str))=false:=by decide)
  (he:starEach (e::es) X.env=(false,eval e X.env)::starEach es X.env:=by rfl) (hpl:(backTo pos (starEach es X.env)).any (·.1)=false:=by rfl):PE X (.Call (.Name x p) (e::es) [] pos) (tCB r t):=by
 intro pins s σ H Q I h
 refine wpAny_Call_Name_kw (ju I hg hm hv ?_ hn hdb)
 exact PyProof.Rows.callWith_type1 (thn (ha pos pins s σ H _ I h) fun us s1 ⟨vs,H1,I1,r1,q1⟩=>hc pins s1 σ H1 vs us Q I1 r1 q1) he hpl
end
end L2
namespace HT
open PySem PyProof.Rows
section
open PySem.SeqAt
open PySem.AutoSeq1 (wpAny_loadPart')
open PySem.MeetsSeq PySem.MeetsSeq2 PySem.MeetsSeq3
end
section
variable {prog:Program}{w:World}{A:Around}{E:Value→Shared→Prop}{s:Shared}
noncomputable def sIx (n d:Nat):Option Int→Nat
 | none=>d
 | some v=>if v < 0 then (v + (n:Int)).toNat else min v.toNat n
theorem sIx_none (n d:Nat):sIx n d none=d:=rfl
theorem sIx_nat (n d k:Nat):sIx n d (some (k:Int))=min k n:=by
 show (if (k:Int) < 0 then ((k:Int) + (n:Int)).toNat else min (k:Int).toNat n)=min k n
 rw [if_neg (by omega),Int.toNat_natCast]
theorem sIx_le (n d:Nat)(hd:d≤n)(o:Option Int):sIx n d o≤n:=by
 cases o with
 | none=>exact hd
 | some v =>
  show (if v < 0 then (v + (n:Int)).toNat else min v.toNat n)≤n
  by_cases hv:v < 0
  ·rw [if_pos hv]; omega
  ·rw [if_neg hv]; exact Nat.min_le_right _ _
theorem clip_eq (v:Int)(n d:Nat):(if v < 0 then max (v + (n:Int)) 0 else min v (n:Int))=((sIx n d (some v):Nat):Int):=by
 show (if v < 0 then max (v + (n:Int)) 0 else min v (n:Int))=(((if v < 0 then (v + (n:Int)).toNat else min v.toNat n):Nat):Int)
 by_cases hv:v < 0
 ·simp only [if_pos hv]; omega
 ·simp only [if_neg hv]; omega
theorem adjust_gen (lo hi:Option Int)(n:Nat):Builtin.Slice.sliceAdjust lo hi 1 (n:Int)=(((sIx n 0 lo:Nat):Int),((sIx n n hi:Nat):Int)):=by
 have h1:¬((1:Int) < 0):=by omega
 unfold Builtin.Slice.sliceAdjust
 simp only [h1,if_false]
 refine Prod.ext ?_ ?_
 ·cases lo with
  | none=>rfl
  | some v=>exact clip_eq v n 0
 ·cases hi with
  | none=>rfl
  | some v=>exact clip_eq v n n
theorem places_gen (i j:Nat):Builtin.Slice.slicePlaces (i:Int) (j:Int) 1=j - i:=by
 unfold Builtin.Slice.slicePlaces
 have h1:(1:Int) > 0:=by omega
 simp only [h1,if_true,Int.ediv_one]
 split <;> omega
theorem zbn {v:Value}{o:Option Int}{Q:Option Int→Shared→Prop}(p:IsPart v o)(h:Q o s):wpAny (model prog w) A (Builtin.Slice.slicePartIndex v) Q E s:=by
 cases p with
 | none=>exact slicePart_none h
 | int i t=>exact slicePart_int h
theorem sliceApplied_gen {sl:Addr}{vl vu:Value}{lo hi:Option Int}{n:Nat}{Q:Int×Int×Nat→Shared→Prop}(hs:s.heap.IsSliceOf sl vl vu .none)(pl:IsPart vl lo)(pu:IsPart vu hi)
  (h:Q (((sIx n 0 lo:Nat):Int),1,sIx n n hi - sIx n 0 lo) s):wpAny (model prog w) A (Builtin.Slice.sliceApplied (.ref sl) (pure (n:Int))) Q E s:=by
 obtain ⟨os,hos,hcs,hds⟩:=id hs
 unfold Builtin.Slice.sliceApplied Builtin.Slice.sliceFields
 refine wpAny_bind (wpAny_bind (wpAny_field hos hds (x:=vl) rfl (wpAny_bind (wpAny_field hos hds (x:=vu) rfl (wpAny_bind (wpAny_field hos hds (x:=.none) rfl (wpAny_pure ?_)))))))
 refine wpAny_bind (slicePart_none ?_)
 show wpAny _ _ (if ((1:Int) == 0)=true then _ else _) _ _ s
 rw [if_neg (by decide)]
 refine wpAny_bind (zbn pl (wpAny_bind (zbn pu (wpAny_bind (wpAny_pure ?_)))))
 show wpAny _ _ (match Builtin.Slice.sliceAdjust lo hi 1 (n:Int) with | (lo,hi)=>pure (lo,(1:Int),Builtin.Slice.slicePlaces lo hi 1)) _ _ s
 rw [adjust_gen lo hi n]
 show wpAny _ _ (pure (((sIx n 0 lo:Nat):Int),(1:Int),Builtin.Slice.slicePlaces ((sIx n 0 lo:Nat):Int) ((sIx n n hi:Nat):Int) 1)) _ _ s
 rw [places_gen]
 exact wpAny_pure h
theorem pick_gen (xs:Array Value)(i k:Nat):((List.range k).filterMap fun (m:Nat)=>xs[((i:Int) + (m:Int) * 1).toNat]?).toArray=((xs.toList.drop i).take k).toArray:=by
 have e:(fun (m:Nat)=>xs[((i:Int) + (m:Int) * 1).toNat]?)=fun m=>xs[i + m]?:=by
  funext m
  have:((i:Int) + (m:Int) * 1).toNat=i + m:=by omega
  rw [this]
 rw [e]
 have:=pick_run xs i k
 rw [List.filterMap_map] at this
 have e2:((fun x=>xs[x]?)∘fun x=>i + x)=fun m=>xs[i + m]?:=rfl
 rw [e2] at this
 rw [this]
theorem getItem_tuple_cut {t sl:Addr}{items:Array Value}{vl vu:Value}{lo hi:Option Int}{Q:Value→Shared→Prop}(ht:IsTup s.heap t items)(hs:s.heap.IsSliceOf sl vl vu .none)(pl:IsPart vl lo)(pu:IsPart vu hi)
  (hw:¬(sIx items.size 0 lo=0∧sIx items.size items.size hi=items.size))
  (h:Q (.ref s.heap.objs.size) { s with heap:=s.heap.push { cls:=.type "tuple", data:=.seq ((items.toList.drop (sIx items.size 0 lo)).take (sIx items.size items.size hi - sIx items.size 0 lo)).toArray } })
  (hsz:items.size≤sizeLine):wpAny (model prog w) A (getItem (.ref t) (.ref sl)) Q E s:=by
 have htake:sizeOk (.seq ((items.toList.drop (sIx items.size 0 lo)).take (sIx items.size items.size hi - sIx items.size 0 lo)).toArray):=by
  show ((items.toList.drop (sIx items.size 0 lo)).take (sIx items.size items.size hi - sIx items.size 0 lo)).toArray.size≤sizeLine
  rw [List.size_toArray,List.length_take,List.length_drop,Array.length_toList]
  omega
 have hj:sIx items.size items.size hi≤items.size:=sIx_le _ _ (Nat.le_refl _) hi
 obtain ⟨os,hos,hcs,hds⟩:=id hs
 have hTs:s.TypeIs (.ref sl) "slice" := ⟨os,hos,hcs⟩
 unfold getItem
 try with_reducible refine wpAny_holding ?_
 first | refine wpAny_bind (wpAny_pure ?_) | skip
 refine wpAny_bind (wpAny_sequenceKey ht.typeIs (by decide) ?_)
 refine wpAny_bind (wpAny_callSpecial?_slot (name:=Str.ofString "__getitem__") ht.typeIs PyProof.Rows.slot_tuple_getitem
  (wpAny_call_entry PyProof.Rows.slot_tuple_getitem ht.typeIs entry_tuple_getitem ?_ (args_tuple_getitem _ _)))
 show wpAny _ _ (Builtin.Tuple.tupleItemsOf (.ref t) >>= _) _ _ s
 refine wpAny_bind (tupleItemsOf_ ht ?_)
 refine wpAny_bind (wpAny_typeOf hTs ?_)
 rw [if_pos (by decide)]
 refine wpAny_bind (sliceApplied_gen hs pl pu ?_)
 have hno:¬((((sIx items.size 0 lo:Nat):Int) == 0&&(1:Int) == 1&&(sIx items.size items.size hi - sIx items.size 0 lo) == items.size)=true):=by
  intro q
  rw [Bool.and_eq_true,Bool.and_eq_true] at q
  have q1:((sIx items.size 0 lo:Nat):Int)=0:=eq_of_beq q.1.1
  have q2:sIx items.size items.size hi - sIx items.size 0 lo=items.size:=eq_of_beq q.2
  exact hw ⟨by omega,by omega⟩
 show wpAny _ _ (if (((sIx items.size 0 lo:Nat):Int) == 0&&(1:Int) == 1&&(sIx items.size items.size hi - sIx items.size 0 lo) == items.size)=true then _ else _) _ _ s
 rw [if_neg hno,pick_gen]
 first
  | exact wpAny_bind (m:=Builtin.Tuple.tupleExact _) (wpAny_newObj_type (wpAny_pure ⟨_,rfl,wpAny_pure h⟩) htake)
  | exact wpAny_bind (m:=Builtin.Tuple.tupleExact _) (wpAny_newObj_type (wpAny_bind (wpAny_pure (wpAny_pure ⟨_,rfl,wpAny_pure h⟩))) htake)
  | exact wpAny_bind (wpAny_bind (m:=Builtin.Tuple.tupleExact _) (wpAny_newObj_type (wpAny_pure (wpAny_pure ⟨_,rfl,wpAny_pure h⟩)) htake))
  | exact wpAny_bind (wpAny_bind (m:=Builtin.Tuple.tupleExact _) (wpAny_newObj_type (wpAny_pure ⟨_,rfl,wpAny_pure h⟩) htake))
end
end HT
namespace L2
open PySem PySem.Spec PyProof.Rows
noncomputable abbrev TO:=St→Hp→(Option Int→Hp→Prop)→Prop
noncomputable def PO (X:Cx)(e:Option Expr)(t:TO):Prop :=
 ∀ (pins:List (Addr×Obj)) (s:Shared) (σ:St) (H:Hp) (Q:Option Int→Hp→Prop),Inv X pins σ H s→t σ H Q →
  wpAny (model X.prog X.w) X.A (evalPart e X.env) (fun u s'=>∃o H',Inv X pins σ H' s'∧IsPart u o∧Q o H') X.xe s
noncomputable def tNoPart:TO:=fun _ H Q=>Q none H
noncomputable def tPart (t:TE):TO:=fun σ H Q=>t σ H fun x H1=>∃i,x=.int i∧Q (some i) H1
section
variable {X:Cx}{e:Expr}{te:TE}{lo hi:Option Expr}{tl th:TO}{pos p2:Pos}
theorem po_none:PO X none tNoPart:=by
 intro pins s σ H Q I h
 rw [evalPart_none]
 exact wpAny_pure ⟨none,H,I,.none,h⟩
theorem po_some (h:PE X e te):PO X (some e) (tPart te):=by
 intro pins s σ H Q I hw
 rw [evalPart_some]
 refine thn (h pins s σ H _ I hw) fun u s1 hq20=>?_
 obtain ⟨x,H1,I1,r1,q1⟩:=hq20
 obtain ⟨i,rfl,q⟩:=q1
 obtain ⟨t,rfl⟩:=r1
 exact ⟨some i,H1,I1,.int i t,q⟩
noncomputable def SlR (X:Cx)(r:V→Option Int→Option Int→Hp→VK→Prop):Prop :=
 ∀ (pins:List (Addr×Obj)) (s:Shared) (σ:St) (H:Hp) (x:V) (v vl vu:Value) (lo hi:Option Int) (sl:Addr) (Q:VK),Inv X pins σ H s→RelV x v→s.heap.IsSliceOf sl vl vu .none→IsPart vl lo→IsPart vu hi→r x lo hi H Q →
  ∃T id,typeLookup (.type T) "__getitem__" = pure (some (.builtin id))∧s.TypeIs v T∧wpAny (model X.prog X.w) X.A (getItem v (.ref sl)) (EP X pins σ Q) X.xe s
theorem SlR.or {r r':V→Option Int→Option Int→Hp→VK→Prop}(h:SlR X r)(h':SlR X r'):SlR X (fun x lo hi H Q=>r x lo hi H Q∨r' x lo hi H Q):=by
 intro pins s σ H x v vl vu lo hi sl Q I rx hs pl pu q
 rcases q with q | q
 ·exact h pins s σ H x v vl vu lo hi sl Q I rx hs pl pu q
 ·exact h' pins s σ H x v vl vu lo hi sl Q I rx hs pl pu q
noncomputable def tSl (r:V→Option Int→Option Int→Hp→VK→Prop)(te:TE)(tl th:TO):TE:=fun σ H Q=>te σ H fun x H1=>tl σ H1 fun l H2=>th σ H2 fun u H3=>r x l u H3 Q
theorem pe_slice {r:V→Option Int→Option Int→Hp→VK→Prop}(hr:SlR X r)(he:PE X e te)(hl:PO X lo tl)(hu:PO X hi th):PE X (.Subscript e (.Slice lo hi none p2) pos) (tSl r te tl th):=by
 intro pins s σ H Q I h
 refine Subscript_ (thn (he pins s σ H _ I h) fun v s1 hq21=>?_)
 obtain ⟨x,H1,I1,r1,q1⟩:=hq21
 refine wpAny_Slice (thn (hl pins s1 σ H1 _ I1 q1) fun vl s2 ⟨l,H2,I2,pl,q2⟩=>thn (hu pins s2 σ H2 _ I2 q2) fun vu s3 hq22=>?_)
 obtain ⟨u,H3,I3,pu,q3⟩:=hq22
 rw [evalPart_none]
 refine wpAny_pure ?_
 have I4:Inv X pins σ H3 { s3 with heap:=s3.heap.push { cls:=.type "slice", data:=.fields #[vl,vu,.none] } }:=I3.kept (t':=s3.toks) fun b ob q=>Heap.get?_push_of_some _ q
 obtain ⟨T,id,hT,ht,hg⟩:=hr pins { s3 with heap:=s3.heap.push { cls:=.type "slice", data:=.fields #[vl,vu,.none] } } σ H3 x v vl vu l u s3.heap.objs.size Q I4 r1 (Heap.IsSliceOf.new ..) pl pu q3
 show wpAny (model X.prog X.w) X.A (subscriptTail e (.Slice lo hi none p2) v (.ref s3.heap.objs.size)) (EP X pins σ Q) X.xe { s3 with heap:=s3.heap.push { cls:=.type "slice", data:=.fields #[vl,vu,.none] } }
 exact tail_any (ops:=[.ref s3.heap.objs.size,v]) ht hT hg (by with_unfolding_all rfl)
noncomputable def cutV (xs:List V)(lo hi:Option Int):List V:=(xs.drop (HT.sIx xs.length 0 lo)).take (HT.sIx xs.length xs.length hi - HT.sIx xs.length 0 lo)
theorem zaY (xs:List V)(lo hi:Option Int):(cutV xs lo hi).length≤xs.length:=by
 unfold cutV
 rw [List.length_take,List.length_drop]
 omega
noncomputable def rSlT (K:PySem.W.Frag):V→Option Int→Option Int→Hp→VK→Prop:=fun x lo hi H Q=>∃a xs,x=.ref a∧SqT K H a xs ∧
 ¬(HT.sIx xs.length 0 lo=0∧HT.sIx xs.length xs.length hi=xs.length)∧∀p,H p=none→Q (.ref p) (upd H p (.tup (cutV xs lo hi)))
theorem sl_tup:SlR X (rSlT X.K):=by
 intro pins s σ H x v vl vu lo hi sl Q I rx hs pl pu h
 obtain ⟨a,xs,rfl,hx,hw,q⟩:=h
 cases rx
 obtain ⟨its,r,ht,hz⟩:=I.tuple hx
 have hlen:its.toArray.size=xs.length:=by rw [List.size_toArray]; exact r.length.symm
 refine ⟨"tuple", _,PyProof.Rows.slot_tuple_getitem.lookup,ht.typeIs,?_⟩
 refine HT.getItem_tuple_cut ht hs pl pu (by rw [hlen]; exact hw) ?_ (by rw [hlen]; exact hz)
 rw [hlen]
 refine ⟨.ref s.heap.objs.size,_,I.laid (t':=s.toks) (o:=.tup (cutV xs lo hi)) (fun b ob q=>Heap.get?_push_of_some _ q) (Nat.le_refl _) ?_,rfl,q _ (I.hok.fresh (Nat.le_refl _))⟩
 exact ⟨Nat.le_trans (zaY xs lo hi) hz,_,(r.drop (HT.sIx xs.length 0 lo)).take (HT.sIx xs.length xs.length hi - HT.sIx xs.length 0 lo),TupD.new _ _⟩
end
end L2
namespace L2
open PySem PySem.Spec PyProof.Rows
noncomputable def ixN (n:Nat)(i:Int):Option Nat:=if 0≤i then (if i < n then some i.toNat else none) else if -(n:Int)≤i then some (i + n).toNat else none
noncomputable def atI {α:Type}(xs:List α)(i:Int):Option α:=(ixN xs.length i).bind fun j=>xs[j]?
theorem ixN_seq {n:Nat}{i:Int}{j:Nat}(h:ixN n i=some j):seqIndex? i n=some j∧j < n∧-(n:Int)≤i∧i < n:=by
 unfold ixN at h
 by_cases h0:0≤i
 ·rw [if_pos h0] at h
  by_cases h1:i < n
  ·rw [if_pos h1] at h
   have e:i.toNat=j:=Option.some.inj h
   exact ⟨by rw [seqIndex_of h0 h1,e],by omega,by omega,h1⟩
  ·rw [if_neg h1] at h; cases h
 ·rw [if_neg h0] at h
  by_cases h1:-(n:Int)≤i
  ·rw [if_pos h1] at h
   have e:(i + n).toNat=j:=Option.some.inj h
   exact ⟨by rw [seqIndex_neg (by omega) h1,e],by omega,h1,by omega⟩
  ·rw [if_neg h1] at h; cases h
theorem zdD {α:Type}{xs:List α}{i:Int}{v:α}(h:atI xs i=some v):∃j,seqIndex? i xs.length=some j∧xs[j]? = some v∧j < xs.length∧-(xs.length:Int)≤i∧i < xs.length:=by
 unfold atI at h
 cases e:ixN xs.length i with
 | none=>rw [e] at h; cases h
 | some j =>
  rw [e] at h
  obtain ⟨h1,h2,h3,h4⟩:=ixN_seq e
  exact ⟨j,h1,h,h2,h3,h4⟩
theorem zds {α:Type}{xs:List α}{j:Nat}{v:α}(h:xs[j]? = some v):atI xs (j:Int)=some v:=by
 have hj:j < xs.length:=(List.getElem?_eq_some_iff.mp h).1
 have e:ixN xs.length (j:Int)=some j:=by
  unfold ixN
  rw [if_pos (by omega),if_pos (by omega)]; simp
 unfold atI; rw [e]; exact h
noncomputable def zb2 (b:Expr):Prop:=∀o i,subscripted b false o i=operate [o,i] (getItem o i)
noncomputable def IxR (X:Cx)(r:R2):Prop :=
 ∀ (value slice:Expr) (pins:List (Addr×Obj)) (s:Shared) (σ:St) (H:Hp) (x y:V) (v u:Value) (Q:VK),Inv X pins σ H s→RelV x v→RelV y u→r x y H Q →
  subscripted slice false v u=operate [v,u] (getItem v u)→wpAny (model X.prog X.w) X.A (subscriptTail value slice v u) (EP X pins σ Q) X.xe s
noncomputable def MtR (X:Cx)(id:String)(r:V→List V→Hp→VK→Prop):Prop :=
 ∀ (pins:List (Addr×Obj)) (s:Shared) (σ:St) (H:Hp) (x:V) (xs:List V) (v:Value) (us:List Value) (Q:VK),Inv X pins σ H s→RelV x v→Vals xs us→r x xs H Q →
  wpAny (model X.prog X.w) X.A (call (.builtin id) (v::us)) (EP X pins σ Q) X.xe s
section
variable {X:Cx}{a b:Expr}{ta tb:TE}{pos:Pos}
theorem IxR.or {r r':R2}(h:IxR X r)(h':IxR X r'):IxR X (fun x y H Q=>r x y H Q∨r' x y H Q):=by
 intro value slice pins s σ H x y v u Q I rx ry q hs
 rcases q with q | q
 ·exact h value slice pins s σ H x y v u Q I rx ry q hs
 ·exact h' value slice pins s σ H x y v u Q I rx ry q hs
theorem pe_ix {r:R2}(hr:IxR X r)(ha:PE X a ta)(hb:PE X b tb)(hs:zb2 b):PE X (.Subscript a b pos) (tOp r ta tb):=by
 intro pins s σ H Q I h
 exact Subscript_ (binT ha hb I h fun v u s2 x y H2 I2 rx ry q=>hr a b pins s2 σ H2 x y v u Q I2 rx ry q (hs _ _))
noncomputable def rIxL (K:PySem.W.Frag):R2:=fun x y H Q=>∃p xs i v,x=.ref p∧y=.int i∧SqL K H p xs∧atI xs i=some v∧Q v H
noncomputable def rIxT (K:PySem.W.Frag):R2:=fun x y H Q=>∃p xs i v,x=.ref p∧y=.int i∧SqT K H p xs∧atI xs i=some v∧Q v H
noncomputable def rIxS:R2:=fun x y H Q=>∃z i c,x=.str z∧y=.int i∧z.length≤sizeLine∧atI z.cps.toList i=some c∧Q (.str ⟨#[c]⟩) H
theorem ix_list:IxR X (rIxL X.K):=by
 intro value slice pins s σ H x y v u Q I rx ry h hs
 obtain ⟨p,xs,i,z,rfl,rfl,hq,he,q⟩:=h
 cases rx
 obtain ⟨t,rfl⟩:=ry
 obtain ⟨its,r,pl,hz⟩:=I.list hq
 obtain ⟨j,h1,h2,h3,h4,h5⟩:=zdD he
 obtain ⟨w,ew,rw'⟩:=r.get h2
 have hl:=r.length
 have hn:=line63
 have fin:EP X pins σ Q w s:=⟨z,H,I,rw',q⟩
 by_cases h0:0≤i
 ·have hj:i.toNat=j:=by
   rw [seqIndex_of h0 h5] at h1
   exact Option.some.inj h1
  exact item_listR pl.isList h0 (by omega) (by rw [hj]; simpa using ew) fin hs
 ·have hj:(i + (its.toArray.size:Int)).toNat=j:=by
   rw [seqIndex_neg (by omega) h4] at h1
   rw [List.size_toArray,← hl]
   exact Option.some.inj h1
  exact subscriptTail_builtinR (x:=w) pl.isList.typeIs slot_list_getitem.lookup
   (wpAny_getItem_list_neg (Q:=fun r s'=>r=w∧EP X pins σ Q r s') pl.isList (by omega) (by rw [List.size_toArray] <;> omega) (by omega) (by rw [hj]; simpa using ew) ⟨rfl,fin⟩) hs
theorem ix_tup:IxR X (rIxT X.K):=by
 intro value slice pins s σ H x y v u Q I rx ry h hs
 obtain ⟨p,xs,i,z,rfl,rfl,hq,he,q⟩:=h
 cases rx
 obtain ⟨t,rfl⟩:=ry
 obtain ⟨its,r,pl,hz⟩:=I.tuple hq
 obtain ⟨j,h1,h2,h3,h4,h5⟩:=zdD he
 obtain ⟨w,ew,rw'⟩:=r.get h2
 have hl:=r.length
 have hn:=line63
 have fin:EP X pins σ Q w s:=⟨z,H,I,rw',q⟩
 exact subscriptTail_builtinR (x:=w) pl.typeIs slot_tuple_getitem.lookup
  (getItem_tuple (j:=j) (Q:=fun r s'=>r=w∧EP X pins σ Q r s') pl (by omega) (by omega) (by rw [List.size_toArray,← hl]; exact h1) (by simpa using ew) ⟨rfl,fin⟩) hs
theorem ix_str:IxR X rIxS:=by
 intro value slice pins s σ H x y v u Q I rx ry h hs
 obtain ⟨z,i,c,rfl,rfl,hz,he,q⟩:=h
 obtain ⟨t,rfl⟩:=rx
 obtain ⟨t',rfl⟩:=ry
 obtain ⟨j,h1,h2,h3,h4,h5⟩:=zdD he
 have hl:z.cps.toList.length=z.length:=by simp [Str.length]
 rw [hl] at h1 h4 h5
 have hn:=line63
 exact tail_any (typeIs_str s z t) slot_str_getitem.lookup (getItem_str (c:=c) (by
  have e1:decide (i < -(2 ^ 63:Int))=false:=decide_eq_false (by omega)
  have e2:decide (i≥2 ^ 63)=false:=decide_eq_false (by omega)
  rw [e1,e2,Bool.or_false]) (by rw [h1]; simpa using h2) ⟨.str ⟨#[c]⟩,H,I.tok _,⟨_,rfl⟩,q⟩) hs
noncomputable def rIx (K:PySem.W.Frag):R2:=fun x y H Q=>rIxL K x y H Q∨rIxT K x y H Q∨rIxS x y H Q
theorem ix_seq:IxR X (rIx X.K):=ix_list.or (ix_tup.or ix_str)
theorem Inv.lst {pins:List (Addr×Obj)}{σ:St}{H:Hp}{s:Shared}{p:Addr}{xs:List V}(I:Inv X pins σ H s)(h:H p=some (.lst xs)) :
  ∃(its:List Value) (n:Nat),Vals xs its∧s.heap.get? p=some { cls:=.type "list", data:=.seq its.toArray n }∧xs.length≤sizeLine:=by
 obtain ⟨z,its,n,r,e⟩:=I.hok p _ h
 exact ⟨its,n,r,e,z⟩
theorem zcJ (lo hi:Option Int)(n:Nat):(sliceBounds lo hi none n).1=((HT.sIx n 0 lo:Nat):Int)∧(sliceBounds lo hi none n).2.1=((HT.sIx n n hi:Nat):Int)∧(sliceBounds lo hi none n).2.2=1:=by
 refine ⟨?_,?_,rfl⟩
 ·cases lo with
  | none=>simp [sliceBounds,HT.sIx]
  | some i =>
   simp only [sliceBounds,HT.sIx,Option.getD_none,show (1:Int) > 0 by decide,if_true]
   by_cases h:i < 0
   ·simp only [h,if_true] <;> omega
   ·simp only [h,if_false] <;> omega
 ·cases hi with
  | none=>simp [sliceBounds,HT.sIx]
  | some i =>
   simp only [sliceBounds,HT.sIx,Option.getD_none,show (1:Int) > 0 by decide,if_true]
   by_cases h:i < 0
   ·simp only [h,if_true] <;> omega
   ·simp only [h,if_false] <;> omega
theorem zb5 (its:List Value)(lo hi:Option Int):slicePick its.toArray lo hi none=((its.drop (HT.sIx its.length 0 lo)).take (HT.sIx its.length its.length hi - HT.sIx its.length 0 lo)).toArray:=by
 obtain ⟨h1,h2,h3⟩:=zcJ lo hi its.toArray.size
 unfold slicePick
 rw [h1,h2,h3]
 simp only [sliceRange_one,pick_run,List.size_toArray] <;> rfl
noncomputable def rSlL (K:PySem.W.Frag):V→Option Int→Option Int→Hp→VK→Prop:=fun x lo hi H Q=>∃a xs,x=.ref a∧SqL K H a xs∧∀p,H p=none→Q (.ref p) (upd H p (.lst (cutV xs lo hi)))
theorem sl_list:SlR X (rSlL X.K):=by
 intro pins s σ H x v vl vu lo hi sl Q I rx hs pl pu h
 obtain ⟨a,xs,rfl,hx,q⟩:=h
 cases rx
 obtain ⟨its,r,ht,hz⟩:=I.list hx
 have hlen:=r.length
 refine ⟨"list", _,slot_list_getitem.lookup,ht.isList.typeIs,?_⟩
 refine wpAny_getItem_list_slice ht.isList hs pl pu .none (by simp) ?_ (by rw [List.size_toArray] <;> omega)
 rw [zb5,← hlen]
 refine ⟨.ref s.heap.objs.size,_,I.laid (t':=s.toks) (o:=.lst (cutV xs lo hi)) (fun b ob q=>Heap.get?_push_of_some _ q) (Nat.le_refl _) ?_,rfl,q _ (I.hok.fresh (Nat.le_refl _))⟩
 exact ⟨Nat.le_trans (zaY xs lo hi) hz,_,0,(r.drop (HT.sIx xs.length 0 lo)).take (HT.sIx xs.length xs.length hi - HT.sIx xs.length 0 lo),Heap.get?_push_size _ rfl⟩
noncomputable def ug:V→Bool
 | .non=>true
 | .bl _=>true
 | .int _=>true
 | .str _=>true
 | _=>false
noncomputable def eqV:V→V→Bool
 | .non,.non=>true
 | .bl a,.bl b=>a == b
 | .bl a,.int b=>(if a then 1 else 0) == b
 | .int a,.bl b=>a == (if b then 1 else 0)
 | .int a,.int b=>a == b
 | .str a,.str b=>a == b
 | _,_=>false
theorem eqAt_V {A:Around}{s:Shared}{y x:V}{u v:Value}(ry:RelV y u)(rx:RelV x v)(fy:ug y=true)(fx:ug x=true):SeqAt.EqAt A s u v (eqV y x):=by
 cases y with
 | non =>
  cases ry
  cases x with
  | non=>cases rx; exact SeqAt.EqAt.same _
  | bl b=>cases rx; exact SeqAt.EqAt.none_bool b
  | int b=>obtain ⟨t,rfl⟩:=rx; exact SeqAt.EqAt.none_int b t
  | str b=>obtain ⟨t,rfl⟩:=rx; exact SeqAt.EqAt.none_str b t
  | _=>exact absurd (show false=true from fx) Bool.false_ne_true
 | bl a =>
  cases ry
  cases x with
  | non=>cases rx; exact SeqAt.EqAt.bool_none a
  | bl b=>cases rx; exact SeqAt.EqAt.bool_bool a b
  | int b=>obtain ⟨t,rfl⟩:=rx; exact SeqAt.EqAt.bool_int a b t
  | str b=>obtain ⟨t,rfl⟩:=rx; exact SeqAt.EqAt.bool_str a b t
  | _=>exact absurd (show false=true from fx) Bool.false_ne_true
 | int a =>
  obtain ⟨t',rfl⟩:=ry
  cases x with
  | non=>cases rx; exact SeqAt.EqAt.int_none a t'
  | bl b=>cases rx; exact SeqAt.EqAt.int_bool a t' b
  | int b=>obtain ⟨t,rfl⟩:=rx; exact SeqAt.EqAt.int_int a t' b t
  | str b=>obtain ⟨t,rfl⟩:=rx; exact SeqAt.EqAt.int_str a t' b t
  | _=>exact absurd (show false=true from fx) Bool.false_ne_true
 | str a =>
  obtain ⟨t',rfl⟩:=ry
  cases x with
  | non=>cases rx; exact SeqAt.EqAt.str_none a t'
  | bl b=>cases rx; exact SeqAt.EqAt.str_bool a t' b
  | int b=>obtain ⟨t,rfl⟩:=rx; exact SeqAt.EqAt.str_int a t' b t
  | str b=>obtain ⟨t,rfl⟩:=rx; exact SeqAt.EqAt.str_str a t' b t
  | _=>exact absurd (show false=true from fx) Bool.false_ne_true
 | _=>exact absurd (show false=true from fy) Bool.false_ne_true
noncomputable def eqU (x:V)(u:Value):Bool:=match u with
 | .none=>eqV .non x
 | .bool b=>eqV (.bl b) x
 | .int i _=>eqV (.int i) x
 | .str z _=>eqV (.str z) x
 | _=>false
theorem eqU_of {x y:V}{u:Value}(r:RelV y u)(f:ug y=true):eqU x u=eqV y x:=by
 cases y with
 | non=>cases r; rfl
 | bl b=>cases r; rfl
 | int i=>obtain ⟨t,rfl⟩:=r; rfl
 | str z=>obtain ⟨t,rfl⟩:=r; rfl
 | _=>exact absurd (show false=true from f) Bool.false_ne_true
theorem zaF {x:V}:∀{xs:List V}{us:List Value},Vals xs us→xs.all ug=true→us.any (eqU x)=xs.any fun y=>eqV y x
 | _,_,.nil,_=>rfl
 | y::xs,u::us,.cons r t,f=>by
  rw [List.all_cons,Bool.and_eq_true] at f
  rw [List.any_cons,List.any_cons,eqU_of r f.1,zaF t f.2]
theorem ul {A:Around}{s:Shared}{x:V}{v:Value}(rx:RelV x v)(fx:ug x=true):∀{xs:List V}{us:List Value},Vals xs us→xs.all ug=true→∀u∈us,SeqAt.EqAt A s u v (eqU x u)
 | _,_,.nil,_=>fun u hu=>by cases hu
 | y::xs,u::us,.cons r t,f=>fun u' hu=>by
  rw [List.all_cons,Bool.and_eq_true] at f
  rcases List.mem_cons.mp hu with rfl | hu
  ·rw [eqU_of r f.1]; exact eqAt_V r rx f.1 fx
  ·exact ul rx fx t f.2 u' hu
noncomputable def inV (x:V)(xs:List V):Bool:=xs.any fun y=>eqV y x
noncomputable def rIn (K:PySem.W.Frag)(neg:Bool):R2:=fun x y H Q=>∃p xs,y=.ref p∧(SqL K H p xs∨SqT K H p xs)∧ug x=true∧xs.all ug=true∧Q (.bl (if neg then !inV x xs else inV x xs)) H
theorem op_in_seq:OpR X (compareOp .In) (rIn X.K false):=by
 intro pins s σ H x y v u Q I rx ry h
 obtain ⟨p,xs,rfl,hq,fx,fs,q⟩:=h
 cases ry
 rcases hq with hq | hq
 ·obtain ⟨its,r,pl,hz⟩:=I.list hq
  refine SeqAt.in_listAt (eqU x) pl.isList (fun w hw=>ul rx fx r fs w (by simpa using hw)) ⟨.bl _,H,I,rfl,?_⟩
  rw [show its.toArray.any (eqU x)=its.any (eqU x) by simp,zaF r fs]
  exact q
 ·obtain ⟨its,r,pl,hz⟩:=I.tuple hq
  refine SeqAt.in_tupleAt (eqU x) pl (fun w hw=>ul rx fx r fs w (by simpa using hw)) ⟨.bl _,H,I,rfl,?_⟩
  rw [show its.toArray.any (eqU x)=its.any (eqU x) by simp,zaF r fs]
  exact q
theorem zab:OpR X (compareOp .NotIn) (rIn X.K true):=by
 intro pins s σ H x y v u Q I rx ry h
 obtain ⟨p,xs,rfl,hq,fx,fs,q⟩:=h
 cases ry
 rcases hq with hq | hq
 ·obtain ⟨its,r,pl,hz⟩:=I.list hq
  refine SeqAt.notIn_listAt (eqU x) pl.isList (fun w hw=>ul rx fx r fs w (by simpa using hw)) ⟨.bl _,H,I,rfl,?_⟩
  rw [show its.toArray.any (eqU x)=its.any (eqU x) by simp,zaF r fs]
  exact q
 ·obtain ⟨its,r,pl,hz⟩:=I.tuple hq
  refine SeqAt.notIn_tupleAt (eqU x) pl (fun w hw=>ul rx fx r fs w (by simpa using hw)) ⟨.bl _,H,I,rfl,?_⟩
  rw [show its.toArray.any (eqU x)=its.any (eqU x) by simp,zaF r fs]
  exact q
theorem zcm:qL X (.type "list") (fun xs H Q=>∃p ys,xs=[.ref p]∧(SqL X.K H p ys∨SqT X.K H p ys)∧∀l,H l=none→Q (.ref l) (upd H l (.lst ys))):=by
 intro pins s σ H xs us Q I r h
 obtain ⟨p,ys,rfl,hq,q⟩:=h
 obtain ⟨u,rfl,rx⟩:=vals1 r
 cases rx
 have fin:∀(its:List Value),Vals ys its→ys.length≤sizeLine→∀(h':Heap) (c':Nat),(∀b o',s.heap.get? b=some o'→h'.get? b=some o') →
   h'.get? s.heap.objs.size=some { cls:=.type "list", dict:=none,data:=.seq its.toArray c',slots:=#[] }→EP X pins σ Q (.ref s.heap.objs.size) { s with heap:=h' }:=fun its r' hz h' c' kp e =>
  ⟨.ref s.heap.objs.size,_,I.laid (t':=s.toks) kp (Nat.le_refl _) (show ObjOk X.prog X.w _ h' _ (.lst ys) from ⟨hz,its,c',r',e⟩),rfl,q _ (I.hok.fresh (Nat.le_refl _))⟩
 rcases hq with hq | hq
 ·obtain ⟨its,r',pl,hz⟩:=I.list hq
  have hlen:=r'.length
  obtain ⟨o,ho,hc,n,hd⟩:=pl.isList
  exact call_list_seq p (.inl rfl) ho hc hd (fun h' c' kp e=>fin its r' hz h' c' kp e) (by simp only [List.size_toArray] <;> omega)
 ·obtain ⟨its,r',pl,hz⟩:=I.tuple hq
  have hlen:=r'.length
  obtain ⟨o,ho,hc,n,hd⟩:=pl
  exact call_list_seq p (.inr rfl) ho hc hd (fun h' c' kp e=>fin its r' hz h' c' kp e) (by simp only [List.size_toArray] <;> omega)
theorem zcc:qL X (.type "tuple") (fun xs H Q=>∃p ys,xs=[.ref p]∧((SqL X.K H p ys∧∀l,H l=none→Q (.ref l) (upd H l (.tup ys)))∨(SqT X.K H p ys∧Q (.ref p) H))):=by
 intro pins s σ H xs us Q I r h
 obtain ⟨p,ys,rfl,h⟩:=h
 obtain ⟨u,rfl,rx⟩:=vals1 r
 cases rx
 rcases h with ⟨hq,q⟩ | ⟨hq,q⟩
 ·obtain ⟨its,r',pl,hz⟩:=I.list hq
  have hlen:=r'.length
  refine call_tuple_list pl.isList (fun h' kp=>?_) (by simp only [List.size_toArray] <;> omega)
  have I1:Inv X pins σ H { s with heap:=h' }:=I.kept (t':=s.toks) kp
  have I2:Inv X pins σ (upd H h'.objs.size (.tup ys)) { s with heap:=h'.push { cls:=.type "tuple", data:=.seq its.toArray } } :=
   I1.laid (t':=s.toks) (fun b o e=>Heap.get?_push_of_some _ e) (Nat.le_refl _) (show ObjOk X.prog X.w _ _ _ (.tup ys) from ⟨hz,its,r',TupD.new _ _⟩)
  exact ⟨.ref h'.objs.size,_,I2,rfl,q _ (I1.hok.fresh (Nat.le_refl _))⟩
 ·obtain ⟨its,r',pl,hz⟩:=I.tuple hq
  exact call_tuple_same pl ⟨.ref p,H,I,rfl,q⟩
noncomputable def tyV (K:PySem.W.Frag)(T:String)(x:V)(H:Hp):Prop:=match x with
 | .str _=>T = "str"
 | .int _=>T = "int"
 | .ref p=>(T = "list" ∧ ∃xs,SqL K H p xs)∨(T = "tuple" ∧ ∃o,K.lookup p=some o∧o.cls=.type "tuple" ∧ o.dict=none) ∨
   (T = "dict" ∧ ((∃kvs,H p=some (.dK kvs))∨∃kvs,H p=some (.dT kvs)))∨(T = "set" ∧ ∃S n,H p=some (.set S n))
 | _=>False
theorem tyV_is {pins:List (Addr×Obj)}{σ:St}{H:Hp}{s:Shared}{T:String}{x:V}{v:Value}(I:Inv X pins σ H s)(r:RelV x v)(ty:tyV X.K T x H) :
  s.TypeIs v T∧∀a,v=.ref a→∃ob,s.heap.get? a=some ob∧ob.dict=none:=by
 cases x with
 | str z =>
  obtain ⟨t,rfl⟩:=r
  cases (show T = "str" from ty)
  exact ⟨typeIs_str s z t,fun _ e=>nomatch e⟩
 | int i =>
  obtain ⟨t,rfl⟩:=r
  cases (show T = "int" from ty)
  exact ⟨typeIs_int s i t,fun _ e=>nomatch e⟩
 | ref p =>
  cases r
  rcases ty with ⟨rfl,xs,hq⟩ | ⟨rfl,o,hk,hc,hd⟩ | ⟨rfl,hk⟩ | ⟨rfl,S,n,hk⟩
  ·obtain ⟨its,_,pl,_⟩:=I.list hq
   refine ⟨pl.isList.typeIs,fun a e=>?_⟩
   cases e
   obtain ⟨o,n,e,c,hd,_⟩:=pl
   exact ⟨o,e,hd⟩
  ·refine ⟨⟨o,I.kIn p o hk,hc⟩,fun a e=>?_⟩
   cases e
   exact ⟨o,I.kIn _ o hk,hd⟩
  ·have z:∃o,s.heap.get? p=some o∧o.ExactDict:=by
    rcases hk with ⟨kvs,hk⟩ | ⟨kvs,hk⟩
    ·obtain ⟨_,_,_,_,o,_,_,e,ex,_⟩:=I.hok p _ hk
     exact ⟨o,e,ex⟩
    ·obtain ⟨_,_,_,_,o,_,_,e,ex,_⟩:=I.hok p _ hk
     exact ⟨o,e,ex⟩
   obtain ⟨o,e,ex⟩:=z
   refine ⟨⟨o,e,ex.1⟩,fun a e2=>?_⟩
   cases e2
   exact ⟨o,e,ex.2.1⟩
  ·obtain ⟨o,_,_,_,e,ex,_⟩:=I.hok p _ hk
   refine ⟨⟨o,e,ex.1⟩,fun a e2=>?_⟩
   cases e2
   exact ⟨o,e,ex.2.1⟩
 | _=>exact False.elim ty
noncomputable def tBM (K:PySem.W.Frag)(T:String)(r:V→List V→Hp→VK→Prop)(to:TE)(t:TA):TE:=fun σ H Q=>to σ H fun x H1=>tyV K T x H1∧t σ H1 fun xs H2=>r x xs H2 Q
variable {o e:Expr}{es:List Expr}{to:TE}{t:TA}{name:Str}{apos cpos:Pos}{T id:String}{r:V→List V→Hp→VK→Prop}
theorem pe_bm (pa:PlainAttrs T)(slot:Slot T name id)(hty:typeOf (.builtin id)=pure (.type "method_descriptor"))(hm:MtR X id r)(ho:PE X o to)(ha:PA X (e::es) t)
  (hbase:attributeBase o name X.env (eval o X.env)=eval o X.env:=by rfl)
  (hfew:((backTo cpos (starEach (e::es) X.env)).all (fun x=>!x.1)&&(backToKw cpos (keywordEach [] X.env)).all (fun x=>x.1.isSome)
   && decide ((e::es).length + ([]:List Keyword).length + (if ([]:List Keyword).isEmpty then 0 else 1) < 30))=true:=by rfl)
  (hline:(apos.endLine == cpos.line)=true:=by rfl) (hs:starEach (e::es) X.env=(false,eval e X.env)::starEach es X.env:=by rfl) (hplain:(backTo cpos (starEach es X.env)).any (·.1)=false:=by rfl) :
  PE X (.Call (.Attribute o name apos) (e::es) [] cpos) (tBM X.K T r to t):=by
 intro pins s σ H Q I h
 refine wpAny_Call_method_late hbase hfew hline rfl (thn (ho pins s σ H _ I h) fun v s1 hq23=>?_)
 obtain ⟨x,H1,I1,r1,ty,q1⟩:=hq23
 obtain ⟨h1,h2⟩:=tyV_is I1 r1 ty
 refine ⟨T,id,pa,slot,hty,h1,h2,?_⟩
 have hA:=ha cpos pins s1 σ H1 _ I1 q1
 rw [hs] at hA ⊢
 refine Calls.callWith_builtin (by show (false || (backTo cpos (starEach es X.env)).any (·.1))=false; rw [hplain] <;> rfl) (Calls.evalArgs_plain ?_)
 exact thn hA fun us s2 ⟨vs,H2,I2,r2,q2⟩=>hm pins s2 σ H2 x vs v us Q I2 r1 r2 q2
/- xs.append(e), list.index on a module's tuple .. are MtR facts of 06m -/
end
end L2
namespace L2
open PySem PySem.Spec PyProof.Rows
noncomputable def MtM (X:Cx)(id:String)(r:V→List V→Hp→VK→Prop):Prop :=
 ∀ (pins:List (Addr×Obj)) (s:Shared) (σ:St) (H:Hp) (x:V) (xs:List V) (v:Value) (us:List Value) (Q:VK),Inv X pins σ H s→RelV x v→Vals xs us→r x xs H Q →
  wpAny (model X.prog X.w) X.A (call (.builtin id) (v::us)) (EP X pins σ Q) X.xe s
theorem Vals.one:∀{x:V}{us:List Value},Vals [x] us→∃u,us=[u]∧RelV x u:=by
 intro x us h
 cases h with
 | cons r t=>cases t; exact ⟨_,rfl,r⟩
theorem Vals.two:∀{x y:V}{us:List Value},Vals [x,y] us→∃u v,us=[u,v]∧RelV x u∧RelV y v:=by
 intro x y us h
 cases h with
 | cons r t=>obtain ⟨v,rfl,q⟩:=Vals.one t; exact ⟨_,_,rfl,r,q⟩
theorem Vals.eraseIdx:∀{xs:List V}{us:List Value} (i:Nat),Vals xs us→Vals (xs.eraseIdx i) (us.eraseIdx i)
 | _,_,_,.nil=>.nil
 | _,_,0,.cons _ t=>t
 | _,_,i + 1,.cons r t=>.cons r (Vals.eraseIdx i t)
theorem Vals.rep {xs:List V}{us:List Value}(h:Vals xs us):∀k:Nat,Vals (List.replicate k xs).flatten (List.replicate k us).flatten
 | 0=>.nil
 | k + 1=>by
  rw [List.replicate_succ,List.replicate_succ,List.flatten_cons,List.flatten_cons]
  exact Vals.append h (Vals.rep h k)
theorem zcv {α:Type}:∀(l:List α) (i:Nat),(l.eraseIdx i).length≤l.length
 | [],_=>Nat.le_refl _
 | _::_,0=>Nat.le_succ _
 | _::r,i + 1=>Nat.succ_le_succ (zcv r i)
theorem foldl_rep (its:List Value):∀(k:Nat) (acc:List Value),
  List.foldl (fun x1 x2=>x1++x2) acc.toArray (List.replicate k its.toArray)=(acc++(List.replicate k its).flatten).toArray
 | 0,acc=>by simp
 | k + 1,acc=>by
  have e:acc.toArray++its.toArray=(acc++its).toArray:=by simp
  have e2:(acc++its)++(List.replicate k its).flatten=acc++(List.replicate (k + 1) its).flatten:=by
   rw [List.replicate_succ,List.flatten_cons,List.append_assoc]
  rw [← e2,← foldl_rep its k (acc++its),← e,List.replicate_succ,List.foldl_cons]
section
variable {X:Cx}{pins:List (Addr×Obj)}{σ:St}{H:Hp}{s:Shared}{l b:Addr}{xs ys zs:List V}
theorem Inv.lset {its its':List Value}{n:Nat}{f:Array Value→Array Value}{t':Nat}(I:Inv X pins σ H s)(hH:H l=some (.lst xs))
  (e:s.heap.get? l=some { cls:=.type "list", data:=.seq its.toArray n }) (hf:f its.toArray=its'.toArray) (hv:Vals ys its') (hz:ys.length≤sizeLine) :
  Inv X pins σ (upd H l (.lst ys)) { s with heap:=s.heap.update l (Obj.mapSeq f),toks:=t' }:=by
 have q:=PySem.IsL.update e f
 rw [hf] at q
 refine I.write (x:=l) (e:=l) (by rw [hH]; exact trivial) (.inl rfl) (fun b' u hb hu=>(Heap.get?_update_other s.heap (Obj.mapSeq f) (Ne.symm hb)).trans hu) ⟨_,q⟩ ?_
 exact ⟨hz,its',_,hv,q⟩
theorem Inv.lnew {its:List Value}{t':Nat}(I:Inv X pins σ H s)(hv:Vals ys its)(hz:ys.length≤sizeLine) :
  Inv X pins σ (upd H s.heap.objs.size (.lst ys)) { s with heap:=s.heap.push { cls:=.type "list", data:=.seq its.toArray },toks:=t' } :=
 I.laid (fun _ _ q=>Heap.get?_push_of_some _ q) (Nat.le_refl _) ⟨hz,its,0,hv,Heap.get?_push_size _ rfl⟩
theorem Inv.fresh (I:Inv X pins σ H s):H s.heap.objs.size=none:=I.hok.fresh (Nat.le_refl _)
theorem Inv.lstM (I:Inv X pins σ H s)(hH:H l=some (.lst xs)):xs.length≤sizeLine∧∃(its:List Value) (n:Nat),Vals xs its∧xs.length=its.length∧s.heap.get? l=some { cls:=.type "list", data:=.seq its.toArray n }:=by
 obtain ⟨z,its,n,r,e⟩:=I.hok l _ hH
 exact ⟨z,its,n,r,r.length,e⟩
theorem notLongL {n:Nat}(h:n≤sizeLine):Builtin.List.listTooLong n=false:=by
 unfold Builtin.List.listTooLong
 exact decide_eq_false (by omega)
end
section
variable {X:Cx}
noncomputable def rAppend:V→List V→Hp→VK→Prop:=fun x vs H Q=>∃l xs y,x=.ref l∧vs=[y]∧H l=some (.lst xs)∧xs.length < sizeLine∧Q .non (upd H l (.lst (xs++[y])))
theorem mt_append:MtM X "list.append" rAppend:=by
 intro pins s σ H x vs v us Q I rx rv h
 obtain ⟨l,xs,y,rfl,rfl,hH,hz,q⟩:=h
 cases rx
 obtain ⟨u,rfl,ru⟩:=rv.one
 obtain ⟨z,its,n,r,hl,e⟩:=I.lstM hH
 refine call_meets F.slot_list_append ⟨_,e,rfl⟩ F.entry_list_append (F.args_list_append_2 _ _) (PySem.list_append l its.toArray n u (by rw [List.size_toArray]; omega)) ⟨e,?_⟩
 refine ⟨.non,_,I.lset (its':=its++[u]) hH e (by simp) (r.append (.cons ru .nil)) ?_,rfl,q⟩
 rw [List.length_append,List.length_singleton]
 omega
noncomputable def rPopAt:V→List V→Hp→VK→Prop:=fun x vs H Q=>∃l xs i k y,x=.ref l∧vs=[.int i]∧H l=some (.lst xs)∧-(2 ^ 63)≤i∧i < 2 ^ 63∧seqIndex? i xs.length=some k∧xs[k]? = some y∧Q y (upd H l (.lst (xs.eraseIdx k)))
theorem mt_popAt:MtM X "list.pop" rPopAt:=by
 intro pins s σ H x vs v us Q I rx rv h
 obtain ⟨l,xs,i,k,y,rfl,rfl,hH,h1,h2,hk,hy,q⟩:=h
 cases rx
 obtain ⟨u,rfl,ru⟩:=rv.one
 obtain ⟨t,rfl⟩:=ru
 obtain ⟨z,its,n,r,hl,e⟩:=I.lstM hH
 obtain ⟨w,hw,rw'⟩:=r.get hy
 refine call_meets F.slot_list_pop ⟨_,e,rfl⟩ F.entry_list_pop (F.args_list_pop_2 _ _)
  (MeetsSeq.list_pop_at l its.toArray n i t k w (fitsIndex_both h1 h2) (by rw [List.size_toArray,← hl]; exact hk) (by rw [← Array.getElem?_toList]; exact hw) (by rw [List.size_toArray]; omega)) ⟨e,?_⟩
 refine ⟨y,_,I.lset (its':=its.eraseIdx k) hH e ?_ (r.eraseIdx k) ?_,rw',q⟩
 ·show its.toArray.eraseIdxIfInBounds k=(its.eraseIdx k).toArray
  rw [List.eraseIdxIfInBounds_toArray]
 ·have:=zcv xs k
  omega
theorem len_rep {α:Type}(xs:List α)(k:Nat):(List.replicate k xs).flatten.length=k * xs.length:=by
 induction k with
 | zero=>simp
 | succ k ih=>rw [List.replicate_succ,List.flatten_cons,List.length_append,ih,Nat.succ_mul,Nat.add_comm]
end
end L2
namespace L2
open PySem PySem.Spec PyProof.Rows
section
variable {κ:Type} [DecidableEq κ]
noncomputable def zcT (kvs:List (κ×V))(k:κ):Option V:=(kvs.find? fun kv=>decide (kv.1=k)).map (·.2)
noncomputable def putK (kvs:List (κ×V))(k:κ)(v:V):List (κ×V) :=
 if (kvs.any fun kv=>decide (kv.1=k))=true then kvs.map (fun kv=>if kv.1=k then (kv.1,v) else kv) else kvs++[(k,v)]
noncomputable def dropK (kvs:List (κ×V))(k:κ):List (κ×V):=kvs.filter fun kv=>decide (kv.1≠k)
theorem valV_pos {p:κ×V}{r:List (κ×V)}{k:κ}(e:p.1=k):zcT (p::r) k=some p.2:=by simp [zcT,List.find?_cons,e]
theorem valV_neg {p:κ×V}{r:List (κ×V)}{k:κ}(e:¬p.1=k):zcT (p::r) k=zcT r k:=by simp [zcT,List.find?_cons,e]
theorem zdH (kvs:List (κ×V))(k:κ)(v:V):(putK kvs k v).length≤kvs.length + 1:=by
 unfold putK
 split
 ·rw [List.length_map]; omega
 ·rw [List.length_append,List.length_cons,List.length_nil]; omega
theorem RelO.isSome_eq {o:Option V}{u:Option Value}(r:RelO o u):o.isSome=u.isSome:=by
 cases o with
 | none=>cases u with
  | none=>rfl
  | some _=>exact (show False from r).elim
 | some _=>cases u with
  | none=>exact (show False from r).elim
  | some _=>rfl
theorem RelO.getD {o:Option V}{u:Option Value}{d:V}{d':Value}(r:RelO o u)(rd:RelV d d'):RelV (o.getD d) (u.getD d'):=by
 cases o with
 | none=>cases u with
  | none=>exact rd
  | some _=>exact (show False from r).elim
 | some _=>cases u with
  | none=>exact (show False from r).elim
  | some _=>exact r
theorem KV.val {kvs:List (κ×V)}{vs:List (κ×Value)}(r:KV kvs vs)(k:κ):RelO (zcT kvs k) (valueAt vs k):=by
 unfold KV at r
 induction r with
 | nil=>exact True.intro
 | @cons p q ps qs h t ih =>
  obtain ⟨h1,h2⟩:=h
  by_cases e:p.1=k
  ·have e':q.1=k:=h1.symm.trans e
   have b:valueAt (q::qs) k=some q.2:=by simp [valueAt,List.find?_cons,e']
   rw [valV_pos e,b]; exact h2
  ·have e':¬q.1=k:=fun z=>e (h1.trans z)
   have b:valueAt (q::qs) k=valueAt qs k:=by simp [valueAt,List.find?_cons,e']
   rw [valV_neg e,b]; exact ih
theorem KV.any {kvs:List (κ×V)}{vs:List (κ×Value)}(r:KV kvs vs)(k:κ):(kvs.any fun kv=>decide (kv.1=k))=vs.any fun kv=>decide (kv.1=k):=by
 unfold KV at r
 induction r with
 | nil=>rfl
 | cons h t ih=>rw [List.any_cons,List.any_cons,ih,h.1]
theorem KV.repl {kvs:List (κ×V)}{vs:List (κ×Value)}(r:KV kvs vs)(k:κ){y:V}{u:Value}(ry:RelV y u) :
  KV (kvs.map fun kv=>if kv.1=k then (kv.1,y) else kv) (vs.map fun kv=>if kv.1=k then (kv.1,u) else kv):=by
 unfold KV at r ⊢
 induction r with
 | nil=>exact .nil
 | @cons p q ps qs h t ih =>
  rw [List.map_cons,List.map_cons]
  refine .cons ?_ ih
  obtain ⟨h1,h2⟩:=h
  by_cases e:p.1=k
  ·rw [if_pos e,if_pos (h1.symm.trans e)]; exact ⟨h1,ry⟩
  ·rw [if_neg e,if_neg (fun z=>e (h1.trans z))]; exact ⟨h1,h2⟩
theorem KV.put {kvs:List (κ×V)}{vs:List (κ×Value)}(r:KV kvs vs)(k:κ){y:V}{u:Value}(ry:RelV y u):KV (putK kvs k y) (stored vs k u):=by
 unfold putK stored
 rw [r.any k]
 by_cases e:(vs.any fun kv=>decide (kv.1=k))=true
 ·rw [if_pos e,if_pos e]; exact r.repl k ry
 ·rw [if_neg e,if_neg e]; exact Paired.snoc r ⟨rfl,ry⟩
theorem KV.drop {kvs:List (κ×V)}{vs:List (κ×Value)}(r:KV kvs vs)(k:κ):KV (dropK kvs k) (without vs k):=by
 unfold KV at r ⊢
 unfold dropK without
 induction r with
 | nil=>exact .nil
 | @cons p q ps qs h t ih =>
  obtain ⟨h1,h2⟩:=h
  rw [List.filter_cons,List.filter_cons]
  by_cases e:p.1=k
  ·have a:¬decide (p.1≠k)=true:=by simp [e]
   have b:¬decide (q.1≠k)=true:=by simp [h1.symm.trans e]
   rw [if_neg a,if_neg b]; exact ih
  ·have e':¬q.1=k:=fun z=>e (h1.trans z)
   have a:decide (p.1≠k)=true:=by simp [e]
   have b:decide (q.1≠k)=true:=by simp [e']
   rw [if_pos a,if_pos b]; exact .cons ⟨h1,h2⟩ ih
theorem KV.keys {kvs:List (κ×V)}{vs:List (κ×Value)}(r:KV kvs vs):kvs.map (·.1)=vs.map (·.1):=by
 unfold KV at r
 induction r with
 | nil=>rfl
 | cons h t ih=>rw [List.map_cons,List.map_cons,ih,h.1]
theorem KV.length {kvs:List (κ×V)}{vs:List (κ×Value)}(r:KV kvs vs):kvs.length=vs.length:=Paired.length r
end
theorem kV_is {P:Program}{w:World}{k:Key}{u:Value}(r:RelV (kV k) u):(vZ P w).is k u=true:=by
 cases k with
 | inl i=>obtain ⟨t,e⟩:=(show ∃t,u=Value.int i t from r); subst e; exact mixKind_int P w i t
 | inr x=>obtain ⟨t,e⟩:=(show ∃t,u=Value.str x t from r); subst e; exact za0 P w x t
theorem zc4 {P:Program}{w:World}:∀{ks:List Key}{us:List Value},Vals (ks.map kV) us→ItemsAre (vZ P w) ks us
 | [],_,r=>by rw [List.map_nil] at r; cases r; exact .nil
 | k::ks,_,r=>by
  rw [List.map_cons] at r
  cases r with
  | cons h t=>exact .cons (kV_is h) (zc4 t)
noncomputable abbrev KT (H:Hp):List (List Key×V)→List (List Key×Addr×Value)→Prop:=Paired fun p q=>p.1=q.1∧H q.2.1=some (.tup (p.1.map kV))∧RelV p.2 q.2.2
theorem KT.val {H:Hp}{kvs:List (List Key×V)}{xs:List (List Key×Addr×Value)}(r:KT H kvs xs)(k:List Key):RelO (zcT kvs k) ((atKey xs k).map (·.2)):=by
 induction r with
 | nil=>exact True.intro
 | @cons p q ps qs h t ih =>
  obtain ⟨h1,_,h2⟩:=h
  by_cases e:p.1=k
  ·have e':q.1=k:=h1.symm.trans e
   have b:atKey (q::qs) k=some q.2:=by simp [atKey,List.find?_cons,e']
   rw [valV_pos e,b]; exact h2
  ·have e':¬q.1=k:=fun z=>e (h1.trans z)
   have b:atKey (q::qs) k=atKey qs k:=by simp [atKey,List.find?_cons,e']
   rw [valV_neg e,b]; exact ih
section
variable {P:Program}{w:World}{H:Hp}{h:Heap}{a:Addr}
theorem rd_of {u:HO}(ok:HOk P w H h)(e:Rd H a u):ObjOk P w H h a u:=e.ok ok
theorem dk_rd {kvs:List (Key×V)}(ok:HOk P w H h)(e:Rd H a (.dK kvs)):kvs.length≤sizeLine∧(a == sysModules)=false∧∃vs,KV kvs vs∧h.DictOf (vZ P w) a vs :=
 show ObjOk P w H h a (.dK kvs) from rd_of ok e
theorem key_of {ks:List Key}(ok:HOk P w H h)(e:H a=some (.tup (ks.map kV))):(tupleKind (vZ P w)).is h ks a:=by
 obtain ⟨_,its,r,o,h1,h2,⟨n,h3⟩,_⟩:=(show ObjOk P w H h a (.tup (ks.map kV)) from ok a _ e)
 exact ⟨o,its.toArray,n,h1,h2,h3,by simpa using zc4 r⟩
theorem dt_rd {kvs:List (List Key×V)}(ok:HOk P w H h)(e:Rd H a (.dT kvs)):kvs.length≤sizeLine∧(a == sysModules)=false ∧
  ∃xs,KT H kvs xs∧h.DictOfH (tupleKind (vZ P w)) a xs:=by
 obtain ⟨z,y,xs,r,o,es,ep,h1,h2,h3,h4,h5⟩:=(show ObjOk P w H h a (.dT kvs) from rd_of ok e)
 refine ⟨z,y,xs,r,o,es,ep,h1,h2,h3,h4,fun x hx=>?_,h5⟩
 have all:∀{l:List (List Key×V)}{m:List (List Key×Addr×Value)},KT H l m→∀x∈m,(tupleKind (vZ P w)).is h x.1 x.2.1:=by
  intro l m q
  induction q with
  | nil=>intro x hx; exact nomatch hx
  | @cons p q ps qs hq t ih =>
   intro x hx
   rcases List.mem_cons.mp hx with e | hx
   ·subst e
    exact key_of ok (by rw [← hq.1]; exact hq.2.1)
   ·exact ih x hx
 exact all r x hx
end
noncomputable def DGet (H:Hp)(a:Addr)(y:V)(r:Option V):Prop :=
 (∃kvs k,Rd H a (.dK kvs)∧y=kV k∧r=zcT kvs k)∨∃kvs k b,Rd H a (.dT kvs)∧y=.ref b∧H b=some (.tup (k.map kV))∧r=zcT kvs k
theorem DGet.k {H:Hp}{a:Addr}{kvs:List (Key×V)}{k:Key}(e:H a=some (.dK kvs)):DGet H a (kV k) (zcT kvs k):=.inl ⟨kvs,k,.inl e,rfl,rfl⟩
section
variable {X:Cx}{pins:List (Addr×Obj)}{σ:St}{H:Hp}{s:Shared}{a:Addr}{y v:V}{u r:Value}{o:Option V}{A:Around}{E:Value→Shared→Prop}
theorem Inv.big (I:Inv X pins σ H s):sysModules < s.heap.objs.size:=by
 have h:mainGlobals < s.heap.objs.size:=(I.mod.glob.keeps I.bk).lt
 exact Nat.lt_trans (by decide) h
theorem d_getItem {Q:Value→Shared→Prop}(hu:A.units + 1 < cLine)(I:Inv X pins σ H s)(g:DGet H a y (some v))(ry:RelV y u)(h:∀w' s',Inv X pins σ H s'→RelV v w'→Q w' s') :
  wpAny (model X.prog X.w) A (getItem (.ref a) u) Q E s:=by
 rcases g with ⟨kvs,k,e,ey,l⟩ | ⟨kvs,k,b,e,ey,eb,l⟩
 ·subst ey
  obtain ⟨z,hd,vs,rel,dd⟩:=dk_rd I.hok e
  obtain ⟨w',hw,rw'⟩:=RelO.some_of (v:=v) (o:=valueAt vs k) (by rw [l]; exact rel.val k)
  exact wpAny_getItem_of (kV_is ry) dd.mapOf hw (h w' _ (I.tok _) rw')
 ·subst ey
  cases (show u=Value.ref b from ry)
  obtain ⟨z,hd,xs,rel,dd⟩:=dt_rd I.hok e
  obtain ⟨w',hw,rw'⟩:=RelO.some_of (v:=v) (o:=(atKey xs k).map (·.2)) (by rw [l]; exact rel.val k)
  obtain ⟨p,hp,hp2⟩:=Option.map_eq_some_iff.mp hw
  refine wpAny_getItem_heap (tupleKind_room_in1 hu) (key_of I.hok eb) dd hp ?_
  rw [hp2]
  exact h w' _ (I.tok _) rw'
theorem d_notIn {Q:Value→Shared→Prop}(hu:A.units + 1 < cLine)(I:Inv X pins σ H s)(g:DGet H a y o)(ry:RelV y u)(h:∀s',Inv X pins σ H s'→Q (.bool (!o.isSome)) s') :
  wpAny (model X.prog X.w) A (compareOp .NotIn u (.ref a)) Q E s:=by
 rcases g with ⟨kvs,k,e,ey,l⟩ | ⟨kvs,k,b,e,ey,eb,l⟩
 ·subst ey
  obtain ⟨z,hd,vs,rel,dd⟩:=dk_rd I.hok e
  refine wpAny_notIn_of (kV_is ry) hd dd.mapOf ?_
  rw [← (rel.val k).isSome_eq,← l]
  exact h _ (I.tok _)
 ·subst ey
  cases (show u=Value.ref b from ry)
  obtain ⟨z,hd,xs,rel,dd⟩:=dt_rd I.hok e
  refine wpAny_notIn_heap (tupleKind_room_in1 hu) (key_of I.hok eb) hd dd ?_
  have q:=(rel.val k).isSome_eq
  rw [Option.isSome_map] at q
  rw [← q,← l]
  exact h _ (I.tok _)
end
noncomputable def NoSl (i:Expr):Prop:=∀ov iv,subscripted i false ov iv=operate [ov,iv] (getItem ov iv)
theorem subD_of {prog:Program}{w:World}{A:Around}{E:Value→Shared→Prop}{s:Shared}{env:Env}{value slice:Expr}{pos:Pos}{T id:String}{Q:Value→Shared→Prop}
  (hl:typeLookup (.type T) "__getitem__" = pure (some (.builtin id))) (hs:NoSl slice)
  (h:wpAny (model prog w) A (eval value env) (fun o s₁=>wpAny (model prog w) A (eval slice env) (fun i s₂=>s₂.TypeIs o T∧wpAny (model prog w) A (getItem o i) Q E s₂) E s₁) E s) :
  wpAny (model prog w) A (eval (.Subscript value slice pos) env) Q E s:=by
 refine Subscript_ (wpAny_mono h (fun o s₁ h₁=>wpAny_mono h₁ (fun i s₂ h₂=>?_) fun _ _ x=>x) fun _ _ x=>x)
 obtain ⟨hT,h₂⟩:=h₂
 unfold subscriptTail
 refine wpAny_bind ?_
 rw [getitemInPython_of_ne hT.not_modules]
 refine wpAny_bind (wpAny_specialOf hT hl ?_)
 have fin:wpAny (model prog w) A (subscripted slice false o i) (fun r s₃=>wpAny (model prog w) A (letTemporaryGo value o r >>= fun _=>pure r) Q E s₃) E s₂:=by
  rw [hs o i]
  exact wpAny_operating (wpAny_mono h₂ (fun r s₃ h₃=>wpAny_bind (wpAny_letTemporaryGo (wpAny_pure h₃))) fun _ _ x=>x)
 first
  | exact wpAny_pure (wpAny_bind fin)
  | exact wpAny_bind (wpAny_pure (wpAny_bind fin))
  | exact wpAny_bind fin
theorem zdI {X:Cx}{pins:List (Addr×Obj)}{σ:St}{H:Hp}{s:Shared}{a:Addr}{y:V}{o:Option V}(I:Inv X pins σ H s)(g:DGet H a y o):s.TypeIs (.ref a) "dict" := by
 rcases g with ⟨kvs,k,e,_,_⟩ | ⟨kvs,k,b,e,_,_,_⟩
 ·obtain ⟨_,_,vs,_,dd⟩:=dk_rd I.hok e
  exact dd.typeIs
 ·obtain ⟨_,_,xs,_,dd⟩:=dt_rd I.hok e
  exact dd.typeIs
noncomputable def tDGet (td ty:TE):TE:=fun σ H Q=>td σ H fun x H1=>ty σ H1 fun y H2=>∃a v,x=.ref a∧DGet H2 a y (some v)∧Q v H2
noncomputable def tDNotIn (ty td:TE):TE:=fun σ H Q=>ty σ H fun y H1=>td σ H1 fun x H2=>∃a o,x=.ref a∧DGet H2 a y o∧Q (.bl (!o.isSome)) H2
section
variable {X:Cx}{o i e value:Expr}{pos pos' tpos:Pos}{td ty tv:TE}
theorem pe_dget (hu:X.A.units + 1 < cLine)(ho:PE X o td)(hi:PE X i ty)(hs:NoSl i):PE X (.Subscript o i pos) (tDGet td ty):=by
 intro pins s σ H Q I h
 refine subD_of PySem.F.slot_dict_getitem.lookup hs (thn (ho pins s σ H _ I h) fun u s1 ⟨x,H1,I1,rx,q1⟩=>thn (hi pins s1 σ H1 _ I1 q1) fun iv s2 hq24=>?_)
 obtain ⟨y,H2,I2,ry,a,v,ex,g,q2⟩:=hq24
 subst ex
 obtain rfl:u=Value.ref a:=rx
 exact ⟨zdI I2 g,d_getItem hu I2 g ry fun w' s3 I3 rw'=>⟨v,H2,I3,rw',q2⟩⟩
theorem pc_dnotin (hu:X.A.units + 1 < cLine)(hi:PE X i ty)(ho:PE X o td):PC X .NotIn i o (tDNotIn ty td):=by
 intro pins s σ H Q I h
 refine thn (hi pins s σ H _ I h) fun iv s1 ⟨y,H1,I1,ry,q1⟩=>thn (ho pins s1 σ H1 _ I1 q1) fun u s2 hq25=>?_
 obtain ⟨x,H2,I2,rx,a,ov,ex,g,q2⟩:=hq25
 subst ex
 obtain rfl:u=Value.ref a:=rx
 exact d_notIn hu I2 g ry fun s3 I3=>⟨.bl (!ov.isSome),H2,I3,rfl,q2⟩
end
end L2
namespace Att
open PySem PySem.W PySem.Calls PyProof.Rows
theorem zaX {P:Params}{h:Heap}:∀(ns:List Int) (vs:List Value),WellAll P h vs (ns.map WData.int)→IntsAre vs ns:=by
 intro ns
 induction ns with
 | nil =>
  intro vs w
  rw [List.map_nil] at w
  cases w
  exact .nil
 | cons n ns ih =>
  intro vs w
  rw [List.map_cons] at w
  cases w with
  | cons a b =>
   cases a
   exact .cons _ _ (ih _ b)
theorem script_of {l:OpenLaw}{n:Nat}(hn:l.most=some n){P:Params}{h:Heap}{args:List WData}{vals:List Value}
  (hpre:l.row.toRowW.claim.pre args=true) (hwl:WellAll P h vals args) :
  ∃a vs ns,vals=[Value.ref a]∧args=[WData.list (ns.map WData.int)]∧h.get? a=some { cls:=.type "list", data:=.seq vs.toArray }∧IntsAre vs ns∧ns.length≤n:=by
 have hsh:WShape.hasAll [] args [.list .int]=true:=(pre_splitW hpre).1
 have hc:l.pre.holds [] { args:=args }=true:=(pre_splitW hpre).2
 obtain ⟨d,r,rfl,h1,h2⟩:=hasAllW_cons hsh
 obtain rfl:=hasAllW_nil h2
 obtain ⟨xs,rfl,h3⟩:=hasW_list h1
 obtain ⟨ns,rfl⟩:=items_int h3
 have hlen:ns.length≤n:=by
  unfold OpenLaw.pre at hc
  have h4:(WTm.not (.lt (.lit (.int (n:Int))) (.len (.arg 0)))).holds [] { args:=[.list (ns.map .int)] }=true:=by
   have h4:=(holds_andW hc).1
   rw [hn] at h4
   exact h4
  have h5:=condW_of h4 (w_not (w_lt w_lit (w_len_list (w_arg rfl))))
  rw [List.length_map] at h5
  refine Nat.le_of_not_lt fun q=>?_
  have q':(n:Int) < ((ns.length:Nat):Int):=by omega
  first
   | (rw [decide_eq_true q'] at h5; exact absurd h5 (by decide))
   | (simp at h5; omega)
 cases hwl with
 | cons w1 w2 =>
  cases w2
  cases w1 with
  | list ho hall=>exact ⟨_,_,ns,rfl,rfl,ho,zaX ns _ hall,hlen⟩
theorem post_true (l:OpenLaw)(args:List WData):l.row.toRowW.claim.post args (.bool true) args=true :=
 postW_of (r:=l.row.toRowW) (X:=(true == true))
  (show WShape.has [] (.bool true) .bool=true by first | rfl | decide | simp [WShape.has,WShape.arms,WShape.armsAll])
  (show (WTm.eq .res (.lit (.bool true))).value [] { args:=args,res:=some (.bool true),after:=args }=some (.bool (true == true)) from w_eq_bool (w_res rfl) w_lit) rfl
theorem attach_call {l:OpenLaw}{n:Nat}{q:Program}{loose:List Str}{XP:(Str→Option Value)→Heap→Prop}{YP:World→Heap→Prop}{d:DefRec}
  (hn:l.most=some n) (hdf:d.params.defaults=[])
  (call:∀(w:World) (s₀ s₁:Shared) (mg mb:Str→Option Value) (fa:Addr) (o:Obj) (pm cd doc:Value) (a:Addr) (vs:List Value) (ns:List Int),
   Ground q loose [] XP w s₀ mg mb s₁.heap→YP w s₁.heap →
   s₁.heap.get? fa=some o→o.data=.func (docDef d.name d.params d.body d.scope pm cd doc)→s₁.heap.CodeRec cd d.name→mg d.name=some (.ref fa) →
   s₁.heap.get? a=some { cls:=.type "list", data:=.seq vs.toArray }→IntsAre vs ns→ns.length≤n→s₁.gens = #[] →
   codeAny (model l.prog w) callerA (.call (.ref fa) ⟨[.ref a],[]⟩) (fun r s'=>r=.ok (.ret (.bool true))∧OldK s₁.heap s'.heap∧s'.os=s₁.os∧AllBare s'.gens) s₁) :
  WalkO q loose XP YP l.row.toRowW d [] (fun f vs=>PySem.call f vs):=by
 intro w s₀ s₁ mg mb G Y fa o pm cd doc dV kV ho hd hcd hD hmg hg args vals as hpre hlay hrd hwl hlo
 obtain rfl:dV=.none:=Dflts.none hD hdf
 obtain rfl:kV=.none:=Dflts.noKw hD
 obtain ⟨a,vs,ns,rfl,rfl,hobj,hints,hlen⟩:=script_of hn hpre hwl
 refine enter_call (codeAny_mono (call w s₀ s₁ mg mb fa o pm cd doc a vs ns G Y ho (fd_plain hd) hcd hmg hobj hints hlen hg) fun r s' hq=>?_)
 obtain ⟨rfl,h2,h3,h4⟩:=hq
 exact ⟨.inl ⟨.bool true,.bool true,[],rfl,fun _=>rfl,.bool true,post_true l _,fun _=>⟨List.Pairwise.nil,fun _ hm=>(nomatch hm)⟩⟩,h2,h3,h4⟩
section
variable {prog:Program}{w:World}{A:Around}{E:Value→Shared→Prop}{s:Shared}{K:Frag}
end
end Att
namespace L2
open PySem PySem.Spec PyProof.Rows
theorem zcU:∀{vs:List Value}{ns:List Int},IntsAre vs ns→Vals (ns.map V.int) vs
 | _,_,.nil=>.nil
 | _,_,.cons n t h=>.cons ⟨t,rfl⟩ (zcU h)
noncomputable def Only (H:Hp):Prop:=∀b,H b=none∨∃o xs,H b=some (.frz o (.lst xs))
theorem law_call {P:Program}{w:World}{K:PySem.W.Frag}{mg mb:Str→Option Value}{CX:CXT}{k:Nat}{fa a:Addr}{fd:FuncData}{x:Str}{sp:Sp}{s₁:Shared}{vs:List Value}{ns:List Int}
  (KX:K.In s₁.heap) (hns:s₁.heap.Ns mainGlobals mg) (hb:s₁.heap.Ns builtinsNs mb) (hbb:∀x:Str,x ≠ "__name__" → mb x=bootBuiltins x) (hlim:s₁.heap.NoLimit) (hg:s₁.gens = #[])
  (ha:s₁.heap.get? a=some { cls:=.type "list", data:=.seq vs.toArray }) (hi:IntsAre vs ns) (hl:ns.length≤sizeLine) (hr:Room k callerA)
  (F:∀base:Heap,K.In base→base.Ns mainGlobals mg→FnOk P w K mg base CX k fa fd [x] sp) (hbind:∀(s:Shared) (u:Value),BindsTo s fd ⟨[u],[]⟩ [(x,u)])
  (hsp:∀H:Hp,Only H→SqL K H a (ns.map V.int)→sp [.ref a] H (fun v _=>v=.bl true) fun _ _ _=>False)
  (hCX:∀H e s',CX [] H s₁ (fun _ _ _=>False) e s'→False) :
  codeAny (model P w) callerA (.call (.ref fa) ⟨[.ref a],[]⟩) (fun r s'=>r=.ok (.ret (.bool true))∧OldK s₁.heap s'.heap∧s'.os=s₁.os∧AllBare s'.gens) s₁:=by
 have rv:=zcU hi
 have lenV:=hi.length
 have core:∀H:Hp,Only H→SqL K H a (ns.map V.int)→HOk P w H s₁.heap→(∀b,H b≠none→b=a)→(H a≠none→K.lookup a=none) →
   codeAny (model P w) callerA (.call (.ref fa) ⟨[.ref a],[]⟩) (fun r s'=>r=.ok (.ret (.bool true))∧OldK s₁.heap s'.heap∧s'.os=s₁.os∧AllBare s'.gens) s₁:=by
  intro H hO hS hok hA hK
  have base_of:∀{b:Addr}{o:Obj},s₁.heap.get? b=some o→H b=none→(hidT s₁.heap H).get? b=some o:=fun e n=>hidT_get e n
  have noA:∀{b:Addr}{o:Obj}{es:Array DictEntry}{ep:Nat},s₁.heap.get? b=some o→o.data=.dict es ep→H b=none:=fun {b o es ep} e d=>by
   cases q:H b with
   | none=>rfl
   | some u =>
    have e':b=a:=hA b (by rw [q]; simp)
    subst e'
    rw [ha] at e; cases e
    have d':Data.seq vs.toArray _=Data.dict es ep:=d
    cases d'
  have nsK:∀{b:Addr}{m:Str→Option Value},s₁.heap.Ns b m→(hidT s₁.heap H).Ns b m:=fun {b m} ⟨o,es,ep,e,d,r⟩=>⟨o,es,ep,base_of e (noA e d),d,r⟩
  have hKb:K.In (hidT s₁.heap H):=fun b o e=>base_of (KX b o e) (by
   cases q:H b with
   | none=>rfl
   | some u =>
    have e':b=a:=hA b (by rw [q]; simp)
    subst e'
    rw [hK (by rw [q]; simp)] at e; cases e)
  have hM:Mod K mg (hidT s₁.heap H):=⟨hKb,nsK hns,⟨mb,nsK hb,hbb⟩,let ⟨mc,h1,h2⟩:=hlim; ⟨mc,nsK h1,h2⟩⟩
  have e0:Env0 P w K mg (hidT s₁.heap H) callerA [] s₁ H:=⟨rfl,hM,fun b o e=>of_hidT e,Nat.le_of_eq (hidT_size _ _),trivial,fun b hb=>absurd (show b∈([]:List Addr) from hb) (by simp),hok,.of_eq hg⟩
  refine codeAny_mono ((F _ hKb (nsK hns)).run callerA [] s₁ H ⟨[.ref a],[]⟩ [.ref a] [.ref a] _ _ hr e0 (hbind s₁ (.ref a)) (.cons rfl .nil) (hsp H hO hS)) fun r s' h=>?_
  cases r with
  | error e=>exact (hCX H e s' h).elim
  | ok fl =>
   cases fl with
   | next=>exact False.elim h
   | brk=>exact False.elim h
   | cont=>exact False.elim h
   | ret u =>
    obtain ⟨v,H',os,bare,un,hok',r',q⟩:=h
    have q':v=.bl true:=q
    subst q'
    obtain rfl:u=Value.bool true:=r'
    refine ⟨rfl,OldK.of_keep fun b o e=>?_,os,bare⟩
    cases q:H b with
    | none=>exact un.keep b o e q (by intro z; exact absurd (show b∈([]:List Addr) from z) (by simp)) (by simp)
    | some u =>
     rcases hO b with z | ⟨ob,xs,z⟩
     ·rw [q] at z; cases z
     ·have z2:=un.frzs b ob _ z
      obtain ⟨e1,_⟩:=hok b _ z
      obtain ⟨e2,_⟩:=hok' b _ z2
      rw [e] at e1; cases e1
      exact e2
 cases hk:K.lookup a with
 | some o =>
  have e:=KX a o hk
  rw [ha] at e
  cases e
  refine core (fun _=>none) (fun _=>.inl rfl) (.inr ⟨_,vs.toArray,_,hk,rfl,rfl,rfl,by rw [List.size_toArray,lenV]; exact hl,by simpa using rv⟩) (fun b u z=>by have z':(none:Option HO)=some u:=z; cases z') (fun b z=>absurd rfl z) fun z=>absurd rfl z
 | none =>
  refine core (fun b=>if b=a then some (.frz { cls:=.type "list", data:=.seq vs.toArray } (.lst (ns.map V.int))) else none) (fun b=>?_) (.inl (.inr ⟨{ cls:=.type "list", data:=.seq vs.toArray },if_pos rfl⟩)) (fun b u z=>?_) (fun b z=>?_) fun _=>hk
  ·by_cases hb:b=a
   ·exact .inr ⟨_,_,if_pos hb⟩
   ·exact .inl (if_neg hb)
  ·by_cases hb:b=a
   ·have z':=(if_pos hb).symm.trans z
    cases z'
    subst hb
    exact ⟨ha,by rw [List.length_map]; exact hl,vs,_,rv,ha⟩
   ·have z':=(if_neg hb).symm.trans z
    cases z'
  ·by_cases hb:b=a
   ·exact hb
   ·exact absurd (if_neg hb) z
end L2
namespace L2
open PySem PySem.Spec PyProof.Rows
theorem walk_of {l:PySem.W.OpenLaw}{n k:Nat}{q:Program}{loose:List Str}{XP:(Str→Option Value)→Heap→Prop}{YP:World→Heap→Prop}{d:DefRec}{K:Params→PySem.W.Frag}{CX:World→CXT}{sp:World→Sp}{x:Str}
  (hn:l.most=some n) (hn2:n≤sizeLine) (hdf:d.params.defaults=[]) (hr:Room k callerA)
  (hY:∀(w:World) (h:Heap),YP w h→(K w.params).In h)
  (F : ∀(w:World) (mg:Str→Option Value) (fa:Addr) (h:Heap),(K w.params).In h→h.Ns mainGlobals mg→mg d.name=some (.ref fa) →
   ∃ fd:FuncData,(∀(s:Shared) (u:Value),BindsTo s fd ⟨[u],[]⟩ [(x,u)]) ∧
    ∀base:Heap,(K w.params).In base→base.Ns mainGlobals mg→FnOk l.prog w (K w.params) mg base (CX w) k fa fd [x] (sp w))
  (hsp:∀(w:World) (H:Hp) (a:Addr) (ns:List Int),ns.length≤n→Only H→SqL (K w.params) H a (ns.map V.int)→sp w [.ref a] H (fun v _=>v=.bl true) fun _ _ _=>False)
  (hCX:∀(w:World) (H:Hp) (s:Shared) (e:Value) (s':Shared),CX w [] H s (fun _ _ _=>False) e s'→False) :
  PySem.W.WalkO q loose XP YP l.row.toRowW d [] (fun f vs=>PySem.call f vs):=by
 refine Att.attach_call hn hdf fun w s₀ s₁ mg mb fa o pm cd doc a vs ns G Y ho hd hcd hmg hobj hints hlen hg=>?_
 have KX:=hY w _ Y
 obtain ⟨fd,hb,hF⟩:=F w mg fa _ KX G.T.g hmg
 exact law_call KX G.T.g G.T.b G.T.builtins G.T.nolimit hg hobj hints (Nat.le_trans hlen hn2) hr hF hb (fun H hO hS=>hsp w H a ns hlen hO hS) fun H e s'=>hCX w H s₁ e s'
end L2
namespace L2
open PySem PySem.Spec PyProof.Rows
noncomputable def zK (s:Stmt):Arguments:=match s with
 | .FunctionDef _ a _ _ _ _ _ _ _ _=>a
 | _=>{ posonlyargs:=[],args:=[],vararg:=none,kwonlyargs:=[],kw_defaults:=[],kwarg:=none,defaults:=[] }
noncomputable def zH (s:Stmt):List Stmt:=match s with
 | .FunctionDef _ _ b _ _ _ _ _ _ _=>b
 | _=>[]
noncomputable def zm (s:Stmt):Scope:=match s with
 | .FunctionDef _ _ _ _ _ _ sc _ _ _=>sc
 | _=>{ kind:=.function,names:=[],isGenerator:=false,isCoroutine:=false }
noncomputable abbrev CX0:CXT:=fun _ _ _ _ _ _=>False
noncomputable abbrev E0:XK:=fun _ _ _=>False
structure Fun (K:PySem.W.Frag)(x qual:Str)(st:Stmt)(f:Addr)(fd:FuncData):Prop where
 ex:∃(oc:Value) (od:Option Addr) (kV doc pm:Value) (an:Option Addr) (cdv ct:Value) (osl:Array (Option Value)),
  fd=PySem.W.fnOf x qual (zK st) (zH st) (zm st) .none kV doc pm an cdv ct∧K.lookup f=some ⟨oc,od,.func fd,osl⟩∧PySem.W.codeIn K cdv qual=true
 kp:PySem.W.keepIn K (.ref f)=true
section
variable {P:Program}{w:World}{K:PySem.W.Frag}{mg:Str→Option Value}{base:Heap}
theorem Fun.ok {x qual:Str}{st:Stmt}{f:Addr}{fd:FuncData}{N ps:List Str}{k:Nat}{sp:Sp}(F:Fun K x qual st f fd)(S:FnScope N ps (zm st))(len:∀vs H Q E,sp vs H Q E→vs.length=ps.length)
  (hbody:∀(cdv:Value) (A:Around) (outer:List Env) (s:Shared) (H:Hp) (vs:List V) (Q:VK) (E:XK),Room k (A.deeper (envOfC qual (zm st) s.heap.objs.size f cdv))→sp vs H Q E →
   ∃t,PSs (zag CX0 P w K mg base N qual (zm st) f cdv A outer s H E).nox (zH st) t∧t { nx:=fun _ H'=>Q .non H',rt:=Q } (start N vs) H):FnOk P w K mg base CX0 (k + 1) f fd ps sp:=by
 obtain ⟨oc,od,kV,doc,pm,an,cdv,ct,osl,rfl,lk,hcd⟩:=F.ex
 refine fn_of lk hcd S len fun A outer s H vs Q E hr hsp=>?_
 obtain ⟨t,h,q⟩:=hbody cdv A outer s H vs Q E hr hsp
 exact ⟨t,h.nox,q⟩
theorem Fun.binds {x qual:Str}{st:Stmt}{f:Addr}{fd:FuncData}{ps:List Str}(F:Fun K x qual st f fd)
  (h:∀(kV doc pm:Value) (an:Option Addr) (cdv ct:Value) (us:List Value),us.length=ps.length→bindArgs (PySem.W.fnOf x qual (zK st) (zH st) (zm st) .none kV doc pm an cdv ct) ⟨us,[]⟩=pure (ps.zip us)):Binds K fd ps []:=by
 obtain ⟨oc,od,kV,doc,pm,an,cdv,ct,osl,rfl,lk,hcd⟩:=F.ex
 exact .all (h kV doc pm an cdv ct)
theorem yp {x qual:Str}{st:Stmt}{f:Addr}{oc:Value}{od an:Option Addr}{osl:Array (Option Value)}{kV doc pm cdv ct:Value}(l:K.lookup f=some ⟨oc,od,.func (PySem.W.fnOf x qual (zK st) (zH st) (zm st) .none kV doc pm an cdv ct),osl⟩)
  (c:PySem.W.codeIn K cdv qual=true) (k:PySem.W.keepIn K (.ref f)=true):Fun K x qual st f (PySem.W.fnOf x qual (zK st) (zH st) (zm st) .none kV doc pm an cdv ct):=⟨⟨oc,od,kV,doc,pm,an,cdv,ct,osl,rfl,l,c⟩,k⟩
end
theorem hu_of {A:Around}{k:Nat}(hr:Room k A):A.units + 1 < cLine:=Nat.lt_of_le_of_lt (Nat.add_le_add_left (by decide:1≤64) _) hr.units
section
variable {X:Cx}
theorem pv (i:Nat){x:Str}{pos:Pos}(hN:X.N[i]? = some x:=by rfl)(hv:Vis X.env.scope x:=by first | exact Or.inl rfl | exact Or.inr (Or.inl rfl) | exact Or.inr (Or.inr rfl))(hd:(x == ("__debug__" : Str))=false:=by decide)
  (hcd:(x == ("__classdict__" : Str))=false:=by decide):PE X (.Name x pos) (tVar i):=pe_var hN hv hd hcd
end
noncomputable def Same (H H':Hp):Prop:=∀b o,H b=some o→H' b=some o
theorem Same.refl (H:Hp):Same H H:=fun _ _ h=>h
theorem Same.trans {H H1 H2:Hp}(a:Same H H1)(b:Same H1 H2):Same H H2:=fun c o h=>b c o (a c o h)
theorem Same.free {H H':Hp}(e:Same H H'){l:Addr}(h:H' l=Option.none):H l=Option.none:=by
 cases q:H l with
 | none=>rfl
 | some o =>
  rw [e l o q] at h
  cases h
theorem Same.seq {K:PySem.W.Frag}{H H':Hp}{a:Addr}{xs:List V}(e:Same H H')(h:SqL K H a xs):SqL K H' a xs:=by
 rcases h with (h | ⟨o,h⟩) | h
 ·exact .inl (.inl (e _ _ h))
 ·exact .inl (.inr ⟨o,e _ _ h⟩)
 ·exact .inr h
end L2
namespace My
noncomputable def low (u d:Int):Int×Int:=(u / (Int.gcd u d:Int),d / (Int.gcd u d:Int))
end My
namespace Zp
open PySem
section
variable {prog:Program}{w:World}{A:Around}{E:Value→Shared→Prop}{s:Shared}
theorem nextOf_tuple_item {it t:Addr}{i:Nat}{items}{x:Value}{Q:Value→Shared→Prop}(hit:s.heap.IsTupleIter it t i)
  (ht:s.heap.IsTuple t items) (hx:items[i]? = some x)
  (hQ:∀h',h'.IsTupleIter it t (i + 1)→Heap.SameBut it s.heap h'→Q x { s with heap:=h' }) :
  wpAny (model prog w) A (Builtin.SmallTypes.nextOf (.ref it)) Q E s:=by
 obtain ⟨o,ho,hc,hd⟩:=id hit
 obtain ⟨ol,hol,_,nl,hdl⟩:=ht
 unfold Builtin.SmallTypes.nextOf
 refine wpAny_bind (wpAny_callSpecial?_slot (name:=Str.ofString "__next__") hit.typeIs F.slot_tuple_iterator_next
  (wpAny_call_entry F.slot_tuple_iterator_next hit.typeIs F.entry_tuple_iterator_next ?_ (F.args_tuple_iterator_next_1 _)))
 show wpAny _ _ (field (.ref it) 0 >>= _) _ _ s
 refine wpAny_bind (wpAny_field ho hd (x:=.ref t) rfl ?_)
 show wpAny _ _ (if (Value.ref t == Value.none)=true then _ else _) _ _ s
 rw [if_neg (show ¬((Value.ref t == Value.none)=true) from Bool.false_ne_true)]
 show wpAny _ _ (field (.ref it) 1 >>= _) _ _ s
 refine wpAny_bind (wpAny_field ho hd (x:=.int i 0) rfl ?_)
 show wpAny _ _ (seqItems? (.ref t) >>= _) _ _ s
 refine wpAny_bind (wpAny_seqItems hol hdl ?_)
 simp only [Int.toNat_natCast,hx]
 refine wpAny_bind (wpAny_setField ho hd (by simp) (wpAny_pure ⟨x,rfl,wpAny_pure (hQ _ ?_ (Heap.SameBut.update ..))⟩))
 exact ⟨_,Heap.get?_update_self _ ho (Obj.isFreed_of_fields (Obj.data_mapFields hd _)),(Obj.cls_mapFields ..).trans hc,by
  rw [Obj.data_mapFields hd]; simp [rawInt]⟩
theorem nextOf_tuple_end {it t:Addr}{i:Nat}{items}{Q:Value→Shared→Prop}(hh:A.handled=none)
  (hit:s.heap.IsTupleIter it t i) (ht:s.heap.IsTuple t items) (hx:items[i]? = none)
  (hE:∀h' e,Heap.ExtBut it s.heap h'→(∃o,h'.get? e=some o∧o.cls=.type "StopIteration")→E (.ref e) { s with heap:=h' }) :
  wpAny (model prog w) A (Builtin.SmallTypes.nextOf (.ref it)) Q E s:=by
 obtain ⟨o,ho,hc,hd⟩:=id hit
 obtain ⟨ol,hol,_,nl,hdl⟩:=ht
 unfold Builtin.SmallTypes.nextOf
 refine wpAny_bind (wpAny_callSpecial?_slot (name:=Str.ofString "__next__") hit.typeIs F.slot_tuple_iterator_next
  (wpAny_call_entry F.slot_tuple_iterator_next hit.typeIs F.entry_tuple_iterator_next ?_ (F.args_tuple_iterator_next_1 _)))
 show wpAny _ _ (field (.ref it) 0 >>= _) _ _ s
 refine wpAny_bind (wpAny_field ho hd (x:=.ref t) rfl ?_)
 show wpAny _ _ (if (Value.ref t == Value.none)=true then _ else _) _ _ s
 rw [if_neg (show ¬((Value.ref t == Value.none)=true) from Bool.false_ne_true)]
 show wpAny _ _ (field (.ref it) 1 >>= _) _ _ s
 refine wpAny_bind (wpAny_field ho hd (x:=.int i 0) rfl ?_)
 show wpAny _ _ (seqItems? (.ref t) >>= _) _ _ s
 refine wpAny_bind (wpAny_seqItems hol hdl ?_)
 simp only [Int.toNat_natCast,hx]
 refine wpAny_bind (wpAny_rule (wpAny_bind (wpAny_setField ho hd (by simp) ?_)))
 show wpAny _ _ (newExc (.type "StopIteration") [] >>= _) _ _ _
 refine wpAny_bind ?_
 simp only [newExc,newTuple]
 refine wpAny_bind (wpAny_newObj_type ?_ (by size_fits))
 refine wpAny_bind (m:=firstArgMember _ _) (wpAny_of_eq (a:=Value.none) (by first | rfl | (simp only [firstArgMember]; rfl)) ?_)
 refine wpAny_newObj_type ?_ (by size_fits)
 simp only [raiseNew]
 refine wpAny_bind (wpAny_handled ?_)
 first | rw [show A.in1.handled=none from hh] | rw [hh]
 refine wpAny_bind (wpAny_pure (wpAny_throw ?_))
 exact hE _ _ (((Heap.SameBut.update ..).extBut.push _).push _) ⟨_,Heap.get?_push_size _ rfl,rfl⟩
theorem jP {it:Addr}{x:Str}{t:Tok}{i c:Nat}{Q:Value→Shared→Prop}(hit:s.heap.IsStrIter it "str_ascii_iterator" x t i)(hx:x.cps[i]? = some c)
  (hQ:∀h',h'.IsStrIter it "str_ascii_iterator" x t (i + 1)→Heap.SameBut it s.heap h'→Q (.str ⟨#[c]⟩ s.toks) { s with heap:=h',toks:=s.toks + 1 }) :
  wpAny (model prog w) A (Builtin.SmallTypes.nextOf (.ref it)) Q E s:=by
 obtain ⟨o,ho,hc,hd⟩:=id hit
 unfold Builtin.SmallTypes.nextOf
 refine wpAny_bind (wpAny_callSpecial?_slot (name:=Str.ofString "__next__") hit.typeIs F.slot_str_ascii_iterator_next
  (wpAny_call_entry F.slot_str_ascii_iterator_next hit.typeIs F.entry_str_ascii_iterator_next ?_ (F.args_str_ascii_iterator_next_1 _)))
 show wpAny _ _ (field (.ref it) 0 >>= _) _ _ s
 refine wpAny_bind (wpAny_field ho hd (x:=.str x t) rfl ?_)
 show wpAny _ _ (field (.ref it) 1 >>= _) _ _ s
 refine wpAny_bind (wpAny_field ho hd (x:=.int i 0) rfl ?_)
 simp only [Int.toNat_natCast,hx]
 refine wpAny_bind (wpAny_setField ho hd (by simp) (wpAny_bind (wpAny_mkStr (wpAny_pure ⟨_,rfl,wpAny_pure (hQ _ ?_ (Heap.SameBut.update ..))⟩) (by show 1≤sizeLine; decide))))
 exact ⟨_,Heap.get?_update_self _ ho (Obj.isFreed_of_fields (Obj.data_mapFields hd _)),(Obj.cls_mapFields ..).trans hc,by
  rw [Obj.data_mapFields hd]; simp [rawInt]⟩
end
noncomputable abbrev IsZipF (h:Heap)(z TI TO:Addr)(f0 f1:Value):Prop :=
 h.get? z=some { cls:=.type "zip", dict:=none,data:=.fields #[f0,f1,.bool false,.ref TI,.ref TO],slots:=#[] }
structure Apart (z TI TO i1 i2:Addr):Prop where
 TIz:TI≠z
 TOz:TO≠z
 i1z:i1≠z
 i2z:i2≠z
 TITO:TI≠TO
 TIi1:TI≠i1
 TIi2:TI≠i2
 TOi1:TO≠i1
 TOi2:TO≠i2
 i12:i1≠i2
noncomputable def Yields (prog:Program)(w:World)(A:Around)(it:Addr)(G:Heap→Prop)(P:Value→Prop)(S:Heap→Prop):Prop :=
 ∀ (s:Shared) (Q:Value→Shared→Prop) (E:Value→Shared→Prop),G s.heap→(∀x h' tk,P x→S h'→Heap.SameBut it s.heap h'→Q x { s with heap:=h',toks:=tk }) →
  wpAny (model prog w) A (Builtin.SmallTypes.nextOf (.ref it)) Q E s
noncomputable def Ends (prog:Program)(w:World)(A:Around)(it:Addr)(G:Heap→Prop):Prop :=
 ∀ (s:Shared) (Q:Value→Shared→Prop) (E:Value→Shared→Prop),G s.heap→(∀h' e,Heap.ExtBut it s.heap h'→(∃o,h'.get? e=some o∧o.cls=.type "StopIteration")→E (.ref e) { s with heap:=h' }) →
  wpAny (model prog w) A (Builtin.SmallTypes.nextOf (.ref it)) Q E s
section
variable {prog:Program}{w:World}{A:Around}{E:Value→Shared→Prop}{s:Shared}
theorem next_item {z TI TO i1 i2:Addr}{a b f1:Value}{P1 P2:Value→Prop}{G1 G2 S1 S2:Heap→Prop}{Q:Value→Shared→Prop}(D:Apart z TI TO i1 i2)
  (hz:IsZipF s.heap z TI TO .none f1) (hTI:IsPair s.heap TI (.ref i1) (.ref i2)) (hTO:IsPair s.heap TO a b)
  (Y1:Yields prog w A i1 G1 P1 S1) (Y2:Yields prog w A i2 G2 P2 S2)
  (g1:∀h',(∀c o,c≠z→s.heap.get? c=some o→h'.get? c=some o)→G1 h') (g2:∀h',(∀c o,c≠z→c≠TO→c≠i1→s.heap.get? c=some o→h'.get? c=some o)→G2 h')
  (k1:∀h h',S1 h→(∀c o,c≠z→c≠TO→c≠i2→h.get? c=some o→h'.get? c=some o)→S1 h')
  (k2:∀h h',S2 h→(∀c o,c≠z→c≠TO→h.get? c=some o→h'.get? c=some o)→S2 h')
  (hQ:∀x y h' tk,P1 x→P2 y→IsZipF h' z TI TO (rawInt s.heap.objs.size) (.bool false)→IsPair h' TO x y→S1 h'→S2 h'→IsPair h' s.heap.objs.size x y→h'.objs.size=s.heap.objs.size + 1 →
   (∀c o,c≠z→c≠TO→c≠i1→c≠i2→s.heap.get? c=some o→h'.get? c=some o)→Q (.ref s.heap.objs.size) { s with heap:=h',toks:=tk }) :
  wpAny (model prog w) A (Builtin.«zip.__next__» ⟨[.ref z],[]⟩) (fun fin s'=>∃v,fin=.done (.ret v)∧Q v s') E s:=by
 show wpAny _ _ (field (.ref z) 2 >>= _) _ _ _
 refine wpAny_bind (wpAny_field hz rfl (x:=.bool false) rfl ?_)
 show wpAny _ _ (field (.ref z) 3 >>= _) _ _ _
 refine wpAny_bind (wpAny_field hz rfl (x:=.ref TI) rfl ?_)
 refine wpAny_bind (wpAny_seqItems hTI rfl ?_)
 show wpAny _ _ (Builtin.SmallTypes.ownedTupleIsFree (.ref z) >>= _) _ _ _
 refine wpAny_bind ?_
 unfold Builtin.SmallTypes.ownedTupleIsFree
 refine wpAny_bind (wpAny_field hz rfl (x:=.none) rfl (wpAny_pure ?_))
 simp only [if_true]
 refine wpAny_bind (wpAny_rule ?_)
 refine wpAny_bind (wpAny_field hz rfl (x:=.ref TO) rfl ?_)
 refine wpAny_bind (wpAny_setField_rec hz (by simp) fun h₁ hz₁ hs₁=>?_)
 replace hz₁:IsZipF h₁ z TI TO .ellipsis f1:=hz₁
 refine wpAny_bind ?_
 simp only [List.zipIdx_cons,List.zipIdx_nil,List.forIn_cons,List.forIn_nil]
 refine wpAny_bind (wpAny_bind (wpAny_onRaise ?_))
 show wpAny _ _ (Builtin.SmallTypes.nextOf (.ref i1) >>= _) _ _ _
 refine wpAny_bind (Y1 _ _ _ (g1 _ fun c o hc e=>hs₁.extBut _ _ hc e) fun x h₂ tk₂ px st1 hs₂=>wpAny_pure ?_)
 have hTO₂:IsPair h₂ TO a b:=hs₂.extBut _ _ D.TOi1 (hs₁.extBut _ _ D.TOz hTO)
 refine wpAny_bind (wpAny_seqItems hTO₂ rfl ?_)
 refine wpAny_bind (wpAny_updateSeq_pair hTO₂ fun h₃ hTO₃ hs₃=>?_)
 replace hTO₃:IsPair h₃ TO x b:=hTO₃
 refine wpAny_bind (wpAny_letGo (wpAny_pure ?_))
 refine wpAny_bind (wpAny_bind (wpAny_onRaise ?_))
 show wpAny _ _ (Builtin.SmallTypes.nextOf (.ref i2) >>= _) _ _ _
 refine wpAny_bind (Y2 _ _ _ (g2 _ fun c o c1 c2 c3 e=>hs₃.extBut _ _ c2 (hs₂.extBut _ _ c3 (hs₁.extBut _ _ c1 e))) fun y h₄ tk₄ py st2 hs₄=>wpAny_pure ?_)
 have hTO₄:IsPair h₄ TO x b:=hs₄.extBut _ _ D.TOi2 hTO₃
 refine wpAny_bind (wpAny_seqItems hTO₄ rfl ?_)
 refine wpAny_bind (wpAny_updateSeq_pair hTO₄ fun h₅ hTO₅ hs₅=>?_)
 replace hTO₅:IsPair h₅ TO x y:=hTO₅
 refine wpAny_bind (wpAny_letGo (wpAny_pure (wpAny_pure ?_)))
 refine wpAny_bind (wpAny_seqItems hTO₅ rfl ?_)
 refine wpAny_bind (wpAny_newTuple ?_)
 have hsz:h₅.objs.size=s.heap.objs.size:=by rw [hs₅.1,hs₄.1,hs₃.1,hs₂.1,hs₁.1]
 have hz₅:IsZipF h₅ z TI TO .ellipsis f1:=hs₅.extBut _ _ D.TOz.symm (hs₄.extBut _ _ D.i2z.symm (hs₃.extBut _ _ D.TOz.symm (hs₂.extBut _ _ D.i1z.symm hz₁)))
 have hk₅:∀c o,c≠z→c≠TO→c≠i1→c≠i2→s.heap.get? c=some o→h₅.get? c=some o:=fun c o c1 c2 c3 c4 e =>
  hs₅.extBut _ _ c2 (hs₄.extBut _ _ c4 (hs₃.extBut _ _ c2 (hs₂.extBut _ _ c3 (hs₁.extBut _ _ c1 e))))
 have hzlt:z < h₅.objs.size:=Heap.lt_size hz₅
 show wpAny _ _ (Builtin.SmallTypes.ownedTupleHandOut (.ref z) (.ref h₅.objs.size) >>= _) _ _ _
 refine wpAny_bind ?_
 unfold Builtin.SmallTypes.ownedTupleHandOut
 have hz₆:IsZipF (h₅.push { cls:=.type "tuple", data:=.seq #[x,y] }) z TI TO .ellipsis f1:=Heap.get?_push_of_some _ hz₅
 refine wpAny_bind (wpAny_setField_rec hz₆ (by simp) fun h₇ hz₇ hs₇=>?_)
 replace hz₇:IsZipF h₇ z TI TO (rawInt h₅.objs.size) f1:=hz₇
 refine wpAny_setField_rec hz₇ (by simp) fun h₈ hz₈ hs₈=>?_
 replace hz₈:IsZipF h₈ z TI TO (rawInt h₅.objs.size) (.bool false):=hz₈
 have up:∀c o,c≠z→h₅.get? c=some o→h₈.get? c=some o:=fun c o c1 e=>hs₈.extBut _ _ c1 (hs₇.extBut _ _ c1 (Heap.get?_push_of_some _ e))
 have hT₈:IsPair h₈ h₅.objs.size x y:=hs₈.extBut _ _ (Nat.ne_of_gt hzlt) (hs₇.extBut _ _ (Nat.ne_of_gt hzlt) (Heap.get?_push_size _ rfl))
 have hz8:h₈.objs.size=h₅.objs.size + 1:=by rw [hs₈.1,hs₇.1,Heap.size_push]
 have q1:S1 h₈:=k1 h₂ h₈ st1 fun c o c1 c2 c4 e=>up c o c1 (hs₅.extBut _ _ c2 (hs₄.extBut _ _ c4 (hs₃.extBut _ _ c2 e)))
 have q2:S2 h₈:=k2 h₄ h₈ st2 fun c o c1 c2 e=>up c o c1 (hs₅.extBut _ _ c2 e)
 rw [hsz] at hz₈ hT₈ hz8
 refine wpAny_pure ⟨_,rfl,?_⟩
 show Q (.ref h₅.objs.size) _
 rw [hsz]
 exact hQ x y h₈ _ px py hz₈ (up _ _ D.TOz hTO₅) q1 q2 hT₈ hz8 fun c o c1 c2 c3 c4 e=>up c o c1 (hk₅ c o c1 c2 c3 c4 e)
theorem next_end {z TI TO i1 i2:Addr}{a b f1:Value}{P1:Value→Prop}{G1 G2 S1:Heap→Prop}{Q:Fin→Shared→Prop}(D:Apart z TI TO i1 i2)
  (hz:IsZipF s.heap z TI TO .none f1) (hTI:IsPair s.heap TI (.ref i1) (.ref i2)) (hTO:IsPair s.heap TO a b)
  (hend:Ends prog w A i1 G1∨(Yields prog w A i1 G1 P1 S1∧Ends prog w A i2 G2))
  (g1:∀h',(∀c o,c≠z→s.heap.get? c=some o→h'.get? c=some o)→G1 h') (g2:∀h',(∀c o,c≠z→c≠TO→c≠i1→s.heap.get? c=some o→h'.get? c=some o)→G2 h')
  (hE:∀h' tk e,(∀c o,c≠z→c≠TO→c≠i1→c≠i2→s.heap.get? c=some o→h'.get? c=some o)→(∃o,h'.get? e=some o∧o.cls=.type "StopIteration")→E (.ref e) { s with heap:=h',toks:=tk }) :
  wpAny (model prog w) A (Builtin.«zip.__next__» ⟨[.ref z],[]⟩) Q E s:=by
 show wpAny _ _ (field (.ref z) 2 >>= _) _ _ _
 refine wpAny_bind (wpAny_field hz rfl (x:=.bool false) rfl ?_)
 show wpAny _ _ (field (.ref z) 3 >>= _) _ _ _
 refine wpAny_bind (wpAny_field hz rfl (x:=.ref TI) rfl ?_)
 refine wpAny_bind (wpAny_seqItems hTI rfl ?_)
 show wpAny _ _ (Builtin.SmallTypes.ownedTupleIsFree (.ref z) >>= _) _ _ _
 refine wpAny_bind ?_
 unfold Builtin.SmallTypes.ownedTupleIsFree
 refine wpAny_bind (wpAny_field hz rfl (x:=.none) rfl (wpAny_pure ?_))
 simp only [if_true]
 refine wpAny_bind (wpAny_rule ?_)
 refine wpAny_bind (wpAny_field hz rfl (x:=.ref TO) rfl ?_)
 refine wpAny_bind (wpAny_setField_rec hz (by simp) fun h₁ hz₁ hs₁=>?_)
 replace hz₁:IsZipF h₁ z TI TO .ellipsis f1:=hz₁
 refine wpAny_bind ?_
 simp only [List.zipIdx_cons,List.zipIdx_nil,List.forIn_cons,List.forIn_nil]
 refine wpAny_bind (wpAny_bind (wpAny_onRaise ?_))
 show wpAny _ _ (Builtin.SmallTypes.nextOf (.ref i1) >>= _) _ _ _
 rcases hend with E1 | ⟨Y1,E2⟩
 ·refine wpAny_bind (E1 _ _ _ (g1 _ fun c o hc e=>hs₁.extBut _ _ hc e) fun h₂ e hs₂ he=>?_)
  obtain ⟨oe,hoe,hce⟩:=he
  have hz₂:IsZipF h₂ z TI TO .ellipsis f1:=hs₂ _ _ D.i1z.symm hz₁
  have hez:e≠z:=fun x=>by subst x; rw [hz₂] at hoe; cases hoe; simp at hce
  refine wpAny_setField_rec hz₂ (by simp) fun h₃ _ hs₃=>hE h₃ _ e (fun c o c1 _ c3 _ x=>hs₃.extBut _ _ c1 (hs₂ _ _ c3 (hs₁.extBut _ _ c1 x))) ⟨oe,hs₃.extBut _ _ hez hoe,hce⟩
 ·refine wpAny_bind (Y1 _ _ _ (g1 _ fun c o hc e=>hs₁.extBut _ _ hc e) fun x h₂ tk₂ px st1 hs₂=>wpAny_pure ?_)
  have hTO₂:IsPair h₂ TO a b:=hs₂.extBut _ _ D.TOi1 (hs₁.extBut _ _ D.TOz hTO)
  refine wpAny_bind (wpAny_seqItems hTO₂ rfl ?_)
  refine wpAny_bind (wpAny_updateSeq_pair hTO₂ fun h₃ hTO₃ hs₃=>?_)
  refine wpAny_bind (wpAny_letGo (wpAny_pure ?_))
  refine wpAny_bind (wpAny_bind (wpAny_onRaise ?_))
  show wpAny _ _ (Builtin.SmallTypes.nextOf (.ref i2) >>= _) _ _ _
  refine wpAny_bind (E2 _ _ _ (g2 _ fun c o c1 c2 c3 e=>hs₃.extBut _ _ c2 (hs₂.extBut _ _ c3 (hs₁.extBut _ _ c1 e))) fun h₄ e hs₄ he=>?_)
  obtain ⟨oe,hoe,hce⟩:=he
  have hz₄:IsZipF h₄ z TI TO .ellipsis f1:=hs₄ _ _ D.i2z.symm (hs₃.extBut _ _ D.TOz.symm (hs₂.extBut _ _ D.i1z.symm hz₁))
  have hez:e≠z:=fun x=>by subst x; rw [hz₄] at hoe; cases hoe; simp at hce
  refine wpAny_setField_rec hz₄ (by simp) fun h₅ _ hs₅=>hE h₅ _ e (fun c o c1 c2 c3 c4 x=>hs₅.extBut _ _ c1 (hs₄ _ _ c4 (hs₃.extBut _ _ c2 (hs₂.extBut _ _ c3 (hs₁.extBut _ _ c1 x))))) ⟨oe,hs₅.extBut _ _ hez hoe,hce⟩
end
end Zp
namespace Zp
open PySem
section
variable {prog:Program}{w:World}{A:Around}{E:Value→Shared→Prop}{s:Shared}
theorem alive {a:Addr}{o:Obj}{Q:Option Obj→Shared→Prop}(ho:s.heap.get? a=some o)(h:Q (some o) s):wpAny (model prog w) A (loadIfAlive a) Q E s:=by
 have h':Q (s.heap.get? a) s:=by rw [ho]; exact h
 exact fun _ _ _=>h'
theorem zdl {z TI TO i1 i2 T:Addr}{oT:Obj}{P1 P2:Value→Prop}{fb:Bool}{G1 G2 S1 S2:Heap→Prop}{Q:Value→Shared→Prop}(D:Apart z TI TO i1 i2)
  (hz:IsZipF s.heap z TI TO (rawInt T) (.bool fb)) (hTI:IsPair s.heap TI (.ref i1) (.ref i2)) (hT:s.heap.get? T=some oT)
  (Y1:Yields prog w A i1 G1 P1 S1) (Y2:Yields prog w A i2 G2 P2 S2)
  (g1:∀h',(∀c o,c≠z→s.heap.get? c=some o→h'.get? c=some o)→G1 h') (g2:∀h',(∀c o,c≠z→c≠i1→s.heap.get? c=some o→h'.get? c=some o)→G2 h')
  (k1:∀h h',S1 h→(∀c o,c≠i2→h.get? c=some o→h'.get? c=some o)→S1 h')
  (k2:∀h h',S2 h→(∀c o,h.get? c=some o→h'.get? c=some o)→S2 h')
  (hQ:∀x y h' tk,P1 x→P2 y→IsZipF h' z TI TO (rawInt T) (.bool true)→S1 h'→S2 h'→IsPair h' s.heap.objs.size x y→h'.objs.size=s.heap.objs.size + 1 →
   (∀c o,c≠z→c≠i1→c≠i2→s.heap.get? c=some o→h'.get? c=some o)→Q (.ref s.heap.objs.size) { s with heap:=h',toks:=tk }) :
  wpAny (model prog w) A (Builtin.«zip.__next__» ⟨[.ref z],[]⟩) (fun fin s'=>∃v,fin=.done (.ret v)∧Q v s') E s:=by
 show wpAny _ _ (field (.ref z) 2 >>= _) _ _ _
 refine wpAny_bind (wpAny_field hz rfl (x:=.bool false) rfl ?_)
 show wpAny _ _ (field (.ref z) 3 >>= _) _ _ _
 refine wpAny_bind (wpAny_field hz rfl (x:=.ref TI) rfl ?_)
 refine wpAny_bind (wpAny_seqItems hTI rfl ?_)
 show wpAny _ _ (Builtin.SmallTypes.ownedTupleIsFree (.ref z) >>= _) _ _ _
 refine wpAny_bind ?_
 unfold Builtin.SmallTypes.ownedTupleIsFree
 refine wpAny_bind (wpAny_field hz rfl (x:=rawInt T) rfl ?_)
 show wpAny _ _ (loadIfAlive ((T:Int).toNat) >>= _) _ _ _
 rw [Int.toNat_natCast]
 refine wpAny_bind (alive hT ?_)
 simp only [Option.isNone_some,Bool.false_eq_true,if_false]
 refine wpAny_bind (wpAny_field hz rfl (x:=.bool fb) rfl ?_)
 cases fb with
 | true =>
  rw [if_neg (show ¬((Value.bool true != Value.bool true)=true) from Bool.false_ne_true)]
  refine wpAny_pure ?_
  simp only [Bool.false_eq_true,if_false]
  have HZ:=hz
  have HS:Heap.SameBut z s.heap s.heap:=Heap.SameBut.refl _ _
  rw [← Array.forIn_toList]
  simp only [List.forIn_cons,List.forIn_nil]
  refine wpAny_bind (wpAny_bind (wpAny_bind (wpAny_holding ?_)))
  show wpAny _ _ (Builtin.SmallTypes.nextOf (.ref i1) >>= _) _ _ _
  refine wpAny_bind (Y1 _ _ _ (g1 _ fun c o hc e=>HS.extBut _ _ hc e) fun x h₂ tk₂ px st1 hs₂=>wpAny_pure (wpAny_pure ?_))
  refine wpAny_bind (wpAny_bind (wpAny_holding ?_))
  show wpAny _ _ (Builtin.SmallTypes.nextOf (.ref i2) >>= _) _ _ _
  refine wpAny_bind (Y2 _ _ _ (g2 _ fun c o c1 c3 e=>hs₂.extBut _ _ c3 (HS.extBut _ _ c1 e)) fun y h₄ tk₄ py st2 hs₄=>wpAny_pure (wpAny_pure (wpAny_pure ?_)))
  refine wpAny_bind (wpAny_newTuple ?_ (by show 2≤sizeLine; decide))
  have hsz:h₄.objs.size=s.heap.objs.size:=by rw [hs₄.1,hs₂.1,HS.1]
  have hz₄:IsZipF h₄ z TI TO (rawInt T) (.bool true):=hs₄.extBut _ _ D.i2z.symm (hs₂.extBut _ _ D.i1z.symm HZ)
  refine wpAny_pure ⟨_,rfl,?_⟩
  show Q (.ref h₄.objs.size) _
  rw [hsz]
  have hp:IsPair (h₄.push { cls:=.type "tuple", data:=.seq #[x,y] }) s.heap.objs.size x y:=by rw [← hsz]; exact Heap.get?_push_size _ rfl
  exact hQ x y _ _ px py (Heap.get?_push_of_some _ hz₄) (k1 h₂ _ st1 fun c o hc e=>Heap.get?_push_of_some _ (hs₄.extBut _ _ hc e)) (k2 h₄ _ st2 fun c o e=>Heap.get?_push_of_some _ e) hp (by rw [Heap.size_push,hsz])
   fun c o c1 c3 c4 e=>Heap.get?_push_of_some _ (hs₄.extBut _ _ c4 (hs₂.extBut _ _ c3 (HS.extBut _ _ c1 e)))
 | false =>
  rw [if_pos (show (Value.bool false != Value.bool true)=true from rfl)]
  refine wpAny_bind (wpAny_setField_rec hz (by simp) fun h₁ hz₁ HS=>?_)
  replace HS:Heap.SameBut z s.heap h₁:=HS
  have HZ:IsZipF h₁ z TI TO (rawInt T) (.bool true):=hz₁
  refine wpAny_pure ?_
  simp only [Bool.false_eq_true,if_false]
  rw [← Array.forIn_toList]
  simp only [List.forIn_cons,List.forIn_nil]
  refine wpAny_bind (wpAny_bind (wpAny_bind (wpAny_holding ?_)))
  show wpAny _ _ (Builtin.SmallTypes.nextOf (.ref i1) >>= _) _ _ _
  refine wpAny_bind (Y1 _ _ _ (g1 _ fun c o hc e=>HS.extBut _ _ hc e) fun x h₂ tk₂ px st1 hs₂=>wpAny_pure (wpAny_pure ?_))
  refine wpAny_bind (wpAny_bind (wpAny_holding ?_))
  show wpAny _ _ (Builtin.SmallTypes.nextOf (.ref i2) >>= _) _ _ _
  refine wpAny_bind (Y2 _ _ _ (g2 _ fun c o c1 c3 e=>hs₂.extBut _ _ c3 (HS.extBut _ _ c1 e)) fun y h₄ tk₄ py st2 hs₄=>wpAny_pure (wpAny_pure (wpAny_pure ?_)))
  refine wpAny_bind (wpAny_newTuple ?_ (by show 2≤sizeLine; decide))
  have hsz:h₄.objs.size=s.heap.objs.size:=by rw [hs₄.1,hs₂.1,HS.1]
  have hz₄:IsZipF h₄ z TI TO (rawInt T) (.bool true):=hs₄.extBut _ _ D.i2z.symm (hs₂.extBut _ _ D.i1z.symm HZ)
  refine wpAny_pure ⟨_,rfl,?_⟩
  show Q (.ref h₄.objs.size) _
  rw [hsz]
  have hp:IsPair (h₄.push { cls:=.type "tuple", data:=.seq #[x,y] }) s.heap.objs.size x y:=by rw [← hsz]; exact Heap.get?_push_size _ rfl
  exact hQ x y _ _ px py (Heap.get?_push_of_some _ hz₄) (k1 h₂ _ st1 fun c o hc e=>Heap.get?_push_of_some _ (hs₄.extBut _ _ hc e)) (k2 h₄ _ st2 fun c o e=>Heap.get?_push_of_some _ e) hp (by rw [Heap.size_push,hsz])
   fun c o c1 c3 c4 e=>Heap.get?_push_of_some _ (hs₄.extBut _ _ c4 (hs₂.extBut _ _ c3 (HS.extBut _ _ c1 e)))
theorem end_busy {z TI TO i1 i2 T:Addr}{oT:Obj}{P1:Value→Prop}{fb:Bool}{G1 G2 S1:Heap→Prop}{Q:Fin→Shared→Prop}(D:Apart z TI TO i1 i2)
  (hz:IsZipF s.heap z TI TO (rawInt T) (.bool fb)) (hTI:IsPair s.heap TI (.ref i1) (.ref i2)) (hT:s.heap.get? T=some oT)
  (hend:Ends prog w A i1 G1∨(Yields prog w A i1 G1 P1 S1∧Ends prog w A i2 G2))
  (g1:∀h',(∀c o,c≠z→s.heap.get? c=some o→h'.get? c=some o)→G1 h') (g2:∀h',(∀c o,c≠z→c≠i1→s.heap.get? c=some o→h'.get? c=some o)→G2 h')
  (hE:∀h' tk e,(∀c o,c≠z→c≠i1→c≠i2→s.heap.get? c=some o→h'.get? c=some o)→(∃o,h'.get? e=some o∧o.cls=.type "StopIteration")→E (.ref e) { s with heap:=h',toks:=tk }) :
  wpAny (model prog w) A (Builtin.«zip.__next__» ⟨[.ref z],[]⟩) Q E s:=by
 show wpAny _ _ (field (.ref z) 2 >>= _) _ _ _
 refine wpAny_bind (wpAny_field hz rfl (x:=.bool false) rfl ?_)
 show wpAny _ _ (field (.ref z) 3 >>= _) _ _ _
 refine wpAny_bind (wpAny_field hz rfl (x:=.ref TI) rfl ?_)
 refine wpAny_bind (wpAny_seqItems hTI rfl ?_)
 show wpAny _ _ (Builtin.SmallTypes.ownedTupleIsFree (.ref z) >>= _) _ _ _
 refine wpAny_bind ?_
 unfold Builtin.SmallTypes.ownedTupleIsFree
 refine wpAny_bind (wpAny_field hz rfl (x:=rawInt T) rfl ?_)
 show wpAny _ _ (loadIfAlive ((T:Int).toNat) >>= _) _ _ _
 rw [Int.toNat_natCast]
 refine wpAny_bind (alive hT ?_)
 simp only [Option.isNone_some,Bool.false_eq_true,if_false]
 refine wpAny_bind (wpAny_field hz rfl (x:=.bool fb) rfl ?_)
 cases fb with
 | true =>
  rw [if_neg (show ¬((Value.bool true != Value.bool true)=true) from Bool.false_ne_true)]
  refine wpAny_pure ?_
  simp only [Bool.false_eq_true,if_false]
  have HS:Heap.SameBut z s.heap s.heap:=Heap.SameBut.refl _ _
  rw [← Array.forIn_toList]
  simp only [List.forIn_cons,List.forIn_nil]
  refine wpAny_bind (wpAny_bind (wpAny_bind (wpAny_holding ?_)))
  show wpAny _ _ (Builtin.SmallTypes.nextOf (.ref i1) >>= _) _ _ _
  rcases hend with E1 | ⟨Y1,E2⟩
  ·refine wpAny_bind (E1 _ _ _ (g1 _ fun c o hc e=>HS.extBut _ _ hc e) fun h₂ e hs₂ he=>?_)
   exact hE h₂ _ e (fun c o c1 c3 _ x=>hs₂ _ _ c3 (HS.extBut _ _ c1 x)) he
  ·refine wpAny_bind (Y1 _ _ _ (g1 _ fun c o hc e=>HS.extBut _ _ hc e) fun x h₂ tk₂ px st1 hs₂=>wpAny_pure (wpAny_pure ?_))
   refine wpAny_bind (wpAny_bind (wpAny_holding ?_))
   show wpAny _ _ (Builtin.SmallTypes.nextOf (.ref i2) >>= _) _ _ _
   refine wpAny_bind (E2 _ _ _ (g2 _ fun c o c1 c3 e=>hs₂.extBut _ _ c3 (HS.extBut _ _ c1 e)) fun h₄ e hs₄ he=>?_)
   exact hE h₄ _ e (fun c o c1 c3 c4 x=>hs₄ _ _ c4 (hs₂.extBut _ _ c3 (HS.extBut _ _ c1 x))) he
 | false =>
  rw [if_pos (show (Value.bool false != Value.bool true)=true from rfl)]
  refine wpAny_bind (wpAny_setField_rec hz (by simp) fun h₁ hz₁ HS=>?_)
  replace HS:Heap.SameBut z s.heap h₁:=HS
  refine wpAny_pure ?_
  simp only [Bool.false_eq_true,if_false]
  rw [← Array.forIn_toList]
  simp only [List.forIn_cons,List.forIn_nil]
  refine wpAny_bind (wpAny_bind (wpAny_bind (wpAny_holding ?_)))
  show wpAny _ _ (Builtin.SmallTypes.nextOf (.ref i1) >>= _) _ _ _
  rcases hend with E1 | ⟨Y1,E2⟩
  ·refine wpAny_bind (E1 _ _ _ (g1 _ fun c o hc e=>HS.extBut _ _ hc e) fun h₂ e hs₂ he=>?_)
   exact hE h₂ _ e (fun c o c1 c3 _ x=>hs₂ _ _ c3 (HS.extBut _ _ c1 x)) he
  ·refine wpAny_bind (Y1 _ _ _ (g1 _ fun c o hc e=>HS.extBut _ _ hc e) fun x h₂ tk₂ px st1 hs₂=>wpAny_pure (wpAny_pure ?_))
   refine wpAny_bind (wpAny_bind (wpAny_holding ?_))
   show wpAny _ _ (Builtin.SmallTypes.nextOf (.ref i2) >>= _) _ _ _
   refine wpAny_bind (E2 _ _ _ (g2 _ fun c o c1 c3 e=>hs₂.extBut _ _ c3 (HS.extBut _ _ c1 e)) fun h₄ e hs₄ he=>?_)
   exact hE h₄ _ e (fun c o c1 c3 c4 x=>hs₄ _ _ c4 (hs₂.extBut _ _ c3 (HS.extBut _ _ c1 x))) he
end
end Zp
set_option maxHeartbeats 2000000
namespace Zp
open PySem
section
variable {prog:Program}{w:World}{A:Around}
theorem yields_tuple {it t:Addr}{i:Nat}{items:Array Value}{x:Value}(hne:t≠it)(hx:items[i]? = some x) :
  Yields prog w A it (fun h=>h.IsTupleIter it t i∧h.IsTuple t items) (fun v=>v=x) (fun h=>h.IsTupleIter it t (i + 1)∧h.IsTuple t items) :=
 fun s Q E g hQ=>nextOf_tuple_item g.1 g.2 hx fun h' st sb=>hQ _ h' s.toks rfl ⟨st,g.2.extBut sb.extBut hne⟩ sb
theorem ends_tuple {it t:Addr}{i:Nat}{items:Array Value}(hh:A.handled=none)(hx:items[i]? = none) :
  Ends prog w A it (fun h=>h.IsTupleIter it t i∧h.IsTuple t items) :=
 fun s Q E g hE=>nextOf_tuple_end hh g.1 g.2 hx hE
theorem zc5 {it:Addr}{x:Str}{t:Tok}{i c:Nat}(hx:x.cps[i]? = some c) :
  Yields prog w A it (fun h=>h.IsStrIter it "str_ascii_iterator" x t i) (fun v=>∃u,v=.str ⟨#[c]⟩ u) (fun h=>h.IsStrIter it "str_ascii_iterator" x t (i + 1)) :=
 fun s Q E g hQ=>jP g hx fun h' st sb=>hQ _ h' _ ⟨_,rfl⟩ st sb
end
section
variable {prog:Program}{w:World}{A:Around}{E:Value→Shared→Prop}{s:Shared}
noncomputable abbrev zH2 (h:Heap)(o1 o2:Obj):Heap:=(h.push o1).push o2
noncomputable abbrev zH3 (h:Heap)(o1 o2:Obj):Heap:=(zH2 h o1 o2).push { cls:=.type "tuple", data:=.seq #[.ref h.objs.size,.ref (h.push o1).objs.size] }
noncomputable abbrev zH4 (h:Heap)(o1 o2:Obj):Heap:=(zH3 h o1 o2).push { cls:=.type "tuple", data:=.seq #[.none,.none] }
noncomputable abbrev zH5 (h:Heap)(o1 o2:Obj):Heap:=(zH4 h o1 o2).push { cls:=.type "zip", data:=.fields #[.none,.bool false,.bool false,.ref (zH2 h o1 o2).objs.size,.ref (zH3 h o1 o2).objs.size] }
noncomputable abbrev tIter (t:Addr):Obj:={ cls:=.type "tuple_iterator", data:=.fields #[.ref t,.int 0 0] }
noncomputable abbrev sIter (x:Str)(t:Tok):Obj:={ cls:=.type "str_ascii_iterator", data:=.fields #[.str x t,.int 0 0] }
theorem meets_tt (l1 l2:Addr)(xs ys:Array Value) :
  Meets (Builtin.«zip.__new__» ⟨[.type "zip", .ref l1,.ref l2],[]⟩) (fun _ R s=>s.heap.IsTuple l1 xs∧s.heap.IsTuple l2 ys ∧
   R (.ok (.ret (.ref (zH4 s.heap (tIter l1) (tIter l2)).objs.size))) { s with heap:=zH5 s.heap (tIter l1) (tIter l2) }) :=
 .of_wp fun prog w A R s h=>by
  obtain ⟨hp,g,d,tk,os⟩:=s; obtain ⟨hl1,hl2,h⟩:=h
  have hsub:=sub_zip
  have hL1:Heap.IsTuple (Shared.heap ⟨hp,g,d,tk,os⟩) l1 xs:=hl1
  have hL2:Heap.IsTuple (Shared.heap ⟨hp.push (tIter l1),g,d,tk,os⟩) l2 ys:=Heap.IsTuple.push hl2 _
  wp_walk using wpAny_pyIter_tuple hL1,wpAny_pyIter_tuple hL2
  exact ⟨_,rfl,h⟩
theorem zcM {prog:Program}{w:World}{A:Around}{a b:Value}{s:Shared}{h1 h2:Heap}{i1 i2:Addr}{E:Value→Shared→Prop}{Q:Fin→Shared→Prop}
  (p1:∀(Q:Value→Shared→Prop) (E:Value→Shared→Prop),Q (.ref i1) { s with heap:=h1 }→wpAny (model prog w) A (pyIter a) Q E s)
  (p2:∀(Q:Value→Shared→Prop) (E:Value→Shared→Prop),Q (.ref i2) { s with heap:=h2 }→wpAny (model prog w) A (pyIter b) Q E { s with heap:=h1 })
  (hQ:Q (.done (.ret (.ref (h2.objs.size + 2)))) { s with heap:=((h2.push { cls:=.type "tuple", data:=.seq #[.ref i1,.ref i2] }).push { cls:=.type "tuple", data:=.seq #[.none,.none] }).push { cls:=.type "zip", data:=.fields #[.none,.bool false,.bool false,.ref h2.objs.size,.ref (h2.objs.size + 1)] } }) :
  wpAny (model prog w) A (Builtin.«zip.__new__» ⟨[.type "zip", a,b],[]⟩) Q E s:=by
 obtain ⟨hp,g,d,tk,os⟩:=s
 have hsub:=sub_zip
 have z1:(h2.push { cls:=.type "tuple", data:=.seq #[.ref i1,.ref i2] }).objs.size=h2.objs.size + 1:=Heap.size_push ..
 have z2:((h2.push { cls:=.type "tuple", data:=.seq #[.ref i1,.ref i2] }).push { cls:=.type "tuple", data:=.seq #[.none,.none] }).objs.size=h2.objs.size + 2:=by rw [Heap.size_push,z1]
 rw [← z2,← z1] at hQ
 wp_walk using p1 _ _,p2 _ _
 exact hQ
noncomputable def Made5 (h h':Heap)(o1 o2:Obj):Prop :=
 IsZipF h' (h.objs.size + 4) (h.objs.size + 2) (h.objs.size + 3) .none (.bool false)∧IsPair h' (h.objs.size + 2) (.ref h.objs.size) (.ref (h.objs.size + 1)) ∧
  IsPair h' (h.objs.size + 3) .none .none∧h'.get? h.objs.size=some o1∧h'.get? (h.objs.size + 1)=some o2∧h'.objs.size=h.objs.size + 5∧∀c o,h.get? c=some o→h'.get? c=some o
theorem made5 (h:Heap)(o1 o2:Obj)(f1:o1.isFreed=false)(f2:o2.isFreed=false):Made5 h (zH5 h o1 o2) o1 o2∧(zH4 h o1 o2).objs.size=h.objs.size + 4:=by
 have z1:(h.push o1).objs.size=h.objs.size + 1:=Heap.size_push ..
 have z2:(zH2 h o1 o2).objs.size=h.objs.size + 2:=by rw [Heap.size_push,z1]
 have z3:(zH3 h o1 o2).objs.size=h.objs.size + 3:=by rw [Heap.size_push,z2]
 have z4:(zH4 h o1 o2).objs.size=h.objs.size + 4:=by rw [Heap.size_push,z3]
 have z5:(zH5 h o1 o2).objs.size=h.objs.size + 5:=by rw [Heap.size_push,z4]
 have g5:(zH5 h o1 o2).get? (zH4 h o1 o2).objs.size=some _:=Heap.get?_push_size _ rfl
 have g4:(zH5 h o1 o2).get? (zH3 h o1 o2).objs.size=some _:=Heap.get?_push_of_some _ (Heap.get?_push_size _ rfl)
 have g3:(zH5 h o1 o2).get? (zH2 h o1 o2).objs.size=some _:=Heap.get?_push_of_some _ (Heap.get?_push_of_some _ (Heap.get?_push_size _ rfl))
 have g2:(zH5 h o1 o2).get? (h.push o1).objs.size=some o2:=Heap.get?_push_of_some _ (Heap.get?_push_of_some _ (Heap.get?_push_of_some _ (Heap.get?_push_size _ f2)))
 have g1:(zH5 h o1 o2).get? h.objs.size=some o1:=Heap.get?_push_of_some _ (Heap.get?_push_of_some _ (Heap.get?_push_of_some _ (Heap.get?_push_of_some _ (Heap.get?_push_size _ f1))))
 rw [z2,z3,z4] at g5
 rw [z1,z2] at g3
 rw [z3] at g4
 rw [z1] at g2
 exact ⟨⟨g5,g3,g4,g1,g2,z5,fun c o x=>Heap.get?_push_of_some _ (Heap.get?_push_of_some _ (Heap.get?_push_of_some _ (Heap.get?_push_of_some _ (Heap.get?_push_of_some _ x))))⟩,z4⟩
theorem call_zip_tt {l1 l2:Addr}{xs ys:Array Value}{Q:Value→Shared→Prop}(hl1:s.heap.IsTuple l1 xs)(hl2:s.heap.IsTuple l2 ys)
  (h:∀h',Made5 s.heap h' (tIter l1) (tIter l2)→Q (.ref (s.heap.objs.size + 4)) { s with heap:=h' }) :
  wpAny (model prog w) A (call (.type "zip") [.ref l1,.ref l2]) Q E s:=by
 refine callType_new F.called_zip (by decide) (F.typeCall_zip_2 _ _) (F.newCall_zip_2 _ _) (fun obj=>F.args_object_init_3 obj _ _) F.entry_zip_new
  (meets_tt l1 l2 xs ys) ⟨hl1,hl2,?_⟩
 obtain ⟨m,z4⟩:=made5 s.heap (tIter l1) (tIter l2) rfl rfl
 show _∧_
 rw [z4]
 exact ⟨⟨_,m.1,rfl⟩,h _ m⟩
end
end Zp
namespace Zp
open PySem
theorem zak:typeLookup (.type "zip") "__getattr__" = pure none:=by rw [typeLookup_type,builtinLookup_eq_fast]; kernel_rfl
theorem zb0:typeLookup (.type "zip") "keys" = pure none:=by rw [typeLookup_type,builtinLookup_eq_fast]; kernel_rfl
theorem qH:entryFor table "zip.__getattribute__" = some Builtin.«object.__getattribute__» :=
 entryFor_alias (id' := "object.__getattribute__") (by kernel_rfl) (by decide +kernel) (by decide +kernel) (by kernel_rfl)
theorem meets_miss (a:Addr)(vs:Array Value)(name:Str)(u:Tok)(hmiss:typeLookup (.type "zip") name=pure none)(hname:(["__module__", "__name__", "__qualname__", "__doc__", "__annotations__"]:List Str).contains name=false)(hsz:name.length + 100≤sizeLine:=by size_fits) :
  Meets (Builtin.«object.__getattribute__» ⟨[.ref a,.str name u],[]⟩) (fun A R s=>s.heap.get? a=some { cls:=.type "zip", dict:=none,data:=.fields vs,slots:=#[] }∧raisesAttr (.ref a) name A R s) :=
 Meets.of_wp fun prog w A R s hs=>by
  obtain ⟨hp,g,d,tk,os⟩:=s
  obtain ⟨hx,hs⟩:=hs
  have hT:(⟨hp,g,d,tk,os⟩:Shared).TypeIs (.ref a) "zip" := ⟨_,hx,rfl⟩
  unfold Builtin.«object.__getattribute__»
  repeat (any_goals (first | assumption | wp_step))
  simp only [hname,Bool.false_eq_true,if_false]
  repeat (any_goals (first | assumption | wp_step))
  exact wpAny_raiseAttrError hs.1 hs.2 (attrMsg_fits (by decide +kernel) hsz)
theorem no_keys {prog:Program}{w:World}{A:Around}{E:Value→Shared→Prop}{s:Shared}{a:Addr}{vs:Array Value}{Q:Option Value→Shared→Prop}
  (hx:s.heap.get? a=some { cls:=.type "zip", dict:=none,data:=.fields vs,slots:=#[] }) (hA:A.handled=none)
  (h:∀h' tk,(∀b o,s.heap.get? b=some o→h'.get? b=some o)→Q none { s with heap:=h',toks:=tk }) :
  wpAny (model prog w) A (getAttr? (.ref a) "keys") Q E s:=by
 obtain ⟨hp,g,d,tk,os⟩:=s
 have hT:∀tk',(⟨hp,g,d,tk',os⟩:Shared).TypeIs (.ref a) "zip" := fun _=>⟨_,hx,rfl⟩
 have f1:=sub_AttributeError
 have f3:=F.slot_zip_getattribute.lookup
 have f4:=F.slot_zip_getattribute.bind (.ref a)
 have f5:=zak
 unfold getAttr? getAttrBy? getAttrBy
 repeat (any_goals (first | assumption | exact hT _ | ((with_reducible show wpAny _ _ (call (Value.builtin "zip.__getattribute__") _ _) _ _ _); refine call_meets F.slot_zip_getattribute (hT _) qH (F.args_zip_getattribute_2 _ _) (meets_miss a vs "keys" _ zb0 (by decide +kernel) (by decide +kernel)) ⟨hx,hA,fun h' tk' e hx'=>?_⟩) | wp_step))
 obtain ⟨t',u',he⟩:=hx'.there
 show wpAny _ _ (getattributeRaised _ _ _ _ _ _ _) _ _ _
 unfold getattributeRaised hookBehind onTheHeap hookOrError attributeErrorLeaves
 repeat (any_goals (first | assumption | wp_step))
 exact h _ _ hx'.keeps
structure ZSt (h:Heap)(z TI TO i1 i2 tp d:Addr)(x:Str)(t:Tok)(ys:Array Value)(i:Nat):Prop where
 zip:(∃f1,IsZipF h z TI TO .none (.bool f1))∨∃(T:Addr) (oT:Obj) (fb:Bool),IsZipF h z TI TO (rawInt T) (.bool fb)∧h.get? T=some oT∧T≠z∧T≠TO∧T≠i1∧T≠i2∧T≠d
 ti:IsPair h TI (.ref i1) (.ref i2)
 to:∃a b,IsPair h TO a b
 s1:h.IsStrIter i1 "str_ascii_iterator" x t i
 s2:h.IsTupleIter i2 tp i∧h.IsTuple tp ys
structure ZAp (z TI TO i1 i2 tp d:Addr):Prop where
 D:Apart z TI TO i1 i2
 tz:tp≠z
 tO:tp≠TO
 t1:tp≠i1
 t2:tp≠i2
 dz:d≠z
 dI:d≠TI
 dO:d≠TO
 d1:d≠i1
 d2:d≠i2
 dt:d≠tp
theorem ZSt.dict {h h':Heap}{z TI TO i1 i2 tp d:Addr}{x:Str}{t:Tok}{ys:Array Value}{i:Nat}(Z:ZSt h z TI TO i1 i2 tp d x t ys i)(Y:ZAp z TI TO i1 i2 tp d)
  (k:∀c o,c≠d→h.get? c=some o→h'.get? c=some o):ZSt h' z TI TO i1 i2 tp d x t ys i:=by
 obtain ⟨zp,ti,⟨a,b,to⟩,⟨o1,e1,r1⟩,⟨o2,e2,r2⟩,o3,e3,r3⟩:=Z
 refine ⟨?_,k _ _ (Ne.symm Y.dI) ti,⟨a,b,k _ _ (Ne.symm Y.dO) to⟩,⟨o1,k _ _ (Ne.symm Y.d1) e1,r1⟩,⟨o2,k _ _ (Ne.symm Y.d2) e2,r2⟩,o3,k _ _ (Ne.symm Y.dt) e3,r3⟩
 rcases zp with ⟨f1,hz⟩ | ⟨T,oT,fb,hz,hT,n1,n2,n3,n4,n5⟩
 ·exact .inl ⟨f1,k _ _ (Ne.symm Y.dz) hz⟩
 ·exact .inr ⟨T,oT,fb,k _ _ (Ne.symm Y.dz) hz,k _ _ n5 hT,n1,n2,n3,n4,n5⟩
section
variable {prog:Program}{w:World}{A:Around}{E:Value→Shared→Prop}{s:Shared}
theorem ZSt.next {z TI TO i1 i2 tp d:Addr}{x:Str}{t:Tok}{ys:Array Value}{i c:Nat}{y:Value}{Q:Option Value→Shared→Prop}(Z:ZSt s.heap z TI TO i1 i2 tp d x t ys i)(Y:ZAp z TI TO i1 i2 tp d)
  (hd:d < s.heap.objs.size) (hc:x.cps[i]? = some c) (hy:ys[i]? = some y)
  (hQ:∀(T:Addr) u h' tk,ZSt h' z TI TO i1 i2 tp d x t ys (i + 1)→IsPair h' T (.str ⟨#[c]⟩ u) y→(∀c o,c≠z→c≠TO→c≠i1→c≠i2→s.heap.get? c=some o→h'.get? c=some o)→h'.objs.size=s.heap.objs.size + 1→Q (some (.ref T)) { s with heap:=h',toks:=tk }) :
  wpAny (model prog w) A (pyNext (.ref z)) Q E s:=by
 obtain ⟨zp,ti,⟨a,b,to⟩,s1,s2⟩:=Z
 have D:=Y.D
 obtain ⟨o1,e1,r1⟩:=id s1
 obtain ⟨⟨o2,e2,r2⟩,o3,e3,r3⟩:=id s2
 have lt:∀{c:Addr}{o:Obj},s.heap.get? c=some o→s.heap.objs.size≠c:=fun e=>Nat.ne_of_gt (Heap.lt_size e)
 have Y1:=zc5 (prog:=prog) (w:=w) (A:=A.in1) (it:=i1) (t:=t) hc
 have Y2:=yields_tuple (prog:=prog) (w:=w) (A:=A.in1) Y.t2 hy
 rcases zp with ⟨f1,hz⟩ | ⟨T,oT,fb,hz,hT,n1,n2,n3,n4,n5⟩
 ·have hTy:s.TypeIs (.ref z) "zip" := ⟨_,hz,rfl⟩
  unfold pyNext
  refine wpAny_bind (wpAny_attempt (wpAny_callSpecial?_slot (name:=Str.ofString "__next__") hTy F.slot_zip_next
   (wpAny_call_entry F.slot_zip_next hTy F.entry_zip_next (next_item D hz ti to Y1 Y2 ?_ ?_ ?_ ?_ ?_) (F.args_zip_next_1 _))))
  ·exact fun h' k=>⟨o1,k _ _ D.i1z e1,r1⟩
  ·exact fun h' k=>⟨⟨o2,k _ _ D.i2z D.TOi2.symm D.i12.symm e2,r2⟩,o3,k _ _ Y.tz Y.tO Y.t1 e3,r3⟩
  ·exact fun h h' ⟨p1,q1,w1⟩ k=>⟨p1,k _ _ D.i1z D.TOi1.symm D.i12 q1,w1⟩
  ·exact fun h h' ⟨⟨p1,q1,w1⟩,p2,q2,w2⟩ k=>⟨⟨p1,k _ _ D.i2z D.TOi2.symm q1,w1⟩,p2,k _ _ Y.tz Y.tO q2,w2⟩
  ·rintro v1 v2 h' tk ⟨u,rfl⟩ rfl z' to' q1 q2 hp hsz k
   refine wpAny_pure (hQ _ u h' tk ⟨.inr ⟨_,_,false,z',hp,lt hz,lt to,lt e1,lt e2,Nat.ne_of_gt hd⟩,k _ _ D.TIz D.TITO D.TIi1 D.TIi2 ti,⟨_,_,to'⟩,q1,q2⟩ hp k hsz)
 ·have hTy:s.TypeIs (.ref z) "zip" := ⟨_,hz,rfl⟩
  unfold pyNext
  refine wpAny_bind (wpAny_attempt (wpAny_callSpecial?_slot (name:=Str.ofString "__next__") hTy F.slot_zip_next
   (wpAny_call_entry F.slot_zip_next hTy F.entry_zip_next (zdl D hz ti hT Y1 Y2 ?_ ?_ ?_ ?_ ?_) (F.args_zip_next_1 _))))
  ·exact fun h' k=>⟨o1,k _ _ D.i1z e1,r1⟩
  ·exact fun h' k=>⟨⟨o2,k _ _ D.i2z D.i12.symm e2,r2⟩,o3,k _ _ Y.tz Y.t1 e3,r3⟩
  ·exact fun h h' ⟨p1,q1,w1⟩ k=>⟨p1,k _ _ D.i12 q1,w1⟩
  ·exact fun h h' ⟨⟨p1,q1,w1⟩,p2,q2,w2⟩ k=>⟨⟨p1,k _ _ q1,w1⟩,p2,k _ _ q2,w2⟩
  ·rintro v1 v2 h' tk ⟨u,rfl⟩ rfl z' q1 q2 hp hsz k
   exact wpAny_pure (hQ _ u h' tk ⟨.inr ⟨T,oT,true,z',k _ _ n1 n3 n4 hT,n1,n2,n3,n4,n5⟩,k _ _ D.TIz D.TIi1 D.TIi2 ti,⟨_,_,k _ _ D.TOz D.TOi1 D.TOi2 to⟩,q1,q2⟩ hp (fun c o c1 _ c3 c4 e=>k c o c1 c3 c4 e) hsz)
end
end Zp
namespace Zp
open PySem
theorem zbz:entryFor table "dict.update.loop" = some Builtin.«dict.update.loop»:=entryFor_of_fast (by kernel_rfl)
theorem qZ:plainId "dict.update.loop" = true:=by decide +kernel
end Zp
namespace Zp
open PySem
end Zp
namespace Zp
open PySem
section
variable {prog:Program}{w:World}{A:Around}{E:Value→Shared→Prop}{s:Shared}
theorem zan {it t:Addr}{i:Nat}{items}{x:Value}{Q:Value→Shared→Prop}(hit:s.heap.IsListIter it t i)
  (ht:s.heap.IsList t items) (hx:items[i]? = some x)
  (hQ:∀h',h'.IsListIter it t (i + 1)→Heap.SameBut it s.heap h'→Q x { s with heap:=h' }) :
  wpAny (model prog w) A (Builtin.SmallTypes.nextOf (.ref it)) Q E s:=by
 obtain ⟨o,ho,hc,hd⟩:=id hit
 obtain ⟨ol,hol,_,nl,hdl⟩:=ht
 unfold Builtin.SmallTypes.nextOf
 refine wpAny_bind (wpAny_callSpecial?_slot (name:=Str.ofString "__next__") hit.typeIs slot_listiter_next
  (wpAny_call_entry slot_listiter_next hit.typeIs entry_listiter_next ?_ (args_listiter_next _)))
 show wpAny _ _ (field (.ref it) 0 >>= _) _ _ s
 refine wpAny_bind (wpAny_field ho hd (x:=.ref t) rfl ?_)
 show wpAny _ _ (if (Value.ref t == Value.none)=true then _ else _) _ _ s
 rw [if_neg (show ¬((Value.ref t == Value.none)=true) from Bool.false_ne_true)]
 show wpAny _ _ (field (.ref it) 1 >>= _) _ _ s
 refine wpAny_bind (wpAny_field ho hd (x:=.int i 0) rfl ?_)
 show wpAny _ _ (seqItems? (.ref t) >>= _) _ _ s
 refine wpAny_bind (wpAny_seqItems hol hdl ?_)
 simp only [Int.toNat_natCast,hx]
 refine wpAny_bind (wpAny_setField ho hd (by simp) (wpAny_pure ⟨x,rfl,wpAny_pure (hQ _ ?_ (Heap.SameBut.update ..))⟩))
 exact ⟨_,Heap.get?_update_self _ ho (Obj.isFreed_of_fields (Obj.data_mapFields hd _)),(Obj.cls_mapFields ..).trans hc,by
  rw [Obj.data_mapFields hd]; simp [rawInt]⟩
theorem za5 {it t:Addr}{i:Nat}{items}{Q:Value→Shared→Prop}(hh:A.handled=none)
  (hit:s.heap.IsListIter it t i) (ht:s.heap.IsList t items) (hx:items[i]? = none)
  (hE:∀h' e,Heap.ExtBut it s.heap h'→(∃o,h'.get? e=some o∧o.cls=.type "StopIteration")→E (.ref e) { s with heap:=h' }) :
  wpAny (model prog w) A (Builtin.SmallTypes.nextOf (.ref it)) Q E s:=by
 obtain ⟨o,ho,hc,hd⟩:=id hit
 obtain ⟨ol,hol,_,nl,hdl⟩:=ht
 unfold Builtin.SmallTypes.nextOf
 refine wpAny_bind (wpAny_callSpecial?_slot (name:=Str.ofString "__next__") hit.typeIs slot_listiter_next
  (wpAny_call_entry slot_listiter_next hit.typeIs entry_listiter_next ?_ (args_listiter_next _)))
 show wpAny _ _ (field (.ref it) 0 >>= _) _ _ s
 refine wpAny_bind (wpAny_field ho hd (x:=.ref t) rfl ?_)
 show wpAny _ _ (if (Value.ref t == Value.none)=true then _ else _) _ _ s
 rw [if_neg (show ¬((Value.ref t == Value.none)=true) from Bool.false_ne_true)]
 show wpAny _ _ (field (.ref it) 1 >>= _) _ _ s
 refine wpAny_bind (wpAny_field ho hd (x:=.int i 0) rfl ?_)
 show wpAny _ _ (seqItems? (.ref t) >>= _) _ _ s
 refine wpAny_bind (wpAny_seqItems hol hdl ?_)
 simp only [Int.toNat_natCast,hx]
 refine wpAny_bind (wpAny_rule (wpAny_bind (wpAny_setField ho hd (by simp) ?_)))
 show wpAny _ _ (newExc (.type "StopIteration") [] >>= _) _ _ _
 refine wpAny_bind ?_
 simp only [newExc,newTuple]
 refine wpAny_bind (wpAny_newObj_type ?_ (by size_fits))
 refine wpAny_bind (m:=firstArgMember _ _) (wpAny_of_eq (a:=Value.none) (by first | rfl | (simp only [firstArgMember]; rfl)) ?_)
 refine wpAny_newObj_type ?_ (by size_fits)
 simp only [raiseNew]
 refine wpAny_bind (wpAny_handled ?_)
 first | rw [show A.in1.handled=none from hh] | rw [hh]
 refine wpAny_bind (wpAny_pure (wpAny_throw ?_))
 exact hE _ _ (((Heap.SameBut.update ..).extBut.push _).push _) ⟨_,Heap.get?_push_size _ rfl,rfl⟩
end
structure Src (prog:Program)(w:World)(it tp:Addr)(n:Nat)(g:Nat→Value)(S:Nat→Heap→Prop):Prop where
 yl:∀(A:Around) (i:Nat),i < n→Yields prog w A it (S i) (fun v=>v=g i) (S (i + 1))
 en:∀(A:Around) (i:Nat),A.handled=none→n≤i→Ends prog w A it (S i)
 mv:∀(i:Nat) (h h':Heap),S i h→(∀o,h.get? it=some o→h'.get? it=some o)→(∀o,h.get? tp=some o→h'.get? tp=some o)→S i h'
 li:∀(i:Nat) (h:Heap),S i h→(∃o,h.get? it=some o)∧∃o,h.get? tp=some o
theorem src_tup {prog:Program}{w:World}{it tp:Addr}{xs:Array Value}(hne:tp≠it):Src prog w it tp xs.size (fun i=>xs.getD i .none) (fun i h=>h.IsTupleIter it tp i∧h.IsTuple tp xs) :=
 ⟨fun A i hi=>yields_tuple hne (by rw [Array.getElem?_eq_getElem hi]; simp [Array.getD,hi]),fun A i hh hi=>ends_tuple hh (Array.getElem?_eq_none hi),
  fun i h h' ⟨⟨o,e,r⟩,o2,e2,r2⟩ k1 k2=>⟨⟨o,k1 _ e,r⟩,o2,k2 _ e2,r2⟩,fun i h ⟨⟨o,e,r⟩,o2,e2,r2⟩=>⟨⟨o,e⟩,o2,e2⟩⟩
theorem src_lst {prog:Program}{w:World}{it tp:Addr}{xs:Array Value}(hne:tp≠it):Src prog w it tp xs.size (fun i=>xs.getD i .none) (fun i h=>h.IsListIter it tp i∧h.IsList tp xs) :=
 ⟨fun A i hi s Q E g hQ=>zan g.1 g.2 (Array.getElem?_eq_getElem hi) fun h' st sb=>hQ _ h' s.toks (by simp [Array.getD,hi]) ⟨st,g.2.extBut sb.extBut hne⟩ sb,
  fun A i hh hi s Q E g hE=>za5 hh g.1 g.2 (Array.getElem?_eq_none hi) hE,
  fun i h h' ⟨⟨o,e,r⟩,o2,e2,r2⟩ k1 k2=>⟨⟨o,k1 _ e,r⟩,o2,k2 _ e2,r2⟩,fun i h ⟨⟨o,e,r⟩,o2,e2,r2⟩=>⟨⟨o,e⟩,o2,e2⟩⟩
structure GAp (z TI TO i1 i2 p1 p2 d:Addr):Prop where
 D:Apart z TI TO i1 i2
 az:p1≠z
 aO:p1≠TO
 a2:p1≠i2
 bz:p2≠z
 bO:p2≠TO
 b1:p2≠i1
 dz:d≠z
 dI:d≠TI
 dO:d≠TO
 d1:d≠i1
 d2:d≠i2
 da:d≠p1
 db:d≠p2
structure GSt (h:Heap)(z TI TO i1 i2 d:Addr)(S1 S2:Nat→Heap→Prop)(i:Nat):Prop where
 zip:(∃f1,IsZipF h z TI TO .none (.bool f1))∨∃(T:Addr) (oT:Obj) (fb:Bool),IsZipF h z TI TO (rawInt T) (.bool fb)∧h.get? T=some oT∧T≠z∧T≠TO∧T≠i1∧T≠i2∧T≠d
 ti:IsPair h TI (.ref i1) (.ref i2)
 to:∃a b,IsPair h TO a b
 s1:S1 i h
 s2:S2 i h
section
variable {prog:Program}{w:World}{A:Around}{E:Value→Shared→Prop}{s:Shared}{z TI TO i1 i2 p1 p2 d:Addr}{n1 n2:Nat}{g1 g2:Nat→Value}{S1 S2:Nat→Heap→Prop}
theorem GSt.dict {h h':Heap}{i:Nat}(Z:GSt h z TI TO i1 i2 d S1 S2 i)(Y:GAp z TI TO i1 i2 p1 p2 d)(C1:Src prog w i1 p1 n1 g1 S1)(C2:Src prog w i2 p2 n2 g2 S2)
  (k:∀c o,c≠d→h.get? c=some o→h'.get? c=some o):GSt h' z TI TO i1 i2 d S1 S2 i:=by
 obtain ⟨zp,ti,⟨a,b,to⟩,s1,s2⟩:=Z
 refine ⟨?_,k _ _ (Ne.symm Y.dI) ti,⟨a,b,k _ _ (Ne.symm Y.dO) to⟩,C1.mv _ _ _ s1 (fun o=>k _ o (Ne.symm Y.d1)) (fun o=>k _ o (Ne.symm Y.da)),C2.mv _ _ _ s2 (fun o=>k _ o (Ne.symm Y.d2)) (fun o=>k _ o (Ne.symm Y.db))⟩
 rcases zp with ⟨f1,hz⟩ | ⟨T,oT,fb,hz,hT,n1,n2,n3,n4,n5⟩
 ·exact .inl ⟨f1,k _ _ (Ne.symm Y.dz) hz⟩
 ·exact .inr ⟨T,oT,fb,k _ _ (Ne.symm Y.dz) hz,k _ _ n5 hT,n1,n2,n3,n4,n5⟩
theorem GSt.next {i:Nat}{Q:Option Value→Shared→Prop}(Z:GSt s.heap z TI TO i1 i2 d S1 S2 i)(Y:GAp z TI TO i1 i2 p1 p2 d)(C1:Src prog w i1 p1 n1 g1 S1)(C2:Src prog w i2 p2 n2 g2 S2)
  (hd:d < s.heap.objs.size) (hc:i < n1) (hy:i < n2)
  (hQ:∀(T:Addr) h' tk,GSt h' z TI TO i1 i2 d S1 S2 (i + 1)→IsPair h' T (g1 i) (g2 i)→(∀c o,c≠z→c≠TO→c≠i1→c≠i2→s.heap.get? c=some o→h'.get? c=some o)→h'.objs.size=s.heap.objs.size + 1→Q (some (.ref T)) { s with heap:=h',toks:=tk }) :
  wpAny (model prog w) A (pyNext (.ref z)) Q E s:=by
 obtain ⟨zp,ti,⟨a,b,to⟩,s1,s2⟩:=Z
 have D:=Y.D
 obtain ⟨⟨o1,e1⟩,_⟩:=C1.li _ _ s1
 obtain ⟨⟨o2,e2⟩,_⟩:=C2.li _ _ s2
 have lt:∀{c:Addr}{o:Obj},s.heap.get? c=some o→s.heap.objs.size≠c:=fun e=>Nat.ne_of_gt (Heap.lt_size e)
 have Y1:=C1.yl A.in1 i hc
 have Y2:=C2.yl A.in1 i hy
 rcases zp with ⟨f1,hz⟩ | ⟨T,oT,fb,hz,hT,n1,n2,n3,n4,n5⟩
 ·have hTy:s.TypeIs (.ref z) "zip" := ⟨_,hz,rfl⟩
  unfold pyNext
  refine wpAny_bind (wpAny_attempt (wpAny_callSpecial?_slot (name:=Str.ofString "__next__") hTy F.slot_zip_next
   (wpAny_call_entry F.slot_zip_next hTy F.entry_zip_next (next_item D hz ti to Y1 Y2 ?_ ?_ ?_ ?_ ?_) (F.args_zip_next_1 _))))
  ·exact fun h' k=>C1.mv _ _ _ s1 (fun o=>k _ o D.i1z) (fun o=>k _ o Y.az)
  ·exact fun h' k=>C2.mv _ _ _ s2 (fun o=>k _ o D.i2z D.TOi2.symm D.i12.symm) (fun o=>k _ o Y.bz Y.bO Y.b1)
  ·exact fun h h' q k=>C1.mv _ _ _ q (fun o=>k _ o D.i1z D.TOi1.symm D.i12) (fun o=>k _ o Y.az Y.aO Y.a2)
  ·exact fun h h' q k=>C2.mv _ _ _ q (fun o=>k _ o D.i2z D.TOi2.symm) (fun o=>k _ o Y.bz Y.bO)
  ·rintro v1 v2 h' tk rfl rfl z' to' q1 q2 hp hsz k
   refine wpAny_pure (hQ _ h' tk ⟨.inr ⟨_,_,false,z',hp,lt hz,lt to,lt e1,lt e2,Nat.ne_of_gt hd⟩,k _ _ D.TIz D.TITO D.TIi1 D.TIi2 ti,⟨_,_,to'⟩,q1,q2⟩ hp k hsz)
 ·have hTy:s.TypeIs (.ref z) "zip" := ⟨_,hz,rfl⟩
  unfold pyNext
  refine wpAny_bind (wpAny_attempt (wpAny_callSpecial?_slot (name:=Str.ofString "__next__") hTy F.slot_zip_next
   (wpAny_call_entry F.slot_zip_next hTy F.entry_zip_next (zdl D hz ti hT Y1 Y2 ?_ ?_ ?_ ?_ ?_) (F.args_zip_next_1 _))))
  ·exact fun h' k=>C1.mv _ _ _ s1 (fun o=>k _ o D.i1z) (fun o=>k _ o Y.az)
  ·exact fun h' k=>C2.mv _ _ _ s2 (fun o=>k _ o D.i2z D.i12.symm) (fun o=>k _ o Y.bz Y.b1)
  ·exact fun h h' q k=>C1.mv _ _ _ q (fun o=>k _ o D.i12) (fun o=>k _ o Y.a2)
  ·exact fun h h' q k=>C2.mv _ _ _ q (fun o=>k _ o) (fun o=>k _ o)
  ·rintro v1 v2 h' tk rfl rfl z' q1 q2 hp hsz k
   exact wpAny_pure (hQ _ h' tk ⟨.inr ⟨T,oT,true,z',k _ _ n1 n3 n4 hT,n1,n2,n3,n4,n5⟩,k _ _ D.TIz D.TIi1 D.TIi2 ti,⟨_,_,k _ _ D.TOz D.TOi1 D.TOi2 to⟩,q1,q2⟩ hp (fun c o c1 _ c3 c4 e=>k c o c1 c3 c4 e) hsz)
theorem GSt.done {i:Nat}{Q:Option Value→Shared→Prop}(hh:A.handled=none)(Z:GSt s.heap z TI TO i1 i2 d S1 S2 i)(Y:GAp z TI TO i1 i2 p1 p2 d)(C1:Src prog w i1 p1 n1 g1 S1)(C2:Src prog w i2 p2 n2 g2 S2)
  (hend:min n1 n2≤i)
  (hQ:∀h' tk,(∀c o,c≠z→c≠TO→c≠i1→c≠i2→s.heap.get? c=some o→h'.get? c=some o)→Q none { s with heap:=h',toks:=tk }) :
  wpAny (model prog w) A (pyNext (.ref z)) Q E s:=by
 obtain ⟨zp,ti,⟨a,b,to⟩,s1,s2⟩:=Z
 have D:=Y.D
 have hend':Ends prog w A.in1 i1 (S1 i)∨(Yields prog w A.in1 i1 (S1 i) (fun _=>True) (fun _=>True)∧Ends prog w A.in1 i2 (S2 i)):=by
  rcases Nat.lt_or_ge i n1 with h | h
  ·exact .inr ⟨fun s Q E g hQ=>C1.yl A.in1 i h s Q E g fun v h' tk _ _ sb=>hQ v h' tk trivial trivial sb,C2.en A.in1 i hh (by omega)⟩
  ·exact .inl (C1.en A.in1 i hh h)
 rcases zp with ⟨f1,hz⟩ | ⟨T,oT,fb,hz,hT,n1,n2,n3,n4,n5⟩
 ·have hTy:s.TypeIs (.ref z) "zip" := ⟨_,hz,rfl⟩
  unfold pyNext
  refine wpAny_bind (wpAny_attempt (wpAny_callSpecial?_slot (name:=Str.ofString "__next__") hTy F.slot_zip_next
   (wpAny_call_entry F.slot_zip_next hTy F.entry_zip_next (next_end D hz ti to hend' ?_ ?_ ?_) (F.args_zip_next_1 _))))
  ·exact fun h' k=>C1.mv _ _ _ s1 (fun o=>k _ o D.i1z) (fun o=>k _ o Y.az)
  ·exact fun h' k=>C2.mv _ _ _ s2 (fun o=>k _ o D.i2z D.TOi2.symm D.i12.symm) (fun o=>k _ o Y.bz Y.bO Y.b1)
  ·intro h' tk e k he
   obtain ⟨o,ho,hc⟩:=he
   refine wpAny_bind (wpAny_isInstance (T := "StopIteration") (b:=true) ⟨o,ho,hc⟩ isSubtype_stop ?_)
   exact wpAny_pure (hQ _ _ k)
 ·have hTy:s.TypeIs (.ref z) "zip" := ⟨_,hz,rfl⟩
  unfold pyNext
  refine wpAny_bind (wpAny_attempt (wpAny_callSpecial?_slot (name:=Str.ofString "__next__") hTy F.slot_zip_next
   (wpAny_call_entry F.slot_zip_next hTy F.entry_zip_next (end_busy D hz ti hT hend' ?_ ?_ ?_) (F.args_zip_next_1 _))))
  ·exact fun h' k=>C1.mv _ _ _ s1 (fun o=>k _ o D.i1z) (fun o=>k _ o Y.az)
  ·exact fun h' k=>C2.mv _ _ _ s2 (fun o=>k _ o D.i2z D.i12.symm) (fun o=>k _ o Y.bz Y.b1)
  ·intro h' tk e k he
   obtain ⟨o,ho,hc⟩:=he
   refine wpAny_bind (wpAny_isInstance (T := "StopIteration") (b:=true) ⟨o,ho,hc⟩ isSubtype_stop ?_)
   exact wpAny_pure (hQ _ _ fun c o c1 _ c3 c4 e=>k c o c1 c3 c4 e)
end
section
variable {prog:Program}{w:World}{K:Type} [DecidableEq K]{knd:KeyKind prog w K}{A:Around}{R:Result→Shared→Prop}{z TI TO i1 i2 p1 p2 d:Addr}{n1 n2:Nat}{g1 g2:Nat→Value}{S1 S2:Nat→Heap→Prop}
theorem upd_loopG (hh:A.handled=none)(Y:GAp z TI TO i1 i2 p1 p2 d)(C1:Src prog w i1 p1 n1 g1 S1)(C2:Src prog w i2 p2 n2 g2 S2)(f:Nat→K)(hk:∀i,i < min n1 n2→knd.is (f i) (g1 i)=true)(hsm:n1≤1000) :
  ∀ (n i:Nat) (s:Shared) (kvs:List (K×Value)) (q:Int) (tq:Tok),min n1 n2 - i=n→i≤min n1 n2→GSt s.heap z TI TO i1 i2 d S1 S2 i→s.heap.DictOf knd d kvs→kvs.length≤i →
   (∀h' tk,h'.DictOf knd d (((List.range (min n1 n2)).drop i).foldl (fun m j=>stored m (f j) (g2 j)) kvs)→(∀c o,c≠z→c≠TO→c≠i1→c≠i2→c≠d→s.heap.get? c=some o→h'.get? c=some o) →
    R (.ok (.ret .none)) { s with heap:=h',toks:=tk }) →
   codeAny (model prog w) A (.builtin "dict.update.loop" ⟨[.ref d,.ref z,.int q tq,.none],[]⟩) R s:=by
 intro n
 induction n with
 | zero =>
  intro i s kvs q tq hn hi Z hm hl hR
  refine codeAny_builtin zbz ?_
  rw [Around.under_plainId qZ _]
  show wpAny _ A.in1 (pyNext (.ref z) >>= _) _ _ s
  refine wpAny_bind (Z.done hh Y C1 C2 (by omega) fun h' tk k=>?_)
  refine wpAny_bind (m:=Builtin.Dict.addKeywords d []) (wpAny_pure (wpAny_pure ?_))
  have e:(List.range (min n1 n2)).drop i=[]:=List.drop_of_length_le (by rw [List.length_range]; omega)
  rw [e] at hR
  refine hR h' tk ?_ fun c o c1 c2 c3 c4 _ e=>k c o c1 c2 c3 c4 e
  obtain ⟨o,ho,r⟩:=Heap.dictOf_iff.mp hm
  exact Heap.dictOf_iff.mpr ⟨o,k _ _ Y.dz Y.dO Y.d1 Y.d2 ho,r⟩
 | succ n ih =>
  intro i s kvs q tq hn hi Z hm hl hR
  refine codeAny_builtin zbz ?_
  rw [Around.under_plainId qZ _]
  show wpAny _ A.in1 (pyNext (.ref z) >>= _) _ _ s
  have hd:d < s.heap.objs.size:=by obtain ⟨o,ho,_⟩:=Heap.dictOf_iff.mp hm; exact Heap.lt_size ho
  refine wpAny_bind (Z.next Y C1 C2 hd (by omega) (by omega) fun T h' tk Z' hp k hsz=>?_)
  dsimp only
  have hT:(⟨h',s.gens,s.drawn,tk,s.os⟩:Shared).TypeIs (.ref T) "tuple" := ⟨_,hp,rfl⟩
  refine wpAny_bind (wpAny_holding (wpAny_bind (wpAny_tryCatch ?_)))
  unfold Builtin.Dict.pairItems
  refine wpAny_bind (wpAny_typeOf hT ?_)
  rw [if_pos (by decide)]
  refine wpAny_bind (wpAny_seqItems hp rfl (wpAny_pure ?_))
  show wpAny _ A.in1 (holding [g1 i,g2 i] (dictSet d (g1 i) (g2 i))) _ _ _
  have hm':h'.DictOf knd d kvs:=by
   obtain ⟨o,ho,r⟩:=Heap.dictOf_iff.mp hm
   exact Heap.dictOf_iff.mpr ⟨o,k _ _ Y.dz Y.dO Y.d1 Y.d2 ho,r⟩
  refine wpAny_holding (wpAny_dictSet_pairs (hk i (by omega)) hm' (fun h'' hm'' sb=>?_) (by rw [sizeLine_eq]; omega))
  refine wpAny_pure ⟨plainId_quiet qZ _,?_⟩
  have hl2:(stored kvs (f i) (g2 i)).length≤i + 1:=by
   have:=stored_length_le kvs (f i) (g2 i)
   omega
  refine ih (i + 1) _ _ _ _ (by omega) (by omega) (Z'.dict Y C1 C2 fun c o hc e=>sb.extBut _ _ hc e) hm'' hl2 fun h3 tk3 hm3 k3=>?_
  have e:(List.range (min n1 n2)).drop i=i::(List.range (min n1 n2)).drop (i + 1):=by
   rw [List.drop_eq_getElem_cons (by rw [List.length_range]; omega)]
   simp
  rw [e,List.foldl_cons] at hR
  exact hR h3 tk3 hm3 fun c o c1 c2 c3 c4 c5 e=>k3 c o c1 c2 c3 c4 c5 (sb.extBut _ _ c5 (k c o c1 c2 c3 c4 e))
end
section
variable {prog:Program}{w:World}{K:Type} [DecidableEq K]{knd:KeyKind prog w K}{A:Around}{E:Value→Shared→Prop}{s:Shared}{z TI TO i1 i2 p1 p2:Addr}{n1 n2:Nat}{g1 g2:Nat→Value}{S1 S2:Nat→Heap→Prop}
theorem call_dict_zipG {Q:Value→Shared→Prop}(hh:A.handled=none)(D:Apart z TI TO i1 i2)(az:p1≠z)(aO:p1≠TO)(a2:p1≠i2)(bz:p2≠z)(bO:p2≠TO)(b1:p2≠i1)
  (C1:Src prog w i1 p1 n1 g1 S1) (C2:Src prog w i2 p2 n2 g2 S2) (f:Nat→K) (hk:∀i,i < min n1 n2→knd.is (f i) (g1 i)=true) (hsm:n1≤1000)
  (hz:IsZipF s.heap z TI TO .none (.bool false)) (hTI:IsPair s.heap TI (.ref i1) (.ref i2)) (hTO:IsPair s.heap TO .none .none) (s1:S1 0 s.heap) (s2:S2 0 s.heap)
  (h:∀h' tk,h'.DictOf knd s.heap.objs.size ((List.range (min n1 n2)).foldl (fun m j=>stored m (f j) (g2 j)) [])→(∀c o,c≠z→c≠TO→c≠i1→c≠i2→s.heap.get? c=some o→h'.get? c=some o) →
   Q (.ref s.heap.objs.size) { s with heap:=h',toks:=tk }) :
  wpAny (model prog w) A (call (.type "dict") [.ref z]) Q E s:=by
 refine callType_codes (Q₁:=fun obj s₁=>obj=.ref s.heap.objs.size∧s₁={ s with heap:=s.heap.push { cls:=.type "dict", data:=.dict #[] } }) F.kt_called_dict (F.kt_typeCall_dict_1 _) F.entry_dict_init (kt_code_dict_new _ ⟨rfl,rfl⟩) ?_
 rintro obj s₁ ⟨rfl,rfl⟩
 have hnew:(s.heap.push { cls:=.type "dict", data:=.dict #[] }).DictOf knd s.heap.objs.size []:=Heap.DictOf.new s.heap
 have up:∀c o,s.heap.get? c=some o→(s.heap.push { cls:=.type "dict", data:=.dict #[] }).get? c=some o:=fun c o e=>Heap.get?_push_of_some _ e
 have hz':=up _ _ hz
 have hzT:({ s with heap:=s.heap.push { cls:=.type "dict", data:=.dict #[] } }:Shared).TypeIs (.ref z) "zip" := ⟨_,hz',rfl⟩
 have lt:∀{c:Addr}{o:Obj},s.heap.get? c=some o→s.heap.objs.size≠c:=fun e=>Nat.ne_of_gt (Heap.lt_size e)
 obtain ⟨⟨o1,e1⟩,q1,f1⟩:=C1.li _ _ s1
 obtain ⟨⟨o2,e2⟩,q2,f2⟩:=C2.li _ _ s2
 have Y:GAp z TI TO i1 i2 p1 p2 s.heap.objs.size:=⟨D,az,aO,a2,bz,bO,b1,lt hz,lt hTI,lt hTO,lt e1,lt e2,lt f1,lt f2⟩
 refine ⟨hnew.typeIs,F.args_dict_init_2 _ _,?_⟩
 unfold Builtin.«dict.__init__»
 refine wpAny_bind ?_
 unfold Builtin.Dict.selfAndRest
 refine wpAny_bind (wpAny_notOrdered_dict hnew.typeIs ?_)
 show wpAny _ _ (pure (s.heap.objs.size,[Value.ref z])) _ _ _
 refine wpAny_pure ?_
 show wpAny _ _ (Builtin.Dict.updateFrom "dict.__init__" s.heap.objs.size (.ref z) [] .none) _ _ _
 unfold Builtin.Dict.updateFrom
 refine wpAny_bind (wpAny_typeOf hzT ?_)
 rw [if_pos (by decide)]
 refine wpAny_bind (no_keys hz' hh fun h4 tk4 k4=>?_)
 simp only [Option.isNone_none,if_true]
 refine wpAny_bind (wpAny_rule ?_)
 have kk:∀c o,s.heap.get? c=some o→h4.get? c=some o:=fun c o e=>k4 _ _ (up _ _ e)
 have Z:GSt h4 z TI TO i1 i2 s.heap.objs.size S1 S2 0:=⟨.inl ⟨false,k4 _ _ hz'⟩,kk _ _ hTI,⟨_,_,kk _ _ hTO⟩,C1.mv _ _ _ s1 (fun o=>kk _ o) (fun o=>kk _ o),C2.mv _ _ _ s2 (fun o=>kk _ o) (fun o=>kk _ o)⟩
 have hm:h4.DictOf knd s.heap.objs.size []:=by
  obtain ⟨o,ho,r⟩:=Heap.dictOf_iff.mp hnew
  exact Heap.dictOf_iff.mpr ⟨o,k4 _ _ ho,r⟩
 refine wpAny_bind (wpAny_pyIter_zip (k4 _ _ hz') ?_)
 refine wpAny_pure ⟨plainId_quiet qZ _,?_⟩
 refine upd_loopG (knd:=knd) (A:=A.in1) hh Y C1 C2 f hk hsm _ 0 _ [] _ _ rfl (Nat.zero_le _) Z hm (Nat.le_refl _) fun h5 tk5 hm5 k5=>?_
 exact ⟨rfl,h h5 tk5 (by simpa using hm5) fun c o c1 c2 c3 c4 e=>k5 c o c1 c2 c3 c4 (fun q=>lt e q.symm) (kk _ _ e)⟩
end
section
variable {prog:Program}{w:World}{A:Around}{E:Value→Shared→Prop}{s:Shared}
noncomputable abbrev lIter (t:Addr):Obj:={ cls:=.type "list_iterator", data:=.fields #[.ref t,.int 0 0] }
noncomputable def Itb (l:Addr)(o:Obj)(G:Heap→Prop):Prop:=∀(prog:Program) (w:World) (A:Around) (s:Shared) (Q:Value→Shared→Prop) (E:Value→Shared→Prop),G s.heap→Q (.ref s.heap.objs.size) { s with heap:=s.heap.push o }→wpAny (model prog w) A (pyIter (.ref l)) Q E s
theorem itb_tup (l:Addr)(xs:Array Value):Itb l (tIter l) (fun h=>h.IsTuple l xs):=fun _ _ _ _ _ _ g q=>wpAny_pyIter_tuple g q
theorem itb_lst (l:Addr)(xs:Array Value):Itb l (lIter l) (fun h=>h.IsList l xs):=fun _ _ _ _ _ _ g q=>wpAny_pyIter_list g q
theorem meets_gg {l1 l2:Addr}{o1 o2:Obj}{G1 G2:Heap→Prop}(b1:Itb l1 o1 G1)(b2:Itb l2 o2 G2)(up:∀h,G2 h→G2 (h.push o1)) :
  Meets (Builtin.«zip.__new__» ⟨[.type "zip", .ref l1,.ref l2],[]⟩) (fun _ R s=>G1 s.heap∧G2 s.heap ∧
   R (.ok (.ret (.ref (zH4 s.heap o1 o2).objs.size))) { s with heap:=zH5 s.heap o1 o2 }) :=
 .of_wp fun prog w A R s h=>by
  obtain ⟨hl1,hl2,h⟩:=h
  have z3:(zH3 s.heap o1 o2).objs.size=(zH2 s.heap o1 o2).objs.size + 1:=Heap.size_push ..
  have z4:(zH4 s.heap o1 o2).objs.size=(zH2 s.heap o1 o2).objs.size + 2:=by rw [Heap.size_push,z3]
  refine zcM (h1:=s.heap.push o1) (h2:=zH2 s.heap o1 o2) (i1:=s.heap.objs.size) (i2:=(s.heap.push o1).objs.size)
   (fun Q E q=>b1 prog w A.in1 s Q E hl1 q) (fun Q E q=>b2 prog w A.in1 { s with heap:=s.heap.push o1 } Q E (up _ hl2) q) ⟨_,rfl,?_⟩
  rw [← z4,← z3]
  exact h
theorem call_zipG {l1 l2:Addr}{o1 o2:Obj}{G1 G2:Heap→Prop}{Q:Value→Shared→Prop}(f1:o1.isFreed=false)(f2:o2.isFreed=false)(b1:Itb l1 o1 G1)(b2:Itb l2 o2 G2)(up:∀h,G2 h→G2 (h.push o1))(hl1:G1 s.heap)(hl2:G2 s.heap)
  (h:∀h',Made5 s.heap h' o1 o2→Q (.ref (s.heap.objs.size + 4)) { s with heap:=h' }) :
  wpAny (model prog w) A (call (.type "zip") [.ref l1,.ref l2]) Q E s:=by
 refine callType_new F.called_zip (by decide) (F.typeCall_zip_2 _ _) (F.newCall_zip_2 _ _) (fun obj=>F.args_object_init_3 obj _ _) F.entry_zip_new
  (meets_gg b1 b2 up) ⟨hl1,hl2,?_⟩
 obtain ⟨m,z4⟩:=made5 s.heap o1 o2 f1 f2
 show _∧_
 rw [z4]
 exact ⟨⟨_,m.1,rfl⟩,h _ m⟩
end
end Zp
set_option maxHeartbeats 1000000
namespace L2
open PySem PySem.Spec PyProof.Rows
noncomputable def TxtOk (x:Str):Prop:=PyData.strOk x=true∧x.length≤1000000
mutual
inductive Is (K:PySem.W.Frag)(H:Hp):V→PyData→Prop
 | non:Is K H .non .none
 | bl (b:Bool):Is K H (.bl b) (.bool b)
 | int (i:Int):Is K H (.int i) (.int i)
 | str (x:Str) (ok:TxtOk x):Is K H (.str x) (.str x)
 | lst {a:Addr}{xs:List V}{ds:List PyData}:SqL K H a xs→Iss K H xs ds→Is K H (.ref a) (.list ds)
 | tup {a:Addr}{xs:List V}{ds:List PyData}:SqT K H a xs→Iss K H xs ds→Is K H (.ref a) (.tuple ds)
inductive Iss (K:PySem.W.Frag)(H:Hp):List V→List PyData→Prop
 | nil:Iss K H [] []
 | cons {v:V}{d:PyData}{vs:List V}{ds:List PyData}:Is K H v d→Iss K H vs ds→Iss K H (v::vs) (d::ds)
end
theorem Same.seqT {K:PySem.W.Frag}{H H':Hp}{a:Addr}{xs:List V}(e:Same H H')(h:SqT K H a xs):SqT K H' a xs:=by
 rcases h with (h | ⟨o,h⟩) | h
 ·exact .inl (.inl (e _ _ h))
 ·exact .inl (.inr ⟨o,e _ _ h⟩)
 ·exact .inr h
section
variable {K:PySem.W.Frag}{H H':Hp}
theorem Is.mono_both (e:Same H H'):(∀{v:V}{d:PyData},Is K H v d→Is K H' v d)∧(∀{vs:List V}{ds:List PyData},Iss K H vs ds→Iss K H' vs ds):=by
 refine ⟨fun {v d} h=>?_,fun {vs ds} h=>?_⟩
 ·exact Is.rec (motive_1:=fun v d _=>Is K H' v d) (motive_2:=fun vs ds _=>Iss K H' vs ds) .non .bl .int .str (fun q _ ih=>.lst (e.seq q) ih) (fun q _ ih=>.tup (e.seqT q) ih) .nil (fun _ _ a b=>.cons a b) h
 ·exact Iss.rec (motive_1:=fun v d _=>Is K H' v d) (motive_2:=fun vs ds _=>Iss K H' vs ds) .non .bl .int .str (fun q _ ih=>.lst (e.seq q) ih) (fun q _ ih=>.tup (e.seqT q) ih) .nil (fun _ _ a b=>.cons a b) h
theorem Is.mono {v:V}{d:PyData}(h:Is K H v d)(e:Same H H'):Is K H' v d:=(Is.mono_both e).1 h
theorem Iss.mono {vs:List V}{ds:List PyData}(h:Iss K H vs ds)(e:Same H H'):Iss K H' vs ds:=(Is.mono_both e).2 h
theorem Iss.length:∀{vs:List V}{ds:List PyData},Iss K H vs ds→vs.length=ds.length
 | _,_,.nil=>rfl
 | _,_,.cons _ r=>by simp [r.length]
theorem Iss.append:∀{vs ws:List V}{ds es:List PyData},Iss K H vs ds→Iss K H ws es→Iss K H (vs++ws) (ds++es)
 | _,_,_,_,.nil,s=>s
 | _,_,_,_,.cons r t,s=>.cons r (Iss.append t s)
theorem Iss.get:∀{vs:List V}{ds:List PyData}{i:Nat}{v:V},Iss K H vs ds→vs[i]? = some v→∃d,ds[i]? = some d∧Is K H v d
 | _,_,_,_,.nil,e=>by simp at e
 | _,_,0,_,.cons r _,e=>by simp at e; subst e; exact ⟨_,rfl,r⟩
 | _,_,i + 1,v,.cons _ t,e=>by
  obtain ⟨d,h1,h2⟩:=Iss.get (i:=i) (v:=v) t (by simpa using e)
  exact ⟨d,by simpa using h1,h2⟩
theorem Iss.take:∀{vs:List V}{ds:List PyData} (n:Nat),Iss K H vs ds→Iss K H (vs.take n) (ds.take n)
 | _,_,0,_=>.nil
 | _,_,_ + 1,.nil=>.nil
 | _,_,n + 1,.cons r t=>.cons r (Iss.take n t)
theorem Iss.drop:∀{vs:List V}{ds:List PyData} (n:Nat),Iss K H vs ds→Iss K H (vs.drop n) (ds.drop n)
 | _,_,0,r=>r
 | _,_,_ + 1,.nil=>.nil
 | _,_,n + 1,.cons _ t=>Iss.drop n t
theorem Is.can_both:(∀{v:V}{d:PyData},Is K H v d→d.canLay0=true)∧(∀{vs:List V}{ds:List PyData},Iss K H vs ds→PyData.canLayAll0 ds=true):=by
 have hs:∀(x:Str),TxtOk x→(PyData.str x).canLay0=true:=fun x h=>h.1
 refine ⟨fun {v d} h=>?_,fun {vs ds} h=>?_⟩
 ·exact Is.rec (motive_1:=fun v d _=>d.canLay0=true) (motive_2:=fun vs ds _=>PyData.canLayAll0 ds=true) rfl (fun _=>rfl) (fun _=>rfl) hs (fun _ _ ih=>ih) (fun _ _ ih=>ih) rfl (fun _ _ a b=>by simp [PyData.canLayAll0,a,b]) h
 ·exact Iss.rec (motive_1:=fun v d _=>d.canLay0=true) (motive_2:=fun vs ds _=>PyData.canLayAll0 ds=true) rfl (fun _=>rfl) (fun _=>rfl) hs (fun _ _ ih=>ih) (fun _ _ ih=>ih) rfl (fun _ _ a b=>by simp [PyData.canLayAll0,a,b]) h
theorem Is.can {v:V}{d:PyData}(h:Is K H v d):d.canLay0=true:=Is.can_both.1 h
end
section
variable {X:Cx}{pins:List (Addr×Obj)}{σ:St}{H:Hp}{s:Shared}
theorem Inv.reads_both (I:Inv X pins σ H s):(∀{v:V}{d:PyData},Is X.K H v d→∀{u:Value},RelV v u→∃as,Reads s.heap u d as)∧(∀{vs:List V}{ds:List PyData},Iss X.K H vs ds→∀{us:List Value},Vals vs us→∃as,ReadsAll s.heap us ds as):=by
 have h1:∀{u:Value},RelV .non u→∃as,Reads s.heap u .none as:=fun {u} r=>by cases r; exact ⟨_,.none⟩
 have h2:∀(b:Bool) {u:Value},RelV (.bl b) u→∃as,Reads s.heap u (.bool b) as:=fun b {u} r=>by cases r; exact ⟨_,.bool b⟩
 have h3:∀(i:Int) {u:Value},RelV (.int i) u→∃as,Reads s.heap u (.int i) as:=fun i {u} r=>by obtain ⟨t,rfl⟩:=r; exact ⟨_,.int i t⟩
 have h4:∀(x:Str),TxtOk x→∀{u:Value},RelV (.str x) u→∃as,Reads s.heap u (.str x) as:=fun x _ {u} r=>by obtain ⟨t,rfl⟩:=r; exact ⟨_,.str x t⟩
 have h5:∀{a:Addr}{xs:List V}{ds:List PyData} (_:SqL X.K H a xs) (_:Iss X.K H xs ds),(∀{us:List Value},Vals xs us→∃as,ReadsAll s.heap us ds as)→∀{u:Value},RelV (.ref a) u→∃as,Reads s.heap u (.list ds) as:=by
  intro a xs ds q _ ih u r
  cases r
  obtain ⟨its,rv,⟨o,n,e,hc,_,hd⟩,_⟩:=I.list q
  obtain ⟨as,ra⟩:=ih rv
  exact ⟨_,.list e hc hd (by simpa using ra)⟩
 have h6:∀{a:Addr}{xs:List V}{ds:List PyData} (_:SqT X.K H a xs) (_:Iss X.K H xs ds),(∀{us:List Value},Vals xs us→∃as,ReadsAll s.heap us ds as)→∀{u:Value},RelV (.ref a) u→∃as,Reads s.heap u (.tuple ds) as:=by
  intro a xs ds q _ ih u r
  cases r
  obtain ⟨its,rv,⟨o,e,hc,n,hd⟩,_⟩:=I.tuple q
  obtain ⟨as,ra⟩:=ih rv
  exact ⟨_,.tuple e hc hd (by simpa using ra)⟩
 have h7:∀{us:List Value},Vals [] us→∃as,ReadsAll s.heap us [] as:=fun {us} r=>by cases r; exact ⟨_,.nil⟩
 have h8:∀{v:V}{d:PyData}{vs:List V}{ds:List PyData} (_:Is X.K H v d) (_:Iss X.K H vs ds),(∀{u:Value},RelV v u→∃as,Reads s.heap u d as)→(∀{us:List Value},Vals vs us→∃as,ReadsAll s.heap us ds as)→∀{us:List Value},Vals (v::vs) us→∃as,ReadsAll s.heap us (d::ds) as:=by
  intro v d vs ds _ _ a b us r
  cases r with
  | cons r t =>
   obtain ⟨_,ra⟩:=a r
   obtain ⟨_,rb⟩:=b t
   exact ⟨_,.cons ra rb⟩
 refine ⟨fun {v d} h=>?_,fun {vs ds} h=>?_⟩
 ·exact Is.rec (motive_1:=fun v d _=>∀{u:Value},RelV v u→∃as,Reads s.heap u d as) (motive_2:=fun vs ds _=>∀{us:List Value},Vals vs us→∃as,ReadsAll s.heap us ds as) h1 h2 h3 h4 h5 h6 h7 h8 h
 ·exact Iss.rec (motive_1:=fun v d _=>∀{u:Value},RelV v u→∃as,Reads s.heap u d as) (motive_2:=fun vs ds _=>∀{us:List Value},Vals vs us→∃as,ReadsAll s.heap us ds as) h1 h2 h3 h4 h5 h6 h7 h8 h
theorem Inv.reads (I:Inv X pins σ H s){v:V}{d:PyData}{u:Value}(h:Is X.K H v d)(r:RelV v u):∃as,Reads s.heap u d as:=I.reads_both.1 h r
noncomputable def rEqD (K:PySem.W.Frag):R2:=fun x y H Q=>∃d e,Is K H x d∧Is K H y e∧d.depth≤60∧Q (.bl (PyData.eqv d e)) H
noncomputable def rNeD (K:PySem.W.Frag):R2:=fun x y H Q=>∃d e,Is K H x d∧Is K H y e∧d.depth≤60∧Q (.bl (!PyData.eqv d e)) H
theorem op_eqD (hu:X.A.units + 64 < cLine):OpR X (compareOp .Eq) (rEqD X.K):=by
 intro pins s σ H x y v u Q I rx ry h
 obtain ⟨d,e,hd,he,hz,q⟩:=h
 obtain ⟨_,ra⟩:=I.reads hd rx
 obtain ⟨_,rb⟩:=I.reads he ry
 exact SeqAt.rcAt_reads ra rb hd.can he.can (by omega) X.prog X.w X.xe _ (fin_bl I q rfl)
theorem w5 (hu:X.A.units + 64 < cLine):OpR X (compareOp .NotEq) (rNeD X.K):=by
 intro pins s σ H x y v u Q I rx ry h
 obtain ⟨d,e,hd,he,hz,q⟩:=h
 obtain ⟨_,ra⟩:=I.reads hd rx
 obtain ⟨_,rb⟩:=I.reads he ry
 exact SeqAt.rcNeAt_reads ra rb hd.can he.can (by omega) X.prog X.w X.xe _ (fin_bl I q rfl)
end
end L2
namespace L2
open PySem PySem.Spec PyProof.Rows
noncomputable def zad (scope:Scope)(env:Env):List (Str×Addr):=scope.names.foldl (fun cs y=>if y.2 == NameKind.free then (y.1,(env.cells.lookup y.1).getD 0)::cs else cs) []
theorem zbJ {scope:Scope}{env:Env}(h:∀y∈scope.names,y.2=.free→∃c,env.cells.lookup y.1=some c):closureFor scope env=pure (zad scope env):=by
 have key:∀(names:List (Str×NameKind)) (cs:List (Str×Addr)),(∀y∈names,y.2=.free→∃c,env.cells.lookup y.1=some c) →
   (forIn names cs (fun (x:Str×NameKind) (r:List (Str×Addr))=>if (x.2 == NameKind.free)=true then (do let a ← cellOf env x.1; pure (ForInStep.yield ((x.1,a)::r)):Sem (ForInStep (List (Str×Addr)))) else pure (ForInStep.yield r))) =
    pure (names.foldl (fun cs y=>if y.2 == NameKind.free then (y.1,(env.cells.lookup y.1).getD 0)::cs else cs) cs):=by
  intro names
  induction names with
  | nil=>intro cs _; rfl
  | cons y r ih =>
   intro cs hy
   have hr:∀z∈r,z.2=.free→∃c,env.cells.lookup z.1=some c:=fun z hz=>hy z (List.mem_cons_of_mem _ hz)
   rw [List.forIn_cons,List.foldl_cons]
   cases hk:(y.2 == NameKind.free) with
   | false =>
    simp only [Bool.false_eq_true,if_false]
    exact ih cs hr
   | true =>
    have e:y.2=.free:=by simpa using hk
    obtain ⟨c,hc⟩:=hy y List.mem_cons_self e
    have hco:cellOf env y.1=pure c:=by unfold cellOf; rw [hc]
    simp only [if_true,hco,hc,Option.getD_some]
    exact ih _ hr
 unfold closureFor zad
 have:=key scope.names [] h
 first | exact (congrArg (· >>= fun r=>pure r) this).trans rfl | exact this | simpa using this
theorem zbB {scope:Scope}{env:Env}(h:∀y∈scope.names,y.2=.free→∃c,env.cells.lookup y.1=some c):∀p∈zad scope env,env.cells.lookup p.1=some p.2∧(p.1,NameKind.free)∈scope.names:=by
 have key:∀(names:List (Str×NameKind)) (cs:List (Str×Addr)),(∀y∈names,y∈scope.names)→(∀p∈cs,env.cells.lookup p.1=some p.2∧(p.1,NameKind.free)∈scope.names) →
   ∀p∈names.foldl (fun cs y=>if y.2 == NameKind.free then (y.1,(env.cells.lookup y.1).getD 0)::cs else cs) cs,env.cells.lookup p.1=some p.2∧(p.1,NameKind.free)∈scope.names:=by
  intro names
  induction names with
  | nil=>intro cs _ hc; exact hc
  | cons y r ih =>
   intro cs hs hc
   rw [List.foldl_cons]
   refine ih _ (fun z hz=>hs z (List.mem_cons_of_mem _ hz)) ?_
   cases hk:(y.2 == NameKind.free) with
   | false=>simp only [Bool.false_eq_true,if_false]; exact hc
   | true =>
    have e:y.2=.free:=by simpa using hk
    obtain ⟨c,hcc⟩:=h y (hs y List.mem_cons_self) e
    simp only [if_true]
    intro p hp
    rcases List.mem_cons.mp hp with rfl | hp
    ·exact ⟨by rw [hcc]; rfl,by have:=hs y List.mem_cons_self; rw [← e]; exact this⟩
    ·exact hc p hp
 exact key scope.names [] (fun _ h=>h) (fun p hp=>by cases hp)
theorem zbV {l:List (Str×Addr)}{x:Str}(h:∃p∈l,p.1=x):∃c,l.lookup x=some c:=by
 induction l with
 | nil=>obtain ⟨p,hp,_⟩:=h; cases hp
 | cons q r ih =>
  rw [List.lookup_cons]
  cases hq:(x == q.1) with
  | true=>exact ⟨_,rfl⟩
  | false =>
   obtain ⟨p,hp,e⟩:=h
   rcases List.mem_cons.mp hp with rfl | hp
   ·subst e; simp at hq
   ·exact ih ⟨p,hp,e⟩
theorem zbr {scope:Scope}{env:Env}{x:Str}(hx:(x,NameKind.free)∈scope.names):∃c,(zad scope env).lookup x=some c:=by
 refine zbV ?_
 have key:∀(names:List (Str×NameKind)) (cs:List (Str×Addr)),((x,NameKind.free)∈names∨∃p∈cs,p.1=x) →
   ∃p∈names.foldl (fun cs y=>if y.2 == NameKind.free then (y.1,(env.cells.lookup y.1).getD 0)::cs else cs) cs,p.1=x:=by
  intro names
  induction names with
  | nil=>intro cs h; rcases h with h | h; cases h; exact h
  | cons y r ih =>
   intro cs h
   rw [List.foldl_cons]
   refine ih _ ?_
   rcases h with h | ⟨p,hp,e⟩
   ·rcases List.mem_cons.mp h with h | h
    ·subst h
     exact .inr ⟨_,List.mem_cons_self,rfl⟩
    ·exact .inl h
   ·refine .inr ⟨p,?_,e⟩
    cases (y.2 == NameKind.free) with
    | true=>exact List.mem_cons_of_mem _ hp
    | false=>exact hp
 exact key scope.names [] (.inl hx)
theorem kY {scope:Scope}{env:Env}{x:Str}:(relabel scope env).names.lookup x=(scope.names.lookup x).map fun k=>if (k == NameKind.free&&env.scope.kind == .function&&env.kindOf x == some .cell) then NameKind.cell else k:=by
 show (scope.names.map _).lookup x=_
 induction scope.names with
 | nil=>rfl
 | cons y r ih =>
  obtain ⟨n,k⟩:=y
  rw [List.map_cons,List.lookup_cons]
  cases hx:(x == n) with
  | true =>
   have e:x=n:=by simpa using hx
   subst e
   show List.lookup x ((if (k == NameKind.free&&env.scope.kind == .function&&env.kindOf x == some .cell)=true then (x,NameKind.cell) else (x,k))::_)=_
   split
   ·rename_i h
    simp only [List.lookup_cons,hx,Option.map_some]
    rw [if_pos h]
   ·rename_i h
    simp only [List.lookup_cons,hx,Option.map_some]
    rw [if_neg h]
  | false =>
   show List.lookup x ((if (k == NameKind.free&&env.scope.kind == .function&&env.kindOf n == some .cell)=true then (n,NameKind.cell) else (n,k))::_)=_
   split <;> simp only [List.lookup_cons,hx] <;> exact ih
structure CompOk (X:Cx)(scope:Scope)(caps:List Nat):Prop where
 kind:scope.kind=.function
 ncell:∀y∈scope.names,y.2=.cell→scope.names.lookup y.1=some .cell
 locs:∀y∈scope.names,y.2=.local→scope.names.lookup y.1=some .local
 free:∀y∈scope.names,y.2=.free→X.env.kindOf y.1=some .cell∨X.env.kindOf y.1=some .free
 caps:∀i∈caps,∃y,X.N[i]? = some y∧scope.names.lookup y=some .free
noncomputable def capN (X:Cx)(own:List Str)(caps:List Nat):List Str:=own++caps.map fun i=>X.N.getD i Str.empty
noncomputable def zdp (own:List Str)(caps:List Nat)(σ:St):St:=own.map (fun _=>none)++caps.map fun i=>(σ[i]?).getD none
noncomputable def ownC (scope:Scope)(C:Addr):List (Str×Addr):=cellsFrom (C + 1) scope.names []
noncomputable def allC (scope:Scope)(env:Env)(C:Addr):List (Str×Addr):=ownC scope C++zad scope env
theorem jG:∀(names:List (Str×NameKind)) (n:Nat) (acc:List (Str×Addr)),cellsFrom n names acc=cellsFrom n names []++acc:=by
 intro names
 induction names with
 | nil=>intro n acc; rfl
 | cons y r ih =>
  obtain ⟨x,k⟩:=y
  intro n acc
  unfold cellsFrom
  split
  ·rw [ih _ ((x,n)::acc),ih _ [(x,n)],List.append_assoc]; rfl
  ·exact ih n acc
theorem zbI:∀(names:List (Str×NameKind)) (n:Nat) (x:Str) (c:Addr),(x,c)∈cellsFrom n names []→(x,NameKind.cell)∈names:=by
 intro names
 induction names with
 | nil=>intro n x c h; cases h
 | cons y r ih =>
  obtain ⟨z,k⟩:=y
  intro n x c h
  unfold cellsFrom at h
  split at h
  ·rename_i hk
   rw [jG] at h
   rcases List.mem_append.mp h with h | h
   ·exact List.mem_cons_of_mem _ (ih _ _ _ h)
   ·have e:=List.mem_singleton.mp h
    injection e with e1 e2
    subst e1
    have ek:k=.cell:=by simpa using hk
    subst ek
    exact List.mem_cons_self
  ·exact List.mem_cons_of_mem _ (ih _ _ _ h)
theorem zbs {l r:List (Str×Addr)}{x:Str}{c:Addr}(h:(l++r).lookup x=some c):l.lookup x=some c∨(l.lookup x=none∧r.lookup x=some c):=by
 rw [List.lookup_append] at h
 cases e:l.lookup x with
 | none=>rw [e] at h; exact .inr ⟨rfl,h⟩
 | some d=>rw [e] at h; exact .inl h
theorem lookup_l {l r:List (Str×Addr)}{x:Str}{c:Addr}(h:l.lookup x=some c):(l++r).lookup x=some c:=by rw [List.lookup_append,h]; rfl
theorem lookup_r {l r:List (Str×Addr)}{x:Str}{c:Addr}(n:l.lookup x=none)(h:r.lookup x=some c):(l++r).lookup x=some c:=by rw [List.lookup_append,n]; exact h
noncomputable def cxC (X:Cx)(pins:List (Addr×Obj))(scope:Scope)(own:List Str)(caps:List Nat)(C:Addr)(ex:List Addr)(s:Shared)(H:Hp):Cx :=
 { X with N:=capN X own caps,s₀:=s,H₀:=H,env:=compEnvC scope (allC scope X.env C) C X.env,outer:=X.stack,ex:=ex,fn:=fun x=>scope.names.lookup x == some .cell,pn:=X.pn++pins,xe:=fun _ _=>False }
section
variable {X:Cx}{pins:List (Addr×Obj)}{σ:St}{H:Hp}{s:Shared}{scope:Scope}{own:List Str}{caps:List Nat}
theorem Inv.track {D:Addr}{o:HO} (I:Inv X pins σ H s) (hn:H D=none) (h0:D∈X.ex∨X.s₀.heap.objs.size≤D) (hL:D≠X.env.locals) (hc:∀x c,X.env.cells.lookup x=some c→c≠D) (hp:∀p∈X.pn++pins,p.1≠D)
  (new:ObjOk X.prog X.w (upd H D o) s.heap D o):Inv X pins σ (upd H D o) s:=by
 have ne:∀b u,H b=some u→b≠D:=fun b u e=>yM e hn
 have q := I.step (g':=s.gens) (t':=s.toks) (d':=s.drawn) (ch:=[D]) (h':=s.heap) (H':=upd H D o)
  (fun b hb => by have e:b=D:=by simpa using hb
                  subst e; exact ⟨h0,hL,hc,hp⟩)
  (fun b o' _ _ _ e _=>e) (fun b o' _ _ _ e _=>⟨o'.slots,e⟩) (fun b o' hb _ n=>by rw [zV (fun z=>hb (by simp [z]))]; exact n) (fun b o' _ e=>⟨o',e⟩)
  (fun b xs e=>by rw [zV (ne b _ e)]; exact e) (fun b o' u e=>by rw [zV (ne b _ e)]; exact e) (fun b ps e=>⟨#[],by rw [zV (ne b _ e),e]; simp⟩) (fun m hm=>hm)
  (fun b u e=>by
   by_cases hb:b=D
   ·subst hb; rw [yd] at e; cases e; exact new
   ·rw [zV hb] at e
    exact (I.hok b u e).stay (fun c v _ q=>q) (fun c q=>by rw [zV (ne c _ q)]; exact q) fun c xs q=>by rw [zV (ne c _ q)]; exact q) I.bare
 exact q
theorem CompOk.cells (ok:CompOk X scope caps)(I:Inv X pins σ H s):∀y∈scope.names,y.2=.free→∃c,X.env.cells.lookup y.1=some c:=fun y hy e=>I.ok.has y.1 (ok.free y hy e)
theorem Inv.block {h₁:Heap}{D C:Addr}{fp:List Addr}{m:Str→Option Value}{oD:Obj}{t:Nat}(ok:CompOk X scope caps)(I:Inv X pins σ H s)(hf:∀b∈fp,FpOk X pins H b)(hfo:∀b∈fp,∃o,s.heap.get? b=some o∧∀v,o.data≠.cell v)
  (hD:D=s.heap.objs.size) (hC:s.heap.objs.size≤C) (hDC:D≠C) (k:∀b u,s.heap.get? b=some u→h₁.get? b=some u) (hn:h₁.Ns C m) (hoD:h₁.get? D=some oD) (hdD:∀v,oD.data≠.cell v) (cok:CellsOk h₁ (C + 1) (ownC scope C)) :
  Inv (cxC X pins scope own caps C fp s H) [(D,oD)] (zdp own caps σ) H { s with heap:=h₁,toks:=t }:=by
 have hcl:=ok.cells I
 have lk:∀x c,(zad scope X.env).lookup x=some c→X.env.cells.lookup x=some c∧(x,NameKind.free)∈scope.names:=fun x c e=>zbB hcl (x,c) (PySem.mem_of_lookup e)
 have lA:∀x c,(allC scope X.env C).lookup x=some c→(C < c∧h₁.IsCell c none∧(x,c)∈ownC scope C)∨(zad scope X.env).lookup x=some c:=fun x c e=>by
  rcases zbs e with e | ⟨_,e⟩
  ·have m:=PySem.mem_of_lookup e
   exact .inl ⟨(cok.empty x c m).2,(cok.empty x c m).1,m⟩
  ·exact .inr e
 have lkC:∀x c,X.env.cells.lookup x=some c→c < C:=fun x c e=>by
  obtain ⟨v,o,ho,_⟩:=I.cell x c e
  exact Nat.lt_of_lt_of_le (Heap.lt_size ho) hC
 have nst:∀b,b≠X.env.locals→b∉X.fs→b∉frs X.stack:=fun b h1 h2 hb=>by
  rcases List.mem_cons.mp (I.stkSub b hb) with e | e
  ·exact h1 e
  ·exact h2 e
 have kinds:∀x,((relabel scope X.env).names.lookup x=some .cell∨(relabel scope X.env).names.lookup x=some .free)→(x,NameKind.free)∈scope.names∨scope.names.lookup x=some .cell:=fun x hx=>by
  rw [kY] at hx
  cases e:scope.names.lookup x with
  | none=>rw [e] at hx; rcases hx with hx | hx <;> cases hx
  | some kd =>
   have hm:=PySem.mem_of_lookup e
   cases kd with
   | free=>exact .inl hm
   | cell=>exact .inr rfl
   | _=>rw [e] at hx; rcases hx with hx | hx <;> simp at hx
 refine ⟨⟨I.ok.mod,ok.kind,I.ok.glob,I.ok.blt,hC,?_,?_,?_,I.ok.hd,I.ok.frames,.inl rfl,?_,I.bs,Nat.le_trans I.ok.bsz I.sz,?_,?_,I.stack,I.stkFree⟩,rfl,I.bare,Un.kept k,⟨m,hn,?_⟩,?_,I.hok.fresh hC,?_,?_,I.hok.kept k,?_⟩
 ·intro x y c h1 h2
  rcases lA x c h1 with ⟨l1,_,m1⟩ | h1 <;> rcases lA y c h2 with ⟨l2,_,m2⟩ | h2
  ·exact name_of_addr cok.apart m1 m2
  ·exact absurd (lkC y c (lk y c h2).1) (Nat.lt_asymm l1)
  ·exact absurd (lkC x c (lk x c h1).1) (Nat.lt_asymm l2)
  ·exact I.ok.inj x y c (lk x c h1).1 (lk y c h2).1
 ·intro x hx
  show ∃c,(allC scope X.env C).lookup x=some c
  cases e:(ownC scope C).lookup x with
  | some c=>exact ⟨c,lookup_l e⟩
  | none =>
   rcases kinds x hx with h | h
   ·obtain ⟨c,h⟩:=zbr (env:=X.env) h
    exact ⟨c,lookup_r e h⟩
   ·obtain ⟨c,h⟩:=zas (n:=C + 1) h
    unfold ownC at e
    rw [h] at e; cases e
 ·intro x c hx e
  have hx:(scope.names.lookup x == some .cell)=true:=hx
  obtain ⟨c',h⟩:=zas (sc:=scope) (n:=C + 1) (by simpa using hx)
  have e':=lookup_l (r:=zad scope X.env) h
  have e2:(allC scope X.env C).lookup x=some c:=e
  unfold allC ownC at e2
  rw [e'] at e2
  cases e2
  exact Nat.le_trans hC (Nat.le_trans (Nat.le_succ C) (cok.empty x _ (PySem.mem_of_lookup h)).2)
 ·intro b hb
  obtain ⟨o,ho,_⟩:=hfo b hb
  refine ⟨Nat.ne_of_lt (Nat.lt_of_lt_of_le (Heap.lt_size ho) hC),fun x c e=>?_⟩
  rcases lA x c e with ⟨l,_,_⟩ | e
  ·exact Nat.ne_of_gt (Nat.lt_trans (Nat.lt_of_lt_of_le (Heap.lt_size ho) hC) l)
  ·exact (hf b hb).2.2.2.2.1 x c (lk x c e).1
 ·intro b o e hb
  rcases (hf b hb).2.2.2.1 with z | z
  ·exact I.ok.noex b o e z
  ·exact absurd (Nat.lt_of_lt_of_le (Heap.lt_size e) (Nat.le_trans I.ok.bsz z)) (Nat.lt_irrefl _)
 ·exact fun b hb=>nst b (hf b hb).2.1 (hf b hb).2.2.1
 ·intro i x v h1 h2 h3
  have h1':(own++caps.map fun i=>X.N.getD i Str.empty)[i]? = some x:=h1
  unfold zdp at h2
  have hi:own.length≤i:=by
   apply Classical.byContradiction
   intro hlt
   rw [List.getElem?_append_left (by simpa using hlt),List.getElem?_map] at h2
   cases e:own[i]? with
   | none=>rw [e] at h2; cases h2
   | some y=>rw [e] at h2; cases h2
  rw [List.getElem?_append_right (by simpa using hi),List.getElem?_map,List.length_map] at h2
  rw [List.getElem?_append_right hi,List.getElem?_map] at h1'
  cases e:caps[i - own.length]? with
  | none=>rw [e] at h2; cases h2
  | some j =>
   rw [e] at h2 h1'
   have hx:X.N.getD j Str.empty=x:=Option.some.inj h1'
   have hv:(σ[j]?).getD none=some v:=Option.some.inj h2
   obtain ⟨y,hy,hfr⟩:=ok.caps j (List.mem_of_getElem? e)
   have exy:x=y:=by rw [← hx,List.getD_eq_getElem?_getD,hy]; rfl
   subst exy
   have hs:σ[j]? = some (some v):=by
    cases q:σ[j]? with
    | none=>rw [q] at hv; cases hv
    | some z=>rw [q] at hv; exact congrArg some hv
   have hfm:=PySem.mem_of_lookup hfr
   have hkd:=ok.free _ hfm rfl
   obtain ⟨m',hn',hl⟩:=I.loc
   obtain ⟨u,r,l⟩:=hl j x v hy hs (by rcases hkd with z | z; exact .inr (.inl z); exact .inr (.inr z))
   refine ⟨u,r,.inr ⟨?_,?_⟩⟩
   ·show (relabel scope X.env).names.lookup x=some .cell∨(relabel scope X.env).names.lookup x=some .free
    rw [kY,hfr]
    simp only [Option.map_some]
    split
    ·exact .inl rfl
    ·exact .inr rfl
   ·rcases l with ⟨hk,_⟩ | ⟨_,c,hc,o,ho,hd⟩
    ·rcases hkd with z | z <;> (rw [hk] at z; cases z)
    ·obtain ⟨c',hc'⟩:=zbr (env:=X.env) hfm
     have e1:=(lk x c' hc').1
     rw [hc] at e1
     cases e1
     refine ⟨c,lookup_r ?_ hc',o,k _ _ ho,hd⟩
     cases e3:(ownC scope C).lookup x with
     | none=>rfl
     | some c3 =>
      have h3:=ok.ncell _ (zbI _ _ _ _ (PySem.mem_of_lookup e3)) rfl
      rw [hfr] at h3; cases h3
 ·intro x c e
  rcases lA x c e with ⟨_,h,_⟩ | e
  ·exact ⟨_,h⟩
  ·obtain ⟨v,o,ho,hd⟩:=I.cell x c (lk x c e).1
   exact ⟨v,o,k _ _ ho,hd⟩
 ·intro x c e
  rcases lA x c e with ⟨l,_,_⟩ | e
  ·exact I.hok.fresh (Nat.le_trans hC (Nat.le_of_lt l))
  ·exact I.freeC x c (lk x c e).1
 ·intro p hp
  rcases List.mem_append.mp hp with hp | hp
  ·obtain ⟨a1,a2,a3,a4,a5⟩:=I.pin p hp
   exact ⟨k _ _ a1,a2,Nat.ne_of_lt (Nat.lt_of_lt_of_le (Heap.lt_size a1) hC),nst _ a3 a4,a5⟩
  ·have e:p=(D,oD):=by simpa using hp
   subst e
   refine ⟨hoD,I.hok.fresh (Nat.le_of_eq hD.symm),hDC,?_,hdD⟩
   refine nst D ?_ (I.nofs (Nat.le_of_eq hD.symm))
   exact Nat.ne_of_gt (by rw [hD]; exact I.lt)
 ·show (zdp own caps σ).length=(capN X own caps).length
  simp [zdp,capN]
end
end L2
namespace L2
open PySem PySem.Spec PyProof.Rows
section
variable {prog:Program}{w:World}{A:Around}{R:Result→Shared→Prop}{s:Shared}
theorem zcN {elt target iter:Expr}{ifs:List Expr}{scope:Scope}{pos:Pos}{it acc:Value}{env:Env}(I:Nat→Shared→Prop)
  (turn : ∀n s,I n s→wpAny (model prog w) A (pyNext it) (fun r s₁=>match r with
   | none=>R (.ok .next) s₁
   | some v=>wpAny (model prog w) A (letOwnedTupleGo target it v) (fun _ s₁'=>wpAny (model prog w) A (assign target env v) (fun _ s₂ =>
     wpAny (model prog w) A (forIn ifs true fun c r=>if r=true then do let ok ← isTrue c env (eval c env); pure (ForInStep.yield ok) else pure (ForInStep.yield r)) (fun ok s₃ =>
      if ok=true then wpAny (model prog w) A (eval elt env) (fun x s₄ =>
       wpAny (model prog w) A (call (.builtin "list.append") [acc,x]) (fun _ s₅=>∃m,m < n∧I m s₅) (fun _ _=>False) s₄) (fun _ _=>False) s₃
      else ∃m,m < n∧I m s₃) (fun _ _=>False) s₂) (fun _ _=>False) s₁') (fun _ _=>False) s₁) (fun _ _=>False) s)
  (n:Nat) (h:I n s) :
  codeAny (model prog w) A (.compLoop (.ListComp elt [⟨target,iter,ifs,0⟩] scope pos) 0 it acc env) R s:=by
 refine codeAny_loop rfl I (fun n s hI=>?_) n h
 show wpAny _ A ((compTurn (.ListComp elt [⟨target,iter,ifs,0⟩] scope pos) 0 it acc env).onRaise (fun x=>do noteFrame x env; theTreesLotGoes x)) _ _ s
 refine wpAny_noted ?_
 rw [compTurn_list]
 refine wpAny_bind (wpAny_standAt (wpAny_bind (wpAny_mono (turn n s hI) (fun r s₁ h₁=>?_) fun _ _ h'=>h'.elim)))
 cases r with
 | none=>exact wpAny_pure h₁
 | some v =>
  refine wpAny_bind (wpAny_mono h₁ (fun _ s₁' h₁'=>?_) fun _ _ h'=>h'.elim)
  refine wpAny_bind (wpAny_mono h₁' (fun _ s₂ h₂=>wpAny_bind (wpAny_mono h₂ (fun ok s₃ h₃=>?_) fun _ _ h'=>h'.elim)) fun _ _ h'=>h'.elim)
  cases ok with
  | false=>exact wpAny_pure ⟨rfl,h₃⟩
  | true =>
   exact wpAny_bind (wpAny_bind (wpAny_mono h₃ (fun x s₄ h₄=>wpAny_bind (wpAny_mono h₄ (fun _ s₅ h₅=>wpAny_pure (wpAny_pure ⟨rfl,h₅⟩)) fun _ _ h'=>h'.elim)) fun _ _ h'=>h'.elim))
end
noncomputable def PTs (X:Cx)(ifs:List Expr)(t:TT):Prop :=
 ∀ (pins:List (Addr×Obj)) (s:Shared) (σ:St) (H:Hp) (Q:Bool→Hp→Prop),Inv X pins σ H s→t σ H Q →
  wpAny (model X.prog X.w) X.A (forIn ifs true fun c r=>if r=true then do let ok ← isTrue c X.env (eval c X.env); pure (ForInStep.yield ok) else pure (ForInStep.yield r)) (TP X pins σ Q) X.xe s
noncomputable def Kps (σ σ':St):Prop:=σ'.length=σ.length∧∀(i:Nat) (v:V),σ[i]? = some (some v)→σ'[i]? = some (some v)
noncomputable def zaG (g:TG)(tt:TT)(te:TE)(σ0:St)(F:List V→Hp→Prop)(J:It)(H1:Hp):Prop :=
 ∃ W : Nat→Nat→List V→Hp→Prop,(∃m,W 0 m [] H1)∧∀i m ys H,W i m ys H→ys.length≤sizeLine ∧
  ((J.stop i H∧F ys H)∨(J.go i H∧ys.length < sizeLine∧∃N:List V→Hp→Prop,(∀ys' H',N ys' H'→∃m',m' < m∧W (i + 1) m' ys' H') ∧
    ∀x H',J.yld i H x H'→g x σ0 H' fun σ2 H2=>Kps σ0 σ2∧tt σ2 H2 fun b H3=>if b=true then te σ2 H3 fun y H4=>N (ys++[y]) H4 else N ys H3))
noncomputable def tComp (wi:TI)(g:TG)(tt:TT)(te:TE)(own:List Str)(caps:List Nat):TE:=fun σ H Q=>wi σ H fun J H1=>zaG g tt te (zdp own caps σ) (fun ys H'=>∀D,H' D=none→Q (.ref D) (upd H' D (.lst ys))) J H1
section
variable {X:Cx}{pins:List (Addr×Obj)}{σ:St}{H:Hp}{s:Shared}{scope:Scope}{own:List Str}{caps:List Nat}{elt tg iter:Expr}{ifs:List Expr}{wi:TI}{g:TG}{tt:TT}{te:TE}{pos:Pos}
structure CompIn (X:Cx)(scope:Scope)(own:List Str)(caps:List Nat)(tg:Expr)(ifs:List Expr)(elt:Expr)(g:TG)(tt:TT)(te:TE):Prop where
 tgt:∀pins C ex s H,PG (cxC X pins scope own caps C ex s H) tg g
 tst:∀pins C ex s H,PTs (cxC X pins scope own caps C ex s H) ifs tt
 elm:∀pins C ex s H,PE (cxC X pins scope own caps C ex s H) elt te
theorem zdE {M:Model}{A:Around}{E:Value→Shared→Prop}{s:Shared}{scope:Scope}{g:Addr}{cl:List (Str×Addr)}{q:Str}{env:Env}{Q:Env→Shared→Prop}
  (h:∀h',h'.Ns s.heap.objs.size (fun _=>none)→(∀b o,s.heap.get? b=some o→h'.get? b=some o)→CellsOk h' (s.heap.objs.size + 1) (ownC scope s.heap.objs.size) →
   Q (newEnv scope s.heap.objs.size g (ownC scope s.heap.objs.size++cl) q none .none (some env) builtinsNs) { s with heap:=h' }) :
  wpAny M A (newFunctionEnv scope g cl [] q none .none (some env)) Q E s:=by
 simp only [newFunctionEnv,Option.isSome_some,if_true]
 refine wpAny_bind (wpAny_alloc ?_)
 refine wpAny_bind (wpAny_layCells _ (fun name kind cells=>by cases hkc:kind == NameKind.cell <;> simp [hkc]) _ _ _ _ ?_)
 have ok:=cellsFrom_ok scope.names (s.heap.push { cls:=.type "dict", data:=.dict #[] }) (s.heap.objs.size + 1) [] ⟨fun _ _ hm=>(nomatch hm),List.Pairwise.nil⟩ (by rw [Heap.size_push]; exact Nat.le_refl _)
 rw [Heap.size_push] at ok
 rw [show ({ s with heap:=s.heap.push { cls:=.type "dict", data:=.dict #[] } }:Shared).heap.objs.size=s.heap.objs.size + 1 from Heap.size_push ..]
 rw [jG,List.forIn_nil]
 refine wpAny_bind (wpAny_pure (wpAny_pure ?_))
 exact h _ ((Heap.Ns.new s.heap (.type "dict")).keeps (pushCells_keeps _ _)) (fun b o e=>pushCells_keeps _ _ b o (Heap.get?_push_of_some _ e)) ok
theorem zcB {use:Option (Value→Sem Unit)}{Qv:Value→Shared→Prop}{F:List V→Hp→Prop}(ok:CompOk X scope caps)(hc:X.calm=true)(hi:PI X tg iter wi)(CI:CompIn X scope own caps tg ifs elt g tt te)(I:Inv X pins σ H s)
  (h:wi σ H fun J H1=>zaG g tt te (zdp own caps σ) F J H1)
  (fin:∀(D C:Addr) (ys:List V) (H':Hp) (s1:Shared) (m:Str→Option Value),Inv X pins σ (upd H' D (.lst ys)) s1→H' D=none→F ys H'→s1.heap.Ns C m→H' C=none→C≠D→C≠X.env.locals→C∉X.fs→X.s₀.heap.objs.size≤C →
   (∀x c,X.env.cells.lookup x=some c→c≠C)→(∀p∈X.pn++pins,p.1≠C)→compPost (model X.prog X.w) X.A X.xe use Qv (.ref D) C (.ok .next) s1)
  (hs:∀x,foldedSetIterable iter X.env x=pure x:=by intro _; rfl) :
  wpAny (model X.prog X.w) X.A (comprehension (.ListComp elt [⟨tg,iter,ifs,0⟩] scope pos) scope X.env (firstIterPos [⟨tg,iter,ifs,0⟩] pos) (newList []) false (eval iter X.env) use) Qv X.xe s:=by
 refine wpAny_comprehension_free rfl hs (zbJ (ok.cells I)) ok.kind ok.locs (thn (hi pins s σ H _ I h) fun v s1 h1=>thn h1 fun itv s2 h2=>?_)
 obtain ⟨it,fp,tn,J,H2,e,I2,T,st2,f2,W,⟨m0,w0⟩,turn⟩:=h2
 subst e
 refine wpAny_newObj_type (zdE (fun h₁ hns₁ hsb₁ cok=>?_))
 dsimp only at hns₁ hsb₁ cok ⊢
 generalize hH2:s2.heap.push { cls:=.type "list", dict:=none,data:=.seq ([]:List Value).toArray }=HH at hns₁ hsb₁ cok ⊢
 have hCs:HH.objs.size=s2.heap.objs.size + 1:=by rw [← hH2,Heap.size_push]
 have hDC:s2.heap.objs.size≠HH.objs.size:=by rw [hCs]; exact Nat.ne_of_lt (Nat.lt_succ_self _)
 have hC:s2.heap.objs.size≤HH.objs.size:=by rw [hCs]; exact Nat.le_succ _
 have old:∀b o,s2.heap.get? b=some o→h₁.get? b=some o:=fun b o e =>
  hsb₁ b o (hH2 ▸ Heap.get?_push_of_some _ e)
 have hoD:h₁.get? s2.heap.objs.size=some { cls:=.type "list", data:=.seq ([]:List Value).toArray }:=hsb₁ _ _ (hH2 ▸ Heap.get?_push_size _ rfl)
 have fo:∀b∈fp,∃o,s2.heap.get? b=some o∧∀v,o.data≠.cell v:=T.obj _ _ st2
 have I4:=Inv.block (own:=own) (t:=s2.toks) ok I2 f2 fo rfl hC hDC old hns₁ hoD (fun v z=>by cases z) cok
 have st4:tn 0 h₁:=T.keep _ _ _ st2 fun b _ o e=>old b o e
 have hDfp:∀b∈fp,b≠s2.heap.objs.size:=fun b hb=>by obtain ⟨o,ho,_⟩:=fo b hb; exact Nat.ne_of_lt (Heap.lt_size ho)
 have hCfp:∀b∈fp,b≠HH.objs.size:=fun b hb=>by obtain ⟨o,ho,_⟩:=fo b hb; exact Nat.ne_of_lt (Nat.lt_of_lt_of_le (Heap.lt_size ho) hC)
 have pnD:∀p∈X.pn++pins,p.1≠s2.heap.objs.size:=fun p hp=>Nat.ne_of_lt (Heap.lt_size (I2.pin p hp).1)
 have pnC:∀p∈X.pn++pins,p.1≠HH.objs.size:=fun p hp=>Nat.ne_of_lt (Nat.lt_of_lt_of_le (Heap.lt_size (I2.pin p hp).1) hC)
 have clX:∀x c,X.env.cells.lookup x=some c→c < s2.heap.objs.size:=fun x c e=>by obtain ⟨v,o,ho,_⟩:=I2.cell x c e; exact Heap.lt_size ho
 have cl:∀x c,(allC scope X.env HH.objs.size).lookup x=some c→X.env.cells.lookup x=some c∨HH.objs.size < c:=fun x c e=>by
  rcases zbs e with e | ⟨_,e⟩
  ·exact .inr (cok.empty x c (PySem.mem_of_lookup e)).2
  ·exact .inl (zbB (ok.cells I) (x,c) (PySem.mem_of_lookup e)).1
 have YA:(cxC X pins scope own caps HH.objs.size fp s2 H2).env=compEnvC scope (allC scope X.env HH.objs.size) HH.objs.size X.env:=rfl
 have stat:∀{H':Hp}{oD:Obj},(∀b∈fp,H' b=none)→∀b∈fp,FpOk (cxC X pins scope own caps HH.objs.size fp s2 H2) [(s2.heap.objs.size,oD)] H' b:=fun {H' oD} hn b hb=>by
  refine ⟨hn b hb,hCfp b hb,?_,.inl hb,fun x c e=>?_,fun p hp=>?_⟩
  ·intro z
   rcases List.mem_cons.mp (I2.stkSub b z) with e | e
   ·exact (f2 b hb).2.1 e
   ·exact (f2 b hb).2.2.1 e
  ·rcases cl x c e with e | e
   ·exact (f2 b hb).2.2.2.2.1 x c e
   ·obtain ⟨o,ho,_⟩:=fo b hb
    exact Nat.ne_of_gt (Nat.lt_trans (Nat.lt_of_lt_of_le (Heap.lt_size ho) hC) e)
  ·rcases List.mem_append.mp hp with hp | hp
   ·exact (f2 b hb).2.2.2.2.2 p hp
   ·have e:p=(s2.heap.objs.size,oD):=by simpa using hp
    subst e
    exact (hDfp b hb).symm
 have loop:∀s₃:Shared,s₃={ s2 with heap:=h₁ } →
   codeAny (model X.prog X.w) X.A (.compLoop (.ListComp elt [⟨tg,iter,ifs,0⟩] scope pos) 0 (.ref it) (.ref s2.heap.objs.size) (compEnvC scope (allC scope X.env HH.objs.size) HH.objs.size X.env)) (compPost (model X.prog X.w) X.A X.xe use Qv (.ref s2.heap.objs.size) HH.objs.size) s₃:=by
  rintro s₃ rfl
  refine zcN (fun n s'=>∃i ys its c H',Inv (cxC X pins scope own caps HH.objs.size fp s2 H2) [(s2.heap.objs.size,{ cls:=.type "list", data:=.seq its.toArray c })] (zdp own caps σ) H' s'∧Vals ys its∧tn i s'.heap∧(∀b∈fp,H' b=none)∧W i n ys H') ?_ m0
   ⟨0,[],[],0,H2,I4,.nil,st4,fun b hb=>(f2 b hb).1,w0⟩
  rintro n s' ⟨i,ys,its,c,H',I',rv,st',fr',w'⟩
  obtain ⟨hz,hcase⟩:=turn i n ys H' w'
  rcases hcase with ⟨stop,qF⟩ | ⟨go,hlt,N,hN,step⟩
  ·refine thn (T.done (cxC X pins scope own caps HH.objs.size fp s2 H2) rfl rfl rfl hc i _ s' _ H' _ I' (stat fr') st' stop) fun r s1 hq26=>?_
   obtain ⟨hr,I1⟩:=hq26
   subst hr
   obtain ⟨m1,hn1,_⟩:=I1.loc
   obtain ⟨pD,nD,_⟩:=I1.pin _ (List.mem_append_right _ (List.mem_singleton.mpr rfl))
   have J1:Inv X pins σ H' s1:=I2.call' I1.os I1.base I1.hok I1.bare fun b hb=>⟨(f2 b hb).2.2.2.1,(f2 b hb).2.1,(f2 b hb).2.2.2.2.1,(f2 b hb).2.2.2.2.2⟩
   have J2:Inv X pins σ (upd H' s2.heap.objs.size (.lst ys)) s1:=J1.track nD (.inr I2.sz) (Nat.ne_of_gt I2.lt) (fun x c e=>Nat.ne_of_lt (clX x c e)) pnD ⟨hz,its,c,rv,pD⟩
   exact fin _ _ ys H' s1 m1 J2 nD qF hn1 I1.free hDC.symm (Nat.ne_of_gt (Nat.lt_of_lt_of_le I2.lt hC)) (I2.nofs hC) (Nat.le_trans I2.sz hC) (fun x c e=>Nat.ne_of_lt (Nat.lt_of_lt_of_le (clX x c e) hC)) pnC
  ·refine thn (T.item (cxC X pins scope own caps HH.objs.size fp s2 H2) rfl rfl rfl hc i _ s' _ H' _ I' (stat fr') st' go) fun r s1 hq27=>?_
   obtain ⟨u,hr,h1⟩:=hq27
   subst hr
   refine thn h1 fun _ s2' hq28=>?_
   obtain ⟨x,H5,I5,r5,y5,st5,fr5⟩:=hq28
   have I5':=I5.pinned (stat fr5) (T.obj _ _ st5)
   refine thn (CI.tgt pins _ _ _ _ _ s2' _ H5 x u _ I5' r5 (step x H5 y5)) fun _ s6 hq29=>?_
   obtain ⟨σ6,H6,I6,kp6,q6⟩:=hq29
   refine thn (CI.tst pins _ _ _ _ _ s6 σ6 H6 _ I6 q6) fun b s7 hq30=>?_
   obtain ⟨H7,I7,q7⟩:=hq30
   have again:∀{H8:Hp}{s8:Shared}{ys':List V}{its':List Value}{c':Nat},Inv (cxC X pins scope own caps HH.objs.size fp s2 H2) ([(s2.heap.objs.size,{ cls:=.type "list", data:=.seq its'.toArray c' })]++zaR fp s2'.heap) σ6 H8 s8→Vals ys' its'→N ys' H8 →
     ∃m,m < n∧∃i ys its c H',Inv (cxC X pins scope own caps HH.objs.size fp s2 H2) [(s2.heap.objs.size,{ cls:=.type "list", data:=.seq its.toArray c })] (zdp own caps σ) H' s8∧Vals ys its∧tn i s8.heap∧(∀b∈fp,H' b=none)∧W i m ys H':=by
    intro H8 s8 ys' its' c' I8 rv' n8
    obtain ⟨m',hm,w8⟩:=hN ys' H8 n8
    refine ⟨m',hm,i + 1,ys',its',c',H8,I8.unpinned.weak kp6.1.symm kp6.2,rv',T.keep _ _ _ st5 fun b hb o e=>(I8.pin (b,o) (List.mem_append_right _ (List.mem_append_right _ (kh hb e)))).1,fun b hb=>?_,w8⟩
    obtain ⟨o,e,d⟩:=T.obj _ _ st5 b hb
    exact (I8.pin (b,o) (List.mem_append_right _ (List.mem_append_right _ (kh hb e)))).2.1
   cases b with
   | false=>exact again I7 rv q7
   | true =>
    refine thn (CI.elm pins _ _ _ _ _ s7 σ6 H7 _ I7 q7) fun yv s8 hq31=>?_
    obtain ⟨y,H8,I8,r8,q8⟩:=hq31
    obtain ⟨pD,nD,ncD,nfD,_⟩:=I8.pin (s2.heap.objs.size,{ cls:=.type "list", data:=.seq its.toArray c }) (List.mem_append_right _ (List.mem_append_left _ (List.mem_singleton.mpr rfl)))
    have hlen:=rv.length
    refine call_meets PySem.F.slot_list_append ⟨_,pD,rfl⟩ PySem.F.entry_list_append (PySem.F.args_list_append_2 _ _) (PySem.list_append s2.heap.objs.size its.toArray c yv (by rw [List.size_toArray]; omega)) ⟨pD,?_⟩
    have ef:its.toArray.push yv=(its++[yv]).toArray:=by simp
    obtain ⟨c',q⟩:∃c',(s8.heap.update s2.heap.objs.size (Obj.mapSeq fun xs=>xs.push yv)).get? s2.heap.objs.size=some { cls:=.type "list", data:=.seq (its++[yv]).toArray c' }:=⟨_,by rw [← ef]; exact PySem.IsL.update pD (fun xs=>xs.push yv)⟩
    have keepB:∀b o,b≠s2.heap.objs.size→s8.heap.get? b=some o→(s8.heap.update s2.heap.objs.size (Obj.mapSeq fun xs=>xs.push yv)).get? b=some o:=fun b o hb e=>(Heap.get?_update_other s8.heap _ (Ne.symm hb)).trans e
    have I9:Inv (cxC X pins scope own caps HH.objs.size fp s2 H2) (zaR fp s2'.heap) σ6 H8 s8:=I8.pins_of fun p hp=>I8.pin p (List.mem_append_right _ (List.mem_append_right _ hp))
    have I10:Inv (cxC X pins scope own caps HH.objs.size fp s2 H2) (zaR fp s2'.heap) σ6 H8 { s8 with heap:=s8.heap.update s2.heap.objs.size (Obj.mapSeq fun xs=>xs.push yv) }:=by
     refine I9.turned (t':=s8.toks) (it:=s2.heap.objs.size) keepB nD ncD (.inr (Nat.le_refl _)) (fun x c e=>(cl x c e).elim (fun e=>Nat.ne_of_lt (clX x c e)) fun e=>Nat.ne_of_gt (Nat.lt_of_le_of_lt hC e)) fun p hp=>?_
     rcases List.mem_append.mp hp with hp | hp
     ·exact pnD p hp
     ·exact hDfp _ (zcX hp).1
    refine again (its':=its++[yv]) (c':=c') (I10.pins_of fun p hp=>?_) (rv.append (.cons r8 .nil)) q8
    rcases List.mem_append.mp hp with hp | hp
    ·have e:=List.mem_singleton.mp hp
     subst e
     exact ⟨q,nD,ncD,nfD,fun v z=>by cases z⟩
    ·exact I10.pin p (List.mem_append_right _ hp)
 exact codeAny_compStart_list (loop _ rfl) (T.self _ 0 _ _ _ st4 (loop _ rfl))
theorem pe_comp (ok:CompOk X scope caps)(hc:X.calm=true)(hi:PI X tg iter wi)(CI:CompIn X scope own caps tg ifs elt g tt te)(hs:∀x,foldedSetIterable iter X.env x=pure x:=by intro _; rfl) :
  PE X (.ListComp elt [⟨tg,iter,ifs,0⟩] scope pos) (tComp wi g tt te own caps):=by
 intro pins s σ H Q I h
 rw [eval_ListComp]
 refine zcB (use:=none) ok hc hi CI I h (fun D C ys H' s1 m I1 nD q hn nC hCD hCL hCf hC0 hCc hCp=>?_) hs
 refine ⟨m,hn,fun h' hsb=>?_⟩
 have I2:Inv X pins σ (upd H' D (.lst ys)) { s1 with heap:=h' }:=I1.turned (t':=s1.toks) (it:=C) (fun b o hb e=>hsb.extBut b o hb e) (by rw [zV hCD]; exact nC) hCL (.inr hC0) hCc hCp
 exact ⟨.ref D,_,I2,rfl,q D nD⟩
noncomputable def sComp (j:Nat)(wi:TI)(g:TG)(tt:TT)(te:TE)(own:List Str)(caps:List Nat):TS:=fun E σ H=>wi σ H fun J H1=>zaG g tt te (zdp own caps σ) (fun ys H'=>∀D,H' D=none→E.nx (σ.set j (some (.ref D))) (upd H' D (.lst ys))) J H1
theorem ps_comp {j:Nat}{y:Str}{py spos:Pos}(hN:X.N.Nodup)(hj:X.N[j]? = some y)(hy:X.env.scope.names.lookup y=some .local)(ok:CompOk X scope caps)(hc:X.calm=true)(hi:PI X tg iter wi)(CI:CompIn X scope own caps tg ifs elt g tt te)
  (hsw:swapsWith (.ListComp elt [⟨tg,iter,ifs,0⟩] scope pos) (some (.Name y py)) spos.line X.env=pure true) (hs:∀x,foldedSetIterable iter X.env x=pure x:=by intro _; rfl) :
  PS X (.Assign [.Name y py] (.ListComp elt [⟨tg,iter,ifs,0⟩] scope pos) spos) (sComp j wi g tt te own caps):=by
 intro pins s σ H E I h
 rw [exec_Assign_Name_used _ _ _ _ hsw]
 refine wpAny_bind (wpAny_standAt (wpAny_bind ?_))
 show wpAny _ X.A (do let _ ← comprehension (.ListComp elt [⟨tg,iter,ifs,0⟩] scope pos) scope X.env _ (newList []) false (eval iter X.env) (some (assign (.Name y py) X.env))) _ _ s
 refine wpAny_bind (wpAny_mono (zcB (use:=some (assign (.Name y py) X.env)) (Qv:=fun _ s'=>SP X pins E .next s') ok hc hi CI I h (fun D C ys H' s1 m I1 nD q hn nC hCD hCL hCf hC0 hCc hCp=>?_) hs) (fun _ s' hq=>wpAny_pure (wpAny_pure hq)) fun _ _ e=>e)
 obtain ⟨oC,es,ep,eC,dC,rC⟩:=id hn
 have I2:Inv X (pins++[(C,oC)]) σ (upd H' D (.lst ys)) s1:=I1.pins_of fun p hp=>by
  rcases List.mem_append.mp hp with hp | hp
  ·exact I1.pin p (List.mem_append_right _ hp)
  ·have e:=List.mem_singleton.mp hp
   subst e
   exact ⟨eC,by rw [zV hCD]; exact nC,hCL,hCf,fun v z=>by rw [dC] at z; cases z⟩
 show wpAny _ X.A (assign (.Name y py) X.env (.ref D)) _ _ s1
 refine wpAny_assign_Name (zat (v:=.ref D) I2 hN hj (.inl hy) rfl (fun s2 I3=>?_) (.inr hy))
 obtain ⟨e3,n3,_⟩:=I3.pin (C,oC) (List.mem_append_right _ (List.mem_append_right _ (List.mem_singleton.mpr rfl)))
 have I4:Inv X pins (σ.set j (some (.ref D))) (upd H' D (.lst ys)) s2:=I3.pins_of fun p hp=>I3.pin p (List.mem_append_right _ (List.mem_append_left _ hp))
 refine ⟨m,⟨oC,es,ep,e3,dC,rC⟩,fun h' hsb=>?_⟩
 have I5:Inv X pins (σ.set j (some (.ref D))) (upd H' D (.lst ys)) { s2 with heap:=h' }:=I4.turned (t':=s2.toks) (it:=C) (fun b o hb e=>hsb.extBut b o hb e) n3 hCL (.inr hC0) hCc hCp
 exact ⟨_,_,I5,q D nD⟩
end
end L2
namespace L2
open PySem PySem.Spec PyProof.Rows
noncomputable def T (l:List Nat):Str:=⟨l.toArray⟩
theorem za8 (l:List Nat):(T l).cps.toList=l:=by simp [T]
theorem T_of (x:Str):T x.cps.toList=x:=by cases x; simp [T]
theorem jq (l:List Nat):(T l).length=l.length:=by simp [T,Str.length]
theorem T_app (l m:List Nat):T l++T m=T (l++m):=by
 show Str.append (T l) (T m)=_
 simp [Str.append,T]
theorem T_inj {l m:List Nat}(h:T l=T m):l=m:=by
 have:=congrArg (fun x:Str=>x.cps.toList) h
 simpa [T] using this
theorem T_beq (l m:List Nat):(T l == T m)=(l == m):=by
 rw [Bool.eq_iff_iff]
 simp only [beq_iff_eq]
 exact ⟨T_inj,congrArg T⟩
theorem vV {l:List Nat}(h:∀c∈l,c < 0x110000)(hl:l.length≤1000000):TxtOk (T l):=by
 refine ⟨?_,by rw [jq]; exact hl⟩
 show (T l).cps.all (· < 0x110000)=true
 simp only [T,List.all_toArray,List.all_eq_true,decide_eq_true_eq]
 exact h
theorem TxtOk.app {x y:Str}(hx:TxtOk x)(hy:TxtOk y)(hl:x.length + y.length≤1000000):TxtOk (x++y):=by
 obtain ⟨a,_⟩:=hx
 obtain ⟨b,_⟩:=hy
 refine ⟨?_,?_⟩
 ·have a':x.cps.all (· < 0x110000)=true:=a
  have b':y.cps.all (· < 0x110000)=true:=b
  show (x.cps++y.cps).all (· < 0x110000)=true
  rw [Array.all_append,a',b']; rfl
 ·show (x.cps++y.cps).size≤1000000
  rw [Array.size_append]; exact hl
theorem clip_nat (lo:Option Int)(n d:Nat)(hd:d≤n):(match lo with | none=>(d:Int) | some i=>max 0 (min (if i < 0 then i + (n:Int) else i) (n:Int)))=((HT.sIx n d lo:Nat):Int):=by
 cases lo with
 | none=>rfl
 | some i =>
  show max 0 (min (if i < 0 then i + (n:Int) else i) (n:Int))=(((if i < 0 then (i + (n:Int)).toNat else min i.toNat n):Nat):Int)
  split <;> omega
theorem slice_T (x:Str)(lo hi:Option Int):Txt.slice x lo hi=T ((x.cps.toList.drop (HT.sIx x.length 0 lo)).take (HT.sIx x.length x.length hi - HT.sIx x.length 0 lo)):=by
 have ha:HT.sIx x.length 0 lo≤x.length:=HT.sIx_le _ _ (Nat.zero_le _) lo
 have hb:HT.sIx x.length x.length hi≤x.length:=HT.sIx_le _ _ (Nat.le_refl _) hi
 have e:Builtin.Str.strSliceIndices lo hi 1 x.length=Builtin.Str.strSliceIndices (some ((HT.sIx x.length 0 lo:Nat):Int)) (some ((HT.sIx x.length x.length hi:Nat):Int)) 1 x.length:=by
  have h1:=clip_nat lo x.length 0 (Nat.zero_le _)
  have h2:=clip_nat hi x.length x.length (Nat.le_refl _)
  generalize HT.sIx x.length 0 lo=a at *
  generalize HT.sIx x.length x.length hi=b at *
  have k1:max 0 (min (if (a:Int) < 0 then (a:Int) + (x.length:Int) else (a:Int)) (x.length:Int))=(a:Int):=by split <;> omega
  have k2:max 0 (min (if (b:Int) < 0 then (b:Int) + (x.length:Int) else (b:Int)) (x.length:Int))=(b:Int):=by split <;> omega
  unfold Builtin.Str.strSliceIndices
  simp only [show (1:Int) > 0 by decide,if_true,k1,k2]
  cases lo <;> cases hi <;> simp only at h1 h2 ⊢ <;> first | rw [h1,h2] | (rw [← h1,← h2]; rfl)
 have e2:Txt.slice x lo hi=StrLaws.sliceText x (some ((HT.sIx x.length 0 lo:Nat):Int)) (some ((HT.sIx x.length x.length hi:Nat):Int)):=by
  unfold Txt.slice StrLaws.sliceText
  rw [e]
 rw [e2]
 by_cases hab:HT.sIx x.length 0 lo≤HT.sIx x.length x.length hi
 ·exact StrLaws.sliceText_nat x hab hb
 ·have hz:HT.sIx x.length x.length hi - HT.sIx x.length 0 lo=0:=by omega
  rw [hz,List.take_zero]
  generalize HT.sIx x.length 0 lo=a at *
  generalize HT.sIx x.length x.length hi=b at *
  have k1:max 0 (min (if (a:Int) < 0 then (a:Int) + (x.length:Int) else (a:Int)) (x.length:Int))=(a:Int):=by split <;> omega
  have k2:max 0 (min (if (b:Int) < 0 then (b:Int) + (x.length:Int) else (b:Int)) (x.length:Int))=(b:Int):=by split <;> omega
  have e3:Builtin.Str.strSliceIndices (some (a:Int)) (some (b:Int)) 1 x.length=[]:=by
   unfold Builtin.Str.strSliceIndices sliceRange
   simp only [show (1:Int) > 0 by decide,if_true,k1,k2]
   have:¬((b:Int) > (a:Int)):=by omega
   simp [this]
   try omega
  unfold StrLaws.sliceText
  rw [e3]
  simp only [List.length_nil,List.filterMap_nil]
  split
  ·rename_i h
   have hn:x.length=0:=by
    simp at h
    omega
   omega
  ·rfl
section
variable {X:Cx}{e:Expr}{te:TE}{pos p2:Pos}
noncomputable def rSlS:V→Option Int→Option Int→Hp→VK→Prop:=fun x lo hi H Q=>∃z,x=.str z∧z.length≤sizeLine∧Q (.str (T ((z.cps.toList.drop (HT.sIx z.length 0 lo)).take (HT.sIx z.length z.length hi - HT.sIx z.length 0 lo)))) H
theorem part_of {v:Value}{o:Option Int}(p:IsPart v o):∃q:Option (Int×Tok),v=partValue q∧q.map (·.1)=o:=by
 cases p with
 | none=>exact ⟨none,rfl,rfl⟩
 | int i t=>exact ⟨some (i,t),rfl,rfl⟩
theorem sl_str:SlR X rSlS:=by
 intro pins s σ H x v vl vu lo hi sl Q I rx hs pl pu h
 obtain ⟨z,rfl,hz,q⟩:=h
 obtain ⟨t,rfl⟩:=rx
 obtain ⟨l,rfl,rfl⟩:=part_of pl
 obtain ⟨u,rfl,rfl⟩:=part_of pu
 refine ⟨"str", _,PySem.F.slot_str_getitem.lookup,typeIs_str _ _ _,?_⟩
 refine wpAny_getItem_str_slice (l:=l) (u:=u) (st:=none) hs rfl ?_
 refine post_val_or_str (y:=z) ?_
 have e:=slice_T z (l.map (·.1)) (u.map (·.1))
 unfold Txt.slice at e
 refine ⟨Nat.le_trans (Txt.slice_le z (l.map (·.1)) (u.map (·.1))) hz,fun t' k=>⟨.str _,H,I.tok _,⟨t',?_⟩,q⟩⟩
 exact congrArg (fun y=>Value.str y t') e
noncomputable def Its (x:Str):It:=⟨fun i _=>i < x.cps.size,fun i H v H'=>H'=H∧∃c,x.cps.toList[i]? = some c∧v=.str (T [c]),fun i _=>x.cps.size≤i⟩
theorem turn_str {P:Program}{w:World}{K:PySem.W.Frag}{tg:Expr}{x:Str}{t:Tok}{ty:String}(it:Addr)(W:∀A':Around,A'.handled=none→Walks P w A' it [it] [it] x.cps.size (SignAt x) (fun i h=>h.IsStrIter it ty x t i))
  (hn:["enumerate", "zip", "dict_itemiterator", "dict_reverseitemiterator", "odict_iterator", "itertools.zip_longest", "itertools.pairwise"].contains ty=false)
  (hend:∀(A:Around) (i:Nat) (s:Shared) (Q:Option Value→Shared→Prop) (E:Value→Shared→Prop),A.handled=none→s.heap.IsStrIter it ty x t i→x.cps[i]? = none→(∀h',Heap.ExtBut it s.heap h'→Q none { s with heap:=h' })→wpAny (model P w) A (pyNext (.ref it)) Q E s)
  (hself:∀(A:Around) (i:Nat) (s:Shared) (Q:Value→Shared→Prop) (E:Value→Shared→Prop),s.heap.IsStrIter it ty x t i→Q (.ref it) s→wpAny (model P w) A (pyIter (.ref it)) Q E s) :
  Turn P w K tg (Its x) [it] it (fun i h=>h.IsStrIter it ty x t i) where
 mem:=by simp
 obj:=fun i h st b hb=>by
  have e:b=it:=by simpa using hb
  subst e
  obtain ⟨o,e,c,d⟩:=st
  exact ⟨o,e,fun v z=>by rw [d] at z; cases z⟩
 keep:=fun i h h' st k=>by obtain ⟨o,e,r⟩:=st; exact ⟨o,k it (by simp) o e,r⟩
 item:=by
  intro X hP hw hK hc i pins s σ H E I hf st hg
  subst hP hw hK
  obtain ⟨f0,f1,f2,f3,f4,f5⟩:=hf it (by simp)
  refine (W X.A (I.ok.hd hc)).item i s _ _ hg st fun v h' tk hv st' kk=>?_
  obtain ⟨c,u,hcc,rfl⟩:=hv
  have I1:Inv X pins σ H { s with heap:=h',toks:=tk }:=I.turned (fun b o hb e=>kk b o (by simpa using hb) e) f0 f1 f3 f4 f5
  obtain ⟨o,e,c1,d1⟩:=id st'
  exact ⟨_,rfl,go_of (s:={ s with heap:=h',toks:=tk }) e c1 d1 hn ⟨.str (T [c]),H,I1,⟨u,rfl⟩,⟨rfl,c,by simpa using hcc,rfl⟩,st',fun b hb=>(hf b hb).1⟩⟩
 done:=by
  intro X hP hw hK hc i pins s σ H E I hf st hg
  subst hP hw hK
  obtain ⟨f0,f1,f2,f3,f4,f5⟩:=hf it (by simp)
  have hge:x.cps.size≤i:=hg
  exact hend X.A i s _ _ (I.ok.hd hc) st (Array.getElem?_eq_none hge) fun h' eb=>⟨rfl,I.turned (t':=s.toks) (fun b o hb e=>eb b o hb e) f0 f1 f3 f4 f5⟩
 self:=fun A i s Q E st h=>hself A i s Q E st h
noncomputable def iStr (tl:TE):TI:=fun σ H R=>tl σ H fun v H1=>∃x,v=.str x∧R (Its x) H1
theorem pi_str {tg l:Expr}{tl:TE}(hl:PE X l tl):PI X tg l (iStr tl):=by
 intro pins s σ H R I h
 refine thn (hl pins s σ H _ I h) fun v s1 hq32=>?_
 obtain ⟨y,H1,I1,r1,q1⟩:=hq32
 obtain ⟨x,e,q⟩:=q1
 subst e
 obtain ⟨t,rfl⟩:=r1
 have fin:∀(ty:String) (T':Turn X.prog X.w X.K tg (Its x) [s1.heap.objs.size] s1.heap.objs.size (fun i h=>h.IsStrIter s1.heap.objs.size ty x t i)),
   PIE X pins σ tg R (.ref s1.heap.objs.size) { s1 with heap:=s1.heap.push { cls:=.type ty,data:=.fields #[.str x t,.int 0 0] } }:=fun ty T' =>
  ⟨s1.heap.objs.size,[s1.heap.objs.size],_,_,H1,rfl,I1.kept (t':=s1.toks) fun b o e=>Heap.get?_push_of_some _ e,T',⟨_,Heap.get?_push_size _ rfl,rfl,rfl⟩,fun b hb=>by
   have e:b=s1.heap.objs.size:=by simpa using hb
   subst e
   exact I1.fpOk (Nat.le_refl _) (I1.hok.fresh (Nat.le_refl _)),q⟩
 cases ha:x.cps.all (· < 128)
 ·exact wpAny_pyIter_wide ha (fin _ (turn_str _ (fun A' hA=>Walks.strWide hA _ x t) (by decide) (fun A i s Q E hh st hx hQ=>wpAny_pyNext_wide_end hh st hx hQ) fun A i s Q E st hq=>wpAny_pyIter_striter_wide st hq))
 ·exact wpAny_pyIter_ascii ha (fin _ (turn_str _ (fun A' hA=>Walks.strAscii hA _ x t) (by decide) (fun A i s Q E hh st hx hQ=>wpAny_pyNext_ascii_end hh st hx hQ) fun A i s Q E st hq=>wpAny_pyIter_striter_ascii st hq))
end
noncomputable def Wlk (J:It)(G:Hp→Prop)(xs:List V):Prop:=∀H,G H→(∀i,i < xs.length→J.go i H∧∀x H',J.yld i H x H'→H'=H∧xs[i]? = some x)∧J.stop xs.length H
theorem wlk_list {K:PySem.W.Frag}{a:Addr}{xs:List V}:Wlk (Itl K a) (fun H=>SqL K H a xs) xs:=fun H q =>
 ⟨fun i hi=>⟨⟨xs,xs[i],q,by simp [hi]⟩,fun x H' y=>⟨y.1,y.2 xs q⟩⟩,⟨xs,q,Nat.le_refl _⟩⟩
theorem wlk_tup {K:PySem.W.Frag}{a:Addr}{xs:List V}:Wlk (Itt K a) (fun H=>SqT K H a xs) xs:=fun H q =>
 ⟨fun i hi=>⟨⟨xs,xs[i],q,by simp [hi]⟩,fun x H' y=>⟨y.1,y.2 xs q⟩⟩,⟨xs,q,Nat.le_refl _⟩⟩
theorem wlk_range {lo:Int}{n:Nat}{G:Hp→Prop}:Wlk (Itr lo n) G ((List.range n).map fun (k:Nat)=>V.int (lo + (k:Int))):=fun H _=>by
 refine ⟨fun i hi=>⟨by show i < n; simpa using hi,fun x H' y=>⟨y.1,?_⟩⟩,?_⟩
 ·have hi':i < n:=by simpa using hi
  rw [y.2]; simp [hi']
 ·show n≤_; simp
theorem wlk_str {x:Str}{G:Hp→Prop}:Wlk (Its x) G (x.cps.toList.map fun c=>V.str (T [c])):=fun H _=>by
 refine ⟨fun i hi=>⟨by show i < x.cps.size; simpa using hi,fun v H' y=>⟨y.1,?_⟩⟩,?_⟩
 ·obtain ⟨_,c,hc,rfl⟩:=y
  rw [List.getElem?_map,hc]; rfl
 ·show x.cps.size≤_; simp
theorem for_wlk {J:It}{G:Hp→Prop}{xs:List V}(W:Wlk J G xs){g:TG}{tb:TS}{D:Ends}{σ:St}{H:Hp}(Pv:Nat→St→Hp→Prop)(h0:Pv 0 σ H)(hG:∀i σ H,i≤xs.length→Pv i σ H→G H)
  (hs:∀i x σ H,xs[i]? = some x→Pv i σ H→g x σ H fun σ2 H2=>tb { D with nx:=Pv (i + 1),ct:=Pv (i + 1),bk:=D.nx } σ2 H2) (hd:∀σ H,Pv xs.length σ H→D.nx σ H) :
  ∃ W:Nat→Nat→St→Hp→Prop,(∃m,W 0 m σ H)∧∀i m σ H,W i m σ H →
   (J.stop i H∧D.nx σ H)∨(J.go i H∧∃N:St→Hp→Prop,(∀σ' H',N σ' H'→∃m',m' < m∧W (i + 1) m' σ' H')∧∀x H',J.yld i H x H'→g x σ H' fun σ2 H2=>tb { D with nx:=N,ct:=N,bk:=D.nx } σ2 H2):=by
 refine ⟨fun i m σ H=>m=xs.length - i∧i≤xs.length∧Pv i σ H,⟨xs.length,by simp,Nat.zero_le _,h0⟩,?_⟩
 rintro i m σ H ⟨rfl,hi,p⟩
 obtain ⟨w1,w2⟩:=W H (hG i σ H hi p)
 by_cases hlt:i < xs.length
 ·obtain ⟨g1,g2⟩:=w1 i hlt
  refine .inr ⟨g1,Pv (i + 1),fun σ' H' p'=>⟨xs.length - (i + 1),by omega,rfl,hlt,p'⟩,fun x H' y=>?_⟩
  obtain ⟨e,hx⟩:=g2 x H' y
  subst e
  exact hs i x σ _ hx p
 ·have e:i=xs.length:=by omega
  subst e
  exact .inl ⟨w2,hd σ H p⟩
theorem turns_wlk {J:It}{G:Hp→Prop}{xs:List V}(W:Wlk J G xs)(hz:xs.length≤sizeLine){g:TG}{tt:TT}{te:TE}{σ0:St}{F:List V→Hp→Prop}{H1:Hp}(Pv:Nat→List V→Hp→Prop)(h0:Pv 0 [] H1)(hG:∀i ys H,i≤xs.length→Pv i ys H→G H∧ys.length≤i)
  (hs:∀i x ys H,xs[i]? = some x→Pv i ys H→g x σ0 H fun σ2 H2=>Kps σ0 σ2∧tt σ2 H2 fun b H3=>if b=true then te σ2 H3 fun y H4=>Pv (i + 1) (ys++[y]) H4 else Pv (i + 1) ys H3) (hd:∀ys H,Pv xs.length ys H→F ys H) :
  zaG g tt te σ0 F J H1:=by
 refine ⟨fun i m ys H=>m=xs.length - i∧i≤xs.length∧Pv i ys H,⟨xs.length,by simp,Nat.zero_le _,h0⟩,?_⟩
 rintro i m ys H ⟨rfl,hi,p⟩
 obtain ⟨gH,hl⟩:=hG i ys H hi p
 refine ⟨by omega,?_⟩
 obtain ⟨w1,w2⟩:=W H gH
 by_cases hlt:i < xs.length
 ·obtain ⟨g1,g2⟩:=w1 i hlt
  refine .inr ⟨g1,by omega,Pv (i + 1),fun ys' H' p'=>⟨xs.length - (i + 1),by omega,rfl,hlt,p'⟩,fun x H' y=>?_⟩
  obtain ⟨e,hx⟩:=g2 x H' y
  subst e
  exact hs i x ys _ hx p
 ·have e:i=xs.length:=by omega
  subst e
  exact .inl ⟨w2,hd ys H p⟩
theorem Kps.set {σ:St}{i:Nat}{v:V}(h:σ[i]? = some none):Kps σ (σ.set i (some v)):=by
 refine ⟨by simp,fun j u e=>?_⟩
 by_cases hj:i=j
 ·subst hj; rw [h] at e; cases e
 ·rw [List.getElem?_set_ne hj]; exact e
theorem Kps.trans {a b c:St}(h:Kps a b)(k:Kps b c):Kps a c:=⟨k.1.trans h.1,fun i v e=>k.2 i v (h.2 i v e)⟩
noncomputable def Gat (K:PySem.W.Frag)(H1:Hp)(e:Nat→PyData)(i:Nat)(ys:List V)(H:Hp):Prop:=Same H1 H∧Iss K H ys ((List.range i).map e)
theorem Gat.snoc {K:PySem.W.Frag}{H1 H H4:Hp}{e:Nat→PyData}{i:Nat}{ys:List V}{y:V}(h:Gat K H1 e i ys H)(sm:Same H H4)(is:Is K H4 y (e i)):Gat K H1 e (i + 1) (ys++[y]) H4:=by
 refine ⟨h.1.trans sm,?_⟩
 rw [List.range_succ,List.map_append]
 exact (h.2.mono sm).append (.cons is .nil)
noncomputable def GatF (K:PySem.W.Frag)(H1:Hp)(p:Nat→Bool)(e:Nat→PyData)(i:Nat)(ys:List V)(H:Hp):Prop:=Same H1 H∧Iss K H ys (((List.range i).filter p).map e)
theorem GatF.snoc {K:PySem.W.Frag}{H1 H H4:Hp}{p:Nat→Bool}{e:Nat→PyData}{i:Nat}{ys:List V}{y:V}(h:GatF K H1 p e i ys H)(hp:p i=true)(sm:Same H H4)(is:Is K H4 y (e i)):GatF K H1 p e (i + 1) (ys++[y]) H4:=by
 refine ⟨h.1.trans sm,?_⟩
 rw [List.range_succ,List.filter_append,List.map_append]
 refine (h.2.mono sm).append ?_
 simp only [List.filter_cons,hp,if_true,List.filter_nil,List.map_cons,List.map_nil]
 exact .cons is .nil
end L2
namespace L2
open PySem PySem.Spec PyProof.Rows
section
variable {X:Cx}
theorem old_ne {s:Shared}{b:Addr}{o:Obj}(e:s.heap.get? b=some o):b∉[s.heap.objs.size]:=fun z=>by
 have e':b=s.heap.objs.size:=by simpa using z
 subst e'
 exact absurd (Heap.lt_size e) (Nat.lt_irrefl _)
theorem zdB:∀{bs:List Bool}{us:List Value},Vals (bs.map V.bl) us→us=bs.map Value.bool
 | [],_,r=>by cases r; rfl
 | b::bs,_,r=>by
  cases r with
  | cons r t=>cases r; rw [zdB t]; rfl
theorem range_all {α:Type}(l:List α)(d:α)(p:α→Bool):(List.range l.length).all (fun i=>p (l.getD i d))=l.all p:=by
 have:(List.range l.length).map (fun i=>l.getD i d)=l:=range_getD l d
 conv=>rhs; rw [← this]
 rw [List.all_map]; rfl
theorem range_any {α:Type}(l:List α)(d:α)(p:α→Bool):(List.range l.length).any (fun i=>p (l.getD i d))=l.any p:=by
 have:(List.range l.length).map (fun i=>l.getD i d)=l:=range_getD l d
 conv=>rhs; rw [← this]
 rw [List.any_map]; rfl
theorem zaN {prog:Program}{w:World}{A:Around}(bs:List Bool):TruthOf prog w A (fun i v=>(bs.map Value.bool).toArray[i]? = some v) (fun i=>bs.getD i false):=by
 intro i v s Q E hP hQ
 have e:(bs.map Value.bool)[i]? = some v:=by simpa using hP
 rw [List.getElem?_map] at e
 cases hb:bs[i]? with
 | none=>rw [hb] at e; cases e
 | some b =>
  rw [hb] at e
  have e':v=Value.bool b:=(Option.some.inj e).symm
  subst e'
  have:bs.getD i false=b:=by rw [List.getD_eq_getElem?_getD,hb]; rfl
  have hQ':Q (bs.getD i false) s:=hQ
  rw [this] at hQ'
  exact wpAny_truthy_bool hQ'
theorem zch (hc:X.calm=true):qL X (.builtin "all") (fun xs H Q=>∃(a:Addr) (bs:List Bool),xs=[.ref a]∧SqL X.K H a (bs.map V.bl)∧Q (.bl (bs.all id)) H):=by
 intro pins s σ H xs us Q I r h
 obtain ⟨a,bs,rfl,ha,q⟩:=h
 obtain ⟨u,rfl,ru⟩:=vals1 r
 cases ru
 obtain ⟨its,rv,pl,hz⟩:=I.list ha
 obtain rfl:=zdB rv
 refine call_all_walk (wpAny_pyIter_list pl.isList ?_)
 have hlt:a < s.heap.objs.size:=by obtain ⟨_,_,e,_⟩:=pl; exact Heap.lt_size e
 refine ⟨_,_,_,_,_,_,fun i=>bs.getD i false,rfl,Walks.list (show X.A.in1.handled=none from I.ok.hd hc) s.heap.objs.size a (Nat.ne_of_lt hlt) _,⟨⟨_,Heap.get?_push_size _ rfl,rfl,rfl⟩,pl.isList.push _⟩,zaN bs,fun h' tk hk=>?_⟩
 refine ⟨.bl _,H,I.kept (h':=h') (t':=tk) fun b o e=>hk b o (old_ne e) (Heap.get?_push_of_some _ e),rfl,?_⟩
 have:(List.range ((bs.map Value.bool).toArray).size).all (fun i=>bs.getD i false)=bs.all id:=by
  rw [show ((bs.map Value.bool).toArray).size=bs.length by simp]
  exact range_all bs false id
 rw [this]
 exact q
theorem call_any (hc:X.calm=true):qL X (.builtin "any") (fun xs H Q=>∃(a:Addr) (bs:List Bool),xs=[.ref a]∧SqL X.K H a (bs.map V.bl)∧Q (.bl (bs.any id)) H):=by
 intro pins s σ H xs us Q I r h
 obtain ⟨a,bs,rfl,ha,q⟩:=h
 obtain ⟨u,rfl,ru⟩:=vals1 r
 cases ru
 obtain ⟨its,rv,pl,hz⟩:=I.list ha
 obtain rfl:=zdB rv
 refine call_any_walk (wpAny_pyIter_list pl.isList ?_)
 have hlt:a < s.heap.objs.size:=by obtain ⟨_,_,e,_⟩:=pl; exact Heap.lt_size e
 refine ⟨_,_,_,_,_,_,fun i=>bs.getD i false,rfl,Walks.list (show X.A.in1.handled=none from I.ok.hd hc) s.heap.objs.size a (Nat.ne_of_lt hlt) _,⟨⟨_,Heap.get?_push_size _ rfl,rfl,rfl⟩,pl.isList.push _⟩,zaN bs,fun h' tk hk=>?_⟩
 refine ⟨.bl _,H,I.kept (h':=h') (t':=tk) fun b o e=>hk b o (old_ne e) (Heap.get?_push_of_some _ e),rfl,?_⟩
 have:(List.range ((bs.map Value.bool).toArray).size).any (fun i=>bs.getD i false)=bs.any id:=by
  rw [show ((bs.map Value.bool).toArray).size=bs.length by simp]
  exact range_any bs false id
 rw [this]
 exact q
theorem jE:∀{ss:List Str}{us:List Value},Vals (ss.map V.str) us→StrsAre us ss
 | [],_,r=>by cases r; exact .nil
 | x::ss,_,r=>by
  cases r with
  | cons r t=>obtain ⟨u,rfl⟩:=r; exact .cons _ _ (jE t)
theorem glued_T (ls:List (List Nat)):Txt.join (T []) (ls.map T)=T ls.flatten:=by
 have key:∀(ls:List (List Nat)) (acc:Array Nat),(ls.map T).foldl (fun acc p=>acc++(T []).cps++p.cps) acc=acc++ls.flatten.toArray:=by
  intro ls
  induction ls with
  | nil=>intro acc; simp
  | cons l r ih =>
   intro acc
   rw [List.map_cons,List.foldl_cons,ih]
   simp [T]
 show (⟨((ls.map T).drop 1).foldl (fun acc p=>acc++(T []).cps++p.cps) ((ls.map T).headD Str.empty).cps⟩:Str)=_
 cases ls with
 | nil=>rfl
 | cons l r =>
  simp only [List.map_cons,List.drop_succ_cons,List.drop_zero,List.headD_cons]
  rw [key]
  simp [T]
noncomputable def rJoin (K:PySem.W.Frag):V→List V→Hp→VK→Prop:=fun x vs H Q=>∃(a:Addr) (ls:List (List Nat)),x=.str (T [])∧vs=[.ref a]∧SqL K H a (ls.map fun l=>V.str (T l))∧ls.flatten.length≤1000000∧Q (.str (T ls.flatten)) H
theorem mt_join:MtR X "str.join" (rJoin X.K):=by
 intro pins s σ H x xs v us Q I rx rs h
 obtain ⟨a,ls,rfl,rfl,ha,hz,q⟩:=h
 obtain ⟨t,rfl⟩:=rx
 obtain ⟨u,rfl,ru⟩:=vals1 rs
 cases ru
 obtain ⟨its,rv,pl,hsz⟩:=I.list ha
 have rv':Vals ((ls.map T).map V.str) its:=by rw [List.map_map]; exact rv
 have hlen:((ls.map T).map (·.length)).sum=ls.flatten.length:=by
  rw [List.map_map,List.length_flatten]
  exact congrArg List.sum (List.map_congr_left fun l _=>jq l)
 refine join_list pl.isList (by simpa using jE rv') ?_ fun t' k=>?_
 ·rw [hlen,jq]
  simp only [List.length_nil,Nat.mul_zero,Nat.add_zero]
  exact Nat.le_trans hz (by decide)
 ·rw [glued_T]
  exact ⟨.str _,H,I.tok _,⟨_,rfl⟩,q⟩
theorem starts_T (l m:List Nat):Txt.startswith (T l) (T m)=m.isPrefixOf l:=by
 unfold Txt.startswith
 rw [StrLaws.subAt_eq,za8,za8,jq,jq,List.drop_zero,Nat.zero_add]
 rw [Bool.eq_iff_iff,Bool.and_eq_true]
 simp only [decide_eq_true_eq,beq_iff_eq]
 rw [List.isPrefixOf_iff_prefix]
 constructor
 ·rintro ⟨h1,h2⟩
  rw [← h2]; exact List.take_prefix _ _
 ·intro h
  exact ⟨h.length_le,(List.prefix_iff_eq_take.mp h).symm⟩
noncomputable def rStarts:V→List V→Hp→VK→Prop:=fun x vs H Q=>∃l m,x=.str (T l)∧vs=[.str (T m)]∧Q (.bl (m.isPrefixOf l)) H
theorem mt_starts:MtR X "str.startswith" rStarts:=by
 intro pins s σ H x xs v us Q I rx rs h
 obtain ⟨l,m,rfl,rfl,q⟩:=h
 obtain ⟨t,rfl⟩:=rx
 obtain ⟨u,rfl,ru⟩:=vals1 rs
 obtain ⟨t',rfl⟩:=ru
 refine SC.startswith ?_
 rw [starts_T]
 exact ⟨.bl _,H,I,rfl,q⟩
noncomputable def rInC:R2:=fun x y H Q=>∃c l,x=.str (T [c])∧y=.str (T l)∧Q (.bl (decide (c∈l))) H
theorem op_inC:OpR X (compareOp .In) rInC:=by
 intro pins s σ H x y v u Q I rx ry h
 obtain ⟨c,l,rfl,rfl,q⟩:=h
 obtain ⟨t,rfl⟩:=rx
 obtain ⟨t',rfl⟩:=ry
 refine in_str (fin_bl I q ?_)
 have e:=StrLaws.found_one (T l) c
 rw [za8] at e
 exact e.symm
theorem vG:OpR X (binaryOp .Add) (fun x y H Q=>∃l m,x=.str (T l)∧y=.str (T m)∧l.length + m.length≤1000000∧Q (.str (T (l++m))) H):=by
 intro pins s σ H x y v u Q I rx ry h
 obtain ⟨l,m,rfl,rfl,hz,q⟩:=h
 refine op_add_str pins s σ H _ _ v u Q I rx ry ⟨_,_,rfl,rfl,?_,?_⟩
 ·rw [jq,jq]
  first | omega | exact Nat.le_trans hz (by decide)
 ·rw [T_app]; exact q
noncomputable def Sm (i:Int):Prop:=i.natAbs < 2 ^ 4000
theorem Sm.log {i:Int}(h:Sm i):i.natAbs.log2 < 4000:=by
 by_cases h0:i.natAbs=0
 ·rw [h0]; decide +kernel
 ·exact (Nat.log2_lt h0).mpr h
theorem jk:OpR X (binaryOp .Mult) (rI (fun i j=>Sm i∧Sm j) fun i j=>.int (i * j)):=opI fun i j _ _ _ _ _ hc q=>mul_int q (by
 obtain ⟨h1,h2⟩:=hc
 have a:=h1.log
 have b:=h2.log
 unfold IntMulOk
 intro z
 rw [Bool.and_eq_true] at z
 have z2:Builtin.Int.intTooBig ((Builtin.Int.intBits i:Int) + (Builtin.Int.intBits j:Int))=true:=by first | exact z.2 | exact_mod_cast z.2
 unfold Builtin.Int.intTooBig at z2
 have e1:Builtin.Int.intBits i≤4001:=by unfold Builtin.Int.intBits; split <;> omega
 have e2:Builtin.Int.intBits j≤4001:=by unfold Builtin.Int.intBits; split <;> omega
 have hb:((bitsLine:Nat):Int)≥10000:=by decide
 have:=of_decide_eq_true z2
 omega)
theorem jo:OpR X (binaryOp .FloorDiv) (rI (fun _ j=>0 < j∧Sm j) fun i j=>.int (i / j)):=opI fun i j _ _ _ _ _ hc q=>by
 obtain ⟨h1,h2⟩:=hc
 refine floordiv_int (by omega) ?_ (.inl (PyProof.noPylong_of_log2 (by have:=h2.log; omega)))
 rw [Int.fdiv_eq_ediv_of_nonneg i (by omega)]
 exact q
theorem Same.upd {H:Hp}{p:Addr}{o:HO}(h:H p=none):Same H (upd H p o):=fun b u e=>by rw [zV (yM e h)]; exact e
theorem KV_nil:KV ([]:List (Key×V)) ([]:List (Key×Value)):=.nil
theorem zP {a b:Nat}(h:a < b∨b < a):(a:Addr)≠(b:Addr):=by
 rcases h with h | h
 ·exact Nat.ne_of_lt h
 ·exact Nat.ne_of_gt h
end
end L2
namespace L2
open PySem PySem.Spec PyProof.Rows
noncomputable def tyN:PyData→String
 | .none => "NoneType" | .bool _ => "bool" | .int _ => "int" | .str _ => "str" | .list _ => "list" | .tuple _ => "tuple" | .dict _ => "dict"
theorem kit_int {K:PySem.W.Frag}(d:PyData):PySem.W.kitOne K (.type (tyN d)) (.type "int")=some (match d with | .int _=>true | .bool _=>true | _=>false):=by cases d <;> rfl
theorem kit_bool {K:PySem.W.Frag}(d:PyData):PySem.W.kitOne K (.type (tyN d)) (.type "bool")=some (match d with | .bool _=>true | _=>false):=by cases d <;> rfl
theorem kit_str {K:PySem.W.Frag}(d:PyData):PySem.W.kitOne K (.type (tyN d)) (.type "str")=some (match d with | .str _=>true | _=>false):=by cases d <;> rfl
theorem kit_tuple {K:PySem.W.Frag}(d:PyData):PySem.W.kitOne K (.type (tyN d)) (.type "tuple")=some (match d with | .tuple _=>true | _=>false):=by cases d <;> rfl
section
variable {X:Cx}
theorem zcy:qL X (.builtin "isinstance") (fun xs H Q=>∃x d n b,xs=[x,.ty n]∧Is X.K H x d∧PySem.W.kitOne X.K (.type (tyN d)) (.type n)=some b∧Q (.bl b) H):=by
 intro pins s σ H xs us Q I r h
 obtain ⟨x,d,n,b,rfl,is,e,q⟩:=h
 obtain ⟨u,u2,rfl,ru,r2⟩:=vals2 r
 cases r2
 have fin:∀tk,EP X pins σ Q (.bool b) { s with toks:=tk }:=fun tk=>⟨.bl b,H,I.tok _,rfl,q⟩
 cases is with
 | non=>cases (show u=Value.none from ru); exact PySem.W.kia_one PySem.W.kitx_none I.kIn True.intro e (fun z=>nomatch z) fin
 | bl y=>cases (show u=Value.bool y from ru); exact PySem.W.kia_one PySem.W.kitx_bool I.kIn True.intro e (fun z=>nomatch z) fin
 | int i=>obtain ⟨t,q'⟩:=(show ∃t,u=Value.int i t from ru); cases q'; exact PySem.W.kia_one PySem.W.kitx_int I.kIn True.intro e (fun z=>nomatch z) fin
 | str y=>obtain ⟨t,q'⟩:=(show ∃t,u=Value.str y t from ru); cases q'; exact PySem.W.kia_one PySem.W.kitx_str I.kIn True.intro e (fun z=>nomatch z) fin
 | @lst a xs ds q1 q2 =>
  cases (show u=Value.ref a from ru)
  obtain ⟨its,_,⟨o,n',e1,hc,_⟩,_⟩:=I.list q1
  exact PySem.W.kia_one PySem.W.kitx_list I.kIn ⟨o,e1,hc⟩ e (fun z=>nomatch z) fin
 | @tup a xs ds q1 q2 =>
  cases (show u=Value.ref a from ru)
  obtain ⟨its,_,⟨o,e1,hc,_⟩,_⟩:=I.tuple q1
  exact PySem.W.kia_one PySem.W.kitx_tuple I.kIn ⟨o,e1,hc⟩ e (fun z=>nomatch z) fin
end
end L2
namespace L2
open PySem PySem.Spec PyProof.Rows
noncomputable def compChk (fs:Scope)(N:List Str)(scope:Scope)(caps:List Nat):Bool :=
 (scope.kind == .function)&&(scope.names.all fun y=>y.2 != .cell || scope.names.lookup y.1 == some .cell)&&(scope.names.all fun y=>y.2 != .local || scope.names.lookup y.1 == some .local) &&
 (scope.names.all fun y=>y.2 != .free || fs.names.lookup y.1 == some .cell || fs.names.lookup y.1 == some .free) &&
 (caps.all fun i=>match N[i]? with | some y=>scope.names.lookup y == some .free | none=>false)
theorem yJ {X:Cx}{fs scope:Scope}{N:List Str}{caps:List Nat}(hs:X.env.scope=fs)(hN:X.N=N)(h:compChk fs N scope caps=true):CompOk X scope caps:=by
 unfold compChk at h
 simp only [Bool.and_eq_true,List.all_eq_true] at h
 obtain ⟨⟨⟨⟨h1,h2⟩,h3⟩,h4⟩,h5⟩:=h
 refine ⟨by simpa using h1,fun y hy e=>?_,fun y hy e=>?_,fun y hy e=>?_,fun i hi=>?_⟩
 ·have:=h2 y hy
  rw [e] at this
  simpa using this
 ·have:=h3 y hy
  rw [e] at this
  simpa using this
 ·have:=h4 y hy
  rw [e] at this
  unfold Env.kindOf
  rw [hs]
  simpa using this
 ·have:=h5 i hi
  rw [hN]
  cases e:N[i]? with
  | none=>rw [e] at this; simp at this
  | some y=>rw [e] at this; exact ⟨y,rfl,by simpa using this⟩
theorem uf {X:Cx}{N:List Str}(h:X.N=N)(n:N.Nodup):X.N.Nodup:=h ▸ n
structure Dn (K:PySem.W.Frag)(mg:Str→Option Value)(x:Str)(st:Stmt)(ps:List Str) where
 f:Addr
 fd:FuncData
 fn:Fun K x x st f fd
 mg:mg x=some (.ref f)
 bd:Binds K fd ps []
end L2
namespace L2
open PySem PySem.Spec PyProof.Rows
section
variable {X:Cx}{pins:List (Addr×Obj)}{σ:St}{H:Hp}{s:Shared}{h':Heap}
theorem Inv.turnedL {t':Nat}{fp:List Addr}(I:Inv X pins σ H s)(k:∀b o,b∉fp→s.heap.get? b=some o→h'.get? b=some o)(hf:∀b∈fp,FpOk X pins H b):Inv X pins σ H { s with heap:=h',toks:=t' }:=by
 have nit:∀b u,H b=some u→b∉fp:=fun b u e z=>by rw [(hf b z).1] at e; cases e
 have nl:X.env.locals∉fp:=fun z=>(hf _ z).2.1 rfl
 refine I.step (g':=s.gens) (d':=s.drawn) (ch:=fp) (fun b hb=>?_) (fun b o _ _ hc e _=>k b o hc e) (fun b o _ _ hc e _=>⟨o.slots,k b o hc e⟩) (fun _ _ _ _ n=>n)
  (fun b o hc e=>⟨o,k b o hc e⟩) (fun _ _ e=>e) (fun _ _ _ e=>e) (fun b ps e=>⟨#[],by rw [e]; simp⟩) (fun m hm=>?_) (fun b u e=>?_) I.bare
 ·obtain ⟨_,f1,_,f3,f4,f5⟩:=hf b hb
  exact ⟨f3,f1,f4,f5⟩
 ·obtain ⟨o,es,ep,ho,r⟩:=hm
  exact ⟨o,es,ep,k _ o nl ho,r⟩
 ·refine (I.hok b u e).stay (fun c v hc q=>k c v ?_ q) (fun _ q=>q) fun _ _ q=>q
  rcases hc with z | z
  ·rw [z]; exact nit b u e
  ·exact nit c _ z
end
noncomputable def Itz (K:PySem.W.Frag)(l1 l2:Addr)(xs ys:List V):It :=
 ⟨fun i H=>SqT K H l1 xs∧SqT K H l2 ys∧i < min xs.length ys.length,fun i H v H'=>∃p x y,H p=none∧xs[i]? = some x∧ys[i]? = some y∧v=.ref p∧H'=upd H p (.tup [x,y]),fun i H=>SqT K H l1 xs∧SqT K H l2 ys∧min xs.length ys.length≤i⟩
noncomputable def tnZ (n l1 l2:Nat)(i:Nat)(h:Heap):Prop:=∃a b f1,Zp.IsZipF h (n + 4:Nat) (n + 2:Nat) (n + 3:Nat) .none f1∧IsPair h (n + 2:Nat) (.ref n) (.ref (n + 1:Nat))∧IsPair h (n + 3:Nat) a b∧h.IsTupleIter n l1 i∧h.IsTupleIter (n + 1:Nat) l2 i
theorem zApart (n:Nat):Zp.Apart (n + 4:Nat) (n + 2:Nat) (n + 3:Nat) n (n + 1:Nat) :=
 ⟨zP (by omega),zP (by omega),zP (by omega),zP (by omega),zP (by omega),zP (by omega),zP (by omega),zP (by omega),zP (by omega),zP (by omega)⟩
noncomputable def fpZ (n:Nat):List Addr:=[(n + 4:Nat),(n + 2:Nat),(n + 3:Nat),n,(n + 1:Nat)]
theorem turn_zip {P:Program}{w:World}{K:PySem.W.Frag}{elts:List Expr}{k:Nat}{pos:Pos}{n l1 l2:Nat}(h1:l1 < n)(h2:l2 < n)(xs ys:List V) :
  Turn P w K (.Tuple elts k pos) (Itz K l1 l2 xs ys) (fpZ n) (n + 4:Nat) (tnZ n l1 l2) where
 mem:=by simp [fpZ]
 obj:=fun i h ⟨a,b,f1,z1,z2,z3,z4,z5⟩ c hc=>by
  simp only [fpZ,List.mem_cons,List.mem_nil_iff,or_false] at hc
  rcases hc with rfl | rfl | rfl | rfl | rfl
  ·exact ⟨_,z1,fun v z=>by cases z⟩
  ·exact ⟨_,z2,fun v z=>by cases z⟩
  ·exact ⟨_,z3,fun v z=>by cases z⟩
  ·obtain ⟨o,e,c,d⟩:=z4; exact ⟨o,e,fun v z=>by rw [d] at z; cases z⟩
  ·obtain ⟨o,e,c,d⟩:=z5; exact ⟨o,e,fun v z=>by rw [d] at z; cases z⟩
 keep:=fun i h h' ⟨a,b,f1,z1,z2,z3,z4,z5⟩ kk=>by
  refine ⟨a,b,f1,kk _ (by simp [fpZ]) _ z1,kk _ (by simp [fpZ]) _ z2,kk _ (by simp [fpZ]) _ z3,z4.at fun o e=>kk _ (by simp [fpZ]) o e,z5.at fun o e=>kk _ (by simp [fpZ]) o e⟩
 item := by
  intro X hP hw hK hc i pins s σ H E I hf st hg
  subst hP hw hK
  obtain ⟨q1,q2,hi⟩:=hg
  obtain ⟨its1,rv1,pl1,_⟩:=I.tuple q1
  obtain ⟨its2,rv2,pl2,_⟩:=I.tuple q2
  have i1:i < xs.length:=by omega
  have i2:i < ys.length:=by omega
  obtain ⟨u1,hu1,ru1⟩:=rv1.get (List.getElem?_eq_getElem i1)
  obtain ⟨u2,hu2,ru2⟩:=rv2.get (List.getElem?_eq_getElem i2)
  obtain ⟨a,b,f1,z1,z2,z3,z4,z5⟩:=st
  have p1:s.heap.IsTuple l1 its1.toArray:=pl1
  have p2:s.heap.IsTuple l2 its2.toArray:=pl2
  have n1:(l1:Addr)≠(n:Addr):=zP (.inl h1)
  have n2:(l2:Addr)≠((n + 1:Nat):Addr):=zP (by omega)
  have hT:s.TypeIs (.ref ((n + 4:Nat):Addr)) "zip" := ⟨_,z1,rfl⟩
  unfold pyNext
  refine wpAny_bind (wpAny_attempt (wpAny_callSpecial?_slot (name:=Str.ofString "__next__") hT PySem.F.slot_zip_next
   (wpAny_call_entry PySem.F.slot_zip_next hT PySem.F.entry_zip_next ?_ (PySem.F.args_zip_next_1 _))))
  have D:=zApart n
  have lz1:(l1:Addr)≠((n + 4:Nat):Addr):=zP (by omega)
  have lz2:(l2:Addr)≠((n + 4:Nat):Addr):=zP (by omega)
  have lo1:(l1:Addr)≠((n + 3:Nat):Addr):=zP (by omega)
  have lo2:(l2:Addr)≠((n + 3:Nat):Addr):=zP (by omega)
  have l12:(l1:Addr)≠((n + 1:Nat):Addr):=zP (by omega)
  have l21:(l2:Addr)≠(n:Addr):=zP (by omega)
  obtain ⟨o1,e1,r1⟩:=id z4
  obtain ⟨o2,e2,r2⟩:=id z5
  obtain ⟨o3,e3,r3⟩:=id p1
  obtain ⟨o4,e4,r4⟩:=id p2
  have Y1:=Zp.yields_tuple (prog:=X.prog) (w:=X.w) (A:=X.A.in1) (items:=its1.toArray) (i:=i) (x:=u1) n1 (by simpa using hu1)
  have Y2:=Zp.yields_tuple (prog:=X.prog) (w:=X.w) (A:=X.A.in1) (items:=its2.toArray) (i:=i) (x:=u2) n2 (by simpa using hu2)
  refine Zp.next_item D z1 z2 z3 Y1 Y2 ?_ ?_ ?_ ?_ ?_
  ·exact fun h' kk=>⟨⟨o1,kk _ _ D.i1z e1,r1⟩,o3,kk _ _ lz1 e3,r3⟩
  ·exact fun h' kk=>⟨⟨o2,kk _ _ D.i2z D.TOi2.symm D.i12.symm e2,r2⟩,o4,kk _ _ lz2 lo2 l21 e4,r4⟩
  ·exact fun h h' ⟨⟨p1,q1,w1⟩,p2,q2,w2⟩ kk=>⟨⟨p1,kk _ _ D.i1z D.TOi1.symm D.i12 q1,w1⟩,p2,kk _ _ lz1 lo1 l12 q2,w2⟩
  ·exact fun h h' ⟨⟨p1,q1,w1⟩,p2,q2,w2⟩ kk=>⟨⟨p1,kk _ _ D.i2z D.TOi2.symm q1,w1⟩,p2,kk _ _ lz2 lo2 q2,w2⟩
  ·rintro v1 v2 h' tk rfl rfl z' to' s1 s2 hp hsz kk
   refine wpAny_pure ⟨_,rfl,?_⟩
   refine wpAny_letOwnedTupleGo_zip (s:={ s with heap:=h',toks:=tk }) z' fun h2 zz sb=>?_
   have nz:∀c:Addr,c=s.heap.objs.size→c∉fpZ n:=fun c e hc=>by
    have:=(hf c hc).1
    obtain ⟨o,ho,_⟩:∃o,s.heap.get? c=some o∧True:=by
     simp only [fpZ,List.mem_cons,List.mem_nil_iff,or_false] at hc
     rcases hc with rfl | rfl | rfl | rfl | rfl
     ·exact ⟨_,z1,trivial⟩
     ·exact ⟨_,z2,trivial⟩
     ·exact ⟨_,z3,trivial⟩
     ·exact ⟨_,e1,trivial⟩
     ·exact ⟨_,e2,trivial⟩
    rw [e] at ho
    exact absurd (Heap.lt_size ho) (Nat.lt_irrefl _)
   have szz:s.heap.objs.size≠((n + 4:Nat):Addr):=fun e=>nz _ rfl (by rw [e]; simp [fpZ])
   have I1:Inv X pins σ H { s with heap:=h2,toks:=tk }:=I.turnedL (fp:=fpZ n) (fun c o hc e=>by
    have hc':c≠((n + 4:Nat):Addr)∧c≠((n + 2:Nat):Addr)∧c≠((n + 3:Nat):Addr)∧c≠(n:Addr)∧c≠((n + 1:Nat):Addr):=by
     simpa [fpZ] using hc
    exact sb.extBut _ _ hc'.1 (kk c o hc'.1 hc'.2.2.1 hc'.2.2.2.1 hc'.2.2.2.2 e)) hf
   have hfree:H s.heap.objs.size=none:=I.hok.fresh (Nat.le_refl _)
   have hpair:h2.get? s.heap.objs.size=some { cls:=.type "tuple", data:=.seq #[v1,v2] }:=sb.extBut _ _ szz hp
   have I2:Inv X pins σ (upd H s.heap.objs.size (.tup [xs[i],ys[i]])) { s with heap:=h2,toks:=tk }:=I1.track hfree (.inr I.sz) (Nat.ne_of_gt I.lt) (fun x c e=>by
     obtain ⟨v,o,ho,_⟩:=I.cell x c e
     exact Nat.ne_of_lt (Heap.lt_size ho)) (fun p hp=>Nat.ne_of_lt (Heap.lt_size (I.pin p hp).1))
    ⟨by show 2≤sizeLine; decide,[v1,v2],.cons ru1 (.cons ru2 .nil),_,hpair,rfl,⟨_,rfl⟩,rfl⟩
   refine ⟨.ref s.heap.objs.size,_,I2,rfl,⟨_,_,_,hfree,List.getElem?_eq_getElem i1,List.getElem?_eq_getElem i2,rfl,rfl⟩,⟨v1,v2,.bool false,zz,sb.extBut _ _ D.TIz (kk _ _ D.TIz D.TITO D.TIi1 D.TIi2 z2),sb.extBut _ _ D.TOz to',?_,?_⟩,fun b hb=>?_⟩
   ·obtain ⟨⟨p1,q1,w1⟩,_⟩:=s1; exact ⟨p1,sb.extBut _ _ D.i1z q1,w1⟩
   ·obtain ⟨⟨p1,q1,w1⟩,_⟩:=s2; exact ⟨p1,sb.extBut _ _ D.i2z q1,w1⟩
   ·rw [zV (fun e=>nz b e hb)]
    exact (hf b hb).1
 done:=by
  intro X hP hw hK hc i pins s σ H E I hf st hg
  subst hP hw hK
  obtain ⟨q1,q2,hi⟩:=hg
  obtain ⟨its1,rv1,pl1,_⟩:=I.tuple q1
  obtain ⟨its2,rv2,pl2,_⟩:=I.tuple q2
  obtain ⟨a,b,f1,z1,z2,z3,z4,z5⟩:=st
  have p1:s.heap.IsTuple l1 its1.toArray:=pl1
  have p2:s.heap.IsTuple l2 its2.toArray:=pl2
  have n1:(l1:Addr)≠(n:Addr):=zP (.inl h1)
  have hT:s.TypeIs (.ref ((n + 4:Nat):Addr)) "zip" := ⟨_,z1,rfl⟩
  have D:=zApart n
  have lz1:(l1:Addr)≠((n + 4:Nat):Addr):=zP (by omega)
  have lz2:(l2:Addr)≠((n + 4:Nat):Addr):=zP (by omega)
  have lo2:(l2:Addr)≠((n + 3:Nat):Addr):=zP (by omega)
  have l21:(l2:Addr)≠(n:Addr):=zP (by omega)
  obtain ⟨o1,e1,r1⟩:=id z4
  obtain ⟨o2,e2,r2⟩:=id z5
  obtain ⟨o3,e3,r3⟩:=id p1
  obtain ⟨o4,e4,r4⟩:=id p2
  have hh:=I.ok.hd hc
  have len1:=rv1.length
  have zbx:=rv2.length
  have hend':Zp.Ends X.prog X.w X.A.in1 (n:Addr) (fun h=>h.IsTupleIter n l1 i∧h.IsTuple l1 its1.toArray)∨(Zp.Yields X.prog X.w X.A.in1 (n:Addr) (fun h=>h.IsTupleIter n l1 i∧h.IsTuple l1 its1.toArray) (fun _=>True) (fun _=>True)∧Zp.Ends X.prog X.w X.A.in1 ((n + 1:Nat):Addr) (fun h=>h.IsTupleIter (n + 1:Nat) l2 i∧h.IsTuple l2 its2.toArray)):=by
   cases hx:its1[i]? with
   | none=>exact .inl (Zp.ends_tuple hh (by simpa using hx))
   | some c =>
    have h1':=(List.getElem?_eq_some_iff.mp hx).1
    refine .inr ⟨fun s Q E g hQ=>Zp.yields_tuple n1 (by simpa using hx) s Q E g fun v h' tk _ _ sb=>hQ v h' tk trivial trivial sb,Zp.ends_tuple hh ?_⟩
    have:its2.length≤i:=by omega
    simpa using this
  unfold pyNext
  refine wpAny_bind (wpAny_attempt (wpAny_callSpecial?_slot (name:=Str.ofString "__next__") hT PySem.F.slot_zip_next
   (wpAny_call_entry PySem.F.slot_zip_next hT PySem.F.entry_zip_next (Zp.next_end D z1 z2 z3 hend' ?_ ?_ ?_) (PySem.F.args_zip_next_1 _))))
  ·exact fun h' kk=>⟨⟨o1,kk _ _ D.i1z e1,r1⟩,o3,kk _ _ lz1 e3,r3⟩
  ·exact fun h' kk=>⟨⟨o2,kk _ _ D.i2z D.TOi2.symm D.i12.symm e2,r2⟩,o4,kk _ _ lz2 lo2 l21 e4,r4⟩
  ·intro h' tk e kk he
   obtain ⟨o,ho,hc⟩:=he
   refine wpAny_bind (wpAny_isInstance (T := "StopIteration") (b:=true) ⟨o,ho,hc⟩ isSubtype_stop ?_)
   refine wpAny_pure ⟨rfl,I.turnedL (fp:=fpZ n) (fun c o hc e=>?_) hf⟩
   have hc':c≠((n + 4:Nat):Addr)∧c≠((n + 2:Nat):Addr)∧c≠((n + 3:Nat):Addr)∧c≠(n:Addr)∧c≠((n + 1:Nat):Addr):=by
    simpa [fpZ] using hc
   exact kk c o hc'.1 hc'.2.2.1 hc'.2.2.2.1 hc'.2.2.2.2 e
 self:=fun A i s Q E ⟨a,b,f1,z1,z2,z3,z4,z5⟩ h=>by
  have hT:s.TypeIs (.ref ((n + 4:Nat):Addr)) "zip" := ⟨_,z1,rfl⟩
  refine wpAny_pyIter_slot hT PySem.F.slot_zip_iter (wpAny_call_entry PySem.F.slot_zip_iter hT PySem.F.entry_zip_iter ?_ (PySem.F.args_zip_iter_1 _))
  show wpAny _ _ (ret (.ref ((n + 4:Nat):Addr))) _ _ s
  exact wpAny_pure ⟨_,rfl, "zip", _,hT,PySem.F.slot_zip_next.lookup,h⟩
noncomputable def iZip (K:PySem.W.Frag)(ta tb:TE):TI:=fun σ H R=>zal ta (zal tb tNil) σ H fun vs H1=>∃l1 l2 xs ys,vs=[.ref l1,.ref l2]∧SqT K H1 l1 xs∧SqT K H1 l2 ys∧R (Itz K l1 l2 xs ys) H1
section
variable {X:Cx}
theorem pi_ziptt {elts:List Expr}{k:Nat}{tpos:Pos}{a b:Expr}{ta tb:TE}{p pos:Pos}(hg:Gl X "zip")(hm:X.mg "zip" = none)(ha:PE X a ta)(hb:PE X b tb)
  (hs:starEach [a,b] X.env=[(false,eval a X.env),(false,eval b X.env)]:=by rfl) (hs2:starEach [b] X.env=[(false,eval b X.env)]:=by rfl) :
  PI X (.Tuple elts k tpos) (.Call (.Name "zip" p) [a,b] [] pos) (iZip X.K ta tb):=by
 intro pins s σ H R I h
 have hA:PA X [a,b] (zal ta (zal tb tNil)):=xM ha (xM hb vY hs2) (by rw [hs,hs2])
 refine wpAny_Call_Name_kw (ju I hg hm boot_zip ?_)
 refine PyProof.Rows.callWith_type1 (thn (hA pos pins s σ H _ I h) fun us s1 hq33=>?_) (by rw [hs,hs2]) (by rw [hs2]; rfl)
 obtain ⟨vs,H2,I2,r2,l1,l2,xs,ys,ev,q1,q2,q⟩:=hq33
 subst ev
 obtain ⟨u1,u2,rfl,ru1,ru2⟩:=vals2 r2
 cases ru1
 cases ru2
 obtain ⟨its1,rv1,pl1,_⟩:=I2.tuple q1
 obtain ⟨its2,rv2,pl2,_⟩:=I2.tuple q2
 have p1:s1.heap.IsTuple l1 its1.toArray:=pl1
 have p2:s1.heap.IsTuple l2 its2.toArray:=pl2
 have lt1:l1 < s1.heap.objs.size:=by obtain ⟨o,e,_⟩:=p1; exact Heap.lt_size e
 have lt2:l2 < s1.heap.objs.size:=by obtain ⟨o,e,_⟩:=p2; exact Heap.lt_size e
 refine Zp.call_zip_tt p1 p2 fun h1 m5=>?_
 obtain ⟨m1,m2,m3,m4,m6,m7,m8⟩:=m5
 have T:=turn_zip (P:=X.prog) (w:=X.w) (K:=X.K) (elts:=elts) (k:=k) (pos:=tpos) lt1 lt2 xs ys
 refine T.self X.A 0 _ _ _ ⟨_,_,_,m1,m2,m3,⟨_,m4,rfl,rfl⟩,⟨_,m6,rfl,rfl⟩⟩ ?_
 have I3:Inv X pins σ H2 { s1 with heap:=h1 }:=I2.kept (t':=s1.toks) m8
 refine ⟨_,fpZ s1.heap.objs.size,_,Itz X.K l1 l2 xs ys,H2,rfl,I3,T,⟨_,_,_,m1,m2,m3,⟨_,m4,rfl,rfl⟩,⟨_,m6,rfl,rfl⟩⟩,fun c hc=>?_,q⟩
 have hge:s1.heap.objs.size≤c:=by
  simp only [fpZ,List.mem_cons,List.mem_nil_iff,or_false] at hc
  rcases hc with rfl | rfl | rfl | rfl | rfl
  ·exact Nat.le_add_right _ _
  ·exact Nat.le_add_right _ _
  ·exact Nat.le_add_right _ _
  ·exact Nat.le_refl _
  ·exact Nat.le_add_right _ _
 obtain ⟨f0,f1,f2,f3,f4,f5⟩:=I2.fpOk hge (I2.hok.fresh hge)
 exact ⟨f0,f1,f2,f3,f4,f5⟩
end
end L2
namespace L2
open PySem PySem.Spec PyProof.Rows
noncomputable def Srt (ls:List (List Nat)):Prop:=ls.Pairwise (·≤·)
theorem zdS {a b:List Nat}(h:ltCps b a=false):a≤b:=by
 rw [ltCps_eq] at h
 exact List.not_lt.mp (of_decide_eq_false h)
theorem j7:∀(p:Str) (l:List Str),risingS p l=true→(p::l).Pairwise fun a b=>a.cps.toList≤b.cps.toList
 | p,[],_=>by simp
 | p,x::r,h=>by
  have h':(!ltCps x.cps.toList p.cps.toList&&risingS x r)=true:=h
  rw [Bool.and_eq_true] at h'
  have h1:p.cps.toList≤x.cps.toList:=zdS (by simpa using h'.1)
  have h2:=j7 x r h'.2
  refine List.pairwise_cons.mpr ⟨fun y hy=>?_,h2⟩
  rcases List.mem_cons.mp hy with rfl | hy
  ·exact h1
  ·exact List.le_trans h1 (List.rel_of_pairwise_cons h2 hy)
theorem srt_of {ss:List Str}(h:sortedS ss=true):Srt (ss.map fun x=>x.cps.toList):=by
 unfold Srt
 rw [List.pairwise_map]
 cases ss with
 | nil=>simp
 | cons x r=>exact j7 x r h
theorem zaC:∀{us:List Value}{ss:List Str},StrsAre us ss→Vals (ss.map V.str) us
 | _,_,.nil=>.nil
 | _,_,.cons x t h=>.cons ⟨t,rfl⟩ (zaC h)
noncomputable def vT (ls:List (List Nat)):List V:=ls.map fun l=>V.str (T l)
theorem vT_str (ss:List Str):ss.map V.str=vT (ss.map fun x=>x.cps.toList):=by
 unfold vT
 rw [List.map_map]
 exact List.map_congr_left fun x _=>congrArg V.str (T_of x).symm
theorem vT_T (ls:List (List Nat)):vT ls=(ls.map T).map V.str:=by unfold vT; rw [List.map_map]; rfl
section
variable {X:Cx}
theorem zco:qL X (.builtin "sorted") (fun xs H Q=>∃a ls,xs=[.ref a]∧SqL X.K H a (vT ls)∧ls.length < 64∧∀p ms,H p=none→ms.Perm ls→Srt ms→Q (.ref p) (upd H p (.lst (vT ms)))):=by
 intro pins s σ H xs us Q I r h
 obtain ⟨a,ls,rfl,ha,h64,q⟩:=h
 obtain ⟨u,rfl,ru⟩:=vals1 r
 cases ru
 obtain ⟨its,rv,pl,hz⟩:=I.list ha
 rw [vT_T] at rv
 have hl:=rv.length
 simp only [List.length_map] at hl
 refine sorted_strs pl.isList (jE rv) (by omega) fun out ss' h1 h2 h3=>?_
 have hS:=srt_of h3
 have hP:(ss'.map fun x=>x.cps.toList).Perm ls:=by
  have:=h2.map fun x:Str=>x.cps.toList
  rw [List.map_map] at this
  have e:ls.map ((fun x:Str=>x.cps.toList)∘T)=ls:=by
   have:((fun x:Str=>x.cps.toList)∘T)=id:=funext fun l=>za8 l
   rw [this,List.map_id]
  rw [e] at this
  exact this
 obtain ⟨c,hat⟩:=sortedAll_at s.heap its out
 have hlen:ss'.length=ls.length:=by have:=h2.length_eq; simpa using this
 refine ⟨.ref (s.heap.objs.size + 1),_,I.laid (t':=s.toks) (o:=.lst (vT (ss'.map fun x=>x.cps.toList))) (fun b o e=>sortedAll_old e) (Nat.le_succ _) ?_,rfl,q _ _ (I.hok.fresh (Nat.le_succ _)) hP hS⟩
 refine ⟨?_,out.toList,c,?_,by simpa [seqObj] using hat⟩
 ·rw [← vT_str,List.length_map,sizeLine_eq]; omega
 ·rw [← vT_str]; exact zaC h1
noncomputable def Itr3 (lo c:Int)(n:Nat):It:=⟨fun i _=>i < n,fun i H x H'=>H'=H∧x=.int (lo + (i:Int) * c),fun i _=>n≤i⟩
theorem wlk_range3 {lo c:Int}{n:Nat}{G:Hp→Prop}:Wlk (Itr3 lo c n) G ((List.range n).map fun (k:Nat)=>V.int (lo + (k:Int) * c)):=fun H _=>by
 refine ⟨fun i hi=>⟨by show i < n; simpa using hi,fun x H' y=>⟨y.1,?_⟩⟩,?_⟩
 ·have hi':i < n:=by simpa using hi
  rw [y.2]; simp [hi']
 ·show n≤_; simp
theorem zdJ {P:Program}{w:World}{K:PySem.W.Frag}{tg:Expr}(it:Addr)(lo c:Int)(n:Nat):Turn P w K tg (Itr3 lo c n) [it] it (fun i h=>IsRangeIter h it (lo + (i:Nat) * c) ((n:Int) - (i:Nat)) c) where
 mem:=by simp
 obj:=fun i h st b hb=>by
  have e:b=it:=by simpa using hb
  subst e
  exact ⟨_,st,fun v z=>by
   have z':Data.fields _=Data.cell v:=z
   cases z'⟩
 keep:=fun i h h' st k=>k it (by simp) _ st
 item:=by
  intro X hP hw hK hc i pins s σ H E I hf st hg
  subst hP hw hK
  obtain ⟨f0,f1,f2,f3,f4,f5⟩:=hf it (by simp)
  have W:=Walks.range (prog:=X.prog) (w:=X.w) (I.ok.hd hc) it lo c n
  refine W.item i s _ _ hg st fun v h' tk hv st' kk=>?_
  obtain ⟨t,rfl⟩:=hv
  have I1:Inv X pins σ H { s with heap:=h',toks:=tk }:=I.turned (fun b o hb e=>kk b o (by simpa using hb) e) f0 f1 f3 f4 f5
  exact ⟨_,rfl,go_of (s:={ s with heap:=h',toks:=tk }) (n := "range_iterator") st' rfl rfl (by decide) ⟨.int (lo + i * c),H,I1,⟨t,rfl⟩,⟨rfl,rfl⟩,st',fun b hb=>(hf b hb).1⟩⟩
 done:=by
  intro X hP hw hK hc i pins s σ H E I hf st hg
  subst hP hw hK
  obtain ⟨f0,f1,f2,f3,f4,f5⟩:=hf it (by simp)
  exact wpAny_pyNext_range_end (I.ok.hd hc) st (by have:n≤i:=hg; omega) fun h' eb=>⟨rfl,I.turned (t':=s.toks) (fun b o hb e=>eb b o hb e) f0 f1 f3 f4 f5⟩
 self:=fun _ _ _ _ _ st h=>wpAny_pyIter_rangeiter st h
noncomputable def iRng3 (ta:TA):TI:=fun σ H R=>ta σ H fun vs H1=>∃i j c:Int,vs=[.int i,.int j,.int c]∧0≤i∧i≤j∧j < 2 ^ 20∧0 < c∧c < 2 ^ 20∧R (Itr3 i c ((j - i + c - 1) / c).toNat) H1
theorem small3 {a b c:Int}(h0:0≤a)(h1:a≤b)(h2:b < 2 ^ 20)(h3:0 < c)(h4:c < 2 ^ 20):Builtin.Range.small a b c=true:=by
 have hr:0≤Builtin.Range.rangeSize a b c∧Builtin.Range.rangeSize a b c≤2 ^ 20:=by
  unfold Builtin.Range.rangeSize
  rw [if_pos (show c > 0 from h3)]
  split
  ·have e1:0≤(b - a - 1) / c:=Int.ediv_nonneg (by omega) (by omega)
   have e2:(b - a - 1) / c≤b - a - 1:=Int.ediv_le_self _ (by omega)
   omega
  ·omega
 have hm:(Builtin.Range.rangeSize a b c) * c≤2 ^ 40:=by
  have:=Int.mul_le_mul hr.2 (Int.le_of_lt h4) (by omega) (by decide)
  have e:(2:Int) ^ 20 * 2 ^ 20=2 ^ 40:=by decide
  omega
 have hm0:0≤(Builtin.Range.rangeSize a b c) * c:=Int.mul_nonneg hr.1 (by omega)
 unfold Builtin.Range.small
 simp only [Builtin.Range.rangeFitsLong,Bool.and_eq_true,Bool.or_eq_true,decide_eq_true_eq,beq_iff_eq,if_pos (show c > 0 from h3)]
 generalize Builtin.Range.rangeSize a b c=n at *
 omega
theorem pi_range3 {tg a b c:Expr}{ta:TA}{p pos:Pos}(hg:Gl X "range")(hm:X.mg "range" = none)(ha:PA X [a,b,c] ta)(hs:starEach [a,b,c] X.env=[(false,eval a X.env),(false,eval b X.env),(false,eval c X.env)]:=by rfl)(hs2:starEach [b,c] X.env=[(false,eval b X.env),(false,eval c X.env)]:=by rfl) :
  PI X tg (.Call (.Name "range" p) [a,b,c] [] pos) (iRng3 ta):=by
 intro pins s σ H R I h
 refine Call_ (ju I hg hm boot_range (PyProof.Rows.callWith_type1 (thn (ha pos pins s σ H _ I h) fun us s1 hq34=>?_) (by rw [hs,hs2]) (by rw [hs2]; rfl)))
 obtain ⟨vs,H1,I1,r1,q1⟩:=hq34
 obtain ⟨i,j,c,e,h0,h1,h2,h3,h4,q⟩:=q1
 subst e
 cases r1 with
 | cons r rr =>
  cases rr with
  | cons r' rr =>
   cases rr with
   | cons r'' rr =>
    cases rr
    obtain ⟨t,rfl⟩:=r
    obtain ⟨t',rfl⟩:=r'
    obtain ⟨t'',rfl⟩:=r''
    refine call_range_3 (by omega) ?_ (Or.inl (PyProof.noPylong_small (by omega)))
    refine wpAny_pyIter_range (IsRange.new ..) (small3 h0 h1 h2 h3 h4) ?_
    have I2:Inv X pins σ H1 { s1 with heap:=s1.heap.push { cls:=.type "range", data:=.fields #[.int i t,.int j t',.int c t''] } }:=I1.kept (t':=s1.toks) fun b o e=>Heap.get?_push_of_some _ e
    refine ⟨(s1.heap.push { cls:=.type "range", data:=.fields #[.int i t,.int j t',.int c t''] }).objs.size,[(s1.heap.push { cls:=.type "range", data:=.fields #[.int i t,.int j t',.int c t''] }).objs.size],_,_,H1,rfl,
     I2.kept (t':=s1.toks) fun b o e=>Heap.get?_push_of_some _ e,zdJ _ i c _,?_,fun b hb=>?_,q⟩
    ·have e1:i + ((0:Nat):Int) * c=i:=by simp
     have e2:(((((j - i + c - 1) / c).toNat:Nat):Int)) - ((0:Nat):Int)=Builtin.Range.rangeSize i j c:=by
      unfold Builtin.Range.rangeSize
      rw [if_pos (show c > 0 from h3)]
      have e3:(j - i + c - 1) / c=(j - i - 1) / c + 1:=by
       have:j - i + c - 1=(j - i - 1) + c * 1:=by omega
       rw [this,Int.add_mul_ediv_left _ _ (by omega)]
      split
      ·have:=Int.ediv_nonneg (show 0≤j - i - 1 by omega) (show 0≤c by omega)
       omega
      ·have:j - i - 1 = -1:=by omega
       rw [e3,this,Int.ediv_eq_neg_one_of_neg_of_le (by omega) (by omega)]
       simp
     show IsRangeIter _ _ (i + ((0:Nat):Int) * c) (((((j - i + c - 1) / c).toNat:Nat):Int) - ((0:Nat):Int)) c
     rw [e1,e2]
     exact Heap.get?_push_size _ rfl
    ·have e:b=(s1.heap.push { cls:=.type "range", data:=.fields #[.int i t,.int j t',.int c t''] }).objs.size:=by simpa using hb
     subst e
     exact I2.fpOk (Nat.le_refl _) (I2.hok.fresh (Nat.le_refl _))
theorem pg_two {K:PySem.W.Frag}{i j:Nat}{x y:Str}{px py pos:Pos}{k:Nat}(hK:X.K=K)(hc:X.calm=true)(hN:X.N.Nodup)(hi:X.N[i]? = some x)(hj:X.N[j]? = some y)(hx:Loc X.env.scope x)(hy:Loc X.env.scope y)
  (fx:X.fn x=true∨X.env.scope.names.lookup x=some .local:=by first | exact .inl rfl | exact .inr rfl | assumption) (fy:X.fn y=true∨X.env.scope.names.lookup y=some .local:=by first | exact .inl rfl | exact .inr rfl | assumption) :
  PG X (.Tuple [.Name x px,.Name y py] k pos) (gTup K 2 (jL (uP i) (jL (uP j) gNil))):=hK ▸ pg_tup hc (pgs_cons (zX hN hi hx fx) (pgs_cons (zX hN hj hy fy) pgs_nil))
end
theorem turns_zip {K:PySem.W.Frag}{l1 l2:Addr}{xs ys:List V}(hz:xs.length≤sizeLine){g:TG}{tt:TT}{te:TE}{σ0:St}{F:List V→Hp→Prop}{H1:Hp}(Pv:Nat→List V→Hp→Prop)(h0:Pv 0 [] H1)(hG:∀i vs H,Pv i vs H→SqT K H l1 xs∧SqT K H l2 ys∧vs.length≤i)
  (hs:∀i x y p vs H,xs[i]? = some x→ys[i]? = some y→H p=none→Pv i vs H→g (.ref p) σ0 (upd H p (.tup [x,y])) fun σ2 H2=>Kps σ0 σ2∧tt σ2 H2 fun b H3=>if b=true then te σ2 H3 fun v H4=>Pv (i + 1) (vs++[v]) H4 else Pv (i + 1) vs H3) (hd:∀vs H,Pv (min xs.length ys.length) vs H→F vs H) :
  zaG g tt te σ0 F (Itz K l1 l2 xs ys) H1:=by
 refine ⟨fun i m vs H=>m=min xs.length ys.length - i∧i≤min xs.length ys.length∧Pv i vs H,⟨_,rfl,Nat.zero_le _,h0⟩,?_⟩
 rintro i m vs H ⟨rfl,hi,p⟩
 obtain ⟨q1,q2,hl⟩:=hG i vs H p
 refine ⟨by omega,?_⟩
 by_cases hlt:i < min xs.length ys.length
 ·refine .inr ⟨⟨q1,q2,hlt⟩,by omega,Pv (i + 1),fun vs' H' p'=>⟨min xs.length ys.length - (i + 1),by omega,rfl,hlt,p'⟩,?_⟩
  rintro v H' ⟨a,x,y,e0,e1,e2,rfl,rfl⟩
  exact hs i x y a vs H e1 e2 e0 p
 ·have e:i=min xs.length ys.length:=by omega
  subst e
  exact .inl ⟨⟨q1,q2,Nat.le_refl _⟩,hd vs H p⟩
theorem for_zip {K:PySem.W.Frag}{l1 l2:Addr}{xs ys:List V}{g:TG}{tb:TS}{D:Ends}{σ:St}{H:Hp}(Pv:Nat→St→Hp→Prop)(h0:Pv 0 σ H)(hG:∀i σ H,Pv i σ H→SqT K H l1 xs∧SqT K H l2 ys)
  (hs:∀i x y p σ H,xs[i]? = some x→ys[i]? = some y→H p=none→Pv i σ H→g (.ref p) σ (upd H p (.tup [x,y])) fun σ2 H2=>tb { D with nx:=Pv (i + 1),ct:=Pv (i + 1),bk:=D.nx } σ2 H2) (hd:∀σ H,Pv (min xs.length ys.length) σ H→D.nx σ H) :
  ∃ W:Nat→Nat→St→Hp→Prop,(∃m,W 0 m σ H)∧∀i m σ H,W i m σ H →
   ((Itz K l1 l2 xs ys).stop i H∧D.nx σ H)∨((Itz K l1 l2 xs ys).go i H∧∃N:St→Hp→Prop,(∀σ' H',N σ' H'→∃m',m' < m∧W (i + 1) m' σ' H')∧∀x H',(Itz K l1 l2 xs ys).yld i H x H'→g x σ H' fun σ2 H2=>tb { D with nx:=N,ct:=N,bk:=D.nx } σ2 H2):=by
 refine ⟨fun i m σ H=>m=min xs.length ys.length - i∧i≤min xs.length ys.length∧Pv i σ H,⟨_,rfl,Nat.zero_le _,h0⟩,?_⟩
 rintro i m σ H ⟨rfl,hi,p⟩
 obtain ⟨q1,q2⟩:=hG i σ H p
 by_cases hlt:i < min xs.length ys.length
 ·refine .inr ⟨⟨q1,q2,hlt⟩,Pv (i + 1),fun σ' H' p'=>⟨min xs.length ys.length - (i + 1),by omega,rfl,hlt,p'⟩,?_⟩
  rintro v H' ⟨a,x,y,e0,e1,e2,rfl,rfl⟩
  exact hs i x y a σ H e1 e2 e0 p
 ·have e:i=min xs.length ys.length:=by omega
  subst e
  exact .inl ⟨⟨q1,q2,Nat.le_refl _⟩,hd σ H p⟩
end L2
namespace My
noncomputable def abcd:List Nat:=[97,98,99,100]
noncomputable def wt (ws:List Int)(c:Nat):Int:=ws.getD (c - 97) 0
noncomputable def up (ws:List Int):List Nat→Int
 | []=>1
 | c::r=>wt ws c * up ws r
noncomputable def dn (ws:List Int)(l:List Nat):Int:=ws.sum ^ l.length
noncomputable def SrcOk (ws:List Int):Prop:=2≤ws.length∧ws.length≤4∧∀w∈ws,1≤w∧w≤99
noncomputable def LetOk (m:Nat)(l:List Nat):Prop:=∀c∈l,97≤c∧c < 97 + m
theorem LetOk.app {m:Nat}{l k:List Nat}(a:LetOk m l)(b:LetOk m k):LetOk m (l++k):=fun c hc=>by
 rcases List.mem_append.mp hc with h | h
 ·exact a c h
 ·exact b c h
theorem pow_mono {a:Int}(ha:1≤a){n m:Nat}(h:n≤m):a ^ n≤a ^ m:=by
 obtain ⟨k,rfl⟩:=Nat.exists_eq_add_of_le h
 rw [Int.pow_add]
 have h1:0 < a ^ n:=Int.pow_pos (by omega)
 have h2:0 < a ^ k:=Int.pow_pos (by omega)
 have:=Int.mul_le_mul_of_nonneg_left (show (1:Int)≤a ^ k by omega) (Int.le_of_lt h1)
 omega
noncomputable def Fra (B:Nat)(x:Int×Int):Prop:=0≤x.1∧0 < x.2∧x.1 < 2 ^ B∧x.2 < 2 ^ B
theorem Fra.mono {B C:Nat}{x:Int×Int}(h:Fra B x)(hBC:B≤C):Fra C x:=by
 have:=pow_mono (a:=2) (by decide) hBC
 obtain ⟨a,b,c,d⟩:=h
 exact ⟨a,b,by omega,by omega⟩
section
variable {ws:List Int}(h:SrcOk ws)
include h
noncomputable def acc (ws:List Int)(l:List Nat)(S:Int):Int×Int:=low (up ws l * S) (dn ws l * ws.sum)
end
section
variable {a b c d e f:Int}(hb:0 < b)(hd:0 < d)(hf:0 < f)
include hb
end
end My
namespace My
noncomputable def rising (ps:List (List Nat)):Bool:=(ps.zip ps.tail).all fun x=>decide (x.1 < x.2)
noncomputable def isInner (ps:List (List Nat))(x:List Nat):Bool:=ps.any fun p=>x.isPrefixOf p && !decide (p=x)
noncomputable def xT (ps:List (List Nat))(x:List Nat):Bool:=!(ps.any fun p=>x.isPrefixOf p || p.isPrefixOf x)
noncomputable def zR (m:Nat)(xs:List (List Nat)):List (List Nat):=xs.flatMap fun x=>(abcd.take m).map fun c=>x++[c]
noncomputable def wQ (ps:List (List Nat)):Option (List Nat×List Nat):=(ps.zip ps.tail).find? fun x=>x.1.isPrefixOf x.2
noncomputable def fta (m:Nat)(ps:List (List Nat)):Nat→List (List Nat)→Option (List Nat)
 | 0,_=>none
 | n + 1,inner=>if inner=[] then none else match (zR m inner).find? (xT ps) with
  | some x=>some x
  | none=>fta m ps n ((zR m inner).filter (isInner ps))
noncomputable def vB (m:Nat)(ps:List (List Nat)):Option (List Nat):=fta m ps 10 [[]]
noncomputable def isBook (m:Nat)(ps:List (List Nat)):Bool:=rising ps&&(wQ ps).isNone&&(vB m ps).isNone
theorem goneOn_len (m:Nat)(hm:m≤4)(xs:List (List Nat)):(zR m xs).length≤4 * xs.length:=by
 unfold zR
 induction xs with
 | nil=>simp
 | cons x r ih =>
  rw [List.flatMap_cons,List.length_append,List.length_map,List.length_take,List.length_cons]
  omega
theorem zbD {m:Nat}{xs:List (List Nat)}{y:List Nat}(h:y∈zR m xs):∃x∈xs,∃c∈abcd.take m,y=x++[c]:=by
 unfold zR at h
 obtain ⟨x,hx,hy⟩:=List.mem_flatMap.mp h
 obtain ⟨c,hc,rfl⟩:=List.mem_map.mp hy
 exact ⟨x,hx,c,hc,rfl⟩
theorem zaz {ps:List (List Nat)}{x:List Nat}(h:isInner ps x=true)(h8:∀p∈ps,p.length≤8):x.length < 8:=by
 unfold isInner at h
 obtain ⟨p,hp,e⟩:=List.any_eq_true.mp h
 rw [Bool.and_eq_true] at e
 obtain ⟨s,rfl⟩:=List.isPrefixOf_iff_prefix.mp e.1
 have hs:s≠[]:=fun z=>by subst z; simp at e
 have:=h8 _ hp
 rw [List.length_append] at this
 have:=List.length_pos_iff.mpr hs
 omega
noncomputable def addK (ks:List (List Nat))(k:List Nat):List (List Nat):=if k∈ks then ks else ks++[k]
noncomputable def begs (p:List Nat):List (List Nat):=(List.range p.length).map fun e=>p.take e
noncomputable def yw (ps:List (List Nat)):List (List Nat):=(ps.flatMap begs).foldl addK []
noncomputable def sortF (ls:List (List Nat)):List (List Nat):=ls.mergeSort fun a b=>!decide (b < a)
theorem zax (ls:List (List Nat)):(sortF ls).Pairwise (·≤·):=by
 have h:=List.pairwise_mergeSort (le:=fun a b:List Nat=>!decide (b < a)) (fun a b c h1 h2=>by
  have h1':a≤b:=List.not_lt.mp (by simpa using h1)
  have h2':b≤c:=List.not_lt.mp (by simpa using h2)
  have h3:¬c < a:=List.not_lt.mpr (List.le_trans h1' h2')
  simpa using h3) (fun a b=>by
  rcases List.le_total a b with h | h
  ·have:=List.not_lt.mpr h
   simp [this]
  ·have:=List.not_lt.mpr h
   simp [this]) ls
 exact h.imp fun h=>List.not_lt.mp (by simpa using h)
theorem vP (ls:List (List Nat)):(sortF ls).Perm ls:=List.mergeSort_perm ls _
theorem sortF_eq {ls ms:List (List Nat)}(h:ms.Pairwise (·≤·))(p:ms.Perm ls):ms=sortF ls:=List.Perm.eq_of_pairwise (fun _ _ _ _ h k=>List.le_antisymm h k) h (zax ls) (p.trans (vP ls).symm)
noncomputable def zU (ps:List (List Nat))(s:List (List Nat)×List Nat)(c:Nat):List (List Nat)×List Nat:=if s.2++[c]∈ps then (s.1++[s.2++[c]],[]) else (s.1,s.2++[c])
noncomputable def uc (ps:List (List Nat))(l:List Nat):List (List Nat)×List Nat:=l.foldl (zU ps) ([],[])
theorem zaq (ps:List (List Nat))(l:List Nat):(uc ps l).1.length≤l.length∧(uc ps l).2.length≤l.length:=by
 have key:∀(l:List Nat) (s:List (List Nat)×List Nat),(l.foldl (zU ps) s).1.length≤s.1.length + l.length∧(l.foldl (zU ps) s).2.length≤s.2.length + l.length:=by
  intro l
  induction l with
  | nil=>intro s; simp
  | cons c r ih =>
   intro s
   rw [List.foldl_cons,List.length_cons]
   have:=ih (zU ps s c)
   have h1:(zU ps s c).1.length≤s.1.length + 1∧(zU ps s c).2.length≤s.2.length + 1:=by
    unfold zU
    split <;> simp
   omega
 have:=key l ([],[])
 simpa [uc] using this
structure Book (m:Nat)(B:List (List Nat)):Prop where
 m2:2≤m
 m4:m≤4
 let_:∀p∈B,LetOk m p
 ne:∀p∈B,p≠[]
 pf:∀p∈B,∀q∈B,p <+: q→p=q
 cv:∀x,LetOk m x→∃p∈B,p <+: x∨x <+: p
 srt:B.Pairwise (·≤·)
 nd:B.Nodup
theorem abcd_let {m c:Nat}(h:c∈abcd.take m):97≤c∧c < 97 + m:=by
 obtain ⟨i,hi,rfl⟩:=List.mem_iff_getElem.mp h
 have h1:i < m:=by rw [List.length_take] at hi; omega
 have h2:i < 4:=by rw [List.length_take] at hi; have:abcd.length=4:=rfl; omega
 rw [List.getElem_take]
 have:i=0∨i=1∨i=2∨i=3:=by omega
 rcases this with rfl | rfl | rfl | rfl
 ·show 97≤97∧97 < _; omega
 ·show 97≤98∧98 < _; omega
 ·show 97≤99∧99 < _; omega
 ·show 97≤100∧100 < _; omega
theorem uI {m c:Nat}(hm:m≤4)(h:97≤c∧c < 97 + m):c∈abcd.take m:=by
 have:m=0∨m=1∨m=2∨m=3∨m=4:=by omega
 have:c=97∨c=98∨c=99∨c=100:=by omega
 rcases this with rfl | rfl | rfl | rfl <;> rcases (by assumption:m=0∨_) with rfl | rfl | rfl | rfl | rfl <;> first | decide | omega
theorem abcd_nd (m:Nat):(abcd.take m).Nodup:=List.Sublist.nodup (List.take_sublist _ _) (by decide)
theorem LetOk.one {m c:Nat}(h:c∈abcd.take m):LetOk m [c]:=fun d hd=>by rw [List.mem_singleton.mp hd]; exact abcd_let h
theorem LetOk.pre {m:Nat}{x y:List Nat}(h:LetOk m y)(p:x <+: y):LetOk m x:=fun c hc=>h c (p.subset hc)
theorem not_apart {m:Nat}{B:List (List Nat)}(h:Book m B){x:List Nat}(hx:LetOk m x):xT B x=false:=by
 obtain ⟨p,hp,e⟩:=h.cv x hx
 unfold xT
 rw [Bool.not_eq_false',List.any_eq_true]
 refine ⟨p,hp,?_⟩
 rw [Bool.or_eq_true,List.isPrefixOf_iff_prefix,List.isPrefixOf_iff_prefix]
 exact e.symm
theorem goneOn_let {m:Nat}{xs:List (List Nat)}(h:∀x∈xs,LetOk m x):∀y∈zR m xs,LetOk m y:=fun y hy=>by
 obtain ⟨x,hx,c,hc,rfl⟩:=zbD hy
 exact (h x hx).app (LetOk.one hc)
theorem fta_none {m:Nat}{B:List (List Nat)}(h:Book m B):∀(n:Nat) (xs:List (List Nat)),(∀x∈xs,LetOk m x)→fta m B n xs=none
 | 0,_,_=>rfl
 | n + 1,xs,hx=>by
  unfold fta
  split
  ·rfl
  ·have hg:=goneOn_let hx
   have e:(zR m xs).find? (xT B)=none:=List.find?_eq_none.mpr fun x hx=>by rw [not_apart h (hg x hx)]; exact Bool.false_ne_true
   rw [e]
   exact fta_none h n _ fun x hx=>hg x (List.mem_filter.mp hx).1
theorem zbf {m:Nat}{B:List (List Nat)}(h:Book m B):vB m B=none:=fta_none h 10 [[]] fun x hx=>by
 rw [List.mem_singleton.mp hx]
 intro c hc
 cases hc
theorem zdm {α:Type}:∀{l:List α}{x:α×α},x∈l.zip l.tail→x.1∈l∧x.2∈l:=fun {l x} h=>⟨(List.of_mem_zip h).1,List.mem_of_mem_tail (List.of_mem_zip h).2⟩
theorem u9 {α:Type}{R:α→α→Prop}:∀{l:List α},l.Pairwise R→∀x∈l.zip l.tail,R x.1 x.2
 | [],_,x,h=>by cases h
 | [_],_,x,h=>by cases h
 | a::b::r,p,x,h=>by
  have h':x∈(a,b)::(b::r).zip r:=h
  rcases List.mem_cons.mp h' with rfl | h'
  ·exact List.rel_of_pairwise_cons p List.mem_cons_self
  ·exact u9 (l:=b::r) (List.pairwise_cons.mp p).2 x h'
theorem strict {B:List (List Nat)}(s:B.Pairwise (·≤·))(n:B.Nodup):B.Pairwise (· < ·):=by
 have:=List.Pairwise.and s n
 exact this.imp fun ⟨h,k⟩=>Classical.byContradiction fun hn=>k (List.le_antisymm h (List.not_lt.mp hn))
theorem zba {m:Nat}{B:List (List Nat)}(h:Book m B):wQ B=none:=by
 refine List.find?_eq_none.mpr fun x hx=>?_
 intro e
 have hm:=zdm hx
 have:=h.pf _ hm.1 _ hm.2 (List.isPrefixOf_iff_prefix.mp e)
 have lt:=u9 (strict h.srt h.nd) x hx
 rw [this] at lt
 exact List.lt_irrefl _ lt
theorem rising_of {m:Nat}{B:List (List Nat)}(h:Book m B):rising B=true:=by
 unfold rising
 rw [List.all_eq_true]
 exact fun x hx=>decide_eq_true (u9 (strict h.srt h.nd) x hx)
theorem Book.isBook {m:Nat}{B:List (List Nat)}(h:Book m B):isBook m B=true:=by
 unfold My.isBook
 rw [rising_of h,zba h,zbf h]
 rfl
noncomputable def kids (m:Nat)(p:List Nat):List (List Nat):=(abcd.take m).map fun c=>p++[c]
theorem kids_mem {m:Nat}{p x:List Nat}:x∈kids m p↔∃c∈abcd.take m,x=p++[c]:=by
 unfold kids
 rw [List.mem_map]
 exact ⟨fun ⟨c,h,e⟩=>⟨c,h,e.symm⟩,fun ⟨c,h,e⟩=>⟨c,h,e.symm⟩⟩
theorem kids_nd (m:Nat)(p:List Nat):(kids m p).Nodup:=by
 unfold kids
 rw [List.nodup_iff_pairwise_ne,List.pairwise_map]
 refine (abcd_nd m).imp fun h e=>h ?_
 exact List.singleton_inj.mp (List.append_cancel_left e)
theorem zcd (m:Nat)(hm:m≤4)(p:List Nat):(kids m p).length=m:=by
 unfold kids
 rw [List.length_map,List.length_take]
 show min m 4=m
 omega
theorem cv_of {m:Nat}(hm:2≤m){B:List (List Nat)}{p:List Nat}(hp:∀x∈kids m p,x∈B){x:List Nat}(hx:LetOk m x)(m4:m≤4)(h:p <+: x∨x <+: p):∃q∈B,q <+: x∨x <+: q:=by
 have h97:97∈abcd.take m:=uI m4 (by omega)
 rcases h with ⟨s,rfl⟩ | h
 ·cases s with
  | nil=>exact ⟨p++[97],hp _ (kids_mem.mpr ⟨97,h97,rfl⟩),.inr (by rw [List.append_nil]; exact List.prefix_append _ _)⟩
  | cons c r =>
   have hc:=hx c (by simp)
   exact ⟨p++[c],hp _ (kids_mem.mpr ⟨c,uI m4 hc,rfl⟩),.inl ⟨r,by simp⟩⟩
 ·exact ⟨p++[97],hp _ (kids_mem.mpr ⟨97,h97,rfl⟩),.inr (h.trans (List.prefix_append _ _))⟩
theorem zbS (p:List Nat)(c:Nat):p++[c]≠p:=fun e=>by have:=congrArg List.length e; simp at this
noncomputable def part (m:Nat)(B:List (List Nat))(j:Nat):List (List Nat):=sortF (B.eraseIdx j++kids m (B.getD j []))
theorem part_mem {m:Nat}{B:List (List Nat)}(hn:B.Nodup){j:Nat}(hj:j < B.length){x:List Nat}:x∈part m B j↔(x∈B∧x≠B.getD j [])∨x∈kids m (B.getD j []):=by
 unfold part
 rw [(vP _).mem_iff,List.mem_append]
 have e:B.getD j []=B[j]:=by rw [List.getD_eq_getElem?_getD,List.getElem?_eq_getElem hj]; rfl
 have:x∈B.eraseIdx j↔x∈B∧x≠B.getD j []:=by
  rw [List.mem_eraseIdx_iff_getElem,e]
  constructor
  ·rintro ⟨i,hi,hij,rfl⟩
   exact ⟨List.getElem_mem hi,fun z=>hij ((List.getElem_inj hn).mp z)⟩
  ·rintro ⟨hx,hne⟩
   obtain ⟨i,hi,rfl⟩:=List.mem_iff_getElem.mp hx
   exact ⟨i,hi,fun z=>hne (by subst z; rfl),rfl⟩
 rw [this]
theorem Book.part {m:Nat}{B:List (List Nat)}(h:Book m B){j:Nat}(hj:j < B.length):Book m (part m B j):=by
 have hpm:B.getD j []∈B:=by rw [List.getD_eq_getElem?_getD,List.getElem?_eq_getElem hj]; exact List.getElem_mem hj
 have mem:=fun x=>part_mem (m:=m) h.nd hj (x:=x)
 have hsr:(My.part m B j).Pairwise (·≤·):=zax _
 have hnd:(My.part m B j).Nodup:=by
  unfold My.part
  refine (vP _).nodup_iff.mpr (List.nodup_append.mpr ⟨h.nd.eraseIdx j,kids_nd _ _,?_⟩)
  rintro a ha b hb rfl
  have haB:a∈B:=List.mem_of_mem_eraseIdx ha
  obtain ⟨c,hc,rfl⟩:=kids_mem.mp hb
  have:=h.pf _ hpm _ haB (List.prefix_append _ _)
  exact zbS _ _ this.symm
 generalize My.part m B j=C at mem hsr hnd
 generalize B.getD j []=p at mem hpm
 refine ⟨h.m2,h.m4,fun x hx=>?_,fun x hx=>?_,fun x hx y hy hxy=>?_,fun x hx=>?_,hsr,hnd⟩
 ·rcases (mem x).mp hx with ⟨hx,_⟩ | hx
  ·exact h.let_ x hx
  ·obtain ⟨c,hc,rfl⟩:=kids_mem.mp hx
   exact (h.let_ _ hpm).app (LetOk.one hc)
 ·rcases (mem x).mp hx with ⟨hx,_⟩ | hx
  ·exact h.ne x hx
  ·obtain ⟨c,hc,rfl⟩:=kids_mem.mp hx
   simp
 ·rcases (mem x).mp hx with ⟨hx,nx⟩ | hx <;> rcases (mem y).mp hy with ⟨hy,ny⟩ | hy
  ·exact h.pf x hx y hy hxy
  ·obtain ⟨c,hc,rfl⟩:=kids_mem.mp hy
   rcases List.prefix_concat_iff.mp hxy with e | e
   ·exact e
   ·exact absurd (h.pf x hx p hpm e) nx
  ·obtain ⟨c,hc,rfl⟩:=kids_mem.mp hx
   exact absurd (h.pf p hpm y hy ((List.prefix_append _ _).trans hxy)).symm ny
  ·obtain ⟨c,hc,rfl⟩:=kids_mem.mp hx
   obtain ⟨d,hd,rfl⟩:=kids_mem.mp hy
   exact hxy.eq_of_length (by simp)
 ·obtain ⟨q,hq,e⟩:=h.cv x hx
  by_cases hqp:q=p
  ·subst hqp
   exact cv_of h.m2 (fun z hz=>(mem z).mpr (.inr hz)) hx h.m4 e
  ·exact ⟨q,(mem q).mpr (.inl ⟨hq,hqp⟩),e⟩
theorem Book.letters {m:Nat}(m2:2≤m)(m4:m≤4):Book m (kids m []):=by
 refine ⟨m2,m4,fun x hx=>?_,fun x hx=>?_,fun x hx y hy hxy=>?_,fun x hx=>?_,?_,kids_nd m []⟩
 ·obtain ⟨c,hc,rfl⟩:=kids_mem.mp hx
  exact LetOk.one hc
 ·obtain ⟨c,hc,rfl⟩:=kids_mem.mp hx
  simp
 ·obtain ⟨c,hc,rfl⟩:=kids_mem.mp hx
  obtain ⟨d,hd,rfl⟩:=kids_mem.mp hy
  exact hxy.eq_of_length (by simp)
 ·exact cv_of m2 (fun z hz=>hz) hx m4 (.inl (List.nil_prefix))
 ·have:m=2∨m=3∨m=4:=by omega
  rcases this with rfl | rfl | rfl <;> decide
noncomputable def Inner (B:List (List Nat))(x:List Nat):Prop:=∃p∈B,x <+: p∧x≠p
theorem foldl_addK (l:List (List Nat)):∀ks:List (List Nat),ks.Nodup→(l.foldl addK ks).Nodup∧∀x,x∈l.foldl addK ks↔x∈ks∨x∈l:=by
 induction l with
 | nil=>intro ks h; exact ⟨h,fun x=>by simp⟩
 | cons k r ih =>
  intro ks h
  rw [List.foldl_cons]
  have h1:(addK ks k).Nodup∧∀x,x∈addK ks k↔x∈ks∨x=k:=by
   unfold addK
   split
   ·exact ⟨h,fun x=>⟨.inl,fun z=>z.elim id fun e=>by rw [e]; assumption⟩⟩
   ·rename_i hk
    refine ⟨List.nodup_append.mpr ⟨h,by simp,?_⟩,fun x=>by simp⟩
    rintro a ha b hb rfl
    rw [List.mem_singleton.mp hb] at ha
    exact hk ha
  obtain ⟨h2,h3⟩:=ih _ h1.1
  refine ⟨h2,fun x=>?_⟩
  rw [h3,h1.2,List.mem_cons,or_assoc]
theorem begs_mem {p x:List Nat}:x∈begs p↔x <+: p∧x≠p:=by
 unfold begs
 rw [List.mem_map]
 constructor
 ·rintro ⟨e,he,rfl⟩
  have he':=List.mem_range.mp he
  refine ⟨List.take_prefix _ _,fun z=>?_⟩
  have:=congrArg List.length z
  rw [List.length_take] at this
  omega
 ·rintro ⟨h,hn⟩
  refine ⟨x.length,List.mem_range.mpr ?_,(List.prefix_iff_eq_take.mp h).symm⟩
  have h1:=h.length_le
  have:x.length≠p.length:=fun z=>hn (h.eq_of_length z)
  omega
theorem uz (B:List (List Nat)):(yw B).Nodup:=(foldl_addK _ [] List.nodup_nil).1
theorem innerKeys_mem {B:List (List Nat)}{x:List Nat}:x∈yw B↔Inner B x:=by
 unfold yw
 rw [(foldl_addK _ [] List.nodup_nil).2,List.mem_flatMap]
 simp only [List.not_mem_nil,false_or]
 exact ⟨fun ⟨p,hp,h⟩=>⟨p,hp,begs_mem.mp h⟩,fun ⟨p,hp,h⟩=>⟨p,hp,begs_mem.mpr h⟩⟩
theorem zbA {m:Nat}(m2:2≤m)(m4:m≤4){B:List (List Nat)}(hn:B.Nodup){j:Nat}(hj:j < B.length){x:List Nat}(h:Inner (part m B j) x):Inner B x∨x=B.getD j []:=by
 obtain ⟨q,hq,hx,hne⟩:=h
 have hpm:B.getD j []∈B:=by rw [List.getD_eq_getElem?_getD,List.getElem?_eq_getElem hj]; exact List.getElem_mem hj
 rcases (part_mem hn hj).mp hq with ⟨hq,_⟩ | hq
 ·exact .inl ⟨q,hq,hx,hne⟩
 ·obtain ⟨c,hc,rfl⟩:=kids_mem.mp hq
  rcases List.prefix_concat_iff.mp hx with e | e
  ·exact absurd e hne
  ·by_cases hp:x=B.getD j []
   ·exact .inr hp
   ·exact .inl ⟨_,hpm,e,hp⟩
theorem sortF_mem {ls:List (List Nat)}{x:List Nat}:x∈sortF ls↔x∈ls:=(vP ls).mem_iff
theorem part_len {m:Nat}(m4:m≤4){B:List (List Nat)}{j:Nat}(hj:j < B.length):(part m B j).length=B.length - 1 + m:=by
 unfold part
 rw [(vP _).length_eq,List.length_append,zcd m m4,List.length_eraseIdx,if_pos hj]
noncomputable def Free (B:List (List Nat))(x:List Nat):Prop:=∀y,y <+: x→y≠[]→y∉B
theorem zcQ {B:List (List Nat)}(acc:List (List Nat)):∀(r l:List Nat),Free B (l++r)→r.foldl (zU B) (acc,l)=(acc,l++r)
 | [],l,_=>by simp
 | c::r,l,h=>by
  have hn:l++[c]∉B:=h _ ⟨r,by simp⟩ (by simp)
  rw [List.foldl_cons]
  have e:zU B (acc,l) c=(acc,l++[c]):=by unfold zU; rw [if_neg hn]
  rw [e,zcQ acc r (l++[c]) (by simpa using h)]
  simp
theorem zbG {B:List (List Nat)}(acc:List (List Nat)):∀(r:List Nat) (a:List (List Nat)) (l:List Nat),r.foldl (zU B) (acc++a,l)=(acc++(r.foldl (zU B) (a,l)).1,(r.foldl (zU B) (a,l)).2)
 | [],a,l=>rfl
 | c::r,a,l=>by
  rw [List.foldl_cons,List.foldl_cons]
  by_cases h:l++[c]∈B
  ·have e1:zU B (acc++a,l) c=(acc++(a++[l++[c]]),[]):=by unfold zU; rw [if_pos h,List.append_assoc]
   have e2:zU B (a,l) c=(a++[l++[c]],[]):=by unfold zU; rw [if_pos h]
   rw [e1,e2]
   exact zbG acc r _ _
  ·have e1:zU B (acc++a,l) c=(acc++a,l++[c]):=by unfold zU; rw [if_neg h]
   have e2:zU B (a,l) c=(a,l++[c]):=by unfold zU; rw [if_neg h]
   rw [e1,e2]
   exact zbG acc r _ _
theorem zdu (B:List (List Nat)):∀(r:List Nat) (s:List (List Nat)×List Nat),Free B s.2→(∀p∈s.1,p∈B)→Free B (r.foldl (zU B) s).2∧(∀p∈(r.foldl (zU B) s).1,p∈B)∧(r.foldl (zU B) s).1.flatten++(r.foldl (zU B) s).2=s.1.flatten++s.2++r
 | [],s,h1,h2=>⟨h1,h2,by simp⟩
 | c :: r,s,h1,h2=>by
  rw [List.foldl_cons]
  by_cases h:s.2++[c]∈B
  ·have e:zU B s c=(s.1++[s.2++[c]],[]):=by unfold zU; rw [if_pos h]
   rw [e]
   obtain ⟨a1,a2,a3⟩:=zdu B r (s.1++[s.2++[c]],[]) (fun y hy hn=>absurd (List.prefix_nil.mp hy) hn) (fun p hp=>by
    rcases List.mem_append.mp hp with hp | hp
    ·exact h2 p hp
    ·rw [List.mem_singleton.mp hp]; exact h)
   exact ⟨a1,a2,by rw [a3]; simp⟩
  ·have e:zU B s c=(s.1,s.2++[c]):=by unfold zU; rw [if_neg h]
   rw [e]
   obtain ⟨a1,a2,a3⟩:=zdu B r (s.1,s.2++[c]) (fun y hy hn=>by
    rcases List.prefix_concat_iff.mp hy with e | e
    ·rw [e]; exact h
    ·exact h1 y e hn) h2
   exact ⟨a1,a2,by rw [a3]; simp⟩
theorem free_nil (B:List (List Nat)):Free B []:=fun y hy hn=>absurd (List.prefix_nil.mp hy) hn
theorem zaO (B:List (List Nat))(l:List Nat):Free B (uc B l).2∧(∀p∈(uc B l).1,p∈B)∧(uc B l).1.flatten++(uc B l).2=l:=by
 have:=zdu B l ([],[]) (free_nil B) (by simp)
 simpa [uc] using this
theorem zbF {B:List (List Nat)}{x:List Nat}(h:Free B x):uc B x=([],x):=by
 have:=zcQ (B:=B) [] x [] (by simpa using h)
 simpa [uc] using this
theorem cut_app (B:List (List Nat))(l r:List Nat):uc B (l++r)=((uc B l).1++(uc B ((uc B l).2++r)).1,(uc B ((uc B l).2++r)).2):=by
 have h1:uc B ((uc B l).2++r)=r.foldl (zU B) ([],(uc B l).2):=by
  have:=zbF (zaO B l).1
  unfold uc at this ⊢
  rw [List.foldl_append,this]
 rw [h1]
 have h2:uc B (l++r)=r.foldl (zU B) (uc B l):=by unfold uc; rw [List.foldl_append]
 rw [h2]
 have:=zbG (B:=B) (uc B l).1 r [] (uc B l).2
 rw [List.append_nil] at this
 exact this
theorem Book.free {m:Nat}{B:List (List Nat)}(h:Book m B){x:List Nat}(hx:Inner B x):Free B x:=fun y hy hn hyB=>by
 obtain ⟨p,hp,hxp,hne⟩:=hx
 have e:=h.pf y hyB p hp (hy.trans hxp)
 subst e
 exact hne (List.IsPrefix.eq_of_length hxp (Nat.le_antisymm hxp.length_le hy.length_le))
theorem Book.cutOne {m:Nat}{B:List (List Nat)}(h:Book m B){p:List Nat}(hp:p∈B):uc B p=([p],[]):=by
 have hne:=h.ne p hp
 have e:p=p.dropLast++[p.getLast hne]:=(List.dropLast_concat_getLast hne).symm
 have hf:Free B p.dropLast:=h.free ⟨p,hp,List.dropLast_prefix p,fun z=>by
  have:=congrArg List.length z
  rw [List.length_dropLast] at this
  have:=List.length_pos_iff.mpr hne
  omega⟩
 have h1:=zbF hf
 rw [e]
 unfold uc at h1 ⊢
 rw [List.foldl_append,h1]
 show zU B ([],p.dropLast) (p.getLast hne)=_
 unfold zU
 rw [if_pos (by rw [← e]; exact hp)]
 rfl
theorem Book.cutSome {m:Nat}{B:List (List Nat)}(h:Book m B):∀ps:List (List Nat),(∀p∈ps,p∈B)→uc B ps.flatten=(ps,[])
 | [],_=>rfl
 | p::r,hp=>by
  rw [List.flatten_cons,cut_app,h.cutOne (hp p List.mem_cons_self)]
  have:=Book.cutSome h r fun q hq=>hp q (List.mem_cons_of_mem _ hq)
  simp only [List.nil_append,this]
  rfl
inductive Gr (m:Nat):Nat→List (List Nat)→Prop
 | z:Gr m 0 (kids m [])
 | s {t:Nat}{B:List (List Nat)}{j:Nat}:Gr m t B→j < B.length→Gr m (t + 1) (part m B j)
theorem Gr.book {m:Nat}(m2:2≤m)(m4:m≤4){t:Nat}{B:List (List Nat)}(h:Gr m t B):Book m B:=by
 induction h with
 | z=>exact Book.letters m2 m4
 | s _ hj ih=>exact ih.part hj
theorem Gr.len {m:Nat}(m2:2≤m)(m4:m≤4){t:Nat}{B:List (List Nat)}(h:Gr m t B):B.length=m + t * (m - 1):=by
 induction h with
 | z=>rw [zcd m m4]; omega
 | s _ hj ih =>
  rename_i B' t' _
  rw [part_len m4 hj,ih,Nat.add_mul]
  generalize _ * (m - 1)=z
  omega
theorem Gr.short {m:Nat}(m2:2≤m)(m4:m≤4){t:Nat}{B:List (List Nat)}(h:Gr m t B):∀p∈B,p.length≤t + 1:=by
 induction h with
 | z=>intro p hp; obtain ⟨c,_,rfl⟩:=kids_mem.mp hp; simp
 | s g hj ih =>
  rename_i t' B' j
  intro p hp
  have hpm:B'.getD j []∈B':=by rw [List.getD_eq_getElem?_getD,List.getElem?_eq_getElem hj]; exact List.getElem_mem hj
  rcases (part_mem (g.book m2 m4).nd hj).mp hp with ⟨hp,_⟩ | hp
  ·have:=ih p hp; omega
  ·obtain ⟨c,_,rfl⟩:=kids_mem.mp hp
   have:=ih _ hpm
   rw [List.length_append]
   show _ + 1≤_
   omega
theorem Gr.inner {m:Nat}(m2:2≤m)(m4:m≤4){t:Nat}{B:List (List Nat)}(h:Gr m t B):∃L:List (List Nat),L.length=t + 1∧∀x,Inner B x→x∈L:=by
 induction h with
 | z =>
  refine ⟨[[]],rfl,fun x hq35=>?_⟩
  obtain ⟨p,hp,hx,hn⟩:=hq35
  obtain ⟨c,_,rfl⟩:=kids_mem.mp hp
  rcases List.prefix_concat_iff.mp hx with e | e
  ·exact absurd e hn
  ·rw [List.prefix_nil.mp e]; simp
 | s g hj ih =>
  rename_i t' B' j
  obtain ⟨L,h1,h2⟩:=ih
  refine ⟨L++[B'.getD j []],by simp [h1],fun x hx=>?_⟩
  rcases zbA m2 m4 (g.book m2 m4).nd hj hx with h | h
  ·exact List.mem_append_left _ (h2 x h)
  ·rw [h]; simp
theorem Gr.keys {m:Nat}(m2:2≤m)(m4:m≤4){t:Nat}{B:List (List Nat)}(h:Gr m t B):(yw B).length≤t + 1:=by
 obtain ⟨L,h1,h2⟩:=h.inner m2 m4
 rw [← h1]
 exact (uz B).length_le_of_subset fun x hx=>h2 x (innerKeys_mem.mp hx)
end My
namespace L2
open PySem PySem.Spec PyProof.Rows
section
variable {prog:Program}{w:World}{A:Around}{E:Value→Shared→Prop}{s:Shared}
theorem collect_tup {l:Addr}{vs:List Value}{Q:List Value→Shared→Prop}(hl:IsTup s.heap l vs.toArray)
  (h:Q vs { s with heap:=(s.heap.push (seqObj "list" #[] 0)).update s.heap.objs.size (Obj.mapSeq (· ++ vs.toArray)) }) (hsz:vs.length≤sizeLine) :
  wpAny (model prog w) A (collect (.ref l)) Q E s:=by
 obtain ⟨o,ho,hc,n,hd⟩:=id hl
 unfold collect
 refine wpAny_bind (wpAny_runValue (codeAny_builtin entry_proto_collect' ?_))
 show wpAny _ _ (do again (.builtin "list.__iadd__" ⟨[← newList [],.ref l],[]⟩)) _ _ s
 refine wpAny_bind (wpAny_newList (wpAny_pure ⟨Code.quiet_builtin _ (by decide +kernel),codeAny_builtin entry_list_iadd' ?_⟩))
 show wpAny _ _ (Builtin.List.listExtendWith (.ref s.heap.objs.size) (.ref l) (.ref s.heap.objs.size)) _ _ { s with heap:=s.heap.push (seqObj "list" #[] 0) }
 unfold Builtin.List.listExtendWith
 have ho':(s.heap.push (seqObj "list" #[] 0)).get? l=some o:=Heap.get?_push_of_some _ ho
 refine wpAny_bind (wpAny_typeOf (T := "tuple") ⟨o,ho',hc⟩ ?_)
 have ht:(Value.type "tuple" == Value.type "tuple")=true:=by rfl
 rw [if_pos (by rw [ht]; simp)]
 refine wpAny_bind (listItems_at ho' hd ?_)
 refine wpAny_bind (listItems_at (xs:=#[]) (n:=0) (Heap.get?_push_size _ rfl) rfl ?_)
 rw [if_neg (by simp)]
 refine wpAny_bind (listUpdate_at (xs:=#[]) (n:=0) (Heap.get?_push_size _ rfl) rfl ?_ (Nat.zero_le _) (by show (#[]++vs.toArray).size≤sizeLine + 1; simp only [Array.size_append,List.size_toArray,List.length_nil]; omega))
 refine wpAny_pure ?_
 show wpAny (model prog w) A (do
   let o ← load s.heap.objs.size
   match o.data with
   | .seq xs _=>pure xs.toList
   | _=>unsupported "internal:collect") Q E { s with heap:=(s.heap.push (seqObj "list" #[] 0)).update s.heap.objs.size (Obj.mapSeq (· ++ vs.toArray)) }
 refine wpAny_bind (wpAny_load (get?_update_seq (Heap.get?_push_size _ rfl) _) ?_)
 show wpAny _ _ (pure ((#[]:Array Value)++vs.toArray).toList) Q E _
 rw [show ((#[]:Array Value)++vs.toArray).toList=vs by simp]
 exact wpAny_pure h
theorem sortedKT {κ:KeyKind}(hO:κ.OneLt){l:Addr}{vs:List Value}{Q:Value→Shared→Prop}(hl:IsTup s.heap l vs.toArray)(h0:KeysOf κ (pairsOf vs))(hkk:∀v₁ v₂ rest,vs=v₁::v₂::rest→keyKind' (v₁::v₂::rest).toArray=pure oneType')(h64:vs.length < 64)
  (h:∀st':SortSt,(arrOf st').Perm (pairsOf vs)→SortedToK κ (arrOf st') (pairsOf vs).size→Q (.ref (s.heap.objs.size + 1)) { s with heap:=sortedAll s.heap vs ((arrOf st').map (·.2)) }) :
  wpAny (model prog w) A (call (.builtin "sorted") [.ref l]) Q E s:=by
 have hz:vs.length≤sizeLine:=by rw [sizeLine_eq]; omega
 refine Calls.call_function_entry kind_sorted plain_sorted entry_sorted (args_sorted1 _) ?_
 unfold Builtin.«sorted»
 refine wpAny_bind (m:=checkCount "sorted" 1 1 _) (wpAny_pure ?_)
 refine wpAny_bind (collect_tup hl ?_ hz)
 refine wpAny_bind (wpAny_newList ?_)
 have hsz:((s.heap.push (seqObj "list" #[] 0)).update s.heap.objs.size (Obj.mapSeq (· ++ vs.toArray))).objs.size=s.heap.objs.size + 1:=by
  rw [Heap.size_update,size_push']
 have hoL:(((s.heap.push (seqObj "list" #[] 0)).update s.heap.objs.size (Obj.mapSeq (· ++ vs.toArray))).push (seqObj "list" vs.toArray 0)).get? (s.heap.objs.size + 1)=some (seqObj "list" vs.toArray 0):=by
  rw [← hsz]; exact Heap.get?_push_size _ rfl
 show wpAny _ _ _ _ _ { s with heap:=((s.heap.push (seqObj "list" #[] 0)).update s.heap.objs.size (Obj.mapSeq (· ++ vs.toArray))).push (seqObj "list" vs.toArray 0) }
 rw [hsz]
 refine wpAny_bind (wpAny_holding (wpAny_call_entry slot_list_sort ⟨_,hoL,rfl⟩ entry_list_sort (list_sort_treeK hO hoL h0 hkk h64 fun st' a1 a2=>⟨_,rfl,?_⟩) (args_list_sort _)))
 exact wpAny_pure ⟨_,rfl,h st' a1 a2⟩
end
section
variable {X:Cx}
theorem zcZ:qL X (.builtin "sorted") (fun xs H Q=>∃a ls,xs=[.ref a]∧SqT X.K H a (vT ls)∧ls.length < 64∧∀p ms,H p=none→ms.Perm ls→Srt ms→Q (.ref p) (upd H p (.lst (vT ms)))):=by
 intro pins s σ H xs us Q I r h
 obtain ⟨a,ls,rfl,ha,h64,q⟩:=h
 obtain ⟨u,rfl,ru⟩:=vals1 r
 cases ru
 obtain ⟨its,rv,pl,hz⟩:=I.tuple ha
 rw [vT_T] at rv
 have hl:=rv.length
 simp only [List.length_map] at hl
 have hS:=jE rv
 refine sortedKT strKind_oneLt pl hS.keysOf (fun v₁ v₂ rest e=>keyKind_strs (by rw [← e]; exact hS)) (by omega) fun st' hp hs=>?_
 obtain ⟨ss',h1,h2,h3⟩:=sorted_out_str hS hp hs
 have hS:=srt_of h3
 have hP:(ss'.map fun x=>x.cps.toList).Perm ls:=by
  have:=h2.map fun x:Str=>x.cps.toList
  rw [List.map_map] at this
  have e:ls.map ((fun x:Str=>x.cps.toList)∘T)=ls:=by
   have:((fun x:Str=>x.cps.toList)∘T)=id:=funext fun l=>za8 l
   rw [this,List.map_id]
  rw [e] at this
  exact this
 obtain ⟨c,hat⟩:=sortedAll_at s.heap its ((arrOf st').map (·.2))
 have hlen:ss'.length=ls.length:=by have:=h2.length_eq; simpa using this
 refine ⟨.ref (s.heap.objs.size + 1),_,I.laid (t':=s.toks) (o:=.lst (vT (ss'.map fun x=>x.cps.toList))) (fun b o e=>sortedAll_old e) (Nat.le_succ _) ?_,rfl,q _ _ (I.hok.fresh (Nat.le_succ _)) hP hS⟩
 refine ⟨?_,((arrOf st').map (·.2)).toList,c,?_,by rw [Array.toArray_toList]; exact hat⟩
 ·rw [← vT_str,List.length_map,sizeLine_eq]; omega
 ·rw [← vT_str]; exact zaC h1
end
end L2
namespace My
theorem inner_iff {ps:List (List Nat)}{x:List Nat}:isInner ps x=true↔Inner ps x:=by
 unfold isInner Inner
 rw [List.any_eq_true]
 constructor
 ·rintro ⟨p,hp,e⟩
  rw [Bool.and_eq_true,List.isPrefixOf_iff_prefix,Bool.not_eq_true',decide_eq_false_iff_not] at e
  exact ⟨p,hp,e.1,fun z=>e.2 z.symm⟩
 ·rintro ⟨p,hp,e,hn⟩
  refine ⟨p,hp,?_⟩
  rw [Bool.and_eq_true,List.isPrefixOf_iff_prefix,Bool.not_eq_true',decide_eq_false_iff_not]
  exact ⟨e,fun z=>hn z.symm⟩
theorem apart_iff {ps:List (List Nat)}{x:List Nat}:xT ps x=true↔∀p∈ps,¬x <+: p∧¬p <+: x:=by
 unfold xT
 rw [Bool.not_eq_true',List.any_eq_false]
 constructor
 ·intro h p hp
  have:=h p hp
  rw [Bool.or_eq_true,List.isPrefixOf_iff_prefix,List.isPrefixOf_iff_prefix] at this
  exact ⟨fun z=>this (.inl z),fun z=>this (.inr z)⟩
 ·intro h p hp
  rw [Bool.or_eq_true,List.isPrefixOf_iff_prefix,List.isPrefixOf_iff_prefix]
  exact fun z=>z.elim (h p hp).1 (h p hp).2
theorem goneOn_in {m:Nat}{xs:List (List Nat)}{x:List Nat}{c:Nat}(hx:x∈xs)(hc:c∈abcd.take m):x++[c]∈zR m xs:=by
 unfold zR
 exact List.mem_flatMap.mpr ⟨x,hx,List.mem_map.mpr ⟨c,hc,rfl⟩⟩
theorem Book.nilInner {m:Nat}{B:List (List Nat)}(h:Book m B):Inner B []:=by
 obtain ⟨p,hp,_⟩:=h.cv [] (fun c hc=>by cases hc)
 exact ⟨p,hp,List.nil_prefix,fun z=>h.ne p hp z.symm⟩
theorem Book.innerLet {m:Nat}{B:List (List Nat)}(h:Book m B){x:List Nat}(hx:Inner B x):LetOk m x:=by
 obtain ⟨p,hp,hxp,_⟩:=hx
 exact (h.let_ p hp).pre hxp
theorem Book.step {m:Nat}{B:List (List Nat)}(h:Book m B){x:List Nat}(hx:Inner B x){c:Nat}(hc:c∈abcd.take m):(Inner B (x++[c])∧x++[c]∉B)∨(¬Inner B (x++[c])∧x++[c]∈B):=by
 have hnot:Inner B (x++[c])→x++[c]∉B:=fun hi=>h.free hi _ (List.prefix_refl _) (by simp)
 by_cases hB:x++[c]∈B
 ·exact .inr ⟨fun hi=>hnot hi hB,hB⟩
 ·refine .inl ⟨?_,hB⟩
  obtain ⟨q,hq,e⟩:=h.cv (x++[c]) ((h.innerLet hx).app (LetOk.one hc))
  rcases e with e | e
  ·rcases List.prefix_concat_iff.mp e with e | e
   ·exact absurd (e ▸ hq) hB
   ·exact absurd hq (h.free hx q e (h.ne q hq))
  ·exact ⟨q,hq,e,fun z=>hB (z ▸ hq)⟩
theorem zay {m:Nat}(m2:2≤m)(m4:m≤4){B:List (List Nat)}(hb:Book m B){j:Nat}(hj:j < B.length){x:List Nat}:Inner (part m B j) x↔Inner B x∨x=B.getD j []:=by
 have hpm:B.getD j []∈B:=by rw [List.getD_eq_getElem?_getD,List.getElem?_eq_getElem hj]; exact List.getElem_mem hj
 have h97:97∈abcd.take m:=uI m4 (by omega)
 have hk:B.getD j []++[97]∈part m B j:=(part_mem hb.nd hj).mpr (.inr (kids_mem.mpr ⟨97,h97,rfl⟩))
 refine ⟨zbA m2 m4 hb.nd hj,?_⟩
 rintro (⟨p,hp,hx,hne⟩ | rfl)
 ·by_cases e:p=B.getD j []
  ·refine ⟨_,hk,?_,?_⟩
   ·rw [← e]; exact hx.trans (List.prefix_append _ _)
   ·intro z
    have h1:=hx.length_le
    rw [z,← e] at h1
    simp at h1
    omega
  ·exact ⟨p,(part_mem hb.nd hj).mpr (.inl ⟨hp,e⟩),hx,hne⟩
 ·exact ⟨_,hk,List.prefix_append _ _,fun z=>zbS _ _ z.symm⟩
theorem Gr.keysEq {m:Nat}(m2:2≤m)(m4:m≤4){t:Nat}{B:List (List Nat)}(h:Gr m t B):(yw B).length=t + 1:=by
 have key:∃L:List (List Nat),L.Nodup∧L.length=t + 1∧∀x,Inner B x↔x∈L:=by
  induction h with
  | z =>
   refine ⟨[[]],by simp,rfl,fun x=>⟨fun ⟨p,hp,hx,hn⟩=>?_,fun hx=>?_⟩⟩
   ·obtain ⟨c,_,rfl⟩:=kids_mem.mp hp
    rcases List.prefix_concat_iff.mp hx with e | e
    ·exact absurd e hn
    ·rw [List.prefix_nil.mp e]; simp
   ·rw [List.mem_singleton.mp hx]
    exact (Book.letters m2 m4).nilInner
  | s g hj ih =>
   rename_i t' B' j
   obtain ⟨L,h0,h1,h2⟩:=ih
   have hb:=g.book m2 m4
   have hpm:B'.getD j []∈B':=by rw [List.getD_eq_getElem?_getD,List.getElem?_eq_getElem hj]; exact List.getElem_mem hj
   refine ⟨L++[B'.getD j []],List.nodup_append.mpr ⟨h0,by simp,?_⟩,by simp [h1],fun x=>?_⟩
   ·rintro a ha b hb' rfl
    rw [List.mem_singleton.mp hb'] at ha
    exact hb.free ((h2 _).mpr ha) _ (List.prefix_refl _) (hb.ne _ hpm) hpm
   ·rw [zay m2 m4 hb hj,h2,List.mem_append,List.mem_singleton]
 obtain ⟨L,h0,h1,h2⟩:=key
 rw [← h1]
 refine Nat.le_antisymm ((uz B).length_le_of_subset fun x hx=>(h2 x).mp (innerKeys_mem.mp hx)) (h0.length_le_of_subset fun x hx=>innerKeys_mem.mpr ((h2 x).mpr hx))
theorem zaQ:∀(x z s:List Nat),x≤z→z≤x++s→x <+: z
 | [],z,s,_,_=>List.nil_prefix
 | a::x,[],s,h,_=>absurd (List.nil_lt_cons a x) (List.not_lt.mpr h)
 | a::x,b::z,s,h1,h2=>by
  have e:a=b:=by
   have h3:=(List.not_lt.mpr h1)
   have h4:=(List.not_lt.mpr h2)
   rw [List.cons_append] at h4
   have n1:¬b < a:=fun z=>h3 (List.cons_lt_cons_iff.mpr (.inl z))
   have n2:¬a < b:=fun z=>h4 (List.cons_lt_cons_iff.mpr (.inl z))
   omega
  subst e
  refine List.cons_prefix_cons.mpr ⟨rfl,zaQ x z s (List.not_lt.mp fun z=>List.not_lt.mpr h1 (List.cons_lt_cons_iff.mpr (.inr ⟨rfl,z⟩))) (List.not_lt.mp fun z=>List.not_lt.mpr h2 (List.cons_lt_cons_iff.mpr (.inr ⟨rfl,z⟩)))⟩
theorem next_of:∀{l:List (List Nat)},l.Pairwise (· < ·)→∀{x y:List Nat},x∈l→y∈l→x < y→∃z,(x,z)∈l.zip l.tail∧x < z∧z≤y
 | [],_,_,_,h,_,_=>by cases h
 | [a],_,x,y,hx,hy,hlt=>by
  rw [List.mem_singleton.mp hx,List.mem_singleton.mp hy] at hlt
  exact absurd hlt (List.lt_irrefl _)
 | a :: b::r,p,x,y,hx,hy,hlt=>by
  have pp:=List.pairwise_cons.mp p
  rcases List.mem_cons.mp hx with rfl | hx2
  ·rcases List.mem_cons.mp hy with rfl | hy
   ·exact absurd hlt (List.lt_irrefl _)
   ·refine ⟨b,List.mem_cons_self,pp.1 b List.mem_cons_self,?_⟩
    rcases List.mem_cons.mp hy with rfl | hy
    ·exact List.le_refl _
    ·exact List.le_of_lt ((List.pairwise_cons.mp pp.2).1 y hy)
  ·rcases List.mem_cons.mp hy with hy | hy
   ·rw [hy] at hlt
    exact absurd (List.lt_trans hlt (pp.1 x hx2)) (List.lt_irrefl _)
   ·obtain ⟨z,h1,h2⟩:=next_of (l:=b::r) pp.2 hx2 hy hlt
    exact ⟨z,List.mem_cons_of_mem _ h1,h2⟩
end My
namespace L2
open PySem PySem.Spec PyProof.Rows
noncomputable def zcH (P:Program)(w:World)(outer:List Env)(H:Hp)(s:Shared)(E:XK)(e:Value)(s':Shared):Prop :=
 ∃ (a C:Addr) (a0:Value) (H':Hp) (B:Heap),e=.ref a∧s'.os=s.os∧AllBare s'.gens ∧
  (∀b o,s.heap.get? b=some o→b∉frs outer→∃o',B.get? b=some o'∧(H b=none→o'=o)) ∧
  (∀b o,s.heap.get? b=some o→b∈frs outer→∃sl,s'.heap.get? b=some { o with slots:=sl }) ∧
  (∀b o,s.heap.get? b=some o→H b=none→H' b=none) ∧
  (∀b xs,H b=some (.tup xs)→H' b=some (.tup xs))∧(∀b o u,H b=some (.frz o u)→H' b=some (.frz o u))∧(∀b ps,H b=some (.tbl ps)→∃more,H' b=some (.tbl (ps++more))) ∧
  HOk P w H' B∧Heap.FlyingW B outer a (.ref C) a0 s'.heap∧E (.ref C) none H'
noncomputable abbrev CX1 (P:Program)(w:World):CXT:=zcH P w
theorem zb7 {env:Env}{outer:List Env}{L:Addr}(hf:env.frame=some L):frs (env::outer)=L::frs outer:=by
 unfold frs
 rw [List.filterMap_cons,hf]
theorem hok_hide {P:Program}{w:World}{H:Hp}{h:Heap}{l:List Addr}(ok:HOk P w H h)(hl:∀b∈l,H b=none):HOk P w H (PySem.W.hideAll h l):=fun b o e =>
 (ok b o e).stay (fun c u hc q=>PySem.W.hideAll_get l q fun z=>by
  rcases hc with rfl | hc
  ·rw [hl _ z] at e; cases e
  ·rw [hl _ z] at hc; cases hc) (fun _ q=>q) fun _ _ q=>q
section
variable {X:Cx}{pins:List (Addr×Obj)}{σ:St}{H:Hp}{s:Shared}{M:Model}{F:Value→Shared→Prop}{E:XK}
theorem Inv.fr0 (I:Inv X pins σ H s){b:Addr}(hb:b∈X.fs):X.H₀ b=none∧b∉X.ex:=⟨I.ok.frf b hb,fun z=>I.ok.exfs b z hb⟩
theorem fly_raise (I:Inv X pins σ H s)(hst:X.stack=X.env::X.outer)(hfr:X.env.frame=some X.env.locals)(hex:X.ex=[]){e C:Addr}{args:List Value}{h':Heap}
  (hx:Heap.MadeExcOf s.heap h' e (.ref C) args) (hE:E (.ref C) none H) :
  wpAny M X.A (leaving X.env (.ref e)) (fun _ s''=>zcH X.prog X.w X.outer X.H₀ X.s₀ E (.ref e) s'') F { s with heap:=h' }:=by
 have hin:∀env∈X.stack,∀b,env.frame=some b→b∈frs X.stack:=fun env he b hb=>List.mem_filterMap.mpr ⟨env,he,hb⟩
 have hstk:frs X.stack=X.env.locals::frs X.outer:=by rw [hst]; exact zb7 hfr
 have nex:∀b:Addr,b∉X.ex:=fun b z=>by rw [hex] at z; cases z
 refine wpAny_leaves_madeW (base:=PySem.W.hideAll s.heap (frs X.stack)) (h:=s.heap) (outer:=X.outer) (I.ok.frames.trans (by rw [hst])) hfr (fun b o q=>PySem.W.of_hideAll _ q) (by rw [← hst]; exact PySem.W.funFrames_hide I.stack hin) hx fun h2 t x1 x2 x3 x4=>?_
 refine ⟨e,C,.ref t,H,PySem.W.hideAll s.heap (frs X.stack),rfl,I.os,I.bare,fun b o q hb=>?_,fun b o q hb=>?_,fun b o q n=>I.base.free b o q n (nex b),I.base.tups,I.base.frzs,I.base.tbls,hok_hide I.hok I.stkFree,x1,hE⟩
 ·obtain ⟨o1,e1⟩:=I.base.there b o q (nex b)
  refine ⟨o1,PySem.W.hideAll_get _ e1 fun z=>?_,fun n=>?_⟩
  ·rw [hstk] at z
   rcases List.mem_cons.mp z with z | z
   ·exact absurd (Heap.lt_size q) (Nat.not_lt.mpr (z ▸ I.ok.above))
   ·exact hb z
  ·have:=I.base.keep b o q n hb (nex b)
   rw [e1] at this
   exact Option.some.inj this
 ·obtain ⟨sl,e1⟩:=I.base.slot b o q (I.fr0 hb).1 hb (nex b)
  have hb2:b∈X.stack.filterMap (·.frame):=by
   show b∈frs X.stack
   rw [hstk]
   exact List.mem_cons_of_mem _ hb
  obtain ⟨_,o2,e2,nf⟩:=I.stack.mem hb2
  rw [e1] at e2
  obtain rfl:=Option.some.inj e2
  obtain ⟨sl2,e3⟩:=x4 b _ (hx.keeps b _ e1) nf
  exact ⟨sl2,e3⟩
theorem fly_pass (I:Inv X pins σ H s)(hst:X.stack=X.env::X.outer)(hfr:X.env.frame=some X.env.locals)(hex:X.ex=[]){e:Value}{s':Shared}(hf:zcH X.prog X.w X.stack H s E e s') :
  wpAny M X.A (leaving X.env e) (fun _ s''=>zcH X.prog X.w X.outer X.H₀ X.s₀ E e s'') F s':=by
 have hstk:frs X.stack=X.env.locals::frs X.outer:=by rw [hst]; exact zb7 hfr
 have nex:∀b:Addr,b∉X.ex:=fun b z=>by rw [hex] at z; cases z
 obtain ⟨a,C,a0,H',B,rfl,hos,hbare,h1,h2,h3,h4,h5,h6,hok,fly,hE⟩:=hf
 have fly':Heap.FlyingW B (X.env::X.outer) a (.ref C) a0 s'.heap:=by rw [← hst]; exact fly
 refine wpAny_leaves_onW (I.ok.frames.trans (by rw [hst])) hfr fly' fun h2' x1 x2=>?_
 refine ⟨a,C,a0,H',B,rfl,hos.trans I.os,hbare,fun b o q hb=>?_,fun b o q hb=>?_,fun b o q n=>?_,fun b xs q=>h4 b xs (I.base.tups b xs q),fun b o u q=>h5 b o u (I.base.frzs b o u q),fun b ps q=>?_,hok,x1,hE⟩
 ·obtain ⟨o1,e1⟩:=I.base.there b o q (nex b)
  have hbs:b∉frs X.stack:=fun z=>by
   rw [hstk] at z
   rcases List.mem_cons.mp z with z | z
   ·exact absurd (Heap.lt_size q) (Nat.not_lt.mpr (z ▸ I.ok.above))
   ·exact hb z
  obtain ⟨o2,e2,k2⟩:=h1 b o1 e1 hbs
  refine ⟨o2,e2,fun n=>?_⟩
  have e3:=I.base.keep b o q n hb (nex b)
  rw [e1] at e3
  rw [k2 (I.base.free b o q n (nex b))]
  exact Option.some.inj e3
 ·obtain ⟨sl,e1⟩:=I.base.slot b o q (I.fr0 hb).1 hb (nex b)
  have hb2:b∈frs X.stack:=by rw [hstk]; exact List.mem_cons_of_mem _ hb
  obtain ⟨sl2,e2⟩:=h2 b _ e1 hb2
  obtain ⟨_,o3,e3,nf⟩:=fly.2.2.1.mem hb2
  rw [e2] at e3
  obtain rfl:=Option.some.inj e3
  obtain ⟨sl3,e4⟩:=x2 b _ e2 nf
  exact ⟨sl3,e4⟩
 ·obtain ⟨o1,e1⟩:=I.base.there b o q (nex b)
  exact h3 b o1 e1 (I.base.free b o q n (nex b))
 ·obtain ⟨m1,e1⟩:=I.base.tbls b ps q
  obtain ⟨m2,e2⟩:=h6 b _ e1
  exact ⟨m1++m2,by rw [e2,Array.append_assoc]⟩
end
theorem yR {P:Program}{w:World}{K:PySem.W.Frag}{mg:Str→Option Value}{base:Heap}{N:List Str}{qual:Str}{scope:Scope}{f:Addr}{cd:Value}{A:Around}{outer:List Env}{s:Shared}{H:Hp}{E:XK} :
  zcV (CX1 P w) (zag (CX1 P w) P w K mg base N qual scope f cd A outer s H E) E:=fun pins σ H' s' e s'' I hf=>fly_pass I rfl rfl rfl hf
theorem Fun.okX {P:Program}{w:World}{K:PySem.W.Frag}{mg:Str→Option Value}{base:Heap}{x qual:Str}{st:Stmt}{f:Addr}{fd:FuncData}{N ps:List Str}{k:Nat}{sp:Sp}(F:Fun K x qual st f fd)(S:FnScope N ps (zm st))(len:∀vs H Q E,sp vs H Q E→vs.length=ps.length)
  (hbody:∀(cdv:Value) (A:Around) (outer:List Env) (s:Shared) (H:Hp) (vs:List V) (Q:VK) (E:XK),Room k (A.deeper (envOfC qual (zm st) s.heap.objs.size f cdv))→sp vs H Q E →
   ∃t,PSs (zag (CX1 P w) P w K mg base N qual (zm st) f cdv A outer s H E) (zH st) t∧t { nx:=fun _ H'=>Q .non H',rt:=Q } (start N vs) H):FnOk P w K mg base (CX1 P w) (k + 1) f fd ps sp:=by
 obtain ⟨oc,od,kV,doc,pm,an,cdv,ct,osl,rfl,lk,hcd⟩:=F.ex
 exact fn_of lk hcd S len fun A outer s H vs Q E hr hsp=>hbody cdv A outer s H vs Q E hr hsp
theorem PS.nox {X:Cx}{st:Stmt}{t:TS}(h:PS X.nox st t):PS X st t:=fun pins s σ H D I hw =>
 wpAny_mono (h pins s σ H D (I.wish _) hw) (fun _ _ q=>q.unwish) fun _ _ z=>False.elim z
theorem PA.nox {X:Cx}{es:List Expr}{t:TA}(h:PA X.nox es t):PA X es t:=fun pos pins s σ H Q I hw =>
 wpAny_mono (h pos pins s σ H Q (I.wish _) hw) (fun _ _ ⟨v,H',I',r,q⟩=>⟨v,H',I'.unwish,r,q⟩) fun _ _ z=>False.elim z
structure Own (K:PySem.W.Frag)(mg:Str→Option Value)(x:Str) where
 C:Addr
 mgx:mg x=some (.ref C)
 exc:PySem.W.excIn K C [.type "ValueError", .type "Exception", .type "BaseException", .type "object"] "ValueError.__new__" = true
inductive ExcD (o:Option Obj)(A:Option Addr→ClassData→Array (Option Value)→Bool):Prop
 | mk (dd:Option Addr) (cd:ClassData) (sl:Array (Option Value)) (e:o=some ⟨.type "type", dd,.cls cd,sl⟩) (q:A dd cd sl=true)
inductive ExcR (x:List Value)(y:List (Option Value))(A:Addr→List Value→Option Value→Option Value→Option Value→Option Value→String→Option Value→Bool):Prop
 | mk (C':Addr) (bm:List Value) (k0 k1 k2 k3:Option Value) (n:String) (k5:Option Value) (e:x=.ref C'::bm) (f:y=[k0,k1,k2,k3,some (.builtin n),k5]) (q:A C' bm k0 k1 k2 k3 n k5=true)
inductive ExcO (h:Heap)(C:Addr)(bmB:List Value)(newId:String):Prop
 | mk (bm:List Value) (N:Addr) (nm qn:Str) (bs:List Value) (hdct:Bool) (sn:List Str) (sub:List Value) (ab:Bool) (col:Option Bool) (dd:Option Addr) (k0 k1 k2 k3 k5:Option Value) (mN:Str→Option Value)
   (hC:h.get? C=some (excClassObj nm qn C N bs bm hdct sn sub ab col dd k0 k1 k2 k3 k5 newId)) (hN:h.Ns N mN) (hni:mN "__init__" = none) (T:OwnTail h bmB bm)
theorem exc_m6 {o:Option Obj}{A:Option Addr→ClassData→Array (Option Value)→Bool}(q:PySem.W.excIn.match_6 (fun _=>Bool) o A (fun _=>false)=true):ExcD o A:=by
 rcases o with _ | ⟨c,dd,da,sl⟩
 ·exact absurd q Bool.false_ne_true
 ·cases c
  all_goals first | exact absurd q Bool.false_ne_true | skip
  rename_i s
  by_cases hs:s = "type"
  ·subst hs
   cases da
   all_goals first | exact absurd q Bool.false_ne_true | exact ⟨_,_,_,rfl,q⟩
  ·delta PySem.W.excIn.match_6 at q
   exact absurd ((dif_neg hs).symm.trans q) Bool.false_ne_true
theorem exc_m1 {x:List Value}{y:List (Option Value)}{A:Addr→List Value→Option Value→Option Value→Option Value→Option Value→String→Option Value→Bool}(q:PySem.W.excIn.match_1 (fun _ _=>Bool) x y A (fun _ _=>false)=true):ExcR x y A:=by
 rcases x with _ | ⟨v,bm⟩
 ·exact absurd q Bool.false_ne_true
 cases v
 all_goals first | exact absurd q Bool.false_ne_true | skip
 rcases y with _ | ⟨k0,_ | ⟨k1,_ | ⟨k2,_ | ⟨k3,_ | ⟨k4,y⟩⟩⟩⟩⟩
 all_goals first | exact absurd q Bool.false_ne_true | skip
 rcases k4 with _ | k4
 ·exact absurd q Bool.false_ne_true
 cases k4
 all_goals first | exact absurd q Bool.false_ne_true | skip
 rcases y with _ | ⟨k5,_ | ⟨k6,y⟩⟩
 all_goals first | exact absurd q Bool.false_ne_true | exact ⟨_,_,_,_,_,_,_,_,rfl,rfl,q⟩
theorem exc_obj {K:PySem.W.Frag}{h:Heap}{C:Addr}{bmB:List Value}{newId:String}(X:K.In h)(q:PySem.W.excIn K C bmB newId=true):ExcO h C bmB newId:=by
 obtain ⟨dd,cd,sl,ho,q⟩:=exc_m6 q
 obtain ⟨C',bm,k0,k1,k2,k3,n,k5,hm,hs,q⟩:=exc_m1 q
 simp only [Bool.and_eq_true,beq_iff_eq,Bool.not_eq_true'] at q
 obtain ⟨⟨⟨⟨⟨rfl,rfl⟩,hdel⟩,ht⟩,hok⟩,hni⟩:=q
 obtain ⟨nm,bs,mro,ns,qn,hd,sn,sub,ab,col,del⟩:=cd
 obtain ⟨l⟩:=sl
 dsimp only at hm hdel hok hni hs
 subst hm hdel hs
 exact ⟨bm,ns,nm,qn,bs,hd,sn,sub,ab,col,dd,k0,k1,k2,k3,k5,_,X _ _ ho,.of_isNs (PySem.W.isNs_of_in X hok),PySem.W.nsMap_none_of_in X hok hni,PySem.W.tail_of_in X ht⟩
noncomputable def tRaise (C:Addr)(E:XK)(t:TA):TS:=fun _ σ H=>t σ H fun vs H1=>vs.length≤3∧E (.ref C) none H1
section
variable {P:Program}{w:World}{K:PySem.W.Frag}{mg:Str→Option Value}{base:Heap}{N:List Str}{qual:Str}{scope:Scope}{f:Addr}{cd:Value}{A:Around}{outer:List Env}{s₁:Shared}{H₁:Hp}{E:XK}
theorem ps_raise {x:Str}{e₀:Expr}{rest:List Expr}{np cpos pos:Pos}{t:TA}(O:Own K mg x)(hg:Gl (zag (CX1 P w) P w K mg base N qual scope f cd A outer s₁ H₁ E) x)
  (ha:PA (zag (CX1 P w) P w K mg base N qual scope f cd A outer s₁ H₁ E) (e₀::rest) t)
  (he:starEach (e₀::rest) (zag (CX1 P w) P w K mg base N qual scope f cd A outer s₁ H₁ E).env=(false,eval e₀ (zag (CX1 P w) P w K mg base N qual scope f cd A outer s₁ H₁ E).env)::starEach rest (zag (CX1 P w) P w K mg base N qual scope f cd A outer s₁ H₁ E).env:=by rfl)
  (hpl:(backTo cpos (starEach rest (zag (CX1 P w) P w K mg base N qual scope f cd A outer s₁ H₁ E).env)).any (·.1)=false:=by rfl) (hd:(x == ("__debug__" : Str))=false:=by decide) :
  PS (zag (CX1 P w) P w K mg base N qual scope f cd A outer s₁ H₁ E) (.Raise (some (.Call (.Name x np) (e₀::rest) [] cpos)) none pos) (tRaise O.C E t):=by
 intro pins s σ H D I h
 obtain ⟨tl,Na,nm,q,bs,hdct,sn,sub,ab,col,dd,k0,k1,k2,k3,k5,mN,hC,hN,hni,T⟩:=exc_obj I.ok.mod.kin O.exc
 refine wpAny_Raise_call_subT (C:=O.C) (nm:=nm) (q:=q) (N:=Na) (bs:=bs) (bm:=tl) (hdct:=hdct) (sn:=sn) (sub:=sub) (ab:=ab) (col:=col) (dd:=dd) (k0:=k0) (k1:=k1) (k2:=k2) (k3:=k3) (k5:=k5)
  PySem.F.excBase_ValueError (mN:=mN) (T.hasType PySem.F.excBase_ValueError.hasBase) (I.ok.hd rfl) (by rw [he]; show (false || (backTo cpos (starEach rest (zag (CX1 P w) P w K mg base N qual scope f cd A outer s₁ H₁ E).env)).any (·.1))=false; rw [hpl]; rfl) hni (jJ I hg O.mgx ⟨rfl,?_⟩ hd)
 have h':=ha cpos pins s σ H _ I h
 rw [he] at h' ⊢
 refine Calls.evalArgs_plain (wpAny_mono h' (fun us s₂ ⟨vs,H2,I2,r,hz,q⟩=>⟨rfl,?_,I2.bk _ _ hC,hN.keeps I2.bk,T.keeps I2.bk,fun h'' e hm=>fly_raise I2 rfl rfl rfl hm q⟩) fun _ _ y=>y)
 rw [← r.length,sizeLine_eq]
 omega
end
end L2
namespace L2
open PySem PySem.Spec PyProof.Rows
noncomputable def excAt (a C:Addr):HO:=.ext fun h=>∃o,h.get? a=some o∧o.cls=.ref C
noncomputable abbrev Cx.hand (X:Cx)(a:Addr):Cx:={ X with A:=X.A.mark (some (.ref a)),calm:=false,xe:=fun _ _=>False }
section
variable {X:Cx}{pins:List (Addr×Obj)}{σ:St}{H:Hp}{s:Shared}
theorem Cx.Ok.hand (ok:X.Ok)(a:Addr):(X.hand a).Ok :=
 ⟨ok.mod,ok.kind,ok.glob,ok.blt,ok.above,ok.inj,ok.has,ok.cab,fun z=>(by cases z),ok.frames,ok.stk,ok.exf,ok.bs,ok.bsz,ok.noex,ok.exfs,ok.funs,ok.frf⟩
theorem Inv.hand (I:Inv X pins σ H s)(a:Addr):Inv (X.hand a) pins σ H s:=⟨I.ok.hand a,I.os,I.bare,I.base,I.loc,I.cell,I.free,I.freeC,I.pin,I.hok,I.len⟩
theorem Inv.unhand {a:Addr}(ok:X.Ok)(I:Inv (X.hand a) pins σ H s):Inv X pins σ H s:=⟨ok,I.os,I.bare,I.base,I.loc,I.cell,I.free,I.freeC,I.pin,I.hok,I.len⟩
theorem Inv.gone {h':Heap}{m':Str→Option Value}{t':Nat}(I:Inv X pins σ H s)(hn:h'.Ns X.env.locals m')(hs:Heap.SameBut X.env.locals s.heap h'):Inv X pins (List.replicate X.N.length none) H { s with heap:=h',toks:=t' }:=by
 have cne:=I.cne
 obtain ⟨m,hn0,hl⟩:=id I.loc
 obtain ⟨oL,_,_,hoL,_⟩:=id hn0
 refine ⟨I.ok,I.os,I.bare,⟨fun b o e n hb hx=>?_,fun b o e n hb hx=>?_,I.base.free,fun b o e hx=>?_,I.base.tups,I.base.frzs,I.base.tbls⟩,⟨m',hn,fun j y v' e1 e2 e3=>?_⟩,fun y c e=>?_,I.free,I.freeC,fun p hp=>?_,fun b ob e=>?_,by simp⟩
 ·exact (hs.2 b (Nat.ne_of_lt (Nat.lt_of_lt_of_le (Heap.lt_size e) I.ok.above))).trans (I.base.keep b o e n hb hx)
 ·obtain ⟨sl,e1⟩:=I.base.slot b o e n hb hx
  exact ⟨sl,(hs.2 b (Nat.ne_of_lt (Nat.lt_of_lt_of_le (Heap.lt_size e) I.ok.above))).trans e1⟩
 ·obtain ⟨o',e1⟩:=I.base.there b o e hx
  exact ⟨o',(hs.2 b (Nat.ne_of_lt (Nat.lt_of_lt_of_le (Heap.lt_size e) I.ok.above))).trans e1⟩
 ·rw [List.getElem?_replicate] at e2
  split at e2 <;> cases e2
 ·obtain ⟨w',z⟩:=I.cell y c e
  exact ⟨w',z.sameBut hs (cne y c e)⟩
 ·obtain ⟨e,n,ne,nf,d⟩:=I.pin p hp
  exact ⟨(hs.2 p.1 ne).trans e,n,ne,nf,d⟩
 ·refine (I.hok b ob e).stay (fun c w' hc q=>(hs.2 c ?_).trans q) (fun _ q=>q) fun _ _ q=>q
  rintro rfl
  rcases hc with z | hc
  ·rw [← z,I.free] at e; cases e
  ·rw [I.free] at hc; cases hc
end
section
variable {M:Model}{A:Around}{E:Value→Shared→Prop}{s:Shared}
theorem zbc {K:PySem.W.Frag}{e C C0:Addr}{oe:Obj}{Q:Bool→Shared→Prop}(X:K.In s.heap)(he:s.heap.get? e=some oe)(hc:oe.cls=.ref C)
  (x0:PySem.W.excIn K C0 [.type "ValueError", .type "Exception", .type "BaseException", .type "object"] "ValueError.__new__" = true) (sub:PySem.W.subIn K (.ref C) (.ref C0)=some true) (h:Q true s):wpAny M A (excMatches (.ref e) (.ref C0)) Q E s:=by
 obtain ⟨tl,Na,nm,q,bs,hdct,sn,sub',ab,col,dd,k0,k1,k2,k3,k5,mN,hC,hN,hni,T⟩:=exc_obj X x0
 have hcB:(Value.ref C0::tl).contains (.type "BaseException")=true:=by rw [List.contains_cons,T.hasType PySem.F.excBase_ValueError.hasBase,Bool.or_true]
 have L:PySem.W.Looks M s.heap (isSubtype (.ref C) (.ref C0)) true:=PySem.W.looks_subIn X sub
 obtain ⟨hp,g,d,tk,os⟩:=s
 have f:=tc_notTuple
 unfold excMatches
 repeat (first | (with_reducible refine wpAny_loadPart_at he ?_; rw [hc]) | with_reducible refine wpAny_loadPart_at hC ?_ | (with_reducible refine wpAny_isSubtype_exc hC ?_; rw [hcB]) | wp_step)
 refine L.at ?_
 repeat wp_step
 exact h
end
theorem objThere {P:Program}{w:World}{H:Hp}{h:Heap}{a:Addr}{o:HO}(x:ObjOk P w H h a o):∃ob,h.get? a=some ob:=by
 cases o with
 | lst xs=>obtain ⟨_,_,_,_,e⟩:=x; exact ⟨_,e⟩
 | tup xs=>obtain ⟨_,_,_,ob,e,_⟩:=x; exact ⟨_,e⟩
 | dK kvs=>obtain ⟨_,_,_,_,o,_,_,e,_⟩:=x; exact ⟨_,e⟩
 | dT kvs=>obtain ⟨_,_,_,_,o,_,_,e,_⟩:=x; exact ⟨_,e⟩
 | set S n=>obtain ⟨o,_,_,_,e,_⟩:=x; exact ⟨_,e⟩
 | ins C dx fs=>obtain ⟨_,_,_,e,_⟩:=x; exact ⟨_,e⟩
 | own y=>exact x
 | xd fs=>obtain ⟨_,⟨_,_,_,e,_⟩,_⟩:=x; exact ⟨_,e⟩
 | rng lo hi=>obtain ⟨_,_,_,e⟩:=x; exact ⟨_,e⟩
 | frz ob u=>obtain ⟨e,_⟩:=x; exact ⟨_,e⟩
 | tbl ps=>exact ⟨_,x⟩
 | met f y=>exact ⟨_,x⟩
 | ext φ=>obtain ⟨_,e,_⟩:=x; exact e
theorem flown_un {outer:List Env}{H H':Hp}{B h h':Heap}(frf:∀b∈frs outer,H b=none)
  (h1:∀b o,h.get? b=some o→b∉frs outer→∃o',B.get? b=some o'∧(H b=none→o'=o)) (h2:∀b o,h.get? b=some o→b∈frs outer→∃sl,h'.get? b=some { o with slots:=sl })
  (h3:∀b o,h.get? b=some o→H b=none→H' b=none) (h4:∀b xs,H b=some (.tup xs)→H' b=some (.tup xs)) (h5:∀b o u,H b=some (.frz o u)→H' b=some (.frz o u)) (h6:∀b ps,H b=some (.tbl ps)→∃more,H' b=some (.tbl (ps++more)))
  (st:B.StaysIn h'):Un (frs outer) [] H H' h h':=by
 refine ⟨fun b o e n hb _=>?_,fun b o e n hb _=>h2 b o e hb,fun b o e n _=>h3 b o e n,fun b o e _=>?_,h4,h5,h6⟩
 ·obtain ⟨o',e1,k⟩:=h1 b o e hb
  rw [← k n]
  exact st b o' e1
 ·by_cases hb:b∈frs outer
  ·obtain ⟨sl,e1⟩:=h2 b o e hb
   exact ⟨_,e1⟩
  ·obtain ⟨o',e1,_⟩:=h1 b o e hb
   exact ⟨o',st b o' e1⟩
section
variable {X:Cx}{pins:List (Addr×Obj)}{σ:St}{H:Hp}{s s':Shared}{E:XK}{e:Value}{x n:Str}{i:Nat}{b₀:Stmt}{suite:List Stmt}{th:TS}{D:Ends}{np pos:Pos}{rest:List ExceptHandler}
noncomputable def tCatch (K:PySem.W.Frag)(C0:Addr)(i:Nat)(th:TS)(D:Ends)(σ:St):XK:=fun cls _ H'=>∃C,cls=.ref C∧PySem.W.subIn K (.ref C) (.ref C0)=some true ∧
 ∀a,H' a=none→th { nx:=fun _ _=>False,rt:=D.rt } (σ.set i (some (.ref a))) (upd H' a (excAt a C))
theorem caught (I:Inv X pins σ H s)(hst:X.stack=X.env::X.outer)(hfr:X.env.frame=some X.env.locals)(O:Own X.K X.mg x)(hg:Gl X x)(hN:X.N.Nodup)(hi:X.N[i]? = some n)(hlo:X.env.scope.names.lookup n=some .local)
  (hs:∀a,PSs (X.hand a) (b₀::suite) th) (hf:zcH X.prog X.w X.stack H s (tCatch X.K O.C i th D σ) e s') (hd:(x == ("__debug__" : Str))=false:=by decide) :
  wpAny (model X.prog X.w) X.A (noteFrame e X.env) (fun _ s₂=>wpAny (model X.prog X.w) X.A (setFlight e none) (fun _ s₃ =>
   wpAny (model X.prog X.w) X.A (handleBy e X.env (.ExceptHandler (some (.Name x np)) (some n) (b₀::suite) pos::rest)) (SP X pins D) X.xe s₃) X.xe s₂) X.xe s':=by
 have hstk:frs X.stack=X.env.locals::frs X.outer:=by rw [hst]; exact zb7 hfr
 obtain ⟨a,C,a0,H',B,rfl,hos,hbare,h1,h2,h3,h4,h5,h6,hok,fly,C',eC,sub,kk⟩:=hf
 cases eC
 have fly':Heap.FlyingW B (X.env::X.outer) a (.ref C) a0 s'.heap:=by rw [← hst]; exact fly
 have ffr:∀b∈frs X.stack,∃o,s'.heap.get? b=some o∧∀vs,o.data≠.fields vs:=fun b hb=>(fly.2.2.1.mem hb).2
 have slots:∀{h':Heap},s'.heap.UpToSlots h'→∀b o,s.heap.get? b=some o→b∈frs X.stack→∃sl,h'.get? b=some { o with slots:=sl }:=fun {h'} u b o q hb=>by
  obtain ⟨sl,e1⟩:=h2 b o q hb
  obtain ⟨o2,e2,nf⟩:=ffr b hb
  rw [e1] at e2
  obtain rfl:=Option.some.inj e2
  obtain ⟨sl2,e3⟩:=u b _ e1 nf
  exact ⟨sl2,e3⟩
 refine wpAny_looks_onW (I.ok.frames.trans (by rw [hst])) hfr fly' fun h₄ held₄ sm₄=>?_
 refine wpAny_landsW held₄ fun h₅ fly₅ sm₅=>?_
 have sm5:=sm₄.trans sm₅
 have I5:Inv X pins σ H' { s' with heap:=h₅ }:=I.call' hos (flown_un I.stkFree h1 (slots sm5) h3 h4 h5 h6 fly₅.1) (hok.kept fly₅.1) hbare (fun _ z=>nomatch z)
 obtain ⟨ob,hob,hobc⟩:=fly₅.there
 refine wpAny_handleBy_cons (codeAny_handlers_test (jJ (X:=X.hand a) (I5.hand a) hg O.mgx ?_ hd)) (by intro q; cases q)
 refine zbc I5.kIn hob hobc O.exc sub ?_
 refine codeAny_handlers_suite_as ?_
 refine lands_againW fly₅ fun h₆ fly₆ sm₆=>?_
 have sm6:=sm5.trans sm₆
 have hBa:B.get? a=none:=fly₆.2.1
 obtain ⟨oe,vs,he6,hec,hed,_⟩:=fly₆.first
 have hnew:∀o,s.heap.get? a≠some o:=fun o q=>by
  by_cases hb:a∈frs X.stack
  ·obtain ⟨_,o2,e2,nf⟩:=fly₆.2.2.1.mem (by rw [← hst]; exact hb)
   rw [he6] at e2
   obtain rfl:=Option.some.inj e2
   exact nf vs hed
  ·obtain ⟨o',e1,_⟩:=h1 a o q hb
   rw [hBa] at e1; cases e1
 have hHa:H' a=none:=by
  cases q:H' a with
  | none=>rfl
  | some o =>
   obtain ⟨o2,e2⟩:=objThere (hok a o q)
   rw [hBa] at e2; cases e2
 have ok6:HOk X.prog X.w (upd H' a (excAt a C)) h₆:=fun b o q=>by
  by_cases hb:b=a
  ·subst hb
   rw [yd] at q
   obtain rfl:=Option.some.inj q
   exact ⟨⟨oe,he6,hec⟩,⟨oe,he6⟩,fun k1 k2 ⟨o1,e1,c1⟩ kk=>⟨o1,kk o1 e1,c1⟩⟩
  ·rw [zV hb] at q
   exact (hok b o q).stay (fun c u _ e1=>fly₆.1 c u e1) (fun c e1=>by rw [zV (yM e1 hHa)]; exact e1) fun c xs e1=>by rw [zV (yM e1 hHa)]; exact e1
 have un6:Un (frs X.stack) [] H (upd H' a (excAt a C)) s.heap h₆:=flown_un I.stkFree h1 (slots sm6) (fun b o q nn=>by
   have hba:b≠a:=fun z=>by rw [z] at q; exact hnew o q
   rw [zV hba]; exact h3 b o q nn)
  (fun b xs q=>by rw [zV (yM (h4 b xs q) hHa)]; exact h4 b xs q) (fun b o u q=>by rw [zV (yM (h5 b o u q) hHa)]; exact h5 b o u q)
  (fun b ps q=>by obtain ⟨m,q2⟩:=h6 b ps q; exact ⟨m,by rw [zV (yM q2 hHa)]; exact q2⟩) fly₆.1
 have I6:Inv X pins σ (upd H' a (excAt a C)) { s' with heap:=h₆ }:=I.call' hos un6 ok6 hbare (fun _ z=>nomatch z)
 refine zat (X:=X.hand a) (I6.hand a) hN hi (.inl hlo) (v:=.ref a) rfl (fun s₇ I7=>?_) (.inr hlo)
 refine wpAny_mono (hs a pins s₇ _ _ _ I7 (kk a hHa)) (fun f s₈ h8=>?_) fun _ _ z=>False.elim z
 cases f with
 | ret u =>
  obtain ⟨v,σ',H'',J,rv,q⟩:=h8
  have J':Inv X pins σ' H'' s₈:=J.unhand I.ok
  obtain ⟨m,hn0,_⟩:=id J'.loc
  have hcls:(X.env.scope.kind == .class || (X.env.scope.kind == .module&&X.env.locals != X.env.globals))=false:=by rw [I.ok.kind]; rfl
  exact wpAny_nameGoes hlo hn0 hcls fun h9 m9 n9 s9=>⟨v,_,H'',J'.gone n9 s9,rv,q⟩
 | next=>obtain ⟨_,_,_,z⟩:=h8; exact False.elim z
 | brk=>obtain ⟨_,_,_,z⟩:=h8; exact False.elim z
 | cont=>obtain ⟨_,_,_,z⟩:=h8; exact False.elim z
end
end L2
namespace L2
open PySem PySem.Spec PyProof.Rows
structure ExcK (K:PySem.W.Frag)(C:Addr):Prop where
 ga:PySem.W.findIn K (.ref C) "__getattribute__" = some (some (.builtin "BaseException.__getattribute__"))
 gt:PySem.W.findIn K (.ref C) "__getattr__" = some none
 cl:PySem.W.findIn K (.ref C) "__class__" = some (some (.builtin "object.__class__"))
 be:PySem.W.subIn K (.ref C) (.type "BaseException")=some true
 ob:PySem.W.subIn K (.ref C) (.type "object")=some true
 is:(PySem.W.clsIn K C).isSome=true
section
variable {prog:Program}{w:World}{A:Around}{E:Value→Shared→Prop}{h:Heap}{g:Array GenState}{d:Drawn}{t:Nat}{os:OsState}{K:PySem.W.Frag}{a C:Addr}{o:Obj}
theorem zbU {R:Result→Shared→Prop}(z:ExcK K C)(X:K.In h)(hx:h.get? a=some o)(hc:o.cls=.ref C)(hq:R (.ok (.ret (.ref C))) ⟨h,g,d,t,os⟩) :
  codeAny (model prog w) A (.call (.builtin "getset_descriptor.__get__") ⟨[.builtin "object.__class__", .ref a,.ref C],[]⟩) R ⟨h,g,d,t,os⟩:=by
 have hT5:(⟨h,g,d,t,os⟩:Shared).TypeIs (.builtin "object.__class__") "getset_descriptor" := F.typeOf_object_class
 have L:PySem.W.Looks (model prog w) h (isSubtype (.ref C) (.type (".".intercalate ("object.__class__".cutAt '.').dropLast))) true:=by
  rw [F.owner_object_class]
  exact PySem.W.looks_subIn X z.ob
 refine codeAny_call_builtin F.slot_gs_get.plain F.entry_gs_get (F.slot_gs_get.check _ _ _ _ _ _ _ _ hT5 (F.args_gs_get _ _ _) ?_)
 repeat (any_goals (first | assumption | (with_reducible refine wpAny_loadPart_at hx ?_; rw [hc]) | with_reducible refine PySem.W.Looks.at L ?_ | wp_step))
 refine ⟨Code.quiet_builtin _ (by decide +kernel),codeAny_builtin F.entry_object_class ?_⟩
 repeat (any_goals (first | assumption | (with_reducible refine wpAny_loadPart_at hx ?_; rw [hc]) | wp_step))
theorem zaB {tk:Tok}{Q:Fin→Shared→Prop}(z:ExcK K C)(X:K.In h)(hx:h.get? a=some o)(hc:o.cls=.ref C)(hq:Q (.done (.ret (.ref C))) ⟨h,g,d,t,os⟩) :
  wpAny (model prog w) A (Builtin.«object.__getattribute__» ⟨[.ref a,.str "__class__" tk],[]⟩) Q E ⟨h,g,d,t,os⟩:=by
 have hT5:(⟨h,g,d,t,os⟩:Shared).TypeIs (.builtin "object.__class__") "getset_descriptor" := F.typeOf_object_class
 have L:PySem.W.Looks (model prog w) h (typeLookup (.ref C) "__class__") (some (.builtin "object.__class__")):=PySem.W.looks_findIn X z.cl
 have f5:=F.typeOf_object_class
 have f6:=F.slot_gs_get.lookup
 have f7:=F.slot_gs_set.lookup
 repeat (any_goals (first | assumption | (with_reducible refine wpAny_loadPart_at hx ?_; rw [hc]) | with_reducible refine PySem.W.Looks.at L ?_ | wp_step))
 refine zbU z X hx hc ?_
 repeat (any_goals (first | assumption | wp_step))
theorem exc_check {M:Model}{nameV:Value}{Q:Unit→Shared→Prop}(z:ExcK K C)(X:K.In h)(hx:h.get? a=some o)(hc:o.cls=.ref C)(hq:Q () ⟨h,g,d,t,os⟩):wpAny M A (checkBuiltinCall "BaseException.__getattribute__" ⟨[.ref a,nameV],[]⟩) Q E ⟨h,g,d,t,os⟩:=by
 have hk:builtinKind "BaseException.__getattribute__" = some .slot:=by decide +kernel
 have hsplit:splitId "BaseException.__getattribute__" = some ("BaseException", "__getattribute__"):=by decide +kernel
 have L:PySem.W.Looks M h (isSubtype (.ref C) (.type "BaseException")) true:=PySem.W.looks_subIn X z.be
 have ha:=F.args_bexc_ga (.ref a) nameV
 simp only [checkBuiltinCall,hk,hsplit]
 refine wpAny_bind ?_
 unfold isInstance
 repeat (first | (with_reducible refine wpAny_loadPart_at hx ?_; rw [hc]) | with_reducible refine PySem.W.Looks.at L ?_ | wp_step)
 exact hq
theorem zbj {tk:Tok}{R:Result→Shared→Prop}(z:ExcK K C)(X:K.In h)(hx:h.get? a=some o)(hc:o.cls=.ref C)(hq:R (.ok (.ret (.ref C))) ⟨h,g,d,t,os⟩) :
  codeAny (model prog w) A (.call (.builtin "BaseException.__getattribute__") ⟨[.ref a,.str "__class__" tk],[]⟩) R ⟨h,g,d,t,os⟩ :=
 codeAny_call_builtin F.excAttr_ValueError.ga.plain F.entry_bexc_ga (exc_check z X hx hc (zaB z X hx hc hq))
theorem zcl {tk:Tok}{Q:Value→Shared→Prop}(z:ExcK K C)(X:K.In h)(hx:h.get? a=some o)(hc:o.cls=.ref C)(hq:Q (.ref C) ⟨h,g,d,t,os⟩):wpAny (model prog w) A (getAttrBy (.ref a) (.str "__class__" tk) false) Q E ⟨h,g,d,t,os⟩:=by
 have f3:=F.excAttr_ValueError.ga.bind (.ref a)
 have hx2:(Value.builtin "BaseException.__getattribute__" == Value.builtin "object.__getattribute__")=false:=by decide +kernel
 have hx1:(onTheHeap (Value.ref C)&&Value.builtin "BaseException.__getattribute__" == Value.builtin "object.__getattribute__")=false:=by rw [hx2]; rfl
 have L1:PySem.W.Looks (model prog w) h (typeLookup (.ref C) "__getattribute__") (some (.builtin "BaseException.__getattribute__")):=PySem.W.looks_findIn X z.ga
 have L2:PySem.W.Looks (model prog w) h (typeLookup (.ref C) "__getattr__") none:=PySem.W.looks_findIn X z.gt
 repeat (any_goals (first | assumption | (with_reducible refine wpAny_loadPart_at hx ?_; rw [hc]) | with_reducible refine PySem.W.Looks.at L1 ?_ | with_reducible refine PySem.W.Looks.at L2 ?_ | wp_step))
 refine zbj z X hx hc ?_
 repeat (any_goals (first | assumption | wp_step))
theorem zbm {Q:Option Value→Shared→Prop}(z:ExcK K C)(X:K.In h)(hx:h.get? a=some o)(hc:o.cls=.ref C)(hq:Q (some (.ref C)) ⟨h,g,d,t + 1,os⟩):wpAny (model prog w) A (getAttr? (.ref a) "__class__") Q E ⟨h,g,d,t,os⟩:=by
 unfold getAttr? getAttrBy?
 repeat (any_goals (first | assumption | with_reducible apply zcl z X hx hc | wp_step))
end
theorem kitx_exc {K:PySem.W.Frag}{a C:Addr}(z:ExcK K C):PySem.W.KitX K (.ref a) (.ref C) (fun h=>∃o,h.get? a=some o∧o.cls=.ref C) where
 ty:=fun M h X ⟨o,h1,h2⟩=>h2 ▸ (PySem.W.Looks.ld h1).andThen .now
 it := fun _ _ X _=>by
  have hcD:=z.is
  unfold PySem.W.clsIn at hcD
  split at hcD
  ·rename_i c' d' cd' sl' ho
   intro A' Q' E' s' k q
   unfold isType loadHead
   exact wpAny_bind (wpAny_loadPart (k _ _ (X _ _ ho)) (wpAny_pure q))
  ·cases hcD
 ne := fun h tp dd its n sl X htp=>by
  have hcD:=z.is
  refine Bool.eq_false_iff.mpr fun q=>?_
  have e:C=tp:=Value.ref.inj (beq_iff_eq.mp q)
  subst e
  unfold PySem.W.clsIn at hcD
  split at hcD
  ·rename_i c' d' cd' sl' ho
   have z:=(X _ _ ho).symm.trans htp
   cases z
  ·cases hcD
 ca:=fun {_ _ _ _ _ s} X ⟨o,h1,h2⟩ k=>by
  obtain ⟨h,g,d,t,os⟩:=s
  exact zbm z X h1 h2 k
section
variable {X:Cx}
theorem zc1:qL X (.builtin "isinstance") (fun xs H Q=>∃a C v b,xs=[.ref a,v]∧H a=some (excAt a C)∧ExcK X.K C∧((∃C',v=.ref C'∧PySem.W.kitOne X.K (.ref C) (.ref C')=some b)∨(∃n,v=.ty n∧PySem.W.kitOne X.K (.ref C) (.type n)=some b))∧Q (.bl b) H):=by
 intro pins s σ H xs us Q I r h
 obtain ⟨a,C,v,b,rfl,ha,z,hv,q⟩:=h
 obtain ⟨u,u2,rfl,ru,r2⟩:=vals2 r
 cases ru
 have fin:∀tk,EP X pins σ Q (.bool b) { s with toks:=tk }:=fun tk=>⟨.bl b,H,I.tok _,rfl,q⟩
 have hx:∃o,s.heap.get? a=some o∧o.cls=.ref C:=(I.hok a _ ha).1
 rcases hv with ⟨C',rfl,e⟩ | ⟨n,rfl,e⟩
 ·cases r2
  exact PySem.W.kia_one (kitx_exc z) I.kIn hx e (fun z=>nomatch z) fin
 ·cases r2
  exact PySem.W.kia_one (kitx_exc z) I.kIn hx e (fun z=>nomatch z) fin
end
section
variable {X:Cx}{CX:CXT}{k:Nat}{f:Addr}{fd:FuncData}{ps:List Str}{sp:Sp}{E:XK}{x y n:Str}{p np cpos rpos hpos pos:Pos}{e:Expr}{es:List Expr}{t:TA}{i:Nat}{b₀:Stmt}{suite:List Stmt}{th:TS}{more:List ExceptHandler}
theorem run_at {pins:List (Addr×Obj)}{σ:St}{H:Hp}{s:Shared}{Q:VK}{us:List Value}{vs:List V}{F':Value→Shared→Prop}(F:FnOk X.prog X.w X.K X.mg X.base CX k f fd ps sp)(hr:Room k X.A)(hb:Binds X.K fd ps [])
  (hx:∀H s e s',Inv X pins σ H s→CX X.stack H s E e s'→F' e s') (I:Inv X pins σ H s) (r:Vals vs us) (h:sp vs H Q E):wpAny (model X.prog X.w) X.A (call (.ref f) us) (EP X pins σ Q) F' s:=by
 have hl:us.length=ps.length:=by rw [← r.length]; exact F.len _ _ _ _ h
 have hb':=hb s us I.kIn (by rw [List.append_nil]; exact hl)
 rw [List.append_nil] at hb'
 refine wpAny_call (codeAny_mono (F.run X.A X.stack s H ⟨us,[]⟩ us vs Q E hr I.env0 hb' r h) fun r s' hq=>?_)
 cases r with
 | error e=>exact hx H s e s' I hq
 | ok fl =>
  cases fl with
  | ret u=>exact I.after hq
  | next=>exact False.elim hq
  | brk=>exact False.elim hq
  | cont=>exact False.elim hq
end
end L2
namespace L2
open PySem PySem.Spec PyProof.Rows
structure RoomH (k:Nat)(A:Around):Prop where
 dp:A.depth + 3 * k + 5 < recursionLimit
 un:A.units + 16 * k + 200 < cLine
noncomputable abbrev Around.calm0 (A:Around):Around:={ A with handled:=none }
theorem Room.hand {k:Nat}{A:Around}(r:Room k A)(v:Option Value):RoomH k (A.mark v):=⟨r.dp,r.un⟩
theorem RoomH.mono {j k:Nat}{A:Around}(r:RoomH k A)(h:j≤k):RoomH j A:=⟨by have:=r.dp; omega,by have:=r.un; omega⟩
theorem RoomH.off {k:Nat}{A:Around}(r:RoomH (k + 1) A)(env:Env):Room k ((Around.calm0 A).deeper env) :=
 ⟨rfl,by have:=r.dp; show A.depth + 1 + 3 * k + 5 < _; omega,by have:=r.un; show A.units + 3 + 16 * k + 200 < _; omega⟩
structure FnOkH (P:Program)(w:World)(K:PySem.W.Frag)(mg:Str→Option Value)(base:Heap)(k:Nat)(f:Addr)(fd:FuncData)(ps:List Str)(sp:Sp):Prop where
 len:∀vs H Q E,sp vs H Q E→vs.length=ps.length
 run:∀(A:Around) (outer:List Env) (s:Shared) (H:Hp) (args:Args) (us:List Value) (vs:List V) (Q:VK),RoomH k A→Env0 P w K mg base A outer s H→BindsTo s fd args (ps.zip us)→Vals vs us→sp vs H Q E0 →
  codeAny (model P w) A (.call (.ref f) args) (CR CX0 outer P w H s Q E0) s
noncomputable abbrev cxOfH (P:Program)(w:World)(K:PySem.W.Frag)(mg:Str→Option Value)(base:Heap)(N:List Str)(qual:Str)(scope:Scope)(f:Addr)(cd:Value)(A:Around)(outer:List Env)(s:Shared)(H:Hp):Cx :=
 { (zag CX0 P w K mg base N qual scope f cd A outer s H E0) with calm:=false,xe:=fun _ _=>False }
theorem fn_ofH {P:Program}{w:World}{K:PySem.W.Frag}{mg:Str→Option Value}{base:Heap}{k:Nat}{f:Addr}{name qual:Str}{params:Arguments}{body:List Stmt}{scope:Scope}{dV kV doc pm cdv ct oc:Value}{an od:Option Addr}
  {osl:Array (Option Value)}{N ps:List Str}{sp:Sp} (lk:K.lookup f=some ⟨oc,od,.func (PySem.W.fnOf name qual params body scope dV kV doc pm an cdv ct),osl⟩) (hcd:PySem.W.codeIn K cdv qual=true) (S:FnScope N ps scope)
  (len:∀vs H Q E,sp vs H Q E→vs.length=ps.length)
  (hbody:∀(A:Around) (outer:List Env) (s:Shared) (H:Hp) (vs:List V) (Q:VK),Room k ((Around.calm0 A).deeper (envOfC qual scope s.heap.objs.size f cdv))→sp vs H Q E0 →
   ∃t,PSs (cxOfH P w K mg base N qual scope f cdv A outer s H) body t∧t { nx:=fun _ H'=>Q .non H',rt:=Q } (start N vs) H) :
  FnOkH P w K mg base (k + 1) f (PySem.W.fnOf name qual params body scope dV kV doc pm an cdv ct) ps sp:=by
 refine ⟨len,fun A outer s H args us vs Q hr e0 hb r hsp=>?_⟩
 have hl:=len _ _ _ _ hsp
 have KX:K.In s.heap:=e0.mod.kin.keeps fun b o e=>(e0.bs b o e).1
 have lim:s.heap.NoLimit:=e0.mod.nolimit.keeps fun b o e=>(e0.bs b o e).1
 have hkind:∀y∈ps.zip us,scope.names.lookup y.1=some .local∨(scope.names.lookup y.1=some .cell∧((cellsFrom (s.heap.objs.size + 1) scope.names []).lookup y.1).isSome=true):=fun ⟨n,v⟩ hy=>by
  rcases S.par n (List.of_mem_zip hy).1 with q | q
  ·exact .inl q
  ·exact .inr ⟨q,PySem.W.cellsFrom_some _ _ _ (.inl q)⟩
 have hdp:A.depth < recursionLimit:=by have:=hr.dp; omega
 refine codeAny_call_function hdp (KX _ _ lk) rfl S.co S.gen rfl (PySem.W.codeRec_of KX hcd) (hb _ _ _ _ ?_)
 refine wpAny_newFunctionEnv_cells S.kind hkind fun env he s1 x=>?_
 subst he
 refine ⟨lim.keeps x.toInCall.keep,codeAny_func ?_⟩
 obtain ⟨t,ht,hq⟩:=hbody A outer s H vs Q (hr.off _) hsp
 have e0':Env0 P w K mg base (Around.calm0 A) outer s H:=⟨e0.frames,e0.mod,e0.bs,e0.bsz,e0.funs,e0.frf,e0.hok,e0.bare⟩
 have I0:Inv (zag CX0 P w K mg base N qual scope f cdv (Around.calm0 A) outer s H E0) [] (start N vs) H s1:=zcw S rfl e0' hl r x
 have ok:=I0.ok
 have I:Inv (cxOfH P w K mg base N qual scope f cdv A outer s H) [] (start N vs) H s1 :=
  ⟨⟨ok.mod,ok.kind,ok.glob,ok.blt,ok.above,ok.inj,ok.has,ok.cab,fun z=>(by cases z),ok.frames,ok.stk,ok.exf,ok.bs,ok.bsz,ok.noex,ok.exfs,ok.funs,ok.frf⟩,I0.os,I0.bare,I0.base,I0.loc,I0.cell,I0.free,I0.freeC,I0.pin,I0.hok,I0.len⟩
 refine wpAny_mono (ht [] s1 (start N vs) H _ I hq) (fun fl s' hs=>?_) fun e s' hs=>False.elim hs
 have fin:∀{σ':St}{H':Hp}{v:V}{u:Value},Inv (cxOfH P w K mg base N qual scope f cdv A outer s H) [] σ' H' s'→RelV v u→Q v H'→CE outer P w H s Q u s' :=
  fun {σ' H' v u} J rv q=>⟨v,H',J.os,J.bare,J.base,J.hok,rv,q⟩
 cases fl with
 | ret u =>
  obtain ⟨v,σ',H',J,rv,q⟩:=hs
  exact fin J rv q
 | next =>
  obtain ⟨σ',H',J,q⟩:=hs
  exact fin (v:=V.non) (u:=Value.none) J rfl q
 | brk =>
  obtain ⟨_,_,_,q⟩:=hs
  exact False.elim q
 | cont =>
  obtain ⟨_,_,_,q⟩:=hs
  exact False.elim q
theorem Fun.okH {P:Program}{w:World}{K:PySem.W.Frag}{mg:Str→Option Value}{base:Heap}{x qual:Str}{st:Stmt}{f:Addr}{fd:FuncData}{N ps:List Str}{k:Nat}{sp:Sp}(F:Fun K x qual st f fd)(S:FnScope N ps (zm st))(len:∀vs H Q E,sp vs H Q E→vs.length=ps.length)
  (hbody:∀(cdv:Value) (A:Around) (outer:List Env) (s:Shared) (H:Hp) (vs:List V) (Q:VK),Room k ((Around.calm0 A).deeper (envOfC qual (zm st) s.heap.objs.size f cdv))→sp vs H Q E0 →
   ∃t,PSs (cxOfH P w K mg base N qual (zm st) f cdv A outer s H) (zH st) t∧t { nx:=fun _ H'=>Q .non H',rt:=Q } (start N vs) H):FnOkH P w K mg base (k + 1) f fd ps sp:=by
 obtain ⟨oc,od,kV,doc,pm,an,cdv,ct,osl,rfl,lk,hcd⟩:=F.ex
 exact fn_ofH lk hcd S len fun A outer s H vs Q hr hsp=>hbody cdv A outer s H vs Q hr hsp
section
variable {X:Cx}{k:Nat}{f:Addr}{fd:FuncData}{ps:List Str}{sp:Sp}{x:Str}{p pos:Pos}{e:Expr}{es:List Expr}{t:TA}
theorem pe_callH (F:FnOkH X.prog X.w X.K X.mg X.base k f fd ps sp)(hr:RoomH k X.A)(hg:Gl X x)(hm:X.mg x=some (.ref f))(hk:PySem.W.keepIn X.K (.ref f)=true)(hb:Binds X.K fd ps [])(ha:PA X (e::es) t)
  (hdb:(x == ("__debug__" : Str))=false:=by decide) (he:starEach (e::es) X.env=(false,eval e X.env)::starEach es X.env:=by rfl) (hpl:(backTo pos (starEach es X.env)).any (·.1)=false:=by rfl) :
  PE X (.Call (.Name x p) (e::es) [] pos) (tCall sp [] E0 t):=by
 intro pins s σ H Q I h
 refine wpAny_Call_Name_kw (jJ I hg hm ?_ hdb)
 refine PySem.W.callWith_K (h₀:=X.base) I.ok.mod.kin hk (thn (ha pos pins s σ H _ I h) fun us s1 ⟨vs,H1,I1,r,q⟩=>⟨I1.kIn,?_⟩) he hpl
 have q:sp vs H1 Q E0:=by
  have q':sp (vs++[]) H1 Q E0:=q
  rw [List.append_nil] at q'
  exact q'
 have hl:us.length=ps.length:=by rw [← r.length]; exact F.len _ _ _ _ q
 have hb':=hb s1 us I1.kIn (by rw [List.append_nil]; exact hl)
 rw [List.append_nil] at hb'
 refine wpAny_call (codeAny_mono (F.run X.A X.stack s1 H1 ⟨us,[]⟩ us vs Q hr I1.env0 hb' r q) fun r s' hq=>?_)
 cases r with
 | error e=>exact False.elim hq
 | ok fl =>
  cases fl with
  | ret u=>exact I1.after hq
  | next=>exact False.elim hq
  | brk=>exact False.elim hq
  | cont=>exact False.elim hq
end
end L2
namespace L2
open PySem PySem.Spec PyProof.Rows
theorem zaw:bootBuiltins "ValueError" = some (.type "ValueError"):=PyProof.Rows.Boot.«ValueError»
theorem jn {P:Program}{w:World}{X:Cx}:zcV (CX1 P w) X E0:=fun _ _ _ _ _ _ _ h=>by
 obtain ⟨_,_,_,_,_,_,_,_,_,_,_,_,_,_,_,_,hE⟩:=h
 exact hE.elim
theorem zcR {x:V}:∀{xs:List V}{us:List Value},Vals xs us→xs.all ug=true→us.countP (eqU x)=xs.countP fun y=>eqV y x
 | _,_,.nil,_=>rfl
 | y::xs,u::us,.cons r t,f=>by
  rw [List.all_cons,Bool.and_eq_true] at f
  rw [List.countP_cons,List.countP_cons,eqU_of r f.1,zcR t f.2]
theorem zcA {x:V}:∀{xs:List V}{us:List Value},Vals xs us→xs.all ug=true→∀(j:Nat) (u:Value),us[j]? = some u→∃y,xs[j]? = some y∧eqU x u=eqV y x
 | _,_,.nil,_=>fun j u e=>by simp at e
 | y::xs,u::us,.cons r t,f=>fun j v e=>by
  rw [List.all_cons,Bool.and_eq_true] at f
  cases j with
  | zero =>
   have:u=v:=by simpa using e
   subst this
   exact ⟨y,rfl,eqU_of r f.1⟩
  | succ j=>exact zcA t f.2 j v (by simpa using e)
end L2
namespace L2
open PySem PySem.Spec PyProof.Rows
end L2
namespace My
theorem Book.cutRows {m:Nat}{B:List (List Nat)}(h:Book m B){rows:List (List Nat)}{left l:List Nat}(hr:∀p∈rows,p∈B)(hf:Free B left)(e:rows.flatten++left=l):uc B l=(rows,left):=by
 rw [← e,cut_app,h.cutSome rows hr]
 simp only [List.nil_append]
 rw [zbF hf]
 simp
end My
namespace L2
open PySem PySem.Spec PyProof.Rows
theorem star_tup {a:List Expr}{b}{c:Pos}{es:List Expr}{env:Env}:starEach (.Tuple a b c::es) env=(false,eval (.Tuple a b c) env)::starEach es env:=by rfl
theorem xr {a b:Expr}{o}{c:Pos}{es:List Expr}{env:Env}:starEach (.BinOp a o b c::es) env=(false,eval (.BinOp a o b c) env)::starEach es env:=by rfl
theorem zZ {f:Expr}{a:List Expr}{k}{c:Pos}{es:List Expr}{env:Env}:starEach (.Call f a k c::es) env=(false,eval (.Call f a k c) env)::starEach es env:=by rfl
theorem uo {a b:Expr}{c:Pos}{es:List Expr}{env:Env}:starEach (.Subscript a b c::es) env=(false,eval (.Subscript a b c) env)::starEach es env:=by rfl
theorem za {a}{c:Pos}{es:List Expr}{env:Env}:starEach (.Name a c::es) env=(false,eval (.Name a c) env)::starEach es env:=by rfl
theorem star_un {o}{a:Expr}{c:Pos}{es:List Expr}{env:Env}:starEach (.UnaryOp o a c::es) env=(false,eval (.UnaryOp o a c) env)::starEach es env:=by rfl
theorem zf {a}{k}{c:Pos}{es:List Expr}{env:Env}:starEach (.Constant a k c::es) env=(false,eval (.Constant a k c) env)::starEach es env:=by rfl
section
variable {prog:Program}{w:World}{A:Around}{E:Value→Shared→Prop}{s:Shared}
theorem jl {t sl:Addr}{items:Array Value}{vl vu:Value}{lo hi:Option Int}{Q:Value→Shared→Prop}(ht:IsTup s.heap t items)(hs:s.heap.IsSliceOf sl vl vu .none)(pl:IsPart vl lo)(pu:IsPart vu hi)
  (hw:HT.sIx items.size 0 lo=0∧HT.sIx items.size items.size hi=items.size) (h:Q (.ref t) s):wpAny (model prog w) A (getItem (.ref t) (.ref sl)) Q E s:=by
 obtain ⟨os,hos,hcs,hds⟩:=id hs
 have hTs:s.TypeIs (.ref sl) "slice" := ⟨os,hos,hcs⟩
 unfold getItem
 try with_reducible refine wpAny_holding ?_
 first | refine wpAny_bind (wpAny_pure ?_) | skip
 refine wpAny_bind (wpAny_sequenceKey ht.typeIs (by decide) ?_)
 refine wpAny_bind (wpAny_callSpecial?_slot (name:=Str.ofString "__getitem__") ht.typeIs PyProof.Rows.slot_tuple_getitem
  (wpAny_call_entry PyProof.Rows.slot_tuple_getitem ht.typeIs entry_tuple_getitem ?_ (args_tuple_getitem _ _)))
 show wpAny _ _ (Builtin.Tuple.tupleItemsOf (.ref t) >>= _) _ _ s
 refine wpAny_bind (tupleItemsOf_ ht ?_)
 refine wpAny_bind (wpAny_typeOf hTs ?_)
 rw [if_pos (by decide)]
 refine wpAny_bind (HT.sliceApplied_gen hs pl pu ?_)
 have hyes:(((HT.sIx items.size 0 lo:Nat):Int) == 0&&(1:Int) == 1&&(HT.sIx items.size items.size hi - HT.sIx items.size 0 lo) == items.size)=true:=by
  rw [hw.1,hw.2]
  simp
 show wpAny _ _ (if (((HT.sIx items.size 0 lo:Nat):Int) == 0&&(1:Int) == 1&&(HT.sIx items.size items.size hi - HT.sIx items.size 0 lo) == items.size)=true then _ else _) _ _ s
 rw [if_pos hyes]
 refine wpAny_bind (m:=Builtin.Tuple.tupleIsExact (.ref t)) ?_
 unfold Builtin.Tuple.tupleIsExact
 refine wpAny_bind (wpAny_typeOf ht.typeIs (wpAny_pure ?_))
 rw [if_pos (by decide)]
 first
  | exact wpAny_bind (wpAny_rule (wpAny_pure ⟨_,rfl,wpAny_pure h⟩))
  | exact wpAny_bind (wpAny_rule (wpAny_pure ⟨_,rfl,h⟩))
end
section
variable {X:Cx}
noncomputable def rSlU (K:PySem.W.Frag):V→Option Int→Option Int→Hp→VK→Prop:=fun x lo hi H Q=>∃a xs,x=.ref a∧SqT K H a xs∧∀p H',Same H H'→SqT K H' p (cutV xs lo hi)→Q (.ref p) H'
theorem sl_tupU:SlR X (rSlU X.K):=by
 intro pins s σ H x v vl vu lo hi sl Q I rx hs pl pu h
 obtain ⟨a,xs,rfl,hx,q⟩:=h
 by_cases hw:HT.sIx xs.length 0 lo=0∧HT.sIx xs.length xs.length hi=xs.length
 ·cases rx
  obtain ⟨its,r,ht,hz⟩:=I.tuple hx
  have hlen:its.toArray.size=xs.length:=by rw [List.size_toArray]; exact r.length.symm
  refine ⟨"tuple", _,PyProof.Rows.slot_tuple_getitem.lookup,ht.typeIs,jl ht hs pl pu (by rw [hlen]; exact hw) ⟨.ref a,H,I,rfl,q a H (Same.refl _) ?_⟩⟩
  have:cutV xs lo hi=xs:=by
   unfold cutV
   rw [hw.1,hw.2,List.drop_zero,Nat.sub_zero,List.take_length]
  rw [this]
  exact hx
 ·exact sl_tup pins s σ H (.ref a) v vl vu lo hi sl Q I rx hs pl pu ⟨a,xs,rfl,hx,hw,fun p hp=>q p _ (Same.upd hp) (SqT.of yd)⟩
end
end L2
namespace L2
open PySem PySem.Spec PyProof.Rows
end L2
set_option maxHeartbeats 2000000
namespace L2
open PySem PySem.Spec PyProof.Rows
section
variable {X:Cx}{pins:List (Addr×Obj)}{σ:St}{H:Hp}{s:Shared}{a:Addr}{xs:List V}
theorem src_of (I:Inv X pins σ H s)(h:SqL X.K H a xs∨SqT X.K H a xs):∃(its:List Value) (o:Obj) (G:Heap→Prop),Vals xs its∧xs.length≤sizeLine∧o.isFreed=false∧Zp.Itb a o G∧G s.heap ∧
  (∀h h':Heap,(∀u,h.get? a=some u→h'.get? a=some u)→G h→G h')∧(∃u,s.heap.get? a=some u) ∧
  ∀it,a≠it→∃S:Nat→Heap→Prop,Zp.Src X.prog X.w it a its.length (fun i=>its.toArray.getD i .none) S∧∀h:Heap,h.get? it=some o→G h→S 0 h:=by
 rcases h with h | h
 ·obtain ⟨its,rv,pl,hz⟩:=I.list h
  have pl':s.heap.IsList a its.toArray:=pl.isList
  refine ⟨its,Zp.lIter a,fun h=>h.IsList a its.toArray,rv,hz,rfl,Zp.itb_lst a _,pl',fun h h' k ⟨o,e,r⟩=>⟨o,k _ e,r⟩,?_,fun it hne=>⟨_,Zp.src_lst (xs:=its.toArray) hne,fun h e g=>⟨⟨_,e,rfl,rfl⟩,g⟩⟩⟩
  obtain ⟨o,e,_⟩:=pl'
  exact ⟨o,e⟩
 ·obtain ⟨its,rv,pl,hz⟩:=I.tuple h
  have pl':s.heap.IsTuple a its.toArray:=pl
  refine ⟨its,Zp.tIter a,fun h=>h.IsTuple a its.toArray,rv,hz,rfl,Zp.itb_tup a _,pl',fun h h' k ⟨o,e,r⟩=>⟨o,k _ e,r⟩,?_,fun it hne=>⟨_,Zp.src_tup (xs:=its.toArray) hne,fun h e g=>⟨⟨_,e,rfl,rfl⟩,g⟩⟩⟩
  obtain ⟨o,e,_⟩:=pl'
  exact ⟨o,e⟩
end
noncomputable def zipT (ls:List (List Nat))(xs:List V):List (Key×V):=(List.range (min ls.length xs.length)).foldl (fun m j=>putK m (Sum.inr (T (ls.getD j []))) (xs.getD j .non)) []
theorem zipT_len (ls:List (List Nat))(xs:List V):(zipT ls xs).length≤ls.length:=by
 have key:∀(ps:List Nat) (m:List (Key×V)),(ps.foldl (fun m j=>putK m (Sum.inr (T (ls.getD j []))) (xs.getD j .non)) m).length≤m.length + ps.length:=by
  intro ps
  induction ps with
  | nil=>intro m; simp
  | cons p r ih =>
   intro m
   rw [List.foldl_cons]
   have h1:=ih (putK m (Sum.inr (T (ls.getD p []))) (xs.getD p .non))
   have h2:=zdH m (Sum.inr (T (ls.getD p [])):Key) (xs.getD p .non)
   rw [List.length_cons]
   omega
 have:=key (List.range (min ls.length xs.length)) []
 rw [List.length_range,List.length_nil] at this
 exact Nat.le_trans this (by omega)
theorem zcF {xs:List V}{us:List Value}(r:Vals xs us){j:Nat}(hj:j < us.length):RelV (xs.getD j .non) (us.toArray.getD j .none):=by
 induction r generalizing j with
 | nil=>simp at hj
 | cons p t ih =>
  cases j with
  | zero=>simpa using p
  | succ j =>
   have:=ih (j:=j) (by simpa using hj)
   rename_i _ _ l1 l2
   have hj':j < l2.length:=by simpa using hj
   simpa [Array.getD,hj'] using this
theorem kv_range {ls:List (List Nat)}{xs:List V}{us:List Value}(r:Vals xs us):∀(js:List Nat) {m:List (Key×V)}{ms:List (Key×Value)},(∀j∈js,j < us.length)→KV m ms →
  KV (js.foldl (fun m j=>putK m (Sum.inr (T (ls.getD j []))) (xs.getD j .non)) m) (js.foldl (fun m j=>stored m (Sum.inr (T (ls.getD j [])):Key) (us.toArray.getD j .none)) ms)
 | [],_,_,_,k=>k
 | j::js,_,_,h,k=>by
  rw [List.foldl_cons,List.foldl_cons]
  exact kv_range r js (fun i hi=>h i (.tail _ hi)) (k.put _ (zcF r (h j (.head _))))
noncomputable def tZipS (K:PySem.W.Frag)(ta tb:TE):TE:=fun σ H Q=>zal ta (zal tb tNil) σ H fun vs H2=>∃(ls:List (List Nat)) (a b:Addr) (xs:List V),vs=[.ref a,.ref b]∧(SqL K H2 a (vT ls)∨SqT K H2 a (vT ls))∧(SqL K H2 b xs∨SqT K H2 b xs)∧ls.length≤1000∧∀p,H2 p=none→Q (.ref p) (upd H2 p (.dK (zipT ls xs)))
section
variable {X:Cx}
theorem zdw {a b:Expr}{ta tb:TE}{p1 p2 pos1 pos2:Pos}(hc:X.calm=true)(ha:PE X a ta)(hb:PE X b tb)(hd:Gl X "dict")(hz:Gl X "zip")(md:X.mg "dict" = none)(mz:X.mg "zip" = none)
  (hs:starEach [a,b] X.env=[(false,eval a X.env),(false,eval b X.env)]:=by rfl) (hs2:starEach [b] X.env=[(false,eval b X.env)]:=by rfl)
  (hs3:starEach [.Call (.Name "zip" p2) [a,b] [] pos2] X.env=[(false,eval (.Call (.Name "zip" p2) [a,b] [] pos2) X.env)]:=by rfl) :
  PE X (.Call (.Name "dict" p1) [.Call (.Name "zip" p2) [a,b] [] pos2] [] pos1) (tZipS X.K ta tb):=by
 intro pins s σ H Q I h
 refine wpAny_Call_Name_kw (ju I hd md boot_dict ?_)
 refine PyProof.Rows.callWith_type1 ?_ hs3 rfl
 rw [hs3]
 show wpAny _ _ (spliced ((false,eval (.Call (.Name "zip" p2) [a,b] [] pos2) X.env)::backTo pos1 [])) _ _ s
 refine Calls.spliced_cons ?_
 have hA:PA X [a,b] (zal ta (zal tb tNil)):=xM ha (xM hb vY hs2) (by rw [hs,hs2])
 refine wpAny_Call_Name_kw (ju I hz mz boot_zip ?_)
 refine PyProof.Rows.callWith_type1 (thn (hA pos2 pins s σ H _ I h) fun us s1 hq36=>?_) (by rw [hs,hs2]) (by rw [hs2]; rfl)
 obtain ⟨vs,H2,I2,r2,ls,A1,B1,xs,ev,hq,hq2,hl,q⟩:=hq36
 subst ev
 obtain ⟨u1,u2,rfl,ru1,ru2⟩:=vals2 r2
 cases ru1
 cases ru2
 obtain ⟨its1,o1,G1,rv1,hz1,fr1,it1,g1,mv1,⟨w1,e1⟩,sr1⟩:=src_of I2 hq
 obtain ⟨its2,o2,G2,rv2,hz2,fr2,it2,g2,mv2,⟨w2,e2⟩,sr2⟩:=src_of I2 hq2
 refine Zp.call_zipG fr1 fr2 it1 it2 (fun h g=>mv2 _ _ (fun u e=>Heap.get?_push_of_some _ e) g) g1 g2 fun h1 m5=>?_
 refine Calls.spliced_nil ?_
 obtain ⟨m1,m2,m3,m4,m6,m7,m8⟩:=m5
 have lt:∀{c:Addr}{o:Obj},s1.heap.get? c=some o→c < s1.heap.objs.size:=fun e=>Heap.lt_size e
 have hA1:=lt e1
 have hB1:=lt e2
 obtain ⟨S1,C1,z1⟩:=sr1 s1.heap.objs.size (zP (.inl hA1))
 obtain ⟨S2,C2,z2⟩:=sr2 (s1.heap.objs.size + 1) (zP (.inl (Nat.lt_of_lt_of_le hB1 (by omega))))
 have el1:ls.length=its1.length:=by have:=rv1.length; unfold vT at this; rw [List.length_map] at this; exact this
 have el2:xs.length=its2.length:=rv2.length
 refine Zp.call_dict_zipG (knd:=vZ X.prog X.w) (s:={ s1 with heap:=h1 }) (z:=s1.heap.objs.size + 4) (TI:=s1.heap.objs.size + 2) (TO:=s1.heap.objs.size + 3) (i1:=s1.heap.objs.size) (i2:=s1.heap.objs.size + 1) (p1:=A1) (p2:=B1)
  (I.ok.hd hc) ⟨zP (by omega),zP (by omega),zP (by omega),zP (by omega),zP (by omega),zP (by omega),zP (by omega),zP (by omega),zP (by omega),zP (by omega)⟩
  (zP (.inl (Nat.lt_of_lt_of_le hA1 (by omega)))) (zP (.inl (Nat.lt_of_lt_of_le hA1 (by omega)))) (zP (.inl (Nat.lt_of_lt_of_le hA1 (by omega))))
  (zP (.inl (Nat.lt_of_lt_of_le hB1 (by omega)))) (zP (.inl (Nat.lt_of_lt_of_le hB1 (by omega)))) (zP (.inl hB1)) C1 C2 (fun j=>Sum.inr (T (ls.getD j []))) (fun j hj=>?_) (by omega)
  m1 m2 m3 (z1 _ m4 (mv1 _ _ (fun u e=>m8 _ _ e) g1)) (z2 _ m6 (mv2 _ _ (fun u e=>m8 _ _ e) g2)) fun h2 tk hdict keep=>?_
 ·have hj1:j < its1.length:=by omega
  have r:=zcF rv1 hj1
  have er:(vT ls).getD j .non=.str (T (ls.getD j [])):=by
   unfold vT
   simp [List.getD,el1,hj1]
  rw [er] at r
  obtain ⟨t,e⟩:=r
  rw [e]
  exact za0 _ _ _ t
 have keep1:∀b o,s1.heap.get? b=some o→h2.get? b=some o:=fun b o e=>by
  have hb:=lt e
  exact keep b o (zP (.inl (Nat.lt_of_lt_of_le hb (by omega)))) (zP (.inl (Nat.lt_of_lt_of_le hb (by omega)))) (zP (.inl hb)) (zP (.inl (Nat.lt_of_lt_of_le hb (by omega)))) (m8 b o e)
 have hp:s1.heap.objs.size≤h1.objs.size:=by rw [m7]; omega
 have hnone:H2 h1.objs.size=none:=I2.hok.fresh hp
 refine ⟨.ref h1.objs.size,upd H2 h1.objs.size (.dK (zipT ls xs)),I2.laid (h':=h2) (t':=tk) keep1 hp ?_,rfl,q _ hnone⟩
 refine ⟨?_,?_,_,?_,hdict⟩
 ·have:=zipT_len ls xs
  rw [sizeLine_eq]; omega
 ·have hbig:=I2.big
  exact beq_eq_false_iff_ne.mpr (by have:=hbig; intro z; rw [z] at hp; exact absurd (Nat.lt_of_lt_of_le hbig hp) (Nat.lt_irrefl _))
 ·unfold zipT
  rw [el1,el2]
  exact kv_range rv2 _ (fun j hj=>by have:=List.mem_range.mp hj; omega) KV_nil
end
end L2
namespace L2
open PySem PySem.Spec PyProof.Rows
theorem zbQ (l:Addr)(items:Array Value)(x:Value)(e:Value→Bool)(j:Nat)(hj:j < items.size)
  (hit:e items[j]=true) (hno:∀m (hm:m < items.size),m < j→e items[m]=false) :
  Meets (Builtin.«tuple.index» ⟨[.ref l,x],[]⟩)
   (fun A R s=>s.heap.IsTuple l items∧(∀y,y∈items→SeqAt.EqAt A.in1 s y x (e y))∧R (.ok (.ret (.int j s.toks))) { s with toks:=s.toks + 1 }):=by
 intro prog w A R s h
 obtain ⟨hl,he,h⟩:=h
 obtain ⟨o,ho,hc,n,hd⟩:=id hl
 unfold Builtin.«tuple.index»
 refine wpAny_bind ?_
 wp_walk using wpAny_loadPart' ho
 rw [hd]
 refine wpAny_pure (wpAny_pure ?_)
 refine wpAny_bind (wpAny_pure (wpAny_bind (wpAny_pure (wpAny_bind ?_))))
 rw [Std.Legacy.Range.forIn_eq_forIn_range']
 simp only [Std.Legacy.Range.size,Nat.sub_zero,Nat.add_sub_cancel,Nat.div_one,Nat.min_self]
 refine wpAny_forIn_list _ (fun rest b s'=>s'=s∧∃i,rest=List.range' i (items.size - i)∧i≤j) _ ?_ ?_ _ _ ⟨rfl,0,by simp,Nat.zero_le _⟩
 ·rintro y rest b s' ⟨rfl,i,hr,hi⟩
  obtain ⟨rfl,hrest⟩:y=i∧rest=List.range' (i + 1) (items.size - (i + 1)):=by
   have e:items.size - i=(items.size - (i + 1)) + 1:=by omega
   rw [e,List.range'_succ] at hr
   injection hr with h1 h2
   exact ⟨h1,h2⟩
  have hlt:y < items.size:=by omega
  rw [Array.getElem?_eq_getElem hlt]
  refine wpAny_bind (he _ (Array.getElem_mem hlt) prog w _ _ ?_)
  rcases Nat.lt_or_ge y j with hyj | hyj
  ·rw [hno y hlt hyj]
   exact wpAny_pure ⟨rfl,y + 1,hrest,hyj⟩
  ·have:y=j:=by omega
   subst this
   rw [hit]
   rw [if_pos rfl]
   wp_walk
   exact h
 ·rintro b s' ⟨rfl,i,hr,hi⟩
  have:items.size - i=0:=by
   have:=congrArg List.length hr
   simpa using this.symm
  omega
section
variable {X:Cx}
noncomputable def rIndexS (K:PySem.W.Frag):V→List V→Hp→VK→Prop:=fun x vs H Q=>∃(l:Addr) (xs:List V) (y:V) (j:Nat) (z:V),x=.ref l∧vs=[y]∧SqT K H l xs∧ug y=true∧xs.all ug=true∧xs[j]? = some z∧eqV z y=true∧(∀(m:Nat) (w:V),m < j→xs[m]? = some w→eqV w y=false)∧Q (.int (j:Int)) H
theorem mt_indexT:MtR X "tuple.index" (rIndexS X.K):=by
 intro pins s σ H x vs v us Q I rx rv h
 obtain ⟨l,xs,y,j,z0,rfl,rfl,hH,fy,fs,hj,hz,hno,q⟩:=h
 cases rx
 obtain ⟨u,rfl,ru⟩:=rv.one
 obtain ⟨its,r,pl,hl⟩:=I.tuple hH
 obtain ⟨o,e,hc,n,hd⟩:=id pl
 have hjl:j < its.length:=by rw [← r.length]; exact (List.getElem?_eq_some_iff.mp hj).1
 refine call_meets F.slot_tuple_index ⟨_,e,hc⟩ F.entry_tuple_index (F.args_tuple_index_2 _ _) (zbQ l its.toArray u (eqU y) j (by simpa using hjl) ?_ ?_) ⟨⟨o,e,hc,n,hd⟩,fun w hw=>ul ru fy r fs w (by simpa using hw),?_⟩
 ·obtain ⟨y2,e2,e3⟩:=zcA (x:=y) r fs j its[j] (List.getElem?_eq_getElem hjl)
  rw [hj] at e2
  obtain rfl:=Option.some.inj e2
  show eqU y its[j]=true
  rw [e3,hz]
 ·intro m hm hmj
  have hml:m < its.length:=by simpa using hm
  obtain ⟨y2,e2,e3⟩:=zcA (x:=y) r fs m its[m] (List.getElem?_eq_getElem hml)
  show eqU y its[m]=false
  rw [e3]
  exact hno m y2 hmj e2
 ·exact ⟨.int _,H,I.tok _,⟨_,rfl⟩,q⟩
noncomputable def rIndexLS (K:PySem.W.Frag):V→List V→Hp→VK→Prop:=fun x vs H Q=>∃(l:Addr) (xs:List V) (y:V) (j:Nat) (z:V),x=.ref l∧vs=[y]∧SqL K H l xs∧ug y=true∧xs.all ug=true∧xs[j]? = some z∧eqV z y=true∧j < 1000000∧(∀(m:Nat) (w:V),m < j→xs[m]? = some w→eqV w y=false)∧Q (.int (j:Int)) H
theorem zdc:MtR X "list.index" (rIndexLS X.K):=by
 intro pins s σ H x vs v us Q I rx rv h
 obtain ⟨l,xs,y,j,z0,rfl,rfl,hH,fy,fs,hj,hz,h1000,hno,q⟩:=h
 cases rx
 obtain ⟨u,rfl,ru⟩:=rv.one
 obtain ⟨its,r,pl,hl⟩:=I.list hH
 obtain ⟨o,n,e,hc,hd,hs⟩:=id pl
 have hjl:j < its.length:=by rw [← r.length]; exact (List.getElem?_eq_some_iff.mp hj).1
 have eo:o={ cls:=.type "list", dict:=none,data:=.seq its.toArray n,slots:=o.slots }:=by
  obtain ⟨c,d,dt,sl⟩:=o
  dsimp only at hc hd hs
  subst hc hd hs
  rfl
 rw [eo] at e
 refine call_meets F.slot_list_index ⟨_,e,rfl⟩ F.entry_list_index (F.args_list_index_2 _ _) (SeqAt.list_indexAt l its.toArray n none o.slots u (eqU y) j (by simpa using hjl) (by omega) ?_ ?_) ⟨e,fun w hw=>ul ru fy r fs w (by simpa using hw),?_⟩
 ·obtain ⟨y2,e2,e3⟩:=zcA (x:=y) r fs j its[j] (List.getElem?_eq_getElem hjl)
  rw [hj] at e2
  obtain rfl:=Option.some.inj e2
  show eqU y its[j]=true
  rw [e3,hz]
 ·intro m hm hmj
  have hml:m < its.length:=by simpa using hm
  obtain ⟨y2,e2,e3⟩:=zcA (x:=y) r fs m its[m] (List.getElem?_eq_getElem hml)
  show eqU y its[m]=false
  rw [e3]
  exact hno m y2 hmj e2
 ·exact ⟨.int _,H,I.tok _,⟨_,rfl⟩,q⟩
end
end L2
set_option maxHeartbeats 1000000
namespace L2
open PySem
noncomputable def txt:Value→Str
 | .str x _=>x
 | _=>⟨#[]⟩
structure StS (w:World)(es:Array (Int×Value))(t:SetTable)(ks:List Str):Prop where
 shape:∀e∈es.toList,∃x tk,e=(hashStr w x,Value.str x tk)
 keys:(es.toList.map fun e=>txt e.2).Perm ks
 nd:ks.Nodup
 fits:t.fits es.size=true
 led:t.led = !w.params.followText "set-order"
 plain:es.size=0∨t.plain=false
 few:es.size < scanBound
theorem StS.size {w:World}{es:Array (Int×Value)}{t:SetTable}{ks:List Str}(S:StS w es t ks):es.size=ks.length:=by
 have:=S.keys.length_eq
 simpa using this
theorem isStrOf_txt {x y:Str}{tk:Tok}:Value.isStrOf x (.str y tk)=true↔x=y:=by
 constructor
 ·intro h
  obtain ⟨t,e⟩:=Value.isStrOf_shape h
  injection e with e _
  exact e.symm
 ·rintro rfl; simp [Value.isStrOf,Value.isStr]
theorem StS.find {w:World}{es:Array (Int×Value)}{t:SetTable}{ks:List Str}(S:StS w es t ks)(x:Str):(∃e∈es.toList,Value.isStrOf x e.2=true)↔x∈ks:=by
 rw [← S.keys.mem_iff,List.mem_map]
 constructor
 ·rintro ⟨e,he,h⟩
  obtain ⟨y,tk,rfl⟩:=S.shape e he
  exact ⟨_,he,(isStrOf_txt.mp h).symm⟩
 ·rintro ⟨e,he,h⟩
  obtain ⟨y,tk,rfl⟩:=S.shape e he
  exact ⟨_,he,isStrOf_txt.mpr h.symm⟩
end L2
namespace L2
open PySem
end L2
namespace L2
open PySem
end L2
namespace L2
open PySem
end L2
set_option maxHeartbeats 3200000
namespace L2
open PySem PySem.Spec PyProof.Rows
section
variable {prog:Program}{w:World}{A:Around}{E:Value→Shared→Prop}{s:Shared}
theorem StS.new:StS w #[] (.fresh 0 0 (!w.params.followText "set-order")) [] where
 shape:=fun e he=>by simp at he
 keys:=List.Perm.refl _
 nd:=List.nodup_nil
 fits:=rfl
 led:=rfl
 plain:=.inl rfl
 few:=by decide
end
end L2
namespace L2
open PySem PySem.Spec PyProof.Rows
end L2
set_option maxHeartbeats 1000000
namespace L2
open PySem PySem.Spec PyProof.Rows
end L2
namespace L2
open PySem PySem.Spec PyProof.Rows
inductive D where
 | non | bl (b:Bool) | int (i:Int) | str (l:List Nat) | lst (xs:List D) | tup (xs:List D) | dct (kvs:List (List Nat×D)) | exc (n:Nat)
inductive Rs (α:Type) where
 | ok (a:α) | ex (n:Nat) | no
noncomputable def Rs.bind {α β:Type}:Rs α→(α→Rs β)→Rs β
 | .ok a,f=>f a
 | .ex n,_=>.ex n
 | .no,_=>.no
inductive Sl where
 | no | fz (d:D) | ow (xs:List D) | od (kvs:List (List Nat×D))
noncomputable abbrev Rho:=List Sl
inductive Out where
 | nx (ρ:Rho) | rt (d:D) | bk (ρ:Rho) | ct (ρ:Rho) | ex (n:Nat) | no
mutual
inductive Dt (K:PySem.W.Frag)(cl:Nat→Addr)(F:Hp):V→D→Prop
 | non:Dt K cl F .non .non
 | bl (b:Bool):Dt K cl F (.bl b) (.bl b)
 | int (i:Int):Dt K cl F (.int i) (.int i)
 | str (l:List Nat) (ok:TxtOk (T l)):Dt K cl F (.str (T l)) (.str l)
 | lst {a:Addr}{xs:List V}{ds:List D}:SqL K F a xs→Dts K cl F xs ds→Dt K cl F (.ref a) (.lst ds)
 | tup {a:Addr}{xs:List V}{ds:List D}:SqT K F a xs→Dts K cl F xs ds→Dt K cl F (.ref a) (.tup ds)
 | dct {a:Addr}{kvs:List (Key×V)}{ds:List (List Nat×D)}:F a=some (.dK kvs)→Dks K cl F kvs ds→Dt K cl F (.ref a) (.dct ds)
 | exc {a:Addr}{n:Nat}:F a=some (excAt a (cl n))→Dt K cl F (.ref a) (.exc n)
inductive Dts (K:PySem.W.Frag)(cl:Nat→Addr)(F:Hp):List V→List D→Prop
 | nil:Dts K cl F [] []
 | cons {v:V}{d:D}{vs:List V}{ds:List D}:Dt K cl F v d→Dts K cl F vs ds→Dts K cl F (v::vs) (d::ds)
inductive Dks (K:PySem.W.Frag)(cl:Nat→Addr)(F:Hp):List (Key×V)→List (List Nat×D)→Prop
 | nil:Dks K cl F [] []
 | cons {l:List Nat}{v:V}{d:D}{vs:List (Key×V)}{ds:List (List Nat×D)}:TxtOk (T l)→Dt K cl F v d→Dks K cl F vs ds→Dks K cl F ((Sum.inr (T l),v)::vs) ((l,d)::ds)
end
section
variable {K:PySem.W.Frag}{cl:Nat→Addr}{F F' H H':Hp}
theorem Dt.monos (e:Same F F'):(∀{v:V}{d:D},Dt K cl F v d→Dt K cl F' v d)∧(∀{vs:List V}{ds:List D},Dts K cl F vs ds→Dts K cl F' vs ds)∧(∀{vs:List (Key×V)}{ds:List (List Nat×D)},Dks K cl F vs ds→Dks K cl F' vs ds):=by
 refine ⟨fun {v d} h=>?_,fun {vs ds} h=>?_,fun {vs ds} h=>?_⟩
 ·exact Dt.rec (motive_1:=fun v d _=>Dt K cl F' v d) (motive_2:=fun vs ds _=>Dts K cl F' vs ds) (motive_3:=fun vs ds _=>Dks K cl F' vs ds) .non .bl .int .str (fun q _ ih=>.lst (e.seq q) ih) (fun q _ ih=>.tup (e.seqT q) ih) (fun q _ ih=>.dct (e _ _ q) ih) (fun q=>.exc (e _ _ q)) .nil (fun _ _ a b=>.cons a b) .nil (fun ok _ _ a b=>.cons ok a b) h
 ·exact Dts.rec (motive_1:=fun v d _=>Dt K cl F' v d) (motive_2:=fun vs ds _=>Dts K cl F' vs ds) (motive_3:=fun vs ds _=>Dks K cl F' vs ds) .non .bl .int .str (fun q _ ih=>.lst (e.seq q) ih) (fun q _ ih=>.tup (e.seqT q) ih) (fun q _ ih=>.dct (e _ _ q) ih) (fun q=>.exc (e _ _ q)) .nil (fun _ _ a b=>.cons a b) .nil (fun ok _ _ a b=>.cons ok a b) h
 ·exact Dks.rec (motive_1:=fun v d _=>Dt K cl F' v d) (motive_2:=fun vs ds _=>Dts K cl F' vs ds) (motive_3:=fun vs ds _=>Dks K cl F' vs ds) .non .bl .int .str (fun q _ ih=>.lst (e.seq q) ih) (fun q _ ih=>.tup (e.seqT q) ih) (fun q _ ih=>.dct (e _ _ q) ih) (fun q=>.exc (e _ _ q)) .nil (fun _ _ a b=>.cons a b) .nil (fun ok _ _ a b=>.cons ok a b) h
theorem Dt.mono {v:V}{d:D}(h:Dt K cl F v d)(e:Same F F'):Dt K cl F' v d:=(Dt.monos e).1 h
theorem Dts.mono {vs:List V}{ds:List D}(h:Dts K cl F vs ds)(e:Same F F'):Dts K cl F' vs ds:=(Dt.monos e).2.1 h
theorem Dks.mono {vs:List (Key×V)}{ds:List (List Nat×D)}(h:Dks K cl F vs ds)(e:Same F F'):Dks K cl F' vs ds:=(Dt.monos e).2.2 h
theorem Dts.length:∀{vs:List V}{ds:List D},Dts K cl F vs ds→vs.length=ds.length
 | _,_,.nil=>rfl
 | _,_,.cons _ r=>by simp [r.length]
theorem Dts.append:∀{vs ws:List V}{ds es:List D},Dts K cl F vs ds→Dts K cl F ws es→Dts K cl F (vs++ws) (ds++es)
 | _,_,_,_,.nil,s=>s
 | _,_,_,_,.cons r t,s=>.cons r (Dts.append t s)
theorem Dts.get:∀{vs:List V}{ds:List D}{i:Nat}{v:V},Dts K cl F vs ds→vs[i]? = some v→∃d,ds[i]? = some d∧Dt K cl F v d
 | _,_,_,_,.nil,e=>by simp at e
 | _,_,0,_,.cons r _,e=>by simp at e; subst e; exact ⟨_,rfl,r⟩
 | _,_,i + 1,v,.cons _ t,e=>by
  obtain ⟨d,h1,h2⟩:=Dts.get (i:=i) (v:=v) t (by simpa using e)
  exact ⟨d,by simpa using h1,h2⟩
theorem Dts.get':∀{vs:List V}{ds:List D}{i:Nat}{d:D},Dts K cl F vs ds→ds[i]? = some d→∃v,vs[i]? = some v∧Dt K cl F v d
 | _,_,_,_,.nil,e=>by simp at e
 | _,_,0,_,.cons r _,e=>by simp at e; subst e; exact ⟨_,rfl,r⟩
 | _,_,i + 1,d,.cons _ t,e=>by
  obtain ⟨v,h1,h2⟩:=Dts.get' (i:=i) (d:=d) t (by simpa using e)
  exact ⟨v,by simpa using h1,h2⟩
theorem Dts.take:∀{vs:List V}{ds:List D} (n:Nat),Dts K cl F vs ds→Dts K cl F (vs.take n) (ds.take n)
 | _,_,0,_=>.nil
 | _,_,_ + 1,.nil=>.nil
 | _,_,n + 1,.cons r t=>.cons r (Dts.take n t)
theorem Dts.drop:∀{vs:List V}{ds:List D} (n:Nat),Dts K cl F vs ds→Dts K cl F (vs.drop n) (ds.drop n)
 | _,_,0,r=>r
 | _,_,_ + 1,.nil=>.nil
 | _,_,n + 1,.cons _ t=>Dts.drop n t
mutual
noncomputable def D.py:D→PyData
 | .non=>.none
 | .bl b=>.bool b
 | .int i=>.int i
 | .str l=>.str (T l)
 | .lst xs=>.list (D.pys xs)
 | .tup xs=>.tuple (D.pys xs)
 | .dct _=>.none
 | .exc _=>.none
noncomputable def D.pys:List D→List PyData
 | []=>[]
 | d::ds=>d.py::D.pys ds
end
mutual
noncomputable def D.pl:D→Bool
 | .lst xs=>D.pls xs
 | .tup xs=>D.pls xs
 | .dct _=>false
 | .exc _=>false
 | _=>true
noncomputable def D.pls:List D→Bool
 | []=>true
 | d::ds=>d.pl&&D.pls ds
end
theorem Dt.iss:(∀{v:V}{d:D},Dt K cl F v d→d.pl=true→Is K F v d.py)∧(∀{vs:List V}{ds:List D},Dts K cl F vs ds→D.pls ds=true→Iss K F vs (D.pys ds)):=by
 refine ⟨fun {v d} h=>?_,fun {vs ds} h=>?_⟩
 ·exact Dt.rec (motive_1:=fun v d _=>d.pl=true→Is K F v d.py) (motive_2:=fun vs ds _=>D.pls ds=true→Iss K F vs (D.pys ds)) (motive_3:=fun _ _ _=>True) (fun _=>.non) (fun b _=>.bl b) (fun i _=>.int i) (fun l ok _=>.str _ ok) (fun q _ ih p=>.lst q (ih p)) (fun q _ ih p=>.tup q (ih p)) (fun _ _ _ p=>by simp [D.pl] at p) (fun _ p=>by simp [D.pl] at p) (fun _=>.nil)
   (fun _ _ a b p=>by simp only [D.pls,Bool.and_eq_true] at p; exact .cons (a p.1) (b p.2)) trivial (fun _ _ _ _ _=>trivial) h
 ·exact Dts.rec (motive_1:=fun v d _=>d.pl=true→Is K F v d.py) (motive_2:=fun vs ds _=>D.pls ds=true→Iss K F vs (D.pys ds)) (motive_3:=fun _ _ _=>True) (fun _=>.non) (fun b _=>.bl b) (fun i _=>.int i) (fun l ok _=>.str _ ok) (fun q _ ih p=>.lst q (ih p)) (fun q _ ih p=>.tup q (ih p)) (fun _ _ _ p=>by simp [D.pl] at p) (fun _ p=>by simp [D.pl] at p) (fun _=>.nil)
   (fun _ _ a b p=>by simp only [D.pls,Bool.and_eq_true] at p; exact .cons (a p.1) (b p.2)) trivial (fun _ _ _ _ _=>trivial) h
theorem Dt.is {v:V}{d:D}(h:Dt K cl F v d)(p:d.pl=true):Is K F v d.py:=Dt.iss.1 h p
noncomputable def HO.mu:HO→Bool
 | .tup _=>false
 | .frz _ _=>false
 | _=>true
structure Gr (F H F' H':Hp):Prop where
 ff:Same F F'
 hh:Same H H'
 fh:Same F' H'
 no:∀b o,H b=some o→o.mu=true→F b=none→F' b=none
theorem Gr.refl (h:Same F H):Gr F H F H:=⟨Same.refl _,Same.refl _,h,fun _ _ _ _ q=>q⟩
theorem Gr.trans {F1 H1 F2 H2 F3 H3:Hp}(a:Gr F1 H1 F2 H2)(b:Gr F2 H2 F3 H3):Gr F1 H1 F3 H3 :=
 ⟨a.ff.trans b.ff,a.hh.trans b.hh,b.fh,fun c o hc m q=>b.no c o (a.hh c o hc) m (a.no c o hc m q)⟩
theorem upd_mono {H1 H2:Hp}{p:Addr}{o:HO}(h:Same H1 H2):Same (upd H1 p o) (upd H2 p o):=fun b u e=>by
 by_cases hb:b=p
 ·subst hb; rw [yd] at e ⊢; exact e
 ·rw [zV hb] at e ⊢; exact h b u e
theorem Gr.new {p:Addr}{o:HO}(h:Same F H)(hp:H p=none):Gr F H (upd F p o) (upd H p o) :=
 ⟨Same.upd (h.free hp),Same.upd hp,upd_mono h,fun b o hb m q=>by
  have hne:b≠p:=fun z=>by rw [z,hp] at hb; cases hb
  rw [zV hne]; exact q⟩
theorem Gr.newO {p:Addr}{o:HO}(h:Same F H)(hp:H p=none):Gr F H F (upd H p o) :=
 ⟨Same.refl _,Same.upd hp,h.trans (Same.upd hp),fun _ _ _ _ q=>q⟩
noncomputable def Sl.own:Sl→Bool
 | .ow _=>true
 | .od _=>true
 | _=>false
theorem Gr.tup {K:PySem.W.Frag}{cl:Nat→Addr}{p:Addr}{vs:List V}{ds:List D}(h:Same F H)(s:Same H H')(q:SqT K H' p vs)(d:Dts K cl F vs ds):∃F',Gr F H F' H'∧Dt K cl F' (.ref p) (.tup ds):=by
 have s2:Same F H':=h.trans s
 have add:∀o:HO,H' p=some o→o.mu=false→Gr F H (fun b=>if b=p then H' b else F b) H'∧Same F (fun b=>if b=p then H' b else F b):=fun o e m=>by
  have ff:Same F (fun b=>if b=p then H' b else F b):=fun b u e'=>by
   show (if b=p then H' b else F b)=some u
   split
   ·exact s2 b u e'
   ·exact e'
  refine ⟨⟨ff,s,fun b u e'=>?_,fun b u hb m' q'=>?_⟩,ff⟩
  ·have e2:(if b=p then H' b else F b)=some u:=e'
   split at e2
   ·exact e2
   ·exact s2 b u e2
  ·show (if b=p then H' b else F b)=none
   split
   ·rename_i w
    subst w
    rw [s b u hb] at e
    injection e with e
    rw [e,m] at m'
    cases m'
   ·exact q'
 rcases q with (e | ⟨u,e⟩) | q
 ·obtain ⟨g,ff⟩:=add _ e rfl
  exact ⟨_,g,.tup (.inl (.inl (by show (if p=p then H' p else F p)=_; rw [if_pos rfl]; exact e))) (d.mono ff)⟩
 ·obtain ⟨g,ff⟩:=add _ e rfl
  exact ⟨_,g,.tup (.inl (.inr ⟨u,by show (if p=p then H' p else F p)=_; rw [if_pos rfl]; exact e⟩)) (d.mono ff)⟩
 ·exact ⟨F,⟨Same.refl _,s,s2,fun _ _ _ _ z=>z⟩,.tup (.inr q) d⟩
structure Rl (K:PySem.W.Frag)(cl:Nat→Addr)(H0 F0:Hp)(ρ:Rho)(σ:St)(H F:Hp):Prop where
 gr:Gr F0 H0 F H
 len:ρ.length=σ.length
 fz:∀(i:Nat) d,ρ[i]? = some (.fz d)→∃v,σ[i]? = some (some v)∧Dt K cl F v d
 ow:∀(i:Nat) ds,ρ[i]? = some (.ow ds)→∃a vs,σ[i]? = some (some (.ref a))∧H a=some (.lst vs)∧F a=none∧H0 a=none∧Dts K cl F vs ds
 od:∀(i:Nat) ds,ρ[i]? = some (.od ds)→∃a vs,σ[i]? = some (some (.ref a))∧H a=some (.dK vs)∧F a=none∧H0 a=none∧Dks K cl F vs ds
 ap:∀(i j:Nat) s t a,ρ[i]? = some s→ρ[j]? = some t→s.own=true→t.own=true→σ[i]? = some (some (.ref a))→σ[j]? = some (some (.ref a))→i=j
theorem Rl.grow {H0 F0:Hp}{ρ:Rho}{σ:St}(R:Rl K cl H0 F0 ρ σ H F)(g:Gr F H F' H'):Rl K cl H0 F0 ρ σ H' F' where
 gr:=R.gr.trans g
 len:=R.len
 fz:=fun i d e=>let ⟨v,h1,h2⟩:=R.fz i d e; ⟨v,h1,h2.mono g.ff⟩
 ow:=fun i d e=>let ⟨a,vs,h1,h2,h3,h4,h5⟩:=R.ow i d e; ⟨a,vs,h1,g.hh _ _ h2,g.no a _ h2 rfl h3,h4,h5.mono g.ff⟩
 od:=fun i d e=>let ⟨a,vs,h1,h2,h3,h4,h5⟩:=R.od i d e; ⟨a,vs,h1,g.hh _ _ h2,g.no a _ h2 rfl h3,h4,h5.mono g.ff⟩
 ap:=R.ap
theorem Rl.fh {H0 F0:Hp}{ρ:Rho}{σ:St}(R:Rl K cl H0 F0 ρ σ H F):Same F H:=R.gr.fh
theorem get_set {α:Type}{l:List α}{i j:Nat}{x y:α}(h:(l.set i x)[j]? = some y):(i=j∧y=x∧i < l.length)∨(i≠j∧l[j]? = some y):=by
 by_cases e:i=j
 ·subst e
  rw [List.getElem?_set_self'] at h
  cases q:l[i]? with
  | none=>rw [q] at h; cases h
  | some z =>
   rw [q] at h
   exact .inl ⟨rfl,(Option.some.inj h).symm,(List.getElem?_eq_some_iff.mp q).1⟩
 ·rw [List.getElem?_set_ne e] at h
  exact .inr ⟨e,h⟩
theorem zbW {α:Type}{l:List α}{i:Nat}{x:α}(h:i < l.length):(l.set i x)[i]? = some x:=by rw [List.getElem?_set_self h]
theorem Rl.set {H0 F0:Hp}{ρ:Rho}{σ:St}{i:Nat}{v:V}{d:D}(R:Rl K cl H0 F0 ρ σ H F)(h:Dt K cl F v d):Rl K cl H0 F0 (ρ.set i (.fz d)) (σ.set i (some v)) H F where
 gr:=R.gr
 len:=by simp [R.len]
 fz := fun j e z=>by
  rcases get_set z with ⟨rfl,q,hl⟩ | ⟨hj,q⟩
  ·injection q with q; subst q
   exact ⟨v,zbW (R.len ▸ hl),h⟩
  ·rw [List.getElem?_set_ne hj]; exact R.fz j e q
 ow:=fun j e z=>by
  rcases get_set z with ⟨rfl,q,hl⟩ | ⟨hj,q⟩
  ·cases q
  ·rw [List.getElem?_set_ne hj]; exact R.ow j e q
 od:=fun j e z=>by
  rcases get_set z with ⟨rfl,q,hl⟩ | ⟨hj,q⟩
  ·cases q
  ·rw [List.getElem?_set_ne hj]; exact R.od j e q
 ap := fun j k s t a z1 z2 o1 o2 e1 e2=>by
  rcases get_set z1 with ⟨rfl,q,hl⟩ | ⟨hj,q⟩
  ·subst q; cases o1
  ·rcases get_set z2 with ⟨rfl,q2,hl⟩ | ⟨hk,q2⟩
   ·subst q2; cases o2
   ·rw [List.getElem?_set_ne hj] at e1; rw [List.getElem?_set_ne hk] at e2
    exact R.ap j k s t a q q2 o1 o2 e1 e2
theorem Rl.apart {H0 F0:Hp}{ρ:Rho}{σ:St}(R:Rl K cl H0 F0 ρ σ H F){j:Nat}{s:Sl}{a:Addr}(e:ρ[j]? = some s)(o:s.own=true)(z:σ[j]? = some (some (.ref a))):H a≠none:=by
 cases s with
 | ow ds =>
  obtain ⟨b,vs,h1,h2,_⟩:=R.ow j ds e
  rw [z] at h1
  injection h1 with h1; injection h1 with h1; injection h1 with h1
  rw [h1,h2]; exact fun z=>nomatch z
 | od ds =>
  obtain ⟨b,vs,h1,h2,_⟩:=R.od j ds e
  rw [z] at h1
  injection h1 with h1; injection h1 with h1; injection h1 with h1
  rw [h1,h2]; exact fun z=>nomatch z
 | _=>cases o
theorem Rl.setO {H0 F0:Hp}{ρ:Rho}{σ:St}{i:Nat}{p:Addr}{vs:List V}{ds:List D}(R:Rl K cl H0 F0 ρ σ H F)(hp:H p=none)(h:Dts K cl F vs ds):Rl K cl H0 F0 (ρ.set i (.ow ds)) (σ.set i (some (.ref p))) (upd H p (.lst vs)) F where
 gr:=R.gr.trans (Gr.newO R.fh hp)
 len:=by simp [R.len]
 fz:=fun j e z=>by
  rcases get_set z with ⟨rfl,q,hl⟩ | ⟨hj,q⟩
  ·cases q
  ·rw [List.getElem?_set_ne hj]; exact R.fz j e q
 ow := fun j e z=>by
  rcases get_set z with ⟨rfl,q,hl⟩ | ⟨hj,q⟩
  ·injection q with q; subst q
   exact ⟨p,vs,zbW (R.len ▸ hl),yd,R.fh.free hp,R.gr.hh.free hp,h⟩
  ·rw [List.getElem?_set_ne hj]
   obtain ⟨a,us,h1,h2,h3⟩:=R.ow j e q
   exact ⟨a,us,h1,by rw [zV (fun w=>by rw [w,hp] at h2; cases h2)]; exact h2,h3⟩
 od := fun j e z=>by
  rcases get_set z with ⟨rfl,q,hl⟩ | ⟨hj,q⟩
  ·cases q
  ·rw [List.getElem?_set_ne hj]
   obtain ⟨a,us,h1,h2,h3⟩:=R.od j e q
   exact ⟨a,us,h1,by rw [zV (fun w=>by rw [w,hp] at h2; cases h2)]; exact h2,h3⟩
 ap := fun j k s t a z1 z2 o1 o2 e1 e2=>by
  rcases get_set z1 with ⟨rfl,q,hl⟩ | ⟨hj,q⟩
  ·rcases get_set z2 with ⟨rfl,q2,hl2⟩ | ⟨hk,q2⟩
   ·rfl
   ·rw [zbW (R.len ▸ hl)] at e1; rw [List.getElem?_set_ne hk] at e2
    injection e1 with e1; injection e1 with e1; injection e1 with e1
    exact absurd (e1 ▸ hp) (R.apart q2 o2 e2)
  ·rcases get_set z2 with ⟨rfl,q2,hl2⟩ | ⟨hk,q2⟩
   ·rw [zbW (R.len ▸ hl2)] at e2; rw [List.getElem?_set_ne hj] at e1
    injection e2 with e2; injection e2 with e2; injection e2 with e2
    exact absurd (e2 ▸ hp) (R.apart q o1 e1)
   ·rw [List.getElem?_set_ne hj] at e1; rw [List.getElem?_set_ne hk] at e2
    exact R.ap j k s t a q q2 o1 o2 e1 e2
theorem Rl.put {H0 F0:Hp}{ρ:Rho}{σ:St}{i:Nat}{a:Addr}{us:List V}{ds es:List D}(R:Rl K cl H0 F0 ρ σ H F)(hi:ρ[i]? = some (.ow ds))(hs:σ[i]? = some (some (.ref a)))(h:Dts K cl F us es):Rl K cl H0 F0 (ρ.set i (.ow es)) σ (upd H a (.lst us)) F:=by
 obtain ⟨b,ws,h1,h2,h3,h4,_⟩:=R.ow i ds hi
 rw [hs] at h1
 injection h1 with h1; injection h1 with h1; injection h1 with h1
 subst h1
 have far:∀(j:Nat) (s:Sl) (c:Addr),j≠i→ρ[j]? = some s→s.own=true→σ[j]? = some (some (.ref c))→c≠a:=fun j s c hj e o z w=>hj (R.ap j i s _ a e hi o rfl (w ▸ z) hs)
 refine ⟨⟨R.gr.ff,fun c o e=>?_,fun c o e=>?_,R.gr.no⟩,by simp [R.len],fun j e z=>?_,fun j e z=>?_,fun j e z=>?_,fun j k s t c z1 z2 o1 o2 e1 e2=>?_⟩
 ·rw [zV (fun w=>by rw [w,h4] at e; cases e)]; exact R.gr.hh c o e
 ·rw [zV (fun w=>by rw [w,h3] at e; cases e)]; exact R.fh c o e
 ·rcases get_set z with ⟨rfl,q,hl⟩ | ⟨hj,q⟩
  ·cases q
  ·exact R.fz j e q
 ·rcases get_set z with ⟨rfl,q,hl⟩ | ⟨hj,q⟩
  ·injection q with q; subst q
   exact ⟨a,us,hs,yd,h3,h4,h⟩
  ·obtain ⟨c,xs,k1,k2,k3⟩:=R.ow j e q
   exact ⟨c,xs,k1,by rw [zV (far j _ c (Ne.symm hj) q rfl k1)]; exact k2,k3⟩
 ·rcases get_set z with ⟨rfl,q,hl⟩ | ⟨hj,q⟩
  ·cases q
  ·obtain ⟨c,xs,k1,k2,k3⟩:=R.od j e q
   exact ⟨c,xs,k1,by rw [zV (far j _ c (Ne.symm hj) q rfl k1)]; exact k2,k3⟩
 ·have own:∀(j:Nat) (s:Sl),(ρ.set i (.ow es))[j]? = some s→s.own=true→∃s',ρ[j]? = some s'∧s'.own=true:=fun j s z o=>by
   rcases get_set z with ⟨rfl,q,hl⟩ | ⟨hj,q⟩
   ·exact ⟨_,hi,rfl⟩
   ·exact ⟨s,q,o⟩
  obtain ⟨s',q1,p1⟩:=own j s z1 o1
  obtain ⟨t',q2,p2⟩:=own k t z2 o2
  exact R.ap j k s' t' c q1 q2 p1 p2 e1 e2
theorem Rl.ice {H0 F0:Hp}{ρ:Rho}{σ:St}{i:Nat}{ds:List D}(R:Rl K cl H0 F0 ρ σ H F)(hi:ρ[i]? = some (.ow ds)):∃F',Same F F'∧Rl K cl H0 F0 (ρ.set i (.fz (.lst ds))) σ H F':=by
 obtain ⟨a,vs,h1,h2,h3,h4,h5⟩:=R.ow i ds hi
 have sm:Same F (upd F a (.lst vs)):=Same.upd h3
 have far:∀(j:Nat) (s:Sl) (c:Addr),j≠i→ρ[j]? = some s→s.own=true→σ[j]? = some (some (.ref c))→c≠a:=fun j s c hj e o z w=>hj (R.ap j i s _ a e hi o rfl (w ▸ z) h1)
 refine ⟨upd F a (.lst vs),sm,⟨⟨R.gr.ff.trans sm,R.gr.hh,fun c o e=>?_,fun c o hc m q=>?_⟩,by simp [R.len],fun j e z=>?_,fun j e z=>?_,fun j e z=>?_,fun j k s t c z1 z2 o1 o2 e1 e2=>?_⟩⟩
 ·by_cases w:c=a
  ·subst w; rw [yd] at e; rw [← e]; exact h2
  ·rw [zV w] at e; exact R.fh c o e
 ·have hne:c≠a:=fun w=>by rw [w,h4] at hc; cases hc
  rw [zV hne]; exact R.gr.no c o hc m q
 ·rcases get_set z with ⟨rfl,q,hl⟩ | ⟨hj,q⟩
  ·injection q with q; subst q
   exact ⟨.ref a,h1,.lst (.inl (.inl yd)) (h5.mono sm)⟩
  ·obtain ⟨v,k1,k2⟩:=R.fz j e q
   exact ⟨v,k1,k2.mono sm⟩
 ·rcases get_set z with ⟨rfl,q,hl⟩ | ⟨hj,q⟩
  ·cases q
  ·obtain ⟨c,xs,k1,k2,k3,k4,k5⟩:=R.ow j e q
   exact ⟨c,xs,k1,k2,by rw [zV (far j _ c (Ne.symm hj) q rfl k1)]; exact k3,k4,k5.mono sm⟩
 ·rcases get_set z with ⟨rfl,q,hl⟩ | ⟨hj,q⟩
  ·cases q
  ·obtain ⟨c,xs,k1,k2,k3,k4,k5⟩:=R.od j e q
   exact ⟨c,xs,k1,k2,by rw [zV (far j _ c (Ne.symm hj) q rfl k1)]; exact k3,k4,k5.mono sm⟩
 ·rcases get_set z1 with ⟨rfl,q,hl⟩ | ⟨hj,q⟩
  ·subst q; cases o1
  ·rcases get_set z2 with ⟨rfl,q2,hl⟩ | ⟨hk,q2⟩
   ·subst q2; cases o2
   ·exact R.ap j k s t c q q2 o1 o2 e1 e2
end
end L2
namespace L2
open PySem PySem.Spec PyProof.Rows
noncomputable def OutE (K:PySem.W.Frag)(cl:Nat→Addr)(E:XK)(H0 F H:Hp)(r:Rs D)(Q:VK):Prop :=
 match r with
 | .ok d=>∀v H' F',Gr F H F' H'→Dt K cl F' v d→Q v H'
 | .ex n=>∀H',Same H0 H'→E (.ref (cl n)) none H'
 | .no=>False
noncomputable def OutA (K:PySem.W.Frag)(cl:Nat→Addr)(E:XK)(H0 F H:Hp)(r:Rs (List D))(Q:List V→Hp→Prop):Prop :=
 match r with
 | .ok ds=>∀vs H' F',Gr F H F' H'→Dts K cl F' vs ds→Q vs H'
 | .ex n=>∀H',Same H0 H'→E (.ref (cl n)) none H'
 | .no=>False
noncomputable def OutB (K:PySem.W.Frag)(cl:Nat→Addr)(E:XK)(H0 F H:Hp)(r:Rs Bool)(Q:Bool→Hp→Prop):Prop :=
 match r with
 | .ok b=>∀H' F',Gr F H F' H'→Q b H'
 | .ex n=>∀H',Same H0 H'→E (.ref (cl n)) none H'
 | .no=>False
noncomputable def OutS (K:PySem.W.Frag)(cl:Nat→Addr)(E:XK)(H0 F0 F:Hp)(o:Out)(Dn:Ends):Prop :=
 match o with
 | .nx ρ=>∀σ H F',Rl K cl H0 F0 ρ σ H F'→Same F F'→Dn.nx σ H
 | .rt d=>∀v H F',Gr F0 H0 F' H→Dt K cl F' v d→Dn.rt v H
 | .bk ρ=>∀σ H F',Rl K cl H0 F0 ρ σ H F'→Same F F'→Dn.bk σ H
 | .ct ρ=>∀σ H F',Rl K cl H0 F0 ρ σ H F'→Same F F'→Dn.ct σ H
 | .ex n=>∀H',Same H0 H'→E (.ref (cl n)) none H'
 | .no=>False
noncomputable def XE' (X:Cx)(cl:Nat→Addr)(E:XK)(e:Expr)(f:Rho→Rs D):Prop :=
 ∃t:TE,PE X e t∧∀(H0 F0:Hp) (ρ:Rho) (σ:St) (H F:Hp) (Q:VK),Rl X.K cl H0 F0 ρ σ H F→OutE X.K cl E H0 F H (f ρ) Q→t σ H Q
noncomputable def XA' (X:Cx)(cl:Nat→Addr)(E:XK)(es:List Expr)(f:Rho→Rs (List D)):Prop :=
 ∃t:TA,PA X es t∧∀(H0 F0:Hp) (ρ:Rho) (σ:St) (H F:Hp) (Q:List V→Hp→Prop),Rl X.K cl H0 F0 ρ σ H F→OutA X.K cl E H0 F H (f ρ) Q→t σ H Q
noncomputable def XT' (X:Cx)(cl:Nat→Addr)(E:XK)(e:Expr)(f:Rho→Rs Bool):Prop :=
 ∃t:TT,PT X e t∧∀(H0 F0:Hp) (ρ:Rho) (σ:St) (H F:Hp) (Q:Bool→Hp→Prop),Rl X.K cl H0 F0 ρ σ H F→OutB X.K cl E H0 F H (f ρ) Q→t σ H Q
noncomputable def XW' (X:Cx)(cl:Nat→Addr)(E:XK)(e:Expr)(f:Rho→Rs Bool):Prop :=
 ∃t:TT,PW X e t∧∀(H0 F0:Hp) (ρ:Rho) (σ:St) (H F:Hp) (Q:Bool→Hp→Prop),Rl X.K cl H0 F0 ρ σ H F→OutB X.K cl E H0 F H (f ρ) Q→t σ H Q
noncomputable def XO' (X:Cx)(cl:Nat→Addr)(E:XK)(e:Option Expr)(f:Rho→Rs (Option Int)):Prop :=
 ∃ t:TO,PO X e t∧∀(H0 F0:Hp) (ρ:Rho) (σ:St) (H F:Hp) (Q:Option Int→Hp→Prop),Rl X.K cl H0 F0 ρ σ H F →
  (match f ρ with | .ok o=>∀H' F',Gr F H F' H'→Q o H' | .ex n=>∀H',Same H0 H'→E (.ref (cl n)) none H' | .no=>False)→t σ H Q
noncomputable def tDE (K:PySem.W.Frag)(cl:Nat→Addr)(E:XK)(f:Rho→Rs D):TE:=fun σ H Q=>∃H0 F0 ρ F,Rl K cl H0 F0 ρ σ H F∧OutE K cl E H0 F H (f ρ) Q
noncomputable def tDA (K:PySem.W.Frag)(cl:Nat→Addr)(E:XK)(f:Rho→Rs (List D)):TA:=fun σ H Q=>∃H0 F0 ρ F,Rl K cl H0 F0 ρ σ H F∧OutA K cl E H0 F H (f ρ) Q
noncomputable def tDB (K:PySem.W.Frag)(cl:Nat→Addr)(E:XK)(f:Rho→Rs Bool):TT:=fun σ H Q=>∃H0 F0 ρ F,Rl K cl H0 F0 ρ σ H F∧OutB K cl E H0 F H (f ρ) Q
noncomputable def XE (X:Cx)(cl:Nat→Addr)(E:XK)(e:Expr)(f:Rho→Rs D):Prop:=PE X e (tDE X.K cl E f)
noncomputable def XA (X:Cx)(cl:Nat→Addr)(E:XK)(es:List Expr)(f:Rho→Rs (List D)):Prop:=PA X es (tDA X.K cl E f)
noncomputable def XT (X:Cx)(cl:Nat→Addr)(E:XK)(e:Expr)(f:Rho→Rs Bool):Prop:=PT X e (tDB X.K cl E f)
noncomputable def XW (X:Cx)(cl:Nat→Addr)(E:XK)(e:Expr)(f:Rho→Rs Bool):Prop:=PW X e (tDB X.K cl E f)
section
variable {X:Cx}{cl:Nat→Addr}{E:XK}
theorem XE.ex {e:Expr}{f:Rho→Rs D}(h:XE X cl E e f):XE' X cl E e f:=⟨_,h,fun H0 F0 ρ σ H F Q R o=>⟨H0,F0,ρ,F,R,o⟩⟩
theorem XA.ex {e:List Expr}{f:Rho→Rs (List D)}(h:XA X cl E e f):XA' X cl E e f:=⟨_,h,fun H0 F0 ρ σ H F Q R o=>⟨H0,F0,ρ,F,R,o⟩⟩
theorem XT.ex {e:Expr}{f:Rho→Rs Bool}(h:XT X cl E e f):XT' X cl E e f:=⟨_,h,fun H0 F0 ρ σ H F Q R o=>⟨H0,F0,ρ,F,R,o⟩⟩
theorem XW.ex {e:Expr}{f:Rho→Rs Bool}(h:XW X cl E e f):XW' X cl E e f:=⟨_,h,fun H0 F0 ρ σ H F Q R o=>⟨H0,F0,ρ,F,R,o⟩⟩
theorem XE'.out {e:Expr}{f:Rho→Rs D}(h:XE' X cl E e f):XE X cl E e f:=let ⟨_,pt,rt⟩:=h; fun pins s σ H Q I ⟨H0,F0,ρ,F,R,o⟩=>pt pins s σ H Q I (rt H0 F0 ρ σ H F Q R o)
theorem XA'.out {e:List Expr}{f:Rho→Rs (List D)}(h:XA' X cl E e f):XA X cl E e f:=let ⟨_,pt,rt⟩:=h; fun pos pins s σ H Q I ⟨H0,F0,ρ,F,R,o⟩=>pt pos pins s σ H Q I (rt H0 F0 ρ σ H F Q R o)
theorem XT'.out {e:Expr}{f:Rho→Rs Bool}(h:XT' X cl E e f):XT X cl E e f:=let ⟨_,pt,rt⟩:=h; fun pins s σ H Q I ⟨H0,F0,ρ,F,R,o⟩=>pt pins s σ H Q I (rt H0 F0 ρ σ H F Q R o)
theorem XW'.out {e:Expr}{f:Rho→Rs Bool}(h:XW' X cl E e f):XW X cl E e f:=let ⟨_,pt,rt⟩:=h; fun whole pins s σ H Q I ⟨H0,F0,ρ,F,R,o⟩=>pt whole pins s σ H Q I (rt H0 F0 ρ σ H F Q R o)
end
noncomputable def fC (d:D):Rho→Rs D:=fun _=>.ok d
noncomputable def fNm (i:Nat):Rho→Rs D:=fun ρ=>match ρ[i]? with | some (.fz d)=>.ok d | _=>.no
noncomputable def lf:Option D→Rs D
 | some d=>.ok d
 | none=>.no
noncomputable def f1 (g:D→Option D)(fa:Rho→Rs D):Rho→Rs D:=fun ρ=>(fa ρ).bind fun a=>lf (g a)
noncomputable def f2 (g:D→D→Option D)(fa fb:Rho→Rs D):Rho→Rs D:=fun ρ=>(fa ρ).bind fun a=>(fb ρ).bind fun b=>lf (g a b)
noncomputable def zA:Rho→Rs (List D):=fun _=>.ok []
noncomputable def zb (fa:Rho→Rs D)(fs:Rho→Rs (List D)):Rho→Rs (List D):=fun ρ=>(fa ρ).bind fun a=>(fs ρ).bind fun as=>.ok (a::as)
noncomputable def fO (g:List D→Option D)(fs:Rho→Rs (List D)):Rho→Rs D:=fun ρ=>(fs ρ).bind fun as=>lf (g as)
noncomputable def fA (g:List D→Rs D)(fs:Rho→Rs (List D)):Rho→Rs D:=fun ρ=>(fs ρ).bind g
noncomputable def fIf (ft:Rho→Rs Bool)(fa fb:Rho→Rs D):Rho→Rs D:=fun ρ=>(ft ρ).bind fun b=>if b=true then fa ρ else fb ρ
noncomputable def tru:D→Rs Bool
 | .bl b=>.ok b
 | _=>.no
noncomputable def bT (fa:Rho→Rs D):Rho→Rs Bool:=fun ρ=>(fa ρ).bind tru
noncomputable def zap (ft:Rho→Rs Bool):Rho→Rs Bool:=fun ρ=>(ft ρ).bind fun b=>.ok (!b)
noncomputable def bAnd (fa fb:Rho→Rs Bool):Rho→Rs Bool:=fun ρ=>(fa ρ).bind fun b=>if b=true then fb ρ else .ok false
noncomputable def bOr (fa fb:Rho→Rs Bool):Rho→Rs Bool:=fun ρ=>(fa ρ).bind fun b=>if b=true then .ok true else fb ρ
noncomputable def zaU (fa fb:Rho→Rs D):Rho→Rs D:=fun ρ=>(fa ρ).bind fun a=>(tru a).bind fun b=>if b=true then fb ρ else .ok (.bl false)
noncomputable def fOr (fa fb:Rho→Rs D):Rho→Rs D:=fun ρ=>(fa ρ).bind fun a=>(tru a).bind fun b=>if b=true then .ok (.bl true) else fb ρ
noncomputable def zdz (fa:Rho→Rs D):Rho→Rs D:=fun ρ=>(fa ρ).bind fun a=>(tru a).bind fun b=>.ok (.bl (!b))
section
variable {K:PySem.W.Frag}{cl:Nat→Addr}{E:XK}{H0 F0 F H F1 H1:Hp}{ρ:Rho}{σ:St}
theorem OutE.grow {r:Rs D}{Q:VK}(h:OutE K cl E H0 F H r Q)(g:Gr F H F1 H1):OutE K cl E H0 F1 H1 r Q:=by
 cases r with
 | ok d=>exact fun v H' F' g' q=>h v H' F' (g.trans g') q
 | ex n=>exact h
 | no=>exact h
theorem OutA.grow {r:Rs (List D)}{Q:List V→Hp→Prop}(h:OutA K cl E H0 F H r Q)(g:Gr F H F1 H1):OutA K cl E H0 F1 H1 r Q:=by
 cases r with
 | ok d=>exact fun v H' F' g' q=>h v H' F' (g.trans g') q
 | ex n=>exact h
 | no=>exact h
theorem OutB.grow {r:Rs Bool}{Q:Bool→Hp→Prop}(h:OutB K cl E H0 F H r Q)(g:Gr F H F1 H1):OutB K cl E H0 F1 H1 r Q:=by
 cases r with
 | ok d=>exact fun H' F' g'=>h H' F' (g.trans g')
 | ex n=>exact h
 | no=>exact h
theorem OutE.fst {r:Rs D}{g:D→Rs D}{Q P:VK}(h:OutE K cl E H0 F H (r.bind g) Q)(k:∀d v H1 F1,Gr F H F1 H1→Dt K cl F1 v d→OutE K cl E H0 F1 H1 (g d) Q→P v H1):OutE K cl E H0 F H r P:=by
 cases r with
 | ok d=>exact fun v H' F' g' q=>k d v H' F' g' q (h.grow g')
 | ex n=>exact h
 | no=>exact h
theorem OutE.fstA {r:Rs D}{g:D→Rs (List D)}{Q:List V→Hp→Prop}{P:VK}(h:OutA K cl E H0 F H (r.bind g) Q)(k:∀d v H1 F1,Gr F H F1 H1→Dt K cl F1 v d→OutA K cl E H0 F1 H1 (g d) Q→P v H1):OutE K cl E H0 F H r P:=by
 cases r with
 | ok d=>exact fun v H' F' g' q=>k d v H' F' g' q (h.grow g')
 | ex n=>exact h
 | no=>exact h
theorem OutA.fst {r:Rs (List D)}{g:List D→Rs D}{Q:VK}{P:List V→Hp→Prop}(h:OutE K cl E H0 F H (r.bind g) Q)(k:∀d v H1 F1,Gr F H F1 H1→Dts K cl F1 v d→OutE K cl E H0 F1 H1 (g d) Q→P v H1):OutA K cl E H0 F H r P:=by
 cases r with
 | ok d=>exact fun v H' F' g' q=>k d v H' F' g' q (h.grow g')
 | ex n=>exact h
 | no=>exact h
theorem OutA.fstA {r:Rs (List D)}{g:List D→Rs (List D)}{Q P:List V→Hp→Prop}(h:OutA K cl E H0 F H (r.bind g) Q)(k:∀d v H1 F1,Gr F H F1 H1→Dts K cl F1 v d→OutA K cl E H0 F1 H1 (g d) Q→P v H1):OutA K cl E H0 F H r P:=by
 cases r with
 | ok d=>exact fun v H' F' g' q=>k d v H' F' g' q (h.grow g')
 | ex n=>exact h
 | no=>exact h
theorem OutE.fstB {r:Rs D}{g:D→Rs Bool}{Q:Bool→Hp→Prop}{P:VK}(h:OutB K cl E H0 F H (r.bind g) Q)(k:∀d v H1 F1,Gr F H F1 H1→Dt K cl F1 v d→OutB K cl E H0 F1 H1 (g d) Q→P v H1):OutE K cl E H0 F H r P:=by
 cases r with
 | ok d=>exact fun v H' F' g' q=>k d v H' F' g' q (h.grow g')
 | ex n=>exact h
 | no=>exact h
theorem OutB.fstB {r:Rs Bool}{g:Bool→Rs Bool}{Q P:Bool→Hp→Prop}(h:OutB K cl E H0 F H (r.bind g) Q)(k:∀b H1 F1,Gr F H F1 H1→OutB K cl E H0 F1 H1 (g b) Q→P b H1):OutB K cl E H0 F H r P:=by
 cases r with
 | ok d=>exact fun H' F' g'=>k d H' F' g' (h.grow g')
 | ex n=>exact h
 | no=>exact h
theorem OutE.okI {d:D}{v:V}{Q:VK}(h:OutE K cl E H0 F H (.ok d) Q)(s:Same F H)(q:Dt K cl F v d):Q v H:=h v H F (Gr.refl s) q
theorem zce {v:V}{d:D}{b:Bool}(q:Dt K cl F v d)(h:tru d=.ok b):v=.bl b:=by
 cases q <;> simp [tru] at h
 subst h; rfl
end
section
variable {X:Cx}{cl:Nat→Addr}{E:XK}{a b:Expr}{fa fb fc:Rho→Rs D}{pos:Pos}
theorem xe_c {e:Expr}{v:V}{d:D}(h:PE X e (tC v))(q:∀F,Dt X.K cl F v d):XE X cl E e (fC d):=XE'.out ⟨_,h,fun H0 F0 ρ σ H F Q R o=>o.okI R.fh (q F)⟩
theorem zE {i j pos}:XE X cl E (.Constant (.int i) j pos) (fC (.int i)):=xe_c pe_int fun _=>.int i
theorem zam {b j pos}:XE X cl E (.Constant (.bool b) j pos) (fC (.bl b)):=xe_c pe_bl fun _=>.bl b
theorem xe_non {j pos}:XE X cl E (.Constant .none j pos) (fC .non):=xe_c pe_non fun _=>.non
theorem yO {x:Str}{j pos}{l:List Nat}(h:x=T l)(ok:TxtOk (T l)):XE X cl E (.Constant (.str x) j pos) (fC (.str l)):=by subst h; exact xe_c pe_str fun _=>.str l ok
theorem zj (i:Nat){e:Expr}(h:PE X e (tVar i)):XE X cl E e (fNm i):=XE'.out ⟨_,h,fun H0 F0 ρ σ H F Q R o=>by
 unfold fNm at o
 split at o
 ·rename_i d e
  obtain ⟨v,h1,h2⟩:=R.fz i d e
  exact ⟨v,h1,o.okI R.fh h2⟩
 ·exact o.elim⟩
theorem zu:XA X cl E [] zA:=XA'.out ⟨_,vY,fun H0 F0 ρ σ H F Q R o=>o [] H F (Gr.refl R.fh) .nil⟩
theorem zc {e:Expr}{es:List Expr}{fs:Rho→Rs (List D)}(ha:XE X cl E e fa)(hr:XA X cl E es fs)(hs:starEach (e::es) X.env=(false,eval e X.env)::starEach es X.env):XA X cl E (e::es) (zb fa fs):=by
 obtain ⟨t,pt,rt⟩:=ha.ex
 obtain ⟨u,pu,ru⟩:=hr.ex
 refine XA'.out ⟨_,xM pt pu hs,fun H0 F0 ρ σ H F Q R o=>rt H0 F0 ρ σ H F _ R (OutE.fstA o fun d v H1 F1 g q o1=>?_)⟩
 refine ru H0 F0 ρ σ H1 F1 _ (R.grow g) (OutA.fstA o1 fun ds vs H2 F2 g2 q2 o2=>?_)
 exact o2 (v::vs) H2 F2 (Gr.refl (R.grow (g.trans g2)).fh) (.cons (q.mono g2.ff) q2)
noncomputable def Op2 (K:PySem.W.Frag)(cl:Nat→Addr)(r:R2)(g:D→D→Option D):Prop :=
 ∀(F H:Hp) (x y:V) (a b d:D) (Q:VK),Same F H→Dt K cl F x a→Dt K cl F y b→g a b=some d→(∀v H' F',Gr F H F' H'→Dt K cl F' v d→Q v H')→r x y H Q
theorem OutE.lf {K:PySem.W.Frag}{cl:Nat→Addr}{E:XK}{H0 F H:Hp}{o:Option D}{Q:VK}(h:OutE K cl E H0 F H (lf o) Q):∃d,o=some d∧∀v H' F',Gr F H F' H'→Dt K cl F' v d→Q v H':=by
 cases o with
 | none=>exact h.elim
 | some d=>exact ⟨d,rfl,h⟩
theorem yF {op:Operator}{r:R2}{g:D→D→Option D}(ho:OpR X (binaryOp op) r)(hg:Op2 X.K cl r g)(ha:XE X cl E a fa)(hb:XE X cl E b fb):XE X cl E (.BinOp a op b pos) (f2 g fa fb):=by
 obtain ⟨t,pt,rt⟩:=ha.ex
 obtain ⟨u,pu,ru⟩:=hb.ex
 refine XE'.out ⟨_,pe_op ho pt pu,fun H0 F0 ρ σ H F Q R o=>rt H0 F0 ρ σ H F _ R (OutE.fst o fun d v H1 F1 g1 q o1=>?_)⟩
 refine ru H0 F0 ρ σ H1 F1 _ (R.grow g1) (OutE.fst o1 fun e w H2 F2 g2 q2 o2=>?_)
 obtain ⟨z,hz,k⟩:=o2.lf
 exact hg F2 H2 v w d e z _ (R.grow (g1.trans g2)).fh (q.mono g2.ff) q2 hz k
theorem zbo {op:CmpOp}{r:R2}{g:D→D→Option D}(ho:OpR X (compareOp op) r)(hg:Op2 X.K cl r g)(ha:XE X cl E a fa)(hb:XE X cl E b fb)(hm:behindInMarks op b=false):XE X cl E (.Compare a [op] [b] pos) (f2 g fa fb):=by
 obtain ⟨t,pt,rt⟩:=ha.ex
 obtain ⟨u,pu,ru⟩:=hb.ex
 refine XE'.out ⟨_,pe_cmpR ho pt pu hm,fun H0 F0 ρ σ H F Q R o=>rt H0 F0 ρ σ H F _ R (OutE.fst o fun d v H1 F1 g1 q o1=>?_)⟩
 refine ru H0 F0 ρ σ H1 F1 _ (R.grow g1) (OutE.fst o1 fun e w H2 F2 g2 q2 o2=>?_)
 obtain ⟨z,hz,k⟩:=o2.lf
 exact hg F2 H2 v w d e z _ (R.grow (g1.trans g2)).fh (q.mono g2.ff) q2 hz k
theorem wu {op:CmpOp}{r:R2}{g:D→D→Option D}(ho:OpR X (compareOp op) r)(hg:Op2 X.K cl r g)(ha:XE X cl E a fa)(hb:XE X cl E b fb)(hm:behindInMarks op b=false):XT X cl E (.Compare a [op] [b] pos) (bT (f2 g fa fb)):=by
 obtain ⟨t,pt,rt⟩:=ha.ex
 obtain ⟨u,pu,ru⟩:=hb.ex
 refine XT'.out ⟨_,pt_cmpR ho pt pu hm,fun H0 F0 ρ σ H F Q R o=>?_⟩
 have o':OutE X.K cl E H0 F H (f2 g fa fb ρ) fun v H1=>∃k,v=.bl k∧Q k H1:=OutE.fstB o fun d v H1 F1 g1 q o1=>by
  cases e:tru d with
  | ok b=>rw [e] at o1; exact ⟨b,zce q e,o1 H1 F1 (Gr.refl (R.grow g1).fh)⟩
  | ex n=>cases d <;> simp [tru] at e
  | no=>rw [e] at o1; exact o1.elim
 refine rt H0 F0 ρ σ H F _ R (OutE.fst o' fun d v H1 F1 g1 q o1=>?_)
 refine ru H0 F0 ρ σ H1 F1 _ (R.grow g1) (OutE.fst o1 fun e w H2 F2 g2 q2 o2=>?_)
 obtain ⟨z,hz,k⟩:=o2.lf
 exact hg F2 H2 v w d e z _ (R.grow (g1.trans g2)).fh (q.mono g2.ff) q2 hz k
theorem OutB.bT {ρ:Rho}{H0 F0 H F:Hp}{σ:St}{Q:Bool→Hp→Prop}(R:Rl X.K cl H0 F0 ρ σ H F)(o:OutB X.K cl E H0 F H (bT fa ρ) Q):OutE X.K cl E H0 F H (fa ρ) fun v H1=>∃k,v=.bl k∧Q k H1:=OutE.fstB o fun d v H1 F1 g1 q o1=>by
  cases e:tru d with
  | ok b=>rw [e] at o1; exact ⟨b,zce q e,o1 H1 F1 (Gr.refl (R.grow g1).fh)⟩
  | ex n=>cases d <;> simp [tru] at e
  | no=>rw [e] at o1; exact o1.elim
theorem qC {e:Expr}(h:XE X cl E e fa)(he:∀whole,isTrue e X.env whole=(do let v ← whole; standAt e.pos; holding [v] (truthy v)):=by intro _; rfl):XT X cl E e (bT fa):=by
 obtain ⟨t,pt,rt⟩:=h.ex
 exact XT'.out ⟨_,pt_val pt he,fun H0 F0 ρ σ H F Q R o=>rt H0 F0 ρ σ H F _ R (OutB.bT R o)⟩
theorem zac {ft:Rho→Rs Bool}(h:XT X cl E a ft):XT X cl E (.UnaryOp .Not a pos) (zap ft):=by
 obtain ⟨t,pt,rt⟩:=h.ex
 exact XT'.out ⟨_,pt_not pt,fun H0 F0 ρ σ H F Q R o=>rt H0 F0 ρ σ H F _ R (OutB.fstB o fun b H1 F1 g o1=>o1 H1 F1 (Gr.refl (R.grow g).fh))⟩
theorem zaK {ft:Rho→Rs Bool}(h:XT X cl E a ft):XW X cl E (.BoolOp .Or [a] pos) ft:=let ⟨t,pt,rt⟩:=h.ex; XW'.out ⟨t,pw_or1 pt,rt⟩
theorem zdx {rest:List Expr}{ft fu:Rho→Rs Bool}(h:XT X cl E a ft)(k:XW X cl E (.BoolOp .Or (b::rest) pos) fu):XW X cl E (.BoolOp .Or (a::b::rest) pos) (bOr ft fu):=by
 obtain ⟨t,pt,rt⟩:=h.ex
 obtain ⟨u,pu,ru⟩:=k.ex
 refine XW'.out ⟨_,pw_or pt pu,fun H0 F0 ρ σ H F Q R o=>rt H0 F0 ρ σ H F _ R (OutB.fstB o fun b H1 F1 g o1=>?_)⟩
 cases b with
 | true=>exact o1 H1 F1 (Gr.refl (R.grow g).fh)
 | false=>exact ru H0 F0 ρ σ H1 F1 _ (R.grow g) o1
theorem XW.xt {e:Expr}{ft:Rho→Rs Bool}(h:XW X cl E e ft):XT X cl E e ft:=let ⟨t,pt,rt⟩:=h.ex; XT'.out ⟨t,pt.pt,rt⟩
noncomputable def isN (neg:Bool):D→Option D
 | .non=>some (.bl (!neg))
 | _=>some (.bl neg)
theorem Dt.isnon {K:PySem.W.Frag}{F:Hp}{v:V}{d:D}(q:Dt K cl F v d):isN false d=some (.bl (decide (v=.non)))∧isN true d=some (.bl (!decide (v=.non))):=by cases q <;> exact ⟨rfl,rfl⟩
theorem xe_isN {j pos'}(h:XE X cl E a fa):XE X cl E (.Compare a [.Is] [.Constant .none j pos'] pos) (f1 (isN false) fa):=by
 obtain ⟨t,pt,rt⟩:=h.ex
 refine XE'.out ⟨_,pe_cmp (pc_isN pt),fun H0 F0 ρ σ H F Q R o=>rt H0 F0 ρ σ H F _ R (OutE.fst o fun d v H1 F1 g q o1=>?_)⟩
 rw [q.isnon.1] at o1
 exact o1.okI (R.grow g).fh (.bl _)
theorem xt_notN {j pos'}(h:XE X cl E a fa):XT X cl E (.Compare a [.IsNot] [.Constant .none j pos'] pos) (bT (f1 (isN true) fa)):=by
 obtain ⟨t,pt,rt⟩:=h.ex
 refine XT'.out ⟨_,pt_cmp (pc_notN pt),fun H0 F0 ρ σ H F Q R o=>rt H0 F0 ρ σ H F _ R (OutE.fst (OutB.bT R o) fun d v H1 F1 g q o1=>?_)⟩
 rw [q.isnon.2] at o1
 exact o1.okI (R.grow g).fh (.bl _)
theorem OutE.tru {H0 F H F1 H1:Hp}{d:D}{v:V}{g:Bool→Rs D}{Q:VK}(q:Dt X.K cl F v d)(o:OutE X.K cl E H0 F H ((tru d).bind g) Q):∃b,v=.bl b∧OutE X.K cl E H0 F H (g b) Q:=by
 cases e:L2.tru d with
 | ok b=>rw [e] at o; exact ⟨b,zce q e,o⟩
 | ex n=>cases d <;> simp [L2.tru] at e
 | no=>rw [e] at o; exact o.elim
theorem zaJ {op}(h:XE X cl E a fa):XE X cl E (.BoolOp op [a] pos) fa:=let ⟨t,pt,rt⟩:=h.ex; XE'.out ⟨t,pe_one pt,rt⟩
theorem zbu {rest:List Expr}(ha:XE X cl E a fa)(hb:XE X cl E (.BoolOp .And (b::rest) pos) fb):XE X cl E (.BoolOp .And (a::b::rest) pos) (zaU fa fb):=by
 obtain ⟨t,pt,rt⟩:=ha.ex
 obtain ⟨u,pu,ru⟩:=hb.ex
 refine XE'.out ⟨_,pe_and pt pu,fun H0 F0 ρ σ H F Q R o=>rt H0 F0 ρ σ H F _ R (OutE.fst o fun d v H1 F1 g q o1=>?_)⟩
 obtain ⟨b,rfl,o2⟩:=OutE.tru (F1:=F1) (H1:=H1) q o1
 refine ⟨b,rfl,?_⟩
 cases b with
 | true=>exact ru H0 F0 ρ σ H1 F1 _ (R.grow g) o2
 | false=>exact o2.okI (R.grow g).fh (.bl _)
theorem xe_or {rest:List Expr}(ha:XE X cl E a fa)(hb:XE X cl E (.BoolOp .Or (b::rest) pos) fb):XE X cl E (.BoolOp .Or (a::b::rest) pos) (fOr fa fb):=by
 obtain ⟨t,pt,rt⟩:=ha.ex
 obtain ⟨u,pu,ru⟩:=hb.ex
 refine XE'.out ⟨_,pe_or pt pu,fun H0 F0 ρ σ H F Q R o=>rt H0 F0 ρ σ H F _ R (OutE.fst o fun d v H1 F1 g q o1=>?_)⟩
 obtain ⟨b,rfl,o2⟩:=OutE.tru (F1:=F1) (H1:=H1) q o1
 refine ⟨b,rfl,?_⟩
 cases b with
 | true=>exact o2.okI (R.grow g).fh (.bl _)
 | false=>exact ru H0 F0 ρ σ H1 F1 _ (R.grow g) o2
theorem xe_not (ha:XE X cl E a fa):XE X cl E (.UnaryOp .Not a pos) (zdz fa):=by
 obtain ⟨t,pt,rt⟩:=ha.ex
 refine XE'.out ⟨_,pe_not pt,fun H0 F0 ρ σ H F Q R o=>rt H0 F0 ρ σ H F _ R (OutE.fst o fun d v H1 F1 g q o1=>?_)⟩
 obtain ⟨b,rfl,o2⟩:=OutE.tru (F1:=F1) (H1:=H1) q o1
 exact ⟨b,rfl,o2.okI (R.grow g).fh (.bl _)⟩
noncomputable def mkT (ds:List D):Option D:=if ds.length≤1000000 then some (.tup ds) else none
noncomputable def mkL (ds:List D):Option D:=if ds.length≤1000000 then some (.lst ds) else none
theorem sz6 {n:Nat}(h:n≤1000000):n≤sizeLine:=by rw [sizeLine_eq]; omega
theorem zby {es:List Expr}{x1}{fs:Rho→Rs (List D)}(h:XA X cl E es fs):XE X cl E (.Tuple es x1 pos) (fO mkT fs):=by
 obtain ⟨t,pt,rt⟩:=h.ex
 refine XE'.out ⟨_,pe_tup pt,fun H0 F0 ρ σ H F Q R o=>rt H0 F0 ρ σ H F _ R (OutA.fst o fun ds vs H1 F1 g q o1=>?_)⟩
 unfold mkT at o1
 split at o1
 ·rename_i hl
  refine ⟨sz6 (q.length ▸ hl),fun p hp=>?_⟩
  have fh:=(R.grow g).fh
  exact o1 _ _ _ (Gr.new fh hp) (.tup (.inl (.inl yd)) (q.mono (Same.upd (fh.free hp))))
 ·exact o1.elim
theorem jy {es:List Expr}{fs:Rho→Rs (List D)}(h:XA X cl E es fs):XE X cl E (.List es pos) (fO mkL fs):=by
 obtain ⟨t,pt,rt⟩:=h.ex
 refine XE'.out ⟨_,pe_lst pt,fun H0 F0 ρ σ H F Q R o=>rt H0 F0 ρ σ H F _ R (OutA.fst o fun ds vs H1 F1 g q o1=>?_)⟩
 unfold mkL at o1
 split at o1
 ·rename_i hl
  refine ⟨sz6 (q.length ▸ hl),fun p hp=>?_⟩
  have fh:=(R.grow g).fh
  exact o1 _ _ _ (Gr.new fh hp) (.lst (.inl (.inl yd)) (q.mono (Same.upd (fh.free hp))))
 ·exact o1.elim
noncomputable def spD (K:PySem.W.Frag)(cl:Nat→Addr)(fn:List D→Rs D)(n:Nat):Sp:=fun vs H Q E=>∃F ds,Same F H∧Dts K cl F vs ds∧vs.length=n∧OutE K cl E H F H (fn ds) Q
noncomputable def ari (n:Nat)(fn:List D→Rs D):List D→Rs D:=fun ds=>if ds.length=n then fn ds else .no
theorem zF {k:Nat}{f:Addr}{fd:FuncData}{ps:List Str}{fn:List D→Rs D}{n:Nat}{x:Str}{p:Pos}{e:Expr}{es:List Expr}{fs:Rho→Rs (List D)}(G:FnOk X.prog X.w X.K X.mg X.base (CX1 X.prog X.w) k f fd ps (spD X.K cl fn n))(hr:Room k X.A)(hg:Gl X x)(hm:X.mg x=some (.ref f))(hk:PySem.W.keepIn X.K (.ref f)=true)(hb:Binds X.K fd ps [])(hx:zcV (CX1 X.prog X.w) X E)
  (ha:XA X cl E (e::es) fs) (he:starEach (e::es) X.env=(false,eval e X.env)::starEach es X.env) (hdb:(x == ("__debug__" : Str))=false:=by decide) (hpl:(backTo pos (starEach es X.env)).any (·.1)=false:=by rfl):XE X cl E (.Call (.Name x p) (e::es) [] pos) (fA (ari n fn) fs):=by
 obtain ⟨t,pt,rt⟩:=ha.ex
 refine XE'.out ⟨_,pe_call G hr hg hm hk hb .nil hx pt hdb he hpl,fun H0 F0 ρ σ H F Q R o=>rt H0 F0 ρ σ H F _ R (OutA.fst o fun ds vs H1 F1 g q o1=>?_)⟩
 unfold ari at o1
 split at o1
 ·rename_i hl
  rw [List.append_nil]
  have R1:=R.grow g
  refine ⟨F1,ds,R1.fh,q,by rw [q.length,hl],?_⟩
  cases e:fn ds with
  | ok d=>rw [e] at o1; exact o1
  | ex n=>rw [e] at o1; exact fun H' s=>o1 H' (R1.gr.hh.trans s)
  | no=>rw [e] at o1; exact o1
 ·exact o1.elim
end
end L2
namespace L2
open PySem PySem.Spec PyProof.Rows
noncomputable def D.fl:D→Bool
 | .non=>true
 | .bl _=>true
 | .int _=>true
 | .str _=>true
 | _=>false
noncomputable def D.toV:D→V
 | .bl b=>.bl b
 | .int i=>.int i
 | .str l=>.str (T l)
 | _=>.non
noncomputable def uY:D→D→Option D
 | .int i,.int j=>some (.int (i + j))
 | _,_=>none
noncomputable def subI:D→D→Option D
 | .int i,.int j=>some (.int (i - j))
 | _,_=>none
noncomputable instance (i:Int):Decidable (Sm i):=inferInstanceAs (Decidable (i.natAbs < 2 ^ 4000))
noncomputable def mulI:D→D→Option D
 | .int i,.int j=>if Sm i∧Sm j then some (.int (i * j)) else none
 | _,_=>none
noncomputable def modI:D→D→Option D
 | .int i,.int j=>if 0 < j then some (.int (i % j)) else none
 | _,_=>none
noncomputable def zbK:D→D→Option D
 | .int i,.int j=>if 0 < j∧Sm j then some (.int (i / j)) else none
 | _,_=>none
noncomputable def kW:D→D→Option D
 | .str l,.str m=>if l.length + m.length≤1000000 then some (.str (l++m)) else none
 | _,_=>none
noncomputable def ltI:D→D→Option D
 | .int i,.int j=>some (.bl (decide (i < j)))
 | _,_=>none
noncomputable def leI:D→D→Option D
 | .int i,.int j=>some (.bl (decide (i≤j)))
 | _,_=>none
noncomputable def gtI:D→D→Option D
 | .int i,.int j=>some (.bl (decide (j < i)))
 | _,_=>none
noncomputable def geI:D→D→Option D
 | .int i,.int j=>some (.bl (decide (j≤i)))
 | _,_=>none
noncomputable def ltS:D→D→Option D
 | .str l,.str m=>some (.bl (decide (l < m)))
 | _,_=>none
noncomputable def eqD (neg:Bool)(a b:D):Option D:=if a.pl=true∧b.pl=true∧a.py.depth≤60 then some (.bl (if neg then !PyData.eqv a.py b.py else PyData.eqv a.py b.py)) else none
noncomputable def inQ (neg:Bool)(x:D)(ds:List D):Option D:=if x.fl=true∧ds.all D.fl=true then some (.bl (if neg then !inV x.toV (ds.map D.toV) else inV x.toV (ds.map D.toV))) else none
noncomputable def inD (neg:Bool)(x:D):D→Option D
 | .lst ds=>inQ neg x ds
 | .tup ds=>inQ neg x ds
 | _=>none
noncomputable def inC (neg:Bool):D→D→Option D
 | .str [c],.str l=>some (.bl (if neg then !decide (c∈l) else decide (c∈l)))
 | _,_=>none
noncomputable def ixD:D→D→Option D
 | .lst ds,.int i=>atI ds i
 | .tup ds,.int i=>atI ds i
 | .str l,.int i=>(atI l i).map fun c=>.str [c]
 | _,_=>none
noncomputable def zae {α:Type}(xs:List α)(lo hi:Option Int):List α:=(xs.drop (HT.sIx xs.length 0 lo)).take (HT.sIx xs.length xs.length hi - HT.sIx xs.length 0 lo)
noncomputable def slD:D→Option Int→Option Int→Option D
 | .lst ds,lo,hi=>some (.lst (zae ds lo hi))
 | .tup ds,lo,hi=>some (.tup (zae ds lo hi))
 | .str l,lo,hi=>some (.str (zae l lo hi))
 | _,_,_=>none
section
variable {K:PySem.W.Frag}{cl:Nat→Addr}{F H:Hp}
theorem Dt.flat {v:V}{d:D}(q:Dt K cl F v d)(h:d.fl=true):v=d.toV∧ug v=true:=by
 cases q <;> first | exact ⟨rfl,rfl⟩ | (simp [D.fl] at h)
theorem Dts.flat:∀{vs:List V}{ds:List D},Dts K cl F vs ds→ds.all D.fl=true→vs=ds.map D.toV∧vs.all ug=true
 | _,_,.nil,_=>⟨rfl,rfl⟩
 | _,_,.cons q r,h=>by
  rw [List.all_cons,Bool.and_eq_true] at h
  obtain ⟨e1,e2⟩:=q.flat h.1
  obtain ⟨e3,e4⟩:=Dts.flat r h.2
  exact ⟨by rw [List.map_cons,← e1,← e3],by rw [List.all_cons,e2,e4]; rfl⟩
noncomputable def I2 (f:Int→Int→Option D):D→D→Option D
 | .int i,.int j=>f i j
 | _,_=>none
theorem I2_inv {f:Int→Int→Option D}{a b d:D}(e:I2 f a b=some d):∃i j,a=.int i∧b=.int j∧f i j=some d:=by
 cases a with
 | int i =>
  cases b with
  | int j=>exact ⟨i,j,rfl,rfl,e⟩
  | _=>cases e
 | _=>cases e
noncomputable def S2 (f:List Nat→List Nat→Option D):D→D→Option D
 | .str i,.str j=>f i j
 | _,_=>none
theorem S2_inv {f:List Nat→List Nat→Option D}{a b d:D}(e:S2 f a b=some d):∃i j,a=.str i∧b=.str j∧f i j=some d:=by
 cases a with
 | str i =>
  cases b with
  | str j=>exact ⟨i,j,rfl,rfl,e⟩
  | _=>cases e
 | _=>cases e
theorem Dt.intE {v:V}{i:Int}(q:Dt K cl F v (.int i)):v=.int i:=by cases q; rfl
theorem Dt.strE {v:V}{l:List Nat}(q:Dt K cl F v (.str l)):v=.str (T l)∧TxtOk (T l):=by cases q with | str _ ok=>exact ⟨rfl,ok⟩
theorem o_I0 {f:Int→Int→D}{r:Int→Int→V}(hf:∀{F:Hp} i j,Dt K cl F (r i j) (f i j)):Op2 K cl (rI0 r) (I2 fun i j=>some (f i j)):=fun F H x y a b d Q s qa qb e k=>by
 obtain ⟨i,j,rfl,rfl,e1⟩:=I2_inv e
 obtain rfl:=qa.intE
 obtain rfl:=qb.intE
 obtain rfl:=Option.some.inj e1
 exact ⟨_,_,rfl,rfl,k _ _ _ (Gr.refl s) (hf i j)⟩
theorem o_I1 {c:Int→Int→Prop} [∀i j,Decidable (c i j)]{f:Int→Int→Int}:Op2 K cl (rI c fun i j=>.int (f i j)) (I2 fun i j=>if c i j then some (.int (f i j)) else none):=fun F H x y a b d Q s qa qb e k=>by
 obtain ⟨i,j,rfl,rfl,e1⟩:=I2_inv e
 obtain rfl:=qa.intE
 obtain rfl:=qb.intE
 by_cases h:c i j
 ·rw [if_pos h] at e1
  obtain rfl:=Option.some.inj e1
  exact ⟨_,_,rfl,rfl,h,k _ _ _ (Gr.refl s) (.int _)⟩
 ·rw [if_neg h] at e1; cases e1
theorem uQ:Op2 K cl (rI0 fun i j=>.int (i + j)) uY:=o_I0 fun _ _=>.int _
theorem zaS:Op2 K cl (rI (fun i j=>Sm i∧Sm j) fun i j=>.int (i * j)) mulI:=o_I1
theorem j8:Op2 K cl (rI (fun _ j=>0 < j) fun i j=>.int (i % j)) modI:=o_I1
theorem zaA:Op2 K cl (rI (fun _ j=>0 < j∧Sm j) fun i j=>.int (i / j)) zbK:=o_I1
theorem qD:Op2 K cl (fun x y H Q=>∃l m,x=.str (T l)∧y=.str (T m)∧l.length + m.length≤1000000∧Q (.str (T (l++m))) H) kW:=fun F H x y a b d Q s qa qb e k=>by
 obtain ⟨l,m,rfl,rfl,e1⟩:=S2_inv (f:=fun l m=>if l.length + m.length≤1000000 then some (.str (l++m)) else none) e
 obtain ⟨rfl,ok⟩:=qa.strE
 obtain ⟨rfl,ok2⟩:=qb.strE
 split at e1
 ·rename_i h
  obtain rfl:=Option.some.inj e1
  refine ⟨_,_,rfl,rfl,h,k _ _ _ (Gr.refl s) (.str _ ?_)⟩
  rw [← T_app]
  exact TxtOk.app ok ok2 (by rw [jq,jq]; exact h)
 ·cases e1
theorem o_ltI:Op2 K cl (rI0 fun i j=>.bl (decide (i < j))) ltI:=o_I0 fun _ _=>.bl _
theorem o_leI:Op2 K cl (rI0 fun i j=>.bl (decide (i≤j))) leI:=o_I0 fun _ _=>.bl _
theorem o_gtI:Op2 K cl (rI0 fun i j=>.bl (decide (j < i))) gtI:=o_I0 fun _ _=>.bl _
theorem o_ltS:Op2 K cl (fun x y H Q=>∃i j,x=.str i∧y=.str j∧Q (.bl (decide (i.cps.toList < j.cps.toList))) H) ltS:=fun F H x y a b d Q s qa qb e k=>by
 obtain ⟨l,m,rfl,rfl,e1⟩:=S2_inv (f:=fun l m=>some (.bl (decide (l < m)))) e
 obtain ⟨rfl,ok⟩:=qa.strE
 obtain ⟨rfl,ok2⟩:=qb.strE
 obtain rfl:=Option.some.inj e1
 refine ⟨_,_,rfl,rfl,?_⟩
 rw [za8,za8]
 exact k _ _ _ (Gr.refl s) (.bl _)
theorem o_eq:Op2 K cl (rEqD K) (eqD false):=fun F H x y a b d Q s qa qb e k=>by
 unfold eqD at e
 split at e
 ·rename_i h
  obtain rfl:=Option.some.inj e
  exact ⟨_,_,(qa.is h.1).mono s,(qb.is h.2.1).mono s,h.2.2,k _ _ _ (Gr.refl s) (.bl _)⟩
 ·cases e
theorem zcj:Op2 K cl (rNeD K) (eqD true):=fun F H x y a b d Q s qa qb e k=>by
 unfold eqD at e
 split at e
 ·rename_i h
  obtain rfl:=Option.some.inj e
  exact ⟨_,_,(qa.is h.1).mono s,(qb.is h.2.1).mono s,h.2.2,k _ _ _ (Gr.refl s) (.bl _)⟩
 ·cases e
theorem inQ_run {neg:Bool}{x:V}{a d:D}{p:Addr}{vs:List V}{ds:List D}{Q:VK}(s:Same F H)(qa:Dt K cl F x a)(sq:SqL K H p vs∨SqT K H p vs)(dq:Dts K cl F vs ds)(e:inQ neg a ds=some d)(k:∀v H' F',Gr F H F' H'→Dt K cl F' v d→Q v H'):rIn K neg x (.ref p) H Q:=by
 unfold inQ at e
 split at e
 ·rename_i h
  obtain rfl:=Option.some.inj e
  obtain ⟨e1,e2⟩:=qa.flat h.1
  obtain ⟨e3,e4⟩:=dq.flat h.2
  refine ⟨p,vs,rfl,sq,e2,e4,?_⟩
  rw [e1,e3]
  exact k _ _ _ (Gr.refl s) (.bl _)
 ·cases e
theorem o_in {neg:Bool}:Op2 K cl (rIn K neg) (inD neg):=fun F H x y a b d Q s qa qb e k=>by
 cases qb with
 | lst sq dq=>exact inQ_run s qa (.inl (s.seq sq)) dq e k
 | tup sq dq=>exact inQ_run s qa (.inr (s.seqT sq)) dq e k
 | _=>cases e
theorem inC_inv {neg:Bool}{a b d:D}(e:inC neg a b=some d):∃c l,a=.str [c]∧b=.str l∧d=.bl (if neg then !decide (c∈l) else decide (c∈l)):=by
 cases a with
 | str l =>
  match l,e with
  | [c],e =>
   cases b with
   | str m=>exact ⟨c,m,rfl,rfl,(Option.some.inj e).symm⟩
   | _=>cases e
 | _=>cases e
theorem o_inC:Op2 K cl rInC (inC false):=fun F H x y a b d Q s qa qb e k=>by
 obtain ⟨c,l,rfl,rfl,rfl⟩:=inC_inv e
 obtain ⟨rfl,_⟩:=qa.strE
 obtain ⟨rfl,_⟩:=qb.strE
 exact ⟨c,l,rfl,rfl,k _ _ _ (Gr.refl s) (.bl _)⟩
theorem Dts.at {vs:List V}{ds:List D}{i:Int}{d:D}(q:Dts K cl F vs ds)(e:atI ds i=some d):∃v,atI vs i=some v∧Dt K cl F v d:=by
 unfold atI at e ⊢
 rw [q.length]
 cases h:ixN ds.length i with
 | none=>rw [h] at e; cases e
 | some j =>
  rw [h] at e
  exact q.get' e
theorem zdM {l m:List Nat}(ok:TxtOk (T l))(h:∀c∈m,c∈l)(hl:m.length≤1000000):TxtOk (T m):=by
 refine vV (fun c hc=>?_) hl
 have a:(T l).cps.all (· < 0x110000)=true:=ok.1
 simp only [T,List.all_toArray,List.all_eq_true,decide_eq_true_eq] at a
 exact a c (h c hc)
theorem txt1 {l:List Nat}{c:Nat}(ok:TxtOk (T l))(h:c∈l):TxtOk (T [c]):=zdM ok (fun d hd=>by rw [List.mem_singleton.mp hd]; exact h) (Nat.le_add_left 1 999999)
theorem ixD_int {a b d:D}(e:ixD a b=some d):∃i,b=.int i:=by
 cases b with
 | int i=>exact ⟨i,rfl⟩
 | _=>cases a <;> cases e
theorem o_ix:Op2 K cl (rIx K) ixD:=fun F H x y a b d Q s qa qb e k=>by
 obtain ⟨i,rfl⟩:=ixD_int e
 obtain rfl:=qb.intE
 ·cases qa with
  | lst sq dq =>
   obtain ⟨v,h1,h2⟩:=dq.at e
   exact .inl ⟨_,_,_,_,rfl,rfl,s.seq sq,h1,k _ _ _ (Gr.refl s) h2⟩
  | tup sq dq =>
   obtain ⟨v,h1,h2⟩:=dq.at e
   exact .inr (.inl ⟨_,_,_,_,rfl,rfl,s.seqT sq,h1,k _ _ _ (Gr.refl s) h2⟩)
  | str l ok =>
   have e':(atI l i).map (fun c=>D.str [c])=some d:=e
   cases h:atI l i with
   | none=>rw [h] at e'; cases e'
   | some c =>
    rw [h] at e'
    obtain rfl:=Option.some.inj e'
    refine .inr (.inr ⟨T l,i,c,rfl,rfl,sz6 ok.2,by rw [za8]; exact h,k _ _ _ (Gr.refl s) (.str [c] (txt1 ok ?_))⟩)
    unfold atI at h
    cases h2:ixN l.length i with
    | none=>rw [h2] at h; cases h
    | some j=>rw [h2] at h; exact List.mem_of_getElem? h
  | _=>cases e
end
end L2
namespace L2
open PySem PySem.Spec PyProof.Rows
noncomputable def tDS (K:PySem.W.Frag)(cl:Nat→Addr)(E:XK)(g:Rho→Out):TS:=fun Dn σ H=>∃H0 F0 ρ F,Rl K cl H0 F0 ρ σ H F∧OutS K cl E H0 F0 F (g ρ) Dn
noncomputable def XS (X:Cx)(cl:Nat→Addr)(E:XK)(st:Stmt)(g:Rho→Out):Prop:=PS X st (tDS X.K cl E g)
noncomputable def XSs (X:Cx)(cl:Nat→Addr)(E:XK)(st:List Stmt)(g:Rho→Out):Prop:=PSs X st (tDS X.K cl E g)
noncomputable def sNx:Rho→Out:=fun ρ=>.nx ρ
noncomputable def zY (g h:Rho→Out):Rho→Out:=fun ρ=>match g ρ with | .nx ρ'=>h ρ' | o=>o
noncomputable def yU (f:Rho→Rs D):Rho→Out:=fun ρ=>match f ρ with | .ok d=>.rt d | .ex n=>.ex n | .no=>.no
noncomputable def vH (f:Rho→Rs D):Rho→Out:=fun ρ=>match f ρ with | .ok _=>.nx ρ | .ex n=>.ex n | .no=>.no
noncomputable def yX (i:Nat)(f:Rho→Rs D):Rho→Out:=fun ρ=>match f ρ with | .ok d=>.nx (ρ.set i (.fz d)) | .ex n=>.ex n | .no=>.no
noncomputable def sIf (ft:Rho→Rs Bool)(g h:Rho→Out):Rho→Out:=fun ρ=>match ft ρ with | .ok true=>g ρ | .ok false=>h ρ | .ex n=>.ex n | .no=>.no
noncomputable def qQ (i j:Nat)(f:Rho→Rs D):Rho→Out:=fun ρ=>match f ρ with | .ok (.tup [a,b])=>.nx ((ρ.set i (.fz a)).set j (.fz b)) | .ok _=>.no | .ex n=>.ex n | .no=>.no
noncomputable def za7 (i:Nat)(g:Rho→Out):Rho→Out:=fun ρ=>match ρ[i]? with | some (.ow ds)=>g (ρ.set i (.fz (.lst ds))) | _=>.no
noncomputable def kE (g:Rho→Out):Rho→Out:=fun ρ=>match g ρ with | .ex _=>.no | o=>o
noncomputable def forD (i:Nat)(g:Rho→Out):List D→Rho→Out
 | [],ρ=>.nx ρ
 | d::ds,ρ=>match g (ρ.set i (.fz d)) with | .nx ρ'=>forD i g ds ρ' | .ct ρ'=>forD i g ds ρ' | .bk ρ'=>.nx ρ' | o=>o
noncomputable def qJ (i:Nat)(fi:Rho→Rs (List D))(g:Rho→Out):Rho→Out:=fun ρ=>match fi ρ with | .ok ds=>forD i g ds ρ | .ex n=>.ex n | .no=>.no
noncomputable def whD (ft:Rho→Rs Bool)(g:Rho→Out):Nat→Rho→Out
 | 0,_=>.no
 | n + 1,ρ=>match ft ρ with
  | .ok true=>(match g ρ with | .nx ρ'=>whD ft g n ρ' | .ct ρ'=>whD ft g n ρ' | .bk ρ'=>.nx ρ' | o=>o)
  | .ok false=>.nx ρ
  | .ex n=>.ex n
  | .no=>.no
noncomputable def sWh (n:Nat)(ft:Rho→Rs Bool)(g:Rho→Out):Rho→Out:=whD ft g n
noncomputable def owL (ρ:Rho)(i:Nat):Option (List D):=match ρ[i]? with | some (.ow ds)=>some ds | _=>none
theorem zca {ρ:Rho}{i:Nat}{ds:List D}(h:owL ρ i=some ds):ρ[i]? = some (.ow ds):=by
 unfold owL at h
 split at h
 ·rename_i e; rw [e,Option.some.inj h]
 ·cases h
noncomputable def zao (i:Nat)(f:Rho→Rs D):Rho→Out:=fun ρ=>match owL ρ i with
 | some ds=>(match f ρ with | .ok d=>if ds.length < 1000000 then .nx (ρ.set i (.ow (ds++[d]))) else .no | .ex n=>.ex n | .no=>.no)
 | none=>.no
section
variable {K:PySem.W.Frag}{cl:Nat→Addr}{E:XK}{H0 F0 F F1:Hp}
theorem OutS.grow {o:Out}{Dn:Ends}(h:OutS K cl E H0 F0 F o Dn)(s:Same F F1):OutS K cl E H0 F0 F1 o Dn:=by
 cases o with
 | nx ρ=>exact fun σ H F' R q=>h σ H F' R (s.trans q)
 | bk ρ=>exact fun σ H F' R q=>h σ H F' R (s.trans q)
 | ct ρ=>exact fun σ H F' R q=>h σ H F' R (s.trans q)
 | rt d=>exact h
 | ex n=>exact h
 | no=>exact h
end
section
variable {X:Cx}{cl:Nat→Addr}{E:XK}{st:Stmt}{rest:List Stmt}{g h:Rho→Out}{f:Rho→Rs D}{e:Expr}{pos:Pos}
noncomputable def XS' (X:Cx)(cl:Nat→Addr)(E:XK)(st:Stmt)(g:Rho→Out):Prop:=∃t:TS,PS X st t∧∀(H0 F0:Hp) (ρ:Rho) (σ:St) (H F:Hp) (Dn:Ends),Rl X.K cl H0 F0 ρ σ H F→OutS X.K cl E H0 F0 F (g ρ) Dn→t Dn σ H
noncomputable def XSs' (X:Cx)(cl:Nat→Addr)(E:XK)(st:List Stmt)(g:Rho→Out):Prop:=∃t:TS,PSs X st t∧∀(H0 F0:Hp) (ρ:Rho) (σ:St) (H F:Hp) (Dn:Ends),Rl X.K cl H0 F0 ρ σ H F→OutS X.K cl E H0 F0 F (g ρ) Dn→t Dn σ H
theorem XS.ex (h:XS X cl E st g):XS' X cl E st g:=⟨_,h,fun H0 F0 ρ σ H F Dn R o=>⟨H0,F0,ρ,F,R,o⟩⟩
theorem XSs.ex (h:XSs X cl E rest g):XSs' X cl E rest g:=⟨_,h,fun H0 F0 ρ σ H F Dn R o=>⟨H0,F0,ρ,F,R,o⟩⟩
theorem XS'.out (h:XS' X cl E st g):XS X cl E st g:=let ⟨_,pt,rt⟩:=h; fun pins s σ H Dn I ⟨H0,F0,ρ,F,R,o⟩=>pt pins s σ H Dn I (rt H0 F0 ρ σ H F Dn R o)
theorem XSs'.out (h:XSs' X cl E rest g):XSs X cl E rest g:=let ⟨_,pt,rt⟩:=h; fun pins s σ H Dn I ⟨H0,F0,ρ,F,R,o⟩=>pt pins s σ H Dn I (rt H0 F0 ρ σ H F Dn R o)
theorem yI:XSs X cl E [] sNx:=XSs'.out ⟨_,pss_nil,fun H0 F0 ρ σ H F Dn R o=>o σ H F R (Same.refl _)⟩
theorem zy (h:XS X cl E st g):XSs X cl E [st] g:=let ⟨t,pt,rt⟩:=h.ex; XSs'.out ⟨t,pss_one pt,rt⟩
theorem zq (h1:XS X cl E st g)(h2:XSs X cl E rest h):XSs X cl E (st::rest) (zY g h):=by
 obtain ⟨t,pt,rt⟩:=h1.ex
 obtain ⟨u,pu,ru⟩:=h2.ex
 refine XSs'.out ⟨_,pss_cons pt pu,fun H0 F0 ρ σ H F Dn R o=>rt H0 F0 ρ σ H F _ R ?_⟩
 unfold zY at o
 cases e:g ρ with
 | nx ρ'=>rw [e] at o; exact fun σ' H' F' R' s=>ru H0 F0 ρ' σ' H' F' Dn R' (o.grow s)
 | bk ρ'=>rw [e] at o; exact o
 | ct ρ'=>rw [e] at o; exact o
 | rt d=>rw [e] at o; exact o
 | ex n=>rw [e] at o; exact o
 | no=>rw [e] at o; exact o
theorem zQ (h:XE X cl E e f):XS X cl E (.Return (some e) pos) (yU f):=by
 obtain ⟨t,pt,rt⟩:=h.ex
 refine XS'.out ⟨_,ps_ret pt,fun H0 F0 ρ σ H F Dn R o=>rt H0 F0 ρ σ H F _ R ?_⟩
 unfold yU at o
 cases e:f ρ with
 | ok d=>rw [e] at o; exact fun v H' F' gg q=>o v H' F' (R.gr.trans gg) q
 | ex n=>rw [e] at o; exact o
 | no=>rw [e] at o; exact o
theorem jK (h:XE X cl E e f)(hs:swapsWith e none pos.line X.env=pure false:=by rfl):XS X cl E (.Expr e pos) (vH f):=by
 obtain ⟨t,pt,rt⟩:=h.ex
 refine XS'.out ⟨_,ps_expr pt hs,fun H0 F0 ρ σ H F Dn R o=>rt H0 F0 ρ σ H F _ R ?_⟩
 unfold vH at o
 cases e:f ρ with
 | ok d=>rw [e] at o; exact fun v H' F' gg q=>o σ H' F' (R.grow gg) gg.ff
 | ex n=>rw [e] at o; exact o
 | no=>rw [e] at o; exact o
theorem yh {i:Nat}{x:Str}{pos':Pos}(hN:X.N.Nodup)(hi:X.N[i]? = some x)(hx:Loc X.env.scope x)(he:XE X cl E e f)(hs:swapsWith e (some (.Name x pos')) pos.line X.env=pure false:=by rfl)(hf:X.fn x=true∨X.env.scope.names.lookup x=some .local:=by first | exact .inl rfl | exact .inr rfl | assumption) :
  XS X cl E (.Assign [.Name x pos'] e pos) (yX i f):=by
 obtain ⟨t,pt,rt⟩:=he.ex
 refine XS'.out ⟨_,ps_set hN hi hx pt hs hf,fun H0 F0 ρ σ H F Dn R o=>rt H0 F0 ρ σ H F _ R ?_⟩
 unfold yX at o
 cases e:f ρ with
 | ok d=>rw [e] at o; exact fun v H' F' gg q=>o _ H' F' ((R.grow gg).set q) gg.ff
 | ex n=>rw [e] at o; exact o
 | no=>rw [e] at o; exact o
theorem ud {c:Expr}{a b:List Stmt}{ft:Rho→Rs Bool}(hc:XT X cl E c ft)(ha:XSs X cl E a g)(hb:XSs X cl E b h):XS X cl E (.If c a b pos) (sIf ft g h):=by
 obtain ⟨t,pt,rt⟩:=hc.ex
 obtain ⟨u,pu,ru⟩:=ha.ex
 obtain ⟨w,pw,rw'⟩:=hb.ex
 refine XS'.out ⟨_,ps_if pt pu pw,fun H0 F0 ρ σ H F Dn R o=>rt H0 F0 ρ σ H F _ R ?_⟩
 unfold sIf at o
 cases e:ft ρ with
 | ok b =>
  rw [e] at o
  intro H' F' gg
  cases b with
  | true=>exact ru H0 F0 ρ σ H' F' Dn (R.grow gg) (o.grow gg.ff)
  | false=>exact rw' H0 F0 ρ σ H' F' Dn (R.grow gg) (o.grow gg.ff)
 | ex n=>rw [e] at o; exact o
 | no=>rw [e] at o; exact o
theorem qM (h:XS X.nox cl E0 st g):XS X cl E st (kE g):=by
 obtain ⟨t,pt,rt⟩:=h.ex
 refine XS'.out ⟨_,pt.nox,fun H0 F0 ρ σ H F Dn R o=>rt H0 F0 ρ σ H F _ R ?_⟩
 unfold kE at o
 cases e:g ρ with
 | nx ρ'=>rw [e] at o; exact o
 | bk ρ'=>rw [e] at o; exact o
 | ct ρ'=>rw [e] at o; exact o
 | rt d=>rw [e] at o; exact o
 | ex n=>rw [e] at o; exact o.elim
 | no=>rw [e] at o; exact o
theorem zcG {i:Nat}(h:XS X cl E st g):XS X cl E st (za7 i g):=by
 obtain ⟨t,pt,rt⟩:=h.ex
 refine XS'.out ⟨_,pt,fun H0 F0 ρ σ H F Dn R o=>?_⟩
 unfold za7 at o
 split at o
 ·rename_i ds e
  obtain ⟨F',s,R'⟩:=R.ice e
  exact rt H0 F0 _ σ H F' Dn R' (o.grow s)
 ·exact o.elim
theorem zbX {c:Expr}{body:List Stmt}{ft:Rho→Rs Bool}(n:Nat)(hp:PassesOwn (model X.prog X.w) X.A X.env X.xe)(hc:XT X cl E c ft)(hb:XSs X cl E body g):XS X cl E (.While c body [] pos) (sWh n ft g):=by
 obtain ⟨t,pt,rt⟩:=hc.ex
 obtain ⟨u,pu,ru⟩:=hb.ex
 refine XS'.out ⟨_,ps_while hp pt pu,fun H0 F0 ρ σ H F Dn R o=>?_⟩
 refine ⟨fun m σ H=>∃ρ F',Rl X.K cl H0 F0 ρ σ H F'∧OutS X.K cl E H0 F0 F' (whD ft g m ρ) Dn,⟨n,ρ,F,R,o⟩,?_⟩
 rintro m σ1 H1 ⟨ρ1,F1,R1,o1⟩
 cases m with
 | zero=>exact o1.elim
 | succ m =>
  refine rt H0 F0 ρ1 σ1 H1 F1 _ R1 ?_
  unfold whD at o1
  cases e:ft ρ1 with
  | ok b =>
   rw [e] at o1
   intro H2 F2 gg
   have R2:=R1.grow gg
   cases b with
   | false=>exact o1 σ1 H2 F2 R2 gg.ff
   | true =>
    refine ⟨fun σ H=>∃ρ F',Rl X.K cl H0 F0 ρ σ H F'∧OutS X.K cl E H0 F0 F' (whD ft g m ρ) Dn,fun σ' H' p=>⟨m,Nat.lt_succ_self _,p⟩,ru H0 F0 ρ1 σ1 H2 F2 _ R2 ?_⟩
    have o2:=o1.grow gg.ff
    cases e2:g ρ1 with
    | nx ρ'=>simp only [e2] at o2; exact fun σ' H' F' R' s=>⟨ρ',F',R',o2.grow s⟩
    | ct ρ'=>simp only [e2] at o2; exact fun σ' H' F' R' s=>⟨ρ',F',R',o2.grow s⟩
    | bk ρ'=>simp only [e2] at o2; exact o2
    | rt d=>simp only [e2] at o2; exact o2
    | ex n=>simp only [e2] at o2; exact o2
    | no=>simp only [e2] at o2; exact o2
  | ex n=>rw [e] at o1; exact o1
  | no=>rw [e] at o1; exact o1
noncomputable def OutI (K:PySem.W.Frag)(cl:Nat→Addr)(E:XK)(H0 F H:Hp)(r:Rs (List D))(Q:It→Hp→Prop):Prop :=
 match r with
 | .ok ds=>∀J G vs H' F',Gr F H F' H'→Wlk J G vs→(∀H'',Same F' H''→G H'')→Dts K cl F' vs ds→Q J H'
 | .ex n=>∀H',Same H0 H'→E (.ref (cl n)) none H'
 | .no=>False
noncomputable def tDI (K:PySem.W.Frag)(cl:Nat→Addr)(E:XK)(f:Rho→Rs (List D)):TI:=fun σ H Q=>∃H0 F0 ρ F,Rl K cl H0 F0 ρ σ H F∧OutI K cl E H0 F H (f ρ) Q
noncomputable def XI (X:Cx)(cl:Nat→Addr)(E:XK)(tg e:Expr)(f:Rho→Rs (List D)):Prop:=PI X tg e (tDI X.K cl E f)
theorem XI.mk {tg:Expr}{fi:Rho→Rs (List D)}{t:TI}(pt:PI X tg e t)(rt:∀(H0 F0:Hp) (ρ:Rho) (σ:St) (H F:Hp) (Q:It→Hp→Prop),Rl X.K cl H0 F0 ρ σ H F→OutI X.K cl E H0 F H (fi ρ) Q→t σ H Q):XI X cl E tg e fi :=
 fun pins s σ H Q I ⟨H0,F0,ρ,F,R,o⟩=>pt pins s σ H Q I (rt H0 F0 ρ σ H F Q R o)
noncomputable def lsD:D→Option (List D)
 | .lst ds=>some ds
 | _=>none
noncomputable def tpD:D→Option (List D)
 | .tup ds=>some ds
 | _=>none
noncomputable def sgD:D→Option (List D)
 | .str l=>some (l.map fun c=>.str [c])
 | _=>none
noncomputable def fI (g:D→Option (List D))(f:Rho→Rs D):Rho→Rs (List D):=fun ρ=>(f ρ).bind fun d=>match g d with | some ds=>.ok ds | none=>.no
theorem OutI.fst {K:PySem.W.Frag}{H0 F H:Hp}{r:Rs D}{k:D→Rs (List D)}{Q:It→Hp→Prop}{P:VK}(h:OutI K cl E H0 F H (r.bind k) Q)(z:∀d v H1 F1,Gr F H F1 H1→Dt K cl F1 v d→OutI K cl E H0 F1 H1 (k d) Q→P v H1):OutE K cl E H0 F H r P:=by
 cases r with
 | ok d =>
  refine fun v H' F' g' q=>z d v H' F' g' q ?_
  have h':OutI K cl E H0 F H (k d) Q:=h
  cases e:k d with
  | ok ds=>rw [e] at h'; exact fun J G vs H2 F2 g2=>h' J G vs H2 F2 (g'.trans g2)
  | ex n=>rw [e] at h'; exact h'
  | no=>rw [e] at h'; exact h'
 | ex n=>exact h
 | no=>exact h
theorem v8 {tg:Expr}(h:XE X cl E e f):XI X cl E tg e (fI lsD f):=by
 obtain ⟨t,pt,rt⟩:=h.ex
 refine XI.mk (pi_list pt) fun H0 F0 ρ σ H F Q R o=>rt H0 F0 ρ σ H F _ R (OutI.fst o fun d v H1 F1 g q o1=>?_)
 cases q with
 | lst sq dq =>
  have fh:=(R.grow g).fh
  exact ⟨_,rfl,⟨_,fh.seq sq⟩,o1 _ _ _ H1 F1 (Gr.refl fh) wlk_list (fun H'' s=>s.seq sq) dq⟩
 | _=>exact o1.elim
theorem zaD {tg:Expr}(h:XE X cl E e f):XI X cl E tg e (fI tpD f):=by
 obtain ⟨t,pt,rt⟩:=h.ex
 refine XI.mk (pi_tup pt) fun H0 F0 ρ σ H F Q R o=>rt H0 F0 ρ σ H F _ R (OutI.fst o fun d v H1 F1 g q o1=>?_)
 cases q with
 | tup sq dq =>
  have fh:=(R.grow g).fh
  exact ⟨_,rfl,⟨_,fh.seqT sq⟩,o1 _ _ _ H1 F1 (Gr.refl fh) wlk_tup (fun H'' s=>s.seqT sq) dq⟩
 | _=>exact o1.elim
theorem zck {K:PySem.W.Frag}{F:Hp}:∀{l:List Nat},(∀c∈l,TxtOk (T [c]))→Dts K cl F (l.map fun c=>V.str (T [c])) (l.map fun c=>D.str [c])
 | [],_=>.nil
 | c::l,h=>.cons (.str [c] (h c (.head _))) (zck fun d hd=>h d (.tail _ hd))
theorem xi_str {tg:Expr}(h:XE X cl E e f):XI X cl E tg e (fI sgD f):=by
 obtain ⟨t,pt,rt⟩:=h.ex
 refine XI.mk (pi_str pt) fun H0 F0 ρ σ H F Q R o=>rt H0 F0 ρ σ H F _ R (OutI.fst o fun d v H1 F1 g q o1=>?_)
 cases q with
 | str l ok =>
  have fh:=(R.grow g).fh
  have w:=wlk_str (x:=T l) (G:=fun _=>True)
  rw [za8] at w
  exact ⟨_,rfl,o1 _ _ _ H1 F1 (Gr.refl fh) w (fun _ _=>trivial) (zck fun c hc=>txt1 ok hc)⟩
 | _=>exact o1.elim
noncomputable def zcY:List D→Option (List D)
 | [.int j]=>if -(2 ^ 62)≤j∧j < 2 ^ 62 then some ((List.range j.toNat).map fun (k:Nat)=>.int (k:Int)) else none
 | _=>none
noncomputable def rng3:List D→Option (List D)
 | [.int i,.int j,.int c]=>if 0≤i∧i≤j∧j < 2 ^ 20∧0 < c∧c < 2 ^ 20 then some ((List.range ((j - i + c - 1) / c).toNat).map fun (k:Nat)=>.int (i + (k:Int) * c)) else none
 | _=>none
noncomputable def fR (g:List D→Option (List D))(fs:Rho→Rs (List D)):Rho→Rs (List D):=fun ρ=>(fs ρ).bind fun ds=>match g ds with | some es=>.ok es | none=>.no
theorem OutI.fstA {K:PySem.W.Frag}{H0 F H:Hp}{r:Rs (List D)}{k:List D→Rs (List D)}{Q:It→Hp→Prop}{P:List V→Hp→Prop}(h:OutI K cl E H0 F H (r.bind k) Q)(z:∀d v H1 F1,Gr F H F1 H1→Dts K cl F1 v d→OutI K cl E H0 F1 H1 (k d) Q→P v H1):OutA K cl E H0 F H r P:=by
 cases r with
 | ok d =>
  refine fun v H' F' g' q=>z d v H' F' g' q ?_
  have h':OutI K cl E H0 F H (k d) Q:=h
  cases e:k d with
  | ok ds=>rw [e] at h'; exact fun J G vs H2 F2 g2=>h' J G vs H2 F2 (g'.trans g2)
  | ex n=>rw [e] at h'; exact h'
  | no=>rw [e] at h'; exact h'
 | ex n=>exact h
 | no=>exact h
theorem za4 {K:PySem.W.Frag}{F:Hp}{α:Type}{v:α→V}{d:α→D}:∀{l:List α},(∀x∈l,Dt K cl F (v x) (d x))→Dts K cl F (l.map v) (l.map d)
 | [],_=>.nil
 | c::l,h=>.cons (h c (.head _)) (za4 fun d hd=>h d (.tail _ hd))
theorem Dts.one {K:PySem.W.Frag}{F:Hp}{vs:List V}{d:D}(q:Dts K cl F vs [d]):∃v,vs=[v]∧Dt K cl F v d:=by
 cases q with
 | cons q r=>cases r; exact ⟨_,rfl,q⟩
theorem Dts.two {K:PySem.W.Frag}{F:Hp}{vs:List V}{d e:D}(q:Dts K cl F vs [d,e]):∃v w,vs=[v,w]∧Dt K cl F v d∧Dt K cl F w e:=by
 cases q with
 | cons q r=>obtain ⟨w,rfl,q2⟩:=r.one; exact ⟨_,_,rfl,q,q2⟩
theorem Dts.three {K:PySem.W.Frag}{F:Hp}{vs:List V}{d e c:D}(q:Dts K cl F vs [d,e,c]):∃v w u,vs=[v,w,u]∧Dt K cl F v d∧Dt K cl F w e∧Dt K cl F u c:=by
 cases q with
 | cons q r=>obtain ⟨w,u,rfl,q2,q3⟩:=r.two; exact ⟨_,_,_,rfl,q,q2,q3⟩
theorem vz {tg a:Expr}{p:Pos}{fs:Rho→Rs (List D)}(hg:Gl X "range")(hm:X.mg "range" = none)(ha:XA X cl E [a] fs)(hs:starEach [a] X.env=[(false,eval a X.env)]):XI X cl E tg (.Call (.Name "range" p) [a] [] pos) (fR zcY fs):=by
 obtain ⟨t,pt,rt⟩:=ha.ex
 refine XI.mk (pi_range1 hg hm pt hs) fun H0 F0 ρ σ H F Q R o=>rt H0 F0 ρ σ H F _ R (OutI.fstA o fun d v H1 F1 g q o1=>?_)
 match d,q,o1 with
 | [.int j],q,o1 =>
  obtain ⟨v',rfl,q1⟩:=q.one
  cases q1
  dsimp only [zcY] at o1
  by_cases h:-(2 ^ 62)≤j∧j < 2 ^ 62
  ·rw [if_pos h] at o1
   refine ⟨j,rfl,h.1,h.2,o1 _ (fun _=>True) _ H1 F1 (Gr.refl (R.grow g).fh) wlk_range (fun _ _=>trivial) (za4 fun k _=>?_)⟩
   rw [Int.zero_add]; exact .int _
  ·rw [if_neg h] at o1; exact o1.elim
theorem xi_range3 {tg a b c:Expr}{p:Pos}{fs:Rho→Rs (List D)}(hg:Gl X "range")(hm:X.mg "range" = none)(ha:XA X cl E [a,b,c] fs)(hs:starEach [a,b,c] X.env=[(false,eval a X.env),(false,eval b X.env),(false,eval c X.env)])(hs2:starEach [b,c] X.env=[(false,eval b X.env),(false,eval c X.env)]):XI X cl E tg (.Call (.Name "range" p) [a,b,c] [] pos) (fR rng3 fs):=by
 obtain ⟨t,pt,rt⟩:=ha.ex
 refine XI.mk (pi_range3 hg hm pt hs hs2) fun H0 F0 ρ σ H F Q R o=>rt H0 F0 ρ σ H F _ R (OutI.fstA o fun d v H1 F1 g q o1=>?_)
 match d,q,o1 with
 | [.int i,.int j,.int c],q,o1 =>
  obtain ⟨v,w,u,rfl,q1,q2,q3⟩:=q.three
  cases q1; cases q2; cases q3
  dsimp only [rng3] at o1
  by_cases h:0≤i∧i≤j∧j < 2 ^ 20∧0 < c∧c < 2 ^ 20
  ·rw [if_pos h] at o1
   exact ⟨i,j,c,rfl,h.1,h.2.1,h.2.2.1,h.2.2.2.1,h.2.2.2.2,o1 _ (fun _=>True) _ H1 F1 (Gr.refl (R.grow g).fh) wlk_range3 (fun _ _=>trivial) (za4 fun k _=>.int _)⟩
  ·rw [if_neg h] at o1; exact o1.elim
theorem jD {tg iter:Expr}{body:List Stmt}{fi:Rho→Rs (List D)}{i:Nat}(hp:PassesOwn (model X.prog X.w) X.A X.env X.xe)(hc:X.calm=true)(hi:XI X cl E tg iter fi)(hg:PG X tg (uP i))(hb:XSs X cl E body g)(hs:∀x,foldedSetIterable iter X.env x=pure x:=by intro _; rfl):XS X cl E (.For tg iter body [] pos) (qJ i fi g):=by
 obtain ⟨u,pu,ru⟩:=hb.ex
 refine XS'.out ⟨_,ps_for hp hc hi hg pu hs,fun H0 F0 ρ σ H F Dn R o=>⟨H0,F0,ρ,F,R,?_⟩⟩
 unfold qJ at o
 cases e:fi ρ with
 | ok ds =>
  rw [e] at o
  intro J G vs H1 F1 gg W hG dq
  refine for_wlk W (fun k σ H=>∃ρ' F',Rl X.K cl H0 F0 ρ' σ H F'∧Same F1 F'∧OutS X.K cl E H0 F0 F' (forD i g (ds.drop k) ρ') Dn) ⟨ρ,F1,R.grow gg,Same.refl _,o.grow gg.ff⟩ (fun k σ' H' _ ⟨ρ',F',R',s',_⟩=>hG H' (s'.trans R'.fh)) ?_ ?_
  ·rintro k x σ' H' hx ⟨ρ',F',R',s',o'⟩
   obtain ⟨d,hd,qd⟩:=dq.get hx
   have hdr:ds.drop k=d::ds.drop (k + 1):=by
    obtain ⟨hk,e2⟩:=List.getElem?_eq_some_iff.mp hd
    rw [List.drop_eq_getElem_cons hk,e2]
   rw [hdr] at o'
   unfold forD at o'
   refine ru H0 F0 _ _ H' F' _ (R'.set (qd.mono s')) ?_
   cases e2:g (ρ'.set i (.fz d)) with
   | nx ρ2=>simp only [e2] at o'; exact fun σ2 H2 F2 R2 s2=>⟨ρ2,F2,R2,s'.trans s2,o'.grow s2⟩
   | ct ρ2=>simp only [e2] at o'; exact fun σ2 H2 F2 R2 s2=>⟨ρ2,F2,R2,s'.trans s2,o'.grow s2⟩
   | bk ρ2=>simp only [e2] at o'; exact o'
   | rt d=>simp only [e2] at o'; exact o'
   | ex n=>simp only [e2] at o'; exact o'
   | no=>simp only [e2] at o'; exact o'
  ·rintro σ' H' ⟨ρ',F',R',s',o'⟩
   rw [List.drop_of_length_le (by rw [dq.length]; exact Nat.le_refl _)] at o'
   exact o' σ' H' F' R' (Same.refl _)
 | ex n=>rw [e] at o; exact o
 | no=>rw [e] at o; exact o
end
end L2
namespace L2
open PySem PySem.Spec PyProof.Rows
noncomputable def uZ (n:Nat)(caps:List Nat)(ρ:Rho):Rho:=List.replicate n .no++caps.map fun i=>match ρ[i]? with | some (.fz d)=>.fz d | _=>.no
noncomputable def xg:Rho→Rs Bool:=fun _=>.ok true
noncomputable def wX (ft:Rho→Rs Bool)(fe:Rho→Rs D)(ρ0:Rho):List D→Rs (List D)
 | []=>.ok []
 | d::ds=>match ft (ρ0.set 0 (.fz d)) with
  | .ok true=>(match fe (ρ0.set 0 (.fz d)) with | .ok e=>(wX ft fe ρ0 ds).bind fun es=>.ok (e::es) | _=>.no)
  | .ok false=>wX ft fe ρ0 ds
  | _=>.no
noncomputable def fCp (fi:Rho→Rs (List D))(ft:Rho→Rs Bool)(fe:Rho→Rs D)(caps:List Nat):Rho→Rs (List D):=fun ρ=>(fi ρ).bind fun ds=>if ds.length≤1000000 then wX ft fe (uZ 1 caps ρ) ds else .no
noncomputable def yP (fi:Rho→Rs (List D))(ft:Rho→Rs Bool)(fe:Rho→Rs D)(caps:List Nat):Rho→Rs D:=fun ρ=>(fCp fi ft fe caps ρ).bind fun es=>.ok (.lst es)
noncomputable def XTs (X:Cx)(cl:Nat→Addr)(E:XK)(ifs:List Expr)(f:Rho→Rs Bool):Prop:=PTs X ifs (tDB X.K cl E f)
section
variable {X:Cx}{cl:Nat→Addr}{E:XK}
theorem xW:XTs X cl E [] xg:=fun pins s σ H Q I ⟨H0,F0,ρ,F,R,o⟩=>wpAny_tests_nil ⟨H,I,o H F (Gr.refl R.fh)⟩
theorem zaE {c:Expr}{f:Rho→Rs Bool}(h:XT X cl E c f):XTs X cl E [c] f:=fun pins s σ H Q I hq=>wpAny_tests_one (h pins s σ H Q I hq)
theorem jR {ft:Rho→Rs Bool}{fe:Rho→Rs D}{ρ0:Rho}:∀{ds:List D}{n:Nat},wX ft fe ρ0 ds≠.ex n
 | [],n=>fun h=>by cases h
 | d :: ds,n=>fun h=>by
  unfold wX at h
  split at h
  ·split at h
   ·cases e:wX ft fe ρ0 ds with
    | ok es=>rw [e] at h; cases h
    | ex m=>exact jR e
    | no=>rw [e] at h; cases h
   ·cases h
  ·exact jR h
  ·cases h
theorem Rl.cap {K:PySem.W.Frag}{H0 F0 H F:Hp}{ρ:Rho}{σ:St}(R:Rl K cl H0 F0 ρ σ H F)(own:List Str)(caps:List Nat):Rl K cl H F (uZ own.length caps ρ) (zdp own caps σ) H F where
 gr:=Gr.refl R.fh
 len:=by simp [uZ,zdp]
 fz := fun i d e=>by
  unfold uZ at e
  unfold zdp
  rcases Nat.lt_or_ge i own.length with h | h
  ·rw [List.getElem?_append_left (by simpa using h),List.getElem?_replicate,if_pos h] at e
   cases e
  ·rw [List.getElem?_append_right (by simpa using h),List.length_replicate,List.getElem?_map] at e
   rw [List.getElem?_append_right (by simpa using h),List.length_map,List.getElem?_map]
   cases c:caps[i - own.length]? with
   | none=>rw [c] at e; cases e
   | some k =>
    rw [c] at e
    have e':=Option.some.inj e
    dsimp only at e'
    split at e'
    ·rename_i d' z
     injection e' with e'
     subst e'
     obtain ⟨v,h1,h2⟩:=R.fz k _ z
     exact ⟨v,by show some ((σ[k]?).getD none)=some (some v); rw [h1]; rfl,h2⟩
    ·cases e'
 ow := fun i d e=>by
  unfold uZ at e
  rcases Nat.lt_or_ge i own.length with h | h
  ·rw [List.getElem?_append_left (by simpa using h),List.getElem?_replicate,if_pos h] at e
   cases e
  ·rw [List.getElem?_append_right (by simpa using h),List.length_replicate,List.getElem?_map] at e
   cases c:caps[i - own.length]? with
   | none=>rw [c] at e; cases e
   | some k =>
    rw [c] at e
    have e':=Option.some.inj e
    dsimp only at e'
    split at e' <;> cases e'
 od := fun i d e=>by
  unfold uZ at e
  rcases Nat.lt_or_ge i own.length with h | h
  ·rw [List.getElem?_append_left (by simpa using h),List.getElem?_replicate,if_pos h] at e
   cases e
  ·rw [List.getElem?_append_right (by simpa using h),List.length_replicate,List.getElem?_map] at e
   cases c:caps[i - own.length]? with
   | none=>rw [c] at e; cases e
   | some k =>
    rw [c] at e
    have e':=Option.some.inj e
    dsimp only at e'
    split at e' <;> cases e'
 ap := fun i j s t a z1 z2 o1 o2 e1 e2=>by
  exfalso
  unfold uZ at z1
  rcases Nat.lt_or_ge i own.length with h | h
  ·rw [List.getElem?_append_left (by simpa using h),List.getElem?_replicate,if_pos h] at z1
   injection z1 with z1; subst z1; cases o1
  ·rw [List.getElem?_append_right (by simpa using h),List.length_replicate,List.getElem?_map] at z1
   cases c:caps[i - own.length]? with
   | none=>rw [c] at z1; cases z1
   | some k =>
    rw [c] at z1
    have e':=Option.some.inj z1
    dsimp only at e'
    split at e' <;> (subst e'; cases o1)
theorem turnsD {K:PySem.W.Frag}{H0 F0 H F:Hp}{ρ:Rho}{σ:St}{x:Str}{caps:List Nat}{ft:Rho→Rs Bool}{fe:Rho→Rs D}{ds es:List D}{J:It}{G:Hp→Prop}{vs:List V}{Fn:List V→Hp→Prop}(R:Rl K cl H0 F0 ρ σ H F)(W:Wlk J G vs)(hG:∀H'',Same F H''→G H'')(dq:Dts K cl F vs ds)(hl:ds.length≤1000000)
  (hc:wX ft fe (uZ 1 caps ρ) ds=.ok es) (k:∀ys H' F',Gr F H F' H'→Dts K cl F' ys es→Fn ys H'):zaG (uP 0) (tDB K cl E0 ft) (tDE K cl E0 fe) (zdp [x] caps σ) Fn J H:=by
 have hz:vs.length≤sizeLine:=sz6 (dq.length ▸ hl)
 refine turns_wlk W hz (fun i ys H'=>∃F' es1 es2,Gr F H F' H'∧Dts K cl F' ys es1∧ys.length≤i∧es=es1++es2∧wX ft fe (uZ 1 caps ρ) (ds.drop i)=.ok es2) ⟨F,[],es,Gr.refl R.fh,.nil,Nat.le_refl _,rfl,hc⟩ (fun i ys H' _ ⟨F',_,_,g,_,h1,_⟩=>⟨hG H' (g.ff.trans g.fh),h1⟩) ?_ ?_
 ·rintro i v ys H' hv ⟨F',es1,es2,g,q1,hly,rfl,hc'⟩
  obtain ⟨d,hd,qd⟩:=dq.get hv
  have hdr:ds.drop i=d::ds.drop (i + 1):=by
   obtain ⟨hk,e2⟩:=List.getElem?_eq_some_iff.mp hd
   rw [List.drop_eq_getElem_cons hk,e2]
  rw [hdr] at hc'
  unfold wX at hc'
  have R1:=(R.grow g).cap [x] caps
  have R2:Rl K cl H' F' ((uZ 1 caps ρ).set 0 (.fz d)) ((zdp [x] caps σ).set 0 (some v)) H' F':=R1.set (qd.mono g.ff)
  refine ⟨Kps.set rfl,H',F',_,F',R2,?_⟩
  cases e1:ft ((uZ 1 caps ρ).set 0 (.fz d)) with
  | ok b =>
   rw [e1] at hc'
   intro H2 F2 g2
   cases b with
   | true =>
    rw [if_pos rfl]
    cases e2:fe ((uZ 1 caps ρ).set 0 (.fz d)) with
    | ok e =>
     simp only [e2] at hc'
     refine ⟨H',F',_,F2,R2.grow g2,?_⟩
     rw [e2]
     intro y H3 F3 g3 qy
     cases e3:wX ft fe (uZ 1 caps ρ) (ds.drop (i + 1)) with
     | ok es3 =>
      rw [e3] at hc'
      injection hc' with hc'
      exact ⟨F3,es1++[e],es3,g.trans (g2.trans g3),(q1.mono (g2.ff.trans g3.ff)).append (.cons qy .nil),by simp; exact hly,by rw [← hc',List.append_assoc]; rfl,rfl⟩
     | ex n=>rw [e3] at hc'; cases hc'
     | no=>rw [e3] at hc'; cases hc'
    | ex n=>simp only [e2] at hc'; cases hc'
    | no=>simp only [e2] at hc'; cases hc'
   | false =>
    rw [if_neg Bool.false_ne_true]
    exact ⟨F2,es1,es2,g.trans g2,q1.mono g2.ff,Nat.le_succ_of_le hly,rfl,hc'⟩
  | ex n=>rw [e1] at hc'; cases hc'
  | no=>rw [e1] at hc'; cases hc'
 ·rintro ys H' ⟨F',es1,es2,g,q1,hly,rfl,hc'⟩
  rw [List.drop_of_length_le (by rw [dq.length]; exact Nat.le_refl _)] at hc'
  injection hc' with hc'
  rw [← hc',List.append_nil] at k
  exact k ys H' F' g q1
variable {scope:Scope}{x:Str}{caps:List Nat}{elt tg iter:Expr}{ifs:List Expr}{fi:Rho→Rs (List D)}{ft:Rho→Rs Bool}{fe:Rho→Rs D}{pos:Pos}
structure CompD (X:Cx)(cl:Nat→Addr)(scope:Scope)(x:Str)(caps:List Nat)(tg:Expr)(ifs:List Expr)(elt:Expr)(ft:Rho→Rs Bool)(fe:Rho→Rs D):Prop where
 tgt:∀pins C ex s H,PG (cxC X pins scope [x] caps C ex s H) tg (uP 0)
 tst:∀pins C ex s H,XTs (cxC X pins scope [x] caps C ex s H) cl E0 ifs ft
 elm:∀pins C ex s H,XE (cxC X pins scope [x] caps C ex s H) cl E0 elt fe
theorem CompD.ci (h:CompD X cl scope x caps tg ifs elt ft fe):CompIn X scope [x] caps tg ifs elt (uP 0) (tDB X.K cl E0 ft) (tDE X.K cl E0 fe):=⟨h.tgt,h.tst,h.elm⟩
theorem OutI.comp {K:PySem.W.Frag}{H0 F0 H F:Hp}{ρ:Rho}{σ:St}{P:List V→Hp→Prop}(R:Rl K cl H0 F0 ρ σ H F)(o:OutA K cl E H0 F H (fCp fi ft fe caps ρ) P):OutI K cl E H0 F H (fi ρ) fun J H1=>zaG (uP 0) (tDB K cl E0 ft) (tDE K cl E0 fe) (zdp [x] caps σ) P J H1:=by
 unfold fCp at o
 cases e:fi ρ with
 | ok ds =>
  rw [e] at o
  have o1:OutA K cl E H0 F H (if ds.length≤1000000 then wX ft fe (uZ 1 caps ρ) ds else .no) P:=o
  intro J G vs H1 F1 g W hG dq
  split at o1
  ·rename_i hl
   cases e2:wX ft fe (uZ 1 caps ρ) ds with
   | ok es=>rw [e2] at o1; exact turnsD (R.grow g) W hG dq hl e2 fun ys H' F' g' q=>o1 ys H' F' (g.trans g') q
   | ex n=>exact absurd e2 jR
   | no=>rw [e2] at o1; exact o1.elim
  ·exact o1.elim
 | ex n=>rw [e] at o; exact o
 | no=>rw [e] at o; exact o
theorem xZ (ok:CompOk X scope caps)(hc:X.calm=true)(hi:XI X cl E tg iter fi)(CI:CompD X cl scope x caps tg ifs elt ft fe)(hs:∀x,foldedSetIterable iter X.env x=pure x:=by intro _; rfl):XE X cl E (.ListComp elt [⟨tg,iter,ifs,0⟩] scope pos) (yP fi ft fe caps):=by
 refine XE'.out ⟨_,pe_comp ok hc hi CI.ci hs,fun H0 F0 ρ σ H F Q R o=>⟨H0,F0,ρ,F,R,OutI.comp R ?_⟩⟩
 refine OutA.fst o fun es ys H' F' g q o1=>?_
 intro p hp
 have fh:=(R.grow g).fh
 exact o1 _ _ _ (Gr.new fh hp) (.lst (.inl (.inl yd)) (q.mono (Same.upd (fh.free hp))))
noncomputable def wY (j:Nat)(fs:Rho→Rs (List D)):Rho→Out:=fun ρ=>match fs ρ with | .ok es=>.nx (ρ.set j (.fz (.lst es))) | .ex n=>.ex n | .no=>.no
noncomputable def vI (j:Nat)(fs:Rho→Rs (List D)):Rho→Out:=fun ρ=>match fs ρ with | .ok es=>.nx (ρ.set j (.ow es)) | .ex n=>.ex n | .no=>.no
theorem zdA {j:Nat}{y:Str}{py spos:Pos}(hN:X.N.Nodup)(hj:X.N[j]? = some y)(hy:X.env.scope.names.lookup y=some .local)(ok:CompOk X scope caps)(hc:X.calm=true)(hi:XI X cl E tg iter fi)(CI:CompD X cl scope x caps tg ifs elt ft fe)
  (hsw:swapsWith (.ListComp elt [⟨tg,iter,ifs,0⟩] scope pos) (some (.Name y py)) spos.line X.env=pure true) (hs:∀x,foldedSetIterable iter X.env x=pure x:=by intro _; rfl):XS X cl E (.Assign [.Name y py] (.ListComp elt [⟨tg,iter,ifs,0⟩] scope pos) spos) (wY j (fCp fi ft fe caps)):=by
 refine XS'.out ⟨_,ps_comp hN hj hy ok hc hi CI.ci hsw hs,fun H0 F0 ρ σ H F Dn R o=>⟨H0,F0,ρ,F,R,OutI.comp R ?_⟩⟩
 unfold wY at o
 cases e:fCp fi ft fe caps ρ with
 | ok es =>
  rw [e] at o
  intro ys H' F' g q p hp
  have fh:=(R.grow g).fh
  have g2:Gr F' H' (upd F' p (.lst ys)) (upd H' p (.lst ys)):=Gr.new fh hp
  exact o _ _ _ (((R.grow g).grow g2).set (.lst (.inl (.inl yd)) (q.mono g2.ff))) (g.ff.trans g2.ff)
 | ex n=>rw [e] at o; exact o
 | no=>rw [e] at o; exact o
theorem xs_compO {j:Nat}{y:Str}{py spos:Pos}(hN:X.N.Nodup)(hj:X.N[j]? = some y)(hy:X.env.scope.names.lookup y=some .local)(ok:CompOk X scope caps)(hc:X.calm=true)(hi:XI X cl E tg iter fi)(CI:CompD X cl scope x caps tg ifs elt ft fe)
  (hsw:swapsWith (.ListComp elt [⟨tg,iter,ifs,0⟩] scope pos) (some (.Name y py)) spos.line X.env=pure true) (hs:∀x,foldedSetIterable iter X.env x=pure x:=by intro _; rfl):XS X cl E (.Assign [.Name y py] (.ListComp elt [⟨tg,iter,ifs,0⟩] scope pos) spos) (vI j (fCp fi ft fe caps)):=by
 refine XS'.out ⟨_,ps_comp hN hj hy ok hc hi CI.ci hsw hs,fun H0 F0 ρ σ H F Dn R o=>⟨H0,F0,ρ,F,R,OutI.comp R ?_⟩⟩
 unfold vI at o
 cases e:fCp fi ft fe caps ρ with
 | ok es =>
  rw [e] at o
  intro ys H' F' g q p hp
  exact o _ _ _ ((R.grow g).setO hp q) g.ff
 | ex n=>rw [e] at o; exact o
 | no=>rw [e] at o; exact o
end
end L2
namespace L2
open PySem PySem.Spec PyProof.Rows
noncomputable def Fn1 (K:PySem.W.Frag)(cl:Nat→Addr)(r:List V→Hp→VK→Prop)(g:List D→Option D):Prop :=
 ∀(F H:Hp) (vs:List V) (ds:List D) (d:D) (Q:VK),Same F H→Dts K cl F vs ds→g ds=some d→(∀v H' F',Gr F H F' H'→Dt K cl F' v d→Q v H')→r vs H Q
noncomputable def uH:List D→Option D
 | [.str l]=>some (.int l.length)
 | [.lst l]=>some (.int l.length)
 | [.tup l]=>some (.int l.length)
 | _=>none
noncomputable def unB:D→Bool
 | .bl b=>b
 | _=>false
noncomputable def isB:D→Bool
 | .bl _=>true
 | _=>false
noncomputable def unS:D→List Nat
 | .str l=>l
 | _=>[]
noncomputable def isS:D→Bool
 | .str _=>true
 | _=>false
noncomputable def allD:List D→Option D
 | [.lst ds]=>if ds.all isB=true then some (.bl (ds.all unB)) else none
 | _=>none
noncomputable def anyD:List D→Option D
 | [.lst ds]=>if ds.all isB=true then some (.bl (ds.any unB)) else none
 | _=>none
noncomputable def sortL (ds:List D):Option (List D):=if ds.all isS=true∧ds.length < 64 then some ((My.sortF (ds.map unS)).map .str) else none
noncomputable def sortD:List D→Option (List D)
 | [.lst ds]=>sortL ds
 | [.tup ds]=>sortL ds
 | _=>none
noncomputable def tupD:List D→Option D
 | [.lst ds]=>some (.tup ds)
 | [.tup ds]=>some (.tup ds)
 | _=>none
noncomputable def lstD:List D→Option (List D)
 | [.lst ds]=>some ds
 | [.tup ds]=>some ds
 | _=>none
noncomputable def yH:D→D→Option D
 | .str l,.str m=>some (.bl (m.isPrefixOf l))
 | _,_=>none
noncomputable def jf:D→D→Option D
 | .str [],.lst ds=>if ds.all isS=true∧(ds.map unS).flatten.length≤1000000 then some (.str (ds.map unS).flatten) else none
 | _,_=>none
noncomputable def zbh (g:PyData→Bool)(d:D):Option D:=if d.pl=true then some (.bl (g d.py)) else none
noncomputable def isInt:PyData→Bool:=fun d=>match d with | .int _=>true | .bool _=>true | _=>false
noncomputable def isBool:PyData→Bool:=fun d=>match d with | .bool _=>true | _=>false
noncomputable def isStr:PyData→Bool:=fun d=>match d with | .str _=>true | _=>false
noncomputable def isTup:PyData→Bool:=fun d=>match d with | .tuple _=>true | _=>false
section
variable {K:PySem.W.Frag}{cl:Nat→Addr}{F H:Hp}
theorem Dts.bools:∀{vs:List V}{ds:List D},Dts K cl F vs ds→ds.all isB=true→vs=(ds.map unB).map V.bl
 | _,_,.nil,_=>rfl
 | _,_,.cons q r,h=>by
  rw [List.all_cons,Bool.and_eq_true] at h
  have:=Dts.bools r h.2
  cases q <;> simp [isB] at h
  rw [this]; rfl
theorem Dts.texts:∀{vs:List V}{ds:List D},Dts K cl F vs ds→ds.all isS=true→vs=vT (ds.map unS)∧(∀x∈ds.map unS,TxtOk (T x))∧ds=(ds.map unS).map .str
 | _,_,.nil,_=>⟨rfl,by simp,rfl⟩
 | _,_,.cons q r,h=>by
  rw [List.all_cons,Bool.and_eq_true] at h
  obtain ⟨e1,e2,e3⟩:=Dts.texts r h.2
  cases q with
  | str l ok =>
   refine ⟨by rw [e1]; rfl,fun x hx=>?_,by rw [List.map_cons,List.map_cons,← e3]; rfl⟩
   rw [List.map_cons] at hx
   rcases List.mem_cons.mp hx with rfl | hx
   ·exact ok
   ·exact e2 x hx
  | _=>simp [isS] at h
theorem dts_texts {ls:List (List Nat)}(h:∀x∈ls,TxtOk (T x)):Dts K cl F (vT ls) (ls.map .str):=za4 fun x hx=>.str x (h x hx)
theorem n_len:Fn1 K cl (fun xs H Q=>∃x n,xs=[x]∧LenV K x H n∧Q (.int n) H) uH:=fun F H vs ds d Q s q e k=>by
 match ds,q,e with
 | [.str l],q,e =>
  obtain ⟨v,rfl,q1⟩:=q.one
  obtain rfl:=Option.some.inj e
  cases q1 with
  | str l ok=>exact ⟨_,l.length,rfl,⟨sz6 ok.2,(jq l).symm⟩,k _ _ _ (Gr.refl s) (.int _)⟩
 | [.lst l],q,e =>
  obtain ⟨v,rfl,q1⟩:=q.one
  obtain rfl:=Option.some.inj e
  cases q1 with
  | lst sq dq=>exact ⟨_,l.length,rfl,.inl ⟨_,s.seq sq,dq.length.symm⟩,k _ _ _ (Gr.refl s) (.int _)⟩
 | [.tup l],q,e =>
  obtain ⟨v,rfl,q1⟩:=q.one
  obtain rfl:=Option.some.inj e
  cases q1 with
  | tup sq dq=>exact ⟨_,l.length,rfl,.inr ⟨_,s.seqT sq,dq.length.symm⟩,k _ _ _ (Gr.refl s) (.int _)⟩
theorem n_all:Fn1 K cl (fun xs H Q=>∃(a:Addr) (bs:List Bool),xs=[.ref a]∧SqL K H a (bs.map V.bl)∧Q (.bl (bs.all id)) H) allD:=fun F H vs ds d Q s q e k=>by
 match ds,q,e with
 | [.lst l],q,e =>
  obtain ⟨v,rfl,q1⟩:=q.one
  dsimp only [allD] at e
  split at e
  ·rename_i h
   obtain rfl:=Option.some.inj e
   cases q1 with
   | lst sq dq =>
    rw [dq.bools h] at sq
    refine ⟨_,_,rfl,s.seq sq,?_⟩
    have:=k _ _ _ (Gr.refl s) (.bl (l.all unB))
    rwa [List.all_map]
  ·cases e
theorem n_any:Fn1 K cl (fun xs H Q=>∃(a:Addr) (bs:List Bool),xs=[.ref a]∧SqL K H a (bs.map V.bl)∧Q (.bl (bs.any id)) H) anyD:=fun F H vs ds d Q s q e k=>by
 match ds,q,e with
 | [.lst l],q,e =>
  obtain ⟨v,rfl,q1⟩:=q.one
  dsimp only [anyD] at e
  split at e
  ·rename_i h
   obtain rfl:=Option.some.inj e
   cases q1 with
   | lst sq dq =>
    rw [dq.bools h] at sq
    refine ⟨_,_,rfl,s.seq sq,?_⟩
    have:=k _ _ _ (Gr.refl s) (.bl (l.any unB))
    rwa [List.any_map]
  ·cases e
theorem n_tup:Fn1 K cl (fun xs H Q=>∃p ys,xs=[.ref p]∧((SqL K H p ys∧∀l,H l=none→Q (.ref l) (upd H l (.tup ys)))∨(SqT K H p ys∧Q (.ref p) H))) tupD:=fun F H vs ds d Q s q e k=>by
 match ds,q,e with
 | [.lst l],q,e =>
  obtain ⟨v,rfl,q1⟩:=q.one
  obtain rfl:=Option.some.inj e
  cases q1 with
  | lst sq dq=>exact ⟨_,_,rfl,.inl ⟨s.seq sq,fun p hp=>k _ _ _ (Gr.new s hp) (.tup (.inl (.inl yd)) (dq.mono (Same.upd (s.free hp))))⟩⟩
 | [.tup l],q,e =>
  obtain ⟨v,rfl,q1⟩:=q.one
  obtain rfl:=Option.some.inj e
  cases q1 with
  | tup sq dq=>exact ⟨_,_,rfl,.inr ⟨s.seqT sq,k _ _ _ (Gr.refl s) (.tup sq dq)⟩⟩
end
section
variable {X:Cx}{cl:Nat→Addr}{E:XK}{e o:Expr}{es:List Expr}{fa fb:Rho→Rs D}{fs:Rho→Rs (List D)}{x:Str}{p pos:Pos}
theorem yo {id:String}{r:List V→Hp→VK→Prop}{g:List D→Option D}(hc:qL X (.builtin id) r)(hF:Fn1 X.K cl r g)(hg:Gl X x)(hm:X.mg x=none)(hv:bootBuiltins x=some (.builtin id))(ha:XA X cl E (e::es) fs)(he:starEach (e::es) X.env=(false,eval e X.env)::starEach es X.env)(hn:x ≠ "__name__" := by decide)(hdb:(x == ("__debug__" : Str))=false:=by decide)(hpl:(backTo pos (starEach es X.env)).any (·.1)=false:=by rfl):XE X cl E (.Call (.Name x p) (e::es) [] pos) (fO g fs):=by
 obtain ⟨t,pt,rt⟩:=ha.ex
 refine XE'.out ⟨_,zau hc hg hm hv pt hn hdb he hpl,fun H0 F0 ρ σ H F Q R o=>rt H0 F0 ρ σ H F _ R (OutA.fst o fun ds vs H1 F1 g1 q o1=>?_)⟩
 obtain ⟨z,hz,k⟩:=o1.lf
 exact hF F1 H1 vs ds z _ (R.grow g1).fh q hz k
theorem zaV {T:String}{r:List V→Hp→VK→Prop}{g:List D→Option D}(hc:qL X (.type T) r)(hF:Fn1 X.K cl r g)(hg:Gl X x)(hm:X.mg x=none)(hv:bootBuiltins x=some (.type T))(ha:XA X cl E (e::es) fs)(he:starEach (e::es) X.env=(false,eval e X.env)::starEach es X.env)(hn:x ≠ "__name__" := by decide)(hdb:(x == ("__debug__" : Str))=false:=by decide)(hpl:(backTo pos (starEach es X.env)).any (·.1)=false:=by rfl):XE X cl E (.Call (.Name x p) (e::es) [] pos) (fO g fs):=by
 obtain ⟨t,pt,rt⟩:=ha.ex
 refine XE'.out ⟨_,zc0 hc hg hm hv pt hn hdb he hpl,fun H0 F0 ρ σ H F Q R o=>rt H0 F0 ρ σ H F _ R (OutA.fst o fun ds vs H1 F1 g1 q o1=>?_)⟩
 obtain ⟨z,hz,k⟩:=o1.lf
 exact hF F1 H1 vs ds z _ (R.grow g1).fh q hz k
theorem zcK {n:String}{b:Expr}{g:PyData→Bool}(hk:∀d,PySem.W.kitOne X.K (.type (tyN d)) (.type n)=some (g d))(hg:Gl X "isinstance")(hm:X.mg "isinstance" = none)(ha:XE X cl E e fa)(hb:PE X b (tC (.ty n)))(h1:starEach [e,b] X.env=(false,eval e X.env)::starEach [b] X.env)(h2:starEach [b] X.env=(false,eval b X.env)::starEach [] X.env:=by rfl)(hpl:(backTo pos (starEach [b] X.env)).any (·.1)=false:=by rfl):XE X cl E (.Call (.Name "isinstance" p) [e,b] [] pos) (f1 (zbh g) fa):=by
 obtain ⟨t,pt,rt⟩:=ha.ex
 refine XE'.out ⟨_,zau zcy hg hm boot_isinstance (xM pt (xM hb vY h2) h1) (by decide) (by decide) h1 hpl,fun H0 F0 ρ σ H F Q R o=>rt H0 F0 ρ σ H F _ R (OutE.fst o fun d v H1 F1 g1 q o1=>?_)⟩
 obtain ⟨z,hz,k⟩:=o1.lf
 unfold zbh at hz
 split at hz
 ·rename_i hp
  obtain rfl:=Option.some.inj hz
  have fh:=(R.grow g1).fh
  exact ⟨v,d.py,n,g d.py,rfl,(q.is hp).mono fh,hk _,k _ _ _ (Gr.refl fh) (.bl _)⟩
 ·cases hz
noncomputable def fM (chk:D→Bool)(g:D→D→Option D)(fa fb:Rho→Rs D):Rho→Rs D:=fun ρ=>(fa ρ).bind fun a=>if chk a=true then (fb ρ).bind fun b=>lf (g a b) else .no
structure Mth (X:Cx)(o e:Expr)(name:Str)(apos cpos:Pos):Prop where
 hs:starEach [e] X.env=(false,eval e X.env)::starEach [] X.env
 base:attributeBase o name X.env (eval o X.env)=eval o X.env
 few:((backTo cpos (starEach [e] X.env)).all (fun x=>!x.1)&&(backToKw cpos (keywordEach [] X.env)).all (fun x=>x.1.isSome)&&decide (([e]:List Expr).length + ([]:List Keyword).length + (if ([]:List Keyword).isEmpty then 0 else 1) < 30))=true
 line:(apos.endLine == cpos.line)=true
 plain:(backTo cpos (starEach [] X.env)).any (·.1)=false
theorem uX {apos cpos:Pos}(ho:XE X cl E o fa)(ha:XE X cl E e fb)(m:Mth X o e "startswith" apos cpos):XE X cl E (.Call (.Attribute o "startswith" apos) [e] [] cpos) (fM isS yH fa fb):=by
 obtain ⟨t,pt,rt⟩:=ho.ex
 obtain ⟨u,pu,ru⟩:=ha.ex
 refine XE'.out ⟨_,pe_bm PySem.F.plainAttrs_str PySem.F.slot_str_startswith PySem.F.type_str_startswith mt_starts pt (xM pu vY m.hs) m.base m.few m.line m.hs m.plain,fun H0 F0 ρ σ H F Q R o=>rt H0 F0 ρ σ H F _ R (OutE.fst o fun d v H1 F1 g1 q o1=>?_)⟩
 split at o1
 ·rename_i hd
  cases q with
  | str l ok =>
   refine ⟨rfl,ru H0 F0 ρ σ H1 F1 _ (R.grow g1) (OutE.fst o1 fun d2 v2 H2 F2 g2 q2 o2=>?_)⟩
   obtain ⟨z,hz,k⟩:=o2.lf
   cases q2 with
   | str m ok2 =>
    obtain rfl:=Option.some.inj hz
    exact ⟨l,m,rfl,rfl,k _ _ _ (Gr.refl (R.grow (g1.trans g2)).fh) (.bl _)⟩
   | _=>cases hz
  | _=>cases hd
 ·exact o1.elim
theorem jM {apos cpos:Pos}(ho:XE X cl E o fa)(ha:XE X cl E e fb)(m:Mth X o e "join" apos cpos):XE X cl E (.Call (.Attribute o "join" apos) [e] [] cpos) (fM isS jf fa fb):=by
 obtain ⟨t,pt,rt⟩:=ho.ex
 obtain ⟨u,pu,ru⟩:=ha.ex
 refine XE'.out ⟨_,pe_bm PySem.F.plainAttrs_str PySem.F.slot_str_join PySem.F.type_str_join mt_join pt (xM pu vY m.hs) m.base m.few m.line m.hs m.plain,fun H0 F0 ρ σ H F Q R o=>rt H0 F0 ρ σ H F _ R (OutE.fst o fun d v H1 F1 g1 q o1=>?_)⟩
 split at o1
 ·rename_i hd
  cases q with
  | str l ok =>
   refine ⟨rfl,ru H0 F0 ρ σ H1 F1 _ (R.grow g1) (OutE.fst o1 fun d2 v2 H2 F2 g2 q2 o2=>?_)⟩
   obtain ⟨z,hz,k⟩:=o2.lf
   cases q2 with
   | lst sq dq =>
    rename_i ds
    match l,hz with
    | [],hz =>
     dsimp only [jf] at hz
     split at hz
     ·rename_i h
      obtain rfl:=Option.some.inj hz
      obtain ⟨e1,e2,e3⟩:=dq.texts h.1
      have fh:=(R.grow (g1.trans g2)).fh
      rw [e1] at sq
      refine ⟨_,ds.map unS,rfl,rfl,fh.seq sq,h.2,k _ _ _ (Gr.refl fh) (.str _ (vV (fun c hc=>?_) h.2))⟩
      obtain ⟨y,hy,hc⟩:=List.mem_flatten.mp hc
      have a:(T y).cps.all (· < 0x110000)=true:=(e2 y hy).1
      simp only [T,List.all_toArray,List.all_eq_true,decide_eq_true_eq] at a
      exact a c hc
     ·cases hz
    | _::_,hz=>cases hz
   | _=>cases l <;> cases hz
  | _=>cases hd
 ·exact o1.elim
theorem qK {a b:Expr}(ha:XE X cl E a fa)(hb:XE X cl E b fb)(hs:zb2 b):XE X cl E (.Subscript a b pos) (f2 ixD fa fb):=by
 obtain ⟨t,pt,rt⟩:=ha.ex
 obtain ⟨u,pu,ru⟩:=hb.ex
 refine XE'.out ⟨_,pe_ix ix_seq pt pu hs,fun H0 F0 ρ σ H F Q R o=>rt H0 F0 ρ σ H F _ R (OutE.fst o fun d v H1 F1 g1 q o1=>?_)⟩
 refine ru H0 F0 ρ σ H1 F1 _ (R.grow g1) (OutE.fst o1 fun e w H2 F2 g2 q2 o2=>?_)
 obtain ⟨z,hz,k⟩:=o2.lf
 exact o_ix F2 H2 v w d e z _ (R.grow (g1.trans g2)).fh (q.mono g2.ff) q2 hz k
noncomputable def wz:Rho→Rs (Option Int):=fun _=>.ok none
noncomputable def yS (f:Rho→Rs D):Rho→Rs (Option Int):=fun ρ=>(f ρ).bind fun d=>match d with | .int i=>.ok (some i) | _=>.no
theorem uM:XO' X cl E none wz:=⟨_,po_none,fun H0 F0 ρ σ H F Q R o=>o H F (Gr.refl R.fh)⟩
theorem vD (h:XE X cl E e fa):XO' X cl E (some e) (yS fa):=by
 obtain ⟨t,pt,rt⟩:=h.ex
 refine ⟨_,po_some pt,fun H0 F0 ρ σ H F Q R o=>rt H0 F0 ρ σ H F _ R ?_⟩
 unfold yS at o
 cases e:fa ρ with
 | ok d =>
  rw [e] at o
  intro v H' F' g q
  cases q with
  | int i=>exact ⟨i,rfl,o H' F' g⟩
  | _=>exact o.elim
 | ex n=>rw [e] at o; exact o
 | no=>rw [e] at o; exact o
noncomputable def fSl (fa:Rho→Rs D)(fl fh:Rho→Rs (Option Int)):Rho→Rs D:=fun ρ=>(fa ρ).bind fun a=>(fl ρ).bind fun l=>(fh ρ).bind fun h=>lf (slD a l h)
theorem cutL_len {α:Type}(xs:List α)(lo hi:Option Int):(zae xs lo hi).length≤xs.length:=by
 unfold zae
 rw [List.length_take,List.length_drop]; omega
theorem Dts.cut {K:PySem.W.Frag}{F:Hp}{vs:List V}{ds:List D}(q:Dts K cl F vs ds)(lo hi:Option Int):Dts K cl F (cutV vs lo hi) (zae ds lo hi):=by
 unfold cutV zae
 rw [q.length]
 exact (q.drop _).take _
theorem wU {lo hi:Option Expr}{p2:Pos}{fl fh:Rho→Rs (Option Int)}(ha:XE X cl E e fa)(hl:XO' X cl E lo fl)(hh:XO' X cl E hi fh):XE X cl E (.Subscript e (.Slice lo hi none p2) pos) (fSl fa fl fh):=by
 obtain ⟨t,pt,rt⟩:=ha.ex
 obtain ⟨u,pu,ru⟩:=hl
 obtain ⟨w,pw,rw'⟩:=hh
 refine XE'.out ⟨_,pe_slice (SlR.or sl_list (SlR.or sl_tupU sl_str)) pt pu pw,fun H0 F0 ρ σ H F Q R o=>rt H0 F0 ρ σ H F _ R (OutE.fst o fun d v H1 F1 g1 q o1=>?_)⟩
 refine ru H0 F0 ρ σ H1 F1 _ (R.grow g1) ?_
 cases e1:fl ρ with
 | ok l =>
  rw [e1] at o1
  intro H2 F2 g2
  refine rw' H0 F0 ρ σ H2 F2 _ ((R.grow g1).grow g2) ?_
  cases e2:fh ρ with
  | ok h =>
   rw [e2] at o1
   intro H3 F3 g3
   have o3:OutE X.K cl E H0 F3 H3 (lf (slD d l h)) Q:=OutE.grow o1 (g2.trans g3)
   obtain ⟨z,hz,k⟩:=o3.lf
   have fh:=(((R.grow g1).grow g2).grow g3).fh
   have q3:=q.mono (g2.trans g3).ff
   cases q3 with
   | lst sq dq =>
    obtain rfl:=Option.some.inj hz
    refine .inl ⟨_,_,rfl,fh.seq sq,fun p hp=>k _ _ _ (Gr.new fh hp) (.lst (.inl (.inl yd)) ((dq.cut l h).mono (Same.upd (fh.free hp))))⟩
   | tup sq dq =>
    obtain rfl:=Option.some.inj hz
    refine .inr (.inl ⟨_,_,rfl,fh.seqT sq,fun p H' hs qq=>?_⟩)
    obtain ⟨F',g,q'⟩:=Gr.tup fh hs qq (dq.cut l h)
    exact k _ _ _ g q'
   | str ls ok =>
    obtain rfl:=Option.some.inj hz
    refine .inr (.inr ⟨_,rfl,sz6 ok.2,?_⟩)
    rw [za8,jq]
    refine k _ _ _ (Gr.refl fh) (.str (zae ls l h) (zdM ok (fun c hc=>?_) (Nat.le_trans (cutL_len _ _ _) (by have:=ok.2; rw [jq] at this; exact this))))
    exact List.mem_of_mem_drop (List.mem_of_mem_take hc)
   | _=>cases hz
  | ex n=>rw [e2] at o1; exact o1
  | no=>rw [e2] at o1; exact o1
 | ex n=>rw [e1] at o1; exact o1
 | no=>rw [e1] at o1; exact o1
end
end L2
namespace L2
open PySem PySem.Spec PyProof.Rows
noncomputable def XL (X:Cx)(cl:Nat→Addr)(E:XK)(e:Expr)(f:Rho→Rs (List D)):Prop :=
 ∃t:TE,PE X e t∧∀(H0 F0:Hp) (ρ:Rho) (σ:St) (H F:Hp) (Q:VK),Rl X.K cl H0 F0 ρ σ H F→OutA X.K cl E H0 F H (f ρ) (fun vs H1=>∀p,H1 p=none→Q (.ref p) (upd H1 p (.lst vs)))→t σ H Q
noncomputable def fLs (f:Rho→Rs (List D)):Rho→Rs D:=fun ρ=>(f ρ).bind fun ds=>.ok (.lst ds)
section
variable {X:Cx}{cl:Nat→Addr}{E:XK}{e o:Expr}{es:List Expr}{fa fb:Rho→Rs D}{fs:Rho→Rs (List D)}{x:Str}{p pos:Pos}
theorem XL.xe (h:XL X cl E e fs):XE X cl E e (fLs fs):=by
 obtain ⟨t,pt,rt⟩:=h
 refine XE'.out ⟨_,pt,fun H0 F0 ρ σ H F Q R o=>rt H0 F0 ρ σ H F _ R (OutA.fst o fun ds vs H1 F1 g q o1=>fun p hp=>?_)⟩
 have fh:=(R.grow g).fh
 exact o1 _ _ _ (Gr.new fh hp) (.lst (.inl (.inl yd)) (q.mono (Same.upd (fh.free hp))))
noncomputable def lf' {α:Type}:Option α→Rs α
 | some d=>.ok d
 | none=>.no
noncomputable def fL (g:List D→Option (List D))(fs:Rho→Rs (List D)):Rho→Rs (List D):=fun ρ=>(fs ρ).bind fun as=>lf' (g as)
noncomputable def fL2 (g:D→D→Option (List D))(fa fb:Rho→Rs D):Rho→Rs (List D):=fun ρ=>(fa ρ).bind fun a=>(fb ρ).bind fun b=>lf' (g a b)
theorem OutA.lf {K:PySem.W.Frag}{H0 F H:Hp}{o:Option (List D)}{Q:List V→Hp→Prop}(h:OutA K cl E H0 F H (lf' o) Q):∃d,o=some d∧∀v H' F',Gr F H F' H'→Dts K cl F' v d→Q v H':=by
 cases o with
 | none=>exact h.elim
 | some d=>exact ⟨d,rfl,h⟩
noncomputable def szL (ds:List D):Option (List D):=if ds.length≤1000000 then some ds else none
theorem xl_lst (h:XA X cl E es fs):XL X cl E (.List es pos) (fL szL fs):=by
 obtain ⟨t,pt,rt⟩:=h.ex
 refine ⟨_,pe_lst pt,fun H0 F0 ρ σ H F Q R o=>rt H0 F0 ρ σ H F _ R (OutA.fstA o fun ds vs H1 F1 g q o1=>?_)⟩
 obtain ⟨z,hz,k⟩:=o1.lf
 unfold szL at hz
 split at hz
 ·rename_i hl
  obtain rfl:=Option.some.inj hz
  exact ⟨sz6 (q.length ▸ hl),fun p hp=>k vs H1 F1 (Gr.refl (R.grow g).fh) q p hp⟩
 ·cases hz
noncomputable def catD:D→D→Option (List D)
 | .lst l,.lst m=>if l.length + m.length≤1000000 then some (l++m) else none
 | _,_=>none
theorem zbC {K:PySem.W.Frag}{F H:Hp}{a:Addr}{vs:List V}{ds z:List D}{Q:List V→Hp→Prop}(fh:Same F H)(dq:Dts K cl F vs ds)(hz:sortL ds=some z)(k:∀v H' F',Gr F H F' H'→Dts K cl F' v z→Q v H'):vs=vT (ds.map unS)∧(ds.map unS).length < 64∧∀ms,ms.Perm (ds.map unS)→Srt ms→Q (vT ms) H:=by
 unfold sortL at hz
 split at hz
 ·rename_i h
  obtain rfl:=Option.some.inj hz
  obtain ⟨e1,e2,e3⟩:=dq.texts h.1
  refine ⟨e1,by rw [List.length_map]; exact h.2,fun ms pm sm=>?_⟩
  obtain rfl:=My.sortF_eq sm pm
  exact k _ _ _ (Gr.refl fh) (dts_texts fun y hy=>e2 y (My.sortF_mem.mp hy))
 ·cases hz
theorem zcP (hg:Gl X "sorted")(hm:X.mg "sorted" = none)(hv:bootBuiltins "sorted" = some (.builtin "sorted"))(h:XE X cl E e fa)(hs:starEach [e] X.env=(false,eval e X.env)::starEach [] X.env)(hpl:(backTo pos (starEach [] X.env)).any (·.1)=false:=by rfl):XL X cl E (.Call (.Name "sorted" p) [e] [] pos) (fL sortD (zb fa zA)):=by
 obtain ⟨t,pt,rt⟩:=(zc h zu hs).ex
 have hc:qL X (.builtin "sorted") (fun xs H Q=>(∃a ls,xs=[.ref a]∧SqL X.K H a (vT ls)∧ls.length < 64∧∀p ms,H p=none→ms.Perm ls→Srt ms→Q (.ref p) (upd H p (.lst (vT ms))))∨(∃a ls,xs=[.ref a]∧SqT X.K H a (vT ls)∧ls.length < 64∧∀p ms,H p=none→ms.Perm ls→Srt ms→Q (.ref p) (upd H p (.lst (vT ms))))):=fun pins s σ H xs us Q I r q=>by
  rcases q with q | q
  ·exact zco pins s σ H xs us Q I r q
  ·exact zcZ pins s σ H xs us Q I r q
 refine ⟨_,zau hc hg hm hv pt (by decide) (by decide) hs hpl,fun H0 F0 ρ σ H F Q R o=>rt H0 F0 ρ σ H F _ R (OutA.fstA o fun ds vs H1 F1 g q o1=>?_)⟩
 obtain ⟨z,hz,k⟩:=o1.lf
 have fh:=(R.grow g).fh
 match ds,q,hz with
 | [.lst l],q,hz =>
  obtain ⟨v,rfl,q1⟩:=q.one
  cases q1 with
  | lst sq dq =>
   obtain ⟨e1,e2,e3⟩:=zbC (a:=0) fh dq hz k
   rw [e1] at sq
   exact .inl ⟨_,_,rfl,fh.seq sq,e2,fun p ms hp pm sm=>e3 ms pm sm p hp⟩
 | [.tup l],q,hz =>
  obtain ⟨v,rfl,q1⟩:=q.one
  cases q1 with
  | tup sq dq =>
   obtain ⟨e1,e2,e3⟩:=zbC (a:=0) fh dq hz k
   rw [e1] at sq
   exact .inr ⟨_,_,rfl,fh.seqT sq,e2,fun p ms hp pm sm=>e3 ms pm sm p hp⟩
theorem xl_list (hg:Gl X "list")(hm:X.mg "list" = none)(hv:bootBuiltins "list" = some (.type "list"))(h:XE X cl E e fa)(hs:starEach [e] X.env=(false,eval e X.env)::starEach [] X.env)(hpl:(backTo pos (starEach [] X.env)).any (·.1)=false:=by rfl):XL X cl E (.Call (.Name "list" p) [e] [] pos) (fL lstD (zb fa zA)):=by
 obtain ⟨t,pt,rt⟩:=(zc h zu hs).ex
 refine ⟨_,zc0 zcm hg hm hv pt (by decide) (by decide) hs hpl,fun H0 F0 ρ σ H F Q R o=>rt H0 F0 ρ σ H F _ R (OutA.fstA o fun ds vs H1 F1 g q o1=>?_)⟩
 obtain ⟨z,hz,k⟩:=o1.lf
 have fh:=(R.grow g).fh
 match ds,q,hz with
 | [.lst l],q,hz =>
  obtain ⟨v,rfl,q1⟩:=q.one
  obtain rfl:=Option.some.inj hz
  cases q1 with
  | lst sq dq=>exact ⟨_,_,rfl,.inl (fh.seq sq),fun p hp=>k _ _ _ (Gr.refl fh) dq p hp⟩
 | [.tup l],q,hz =>
  obtain ⟨v,rfl,q1⟩:=q.one
  obtain rfl:=Option.some.inj hz
  cases q1 with
  | tup sq dq=>exact ⟨_,_,rfl,.inr (fh.seqT sq),fun p hp=>k _ _ _ (Gr.refl fh) dq p hp⟩
theorem zb3 {i:Nat}{pos':Pos}(hN:X.N.Nodup)(hi:X.N[i]? = some x)(hx:Loc X.env.scope x)(he:XL X cl E e fs)(hs:swapsWith e (some (.Name x pos')) pos.line X.env=pure false:=by rfl)(hf:X.fn x=true∨X.env.scope.names.lookup x=some .local:=by first | exact .inl rfl | exact .inr rfl | assumption) :
  XS X cl E (.Assign [.Name x pos'] e pos) (vI i fs):=by
 obtain ⟨t,pt,rt⟩:=he
 refine XS'.out ⟨_,ps_set hN hi hx pt hs hf,fun H0 F0 ρ σ H F Dn R o=>rt H0 F0 ρ σ H F _ R ?_⟩
 unfold vI at o
 cases e:fs ρ with
 | ok d=>rw [e] at o; exact fun vs H' F' gg q p hp=>o _ _ F' ((R.grow gg).setO hp q) gg.ff
 | ex n=>rw [e] at o; exact o
 | no=>rw [e] at o; exact o
theorem zav {i:Nat}{o:Expr}{apos cpos:Pos}(ho:PE X o (tVar i))(ha:XE X cl E e fa)(m:Mth X o e "append" apos cpos)(hs:swapsWith (.Call (.Attribute o "append" apos) [e] [] cpos) none pos.line X.env=pure false:=by rfl):XS X cl E (.Expr (.Call (.Attribute o "append" apos) [e] [] cpos) pos) (zao i fa):=by
 obtain ⟨u,pu,ru⟩:=ha.ex
 refine XS'.out ⟨_,ps_expr (pe_bm PySem.F.plainAttrs_list PySem.F.slot_list_append PySem.F.type_list_append mt_append ho (xM pu vY m.hs) m.base m.few m.line m.hs m.plain) hs,fun H0 F0 ρ σ H F Dn R oo=>?_⟩
 unfold zao at oo
 cases hw:owL ρ i with
 | none=>rw [hw] at oo; exact oo.elim
 | some ds =>
  rw [hw] at oo
  have hd:=zca hw
  obtain ⟨a,vs,h1,h2,h3,h4,h5⟩:=R.ow i ds hd
  refine ⟨.ref a,h1,.inl ⟨rfl,vs,.inl (.inl h2)⟩,ru H0 F0 ρ σ H F _ R ?_⟩
  cases e:fa ρ with
  | ok d =>
   simp only [e] at oo
   split at oo
   ·rename_i hl
    intro v H1 F1 g q
    have R1:=R.grow g
    refine ⟨a,vs,v,rfl,rfl,g.hh _ _ h2,?_,?_⟩
    ·rw [h5.length,sizeLine_eq]; omega
    ·exact oo _ _ F1 (R1.put hd h1 ((h5.mono g.ff).append (.cons q .nil))) g.ff
   ·exact oo.elim
  | ex n=>simp only [e] at oo; exact oo
  | no=>simp only [e] at oo; exact oo.elim
noncomputable def zci (i j:Nat)(f:Rho→Rs D):Rho→Out:=fun ρ=>match owL ρ i with
 | some ds=>(match f ρ with | .ok (.int k)=>(if 0≤k∧k < 1000000 then (match ds[k.toNat]? with | some d=>.nx ((ρ.set i (.ow (ds.eraseIdx k.toNat))).set j (.fz d)) | none=>.no) else .no) | .ex n=>.ex n | _=>.no)
 | none=>.no
theorem Dts.erase {K:PySem.W.Frag}{F:Hp}:∀{vs:List V}{ds:List D} (k:Nat),Dts K cl F vs ds→Dts K cl F (vs.eraseIdx k) (ds.eraseIdx k)
 | _,_,_,.nil=>.nil
 | _,_,0,.cons _ r=>r
 | _,_,k + 1,.cons q r=>.cons q (Dts.erase k r)
theorem xs_pop {i j:Nat}{o:Expr}{y:Str}{py apos cpos:Pos}(hN:X.N.Nodup)(hj:X.N[j]? = some y)(hy:Loc X.env.scope y)(ho:PE X o (tVar i))(ha:XE X cl E e fa)(m:Mth X o e "pop" apos cpos)(hs:swapsWith (.Call (.Attribute o "pop" apos) [e] [] cpos) (some (.Name y py)) pos.line X.env=pure false:=by rfl)(hf:X.fn y=true∨X.env.scope.names.lookup y=some .local:=by first | exact .inl rfl | exact .inr rfl | assumption) :
  XS X cl E (.Assign [.Name y py] (.Call (.Attribute o "pop" apos) [e] [] cpos) pos) (zci i j fa):=by
 obtain ⟨u,pu,ru⟩:=ha.ex
 refine XS'.out ⟨_,ps_set hN hj hy (pe_bm PySem.F.plainAttrs_list PySem.F.slot_list_pop PySem.F.type_list_pop mt_popAt ho (xM pu vY m.hs) m.base m.few m.line m.hs m.plain) hs hf,fun H0 F0 ρ σ H F Dn R oo=>?_⟩
 unfold zci at oo
 cases hw:owL ρ i with
 | none=>rw [hw] at oo; exact oo.elim
 | some ds =>
  rw [hw] at oo
  have hd:=zca hw
  obtain ⟨a,vs,h1,h2,h3,h4,h5⟩:=R.ow i ds hd
  refine ⟨.ref a,h1,.inl ⟨rfl,vs,.inl (.inl h2)⟩,ru H0 F0 ρ σ H F _ R ?_⟩
  cases e:fa ρ with
  | ok d =>
   simp only [e] at oo
   intro v H1 F1 g q
   cases q with
   | int k =>
    dsimp only at oo
    split at oo
    ·rename_i hk
     cases hg:ds[k.toNat]? with
     | none=>simp only [hg] at oo; exact oo.elim
     | some d =>
      simp only [hg] at oo
      have R1:=R.grow g
      have h5':=h5.mono g.ff
      obtain ⟨w,hw1,hw2⟩:=h5'.get' hg
      have hlt:k.toNat < vs.length:=(List.getElem?_eq_some_iff.mp hw1).1
      refine ⟨a,vs,k,k.toNat,w,rfl,rfl,g.hh _ _ h2,by omega,by omega,?_,hw1,?_⟩
      ·exact seqIndex_of hk.1 (by omega)
      ·exact oo _ _ F1 ((R1.put hd h1 (h5'.erase _)).set hw2) g.ff
    ·exact oo.elim
   | _=>exact oo.elim
  | ex n=>simp only [e] at oo; exact oo
  | no=>simp only [e] at oo; exact oo.elim
end
end L2
namespace L2
open PySem PySem.Spec PyProof.Rows
section
variable {X:Cx}{cl:Nat→Addr}{E:XK}{e o a b c:Expr}{es:List Expr}{fa fb fc:Rho→Rs D}{fs:Rho→Rs (List D)}{x y:Str}{p pos:Pos}
theorem xs_set2 {i j:Nat}{px py tp:Pos}{k:Nat}(hg:PG X (.Tuple [.Name x px,.Name y py] k tp) (gTup X.K 2 (jL (uP i) (jL (uP j) gNil))))(he:XE X cl E e fa)(hs:swapsWithSole [.Tuple [.Name x px,.Name y py] k tp] e pos.line X.env=pure false:=by rfl)(hw:swappedStores [.Tuple [.Name x px,.Name y py] k tp] e X.env=pure none:=by rfl) :
  XS X cl E (.Assign [.Tuple [.Name x px,.Name y py] k tp] e pos) (qQ i j fa):=by
 obtain ⟨t,pt,rt⟩:=he.ex
 refine XS'.out ⟨_,ps_asg pt hg hs hw,fun H0 F0 ρ σ H F Dn R o=>rt H0 F0 ρ σ H F _ R ?_⟩
 unfold qQ at o
 cases e:fa ρ with
 | ok d =>
  rw [e] at o
  intro v H' F' g q
  match d,q,o with
  | .tup [d1,d2],q,o =>
   cases q with
   | tup sq dq =>
    obtain ⟨v1,v2,rfl,q1,q2⟩:=dq.two
    have R1:=R.grow g
    exact ⟨_,_,rfl,R1.fh.seqT sq,rfl,v1,_,rfl,v2,_,rfl,rfl,o _ _ F' ((R1.set q1).set q2) g.ff⟩
  | .non,_,o=>exact o.elim
  | .bl _,_,o=>exact o.elim
  | .int _,_,o=>exact o.elim
  | .str _,_,o=>exact o.elim
  | .lst _,_,o=>exact o.elim
  | .dct _,_,o=>exact o.elim
  | .exc _,_,o=>exact o.elim
  | .tup [],_,o=>exact o.elim
  | .tup [_],_,o=>exact o.elim
  | .tup (_::_::_::_),_,o=>exact o.elim
 | ex n=>rw [e] at o; exact o
 | no=>rw [e] at o; exact o
noncomputable def fCh (g g':D→D→Option D)(fa fb fc:Rho→Rs D):Rho→Rs D:=fun ρ=>(fa ρ).bind fun a=>(fb ρ).bind fun b=>(lf (g a b)).bind fun z=>(tru z).bind fun k=>if k=true then (fc ρ).bind fun c=>lf (g' b c) else .ok (.bl false)
theorem zcD {H0 F0 H F:Hp}{ρ:Rho}{σ:St}{r r':R2}{g g':D→D→Option D}{ta tb tc:TE}{Q:VK}(hg:Op2 X.K cl r g)(hg':Op2 X.K cl r' g')(R:Rl X.K cl H0 F0 ρ σ H F)
  (ra:∀(H0 F0:Hp) (ρ:Rho) (σ:St) (H F:Hp) (Q:VK),Rl X.K cl H0 F0 ρ σ H F→OutE X.K cl E H0 F H (fa ρ) Q→ta σ H Q) (rb:∀(H0 F0:Hp) (ρ:Rho) (σ:St) (H F:Hp) (Q:VK),Rl X.K cl H0 F0 ρ σ H F→OutE X.K cl E H0 F H (fb ρ) Q→tb σ H Q) (rc:∀(H0 F0:Hp) (ρ:Rho) (σ:St) (H F:Hp) (Q:VK),Rl X.K cl H0 F0 ρ σ H F→OutE X.K cl E H0 F H (fc ρ) Q→tc σ H Q)
  (o:OutE X.K cl E H0 F H (fCh g g' fa fb fc ρ) Q):tChain r r' ta tb tc σ H Q:=by
 refine ra H0 F0 ρ σ H F _ R (OutE.fst o fun d v H1 F1 g1 q o1=>?_)
 refine rb H0 F0 ρ σ H1 F1 _ (R.grow g1) (OutE.fst o1 fun d2 v2 H2 F2 g2 q2 o2=>?_)
 have R2:=(R.grow g1).grow g2
 cases hz:g d d2 with
 | none=>rw [hz] at o2; exact o2.elim
 | some z =>
  rw [hz] at o2
  refine hg F2 H2 v v2 d d2 z _ R2.fh (q.mono g2.ff) q2 hz fun w H3 F3 g3 q3=>?_
  obtain ⟨k,rfl,o3⟩:=OutE.tru (F1:=F3) (H1:=H3) q3 (OutE.grow (r:=(tru z).bind _) o2 g3)
  refine ⟨k,rfl,?_⟩
  have R3:=R2.grow g3
  cases k with
  | false=>exact o3.okI R3.fh (.bl _)
  | true =>
   refine rc H0 F0 ρ σ H3 F3 _ R3 (OutE.fst o3 fun d4 v4 H4 F4 g4 q4 o4=>?_)
   obtain ⟨z2,hz2,k2⟩:=o4.lf
   exact hg' F4 H4 v2 v4 d2 d4 z2 _ (R3.grow g4).fh (q2.mono (g3.trans g4).ff) q4 hz2 k2
theorem xe_chain {op op':CmpOp}{r r':R2}{g g':D→D→Option D}(ho:OpR X (compareOp op) r)(ho':OpR X (compareOp op') r')(hg:Op2 X.K cl r g)(hg':Op2 X.K cl r' g')(ha:XE X cl E a fa)(hb:XE X cl E b fb)(hc:XE X cl E c fc)(hm:lastMarks [op,op'] [b,c]=false:=by with_unfolding_all rfl):XE X cl E (.Compare a [op,op'] [b,c] pos) (fCh g g' fa fb fc):=by
 obtain ⟨t,pt,rt⟩:=ha.ex
 obtain ⟨u,pu,ru⟩:=hb.ex
 obtain ⟨w,pw,rw'⟩:=hc.ex
 exact XE'.out ⟨_,pe_chain ho ho' pt pu pw hm,fun H0 F0 ρ σ H F Q R o=>zcD hg hg' R rt ru rw' o⟩
theorem xt_chain {op op':CmpOp}{r r':R2}{g g':D→D→Option D}(ho:OpR X (compareOp op) r)(ho':OpR X (compareOp op') r')(hg:Op2 X.K cl r g)(hg':Op2 X.K cl r' g')(ha:XE X cl E a fa)(hb:XE X cl E b fb)(hc:XE X cl E c fc)(hm:lastMarks [op,op'] [b,c]=false:=by with_unfolding_all rfl):XT X cl E (.Compare a [op,op'] [b,c] pos) (bT (fCh g g' fa fb fc)):=by
 obtain ⟨t,pt,rt⟩:=ha.ex
 obtain ⟨u,pu,ru⟩:=hb.ex
 obtain ⟨w,pw,rw'⟩:=hc.ex
 exact XT'.out ⟨_,pt_chain ho ho' pt pu pw hm,fun H0 F0 ρ σ H F Q R o=>zcD hg hg' R rt ru rw' (OutB.bT R o)⟩
end
end L2
namespace L2
open PySem PySem.Spec PyProof.Rows
noncomputable def fL1 (g:D→Option (List D))(fa:Rho→Rs D):Rho→Rs (List D):=fun ρ=>(fa ρ).bind fun a=>lf' (g a)
section
variable {X:Cx}{cl:Nat→Addr}{E:XK}{e o a b c:Expr}{es:List Expr}{fa fb fc:Rho→Rs D}{fs:Rho→Rs (List D)}{x y:Str}{p pos:Pos}
noncomputable def zaj (i:Nat):Rho→Out:=fun ρ=>.nx (ρ.set i (.od []))
noncomputable def odL (ρ:Rho)(i:Nat):Option (List (List Nat×D)):=match ρ[i]? with | some (.od ds)=>some ds | _=>none
noncomputable def putD (kvs:List (List Nat×D))(k:List Nat)(v:D):List (List Nat×D):=if (kvs.any fun kv=>decide (kv.1=k))=true then kvs.map (fun kv=>if kv.1=k then (kv.1,v) else kv) else kvs++[(k,v)]
theorem Dks.any {K:PySem.W.Frag}{F:Hp}{k:List Nat}:∀{vs:List (Key×V)}{ds:List (List Nat×D)},Dks K cl F vs ds→(vs.any fun kv=>decide (kv.1=Sum.inr (T k)))=(ds.any fun kv=>decide (kv.1=k))
 | _,_,.nil=>rfl
 | _,_,.cons (l:=l) ok q r=>by
  rw [List.any_cons,List.any_cons,Dks.any r]
  congr 1
  by_cases h:l=k
  ·subst h; simp
  ·rw [decide_eq_false h,decide_eq_false]
   intro z; injection z with z; exact h (T_inj z)
theorem Dks.mapPut {K:PySem.W.Frag}{F:Hp}{k:List Nat}{v:V}{d:D}(hv:Dt K cl F v d):∀{vs:List (Key×V)}{ds:List (List Nat×D)},Dks K cl F vs ds→Dks K cl F (vs.map fun kv=>if kv.1=Sum.inr (T k) then (kv.1,v) else kv) (ds.map fun kv=>if kv.1=k then (kv.1,d) else kv)
 | _,_,.nil=>.nil
 | _,_,.cons (l:=l) ok q r=>by
  rw [List.map_cons,List.map_cons]
  by_cases h:l=k
  ·subst h; rw [if_pos rfl,if_pos rfl]; exact .cons ok hv (Dks.mapPut hv r)
  ·have h':¬((Sum.inr (T l):Key)=Sum.inr (T k)):=fun z=>by injection z with z; exact h (T_inj z)
   rw [if_neg h,if_neg h']; exact .cons ok q (Dks.mapPut hv r)
theorem Dks.snoc {K:PySem.W.Frag}{F:Hp}{k:List Nat}{v:V}{d:D}(hk:TxtOk (T k))(hv:Dt K cl F v d):∀{vs:List (Key×V)}{ds:List (List Nat×D)},Dks K cl F vs ds→Dks K cl F (vs++[(Sum.inr (T k),v)]) (ds++[(k,d)])
 | _,_,.nil=>.cons hk hv .nil
 | _,_,.cons ok q r=>.cons ok q (Dks.snoc hk hv r)
theorem Dks.put {K:PySem.W.Frag}{F:Hp}{k:List Nat}{v:V}{d:D}{vs:List (Key×V)}{ds:List (List Nat×D)}(h:Dks K cl F vs ds)(hk:TxtOk (T k))(hv:Dt K cl F v d):Dks K cl F (putK vs (Sum.inr (T k)) v) (putD ds k d):=by
 unfold putK putD
 rw [h.any]
 split
 ·exact h.mapPut hv
 ·exact h.snoc hk hv
theorem Dks.length {K:PySem.W.Frag}{F:Hp}:∀{vs:List (Key×V)}{ds:List (List Nat×D)},Dks K cl F vs ds→vs.length=ds.length
 | _,_,.nil=>rfl
 | _,_,.cons _ _ r=>by simp [r.length]
theorem Dks.keys {K:PySem.W.Frag}{F:Hp}:∀{vs:List (Key×V)}{ds:List (List Nat×D)},Dks K cl F vs ds→vs.map (·.1)=(ds.map (·.1)).map fun l=>(Sum.inr (T l):Key)
 | _,_,.nil=>rfl
 | _,_,.cons _ _ r=>by simp [r.keys]
noncomputable def sPut (i:Nat)(fk fv:Rho→Rs D):Rho→Out:=fun ρ=>match odL ρ i with
 | some ds=>(match fv ρ with
  | .ok v=>(match fk ρ with | .ok (.str k)=>if ds.length < 1000000 then .nx (ρ.set i (.od (putD ds k v))) else .no | .ex n=>.ex n | _=>.no)
  | .ex n=>.ex n
  | .no=>.no)
 | none=>.no
noncomputable def fSD (i:Nat):Rho→Rs (List D):=fun ρ=>match odL ρ i with
 | some ds=>if ds.length < 64 then .ok ((My.sortF (ds.map (·.1))).map .str) else .no
 | none=>.no
end
end L2
namespace L2
open PySem PySem.Spec PyProof.Rows
noncomputable def sRs (n:Nat)(fs:Rho→Rs (List D)):Rho→Out:=fun ρ=>match fs ρ with | .ok ds=>if ds.length≤3 then .ex n else .no | .ex m=>.ex m | .no=>.no
section
variable {P:Program}{w:World}{K:PySem.W.Frag}{mg:Str→Option Value}{base:Heap}{N:List Str}{qual:Str}{scope:Scope}{f:Addr}{cd:Value}{A:Around}{outer:List Env}{s₁:Shared}{H₁:Hp}{E:XK}{cl:Nat→Addr}
theorem q9 {x:Str}{e₀:Expr}{np cpos pos:Pos}{fs:Rho→Rs (List D)}{n:Nat}(O:Own K mg x)(hO:O.C=cl n)(hg:Gl (zag (CX1 P w) P w K mg base N qual scope f cd A outer s₁ H₁ E) x)(ha:XA (zag (CX1 P w) P w K mg base N qual scope f cd A outer s₁ H₁ E) cl E [e₀] fs)
  (he:starEach [e₀] (zag (CX1 P w) P w K mg base N qual scope f cd A outer s₁ H₁ E).env=(false,eval e₀ (zag (CX1 P w) P w K mg base N qual scope f cd A outer s₁ H₁ E).env)::starEach [] (zag (CX1 P w) P w K mg base N qual scope f cd A outer s₁ H₁ E).env) (hd:(x == ("__debug__" : Str))=false:=by decide) :
  XS (zag (CX1 P w) P w K mg base N qual scope f cd A outer s₁ H₁ E) cl E (.Raise (some (.Call (.Name x np) [e₀] [] cpos)) none pos) (sRs n fs):=by
 obtain ⟨t,pt,rt⟩:=ha.ex
 refine XS'.out ⟨_,ps_raise O hg pt he rfl hd,fun H0 F0 ρ σ H F Dn R o=>rt H0 F0 ρ σ H F _ R ?_⟩
 unfold sRs at o
 cases e:fs ρ with
 | ok ds =>
  rw [e] at o
  intro vs H' F' g q
  dsimp only at o
  split at o
  ·rename_i hl
   refine ⟨q.length ▸ hl,?_⟩
   rw [hO]
   exact o H' (R.gr.hh.trans g.hh)
  ·exact o.elim
 | ex n=>rw [e] at o; exact o
 | no=>rw [e] at o; exact o
end
noncomputable def yx (m:Nat)(g:Rho→Out)(ds:List D):Rs D:=match g (ds.map .fz++List.replicate (m - ds.length) .no) with | .nx _=>.ok .non | .rt d=>.ok d | .ex n=>.ex n | _=>.no
theorem Rl.start {K:PySem.W.Frag}{cl:Nat→Addr}{H F:Hp}{N:List Str}{vs:List V}{ds:List D}(s:Same F H)(q:Dts K cl F vs ds):Rl K cl H F (ds.map .fz++List.replicate (N.length - ds.length) .no) (L2.start N vs) H F:=by
 have shape:∀(i:Nat) (s:Sl),(ds.map Sl.fz++List.replicate (N.length - ds.length) Sl.no)[i]? = some s→(∃d,s=.fz d∧ds[i]? = some d)∨s=.no:=fun i s e=>by
  rcases Nat.lt_or_ge i ds.length with h | h
  ·rw [List.getElem?_append_left (by simpa using h),List.getElem?_map,List.getElem?_eq_getElem h] at e
   exact .inl ⟨ds[i],(Option.some.inj e).symm,List.getElem?_eq_getElem h⟩
  ·rw [List.getElem?_append_right (by simpa using h),List.getElem?_replicate] at e
   split at e
   ·exact .inr (Option.some.inj e).symm
   ·cases e
 refine ⟨Gr.refl s,by unfold L2.start; simp [q.length],fun i d e=>?_,fun i d e=>?_,fun i d e=>?_,fun i j s t a z1 z2 o1 o2 e1 e2=>?_⟩
 ·rcases shape i _ e with ⟨d',e1,e2⟩ | e1
  ·injection e1 with e1; subst e1
   obtain ⟨v,h1,h2⟩:=q.get' e2
   refine ⟨v,?_,h2⟩
   unfold L2.start
   have hi:=(List.getElem?_eq_some_iff.mp h1).1
   rw [List.getElem?_append_left (by simpa using hi),List.getElem?_map,h1]; rfl
  ·cases e1
 ·rcases shape i _ e with ⟨d',e1,e2⟩ | e1 <;> cases e1
 ·rcases shape i _ e with ⟨d',e1,e2⟩ | e1 <;> cases e1
 ·rcases shape i _ z1 with ⟨d',rfl,_⟩ | rfl <;> cases o1
theorem fnD {P:Program}{w:World}{K:PySem.W.Frag}{mg:Str→Option Value}{base:Heap}{cl:Nat→Addr}{x qual:Str}{st:Stmt}{f:Addr}{fd:FuncData}{N ps:List Str}{k m n:Nat}{g:Rho→Out}(Fu:Fun K x qual st f fd)(S:FnScope N ps (zm st))(hm:N.length=m)(hn:ps.length=n)
  (hb:∀(cdv:Value) (A:Around) (outer:List Env) (s:Shared) (H:Hp) (E:XK),Room k (A.deeper (envOfC qual (zm st) s.heap.objs.size f cdv))→XSs (zag (CX1 P w) P w K mg base N qual (zm st) f cdv A outer s H E) cl E (zH st) g):FnOk P w K mg base (CX1 P w) (k + 1) f fd ps (spD K cl (yx m g) n):=by
 subst hm hn
 refine Fu.okX S (fun vs H Q E h=>h.choose_spec.choose_spec.2.2.1) fun cdv A outer s H vs Q E hr h=>?_
 obtain ⟨F,ds,sm,dq,hl,o⟩:=h
 refine ⟨_,hb cdv A outer s H E hr,H,F,_,F,Rl.start (N:=N) sm dq,?_⟩
 unfold yx at o
 cases e:g (ds.map .fz++List.replicate (N.length - ds.length) .no) with
 | nx ρ=>rw [e] at o; exact fun σ H' F' R _=>o .non H' F' R.gr .non
 | rt d=>rw [e] at o; exact fun v H' F' gg q=>o v H' F' gg q
 | bk ρ=>rw [e] at o; exact o.elim
 | ct ρ=>rw [e] at o; exact o.elim
 | ex n=>rw [e] at o; exact o
 | no=>rw [e] at o; exact o
noncomputable def forZ (i j:Nat)(g:Rho→Out):List D→List D→Rho→Out
 | d::ds,e::es,ρ=>match g ((ρ.set i (.fz d)).set j (.fz e)) with | .nx ρ'=>forZ i j g ds es ρ' | .ct ρ'=>forZ i j g ds es ρ' | .bk ρ'=>.nx ρ' | o=>o
 | _,_,ρ=>.nx ρ
noncomputable def qG (i j:Nat)(fa fb:Rho→Rs D)(g:Rho→Out):Rho→Out:=fun ρ=>match (fa ρ),(fb ρ) with
 | .ok (.tup ds),.ok (.tup es)=>forZ i j g ds es ρ
 | _,_=>.no
section
variable {X:Cx}{cl:Nat→Addr}{E:XK}{a b:Expr}{fa fb:Rho→Rs D}{g:Rho→Out}{p pos zpos tp px py:Pos}{x y:Str}{k:Nat}{body:List Stmt}
theorem sForZ_inv {K:PySem.W.Frag}{H0 F0 F:Hp}{i j:Nat}{ρ:Rho}{Dn:Ends}(o:OutS K cl E H0 F0 F (qG i j fa fb g ρ) Dn):∃ds es,fa ρ=.ok (.tup ds)∧fb ρ=.ok (.tup es)∧OutS K cl E H0 F0 F (forZ i j g ds es ρ) Dn:=by
 unfold qG at o
 split at o
 ·rename_i ds es e1 e2; exact ⟨ds,es,e1,e2,o⟩
 ·exact o.elim
theorem xs_forZ {i j:Nat}(hp:PassesOwn (model X.prog X.w) X.A X.env X.xe)(hc:X.calm=true)(hz:Gl X "zip")(hm:X.mg "zip" = none)(ha:XE X cl E a fa)(hb:XE X cl E b fb)(hg:PG X (.Tuple [.Name x px,.Name y py] k tp) (gTup X.K 2 (jL (uP i) (jL (uP j) gNil))))(hbd:XSs X cl E body g)(hs:starEach [a,b] X.env=[(false,eval a X.env),(false,eval b X.env)])(hs2:starEach [b] X.env=[(false,eval b X.env)]):XS X cl E (.For (.Tuple [.Name x px,.Name y py] k tp) (.Call (.Name "zip" p) [a,b] [] zpos) body [] pos) (qG i j fa fb g):=by
 obtain ⟨t,pt,rt⟩:=ha.ex
 obtain ⟨u,pu,ru⟩:=hb.ex
 obtain ⟨w,pw,rw'⟩:=hbd.ex
 refine XS'.out ⟨_,ps_for hp hc (pi_ziptt hz hm pt pu hs hs2) hg pw,fun H0 F0 ρ σ H F Dn R o=>rt H0 F0 ρ σ H F _ R ?_⟩
 obtain ⟨ds,es,e1,e2,o'⟩:=sForZ_inv o
 rw [e1]
 intro v1 H1 F1 g1 q1
 have R1:=R.grow g1
 refine ru H0 F0 ρ σ H1 F1 _ R1 ?_
 rw [e2]
 intro v2 H2 F2 g2 q2
 have R2:=R1.grow g2
 cases q1 with
 | tup sq1 dq1 =>
  cases q2 with
  | tup sq2 dq2 =>
   have sq1':=g2.ff.seqT sq1
   have dq1':=dq1.mono g2.ff
   refine ⟨_,_,_,_,rfl,R2.fh.seqT sq1',R2.fh.seqT sq2,?_⟩
   refine for_zip (fun m σ' H'=>∃ρ' F',Rl X.K cl H0 F0 ρ' σ' H' F'∧Same F2 F'∧OutS X.K cl E H0 F0 F' (forZ i j g (ds.drop m) (es.drop m) ρ') Dn) ⟨ρ,F2,R2,Same.refl _,o'.grow (g1.ff.trans g2.ff)⟩ (fun m σ' H' ⟨ρ',F',R',s',_⟩=>⟨(s'.trans R'.fh).seqT sq1',(s'.trans R'.fh).seqT sq2⟩) ?_ ?_
   ·rintro m z1 z2 pp σ' H' hx hy hpp ⟨ρ',F',R',s',o3⟩
    obtain ⟨c1,hd1,qd1⟩:=dq1'.get hx
    obtain ⟨c2,hd2,qd2⟩:=dq2.get hy
    have r1:ds.drop m=c1::ds.drop (m + 1):=by
     obtain ⟨hk,e3⟩:=List.getElem?_eq_some_iff.mp hd1
     rw [List.drop_eq_getElem_cons hk,e3]
    have r2:es.drop m=c2::es.drop (m + 1):=by
     obtain ⟨hk,e3⟩:=List.getElem?_eq_some_iff.mp hd2
     rw [List.drop_eq_getElem_cons hk,e3]
    rw [r1,r2] at o3
    unfold forZ at o3
    have R4:=R'.grow (Gr.newO (o:=.tup [z1,z2]) R'.fh hpp)
    refine ⟨pp,[z1,z2],rfl,.inl (.inl yd),rfl,z1,_,rfl,z2,_,rfl,rfl,rw' H0 F0 _ _ _ F' _ ((R4.set (qd1.mono s')).set (qd2.mono s')) ?_⟩
    cases e4:g ((ρ'.set i (.fz c1)).set j (.fz c2)) with
    | nx ρ2=>simp only [e4] at o3; exact fun σ2 H2 F2 R2 s2=>⟨ρ2,F2,R2,s'.trans s2,o3.grow s2⟩
    | ct ρ2=>simp only [e4] at o3; exact fun σ2 H2 F2 R2 s2=>⟨ρ2,F2,R2,s'.trans s2,o3.grow s2⟩
    | bk ρ2=>simp only [e4] at o3; exact o3
    | rt d=>simp only [e4] at o3; exact o3
    | ex n=>simp only [e4] at o3; exact o3
    | no=>simp only [e4] at o3; exact o3
   ·rintro σ' H' ⟨ρ',F',R',s',o3⟩
    rw [dq1'.length,dq2.length] at o3
    have e5:forZ i j g (ds.drop (min ds.length es.length)) (es.drop (min ds.length es.length)) ρ'=.nx ρ':=by
     rcases Nat.le_total ds.length es.length with h | h
     ·rw [Nat.min_eq_left h,List.drop_of_length_le (Nat.le_refl ds.length)]; unfold forZ; rfl
     ·rw [Nat.min_eq_right h,List.drop_of_length_le (Nat.le_refl es.length)]
      cases ds.drop es.length <;> (unfold forZ; rfl)
    rw [e5] at o3
    exact o3 σ' H' F' R' (Same.refl _)
noncomputable def qI (ft:Rho→Rs Bool)(fe:Rho→Rs D)(ρ0:Rho):List D→List D→Rs (List D)
 | d::ds,c::cs=>match ft ((ρ0.set 0 (.fz d)).set 1 (.fz c)) with
  | .ok true=>(match fe ((ρ0.set 0 (.fz d)).set 1 (.fz c)) with | .ok e=>(qI ft fe ρ0 ds cs).bind fun es=>.ok (e::es) | _=>.no)
  | .ok false=>qI ft fe ρ0 ds cs
  | _=>.no
 | _,_=>.ok []
noncomputable def fCz (fa fb:Rho→Rs D)(ft:Rho→Rs Bool)(fe:Rho→Rs D)(caps:List Nat):Rho→Rs (List D):=fun ρ=>match fa ρ,fb ρ with
 | .ok (.tup ds),.ok (.tup cs)=>(match qI ft fe (uZ 2 caps ρ) ds cs with | .ok es=>if ds.length≤1000000 then .ok es else .no | _=>.no)
 | _,_=>.no
variable {scope:Scope}{caps:List Nat}{elt:Expr}{ifs:List Expr}{ft:Rho→Rs Bool}{fe:Rho→Rs D}
structure CompZ (X:Cx)(cl:Nat→Addr)(scope:Scope)(x y:Str)(caps:List Nat)(tg:Expr)(ifs:List Expr)(elt:Expr)(ft:Rho→Rs Bool)(fe:Rho→Rs D):Prop where
 tgt:∀pins C ex s H,PG (cxC X pins scope [x,y] caps C ex s H) tg (gTup X.K 2 (jL (uP 0) (jL (uP 1) gNil)))
 tst:∀pins C ex s H,XTs (cxC X pins scope [x,y] caps C ex s H) cl E0 ifs ft
 elm:∀pins C ex s H,XE (cxC X pins scope [x,y] caps C ex s H) cl E0 elt fe
theorem fCz_inv {K:PySem.W.Frag}{H0 F H:Hp}{ρ:Rho}{Q:List V→Hp→Prop}(o:OutA K cl E H0 F H (fCz fa fb ft fe caps ρ) Q):∃ds cs es,fa ρ=.ok (.tup ds)∧fb ρ=.ok (.tup cs)∧qI ft fe (uZ 2 caps ρ) ds cs=.ok es∧ds.length≤1000000∧OutA K cl E H0 F H (.ok es) Q:=by
 unfold fCz at o
 split at o
 ·rename_i ds cs e1 e2
  split at o
  ·rename_i es e3
   split at o
   ·rename_i hl; exact ⟨ds,cs,es,e1,e2,e3,hl,o⟩
   ·exact o.elim
  ·exact o.elim
 ·exact o.elim
theorem xl_compZ (ok:CompOk X scope caps)(hc:X.calm=true)(hz:Gl X "zip")(hm:X.mg "zip" = none)(ha:XE X cl E a fa)(hb:XE X cl E b fb)(CI:CompZ X cl scope x y caps (.Tuple [.Name x px,.Name y py] k tp) ifs elt ft fe)(hs:starEach [a,b] X.env=[(false,eval a X.env),(false,eval b X.env)])(hs2:starEach [b] X.env=[(false,eval b X.env)]) :
  XL X cl E (.ListComp elt [⟨.Tuple [.Name x px,.Name y py] k tp,.Call (.Name "zip" p) [a,b] [] zpos,ifs,0⟩] scope pos) (fCz fa fb ft fe caps):=by
 obtain ⟨t,pt,rt⟩:=ha.ex
 obtain ⟨u,pu,ru⟩:=hb.ex
 refine ⟨_,pe_comp ok hc (pi_ziptt hz hm pt pu hs hs2) (g:=gTup X.K 2 (jL (uP 0) (jL (uP 1) gNil))) (tt:=tDB X.K cl E0 ft) (te:=tDE X.K cl E0 fe) ⟨CI.tgt,CI.tst,CI.elm⟩,fun H0 F0 ρ σ H F Q R o=>rt H0 F0 ρ σ H F _ R ?_⟩
 obtain ⟨ds,cs,es,e1,e2,hcz,hl,o⟩:=fCz_inv o
 rw [e1]
 intro v1 H1 F1 g1 q1
 have R1:=R.grow g1
 refine ru H0 F0 ρ σ H1 F1 _ R1 ?_
 rw [e2]
 intro v2 H2 F2 g2 q2
 have R2:=R1.grow g2
 cases q1 with
 | tup sq1 dq1 =>
  cases q2 with
  | tup sq2 dq2 =>
   have sq1':=g2.ff.seqT sq1
   have dq1':=dq1.mono g2.ff
   refine ⟨_,_,_,_,rfl,R2.fh.seqT sq1',R2.fh.seqT sq2,?_⟩
   refine turns_zip (sz6 (dq1'.length ▸ hl)) (fun m ys H'=>∃F' es1 es2,Gr F2 H2 F' H'∧Dts X.K cl F' ys es1∧ys.length≤m∧es=es1++es2∧qI ft fe (uZ 2 caps ρ) (ds.drop m) (cs.drop m)=.ok es2) ⟨F2,[],es,Gr.refl R2.fh,.nil,Nat.le_refl _,rfl,hcz⟩ (fun m ys H' ⟨F',_,_,gg,_,h1,_⟩=>⟨(gg.ff.trans gg.fh).seqT sq1',(gg.ff.trans gg.fh).seqT sq2,h1⟩) ?_ ?_
   ·rintro m z1 z2 pp ys H' hx hy hpp ⟨F',es1,es2,gg,qs,hly,rfl,hc'⟩
    obtain ⟨c1,hd1,qd1⟩:=dq1'.get hx
    obtain ⟨c2,hd2,qd2⟩:=dq2.get hy
    have r1:ds.drop m=c1::ds.drop (m + 1):=by
     obtain ⟨hk,e3⟩:=List.getElem?_eq_some_iff.mp hd1
     rw [List.drop_eq_getElem_cons hk,e3]
    have r2:cs.drop m=c2::cs.drop (m + 1):=by
     obtain ⟨hk,e3⟩:=List.getElem?_eq_some_iff.mp hd2
     rw [List.drop_eq_getElem_cons hk,e3]
    rw [r1,r2] at hc'
    unfold qI at hc'
    have gz:Gr F' H' F' (upd H' pp (.tup [z1,z2])):=Gr.newO (gg.fh) hpp
    have Rz:=((R2.grow gg).grow gz).cap [x,y] caps
    have Rw:Rl X.K cl (upd H' pp (.tup [z1,z2])) F' (((uZ 2 caps ρ).set 0 (.fz c1)).set 1 (.fz c2)) (((zdp [x,y] caps σ).set 0 (some z1)).set 1 (some z2)) (upd H' pp (.tup [z1,z2])) F':=(Rz.set (qd1.mono gg.ff)).set (qd2.mono gg.ff)
    refine ⟨pp,[z1,z2],rfl,.inl (.inl yd),rfl,z1,_,rfl,z2,_,rfl,rfl,?_,_,F',_,F',Rw,?_⟩
    ·exact (Kps.set rfl).trans (Kps.set rfl)
    ·cases e3:ft (((uZ 2 caps ρ).set 0 (.fz c1)).set 1 (.fz c2)) with
     | ok bb =>
      rw [e3] at hc'
      intro H3 F3 g3
      cases bb with
      | true =>
       rw [if_pos rfl]
       cases e4:fe (((uZ 2 caps ρ).set 0 (.fz c1)).set 1 (.fz c2)) with
       | ok ee =>
        simp only [e4] at hc'
        refine ⟨_,F',_,F3,Rw.grow g3,?_⟩
        rw [e4]
        intro yy H4 F4 g4 qy
        cases e5:qI ft fe (uZ 2 caps ρ) (ds.drop (m + 1)) (cs.drop (m + 1)) with
        | ok es3 =>
         rw [e5] at hc'
         injection hc' with hc'
         exact ⟨F4,es1++[ee],es3,gg.trans (gz.trans (g3.trans g4)),(qs.mono (g3.ff.trans g4.ff)).append (.cons qy .nil),by simp; exact hly,by rw [← hc',List.append_assoc]; rfl,rfl⟩
        | ex n=>rw [e5] at hc'; cases hc'
        | no=>rw [e5] at hc'; cases hc'
       | ex n=>simp only [e4] at hc'; cases hc'
       | no=>simp only [e4] at hc'; cases hc'
      | false =>
       rw [if_neg Bool.false_ne_true]
       exact ⟨F3,es1,es2,gg.trans (gz.trans g3),qs.mono g3.ff,Nat.le_succ_of_le hly,rfl,hc'⟩
     | ex n=>rw [e3] at hc'; cases hc'
     | no=>rw [e3] at hc'; cases hc'
   ·rintro ys H' ⟨F',es1,es2,gg,qs,hly,rfl,hc'⟩
    rw [dq1'.length,dq2.length] at hc'
    have e5:qI ft fe (uZ 2 caps ρ) (ds.drop (min ds.length cs.length)) (cs.drop (min ds.length cs.length))=.ok []:=by
     rcases Nat.le_total ds.length cs.length with h | h
     ·rw [Nat.min_eq_left h,List.drop_of_length_le (Nat.le_refl ds.length)]; unfold qI; rfl
     ·rw [Nat.min_eq_right h,List.drop_of_length_le (Nat.le_refl cs.length)]
      cases ds.drop cs.length <;> (unfold qI; rfl)
    rw [e5] at hc'
    injection hc' with hc'
    rw [← hc',List.append_nil] at o
    exact o ys H' F' (g1.trans (g2.trans gg)) qs
end
end L2
namespace L2
open PySem PySem.Spec PyProof.Rows
noncomputable def negI:D→Option D
 | .int i=>some (.int (-i))
 | _=>none
noncomputable def fFl (i:Nat)(f:Rho→Rs D):Rho→Rs D:=fun ρ=>match owL ρ i with
 | some ds=>(match f (ρ.set i (.fz (.lst ds))) with | .ok d=>if d.fl=true then .ok d else .no | .ex n=>.ex n | .no=>.no)
 | none=>.no
noncomputable def repD:D→D→Option (List D)
 | .lst l,.int n=>if 0≤n∧n≤1000∧l.length≤1000 then some (List.replicate n.toNat l).flatten else none
 | _,_=>none
section
variable {X:Cx}{cl:Nat→Addr}{E:XK}{e a b:Expr}{fa fb:Rho→Rs D}{pos:Pos}{st:Stmt}
theorem xe_neg (h:XE X cl E a fa):XE X cl E (.UnaryOp .USub a pos) (f1 negI fa):=by
 obtain ⟨t,pt,rt⟩:=h.ex
 refine XE'.out ⟨_,pe_un un_neg pt,fun H0 F0 ρ σ H F Q R o=>rt H0 F0 ρ σ H F _ R (OutE.fst o fun d v H1 F1 g q o1=>?_)⟩
 obtain ⟨z,hz,k⟩:=o1.lf
 cases q with
 | int i=>obtain rfl:=Option.some.inj hz; exact ⟨i,rfl,k _ _ _ (Gr.refl (R.grow g).fh) (.int _)⟩
 | _=>cases hz
theorem Dt.flatAny {K:PySem.W.Frag}{F F':Hp}{v:V}{d:D}(q:Dt K cl F v d)(h:d.fl=true):Dt K cl F' v d:=by
 cases q with
 | non=>exact .non
 | bl b=>exact .bl b
 | int i=>exact .int i
 | str l ok=>exact .str l ok
 | _=>cases h
theorem xe_fl {i:Nat}(h:XE X cl E e fa):XE X cl E e (fFl i fa):=by
 obtain ⟨t,pt,rt⟩:=h.ex
 refine XE'.out ⟨_,pt,fun H0 F0 ρ σ H F Q R o=>?_⟩
 unfold fFl at o
 cases hw:owL ρ i with
 | none=>rw [hw] at o; exact o.elim
 | some ds =>
  rw [hw] at o
  obtain ⟨F1,s1,R1⟩:=R.ice (zca hw)
  refine rt H0 F0 _ σ H F1 _ R1 ?_
  cases e:fa (ρ.set i (.fz (.lst ds))) with
  | ok d =>
   simp only [e] at o
   split at o
   ·rename_i hf
    exact fun v H' F' g q=>o v H' F ⟨Same.refl _,g.hh,R.fh.trans g.hh,fun _ _ _ _ z=>z⟩ (q.flatAny hf)
   ·exact o.elim
  | ex n=>simp only [e] at o; exact o
  | no=>simp only [e] at o; exact o.elim
variable {scope:Scope}{x:Str}{caps:List Nat}{elt tg iter:Expr}{ifs:List Expr}{fi:Rho→Rs (List D)}{ft:Rho→Rs Bool}{fe:Rho→Rs D}
noncomputable def rCatL (K:PySem.W.Frag):R2:=fun x y H Q=>∃l b xs zs,x=.ref l∧y=.ref b∧SqL K H l xs∧SqL K H b zs∧xs.length + zs.length≤sizeLine∧∀p,H p=none→Q (.ref p) (upd H p (.lst (xs++zs)))
theorem op_catL:OpR X (binaryOp .Add) (rCatL X.K):=by
 intro pins s σ H x y v u Q I rx ry h
 obtain ⟨l,b,xs,zs,rfl,rfl,hH,hB,hz,q⟩:=h
 cases rx
 cases ry
 obtain ⟨its,r,⟨o,n,e,hc,hdd,hd⟩,z⟩:=I.list hH
 obtain ⟨its2,r2,⟨o2,n2,e2,hc2,hdd2,hd2⟩,z2⟩:=I.list hB
 obtain ⟨cls,dd,data,sl⟩:=o
 obtain ⟨cls2,dd2,data2,sl2⟩:=o2
 simp only at hc hd hc2 hd2
 subst hc hd hc2 hd2
 refine concat_meets ⟨_,e,rfl⟩ ⟨_,e2,rfl⟩ noFill_list_add seq_list_add PySem.F.slot_list_add PySem.F.entry_list_add (PySem.F.args_list_add_2 _ _) (list_addW l b its.toArray its2.toArray n n2 dd dd2 sl sl2 (by rw [List.size_toArray,List.size_toArray,← r.length,← r2.length]; exact hz)) ⟨e,e2,?_⟩
 have ea:its.toArray++its2.toArray=(its++its2).toArray:=by simp
 rw [ea]
 exact ⟨.ref _,_,I.lnew (t':=s.toks) (r.append r2) (by rw [List.length_append]; omega),rfl,q _ I.fresh⟩
theorem catD_inv {a b:D}{z:List D}(e:catD a b=some z):∃l m,a=.lst l∧b=.lst m∧l.length + m.length≤1000000∧z=l++m:=by
 cases a with
 | lst l =>
  cases b with
  | lst m =>
   by_cases h:l.length + m.length≤1000000
   ·exact ⟨l,m,rfl,rfl,h,(Option.some.inj ((if_pos h).symm.trans e)).symm⟩
   ·cases (if_neg h).symm.trans e
  | _=>cases e
 | _=>cases e
theorem xl_cat (ha:XE X cl E a fa)(hb:XE X cl E b fb):XL X cl E (.BinOp a .Add b pos) (fL2 catD fa fb):=by
 obtain ⟨t,pt,rt⟩:=ha.ex
 obtain ⟨u,pu,ru⟩:=hb.ex
 refine ⟨_,pe_op op_catL pt pu,fun H0 F0 ρ σ H F Q R o=>rt H0 F0 ρ σ H F _ R (OutE.fstA o fun d v H1 F1 g q o1=>?_)⟩
 refine ru H0 F0 ρ σ H1 F1 _ (R.grow g) (OutE.fstA o1 fun d2 v2 H2 F2 g2 q2 o2=>?_)
 obtain ⟨z,hz,k⟩:=o2.lf
 have fh:=(R.grow (g.trans g2)).fh
 have q':=q.mono g2.ff
 obtain ⟨l,m,rfl,rfl,hl,rfl⟩:=catD_inv hz
 cases q' with
 | lst sq dq =>
  cases q2 with
  | lst sq2 dq2=>exact ⟨_,_,_,_,rfl,rfl,fh.seq sq,fh.seq sq2,sz6 (by rw [dq.length,dq2.length]; exact hl),fun p hp=>k _ _ _ (Gr.refl fh) (dq.append dq2) p hp⟩
end
end L2
namespace L2
open PySem PySem.Spec PyProof.Rows
noncomputable def zcn (K:PySem.W.Frag):Sp:=fun vs H Q _=>∃(a:Addr) (ns:List Int),vs=[.ref a]∧SqL K H a (ns.map V.int)∧ns.length≤63∧∀H',Q (.bl true) H'
theorem law_sp {K:PySem.W.Frag}{cl:Nat→Addr}{fn:List D→Rs D}(h:∀ns:List Int,ns.length≤63→fn [.lst (ns.map .int)]=.ok (.bl true)){vs:List V}{H:Hp}{Q:VK}{E E':XK}(hs:zcn K vs H Q E):spD K cl fn 1 vs H Q E':=by
 obtain ⟨a,ns,rfl,sq,hl,k⟩:=hs
 refine ⟨H,[.lst (ns.map .int)],Same.refl _,.cons (.lst sq (za4 fun i _=>.int i)) .nil,rfl,?_⟩
 rw [h ns hl]
 intro v H' F' g q
 cases q
 exact k H'
theorem law_ok {P:Program}{w:World}{K:PySem.W.Frag}{mg:Str→Option Value}{base:Heap}{cl:Nat→Addr}{fn:List D→Rs D}{k:Nat}{f:Addr}{fd:FuncData}{ps:List Str}(G:FnOk P w K mg base (CX1 P w) k f fd ps (spD K cl fn 1))(h:∀ns:List Int,ns.length≤63→fn [.lst (ns.map .int)]=.ok (.bl true)):FnOk P w K mg base CX0 k f fd ps (zcn K) where
 len:=fun vs H Q E hs=>G.len vs H Q E (law_sp h hs)
 run:=fun A outer s H args us vs Q E hr e0 bt vl hs=>by
  refine codeAny_mono (G.run A outer s H args us vs Q E0 hr e0 bt vl (law_sp (E:=E) h hs)) fun r s' q=>?_
  cases r with
  | error e =>
   obtain ⟨a,C,a0,H',B,_,_,_,_,_,_,_,_,_,_,_,z⟩:=(show zcH P w outer H s E0 e s' from q)
   exact z.elim
  | ok fl=>cases fl <;> exact q
theorem len1 {α:Type}{us:List α}(h:us.length=1):∃a,us=[a]:=List.length_eq_one_iff.mp h
theorem zbx {α:Type}{us:List α}(h:us.length=2):∃a b,us=[a,b]:=by
 cases us with
 | nil=>cases h
 | cons a t=>obtain ⟨b,rfl⟩:=len1 (Nat.succ.inj h); exact ⟨a,b,rfl⟩
theorem len3 {α:Type}{us:List α}(h:us.length=3):∃a b c,us=[a,b,c]:=by
 cases us with
 | nil=>cases h
 | cons a t=>obtain ⟨b,c,rfl⟩:=zbx (Nat.succ.inj h); exact ⟨a,b,c,rfl⟩
theorem len4 {α:Type}{us:List α}(h:us.length=4):∃a b c d,us=[a,b,c,d]:=by
 cases us with
 | nil=>cases h
 | cons a t=>obtain ⟨b,c,d,rfl⟩:=len3 (Nat.succ.inj h); exact ⟨a,b,c,d,rfl⟩
theorem len5 {α:Type}{us:List α}(h:us.length=5):∃a b c d e,us=[a,b,c,d,e]:=by
 cases us with
 | nil=>cases h
 | cons a t=>obtain ⟨b,c,d,e,rfl⟩:=len4 (Nat.succ.inj h); exact ⟨a,b,c,d,e,rfl⟩
end L2
namespace L2
open PySem PySem.Spec PyProof.Rows
noncomputable def zar (ds:List (List Nat×D))(k:List Nat):Option D:=(ds.find? fun kv=>decide (kv.1=k)).map (·.2)
noncomputable def getD:D→D→Option D
 | .dct ds,.str k=>zar ds k
 | _,_=>none
noncomputable def hasD (neg:Bool):D→D→Option D
 | .str k,.dct ds=>some (.bl (if neg then !(zar ds k).isSome else (zar ds k).isSome))
 | _,_=>none
theorem Dks.val {K:PySem.W.Frag}{cl:Nat→Addr}{F:Hp}{k:List Nat}:∀{vs:List (Key×V)}{ds:List (List Nat×D)},Dks K cl F vs ds→match zar ds k with | some d=>∃v,zcT vs (Sum.inr (T k):Key)=some v∧Dt K cl F v d | none=>zcT vs (Sum.inr (T k):Key)=none
 | _,_,.nil=>rfl
 | _, _,.cons (l:=l) (v:=v) (d:=d) (vs:=vs) (ds:=ds) ok q r=>by
  have ih:=Dks.val (k:=k) r
  by_cases h:l=k
  ·subst h
   have e1:zar ((l,d)::ds) l=some d:=by simp [zar]
   rw [e1]
   exact ⟨v,by simp [zcT],q⟩
  ·have h':¬((Sum.inr (T l):Key)=Sum.inr (T k)):=fun z=>by injection z with z; exact h (T_inj z)
   have e1:zar ((l,d)::ds) k=zar ds k:=by simp [zar,h]
   have e2:zcT ((Sum.inr (T l),v)::vs) (Sum.inr (T k):Key)=zcT vs (Sum.inr (T k):Key):=by
    unfold zcT
    rw [List.find?_cons_of_neg (by simpa using h')]
   rw [e1,e2]
   exact ih
section
variable {X:Cx}{cl:Nat→Addr}{E:XK}{e o a b:Expr}{es:List Expr}{fa fb:Rho→Rs D}{fs:Rho→Rs (List D)}{x:Str}{p pos:Pos}
theorem getD_inv {a b d:D}(e:getD a b=some d):∃ds k,a=.dct ds∧b=.str k∧zar ds k=some d:=by
 cases a with
 | dct ds =>
  cases b with
  | str k=>exact ⟨ds,k,rfl,rfl,e⟩
  | _=>cases e
 | _=>cases e
theorem hasD_inv {neg:Bool}{a b d:D}(e:hasD neg a b=some d):∃k ds,a=.str k∧b=.dct ds∧d=.bl (if neg then !(zar ds k).isSome else (zar ds k).isSome):=by
 cases a with
 | str k =>
  cases b with
  | dct ds=>exact ⟨k,ds,rfl,rfl,(Option.some.inj e).symm⟩
  | _=>cases e
 | _=>cases e
theorem Dt.dctE {K:PySem.W.Frag}{F:Hp}{v:V}{ds:List (List Nat×D)}(q:Dt K cl F v (.dct ds)):∃(a:Addr) (kvs:List (Key×V)),v=.ref a∧F a=some (.dK kvs)∧Dks K cl F kvs ds:=by
 cases q with | dct h k=>exact ⟨_,_,rfl,h,k⟩
theorem xe_get (hu:X.A.units + 1 < cLine)(ha:XE X cl E a fa)(hb:XE X cl E b fb)(hs:NoSl b:=by intro _ _; rfl):XE X cl E (.Subscript a b pos) (f2 getD fa fb):=by
 obtain ⟨t,pt,rt⟩:=ha.ex
 obtain ⟨u,pu,ru⟩:=hb.ex
 refine XE'.out ⟨_,pe_dget hu pt pu hs,fun H0 F0 ρ σ H F Q R o=>rt H0 F0 ρ σ H F _ R (OutE.fst o fun d v H1 F1 g1 q o1=>?_)⟩
 refine ru H0 F0 ρ σ H1 F1 _ (R.grow g1) (OutE.fst o1 fun e w H2 F2 g2 q2 o2=>?_)
 obtain ⟨z,hz,k⟩:=o2.lf
 have fh:=(R.grow (g1.trans g2)).fh
 have q':=q.mono g2.ff
 obtain ⟨ds,key,rfl,rfl,hz'⟩:=getD_inv hz
 obtain ⟨ad,kvs,rfl,hd,hk⟩:=q'.dctE
 obtain ⟨rfl,ok⟩:=q2.strE
 have hv:=hk.val (k:=key)
 rw [hz'] at hv
 obtain ⟨v,e1,e2⟩:=hv
 exact ⟨ad,v,rfl,e1 ▸ DGet.k (k:=Sum.inr (T key)) (fh _ _ hd),k _ _ _ (Gr.refl fh) e2⟩
theorem in_dct {K:PySem.W.Frag}{F H:Hp}{ad:Addr}{kvs:List (Key×V)}{ds:List (List Nat×D)}{key:List Nat}(hk:Dks K cl F kvs ds):(zcT kvs (Sum.inr (T key):Key)).isSome=(zar ds key).isSome:=by
 have hv:=hk.val (k:=key)
 cases h:zar ds key with
 | none=>rw [h] at hv; dsimp only at hv; rw [hv]; rfl
 | some d=>rw [h] at hv; obtain ⟨v,e,_⟩:=hv; rw [e]; rfl
theorem xt_notInDc (hu:X.A.units + 1 < cLine)(ha:XE X cl E a fa)(hb:XE X cl E b fb)(hm:behindInMarks .NotIn b=false:=by rfl):XT X cl E (.Compare a [.NotIn] [b] pos) (bT (f2 (hasD true) fa fb)):=by
 obtain ⟨t,pt,rt⟩:=ha.ex
 obtain ⟨u,pu,ru⟩:=hb.ex
 refine XT'.out ⟨_,pt_cmp (pc_dnotin hu pt pu) hm,fun H0 F0 ρ σ H F Q R o=>rt H0 F0 ρ σ H F _ R (OutE.fst (OutB.bT R o) fun d v H1 F1 g1 q o1=>?_)⟩
 refine ru H0 F0 ρ σ H1 F1 _ (R.grow g1) (OutE.fst o1 fun e w H2 F2 g2 q2 o2=>?_)
 obtain ⟨z,hz,k⟩:=o2.lf
 have fh:=(R.grow (g1.trans g2)).fh
 obtain ⟨key,ds,rfl,rfl,rfl⟩:=hasD_inv hz
 obtain ⟨rfl,ok⟩:=q.strE
 obtain ⟨ad,kvs,rfl,hd,hk⟩:=q2.dctE
 refine ⟨ad,_,rfl,DGet.k (k:=Sum.inr (T key)) (fh _ _ hd),?_⟩
 have:=k _ _ _ (Gr.refl fh) (.bl _)
 rw [in_dct (H:=H2) (ad:=ad) hk]
 exact this
noncomputable def zipL (ks:List (List Nat))(ds:List D):List (List Nat×D):=(List.range (min ks.length ds.length)).foldl (fun m j=>putD m (ks.getD j []) (ds.getD j .non)) []
noncomputable def seqD:D→Option (List D)
 | .lst ds=>some ds
 | .tup ds=>some ds
 | _=>none
noncomputable def zbP (a b:D):Option D:=match seqD a,seqD b with
 | some ks,some ds=>if ks.all isS=true∧ks.length≤1000 then some (.dct (zipL (ks.map unS) ds)) else none
 | _,_=>none
theorem Dts.getDt {K:PySem.W.Frag}{F:Hp}:∀{vs:List V}{ds:List D} (_:Dts K cl F vs ds) (j:Nat),j < ds.length→Dt K cl F (vs.getD j .non) (ds.getD j .non):=by
 intro vs ds
 induction ds generalizing vs with
 | nil=>intro _ j h; cases h
 | cons d ds ih =>
  intro q j h
  cases q with
  | cons r t =>
   cases j with
   | zero=>exact r
   | succ j=>exact ih t j (Nat.lt_of_succ_lt_succ h)
theorem zip_dks {K:PySem.W.Frag}{F:Hp}{ks:List (List Nat)}{vs:List V}{ds:List D}(hk:∀x∈ks,TxtOk (T x))(q:Dts K cl F vs ds):Dks K cl F (zipT ks vs) (zipL ks ds):=by
 have key:∀(js:List Nat) (m:List (Key×V)) (n:List (List Nat×D)),(∀j∈js,j < ks.length∧j < ds.length)→Dks K cl F m n →
   Dks K cl F (js.foldl (fun m j=>putK m (Sum.inr (T (ks.getD j []))) (vs.getD j .non)) m) (js.foldl (fun m j=>putD m (ks.getD j []) (ds.getD j .non)) n):=by
  intro js
  induction js with
  | nil=>exact fun m n _ h=>h
  | cons j js ih =>
   intro m n h hm
   rw [List.foldl_cons,List.foldl_cons]
   obtain ⟨h1,h2⟩:=h j (.head _)
   refine ih _ _ (fun i hi=>h i (.tail _ hi)) (hm.put (hk _ ?_) (q.getDt j h2))
   rw [List.getD_eq_getElem?_getD,List.getElem?_eq_getElem h1]
   exact List.getElem_mem h1
 unfold zipT zipL
 rw [q.length]
 exact key _ _ _ (fun j hj=>by have:=List.mem_range.mp hj; omega) .nil
theorem Dt.seq {K:PySem.W.Frag}{F:Hp}{v:V}{d:D}{ds:List D}(q:Dt K cl F v d)(e:seqD d=some ds):∃(a:Addr) (vs:List V),v=.ref a∧(SqL K F a vs∨SqT K F a vs)∧Dts K cl F vs ds:=by
 cases q with
 | lst sq dq=>obtain rfl:=Option.some.inj e; exact ⟨_,_,rfl,.inl sq,dq⟩
 | tup sq dq=>obtain rfl:=Option.some.inj e; exact ⟨_,_,rfl,.inr sq,dq⟩
 | _=>cases e
theorem zbv {p1 p2 pos1 pos2:Pos}(hc:X.calm=true)(hd:Gl X "dict")(md:X.mg "dict" = none)(hz:Gl X "zip")(mz:X.mg "zip" = none)(ha:XE X cl E a fa)(hb:XE X cl E b fb)
  (hs:starEach [a,b] X.env=[(false,eval a X.env),(false,eval b X.env)]:=by rfl) (hs2:starEach [b] X.env=[(false,eval b X.env)]:=by rfl)
  (hs3:starEach [.Call (.Name "zip" p2) [a,b] [] pos2] X.env=[(false,eval (.Call (.Name "zip" p2) [a,b] [] pos2) X.env)]:=by rfl) :
  XE X cl E (.Call (.Name "dict" p1) [.Call (.Name "zip" p2) [a,b] [] pos2] [] pos1) (f2 zbP fa fb):=by
 obtain ⟨t,pt,rt⟩:=ha.ex
 obtain ⟨u,pu,ru⟩:=hb.ex
 refine XE'.out ⟨_,zdw hc pt pu hd hz md mz hs hs2 hs3,fun H0 F0 ρ σ H F Q R o=>?_⟩
 unfold tZipS zal
 refine rt H0 F0 ρ σ H F _ R (OutE.fst o fun d v H1 F1 g1 q o1=>?_)
 refine ru H0 F0 ρ σ H1 F1 _ (R.grow g1) (OutE.fst o1 fun e w H2 F2 g2 q2 o2=>?_)
 obtain ⟨z,hz,k⟩:=o2.lf
 have fh:=(R.grow (g1.trans g2)).fh
 have q':=q.mono g2.ff
 unfold zbP at hz
 split at hz
 ·rename_i ks ds ek ed
  split at hz
  ·rename_i h
   obtain rfl:=Option.some.inj hz
   obtain ⟨A1,vs1,rfl,s1,d1⟩:=q'.seq ek
   obtain ⟨A2,vs2,rfl,s2,d2⟩:=q2.seq ed
   obtain ⟨e1,e2,e3⟩:=d1.texts h.1
   subst e1
   refine ⟨ks.map unS,A1,A2,vs2,rfl,s1.imp fh.seq fh.seqT,s2.imp fh.seq fh.seqT,by rw [List.length_map]; exact h.2,fun p hp=>k _ _ _ (Gr.new fh hp) ?_⟩
   exact .dct yd ((zip_dks e2 d2).mono (Same.upd (fh.free hp)))
  ·cases hz
 ·cases hz
noncomputable def idxD:D→D→Option D
 | .lst ds,.str k=>if ds.all isS=true∧ds.length≤1000∧k∈ds.map unS then some (.int ((ds.map unS).idxOf k:Nat)) else none
 | .tup ds,.str k=>if ds.all isS=true∧ds.length≤1000∧k∈ds.map unS then some (.int ((ds.map unS).idxOf k:Nat)) else none
 | _,_=>none
noncomputable def isLs:D→Bool
 | .lst _=>true
 | _=>false
noncomputable def isTp:D→Bool
 | .tup _=>true
 | _=>false
theorem zcS {ls:List (List Nat)}{k:List Nat}(h:k∈ls):ug (.str (T k))=true∧(vT ls).all ug=true∧(vT ls)[ls.idxOf k]? = some (.str (T k))∧eqV (.str (T k)) (.str (T k))=true ∧
  ∀(m:Nat) (w:V),m < ls.idxOf k→(vT ls)[m]? = some w→eqV w (.str (T k))=false:=by
 have hl:=List.idxOf_lt_length_of_mem h
 have key:∀x,eqV (.str (T x)) (.str (T k))=(x == k):=fun x=>T_beq x k
 refine ⟨rfl,?_,?_,?_,?_⟩
 ·unfold vT; simp [ug]
 ·unfold vT
  rw [List.getElem?_map,List.getElem?_eq_getElem hl,List.getElem_idxOf hl]; rfl
 ·rw [key]; simp
 ·intro m w hm hw
  unfold vT at hw
  have hml:m < ls.length:=by omega
  rw [List.getElem?_map,List.getElem?_eq_getElem hml] at hw
  obtain rfl:=Option.some.inj hw
  have hne:ls[m]≠k:=by
   have:=List.not_of_lt_findIdx (p:=(· == k)) (xs:=ls) (i:=m) hm
   simpa using this
  show eqV (.str (T ls[m])) (.str (T k))=false
  rw [key]; simp [hne]
noncomputable def tBMT (K:PySem.W.Frag)(r:V→List V→Hp→VK→Prop)(to:TE)(t:TA):TE:=fun σ H Q=>to σ H fun x H1=>(∃(a:Addr) (xs:List V),x=.ref a∧SqT K H1 a xs)∧t σ H1 fun xs H2=>r x xs H2 Q
theorem pe_bmT {to:TE}{t:TA}{name:Str}{apos cpos:Pos}{id:String}{r:V→List V→Hp→VK→Prop}(pa:PlainAttrs "tuple")(slot:Slot "tuple" name id)(hty:typeOf (.builtin id)=pure (.type "method_descriptor"))(hm:MtR X id r)(ho:PE X o to)(ha:PA X (e::es) t)
  (hbase:attributeBase o name X.env (eval o X.env)=eval o X.env)
  (hfew:((backTo cpos (starEach (e::es) X.env)).all (fun x=>!x.1)&&(backToKw cpos (keywordEach [] X.env)).all (fun x=>x.1.isSome)
   && decide ((e::es).length + ([]:List Keyword).length + (if ([]:List Keyword).isEmpty then 0 else 1) < 30))=true)
  (hline:(apos.endLine == cpos.line)=true) (hs:starEach (e::es) X.env=(false,eval e X.env)::starEach es X.env) (hplain:(backTo cpos (starEach es X.env)).any (·.1)=false) :
  PE X (.Call (.Attribute o name apos) (e::es) [] cpos) (tBMT X.K r to t):=by
 intro pins s σ H Q I h
 refine wpAny_Call_method_late hbase hfew hline rfl (thn (ho pins s σ H _ I h) fun v s1 hq37=>?_)
 obtain ⟨x,H1,I1,r1,ty,q1⟩:=hq37
 obtain ⟨ad,xs,rfl,sq⟩:=ty
 cases r1
 obtain ⟨ob,e1,c1,d1⟩:=I1.noDict sq
 refine ⟨"tuple", id,pa,slot,hty,⟨ob,e1,c1⟩,fun a z=>by cases z; exact ⟨ob,e1,d1⟩,?_⟩
 have hA:=ha cpos pins s1 σ H1 _ I1 q1
 rw [hs] at hA ⊢
 refine Calls.callWith_builtin (by show (false || (backTo cpos (starEach es X.env)).any (·.1))=false; rw [hplain] <;> rfl) (Calls.evalArgs_plain ?_)
 exact thn hA fun us s2 ⟨vs,H2,I2,r2,q2⟩=>hm pins s2 σ H2 (.ref ad) vs (.ref ad) us Q I2 rfl r2 q2
theorem xe_idxT {apos cpos:Pos}(ho:XE X cl E o fa)(ha:XE X cl E e fb)(m:Mth X o e "index" apos cpos):XE X cl E (.Call (.Attribute o "index" apos) [e] [] cpos) (fM isTp idxD fa fb):=by
 obtain ⟨t,pt,rt⟩:=ho.ex
 obtain ⟨u,pu,ru⟩:=ha.ex
 refine XE'.out ⟨_,pe_bmT PySem.F.plainAttrs_tuple PySem.F.slot_tuple_index PySem.F.type_tuple_index mt_indexT pt (xM pu vY m.hs) m.base m.few m.line m.hs m.plain,fun H0 F0 ρ σ H F Q R o=>rt H0 F0 ρ σ H F _ R (OutE.fst o fun d v H1 F1 g1 q o1=>?_)⟩
 split at o1
 ·rename_i hd
  cases q with
  | tup sq dq =>
   rename_i ad xs ds
   refine ⟨⟨ad,xs,rfl,(R.grow g1).fh.seqT sq⟩,ru H0 F0 ρ σ H1 F1 _ (R.grow g1) (OutE.fst o1 fun d2 v2 H2 F2 g2 q2 o2=>?_)⟩
   obtain ⟨z,hz,k⟩:=o2.lf
   have fh:=(R.grow (g1.trans g2)).fh
   cases q2 with
   | str key ok2 =>
    dsimp only [idxD] at hz
    split at hz
    ·rename_i h
     obtain rfl:=Option.some.inj hz
     obtain ⟨e1,e2,e3⟩:=dq.texts h.1
     subst e1
     obtain ⟨a1,a2,a3,a4,a5⟩:=zcS h.2.2
     exact ⟨ad,_,_,_,_,rfl,rfl,fh.seqT (g2.ff.seqT sq),a1,a2,a3,a4,a5,k _ _ _ (Gr.refl fh) (.int _)⟩
    ·cases hz
   | _=>cases hz
  | _=>cases hd
 ·exact o1.elim
theorem xe_idxL {apos cpos:Pos}(ho:XE X cl E o fa)(ha:XE X cl E e fb)(m:Mth X o e "index" apos cpos):XE X cl E (.Call (.Attribute o "index" apos) [e] [] cpos) (fM isLs idxD fa fb):=by
 obtain ⟨t,pt,rt⟩:=ho.ex
 obtain ⟨u,pu,ru⟩:=ha.ex
 refine XE'.out ⟨_,pe_bm PySem.F.plainAttrs_list PySem.F.slot_list_index PySem.F.type_list_index zdc pt (xM pu vY m.hs) m.base m.few m.line m.hs m.plain,fun H0 F0 ρ σ H F Q R o=>rt H0 F0 ρ σ H F _ R (OutE.fst o fun d v H1 F1 g1 q o1=>?_)⟩
 split at o1
 ·rename_i hd
  cases q with
  | lst sq dq =>
   rename_i ad xs ds
   refine ⟨.inl ⟨rfl,xs,(R.grow g1).fh.seq sq⟩,ru H0 F0 ρ σ H1 F1 _ (R.grow g1) (OutE.fst o1 fun d2 v2 H2 F2 g2 q2 o2=>?_)⟩
   obtain ⟨z,hz,k⟩:=o2.lf
   have fh:=(R.grow (g1.trans g2)).fh
   cases q2 with
   | str key ok2 =>
    dsimp only [idxD] at hz
    split at hz
    ·rename_i h
     obtain rfl:=Option.some.inj hz
     obtain ⟨e1,e2,e3⟩:=dq.texts h.1
     subst e1
     obtain ⟨a1,a2,a3,a4,a5⟩:=zcS h.2.2
     have:=List.idxOf_lt_length_of_mem h.2.2
     rw [List.length_map] at this
     exact ⟨ad,_,_,_,_,rfl,rfl,fh.seq (g2.ff.seq sq),a1,a2,a3,a4,by omega,a5,k _ _ _ (Gr.refl fh) (.int _)⟩
    ·cases hz
   | _=>cases hz
  | _=>cases hd
 ·exact o1.elim
end
noncomputable def strD:List D→Option D
 | [.int i]=>if 0≤i∧i≤9 then some (.str [48 + i.toNat]) else none
 | _=>none
noncomputable def maxD:List D→Option D
 | [.int i,.int j]=>some (.int (if j > i then j else i))
 | _=>none
section
variable {K:PySem.W.Frag}{cl:Nat→Addr}
theorem n_str:Fn1 K cl (fun xs H Q=>∃i,xs=[.int i]∧i.natAbs.log2 < 1920∧Q (.str (toString i)) H) strD:=fun F H vs ds d Q s q e k=>by
 match ds,q,e with
 | [.int i],q,e =>
  obtain ⟨v,rfl,q1⟩:=q.one
  cases q1
  dsimp only [strD] at e
  split at e
  ·rename_i h
   obtain rfl:=Option.some.inj e
   obtain ⟨n,rfl⟩:=Int.eq_ofNat_of_zero_le h.1
   have key:∀n < 10,((toString ((n:Nat):Int):String):Str)=T [48 + n]∧((n:Nat):Int).natAbs.log2 < 1920:=by decide +kernel
   have hn:n < 10:=by omega
   refine ⟨_,rfl,(key n hn).2,?_⟩
   have:=k (.str (T [48 + n])) _ _ (Gr.refl s) (.str _ (vV (fun c hc=>by rw [List.mem_singleton.mp hc]; omega) (by show 1≤_; decide)))
   rw [(key n hn).1]
   exact this
  ·cases e
noncomputable def LI2 (f:Int→Int→Option D):List D→Option D
 | [.int i,.int j]=>f i j
 | _=>none
theorem LI2_inv {f:Int→Int→Option D}{ds:List D}{d:D}(e:LI2 f ds=some d):∃i j,ds=[.int i,.int j]∧f i j=some d:=by
 cases ds with
 | nil=>cases e
 | cons a t =>
  cases a with
  | int i =>
   cases t with
   | nil=>cases e
   | cons b t =>
    cases b with
    | int j =>
     cases t with
     | nil=>exact ⟨i,j,rfl,e⟩
     | cons _ _=>cases e
    | _=>cases e
  | _=>cases e
theorem n_max:Fn1 K cl (fun xs H Q=>∃i j,xs=[.int i,.int j]∧Q (.int (if j > i then j else i)) H) maxD:=fun F H vs ds d Q s q e k=>by
 obtain ⟨i,j,rfl,e1⟩:=LI2_inv (f:=fun i j=>some (.int (if j > i then j else i))) e
 obtain ⟨v,w,rfl,q1,q2⟩:=q.two
 obtain rfl:=q1.intE
 obtain rfl:=q2.intE
 obtain rfl:=Option.some.inj e1
 exact ⟨_,_,rfl,k _ _ _ (Gr.refl s) (.int _)⟩
end
end L2
namespace L2
open PySem PySem.Spec PyProof.Rows
section
variable {X:Cx}{cl:Nat→Addr}{E:XK}{a b e:Expr}{fa fb:Rho→Rs D}{pos:Pos}{st:Stmt}{g:Rho→Out}
end
end L2
namespace L2
open PySem PySem.Spec PyProof.Rows
section
variable {X:Cx}{cl:Nat→Addr}{E:XK}{a b e:Expr}{fa fb:Rho→Rs D}{pos:Pos}
theorem Dts.rep {K:PySem.W.Frag}{F:Hp}{vs:List V}{ds:List D}(q:Dts K cl F vs ds):∀n:Nat,Dts K cl F (List.replicate n vs).flatten (List.replicate n ds).flatten
 | 0=>.nil
 | n + 1=>by
  rw [List.replicate_succ,List.replicate_succ,List.flatten_cons,List.flatten_cons]
  exact q.append (Dts.rep q n)
theorem zbw (its:List Nat):∀(m:Nat) (acc:List Nat),List.foldl (fun x1 x2=>x1++x2) acc.toArray (List.replicate m its.toArray)=(acc++(List.replicate m its).flatten).toArray
 | 0,acc=>by simp
 | m + 1,acc=>by
  rw [List.replicate_succ,List.foldl_cons]
  have e:acc.toArray++its.toArray=(acc++its).toArray:=by simp
  rw [e,zbw its m,List.replicate_succ,List.flatten_cons,List.append_assoc]
noncomputable def rRepS:R2:=fun x y H Q=>∃c k,x=.str (T [c])∧y=.int k∧0≤k∧k≤1000∧Q (.str (T (List.replicate k.toNat c))) H
theorem op_repS:OpR X (binaryOp .Mult) rRepS:=by
 intro pins s σ H x y v u Q I rx ry h
 obtain ⟨c,k,rfl,rfl,k0,k1,q⟩:=h
 obtain ⟨t,rfl⟩:=rx
 obtain ⟨t',rfl⟩:=ry
 have hlen:(T [c]).length=1:=by rw [jq]; rfl
 refine P.mul_str ?_ (fun _ _=>?_) (fun _ _=>?_) ?_
 ·rw [decide_eq_false (by omega),decide_eq_false (by omega)]; rfl
 ·rw [hlen]
  rename_i h1 _
  have:(1:Int)≤(2 ^ 63 - 1) / k:=Int.le_ediv_of_mul_le (by omega) (by omega)
  show ¬((1:Nat):Int) > _
  omega
 ·rw [hlen,Nat.one_mul]
  show decide (k.toNat > sizeLine)=false
  rw [decide_eq_false]
  rw [sizeLine_eq]; omega
 ·have fin:∀z:Str,z=T (List.replicate k.toNat c)→(Made.str z).post (EP X pins σ Q) s:=fun z ez=>by
   subst ez
   exact ⟨by rw [jq,List.length_replicate,sizeLine_eq]; omega,.str (T (List.replicate k.toNat c)),H,I.tok _,⟨_,rfl⟩,q⟩
  by_cases h0:k < 1
  ·have:k=0:=by omega
   subst this
   rw [if_pos h0]
   exact fin _ (show Str.empty=T [] by decide +kernel)
  ·rw [if_neg h0]
   by_cases h1:k=1
   ·subst h1
    rw [if_pos (by rfl)]
    exact ⟨.str (T [c]),H,I,⟨_,rfl⟩,q⟩
   ·have e1:(k == 1 || (T [c]).length == 0)=false:=by
     rw [hlen,Bool.or_eq_false_iff]
     exact ⟨beq_eq_false_iff_ne.mpr h1,rfl⟩
    rw [e1,if_neg (by decide)]
    refine fin _ ?_
    have:=zbw [c] k.toNat []
    rw [List.nil_append] at this
    have e2:(List.replicate k.toNat [c]).flatten=List.replicate k.toNat c:=by
     generalize k.toNat=n
     induction n with
     | zero=>rfl
     | succ n ih=>rw [List.replicate_succ,List.flatten_cons,ih,List.replicate_succ]; rfl
    rw [e2] at this
    show (⟨List.foldl (fun x1 x2=>x1++x2) #[] (List.replicate k.toNat [c].toArray)⟩:Str)=⟨(List.replicate k.toNat c).toArray⟩
    rw [this]
noncomputable def repS:D→D→Option D
 | .str [c],.int k=>if 0≤k∧k≤1000 then some (.str (List.replicate k.toNat c)) else none
 | _,_=>none
theorem o_repS {K:PySem.W.Frag}:Op2 K cl rRepS repS:=fun F H x y a b d Q s qa qb e k=>by
 match a,b,qa,qb,e with
 | .str [c],.int n,qa,qb,e =>
  dsimp only [repS] at e
  split at e
  ·rename_i h
   obtain rfl:=Option.some.inj e
   cases qb
   cases qa with
   | str _ ok =>
    exact ⟨c,n,rfl,rfl,h.1,h.2,k _ _ _ (Gr.refl s) (.str _ (zdM ok (fun d hd=>by rw [(List.mem_replicate.mp hd).2]; exact .head _) (by rw [List.length_replicate]; omega)))⟩
  ·cases e
end
end L2
namespace L2
open PySem PySem.Spec PyProof.Rows
end L2
namespace L2
open PySem PySem.Spec PyProof.Rows
end L2
namespace L2
open PySem PySem.Spec PyProof.Rows
structure XEw (X:Cx)(cl:Nat→Addr)(E:XK)(e:Expr)(f:Rho→Rs D):Prop where
 out:XE X cl E e f
structure XAw (X:Cx)(cl:Nat→Addr)(E:XK)(es:List Expr)(f:Rho→Rs (List D)):Prop where
 out:XA X cl E es f
section
variable {X:Cx}{cl:Nat→Addr}{E:XK}{e:Expr}{es:List Expr}{f:Rho→Rs D}{fs:Rho→Rs (List D)}{pos:Pos}
theorem vA:XAw X cl E [] zA:=⟨zu⟩
theorem zM (h1:XEw X cl E e f)(h2:XAw X cl E es fs)(hs:starEach (e::es) X.env=(false,eval e X.env)::starEach es X.env):XAw X cl E (e::es) (zb f fs):=⟨zc h1.out h2.out hs⟩
theorem zbt (h:XAw X cl E es fs):XEw X cl E (.List es pos) (fO mkL fs):=⟨jy h.out⟩
theorem qP {x1}(h:XAw X cl E es fs):XEw X cl E (.Tuple es x1 pos) (fO mkT fs):=⟨zby h.out⟩
theorem uV {x:Str}{j}{l:List Nat}(h:x=T l)(ok:TxtOk (T l)):XEw X cl E (.Constant (.str x) j pos) (fC (.str l)):=⟨yO h ok⟩
theorem yw_ix {a b:Expr}{fa fb:Rho→Rs D}(ha:XEw X cl E a fa)(hb:XEw X cl E b fb)(hs:zb2 b):XEw X cl E (.Subscript a b pos) (f2 ixD fa fb):=⟨qK ha.out hb.out hs⟩
theorem yw_non {j}:XEw X cl E (.Constant .none j pos) (fC .non):=⟨xe_non⟩
theorem ux {i j}:XEw X cl E (.Constant (.int i) j pos) (fC (.int i)):=⟨zE⟩
end
structure XSb (X:Cx)(cl:Nat→Addr)(E:XK)(sts:List Stmt)(g:Rho→Out):Prop where
 out:XSs X cl E sts g
structure XSt (X:Cx)(cl:Nat→Addr)(E:XK)(st:Stmt)(g:Rho→Out):Prop where
 out:XS X cl E st g
structure XIw (X:Cx)(cl:Nat→Addr)(E:XK)(tg it:Expr)(f:Rho→Rs (List D)):Prop where
 out:XI X cl E tg it f
section
variable {X:Cx}{cl:Nat→Addr}{E:XK}{e tg iter:Expr}{st:Stmt}{rest body:List Stmt}{g h:Rho→Out}{f:Rho→Rs D}{fi:Rho→Rs (List D)}{pos:Pos}
theorem xss_consB (h1:XS X cl E st g)(h2:XSb X cl E rest h):XSs X cl E (st::rest) (zY g h):=zq h1 h2.out
theorem xsb_cons (h1:XSt X cl E st g)(h2:XSs X cl E rest h):XSb X cl E (st::rest) (zY g h):=⟨zq h1.out h2⟩
theorem xst_set {i:Nat}{x:Str}{pos':Pos}(hN:X.N.Nodup)(hi:X.N[i]? = some x)(hx:Loc X.env.scope x)(he:XEw X cl E e f)(hs:swapsWith e (some (.Name x pos')) pos.line X.env=pure false:=by rfl)(hf:X.fn x=true∨X.env.scope.names.lookup x=some .local:=by first | exact .inl rfl | exact .inr rfl | assumption) :
  XSt X cl E (.Assign [.Name x pos'] e pos) (yX i f):=⟨yh hN hi hx he.out hs hf⟩
theorem xst_nox (h:XSt X.nox cl E0 st g):XSt X cl E st (kE g):=⟨qM h.out⟩
theorem xst_for {i:Nat}(hp:PassesOwn (model X.prog X.w) X.A X.env X.xe)(hc:X.calm=true)(hi:XIw X cl E tg iter fi)(hg:PG X tg (uP i))(hb:XSs X cl E body g)(hs:∀x,foldedSetIterable iter X.env x=pure x:=by intro _; rfl):XSt X cl E (.For tg iter body [] pos) (qJ i fi g):=⟨jD hp hc hi.out hg hb hs⟩
theorem xiw_tup (h:XEw X cl E e f):XIw X cl E tg e (fI tpD f):=⟨zaD h.out⟩
end
end L2
namespace L2
open PySem PySem.Spec PyProof.Rows
section
variable {X:Cx}{e e':Expr}{p pos:Pos}
end
end L2
namespace L2
open PySem PySem.Spec PyProof.Rows
section
variable {X:Cx}{cl:Nat→Addr}{E:XK}{e:Expr}{f:Rho→Rs D}{p pos:Pos}{tg:Expr}
end
end L2
namespace L2
open PySem PySem.Spec PyProof.Rows
end L2
namespace L2
open PySem PySem.Spec PyProof.Rows
theorem list_mulW (l:Addr)(items:Array Value)(n:Nat)(dd:Option Addr)(sl:Array (Option Value))(x:Int)(u:Tok)(hc0:¬(!Builtin.List.listFitsIndex x)=true)(hc1:¬items.size * x.toNat > (2 ^ 63 - 1) / 8)(hc2:¬Builtin.List.listTooLong (items.size * x.toNat)=true) :
  Meets (Builtin.«list.__mul__» ⟨[.ref l,.int x u],[]⟩) (fun _ R s=>s.heap.get? l=some { cls:=.type "list", dict:=dd,data:=.seq items n,slots:=sl }∧R (.ok (.ret (Value.ref s.heap.objs.size))) { s with heap:=s.heap.push { cls:=Value.type "list", data:=Data.seq (List.foldl (fun x1 x2=>x1++x2) #[] (List.replicate (if items.isEmpty=true then 0 else x.toNat) items)) },toks:=s.toks }) :=
 .of_wp fun prog w A R s h=>by
  obtain ⟨hp,g,d,tk,os⟩:=s; obtain ⟨hl,h⟩:=h
  have hsz:=AutoListH.joined_fits hc2
  wp_walk; refine wpAny_ite_false (decide_eq_false (Nat.not_lt.mpr hsz)) ?_; wp_walk; exact ⟨_,rfl,h⟩
theorem int_rmulW (a:Int)(t:Tok)(l:Addr)(items:Array Value)(n:Nat)(dd:Option Addr)(sl:Array (Option Value)) :
  Meets (Builtin.«int.__rmul__» ⟨[.int a t,.ref l],[]⟩) (fun _ R s=>s.heap.get? l=some { cls:=.type "list", dict:=dd,data:=.seq items n,slots:=sl }∧R (.ok (.ret Value.notImplemented)) s) :=
 .of_wp fun prog w A R s h=>by obtain ⟨hp,g,d,tk,os⟩:=s; obtain ⟨hl,h⟩:=h; wp_walk; exact ⟨_,rfl,h⟩
noncomputable def rRepL (K:PySem.W.Frag):R2:=fun x y H Q=>∃l k xs,x=.ref l∧y=.int k∧SqL K H l xs∧-(2 ^ 63)≤k∧k < 2 ^ 63∧xs.length * k.toNat≤sizeLine ∧
 ∀p,H p=none→Q (.ref p) (upd H p (.lst (List.replicate k.toNat xs).flatten))
section
variable {X:Cx}{cl:Nat→Addr}{E:XK}{a b:Expr}{fa fb:Rho→Rs D}{pos:Pos}
theorem op_repL:OpR X (binaryOp .Mult) (rRepL X.K):=by
 intro pins s σ H x y v u Q I rx ry h
 obtain ⟨l,k,xs,rfl,rfl,hH,h1,h2,hz,q⟩:=h
 cases rx
 obtain ⟨t,rfl⟩:=ry
 obtain ⟨its,r,⟨o,n,e,hc,hdd,hd⟩,z⟩:=I.list hH
 obtain ⟨cls,dd,data,sl⟩:=o
 simp only at hc hd
 subst hc hd
 have hl:=r.length
 have hlen:its.toArray.size * k.toNat≤sizeLine:=by rw [List.size_toArray,← hl]; exact hz
 have hcap:¬its.toArray.size * k.toNat > (2 ^ 63 - 1) / 8:=by
  have:(sizeLine:Nat)≤(2 ^ 63 - 1) / 8:=by decide
  omega
 have hfit:¬(!Builtin.List.listFitsIndex k)=true:=by
  rw [fitsIndex_both h1 h2]
  exact Bool.false_ne_true
 have hlong:¬Builtin.List.listTooLong (its.toArray.size * k.toNat)=true:=by
  rw [notLongL hlen]
  exact Bool.false_ne_true
 have hnew:List.foldl (fun x1 x2=>x1++x2) #[] (List.replicate (if its.toArray.isEmpty=true then 0 else k.toNat) its.toArray)=(List.replicate k.toNat its).flatten.toArray:=by
  have f0:∀m:Nat,List.foldl (fun x1 x2=>x1++x2) #[] (List.replicate m its.toArray)=(List.replicate m its).flatten.toArray:=fun m=>by
   have:=foldl_rep its m []
   rw [List.nil_append] at this
   exact this
  rw [f0]
  cases its with
  | nil=>simp
  | cons a r'=>rw [if_neg (by simp)]
 refine wpAny_binaryOp_repeat_ref (T := "list") (U := "int") (by decide) ⟨_,e,rfl⟩ (fun s'=>typeIs_int s' k t) noFill_list_mul F.fills_int_mul F.slot_int_rmul repeat_list F.slot_int_index.lookup
  (call_meets F.slot_int_rmul (typeIs_int s k t) F.entry_int_rmul (F.args_int_rmul_2 _ _) (int_rmulW k t l its.toArray n dd sl)
   ⟨e,rfl,⟨_,e,rfl⟩,call_meets F.slot_list_mul ⟨_,e,rfl⟩ F.entry_list_mul (F.args_list_mul_2 _ _) (list_mulW l its.toArray n dd sl k t hfit hcap hlong) ⟨e,?_⟩⟩)
 rw [hnew]
 exact ⟨.ref _,_,I.lnew (t':=s.toks) (r.rep k.toNat) (by rw [len_rep,Nat.mul_comm]; exact hz),rfl,q _ I.fresh⟩
theorem repD_inv {a b:D}{z:List D}(e:repD a b=some z):∃l n,a=.lst l∧b=.int n∧0≤n∧n≤1000∧l.length≤1000∧z=(List.replicate n.toNat l).flatten:=by
 cases a with
 | lst l =>
  cases b with
  | int n =>
   by_cases h:0≤n∧n≤1000∧l.length≤1000
   ·exact ⟨l,n,rfl,rfl,h.1,h.2.1,h.2.2,(Option.some.inj ((if_pos h).symm.trans e)).symm⟩
   ·exact absurd ((if_neg h).symm.trans e) nofun
  | _=>cases e
 | _=>cases e
theorem xl_rep (ha:XE X cl E a fa)(hb:XE X cl E b fb):XL X cl E (.BinOp a .Mult b pos) (fL2 repD fa fb):=by
 obtain ⟨t,pt,rt⟩:=ha.ex
 obtain ⟨u,pu,ru⟩:=hb.ex
 refine ⟨_,pe_op op_repL pt pu,fun H0 F0 ρ σ H F Q R o=>rt H0 F0 ρ σ H F _ R (OutE.fstA o fun d v H1 F1 g q o1=>?_)⟩
 refine ru H0 F0 ρ σ H1 F1 _ (R.grow g) (OutE.fstA o1 fun d2 v2 H2 F2 g2 q2 o2=>?_)
 obtain ⟨z,hz,k⟩:=o2.lf
 have fh:=(R.grow (g.trans g2)).fh
 have q':=q.mono g2.ff
 obtain ⟨l,n,rfl,rfl,h0,hn,hl,rfl⟩:=repD_inv hz
 cases q' with
 | lst sq dq =>
  cases q2 with
  | int =>
   have e1:=dq.length
   have e2:n.toNat≤1000:=by omega
   exact ⟨_,_,_,rfl,rfl,fh.seq sq,by omega,by omega,sz6 (Nat.le_trans (Nat.mul_le_mul (e1 ▸ hl) e2) (by decide)),fun p hp=>k _ _ _ (Gr.refl fh) (dq.rep _) p hp⟩
end
end L2
namespace L2
open PySem PySem.Spec PyProof.Rows
noncomputable def PX (X:Cx)(e:Expr)(t:St→Hp→VK→XK→Prop):Prop:=∀(pins:List (Addr×Obj)) (s:Shared) (σ:St) (H:Hp) (Q:VK) (E:XK) (F':Value→Shared→Prop),Inv X pins σ H s →
 (∀H s e s',Inv X pins σ H s→zcH X.prog X.w X.stack H s E e s'→F' e s')→t σ H Q E→wpAny (model X.prog X.w) X.A (eval e X.env) (EP X pins σ Q) F' s
section
variable {X:Cx}{k:Nat}{f:Addr}{fd:FuncData}{ps:List Str}{sp:Sp}{x y n:Str}{p np cpos rpos hpos pos:Pos}{e c a b:Expr}{es:List Expr}{ta:TA}{tc:TT}{i:Nat}{b₀:Stmt}{suite:List Stmt}{th:TS}{more:List ExceptHandler}{tx ty:St→Hp→VK→XK→Prop}
theorem px_call (F:FnOk X.prog X.w X.K X.mg X.base (CX1 X.prog X.w) k f fd ps sp)(hr:Room k X.A)(hg:Gl X y)(hm:X.mg y=some (.ref f))(hk:PySem.W.keepIn X.K (.ref f)=true)(hb:Binds X.K fd ps [])(ha:PA X.nox (e::es) ta)
  (he:starEach (e::es) X.env=(false,eval e X.env)::starEach es X.env) (hdb:(y == ("__debug__" : Str))=false:=by decide) (hpl:(backTo cpos (starEach es X.env)).any (·.1)=false:=by rfl) :
  PX X (.Call (.Name y p) (e::es) [] cpos) (fun σ H Q E=>ta σ H fun vs H1=>sp vs H1 Q E):=by
 intro pins s σ H Q E F' I hx h
 refine wpAny_Call_Name_kw (jJ I hg hm ?_ hdb)
 refine PySem.W.callWith_K (h₀:=X.base) I.ok.mod.kin hk (wpAny_mono (ha cpos pins s σ H _ (I.wish _) h) (fun us s1 ⟨vs,H1,I1,r,q⟩=>⟨I1.unwish.kIn,?_⟩) fun _ _ z=>False.elim z) he hpl
 exact run_at F hr hb hx I1.unwish r q
end
noncomputable def cutA {α:Type}(f:Rho→Rs α):Rho→Rs α:=fun ρ=>match f ρ with | .ex _=>.no | r=>r
noncomputable def XX (X:Cx)(cl:Nat→Addr)(e:Expr)(f:Rho→Rs D):Prop:=PX X e (fun σ H Q E=>∃H0 F0 ρ F,Rl X.K cl H0 F0 ρ σ H F∧OutE X.K cl E H0 F H (f ρ) Q)
theorem PX.mono {X:Cx}{e:Expr}{t u:St→Hp→VK→XK→Prop}(h:PX X e t)(k:∀σ H Q E,u σ H Q E→t σ H Q E):PX X e u:=fun pins s σ H Q E F' I hx q=>h pins s σ H Q E F' I hx (k σ H Q E q)
section
variable {X:Cx}{cl:Nat→Addr}{x:Str}{p pos:Pos}{e c a b:Expr}{es:List Expr}
theorem xx_call {k:Nat}{f:Addr}{fd:FuncData}{ps:List Str}{fn:List D→Rs D}{n:Nat}{fs:Rho→Rs (List D)}(G:FnOk X.prog X.w X.K X.mg X.base (CX1 X.prog X.w) k f fd ps (spD X.K cl fn n))(hr:Room k X.A)(hg:Gl X x)(hm:X.mg x=some (.ref f))(hk:PySem.W.keepIn X.K (.ref f)=true)(hb:Binds X.K fd ps [])
  (ha:XA X.nox cl E0 (e::es) fs) (he:starEach (e::es) X.env=(false,eval e X.env)::starEach es X.env) (hdb:(x == ("__debug__" : Str))=false:=by decide) (hpl:(backTo pos (starEach es X.env)).any (·.1)=false:=by rfl):XX X cl (.Call (.Name x p) (e::es) [] pos) (fA (ari n fn) (cutA fs)):=by
 obtain ⟨t,pt,rt⟩:=ha.ex
 refine (px_call G hr hg hm hk hb pt he hdb hpl).mono fun σ H Q E ⟨H0,F0,ρ,F,R,o⟩=>rt H0 F0 ρ σ H F _ R ?_
 unfold fA cutA at o
 cases e:fs ρ with
 | ex n=>rw [e] at o; exact o.elim
 | no=>rw [e] at o; exact o.elim
 | ok ds =>
  rw [e] at o
  intro vs H1 F1 g q
  have o1:OutE X.K cl E H0 F H (ari n fn ds) Q:=o
  unfold ari at o1
  split at o1
  ·rename_i hl
   have R1:=R.grow g
   refine ⟨F1,ds,R1.fh,q,by rw [q.length,hl],?_⟩
   cases e:fn ds with
   | ok d=>rw [e] at o1; exact fun v H' F' g' q'=>o1 v H' F' (g.trans g') q'
   | ex n=>rw [e] at o1; exact fun H' s=>o1 H' (R1.gr.hh.trans s)
   | no=>rw [e] at o1; exact o1
  ·exact o1.elim
noncomputable def sTry (i:Nat)(cs:List Nat)(ef hf:Rho→Rs D):Rho→Out:=fun ρ=>if ρ.all (fun s=>!s.own)=true then (match ef ρ with
 | .ok d=>.rt d
 | .ex n=>if n∈cs then (match hf (ρ.set i (.fz (.exc n))) with | .ok d=>.rt d | _=>.no) else .no
 | .no=>.no) else .no
theorem own_free {ρ:Rho}(h:ρ.all (fun s=>!s.own)=true){i:Nat}{s:Sl}(e:ρ[i]? = some s):s.own=false:=by
 have:=List.all_eq_true.mp h s (List.mem_of_getElem? e)
 simpa using this
theorem Rl.base {K:PySem.W.Frag}{H0 F0 H F:Hp}{ρ:Rho}{σ:St}(R:Rl K cl H0 F0 ρ σ H F)(h:ρ.all (fun s=>!s.own)=true):Rl K cl H F ρ σ H F where
 gr:=Gr.refl R.fh
 len:=R.len
 fz:=R.fz
 ow:=fun i ds e=>by have:=own_free h e; cases this
 od:=fun i ds e=>by have:=own_free h e; cases this
 ap:=R.ap
theorem Gr.exc {F H H':Hp}{a:Addr}{o:HO}(h:Same F H)(s:Same H H')(ha:H' a=none):Gr F H (upd F a o) (upd H' a o):=by
 have hH:H a=none:=by
  cases z:H a with
  | none=>rfl
  | some q=>rw [s a q z] at ha; cases ha
 refine ⟨Same.upd (h.free hH),s.trans (Same.upd ha),upd_mono (h.trans s),fun b o hb m q=>?_⟩
 have hne:b≠a:=fun z=>by rw [z,hH] at hb; cases hb
 rw [zV hne]; exact q
noncomputable def SubsOk (P:Nat→Prop)(cs:List Nat):Prop:=∀n∈cs,P n
theorem subs_nil {P:Nat→Prop}:SubsOk P []:=fun _ h=>by cases h
theorem jH {P:Nat→Prop}{n:Nat}{r:List Nat}(h:P n)(t:SubsOk P r):SubsOk P (n::r):=fun m z=>by
 rcases List.mem_cons.mp z with z | z
 ·exact z ▸ h
 ·exact t m z
theorem fnDH {P:Program}{w:World}{K:PySem.W.Frag}{mg:Str→Option Value}{base:Heap}{x qual:Str}{st:Stmt}{f:Addr}{fd:FuncData}{N ps:List Str}{k m n:Nat}{g:Rho→Out}(Fu:Fun K x qual st f fd)(S:FnScope N ps (zm st))(hm:N.length=m)(hn:ps.length=n)
  (hb:∀(cdv:Value) (A:Around) (outer:List Env) (s:Shared) (H:Hp),Room k ((Around.calm0 A).deeper (envOfC qual (zm st) s.heap.objs.size f cdv))→XSs (cxOfH P w K mg base N qual (zm st) f cdv A outer s H) cl E0 (zH st) g):FnOkH P w K mg base (k + 1) f fd ps (spD K cl (yx m g) n):=by
 subst hm hn
 refine Fu.okH S (fun vs H Q E h=>h.choose_spec.choose_spec.2.2.1) fun cdv A outer s H vs Q hr h=>?_
 obtain ⟨F,ds,sm,dq,hl,o⟩:=h
 refine ⟨_,hb cdv A outer s H hr,H,F,_,F,Rl.start (N:=N) sm dq,?_⟩
 unfold yx at o
 cases e:g (ds.map .fz++List.replicate (N.length - ds.length) .no) with
 | nx ρ=>rw [e] at o; exact fun σ H' F' R _=>o .non H' F' R.gr .non
 | rt d=>rw [e] at o; exact fun v H' F' gg q=>o v H' F' gg q
 | bk ρ=>rw [e] at o; exact o.elim
 | ct ρ=>rw [e] at o; exact o.elim
 | ex n=>rw [e] at o; exact o
 | no=>rw [e] at o; exact o
theorem xe_callH {k:Nat}{f:Addr}{fd:FuncData}{ps:List Str}{fn:List D→Rs D}{n:Nat}{fs:Rho→Rs (List D)}(G:FnOkH X.prog X.w X.K X.mg X.base k f fd ps (spD X.K cl fn n))(hr:RoomH k X.A)(hg:Gl X x)(hm:X.mg x=some (.ref f))(hk:PySem.W.keepIn X.K (.ref f)=true)(hb:Binds X.K fd ps [])
  (ha:XA X cl E0 (e::es) fs) (he:starEach (e::es) X.env=(false,eval e X.env)::starEach es X.env) (hdb:(x == ("__debug__" : Str))=false:=by decide) (hpl:(backTo pos (starEach es X.env)).any (·.1)=false:=by rfl):XE X cl E0 (.Call (.Name x p) (e::es) [] pos) (fA (ari n fn) fs):=by
 obtain ⟨t,pt,rt⟩:=ha.ex
 refine XE'.out ⟨_,pe_callH G hr hg hm hk hb pt hdb he hpl,fun H0 F0 ρ σ H F Q R o=>rt H0 F0 ρ σ H F _ R (OutA.fst o fun ds vs H1 F1 g q o1=>?_)⟩
 unfold ari at o1
 split at o1
 ·rename_i hl
  rw [List.append_nil]
  have R1:=R.grow g
  refine ⟨F1,ds,R1.fh,q,by rw [q.length,hl],?_⟩
  cases e:fn ds with
  | ok d=>rw [e] at o1; exact o1
  | ex n=>rw [e] at o1; exact fun H' s=>o1 H' (R1.gr.hh.trans s)
  | no=>rw [e] at o1; exact o1
 ·exact o1.elim
noncomputable def excD (tab:List (Nat×Bool)):D→Option D
 | .exc n=>(tab.lookup n).map .bl
 | _=>none
noncomputable def TabOk (P:Nat→Bool→Prop)(tab:List (Nat×Bool)):Prop:=∀n b,(n,b)∈tab→P n b
theorem jd {P:Nat→Bool→Prop}:TabOk P []:=fun _ _ h=>by cases h
theorem zT {P:Nat→Bool→Prop}{n:Nat}{b:Bool}{r:List (Nat×Bool)}(h:P n b)(t:TabOk P r):TabOk P ((n,b)::r):=fun m c z=>by
 rcases List.mem_cons.mp z with z | z
 ·cases z; exact h
 ·exact t m c z
theorem lookup_mem {n:Nat}{b:Bool}:∀{tab:List (Nat×Bool)},tab.lookup n=some b→(n,b)∈tab
 | (m,c)::r,h=>by
  rw [List.lookup_cons] at h
  split at h
  ·rename_i e
   rw [beq_iff_eq] at e
   cases h
   rw [e]; exact .head _
  ·exact .tail _ (lookup_mem h)
theorem jc {E:XK}{fa:Rho→Rs D}{tab:List (Nat×Bool)}{v:V}(hk:TabOk (fun n b=>ExcK X.K (cl n)∧((∃C',v=.ref C'∧PySem.W.kitOne X.K (.ref (cl n)) (.ref C')=some b)∨(∃t,v=.ty t∧PySem.W.kitOne X.K (.ref (cl n)) (.type t)=some b))) tab)(hg:Gl X "isinstance")(hm:X.mg "isinstance" = none)(ha:XE X cl E e fa)(hb:PE X b (tC v))(h1:starEach [e,b] X.env=(false,eval e X.env)::starEach [b] X.env)(h2:starEach [b] X.env=(false,eval b X.env)::starEach [] X.env:=by rfl)(hpl:(backTo pos (starEach [b] X.env)).any (·.1)=false:=by rfl):XE X cl E (.Call (.Name "isinstance" p) [e,b] [] pos) (f1 (excD tab) fa):=by
 obtain ⟨t,pt,rt⟩:=ha.ex
 refine XE'.out ⟨_,zau zc1 hg hm boot_isinstance (xM pt (xM hb vY h2) h1) (by decide) (by decide) h1 hpl,fun H0 F0 ρ σ H F Q R o=>rt H0 F0 ρ σ H F _ R (OutE.fst o fun d u H1 F1 g1 q o1=>?_)⟩
 obtain ⟨z,hz,k⟩:=o1.lf
 have fh:=(R.grow g1).fh
 cases q with
 | exc hF =>
  rename_i ad nn
  dsimp only [excD] at hz
  cases hl:tab.lookup nn with
  | none=>rw [hl] at hz; cases hz
  | some bb =>
   rw [hl] at hz
   obtain rfl:=Option.some.inj hz
   obtain ⟨z1,z2⟩:=hk nn bb (lookup_mem hl)
   exact ⟨ad,cl nn,v,bb,rfl,fh _ _ hF,z1,z2,k _ _ _ (Gr.refl fh) (.bl _)⟩
 | _=>cases hz
noncomputable def isBl:D→Bool
 | .bl _=>true
 | _=>false
noncomputable def unBl:D→Bool
 | .bl b=>b
 | _=>false
theorem Dts.truths {K:PySem.W.Frag}{F:Hp}:∀{vs:List V}{ds:List D},Dts K cl F vs ds→ds.all isBl=true→vs=(ds.map unBl).map .bl
 | _,_,.nil,_=>rfl
 | _,_,.cons q r,h=>by
  rw [List.all_cons,Bool.and_eq_true] at h
  cases q with
  | bl b=>rw [Dts.truths r h.2]; rfl
  | _=>exact absurd h.1 (by simp [isBl])
noncomputable def cntBD:D→D→Option D
 | .lst ds,.bl k=>if ds.all isBl=true then some (.int ((ds.map unBl).count k:Nat)) else none
 | _,_=>none
noncomputable def idxBD:D→D→Option D
 | .lst ds,.bl k=>if ds.all isBl=true∧ds.length≤1000∧k∈ds.map unBl then some (.int ((ds.map unBl).idxOf k:Nat)) else none
 | _,_=>none
noncomputable def rCountV (K:PySem.W.Frag):V→List V→Hp→VK→Prop:=fun x vs H Q=>∃l xs y,x=.ref l∧vs=[y]∧SqL K H l xs∧ug y=true∧xs.all ug=true∧Q (.int ((xs.countP fun z=>eqV z y:Nat):Int)) H
theorem mt_countV:MtR X "list.count" (rCountV X.K):=by
 intro pins s σ H x vs v us Q I rx rv h
 obtain ⟨l,xs,y,rfl,rfl,hH,fy,fs,q⟩:=h
 cases rx
 obtain ⟨u,rfl,ru⟩:=rv.one
 obtain ⟨its,r,pl,hl⟩:=I.list hH
 obtain ⟨o,n,e,hc,hd,hs⟩:=id pl
 have eo:o={ cls:=.type "list", dict:=none,data:=.seq its.toArray n,slots:=o.slots }:=by
  obtain ⟨c,d,dt,sl⟩:=o
  dsimp only at hc hd hs
  subst hc hd hs
  rfl
 rw [eo] at e
 refine call_meets F.slot_list_count ⟨_,e,rfl⟩ F.entry_list_count (F.args_list_count_2 _ _) (SeqAt.list_countAt l its.toArray n none o.slots u (eqU y)) ⟨e,fun w hw=>ul ru fy r fs w (by simpa using hw),?_⟩
 have ec:((its.toArray.toList.countP (eqU y):Nat):Int)=((xs.countP fun z=>eqV z y:Nat):Int):=by
  rw [show its.toArray.toList=its from rfl,zcR r fs]
 rw [ec]
 exact ⟨.int _,H,I.tok _,⟨_,rfl⟩,q⟩
theorem flat_bls (L:List Bool):(L.map V.bl).all ug=true:=by
 rw [List.all_map]; exact List.all_eq_true.mpr fun _ _=>rfl
theorem count_bls (L:List Bool)(k:Bool):(L.map V.bl).countP (fun z=>eqV z (.bl k))=L.count k:=by
 rw [List.countP_map]; rfl
theorem xe_cntB {E:XK}{o:Expr}{fa fb:Rho→Rs D}{apos cpos:Pos}(ho:XE X cl E o fa)(ha:XE X cl E e fb)(m:Mth X o e "count" apos cpos):XE X cl E (.Call (.Attribute o "count" apos) [e] [] cpos) (fM isLs cntBD fa fb):=by
 obtain ⟨t,pt,rt⟩:=ho.ex
 obtain ⟨u,pu,ru⟩:=ha.ex
 refine XE'.out ⟨_,pe_bm PySem.F.plainAttrs_list PySem.F.slot_list_count PySem.F.type_list_count mt_countV pt (xM pu vY m.hs) m.base m.few m.line m.hs m.plain,fun H0 F0 ρ σ H F Q R o=>rt H0 F0 ρ σ H F _ R (OutE.fst o fun d v H1 F1 g1 q o1=>?_)⟩
 split at o1
 ·rename_i hd
  cases q with
  | lst sq dq =>
   rename_i ad xs ds
   refine ⟨.inl ⟨rfl,xs,(R.grow g1).fh.seq sq⟩,ru H0 F0 ρ σ H1 F1 _ (R.grow g1) (OutE.fst o1 fun d2 v2 H2 F2 g2 q2 o2=>?_)⟩
   obtain ⟨z,hz,k⟩:=o2.lf
   have fh:=(R.grow (g1.trans g2)).fh
   cases q2 with
   | bl key =>
    dsimp only [cntBD] at hz
    split at hz
    ·rename_i h
     obtain rfl:=Option.some.inj hz
     obtain rfl:=dq.truths h
     refine ⟨ad,_,_,rfl,rfl,fh.seq (g2.ff.seq sq),rfl,flat_bls _,?_⟩
     rw [count_bls]
     exact k _ _ _ (Gr.refl fh) (.int _)
    ·cases hz
   | _=>cases hz
  | _=>cases hd
 ·exact o1.elim
theorem xe_idxB {E:XK}{o:Expr}{fa fb:Rho→Rs D}{apos cpos:Pos}(ho:XE X cl E o fa)(ha:XE X cl E e fb)(m:Mth X o e "index" apos cpos):XE X cl E (.Call (.Attribute o "index" apos) [e] [] cpos) (fM isLs idxBD fa fb):=by
 obtain ⟨t,pt,rt⟩:=ho.ex
 obtain ⟨u,pu,ru⟩:=ha.ex
 refine XE'.out ⟨_,pe_bm PySem.F.plainAttrs_list PySem.F.slot_list_index PySem.F.type_list_index zdc pt (xM pu vY m.hs) m.base m.few m.line m.hs m.plain,fun H0 F0 ρ σ H F Q R o=>rt H0 F0 ρ σ H F _ R (OutE.fst o fun d v H1 F1 g1 q o1=>?_)⟩
 split at o1
 ·rename_i hd
  cases q with
  | lst sq dq =>
   rename_i ad xs ds
   refine ⟨.inl ⟨rfl,xs,(R.grow g1).fh.seq sq⟩,ru H0 F0 ρ σ H1 F1 _ (R.grow g1) (OutE.fst o1 fun d2 v2 H2 F2 g2 q2 o2=>?_)⟩
   obtain ⟨z,hz,k⟩:=o2.lf
   have fh:=(R.grow (g1.trans g2)).fh
   cases q2 with
   | bl key =>
    dsimp only [idxBD] at hz
    split at hz
    ·rename_i h
     obtain ⟨h1,h2,h3⟩:=h
     obtain rfl:=Option.some.inj hz
     obtain rfl:=dq.truths h1
     have hlt:=List.idxOf_lt_length_of_mem h3
     have hge:(ds.map unBl)[(ds.map unBl).idxOf key]=key:=List.getElem_idxOf hlt
     refine ⟨ad,_,_,(ds.map unBl).idxOf key,.bl key,rfl,rfl,fh.seq (g2.ff.seq sq),rfl,flat_bls _,?_,by show (key == key)=true; simp,by rw [List.length_map] at hlt; omega,fun mm w hmm hw=>?_,k _ _ _ (Gr.refl fh) (.int _)⟩
     ·rw [List.getElem?_map,List.getElem?_eq_getElem hlt,hge]; rfl
     ·have hml:mm < (ds.map unBl).length:=Nat.lt_trans hmm hlt
      rw [List.getElem?_map,List.getElem?_eq_getElem hml] at hw
      obtain rfl:=Option.some.inj hw
      have:=List.not_of_lt_findIdx (p:=fun z=>z == key) (xs:=ds.map unBl) hmm
      show ((ds.map unBl)[mm] == key)=false
      simpa using this
    ·cases hz
   | _=>cases hz
  | _=>cases hd
 ·exact o1.elim
end
end L2
namespace L2
open PySem PySem.Spec PyProof.Rows
theorem zbi {M:Model}{A:Around}{env:Env}{a b:Expr}{sp pos:Pos}{args:List Expr}{Q:Value→Shared→Prop}{E:Value→Shared→Prop}{s:Shared}
  (h:wpAny M A (eval (.Subscript a b sp) env) (fun f s₁=>wpAny M A (callWith pos f [] (backTo pos (starEach args env)) (backToKw pos (keywordEach [] env))) Q E s₁) E s) :
  wpAny M A (eval (.Call (.Subscript a b sp) args [] pos) env) Q E s:=by
 show wpAny M A (do callWith pos (← eval (.Subscript a b sp) env) [] (backTo pos (starEach args env)) (backToKw pos (keywordEach [] env))) Q E s
 exact wpAny_bind h
structure FnIn (X:Cx)(cl:Nat→Addr)(n:Nat)(fn:List D→Rs D)(f:Addr):Prop where
 ex:∃k fd ps,FnOk X.prog X.w X.K X.mg X.base (CX1 X.prog X.w) k f fd ps (spD X.K cl fn n)∧Room k X.A∧Binds X.K fd ps []
 kp:PySem.W.keepIn X.K (.ref f)=true
theorem fnIn {X:Cx}{cl:Nat→Addr}{n k:Nat}{fn:List D→Rs D}{f:Addr}{fd:FuncData}{ps:List Str}(G:FnOk X.prog X.w X.K X.mg X.base (CX1 X.prog X.w) k f fd ps (spD X.K cl fn n))(hr:Room k X.A)(hk:PySem.W.keepIn X.K (.ref f)=true)(hb:Binds X.K fd ps []):FnIn X cl n fn f:=⟨⟨k,fd,ps,G,hr,hb⟩,hk⟩
inductive FnsIn (X:Cx)(cl:Nat→Addr)(n:Nat):List Expr→List Addr→List (List D→Rs D)→Prop
 | nil:FnsIn X cl n [] [] []
 | cons {e:Expr}{f:Addr}{fn:List D→Rs D}{es:List Expr}{fs:List Addr}{fns:List (List D→Rs D)} (he:PE X.nox e (tC (.ref f))) (h:FnIn X cl n fn f) (r:FnsIn X cl n es fs fns) (hs:starEach (e::es) X.env=(false,eval e X.env)::starEach es X.env):FnsIn X cl n (e::es) (f::fs) (fn::fns)
section
variable {X:Cx}{cl:Nat→Addr}
theorem FnsIn.pa {n:Nat}{es:List Expr}{fs:List Addr}{fns:List (List D→Rs D)}(h:FnsIn X cl n es fs fns):PA X.nox es (fun σ H Q=>Q (fs.map V.ref) H):=by
 induction h with
 | nil=>exact vY
 | cons he h r hs ih=>exact fun pos pins s σ H Q I q=>xM he ih hs pos pins s σ H Q I q
theorem FnsIn.at {n:Nat}{es:List Expr}{fs:List Addr}{fns:List (List D→Rs D)}(h:FnsIn X cl n es fs fns):∀(i:Nat) (fn:List D→Rs D),fns[i]? = some fn→∃f,fs[i]? = some f∧FnIn X cl n fn f:=by
 induction h with
 | nil=>intro i fn e; simp at e
 | cons he h r hs ih =>
  intro i g e
  cases i with
  | zero=>simp at e; subst e; exact ⟨_,rfl,h⟩
  | succ i=>exact ih i g (by simpa using e)
noncomputable def fCL (n:Nat)(fns:List (List D→Rs D))(fi:Rho→Rs D)(fs:Rho→Rs (List D)):Rho→Rs D:=fun ρ=>match fi ρ with
 | .ok (.int i)=>if 0≤i∧fns.length≤1000 then (match fns[i.toNat]? with | some fn=>(match fs ρ with | .ok ds=>ari n fn ds | _=>.no) | none=>.no) else .no
 | _=>.no
theorem xx_callL {n:Nat}{les:List Expr}{lfs:List Addr}{fns:List (List D→Rs D)}{ix e:Expr}{es:List Expr}{fi:Rho→Rs D}{fs:Rho→Rs (List D)}{lpos spos pos:Pos}(L:FnsIn X cl n les lfs fns)(hi:XE X.nox cl E0 ix fi)(hs:zb2 ix)(ha:XA X.nox cl E0 (e::es) fs)
  (he:starEach (e::es) X.env=(false,eval e X.env)::starEach es X.env) (hpl:(backTo pos (starEach es X.env)).any (·.1)=false:=by rfl):XX X cl (.Call (.Subscript (.List les lpos) ix spos) (e::es) [] pos) (fCL n fns fi fs):=by
 obtain ⟨ti,pi,ri⟩:=hi.ex
 obtain ⟨ta,pa,ra⟩:=ha.ex
 intro pins s σ H Q E F' I hx ⟨H0,F0,ρ,F,R,o⟩
 unfold fCL at o
 have lenFs:lfs.length=fns.length:=by
  clear ri ra o hx R
  induction L with
  | nil=>rfl
  | cons he h r hs ih=>simp [ih]
 cases ei:fi ρ with
 | ex m=>rw [ei] at o; exact o.elim
 | no=>rw [ei] at o; exact o.elim
 | ok di =>
  rw [ei] at o
  cases di with
  | int i =>
   dsimp only at o
   split at o
   ·rename_i hi0
    obtain ⟨i0,i1⟩:=hi0
    cases ef:fns[i.toNat]? with
    | none=>rw [ef] at o; exact o.elim
    | some fn =>
     rw [ef] at o
     dsimp only at o
     cases ea:fs ρ with
     | ex m=>rw [ea] at o; exact o.elim
     | no=>rw [ea] at o; exact o.elim
     | ok ds =>
      rw [ea] at o
      dsimp only at o
      unfold ari at o
      split at o
      ·rename_i hl
       obtain ⟨f,hf,⟨k,fd,ps,G,hr,hb⟩,kp⟩:=L.at _ fn ef
       refine zbi (wpAny_mono (pe_ix ix_list (pe_lst L.pa) pi hs pins s σ H (fun v H'=>v=.ref f∧∃F',Rl X.K cl H0 F0 ρ σ H' F'∧Gr F H F' H') (I.wish _) ?_) (fun v s1 ⟨x,H1,I1,rx,q⟩=>?_) fun _ _ z=>False.elim z)
       ·refine ⟨by rw [List.length_map]; exact sz6 (by omega),fun p hp=>?_⟩
        have g:=Gr.newO (o:=.lst (lfs.map V.ref)) R.fh hp
        refine ri H0 F0 ρ σ _ F _ (R.grow g) ?_
        rw [ei]
        intro v H' F' g' q
        cases q with
        | int i' =>
         refine ⟨p,lfs.map V.ref,i,.ref f,rfl,rfl,.inl (.inl (g'.hh _ _ yd)),?_,rfl,F',(R.grow g).grow g',g.trans g'⟩
         have:((i.toNat:Nat):Int)=i:=by omega
         rw [← this]
         refine zds ?_
         rw [List.getElem?_map,hf]; rfl
       ·obtain ⟨rfl,F1,R1,g1⟩:=q
        cases rx
        refine PySem.W.callWith_K (h₀:=X.base) I.ok.mod.kin kp (wpAny_mono (pa pos pins s1 σ H1 (fun vs H2=>spD X.K cl fn n vs H2 Q E) I1 ?_) (fun us s2 ⟨vs,H2,I2,r,q⟩=>⟨I2.unwish.kIn,?_⟩) fun _ _ z=>False.elim z) he hpl
        ·refine ra H0 F0 ρ σ H1 F1 _ R1 ?_
         rw [ea]
         intro vs H2 F2 g2 q
         have R2:=R1.grow g2
         refine ⟨F2,ds,R2.fh,q,by rw [q.length,hl],?_⟩
         cases ez:fn ds with
         | ok d=>rw [ez] at o; exact fun v H' F' g' q'=>o v H' F' ((g1.trans g2).trans g') q'
         | ex m=>rw [ez] at o; exact fun H' z=>o H' (R2.gr.hh.trans z)
         | no=>rw [ez] at o; exact o
        ·exact run_at G hr hb hx I2.unwish r q
      ·exact o.elim
   ·exact o.elim
  | _=>exact o.elim
noncomputable def PXs (X:Cx)(sts:List Stmt)(t:St→Hp→VK→XK→Prop):Prop:=∀(pins:List (Addr×Obj)) (s:Shared) (σ:St) (H:Hp) (D:Ends) (E:XK) (F':Value→Shared→Prop),Inv X pins σ H s →
 (∀H s e s',Inv X pins σ H s→zcH X.prog X.w X.stack H s E e s'→F' e s')→t σ H D.rt E→wpAny (model X.prog X.w) X.A (execs sts X.env) (SP X pins { D with nx:=fun _ _=>False,bk:=fun _ _=>False,ct:=fun _ _=>False }) F' s
theorem pxs_ret {e:Expr}{rpos:Pos}{tx:St→Hp→VK→XK→Prop}(h:PX X e tx):PXs X [.Return (some e) rpos] tx:=by
 intro pins s σ H D E F' I hx q
 refine wpAny_execs_cons (wpAny_Return_some ?_)
 exact wpAny_mono (h pins s σ H D.rt E F' I hx q) (fun u s2 ⟨v,H2,I2,rv,q2⟩=>⟨v,σ,H2,I2,rv,q2⟩) fun _ _ z=>z
theorem pxs_if {c:Expr}{a rest:List Stmt}{ipos:Pos}{tc:TT}{tx ty:St→Hp→VK→XK→Prop}(hc:PT X.nox c tc)(ha:PXs X a tx)(hr:PXs X rest ty):PXs X (.If c a [] ipos::rest) (fun σ H Q E=>tc σ H fun d H1=>if d=true then tx σ H1 Q E else ty σ H1 Q E):=by
 intro pins s σ H D E F' I hx q
 refine wpAny_execs_cons (wpAny_If (wpAny_mono (hc pins s σ H _ (I.wish _) q) (fun d s1 ⟨H1,I1,q1⟩=>?_) fun _ _ z=>False.elim z))
 cases d with
 | true =>
  refine wpAny_mono (ha pins s1 σ H1 D E F' I1.unwish hx q1) (fun fl s2 z=>?_) fun _ _ z=>z
  cases fl with
  | next=>obtain ⟨_,_,_,z⟩:=z; exact z.elim
  | ret v=>exact z
  | brk=>exact z
  | cont=>exact z
 | false=>exact wpAny_execs_nil (hr pins s1 σ H1 D E F' I1.unwish hx q1)
noncomputable def XXs (X:Cx)(cl:Nat→Addr)(sts:List Stmt)(f:Rho→Rs D):Prop:=PXs X sts (fun σ H Q E=>∃H0 F0 ρ F,Rl X.K cl H0 F0 ρ σ H F∧OutE X.K cl E H0 F H (f ρ) Q)
theorem xxs_ret {e:Expr}{rpos:Pos}{f:Rho→Rs D}(h:XX X cl e f):XXs X cl [.Return (some e) rpos] f:=pxs_ret h
theorem PXs.mono {sts:List Stmt}{t u:St→Hp→VK→XK→Prop}(h:PXs X sts t)(k:∀σ H Q E,u σ H Q E→t σ H Q E):PXs X sts u:=fun pins s σ H D E F' I hx q=>h pins s σ H D E F' I hx (k σ H D.rt E q)
theorem xxs_if {c:Expr}{a rest:List Stmt}{ipos:Pos}{ft:Rho→Rs Bool}{fa fb:Rho→Rs D}(hc:XT X.nox cl E0 c ft)(ha:XXs X cl a fa)(hb:XXs X cl rest fb):XXs X cl (.If c a [] ipos::rest) (fIf (cutA ft) fa fb):=by
 obtain ⟨t,pt,rt⟩:=hc.ex
 refine (pxs_if pt ha hb).mono fun σ H Q E ⟨H0,F0,ρ,F,R,o⟩=>rt H0 F0 ρ σ H F _ R ?_
 unfold fIf cutA at o
 cases e:ft ρ with
 | ex n=>rw [e] at o; exact o.elim
 | no=>rw [e] at o; exact o.elim
 | ok d =>
  rw [e] at o
  intro H1 F1 g
  have o1:OutE X.K cl E H0 F H (if d=true then fa ρ else fb ρ) Q:=o
  have up:∀r:Rs D,OutE X.K cl E H0 F H r Q→OutE X.K cl E H0 F1 H1 r Q:=fun r z=>by
   cases r with
   | ok d=>exact fun v H' F' g' q'=>z v H' F' (g.trans g') q'
   | ex n=>exact z
   | no=>exact z
  split
  ·rename_i hd
   rw [if_pos hd] at o1
   exact ⟨H0,F0,ρ,F1,R.grow g,up _ o1⟩
  ·rename_i hd
   rw [if_neg hd] at o1
   exact ⟨H0,F0,ρ,F1,R.grow g,up _ o1⟩
theorem ps_tryXs {sts:List Stmt}{x n:Str}{np hpos pos:Pos}{i:Nat}{b₀:Stmt}{suite:List Stmt}{th:TS}{more:List ExceptHandler}{tx:St→Hp→VK→XK→Prop}(hx:PXs X sts tx)(O:Own X.K X.mg x)(hgx:Gl X x)(hN:X.N.Nodup)(hi:X.N[i]? = some n)(hlo:X.env.scope.names.lookup n=some .local)(hs:∀a,PSs (X.hand a) (b₀::suite) th)
  (hst:X.stack=X.env::X.outer) (hfr:X.env.frame=some X.env.locals) (hdx:(x == ("__debug__" : Str))=false:=by decide) :
  PS X (.Try sts (.ExceptHandler (some (.Name x np)) (some n) (b₀::suite) hpos::more) [] [] pos) (fun D σ H=>tx σ H D.rt (tCatch X.K O.C i th D σ)):=by
 intro pins s σ H D I h
 refine wpAny_Try_except (wpAny_mono (hx pins s σ H D _ _ I (fun H2 s2 e2 s3 I2 hf=>caught I2 hst hfr O hgx hN hi hlo hs hf hdx) h) (fun fl s2 z=>?_) fun _ _ z=>z)
 cases fl with
 | next=>obtain ⟨_,_,_,z⟩:=z; exact z.elim
 | ret v=>exact z
 | brk=>obtain ⟨_,_,_,z⟩:=z; exact z.elim
 | cont=>obtain ⟨_,_,_,z⟩:=z; exact z.elim
theorem xs_trys {E:XK}{sts:List Stmt}{n xc:Str}{np rp2 hpos pos:Pos}{i:Nat}{cs:List Nat}{ef hf:Rho→Rs D}{hd:Expr}(hx:XXs X cl sts ef)(O:Own X.K X.mg xc)(hgx:Gl X xc)(hN:X.N.Nodup)(hi:X.N[i]? = some n)(hlo:X.env.scope.names.lookup n=some .local)
  (hcs:SubsOk (fun n=>PySem.W.subIn X.K (.ref (cl n)) (.ref O.C)=some true) cs) (hh:∀a,XE (X.hand a) cl E0 hd hf) (hst:X.stack=X.env::X.outer) (hfr:X.env.frame=some X.env.locals) (hdx:(xc == ("__debug__" : Str))=false:=by decide) :
  XS X cl E (.Try sts [.ExceptHandler (some (.Name xc np)) (some n) [.Return (some hd) rp2] hpos] [] [] pos) (sTry i cs ef hf):=by
 refine XS'.out ⟨_,ps_tryXs hx O hgx hN hi hlo (fun a=>pss_one (ps_ret (te:=tDE X.K cl E0 hf) (hh a))) hst hfr hdx,fun H0 F0 ρ σ H F Dn R o=>?_⟩
 unfold sTry at o
 split at o
 ·rename_i hal
  refine ⟨H,F,ρ,F,R.base hal,?_⟩
  cases e:ef ρ with
  | ok d=>rw [e] at o; exact fun v H' F' g q=>o v H' F' (R.gr.trans g) q
  | no=>rw [e] at o; exact o
  | ex n =>
   rw [e] at o
   dsimp only at o
   split at o
   ·rename_i hn
    intro H' sH
    refine ⟨cl n,rfl,hcs n hn,fun a ha=>?_⟩
    have g:=Gr.exc (o:=excAt a (cl n)) R.fh sH ha
    refine ⟨H0,F0,_,_,(R.grow g).set (i:=i) (.exc yd),?_⟩
    cases e2:hf (ρ.set i (.fz (.exc n))) with
    | ok d=>rw [e2] at o; exact fun v H2 F2 g2 q2=>o v H2 F2 ((R.gr.trans g).trans g2) q2
    | ex m=>rw [e2] at o; exact o.elim
    | no=>rw [e2] at o; exact o.elim
   ·exact o.elim
 ·exact o.elim
end
end L2
namespace L2
open PySem PySem.Spec PyProof.Rows
open AutoSeq1 (wpAny_loadPart')
theorem zaT {prog:Program}{w:World}{A:Around}(hh:A.handled=none)(it l:Addr)(hne:l≠it)(items:Array Value) :
  Draws prog w A it [it,l] items.size (fun i v=>items[i]? = some v) (fun i h=>h.IsTupleIter it l i∧h.IsTuple l items) where
 live:=fun _ _ st=>let ⟨o,ho,_⟩:=st.1; ⟨o,ho⟩
 frame:=fun _ _ _ st hk=>⟨st.1.at fun o e=>hk it (by simp) o e,let ⟨o,e,r⟩:=st.2; ⟨o,hk l (by simp) o e,r⟩⟩
 item:=fun i s Q E hi st hQ=>by
  refine Zp.nextOf_tuple_item st.1 st.2 (x:=items[i]) (by simp [hi]) fun h' hit' hs'=>?_
  exact hQ _ h' s.toks (by simp [hi]) ⟨hit',let ⟨o,e,r⟩:=st.2; ⟨o,(hs'.2 l hne).trans e,r⟩⟩ hs'
 done:=fun s Q E st hE=>Zp.nextOf_tuple_end hh st.1 st.2 (by simp) hE
theorem kJ (l:Addr)(items:Array Value)(n:Nat)(dct:Option Addr)(sl:Array (Option Value)) :
  Meets (Builtin.«enumerate.__new__» ⟨[.type "enumerate", .ref l],[]⟩) (fun _ R s=>s.heap.get? l=some { cls:=.type "tuple", dict:=dct,data:=.seq items n,slots:=sl } ∧
   R (.ok (.ret (.ref (s.heap.push { cls:=.type "tuple_iterator", data:=.fields #[.ref l,.int 0 0] }).objs.size)))
    { s with heap:=(s.heap.push { cls:=.type "tuple_iterator", data:=.fields #[.ref l,.int 0 0] }).push { cls:=.type "enumerate", data:=.fields #[.none,.bool false,.ref s.heap.objs.size,rawInt 0,.none,.none] } }) :=
 .of_wp fun prog w A R s h=>by
  obtain ⟨hp,g,d,tk,os⟩:=s; obtain ⟨hl,h⟩:=h
  have hsub:=sub_enumerate
  have hL:Heap.IsTuple (Shared.heap ⟨hp,g,d,tk,os⟩) l items:=⟨_,hl,rfl,n,rfl⟩
  wp_walk using wpAny_loadPart' hl
  refine wpAny_stack_any fun st=>wpAny_pure ?_
  split
  ·rename_i c _ _ _ _ _
   cases (c == Value.type "enumerate")
   ·wp_walk using wpAny_loadPart' hl,wpAny_pyIter_tuple hL
    exact ⟨_,rfl,h⟩
   ·wp_walk using wpAny_loadPart' hl,wpAny_pyIter_tuple hL
    exact ⟨_,rfl,h⟩
  ·wp_walk using wpAny_loadPart' hl,wpAny_pyIter_tuple hL
   exact ⟨_,rfl,h⟩
theorem kO {prog:Program}{w:World}{A:Around}{E:Value→Shared→Prop}{s:Shared}{l:Addr}{items:Array Value}{Q:Value→Shared→Prop}(hL:s.heap.IsTuple l items)
  (h:∀h',IsEnum h' (s.heap.objs.size + 1) s.heap.objs.size 0 .none→h'.IsTupleIter s.heap.objs.size l 0→h'.objs.size=s.heap.objs.size + 2 →
   (∀b o,s.heap.get? b=some o→h'.get? b=some o)→Q (.ref (s.heap.objs.size + 1)) { s with heap:=h' }) :
  wpAny (model prog w) A (call (.type "enumerate") [.ref l]) Q E s:=by
 obtain ⟨⟨c,dct,dt,sl⟩,hl,hc,n,hd⟩:=hL
 replace hc:c=.type "tuple" := hc
 replace hd:dt=.seq items n:=hd
 subst hc hd
 refine callType_new PySem.F.called_enumerate (by decide) (PySem.F.typeCall_enumerate_1 _) (PySem.F.newCall_enumerate_1 _) (fun obj=>PySem.F.args_object_init_2 obj _) PySem.F.entry_enumerate_new
  (kJ l items n dct sl) ⟨hl,?_⟩
 have hz:(s.heap.push { cls:=.type "tuple_iterator", data:=.fields #[.ref l,.int 0 0] }).objs.size=s.heap.objs.size + 1:=Heap.size_push ..
 show _∧_
 rw [hz]
 have he:IsEnum ((s.heap.push { cls:=.type "tuple_iterator", data:=.fields #[.ref l,.int 0 0] }).push
   { cls:=.type "enumerate", data:=.fields #[.none,.bool false,.ref s.heap.objs.size,rawInt 0,.none,.none] }) (s.heap.objs.size + 1) s.heap.objs.size 0 .none:=by
  have:=Heap.get?_push_size (s.heap.push { cls:=.type "tuple_iterator", data:=.fields #[.ref l,.int 0 0] })
   (o:={ cls:=.type "enumerate", data:=.fields #[.none,.bool false,.ref s.heap.objs.size,rawInt 0,.none,.none] }) rfl
  rw [hz] at this; exact this
 refine ⟨⟨_,he,rfl⟩,h _ he ⟨_,Heap.get?_push_of_some _ (Heap.get?_push_size _ rfl),rfl,rfl⟩ (by rw [Heap.size_push,hz]) fun b o x=>Heap.get?_push_of_some _ (Heap.get?_push_of_some _ x)⟩
noncomputable def Ite (K:PySem.W.Frag)(l:Addr)(xs:List V):It :=
 ⟨fun i H=>SqT K H l xs∧i < xs.length,fun i H v H'=>∃p x,H p=none∧xs[i]? = some x∧v=.ref p∧H'=upd H p (.tup [.int (i:Int),x]),fun i H=>SqT K H l xs∧i=xs.length⟩
noncomputable def tnE (n l:Nat)(i:Nat)(h:Heap):Prop:=(∃old,IsEnum h (n + 1:Nat) n i old)∧h.IsTupleIter n l i
theorem turn_enum {P:Program}{w:World}{K:PySem.W.Frag}{elts:List Expr}{k:Nat}{pos:Pos}{n l:Nat}(h1:l < n)(xs:List V) :
  Turn P w K (.Tuple elts k pos) (Ite K l xs) [((n + 1:Nat):Addr),n] (n + 1:Nat) (tnE n l) where
 mem:=by simp
 obj:=fun i h ⟨⟨old,z1⟩,z2⟩ c hc=>by
  simp only [List.mem_cons,List.mem_nil_iff,or_false] at hc
  rcases hc with rfl | rfl
  ·exact ⟨_,z1,fun v z=>by cases z⟩
  ·obtain ⟨o,e,c,d⟩:=z2; exact ⟨o,e,fun v z=>by rw [d] at z; cases z⟩
 keep:=fun i h h' ⟨⟨old,z1⟩,z2⟩ kk=>⟨⟨old,kk _ (by simp) _ z1⟩,z2.at fun o e=>kk _ (by simp) o e⟩
 item:=by
  intro X hP hw hK hc i pins s σ H E I hf st hg
  subst hP hw hK
  obtain ⟨q1,hi⟩:=hg
  obtain ⟨its,rv,pl,_⟩:=I.tuple q1
  obtain ⟨u,hu,ru⟩:=rv.get (List.getElem?_eq_getElem hi)
  obtain ⟨⟨old,z1⟩,z2⟩:=st
  have p1:s.heap.IsTuple l its.toArray:=pl
  have n1:(l:Addr)≠(n:Addr):=zP (.inl h1)
  have nz:((n + 1:Nat):Addr)≠(n:Addr):=zP (by omega)
  have nl:((n + 1:Nat):Addr)≠(l:Addr):=zP (by omega)
  have hh:X.A.in1.handled=none:=by simp [I.ok.hd hc]
  have D:=zaT (prog:=X.prog) (w:=X.w) (A:=X.A.in1) hh (n:Addr) (l:Addr) n1 its.toArray
  have hlen:its.length=xs.length:=rv.length.symm
  refine wpAny_pyNext_enum_itemD D z1 ⟨z2,p1⟩ (by simp; omega) nz (by simp [nz,nl]) fun x h' tk hP ho hs' hT hsz hk=>?_
  have ex:x=u:=by
   have:its[i]? = some x:=by simpa using hP
   rw [hu] at this
   exact (Option.some.inj this).symm
  subst ex
  refine ⟨_,rfl,?_⟩
  refine wpAny_letOwnedTupleGo_enum (s:={ s with heap:=h',toks:=tk + 1 }) ho fun h2 zz sb=>?_
  have nfp:∀c:Addr,c=s.heap.objs.size→c∉([((n + 1:Nat):Addr),(n:Addr)]:List Addr):=fun c e hc'=>by
   obtain ⟨o,ho'⟩:∃o,s.heap.get? c=some o:=by
    simp only [List.mem_cons,List.mem_nil_iff,or_false] at hc'
    rcases hc' with rfl | rfl
    ·exact ⟨_,z1⟩
    ·obtain ⟨o,e,_⟩:=z2; exact ⟨o,e⟩
   rw [e] at ho'
   exact absurd (Heap.lt_size ho') (Nat.lt_irrefl _)
  have szz:s.heap.objs.size≠((n + 1:Nat):Addr):=fun e=>nfp _ rfl (by rw [e]; simp)
  have I1:Inv X pins σ H { s with heap:=h2,toks:=tk + 1 }:=I.turnedL (fp:=[((n + 1:Nat):Addr),(n:Addr)]) (fun c o hc' e=>by
   have hc2:c≠((n + 1:Nat):Addr)∧c≠(n:Addr):=by simpa using hc'
   exact sb.extBut _ _ hc2.1 (hk c o hc2.1 hc2.2 e)) hf
  have hfree:H s.heap.objs.size=none:=I.hok.fresh (Nat.le_refl _)
  have hpair:h2.get? s.heap.objs.size=some { cls:=.type "tuple", data:=.seq #[.int i tk,x] }:=sb.extBut _ _ szz hT
  have I2:Inv X pins σ (upd H s.heap.objs.size (.tup [.int (i:Int),xs[i]])) { s with heap:=h2,toks:=tk + 1 }:=I1.track hfree (.inr I.sz) (Nat.ne_of_gt I.lt) (fun x c e=>by
    obtain ⟨v,o,ho,_⟩:=I.cell x c e
    exact Nat.ne_of_lt (Heap.lt_size ho)) (fun p hp=>Nat.ne_of_lt (Heap.lt_size (I.pin p hp).1))
   ⟨by show 2≤sizeLine; decide,[.int i tk,x],.cons ⟨_,rfl⟩ (.cons ru .nil),_,hpair,rfl,⟨_,rfl⟩,rfl⟩
  refine ⟨.ref s.heap.objs.size,_,I2,rfl,⟨_,_,hfree,List.getElem?_eq_getElem hi,rfl,rfl⟩,⟨⟨x,by simpa using zz⟩,?_⟩,fun b hb=>?_⟩
  ·obtain ⟨⟨p1,q1,w1⟩,_⟩:=hs'; exact ⟨p1,sb.extBut _ _ nz.symm q1,w1⟩
  ·rw [zV (fun e=>nfp b e hb)]
   exact (hf b hb).1
 done:=by
  intro X hP hw hK hc i pins s σ H E I hf st hg
  subst hP hw hK
  obtain ⟨q1,rfl⟩:=hg
  obtain ⟨its,rv,pl,_⟩:=I.tuple q1
  obtain ⟨⟨old,z1⟩,z2⟩:=st
  have p1:s.heap.IsTuple l its.toArray:=pl
  have n1:(l:Addr)≠(n:Addr):=zP (.inl h1)
  have hh:X.A.in1.handled=none:=by simp [I.ok.hd hc]
  have D:=zaT (prog:=X.prog) (w:=X.w) (A:=X.A.in1) hh (n:Addr) (l:Addr) n1 its.toArray
  have hlen:its.toArray.size=xs.length:=by simp [rv.length]
  refine wpAny_pyNext_enum_endD D z1 (by rw [hlen]; exact ⟨z2,p1⟩) fun h' eb=>⟨rfl,I.turnedL (fp:=[((n + 1:Nat):Addr),(n:Addr)]) (fun c o hc' e=>?_) hf⟩
  have hc2:c≠((n + 1:Nat):Addr)∧c≠(n:Addr):=by simpa using hc'
  exact eb c o hc2.2 e
 self:=fun A i s Q E ⟨⟨old,z1⟩,z2⟩ h=>wpAny_pyIter_enum z1 h
noncomputable def iEnum (K:PySem.W.Frag)(ta:TE):TI:=fun σ H R=>zal ta tNil σ H fun vs H1=>∃l xs,vs=[.ref l]∧SqT K H1 l xs∧R (Ite K l xs) H1
theorem boot_enumerate:bootBuiltins "enumerate" = some (.type "enumerate"):=PyProof.Rows.Boot.«enumerate»
section
variable {X:Cx}
theorem pi_enum {elts:List Expr}{k:Nat}{tpos:Pos}{a:Expr}{ta:TE}{p pos:Pos}(hg:Gl X "enumerate")(hm:X.mg "enumerate" = none)(ha:PE X a ta)
  (hs:starEach [a] X.env=(false,eval a X.env)::starEach [] X.env):PI X (.Tuple elts k tpos) (.Call (.Name "enumerate" p) [a] [] pos) (iEnum X.K ta):=by
 intro pins s σ H R I h
 have hA:PA X [a] (zal ta tNil):=xM ha vY hs
 refine wpAny_Call_Name_kw (ju I hg hm boot_enumerate ?_)
 refine PyProof.Rows.callWith_type1 (thn (hA pos pins s σ H _ I h) fun us s1 ⟨vs,H2,I2,r2,l,xs,ev,q1,q⟩=>?_) hs rfl
 subst ev
 obtain ⟨u1,rfl,ru1⟩:=r2.one
 cases ru1
 obtain ⟨its,rv,pl,_⟩:=I2.tuple q1
 have p1:s1.heap.IsTuple l its.toArray:=pl
 have lt1:l < s1.heap.objs.size:=by obtain ⟨o,e,_⟩:=p1; exact Heap.lt_size e
 refine kO p1 fun h1 m1 m2 m3 m4=>?_
 have T:=turn_enum (P:=X.prog) (w:=X.w) (K:=X.K) (elts:=elts) (k:=k) (pos:=tpos) lt1 xs
 have st:tnE s1.heap.objs.size l 0 h1:=⟨⟨_,m1⟩,m2⟩
 refine T.self X.A 0 _ _ _ st ?_
 have I3:Inv X pins σ H2 { s1 with heap:=h1 }:=I2.kept (t':=s1.toks) m4
 refine ⟨_,_,_,Ite X.K l xs,H2,rfl,I3,T,st,fun c hc=>?_,q⟩
 have hge:s1.heap.objs.size≤c:=by
  simp only [List.mem_cons,List.mem_nil_iff,or_false] at hc
  rcases hc with rfl | rfl
  ·exact Nat.le_add_right _ _
  ·exact Nat.le_refl _
 obtain ⟨f0,f1,f2,f3,f4,f5⟩:=I2.fpOk hge (I2.hok.fresh hge)
 exact ⟨f0,f1,f2,f3,f4,f5⟩
theorem for_enum {K:PySem.W.Frag}{l:Addr}{xs:List V}{g:TG}{tb:TS}{D:Ends}{σ:St}{H:Hp}(Pv:Nat→St→Hp→Prop)(h0:Pv 0 σ H)(hG:∀i σ H,Pv i σ H→SqT K H l xs)
  (hs:∀i x p σ H,xs[i]? = some x→H p=none→Pv i σ H→g (.ref p) σ (upd H p (.tup [.int (i:Int),x])) fun σ2 H2=>tb { D with nx:=Pv (i + 1),ct:=Pv (i + 1),bk:=D.nx } σ2 H2) (hd:∀σ H,Pv xs.length σ H→D.nx σ H) :
  ∃ W:Nat→Nat→St→Hp→Prop,(∃m,W 0 m σ H)∧∀i m σ H,W i m σ H →
   ((Ite K l xs).stop i H∧D.nx σ H)∨((Ite K l xs).go i H∧∃N:St→Hp→Prop,(∀σ' H',N σ' H'→∃m',m' < m∧W (i + 1) m' σ' H')∧∀x H',(Ite K l xs).yld i H x H'→g x σ H' fun σ2 H2=>tb { D with nx:=N,ct:=N,bk:=D.nx } σ2 H2):=by
 refine ⟨fun i m σ H=>m=xs.length - i∧i≤xs.length∧Pv i σ H,⟨_,rfl,Nat.zero_le _,h0⟩,?_⟩
 rintro i m σ H ⟨rfl,hi,p⟩
 have q1:=hG i σ H p
 by_cases hlt:i < xs.length
 ·refine .inr ⟨⟨q1,hlt⟩,Pv (i + 1),fun σ' H' p'=>⟨xs.length - (i + 1),by omega,rfl,hlt,p'⟩,?_⟩
  rintro v H' ⟨a,x,e0,e1,rfl,rfl⟩
  exact hs i x a σ H e1 e0 p
 ·have e:i=xs.length:=by omega
  subst e
  exact .inl ⟨⟨q1,rfl⟩,hd σ H p⟩
end
noncomputable def forE (i j:Nat)(g:Rho→Out):Nat→List D→Rho→Out
 | _,[],ρ=>.nx ρ
 | n,d::ds,ρ=>match g ((ρ.set i (.fz (.int (n:Int)))).set j (.fz d)) with | .nx ρ'=>forE i j g (n + 1) ds ρ' | .ct ρ'=>forE i j g (n + 1) ds ρ' | .bk ρ'=>.nx ρ' | o=>o
noncomputable def sForE (i j:Nat)(fa:Rho→Rs D)(g:Rho→Out):Rho→Out:=fun ρ=>match fa ρ with
 | .ok (.tup ds)=>forE i j g 0 ds ρ
 | _=>.no
section
variable {X:Cx}{cl:Nat→Addr}{E:XK}{a:Expr}{fa:Rho→Rs D}{g:Rho→Out}{p pos zpos tp px py:Pos}{x y:Str}{k:Nat}{body:List Stmt}
theorem xs_forE {i j:Nat}(hp:PassesOwn (model X.prog X.w) X.A X.env X.xe)(hc:X.calm=true)(hz:Gl X "enumerate")(hm:X.mg "enumerate" = none)(ha:XE X cl E a fa)(hg:PG X (.Tuple [.Name x px,.Name y py] k tp) (gTup X.K 2 (jL (uP i) (jL (uP j) gNil))))(hbd:XSs X cl E body g)(hs:starEach [a] X.env=(false,eval a X.env)::starEach [] X.env):XS X cl E (.For (.Tuple [.Name x px,.Name y py] k tp) (.Call (.Name "enumerate" p) [a] [] zpos) body [] pos) (sForE i j fa g):=by
 obtain ⟨t,pt,rt⟩:=ha.ex
 obtain ⟨w,pw,rw'⟩:=hbd.ex
 refine XS'.out ⟨_,ps_for hp hc (pi_enum hz hm pt hs) hg pw,fun H0 F0 ρ σ H F Dn R o=>rt H0 F0 ρ σ H F _ R ?_⟩
 obtain ⟨ds,e1,o'⟩:∃ds,fa ρ=.ok (.tup ds)∧OutS X.K cl E H0 F0 F (forE i j g 0 ds ρ) Dn:=by
  unfold sForE at o
  split at o
  ·rename_i ds e1; exact ⟨ds,e1,o⟩
  ·exact o.elim
 rw [e1]
 intro v1 H1 F1 g1 q1
 have R1:=R.grow g1
 cases q1 with
 | tup sq1 dq1 =>
  refine ⟨_,_,rfl,R1.fh.seqT sq1,?_⟩
  refine for_enum (fun m σ' H'=>∃ρ' F',Rl X.K cl H0 F0 ρ' σ' H' F'∧Same F1 F'∧OutS X.K cl E H0 F0 F' (forE i j g m (ds.drop m) ρ') Dn) ⟨ρ,F1,R1,Same.refl _,o'.grow g1.ff⟩ (fun m σ' H' ⟨ρ',F',R',s',_⟩=>(s'.trans R'.fh).seqT sq1) ?_ ?_
  ·rintro m z pp σ' H' hx hpp ⟨ρ',F',R',s',o3⟩
   obtain ⟨c1,hd1,qd1⟩:=dq1.get hx
   have r1:ds.drop m=c1::ds.drop (m + 1):=by
    obtain ⟨hk,e3⟩:=List.getElem?_eq_some_iff.mp hd1
    rw [List.drop_eq_getElem_cons hk,e3]
   rw [r1] at o3
   unfold forE at o3
   have R4:=R'.grow (Gr.newO (o:=.tup [.int (m:Int),z]) R'.fh hpp)
   refine ⟨pp,[.int (m:Int),z],rfl,.inl (.inl yd),rfl,.int (m:Int),_,rfl,z,_,rfl,rfl,rw' H0 F0 _ _ _ F' _ ((R4.set (.int _)).set (qd1.mono s')) ?_⟩
   cases e4:g ((ρ'.set i (.fz (.int (m:Int)))).set j (.fz c1)) with
   | nx ρ2=>simp only [e4] at o3; exact fun σ2 H2 F2 R2 s2=>⟨ρ2,F2,R2,s'.trans s2,o3.grow s2⟩
   | ct ρ2=>simp only [e4] at o3; exact fun σ2 H2 F2 R2 s2=>⟨ρ2,F2,R2,s'.trans s2,o3.grow s2⟩
   | bk ρ2=>simp only [e4] at o3; exact o3
   | rt d=>simp only [e4] at o3; exact o3
   | ex n=>simp only [e4] at o3; exact o3
   | no=>simp only [e4] at o3; exact o3
  ·rintro σ' H' ⟨ρ',F',R',s',o3⟩
   rw [dq1.length,List.drop_of_length_le (Nat.le_refl ds.length)] at o3
   unfold forE at o3
   exact o3 σ' H' F' R' (Same.refl _)
end
end L2
namespace L2
open PySem PySem.Spec PyProof.Rows
noncomputable def intD:List D→Option D
 | [.bl b]=>some (.int (if b then 1 else 0))
 | _=>none
theorem call_intB {X:Cx}:qL X (.type "int") (fun xs H Q=>∃b,xs=[.bl b]∧Q (.int (if b then 1 else 0)) H):=by
 intro pins s σ H xs us Q I r h
 obtain ⟨b,rfl,q⟩:=h
 obtain ⟨u,rfl,r1⟩:=vals1 r
 obtain rfl:u=.bool b:=r1
 exact call_int_bool ⟨.int _,H,I.tok _,⟨_,rfl⟩,q⟩
theorem n_int {K:PySem.W.Frag}{cl:Nat→Addr}:Fn1 K cl (fun xs H Q=>∃b,xs=[.bl b]∧Q (.int (if b then 1 else 0)) H) intD:=fun F H vs ds d Q s q e k=>by
 match ds,q,e with
 | [.bl b],q,e =>
  obtain ⟨v,rfl,q1⟩:=q.one
  cases q1
  obtain rfl:=Option.some.inj e
  exact ⟨b,rfl,k _ _ _ (Gr.refl s) (.int _)⟩
theorem xsb_consB {X:Cx}{cl:Nat→Addr}{E:XK}{st:Stmt}{rest:List Stmt}{g h:Rho→Out}(h1:XSt X cl E st g)(h2:XSb X cl E rest h):XSb X cl E (st::rest) (zY g h):=⟨zq h1.out h2.out⟩
end L2
namespace L2
open PySem PySem.Spec PyProof.Rows
open AutoSeq1 (wpAny_loadPart')
end L2
namespace L2
open PySem PySem.Spec PyProof.Rows
end L2
namespace L2
open PySem PySem.Spec PyProof.Rows
end L2
set_option maxHeartbeats 4000000
namespace Pg
open PySem L2 PyProof.Rows
noncomputable def vW:Rho→Out :=
  (zY (sIf (bT (f2 (eqD false) (fNm 0) (fO mkL zA)))
  (yU (f2 mulI (fC (.int 7)) (fNm 1)))
  sNx)
  (yU (f2 uY (f2 ixD (fNm 0) (f2 modI (fNm 1) (fO uH (zb (fNm 0) zA)))) (f2 mulI (fC (.int 6553)) (f2 zbK (fNm 1) (fO uH (zb (fNm 0) zA)))))))
noncomputable def uE:List D→Rs D:=yx 2 vW
noncomputable def vC:Rho→Out :=
  (zY (yX 3 (f2 modI (f2 uY (f2 mulI (f2 modI (fA (ari 2 uE) (zb (fNm 0) (zb (fNm 1) zA))) (fC (.int 2147483563))) (fC (.int 69069))) (f2 mulI (fC (.int 104723)) (f2 uY (fNm 1) (fC (.int 1))))) (fC (.int 2147483563))))
  (zY (yX 3 (f2 modI (f2 uY (f2 mulI (fNm 3) (fNm 3)) (f2 zbK (fNm 3) (fC (.int 3)))) (fC (.int 2147483399))))
  (yU (f2 modI (f2 zbK (f2 modI (f2 uY (f2 mulI (fNm 3) (fNm 3)) (f2 zbK (fNm 3) (fC (.int 7)))) (fC (.int 2147483647))) (fC (.int 11))) (fNm 2)))))
noncomputable def zJ:List D→Rs D:=yx 4 vC
noncomputable def v5:Rho→Out :=
  (zY (vI 4 (fCp (fR zcY (zb (fNm 2) zA)) xg (f2 ixD (fC (.str [97,98,99,100])) (fNm 0)) []))
  (zY (kE (qJ 5 (fR zcY (zb (fNm 3) zA))
  (zY (zci 4 6 (fFl 4 (fA (ari 3 zJ) (zb (fNm 0) (zb (f2 uY (fNm 1) (fNm 5)) (zb (fO uH (zb (fNm 4) zA)) zA))))))
  (za7 4 (vI 4 (fL sortD (zb (fLs (fL2 catD (fNm 4) (yP (fR zcY (zb (fNm 2) zA)) xg (f2 kW (fNm 1) (f2 ixD (fC (.str [97,98,99,100])) (fNm 0))) [6]))) zA)))))))
  (za7 4 (yU (fO tupD (zb (fNm 4) zA))))))
noncomputable def qR:List D→Rs D:=yx 7 v5
noncomputable def v7:Rho→Out :=
  (zY (yX 4 (fA (ari 3 zJ) (zb (fNm 0) (zb (fNm 1) (zb (f2 uY (fNm 3) (fC (.int 1))) zA)))))
  (yU (fM isS jf (fC (.str [])) (yP (fR zcY (zb (fNm 4) zA)) xg (f2 ixD (fC (.str [97,98,99,100])) (fA (ari 3 zJ) (zb (fNm 1) (zb (f2 uY (f2 uY (fNm 3) (fC (.int 1))) (fNm 0)) (zb (fNm 2) zA))))) [0,2,1]))))
noncomputable def uG:List D→Rs D:=yx 5 v7
noncomputable def qe:Rho→Out :=
  (yU (fO allD (zb (fLs (fCz (fNm 0) (fSl (fNm 0) (yS (fC (.int 1))) wz) xg (f2 ltS (fNm 0) (fNm 1)) [])) zA)))
noncomputable def uF:List D→Rs D:=yx 1 qe
noncomputable def jW:Rho→Out :=
  (yU (zaU (f1 (zbh isInt) (fNm 0)) (zdz (f1 (zbh isBool) (fNm 0)))))
noncomputable def je:List D→Rs D:=yx 1 jW
noncomputable def um:Rho→Out :=
  (yU (zaU (fA (ari 1 je) (zb (fNm 0) zA)) (fCh leI leI (fNm 1) (fNm 0) (fNm 2))))
noncomputable def vJ:List D→Rs D:=yx 3 um
noncomputable def yG:Rho→Out :=
  (yU (fA (ari 3 vJ) (zb (fNm 0) (zb (fC (.int 2)) (zb (fO uH (zb (fC (.str [97,98,99,100])) zA)) zA)))))
noncomputable def ye:List D→Rs D:=yx 1 yG
noncomputable def uw:Rho→Out :=
  (zY (yX 2 (fSl (fC (.str [97,98,99,100])) wz (yS (fNm 0))))
  (yU (zaU (f1 (zbh isStr) (fNm 1)) (fO allD (zb (yP (fI sgD (fNm 1)) xg (f2 (inC false) (fNm 0) (fNm 1)) [2]) zA)))))
noncomputable def xq:List D→Rs D:=yx 3 uw
noncomputable def uq:Rho→Out :=
  (zY (sIf (bOr (zap (bT (fA (ari 1 ye) (zb (fNm 0) zA)))) (zap (bT (f1 (zbh isTup) (fNm 1)))))
  (yU (fC (.bl false)))
  sNx)
  (zY (sIf (zap (bT (fCh leI leI (fC (.int 1)) (fO uH (zb (fNm 1) zA)) (fC (.int 32)))))
  (yU (fC (.bl false)))
  sNx)
  (zY (sIf (zap (bT (fO allD (zb (yP (fI tpD (fNm 1)) xg (zaU (fA (ari 2 xq) (zb (fNm 1) (zb (fNm 0) zA))) (f2 (eqD true) (fNm 0) (fC (.str [])))) [0]) zA))))
  (yU (fC (.bl false)))
  sNx)
  (yU (fA (ari 1 uF) (zb (fNm 1) zA))))))
noncomputable def xj:List D→Rs D:=yx 2 uq
noncomputable def wg:Rho→Out :=
  (zY (kE (qG 1 2 (fNm 0) (fSl (fNm 0) (yS (fC (.int 1))) wz)
  (sIf (bT (fM isS yH (fNm 2) (fNm 1)))
  (yU (fO mkT (zb (fNm 1) (zb (fNm 2) zA))))
  sNx)))
  (yU (fC .non)))
noncomputable def xK:List D→Rs D:=yx 3 wg
noncomputable def qN:Rho→Out :=
  (zY (vI 2 (fL szL zA))
  (zY (kE (qJ 3 (fI lsD (fNm 1))
  (qJ 4 (fI sgD (fSl (fC (.str [97,98,99,100])) wz (yS (fNm 0))))
  (zao 2 (f2 kW (fNm 3) (fNm 4))))))
  (za7 2 (yU (fNm 2)))))
noncomputable def xR:List D→Rs D:=yx 5 qN
noncomputable def kI:Rho→Out :=
  (yU (zdz (fO anyD (zb (yP (fI tpD (fNm 0)) xg (fOr (fM isS yH (fNm 0) (fNm 1)) (fM isS yH (fNm 1) (fNm 0))) [1]) zA))))
noncomputable def yr:List D→Rs D:=yx 2 kI
noncomputable def qW:Rho→Out :=
  (yU (fO anyD (zb (yP (fI tpD (fNm 0)) xg (zaU (fM isS yH (fNm 0) (fNm 1)) (f2 (eqD true) (fNm 0) (fNm 1))) [1]) zA)))
noncomputable def yt:List D→Rs D:=yx 2 qW
noncomputable def wV:Rho→Out :=
  (zY (yX 2 (fO mkL (zb (fC (.str [])) zA)))
  (zY (kE (sWh 2000 (bT (f2 (eqD true) (fNm 2) (fO mkL zA)))
  (zY (yX 3 (fA (ari 2 xR) (zb (fNm 0) (zb (fNm 2) zA))))
  (zY (qJ 4 (fI lsD (fNm 3))
  (sIf (bT (fA (ari 2 yr) (zb (fNm 1) (zb (fNm 4) zA))))
  (yU (fNm 4))
  sNx))
  (wY 2 (fCp (fI lsD (fNm 3)) (bT (fA (ari 2 yt) (zb (fNm 1) (zb (fNm 0) zA)))) (fNm 0) [1]))))))
  (yU (fC .non))))
noncomputable def xN:List D→Rs D:=yx 5 wV
noncomputable def wW:Rho→Out :=
  (zY (yX 2 (fA (ari 1 xK) (zb (fNm 1) zA)))
  (zY (sIf (bT (f1 (isN true) (fNm 2)))
  (yU (fNm 2))
  sNx)
  (yU (fA (ari 2 xN) (zb (fNm 0) (zb (fNm 1) zA))))))
noncomputable def vy:List D→Rs D:=yx 3 wW
noncomputable def zaZ:Rho→Out :=
  (yU (zaU (fA (ari 2 xj) (zb (fNm 0) (zb (fNm 1) zA))) (f1 (isN false) (fA (ari 2 vy) (zb (fNm 0) (zb (fNm 1) zA))))))
noncomputable def yK:List D→Rs D:=yx 2 zaZ
noncomputable def uL:Rho→Out :=
  (sIf (zap (bT (fA (ari 2 yK) (zb (fNm 0) (zb (fNm 1) zA)))))
  (sRs 1 (zb (fC (.str [116,104,105,115,32,105,115,32,110,111,32,98,111,111,107,32,111,102,32,115,111,32,109,97,110,121,32,108,101,116,116,101,114,115])) zA))
  sNx)
noncomputable def z9:List D→Rs D:=yx 2 uL
noncomputable def vp:Rho→Out :=
  (sIf (zap (bT (fA (ari 2 xq) (zb (fNm 0) (zb (fNm 1) zA)))))
  (sRs 3 (zb (fC (.str [116,104,105,115,32,105,115,32,110,111,32,116,101,120,116,32,111,102,32,116,104,101,115,101,32,108,101,116,116,101,114,115])) zA))
  sNx)
noncomputable def xV:List D→Rs D:=yx 2 vp
noncomputable def jA:Rho→Out :=
  (zY (vI 2 (fL szL zA))
  (zY (yX 3 (fC (.str [])))
  (zY (kE (qJ 4 (fI sgD (fNm 1))
  (zY (yX 3 (f2 kW (fNm 3) (fNm 4)))
  (sIf (bT (f2 (inD false) (fNm 3) (fNm 0)))
  (zY (zao 2 (fNm 3))
  (yX 3 (fC (.str []))))
  sNx))))
  (za7 2 (yU (fO mkT (zb (fNm 2) (zb (fNm 3) zA))))))))
noncomputable def zaW:List D→Rs D:=yx 5 jA
noncomputable def jX:Rho→Out :=
  (zY (yX 1 (fC (.int 0)))
  (zY (yX 2 (fC (.int 1)))
  (zY (kE (sWh 64 (bT (f2 ltI (fNm 2) (fNm 0)))
  (zY (yX 1 (f2 uY (fNm 1) (fC (.int 1))))
  (yX 2 (f2 mulI (fNm 2) (fC (.int 2)))))))
  (yU (fNm 1)))))
noncomputable def u5:List D→Rs D:=yx 3 jX
noncomputable def jT:Rho→Out :=
  (zY (yX 2 (fC (.str [])))
  (zY (kE (qJ 3 (fR zcY (zb (fNm 1) zA))
  (zY (yX 2 (f2 kW (fO strD (zb (f2 modI (fNm 0) (fC (.int 2))) zA)) (fNm 2)))
  (yX 0 (f2 zbK (fNm 0) (fC (.int 2)))))))
  (yU (fNm 2))))
noncomputable def qw:List D→Rs D:=yx 4 jT
noncomputable def jV:Rho→Out :=
  (zY (yX 1 (fA (ari 1 u5) (zb (fO uH (zb (fNm 0) zA)) zA)))
  (yU (yP (fR zcY (zb (fO uH (zb (fNm 0) zA)) zA)) xg (fA (ari 2 qw) (zb (fNm 0) (zb (fNm 1) zA))) [1])))
noncomputable def wJ:List D→Rs D:=yx 2 jV
noncomputable def zbN:Rho→Out :=
  (zY (yX 2 (fA (ari 2 zaW) (zb (fNm 0) (zb (fNm 1) zA))))
  (zY (yX 3 (f2 zbP (fNm 0) (fA (ari 1 wJ) (zb (fNm 0) zA))))
  (yU (fO mkT (zb (fM isS jf (fC (.str [])) (yP (fI lsD (f2 ixD (fNm 2) (fC (.int 0)))) xg (f2 getD (fNm 1) (fNm 0)) [3])) (zb (f2 ixD (fNm 2) (fC (.int 1))) zA))))))
noncomputable def za3:List D→Rs D:=yx 4 zbN
noncomputable def g_led:Rho→Out :=
  (zY (vH (fA (ari 2 z9) (zb (fNm 0) (zb (fNm 1) zA))))
  (zY (vH (fA (ari 2 xV) (zb (fNm 0) (zb (fNm 2) zA))))
  (yU (fA (ari 2 za3) (zb (fNm 1) (zb (fNm 2) zA))))))
noncomputable def jF:List D→Rs D:=yx 3 g_led
noncomputable def vU:Rho→Out :=
  (sIf (bT (f2 (inD true) (fNm 1) (fNm 0)))
  (sRs 2 (zb (fC (.str [116,104,105,115,32,105,115,32,110,111,32,112,105,101,99,101,32,111,102,32,116,104,101,32,98,111,111,107])) zA))
  sNx)
noncomputable def wD:List D→Rs D:=yx 2 vU
noncomputable def zaL:Rho→Out :=
  (zY (vH (fA (ari 2 z9) (zb (fNm 0) (zb (fNm 1) zA))))
  (zY (vH (fA (ari 2 wD) (zb (fNm 1) (zb (fNm 2) zA))))
  (yU (f2 ixD (fA (ari 1 wJ) (zb (fNm 1) zA)) (fM isTp idxD (fNm 1) (fNm 2))))))
noncomputable def wA:List D→Rs D:=yx 3 zaL
noncomputable def u0:Rho→Out :=
  (zY (yX 2 (fA (ari 1 u5) (zb (fO uH (zb (fNm 0) zA)) zA)))
  (zY (sIf (bOr (zap (bT (f1 (zbh isStr) (fNm 1)))) (bT (f2 (eqD true) (f2 modI (fO uH (zb (fNm 1) zA)) (fNm 2)) (fC (.int 0)))))
  (sRs 4 (zb (fC (.str [116,104,101,115,101,32,97,114,101,32,110,111,32,119,104,111,108,101,32,119,111,114,100,115])) zA))
  sNx)
  (yU (yP (fR rng3 (zb (fC (.int 0)) (zb (fO uH (zb (fNm 1) zA)) (zb (fNm 2) zA)))) xg (fSl (fNm 1) (yS (fNm 0)) (yS (f2 uY (fNm 0) (fNm 2)))) [1,2]))))
noncomputable def wC:List D→Rs D:=yx 3 u0
noncomputable def xY:Rho→Out :=
  (zY (yX 2 (f2 zbP (fA (ari 1 wJ) (zb (fNm 0) zA)) (fNm 0)))
  (zY (kE (qJ 3 (fI lsD (fNm 1))
  (sIf (bT (f2 (hasD true) (fNm 3) (fNm 2)))
  (fun _=>.no)
  sNx)))
  (yU (fM isS jf (fC (.str [])) (yP (fI lsD (fNm 1)) xg (f2 getD (fNm 1) (fNm 0)) [2])))))
noncomputable def yL:List D→Rs D:=yx 4 xY
noncomputable def vR:Rho→Out :=
  (zY (vH (fA (ari 2 z9) (zb (fNm 0) (zb (fNm 1) zA))))
  (zY (yX 4 (fA (ari 2 wC) (zb (fNm 1) (zb (fNm 2) zA))))
  (yU (fA (ari 2 yL) (zb (fNm 1) (zb (fSl (fNm 4) (yS (fO maxD (zb (fNm 3) (zb (fC (.int 0)) zA)))) wz) zA))))))
noncomputable def zO:List D→Rs D:=yx 5 vR
noncomputable def zcs:Rho→Out :=
  (yU (fA (ari 4 zO) (zb (fNm 0) (zb (fNm 1) (zb (fNm 2) (zb (fC (.int 0)) zA))))))
noncomputable def v9:List D→Rs D:=yx 3 zcs
noncomputable def jY:Rho→Out :=
  (zY (vH (fA (ari 2 z9) (zb (fNm 0) (zb (fNm 1) zA))))
  (zY (yX 3 (fA (ari 1 wJ) (zb (fNm 1) zA)))
  (zY (sIf (bT (f2 (inD true) (fNm 2) (fNm 3)))
  (sRs 4 (zb (fC (.str [116,104,105,115,32,105,115,32,110,111,32,119,111,114,100,32,111,102,32,97,32,112,105,101,99,101])) zA))
  sNx)
  (yU (f2 ixD (fNm 1) (fM isLs idxD (fNm 3) (fNm 2)))))))
noncomputable def xJ:List D→Rs D:=yx 4 jY
end Pg
set_option maxHeartbeats 1000000
namespace L2
open PySem
section
variable {ft:Rho→Rs Bool}{fe:Rho→Rs D}{ρ0 ρ:Rho}{α β:Type}{i j:Nat}{g:Rho→Out}
theorem jC {l:List α}{enc:α→D}(p:α→Bool)(e:α→D)(h:∀x∈l,ft (ρ0.set 0 (.fz (enc x)))=.ok (p x)∧(p x=true→fe (ρ0.set 0 (.fz (enc x)))=.ok (e x))):wX ft fe ρ0 (l.map enc)=.ok ((l.filter p).map e):=by
 induction l with
 | nil=>rfl
 | cons x l ih =>
  have ih':=ih fun y hy=>h y (.tail _ hy)
  obtain ⟨h1,h2⟩:=h x (.head _)
  rw [List.map_cons]
  unfold wX
  rw [h1]
  cases hp:p x with
  | false=>rw [List.filter_cons_of_neg (by simp [hp])]; exact ih'
  | true =>
   rw [List.filter_cons_of_pos hp]
   simp only [h2 hp,ih']
   rfl
theorem yQ {l:List α}{enc:α→D}(e:α→D)(h:∀x∈l,fe (ρ0.set 0 (.fz (enc x)))=.ok (e x)):wX xg fe ρ0 (l.map enc)=.ok (l.map e):=by
 have:=jC (ft:=xg) (fe:=fe) (ρ0:=ρ0) (l:=l) (enc:=enc) (fun _=>true) e fun x hx=>⟨rfl,fun _=>h x hx⟩
 rwa [List.filter_eq_self.mpr fun _ _=>rfl] at this
theorem compZ_map {l:List (α×β)}{enc:α→D}{enb:β→D}(e:α×β→D)(h:∀x∈l,fe ((ρ0.set 0 (.fz (enc x.1))).set 1 (.fz (enb x.2)))=.ok (e x)):qI xg fe ρ0 (l.map fun x=>enc x.1) (l.map fun x=>enb x.2)=.ok (l.map e):=by
 induction l with
 | nil=>rfl
 | cons x l ih =>
  have ih':=ih fun y hy=>h y (.tail _ hy)
  rw [List.map_cons,List.map_cons]
  unfold qI
  simp only [xg,h x (.head _)]
  rw [ih']; rfl
theorem zdh:∀(as bs:List D),qI ft fe ρ0 as bs=qI ft fe ρ0 ((as.zip bs).map (·.1)) ((as.zip bs).map (·.2))
 | [],_=>by simp [qI]
 | _::_,[]=>by simp [qI]
 | a::as,b::bs=>by
  rw [List.zip_cons_cons,List.map_cons,List.map_cons]
  unfold qI
  rw [zdh as bs]
theorem forZ_zip:∀(as bs:List D) (ρ:Rho),forZ i j g as bs ρ=forZ i j g ((as.zip bs).map (·.1)) ((as.zip bs).map (·.2)) ρ
 | [],_,ρ=>by simp [forZ]
 | _::_,[],ρ=>by simp [forZ]
 | a::as,b::bs,ρ=>by
  rw [List.zip_cons_cons,List.map_cons,List.map_cons,forZ.eq_1,forZ.eq_1]
  dsimp only
  cases g ((ρ.set i (.fz a)).set j (.fz b)) <;> first | rfl | exact forZ_zip as bs _
theorem uh {l:List α}{enc:α→D}(I:Nat→Rho→Prop)(h0:I 0 ρ)(hs:∀k x ρ,l[k]? = some x→I k ρ→∃ρ',g (ρ.set i (.fz (enc x)))=.nx ρ'∧I (k + 1) ρ'):∃ρ',forD i g (l.map enc) ρ=.nx ρ'∧I l.length ρ':=by
 induction l generalizing ρ I with
 | nil=>exact ⟨ρ,rfl,h0⟩
 | cons x l ih =>
  obtain ⟨ρ1,e1,i1⟩:=hs 0 x ρ rfl h0
  obtain ⟨ρ2,e2,i2⟩:=ih (I:=fun k=>I (k + 1)) i1 fun k y ρ hy hI=>hs (k + 1) y ρ (by simpa using hy) hI
  refine ⟨ρ2,?_,i2⟩
  rw [List.map_cons]
  unfold forD
  rw [e1]; exact e2
theorem forD_find {l:List α}{enc:α→D}(I:Rho→Prop)(p:α→Bool)(r:α→D)(h0:I ρ)(hs:∀x∈l,∀ρ,I ρ→if p x=true then g (ρ.set i (.fz (enc x)))=.rt (r x) else ∃ρ',g (ρ.set i (.fz (enc x)))=.nx ρ'∧I ρ') :
  match l.find? p with | some x=>forD i g (l.map enc) ρ=.rt (r x) | none=>∃ρ',forD i g (l.map enc) ρ=.nx ρ'∧I ρ':=by
 induction l generalizing ρ with
 | nil=>exact ⟨ρ,rfl,h0⟩
 | cons x l ih =>
  have hx:=hs x (.head _) ρ h0
  cases hp:p x with
  | true =>
   rw [if_pos hp] at hx
   rw [List.find?_cons_of_pos hp]
   show forD i g (enc x::l.map enc) ρ=_
   unfold forD
   rw [hx]
  | false =>
   rw [if_neg (by simp [hp])] at hx
   obtain ⟨ρ1,e1,i1⟩:=hx
   rw [List.find?_cons_of_neg (by simp [hp])]
   have:=ih i1 fun y hy=>hs y (.tail _ hy)
   have e:forD i g ((x::l).map enc) ρ=forD i g (l.map enc) ρ1:=by
    show forD i g (enc x::l.map enc) ρ=_
    rw [forD.eq_2,e1]
   rw [e]; exact this
theorem forZ_find {l:List (α×β)}{enc:α→D}{enb:β→D}(I:Rho→Prop)(p:α×β→Bool)(r:α×β→D)(h0:I ρ)(hs:∀x∈l,∀ρ,I ρ→if p x=true then g ((ρ.set i (.fz (enc x.1))).set j (.fz (enb x.2)))=.rt (r x) else ∃ρ',g ((ρ.set i (.fz (enc x.1))).set j (.fz (enb x.2)))=.nx ρ'∧I ρ') :
  match l.find? p with | some x=>forZ i j g (l.map fun x=>enc x.1) (l.map fun x=>enb x.2) ρ=.rt (r x) | none=>∃ρ',forZ i j g (l.map fun x=>enc x.1) (l.map fun x=>enb x.2) ρ=.nx ρ'∧I ρ':=by
 induction l generalizing ρ with
 | nil=>exact ⟨ρ,by simp [forZ],h0⟩
 | cons x l ih =>
  have hx:=hs x (.head _) ρ h0
  cases hp:p x with
  | true =>
   rw [if_pos hp] at hx
   rw [List.find?_cons_of_pos hp]
   show forZ i j g (enc x.1::l.map fun x=>enc x.1) (enb x.2::l.map fun x=>enb x.2) ρ=_
   unfold forZ
   rw [hx]
  | false =>
   rw [if_neg (by simp [hp])] at hx
   obtain ⟨ρ1,e1,i1⟩:=hx
   rw [List.find?_cons_of_neg (by simp [hp])]
   have:=ih i1 fun y hy=>hs y (.tail _ hy)
   have e:forZ i j g ((x::l).map fun x=>enc x.1) ((x::l).map fun x=>enb x.2) ρ=forZ i j g (l.map fun x=>enc x.1) (l.map fun x=>enb x.2) ρ1:=by
    show forZ i j g (enc x.1::l.map fun x=>enc x.1) (enb x.2::l.map fun x=>enb x.2) ρ=_
    rw [forZ.eq_1,e1]
   rw [e]; exact this
end
theorem z7 {m:Nat}{g:Rho→Out}{ds:List D}{d:D}(h:g (ds.map .fz++List.replicate (m - ds.length) .no)=.rt d):yx m g ds=.ok d:=by unfold yx; rw [h]
theorem runD_nx {m:Nat}{g:Rho→Out}{ds:List D}{ρ:Rho}(h:g (ds.map .fz++List.replicate (m - ds.length) .no)=.nx ρ):yx m g ds=.ok .non:=by unfold yx; rw [h]
theorem wK {m:Nat}{g:Rho→Out}{ds:List D}{n:Nat}(h:g (ds.map .fz++List.replicate (m - ds.length) .no)=.ex n):yx m g ds=.ex n:=by unfold yx; rw [h]
theorem zx {g h:Rho→Out}{ρ ρ':Rho}(e:g ρ=.nx ρ'):zY g h ρ=h ρ':=by unfold zY; rw [e]
theorem za6 {g h:Rho→Out}{ρ:Rho}{d:D}(e:g ρ=.rt d):zY g h ρ=.rt d:=by unfold zY; rw [e]
theorem uJ {g:Rho→Out}{ρ ρ':Rho}(e:g ρ=.nx ρ'):kE g ρ=.nx ρ':=by unfold kE; rw [e]
theorem cutX_rt {g:Rho→Out}{ρ:Rho}{d:D}(e:g ρ=.rt d):kE g ρ=.rt d:=by unfold kE; rw [e]
theorem vX {i:Nat}{fi:Rho→Rs (List D)}{g:Rho→Out}{ρ:Rho}{ds:List D}(e:fi ρ=.ok ds):qJ i fi g ρ=forD i g ds ρ:=by unfold qJ; rw [e]
theorem za9 {ft:Rho→Rs Bool}{g h:Rho→Out}{ρ:Rho}(e:ft ρ=.ok true):sIf ft g h ρ=g ρ:=by unfold sIf; rw [e]
theorem sIf_f {ft:Rho→Rs Bool}{g h:Rho→Out}{ρ:Rho}(e:ft ρ=.ok false):sIf ft g h ρ=h ρ:=by unfold sIf; rw [e]
theorem zN {i:Nat}{f:Rho→Rs D}{ρ:Rho}{d:D}(e:f ρ=.ok d):yX i f ρ=.nx (ρ.set i (.fz d)):=by unfold yX; rw [e]
theorem xH {f:Rho→Rs D}{ρ:Rho}{d:D}(e:f ρ=.ok d):yU f ρ=.rt d:=by unfold yU; rw [e]
theorem sApp_ok {i:Nat}{f:Rho→Rs D}{ρ:Rho}{ds:List D}{d:D}(e:owL ρ i=some ds)(e2:f ρ=.ok d)(hl:ds.length < 1000000):zao i f ρ=.nx (ρ.set i (.ow (ds++[d]))):=by unfold zao; simp only [e,e2,if_pos hl]
theorem vQ {l m:List Nat}(h:l.length + m.length≤1000000):kW (.str l) (.str m)=some (.str (l++m)):=if_pos h
theorem z8 {g:D→D→Option D}{fa fb:Rho→Rs D}{ρ:Rho}{a b d:D}(e1:fa ρ=.ok a)(e2:fb ρ=.ok b)(e3:g a b=some d):f2 g fa fb ρ=.ok d:=by unfold f2; rw [e1]; show (fb ρ).bind _=_; rw [e2]; show lf (g a b)=_; rw [e3]; rfl
theorem qi {n:Nat}(h:n≤1000000):zcY [.int (n:Int)]=some ((List.range n).map fun (k:Nat)=>.int (k:Int)):=by
 have h1:-(2 ^ 62)≤(n:Int)∧(n:Int) < 2 ^ 62:=by omega
 dsimp only [zcY]
 rw [if_pos h1,Int.toNat_natCast]
theorem zc6 {g:List D→Option (List D)}{fs:Rho→Rs (List D)}{ρ:Rho}{ds es:List D}(e1:fs ρ=.ok ds)(e2:g ds=some es):fR g fs ρ=.ok es:=by unfold fR; rw [e1]; show (match g ds with | some es=>Rs.ok es | none=>.no)=_; rw [e2]
theorem jO {g:List D→Option D}{fs:Rho→Rs (List D)}{ρ:Rho}{ds:List D}{d:D}(e1:fs ρ=.ok ds)(e2:g ds=some d):fO g fs ρ=.ok d:=by unfold fO; rw [e1]; show lf (g ds)=_; rw [e2]; rfl
theorem qO {f g:Rho→Rs D}{ρ:Rho}{i j:Int}(e1:f ρ=.ok (.int i))(e2:g ρ=.ok (.int j)):f2 uY f g ρ=.ok (.int (i + j)):=z8 e1 e2 rfl
theorem jb {f g:Rho→Rs D}{ρ:Rho}{i j:Int}(e1:f ρ=.ok (.int i))(e2:g ρ=.ok (.int j))(h1:Sm i)(h2:Sm j):f2 mulI f g ρ=.ok (.int (i * j)):=z8 e1 e2 (if_pos ⟨h1,h2⟩)
theorem qj {f g:Rho→Rs D}{ρ:Rho}{i j:Int}(e1:f ρ=.ok (.int i))(e2:g ρ=.ok (.int j))(h:0 < j):f2 modI f g ρ=.ok (.int (i % j)):=z8 e1 e2 (if_pos h)
theorem jB {f g:Rho→Rs D}{ρ:Rho}{i j:Int}(e1:f ρ=.ok (.int i))(e2:g ρ=.ok (.int j))(h:0 < j)(h2:Sm j):f2 zbK f g ρ=.ok (.int (i / j)):=z8 e1 e2 (if_pos ⟨h,h2⟩)
theorem qm {i:Int}(h:-(2 ^ 100) < i∧i < 2 ^ 100):Sm i:=by
 unfold Sm
 have h1:(2:Nat) ^ 100≤2 ^ 4000:=Nat.pow_le_pow_right (by decide) (by decide)
 have h2:i.natAbs < 2 ^ 100:=by omega
 exact Nat.lt_of_lt_of_le h2 h1
theorem fCp_ok {fi:Rho→Rs (List D)}{ft:Rho→Rs Bool}{fe:Rho→Rs D}{caps:List Nat}{ρ:Rho}{ds es:List D}(e1:fi ρ=.ok ds)(hl:ds.length≤1000000)(e2:wX ft fe (uZ 1 caps ρ) ds=.ok es):fCp fi ft fe caps ρ=.ok es:=by unfold fCp; rw [e1]; show (if ds.length≤1000000 then wX ft fe (uZ 1 caps ρ) ds else .no)=_; rw [if_pos hl,e2]
theorem wF {fi:Rho→Rs (List D)}{ft:Rho→Rs Bool}{fe:Rho→Rs D}{caps:List Nat}{ρ:Rho}{ds es:List D}(e1:fi ρ=.ok ds)(hl:ds.length≤1000000)(e2:wX ft fe (uZ 1 caps ρ) ds=.ok es):yP fi ft fe caps ρ=.ok (.lst es):=by unfold yP; rw [fCp_ok e1 hl e2]; rfl
theorem sSetO_ok {i:Nat}{f:Rho→Rs (List D)}{ρ:Rho}{d:List D}(e:f ρ=.ok d):vI i f ρ=.nx (ρ.set i (.ow d)):=by unfold vI; rw [e]
theorem sSetA_ok {i:Nat}{f:Rho→Rs (List D)}{ρ:Rho}{d:List D}(e:f ρ=.ok d):wY i f ρ=.nx (ρ.set i (.fz (.lst d))):=by unfold wY; rw [e]
theorem zbE {f:Rho→Rs (List D)}{ρ:Rho}{d:List D}(e:f ρ=.ok d):fLs f ρ=.ok (.lst d):=by unfold fLs; rw [e]; rfl
theorem zdb {chk:D→Bool}{g:D→D→Option D}{fa fb:Rho→Rs D}{ρ:Rho}{a b d:D}(e1:fa ρ=.ok a)(hc:chk a=true)(e2:fb ρ=.ok b)(e3:g a b=some d):fM chk g fa fb ρ=.ok d:=by unfold fM; rw [e1]; show (if chk a=true then _ else _)=_; rw [if_pos hc,e2]; show lf (g a b)=_; rw [e3]; rfl
theorem sPop_ok {i j:Nat}{f:Rho→Rs D}{ρ:Rho}{ds:List D}{k:Nat}{d:D}(e:owL ρ i=some ds)(e1:f ρ=.ok (.int (k:Int)))(hk:k < 1000000)(e2:ds[k]? = some d):zci i j f ρ=.nx ((ρ.set i (.ow (ds.eraseIdx k))).set j (.fz d)):=by
 unfold zci
 have h:(0:Int)≤(k:Int)∧(k:Int) < 1000000:=by omega
 simp only [e,e1,if_pos h,Int.toNat_natCast,e2]
theorem fFl_ok {i:Nat}{f:Rho→Rs D}{ρ:Rho}{ds:List D}{d:D}(e:owL ρ i=some ds)(e1:f (ρ.set i (.fz (.lst ds)))=.ok d)(h:d.fl=true):fFl i f ρ=.ok d:=by unfold fFl; simp only [e,e1,if_pos h]
theorem sIce_ok {i:Nat}{g:Rho→Out}{ρ:Rho}{ds:List D}(e:ρ[i]? = some (.ow ds)):za7 i g ρ=g (ρ.set i (.fz (.lst ds))):=by unfold za7; rw [e]
theorem fL_ok {g:List D→Option (List D)}{fs:Rho→Rs (List D)}{ρ:Rho}{ds es:List D}(e1:fs ρ=.ok ds)(e2:g ds=some es):fL g fs ρ=.ok es:=by unfold fL; rw [e1]; show lf' (g ds)=_; rw [e2]; rfl
theorem zG {fa:Rho→Rs D}{fs:Rho→Rs (List D)}{ρ:Rho}{a:D}{as:List D}(e1:fa ρ=.ok a)(e2:fs ρ=.ok as):zb fa fs ρ=.ok (a::as):=by unfold zb; rw [e1]; show (fs ρ).bind _=_; rw [e2]; rfl
theorem zc2 {α β:Type}(f:α→β):∀(l:List α) (k:Nat),(l.map f).eraseIdx k=(l.eraseIdx k).map f
 | [],_=>rfl
 | _::_,0=>rfl
 | a::l,k + 1=>by show f a::(l.map f).eraseIdx k=_; rw [zc2 f l k]; rfl
theorem inV_T (x:List Nat)(ps:List (List Nat)):inV (.str (T x)) (vT ps)=decide (x∈ps):=by
 unfold inV vT
 rw [List.any_map,Bool.eq_iff_iff,List.any_eq_true,decide_eq_true_eq]
 constructor
 ·rintro ⟨l,hl,e⟩
  have e':(T l == T x)=true:=e
  rw [T_beq] at e'
  rw [← (beq_iff_eq.mp e')]
  exact hl
 ·intro hx
  refine ⟨x,hx,?_⟩
  show (T x == T x)=true
  simp
noncomputable def sT (ls:List (List Nat)):List D:=ls.map .str
theorem sT_app (a b:List (List Nat)):sT a++sT b=sT (a++b):=by unfold sT; rw [List.map_append]
theorem all_fl (ls:List (List Nat)):(sT ls).all D.fl=true:=by simp [sT,D.fl]
theorem u6 (ls:List (List Nat)):(sT ls).all isS=true:=by simp [sT,isS]
theorem qu (ls:List (List Nat)):(sT ls).map unS=ls:=by
 unfold sT; rw [List.map_map]
 exact (List.map_congr_left fun x _=>rfl).trans (List.map_id ls)
theorem wZ:∀ls:List (List Nat),D.pls (sT ls)=true
 | []=>rfl
 | l::ls=>by show ((D.str l).pl&&D.pls (sT ls))=true; rw [wZ ls]; rfl
theorem yu (ls:List (List Nat)):(sT ls).length=ls.length:=by simp [sT]
theorem inV_sT (x:List Nat)(ls:List (List Nat)):inV (D.str x).toV ((sT ls).map D.toV)=decide (x∈ls):=by
 have e:(sT ls).map D.toV=vT ls:=by unfold sT vT; rw [List.map_map]; rfl
 rw [e]; exact inV_T x ls
theorem inQ_sT (neg:Bool)(x:List Nat)(ls:List (List Nat)):inQ neg (.str x) (sT ls)=some (.bl (if neg then !decide (x∈ls) else decide (x∈ls))):=by
 unfold inQ
 rw [if_pos ⟨rfl,all_fl ls⟩,inV_sT]
end L2
namespace Pg
open PySem L2 My
theorem cut_none {α:Type}(l:List α)(m:Nat):zae l none (some (m:Int))=l.take m:=by
 unfold zae
 rw [HT.sIx_none,HT.sIx_nat,List.drop_zero,Nat.sub_zero,← List.take_take,List.take_length]
theorem qY {α:Type}(l:List α)(m:Nat):zae l (some (m:Int)) none=l.drop m:=by
 unfold zae
 rw [HT.sIx_none,HT.sIx_nat,List.take_of_length_le (by rw [List.length_drop]; exact Nat.le_refl _)]
 rcases Nat.le_total m l.length with h | h
 ·rw [Nat.min_eq_left h]
 ·rw [Nat.min_eq_right h,List.drop_of_length_le (Nat.le_refl _),List.drop_of_length_le h]
theorem eqv_str (l m:List Nat):PyData.eqv (.str (T l)) (.str (T m))=decide (l=m):=by
 show (T l == T m)=_
 rw [T_beq]
 by_cases h:l=m
 ·subst h; simp
 ·rw [decide_eq_false h]; simpa using h
theorem eqD_str (neg:Bool)(l m:List Nat):eqD neg (.str l) (.str m)=some (.bl (if neg then !decide (l=m) else decide (l=m))):=by
 unfold eqD
 rw [if_pos ⟨rfl,rfl,by show (PyData.str (T l)).depth≤60; simp [PyData.depth]⟩]
 show some (D.bl (if neg=true then !PyData.eqv (.str (T l)) (.str (T m)) else PyData.eqv (.str (T l)) (.str (T m))))=_
 rw [eqv_str]
theorem all_of {α:Type}(l:List α)(b:α→Bool):allD [.lst (l.map fun x=>D.bl (b x))]=some (.bl (l.all b)):=by
 show (if (l.map fun x=>D.bl (b x)).all isB=true then some (D.bl ((l.map fun x=>D.bl (b x)).all unB)) else none)=_
 have h:(l.map fun x=>D.bl (b x)).all isB=true:=by rw [List.all_map]; exact List.all_eq_true.mpr fun _ _=>rfl
 rw [if_pos h,List.all_map]; rfl
theorem any_of {α:Type}(l:List α)(b:α→Bool):anyD [.lst (l.map fun x=>D.bl (b x))]=some (.bl (l.any b)):=by
 show (if (l.map fun x=>D.bl (b x)).all isB=true then some (D.bl ((l.map fun x=>D.bl (b x)).any unB)) else none)=_
 have h:(l.map fun x=>D.bl (b x)).all isB=true:=by rw [List.all_map]; exact List.all_eq_true.mpr fun _ _=>rfl
 rw [if_pos h,List.any_map]; rfl
theorem zbL (ps:List (List Nat)):zae (sT ps) (some 1) none=sT ps.tail:=by
 have:=qY (sT ps) 1
 rw [show ((1:Nat):Int)=1 from rfl] at this
 rw [this,List.drop_one]; exact (List.map_tail).symm
theorem zip_sT (ps qs:List (List Nat)):(sT ps).zip (sT qs)=(ps.zip qs).map fun x=>(D.str x.1,D.str x.2):=by
 unfold sT; rw [List.zip_map]; rfl
noncomputable def isText (m:Nat)(l:List Nat):Bool:=l.all fun c=>decide (c∈abcd.take m)
theorem zdk {m:Nat}(m4:m≤4){l:List Nat}(h:LetOk m l):isText m l=true:=by
 unfold isText
 rw [List.all_eq_true]
 exact fun c hc=>decide_eq_true (uI m4 (h c hc))
theorem uK (m:Nat)(l:List Nat)(hl:l.length≤1000000):xq [.int m,.str l]=.ok (.bl (isText m l)):=by
 have e:wX xg (f2 (inC false) (fNm 0) (fNm 1)) [.no,.fz (.str (abcd.take m))] (l.map fun c=>.str [c])=.ok (l.map fun c=>.bl (decide (c∈abcd.take m))):=yQ _ fun c hc=>rfl
 have e2:zae [97,98,99,100] none (some (m:Int))=abcd.take m:=cut_none abcd m
 simp only [xq,uw,yx,zY,yU,vH,yX,sIf,qQ,za7,kE,sRs,qJ,qG,sWh,zao,zci,wY,vI,zaj,sPut,fSD,owL,odL,sNx,fC,fNm,f1,f2,zA,zb,fO,fA,fIf,tru,bT,zap,bAnd,bOr,zaU,fOr,zdz,lf,lf',Rs.bind,isN,mkT,mkL,ari,fI,lsD,tpD,sgD,fR,fCp,yP,fLs,fL,fL1,fL2,szL,fCz,uZ,wz,yS,fSl,slD,fM,fCh,zbh,isInt,isBool,isStr,isTup,uH,ltI,leI,gtI,geI,ltS,uY,subI,D.pl,D.py,isS,List.getElem?_cons_zero,List.getElem?_cons_succ,List.set_cons_zero,List.set_cons_succ,List.map_cons,List.map_nil,List.length_cons,List.length_nil,List.replicate,List.append_nil,List.nil_append,List.cons_append,Nat.reduceSub,Nat.reduceAdd,Nat.reduceLeDiff,Bool.not_true,Bool.not_false,if_true,if_false,Bool.false_eq_true,reduceIte,Nat.zero_add,List.getElem?_nil,wZ,e2,e,List.length_map,if_pos hl,all_of,isText]
theorem zcI (ps:List (List Nat))(h:ps.length≤1000000):uF [.tup (sT ps)]=.ok (.bl (rising ps)):=by
 have e2:qI xg (f2 ltS (fNm 0) (fNm 1)) [.no,.no] (sT ps) (sT ps.tail)=.ok ((ps.zip ps.tail).map fun x=>.bl (decide (x.1 < x.2))):=by
  rw [zdh]
  rw [zip_sT,List.map_map,List.map_map]
  exact compZ_map (enc:=D.str) (enb:=D.str) _ fun x hx=>rfl
 simp only [uF,qe,yx,zY,yU,vH,yX,sIf,qQ,za7,kE,sRs,qJ,qG,sWh,zao,zci,wY,vI,zaj,sPut,fSD,owL,odL,sNx,fC,fNm,f1,f2,zA,zb,fO,fA,fIf,tru,bT,zap,bAnd,bOr,zaU,fOr,zdz,lf,lf',Rs.bind,isN,mkT,mkL,ari,fI,lsD,tpD,sgD,fR,fCp,yP,fLs,fL,fL1,fL2,szL,fCz,uZ,wz,yS,fSl,slD,fM,fCh,zbh,isInt,isBool,isStr,isTup,uH,ltI,leI,gtI,geI,ltS,uY,subI,D.pl,D.py,isS,List.getElem?_cons_zero,List.getElem?_cons_succ,List.set_cons_zero,List.set_cons_succ,List.map_cons,List.map_nil,List.length_cons,List.length_nil,List.replicate,List.append_nil,List.nil_append,List.cons_append,Nat.reduceSub,Nat.reduceAdd,Nat.reduceLeDiff,Bool.not_true,Bool.not_false,if_true,if_false,Bool.false_eq_true,reduceIte,Nat.zero_add,List.getElem?_nil,wZ,zbL,e2,yu,if_pos h,all_of,rising]
theorem zcL (i:Int):je [.int i]=.ok (.bl true):=rfl
theorem zbl (i lo hi:Int):vJ [.int i,.int lo,.int hi]=.ok (.bl (decide (lo≤i)&&decide (i≤hi))):=by
 simp only [vJ,um,yx,zY,yU,vH,yX,sIf,qQ,za7,kE,sRs,qJ,qG,sWh,zao,zci,wY,vI,zaj,sPut,fSD,owL,odL,sNx,fC,fNm,f1,f2,zA,zb,fO,fA,fIf,tru,bT,zap,bAnd,bOr,zaU,fOr,zdz,lf,lf',Rs.bind,isN,mkT,mkL,ari,fI,lsD,tpD,sgD,fR,fCp,yP,fLs,fL,fL1,fL2,szL,fCz,uZ,wz,yS,fSl,slD,fM,fCh,zbh,isInt,isBool,isStr,isTup,uH,ltI,leI,gtI,geI,ltS,uY,subI,D.pl,D.py,isS,List.getElem?_cons_zero,List.getElem?_cons_succ,List.set_cons_zero,List.set_cons_succ,List.map_cons,List.map_nil,List.length_cons,List.length_nil,List.replicate,List.append_nil,List.nil_append,List.cons_append,Nat.reduceSub,Nat.reduceAdd,Nat.reduceLeDiff,Bool.not_true,Bool.not_false,if_true,if_false,Bool.false_eq_true,reduceIte,Nat.zero_add,List.getElem?_nil,wZ,zcL]
 by_cases h:lo≤i
 ·simp [h]
 ·simp [h]
theorem j9 (i:Int):ye [.int i]=.ok (.bl (decide (2≤i)&&decide (i≤4))):=by
 simp only [ye,yG,yx,zY,yU,vH,yX,sIf,qQ,za7,kE,sRs,qJ,qG,sWh,zao,zci,wY,vI,zaj,sPut,fSD,owL,odL,sNx,fC,fNm,f1,f2,zA,zb,fO,fA,fIf,tru,bT,zap,bAnd,bOr,zaU,fOr,zdz,lf,lf',Rs.bind,isN,mkT,mkL,ari,fI,lsD,tpD,sgD,fR,fCp,yP,fLs,fL,fL1,fL2,szL,fCz,uZ,wz,yS,fSl,slD,fM,fCh,zbh,isInt,isBool,isStr,isTup,uH,ltI,leI,gtI,geI,ltS,uY,subI,D.pl,D.py,isS,List.getElem?_cons_zero,List.getElem?_cons_succ,List.set_cons_zero,List.set_cons_succ,List.map_cons,List.map_nil,List.length_cons,List.length_nil,List.replicate,List.append_nil,List.nil_append,List.cons_append,Nat.reduceSub,Nat.reduceAdd,Nat.reduceLeDiff,Bool.not_true,Bool.not_false,if_true,if_false,Bool.false_eq_true,reduceIte,Nat.zero_add,List.getElem?_nil,wZ,zbl]
 rfl
theorem zdP (ps:List (List Nat))(x:List Nat)(h:ps.length≤1000000):yt [.tup (sT ps),.str x]=.ok (.bl (isInner ps x)):=by
 have e:wX xg (zaU (fM isS yH (fNm 0) (fNm 1)) (f2 (eqD true) (fNm 0) (fNm 1))) [.no,.fz (.str x)] (sT ps)=.ok (ps.map fun p=>.bl (x.isPrefixOf p && !decide (p=x))):=yQ _ fun p hp=>by
  simp only [yx,zY,yU,vH,yX,sIf,qQ,za7,kE,sRs,qJ,qG,sWh,zao,zci,wY,vI,zaj,sPut,fSD,owL,odL,sNx,fC,fNm,f1,f2,zA,zb,fO,fA,fIf,tru,bT,zap,bAnd,bOr,zaU,fOr,zdz,lf,lf',Rs.bind,isN,mkT,mkL,ari,fI,lsD,tpD,sgD,fR,fCp,yP,fLs,fL,fL1,fL2,szL,fCz,uZ,wz,yS,fSl,slD,fM,fCh,zbh,isInt,isBool,isStr,isTup,uH,ltI,leI,gtI,geI,ltS,uY,subI,D.pl,D.py,isS,List.getElem?_cons_zero,List.getElem?_cons_succ,List.set_cons_zero,List.set_cons_succ,List.map_cons,List.map_nil,List.length_cons,List.length_nil,List.replicate,List.append_nil,List.nil_append,List.cons_append,Nat.reduceSub,Nat.reduceAdd,Nat.reduceLeDiff,Bool.not_true,Bool.not_false,if_true,if_false,Bool.false_eq_true,reduceIte,Nat.zero_add,List.getElem?_nil,wZ,yH,eqD_str]
  cases x.isPrefixOf p <;> simp
 simp only [yt,qW,yx,zY,yU,vH,yX,sIf,qQ,za7,kE,sRs,qJ,qG,sWh,zao,zci,wY,vI,zaj,sPut,fSD,owL,odL,sNx,fC,fNm,f1,f2,zA,zb,fO,fA,fIf,tru,bT,zap,bAnd,bOr,zaU,fOr,zdz,lf,lf',Rs.bind,isN,mkT,mkL,ari,fI,lsD,tpD,sgD,fR,fCp,yP,fLs,fL,fL1,fL2,szL,fCz,uZ,wz,yS,fSl,slD,fM,fCh,zbh,isInt,isBool,isStr,isTup,uH,ltI,leI,gtI,geI,ltS,uY,subI,D.pl,D.py,isS,List.getElem?_cons_zero,List.getElem?_cons_succ,List.set_cons_zero,List.set_cons_succ,List.map_cons,List.map_nil,List.length_cons,List.length_nil,List.replicate,List.append_nil,List.nil_append,List.cons_append,Nat.reduceSub,Nat.reduceAdd,Nat.reduceLeDiff,Bool.not_true,Bool.not_false,if_true,if_false,Bool.false_eq_true,reduceIte,Nat.zero_add,List.getElem?_nil,wZ,e,yu,if_pos h,any_of]
 rfl
theorem zdv (ps:List (List Nat))(x:List Nat)(h:ps.length≤1000000):yr [.tup (sT ps),.str x]=.ok (.bl (xT ps x)):=by
 have e:wX xg (fOr (fM isS yH (fNm 0) (fNm 1)) (fM isS yH (fNm 1) (fNm 0))) [.no,.fz (.str x)] (sT ps)=.ok (ps.map fun p=>.bl (x.isPrefixOf p || p.isPrefixOf x)):=yQ _ fun p hp=>by
  simp only [yx,zY,yU,vH,yX,sIf,qQ,za7,kE,sRs,qJ,qG,sWh,zao,zci,wY,vI,zaj,sPut,fSD,owL,odL,sNx,fC,fNm,f1,f2,zA,zb,fO,fA,fIf,tru,bT,zap,bAnd,bOr,zaU,fOr,zdz,lf,lf',Rs.bind,isN,mkT,mkL,ari,fI,lsD,tpD,sgD,fR,fCp,yP,fLs,fL,fL1,fL2,szL,fCz,uZ,wz,yS,fSl,slD,fM,fCh,zbh,isInt,isBool,isStr,isTup,uH,ltI,leI,gtI,geI,ltS,uY,subI,D.pl,D.py,isS,List.getElem?_cons_zero,List.getElem?_cons_succ,List.set_cons_zero,List.set_cons_succ,List.map_cons,List.map_nil,List.length_cons,List.length_nil,List.replicate,List.append_nil,List.nil_append,List.cons_append,Nat.reduceSub,Nat.reduceAdd,Nat.reduceLeDiff,Bool.not_true,Bool.not_false,if_true,if_false,Bool.false_eq_true,reduceIte,Nat.zero_add,List.getElem?_nil,wZ,yH]
  cases x.isPrefixOf p <;> simp
 simp only [yr,kI,yx,zY,yU,vH,yX,sIf,qQ,za7,kE,sRs,qJ,qG,sWh,zao,zci,wY,vI,zaj,sPut,fSD,owL,odL,sNx,fC,fNm,f1,f2,zA,zb,fO,fA,fIf,tru,bT,zap,bAnd,bOr,zaU,fOr,zdz,lf,lf',Rs.bind,isN,mkT,mkL,ari,fI,lsD,tpD,sgD,fR,fCp,yP,fLs,fL,fL1,fL2,szL,fCz,uZ,wz,yS,fSl,slD,fM,fCh,zbh,isInt,isBool,isStr,isTup,uH,ltI,leI,gtI,geI,ltS,uY,subI,D.pl,D.py,isS,List.getElem?_cons_zero,List.getElem?_cons_succ,List.set_cons_zero,List.set_cons_succ,List.map_cons,List.map_nil,List.length_cons,List.length_nil,List.replicate,List.append_nil,List.nil_append,List.cons_append,Nat.reduceSub,Nat.reduceAdd,Nat.reduceLeDiff,Bool.not_true,Bool.not_false,if_true,if_false,Bool.false_eq_true,reduceIte,Nat.zero_add,List.getElem?_nil,wZ,e,yu,if_pos h,any_of]
 rfl
theorem jr (ps:List (List Nat)):xK [.tup (sT ps)]=.ok (match wQ ps with | some x=>.tup [.str x.1,.str x.2] | none=>.non):=by
 have key:=forZ_find (i:=1) (j:=2) (g:=sIf (bT (fM isS yH (fNm 2) (fNm 1))) (yU (fO mkT (zb (fNm 1) (zb (fNm 2) zA)))) sNx) (ρ:=[.fz (.tup (sT ps)),.no,.no]) (l:=ps.zip ps.tail) (enc:=D.str) (enb:=D.str)
  (fun ρ=>∃a b,ρ=[.fz (.tup (sT ps)),a,b]) (fun x=>x.1.isPrefixOf x.2) (fun x=>.tup [.str x.1,.str x.2]) ⟨_,_,rfl⟩ (fun x hx ρ ⟨a,b,e⟩=>by
   subst e
   cases hp:x.1.isPrefixOf x.2 with
   | true=>simp only [yx,zY,yU,vH,yX,sIf,qQ,za7,kE,sRs,qJ,qG,sWh,zao,zci,wY,vI,zaj,sPut,fSD,owL,odL,sNx,fC,fNm,f1,f2,zA,zb,fO,fA,fIf,tru,bT,zap,bAnd,bOr,zaU,fOr,zdz,lf,lf',Rs.bind,isN,mkT,mkL,ari,fI,lsD,tpD,sgD,fR,fCp,yP,fLs,fL,fL1,fL2,szL,fCz,uZ,wz,yS,fSl,slD,fM,fCh,zbh,isInt,isBool,isStr,isTup,uH,ltI,leI,gtI,geI,ltS,uY,subI,D.pl,D.py,isS,List.getElem?_cons_zero,List.getElem?_cons_succ,List.set_cons_zero,List.set_cons_succ,List.map_cons,List.map_nil,List.length_cons,List.length_nil,List.replicate,List.append_nil,List.nil_append,List.cons_append,Nat.reduceSub,Nat.reduceAdd,Nat.reduceLeDiff,Bool.not_true,Bool.not_false,if_true,if_false,Bool.false_eq_true,reduceIte,Nat.zero_add,List.getElem?_nil,wZ,yH,hp]
   | false=>simp only [yx,zY,yU,vH,yX,sIf,qQ,za7,kE,sRs,qJ,qG,sWh,zao,zci,wY,vI,zaj,sPut,fSD,owL,odL,sNx,fC,fNm,f1,f2,zA,zb,fO,fA,fIf,tru,bT,zap,bAnd,bOr,zaU,fOr,zdz,lf,lf',Rs.bind,isN,mkT,mkL,ari,fI,lsD,tpD,sgD,fR,fCp,yP,fLs,fL,fL1,fL2,szL,fCz,uZ,wz,yS,fSl,slD,fM,fCh,zbh,isInt,isBool,isStr,isTup,uH,ltI,leI,gtI,geI,ltS,uY,subI,D.pl,D.py,isS,List.getElem?_cons_zero,List.getElem?_cons_succ,List.set_cons_zero,List.set_cons_succ,List.map_cons,List.map_nil,List.length_cons,List.length_nil,List.replicate,List.append_nil,List.nil_append,List.cons_append,Nat.reduceSub,Nat.reduceAdd,Nat.reduceLeDiff,Bool.not_true,Bool.not_false,if_true,if_false,Bool.false_eq_true,reduceIte,Nat.zero_add,List.getElem?_nil,wZ,yH,hp]; exact ⟨_,rfl,_,_,rfl⟩)
 have e4:forZ 1 2 (sIf (bT (fM isS yH (fNm 2) (fNm 1))) (yU (fO mkT (zb (fNm 1) (zb (fNm 2) zA)))) sNx) (sT ps) (sT ps.tail) [.fz (.tup (sT ps)),.no,.no]=forZ 1 2 (sIf (bT (fM isS yH (fNm 2) (fNm 1))) (yU (fO mkT (zb (fNm 1) (zb (fNm 2) zA)))) sNx) ((ps.zip ps.tail).map fun x=>D.str x.1) ((ps.zip ps.tail).map fun x=>D.str x.2) [.fz (.tup (sT ps)),.no,.no]:=by
  rw [forZ_zip,zip_sT,List.map_map,List.map_map]; rfl
 have e5:qG 1 2 (fNm 0) (fSl (fNm 0) (yS (fC (.int 1))) wz) (sIf (bT (fM isS yH (fNm 2) (fNm 1))) (yU (fO mkT (zb (fNm 1) (zb (fNm 2) zA)))) sNx) [.fz (.tup (sT ps)),.no,.no]=forZ 1 2 (sIf (bT (fM isS yH (fNm 2) (fNm 1))) (yU (fO mkT (zb (fNm 1) (zb (fNm 2) zA)))) sNx) ((ps.zip ps.tail).map fun x=>D.str x.1) ((ps.zip ps.tail).map fun x=>D.str x.2) [.fz (.tup (sT ps)),.no,.no]:=by
  rw [← e4]
  unfold qG
  have e6:fSl (fNm 0) (yS (fC (.int 1))) wz [.fz (.tup (sT ps)),.no,.no]=.ok (.tup (sT ps.tail)):=by rw [← zbL]; rfl
  rw [e6]; rfl
 unfold wQ
 cases hf:(ps.zip ps.tail).find? fun x=>x.1.isPrefixOf x.2 with
 | some x =>
  rw [hf] at key
  have e7:wg [.fz (.tup (sT ps)),.no,.no]=.rt (.tup [.str x.1,.str x.2]):=by
   unfold wg zY kE
   rw [e5,key]
  exact z7 e7
 | none =>
  rw [hf] at key
  obtain ⟨ρ',k1,a,b,rfl⟩:=key
  have e7:wg [.fz (.tup (sT ps)),.no,.no]=.rt .non:=by
   unfold wg zY kE
   rw [e5,k1]; rfl
  exact z7 e7
noncomputable def Pcs (m:Nat)(ps:List (List Nat)):Prop:=2≤m∧m≤4∧ps≠[]∧ps.length≤32∧∀p∈ps,LetOk m p∧p≠[]∧p.length≤8
theorem zdN {m:Nat}{ps:List (List Nat)}(h:∀p∈ps,p.length≤1000000):wX xg (zaU (fA (ari 2 xq) (zb (fNm 1) (zb (fNm 0) zA))) (f2 (eqD true) (fNm 0) (fC (.str [])))) [.no,.fz (.int m)] (sT ps)=.ok (ps.map fun p=>.bl (isText m p && !decide (p=[]))):=yQ _ fun p hp=>by
  simp only [yx,zY,yU,vH,yX,sIf,qQ,za7,kE,sRs,qJ,qG,sWh,zao,zci,wY,vI,zaj,sPut,fSD,owL,odL,sNx,fC,fNm,f1,f2,zA,zb,fO,fA,fIf,tru,bT,zap,bAnd,bOr,zaU,fOr,zdz,lf,lf',Rs.bind,isN,mkT,mkL,ari,fI,lsD,tpD,sgD,fR,fCp,yP,fLs,fL,fL1,fL2,szL,fCz,uZ,wz,yS,fSl,slD,fM,fCh,zbh,isInt,isBool,isStr,isTup,uH,ltI,leI,gtI,geI,ltS,uY,subI,D.pl,D.py,isS,List.getElem?_cons_zero,List.getElem?_cons_succ,List.set_cons_zero,List.set_cons_succ,List.map_cons,List.map_nil,List.length_cons,List.length_nil,List.replicate,List.append_nil,List.nil_append,List.cons_append,Nat.reduceSub,Nat.reduceAdd,Nat.reduceLeDiff,Bool.not_true,Bool.not_false,if_true,if_false,Bool.false_eq_true,reduceIte,Nat.zero_add,List.getElem?_nil,wZ,uK m p (h p hp),eqD_str]
  cases isText m p <;> simp
theorem zbH {m:Nat}{ps:List (List Nat)}(h:Pcs m ps):xj [.int m,.tup (sT ps)]=.ok (.bl (rising ps)):=by
 obtain ⟨m2,m4,hne,hl,hp⟩:=h
 have h1:∀p∈ps,p.length≤1000000:=fun p q=>by have:=(hp p q).2.2; omega
 have e1:(ps.all fun p=>isText m p && !decide (p=[]))=true:=List.all_eq_true.mpr fun p q=>by
  obtain ⟨a,b,_⟩:=hp p q
  rw [zdk m4 a,decide_eq_false b]; rfl
 have hpos:1≤ps.length:=List.length_pos_iff.mpr hne
 have d1:decide ((2:Int)≤(m:Int))=true:=decide_eq_true (by omega)
 have d2:decide ((m:Int)≤4)=true:=decide_eq_true (by omega)
 have d3:decide ((1:Int)≤(ps.length:Int))=true:=decide_eq_true (by omega)
 have d4:decide ((ps.length:Int)≤32)=true:=decide_eq_true (by omega)
 have hz:ps.length≤1000000:=by omega
 simp only [xj,uq,yx,zY,yU,vH,yX,sIf,qQ,za7,kE,sRs,qJ,qG,sWh,zao,zci,wY,vI,zaj,sPut,fSD,owL,odL,sNx,fC,fNm,f1,f2,zA,zb,fO,fA,fIf,tru,bT,zap,bAnd,bOr,zaU,fOr,zdz,lf,lf',Rs.bind,isN,mkT,mkL,ari,fI,lsD,tpD,sgD,fR,fCp,yP,fLs,fL,fL1,fL2,szL,fCz,uZ,wz,yS,fSl,slD,fM,fCh,zbh,isInt,isBool,isStr,isTup,uH,ltI,leI,gtI,geI,ltS,uY,subI,D.pl,D.py,isS,List.getElem?_cons_zero,List.getElem?_cons_succ,List.set_cons_zero,List.set_cons_succ,List.map_cons,List.map_nil,List.length_cons,List.length_nil,List.replicate,List.append_nil,List.nil_append,List.cons_append,Nat.reduceSub,Nat.reduceAdd,Nat.reduceLeDiff,Bool.not_true,Bool.not_false,if_true,if_false,Bool.false_eq_true,reduceIte,Nat.zero_add,List.getElem?_nil,wZ,j9,d1,d2,Bool.and_self,yu,d3,d4,if_pos hz,zdN h1,all_of,e1,zcI ps hz]
theorem sIter {m:Nat}{ρ:Rho}(h:ρ[0]? = some (.fz (.int (m:Int)))):fI sgD (fSl (fC (.str [97,98,99,100])) wz (yS (fNm 0))) ρ=.ok ((abcd.take m).map fun c=>.str [c]):=by
 have e2:zae [97,98,99,100] none (some (m:Int))=abcd.take m:=cut_none abcd m
 simp only [fI,fSl,fC,wz,yS,fNm,h,Rs.bind,slD,lf,e2,sgD]
theorem gone_on_eq {m:Nat}(xs:List (List Nat))(hl:∀x∈xs,x.length≤999999)(hn:4 * xs.length≤999999):xR [.int m,.lst (sT xs)]=.ok (.lst (sT (zR m xs))):=by
 have hab:(abcd.take m).length≤4:=by rw [List.length_take]; exact Nat.min_le_right _ _
 have inner:∀(x:List Nat) (acc:List (List Nat)) (s:Sl),x.length≤999999→acc.length + 4≤999999→∃s',qJ 4 (fI sgD (fSl (fC (.str [97,98,99,100])) wz (yS (fNm 0)))) (zao 2 (f2 kW (fNm 3) (fNm 4))) [.fz (.int m),.fz (.lst (sT xs)),.ow (sT acc),.fz (.str x),s]=.nx [.fz (.int m),.fz (.lst (sT xs)),.ow (sT (acc++(abcd.take m).map fun c=>x++[c])),.fz (.str x),s']:=by
  intro x acc s hx ha
  rw [vX (sIter rfl)]
  obtain ⟨ρ',e,s',rfl⟩:=uh (i:=4) (g:=zao 2 (f2 kW (fNm 3) (fNm 4))) (l:=abcd.take m) (enc:=fun c=>D.str [c]) (ρ:=[.fz (.int m),.fz (.lst (sT xs)),.ow (sT acc),.fz (.str x),s])
   (fun k ρ=>∃s',ρ=[.fz (.int m),.fz (.lst (sT xs)),.ow (sT (acc++((abcd.take m).take k).map fun c=>x++[c])),.fz (.str x),s']) ⟨s,by simp⟩ (fun k c ρ hc ⟨s',e⟩=>by
    subst e
    have hk:k < (abcd.take m).length:=(List.getElem?_eq_some_iff.mp hc).1
    have e3:(abcd.take m).take (k + 1)=(abcd.take m).take k++[c]:=by rw [List.take_add_one,hc]; rfl
    have hlen:(sT (acc++((abcd.take m).take k).map fun c=>x++[c])).length < 1000000:=by
     rw [yu,List.length_append,List.length_map,List.length_take]; omega
    have hz:x.length + 1≤1000000:=by omega
    refine ⟨_,sApp_ok rfl (z8 (a:=.str x) (b:=.str [c]) rfl rfl (vQ hz)) hlen,.fz (.str [c]),?_⟩
    have e5:sT (acc++((abcd.take m).take (k + 1)).map fun c=>x++[c])=sT (acc++((abcd.take m).take k).map fun c=>x++[c])++[D.str (x++[c])]:=by
     rw [e3,List.map_append,← List.append_assoc,← sT_app (acc++_)]; rfl
    rw [e5]; rfl)
  refine ⟨s',e.trans ?_⟩
  rw [List.take_of_length_le (Nat.le_refl _)]
 have outer:=uh (i:=3) (g:=qJ 4 (fI sgD (fSl (fC (.str [97,98,99,100])) wz (yS (fNm 0)))) (zao 2 (f2 kW (fNm 3) (fNm 4)))) (l:=xs) (enc:=D.str) (ρ:=[.fz (.int m),.fz (.lst (sT xs)),.ow [],.no,.no])
  (fun k ρ=>∃s s',ρ=[.fz (.int m),.fz (.lst (sT xs)),.ow (sT (zR m (xs.take k))),s,s']) ⟨.no,.no,rfl⟩ (fun k x ρ hx ⟨s,s',e⟩=>by
   subst e
   have hk:k < xs.length:=(List.getElem?_eq_some_iff.mp hx).1
   have e3:xs.take (k + 1)=xs.take k++[x]:=by rw [List.take_add_one,hx]; rfl
   have hg:(zR m (xs.take k)).length≤4 * k:=by
    have:(zR m (xs.take k)).length≤4 * (xs.take k).length:=by
     unfold zR
     generalize xs.take k=ys
     induction ys with
     | nil=>simp
     | cons y ys ih=>simp only [List.flatMap_cons,List.length_append,List.length_map,List.length_cons]; omega
    rw [List.length_take] at this; omega
   obtain ⟨s2,e4⟩:=inner x (zR m (xs.take k)) s' (hl x (List.mem_of_getElem? hx)) (by omega)
   refine ⟨_,e4,.fz (.str x),s2,?_⟩
   rw [e3]
   unfold zR
   rw [List.flatMap_append]
   simp)
 obtain ⟨ρ',e,s,s',rfl⟩:=outer
 rw [List.take_of_length_le (Nat.le_refl _)] at e
 refine z7 ?_
 show qN [.fz (.int m),.fz (.lst (sT xs)),.no,.no,.no]=_
 unfold qN
 refine (zx (g:=vI 2 (fL szL zA)) (ρ':=[.fz (.int m),.fz (.lst (sT xs)),.ow [],.no,.no]) rfl).trans ?_
 refine (zx (uJ ((vX (ds:=sT xs) rfl).trans e))).trans ?_
 rfl
theorem fta_round {m:Nat}{ps:List (List Nat)}(hl:ps.length≤1000000)(xs:List (List Nat))(hx:∀x∈xs,x.length≤999)(hn:xs.length≤99999)(s3 s4:Sl) :
  match (zR m xs).find? (xT ps) with
  | some x=>zY (yX 3 (fA (ari 2 xR) (zb (fNm 0) (zb (fNm 2) zA)))) (zY (qJ 4 (fI lsD (fNm 3)) (sIf (bT (fA (ari 2 yr) (zb (fNm 1) (zb (fNm 4) zA)))) (yU (fNm 4)) sNx)) (wY 2 (fCp (fI lsD (fNm 3)) (bT (fA (ari 2 yt) (zb (fNm 1) (zb (fNm 0) zA)))) (fNm 0) [1]))) [.fz (.int m),.fz (.tup (sT ps)),.fz (.lst (sT xs)),s3,s4]=.rt (.str x)
  | none=>∃s3' s4',zY (yX 3 (fA (ari 2 xR) (zb (fNm 0) (zb (fNm 2) zA)))) (zY (qJ 4 (fI lsD (fNm 3)) (sIf (bT (fA (ari 2 yr) (zb (fNm 1) (zb (fNm 4) zA)))) (yU (fNm 4)) sNx)) (wY 2 (fCp (fI lsD (fNm 3)) (bT (fA (ari 2 yt) (zb (fNm 1) (zb (fNm 0) zA)))) (fNm 0) [1]))) [.fz (.int m),.fz (.tup (sT ps)),.fz (.lst (sT xs)),s3,s4]=.nx [.fz (.int m),.fz (.tup (sT ps)),.fz (.lst (sT ((zR m xs).filter (isInner ps)))),s3',s4']:=by
 have eg:=gone_on_eq (m:=m) xs (fun x q=>by have:=hx x q; omega) (by omega)
 have e1:(yX 3 (fA (ari 2 xR) (zb (fNm 0) (zb (fNm 2) zA)))) [.fz (.int m),.fz (.tup (sT ps)),.fz (.lst (sT xs)),s3,s4]=.nx [.fz (.int m),.fz (.tup (sT ps)),.fz (.lst (sT xs)),.fz (.lst (sT (zR m xs))),s4]:=by
  refine zN (d:=.lst (sT (zR m xs))) ?_
  exact eg
 have hgl:(zR m xs).length≤1000000:=by
  have hab:(abcd.take m).length≤4:=by rw [List.length_take]; exact Nat.min_le_right _ _
  have:(zR m xs).length≤4 * xs.length:=by
   unfold zR
   clear hn hx eg e1
   induction xs with
   | nil=>simp
   | cons y ys ih=>simp only [List.flatMap_cons,List.length_append,List.length_map,List.length_cons]; omega
  omega
 have key:=forD_find (i:=4) (g:=sIf (bT (fA (ari 2 yr) (zb (fNm 1) (zb (fNm 4) zA)))) (yU (fNm 4)) sNx) (ρ:=[.fz (.int m),.fz (.tup (sT ps)),.fz (.lst (sT xs)),.fz (.lst (sT (zR m xs))),s4]) (l:=zR m xs) (enc:=D.str)
  (fun ρ=>∃a,ρ=[.fz (.int m),.fz (.tup (sT ps)),.fz (.lst (sT xs)),.fz (.lst (sT (zR m xs))),a]) (xT ps) (fun x=>.str x) ⟨_,rfl⟩ (fun x hx ρ ⟨a,e⟩=>by
   subst e
   have ea:(bT (fA (ari 2 yr) (zb (fNm 1) (zb (fNm 4) zA)))) [.fz (.int m),.fz (.tup (sT ps)),.fz (.lst (sT xs)),.fz (.lst (sT (zR m xs))),.fz (.str x)]=.ok (xT ps x):=by
    show (yr [.tup (sT ps),.str x]).bind tru=_
    rw [zdv ps x hl]; rfl
   cases hp:xT ps x with
   | true=>rw [if_pos rfl]; rw [hp] at ea; exact (za9 ea).trans rfl
   | false=>rw [if_neg Bool.false_ne_true]; rw [hp] at ea; exact ⟨_,(sIf_f ea).trans rfl,_,rfl⟩)
 cases hf:(zR m xs).find? (xT ps) with
 | some x =>
  rw [hf] at key
  refine (zx e1).trans (za6 ((vX (ds:=sT (zR m xs)) rfl).trans key))
 | none =>
  rw [hf] at key
  obtain ⟨ρ',k1,a,rfl⟩:=key
  have ec:wX (bT (fA (ari 2 yt) (zb (fNm 1) (zb (fNm 0) zA)))) (fNm 0) [.no,.fz (.tup (sT ps))] (sT (zR m xs))=.ok (((zR m xs).filter (isInner ps)).map .str):=jC _ _ fun x hx=>⟨by
   show (yt [.tup (sT ps),.str x]).bind tru=_
   rw [zdP ps x hl]; rfl,fun _=>rfl⟩
  refine ⟨.fz (.lst (sT (zR m xs))),a,(zx e1).trans ((zx ((vX (ds:=sT (zR m xs)) rfl).trans k1)).trans ?_)⟩
  have e5:fCp (fI lsD (fNm 3)) (bT (fA (ari 2 yt) (zb (fNm 1) (zb (fNm 0) zA)))) (fNm 0) [1] [.fz (.int m),.fz (.tup (sT ps)),.fz (.lst (sT xs)),.fz (.lst (sT (zR m xs))),a]=.ok (sT ((zR m xs).filter (isInner ps))):=by
   show (if (sT (zR m xs)).length≤1000000 then wX _ _ [.no,.fz (.tup (sT ps))] (sT (zR m xs)) else .no)=_
   rw [yu,if_pos hgl]
   exact ec
  unfold wY
  rw [e5]; rfl
theorem za2:∀(xs ys:List (List Nat)),PyData.eqvAll (D.pys (sT xs)) (D.pys (sT ys))=decide (xs=ys)
 | [],[]=>rfl
 | [],_::_=>rfl
 | _::_,[]=>rfl
 | x::xs,y::ys=>by
  show (PyData.eqv (.str (T x)) (.str (T y))&&PyData.eqvAll (D.pys (sT xs)) (D.pys (sT ys)))=_
  rw [za2 xs ys,eqv_str]
  by_cases h:x=y <;> by_cases h2:xs=ys <;> simp [h,h2]
theorem dep_sT:∀xs:List (List Nat),PyData.depthAll (D.pys (sT xs))=0
 | []=>rfl
 | x::xs=>by
  show max (PyData.depth (.str (T x))) (PyData.depthAll (D.pys (sT xs)))=0
  rw [dep_sT xs]; rfl
theorem jQ (neg:Bool)(xs ys:List (List Nat)):eqD neg (.lst (sT xs)) (.lst (sT ys))=some (.bl (if neg then !decide (xs=ys) else decide (xs=ys))):=by
 have h:(D.lst (sT xs)).pl=true∧(D.lst (sT ys)).pl=true∧(D.lst (sT xs)).py.depth≤60:=⟨wZ xs,wZ ys,by show PyData.depthAll (D.pys (sT xs)) + 1≤60; rw [dep_sT]; omega⟩
 unfold eqD
 rw [if_pos h]
 show some (D.bl (if neg=true then !PyData.eqvAll (D.pys (sT xs)) (D.pys (sT ys)) else PyData.eqvAll (D.pys (sT xs)) (D.pys (sT ys))))=_
 rw [za2]
theorem eqD_tup (neg:Bool)(xs ys:List (List Nat)):eqD neg (.tup (sT xs)) (.tup (sT ys))=some (.bl (if neg then !decide (xs=ys) else decide (xs=ys))):=by
 have h:(D.tup (sT xs)).pl=true∧(D.tup (sT ys)).pl=true∧(D.tup (sT xs)).py.depth≤60:=⟨wZ xs,wZ ys,by show PyData.depthAll (D.pys (sT xs)) + 1≤60; rw [dep_sT]; omega⟩
 unfold eqD
 rw [if_pos h]
 show some (D.bl (if neg=true then !PyData.eqvAll (D.pys (sT xs)) (D.pys (sT ys)) else PyData.eqvAll (D.pys (sT xs)) (D.pys (sT ys))))=_
 rw [za2]
theorem fta_loop {m:Nat}(m4:m≤4){ps:List (List Nat)}(hl:ps.length≤1000000)(h8:∀p∈ps,p.length≤8):∀(k L n:Nat) (xs:List (List Nat)) (s3 s4:Sl),L + k=10→(∀x∈xs,x.length=L∧(L=0∨isInner ps x=true))→xs.length≤4 ^ L→k < n →
  match fta m ps k xs with
  | some x=>whD (bT (f2 (eqD true) (fNm 2) (fO mkL zA))) (zY (yX 3 (fA (ari 2 xR) (zb (fNm 0) (zb (fNm 2) zA)))) (zY (qJ 4 (fI lsD (fNm 3)) (sIf (bT (fA (ari 2 yr) (zb (fNm 1) (zb (fNm 4) zA)))) (yU (fNm 4)) sNx)) (wY 2 (fCp (fI lsD (fNm 3)) (bT (fA (ari 2 yt) (zb (fNm 1) (zb (fNm 0) zA)))) (fNm 0) [1])))) n [.fz (.int m),.fz (.tup (sT ps)),.fz (.lst (sT xs)),s3,s4]=.rt (.str x)
  | none=>∃ρ',whD (bT (f2 (eqD true) (fNm 2) (fO mkL zA))) (zY (yX 3 (fA (ari 2 xR) (zb (fNm 0) (zb (fNm 2) zA)))) (zY (qJ 4 (fI lsD (fNm 3)) (sIf (bT (fA (ari 2 yr) (zb (fNm 1) (zb (fNm 4) zA)))) (yU (fNm 4)) sNx)) (wY 2 (fCp (fI lsD (fNm 3)) (bT (fA (ari 2 yt) (zb (fNm 1) (zb (fNm 0) zA)))) (fNm 0) [1])))) n [.fz (.int m),.fz (.tup (sT ps)),.fz (.lst (sT xs)),s3,s4]=.nx ρ':=by
 intro k
 induction k with
 | zero =>
  intro L n xs s3 s4 hL hx hn hk
  have:xs=[]:=by
   cases xs with
   | nil=>rfl
   | cons x xs =>
    obtain ⟨e1,e2⟩:=hx x (.head _)
    rcases e2 with e2 | e2
    ·omega
    ·have:=zaz e2 h8; omega
  subst this
  obtain ⟨n',rfl⟩:∃n',n=n' + 1:=⟨n - 1,by omega⟩
  refine ⟨[.fz (.int m),.fz (.tup (sT ps)),.fz (.lst (sT [])),s3,s4],?_⟩
  unfold whD
  have e0:(bT (f2 (eqD true) (fNm 2) (fO mkL zA))) [.fz (.int m),.fz (.tup (sT ps)),.fz (.lst (sT [])),s3,s4]=.ok false:=by
   show (lf (eqD true (.lst (sT [])) (.lst (sT [])))).bind tru=_
   rw [jQ]; rfl
  rw [e0]
 | succ k ih =>
  intro L n xs s3 s4 hL hx hn hk
  obtain ⟨n',rfl⟩:∃n',n=n' + 1:=⟨n - 1,by omega⟩
  have et:(bT (f2 (eqD true) (fNm 2) (fO mkL zA))) [.fz (.int m),.fz (.tup (sT ps)),.fz (.lst (sT xs)),s3,s4]=.ok (!decide (xs=[])):=by
   show (lf (eqD true (.lst (sT xs)) (.lst (sT [])))).bind tru=_
   rw [jQ]; rfl
  by_cases h0:xs=[]
  ·have ef:fta m ps (k + 1) xs=none:=by unfold fta; rw [if_pos h0]
   rw [ef]
   refine ⟨[.fz (.int m),.fz (.tup (sT ps)),.fz (.lst (sT xs)),s3,s4],?_⟩
   unfold whD
   rw [et,decide_eq_true h0]
   rfl
  ·have ef:fta m ps (k + 1) xs=match (zR m xs).find? (xT ps) with | some x=>some x | none=>fta m ps k ((zR m xs).filter (isInner ps)):=by
    rw [fta.eq_2,if_neg h0]
    all_goals (cases (zR m xs).find? (xT ps) <;> rfl)
   rw [decide_eq_false h0] at et
   have hLs:L≤7:=by
    cases xs with
    | nil=>exact absurd rfl h0
    | cons x xs =>
     obtain ⟨e1,e2⟩:=hx x (.head _)
     rcases e2 with e2 | e2
     ·omega
     ·have:=zaz e2 h8; omega
   have hpow:(4:Nat) ^ L≤4 ^ 7:=Nat.pow_le_pow_right (by decide) hLs
   have h47:(4:Nat) ^ 7=16384:=by decide
   have R:=fta_round (m:=m) hl xs (fun x q=>by have:=(hx x q).1; omega) (by omega) s3 s4
   rw [ef]
   cases hf:(zR m xs).find? (xT ps) with
   | some x =>
    rw [hf] at R
    show whD _ _ (n' + 1) _=_
    unfold whD
    rw [et]
    simp only [Bool.not_false]
    rw [R]
   | none =>
    rw [hf] at R
    obtain ⟨s3',s4',R⟩:=R
    have hx':∀x∈(zR m xs).filter (isInner ps),x.length=L + 1∧(L + 1=0∨isInner ps x=true):=fun x q=>by
     obtain ⟨q1,q2⟩:=List.mem_filter.mp q
     obtain ⟨y,hy,c,hc,rfl⟩:=zbD q1
     exact ⟨by rw [List.length_append,(hx y hy).1]; rfl,.inr q2⟩
    have hn':((zR m xs).filter (isInner ps)).length≤4 ^ (L + 1):=by
     have h1:((zR m xs).filter (isInner ps)).length≤(zR m xs).length:=List.length_filter_le _ _
     have h2:=goneOn_len m m4 xs
     rw [Nat.pow_succ]; omega
    have:=ih (L + 1) n' _ s3' s4' (by omega) hx' hn' (by omega)
    have es:whD (bT (f2 (eqD true) (fNm 2) (fO mkL zA))) (zY (yX 3 (fA (ari 2 xR) (zb (fNm 0) (zb (fNm 2) zA)))) (zY (qJ 4 (fI lsD (fNm 3)) (sIf (bT (fA (ari 2 yr) (zb (fNm 1) (zb (fNm 4) zA)))) (yU (fNm 4)) sNx)) (wY 2 (fCp (fI lsD (fNm 3)) (bT (fA (ari 2 yt) (zb (fNm 1) (zb (fNm 0) zA)))) (fNm 0) [1])))) (n' + 1) [.fz (.int m),.fz (.tup (sT ps)),.fz (.lst (sT xs)),s3,s4]=whD (bT (f2 (eqD true) (fNm 2) (fO mkL zA))) (zY (yX 3 (fA (ari 2 xR) (zb (fNm 0) (zb (fNm 2) zA)))) (zY (qJ 4 (fI lsD (fNm 3)) (sIf (bT (fA (ari 2 yr) (zb (fNm 1) (zb (fNm 4) zA)))) (yU (fNm 4)) sNx)) (wY 2 (fCp (fI lsD (fNm 3)) (bT (fA (ari 2 yt) (zb (fNm 1) (zb (fNm 0) zA)))) (fNm 0) [1])))) n' [.fz (.int m),.fz (.tup (sT ps)),.fz (.lst (sT ((zR m xs).filter (isInner ps)))),s3',s4']:=by
     rw [whD.eq_2,et]
     simp only [Bool.not_false]
     rw [R]
    simp only [es]
    exact this
theorem zbZ {m:Nat}(m4:m≤4){ps:List (List Nat)}(hl:ps.length≤1000000)(h8:∀p∈ps,p.length≤8):xN [.int m,.tup (sT ps)]=.ok (match vB m ps with | some x=>.str x | none=>.non):=by
 have:=fta_loop m4 hl h8 10 0 2000 [[]] .no .no rfl (fun x hx=>by rw [List.mem_singleton.mp hx]; exact ⟨rfl,.inl rfl⟩) (by decide) (by decide)
 unfold vB
 cases hf:fta m ps 10 [[]] with
 | some x =>
  rw [hf] at this
  refine z7 ?_
  exact (zx (ρ':=[.fz (.int m),.fz (.tup (sT ps)),.fz (.lst (sT [[]])),.no,.no]) rfl).trans (za6 (cutX_rt this))
 | none =>
  rw [hf] at this
  obtain ⟨ρ',e⟩:=this
  refine z7 ?_
  exact (zx (ρ':=[.fz (.int m),.fz (.tup (sT ps)),.fz (.lst (sT [[]])),.no,.no]) rfl).trans ((zx (uJ e)).trans rfl)
noncomputable def papD (m:Nat)(ps:List (List Nat)):D:=match wQ ps with
 | some x=>.tup [.str x.1,.str x.2]
 | none=>(match vB m ps with | some x=>.str x | none=>.non)
theorem zbd {m:Nat}(m4:m≤4){ps:List (List Nat)}(hl:ps.length≤1000000)(h8:∀p∈ps,p.length≤8):vy [.int m,.tup (sT ps)]=.ok (papD m ps):=by
 refine z7 ?_
 show wW [.fz (.int m),.fz (.tup (sT ps)),.no]=_
 unfold wW papD
 cases hf:wQ ps with
 | some x =>
  have e1:yX 2 (fA (ari 1 xK) (zb (fNm 1) zA)) [.fz (.int m),.fz (.tup (sT ps)),.no]=.nx [.fz (.int m),.fz (.tup (sT ps)),.fz (.tup [.str x.1,.str x.2])]:=zN (d:=.tup [.str x.1,.str x.2]) (by
   show xK [.tup (sT ps)]=_
   rw [jr,hf])
  exact (zx e1).trans (za6 rfl)
 | none =>
  have e1:yX 2 (fA (ari 1 xK) (zb (fNm 1) zA)) [.fz (.int m),.fz (.tup (sT ps)),.no]=.nx [.fz (.int m),.fz (.tup (sT ps)),.fz .non]:=zN (d:=.non) (by
   show xK [.tup (sT ps)]=_
   rw [jr,hf])
  refine (zx e1).trans ((zx (ρ':=[.fz (.int m),.fz (.tup (sT ps)),.fz .non]) rfl).trans (xH ?_))
  show xN [.int m,.tup (sT ps)]=_
  rw [zbZ m4 hl h8]
theorem pap_none {m:Nat}{ps:List (List Nat)}:isN false (papD m ps)=some (.bl ((wQ ps).isNone&&(vB m ps).isNone)):=by
 unfold papD
 cases wQ ps with
 | some x=>rfl
 | none=>cases vB m ps <;> rfl
theorem zbp {m:Nat}{ps:List (List Nat)}(h:Pcs m ps):yK [.int m,.tup (sT ps)]=.ok (.bl (isBook m ps)):=by
 have h8:∀p∈ps,p.length≤8:=fun p q=>(h.2.2.2.2 p q).2.2
 have hl:ps.length≤1000000:=by have:=h.2.2.2.1; omega
 refine z7 (xH ?_)
 show (xj [.int m,.tup (sT ps)]).bind (fun a=>(tru a).bind fun b=>if b=true then (vy [.int m,.tup (sT ps)]).bind (fun a=>lf (isN false a)) else .ok (.bl false))=_
 rw [zbH h,zbd h.2.1 hl h8]
 show (if rising ps=true then lf (isN false (papD m ps)) else Rs.ok (D.bl false))=_
 rw [pap_none]
 unfold isBook
 cases rising ps <;> simp [lf]
theorem yg {m:Nat}{ps:List (List Nat)}(h:Pcs m ps)(hr:isBook m ps=true):z9 [.int m,.tup (sT ps)]=.ok .non:=by
 refine runD_nx (ρ:=[.fz (.int m),.fz (.tup (sT ps))]) ?_
 refine (sIf_f ?_).trans rfl
 show ((yK [.int m,.tup (sT ps)]).bind tru).bind (fun b=>Rs.ok !b)=_
 rw [zbp h,hr]; rfl
theorem zaI {m:Nat}(m4:m≤4){l:List Nat}(h:LetOk m l)(hl:l.length≤1000000):xV [.int m,.str l]=.ok .non:=by
 refine runD_nx (ρ:=[.fz (.int m),.fz (.str l)]) ?_
 refine (sIf_f ?_).trans rfl
 show ((xq [.int m,.str l]).bind tru).bind (fun b=>Rs.ok !b)=_
 rw [uK m l hl,zdk m4 h]; rfl
theorem cut_by_eq {ps:List (List Nat)}{l:List Nat}(hl:l.length≤1000):zaW [.tup (sT ps),.str l]=.ok (.tup [.lst (sT (uc ps l).1),.str (uc ps l).2]):=by
 have step:=uh (i:=4) (g:=zY (yX 3 (f2 kW (fNm 3) (fNm 4))) (sIf (bT (f2 (inD false) (fNm 3) (fNm 0))) (zY (zao 2 (fNm 3)) (yX 3 (fC (.str [])))) sNx)) (l:=l) (enc:=fun c=>D.str [c]) (ρ:=[.fz (.tup (sT ps)),.fz (.str l),.ow [],.fz (.str []),.no])
  (fun k ρ=>∃s,ρ=[.fz (.tup (sT ps)),.fz (.str l),.ow (sT (uc ps (l.take k)).1),.fz (.str (uc ps (l.take k)).2),s]) ⟨.no,rfl⟩ (fun k c ρ hc ⟨s,e⟩=>by
   subst e
   have hk:k < l.length:=(List.getElem?_eq_some_iff.mp hc).1
   have e3:l.take (k + 1)=l.take k++[c]:=by rw [List.take_add_one,hc]; rfl
   have e4:uc ps (l.take (k + 1))=zU ps (uc ps (l.take k)) c:=by rw [e3]; unfold uc; rw [List.foldl_append]; rfl
   have b1:=(zaq ps (l.take k)).1
   have b2:=(zaq ps (l.take k)).2
   rw [List.length_take] at b1 b2
   rw [e4]
   generalize uc ps (l.take k)=st at *
   obtain ⟨acc,left⟩:=st
   have e5:yX 3 (f2 kW (fNm 3) (fNm 4)) [.fz (.tup (sT ps)),.fz (.str l),.ow (sT acc),.fz (.str left),.fz (.str [c])]=.nx [.fz (.tup (sT ps)),.fz (.str l),.ow (sT acc),.fz (.str (left++[c])),.fz (.str [c])]:=zN (d:=.str (left++[c])) (z8 (a:=.str left) (b:=.str [c]) rfl rfl (vQ (by show left.length + 1≤_; dsimp only at b2; omega)))
   have e6:(bT (f2 (inD false) (fNm 3) (fNm 0))) [.fz (.tup (sT ps)),.fz (.str l),.ow (sT acc),.fz (.str (left++[c])),.fz (.str [c])]=.ok (decide (left++[c]∈ps)):=by
    show (lf (inQ false (.str (left++[c])) (sT ps))).bind tru=_
    rw [inQ_sT]; rfl
   unfold zU
   by_cases hm:left++[c]∈ps
   ·rw [decide_eq_true hm] at e6
    rw [if_pos hm]
    have hlen:(sT acc).length < 1000000:=by rw [yu]; dsimp only at b1; omega
    refine ⟨_,(zx e5).trans ((za9 e6).trans ((zx (sApp_ok rfl rfl hlen)).trans (zN (d:=.str []) rfl))),.fz (.str [c]),?_⟩
    have e7:sT (acc++[left++[c]])=sT acc++[D.str (left++[c])]:=by rw [← sT_app]; rfl
    show _=[_,_,Sl.ow (sT (acc++[left++[c]])),_,_]
    rw [e7]; rfl
   ·rw [decide_eq_false hm] at e6
    rw [if_neg hm]
    exact ⟨_,(zx e5).trans ((sIf_f e6).trans rfl),_,rfl⟩)
 obtain ⟨ρ',e,s,rfl⟩:=step
 rw [List.take_of_length_le (Nat.le_refl _)] at e
 refine z7 ?_
 show jA [.fz (.tup (sT ps)),.fz (.str l),.no,.no,.no]=_
 unfold jA
 refine (zx (ρ':=[.fz (.tup (sT ps)),.fz (.str l),.ow [],.no,.no]) rfl).trans ?_
 refine (zx (ρ':=[.fz (.tup (sT ps)),.fz (.str l),.ow [],.fz (.str []),.no]) rfl).trans ?_
 refine (zx (uJ ((vX (ds:=l.map fun c=>.str [c]) rfl).trans e))).trans ?_
 rfl
noncomputable def dK (ks:List (List Nat)):List (List Nat×D):=ks.map fun k=>(k,.bl true)
noncomputable def zcE (ns:List Int)(k:Int):Int:=if ns=[] then 7 * k else ns.getD (k % ns.length).toNat 0 + 6553 * (k / ns.length)
noncomputable def ur (ns:List Int)(k m:Int):Int :=
 let c1:=(zcE ns k % 2147483563 * 69069 + 104723 * (k + 1)) % 2147483563
 let c2:=(c1 * c1 + c1 / 3) % 2147483399
 (c2 * c2 + c2 / 7) % 2147483647 / 11 % m
theorem yE (ns:List Int)(k:Int){m:Int}(hm:0 < m):0≤ur ns k m∧ur ns k m < m:=by
 unfold ur
 exact ⟨Int.emod_nonneg _ (by omega),Int.emod_lt_of_pos _ (by omega)⟩
noncomputable def scD (ns:List Int):D:=.lst (ns.map .int)
theorem pls_ints:∀ns:List Int,D.pls (ns.map .int)=true
 | []=>rfl
 | n::ns=>by show ((D.int n).pl&&D.pls (ns.map .int))=true; rw [pls_ints ns]; rfl
theorem dep_ints:∀ns:List Int,PyData.depthAll (D.pys (ns.map .int))=0
 | []=>rfl
 | n::ns=>by show max 0 (PyData.depthAll (D.pys (ns.map .int)))=0; rw [dep_ints ns]; rfl
theorem eqD_script (ns:List Int):eqD false (scD ns) (.lst [])=some (.bl (decide (ns=[]))):=by
 have h:(scD ns).pl=true∧(D.lst []).pl=true∧(scD ns).py.depth≤60:=⟨pls_ints ns,rfl,by show PyData.depthAll (D.pys (ns.map .int)) + 1≤60; rw [dep_ints]; omega⟩
 unfold eqD
 rw [if_pos h]
 cases ns <;> rfl
theorem cell_eq (ns:List Int)(hn:ns.length≤63)(k:Int)(h0:0≤k)(h1:k < 1000):uE [scD ns,.int k]=.ok (.int (zcE ns k)):=by
 refine z7 ?_
 show vW [.fz (scD ns),.fz (.int k)]=_
 unfold vW zcE
 have e1:(bT (f2 (eqD false) (fNm 0) (fO mkL zA))) [.fz (scD ns),.fz (.int k)]=.ok (decide (ns=[])):=by
  show (lf (eqD false (scD ns) (.lst []))).bind tru=_
  rw [eqD_script]; rfl
 by_cases h:ns=[]
 ·rw [decide_eq_true h] at e1
  rw [if_pos h]
  exact za6 ((za9 e1).trans (xH (jb rfl rfl (qm (by omega)) (qm (by omega)))))
 ·rw [decide_eq_false h] at e1
  rw [if_neg h]
  refine (zx (ρ':=[.fz (scD ns),.fz (.int k)]) ((sIf_f e1).trans rfl)).trans (xH ?_)
  have hl:0 < ns.length:=List.length_pos_iff.mpr h
  have el:fO uH (zb (fNm 0) zA) [.fz (scD ns),.fz (.int k)]=.ok (.int (ns.length:Int)):=by
   show Rs.ok (D.int ((ns.map D.int).length:Int))=_
   rw [List.length_map]
  have hp:(0:Int) < (ns.length:Int):=by omega
  have r1:=Int.emod_nonneg k (show (ns.length:Int)≠0 by omega)
  have r2:=Int.emod_lt_of_pos k hp
  have hd:0≤k / (ns.length:Int):=Int.ediv_nonneg h0 (by omega)
  have hd2:k / (ns.length:Int)≤k:=Int.ediv_le_self _ h0
  obtain ⟨j,hj⟩:=Int.eq_ofNat_of_zero_le r1
  have hjl:j < ns.length:=by omega
  have ei:f2 ixD (fNm 0) (f2 modI (fNm 1) (fO uH (zb (fNm 0) zA))) [.fz (scD ns),.fz (.int k)]=.ok (.int (ns.getD (k % (ns.length:Int)).toNat 0)):=by
   refine z8 (a:=scD ns) (b:=.int (k % (ns.length:Int))) rfl (qj rfl el hp) ?_
   show atI (ns.map D.int) (k % (ns.length:Int))=_
   rw [hj]
   have:=zds (xs:=ns.map D.int) (j:=j) (v:=.int ns[j]) (by rw [List.getElem?_map,List.getElem?_eq_getElem hjl]; rfl)
   rw [this,Int.toNat_natCast,List.getD_eq_getElem?_getD,List.getElem?_eq_getElem hjl]; rfl
  exact qO ei (jb rfl (jB rfl el hp (qm (by omega))) (qm (by omega)) (qm (by omega)))
theorem uD (ns:List Int)(hn:ns.length≤63)(k m:Int)(h0:0≤k)(h1:k < 1000)(hm:0 < m):zJ [scD ns,.int k,.int m]=.ok (.int (ur ns k m)):=by
 refine z7 ?_
 show vC [.fz (scD ns),.fz (.int k),.fz (.int m),.no]=_
 have hD:∀c1 c2,(zcE ns k % 2147483563 * 69069 + 104723 * (k + 1)) % 2147483563=c1→(c1 * c1 + c1 / 3) % 2147483399=c2→ur ns k m=(c2 * c2 + c2 / 7) % 2147483647 / 11 % m:=by
  rintro _ _ rfl rfl; rfl
 unfold vC
 have ec:fA (ari 2 uE) (zb (fNm 0) (zb (fNm 1) zA)) [.fz (scD ns),.fz (.int k),.fz (.int m),.no]=.ok (.int (zcE ns k)):=cell_eq ns hn k h0 h1
 have a1:=Int.emod_nonneg (zcE ns k) (show (2147483563:Int)≠0 by decide)
 have a2:=Int.emod_lt_of_pos (zcE ns k) (show (0:Int) < 2147483563 by decide)
 generalize hc1:(zcE ns k % 2147483563 * 69069 + 104723 * (k + 1)) % 2147483563=c1
 have b1:0≤c1:=hc1 ▸ Int.emod_nonneg _ (by decide)
 have b2:c1 < 2147483563:=hc1 ▸ Int.emod_lt_of_pos _ (by decide)
 refine (zx (ρ':=[.fz (scD ns),.fz (.int k),.fz (.int m),.fz (.int c1)]) ?_).trans ?_
 ·rw [← hc1]
  exact zN (qj (qO (jb (qj ec rfl (by decide)) rfl (qm (by omega)) (qm (by decide))) (jb rfl (qO rfl rfl) (qm (by decide)) (qm (by omega)))) rfl (by decide))
 generalize hc2:(c1 * c1 + c1 / 3) % 2147483399=c2
 have d1:0≤c2:=hc2 ▸ Int.emod_nonneg _ (by decide)
 have d2:c2 < 2147483399:=hc2 ▸ Int.emod_lt_of_pos _ (by decide)
 refine (zx (ρ':=[.fz (scD ns),.fz (.int k),.fz (.int m),.fz (.int c2)]) ?_).trans ?_
 ·rw [← hc2]
  exact zN (qj (qO (jb rfl rfl (qm (by omega)) (qm (by omega))) (jB rfl rfl (by decide) (qm (by decide)))) rfl (by decide))
 rw [hD c1 c2 hc1 hc2]
 exact xH (qj (jB (qj (qO (jb rfl rfl (qm (by omega)) (qm (by omega))) (jB rfl rfl (by decide) (qm (by decide)))) rfl (by decide)) rfl (by decide) (qm (by decide))) rfl hm)
noncomputable def zbe (ns:List Int)(at' many long:Int):List Nat:=(List.range (ur ns at' (long + 1)).toNat).map fun (i:Nat)=>abcd.getD (ur ns (at' + 1 + (i:Int)) many).toNat 0
theorem textF_ok (ns:List Int)(at':Int){m:Nat}(m2:2≤m)(m4:m≤4)(long:Int):LetOk m (zbe ns at' m long):=fun c hc=>by
 obtain ⟨i,_,rfl⟩:=List.mem_map.mp hc
 have hr:=yE ns (at' + 1 + (i:Int)) (m:=m) (by omega)
 obtain ⟨j,hj⟩:=Int.eq_ofNat_of_zero_le hr.1
 rw [hj] at hr ⊢
 rw [Int.toNat_natCast]
 have hj4:j < m:=by omega
 have:∀j < 4,abcd.getD j 0=97 + j:=by decide
 rw [this j (by omega)]; omega
theorem zc9 (ns:List Int)(at' m:Int){long:Nat}:(zbe ns at' m long).length≤long:=by
 unfold zbe
 rw [List.length_map,List.length_range]
 have:=yE ns at' (m:=(long:Int) + 1) (by omega)
 omega
theorem zdR {j:Nat}(h:j < 4):ixD (.str [97,98,99,100]) (.int (j:Int))=some (.str [abcd.getD j 0]):=by
 have e:j=0∨j=1∨j=2∨j=3:=by omega
 rcases e with rfl | rfl | rfl | rfl <;> rfl
theorem text_eq (ns:List Int)(hn:ns.length≤63)(at':Nat){m:Nat}(m2:2≤m)(m4:m≤4)(long:Nat)(hat:at' + long + 1 < 1000):uG [scD ns,.int at',.int m,.int long]=.ok (.str (zbe ns at' m long)):=by
 have hr:=yE ns at' (m:=(long:Int) + 1) (by omega)
 obtain ⟨z,hz⟩:=Int.eq_ofNat_of_zero_le hr.1
 rw [hz] at hr
 have e1:fA (ari 3 zJ) (zb (fNm 0) (zb (fNm 1) (zb (f2 uY (fNm 3) (fC (.int 1))) zA))) [.fz (scD ns),.fz (.int at'),.fz (.int m),.fz (.int long),.no]=.ok (.int (z:Int)):=by
  rw [← hz]; exact uD ns hn at' (long + 1) (by omega) (by omega) (by omega)
 have e2:wX xg (f2 ixD (fC (.str [97,98,99,100])) (fA (ari 3 zJ) (zb (fNm 1) (zb (f2 uY (f2 uY (fNm 3) (fC (.int 1))) (fNm 0)) (zb (fNm 2) zA))))) [.no,.fz (scD ns),.fz (.int m),.fz (.int at')] ((List.range z).map fun (k:Nat)=>.int (k:Int))=.ok ((List.range z).map fun (i:Nat)=>.str [abcd.getD (ur ns ((at':Int) + 1 + (i:Int)) m).toNat 0]):=yQ (enc:=fun (k:Nat)=>D.int (k:Int)) _ fun i hi=>by
  have hi':i < z:=by simpa using hi
  have hr2:=yE ns ((at':Int) + 1 + (i:Int)) (m:=m) (by omega)
  have e3:fA (ari 3 zJ) (zb (fNm 1) (zb (f2 uY (f2 uY (fNm 3) (fC (.int 1))) (fNm 0)) (zb (fNm 2) zA))) [.fz (.int (i:Int)),.fz (scD ns),.fz (.int m),.fz (.int at')]=.ok (.int (ur ns ((at':Int) + 1 + (i:Int)) m)):=uD ns hn _ m (by omega) (by omega) (by omega)
  obtain ⟨j,hj⟩:=Int.eq_ofNat_of_zero_le hr2.1
  rw [hj] at e3 hr2 ⊢
  rw [Int.toNat_natCast]
  exact z8 (a:=.str [97,98,99,100]) (b:=.int (j:Int)) rfl e3 (zdR (by omega))
 refine z7 ?_
 show v7 [.fz (scD ns),.fz (.int at'),.fz (.int m),.fz (.int long),.no]=_
 unfold v7
 refine (zx (zN e1)).trans (xH ?_)
 have e4:yP (fR zcY (zb (fNm 4) zA)) xg (f2 ixD (fC (.str [97,98,99,100])) (fA (ari 3 zJ) (zb (fNm 1) (zb (f2 uY (f2 uY (fNm 3) (fC (.int 1))) (fNm 0)) (zb (fNm 2) zA))))) [0,2,1] [.fz (scD ns),.fz (.int at'),.fz (.int m),.fz (.int long),.fz (.int (z:Int))]=.ok (.lst ((List.range z).map fun (i:Nat)=>.str [abcd.getD (ur ns ((at':Int) + 1 + (i:Int)) m).toNat 0])) :=
  wF (zc6 (ds:=[.int (z:Int)]) rfl (qi (by omega))) (by rw [List.length_map,List.length_range]; omega) e2
 refine zdb (a:=.str []) rfl rfl e4 ?_
 have et:zbe ns at' m long=(List.range z).map fun (i:Nat)=>abcd.getD (ur ns ((at':Int) + 1 + (i:Int)) m).toNat 0:=by unfold zbe; rw [hz,Int.toNat_natCast]
 have ef:((((List.range z).map fun (i:Nat)=>D.str [abcd.getD (ur ns ((at':Int) + 1 + (i:Int)) m).toNat 0])).map unS).flatten=zbe ns at' m long:=by
  rw [et,List.map_map]
  generalize (List.range z)=r
  induction r with
  | nil=>rfl
  | cons a r ih=>rw [List.map_cons,List.flatten_cons,ih]; rfl
 dsimp only [jf]
 rw [ef,if_pos]
 refine ⟨by rw [List.all_map]; exact List.all_eq_true.mpr fun _ _=>rfl,?_⟩
 have:=zc9 ns at' m (long:=long)
 omega
noncomputable def bkF (ns:List Int)(at':Nat)(m:Nat):Nat→List (List Nat)
 | 0=>kids m []
 | t + 1=>part m (bkF ns at' m t) (ur ns ((at':Int) + (t:Int)) ((bkF ns at' m t).length:Int)).toNat
theorem bkF_gr (ns:List Int)(at':Nat){m:Nat}(m2:2≤m)(m4:m≤4):∀t:Nat,My.Gr m t (bkF ns at' m t)
 | 0=>.z
 | t + 1=>by
  have g:=bkF_gr ns at' m2 m4 t
  have hl:=g.len m2 m4
  have hd:=yE ns ((at':Int) + (t:Int)) (m:=((bkF ns at' m t).length:Int)) (by rw [hl]; omega)
  exact .s g (by omega)
theorem kids_eq (m:Nat)(m4:m≤4)(p:List Nat):kids m p=(List.range m).map fun i=>p++[abcd.getD i 0]:=by
 unfold kids
 have:∀m≤4,abcd.take m=(List.range m).map fun i=>abcd.getD i 0:=by decide
 rw [this m m4,List.map_map]; rfl
theorem zc3 {ls:List (List Nat)}(h:ls.length < 64):sortD [.lst (sT ls)]=some (sT (sortF ls)):=by
 dsimp only [sortD]
 unfold sortL
 rw [if_pos ⟨u6 ls,by rw [yu]; exact h⟩,qu]; rfl
theorem sT_erase (ls:List (List Nat))(k:Nat):(sT ls).eraseIdx k=sT (ls.eraseIdx k):=by
 exact zc2 D.str ls k
theorem book_eq (ns:List Int)(hn:ns.length≤63)(at':Nat){m:Nat}(m2:2≤m)(m4:m≤4)(t:Nat)(ht:t≤8)(hat:at'≤900):qR [scD ns,.int at',.int m,.int t]=.ok (.tup (sT (bkF ns at' m t))):=by
 have e0:fCp (fR zcY (zb (fNm 2) zA)) xg (f2 ixD (fC (.str [97,98,99,100])) (fNm 0)) [] [.fz (scD ns),.fz (.int at'),.fz (.int m),.fz (.int t),.no,.no,.no]=.ok (sT (kids m [])):=by
  refine fCp_ok (zc6 (ds:=[.int (m:Int)]) rfl (qi (by omega))) (by rw [List.length_map,List.length_range]; omega) ?_
  rw [kids_eq m m4]
  have:=yQ (fe:=f2 ixD (fC (.str [97,98,99,100])) (fNm 0)) (ρ0:=[.no]) (l:=List.range m) (enc:=fun (k:Nat)=>D.int (k:Int)) (fun i=>.str ([]++[abcd.getD i 0])) fun i hi=>z8 (a:=.str [97,98,99,100]) (b:=.int (i:Int)) rfl rfl (zdR (by have:=List.mem_range.mp hi; omega))
  unfold sT
  rw [List.map_map]
  exact this
 have loop:=uh (i:=5) (g:=zY (zci 4 6 (fFl 4 (fA (ari 3 zJ) (zb (fNm 0) (zb (f2 uY (fNm 1) (fNm 5)) (zb (fO uH (zb (fNm 4) zA)) zA)))))) (za7 4 (vI 4 (fL sortD (zb (fLs (fL2 catD (fNm 4) (yP (fR zcY (zb (fNm 2) zA)) xg (f2 kW (fNm 1) (f2 ixD (fC (.str [97,98,99,100])) (fNm 0))) [6]))) zA))))) (l:=List.range t) (enc:=fun (k:Nat)=>D.int (k:Int)) (ρ:=[.fz (scD ns),.fz (.int at'),.fz (.int m),.fz (.int t),.ow (sT (kids m [])),.no,.no])
  (fun k ρ=>∃s s',ρ=[.fz (scD ns),.fz (.int at'),.fz (.int m),.fz (.int t),.ow (sT (bkF ns at' m k)),s,s']) ⟨.no,.no,rfl⟩ (fun k c ρ hc ⟨s,s',e⟩=>by
   subst e
   have hk:k < t:=by have:=(List.getElem?_eq_some_iff.mp hc).1; simpa using this
   have ec:c=k:=by rw [List.getElem?_range hk] at hc; exact (Option.some.inj hc).symm
   subst ec
   have g:=bkF_gr ns at' m2 m4 c
   have hl:=g.len m2 m4
   have hsh:=g.short m2 m4
   have hll:(bkF ns at' m c).length≤28:=by
    rw [hl]
    have:c * (m - 1)≤8 * 3:=Nat.mul_le_mul (by omega) (by omega)
    omega
   have hpos:0 < (bkF ns at' m c).length:=by rw [hl]; omega
   have hd:=yE ns ((at':Int) + (c:Int)) (m:=((bkF ns at' m c).length:Int)) (by omega)
   obtain ⟨j,hj⟩:=Int.eq_ofNat_of_zero_le hd.1
   rw [hj] at hd
   have hjl:j < (bkF ns at' m c).length:=by omega
   have eB:bkF ns at' m (c + 1)=part m (bkF ns at' m c) j:=by
    show part m (bkF ns at' m c) (ur ns ((at':Int) + (c:Int)) ((bkF ns at' m c).length:Int)).toNat=_
    rw [hj]; rfl
   rw [eB]
   generalize hB:bkF ns at' m c=B at *
   have ed:fFl 4 (fA (ari 3 zJ) (zb (fNm 0) (zb (f2 uY (fNm 1) (fNm 5)) (zb (fO uH (zb (fNm 4) zA)) zA)))) [.fz (scD ns),.fz (.int at'),.fz (.int m),.fz (.int t),.ow (sT B),.fz (.int (c:Int)),s']=.ok (.int (j:Int)):=by
    refine fFl_ok rfl ?_ rfl
    show zJ [scD ns,.int ((at':Int) + (c:Int)),.int ((sT B).length:Int)]=_
    rw [yu,← hj]
    exact uD ns hn _ _ (by omega) (by omega) (by omega)
   have ep:(sT B)[j]? = some (.str B[j]):=by unfold sT; rw [List.getElem?_map,List.getElem?_eq_getElem hjl]; rfl
   have eg:B.getD j []=B[j]:=by rw [List.getD_eq_getElem?_getD,List.getElem?_eq_getElem hjl]; rfl
   have hp8:=hsh B[j] (List.getElem_mem hjl)
   refine ⟨_,(zx (sPop_ok rfl ed (by omega) ep)).trans ?_,.fz (.int (c:Int)),.fz (.str B[j]),rfl⟩
   rw [sT_erase]
   refine (sIce_ok (ds:=sT (B.eraseIdx j)) rfl).trans ?_
   refine (sSetO_ok (d:=sT (part m B j)) ?_).trans rfl
   have ek:yP (fR zcY (zb (fNm 2) zA)) xg (f2 kW (fNm 1) (f2 ixD (fC (.str [97,98,99,100])) (fNm 0))) [6] [.fz (scD ns),.fz (.int at'),.fz (.int m),.fz (.int t),.fz (.lst (sT (B.eraseIdx j))),.fz (.int (c:Int)),.fz (.str B[j])]=.ok (.lst (sT (kids m B[j]))):=by
    refine wF (zc6 (ds:=[.int (m:Int)]) rfl (qi (by omega))) (by rw [List.length_map,List.length_range]; omega) ?_
    rw [kids_eq m m4]
    have:=yQ (fe:=f2 kW (fNm 1) (f2 ixD (fC (.str [97,98,99,100])) (fNm 0))) (ρ0:=[.no,.fz (.str B[j])]) (l:=List.range m) (enc:=fun (k:Nat)=>D.int (k:Int)) (fun i=>.str (B[j]++[abcd.getD i 0])) fun i hi=>z8 (a:=.str B[j]) (b:=.str [abcd.getD i 0]) rfl (z8 (a:=.str [97,98,99,100]) (b:=.int (i:Int)) rfl rfl (zdR (by have:=List.mem_range.mp hi; omega))) (vQ (by show B[j].length + 1≤_; omega))
    unfold sT
    rw [List.map_map]
    exact this
   have el:(B.eraseIdx j++kids m B[j]).length < 64:=by
    rw [List.length_append,zcd m m4,List.length_eraseIdx,if_pos hjl]; omega
   have ecat:fL2 catD (fNm 4) (yP (fR zcY (zb (fNm 2) zA)) xg (f2 kW (fNm 1) (f2 ixD (fC (.str [97,98,99,100])) (fNm 0))) [6]) [.fz (scD ns),.fz (.int at'),.fz (.int m),.fz (.int t),.fz (.lst (sT (B.eraseIdx j))),.fz (.int (c:Int)),.fz (.str B[j])]=.ok (sT (B.eraseIdx j++kids m B[j])):=by
    unfold fL2
    rw [ek]
    show lf' (catD (.lst (sT (B.eraseIdx j))) (.lst (sT (kids m B[j]))))=_
    dsimp only [catD]
    rw [if_pos (by rw [yu,yu,← List.length_append]; omega),sT_app]; rfl
   refine fL_ok (zG (zbE ecat) rfl) ?_
   rw [zc3 el]
   unfold part
   rw [eg])
 obtain ⟨ρ',e,s,s',rfl⟩:=loop
 rw [List.length_range] at e
 refine z7 ?_
 show v5 [.fz (scD ns),.fz (.int at'),.fz (.int m),.fz (.int t),.no,.no,.no]=_
 unfold v5
 refine (zx (sSetO_ok e0)).trans ((zx (uJ ((vX (zc6 (ds:=[.int (t:Int)]) rfl (qi (by omega)))).trans e))).trans ?_)
 rfl
end Pg
namespace Pg
open PySem L2 My
theorem fA1 {fn:List D→Rs D}{f:Rho→Rs D}{ρ:Rho}{a:D}(e1:f ρ=.ok a):fA (ari 1 fn) (zb f zA) ρ=fn [a]:=by
 unfold fA; rw [zG e1 rfl]; rfl
theorem fA2 {fn:List D→Rs D}{f g:Rho→Rs D}{ρ:Rho}{a b:D}(e1:f ρ=.ok a)(e2:g ρ=.ok b):fA (ari 2 fn) (zb f (zb g zA)) ρ=fn [a,b]:=by
 unfold fA; rw [zG e1 (zG e2 rfl)]; rfl
theorem fA3 {fn:List D→Rs D}{f g h:Rho→Rs D}{ρ:Rho}{a b c:D}(e1:f ρ=.ok a)(e2:g ρ=.ok b)(e3:h ρ=.ok c):fA (ari 3 fn) (zb f (zb g (zb h zA))) ρ=fn [a,b,c]:=by
 unfold fA; rw [zG e1 (zG e2 (zG e3 rfl))]; rfl
theorem fA4 {fn:List D→Rs D}{f g h i:Rho→Rs D}{ρ:Rho}{a b c d:D}(e1:f ρ=.ok a)(e2:g ρ=.ok b)(e3:h ρ=.ok c)(e4:i ρ=.ok d):fA (ari 4 fn) (zb f (zb g (zb h (zb i zA)))) ρ=fn [a,b,c,d]:=by
 unfold fA; rw [zG e1 (zG e2 (zG e3 (zG e4 rfl)))]; rfl
theorem ifF {ft:Rho→Rs Bool}{g:Rho→Out}{ρ:Rho}(e:ft ρ=.ok false):sIf ft g sNx ρ=.nx ρ:=sIf_f e
theorem xU {f:Rho→Rs D}{ρ:Rho}{b:Bool}(e:f ρ=.ok (.bl b)):bT f ρ=.ok b:=by unfold bT; rw [e]; rfl
theorem jm {f:Rho→Rs Bool}{ρ:Rho}{b:Bool}(e:f ρ=.ok b):zap f ρ=.ok (!b):=by unfold zap; rw [e]; rfl
theorem zcu {f g:Rho→Rs Bool}{ρ:Rho}(e:f ρ=.ok false)(e2:g ρ=.ok false):bOr f g ρ=.ok false:=by unfold bOr; rw [e]; exact e2
theorem loopSeq {i:Nat}{fi:Rho→Rs (List D)}{body rest:Rho→Out}{ρ:Rho}{ds:List D}{o:Out}(I:Rho→Prop)(e:fi ρ=.ok ds)(h:∃ρ',forD i body ds ρ=.nx ρ'∧I ρ')(k:∀ρ',I ρ'→rest ρ'=o):zY (kE (qJ i fi body)) rest ρ=o:=by
 obtain ⟨ρ',e1,i1⟩:=h
 exact (zx (uJ ((vX e).trans e1))).trans (k ρ' i1)
theorem jZ {fa:Rho→Rs D}{fl fh:Rho→Rs (Option Int)}{ρ:Rho}{a d:D}{l h:Option Int}(e1:fa ρ=.ok a)(e2:fl ρ=.ok l)(e3:fh ρ=.ok h)(e4:slD a l h=some d):fSl fa fl fh ρ=.ok d:=by
 unfold fSl; rw [e1]; show (fl ρ).bind _=_; rw [e2]; show (fh ρ).bind _=_; rw [e3]; show lf (slD a l h)=_; rw [e4]; rfl
theorem sSet2_ok {i j:Nat}{f:Rho→Rs D}{ρ:Rho}{a b:D}(e:f ρ=.ok (.tup [a,b])):qQ i j f ρ=.nx ((ρ.set i (.fz a)).set j (.fz b)):=by unfold qQ; rw [e]
theorem vK {f:Rho→Rs D}{ρ:Rho}{d:D}(e:f ρ=.ok d):vH f ρ=.nx ρ:=by unfold vH; rw [e]
theorem ixN_nat {n j:Nat}(h:j < n):ixN n (j:Int)=some j:=by
 unfold ixN
 rw [if_pos (by omega),if_pos (by omega)]; rfl
theorem zdo {B:List (List Nat)}{j:Nat}(h:j < B.length):atI (sT B) (j:Int)=some (.str (B.getD j [])):=by
 unfold atI
 rw [yu,ixN_nat h]
 simp [sT,h]
noncomputable def zL (n:Nat):Nat:=if n≤1 then 0 else if n≤2 then 1 else if n≤4 then 2 else if n≤8 then 3 else if n≤16 then 4 else 5
theorem bits_lt:∀n < 33,∀b < 6,(2 ^ b < n↔b < zL n):=by decide +kernel
theorem zda (n:Nat):zL n≤5:=by unfold zL; (repeat' split) <;> omega
theorem bits_loop {n:Nat}(h:n≤32):∀(j b f:Nat),zL n - b=j→b≤zL n→j < f →
  whD (bT (f2 ltI (fNm 2) (fNm 0))) (zY (yX 1 (f2 uY (fNm 1) (fC (.int 1)))) (yX 2 (f2 mulI (fNm 2) (fC (.int 2))))) f [.fz (.int n),.fz (.int (b:Int)),.fz (.int ((2 ^ b:Nat):Int))]=.nx [.fz (.int n),.fz (.int ((zL n:Nat):Int)),.fz (.int ((2 ^ zL n:Nat):Int))]:=by
 intro j
 induction j with
 | zero =>
  intro b f hj hb hf
  have eb:b=zL n:=by omega
  subst eb
  obtain ⟨f,rfl⟩:∃g,f=g + 1:=⟨f - 1,by omega⟩
  have hb5:=zda n
  have et:bT (f2 ltI (fNm 2) (fNm 0)) [.fz (.int n),.fz (.int ((zL n:Nat):Int)),.fz (.int ((2 ^ zL n:Nat):Int))]=.ok false:=by
   have:¬2 ^ zL n < n:=fun z=>by have:=(bits_lt n (by omega) (zL n) (by omega)).mp z; omega
   refine xU (z8 (a:=.int ((2 ^ zL n:Nat):Int)) (b:=.int (n:Int)) rfl rfl ?_)
   show some (D.bl (decide (((2 ^ zL n:Nat):Int) < (n:Int))))=_
   rw [decide_eq_false (by omega)]
  unfold whD
  rw [et]
 | succ j ih =>
  intro b f hj hb hf
  obtain ⟨f,rfl⟩:∃g,f=g + 1:=⟨f - 1,by omega⟩
  have hb5:=zda n
  have hlt:2 ^ b < n:=(bits_lt n (by omega) b (by omega)).mpr (by omega)
  have et:bT (f2 ltI (fNm 2) (fNm 0)) [.fz (.int n),.fz (.int (b:Int)),.fz (.int ((2 ^ b:Nat):Int))]=.ok true:=by
   refine xU (z8 (a:=.int ((2 ^ b:Nat):Int)) (b:=.int (n:Int)) rfl rfl ?_)
   show some (D.bl (decide (((2 ^ b:Nat):Int) < (n:Int))))=_
   rw [decide_eq_true (by omega)]
  have hp:2 ^ (b + 1)=2 ^ b * 2:=Nat.pow_succ ..
  have es:(zY (yX 1 (f2 uY (fNm 1) (fC (.int 1)))) (yX 2 (f2 mulI (fNm 2) (fC (.int 2))))) [.fz (.int n),.fz (.int (b:Int)),.fz (.int ((2 ^ b:Nat):Int))]=.nx [.fz (.int n),.fz (.int ((b + 1:Nat):Int)),.fz (.int ((2 ^ (b + 1):Nat):Int))]:=by
   refine (zx (zN (qO rfl rfl))).trans ?_
   refine (zN (jb (i:=((2 ^ b:Nat):Int)) (j:=2) rfl rfl (qm (by omega)) (qm (by omega)))).trans ?_
   have:((2 ^ b:Nat):Int) * 2=((2 ^ (b + 1):Nat):Int):=by omega
   rw [this]; rfl
  unfold whD
  rw [et]
  show (match (zY (yX 1 (f2 uY (fNm 1) (fC (.int 1)))) (yX 2 (f2 mulI (fNm 2) (fC (.int 2))))) [.fz (.int n),.fz (.int (b:Int)),.fz (.int ((2 ^ b:Nat):Int))] with | .nx ρ'=>_ | .ct ρ'=>_ | .bk ρ'=>_ | o=>o)=_
  rw [es]
  exact ih (b + 1) f (by omega) (by omega) (by omega)
theorem jh {n:Nat}(h:n≤32):u5 [.int n]=.ok (.int ((zL n:Nat):Int)):=by
 have hb5:=zda n
 have:=bits_loop h (zL n) 0 64 rfl (Nat.zero_le _) (by omega)
 refine z7 ?_
 refine (zx (zN (d:=.int 0) rfl)).trans ((zx (zN (d:=.int 1) rfl)).trans ((zx (uJ this)).trans rfl))
noncomputable def zdO (i:Nat):Nat→List Nat
 | 0=>[]
 | k + 1=>(48 + i / 2 ^ k % 2)::zdO i k
theorem zcg (i:Nat):∀b,(zdO i b).length=b
 | 0=>rfl
 | b + 1=>by show (zdO i b).length + 1=_; rw [zcg i b]
theorem word_for_eq {i b:Nat}(hi:i≤1000)(hb:b≤1000):qw [.int i,.int b]=.ok (.str (zdO i b)):=by
 refine z7 ?_
 refine (zx (ρ':=[.fz (.int i),.fz (.int b),.fz (.str []),.no]) (zN (d:=.str []) rfl)).trans ?_
 refine loopSeq (fun ρ=>∃s,ρ=[.fz (.int ((i / 2 ^ b:Nat):Int)),.fz (.int b),.fz (.str (zdO i b)),s]) (zc6 (ds:=[.int (b:Int)]) rfl (qi (by omega))) ?_ (fun ρ ⟨s,e⟩=>by subst e; rfl)
 have:=uh (i:=3) (g:=zY (yX 2 (f2 kW (fO strD (zb (f2 modI (fNm 0) (fC (.int 2))) zA)) (fNm 2))) (yX 0 (f2 zbK (fNm 0) (fC (.int 2))))) (l:=List.range b) (enc:=fun (k:Nat)=>D.int (k:Int)) (ρ:=[.fz (.int i),.fz (.int b),.fz (.str []),.no])
  (fun k ρ=>∃s,ρ=[.fz (.int ((i / 2 ^ k:Nat):Int)),.fz (.int b),.fz (.str (zdO i k)),s]) ⟨.no,by simp [zdO]⟩ (fun k c ρ hc ⟨s,e⟩=>by
   subst e
   have hk:k < b:=by have:=(List.getElem?_eq_some_iff.mp hc).1; simpa using this
   have hle:i / 2 ^ k≤i:=Nat.div_le_self _ _
   have e1:f2 modI (fNm 0) (fC (.int 2)) [.fz (.int ((i / 2 ^ k:Nat):Int)),.fz (.int b),.fz (.str (zdO i k)),.fz (.int (c:Int))]=.ok (.int (((i / 2 ^ k % 2:Nat)):Int)):=by
    refine (qj (i:=((i / 2 ^ k:Nat):Int)) (j:=2) rfl rfl (by decide)).trans ?_
    have:(((i / 2 ^ k:Nat):Int)) % 2=((i / 2 ^ k % 2:Nat):Int):=by omega
    rw [this]
   have hm2:i / 2 ^ k % 2 < 2:=Nat.mod_lt _ (by decide)
   have e2:strD [.int (((i / 2 ^ k % 2:Nat)):Int)]=some (.str [48 + i / 2 ^ k % 2]):=by
    dsimp only [strD]
    rw [if_pos (by omega)]; rfl
   have e3:f2 zbK (fNm 0) (fC (.int 2)) [.fz (.int ((i / 2 ^ k:Nat):Int)),.fz (.int b),.fz (.str (zdO i (k + 1))),.fz (.int (c:Int))]=.ok (.int ((i / 2 ^ (k + 1):Nat):Int)):=by
    refine (jB (i:=((i / 2 ^ k:Nat):Int)) (j:=2) rfl rfl (by decide) (qm (by omega))).trans ?_
    have h1:i / 2 ^ (k + 1)=i / 2 ^ k / 2:=by rw [Nat.pow_succ,Nat.div_div_eq_div_mul]
    have:(((i / 2 ^ k:Nat):Int)) / 2=((i / 2 ^ k / 2:Nat):Int):=by omega
    rw [h1,this]
   refine ⟨_,(zx (ρ':=[.fz (.int ((i / 2 ^ k:Nat):Int)),.fz (.int b),.fz (.str (zdO i (k + 1))),.fz (.int (c:Int))]) (zN (d:=.str (zdO i (k + 1))) (z8 (a:=.str [48 + i / 2 ^ k % 2]) (b:=.str (zdO i k)) (jO (zG e1 rfl) e2) rfl (vQ (by rw [zcg]; show 1 + k≤_; omega))))).trans (zN e3),.fz (.int (c:Int)),rfl⟩)
 rw [List.length_range] at this
 exact this
noncomputable def W (n:Nat):List (List Nat):=(List.range n).map fun i=>zdO i (zL n)
theorem zbk (n:Nat):(W n).length=n:=by simp [W]
theorem W_el {n:Nat}{w:List Nat}(h:w∈W n):w.length=zL n:=by
 obtain ⟨i,_,rfl⟩:=List.mem_map.mp h
 exact zcg i _
theorem W_lt:∀n < 33,(W n).Pairwise (· < ·):=by decide +kernel
theorem w6 {B:List (List Nat)}(h:B.length≤32):wJ [.tup (sT B)]=.ok (.lst (sT (W B.length))):=by
 have hb5:=zda B.length
 have el:fO uH (zb (fNm 0) zA) [.fz (.tup (sT B)),.no]=.ok (.int (B.length:Int)):=by
  show Rs.ok (D.int ((sT B).length:Int))=_; rw [yu]
 refine z7 ((zx (ρ':=[.fz (.tup (sT B)),.fz (.int ((zL B.length:Nat):Int))]) (zN ((fA1 el).trans (jh h)))).trans (xH ?_))
 have el2:fO uH (zb (fNm 0) zA) [.fz (.tup (sT B)),.fz (.int ((zL B.length:Nat):Int))]=.ok (.int (B.length:Int)):=by
  show Rs.ok (D.int ((sT B).length:Int))=_; rw [yu]
 refine wF (zc6 (zG el2 rfl) (qi (by omega))) (by rw [List.length_map,List.length_range]; omega) ?_
 have:=yQ (fe:=fA (ari 2 qw) (zb (fNm 0) (zb (fNm 1) zA))) (ρ0:=[.no,.fz (.int ((zL B.length:Nat):Int))]) (l:=List.range B.length) (enc:=fun (k:Nat)=>D.int (k:Int)) (fun i=>.str (zdO i (zL B.length))) fun i hi=>(fA2 (a:=.int (i:Int)) (b:=.int ((zL B.length:Nat):Int)) rfl rfl).trans (word_for_eq (by have:=List.mem_range.mp hi; omega) (by omega))
 unfold sT W
 rw [List.map_map]
 exact this
end Pg
namespace Pg
open PySem L2 My
theorem idx_lt {L:List (List Nat)}(s:L.Pairwise (· < ·)){j:Nat}(h:j < L.length):L.idxOf L[j]=j:=by
 have h1:=List.idxOf_lt_length_of_mem (List.getElem_mem h)
 have h2:L[L.idxOf L[j]]=L[j]:=List.getElem_idxOf h1
 rcases Nat.lt_trichotomy (L.idxOf L[j]) j with z | z | z
 ·have:=List.pairwise_iff_getElem.mp s _ _ h1 h z
  rw [h2] at this
  exact absurd this (List.lt_irrefl _)
 ·exact z
 ·have:=List.pairwise_iff_getElem.mp s _ _ h h1 z
  rw [h2] at this
  exact absurd this (List.lt_irrefl _)
noncomputable def wd (B:List (List Nat))(p:List Nat):List Nat:=(W B.length).getD (B.idxOf p) []
theorem zcx {B:List (List Nat)}{p:List Nat}(h:p∈B):wd B p∈W B.length:=by
 have h1:=List.idxOf_lt_length_of_mem h
 have h2:B.idxOf p < (W B.length).length:=by rw [zbk]; exact h1
 unfold wd
 rw [List.getD_eq_getElem?_getD,List.getElem?_eq_getElem h2]
 exact List.getElem_mem h2
theorem wd_idx {B:List (List Nat)}{p:List Nat}(hl:B.length≤32)(h:p∈B):(W B.length).idxOf (wd B p)=B.idxOf p:=by
 have h1:=List.idxOf_lt_length_of_mem h
 have h2:B.idxOf p < (W B.length).length:=by rw [zbk]; exact h1
 have e:wd B p=(W B.length)[B.idxOf p]:=by
  unfold wd
  rw [List.getD_eq_getElem?_getD,List.getElem?_eq_getElem h2]; rfl
 rw [e]
 exact idx_lt (W_lt _ (by omega)) h2
theorem zcb {B:List (List Nat)}{p:List Nat}(h:p∈B):wD [.tup (sT B),.str p]=.ok .non:=by
 refine runD_nx (ifF (xU ?_))
 refine z8 (a:=.str p) (b:=.tup (sT B)) rfl rfl ?_
 show inQ true (.str p) (sT B)=_
 rw [inQ_sT,decide_eq_true h]; rfl
theorem word_of_eq {m:Nat}{B:List (List Nat)}(hp:Pcs m B)(hb:isBook m B=true){p:List Nat}(h:p∈B):wA [.int m,.tup (sT B),.str p]=.ok (.str (wd B p)):=by
 have hl:=hp.2.2.2.1
 have h1:=List.idxOf_lt_length_of_mem h
 refine z7 ((zx (vK ((fA2 (a:=.int m) (b:=.tup (sT B)) rfl rfl).trans (yg hp hb)))).trans ((zx (vK ((fA2 (a:=.tup (sT B)) (b:=.str p) rfl rfl).trans (zcb h)))).trans (xH ?_)))
 ·refine z8 (a:=.lst (sT (W B.length))) (b:=.int ((B.idxOf p:Nat):Int)) ((fA1 (a:=.tup (sT B)) rfl).trans (w6 hl)) (zdb (a:=.tup (sT B)) (b:=.str p) rfl rfl rfl ?_) ?_
  ·dsimp only [idxD]
   rw [qu,if_pos ⟨u6 B,by rw [yu]; omega,h⟩]
  ·exact zdo (by rw [zbk]; exact h1)
theorem zdC {m:Nat}{B:List (List Nat)}(hp:Pcs m B)(hb:isBook m B=true){p:List Nat}(h:p∈B):xJ [.int m,.tup (sT B),.str (wd B p)]=.ok (.str p):=by
 have hl:=hp.2.2.2.1
 have h1:=List.idxOf_lt_length_of_mem h
 have hw:=zcx h
 refine z7 ((zx (vK ((fA2 (a:=.int m) (b:=.tup (sT B)) rfl rfl).trans (yg hp hb)))).trans ((zx (ρ':=[.fz (.int m),.fz (.tup (sT B)),.fz (.str (wd B p)),.fz (.lst (sT (W B.length)))]) (zN ((fA1 (a:=.tup (sT B)) rfl).trans (w6 hl)))).trans ((zx (ifF (xU ?_))).trans (xH ?_))))
 ·refine z8 (a:=.str (wd B p)) (b:=.lst (sT (W B.length))) rfl rfl ?_
  show inQ true (.str (wd B p)) (sT (W B.length))=_
  rw [inQ_sT,decide_eq_true hw]; rfl
 ·refine z8 (a:=.tup (sT B)) (b:=.int ((B.idxOf p:Nat):Int)) rfl (zdb (a:=.lst (sT (W B.length))) (b:=.str (wd B p)) rfl rfl rfl ?_) ?_
  ·dsimp only [idxD]
   rw [qu,if_pos ⟨u6 _,by rw [yu,zbk]; omega,hw⟩,wd_idx hl h]
  ·refine (zdo h1).trans ?_
   rw [List.getD_eq_getElem?_getD,List.getElem?_eq_getElem h1]
   show some (D.str B[B.idxOf p])=_
   rw [List.getElem_idxOf h1]
theorem putD_new {ds:List (List Nat×D)}{k:List Nat}{v:D}(h:∀kv∈ds,kv.1≠k):putD ds k v=ds++[(k,v)]:=by
 unfold putD
 rw [if_neg]
 intro z
 obtain ⟨kv,hm,e⟩:=List.any_eq_true.mp z
 exact h kv hm (of_decide_eq_true e)
theorem zipL_eq {ks:List (List Nat)}{ds:List D}(s:ks.Pairwise (· < ·))(hl:ks.length=ds.length):zipL ks ds=ks.zip ds:=by
 have key:∀n,n≤ks.length→(List.range n).foldl (fun m j=>putD m (ks.getD j []) (ds.getD j .non)) []=(ks.zip ds).take n:=by
  intro n
  induction n with
  | zero=>intro _; rfl
  | succ n ih =>
   intro hn
   have h1:n < ks.length:=by omega
   have h2:n < ds.length:=by omega
   have h3:n < (ks.zip ds).length:=by rw [List.length_zip]; omega
   rw [List.range_succ,List.foldl_append,ih (by omega)]
   show putD ((ks.zip ds).take n) (ks.getD n []) (ds.getD n .non)=_
   have e1:ks.getD n []=ks[n]:=by rw [List.getD_eq_getElem?_getD,List.getElem?_eq_getElem h1]; rfl
   have e2:ds.getD n .non=ds[n]:=by rw [List.getD_eq_getElem?_getD,List.getElem?_eq_getElem h2]; rfl
   rw [e1,e2,putD_new,List.take_add_one,List.getElem?_eq_getElem h3,List.getElem_zip]; rfl
   intro kv hkv z
   obtain ⟨i,hi,e⟩:=List.mem_iff_getElem.mp hkv
   rw [List.length_take] at hi
   rw [List.getElem_take,List.getElem_zip] at e
   subst e
   have:=List.pairwise_iff_getElem.mp s i n (by omega) h1 (by omega)
   dsimp only at z
   rw [z] at this
   exact List.lt_irrefl _ this
 unfold zipL
 rw [← hl,Nat.min_self,key _ (Nat.le_refl _),List.take_of_length_le (by rw [List.length_zip]; omega)]
theorem zb8:∀(ks:List (List Nat)) (ds:List D) {k:List Nat},k∈ks→ks.length=ds.length→zar (ks.zip ds) k=ds[ks.idxOf k]?
 | [],_,_,h,_=>by simp at h
 | _::_,[],_,_,h=>by simp at h
 | a :: ks,d::ds,k,h,hl=>by
  by_cases e:a=k
  ·subst e
   simp [zar]
  ·have hk:k∈ks:=by
    rcases List.mem_cons.mp h with z | z
    ·exact absurd z.symm e
    ·exact z
   have ih:=zb8 ks ds hk (by simpa using hl)
   have e2:(a::ks).idxOf k=ks.idxOf k + 1:=by rw [List.idxOf_cons,beq_eq_false_iff_ne.mpr e]; rfl
   rw [e2]
   show _=ds[ks.idxOf k]?
   rw [← ih]
   simp [zar,e]
theorem zip_words {B:List (List Nat)}(s:B.Pairwise (· < ·))(hl:B.length≤32):zbP (.tup (sT B)) (.lst (sT (W B.length)))=some (.dct (B.zip (sT (W B.length)))):=by
 have:zbP (.tup (sT B)) (.lst (sT (W B.length)))=if (sT B).all isS=true∧(sT B).length≤1000 then some (.dct (zipL ((sT B).map unS) (sT (W B.length)))) else none:=rfl
 rw [this,if_pos ⟨u6 B,by rw [yu]; omega⟩,qu,zipL_eq s (by rw [yu,zbk])]
theorem zip_back {B:List (List Nat)}(hl:B.length≤32):zbP (.lst (sT (W B.length))) (.tup (sT B))=some (.dct ((W B.length).zip (sT B))):=by
 have:zbP (.lst (sT (W B.length))) (.tup (sT B))=if (sT (W B.length)).all isS=true∧(sT (W B.length)).length≤1000 then some (.dct (zipL ((sT (W B.length)).map unS) (sT B))) else none:=rfl
 rw [this,if_pos ⟨u6 _,by rw [yu,zbk]; omega⟩,qu,zipL_eq (W_lt _ (by omega)) (by rw [yu,zbk])]
theorem get_word {B:List (List Nat)}{p:List Nat}(h:p∈B):getD (.dct (B.zip (sT (W B.length)))) (.str p)=some (.str (wd B p)):=by
 have h1:=List.idxOf_lt_length_of_mem h
 have h2:B.idxOf p < (W B.length).length:=by rw [zbk]; exact h1
 show zar _ p=_
 rw [zb8 _ _ h (by rw [yu,zbk])]
 unfold sT wd
 rw [List.getElem?_map,List.getD_eq_getElem?_getD,List.getElem?_eq_getElem h2]; rfl
theorem zb4 {B:List (List Nat)}(hl:B.length≤32){p:List Nat}(h:p∈B):zar ((W B.length).zip (sT B)) (wd B p)=some (.str p):=by
 have h1:=List.idxOf_lt_length_of_mem h
 rw [zb8 _ _ (zcx h) (by rw [yu,zbk]),wd_idx hl h]
 unfold sT
 rw [List.getElem?_map,List.getElem?_eq_getElem h1,List.getElem_idxOf h1]; rfl
theorem flat_len {B:List (List Nat)}{cs:List (List Nat)}(h:∀p∈cs,p∈B):(cs.map (wd B)).flatten.length=zL B.length * cs.length:=by
 induction cs with
 | nil=>rfl
 | cons p cs ih =>
  rw [List.map_cons,List.flatten_cons,List.length_append,ih fun q hq=>h q (.tail _ hq),W_el (zcx (h p (.head _))),List.length_cons,Nat.mul_succ]
  omega
theorem led_by_eq {B:List (List Nat)}(h32:B.length≤32)(s:B.Pairwise (· < ·)){l:List Nat}(hl:l.length≤1000):za3 [.tup (sT B),.str l]=.ok (.tup [.str ((uc B l).1.map (wd B)).flatten,.str (uc B l).2]):=by
 obtain ⟨_,hin,_⟩:=zaO B l
 have hlen:=(zaq B l).1
 have hb5:=zda B.length
 have ec:=cut_by_eq (ps:=B) hl
 generalize uc B l=cf at *
 obtain ⟨cs,left⟩:=cf
 dsimp only at hin hlen ec ⊢
 refine z7 ((zx (ρ':=[.fz (.tup (sT B)),.fz (.str l),.fz (.tup [.lst (sT cs),.str left]),.no]) (zN ((fA2 (a:=.tup (sT B)) (b:=.str l) rfl rfl).trans ec))).trans ?_)
 refine (zx (ρ':=[.fz (.tup (sT B)),.fz (.str l),.fz (.tup [.lst (sT cs),.str left]),.fz (.dct (B.zip (sT (W B.length))))]) (zN (z8 (a:=.tup (sT B)) (b:=.lst (sT (W B.length))) rfl ((fA1 (a:=.tup (sT B)) rfl).trans (w6 h32)) (zip_words s h32)))).trans (xH ?_)
 have e1:=yQ (fe:=f2 getD (fNm 1) (fNm 0)) (ρ0:=[.no,.fz (.dct (B.zip (sT (W B.length))))]) (l:=cs) (enc:=D.str) (fun p=>.str (wd B p)) fun p hpc=>z8 (a:=.dct (B.zip (sT (W B.length)))) (b:=.str p) rfl rfl (get_word (hin p hpc))
 have hfl:=flat_len hin
 have hcl:zL B.length * cs.length≤5 * 1000:=Nat.mul_le_mul hb5 (by omega)
 refine jO (ds:=[.str (cs.map (wd B)).flatten,.str left]) (zG (zdb (a:=.str []) (b:=.lst (sT (cs.map (wd B)))) rfl rfl (wF (ds:=cs.map .str) rfl (by rw [List.length_map]; omega) ?_) ?_) rfl) rfl
 ·have:sT (cs.map (wd B))=cs.map fun p=>.str (wd B p):=by unfold sT; rw [List.map_map]; rfl
  rw [this]; exact e1
 ·dsimp only [jf]
  rw [qu,if_pos ⟨u6 _,by omega⟩]
theorem led_eq {m:Nat}{B:List (List Nat)}(hp:Pcs m B)(hb:isBook m B=true)(s:B.Pairwise (· < ·)){l:List Nat}(hx:LetOk m l)(hl:l.length≤1000):jF [.int m,.tup (sT B),.str l]=.ok (.tup [.str ((uc B l).1.map (wd B)).flatten,.str (uc B l).2]):=by
 refine z7 ((zx (ρ':=[.fz (.int m),.fz (.tup (sT B)),.fz (.str l)]) ?_).trans ((zx (ρ':=[.fz (.int m),.fz (.tup (sT B)),.fz (.str l)]) ?_).trans (xH ?_)))
 ·show (match z9 [.int m,.tup (sT B)] with | .ok _=>Out.nx [.fz (.int m),.fz (.tup (sT B)),.fz (.str l)] | .ex n=>.ex n | .no=>.no)=_
  rw [yg hp hb]
 ·show (match xV [.int m,.str l] with | .ok _=>Out.nx [.fz (.int m),.fz (.tup (sT B)),.fz (.str l)] | .ex n=>.ex n | .no=>.no)=_
  rw [zaI hp.2.1 hx (by omega)]
 ·exact led_by_eq hp.2.2.2.1 s hl
theorem cut_at (ws:List (List Nat))(b:Nat)(h:∀w∈ws,w.length=b):∀i (hi:i < ws.length),zae ws.flatten (some ((i * b:Nat):Int)) (some ((i * b + b:Nat):Int))=ws[i]:=by
 have key:∀(ws:List (List Nat)) (i:Nat),(∀w∈ws,w.length=b)→(hi:i < ws.length)→(ws.flatten.drop (i * b)).take b=ws[i]:=by
  intro ws
  induction ws with
  | nil=>intro i _ hi; simp at hi
  | cons w ws ih =>
   intro i h hi
   have hw:=h w (.head _)
   cases i with
   | zero =>
    rw [Nat.zero_mul,List.drop_zero,List.flatten_cons]
    show (w++ws.flatten).take b=w
    rw [List.take_append_of_le_length (by omega),List.take_of_length_le (by omega)]
   | succ i =>
    rw [List.flatten_cons,Nat.succ_mul,List.drop_append,List.drop_of_length_le (by omega),List.nil_append]
    have:i * b + b - w.length=i * b:=by omega
    rw [this]
    exact ih i (fun w hw=>h w (.tail _ hw)) (by simpa using hi)
 intro i hi
 have hlen:ws.flatten.length=ws.length * b:=by
  clear key hi
  induction ws with
  | nil=>simp
  | cons w ws ih=>rw [List.flatten_cons,List.length_append,ih fun w hw=>h w (.tail _ hw),h w (.head _),List.length_cons,Nat.succ_mul]; omega
 have h1:(i + 1) * b≤ws.length * b:=Nat.mul_le_mul_right b hi
 rw [Nat.succ_mul] at h1
 unfold zae
 have h0:i * b≤ws.length * b:=by omega
 rw [HT.sIx_nat,HT.sIx_nat,hlen,Nat.min_eq_left h0,Nat.min_eq_left h1]
 have:i * b + b - i * b=b:=by omega
 rw [this]
 exact key ws i h hi
theorem kZ {B:List (List Nat)}(h2:2≤B.length)(h32:B.length≤32){ws:List (List Nat)}(h:∀w∈ws,w.length=zL B.length)(hl:ws.length≤1000):wC [.tup (sT B),.str ws.flatten]=.ok (.lst (sT ws)):=by
 have hb5:=zda B.length
 have hb1:1≤zL B.length:=by unfold zL; (repeat' split) <;> omega
 have hlen:ws.flatten.length=ws.length * zL B.length:=by
  clear hl
  induction ws with
  | nil=>simp
  | cons w ws ih=>rw [List.flatten_cons,List.length_append,ih fun w hw=>h w (.tail _ hw),h w (.head _),List.length_cons,Nat.succ_mul]; omega
 have hmul:ws.length * zL B.length≤1000 * 5:=Nat.mul_le_mul hl hb5
 have hcut:=cut_at ws (zL B.length) h
 have hbits:=jh h32
 generalize hbb:zL B.length=b at *
 have el:fO uH (zb (fNm 0) zA) [.fz (.tup (sT B)),.fz (.str ws.flatten),.no]=.ok (.int (B.length:Int)):=by
  show Rs.ok (D.int ((sT B).length:Int))=_; rw [yu]
 refine z7 ((zx (ρ':=[.fz (.tup (sT B)),.fz (.str ws.flatten),.fz (.int (b:Int))]) (zN ((fA1 el).trans hbits))).trans ((zx (ifF (zcu (jm (b:=true) (xU rfl)) (xU ?_)))).trans (xH ?_)))
 ·refine z8 (a:=.int 0) (b:=.int 0) ((qj (i:=(ws.flatten.length:Int)) (j:=(b:Int)) rfl rfl (by omega)).trans ?_) rfl ?_
  ·rw [hlen]
   have:(((ws.length * b:Nat):Int)) % (b:Int)=0:=by rw [Int.natCast_mul]; exact Int.mul_emod_left _ _
   rw [this]
  ·rfl
 ·have er:rng3 [.int 0,.int (ws.flatten.length:Int),.int (b:Int)]=some ((List.range ws.length).map fun (k:Nat)=>.int (0 + (k:Int) * (b:Int))):=by
   dsimp only [rng3]
   rw [if_pos (by omega)]
   have:(((ws.flatten.length:Int)) - 0 + (b:Int) - 1) / (b:Int)=(ws.length:Int):=by
    rw [hlen,Int.natCast_mul]
    have e1:(ws.length:Int) * (b:Int) - 0 + (b:Int) - 1=((b:Int) - 1) + (ws.length:Int) * (b:Int):=by omega
    rw [e1,Int.add_mul_ediv_right _ _ (by omega),Int.ediv_eq_zero_of_lt (by omega) (by omega)]
    omega
   rw [this]; rfl
  refine wF (ds:=(List.range ws.length).map fun (k:Nat)=>.int (0 + (k:Int) * (b:Int))) (zc6 (ds:=[.int 0,.int (ws.flatten.length:Int),.int (b:Int)]) rfl er) (by rw [List.length_map,List.length_range]; omega) ?_
  have:=yQ (fe:=fSl (fNm 1) (yS (fNm 0)) (yS (f2 uY (fNm 0) (fNm 2)))) (ρ0:=[.no,.fz (.str ws.flatten),.fz (.int (b:Int))]) (l:=List.range ws.length) (enc:=fun (k:Nat)=>D.int (0 + (k:Int) * (b:Int))) (fun i=>.str (ws.getD i [])) fun i hi=>by
   have hi':=List.mem_range.mp hi
   have e1:(0 + (i:Int) * (b:Int))=((i * b:Nat):Int):=by rw [Int.natCast_mul]; omega
   have e2:(0 + (i:Int) * (b:Int)) + (b:Int)=((i * b + b:Nat):Int):=by rw [Int.natCast_add,Int.natCast_mul]; omega
   refine jZ (a:=.str ws.flatten) (l:=some (0 + (i:Int) * (b:Int))) (h:=some ((0 + (i:Int) * (b:Int)) + (b:Int))) rfl rfl rfl ?_
   show some (D.str (zae ws.flatten (some (0 + (i:Int) * (b:Int))) (some ((0 + (i:Int) * (b:Int)) + (b:Int)))))=_
   rw [e2,e1,hcut i hi',List.getD_eq_getElem?_getD,List.getElem?_eq_getElem hi']; rfl
  have e3:sT ws=(List.range ws.length).map fun i=>.str (ws.getD i []):=by
   refine List.ext_getElem (by simp [sT]) fun j h1 h2=>?_
   have hj:j < ws.length:=by rw [yu] at h1; exact h1
   simp [sT,hj]
  rw [e3]; exact this
end Pg
namespace Pg
open PySem L2 My
end Pg
namespace Pg
open PySem L2 My
noncomputable def qF (ws:List Int)(a:Int):Int×Int:=low a (ws.sum ^ 8)
theorem getD_some {B:List (List Nat)}{j:Nat}(hj:j < B.length):B[j]? = some (B.getD j []):=by
 rw [List.getD_eq_getElem?_getD,List.getElem?_eq_getElem hj]; rfl
section
variable {ws:List Int}(h:SrcOk ws)
include h
end
theorem getD_mem {B:List (List Nat)}{j:Nat}(hj:j < B.length):B.getD j []∈B:=by
 rw [List.getD_eq_getElem?_getD,List.getElem?_eq_getElem hj]; exact List.getElem_mem hj
end Pg
namespace My
theorem jw {q p:List Nat}(h:q <+: p)(hn:q≠p):q <+: p.dropLast:=by
 rcases List.eq_nil_or_concat p with rfl | ⟨l,c,rfl⟩
 ·exact absurd (List.prefix_nil.mp h) hn
 ·rw [List.concat_eq_append] at h hn ⊢
  rw [List.dropLast_concat]
  rcases List.prefix_concat_iff.mp h with e | e
  ·exact absurd e hn
  ·exact e
theorem drop_ne {p:List Nat}(h:p≠[]):p.dropLast≠p:=fun e=>by
 have:=congrArg List.length e
 have:=List.length_pos_iff.mpr h
 rw [List.length_dropLast] at *
 omega
theorem Inner.pre {B:List (List Nat)}{x y:List Nat}(h:Inner B y)(p:x <+: y):Inner B x:=by
 obtain ⟨q,hq,hy,hn⟩:=h
 refine ⟨q,hq,p.trans hy,fun e=>hn ?_⟩
 subst e
 exact hy.eq_of_length (Nat.le_antisymm hy.length_le p.length_le)
theorem Book.inner_not {m:Nat}{B:List (List Nat)}(h:Book m B){x y:List Nat}(hx:Inner B x)(hy:y <+: x):y∉B:=fun hyB=>h.free hx y hy (h.ne y hyB) hyB
theorem Book.mem_iff {m:Nat}{B:List (List Nat)}(h:Book m B){p:List Nat}:p∈B↔p≠[]∧LetOk m p∧Inner B p.dropLast∧¬Inner B p:=by
 constructor
 ·intro hp
  exact ⟨h.ne p hp,h.let_ p hp,⟨p,hp,List.dropLast_prefix p,drop_ne (h.ne p hp)⟩,fun hi=>h.inner_not hi (List.prefix_refl p) hp⟩
 ·rintro ⟨hn,hl,hi,hni⟩
  obtain ⟨q,hq,e | e⟩:=h.cv p hl
  ·by_cases eq:q=p
   ·exact eq ▸ hq
   ·exact absurd hq (h.inner_not hi (jw e eq))
  ·by_cases eq:p=q
   ·exact eq ▸ hq
   ·exact absurd ⟨q,hq,e,eq⟩ hni
theorem Book.ext {m:Nat}{B C:List (List Nat)}(h:Book m B)(k:Book m C)(e:∀x,Inner B x↔Inner C x):B=C:=by
 have p:B.Perm C:=(List.perm_ext_iff_of_nodup h.nd k.nd).mpr fun p=>by rw [h.mem_iff,k.mem_iff,e,e]
 exact List.Perm.eq_of_pairwise (fun _ _ _ _ h k=>List.le_antisymm h k) h.srt k.srt p
structure Clo (m:Nat)(P:List Nat→Prop):Prop where
 nil:P []
 let_:∀x,P x→LetOk m x
 pre:∀x y,x <+: y→P y→P x
 bd:∃N,∀x,P x→x.length < N
theorem Book.clo {m:Nat}{B:List (List Nat)}(h:Book m B):Clo m (Inner B) where
 nil:=h.nilInner
 let_:=fun x hx=>h.innerLet hx
 pre:=fun x y p hy=>hy.pre p
 bd := by
  have:∃N,∀p∈B,p.length≤N:=by
   clear h
   induction B with
   | nil=>exact ⟨0,by simp⟩
   | cons q B ih =>
    obtain ⟨N,hN⟩:=ih
    refine ⟨max N q.length,fun p hp=>?_⟩
    rcases List.mem_cons.mp hp with rfl | hp
    ·exact Nat.le_max_right _ _
    ·exact Nat.le_trans (hN p hp) (Nat.le_max_left _ _)
  obtain ⟨N,hN⟩:=this
  refine ⟨N + 1,fun x hq38=>?_⟩
  obtain ⟨p,hp,hx,_⟩:=hq38
  have:=hN p hp
  have:=hx.length_le
  omega
theorem Book.of {m:Nat}(m2:2≤m)(m4:m≤4){P:List Nat→Prop}(c:Clo m P){L:List (List Nat)}(s:L.Pairwise (·≤·))(n:L.Nodup)(hm:∀p,p∈L↔p≠[]∧LetOk m p∧P p.dropLast∧¬P p):Book m L∧∀x,Inner L x↔P x:=by
 have h97:97∈abcd.take m:=uI m4 (by omega)
 obtain ⟨N,hN⟩:=c.bd
 have up:∀(k:Nat) (x:List Nat),P x→N≤x.length + k→∃q∈L,x <+: q∧x≠q:=by
  intro k
  induction k with
  | zero=>intro x hx hk; have:=hN x hx; omega
  | succ k ih =>
   intro x hx hk
   by_cases hy:P (x++[97])
   ·obtain ⟨q,hq,h1,h2⟩:=ih (x++[97]) hy (by simp; omega)
    refine ⟨q,hq,(List.prefix_append _ _).trans h1,fun e=>?_⟩
    have:=h1.length_le
    rw [← e,List.length_append,List.length_singleton] at this
    omega
   ·refine ⟨x++[97],(hm _).mpr ⟨by simp,(c.let_ x hx).app (LetOk.one h97),?_,hy⟩,List.prefix_append _ _,fun e=>zbS x 97 e.symm⟩
    rw [List.dropLast_concat]; exact hx
 have down:∀(k:Nat) (x:List Nat),x.length≤k→LetOk m x→¬P x→∃q∈L,q <+: x:=by
  intro k
  induction k with
  | zero =>
   intro x hk _ hx
   have:x=[]:=List.length_eq_zero_iff.mp (by omega)
   subst this
   exact absurd c.nil hx
  | succ k ih =>
   intro x hk hl hx
   have hne:x≠[]:=fun e=>hx (e ▸ c.nil)
   by_cases hd:P x.dropLast
   ·exact ⟨x,(hm x).mpr ⟨hne,hl,hd,hx⟩,List.prefix_refl x⟩
   ·obtain ⟨q,hq,e⟩:=ih x.dropLast (by rw [List.length_dropLast]; omega) (hl.pre (List.dropLast_prefix x)) hd
    exact ⟨q,hq,e.trans (List.dropLast_prefix x)⟩
 have inn:∀x,Inner L x↔P x:=fun x=>by
  constructor
  ·rintro ⟨p,hp,h1,h2⟩
   exact c.pre _ _ (jw h1 h2) ((hm p).mp hp).2.2.1
  ·intro hx
   obtain ⟨q,hq,h1,h2⟩:=up N x hx (by omega)
   exact ⟨q,hq,h1,h2⟩
 refine ⟨⟨m2,m4,fun p hp=>((hm p).mp hp).2.1,fun p hp=>((hm p).mp hp).1,fun p hp q hq h=>?_,fun x hx=>?_,s,n⟩,inn⟩
 ·by_cases e:p=q
  ·exact e
  ·exact absurd (c.pre _ _ (jw h e) ((hm q).mp hq).2.2.1) ((hm p).mp hp).2.2.2
 ·by_cases hP:P x
  ·obtain ⟨q,hq,h1,_⟩:=up N x hP (by omega)
   exact ⟨q,hq,.inr h1⟩
  ·obtain ⟨q,hq,h1⟩:=down x.length x (Nat.le_refl _) hx hP
   exact ⟨q,hq,.inl h1⟩
noncomputable def Head (m:Nat)(B:List (List Nat))(x:List Nat):Prop:=x≠[]∧∀k∈kids m x,k∈B
noncomputable def zb1 (B:List (List Nat))(x:List Nat):List (List Nat):=sortF (B.filter (fun p=>!x.isPrefixOf p)++[x])
theorem Head.inner {m:Nat}{B:List (List Nat)}(h:Book m B){x:List Nat}(hx:Head m B x):Inner B x:=by
 have h97:97∈abcd.take m:=uI h.m4 (by have:=h.m2; omega)
 exact ⟨x++[97],hx.2 _ (kids_mem.mpr ⟨97,h97,rfl⟩),List.prefix_append _ _,fun e=>zbS x 97 e.symm⟩
theorem Head.top {m:Nat}{B:List (List Nat)}(h:Book m B){x y:List Nat}(hx:Head m B x)(hy:Inner B y)(p:x <+: y):y=x:=by
 obtain ⟨r,rfl⟩:=p
 cases r with
 | nil=>simp
 | cons c r =>
  have hc:=h.innerLet hy c (by simp)
  exact absurd (hx.2 _ (kids_mem.mpr ⟨c,uI h.m4 hc,rfl⟩)) (h.inner_not hy ⟨r,by simp⟩)
theorem Book.join {m:Nat}{B:List (List Nat)}(h:Book m B){x:List Nat}(hx:Head m B x):Book m (zb1 B x)∧∀y,Inner (zb1 B x) y↔Inner B y∧y≠x:=by
 have hi:=hx.inner h
 have hxB:x∉B:=h.inner_not hi (List.prefix_refl x)
 refine Book.of h.m2 h.m4 (P:=fun y=>Inner B y∧y≠x) ⟨⟨h.nilInner,fun e=>hx.1 e.symm⟩,fun y hy=>h.innerLet hy.1,fun y z p hz=>⟨hz.1.pre p,fun e=>hz.2 (hx.top h hz.1 (e ▸ p))⟩,?_⟩ (zax _) ?_ fun p=>?_
 ·obtain ⟨N,hN⟩:=h.clo.bd
  exact ⟨N,fun y hy=>hN y hy.1⟩
 ·refine (vP _).nodup_iff.mpr (List.nodup_append.mpr ⟨h.nd.filter _,by simp,fun a ha b hb e=>?_⟩)
  rw [List.mem_singleton.mp hb] at e
  subst e
  exact hxB (List.mem_filter.mp ha).1
 ·unfold zb1
  rw [sortF_mem,List.mem_append,List.mem_filter,List.mem_singleton]
  have nb:(!x.isPrefixOf p)=true↔¬x <+: p:=by rw [Bool.not_eq_true',← Bool.not_eq_true,List.isPrefixOf_iff_prefix]
  rw [nb]
  constructor
  ·rintro (⟨hp,hnp⟩ | rfl)
   ·obtain ⟨a,b,c,d⟩:=h.mem_iff.mp hp
    exact ⟨a,b,⟨c,fun e=>hnp (e ▸ List.dropLast_prefix p)⟩,fun e=>d e.1⟩
   ·exact ⟨hx.1,h.innerLet hi,⟨hi.pre (List.dropLast_prefix _),drop_ne hx.1⟩,fun e=>e.2 rfl⟩
  ·rintro ⟨a,b,⟨c,c'⟩,d⟩
   by_cases e:p=x
   ·exact .inr e
   ·have hp:p∈B:=h.mem_iff.mpr ⟨a,b,c,fun z=>d ⟨z,e⟩⟩
    exact .inl ⟨hp,fun z=>c' (hx.top h c (jw z fun z'=>e z'.symm))⟩
theorem Book.partAt {m:Nat}{B:List (List Nat)}(h:Book m B){p:List Nat}(hp:p∈B):Book m (My.part m B (B.idxOf p))∧∀x,Inner (My.part m B (B.idxOf p)) x↔Inner B x∨x=p:=by
 have hj:B.idxOf p < B.length:=List.idxOf_lt_length_iff.mpr hp
 refine ⟨h.part hj,fun x=>?_⟩
 rw [zay h.m2 h.m4 h hj]
 have:B.getD (B.idxOf p) []=p:=by rw [List.getD_eq_getElem?_getD,List.getElem?_eq_getElem hj]; exact List.getElem_idxOf hj
 rw [this]
theorem Book.head_mem {m:Nat}{B:List (List Nat)}(h:Book m B){x:List Nat}(hx:Head m B x):x∈zb1 B x:=by
 unfold zb1; rw [sortF_mem]; simp
theorem Book.join_part {m:Nat}{B:List (List Nat)}(h:Book m B){x:List Nat}(hx:Head m B x):My.part m (zb1 B x) ((zb1 B x).idxOf x)=B:=by
 obtain ⟨hb,hi⟩:=h.join hx
 obtain ⟨kb,ki⟩:=hb.partAt (h.head_mem hx)
 refine kb.ext h fun y=>?_
 rw [ki,hi]
 constructor
 ·rintro (⟨a,_⟩ | rfl)
  ·exact a
  ·exact hx.inner h
 ·intro a
  by_cases e:y=x
  ·exact .inr e
  ·exact .inl ⟨a,e⟩
theorem kids_inner {m:Nat}(m2:2≤m)(m4:m≤4)(x:List Nat):Inner (kids m []) x↔x=[]:=by
 constructor
 ·rintro ⟨p,hp,hx,hn⟩
  obtain ⟨c,_,rfl⟩:=kids_mem.mp hp
  rcases List.prefix_concat_iff.mp hx with e | e
  ·exact absurd e hn
  ·exact List.prefix_nil.mp e
 ·rintro rfl
  exact (Book.letters m2 m4).nilInner
theorem longest (L:List (List Nat))(P:List Nat→Prop) [DecidablePred P](h:∃x∈L,P x):∃x∈L,P x∧∀y∈L,P y→y.length≤x.length:=by
 induction L with
 | nil=>obtain ⟨x,hx,_⟩:=h; cases hx
 | cons a L ih =>
  by_cases hL:∃x∈L,P x
  ·obtain ⟨x,hx,px,mx⟩:=ih hL
   by_cases ha:P a∧x.length≤a.length
   ·refine ⟨a,.head _,ha.1,fun y hy py=>?_⟩
    rcases List.mem_cons.mp hy with rfl | hy
    ·exact Nat.le_refl _
    ·exact Nat.le_trans (mx y hy py) ha.2
   ·refine ⟨x,.tail _ hx,px,fun y hy py=>?_⟩
    rcases List.mem_cons.mp hy with rfl | hy
    ·have:¬x.length≤y.length:=fun z=>ha ⟨py,z⟩
     omega
    ·exact mx y hy py
  ·obtain ⟨x,hx,px⟩:=h
   rcases List.mem_cons.mp hx with rfl | hx
   ·refine ⟨x,.head _,px,fun y hy py=>?_⟩
    rcases List.mem_cons.mp hy with rfl | hy
    ·exact Nat.le_refl _
    ·exact absurd ⟨y,hy,py⟩ hL
   ·exact absurd ⟨x,hx,px⟩ hL
theorem Book.hasHead {m:Nat}{B:List (List Nat)}(h:Book m B)(hx:∃x,Inner B x∧x≠[]):∃x,Head m B x:=by
 obtain ⟨x0,h0,h1⟩:=hx
 obtain ⟨x,hxk,hxn,hmax⟩:=longest (yw B) (fun x=>x≠[]) ⟨x0,innerKeys_mem.mpr h0,h1⟩
 refine ⟨x,hxn,fun k hk=>?_⟩
 obtain ⟨c,hc,rfl⟩:=kids_mem.mp hk
 rcases h.step (innerKeys_mem.mp hxk) hc with ⟨a,_⟩ | ⟨_,a⟩
 ·have:=hmax _ (innerKeys_mem.mpr a) (by simp)
  rw [List.length_append,List.length_singleton] at this
  omega
 ·exact a
theorem join_keys {m:Nat}{B:List (List Nat)}(h:Book m B){x:List Nat}(hx:Head m B x):(yw (zb1 B x)).length + 1≤(yw B).length:=by
 obtain ⟨hb,hi⟩:=h.join hx
 have:(x::yw (zb1 B x)).length≤(yw B).length:=by
  refine List.Nodup.length_le_of_subset (List.nodup_cons.mpr ⟨fun z=>((hi x).mp (innerKeys_mem.mp z)).2 rfl,uz _⟩) fun y hy=>?_
  rcases List.mem_cons.mp hy with rfl | hy
  ·exact innerKeys_mem.mpr (hx.inner h)
  ·exact innerKeys_mem.mpr ((hi y).mp (innerKeys_mem.mp hy)).1
 simpa using this
theorem Book.gr {m:Nat}:∀(n:Nat) {B:List (List Nat)},Book m B→(yw B).length≤n→∃t,Gr m t B:=by
 intro n
 induction n with
 | zero =>
  intro B h hn
  have:[]∈yw B:=innerKeys_mem.mpr h.nilInner
  rw [List.length_eq_zero_iff.mp (Nat.le_zero.mp hn)] at this
  cases this
 | succ n ih =>
  intro B h hn
  by_cases hx:∃x,Inner B x∧x≠[]
  ·obtain ⟨x,hx⟩:=h.hasHead hx
   obtain ⟨t,g⟩:=ih (h.join hx).1 (by have:=join_keys h hx; omega)
   refine ⟨t + 1,?_⟩
   have:=Gr.s g (List.idxOf_lt_length_iff.mpr (h.head_mem hx))
   rwa [h.join_part hx] at this
  ·refine ⟨0,?_⟩
   have e:B=kids m []:=h.ext (Book.letters h.m2 h.m4) fun x=>by
    rw [kids_inner h.m2 h.m4]
    constructor
    ·intro hi
     by_cases e:x=[]
     ·exact e
     ·exact absurd ⟨x,hi,e⟩ hx
    ·rintro rfl; exact h.nilInner
   rw [e]; exact Gr.z
theorem Book.grAt {m:Nat}{B:List (List Nat)}(h:Book m B):∃t,Gr m t B∧(yw B).length=t + 1∧B.length=m + t * (m - 1):=by
 obtain ⟨t,g⟩:=Book.gr _ h (Nat.le_refl _)
 exact ⟨t,g,g.keysEq h.m2 h.m4,g.len h.m2 h.m4⟩
end My
namespace My
theorem zcp:∀{ps:List (List Nat)},rising ps=true→ps.Pairwise (· < ·)
 | [],_=>.nil
 | [a],_=>List.pairwise_singleton _ _
 | a::b::l,h=>by
  have h':decide (a < b)=true∧rising (b::l)=true:=by
   unfold rising at h ⊢
   simpa using h
  have ih:=zcp h'.2
  refine List.pairwise_cons.mpr ⟨fun x hx=>?_,ih⟩
  rcases List.mem_cons.mp hx with rfl | hx
  ·exact of_decide_eq_true h'.1
  ·exact List.lt_trans (of_decide_eq_true h'.1) ((List.pairwise_cons.mp ih).1 x hx)
theorem lt_more:∀(p:List Nat) (c:Nat) (r:List Nat),p < p++c::r
 | [],c,r=>List.nil_lt_cons c r
 | a::p,c,r=>List.cons_lt_cons_iff.mpr (.inr ⟨rfl,lt_more p c r⟩)
theorem pf_of {ps:List (List Nat)}(s:ps.Pairwise (· < ·))(h:wQ ps=none):∀p∈ps,∀q∈ps,p <+: q→p=q:=by
 intro p hp q hq e
 obtain ⟨r,rfl⟩:=e
 cases r with
 | nil=>simp
 | cons c r =>
  exfalso
  obtain ⟨z,hz,h1,h2⟩:=next_of s hp hq (lt_more p c r)
  have e:=zaQ p z (c::r) (List.le_of_lt h1) h2
  have:=List.find?_eq_none.mp h _ hz
  exact this (List.isPrefixOf_iff_prefix.mpr e)
theorem fta_cv {m:Nat}(m4:m≤4){ps:List (List Nat)}:∀(n:Nat) (xs:List (List Nat)),fta m ps n xs=none→∀x∈xs,∀r:List Nat,LetOk m r→r≠[]→(∀s,s <+: r→s≠r→s≠[]→isInner ps (x++s)=true)→r.length≤n→xT ps (x++r)=false:=by
 intro n
 induction n with
 | zero=>intro xs _ x _ r _ hr _ hl; exact absurd (List.length_eq_zero_iff.mp (Nat.le_zero.mp hl)) hr
 | succ n ih =>
  intro xs h x hx r hl hr hs hlen
  unfold fta at h
  rw [if_neg (fun e=>by rw [e] at hx; cases hx)] at h
  cases r with
  | nil=>exact absurd rfl hr
  | cons c r =>
   have hy:x++[c]∈zR m xs:=goneOn_in hx (uI m4 (hl c (.head _)))
   split at h
   ·cases h
   ·rename_i hf
    have ha:xT ps (x++[c])=false:=by
     have:=List.find?_eq_none.mp hf _ hy
     simpa using this
    cases r with
    | nil=>exact ha
    | cons d r =>
     have hi:isInner ps (x++[c])=true:=hs [c] ⟨d::r,rfl⟩ (by simp) (by simp)
     have:=ih _ h (x++[c]) (List.mem_filter.mpr ⟨hy,hi⟩) (d::r) (fun z hz=>hl z (.tail _ hz)) (by simp) (fun s hs1 hs2 hs3=>by
      have:=hs (c::s) (List.cons_prefix_cons.mpr ⟨rfl,hs1⟩) (fun e=>hs2 (List.cons.inj e).2) (by simp)
      rw [List.append_assoc]; exact this) (by simp only [List.length_cons] at hlen ⊢; omega)
     rw [List.append_assoc] at this
     exact this
theorem cv_of_text {m:Nat}(m4:m≤4){ps:List (List Nat)}(h8:∀p∈ps,p.length≤8)(hne:ps≠[])(hn:∀p∈ps,p≠[])(h:vB m ps=none):∀x,LetOk m x→∃p∈ps,p <+: x∨x <+: p:=by
 intro x hx
 have key:∀k,k≤x.length→Inner ps (x.take k)∨∃p∈ps,p <+: x:=by
  intro k
  induction k with
  | zero =>
   intro _
   obtain ⟨p,hp⟩:=List.exists_mem_of_ne_nil ps hne
   exact .inl ⟨p,hp,by rw [List.take_zero]; exact List.nil_prefix,fun e=>hn p hp (by rw [← e,List.take_zero])⟩
  | succ k ih =>
   intro hk
   rcases ih (by omega) with hi | hr
   ·by_cases hy:Inner ps (x.take (k + 1))
    ·exact .inl hy
    ·refine .inr ?_
     have l8:=zaz (inner_iff.mpr hi) h8
     rw [List.length_take,Nat.min_eq_left (by omega)] at l8
     have ha:xT ps ([]++x.take (k + 1))=false:=by
      refine fta_cv m4 10 [[]] h [] (by simp) _ (hx.pre (List.take_prefix _ _)) (fun e=>?_) (fun s s1 s2 s3=>?_) (by rw [List.length_take]; omega)
      ·have:=congrArg List.length e
       rw [List.length_take,Nat.min_eq_left hk] at this
       simp at this
      ·rw [List.nil_append]
       have p1:=jw s1 s2
       have e1:(x.take (k + 1)).dropLast=x.take k:=by
        rw [List.dropLast_eq_take,List.length_take,Nat.min_eq_left hk,List.take_take]
        congr 1
        omega
       rw [e1] at p1
       exact inner_iff.mpr (hi.pre p1)
     rw [List.nil_append] at ha
     have hx2:∃p∈ps,x.take (k + 1) <+: p∨p <+: x.take (k + 1):=by
      by_cases hc:∃p∈ps,x.take (k + 1) <+: p∨p <+: x.take (k + 1)
      ·exact hc
      ·have:=apart_iff.mpr (fun p hp=>⟨fun z=>hc ⟨p,hp,.inl z⟩,fun z=>hc ⟨p,hp,.inr z⟩⟩)
       rw [ha] at this
       cases this
     obtain ⟨p,hp,e | e⟩:=hx2
     ·by_cases e2:x.take (k + 1)=p
      ·exact ⟨p,hp,e2 ▸ List.take_prefix _ _⟩
      ·exact absurd ⟨p,hp,e,e2⟩ hy
     ·exact ⟨p,hp,e.trans (List.take_prefix _ _)⟩
   ·exact .inr hr
 rcases key x.length (Nat.le_refl _) with hi | ⟨p,hp,e⟩
 ·obtain ⟨p,hp,e,_⟩:=hi
  rw [List.take_of_length_le (Nat.le_refl _)] at e
  exact ⟨p,hp,.inr e⟩
 ·exact ⟨p,hp,.inl e⟩
theorem zdK {m:Nat}{ps:List (List Nat)}(hp:Pg.Pcs m ps)(h:isBook m ps=true):Book m ps:=by
 obtain ⟨m2,m4,hne,hl,hq⟩:=hp
 unfold isBook at h
 rw [Bool.and_eq_true,Bool.and_eq_true,Option.isNone_iff_eq_none,Option.isNone_iff_eq_none] at h
 have s:=zcp h.1.1
 exact ⟨m2,m4,fun p hp=>(hq p hp).1,fun p hp=>(hq p hp).2.1,pf_of s h.1.2,cv_of_text m4 (fun p hp=>(hq p hp).2.2) hne (fun p hp=>(hq p hp).2.1) h.2,s.imp List.le_of_lt,s.imp fun h e=>by rw [e] at h; exact List.lt_irrefl _ h⟩
end My
namespace Pg
open PySem L2 My
theorem cA1 {fn:List D→Rs D}{f:Rho→Rs D}{ρ:Rho}{a:D}{r:Rs D}(e1:f ρ=.ok a)(e:fn [a]=r):fA (ari 1 fn) (zb f zA) ρ=r:=(fA1 e1).trans e
theorem cA2 {fn:List D→Rs D}{f g:Rho→Rs D}{ρ:Rho}{a b:D}{r:Rs D}(e1:f ρ=.ok a)(e2:g ρ=.ok b)(e:fn [a,b]=r):fA (ari 2 fn) (zb f (zb g zA)) ρ=r:=(fA2 e1 e2).trans e
theorem cA3 {fn:List D→Rs D}{f g h:Rho→Rs D}{ρ:Rho}{a b c:D}{r:Rs D}(e1:f ρ=.ok a)(e2:g ρ=.ok b)(e3:h ρ=.ok c)(e:fn [a,b,c]=r):fA (ari 3 fn) (zb f (zb g (zb h zA))) ρ=r:=(fA3 e1 e2 e3).trans e
theorem cA4 {fn:List D→Rs D}{f g h i:Rho→Rs D}{ρ:Rho}{a b c d:D}{r:Rs D}(e1:f ρ=.ok a)(e2:g ρ=.ok b)(e3:h ρ=.ok c)(e4:i ρ=.ok d)(e:fn [a,b,c,d]=r):fA (ari 4 fn) (zb f (zb g (zb h (zb i zA)))) ρ=r:=(fA4 e1 e2 e3 e4).trans e
theorem cA5 {fn:List D→Rs D}{f g h i j:Rho→Rs D}{ρ:Rho}{a b c d k:D}{r:Rs D}(e1:f ρ=.ok a)(e2:g ρ=.ok b)(e3:h ρ=.ok c)(e4:i ρ=.ok d)(e5:j ρ=.ok k)(e:fn [a,b,c,d,k]=r):fA (ari 5 fn) (zb f (zb g (zb h (zb i (zb j zA))))) ρ=r:=by
 unfold fA; rw [zG e1 (zG e2 (zG e3 (zG e4 (zG e5 rfl))))]; exact e
theorem fL2_ok {g:D→D→Option (List D)}{fa fb:Rho→Rs D}{ρ:Rho}{a b:D}{d:List D}(e1:fa ρ=.ok a)(e2:fb ρ=.ok b)(e3:g a b=some d):fL2 g fa fb ρ=.ok d:=by unfold fL2; rw [e1]; show (fb ρ).bind _=_; rw [e2]; show lf' (g a b)=_; rw [e3]; rfl
theorem cat_sT {L M:List (List Nat)}(h:L.length + M.length≤1000000):catD (.lst (sT L)) (.lst (sT M))=some (sT (L++M)):=by
 show (if (sT L).length + (sT M).length≤1000000 then some (sT L++sT M) else none)=_
 rw [yu,yu,if_pos h,sT_app]
structure Bb (m:Nat)(B:List (List Nat)):Prop where
 pcs:Pcs m B
 bk:Book m B
theorem Bb.isB {m:Nat}{B:List (List Nat)}(h:Bb m B):isBook m B=true:=h.bk.isBook
theorem Bb.l32 {m:Nat}{B:List (List Nat)}(h:Bb m B):B.length≤32:=h.pcs.2.2.2.1
theorem Bb.l8 {m:Nat}{B:List (List Nat)}(h:Bb m B):∀p∈B,p.length≤8:=fun p hp=>(h.pcs.2.2.2.2 p hp).2.2
theorem bb_of {m:Nat}{B:List (List Nat)}(h:Book m B){n:Nat}(hn:(yw B).length≤n)(h10:n≤10)(h8:∀p∈B,p.length≤8):Bb m B∧B.length≤1 + n * 3:=by
 obtain ⟨t,g,e1,e2⟩:=h.grAt
 have m2:=h.m2
 have m4:=h.m4
 have:t * (m - 1)≤t * 3:=Nat.mul_le_mul_left t (by omega)
 have hl:B.length≤1 + n * 3:=by omega
 refine ⟨⟨⟨m2,m4,fun z=>?_,by omega,fun p hp=>⟨h.let_ p hp,h.ne p hp,h8 p hp⟩⟩,h⟩,hl⟩
 rw [z] at e2
 simp at e2
 omega
end Pg
namespace Pg
open PySem L2 My
theorem fI_ok {g:D→Option (List D)}{f:Rho→Rs D}{ρ:Rho}{a:D}{ds:List D}(e1:f ρ=.ok a)(e2:g a=some ds):fI g f ρ=.ok ds:=by
 unfold fI; rw [e1]; show (match g a with | some ds=>Rs.ok ds | none=>.no)=_; rw [e2]
end Pg
namespace Pg
open PySem L2 My
theorem fIf_t {ft:Rho→Rs Bool}{fa fb:Rho→Rs D}{ρ:Rho}{r:Rs D}(e:ft ρ=.ok true)(e2:fa ρ=r):fIf ft fa fb ρ=r:=by unfold fIf; rw [e]; exact e2
theorem fIf_f {ft:Rho→Rs Bool}{fa fb:Rho→Rs D}{ρ:Rho}{r:Rs D}(e:ft ρ=.ok false)(e2:fb ρ=r):fIf ft fa fb ρ=r:=by unfold fIf; rw [e]; exact e2
structure Kc (m n:Nat)(B:List (List Nat)):Prop where
 bk:Book m B
 ks:(yw B).length≤n
 l7:∀p∈B,p.length≤n
section
variable {m n:Nat}{B C S:List (List Nat)}
theorem Kc.bb (h:Kc m n B)(h8:n≤7):Bb m B:=(bb_of h.bk h.ks (by omega) fun p hp=>by have:=h.l7 p hp; omega).1
theorem Kc.len (h:Kc m n B)(h8:n≤7):B.length≤1 + n * 3:=(bb_of h.bk h.ks (by omega) fun p hp=>by have:=h.l7 p hp; omega).2
theorem Kc.of_gr (m2:2≤m)(m4:m≤4){t:Nat}(g:My.Gr m t B)(ht:t + 1≤n):Kc m n B :=
 ⟨g.book m2 m4,by have:=g.keys m2 m4; omega,fun p hp=>by have:=g.short m2 m4 p hp; omega⟩
theorem Kc.part (h:Kc m n B){p:List Nat}(hp:p∈B):Kc m (n + 1) (My.part m B (B.idxOf p)):=by
 obtain ⟨b1,b2⟩:=h.bk.partAt hp
 refine ⟨b1,?_,fun q hq=>?_⟩
 ·have:(yw (My.part m B (B.idxOf p))).length≤(p::yw B).length:=(uz _).length_le_of_subset fun x hx=>by
   rcases (b2 x).mp (innerKeys_mem.mp hx) with z | z
   ·exact .tail _ (innerKeys_mem.mpr z)
   ·exact z ▸ .head _
  have:=h.ks
  simp only [List.length_cons] at *
  omega
 ·rcases (part_mem h.bk.nd (List.idxOf_lt_length_iff.mpr hp)).mp hq with z | z
  ·have:=h.l7 q z.1
   omega
  ·obtain ⟨c,_,rfl⟩:=kids_mem.mp z
   have e:B.getD (B.idxOf p) []=p:=by
    rw [List.getD_eq_getElem?_getD,List.getElem?_eq_getElem (List.idxOf_lt_length_iff.mpr hp)]
    exact List.getElem_idxOf (List.idxOf_lt_length_iff.mpr hp)
   rw [e]
   have:=h.l7 p hp
   simp
   omega
end
theorem rep_one (w:List Nat){k:Nat}(hk:k≤1000):repD (.lst [.str w]) (.int (k:Int))=some (sT (List.replicate k w)):=by
 show (if 0≤(k:Int)∧(k:Int)≤1000∧([D.str w]:List D).length≤1000 then some (List.replicate (k:Int).toNat [D.str w]).flatten else none)=_
 rw [if_pos ⟨by omega,by omega,by show 1≤1000; decide⟩,Int.toNat_natCast]
 congr 1
 unfold sT
 rw [List.map_replicate]
 induction k with
 | zero=>rfl
 | succ k ih=>rw [List.replicate_succ,List.flatten_cons,ih (by omega),List.replicate_succ]; rfl
theorem len_sT {f:Rho→Rs D}{ρ:Rho}{L:List (List Nat)}(e:f ρ=.ok (.lst (sT L))):fO uH (zb f zA) ρ=.ok (.int (L.length:Int)):=jO (zG e rfl) (by show some (D.int ((sT L).length:Int))=_; rw [yu])
theorem lenT_sT {f:Rho→Rs D}{ρ:Rho}{L:List (List Nat)}(e:f ρ=.ok (.tup (sT L))):fO uH (zb f zA) ρ=.ok (.int (L.length:Int)):=jO (zG e rfl) (by show some (D.int ((sT L).length:Int))=_; rw [yu])
end Pg
namespace Pg
open PySem L2 My
theorem fAnd_ff {f g:Rho→Rs D}{ρ:Rho}(e1:f ρ=.ok (.bl false)):zaU f g ρ=.ok (.bl false):=by unfold zaU; rw [e1]; rfl
theorem bOr_t {f g:Rho→Rs Bool}{ρ:Rho}(e1:f ρ=.ok true):bOr f g ρ=.ok true:=by unfold bOr; rw [e1]; rfl
theorem bOr_f {f g:Rho→Rs Bool}{ρ:Rho}{b:Bool}(e1:f ρ=.ok false)(e2:g ρ=.ok b):bOr f g ρ=.ok b:=by unfold bOr; rw [e1]; exact e2
theorem f1_ok {g:D→Option D}{fa:Rho→Rs D}{ρ:Rho}{a d:D}(e1:fa ρ=.ok a)(e2:g a=some d):f1 g fa ρ=.ok d:=by unfold f1; rw [e1]; show lf (g a)=_; rw [e2]; rfl
theorem cutA_ok {α:Type}{f:Rho→Rs α}{ρ:Rho}{x:α}(e:f ρ=.ok x):cutA f ρ=.ok x:=by unfold cutA; rw [e]
theorem fA_ok {fn:List D→Rs D}{n:Nat}{fs:Rho→Rs (List D)}{ρ:Rho}{ds:List D}{r:Rs D}(e:fs ρ=.ok ds)(hl:ds.length=n)(h:fn ds=r):fA (ari n fn) fs ρ=r:=by
 unfold fA; rw [e]; show ari n fn ds=r; unfold ari; rw [if_pos hl]; exact h
theorem zcq {ft:Rho→Rs Bool}{fe:Rho→Rs D}{ρ0:Rho}{d e:D}{ds es:List D}(h1:ft (ρ0.set 0 (.fz d))=.ok true)(h2:fe (ρ0.set 0 (.fz d))=.ok e)(h3:wX ft fe ρ0 ds=.ok es):wX ft fe ρ0 (d::ds)=.ok (e::es):=by
 rw [wX,h1]; simp only; rw [h2]; simp only; rw [h3]; rfl
theorem isText_let {m:Nat}{l:List Nat}(h:isText m l=true):LetOk m l:=fun c hc=>abcd_let (of_decide_eq_true (List.all_eq_true.mp h c hc))
section
variable {m:Nat}
theorem are_not {m:Nat}(m2:2≤m)(m4:m≤4){d:D}(h:d.pl=true)(ht:isTup d.py=false):xj [.int m,d]=.ok (.bl false):=by
 have e0:ye [.int (m:Int)]=.ok (.bl true):=by rw [j9,decide_eq_true (by omega),decide_eq_true (by omega)]; rfl
 exact z7 (za6 ((za9 (bOr_f (jm (b:=true) (xU (cA1 rfl e0))) (jm (b:=false) (xU (f1_ok (a:=d) rfl (by unfold zbh; rw [if_pos h,ht])))))).trans rfl))
end
theorem at_lst {xs:List D}{j:Nat}(h:j < xs.length):atI xs (j:Int)=some xs[j]:=by
 refine zds (List.getElem?_eq_getElem h)
theorem sl_last (p:List Nat):slD (.str p) none (some (-1))=some (.str p.dropLast):=by
 show some (D.str (zae p none (some (-1))))=_
 unfold zae
 rw [HT.sIx_none,List.drop_zero,Nat.sub_zero,List.dropLast_eq_take]
 congr 3
 show (if (-1:Int) < 0 then ((-1:Int) + (p.length:Int)).toNat else min (-1:Int).toNat p.length)=_
 rw [if_pos (by decide)]
 omega
theorem uy {a th:D}(h:yK [a,th]=.ok (.bl false)):z9 [a,th]=.ex 1 :=
 wK ((za9 (jm (b:=false) (xU (cA2 (a:=a) (b:=th) rfl rfl h)))).trans rfl)
theorem book_bad {a d:D}(h:xj [a,d]=.ok (.bl false)):yK [a,d]=.ok (.bl false):=z7 (xH (fAnd_ff (cA2 rfl rfl h)))
theorem uN {g h:Rho→Out}{ρ:Rho}{n:Nat}(e:g ρ=.ex n):zY g h ρ=.ex n:=by unfold zY; rw [e]
theorem qX {f:Rho→Rs D}{ρ:Rho}{n:Nat}(e:f ρ=.ex n):vH f ρ=.ex n:=by unfold vH; rw [e]
end Pg
set_option maxHeartbeats 4000000
namespace K40
open PySem L2 PyProof.Rows
open My
open Pg
noncomputable def qT:Rho→Out :=
  (zY (yX 1 (fO mkL (zb (fC (.str [])) zA)))
  (zY (kE (qJ 2 (fR zcY (zb (fNm 0) zA))
  (yX 1 (fLs (fL2 catD (yP (fI lsD (fNm 1)) xg (f2 kW (fNm 0) (fC (.str [48]))) []) (yP (fI lsD (fNm 1)) xg (f2 kW (fNm 0) (fC (.str [49]))) []))))))
  (yU (fLs (fL sortD (zb (fNm 1) zA))))))
noncomputable def qz:List D→Rs D:=yx 3 qT
noncomputable def jN:Rho→Out :=
  (zY (vI 2 (fL szL zA))
  (zY (wY 3 (fCp (fI tpD (fNm 0)) (bT (fM isS yH (fNm 1) (fNm 0))) (fNm 0) [1]))
  (zY (kE (sWh 64 (bT (f2 (eqD true) (fNm 3) (fO mkL zA)))
  (zY (zao 2 (f2 ixD (fNm 3) (fC (.int 0))))
  (zY (yX 1 (fSl (fNm 1) (yS (fO uH (zb (f2 ixD (fNm 3) (fC (.int 0))) zA))) wz))
  (wY 3 (fCp (fI tpD (fNm 0)) (bT (fM isS yH (fNm 1) (fNm 0))) (fNm 0) [1]))))))
  (za7 2 (yU (fO mkT (zb (fNm 2) (zb (fNm 1) zA))))))))
noncomputable def jg:List D→Rs D:=yx 4 jN
noncomputable def xY:Rho→Out :=
  (zY (yX 2 (f2 zbP (fA (ari 1 wJ) (zb (fNm 0) zA)) (fNm 0)))
  (zY (qJ 3 (fI lsD (fNm 1))
  (sIf (bT (f2 (hasD true) (fNm 3) (fNm 2)))
  (sRs 4 (zb (fC (.str [111,110,101,32,111,102,32,116,104,101,115,101,32,105,115,32,110,111,32,119,111,114,100,32,111,102,32,97,32,112,105,101,99,101])) zA))
  sNx))
  (yU (fM isS jf (fC (.str [])) (yP (fI lsD (fNm 1)) xg (f2 getD (fNm 1) (fNm 0)) [2])))))
noncomputable def yL:List D→Rs D:=yx 4 xY
noncomputable def vR:Rho→Out :=
  (zY (vH (fA (ari 2 z9) (zb (fNm 0) (zb (fNm 1) zA))))
  (zY (yX 4 (fA (ari 2 wC) (zb (fNm 1) (zb (fNm 2) zA))))
  (yU (fA (ari 2 yL) (zb (fNm 1) (zb (fSl (fNm 4) (yS (fO maxD (zb (fNm 3) (zb (fC (.int 0)) zA)))) wz) zA))))))
noncomputable def zO:List D→Rs D:=yx 5 vR
noncomputable def zcs:Rho→Out :=
  (yU (fA (ari 4 zO) (zb (fNm 0) (zb (fNm 1) (zb (fNm 2) (zb (fC (.int 0)) zA))))))
noncomputable def v9:List D→Rs D:=yx 3 zcs
noncomputable def uO:Rho→Out :=
  (zY (yX 1 (fO mkL (zb (f1 (excD [(1,false),(2,false),(3,false),(4,false)]) (fNm 0)) (zb (f1 (excD [(1,true),(2,false),(3,false),(4,false)]) (fNm 0)) (zb (f1 (excD [(1,false),(2,true),(3,false),(4,false)]) (fNm 0)) zA)))))
  (zY (yX 1 (fLs (fL2 catD (fNm 1) (fO mkL (zb (f1 (excD [(1,false),(2,false),(3,true),(4,false)]) (fNm 0)) (zb (f1 (excD [(1,false),(2,false),(3,false),(4,true)]) (fNm 0)) (zb (f1 (excD [(1,false),(2,false),(3,false),(4,false)]) (fNm 0)) zA)))))))
  (zY (sIf (bOr (bT (f2 (eqD true) (fM isLs cntBD (fNm 1) (fC (.bl true))) (fC (.int 1)))) (zap (bT (f1 (excD [(1,true),(2,true),(3,true),(4,true)]) (fNm 0)))))
  (yU (fO mkT (zb (fC (.str [114,101,102,117,115,101,100])) (zb (f1 negI (fC (.int 1))) zA))))
  sNx)
  (yU (fO mkT (zb (fC (.str [114,101,102,117,115,101,100])) (zb (fM isLs idxBD (fNm 1) (fC (.bl true))) zA)))))))
noncomputable def qU:List D→Rs D:=yx 2 uO
noncomputable def jj:Rho→Out :=
  (sTry 5 [1,2,3,4] (fIf (cutA (bT (f2 ltI (fNm 0) (fC (.int 4))))) (fCL 3 [wA,xJ,jF,v9] (fNm 0) (zb (fNm 1) (zb (fNm 2) (zb (fNm 3) zA)))) (fA (ari 4 zO) (cutA (zb (fNm 1) (zb (fNm 2) (zb (fNm 3) (zb (fNm 4) zA))))))) (fA (ari 1 qU) (zb (fNm 5) zA)))
noncomputable def zB:List D→Rs D:=yx 6 jj
noncomputable def g_law:Rho→Out :=
  (zY (yX 1 (f2 uY (fC (.int 2)) (fA (ari 3 zJ) (zb (fNm 0) (zb (fC (.int 0)) (zb (fC (.int 3)) zA))))))
  (zY (yX 2 (fA (ari 4 qR) (zb (fNm 0) (zb (fC (.int 10)) (zb (fNm 1) (zb (fA (ari 3 zJ) (zb (fNm 0) (zb (fC (.int 8)) (zb (fC (.int 6)) zA)))) zA))))))
  (zY (yX 3 (fO uH (zb (yP (fI tpD (fO mkT (zb (fC (.int 1)) (zb (fC (.int 2)) (zb (fC (.int 4)) (zb (fC (.int 8)) (zb (fC (.int 16)) zA))))))) (bT (f2 ltI (fNm 0) (fO uH (zb (fNm 1) zA)))) (fNm 0) [2]) zA)))
  (zY (yX 4 (fA (ari 1 qz) (zb (fNm 3) zA)))
  (zY (kE (sForE 5 6 (fNm 2)
  (sIf (bOr (bT (f2 (eqD true) (fA (ari 5 zB) (zb (fC (.int 0)) (zb (fNm 1) (zb (fNm 2) (zb (fNm 6) (zb (fC (.int 0)) zA)))))) (f2 ixD (fNm 4) (fNm 5)))) (bT (f2 (eqD true) (fA (ari 5 zB) (zb (fC (.int 1)) (zb (fNm 1) (zb (fNm 2) (zb (f2 ixD (fNm 4) (fNm 5)) (zb (fC (.int 0)) zA)))))) (fNm 6))))
  (yU (fC (.bl false)))
  sNx)))
  (zY (yX 7 (fSl (fNm 4) (yS (fO uH (zb (fNm 2) zA))) wz))
  (zY (sIf (bT (f2 (eqD true) (yP (fI lsD (fNm 7)) xg (fA (ari 5 zB) (zb (fC (.int 1)) (zb (fNm 1) (zb (fNm 2) (zb (fNm 0) (zb (fC (.int 0)) zA)))))) [1,2]) (fLs (fL2 repD (fO mkL (zb (fO mkT (zb (fC (.str [114,101,102,117,115,101,100])) (zb (fC (.int 4)) zA))) zA)) (fO uH (zb (fNm 7) zA))))))
  (yU (fC (.bl false)))
  sNx)
  (zY (yX 8 (fA (ari 4 uG) (zb (fNm 0) (zb (fC (.int 20)) (zb (fNm 1) (zb (fC (.int 20)) zA))))))
  (zY (qQ 9 10 (fA (ari 2 jg) (zb (fNm 2) (zb (fNm 8) zA))))
  (zY (yX 11 (fM isS jf (fC (.str [])) (yP (fI lsD (fNm 9)) xg (f2 ixD (fNm 1) (fM isTp idxD (fNm 2) (fNm 0))) [4,2])))
  (zY (sIf (bOr (bT (f2 (eqD true) (fA (ari 5 zB) (zb (fC (.int 2)) (zb (fNm 1) (zb (fNm 2) (zb (fNm 8) (zb (fC (.int 0)) zA)))))) (fO mkT (zb (fNm 11) (zb (fNm 10) zA))))) (bT (f2 (eqD true) (fA (ari 5 zB) (zb (fC (.int 3)) (zb (fNm 1) (zb (fNm 2) (zb (fNm 11) (zb (fC (.int 0)) zA)))))) (fM isS jf (fC (.str [])) (fNm 9)))))
  (yU (fC (.bl false)))
  sNx)
  (zY (kE (qJ 12 (fI tpD (fO mkT (zb (fC (.int 0)) (zb (fA (ari 3 zJ) (zb (fNm 0) (zb (fC (.int 50)) (zb (f2 uY (fO uH (zb (fNm 9) zA)) (fC (.int 2))) zA)))) zA))))
  (sIf (bT (f2 (eqD true) (fA (ari 5 zB) (zb (fC (.int 4)) (zb (fNm 1) (zb (fNm 2) (zb (fNm 11) (zb (fNm 12) zA)))))) (fM isS jf (fC (.str [])) (fSl (fNm 9) (yS (fNm 12)) wz))))
  (yU (fC (.bl false)))
  sNx)))
  (zY (yX 13 (f2 ixD (fO mkL (zb (fC (.str [])) (zb (fC (.str [120])) (zb (f2 kW (fSl (f2 ixD (fNm 2) (fC (.int 0))) wz (yS (f1 negI (fC (.int 1))))) (fC (.str [122]))) (zb (fC .non) (zb (fC (.int 1)) (zb (f2 kW (f2 ixD (fNm 2) (fC (.int 0))) (fC (.str [97]))) (zb (f2 kW (f2 ixD (fNm 4) (fC (.int 0))) (fC (.str [48]))) (zb (f2 repS (fC (.str [50])) (fNm 3)) zA))))))))) (fA (ari 3 zJ) (zb (fNm 0) (zb (fC (.int 51)) (zb (fC (.int 8)) zA))))))
  (zY (sIf (bOr (bT (f2 (eqD true) (fA (ari 5 zB) (zb (fC (.int 0)) (zb (fNm 1) (zb (fNm 2) (zb (fNm 13) (zb (fC (.int 0)) zA)))))) (fO mkT (zb (fC (.str [114,101,102,117,115,101,100])) (zb (fC (.int 2)) zA))))) (bT (f2 (eqD true) (fA (ari 5 zB) (zb (fC (.int 1)) (zb (fNm 1) (zb (fNm 2) (zb (fNm 13) (zb (fC (.int 0)) zA)))))) (fO mkT (zb (fC (.str [114,101,102,117,115,101,100])) (zb (fC (.int 4)) zA))))))
  (yU (fC (.bl false)))
  sNx)
  (zY (yX 14 (fLs (fL2 catD (fO mkL (zb (f2 kW (fNm 11) (f2 repS (fC (.str [50])) (fNm 3))) zA)) (fLs (fL2 repD (fO mkL (zb (f2 kW (fNm 11) (fC (.str [49]))) zA)) (fO intD (zb (f2 gtI (fNm 3) (fC (.int 1))) zA)))))))
  (zY (sIf (bT (f2 (eqD true) (yP (fI lsD (fNm 14)) (bT (f2 (eqD true) (fA (ari 5 zB) (zb (fC (.int 3)) (zb (fNm 1) (zb (fNm 2) (zb (fNm 0) (zb (fC (.int 0)) zA)))))) (fO mkT (zb (fC (.str [114,101,102,117,115,101,100])) (zb (fC (.int 4)) zA))))) (fNm 0) [1,2]) (fO mkL zA)))
  (yU (fC (.bl false)))
  sNx)
  (zY (sIf (bOr (bT (f2 (eqD true) (fA (ari 5 zB) (zb (fC (.int 2)) (zb (fNm 1) (zb (fNm 2) (zb (f2 kW (fNm 8) (fC (.str [122]))) (zb (fC (.int 0)) zA)))))) (fO mkT (zb (fC (.str [114,101,102,117,115,101,100])) (zb (fC (.int 3)) zA))))) (bT (f2 (eqD true) (fA (ari 5 zB) (zb (fC (.int 4)) (zb (fNm 1) (zb (fNm 2) (zb (fC .non) (zb (fC (.int 0)) zA)))))) (fO mkT (zb (fC (.str [114,101,102,117,115,101,100])) (zb (fC (.int 4)) zA))))))
  (yU (fC (.bl false)))
  sNx)
  (zY (yX 7 (f2 ixD (fO mkL (zb (fC .non) (zb (fSl (fNm 2) (yS (fC (.int 1))) wz) (zb (fLs (fL lstD (zb (fNm 2) zA))) zA)))) (fA (ari 3 zJ) (zb (fNm 0) (zb (fC (.int 52)) (zb (fC (.int 3)) zA))))))
  (yU (f2 (eqD false) (yP (fR zcY (zb (fC (.int 5)) zA)) xg (fA (ari 5 zB) (zb (fNm 0) (zb (fNm 1) (zb (fNm 2) (zb (fNm 3) (zb (fC (.int 0)) zA)))))) [1,7,13]) (fLs (fL2 repD (fO mkL (zb (fO mkT (zb (fC (.str [114,101,102,117,115,101,100])) (zb (fC (.int 1)) zA))) zA)) (fC (.int 5))))))))))))))))))))))))
noncomputable def fn_law:List D→Rs D:=yx 15 g_law
end K40
namespace K40
open PySem L2 My Pg
noncomputable def rf (j:Int):D:=.tup [.str [114,101,102,117,115,101,100],.int j]
noncomputable def told (r:Rs D)(d:D):Prop:=r=.ok d∨(r=.ex 1∧d=rf 1)∨(r=.ex 2∧d=rf 2)∨(r=.ex 3∧d=rf 3)∨(r=.ex 4∧d=rf 4)
theorem toldK {k:Nat}{fn:List D→Rs D}(hk:[wA,xJ,jF,v9][k]? = some fn){a b c d n:D}(h:told (fn [a,b,c]) d):zB [.int (k:Int),a,b,c,n]=.ok d:=by
 have k4:k < 4:=(List.getElem?_eq_some_iff.mp hk).1
 have ef:fIf (cutA (bT (f2 ltI (fNm 0) (fC (.int 4))))) (fCL 3 [wA,xJ,jF,v9] (fNm 0) (zb (fNm 1) (zb (fNm 2) (zb (fNm 3) zA)))) (fA (ari 4 zO) (cutA (zb (fNm 1) (zb (fNm 2) (zb (fNm 3) (zb (fNm 4) zA)))))) [.fz (.int (k:Int)),.fz a,.fz b,.fz c,.fz n,.no]=fn [a,b,c]:=by
  refine (fIf_t (cutA_ok (xU (z8 (a:=.int (k:Int)) (b:=.int 4) rfl rfl (by show some (D.bl (decide ((k:Int) < 4)))=_; rw [decide_eq_true (by omega)])))) ?_)
  have e0:fNm 0 [.fz (.int (k:Int)),.fz a,.fz b,.fz c,.fz n,.no]=.ok (.int (k:Int)):=rfl
  unfold fCL
  rw [e0]
  dsimp only
  rw [if_pos ⟨by omega,by show 4≤1000; decide⟩,Int.toNat_natCast,hk]
  rfl
 refine z7 ?_
 show sTry 5 [1,2,3,4] _ _ [.fz (.int (k:Int)),.fz a,.fz b,.fz c,.fz n,.no]=_
 unfold sTry
 rw [if_pos (show ([_,_,_,_,_,_]:Rho).all _=true from rfl),ef]
 rcases h with h | ⟨h,rfl⟩ | ⟨h,rfl⟩ | ⟨h,rfl⟩ | ⟨h,rfl⟩
 ·rw [h]
 ·rw [h]; rfl
 ·rw [h]; rfl
 ·rw [h]; rfl
 ·rw [h]; rfl
theorem told0 {a b c d n:D}(h:told (wA [a,b,c]) d):zB [.int 0,a,b,c,n]=.ok d:=toldK (k:=0) rfl h
theorem told1 {a b c d n:D}(h:told (xJ [a,b,c]) d):zB [.int 1,a,b,c,n]=.ok d:=toldK (k:=1) rfl h
theorem told2 {a b c d n:D}(h:told (jF [a,b,c]) d):zB [.int 2,a,b,c,n]=.ok d:=toldK (k:=2) rfl h
theorem told3 {a b c d n:D}(h:told (v9 [a,b,c]) d):zB [.int 3,a,b,c,n]=.ok d:=toldK (k:=3) rfl h
theorem told4 {a b c d n:D}(h:told (zO [a,b,c,n]) d):zB [.int 4,a,b,c,n]=.ok d:=by
 have ef:fIf (cutA (bT (f2 ltI (fNm 0) (fC (.int 4))))) (fCL 3 [wA,xJ,jF,v9] (fNm 0) (zb (fNm 1) (zb (fNm 2) (zb (fNm 3) zA)))) (fA (ari 4 zO) (cutA (zb (fNm 1) (zb (fNm 2) (zb (fNm 3) (zb (fNm 4) zA)))))) [.fz (.int 4),.fz a,.fz b,.fz c,.fz n,.no]=zO [a,b,c,n] :=
  fIf_f (cutA_ok (xU (z8 (a:=.int 4) (b:=.int 4) rfl rfl rfl))) (fA_ok (ds:=[a,b,c,n]) (cutA_ok rfl) rfl rfl)
 refine z7 ?_
 show sTry 5 [1,2,3,4] _ _ [.fz (.int 4),.fz a,.fz b,.fz c,.fz n,.no]=_
 unfold sTry
 rw [if_pos (show ([_,_,_,_,_,_]:Rho).all _=true from rfl),ef]
 rcases h with h | ⟨h,rfl⟩ | ⟨h,rfl⟩ | ⟨h,rfl⟩ | ⟨h,rfl⟩
 ·rw [h]
 ·rw [h]; rfl
 ·rw [h]; rfl
 ·rw [h]; rfl
 ·rw [h]; rfl
theorem tl {r:Rs D}{d:D}(h:r=.ok d):told r d:=.inl h
theorem tl1 {r:Rs D}(h:r=.ex 1):told r (rf 1):=.inr (.inl ⟨h,rfl⟩)
theorem tl2 {r:Rs D}(h:r=.ex 2):told r (rf 2):=.inr (.inr (.inl ⟨h,rfl⟩))
theorem tl3 {r:Rs D}(h:r=.ex 3):told r (rf 3):=.inr (.inr (.inr (.inl ⟨h,rfl⟩)))
theorem tl4 {r:Rs D}(h:r=.ex 4):told r (rf 4):=.inr (.inr (.inr (.inr ⟨h,rfl⟩)))
noncomputable def wit:Nat→List (List Nat)
 | 0=>[[]]
 | k + 1=>(wit k).map (· ++ [48])++(wit k).map (· ++ [49])
noncomputable def AW (b:Nat):List (List Nat):=(List.range (2 ^ b)).map fun i=>zdO i b
theorem wit_len:∀k,(wit k).length=2 ^ k∧∀x∈wit k,x.length=k
 | 0=>⟨rfl,fun x hx=>by rw [show wit 0=[[]] from rfl,List.mem_singleton] at hx; rw [hx]; rfl⟩
 | k + 1=>by
  obtain ⟨h1,h2⟩:=wit_len k
  refine ⟨by rw [show wit (k + 1)=(wit k).map (· ++ [48])++(wit k).map (· ++ [49]) from rfl,List.length_append,List.length_map,List.length_map,h1,Nat.pow_succ]; omega,fun x hx=>?_⟩
  rcases List.mem_append.mp hx with z | z
  ·obtain ⟨y,hy,rfl⟩:=List.mem_map.mp z
   simp [h2 y hy]
  ·obtain ⟨y,hy,rfl⟩:=List.mem_map.mp z
   simp [h2 y hy]
theorem wit_sort:∀b < 6,sortF (wit b)=AW b:=by
 have key:∀b < 6,(AW b).Pairwise (·≤·)∧(AW b).Perm (wit b):=by decide +kernel
 exact fun b hb=>(sortF_eq (key b hb).1 (key b hb).2).symm
theorem AW_take:∀n < 33,W n=(AW (zL n)).take n∧n≤(AW (zL n)).length:=by decide +kernel
theorem AW_rest:∀n < 33,∀w∈(AW (zL n)).drop n,w∉W n:=by decide +kernel
theorem W_dig:∀n < 33,∀w∈W n,∀c∈w,c=48∨c=49:=by decide +kernel
theorem AW_dig:∀b < 6,∀w∈AW b,w.length=b∧∀c∈w,c=48∨c=49:=by decide +kernel
theorem words_eq {b:Nat}(hb:b < 6):qz [.int b]=.ok (.lst (sT (AW b))):=by
 obtain ⟨ρ',e,s2,rfl⟩:=uh (i:=2) (g:=yX 1 (fLs (fL2 catD (yP (fI lsD (fNm 1)) xg (f2 kW (fNm 0) (fC (.str [48]))) []) (yP (fI lsD (fNm 1)) xg (f2 kW (fNm 0) (fC (.str [49]))) [])))) (l:=List.range b) (enc:=fun (k:Nat)=>D.int (k:Int)) (ρ:=[.fz (.int b),.fz (.lst (sT [[]])),.no])
  (fun k ρ=>∃s2,ρ=[.fz (.int b),.fz (.lst (sT (wit k))),s2]) ⟨.no,rfl⟩ (by
   rintro k x ρ hx ⟨s2,rfl⟩
   obtain ⟨hk,ex⟩:=List.getElem?_eq_some_iff.mp hx
   rw [List.length_range] at hk
   obtain ⟨h1,h2⟩:=wit_len k
   have hp:2 ^ k≤2 ^ 5:=Nat.pow_le_pow_right (by decide) (by omega)
   have h32:(2:Nat) ^ 5=32:=by decide
   have cm:∀c:Nat,yP (fI lsD (fNm 1)) xg (f2 kW (fNm 0) (fC (.str [c]))) [] [.fz (.int b),.fz (.lst (sT (wit k))),.fz (.int (x:Int))]=.ok (.lst (sT ((wit k).map (· ++ [c])))):=fun c=>by
    refine (wF (ds:=sT (wit k)) rfl (by rw [yu]; omega) (yQ (fun y=>D.str (y++[c])) fun y hy=>z8 (a:=.str y) (b:=.str [c]) rfl rfl (by show (if y.length + 1≤1000000 then _ else _)=_; rw [if_pos (by have:=h2 y hy; omega)]))).trans ?_
    unfold sT; rw [List.map_map]; rfl
   exact ⟨_,zN (zbE (fL2_ok (cm 48) (cm 49) (cat_sT (by rw [List.length_map,List.length_map]; omega)))),_,rfl⟩)
 rw [List.length_range] at e
 have hp:2 ^ b≤2 ^ 5:=Nat.pow_le_pow_right (by decide) (by omega)
 have h32:(2:Nat) ^ 5=32:=by decide
 refine z7 ((zx (ρ':=[.fz (.int b),.fz (.lst (sT [[]])),.no]) (zN rfl)).trans ?_)
 refine (zx (uJ ((vX (zc6 (ds:=[.int (b:Int)]) rfl (qi (n:=b) (by omega)))).trans e))).trans ?_
 exact xH (zbE (fL_ok (ds:=[.lst (sT (wit b))]) rfl ((zc3 (by rw [(wit_len b).1]; omega)).trans (by rw [wit_sort b hb]))))
section
variable {m:Nat}{B:List (List Nat)}
noncomputable def pfx (B:List (List Nat))(t:List Nat):List (List Nat):=B.filter fun p=>p.isPrefixOf t
theorem pfx_eq (hB:B.length≤1000){t:List Nat}{ρ:Rho}(h0:ρ[0]? = some (.fz (.tup (sT B))))(h1:ρ[1]? = some (.fz (.str t))):fCp (fI tpD (fNm 0)) (bT (fM isS yH (fNm 1) (fNm 0))) (fNm 0) [1] ρ=.ok (sT (pfx B t)):=by
 refine fCp_ok (ds:=sT B) (fI_ok (a:=.tup (sT B)) (by unfold fNm; rw [h0]) rfl) (by rw [yu]; omega) (jC (fun p=>p.isPrefixOf t) D.str fun p hp=>⟨?_,fun _=>rfl⟩)
 have ec:(uZ 1 [1] ρ).set 0 (.fz (.str p))=[.fz (.str p),.fz (.str t)]:=by unfold uZ; simp [h1]
 rw [ec]
 exact xU (zdb (a:=.str t) (b:=.str p) rfl rfl rfl rfl)
theorem whD_f {ft:Rho→Rs Bool}{g:Rho→Out}{n:Nat}{ρ:Rho}(e:ft ρ=.ok false):whD ft g (n + 1) ρ=.nx ρ:=by rw [whD.eq_2,e]
theorem whD_t {ft:Rho→Rs Bool}{g:Rho→Out}{n:Nat}{ρ ρ':Rho}(e:ft ρ=.ok true)(e2:g ρ=.nx ρ'):whD ft g (n + 1) ρ=whD ft g n ρ':=by rw [whD.eq_2,e]; dsimp only; rw [e2]
theorem cut_loop (h:Book m B)(hB:B.length≤1000):∀(k:Nat) (t:List Nat) (rows:List (List Nat)) (f:Nat),t.length≤k→k < f→rows.length + t.length≤1000→∃rows' left,whD (bT (f2 (eqD true) (fNm 3) (fO mkL zA)))
  (zY (zao 2 (f2 ixD (fNm 3) (fC (.int 0)))) (zY (yX 1 (fSl (fNm 1) (yS (fO uH (zb (f2 ixD (fNm 3) (fC (.int 0))) zA))) wz)) (wY 3 (fCp (fI tpD (fNm 0)) (bT (fM isS yH (fNm 1) (fNm 0))) (fNm 0) [1]))))
  f [.fz (.tup (sT B)),.fz (.str t),.ow (sT rows),.fz (.lst (sT (pfx B t)))]=.nx [.fz (.tup (sT B)),.fz (.str left),.ow (sT (rows++rows')),.fz (.lst (sT []))]∧(∀p∈rows',p∈B)∧Free B left∧rows'.flatten++left=t:=by
 intro k
 induction k with
 | zero =>
  intro t rows f ht hf hr
  obtain ⟨f,rfl⟩:∃g,f=g + 1:=⟨f - 1,by omega⟩
  obtain rfl:t=[]:=List.length_eq_zero_iff.mp (by omega)
  have ep:pfx B []=[]:=List.filter_eq_nil_iff.mpr fun p hp e=>h.ne p hp (List.prefix_nil.mp (List.isPrefixOf_iff_prefix.mp e))
  refine ⟨[],[],?_,fun p hp=>absurd hp (by simp),fun y hy hn=>absurd (List.prefix_nil.mp hy) hn,rfl⟩
  rw [ep,List.append_nil]
  exact whD_f (xU (z8 (a:=.lst (sT [])) (b:=.lst (sT [])) rfl rfl (jQ true [] [])))
 | succ k ih =>
  intro t rows f ht hf hr
  obtain ⟨f,rfl⟩:∃g,f=g + 1:=⟨f - 1,by omega⟩
  cases ep:pfx B t with
  | nil =>
   refine ⟨[],t,?_,fun p hp=>absurd hp (by simp),fun y hy hn hyB=>?_,rfl⟩
   ·rw [List.append_nil]
    exact whD_f (xU (z8 (a:=.lst (sT [])) (b:=.lst (sT [])) rfl rfl (jQ true [] [])))
   ·have:y∈pfx B t:=List.mem_filter.mpr ⟨hyB,List.isPrefixOf_iff_prefix.mpr hy⟩
    rw [ep] at this; cases this
  | cons p r =>
   have hp:p∈pfx B t:=by rw [ep]; exact List.mem_cons_self
   obtain ⟨hpB,hpt⟩:=List.mem_filter.mp hp
   obtain ⟨t',rfl⟩:=List.isPrefixOf_iff_prefix.mp hpt
   have hne:=h.ne p hpB
   have hl1:1≤p.length:=List.length_pos_iff.mpr hne
   rw [List.length_append] at ht hr
   obtain ⟨rows',left,e,h1,h2,h3⟩:=ih t' (rows++[p]) f (by omega) (by omega) (by rw [List.length_append]; simp; omega)
   refine ⟨p::rows',left,?_,fun q hq=>by rcases List.mem_cons.mp hq with rfl | hq; exact hpB; exact h1 q hq,h2,by rw [List.flatten_cons,List.append_assoc,h3]⟩
   have eb:zY (zao 2 (f2 ixD (fNm 3) (fC (.int 0)))) (zY (yX 1 (fSl (fNm 1) (yS (fO uH (zb (f2 ixD (fNm 3) (fC (.int 0))) zA))) wz)) (wY 3 (fCp (fI tpD (fNm 0)) (bT (fM isS yH (fNm 1) (fNm 0))) (fNm 0) [1]))) [.fz (.tup (sT B)),.fz (.str (p++t')),.ow (sT rows),.fz (.lst (sT (p::r)))]=.nx [.fz (.tup (sT B)),.fz (.str t'),.ow (sT (rows++[p])),.fz (.lst (sT (pfx B t')))]:=by
    refine (zx (ρ':=[.fz (.tup (sT B)),.fz (.str (p++t')),.ow (sT (rows++[p])),.fz (.lst (sT (p::r)))]) ((sApp_ok (ds:=sT rows) (d:=.str p) rfl (z8 (a:=.lst (sT (p::r))) (b:=.int 0) rfl rfl (zdo (B:=p::r) (j:=0) (by simp))) (by rw [yu]; omega)).trans ?_)).trans ?_
    ·unfold sT; rw [List.map_append]; rfl
    ·refine (zx (ρ':=[.fz (.tup (sT B)),.fz (.str t'),.ow (sT (rows++[p])),.fz (.lst (sT (p::r)))]) (zN (jZ (a:=.str (p++t')) (l:=some (p.length:Int)) (h:=none) rfl ?_ rfl ?_))).trans (sSetA_ok (pfx_eq hB rfl rfl))
     ·unfold yS
      rw [show fO uH (zb (f2 ixD (fNm 3) (fC (.int 0))) zA) [.fz (.tup (sT B)),.fz (.str (p++t')),.ow (sT (rows++[p])),.fz (.lst (sT (p::r)))]=.ok (.int (p.length:Int)) from jO (zG (z8 (a:=.lst (sT (p::r))) (b:=.int 0) rfl rfl (zdo (B:=p::r) (j:=0) (by simp))) rfl) rfl]
      rfl
     ·show some (D.str (zae (p++t') (some (p.length:Int)) none))=_
      rw [qY,List.drop_left]
   refine (whD_t (xU (z8 (a:=.lst (sT (p::r))) (b:=.lst (sT [])) rfl rfl ((jQ true _ _).trans (by simp)))) eb).trans ?_
   rw [e,List.append_assoc]
   rfl
theorem cut_own (h:Book m B)(hB:B.length≤1000){t:List Nat}(ht:t.length≤60):jg [.tup (sT B),.str t]=.ok (.tup [.lst (sT (uc B t).1),.str (uc B t).2]):=by
 obtain ⟨rows,left,e,h1,h2,h3⟩:=cut_loop h hB t.length t [] 64 (Nat.le_refl _) (by omega) (by simp; omega)
 rw [h.cutRows h1 h2 h3]
 refine z7 ((zx (ρ':=[.fz (.tup (sT B)),.fz (.str t),.ow (sT []),.no]) rfl).trans ?_)
 refine (zx (ρ':=[.fz (.tup (sT B)),.fz (.str t),.ow (sT []),.fz (.lst (sT (pfx B t)))]) (sSetA_ok (pfx_eq hB rfl rfl))).trans ?_
 refine (zx (uJ e)).trans ?_
 exact (sIce_ok (ds:=sT rows) rfl).trans (xH rfl)
theorem bits1 (h2:2≤B.length):1≤zL B.length:=by unfold zL; (repeat' split) <;> omega
theorem piece_bad {d:D}(h:inD true d (.tup (sT B))=some (.bl true)):wD [.tup (sT B),d]=.ex 2 :=
 wK ((za9 (xU (z8 (a:=d) (b:=.tup (sT B)) rfl rfl h))).trans rfl)
theorem word_odd (h:Bb m B){d:D}(hd:inD true d (.tup (sT B))=some (.bl true)):wA [.int m,.tup (sT B),d]=.ex 2 :=
 wK ((zx (vK (cA2 (a:=.int m) (b:=.tup (sT B)) rfl rfl (yg h.pcs h.isB)))).trans (uN (qX (cA2 (a:=.tup (sT B)) (b:=d) rfl rfl (piece_bad hd)))))
theorem zcO (h:Bb m B){d:D}(hd:inD true d (.lst (sT (W B.length)))=some (.bl true)):xJ [.int m,.tup (sT B),d]=.ex 4 :=
 wK ((zx (vK (cA2 (a:=.int m) (b:=.tup (sT B)) rfl rfl (yg h.pcs h.isB)))).trans ((zx (ρ':=[.fz (.int m),.fz (.tup (sT B)),.fz d,.fz (.lst (sT (W B.length)))]) (zN (cA1 (a:=.tup (sT B)) rfl (w6 h.l32)))).trans (uN ((za9 (xU (z8 (a:=d) (b:=.lst (sT (W B.length))) rfl rfl hd))).trans rfl))))
theorem word_bad {b c:D}(h:yK [.int m,b]=.ok (.bl false)):wA [.int m,b,c]=.ex 1:=wK (uN (qX (cA2 (a:=.int m) (b:=b) rfl rfl (uy h))))
theorem zdQ {b c:D}(h:yK [.int m,b]=.ok (.bl false)):xJ [.int m,b,c]=.ex 1:=wK (uN (qX (cA2 (a:=.int m) (b:=b) rfl rfl (uy h))))
theorem led_bad {b c:D}(h:yK [.int m,b]=.ok (.bl false)):jF [.int m,b,c]=.ex 1:=wK (uN (qX (cA2 (a:=.int m) (b:=b) rfl rfl (uy h))))
theorem from_bad {b c d:D}(h:yK [.int m,b]=.ok (.bl false)):zO [.int m,b,c,d]=.ex 1:=wK (uN (qX (cA2 (a:=.int m) (b:=b) rfl rfl (uy h))))
theorem sRet_ex {f:Rho→Rs D}{ρ:Rho}{n:Nat}(e:f ρ=.ex n):yU f ρ=.ex n:=by unfold yU; rw [e]
theorem zbT {b c:D}{r:Rs D}(h:zO [.int m,b,c,.int 0]=r)(hr:(∃d,r=.ok d)∨∃n,r=.ex n):v9 [.int m,b,c]=r:=by
 rcases hr with ⟨d,rfl⟩ | ⟨n,rfl⟩
 ·exact z7 (xH (cA4 (a:=.int m) (b:=b) (c:=c) (d:=.int 0) rfl rfl rfl rfl h))
 ·exact wK (sRet_ex (cA4 (a:=.int m) (b:=b) (c:=c) (d:=.int 0) rfl rfl rfl rfl h))
theorem text_of_eq (h32:B.length≤32){cs:List (List Nat)}(hin:∀p∈cs,p∈B)(h8:∀p∈B,p.length≤8)(hl:cs.length≤1000):yL [.tup (sT B),.lst (sT (cs.map (wd B)))]=.ok (.str cs.flatten):=by
 refine z7 ((zx (ρ':=[.fz (.tup (sT B)),.fz (.lst (sT (cs.map (wd B)))),.fz (.dct ((W B.length).zip (sT B))),.no]) (zN (z8 (a:=.lst (sT (W B.length))) (b:=.tup (sT B)) ((fA1 (a:=.tup (sT B)) rfl).trans (w6 h32)) rfl (zip_back h32)))).trans ?_)
 have em:sT (cs.map (wd B))=cs.map fun p=>.str (wd B p):=by unfold sT; rw [List.map_map]; rfl
 obtain ⟨ρ',e,s,rfl⟩:=uh (i:=3) (g:=sIf (bT (f2 (hasD true) (fNm 3) (fNm 2))) (sRs 4 (zb (fC (.str [111,110,101,32,111,102,32,116,104,101,115,101,32,105,115,32,110,111,32,119,111,114,100,32,111,102,32,97,32,112,105,101,99,101])) zA)) sNx) (ρ:=[.fz (.tup (sT B)),.fz (.lst (sT (cs.map (wd B)))),.fz (.dct ((W B.length).zip (sT B))),.no]) (l:=cs) (enc:=fun p=>D.str (wd B p)) (fun _ ρ=>∃s,ρ=[.fz (.tup (sT B)),.fz (.lst (sT (cs.map (wd B)))),.fz (.dct ((W B.length).zip (sT B))),s]) ⟨.no,rfl⟩ (by
  rintro k p ρ hk ⟨s,rfl⟩
  have hpB:=hin p (List.mem_of_getElem? hk)
  refine ⟨_,ifF (xU (z8 (a:=.str (wd B p)) (b:=.dct ((W B.length).zip (sT B))) rfl rfl ?_)),.fz (.str (wd B p)),rfl⟩
  show some (D.bl (!(zar ((W B.length).zip (sT B)) (wd B p)).isSome))=_
  rw [zb4 h32 hpB]; rfl)
 refine (zx ((vX (fI_ok (a:=.lst (cs.map fun p=>.str (wd B p))) (by rw [← em]; rfl) rfl)).trans e)).trans ?_
 have e1:=yQ (fe:=f2 getD (fNm 1) (fNm 0)) (ρ0:=[.no,.fz (.dct ((W B.length).zip (sT B)))]) (l:=cs) (enc:=fun p=>D.str (wd B p)) (fun p=>.str p) fun p hpc=>z8 (a:=.dct ((W B.length).zip (sT B))) (b:=.str (wd B p)) rfl rfl (zb4 h32 (hin p hpc))
 have hfl:cs.flatten.length≤8 * cs.length:=by
  clear e1 hl em e
  induction cs with
  | nil=>simp
  | cons p cs ih =>
   have:=ih fun q hq=>hin q (.tail _ hq)
   have:=h8 p (hin p (.head _))
   rw [List.flatten_cons,List.length_append,List.length_cons]
   omega
 refine xH (zdb (a:=.str []) (b:=.lst (sT cs)) rfl rfl (wF (ds:=cs.map fun p=>.str (wd B p)) (by rw [em]; rfl) (by rw [List.length_map]; omega) e1) ?_)
 dsimp only [jf]
 rw [qu,if_pos ⟨u6 _,by omega⟩]
theorem zdf:∀(ks:List (List Nat)) (ds:List D) {k:List Nat},k∉ks→zar (ks.zip ds) k=none
 | [],ds,k,h=>by cases ds <;> rfl
 | a::ks,[],k,h=>rfl
 | a::ks,d::ds,k,h=>by
  rw [List.zip_cons_cons]
  unfold zar
  rw [List.find?_cons_of_neg (by simp; exact fun e=>h (e ▸ List.mem_cons_self))]
  exact zdf ks ds fun z=>h (List.mem_cons_of_mem _ z)
theorem zdT (h32:B.length≤32){cs:List (List Nat)}(hin:∀p∈cs,p∈B){w:List Nat}(hw:w∉W B.length):yL [.tup (sT B),.lst (sT (cs.map (wd B)++[w]))]=.ex 4:=by
 refine wK ((zx (ρ':=[.fz (.tup (sT B)),.fz (.lst (sT (cs.map (wd B)++[w]))),.fz (.dct ((W B.length).zip (sT B))),.no]) (zN (z8 (a:=.lst (sT (W B.length))) (b:=.tup (sT B)) ((fA1 (a:=.tup (sT B)) rfl).trans (w6 h32)) rfl (zip_back h32)))).trans ?_)
 refine uN ((vX (fI_ok (a:=.lst (sT (cs.map (wd B)++[w]))) rfl rfl)).trans ?_)
 have key:∀(ds:List (List Nat)) (L:Sl) (s:Sl),(∀p∈ds,p∈B)→forD 3 (sIf (bT (f2 (hasD true) (fNm 3) (fNm 2))) (sRs 4 (zb (fC (.str [111,110,101,32,111,102,32,116,104,101,115,101,32,105,115,32,110,111,32,119,111,114,100,32,111,102,32,97,32,112,105,101,99,101])) zA)) sNx) (sT (ds.map (wd B)++[w])) [.fz (.tup (sT B)),L,.fz (.dct ((W B.length).zip (sT B))),s]=.ex 4:=by
  intro ds
  induction ds with
  | nil =>
   intro L s _
   have e:sIf (bT (f2 (hasD true) (fNm 3) (fNm 2))) (sRs 4 (zb (fC (.str [111,110,101,32,111,102,32,116,104,101,115,101,32,105,115,32,110,111,32,119,111,114,100,32,111,102,32,97,32,112,105,101,99,101])) zA)) sNx [.fz (.tup (sT B)),L,.fz (.dct ((W B.length).zip (sT B))),.fz (.str w)]=.ex 4:=by
    refine (za9 (xU (z8 (a:=.str w) (b:=.dct ((W B.length).zip (sT B))) rfl rfl ?_))).trans rfl
    show some (D.bl (!(zar ((W B.length).zip (sT B)) w).isSome))=_
    rw [zdf _ _ hw]; rfl
   show (match sIf _ _ _ [.fz (.tup (sT B)),L,.fz (.dct ((W B.length).zip (sT B))),.fz (.str w)] with | .nx ρ'=>forD 3 _ [] ρ' | .ct ρ'=>forD 3 _ [] ρ' | .bk ρ'=>.nx ρ' | o=>o)=_
   rw [e]
  | cons p ds ih =>
   intro L s hs
   have e:sIf (bT (f2 (hasD true) (fNm 3) (fNm 2))) (sRs 4 (zb (fC (.str [111,110,101,32,111,102,32,116,104,101,115,101,32,105,115,32,110,111,32,119,111,114,100,32,111,102,32,97,32,112,105,101,99,101])) zA)) sNx [.fz (.tup (sT B)),L,.fz (.dct ((W B.length).zip (sT B))),.fz (.str (wd B p))]=.nx [.fz (.tup (sT B)),L,.fz (.dct ((W B.length).zip (sT B))),.fz (.str (wd B p))]:=by
    refine ifF (xU (z8 (a:=.str (wd B p)) (b:=.dct ((W B.length).zip (sT B))) rfl rfl ?_))
    show some (D.bl (!(zar ((W B.length).zip (sT B)) (wd B p)).isSome))=_
    rw [zb4 h32 (hs p List.mem_cons_self)]; rfl
   show (match sIf _ _ _ [.fz (.tup (sT B)),L,.fz (.dct ((W B.length).zip (sT B))),.fz (.str (wd B p))] with | .nx ρ'=>forD 3 _ (sT (ds.map (wd B)++[w])) ρ' | .ct ρ'=>forD 3 _ (sT (ds.map (wd B)++[w])) ρ' | .bk ρ'=>.nx ρ' | o=>o)=_
   rw [e]
   exact ih L _ fun q hq=>hs q (List.mem_cons_of_mem _ hq)
 exact key cs _ _ hin
theorem zcz (h:Bb m B)(h2:2≤B.length){cs:List (List Nat)}(hin:∀p∈cs,p∈B)(hl:cs.length≤1000)(k:Nat):zO [.int m,.tup (sT B),.str (cs.map (wd B)).flatten,.int (k:Int)]=.ok (.str (cs.drop k).flatten):=by
 have h32:=h.l32
 refine z7 ((zx (vK ((fA2 (a:=.int m) (b:=.tup (sT B)) rfl rfl).trans (yg h.pcs h.isB)))).trans ((zx (ρ':=[.fz (.int m),.fz (.tup (sT B)),.fz (.str (cs.map (wd B)).flatten),.fz (.int (k:Int)),.fz (.lst (sT (cs.map (wd B))))]) (zN ((fA2 (a:=.tup (sT B)) (b:=.str (cs.map (wd B)).flatten) rfl rfl).trans (kZ h2 h32 (fun w hw=>?_) (by rw [List.length_map]; exact hl))))).trans (xH ?_)))
 ·obtain ⟨p,hpc,rfl⟩:=List.mem_map.mp hw
  exact W_el (zcx (hin p hpc))
 ·refine (fA2 (a:=.tup (sT B)) (b:=.lst (sT ((cs.drop k).map (wd B)))) rfl (jZ (a:=.lst (sT (cs.map (wd B)))) (l:=some (k:Int)) (h:=none) rfl ?_ rfl ?_)).trans (text_of_eq h32 (fun p hpc=>hin p (List.mem_of_mem_drop hpc)) h.l8 (by rw [List.length_drop]; omega))
  ·have:fO maxD (zb (fNm 3) (zb (fC (.int 0)) zA)) [.fz (.int m),.fz (.tup (sT B)),.fz (.str (cs.map (wd B)).flatten),.fz (.int (k:Int)),.fz (.lst (sT (cs.map (wd B))))]=.ok (.int (k:Int)):=by
    refine jO (ds:=[.int (k:Int),.int 0]) rfl ?_
    show some (D.int (if (0:Int) > (k:Int) then 0 else (k:Int)))=_
    rw [if_neg (by omega)]
   unfold yS
   rw [this]; rfl
  ·show some (D.lst (zae (sT (cs.map (wd B))) (some (k:Int)) none))=_
   rw [qY]
   unfold sT
   rw [List.map_drop,← List.map_drop]
theorem from_more (h:Bb m B)(h2:2≤B.length){cs:List (List Nat)}(hin:∀p∈cs,p∈B)(hl:cs.length≤900){w:List Nat}(hw:w∉W B.length)(wl:w.length=zL B.length):zO [.int m,.tup (sT B),.str ((cs.map (wd B)).flatten++w),.int 0]=.ex 4:=by
 have h32:=h.l32
 have ef:(cs.map (wd B)).flatten++w=(cs.map (wd B)++[w]).flatten:=by rw [List.flatten_append]; simp
 rw [ef]
 refine wK ((zx (vK ((fA2 (a:=.int m) (b:=.tup (sT B)) rfl rfl).trans (yg h.pcs h.isB)))).trans ((zx (ρ':=[.fz (.int m),.fz (.tup (sT B)),.fz (.str (cs.map (wd B)++[w]).flatten),.fz (.int 0),.fz (.lst (sT (cs.map (wd B)++[w])))]) (zN ((fA2 (a:=.tup (sT B)) (b:=.str (cs.map (wd B)++[w]).flatten) rfl rfl).trans (kZ h2 h32 (fun w' hw'=>?_) (by rw [List.length_append,List.length_map]; simp; omega))))).trans (sRet_ex ?_)))
 ·rcases List.mem_append.mp hw' with z | z
  ·obtain ⟨p,hpc,rfl⟩:=List.mem_map.mp z
   exact W_el (zcx (hin p hpc))
  ·rw [List.mem_singleton.mp z]; exact wl
 ·refine (fA2 (a:=.tup (sT B)) (b:=.lst (sT (cs.map (wd B)++[w]))) rfl (jZ (a:=.lst (sT (cs.map (wd B)++[w]))) (l:=some 0) (h:=none) rfl ?_ rfl ?_)).trans (zdT h32 hin hw)
  ·rfl
  ·show some (D.lst (zae (sT (cs.map (wd B)++[w])) (some ((0:Nat):Int)) none))=_
   rw [qY]
   rfl
theorem zcW (h:Bb m B){d:D}(hd:bOr (zap (bT (f1 (zbh isStr) (fNm 1)))) (bT (f2 (eqD true) (f2 modI (fO uH (zb (fNm 1) zA)) (fNm 2)) (fC (.int 0)))) [.fz (.tup (sT B)),.fz d,.fz (.int ((zL B.length:Nat):Int))]=.ok true):zO [.int m,.tup (sT B),d,.int 0]=.ex 4:=by
 have e1:wC [.tup (sT B),d]=.ex 4:=wK ((zx (ρ':=[.fz (.tup (sT B)),.fz d,.fz (.int ((zL B.length:Nat):Int))]) (zN (cA1 (a:=.int (B.length:Int)) (lenT_sT rfl) (jh h.l32)))).trans (uN ((za9 hd).trans rfl)))
 refine wK ((zx (vK ((fA2 (a:=.int m) (b:=.tup (sT B)) rfl rfl).trans (yg h.pcs h.isB)))).trans (uN ?_))
 unfold yX
 rw [cA2 (a:=.tup (sT B)) (b:=d) rfl rfl e1]
theorem from_none (h:Bb m B):zO [.int m,.tup (sT B),.non,.int 0]=.ex 4:=zcW h (bOr_t (jm (b:=false) (xU rfl)))
theorem from_odd (h:Bb m B)(hb:1 < zL B.length){l:List Nat}{q:Nat}(hl:l.length=zL B.length * q + 1):zO [.int m,.tup (sT B),.str l,.int 0]=.ex 4:=by
 refine zcW h (bOr_f (jm (b:=true) (xU rfl)) (xU (z8 (a:=.int 1) (b:=.int 0) ((qj (i:=(l.length:Int)) (j:=((zL B.length:Nat):Int)) rfl rfl (by omega)).trans ?_) rfl rfl)))
 rw [hl]
 have:((zL B.length * q + 1:Nat):Int) % ((zL B.length:Nat):Int)=1:=by
  rw [← Int.natCast_emod,Nat.mul_add_mod,Nat.mod_eq_of_lt hb]; rfl
 rw [this]
theorem led_odd (h:Bb m B){l:List Nat}(hx:isText m l=false)(hl:l.length≤1000000):jF [.int m,.tup (sT B),.str l]=.ex 3:=by
 refine wK ((zx (vK (cA2 (a:=.int m) (b:=.tup (sT B)) rfl rfl (yg h.pcs h.isB)))).trans (uN (qX (cA2 (a:=.int m) (b:=.str l) rfl rfl (wK ?_)))))
 exact (za9 (jm (b:=false) (xU (cA2 (a:=.int m) (b:=.str l) rfl rfl ((uK m l hl).trans (by rw [hx])))))).trans rfl
theorem tail_none {n:Nat}(h:Kc m n B)(h7:n≤7):yK [.int m,.tup (sT B.tail)]=.ok (.bl false):=by
 have bb:=h.bb h7
 obtain ⟨t,_,e1,e2⟩:=h.bk.grAt
 have m2:=h.bk.m2
 have l32:=bb.l32
 have nd:=h.bk.nd
 cases B with
 | nil=>rw [List.length_nil] at e2; omega
 | cons p r =>
  rw [List.length_cons] at e2 l32
  have pr:Pcs m r:=⟨m2,h.bk.m4,fun z=>by rw [z,List.length_nil] at e2; omega,by omega,fun x hx=>bb.pcs.2.2.2.2 x (List.mem_cons_of_mem _ hx)⟩
  refine (zbp pr).trans ?_
  cases e:isBook m r with
  | false=>rfl
  | true =>
   have b:=zdK pr e
   obtain ⟨q,hq,z⟩:=b.cv p (h.bk.let_ p List.mem_cons_self)
   have qp:q=p:=by
    rcases z with z | z
    ·exact h.bk.pf q (List.mem_cons_of_mem _ hq) p List.mem_cons_self z
    ·exact (h.bk.pf p List.mem_cons_self q (List.mem_cons_of_mem _ hq) z).symm
   rw [qp] at hq
   exact absurd hq (List.nodup_cons.mp nd).1
theorem forE_inv {α:Type}{i j:Nat}{g:Rho→Out}{enc:α→D}(I:Nat→Rho→Prop):∀(l:List α) (n:Nat) (ρ:Rho),I n ρ→(∀k x ρ,l[k]? = some x→I (n + k) ρ→∃ρ',g ((ρ.set i (.fz (.int ((n + k:Nat):Int)))).set j (.fz (enc x)))=.nx ρ'∧I (n + k + 1) ρ')→∃ρ',forE i j g n (l.map enc) ρ=.nx ρ'∧I (n + l.length) ρ':=by
 intro l
 induction l with
 | nil=>intro n ρ h _; exact ⟨ρ,rfl,h⟩
 | cons x l ih =>
  intro n ρ h hs
  obtain ⟨ρ1,e1,h1⟩:=hs 0 x ρ rfl h
  obtain ⟨ρ2,e2,h2⟩:=ih (n + 1) ρ1 h1 fun k y ρ hk hI=>by
   have e:n + 1 + k=n + (k + 1):=by omega
   rw [e] at hI ⊢
   exact hs (k + 1) y ρ (by simpa using hk) hI
  refine ⟨ρ2,?_,by rw [List.length_cons,show n + (l.length + 1)=n + 1 + l.length by omega]; exact h2⟩
  rw [List.map_cons]
  unfold forE
  have e1':g ((ρ.set i (.fz (.int (n:Int)))).set j (.fz (enc x)))=.nx ρ1:=e1
  rw [e1']
  exact e2
theorem vo {x:List Nat}{L:List (List Nat)}(h:x∉L):inQ true (.str x) (sT L)=some (.bl true):=(inQ_sT true x L).trans (by rw [decide_eq_false h]; rfl)
theorem zbM {d:D}(h:d=.non∨d=.int 1)(L:List (List Nat)):inQ true d (sT L)=some (.bl true):=by
 have key:inV d.toV ((sT L).map D.toV)=false:=by
  induction L with
  | nil=>rfl
  | cons a L ih =>
   show (eqV (D.str a).toV d.toV || inV d.toV ((sT L).map D.toV))=false
   rw [ih]
   rcases h with rfl | rfl <;> rfl
 unfold inQ
 rw [if_pos ⟨by rcases h with rfl | rfl <;> rfl,all_fl L⟩,key]
 rfl
theorem rep_same (k:Nat):eqD true (.lst (List.replicate k (rf 4))) (.lst (List.replicate k (rf 4)))=some (.bl false):=by
 have hp:D.pls (List.replicate k (rf 4))=true:=by
  induction k with
  | zero=>rfl
  | succ k ih=>rw [List.replicate_succ]; show ((rf 4).pl&&D.pls (List.replicate k (rf 4)))=true; rw [ih]; rfl
 have hd:PyData.depthAll (D.pys (List.replicate k (rf 4)))≤10:=by
  induction k with
  | zero=>exact Nat.zero_le _
  | succ k ih =>
   rw [List.replicate_succ]
   show max (rf 4).py.depth (PyData.depthAll (D.pys (List.replicate k (rf 4))))≤10
   exact Nat.max_le.mpr ⟨by decide,ih (by have:=hp; rw [List.replicate_succ] at this; exact (Bool.and_eq_true_iff.mp this).2)⟩
 have he:PyData.eqvAll (D.pys (List.replicate k (rf 4))) (D.pys (List.replicate k (rf 4)))=true:=by
  clear hp hd
  induction k with
  | zero=>rfl
  | succ k ih =>
   rw [List.replicate_succ]
   show (PyData.eqv (rf 4).py (rf 4).py&&PyData.eqvAll (D.pys (List.replicate k (rf 4))) (D.pys (List.replicate k (rf 4))))=true
   rw [ih]; decide +kernel
 unfold eqD
 rw [if_pos ⟨hp,hp,by show PyData.depthAll (D.pys (List.replicate k (rf 4))) + 1≤60; omega⟩]
 show some (D.bl (!PyData.eqvAll (D.pys (List.replicate k (rf 4))) (D.pys (List.replicate k (rf 4)))))=_
 rw [he]; rfl
theorem rep_rf {k:Nat}(hk:k≤1000):repD (.lst [rf 4]) (.int (k:Int))=some (List.replicate k (rf 4)):=by
 show (if 0≤(k:Int)∧(k:Int)≤1000∧([rf 4]:List D).length≤1000 then some (List.replicate (k:Int).toNat [rf 4]).flatten else none)=_
 rw [if_pos ⟨by omega,by omega,by show 1≤1000; decide⟩,Int.toNat_natCast,List.flatten_replicate_singleton]
theorem joinS {f:Rho→Rs D}{ρ:Rho}{L:List (List Nat)}(e:f ρ=.ok (.lst (sT L)))(hl:L.flatten.length≤1000000):fM isS jf (fC (.str [])) f ρ=.ok (.str L.flatten):=by
 refine zdb (a:=.str []) (b:=.lst (sT L)) rfl rfl e ?_
 dsimp only [jf]
 rw [qu,if_pos ⟨u6 _,hl⟩]
theorem strT (x:List Nat):eqD true (.str x) (.str x)=some (.bl false):=(eqD_str true x x).trans (by simp)
theorem vQ {f g:Rho→Rs D}{ρ:Rho}{a b:List Nat}(e1:f ρ=.ok (.str a))(e2:g ρ=.ok (.str b))(h:a.length + b.length≤1000000):f2 kW f g ρ=.ok (.str (a++b)):=z8 e1 e2 (if_pos h)
theorem AW_get {n k:Nat}(hn:n < 33)(hk:k < n):(AW (zL n)).getD k []=(W n).getD k []:=by
 rw [(AW_take n hn).1,List.getD_eq_getElem?_getD,List.getD_eq_getElem?_getD,List.getElem?_take_of_lt hk]
theorem long_eq:∀n < 33,(([1,2,4,8,16]:List Nat).filter fun k=>decide (k < n)).length=zL n:=by decide +kernel
noncomputable abbrev rhoL (ns:List Int)(m:Nat)(B:List (List Nat))(s5 s6 s7 s8 s9 s10 s11 s12 s13 s14:Sl):Rho:=[.fz (scD ns),.fz (.int m),.fz (.tup (sT B)),.fz (.int ((zL B.length:Nat):Int)),.fz (.lst (sT (AW (zL B.length)))),s5,s6,s7,s8,s9,s10,s11,s12,s13,s14]
theorem words_loop (ns:List Int)(h:Bb m B)(s5 s6 s7 s8 s9 s10 s11 s12 s13 s14:Sl):∃s5' s6',sForE 5 6 (fNm 2)
  (sIf (bOr (bT (f2 (eqD true) (fA (ari 5 zB) (zb (fC (.int 0)) (zb (fNm 1) (zb (fNm 2) (zb (fNm 6) (zb (fC (.int 0)) zA)))))) (f2 ixD (fNm 4) (fNm 5)))) (bT (f2 (eqD true) (fA (ari 5 zB) (zb (fC (.int 1)) (zb (fNm 1) (zb (fNm 2) (zb (f2 ixD (fNm 4) (fNm 5)) (zb (fC (.int 0)) zA)))))) (fNm 6))))
  (yU (fC (.bl false)))
  sNx) (rhoL ns m B s5 s6 s7 s8 s9 s10 s11 s12 s13 s14)=.nx (rhoL ns m B s5' s6' s7 s8 s9 s10 s11 s12 s13 s14):=by
 have l32:=h.l32
 obtain ⟨ρ',e,s5',s6',rfl⟩:=forE_inv (i:=5) (j:=6) (enc:=D.str) (g:=sIf (bOr (bT (f2 (eqD true) (fA (ari 5 zB) (zb (fC (.int 0)) (zb (fNm 1) (zb (fNm 2) (zb (fNm 6) (zb (fC (.int 0)) zA)))))) (f2 ixD (fNm 4) (fNm 5)))) (bT (f2 (eqD true) (fA (ari 5 zB) (zb (fC (.int 1)) (zb (fNm 1) (zb (fNm 2) (zb (f2 ixD (fNm 4) (fNm 5)) (zb (fC (.int 0)) zA)))))) (fNm 6))))
  (yU (fC (.bl false)))
  sNx) (fun _ ρ=>∃s5' s6',ρ=rhoL ns m B s5' s6' s7 s8 s9 s10 s11 s12 s13 s14) B 0 (rhoL ns m B s5 s6 s7 s8 s9 s10 s11 s12 s13 s14) ⟨s5,s6,rfl⟩ (by
   rintro k p ρ hk ⟨z5,z6,rfl⟩
   obtain ⟨hk',ek⟩:=List.getElem?_eq_some_iff.mp hk
   have hp:p∈B:=List.mem_of_getElem? hk
   have ei:B.idxOf p=k:=by rw [← ek]; exact idx_lt (strict h.bk.srt h.bk.nd) hk'
   have ew:(AW (zL B.length)).getD k []=wd B p:=by unfold wd; rw [ei]; exact AW_get (by omega) hk'
   have lw:=(AW_take B.length (by omega)).2
   have ea:∀ρ:Rho,ρ[4]? = some (.fz (.lst (sT (AW (zL B.length)))))→ρ[5]? = some (.fz (.int ((0 + k:Nat):Int)))→f2 ixD (fNm 4) (fNm 5) ρ=.ok (.str (wd B p)):=fun ρ a4 a5=>by
    refine z8 (a:=.lst (sT (AW (zL B.length)))) (b:=.int ((0 + k:Nat):Int)) (by unfold fNm; rw [a4]) (by unfold fNm; rw [a5]) ?_
    rw [Nat.zero_add]
    exact (zdo (B:=AW (zL B.length)) (j:=k) (by omega)).trans (by rw [ew])
   exact ⟨_,ifF (zcu (xU (z8 (cA5 (a:=.int 0) (b:=.int m) (c:=.tup (sT B)) (d:=.str p) (k:=.int 0) rfl rfl rfl rfl rfl (told0 (tl (word_of_eq h.pcs h.isB hp)))) (ea _ rfl rfl) (strT _))) (xU (z8 (a:=.str p) (b:=.str p) (cA5 (a:=.int 1) (b:=.int m) (c:=.tup (sT B)) (d:=.str (wd B p)) (k:=.int 0) rfl rfl rfl (ea _ rfl rfl) rfl (told1 (tl (zdC h.pcs h.isB hp)))) rfl (strT _)))),_,_,rfl⟩)
 exact ⟨s5',s6',e⟩
theorem odd_facts {n:Nat}(h:Kc m n B)(h7:n≤7)(h2:2≤B.length){p w0:List Nat}{b:Nat}(eb:b=zL B.length)(hp:p∈B)(hw:w0∈AW b):∀d∈([.str [],.str [120],.str (p.dropLast++[122]),.non,.int 1,.str (p++[97]),.str (w0++[48]),.str (List.replicate b 50)]:List D),inD true d (.tup (sT B))=some (.bl true)∧inD true d (.lst (sT (W B.length)))=some (.bl true):=by
 have bb:=h.bb h7
 have l32:=bb.l32
 have m4:=h.bk.m4
 have b1:=bits1 h2
 have b5:=zda B.length
 have dg:=W_dig B.length (by omega)
 have ad:=AW_dig b (by omega) w0 hw
 have noL:∀{x:List Nat}{c:Nat},c∈x→(c < 97∨101≤c)→x∉B:=fun {x c} hc hr hx=>by
  have:=h.bk.let_ x hx c hc
  omega
 have noW:∀{x:List Nat}{c:Nat},c∈x→c≠48→c≠49→x∉W B.length:=fun {x c} hc h8 h9 hx=>by
  rcases dg x hx c hc with z | z
  ·exact h8 z
  ·exact h9 z
 have lenW:∀{x:List Nat},x.length≠zL B.length→x∉W B.length:=fun {x} hl hx=>hl (W_el hx)
 intro d hd
 simp only [List.mem_cons,List.not_mem_nil,or_false] at hd
 rcases hd with rfl | rfl | rfl | rfl | rfl | rfl | rfl | rfl
 ·exact ⟨vo fun z=>h.bk.ne _ z rfl,vo (lenW (by show 0≠_; omega))⟩
 ·exact ⟨vo (noL (c:=120) (by simp) (by omega)),vo (noW (c:=120) (by simp) (by decide) (by decide))⟩
 ·exact ⟨vo (noL (c:=122) (by simp) (by omega)),vo (noW (c:=122) (by simp) (by decide) (by decide))⟩
 ·exact ⟨zbM (.inl rfl) B,zbM (.inl rfl) _⟩
 ·exact ⟨zbM (.inr rfl) B,zbM (.inr rfl) _⟩
 ·refine ⟨vo fun z=>?_,vo (noW (c:=97) (by simp) (by decide) (by decide))⟩
  exact absurd (congrArg List.length (h.bk.pf p hp _ z ⟨[97],rfl⟩)) (by simp)
 ·exact ⟨vo (noL (c:=48) (by simp) (by omega)),vo (lenW (by rw [List.length_append,ad.1]; simp; omega))⟩
 ·have hc:50∈List.replicate b 50:=List.mem_replicate.mpr ⟨by omega,rfl⟩
  exact ⟨vo (noL hc (by omega)),vo (noW hc (by decide) (by decide))⟩
end
theorem law_true (ns:List Int)(hn:ns.length≤63):fn_law [.lst (ns.map .int)]=.ok (.bl true):=by
 have hd:=yE ns 0 (m:=3) (by decide)
 obtain ⟨r,hr⟩:=Int.eq_ofNat_of_zero_le hd.1
 rw [hr] at hd
 have m2:2≤2 + r:=by omega
 have m4:2 + r≤4:=by omega
 have hmm:(2:Int) + (r:Int)=((2 + r:Nat):Int):=by omega
 generalize hm:2 + r=m at m2 m4 hmm
 have hd8:=yE ns 8 (m:=6) (by decide)
 obtain ⟨t1,h1⟩:=Int.eq_ofNat_of_zero_le hd8.1
 rw [h1] at hd8
 have e1:=book_eq ns hn 10 m2 m4 t1 (by omega) (by decide)
 have h:=Kc.of_gr (n:=6) m2 m4 (bkF_gr ns 10 m2 m4 t1) (by omega)
 generalize bkF ns 10 m t1=B at e1 h
 have hl:=h.len (by decide)
 have bb:=h.bb (by decide)
 have l32:=bb.l32
 obtain ⟨t,_,eg1,eg2⟩:=h.bk.grAt
 have h2:2≤B.length:=by omega
 have b1:=bits1 h2
 have b5:=zda B.length
 have sB:=strict h.bk.srt h.bk.nd
 refine z7 ?_
 refine (zx (ρ':=[.fz (scD ns),.fz (.int m),.no,.no,.no,.no,.no,.no,.no,.no,.no,.no,.no,.no,.no]) (zN ((qO (i:=2) (j:=(r:Int)) rfl ((cA3 rfl rfl rfl (uD ns hn 0 3 (by decide) (by decide) (by decide))).trans (by rw [hr]))).trans (by rw [hmm])))).trans ?_
 refine (zx (ρ':=[.fz (scD ns),.fz (.int m),.fz (.tup (sT B)),.no,.no,.no,.no,.no,.no,.no,.no,.no,.no,.no,.no]) (zN (cA4 (a:=scD ns) (b:=.int 10) (c:=.int m) (d:=.int t1) rfl rfl rfl ((cA3 rfl rfl rfl (uD ns hn 8 6 (by decide) (by decide) (by decide))).trans (by rw [h1])) e1))).trans ?_
 have eln:fO uH (zb (yP (fI tpD (fO mkT (zb (fC (.int 1)) (zb (fC (.int 2)) (zb (fC (.int 4)) (zb (fC (.int 8)) (zb (fC (.int 16)) zA))))))) (bT (f2 ltI (fNm 0) (fO uH (zb (fNm 1) zA)))) (fNm 0) [2]) zA) [.fz (scD ns),.fz (.int m),.fz (.tup (sT B)),.no,.no,.no,.no,.no,.no,.no,.no,.no,.no,.no,.no]=.ok (.int ((zL B.length:Nat):Int)):=by
  refine jO (zG (wF (ds:=([1,2,4,8,16]:List Nat).map fun (k:Nat)=>D.int (k:Int)) rfl (by show 5≤1000000; decide) (jC (fun k=>decide (k < B.length)) (fun (k:Nat)=>D.int (k:Int)) fun k hk=>⟨xU (z8 (a:=.int (k:Int)) (b:=.int (B.length:Int)) rfl (lenT_sT rfl) ?_),fun _=>rfl⟩)) rfl) ?_
  ·show some (D.bl (decide ((k:Int) < (B.length:Int))))=_
   have ed:decide ((k:Int) < (B.length:Int))=decide (k < B.length):=decide_eq_decide.mpr (by omega)
   rw [ed]
  ·show some (D.int ((((([1,2,4,8,16]:List Nat).filter fun k=>decide (k < B.length)).map fun (k:Nat)=>D.int (k:Int)).length:Nat):Int))=_
   rw [List.length_map,long_eq B.length (by omega)]
 refine (zx (ρ':=[.fz (scD ns),.fz (.int m),.fz (.tup (sT B)),.fz (.int ((zL B.length:Nat):Int)),.no,.no,.no,.no,.no,.no,.no,.no,.no,.no,.no]) (zN eln)).trans ?_
 refine (zx (ρ':=rhoL ns m B .no .no .no .no .no .no .no .no .no .no) (zN (cA1 (a:=.int ((zL B.length:Nat):Int)) rfl (words_eq (by omega))))).trans ?_
 obtain ⟨s5,s6,eW⟩:=words_loop ns bb .no .no .no .no .no .no .no .no .no .no
 refine (zx (uJ eW)).trans ?_
 have lw:=(AW_take B.length (by omega)).2
 have lAW:(AW (zL B.length)).length≤32:=by
  unfold AW
  rw [List.length_map,List.length_range]
  exact Nat.le_trans (Nat.pow_le_pow_right (by decide) b5) (by decide)
 refine (zx (ρ':=rhoL ns m B s5 s6 (.fz (.lst (sT ((AW (zL B.length)).drop B.length)))) .no .no .no .no .no .no .no) (zN (jZ (a:=.lst (sT (AW (zL B.length)))) (l:=some (B.length:Int)) (h:=none) rfl (by unfold yS; rw [lenT_sT (L:=B) rfl]; rfl) rfl (by
  show some (D.lst (zae (sT (AW (zL B.length))) (some (B.length:Int)) none))=_
  rw [qY]; unfold sT; rw [List.map_drop])))).trans ?_
 have ld:((AW (zL B.length)).drop B.length).length≤32:=by rw [List.length_drop]; omega
 have en:yP (fI lsD (fNm 7)) xg (fA (ari 5 zB) (zb (fC (.int 1)) (zb (fNm 1) (zb (fNm 2) (zb (fNm 0) (zb (fC (.int 0)) zA)))))) [1,2] (rhoL ns m B s5 s6 (.fz (.lst (sT ((AW (zL B.length)).drop B.length)))) .no .no .no .no .no .no .no)=.ok (.lst (List.replicate ((AW (zL B.length)).drop B.length).length (rf 4))):=by
  rw [← List.map_const']
  exact wF (ds:=sT ((AW (zL B.length)).drop B.length)) rfl (by rw [yu]; omega) (yQ (fun _=>rf 4) fun w hw=>cA5 (a:=.int 1) (b:=.int m) (c:=.tup (sT B)) (d:=.str w) (k:=.int 0) rfl rfl rfl rfl rfl (told1 (tl4 (zcO bb (vo (AW_rest B.length (by omega) w hw))))))
 refine (zx (ifF (xU (z8 en (zbE (fL2_ok (a:=.lst [rf 4]) (b:=.int ((((AW (zL B.length)).drop B.length).length:Nat):Int)) rfl (len_sT rfl) (rep_rf (by omega)))) (rep_same _))))).trans ?_
 have et:=text_eq ns hn 20 m2 m4 20 (by decide)
 have hx:=textF_ok ns 20 m2 m4 20
 have hx20:=zc9 ns 20 m (long:=20)
 have et':uG [scD ns,.int 20,.int m,.int 20]=.ok (.str (zbe ns 20 m 20)):=et
 have hx20':(zbe ns 20 m 20).length≤20:=hx20
 clear et hx20
 generalize zbe ns 20 m 20=x at et' hx hx20'
 refine (zx (ρ':=rhoL ns m B s5 s6 (.fz (.lst (sT ((AW (zL B.length)).drop B.length)))) (.fz (.str x)) .no .no .no .no .no .no) (zN (cA4 (a:=scD ns) (b:=.int 20) (c:=.int m) (d:=.int 20) rfl rfl rfl rfl et'))).trans ?_
 have eled:=led_eq bb.pcs bb.isB sB hx (by omega:x.length≤1000)
 have ecut:=cut_own h.bk (by omega) (t:=x) (by omega)
 obtain ⟨_,cin,cfl⟩:=zaO B x
 have clen:=(zaq B x).1
 generalize (uc B x).1=cs at eled ecut cin cfl clen
 generalize (uc B x).2=left at eled ecut cfl
 have cfl':cs.flatten.length≤20:=by
  have:=congrArg List.length cfl
  rw [List.length_append] at this
  omega
 have sgl:=flat_len cin
 have sg5:zL B.length * cs.length≤5 * 20:=Nat.mul_le_mul b5 (by omega)
 refine (zx (ρ':=rhoL ns m B s5 s6 (.fz (.lst (sT ((AW (zL B.length)).drop B.length)))) (.fz (.str x)) (.fz (.lst (sT cs))) (.fz (.str left)) .no .no .no .no) (sSet2_ok (cA2 (a:=.tup (sT B)) (b:=.str x) rfl rfl ecut))).trans ?_
 have esg:yP (fI lsD (fNm 9)) xg (f2 ixD (fNm 1) (fM isTp idxD (fNm 2) (fNm 0))) [4,2] (rhoL ns m B s5 s6 (.fz (.lst (sT ((AW (zL B.length)).drop B.length)))) (.fz (.str x)) (.fz (.lst (sT cs))) (.fz (.str left)) .no .no .no .no)=.ok (.lst (sT (cs.map (wd B)))):=by
  refine (wF (ds:=sT cs) rfl (by rw [yu]; omega) (yQ (fun p=>D.str (wd B p)) fun p hp=>?_)).trans ?_
  ·have hpB:=cin p hp
   have hi:=List.idxOf_lt_length_of_mem hpB
   refine z8 (a:=.lst (sT (AW (zL B.length)))) (b:=.int ((B.idxOf p:Nat):Int)) rfl (zdb (a:=.tup (sT B)) (b:=.str p) rfl rfl rfl ?_) ?_
   ·dsimp only [idxD]
    rw [qu,if_pos ⟨u6 B,by rw [yu]; omega,hpB⟩]
   ·exact (zdo (B:=AW (zL B.length)) (j:=B.idxOf p) (by omega)).trans (by rw [AW_get (by omega) hi]; rfl)
  ·unfold sT; rw [List.map_map]; rfl
 refine (zx (ρ':=rhoL ns m B s5 s6 (.fz (.lst (sT ((AW (zL B.length)).drop B.length)))) (.fz (.str x)) (.fz (.lst (sT cs))) (.fz (.str left)) (.fz (.str (cs.map (wd B)).flatten)) .no .no .no) (zN (joinS esg (by omega)))).trans ?_
 have efr:=fun k=>zcz bb h2 cin (by omega) k
 have ebk:v9 [.int m,.tup (sT B),.str (cs.map (wd B)).flatten]=.ok (.str cs.flatten):=zbT (efr 0) (.inl ⟨_,rfl⟩)
 refine (zx (ifF (zcu (xU (z8 (a:=.tup (sT [(cs.map (wd B)).flatten,left])) (b:=.tup (sT [(cs.map (wd B)).flatten,left])) (cA5 (a:=.int 2) (b:=.int m) (c:=.tup (sT B)) (d:=.str x) (k:=.int 0) rfl rfl rfl rfl rfl (told2 (tl eled))) rfl ((eqD_tup true _ _).trans (by simp)))) (xU (z8 (cA5 (a:=.int 3) (b:=.int m) (c:=.tup (sT B)) (d:=.str (cs.map (wd B)).flatten) (k:=.int 0) rfl rfl rfl rfl rfl (told3 (tl ebk))) (joinS (L:=cs) rfl (by omega)) (strT _)))))).trans ?_
 have hd50:=yE ns 50 (m:=(cs.length:Int) + 2) (by omega)
 obtain ⟨j50,h50⟩:=Int.eq_ofNat_of_zero_le hd50.1
 obtain ⟨ρ',eF,s12,rfl⟩:=uh (i:=12) (g:=sIf (bT (f2 (eqD true) (fA (ari 5 zB) (zb (fC (.int 4)) (zb (fNm 1) (zb (fNm 2) (zb (fNm 11) (zb (fNm 12) zA)))))) (fM isS jf (fC (.str [])) (fSl (fNm 9) (yS (fNm 12)) wz)))) (yU (fC (.bl false))) sNx) (l:=[0,j50]) (enc:=fun (k:Nat)=>D.int (k:Int)) (ρ:=rhoL ns m B s5 s6 (.fz (.lst (sT ((AW (zL B.length)).drop B.length)))) (.fz (.str x)) (.fz (.lst (sT cs))) (.fz (.str left)) (.fz (.str (cs.map (wd B)).flatten)) .no .no .no)
  (fun _ ρ=>∃s12,ρ=rhoL ns m B s5 s6 (.fz (.lst (sT ((AW (zL B.length)).drop B.length)))) (.fz (.str x)) (.fz (.lst (sT cs))) (.fz (.str left)) (.fz (.str (cs.map (wd B)).flatten)) s12 .no .no) ⟨.no,rfl⟩ (by
   rintro k q ρ hk ⟨z,rfl⟩
   have lq:(cs.drop q).flatten.length≤20:=by
    have e:=congrArg List.length (congrArg List.flatten (List.take_append_drop q cs))
    rw [List.flatten_append,List.length_append] at e
    omega
   refine ⟨_,ifF (xU (z8 (cA5 (a:=.int 4) (b:=.int m) (c:=.tup (sT B)) (d:=.str (cs.map (wd B)).flatten) (k:=.int (q:Int)) rfl rfl rfl rfl rfl (told4 (tl (efr q)))) (joinS (L:=cs.drop q) (jZ (a:=.lst (sT cs)) (l:=some (q:Int)) (h:=none) rfl rfl rfl ?_) (by omega)) (strT _))),_,rfl⟩
   show some (D.lst (zae (sT cs) (some (q:Int)) none))=_
   rw [qY]; unfold sT; rw [List.map_drop])
 refine (zx (uJ ((vX (fI_ok (a:=.tup [.int 0,.int (j50:Int)]) (jO (ds:=[.int 0,.int (j50:Int)]) (zG rfl (zG ((cA3 (a:=scD ns) (b:=.int 50) (c:=.int ((cs.length:Int) + 2)) rfl rfl (qO (len_sT (L:=cs) rfl) rfl) (uD ns hn 50 _ (by decide) (by decide) (by omega))).trans (by rw [h50])) rfl)) rfl) rfl)).trans eF))).trans ?_
 have hp:B.getD 0 []∈B:=getD_mem (by omega)
 have ea:=zdo (B:=B) (j:=0) (by omega)
 generalize B.getD 0 []=p at hp ea
 have hw:(AW (zL B.length)).getD 0 []∈AW (zL B.length):=getD_mem (by omega)
 have ew:=zdo (B:=AW (zL B.length)) (j:=0) (by omega)
 generalize (AW (zL B.length)).getD 0 []=w0 at hw ew
 have lp:=h.l7 p hp
 have lw0:=(AW_dig _ (by omega) w0 hw).1
 unfold rhoL
 generalize hbb:zL B.length=b at *
 have odds:=odd_facts h (by decide) h2 hbb.symm hp hw
 have hd5:=yE ns 51 (m:=8) (by decide)
 obtain ⟨j5,h5⟩:=Int.eq_ofNat_of_zero_le hd5.1
 have hd52:=hd5.2
 rw [h5] at hd52
 have l5:j5 < ([.str [],.str [120],.str (p.dropLast++[122]),.non,.int 1,.str (p++[97]),.str (w0++[48]),.str (List.replicate b 50)]:List D).length:=by show j5 < 8; omega
 have a5:=at_lst l5
 obtain ⟨b5',c5⟩:=odds _ (List.getElem_mem l5)
 generalize ([.str [],.str [120],.str (p.dropLast++[122]),.non,.int 1,.str (p++[97]),.str (w0++[48]),.str (List.replicate b 50)]:List D)[j5]=odd at a5 b5' c5
 have eR:∀ρ:Rho,ρ[3]? = some (.fz (.int ((b:Nat):Int)))→f2 repS (fC (.str [50])) (fNm 3) ρ=.ok (.str (List.replicate b 50)):=fun ρ a3=>by
  refine z8 (a:=.str [50]) (b:=.int ((b:Nat):Int)) rfl (by unfold fNm; rw [a3]) ?_
  show (if 0≤((b:Nat):Int)∧((b:Nat):Int)≤1000 then some (D.str (List.replicate ((b:Nat):Int).toNat 50)) else none)=_
  rw [if_pos ⟨by omega,by omega⟩,Int.toNat_natCast]
 have eP:∀ρ:Rho,ρ[2]? = some (.fz (.tup (sT B)))→f2 ixD (fNm 2) (fC (.int 0)) ρ=.ok (.str p):=fun ρ a2=>z8 (a:=.tup (sT B)) (b:=.int 0) (by unfold fNm; rw [a2]) rfl ea
 have eO:fO mkL (zb (fC (.str [])) (zb (fC (.str [120])) (zb (f2 kW (fSl (f2 ixD (fNm 2) (fC (.int 0))) wz (yS (f1 negI (fC (.int 1))))) (fC (.str [122]))) (zb (fC .non) (zb (fC (.int 1)) (zb (f2 kW (f2 ixD (fNm 2) (fC (.int 0))) (fC (.str [97]))) (zb (f2 kW (f2 ixD (fNm 4) (fC (.int 0))) (fC (.str [48]))) (zb (f2 repS (fC (.str [50])) (fNm 3)) zA)))))))) [.fz (scD ns),.fz (.int m),.fz (.tup (sT B)),.fz (.int ((b:Nat):Int)),.fz (.lst (sT (AW b))),s5,s6,.fz (.lst (sT ((AW b).drop B.length))),.fz (.str x),.fz (.lst (sT cs)),.fz (.str left),.fz (.str (cs.map (wd B)).flatten),s12,.no,.no]=.ok (.lst [.str [],.str [120],.str (p.dropLast++[122]),.non,.int 1,.str (p++[97]),.str (w0++[48]),.str (List.replicate b 50)]):=by
  refine jO (ds:=[.str [],.str [120],.str (p.dropLast++[122]),.non,.int 1,.str (p++[97]),.str (w0++[48]),.str (List.replicate b 50)]) (zG rfl (zG rfl (zG (vQ (jZ (a:=.str p) (l:=none) (h:=some (-1)) (eP _ rfl) rfl rfl (sl_last p)) rfl (by rw [List.length_dropLast]; show _ + 1≤_; omega)) (zG rfl (zG rfl (zG (vQ (eP _ rfl) rfl (by show _ + 1≤_; omega)) (zG (vQ (z8 (a:=.lst (sT (AW b))) (b:=.int 0) rfl rfl ew) rfl (by show _ + 1≤_; omega)) (zG (eR _ rfl) rfl)))))))) rfl
 refine (zx (ρ':=[.fz (scD ns),.fz (.int m),.fz (.tup (sT B)),.fz (.int ((b:Nat):Int)),.fz (.lst (sT (AW b))),s5,s6,.fz (.lst (sT ((AW b).drop B.length))),.fz (.str x),.fz (.lst (sT cs)),.fz (.str left),.fz (.str (cs.map (wd B)).flatten),s12,.fz odd,.no]) (zN (z8 (b:=.int (j5:Int)) eO ((cA3 rfl rfl rfl (uD ns hn 51 8 (by decide) (by decide) (by decide))).trans (by rw [h5])) a5))).trans ?_
 refine (zx (ifF (zcu (xU (z8 (a:=rf 2) (b:=rf 2) (cA5 (a:=.int 0) (b:=.int m) (c:=.tup (sT B)) (d:=odd) (k:=.int 0) rfl rfl rfl rfl rfl (told0 (tl2 (word_odd bb b5')))) rfl rfl)) (xU (z8 (a:=rf 4) (b:=rf 4) (cA5 (a:=.int 1) (b:=.int m) (c:=.tup (sT B)) (d:=odd) (k:=.int 0) rfl rfl rfl rfl rfl (told1 (tl4 (zcO bb c5)))) rfl rfl))))).trans ?_
 have hS:(List.replicate b 50)∉W B.length:=fun z=>by
  rcases W_dig B.length (by omega) _ z 50 (List.mem_replicate.mpr ⟨by omega,rfl⟩) with e | e <;> cases e
 have m1:v9 [.int m,.tup (sT B),.str ((cs.map (wd B)).flatten++List.replicate b 50)]=.ex 4:=zbT (from_more bb h2 cin (by omega) hS (by rw [List.length_replicate]; exact hbb.symm)) (.inr ⟨_,rfl⟩)
 have m2':1 < b→v9 [.int m,.tup (sT B),.str ((cs.map (wd B)).flatten++[49])]=.ex 4:=fun hb=>zbT (from_odd bb (q:=cs.length) (by omega) (by rw [List.length_append,sgl,hbb]; rfl)) (.inr ⟨_,rfl⟩)
 have eM:fLs (fL2 catD (fO mkL (zb (f2 kW (fNm 11) (f2 repS (fC (.str [50])) (fNm 3))) zA)) (fLs (fL2 repD (fO mkL (zb (f2 kW (fNm 11) (fC (.str [49]))) zA)) (fO intD (zb (f2 gtI (fNm 3) (fC (.int 1))) zA))))) [.fz (scD ns),.fz (.int m),.fz (.tup (sT B)),.fz (.int ((b:Nat):Int)),.fz (.lst (sT (AW b))),s5,s6,.fz (.lst (sT ((AW b).drop B.length))),.fz (.str x),.fz (.lst (sT cs)),.fz (.str left),.fz (.str (cs.map (wd B)).flatten),s12,.fz odd,.no]=.ok (.lst (sT ([(cs.map (wd B)).flatten++List.replicate b 50]++List.replicate (if 1 < b then 1 else 0) ((cs.map (wd B)).flatten++[49])))):=by
  refine zbE (fL2_ok (a:=.lst (sT [(cs.map (wd B)).flatten++List.replicate b 50])) (jO (ds:=sT [(cs.map (wd B)).flatten++List.replicate b 50]) (zG (vQ rfl (eR _ rfl) (by rw [List.length_replicate]; omega)) rfl) rfl) (zbE (fL2_ok (a:=.lst [.str ((cs.map (wd B)).flatten++[49])]) (b:=.int ((if 1 < b then 1 else 0:Nat):Int)) (jO (ds:=[.str ((cs.map (wd B)).flatten++[49])]) (zG (vQ rfl rfl (by show _ + 1≤_; omega)) rfl) rfl) (jO (ds:=[.bl (decide ((1:Int) < (b:Int)))]) (zG rfl rfl) ?_) (rep_one _ (by split <;> omega)))) (cat_sT (by rw [List.length_replicate]; show 1 + _≤_; split <;> omega)))
  show some (D.int (if decide ((1:Int) < (b:Int))=true then 1 else 0))=_
  by_cases z:1 < b
  ·rw [if_pos z,if_pos (decide_eq_true (by omega))]; rfl
  ·rw [if_neg z,if_neg (by rw [decide_eq_true_eq]; omega)]; rfl
 refine (zx (ρ':=[.fz (scD ns),.fz (.int m),.fz (.tup (sT B)),.fz (.int ((b:Nat):Int)),.fz (.lst (sT (AW b))),s5,s6,.fz (.lst (sT ((AW b).drop B.length))),.fz (.str x),.fz (.lst (sT cs)),.fz (.str left),.fz (.str (cs.map (wd B)).flatten),s12,.fz odd,.fz (.lst (sT ([(cs.map (wd B)).flatten++List.replicate b 50]++List.replicate (if 1 < b then 1 else 0) ((cs.map (wd B)).flatten++[49]))))]) (zN eM)).trans ?_
 have eC:yP (fI lsD (fNm 14)) (bT (f2 (eqD true) (fA (ari 5 zB) (zb (fC (.int 3)) (zb (fNm 1) (zb (fNm 2) (zb (fNm 0) (zb (fC (.int 0)) zA)))))) (fO mkT (zb (fC (.str [114,101,102,117,115,101,100])) (zb (fC (.int 4)) zA))))) (fNm 0) [1,2] [.fz (scD ns),.fz (.int m),.fz (.tup (sT B)),.fz (.int ((b:Nat):Int)),.fz (.lst (sT (AW b))),s5,s6,.fz (.lst (sT ((AW b).drop B.length))),.fz (.str x),.fz (.lst (sT cs)),.fz (.str left),.fz (.str (cs.map (wd B)).flatten),s12,.fz odd,.fz (.lst (sT ([(cs.map (wd B)).flatten++List.replicate b 50]++List.replicate (if 1 < b then 1 else 0) ((cs.map (wd B)).flatten++[49]))))]=.ok (.lst (sT [])):=by
  refine (wF (ds:=sT ([(cs.map (wd B)).flatten++List.replicate b 50]++List.replicate (if 1 < b then 1 else 0) ((cs.map (wd B)).flatten++[49]))) rfl (by rw [yu,List.length_append,List.length_replicate]; show 1 + _≤_; split <;> omega) (jC (fun _=>false) D.str fun y hy=>⟨xU (z8 (a:=rf 4) (b:=rf 4) (cA5 (a:=.int 3) (b:=.int m) (c:=.tup (sT B)) (d:=.str y) (k:=.int 0) rfl rfl rfl rfl rfl (told3 (tl4 ?_))) rfl rfl),fun z=>by cases z⟩)).trans ?_
  ·rcases List.mem_append.mp hy with z | z
   ·rw [List.mem_singleton.mp z]; exact m1
   ·obtain ⟨z1,rfl⟩:=List.mem_replicate.mp z
    exact m2' (by by_cases q:1 < b; exact q; rw [if_neg q] at z1; exact absurd rfl z1)
  ·rw [List.filter_eq_nil_iff.mpr (by simp)]; rfl
 refine (zx (ifF (xU (z8 (b:=.lst (sT [])) eC rfl (jQ true [] []))))).trans ?_
 have hz:isText m (x++[122])=false:=by
  cases e:isText m (x++[122]) with
  | false=>rfl
  | true=>have:=isText_let e 122 (by simp); omega
 refine (zx (ifF (zcu (xU (z8 (a:=rf 3) (b:=rf 3) (cA5 (a:=.int 2) (b:=.int m) (c:=.tup (sT B)) (d:=.str (x++[122])) (k:=.int 0) rfl rfl rfl (vQ (a:=x) (b:=[122]) rfl rfl (by show _ + 1≤_; omega)) rfl (told2 (tl3 (led_odd bb hz (by rw [List.length_append]; show _ + 1≤_; omega))))) rfl rfl)) (xU (z8 (a:=rf 4) (b:=rf 4) (cA5 (a:=.int 4) (b:=.int m) (c:=.tup (sT B)) (d:=.non) (k:=.int 0) rfl rfl rfl rfl rfl (told4 (tl4 (from_none bb)))) rfl rfl))))).trans ?_
 have nones:∀d∈([.non,.tup (sT B.tail),.lst (sT B)]:List D),yK [.int m,d]=.ok (.bl false):=by
  intro d hd
  simp only [List.mem_cons,List.not_mem_nil,or_false] at hd
  rcases hd with rfl | rfl | rfl
  ·exact book_bad (are_not m2 m4 rfl rfl)
  ·exact tail_none h (by decide)
  ·exact book_bad (are_not m2 m4 (wZ B) rfl)
 have hd6:=yE ns 52 (m:=3) (by decide)
 obtain ⟨j6,h6⟩:=Int.eq_ofNat_of_zero_le hd6.1
 have hd62:=hd6.2
 rw [h6] at hd62
 have l6:j6 < ([.non,.tup (sT B.tail),.lst (sT B)]:List D).length:=by show j6 < 3; omega
 have a6:=at_lst l6
 have b6:=nones _ (List.getElem_mem l6)
 generalize ([.non,.tup (sT B.tail),.lst (sT B)]:List D)[j6]=none' at a6 b6
 refine (zx (ρ':=[.fz (scD ns),.fz (.int m),.fz (.tup (sT B)),.fz (.int ((b:Nat):Int)),.fz (.lst (sT (AW b))),s5,s6,.fz none',.fz (.str x),.fz (.lst (sT cs)),.fz (.str left),.fz (.str (cs.map (wd B)).flatten),s12,.fz odd,.fz (.lst (sT ([(cs.map (wd B)).flatten++List.replicate b 50]++List.replicate (if 1 < b then 1 else 0) ((cs.map (wd B)).flatten++[49]))))]) (zN (z8 (a:=.lst [.non,.tup (sT B.tail),.lst (sT B)]) (b:=.int (j6:Int)) (jO (ds:=[.non,.tup (sT B.tail),.lst (sT B)]) (zG rfl (zG (jZ (a:=.tup (sT B)) (l:=some 1) (h:=none) rfl rfl rfl (by show some (D.tup (zae (sT B) (some 1) none))=_; rw [zbL])) (zG rfl rfl))) rfl) ((cA3 rfl rfl rfl (uD ns hn 52 3 (by decide) (by decide) (by decide))).trans (by rw [h6])) a6))).trans ?_
 refine xH (z8 (a:=.lst [rf 1,rf 1,rf 1,rf 1,rf 1]) (b:=.lst [rf 1,rf 1,rf 1,rf 1,rf 1]) (wF (ds:=[.int 0,.int 1,.int 2,.int 3,.int 4]) rfl (by show 5≤1000000; decide) ?_) rfl rfl)
 refine zcq rfl (cA5 (a:=.int 0) (b:=.int m) (c:=none') (d:=odd) (k:=.int 0) rfl rfl rfl rfl rfl (told0 (tl1 (word_bad b6)))) ?_
 refine zcq rfl (cA5 (a:=.int 1) (b:=.int m) (c:=none') (d:=odd) (k:=.int 0) rfl rfl rfl rfl rfl (told1 (tl1 (zdQ b6)))) ?_
 refine zcq rfl (cA5 (a:=.int 2) (b:=.int m) (c:=none') (d:=odd) (k:=.int 0) rfl rfl rfl rfl rfl (told2 (tl1 (led_bad b6)))) ?_
 refine zcq rfl (cA5 (a:=.int 3) (b:=.int m) (c:=none') (d:=odd) (k:=.int 0) rfl rfl rfl rfl rfl (told3 (tl1 (zbT (from_bad b6) (.inr ⟨_,rfl⟩))))) ?_
 exact zcq rfl (cA5 (a:=.int 4) (b:=.int m) (c:=none') (d:=odd) (k:=.int 0) rfl rfl rfl rfl rfl (told4 (tl1 (from_bad b6)))) rfl
end K40
namespace K40
open PySem L2 PyProof.Rows
open PySem.Challenge
open My
open Pg
noncomputable def top (i:Nat):Stmt:=PySem.Challenge.pw_piecebooks_k40_words.main.body.getD i (.Pass ⟨0,0,0,0⟩)
noncomputable abbrev vg:Stmt:=top 44
noncomputable abbrev wL:Stmt:=top 45
noncomputable abbrev xX:Stmt:=top 46
noncomputable abbrev yZ:Stmt:=top 51
noncomputable abbrev wH:Stmt:=top 48
noncomputable abbrev wO:Stmt:=top 52
noncomputable abbrev wI:Stmt:=top 18
noncomputable abbrev vN:Stmt:=top 11
noncomputable abbrev wN:Stmt:=top 12
noncomputable abbrev zW:Stmt:=top 17
noncomputable abbrev wk:Stmt:=top 13
noncomputable abbrev wj:Stmt:=top 19
noncomputable abbrev wM:Stmt:=top 25
noncomputable abbrev uU:Stmt:=top 22
noncomputable abbrev vd:Stmt:=top 24
noncomputable abbrev vq:Stmt:=top 23
noncomputable abbrev yc:Stmt:=top 26
noncomputable abbrev wB:Stmt:=top 27
noncomputable abbrev uT:Stmt:=top 28
noncomputable abbrev xQ:Stmt:=top 20
noncomputable abbrev vL:Stmt:=top 31
noncomputable abbrev xG:Stmt:=top 39
noncomputable abbrev vM:Stmt:=top 33
noncomputable abbrev vf:Stmt:=top 34
noncomputable abbrev yD:Stmt:=top 40
noncomputable abbrev vh:Stmt:=top 42
noncomputable abbrev yW:Stmt:=top 21
noncomputable abbrev uR:Stmt:=top 35
noncomputable abbrev vO:Stmt:=top 36
noncomputable abbrev yC:Stmt:=top 14
noncomputable abbrev kj:Stmt:=top 29
noncomputable abbrev qx:Stmt:=top 37
noncomputable abbrev s_led:Stmt:=top 38
noncomputable abbrev zbq:Stmt:=top 41
noncomputable abbrev xP:Stmt:=top 49
noncomputable abbrev vm:Stmt:=top 50
noncomputable abbrev za1:Stmt:=top 53
set_option genInjectivity false in
structure Txt (K:PySem.W.Frag)(mg:Str→Option Value) where
 d__law_cell:Dn K mg "_law_cell" vg ["_law_script", "_law_k"]
 d__law_drawn:Dn K mg "_law_drawn" wL ["_law_script", "_law_k", "_law_many"]
 d__law_book:Dn K mg "_law_book" xX ["_law_script", "_law_at", "_law_many", "_law_turns"]
 d__law_words:Dn K mg "_law_words" yZ ["_law_long"]
 d__law_text:Dn K mg "_law_text" wH ["_law_script", "_law_at", "_law_many", "_law_long"]
 d__law_cut:Dn K mg "_law_cut" wO ["_law_book_here", "_law_text_here"]
 d_is_rising:Dn K mg "is_rising" wI ["texts"]
 d_is_whole:Dn K mg "is_whole" vN ["thing"]
 d_is_between:Dn K mg "is_between" wN ["thing", "least", "most"]
 d_is_number_of_letters:Dn K mg "is_number_of_letters" zW ["thing"]
 d_is_text_of:Dn K mg "is_text_of" wk ["many", "thing"]
 d_are_pieces:Dn K mg "are_pieces" wj ["many", "thing"]
 d_first_pair:Dn K mg "first_pair" wM ["pieces"]
 d_gone_on:Dn K mg "gone_on" uU ["many", "texts"]
 d_is_apart:Dn K mg "is_apart" vd ["pieces", "text"]
 d_is_inner:Dn K mg "is_inner" vq ["pieces", "text"]
 d_first_text_apart:Dn K mg "first_text_apart" yc ["many", "pieces"]
 d_first_paper:Dn K mg "first_paper" wB ["many", "pieces"]
 d_is_book:Dn K mg "is_book" uT ["many", "thing"]
 d_require_book:Dn K mg "require_book" xQ ["many", "thing"]
 d_bits_for:Dn K mg "bits_for" vL ["size"]
 d_whole_words:Dn K mg "whole_words" xG ["book", "signs"]
 d_word_for:Dn K mg "word_for" vM ["number", "bits"]
 d_words_of:Dn K mg "words_of" vf ["book"]
 d_text_of_words:Dn K mg "text_of_words" yD ["book", "words"]
 d_from_word:Dn K mg "from_word" vh ["many", "book", "signs", "number"]
 d_require_piece:Dn K mg "require_piece" yW ["book", "thing"]
 d_word_of:Dn K mg "word_of" uR ["many", "book", "piece"]
 d_piece_of:Dn K mg "piece_of" vO ["many", "book", "word"]
 d_require_text_of:Dn K mg "require_text_of" yC ["many", "thing"]
 d_cut_by:Dn K mg "cut_by" kj ["book", "text"]
 d_led_by:Dn K mg "led_by" qx ["book", "text"]
 d_led:Dn K mg "led" s_led ["many", "book", "text"]
 d_back:Dn K mg "back" zbq ["many", "book", "signs"]
 d__law_refused:Dn K mg "_law_refused" xP ["_law_e"]
 d__law_told:Dn K mg "_law_told" vm ["_law_way", "_law_many", "_law_book_here", "_law_thing", "_law_number"]
 d_law:Dn K mg "law" za1 ["_law_script"]
 v_FEWEST_LETTERS:Value
 c_FEWEST_LETTERS:mg "FEWEST_LETTERS" = some v_FEWEST_LETTERS
 r_FEWEST_LETTERS:RelV (.int (2)) v_FEWEST_LETTERS
 v_LETTERS:Value
 c_LETTERS:mg "LETTERS" = some v_LETTERS
 r_LETTERS:RelV (.str (T [97,98,99,100])) v_LETTERS
 v_MOST_PIECES:Value
 c_MOST_PIECES:mg "MOST_PIECES" = some v_MOST_PIECES
 r_MOST_PIECES:RelV (.int (32)) v_MOST_PIECES
 n_ValueError:mg "ValueError" = none
 n_all:mg "all" = none
 n_any:mg "any" = none
 n_bool:mg "bool" = none
 n_dict:mg "dict" = none
 n_enumerate:mg "enumerate" = none
 n_int:mg "int" = none
 n_isinstance:mg "isinstance" = none
 n_len:mg "len" = none
 n_list:mg "list" = none
 n_max:mg "max" = none
 n_range:mg "range" = none
 n_sorted:mg "sorted" = none
 n_str:mg "str" = none
 n_tuple:mg "tuple" = none
 n_zip:mg "zip" = none
 x_NoBook:Own K mg "NoBook"
 x_NoLetters:Own K mg "NoLetters"
 x_NoPiece:Own K mg "NoPiece"
 x_NoSize:Own K mg "NoSize"
 x_NoSource:Own K mg "NoSource"
 x_NoWord:Own K mg "NoWord"
 x_PieceError:Own K mg "PieceError"
 e_NoBook:ExcK K x_NoBook.C
 s_NoBook:PySem.W.subIn K (.ref x_NoBook.C) (.ref x_PieceError.C)=some true
 k_NoBook_NoSource:PySem.W.kitOne K (.ref x_NoBook.C) (.ref x_NoSource.C)=some false
 k_NoBook_NoBook:PySem.W.kitOne K (.ref x_NoBook.C) (.ref x_NoBook.C)=some true
 k_NoBook_NoPiece:PySem.W.kitOne K (.ref x_NoBook.C) (.ref x_NoPiece.C)=some false
 k_NoBook_NoLetters:PySem.W.kitOne K (.ref x_NoBook.C) (.ref x_NoLetters.C)=some false
 k_NoBook_NoWord:PySem.W.kitOne K (.ref x_NoBook.C) (.ref x_NoWord.C)=some false
 k_NoBook_NoSize:PySem.W.kitOne K (.ref x_NoBook.C) (.ref x_NoSize.C)=some false
 v_NoBook:PySem.W.kitOne K (.ref x_NoBook.C) (.type "ValueError")=some true
 e_NoPiece:ExcK K x_NoPiece.C
 s_NoPiece:PySem.W.subIn K (.ref x_NoPiece.C) (.ref x_PieceError.C)=some true
 k_NoPiece_NoSource:PySem.W.kitOne K (.ref x_NoPiece.C) (.ref x_NoSource.C)=some false
 k_NoPiece_NoBook:PySem.W.kitOne K (.ref x_NoPiece.C) (.ref x_NoBook.C)=some false
 k_NoPiece_NoPiece:PySem.W.kitOne K (.ref x_NoPiece.C) (.ref x_NoPiece.C)=some true
 k_NoPiece_NoLetters:PySem.W.kitOne K (.ref x_NoPiece.C) (.ref x_NoLetters.C)=some false
 k_NoPiece_NoWord:PySem.W.kitOne K (.ref x_NoPiece.C) (.ref x_NoWord.C)=some false
 k_NoPiece_NoSize:PySem.W.kitOne K (.ref x_NoPiece.C) (.ref x_NoSize.C)=some false
 v_NoPiece:PySem.W.kitOne K (.ref x_NoPiece.C) (.type "ValueError")=some true
 e_NoLetters:ExcK K x_NoLetters.C
 s_NoLetters:PySem.W.subIn K (.ref x_NoLetters.C) (.ref x_PieceError.C)=some true
 k_NoLetters_NoSource:PySem.W.kitOne K (.ref x_NoLetters.C) (.ref x_NoSource.C)=some false
 k_NoLetters_NoBook:PySem.W.kitOne K (.ref x_NoLetters.C) (.ref x_NoBook.C)=some false
 k_NoLetters_NoPiece:PySem.W.kitOne K (.ref x_NoLetters.C) (.ref x_NoPiece.C)=some false
 k_NoLetters_NoLetters:PySem.W.kitOne K (.ref x_NoLetters.C) (.ref x_NoLetters.C)=some true
 k_NoLetters_NoWord:PySem.W.kitOne K (.ref x_NoLetters.C) (.ref x_NoWord.C)=some false
 k_NoLetters_NoSize:PySem.W.kitOne K (.ref x_NoLetters.C) (.ref x_NoSize.C)=some false
 v_NoLetters:PySem.W.kitOne K (.ref x_NoLetters.C) (.type "ValueError")=some true
 e_NoWord:ExcK K x_NoWord.C
 s_NoWord:PySem.W.subIn K (.ref x_NoWord.C) (.ref x_PieceError.C)=some true
 k_NoWord_NoSource:PySem.W.kitOne K (.ref x_NoWord.C) (.ref x_NoSource.C)=some false
 k_NoWord_NoBook:PySem.W.kitOne K (.ref x_NoWord.C) (.ref x_NoBook.C)=some false
 k_NoWord_NoPiece:PySem.W.kitOne K (.ref x_NoWord.C) (.ref x_NoPiece.C)=some false
 k_NoWord_NoLetters:PySem.W.kitOne K (.ref x_NoWord.C) (.ref x_NoLetters.C)=some false
 k_NoWord_NoWord:PySem.W.kitOne K (.ref x_NoWord.C) (.ref x_NoWord.C)=some true
 k_NoWord_NoSize:PySem.W.kitOne K (.ref x_NoWord.C) (.ref x_NoSize.C)=some false
 v_NoWord:PySem.W.kitOne K (.ref x_NoWord.C) (.type "ValueError")=some true
noncomputable def yq {K:PySem.W.Frag}{mg:Str→Option Value}(t:Txt K mg):Nat→Addr
 | 1=>t.x_NoBook.C
 | 3=>t.x_NoLetters.C
 | 2=>t.x_NoPiece.C
 | 5=>t.x_NoSize.C
 | 0=>t.x_NoSource.C
 | 4=>t.x_NoWord.C
 | _=>0
section
variable {P:Program}{w:World}{K:PySem.W.Frag}{mg:Str→Option Value}{base:Heap}
theorem zct:FnScope ["_law_script", "_law_k"] ["_law_script", "_law_k"] (zm vg):=⟨rfl,rfl,rfl,by decide +kernel,rfl,by decide +kernel,by decide +kernel⟩
theorem zdn (t:Txt K mg):FnOk P w K mg base (CX1 P w) 1 t.d__law_cell.f t.d__law_cell.fd ["_law_script", "_law_k"] (spD K (yq t) uE 2) :=
 show FnOk P w K mg base (CX1 P w) 1 t.d__law_cell.f t.d__law_cell.fd ["_law_script", "_law_k"] (spD K (yq t) (yx 2 vW) 2) from
 fnD (N:=["_law_script", "_law_k"]) (ps:=["_law_script", "_law_k"]) (k:=0) (m:=2) (n:=2) (g:=vW) (cl:=yq t) t.d__law_cell.fn zct rfl rfl fun cdv A outer s H E hr =>
   (zq (ud (wu (op_eqD hr.units) o_eq (zj 0 (pv 0)) (jy zu) (xO _))
   (zy (zQ (yF jk zaS zE (zj 1 (pv 1)))))
   yI)
   (zy (zQ (yF uW uQ (qK (zj 0 (pv 0)) (yF zaa j8 (zj 1 (pv 1)) (yo yV n_len rfl t.n_len boot_len (zc (zj 0 (pv 0)) zu za) za)) (fun _ _=>rfl)) (yF jk zaS zE (yF jo zaA (zj 1 (pv 1)) (yo yV n_len rfl t.n_len boot_len (zc (zj 0 (pv 0)) zu za) za)))))))
theorem sc__law_drawn:FnScope ["_law_script", "_law_k", "_law_many", "_law_cell_here"] ["_law_script", "_law_k", "_law_many"] (zm wL):=⟨rfl,rfl,rfl,by decide +kernel,rfl,by decide +kernel,by decide +kernel⟩
theorem yN (t:Txt K mg):FnOk P w K mg base (CX1 P w) 2 t.d__law_drawn.f t.d__law_drawn.fd ["_law_script", "_law_k", "_law_many"] (spD K (yq t) zJ 3) :=
 show FnOk P w K mg base (CX1 P w) 2 t.d__law_drawn.f t.d__law_drawn.fd ["_law_script", "_law_k", "_law_many"] (spD K (yq t) (yx 4 vC) 3) from
 fnD (N:=["_law_script", "_law_k", "_law_many", "_law_cell_here"]) (ps:=["_law_script", "_law_k", "_law_many"]) (k:=1) (m:=4) (n:=3) (g:=vC) (cl:=yq t) t.d__law_drawn.fn sc__law_drawn rfl rfl fun cdv A outer s H E hr =>
   (zq (yh (i:=3) sc__law_drawn.nd rfl (Or.inl rfl) (yF zaa j8 (yF uW uQ (yF jk zaS (yF zaa j8 (zF (zdn t) (hr.mono (by decide)) rfl t.d__law_cell.mg t.d__law_cell.fn.kp t.d__law_cell.bd yR (zc (zj 0 (pv 0)) (zc (zj 1 (pv 1)) zu za) za) za) zE) zE) (yF jk zaS zE (yF uW uQ (zj 1 (pv 1)) zE))) zE))
   (zq (yh (i:=3) sc__law_drawn.nd rfl (Or.inl rfl) (yF zaa j8 (yF uW uQ (yF jk zaS (zj 3 (pv 3)) (zj 3 (pv 3))) (yF jo zaA (zj 3 (pv 3)) zE)) zE))
   (zy (zQ (yF zaa j8 (yF jo zaA (yF zaa j8 (yF uW uQ (yF jk zaS (zj 3 (pv 3)) (zj 3 (pv 3))) (yF jo zaA (zj 3 (pv 3)) zE)) zE) zE) (zj 2 (pv 2)))))))
theorem sc__law_book:FnScope ["_law_script", "_law_at", "_law_many", "_law_turns", "_law_found", "_law_k", "_law_piece"] ["_law_script", "_law_at", "_law_many", "_law_turns"] (zm xX):=⟨rfl,rfl,rfl,by decide +kernel,rfl,by decide +kernel,by decide +kernel⟩
theorem zcC (t:Txt K mg):FnOk P w K mg base (CX1 P w) 3 t.d__law_book.f t.d__law_book.fd ["_law_script", "_law_at", "_law_many", "_law_turns"] (spD K (yq t) qR 4) :=
 show FnOk P w K mg base (CX1 P w) 3 t.d__law_book.f t.d__law_book.fd ["_law_script", "_law_at", "_law_many", "_law_turns"] (spD K (yq t) (yx 7 v5) 4) from
 fnD (N:=["_law_script", "_law_at", "_law_many", "_law_turns", "_law_found", "_law_k", "_law_piece"]) (ps:=["_law_script", "_law_at", "_law_many", "_law_turns"]) (k:=2) (m:=7) (n:=4) (g:=v5) (cl:=yq t) t.d__law_book.fn sc__law_book rfl rfl fun cdv A outer s H E hr =>
   (zq (xs_compO (j:=4) sc__law_book.nd rfl rfl (x := "_law_k") (caps:=[]) (yJ (fs:=zm xX) (N:=["_law_script", "_law_at", "_law_many", "_law_turns", "_law_found", "_law_k", "_law_piece"]) rfl rfl (by decide +kernel)) rfl (vz rfl t.n_range (zc (zj 2 (pv 2)) zu za) rfl) ⟨fun _ _ _ _ _=>(zX (i:=0) (uf (N:=["_law_k"]) rfl (by decide +kernel)) rfl (Or.inl rfl)),fun _ _ _ _ _=>xW,fun _ _ _ _ _=>(qK (yO (l:=[97,98,99,100]) (by decide +kernel) (vV (by decide +kernel) (by decide +kernel))) (zj 0 (pv 0)) (fun _ _=>rfl))⟩ rfl)
   (zq (qM (jD (i:=5) PassesOwn.never rfl (vz rfl t.n_range (zc (zj 3 (pv 3)) zu za) rfl) (zX (i:=5) sc__law_book.nd rfl (Or.inl rfl))
   (zq (xs_pop (j:=6) sc__law_book.nd rfl (Or.inr rfl) (pv 4) (xe_fl (i:=4) (zF (yN t) (hr.mono (by decide)) rfl t.d__law_drawn.mg t.d__law_drawn.fn.kp t.d__law_drawn.bd jn (zc (zj 0 (pv 0)) (zc (yF uW uQ (zj 1 (pv 1)) (zj 5 (pv 5))) (zc (yo yV n_len rfl t.n_len boot_len (zc (zj 4 (pv 4)) zu za) za) zu zZ) xr) za) za)) ⟨zZ,rfl,rfl,rfl,rfl⟩)
   (zy (zcG (i:=4) (zb3 (i:=4) sc__law_book.nd rfl (Or.inl rfl) (zcP rfl t.n_sorted boot_sorted (XL.xe (xl_cat (zj 4 (pv 4)) (xZ (x := "_law_j") (caps:=[6]) (yJ (fs:=zm xX) (N:=["_law_script", "_law_at", "_law_many", "_law_turns", "_law_found", "_law_k", "_law_piece"]) rfl rfl (by decide +kernel)) rfl (vz rfl t.n_range (zc (zj 2 (pv 2)) zu za) rfl) ⟨fun _ _ _ _ _=>(zX (i:=0) (uf (N:=["_law_j", "_law_piece"]) rfl (by decide +kernel)) rfl (Or.inl rfl)),fun _ _ _ _ _=>xW,fun _ _ _ _ _=>(yF vG qD (zj 1 (pv 1)) (qK (yO (l:=[97,98,99,100]) (by decide +kernel) (vV (by decide +kernel) (by decide +kernel))) (zj 0 (pv 0)) (fun _ _=>rfl)))⟩))) xr)))))))
   (zy (zcG (i:=4) (zQ (zaV zcc n_tup rfl t.n_tuple boot_tuple (zc (zj 4 (pv 4)) zu za) za))))))
theorem sc__law_words:FnScope ["_law_long", "_law_found", "_law_turn"] ["_law_long"] (zm yZ):=⟨rfl,rfl,rfl,by decide +kernel,rfl,by decide +kernel,by decide +kernel⟩
theorem zbR (t:Txt K mg):FnOk P w K mg base (CX1 P w) 1 t.d__law_words.f t.d__law_words.fd ["_law_long"] (spD K (yq t) qz 1) :=
 show FnOk P w K mg base (CX1 P w) 1 t.d__law_words.f t.d__law_words.fd ["_law_long"] (spD K (yq t) (yx 3 qT) 1) from
 fnD (N:=["_law_long", "_law_found", "_law_turn"]) (ps:=["_law_long"]) (k:=0) (m:=3) (n:=1) (g:=qT) (cl:=yq t) t.d__law_words.fn sc__law_words rfl rfl fun cdv A outer s H E hr =>
   (zq (yh (i:=1) sc__law_words.nd rfl (Or.inl rfl) (XEw.out (zbt (zM (uV (l:=[]) (by decide +kernel) (vV (by decide +kernel) (by decide +kernel))) vA zf))))
   (zq (qM (jD (i:=2) PassesOwn.never rfl (vz rfl t.n_range (zc (zj 0 (pv 0)) zu za) rfl) (zX (i:=2) sc__law_words.nd rfl (Or.inl rfl))
   (zy (yh (i:=1) sc__law_words.nd rfl (Or.inl rfl) (XL.xe (xl_cat (xZ (x := "_law_word") (caps:=[]) (yJ (fs:=zm yZ) (N:=["_law_long", "_law_found", "_law_turn"]) rfl rfl (by decide +kernel)) rfl (v8 (zj 1 (pv 1))) ⟨fun _ _ _ _ _=>(zX (i:=0) (uf (N:=["_law_word"]) rfl (by decide +kernel)) rfl (Or.inl rfl)),fun _ _ _ _ _=>xW,fun _ _ _ _ _=>(yF vG qD (zj 0 (pv 0)) (yO (l:=[48]) (by decide +kernel) (vV (by decide +kernel) (by decide +kernel))))⟩) (xZ (x := "_law_word") (caps:=[]) (yJ (fs:=zm yZ) (N:=["_law_long", "_law_found", "_law_turn"]) rfl rfl (by decide +kernel)) rfl (v8 (zj 1 (pv 1))) ⟨fun _ _ _ _ _=>(zX (i:=0) (uf (N:=["_law_word"]) rfl (by decide +kernel)) rfl (Or.inl rfl)),fun _ _ _ _ _=>xW,fun _ _ _ _ _=>(yF vG qD (zj 0 (pv 0)) (yO (l:=[49]) (by decide +kernel) (vV (by decide +kernel) (by decide +kernel))))⟩)))))))
   (zy (zQ (XL.xe (zcP rfl t.n_sorted boot_sorted (zj 1 (pv 1)) za))))))
theorem sc__law_text:FnScope ["_law_script", "_law_at", "_law_many", "_law_long", "_law_size"] ["_law_script", "_law_at", "_law_many", "_law_long"] (zm wH):=⟨rfl,rfl,rfl,by decide +kernel,rfl,by decide +kernel,by decide +kernel⟩
theorem zdd (t:Txt K mg):FnOk P w K mg base (CX1 P w) 3 t.d__law_text.f t.d__law_text.fd ["_law_script", "_law_at", "_law_many", "_law_long"] (spD K (yq t) uG 4) :=
 show FnOk P w K mg base (CX1 P w) 3 t.d__law_text.f t.d__law_text.fd ["_law_script", "_law_at", "_law_many", "_law_long"] (spD K (yq t) (yx 5 v7) 4) from
 fnD (N:=["_law_script", "_law_at", "_law_many", "_law_long", "_law_size"]) (ps:=["_law_script", "_law_at", "_law_many", "_law_long"]) (k:=2) (m:=5) (n:=4) (g:=v7) (cl:=yq t) t.d__law_text.fn sc__law_text rfl rfl fun cdv A outer s H E hr =>
   (zq (yh (i:=4) sc__law_text.nd rfl (Or.inl rfl) (zF (yN t) (hr.mono (by decide)) rfl t.d__law_drawn.mg t.d__law_drawn.fn.kp t.d__law_drawn.bd yR (zc (zj 0 (pv 0)) (zc (zj 1 (pv 1)) (zc (yF uW uQ (zj 3 (pv 3)) zE) zu xr) za) za) za))
   (zy (zQ (jM (yO (l:=[]) (by decide +kernel) (vV (by decide +kernel) (by decide +kernel))) (xZ (x := "_law_k") (caps:=[0,2,1]) (yJ (fs:=zm wH) (N:=["_law_script", "_law_at", "_law_many", "_law_long", "_law_size"]) rfl rfl (by decide +kernel)) rfl (vz rfl t.n_range (zc (zj 4 (pv 4)) zu za) rfl) ⟨fun _ _ _ _ _=>(zX (i:=0) (uf (N:=["_law_k", "_law_script", "_law_many", "_law_at"]) rfl (by decide +kernel)) rfl (Or.inl rfl)),fun _ _ _ _ _=>xW,fun _ _ _ _ _=>(qK (yO (l:=[97,98,99,100]) (by decide +kernel) (vV (by decide +kernel) (by decide +kernel))) (zF (yN t) (hr.mono (by decide)) rfl t.d__law_drawn.mg t.d__law_drawn.fn.kp t.d__law_drawn.bd jn (zc (zj 1 (pv 1)) (zc (yF uW uQ (yF uW uQ (zj 3 (pv 3)) zE) (zj 0 (pv 0))) (zc (zj 2 (pv 2)) zu za) xr) za) za) (fun _ _=>rfl))⟩) ⟨rfl,rfl,rfl,rfl,rfl⟩))))
theorem sc__law_cut:FnScope ["_law_book_here", "_law_text_here", "_law_pieces", "_law_some"] ["_law_book_here", "_law_text_here"] (zm wO):=⟨rfl,rfl,rfl,by decide +kernel,rfl,by decide +kernel,by decide +kernel⟩
theorem zdy (t:Txt K mg):FnOk P w K mg base (CX1 P w) 1 t.d__law_cut.f t.d__law_cut.fd ["_law_book_here", "_law_text_here"] (spD K (yq t) jg 2) :=
 show FnOk P w K mg base (CX1 P w) 1 t.d__law_cut.f t.d__law_cut.fd ["_law_book_here", "_law_text_here"] (spD K (yq t) (yx 4 jN) 2) from
 fnD (N:=["_law_book_here", "_law_text_here", "_law_pieces", "_law_some"]) (ps:=["_law_book_here", "_law_text_here"]) (k:=0) (m:=4) (n:=2) (g:=jN) (cl:=yq t) t.d__law_cut.fn sc__law_cut rfl rfl fun cdv A outer s H E hr =>
   (zq (zb3 (i:=2) sc__law_cut.nd rfl (Or.inl rfl) (xl_lst zu))
   (zq (zdA (j:=3) sc__law_cut.nd rfl rfl (x := "_law_piece") (caps:=[1]) (yJ (fs:=zm wO) (N:=["_law_book_here", "_law_text_here", "_law_pieces", "_law_some"]) rfl rfl (by decide +kernel)) rfl (zaD (zj 0 (pv 0))) ⟨fun _ _ _ _ _=>(zX (i:=0) (uf (N:=["_law_piece", "_law_text_here"]) rfl (by decide +kernel)) rfl (Or.inl rfl)),fun _ _ _ _ _=>(zaE (qC (uX (zj 1 (pv 1)) (zj 0 (pv 0)) ⟨za,rfl,rfl,rfl,rfl⟩))),fun _ _ _ _ _=>(zj 0 (pv 0))⟩ rfl)
   (zq (qM (zbX 64 PassesOwn.never (wu (w5 hr.units) zcj (zj 3 (pv 3)) (jy zu) (xO _))
   (zq (zav (pv 2) (qK (zj 3 (pv 3)) zE (fun _ _=>rfl)) ⟨uo,rfl,rfl,rfl,rfl⟩)
   (zq (yh (i:=1) sc__law_cut.nd rfl (Or.inr rfl) (wU (zj 1 (pv 1)) (vD (yo yV n_len rfl t.n_len boot_len (zc (qK (zj 3 (pv 3)) zE (fun _ _=>rfl)) zu uo) uo)) uM))
   (zy (zdA (j:=3) sc__law_cut.nd rfl rfl (x := "_law_piece") (caps:=[1]) (yJ (fs:=zm wO) (N:=["_law_book_here", "_law_text_here", "_law_pieces", "_law_some"]) rfl rfl (by decide +kernel)) rfl (zaD (zj 0 (pv 0))) ⟨fun _ _ _ _ _=>(zX (i:=0) (uf (N:=["_law_piece", "_law_text_here"]) rfl (by decide +kernel)) rfl (Or.inl rfl)),fun _ _ _ _ _=>(zaE (qC (uX (zj 1 (pv 1)) (zj 0 (pv 0)) ⟨za,rfl,rfl,rfl,rfl⟩))),fun _ _ _ _ _=>(zj 0 (pv 0))⟩ rfl))))))
   (zy (zcG (i:=2) (zQ (zby (zc (zj 2 (pv 2)) (zc (zj 1 (pv 1)) zu za) za))))))))
theorem zdg:FnScope ["texts"] ["texts"] (zm wI):=⟨rfl,rfl,rfl,by decide +kernel,rfl,by decide +kernel,by decide +kernel⟩
theorem zc7 (t:Txt K mg):FnOk P w K mg base (CX1 P w) 1 t.d_is_rising.f t.d_is_rising.fd ["texts"] (spD K (yq t) uF 1) :=
 show FnOk P w K mg base (CX1 P w) 1 t.d_is_rising.f t.d_is_rising.fd ["texts"] (spD K (yq t) (yx 1 qe) 1) from
 fnD (N:=["texts"]) (ps:=["texts"]) (k:=0) (m:=1) (n:=1) (g:=qe) (cl:=yq t) t.d_is_rising.fn zdg rfl rfl fun cdv A outer s H E hr =>
   (zy (zQ (yo (zch rfl) n_all rfl t.n_all boot_all (zc (XL.xe (xl_compZ (x := "one") (y := "other") (caps:=[]) (yJ (fs:=zm wI) (N:=["texts"]) rfl rfl (by decide +kernel)) rfl rfl t.n_zip (zj 0 (pv 0)) (wU (zj 0 (pv 0)) (vD zE) uM) ⟨fun _ _ _ _ _=>(pg_two (K:=K) (i:=0) (j:=1) rfl rfl (uf (N:=["one", "other"]) rfl (by decide +kernel)) rfl rfl (Or.inl rfl) (Or.inl rfl)),fun _ _ _ _ _=>xW,fun _ _ _ _ _=>(zbo op_lt_str o_ltS (zj 0 (pv 0)) (zj 1 (pv 1)) (xO _))⟩ rfl rfl)) zu rfl) rfl)))
theorem zdU:FnScope ["thing"] ["thing"] (zm vN):=⟨rfl,rfl,rfl,by decide +kernel,rfl,by decide +kernel,by decide +kernel⟩
theorem ok_is_whole (t:Txt K mg):FnOk P w K mg base (CX1 P w) 1 t.d_is_whole.f t.d_is_whole.fd ["thing"] (spD K (yq t) je 1) :=
 show FnOk P w K mg base (CX1 P w) 1 t.d_is_whole.f t.d_is_whole.fd ["thing"] (spD K (yq t) (yx 1 jW) 1) from
 fnD (N:=["thing"]) (ps:=["thing"]) (k:=0) (m:=1) (n:=1) (g:=jW) (cl:=yq t) t.d_is_whole.fn zdU rfl rfl fun cdv A outer s H E hr =>
   (zy (zQ (zbu (zcK kit_int rfl t.n_isinstance (zj 0 (pv 0)) (jU (v:=.ty "int") rfl t.n_int boot_int rfl) za) (zaJ (xe_not (zcK kit_bool rfl t.n_isinstance (zj 0 (pv 0)) (jU (v:=.ty "bool") rfl t.n_bool boot_bool rfl) za))))))
theorem zbY:FnScope ["thing", "least", "most"] ["thing", "least", "most"] (zm wN):=⟨rfl,rfl,rfl,by decide +kernel,rfl,by decide +kernel,by decide +kernel⟩
theorem zcf (t:Txt K mg):FnOk P w K mg base (CX1 P w) 2 t.d_is_between.f t.d_is_between.fd ["thing", "least", "most"] (spD K (yq t) vJ 3) :=
 show FnOk P w K mg base (CX1 P w) 2 t.d_is_between.f t.d_is_between.fd ["thing", "least", "most"] (spD K (yq t) (yx 3 um) 3) from
 fnD (N:=["thing", "least", "most"]) (ps:=["thing", "least", "most"]) (k:=1) (m:=3) (n:=3) (g:=um) (cl:=yq t) t.d_is_between.fn zbY rfl rfl fun cdv A outer s H E hr =>
   (zy (zQ (zbu (zF (ok_is_whole t) (hr.mono (by decide)) rfl t.d_is_whole.mg t.d_is_whole.fn.kp t.d_is_whole.bd yR (zc (zj 0 (pv 0)) zu za) za) (zaJ (xe_chain op_le op_le o_leI o_leI (zj 1 (pv 1)) (zj 0 (pv 0)) (zj 2 (pv 2)))))))
theorem qt:FnScope ["thing"] ["thing"] (zm zW):=⟨rfl,rfl,rfl,by decide +kernel,rfl,by decide +kernel,by decide +kernel⟩
theorem ql (t:Txt K mg):FnOk P w K mg base (CX1 P w) 3 t.d_is_number_of_letters.f t.d_is_number_of_letters.fd ["thing"] (spD K (yq t) ye 1) :=
 show FnOk P w K mg base (CX1 P w) 3 t.d_is_number_of_letters.f t.d_is_number_of_letters.fd ["thing"] (spD K (yq t) (yx 1 yG) 1) from
 fnD (N:=["thing"]) (ps:=["thing"]) (k:=2) (m:=1) (n:=1) (g:=yG) (cl:=yq t) t.d_is_number_of_letters.fn qt rfl rfl fun cdv A outer s H E hr =>
   (zy (zQ (zF (zcf t) (hr.mono (by decide)) rfl t.d_is_between.mg t.d_is_between.fn.kp t.d_is_between.bd yR (zc (zj 0 (pv 0)) (zc (xe_c (wG (v:=.int (2)) rfl t.c_FEWEST_LETTERS t.r_FEWEST_LETTERS) fun _=>.int _) (zc (yo yV n_len rfl t.n_len boot_len (zc (xe_c (wG (v:=.str (T [97,98,99,100])) rfl t.c_LETTERS t.r_LETTERS) fun _=>.str [97,98,99,100] (vV (by decide +kernel) (by decide +kernel))) zu za) za) zu zZ) za) za) za)))
theorem sc_is_text_of:FnScope ["many", "thing", "letters"] ["many", "thing"] (zm wk):=⟨rfl,rfl,rfl,by decide +kernel,rfl,by decide +kernel,by decide +kernel⟩
theorem jz (t:Txt K mg):FnOk P w K mg base (CX1 P w) 1 t.d_is_text_of.f t.d_is_text_of.fd ["many", "thing"] (spD K (yq t) xq 2) :=
 show FnOk P w K mg base (CX1 P w) 1 t.d_is_text_of.f t.d_is_text_of.fd ["many", "thing"] (spD K (yq t) (yx 3 uw) 2) from
 fnD (N:=["many", "thing", "letters"]) (ps:=["many", "thing"]) (k:=0) (m:=3) (n:=2) (g:=uw) (cl:=yq t) t.d_is_text_of.fn sc_is_text_of rfl rfl fun cdv A outer s H E hr =>
   (zq (yh (i:=2) sc_is_text_of.nd rfl (Or.inr rfl) (wU (xe_c (wG (v:=.str (T [97,98,99,100])) rfl t.c_LETTERS t.r_LETTERS) fun _=>.str [97,98,99,100] (vV (by decide +kernel) (by decide +kernel))) uM (vD (zj 0 (pv 0)))))
   (zy (zQ (zbu (zcK kit_str rfl t.n_isinstance (zj 1 (pv 1)) (jU (v:=.ty "str") rfl t.n_str boot_str rfl) za) (zaJ (yo (zch rfl) n_all rfl t.n_all boot_all (zc (xZ (x := "sign") (caps:=[2]) (yJ (fs:=zm wk) (N:=["many", "thing", "letters"]) rfl rfl (by decide +kernel)) rfl (xi_str (zj 1 (pv 1))) ⟨fun _ _ _ _ _=>(zX (i:=0) (uf (N:=["sign", "letters"]) rfl (by decide +kernel)) rfl (Or.inl rfl)),fun _ _ _ _ _=>xW,fun _ _ _ _ _=>(zbo op_inC o_inC (zj 0 (pv 0)) (zj 1 (pv 1)) (by with_unfolding_all rfl))⟩) zu rfl) rfl))))))
theorem zb6:FnScope ["many", "thing"] ["many", "thing"] (zm wj):=⟨rfl,rfl,rfl,by decide +kernel,rfl,by decide +kernel,by decide +kernel⟩
theorem zbO (t:Txt K mg):FnOk P w K mg base (CX1 P w) 4 t.d_are_pieces.f t.d_are_pieces.fd ["many", "thing"] (spD K (yq t) xj 2) :=
 show FnOk P w K mg base (CX1 P w) 4 t.d_are_pieces.f t.d_are_pieces.fd ["many", "thing"] (spD K (yq t) (yx 2 uq) 2) from
 fnD (N:=["many", "thing"]) (ps:=["many", "thing"]) (k:=3) (m:=2) (n:=2) (g:=uq) (cl:=yq t) t.d_are_pieces.fn zb6 rfl rfl fun cdv A outer s H E hr =>
   (zq (ud (XW.xt (zdx (zac (qC (zF (ql t) (hr.mono (by decide)) rfl t.d_is_number_of_letters.mg t.d_is_number_of_letters.fn.kp t.d_is_number_of_letters.bd yR (zc (zj 0 (pv 0)) zu za) za))) (zaK (zac (qC (zcK kit_tuple rfl t.n_isinstance (zj 1 (pv 1)) (jU (v:=.ty "tuple") rfl t.n_tuple boot_tuple rfl) za))))))
   (zy (zQ zam))
   yI)
   (zq (ud (zac (xt_chain op_le op_le o_leI o_leI zE (yo yV n_len rfl t.n_len boot_len (zc (zj 1 (pv 1)) zu za) za) (xe_c (wG (v:=.int (32)) rfl t.c_MOST_PIECES t.r_MOST_PIECES) fun _=>.int _)))
   (zy (zQ zam))
   yI)
   (zq (ud (zac (qC (yo (zch rfl) n_all rfl t.n_all boot_all (zc (xZ (x := "part") (caps:=[0]) (yJ (fs:=zm wj) (N:=["many", "thing"]) rfl rfl (by decide +kernel)) rfl (zaD (zj 1 (pv 1))) ⟨fun _ _ _ _ _=>(zX (i:=0) (uf (N:=["part", "many"]) rfl (by decide +kernel)) rfl (Or.inl rfl)),fun _ _ _ _ _=>xW,fun _ _ _ _ _=>(zbu (zF (jz t) (hr.mono (by decide)) rfl t.d_is_text_of.mg t.d_is_text_of.fn.kp t.d_is_text_of.bd jn (zc (zj 1 (pv 1)) (zc (zj 0 (pv 0)) zu za) za) za) (zaJ (zbo (w5 hr.units) zcj (zj 0 (pv 0)) (yO (l:=[]) (by decide +kernel) (vV (by decide +kernel) (by decide +kernel))) (xO _))))⟩) zu rfl) rfl)))
   (zy (zQ zam))
   yI)
   (zy (zQ (zF (zc7 t) (hr.mono (by decide)) rfl t.d_is_rising.mg t.d_is_rising.fn.kp t.d_is_rising.bd yR (zc (zj 1 (pv 1)) zu za) za))))))
theorem sc_first_pair:FnScope ["pieces", "one", "other"] ["pieces"] (zm wM):=⟨rfl,rfl,rfl,by decide +kernel,rfl,by decide +kernel,by decide +kernel⟩
theorem zb9 (t:Txt K mg):FnOk P w K mg base (CX1 P w) 1 t.d_first_pair.f t.d_first_pair.fd ["pieces"] (spD K (yq t) xK 1) :=
 show FnOk P w K mg base (CX1 P w) 1 t.d_first_pair.f t.d_first_pair.fd ["pieces"] (spD K (yq t) (yx 3 wg) 1) from
 fnD (N:=["pieces", "one", "other"]) (ps:=["pieces"]) (k:=0) (m:=3) (n:=1) (g:=wg) (cl:=yq t) t.d_first_pair.fn sc_first_pair rfl rfl fun cdv A outer s H E hr =>
   (zq (qM (xs_forZ (i:=1) (j:=2) PassesOwn.never rfl rfl t.n_zip (zj 0 (pv 0)) (wU (zj 0 (pv 0)) (vD zE) uM) (pg_two (K:=K) (i:=1) (j:=2) rfl rfl sc_first_pair.nd rfl rfl (Or.inl rfl) (Or.inl rfl))
   (zy (ud (qC (uX (zj 2 (pv 2)) (zj 1 (pv 1)) ⟨za,rfl,rfl,rfl,rfl⟩))
   (zy (zQ (zby (zc (zj 1 (pv 1)) (zc (zj 2 (pv 2)) zu za) za))))
   yI)) rfl rfl))
   (zy (zQ xe_non)))
theorem sc_gone_on:FnScope ["many", "texts", "longer", "text", "letter"] ["many", "texts"] (zm uU):=⟨rfl,rfl,rfl,by decide +kernel,rfl,by decide +kernel,by decide +kernel⟩
theorem ok_gone_on (t:Txt K mg):FnOk P w K mg base (CX1 P w) 1 t.d_gone_on.f t.d_gone_on.fd ["many", "texts"] (spD K (yq t) xR 2) :=
 show FnOk P w K mg base (CX1 P w) 1 t.d_gone_on.f t.d_gone_on.fd ["many", "texts"] (spD K (yq t) (yx 5 qN) 2) from
 fnD (N:=["many", "texts", "longer", "text", "letter"]) (ps:=["many", "texts"]) (k:=0) (m:=5) (n:=2) (g:=qN) (cl:=yq t) t.d_gone_on.fn sc_gone_on rfl rfl fun cdv A outer s H E hr =>
   (zq (zb3 (i:=2) sc_gone_on.nd rfl (Or.inl rfl) (xl_lst zu))
   (zq (qM (jD (i:=3) PassesOwn.never rfl (v8 (zj 1 (pv 1))) (zX (i:=3) sc_gone_on.nd rfl (Or.inl rfl))
   (zy (jD (i:=4) PassesOwn.never rfl (xi_str (wU (xe_c (wG (v:=.str (T [97,98,99,100])) rfl t.c_LETTERS t.r_LETTERS) fun _=>.str [97,98,99,100] (vV (by decide +kernel) (by decide +kernel))) uM (vD (zj 0 (pv 0))))) (zX (i:=4) sc_gone_on.nd rfl (Or.inl rfl))
   (zy (zav (pv 2) (yF vG qD (zj 3 (pv 3)) (zj 4 (pv 4))) ⟨xr,rfl,rfl,rfl,rfl⟩))))))
   (zy (zcG (i:=2) (zQ (zj 2 (pv 2)))))))
theorem zdG:FnScope ["pieces", "text"] ["pieces", "text"] (zm vd):=⟨rfl,rfl,rfl,by decide +kernel,rfl,by decide +kernel,by decide +kernel⟩
theorem zdF (t:Txt K mg):FnOk P w K mg base (CX1 P w) 1 t.d_is_apart.f t.d_is_apart.fd ["pieces", "text"] (spD K (yq t) yr 2) :=
 show FnOk P w K mg base (CX1 P w) 1 t.d_is_apart.f t.d_is_apart.fd ["pieces", "text"] (spD K (yq t) (yx 2 kI) 2) from
 fnD (N:=["pieces", "text"]) (ps:=["pieces", "text"]) (k:=0) (m:=2) (n:=2) (g:=kI) (cl:=yq t) t.d_is_apart.fn zdG rfl rfl fun cdv A outer s H E hr =>
   (zy (zQ (xe_not (yo (call_any rfl) n_any rfl t.n_any boot_any (zc (xZ (x := "piece") (caps:=[1]) (yJ (fs:=zm vd) (N:=["pieces", "text"]) rfl rfl (by decide +kernel)) rfl (zaD (zj 0 (pv 0))) ⟨fun _ _ _ _ _=>(zX (i:=0) (uf (N:=["piece", "text"]) rfl (by decide +kernel)) rfl (Or.inl rfl)),fun _ _ _ _ _=>xW,fun _ _ _ _ _=>(xe_or (uX (zj 0 (pv 0)) (zj 1 (pv 1)) ⟨za,rfl,rfl,rfl,rfl⟩) (zaJ (uX (zj 1 (pv 1)) (zj 0 (pv 0)) ⟨za,rfl,rfl,rfl,rfl⟩)))⟩) zu rfl) rfl))))
theorem zdq:FnScope ["pieces", "text"] ["pieces", "text"] (zm vq):=⟨rfl,rfl,rfl,by decide +kernel,rfl,by decide +kernel,by decide +kernel⟩
theorem zdr (t:Txt K mg):FnOk P w K mg base (CX1 P w) 1 t.d_is_inner.f t.d_is_inner.fd ["pieces", "text"] (spD K (yq t) yt 2) :=
 show FnOk P w K mg base (CX1 P w) 1 t.d_is_inner.f t.d_is_inner.fd ["pieces", "text"] (spD K (yq t) (yx 2 qW) 2) from
 fnD (N:=["pieces", "text"]) (ps:=["pieces", "text"]) (k:=0) (m:=2) (n:=2) (g:=qW) (cl:=yq t) t.d_is_inner.fn zdq rfl rfl fun cdv A outer s H E hr =>
   (zy (zQ (yo (call_any rfl) n_any rfl t.n_any boot_any (zc (xZ (x := "piece") (caps:=[1]) (yJ (fs:=zm vq) (N:=["pieces", "text"]) rfl rfl (by decide +kernel)) rfl (zaD (zj 0 (pv 0))) ⟨fun _ _ _ _ _=>(zX (i:=0) (uf (N:=["piece", "text"]) rfl (by decide +kernel)) rfl (Or.inl rfl)),fun _ _ _ _ _=>xW,fun _ _ _ _ _=>(zbu (uX (zj 0 (pv 0)) (zj 1 (pv 1)) ⟨za,rfl,rfl,rfl,rfl⟩) (zaJ (zbo (w5 hr.units) zcj (zj 0 (pv 0)) (zj 1 (pv 1)) (xO _))))⟩) zu rfl) rfl)))
theorem sc_first_text_apart:FnScope ["many", "pieces", "inner", "longer", "text"] ["many", "pieces"] (zm yc):=⟨rfl,rfl,rfl,by decide +kernel,rfl,by decide +kernel,by decide +kernel⟩
theorem ji (t:Txt K mg):FnOk P w K mg base (CX1 P w) 2 t.d_first_text_apart.f t.d_first_text_apart.fd ["many", "pieces"] (spD K (yq t) xN 2) :=
 show FnOk P w K mg base (CX1 P w) 2 t.d_first_text_apart.f t.d_first_text_apart.fd ["many", "pieces"] (spD K (yq t) (yx 5 wV) 2) from
 fnD (N:=["many", "pieces", "inner", "longer", "text"]) (ps:=["many", "pieces"]) (k:=1) (m:=5) (n:=2) (g:=wV) (cl:=yq t) t.d_first_text_apart.fn sc_first_text_apart rfl rfl fun cdv A outer s H E hr =>
   (zq (yh (i:=2) sc_first_text_apart.nd rfl (Or.inl rfl) (XEw.out (zbt (zM (uV (l:=[]) (by decide +kernel) (vV (by decide +kernel) (by decide +kernel))) vA zf))))
   (zq (qM (zbX 2000 PassesOwn.never (wu (w5 hr.units) zcj (zj 2 (pv 2)) (jy zu) (xO _))
   (zq (yh (i:=3) sc_first_text_apart.nd rfl (Or.inl rfl) (zF (ok_gone_on t) (hr.mono (by decide)) rfl t.d_gone_on.mg t.d_gone_on.fn.kp t.d_gone_on.bd jn (zc (zj 0 (pv 0)) (zc (zj 2 (pv 2)) zu za) za) za))
   (zq (jD (i:=4) PassesOwn.never rfl (v8 (zj 3 (pv 3))) (zX (i:=4) sc_first_text_apart.nd rfl (Or.inl rfl))
   (zy (ud (qC (zF (zdF t) (hr.mono (by decide)) rfl t.d_is_apart.mg t.d_is_apart.fn.kp t.d_is_apart.bd jn (zc (zj 1 (pv 1)) (zc (zj 4 (pv 4)) zu za) za) za))
   (zy (zQ (zj 4 (pv 4))))
   yI)))
   (zy (zdA (j:=2) sc_first_text_apart.nd rfl rfl (x := "text") (caps:=[1]) (yJ (fs:=zm yc) (N:=["many", "pieces", "inner", "longer", "text"]) rfl rfl (by decide +kernel)) rfl (v8 (zj 3 (pv 3))) ⟨fun _ _ _ _ _=>(zX (i:=0) (uf (N:=["text", "pieces"]) rfl (by decide +kernel)) rfl (Or.inl rfl)),fun _ _ _ _ _=>(zaE (qC (zF (zdr t) (hr.mono (by decide)) rfl t.d_is_inner.mg t.d_is_inner.fn.kp t.d_is_inner.bd jn (zc (zj 1 (pv 1)) (zc (zj 0 (pv 0)) zu za) za) za))),fun _ _ _ _ _=>(zj 0 (pv 0))⟩ rfl))))))
   (zy (zQ xe_non))))
theorem sc_first_paper:FnScope ["many", "pieces", "pair"] ["many", "pieces"] (zm wB):=⟨rfl,rfl,rfl,by decide +kernel,rfl,by decide +kernel,by decide +kernel⟩
theorem zbb (t:Txt K mg):FnOk P w K mg base (CX1 P w) 3 t.d_first_paper.f t.d_first_paper.fd ["many", "pieces"] (spD K (yq t) vy 2) :=
 show FnOk P w K mg base (CX1 P w) 3 t.d_first_paper.f t.d_first_paper.fd ["many", "pieces"] (spD K (yq t) (yx 3 wW) 2) from
 fnD (N:=["many", "pieces", "pair"]) (ps:=["many", "pieces"]) (k:=2) (m:=3) (n:=2) (g:=wW) (cl:=yq t) t.d_first_paper.fn sc_first_paper rfl rfl fun cdv A outer s H E hr =>
   (zq (yh (i:=2) sc_first_paper.nd rfl (Or.inl rfl) (zF (zb9 t) (hr.mono (by decide)) rfl t.d_first_pair.mg t.d_first_pair.fn.kp t.d_first_pair.bd yR (zc (zj 1 (pv 1)) zu za) za))
   (zq (ud (xt_notN (zj 2 (pv 2)))
   (zy (zQ (zj 2 (pv 2))))
   yI)
   (zy (zQ (zF (ji t) (hr.mono (by decide)) rfl t.d_first_text_apart.mg t.d_first_text_apart.fn.kp t.d_first_text_apart.bd yR (zc (zj 0 (pv 0)) (zc (zj 1 (pv 1)) zu za) za) za)))))
theorem sc_is_book:FnScope ["many", "thing"] ["many", "thing"] (zm uT):=⟨rfl,rfl,rfl,by decide +kernel,rfl,by decide +kernel,by decide +kernel⟩
theorem ok_is_book (t:Txt K mg):FnOk P w K mg base (CX1 P w) 5 t.d_is_book.f t.d_is_book.fd ["many", "thing"] (spD K (yq t) yK 2) :=
 show FnOk P w K mg base (CX1 P w) 5 t.d_is_book.f t.d_is_book.fd ["many", "thing"] (spD K (yq t) (yx 2 zaZ) 2) from
 fnD (N:=["many", "thing"]) (ps:=["many", "thing"]) (k:=4) (m:=2) (n:=2) (g:=zaZ) (cl:=yq t) t.d_is_book.fn sc_is_book rfl rfl fun cdv A outer s H E hr =>
   (zy (zQ (zbu (zF (zbO t) (hr.mono (by decide)) rfl t.d_are_pieces.mg t.d_are_pieces.fn.kp t.d_are_pieces.bd yR (zc (zj 0 (pv 0)) (zc (zj 1 (pv 1)) zu za) za) za) (zaJ (xe_isN (zF (zbb t) (hr.mono (by decide)) rfl t.d_first_paper.mg t.d_first_paper.fn.kp t.d_first_paper.bd yR (zc (zj 0 (pv 0)) (zc (zj 1 (pv 1)) zu za) za) za))))))
theorem zaM:FnScope ["many", "thing"] ["many", "thing"] (zm xQ):=⟨rfl,rfl,rfl,by decide +kernel,rfl,by decide +kernel,by decide +kernel⟩
theorem wR (t:Txt K mg):FnOk P w K mg base (CX1 P w) 6 t.d_require_book.f t.d_require_book.fd ["many", "thing"] (spD K (yq t) z9 2) :=
 show FnOk P w K mg base (CX1 P w) 6 t.d_require_book.f t.d_require_book.fd ["many", "thing"] (spD K (yq t) (yx 2 uL) 2) from
 fnD (N:=["many", "thing"]) (ps:=["many", "thing"]) (k:=5) (m:=2) (n:=2) (g:=uL) (cl:=yq t) t.d_require_book.fn zaM rfl rfl fun cdv A outer s H E hr =>
   (zy (ud (zac (qC (zF (ok_is_book t) (hr.mono (by decide)) rfl t.d_is_book.mg t.d_is_book.fn.kp t.d_is_book.bd yR (zc (zj 0 (pv 0)) (zc (zj 1 (pv 1)) zu za) za) za)))
   (zy (q9 t.x_NoBook rfl rfl (zc (yO (l:=[116,104,105,115,32,105,115,32,110,111,32,98,111,111,107,32,111,102,32,115,111,32,109,97,110,121,32,108,101,116,116,101,114,115]) (by decide +kernel) (vV (by decide +kernel) (by decide +kernel))) zu zf) zf))
   yI))
theorem sc_bits_for:FnScope ["size", "bits", "room"] ["size"] (zm vL):=⟨rfl,rfl,rfl,by decide +kernel,rfl,by decide +kernel,by decide +kernel⟩
theorem zaH (t:Txt K mg):FnOk P w K mg base (CX1 P w) 1 t.d_bits_for.f t.d_bits_for.fd ["size"] (spD K (yq t) u5 1) :=
 show FnOk P w K mg base (CX1 P w) 1 t.d_bits_for.f t.d_bits_for.fd ["size"] (spD K (yq t) (yx 3 jX) 1) from
 fnD (N:=["size", "bits", "room"]) (ps:=["size"]) (k:=0) (m:=3) (n:=1) (g:=jX) (cl:=yq t) t.d_bits_for.fn sc_bits_for rfl rfl fun cdv A outer s H E hr =>
   (zq (yh (i:=1) sc_bits_for.nd rfl (Or.inl rfl) zE)
   (zq (yh (i:=2) sc_bits_for.nd rfl (Or.inl rfl) zE)
   (zq (qM (zbX 64 PassesOwn.never (wu op_lt o_ltI (zj 2 (pv 2)) (zj 0 (pv 0)) (xO _))
   (zq (yh (i:=1) sc_bits_for.nd rfl (Or.inl rfl) (yF uW uQ (zj 1 (pv 1)) zE))
   (zy (yh (i:=2) sc_bits_for.nd rfl (Or.inl rfl) (yF jk zaS (zj 2 (pv 2)) zE))))))
   (zy (zQ (zj 1 (pv 1)))))))
theorem sc_whole_words:FnScope ["book", "signs", "bits"] ["book", "signs"] (zm xG):=⟨rfl,rfl,rfl,by decide +kernel,rfl,by decide +kernel,by decide +kernel⟩
theorem zbg (t:Txt K mg):FnOk P w K mg base (CX1 P w) 2 t.d_whole_words.f t.d_whole_words.fd ["book", "signs"] (spD K (yq t) wC 2) :=
 show FnOk P w K mg base (CX1 P w) 2 t.d_whole_words.f t.d_whole_words.fd ["book", "signs"] (spD K (yq t) (yx 3 u0) 2) from
 fnD (N:=["book", "signs", "bits"]) (ps:=["book", "signs"]) (k:=1) (m:=3) (n:=2) (g:=u0) (cl:=yq t) t.d_whole_words.fn sc_whole_words rfl rfl fun cdv A outer s H E hr =>
   (zq (yh (i:=2) sc_whole_words.nd rfl (Or.inr rfl) (zF (zaH t) (hr.mono (by decide)) rfl t.d_bits_for.mg t.d_bits_for.fn.kp t.d_bits_for.bd yR (zc (yo yV n_len rfl t.n_len boot_len (zc (zj 0 (pv 0)) zu za) za) zu zZ) zZ))
   (zq (ud (XW.xt (zdx (zac (qC (zcK kit_str rfl t.n_isinstance (zj 1 (pv 1)) (jU (v:=.ty "str") rfl t.n_str boot_str rfl) za))) (zaK (wu (w5 hr.units) zcj (yF zaa j8 (yo yV n_len rfl t.n_len boot_len (zc (zj 1 (pv 1)) zu za) za) (zj 2 (pv 2))) zE (xO _)))))
   (zy (q9 t.x_NoWord rfl rfl (zc (yO (l:=[116,104,101,115,101,32,97,114,101,32,110,111,32,119,104,111,108,101,32,119,111,114,100,115]) (by decide +kernel) (vV (by decide +kernel) (by decide +kernel))) zu zf) zf))
   yI)
   (zy (zQ (xZ (x := "start") (caps:=[1,2]) (yJ (fs:=zm xG) (N:=["book", "signs", "bits"]) rfl rfl (by decide +kernel)) rfl (xi_range3 rfl t.n_range (zc zE (zc (yo yV n_len rfl t.n_len boot_len (zc (zj 1 (pv 1)) zu za) za) (zc (zj 2 (pv 2)) zu za) zZ) zf) rfl rfl) ⟨fun _ _ _ _ _=>(zX (i:=0) (uf (N:=["start", "signs", "bits"]) rfl (by decide +kernel)) rfl (Or.inl rfl)),fun _ _ _ _ _=>xW,fun _ _ _ _ _=>(wU (zj 1 (pv 1)) (vD (zj 0 (pv 0))) (vD (yF uW uQ (zj 0 (pv 0)) (zj 2 (pv 2)))))⟩)))))
theorem sc_word_for:FnScope ["number", "bits", "word", "place"] ["number", "bits"] (zm vM):=⟨rfl,rfl,rfl,by decide +kernel,rfl,by decide +kernel,by decide +kernel⟩
theorem zdL (t:Txt K mg):FnOk P w K mg base (CX1 P w) 1 t.d_word_for.f t.d_word_for.fd ["number", "bits"] (spD K (yq t) qw 2) :=
 show FnOk P w K mg base (CX1 P w) 1 t.d_word_for.f t.d_word_for.fd ["number", "bits"] (spD K (yq t) (yx 4 jT) 2) from
 fnD (N:=["number", "bits", "word", "place"]) (ps:=["number", "bits"]) (k:=0) (m:=4) (n:=2) (g:=jT) (cl:=yq t) t.d_word_for.fn sc_word_for rfl rfl fun cdv A outer s H E hr =>
   (zq (yh (i:=2) sc_word_for.nd rfl (Or.inl rfl) (yO (l:=[]) (by decide +kernel) (vV (by decide +kernel) (by decide +kernel))))
   (zq (qM (jD (i:=3) PassesOwn.never rfl (vz rfl t.n_range (zc (zj 1 (pv 1)) zu za) rfl) (zX (i:=3) sc_word_for.nd rfl (Or.inl rfl))
   (zq (yh (i:=2) sc_word_for.nd rfl (Or.inl rfl) (yF vG qD (zaV zcr n_str rfl t.n_str boot_str (zc (yF zaa j8 (zj 0 (pv 0)) zE) zu xr) xr) (zj 2 (pv 2))))
   (zy (yh (i:=0) sc_word_for.nd rfl (Or.inl rfl) (yF jo zaA (zj 0 (pv 0)) zE))))))
   (zy (zQ (zj 2 (pv 2))))))
theorem sc_words_of:FnScope ["book", "bits"] ["book"] (zm vf):=⟨rfl,rfl,rfl,by decide +kernel,rfl,by decide +kernel,by decide +kernel⟩
theorem qg (t:Txt K mg):FnOk P w K mg base (CX1 P w) 2 t.d_words_of.f t.d_words_of.fd ["book"] (spD K (yq t) wJ 1) :=
 show FnOk P w K mg base (CX1 P w) 2 t.d_words_of.f t.d_words_of.fd ["book"] (spD K (yq t) (yx 2 jV) 1) from
 fnD (N:=["book", "bits"]) (ps:=["book"]) (k:=1) (m:=2) (n:=1) (g:=jV) (cl:=yq t) t.d_words_of.fn sc_words_of rfl rfl fun cdv A outer s H E hr =>
   (zq (yh (i:=1) sc_words_of.nd rfl (Or.inr rfl) (zF (zaH t) (hr.mono (by decide)) rfl t.d_bits_for.mg t.d_bits_for.fn.kp t.d_bits_for.bd yR (zc (yo yV n_len rfl t.n_len boot_len (zc (zj 0 (pv 0)) zu za) za) zu zZ) zZ))
   (zy (zQ (xZ (x := "number") (caps:=[1]) (yJ (fs:=zm vf) (N:=["book", "bits"]) rfl rfl (by decide +kernel)) rfl (vz rfl t.n_range (zc (yo yV n_len rfl t.n_len boot_len (zc (zj 0 (pv 0)) zu za) za) zu zZ) rfl) ⟨fun _ _ _ _ _=>(zX (i:=0) (uf (N:=["number", "bits"]) rfl (by decide +kernel)) rfl (Or.inl rfl)),fun _ _ _ _ _=>xW,fun _ _ _ _ _=>(zF (zdL t) (hr.mono (by decide)) rfl t.d_word_for.mg t.d_word_for.fn.kp t.d_word_for.bd jn (zc (zj 0 (pv 0)) (zc (zj 1 (pv 1)) zu za) za) za)⟩))))
theorem sc_text_of_words:FnScope ["book", "words", "pieces", "word"] ["book", "words"] (zm yD):=⟨rfl,rfl,rfl,by decide +kernel,rfl,by decide +kernel,by decide +kernel⟩
theorem zah (t:Txt K mg):FnOk P w K mg base (CX1 P w) 3 t.d_text_of_words.f t.d_text_of_words.fd ["book", "words"] (spD K (yq t) yL 2) :=
 show FnOk P w K mg base (CX1 P w) 3 t.d_text_of_words.f t.d_text_of_words.fd ["book", "words"] (spD K (yq t) (yx 4 xY) 2) from
 fnD (N:=["book", "words", "pieces", "word"]) (ps:=["book", "words"]) (k:=2) (m:=4) (n:=2) (g:=xY) (cl:=yq t) t.d_text_of_words.fn sc_text_of_words rfl rfl fun cdv A outer s H E hr =>
   (zq (yh (i:=2) sc_text_of_words.nd rfl (Or.inr rfl) (zbv rfl rfl t.n_dict rfl t.n_zip (zF (qg t) (hr.mono (by decide)) rfl t.d_words_of.mg t.d_words_of.fn.kp t.d_words_of.bd yR (zc (zj 0 (pv 0)) zu za) za) (zj 0 (pv 0))))
   (zq (jD (i:=3) PassesOwn.leaving rfl (v8 (zj 1 (pv 1))) (zX (i:=3) sc_text_of_words.nd rfl (Or.inl rfl))
   (zy (ud (xt_notInDc (hu_of hr) (zj 3 (pv 3)) (zj 2 (pv 2)))
   (zy (q9 t.x_NoWord rfl rfl (zc (yO (l:=[111,110,101,32,111,102,32,116,104,101,115,101,32,105,115,32,110,111,32,119,111,114,100,32,111,102,32,97,32,112,105,101,99,101]) (by decide +kernel) (vV (by decide +kernel) (by decide +kernel))) zu zf) zf))
   yI)))
   (zy (zQ (jM (yO (l:=[]) (by decide +kernel) (vV (by decide +kernel) (by decide +kernel))) (xZ (x := "word") (caps:=[2]) (yJ (fs:=zm yD) (N:=["book", "words", "pieces", "word"]) rfl rfl (by decide +kernel)) rfl (v8 (zj 1 (pv 1))) ⟨fun _ _ _ _ _=>(zX (i:=0) (uf (N:=["word", "pieces"]) rfl (by decide +kernel)) rfl (Or.inl rfl)),fun _ _ _ _ _=>xW,fun _ _ _ _ _=>(xe_get (hu_of hr) (zj 1 (pv 1)) (zj 0 (pv 0)))⟩) ⟨rfl,rfl,rfl,rfl,rfl⟩)))))
theorem sc_from_word:FnScope ["many", "book", "signs", "number", "words"] ["many", "book", "signs", "number"] (zm vh):=⟨rfl,rfl,rfl,by decide +kernel,rfl,by decide +kernel,by decide +kernel⟩
theorem j4 (t:Txt K mg):FnOk P w K mg base (CX1 P w) 7 t.d_from_word.f t.d_from_word.fd ["many", "book", "signs", "number"] (spD K (yq t) zO 4) :=
 show FnOk P w K mg base (CX1 P w) 7 t.d_from_word.f t.d_from_word.fd ["many", "book", "signs", "number"] (spD K (yq t) (yx 5 vR) 4) from
 fnD (N:=["many", "book", "signs", "number", "words"]) (ps:=["many", "book", "signs", "number"]) (k:=6) (m:=5) (n:=4) (g:=vR) (cl:=yq t) t.d_from_word.fn sc_from_word rfl rfl fun cdv A outer s H E hr =>
   (zq (jK (zF (wR t) (hr.mono (by decide)) rfl t.d_require_book.mg t.d_require_book.fn.kp t.d_require_book.bd yR (zc (zj 0 (pv 0)) (zc (zj 1 (pv 1)) zu za) za) za))
   (zq (yh (i:=4) sc_from_word.nd rfl (Or.inl rfl) (zF (zbg t) (hr.mono (by decide)) rfl t.d_whole_words.mg t.d_whole_words.fn.kp t.d_whole_words.bd yR (zc (zj 1 (pv 1)) (zc (zj 2 (pv 2)) zu za) za) za))
   (zy (zQ (zF (zah t) (hr.mono (by decide)) rfl t.d_text_of_words.mg t.d_text_of_words.fn.kp t.d_text_of_words.bd yR (zc (zj 1 (pv 1)) (zc (wU (zj 4 (pv 4)) (vD (yo (call_max2 rfl) n_max rfl t.n_max boot_max (zc (zj 3 (pv 3)) (zc zE zu zf) za) za)) uM) zu uo) za) za)))))
theorem zai:FnScope ["book", "thing"] ["book", "thing"] (zm yW):=⟨rfl,rfl,rfl,by decide +kernel,rfl,by decide +kernel,by decide +kernel⟩
theorem zaf (t:Txt K mg):FnOk P w K mg base (CX1 P w) 1 t.d_require_piece.f t.d_require_piece.fd ["book", "thing"] (spD K (yq t) wD 2) :=
 show FnOk P w K mg base (CX1 P w) 1 t.d_require_piece.f t.d_require_piece.fd ["book", "thing"] (spD K (yq t) (yx 2 vU) 2) from
 fnD (N:=["book", "thing"]) (ps:=["book", "thing"]) (k:=0) (m:=2) (n:=2) (g:=vU) (cl:=yq t) t.d_require_piece.fn zai rfl rfl fun cdv A outer s H E hr =>
   (zy (ud (wu zab o_in (zj 1 (pv 1)) (zj 0 (pv 0)) (by with_unfolding_all rfl))
   (zy (q9 t.x_NoPiece rfl rfl (zc (yO (l:=[116,104,105,115,32,105,115,32,110,111,32,112,105,101,99,101,32,111,102,32,116,104,101,32,98,111,111,107]) (by decide +kernel) (vV (by decide +kernel) (by decide +kernel))) zu zf) zf))
   yI))
theorem sc_word_of:FnScope ["many", "book", "piece"] ["many", "book", "piece"] (zm uR):=⟨rfl,rfl,rfl,by decide +kernel,rfl,by decide +kernel,by decide +kernel⟩
theorem ok_word_of (t:Txt K mg):FnOk P w K mg base (CX1 P w) 7 t.d_word_of.f t.d_word_of.fd ["many", "book", "piece"] (spD K (yq t) wA 3) :=
 show FnOk P w K mg base (CX1 P w) 7 t.d_word_of.f t.d_word_of.fd ["many", "book", "piece"] (spD K (yq t) (yx 3 zaL) 3) from
 fnD (N:=["many", "book", "piece"]) (ps:=["many", "book", "piece"]) (k:=6) (m:=3) (n:=3) (g:=zaL) (cl:=yq t) t.d_word_of.fn sc_word_of rfl rfl fun cdv A outer s H E hr =>
   (zq (jK (zF (wR t) (hr.mono (by decide)) rfl t.d_require_book.mg t.d_require_book.fn.kp t.d_require_book.bd yR (zc (zj 0 (pv 0)) (zc (zj 1 (pv 1)) zu za) za) za))
   (zq (jK (zF (zaf t) (hr.mono (by decide)) rfl t.d_require_piece.mg t.d_require_piece.fn.kp t.d_require_piece.bd yR (zc (zj 1 (pv 1)) (zc (zj 2 (pv 2)) zu za) za) za))
   (zy (zQ (qK (zF (qg t) (hr.mono (by decide)) rfl t.d_words_of.mg t.d_words_of.fn.kp t.d_words_of.bd yR (zc (zj 1 (pv 1)) zu za) za) (xe_idxT (zj 1 (pv 1)) (zj 2 (pv 2)) ⟨za,rfl,rfl,rfl,rfl⟩) (fun _ _=>rfl))))))
theorem sc_piece_of:FnScope ["many", "book", "word", "words"] ["many", "book", "word"] (zm vO):=⟨rfl,rfl,rfl,by decide +kernel,rfl,by decide +kernel,by decide +kernel⟩
theorem ok_piece_of (t:Txt K mg):FnOk P w K mg base (CX1 P w) 7 t.d_piece_of.f t.d_piece_of.fd ["many", "book", "word"] (spD K (yq t) xJ 3) :=
 show FnOk P w K mg base (CX1 P w) 7 t.d_piece_of.f t.d_piece_of.fd ["many", "book", "word"] (spD K (yq t) (yx 4 jY) 3) from
 fnD (N:=["many", "book", "word", "words"]) (ps:=["many", "book", "word"]) (k:=6) (m:=4) (n:=3) (g:=jY) (cl:=yq t) t.d_piece_of.fn sc_piece_of rfl rfl fun cdv A outer s H E hr =>
   (zq (jK (zF (wR t) (hr.mono (by decide)) rfl t.d_require_book.mg t.d_require_book.fn.kp t.d_require_book.bd yR (zc (zj 0 (pv 0)) (zc (zj 1 (pv 1)) zu za) za) za))
   (zq (yh (i:=3) sc_piece_of.nd rfl (Or.inl rfl) (zF (qg t) (hr.mono (by decide)) rfl t.d_words_of.mg t.d_words_of.fn.kp t.d_words_of.bd yR (zc (zj 1 (pv 1)) zu za) za))
   (zq (ud (wu zab o_in (zj 2 (pv 2)) (zj 3 (pv 3)) (by with_unfolding_all rfl))
   (zy (q9 t.x_NoWord rfl rfl (zc (yO (l:=[116,104,105,115,32,105,115,32,110,111,32,119,111,114,100,32,111,102,32,97,32,112,105,101,99,101]) (by decide +kernel) (vV (by decide +kernel) (by decide +kernel))) zu zf) zf))
   yI)
   (zy (zQ (qK (zj 1 (pv 1)) (xe_idxL (zj 3 (pv 3)) (zj 2 (pv 2)) ⟨za,rfl,rfl,rfl,rfl⟩) (fun _ _=>rfl)))))))
theorem jt:FnScope ["many", "thing"] ["many", "thing"] (zm yC):=⟨rfl,rfl,rfl,by decide +kernel,rfl,by decide +kernel,by decide +kernel⟩
theorem jx (t:Txt K mg):FnOk P w K mg base (CX1 P w) 2 t.d_require_text_of.f t.d_require_text_of.fd ["many", "thing"] (spD K (yq t) xV 2) :=
 show FnOk P w K mg base (CX1 P w) 2 t.d_require_text_of.f t.d_require_text_of.fd ["many", "thing"] (spD K (yq t) (yx 2 vp) 2) from
 fnD (N:=["many", "thing"]) (ps:=["many", "thing"]) (k:=1) (m:=2) (n:=2) (g:=vp) (cl:=yq t) t.d_require_text_of.fn jt rfl rfl fun cdv A outer s H E hr =>
   (zy (ud (zac (qC (zF (jz t) (hr.mono (by decide)) rfl t.d_is_text_of.mg t.d_is_text_of.fn.kp t.d_is_text_of.bd yR (zc (zj 0 (pv 0)) (zc (zj 1 (pv 1)) zu za) za) za)))
   (zy (q9 t.x_NoLetters rfl rfl (zc (yO (l:=[116,104,105,115,32,105,115,32,110,111,32,116,101,120,116,32,111,102,32,116,104,101,115,101,32,108,101,116,116,101,114,115]) (by decide +kernel) (vV (by decide +kernel) (by decide +kernel))) zu zf) zf))
   yI))
theorem sc_cut_by:FnScope ["book", "text", "pieces", "left", "letter"] ["book", "text"] (zm kj):=⟨rfl,rfl,rfl,by decide +kernel,rfl,by decide +kernel,by decide +kernel⟩
theorem ok_cut_by (t:Txt K mg):FnOk P w K mg base (CX1 P w) 1 t.d_cut_by.f t.d_cut_by.fd ["book", "text"] (spD K (yq t) zaW 2) :=
 show FnOk P w K mg base (CX1 P w) 1 t.d_cut_by.f t.d_cut_by.fd ["book", "text"] (spD K (yq t) (yx 5 jA) 2) from
 fnD (N:=["book", "text", "pieces", "left", "letter"]) (ps:=["book", "text"]) (k:=0) (m:=5) (n:=2) (g:=jA) (cl:=yq t) t.d_cut_by.fn sc_cut_by rfl rfl fun cdv A outer s H E hr =>
   (zq (zb3 (i:=2) sc_cut_by.nd rfl (Or.inl rfl) (xl_lst zu))
   (zq (yh (i:=3) sc_cut_by.nd rfl (Or.inl rfl) (yO (l:=[]) (by decide +kernel) (vV (by decide +kernel) (by decide +kernel))))
   (zq (qM (jD (i:=4) PassesOwn.never rfl (xi_str (zj 1 (pv 1))) (zX (i:=4) sc_cut_by.nd rfl (Or.inl rfl))
   (zq (yh (i:=3) sc_cut_by.nd rfl (Or.inl rfl) (yF vG qD (zj 3 (pv 3)) (zj 4 (pv 4))))
   (zy (ud (wu op_in_seq o_in (zj 3 (pv 3)) (zj 0 (pv 0)) (by with_unfolding_all rfl))
   (zq (zav (pv 2) (zj 3 (pv 3)) ⟨za,rfl,rfl,rfl,rfl⟩)
   (zy (yh (i:=3) sc_cut_by.nd rfl (Or.inl rfl) (yO (l:=[]) (by decide +kernel) (vV (by decide +kernel) (by decide +kernel))))))
   yI)))))
   (zy (zcG (i:=2) (zQ (zby (zc (zj 2 (pv 2)) (zc (zj 3 (pv 3)) zu za) za))))))))
theorem sc_led_by:FnScope ["book", "text", "found", "words"] ["book", "text"] (zm qx):=⟨rfl,rfl,rfl,by decide +kernel,rfl,by decide +kernel,by decide +kernel⟩
theorem ok_led_by (t:Txt K mg):FnOk P w K mg base (CX1 P w) 3 t.d_led_by.f t.d_led_by.fd ["book", "text"] (spD K (yq t) za3 2) :=
 show FnOk P w K mg base (CX1 P w) 3 t.d_led_by.f t.d_led_by.fd ["book", "text"] (spD K (yq t) (yx 4 zbN) 2) from
 fnD (N:=["book", "text", "found", "words"]) (ps:=["book", "text"]) (k:=2) (m:=4) (n:=2) (g:=zbN) (cl:=yq t) t.d_led_by.fn sc_led_by rfl rfl fun cdv A outer s H E hr =>
   (zq (yh (i:=2) sc_led_by.nd rfl (Or.inl rfl) (zF (ok_cut_by t) (hr.mono (by decide)) rfl t.d_cut_by.mg t.d_cut_by.fn.kp t.d_cut_by.bd yR (zc (zj 0 (pv 0)) (zc (zj 1 (pv 1)) zu za) za) za))
   (zq (yh (i:=3) sc_led_by.nd rfl (Or.inr rfl) (zbv rfl rfl t.n_dict rfl t.n_zip (zj 0 (pv 0)) (zF (qg t) (hr.mono (by decide)) rfl t.d_words_of.mg t.d_words_of.fn.kp t.d_words_of.bd yR (zc (zj 0 (pv 0)) zu za) za)))
   (zy (zQ (zby (zc (jM (yO (l:=[]) (by decide +kernel) (vV (by decide +kernel) (by decide +kernel))) (xZ (x := "piece") (caps:=[3]) (yJ (fs:=zm qx) (N:=["book", "text", "found", "words"]) rfl rfl (by decide +kernel)) rfl (v8 (qK (zj 2 (pv 2)) zE (fun _ _=>rfl))) ⟨fun _ _ _ _ _=>(zX (i:=0) (uf (N:=["piece", "words"]) rfl (by decide +kernel)) rfl (Or.inl rfl)),fun _ _ _ _ _=>xW,fun _ _ _ _ _=>(xe_get (hu_of hr) (zj 1 (pv 1)) (zj 0 (pv 0)))⟩) ⟨rfl,rfl,rfl,rfl,rfl⟩) (zc (qK (zj 2 (pv 2)) zE (fun _ _=>rfl)) zu uo) zZ))))))
theorem sc_led:FnScope ["many", "book", "text"] ["many", "book", "text"] (zm s_led):=⟨rfl,rfl,rfl,by decide +kernel,rfl,by decide +kernel,by decide +kernel⟩
theorem ok_led (t:Txt K mg):FnOk P w K mg base (CX1 P w) 7 t.d_led.f t.d_led.fd ["many", "book", "text"] (spD K (yq t) jF 3) :=
 show FnOk P w K mg base (CX1 P w) 7 t.d_led.f t.d_led.fd ["many", "book", "text"] (spD K (yq t) (yx 3 g_led) 3) from
 fnD (N:=["many", "book", "text"]) (ps:=["many", "book", "text"]) (k:=6) (m:=3) (n:=3) (g:=g_led) (cl:=yq t) t.d_led.fn sc_led rfl rfl fun cdv A outer s H E hr =>
   (zq (jK (zF (wR t) (hr.mono (by decide)) rfl t.d_require_book.mg t.d_require_book.fn.kp t.d_require_book.bd yR (zc (zj 0 (pv 0)) (zc (zj 1 (pv 1)) zu za) za) za))
   (zq (jK (zF (jx t) (hr.mono (by decide)) rfl t.d_require_text_of.mg t.d_require_text_of.fn.kp t.d_require_text_of.bd yR (zc (zj 0 (pv 0)) (zc (zj 2 (pv 2)) zu za) za) za))
   (zy (zQ (zF (ok_led_by t) (hr.mono (by decide)) rfl t.d_led_by.mg t.d_led_by.fn.kp t.d_led_by.bd yR (zc (zj 1 (pv 1)) (zc (zj 2 (pv 2)) zu za) za) za)))))
theorem sc_back:FnScope ["many", "book", "signs"] ["many", "book", "signs"] (zm zbq):=⟨rfl,rfl,rfl,by decide +kernel,rfl,by decide +kernel,by decide +kernel⟩
theorem ok_back (t:Txt K mg):FnOk P w K mg base (CX1 P w) 8 t.d_back.f t.d_back.fd ["many", "book", "signs"] (spD K (yq t) v9 3) :=
 show FnOk P w K mg base (CX1 P w) 8 t.d_back.f t.d_back.fd ["many", "book", "signs"] (spD K (yq t) (yx 3 zcs) 3) from
 fnD (N:=["many", "book", "signs"]) (ps:=["many", "book", "signs"]) (k:=7) (m:=3) (n:=3) (g:=zcs) (cl:=yq t) t.d_back.fn sc_back rfl rfl fun cdv A outer s H E hr =>
   (zy (zQ (zF (j4 t) (hr.mono (by decide)) rfl t.d_from_word.mg t.d_from_word.fn.kp t.d_from_word.bd yR (zc (zj 0 (pv 0)) (zc (zj 1 (pv 1)) (zc (zj 2 (pv 2)) (zc zE zu zf) za) za) za) za)))
theorem sc__law_refused:FnScope ["_law_e", "_law_flags"] ["_law_e"] (zm xP):=⟨rfl,rfl,rfl,by decide +kernel,rfl,by decide +kernel,by decide +kernel⟩
theorem zaP (t:Txt K mg):FnOkH P w K mg base 1 t.d__law_refused.f t.d__law_refused.fd ["_law_e"] (spD K (yq t) qU 1) :=
 show FnOkH P w K mg base 1 t.d__law_refused.f t.d__law_refused.fd ["_law_e"] (spD K (yq t) (yx 2 uO) 1) from
 fnDH (N:=["_law_e", "_law_flags"]) (ps:=["_law_e"]) (k:=0) (m:=2) (n:=1) (g:=uO) (cl:=yq t) t.d__law_refused.fn sc__law_refused rfl rfl fun cdv A outer s H hr =>
   (zq (yh (i:=1) sc__law_refused.nd rfl (Or.inl rfl) (jy (zc (jc (tab:=[(1,false),(2,false),(3,false),(4,false)]) (zT ⟨t.e_NoBook,.inl ⟨_,rfl,t.k_NoBook_NoSource⟩⟩ (zT ⟨t.e_NoPiece,.inl ⟨_,rfl,t.k_NoPiece_NoSource⟩⟩ (zT ⟨t.e_NoLetters,.inl ⟨_,rfl,t.k_NoLetters_NoSource⟩⟩ (zT ⟨t.e_NoWord,.inl ⟨_,rfl,t.k_NoWord_NoSource⟩⟩ jd)))) rfl t.n_isinstance (zj 0 (pv 0)) (wG (v:=.ref t.x_NoSource.C) rfl t.x_NoSource.mgx rfl) za) (zc (jc (tab:=[(1,true),(2,false),(3,false),(4,false)]) (zT ⟨t.e_NoBook,.inl ⟨_,rfl,t.k_NoBook_NoBook⟩⟩ (zT ⟨t.e_NoPiece,.inl ⟨_,rfl,t.k_NoPiece_NoBook⟩⟩ (zT ⟨t.e_NoLetters,.inl ⟨_,rfl,t.k_NoLetters_NoBook⟩⟩ (zT ⟨t.e_NoWord,.inl ⟨_,rfl,t.k_NoWord_NoBook⟩⟩ jd)))) rfl t.n_isinstance (zj 0 (pv 0)) (wG (v:=.ref t.x_NoBook.C) rfl t.x_NoBook.mgx rfl) za) (zc (jc (tab:=[(1,false),(2,true),(3,false),(4,false)]) (zT ⟨t.e_NoBook,.inl ⟨_,rfl,t.k_NoBook_NoPiece⟩⟩ (zT ⟨t.e_NoPiece,.inl ⟨_,rfl,t.k_NoPiece_NoPiece⟩⟩ (zT ⟨t.e_NoLetters,.inl ⟨_,rfl,t.k_NoLetters_NoPiece⟩⟩ (zT ⟨t.e_NoWord,.inl ⟨_,rfl,t.k_NoWord_NoPiece⟩⟩ jd)))) rfl t.n_isinstance (zj 0 (pv 0)) (wG (v:=.ref t.x_NoPiece.C) rfl t.x_NoPiece.mgx rfl) za) zu zZ) zZ) zZ)))
   (zq (yh (i:=1) sc__law_refused.nd rfl (Or.inl rfl) (XL.xe (xl_cat (zj 1 (pv 1)) (jy (zc (jc (tab:=[(1,false),(2,false),(3,true),(4,false)]) (zT ⟨t.e_NoBook,.inl ⟨_,rfl,t.k_NoBook_NoLetters⟩⟩ (zT ⟨t.e_NoPiece,.inl ⟨_,rfl,t.k_NoPiece_NoLetters⟩⟩ (zT ⟨t.e_NoLetters,.inl ⟨_,rfl,t.k_NoLetters_NoLetters⟩⟩ (zT ⟨t.e_NoWord,.inl ⟨_,rfl,t.k_NoWord_NoLetters⟩⟩ jd)))) rfl t.n_isinstance (zj 0 (pv 0)) (wG (v:=.ref t.x_NoLetters.C) rfl t.x_NoLetters.mgx rfl) za) (zc (jc (tab:=[(1,false),(2,false),(3,false),(4,true)]) (zT ⟨t.e_NoBook,.inl ⟨_,rfl,t.k_NoBook_NoWord⟩⟩ (zT ⟨t.e_NoPiece,.inl ⟨_,rfl,t.k_NoPiece_NoWord⟩⟩ (zT ⟨t.e_NoLetters,.inl ⟨_,rfl,t.k_NoLetters_NoWord⟩⟩ (zT ⟨t.e_NoWord,.inl ⟨_,rfl,t.k_NoWord_NoWord⟩⟩ jd)))) rfl t.n_isinstance (zj 0 (pv 0)) (wG (v:=.ref t.x_NoWord.C) rfl t.x_NoWord.mgx rfl) za) (zc (jc (tab:=[(1,false),(2,false),(3,false),(4,false)]) (zT ⟨t.e_NoBook,.inl ⟨_,rfl,t.k_NoBook_NoSize⟩⟩ (zT ⟨t.e_NoPiece,.inl ⟨_,rfl,t.k_NoPiece_NoSize⟩⟩ (zT ⟨t.e_NoLetters,.inl ⟨_,rfl,t.k_NoLetters_NoSize⟩⟩ (zT ⟨t.e_NoWord,.inl ⟨_,rfl,t.k_NoWord_NoSize⟩⟩ jd)))) rfl t.n_isinstance (zj 0 (pv 0)) (wG (v:=.ref t.x_NoSize.C) rfl t.x_NoSize.mgx rfl) za) zu zZ) zZ) zZ)))))
   (zq (ud (XW.xt (zdx (wu (w5 hr.units) zcj (xe_cntB (zj 1 (pv 1)) zam ⟨zf,rfl,rfl,rfl,rfl⟩) zE (xO _)) (zaK (zac (qC (jc (tab:=[(1,true),(2,true),(3,true),(4,true)]) (zT ⟨t.e_NoBook,.inr ⟨_,rfl,t.v_NoBook⟩⟩ (zT ⟨t.e_NoPiece,.inr ⟨_,rfl,t.v_NoPiece⟩⟩ (zT ⟨t.e_NoLetters,.inr ⟨_,rfl,t.v_NoLetters⟩⟩ (zT ⟨t.e_NoWord,.inr ⟨_,rfl,t.v_NoWord⟩⟩ jd)))) rfl t.n_isinstance (zj 0 (pv 0)) (jU (v:=.ty "ValueError") rfl t.n_ValueError zaw rfl) za))))))
   (zy (zQ (XEw.out (qP (zM (uV (l:=[114,101,102,117,115,101,100]) (by decide +kernel) (vV (by decide +kernel) (by decide +kernel))) (zM (XEw.mk (xe_neg zE)) vA star_un) zf)))))
   yI)
   (zy (zQ (XEw.out (qP (zM (uV (l:=[114,101,102,117,115,101,100]) (by decide +kernel) (vV (by decide +kernel) (by decide +kernel))) (zM (XEw.mk (xe_idxB (zj 1 (pv 1)) zam ⟨zf,rfl,rfl,rfl,rfl⟩)) vA zZ) zf))))))))
theorem sc__law_told:FnScope ["_law_way", "_law_many", "_law_book_here", "_law_thing", "_law_number", "_law_e"] ["_law_way", "_law_many", "_law_book_here", "_law_thing", "_law_number"] (zm vm):=⟨rfl,rfl,rfl,by decide +kernel,rfl,by decide +kernel,by decide +kernel⟩
theorem yj (t:Txt K mg):FnOk P w K mg base (CX1 P w) 9 t.d__law_told.f t.d__law_told.fd ["_law_way", "_law_many", "_law_book_here", "_law_thing", "_law_number"] (spD K (yq t) zB 5) :=
 show FnOk P w K mg base (CX1 P w) 9 t.d__law_told.f t.d__law_told.fd ["_law_way", "_law_many", "_law_book_here", "_law_thing", "_law_number"] (spD K (yq t) (yx 6 jj) 5) from
 fnD (N:=["_law_way", "_law_many", "_law_book_here", "_law_thing", "_law_number", "_law_e"]) (ps:=["_law_way", "_law_many", "_law_book_here", "_law_thing", "_law_number"]) (k:=8) (m:=6) (n:=5) (g:=jj) (cl:=yq t) t.d__law_told.fn sc__law_told rfl rfl fun cdv A outer s H E hr =>
   (zy (xs_trys (i:=5) (cs:=[1,2,3,4]) (xxs_if (wu op_lt o_ltI (zj 0 (pv 0)) zE (xO _)) (xxs_ret (xx_callL (FnsIn.cons (wG (v:=.ref t.d_word_of.f) rfl t.d_word_of.mg rfl) (fnIn (ok_word_of t) (hr.mono (by decide)) t.d_word_of.fn.kp t.d_word_of.bd) (FnsIn.cons (wG (v:=.ref t.d_piece_of.f) rfl t.d_piece_of.mg rfl) (fnIn (ok_piece_of t) (hr.mono (by decide)) t.d_piece_of.fn.kp t.d_piece_of.bd) (FnsIn.cons (wG (v:=.ref t.d_led.f) rfl t.d_led.mg rfl) (fnIn (ok_led t) (hr.mono (by decide)) t.d_led.fn.kp t.d_led.bd) (FnsIn.cons (wG (v:=.ref t.d_back.f) rfl t.d_back.mg rfl) (fnIn (ok_back t) (hr.mono (by decide)) t.d_back.fn.kp t.d_back.bd) FnsIn.nil za) za) za) za) (zj 0 (pv 0)) (fun _ _=>rfl) (zc (zj 1 (pv 1)) (zc (zj 2 (pv 2)) (zc (zj 3 (pv 3)) zu za) za) za) za)) (xxs_ret (xx_call (j4 t) (hr.mono (by decide)) rfl t.d_from_word.mg t.d_from_word.fn.kp t.d_from_word.bd (zc (zj 1 (pv 1)) (zc (zj 2 (pv 2)) (zc (zj 3 (pv 3)) (zc (zj 4 (pv 4)) zu za) za) za) za) za))) t.x_PieceError rfl sc__law_told.nd rfl rfl (jH t.s_NoBook (jH t.s_NoPiece (jH t.s_NoLetters (jH t.s_NoWord subs_nil)))) (fun _=>(xe_callH (zaP t) ((hr.mono (by decide)).hand _) rfl t.d__law_refused.mg t.d__law_refused.fn.kp t.d__law_refused.bd (zc (zj 5 (pv 5)) zu za) za)) rfl rfl))
theorem sc_law:FnScope ["_law_script", "_law_many", "_law_book_here", "_law_long", "_law_words_here", "_law_at", "_law_piece", "_law_none", "_law_text_here", "_law_pieces", "_law_left", "_law_signs", "_law_number", "_law_odd", "_law_more"] ["_law_script"] (zm za1):=⟨rfl,rfl,rfl,by decide +kernel,rfl,by decide +kernel,by decide +kernel⟩
theorem ok_law (t:Txt K mg):FnOk P w K mg base (CX1 P w) 10 t.d_law.f t.d_law.fd ["_law_script"] (spD K (yq t) fn_law 1) :=
 show FnOk P w K mg base (CX1 P w) 10 t.d_law.f t.d_law.fd ["_law_script"] (spD K (yq t) (yx 15 g_law) 1) from
 fnD (N:=["_law_script", "_law_many", "_law_book_here", "_law_long", "_law_words_here", "_law_at", "_law_piece", "_law_none", "_law_text_here", "_law_pieces", "_law_left", "_law_signs", "_law_number", "_law_odd", "_law_more"]) (ps:=["_law_script"]) (k:=9) (m:=15) (n:=1) (g:=g_law) (cl:=yq t) t.d_law.fn sc_law rfl rfl fun cdv A outer s H E hr =>
   (zq (yh (i:=1) sc_law.nd rfl (Or.inr rfl) (yF uW uQ zE (zF (yN t) (hr.mono (by decide)) rfl t.d__law_drawn.mg t.d__law_drawn.fn.kp t.d__law_drawn.bd yR (zc (zj 0 (pv 0)) (zc zE (zc zE zu zf) zf) za) za)))
   (zq (yh (i:=2) sc_law.nd rfl (Or.inr rfl) (zF (zcC t) (hr.mono (by decide)) rfl t.d__law_book.mg t.d__law_book.fn.kp t.d__law_book.bd yR (zc (zj 0 (pv 0)) (zc zE (zc (zj 1 (pv 1)) (zc (zF (yN t) (hr.mono (by decide)) rfl t.d__law_drawn.mg t.d__law_drawn.fn.kp t.d__law_drawn.bd yR (zc (zj 0 (pv 0)) (zc zE (zc zE zu zf) zf) za) za) zu zZ) za) zf) za) za))
   (zq (yh (i:=3) sc_law.nd rfl (Or.inl rfl) (yo yV n_len rfl t.n_len boot_len (zc (xZ (x := "_law_one") (caps:=[2]) (yJ (fs:=zm za1) (N:=["_law_script", "_law_many", "_law_book_here", "_law_long", "_law_words_here", "_law_at", "_law_piece", "_law_none", "_law_text_here", "_law_pieces", "_law_left", "_law_signs", "_law_number", "_law_odd", "_law_more"]) rfl rfl (by decide +kernel)) rfl (zaD (XEw.out (qP (zM ux (zM ux (zM ux (zM ux (zM ux vA zf) zf) zf) zf) zf)))) ⟨fun _ _ _ _ _=>(zX (i:=0) (uf (N:=["_law_one", "_law_book_here"]) rfl (by decide +kernel)) rfl (Or.inl rfl)),fun _ _ _ _ _=>(zaE (wu op_lt o_ltI (zj 0 (pv 0)) (yo yV n_len rfl t.n_len boot_len (zc (zj 1 (pv 1)) zu za) za) (xO _))),fun _ _ _ _ _=>(zj 0 (pv 0))⟩) zu rfl) rfl))
   (zq (yh (i:=4) sc_law.nd rfl (Or.inr rfl) (zF (zbR t) (hr.mono (by decide)) rfl t.d__law_words.mg t.d__law_words.fn.kp t.d__law_words.bd yR (zc (zj 3 (pv 3)) zu za) za))
   (zq (qM (xs_forE (i:=5) (j:=6) PassesOwn.never rfl rfl t.n_enumerate (zj 2 (pv 2)) (pg_two (K:=K) (i:=5) (j:=6) rfl rfl sc_law.nd rfl rfl (Or.inl rfl) (Or.inl rfl))
   (zy (ud (XW.xt (zdx (wu (w5 hr.units) zcj (zF (yj t) (hr.mono (by decide)) rfl t.d__law_told.mg t.d__law_told.fn.kp t.d__law_told.bd jn (zc zE (zc (zj 1 (pv 1)) (zc (zj 2 (pv 2)) (zc (zj 6 (pv 6)) (zc zE zu zf) za) za) za) zf) zf) (qK (zj 4 (pv 4)) (zj 5 (pv 5)) (fun _ _=>rfl)) (xO _)) (zaK (wu (w5 hr.units) zcj (zF (yj t) (hr.mono (by decide)) rfl t.d__law_told.mg t.d__law_told.fn.kp t.d__law_told.bd jn (zc zE (zc (zj 1 (pv 1)) (zc (zj 2 (pv 2)) (zc (qK (zj 4 (pv 4)) (zj 5 (pv 5)) (fun _ _=>rfl)) (zc zE zu zf) uo) za) za) zf) zf) (zj 6 (pv 6)) (xO _)))))
   (zy (zQ zam))
   yI)) za))
   (zq (yh (i:=7) sc_law.nd rfl (Or.inr rfl) (wU (zj 4 (pv 4)) (vD (yo yV n_len rfl t.n_len boot_len (zc (zj 2 (pv 2)) zu za) za)) uM))
   (zq (ud (wu (w5 hr.units) zcj (xZ (x := "_law_word") (caps:=[1,2]) (yJ (fs:=zm za1) (N:=["_law_script", "_law_many", "_law_book_here", "_law_long", "_law_words_here", "_law_at", "_law_piece", "_law_none", "_law_text_here", "_law_pieces", "_law_left", "_law_signs", "_law_number", "_law_odd", "_law_more"]) rfl rfl (by decide +kernel)) rfl (v8 (zj 7 (pv 7))) ⟨fun _ _ _ _ _=>(zX (i:=0) (uf (N:=["_law_word", "_law_many", "_law_book_here"]) rfl (by decide +kernel)) rfl (Or.inl rfl)),fun _ _ _ _ _=>xW,fun _ _ _ _ _=>(zF (yj t) (hr.mono (by decide)) rfl t.d__law_told.mg t.d__law_told.fn.kp t.d__law_told.bd jn (zc zE (zc (zj 1 (pv 1)) (zc (zj 2 (pv 2)) (zc (zj 0 (pv 0)) (zc zE zu zf) za) za) za) zf) zf)⟩) (XL.xe (xl_rep (XEw.out (zbt (zM (qP (zM (uV (l:=[114,101,102,117,115,101,100]) (by decide +kernel) (vV (by decide +kernel) (by decide +kernel))) (zM ux vA zf) zf)) vA star_tup))) (yo yV n_len rfl t.n_len boot_len (zc (zj 7 (pv 7)) zu za) za))) (xO _))
   (zy (zQ zam))
   yI)
   (zq (yh (i:=8) sc_law.nd rfl (Or.inl rfl) (zF (zdd t) (hr.mono (by decide)) rfl t.d__law_text.mg t.d__law_text.fn.kp t.d__law_text.bd yR (zc (zj 0 (pv 0)) (zc zE (zc (zj 1 (pv 1)) (zc zE zu zf) za) zf) za) za))
   (zq (xs_set2 (i:=9) (j:=10) (pg_two (K:=K) (i:=9) (j:=10) rfl rfl sc_law.nd rfl rfl (Or.inl rfl) (Or.inl rfl)) (zF (zdy t) (hr.mono (by decide)) rfl t.d__law_cut.mg t.d__law_cut.fn.kp t.d__law_cut.bd yR (zc (zj 2 (pv 2)) (zc (zj 8 (pv 8)) zu za) za) za))
   (zq (yh (i:=11) sc_law.nd rfl (Or.inl rfl) (jM (yO (l:=[]) (by decide +kernel) (vV (by decide +kernel) (by decide +kernel))) (xZ (x := "_law_piece") (caps:=[4,2]) (yJ (fs:=zm za1) (N:=["_law_script", "_law_many", "_law_book_here", "_law_long", "_law_words_here", "_law_at", "_law_piece", "_law_none", "_law_text_here", "_law_pieces", "_law_left", "_law_signs", "_law_number", "_law_odd", "_law_more"]) rfl rfl (by decide +kernel)) rfl (v8 (zj 9 (pv 9))) ⟨fun _ _ _ _ _=>(zX (i:=0) (uf (N:=["_law_piece", "_law_words_here", "_law_book_here"]) rfl (by decide +kernel)) rfl (Or.inl rfl)),fun _ _ _ _ _=>xW,fun _ _ _ _ _=>(qK (zj 1 (pv 1)) (xe_idxT (zj 2 (pv 2)) (zj 0 (pv 0)) ⟨za,rfl,rfl,rfl,rfl⟩) (fun _ _=>rfl))⟩) ⟨rfl,rfl,rfl,rfl,rfl⟩))
   (xss_consB (ud (XW.xt (zdx (wu (w5 hr.units) zcj (zF (yj t) (hr.mono (by decide)) rfl t.d__law_told.mg t.d__law_told.fn.kp t.d__law_told.bd yR (zc zE (zc (zj 1 (pv 1)) (zc (zj 2 (pv 2)) (zc (zj 8 (pv 8)) (zc zE zu zf) za) za) za) zf) zf) (zby (zc (zj 11 (pv 11)) (zc (zj 10 (pv 10)) zu za) za)) (xO _)) (zaK (wu (w5 hr.units) zcj (zF (yj t) (hr.mono (by decide)) rfl t.d__law_told.mg t.d__law_told.fn.kp t.d__law_told.bd yR (zc zE (zc (zj 1 (pv 1)) (zc (zj 2 (pv 2)) (zc (zj 11 (pv 11)) (zc zE zu zf) za) za) za) zf) zf) (jM (yO (l:=[]) (by decide +kernel) (vV (by decide +kernel) (by decide +kernel))) (zj 9 (pv 9)) ⟨za,rfl,rfl,rfl,rfl⟩) (xO _)))))
   (zy (zQ zam))
   yI)
   (xsb_consB (xst_nox (xst_for (i:=12) PassesOwn.never rfl (xiw_tup (qP (zM ux (zM (XEw.mk (zF (yN t) (hr.mono (by decide)) rfl t.d__law_drawn.mg t.d__law_drawn.fn.kp t.d__law_drawn.bd jn (zc (zj 0 (pv 0)) (zc zE (zc (yF uW uQ (yo yV n_len rfl t.n_len boot_len (zc (zj 9 (pv 9)) zu za) za) zE) zu xr) zf) za) za)) vA zZ) zf))) (zX (i:=12) sc_law.nd rfl (Or.inl rfl))
   (zy (ud (wu (w5 hr.units) zcj (zF (yj t) (hr.mono (by decide)) rfl t.d__law_told.mg t.d__law_told.fn.kp t.d__law_told.bd jn (zc zE (zc (zj 1 (pv 1)) (zc (zj 2 (pv 2)) (zc (zj 11 (pv 11)) (zc (zj 12 (pv 12)) zu za) za) za) za) zf) zf) (jM (yO (l:=[]) (by decide +kernel) (vV (by decide +kernel) (by decide +kernel))) (wU (zj 9 (pv 9)) (vD (zj 12 (pv 12))) uM) ⟨uo,rfl,rfl,rfl,rfl⟩) (xO _))
   (zy (zQ zam))
   yI))))
   (xsb_cons (xst_set (i:=13) sc_law.nd rfl (Or.inr rfl) (yw_ix (zbt (zM (uV (l:=[]) (by decide +kernel) (vV (by decide +kernel) (by decide +kernel))) (zM (uV (l:=[120]) (by decide +kernel) (vV (by decide +kernel) (by decide +kernel))) (zM (XEw.mk (yF vG qD (wU (qK (zj 2 (pv 2)) zE (fun _ _=>rfl)) uM (vD (xe_neg zE))) (yO (l:=[122]) (by decide +kernel) (vV (by decide +kernel) (by decide +kernel))))) (zM yw_non (zM ux (zM (XEw.mk (yF vG qD (qK (zj 2 (pv 2)) zE (fun _ _=>rfl)) (yO (l:=[97]) (by decide +kernel) (vV (by decide +kernel) (by decide +kernel))))) (zM (XEw.mk (yF vG qD (qK (zj 4 (pv 4)) zE (fun _ _=>rfl)) (yO (l:=[48]) (by decide +kernel) (vV (by decide +kernel) (by decide +kernel))))) (zM (XEw.mk (yF op_repS o_repS (yO (l:=[50]) (by decide +kernel) (vV (by decide +kernel) (by decide +kernel))) (zj 3 (pv 3)))) vA xr) xr) xr) zf) zf) xr) zf) zf)) (XEw.mk (zF (yN t) (hr.mono (by decide)) rfl t.d__law_drawn.mg t.d__law_drawn.fn.kp t.d__law_drawn.bd yR (zc (zj 0 (pv 0)) (zc zE (zc zE zu zf) zf) za) za)) (fun _ _=>rfl)))
   (zq (ud (XW.xt (zdx (wu (w5 hr.units) zcj (zF (yj t) (hr.mono (by decide)) rfl t.d__law_told.mg t.d__law_told.fn.kp t.d__law_told.bd yR (zc zE (zc (zj 1 (pv 1)) (zc (zj 2 (pv 2)) (zc (zj 13 (pv 13)) (zc zE zu zf) za) za) za) zf) zf) (XEw.out (qP (zM (uV (l:=[114,101,102,117,115,101,100]) (by decide +kernel) (vV (by decide +kernel) (by decide +kernel))) (zM ux vA zf) zf))) (xO _)) (zaK (wu (w5 hr.units) zcj (zF (yj t) (hr.mono (by decide)) rfl t.d__law_told.mg t.d__law_told.fn.kp t.d__law_told.bd yR (zc zE (zc (zj 1 (pv 1)) (zc (zj 2 (pv 2)) (zc (zj 13 (pv 13)) (zc zE zu zf) za) za) za) zf) zf) (XEw.out (qP (zM (uV (l:=[114,101,102,117,115,101,100]) (by decide +kernel) (vV (by decide +kernel) (by decide +kernel))) (zM ux vA zf) zf))) (xO _)))))
   (zy (zQ zam))
   yI)
   (zq (yh (i:=14) sc_law.nd rfl (Or.inl rfl) (XL.xe (xl_cat (jy (zc (yF vG qD (zj 11 (pv 11)) (yF op_repS o_repS (yO (l:=[50]) (by decide +kernel) (vV (by decide +kernel) (by decide +kernel))) (zj 3 (pv 3)))) zu xr)) (XL.xe (xl_rep (jy (zc (yF vG qD (zj 11 (pv 11)) (yO (l:=[49]) (by decide +kernel) (vV (by decide +kernel) (by decide +kernel)))) zu xr)) (zaV call_intB n_int rfl t.n_int boot_int (zc (zbo op_gt o_gtI (zj 3 (pv 3)) zE (xO _)) zu rfl) rfl))))))
   (zq (ud (wu (w5 hr.units) zcj (xZ (x := "_law_some") (caps:=[1,2]) (yJ (fs:=zm za1) (N:=["_law_script", "_law_many", "_law_book_here", "_law_long", "_law_words_here", "_law_at", "_law_piece", "_law_none", "_law_text_here", "_law_pieces", "_law_left", "_law_signs", "_law_number", "_law_odd", "_law_more"]) rfl rfl (by decide +kernel)) rfl (v8 (zj 14 (pv 14))) ⟨fun _ _ _ _ _=>(zX (i:=0) (uf (N:=["_law_some", "_law_many", "_law_book_here"]) rfl (by decide +kernel)) rfl (Or.inl rfl)),fun _ _ _ _ _=>(zaE (wu (w5 hr.units) zcj (zF (yj t) (hr.mono (by decide)) rfl t.d__law_told.mg t.d__law_told.fn.kp t.d__law_told.bd jn (zc zE (zc (zj 1 (pv 1)) (zc (zj 2 (pv 2)) (zc (zj 0 (pv 0)) (zc zE zu zf) za) za) za) zf) zf) (XEw.out (qP (zM (uV (l:=[114,101,102,117,115,101,100]) (by decide +kernel) (vV (by decide +kernel) (by decide +kernel))) (zM ux vA zf) zf))) (xO _))),fun _ _ _ _ _=>(zj 0 (pv 0))⟩) (jy zu) (xO _))
   (zy (zQ zam))
   yI)
   (zq (ud (XW.xt (zdx (wu (w5 hr.units) zcj (zF (yj t) (hr.mono (by decide)) rfl t.d__law_told.mg t.d__law_told.fn.kp t.d__law_told.bd yR (zc zE (zc (zj 1 (pv 1)) (zc (zj 2 (pv 2)) (zc (yF vG qD (zj 8 (pv 8)) (yO (l:=[122]) (by decide +kernel) (vV (by decide +kernel) (by decide +kernel)))) (zc zE zu zf) xr) za) za) zf) zf) (XEw.out (qP (zM (uV (l:=[114,101,102,117,115,101,100]) (by decide +kernel) (vV (by decide +kernel) (by decide +kernel))) (zM ux vA zf) zf))) (xO _)) (zaK (wu (w5 hr.units) zcj (zF (yj t) (hr.mono (by decide)) rfl t.d__law_told.mg t.d__law_told.fn.kp t.d__law_told.bd yR (zc zE (zc (zj 1 (pv 1)) (zc (zj 2 (pv 2)) (zc xe_non (zc zE zu zf) zf) za) za) zf) zf) (XEw.out (qP (zM (uV (l:=[114,101,102,117,115,101,100]) (by decide +kernel) (vV (by decide +kernel) (by decide +kernel))) (zM ux vA zf) zf))) (xO _)))))
   (zy (zQ zam))
   yI)
   (zq (yh (i:=7) sc_law.nd rfl (Or.inr rfl) (XEw.out (yw_ix (zbt (zM yw_non (zM (XEw.mk (wU (zj 2 (pv 2)) (vD zE) uM)) (zM (XEw.mk (XL.xe (xl_list rfl t.n_list boot_list (zj 2 (pv 2)) za))) vA zZ) uo) zf)) (XEw.mk (zF (yN t) (hr.mono (by decide)) rfl t.d__law_drawn.mg t.d__law_drawn.fn.kp t.d__law_drawn.bd yR (zc (zj 0 (pv 0)) (zc zE (zc zE zu zf) zf) za) za)) (fun _ _=>rfl))))
   (zy (zQ (zbo (op_eqD hr.units) o_eq (xZ (x := "_law_way") (caps:=[1,7,13]) (yJ (fs:=zm za1) (N:=["_law_script", "_law_many", "_law_book_here", "_law_long", "_law_words_here", "_law_at", "_law_piece", "_law_none", "_law_text_here", "_law_pieces", "_law_left", "_law_signs", "_law_number", "_law_odd", "_law_more"]) rfl rfl (by decide +kernel)) rfl (vz rfl t.n_range (zc zE zu zf) rfl) ⟨fun _ _ _ _ _=>(zX (i:=0) (uf (N:=["_law_way", "_law_many", "_law_none", "_law_odd"]) rfl (by decide +kernel)) rfl (Or.inl rfl)),fun _ _ _ _ _=>xW,fun _ _ _ _ _=>(zF (yj t) (hr.mono (by decide)) rfl t.d__law_told.mg t.d__law_told.fn.kp t.d__law_told.bd jn (zc (zj 0 (pv 0)) (zc (zj 1 (pv 1)) (zc (zj 2 (pv 2)) (zc (zj 3 (pv 3)) (zc zE zu zf) za) za) za) za) za)⟩) (XL.xe (xl_rep (XEw.out (zbt (zM (qP (zM (uV (l:=[114,101,102,117,115,101,100]) (by decide +kernel) (vV (by decide +kernel) (by decide +kernel))) (zM ux vA zf) zf)) vA star_tup))) zE)) (xO _))))))))))))))))))))))
end
end K40
namespace K40
open PySem L2
theorem all_mk {l:PySem.W.OpenLaw}{w:World}{K:PySem.W.Frag}{h:Heap}{mg:Str→Option Value}{fa f0 f1 f2 f3 f4 f5 f6 f7 f8 f9 f10 f11 f12 f13 f14 f15 f16 f17 f18 f19 f20 f21 f22 f23 f24 f25 f26 f27 f28 f29 f30 f31 f32 f33 f34 f35 f36:Addr}(X:K.In h)(G:h.Ns mainGlobals mg)(hfa:mg "law" = some (.ref fa))
  {od0 an0 od1 an1 od2 an2 od3 an3 od4 an4 od5 an5 od6 an6 od7 an7 od8 an8 od9 an9 od10 an10 od11 an11 od12 an12 od13 an13 od14 an14 od15 an15 od16 an16 od17 an17 od18 an18 od19 an19 od20 an20 od21 an21 od22 an22 od23 an23 od24 an24 od25 an25 od26 an26 od27 an27 od28 an28 od29 an29 od30 an30 od31 an31 od32 an32 od33 an33 od34 an34 od35 an35 od36 an36:Option Addr}{sl0 sl1 sl2 sl3 sl4 sl5 sl6 sl7 sl8 sl9 sl10 sl11 sl12 sl13 sl14 sl15 sl16 sl17 sl18 sl19 sl20 sl21 sl22 sl23 sl24 sl25 sl26 sl27 sl28 sl29 sl30 sl31 sl32 sl33 sl34 sl35 sl36:Array (Option Value)}{oc0 kV0 dc0 pm0 cd0 ct0 oc1 kV1 dc1 pm1 cd1 ct1 oc2 kV2 dc2 pm2 cd2 ct2 oc3 kV3 dc3 pm3 cd3 ct3 oc4 kV4 dc4 pm4 cd4 ct4 oc5 kV5 dc5 pm5 cd5 ct5 oc6 kV6 dc6 pm6 cd6 ct6 oc7 kV7 dc7 pm7 cd7 ct7 oc8 kV8 dc8 pm8 cd8 ct8 oc9 kV9 dc9 pm9 cd9 ct9 oc10 kV10 dc10 pm10 cd10 ct10 oc11 kV11 dc11 pm11 cd11 ct11 oc12 kV12 dc12 pm12 cd12 ct12 oc13 kV13 dc13 pm13 cd13 ct13 oc14 kV14 dc14 pm14 cd14 ct14 oc15 kV15 dc15 pm15 cd15 ct15 oc16 kV16 dc16 pm16 cd16 ct16 oc17 kV17 dc17 pm17 cd17 ct17 oc18 kV18 dc18 pm18 cd18 ct18 oc19 kV19 dc19 pm19 cd19 ct19 oc20 kV20 dc20 pm20 cd20 ct20 oc21 kV21 dc21 pm21 cd21 ct21 oc22 kV22 dc22 pm22 cd22 ct22 oc23 kV23 dc23 pm23 cd23 ct23 oc24 kV24 dc24 pm24 cd24 ct24 oc25 kV25 dc25 pm25 cd25 ct25 oc26 kV26 dc26 pm26 cd26 ct26 oc27 kV27 dc27 pm27 cd27 ct27 oc28 kV28 dc28 pm28 cd28 ct28 oc29 kV29 dc29 pm29 cd29 ct29 oc30 kV30 dc30 pm30 cd30 ct30 oc31 kV31 dc31 pm31 cd31 ct31 oc32 kV32 dc32 pm32 cd32 ct32 oc33 kV33 dc33 pm33 cd33 ct33 oc34 kV34 dc34 pm34 cd34 ct34 oc35 kV35 dc35 pm35 cd35 ct35 oc36 kV36 dc36 pm36 cd36 ct36:Value}{vFEWEST_LETTERS vLETTERS vMOST_PIECES:Value}
  (a0:PySem.W.nsIn K mainGlobals "_law_cell" = some (some (.ref f0))) (l0:K.lookup f0=some ⟨oc0,od0,.func (PySem.W.fnOf "_law_cell" "_law_cell" (zK vg) (zH vg) (zm vg) .none kV0 dc0 pm0 an0 cd0 ct0),sl0⟩) (c0:PySem.W.codeIn K cd0 "_law_cell" = true) (k0:PySem.W.keepIn K (.ref f0)=true)
  (a1:PySem.W.nsIn K mainGlobals "_law_drawn" = some (some (.ref f1))) (l1:K.lookup f1=some ⟨oc1,od1,.func (PySem.W.fnOf "_law_drawn" "_law_drawn" (zK wL) (zH wL) (zm wL) .none kV1 dc1 pm1 an1 cd1 ct1),sl1⟩) (c1:PySem.W.codeIn K cd1 "_law_drawn" = true) (k1:PySem.W.keepIn K (.ref f1)=true)
  (a2:PySem.W.nsIn K mainGlobals "_law_book" = some (some (.ref f2))) (l2:K.lookup f2=some ⟨oc2,od2,.func (PySem.W.fnOf "_law_book" "_law_book" (zK xX) (zH xX) (zm xX) .none kV2 dc2 pm2 an2 cd2 ct2),sl2⟩) (c2:PySem.W.codeIn K cd2 "_law_book" = true) (k2:PySem.W.keepIn K (.ref f2)=true)
  (a3:PySem.W.nsIn K mainGlobals "_law_words" = some (some (.ref f3))) (l3:K.lookup f3=some ⟨oc3,od3,.func (PySem.W.fnOf "_law_words" "_law_words" (zK yZ) (zH yZ) (zm yZ) .none kV3 dc3 pm3 an3 cd3 ct3),sl3⟩) (c3:PySem.W.codeIn K cd3 "_law_words" = true) (k3:PySem.W.keepIn K (.ref f3)=true)
  (a4:PySem.W.nsIn K mainGlobals "_law_text" = some (some (.ref f4))) (l4:K.lookup f4=some ⟨oc4,od4,.func (PySem.W.fnOf "_law_text" "_law_text" (zK wH) (zH wH) (zm wH) .none kV4 dc4 pm4 an4 cd4 ct4),sl4⟩) (c4:PySem.W.codeIn K cd4 "_law_text" = true) (k4:PySem.W.keepIn K (.ref f4)=true)
  (a5:PySem.W.nsIn K mainGlobals "_law_cut" = some (some (.ref f5))) (l5:K.lookup f5=some ⟨oc5,od5,.func (PySem.W.fnOf "_law_cut" "_law_cut" (zK wO) (zH wO) (zm wO) .none kV5 dc5 pm5 an5 cd5 ct5),sl5⟩) (c5:PySem.W.codeIn K cd5 "_law_cut" = true) (k5:PySem.W.keepIn K (.ref f5)=true)
  (a6:PySem.W.nsIn K mainGlobals "is_rising" = some (some (.ref f6))) (l6:K.lookup f6=some ⟨oc6,od6,.func (PySem.W.fnOf "is_rising" "is_rising" (zK wI) (zH wI) (zm wI) .none kV6 dc6 pm6 an6 cd6 ct6),sl6⟩) (c6:PySem.W.codeIn K cd6 "is_rising" = true) (k6:PySem.W.keepIn K (.ref f6)=true)
  (a7:PySem.W.nsIn K mainGlobals "is_whole" = some (some (.ref f7))) (l7:K.lookup f7=some ⟨oc7,od7,.func (PySem.W.fnOf "is_whole" "is_whole" (zK vN) (zH vN) (zm vN) .none kV7 dc7 pm7 an7 cd7 ct7),sl7⟩) (c7:PySem.W.codeIn K cd7 "is_whole" = true) (k7:PySem.W.keepIn K (.ref f7)=true)
  (a8:PySem.W.nsIn K mainGlobals "is_between" = some (some (.ref f8))) (l8:K.lookup f8=some ⟨oc8,od8,.func (PySem.W.fnOf "is_between" "is_between" (zK wN) (zH wN) (zm wN) .none kV8 dc8 pm8 an8 cd8 ct8),sl8⟩) (c8:PySem.W.codeIn K cd8 "is_between" = true) (k8:PySem.W.keepIn K (.ref f8)=true)
  (a9:PySem.W.nsIn K mainGlobals "is_number_of_letters" = some (some (.ref f9))) (l9:K.lookup f9=some ⟨oc9,od9,.func (PySem.W.fnOf "is_number_of_letters" "is_number_of_letters" (zK zW) (zH zW) (zm zW) .none kV9 dc9 pm9 an9 cd9 ct9),sl9⟩) (c9:PySem.W.codeIn K cd9 "is_number_of_letters" = true) (k9:PySem.W.keepIn K (.ref f9)=true)
  (a10:PySem.W.nsIn K mainGlobals "is_text_of" = some (some (.ref f10))) (l10:K.lookup f10=some ⟨oc10,od10,.func (PySem.W.fnOf "is_text_of" "is_text_of" (zK wk) (zH wk) (zm wk) .none kV10 dc10 pm10 an10 cd10 ct10),sl10⟩) (c10:PySem.W.codeIn K cd10 "is_text_of" = true) (k10:PySem.W.keepIn K (.ref f10)=true)
  (a11:PySem.W.nsIn K mainGlobals "are_pieces" = some (some (.ref f11))) (l11:K.lookup f11=some ⟨oc11,od11,.func (PySem.W.fnOf "are_pieces" "are_pieces" (zK wj) (zH wj) (zm wj) .none kV11 dc11 pm11 an11 cd11 ct11),sl11⟩) (c11:PySem.W.codeIn K cd11 "are_pieces" = true) (k11:PySem.W.keepIn K (.ref f11)=true)
  (a12:PySem.W.nsIn K mainGlobals "first_pair" = some (some (.ref f12))) (l12:K.lookup f12=some ⟨oc12,od12,.func (PySem.W.fnOf "first_pair" "first_pair" (zK wM) (zH wM) (zm wM) .none kV12 dc12 pm12 an12 cd12 ct12),sl12⟩) (c12:PySem.W.codeIn K cd12 "first_pair" = true) (k12:PySem.W.keepIn K (.ref f12)=true)
  (a13:PySem.W.nsIn K mainGlobals "gone_on" = some (some (.ref f13))) (l13:K.lookup f13=some ⟨oc13,od13,.func (PySem.W.fnOf "gone_on" "gone_on" (zK uU) (zH uU) (zm uU) .none kV13 dc13 pm13 an13 cd13 ct13),sl13⟩) (c13:PySem.W.codeIn K cd13 "gone_on" = true) (k13:PySem.W.keepIn K (.ref f13)=true)
  (a14:PySem.W.nsIn K mainGlobals "is_apart" = some (some (.ref f14))) (l14:K.lookup f14=some ⟨oc14,od14,.func (PySem.W.fnOf "is_apart" "is_apart" (zK vd) (zH vd) (zm vd) .none kV14 dc14 pm14 an14 cd14 ct14),sl14⟩) (c14:PySem.W.codeIn K cd14 "is_apart" = true) (k14:PySem.W.keepIn K (.ref f14)=true)
  (a15:PySem.W.nsIn K mainGlobals "is_inner" = some (some (.ref f15))) (l15:K.lookup f15=some ⟨oc15,od15,.func (PySem.W.fnOf "is_inner" "is_inner" (zK vq) (zH vq) (zm vq) .none kV15 dc15 pm15 an15 cd15 ct15),sl15⟩) (c15:PySem.W.codeIn K cd15 "is_inner" = true) (k15:PySem.W.keepIn K (.ref f15)=true)
  (a16:PySem.W.nsIn K mainGlobals "first_text_apart" = some (some (.ref f16))) (l16:K.lookup f16=some ⟨oc16,od16,.func (PySem.W.fnOf "first_text_apart" "first_text_apart" (zK yc) (zH yc) (zm yc) .none kV16 dc16 pm16 an16 cd16 ct16),sl16⟩) (c16:PySem.W.codeIn K cd16 "first_text_apart" = true) (k16:PySem.W.keepIn K (.ref f16)=true)
  (a17:PySem.W.nsIn K mainGlobals "first_paper" = some (some (.ref f17))) (l17:K.lookup f17=some ⟨oc17,od17,.func (PySem.W.fnOf "first_paper" "first_paper" (zK wB) (zH wB) (zm wB) .none kV17 dc17 pm17 an17 cd17 ct17),sl17⟩) (c17:PySem.W.codeIn K cd17 "first_paper" = true) (k17:PySem.W.keepIn K (.ref f17)=true)
  (a18:PySem.W.nsIn K mainGlobals "is_book" = some (some (.ref f18))) (l18:K.lookup f18=some ⟨oc18,od18,.func (PySem.W.fnOf "is_book" "is_book" (zK uT) (zH uT) (zm uT) .none kV18 dc18 pm18 an18 cd18 ct18),sl18⟩) (c18:PySem.W.codeIn K cd18 "is_book" = true) (k18:PySem.W.keepIn K (.ref f18)=true)
  (a19:PySem.W.nsIn K mainGlobals "require_book" = some (some (.ref f19))) (l19:K.lookup f19=some ⟨oc19,od19,.func (PySem.W.fnOf "require_book" "require_book" (zK xQ) (zH xQ) (zm xQ) .none kV19 dc19 pm19 an19 cd19 ct19),sl19⟩) (c19:PySem.W.codeIn K cd19 "require_book" = true) (k19:PySem.W.keepIn K (.ref f19)=true)
  (a20:PySem.W.nsIn K mainGlobals "bits_for" = some (some (.ref f20))) (l20:K.lookup f20=some ⟨oc20,od20,.func (PySem.W.fnOf "bits_for" "bits_for" (zK vL) (zH vL) (zm vL) .none kV20 dc20 pm20 an20 cd20 ct20),sl20⟩) (c20:PySem.W.codeIn K cd20 "bits_for" = true) (k20:PySem.W.keepIn K (.ref f20)=true)
  (a21:PySem.W.nsIn K mainGlobals "whole_words" = some (some (.ref f21))) (l21:K.lookup f21=some ⟨oc21,od21,.func (PySem.W.fnOf "whole_words" "whole_words" (zK xG) (zH xG) (zm xG) .none kV21 dc21 pm21 an21 cd21 ct21),sl21⟩) (c21:PySem.W.codeIn K cd21 "whole_words" = true) (k21:PySem.W.keepIn K (.ref f21)=true)
  (a22:PySem.W.nsIn K mainGlobals "word_for" = some (some (.ref f22))) (l22:K.lookup f22=some ⟨oc22,od22,.func (PySem.W.fnOf "word_for" "word_for" (zK vM) (zH vM) (zm vM) .none kV22 dc22 pm22 an22 cd22 ct22),sl22⟩) (c22:PySem.W.codeIn K cd22 "word_for" = true) (k22:PySem.W.keepIn K (.ref f22)=true)
  (a23:PySem.W.nsIn K mainGlobals "words_of" = some (some (.ref f23))) (l23:K.lookup f23=some ⟨oc23,od23,.func (PySem.W.fnOf "words_of" "words_of" (zK vf) (zH vf) (zm vf) .none kV23 dc23 pm23 an23 cd23 ct23),sl23⟩) (c23:PySem.W.codeIn K cd23 "words_of" = true) (k23:PySem.W.keepIn K (.ref f23)=true)
  (a24:PySem.W.nsIn K mainGlobals "text_of_words" = some (some (.ref f24))) (l24:K.lookup f24=some ⟨oc24,od24,.func (PySem.W.fnOf "text_of_words" "text_of_words" (zK yD) (zH yD) (zm yD) .none kV24 dc24 pm24 an24 cd24 ct24),sl24⟩) (c24:PySem.W.codeIn K cd24 "text_of_words" = true) (k24:PySem.W.keepIn K (.ref f24)=true)
  (a25:PySem.W.nsIn K mainGlobals "from_word" = some (some (.ref f25))) (l25:K.lookup f25=some ⟨oc25,od25,.func (PySem.W.fnOf "from_word" "from_word" (zK vh) (zH vh) (zm vh) .none kV25 dc25 pm25 an25 cd25 ct25),sl25⟩) (c25:PySem.W.codeIn K cd25 "from_word" = true) (k25:PySem.W.keepIn K (.ref f25)=true)
  (a26:PySem.W.nsIn K mainGlobals "require_piece" = some (some (.ref f26))) (l26:K.lookup f26=some ⟨oc26,od26,.func (PySem.W.fnOf "require_piece" "require_piece" (zK yW) (zH yW) (zm yW) .none kV26 dc26 pm26 an26 cd26 ct26),sl26⟩) (c26:PySem.W.codeIn K cd26 "require_piece" = true) (k26:PySem.W.keepIn K (.ref f26)=true)
  (a27:PySem.W.nsIn K mainGlobals "word_of" = some (some (.ref f27))) (l27:K.lookup f27=some ⟨oc27,od27,.func (PySem.W.fnOf "word_of" "word_of" (zK uR) (zH uR) (zm uR) .none kV27 dc27 pm27 an27 cd27 ct27),sl27⟩) (c27:PySem.W.codeIn K cd27 "word_of" = true) (k27:PySem.W.keepIn K (.ref f27)=true)
  (a28:PySem.W.nsIn K mainGlobals "piece_of" = some (some (.ref f28))) (l28:K.lookup f28=some ⟨oc28,od28,.func (PySem.W.fnOf "piece_of" "piece_of" (zK vO) (zH vO) (zm vO) .none kV28 dc28 pm28 an28 cd28 ct28),sl28⟩) (c28:PySem.W.codeIn K cd28 "piece_of" = true) (k28:PySem.W.keepIn K (.ref f28)=true)
  (a29:PySem.W.nsIn K mainGlobals "require_text_of" = some (some (.ref f29))) (l29:K.lookup f29=some ⟨oc29,od29,.func (PySem.W.fnOf "require_text_of" "require_text_of" (zK yC) (zH yC) (zm yC) .none kV29 dc29 pm29 an29 cd29 ct29),sl29⟩) (c29:PySem.W.codeIn K cd29 "require_text_of" = true) (k29:PySem.W.keepIn K (.ref f29)=true)
  (a30:PySem.W.nsIn K mainGlobals "cut_by" = some (some (.ref f30))) (l30:K.lookup f30=some ⟨oc30,od30,.func (PySem.W.fnOf "cut_by" "cut_by" (zK kj) (zH kj) (zm kj) .none kV30 dc30 pm30 an30 cd30 ct30),sl30⟩) (c30:PySem.W.codeIn K cd30 "cut_by" = true) (k30:PySem.W.keepIn K (.ref f30)=true)
  (a31:PySem.W.nsIn K mainGlobals "led_by" = some (some (.ref f31))) (l31:K.lookup f31=some ⟨oc31,od31,.func (PySem.W.fnOf "led_by" "led_by" (zK qx) (zH qx) (zm qx) .none kV31 dc31 pm31 an31 cd31 ct31),sl31⟩) (c31:PySem.W.codeIn K cd31 "led_by" = true) (k31:PySem.W.keepIn K (.ref f31)=true)
  (a32:PySem.W.nsIn K mainGlobals "led" = some (some (.ref f32))) (l32:K.lookup f32=some ⟨oc32,od32,.func (PySem.W.fnOf "led" "led" (zK s_led) (zH s_led) (zm s_led) .none kV32 dc32 pm32 an32 cd32 ct32),sl32⟩) (c32:PySem.W.codeIn K cd32 "led" = true) (k32:PySem.W.keepIn K (.ref f32)=true)
  (a33:PySem.W.nsIn K mainGlobals "back" = some (some (.ref f33))) (l33:K.lookup f33=some ⟨oc33,od33,.func (PySem.W.fnOf "back" "back" (zK zbq) (zH zbq) (zm zbq) .none kV33 dc33 pm33 an33 cd33 ct33),sl33⟩) (c33:PySem.W.codeIn K cd33 "back" = true) (k33:PySem.W.keepIn K (.ref f33)=true)
  (a34:PySem.W.nsIn K mainGlobals "_law_refused" = some (some (.ref f34))) (l34:K.lookup f34=some ⟨oc34,od34,.func (PySem.W.fnOf "_law_refused" "_law_refused" (zK xP) (zH xP) (zm xP) .none kV34 dc34 pm34 an34 cd34 ct34),sl34⟩) (c34:PySem.W.codeIn K cd34 "_law_refused" = true) (k34:PySem.W.keepIn K (.ref f34)=true)
  (a35:PySem.W.nsIn K mainGlobals "_law_told" = some (some (.ref f35))) (l35:K.lookup f35=some ⟨oc35,od35,.func (PySem.W.fnOf "_law_told" "_law_told" (zK vm) (zH vm) (zm vm) .none kV35 dc35 pm35 an35 cd35 ct35),sl35⟩) (c35:PySem.W.codeIn K cd35 "_law_told" = true) (k35:PySem.W.keepIn K (.ref f35)=true)
  (a36:PySem.W.nsIn K mainGlobals "law" = some (some (.ref f36))) (l36:K.lookup f36=some ⟨oc36,od36,.func (PySem.W.fnOf "law" "law" (zK za1) (zH za1) (zm za1) .none kV36 dc36 pm36 an36 cd36 ct36),sl36⟩) (c36:PySem.W.codeIn K cd36 "law" = true) (k36:PySem.W.keepIn K (.ref f36)=true)
  (wFEWEST_LETTERS:PySem.W.nsIn K mainGlobals "FEWEST_LETTERS" = some (some vFEWEST_LETTERS)) (rFEWEST_LETTERS:RelV (.int (2)) vFEWEST_LETTERS)
  (wLETTERS:PySem.W.nsIn K mainGlobals "LETTERS" = some (some vLETTERS)) (rLETTERS:RelV (.str (T [97,98,99,100])) vLETTERS)
  (wMOST_PIECES:PySem.W.nsIn K mainGlobals "MOST_PIECES" = some (some vMOST_PIECES)) (rMOST_PIECES:RelV (.int (32)) vMOST_PIECES)
  (zValueError:PySem.W.nsIn K mainGlobals "ValueError" = some none)
  (zall:PySem.W.nsIn K mainGlobals "all" = some none)
  (zany:PySem.W.nsIn K mainGlobals "any" = some none)
  (zbool:PySem.W.nsIn K mainGlobals "bool" = some none)
  (zdict:PySem.W.nsIn K mainGlobals "dict" = some none)
  (zenumerate:PySem.W.nsIn K mainGlobals "enumerate" = some none)
  (zint:PySem.W.nsIn K mainGlobals "int" = some none)
  (zisinstance:PySem.W.nsIn K mainGlobals "isinstance" = some none)
  (zlen:PySem.W.nsIn K mainGlobals "len" = some none)
  (zlist:PySem.W.nsIn K mainGlobals "list" = some none)
  (zmax:PySem.W.nsIn K mainGlobals "max" = some none)
  (zrange:PySem.W.nsIn K mainGlobals "range" = some none)
  (zsorted:PySem.W.nsIn K mainGlobals "sorted" = some none)
  (zstr:PySem.W.nsIn K mainGlobals "str" = some none)
  (ztuple:PySem.W.nsIn K mainGlobals "tuple" = some none)
  (zzip:PySem.W.nsIn K mainGlobals "zip" = some none)
  {xa_NoBook xa_NoLetters xa_NoPiece xa_NoSize xa_NoSource xa_NoWord xa_PieceError:Addr}
  (y_NoBook:PySem.W.nsIn K mainGlobals "NoBook" = some (some (.ref xa_NoBook))) (q_NoBook:PySem.W.excIn K xa_NoBook [.type "ValueError", .type "Exception", .type "BaseException", .type "object"] "ValueError.__new__" = true)
  (y_NoLetters:PySem.W.nsIn K mainGlobals "NoLetters" = some (some (.ref xa_NoLetters))) (q_NoLetters:PySem.W.excIn K xa_NoLetters [.type "ValueError", .type "Exception", .type "BaseException", .type "object"] "ValueError.__new__" = true)
  (y_NoPiece:PySem.W.nsIn K mainGlobals "NoPiece" = some (some (.ref xa_NoPiece))) (q_NoPiece:PySem.W.excIn K xa_NoPiece [.type "ValueError", .type "Exception", .type "BaseException", .type "object"] "ValueError.__new__" = true)
  (y_NoSize:PySem.W.nsIn K mainGlobals "NoSize" = some (some (.ref xa_NoSize))) (q_NoSize:PySem.W.excIn K xa_NoSize [.type "ValueError", .type "Exception", .type "BaseException", .type "object"] "ValueError.__new__" = true)
  (y_NoSource:PySem.W.nsIn K mainGlobals "NoSource" = some (some (.ref xa_NoSource))) (q_NoSource:PySem.W.excIn K xa_NoSource [.type "ValueError", .type "Exception", .type "BaseException", .type "object"] "ValueError.__new__" = true)
  (y_NoWord:PySem.W.nsIn K mainGlobals "NoWord" = some (some (.ref xa_NoWord))) (q_NoWord:PySem.W.excIn K xa_NoWord [.type "ValueError", .type "Exception", .type "BaseException", .type "object"] "ValueError.__new__" = true)
  (y_PieceError:PySem.W.nsIn K mainGlobals "PieceError" = some (some (.ref xa_PieceError))) (q_PieceError:PySem.W.excIn K xa_PieceError [.type "ValueError", .type "Exception", .type "BaseException", .type "object"] "ValueError.__new__" = true)
  (ga_NoBook:PySem.W.findIn K (.ref xa_NoBook) "__getattribute__" = some (some (.builtin "BaseException.__getattribute__")))
  (gt_NoBook:PySem.W.findIn K (.ref xa_NoBook) "__getattr__" = some none)
  (cl_NoBook:PySem.W.findIn K (.ref xa_NoBook) "__class__" = some (some (.builtin "object.__class__")))
  (be_NoBook:PySem.W.subIn K (.ref xa_NoBook) (.type "BaseException")=some true)
  (ob_NoBook:PySem.W.subIn K (.ref xa_NoBook) (.type "object")=some true)
  (is_NoBook:PySem.W.isClsIn K xa_NoBook=true)
  (fs_NoBook:PySem.W.subIn K (.ref xa_NoBook) (.ref xa_PieceError)=some true)
  (fk_NoBook_NoSource:PySem.W.kitOne K (.ref xa_NoBook) (.ref xa_NoSource)=some false)
  (fk_NoBook_NoBook:PySem.W.kitOne K (.ref xa_NoBook) (.ref xa_NoBook)=some true)
  (fk_NoBook_NoPiece:PySem.W.kitOne K (.ref xa_NoBook) (.ref xa_NoPiece)=some false)
  (fk_NoBook_NoLetters:PySem.W.kitOne K (.ref xa_NoBook) (.ref xa_NoLetters)=some false)
  (fk_NoBook_NoWord:PySem.W.kitOne K (.ref xa_NoBook) (.ref xa_NoWord)=some false)
  (fk_NoBook_NoSize:PySem.W.kitOne K (.ref xa_NoBook) (.ref xa_NoSize)=some false)
  (fv_NoBook:PySem.W.kitOne K (.ref xa_NoBook) (.type "ValueError")=some true)
  (ga_NoPiece:PySem.W.findIn K (.ref xa_NoPiece) "__getattribute__" = some (some (.builtin "BaseException.__getattribute__")))
  (gt_NoPiece:PySem.W.findIn K (.ref xa_NoPiece) "__getattr__" = some none)
  (cl_NoPiece:PySem.W.findIn K (.ref xa_NoPiece) "__class__" = some (some (.builtin "object.__class__")))
  (be_NoPiece:PySem.W.subIn K (.ref xa_NoPiece) (.type "BaseException")=some true)
  (ob_NoPiece:PySem.W.subIn K (.ref xa_NoPiece) (.type "object")=some true)
  (is_NoPiece:PySem.W.isClsIn K xa_NoPiece=true)
  (fs_NoPiece:PySem.W.subIn K (.ref xa_NoPiece) (.ref xa_PieceError)=some true)
  (fk_NoPiece_NoSource:PySem.W.kitOne K (.ref xa_NoPiece) (.ref xa_NoSource)=some false)
  (fk_NoPiece_NoBook:PySem.W.kitOne K (.ref xa_NoPiece) (.ref xa_NoBook)=some false)
  (fk_NoPiece_NoPiece:PySem.W.kitOne K (.ref xa_NoPiece) (.ref xa_NoPiece)=some true)
  (fk_NoPiece_NoLetters:PySem.W.kitOne K (.ref xa_NoPiece) (.ref xa_NoLetters)=some false)
  (fk_NoPiece_NoWord:PySem.W.kitOne K (.ref xa_NoPiece) (.ref xa_NoWord)=some false)
  (fk_NoPiece_NoSize:PySem.W.kitOne K (.ref xa_NoPiece) (.ref xa_NoSize)=some false)
  (fv_NoPiece:PySem.W.kitOne K (.ref xa_NoPiece) (.type "ValueError")=some true)
  (ga_NoLetters:PySem.W.findIn K (.ref xa_NoLetters) "__getattribute__" = some (some (.builtin "BaseException.__getattribute__")))
  (gt_NoLetters:PySem.W.findIn K (.ref xa_NoLetters) "__getattr__" = some none)
  (cl_NoLetters:PySem.W.findIn K (.ref xa_NoLetters) "__class__" = some (some (.builtin "object.__class__")))
  (be_NoLetters:PySem.W.subIn K (.ref xa_NoLetters) (.type "BaseException")=some true)
  (ob_NoLetters:PySem.W.subIn K (.ref xa_NoLetters) (.type "object")=some true)
  (is_NoLetters:PySem.W.isClsIn K xa_NoLetters=true)
  (fs_NoLetters:PySem.W.subIn K (.ref xa_NoLetters) (.ref xa_PieceError)=some true)
  (fk_NoLetters_NoSource:PySem.W.kitOne K (.ref xa_NoLetters) (.ref xa_NoSource)=some false)
  (fk_NoLetters_NoBook:PySem.W.kitOne K (.ref xa_NoLetters) (.ref xa_NoBook)=some false)
  (fk_NoLetters_NoPiece:PySem.W.kitOne K (.ref xa_NoLetters) (.ref xa_NoPiece)=some false)
  (fk_NoLetters_NoLetters:PySem.W.kitOne K (.ref xa_NoLetters) (.ref xa_NoLetters)=some true)
  (fk_NoLetters_NoWord:PySem.W.kitOne K (.ref xa_NoLetters) (.ref xa_NoWord)=some false)
  (fk_NoLetters_NoSize:PySem.W.kitOne K (.ref xa_NoLetters) (.ref xa_NoSize)=some false)
  (fv_NoLetters:PySem.W.kitOne K (.ref xa_NoLetters) (.type "ValueError")=some true)
  (ga_NoWord:PySem.W.findIn K (.ref xa_NoWord) "__getattribute__" = some (some (.builtin "BaseException.__getattribute__")))
  (gt_NoWord:PySem.W.findIn K (.ref xa_NoWord) "__getattr__" = some none)
  (cl_NoWord:PySem.W.findIn K (.ref xa_NoWord) "__class__" = some (some (.builtin "object.__class__")))
  (be_NoWord:PySem.W.subIn K (.ref xa_NoWord) (.type "BaseException")=some true)
  (ob_NoWord:PySem.W.subIn K (.ref xa_NoWord) (.type "object")=some true)
  (is_NoWord:PySem.W.isClsIn K xa_NoWord=true)
  (fs_NoWord:PySem.W.subIn K (.ref xa_NoWord) (.ref xa_PieceError)=some true)
  (fk_NoWord_NoSource:PySem.W.kitOne K (.ref xa_NoWord) (.ref xa_NoSource)=some false)
  (fk_NoWord_NoBook:PySem.W.kitOne K (.ref xa_NoWord) (.ref xa_NoBook)=some false)
  (fk_NoWord_NoPiece:PySem.W.kitOne K (.ref xa_NoWord) (.ref xa_NoPiece)=some false)
  (fk_NoWord_NoLetters:PySem.W.kitOne K (.ref xa_NoWord) (.ref xa_NoLetters)=some false)
  (fk_NoWord_NoWord:PySem.W.kitOne K (.ref xa_NoWord) (.ref xa_NoWord)=some true)
  (fk_NoWord_NoSize:PySem.W.kitOne K (.ref xa_NoWord) (.ref xa_NoSize)=some false)
  (fv_NoWord:PySem.W.kitOne K (.ref xa_NoWord) (.type "ValueError")=some true) :
  ∃fd:FuncData,(∀(s:Shared) (v:Value),BindsTo s fd ⟨[v],[]⟩ [("_law_script", v)])∧∀base:Heap,K.In base→base.Ns mainGlobals mg→FnOk l.prog w K mg base CX0 10 fa fd ["_law_script"] (zcn K):=by
 have e:=hfa.symm.trans (PySem.W.mg_of X G a36)
 cases e
 have F0:=yp (st:=vg) l0 c0 k0
 have F1:=yp (st:=wL) l1 c1 k1
 have F2:=yp (st:=xX) l2 c2 k2
 have F3:=yp (st:=yZ) l3 c3 k3
 have F4:=yp (st:=wH) l4 c4 k4
 have F5:=yp (st:=wO) l5 c5 k5
 have F6:=yp (st:=wI) l6 c6 k6
 have F7:=yp (st:=vN) l7 c7 k7
 have F8:=yp (st:=wN) l8 c8 k8
 have F9:=yp (st:=zW) l9 c9 k9
 have F10:=yp (st:=wk) l10 c10 k10
 have F11:=yp (st:=wj) l11 c11 k11
 have F12:=yp (st:=wM) l12 c12 k12
 have F13:=yp (st:=uU) l13 c13 k13
 have F14:=yp (st:=vd) l14 c14 k14
 have F15:=yp (st:=vq) l15 c15 k15
 have F16:=yp (st:=yc) l16 c16 k16
 have F17:=yp (st:=wB) l17 c17 k17
 have F18:=yp (st:=uT) l18 c18 k18
 have F19:=yp (st:=xQ) l19 c19 k19
 have F20:=yp (st:=vL) l20 c20 k20
 have F21:=yp (st:=xG) l21 c21 k21
 have F22:=yp (st:=vM) l22 c22 k22
 have F23:=yp (st:=vf) l23 c23 k23
 have F24:=yp (st:=yD) l24 c24 k24
 have F25:=yp (st:=vh) l25 c25 k25
 have F26:=yp (st:=yW) l26 c26 k26
 have F27:=yp (st:=uR) l27 c27 k27
 have F28:=yp (st:=vO) l28 c28 k28
 have F29:=yp (st:=yC) l29 c29 k29
 have F30:=yp (st:=kj) l30 c30 k30
 have F31:=yp (st:=qx) l31 c31 k31
 have F32:=yp (st:=s_led) l32 c32 k32
 have F33:=yp (st:=zbq) l33 c33 k33
 have F34:=yp (st:=xP) l34 c34 k34
 have F35:=yp (st:=vm) l35 c35 k35
 have F36:=yp (st:=za1) l36 c36 k36
 have b0:=F0.binds (ps:=["_law_script", "_law_k"]) fun _ _ _ _ _ _ us hl=>by obtain ⟨_,_,rfl⟩:=zbx hl; rfl
 have b1:=F1.binds (ps:=["_law_script", "_law_k", "_law_many"]) fun _ _ _ _ _ _ us hl=>by obtain ⟨_,_,_,rfl⟩:=len3 hl; rfl
 have b2:=F2.binds (ps:=["_law_script", "_law_at", "_law_many", "_law_turns"]) fun _ _ _ _ _ _ us hl=>by obtain ⟨_,_,_,_,rfl⟩:=len4 hl; rfl
 have b3:=F3.binds (ps:=["_law_long"]) fun _ _ _ _ _ _ us hl=>by obtain ⟨_,rfl⟩:=len1 hl; rfl
 have b4:=F4.binds (ps:=["_law_script", "_law_at", "_law_many", "_law_long"]) fun _ _ _ _ _ _ us hl=>by obtain ⟨_,_,_,_,rfl⟩:=len4 hl; rfl
 have b5:=F5.binds (ps:=["_law_book_here", "_law_text_here"]) fun _ _ _ _ _ _ us hl=>by obtain ⟨_,_,rfl⟩:=zbx hl; rfl
 have b6:=F6.binds (ps:=["texts"]) fun _ _ _ _ _ _ us hl=>by obtain ⟨_,rfl⟩:=len1 hl; rfl
 have b7:=F7.binds (ps:=["thing"]) fun _ _ _ _ _ _ us hl=>by obtain ⟨_,rfl⟩:=len1 hl; rfl
 have b8:=F8.binds (ps:=["thing", "least", "most"]) fun _ _ _ _ _ _ us hl=>by obtain ⟨_,_,_,rfl⟩:=len3 hl; rfl
 have b9:=F9.binds (ps:=["thing"]) fun _ _ _ _ _ _ us hl=>by obtain ⟨_,rfl⟩:=len1 hl; rfl
 have b10:=F10.binds (ps:=["many", "thing"]) fun _ _ _ _ _ _ us hl=>by obtain ⟨_,_,rfl⟩:=zbx hl; rfl
 have b11:=F11.binds (ps:=["many", "thing"]) fun _ _ _ _ _ _ us hl=>by obtain ⟨_,_,rfl⟩:=zbx hl; rfl
 have b12:=F12.binds (ps:=["pieces"]) fun _ _ _ _ _ _ us hl=>by obtain ⟨_,rfl⟩:=len1 hl; rfl
 have b13:=F13.binds (ps:=["many", "texts"]) fun _ _ _ _ _ _ us hl=>by obtain ⟨_,_,rfl⟩:=zbx hl; rfl
 have b14:=F14.binds (ps:=["pieces", "text"]) fun _ _ _ _ _ _ us hl=>by obtain ⟨_,_,rfl⟩:=zbx hl; rfl
 have b15:=F15.binds (ps:=["pieces", "text"]) fun _ _ _ _ _ _ us hl=>by obtain ⟨_,_,rfl⟩:=zbx hl; rfl
 have b16:=F16.binds (ps:=["many", "pieces"]) fun _ _ _ _ _ _ us hl=>by obtain ⟨_,_,rfl⟩:=zbx hl; rfl
 have b17:=F17.binds (ps:=["many", "pieces"]) fun _ _ _ _ _ _ us hl=>by obtain ⟨_,_,rfl⟩:=zbx hl; rfl
 have b18:=F18.binds (ps:=["many", "thing"]) fun _ _ _ _ _ _ us hl=>by obtain ⟨_,_,rfl⟩:=zbx hl; rfl
 have b19:=F19.binds (ps:=["many", "thing"]) fun _ _ _ _ _ _ us hl=>by obtain ⟨_,_,rfl⟩:=zbx hl; rfl
 have b20:=F20.binds (ps:=["size"]) fun _ _ _ _ _ _ us hl=>by obtain ⟨_,rfl⟩:=len1 hl; rfl
 have b21:=F21.binds (ps:=["book", "signs"]) fun _ _ _ _ _ _ us hl=>by obtain ⟨_,_,rfl⟩:=zbx hl; rfl
 have b22:=F22.binds (ps:=["number", "bits"]) fun _ _ _ _ _ _ us hl=>by obtain ⟨_,_,rfl⟩:=zbx hl; rfl
 have b23:=F23.binds (ps:=["book"]) fun _ _ _ _ _ _ us hl=>by obtain ⟨_,rfl⟩:=len1 hl; rfl
 have b24:=F24.binds (ps:=["book", "words"]) fun _ _ _ _ _ _ us hl=>by obtain ⟨_,_,rfl⟩:=zbx hl; rfl
 have b25:=F25.binds (ps:=["many", "book", "signs", "number"]) fun _ _ _ _ _ _ us hl=>by obtain ⟨_,_,_,_,rfl⟩:=len4 hl; rfl
 have b26:=F26.binds (ps:=["book", "thing"]) fun _ _ _ _ _ _ us hl=>by obtain ⟨_,_,rfl⟩:=zbx hl; rfl
 have b27:=F27.binds (ps:=["many", "book", "piece"]) fun _ _ _ _ _ _ us hl=>by obtain ⟨_,_,_,rfl⟩:=len3 hl; rfl
 have b28:=F28.binds (ps:=["many", "book", "word"]) fun _ _ _ _ _ _ us hl=>by obtain ⟨_,_,_,rfl⟩:=len3 hl; rfl
 have b29:=F29.binds (ps:=["many", "thing"]) fun _ _ _ _ _ _ us hl=>by obtain ⟨_,_,rfl⟩:=zbx hl; rfl
 have b30:=F30.binds (ps:=["book", "text"]) fun _ _ _ _ _ _ us hl=>by obtain ⟨_,_,rfl⟩:=zbx hl; rfl
 have b31:=F31.binds (ps:=["book", "text"]) fun _ _ _ _ _ _ us hl=>by obtain ⟨_,_,rfl⟩:=zbx hl; rfl
 have b32:=F32.binds (ps:=["many", "book", "text"]) fun _ _ _ _ _ _ us hl=>by obtain ⟨_,_,_,rfl⟩:=len3 hl; rfl
 have b33:=F33.binds (ps:=["many", "book", "signs"]) fun _ _ _ _ _ _ us hl=>by obtain ⟨_,_,_,rfl⟩:=len3 hl; rfl
 have b34:=F34.binds (ps:=["_law_e"]) fun _ _ _ _ _ _ us hl=>by obtain ⟨_,rfl⟩:=len1 hl; rfl
 have b35:=F35.binds (ps:=["_law_way", "_law_many", "_law_book_here", "_law_thing", "_law_number"]) fun _ _ _ _ _ _ us hl=>by obtain ⟨_,_,_,_,_,rfl⟩:=len5 hl; rfl
 have b36:=F36.binds (ps:=["_law_script"]) fun _ _ _ _ _ _ us hl=>by obtain ⟨_,rfl⟩:=len1 hl; rfl
 let t:Txt K mg:=⟨⟨_,_,F0,PySem.W.mg_of X G a0,b0⟩,⟨_,_,F1,PySem.W.mg_of X G a1,b1⟩,⟨_,_,F2,PySem.W.mg_of X G a2,b2⟩,⟨_,_,F3,PySem.W.mg_of X G a3,b3⟩,⟨_,_,F4,PySem.W.mg_of X G a4,b4⟩,⟨_,_,F5,PySem.W.mg_of X G a5,b5⟩,⟨_,_,F6,PySem.W.mg_of X G a6,b6⟩,⟨_,_,F7,PySem.W.mg_of X G a7,b7⟩,⟨_,_,F8,PySem.W.mg_of X G a8,b8⟩,⟨_,_,F9,PySem.W.mg_of X G a9,b9⟩,⟨_,_,F10,PySem.W.mg_of X G a10,b10⟩,⟨_,_,F11,PySem.W.mg_of X G a11,b11⟩,⟨_,_,F12,PySem.W.mg_of X G a12,b12⟩,⟨_,_,F13,PySem.W.mg_of X G a13,b13⟩,⟨_,_,F14,PySem.W.mg_of X G a14,b14⟩,⟨_,_,F15,PySem.W.mg_of X G a15,b15⟩,⟨_,_,F16,PySem.W.mg_of X G a16,b16⟩,⟨_,_,F17,PySem.W.mg_of X G a17,b17⟩,⟨_,_,F18,PySem.W.mg_of X G a18,b18⟩,⟨_,_,F19,PySem.W.mg_of X G a19,b19⟩,⟨_,_,F20,PySem.W.mg_of X G a20,b20⟩,⟨_,_,F21,PySem.W.mg_of X G a21,b21⟩,⟨_,_,F22,PySem.W.mg_of X G a22,b22⟩,⟨_,_,F23,PySem.W.mg_of X G a23,b23⟩,⟨_,_,F24,PySem.W.mg_of X G a24,b24⟩,⟨_,_,F25,PySem.W.mg_of X G a25,b25⟩,⟨_,_,F26,PySem.W.mg_of X G a26,b26⟩,⟨_,_,F27,PySem.W.mg_of X G a27,b27⟩,⟨_,_,F28,PySem.W.mg_of X G a28,b28⟩,⟨_,_,F29,PySem.W.mg_of X G a29,b29⟩,⟨_,_,F30,PySem.W.mg_of X G a30,b30⟩,⟨_,_,F31,PySem.W.mg_of X G a31,b31⟩,⟨_,_,F32,PySem.W.mg_of X G a32,b32⟩,⟨_,_,F33,PySem.W.mg_of X G a33,b33⟩,⟨_,_,F34,PySem.W.mg_of X G a34,b34⟩,⟨_,_,F35,PySem.W.mg_of X G a35,b35⟩,⟨_,_,F36,PySem.W.mg_of X G a36,b36⟩,vFEWEST_LETTERS,PySem.W.mg_of X G wFEWEST_LETTERS,rFEWEST_LETTERS,vLETTERS,PySem.W.mg_of X G wLETTERS,rLETTERS,vMOST_PIECES,PySem.W.mg_of X G wMOST_PIECES,rMOST_PIECES,PySem.W.mg_none_of X G zValueError,PySem.W.mg_none_of X G zall,PySem.W.mg_none_of X G zany,PySem.W.mg_none_of X G zbool,PySem.W.mg_none_of X G zdict,PySem.W.mg_none_of X G zenumerate,PySem.W.mg_none_of X G zint,PySem.W.mg_none_of X G zisinstance,PySem.W.mg_none_of X G zlen,PySem.W.mg_none_of X G zlist,PySem.W.mg_none_of X G zmax,PySem.W.mg_none_of X G zrange,PySem.W.mg_none_of X G zsorted,PySem.W.mg_none_of X G zstr,PySem.W.mg_none_of X G ztuple,PySem.W.mg_none_of X G zzip,⟨xa_NoBook,PySem.W.mg_of X G y_NoBook,q_NoBook⟩,⟨xa_NoLetters,PySem.W.mg_of X G y_NoLetters,q_NoLetters⟩,⟨xa_NoPiece,PySem.W.mg_of X G y_NoPiece,q_NoPiece⟩,⟨xa_NoSize,PySem.W.mg_of X G y_NoSize,q_NoSize⟩,⟨xa_NoSource,PySem.W.mg_of X G y_NoSource,q_NoSource⟩,⟨xa_NoWord,PySem.W.mg_of X G y_NoWord,q_NoWord⟩,⟨xa_PieceError,PySem.W.mg_of X G y_PieceError,q_PieceError⟩,⟨ga_NoBook,gt_NoBook,cl_NoBook,be_NoBook,ob_NoBook,is_NoBook⟩,fs_NoBook,fk_NoBook_NoSource,fk_NoBook_NoBook,fk_NoBook_NoPiece,fk_NoBook_NoLetters,fk_NoBook_NoWord,fk_NoBook_NoSize,fv_NoBook,⟨ga_NoPiece,gt_NoPiece,cl_NoPiece,be_NoPiece,ob_NoPiece,is_NoPiece⟩,fs_NoPiece,fk_NoPiece_NoSource,fk_NoPiece_NoBook,fk_NoPiece_NoPiece,fk_NoPiece_NoLetters,fk_NoPiece_NoWord,fk_NoPiece_NoSize,fv_NoPiece,⟨ga_NoLetters,gt_NoLetters,cl_NoLetters,be_NoLetters,ob_NoLetters,is_NoLetters⟩,fs_NoLetters,fk_NoLetters_NoSource,fk_NoLetters_NoBook,fk_NoLetters_NoPiece,fk_NoLetters_NoLetters,fk_NoLetters_NoWord,fk_NoLetters_NoSize,fv_NoLetters,⟨ga_NoWord,gt_NoWord,cl_NoWord,be_NoWord,ob_NoWord,is_NoWord⟩,fs_NoWord,fk_NoWord_NoSource,fk_NoWord_NoBook,fk_NoWord_NoPiece,fk_NoWord_NoLetters,fk_NoWord_NoWord,fk_NoWord_NoSize,fv_NoWord⟩
 exact ⟨_,fun s v=>.of_eq rfl,fun base _ _=>law_ok (ok_law t) law_true⟩
theorem walk {l:PySem.W.OpenLaw}{q:Program}{loose:List Str}{XP:(Str→Option Value)→Heap→Prop}{YP:World→Heap→Prop}{d:DefRec}{K:Params→PySem.W.Frag}(hn:l.most=some 63)(hdf:d.params.defaults=[])
  (hY:∀(w:World) (h:Heap),YP w h→(K w.params).In h)
  (F:∀(w:World) (mg:Str→Option Value) (fa:Addr) (h:Heap),(K w.params).In h→h.Ns mainGlobals mg→mg d.name=some (.ref fa) →
   ∃fd:FuncData,(∀(s:Shared) (u:Value),BindsTo s fd ⟨[u],[]⟩ [("_law_script", u)])∧∀base:Heap,(K w.params).In base→base.Ns mainGlobals mg→FnOk l.prog w (K w.params) mg base CX0 10 fa fd ["_law_script"] (zcn (K w.params))) :
  PySem.W.WalkO q loose XP YP l.row.toRowW d [] (fun f vs=>PySem.call f vs) :=
 L2.walk_of (n:=63) (k:=10) (x := "_law_script") (CX:=fun _=>CX0) (sp:=fun w=>zcn (K w.params)) hn (by decide) hdf ⟨rfl,by decide,by decide⟩ hY F (fun _ _ a ns hl _ hS=>⟨a,ns,rfl,hS,hl,fun _=>rfl⟩) fun _ _ _ _ _ z=>z
end K40
theorem PySem.W.Fast.tw10204624589840910140 : True := trivial
theorem PySem.W.Fast.tw10316959000604962843 : True := trivial
theorem PySem.W.Fast.tw17254959456501851866 : True := trivial
theorem PySem.W.Fast.tw10316578567584744776 : True := trivial
theorem PySem.W.Fast.tw7721423456796435510 : True := trivial
theorem PySem.W.Fast.tw138401817208085825 : True := trivial
theorem PySem.W.Fast.tw16919275998463781028 : True := trivial
theorem PySem.W.Fast.tw14112965927271786111 : True := trivial
theorem PySem.W.Fast.tw17447677966278082366 : True := trivial
theorem PySem.W.Fast.tw9785175464444496865 : True := trivial
theorem PySem.W.Fast.tw9794532405517493481 : True := trivial
theorem PySem.W.Fast.tw13869249843815013539 : True := trivial
theorem PySem.W.Fast.tw11212918794504026498 : True := trivial
theorem PySem.W.Fast.tw16913217134406548175 : True := trivial
theorem PySem.W.Fast.tw14004621474110836493 : True := trivial
theorem PySem.W.Fast.tw10569823126177930449 : True := trivial
open PySem PySem.W PyProof.Rows
set_option maxRecDepth 100000 in
set_option maxHeartbeats 0 in
theorem PySem.Challenge.cw_piecebooks_k40_words_holds : PySem.Challenge.rw_piecebooks_k40_words.Holds := by
 w_on; o_law; k_head; (case hw=>w_witness2)
 k_fill
 refine K40.walk (l:=PySem.Challenge.rw_piecebooks_k40_words) rfl rfl (fun w h Y=>PySem.W.kIn_of Y) ?F
 case F =>
  intro w mg fa h KX G hmg
  refine' K40.all_mk KX G hmg ?a0 ?l0 ?c0 ?k0 ?a1 ?l1 ?c1 ?k1 ?a2 ?l2 ?c2 ?k2 ?a3 ?l3 ?c3 ?k3 ?a4 ?l4 ?c4 ?k4 ?a5 ?l5 ?c5 ?k5 ?a6 ?l6 ?c6 ?k6 ?a7 ?l7 ?c7 ?k7 ?a8 ?l8 ?c8 ?k8 ?a9 ?l9 ?c9 ?k9 ?a10 ?l10 ?c10 ?k10 ?a11 ?l11 ?c11 ?k11 ?a12 ?l12 ?c12 ?k12 ?a13 ?l13 ?c13 ?k13 ?a14 ?l14 ?c14 ?k14 ?a15 ?l15 ?c15 ?k15 ?a16 ?l16 ?c16 ?k16 ?a17 ?l17 ?c17 ?k17 ?a18 ?l18 ?c18 ?k18 ?a19 ?l19 ?c19 ?k19 ?a20 ?l20 ?c20 ?k20 ?a21 ?l21 ?c21 ?k21 ?a22 ?l22 ?c22 ?k22 ?a23 ?l23 ?c23 ?k23 ?a24 ?l24 ?c24 ?k24 ?a25 ?l25 ?c25 ?k25 ?a26 ?l26 ?c26 ?k26 ?a27 ?l27 ?c27 ?k27 ?a28 ?l28 ?c28 ?k28 ?a29 ?l29 ?c29 ?k29 ?a30 ?l30 ?c30 ?k30 ?a31 ?l31 ?c31 ?k31 ?a32 ?l32 ?c32 ?k32 ?a33 ?l33 ?c33 ?k33 ?a34 ?l34 ?c34 ?k34 ?a35 ?l35 ?c35 ?k35 ?a36 ?l36 ?c36 ?k36 ?wFEWEST_LETTERS ?rFEWEST_LETTERS ?wLETTERS ?rLETTERS ?wMOST_PIECES ?rMOST_PIECES ?zValueError ?zall ?zany ?zbool ?zdict ?zenumerate ?zint ?zisinstance ?zlen ?zlist ?zmax ?zrange ?zsorted ?zstr ?ztuple ?zzip ?y_NoBook ?q_NoBook ?y_NoLetters ?q_NoLetters ?y_NoPiece ?q_NoPiece ?y_NoSize ?q_NoSize ?y_NoSource ?q_NoSource ?y_NoWord ?q_NoWord ?y_PieceError ?q_PieceError ?ga_NoBook ?gt_NoBook ?cl_NoBook ?be_NoBook ?ob_NoBook ?is_NoBook ?fs_NoBook ?fk_NoBook_NoSource ?fk_NoBook_NoBook ?fk_NoBook_NoPiece ?fk_NoBook_NoLetters ?fk_NoBook_NoWord ?fk_NoBook_NoSize ?fv_NoBook ?ga_NoPiece ?gt_NoPiece ?cl_NoPiece ?be_NoPiece ?ob_NoPiece ?is_NoPiece ?fs_NoPiece ?fk_NoPiece_NoSource ?fk_NoPiece_NoBook ?fk_NoPiece_NoPiece ?fk_NoPiece_NoLetters ?fk_NoPiece_NoWord ?fk_NoPiece_NoSize ?fv_NoPiece ?ga_NoLetters ?gt_NoLetters ?cl_NoLetters ?be_NoLetters ?ob_NoLetters ?is_NoLetters ?fs_NoLetters ?fk_NoLetters_NoSource ?fk_NoLetters_NoBook ?fk_NoLetters_NoPiece ?fk_NoLetters_NoLetters ?fk_NoLetters_NoWord ?fk_NoLetters_NoSize ?fv_NoLetters ?ga_NoWord ?gt_NoWord ?cl_NoWord ?be_NoWord ?ob_NoWord ?is_NoWord ?fs_NoWord ?fk_NoWord_NoSource ?fk_NoWord_NoBook ?fk_NoWord_NoPiece ?fk_NoWord_NoLetters ?fk_NoWord_NoWord ?fk_NoWord_NoSize ?fv_NoWord
  (case a0=>k_is)
  (case l0=>k_is)
  (case c0=>k_is)
  (case k0=>k_is)
  (case a1=>k_is)
  (case l1=>k_is)
  (case c1=>k_is)
  (case k1=>k_is)
  (case a2=>k_is)
  (case l2=>k_is)
  (case c2=>k_is)
  (case k2=>k_is)
  (case a3=>k_is)
  (case l3=>k_is)
  (case c3=>k_is)
  (case k3=>k_is)
  (case a4=>k_is)
  (case l4=>k_is)
  (case c4=>k_is)
  (case k4=>k_is)
  (case a5=>k_is)
  (case l5=>k_is)
  (case c5=>k_is)
  (case k5=>k_is)
  (case a6=>k_is)
  (case l6=>k_is)
  (case c6=>k_is)
  (case k6=>k_is)
  (case a7=>k_is)
  (case l7=>k_is)
  (case c7=>k_is)
  (case k7=>k_is)
  (case a8=>k_is)
  (case l8=>k_is)
  (case c8=>k_is)
  (case k8=>k_is)
  (case a9=>k_is)
  (case l9=>k_is)
  (case c9=>k_is)
  (case k9=>k_is)
  (case a10=>k_is)
  (case l10=>k_is)
  (case c10=>k_is)
  (case k10=>k_is)
  (case a11=>k_is)
  (case l11=>k_is)
  (case c11=>k_is)
  (case k11=>k_is)
  (case a12=>k_is)
  (case l12=>k_is)
  (case c12=>k_is)
  (case k12=>k_is)
  (case a13=>k_is)
  (case l13=>k_is)
  (case c13=>k_is)
  (case k13=>k_is)
  (case a14=>k_is)
  (case l14=>k_is)
  (case c14=>k_is)
  (case k14=>k_is)
  (case a15=>k_is)
  (case l15=>k_is)
  (case c15=>k_is)
  (case k15=>k_is)
  (case a16=>k_is)
  (case l16=>k_is)
  (case c16=>k_is)
  (case k16=>k_is)
  (case a17=>k_is)
  (case l17=>k_is)
  (case c17=>k_is)
  (case k17=>k_is)
  (case a18=>k_is)
  (case l18=>k_is)
  (case c18=>k_is)
  (case k18=>k_is)
  (case a19=>k_is)
  (case l19=>k_is)
  (case c19=>k_is)
  (case k19=>k_is)
  (case a20=>k_is)
  (case l20=>k_is)
  (case c20=>k_is)
  (case k20=>k_is)
  (case a21=>k_is)
  (case l21=>k_is)
  (case c21=>k_is)
  (case k21=>k_is)
  (case a22=>k_is)
  (case l22=>k_is)
  (case c22=>k_is)
  (case k22=>k_is)
  (case a23=>k_is)
  (case l23=>k_is)
  (case c23=>k_is)
  (case k23=>k_is)
  (case a24=>k_is)
  (case l24=>k_is)
  (case c24=>k_is)
  (case k24=>k_is)
  (case a25=>k_is)
  (case l25=>k_is)
  (case c25=>k_is)
  (case k25=>k_is)
  (case a26=>k_is)
  (case l26=>k_is)
  (case c26=>k_is)
  (case k26=>k_is)
  (case a27=>k_is)
  (case l27=>k_is)
  (case c27=>k_is)
  (case k27=>k_is)
  (case a28=>k_is)
  (case l28=>k_is)
  (case c28=>k_is)
  (case k28=>k_is)
  (case a29=>k_is)
  (case l29=>k_is)
  (case c29=>k_is)
  (case k29=>k_is)
  (case a30=>k_is)
  (case l30=>k_is)
  (case c30=>k_is)
  (case k30=>k_is)
  (case a31=>k_is)
  (case l31=>k_is)
  (case c31=>k_is)
  (case k31=>k_is)
  (case a32=>k_is)
  (case l32=>k_is)
  (case c32=>k_is)
  (case k32=>k_is)
  (case a33=>k_is)
  (case l33=>k_is)
  (case c33=>k_is)
  (case k33=>k_is)
  (case a34=>k_is)
  (case l34=>k_is)
  (case c34=>k_is)
  (case k34=>k_is)
  (case a35=>k_is)
  (case l35=>k_is)
  (case c35=>k_is)
  (case k35=>k_is)
  (case a36=>k_is)
  (case l36=>k_is)
  (case c36=>k_is)
  (case k36=>k_is)
  (case wFEWEST_LETTERS=>k_is)
  (case rFEWEST_LETTERS=>exact ⟨_,rfl⟩)
  (case wLETTERS=>k_is)
  (case rLETTERS=>exact ⟨_,rfl⟩)
  (case wMOST_PIECES=>k_is)
  (case rMOST_PIECES=>exact ⟨_,rfl⟩)
  (case zValueError=>k_is)
  (case zall=>k_is)
  (case zany=>k_is)
  (case zbool=>k_is)
  (case zdict=>k_is)
  (case zenumerate=>k_is)
  (case zint=>k_is)
  (case zisinstance=>k_is)
  (case zlen=>k_is)
  (case zlist=>k_is)
  (case zmax=>k_is)
  (case zrange=>k_is)
  (case zsorted=>k_is)
  (case zstr=>k_is)
  (case ztuple=>k_is)
  (case zzip=>k_is)
  (case y_NoBook=>k_is)
  (case q_NoBook=>k_exc)
  (case y_NoLetters=>k_is)
  (case q_NoLetters=>k_exc)
  (case y_NoPiece=>k_is)
  (case q_NoPiece=>k_exc)
  (case y_NoSize=>k_is)
  (case q_NoSize=>k_exc)
  (case y_NoSource=>k_is)
  (case q_NoSource=>k_exc)
  (case y_NoWord=>k_is)
  (case q_NoWord=>k_exc)
  (case y_PieceError=>k_is)
  (case q_PieceError=>k_exc)
  (case ga_NoBook=>k_is)
  (case gt_NoBook=>k_is)
  (case cl_NoBook=>k_is)
  (case be_NoBook=>k_is)
  (case ob_NoBook=>k_is)
  (case is_NoBook=>k_is)
  (case fs_NoBook=>k_is)
  (case fk_NoBook_NoSource=>kit_is)
  (case fk_NoBook_NoBook=>kit_is)
  (case fk_NoBook_NoPiece=>kit_is)
  (case fk_NoBook_NoLetters=>kit_is)
  (case fk_NoBook_NoWord=>kit_is)
  (case fk_NoBook_NoSize=>kit_is)
  (case fv_NoBook=>kit_is)
  (case ga_NoPiece=>k_is)
  (case gt_NoPiece=>k_is)
  (case cl_NoPiece=>k_is)
  (case be_NoPiece=>k_is)
  (case ob_NoPiece=>k_is)
  (case is_NoPiece=>k_is)
  (case fs_NoPiece=>k_is)
  (case fk_NoPiece_NoSource=>kit_is)
  (case fk_NoPiece_NoBook=>kit_is)
  (case fk_NoPiece_NoPiece=>kit_is)
  (case fk_NoPiece_NoLetters=>kit_is)
  (case fk_NoPiece_NoWord=>kit_is)
  (case fk_NoPiece_NoSize=>kit_is)
  (case fv_NoPiece=>kit_is)
  (case ga_NoLetters=>k_is)
  (case gt_NoLetters=>k_is)
  (case cl_NoLetters=>k_is)
  (case be_NoLetters=>k_is)
  (case ob_NoLetters=>k_is)
  (case is_NoLetters=>k_is)
  (case fs_NoLetters=>k_is)
  (case fk_NoLetters_NoSource=>kit_is)
  (case fk_NoLetters_NoBook=>kit_is)
  (case fk_NoLetters_NoPiece=>kit_is)
  (case fk_NoLetters_NoLetters=>kit_is)
  (case fk_NoLetters_NoWord=>kit_is)
  (case fk_NoLetters_NoSize=>kit_is)
  (case fv_NoLetters=>kit_is)
  (case ga_NoWord=>k_is)
  (case gt_NoWord=>k_is)
  (case cl_NoWord=>k_is)
  (case be_NoWord=>k_is)
  (case ob_NoWord=>k_is)
  (case is_NoWord=>k_is)
  (case fs_NoWord=>k_is)
  (case fk_NoWord_NoSource=>kit_is)
  (case fk_NoWord_NoBook=>kit_is)
  (case fk_NoWord_NoPiece=>kit_is)
  (case fk_NoWord_NoLetters=>kit_is)
  (case fk_NoWord_NoWord=>kit_is)
  (case fk_NoWord_NoSize=>kit_is)
  (case fv_NoWord=>kit_is)
#print axioms PySem.Challenge.cw_piecebooks_k40_words_holds
