import PyProof.Rows.All
import Wide.All
import OpenK.AllK
import Wide.FinOn
import KE.KDictOf
import KE.KDictSum
import KE.KIntText
import KE.KItem
import KE.KLam
import KE.KMinKey
import KE.KRevIter
import OpenK.KOwn
import PyProof.AttrMissHeap
import PyProof.AutoSeq1
import PyProof.CodeObj
import PyProof.CollectWalk
import PyProof.ConsumeWalk
import PyProof.Conv_int_bool
import PyProof.DictIter
import PyProof.DictKinds
import PyProof.DictUpdate
import PyProof.Draws
import PyProof.EnumIter
import PyProof.EnumMake
import PyProof.EqAt
import PyProof.EqKinds
import PyProof.ExcArgsOwn
import PyProof.FactsAll.dict_1
import PyProof.FactsAll.set
import PyProof.FactsAll.set_2
import PyProof.ListMulRoad
import PyProof.ListNew
import PyProof.ListStr
import PyProof.NeData
import PyProof.P3In
import PyProof.Rows.DictSet
import PyProof.Rows.Range3
import PyProof.Rows.SetFrom
import PyProof.Rows.SortShell
import PyProof.Rows.SortStr
import PyProof.Rows.SortWalk
import PyProof.SeqI3
import PyProof.SetKind
import PyProof.StrLawsIn
import PyProof.StrOps2
import PyProof.StrWalks
import PyProof.TupleCall
import PyProof.TupleOps
import PyProof.Walks
import PyProof.WalksMore
import PyProof.WalksS
import PyProof.ZipIter
import Lean
import PySem.Challenge.RW_piecebooks_k35_whole_costs
set_option Elab.async false
set_option linter.all false
set_option maxRecDepth 100000
namespace L2
open PySem PySem.Spec PyProof.Rows
abbrev Key:=Sum Int Str
def keyIs:Key→Value→Bool
 | .inl k,v=>Value.isInt k v
 | .inr x,v=>Value.isStrOf x v
def keyH (w:World):Key→Int
 | .inl k=>hashInt k
 | .inr x=>hashStr w x
theorem keyIs_shape:∀{k:Key}{v:Value},keyIs k v=true→(∃i t,k=Sum.inl i∧v=Value.int i t)∨(∃x t,k=Sum.inr x∧v=Value.str x t)
 | .inl i,v,h=>by
  obtain⟨t,e⟩:=Value.isInt_shape (k:=i) (v:=v) h
  exact .inl ⟨i,t,rfl,e⟩
 | .inr x,v,h=>by
  obtain⟨t,e⟩:=Value.isStrOf_shape (x:=x) (v:=v) h
  exact .inr ⟨x,t,rfl,e⟩
theorem keyIs_int (i:Int)(t:Tok):keyIs (.inl i) (.int i t)=true:=by simp[keyIs,Value.isInt]
theorem keyIs_str (x:Str)(t:Tok):keyIs (.inr x) (.str x t)=true:=by simp[keyIs,Value.isStrOf]
theorem key_ll (a b:Int):decide ((Sum.inl a:Key)=Sum.inl b)=(a == b):=by
 by_cases e:a=b
 ·subst e;simp
 ·have h:¬(Sum.inl a:Key)=Sum.inl b:=fun q=>e (Sum.inl.inj q)
  rw[decide_eq_false h]
  exact(beq_eq_false_iff_ne.mpr e).symm
theorem key_rr (a b:Str):decide ((Sum.inr a:Key)=Sum.inr b)=decide (a=b):=by
 by_cases e:a=b
 ·subst e;simp
 ·have h:¬(Sum.inr a:Key)=Sum.inr b:=fun q=>e (Sum.inr.inj q)
  rw[decide_eq_false h,decide_eq_false e]
theorem key_lr (a:Int)(b:Str):decide ((Sum.inl a:Key)=Sum.inr b)=false:=decide_eq_false (fun q=>nomatch q)
theorem key_rl (a:Str)(b:Int):decide ((Sum.inr a:Key)=Sum.inl b)=false:=decide_eq_false (fun q=>nomatch q)
def mixKind (prog:Program)(w:World):PySem.KeyKind prog w Key where
 is:=keyIs
 hash:=keyH w
 inj:=fun v a b ha hb=>by
  rcases keyIs_shape ha with⟨i,t,rfl,rfl⟩|⟨x,t,rfl,rfl⟩
  ·rcases keyIs_shape hb with⟨j,u,rfl,e⟩|⟨y,u,rfl,e⟩
   ·injection e with e1 _;rw[e1]
   ·exact nomatch e
  ·rcases keyIs_shape hb with⟨j,u,rfl,e⟩|⟨y,u,rfl,e⟩
   ·exact nomatch e
   ·injection e with e1 _;rw[e1]
 byValue:=fun k v h=>by
  rcases keyIs_shape h with⟨i,t,rfl,rfl⟩|⟨x,t,rfl,rfl⟩ <;>rfl
 pyHash:=fun hv h=>by
  rcases keyIs_shape hv with⟨i,t,rfl,rfl⟩|⟨x,t,rfl,rfl⟩
  ·exact wpAny_pyHash_int h
  ·exact wpAny_pyHash_str h
 eqBool:=fun hu hv h=>by
  rcases keyIs_shape hu with⟨i,t,rfl,rfl⟩|⟨x,t,rfl,rfl⟩
  ·rcases keyIs_shape hv with⟨j,u,rfl,rfl⟩|⟨y,u,rfl,rfl⟩
   ·rw[key_ll] at h;exact wpAny_eqBool_int h
   ·rw[key_lr] at h;exact SeqAt.EqAt.int_str i t y u _ _ _ _ h
  ·rcases keyIs_shape hv with⟨j,u,rfl,rfl⟩|⟨y,u,rfl,rfl⟩
   ·rw[key_rl] at h;exact SeqAt.EqAt.str_int x t j u _ _ _ _ h
   ·rw[key_rr] at h;exact wpAny_eqBool_str h
 «strs»:=fun k x t v h=>by
  rcases keyIs_shape h with⟨i,u,rfl,e⟩|⟨y,u,rfl,e⟩
  ·exact nomatch e
  ·injection e with e1 _
   subst e1
   cases v <;>rfl
theorem mixKind_int (prog:Program)(w:World)(i:Int)(t:Tok):(mixKind prog w).is (.inl i) (.int i t)=true:=keyIs_int i t
theorem mixKind_str (prog:Program)(w:World)(x:Str)(t:Tok):(mixKind prog w).is (.inr x) (.str x t)=true:=keyIs_str x t
end L2
namespace L2
open PySem PySem.Spec PyProof.Rows
inductive V where
 | non|bl (b:Bool)|int (i:Int)|str (x:Str)|byt (b:Array UInt8)|flt (b:UInt64)|ref (a:Addr)|ty (n:String)
 deriving DecidableEq
def RelV:V→Value→Prop
 | .non,u=>u=Value.none
 | .bl b,u=>u=Value.bool b
 | .int i,u=>∃t,u=Value.int i t
 | .str x,u=>∃t,u=Value.str x t
 | .byt b,u=>∃t,u=Value.bytes b t
 | .flt b,u=>∃t,u=Value.float b t
 | .ref a,u=>u=Value.ref a
 | .ty n,u=>u=Value.type n
abbrev Vals:List V→List Value→Prop:=Paired RelV
theorem Vals.length {xs:List V}{us:List Value}(r:Vals xs us):xs.length=us.length:=Paired.length r
theorem Vals.get:∀{xs:List V}{us:List Value}{i:Nat}{x:V},Vals xs us→xs[i]? = some x→∃u,us[i]? = some u∧RelV x u
 | _,_,_,_,.nil,e=>by simp at e
 | _,_,0,_,.cons r _,e=>by simp at e;subst e;exact⟨_,rfl,r⟩
 | _,_,i+1,x,.cons _ t,e=>by
  obtain⟨u,h1,h2⟩:=Vals.get (i:=i) (x:=x) t (by simpa using e)
  exact⟨u,by simpa using h1,h2⟩
theorem Vals.set {x:V}{u:Value}(r:RelV x u):∀{xs:List V}{us:List Value} (i:Nat),Vals xs us→Vals (xs.set i x) (us.set i u)
 | _,_,_,.nil=>.nil
 | _,_,0,.cons _ t=>.cons r t
 | _,_,i+1,.cons q t=>.cons q (Vals.set r i t)
theorem Vals.append:∀{xs ys:List V}{us ws:List Value},Vals xs us→Vals ys ws→Vals (xs++ys) (us++ws):=by
 intro xs ys us ws h k
 induction h with
 | nil=>exact k
 | cons r t ih=>exact .cons r ih
theorem Vals.take:∀{xs:List V}{us:List Value} (n:Nat),Vals xs us→Vals (xs.take n) (us.take n)
 | _,_,0,_=>.nil
 | _,_,_+1,.nil=>.nil
 | _,_,n+1,.cons r t=>.cons r (Vals.take n t)
theorem Vals.drop:∀{xs:List V}{us:List Value} (n:Nat),Vals xs us→Vals (xs.drop n) (us.drop n)
 | _,_,0,r=>r
 | _,_,_+1,.nil=>.nil
 | _,_,n+1,.cons _ t=>Vals.drop n t
def RelO:Option V→Option Value→Prop
 | some v,some u=>RelV v u
 | none,none=>True
 | _,_=>False
def KV {κ:Type}:List (κ×V)→List (κ×Value)→Prop:=Paired fun(p:κ×V) (q:κ×Value)=>p.1=q.1∧RelV p.2 q.2
def kV:Key→V
 | .inl i=>.int i
 | .inr x=>.str x
inductive HO where
 /-- a list -/
 | lst (xs:List V)
 /-- a tuple (never changes) -/
 | tup (xs:List V)
 /-- a dict whose keys are ints and texts; one whose keys are tuples of ints and texts (the empty one is both) -/
 | dK (kvs:List (Key×V))|dT (kvs:List (List Key×V))|dR (kvs:List (List Key×Addr))|cod (q:Str)|lam (q:Str)
 /-- a set of ints: its members, its size -/
 | set (S:Int→Bool) (n:Nat)
 /-- an instance of the class at C, its dict at dx, its attributes -/
 | ins (C dx:Addr) (fs:List (Str×V))
 /-- the dict of the instance at x -/
 | own (x:Addr)
 /-- the dict of an exception -/
 | xd (fs:List (Str×V))
 /-- a bound method, f of x -/
 | met (f x:Addr)
 /-- a range object lo, lo + 1, .. below hi -/
 | rng (lo hi:Int)
 /-- a thing that is known to the object (the script; a dict while a loop walks it): read, never written while it is so -/
 | frz (o:Obj) (u:HO)
 /-- a code object's table -/
 | tbl (ps:Array Value)
 /-- any other thing, by what is true of its one object (a def of one's own: SetO a S n := HO.ext fun h => ..) -/
 | ext (φ:Heap→Prop)
abbrev Hp:=Addr→Option HO
def upd (H:Hp)(a:Addr)(o:HO):Hp:=fun b=>if b=a then some o else H b
theorem zR {H:Hp}{a:Addr}{o:HO}:upd H a o a=some o:=by unfold upd;rw[if_pos rfl]
theorem zN {H:Hp}{a b:Addr}{o:HO}(h:b≠a):upd H a o b=H b:=by unfold upd;rw[if_neg h]
theorem ne_of_none {H:Hp}{a b:Addr}{o:HO}(h:H a=some o)(h':H b=none):a≠b:=by
 intro e;subst e;rw[h] at h';cases h'
def TupD (h:Heap)(a:Addr)(items:Array Value):Prop:=∃o,h.get? a=some o∧o.cls=.type "tuple" ∧ (∃n,o.data=.seq items n)∧o.dict=none
theorem TupD.tup {h:Heap}{a:Addr}{items:Array Value}(x:TupD h a items):IsTup h a items:=let ⟨o,e,c,d,_⟩:=x;⟨o,e,c,d⟩
theorem TupD.new (h:Heap)(items:Array Value):TupD (h.push {cls:=.type "tuple", data:=.seq items}) h.objs.size items:=⟨_,Heap.get?_push_size _ rfl,rfl,⟨_,rfl⟩,rfl⟩
section
variable (P:Program)(w:World)
def ObjOk (H:Hp)(h:Heap)(a:Addr):HO→Prop
 | .lst xs=>xs.length≤sizeLine∧∃(its:List Value) (n:Nat),Vals xs its∧h.get? a=some {cls:=.type "list", data:=.seq its.toArray n}
 | .tup xs=>xs.length≤sizeLine∧∃its:List Value,Vals xs its∧TupD h a its.toArray
 | .dK kvs=>kvs.length≤sizeLine∧(a == sysModules)=false∧∃vs,KV kvs vs∧h.DictOf (mixKind P w) a vs
 | .dT kvs=>kvs.length≤sizeLine∧(a == sysModules)=false∧∃xs:List (List Key×Addr×Value),
   Paired (fun(p:List Key×V) (q:List Key×Addr×Value)=>p.1=q.1∧H q.2.1=some (.tup (p.1.map kV))∧RelV p.2 q.2.2) kvs xs ∧
   ∃o es ep,h.get? a=some o∧o.ExactDict∧o.data=.dict es ep∧es.toList=xs.map (entryOfKey (tupleKind (mixKind P w)))∧(xs.map (·.1)).Nodup
 | .dR kvs=>kvs.length≤sizeLine∧(a == sysModules)=false∧∃o es ep,h.get? a=some o∧o.ExactDict∧o.data=.dict es ep∧es.toList=kvs.map (fun q=>entryOfKey (tupleKind (mixKind P w)) (q.1,q.2,Value.bool true))∧(kvs.map (·.1)).Nodup
 | .cod q=>h.CodeRec (.ref a) q
 | .lam q=>∃qs:Array Value,h.get? a=some {cls:=.none,data:=.fields qs}∧TriplesOk qs.toList∧∀pos cv,codeAmong pos qs.toList=some cv→∃c,cv=.ref c∧H c=some (.cod q)
 | .set S n=>h.SetOf (intKind P w) a S n
 | .ins C dx fs=>H dx=some (.own a)∧fs.length≤1000∧dx≠a∧h.get? a=some (PySem.W.instObj C dx) ∧
   ∃mA,h.Ns1 dx mA∧(∀f,RelO (fs.lookup f) (mA f))∧PySem.Within mA (fs.map (·.1))
 | .own _=>∃o,h.get? a=some o
 | .xd fs=>∃mA,h.Ns1 a mA∧∀f,RelO (fs.lookup f) (mA f)
 | .rng lo hi=>∃t u v,h.get? a=some {cls:=.type "range", data:=.fields #[.int lo t,.int hi u,.int 1 v]}
 | .frz o u=>h.get? a=some o∧ObjOk H h a u
 | .tbl ps=>h.get? a=some {cls:=.none,data:=.fields ps}
 | .met f x=>h.get? a=some (PySem.W.methodObj (.ref f) (.ref x))
 | .ext φ=>φ h∧(∃o,h.get? a=some o)∧∀h1 h2:Heap,φ h1→(∀o,h1.get? a=some o→h2.get? a=some o)→φ h2
def HOk (H:Hp)(h:Heap):Prop:=∀a o,H a=some o→ObjOk P w H h a o
end
section
variable {P:Program}{w:World}{H H':Hp}{h h':Heap}{a:Addr}{o:HO}
theorem ObjOk.lt (x:ObjOk P w H h a o):a<h.objs.size:=by
 cases o with
 | lst xs=>obtain⟨_,_,_,_,e⟩:=x;exact Heap.lt_size e
 | tup xs=>obtain⟨_,_,_,p⟩:=x;exact p.tup.lt
 | dK kvs=>obtain⟨_,_,_,_,o,_,_,e,_⟩:=x;exact Heap.lt_size e
 | dT kvs=>obtain⟨_,_,_,_,o,_,_,e,_⟩:=x;exact Heap.lt_size e
 | dR kvs=>obtain⟨_,_,o,_,_,e,_⟩:=x;exact Heap.lt_size e
 | cod q=>obtain⟨_,_,_,_,z,e,_⟩:=x;cases z;exact Heap.lt_size e
 | lam q=>obtain⟨_,e,_⟩:=x;exact Heap.lt_size e
 | set S n=>obtain⟨o,_,_,_,e,_⟩:=x;exact Heap.lt_size e
 | ins C dx fs=>obtain⟨_,_,_,e,_⟩:=x;exact Heap.lt_size e
 | own y=>obtain⟨_,e⟩:=x;exact Heap.lt_size e
 | xd fs=>obtain⟨_,⟨_,_,_,e,_⟩,_⟩:=x;exact Heap.lt_size e
 | rng lo hi=>obtain⟨_,_,_,e⟩:=x;exact Heap.lt_size e
 | frz ob u=>obtain⟨e,_⟩:=x;exact Heap.lt_size e
 | tbl ps=>exact Heap.lt_size (show h.get? a=some _ from x)
 | met f y=>exact Heap.lt_size (show h.get? a=some _ from x)
 | ext φ=>obtain⟨_,⟨_,e⟩,_⟩:=x;exact Heap.lt_size e
theorem Paired.mapP {α β:Type}{F G:α→β→Prop}:∀{l₁:List α}{l₂:List β},Paired F l₁ l₂→(∀a b,F a b→G a b)→Paired G l₁ l₂
 | _,_,.nil,_=>.nil
 | _,_,.cons r t,f=>.cons (f _ _ r) (Paired.mapP t f)
def HO.st:List V ⊕ (Str ⊕ Str)→HO
 | .inl xs=>.tup xs
 | .inr (.inl q)=>.cod q
 | .inr (.inr q)=>.lam q
theorem ObjOk.stay (x:ObjOk P w H h a o)(k:∀b u,(b=a∨H b=some (.own a))→h.get? b=some u→h'.get? b=some u)
  (ho:∀b,H b=some (.own a)→H' b=some (.own a)) (ht:∀b xs,H b=some (HO.st xs)→H' b=some (HO.st xs)):ObjOk P w H' h' a o:=by
 induction o with
 | lst xs=>obtain⟨z,its,n,r,e⟩:=x;exact⟨z,its,n,r,k _ _ (.inl rfl) e⟩
 | tup xs=>obtain⟨z,its,r,ob,e,c⟩:=x;exact⟨z,its,r,ob,k _ _ (.inl rfl) e,c⟩
 | dK kvs=>obtain⟨z,y,vs,r,ob,es,ep,e,c⟩:=x;exact⟨z,y,vs,r,ob,es,ep,k _ _ (.inl rfl) e,c⟩
 | dT kvs =>
  obtain⟨z,y,xs,r,ob,es,ep,e,c⟩:=x
  exact⟨z,y,xs,Paired.mapP r fun p q z=>⟨z.1,ht _ (.inl _) z.2.1,z.2.2⟩,ob,es,ep,k _ _ (.inl rfl) e,c⟩
 | dR kvs=>obtain⟨z,y,ob,es,ep,e,c⟩:=x;exact⟨z,y,ob,es,ep,k _ _ (.inl rfl) e,c⟩
 | cod q=>obtain⟨c,oc,vs,t,z,e,r⟩:=x;cases z;exact⟨_,oc,vs,t,rfl,k _ _ (.inl rfl) e,r⟩
 | lam q =>
  obtain⟨qs,e,t,c⟩:=x
  refine⟨qs,k _ _ (.inl rfl) e,t,fun pos cv z=>?_⟩
  obtain⟨d,e1,e2⟩:=c pos cv z
  exact⟨d,e1,ht _ (.inr (.inl q)) e2⟩
 | set S n=>obtain⟨ob,es,ep,t,e,c⟩:=x;exact⟨ob,es,ep,t,k _ _ (.inl rfl) e,c⟩
 | ins C dx fs =>
  obtain⟨d,z,ne,e,mA,⟨od,es,ep,e2,c⟩,r⟩:=x
  exact⟨ho _ d,z,ne,k _ _ (.inl rfl) e,mA,⟨od,es,ep,k _ _ (.inr d) e2,c⟩,r⟩
 | own y=>obtain⟨ob,e⟩:=x;exact⟨ob,k _ _ (.inl rfl) e⟩
 | xd fs=>obtain⟨mA,⟨od,es,ep,e,c⟩,r⟩:=x;exact⟨mA,⟨od,es,ep,k _ _ (.inl rfl) e,c⟩,r⟩
 | rng lo hi=>obtain⟨t,u,v,e⟩:=x;exact⟨t,u,v,k _ _ (.inl rfl) e⟩
 | frz ob u ih=>obtain⟨e,q⟩:=x;exact⟨k _ _ (.inl rfl) e,ih q⟩
 | tbl ps =>
  have e:h.get? a=some {cls:=.none,data:=.fields ps}:=x
  show h'.get? a=some {cls:=.none,data:=.fields ps}
  exact k a _ (.inl rfl) e
 | met f y =>
  have e:h.get? a=some (PySem.W.methodObj (.ref f) (.ref y)):=x
  show h'.get? a=some (PySem.W.methodObj (.ref f) (.ref y))
  exact k a _ (.inl rfl) e
 | ext φ=>obtain⟨p,⟨o,e⟩,st⟩:=x;exact⟨st _ _ p fun o q=>k _ _ (.inl rfl) q,⟨o,k _ _ (.inl rfl) e⟩,st⟩
theorem HOk.lt (x:HOk P w H h)(e:H a=some o):a<h.objs.size:=(x a o e).lt
theorem HOk.fresh (x:HOk P w H h)(e:h.objs.size≤a):H a=none:=by
 cases q:H a with
 | none=>rfl
 | some u=>exact absurd (Nat.lt_of_lt_of_le (x.lt q) e) (Nat.lt_irrefl _)
theorem HOk.kept (x:HOk P w H h)(k:∀b u,h.get? b=some u→h'.get? b=some u):HOk P w H h':=fun a o e =>
 (x a o e).stay (fun b u _ q=>k b u q) (fun _ q=>q) fun _ _ q=>q
theorem HOk.laid (x:HOk P w H h)(k:∀b u,h.get? b=some u→h'.get? b=some u)(hp:h.objs.size≤a)(new:ObjOk P w (upd H a o) h' a o):HOk P w (upd H a o) h':=fun b u e=>by
 have hn:=x.fresh hp
 by_cases hb:b=a
 ·subst hb;rw[zR] at e;cases e;exact new
 ·rw[zN hb] at e
  exact(x b u e).stay (fun c v _ q=>k c v q) (fun c q=>by rw[zN (ne_of_none q hn)];exact q) fun c xs q=>by rw[zN (ne_of_none q hn)];exact q
end
def Rd (H:Hp)(a:Addr)(u:HO):Prop:=H a=some u∨∃o,H a=some (.frz o u)
theorem Rd.of {H:Hp}{a:Addr}{u:HO}(h:H a=some u):Rd H a u:=.inl h
theorem Rd.ok {P:Program}{w:World}{H:Hp}{h:Heap}{a:Addr}{u:HO}(r:Rd H a u)(x:HOk P w H h):ObjOk P w H h a u:=by
 rcases r with r|⟨o,r⟩
 ·exact x a u r
 ·obtain⟨_,q⟩:=x a _ r
  exact q
def Mut:Option HO→Prop
 | some (.lst _)=>True
 | some (.dK _)=>True
 | some (.dT _)=>True
 | some (.dR _)=>True
 | some (.set _ _)=>True
 | some (.ins _ _ _)=>True
 | some (.ext _)=>True
 | _=>False
section
variable {P:Program}{w:World}{H:Hp}{h h':Heap}{x e:Addr}{o':HO}
theorem HOk.write (ok:HOk P w H h)(mu:Mut (H x))(he:e=x∨H e=some (.own x))(k:∀b u,b≠e→h.get? b=some u→h'.get? b=some u)(heo:∃u,h'.get? e=some u)
  (new:ObjOk P w (upd H x o') h' x o'):HOk P w (upd H x o') h':=fun b u q=>by
 have nown:∀c y,H c=some (.own y)→c≠x:=fun c y r z=>by subst z;rw[r] at mu;exact mu
 have ntup:∀c xs,H c=some (HO.st xs)→c≠x:=fun c xs r z=>by subst z;rw[r] at mu;rcases xs with xs|q|q <;>exact mu
 by_cases hb:b=x
 ·subst hb;rw[zR] at q;cases q;exact new
 ·rw [zN hb] at q
  by_cases hbe:b=e
  ·have q':H b=some (.own x):=by
    rcases he with z|z
    ·exact absurd (hbe.trans z) hb
    ·rw[hbe];exact z
   rw[q] at q';cases q'
   obtain⟨v,hv⟩:=heo
   exact⟨v,by rw[hbe];exact hv⟩
  ·refine (ok b u q).stay (fun c v hc r=>k c v ?_ r) (fun c r=>by rw[zN (nown c b r)];exact r) fun c xs r=>by rw[zN (ntup c xs r)];exact r
   rcases hc with rfl|hc
   ·exact hbe
   ·rintro rfl
    rcases he with z|z
    ·exact nown c b hc z
    ·rw[hc] at z;cases z;exact hb rfl
end
structure Un (fs ex:List Addr)(H H':Hp)(h h':Heap):Prop where
 keep:∀b o,h.get? b=some o→H b=none→b∉fs→b∉ex→h'.get? b=some o
 slot:∀b o,h.get? b=some o→H b=none→b∈fs→b∉ex→∃sl,h'.get? b=some {o with slots:=sl}
 free:∀b o,h.get? b=some o→H b=none→b∉ex→H' b=none
 there:∀b o,h.get? b=some o→b∉ex→∃o',h'.get? b=some o'
 tups:∀b xs,H b=some (HO.st xs)→H' b=some (HO.st xs)
 frzs:∀b o u,H b=some (.frz o u)→H' b=some (.frz o u)
 tbls:∀b ps,H b=some (.tbl ps)→∃more,H' b=some (.tbl (ps++more))
section
variable {fs fs' ex ex':List Addr}{H H1 H2:Hp}{h h1 h2 h':Heap}{a x e:Addr}{o:HO}
theorem Un.any (u:Un fs ex H H1 h h1){b:Addr}{ob:Obj}(q:h.get? b=some ob)(n:H b=none)(hx:b∉ex):∃sl,h1.get? b=some {ob with slots:=sl}:=by
 by_cases hb:b∈fs
 ·exact u.slot b ob q n hb hx
 ·exact⟨ob.slots,u.keep b ob q n hb hx⟩
theorem Un.trans (a:Un fs ex H H1 h h1)(b:Un fs ex H1 H2 h1 h2):Un fs ex H H2 h h2 where
 keep:=fun c ob q n hc hx=>b.keep c ob (a.keep c ob q n hc hx) (a.free c ob q n hx) hc hx
 slot:=fun c ob q n hc hx=>by
  obtain⟨sl,e1⟩:=a.slot c ob q n hc hx
  obtain⟨sl',e2⟩:=b.slot c _ e1 (a.free c ob q n hx) hc hx
  exact⟨sl',e2⟩
 free:=fun c ob q n hx=>by
  obtain⟨o',e1⟩:=a.there c ob q hx
  exact b.free c o' e1 (a.free c ob q n hx) hx
 there:=fun c ob q hx=>by
  obtain⟨o',e1⟩:=a.there c ob q hx
  exact b.there c o' e1 hx
 tups:=fun c xs q=>b.tups c xs (a.tups c xs q)
 frzs:=fun c ob xs q=>b.frzs c ob xs (a.frzs c ob xs q)
 tbls:=fun c ps q=>by
  obtain⟨m1,e1⟩:=a.tbls c ps q
  obtain⟨m2,e2⟩:=b.tbls c _ e1
  exact⟨m1++m2,by rw[e2,Array.append_assoc]⟩
theorem Un.kept (k:∀b u,h.get? b=some u→h'.get? b=some u):Un fs ex H H h h' :=
 ⟨fun b ob q _ _ _=>k b ob q,fun b ob q _ _ _=>⟨ob.slots,k b ob q⟩,fun _ _ _ n _=>n,fun b ob q _=>⟨ob,k b ob q⟩,fun _ _ q=>q,fun _ _ _ q=>q,fun _ ps q=>⟨#[],by rw[q];simp⟩⟩
theorem Un.refl:Un fs ex H H h h:=Un.kept fun _ _ q=>q
theorem Un.laid (k:∀b u,h.get? b=some u→h'.get? b=some u)(hp:h.objs.size≤a)(hn:H a=none):Un fs ex H (upd H a o) h h' where
 keep:=fun b u q _ _ _=>k b u q
 slot:=fun b u q _ _ _=>⟨u.slots,k b u q⟩
 free:=fun b u q n _=>by rw[zN (Nat.ne_of_lt (Nat.lt_of_lt_of_le (Heap.lt_size q) hp))];exact n
 there:=fun b u q _=>⟨u,k b u q⟩
 tups:=fun b xs q=>by rw[zN (ne_of_none q hn)];exact q
 frzs:=fun b u xs q=>by rw[zN (ne_of_none q hn)];exact q
 tbls:=fun b ps q=>⟨#[],by rw[zN (ne_of_none q hn),q];simp⟩
theorem Un.write (mu:Mut (H x))(he:e=x∨H e=some (.own x))(k:∀b u,b≠e→h.get? b=some u→h'.get? b=some u)(heo:∃u,h'.get? e=some u):Un fs ex H (upd H x o) h h':=by
 have hx:∀b,H b=none→b≠x:=fun b n z=>by subst z;rw[n] at mu;exact mu
 have hb:∀b,H b=none→b≠e:=fun b n z=>by
  subst z
  rcases he with r|r
  ·exact hx b n r
  ·rw[n] at r;cases r
 have hm:∀b u,H b=some u→¬Mut (some u)→b≠x:=fun b u q nm z=>by subst z;rw[q] at mu;exact nm mu
 refine ⟨fun b u q n _ _=>k b u (hb b n) q,fun b u q n _ _=>⟨u.slots,k b u (hb b n) q⟩,fun b u q n _=>by rw[zN (hx b n)];exact n,fun b u q _=>?_,
  fun b xs q=>by rw[zN (hm b _ q (by rcases xs with xs|c|c <;>exact fun z=>z))];exact q,fun b u xs q=>by rw[zN (hm b _ q fun z=>z)];exact q,fun b ps q=>⟨#[],by rw[zN (hm b _ q fun z=>z),q];simp⟩⟩
 by_cases hbe:b=e
 ·subst hbe;exact heo
 ·exact⟨u,k b u hbe q⟩
theorem Un.mono (u:Un fs ex H H1 h h1)(hs:∀b∈fs,b∈fs')(hx:∀b∈ex,b∈ex'):Un fs' ex' H H1 h h1 :=
 ⟨fun b ob q n hb he=>u.keep b ob q n (fun z=>hb (hs b z)) fun z=>he (hx b z),fun _ _ q n _ he=>u.any q n fun z=>he (hx _ z),fun b ob q n he=>u.free b ob q n fun z=>he (hx b z),fun b ob q he=>u.there b ob q fun z=>he (hx b z),u.tups,u.frzs,u.tbls⟩
end
def trk (h:Heap)(H:Hp):List Addr:=(List.range h.objs.size).filter fun a=>(H a).isSome
def hidT (h:Heap)(H:Hp):Heap:=PySem.W.hideAll h (trk h H)
theorem hidT_size (h:Heap)(H:Hp):(hidT h H).objs.size=h.objs.size:=PySem.W.hideAll_size _ _
theorem hidT_get {h:Heap}{H:Hp}{b:Addr}{o:Obj}(e:h.get? b=some o)(n:H b=none):(hidT h H).get? b=some o :=
 PySem.W.hideAll_get _ e fun hm=>by
  have q:(H b).isSome=true:=(List.mem_filter.mp hm).2
  rw[n] at q;simp at q
theorem of_hidT {h:Heap}{H:Hp}{b:Addr}{o:Obj}(e:(hidT h H).get? b=some o):h.get? b=some o∧H b=none:=by
 have e':h.get? b=some o:=PySem.W.of_hideAll (trk h H) e
 refine⟨e',?_⟩
 cases q:H b with
 | none=>rfl
 | some x =>
  have hm:b∈trk h H:=List.mem_filter.mpr ⟨List.mem_range.mpr (Heap.lt_size e'),by simp[q]⟩
  have z:(hidT h H).get? b=none:=PySem.W.hideAll_none (trk h H) hm
  rw[z] at e;cases e
def allNews (g h:Heap)(L:Addr):List (Addr×Obj):=(List.range h.objs.size).filterMap fun a=>if a=L∨(g.get? a).isSome=true then none else(h.get? a).map fun o=>(a,o)
def rest (g h:Heap)(L d:Addr):List (Addr×Obj):=(allNews g h L).filter fun p=>decide (p.1≠d)
end L2
namespace L2
open PySem PySem.Spec PyProof.Rows
structure Mod (K:PySem.W.Frag)(mg:Str→Option Value)(base:Heap):Prop where
 kin:K.In base
 glob:base.Ns mainGlobals mg
 blt:∃mb,base.Ns builtinsNs mb∧∀x:Str,x ≠ "__name__" → mb x=bootBuiltins x
 nolimit:base.NoLimit
structure Cx where
 prog:Program
 w:World
 K:PySem.W.Frag
 mg:Str→Option Value
 base:Heap
 A:Around
 N:List Str
 s₀:Shared
 H₀:Hp
 env:Env
 outer:List Env
 stack:List Env
 ex:List Addr
 fn:Str→Bool
 calm:Bool
 pn:List (Addr×Obj)
 xe:Value→Shared→Prop
def frs (l:List Env):List Addr:=l.filterMap (·.frame)
abbrev Cx.fs (X:Cx):List Addr:=frs X.outer
def Vis (sc:Scope)(x:Str):Prop:=sc.names.lookup x=some .local∨sc.names.lookup x=some .cell∨sc.names.lookup x=some .free
def Loc (sc:Scope)(x:Str):Prop:=sc.names.lookup x=some .local∨sc.names.lookup x=some .cell
def Look (env:Env)(h:Heap)(m:Str→Option Value)(x:Str)(u:Value):Prop :=
 (env.kindOf x=some .local∧m x=some u)∨((env.kindOf x=some .cell∨env.kindOf x=some .free)∧∃c,env.cells.lookup x=some c∧h.IsCell c (some u))
structure Cx.Ok (X:Cx):Prop where
 mod:Mod X.K X.mg X.base
 kind:X.env.scope.kind=.function
 glob:X.env.globals=mainGlobals
 blt:X.env.builtins=builtinsNs
 above:X.s₀.heap.objs.size≤X.env.locals
 inj:∀x y c,X.env.cells.lookup x=some c→X.env.cells.lookup y=some c→x=y
 has:∀x,(X.env.kindOf x=some .cell∨X.env.kindOf x=some .free)→∃c,X.env.cells.lookup x=some c
 cab:∀x c,X.fn x=true→X.env.cells.lookup x=some c→X.s₀.heap.objs.size≤c
 hd:X.calm=true→X.A.handled=none
 frames:X.A.frames=some X.stack
 stk:X.stack=X.outer∨(X.stack=X.env::X.outer∧X.env.frame=some X.env.locals)
 exf:∀b∈X.ex,b≠X.env.locals∧∀x c,X.env.cells.lookup x=some c→c≠b
 bs:∀b o,X.base.get? b=some o→X.s₀.heap.get? b=some o∧X.H₀ b=none
 bsz:X.base.objs.size≤X.s₀.heap.objs.size
 noex:∀b o,X.base.get? b=some o→b∉X.ex
 exfs:∀b∈X.ex,b∉X.fs
 funs:X.s₀.heap.FunFrames X.base X.outer
 frf:∀b∈X.fs,X.H₀ b=none
structure Inv (X:Cx)(pins:List (Addr×Obj))(σ:List (Option V))(H:Hp)(s:Shared):Prop where
 ok:X.Ok
 os:s.os=X.s₀.os
 bare:AllBare s.gens
 base:Un X.fs X.ex X.H₀ H X.s₀.heap s.heap
 loc:∃m,s.heap.Ns X.env.locals m∧∀(i:Nat) (x:Str) (v:V),X.N[i]? = some x→σ[i]? = some (some v)→Vis X.env.scope x→∃u,RelV v u∧Look X.env s.heap m x u
 cell:∀x c,X.env.cells.lookup x=some c→∃v,s.heap.IsCell c v
 free:H X.env.locals=none
 freeC:∀x c,X.env.cells.lookup x=some c→H c=none
 pin:∀p∈X.pn++pins,s.heap.get? p.1=some p.2∧H p.1=none∧p.1≠X.env.locals∧p.1∉X.fs∧∀v,p.2.data≠.cell v
 hok:HOk X.prog X.w H s.heap
 len:σ.length=X.N.length
section
variable {X:Cx}{pins:List (Addr×Obj)}{σ:List (Option V)}{H H':Hp}{s:Shared}{h':Heap}
theorem Cx.Ok.nofr (ok:X.Ok){b:Addr}{o:Obj}(e:X.base.get? b=some o):b∉X.fs:=fun hb=>by
 have:=(ok.funs.mem hb).1
 rw[e] at this;cases this
theorem Inv.bs (I:Inv X pins σ H s):∀b o,X.base.get? b=some o→s.heap.get? b=some o∧H b=none:=fun b o e =>
 ⟨I.base.keep b o (I.ok.bs b o e).1 (I.ok.bs b o e).2 (I.ok.nofr e) (I.ok.noex b o e),I.base.free b o (I.ok.bs b o e).1 (I.ok.bs b o e).2 (I.ok.noex b o e)⟩
theorem Inv.bk (I:Inv X pins σ H s):∀b o,X.base.get? b=some o→s.heap.get? b=some o:=fun b o e=>(I.bs b o e).1
theorem Inv.mod (I:Inv X pins σ H s):Mod X.K X.mg X.base:=I.ok.mod
theorem Inv.kIn (I:Inv X pins σ H s):X.K.In s.heap:=I.ok.mod.kin.keeps I.bk
theorem Inv.nolimit (I:Inv X pins σ H s):s.heap.NoLimit:=I.ok.mod.nolimit.keeps I.bk
theorem Inv.lt (I:Inv X pins σ H s):X.env.locals<s.heap.objs.size:=let ⟨_,hn,_⟩:=I.loc;hn.lt
theorem Inv.sz (I:Inv X pins σ H s):X.s₀.heap.objs.size≤s.heap.objs.size:=Nat.le_trans I.ok.above (Nat.le_of_lt I.lt)
theorem Inv.nofs (I:Inv X pins σ H s){a:Addr}(h:s.heap.objs.size≤a):a∉X.fs:=fun hb=>by
 obtain⟨_,o,ho,_⟩:=I.ok.funs.mem hb
 exact absurd (Nat.lt_of_lt_of_le (Heap.lt_size ho) (Nat.le_trans I.sz h)) (Nat.lt_irrefl _)
theorem Inv.cne (I:Inv X pins σ H s):∀x c,X.env.cells.lookup x=some c→c≠X.env.locals:=fun x c e z=>by
 obtain⟨v,o,ho,hd⟩:=I.cell x c e
 obtain⟨m,⟨o',es,ep,ho',hd',_⟩,_⟩:=I.loc
 rw[z,ho'] at ho;cases ho;rw[hd'] at hd;cases hd
theorem Inv.funs (I:Inv X pins σ H s):s.heap.FunFrames X.base X.outer:=by
 have all:∀(l:List Env),(∀b∈frs l,b∈X.fs)→X.s₀.heap.FunFrames X.base l→s.heap.FunFrames X.base l:=by
  intro l
  induction l with
  | nil=>intro _ _;trivial
  | cons env r ih =>
   intro hs hl
   obtain⟨hk,⟨L,o,hf,hn,ho,hd⟩,hr⟩:=hl
   have hL:L∈X.fs:=hs L (by unfold frs;rw[List.filterMap_cons,hf];exact List.mem_cons_self)
   obtain⟨sl,e⟩:=I.base.slot L o ho (I.ok.frf L hL) hL fun z=>I.ok.exfs L z hL
   exact⟨hk,⟨L,_,hf,hn,e,hd⟩,ih (fun b hb=>hs b (by unfold frs;rw[List.filterMap_cons,hf];exact List.mem_cons_of_mem _ hb)) hr⟩
 exact all X.outer (fun _ hb=>hb) I.ok.funs
theorem Inv.stack (I:Inv X pins σ H s):s.heap.FunFrames X.base X.stack:=by
 rcases I.ok.stk with e|⟨e,hf⟩
 ·rw[e];exact I.funs
 ·rw[e]
  obtain⟨m,hn,_⟩:=I.loc
  refine .cons (by rw[I.ok.kind];decide) hf hn ?_ I.funs
  exact Heap.get?_none_of_le (Nat.le_trans I.ok.bsz I.ok.above)
theorem Inv.stkSub (I:Inv X pins σ H s):∀b∈frs X.stack,b∈X.env.locals::X.fs:=fun b hb=>by
 rcases I.ok.stk with e|⟨e,hf⟩
 ·rw[e] at hb;exact List.mem_cons_of_mem _ hb
 ·rw[e] at hb
  unfold frs at hb
  rw[List.filterMap_cons,hf] at hb
  exact hb
theorem Inv.stkFree (I:Inv X pins σ H s):∀b∈frs X.stack,H b=none:=fun b hb=>by
 rcases List.mem_cons.mp (I.stkSub b hb) with e|hb
 ·rw[e];exact I.free
 ·obtain⟨_,o,ho,_⟩:=I.ok.funs.mem hb
  exact I.base.free b o ho (I.ok.frf b hb) fun z=>I.ok.exfs b z hb
theorem Inv.step {g':Array GenState}{t':Nat}{d':Drawn}{ch:List Addr}(I:Inv X pins σ H s)
  (hch:∀b∈ch,(b∈X.ex∨X.s₀.heap.objs.size≤b)∧b≠X.env.locals∧(∀x c,X.env.cells.lookup x=some c→c≠b)∧∀p∈X.pn++pins,p.1≠b)
  (keep:∀b o,b≠X.env.locals→b∉X.fs→b∉ch→s.heap.get? b=some o→H b=none→h'.get? b=some o)
  (slot:∀b o,b≠X.env.locals→b∈X.fs→b∉ch→s.heap.get? b=some o→H b=none→∃sl,h'.get? b=some {o with slots:=sl}) (free:∀b o,b∉ch→s.heap.get? b=some o→H b=none→H' b=none)
  (there:∀b o,b∉ch→s.heap.get? b=some o→∃o',h'.get? b=some o')
  (tups:∀b xs,H b=some (HO.st xs)→H' b=some (HO.st xs)) (frzs:∀b o u,H b=some (.frz o u)→H' b=some (.frz o u)) (tbls:∀b ps,H b=some (.tbl ps)→∃more,H' b=some (.tbl (ps++more)))
  (ns:∀m,s.heap.Ns X.env.locals m→h'.Ns X.env.locals m) (hok:HOk X.prog X.w H' h') (hg:AllBare g') :
  Inv X pins σ H' {s with heap:=h',gens:=g',drawn:=d',toks:=t'}:=by
 have neL:∀b o,X.s₀.heap.get? b=some o→b≠X.env.locals:=fun b o e=>Nat.ne_of_lt (Nat.lt_of_lt_of_le (Heap.lt_size e) I.ok.above)
 have neC:∀b o,X.s₀.heap.get? b=some o→b∉X.ex→b∉ch:=fun b o e hx hb=>by
  rcases(hch b hb).1 with z|z
  ·exact hx z
  ·exact absurd (Nat.lt_of_lt_of_le (Heap.lt_size e) z) (Nat.lt_irrefl _)
 have cellK:∀x c,X.env.cells.lookup x=some c→∀v,s.heap.IsCell c v→h'.IsCell c v:=fun x c e v ⟨o,ho,hd⟩=>by
  have nch:c∉ch:=fun z=>(hch c z).2.2.1 x c e rfl
  by_cases hc:c∈X.fs
  ·obtain⟨sl,q⟩:=slot c o (I.cne x c e) hc nch ho (I.freeC x c e)
   exact⟨_,q,hd⟩
  ·exact⟨o,keep c o (I.cne x c e) hc nch ho (I.freeC x c e),hd⟩
 refine⟨I.ok,I.os,hg,⟨fun b o e n hb hx=>?_,fun b o e n hb hx=>?_,fun b o e n hx=>?_,fun b o e hx=>?_,fun b xs e=>tups b xs (I.base.tups b xs e),fun b o xs e=>frzs b o xs (I.base.frzs b o xs e),fun b ps e=>?_⟩,?_,fun x c e=>?_,?_,fun x c e=>?_,fun p hp=>?_,hok,I.len⟩
 ·exact keep b o (neL b o e) hb (neC b o e hx) (I.base.keep b o e n hb hx) (I.base.free b o e n hx)
 ·obtain⟨sl,e1⟩:=I.base.slot b o e n hb hx
  obtain⟨sl',e2⟩:=slot b _ (neL b o e) hb (neC b o e hx) e1 (I.base.free b o e n hx)
  exact⟨sl',e2⟩
 ·obtain⟨o',e1⟩:=I.base.there b o e hx
  exact free b o' (neC b o e hx) e1 (I.base.free b o e n hx)
 ·obtain⟨o',e1⟩:=I.base.there b o e hx
  exact there b o' (neC b o e hx) e1
 ·obtain⟨m1,e1⟩:=I.base.tbls b ps e
  obtain⟨m2,e2⟩:=tbls b _ e1
  exact⟨m1++m2,by rw[e2,Array.append_assoc]⟩
 ·obtain⟨m,hn,hl⟩:=I.loc
  refine⟨m,ns m hn,fun i x v e1 e2 e3=>?_⟩
  obtain⟨u,r,l⟩:=hl i x v e1 e2 e3
  refine⟨u,r,?_⟩
  rcases l with l|⟨k,c,e,z⟩
  ·exact .inl l
  ·exact .inr ⟨k,c,e,cellK x c e _ z⟩
 ·obtain⟨v,z⟩:=I.cell x c e
  exact⟨v,cellK x c e v z⟩
 ·obtain⟨m,⟨o,_,_,ho,_⟩,_⟩:=I.loc
  exact free _ o (fun z=>(hch _ z).2.1 rfl) ho I.free
 ·obtain⟨v,o,ho,hd⟩:=I.cell x c e
  exact free c o (fun z=>(hch c z).2.2.1 x c e rfl) ho (I.freeC x c e)
 ·obtain⟨e,n,ne,nf,d⟩:=I.pin p hp
  have nch:p.1∉ch:=fun z=>(hch p.1 z).2.2.2 p hp rfl
  exact⟨keep p.1 p.2 ne nf nch e n,free p.1 p.2 nch e n,ne,nf,d⟩
theorem Inv.un {t':Nat}(I:Inv X pins σ H s)(u:Un X.fs [] H H' s.heap h')(hok:HOk X.prog X.w H' h'):Inv X pins σ H' {s with heap:=h',toks:=t'}:=by
 obtain⟨m,⟨o,es,ep,ho,r⟩,_⟩:=id I.loc
 obtain⟨sl,hL⟩:=u.any ho I.free (by simp)
 exact I.step (g':=s.gens) (d':=s.drawn) (ch:=[]) (fun _ z=>nomatch z) (fun b o _ hb _ e n=>u.keep b o e n hb (by simp)) (fun b o _ hb _ e n=>u.slot b o e n hb (by simp)) (fun b o _ e n=>u.free b o e n (by simp)) (fun b o _ e=>u.there b o e (by simp)) u.tups u.frzs u.tbls (fun m' hm=>by
  obtain⟨o',es',ep',ho',r'⟩:=hm
  rw[ho] at ho';cases ho'
  exact⟨_,es',ep',hL,r'⟩) hok I.bare
theorem Inv.call {g':Array GenState}{t':Nat}{d':Drawn}{ch:List Addr}(I:Inv X pins σ H s)(u:Un (frs X.stack) ch H H' s.heap h')(hok:HOk X.prog X.w H' h')(hg:AllBare g')
  (hch:∀b∈ch,(b∈X.ex∨X.s₀.heap.objs.size≤b)∧b≠X.env.locals∧(∀x c,X.env.cells.lookup x=some c→c≠b)∧∀p∈X.pn++pins,p.1≠b) :
  Inv X pins σ H' {s with heap:=h',gens:=g',drawn:=d',toks:=t'}:=by
 obtain⟨m,⟨o,es,ep,ho,r⟩,_⟩:=id I.loc
 obtain⟨sl,hL⟩:=u.any ho I.free fun z=>(hch _ z).2.1 rfl
 exact I.step (ch:=ch) hch (fun b o hL hb hc e n=>u.keep b o e n (fun z=>(List.mem_cons.mp (I.stkSub b z)).elim hL hb) hc) (fun b o _ _ hc e n=>u.any e n hc) (fun b o hc e n=>u.free b o e n hc) (fun b o hc e=>u.there b o e hc) u.tups u.frzs u.tbls (fun m' hm=>by
  obtain⟨o',es',ep',ho',r'⟩:=hm
  rw[ho] at ho';cases ho'
  exact⟨_,es',ep',hL,r'⟩) hok hg
theorem Inv.turned {t':Nat}{it:Addr}(I:Inv X pins σ H s)(k:∀b o,b≠it→s.heap.get? b=some o→h'.get? b=some o)(hn:H it=none)(hL:it≠X.env.locals)
  (h1:it∈X.ex∨X.s₀.heap.objs.size≤it) (h2:∀x c,X.env.cells.lookup x=some c→c≠it) (h3:∀p∈X.pn++pins,p.1≠it):Inv X pins σ H {s with heap:=h',toks:=t'}:=by
 have nit:∀b u,H b=some u→b≠it:=fun b u e z=>by rw[z,hn] at e;cases e
 refine I.step (g':=s.gens) (d':=s.drawn) (ch:=[it]) (fun b hb=>?_) (fun b o _ _ hc e _=>k b o (fun z=>hc (by simp[z])) e) (fun b o _ _ hc e _=>⟨o.slots,k b o (fun z=>hc (by simp[z])) e⟩) (fun _ _ _ _ n=>n)
  (fun b o hc e=>⟨o,k b o (fun z=>hc (by simp[z])) e⟩) (fun _ _ e=>e) (fun _ _ _ e=>e) (fun b ps e=>⟨#[],by rw[e];simp⟩) (fun m hm=>?_) (fun b u e=>?_) I.bare
 ·have e:b=it:=by simpa using hb
  subst e
  exact⟨h1,hL,h2,h3⟩
 ·obtain⟨o,es,ep,ho,r⟩:=hm
  exact⟨o,es,ep,k _ o (Ne.symm hL) ho,r⟩
 ·refine(I.hok b u e).stay (fun c v hc q=>k c v ?_ q) (fun _ q=>q) fun _ _ q=>q
  rcases hc with z|z
  ·rw[z];exact nit b u e
  ·exact nit c _ z
theorem Inv.tok (I:Inv X pins σ H s)(t:Nat):Inv X pins σ H {s with toks:=t}:=I.un (h':=s.heap) (t':=t) Un.refl I.hok
theorem Inv.kept {t':Nat}(I:Inv X pins σ H s)(k:∀b u,s.heap.get? b=some u→h'.get? b=some u):Inv X pins σ H {s with heap:=h',toks:=t'}:=I.un (Un.kept k) (I.hok.kept k)
theorem Inv.laid {a:Addr}{o:HO}{t':Nat}(I:Inv X pins σ H s)(k:∀b u,s.heap.get? b=some u→h'.get? b=some u)(hp:s.heap.objs.size≤a)(new:ObjOk X.prog X.w (upd H a o) h' a o) :
  Inv X pins σ (upd H a o) {s with heap:=h',toks:=t'}:=I.un (Un.laid k hp (I.hok.fresh hp)) (I.hok.laid k hp new)
theorem Inv.write {x e:Addr}{o:HO}{t':Nat}(I:Inv X pins σ H s)(mu:Mut (H x))(he:e=x∨H e=some (.own x))(k:∀b u,b≠e→s.heap.get? b=some u→h'.get? b=some u)(heo:∃u,h'.get? e=some u)
  (new:ObjOk X.prog X.w (upd H x o) h' x o):Inv X pins σ (upd H x o) {s with heap:=h',toks:=t'}:=I.un (Un.write mu he k heo) (I.hok.write mu he k heo new)
theorem Inv.weak {σ':List (Option V)}(I:Inv X pins σ H s)(hl:σ'.length=σ.length)(w:∀(i:Nat) v,σ'[i]? = some (some v)→σ[i]? = some (some v)):Inv X pins σ' H s :=
 ⟨I.ok,I.os,I.bare,I.base,let ⟨m,hn,hl'⟩:=I.loc;⟨m,hn,fun i x v e1 e2 e3=>hl' i x v e1 (w i v e2) e3⟩,I.cell,I.free,I.freeC,I.pin,I.hok,hl.trans I.len⟩
theorem Inv.pins_of {pins':List (Addr×Obj)}(I:Inv X pins σ H s)(h:∀p∈pins',s.heap.get? p.1=some p.2∧H p.1=none∧p.1≠X.env.locals∧p.1∉X.fs∧∀v,p.2.data≠.cell v):Inv X pins' σ H s :=
 ⟨I.ok,I.os,I.bare,I.base,I.loc,I.cell,I.free,I.freeC,fun p hp=>(List.mem_append.mp hp).elim (fun z=>I.pin p (List.mem_append_left _ z)) (h p),I.hok,I.len⟩
theorem nodup_ix {N:List Str}(hN:N.Nodup){i j:Nat}{x:Str}(a:N[i]? = some x)(b:N[j]? = some x):i=j:=by
 obtain⟨h1,e1⟩:=List.getElem?_eq_some_iff.mp a
 obtain⟨h2,e2⟩:=List.getElem?_eq_some_iff.mp b
 exact(List.getElem_inj hN).mp (e1.trans e2.symm)
theorem store_ok2 {M:Model}{A:Around}{E:Value→Shared→Prop}{i:Nat}{x:Str}{v:V}{u:Value}{Q:Unit→Shared→Prop}(I:Inv X pins σ H s)(hN:X.N.Nodup)(hi:X.N[i]? = some x)(hx:Loc X.env.scope x)(r:RelV v u)
  (h:∀s',Inv X pins (σ.set i (some v)) H s'→(∃a,Heap.SameBut a s.heap s'.heap∧(a=X.env.locals∨X.env.cells.lookup x=some a))→Q () s') (hf:X.fn x=true∨X.env.scope.names.lookup x=some .local:=by first|exact .inl rfl|exact .inr rfl|assumption):wpAny M A (storeName X.env x u) Q E s:=by
 obtain⟨m,hn,hl⟩:=id I.loc
 have hcls:(X.env.scope.kind == .class || (X.env.scope.kind == .module&&X.env.locals != X.env.globals))=false:=by rw[I.ok.kind];rfl
 have hiσ:i<σ.length:=by rw[I.len];exact(List.getElem?_eq_some_iff.mp hi).1
 have cne:=I.cne
 have tracked:∀{a:Addr}{h':Heap},(∃o,s.heap.get? a=some o∧H a=none)→Heap.SameBut a s.heap h'→HOk X.prog X.w H h':=fun {a h'} ha hs b ob e=>by
  obtain⟨_,_,hfree⟩:=ha
  refine(I.hok b ob e).stay (fun c w' hc q=>(hs.2 c ?_).trans q) (fun _ q=>q) fun _ _ q=>q
  rintro rfl
  rcases hc with rfl|hc
  ·rw[hfree] at e;cases e
  ·rw[hfree] at hc;cases hc
 rcases hx with hk|hk
 ·refine wpAny_storeName_local hk hn (fun h' hn' hs=>?_) hcls
  obtain⟨oL,_,_,hoL,_⟩:=id hn
  refine h _ ⟨I.ok,I.os,I.bare,⟨fun b o e n hb hx=>?_,fun b o e n hb hx=>?_,I.base.free,fun b o e hx=>?_,I.base.tups,I.base.frzs,I.base.tbls⟩,⟨_,hn',fun j y v' e1 e2 e3=>?_⟩,fun y c e=>?_,I.free,I.freeC,fun p hp=>?_,tracked ⟨oL,hoL,I.free⟩ hs,by simpa using I.len⟩ ⟨_,hs,.inl rfl⟩
  ·exact(hs.2 b (Nat.ne_of_lt (Nat.lt_of_lt_of_le (Heap.lt_size e) I.ok.above))).trans (I.base.keep b o e n hb hx)
  ·obtain⟨sl,e1⟩:=I.base.slot b o e n hb hx
   exact⟨sl,(hs.2 b (Nat.ne_of_lt (Nat.lt_of_lt_of_le (Heap.lt_size e) I.ok.above))).trans e1⟩
  ·obtain⟨o',e1⟩:=I.base.there b o e hx
   exact⟨o',(hs.2 b (Nat.ne_of_lt (Nat.lt_of_lt_of_le (Heap.lt_size e) I.ok.above))).trans e1⟩
  ·by_cases hj:j=i
   ·subst hj
    rw[hi] at e1;cases e1
    rw[List.getElem?_set_self hiσ] at e2
    cases e2
    exact⟨u,r,.inl ⟨hk,by simp⟩⟩
   ·rw [List.getElem?_set_ne (Ne.symm hj)] at e2
    obtain⟨u',r',q⟩:=hl j y v' e1 e2 e3
    refine⟨u',r',?_⟩
    rcases q with⟨k,e⟩|⟨k,c,e,z⟩
    ·refine .inl ⟨k,?_⟩
     have:y≠x:=fun e=>hj (nodup_ix hN e1 (e▸hi))
     simp[this,e]
    ·exact .inr ⟨k,c,e,z.sameBut hs (cne y c e)⟩
  ·obtain⟨w',z⟩:=I.cell y c e
   exact⟨w',z.sameBut hs (cne y c e)⟩
  ·obtain⟨e,n,ne,nf,d⟩:=I.pin p hp
   exact⟨(hs.2 p.1 ne).trans e,n,ne,nf,d⟩
 ·have hfn:X.fn x=true:=by
   rcases hf with z|z
   ·exact z
   ·rw[z] at hk;cases hk
  obtain⟨c,hc⟩:=I.ok.has x (.inl hk)
  obtain⟨w',z⟩:=I.cell x c hc
  refine wpAny_storeName_cell I.ok.kind hk hc z (fun h' hc' hs=>?_)
  obtain⟨oc,hoc,hocd⟩:=id z
  refine h {s with heap:=h'} ⟨I.ok,I.os,I.bare,⟨fun b o e n hb hx=>?_,fun b o e n hb hx=>?_,I.base.free,fun b o e hx=>?_,I.base.tups,I.base.frzs,I.base.tbls⟩,⟨m,hn.sameBut hs (Ne.symm (cne x c hc)),fun j y v' e1 e2 e3=>?_⟩,fun y c' e=>?_,I.free,I.freeC,fun p hp=>?_,tracked ⟨oc,hoc,I.freeC x c hc⟩ hs,by simpa using I.len⟩ ⟨c,hs,.inr hc⟩
  ·exact(hs.2 b (Nat.ne_of_lt (Nat.lt_of_lt_of_le (Heap.lt_size e) (I.ok.cab x c hfn hc)))).trans (I.base.keep b o e n hb hx)
  ·obtain⟨sl,e1⟩:=I.base.slot b o e n hb hx
   exact⟨sl,(hs.2 b (Nat.ne_of_lt (Nat.lt_of_lt_of_le (Heap.lt_size e) (I.ok.cab x c hfn hc)))).trans e1⟩
  ·obtain⟨o',e1⟩:=I.base.there b o e hx
   exact⟨o',(hs.2 b (Nat.ne_of_lt (Nat.lt_of_lt_of_le (Heap.lt_size e) (I.ok.cab x c hfn hc)))).trans e1⟩
  ·by_cases hj:j=i
   ·subst hj
    rw[hi] at e1;cases e1
    rw[List.getElem?_set_self hiσ] at e2
    cases e2
    exact⟨u,r,.inr ⟨.inl hk,c,hc,hc'⟩⟩
   ·rw [List.getElem?_set_ne (Ne.symm hj)] at e2
    obtain⟨u',r',q⟩:=hl j y v' e1 e2 e3
    refine⟨u',r',?_⟩
    rcases q with q|⟨k,c',e,z'⟩
    ·exact .inl q
    ·refine .inr ⟨k,c',e,z'.sameBut hs ?_⟩
     rintro rfl
     exact hj (nodup_ix hN e1 (I.ok.inj _ _ _ e hc▸hi))
  ·by_cases hcc:c'=c
   ·subst hcc;exact⟨_,hc'⟩
   ·obtain⟨w2,z2⟩:=I.cell y c' e
    exact⟨w2,z2.sameBut hs hcc⟩
  ·obtain⟨e,n,ne,nf,d⟩:=I.pin p hp
   refine⟨(hs.2 p.1 ?_).trans e,n,ne,nf,d⟩
   intro q
   rw[q,hoc] at e
   have q':oc=p.2:=Option.some.inj e
   exact d w' (by rw[← q'];exact hocd)
theorem store_ok {M:Model}{A:Around}{E:Value→Shared→Prop}{i:Nat}{x:Str}{v:V}{u:Value}{Q:Unit→Shared→Prop}(I:Inv X pins σ H s)(hN:X.N.Nodup)(hi:X.N[i]? = some x)(hx:Loc X.env.scope x)(r:RelV v u)
  (h:∀s',Inv X pins (σ.set i (some v)) H s'→Q () s') (hf:X.fn x=true∨X.env.scope.names.lookup x=some .local:=by first|exact .inl rfl|exact .inr rfl|assumption):wpAny M A (storeName X.env x u) Q E s :=
 store_ok2 I hN hi hx r (fun s' I' _=>h s' I') hf
theorem Inv.call' {s':Shared}{ch:List Addr}(I:Inv X pins σ H s)(ho:s'.os=s.os)(u:Un (frs X.stack) ch H H' s.heap s'.heap)(hok:HOk X.prog X.w H' s'.heap)(hg:AllBare s'.gens)
  (hch:∀b∈ch,(b∈X.ex∨X.s₀.heap.objs.size≤b)∧b≠X.env.locals∧(∀x c,X.env.cells.lookup x=some c→c≠b)∧∀p∈X.pn++pins,p.1≠b):Inv X pins σ H' s':=by
 obtain⟨h',g',d',t',o'⟩:=s'
 have e:o'=s.os:=ho
 subst e
 exact I.call (g':=g') (t':=t') (d':=d') u hok hg hch
end
abbrev XK:=Value→Option Addr→Hp→Prop
abbrev St:=List (Option V)
abbrev VK:=V→Hp→Prop
abbrev TE:=St→Hp→VK→Prop
abbrev TT:=St→Hp→(Bool→Hp→Prop)→Prop
abbrev TA:=St→Hp→(List V→Hp→Prop)→Prop
structure Ends where
 nx:St→Hp→Prop
 rt:VK
 bk:St→Hp→Prop:=fun _ _=>False
 ct:St→Hp→Prop:=fun _ _=>False
abbrev TS:=Ends→St→Hp→Prop
inductive EP (X:Cx)(pins:List (Addr×Obj))(σ:St)(Q:VK)(u:Value)(s':Shared):Prop
 | mk (v:V) (H':Hp) (I:Inv X pins σ H' s') (r:RelV v u) (q:Q v H')
inductive TP (X:Cx)(pins:List (Addr×Obj))(σ:St)(Q:Bool→Hp→Prop)(b:Bool)(s':Shared):Prop
 | mk (H':Hp) (I:Inv X pins σ H' s') (q:Q b H')
inductive AP (X:Cx)(pins:List (Addr×Obj))(σ:St)(Q:List V→Hp→Prop)(us:List Value)(s':Shared):Prop
 | mk (vs:List V) (H':Hp) (I:Inv X pins σ H' s') (r:Vals vs us) (q:Q vs H')
inductive SN (X:Cx)(pins:List (Addr×Obj))(Q:St→Hp→Prop)(s':Shared):Prop
 | mk (a:St) (b:Hp) (I:Inv X pins a b s') (q:Q a b)
inductive SR (X:Cx)(pins:List (Addr×Obj))(Q:VK)(u:Value)(s':Shared):Prop
 | mk (v:V) (a:St) (b:Hp) (I:Inv X pins a b s') (r:RelV v u) (q:Q v b)
def SP (X:Cx)(pins:List (Addr×Obj))(D:Ends)(f:Flow)(s':Shared):Prop :=
 match f with
 | .next=>SN X pins D.nx s'
 | .brk=>SN X pins D.bk s'
 | .cont=>SN X pins D.ct s'
 | .ret u=>SR X pins D.rt u s'
def PE (X:Cx)(e:Expr)(t:TE):Prop :=
 ∀(pins:List (Addr×Obj)) (s:Shared) (σ:St) (H:Hp) (Q:VK),Inv X pins σ H s→t σ H Q→wpAny (model X.prog X.w) X.A (eval e X.env) (EP X pins σ Q) X.xe s
def PT (X:Cx)(e:Expr)(t:TT):Prop :=
 ∀(pins:List (Addr×Obj)) (s:Shared) (σ:St) (H:Hp) (Q:Bool→Hp→Prop),Inv X pins σ H s→t σ H Q→wpAny (model X.prog X.w) X.A (isTrue e X.env (eval e X.env)) (TP X pins σ Q) X.xe s
def PW (X:Cx)(e:Expr)(t:TT):Prop :=
 ∀(whole:Sem Value) (pins:List (Addr×Obj)) (s:Shared) (σ:St) (H:Hp) (Q:Bool→Hp→Prop),Inv X pins σ H s→t σ H Q→wpAny (model X.prog X.w) X.A (isTrue e X.env whole) (TP X pins σ Q) X.xe s
theorem PW.pt {X:Cx}{e:Expr}{t:TT}(h:PW X e t):PT X e t:=h _
def PA (X:Cx)(es:List Expr)(t:TA):Prop :=
 ∀(pos:Pos) (pins:List (Addr×Obj)) (s:Shared) (σ:St) (H:Hp) (Q:List V→Hp→Prop),Inv X pins σ H s→t σ H Q→wpAny (model X.prog X.w) X.A (spliced (backTo pos (starEach es X.env))) (AP X pins σ Q) X.xe s
def PS (X:Cx)(st:Stmt)(t:TS):Prop :=
 ∀(pins:List (Addr×Obj)) (s:Shared) (σ:St) (H:Hp) (D:Ends),Inv X pins σ H s→t D σ H→wpAny (model X.prog X.w) X.A (exec st X.env) (SP X pins D) X.xe s
def PSs (X:Cx)(st:List Stmt)(t:TS):Prop :=
 ∀(pins:List (Addr×Obj)) (s:Shared) (σ:St) (H:Hp) (D:Ends),Inv X pins σ H s→t D σ H→wpAny (model X.prog X.w) X.A (execs st X.env) (SP X pins D) X.xe s
theorem thn {α:Type}{t:Sem α}{Q Q':α→Shared→Prop}{M:Model}{A:Around}{E:Value→Shared→Prop}{s:Shared}(h:wpAny M A t Q E s)(hQ:∀a s,Q a s→Q' a s):wpAny M A t Q' E s:=wpAny_mono h hQ fun _ _ x=>x
end L2
namespace L2
open PySem PySem.Spec PyProof.Rows
section
variable {X:Cx}
def tVar (i:Nat):TE:=fun σ H Q=>∃v,σ[i]? = some (some v)∧Q v H
def tC (v:V):TE:=fun _ H Q=>Q v H
theorem pe_var {i:Nat}{x:Str}{pos:Pos}(hN:X.N[i]? = some x)(hv:Vis X.env.scope x)(hd:(x == ("__debug__" : Str))=false:=by decide)(hcd:(x == ("__classdict__" : Str))=false:=by decide):PE X (.Name x pos) (tVar i):=by
 intro pins s σ H Q I h
 obtain⟨v,e,h⟩:=h
 obtain⟨m,hn,hl⟩:=I.loc
 obtain⟨u,r,l⟩:=hl i x v hN e hv
 have fin:EP X pins σ Q u s:=⟨v,H,I,r,h⟩
 rcases l with⟨hk,hm⟩|⟨hk,c,hc,hcell⟩
 ·exact wpAny_Name (wpAny_loadName_local I.ok.kind hk hn hm fin) hd
 ·rcases hk with hk|hk
  ·exact wpAny_Name (wpAny_loadName_cell I.ok.kind hk hc hcell fin) hd
  ·exact wpAny_Name (wpAny_loadName_free I.ok.kind hk hc hcell fin hcd) hd
theorem pe_int {i j pos}:PE X (.Constant (.int i) j pos) (tC (.int i)):=fun _ _ _ H _ I h=>wpAny_Constant_int ⟨.int i,H,I.tok _,⟨_,rfl⟩,h⟩
theorem pe_bl {b j pos}:PE X (.Constant (.bool b) j pos) (tC (.bl b)):=fun _ _ _ H _ I h=>Constant_bool ⟨.bl b,H,I,rfl,h⟩
theorem pe_non {j pos}:PE X (.Constant .none j pos) (tC .non):=fun _ _ _ H _ I h=>Constant_none ⟨.non,H,I,rfl,h⟩
theorem pe_str {x j pos}:PE X (.Constant (.str x) j pos) (tC (.str x)):=fun _ _ _ H _ I h=>Calls.Constant_str ⟨.str x,H,I.tok _,⟨_,rfl⟩,h⟩
def Gl (X:Cx)(x:Str):Prop:=X.env.kindOf x=some .globalImplicit
theorem ld_glob {E:Value→Shared→Prop}{pins:List (Addr×Obj)}{s:Shared}{σ:St}{H:Hp}{x:Str}{u:Value}{pos:Pos}{Q:Value→Shared→Prop}(I:Inv X pins σ H s)(hg:Gl X x)(hm:X.mg x=some u)(h:Q u s)
  (hd:(x == ("__debug__" : Str))=false:=by decide):wpAny (model X.prog X.w) X.A (eval (.Name x pos) X.env) Q E s :=
 Calls.Name_function_global I.ok.kind hg (Calls.loadGlobal_global (by rw[I.ok.glob];exact I.mod.glob.keeps I.bk) hm h) hd
theorem ld_blt {E:Value→Shared→Prop}{pins:List (Addr×Obj)}{s:Shared}{σ:St}{H:Hp}{x:Str}{u:Value}{pos:Pos}{Q:Value→Shared→Prop}(I:Inv X pins σ H s)(hg:Gl X x)(hm:X.mg x=none)(hv:bootBuiltins x=some u)(h:Q u s)
  (hn:x ≠ "__name__" := by decide) (hd:(x == ("__debug__" : Str))=false:=by decide):wpAny (model X.prog X.w) X.A (eval (.Name x pos) X.env) Q E s:=by
 obtain⟨mb,h1,h2⟩:=I.mod.blt
 exact Calls.Name_function_global I.ok.kind hg (Calls.loadGlobal_builtin (by rw[I.ok.glob];exact I.mod.glob.keeps I.bk) hm (by rw[I.ok.blt];exact h1.keeps I.bk) ((h2 x hn).trans hv) h) hd
theorem pe_glob {x:Str}{v:V}{u:Value}{pos:Pos}(hg:Gl X x)(hm:X.mg x=some u)(r:RelV v u)(hd:(x == ("__debug__" : Str))=false:=by decide):PE X (.Name x pos) (tC v) :=
 fun _ _ _ H _ I h=>ld_glob I hg hm ⟨v,H,I,r,h⟩ hd
theorem pe_bltn {x:Str}{v:V}{u:Value}{pos:Pos}(hg:Gl X x)(hm:X.mg x=none)(hv:bootBuiltins x=some u)(r:RelV v u)(hn:x ≠ "__name__" := by decide)(hd:(x == ("__debug__" : Str))=false:=by decide):PE X (.Name x pos) (tC v) :=
 fun _ _ _ H _ I h=>ld_blt I hg hm hv ⟨v,H,I,r,h⟩ hn hd
variable {a b:Expr}{ta tb:TE}{pos:Pos}
def PC (X:Cx)(op:CmpOp)(a b:Expr)(t:TE):Prop :=
 ∀ (pins:List (Addr×Obj)) (s:Shared) (σ:St) (H:Hp) (Q:VK),Inv X pins σ H s→t σ H Q →
  wpAny (model X.prog X.w) X.A (eval a X.env) (fun v s₁=>wpAny (model X.prog X.w) X.A (eval b X.env) (fun u s₂=>wpAny (model X.prog X.w) X.A (compareOp op v u) (EP X pins σ Q) X.xe s₂) X.xe s₁) X.xe s
theorem nobehind (b:Expr){op:CmpOp}(h:op≠.In)(h2:op≠.NotIn):behindInMarks op b=false:=by
 have e1:(op == CmpOp.In)=false:=by cases op <;>first|rfl|exact absurd rfl h
 have e2:(op == CmpOp.NotIn)=false:=by cases op <;>first|rfl|exact absurd rfl h2
 cases b <;>simp[behindInMarks,e1,e2]
def tIsN (ta:TE):TE:=fun σ H Q=>ta σ H fun x H1=>Q (.bl (decide (x=.non))) H1
def tNotN (ta:TE):TE:=fun σ H Q=>ta σ H fun x H1=>Q (.bl (!decide (x=.non))) H1
theorem RelV.none_iff {x:V}{v:Value}(r:RelV x v):(v == Value.none)=decide (x=.non):=by
 cases x with
 | non=>cases r;rfl
 | bl _=>cases r;rfl
 | int _=>obtain⟨t,rfl⟩:=r;rfl
 | str _=>obtain⟨t,rfl⟩:=r;rfl
 | byt _=>obtain⟨t,rfl⟩:=r;rfl
 | flt _=>obtain⟨t,rfl⟩:=r;rfl
 | ref _=>cases r;rfl
 | ty _=>cases r;rfl
theorem pc_isN {j pos'}(ha:PE X a ta):PC X .Is a (.Constant .none j pos') (tIsN ta):=by
 intro pins s σ H Q I h
 refine thn (ha pins s σ H _ I h) fun v s1 hq0=>?_
 obtain⟨x,H1,I1,r1,q1⟩:=hq0
 exact Constant_none (is_none_gen ⟨.bl _,H1,I1,by rw[r1.none_iff];rfl,q1⟩)
theorem pc_notN {j pos'}(ha:PE X a ta):PC X .IsNot a (.Constant .none j pos') (tNotN ta):=by
 intro pins s σ H Q I h
 refine thn (ha pins s σ H _ I h) fun v s1 hq1=>?_
 obtain⟨x,H1,I1,r1,q1⟩:=hq1
 exact Constant_none (isnot_none_gen ⟨.bl _,H1,I1,by rw[r1.none_iff];rfl,q1⟩)
def tB (t:TE):TT:=fun σ H Q=>t σ H fun x H1=>∃c,x=.bl c∧Q c H1
theorem pe_cmp {op:CmpOp}{t:TE}(h:PC X op a b t)(h1:behindInMarks op b=false:=by first|exact nobehind _ (by decide) (by decide)|rfl):PE X (.Compare a [op] [b] pos) t:=fun pins s σ H Q I hw=>wpAny_Compare1 (h pins s σ H Q I hw) h1
theorem pt_cmp {op:CmpOp}{t:TE}(h:PC X op a b t)(h1:behindInMarks op b=false:=by first|exact nobehind _ (by decide) (by decide)|rfl):PT X (.Compare a [op] [b] pos) (tB t):=by
 intro pins s σ H Q I hw
 refine wpAny_isTrue_Compare1 (thn (h pins s σ H _ I hw) fun v s1 h1=>thn h1 fun u s2 h2=>thn h2 fun c s3 ⟨x,H1,I1,r1,q1⟩=>?_) h1
 obtain⟨d,rfl,q⟩:=q1
 cases r1
 exact wpAny_truthy_bool ⟨H1,I1,q⟩
theorem pt_val {e:Expr}{t:TE}(h:PE X e t)(he:∀whole,isTrue e X.env whole=(do let v ← whole;standAt e.pos;holding [v] (truthy v)):=by intro _;rfl):PT X e (tB t):=by
 intro pins s σ H Q I hw
 refine isTrue_plain (thn (h pins s σ H _ I hw) fun v s1 hq2=>?_) (he _)
 obtain⟨x,H1,I1,r1,q1⟩:=hq2
 obtain⟨d,rfl,q⟩:=q1
 cases r1
 exact wpAny_truthy_bool ⟨H1,I1,q⟩
variable {tA tB':TT}{rest:List Expr}
def tAnd (t u:TT):TT:=fun σ H Q=>t σ H fun c H1=>if c=true then u σ H1 Q else Q false H1
def tOr (t u:TT):TT:=fun σ H Q=>t σ H fun c H1=>if c=true then Q true H1 else u σ H1 Q
def tNot (t:TT):TT:=fun σ H Q=>t σ H fun c H1=>Q (!c) H1
theorem pw_and1 (ha:PT X a tA):PW X (.BoolOp .And [a] pos) tA:=by
 intro wh pins s σ H Q I h
 refine isTrue_and (thn (ha pins s σ H Q I h) fun c s1 e=>?_)
 cases c with
 | true=>exact isTrue_and_nil e
 | false=>exact e
theorem pw_or1 (ha:PT X a tA):PW X (.BoolOp .Or [a] pos) tA:=by
 intro wh pins s σ H Q I h
 refine isTrue_or (thn (ha pins s σ H Q I h) fun c s1 e=>?_)
 cases c with
 | false=>exact isTrue_or_nil e
 | true=>exact e
theorem pw_and (ha:PT X a tA)(hb:PW X (.BoolOp .And (b::rest) pos) tB'):PW X (.BoolOp .And (a::b::rest) pos) (tAnd tA tB'):=by
 intro wh pins s σ H Q I h
 refine isTrue_and (thn (ha pins s σ H _ I h) fun c s1 hq3=>?_)
 obtain⟨H1,I1,q1⟩:=hq3
 cases c with
 | true=>exact hb wh pins s1 σ H1 Q I1 q1
 | false=>exact⟨H1,I1,q1⟩
theorem pw_or (ha:PT X a tA)(hb:PW X (.BoolOp .Or (b::rest) pos) tB'):PW X (.BoolOp .Or (a::b::rest) pos) (tOr tA tB'):=by
 intro wh pins s σ H Q I h
 refine isTrue_or (thn (ha pins s σ H _ I h) fun c s1 hq4=>?_)
 obtain⟨H1,I1,q1⟩:=hq4
 cases c with
 | true=>exact⟨H1,I1,q1⟩
 | false=>exact hb wh pins s1 σ H1 Q I1 q1
theorem pt_not (ha:PT X a tA):PT X (.UnaryOp .Not a pos) (tNot tA):=by
 intro pins s σ H Q I h
 exact isTrue_not (thn (ha pins s σ H (fun c H1=>Q (!c) H1) I h) fun _ _ ⟨b,I,q⟩=>⟨b,I,q⟩)
def tAndV (ta tb:TE):TE:=fun σ H Q=>ta σ H fun x H1=>∃c,x=.bl c∧if c=true then tb σ H1 Q else Q (.bl false) H1
def tOrV (ta tb:TE):TE:=fun σ H Q=>ta σ H fun x H1=>∃c,x=.bl c∧if c=true then Q (.bl true) H1 else tb σ H1 Q
def tNotV (ta:TE):TE:=fun σ H Q=>ta σ H fun x H1=>∃c,x=.bl c∧Q (.bl (!c)) H1
theorem pe_one {op}{t:TE}(h:PE X a t):PE X (.BoolOp op [a] pos) t:=fun pins s σ H Q I hw=>BoolOp_one (h pins s σ H Q I hw)
theorem pe_and (ha:PE X a ta)(hb:PE X (.BoolOp .And (b::rest) pos) tb):PE X (.BoolOp .And (a::b::rest) pos) (tAndV ta tb):=by
 intro pins s σ H Q I h
 refine BoolOp_and (thn (ha pins s σ H _ I h) fun v s1 hq5=>?_)
 obtain⟨x,H1,I1,r1,q1⟩:=hq5
 obtain⟨c,rfl,q1⟩:=q1
 cases r1
 refine wpAny_truthy_bool ?_
 cases c with
 | true=>exact hb pins s1 σ H1 Q I1 q1
 | false=>exact⟨.bl false,H1,I1,rfl,q1⟩
theorem pe_or (ha:PE X a ta)(hb:PE X (.BoolOp .Or (b::rest) pos) tb):PE X (.BoolOp .Or (a::b::rest) pos) (tOrV ta tb):=by
 intro pins s σ H Q I h
 refine BoolOp_or (thn (ha pins s σ H _ I h) fun v s1 hq6=>?_)
 obtain⟨x,H1,I1,r1,q1⟩:=hq6
 obtain⟨c,rfl,q1⟩:=q1
 cases r1
 refine wpAny_truthy_bool ?_
 cases c with
 | false=>exact hb pins s1 σ H1 Q I1 q1
 | true=>exact⟨.bl true,H1,I1,rfl,q1⟩
theorem pe_not (ha:PE X a ta):PE X (.UnaryOp .Not a pos) (tNotV ta):=by
 intro pins s σ H Q I h
 refine UnaryOp_ (thn (ha pins s σ H _ I h) fun v s1 hq7=>?_)
 obtain⟨x,H1,I1,r1,q1⟩:=hq7
 obtain⟨c,rfl,q1⟩:=q1
 cases r1
 exact not_of (wpAny_truthy_bool ⟨.bl (!c),H1,I1,rfl,q1⟩)
def tIf (t:TT)(ta tb:TE):TE:=fun σ H Q=>t σ H fun c H1=>if c=true then ta σ H1 Q else tb σ H1 Q
theorem pe_ifExp {c:Expr}(hc:PT X c tA)(ha:PE X a ta)(hb:PE X b tb):PE X (.IfExp c a b pos) (tIf tA ta tb):=by
 intro pins s σ H Q I h
 refine wpAny_IfExp (thn (hc pins s σ H _ I h) fun d s1 hq8=>?_)
 obtain⟨H1,I1,q1⟩:=hq8
 cases d with
 | true=>exact ha pins s1 σ H1 Q I1 q1
 | false=>exact hb pins s1 σ H1 Q I1 q1
end
end L2
namespace L2
open PySem PySem.Spec PyProof.Rows
def SqL (K:PySem.W.Frag)(H:Hp)(a:Addr)(xs:List V):Prop :=
 Rd H a (.lst xs) ∨
  ∃(o:Obj) (its:Array Value) (n:Nat),K.lookup a=some o∧o.cls=.type "list" ∧ o.dict=none∧o.data=.seq its n∧its.size≤sizeLine∧Vals xs its.toList
def SqT (K:PySem.W.Frag)(H:Hp)(a:Addr)(xs:List V):Prop :=
 Rd H a (.tup xs) ∨
  ∃(o:Obj) (its:Array Value) (n:Nat),K.lookup a=some o∧o.cls=.type "tuple" ∧ o.dict=none∧o.data=.seq its n∧its.size≤sizeLine∧Vals xs its.toList
def absV:Value→Option V
 | .none=>some .non
 | .bool b=>some (.bl b)
 | .int i _=>some (.int i)
 | .str x _=>some (.str x)
 | .bytes b _=>some (.byt b)
 | .float b _=>some (.flt b)
 | .ref a=>some (.ref a)
 | .type n=>some (.ty n)
 | _=>none
theorem RelV.abs {x:V}{u:Value}(r:RelV x u):absV u=some x:=by
 cases x with
 | non=>cases r;rfl
 | bl _=>cases r;rfl
 | int _=>obtain⟨t,rfl⟩:=r;rfl
 | str _=>obtain⟨t,rfl⟩:=r;rfl
 | byt _=>obtain⟨t,rfl⟩:=r;rfl
 | flt _=>obtain⟨t,rfl⟩:=r;rfl
 | ref _=>cases r;rfl
 | ty _=>cases r;rfl
theorem RelV.inj {x y:V}{u:Value}(r:RelV x u)(q:RelV y u):x=y:=Option.some.inj (r.abs.symm.trans q.abs)
theorem Vals.inj:∀{xs ys:List V}{us:List Value},Vals xs us→Vals ys us→xs=ys:=by
 intro xs ys us h k
 induction h generalizing ys with
 | nil=>cases k;rfl
 | cons r t ih=>cases k with|cons r' t'=>rw[r.inj r',ih t']
section
variable {X:Cx}{pins:List (Addr×Obj)}{σ:St}{H:Hp}{s:Shared}{a:Addr}{xs ys:List V}
theorem SqL.of {K:PySem.W.Frag}(h:H a=some (.lst xs)):SqL K H a xs:=.inl (.inl h)
theorem SqT.of {K:PySem.W.Frag}(h:H a=some (.tup xs)):SqT K H a xs:=.inl (.inl h)
theorem Inv.list (I:Inv X pins σ H s)(h:SqL X.K H a xs):∃its:List Value,Vals xs its∧PlainL s.heap a its.toArray∧xs.length≤sizeLine:=by
 rcases h with h|⟨o,its,n,hk,hc,hd,hs,hz,r⟩
 ·obtain⟨z,its,n,r,e⟩:=h.ok I.hok
  exact⟨its,r,⟨_,n,e,rfl,rfl,rfl⟩,z⟩
 ·refine⟨its.toList,r,⟨o,n,I.kIn a o hk,hc,hd,by simpa using hs⟩,?_⟩
  have e:=r.length
  simp only[Array.length_toList] at e
  omega
theorem Inv.tuple (I:Inv X pins σ H s)(h:SqT X.K H a xs):∃its:List Value,Vals xs its∧IsTup s.heap a its.toArray∧xs.length≤sizeLine:=by
 rcases h with h|⟨o,its,n,hk,hc,_,hs,hz,r⟩
 ·obtain⟨z,its,r,p⟩:=h.ok I.hok
  exact⟨its,r,p.tup,z⟩
 ·refine⟨its.toList,r,⟨o,I.kIn a o hk,hc,n,by simpa using hs⟩,?_⟩
  have e:=r.length
  simp only[Array.length_toList] at e
  omega
theorem Inv.noDict (I:Inv X pins σ H s)(h:SqT X.K H a xs):∃o,s.heap.get? a=some o∧o.cls=.type "tuple" ∧ o.dict=none:=by
 rcases h with h|⟨o,its,n,hk,hc,hd,hs,hz,r⟩
 ·obtain⟨z,its,r,o,e,c,_,d⟩:=h.ok I.hok
  exact⟨o,e,c,d⟩
 ·exact⟨o,I.kIn a o hk,hc,hd⟩
theorem Inv.list_inj (I:Inv X pins σ H s)(h:SqL X.K H a xs)(h':SqL X.K H a ys):xs=ys:=by
 obtain⟨its,r,⟨o,n,e,_,_,d⟩,_⟩:=I.list h
 obtain⟨its',r',⟨o',n',e',_,_,d'⟩,_⟩:=I.list h'
 rw[e] at e';cases e'
 rw[d] at d'
 injection d' with d1 _
 have:its=its':=by simpa using congrArg Array.toList d1
 subst this
 exact r.inj r'
theorem Inv.tuple_inj (I:Inv X pins σ H s)(h:SqT X.K H a xs)(h':SqT X.K H a ys):xs=ys:=by
 obtain⟨its,r,⟨o,e,_,n,d⟩,_⟩:=I.tuple h
 obtain⟨its',r',⟨o',e',_,n',d'⟩,_⟩:=I.tuple h'
 rw[e] at e';cases e'
 rw[d] at d'
 injection d' with d1 _
 have:its=its':=by simpa using congrArg Array.toList d1
 subst this
 exact r.inj r'
end
abbrev Cx.wish (X:Cx)(E:Value→Shared→Prop):Cx:={X with xe:=E}
abbrev Cx.nox (X:Cx):Cx:=X.wish fun _ _=>False
theorem Cx.Ok.wish {X:Cx}(ok:X.Ok)(E:Value→Shared→Prop):(X.wish E).Ok :=
 ⟨ok.mod,ok.kind,ok.glob,ok.blt,ok.above,ok.inj,ok.has,ok.cab,ok.hd,ok.frames,ok.stk,ok.exf,ok.bs,ok.bsz,ok.noex,ok.exfs,ok.funs,ok.frf⟩
theorem Cx.Ok.unwish {X:Cx}{E:Value→Shared→Prop}(ok:(X.wish E).Ok):X.Ok :=
 ⟨ok.mod,ok.kind,ok.glob,ok.blt,ok.above,ok.inj,ok.has,ok.cab,ok.hd,ok.frames,ok.stk,ok.exf,ok.bs,ok.bsz,ok.noex,ok.exfs,ok.funs,ok.frf⟩
section
variable {X:Cx}{pins:List (Addr×Obj)}{σ:St}{H:Hp}{s:Shared}{E:Value→Shared→Prop}
theorem Inv.wish (I:Inv X pins σ H s)(E:Value→Shared→Prop):Inv (X.wish E) pins σ H s:=⟨I.ok.wish E,I.os,I.bare,I.base,I.loc,I.cell,I.free,I.freeC,I.pin,I.hok,I.len⟩
theorem Inv.unwish (I:Inv (X.wish E) pins σ H s):Inv X pins σ H s:=⟨I.ok.unwish,I.os,I.bare,I.base,I.loc,I.cell,I.free,I.freeC,I.pin,I.hok,I.len⟩
theorem SP.unwish {D:Ends}{f:Flow}{s':Shared}(h:SP (X.wish E) pins D f s'):SP X pins D f s':=by
 cases f with
 | next=>obtain⟨σ',H',I,q⟩:=h;exact⟨σ',H',I.unwish,q⟩
 | brk=>obtain⟨σ',H',I,q⟩:=h;exact⟨σ',H',I.unwish,q⟩
 | cont=>obtain⟨σ',H',I,q⟩:=h;exact⟨σ',H',I.unwish,q⟩
 | ret u=>obtain⟨v,σ',H',I,r,q⟩:=h;exact⟨v,σ',H',I.unwish,r,q⟩
theorem PE.nox {e:Expr}{t:TE}(h:PE X.nox e t):PE X e t:=fun pins s σ H Q I hw =>
 wpAny_mono (h pins s σ H Q (I.wish _) hw) (fun _ _ ⟨v,H',I',r,q⟩=>⟨v,H',I'.unwish,r,q⟩) fun _ _ z=>False.elim z
theorem PT.nox {e:Expr}{t:TT}(h:PT X.nox e t):PT X e t:=fun pins s σ H Q I hw =>
 wpAny_mono (h pins s σ H Q (I.wish _) hw) (fun _ _ ⟨H',I',q⟩=>⟨H',I'.unwish,q⟩) fun _ _ z=>False.elim z
theorem PSs.nox {st:List Stmt}{t:TS}(h:PSs X.nox st t):PSs X st t:=fun pins s σ H D I hw =>
 wpAny_mono (h pins s σ H D (I.wish _) hw) (fun _ _ q=>q.unwish) fun _ _ z=>False.elim z
end
section
variable {X:Cx}{st:Stmt}{rest:List Stmt}{t u:TS}{e:Expr}{te:TE}{pos:Pos}
def tNext:TS:=fun D σ H=>D.nx σ H
def tSeq (t u:TS):TS:=fun D σ H=>t {D with nx:=u D} σ H
theorem pss_nil:PSs X [] tNext:=fun _ _ σ H _ I h=>wpAny_execs_nil ⟨σ,H,I,h⟩
theorem pss_cons (h1:PS X st t)(h2:PSs X rest u):PSs X (st::rest) (tSeq t u):=by
 intro pins s σ H D I h
 refine wpAny_execs_cons (thn (h1 pins s σ H {D with nx:=u D} I h) fun f s1 q=>?_)
 cases f with
 | next =>
  obtain⟨σ',H',I',q⟩:=q
  exact h2 pins s1 σ' H' D I' q
 | ret v=>exact q
 | brk=>exact q
 | cont=>exact q
theorem pss_one (h1:PS X st t):PSs X [st] t:=by
 intro pins s σ H D I h
 refine wpAny_execs_cons (thn (h1 pins s σ H D I h) fun f s1 q=>?_)
 cases f with
 | next=>exact wpAny_execs_nil q
 | ret v=>exact q
 | brk=>exact q
 | cont=>exact q
theorem Inv.quiet {pins:List (Addr×Obj)}{σ:St}{H:Hp}{s:Shared}(I:Inv X pins σ H s):interactive X.env=false:=by simp[interactive,I.ok.kind]
def tDrop (te:TE):TS:=fun D σ H=>te σ H fun _ H1=>D.nx σ H1
theorem ps_expr (he:PE X e te)(hs:swapsWith e none pos.line X.env=pure false:=by rfl):PS X (.Expr e pos) (tDrop te):=by
 intro pins s σ H D I h
 exact wpAny_Expr_any (thn (he pins s σ H _ I h) fun v s1 ⟨x,H1,I1,r1,q1⟩=>⟨σ,H1,I1,q1⟩) I.quiet hs
def tRet (te:TE):TS:=fun D σ H=>te σ H D.rt
theorem ps_ret (he:PE X e te):PS X (.Return (some e) pos) (tRet te):=by
 intro pins s σ H D I h
 exact wpAny_Return_some (thn (he pins s σ H _ I h) fun v s1 ⟨x,H1,I1,r1,q1⟩=>⟨x,σ,H1,I1,r1,q1⟩)
def tIfS (c:TT)(t u:TS):TS:=fun D σ H=>c σ H fun b H1=>if b=true then t D σ H1 else u D σ H1
theorem ps_if {c:Expr}{a b:List Stmt}{tc:TT}(hc:PT X c tc)(ha:PSs X a t)(hb:PSs X b u):PS X (.If c a b pos) (tIfS tc t u):=by
 intro pins s σ H D I h
 refine wpAny_If (thn (hc pins s σ H _ I h) fun d s1 hq9=>?_)
 obtain⟨H1,I1,q1⟩:=hq9
 cases d with
 | true=>exact ha pins s1 σ H1 D I1 q1
 | false=>exact hb pins s1 σ H1 D I1 q1
end
abbrev TG:=V→St→Hp→(St→Hp→Prop)→Prop
abbrev TGs:=List V→St→Hp→(St→Hp→Prop)→Prop
def PG (X:Cx)(target:Expr)(t:TG):Prop :=
 ∀ (pins:List (Addr×Obj)) (s:Shared) (σ:St) (H:Hp) (v:V) (u:Value) (Q:St→Hp→Prop),Inv X pins σ H s→RelV v u→t v σ H Q →
  wpAny (model X.prog X.w) X.A (assign target X.env u) (fun _ s'=>∃σ' H',Inv X pins σ' H' s'∧Q σ' H') X.xe s
def PGs (X:Cx)(ts:List Expr)(t:TGs):Prop :=
 ∀ (pins:List (Addr×Obj)) (s:Shared) (σ:St) (H:Hp) (vs:List V) (us:List Value) (Q:St→Hp→Prop),Inv X pins σ H s→Vals vs us→t vs σ H Q →
  wpAny (model X.prog X.w) X.A (assignInOrder ((assignEach ts X.env).map (·.2)) us) (fun _ s'=>∃σ' H',Inv X pins σ' H' s'∧Q σ' H') X.xe s
section
variable {X:Cx}{pos:Pos}
def gName (i:Nat):TG:=fun v σ H Q=>Q (σ.set i (some v)) H
theorem yd {i:Nat}{x:Str}(hN:X.N.Nodup)(hi:X.N[i]? = some x)(hx:Loc X.env.scope x)(hf:X.fn x=true∨X.env.scope.names.lookup x=some .local:=by first|exact .inl rfl|exact .inr rfl|assumption):PG X (.Name x pos) (gName i):=by
 intro pins s σ H v u Q I r h
 exact wpAny_assign_Name (store_ok I hN hi hx r (fun s' I'=>⟨_,H,I',h⟩) hf)
def gNil:TGs:=fun vs σ H Q=>vs=[]∧Q σ H
def gCons (t:TG)(u:TGs):TGs:=fun vs σ H Q=>∃v r,vs=v::r∧t v σ H fun σ' H'=>u r σ' H' Q
theorem pgs_nil:PGs X [] gNil:=by
 intro pins s σ H vs us Q I r h
 obtain⟨e,h⟩:=h
 subst e
 cases r
 exact assignInOrder_nil ⟨σ,H,I,h⟩
theorem pgs_cons {e:Expr}{es:List Expr}{t:TG}{u:TGs}(h1:PG X e t)(h2:PGs X es u)
  (hs:(assignEach (e::es) X.env).map (·.2)=assign e X.env::(assignEach es X.env).map (·.2):=by rfl):PGs X (e::es) (gCons t u):=by
 intro pins s σ H vs us Q I r h
 obtain⟨v,vr,e1,h⟩:=h
 subst e1
 cases r with
 | cons r rr =>
  rw[hs]
  refine assignInOrder_cons (thn (h1 pins s σ H _ _ _ I r h) fun _ s1 hq10=>?_)
  obtain⟨σ1,H1,I1,q1⟩:=hq10
  exact h2 pins s1 σ1 H1 _ _ Q I1 rr q1
def gTup (K:PySem.W.Frag)(n:Nat)(t:TGs):TG:=fun v σ H Q=>∃a xs,v=.ref a∧SqT K H a xs∧xs.length=n∧t xs σ H Q
theorem pg_tup {es:List Expr}{k:Nat}{t:TGs}{n:Nat}(hc:X.calm=true)(h:PGs X es t)
  (hn:(assignEach es X.env).length=n:=by rfl) (hst:(assignEach es X.env).findIdx? (·.1)=none:=by rfl):PG X (.Tuple es k pos) (gTup X.K n t):=by
 intro pins s σ H v u Q I r hw
 obtain⟨a,xs,e1,hq,hl,hw⟩:=hw
 subst e1
 cases r
 obtain⟨its,rv,ht,hz⟩:=I.tuple hq
 refine assign_Tuple_tuple (I.ok.hd hc) ht (by simp[hn,← hl,rv.length]) hst fun h' hx=>?_
 have I1:Inv X pins σ H {s with heap:=h'}:=I.kept (t':=s.toks) fun b o e=>hx b o (Nat.ne_of_lt (Heap.lt_size e)) e
 exact h pins _ σ H xs _ Q I1 (by simpa using rv) hw
def tAsg (te:TE)(g:TG):TS:=fun D σ H=>te σ H fun x H1=>g x σ H1 D.nx
theorem ps_asg {tg e:Expr}{te:TE}{g:TG}(he:PE X e te)(hg:PG X tg g)(hs:swapsWithSole [tg] e pos.line X.env=pure false:=by rfl)(hw:swappedStores [tg] e X.env=pure none:=by rfl)
  (h1:(assignEach [tg] X.env).map (·.2)=[assign tg X.env]:=by rfl):PS X (.Assign [tg] e pos) (tAsg te g):=by
 intro pins s σ H D I h
 refine wpAny_Assign_stores (thn (he pins s σ H _ I h) fun v s1 ⟨x,H1,I1,r1,q1⟩=>?_) hs hw
 rw[h1]
 exact thn (hg pins s1 σ H1 x v _ I1 r1 q1) fun _ s2 ⟨a,b,I,q⟩=>⟨a,b,I,q⟩
theorem ps_set {i:Nat}{x:Str}{e:Expr}{te:TE}{pos':Pos}(hN:X.N.Nodup)(hi:X.N[i]? = some x)(hx:Loc X.env.scope x)(he:PE X e te)(hs:swapsWith e (some (.Name x pos')) pos.line X.env=pure false:=by rfl)(hf:X.fn x=true∨X.env.scope.names.lookup x=some .local:=by first|exact .inl rfl|exact .inr rfl|assumption) :
  PS X (.Assign [.Name x pos'] e pos) (tAsg te (gName i)):=by
 intro pins s σ H D I h
 refine wpAny_Assign_Name (thn (he pins s σ H _ I h) fun v s1 ⟨y,H1,I1,r1,q1⟩=>?_) hs
 exact store_ok I1 hN hi hx r1 (fun s2 I2=>⟨_,H1,I2,q1⟩) hf
end
section
variable {X:Cx}{pos:Pos}
def tWhile (c:TT)(tb:TS):TS:=fun D σ H=>∃W:Nat→St→Hp→Prop,(∃m,W m σ H)∧∀m σ H,W m σ H →
 c σ H fun b H1=>if b=true then ∃N:St→Hp→Prop,(∀σ' H',N σ' H'→∃m',m'<m∧W m' σ' H')∧tb {D with nx:=N,ct:=N,bk:=D.nx} σ H1 else D.nx σ H1
theorem ps_while {c:Expr}{body:List Stmt}{tc:TT}{tb:TS}(hp:PassesOwn (model X.prog X.w) X.A X.env X.xe)(hc:PT X c tc)(hb:PSs X body tb):PS X (.While c body [] pos) (tWhile tc tb):=by
 intro pins s σ H D I h
 obtain⟨W,⟨m0,w0⟩,turn⟩:=h
 refine wpAny_While (codeAny_whileLoop (fun n s'=>∃σ' H',Inv X pins σ' H' s'∧W n σ' H') ?_ m0 ⟨σ,H,I,w0⟩)
 rintro n s1 ⟨σ1,H1,I1,w1⟩
 refine wpAny_passesOwn hp (thn (hc pins s1 σ1 H1 _ I1 (turn n σ1 H1 w1)) fun b s2 hq11=>?_)
 obtain⟨H2,I2,q2⟩:=hq11
 cases b with
 | true =>
  obtain⟨N,hN,q2⟩:=q2
  rw[if_pos rfl]
  refine wpAny_passesOwn hp (thn (hb pins s2 σ1 H2 _ I2 q2) fun f s3 q3=>?_)
  cases f with
  | next =>
   obtain⟨σ3,H3,I3,n3⟩:=q3
   obtain⟨m',hm,w3⟩:=hN σ3 H3 n3
   exact⟨m',hm,σ3,H3,I3,w3⟩
  | cont =>
   obtain⟨σ3,H3,I3,n3⟩:=q3
   obtain⟨m',hm,w3⟩:=hN σ3 H3 n3
   exact⟨m',hm,σ3,H3,I3,w3⟩
  | brk=>exact q3
  | ret v=>exact q3
 | false =>
  rw[if_neg Bool.false_ne_true]
  exact wpAny_execs_nil ⟨σ1,H2,I2,q2⟩
end
structure It where
 go:Nat→Hp→Prop
 yld:Nat→Hp→V→Hp→Prop
 stop:Nat→Hp→Prop
def FpOk (X:Cx)(pins:List (Addr×Obj))(H:Hp)(b:Addr):Prop :=
 H b=none∧b≠X.env.locals∧b∉X.fs∧(b∈X.ex∨X.s₀.heap.objs.size≤b)∧(∀x c,X.env.cells.lookup x=some c→c≠b)∧∀p∈X.pn++pins,p.1≠b
theorem Inv.fpOk {X:Cx}{pins:List (Addr×Obj)}{σ:St}{H H':Hp}{s:Shared}{b:Addr}(I:Inv X pins σ H s)(hb:s.heap.objs.size≤b)(hn:H' b=none):FpOk X pins H' b:=by
 refine⟨hn,Nat.ne_of_gt (Nat.lt_of_lt_of_le I.lt hb),I.nofs hb,.inr (Nat.le_trans I.sz hb),fun x c e z=>?_,fun p hp z=>?_⟩
 ·obtain⟨v,q⟩:=I.cell x c e
  exact absurd (Nat.lt_of_lt_of_le q.lt (by rw[z];exact hb)) (Nat.lt_irrefl _)
 ·exact absurd (Nat.lt_of_lt_of_le (Heap.lt_size (I.pin p hp).1) (by rw[z];exact hb)) (Nat.lt_irrefl _)
structure Turn (P:Program)(w:World)(K:PySem.W.Frag)(tg:Expr)(J:It)(fp:List Addr)(it:Addr)(tn:Nat→Heap→Prop):Prop where
 mem:it∈fp
 obj:∀i h,tn i h→∀b∈fp,∃o,h.get? b=some o∧∀v,o.data≠.cell v
 keep:∀i h h',tn i h→(∀b∈fp,∀o,h.get? b=some o→h'.get? b=some o)→tn i h'
 item:∀(X:Cx),X.prog=P→X.w=w→X.K=K→X.calm=true→∀(i:Nat) (pins:List (Addr×Obj)) (s:Shared) (σ:St) (H:Hp) (E:Value→Shared→Prop),Inv X pins σ H s→(∀b∈fp,FpOk X pins H b)→tn i s.heap→J.go i H →
  wpAny (model P w) X.A (pyNext (.ref it)) (fun r s1=>∃u,r=some u ∧
   wpAny (model P w) X.A (letOwnedTupleGo tg (.ref it) u) (fun _ s2=>∃x H',Inv X pins σ H' s2∧RelV x u∧J.yld i H x H'∧tn (i+1) s2.heap∧∀b∈fp,H' b=none) E s1) E s
 done:∀(X:Cx),X.prog=P→X.w=w→X.K=K→X.calm=true→∀(i:Nat) (pins:List (Addr×Obj)) (s:Shared) (σ:St) (H:Hp) (E:Value→Shared→Prop),Inv X pins σ H s→(∀b∈fp,FpOk X pins H b)→tn i s.heap→J.stop i H →
  wpAny (model P w) X.A (pyNext (.ref it)) (fun r s1=>r=none∧Inv X pins σ H s1) E s
 self:∀(A:Around) (i:Nat) (s:Shared) (Q:Value→Shared→Prop) (E:Value→Shared→Prop),tn i s.heap→Q (.ref it) s→wpAny (model P w) A (pyIter (.ref it)) Q E s
abbrev TI:=St→Hp→(It→Hp→Prop)→Prop
inductive PIE (X:Cx)(pins:List (Addr×Obj))(σ:St)(tg:Expr)(R:It→Hp→Prop)(itv:Value)(s2:Shared):Prop
 | mk (it:Addr) (fp:List Addr) (tn:Nat→Heap→Prop) (J:It) (H':Hp) (e:itv=.ref it) (I:Inv X pins σ H' s2) (T:Turn X.prog X.w X.K tg J fp it tn) (z:tn 0 s2.heap) (f:(∀b∈fp,FpOk X pins H' b)) (q:R J H')
def PI (X:Cx)(tg iter:Expr)(wi:TI):Prop :=
 ∀ (pins:List (Addr×Obj)) (s:Shared) (σ:St) (H:Hp) (R:It→Hp→Prop),Inv X pins σ H s→wi σ H R →
  wpAny (model X.prog X.w) X.A (eval iter X.env) (fun v s1=>wpAny (model X.prog X.w) X.A (pyIter v) (PIE X pins σ tg R) X.xe s1) X.xe s
theorem go_of {M:Model}{A:Around}{E:Value→Shared→Prop}{s:Shared}{tg:Expr}{it:Addr}{u:Value}{o:Obj}{n:String}{vs:Array Value}{Q:Unit→Shared→Prop}(ho:s.heap.get? it=some o)(hc:o.cls=.type n)(hd:o.data=.fields vs)
  (hn:["enumerate", "zip", "dict_itemiterator", "dict_reverseitemiterator", "odict_iterator", "itertools.zip_longest", "itertools.pairwise"].contains n=false) (hQ:Q () s):wpAny M A (letOwnedTupleGo tg (.ref it) u) Q E s:=by
 unfold letOwnedTupleGo
 cases tg <;>first
  | exact wpAny_pure hQ
  | (cases u <;>first
    | exact wpAny_pure hQ
    | (refine wpAny_bind (wpAny_load ho ?_)
       rw[hc,hd]
       show wpAny M A (if (["enumerate", "zip", "dict_itemiterator", "dict_reverseitemiterator", "odict_iterator", "itertools.zip_longest", "itertools.pairwise"].contains n&&vs[0]? == some (rawInt _))=true then _ else _) Q E s
       rw[if_neg (by intro h;rw[hn,Bool.false_and] at h;cases h)]
       exact wpAny_pure hQ))
def Itl (K:PySem.W.Frag)(a:Addr):It :=
 ⟨fun i H=>∃xs x,SqL K H a xs∧xs[i]? = some x,fun i H x H'=>H'=H∧∀xs,SqL K H a xs→xs[i]? = some x,fun i H=>∃xs,SqL K H a xs∧xs.length≤i⟩
def Itt (K:PySem.W.Frag)(a:Addr):It :=
 ⟨fun i H=>∃xs x,SqT K H a xs∧xs[i]? = some x,fun i H x H'=>H'=H∧∀xs,SqT K H a xs→xs[i]? = some x,fun i H=>∃xs,SqT K H a xs∧xs.length≤i⟩
def Itr (lo:Int)(n:Nat):It:=⟨fun i _=>i<n,fun i H x H'=>H'=H∧x=.int (lo+i),fun i _=>n≤i⟩
theorem turn_list {P:Program}{w:World}{K:PySem.W.Frag}{tg:Expr}(a it:Addr):Turn P w K tg (Itl K a) [it] it (fun i h=>h.IsListIter it a i) where
 mem:=by simp
 obj:=fun i h st b hb=>by
  have e:b=it:=by simpa using hb
  subst e
  obtain⟨o,e,c,d⟩:=st
  exact⟨o,e,fun v z=>by rw[d] at z;cases z⟩
 keep:=fun i h h' st k=>st.at fun o e=>k it (by simp) o e
 item:=by
  intro X hP hw hK hc i pins s σ H E I hf st hg
  subst hP hw hK
  obtain⟨xs,x,hq,hx⟩:=hg
  obtain⟨its,rv,p,hz⟩:=I.list hq
  obtain⟨u,hu,ru⟩:=rv.get hx
  obtain⟨f0,f1,f2,f3,f4,f5⟩:=hf it (by simp)
  refine wpAny_pyNext_list_item st p.isList (x:=u) (by simpa using hu) fun h' st' sb=>?_
  have I1:Inv X pins σ H {s with heap:=h'}:=I.turned (t':=s.toks) (fun b o hb e=>(sb.2 b hb).trans e) f0 f1 f3 f4 f5
  obtain⟨o,e,c,d⟩:=id st'
  exact⟨u,rfl,go_of (s:={s with heap:=h'}) e c d (by decide) ⟨x,H,I1,ru,⟨rfl,fun ys hy=>by rw[I.list_inj hy hq];exact hx⟩,st',fun b hb=>(hf b hb).1⟩⟩
 done:=by
  intro X hP hw hK hc i pins s σ H E I hf st hg
  subst hP hw hK
  obtain⟨xs,hq,hx⟩:=hg
  obtain⟨its,rv,p,hz⟩:=I.list hq
  obtain⟨f0,f1,f2,f3,f4,f5⟩:=hf it (by simp)
  have hl:=rv.length
  exact wpAny_pyNext_list_end (I.ok.hd hc) st p.isList (by simp;omega) fun h' eb=>⟨rfl,I.turned (t':=s.toks) (fun b o hb e=>eb b o hb e) f0 f1 f3 f4 f5⟩
 self:=fun _ _ _ _ _ st h=>wpAny_pyIter_listiter st h
theorem turn_tuple {P:Program}{w:World}{K:PySem.W.Frag}{tg:Expr}(a it:Addr):Turn P w K tg (Itt K a) [it] it (fun i h=>h.IsTupleIter it a i) where
 mem:=by simp
 obj:=fun i h st b hb=>by
  have e:b=it:=by simpa using hb
  subst e
  obtain⟨o,e,c,d⟩:=st
  exact⟨o,e,fun v z=>by rw[d] at z;cases z⟩
 keep:=fun i h h' st k=>st.at fun o e=>k it (by simp) o e
 item:=by
  intro X hP hw hK hc i pins s σ H E I hf st hg
  subst hP hw hK
  obtain⟨xs,x,hq,hx⟩:=hg
  obtain⟨its,rv,p,hz⟩:=I.tuple hq
  obtain⟨u,hu,ru⟩:=rv.get hx
  obtain⟨f0,f1,f2,f3,f4,f5⟩:=hf it (by simp)
  refine wpAny_pyNext_tuple_item st (show s.heap.IsTuple a its.toArray from p) (x:=u) (by simpa using hu) fun h' st' sb=>?_
  have I1:Inv X pins σ H {s with heap:=h'}:=I.turned (t':=s.toks) (fun b o hb e=>(sb.2 b hb).trans e) f0 f1 f3 f4 f5
  obtain⟨o,e,c,d⟩:=id st'
  exact⟨u,rfl,go_of (s:={s with heap:=h'}) e c d (by decide) ⟨x,H,I1,ru,⟨rfl,fun ys hy=>by rw[I.tuple_inj hy hq];exact hx⟩,st',fun b hb=>(hf b hb).1⟩⟩
 done:=by
  intro X hP hw hK hc i pins s σ H E I hf st hg
  subst hP hw hK
  obtain⟨xs,hq,hx⟩:=hg
  obtain⟨its,rv,p,hz⟩:=I.tuple hq
  obtain⟨f0,f1,f2,f3,f4,f5⟩:=hf it (by simp)
  have hl:=rv.length
  exact wpAny_pyNext_tuple_end (I.ok.hd hc) st (show s.heap.IsTuple a its.toArray from p) (by simp;omega) fun h' eb=>⟨rfl,I.turned (t':=s.toks) (fun b o hb e=>eb b o hb e) f0 f1 f3 f4 f5⟩
 self:=fun _ _ _ _ _ st h=>wpAny_pyIter_tupleiter st h
theorem turn_range {P:Program}{w:World}{K:PySem.W.Frag}{tg:Expr}(it:Addr)(lo:Int)(n:Nat):Turn P w K tg (Itr lo n) [it] it (fun i h=>IsRangeIter h it (lo+(i:Nat)*1) ((n:Int) - (i:Nat)) 1) where
 mem:=by simp
 obj:=fun i h st b hb=>by
  have e:b=it:=by simpa using hb
  subst e
  exact ⟨_,st,fun v z=>by
   have z':Data.fields _=Data.cell v:=z
   cases z'⟩
 keep:=fun i h h' st k=>k it (by simp) _ st
 item:=by
  intro X hP hw hK hc i pins s σ H E I hf st hg
  subst hP hw hK
  obtain⟨f0,f1,f2,f3,f4,f5⟩:=hf it (by simp)
  have W:=Walks.range (prog:=X.prog) (w:=X.w) (I.ok.hd hc) it lo 1 n
  refine W.item i s _ _ hg st fun v h' tk hv st' kk=>?_
  obtain⟨t,rfl⟩:=hv
  have I1:Inv X pins σ H {s with heap:=h',toks:=tk}:=I.turned (fun b o hb e=>kk b o (by simpa using hb) e) f0 f1 f3 f4 f5
  refine⟨_,rfl,go_of (s:={s with heap:=h',toks:=tk}) (n := "range_iterator") st' rfl rfl (by decide) ⟨.int (lo+i),H,I1,⟨t,?_⟩,⟨rfl,rfl⟩,st',fun b hb=>(hf b hb).1⟩⟩
  rw[Int.mul_one]
 done:=by
  intro X hP hw hK hc i pins s σ H E I hf st hg
  subst hP hw hK
  obtain⟨f0,f1,f2,f3,f4,f5⟩:=hf it (by simp)
  exact wpAny_pyNext_range_end (I.ok.hd hc) st (by have:n≤i:=hg;omega) fun h' eb=>⟨rfl,I.turned (t':=s.toks) (fun b o hb e=>eb b o hb e) f0 f1 f3 f4 f5⟩
 self:=fun _ _ _ _ _ st h=>wpAny_pyIter_rangeiter st h
end L2
namespace L2
open PySem PySem.Spec PyProof.Rows
section
variable {X:Cx}{tg:Expr}
def iList (K:PySem.W.Frag)(tl:TE):TI:=fun σ H R=>tl σ H fun x H1=>∃a,x=.ref a∧(∃xs,SqL K H1 a xs)∧R (Itl K a) H1
def iTup (K:PySem.W.Frag)(tl:TE):TI:=fun σ H R=>tl σ H fun x H1=>∃a,x=.ref a∧(∃xs,SqT K H1 a xs)∧R (Itt K a) H1
theorem pi_list {l:Expr}{tl:TE}(hl:PE X l tl):PI X tg l (iList X.K tl):=by
 intro pins s σ H R I h
 refine thn (hl pins s σ H _ I h) fun v s1 hq12=>?_
 obtain⟨x,H1,I1,r1,q1⟩:=hq12
 obtain⟨a,e,⟨xs,hq⟩,q⟩:=q1
 subst e
 cases r1
 obtain⟨its,rv,p,hz⟩:=I1.list hq
 refine wpAny_pyIter_list p.isList ?_
 refine⟨s1.heap.objs.size,[s1.heap.objs.size],_,_,H1,rfl,I1.kept (t':=s1.toks) fun b o e=>Heap.get?_push_of_some _ e,turn_list a _,⟨_,Heap.get?_push_size _ rfl,rfl,rfl⟩,fun b hb=>?_,q⟩
 have e:b=s1.heap.objs.size:=by simpa using hb
 subst e
 exact I1.fpOk (Nat.le_refl _) (I1.hok.fresh (Nat.le_refl _))
theorem pi_tup {l:Expr}{tl:TE}(hl:PE X l tl):PI X tg l (iTup X.K tl):=by
 intro pins s σ H R I h
 refine thn (hl pins s σ H _ I h) fun v s1 hq13=>?_
 obtain⟨x,H1,I1,r1,q1⟩:=hq13
 obtain⟨a,e,⟨xs,hq⟩,q⟩:=q1
 subst e
 cases r1
 obtain⟨its,rv,p,hz⟩:=I1.tuple hq
 refine wpAny_pyIter_tuple (show s1.heap.IsTuple a its.toArray from p) ?_
 refine⟨s1.heap.objs.size,[s1.heap.objs.size],_,_,H1,rfl,I1.kept (t':=s1.toks) fun b o e=>Heap.get?_push_of_some _ e,turn_tuple a _,⟨_,Heap.get?_push_size _ rfl,rfl,rfl⟩,fun b hb=>?_,q⟩
 have e:b=s1.heap.objs.size:=by simpa using hb
 subst e
 exact I1.fpOk (Nat.le_refl _) (I1.hok.fresh (Nat.le_refl _))
theorem range_it {pins:List (Addr×Obj)}{σ:St}{H:Hp}{s:Shared}{R:It→Hp→Prop}{E:Value→Shared→Prop}{lo hi:Int}{t u v:Tok}{tk:Nat}(I:Inv X pins σ H s)(h1:-(2 ^ 62)≤lo)(h2:lo<2 ^ 62)(h3:-(2 ^ 62)≤hi)(h4:hi<2 ^ 62)
  (q:R (Itr lo (hi - lo).toNat) H):wpAny (model X.prog X.w) X.A (pyIter (.ref s.heap.objs.size)) (PIE X pins σ tg R) E {s with heap:=s.heap.push {cls:=.type "range", data:=.fields #[.int lo t,.int hi u,.int 1 v]},toks:=tk}:=by
 refine wpAny_pyIter_range (IsRange.new ..) (small_one h1 h2 h3 h4) ?_
 have I1:Inv X pins σ H {s with heap:=s.heap.push {cls:=.type "range", data:=.fields #[.int lo t,.int hi u,.int 1 v]},toks:=tk}:=I.kept fun b o e=>Heap.get?_push_of_some _ e
 refine ⟨(s.heap.push {cls:=.type "range", data:=.fields #[.int lo t,.int hi u,.int 1 v]}).objs.size,[(s.heap.push {cls:=.type "range", data:=.fields #[.int lo t,.int hi u,.int 1 v]}).objs.size],_,_,H,rfl,
  I1.kept (t':=tk) fun b o e=>Heap.get?_push_of_some _ e,turn_range _ lo (hi - lo).toNat,?_,fun b hb=>?_,q⟩
 ·have e1:lo+((0:Nat):Int)*1=lo:=by simp
  have e2:(((hi - lo).toNat:Nat):Int) - ((0:Nat):Int)=Builtin.Range.rangeSize lo hi 1:=by rw[rangeSize_one];split <;>omega
  show IsRangeIter _ _ (lo+((0:Nat):Int)*1) ((((hi - lo).toNat:Nat):Int) - ((0:Nat):Int)) 1
  rw[e1,e2]
  exact Heap.get?_push_size _ rfl
 ·have e:b=(s.heap.push {cls:=.type "range", data:=.fields #[.int lo t,.int hi u,.int 1 v]}).objs.size:=by simpa using hb
  subst e
  exact I1.fpOk (Nat.le_refl _) (I1.hok.fresh (Nat.le_refl _))
def iRng1 (ta:TA):TI:=fun σ H R=>ta σ H fun vs H1=>∃j:Int,vs=[.int j]∧-(2 ^ 62)≤j∧j<2 ^ 62∧R (Itr 0 j.toNat) H1
def iRng2 (ta:TA):TI:=fun σ H R=>ta σ H fun vs H1=>∃i j:Int,vs=[.int i,.int j]∧(-(2 ^ 62)≤i∧i<2 ^ 62∧-(2 ^ 62)≤j∧j<2 ^ 62)∧R (Itr i (j - i).toNat) H1
theorem pi_range1 {a:Expr}{ta:TA}{p pos:Pos}(hg:Gl X "range")(hm:X.mg "range" = none)(ha:PA X [a] ta)(hs:starEach [a] X.env=[(false,eval a X.env)]:=by rfl):PI X tg (.Call (.Name "range" p) [a] [] pos) (iRng1 ta):=by
 intro pins s σ H R I h
 refine Call_ (ld_blt I hg hm boot_range (PyProof.Rows.callWith_type1 (thn (ha pos pins s σ H _ I h) fun us s1 ⟨vs,H1,I1,r1,q1⟩=>?_) hs rfl))
 obtain⟨j,e,q1,q2,q⟩:=q1
 subst e
 cases r1 with
 | cons r rr =>
  cases rr
  obtain⟨t,rfl⟩:=r
  exact call_range_1 (range_it I1 (by omega) (by omega) q1 q2 (by simpa using q))
theorem pi_range2 {a b:Expr}{ta:TA}{p pos:Pos}(hg:Gl X "range")(hm:X.mg "range" = none)(ha:PA X [a,b] ta)(hs:starEach [a,b] X.env=[(false,eval a X.env),(false,eval b X.env)]:=by rfl)(hs2:starEach [b] X.env=[(false,eval b X.env)]:=by rfl) :
  PI X tg (.Call (.Name "range" p) [a,b] [] pos) (iRng2 ta):=by
 intro pins s σ H R I h
 refine Call_ (ld_blt I hg hm boot_range (PyProof.Rows.callWith_type1 (thn (ha pos pins s σ H _ I h) fun us s1 hq14=>?_) (by rw[hs,hs2]) (by rw[hs2];rfl)))
 obtain⟨vs,H1,I1,r1,q1⟩:=hq14
 obtain⟨i,j,e,⟨q1,q2,q3,q4⟩,q⟩:=q1
 subst e
 cases r1 with
 | cons r rr =>
  cases rr with
  | cons r' rr =>
   cases rr
   obtain⟨t,rfl⟩:=r
   obtain⟨t',rfl⟩:=r'
   exact call_range_2 (range_it I1 q1 q2 q3 q4 q)
def tFor (wi:TI)(g:TG)(tb:TS):TS:=fun D σ H=>wi σ H fun J H1=>∃W:Nat→Nat→St→Hp→Prop,(∃m,W 0 m σ H1)∧∀i m σ H,W i m σ H →
 (J.stop i H∧D.nx σ H)∨(J.go i H∧∃N:St→Hp→Prop,(∀σ' H',N σ' H'→∃m',m'<m∧W (i+1) m' σ' H')∧∀x H',J.yld i H x H'→g x σ H' fun σ2 H2=>tb {D with nx:=N,ct:=N,bk:=D.nx} σ2 H2)
def pinsAt (fp:List Addr)(h:Heap):List (Addr×Obj):=fp.filterMap fun b=>(h.get? b).map fun o=>(b,o)
theorem mem_pinsAt {fp:List Addr}{h:Heap}{b:Addr}{o:Obj}(hb:b∈fp)(e:h.get? b=some o):(b,o)∈pinsAt fp h:=List.mem_filterMap.mpr ⟨b,hb,by rw[e];rfl⟩
theorem of_pinsAt {fp:List Addr}{h:Heap}{p:Addr×Obj}(hp:p∈pinsAt fp h):p.1∈fp∧h.get? p.1=some p.2:=by
 obtain⟨b,hb,e⟩:=List.mem_filterMap.mp hp
 cases q:h.get? b with
 | none=>rw[q] at e;cases e
 | some o =>
  rw[q] at e
  have e':(b,o)=p:=Option.some.inj e
  subst e'
  exact⟨hb,q⟩
theorem Inv.pinned {pins:List (Addr×Obj)}{σ:St}{H:Hp}{s:Shared}{fp:List Addr}(I:Inv X pins σ H s)(hf:∀b∈fp,FpOk X pins H b)(ho:∀b∈fp,∃o,s.heap.get? b=some o∧∀v,o.data≠.cell v):Inv X (pins++pinsAt fp s.heap) σ H s :=
 I.pins_of fun p hp=>(List.mem_append.mp hp).elim (fun z=>I.pin p (List.mem_append_right _ z)) fun z=>by
  obtain⟨hb,e⟩:=of_pinsAt z
  obtain⟨f0,f1,f2,_⟩:=hf p.1 hb
  obtain⟨o,e',d⟩:=ho p.1 hb
  rw[e] at e';cases e'
  exact⟨e,f0,f1,f2,d⟩
theorem Inv.unpinned {pins pl:List (Addr×Obj)}{σ:St}{H:Hp}{s:Shared}(I:Inv X (pins++pl) σ H s):Inv X pins σ H s:=I.pins_of fun p hp=>I.pin p (List.mem_append_right _ (List.mem_append_left _ hp))
theorem ps_for {iter:Expr}{body:List Stmt}{wi:TI}{g:TG}{tb:TS}{pos:Pos}(hp:PassesOwn (model X.prog X.w) X.A X.env X.xe)(hc:X.calm=true)(hi:PI X tg iter wi)(hg:PG X tg g)(hb:PSs X body tb)
  (hs:∀x,foldedSetIterable iter X.env x=pure x:=by intro _;rfl):PS X (.For tg iter body [] pos) (tFor wi g tb):=by
 intro pins s σ H D I h
 refine wpAny_For (thn (hi pins s σ H _ I h) fun v s1 h1=>thn h1 fun itv s2 h2=>?_) hs
 obtain⟨it,fp,tn,J,H2,e,I2,T,st2,f2,W,⟨m0,w0⟩,turn⟩:=h2
 subst e
 have stat:∀{H':Hp},(∀b∈fp,H' b=none)→∀b∈fp,FpOk X pins H' b:=fun hn b hb=>⟨hn b hb,(f2 b hb).2⟩
 refine codeAny_forLoop_any (fun n s'=>∃i σ' H',Inv X pins σ' H' s'∧tn i s'.heap∧(∀b∈fp,H' b=none)∧W i n σ' H') ?_ m0 ⟨0,σ,H2,I2,st2,fun b hb=>(f2 b hb).1,w0⟩
 rintro n s3 ⟨i,σ3,H3,I3,st3,fr3,w3⟩
 rcases turn i n σ3 H3 w3 with⟨stop,qn⟩|⟨go,N,hN,step⟩
 ·refine wpAny_passesOwn hp (thn (T.done X rfl rfl rfl hc i pins s3 σ3 H3 X.xe I3 (stat fr3) st3 stop) fun r s4 hq15=>?_)
  obtain⟨hr,I4⟩:=hq15
  subst hr
  exact wpAny_execs_nil ⟨σ3,H3,I4,qn⟩
 ·refine wpAny_passesOwn hp (thn (T.item X rfl rfl rfl hc i pins s3 σ3 H3 X.xe I3 (stat fr3) st3 go) fun r s4 hq16=>?_)
  obtain⟨u,hr,h4⟩:=hq16
  subst hr
  refine wpAny_passesOwn hp (thn h4 fun _ s5 hq17=>?_)
  obtain⟨x,H5,I5,r5,y5,st5,fr5⟩:=hq17
  have I5':=I5.pinned (stat fr5) (T.obj _ _ st5)
  refine wpAny_passesOwn hp (thn (hg _ s5 σ3 H5 x u _ I5' r5 (step x H5 y5)) fun _ s6 hq18=>?_)
  obtain⟨σ6,H6,I6,q6⟩:=hq18
  refine wpAny_passesOwn hp (thn (hb _ s6 σ6 H6 _ I6 q6) fun f s7 q7=>?_)
  have again:∀{σ7:St}{H7:Hp},Inv X (pins++pinsAt fp s5.heap) σ7 H7 s7→N σ7 H7→∃m,m<n∧∃i σ' H',Inv X pins σ' H' s7∧tn i s7.heap∧(∀b∈fp,H' b=none)∧W i m σ' H':=fun {σ7 H7} I7 n7=>by
   obtain⟨m',hm,w7⟩:=hN σ7 H7 n7
   refine⟨m',hm,i+1,σ7,H7,I7.unpinned,T.keep _ _ _ st5 fun b hb o e=>(I7.pin (b,o) (List.mem_append_right _ (List.mem_append_right _ (mem_pinsAt hb e)))).1,fun b hb=>?_,w7⟩
   obtain⟨o,e,d⟩:=T.obj _ _ st5 b hb
   exact(I7.pin (b,o) (List.mem_append_right _ (List.mem_append_right _ (mem_pinsAt hb e)))).2.1
  cases f with
  | next=>obtain⟨σ7,H7,I7,n7⟩:=q7;exact again I7 n7
  | cont=>obtain⟨σ7,H7,I7,n7⟩:=q7;exact again I7 n7
  | brk=>obtain⟨σ7,H7,I7,q7⟩:=q7;exact⟨σ7,H7,I7.unpinned,q7⟩
  | ret v=>obtain⟨x7,σ7,H7,I7,r7,q7⟩:=q7;exact⟨x7,σ7,H7,I7.unpinned,r7,q7⟩
end
end L2
namespace L2
open PySem PySem.Spec PyProof.Rows
abbrev R2:=V→V→Hp→VK→Prop
def OpR (X:Cx)(f:Value→Value→Sem Value)(r:R2):Prop :=
 ∀ (pins:List (Addr×Obj)) (s:Shared) (σ:St) (H:Hp) (x y:V) (v u:Value) (Q:VK),Inv X pins σ H s→RelV x v→RelV y u→r x y H Q →
  wpAny (model X.prog X.w) X.A (f v u) (EP X pins σ Q) X.xe s
def CallR (X:Cx)(f:Value)(r:List V→Hp→VK→Prop):Prop :=
 ∀ (pins:List (Addr×Obj)) (s:Shared) (σ:St) (H:Hp) (xs:List V) (us:List Value) (Q:VK),Inv X pins σ H s→Vals xs us→r xs H Q →
  wpAny (model X.prog X.w) X.A (call f us) (EP X pins σ Q) X.xe s
def tOp (r:R2)(ta tb:TE):TE:=fun σ H Q=>ta σ H fun x H1=>tb σ H1 fun y H2=>r x y H2 Q
def rI (C:Int→Int→Prop)(g:Int→Int→V):R2:=fun x y H Q=>∃i j,x=.int i∧y=.int j∧C i j∧Q (g i j) H
def rI0 (g:Int→Int→V):R2:=fun x y H Q=>∃i j,x=.int i∧y=.int j∧Q (g i j) H
section
variable {X:Cx}{a b c:Expr}{ta tb tc:TE}{pos:Pos}
theorem binT (ha:PE X a ta)(hb:PE X b tb){pins:List (Addr×Obj)}{s:Shared}{σ:St}{H:Hp}{R:V→V→Hp→Prop}(I:Inv X pins σ H s)
  (h:ta σ H fun x H1=>tb σ H1 fun y H2=>R x y H2) {Q:Value→Shared→Prop}{f:Value→Value→Sem Value}
  (hf:∀v u s2 x y H2,Inv X pins σ H2 s2→RelV x v→RelV y u→R x y H2→wpAny (model X.prog X.w) X.A (f v u) Q X.xe s2) :
  wpAny (model X.prog X.w) X.A (eval a X.env) (fun v s₁=>wpAny (model X.prog X.w) X.A (eval b X.env) (fun u s₂=>wpAny (model X.prog X.w) X.A (f v u) Q X.xe s₂) X.xe s₁) X.xe s:=by
 refine thn (ha pins s σ H _ I h) fun v s1 hq19=>?_
 obtain⟨x,H1,I1,r1,q1⟩:=hq19
 refine thn (hb pins s1 σ H1 _ I1 q1) fun u s2 hq20=>?_
 obtain⟨y,H2,I2,r2,q2⟩:=hq20
 exact hf v u s2 x y H2 I2 r1 r2 q2
theorem pe_op {op:Operator}{r:R2}(ho:OpR X (binaryOp op) r)(ha:PE X a ta)(hb:PE X b tb):PE X (.BinOp a op b pos) (tOp r ta tb):=by
 intro pins s σ H Q I h
 exact wpAny_BinOp (binT ha hb I h fun v u s2 x y H2 I2 rx ry q=>ho pins s2 σ H2 x y v u Q I2 rx ry q)
theorem opI {f:Value→Value→Sem Value}{C:Int→Int→Prop}{g:Int→Int→Int}
  (rule:∀(i j:Int) (t u:Tok) (s:Shared) (Q:Value→Shared→Prop) (E:Value→Shared→Prop),C i j→Q (.int (g i j) s.toks) {s with toks:=s.toks+1}→wpAny (model X.prog X.w) X.A (f (.int i t) (.int j u)) Q E s) :
  OpR X f (rI C fun i j=>.int (g i j)):=by
 intro pins s σ H x y v u Q I rx ry h
 obtain⟨i,j,rfl,rfl,hc,q⟩:=h
 obtain⟨t,rfl⟩:=rx
 obtain⟨t',rfl⟩:=ry
 exact rule i j t t' s _ _ hc ⟨.int (g i j),H,I.tok _,⟨_,rfl⟩,q⟩
theorem opI0 {f:Value→Value→Sem Value}{g:Int→Int→Int}
  (rule:∀(i j:Int) (t u:Tok) (s:Shared) (Q:Value→Shared→Prop) (E:Value→Shared→Prop),Q (.int (g i j) s.toks) {s with toks:=s.toks+1}→wpAny (model X.prog X.w) X.A (f (.int i t) (.int j u)) Q E s) :
  OpR X f (rI0 fun i j=>.int (g i j)):=by
 intro pins s σ H x y v u Q I rx ry h
 obtain⟨i,j,rfl,rfl,q⟩:=h
 obtain⟨t,rfl⟩:=rx
 obtain⟨t',rfl⟩:=ry
 exact rule i j t t' s _ _ ⟨.int (g i j),H,I.tok _,⟨_,rfl⟩,q⟩
theorem opB0 {f:Value→Value→Sem Value}{g:Int→Int→Bool}
  (rule:∀(i j:Int) (t u:Tok) (s:Shared) (Q:Value→Shared→Prop) (E:Value→Shared→Prop),Q (.bool (g i j)) s→wpAny (model X.prog X.w) X.A (f (.int i t) (.int j u)) Q E s) :
  OpR X f (rI0 fun i j=>.bl (g i j)):=by
 intro pins s σ H x y v u Q I rx ry h
 obtain⟨i,j,rfl,rfl,q⟩:=h
 obtain⟨t,rfl⟩:=rx
 obtain⟨t',rfl⟩:=ry
 exact rule i j t t' s _ _ ⟨.bl (g i j),H,I,rfl,q⟩
def CMul (i j:Int):Prop:=(-(2 ^ 64)<i∧i<2 ^ 64)∨(-(2 ^ 64)<j∧j<2 ^ 64)
theorem CMul.ok {i j:Int}(h:CMul i j):IntMulOk i j:=by
 rcases h with⟨h1,h2⟩|⟨h1,h2⟩
 ·exact .of_left (intBits_le_64 h1 h2)
 ·exact .of_right (intBits_le_64 h1 h2)
theorem op_add:OpR X (binaryOp .Add) (rI0 fun i j=>.int (i+j)):=opI0 fun _ _ _ _ _ _ _ q=>add_int q
theorem op_sub:OpR X (binaryOp .Sub) (rI0 fun i j=>.int (i - j)):=opI0 fun _ _ _ _ _ _ _ q=>sub_int q
theorem op_mod:OpR X (binaryOp .Mod) (rI (fun _ j=>0<j) fun i j=>.int (i % j)):=opI fun i j _ _ _ _ _ hc q=>by
 have h1:(0:Int)<j:=hc
 exact mod_int' (by omega) (by rw[Int.fmod_eq_emod_of_nonneg i (by omega)];exact q)
end
section
variable {X:Cx}{a b c:Expr}{ta tb tc:TE}{pos:Pos}
theorem fin_bl {pins:List (Addr×Obj)}{σ:St}{H:Hp}{s:Shared}{Q:VK}{k k':Bool}(I:Inv X pins σ H s)(q:Q (.bl k) H)(e:k=k'):EP X pins σ Q (.bool k') s:=by
 subst e
 exact⟨.bl k,H,I,rfl,q⟩
theorem op_lt:OpR X (compareOp .Lt) (rI0 fun i j=>.bl (decide (i<j))):=opB0 fun _ _ _ _ _ _ _ q=>lt_int q
theorem op_le:OpR X (compareOp .LtE) (rI0 fun i j=>.bl (decide (i≤j))):=opB0 fun _ _ _ _ _ _ _ q=>le_int q
theorem op_gt:OpR X (compareOp .Gt) (rI0 fun i j=>.bl (decide (j<i))):=opB0 fun _ _ _ _ _ _ _ q=>gt_int q
theorem op_lt_str:OpR X (compareOp .Lt) (fun x y H Q=>∃i j,x=.str i∧y=.str j∧Q (.bl (decide (i.cps.toList<j.cps.toList))) H):=by
 intro pins s σ H x y v u Q I rx ry h
 obtain⟨i,j,rfl,rfl,q⟩:=h
 obtain⟨t,rfl⟩:=rx
 obtain⟨t',rfl⟩:=ry
 exact lt_str (fin_bl I q rfl)
theorem nomark (b:Expr){op:CmpOp}(h:op≠.In:=by decide)(h2:op≠.NotIn:=by decide):behindInMarks op b=false:=by
 have e1:(op == CmpOp.In)=false:=by cases op <;>first|rfl|exact absurd rfl h
 have e2:(op == CmpOp.NotIn)=false:=by cases op <;>first|rfl|exact absurd rfl h2
 cases b <;>simp[behindInMarks,e1,e2]
theorem pe_cmpR {op:CmpOp}{r:R2}(ho:OpR X (compareOp op) r)(ha:PE X a ta)(hb:PE X b tb)(hm:behindInMarks op b=false):PE X (.Compare a [op] [b] pos) (tOp r ta tb):=by
 intro pins s σ H Q I h
 exact wpAny_Compare1 (binT ha hb I h fun v u s2 x y H2 I2 rx ry q=>ho pins s2 σ H2 x y v u Q I2 rx ry q) hm
def tTest (t:TE):TT:=fun σ H Q=>t σ H fun x H'=>∃k,x=.bl k∧Q k H'
theorem pt_cmpR {op:CmpOp}{r:R2}(ho:OpR X (compareOp op) r)(ha:PE X a ta)(hb:PE X b tb)(hm:behindInMarks op b=false):PT X (.Compare a [op] [b] pos) (tTest (tOp r ta tb)):=by
 intro pins s σ H Q I h
 refine wpAny_isTrue_Compare1 (thn (ha pins s σ H _ I h) fun v s1 ⟨x,H1,I1,r1,q1⟩=>thn (hb pins s1 σ H1 _ I1 q1) fun u s2 ⟨y,H2,I2,r2,q2⟩ =>
  thn (ho pins s2 σ H2 x y v u _ I2 r1 r2 q2) fun c s3 ⟨z,H3,I3,r3,k,e,q3⟩=>?_) hm
 subst e
 cases r3
 exact wpAny_truthy_bool ⟨H3,I3,q3⟩
def tChain (r r':R2)(ta tb tc:TE):TE:=fun σ H Q=>ta σ H fun x H1=>tb σ H1 fun y H2=>r x y H2 fun z H3=>∃k,z=.bl k ∧
 (if k=true then tc σ H3 fun w' H4=>r' y w' H4 Q else Q (.bl false) H3)
theorem pe_chain {op op':CmpOp}{r r':R2}(ho:OpR X (compareOp op) r)(ho':OpR X (compareOp op') r')(ha:PE X a ta)(hb:PE X b tb)(hc:PE X c tc)
  (hm:lastMarks [op,op'] [b,c]=false:=by with_unfolding_all rfl):PE X (.Compare a [op,op'] [b,c] pos) (tChain r r' ta tb tc):=by
 intro pins s σ H Q I h
 refine Compare_chain (thn (ha pins s σ H _ I h) fun v s1 ⟨x,H1,I1,r1,q1⟩=>chain_link (thn (hb pins s1 σ H1 _ I1 q1) fun u s2 ⟨y,H2,I2,r2,q2⟩ =>
  thn (ho pins s2 σ H2 x y v u _ I2 r1 r2 q2) fun d s3 ⟨z,H3,I3,r3,k,e,q3⟩=>?_)) hm
 subst e
 cases r3
 refine wpAny_truthy_bool ?_
 cases k with
 | false=>exact ite_ff ⟨.bl false,H3,I3,rfl,q3⟩
 | true=>exact ite_tt (chain_last (thn (hc pins s3 σ H3 _ I3 q3) fun w' s4 ⟨z',H4,I4,r4,q4⟩=>ho' pins s4 σ H4 y z' u w' Q I4 r2 r4 q4))
theorem pt_chain {op op':CmpOp}{r r':R2}(ho:OpR X (compareOp op) r)(ho':OpR X (compareOp op') r')(ha:PE X a ta)(hb:PE X b tb)(hc:PE X c tc)
  (hm:lastMarks [op,op'] [b,c]=false:=by with_unfolding_all rfl):PT X (.Compare a [op,op'] [b,c] pos) (tTest (tChain r r' ta tb tc)):=by
 intro pins s σ H Q I h
 refine isTrue_chain (thn (ha pins s σ H _ I h) fun v s1 ⟨x,H1,I1,r1,q1⟩=>test_link (thn (hb pins s1 σ H1 _ I1 q1) fun u s2 ⟨y,H2,I2,r2,q2⟩ =>
  thn (ho pins s2 σ H2 x y v u _ I2 r1 r2 q2) fun d s3 ⟨z,H3,I3,r3,k,e,q3⟩=>?_)) hm
 subst e
 cases r3
 refine wpAny_truthy_bool ?_
 cases k with
 | false =>
  obtain⟨k',e',q'⟩:=q3
  cases e'
  exact ite_ff ⟨H3,I3,q'⟩
 | true =>
  refine ite_tt (test_last (thn (hc pins s3 σ H3 _ I3 q3) fun w' s4 ⟨z',H4,I4,r4,q4⟩=>thn (ho' pins s4 σ H4 y z' u w' _ I4 r2 r4 q4) fun d' s5 hq21=>?_))
  obtain⟨z2,H5,I5,r5,k2,e2,q5⟩:=hq21
  subst e2
  cases r5
  exact wpAny_truthy_bool ⟨H5,I5,q5⟩
theorem line63:(sizeLine:Nat)<2 ^ 63:=by rw[sizeLine_eq];decide
theorem op_add_str:OpR X (binaryOp .Add) (fun x y H Q=>∃i j,x=.str i∧y=.str j∧i.length+j.length≤sizeLine∧Q (.str (i++j)) H):=by
 intro pins s σ H x y v u Q I rx ry h
 obtain⟨i,j,rfl,rfl,hz,q⟩:=h
 obtain⟨t,rfl⟩:=rx
 obtain⟨t',rfl⟩:=ry
 exact add_str (fun t' tk=>⟨.str (i++j),H,I.tok _,⟨_,rfl⟩,q⟩) hz
theorem vals1 {x:V}{us:List Value}(r:Vals [x] us):∃u,us=[u]∧RelV x u:=by
 cases r with
 | cons r1 r2=>cases r2;exact⟨_,rfl,r1⟩
theorem vals2 {x y:V}{us:List Value}(r:Vals [x,y] us):∃u w',us=[u,w']∧RelV x u∧RelV y w':=by
 cases r with
 | cons r1 r2 =>
  cases r2 with
  | cons r3 r4=>cases r4;exact⟨_,_,rfl,r1,r3⟩
theorem call_str_int:CallR X (.type "str") (fun xs H Q=>∃i,xs=[.int i]∧i.natAbs.log2<1920∧Q (.str (toString i)) H):=by
 intro pins s σ H xs us Q I r h
 obtain⟨i,rfl,hz,q⟩:=h
 obtain⟨u,rfl,t,rfl⟩:=vals1 r
 exact PySem.P.str_of_int hz ⟨.str _,H,I.tok _,⟨_,rfl⟩,q⟩
def LenV (K:PySem.W.Frag)(x:V)(H:Hp)(n:Nat):Prop :=
 match x with
 | .str y=>y.length≤sizeLine∧n=y.length
 | .byt y=>y.size≤sizeLine∧n=y.size
 | .ref p=>(∃xs,SqL K H p xs∧n=xs.length)∨∃xs,SqT K H p xs∧n=xs.length
 | _=>False
theorem call_len:CallR X (.builtin "len") (fun xs H Q=>∃x n,xs=[x]∧LenV X.K x H n∧Q (.int n) H):=by
 intro pins s σ H xs us Q I r h
 obtain⟨x,n,rfl,e,q⟩:=h
 obtain⟨u,rfl,rx⟩:=vals1 r
 have hl:=line63
 have hs:sizeLine=16777216:=sizeLine_eq
 cases x with
 | str y =>
  obtain⟨t,rfl⟩:=rx
  obtain⟨hy,e'⟩:y.length≤sizeLine∧n=y.length:=e
  subst e'
  exact len_str (by omega) ⟨.int _,H,I.tok _,⟨_,rfl⟩,q⟩
 | byt y =>
  obtain⟨t,rfl⟩:=rx
  obtain⟨hy,e'⟩:y.size≤sizeLine∧n=y.size:=e
  subst e'
  exact PySem.W.len_bytes (by omega) ⟨.int _,H,I.tok _,⟨_,rfl⟩,q⟩
 | ref p =>
  cases rx
  have e':(∃xs,SqL X.K H p xs∧n=xs.length)∨∃xs,SqT X.K H p xs∧n=xs.length:=e
  rcases e' with⟨xs,hx,e'⟩|⟨xs,hx,e'⟩
  ·subst e'
   obtain⟨its,r',pl,hz⟩:=I.list hx
   have hlen:=r'.length
   exact Calls.call_len_list pl.isList (by simp only[List.size_toArray];omega) ⟨.int xs.length,H,I.tok _,⟨_,by simp only[List.size_toArray];rw[hlen]⟩,q⟩
  ·subst e'
   obtain⟨its,r',pl,hz⟩:=I.tuple hx
   have hlen:=r'.length
   exact len_tuple pl (by simp only[List.size_toArray];omega) ⟨.int xs.length,H,I.tok _,⟨_,by simp only[List.size_toArray];rw[hlen]⟩,q⟩
 | _=>exact(show False from e).elim
end
end L2
namespace L2
open PySem PySem.Spec PyProof.Rows
section
variable {prog:Program}{w:World}{A:Around}{E:Value→Shared→Prop}{s:Shared}{K:PySem.W.Frag}{x dx C f:Addr}{mA:Str→Option Value}{name:Str}{v:Value}
end
theorem RelO.some_of {v:V}{o:Option Value}(r:RelO (some v) o):∃u,o=some u∧RelV v u:=by
 cases o with
 | none=>exact(show False from r).elim
 | some u=>exact⟨u,rfl,r⟩
structure Cls (K:PySem.W.Frag)(C:Addr):Prop where
 pg:PySem.W.plainGet K C Str.empty=true
 hd:PySem.W.hasDictIn K C=true
 po:PySem.W.plainOver K C=true
 sa:PySem.W.findIn K (.ref C) "__setattr__" = some (some (.builtin "object.__setattr__"))
theorem Cls.get {K:PySem.W.Frag}{C:Addr}(c:Cls K C)(f:Str):PySem.W.plainGet K C f=true:=c.pg
section
variable {X:Cx}{pins:List (Addr×Obj)}{σ:St}{H:Hp}{s:Shared}{a C dx:Addr}{fs:List (Str×V)}{f:Str}{v:V}{A:Around}{E:Value→Shared→Prop}
end
end L2
namespace L2
open PySem PySem.Spec PyProof.Rows
structure Room (k:Nat)(A:Around):Prop where
 hd:A.handled=none
 dp:A.depth+3*k+5<recursionLimit
 un:A.units+16*k+200<cLine
theorem Room.mono {j k:Nat}{A:Around}(r:Room k A)(h:j≤k):Room j A:=⟨r.hd,by have:=r.dp;omega,by have:=r.un;omega⟩
theorem Room.deeper {k:Nat}{A:Around}(r:Room (k+1) A)(env:Env):Room k (A.deeper env) :=
 ⟨r.hd,by have:=r.dp;show A.depth+1+3*k+5<_;omega,by have:=r.un;show A.units+3+16*k+200<_;omega⟩
theorem Room.in1 {k:Nat}{A:Around}(r:Room (k+1) A):Room k A.in1 :=
 ⟨r.hd,by have:=r.dp;show A.depth+3*k+5<_;omega,by have:=r.un;show A.units+1+16*k+200<_;omega⟩
theorem Room.depth {k:Nat}{A:Around}(r:Room k A):A.depth<recursionLimit:=by have:=r.dp;omega
theorem Room.units {k:Nat}{A:Around}(r:Room k A):A.units+64<cLine:=by have:=r.un;omega
def tNil:TA:=fun _ H Q=>Q [] H
def tCons (ta:TE)(tr:TA):TA:=fun σ H Q=>ta σ H fun x H1=>tr σ H1 fun xs H2=>Q (x::xs) H2
section
variable {X:Cx}{e:Expr}{es:List Expr}{te:TE}{t:TA}{pos:Pos}
theorem pa_nil:PA X [] tNil:=fun _ _ _ _ H Q I h=>Calls.spliced_nil ⟨[],H,I,.nil,h⟩
theorem pa_cons (ha:PE X e te)(hr:PA X es t)(hs:starEach (e::es) X.env=(false,eval e X.env)::starEach es X.env:=by rfl):PA X (e::es) (tCons te t):=by
 intro pos pins s σ H Q I h
 rw[hs]
 show wpAny _ _ (spliced ((false,eval e X.env)::backTo pos (starEach es X.env))) _ _ s
 refine Calls.spliced_cons (thn (ha pins s σ H _ I h) fun u s1 hq22=>?_)
 obtain⟨x,H1,I1,r1,q1⟩:=hq22
 exact thn (hr pos pins s1 σ H1 _ I1 q1) fun us s2 ⟨xs,H2,I2,r2,q2⟩=>⟨x::xs,H2,I2,.cons r1 r2,q2⟩
def tTup (t:TA):TE:=fun σ H Q=>t σ H fun xs H1=>xs.length≤sizeLine∧∀p,H1 p=none→Q (.ref p) (upd H1 p (.tup xs))
def tLst (t:TA):TE:=fun σ H Q=>t σ H fun xs H1=>xs.length≤sizeLine∧∀p,H1 p=none→Q (.ref p) (upd H1 p (.lst xs))
theorem pe_tup {x1}(h:PA X es t):PE X (.Tuple es x1 pos) (tTup t):=by
 intro pins s σ H Q I hq
 refine wpAny_Tuple_spliced (thn (h pos pins s σ H _ I hq) fun us s1 ⟨xs,H1,I1,r,z,q⟩=>⟨by rw[← r.length];exact z,?_⟩)
 have hf:H1 s1.heap.objs.size=none:=I1.hok.fresh (Nat.le_refl _)
 refine⟨.ref s1.heap.objs.size,upd H1 s1.heap.objs.size (.tup xs),I1.laid (t':=s1.toks) (fun b u e=>Heap.get?_push_of_some _ e) (Nat.le_refl _) ?_,rfl,q _ hf⟩
 exact⟨z,us,r,TupD.new _ _⟩
theorem pe_lst (h:PA X es t):PE X (.List es pos) (tLst t):=by
 intro pins s σ H Q I hq
 refine wpAny_List_spliced (thn (h pos pins s σ H _ I hq) fun us s1 ⟨xs,H1,I1,r,z,q⟩=>⟨by rw[← r.length];exact z,?_⟩)
 have hf:H1 s1.heap.objs.size=none:=I1.hok.fresh (Nat.le_refl _)
 refine⟨.ref s1.heap.objs.size,upd H1 s1.heap.objs.size (.lst xs),I1.laid (t':=s1.toks) (fun b u e=>Heap.get?_push_of_some _ e) (Nat.le_refl _) ?_,rfl,q _ hf⟩
 exact⟨z,us,0,r,Heap.get?_push_size _ rfl⟩
end
abbrev Sp:=List V→Hp→VK→XK→Prop
abbrev CXT:=List Env→Hp→Shared→XK→Value→Shared→Prop
structure Env0 (P:Program)(w:World)(K:PySem.W.Frag)(mg:Str→Option Value)(base:Heap)(A:Around)(outer:List Env)(s:Shared)(H:Hp):Prop where
 frames:A.frames=some outer
 mod:Mod K mg base
 bs:∀b o,base.get? b=some o→s.heap.get? b=some o∧H b=none
 bsz:base.objs.size≤s.heap.objs.size
 funs:s.heap.FunFrames base outer
 frf:∀b∈frs outer,H b=none
 hok:HOk P w H s.heap
 bare:AllBare s.gens
def CE (outer:List Env)(P:Program)(w:World)(H:Hp)(s:Shared)(Q:VK)(u:Value)(s':Shared):Prop :=
 ∃v H',s'.os=s.os∧AllBare s'.gens∧Un (frs outer) [] H H' s.heap s'.heap∧HOk P w H' s'.heap∧RelV v u∧Q v H'
def CR (CX:CXT)(outer:List Env)(P:Program)(w:World)(H:Hp)(s:Shared)(Q:VK)(E:XK)(r:Result)(s':Shared):Prop :=
 match r with
 | .ok (.ret u)=>CE outer P w H s Q u s'
 | .ok _=>False
 | .error e=>CX outer H s E e s'
structure FnOk (P:Program)(w:World)(K:PySem.W.Frag)(mg:Str→Option Value)(base:Heap)(CX:CXT)(k:Nat)(f:Addr)(fd:FuncData)(ps:List Str)(sp:Sp):Prop where
 len:∀vs H Q E,sp vs H Q E→vs.length=ps.length
 run:∀(A:Around) (outer:List Env) (s:Shared) (H:Hp) (args:Args) (us:List Value) (vs:List V) (Q:VK) (E:XK),Room k A→Env0 P w K mg base A outer s H→BindsTo s fd args (ps.zip us)→Vals vs us→sp vs H Q E →
  codeAny (model P w) A (.call (.ref f) args) (CR CX outer P w H s Q E) s
theorem FnOk.mono {P:Program}{w:World}{K:PySem.W.Frag}{mg:Str→Option Value}{base:Heap}{CX:CXT}{j k:Nat}{f:Addr}{fd:FuncData}{ps:List Str}{sp:Sp}(F:FnOk P w K mg base CX j f fd ps sp)(h:j≤k) :
  FnOk P w K mg base CX k f fd ps sp:=⟨F.len,fun A outer s H args us vs Q E hr=>F.run A outer s H args us vs Q E (hr.mono h)⟩
theorem Env0.in1 {P:Program}{w:World}{K:PySem.W.Frag}{mg:Str→Option Value}{base:Heap}{A:Around}{outer:List Env}{s:Shared}{H:Hp}(e:Env0 P w K mg base A outer s H) :
  Env0 P w K mg base A.in1 outer s H:=⟨e.frames,e.mod,e.bs,e.bsz,e.funs,e.frf,e.hok,e.bare⟩
section
variable {X:Cx}{pins:List (Addr×Obj)}{σ:St}{H:Hp}{s s':Shared}
theorem Inv.env0 (I:Inv X pins σ H s):Env0 X.prog X.w X.K X.mg X.base X.A X.stack s H :=
 ⟨I.ok.frames,I.ok.mod,I.bs,Nat.le_trans I.ok.bsz I.sz,I.stack,I.stkFree,I.hok,I.bare⟩
theorem Inv.after {Q:VK}{u:Value}(I:Inv X pins σ H s)(h:CE X.stack X.prog X.w H s Q u s'):EP X pins σ Q u s':=by
 obtain⟨v,H',os,bare,un,hok,r,q⟩:=h
 obtain⟨hh,g,d,t,os'⟩:=s'
 obtain rfl:os'=s.os:=os
 exact⟨v,H',I.call (h':=hh) (g':=g) (d':=d) (t':=t) (ch:=[]) un hok bare (fun b z=>absurd z (by simp)),r,q⟩
end
def tCall (sp:Sp)(dvs:List V)(E:XK)(t:TA):TE:=fun σ H Q=>t σ H fun vs H1=>sp (vs++dvs) H1 Q E
def Binds (K:PySem.W.Frag)(fd:FuncData)(ps:List Str)(ds:List Value):Prop :=
 ∀(s:Shared) (us:List Value),K.In s.heap→(us++ds).length=ps.length→BindsTo s fd ⟨us,[]⟩ (ps.zip (us++ds))
theorem Binds.all {K:PySem.W.Frag}{fd:FuncData}{ps:List Str}(h:∀us:List Value,us.length=ps.length→bindArgs fd ⟨us,[]⟩=pure (ps.zip us)):Binds K fd ps []:=fun s us _ hl=>by
 rw[List.append_nil] at hl ⊢
 exact .of_eq (h us hl)
def Passes (CX:CXT)(X:Cx)(E:XK):Prop:=∀(pins:List (Addr×Obj)) (σ:St) (H:Hp) (s:Shared) (e:Value) (s':Shared),Inv X pins σ H s→CX X.stack H s E e s'→X.xe e s'
section
variable {X:Cx}{CX:CXT}{k:Nat}{f C:Addr}{fd:FuncData}{ps:List Str}{sp:Sp}{dvs:List V}{ds:List Value}{E:XK}{x m:Str}{p pos apos:Pos}{e o:Expr}{es:List Expr}{ta:TE}{t:TA}
theorem run_fn {pins:List (Addr×Obj)}{σ:St}{H:Hp}{s:Shared}{Q:VK}{us:List Value}{vs:List V}(F:FnOk X.prog X.w X.K X.mg X.base CX k f fd ps sp)(hr:Room k X.A)(hb:Binds X.K fd ps ds)(hd:Vals dvs ds)(hx:Passes CX X E)
  (I:Inv X pins σ H s) (r:Vals vs us) (h:sp (vs++dvs) H Q E):wpAny (model X.prog X.w) X.A (call (.ref f) us) (EP X pins σ Q) X.xe s:=by
 have r2:Vals (vs++dvs) (us++ds):=r.append hd
 have hl:(us++ds).length=ps.length:=by rw[← r2.length];exact F.len _ _ _ _ h
 refine wpAny_call (codeAny_mono (F.run X.A X.stack s H ⟨us,[]⟩ (us++ds) (vs++dvs) Q E hr I.env0 (hb s us I.kIn hl) r2 h) fun r s' hq=>?_)
 cases r with
 | error e=>exact hx pins σ H s e s' I hq
 | ok fl =>
  cases fl with
  | ret u=>exact I.after hq
  | next=>exact False.elim hq
  | brk=>exact False.elim hq
  | cont=>exact False.elim hq
theorem pe_call (F:FnOk X.prog X.w X.K X.mg X.base CX k f fd ps sp)(hr:Room k X.A)(hg:Gl X x)(hm:X.mg x=some (.ref f))(hk:PySem.W.keepIn X.K (.ref f)=true)(hb:Binds X.K fd ps ds)(hd:Vals dvs ds)(hx:Passes CX X E)
  (ha:PA X (e::es) t) (hdb:(x == ("__debug__" : Str))=false:=by decide) (he:starEach (e::es) X.env=(false,eval e X.env)::starEach es X.env:=by rfl) (hpl:(backTo pos (starEach es X.env)).any (·.1)=false:=by rfl) :
  PE X (.Call (.Name x p) (e::es) [] pos) (tCall sp dvs E t):=by
 intro pins s σ H Q I h
 refine wpAny_Call_Name_kw (ld_glob I hg hm ?_ hdb)
 refine PySem.W.callWith_K (h₀:=X.base) I.ok.mod.kin hk (thn (ha pos pins s σ H _ I h) fun us s1 ⟨vs,H1,I1,r,q⟩=>⟨I1.kIn,?_⟩) he hpl
 exact run_fn F hr hb hd hx I1 r q
end
structure FnScope (N P:List Str)(sc:Scope):Prop where
 kind:sc.kind=.function
 co:sc.isCoroutine=false
 gen:sc.isGenerator=false
 nd:N.Nodup
 pre:N.take P.length=P
 par:∀x∈P,sc.names.lookup x=some .local∨sc.names.lookup x=some .cell
 nofree:∀y∈sc.names,y.2≠.free
theorem bindL_out {kindOf:Str→Option NameKind}{x:Str}:∀{binds:List (Str×Value)}{m:Str→Option Value},(∀v,(x,v)∉binds)→bindL kindOf binds m x=m x
 | [],_,_=>rfl
 | (n,v)::r,m,h=>by
  unfold bindL
  rw[bindL_out fun w hw=>h w (List.mem_cons_of_mem _ hw)]
  split
  ·have:x≠n:=by rintro rfl;exact h v List.mem_cons_self
   simp[this]
  ·rfl
theorem bindC_out {kindOf:Str→Option NameKind}{x:Str}:∀{binds:List (Str×Value)}{m:Str→Option Value},(∀v,(x,v)∉binds)→bindC kindOf binds m x=m x
 | [],_,_=>rfl
 | (n,v)::r,m,h=>by
  unfold bindC
  rw[bindC_out fun w hw=>h w (List.mem_cons_of_mem _ hw)]
  split
  ·rfl
  ·have:x≠n:=by rintro rfl;exact h v List.mem_cons_self
   simp[this]
theorem bindL_get {kindOf:Str→Option NameKind}{x:Str}{v:Value}:∀{P:List Str}{vs:List Value}{i:Nat}{m:Str→Option Value},P.Nodup→P[i]? = some x→vs[i]? = some v→kindOf x=some .local →
  bindL kindOf (P.zip vs) m x=some v
 | [],_,_,_,_,h,_,_=>by simp at h
 | _::_,[],_,_,_,_,h,_=>by simp at h
 | p::P,w::vs,0,m,nd,h1,h2,hk=>by
  simp at h1 h2;subst h1;subst h2
  show bindL kindOf ((p,w)::P.zip vs) m p=_
  unfold bindL
  rw[bindL_out fun v hv=>(List.nodup_cons.mp nd).1 (List.of_mem_zip hv).1,if_pos hk]
  simp
 | p::P,w::vs,i+1,m,nd,h1,h2,hk=>by
  show bindL kindOf ((p,w)::P.zip vs) m x=_
  unfold bindL
  exact bindL_get (i:=i) (List.nodup_cons.mp nd).2 (by simpa using h1) (by simpa using h2) hk
theorem bindC_get {kindOf:Str→Option NameKind}{x:Str}{v:Value}:∀{P:List Str}{vs:List Value}{i:Nat}{m:Str→Option Value},P.Nodup→P[i]? = some x→vs[i]? = some v→kindOf x≠some .local →
  bindC kindOf (P.zip vs) m x=some v
 | [],_,_,_,_,h,_,_=>by simp at h
 | _::_,[],_,_,_,_,h,_=>by simp at h
 | p::P,w::vs,0,m,nd,h1,h2,hk=>by
  simp at h1 h2;subst h1;subst h2
  show bindC kindOf ((p,w)::P.zip vs) m p=_
  unfold bindC
  rw[bindC_out fun v hv=>(List.nodup_cons.mp nd).1 (List.of_mem_zip hv).1,if_neg hk]
  simp
 | p::P,w::vs,i+1,m,nd,h1,h2,hk=>by
  show bindC kindOf ((p,w)::P.zip vs) m x=_
  unfold bindC
  exact bindC_get (i:=i) (List.nodup_cons.mp nd).2 (by simpa using h1) (by simpa using h2) hk
def start (N:List Str)(vs:List V):St:=vs.map some++List.replicate (N.length - vs.length) none
def cxOf (CX:CXT)(P:Program)(w:World)(K:PySem.W.Frag)(mg:Str→Option Value)(base:Heap)(N:List Str)(qual:Str)(scope:Scope)(f:Addr)(cd:Value)(A:Around)(outer:List Env)(s:Shared)(H:Hp)(E:XK):Cx where
 prog:=P
 w:=w
 K:=K
 mg:=mg
 base:=base
 A:=A.deeper (envOfC qual scope s.heap.objs.size f cd)
 N:=N
 s₀:=s
 H₀:=H
 env:=envOfC qual scope s.heap.objs.size f cd
 outer:=outer
 stack:=envOfC qual scope s.heap.objs.size f cd::outer
 ex:=[]
 calm:=true
 fn:=fun _=>true
 pn:=[]
 xe:=fun e s'=>wpAny (model P w) (A.deeper (envOfC qual scope s.heap.objs.size f cd)) (leaving (envOfC qual scope s.heap.objs.size f cd) e) (fun _ s''=>CX outer H s E e s'') (fun e' s''=>CX outer H s E e' s'') s'
theorem cell_has {sc:Scope}{n:Nat}{x:Str}(h:sc.names.lookup x=some .cell):∃c,(cellsFrom n sc.names []).lookup x=some c:=by
 have q:=PySem.W.cellsFrom_some sc.names n [] (.inl h)
 exact Option.isSome_iff_exists.mp q
theorem inv_start {CX:CXT}{P:Program}{w:World}{K:PySem.W.Frag}{mg:Str→Option Value}{base:Heap}{N ps:List Str}{qual:Str}{scope:Scope}{f:Addr}{cd:Value}{A:Around}{outer:List Env}{s s1:Shared}{H:Hp}{E:XK}{us:List Value}{vs:List V}
  (S:FnScope N ps scope) (hd:A.handled=none) (e0:Env0 P w K mg base A outer s H) (hl:vs.length=ps.length) (r:Vals vs us)
  (x:InCallC s s.heap.objs.size (bindL (envOfC qual scope s.heap.objs.size f cd).kindOf (ps.zip us) fun _=>none) (cellsFrom (s.heap.objs.size+1) scope.names []) (bindC (envOfC qual scope s.heap.objs.size f cd).kindOf (ps.zip us) fun _=>none) s1) :
  Inv (cxOf CX P w K mg base N qual scope f cd A outer s H E) [] (start N vs) H s1:=by
 have hpl:ps.length≤N.length:=by have:=congrArg List.length S.pre;rw[List.length_take] at this;omega
 obtain⟨h1,tk,rfl,hk⟩:=x.done
 have noA:∀b:Addr,b∉(cxOf CX P w K mg base N qual scope f cd A outer s H E).ex:=fun b z=>absurd (show b∈([]:List Addr) from z) (by simp)
 refine ⟨⟨e0.mod,S.kind,rfl,rfl,Nat.le_refl _,fun y z c h1 h2=>?_,fun y hy=>?_,fun y c _ h=>?_,fun _=>hd,Around.frames_deeper e0.frames,.inr ⟨rfl,rfl⟩,fun b z=>absurd z (noA b),e0.bs,e0.bsz,fun b _ _=>noA b,fun b z=>absurd z (noA b),e0.funs,e0.frf⟩,
  rfl,e0.bare,Un.kept hk,⟨_,x.toInCall.ns,fun i y v h1 h2 h3=>?_⟩,fun y c h=>⟨_,x.cell y c h⟩,e0.hok.fresh (Nat.le_refl _),fun y c h=>?_,fun p hp=>absurd (show p∈([]:List (Addr×Obj)) from hp) (by simp),e0.hok.kept hk,?_⟩
 ·exact name_of_addr x.apart (PySem.mem_of_lookup h1) (PySem.mem_of_lookup h2)
 ·have hy:scope.names.lookup y=some .cell∨scope.names.lookup y=some .free:=hy
  rcases hy with hy|hy
  ·exact cell_has hy
  ·exact absurd rfl (S.nofree _ (PySem.mem_of_lookup hy))
 ·exact Nat.le_of_lt (x.above y c (PySem.mem_of_lookup h))
 ·have hi:i<vs.length:=by
   unfold start at h2
   by_cases hi:i<vs.length
   ·exact hi
   ·rw[List.getElem?_append_right (by simpa using hi)] at h2
    rw[List.getElem?_replicate] at h2
    split at h2 <;>cases h2
  have ha:vs[i]? = some v:=by
   unfold start at h2
   rw[List.getElem?_append_left (by simpa using hi),List.getElem?_map] at h2
   cases e:vs[i]? with
   | none=>rw[e] at h2;cases h2
   | some a=>rw[e] at h2;cases h2;rfl
  obtain⟨u,hu,rv⟩:=r.get ha
  have hp:ps[i]? = some y:=by
   rw[← S.pre,List.getElem?_take_of_lt (by omega)];exact h1
  have ndP:ps.Nodup:=by rw[← S.pre];exact S.nd.sublist (List.take_sublist _ _)
  refine⟨u,rv,?_⟩
  rcases S.par y (List.mem_of_getElem? hp) with k|k
  ·exact .inl ⟨k,bindL_get ndP hp hu k⟩
  ·obtain⟨c,e⟩:=cell_has (n:=s.heap.objs.size+1) k
   refine .inr ⟨.inl k,c,e,?_⟩
   have q:=x.cell y c e
   rw[bindC_get ndP hp hu (by show scope.names.lookup y≠_;rw[k];decide)] at q
   exact q
 ·exact e0.hok.fresh (Nat.le_of_lt (x.above y c (PySem.mem_of_lookup h)))
 ·unfold start
  show _=N.length
  rw[List.length_append,List.length_map,List.length_replicate]
  omega
theorem fn_of {CX:CXT}{P:Program}{w:World}{K:PySem.W.Frag}{mg:Str→Option Value}{base:Heap}{k:Nat}{f:Addr}{name qual:Str}{params:Arguments}{body:List Stmt}{scope:Scope}{dV kV doc pm cdv ct oc:Value}{an od:Option Addr}
  {osl:Array (Option Value)}{N ps:List Str}{sp:Sp} (lk:K.lookup f=some ⟨oc,od,.func (PySem.W.fnOf name qual params body scope dV kV doc pm an cdv ct),osl⟩) (hcd:PySem.W.codeIn K cdv qual=true) (S:FnScope N ps scope)
  (len:∀vs H Q E,sp vs H Q E→vs.length=ps.length)
  (hbody:∀(A:Around) (outer:List Env) (s:Shared) (H:Hp) (vs:List V) (Q:VK) (E:XK),Room k (A.deeper (envOfC qual scope s.heap.objs.size f cdv))→sp vs H Q E →
   ∃t,PSs (cxOf CX P w K mg base N qual scope f cdv A outer s H E) body t∧t {nx:=fun _ H'=>Q .non H',rt:=Q} (start N vs) H) :
  FnOk P w K mg base CX (k+1) f (PySem.W.fnOf name qual params body scope dV kV doc pm an cdv ct) ps sp:=by
 refine⟨len,fun A outer s H args us vs Q E hr e0 hb r hsp=>?_⟩
 have hl:=len _ _ _ _ hsp
 have KX:K.In s.heap:=e0.mod.kin.keeps fun b o e=>(e0.bs b o e).1
 have lim:s.heap.NoLimit:=e0.mod.nolimit.keeps fun b o e=>(e0.bs b o e).1
 have hkind:∀y∈ps.zip us,scope.names.lookup y.1=some .local∨(scope.names.lookup y.1=some .cell∧((cellsFrom (s.heap.objs.size+1) scope.names []).lookup y.1).isSome=true):=fun⟨n,v⟩ hy=>by
  rcases S.par n (List.of_mem_zip hy).1 with q|q
  ·exact .inl q
  ·exact .inr ⟨q,PySem.W.cellsFrom_some _ _ _ (.inl q)⟩
 refine codeAny_call_function hr.depth (KX _ _ lk) rfl S.co S.gen rfl (PySem.W.codeRec_of KX hcd) (hb _ _ _ _ ?_)
 refine wpAny_newFunctionEnv_cells S.kind hkind fun env he s1 x=>?_
 subst he
 refine⟨lim.keeps x.toInCall.keep,codeAny_func ?_⟩
 obtain⟨t,ht,hq⟩:=hbody A outer s H vs Q E (hr.deeper _) hsp
 have I:Inv (cxOf CX P w K mg base N qual scope f cdv A outer s H E) [] (start N vs) H s1:=inv_start S hr.hd e0 hl r x
 refine wpAny_mono (ht [] s1 (start N vs) H _ I hq) (fun fl s' hs=>?_) fun e s' hs=>hs
 have fin:∀{σ':St}{H':Hp}{v:V}{u:Value},Inv (cxOf CX P w K mg base N qual scope f cdv A outer s H E) [] σ' H' s'→RelV v u→Q v H'→CE outer P w H s Q u s' :=
  fun {σ' H' v u} J rv q=>⟨v,H',J.os,J.bare,J.base,J.hok,rv,q⟩
 cases fl with
 | ret u =>
  obtain⟨v,σ',H',J,rv,q⟩:=hs
  exact fin J rv q
 | next =>
  obtain⟨σ',H',J,q⟩:=hs
  exact fin (v:=V.non) (u:=Value.none) J rfl q
 | brk =>
  obtain⟨_,_,_,q⟩:=hs
  exact False.elim q
 | cont =>
  obtain⟨_,_,_,q⟩:=hs
  exact False.elim q
end L2
namespace L2
open PySem PySem.Spec PyProof.Rows
section
variable {X:Cx}{x:Str}{p pos:Pos}{e:Expr}{es:List Expr}{t:TA}{id T:String}{r:List V→Hp→VK→Prop}
def tCB (r:List V→Hp→VK→Prop)(t:TA):TE:=fun σ H Q=>t σ H fun vs H1=>r vs H1 Q
theorem pe_callB (hc:CallR X (.builtin id) r)(hg:Gl X x)(hm:X.mg x=none)(hv:bootBuiltins x=some (.builtin id))(ha:PA X (e::es) t)(hn:x ≠ "__name__" := by decide)(hdb:(x == ("__debug__" : Str))=false:=by decide)
  (he:starEach (e::es) X.env=(false,eval e X.env)::starEach es X.env:=by rfl) (hpl:(backTo pos (starEach es X.env)).any (·.1)=false:=by rfl):PE X (.Call (.Name x p) (e::es) [] pos) (tCB r t):=by
 intro pins s σ H Q I h
 refine wpAny_Call_Name_kw (ld_blt I hg hm hv ?_ hn hdb)
 exact PyProof.Rows.callWith_builtin1 (thn (ha pos pins s σ H _ I h) fun us s1 ⟨vs,H1,I1,r1,q1⟩=>hc pins s1 σ H1 vs us Q I1 r1 q1) he hpl
theorem pe_callTy (hc:CallR X (.type T) r)(hg:Gl X x)(hm:X.mg x=none)(hv:bootBuiltins x=some (.type T))(ha:PA X (e::es) t)(hn:x ≠ "__name__" := by decide)(hdb:(x == ("__debug__" : Str))=false:=by decide)
  (he:starEach (e::es) X.env=(false,eval e X.env)::starEach es X.env:=by rfl) (hpl:(backTo pos (starEach es X.env)).any (·.1)=false:=by rfl):PE X (.Call (.Name x p) (e::es) [] pos) (tCB r t):=by
 intro pins s σ H Q I h
 refine wpAny_Call_Name_kw (ld_blt I hg hm hv ?_ hn hdb)
 exact PyProof.Rows.callWith_type1 (thn (ha pos pins s σ H _ I h) fun us s1 ⟨vs,H1,I1,r1,q1⟩=>hc pins s1 σ H1 vs us Q I1 r1 q1) he hpl
end
end L2
namespace HT
open PySem PyProof.Rows
section
open PySem.SeqAt
open PySem.AutoSeq1 (wpAny_loadPart')
open PySem.MeetsSeq PySem.MeetsSeq2 PySem.MeetsSeq3
end
section
variable {prog:Program}{w:World}{A:Around}{E:Value→Shared→Prop}{s:Shared}
theorem cat_tup {t b:Addr}{vs ws:List Value}{Q:Value→Shared→Prop}(ht:IsTup s.heap t vs.toArray)(hb:IsTup s.heap b ws.toArray)(hv:vs≠[])
  (h1:ws=[]→Q (.ref t) s) (h2:ws≠[]→Q (.ref s.heap.objs.size) {s with heap:=s.heap.push {cls:=.type "tuple", data:=.seq (vs++ws).toArray} })
  (hsz:vs.length+ws.length≤sizeLine):wpAny (model prog w) A (binaryOp .Add (.ref t) (.ref b)) Q E s:=by
 obtain⟨⟨cls,dd,data,sl⟩,ho,hc,n,hd⟩:=id ht
 obtain⟨⟨cls2,dd2,data2,sl2⟩,ho2,hc2,n2,hd2⟩:=id hb
 simp only at hc hd hc2 hd2
 subst hc hd hc2 hd2
 have e:vs.toArray++ws.toArray=(vs++ws).toArray:=by simp
 by_cases hw:ws=[]
 ·exact concat_meets ⟨_,ho,rfl⟩ ⟨_,ho2,rfl⟩ noFill_tuple_add seq_tuple_add PySem.F.slot_tuple_add PySem.F.entry_tuple_add (PySem.F.args_tuple_add_2 _ _)
   (tuple_addW1 t b vs.toArray ws.toArray n n2 dd dd2 sl sl2 (by simpa using hv) (by simp[hw])) ⟨ho,ho2,h1 hw⟩
 ·refine concat_meets ⟨_,ho,rfl⟩ ⟨_,ho2,rfl⟩ noFill_tuple_add seq_tuple_add PySem.F.slot_tuple_add PySem.F.entry_tuple_add (PySem.F.args_tuple_add_2 _ _)
   (tuple_addW2 t b vs.toArray ws.toArray n n2 dd dd2 sl sl2 (by simpa using hv) (by simpa using hw) (by rw[List.size_toArray,List.size_toArray];exact hsz)) ⟨ho,ho2,?_⟩
  rw[e]
  exact h2 hw
def sIx (n d:Nat):Option Int→Nat
 | none=>d
 | some v=>if v<0 then(v+(n:Int)).toNat else min v.toNat n
theorem sIx_none (n d:Nat):sIx n d none=d:=rfl
theorem sIx_nat (n d k:Nat):sIx n d (some (k:Int))=min k n:=by
 show(if (k:Int)<0 then((k:Int)+(n:Int)).toNat else min (k:Int).toNat n)=min k n
 rw[if_neg (by omega),Int.toNat_natCast]
theorem sIx_le (n d:Nat)(hd:d≤n)(o:Option Int):sIx n d o≤n:=by
 cases o with
 | none=>exact hd
 | some v =>
  show(if v<0 then(v+(n:Int)).toNat else min v.toNat n)≤n
  by_cases hv:v<0
  ·rw[if_pos hv];omega
  ·rw[if_neg hv];exact Nat.min_le_right _ _
theorem clip_eq (v:Int)(n d:Nat):(if v<0 then max (v+(n:Int)) 0 else min v (n:Int))=((sIx n d (some v):Nat):Int):=by
 show(if v<0 then max (v+(n:Int)) 0 else min v (n:Int))=(((if v<0 then(v+(n:Int)).toNat else min v.toNat n):Nat):Int)
 by_cases hv:v<0
 ·simp only[if_pos hv];omega
 ·simp only[if_neg hv];omega
theorem adjust_gen (lo hi:Option Int)(n:Nat):Builtin.Slice.sliceAdjust lo hi 1 (n:Int)=(((sIx n 0 lo:Nat):Int),((sIx n n hi:Nat):Int)):=by
 have h1:¬((1:Int)<0):=by omega
 unfold Builtin.Slice.sliceAdjust
 simp only[h1,if_false]
 refine Prod.ext ?_ ?_
 ·cases lo with
  | none=>rfl
  | some v=>exact clip_eq v n 0
 ·cases hi with
  | none=>rfl
  | some v=>exact clip_eq v n n
theorem places_gen (i j:Nat):Builtin.Slice.slicePlaces (i:Int) (j:Int) 1=j - i:=by
 unfold Builtin.Slice.slicePlaces
 have h1:(1:Int) > 0:=by omega
 simp only[h1,if_true,Int.ediv_one]
 split <;>omega
theorem slicePart_ {v:Value}{o:Option Int}{Q:Option Int→Shared→Prop}(p:IsPart v o)(h:Q o s):wpAny (model prog w) A (Builtin.Slice.slicePartIndex v) Q E s:=by
 cases p with
 | none=>exact slicePart_none h
 | int i t=>exact slicePart_int h
theorem sliceApplied_gen {sl:Addr}{vl vu:Value}{lo hi:Option Int}{n:Nat}{Q:Int×Int×Nat→Shared→Prop}(hs:s.heap.IsSliceOf sl vl vu .none)(pl:IsPart vl lo)(pu:IsPart vu hi)
  (h:Q (((sIx n 0 lo:Nat):Int),1,sIx n n hi - sIx n 0 lo) s):wpAny (model prog w) A (Builtin.Slice.sliceApplied (.ref sl) (pure (n:Int))) Q E s:=by
 obtain⟨os,hos,hcs,hds⟩:=id hs
 unfold Builtin.Slice.sliceApplied Builtin.Slice.sliceFields
 refine wpAny_bind (wpAny_bind (wpAny_field hos hds (x:=vl) rfl (wpAny_bind (wpAny_field hos hds (x:=vu) rfl (wpAny_bind (wpAny_field hos hds (x:=.none) rfl (wpAny_pure ?_)))))))
 refine wpAny_bind (slicePart_none ?_)
 show wpAny _ _ (if ((1:Int) == 0)=true then _ else _) _ _ s
 rw[if_neg (by decide)]
 refine wpAny_bind (slicePart_ pl (wpAny_bind (slicePart_ pu (wpAny_bind (wpAny_pure ?_)))))
 show wpAny _ _ (match Builtin.Slice.sliceAdjust lo hi 1 (n:Int) with|(lo,hi)=>pure (lo,(1:Int),Builtin.Slice.slicePlaces lo hi 1)) _ _ s
 rw[adjust_gen lo hi n]
 show wpAny _ _ (pure (((sIx n 0 lo:Nat):Int),(1:Int),Builtin.Slice.slicePlaces ((sIx n 0 lo:Nat):Int) ((sIx n n hi:Nat):Int) 1)) _ _ s
 rw[places_gen]
 exact wpAny_pure h
theorem pick_gen (xs:Array Value)(i k:Nat):((List.range k).filterMap fun(m:Nat)=>xs[((i:Int)+(m:Int)*1).toNat]?).toArray=((xs.toList.drop i).take k).toArray:=by
 have e:(fun(m:Nat)=>xs[((i:Int)+(m:Int)*1).toNat]?)=fun m=>xs[i+m]?:=by
  funext m
  have:((i:Int)+(m:Int)*1).toNat=i+m:=by omega
  rw[this]
 rw[e]
 have:=pick_run xs i k
 rw[List.filterMap_map] at this
 have e2:((fun x=>xs[x]?)∘fun x=>i+x)=fun m=>xs[i+m]?:=rfl
 rw[e2] at this
 rw[this]
theorem getItem_tuple_cut {t sl:Addr}{items:Array Value}{vl vu:Value}{lo hi:Option Int}{Q:Value→Shared→Prop}(ht:IsTup s.heap t items)(hs:s.heap.IsSliceOf sl vl vu .none)(pl:IsPart vl lo)(pu:IsPart vu hi)
  (hw:¬(sIx items.size 0 lo=0∧sIx items.size items.size hi=items.size))
  (h:Q (.ref s.heap.objs.size) {s with heap:=s.heap.push {cls:=.type "tuple", data:=.seq ((items.toList.drop (sIx items.size 0 lo)).take (sIx items.size items.size hi - sIx items.size 0 lo)).toArray} })
  (hsz:items.size≤sizeLine):wpAny (model prog w) A (getItem (.ref t) (.ref sl)) Q E s:=by
 have htake:sizeOk (.seq ((items.toList.drop (sIx items.size 0 lo)).take (sIx items.size items.size hi - sIx items.size 0 lo)).toArray):=by
  show((items.toList.drop (sIx items.size 0 lo)).take (sIx items.size items.size hi - sIx items.size 0 lo)).toArray.size≤sizeLine
  rw[List.size_toArray,List.length_take,List.length_drop,Array.length_toList]
  omega
 have hj:sIx items.size items.size hi≤items.size:=sIx_le _ _ (Nat.le_refl _) hi
 obtain⟨os,hos,hcs,hds⟩:=id hs
 have hTs:s.TypeIs (.ref sl) "slice" := ⟨os,hos,hcs⟩
 unfold getItem
 try with_reducible refine wpAny_holding ?_
 first|refine wpAny_bind (wpAny_pure ?_)|skip
 refine wpAny_bind (wpAny_sequenceKey ht.typeIs (by decide) ?_)
 refine wpAny_bind (wpAny_callSpecial?_slot (name:=Str.ofString "__getitem__") ht.typeIs PyProof.Rows.slot_tuple_getitem
  (wpAny_call_entry PyProof.Rows.slot_tuple_getitem ht.typeIs entry_tuple_getitem ?_ (args_tuple_getitem _ _)))
 show wpAny _ _ (Builtin.Tuple.tupleItemsOf (.ref t) >>= _) _ _ s
 refine wpAny_bind (tupleItemsOf_ ht ?_)
 refine wpAny_bind (wpAny_typeOf hTs ?_)
 rw[if_pos (by decide)]
 refine wpAny_bind (sliceApplied_gen hs pl pu ?_)
 have hno:¬((((sIx items.size 0 lo:Nat):Int) == 0&&(1:Int) == 1&&(sIx items.size items.size hi - sIx items.size 0 lo) == items.size)=true):=by
  intro q
  rw[Bool.and_eq_true,Bool.and_eq_true] at q
  have q1:((sIx items.size 0 lo:Nat):Int)=0:=eq_of_beq q.1.1
  have q2:sIx items.size items.size hi - sIx items.size 0 lo=items.size:=eq_of_beq q.2
  exact hw ⟨by omega,by omega⟩
 show wpAny _ _ (if (((sIx items.size 0 lo:Nat):Int) == 0&&(1:Int) == 1&&(sIx items.size items.size hi - sIx items.size 0 lo) == items.size)=true then _ else _) _ _ s
 rw[if_neg hno,pick_gen]
 first
  | exact wpAny_bind (m:=Builtin.Tuple.tupleExact _) (wpAny_newObj_type (wpAny_pure ⟨_,rfl,wpAny_pure h⟩) htake)
  | exact wpAny_bind (m:=Builtin.Tuple.tupleExact _) (wpAny_newObj_type (wpAny_bind (wpAny_pure (wpAny_pure ⟨_,rfl,wpAny_pure h⟩))) htake)
  | exact wpAny_bind (wpAny_bind (m:=Builtin.Tuple.tupleExact _) (wpAny_newObj_type (wpAny_pure (wpAny_pure ⟨_,rfl,wpAny_pure h⟩)) htake))
  | exact wpAny_bind (wpAny_bind (m:=Builtin.Tuple.tupleExact _) (wpAny_newObj_type (wpAny_pure ⟨_,rfl,wpAny_pure h⟩) htake))
end
end HT
namespace L2
open PySem PySem.Spec PyProof.Rows
abbrev TO:=St→Hp→(Option Int→Hp→Prop)→Prop
def PO (X:Cx)(e:Option Expr)(t:TO):Prop :=
 ∀ (pins:List (Addr×Obj)) (s:Shared) (σ:St) (H:Hp) (Q:Option Int→Hp→Prop),Inv X pins σ H s→t σ H Q →
  wpAny (model X.prog X.w) X.A (evalPart e X.env) (fun u s'=>∃o H',Inv X pins σ H' s'∧IsPart u o∧Q o H') X.xe s
def tNoPart:TO:=fun _ H Q=>Q none H
def tPart (t:TE):TO:=fun σ H Q=>t σ H fun x H1=>∃i,x=.int i∧Q (some i) H1
section
variable {X:Cx}{e:Expr}{te:TE}{lo hi:Option Expr}{tl th:TO}{pos p2:Pos}
theorem po_none:PO X none tNoPart:=by
 intro pins s σ H Q I h
 rw[evalPart_none]
 exact wpAny_pure ⟨none,H,I,.none,h⟩
theorem po_some (h:PE X e te):PO X (some e) (tPart te):=by
 intro pins s σ H Q I hw
 rw[evalPart_some]
 refine thn (h pins s σ H _ I hw) fun u s1 hq23=>?_
 obtain⟨x,H1,I1,r1,q1⟩:=hq23
 obtain⟨i,rfl,q⟩:=q1
 obtain⟨t,rfl⟩:=r1
 exact⟨some i,H1,I1,.int i t,q⟩
def SlR (X:Cx)(r:V→Option Int→Option Int→Hp→VK→Prop):Prop :=
 ∀ (pins:List (Addr×Obj)) (s:Shared) (σ:St) (H:Hp) (x:V) (v vl vu:Value) (lo hi:Option Int) (sl:Addr) (Q:VK),Inv X pins σ H s→RelV x v→s.heap.IsSliceOf sl vl vu .none→IsPart vl lo→IsPart vu hi→r x lo hi H Q →
  ∃T id,typeLookup (.type T) "__getitem__" = pure (some (.builtin id))∧s.TypeIs v T∧wpAny (model X.prog X.w) X.A (getItem v (.ref sl)) (EP X pins σ Q) X.xe s
theorem SlR.or {r r':V→Option Int→Option Int→Hp→VK→Prop}(h:SlR X r)(h':SlR X r'):SlR X (fun x lo hi H Q=>r x lo hi H Q∨r' x lo hi H Q):=by
 intro pins s σ H x v vl vu lo hi sl Q I rx hs pl pu q
 rcases q with q|q
 ·exact h pins s σ H x v vl vu lo hi sl Q I rx hs pl pu q
 ·exact h' pins s σ H x v vl vu lo hi sl Q I rx hs pl pu q
def tSl (r:V→Option Int→Option Int→Hp→VK→Prop)(te:TE)(tl th:TO):TE:=fun σ H Q=>te σ H fun x H1=>tl σ H1 fun l H2=>th σ H2 fun u H3=>r x l u H3 Q
theorem pe_slice {r:V→Option Int→Option Int→Hp→VK→Prop}(hr:SlR X r)(he:PE X e te)(hl:PO X lo tl)(hu:PO X hi th):PE X (.Subscript e (.Slice lo hi none p2) pos) (tSl r te tl th):=by
 intro pins s σ H Q I h
 refine Subscript_ (thn (he pins s σ H _ I h) fun v s1 hq24=>?_)
 obtain⟨x,H1,I1,r1,q1⟩:=hq24
 refine wpAny_Slice (thn (hl pins s1 σ H1 _ I1 q1) fun vl s2 ⟨l,H2,I2,pl,q2⟩=>thn (hu pins s2 σ H2 _ I2 q2) fun vu s3 hq25=>?_)
 obtain⟨u,H3,I3,pu,q3⟩:=hq25
 rw[evalPart_none]
 refine wpAny_pure ?_
 have I4:Inv X pins σ H3 {s3 with heap:=s3.heap.push {cls:=.type "slice", data:=.fields #[vl,vu,.none]} }:=I3.kept (t':=s3.toks) fun b ob q=>Heap.get?_push_of_some _ q
 obtain⟨T,id,hT,ht,hg⟩:=hr pins {s3 with heap:=s3.heap.push {cls:=.type "slice", data:=.fields #[vl,vu,.none]} } σ H3 x v vl vu l u s3.heap.objs.size Q I4 r1 (Heap.IsSliceOf.new ..) pl pu q3
 show wpAny (model X.prog X.w) X.A (subscriptTail e (.Slice lo hi none p2) v (.ref s3.heap.objs.size)) (EP X pins σ Q) X.xe {s3 with heap:=s3.heap.push {cls:=.type "slice", data:=.fields #[vl,vu,.none]} }
 exact tail_any (ops:=[.ref s3.heap.objs.size,v]) ht hT hg (by with_unfolding_all rfl)
def cutV (xs:List V)(lo hi:Option Int):List V:=(xs.drop (HT.sIx xs.length 0 lo)).take (HT.sIx xs.length xs.length hi - HT.sIx xs.length 0 lo)
theorem cutV_length (xs:List V)(lo hi:Option Int):(cutV xs lo hi).length≤xs.length:=by
 unfold cutV
 rw[List.length_take,List.length_drop]
 omega
def rSlT (K:PySem.W.Frag):V→Option Int→Option Int→Hp→VK→Prop:=fun x lo hi H Q=>∃a xs,x=.ref a∧SqT K H a xs ∧
 ¬(HT.sIx xs.length 0 lo=0∧HT.sIx xs.length xs.length hi=xs.length)∧∀p,H p=none→Q (.ref p) (upd H p (.tup (cutV xs lo hi)))
theorem sl_tup:SlR X (rSlT X.K):=by
 intro pins s σ H x v vl vu lo hi sl Q I rx hs pl pu h
 obtain⟨a,xs,rfl,hx,hw,q⟩:=h
 cases rx
 obtain⟨its,r,ht,hz⟩:=I.tuple hx
 have hlen:its.toArray.size=xs.length:=by rw[List.size_toArray];exact r.length.symm
 refine⟨"tuple", _,PyProof.Rows.slot_tuple_getitem.lookup,ht.typeIs,?_⟩
 refine HT.getItem_tuple_cut ht hs pl pu (by rw[hlen];exact hw) ?_ (by rw[hlen];exact hz)
 rw[hlen]
 refine⟨.ref s.heap.objs.size,_,I.laid (t':=s.toks) (o:=.tup (cutV xs lo hi)) (fun b ob q=>Heap.get?_push_of_some _ q) (Nat.le_refl _) ?_,rfl,q _ (I.hok.fresh (Nat.le_refl _))⟩
 exact⟨Nat.le_trans (cutV_length xs lo hi) hz,_,(r.drop (HT.sIx xs.length 0 lo)).take (HT.sIx xs.length xs.length hi - HT.sIx xs.length 0 lo),TupD.new _ _⟩
theorem Vals.nil_iff {xs:List V}{us:List Value}(r:Vals xs us):us=[]↔xs=[]:=by
 cases r with
 | nil=>simp
 | cons _ _=>simp
end
end L2
namespace L2
open PySem PySem.Spec PyProof.Rows
def ixN (n:Nat)(i:Int):Option Nat:=if 0≤i then(if i<n then some i.toNat else none) else if -(n:Int)≤i then some (i+n).toNat else none
def atI {α:Type}(xs:List α)(i:Int):Option α:=(ixN xs.length i).bind fun j=>xs[j]?
theorem ixN_seq {n:Nat}{i:Int}{j:Nat}(h:ixN n i=some j):seqIndex? i n=some j∧j<n∧-(n:Int)≤i∧i<n:=by
 unfold ixN at h
 by_cases h0:0≤i
 ·rw [if_pos h0] at h
  by_cases h1:i<n
  ·rw[if_pos h1] at h
   have e:i.toNat=j:=Option.some.inj h
   exact⟨by rw[seqIndex_of h0 h1,e],by omega,by omega,h1⟩
  ·rw[if_neg h1] at h;cases h
 ·rw [if_neg h0] at h
  by_cases h1:-(n:Int)≤i
  ·rw[if_pos h1] at h
   have e:(i+n).toNat=j:=Option.some.inj h
   exact⟨by rw[seqIndex_neg (by omega) h1,e],by omega,h1,by omega⟩
  ·rw[if_neg h1] at h;cases h
theorem atI_get {α:Type}{xs:List α}{i:Int}{v:α}(h:atI xs i=some v):∃j,seqIndex? i xs.length=some j∧xs[j]? = some v∧j<xs.length∧-(xs.length:Int)≤i∧i<xs.length:=by
 unfold atI at h
 cases e:ixN xs.length i with
 | none=>rw[e] at h;cases h
 | some j =>
  rw[e] at h
  obtain⟨h1,h2,h3,h4⟩:=ixN_seq e
  exact⟨j,h1,h,h2,h3,h4⟩
theorem atI_nat {α:Type}{xs:List α}{j:Nat}{v:α}(h:xs[j]? = some v):atI xs (j:Int)=some v:=by
 have hj:j<xs.length:=(List.getElem?_eq_some_iff.mp h).1
 have e:ixN xs.length (j:Int)=some j:=by
  unfold ixN
  rw[if_pos (by omega),if_pos (by omega)];simp
 unfold atI;rw[e];exact h
def PlainIx (b:Expr):Prop:=∀o i,subscripted b false o i=operate [o,i] (getItem o i)
def IxR (X:Cx)(r:R2):Prop :=
 ∀ (value slice:Expr) (pins:List (Addr×Obj)) (s:Shared) (σ:St) (H:Hp) (x y:V) (v u:Value) (Q:VK),Inv X pins σ H s→RelV x v→RelV y u→r x y H Q →
  subscripted slice false v u=operate [v,u] (getItem v u)→wpAny (model X.prog X.w) X.A (subscriptTail value slice v u) (EP X pins σ Q) X.xe s
def MtR (X:Cx)(id:String)(r:V→List V→Hp→VK→Prop):Prop :=
 ∀ (pins:List (Addr×Obj)) (s:Shared) (σ:St) (H:Hp) (x:V) (xs:List V) (v:Value) (us:List Value) (Q:VK),Inv X pins σ H s→RelV x v→Vals xs us→r x xs H Q →
  wpAny (model X.prog X.w) X.A (call (.builtin id) (v::us)) (EP X pins σ Q) X.xe s
section
variable {X:Cx}{a b:Expr}{ta tb:TE}{pos:Pos}
theorem IxR.or {r r':R2}(h:IxR X r)(h':IxR X r'):IxR X (fun x y H Q=>r x y H Q∨r' x y H Q):=by
 intro value slice pins s σ H x y v u Q I rx ry q hs
 rcases q with q|q
 ·exact h value slice pins s σ H x y v u Q I rx ry q hs
 ·exact h' value slice pins s σ H x y v u Q I rx ry q hs
theorem pe_ix {r:R2}(hr:IxR X r)(ha:PE X a ta)(hb:PE X b tb)(hs:PlainIx b):PE X (.Subscript a b pos) (tOp r ta tb):=by
 intro pins s σ H Q I h
 exact Subscript_ (binT ha hb I h fun v u s2 x y H2 I2 rx ry q=>hr a b pins s2 σ H2 x y v u Q I2 rx ry q (hs _ _))
def rIxL (K:PySem.W.Frag):R2:=fun x y H Q=>∃p xs i v,x=.ref p∧y=.int i∧SqL K H p xs∧atI xs i=some v∧Q v H
def rIxT (K:PySem.W.Frag):R2:=fun x y H Q=>∃p xs i v,x=.ref p∧y=.int i∧SqT K H p xs∧atI xs i=some v∧Q v H
def rIxS:R2:=fun x y H Q=>∃z i c,x=.str z∧y=.int i∧z.length≤sizeLine∧atI z.cps.toList i=some c∧Q (.str ⟨#[c]⟩) H
theorem ix_list:IxR X (rIxL X.K):=by
 intro value slice pins s σ H x y v u Q I rx ry h hs
 obtain⟨p,xs,i,z,rfl,rfl,hq,he,q⟩:=h
 cases rx
 obtain⟨t,rfl⟩:=ry
 obtain⟨its,r,pl,hz⟩:=I.list hq
 obtain⟨j,h1,h2,h3,h4,h5⟩:=atI_get he
 obtain⟨w,ew,rw'⟩:=r.get h2
 have hl:=r.length
 have hn:=line63
 have fin:EP X pins σ Q w s:=⟨z,H,I,rw',q⟩
 by_cases h0:0≤i
 ·have hj:i.toNat=j:=by
   rw[seqIndex_of h0 h5] at h1
   exact Option.some.inj h1
  exact item_listR pl.isList h0 (by omega) (by rw[hj];simpa using ew) fin hs
 ·have hj:(i+(its.toArray.size:Int)).toNat=j:=by
   rw[seqIndex_neg (by omega) h4] at h1
   rw[List.size_toArray,← hl]
   exact Option.some.inj h1
  exact subscriptTail_builtinR (x:=w) pl.isList.typeIs slot_list_getitem.lookup
   (wpAny_getItem_list_neg (Q:=fun r s'=>r=w∧EP X pins σ Q r s') pl.isList (by omega) (by rw[List.size_toArray] <;>omega) (by omega) (by rw[hj];simpa using ew) ⟨rfl,fin⟩) hs
theorem ix_tup:IxR X (rIxT X.K):=by
 intro value slice pins s σ H x y v u Q I rx ry h hs
 obtain⟨p,xs,i,z,rfl,rfl,hq,he,q⟩:=h
 cases rx
 obtain⟨t,rfl⟩:=ry
 obtain⟨its,r,pl,hz⟩:=I.tuple hq
 obtain⟨j,h1,h2,h3,h4,h5⟩:=atI_get he
 obtain⟨w,ew,rw'⟩:=r.get h2
 have hl:=r.length
 have hn:=line63
 have fin:EP X pins σ Q w s:=⟨z,H,I,rw',q⟩
 exact subscriptTail_builtinR (x:=w) pl.typeIs slot_tuple_getitem.lookup
  (getItem_tuple (j:=j) (Q:=fun r s'=>r=w∧EP X pins σ Q r s') pl (by omega) (by omega) (by rw[List.size_toArray,← hl];exact h1) (by simpa using ew) ⟨rfl,fin⟩) hs
theorem ix_str:IxR X rIxS:=by
 intro value slice pins s σ H x y v u Q I rx ry h hs
 obtain⟨z,i,c,rfl,rfl,hz,he,q⟩:=h
 obtain⟨t,rfl⟩:=rx
 obtain⟨t',rfl⟩:=ry
 obtain⟨j,h1,h2,h3,h4,h5⟩:=atI_get he
 have hl:z.cps.toList.length=z.length:=by simp[Str.length]
 rw[hl] at h1 h4 h5
 have hn:=line63
 exact tail_any (typeIs_str s z t) slot_str_getitem.lookup (getItem_str (c:=c) (by
  have e1:decide (i < -(2 ^ 63:Int))=false:=decide_eq_false (by omega)
  have e2:decide (i≥2 ^ 63)=false:=decide_eq_false (by omega)
  rw[e1,e2,Bool.or_false]) (by rw[h1];simpa using h2) ⟨.str ⟨#[c]⟩,H,I.tok _,⟨_,rfl⟩,q⟩) hs
def rIx (K:PySem.W.Frag):R2:=fun x y H Q=>rIxL K x y H Q∨rIxT K x y H Q∨rIxS x y H Q
theorem ix_seq:IxR X (rIx X.K):=ix_list.or (ix_tup.or ix_str)
theorem Inv.lst {pins:List (Addr×Obj)}{σ:St}{H:Hp}{s:Shared}{p:Addr}{xs:List V}(I:Inv X pins σ H s)(h:H p=some (.lst xs)) :
  ∃(its:List Value) (n:Nat),Vals xs its∧s.heap.get? p=some {cls:=.type "list", data:=.seq its.toArray n}∧xs.length≤sizeLine:=by
 obtain⟨z,its,n,r,e⟩:=I.hok p _ h
 exact⟨its,n,r,e,z⟩
theorem slice_bounds (lo hi:Option Int)(n:Nat):(sliceBounds lo hi none n).1=((HT.sIx n 0 lo:Nat):Int)∧(sliceBounds lo hi none n).2.1=((HT.sIx n n hi:Nat):Int)∧(sliceBounds lo hi none n).2.2=1:=by
 refine⟨?_,?_,rfl⟩
 ·cases lo with
  | none=>simp[sliceBounds,HT.sIx]
  | some i =>
   simp only[sliceBounds,HT.sIx,Option.getD_none,show(1:Int) > 0 by decide,if_true]
   by_cases h:i<0
   ·simp only[h,if_true] <;>omega
   ·simp only[h,if_false] <;>omega
 ·cases hi with
  | none=>simp[sliceBounds,HT.sIx]
  | some i =>
   simp only[sliceBounds,HT.sIx,Option.getD_none,show(1:Int) > 0 by decide,if_true]
   by_cases h:i<0
   ·simp only[h,if_true] <;>omega
   ·simp only[h,if_false] <;>omega
theorem slicePick_cut (its:List Value)(lo hi:Option Int):slicePick its.toArray lo hi none=((its.drop (HT.sIx its.length 0 lo)).take (HT.sIx its.length its.length hi - HT.sIx its.length 0 lo)).toArray:=by
 obtain⟨h1,h2,h3⟩:=slice_bounds lo hi its.toArray.size
 unfold slicePick
 rw[h1,h2,h3]
 simp only[sliceRange_one,pick_run,List.size_toArray] <;>rfl
def rSlL (K:PySem.W.Frag):V→Option Int→Option Int→Hp→VK→Prop:=fun x lo hi H Q=>∃a xs,x=.ref a∧SqL K H a xs∧∀p,H p=none→Q (.ref p) (upd H p (.lst (cutV xs lo hi)))
theorem sl_list:SlR X (rSlL X.K):=by
 intro pins s σ H x v vl vu lo hi sl Q I rx hs pl pu h
 obtain⟨a,xs,rfl,hx,q⟩:=h
 cases rx
 obtain⟨its,r,ht,hz⟩:=I.list hx
 have hlen:=r.length
 refine⟨"list", _,slot_list_getitem.lookup,ht.isList.typeIs,?_⟩
 refine wpAny_getItem_list_slice ht.isList hs pl pu .none (by simp) ?_ (by rw[List.size_toArray] <;>omega)
 rw[slicePick_cut,← hlen]
 refine⟨.ref s.heap.objs.size,_,I.laid (t':=s.toks) (o:=.lst (cutV xs lo hi)) (fun b ob q=>Heap.get?_push_of_some _ q) (Nat.le_refl _) ?_,rfl,q _ (I.hok.fresh (Nat.le_refl _))⟩
 exact⟨Nat.le_trans (cutV_length xs lo hi) hz,_,0,(r.drop (HT.sIx xs.length 0 lo)).take (HT.sIx xs.length xs.length hi - HT.sIx xs.length 0 lo),Heap.get?_push_size _ rfl⟩
def flatV:V→Bool
 | .non=>true
 | .bl _=>true
 | .int _=>true
 | .str _=>true
 | _=>false
def eqV:V→V→Bool
 | .non,.non=>true
 | .bl a,.bl b=>a == b
 | .bl a,.int b=>(if a then 1 else 0) == b
 | .int a,.bl b=>a == (if b then 1 else 0)
 | .int a,.int b=>a == b
 | .str a,.str b=>a == b
 | _,_=>false
theorem eqAt_V {A:Around}{s:Shared}{y x:V}{u v:Value}(ry:RelV y u)(rx:RelV x v)(fy:flatV y=true)(fx:flatV x=true):SeqAt.EqAt A s u v (eqV y x):=by
 cases y with
 | non =>
  cases ry
  cases x with
  | non=>cases rx;exact SeqAt.EqAt.same _
  | bl b=>cases rx;exact SeqAt.EqAt.none_bool b
  | int b=>obtain⟨t,rfl⟩:=rx;exact SeqAt.EqAt.none_int b t
  | str b=>obtain⟨t,rfl⟩:=rx;exact SeqAt.EqAt.none_str b t
  | _=>exact absurd (show false=true from fx) Bool.false_ne_true
 | bl a =>
  cases ry
  cases x with
  | non=>cases rx;exact SeqAt.EqAt.bool_none a
  | bl b=>cases rx;exact SeqAt.EqAt.bool_bool a b
  | int b=>obtain⟨t,rfl⟩:=rx;exact SeqAt.EqAt.bool_int a b t
  | str b=>obtain⟨t,rfl⟩:=rx;exact SeqAt.EqAt.bool_str a b t
  | _=>exact absurd (show false=true from fx) Bool.false_ne_true
 | int a =>
  obtain⟨t',rfl⟩:=ry
  cases x with
  | non=>cases rx;exact SeqAt.EqAt.int_none a t'
  | bl b=>cases rx;exact SeqAt.EqAt.int_bool a t' b
  | int b=>obtain⟨t,rfl⟩:=rx;exact SeqAt.EqAt.int_int a t' b t
  | str b=>obtain⟨t,rfl⟩:=rx;exact SeqAt.EqAt.int_str a t' b t
  | _=>exact absurd (show false=true from fx) Bool.false_ne_true
 | str a =>
  obtain⟨t',rfl⟩:=ry
  cases x with
  | non=>cases rx;exact SeqAt.EqAt.str_none a t'
  | bl b=>cases rx;exact SeqAt.EqAt.str_bool a t' b
  | int b=>obtain⟨t,rfl⟩:=rx;exact SeqAt.EqAt.str_int a t' b t
  | str b=>obtain⟨t,rfl⟩:=rx;exact SeqAt.EqAt.str_str a t' b t
  | _=>exact absurd (show false=true from fx) Bool.false_ne_true
 | _=>exact absurd (show false=true from fy) Bool.false_ne_true
def eqU (x:V)(u:Value):Bool:=match u with
 | .none=>eqV .non x
 | .bool b=>eqV (.bl b) x
 | .int i _=>eqV (.int i) x
 | .str z _=>eqV (.str z) x
 | _=>false
theorem eqU_of {x y:V}{u:Value}(r:RelV y u)(f:flatV y=true):eqU x u=eqV y x:=by
 cases y with
 | non=>cases r;rfl
 | bl b=>cases r;rfl
 | int i=>obtain⟨t,rfl⟩:=r;rfl
 | str z=>obtain⟨t,rfl⟩:=r;rfl
 | _=>exact absurd (show false=true from f) Bool.false_ne_true
theorem any_eqU {x:V}:∀{xs:List V}{us:List Value},Vals xs us→xs.all flatV=true→us.any (eqU x)=xs.any fun y=>eqV y x
 | _,_,.nil,_=>rfl
 | y::xs,u::us,.cons r t,f=>by
  rw[List.all_cons,Bool.and_eq_true] at f
  rw[List.any_cons,List.any_cons,eqU_of r f.1,any_eqU t f.2]
theorem mem_eqAt {A:Around}{s:Shared}{x:V}{v:Value}(rx:RelV x v)(fx:flatV x=true):∀{xs:List V}{us:List Value},Vals xs us→xs.all flatV=true→∀u∈us,SeqAt.EqAt A s u v (eqU x u)
 | _,_,.nil,_=>fun u hu=>by cases hu
 | y::xs,u::us,.cons r t,f=>fun u' hu=>by
  rw[List.all_cons,Bool.and_eq_true] at f
  rcases List.mem_cons.mp hu with rfl|hu
  ·rw[eqU_of r f.1];exact eqAt_V r rx f.1 fx
  ·exact mem_eqAt rx fx t f.2 u' hu
def inV (x:V)(xs:List V):Bool:=xs.any fun y=>eqV y x
def rIn (K:PySem.W.Frag)(neg:Bool):R2:=fun x y H Q=>∃p xs,y=.ref p∧(SqL K H p xs∨SqT K H p xs)∧flatV x=true∧xs.all flatV=true∧Q (.bl (if neg then !inV x xs else inV x xs)) H
theorem op_in_seq:OpR X (compareOp .In) (rIn X.K false):=by
 intro pins s σ H x y v u Q I rx ry h
 obtain⟨p,xs,rfl,hq,fx,fs,q⟩:=h
 cases ry
 rcases hq with hq|hq
 ·obtain⟨its,r,pl,hz⟩:=I.list hq
  refine SeqAt.in_listAt (eqU x) pl.isList (fun w hw=>mem_eqAt rx fx r fs w (by simpa using hw)) ⟨.bl _,H,I,rfl,?_⟩
  rw[show its.toArray.any (eqU x)=its.any (eqU x) by simp,any_eqU r fs]
  exact q
 ·obtain⟨its,r,pl,hz⟩:=I.tuple hq
  refine SeqAt.in_tupleAt (eqU x) pl (fun w hw=>mem_eqAt rx fx r fs w (by simpa using hw)) ⟨.bl _,H,I,rfl,?_⟩
  rw[show its.toArray.any (eqU x)=its.any (eqU x) by simp,any_eqU r fs]
  exact q
theorem call_list_of:CallR X (.type "list") (fun xs H Q=>∃p ys,xs=[.ref p]∧(SqL X.K H p ys∨SqT X.K H p ys)∧∀l,H l=none→Q (.ref l) (upd H l (.lst ys))):=by
 intro pins s σ H xs us Q I r h
 obtain⟨p,ys,rfl,hq,q⟩:=h
 obtain⟨u,rfl,rx⟩:=vals1 r
 cases rx
 have fin:∀(its:List Value),Vals ys its→ys.length≤sizeLine→∀(h':Heap) (c':Nat),(∀b o',s.heap.get? b=some o'→h'.get? b=some o') →
   h'.get? s.heap.objs.size=some {cls:=.type "list", dict:=none,data:=.seq its.toArray c',slots:=#[]}→EP X pins σ Q (.ref s.heap.objs.size) {s with heap:=h'}:=fun its r' hz h' c' kp e =>
  ⟨.ref s.heap.objs.size,_,I.laid (t':=s.toks) kp (Nat.le_refl _) (show ObjOk X.prog X.w _ h' _ (.lst ys) from⟨hz,its,c',r',e⟩),rfl,q _ (I.hok.fresh (Nat.le_refl _))⟩
 rcases hq with hq|hq
 ·obtain⟨its,r',pl,hz⟩:=I.list hq
  have hlen:=r'.length
  obtain⟨o,ho,hc,n,hd⟩:=pl.isList
  exact call_list_seq p (.inl rfl) ho hc hd (fun h' c' kp e=>fin its r' hz h' c' kp e) (by simp only[List.size_toArray] <;>omega)
 ·obtain⟨its,r',pl,hz⟩:=I.tuple hq
  have hlen:=r'.length
  obtain⟨o,ho,hc,n,hd⟩:=pl
  exact call_list_seq p (.inr rfl) ho hc hd (fun h' c' kp e=>fin its r' hz h' c' kp e) (by simp only[List.size_toArray] <;>omega)
theorem call_tuple_of:CallR X (.type "tuple") (fun xs H Q=>∃p ys,xs=[.ref p]∧((SqL X.K H p ys∧∀l,H l=none→Q (.ref l) (upd H l (.tup ys)))∨(SqT X.K H p ys∧Q (.ref p) H))):=by
 intro pins s σ H xs us Q I r h
 obtain⟨p,ys,rfl,h⟩:=h
 obtain⟨u,rfl,rx⟩:=vals1 r
 cases rx
 rcases h with⟨hq,q⟩|⟨hq,q⟩
 ·obtain ⟨its,r',pl,hz⟩:=I.list hq
  have hlen:=r'.length
  refine call_tuple_list pl.isList (fun h' kp=>?_) (by simp only[List.size_toArray] <;>omega)
  have I1:Inv X pins σ H {s with heap:=h'}:=I.kept (t':=s.toks) kp
  have I2:Inv X pins σ (upd H h'.objs.size (.tup ys)) {s with heap:=h'.push {cls:=.type "tuple", data:=.seq its.toArray} } :=
   I1.laid (t':=s.toks) (fun b o e=>Heap.get?_push_of_some _ e) (Nat.le_refl _) (show ObjOk X.prog X.w _ _ _ (.tup ys) from⟨hz,its,r',TupD.new _ _⟩)
  exact⟨.ref h'.objs.size,_,I2,rfl,q _ (I1.hok.fresh (Nat.le_refl _))⟩
 ·obtain⟨its,r',pl,hz⟩:=I.tuple hq
  exact call_tuple_same pl ⟨.ref p,H,I,rfl,q⟩
def tyV (K:PySem.W.Frag)(T:String)(x:V)(H:Hp):Prop:=match x with
 | .str _=>T = "str"
 | .int _=>T = "int"
 | .ref p=>(T = "list" ∧ ∃xs,SqL K H p xs)∨(T = "tuple" ∧ ∃o,K.lookup p=some o∧o.cls=.type "tuple" ∧ o.dict=none) ∨
   (T = "dict" ∧ ((∃kvs,H p=some (.dK kvs))∨∃kvs,H p=some (.dT kvs)))∨(T = "set" ∧ ∃S n,H p=some (.set S n))
 | _=>False
theorem tyV_is {pins:List (Addr×Obj)}{σ:St}{H:Hp}{s:Shared}{T:String}{x:V}{v:Value}(I:Inv X pins σ H s)(r:RelV x v)(ty:tyV X.K T x H) :
  s.TypeIs v T∧∀a,v=.ref a→∃ob,s.heap.get? a=some ob∧ob.dict=none:=by
 cases x with
 | str z =>
  obtain⟨t,rfl⟩:=r
  cases (show T = "str" from ty)
  exact⟨typeIs_str s z t,fun _ e=>nomatch e⟩
 | int i =>
  obtain⟨t,rfl⟩:=r
  cases (show T = "int" from ty)
  exact⟨typeIs_int s i t,fun _ e=>nomatch e⟩
 | ref p =>
  cases r
  rcases ty with⟨rfl,xs,hq⟩|⟨rfl,o,hk,hc,hd⟩|⟨rfl,hk⟩|⟨rfl,S,n,hk⟩
  ·obtain⟨its,_,pl,_⟩:=I.list hq
   refine⟨pl.isList.typeIs,fun a e=>?_⟩
   cases e
   obtain⟨o,n,e,c,hd,_⟩:=pl
   exact⟨o,e,hd⟩
  ·refine⟨⟨o,I.kIn p o hk,hc⟩,fun a e=>?_⟩
   cases e
   exact⟨o,I.kIn _ o hk,hd⟩
  ·have z:∃o,s.heap.get? p=some o∧o.ExactDict:=by
    rcases hk with⟨kvs,hk⟩|⟨kvs,hk⟩
    ·obtain⟨_,_,_,_,o,_,_,e,ex,_⟩:=I.hok p _ hk
     exact⟨o,e,ex⟩
    ·obtain⟨_,_,_,_,o,_,_,e,ex,_⟩:=I.hok p _ hk
     exact⟨o,e,ex⟩
   obtain⟨o,e,ex⟩:=z
   refine⟨⟨o,e,ex.1⟩,fun a e2=>?_⟩
   cases e2
   exact⟨o,e,ex.2.1⟩
  ·obtain⟨o,_,_,_,e,ex,_⟩:=I.hok p _ hk
   refine⟨⟨o,e,ex.1⟩,fun a e2=>?_⟩
   cases e2
   exact⟨o,e,ex.2.1⟩
 | _=>exact False.elim ty
def tBM (K:PySem.W.Frag)(T:String)(r:V→List V→Hp→VK→Prop)(to:TE)(t:TA):TE:=fun σ H Q=>to σ H fun x H1=>tyV K T x H1∧t σ H1 fun xs H2=>r x xs H2 Q
variable {o e:Expr}{es:List Expr}{to:TE}{t:TA}{name:Str}{apos cpos:Pos}{T id:String}{r:V→List V→Hp→VK→Prop}
theorem pe_bm (pa:PlainAttrs T)(slot:Slot T name id)(hty:typeOf (.builtin id)=pure (.type "method_descriptor"))(hm:MtR X id r)(ho:PE X o to)(ha:PA X (e::es) t)
  (hbase:attributeBase o name X.env (eval o X.env)=eval o X.env:=by rfl)
  (hfew:((backTo cpos (starEach (e::es) X.env)).all (fun x=>!x.1)&&(backToKw cpos (keywordEach [] X.env)).all (fun x=>x.1.isSome)
   && decide ((e::es).length+([]:List Keyword).length+(if ([]:List Keyword).isEmpty then 0 else 1)<30))=true:=by rfl)
  (hline:(apos.endLine == cpos.line)=true:=by rfl) (hs:starEach (e::es) X.env=(false,eval e X.env)::starEach es X.env:=by rfl) (hplain:(backTo cpos (starEach es X.env)).any (·.1)=false:=by rfl) :
  PE X (.Call (.Attribute o name apos) (e::es) [] cpos) (tBM X.K T r to t):=by
 intro pins s σ H Q I h
 refine wpAny_Call_method_late hbase hfew hline rfl (thn (ho pins s σ H _ I h) fun v s1 hq26=>?_)
 obtain⟨x,H1,I1,r1,ty,q1⟩:=hq26
 obtain⟨h1,h2⟩:=tyV_is I1 r1 ty
 refine⟨T,id,pa,slot,hty,h1,h2,?_⟩
 have hA:=ha cpos pins s1 σ H1 _ I1 q1
 rw[hs] at hA ⊢
 refine Calls.callWith_builtin (by show(false || (backTo cpos (starEach es X.env)).any (·.1))=false;rw[hplain] <;>rfl) (Calls.evalArgs_plain ?_)
 exact thn hA fun us s2 ⟨vs,H2,I2,r2,q2⟩=>hm pins s2 σ H2 x vs v us Q I2 r1 r2 q2
/- xs.append(e), list.index on a module's tuple .. are MtR facts of 06m -/
end
end L2
namespace L2
open PySem PySem.Spec PyProof.Rows
def MtM (X:Cx)(id:String)(r:V→List V→Hp→VK→Prop):Prop :=
 ∀ (pins:List (Addr×Obj)) (s:Shared) (σ:St) (H:Hp) (x:V) (xs:List V) (v:Value) (us:List Value) (Q:VK),Inv X pins σ H s→RelV x v→Vals xs us→r x xs H Q →
  wpAny (model X.prog X.w) X.A (call (.builtin id) (v::us)) (EP X pins σ Q) X.xe s
theorem Vals.one:∀{x:V}{us:List Value},Vals [x] us→∃u,us=[u]∧RelV x u:=by
 intro x us h
 cases h with
 | cons r t=>cases t;exact⟨_,rfl,r⟩
theorem Vals.two:∀{x y:V}{us:List Value},Vals [x,y] us→∃u v,us=[u,v]∧RelV x u∧RelV y v:=by
 intro x y us h
 cases h with
 | cons r t=>obtain⟨v,rfl,q⟩:=Vals.one t;exact⟨_,_,rfl,r,q⟩
theorem Vals.dropLast {xs:List V}{us:List Value}(h:Vals xs us):Vals xs.dropLast us.dropLast:=by
 induction h with
 | nil=>exact .nil
 | cons r t ih =>
  cases t with
  | nil=>exact .nil
  | cons q t'=>exact .cons r ih
theorem Vals.eraseIdx:∀{xs:List V}{us:List Value} (i:Nat),Vals xs us→Vals (xs.eraseIdx i) (us.eraseIdx i)
 | _,_,_,.nil=>.nil
 | _,_,0,.cons _ t=>t
 | _,_,i+1,.cons r t=>.cons r (Vals.eraseIdx i t)
theorem len_erase {α:Type}:∀(l:List α) (i:Nat),(l.eraseIdx i).length≤l.length
 | [],_=>Nat.le_refl _
 | _::_,0=>Nat.le_succ _
 | _::r,i+1=>Nat.succ_le_succ (len_erase r i)
section
variable {X:Cx}{pins:List (Addr×Obj)}{σ:St}{H:Hp}{s:Shared}{l b:Addr}{xs ys zs:List V}
theorem Inv.lset {its its':List Value}{n:Nat}{f:Array Value→Array Value}{t':Nat}(I:Inv X pins σ H s)(hH:H l=some (.lst xs))
  (e:s.heap.get? l=some {cls:=.type "list", data:=.seq its.toArray n}) (hf:f its.toArray=its'.toArray) (hv:Vals ys its') (hz:ys.length≤sizeLine) :
  Inv X pins σ (upd H l (.lst ys)) {s with heap:=s.heap.update l (Obj.mapSeq f),toks:=t'}:=by
 have q:=PySem.IsL.update e f
 rw[hf] at q
 refine I.write (x:=l) (e:=l) (by rw[hH];exact trivial) (.inl rfl) (fun b' u hb hu=>(Heap.get?_update_other s.heap (Obj.mapSeq f) (Ne.symm hb)).trans hu) ⟨_,q⟩ ?_
 exact⟨hz,its',_,hv,q⟩
theorem Inv.lnew {its:List Value}{t':Nat}(I:Inv X pins σ H s)(hv:Vals ys its)(hz:ys.length≤sizeLine) :
  Inv X pins σ (upd H s.heap.objs.size (.lst ys)) {s with heap:=s.heap.push {cls:=.type "list", data:=.seq its.toArray},toks:=t'} :=
 I.laid (fun _ _ q=>Heap.get?_push_of_some _ q) (Nat.le_refl _) ⟨hz,its,0,hv,Heap.get?_push_size _ rfl⟩
theorem Inv.fresh (I:Inv X pins σ H s):H s.heap.objs.size=none:=I.hok.fresh (Nat.le_refl _)
theorem Inv.lstM (I:Inv X pins σ H s)(hH:H l=some (.lst xs)):xs.length≤sizeLine∧∃(its:List Value) (n:Nat),Vals xs its∧xs.length=its.length∧s.heap.get? l=some {cls:=.type "list", data:=.seq its.toArray n}:=by
 obtain⟨z,its,n,r,e⟩:=I.hok l _ hH
 exact⟨z,its,n,r,r.length,e⟩
theorem notLongL {n:Nat}(h:n≤sizeLine):Builtin.List.listTooLong n=false:=by
 unfold Builtin.List.listTooLong
 exact decide_eq_false (by omega)
end
section
variable {X:Cx}
def rAppend:V→List V→Hp→VK→Prop:=fun x vs H Q=>∃l xs y,x=.ref l∧vs=[y]∧H l=some (.lst xs)∧xs.length<sizeLine∧Q .non (upd H l (.lst (xs++[y])))
theorem mt_append:MtM X "list.append" rAppend:=by
 intro pins s σ H x vs v us Q I rx rv h
 obtain⟨l,xs,y,rfl,rfl,hH,hz,q⟩:=h
 cases rx
 obtain⟨u,rfl,ru⟩:=rv.one
 obtain⟨z,its,n,r,hl,e⟩:=I.lstM hH
 refine call_meets F.slot_list_append ⟨_,e,rfl⟩ F.entry_list_append (F.args_list_append_2 _ _) (PySem.list_append l its.toArray n u (by rw[List.size_toArray];omega)) ⟨e,?_⟩
 refine⟨.non,_,I.lset (its':=its++[u]) hH e (by simp) (r.append (.cons ru .nil)) ?_,rfl,q⟩
 rw[List.length_append,List.length_singleton]
 omega
def rPopAt:V→List V→Hp→VK→Prop:=fun x vs H Q=>∃l xs i k y,x=.ref l∧vs=[.int i]∧H l=some (.lst xs)∧-(2 ^ 63)≤i∧i<2 ^ 63∧seqIndex? i xs.length=some k∧xs[k]? = some y∧Q y (upd H l (.lst (xs.eraseIdx k)))
theorem mt_popAt:MtM X "list.pop" rPopAt:=by
 intro pins s σ H x vs v us Q I rx rv h
 obtain⟨l,xs,i,k,y,rfl,rfl,hH,h1,h2,hk,hy,q⟩:=h
 cases rx
 obtain⟨u,rfl,ru⟩:=rv.one
 obtain⟨t,rfl⟩:=ru
 obtain⟨z,its,n,r,hl,e⟩:=I.lstM hH
 obtain⟨w,hw,rw'⟩:=r.get hy
 refine call_meets F.slot_list_pop ⟨_,e,rfl⟩ F.entry_list_pop (F.args_list_pop_2 _ _)
  (MeetsSeq.list_pop_at l its.toArray n i t k w (fitsIndex_both h1 h2) (by rw[List.size_toArray,← hl];exact hk) (by rw[← Array.getElem?_toList];exact hw) (by rw[List.size_toArray];omega)) ⟨e,?_⟩
 refine⟨y,_,I.lset (its':=its.eraseIdx k) hH e ?_ (r.eraseIdx k) ?_,rw',q⟩
 ·show its.toArray.eraseIdxIfInBounds k=(its.eraseIdx k).toArray
  rw[List.eraseIdxIfInBounds_toArray]
 ·have:=len_erase xs k
  omega
end
end L2
namespace L2
open PySem PySem.Spec PyProof.Rows
section
variable {κ:Type} [DecidableEq κ]
def valV (kvs:List (κ×V))(k:κ):Option V:=(kvs.find? fun kv=>decide (kv.1=k)).map (·.2)
def putK (kvs:List (κ×V))(k:κ)(v:V):List (κ×V) :=
 if (kvs.any fun kv=>decide (kv.1=k))=true then kvs.map (fun kv=>if kv.1=k then(kv.1,v) else kv) else kvs++[(k,v)]
def dropK (kvs:List (κ×V))(k:κ):List (κ×V):=kvs.filter fun kv=>decide (kv.1≠k)
theorem valV_pos {p:κ×V}{r:List (κ×V)}{k:κ}(e:p.1=k):valV (p::r) k=some p.2:=by simp[valV,List.find?_cons,e]
theorem valV_neg {p:κ×V}{r:List (κ×V)}{k:κ}(e:¬p.1=k):valV (p::r) k=valV r k:=by simp[valV,List.find?_cons,e]
theorem length_putK (kvs:List (κ×V))(k:κ)(v:V):(putK kvs k v).length≤kvs.length+1:=by
 unfold putK
 split
 ·rw[List.length_map];omega
 ·rw[List.length_append,List.length_cons,List.length_nil];omega
theorem RelO.getD {o:Option V}{u:Option Value}{d:V}{d':Value}(r:RelO o u)(rd:RelV d d'):RelV (o.getD d) (u.getD d'):=by
 cases o with
 | none=>cases u with
  | none=>exact rd
  | some _=>exact(show False from r).elim
 | some _=>cases u with
  | none=>exact(show False from r).elim
  | some _=>exact r
theorem KV.val {kvs:List (κ×V)}{vs:List (κ×Value)}(r:KV kvs vs)(k:κ):RelO (valV kvs k) (valueAt vs k):=by
 unfold KV at r
 induction r with
 | nil=>exact True.intro
 | @cons p q ps qs h t ih =>
  obtain⟨h1,h2⟩:=h
  by_cases e:p.1=k
  ·have e':q.1=k:=h1.symm.trans e
   have b:valueAt (q::qs) k=some q.2:=by simp[valueAt,List.find?_cons,e']
   rw[valV_pos e,b];exact h2
  ·have e':¬q.1=k:=fun z=>e (h1.trans z)
   have b:valueAt (q::qs) k=valueAt qs k:=by simp[valueAt,List.find?_cons,e']
   rw[valV_neg e,b];exact ih
theorem KV.any {kvs:List (κ×V)}{vs:List (κ×Value)}(r:KV kvs vs)(k:κ):(kvs.any fun kv=>decide (kv.1=k))=vs.any fun kv=>decide (kv.1=k):=by
 unfold KV at r
 induction r with
 | nil=>rfl
 | cons h t ih=>rw[List.any_cons,List.any_cons,ih,h.1]
theorem KV.repl {kvs:List (κ×V)}{vs:List (κ×Value)}(r:KV kvs vs)(k:κ){y:V}{u:Value}(ry:RelV y u) :
  KV (kvs.map fun kv=>if kv.1=k then(kv.1,y) else kv) (vs.map fun kv=>if kv.1=k then(kv.1,u) else kv):=by
 unfold KV at r ⊢
 induction r with
 | nil=>exact .nil
 | @cons p q ps qs h t ih =>
  rw[List.map_cons,List.map_cons]
  refine .cons ?_ ih
  obtain⟨h1,h2⟩:=h
  by_cases e:p.1=k
  ·rw[if_pos e,if_pos (h1.symm.trans e)];exact⟨h1,ry⟩
  ·rw[if_neg e,if_neg (fun z=>e (h1.trans z))];exact⟨h1,h2⟩
theorem KV.put {kvs:List (κ×V)}{vs:List (κ×Value)}(r:KV kvs vs)(k:κ){y:V}{u:Value}(ry:RelV y u):KV (putK kvs k y) (stored vs k u):=by
 unfold putK stored
 rw[r.any k]
 by_cases e:(vs.any fun kv=>decide (kv.1=k))=true
 ·rw[if_pos e,if_pos e];exact r.repl k ry
 ·rw[if_neg e,if_neg e];exact Paired.snoc r ⟨rfl,ry⟩
theorem KV.drop {kvs:List (κ×V)}{vs:List (κ×Value)}(r:KV kvs vs)(k:κ):KV (dropK kvs k) (without vs k):=by
 unfold KV at r ⊢
 unfold dropK without
 induction r with
 | nil=>exact .nil
 | @cons p q ps qs h t ih =>
  obtain⟨h1,h2⟩:=h
  rw[List.filter_cons,List.filter_cons]
  by_cases e:p.1=k
  ·have a:¬decide (p.1≠k)=true:=by simp[e]
   have b:¬decide (q.1≠k)=true:=by simp[h1.symm.trans e]
   rw[if_neg a,if_neg b];exact ih
  ·have e':¬q.1=k:=fun z=>e (h1.trans z)
   have a:decide (p.1≠k)=true:=by simp[e]
   have b:decide (q.1≠k)=true:=by simp[e']
   rw[if_pos a,if_pos b];exact .cons ⟨h1,h2⟩ ih
theorem KV.keys {kvs:List (κ×V)}{vs:List (κ×Value)}(r:KV kvs vs):kvs.map (·.1)=vs.map (·.1):=by
 unfold KV at r
 induction r with
 | nil=>rfl
 | cons h t ih=>rw[List.map_cons,List.map_cons,ih,h.1]
theorem KV.length {kvs:List (κ×V)}{vs:List (κ×Value)}(r:KV kvs vs):kvs.length=vs.length:=Paired.length r
end
theorem kV_is {P:Program}{w:World}{k:Key}{u:Value}(r:RelV (kV k) u):(mixKind P w).is k u=true:=by
 cases k with
 | inl i=>obtain⟨t,e⟩:=(show ∃t,u=Value.int i t from r);subst e;exact mixKind_int P w i t
 | inr x=>obtain⟨t,e⟩:=(show ∃t,u=Value.str x t from r);subst e;exact mixKind_str P w x t
theorem items_are {P:Program}{w:World}:∀{ks:List Key}{us:List Value},Vals (ks.map kV) us→ItemsAre (mixKind P w) ks us
 | [],_,r=>by rw[List.map_nil] at r;cases r;exact .nil
 | k::ks,_,r=>by
  rw[List.map_cons] at r
  cases r with
  | cons h t=>exact .cons (kV_is h) (items_are t)
abbrev KT (H:Hp):List (List Key×V)→List (List Key×Addr×Value)→Prop:=Paired fun p q=>p.1=q.1∧H q.2.1=some (.tup (p.1.map kV))∧RelV p.2 q.2.2
theorem KT.val {H:Hp}{kvs:List (List Key×V)}{xs:List (List Key×Addr×Value)}(r:KT H kvs xs)(k:List Key):RelO (valV kvs k) ((atKey xs k).map (·.2)):=by
 induction r with
 | nil=>exact True.intro
 | @cons p q ps qs h t ih =>
  obtain⟨h1,_,h2⟩:=h
  by_cases e:p.1=k
  ·have e':q.1=k:=h1.symm.trans e
   have b:atKey (q::qs) k=some q.2:=by simp[atKey,List.find?_cons,e']
   rw[valV_pos e,b];exact h2
  ·have e':¬q.1=k:=fun z=>e (h1.trans z)
   have b:atKey (q::qs) k=atKey qs k:=by simp[atKey,List.find?_cons,e']
   rw[valV_neg e,b];exact ih
section
variable {P:Program}{w:World}{H:Hp}{h:Heap}{a:Addr}
theorem rd_of {u:HO}(ok:HOk P w H h)(e:Rd H a u):ObjOk P w H h a u:=e.ok ok
theorem dk_rd {kvs:List (Key×V)}(ok:HOk P w H h)(e:Rd H a (.dK kvs)):kvs.length≤sizeLine∧(a == sysModules)=false∧∃vs,KV kvs vs∧h.DictOf (mixKind P w) a vs :=
 show ObjOk P w H h a (.dK kvs) from rd_of ok e
theorem key_of {ks:List Key}(ok:HOk P w H h)(e:H a=some (.tup (ks.map kV))):(tupleKind (mixKind P w)).is h ks a:=by
 obtain⟨_,its,r,o,h1,h2,⟨n,h3⟩,_⟩:=(show ObjOk P w H h a (.tup (ks.map kV)) from ok a _ e)
 exact⟨o,its.toArray,n,h1,h2,h3,by simpa using items_are r⟩
theorem dt_rd {kvs:List (List Key×V)}(ok:HOk P w H h)(e:Rd H a (.dT kvs)):kvs.length≤sizeLine∧(a == sysModules)=false ∧
  ∃xs,KT H kvs xs∧h.DictOfH (tupleKind (mixKind P w)) a xs:=by
 obtain⟨z,y,xs,r,o,es,ep,h1,h2,h3,h4,h5⟩:=(show ObjOk P w H h a (.dT kvs) from rd_of ok e)
 refine⟨z,y,xs,r,o,es,ep,h1,h2,h3,h4,fun x hx=>?_,h5⟩
 have all:∀{l:List (List Key×V)}{m:List (List Key×Addr×Value)},KT H l m→∀x∈m,(tupleKind (mixKind P w)).is h x.1 x.2.1:=by
  intro l m q
  induction q with
  | nil=>intro x hx;exact nomatch hx
  | @cons p q ps qs hq t ih =>
   intro x hx
   rcases List.mem_cons.mp hx with e|hx
   ·subst e
    exact key_of ok (by rw[← hq.1];exact hq.2.1)
   ·exact ih x hx
 exact all r x hx
end
def DGet (H:Hp)(a:Addr)(y:V)(r:Option V):Prop :=
 (∃kvs k,Rd H a (.dK kvs)∧y=kV k∧r=valV kvs k)∨∃kvs k b,Rd H a (.dT kvs)∧y=.ref b∧H b=some (.tup (k.map kV))∧r=valV kvs k
theorem DGet.k {H:Hp}{a:Addr}{kvs:List (Key×V)}{k:Key}(e:H a=some (.dK kvs)):DGet H a (kV k) (valV kvs k):=.inl ⟨kvs,k,.inl e,rfl,rfl⟩
section
variable {X:Cx}{pins:List (Addr×Obj)}{σ:St}{H:Hp}{s:Shared}{a:Addr}{y v:V}{u r:Value}{o:Option V}{A:Around}{E:Value→Shared→Prop}
theorem Inv.big (I:Inv X pins σ H s):sysModules<s.heap.objs.size:=by
 have h:mainGlobals<s.heap.objs.size:=(I.mod.glob.keeps I.bk).lt
 exact Nat.lt_trans (by decide) h
theorem d_getItem {Q:Value→Shared→Prop}(hu:A.units+1<cLine)(I:Inv X pins σ H s)(g:DGet H a y (some v))(ry:RelV y u)(h:∀w' s',Inv X pins σ H s'→RelV v w'→Q w' s') :
  wpAny (model X.prog X.w) A (getItem (.ref a) u) Q E s:=by
 rcases g with⟨kvs,k,e,ey,l⟩|⟨kvs,k,b,e,ey,eb,l⟩
 ·subst ey
  obtain⟨z,hd,vs,rel,dd⟩:=dk_rd I.hok e
  obtain⟨w',hw,rw'⟩:=RelO.some_of (v:=v) (o:=valueAt vs k) (by rw[l];exact rel.val k)
  exact wpAny_getItem_of (kV_is ry) dd.mapOf hw (h w' _ (I.tok _) rw')
 ·subst ey
  cases (show u=Value.ref b from ry)
  obtain⟨z,hd,xs,rel,dd⟩:=dt_rd I.hok e
  obtain⟨w',hw,rw'⟩:=RelO.some_of (v:=v) (o:=(atKey xs k).map (·.2)) (by rw[l];exact rel.val k)
  obtain⟨p,hp,hp2⟩:=Option.map_eq_some_iff.mp hw
  refine wpAny_getItem_heap (tupleKind_room_in1 hu) (key_of I.hok eb) dd hp ?_
  rw[hp2]
  exact h w' _ (I.tok _) rw'
theorem d_write {h':Heap}{t':Nat}{ob:HO}(I:Inv X pins σ H s)(mu:Mut (H a))(hs:Heap.SameBut a s.heap h')(he:∃q,h'.get? a=some q)(new:ObjOk X.prog X.w (upd H a ob) h' a ob) :
  Inv X pins σ (upd H a ob) {s with heap:=h',toks:=t'} :=
 I.write (x:=a) (e:=a) mu (.inl rfl) (fun b q hb z=>(hs.2 b hb).trans z) he new
end
def NoSl (i:Expr):Prop:=∀ov iv,subscripted i false ov iv=operate [ov,iv] (getItem ov iv)
theorem subD_of {prog:Program}{w:World}{A:Around}{E:Value→Shared→Prop}{s:Shared}{env:Env}{value slice:Expr}{pos:Pos}{T id:String}{Q:Value→Shared→Prop}
  (hl:typeLookup (.type T) "__getitem__" = pure (some (.builtin id))) (hs:NoSl slice)
  (h:wpAny (model prog w) A (eval value env) (fun o s₁=>wpAny (model prog w) A (eval slice env) (fun i s₂=>s₂.TypeIs o T∧wpAny (model prog w) A (getItem o i) Q E s₂) E s₁) E s) :
  wpAny (model prog w) A (eval (.Subscript value slice pos) env) Q E s:=by
 refine Subscript_ (wpAny_mono h (fun o s₁ h₁=>wpAny_mono h₁ (fun i s₂ h₂=>?_) fun _ _ x=>x) fun _ _ x=>x)
 obtain⟨hT,h₂⟩:=h₂
 unfold subscriptTail
 refine wpAny_bind ?_
 rw[getitemInPython_of_ne hT.not_modules]
 refine wpAny_bind (wpAny_specialOf hT hl ?_)
 have fin:wpAny (model prog w) A (subscripted slice false o i) (fun r s₃=>wpAny (model prog w) A (letTemporaryGo value o r >>= fun _=>pure r) Q E s₃) E s₂:=by
  rw[hs o i]
  exact wpAny_operating (wpAny_mono h₂ (fun r s₃ h₃=>wpAny_bind (wpAny_letTemporaryGo (wpAny_pure h₃))) fun _ _ x=>x)
 first
  | exact wpAny_pure (wpAny_bind fin)
  | exact wpAny_bind (wpAny_pure (wpAny_bind fin))
  | exact wpAny_bind fin
theorem dict_typeIs {X:Cx}{pins:List (Addr×Obj)}{σ:St}{H:Hp}{s:Shared}{a:Addr}{y:V}{o:Option V}(I:Inv X pins σ H s)(g:DGet H a y o):s.TypeIs (.ref a) "dict" := by
 rcases g with⟨kvs,k,e,_,_⟩|⟨kvs,k,b,e,_,_,_⟩
 ·obtain⟨_,_,vs,_,dd⟩:=dk_rd I.hok e
  exact dd.typeIs
 ·obtain⟨_,_,xs,_,dd⟩:=dt_rd I.hok e
  exact dd.typeIs
def tDGet (td ty:TE):TE:=fun σ H Q=>td σ H fun x H1=>ty σ H1 fun y H2=>∃a v,x=.ref a∧DGet H2 a y (some v)∧Q v H2
section
variable {X:Cx}{o i e value:Expr}{pos pos' tpos:Pos}{td ty tv:TE}
theorem pe_dget (hu:X.A.units+1<cLine)(ho:PE X o td)(hi:PE X i ty)(hs:NoSl i):PE X (.Subscript o i pos) (tDGet td ty):=by
 intro pins s σ H Q I h
 refine subD_of PySem.F.slot_dict_getitem.lookup hs (thn (ho pins s σ H _ I h) fun u s1 ⟨x,H1,I1,rx,q1⟩=>thn (hi pins s1 σ H1 _ I1 q1) fun iv s2 hq27=>?_)
 obtain⟨y,H2,I2,ry,a,v,ex,g,q2⟩:=hq27
 subst ex
 obtain rfl:u=Value.ref a:=rx
 exact⟨dict_typeIs I2 g,d_getItem hu I2 g ry fun w' s3 I3 rw'=>⟨v,H2,I3,rw',q2⟩⟩
end
end L2
namespace Att
open PySem PySem.W PySem.Calls PyProof.Rows
theorem ints_of_wellAll {P:Params}{h:Heap}:∀(ns:List Int) (vs:List Value),WellAll P h vs (ns.map WData.int)→IntsAre vs ns:=by
 intro ns
 induction ns with
 | nil =>
  intro vs w
  rw[List.map_nil] at w
  cases w
  exact .nil
 | cons n ns ih =>
  intro vs w
  rw[List.map_cons] at w
  cases w with
  | cons a b =>
   cases a
   exact .cons _ _ (ih _ b)
theorem script_of {l:OpenLaw}{n:Nat}(hn:l.most=some n){P:Params}{h:Heap}{args:List WData}{vals:List Value}
  (hpre:l.row.toRowW.claim.pre args=true) (hwl:WellAll P h vals args) :
  ∃a vs ns,vals=[Value.ref a]∧args=[WData.list (ns.map WData.int)]∧h.get? a=some {cls:=.type "list", data:=.seq vs.toArray}∧IntsAre vs ns∧ns.length≤n:=by
 have hsh:WShape.hasAll [] args [.list .int]=true:=(pre_splitW hpre).1
 have hc:l.pre.holds [] {args:=args}=true:=(pre_splitW hpre).2
 obtain⟨d,r,rfl,h1,h2⟩:=hasAllW_cons hsh
 obtain rfl:=hasAllW_nil h2
 obtain⟨xs,rfl,h3⟩:=hasW_list h1
 obtain⟨ns,rfl⟩:=items_int h3
 have hlen:ns.length≤n:=by
  unfold OpenLaw.pre at hc
  have h4:(WTm.not (.lt (.lit (.int (n:Int))) (.len (.arg 0)))).holds [] {args:=[.list (ns.map .int)]}=true:=by
   have h4:=(holds_andW hc).1
   rw[hn] at h4
   exact h4
  have h5:=condW_of h4 (w_not (w_lt w_lit (w_len_list (w_arg rfl))))
  rw[List.length_map] at h5
  refine Nat.le_of_not_lt fun q=>?_
  have q':(n:Int)<((ns.length:Nat):Int):=by omega
  first
   | (rw[decide_eq_true q'] at h5;exact absurd h5 (by decide))
   | (simp at h5;omega)
 cases hwl with
 | cons w1 w2 =>
  cases w2
  cases w1 with
  | list ho hall=>exact⟨_,_,ns,rfl,rfl,ho,ints_of_wellAll ns _ hall,hlen⟩
theorem post_true (l:OpenLaw)(args:List WData):l.row.toRowW.claim.post args (.bool true) args=true :=
 postW_of (r:=l.row.toRowW) (X:=(true == true))
  (show WShape.has [] (.bool true) .bool=true by first|rfl|decide|simp[WShape.has,WShape.arms,WShape.armsAll])
  (show(WTm.eq .res (.lit (.bool true))).value [] {args:=args,res:=some (.bool true),after:=args}=some (.bool (true == true)) from w_eq_bool (w_res rfl) w_lit) rfl
theorem attach_call {l:OpenLaw}{n:Nat}{q:Program}{loose:List Str}{XP:(Str→Option Value)→Heap→Prop}{YP:World→Heap→Prop}{d:DefRec}
  (hn:l.most=some n) (hdf:d.params.defaults=[])
  (call:∀(w:World) (s₀ s₁:Shared) (mg mb:Str→Option Value) (fa:Addr) (o:Obj) (pm cd doc:Value) (a:Addr) (vs:List Value) (ns:List Int),
   Ground q loose [] XP w s₀ mg mb s₁.heap→YP w s₁.heap →
   s₁.heap.get? fa=some o→o.data=.func (docDef d.name d.params d.body d.scope pm cd doc)→s₁.heap.CodeRec cd d.name→mg d.name=some (.ref fa) →
   s₁.heap.get? a=some {cls:=.type "list", data:=.seq vs.toArray}→IntsAre vs ns→ns.length≤n→s₁.gens = #[] →
   codeAny (model l.prog w) callerA (.call (.ref fa) ⟨[.ref a],[]⟩) (fun r s'=>r=.ok (.ret (.bool true))∧OldK s₁.heap s'.heap∧s'.os=s₁.os∧AllBare s'.gens) s₁) :
  WalkO q loose XP YP l.row.toRowW d [] (fun f vs=>PySem.call f vs):=by
 intro w s₀ s₁ mg mb G Y fa o pm cd doc dV kV ho hd hcd hD hmg hg args vals as hpre hlay hrd hwl hlo
 obtain rfl:dV=.none:=Dflts.none hD hdf
 obtain rfl:kV=.none:=Dflts.noKw hD
 obtain⟨a,vs,ns,rfl,rfl,hobj,hints,hlen⟩:=script_of hn hpre hwl
 refine enter_call (codeAny_mono (call w s₀ s₁ mg mb fa o pm cd doc a vs ns G Y ho (fd_plain hd) hcd hmg hobj hints hlen hg) fun r s' hq=>?_)
 obtain⟨rfl,h2,h3,h4⟩:=hq
 exact⟨.inl ⟨.bool true,.bool true,[],rfl,fun _=>rfl,.bool true,post_true l _,fun _=>⟨List.Pairwise.nil,fun _ hm=>(nomatch hm)⟩⟩,h2,h3,h4⟩
section
variable {prog:Program}{w:World}{A:Around}{E:Value→Shared→Prop}{s:Shared}{K:Frag}
end
end Att
namespace L2
open PySem PySem.Spec PyProof.Rows
theorem vals_ints:∀{vs:List Value}{ns:List Int},IntsAre vs ns→Vals (ns.map V.int) vs
 | _,_,.nil=>.nil
 | _,_,.cons n t h=>.cons ⟨t,rfl⟩ (vals_ints h)
def Only (H:Hp):Prop:=∀b,H b=none∨∃o xs,H b=some (.frz o (.lst xs))
end L2
namespace L2
open PySem PySem.Spec PyProof.Rows
end L2
namespace L2
open PySem PySem.Spec PyProof.Rows
def defArgs (s:Stmt):Arguments:=match s with
 | .FunctionDef _ a _ _ _ _ _ _ _ _=>a
 | _=>{posonlyargs:=[],args:=[],vararg:=none,kwonlyargs:=[],kw_defaults:=[],kwarg:=none,defaults:=[]}
def defBody (s:Stmt):List Stmt:=match s with
 | .FunctionDef _ _ b _ _ _ _ _ _ _=>b
 | _=>[]
def zm (s:Stmt):Scope:=match s with
 | .FunctionDef _ _ _ _ _ _ sc _ _ _=>sc
 | _=>{kind:=.function,names:=[],isGenerator:=false,isCoroutine:=false}
abbrev CX0:CXT:=fun _ _ _ _ _ _=>False
abbrev E0:XK:=fun _ _ _=>False
structure Fun (K:PySem.W.Frag)(x qual:Str)(st:Stmt)(f:Addr)(fd:FuncData):Prop where
 ex:∃(oc:Value) (od:Option Addr) (kV doc pm:Value) (an:Option Addr) (cdv ct:Value) (osl:Array (Option Value)),
  fd=PySem.W.fnOf x qual (defArgs st) (defBody st) (zm st) .none kV doc pm an cdv ct∧K.lookup f=some ⟨oc,od,.func fd,osl⟩∧PySem.W.codeIn K cdv qual=true
 kp:PySem.W.keepIn K (.ref f)=true
section
variable {P:Program}{w:World}{K:PySem.W.Frag}{mg:Str→Option Value}{base:Heap}
theorem Fun.ok {x qual:Str}{st:Stmt}{f:Addr}{fd:FuncData}{N ps:List Str}{k:Nat}{sp:Sp}(F:Fun K x qual st f fd)(S:FnScope N ps (zm st))(len:∀vs H Q E,sp vs H Q E→vs.length=ps.length)
  (hbody:∀(cdv:Value) (A:Around) (outer:List Env) (s:Shared) (H:Hp) (vs:List V) (Q:VK) (E:XK),Room k (A.deeper (envOfC qual (zm st) s.heap.objs.size f cdv))→sp vs H Q E →
   ∃t,PSs (cxOf CX0 P w K mg base N qual (zm st) f cdv A outer s H E).nox (defBody st) t∧t {nx:=fun _ H'=>Q .non H',rt:=Q} (start N vs) H):FnOk P w K mg base CX0 (k+1) f fd ps sp:=by
 obtain⟨oc,od,kV,doc,pm,an,cdv,ct,osl,rfl,lk,hcd⟩:=F.ex
 refine fn_of lk hcd S len fun A outer s H vs Q E hr hsp=>?_
 obtain⟨t,h,q⟩:=hbody cdv A outer s H vs Q E hr hsp
 exact⟨t,h.nox,q⟩
theorem Fun.binds {x qual:Str}{st:Stmt}{f:Addr}{fd:FuncData}{ps:List Str}(F:Fun K x qual st f fd)
  (h:∀(kV doc pm:Value) (an:Option Addr) (cdv ct:Value) (us:List Value),us.length=ps.length→bindArgs (PySem.W.fnOf x qual (defArgs st) (defBody st) (zm st) .none kV doc pm an cdv ct) ⟨us,[]⟩=pure (ps.zip us)):Binds K fd ps []:=by
 obtain⟨oc,od,kV,doc,pm,an,cdv,ct,osl,rfl,lk,hcd⟩:=F.ex
 exact .all (h kV doc pm an cdv ct)
theorem fun_mk {x qual:Str}{st:Stmt}{f:Addr}{oc:Value}{od an:Option Addr}{osl:Array (Option Value)}{kV doc pm cdv ct:Value}(l:K.lookup f=some ⟨oc,od,.func (PySem.W.fnOf x qual (defArgs st) (defBody st) (zm st) .none kV doc pm an cdv ct),osl⟩)
  (c:PySem.W.codeIn K cdv qual=true) (k:PySem.W.keepIn K (.ref f)=true):Fun K x qual st f (PySem.W.fnOf x qual (defArgs st) (defBody st) (zm st) .none kV doc pm an cdv ct):=⟨⟨oc,od,kV,doc,pm,an,cdv,ct,osl,rfl,l,c⟩,k⟩
end
theorem hu_of {A:Around}{k:Nat}(hr:Room k A):A.units+1<cLine:=Nat.lt_of_le_of_lt (Nat.add_le_add_left (by decide:1≤64) _) hr.units
section
variable {X:Cx}
theorem pv (i:Nat){x:Str}{pos:Pos}(hN:X.N[i]? = some x:=by rfl)(hv:Vis X.env.scope x:=by first|exact Or.inl rfl|exact Or.inr (Or.inl rfl)|exact Or.inr (Or.inr rfl))(hd:(x == ("__debug__" : Str))=false:=by decide)
  (hcd:(x == ("__classdict__" : Str))=false:=by decide):PE X (.Name x pos) (tVar i):=pe_var hN hv hd hcd
end
def Same (H H':Hp):Prop:=∀b o,H b=some o→H' b=some o
theorem Same.refl (H:Hp):Same H H:=fun _ _ h=>h
theorem Same.trans {H H1 H2:Hp}(a:Same H H1)(b:Same H1 H2):Same H H2:=fun c o h=>b c o (a c o h)
theorem Same.free {H H':Hp}(e:Same H H'){l:Addr}(h:H' l=Option.none):H l=Option.none:=by
 cases q:H l with
 | none=>rfl
 | some o =>
  rw[e l o q] at h
  cases h
theorem Same.seq {K:PySem.W.Frag}{H H':Hp}{a:Addr}{xs:List V}(e:Same H H')(h:SqL K H a xs):SqL K H' a xs:=by
 rcases h with(h|⟨o,h⟩)|h
 ·exact .inl (.inl (e _ _ h))
 ·exact .inl (.inr ⟨o,e _ _ h⟩)
 ·exact .inr h
end L2
namespace My
def low (u d:Int):Int×Int:=(u / (Int.gcd u d:Int),d / (Int.gcd u d:Int))
end My
namespace Zp
open PySem
section
variable {prog:Program}{w:World}{A:Around}{E:Value→Shared→Prop}{s:Shared}
theorem nextOf_tuple_item {it t:Addr}{i:Nat}{items}{x:Value}{Q:Value→Shared→Prop}(hit:s.heap.IsTupleIter it t i)
  (ht:s.heap.IsTuple t items) (hx:items[i]? = some x)
  (hQ:∀h',h'.IsTupleIter it t (i+1)→Heap.SameBut it s.heap h'→Q x {s with heap:=h'}) :
  wpAny (model prog w) A (Builtin.SmallTypes.nextOf (.ref it)) Q E s:=by
 obtain⟨o,ho,hc,hd⟩:=id hit
 obtain⟨ol,hol,_,nl,hdl⟩:=ht
 unfold Builtin.SmallTypes.nextOf
 refine wpAny_bind (wpAny_callSpecial?_slot (name:=Str.ofString "__next__") hit.typeIs F.slot_tuple_iterator_next
  (wpAny_call_entry F.slot_tuple_iterator_next hit.typeIs F.entry_tuple_iterator_next ?_ (F.args_tuple_iterator_next_1 _)))
 show wpAny _ _ (field (.ref it) 0 >>= _) _ _ s
 refine wpAny_bind (wpAny_field ho hd (x:=.ref t) rfl ?_)
 show wpAny _ _ (if (Value.ref t == Value.none)=true then _ else _) _ _ s
 rw[if_neg (show ¬((Value.ref t == Value.none)=true) from Bool.false_ne_true)]
 show wpAny _ _ (field (.ref it) 1 >>= _) _ _ s
 refine wpAny_bind (wpAny_field ho hd (x:=.int i 0) rfl ?_)
 show wpAny _ _ (seqItems? (.ref t) >>= _) _ _ s
 refine wpAny_bind (wpAny_seqItems hol hdl ?_)
 simp only[Int.toNat_natCast,hx]
 refine wpAny_bind (wpAny_setField ho hd (by simp) (wpAny_pure ⟨x,rfl,wpAny_pure (hQ _ ?_ (Heap.SameBut.update ..))⟩))
 exact ⟨_,Heap.get?_update_self _ ho (Obj.isFreed_of_fields (Obj.data_mapFields hd _)),(Obj.cls_mapFields ..).trans hc,by
  rw[Obj.data_mapFields hd];simp[rawInt]⟩
theorem nextOf_tuple_end {it t:Addr}{i:Nat}{items}{Q:Value→Shared→Prop}(hh:A.handled=none)
  (hit:s.heap.IsTupleIter it t i) (ht:s.heap.IsTuple t items) (hx:items[i]? = none)
  (hE:∀h' e,Heap.ExtBut it s.heap h'→(∃o,h'.get? e=some o∧o.cls=.type "StopIteration")→E (.ref e) {s with heap:=h'}) :
  wpAny (model prog w) A (Builtin.SmallTypes.nextOf (.ref it)) Q E s:=by
 obtain⟨o,ho,hc,hd⟩:=id hit
 obtain⟨ol,hol,_,nl,hdl⟩:=ht
 unfold Builtin.SmallTypes.nextOf
 refine wpAny_bind (wpAny_callSpecial?_slot (name:=Str.ofString "__next__") hit.typeIs F.slot_tuple_iterator_next
  (wpAny_call_entry F.slot_tuple_iterator_next hit.typeIs F.entry_tuple_iterator_next ?_ (F.args_tuple_iterator_next_1 _)))
 show wpAny _ _ (field (.ref it) 0 >>= _) _ _ s
 refine wpAny_bind (wpAny_field ho hd (x:=.ref t) rfl ?_)
 show wpAny _ _ (if (Value.ref t == Value.none)=true then _ else _) _ _ s
 rw[if_neg (show ¬((Value.ref t == Value.none)=true) from Bool.false_ne_true)]
 show wpAny _ _ (field (.ref it) 1 >>= _) _ _ s
 refine wpAny_bind (wpAny_field ho hd (x:=.int i 0) rfl ?_)
 show wpAny _ _ (seqItems? (.ref t) >>= _) _ _ s
 refine wpAny_bind (wpAny_seqItems hol hdl ?_)
 simp only[Int.toNat_natCast,hx]
 refine wpAny_bind (wpAny_rule (wpAny_bind (wpAny_setField ho hd (by simp) ?_)))
 show wpAny _ _ (newExc (.type "StopIteration") [] >>= _) _ _ _
 refine wpAny_bind ?_
 simp only[newExc,newTuple]
 refine wpAny_bind (wpAny_newObj_type ?_ (by size_fits))
 refine wpAny_bind (m:=firstArgMember _ _) (wpAny_of_eq (a:=Value.none) (by first|rfl|(simp only[firstArgMember];rfl)) ?_)
 refine wpAny_newObj_type ?_ (by size_fits)
 simp only[raiseNew]
 refine wpAny_bind (wpAny_handled ?_)
 first|rw[show A.in1.handled=none from hh] | rw[hh]
 refine wpAny_bind (wpAny_pure (wpAny_throw ?_))
 exact hE _ _ (((Heap.SameBut.update ..).extBut.push _).push _) ⟨_,Heap.get?_push_size _ rfl,rfl⟩
theorem nextOf_ascii_item {it:Addr}{x:Str}{t:Tok}{i c:Nat}{Q:Value→Shared→Prop}(hit:s.heap.IsStrIter it "str_ascii_iterator" x t i)(hx:x.cps[i]? = some c)
  (hQ:∀h',h'.IsStrIter it "str_ascii_iterator" x t (i+1)→Heap.SameBut it s.heap h'→Q (.str ⟨#[c]⟩ s.toks) {s with heap:=h',toks:=s.toks+1}) :
  wpAny (model prog w) A (Builtin.SmallTypes.nextOf (.ref it)) Q E s:=by
 obtain⟨o,ho,hc,hd⟩:=id hit
 unfold Builtin.SmallTypes.nextOf
 refine wpAny_bind (wpAny_callSpecial?_slot (name:=Str.ofString "__next__") hit.typeIs F.slot_str_ascii_iterator_next
  (wpAny_call_entry F.slot_str_ascii_iterator_next hit.typeIs F.entry_str_ascii_iterator_next ?_ (F.args_str_ascii_iterator_next_1 _)))
 show wpAny _ _ (field (.ref it) 0 >>= _) _ _ s
 refine wpAny_bind (wpAny_field ho hd (x:=.str x t) rfl ?_)
 show wpAny _ _ (field (.ref it) 1 >>= _) _ _ s
 refine wpAny_bind (wpAny_field ho hd (x:=.int i 0) rfl ?_)
 simp only[Int.toNat_natCast,hx]
 refine wpAny_bind (wpAny_setField ho hd (by simp) (wpAny_bind (wpAny_mkStr (wpAny_pure ⟨_,rfl,wpAny_pure (hQ _ ?_ (Heap.SameBut.update ..))⟩) (by show 1≤sizeLine;decide))))
 exact ⟨_,Heap.get?_update_self _ ho (Obj.isFreed_of_fields (Obj.data_mapFields hd _)),(Obj.cls_mapFields ..).trans hc,by
  rw[Obj.data_mapFields hd];simp[rawInt]⟩
theorem nextOf_ascii_end {it:Addr}{x:Str}{t:Tok}{i:Nat}{Q:Value→Shared→Prop}(hh:A.handled=none)
  (hit:s.heap.IsStrIter it "str_ascii_iterator" x t i) (hx:x.cps[i]? = none)
  (hE:∀h' e,Heap.ExtBut it s.heap h'→(∃o,h'.get? e=some o∧o.cls=.type "StopIteration")→E (.ref e) {s with heap:=h'}) :
  wpAny (model prog w) A (Builtin.SmallTypes.nextOf (.ref it)) Q E s:=by
 obtain⟨o,ho,hc,hd⟩:=id hit
 unfold Builtin.SmallTypes.nextOf
 refine wpAny_bind (wpAny_callSpecial?_slot (name:=Str.ofString "__next__") hit.typeIs F.slot_str_ascii_iterator_next
  (wpAny_call_entry F.slot_str_ascii_iterator_next hit.typeIs F.entry_str_ascii_iterator_next ?_ (F.args_str_ascii_iterator_next_1 _)))
 show wpAny _ _ (field (.ref it) 0 >>= _) _ _ s
 refine wpAny_bind (wpAny_field ho hd (x:=.str x t) rfl ?_)
 show wpAny _ _ (field (.ref it) 1 >>= _) _ _ s
 refine wpAny_bind (wpAny_field ho hd (x:=.int i 0) rfl ?_)
 simp only[Int.toNat_natCast,hx]
 refine wpAny_bind (wpAny_rule (wpAny_bind (wpAny_setField ho hd (by simp) (wpAny_bind (wpAny_letGo ?_)))))
 show wpAny _ _ (newExc (.type "StopIteration") [] >>= _) _ _ _
 refine wpAny_bind ?_
 simp only[newExc,newTuple]
 refine wpAny_bind (wpAny_newObj_type ?_ (by size_fits))
 refine wpAny_bind (m:=firstArgMember _ _) (wpAny_of_eq (a:=Value.none) (by first|rfl|(simp only[firstArgMember];rfl)) ?_)
 refine wpAny_newObj_type ?_ (by size_fits)
 simp only[raiseNew]
 refine wpAny_bind (wpAny_handled ?_)
 first|rw[show A.in1.handled=none from hh] | rw[hh]
 refine wpAny_bind (wpAny_pure (wpAny_throw ?_))
 exact hE _ _ (((Heap.SameBut.update ..).extBut.push _).push _) ⟨_,Heap.get?_push_size _ rfl,rfl⟩
end
abbrev IsZipF (h:Heap)(z TI TO:Addr)(f0 f1:Value):Prop :=
 h.get? z=some {cls:=.type "zip", dict:=none,data:=.fields #[f0,f1,.bool false,.ref TI,.ref TO],slots:=#[]}
structure Apart (z TI TO i1 i2:Addr):Prop where
 TIz:TI≠z
 TOz:TO≠z
 i1z:i1≠z
 i2z:i2≠z
 TITO:TI≠TO
 TIi1:TI≠i1
 TIi2:TI≠i2
 TOi1:TO≠i1
 TOi2:TO≠i2
 i12:i1≠i2
def Yields (prog:Program)(w:World)(A:Around)(it:Addr)(G:Heap→Prop)(P:Value→Prop)(S:Heap→Prop):Prop :=
 ∀ (s:Shared) (Q:Value→Shared→Prop) (E:Value→Shared→Prop),G s.heap→(∀x h' tk,P x→S h'→Heap.SameBut it s.heap h'→Q x {s with heap:=h',toks:=tk}) →
  wpAny (model prog w) A (Builtin.SmallTypes.nextOf (.ref it)) Q E s
def Ends (prog:Program)(w:World)(A:Around)(it:Addr)(G:Heap→Prop):Prop :=
 ∀ (s:Shared) (Q:Value→Shared→Prop) (E:Value→Shared→Prop),G s.heap→(∀h' e,Heap.ExtBut it s.heap h'→(∃o,h'.get? e=some o∧o.cls=.type "StopIteration")→E (.ref e) {s with heap:=h'}) →
  wpAny (model prog w) A (Builtin.SmallTypes.nextOf (.ref it)) Q E s
section
variable {prog:Program}{w:World}{A:Around}{E:Value→Shared→Prop}{s:Shared}
theorem next_item {z TI TO i1 i2:Addr}{a b f1:Value}{P1 P2:Value→Prop}{G1 G2 S1 S2:Heap→Prop}{Q:Value→Shared→Prop}(D:Apart z TI TO i1 i2)
  (hz:IsZipF s.heap z TI TO .none f1) (hTI:IsPair s.heap TI (.ref i1) (.ref i2)) (hTO:IsPair s.heap TO a b)
  (Y1:Yields prog w A i1 G1 P1 S1) (Y2:Yields prog w A i2 G2 P2 S2)
  (g1:∀h',(∀c o,c≠z→s.heap.get? c=some o→h'.get? c=some o)→G1 h') (g2:∀h',(∀c o,c≠z→c≠TO→c≠i1→s.heap.get? c=some o→h'.get? c=some o)→G2 h')
  (k1:∀h h',S1 h→(∀c o,c≠z→c≠TO→c≠i2→h.get? c=some o→h'.get? c=some o)→S1 h')
  (k2:∀h h',S2 h→(∀c o,c≠z→c≠TO→h.get? c=some o→h'.get? c=some o)→S2 h')
  (hQ:∀x y h' tk,P1 x→P2 y→IsZipF h' z TI TO (rawInt s.heap.objs.size) (.bool false)→IsPair h' TO x y→S1 h'→S2 h'→IsPair h' s.heap.objs.size x y→h'.objs.size=s.heap.objs.size+1 →
   (∀c o,c≠z→c≠TO→c≠i1→c≠i2→s.heap.get? c=some o→h'.get? c=some o)→Q (.ref s.heap.objs.size) {s with heap:=h',toks:=tk}) :
  wpAny (model prog w) A (Builtin.«zip.__next__» ⟨[.ref z],[]⟩) (fun fin s'=>∃v,fin=.done (.ret v)∧Q v s') E s:=by
 show wpAny _ _ (field (.ref z) 2 >>= _) _ _ _
 refine wpAny_bind (wpAny_field hz rfl (x:=.bool false) rfl ?_)
 show wpAny _ _ (field (.ref z) 3 >>= _) _ _ _
 refine wpAny_bind (wpAny_field hz rfl (x:=.ref TI) rfl ?_)
 refine wpAny_bind (wpAny_seqItems hTI rfl ?_)
 show wpAny _ _ (Builtin.SmallTypes.ownedTupleIsFree (.ref z) >>= _) _ _ _
 refine wpAny_bind ?_
 unfold Builtin.SmallTypes.ownedTupleIsFree
 refine wpAny_bind (wpAny_field hz rfl (x:=.none) rfl (wpAny_pure ?_))
 simp only[if_true]
 refine wpAny_bind (wpAny_rule ?_)
 refine wpAny_bind (wpAny_field hz rfl (x:=.ref TO) rfl ?_)
 refine wpAny_bind (wpAny_setField_rec hz (by simp) fun h₁ hz₁ hs₁=>?_)
 replace hz₁:IsZipF h₁ z TI TO .ellipsis f1:=hz₁
 refine wpAny_bind ?_
 simp only[List.zipIdx_cons,List.zipIdx_nil,List.forIn_cons,List.forIn_nil]
 refine wpAny_bind (wpAny_bind (wpAny_onRaise ?_))
 show wpAny _ _ (Builtin.SmallTypes.nextOf (.ref i1) >>= _) _ _ _
 refine wpAny_bind (Y1 _ _ _ (g1 _ fun c o hc e=>hs₁.extBut _ _ hc e) fun x h₂ tk₂ px st1 hs₂=>wpAny_pure ?_)
 have hTO₂:IsPair h₂ TO a b:=hs₂.extBut _ _ D.TOi1 (hs₁.extBut _ _ D.TOz hTO)
 refine wpAny_bind (wpAny_seqItems hTO₂ rfl ?_)
 refine wpAny_bind (wpAny_updateSeq_pair hTO₂ fun h₃ hTO₃ hs₃=>?_)
 replace hTO₃:IsPair h₃ TO x b:=hTO₃
 refine wpAny_bind (wpAny_letGo (wpAny_pure ?_))
 refine wpAny_bind (wpAny_bind (wpAny_onRaise ?_))
 show wpAny _ _ (Builtin.SmallTypes.nextOf (.ref i2) >>= _) _ _ _
 refine wpAny_bind (Y2 _ _ _ (g2 _ fun c o c1 c2 c3 e=>hs₃.extBut _ _ c2 (hs₂.extBut _ _ c3 (hs₁.extBut _ _ c1 e))) fun y h₄ tk₄ py st2 hs₄=>wpAny_pure ?_)
 have hTO₄:IsPair h₄ TO x b:=hs₄.extBut _ _ D.TOi2 hTO₃
 refine wpAny_bind (wpAny_seqItems hTO₄ rfl ?_)
 refine wpAny_bind (wpAny_updateSeq_pair hTO₄ fun h₅ hTO₅ hs₅=>?_)
 replace hTO₅:IsPair h₅ TO x y:=hTO₅
 refine wpAny_bind (wpAny_letGo (wpAny_pure (wpAny_pure ?_)))
 refine wpAny_bind (wpAny_seqItems hTO₅ rfl ?_)
 refine wpAny_bind (wpAny_newTuple ?_)
 have hsz:h₅.objs.size=s.heap.objs.size:=by rw[hs₅.1,hs₄.1,hs₃.1,hs₂.1,hs₁.1]
 have hz₅:IsZipF h₅ z TI TO .ellipsis f1:=hs₅.extBut _ _ D.TOz.symm (hs₄.extBut _ _ D.i2z.symm (hs₃.extBut _ _ D.TOz.symm (hs₂.extBut _ _ D.i1z.symm hz₁)))
 have hk₅:∀c o,c≠z→c≠TO→c≠i1→c≠i2→s.heap.get? c=some o→h₅.get? c=some o:=fun c o c1 c2 c3 c4 e =>
  hs₅.extBut _ _ c2 (hs₄.extBut _ _ c4 (hs₃.extBut _ _ c2 (hs₂.extBut _ _ c3 (hs₁.extBut _ _ c1 e))))
 have hzlt:z<h₅.objs.size:=Heap.lt_size hz₅
 show wpAny _ _ (Builtin.SmallTypes.ownedTupleHandOut (.ref z) (.ref h₅.objs.size) >>= _) _ _ _
 refine wpAny_bind ?_
 unfold Builtin.SmallTypes.ownedTupleHandOut
 have hz₆:IsZipF (h₅.push {cls:=.type "tuple", data:=.seq #[x,y]}) z TI TO .ellipsis f1:=Heap.get?_push_of_some _ hz₅
 refine wpAny_bind (wpAny_setField_rec hz₆ (by simp) fun h₇ hz₇ hs₇=>?_)
 replace hz₇:IsZipF h₇ z TI TO (rawInt h₅.objs.size) f1:=hz₇
 refine wpAny_setField_rec hz₇ (by simp) fun h₈ hz₈ hs₈=>?_
 replace hz₈:IsZipF h₈ z TI TO (rawInt h₅.objs.size) (.bool false):=hz₈
 have up:∀c o,c≠z→h₅.get? c=some o→h₈.get? c=some o:=fun c o c1 e=>hs₈.extBut _ _ c1 (hs₇.extBut _ _ c1 (Heap.get?_push_of_some _ e))
 have hT₈:IsPair h₈ h₅.objs.size x y:=hs₈.extBut _ _ (Nat.ne_of_gt hzlt) (hs₇.extBut _ _ (Nat.ne_of_gt hzlt) (Heap.get?_push_size _ rfl))
 have hz8:h₈.objs.size=h₅.objs.size+1:=by rw[hs₈.1,hs₇.1,Heap.size_push]
 have q1:S1 h₈:=k1 h₂ h₈ st1 fun c o c1 c2 c4 e=>up c o c1 (hs₅.extBut _ _ c2 (hs₄.extBut _ _ c4 (hs₃.extBut _ _ c2 e)))
 have q2:S2 h₈:=k2 h₄ h₈ st2 fun c o c1 c2 e=>up c o c1 (hs₅.extBut _ _ c2 e)
 rw[hsz] at hz₈ hT₈ hz8
 refine wpAny_pure ⟨_,rfl,?_⟩
 show Q (.ref h₅.objs.size) _
 rw[hsz]
 exact hQ x y h₈ _ px py hz₈ (up _ _ D.TOz hTO₅) q1 q2 hT₈ hz8 fun c o c1 c2 c3 c4 e=>up c o c1 (hk₅ c o c1 c2 c3 c4 e)
theorem next_end {z TI TO i1 i2:Addr}{a b f1:Value}{P1:Value→Prop}{G1 G2 S1:Heap→Prop}{Q:Fin→Shared→Prop}(D:Apart z TI TO i1 i2)
  (hz:IsZipF s.heap z TI TO .none f1) (hTI:IsPair s.heap TI (.ref i1) (.ref i2)) (hTO:IsPair s.heap TO a b)
  (hend:Ends prog w A i1 G1∨(Yields prog w A i1 G1 P1 S1∧Ends prog w A i2 G2))
  (g1:∀h',(∀c o,c≠z→s.heap.get? c=some o→h'.get? c=some o)→G1 h') (g2:∀h',(∀c o,c≠z→c≠TO→c≠i1→s.heap.get? c=some o→h'.get? c=some o)→G2 h')
  (hE:∀h' tk e,(∀c o,c≠z→c≠TO→c≠i1→c≠i2→s.heap.get? c=some o→h'.get? c=some o)→(∃o,h'.get? e=some o∧o.cls=.type "StopIteration")→E (.ref e) {s with heap:=h',toks:=tk}) :
  wpAny (model prog w) A (Builtin.«zip.__next__» ⟨[.ref z],[]⟩) Q E s:=by
 show wpAny _ _ (field (.ref z) 2 >>= _) _ _ _
 refine wpAny_bind (wpAny_field hz rfl (x:=.bool false) rfl ?_)
 show wpAny _ _ (field (.ref z) 3 >>= _) _ _ _
 refine wpAny_bind (wpAny_field hz rfl (x:=.ref TI) rfl ?_)
 refine wpAny_bind (wpAny_seqItems hTI rfl ?_)
 show wpAny _ _ (Builtin.SmallTypes.ownedTupleIsFree (.ref z) >>= _) _ _ _
 refine wpAny_bind ?_
 unfold Builtin.SmallTypes.ownedTupleIsFree
 refine wpAny_bind (wpAny_field hz rfl (x:=.none) rfl (wpAny_pure ?_))
 simp only[if_true]
 refine wpAny_bind (wpAny_rule ?_)
 refine wpAny_bind (wpAny_field hz rfl (x:=.ref TO) rfl ?_)
 refine wpAny_bind (wpAny_setField_rec hz (by simp) fun h₁ hz₁ hs₁=>?_)
 replace hz₁:IsZipF h₁ z TI TO .ellipsis f1:=hz₁
 refine wpAny_bind ?_
 simp only[List.zipIdx_cons,List.zipIdx_nil,List.forIn_cons,List.forIn_nil]
 refine wpAny_bind (wpAny_bind (wpAny_onRaise ?_))
 show wpAny _ _ (Builtin.SmallTypes.nextOf (.ref i1) >>= _) _ _ _
 rcases hend with E1|⟨Y1,E2⟩
 ·refine wpAny_bind (E1 _ _ _ (g1 _ fun c o hc e=>hs₁.extBut _ _ hc e) fun h₂ e hs₂ he=>?_)
  obtain⟨oe,hoe,hce⟩:=he
  have hz₂:IsZipF h₂ z TI TO .ellipsis f1:=hs₂ _ _ D.i1z.symm hz₁
  have hez:e≠z:=fun x=>by subst x;rw[hz₂] at hoe;cases hoe;simp at hce
  refine wpAny_setField_rec hz₂ (by simp) fun h₃ _ hs₃=>hE h₃ _ e (fun c o c1 _ c3 _ x=>hs₃.extBut _ _ c1 (hs₂ _ _ c3 (hs₁.extBut _ _ c1 x))) ⟨oe,hs₃.extBut _ _ hez hoe,hce⟩
 ·refine wpAny_bind (Y1 _ _ _ (g1 _ fun c o hc e=>hs₁.extBut _ _ hc e) fun x h₂ tk₂ px st1 hs₂=>wpAny_pure ?_)
  have hTO₂:IsPair h₂ TO a b:=hs₂.extBut _ _ D.TOi1 (hs₁.extBut _ _ D.TOz hTO)
  refine wpAny_bind (wpAny_seqItems hTO₂ rfl ?_)
  refine wpAny_bind (wpAny_updateSeq_pair hTO₂ fun h₃ hTO₃ hs₃=>?_)
  refine wpAny_bind (wpAny_letGo (wpAny_pure ?_))
  refine wpAny_bind (wpAny_bind (wpAny_onRaise ?_))
  show wpAny _ _ (Builtin.SmallTypes.nextOf (.ref i2) >>= _) _ _ _
  refine wpAny_bind (E2 _ _ _ (g2 _ fun c o c1 c2 c3 e=>hs₃.extBut _ _ c2 (hs₂.extBut _ _ c3 (hs₁.extBut _ _ c1 e))) fun h₄ e hs₄ he=>?_)
  obtain⟨oe,hoe,hce⟩:=he
  have hz₄:IsZipF h₄ z TI TO .ellipsis f1:=hs₄ _ _ D.i2z.symm (hs₃.extBut _ _ D.TOz.symm (hs₂.extBut _ _ D.i1z.symm hz₁))
  have hez:e≠z:=fun x=>by subst x;rw[hz₄] at hoe;cases hoe;simp at hce
  refine wpAny_setField_rec hz₄ (by simp) fun h₅ _ hs₅=>hE h₅ _ e (fun c o c1 c2 c3 c4 x=>hs₅.extBut _ _ c1 (hs₄ _ _ c4 (hs₃.extBut _ _ c2 (hs₂.extBut _ _ c3 (hs₁.extBut _ _ c1 x))))) ⟨oe,hs₅.extBut _ _ hez hoe,hce⟩
end
end Zp
namespace Zp
open PySem
section
variable {prog:Program}{w:World}{A:Around}{E:Value→Shared→Prop}{s:Shared}
theorem alive {a:Addr}{o:Obj}{Q:Option Obj→Shared→Prop}(ho:s.heap.get? a=some o)(h:Q (some o) s):wpAny (model prog w) A (loadIfAlive a) Q E s:=by
 have h':Q (s.heap.get? a) s:=by rw[ho];exact h
 exact fun _ _ _=>h'
theorem next_busy {z TI TO i1 i2 T:Addr}{oT:Obj}{P1 P2:Value→Prop}{fb:Bool}{G1 G2 S1 S2:Heap→Prop}{Q:Value→Shared→Prop}(D:Apart z TI TO i1 i2)
  (hz:IsZipF s.heap z TI TO (rawInt T) (.bool fb)) (hTI:IsPair s.heap TI (.ref i1) (.ref i2)) (hT:s.heap.get? T=some oT)
  (Y1:Yields prog w A i1 G1 P1 S1) (Y2:Yields prog w A i2 G2 P2 S2)
  (g1:∀h',(∀c o,c≠z→s.heap.get? c=some o→h'.get? c=some o)→G1 h') (g2:∀h',(∀c o,c≠z→c≠i1→s.heap.get? c=some o→h'.get? c=some o)→G2 h')
  (k1:∀h h',S1 h→(∀c o,c≠i2→h.get? c=some o→h'.get? c=some o)→S1 h')
  (k2:∀h h',S2 h→(∀c o,h.get? c=some o→h'.get? c=some o)→S2 h')
  (hQ:∀x y h' tk,P1 x→P2 y→IsZipF h' z TI TO (rawInt T) (.bool true)→S1 h'→S2 h'→IsPair h' s.heap.objs.size x y→h'.objs.size=s.heap.objs.size+1 →
   (∀c o,c≠z→c≠i1→c≠i2→s.heap.get? c=some o→h'.get? c=some o)→Q (.ref s.heap.objs.size) {s with heap:=h',toks:=tk}) :
  wpAny (model prog w) A (Builtin.«zip.__next__» ⟨[.ref z],[]⟩) (fun fin s'=>∃v,fin=.done (.ret v)∧Q v s') E s:=by
 show wpAny _ _ (field (.ref z) 2 >>= _) _ _ _
 refine wpAny_bind (wpAny_field hz rfl (x:=.bool false) rfl ?_)
 show wpAny _ _ (field (.ref z) 3 >>= _) _ _ _
 refine wpAny_bind (wpAny_field hz rfl (x:=.ref TI) rfl ?_)
 refine wpAny_bind (wpAny_seqItems hTI rfl ?_)
 show wpAny _ _ (Builtin.SmallTypes.ownedTupleIsFree (.ref z) >>= _) _ _ _
 refine wpAny_bind ?_
 unfold Builtin.SmallTypes.ownedTupleIsFree
 refine wpAny_bind (wpAny_field hz rfl (x:=rawInt T) rfl ?_)
 show wpAny _ _ (loadIfAlive ((T:Int).toNat) >>= _) _ _ _
 rw[Int.toNat_natCast]
 refine wpAny_bind (alive hT ?_)
 simp only[Option.isNone_some,Bool.false_eq_true,if_false]
 refine wpAny_bind (wpAny_field hz rfl (x:=.bool fb) rfl ?_)
 cases fb with
 | true =>
  rw[if_neg (show ¬((Value.bool true != Value.bool true)=true) from Bool.false_ne_true)]
  refine wpAny_pure ?_
  simp only[Bool.false_eq_true,if_false]
  have HZ:=hz
  have HS:Heap.SameBut z s.heap s.heap:=Heap.SameBut.refl _ _
  rw[← Array.forIn_toList]
  simp only[List.forIn_cons,List.forIn_nil]
  refine wpAny_bind (wpAny_bind (wpAny_bind (wpAny_holding ?_)))
  show wpAny _ _ (Builtin.SmallTypes.nextOf (.ref i1) >>= _) _ _ _
  refine wpAny_bind (Y1 _ _ _ (g1 _ fun c o hc e=>HS.extBut _ _ hc e) fun x h₂ tk₂ px st1 hs₂=>wpAny_pure (wpAny_pure ?_))
  refine wpAny_bind (wpAny_bind (wpAny_holding ?_))
  show wpAny _ _ (Builtin.SmallTypes.nextOf (.ref i2) >>= _) _ _ _
  refine wpAny_bind (Y2 _ _ _ (g2 _ fun c o c1 c3 e=>hs₂.extBut _ _ c3 (HS.extBut _ _ c1 e)) fun y h₄ tk₄ py st2 hs₄=>wpAny_pure (wpAny_pure (wpAny_pure ?_)))
  refine wpAny_bind (wpAny_newTuple ?_ (by show 2≤sizeLine;decide))
  have hsz:h₄.objs.size=s.heap.objs.size:=by rw[hs₄.1,hs₂.1,HS.1]
  have hz₄:IsZipF h₄ z TI TO (rawInt T) (.bool true):=hs₄.extBut _ _ D.i2z.symm (hs₂.extBut _ _ D.i1z.symm HZ)
  refine wpAny_pure ⟨_,rfl,?_⟩
  show Q (.ref h₄.objs.size) _
  rw[hsz]
  have hp:IsPair (h₄.push {cls:=.type "tuple", data:=.seq #[x,y]}) s.heap.objs.size x y:=by rw[← hsz];exact Heap.get?_push_size _ rfl
  exact hQ x y _ _ px py (Heap.get?_push_of_some _ hz₄) (k1 h₂ _ st1 fun c o hc e=>Heap.get?_push_of_some _ (hs₄.extBut _ _ hc e)) (k2 h₄ _ st2 fun c o e=>Heap.get?_push_of_some _ e) hp (by rw[Heap.size_push,hsz])
   fun c o c1 c3 c4 e=>Heap.get?_push_of_some _ (hs₄.extBut _ _ c4 (hs₂.extBut _ _ c3 (HS.extBut _ _ c1 e)))
 | false =>
  rw[if_pos (show(Value.bool false != Value.bool true)=true from rfl)]
  refine wpAny_bind (wpAny_setField_rec hz (by simp) fun h₁ hz₁ HS=>?_)
  replace HS:Heap.SameBut z s.heap h₁:=HS
  have HZ:IsZipF h₁ z TI TO (rawInt T) (.bool true):=hz₁
  refine wpAny_pure ?_
  simp only[Bool.false_eq_true,if_false]
  rw[← Array.forIn_toList]
  simp only[List.forIn_cons,List.forIn_nil]
  refine wpAny_bind (wpAny_bind (wpAny_bind (wpAny_holding ?_)))
  show wpAny _ _ (Builtin.SmallTypes.nextOf (.ref i1) >>= _) _ _ _
  refine wpAny_bind (Y1 _ _ _ (g1 _ fun c o hc e=>HS.extBut _ _ hc e) fun x h₂ tk₂ px st1 hs₂=>wpAny_pure (wpAny_pure ?_))
  refine wpAny_bind (wpAny_bind (wpAny_holding ?_))
  show wpAny _ _ (Builtin.SmallTypes.nextOf (.ref i2) >>= _) _ _ _
  refine wpAny_bind (Y2 _ _ _ (g2 _ fun c o c1 c3 e=>hs₂.extBut _ _ c3 (HS.extBut _ _ c1 e)) fun y h₄ tk₄ py st2 hs₄=>wpAny_pure (wpAny_pure (wpAny_pure ?_)))
  refine wpAny_bind (wpAny_newTuple ?_ (by show 2≤sizeLine;decide))
  have hsz:h₄.objs.size=s.heap.objs.size:=by rw[hs₄.1,hs₂.1,HS.1]
  have hz₄:IsZipF h₄ z TI TO (rawInt T) (.bool true):=hs₄.extBut _ _ D.i2z.symm (hs₂.extBut _ _ D.i1z.symm HZ)
  refine wpAny_pure ⟨_,rfl,?_⟩
  show Q (.ref h₄.objs.size) _
  rw[hsz]
  have hp:IsPair (h₄.push {cls:=.type "tuple", data:=.seq #[x,y]}) s.heap.objs.size x y:=by rw[← hsz];exact Heap.get?_push_size _ rfl
  exact hQ x y _ _ px py (Heap.get?_push_of_some _ hz₄) (k1 h₂ _ st1 fun c o hc e=>Heap.get?_push_of_some _ (hs₄.extBut _ _ hc e)) (k2 h₄ _ st2 fun c o e=>Heap.get?_push_of_some _ e) hp (by rw[Heap.size_push,hsz])
   fun c o c1 c3 c4 e=>Heap.get?_push_of_some _ (hs₄.extBut _ _ c4 (hs₂.extBut _ _ c3 (HS.extBut _ _ c1 e)))
theorem end_busy {z TI TO i1 i2 T:Addr}{oT:Obj}{P1:Value→Prop}{fb:Bool}{G1 G2 S1:Heap→Prop}{Q:Fin→Shared→Prop}(D:Apart z TI TO i1 i2)
  (hz:IsZipF s.heap z TI TO (rawInt T) (.bool fb)) (hTI:IsPair s.heap TI (.ref i1) (.ref i2)) (hT:s.heap.get? T=some oT)
  (hend:Ends prog w A i1 G1∨(Yields prog w A i1 G1 P1 S1∧Ends prog w A i2 G2))
  (g1:∀h',(∀c o,c≠z→s.heap.get? c=some o→h'.get? c=some o)→G1 h') (g2:∀h',(∀c o,c≠z→c≠i1→s.heap.get? c=some o→h'.get? c=some o)→G2 h')
  (hE:∀h' tk e,(∀c o,c≠z→c≠i1→c≠i2→s.heap.get? c=some o→h'.get? c=some o)→(∃o,h'.get? e=some o∧o.cls=.type "StopIteration")→E (.ref e) {s with heap:=h',toks:=tk}) :
  wpAny (model prog w) A (Builtin.«zip.__next__» ⟨[.ref z],[]⟩) Q E s:=by
 show wpAny _ _ (field (.ref z) 2 >>= _) _ _ _
 refine wpAny_bind (wpAny_field hz rfl (x:=.bool false) rfl ?_)
 show wpAny _ _ (field (.ref z) 3 >>= _) _ _ _
 refine wpAny_bind (wpAny_field hz rfl (x:=.ref TI) rfl ?_)
 refine wpAny_bind (wpAny_seqItems hTI rfl ?_)
 show wpAny _ _ (Builtin.SmallTypes.ownedTupleIsFree (.ref z) >>= _) _ _ _
 refine wpAny_bind ?_
 unfold Builtin.SmallTypes.ownedTupleIsFree
 refine wpAny_bind (wpAny_field hz rfl (x:=rawInt T) rfl ?_)
 show wpAny _ _ (loadIfAlive ((T:Int).toNat) >>= _) _ _ _
 rw[Int.toNat_natCast]
 refine wpAny_bind (alive hT ?_)
 simp only[Option.isNone_some,Bool.false_eq_true,if_false]
 refine wpAny_bind (wpAny_field hz rfl (x:=.bool fb) rfl ?_)
 cases fb with
 | true =>
  rw[if_neg (show ¬((Value.bool true != Value.bool true)=true) from Bool.false_ne_true)]
  refine wpAny_pure ?_
  simp only[Bool.false_eq_true,if_false]
  have HS:Heap.SameBut z s.heap s.heap:=Heap.SameBut.refl _ _
  rw[← Array.forIn_toList]
  simp only[List.forIn_cons,List.forIn_nil]
  refine wpAny_bind (wpAny_bind (wpAny_bind (wpAny_holding ?_)))
  show wpAny _ _ (Builtin.SmallTypes.nextOf (.ref i1) >>= _) _ _ _
  rcases hend with E1|⟨Y1,E2⟩
  ·refine wpAny_bind (E1 _ _ _ (g1 _ fun c o hc e=>HS.extBut _ _ hc e) fun h₂ e hs₂ he=>?_)
   exact hE h₂ _ e (fun c o c1 c3 _ x=>hs₂ _ _ c3 (HS.extBut _ _ c1 x)) he
  ·refine wpAny_bind (Y1 _ _ _ (g1 _ fun c o hc e=>HS.extBut _ _ hc e) fun x h₂ tk₂ px st1 hs₂=>wpAny_pure (wpAny_pure ?_))
   refine wpAny_bind (wpAny_bind (wpAny_holding ?_))
   show wpAny _ _ (Builtin.SmallTypes.nextOf (.ref i2) >>= _) _ _ _
   refine wpAny_bind (E2 _ _ _ (g2 _ fun c o c1 c3 e=>hs₂.extBut _ _ c3 (HS.extBut _ _ c1 e)) fun h₄ e hs₄ he=>?_)
   exact hE h₄ _ e (fun c o c1 c3 c4 x=>hs₄ _ _ c4 (hs₂.extBut _ _ c3 (HS.extBut _ _ c1 x))) he
 | false =>
  rw[if_pos (show(Value.bool false != Value.bool true)=true from rfl)]
  refine wpAny_bind (wpAny_setField_rec hz (by simp) fun h₁ hz₁ HS=>?_)
  replace HS:Heap.SameBut z s.heap h₁:=HS
  refine wpAny_pure ?_
  simp only[Bool.false_eq_true,if_false]
  rw[← Array.forIn_toList]
  simp only[List.forIn_cons,List.forIn_nil]
  refine wpAny_bind (wpAny_bind (wpAny_bind (wpAny_holding ?_)))
  show wpAny _ _ (Builtin.SmallTypes.nextOf (.ref i1) >>= _) _ _ _
  rcases hend with E1|⟨Y1,E2⟩
  ·refine wpAny_bind (E1 _ _ _ (g1 _ fun c o hc e=>HS.extBut _ _ hc e) fun h₂ e hs₂ he=>?_)
   exact hE h₂ _ e (fun c o c1 c3 _ x=>hs₂ _ _ c3 (HS.extBut _ _ c1 x)) he
  ·refine wpAny_bind (Y1 _ _ _ (g1 _ fun c o hc e=>HS.extBut _ _ hc e) fun x h₂ tk₂ px st1 hs₂=>wpAny_pure (wpAny_pure ?_))
   refine wpAny_bind (wpAny_bind (wpAny_holding ?_))
   show wpAny _ _ (Builtin.SmallTypes.nextOf (.ref i2) >>= _) _ _ _
   refine wpAny_bind (E2 _ _ _ (g2 _ fun c o c1 c3 e=>hs₂.extBut _ _ c3 (HS.extBut _ _ c1 e)) fun h₄ e hs₄ he=>?_)
   exact hE h₄ _ e (fun c o c1 c3 c4 x=>hs₄ _ _ c4 (hs₂.extBut _ _ c3 (HS.extBut _ _ c1 x))) he
end
end Zp
set_option maxHeartbeats 2000000
namespace Zp
open PySem
section
variable {prog:Program}{w:World}{A:Around}
theorem yields_tuple {it t:Addr}{i:Nat}{items:Array Value}{x:Value}(hne:t≠it)(hx:items[i]? = some x) :
  Yields prog w A it (fun h=>h.IsTupleIter it t i∧h.IsTuple t items) (fun v=>v=x) (fun h=>h.IsTupleIter it t (i+1)∧h.IsTuple t items) :=
 fun s Q E g hQ=>nextOf_tuple_item g.1 g.2 hx fun h' st sb=>hQ _ h' s.toks rfl ⟨st,g.2.extBut sb.extBut hne⟩ sb
theorem ends_tuple {it t:Addr}{i:Nat}{items:Array Value}(hh:A.handled=none)(hx:items[i]? = none) :
  Ends prog w A it (fun h=>h.IsTupleIter it t i∧h.IsTuple t items) :=
 fun s Q E g hE=>nextOf_tuple_end hh g.1 g.2 hx hE
theorem yields_ascii {it:Addr}{x:Str}{t:Tok}{i c:Nat}(hx:x.cps[i]? = some c) :
  Yields prog w A it (fun h=>h.IsStrIter it "str_ascii_iterator" x t i) (fun v=>∃u,v=.str ⟨#[c]⟩ u) (fun h=>h.IsStrIter it "str_ascii_iterator" x t (i+1)) :=
 fun s Q E g hQ=>nextOf_ascii_item g hx fun h' st sb=>hQ _ h' _ ⟨_,rfl⟩ st sb
theorem ends_ascii {it:Addr}{x:Str}{t:Tok}{i:Nat}(hh:A.handled=none)(hx:x.cps[i]? = none) :
  Ends prog w A it (fun h=>h.IsStrIter it "str_ascii_iterator" x t i) :=
 fun s Q E g hE=>nextOf_ascii_end hh g hx hE
end
section
variable {prog:Program}{w:World}{A:Around}{E:Value→Shared→Prop}{s:Shared}
abbrev zH2 (h:Heap)(o1 o2:Obj):Heap:=(h.push o1).push o2
abbrev zH3 (h:Heap)(o1 o2:Obj):Heap:=(zH2 h o1 o2).push {cls:=.type "tuple", data:=.seq #[.ref h.objs.size,.ref (h.push o1).objs.size]}
abbrev zH4 (h:Heap)(o1 o2:Obj):Heap:=(zH3 h o1 o2).push {cls:=.type "tuple", data:=.seq #[.none,.none]}
abbrev zH5 (h:Heap)(o1 o2:Obj):Heap:=(zH4 h o1 o2).push {cls:=.type "zip", data:=.fields #[.none,.bool false,.bool false,.ref (zH2 h o1 o2).objs.size,.ref (zH3 h o1 o2).objs.size]}
abbrev tIter (t:Addr):Obj:={cls:=.type "tuple_iterator", data:=.fields #[.ref t,.int 0 0]}
abbrev sIter (x:Str)(t:Tok):Obj:={cls:=.type "str_ascii_iterator", data:=.fields #[.str x t,.int 0 0]}
theorem meets_st_aux {prog:Program}{w:World}{A:Around}{a b:Value}{s:Shared}{h1 h2:Heap}{i1 i2:Addr}{E:Value→Shared→Prop}{Q:Fin→Shared→Prop}
  (p1:∀(Q:Value→Shared→Prop) (E:Value→Shared→Prop),Q (.ref i1) {s with heap:=h1}→wpAny (model prog w) A (pyIter a) Q E s)
  (p2:∀(Q:Value→Shared→Prop) (E:Value→Shared→Prop),Q (.ref i2) {s with heap:=h2}→wpAny (model prog w) A (pyIter b) Q E {s with heap:=h1})
  (hQ:Q (.done (.ret (.ref (h2.objs.size+2)))) {s with heap:=((h2.push {cls:=.type "tuple", data:=.seq #[.ref i1,.ref i2]}).push {cls:=.type "tuple", data:=.seq #[.none,.none]}).push {cls:=.type "zip", data:=.fields #[.none,.bool false,.bool false,.ref h2.objs.size,.ref (h2.objs.size+1)]} }) :
  wpAny (model prog w) A (Builtin.«zip.__new__» ⟨[.type "zip", a,b],[]⟩) Q E s:=by
 obtain⟨hp,g,d,tk,os⟩:=s
 have hsub:=sub_zip
 have z1:(h2.push {cls:=.type "tuple", data:=.seq #[.ref i1,.ref i2]}).objs.size=h2.objs.size+1:=Heap.size_push ..
 have z2:((h2.push {cls:=.type "tuple", data:=.seq #[.ref i1,.ref i2]}).push {cls:=.type "tuple", data:=.seq #[.none,.none]}).objs.size=h2.objs.size+2:=by rw[Heap.size_push,z1]
 rw[← z2,← z1] at hQ
 wp_walk using p1 _ _,p2 _ _
 exact hQ
def Made5 (h h':Heap)(o1 o2:Obj):Prop :=
 IsZipF h' (h.objs.size+4) (h.objs.size+2) (h.objs.size+3) .none (.bool false)∧IsPair h' (h.objs.size+2) (.ref h.objs.size) (.ref (h.objs.size+1)) ∧
  IsPair h' (h.objs.size+3) .none .none∧h'.get? h.objs.size=some o1∧h'.get? (h.objs.size+1)=some o2∧h'.objs.size=h.objs.size+5∧∀c o,h.get? c=some o→h'.get? c=some o
theorem made5 (h:Heap)(o1 o2:Obj)(f1:o1.isFreed=false)(f2:o2.isFreed=false):Made5 h (zH5 h o1 o2) o1 o2∧(zH4 h o1 o2).objs.size=h.objs.size+4:=by
 have z1:(h.push o1).objs.size=h.objs.size+1:=Heap.size_push ..
 have z2:(zH2 h o1 o2).objs.size=h.objs.size+2:=by rw[Heap.size_push,z1]
 have z3:(zH3 h o1 o2).objs.size=h.objs.size+3:=by rw[Heap.size_push,z2]
 have z4:(zH4 h o1 o2).objs.size=h.objs.size+4:=by rw[Heap.size_push,z3]
 have z5:(zH5 h o1 o2).objs.size=h.objs.size+5:=by rw[Heap.size_push,z4]
 have g5:(zH5 h o1 o2).get? (zH4 h o1 o2).objs.size=some _:=Heap.get?_push_size _ rfl
 have g4:(zH5 h o1 o2).get? (zH3 h o1 o2).objs.size=some _:=Heap.get?_push_of_some _ (Heap.get?_push_size _ rfl)
 have g3:(zH5 h o1 o2).get? (zH2 h o1 o2).objs.size=some _:=Heap.get?_push_of_some _ (Heap.get?_push_of_some _ (Heap.get?_push_size _ rfl))
 have g2:(zH5 h o1 o2).get? (h.push o1).objs.size=some o2:=Heap.get?_push_of_some _ (Heap.get?_push_of_some _ (Heap.get?_push_of_some _ (Heap.get?_push_size _ f2)))
 have g1:(zH5 h o1 o2).get? h.objs.size=some o1:=Heap.get?_push_of_some _ (Heap.get?_push_of_some _ (Heap.get?_push_of_some _ (Heap.get?_push_of_some _ (Heap.get?_push_size _ f1))))
 rw[z2,z3,z4] at g5
 rw[z1,z2] at g3
 rw[z3] at g4
 rw[z1] at g2
 exact⟨⟨g5,g3,g4,g1,g2,z5,fun c o x=>Heap.get?_push_of_some _ (Heap.get?_push_of_some _ (Heap.get?_push_of_some _ (Heap.get?_push_of_some _ (Heap.get?_push_of_some _ x))))⟩,z4⟩
end
end Zp
namespace Zp
open PySem
theorem zip_getattr_none:typeLookup (.type "zip") "__getattr__" = pure none:=by rw[typeLookup_type,builtinLookup_eq_fast];kernel_rfl
theorem zip_keys_none:typeLookup (.type "zip") "keys" = pure none:=by rw[typeLookup_type,builtinLookup_eq_fast];kernel_rfl
theorem entry_zip_getattribute:entryFor table "zip.__getattribute__" = some Builtin.«object.__getattribute__» :=
 entryFor_alias (id' := "object.__getattribute__") (by kernel_rfl) (by decide +kernel) (by decide +kernel) (by kernel_rfl)
theorem meets_miss (a:Addr)(vs:Array Value)(name:Str)(u:Tok)(hmiss:typeLookup (.type "zip") name=pure none)(hname:(["__module__", "__name__", "__qualname__", "__doc__", "__annotations__"]:List Str).contains name=false)(hsz:name.length+100≤sizeLine:=by size_fits) :
  Meets (Builtin.«object.__getattribute__» ⟨[.ref a,.str name u],[]⟩) (fun A R s=>s.heap.get? a=some {cls:=.type "zip", dict:=none,data:=.fields vs,slots:=#[]}∧raisesAttr (.ref a) name A R s) :=
 Meets.of_wp fun prog w A R s hs=>by
  obtain⟨hp,g,d,tk,os⟩:=s
  obtain⟨hx,hs⟩:=hs
  have hT:(⟨hp,g,d,tk,os⟩:Shared).TypeIs (.ref a) "zip" := ⟨_,hx,rfl⟩
  unfold Builtin.«object.__getattribute__»
  repeat (any_goals (first|assumption|wp_step))
  simp only[hname,Bool.false_eq_true,if_false]
  repeat (any_goals (first|assumption|wp_step))
  exact wpAny_raiseAttrError hs.1 hs.2 (attrMsg_fits (by decide +kernel) hsz)
theorem no_keys {prog:Program}{w:World}{A:Around}{E:Value→Shared→Prop}{s:Shared}{a:Addr}{vs:Array Value}{Q:Option Value→Shared→Prop}
  (hx:s.heap.get? a=some {cls:=.type "zip", dict:=none,data:=.fields vs,slots:=#[]}) (hA:A.handled=none)
  (h:∀h' tk,(∀b o,s.heap.get? b=some o→h'.get? b=some o)→Q none {s with heap:=h',toks:=tk}) :
  wpAny (model prog w) A (getAttr? (.ref a) "keys") Q E s:=by
 obtain⟨hp,g,d,tk,os⟩:=s
 have hT:∀tk',(⟨hp,g,d,tk',os⟩:Shared).TypeIs (.ref a) "zip" := fun _=>⟨_,hx,rfl⟩
 have f1:=sub_AttributeError
 have f3:=F.slot_zip_getattribute.lookup
 have f4:=F.slot_zip_getattribute.bind (.ref a)
 have f5:=zip_getattr_none
 unfold getAttr? getAttrBy? getAttrBy
 repeat (any_goals (first|assumption|exact hT _|((with_reducible show wpAny _ _ (call (Value.builtin "zip.__getattribute__") _ _) _ _ _);refine call_meets F.slot_zip_getattribute (hT _) entry_zip_getattribute (F.args_zip_getattribute_2 _ _) (meets_miss a vs "keys" _ zip_keys_none (by decide +kernel) (by decide +kernel)) ⟨hx,hA,fun h' tk' e hx'=>?_⟩)|wp_step))
 obtain⟨t',u',he⟩:=hx'.there
 show wpAny _ _ (getattributeRaised _ _ _ _ _ _ _) _ _ _
 unfold getattributeRaised hookBehind onTheHeap hookOrError attributeErrorLeaves
 repeat (any_goals (first|assumption|wp_step))
 exact h _ _ hx'.keeps
structure ZSt (h:Heap)(z TI TO i1 i2 tp d:Addr)(x:Str)(t:Tok)(ys:Array Value)(i:Nat):Prop where
 zip:(∃f1,IsZipF h z TI TO .none (.bool f1))∨∃(T:Addr) (oT:Obj) (fb:Bool),IsZipF h z TI TO (rawInt T) (.bool fb)∧h.get? T=some oT∧T≠z∧T≠TO∧T≠i1∧T≠i2∧T≠d
 ti:IsPair h TI (.ref i1) (.ref i2)
 to:∃a b,IsPair h TO a b
 s1:h.IsStrIter i1 "str_ascii_iterator" x t i
 s2:h.IsTupleIter i2 tp i∧h.IsTuple tp ys
structure ZAp (z TI TO i1 i2 tp d:Addr):Prop where
 D:Apart z TI TO i1 i2
 tz:tp≠z
 tO:tp≠TO
 t1:tp≠i1
 t2:tp≠i2
 dz:d≠z
 dI:d≠TI
 dO:d≠TO
 d1:d≠i1
 d2:d≠i2
 dt:d≠tp
theorem ZSt.dict {h h':Heap}{z TI TO i1 i2 tp d:Addr}{x:Str}{t:Tok}{ys:Array Value}{i:Nat}(Z:ZSt h z TI TO i1 i2 tp d x t ys i)(Y:ZAp z TI TO i1 i2 tp d)
  (k:∀c o,c≠d→h.get? c=some o→h'.get? c=some o):ZSt h' z TI TO i1 i2 tp d x t ys i:=by
 obtain⟨zp,ti,⟨a,b,to⟩,⟨o1,e1,r1⟩,⟨o2,e2,r2⟩,o3,e3,r3⟩:=Z
 refine⟨?_,k _ _ (Ne.symm Y.dI) ti,⟨a,b,k _ _ (Ne.symm Y.dO) to⟩,⟨o1,k _ _ (Ne.symm Y.d1) e1,r1⟩,⟨o2,k _ _ (Ne.symm Y.d2) e2,r2⟩,o3,k _ _ (Ne.symm Y.dt) e3,r3⟩
 rcases zp with⟨f1,hz⟩|⟨T,oT,fb,hz,hT,n1,n2,n3,n4,n5⟩
 ·exact .inl ⟨f1,k _ _ (Ne.symm Y.dz) hz⟩
 ·exact .inr ⟨T,oT,fb,k _ _ (Ne.symm Y.dz) hz,k _ _ n5 hT,n1,n2,n3,n4,n5⟩
section
variable {prog:Program}{w:World}{A:Around}{E:Value→Shared→Prop}{s:Shared}
theorem ZSt.next {z TI TO i1 i2 tp d:Addr}{x:Str}{t:Tok}{ys:Array Value}{i c:Nat}{y:Value}{Q:Option Value→Shared→Prop}(Z:ZSt s.heap z TI TO i1 i2 tp d x t ys i)(Y:ZAp z TI TO i1 i2 tp d)
  (hd:d<s.heap.objs.size) (hc:x.cps[i]? = some c) (hy:ys[i]? = some y)
  (hQ:∀(T:Addr) u h' tk,ZSt h' z TI TO i1 i2 tp d x t ys (i+1)→IsPair h' T (.str ⟨#[c]⟩ u) y→(∀c o,c≠z→c≠TO→c≠i1→c≠i2→s.heap.get? c=some o→h'.get? c=some o)→h'.objs.size=s.heap.objs.size+1→Q (some (.ref T)) {s with heap:=h',toks:=tk}) :
  wpAny (model prog w) A (pyNext (.ref z)) Q E s:=by
 obtain⟨zp,ti,⟨a,b,to⟩,s1,s2⟩:=Z
 have D:=Y.D
 obtain⟨o1,e1,r1⟩:=id s1
 obtain⟨⟨o2,e2,r2⟩,o3,e3,r3⟩:=id s2
 have lt:∀{c:Addr}{o:Obj},s.heap.get? c=some o→s.heap.objs.size≠c:=fun e=>Nat.ne_of_gt (Heap.lt_size e)
 have Y1:=yields_ascii (prog:=prog) (w:=w) (A:=A.in1) (it:=i1) (t:=t) hc
 have Y2:=yields_tuple (prog:=prog) (w:=w) (A:=A.in1) Y.t2 hy
 rcases zp with⟨f1,hz⟩|⟨T,oT,fb,hz,hT,n1,n2,n3,n4,n5⟩
 ·have hTy:s.TypeIs (.ref z) "zip" := ⟨_,hz,rfl⟩
  unfold pyNext
  refine wpAny_bind (wpAny_attempt (wpAny_callSpecial?_slot (name:=Str.ofString "__next__") hTy F.slot_zip_next
   (wpAny_call_entry F.slot_zip_next hTy F.entry_zip_next (next_item D hz ti to Y1 Y2 ?_ ?_ ?_ ?_ ?_) (F.args_zip_next_1 _))))
  ·exact fun h' k=>⟨o1,k _ _ D.i1z e1,r1⟩
  ·exact fun h' k=>⟨⟨o2,k _ _ D.i2z D.TOi2.symm D.i12.symm e2,r2⟩,o3,k _ _ Y.tz Y.tO Y.t1 e3,r3⟩
  ·exact fun h h' ⟨p1,q1,w1⟩ k=>⟨p1,k _ _ D.i1z D.TOi1.symm D.i12 q1,w1⟩
  ·exact fun h h' ⟨⟨p1,q1,w1⟩,p2,q2,w2⟩ k=>⟨⟨p1,k _ _ D.i2z D.TOi2.symm q1,w1⟩,p2,k _ _ Y.tz Y.tO q2,w2⟩
  ·rintro v1 v2 h' tk ⟨u,rfl⟩ rfl z' to' q1 q2 hp hsz k
   refine wpAny_pure (hQ _ u h' tk ⟨.inr ⟨_,_,false,z',hp,lt hz,lt to,lt e1,lt e2,Nat.ne_of_gt hd⟩,k _ _ D.TIz D.TITO D.TIi1 D.TIi2 ti,⟨_,_,to'⟩,q1,q2⟩ hp k hsz)
 ·have hTy:s.TypeIs (.ref z) "zip" := ⟨_,hz,rfl⟩
  unfold pyNext
  refine wpAny_bind (wpAny_attempt (wpAny_callSpecial?_slot (name:=Str.ofString "__next__") hTy F.slot_zip_next
   (wpAny_call_entry F.slot_zip_next hTy F.entry_zip_next (next_busy D hz ti hT Y1 Y2 ?_ ?_ ?_ ?_ ?_) (F.args_zip_next_1 _))))
  ·exact fun h' k=>⟨o1,k _ _ D.i1z e1,r1⟩
  ·exact fun h' k=>⟨⟨o2,k _ _ D.i2z D.i12.symm e2,r2⟩,o3,k _ _ Y.tz Y.t1 e3,r3⟩
  ·exact fun h h' ⟨p1,q1,w1⟩ k=>⟨p1,k _ _ D.i12 q1,w1⟩
  ·exact fun h h' ⟨⟨p1,q1,w1⟩,p2,q2,w2⟩ k=>⟨⟨p1,k _ _ q1,w1⟩,p2,k _ _ q2,w2⟩
  ·rintro v1 v2 h' tk ⟨u,rfl⟩ rfl z' q1 q2 hp hsz k
   exact wpAny_pure (hQ _ u h' tk ⟨.inr ⟨T,oT,true,z',k _ _ n1 n3 n4 hT,n1,n2,n3,n4,n5⟩,k _ _ D.TIz D.TIi1 D.TIi2 ti,⟨_,_,k _ _ D.TOz D.TOi1 D.TOi2 to⟩,q1,q2⟩ hp (fun c o c1 _ c3 c4 e=>k c o c1 c3 c4 e) hsz)
end
end Zp
namespace Zp
open PySem
theorem entry_loop:entryFor table "dict.update.loop" = some Builtin.«dict.update.loop»:=entryFor_of_fast (by kernel_rfl)
theorem plain_loop:plainId "dict.update.loop" = true:=by decide +kernel
end Zp
namespace Zp
open PySem
end Zp
namespace Zp
open PySem
section
variable {prog:Program}{w:World}{A:Around}{E:Value→Shared→Prop}{s:Shared}
theorem nextOf_list_item {it t:Addr}{i:Nat}{items}{x:Value}{Q:Value→Shared→Prop}(hit:s.heap.IsListIter it t i)
  (ht:s.heap.IsList t items) (hx:items[i]? = some x)
  (hQ:∀h',h'.IsListIter it t (i+1)→Heap.SameBut it s.heap h'→Q x {s with heap:=h'}) :
  wpAny (model prog w) A (Builtin.SmallTypes.nextOf (.ref it)) Q E s:=by
 obtain⟨o,ho,hc,hd⟩:=id hit
 obtain⟨ol,hol,_,nl,hdl⟩:=ht
 unfold Builtin.SmallTypes.nextOf
 refine wpAny_bind (wpAny_callSpecial?_slot (name:=Str.ofString "__next__") hit.typeIs slot_listiter_next
  (wpAny_call_entry slot_listiter_next hit.typeIs entry_listiter_next ?_ (args_listiter_next _)))
 show wpAny _ _ (field (.ref it) 0 >>= _) _ _ s
 refine wpAny_bind (wpAny_field ho hd (x:=.ref t) rfl ?_)
 show wpAny _ _ (if (Value.ref t == Value.none)=true then _ else _) _ _ s
 rw[if_neg (show ¬((Value.ref t == Value.none)=true) from Bool.false_ne_true)]
 show wpAny _ _ (field (.ref it) 1 >>= _) _ _ s
 refine wpAny_bind (wpAny_field ho hd (x:=.int i 0) rfl ?_)
 show wpAny _ _ (seqItems? (.ref t) >>= _) _ _ s
 refine wpAny_bind (wpAny_seqItems hol hdl ?_)
 simp only[Int.toNat_natCast,hx]
 refine wpAny_bind (wpAny_setField ho hd (by simp) (wpAny_pure ⟨x,rfl,wpAny_pure (hQ _ ?_ (Heap.SameBut.update ..))⟩))
 exact ⟨_,Heap.get?_update_self _ ho (Obj.isFreed_of_fields (Obj.data_mapFields hd _)),(Obj.cls_mapFields ..).trans hc,by
  rw[Obj.data_mapFields hd];simp[rawInt]⟩
theorem nextOf_list_end {it t:Addr}{i:Nat}{items}{Q:Value→Shared→Prop}(hh:A.handled=none)
  (hit:s.heap.IsListIter it t i) (ht:s.heap.IsList t items) (hx:items[i]? = none)
  (hE:∀h' e,Heap.ExtBut it s.heap h'→(∃o,h'.get? e=some o∧o.cls=.type "StopIteration")→E (.ref e) {s with heap:=h'}) :
  wpAny (model prog w) A (Builtin.SmallTypes.nextOf (.ref it)) Q E s:=by
 obtain⟨o,ho,hc,hd⟩:=id hit
 obtain⟨ol,hol,_,nl,hdl⟩:=ht
 unfold Builtin.SmallTypes.nextOf
 refine wpAny_bind (wpAny_callSpecial?_slot (name:=Str.ofString "__next__") hit.typeIs slot_listiter_next
  (wpAny_call_entry slot_listiter_next hit.typeIs entry_listiter_next ?_ (args_listiter_next _)))
 show wpAny _ _ (field (.ref it) 0 >>= _) _ _ s
 refine wpAny_bind (wpAny_field ho hd (x:=.ref t) rfl ?_)
 show wpAny _ _ (if (Value.ref t == Value.none)=true then _ else _) _ _ s
 rw[if_neg (show ¬((Value.ref t == Value.none)=true) from Bool.false_ne_true)]
 show wpAny _ _ (field (.ref it) 1 >>= _) _ _ s
 refine wpAny_bind (wpAny_field ho hd (x:=.int i 0) rfl ?_)
 show wpAny _ _ (seqItems? (.ref t) >>= _) _ _ s
 refine wpAny_bind (wpAny_seqItems hol hdl ?_)
 simp only[Int.toNat_natCast,hx]
 refine wpAny_bind (wpAny_rule (wpAny_bind (wpAny_setField ho hd (by simp) ?_)))
 show wpAny _ _ (newExc (.type "StopIteration") [] >>= _) _ _ _
 refine wpAny_bind ?_
 simp only[newExc,newTuple]
 refine wpAny_bind (wpAny_newObj_type ?_ (by size_fits))
 refine wpAny_bind (m:=firstArgMember _ _) (wpAny_of_eq (a:=Value.none) (by first|rfl|(simp only[firstArgMember];rfl)) ?_)
 refine wpAny_newObj_type ?_ (by size_fits)
 simp only[raiseNew]
 refine wpAny_bind (wpAny_handled ?_)
 first|rw[show A.in1.handled=none from hh] | rw[hh]
 refine wpAny_bind (wpAny_pure (wpAny_throw ?_))
 exact hE _ _ (((Heap.SameBut.update ..).extBut.push _).push _) ⟨_,Heap.get?_push_size _ rfl,rfl⟩
end
structure Src (prog:Program)(w:World)(it tp:Addr)(n:Nat)(g:Nat→Value)(S:Nat→Heap→Prop):Prop where
 yl:∀(A:Around) (i:Nat),i<n→Yields prog w A it (S i) (fun v=>v=g i) (S (i+1))
 en:∀(A:Around) (i:Nat),A.handled=none→n≤i→Ends prog w A it (S i)
 mv:∀(i:Nat) (h h':Heap),S i h→(∀o,h.get? it=some o→h'.get? it=some o)→(∀o,h.get? tp=some o→h'.get? tp=some o)→S i h'
 li:∀(i:Nat) (h:Heap),S i h→(∃o,h.get? it=some o)∧∃o,h.get? tp=some o
theorem src_tup {prog:Program}{w:World}{it tp:Addr}{xs:Array Value}(hne:tp≠it):Src prog w it tp xs.size (fun i=>xs.getD i .none) (fun i h=>h.IsTupleIter it tp i∧h.IsTuple tp xs) :=
 ⟨fun A i hi=>yields_tuple hne (by rw[Array.getElem?_eq_getElem hi];simp[Array.getD,hi]),fun A i hh hi=>ends_tuple hh (Array.getElem?_eq_none hi),
  fun i h h' ⟨⟨o,e,r⟩,o2,e2,r2⟩ k1 k2=>⟨⟨o,k1 _ e,r⟩,o2,k2 _ e2,r2⟩,fun i h ⟨⟨o,e,r⟩,o2,e2,r2⟩=>⟨⟨o,e⟩,o2,e2⟩⟩
theorem src_lst {prog:Program}{w:World}{it tp:Addr}{xs:Array Value}(hne:tp≠it):Src prog w it tp xs.size (fun i=>xs.getD i .none) (fun i h=>h.IsListIter it tp i∧h.IsList tp xs) :=
 ⟨fun A i hi s Q E g hQ=>nextOf_list_item g.1 g.2 (Array.getElem?_eq_getElem hi) fun h' st sb=>hQ _ h' s.toks (by simp[Array.getD,hi]) ⟨st,g.2.extBut sb.extBut hne⟩ sb,
  fun A i hh hi s Q E g hE=>nextOf_list_end hh g.1 g.2 (Array.getElem?_eq_none hi) hE,
  fun i h h' ⟨⟨o,e,r⟩,o2,e2,r2⟩ k1 k2=>⟨⟨o,k1 _ e,r⟩,o2,k2 _ e2,r2⟩,fun i h ⟨⟨o,e,r⟩,o2,e2,r2⟩=>⟨⟨o,e⟩,o2,e2⟩⟩
structure GAp (z TI TO i1 i2 p1 p2 d:Addr):Prop where
 D:Apart z TI TO i1 i2
 az:p1≠z
 aO:p1≠TO
 a2:p1≠i2
 bz:p2≠z
 bO:p2≠TO
 b1:p2≠i1
 dz:d≠z
 dI:d≠TI
 dO:d≠TO
 d1:d≠i1
 d2:d≠i2
 da:d≠p1
 db:d≠p2
structure GSt (h:Heap)(z TI TO i1 i2 d:Addr)(S1 S2:Nat→Heap→Prop)(i:Nat):Prop where
 zip:(∃f1,IsZipF h z TI TO .none (.bool f1))∨∃(T:Addr) (oT:Obj) (fb:Bool),IsZipF h z TI TO (rawInt T) (.bool fb)∧h.get? T=some oT∧T≠z∧T≠TO∧T≠i1∧T≠i2∧T≠d
 ti:IsPair h TI (.ref i1) (.ref i2)
 to:∃a b,IsPair h TO a b
 s1:S1 i h
 s2:S2 i h
section
variable {prog:Program}{w:World}{A:Around}{E:Value→Shared→Prop}{s:Shared}{z TI TO i1 i2 p1 p2 d:Addr}{n1 n2:Nat}{g1 g2:Nat→Value}{S1 S2:Nat→Heap→Prop}
theorem GSt.dict {h h':Heap}{i:Nat}(Z:GSt h z TI TO i1 i2 d S1 S2 i)(Y:GAp z TI TO i1 i2 p1 p2 d)(C1:Src prog w i1 p1 n1 g1 S1)(C2:Src prog w i2 p2 n2 g2 S2)
  (k:∀c o,c≠d→h.get? c=some o→h'.get? c=some o):GSt h' z TI TO i1 i2 d S1 S2 i:=by
 obtain⟨zp,ti,⟨a,b,to⟩,s1,s2⟩:=Z
 refine⟨?_,k _ _ (Ne.symm Y.dI) ti,⟨a,b,k _ _ (Ne.symm Y.dO) to⟩,C1.mv _ _ _ s1 (fun o=>k _ o (Ne.symm Y.d1)) (fun o=>k _ o (Ne.symm Y.da)),C2.mv _ _ _ s2 (fun o=>k _ o (Ne.symm Y.d2)) (fun o=>k _ o (Ne.symm Y.db))⟩
 rcases zp with⟨f1,hz⟩|⟨T,oT,fb,hz,hT,n1,n2,n3,n4,n5⟩
 ·exact .inl ⟨f1,k _ _ (Ne.symm Y.dz) hz⟩
 ·exact .inr ⟨T,oT,fb,k _ _ (Ne.symm Y.dz) hz,k _ _ n5 hT,n1,n2,n3,n4,n5⟩
theorem GSt.next {i:Nat}{Q:Option Value→Shared→Prop}(Z:GSt s.heap z TI TO i1 i2 d S1 S2 i)(Y:GAp z TI TO i1 i2 p1 p2 d)(C1:Src prog w i1 p1 n1 g1 S1)(C2:Src prog w i2 p2 n2 g2 S2)
  (hd:d<s.heap.objs.size) (hc:i<n1) (hy:i<n2)
  (hQ:∀(T:Addr) h' tk,GSt h' z TI TO i1 i2 d S1 S2 (i+1)→IsPair h' T (g1 i) (g2 i)→(∀c o,c≠z→c≠TO→c≠i1→c≠i2→s.heap.get? c=some o→h'.get? c=some o)→h'.objs.size=s.heap.objs.size+1→Q (some (.ref T)) {s with heap:=h',toks:=tk}) :
  wpAny (model prog w) A (pyNext (.ref z)) Q E s:=by
 obtain⟨zp,ti,⟨a,b,to⟩,s1,s2⟩:=Z
 have D:=Y.D
 obtain⟨⟨o1,e1⟩,_⟩:=C1.li _ _ s1
 obtain⟨⟨o2,e2⟩,_⟩:=C2.li _ _ s2
 have lt:∀{c:Addr}{o:Obj},s.heap.get? c=some o→s.heap.objs.size≠c:=fun e=>Nat.ne_of_gt (Heap.lt_size e)
 have Y1:=C1.yl A.in1 i hc
 have Y2:=C2.yl A.in1 i hy
 rcases zp with⟨f1,hz⟩|⟨T,oT,fb,hz,hT,n1,n2,n3,n4,n5⟩
 ·have hTy:s.TypeIs (.ref z) "zip" := ⟨_,hz,rfl⟩
  unfold pyNext
  refine wpAny_bind (wpAny_attempt (wpAny_callSpecial?_slot (name:=Str.ofString "__next__") hTy F.slot_zip_next
   (wpAny_call_entry F.slot_zip_next hTy F.entry_zip_next (next_item D hz ti to Y1 Y2 ?_ ?_ ?_ ?_ ?_) (F.args_zip_next_1 _))))
  ·exact fun h' k=>C1.mv _ _ _ s1 (fun o=>k _ o D.i1z) (fun o=>k _ o Y.az)
  ·exact fun h' k=>C2.mv _ _ _ s2 (fun o=>k _ o D.i2z D.TOi2.symm D.i12.symm) (fun o=>k _ o Y.bz Y.bO Y.b1)
  ·exact fun h h' q k=>C1.mv _ _ _ q (fun o=>k _ o D.i1z D.TOi1.symm D.i12) (fun o=>k _ o Y.az Y.aO Y.a2)
  ·exact fun h h' q k=>C2.mv _ _ _ q (fun o=>k _ o D.i2z D.TOi2.symm) (fun o=>k _ o Y.bz Y.bO)
  ·rintro v1 v2 h' tk rfl rfl z' to' q1 q2 hp hsz k
   refine wpAny_pure (hQ _ h' tk ⟨.inr ⟨_,_,false,z',hp,lt hz,lt to,lt e1,lt e2,Nat.ne_of_gt hd⟩,k _ _ D.TIz D.TITO D.TIi1 D.TIi2 ti,⟨_,_,to'⟩,q1,q2⟩ hp k hsz)
 ·have hTy:s.TypeIs (.ref z) "zip" := ⟨_,hz,rfl⟩
  unfold pyNext
  refine wpAny_bind (wpAny_attempt (wpAny_callSpecial?_slot (name:=Str.ofString "__next__") hTy F.slot_zip_next
   (wpAny_call_entry F.slot_zip_next hTy F.entry_zip_next (next_busy D hz ti hT Y1 Y2 ?_ ?_ ?_ ?_ ?_) (F.args_zip_next_1 _))))
  ·exact fun h' k=>C1.mv _ _ _ s1 (fun o=>k _ o D.i1z) (fun o=>k _ o Y.az)
  ·exact fun h' k=>C2.mv _ _ _ s2 (fun o=>k _ o D.i2z D.i12.symm) (fun o=>k _ o Y.bz Y.b1)
  ·exact fun h h' q k=>C1.mv _ _ _ q (fun o=>k _ o D.i12) (fun o=>k _ o Y.a2)
  ·exact fun h h' q k=>C2.mv _ _ _ q (fun o=>k _ o) (fun o=>k _ o)
  ·rintro v1 v2 h' tk rfl rfl z' q1 q2 hp hsz k
   exact wpAny_pure (hQ _ h' tk ⟨.inr ⟨T,oT,true,z',k _ _ n1 n3 n4 hT,n1,n2,n3,n4,n5⟩,k _ _ D.TIz D.TIi1 D.TIi2 ti,⟨_,_,k _ _ D.TOz D.TOi1 D.TOi2 to⟩,q1,q2⟩ hp (fun c o c1 _ c3 c4 e=>k c o c1 c3 c4 e) hsz)
theorem GSt.done {i:Nat}{Q:Option Value→Shared→Prop}(hh:A.handled=none)(Z:GSt s.heap z TI TO i1 i2 d S1 S2 i)(Y:GAp z TI TO i1 i2 p1 p2 d)(C1:Src prog w i1 p1 n1 g1 S1)(C2:Src prog w i2 p2 n2 g2 S2)
  (hend:min n1 n2≤i)
  (hQ:∀h' tk,(∀c o,c≠z→c≠TO→c≠i1→c≠i2→s.heap.get? c=some o→h'.get? c=some o)→Q none {s with heap:=h',toks:=tk}) :
  wpAny (model prog w) A (pyNext (.ref z)) Q E s:=by
 obtain⟨zp,ti,⟨a,b,to⟩,s1,s2⟩:=Z
 have D:=Y.D
 have hend':Ends prog w A.in1 i1 (S1 i)∨(Yields prog w A.in1 i1 (S1 i) (fun _=>True) (fun _=>True)∧Ends prog w A.in1 i2 (S2 i)):=by
  rcases Nat.lt_or_ge i n1 with h|h
  ·exact .inr ⟨fun s Q E g hQ=>C1.yl A.in1 i h s Q E g fun v h' tk _ _ sb=>hQ v h' tk trivial trivial sb,C2.en A.in1 i hh (by omega)⟩
  ·exact .inl (C1.en A.in1 i hh h)
 rcases zp with⟨f1,hz⟩|⟨T,oT,fb,hz,hT,n1,n2,n3,n4,n5⟩
 ·have hTy:s.TypeIs (.ref z) "zip" := ⟨_,hz,rfl⟩
  unfold pyNext
  refine wpAny_bind (wpAny_attempt (wpAny_callSpecial?_slot (name:=Str.ofString "__next__") hTy F.slot_zip_next
   (wpAny_call_entry F.slot_zip_next hTy F.entry_zip_next (next_end D hz ti to hend' ?_ ?_ ?_) (F.args_zip_next_1 _))))
  ·exact fun h' k=>C1.mv _ _ _ s1 (fun o=>k _ o D.i1z) (fun o=>k _ o Y.az)
  ·exact fun h' k=>C2.mv _ _ _ s2 (fun o=>k _ o D.i2z D.TOi2.symm D.i12.symm) (fun o=>k _ o Y.bz Y.bO Y.b1)
  ·intro h' tk e k he
   obtain⟨o,ho,hc⟩:=he
   refine wpAny_bind (wpAny_isInstance (T := "StopIteration") (b:=true) ⟨o,ho,hc⟩ isSubtype_stop ?_)
   exact wpAny_pure (hQ _ _ k)
 ·have hTy:s.TypeIs (.ref z) "zip" := ⟨_,hz,rfl⟩
  unfold pyNext
  refine wpAny_bind (wpAny_attempt (wpAny_callSpecial?_slot (name:=Str.ofString "__next__") hTy F.slot_zip_next
   (wpAny_call_entry F.slot_zip_next hTy F.entry_zip_next (end_busy D hz ti hT hend' ?_ ?_ ?_) (F.args_zip_next_1 _))))
  ·exact fun h' k=>C1.mv _ _ _ s1 (fun o=>k _ o D.i1z) (fun o=>k _ o Y.az)
  ·exact fun h' k=>C2.mv _ _ _ s2 (fun o=>k _ o D.i2z D.i12.symm) (fun o=>k _ o Y.bz Y.b1)
  ·intro h' tk e k he
   obtain⟨o,ho,hc⟩:=he
   refine wpAny_bind (wpAny_isInstance (T := "StopIteration") (b:=true) ⟨o,ho,hc⟩ isSubtype_stop ?_)
   exact wpAny_pure (hQ _ _ fun c o c1 _ c3 c4 e=>k c o c1 c3 c4 e)
end
section
variable {prog:Program}{w:World}{K:Type} [DecidableEq K]{knd:KeyKind prog w K}{A:Around}{R:Result→Shared→Prop}{z TI TO i1 i2 p1 p2 d:Addr}{n1 n2:Nat}{g1 g2:Nat→Value}{S1 S2:Nat→Heap→Prop}
theorem upd_loopG (hh:A.handled=none)(Y:GAp z TI TO i1 i2 p1 p2 d)(C1:Src prog w i1 p1 n1 g1 S1)(C2:Src prog w i2 p2 n2 g2 S2)(f:Nat→K)(hk:∀i,i<min n1 n2→knd.is (f i) (g1 i)=true)(hsm:n1≤1000) :
  ∀ (n i:Nat) (s:Shared) (kvs:List (K×Value)) (q:Int) (tq:Tok),min n1 n2 - i=n→i≤min n1 n2→GSt s.heap z TI TO i1 i2 d S1 S2 i→s.heap.DictOf knd d kvs→kvs.length≤i →
   (∀h' tk,h'.DictOf knd d (((List.range (min n1 n2)).drop i).foldl (fun m j=>stored m (f j) (g2 j)) kvs)→(∀c o,c≠z→c≠TO→c≠i1→c≠i2→c≠d→s.heap.get? c=some o→h'.get? c=some o) →
    R (.ok (.ret .none)) {s with heap:=h',toks:=tk}) →
   codeAny (model prog w) A (.builtin "dict.update.loop" ⟨[.ref d,.ref z,.int q tq,.none],[]⟩) R s:=by
 intro n
 induction n with
 | zero =>
  intro i s kvs q tq hn hi Z hm hl hR
  refine codeAny_builtin entry_loop ?_
  rw[Around.under_plainId plain_loop _]
  show wpAny _ A.in1 (pyNext (.ref z) >>= _) _ _ s
  refine wpAny_bind (Z.done hh Y C1 C2 (by omega) fun h' tk k=>?_)
  refine wpAny_bind (m:=Builtin.Dict.addKeywords d []) (wpAny_pure (wpAny_pure ?_))
  have e:(List.range (min n1 n2)).drop i=[]:=List.drop_of_length_le (by rw[List.length_range];omega)
  rw[e] at hR
  refine hR h' tk ?_ fun c o c1 c2 c3 c4 _ e=>k c o c1 c2 c3 c4 e
  obtain⟨o,ho,r⟩:=Heap.dictOf_iff.mp hm
  exact Heap.dictOf_iff.mpr ⟨o,k _ _ Y.dz Y.dO Y.d1 Y.d2 ho,r⟩
 | succ n ih =>
  intro i s kvs q tq hn hi Z hm hl hR
  refine codeAny_builtin entry_loop ?_
  rw[Around.under_plainId plain_loop _]
  show wpAny _ A.in1 (pyNext (.ref z) >>= _) _ _ s
  have hd:d<s.heap.objs.size:=by obtain⟨o,ho,_⟩:=Heap.dictOf_iff.mp hm;exact Heap.lt_size ho
  refine wpAny_bind (Z.next Y C1 C2 hd (by omega) (by omega) fun T h' tk Z' hp k hsz=>?_)
  dsimp only
  have hT:(⟨h',s.gens,s.drawn,tk,s.os⟩:Shared).TypeIs (.ref T) "tuple" := ⟨_,hp,rfl⟩
  refine wpAny_bind (wpAny_holding (wpAny_bind (wpAny_tryCatch ?_)))
  unfold Builtin.Dict.pairItems
  refine wpAny_bind (wpAny_typeOf hT ?_)
  rw[if_pos (by decide)]
  refine wpAny_bind (wpAny_seqItems hp rfl (wpAny_pure ?_))
  show wpAny _ A.in1 (holding [g1 i,g2 i] (dictSet d (g1 i) (g2 i))) _ _ _
  have hm':h'.DictOf knd d kvs:=by
   obtain⟨o,ho,r⟩:=Heap.dictOf_iff.mp hm
   exact Heap.dictOf_iff.mpr ⟨o,k _ _ Y.dz Y.dO Y.d1 Y.d2 ho,r⟩
  refine wpAny_holding (wpAny_dictSet_pairs (hk i (by omega)) hm' (fun h'' hm'' sb=>?_) (by rw[sizeLine_eq];omega))
  refine wpAny_pure ⟨plainId_quiet plain_loop _,?_⟩
  have hl2:(stored kvs (f i) (g2 i)).length≤i+1:=by
   have:=stored_length_le kvs (f i) (g2 i)
   omega
  refine ih (i+1) _ _ _ _ (by omega) (by omega) (Z'.dict Y C1 C2 fun c o hc e=>sb.extBut _ _ hc e) hm'' hl2 fun h3 tk3 hm3 k3=>?_
  have e:(List.range (min n1 n2)).drop i=i::(List.range (min n1 n2)).drop (i+1):=by
   rw[List.drop_eq_getElem_cons (by rw[List.length_range];omega)]
   simp
  rw[e,List.foldl_cons] at hR
  exact hR h3 tk3 hm3 fun c o c1 c2 c3 c4 c5 e=>k3 c o c1 c2 c3 c4 c5 (sb.extBut _ _ c5 (k c o c1 c2 c3 c4 e))
end
section
variable {prog:Program}{w:World}{K:Type} [DecidableEq K]{knd:KeyKind prog w K}{A:Around}{E:Value→Shared→Prop}{s:Shared}{z TI TO i1 i2 p1 p2:Addr}{n1 n2:Nat}{g1 g2:Nat→Value}{S1 S2:Nat→Heap→Prop}
theorem call_dict_zipG {Q:Value→Shared→Prop}(hh:A.handled=none)(D:Apart z TI TO i1 i2)(az:p1≠z)(aO:p1≠TO)(a2:p1≠i2)(bz:p2≠z)(bO:p2≠TO)(b1:p2≠i1)
  (C1:Src prog w i1 p1 n1 g1 S1) (C2:Src prog w i2 p2 n2 g2 S2) (f:Nat→K) (hk:∀i,i<min n1 n2→knd.is (f i) (g1 i)=true) (hsm:n1≤1000)
  (hz:IsZipF s.heap z TI TO .none (.bool false)) (hTI:IsPair s.heap TI (.ref i1) (.ref i2)) (hTO:IsPair s.heap TO .none .none) (s1:S1 0 s.heap) (s2:S2 0 s.heap)
  (h:∀h' tk,h'.DictOf knd s.heap.objs.size ((List.range (min n1 n2)).foldl (fun m j=>stored m (f j) (g2 j)) [])→(∀c o,c≠z→c≠TO→c≠i1→c≠i2→s.heap.get? c=some o→h'.get? c=some o) →
   Q (.ref s.heap.objs.size) {s with heap:=h',toks:=tk}) :
  wpAny (model prog w) A (call (.type "dict") [.ref z]) Q E s:=by
 refine callType_codes (Q₁:=fun obj s₁=>obj=.ref s.heap.objs.size∧s₁={s with heap:=s.heap.push {cls:=.type "dict", data:=.dict #[]} }) F.kt_called_dict (F.kt_typeCall_dict_1 _) F.entry_dict_init (kt_code_dict_new _ ⟨rfl,rfl⟩) ?_
 rintro obj s₁ ⟨rfl,rfl⟩
 have hnew:(s.heap.push {cls:=.type "dict", data:=.dict #[]}).DictOf knd s.heap.objs.size []:=Heap.DictOf.new s.heap
 have up:∀c o,s.heap.get? c=some o→(s.heap.push {cls:=.type "dict", data:=.dict #[]}).get? c=some o:=fun c o e=>Heap.get?_push_of_some _ e
 have hz':=up _ _ hz
 have hzT:({s with heap:=s.heap.push {cls:=.type "dict", data:=.dict #[]} }:Shared).TypeIs (.ref z) "zip" := ⟨_,hz',rfl⟩
 have lt:∀{c:Addr}{o:Obj},s.heap.get? c=some o→s.heap.objs.size≠c:=fun e=>Nat.ne_of_gt (Heap.lt_size e)
 obtain⟨⟨o1,e1⟩,q1,f1⟩:=C1.li _ _ s1
 obtain⟨⟨o2,e2⟩,q2,f2⟩:=C2.li _ _ s2
 have Y:GAp z TI TO i1 i2 p1 p2 s.heap.objs.size:=⟨D,az,aO,a2,bz,bO,b1,lt hz,lt hTI,lt hTO,lt e1,lt e2,lt f1,lt f2⟩
 refine⟨hnew.typeIs,F.args_dict_init_2 _ _,?_⟩
 unfold Builtin.«dict.__init__»
 refine wpAny_bind ?_
 unfold Builtin.Dict.selfAndRest
 refine wpAny_bind (wpAny_notOrdered_dict hnew.typeIs ?_)
 show wpAny _ _ (pure (s.heap.objs.size,[Value.ref z])) _ _ _
 refine wpAny_pure ?_
 show wpAny _ _ (Builtin.Dict.updateFrom "dict.__init__" s.heap.objs.size (.ref z) [] .none) _ _ _
 unfold Builtin.Dict.updateFrom
 refine wpAny_bind (wpAny_typeOf hzT ?_)
 rw[if_pos (by decide)]
 refine wpAny_bind (no_keys hz' hh fun h4 tk4 k4=>?_)
 simp only[Option.isNone_none,if_true]
 refine wpAny_bind (wpAny_rule ?_)
 have kk:∀c o,s.heap.get? c=some o→h4.get? c=some o:=fun c o e=>k4 _ _ (up _ _ e)
 have Z:GSt h4 z TI TO i1 i2 s.heap.objs.size S1 S2 0:=⟨.inl ⟨false,k4 _ _ hz'⟩,kk _ _ hTI,⟨_,_,kk _ _ hTO⟩,C1.mv _ _ _ s1 (fun o=>kk _ o) (fun o=>kk _ o),C2.mv _ _ _ s2 (fun o=>kk _ o) (fun o=>kk _ o)⟩
 have hm:h4.DictOf knd s.heap.objs.size []:=by
  obtain⟨o,ho,r⟩:=Heap.dictOf_iff.mp hnew
  exact Heap.dictOf_iff.mpr ⟨o,k4 _ _ ho,r⟩
 refine wpAny_bind (wpAny_pyIter_zip (k4 _ _ hz') ?_)
 refine wpAny_pure ⟨plainId_quiet plain_loop _,?_⟩
 refine upd_loopG (knd:=knd) (A:=A.in1) hh Y C1 C2 f hk hsm _ 0 _ [] _ _ rfl (Nat.zero_le _) Z hm (Nat.le_refl _) fun h5 tk5 hm5 k5=>?_
 exact⟨rfl,h h5 tk5 (by simpa using hm5) fun c o c1 c2 c3 c4 e=>k5 c o c1 c2 c3 c4 (fun q=>lt e q.symm) (kk _ _ e)⟩
end
section
variable {prog:Program}{w:World}{A:Around}{E:Value→Shared→Prop}{s:Shared}
abbrev lIter (t:Addr):Obj:={cls:=.type "list_iterator", data:=.fields #[.ref t,.int 0 0]}
def Itb (l:Addr)(o:Obj)(G:Heap→Prop):Prop:=∀(prog:Program) (w:World) (A:Around) (s:Shared) (Q:Value→Shared→Prop) (E:Value→Shared→Prop),G s.heap→Q (.ref s.heap.objs.size) {s with heap:=s.heap.push o}→wpAny (model prog w) A (pyIter (.ref l)) Q E s
theorem itb_tup (l:Addr)(xs:Array Value):Itb l (tIter l) (fun h=>h.IsTuple l xs):=fun _ _ _ _ _ _ g q=>wpAny_pyIter_tuple g q
theorem itb_lst (l:Addr)(xs:Array Value):Itb l (lIter l) (fun h=>h.IsList l xs):=fun _ _ _ _ _ _ g q=>wpAny_pyIter_list g q
theorem meets_gg {l1 l2:Addr}{o1 o2:Obj}{G1 G2:Heap→Prop}(b1:Itb l1 o1 G1)(b2:Itb l2 o2 G2)(up:∀h,G2 h→G2 (h.push o1)) :
  Meets (Builtin.«zip.__new__» ⟨[.type "zip", .ref l1,.ref l2],[]⟩) (fun _ R s=>G1 s.heap∧G2 s.heap ∧
   R (.ok (.ret (.ref (zH4 s.heap o1 o2).objs.size))) {s with heap:=zH5 s.heap o1 o2}) :=
 .of_wp fun prog w A R s h=>by
  obtain⟨hl1,hl2,h⟩:=h
  have z3:(zH3 s.heap o1 o2).objs.size=(zH2 s.heap o1 o2).objs.size+1:=Heap.size_push ..
  have z4:(zH4 s.heap o1 o2).objs.size=(zH2 s.heap o1 o2).objs.size+2:=by rw[Heap.size_push,z3]
  refine meets_st_aux (h1:=s.heap.push o1) (h2:=zH2 s.heap o1 o2) (i1:=s.heap.objs.size) (i2:=(s.heap.push o1).objs.size)
   (fun Q E q=>b1 prog w A.in1 s Q E hl1 q) (fun Q E q=>b2 prog w A.in1 {s with heap:=s.heap.push o1} Q E (up _ hl2) q) ⟨_,rfl,?_⟩
  rw[← z4,← z3]
  exact h
theorem call_zipG {l1 l2:Addr}{o1 o2:Obj}{G1 G2:Heap→Prop}{Q:Value→Shared→Prop}(f1:o1.isFreed=false)(f2:o2.isFreed=false)(b1:Itb l1 o1 G1)(b2:Itb l2 o2 G2)(up:∀h,G2 h→G2 (h.push o1))(hl1:G1 s.heap)(hl2:G2 s.heap)
  (h:∀h',Made5 s.heap h' o1 o2→Q (.ref (s.heap.objs.size+4)) {s with heap:=h'}) :
  wpAny (model prog w) A (call (.type "zip") [.ref l1,.ref l2]) Q E s:=by
 refine callType_new F.called_zip (by decide) (F.typeCall_zip_2 _ _) (F.newCall_zip_2 _ _) (fun obj=>F.args_object_init_3 obj _ _) F.entry_zip_new
  (meets_gg b1 b2 up) ⟨hl1,hl2,?_⟩
 obtain⟨m,z4⟩:=made5 s.heap o1 o2 f1 f2
 show _∧_
 rw[z4]
 exact⟨⟨_,m.1,rfl⟩,h _ m⟩
end
end Zp
set_option maxHeartbeats 1000000
namespace L2
open PySem PySem.Spec PyProof.Rows
def TxtOk (x:Str):Prop:=PyData.strOk x=true∧x.length≤1000000
mutual
inductive Is (K:PySem.W.Frag)(H:Hp):V→PyData→Prop
 | non:Is K H .non .none
 | bl (b:Bool):Is K H (.bl b) (.bool b)
 | int (i:Int):Is K H (.int i) (.int i)
 | str (x:Str) (ok:TxtOk x):Is K H (.str x) (.str x)
 | lst {a:Addr}{xs:List V}{ds:List PyData}:SqL K H a xs→Iss K H xs ds→Is K H (.ref a) (.list ds)
 | tup {a:Addr}{xs:List V}{ds:List PyData}:SqT K H a xs→Iss K H xs ds→Is K H (.ref a) (.tuple ds)
inductive Iss (K:PySem.W.Frag)(H:Hp):List V→List PyData→Prop
 | nil:Iss K H [] []
 | cons {v:V}{d:PyData}{vs:List V}{ds:List PyData}:Is K H v d→Iss K H vs ds→Iss K H (v::vs) (d::ds)
end
theorem Same.seqT {K:PySem.W.Frag}{H H':Hp}{a:Addr}{xs:List V}(e:Same H H')(h:SqT K H a xs):SqT K H' a xs:=by
 rcases h with(h|⟨o,h⟩)|h
 ·exact .inl (.inl (e _ _ h))
 ·exact .inl (.inr ⟨o,e _ _ h⟩)
 ·exact .inr h
section
variable {K:PySem.W.Frag}{H H':Hp}
theorem Is.mono_both (e:Same H H'):(∀{v:V}{d:PyData},Is K H v d→Is K H' v d)∧(∀{vs:List V}{ds:List PyData},Iss K H vs ds→Iss K H' vs ds):=by
 refine⟨fun {v d} h=>?_,fun {vs ds} h=>?_⟩
 ·exact Is.rec (motive_1:=fun v d _=>Is K H' v d) (motive_2:=fun vs ds _=>Iss K H' vs ds) .non .bl .int .str (fun q _ ih=>.lst (e.seq q) ih) (fun q _ ih=>.tup (e.seqT q) ih) .nil (fun _ _ a b=>.cons a b) h
 ·exact Iss.rec (motive_1:=fun v d _=>Is K H' v d) (motive_2:=fun vs ds _=>Iss K H' vs ds) .non .bl .int .str (fun q _ ih=>.lst (e.seq q) ih) (fun q _ ih=>.tup (e.seqT q) ih) .nil (fun _ _ a b=>.cons a b) h
theorem Is.mono {v:V}{d:PyData}(h:Is K H v d)(e:Same H H'):Is K H' v d:=(Is.mono_both e).1 h
theorem Iss.mono {vs:List V}{ds:List PyData}(h:Iss K H vs ds)(e:Same H H'):Iss K H' vs ds:=(Is.mono_both e).2 h
theorem Iss.length:∀{vs:List V}{ds:List PyData},Iss K H vs ds→vs.length=ds.length
 | _,_,.nil=>rfl
 | _,_,.cons _ r=>by simp[r.length]
theorem Iss.append:∀{vs ws:List V}{ds es:List PyData},Iss K H vs ds→Iss K H ws es→Iss K H (vs++ws) (ds++es)
 | _,_,_,_,.nil,s=>s
 | _,_,_,_,.cons r t,s=>.cons r (Iss.append t s)
theorem Iss.get:∀{vs:List V}{ds:List PyData}{i:Nat}{v:V},Iss K H vs ds→vs[i]? = some v→∃d,ds[i]? = some d∧Is K H v d
 | _,_,_,_,.nil,e=>by simp at e
 | _,_,0,_,.cons r _,e=>by simp at e;subst e;exact⟨_,rfl,r⟩
 | _,_,i+1,v,.cons _ t,e=>by
  obtain⟨d,h1,h2⟩:=Iss.get (i:=i) (v:=v) t (by simpa using e)
  exact⟨d,by simpa using h1,h2⟩
theorem Iss.take:∀{vs:List V}{ds:List PyData} (n:Nat),Iss K H vs ds→Iss K H (vs.take n) (ds.take n)
 | _,_,0,_=>.nil
 | _,_,_+1,.nil=>.nil
 | _,_,n+1,.cons r t=>.cons r (Iss.take n t)
theorem Iss.drop:∀{vs:List V}{ds:List PyData} (n:Nat),Iss K H vs ds→Iss K H (vs.drop n) (ds.drop n)
 | _,_,0,r=>r
 | _,_,_+1,.nil=>.nil
 | _,_,n+1,.cons _ t=>Iss.drop n t
theorem Is.can_both:(∀{v:V}{d:PyData},Is K H v d→d.canLay0=true)∧(∀{vs:List V}{ds:List PyData},Iss K H vs ds→PyData.canLayAll0 ds=true):=by
 have hs:∀(x:Str),TxtOk x→(PyData.str x).canLay0=true:=fun x h=>h.1
 refine⟨fun {v d} h=>?_,fun {vs ds} h=>?_⟩
 ·exact Is.rec (motive_1:=fun v d _=>d.canLay0=true) (motive_2:=fun vs ds _=>PyData.canLayAll0 ds=true) rfl (fun _=>rfl) (fun _=>rfl) hs (fun _ _ ih=>ih) (fun _ _ ih=>ih) rfl (fun _ _ a b=>by simp[PyData.canLayAll0,a,b]) h
 ·exact Iss.rec (motive_1:=fun v d _=>d.canLay0=true) (motive_2:=fun vs ds _=>PyData.canLayAll0 ds=true) rfl (fun _=>rfl) (fun _=>rfl) hs (fun _ _ ih=>ih) (fun _ _ ih=>ih) rfl (fun _ _ a b=>by simp[PyData.canLayAll0,a,b]) h
theorem Is.can {v:V}{d:PyData}(h:Is K H v d):d.canLay0=true:=Is.can_both.1 h
end
section
variable {X:Cx}{pins:List (Addr×Obj)}{σ:St}{H:Hp}{s:Shared}
theorem Inv.reads_both (I:Inv X pins σ H s):(∀{v:V}{d:PyData},Is X.K H v d→∀{u:Value},RelV v u→∃as,Reads s.heap u d as)∧(∀{vs:List V}{ds:List PyData},Iss X.K H vs ds→∀{us:List Value},Vals vs us→∃as,ReadsAll s.heap us ds as):=by
 have h1:∀{u:Value},RelV .non u→∃as,Reads s.heap u .none as:=fun {u} r=>by cases r;exact⟨_,.none⟩
 have h2:∀(b:Bool) {u:Value},RelV (.bl b) u→∃as,Reads s.heap u (.bool b) as:=fun b {u} r=>by cases r;exact⟨_,.bool b⟩
 have h3:∀(i:Int) {u:Value},RelV (.int i) u→∃as,Reads s.heap u (.int i) as:=fun i {u} r=>by obtain⟨t,rfl⟩:=r;exact⟨_,.int i t⟩
 have h4:∀(x:Str),TxtOk x→∀{u:Value},RelV (.str x) u→∃as,Reads s.heap u (.str x) as:=fun x _ {u} r=>by obtain⟨t,rfl⟩:=r;exact⟨_,.str x t⟩
 have h5:∀{a:Addr}{xs:List V}{ds:List PyData} (_:SqL X.K H a xs) (_:Iss X.K H xs ds),(∀{us:List Value},Vals xs us→∃as,ReadsAll s.heap us ds as)→∀{u:Value},RelV (.ref a) u→∃as,Reads s.heap u (.list ds) as:=by
  intro a xs ds q _ ih u r
  cases r
  obtain⟨its,rv,⟨o,n,e,hc,_,hd⟩,_⟩:=I.list q
  obtain⟨as,ra⟩:=ih rv
  exact⟨_,.list e hc hd (by simpa using ra)⟩
 have h6:∀{a:Addr}{xs:List V}{ds:List PyData} (_:SqT X.K H a xs) (_:Iss X.K H xs ds),(∀{us:List Value},Vals xs us→∃as,ReadsAll s.heap us ds as)→∀{u:Value},RelV (.ref a) u→∃as,Reads s.heap u (.tuple ds) as:=by
  intro a xs ds q _ ih u r
  cases r
  obtain⟨its,rv,⟨o,e,hc,n,hd⟩,_⟩:=I.tuple q
  obtain⟨as,ra⟩:=ih rv
  exact⟨_,.tuple e hc hd (by simpa using ra)⟩
 have h7:∀{us:List Value},Vals [] us→∃as,ReadsAll s.heap us [] as:=fun {us} r=>by cases r;exact⟨_,.nil⟩
 have h8:∀{v:V}{d:PyData}{vs:List V}{ds:List PyData} (_:Is X.K H v d) (_:Iss X.K H vs ds),(∀{u:Value},RelV v u→∃as,Reads s.heap u d as)→(∀{us:List Value},Vals vs us→∃as,ReadsAll s.heap us ds as)→∀{us:List Value},Vals (v::vs) us→∃as,ReadsAll s.heap us (d::ds) as:=by
  intro v d vs ds _ _ a b us r
  cases r with
  | cons r t =>
   obtain⟨_,ra⟩:=a r
   obtain⟨_,rb⟩:=b t
   exact⟨_,.cons ra rb⟩
 refine⟨fun {v d} h=>?_,fun {vs ds} h=>?_⟩
 ·exact Is.rec (motive_1:=fun v d _=>∀{u:Value},RelV v u→∃as,Reads s.heap u d as) (motive_2:=fun vs ds _=>∀{us:List Value},Vals vs us→∃as,ReadsAll s.heap us ds as) h1 h2 h3 h4 h5 h6 h7 h8 h
 ·exact Iss.rec (motive_1:=fun v d _=>∀{u:Value},RelV v u→∃as,Reads s.heap u d as) (motive_2:=fun vs ds _=>∀{us:List Value},Vals vs us→∃as,ReadsAll s.heap us ds as) h1 h2 h3 h4 h5 h6 h7 h8 h
theorem Inv.reads (I:Inv X pins σ H s){v:V}{d:PyData}{u:Value}(h:Is X.K H v d)(r:RelV v u):∃as,Reads s.heap u d as:=I.reads_both.1 h r
def rEqD (K:PySem.W.Frag):R2:=fun x y H Q=>∃d e,Is K H x d∧Is K H y e∧d.depth≤60∧Q (.bl (PyData.eqv d e)) H
def rNeD (K:PySem.W.Frag):R2:=fun x y H Q=>∃d e,Is K H x d∧Is K H y e∧d.depth≤60∧Q (.bl (!PyData.eqv d e)) H
theorem op_eqD (hu:X.A.units+64<cLine):OpR X (compareOp .Eq) (rEqD X.K):=by
 intro pins s σ H x y v u Q I rx ry h
 obtain⟨d,e,hd,he,hz,q⟩:=h
 obtain⟨_,ra⟩:=I.reads hd rx
 obtain⟨_,rb⟩:=I.reads he ry
 exact SeqAt.rcAt_reads ra rb hd.can he.can (by omega) X.prog X.w X.xe _ (fin_bl I q rfl)
theorem op_neD (hu:X.A.units+64<cLine):OpR X (compareOp .NotEq) (rNeD X.K):=by
 intro pins s σ H x y v u Q I rx ry h
 obtain⟨d,e,hd,he,hz,q⟩:=h
 obtain⟨_,ra⟩:=I.reads hd rx
 obtain⟨_,rb⟩:=I.reads he ry
 exact SeqAt.rcNeAt_reads ra rb hd.can he.can (by omega) X.prog X.w X.xe _ (fin_bl I q rfl)
end
end L2
namespace L2
open PySem PySem.Spec PyProof.Rows
def closOf (scope:Scope)(env:Env):List (Str×Addr):=scope.names.foldl (fun cs y=>if y.2 == NameKind.free then(y.1,(env.cells.lookup y.1).getD 0)::cs else cs) []
theorem closureFor_eq {scope:Scope}{env:Env}(h:∀y∈scope.names,y.2=.free→∃c,env.cells.lookup y.1=some c):closureFor scope env=pure (closOf scope env):=by
 have key:∀(names:List (Str×NameKind)) (cs:List (Str×Addr)),(∀y∈names,y.2=.free→∃c,env.cells.lookup y.1=some c) →
   (forIn names cs (fun(x:Str×NameKind) (r:List (Str×Addr))=>if (x.2 == NameKind.free)=true then(do let a ← cellOf env x.1;pure (ForInStep.yield ((x.1,a)::r)):Sem (ForInStep (List (Str×Addr)))) else pure (ForInStep.yield r))) =
    pure (names.foldl (fun cs y=>if y.2 == NameKind.free then(y.1,(env.cells.lookup y.1).getD 0)::cs else cs) cs):=by
  intro names
  induction names with
  | nil=>intro cs _;rfl
  | cons y r ih =>
   intro cs hy
   have hr:∀z∈r,z.2=.free→∃c,env.cells.lookup z.1=some c:=fun z hz=>hy z (List.mem_cons_of_mem _ hz)
   rw[List.forIn_cons,List.foldl_cons]
   cases hk:(y.2 == NameKind.free) with
   | false =>
    simp only[Bool.false_eq_true,if_false]
    exact ih cs hr
   | true =>
    have e:y.2=.free:=by simpa using hk
    obtain⟨c,hc⟩:=hy y List.mem_cons_self e
    have hco:cellOf env y.1=pure c:=by unfold cellOf;rw[hc]
    simp only[if_true,hco,hc,Option.getD_some]
    exact ih _ hr
 unfold closureFor closOf
 have:=key scope.names [] h
 first|exact(congrArg (· >>= fun r=>pure r) this).trans rfl|exact this|simpa using this
theorem closOf_mem {scope:Scope}{env:Env}(h:∀y∈scope.names,y.2=.free→∃c,env.cells.lookup y.1=some c):∀p∈closOf scope env,env.cells.lookup p.1=some p.2∧(p.1,NameKind.free)∈scope.names:=by
 have key:∀(names:List (Str×NameKind)) (cs:List (Str×Addr)),(∀y∈names,y∈scope.names)→(∀p∈cs,env.cells.lookup p.1=some p.2∧(p.1,NameKind.free)∈scope.names) →
   ∀p∈names.foldl (fun cs y=>if y.2 == NameKind.free then(y.1,(env.cells.lookup y.1).getD 0)::cs else cs) cs,env.cells.lookup p.1=some p.2∧(p.1,NameKind.free)∈scope.names:=by
  intro names
  induction names with
  | nil=>intro cs _ hc;exact hc
  | cons y r ih =>
   intro cs hs hc
   rw[List.foldl_cons]
   refine ih _ (fun z hz=>hs z (List.mem_cons_of_mem _ hz)) ?_
   cases hk:(y.2 == NameKind.free) with
   | false=>simp only[Bool.false_eq_true,if_false];exact hc
   | true =>
    have e:y.2=.free:=by simpa using hk
    obtain⟨c,hcc⟩:=h y (hs y List.mem_cons_self) e
    simp only[if_true]
    intro p hp
    rcases List.mem_cons.mp hp with rfl|hp
    ·exact⟨by rw[hcc];rfl,by have:=hs y List.mem_cons_self;rw[← e];exact this⟩
    ·exact hc p hp
 exact key scope.names [] (fun _ h=>h) (fun p hp=>by cases hp)
theorem lookup_of_key {l:List (Str×Addr)}{x:Str}(h:∃p∈l,p.1=x):∃c,l.lookup x=some c:=by
 induction l with
 | nil=>obtain⟨p,hp,_⟩:=h;cases hp
 | cons q r ih =>
  rw[List.lookup_cons]
  cases hq:(x == q.1) with
  | true=>exact⟨_,rfl⟩
  | false =>
   obtain⟨p,hp,e⟩:=h
   rcases List.mem_cons.mp hp with rfl|hp
   ·subst e;simp at hq
   ·exact ih ⟨p,hp,e⟩
theorem closOf_has {scope:Scope}{env:Env}{x:Str}(hx:(x,NameKind.free)∈scope.names):∃c,(closOf scope env).lookup x=some c:=by
 refine lookup_of_key ?_
 have key:∀(names:List (Str×NameKind)) (cs:List (Str×Addr)),((x,NameKind.free)∈names∨∃p∈cs,p.1=x) →
   ∃p∈names.foldl (fun cs y=>if y.2 == NameKind.free then(y.1,(env.cells.lookup y.1).getD 0)::cs else cs) cs,p.1=x:=by
  intro names
  induction names with
  | nil=>intro cs h;rcases h with h|h;cases h;exact h
  | cons y r ih =>
   intro cs h
   rw[List.foldl_cons]
   refine ih _ ?_
   rcases h with h|⟨p,hp,e⟩
   ·rcases List.mem_cons.mp h with h|h
    ·subst h
     exact .inr ⟨_,List.mem_cons_self,rfl⟩
    ·exact .inl h
   ·refine .inr ⟨p,?_,e⟩
    cases (y.2 == NameKind.free) with
    | true=>exact List.mem_cons_of_mem _ hp
    | false=>exact hp
 exact key scope.names [] (.inl hx)
theorem relabel_lookup {scope:Scope}{env:Env}{x:Str}:(relabel scope env).names.lookup x=(scope.names.lookup x).map fun k=>if (k == NameKind.free&&env.scope.kind == .function&&env.kindOf x == some .cell) then NameKind.cell else k:=by
 show(scope.names.map _).lookup x=_
 induction scope.names with
 | nil=>rfl
 | cons y r ih =>
  obtain⟨n,k⟩:=y
  rw[List.map_cons,List.lookup_cons]
  cases hx:(x == n) with
  | true =>
   have e:x=n:=by simpa using hx
   subst e
   show List.lookup x ((if (k == NameKind.free&&env.scope.kind == .function&&env.kindOf x == some .cell)=true then(x,NameKind.cell) else(x,k))::_)=_
   split
   ·rename_i h
    simp only[List.lookup_cons,hx,Option.map_some]
    rw[if_pos h]
   ·rename_i h
    simp only[List.lookup_cons,hx,Option.map_some]
    rw[if_neg h]
  | false =>
   show List.lookup x ((if (k == NameKind.free&&env.scope.kind == .function&&env.kindOf n == some .cell)=true then(n,NameKind.cell) else(n,k))::_)=_
   split <;>simp only[List.lookup_cons,hx] <;>exact ih
structure CompOk (X:Cx)(scope:Scope)(caps:List Nat):Prop where
 kind:scope.kind=.function
 ncell:∀y∈scope.names,y.2=.cell→scope.names.lookup y.1=some .cell
 locs:∀y∈scope.names,y.2=.local→scope.names.lookup y.1=some .local
 free:∀y∈scope.names,y.2=.free→X.env.kindOf y.1=some .cell∨X.env.kindOf y.1=some .free
 caps:∀i∈caps,∃y,X.N[i]? = some y∧scope.names.lookup y=some .free
def capN (X:Cx)(own:List Str)(caps:List Nat):List Str:=own++caps.map fun i=>X.N.getD i Str.empty
def capS (own:List Str)(caps:List Nat)(σ:St):St:=own.map (fun _=>none)++caps.map fun i=>(σ[i]?).getD none
def ownC (scope:Scope)(C:Addr):List (Str×Addr):=cellsFrom (C+1) scope.names []
def allC (scope:Scope)(env:Env)(C:Addr):List (Str×Addr):=ownC scope C++closOf scope env
theorem cellsFrom_acc:∀(names:List (Str×NameKind)) (n:Nat) (acc:List (Str×Addr)),cellsFrom n names acc=cellsFrom n names []++acc:=by
 intro names
 induction names with
 | nil=>intro n acc;rfl
 | cons y r ih =>
  obtain⟨x,k⟩:=y
  intro n acc
  unfold cellsFrom
  split
  ·rw[ih _ ((x,n)::acc),ih _ [(x,n)],List.append_assoc];rfl
  ·exact ih n acc
theorem cellsFrom_mem:∀(names:List (Str×NameKind)) (n:Nat) (x:Str) (c:Addr),(x,c)∈cellsFrom n names []→(x,NameKind.cell)∈names:=by
 intro names
 induction names with
 | nil=>intro n x c h;cases h
 | cons y r ih =>
  obtain⟨z,k⟩:=y
  intro n x c h
  unfold cellsFrom at h
  split at h
  ·rename_i hk
   rw[cellsFrom_acc] at h
   rcases List.mem_append.mp h with h|h
   ·exact List.mem_cons_of_mem _ (ih _ _ _ h)
   ·have e:=List.mem_singleton.mp h
    injection e with e1 e2
    subst e1
    have ek:k=.cell:=by simpa using hk
    subst ek
    exact List.mem_cons_self
  ·exact List.mem_cons_of_mem _ (ih _ _ _ h)
theorem lookup_app {l r:List (Str×Addr)}{x:Str}{c:Addr}(h:(l++r).lookup x=some c):l.lookup x=some c∨(l.lookup x=none∧r.lookup x=some c):=by
 rw[List.lookup_append] at h
 cases e:l.lookup x with
 | none=>rw[e] at h;exact .inr ⟨rfl,h⟩
 | some d=>rw[e] at h;exact .inl h
theorem lookup_l {l r:List (Str×Addr)}{x:Str}{c:Addr}(h:l.lookup x=some c):(l++r).lookup x=some c:=by rw[List.lookup_append,h];rfl
theorem lookup_r {l r:List (Str×Addr)}{x:Str}{c:Addr}(n:l.lookup x=none)(h:r.lookup x=some c):(l++r).lookup x=some c:=by rw[List.lookup_append,n];exact h
def cxC (X:Cx)(pins:List (Addr×Obj))(scope:Scope)(own:List Str)(caps:List Nat)(C:Addr)(ex:List Addr)(s:Shared)(H:Hp):Cx :=
 {X with N:=capN X own caps,s₀:=s,H₀:=H,env:=compEnvC scope (allC scope X.env C) C X.env,outer:=X.stack,ex:=ex,fn:=fun x=>scope.names.lookup x == some .cell,pn:=X.pn++pins,xe:=fun _ _=>False}
section
variable {X:Cx}{pins:List (Addr×Obj)}{σ:St}{H:Hp}{s:Shared}{scope:Scope}{own:List Str}{caps:List Nat}
theorem Inv.track {D:Addr}{o:HO} (I:Inv X pins σ H s) (hn:H D=none) (h0:D∈X.ex∨X.s₀.heap.objs.size≤D) (hL:D≠X.env.locals) (hc:∀x c,X.env.cells.lookup x=some c→c≠D) (hp:∀p∈X.pn++pins,p.1≠D)
  (new:ObjOk X.prog X.w (upd H D o) s.heap D o):Inv X pins σ (upd H D o) s:=by
 have ne:∀b u,H b=some u→b≠D:=fun b u e=>ne_of_none e hn
 have q := I.step (g':=s.gens) (t':=s.toks) (d':=s.drawn) (ch:=[D]) (h':=s.heap) (H':=upd H D o)
  (fun b hb => by have e:b=D:=by simpa using hb
                  subst e;exact⟨h0,hL,hc,hp⟩)
  (fun b o' _ _ _ e _=>e) (fun b o' _ _ _ e _=>⟨o'.slots,e⟩) (fun b o' hb _ n=>by rw[zN (fun z=>hb (by simp[z]))];exact n) (fun b o' _ e=>⟨o',e⟩)
  (fun b xs e=>by rw[zN (ne b _ e)];exact e) (fun b o' u e=>by rw[zN (ne b _ e)];exact e) (fun b ps e=>⟨#[],by rw[zN (ne b _ e),e];simp⟩) (fun m hm=>hm)
  (fun b u e=>by
   by_cases hb:b=D
   ·subst hb;rw[zR] at e;cases e;exact new
   ·rw[zN hb] at e
    exact(I.hok b u e).stay (fun c v _ q=>q) (fun c q=>by rw[zN (ne c _ q)];exact q) fun c xs q=>by rw[zN (ne c _ q)];exact q) I.bare
 exact q
theorem CompOk.cells (ok:CompOk X scope caps)(I:Inv X pins σ H s):∀y∈scope.names,y.2=.free→∃c,X.env.cells.lookup y.1=some c:=fun y hy e=>I.ok.has y.1 (ok.free y hy e)
theorem Inv.block {h₁:Heap}{D C:Addr}{fp:List Addr}{m:Str→Option Value}{oD:Obj}{t:Nat}(ok:CompOk X scope caps)(I:Inv X pins σ H s)(hf:∀b∈fp,FpOk X pins H b)(hfo:∀b∈fp,∃o,s.heap.get? b=some o∧∀v,o.data≠.cell v)
  (hD:D=s.heap.objs.size) (hC:s.heap.objs.size≤C) (hDC:D≠C) (k:∀b u,s.heap.get? b=some u→h₁.get? b=some u) (hn:h₁.Ns C m) (hoD:h₁.get? D=some oD) (hdD:∀v,oD.data≠.cell v) (cok:CellsOk h₁ (C+1) (ownC scope C)) :
  Inv (cxC X pins scope own caps C fp s H) [(D,oD)] (capS own caps σ) H {s with heap:=h₁,toks:=t}:=by
 have hcl:=ok.cells I
 have lk:∀x c,(closOf scope X.env).lookup x=some c→X.env.cells.lookup x=some c∧(x,NameKind.free)∈scope.names:=fun x c e=>closOf_mem hcl (x,c) (PySem.mem_of_lookup e)
 have lA:∀x c,(allC scope X.env C).lookup x=some c→(C<c∧h₁.IsCell c none∧(x,c)∈ownC scope C)∨(closOf scope X.env).lookup x=some c:=fun x c e=>by
  rcases lookup_app e with e|⟨_,e⟩
  ·have m:=PySem.mem_of_lookup e
   exact .inl ⟨(cok.empty x c m).2,(cok.empty x c m).1,m⟩
  ·exact .inr e
 have lkC:∀x c,X.env.cells.lookup x=some c→c<C:=fun x c e=>by
  obtain⟨v,o,ho,_⟩:=I.cell x c e
  exact Nat.lt_of_lt_of_le (Heap.lt_size ho) hC
 have nst:∀b,b≠X.env.locals→b∉X.fs→b∉frs X.stack:=fun b h1 h2 hb=>by
  rcases List.mem_cons.mp (I.stkSub b hb) with e|e
  ·exact h1 e
  ·exact h2 e
 have kinds:∀x,((relabel scope X.env).names.lookup x=some .cell∨(relabel scope X.env).names.lookup x=some .free)→(x,NameKind.free)∈scope.names∨scope.names.lookup x=some .cell:=fun x hx=>by
  rw[relabel_lookup] at hx
  cases e:scope.names.lookup x with
  | none=>rw[e] at hx;rcases hx with hx|hx <;>cases hx
  | some kd =>
   have hm:=PySem.mem_of_lookup e
   cases kd with
   | free=>exact .inl hm
   | cell=>exact .inr rfl
   | _=>rw[e] at hx;rcases hx with hx|hx <;>simp at hx
 refine⟨⟨I.ok.mod,ok.kind,I.ok.glob,I.ok.blt,hC,?_,?_,?_,I.ok.hd,I.ok.frames,.inl rfl,?_,I.bs,Nat.le_trans I.ok.bsz I.sz,?_,?_,I.stack,I.stkFree⟩,rfl,I.bare,Un.kept k,⟨m,hn,?_⟩,?_,I.hok.fresh hC,?_,?_,I.hok.kept k,?_⟩
 ·intro x y c h1 h2
  rcases lA x c h1 with⟨l1,_,m1⟩|h1 <;>rcases lA y c h2 with⟨l2,_,m2⟩|h2
  ·exact name_of_addr cok.apart m1 m2
  ·exact absurd (lkC y c (lk y c h2).1) (Nat.lt_asymm l1)
  ·exact absurd (lkC x c (lk x c h1).1) (Nat.lt_asymm l2)
  ·exact I.ok.inj x y c (lk x c h1).1 (lk y c h2).1
 ·intro x hx
  show ∃c,(allC scope X.env C).lookup x=some c
  cases e:(ownC scope C).lookup x with
  | some c=>exact⟨c,lookup_l e⟩
  | none =>
   rcases kinds x hx with h|h
   ·obtain⟨c,h⟩:=closOf_has (env:=X.env) h
    exact⟨c,lookup_r e h⟩
   ·obtain⟨c,h⟩:=cell_has (n:=C+1) h
    unfold ownC at e
    rw[h] at e;cases e
 ·intro x c hx e
  have hx:(scope.names.lookup x == some .cell)=true:=hx
  obtain⟨c',h⟩:=cell_has (sc:=scope) (n:=C+1) (by simpa using hx)
  have e':=lookup_l (r:=closOf scope X.env) h
  have e2:(allC scope X.env C).lookup x=some c:=e
  unfold allC ownC at e2
  rw[e'] at e2
  cases e2
  exact Nat.le_trans hC (Nat.le_trans (Nat.le_succ C) (cok.empty x _ (PySem.mem_of_lookup h)).2)
 ·intro b hb
  obtain⟨o,ho,_⟩:=hfo b hb
  refine⟨Nat.ne_of_lt (Nat.lt_of_lt_of_le (Heap.lt_size ho) hC),fun x c e=>?_⟩
  rcases lA x c e with⟨l,_,_⟩|e
  ·exact Nat.ne_of_gt (Nat.lt_trans (Nat.lt_of_lt_of_le (Heap.lt_size ho) hC) l)
  ·exact(hf b hb).2.2.2.2.1 x c (lk x c e).1
 ·intro b o e hb
  rcases(hf b hb).2.2.2.1 with z|z
  ·exact I.ok.noex b o e z
  ·exact absurd (Nat.lt_of_lt_of_le (Heap.lt_size e) (Nat.le_trans I.ok.bsz z)) (Nat.lt_irrefl _)
 ·exact fun b hb=>nst b (hf b hb).2.1 (hf b hb).2.2.1
 ·intro i x v h1 h2 h3
  have h1':(own++caps.map fun i=>X.N.getD i Str.empty)[i]? = some x:=h1
  unfold capS at h2
  have hi:own.length≤i:=by
   apply Classical.byContradiction
   intro hlt
   rw[List.getElem?_append_left (by simpa using hlt),List.getElem?_map] at h2
   cases e:own[i]? with
   | none=>rw[e] at h2;cases h2
   | some y=>rw[e] at h2;cases h2
  rw[List.getElem?_append_right (by simpa using hi),List.getElem?_map,List.length_map] at h2
  rw[List.getElem?_append_right hi,List.getElem?_map] at h1'
  cases e:caps[i - own.length]? with
  | none=>rw[e] at h2;cases h2
  | some j =>
   rw[e] at h2 h1'
   have hx:X.N.getD j Str.empty=x:=Option.some.inj h1'
   have hv:(σ[j]?).getD none=some v:=Option.some.inj h2
   obtain⟨y,hy,hfr⟩:=ok.caps j (List.mem_of_getElem? e)
   have exy:x=y:=by rw[← hx,List.getD_eq_getElem?_getD,hy];rfl
   subst exy
   have hs:σ[j]? = some (some v):=by
    cases q:σ[j]? with
    | none=>rw[q] at hv;cases hv
    | some z=>rw[q] at hv;exact congrArg some hv
   have hfm:=PySem.mem_of_lookup hfr
   have hkd:=ok.free _ hfm rfl
   obtain⟨m',hn',hl⟩:=I.loc
   obtain⟨u,r,l⟩:=hl j x v hy hs (by rcases hkd with z|z;exact .inr (.inl z);exact .inr (.inr z))
   refine⟨u,r,.inr ⟨?_,?_⟩⟩
   ·show(relabel scope X.env).names.lookup x=some .cell∨(relabel scope X.env).names.lookup x=some .free
    rw[relabel_lookup,hfr]
    simp only[Option.map_some]
    split
    ·exact .inl rfl
    ·exact .inr rfl
   ·rcases l with⟨hk,_⟩|⟨_,c,hc,o,ho,hd⟩
    ·rcases hkd with z|z <;>(rw[hk] at z;cases z)
    ·obtain ⟨c',hc'⟩:=closOf_has (env:=X.env) hfm
     have e1:=(lk x c' hc').1
     rw[hc] at e1
     cases e1
     refine⟨c,lookup_r ?_ hc',o,k _ _ ho,hd⟩
     cases e3:(ownC scope C).lookup x with
     | none=>rfl
     | some c3 =>
      have h3:=ok.ncell _ (cellsFrom_mem _ _ _ _ (PySem.mem_of_lookup e3)) rfl
      rw[hfr] at h3;cases h3
 ·intro x c e
  rcases lA x c e with⟨_,h,_⟩|e
  ·exact⟨_,h⟩
  ·obtain⟨v,o,ho,hd⟩:=I.cell x c (lk x c e).1
   exact⟨v,o,k _ _ ho,hd⟩
 ·intro x c e
  rcases lA x c e with⟨l,_,_⟩|e
  ·exact I.hok.fresh (Nat.le_trans hC (Nat.le_of_lt l))
  ·exact I.freeC x c (lk x c e).1
 ·intro p hp
  rcases List.mem_append.mp hp with hp|hp
  ·obtain⟨a1,a2,a3,a4,a5⟩:=I.pin p hp
   exact⟨k _ _ a1,a2,Nat.ne_of_lt (Nat.lt_of_lt_of_le (Heap.lt_size a1) hC),nst _ a3 a4,a5⟩
  ·have e:p=(D,oD):=by simpa using hp
   subst e
   refine⟨hoD,I.hok.fresh (Nat.le_of_eq hD.symm),hDC,?_,hdD⟩
   refine nst D ?_ (I.nofs (Nat.le_of_eq hD.symm))
   exact Nat.ne_of_gt (by rw[hD];exact I.lt)
 ·show(capS own caps σ).length=(capN X own caps).length
  simp[capS,capN]
end
end L2
namespace L2
open PySem PySem.Spec PyProof.Rows
section
variable {prog:Program}{w:World}{A:Around}{R:Result→Shared→Prop}{s:Shared}
theorem compLoop_any {elt target iter:Expr}{ifs:List Expr}{scope:Scope}{pos:Pos}{it acc:Value}{env:Env}(I:Nat→Shared→Prop)
  (turn : ∀n s,I n s→wpAny (model prog w) A (pyNext it) (fun r s₁=>match r with
   | none=>R (.ok .next) s₁
   | some v=>wpAny (model prog w) A (letOwnedTupleGo target it v) (fun _ s₁'=>wpAny (model prog w) A (assign target env v) (fun _ s₂ =>
     wpAny (model prog w) A (forIn ifs true fun c r=>if r=true then do let ok ← isTrue c env (eval c env);pure (ForInStep.yield ok) else pure (ForInStep.yield r)) (fun ok s₃ =>
      if ok=true then wpAny (model prog w) A (eval elt env) (fun x s₄ =>
       wpAny (model prog w) A (call (.builtin "list.append") [acc,x]) (fun _ s₅=>∃m,m<n∧I m s₅) (fun _ _=>False) s₄) (fun _ _=>False) s₃
      else ∃m,m<n∧I m s₃) (fun _ _=>False) s₂) (fun _ _=>False) s₁') (fun _ _=>False) s₁) (fun _ _=>False) s)
  (n:Nat) (h:I n s) :
  codeAny (model prog w) A (.compLoop (.ListComp elt [⟨target,iter,ifs,0⟩] scope pos) 0 it acc env) R s:=by
 refine codeAny_loop rfl I (fun n s hI=>?_) n h
 show wpAny _ A ((compTurn (.ListComp elt [⟨target,iter,ifs,0⟩] scope pos) 0 it acc env).onRaise (fun x=>do noteFrame x env;theTreesLotGoes x)) _ _ s
 refine wpAny_noted ?_
 rw[compTurn_list]
 refine wpAny_bind (wpAny_standAt (wpAny_bind (wpAny_mono (turn n s hI) (fun r s₁ h₁=>?_) fun _ _ h'=>h'.elim)))
 cases r with
 | none=>exact wpAny_pure h₁
 | some v =>
  refine wpAny_bind (wpAny_mono h₁ (fun _ s₁' h₁'=>?_) fun _ _ h'=>h'.elim)
  refine wpAny_bind (wpAny_mono h₁' (fun _ s₂ h₂=>wpAny_bind (wpAny_mono h₂ (fun ok s₃ h₃=>?_) fun _ _ h'=>h'.elim)) fun _ _ h'=>h'.elim)
  cases ok with
  | false=>exact wpAny_pure ⟨rfl,h₃⟩
  | true =>
   exact wpAny_bind (wpAny_bind (wpAny_mono h₃ (fun x s₄ h₄=>wpAny_bind (wpAny_mono h₄ (fun _ s₅ h₅=>wpAny_pure (wpAny_pure ⟨rfl,h₅⟩)) fun _ _ h'=>h'.elim)) fun _ _ h'=>h'.elim))
end
def PTs (X:Cx)(ifs:List Expr)(t:TT):Prop :=
 ∀ (pins:List (Addr×Obj)) (s:Shared) (σ:St) (H:Hp) (Q:Bool→Hp→Prop),Inv X pins σ H s→t σ H Q →
  wpAny (model X.prog X.w) X.A (forIn ifs true fun c r=>if r=true then do let ok ← isTrue c X.env (eval c X.env);pure (ForInStep.yield ok) else pure (ForInStep.yield r)) (TP X pins σ Q) X.xe s
def Kps (σ σ':St):Prop:=σ'.length=σ.length∧∀(i:Nat) (v:V),σ[i]? = some (some v)→σ'[i]? = some (some v)
def tTurns (g:TG)(tt:TT)(te:TE)(σ0:St)(F:List V→Hp→Prop)(J:It)(H1:Hp):Prop :=
 ∃ W : Nat→Nat→List V→Hp→Prop,(∃m,W 0 m [] H1)∧∀i m ys H,W i m ys H→ys.length≤sizeLine ∧
  ((J.stop i H∧F ys H)∨(J.go i H∧ys.length<sizeLine∧∃N:List V→Hp→Prop,(∀ys' H',N ys' H'→∃m',m'<m∧W (i+1) m' ys' H') ∧
    ∀x H',J.yld i H x H'→g x σ0 H' fun σ2 H2=>Kps σ0 σ2∧tt σ2 H2 fun b H3=>if b=true then te σ2 H3 fun y H4=>N (ys++[y]) H4 else N ys H3))
def tComp (wi:TI)(g:TG)(tt:TT)(te:TE)(own:List Str)(caps:List Nat):TE:=fun σ H Q=>wi σ H fun J H1=>tTurns g tt te (capS own caps σ) (fun ys H'=>∀D,H' D=none→Q (.ref D) (upd H' D (.lst ys))) J H1
section
variable {X:Cx}{pins:List (Addr×Obj)}{σ:St}{H:Hp}{s:Shared}{scope:Scope}{own:List Str}{caps:List Nat}{elt tg iter:Expr}{ifs:List Expr}{wi:TI}{g:TG}{tt:TT}{te:TE}{pos:Pos}
structure CompIn (X:Cx)(scope:Scope)(own:List Str)(caps:List Nat)(tg:Expr)(ifs:List Expr)(elt:Expr)(g:TG)(tt:TT)(te:TE):Prop where
 tgt:∀pins C ex s H,PG (cxC X pins scope own caps C ex s H) tg g
 tst:∀pins C ex s H,PTs (cxC X pins scope own caps C ex s H) ifs tt
 elm:∀pins C ex s H,PE (cxC X pins scope own caps C ex s H) elt te
theorem newEnv_comp {M:Model}{A:Around}{E:Value→Shared→Prop}{s:Shared}{scope:Scope}{g:Addr}{cl:List (Str×Addr)}{q:Str}{env:Env}{Q:Env→Shared→Prop}
  (h:∀h',h'.Ns s.heap.objs.size (fun _=>none)→(∀b o,s.heap.get? b=some o→h'.get? b=some o)→CellsOk h' (s.heap.objs.size+1) (ownC scope s.heap.objs.size) →
   Q (newEnv scope s.heap.objs.size g (ownC scope s.heap.objs.size++cl) q none .none (some env) builtinsNs) {s with heap:=h'}) :
  wpAny M A (newFunctionEnv scope g cl [] q none .none (some env)) Q E s:=by
 simp only[newFunctionEnv,Option.isSome_some,if_true]
 refine wpAny_bind (wpAny_alloc ?_)
 refine wpAny_bind (wpAny_layCells _ (fun name kind cells=>by cases hkc:kind == NameKind.cell <;>simp[hkc]) _ _ _ _ ?_)
 have ok:=cellsFrom_ok scope.names (s.heap.push {cls:=.type "dict", data:=.dict #[]}) (s.heap.objs.size+1) [] ⟨fun _ _ hm=>(nomatch hm),List.Pairwise.nil⟩ (by rw[Heap.size_push];exact Nat.le_refl _)
 rw[Heap.size_push] at ok
 rw[show({s with heap:=s.heap.push {cls:=.type "dict", data:=.dict #[]} }:Shared).heap.objs.size=s.heap.objs.size+1 from Heap.size_push ..]
 rw[cellsFrom_acc,List.forIn_nil]
 refine wpAny_bind (wpAny_pure (wpAny_pure ?_))
 exact h _ ((Heap.Ns.new s.heap (.type "dict")).keeps (pushCells_keeps _ _)) (fun b o e=>pushCells_keeps _ _ b o (Heap.get?_push_of_some _ e)) ok
theorem comp_core {use:Option (Value→Sem Unit)}{Qv:Value→Shared→Prop}{F:List V→Hp→Prop}(ok:CompOk X scope caps)(hc:X.calm=true)(hi:PI X tg iter wi)(CI:CompIn X scope own caps tg ifs elt g tt te)(I:Inv X pins σ H s)
  (h:wi σ H fun J H1=>tTurns g tt te (capS own caps σ) F J H1)
  (fin:∀(D C:Addr) (ys:List V) (H':Hp) (s1:Shared) (m:Str→Option Value),Inv X pins σ (upd H' D (.lst ys)) s1→H' D=none→F ys H'→s1.heap.Ns C m→H' C=none→C≠D→C≠X.env.locals→C∉X.fs→X.s₀.heap.objs.size≤C →
   (∀x c,X.env.cells.lookup x=some c→c≠C)→(∀p∈X.pn++pins,p.1≠C)→compPost (model X.prog X.w) X.A X.xe use Qv (.ref D) C (.ok .next) s1)
  (hs:∀x,foldedSetIterable iter X.env x=pure x:=by intro _;rfl) :
  wpAny (model X.prog X.w) X.A (comprehension (.ListComp elt [⟨tg,iter,ifs,0⟩] scope pos) scope X.env (firstIterPos [⟨tg,iter,ifs,0⟩] pos) (newList []) false (eval iter X.env) use) Qv X.xe s:=by
 refine wpAny_comprehension_free rfl hs (closureFor_eq (ok.cells I)) ok.kind ok.locs (thn (hi pins s σ H _ I h) fun v s1 h1=>thn h1 fun itv s2 h2=>?_)
 obtain⟨it,fp,tn,J,H2,e,I2,T,st2,f2,W,⟨m0,w0⟩,turn⟩:=h2
 subst e
 refine wpAny_newObj_type (newEnv_comp (fun h₁ hns₁ hsb₁ cok=>?_))
 dsimp only at hns₁ hsb₁ cok ⊢
 generalize hH2:s2.heap.push {cls:=.type "list", dict:=none,data:=.seq ([]:List Value).toArray}=HH at hns₁ hsb₁ cok ⊢
 have hCs:HH.objs.size=s2.heap.objs.size+1:=by rw[← hH2,Heap.size_push]
 have hDC:s2.heap.objs.size≠HH.objs.size:=by rw[hCs];exact Nat.ne_of_lt (Nat.lt_succ_self _)
 have hC:s2.heap.objs.size≤HH.objs.size:=by rw[hCs];exact Nat.le_succ _
 have old:∀b o,s2.heap.get? b=some o→h₁.get? b=some o:=fun b o e =>
  hsb₁ b o (hH2▸Heap.get?_push_of_some _ e)
 have hoD:h₁.get? s2.heap.objs.size=some {cls:=.type "list", data:=.seq ([]:List Value).toArray}:=hsb₁ _ _ (hH2▸Heap.get?_push_size _ rfl)
 have fo:∀b∈fp,∃o,s2.heap.get? b=some o∧∀v,o.data≠.cell v:=T.obj _ _ st2
 have I4:=Inv.block (own:=own) (t:=s2.toks) ok I2 f2 fo rfl hC hDC old hns₁ hoD (fun v z=>by cases z) cok
 have st4:tn 0 h₁:=T.keep _ _ _ st2 fun b _ o e=>old b o e
 have hDfp:∀b∈fp,b≠s2.heap.objs.size:=fun b hb=>by obtain⟨o,ho,_⟩:=fo b hb;exact Nat.ne_of_lt (Heap.lt_size ho)
 have hCfp:∀b∈fp,b≠HH.objs.size:=fun b hb=>by obtain⟨o,ho,_⟩:=fo b hb;exact Nat.ne_of_lt (Nat.lt_of_lt_of_le (Heap.lt_size ho) hC)
 have pnD:∀p∈X.pn++pins,p.1≠s2.heap.objs.size:=fun p hp=>Nat.ne_of_lt (Heap.lt_size (I2.pin p hp).1)
 have pnC:∀p∈X.pn++pins,p.1≠HH.objs.size:=fun p hp=>Nat.ne_of_lt (Nat.lt_of_lt_of_le (Heap.lt_size (I2.pin p hp).1) hC)
 have clX:∀x c,X.env.cells.lookup x=some c→c<s2.heap.objs.size:=fun x c e=>by obtain⟨v,o,ho,_⟩:=I2.cell x c e;exact Heap.lt_size ho
 have cl:∀x c,(allC scope X.env HH.objs.size).lookup x=some c→X.env.cells.lookup x=some c∨HH.objs.size<c:=fun x c e=>by
  rcases lookup_app e with e|⟨_,e⟩
  ·exact .inr (cok.empty x c (PySem.mem_of_lookup e)).2
  ·exact .inl (closOf_mem (ok.cells I) (x,c) (PySem.mem_of_lookup e)).1
 have YA:(cxC X pins scope own caps HH.objs.size fp s2 H2).env=compEnvC scope (allC scope X.env HH.objs.size) HH.objs.size X.env:=rfl
 have stat:∀{H':Hp}{oD:Obj},(∀b∈fp,H' b=none)→∀b∈fp,FpOk (cxC X pins scope own caps HH.objs.size fp s2 H2) [(s2.heap.objs.size,oD)] H' b:=fun {H' oD} hn b hb=>by
  refine⟨hn b hb,hCfp b hb,?_,.inl hb,fun x c e=>?_,fun p hp=>?_⟩
  ·intro z
   rcases List.mem_cons.mp (I2.stkSub b z) with e|e
   ·exact(f2 b hb).2.1 e
   ·exact(f2 b hb).2.2.1 e
  ·rcases cl x c e with e|e
   ·exact(f2 b hb).2.2.2.2.1 x c e
   ·obtain⟨o,ho,_⟩:=fo b hb
    exact Nat.ne_of_gt (Nat.lt_trans (Nat.lt_of_lt_of_le (Heap.lt_size ho) hC) e)
  ·rcases List.mem_append.mp hp with hp|hp
   ·exact(f2 b hb).2.2.2.2.2 p hp
   ·have e:p=(s2.heap.objs.size,oD):=by simpa using hp
    subst e
    exact(hDfp b hb).symm
 have loop:∀s₃:Shared,s₃={s2 with heap:=h₁} →
   codeAny (model X.prog X.w) X.A (.compLoop (.ListComp elt [⟨tg,iter,ifs,0⟩] scope pos) 0 (.ref it) (.ref s2.heap.objs.size) (compEnvC scope (allC scope X.env HH.objs.size) HH.objs.size X.env)) (compPost (model X.prog X.w) X.A X.xe use Qv (.ref s2.heap.objs.size) HH.objs.size) s₃:=by
  rintro s₃ rfl
  refine compLoop_any (fun n s'=>∃i ys its c H',Inv (cxC X pins scope own caps HH.objs.size fp s2 H2) [(s2.heap.objs.size,{cls:=.type "list", data:=.seq its.toArray c})] (capS own caps σ) H' s'∧Vals ys its∧tn i s'.heap∧(∀b∈fp,H' b=none)∧W i n ys H') ?_ m0
   ⟨0,[],[],0,H2,I4,.nil,st4,fun b hb=>(f2 b hb).1,w0⟩
  rintro n s' ⟨i,ys,its,c,H',I',rv,st',fr',w'⟩
  obtain⟨hz,hcase⟩:=turn i n ys H' w'
  rcases hcase with⟨stop,qF⟩|⟨go,hlt,N,hN,step⟩
  ·refine thn (T.done (cxC X pins scope own caps HH.objs.size fp s2 H2) rfl rfl rfl hc i _ s' _ H' _ I' (stat fr') st' stop) fun r s1 hq28=>?_
   obtain⟨hr,I1⟩:=hq28
   subst hr
   obtain⟨m1,hn1,_⟩:=I1.loc
   obtain⟨pD,nD,_⟩:=I1.pin _ (List.mem_append_right _ (List.mem_singleton.mpr rfl))
   have J1:Inv X pins σ H' s1:=I2.call' I1.os I1.base I1.hok I1.bare fun b hb=>⟨(f2 b hb).2.2.2.1,(f2 b hb).2.1,(f2 b hb).2.2.2.2.1,(f2 b hb).2.2.2.2.2⟩
   have J2:Inv X pins σ (upd H' s2.heap.objs.size (.lst ys)) s1:=J1.track nD (.inr I2.sz) (Nat.ne_of_gt I2.lt) (fun x c e=>Nat.ne_of_lt (clX x c e)) pnD ⟨hz,its,c,rv,pD⟩
   exact fin _ _ ys H' s1 m1 J2 nD qF hn1 I1.free hDC.symm (Nat.ne_of_gt (Nat.lt_of_lt_of_le I2.lt hC)) (I2.nofs hC) (Nat.le_trans I2.sz hC) (fun x c e=>Nat.ne_of_lt (Nat.lt_of_lt_of_le (clX x c e) hC)) pnC
  ·refine thn (T.item (cxC X pins scope own caps HH.objs.size fp s2 H2) rfl rfl rfl hc i _ s' _ H' _ I' (stat fr') st' go) fun r s1 hq29=>?_
   obtain⟨u,hr,h1⟩:=hq29
   subst hr
   refine thn h1 fun _ s2' hq30=>?_
   obtain⟨x,H5,I5,r5,y5,st5,fr5⟩:=hq30
   have I5':=I5.pinned (stat fr5) (T.obj _ _ st5)
   refine thn (CI.tgt pins _ _ _ _ _ s2' _ H5 x u _ I5' r5 (step x H5 y5)) fun _ s6 hq31=>?_
   obtain⟨σ6,H6,I6,kp6,q6⟩:=hq31
   refine thn (CI.tst pins _ _ _ _ _ s6 σ6 H6 _ I6 q6) fun b s7 hq32=>?_
   obtain⟨H7,I7,q7⟩:=hq32
   have again:∀{H8:Hp}{s8:Shared}{ys':List V}{its':List Value}{c':Nat},Inv (cxC X pins scope own caps HH.objs.size fp s2 H2) ([(s2.heap.objs.size,{cls:=.type "list", data:=.seq its'.toArray c'})]++pinsAt fp s2'.heap) σ6 H8 s8→Vals ys' its'→N ys' H8 →
     ∃m,m<n∧∃i ys its c H',Inv (cxC X pins scope own caps HH.objs.size fp s2 H2) [(s2.heap.objs.size,{cls:=.type "list", data:=.seq its.toArray c})] (capS own caps σ) H' s8∧Vals ys its∧tn i s8.heap∧(∀b∈fp,H' b=none)∧W i m ys H':=by
    intro H8 s8 ys' its' c' I8 rv' n8
    obtain⟨m',hm,w8⟩:=hN ys' H8 n8
    refine⟨m',hm,i+1,ys',its',c',H8,I8.unpinned.weak kp6.1.symm kp6.2,rv',T.keep _ _ _ st5 fun b hb o e=>(I8.pin (b,o) (List.mem_append_right _ (List.mem_append_right _ (mem_pinsAt hb e)))).1,fun b hb=>?_,w8⟩
    obtain⟨o,e,d⟩:=T.obj _ _ st5 b hb
    exact(I8.pin (b,o) (List.mem_append_right _ (List.mem_append_right _ (mem_pinsAt hb e)))).2.1
   cases b with
   | false=>exact again I7 rv q7
   | true =>
    refine thn (CI.elm pins _ _ _ _ _ s7 σ6 H7 _ I7 q7) fun yv s8 hq33=>?_
    obtain⟨y,H8,I8,r8,q8⟩:=hq33
    obtain⟨pD,nD,ncD,nfD,_⟩:=I8.pin (s2.heap.objs.size,{cls:=.type "list", data:=.seq its.toArray c}) (List.mem_append_right _ (List.mem_append_left _ (List.mem_singleton.mpr rfl)))
    have hlen:=rv.length
    refine call_meets PySem.F.slot_list_append ⟨_,pD,rfl⟩ PySem.F.entry_list_append (PySem.F.args_list_append_2 _ _) (PySem.list_append s2.heap.objs.size its.toArray c yv (by rw[List.size_toArray];omega)) ⟨pD,?_⟩
    have ef:its.toArray.push yv=(its++[yv]).toArray:=by simp
    obtain⟨c',q⟩:∃c',(s8.heap.update s2.heap.objs.size (Obj.mapSeq fun xs=>xs.push yv)).get? s2.heap.objs.size=some {cls:=.type "list", data:=.seq (its++[yv]).toArray c'}:=⟨_,by rw[← ef];exact PySem.IsL.update pD (fun xs=>xs.push yv)⟩
    have keepB:∀b o,b≠s2.heap.objs.size→s8.heap.get? b=some o→(s8.heap.update s2.heap.objs.size (Obj.mapSeq fun xs=>xs.push yv)).get? b=some o:=fun b o hb e=>(Heap.get?_update_other s8.heap _ (Ne.symm hb)).trans e
    have I9:Inv (cxC X pins scope own caps HH.objs.size fp s2 H2) (pinsAt fp s2'.heap) σ6 H8 s8:=I8.pins_of fun p hp=>I8.pin p (List.mem_append_right _ (List.mem_append_right _ hp))
    have I10:Inv (cxC X pins scope own caps HH.objs.size fp s2 H2) (pinsAt fp s2'.heap) σ6 H8 {s8 with heap:=s8.heap.update s2.heap.objs.size (Obj.mapSeq fun xs=>xs.push yv)}:=by
     refine I9.turned (t':=s8.toks) (it:=s2.heap.objs.size) keepB nD ncD (.inr (Nat.le_refl _)) (fun x c e=>(cl x c e).elim (fun e=>Nat.ne_of_lt (clX x c e)) fun e=>Nat.ne_of_gt (Nat.lt_of_le_of_lt hC e)) fun p hp=>?_
     rcases List.mem_append.mp hp with hp|hp
     ·exact pnD p hp
     ·exact hDfp _ (of_pinsAt hp).1
    refine again (its':=its++[yv]) (c':=c') (I10.pins_of fun p hp=>?_) (rv.append (.cons r8 .nil)) q8
    rcases List.mem_append.mp hp with hp|hp
    ·have e:=List.mem_singleton.mp hp
     subst e
     exact⟨q,nD,ncD,nfD,fun v z=>by cases z⟩
    ·exact I10.pin p (List.mem_append_right _ hp)
 exact codeAny_compStart_list (loop _ rfl) (T.self _ 0 _ _ _ st4 (loop _ rfl))
theorem pe_comp (ok:CompOk X scope caps)(hc:X.calm=true)(hi:PI X tg iter wi)(CI:CompIn X scope own caps tg ifs elt g tt te)(hs:∀x,foldedSetIterable iter X.env x=pure x:=by intro _;rfl) :
  PE X (.ListComp elt [⟨tg,iter,ifs,0⟩] scope pos) (tComp wi g tt te own caps):=by
 intro pins s σ H Q I h
 rw[eval_ListComp]
 refine comp_core (use:=none) ok hc hi CI I h (fun D C ys H' s1 m I1 nD q hn nC hCD hCL hCf hC0 hCc hCp=>?_) hs
 refine⟨m,hn,fun h' hsb=>?_⟩
 have I2:Inv X pins σ (upd H' D (.lst ys)) {s1 with heap:=h'}:=I1.turned (t':=s1.toks) (it:=C) (fun b o hb e=>hsb.extBut b o hb e) (by rw[zN hCD];exact nC) hCL (.inr hC0) hCc hCp
 exact⟨.ref D,_,I2,rfl,q D nD⟩
def sComp (j:Nat)(wi:TI)(g:TG)(tt:TT)(te:TE)(own:List Str)(caps:List Nat):TS:=fun E σ H=>wi σ H fun J H1=>tTurns g tt te (capS own caps σ) (fun ys H'=>∀D,H' D=none→E.nx (σ.set j (some (.ref D))) (upd H' D (.lst ys))) J H1
theorem ps_comp {j:Nat}{y:Str}{py spos:Pos}(hN:X.N.Nodup)(hj:X.N[j]? = some y)(hy:X.env.scope.names.lookup y=some .local)(ok:CompOk X scope caps)(hc:X.calm=true)(hi:PI X tg iter wi)(CI:CompIn X scope own caps tg ifs elt g tt te)
  (hsw:swapsWith (.ListComp elt [⟨tg,iter,ifs,0⟩] scope pos) (some (.Name y py)) spos.line X.env=pure true) (hs:∀x,foldedSetIterable iter X.env x=pure x:=by intro _;rfl) :
  PS X (.Assign [.Name y py] (.ListComp elt [⟨tg,iter,ifs,0⟩] scope pos) spos) (sComp j wi g tt te own caps):=by
 intro pins s σ H E I h
 rw[exec_Assign_Name_used _ _ _ _ hsw]
 refine wpAny_bind (wpAny_standAt (wpAny_bind ?_))
 show wpAny _ X.A (do let _ ← comprehension (.ListComp elt [⟨tg,iter,ifs,0⟩] scope pos) scope X.env _ (newList []) false (eval iter X.env) (some (assign (.Name y py) X.env))) _ _ s
 refine wpAny_bind (wpAny_mono (comp_core (use:=some (assign (.Name y py) X.env)) (Qv:=fun _ s'=>SP X pins E .next s') ok hc hi CI I h (fun D C ys H' s1 m I1 nD q hn nC hCD hCL hCf hC0 hCc hCp=>?_) hs) (fun _ s' hq=>wpAny_pure (wpAny_pure hq)) fun _ _ e=>e)
 obtain⟨oC,es,ep,eC,dC,rC⟩:=id hn
 have I2:Inv X (pins++[(C,oC)]) σ (upd H' D (.lst ys)) s1:=I1.pins_of fun p hp=>by
  rcases List.mem_append.mp hp with hp|hp
  ·exact I1.pin p (List.mem_append_right _ hp)
  ·have e:=List.mem_singleton.mp hp
   subst e
   exact⟨eC,by rw[zN hCD];exact nC,hCL,hCf,fun v z=>by rw[dC] at z;cases z⟩
 show wpAny _ X.A (assign (.Name y py) X.env (.ref D)) _ _ s1
 refine wpAny_assign_Name (store_ok (v:=.ref D) I2 hN hj (.inl hy) rfl (fun s2 I3=>?_) (.inr hy))
 obtain⟨e3,n3,_⟩:=I3.pin (C,oC) (List.mem_append_right _ (List.mem_append_right _ (List.mem_singleton.mpr rfl)))
 have I4:Inv X pins (σ.set j (some (.ref D))) (upd H' D (.lst ys)) s2:=I3.pins_of fun p hp=>I3.pin p (List.mem_append_right _ (List.mem_append_left _ hp))
 refine⟨m,⟨oC,es,ep,e3,dC,rC⟩,fun h' hsb=>?_⟩
 have I5:Inv X pins (σ.set j (some (.ref D))) (upd H' D (.lst ys)) {s2 with heap:=h'}:=I4.turned (t':=s2.toks) (it:=C) (fun b o hb e=>hsb.extBut b o hb e) n3 hCL (.inr hC0) hCc hCp
 exact⟨_,_,I5,q D nD⟩
end
end L2
namespace L2
open PySem PySem.Spec PyProof.Rows
def T (l:List Nat):Str:=⟨l.toArray⟩
theorem T_cps (l:List Nat):(T l).cps.toList=l:=by simp[T]
theorem T_of (x:Str):T x.cps.toList=x:=by cases x;simp[T]
theorem T_len (l:List Nat):(T l).length=l.length:=by simp[T,Str.length]
theorem T_app (l m:List Nat):T l++T m=T (l++m):=by
 show Str.append (T l) (T m)=_
 simp[Str.append,T]
theorem T_inj {l m:List Nat}(h:T l=T m):l=m:=by
 have:=congrArg (fun x:Str=>x.cps.toList) h
 simpa [T] using this
theorem T_beq (l m:List Nat):(T l == T m)=(l == m):=by
 rw[Bool.eq_iff_iff]
 simp only[beq_iff_eq]
 exact⟨T_inj,congrArg T⟩
theorem T_ok {l:List Nat}(h:∀c∈l,c<0x110000)(hl:l.length≤1000000):TxtOk (T l):=by
 refine⟨?_,by rw[T_len];exact hl⟩
 show(T l).cps.all (· < 0x110000)=true
 simp only[T,List.all_toArray,List.all_eq_true,decide_eq_true_eq]
 exact h
theorem TxtOk.app {x y:Str}(hx:TxtOk x)(hy:TxtOk y)(hl:x.length+y.length≤1000000):TxtOk (x++y):=by
 obtain⟨a,_⟩:=hx
 obtain⟨b,_⟩:=hy
 refine⟨?_,?_⟩
 ·have a':x.cps.all (· < 0x110000)=true:=a
  have b':y.cps.all (· < 0x110000)=true:=b
  show(x.cps++y.cps).all (· < 0x110000)=true
  rw[Array.all_append,a',b'];rfl
 ·show(x.cps++y.cps).size≤1000000
  rw[Array.size_append];exact hl
theorem clip_nat (lo:Option Int)(n d:Nat)(hd:d≤n):(match lo with|none=>(d:Int)|some i=>max 0 (min (if i<0 then i+(n:Int) else i) (n:Int)))=((HT.sIx n d lo:Nat):Int):=by
 cases lo with
 | none=>rfl
 | some i =>
  show max 0 (min (if i<0 then i+(n:Int) else i) (n:Int))=(((if i<0 then(i+(n:Int)).toNat else min i.toNat n):Nat):Int)
  split <;>omega
theorem slice_T (x:Str)(lo hi:Option Int):Txt.slice x lo hi=T ((x.cps.toList.drop (HT.sIx x.length 0 lo)).take (HT.sIx x.length x.length hi - HT.sIx x.length 0 lo)):=by
 have ha:HT.sIx x.length 0 lo≤x.length:=HT.sIx_le _ _ (Nat.zero_le _) lo
 have hb:HT.sIx x.length x.length hi≤x.length:=HT.sIx_le _ _ (Nat.le_refl _) hi
 have e:Builtin.Str.strSliceIndices lo hi 1 x.length=Builtin.Str.strSliceIndices (some ((HT.sIx x.length 0 lo:Nat):Int)) (some ((HT.sIx x.length x.length hi:Nat):Int)) 1 x.length:=by
  have h1:=clip_nat lo x.length 0 (Nat.zero_le _)
  have h2:=clip_nat hi x.length x.length (Nat.le_refl _)
  generalize HT.sIx x.length 0 lo=a at *
  generalize HT.sIx x.length x.length hi=b at *
  have k1:max 0 (min (if (a:Int)<0 then(a:Int)+(x.length:Int) else(a:Int)) (x.length:Int))=(a:Int):=by split <;>omega
  have k2:max 0 (min (if (b:Int)<0 then(b:Int)+(x.length:Int) else(b:Int)) (x.length:Int))=(b:Int):=by split <;>omega
  unfold Builtin.Str.strSliceIndices
  simp only[show(1:Int) > 0 by decide,if_true,k1,k2]
  cases lo <;>cases hi <;>simp only at h1 h2 ⊢ <;>first|rw[h1,h2] | (rw[← h1,← h2];rfl)
 have e2:Txt.slice x lo hi=StrLaws.sliceText x (some ((HT.sIx x.length 0 lo:Nat):Int)) (some ((HT.sIx x.length x.length hi:Nat):Int)):=by
  unfold Txt.slice StrLaws.sliceText
  rw[e]
 rw[e2]
 by_cases hab:HT.sIx x.length 0 lo≤HT.sIx x.length x.length hi
 ·exact StrLaws.sliceText_nat x hab hb
 ·have hz:HT.sIx x.length x.length hi - HT.sIx x.length 0 lo=0:=by omega
  rw[hz,List.take_zero]
  generalize HT.sIx x.length 0 lo=a at *
  generalize HT.sIx x.length x.length hi=b at *
  have k1:max 0 (min (if (a:Int)<0 then(a:Int)+(x.length:Int) else(a:Int)) (x.length:Int))=(a:Int):=by split <;>omega
  have k2:max 0 (min (if (b:Int)<0 then(b:Int)+(x.length:Int) else(b:Int)) (x.length:Int))=(b:Int):=by split <;>omega
  have e3:Builtin.Str.strSliceIndices (some (a:Int)) (some (b:Int)) 1 x.length=[]:=by
   unfold Builtin.Str.strSliceIndices sliceRange
   simp only[show(1:Int) > 0 by decide,if_true,k1,k2]
   have:¬((b:Int) > (a:Int)):=by omega
   simp[this]
   try omega
  unfold StrLaws.sliceText
  rw[e3]
  simp only[List.length_nil,List.filterMap_nil]
  split
  ·rename_i h
   have hn:x.length=0:=by
    simp at h
    omega
   omega
  ·rfl
section
variable {X:Cx}{e:Expr}{te:TE}{pos p2:Pos}
def rSlS:V→Option Int→Option Int→Hp→VK→Prop:=fun x lo hi H Q=>∃z,x=.str z∧z.length≤sizeLine∧Q (.str (T ((z.cps.toList.drop (HT.sIx z.length 0 lo)).take (HT.sIx z.length z.length hi - HT.sIx z.length 0 lo)))) H
theorem part_of {v:Value}{o:Option Int}(p:IsPart v o):∃q:Option (Int×Tok),v=partValue q∧q.map (·.1)=o:=by
 cases p with
 | none=>exact⟨none,rfl,rfl⟩
 | int i t=>exact⟨some (i,t),rfl,rfl⟩
theorem sl_str:SlR X rSlS:=by
 intro pins s σ H x v vl vu lo hi sl Q I rx hs pl pu h
 obtain⟨z,rfl,hz,q⟩:=h
 obtain⟨t,rfl⟩:=rx
 obtain⟨l,rfl,rfl⟩:=part_of pl
 obtain⟨u,rfl,rfl⟩:=part_of pu
 refine⟨"str", _,PySem.F.slot_str_getitem.lookup,typeIs_str _ _ _,?_⟩
 refine wpAny_getItem_str_slice (l:=l) (u:=u) (st:=none) hs rfl ?_
 refine post_val_or_str (y:=z) ?_
 have e:=slice_T z (l.map (·.1)) (u.map (·.1))
 unfold Txt.slice at e
 refine⟨Nat.le_trans (Txt.slice_le z (l.map (·.1)) (u.map (·.1))) hz,fun t' k=>⟨.str _,H,I.tok _,⟨t',?_⟩,q⟩⟩
 exact congrArg (fun y=>Value.str y t') e
def Its (x:Str):It:=⟨fun i _=>i<x.cps.size,fun i H v H'=>H'=H∧∃c,x.cps.toList[i]? = some c∧v=.str (T [c]),fun i _=>x.cps.size≤i⟩
theorem turn_str {P:Program}{w:World}{K:PySem.W.Frag}{tg:Expr}{x:Str}{t:Tok}{ty:String}(it:Addr)(W:∀A':Around,A'.handled=none→Walks P w A' it [it] [it] x.cps.size (SignAt x) (fun i h=>h.IsStrIter it ty x t i))
  (hn:["enumerate", "zip", "dict_itemiterator", "dict_reverseitemiterator", "odict_iterator", "itertools.zip_longest", "itertools.pairwise"].contains ty=false)
  (hend:∀(A:Around) (i:Nat) (s:Shared) (Q:Option Value→Shared→Prop) (E:Value→Shared→Prop),A.handled=none→s.heap.IsStrIter it ty x t i→x.cps[i]? = none→(∀h',Heap.ExtBut it s.heap h'→Q none {s with heap:=h'})→wpAny (model P w) A (pyNext (.ref it)) Q E s)
  (hself:∀(A:Around) (i:Nat) (s:Shared) (Q:Value→Shared→Prop) (E:Value→Shared→Prop),s.heap.IsStrIter it ty x t i→Q (.ref it) s→wpAny (model P w) A (pyIter (.ref it)) Q E s) :
  Turn P w K tg (Its x) [it] it (fun i h=>h.IsStrIter it ty x t i) where
 mem:=by simp
 obj:=fun i h st b hb=>by
  have e:b=it:=by simpa using hb
  subst e
  obtain⟨o,e,c,d⟩:=st
  exact⟨o,e,fun v z=>by rw[d] at z;cases z⟩
 keep:=fun i h h' st k=>by obtain⟨o,e,r⟩:=st;exact⟨o,k it (by simp) o e,r⟩
 item:=by
  intro X hP hw hK hc i pins s σ H E I hf st hg
  subst hP hw hK
  obtain⟨f0,f1,f2,f3,f4,f5⟩:=hf it (by simp)
  refine(W X.A (I.ok.hd hc)).item i s _ _ hg st fun v h' tk hv st' kk=>?_
  obtain⟨c,u,hcc,rfl⟩:=hv
  have I1:Inv X pins σ H {s with heap:=h',toks:=tk}:=I.turned (fun b o hb e=>kk b o (by simpa using hb) e) f0 f1 f3 f4 f5
  obtain⟨o,e,c1,d1⟩:=id st'
  exact⟨_,rfl,go_of (s:={s with heap:=h',toks:=tk}) e c1 d1 hn ⟨.str (T [c]),H,I1,⟨u,rfl⟩,⟨rfl,c,by simpa using hcc,rfl⟩,st',fun b hb=>(hf b hb).1⟩⟩
 done:=by
  intro X hP hw hK hc i pins s σ H E I hf st hg
  subst hP hw hK
  obtain⟨f0,f1,f2,f3,f4,f5⟩:=hf it (by simp)
  have hge:x.cps.size≤i:=hg
  exact hend X.A i s _ _ (I.ok.hd hc) st (Array.getElem?_eq_none hge) fun h' eb=>⟨rfl,I.turned (t':=s.toks) (fun b o hb e=>eb b o hb e) f0 f1 f3 f4 f5⟩
 self:=fun A i s Q E st h=>hself A i s Q E st h
def iStr (tl:TE):TI:=fun σ H R=>tl σ H fun v H1=>∃x,v=.str x∧R (Its x) H1
theorem pi_str {tg l:Expr}{tl:TE}(hl:PE X l tl):PI X tg l (iStr tl):=by
 intro pins s σ H R I h
 refine thn (hl pins s σ H _ I h) fun v s1 hq34=>?_
 obtain⟨y,H1,I1,r1,q1⟩:=hq34
 obtain⟨x,e,q⟩:=q1
 subst e
 obtain⟨t,rfl⟩:=r1
 have fin:∀(ty:String) (T':Turn X.prog X.w X.K tg (Its x) [s1.heap.objs.size] s1.heap.objs.size (fun i h=>h.IsStrIter s1.heap.objs.size ty x t i)),
   PIE X pins σ tg R (.ref s1.heap.objs.size) {s1 with heap:=s1.heap.push {cls:=.type ty,data:=.fields #[.str x t,.int 0 0]} }:=fun ty T' =>
  ⟨s1.heap.objs.size,[s1.heap.objs.size],_,_,H1,rfl,I1.kept (t':=s1.toks) fun b o e=>Heap.get?_push_of_some _ e,T',⟨_,Heap.get?_push_size _ rfl,rfl,rfl⟩,fun b hb=>by
   have e:b=s1.heap.objs.size:=by simpa using hb
   subst e
   exact I1.fpOk (Nat.le_refl _) (I1.hok.fresh (Nat.le_refl _)),q⟩
 cases ha:x.cps.all (· < 128)
 ·exact wpAny_pyIter_wide ha (fin _ (turn_str _ (fun A' hA=>Walks.strWide hA _ x t) (by decide) (fun A i s Q E hh st hx hQ=>wpAny_pyNext_wide_end hh st hx hQ) fun A i s Q E st hq=>wpAny_pyIter_striter_wide st hq))
 ·exact wpAny_pyIter_ascii ha (fin _ (turn_str _ (fun A' hA=>Walks.strAscii hA _ x t) (by decide) (fun A i s Q E hh st hx hQ=>wpAny_pyNext_ascii_end hh st hx hQ) fun A i s Q E st hq=>wpAny_pyIter_striter_ascii st hq))
end
def Wlk (J:It)(G:Hp→Prop)(xs:List V):Prop:=∀H,G H→(∀i,i<xs.length→J.go i H∧∀x H',J.yld i H x H'→H'=H∧xs[i]? = some x)∧J.stop xs.length H
theorem wlk_list {K:PySem.W.Frag}{a:Addr}{xs:List V}:Wlk (Itl K a) (fun H=>SqL K H a xs) xs:=fun H q =>
 ⟨fun i hi=>⟨⟨xs,xs[i],q,by simp[hi]⟩,fun x H' y=>⟨y.1,y.2 xs q⟩⟩,⟨xs,q,Nat.le_refl _⟩⟩
theorem wlk_tup {K:PySem.W.Frag}{a:Addr}{xs:List V}:Wlk (Itt K a) (fun H=>SqT K H a xs) xs:=fun H q =>
 ⟨fun i hi=>⟨⟨xs,xs[i],q,by simp[hi]⟩,fun x H' y=>⟨y.1,y.2 xs q⟩⟩,⟨xs,q,Nat.le_refl _⟩⟩
theorem wlk_range {lo:Int}{n:Nat}{G:Hp→Prop}:Wlk (Itr lo n) G ((List.range n).map fun(k:Nat)=>V.int (lo+(k:Int))):=fun H _=>by
 refine⟨fun i hi=>⟨by show i<n;simpa using hi,fun x H' y=>⟨y.1,?_⟩⟩,?_⟩
 ·have hi':i<n:=by simpa using hi
  rw[y.2];simp[hi']
 ·show n≤_;simp
theorem wlk_str {x:Str}{G:Hp→Prop}:Wlk (Its x) G (x.cps.toList.map fun c=>V.str (T [c])):=fun H _=>by
 refine⟨fun i hi=>⟨by show i<x.cps.size;simpa using hi,fun v H' y=>⟨y.1,?_⟩⟩,?_⟩
 ·obtain⟨_,c,hc,rfl⟩:=y
  rw[List.getElem?_map,hc];rfl
 ·show x.cps.size≤_;simp
theorem for_wlk {J:It}{G:Hp→Prop}{xs:List V}(W:Wlk J G xs){g:TG}{tb:TS}{D:Ends}{σ:St}{H:Hp}(Pv:Nat→St→Hp→Prop)(h0:Pv 0 σ H)(hG:∀i σ H,i≤xs.length→Pv i σ H→G H)
  (hs:∀i x σ H,xs[i]? = some x→Pv i σ H→g x σ H fun σ2 H2=>tb {D with nx:=Pv (i+1),ct:=Pv (i+1),bk:=D.nx} σ2 H2) (hd:∀σ H,Pv xs.length σ H→D.nx σ H) :
  ∃ W:Nat→Nat→St→Hp→Prop,(∃m,W 0 m σ H)∧∀i m σ H,W i m σ H →
   (J.stop i H∧D.nx σ H)∨(J.go i H∧∃N:St→Hp→Prop,(∀σ' H',N σ' H'→∃m',m'<m∧W (i+1) m' σ' H')∧∀x H',J.yld i H x H'→g x σ H' fun σ2 H2=>tb {D with nx:=N,ct:=N,bk:=D.nx} σ2 H2):=by
 refine⟨fun i m σ H=>m=xs.length - i∧i≤xs.length∧Pv i σ H,⟨xs.length,by simp,Nat.zero_le _,h0⟩,?_⟩
 rintro i m σ H ⟨rfl,hi,p⟩
 obtain⟨w1,w2⟩:=W H (hG i σ H hi p)
 by_cases hlt:i<xs.length
 ·obtain⟨g1,g2⟩:=w1 i hlt
  refine .inr ⟨g1,Pv (i+1),fun σ' H' p'=>⟨xs.length - (i+1),by omega,rfl,hlt,p'⟩,fun x H' y=>?_⟩
  obtain⟨e,hx⟩:=g2 x H' y
  subst e
  exact hs i x σ _ hx p
 ·have e:i=xs.length:=by omega
  subst e
  exact .inl ⟨w2,hd σ H p⟩
theorem turns_wlk {J:It}{G:Hp→Prop}{xs:List V}(W:Wlk J G xs)(hz:xs.length≤sizeLine){g:TG}{tt:TT}{te:TE}{σ0:St}{F:List V→Hp→Prop}{H1:Hp}(Pv:Nat→List V→Hp→Prop)(h0:Pv 0 [] H1)(hG:∀i ys H,i≤xs.length→Pv i ys H→G H∧ys.length≤i)
  (hs:∀i x ys H,xs[i]? = some x→Pv i ys H→g x σ0 H fun σ2 H2=>Kps σ0 σ2∧tt σ2 H2 fun b H3=>if b=true then te σ2 H3 fun y H4=>Pv (i+1) (ys++[y]) H4 else Pv (i+1) ys H3) (hd:∀ys H,Pv xs.length ys H→F ys H) :
  tTurns g tt te σ0 F J H1:=by
 refine⟨fun i m ys H=>m=xs.length - i∧i≤xs.length∧Pv i ys H,⟨xs.length,by simp,Nat.zero_le _,h0⟩,?_⟩
 rintro i m ys H ⟨rfl,hi,p⟩
 obtain⟨gH,hl⟩:=hG i ys H hi p
 refine⟨by omega,?_⟩
 obtain⟨w1,w2⟩:=W H gH
 by_cases hlt:i<xs.length
 ·obtain⟨g1,g2⟩:=w1 i hlt
  refine .inr ⟨g1,by omega,Pv (i+1),fun ys' H' p'=>⟨xs.length - (i+1),by omega,rfl,hlt,p'⟩,fun x H' y=>?_⟩
  obtain⟨e,hx⟩:=g2 x H' y
  subst e
  exact hs i x ys _ hx p
 ·have e:i=xs.length:=by omega
  subst e
  exact .inl ⟨w2,hd ys H p⟩
theorem Kps.set {σ:St}{i:Nat}{v:V}(h:σ[i]? = some none):Kps σ (σ.set i (some v)):=by
 refine⟨by simp,fun j u e=>?_⟩
 by_cases hj:i=j
 ·subst hj;rw[h] at e;cases e
 ·rw[List.getElem?_set_ne hj];exact e
theorem Kps.trans {a b c:St}(h:Kps a b)(k:Kps b c):Kps a c:=⟨k.1.trans h.1,fun i v e=>k.2 i v (h.2 i v e)⟩
def Gat (K:PySem.W.Frag)(H1:Hp)(e:Nat→PyData)(i:Nat)(ys:List V)(H:Hp):Prop:=Same H1 H∧Iss K H ys ((List.range i).map e)
theorem Gat.snoc {K:PySem.W.Frag}{H1 H H4:Hp}{e:Nat→PyData}{i:Nat}{ys:List V}{y:V}(h:Gat K H1 e i ys H)(sm:Same H H4)(is:Is K H4 y (e i)):Gat K H1 e (i+1) (ys++[y]) H4:=by
 refine⟨h.1.trans sm,?_⟩
 rw[List.range_succ,List.map_append]
 exact(h.2.mono sm).append (.cons is .nil)
def GatF (K:PySem.W.Frag)(H1:Hp)(p:Nat→Bool)(e:Nat→PyData)(i:Nat)(ys:List V)(H:Hp):Prop:=Same H1 H∧Iss K H ys (((List.range i).filter p).map e)
theorem GatF.snoc {K:PySem.W.Frag}{H1 H H4:Hp}{p:Nat→Bool}{e:Nat→PyData}{i:Nat}{ys:List V}{y:V}(h:GatF K H1 p e i ys H)(hp:p i=true)(sm:Same H H4)(is:Is K H4 y (e i)):GatF K H1 p e (i+1) (ys++[y]) H4:=by
 refine⟨h.1.trans sm,?_⟩
 rw[List.range_succ,List.filter_append,List.map_append]
 refine(h.2.mono sm).append ?_
 simp only[List.filter_cons,hp,if_true,List.filter_nil,List.map_cons,List.map_nil]
 exact .cons is .nil
end L2
namespace L2
open PySem PySem.Spec PyProof.Rows
section
variable {X:Cx}
theorem old_ne {s:Shared}{b:Addr}{o:Obj}(e:s.heap.get? b=some o):b∉[s.heap.objs.size]:=fun z=>by
 have e':b=s.heap.objs.size:=by simpa using z
 subst e'
 exact absurd (Heap.lt_size e) (Nat.lt_irrefl _)
theorem vals_bl:∀{bs:List Bool}{us:List Value},Vals (bs.map V.bl) us→us=bs.map Value.bool
 | [],_,r=>by cases r;rfl
 | b::bs,_,r=>by
  cases r with
  | cons r t=>cases r;rw[vals_bl t];rfl
theorem range_all {α:Type}(l:List α)(d:α)(p:α→Bool):(List.range l.length).all (fun i=>p (l.getD i d))=l.all p:=by
 have:(List.range l.length).map (fun i=>l.getD i d)=l:=range_getD l d
 conv=>rhs;rw[← this]
 rw[List.all_map];rfl
theorem range_any {α:Type}(l:List α)(d:α)(p:α→Bool):(List.range l.length).any (fun i=>p (l.getD i d))=l.any p:=by
 have:(List.range l.length).map (fun i=>l.getD i d)=l:=range_getD l d
 conv=>rhs;rw[← this]
 rw[List.any_map];rfl
theorem truth_bools {prog:Program}{w:World}{A:Around}(bs:List Bool):TruthOf prog w A (fun i v=>(bs.map Value.bool).toArray[i]? = some v) (fun i=>bs.getD i false):=by
 intro i v s Q E hP hQ
 have e:(bs.map Value.bool)[i]? = some v:=by simpa using hP
 rw[List.getElem?_map] at e
 cases hb:bs[i]? with
 | none=>rw[hb] at e;cases e
 | some b =>
  rw[hb] at e
  have e':v=Value.bool b:=(Option.some.inj e).symm
  subst e'
  have:bs.getD i false=b:=by rw[List.getD_eq_getElem?_getD,hb];rfl
  have hQ':Q (bs.getD i false) s:=hQ
  rw[this] at hQ'
  exact wpAny_truthy_bool hQ'
theorem call_all (hc:X.calm=true):CallR X (.builtin "all") (fun xs H Q=>∃(a:Addr) (bs:List Bool),xs=[.ref a]∧SqL X.K H a (bs.map V.bl)∧Q (.bl (bs.all id)) H):=by
 intro pins s σ H xs us Q I r h
 obtain⟨a,bs,rfl,ha,q⟩:=h
 obtain⟨u,rfl,ru⟩:=vals1 r
 cases ru
 obtain⟨its,rv,pl,hz⟩:=I.list ha
 obtain rfl:=vals_bl rv
 refine call_all_walk (wpAny_pyIter_list pl.isList ?_)
 have hlt:a<s.heap.objs.size:=by obtain⟨_,_,e,_⟩:=pl;exact Heap.lt_size e
 refine⟨_,_,_,_,_,_,fun i=>bs.getD i false,rfl,Walks.list (show X.A.in1.handled=none from I.ok.hd hc) s.heap.objs.size a (Nat.ne_of_lt hlt) _,⟨⟨_,Heap.get?_push_size _ rfl,rfl,rfl⟩,pl.isList.push _⟩,truth_bools bs,fun h' tk hk=>?_⟩
 refine⟨.bl _,H,I.kept (h':=h') (t':=tk) fun b o e=>hk b o (old_ne e) (Heap.get?_push_of_some _ e),rfl,?_⟩
 have:(List.range ((bs.map Value.bool).toArray).size).all (fun i=>bs.getD i false)=bs.all id:=by
  rw[show((bs.map Value.bool).toArray).size=bs.length by simp]
  exact range_all bs false id
 rw[this]
 exact q
theorem call_any (hc:X.calm=true):CallR X (.builtin "any") (fun xs H Q=>∃(a:Addr) (bs:List Bool),xs=[.ref a]∧SqL X.K H a (bs.map V.bl)∧Q (.bl (bs.any id)) H):=by
 intro pins s σ H xs us Q I r h
 obtain⟨a,bs,rfl,ha,q⟩:=h
 obtain⟨u,rfl,ru⟩:=vals1 r
 cases ru
 obtain⟨its,rv,pl,hz⟩:=I.list ha
 obtain rfl:=vals_bl rv
 refine call_any_walk (wpAny_pyIter_list pl.isList ?_)
 have hlt:a<s.heap.objs.size:=by obtain⟨_,_,e,_⟩:=pl;exact Heap.lt_size e
 refine⟨_,_,_,_,_,_,fun i=>bs.getD i false,rfl,Walks.list (show X.A.in1.handled=none from I.ok.hd hc) s.heap.objs.size a (Nat.ne_of_lt hlt) _,⟨⟨_,Heap.get?_push_size _ rfl,rfl,rfl⟩,pl.isList.push _⟩,truth_bools bs,fun h' tk hk=>?_⟩
 refine⟨.bl _,H,I.kept (h':=h') (t':=tk) fun b o e=>hk b o (old_ne e) (Heap.get?_push_of_some _ e),rfl,?_⟩
 have:(List.range ((bs.map Value.bool).toArray).size).any (fun i=>bs.getD i false)=bs.any id:=by
  rw[show((bs.map Value.bool).toArray).size=bs.length by simp]
  exact range_any bs false id
 rw[this]
 exact q
theorem vals_strs:∀{ss:List Str}{us:List Value},Vals (ss.map V.str) us→StrsAre us ss
 | [],_,r=>by cases r;exact .nil
 | x::ss,_,r=>by
  cases r with
  | cons r t=>obtain⟨u,rfl⟩:=r;exact .cons _ _ (vals_strs t)
theorem glued_T (ls:List (List Nat)):Txt.join (T []) (ls.map T)=T ls.flatten:=by
 have key:∀(ls:List (List Nat)) (acc:Array Nat),(ls.map T).foldl (fun acc p=>acc++(T []).cps++p.cps) acc=acc++ls.flatten.toArray:=by
  intro ls
  induction ls with
  | nil=>intro acc;simp
  | cons l r ih =>
   intro acc
   rw[List.map_cons,List.foldl_cons,ih]
   simp[T]
 show(⟨((ls.map T).drop 1).foldl (fun acc p=>acc++(T []).cps++p.cps) ((ls.map T).headD Str.empty).cps⟩:Str)=_
 cases ls with
 | nil=>rfl
 | cons l r =>
  simp only[List.map_cons,List.drop_succ_cons,List.drop_zero,List.headD_cons]
  rw[key]
  simp[T]
def rJoin (K:PySem.W.Frag):V→List V→Hp→VK→Prop:=fun x vs H Q=>∃(a:Addr) (ls:List (List Nat)),x=.str (T [])∧vs=[.ref a]∧SqL K H a (ls.map fun l=>V.str (T l))∧ls.flatten.length≤1000000∧Q (.str (T ls.flatten)) H
theorem mt_join:MtR X "str.join" (rJoin X.K):=by
 intro pins s σ H x xs v us Q I rx rs h
 obtain⟨a,ls,rfl,rfl,ha,hz,q⟩:=h
 obtain⟨t,rfl⟩:=rx
 obtain⟨u,rfl,ru⟩:=vals1 rs
 cases ru
 obtain⟨its,rv,pl,hsz⟩:=I.list ha
 have rv':Vals ((ls.map T).map V.str) its:=by rw[List.map_map];exact rv
 have hlen:((ls.map T).map (·.length)).sum=ls.flatten.length:=by
  rw[List.map_map,List.length_flatten]
  exact congrArg List.sum (List.map_congr_left fun l _=>T_len l)
 refine join_list pl.isList (by simpa using vals_strs rv') ?_ fun t' k=>?_
 ·rw[hlen,T_len]
  simp only[List.length_nil,Nat.mul_zero,Nat.add_zero]
  exact Nat.le_trans hz (by decide)
 ·rw[glued_T]
  exact⟨.str _,H,I.tok _,⟨_,rfl⟩,q⟩
theorem starts_T (l m:List Nat):Txt.startswith (T l) (T m)=m.isPrefixOf l:=by
 unfold Txt.startswith
 rw[StrLaws.subAt_eq,T_cps,T_cps,T_len,T_len,List.drop_zero,Nat.zero_add]
 rw[Bool.eq_iff_iff,Bool.and_eq_true]
 simp only[decide_eq_true_eq,beq_iff_eq]
 rw[List.isPrefixOf_iff_prefix]
 constructor
 ·rintro⟨h1,h2⟩
  rw[← h2];exact List.take_prefix _ _
 ·intro h
  exact⟨h.length_le,(List.prefix_iff_eq_take.mp h).symm⟩
def rStarts:V→List V→Hp→VK→Prop:=fun x vs H Q=>∃l m,x=.str (T l)∧vs=[.str (T m)]∧Q (.bl (m.isPrefixOf l)) H
theorem mt_starts:MtR X "str.startswith" rStarts:=by
 intro pins s σ H x xs v us Q I rx rs h
 obtain⟨l,m,rfl,rfl,q⟩:=h
 obtain⟨t,rfl⟩:=rx
 obtain⟨u,rfl,ru⟩:=vals1 rs
 obtain⟨t',rfl⟩:=ru
 refine SC.startswith ?_
 rw[starts_T]
 exact⟨.bl _,H,I,rfl,q⟩
def rInC:R2:=fun x y H Q=>∃c l,x=.str (T [c])∧y=.str (T l)∧Q (.bl (decide (c∈l))) H
theorem op_inC:OpR X (compareOp .In) rInC:=by
 intro pins s σ H x y v u Q I rx ry h
 obtain⟨c,l,rfl,rfl,q⟩:=h
 obtain⟨t,rfl⟩:=rx
 obtain⟨t',rfl⟩:=ry
 refine in_str (fin_bl I q ?_)
 have e:=StrLaws.found_one (T l) c
 rw[T_cps] at e
 exact e.symm
theorem op_addS:OpR X (binaryOp .Add) (fun x y H Q=>∃l m,x=.str (T l)∧y=.str (T m)∧l.length+m.length≤1000000∧Q (.str (T (l++m))) H):=by
 intro pins s σ H x y v u Q I rx ry h
 obtain⟨l,m,rfl,rfl,hz,q⟩:=h
 refine op_add_str pins s σ H _ _ v u Q I rx ry ⟨_,_,rfl,rfl,?_,?_⟩
 ·rw[T_len,T_len]
  first|omega|exact Nat.le_trans hz (by decide)
 ·rw[T_app];exact q
def Sm (i:Int):Prop:=i.natAbs<2 ^ 4000
theorem Sm.log {i:Int}(h:Sm i):i.natAbs.log2<4000:=by
 by_cases h0:i.natAbs=0
 ·rw[h0];decide +kernel
 ·exact(Nat.log2_lt h0).mpr h
theorem op_mulS:OpR X (binaryOp .Mult) (rI (fun i j=>Sm i∧Sm j) fun i j=>.int (i*j)):=opI fun i j _ _ _ _ _ hc q=>mul_int q (by
 obtain⟨h1,h2⟩:=hc
 have a:=h1.log
 have b:=h2.log
 unfold IntMulOk
 intro z
 rw[Bool.and_eq_true] at z
 have z2:Builtin.Int.intTooBig ((Builtin.Int.intBits i:Int)+(Builtin.Int.intBits j:Int))=true:=by first|exact z.2|exact_mod_cast z.2
 unfold Builtin.Int.intTooBig at z2
 have e1:Builtin.Int.intBits i≤4001:=by unfold Builtin.Int.intBits;split <;>omega
 have e2:Builtin.Int.intBits j≤4001:=by unfold Builtin.Int.intBits;split <;>omega
 have hb:((bitsLine:Nat):Int)≥10000:=by decide
 have:=of_decide_eq_true z2
 omega)
theorem op_fdivS:OpR X (binaryOp .FloorDiv) (rI (fun _ j=>0<j∧Sm j) fun i j=>.int (i / j)):=opI fun i j _ _ _ _ _ hc q=>by
 obtain⟨h1,h2⟩:=hc
 refine floordiv_int (by omega) ?_ (.inl (PyProof.noPylong_of_log2 (by have:=h2.log;omega)))
 rw[Int.fdiv_eq_ediv_of_nonneg i (by omega)]
 exact q
theorem Same.upd {H:Hp}{p:Addr}{o:HO}(h:H p=none):Same H (upd H p o):=fun b u e=>by rw[zN (ne_of_none e h)];exact e
theorem KV_nil:KV ([]:List (Key×V)) ([]:List (Key×Value)):=.nil
theorem z6 {a b:Nat}(h:a<b∨b<a):(a:Addr)≠(b:Addr):=by
 rcases h with h|h
 ·exact Nat.ne_of_lt h
 ·exact Nat.ne_of_gt h
end
end L2
namespace L2
open PySem PySem.Spec PyProof.Rows
def tyN:PyData→String
 | .none => "NoneType" | .bool _ => "bool" | .int _ => "int" | .str _ => "str" | .list _ => "list" | .tuple _ => "tuple" | .dict _ => "dict"
theorem kit_int {K:PySem.W.Frag}(d:PyData):PySem.W.kitOne K (.type (tyN d)) (.type "int")=some (match d with | .int _=>true | .bool _=>true|_=>false):=by cases d <;>rfl
theorem kit_bool {K:PySem.W.Frag}(d:PyData):PySem.W.kitOne K (.type (tyN d)) (.type "bool")=some (match d with | .bool _=>true|_=>false):=by cases d <;>rfl
theorem kit_str {K:PySem.W.Frag}(d:PyData):PySem.W.kitOne K (.type (tyN d)) (.type "str")=some (match d with | .str _=>true|_=>false):=by cases d <;>rfl
theorem kit_tuple {K:PySem.W.Frag}(d:PyData):PySem.W.kitOne K (.type (tyN d)) (.type "tuple")=some (match d with | .tuple _=>true|_=>false):=by cases d <;>rfl
section
variable {X:Cx}
theorem call_isinstD:CallR X (.builtin "isinstance") (fun xs H Q=>∃x d n b,xs=[x,.ty n]∧Is X.K H x d∧PySem.W.kitOne X.K (.type (tyN d)) (.type n)=some b∧Q (.bl b) H):=by
 intro pins s σ H xs us Q I r h
 obtain⟨x,d,n,b,rfl,is,e,q⟩:=h
 obtain⟨u,u2,rfl,ru,r2⟩:=vals2 r
 cases r2
 have fin:∀tk,EP X pins σ Q (.bool b) {s with toks:=tk}:=fun tk=>⟨.bl b,H,I.tok _,rfl,q⟩
 cases is with
 | non=>cases (show u=Value.none from ru);exact PySem.W.kia_one PySem.W.kitx_none I.kIn True.intro e (fun z=>nomatch z) fin
 | bl y=>cases (show u=Value.bool y from ru);exact PySem.W.kia_one PySem.W.kitx_bool I.kIn True.intro e (fun z=>nomatch z) fin
 | int i=>obtain⟨t,q'⟩:=(show ∃t,u=Value.int i t from ru);cases q';exact PySem.W.kia_one PySem.W.kitx_int I.kIn True.intro e (fun z=>nomatch z) fin
 | str y=>obtain⟨t,q'⟩:=(show ∃t,u=Value.str y t from ru);cases q';exact PySem.W.kia_one PySem.W.kitx_str I.kIn True.intro e (fun z=>nomatch z) fin
 | @lst a xs ds q1 q2 =>
  cases (show u=Value.ref a from ru)
  obtain⟨its,_,⟨o,n',e1,hc,_⟩,_⟩:=I.list q1
  exact PySem.W.kia_one PySem.W.kitx_list I.kIn ⟨o,e1,hc⟩ e (fun z=>nomatch z) fin
 | @tup a xs ds q1 q2 =>
  cases (show u=Value.ref a from ru)
  obtain⟨its,_,⟨o,e1,hc,_⟩,_⟩:=I.tuple q1
  exact PySem.W.kia_one PySem.W.kitx_tuple I.kIn ⟨o,e1,hc⟩ e (fun z=>nomatch z) fin
end
end L2
namespace L2
open PySem PySem.Spec PyProof.Rows
def compChk (fs:Scope)(N:List Str)(scope:Scope)(caps:List Nat):Bool :=
 (scope.kind == .function)&&(scope.names.all fun y=>y.2 != .cell || scope.names.lookup y.1 == some .cell)&&(scope.names.all fun y=>y.2 != .local || scope.names.lookup y.1 == some .local) &&
 (scope.names.all fun y=>y.2 != .free || fs.names.lookup y.1 == some .cell || fs.names.lookup y.1 == some .free) &&
 (caps.all fun i=>match N[i]? with|some y=>scope.names.lookup y == some .free|none=>false)
theorem comp_ok {X:Cx}{fs scope:Scope}{N:List Str}{caps:List Nat}(hs:X.env.scope=fs)(hN:X.N=N)(h:compChk fs N scope caps=true):CompOk X scope caps:=by
 unfold compChk at h
 simp only[Bool.and_eq_true,List.all_eq_true] at h
 obtain⟨⟨⟨⟨h1,h2⟩,h3⟩,h4⟩,h5⟩:=h
 refine⟨by simpa using h1,fun y hy e=>?_,fun y hy e=>?_,fun y hy e=>?_,fun i hi=>?_⟩
 ·have:=h2 y hy
  rw[e] at this
  simpa using this
 ·have:=h3 y hy
  rw[e] at this
  simpa using this
 ·have:=h4 y hy
  rw[e] at this
  unfold Env.kindOf
  rw[hs]
  simpa using this
 ·have:=h5 i hi
  rw[hN]
  cases e:N[i]? with
  | none=>rw[e] at this;simp at this
  | some y=>rw[e] at this;exact⟨y,rfl,by simpa using this⟩
theorem nd_of {X:Cx}{N:List Str}(h:X.N=N)(n:N.Nodup):X.N.Nodup:=h▸n
structure Dn (K:PySem.W.Frag)(mg:Str→Option Value)(x:Str)(st:Stmt)(ps:List Str) where
 f:Addr
 fd:FuncData
 fn:Fun K x x st f fd
 mg:mg x=some (.ref f)
 bd:Binds K fd ps []
end L2
namespace L2
open PySem PySem.Spec PyProof.Rows
section
variable {X:Cx}{pins:List (Addr×Obj)}{σ:St}{H:Hp}{s:Shared}{h':Heap}
theorem Inv.turnedL {t':Nat}{fp:List Addr}(I:Inv X pins σ H s)(k:∀b o,b∉fp→s.heap.get? b=some o→h'.get? b=some o)(hf:∀b∈fp,FpOk X pins H b):Inv X pins σ H {s with heap:=h',toks:=t'}:=by
 have nit:∀b u,H b=some u→b∉fp:=fun b u e z=>by rw[(hf b z).1] at e;cases e
 have nl:X.env.locals∉fp:=fun z=>(hf _ z).2.1 rfl
 refine I.step (g':=s.gens) (d':=s.drawn) (ch:=fp) (fun b hb=>?_) (fun b o _ _ hc e _=>k b o hc e) (fun b o _ _ hc e _=>⟨o.slots,k b o hc e⟩) (fun _ _ _ _ n=>n)
  (fun b o hc e=>⟨o,k b o hc e⟩) (fun _ _ e=>e) (fun _ _ _ e=>e) (fun b ps e=>⟨#[],by rw[e];simp⟩) (fun m hm=>?_) (fun b u e=>?_) I.bare
 ·obtain⟨_,f1,_,f3,f4,f5⟩:=hf b hb
  exact⟨f3,f1,f4,f5⟩
 ·obtain⟨o,es,ep,ho,r⟩:=hm
  exact⟨o,es,ep,k _ o nl ho,r⟩
 ·refine(I.hok b u e).stay (fun c v hc q=>k c v ?_ q) (fun _ q=>q) fun _ _ q=>q
  rcases hc with z|z
  ·rw[z];exact nit b u e
  ·exact nit c _ z
end
theorem zApart (n:Nat):Zp.Apart (n+4:Nat) (n+2:Nat) (n+3:Nat) n (n+1:Nat) :=
 ⟨z6 (by omega),z6 (by omega),z6 (by omega),z6 (by omega),z6 (by omega),z6 (by omega),z6 (by omega),z6 (by omega),z6 (by omega),z6 (by omega)⟩
def fpZ (n:Nat):List Addr:=[(n+4:Nat),(n+2:Nat),(n+3:Nat),n,(n+1:Nat)]
section
variable {prog:Program}{w:World}{A:Around}
theorem yields_lst {it t:Addr}{i:Nat}{items:Array Value}{x:Value}(hne:t≠it)(hx:items[i]? = some x) :
  Zp.Yields prog w A it (fun h=>h.IsListIter it t i∧h.IsList t items) (fun v=>v=x) (fun h=>h.IsListIter it t (i+1)∧h.IsList t items) :=
 fun s Q E g hQ=>Zp.nextOf_list_item g.1 g.2 hx fun h' st sb=>hQ _ h' s.toks rfl ⟨st,g.2.extBut sb.extBut hne⟩ sb
theorem ends_lst {it t:Addr}{i:Nat}{items:Array Value}(hh:A.handled=none)(hx:items[i]? = none) :
  Zp.Ends prog w A it (fun h=>h.IsListIter it t i∧h.IsList t items) :=
 fun s Q E g hE=>Zp.nextOf_list_end hh g.1 g.2 hx hE
end
def Kp (it n:Nat)(h h':Heap):Prop:=∀(c:Addr) o,(c=it∨(c:Nat)<n)→h.get? c=some o→h'.get? c=some o
structure ZS (P:Program)(w:World)(K:PySem.W.Frag)(xs:List V)(G:Hp→Prop)(n it:Nat)(S:Nat→Heap→Prop):Prop where
 obj:∀i h,S i h→∃o,h.get? (it:Addr)=some o∧∀v,o.data≠.cell v
 keep:∀i h h',S i h→(∀o,h.get? (it:Addr)=some o→h'.get? (it:Addr)=some o)→S i h'
 yld:∀(X:Cx),X.prog=P→X.w=w→X.K=K→∀(pins:List (Addr×Obj)) (s:Shared) (σ:St) (H:Hp) (i:Nat) (x:V),Inv X pins σ H s→G H→xs[i]? = some x→S i s.heap→∃G1 S1:Heap→Prop,
  (∀A,Zp.Yields P w A (it:Addr) G1 (RelV x) S1)∧(∀h',Kp it n s.heap h'→G1 h')∧(∀h h',S1 h→Kp it n h h'→S1 h')∧∀h,S1 h→S (i+1) h
 ends:∀(X:Cx),X.prog=P→X.w=w→X.K=K→∀(pins:List (Addr×Obj)) (s:Shared) (σ:St) (H:Hp) (i:Nat),Inv X pins σ H s→G H→xs.length≤i→S i s.heap→∃G1:Heap→Prop,
  (∀A:Around,A.handled=none→Zp.Ends P w A (it:Addr) G1)∧∀h',Kp it n s.heap h'→G1 h'
theorem zs_tup {P:Program}{w:World}{K:PySem.W.Frag}{xs:List V}{n it l:Nat}(hl:l<n)(hi:n≤it):ZS P w K xs (fun H=>SqT K H l xs) n it (fun i h=>h.IsTupleIter it l i) where
 obj:=fun i h ⟨o,e,c,d⟩=>⟨o,e,fun v z=>by rw[d] at z;cases z⟩
 keep:=fun i h h' z kk=>z.at kk
 yld:=by
  intro X hP hw hK pins s σ H i x I g hx st
  subst hP hw hK
  obtain⟨its,rv,pl,_⟩:=I.tuple g
  obtain⟨u,hu,ru⟩:=rv.get hx
  have p1:s.heap.IsTuple l its.toArray:=pl
  have ne:(l:Addr)≠(it:Addr):=z6 (.inl (by omega))
  refine⟨fun h=>h.IsTupleIter it l i∧h.IsTuple l its.toArray,fun h=>h.IsTupleIter it l (i+1)∧h.IsTuple l its.toArray,fun A s Q E g hQ=>Zp.yields_tuple (items:=its.toArray) (i:=i) (x:=u) ne (by simpa using hu) s Q E g fun v h' tk e=>hQ v h' tk (e▸ru),fun h' kk=>⟨?_,?_⟩,fun h h' ⟨a,b⟩ kk=>⟨a.at fun o e=>kk _ _ (.inl rfl) e,?_⟩,fun h z=>z.1⟩
  ·exact st.at fun o e=>kk _ _ (.inl rfl) e
  ·obtain⟨o,e,r⟩:=p1;exact⟨o,kk _ _ (.inr hl) e,r⟩
  ·obtain⟨o,e,r⟩:=b;exact⟨o,kk _ _ (.inr hl) e,r⟩
 ends:=by
  intro X hP hw hK pins s σ H i I g hx st
  subst hP hw hK
  obtain⟨its,rv,pl,_⟩:=I.tuple g
  have p1:s.heap.IsTuple l its.toArray:=pl
  have len:=rv.length
  refine⟨_,fun A hh=>Zp.ends_tuple (t:=l) (i:=i) (items:=its.toArray) hh (by simpa using (show its.length≤i by omega)),fun h' kk=>⟨st.at fun o e=>kk _ _ (.inl rfl) e,?_⟩⟩
  obtain⟨o,e,r⟩:=p1;exact⟨o,kk _ _ (.inr hl) e,r⟩
theorem zs_lst {P:Program}{w:World}{K:PySem.W.Frag}{xs:List V}{n it l:Nat}(hl:l<n)(hi:n≤it):ZS P w K xs (fun H=>SqL K H l xs) n it (fun i h=>h.IsListIter it l i) where
 obj:=fun i h ⟨o,e,c,d⟩=>⟨o,e,fun v z=>by rw[d] at z;cases z⟩
 keep:=fun i h h' z kk=>z.at kk
 yld:=by
  intro X hP hw hK pins s σ H i x I g hx st
  subst hP hw hK
  obtain⟨its,rv,pl,_⟩:=I.list g
  obtain⟨u,hu,ru⟩:=rv.get hx
  have p1:s.heap.IsList l its.toArray:=pl.isList
  have ne:(l:Addr)≠(it:Addr):=z6 (.inl (by omega))
  refine⟨fun h=>h.IsListIter it l i∧h.IsList l its.toArray,fun h=>h.IsListIter it l (i+1)∧h.IsList l its.toArray,fun A s Q E g hQ=>yields_lst (items:=its.toArray) (i:=i) (x:=u) ne (by simpa using hu) s Q E g fun v h' tk e=>hQ v h' tk (e▸ru),fun h' kk=>⟨?_,?_⟩,fun h h' ⟨a,b⟩ kk=>⟨a.at fun o e=>kk _ _ (.inl rfl) e,?_⟩,fun h z=>z.1⟩
  ·exact st.at fun o e=>kk _ _ (.inl rfl) e
  ·obtain⟨o,e,r⟩:=p1;exact⟨o,kk _ _ (.inr hl) e,r⟩
  ·obtain⟨o,e,r⟩:=b;exact⟨o,kk _ _ (.inr hl) e,r⟩
 ends:=by
  intro X hP hw hK pins s σ H i I g hx st
  subst hP hw hK
  obtain⟨its,rv,pl,_⟩:=I.list g
  have p1:s.heap.IsList l its.toArray:=pl.isList
  have len:=rv.length
  refine⟨_,fun A hh=>ends_lst (t:=l) (i:=i) (items:=its.toArray) hh (by simpa using (show its.length≤i by omega)),fun h' kk=>⟨st.at fun o e=>kk _ _ (.inl rfl) e,?_⟩⟩
  obtain⟨o,e,r⟩:=p1;exact⟨o,kk _ _ (.inr hl) e,r⟩
def vC (l:List Nat):List V:=l.map fun c=>V.str (T [c])
theorem zs_str {P:Program}{w:World}{K:PySem.W.Frag}{l:List Nat}{t:Tok}{n it:Nat}:ZS P w K (vC l) (fun _=>True) n it (fun i h=>h.IsStrIter it "str_ascii_iterator" (T l) t i) where
 obj:=fun i h z=>by obtain⟨o,e,c,d⟩:=z;exact⟨o,e,fun v z=>by rw[d] at z;cases z⟩
 keep:=fun i h h' z kk=>by obtain⟨o,e,c,d⟩:=z;exact⟨o,kk o e,c,d⟩
 yld:=by
  intro X hP hw hK pins s σ H i x I g hx st
  subst hP hw hK
  unfold vC at hx
  rw[List.getElem?_map] at hx
  cases ec:l[i]? with
  | none=>rw[ec] at hx;cases hx
  | some c =>
   rw[ec] at hx
   cases hx
   refine⟨fun h=>h.IsStrIter it "str_ascii_iterator" (T l) t i,fun h=>h.IsStrIter it "str_ascii_iterator" (T l) t (i+1),fun A s Q E g hQ=>Zp.yields_ascii (x:=T l) (t:=t) (i:=i) (c:=c) (by show l.toArray[i]? = _;simpa using ec) s Q E g fun v h' tk e=>hQ v h' tk ?_,fun h' kk=>?_,fun h h' z kk=>?_,fun h z=>z⟩
   ·obtain⟨u,rfl⟩:=e;exact⟨u,rfl⟩
   ·obtain⟨o,e,c,d⟩:=st;exact⟨o,kk _ _ (.inl rfl) e,c,d⟩
   ·obtain⟨o,e,c,d⟩:=z;exact⟨o,kk _ _ (.inl rfl) e,c,d⟩
 ends:=by
  intro X hP hw hK pins s σ H i I g hx st
  subst hP hw hK
  have hl:l.length≤i:=by simpa [vC] using hx
  refine⟨_,fun A hh=>Zp.ends_ascii (x:=T l) (t:=t) (i:=i) hh (by show l.toArray[i]? = none;simpa using hl),fun h' kk=>?_⟩
  obtain⟨o,e,c,d⟩:=st;exact⟨o,kk _ _ (.inl rfl) e,c,d⟩
def ItzG (G1 G2:Hp→Prop)(xs ys:List V):It :=
 ⟨fun i H=>G1 H∧G2 H∧i<min xs.length ys.length,fun i H v H'=>∃p x y,H p=none∧xs[i]? = some x∧ys[i]? = some y∧v=.ref p∧H'=upd H p (.tup [x,y]),fun i H=>G1 H∧G2 H∧min xs.length ys.length≤i⟩
def tnZG (n:Nat)(S1 S2:Nat→Heap→Prop)(i:Nat)(h:Heap):Prop:=∃a b f1,Zp.IsZipF h (n+4:Nat) (n+2:Nat) (n+3:Nat) .none f1∧IsPair h (n+2:Nat) (.ref n) (.ref (n+1:Nat))∧IsPair h (n+3:Nat) a b∧S1 i h∧S2 i h
theorem turn_zipG {P:Program}{w:World}{K:PySem.W.Frag}{elts:List Expr}{k:Nat}{pos:Pos}{n:Nat}{xs ys:List V}{G1 G2:Hp→Prop}{S1 S2:Nat→Heap→Prop}(A1:ZS P w K xs G1 n n S1)(A2:ZS P w K ys G2 n (n+1) S2) :
  Turn P w K (.Tuple elts k pos) (ItzG G1 G2 xs ys) (fpZ n) (n+4:Nat) (tnZG n S1 S2) where
 mem:=by simp[fpZ]
 obj:=fun i h ⟨a,b,f1,z1,z2,z3,z4,z5⟩ c hc=>by
  simp only[fpZ,List.mem_cons,List.mem_nil_iff,or_false] at hc
  rcases hc with rfl|rfl|rfl|rfl|rfl
  ·exact⟨_,z1,fun v z=>by cases z⟩
  ·exact⟨_,z2,fun v z=>by cases z⟩
  ·exact⟨_,z3,fun v z=>by cases z⟩
  ·exact A1.obj i h z4
  ·exact A2.obj i h z5
 keep:=fun i h h' ⟨a,b,f1,z1,z2,z3,z4,z5⟩ kk=>by
  refine⟨a,b,f1,kk _ (by simp[fpZ]) _ z1,kk _ (by simp[fpZ]) _ z2,kk _ (by simp[fpZ]) _ z3,A1.keep i h h' z4 fun o e=>kk _ (by simp[fpZ]) o e,A2.keep i h h' z5 fun o e=>kk _ (by simp[fpZ]) o e⟩
 item := by
  intro X hP hw hK hc i pins s σ H E I hf st hg
  obtain⟨q1,q2,hi⟩:=hg
  have i1:i<xs.length:=by omega
  have i2:i<ys.length:=by omega
  obtain⟨a,b,f1,z1,z2,z3,z4,z5⟩:=st
  obtain⟨Ga,Sa,Y1,ga,sa,ta⟩:=A1.yld X hP hw hK pins s σ H i _ I q1 (List.getElem?_eq_getElem i1) z4
  obtain⟨Gb,Sb,Y2,gb,sb',tb⟩:=A2.yld X hP hw hK pins s σ H i _ I q2 (List.getElem?_eq_getElem i2) z5
  subst hP hw hK
  have hT:s.TypeIs (.ref ((n+4:Nat):Addr)) "zip" := ⟨_,z1,rfl⟩
  unfold pyNext
  refine wpAny_bind (wpAny_attempt (wpAny_callSpecial?_slot (name:=Str.ofString "__next__") hT PySem.F.slot_zip_next
   (wpAny_call_entry PySem.F.slot_zip_next hT PySem.F.entry_zip_next ?_ (PySem.F.args_zip_next_1 _))))
  have D:=zApart n
  have nn:∀{c:Addr}{k:Nat},(c:Nat)<n→c≠((n+k:Nat):Addr):=fun {c k} hc=>z6 (.inl (Nat.lt_of_lt_of_le hc (Nat.le_add_right _ _)))
  refine Zp.next_item D z1 z2 z3 (Y1 _) (Y2 _) ?_ ?_ ?_ ?_ ?_
  ·refine fun h' kk=>ga h' fun c o hc e=>kk c o ?_ e
   rcases hc with rfl|hc
   ·exact D.i1z
   ·exact nn hc
  ·refine fun h' kk=>gb h' fun c o hc e=>?_
   rcases hc with rfl|hc
   ·exact kk _ _ D.i2z D.TOi2.symm D.i12.symm e
   ·exact kk _ _ (nn hc) (nn hc) (nn (k:=0) hc) e
  ·refine fun h h' z kk=>sa h h' z fun c o hc e=>?_
   rcases hc with rfl|hc
   ·exact kk _ _ D.i1z D.TOi1.symm D.i12 e
   ·exact kk _ _ (nn hc) (nn hc) (nn hc) e
  ·refine fun h h' z kk=>sb' h h' z fun c o hc e=>?_
   rcases hc with rfl|hc
   ·exact kk _ _ D.i2z D.TOi2.symm e
   ·exact kk _ _ (nn hc) (nn hc) e
  ·rintro v1 v2 h' tk ru1 ru2 z' to' s1 s2 hp hsz kk
   refine wpAny_pure ⟨_,rfl,?_⟩
   refine wpAny_letOwnedTupleGo_zip (s:={s with heap:=h',toks:=tk}) z' fun h2 zz sb=>?_
   obtain⟨o1,e1,_⟩:=A1.obj _ _ z4
   obtain⟨o2,e2,_⟩:=A2.obj _ _ z5
   have nz:∀c:Addr,c=s.heap.objs.size→c∉fpZ n:=fun c e hc=>by
    have:=(hf c hc).1
    obtain ⟨o,ho,_⟩:∃o,s.heap.get? c=some o∧True:=by
     simp only[fpZ,List.mem_cons,List.mem_nil_iff,or_false] at hc
     rcases hc with rfl|rfl|rfl|rfl|rfl
     ·exact⟨_,z1,trivial⟩
     ·exact⟨_,z2,trivial⟩
     ·exact⟨_,z3,trivial⟩
     ·exact⟨_,e1,trivial⟩
     ·exact⟨_,e2,trivial⟩
    rw[e] at ho
    exact absurd (Heap.lt_size ho) (Nat.lt_irrefl _)
   have szz:s.heap.objs.size≠((n+4:Nat):Addr):=fun e=>nz _ rfl (by rw[e];simp[fpZ])
   have I1:Inv X pins σ H {s with heap:=h2,toks:=tk}:=I.turnedL (fp:=fpZ n) (fun c o hc e=>by
    have hc':c≠((n+4:Nat):Addr)∧c≠((n+2:Nat):Addr)∧c≠((n+3:Nat):Addr)∧c≠(n:Addr)∧c≠((n+1:Nat):Addr):=by
     simpa [fpZ] using hc
    exact sb.extBut _ _ hc'.1 (kk c o hc'.1 hc'.2.2.1 hc'.2.2.2.1 hc'.2.2.2.2 e)) hf
   have hfree:H s.heap.objs.size=none:=I.hok.fresh (Nat.le_refl _)
   have hpair:h2.get? s.heap.objs.size=some {cls:=.type "tuple", data:=.seq #[v1,v2]}:=sb.extBut _ _ szz hp
   have I2:Inv X pins σ (upd H s.heap.objs.size (.tup [xs[i],ys[i]])) {s with heap:=h2,toks:=tk}:=I1.track hfree (.inr I.sz) (Nat.ne_of_gt I.lt) (fun x c e=>by
     obtain⟨v,o,ho,_⟩:=I.cell x c e
     exact Nat.ne_of_lt (Heap.lt_size ho)) (fun p hp=>Nat.ne_of_lt (Heap.lt_size (I.pin p hp).1))
    ⟨by show 2≤sizeLine;decide,[v1,v2],.cons ru1 (.cons ru2 .nil),_,hpair,rfl,⟨_,rfl⟩,rfl⟩
   refine⟨.ref s.heap.objs.size,_,I2,rfl,⟨_,_,_,hfree,List.getElem?_eq_getElem i1,List.getElem?_eq_getElem i2,rfl,rfl⟩,⟨v1,v2,.bool false,zz,sb.extBut _ _ D.TIz (kk _ _ D.TIz D.TITO D.TIi1 D.TIi2 z2),sb.extBut _ _ D.TOz to',?_,?_⟩,fun b hb=>?_⟩
   ·exact A1.keep _ _ _ (ta _ s1) fun o e=>sb.extBut _ _ D.i1z e
   ·exact A2.keep _ _ _ (tb _ s2) fun o e=>sb.extBut _ _ D.i2z e
   ·rw[zN (fun e=>nz b e hb)]
    exact(hf b hb).1
 done:=by
  intro X hP hw hK hc i pins s σ H E I hf st hg
  obtain⟨q1,q2,hi⟩:=hg
  obtain⟨a,b,f1,z1,z2,z3,z4,z5⟩:=st
  have hT:s.TypeIs (.ref ((n+4:Nat):Addr)) "zip" := ⟨_,z1,rfl⟩
  have D:=zApart n
  have nn:∀{c:Addr}{k:Nat},(c:Nat)<n→c≠((n+k:Nat):Addr):=fun {c k} hc=>z6 (.inl (Nat.lt_of_lt_of_le hc (Nat.le_add_right _ _)))
  have hh:=I.ok.hd hc
  have key:∃Ga Gb:Heap→Prop,(Zp.Ends X.prog X.w X.A.in1 (n:Addr) Ga∨(Zp.Yields X.prog X.w X.A.in1 (n:Addr) Ga (fun _=>True) (fun _=>True)∧Zp.Ends X.prog X.w X.A.in1 ((n+1:Nat):Addr) Gb))∧(∀h',Kp n n s.heap h'→Ga h')∧(∀h',Kp (n+1) n s.heap h'→Gb h'):=by
   by_cases h1:xs.length≤i
   ·obtain⟨Ga,y,g⟩:=A1.ends X hP hw hK pins s σ H i I q1 h1 z4
    subst hP hw
    exact⟨Ga,fun _=>True,.inl (y _ hh),g,fun _ _=>trivial⟩
   ·obtain⟨Ga,Sa,Y1,ga,sa,ta⟩:=A1.yld X hP hw hK pins s σ H i _ I q1 (List.getElem?_eq_getElem (Nat.lt_of_not_le h1)) z4
    obtain⟨Gb,y,g⟩:=A2.ends X hP hw hK pins s σ H i I q2 (by omega) z5
    subst hP hw
    exact⟨Ga,Gb,.inr ⟨fun s Q E g hQ=>Y1 _ s Q E g fun v h' tk _ _ sb=>hQ v h' tk trivial trivial sb,y _ hh⟩,ga,g⟩
  obtain⟨Ga,Gb,hend',ga,gb⟩:=key
  subst hP hw hK
  unfold pyNext
  refine wpAny_bind (wpAny_attempt (wpAny_callSpecial?_slot (name:=Str.ofString "__next__") hT PySem.F.slot_zip_next
   (wpAny_call_entry PySem.F.slot_zip_next hT PySem.F.entry_zip_next (Zp.next_end D z1 z2 z3 hend' ?_ ?_ ?_) (PySem.F.args_zip_next_1 _))))
  ·refine fun h' kk=>ga h' fun c o hc e=>kk c o ?_ e
   rcases hc with rfl|hc
   ·exact D.i1z
   ·exact nn hc
  ·refine fun h' kk=>gb h' fun c o hc e=>?_
   rcases hc with rfl|hc
   ·exact kk _ _ D.i2z D.TOi2.symm D.i12.symm e
   ·exact kk _ _ (nn hc) (nn hc) (nn (k:=0) hc) e
  ·intro h' tk e kk he
   obtain⟨o,ho,hc⟩:=he
   refine wpAny_bind (wpAny_isInstance (T := "StopIteration") (b:=true) ⟨o,ho,hc⟩ isSubtype_stop ?_)
   refine wpAny_pure ⟨rfl,I.turnedL (fp:=fpZ n) (fun c o hc e=>?_) hf⟩
   have hc':c≠((n+4:Nat):Addr)∧c≠((n+2:Nat):Addr)∧c≠((n+3:Nat):Addr)∧c≠(n:Addr)∧c≠((n+1:Nat):Addr):=by
    simpa [fpZ] using hc
   exact kk c o hc'.1 hc'.2.2.1 hc'.2.2.2.1 hc'.2.2.2.2 e
 self:=fun A i s Q E ⟨a,b,f1,z1,z2,z3,z4,z5⟩ h=>by
  have hT:s.TypeIs (.ref ((n+4:Nat):Addr)) "zip" := ⟨_,z1,rfl⟩
  refine wpAny_pyIter_slot hT PySem.F.slot_zip_iter (wpAny_call_entry PySem.F.slot_zip_iter hT PySem.F.entry_zip_iter ?_ (PySem.F.args_zip_iter_1 _))
  show wpAny _ _ (ret (.ref ((n+4:Nat):Addr))) _ _ s
  exact wpAny_pure ⟨_,rfl, "zip", _,hT,PySem.F.slot_zip_next.lookup,h⟩
def Itu (u:Value)(o:Obj)(G:Heap→Prop):Prop:=∀(prog:Program) (w:World) (A:Around) (s:Shared) (Q:Value→Shared→Prop) (E:Value→Shared→Prop),G s.heap→Q (.ref s.heap.objs.size) {s with heap:=s.heap.push o}→wpAny (model prog w) A (pyIter u) Q E s
section
variable {prog:Program}{w:World}{A:Around}{E:Value→Shared→Prop}{s:Shared}
theorem meets_vv {u1 u2:Value}{o1 o2:Obj}{G1 G2:Heap→Prop}(b1:Itu u1 o1 G1)(b2:Itu u2 o2 G2)(up:∀h,G2 h→G2 (h.push o1)) :
  Meets (Builtin.«zip.__new__» ⟨[.type "zip", u1,u2],[]⟩) (fun _ R s=>G1 s.heap∧G2 s.heap ∧
   R (.ok (.ret (.ref (Zp.zH4 s.heap o1 o2).objs.size))) {s with heap:=Zp.zH5 s.heap o1 o2}) :=
 .of_wp fun prog w A R s h=>by
  obtain⟨hl1,hl2,h⟩:=h
  have z3:(Zp.zH3 s.heap o1 o2).objs.size=(Zp.zH2 s.heap o1 o2).objs.size+1:=Heap.size_push ..
  have z4:(Zp.zH4 s.heap o1 o2).objs.size=(Zp.zH2 s.heap o1 o2).objs.size+2:=by rw[Heap.size_push,z3]
  refine Zp.meets_st_aux (h1:=s.heap.push o1) (h2:=Zp.zH2 s.heap o1 o2) (i1:=s.heap.objs.size) (i2:=(s.heap.push o1).objs.size)
   (fun Q E q=>b1 prog w A.in1 s Q E hl1 q) (fun Q E q=>b2 prog w A.in1 {s with heap:=s.heap.push o1} Q E (up _ hl2) q) ⟨_,rfl,?_⟩
  rw[← z4,← z3]
  exact h
theorem call_zipV {u1 u2:Value}{o1 o2:Obj}{G1 G2:Heap→Prop}{Q:Value→Shared→Prop}(f1:o1.isFreed=false)(f2:o2.isFreed=false)(b1:Itu u1 o1 G1)(b2:Itu u2 o2 G2)(up:∀h,G2 h→G2 (h.push o1))(hl1:G1 s.heap)(hl2:G2 s.heap)
  (h:∀h',Zp.Made5 s.heap h' o1 o2→Q (.ref (s.heap.objs.size+4)) {s with heap:=h'}) :
  wpAny (model prog w) A (call (.type "zip") [u1,u2]) Q E s:=by
 refine callType_new F.called_zip (by decide) (F.typeCall_zip_2 _ _) (F.newCall_zip_2 _ _) (fun obj=>F.args_object_init_3 obj _ _) F.entry_zip_new
  (meets_vv b1 b2 up) ⟨hl1,hl2,?_⟩
 obtain⟨m,z4⟩:=Zp.made5 s.heap o1 o2 f1 f2
 show _∧_
 rw[z4]
 exact⟨⟨_,m.1,rfl⟩,h _ m⟩
end
def ZArg (K:PySem.W.Frag)(H:Hp)(v:V)(xs:List V)(G:Hp→Prop):Prop :=
 (∃l,v=.ref l∧SqT K H l xs∧G=fun H=>SqT K H l xs)∨(∃l,v=.ref l∧SqL K H l xs∧G=fun H=>SqL K H l xs)∨(∃l,v=.str (T l)∧(∀c∈l,c<128)∧xs=vC l∧G=fun _=>True)
theorem zarg {X:Cx}{pins:List (Addr×Obj)}{s:Shared}{σ:St}{H:Hp}{v:V}{u:Value}{xs:List V}{G:Hp→Prop}(I:Inv X pins σ H s)(z:ZArg X.K H v xs G)(r:RelV v u):G H∧∃(o:Obj) (C:Heap→Prop),o.isFreed=false∧C s.heap∧(∀h o',C h→C (h.push o'))∧Itu u o C ∧
  ∀it:Nat,s.heap.objs.size≤it→∃S,ZS X.prog X.w X.K xs G s.heap.objs.size it S∧∀h:Heap,h.get? (it:Addr)=some o→S 0 h:=by
 rcases z with⟨l,rfl,q,rfl⟩|⟨l,rfl,q,rfl⟩|⟨l,rfl,ha,rfl,rfl⟩
 ·cases r
  obtain⟨its,rv,pl,_⟩:=I.tuple q
  have p1:s.heap.IsTuple l its.toArray:=pl
  have lt1:l<s.heap.objs.size:=by obtain⟨o,e,_⟩:=p1;exact Heap.lt_size e
  exact⟨q,Zp.tIter l,fun h=>h.IsTuple l its.toArray,rfl,p1,fun h o' ⟨o,e,r⟩=>⟨o,Heap.get?_push_of_some _ e,r⟩,fun _ _ _ _ _ _ g q=>wpAny_pyIter_tuple g q,fun it hit=>⟨_,zs_tup lt1 hit,fun h e=>⟨_,e,rfl,rfl⟩⟩⟩
 ·cases r
  obtain⟨its,rv,pl,_⟩:=I.list q
  have p1:s.heap.IsList l its.toArray:=pl.isList
  have lt1:l<s.heap.objs.size:=by obtain⟨o,e,_⟩:=p1;exact Heap.lt_size e
  exact⟨q,Zp.lIter l,fun h=>h.IsList l its.toArray,rfl,p1,fun h o' ⟨o,e,r⟩=>⟨o,Heap.get?_push_of_some _ e,r⟩,fun _ _ _ _ _ _ g q=>wpAny_pyIter_list g q,fun it hit=>⟨_,zs_lst lt1 hit,fun h e=>⟨_,e,rfl,rfl⟩⟩⟩
 ·obtain ⟨t,rfl⟩:=r
  have ha':(T l).cps.all (· < 128)=true:=by
   simp only[T,List.all_toArray,List.all_eq_true,decide_eq_true_eq]
   exact ha
  exact⟨trivial,Zp.sIter (T l) t,fun _=>True,rfl,trivial,fun _ _ _=>trivial,fun _ _ _ _ _ _ _ q=>wpAny_pyIter_ascii ha' q,fun it hit=>⟨_,zs_str,fun h e=>⟨_,e,rfl,rfl⟩⟩⟩
def Itz (K:PySem.W.Frag)(l1 l2:Addr)(xs ys:List V):It :=
 ⟨fun i H=>SqT K H l1 xs∧SqT K H l2 ys∧i<min xs.length ys.length,fun i H v H'=>∃p x y,H p=none∧xs[i]? = some x∧ys[i]? = some y∧v=.ref p∧H'=upd H p (.tup [x,y]),fun i H=>SqT K H l1 xs∧SqT K H l2 ys∧min xs.length ys.length≤i⟩
def iZip (K:PySem.W.Frag)(ta tb:TE):TI:=fun σ H R=>tCons ta (tCons tb tNil) σ H fun vs H1=>∃l1 l2 xs ys,vs=[.ref l1,.ref l2]∧SqT K H1 l1 xs∧SqT K H1 l2 ys∧R (Itz K l1 l2 xs ys) H1
section
variable {X:Cx}
theorem pi_zipP {Z:List V→Hp→(It→Hp→Prop)→Prop}(hZ:∀vs H1 R,Z vs H1 R→∃(v1 v2:V) (xs ys:List V) (G1 G2:Hp→Prop),vs=[v1,v2]∧ZArg X.K H1 v1 xs G1∧ZArg X.K H1 v2 ys G2∧R (ItzG G1 G2 xs ys) H1){elts:List Expr}{k:Nat}{tpos:Pos}{a b:Expr}{ta tb:TE}{p pos:Pos}(hg:Gl X "zip")(hm:X.mg "zip" = none)(ha:PE X a ta)(hb:PE X b tb)
  (hs:starEach [a,b] X.env=[(false,eval a X.env),(false,eval b X.env)]:=by rfl) (hs2:starEach [b] X.env=[(false,eval b X.env)]:=by rfl) :
  PI X (.Tuple elts k tpos) (.Call (.Name "zip" p) [a,b] [] pos) (fun σ H R=>tCons ta (tCons tb tNil) σ H fun vs H1=>Z vs H1 R):=by
 intro pins s σ H R I h
 have hA:PA X [a,b] (tCons ta (tCons tb tNil)):=pa_cons ha (pa_cons hb pa_nil hs2) (by rw[hs,hs2])
 refine wpAny_Call_Name_kw (ld_blt I hg hm boot_zip ?_)
 refine PyProof.Rows.callWith_type1 (thn (hA pos pins s σ H _ I h) fun us s1 hq35=>?_) (by rw[hs,hs2]) (by rw[hs2];rfl)
 obtain⟨vs,H2,I2,r2,zz⟩:=hq35
 obtain⟨v1,v2,xs,ys,G1,G2,ev,q1,q2,q⟩:=hZ _ _ _ zz
 subst ev
 obtain⟨u1,u2,rfl,ru1,ru2⟩:=vals2 r2
 obtain⟨g1,o1,C1,f1,c1,p1,b1,m1⟩:=zarg I2 q1 ru1
 obtain⟨g2,o2,C2,f2,c2,p2,b2,m2⟩:=zarg I2 q2 ru2
 obtain⟨S1,A1,st1⟩:=m1 s1.heap.objs.size (Nat.le_refl _)
 obtain⟨S2,A2,st2⟩:=m2 (s1.heap.objs.size+1) (Nat.le_succ _)
 refine call_zipV f1 f2 b1 b2 (fun h c=>p2 h _ c) c1 c2 fun h1 m5=>?_
 obtain⟨m1,m2,m3,m4,m6,m7,m8⟩:=m5
 have T:=turn_zipG (P:=X.prog) (w:=X.w) (K:=X.K) (elts:=elts) (k:=k) (pos:=tpos) A1 A2
 refine T.self X.A 0 _ _ _ ⟨_,_,_,m1,m2,m3,st1 _ m4,st2 _ m6⟩ ?_
 have I3:Inv X pins σ H2 {s1 with heap:=h1}:=I2.kept (t':=s1.toks) m8
 refine⟨_,fpZ s1.heap.objs.size,_,ItzG G1 G2 xs ys,H2,rfl,I3,T,⟨_,_,_,m1,m2,m3,st1 _ m4,st2 _ m6⟩,fun c hc=>?_,q⟩
 have hge:s1.heap.objs.size≤c:=by
  simp only[fpZ,List.mem_cons,List.mem_nil_iff,or_false] at hc
  rcases hc with rfl|rfl|rfl|rfl|rfl
  ·exact Nat.le_add_right _ _
  ·exact Nat.le_add_right _ _
  ·exact Nat.le_add_right _ _
  ·exact Nat.le_refl _
  ·exact Nat.le_add_right _ _
 obtain⟨f0,f1,f2,f3,f4,f5⟩:=I2.fpOk hge (I2.hok.fresh hge)
 exact⟨f0,f1,f2,f3,f4,f5⟩
theorem pi_ziptt {elts:List Expr}{k:Nat}{tpos:Pos}{a b:Expr}{ta tb:TE}{p pos:Pos}(hg:Gl X "zip")(hm:X.mg "zip" = none)(ha:PE X a ta)(hb:PE X b tb)
  (hs:starEach [a,b] X.env=[(false,eval a X.env),(false,eval b X.env)]:=by rfl) (hs2:starEach [b] X.env=[(false,eval b X.env)]:=by rfl) :
  PI X (.Tuple elts k tpos) (.Call (.Name "zip" p) [a,b] [] pos) (iZip X.K ta tb):=pi_zipP (fun vs H1 R ⟨l1,l2,xs,ys,e,q1,q2,r⟩=>⟨_,_,xs,ys,_,_,e,.inl ⟨l1,rfl,q1,rfl⟩,.inl ⟨l2,rfl,q2,rfl⟩,r⟩) hg hm ha hb hs hs2
end
end L2
namespace L2
open PySem PySem.Spec PyProof.Rows
def Srt (ls:List (List Nat)):Prop:=ls.Pairwise (·≤·)
theorem le_of_ltCps {a b:List Nat}(h:ltCps b a=false):a≤b:=by
 rw[ltCps_eq] at h
 exact List.not_lt.mp (of_decide_eq_false h)
theorem risingS_pair:∀(p:Str) (l:List Str),risingS p l=true→(p::l).Pairwise fun a b=>a.cps.toList≤b.cps.toList
 | p,[],_=>by simp
 | p,x::r,h=>by
  have h':(!ltCps x.cps.toList p.cps.toList&&risingS x r)=true:=h
  rw[Bool.and_eq_true] at h'
  have h1:p.cps.toList≤x.cps.toList:=le_of_ltCps (by simpa using h'.1)
  have h2:=risingS_pair x r h'.2
  refine List.pairwise_cons.mpr ⟨fun y hy=>?_,h2⟩
  rcases List.mem_cons.mp hy with rfl|hy
  ·exact h1
  ·exact List.le_trans h1 (List.rel_of_pairwise_cons h2 hy)
theorem srt_of {ss:List Str}(h:sortedS ss=true):Srt (ss.map fun x=>x.cps.toList):=by
 unfold Srt
 rw[List.pairwise_map]
 cases ss with
 | nil=>simp
 | cons x r=>exact risingS_pair x r h
theorem strs_vals:∀{us:List Value}{ss:List Str},StrsAre us ss→Vals (ss.map V.str) us
 | _,_,.nil=>.nil
 | _,_,.cons x t h=>.cons ⟨t,rfl⟩ (strs_vals h)
def vT (ls:List (List Nat)):List V:=ls.map fun l=>V.str (T l)
theorem vT_str (ss:List Str):ss.map V.str=vT (ss.map fun x=>x.cps.toList):=by
 unfold vT
 rw[List.map_map]
 exact List.map_congr_left fun x _=>congrArg V.str (T_of x).symm
theorem vT_T (ls:List (List Nat)):vT ls=(ls.map T).map V.str:=by unfold vT;rw[List.map_map];rfl
section
variable {X:Cx}
theorem call_sortedS:CallR X (.builtin "sorted") (fun xs H Q=>∃a ls,xs=[.ref a]∧SqL X.K H a (vT ls)∧ls.length<64∧∀p ms,H p=none→ms.Perm ls→Srt ms→Q (.ref p) (upd H p (.lst (vT ms)))):=by
 intro pins s σ H xs us Q I r h
 obtain⟨a,ls,rfl,ha,h64,q⟩:=h
 obtain⟨u,rfl,ru⟩:=vals1 r
 cases ru
 obtain⟨its,rv,pl,hz⟩:=I.list ha
 rw[vT_T] at rv
 have hl:=rv.length
 simp only[List.length_map] at hl
 refine sorted_strs pl.isList (vals_strs rv) (by omega) fun out ss' h1 h2 h3=>?_
 have hS:=srt_of h3
 have hP:(ss'.map fun x=>x.cps.toList).Perm ls:=by
  have:=h2.map fun x:Str=>x.cps.toList
  rw[List.map_map] at this
  have e:ls.map ((fun x:Str=>x.cps.toList)∘T)=ls:=by
   have:((fun x:Str=>x.cps.toList)∘T)=id:=funext fun l=>T_cps l
   rw[this,List.map_id]
  rw[e] at this
  exact this
 obtain⟨c,hat⟩:=sortedAll_at s.heap its out
 have hlen:ss'.length=ls.length:=by have:=h2.length_eq;simpa using this
 refine⟨.ref (s.heap.objs.size+1),_,I.laid (t':=s.toks) (o:=.lst (vT (ss'.map fun x=>x.cps.toList))) (fun b o e=>sortedAll_old e) (Nat.le_succ _) ?_,rfl,q _ _ (I.hok.fresh (Nat.le_succ _)) hP hS⟩
 refine⟨?_,out.toList,c,?_,by simpa [seqObj] using hat⟩
 ·rw[← vT_str,List.length_map,sizeLine_eq];omega
 ·rw[← vT_str];exact strs_vals h1
theorem vals_of:∀{xs:List V}{us:List Value},xs.length=us.length→(∀(j:Nat) x u,xs[j]? = some x→us[j]? = some u→RelV x u)→Vals xs us
 | [],[],_,_=>.nil
 | [],_::_,h,_=>by simp at h
 | _::_,[],h,_=>by simp at h
 | x::xs,u::us,h,k=>.cons (k 0 x u rfl rfl) (vals_of (by simpa using h) fun j y v e1 e2=>k (j+1) y v (by simpa using e1) (by simpa using e2))
theorem pg_two {K:PySem.W.Frag}{i j:Nat}{x y:Str}{px py pos:Pos}{k:Nat}(hK:X.K=K)(hc:X.calm=true)(hN:X.N.Nodup)(hi:X.N[i]? = some x)(hj:X.N[j]? = some y)(hx:Loc X.env.scope x)(hy:Loc X.env.scope y)
  (fx:X.fn x=true∨X.env.scope.names.lookup x=some .local:=by first|exact .inl rfl|exact .inr rfl|assumption) (fy:X.fn y=true∨X.env.scope.names.lookup y=some .local:=by first|exact .inl rfl|exact .inr rfl|assumption) :
  PG X (.Tuple [.Name x px,.Name y py] k pos) (gTup K 2 (gCons (gName i) (gCons (gName j) gNil))):=hK▸pg_tup hc (pgs_cons (yd hN hi hx fx) (pgs_cons (yd hN hj hy fy) pgs_nil))
end
theorem turns_zip {K:PySem.W.Frag}{l1 l2:Addr}{xs ys:List V}(hz:xs.length≤sizeLine){g:TG}{tt:TT}{te:TE}{σ0:St}{F:List V→Hp→Prop}{H1:Hp}(Pv:Nat→List V→Hp→Prop)(h0:Pv 0 [] H1)(hG:∀i vs H,Pv i vs H→SqT K H l1 xs∧SqT K H l2 ys∧vs.length≤i)
  (hs:∀i x y p vs H,xs[i]? = some x→ys[i]? = some y→H p=none→Pv i vs H→g (.ref p) σ0 (upd H p (.tup [x,y])) fun σ2 H2=>Kps σ0 σ2∧tt σ2 H2 fun b H3=>if b=true then te σ2 H3 fun v H4=>Pv (i+1) (vs++[v]) H4 else Pv (i+1) vs H3) (hd:∀vs H,Pv (min xs.length ys.length) vs H→F vs H) :
  tTurns g tt te σ0 F (Itz K l1 l2 xs ys) H1:=by
 refine⟨fun i m vs H=>m=min xs.length ys.length - i∧i≤min xs.length ys.length∧Pv i vs H,⟨_,rfl,Nat.zero_le _,h0⟩,?_⟩
 rintro i m vs H ⟨rfl,hi,p⟩
 obtain⟨q1,q2,hl⟩:=hG i vs H p
 refine⟨by omega,?_⟩
 by_cases hlt:i<min xs.length ys.length
 ·refine .inr ⟨⟨q1,q2,hlt⟩,by omega,Pv (i+1),fun vs' H' p'=>⟨min xs.length ys.length - (i+1),by omega,rfl,hlt,p'⟩,?_⟩
  rintro v H' ⟨a,x,y,e0,e1,e2,rfl,rfl⟩
  exact hs i x y a vs H e1 e2 e0 p
 ·have e:i=min xs.length ys.length:=by omega
  subst e
  exact .inl ⟨⟨q1,q2,Nat.le_refl _⟩,hd vs H p⟩
theorem for_zip {K:PySem.W.Frag}{l1 l2:Addr}{xs ys:List V}{g:TG}{tb:TS}{D:Ends}{σ:St}{H:Hp}(Pv:Nat→St→Hp→Prop)(h0:Pv 0 σ H)(hG:∀i σ H,Pv i σ H→SqT K H l1 xs∧SqT K H l2 ys)
  (hs:∀i x y p σ H,xs[i]? = some x→ys[i]? = some y→H p=none→Pv i σ H→g (.ref p) σ (upd H p (.tup [x,y])) fun σ2 H2=>tb {D with nx:=Pv (i+1),ct:=Pv (i+1),bk:=D.nx} σ2 H2) (hd:∀σ H,Pv (min xs.length ys.length) σ H→D.nx σ H) :
  ∃ W:Nat→Nat→St→Hp→Prop,(∃m,W 0 m σ H)∧∀i m σ H,W i m σ H →
   ((Itz K l1 l2 xs ys).stop i H∧D.nx σ H)∨((Itz K l1 l2 xs ys).go i H∧∃N:St→Hp→Prop,(∀σ' H',N σ' H'→∃m',m'<m∧W (i+1) m' σ' H')∧∀x H',(Itz K l1 l2 xs ys).yld i H x H'→g x σ H' fun σ2 H2=>tb {D with nx:=N,ct:=N,bk:=D.nx} σ2 H2):=by
 refine⟨fun i m σ H=>m=min xs.length ys.length - i∧i≤min xs.length ys.length∧Pv i σ H,⟨_,rfl,Nat.zero_le _,h0⟩,?_⟩
 rintro i m σ H ⟨rfl,hi,p⟩
 obtain⟨q1,q2⟩:=hG i σ H p
 by_cases hlt:i<min xs.length ys.length
 ·refine .inr ⟨⟨q1,q2,hlt⟩,Pv (i+1),fun σ' H' p'=>⟨min xs.length ys.length - (i+1),by omega,rfl,hlt,p'⟩,?_⟩
  rintro v H' ⟨a,x,y,e0,e1,e2,rfl,rfl⟩
  exact hs i x y a σ H e1 e2 e0 p
 ·have e:i=min xs.length ys.length:=by omega
  subst e
  exact .inl ⟨⟨q1,q2,Nat.le_refl _⟩,hd σ H p⟩
end L2
namespace My
def abcd:List Nat:=[97,98,99,100]
def wt (ws:List Int)(c:Nat):Int:=ws.getD (c - 97) 0
def up (ws:List Int):List Nat→Int
 | []=>1
 | c::r=>wt ws c*up ws r
def dn (ws:List Int)(l:List Nat):Int:=ws.sum ^ l.length
def SrcOk (ws:List Int):Prop:=2≤ws.length∧ws.length≤4∧∀w∈ws,1≤w∧w≤99
def LetOk (m:Nat)(l:List Nat):Prop:=∀c∈l,97≤c∧c<97+m
theorem LetOk.app {m:Nat}{l k:List Nat}(a:LetOk m l)(b:LetOk m k):LetOk m (l++k):=fun c hc=>by
 rcases List.mem_append.mp hc with h|h
 ·exact a c h
 ·exact b c h
theorem up_app (ws:List Int)(l m:List Nat):up ws (l++m)=up ws l*up ws m:=by
 induction l with
 | nil=>simp[up]
 | cons c r ih=>simp only[List.cons_append,up,ih];grind
theorem wt_mem {ws:List Int}(h:SrcOk ws){c:Nat}(hc:97≤c∧c<97+ws.length):wt ws c∈ws:=by
 unfold wt
 have hi:c - 97<ws.length:=by omega
 rw[List.getD_eq_getElem?_getD,List.getElem?_eq_getElem hi]
 exact List.getElem_mem hi
theorem wt_range {ws:List Int}(h:SrcOk ws){c:Nat}(hc:97≤c∧c<97+ws.length):1≤wt ws c∧wt ws c≤99:=h.2.2 _ (wt_mem h hc)
theorem up_pos {ws:List Int}(h:SrcOk ws){l:List Nat}(hl:LetOk ws.length l):0<up ws l:=by
 induction l with
 | nil=>show(0:Int)<1;decide
 | cons c r ih =>
  have h1:=(wt_range h (hl c List.mem_cons_self)).1
  have h2:=ih fun d hd=>hl d (List.mem_cons_of_mem _ hd)
  exact Int.mul_pos (by omega) h2
theorem sum_ge:∀{ws:List Int},(∀w∈ws,1≤w∧w≤99)→(ws.length:Int)≤ws.sum∧ws.sum≤99*ws.length
 | [],_=>by simp
 | w::r,h=>by
  have h1:=h w List.mem_cons_self
  have h2:=sum_ge (ws:=r) fun x hx=>h x (List.mem_cons_of_mem _ hx)
  rw[List.sum_cons,List.length_cons]
  omega
theorem sum_mem:∀{ws:List Int},(∀w∈ws,1≤w∧w≤99)→∀w∈ws,w+(ws.length:Int) - 1≤ws.sum
 | v::r,h,w,hw=>by
  have h1:=h v List.mem_cons_self
  have hr:∀x∈r,1≤x∧x≤99:=fun x hx=>h x (List.mem_cons_of_mem _ hx)
  rw[List.sum_cons,List.length_cons]
  rcases List.mem_cons.mp hw with rfl|hw
  ·have:=(sum_ge hr).1;omega
  ·have:=sum_mem hr w hw;omega
theorem W_range {ws:List Int}(h:SrcOk ws):2≤ws.sum∧ws.sum≤396:=by
 have:=sum_ge h.2.2
 have:=h.1
 have:=h.2.1
 omega
theorem wt_lt {ws:List Int}(h:SrcOk ws){c:Nat}(hc:97≤c∧c<97+ws.length):wt ws c<ws.sum:=by
 have:=sum_mem h.2.2 _ (wt_mem h hc)
 have:=h.1
 omega
theorem pow_mono {a:Int}(ha:1≤a){n m:Nat}(h:n≤m):a ^ n≤a ^ m:=by
 obtain⟨k,rfl⟩:=Nat.exists_eq_add_of_le h
 rw[Int.pow_add]
 have h1:0<a ^ n:=Int.pow_pos (by omega)
 have h2:0<a ^ k:=Int.pow_pos (by omega)
 have:=Int.mul_le_mul_of_nonneg_left (show(1:Int)≤a ^ k by omega) (Int.le_of_lt h1)
 omega
def Fra (B:Nat)(x:Int×Int):Prop:=0≤x.1∧0<x.2∧x.1<2 ^ B∧x.2<2 ^ B
theorem Fra.mono {B C:Nat}{x:Int×Int}(h:Fra B x)(hBC:B≤C):Fra C x:=by
 have:=pow_mono (a:=2) (by decide) hBC
 obtain⟨a,b,c,d⟩:=h
 exact⟨a,b,by omega,by omega⟩
section
variable {ws:List Int}(h:SrcOk ws)
include h
def acc (ws:List Int)(l:List Nat)(S:Int):Int×Int:=low (up ws l*S) (dn ws l*ws.sum)
end
section
variable {a b c d e f:Int}(hb:0<b)(hd:0<d)(hf:0<f)
include hb
end
end My
namespace My
def rising (ps:List (List Nat)):Bool:=(ps.zip ps.tail).all fun x=>decide (x.1<x.2)
def isInner (ps:List (List Nat))(x:List Nat):Bool:=ps.any fun p=>x.isPrefixOf p && !decide (p=x)
def isApart (ps:List (List Nat))(x:List Nat):Bool:=!(ps.any fun p=>x.isPrefixOf p || p.isPrefixOf x)
def zH (m:Nat)(xs:List (List Nat)):List (List Nat):=xs.flatMap fun x=>(abcd.take m).map fun c=>x++[c]
def firstPair (ps:List (List Nat)):Option (List Nat×List Nat):=(ps.zip ps.tail).find? fun x=>x.1.isPrefixOf x.2
def fta (m:Nat)(ps:List (List Nat)):Nat→List (List Nat)→Option (List Nat)
 | 0,_=>none
 | n+1,inner=>if inner=[] then none else match (zH m inner).find? (isApart ps) with
  | some x=>some x
  | none=>fta m ps n ((zH m inner).filter (isInner ps))
def firstText (m:Nat)(ps:List (List Nat)):Option (List Nat):=fta m ps 32 [[]]
def isBook (m:Nat)(ps:List (List Nat)):Bool:=rising ps&&(firstPair ps).isNone&&(firstText m ps).isNone
def zW (m:Nat):Nat→List (List Nat)
 | 0=>[[]]
 | n+1=>zH m (zW m n)
theorem goneOn_len (m:Nat)(hm:m≤4)(xs:List (List Nat)):(zH m xs).length≤4*xs.length:=by
 unfold zH
 induction xs with
 | nil=>simp
 | cons x r ih =>
  rw[List.flatMap_cons,List.length_append,List.length_map,List.length_take,List.length_cons]
  omega
theorem goneOn_mem {m:Nat}{xs:List (List Nat)}{y:List Nat}(h:y∈zH m xs):∃x∈xs,∃c∈abcd.take m,y=x++[c]:=by
 unfold zH at h
 obtain⟨x,hx,hy⟩:=List.mem_flatMap.mp h
 obtain⟨c,hc,rfl⟩:=List.mem_map.mp hy
 exact⟨x,hx,c,hc,rfl⟩
theorem inner_len {ps:List (List Nat)}{x:List Nat}(h:isInner ps x=true)(h8:∀p∈ps,p.length≤31):x.length<31:=by
 unfold isInner at h
 obtain⟨p,hp,e⟩:=List.any_eq_true.mp h
 rw[Bool.and_eq_true] at e
 obtain⟨s,rfl⟩:=List.isPrefixOf_iff_prefix.mp e.1
 have hs:s≠[]:=fun z=>by subst z;simp at e
 have:=h8 _ hp
 rw[List.length_append] at this
 have:=List.length_pos_iff.mpr hs
 omega
def addK (ks:List (List Nat))(k:List Nat):List (List Nat):=if k∈ks then ks else ks++[k]
def begs (p:List Nat):List (List Nat):=(List.range p.length).map fun e=>p.take e
def zU (ps:List (List Nat)):List (List Nat):=(ps.flatMap begs).foldl addK []
def sortF (ls:List (List Nat)):List (List Nat):=ls.mergeSort fun a b=>!decide (b<a)
theorem sortF_srt (ls:List (List Nat)):(sortF ls).Pairwise (·≤·):=by
 have h:=List.pairwise_mergeSort (le:=fun a b:List Nat=>!decide (b<a)) (fun a b c h1 h2=>by
  have h1':a≤b:=List.not_lt.mp (by simpa using h1)
  have h2':b≤c:=List.not_lt.mp (by simpa using h2)
  have h3:¬c<a:=List.not_lt.mpr (List.le_trans h1' h2')
  simpa using h3) (fun a b=>by
  rcases List.le_total a b with h|h
  ·have:=List.not_lt.mpr h
   simp[this]
  ·have:=List.not_lt.mpr h
   simp[this]) ls
 exact h.imp fun h=>List.not_lt.mp (by simpa using h)
theorem sortF_perm (ls:List (List Nat)):(sortF ls).Perm ls:=List.mergeSort_perm ls _
theorem sortF_eq {ls ms:List (List Nat)}(h:ms.Pairwise (·≤·))(p:ms.Perm ls):ms=sortF ls:=List.Perm.eq_of_pairwise (fun _ _ _ _ h k=>List.le_antisymm h k) h (sortF_srt ls) (p.trans (sortF_perm ls).symm)
def zL (ps:List (List Nat))(s:List (List Nat)×List Nat)(c:Nat):List (List Nat)×List Nat:=if s.2++[c]∈ps then(s.1++[s.2++[c]],[]) else(s.1,s.2++[c])
def cutF (ps:List (List Nat))(l:List Nat):List (List Nat)×List Nat:=l.foldl (zL ps) ([],[])
theorem cutF_len (ps:List (List Nat))(l:List Nat):(cutF ps l).1.length≤l.length∧(cutF ps l).2.length≤l.length:=by
 have key:∀(l:List Nat) (s:List (List Nat)×List Nat),(l.foldl (zL ps) s).1.length≤s.1.length+l.length∧(l.foldl (zL ps) s).2.length≤s.2.length+l.length:=by
  intro l
  induction l with
  | nil=>intro s;simp
  | cons c r ih =>
   intro s
   rw[List.foldl_cons,List.length_cons]
   have:=ih (zL ps s c)
   have h1:(zL ps s c).1.length≤s.1.length+1∧(zL ps s c).2.length≤s.2.length+1:=by
    unfold zL
    split <;>simp
   omega
 have:=key l ([],[])
 simpa [cutF] using this
structure Book (m:Nat)(B:List (List Nat)):Prop where
 m2:2≤m
 m4:m≤4
 let_:∀p∈B,LetOk m p
 ne:∀p∈B,p≠[]
 pf:∀p∈B,∀q∈B,p <+: q→p=q
 cv:∀x,LetOk m x→∃p∈B,p <+: x∨x <+: p
 srt:B.Pairwise (·≤·)
 nd:B.Nodup
theorem abcd_let {m c:Nat}(h:c∈abcd.take m):97≤c∧c<97+m:=by
 obtain⟨i,hi,rfl⟩:=List.mem_iff_getElem.mp h
 have h1:i<m:=by rw[List.length_take] at hi;omega
 have h2:i<4:=by rw[List.length_take] at hi;have:abcd.length=4:=rfl;omega
 rw[List.getElem_take]
 have:i=0∨i=1∨i=2∨i=3:=by omega
 rcases this with rfl|rfl|rfl|rfl
 ·show 97≤97∧97<_;omega
 ·show 97≤98∧98<_;omega
 ·show 97≤99∧99<_;omega
 ·show 97≤100∧100<_;omega
theorem let_abcd {m c:Nat}(hm:m≤4)(h:97≤c∧c<97+m):c∈abcd.take m:=by
 have:m=0∨m=1∨m=2∨m=3∨m=4:=by omega
 have:c=97∨c=98∨c=99∨c=100:=by omega
 rcases this with rfl|rfl|rfl|rfl <;>rcases(by assumption:m=0∨_) with rfl|rfl|rfl|rfl|rfl <;>first|decide|omega
theorem abcd_nd (m:Nat):(abcd.take m).Nodup:=List.Sublist.nodup (List.take_sublist _ _) (by decide)
theorem LetOk.one {m c:Nat}(h:c∈abcd.take m):LetOk m [c]:=fun d hd=>by rw[List.mem_singleton.mp hd];exact abcd_let h
theorem LetOk.pre {m:Nat}{x y:List Nat}(h:LetOk m y)(p:x <+: y):LetOk m x:=fun c hc=>h c (p.subset hc)
theorem not_apart {m:Nat}{B:List (List Nat)}(h:Book m B){x:List Nat}(hx:LetOk m x):isApart B x=false:=by
 obtain⟨p,hp,e⟩:=h.cv x hx
 unfold isApart
 rw[Bool.not_eq_false',List.any_eq_true]
 refine⟨p,hp,?_⟩
 rw[Bool.or_eq_true,List.isPrefixOf_iff_prefix,List.isPrefixOf_iff_prefix]
 exact e.symm
theorem goneOn_let {m:Nat}{xs:List (List Nat)}(h:∀x∈xs,LetOk m x):∀y∈zH m xs,LetOk m y:=fun y hy=>by
 obtain⟨x,hx,c,hc,rfl⟩:=goneOn_mem hy
 exact(h x hx).app (LetOk.one hc)
theorem fta_none {m:Nat}{B:List (List Nat)}(h:Book m B):∀(n:Nat) (xs:List (List Nat)),(∀x∈xs,LetOk m x)→fta m B n xs=none
 | 0,_,_=>rfl
 | n+1,xs,hx=>by
  unfold fta
  split
  ·rfl
  ·have hg:=goneOn_let hx
   have e:(zH m xs).find? (isApart B)=none:=List.find?_eq_none.mpr fun x hx=>by rw[not_apart h (hg x hx)];exact Bool.false_ne_true
   rw[e]
   exact fta_none h n _ fun x hx=>hg x (List.mem_filter.mp hx).1
theorem firstText_none {m:Nat}{B:List (List Nat)}(h:Book m B):firstText m B=none:=fta_none h 32 [[]] fun x hx=>by
 rw[List.mem_singleton.mp hx]
 intro c hc
 cases hc
theorem zip_tail_mem {α:Type}:∀{l:List α}{x:α×α},x∈l.zip l.tail→x.1∈l∧x.2∈l:=fun {l x} h=>⟨(List.of_mem_zip h).1,List.mem_of_mem_tail (List.of_mem_zip h).2⟩
theorem zip_tail_pair {α:Type}{R:α→α→Prop}:∀{l:List α},l.Pairwise R→∀x∈l.zip l.tail,R x.1 x.2
 | [],_,x,h=>by cases h
 | [_],_,x,h=>by cases h
 | a::b::r,p,x,h=>by
  have h':x∈(a,b)::(b::r).zip r:=h
  rcases List.mem_cons.mp h' with rfl|h'
  ·exact List.rel_of_pairwise_cons p List.mem_cons_self
  ·exact zip_tail_pair (l:=b::r) (List.pairwise_cons.mp p).2 x h'
theorem strict {B:List (List Nat)}(s:B.Pairwise (·≤·))(n:B.Nodup):B.Pairwise (· < ·):=by
 have:=List.Pairwise.and s n
 exact this.imp fun⟨h,k⟩=>Classical.byContradiction fun hn=>k (List.le_antisymm h (List.not_lt.mp hn))
theorem firstPair_none {m:Nat}{B:List (List Nat)}(h:Book m B):firstPair B=none:=by
 refine List.find?_eq_none.mpr fun x hx=>?_
 intro e
 have hm:=zip_tail_mem hx
 have:=h.pf _ hm.1 _ hm.2 (List.isPrefixOf_iff_prefix.mp e)
 have lt:=zip_tail_pair (strict h.srt h.nd) x hx
 rw[this] at lt
 exact List.lt_irrefl _ lt
theorem rising_of {m:Nat}{B:List (List Nat)}(h:Book m B):rising B=true:=by
 unfold rising
 rw[List.all_eq_true]
 exact fun x hx=>decide_eq_true (zip_tail_pair (strict h.srt h.nd) x hx)
theorem Book.isBook {m:Nat}{B:List (List Nat)}(h:Book m B):isBook m B=true:=by
 unfold My.isBook
 rw[rising_of h,firstPair_none h,firstText_none h]
 rfl
def kids (m:Nat)(p:List Nat):List (List Nat):=(abcd.take m).map fun c=>p++[c]
theorem kids_mem {m:Nat}{p x:List Nat}:x∈kids m p↔∃c∈abcd.take m,x=p++[c]:=by
 unfold kids
 rw[List.mem_map]
 exact⟨fun⟨c,h,e⟩=>⟨c,h,e.symm⟩,fun⟨c,h,e⟩=>⟨c,h,e.symm⟩⟩
theorem kids_nd (m:Nat)(p:List Nat):(kids m p).Nodup:=by
 unfold kids
 rw[List.nodup_iff_pairwise_ne,List.pairwise_map]
 refine(abcd_nd m).imp fun h e=>h ?_
 exact List.singleton_inj.mp (List.append_cancel_left e)
theorem kids_len (m:Nat)(hm:m≤4)(p:List Nat):(kids m p).length=m:=by
 unfold kids
 rw[List.length_map,List.length_take]
 show min m 4=m
 omega
theorem cv_of {m:Nat}(hm:2≤m){B:List (List Nat)}{p:List Nat}(hp:∀x∈kids m p,x∈B){x:List Nat}(hx:LetOk m x)(m4:m≤4)(h:p <+: x∨x <+: p):∃q∈B,q <+: x∨x <+: q:=by
 have h97:97∈abcd.take m:=let_abcd m4 (by omega)
 rcases h with⟨s,rfl⟩|h
 ·cases s with
  | nil=>exact⟨p++[97],hp _ (kids_mem.mpr ⟨97,h97,rfl⟩),.inr (by rw[List.append_nil];exact List.prefix_append _ _)⟩
  | cons c r =>
   have hc:=hx c (by simp)
   exact⟨p++[c],hp _ (kids_mem.mpr ⟨c,let_abcd m4 hc,rfl⟩),.inl ⟨r,by simp⟩⟩
 ·exact⟨p++[97],hp _ (kids_mem.mpr ⟨97,h97,rfl⟩),.inr (h.trans (List.prefix_append _ _))⟩
theorem ne_snoc (p:List Nat)(c:Nat):p++[c]≠p:=fun e=>by have:=congrArg List.length e;simp at this
def part (m:Nat)(B:List (List Nat))(j:Nat):List (List Nat):=sortF (B.eraseIdx j++kids m (B.getD j []))
theorem part_mem {m:Nat}{B:List (List Nat)}(hn:B.Nodup){j:Nat}(hj:j<B.length){x:List Nat}:x∈part m B j↔(x∈B∧x≠B.getD j [])∨x∈kids m (B.getD j []):=by
 unfold part
 rw[(sortF_perm _).mem_iff,List.mem_append]
 have e:B.getD j []=B[j]:=by rw[List.getD_eq_getElem?_getD,List.getElem?_eq_getElem hj];rfl
 have:x∈B.eraseIdx j↔x∈B∧x≠B.getD j []:=by
  rw[List.mem_eraseIdx_iff_getElem,e]
  constructor
  ·rintro⟨i,hi,hij,rfl⟩
   exact⟨List.getElem_mem hi,fun z=>hij ((List.getElem_inj hn).mp z)⟩
  ·rintro⟨hx,hne⟩
   obtain⟨i,hi,rfl⟩:=List.mem_iff_getElem.mp hx
   exact⟨i,hi,fun z=>hne (by subst z;rfl),rfl⟩
 rw[this]
theorem Book.part {m:Nat}{B:List (List Nat)}(h:Book m B){j:Nat}(hj:j<B.length):Book m (part m B j):=by
 have hpm:B.getD j []∈B:=by rw[List.getD_eq_getElem?_getD,List.getElem?_eq_getElem hj];exact List.getElem_mem hj
 have mem:=fun x=>part_mem (m:=m) h.nd hj (x:=x)
 have hsr:(My.part m B j).Pairwise (·≤·):=sortF_srt _
 have hnd:(My.part m B j).Nodup:=by
  unfold My.part
  refine(sortF_perm _).nodup_iff.mpr (List.nodup_append.mpr ⟨h.nd.eraseIdx j,kids_nd _ _,?_⟩)
  rintro a ha b hb rfl
  have haB:a∈B:=List.mem_of_mem_eraseIdx ha
  obtain⟨c,hc,rfl⟩:=kids_mem.mp hb
  have:=h.pf _ hpm _ haB (List.prefix_append _ _)
  exact ne_snoc _ _ this.symm
 generalize My.part m B j=C at mem hsr hnd
 generalize B.getD j []=p at mem hpm
 refine⟨h.m2,h.m4,fun x hx=>?_,fun x hx=>?_,fun x hx y hy hxy=>?_,fun x hx=>?_,hsr,hnd⟩
 ·rcases (mem x).mp hx with⟨hx,_⟩|hx
  ·exact h.let_ x hx
  ·obtain⟨c,hc,rfl⟩:=kids_mem.mp hx
   exact(h.let_ _ hpm).app (LetOk.one hc)
 ·rcases (mem x).mp hx with⟨hx,_⟩|hx
  ·exact h.ne x hx
  ·obtain⟨c,hc,rfl⟩:=kids_mem.mp hx
   simp
 ·rcases (mem x).mp hx with⟨hx,nx⟩|hx <;>rcases(mem y).mp hy with⟨hy,ny⟩|hy
  ·exact h.pf x hx y hy hxy
  ·obtain⟨c,hc,rfl⟩:=kids_mem.mp hy
   rcases List.prefix_concat_iff.mp hxy with e|e
   ·exact e
   ·exact absurd (h.pf x hx p hpm e) nx
  ·obtain⟨c,hc,rfl⟩:=kids_mem.mp hx
   exact absurd (h.pf p hpm y hy ((List.prefix_append _ _).trans hxy)).symm ny
  ·obtain⟨c,hc,rfl⟩:=kids_mem.mp hx
   obtain⟨d,hd,rfl⟩:=kids_mem.mp hy
   exact hxy.eq_of_length (by simp)
 ·obtain ⟨q,hq,e⟩:=h.cv x hx
  by_cases hqp:q=p
  ·subst hqp
   exact cv_of h.m2 (fun z hz=>(mem z).mpr (.inr hz)) hx h.m4 e
  ·exact⟨q,(mem q).mpr (.inl ⟨hq,hqp⟩),e⟩
theorem Book.letters {m:Nat}(m2:2≤m)(m4:m≤4):Book m (kids m []):=by
 refine⟨m2,m4,fun x hx=>?_,fun x hx=>?_,fun x hx y hy hxy=>?_,fun x hx=>?_,?_,kids_nd m []⟩
 ·obtain⟨c,hc,rfl⟩:=kids_mem.mp hx
  exact LetOk.one hc
 ·obtain⟨c,hc,rfl⟩:=kids_mem.mp hx
  simp
 ·obtain⟨c,hc,rfl⟩:=kids_mem.mp hx
  obtain⟨d,hd,rfl⟩:=kids_mem.mp hy
  exact hxy.eq_of_length (by simp)
 ·exact cv_of m2 (fun z hz=>hz) hx m4 (.inl (List.nil_prefix))
 ·have:m=2∨m=3∨m=4:=by omega
  rcases this with rfl|rfl|rfl <;>decide
def Inner (B:List (List Nat))(x:List Nat):Prop:=∃p∈B,x <+: p∧x≠p
theorem foldl_addK (l:List (List Nat)):∀ks:List (List Nat),ks.Nodup→(l.foldl addK ks).Nodup∧∀x,x∈l.foldl addK ks↔x∈ks∨x∈l:=by
 induction l with
 | nil=>intro ks h;exact⟨h,fun x=>by simp⟩
 | cons k r ih =>
  intro ks h
  rw[List.foldl_cons]
  have h1:(addK ks k).Nodup∧∀x,x∈addK ks k↔x∈ks∨x=k:=by
   unfold addK
   split
   ·exact⟨h,fun x=>⟨.inl,fun z=>z.elim id fun e=>by rw[e];assumption⟩⟩
   ·rename_i hk
    refine⟨List.nodup_append.mpr ⟨h,by simp,?_⟩,fun x=>by simp⟩
    rintro a ha b hb rfl
    rw[List.mem_singleton.mp hb] at ha
    exact hk ha
  obtain⟨h2,h3⟩:=ih _ h1.1
  refine⟨h2,fun x=>?_⟩
  rw[h3,h1.2,List.mem_cons,or_assoc]
theorem begs_mem {p x:List Nat}:x∈begs p↔x <+: p∧x≠p:=by
 unfold begs
 rw[List.mem_map]
 constructor
 ·rintro⟨e,he,rfl⟩
  have he':=List.mem_range.mp he
  refine⟨List.take_prefix _ _,fun z=>?_⟩
  have:=congrArg List.length z
  rw[List.length_take] at this
  omega
 ·rintro⟨h,hn⟩
  refine⟨x.length,List.mem_range.mpr ?_,(List.prefix_iff_eq_take.mp h).symm⟩
  have h1:=h.length_le
  have:x.length≠p.length:=fun z=>hn (h.eq_of_length z)
  omega
theorem innerKeys_nd (B:List (List Nat)):(zU B).Nodup:=(foldl_addK _ [] List.nodup_nil).1
theorem innerKeys_mem {B:List (List Nat)}{x:List Nat}:x∈zU B↔Inner B x:=by
 unfold zU
 rw[(foldl_addK _ [] List.nodup_nil).2,List.mem_flatMap]
 simp only[List.not_mem_nil,false_or]
 exact⟨fun⟨p,hp,h⟩=>⟨p,hp,begs_mem.mp h⟩,fun⟨p,hp,h⟩=>⟨p,hp,begs_mem.mpr h⟩⟩
theorem inner_part {m:Nat}(m2:2≤m)(m4:m≤4){B:List (List Nat)}(hn:B.Nodup){j:Nat}(hj:j<B.length){x:List Nat}(h:Inner (part m B j) x):Inner B x∨x=B.getD j []:=by
 obtain⟨q,hq,hx,hne⟩:=h
 have hpm:B.getD j []∈B:=by rw[List.getD_eq_getElem?_getD,List.getElem?_eq_getElem hj];exact List.getElem_mem hj
 rcases(part_mem hn hj).mp hq with⟨hq,_⟩|hq
 ·exact .inl ⟨q,hq,hx,hne⟩
 ·obtain ⟨c,hc,rfl⟩:=kids_mem.mp hq
  rcases List.prefix_concat_iff.mp hx with e|e
  ·exact absurd e hne
  ·by_cases hp:x=B.getD j []
   ·exact .inr hp
   ·exact .inl ⟨_,hpm,e,hp⟩
theorem sortF_mem {ls:List (List Nat)}{x:List Nat}:x∈sortF ls↔x∈ls:=(sortF_perm ls).mem_iff
theorem part_len {m:Nat}(m4:m≤4){B:List (List Nat)}{j:Nat}(hj:j<B.length):(part m B j).length=B.length - 1+m:=by
 unfold part
 rw[(sortF_perm _).length_eq,List.length_append,kids_len m m4,List.length_eraseIdx,if_pos hj]
def Free (B:List (List Nat))(x:List Nat):Prop:=∀y,y <+: x→y≠[]→y∉B
theorem fold_free {B:List (List Nat)}(acc:List (List Nat)):∀(r l:List Nat),Free B (l++r)→r.foldl (zL B) (acc,l)=(acc,l++r)
 | [],l,_=>by simp
 | c::r,l,h=>by
  have hn:l++[c]∉B:=h _ ⟨r,by simp⟩ (by simp)
  rw[List.foldl_cons]
  have e:zL B (acc,l) c=(acc,l++[c]):=by unfold zL;rw[if_neg hn]
  rw[e,fold_free acc r (l++[c]) (by simpa using h)]
  simp
theorem fold_acc {B:List (List Nat)}(acc:List (List Nat)):∀(r:List Nat) (a:List (List Nat)) (l:List Nat),r.foldl (zL B) (acc++a,l)=(acc++(r.foldl (zL B) (a,l)).1,(r.foldl (zL B) (a,l)).2)
 | [],a,l=>rfl
 | c::r,a,l=>by
  rw[List.foldl_cons,List.foldl_cons]
  by_cases h:l++[c]∈B
  ·have e1:zL B (acc++a,l) c=(acc++(a++[l++[c]]),[]):=by unfold zL;rw[if_pos h,List.append_assoc]
   have e2:zL B (a,l) c=(a++[l++[c]],[]):=by unfold zL;rw[if_pos h]
   rw[e1,e2]
   exact fold_acc acc r _ _
  ·have e1:zL B (acc++a,l) c=(acc++a,l++[c]):=by unfold zL;rw[if_neg h]
   have e2:zL B (a,l) c=(a,l++[c]):=by unfold zL;rw[if_neg h]
   rw[e1,e2]
   exact fold_acc acc r _ _
theorem cut_inv (B:List (List Nat)):∀(r:List Nat) (s:List (List Nat)×List Nat),Free B s.2→(∀p∈s.1,p∈B)→Free B (r.foldl (zL B) s).2∧(∀p∈(r.foldl (zL B) s).1,p∈B)∧(r.foldl (zL B) s).1.flatten++(r.foldl (zL B) s).2=s.1.flatten++s.2++r
 | [],s,h1,h2=>⟨h1,h2,by simp⟩
 | c :: r,s,h1,h2=>by
  rw[List.foldl_cons]
  by_cases h:s.2++[c]∈B
  ·have e:zL B s c=(s.1++[s.2++[c]],[]):=by unfold zL;rw[if_pos h]
   rw[e]
   obtain ⟨a1,a2,a3⟩:=cut_inv B r (s.1++[s.2++[c]],[]) (fun y hy hn=>absurd (List.prefix_nil.mp hy) hn) (fun p hp=>by
    rcases List.mem_append.mp hp with hp|hp
    ·exact h2 p hp
    ·rw[List.mem_singleton.mp hp];exact h)
   exact⟨a1,a2,by rw[a3];simp⟩
  ·have e:zL B s c=(s.1,s.2++[c]):=by unfold zL;rw[if_neg h]
   rw[e]
   obtain ⟨a1,a2,a3⟩:=cut_inv B r (s.1,s.2++[c]) (fun y hy hn=>by
    rcases List.prefix_concat_iff.mp hy with e|e
    ·rw[e];exact h
    ·exact h1 y e hn) h2
   exact⟨a1,a2,by rw[a3];simp⟩
theorem free_nil (B:List (List Nat)):Free B []:=fun y hy hn=>absurd (List.prefix_nil.mp hy) hn
theorem cut_facts (B:List (List Nat))(l:List Nat):Free B (cutF B l).2∧(∀p∈(cutF B l).1,p∈B)∧(cutF B l).1.flatten++(cutF B l).2=l:=by
 have:=cut_inv B l ([],[]) (free_nil B) (by simp)
 simpa [cutF] using this
theorem cut_free {B:List (List Nat)}{x:List Nat}(h:Free B x):cutF B x=([],x):=by
 have:=fold_free (B:=B) [] x [] (by simpa using h)
 simpa [cutF] using this
theorem cut_app (B:List (List Nat))(l r:List Nat):cutF B (l++r)=((cutF B l).1++(cutF B ((cutF B l).2++r)).1,(cutF B ((cutF B l).2++r)).2):=by
 have h1:cutF B ((cutF B l).2++r)=r.foldl (zL B) ([],(cutF B l).2):=by
  have:=cut_free (cut_facts B l).1
  unfold cutF at this ⊢
  rw[List.foldl_append,this]
 rw[h1]
 have h2:cutF B (l++r)=r.foldl (zL B) (cutF B l):=by unfold cutF;rw[List.foldl_append]
 rw[h2]
 have:=fold_acc (B:=B) (cutF B l).1 r [] (cutF B l).2
 rw[List.append_nil] at this
 exact this
theorem Book.free {m:Nat}{B:List (List Nat)}(h:Book m B){x:List Nat}(hx:Inner B x):Free B x:=fun y hy hn hyB=>by
 obtain⟨p,hp,hxp,hne⟩:=hx
 have e:=h.pf y hyB p hp (hy.trans hxp)
 subst e
 exact hne (List.IsPrefix.eq_of_length hxp (Nat.le_antisymm hxp.length_le hy.length_le))
inductive Gr (m:Nat):Nat→List (List Nat)→Prop
 | z:Gr m 0 (kids m [])
 | s {t:Nat}{B:List (List Nat)}{j:Nat}:Gr m t B→j<B.length→Gr m (t+1) (part m B j)
theorem Gr.book {m:Nat}(m2:2≤m)(m4:m≤4){t:Nat}{B:List (List Nat)}(h:Gr m t B):Book m B:=by
 induction h with
 | z=>exact Book.letters m2 m4
 | s _ hj ih=>exact ih.part hj
theorem Gr.len {m:Nat}(m2:2≤m)(m4:m≤4){t:Nat}{B:List (List Nat)}(h:Gr m t B):B.length=m+t*(m - 1):=by
 induction h with
 | z=>rw[kids_len m m4];omega
 | s _ hj ih =>
  rename_i B' t' _
  rw[part_len m4 hj,ih,Nat.add_mul]
  generalize _*(m - 1)=z
  omega
theorem Gr.short {m:Nat}(m2:2≤m)(m4:m≤4){t:Nat}{B:List (List Nat)}(h:Gr m t B):∀p∈B,p.length≤t+1:=by
 induction h with
 | z=>intro p hp;obtain⟨c,_,rfl⟩:=kids_mem.mp hp;simp
 | s g hj ih =>
  rename_i t' B' j
  intro p hp
  have hpm:B'.getD j []∈B':=by rw[List.getD_eq_getElem?_getD,List.getElem?_eq_getElem hj];exact List.getElem_mem hj
  rcases(part_mem (g.book m2 m4).nd hj).mp hp with⟨hp,_⟩|hp
  ·have:=ih p hp;omega
  ·obtain⟨c,_,rfl⟩:=kids_mem.mp hp
   have:=ih _ hpm
   rw[List.length_append]
   show _+1≤_
   omega
theorem Gr.inner {m:Nat}(m2:2≤m)(m4:m≤4){t:Nat}{B:List (List Nat)}(h:Gr m t B):∃L:List (List Nat),L.length=t+1∧∀x,Inner B x→x∈L:=by
 induction h with
 | z =>
  refine⟨[[]],rfl,fun x hq36=>?_⟩
  obtain⟨p,hp,hx,hn⟩:=hq36
  obtain⟨c,_,rfl⟩:=kids_mem.mp hp
  rcases List.prefix_concat_iff.mp hx with e|e
  ·exact absurd e hn
  ·rw[List.prefix_nil.mp e];simp
 | s g hj ih =>
  rename_i t' B' j
  obtain⟨L,h1,h2⟩:=ih
  refine⟨L++[B'.getD j []],by simp[h1],fun x hx=>?_⟩
  rcases inner_part m2 m4 (g.book m2 m4).nd hj hx with h|h
  ·exact List.mem_append_left _ (h2 x h)
  ·rw[h];simp
theorem Gr.keys {m:Nat}(m2:2≤m)(m4:m≤4){t:Nat}{B:List (List Nat)}(h:Gr m t B):(zU B).length≤t+1:=by
 obtain⟨L,h1,h2⟩:=h.inner m2 m4
 rw[← h1]
 exact(innerKeys_nd B).length_le_of_subset fun x hx=>h2 x (innerKeys_mem.mp hx)
theorem even_mem {m:Nat}(m4:m≤4):∀{n:Nat}{x:List Nat},x∈zW m n↔x.length=n∧LetOk m x
 | 0,x=>by
  show x∈[[]]↔_
  rw[List.mem_singleton,List.length_eq_zero_iff]
  exact⟨fun e=>⟨e,by rw[e];intro c hc;cases hc⟩,fun e=>e.1⟩
 | n+1,x=>by
  show x∈zH m (zW m n)↔_
  constructor
  ·intro h
   obtain⟨y,hy,c,hc,rfl⟩:=goneOn_mem h
   obtain⟨h1,h2⟩:=(even_mem m4).mp hy
   exact⟨by simp[h1],h2.app (LetOk.one hc)⟩
  ·rintro⟨h1,h2⟩
   have hne:x≠[]:=fun e=>by rw[e] at h1;simp at h1
   have e:x.dropLast++[x.getLast hne]=x:=List.dropLast_concat_getLast hne
   unfold zH
   refine List.mem_flatMap.mpr ⟨x.dropLast,(even_mem m4).mpr ⟨by rw[List.length_dropLast];omega,h2.pre (List.dropLast_prefix x)⟩,List.mem_map.mpr ⟨x.getLast hne,let_abcd m4 (h2 _ (List.getLast_mem hne)),e⟩⟩
end My
namespace L2
open PySem PySem.Spec PyProof.Rows
section
variable {prog:Program}{w:World}{A:Around}{E:Value→Shared→Prop}{s:Shared}
theorem collect_tup {l:Addr}{vs:List Value}{Q:List Value→Shared→Prop}(hl:IsTup s.heap l vs.toArray)
  (h:Q vs {s with heap:=(s.heap.push (seqObj "list" #[] 0)).update s.heap.objs.size (Obj.mapSeq (· ++ vs.toArray))}) (hsz:vs.length≤sizeLine) :
  wpAny (model prog w) A (collect (.ref l)) Q E s:=by
 obtain⟨o,ho,hc,n,hd⟩:=id hl
 unfold collect
 refine wpAny_bind (wpAny_runValue (codeAny_builtin entry_proto_collect' ?_))
 show wpAny _ _ (do again (.builtin "list.__iadd__" ⟨[← newList [],.ref l],[]⟩)) _ _ s
 refine wpAny_bind (wpAny_newList (wpAny_pure ⟨Code.quiet_builtin _ (by decide +kernel),codeAny_builtin entry_list_iadd' ?_⟩))
 show wpAny _ _ (Builtin.List.listExtendWith (.ref s.heap.objs.size) (.ref l) (.ref s.heap.objs.size)) _ _ {s with heap:=s.heap.push (seqObj "list" #[] 0)}
 unfold Builtin.List.listExtendWith
 have ho':(s.heap.push (seqObj "list" #[] 0)).get? l=some o:=Heap.get?_push_of_some _ ho
 refine wpAny_bind (wpAny_typeOf (T := "tuple") ⟨o,ho',hc⟩ ?_)
 have ht:(Value.type "tuple" == Value.type "tuple")=true:=by rfl
 rw[if_pos (by rw[ht];simp)]
 refine wpAny_bind (listItems_at ho' hd ?_)
 refine wpAny_bind (listItems_at (xs:=#[]) (n:=0) (Heap.get?_push_size _ rfl) rfl ?_)
 rw[if_neg (by simp)]
 refine wpAny_bind (listUpdate_at (xs:=#[]) (n:=0) (Heap.get?_push_size _ rfl) rfl ?_ (Nat.zero_le _) (by show(#[]++vs.toArray).size≤sizeLine+1;simp only[Array.size_append,List.size_toArray,List.length_nil];omega))
 refine wpAny_pure ?_
 show wpAny (model prog w) A (do
   let o ← load s.heap.objs.size
   match o.data with
   | .seq xs _=>pure xs.toList
   | _=>unsupported "internal:collect") Q E {s with heap:=(s.heap.push (seqObj "list" #[] 0)).update s.heap.objs.size (Obj.mapSeq (· ++ vs.toArray))}
 refine wpAny_bind (wpAny_load (get?_update_seq (Heap.get?_push_size _ rfl) _) ?_)
 show wpAny _ _ (pure ((#[]:Array Value)++vs.toArray).toList) Q E _
 rw[show((#[]:Array Value)++vs.toArray).toList=vs by simp]
 exact wpAny_pure h
theorem sortedKT {κ:KeyKind}(hO:κ.OneLt){l:Addr}{vs:List Value}{Q:Value→Shared→Prop}(hl:IsTup s.heap l vs.toArray)(h0:KeysOf κ (pairsOf vs))(hkk:∀v₁ v₂ rest,vs=v₁::v₂::rest→keyKind' (v₁::v₂::rest).toArray=pure oneType')(h64:vs.length<64)
  (h:∀st':SortSt,(arrOf st').Perm (pairsOf vs)→SortedToK κ (arrOf st') (pairsOf vs).size→Q (.ref (s.heap.objs.size+1)) {s with heap:=sortedAll s.heap vs ((arrOf st').map (·.2))}) :
  wpAny (model prog w) A (call (.builtin "sorted") [.ref l]) Q E s:=by
 have hz:vs.length≤sizeLine:=by rw[sizeLine_eq];omega
 refine Calls.call_function_entry kind_sorted plain_sorted entry_sorted (args_sorted1 _) ?_
 unfold Builtin.«sorted»
 refine wpAny_bind (m:=checkCount "sorted" 1 1 _) (wpAny_pure ?_)
 refine wpAny_bind (collect_tup hl ?_ hz)
 refine wpAny_bind (wpAny_newList ?_)
 have hsz:((s.heap.push (seqObj "list" #[] 0)).update s.heap.objs.size (Obj.mapSeq (· ++ vs.toArray))).objs.size=s.heap.objs.size+1:=by
  rw[Heap.size_update,size_push']
 have hoL:(((s.heap.push (seqObj "list" #[] 0)).update s.heap.objs.size (Obj.mapSeq (· ++ vs.toArray))).push (seqObj "list" vs.toArray 0)).get? (s.heap.objs.size+1)=some (seqObj "list" vs.toArray 0):=by
  rw[← hsz];exact Heap.get?_push_size _ rfl
 show wpAny _ _ _ _ _ {s with heap:=((s.heap.push (seqObj "list" #[] 0)).update s.heap.objs.size (Obj.mapSeq (· ++ vs.toArray))).push (seqObj "list" vs.toArray 0)}
 rw[hsz]
 refine wpAny_bind (wpAny_holding (wpAny_call_entry slot_list_sort ⟨_,hoL,rfl⟩ entry_list_sort (list_sort_treeK hO hoL h0 hkk h64 fun st' a1 a2=>⟨_,rfl,?_⟩) (args_list_sort _)))
 exact wpAny_pure ⟨_,rfl,h st' a1 a2⟩
end
section
variable {X:Cx}
theorem call_sortedT:CallR X (.builtin "sorted") (fun xs H Q=>∃a ls,xs=[.ref a]∧SqT X.K H a (vT ls)∧ls.length<64∧∀p ms,H p=none→ms.Perm ls→Srt ms→Q (.ref p) (upd H p (.lst (vT ms)))):=by
 intro pins s σ H xs us Q I r h
 obtain⟨a,ls,rfl,ha,h64,q⟩:=h
 obtain⟨u,rfl,ru⟩:=vals1 r
 cases ru
 obtain⟨its,rv,pl,hz⟩:=I.tuple ha
 rw[vT_T] at rv
 have hl:=rv.length
 simp only[List.length_map] at hl
 have hS:=vals_strs rv
 refine sortedKT strKind_oneLt pl hS.keysOf (fun v₁ v₂ rest e=>keyKind_strs (by rw[← e];exact hS)) (by omega) fun st' hp hs=>?_
 obtain⟨ss',h1,h2,h3⟩:=sorted_out_str hS hp hs
 have hS:=srt_of h3
 have hP:(ss'.map fun x=>x.cps.toList).Perm ls:=by
  have:=h2.map fun x:Str=>x.cps.toList
  rw[List.map_map] at this
  have e:ls.map ((fun x:Str=>x.cps.toList)∘T)=ls:=by
   have:((fun x:Str=>x.cps.toList)∘T)=id:=funext fun l=>T_cps l
   rw[this,List.map_id]
  rw[e] at this
  exact this
 obtain⟨c,hat⟩:=sortedAll_at s.heap its ((arrOf st').map (·.2))
 have hlen:ss'.length=ls.length:=by have:=h2.length_eq;simpa using this
 refine⟨.ref (s.heap.objs.size+1),_,I.laid (t':=s.toks) (o:=.lst (vT (ss'.map fun x=>x.cps.toList))) (fun b o e=>sortedAll_old e) (Nat.le_succ _) ?_,rfl,q _ _ (I.hok.fresh (Nat.le_succ _)) hP hS⟩
 refine⟨?_,((arrOf st').map (·.2)).toList,c,?_,by rw[Array.toArray_toList];exact hat⟩
 ·rw[← vT_str,List.length_map,sizeLine_eq];omega
 ·rw[← vT_str];exact strs_vals h1
def rCatU (K:PySem.W.Frag):R2:=fun x y H Q=>∃a b xs ys,x=.ref a∧y=.ref b∧SqT K H a xs∧SqT K H b ys∧xs.length+ys.length≤sizeLine ∧
 ∀p H',Same H H'→SqT K H' p (xs++ys)→Q (.ref p) H'
theorem op_catU:OpR X (binaryOp .Add) (rCatU X.K):=by
 intro pins s σ H x y v u Q I rx ry h
 obtain⟨a,b,xs,ys,rfl,rfl,ha,hb,hz,q⟩:=h
 cases rx
 cases ry
 obtain⟨its,r1,p1,_⟩:=I.tuple ha
 obtain⟨its2,r2,p2,_⟩:=I.tuple hb
 by_cases hx:xs=[]
 ·obtain ⟨⟨cls,dd,data,sl⟩,ho,hc,n,hd⟩:=id p1
  obtain⟨⟨cls2,dd2,data2,sl2⟩,ho2,hc2,n2,hd2⟩:=id p2
  simp only at hc hd hc2 hd2
  subst hc hd hc2 hd2
  have hi:its=[]:=r1.nil_iff.mpr hx
  refine concat_meets ⟨_,ho,rfl⟩ ⟨_,ho2,rfl⟩ noFill_tuple_add seq_tuple_add PySem.F.slot_tuple_add PySem.F.entry_tuple_add (PySem.F.args_tuple_add_2 _ _)
   (tuple_addW0 a b its.toArray its2.toArray n n2 dd dd2 sl sl2 (by simp[hi])) ⟨ho,ho2,.ref b,H,I,rfl,q b H (Same.refl _) ?_⟩
  rw[hx]
  exact hb
 ·refine HT.cat_tup p1 p2 (fun z=>hx (r1.nil_iff.mp z)) (fun z=>⟨.ref a,H,I,rfl,q a H (Same.refl _) ?_⟩) (fun z=>?_) (by rw[← r1.length,← r2.length];exact hz)
  ·rw[r2.nil_iff.mp z,List.append_nil]
   exact ha
  ·have hf:H s.heap.objs.size=none:=I.hok.fresh (Nat.le_refl _)
   refine⟨.ref s.heap.objs.size,_,I.laid (t':=s.toks) (o:=.tup (xs++ys)) (fun b ob q=>Heap.get?_push_of_some _ q) (Nat.le_refl _) ?_,rfl,q _ _ (Same.upd hf) (SqT.of zR)⟩
   exact⟨by rw[List.length_append];exact hz,_,r1.append r2,TupD.new _ _⟩
end
end L2
namespace My
theorem inner_iff {ps:List (List Nat)}{x:List Nat}:isInner ps x=true↔Inner ps x:=by
 unfold isInner Inner
 rw[List.any_eq_true]
 constructor
 ·rintro⟨p,hp,e⟩
  rw[Bool.and_eq_true,List.isPrefixOf_iff_prefix,Bool.not_eq_true',decide_eq_false_iff_not] at e
  exact⟨p,hp,e.1,fun z=>e.2 z.symm⟩
 ·rintro⟨p,hp,e,hn⟩
  refine⟨p,hp,?_⟩
  rw[Bool.and_eq_true,List.isPrefixOf_iff_prefix,Bool.not_eq_true',decide_eq_false_iff_not]
  exact⟨e,fun z=>hn z.symm⟩
theorem apart_iff {ps:List (List Nat)}{x:List Nat}:isApart ps x=true↔∀p∈ps,¬x <+: p∧¬p <+: x:=by
 unfold isApart
 rw[Bool.not_eq_true',List.any_eq_false]
 constructor
 ·intro h p hp
  have:=h p hp
  rw[Bool.or_eq_true,List.isPrefixOf_iff_prefix,List.isPrefixOf_iff_prefix] at this
  exact⟨fun z=>this (.inl z),fun z=>this (.inr z)⟩
 ·intro h p hp
  rw[Bool.or_eq_true,List.isPrefixOf_iff_prefix,List.isPrefixOf_iff_prefix]
  exact fun z=>z.elim (h p hp).1 (h p hp).2
theorem goneOn_in {m:Nat}{xs:List (List Nat)}{x:List Nat}{c:Nat}(hx:x∈xs)(hc:c∈abcd.take m):x++[c]∈zH m xs:=by
 unfold zH
 exact List.mem_flatMap.mpr ⟨x,hx,List.mem_map.mpr ⟨c,hc,rfl⟩⟩
theorem Book.nilInner {m:Nat}{B:List (List Nat)}(h:Book m B):Inner B []:=by
 obtain⟨p,hp,_⟩:=h.cv [] (fun c hc=>by cases hc)
 exact⟨p,hp,List.nil_prefix,fun z=>h.ne p hp z.symm⟩
theorem Book.innerLet {m:Nat}{B:List (List Nat)}(h:Book m B){x:List Nat}(hx:Inner B x):LetOk m x:=by
 obtain⟨p,hp,hxp,_⟩:=hx
 exact(h.let_ p hp).pre hxp
theorem Book.step {m:Nat}{B:List (List Nat)}(h:Book m B){x:List Nat}(hx:Inner B x){c:Nat}(hc:c∈abcd.take m):(Inner B (x++[c])∧x++[c]∉B)∨(¬Inner B (x++[c])∧x++[c]∈B):=by
 have hnot:Inner B (x++[c])→x++[c]∉B:=fun hi=>h.free hi _ (List.prefix_refl _) (by simp)
 by_cases hB:x++[c]∈B
 ·exact .inr ⟨fun hi=>hnot hi hB,hB⟩
 ·refine .inl ⟨?_,hB⟩
  obtain⟨q,hq,e⟩:=h.cv (x++[c]) ((h.innerLet hx).app (LetOk.one hc))
  rcases e with e|e
  ·rcases List.prefix_concat_iff.mp e with e|e
   ·exact absurd (e▸hq) hB
   ·exact absurd hq (h.free hx q e (h.ne q hq))
  ·exact⟨q,hq,e,fun z=>hB (z▸hq)⟩
theorem inner_part' {m:Nat}(m2:2≤m)(m4:m≤4){B:List (List Nat)}(hb:Book m B){j:Nat}(hj:j<B.length){x:List Nat}:Inner (part m B j) x↔Inner B x∨x=B.getD j []:=by
 have hpm:B.getD j []∈B:=by rw[List.getD_eq_getElem?_getD,List.getElem?_eq_getElem hj];exact List.getElem_mem hj
 have h97:97∈abcd.take m:=let_abcd m4 (by omega)
 have hk:B.getD j []++[97]∈part m B j:=(part_mem hb.nd hj).mpr (.inr (kids_mem.mpr ⟨97,h97,rfl⟩))
 refine⟨inner_part m2 m4 hb.nd hj,?_⟩
 rintro(⟨p,hp,hx,hne⟩|rfl)
 ·by_cases e:p=B.getD j []
  ·refine ⟨_,hk,?_,?_⟩
   ·rw[← e];exact hx.trans (List.prefix_append _ _)
   ·intro z
    have h1:=hx.length_le
    rw[z,← e] at h1
    simp at h1
    omega
  ·exact⟨p,(part_mem hb.nd hj).mpr (.inl ⟨hp,e⟩),hx,hne⟩
 ·exact⟨_,hk,List.prefix_append _ _,fun z=>ne_snoc _ _ z.symm⟩
theorem Gr.keysEq {m:Nat}(m2:2≤m)(m4:m≤4){t:Nat}{B:List (List Nat)}(h:Gr m t B):(zU B).length=t+1:=by
 have key:∃L:List (List Nat),L.Nodup∧L.length=t+1∧∀x,Inner B x↔x∈L:=by
  induction h with
  | z =>
   refine⟨[[]],by simp,rfl,fun x=>⟨fun⟨p,hp,hx,hn⟩=>?_,fun hx=>?_⟩⟩
   ·obtain⟨c,_,rfl⟩:=kids_mem.mp hp
    rcases List.prefix_concat_iff.mp hx with e|e
    ·exact absurd e hn
    ·rw[List.prefix_nil.mp e];simp
   ·rw[List.mem_singleton.mp hx]
    exact(Book.letters m2 m4).nilInner
  | s g hj ih =>
   rename_i t' B' j
   obtain⟨L,h0,h1,h2⟩:=ih
   have hb:=g.book m2 m4
   have hpm:B'.getD j []∈B':=by rw[List.getD_eq_getElem?_getD,List.getElem?_eq_getElem hj];exact List.getElem_mem hj
   refine⟨L++[B'.getD j []],List.nodup_append.mpr ⟨h0,by simp,?_⟩,by simp[h1],fun x=>?_⟩
   ·rintro a ha b hb' rfl
    rw[List.mem_singleton.mp hb'] at ha
    exact hb.free ((h2 _).mpr ha) _ (List.prefix_refl _) (hb.ne _ hpm) hpm
   ·rw[inner_part' m2 m4 hb hj,h2,List.mem_append,List.mem_singleton]
 obtain⟨L,h0,h1,h2⟩:=key
 rw[← h1]
 refine Nat.le_antisymm ((innerKeys_nd B).length_le_of_subset fun x hx=>(h2 x).mp (innerKeys_mem.mp hx)) (h0.length_le_of_subset fun x hx=>innerKeys_mem.mpr ((h2 x).mpr hx))
theorem erase_mem {B:List (List Nat)}(hn:B.Nodup){j:Nat}{p:List Nat}(hj:B[j]? = some p){x:List Nat}:x∈B.eraseIdx j↔x∈B∧x≠p:=by
 obtain⟨hl,rfl⟩:=List.getElem?_eq_some_iff.mp hj
 rw[List.mem_eraseIdx_iff_getElem]
 constructor
 ·rintro⟨i,hi,hij,rfl⟩
  exact⟨List.getElem_mem hi,fun z=>hij ((List.getElem_inj hn).mp z)⟩
 ·rintro⟨hx,hne⟩
  obtain⟨i,hi,rfl⟩:=List.mem_iff_getElem.mp hx
  exact⟨i,hi,fun z=>hne (by subst z;rfl),rfl⟩
structure Less (m:Nat)(B:List (List Nat))(p:List Nat)(L:List (List Nat)):Prop where
 bk:Book m B
 hp:p∈B
 mem:∀x,x∈L↔x∈B∧x≠p
 srt:L.Pairwise (· < ·)
theorem Less.of {m:Nat}{B:List (List Nat)}(h:Book m B){j:Nat}{p:List Nat}(hj:B[j]? = some p):Less m B p (B.eraseIdx j) :=
 ⟨h,List.mem_of_getElem? hj,fun x=>erase_mem h.nd hj,(strict h.srt h.nd).sublist (List.eraseIdx_sublist B j)⟩
theorem pre_between:∀(x z s:List Nat),x≤z→z≤x++s→x <+: z
 | [],z,s,_,_=>List.nil_prefix
 | a::x,[],s,h,_=>absurd (List.nil_lt_cons a x) (List.not_lt.mpr h)
 | a::x,b::z,s,h1,h2=>by
  have e:a=b:=by
   have h3:=(List.not_lt.mpr h1)
   have h4:=(List.not_lt.mpr h2)
   rw[List.cons_append] at h4
   have n1:¬b<a:=fun z=>h3 (List.cons_lt_cons_iff.mpr (.inl z))
   have n2:¬a<b:=fun z=>h4 (List.cons_lt_cons_iff.mpr (.inl z))
   omega
  subst e
  refine List.cons_prefix_cons.mpr ⟨rfl,pre_between x z s (List.not_lt.mp fun z=>List.not_lt.mpr h1 (List.cons_lt_cons_iff.mpr (.inr ⟨rfl,z⟩))) (List.not_lt.mp fun z=>List.not_lt.mpr h2 (List.cons_lt_cons_iff.mpr (.inr ⟨rfl,z⟩)))⟩
theorem next_of:∀{l:List (List Nat)},l.Pairwise (· < ·)→∀{x y:List Nat},x∈l→y∈l→x<y→∃z,(x,z)∈l.zip l.tail∧x<z∧z≤y
 | [],_,_,_,h,_,_=>by cases h
 | [a],_,x,y,hx,hy,hlt=>by
  rw[List.mem_singleton.mp hx,List.mem_singleton.mp hy] at hlt
  exact absurd hlt (List.lt_irrefl _)
 | a :: b::r,p,x,y,hx,hy,hlt=>by
  have pp:=List.pairwise_cons.mp p
  rcases List.mem_cons.mp hx with rfl|hx2
  ·rcases List.mem_cons.mp hy with rfl|hy
   ·exact absurd hlt (List.lt_irrefl _)
   ·refine⟨b,List.mem_cons_self,pp.1 b List.mem_cons_self,?_⟩
    rcases List.mem_cons.mp hy with rfl|hy
    ·exact List.le_refl _
    ·exact List.le_of_lt ((List.pairwise_cons.mp pp.2).1 y hy)
  ·rcases List.mem_cons.mp hy with hy|hy
   ·rw[hy] at hlt
    exact absurd (List.lt_trans hlt (pp.1 x hx2)) (List.lt_irrefl _)
   ·obtain⟨z,h1,h2⟩:=next_of (l:=b::r) pp.2 hx2 hy hlt
    exact⟨z,List.mem_cons_of_mem _ h1,h2⟩
structure More (m:Nat)(B:List (List Nat))(p:List Nat)(L:List (List Nat)):Prop where
 bk:Book m B
 hp:p∈B
 mem:∀x,x∈L↔x∈B∨x=p++[98]
 srt:L.Pairwise (· < ·)
 len:L.length=B.length+1
theorem More.of {m:Nat}{B:List (List Nat)}(h:Book m B){p:List Nat}(hp:p∈B):More m B p (sortF (B++[p++[98]])):=by
 have hn:p++[98]∉B:=fun z=>ne_snoc _ _ (h.pf p hp _ z (List.prefix_append _ _)).symm
 refine⟨h,hp,fun x=>by rw[sortF_mem,List.mem_append,List.mem_singleton],strict (sortF_srt _) ?_,by rw[(sortF_perm _).length_eq,List.length_append];rfl⟩
 refine(sortF_perm _).nodup_iff.mpr (List.nodup_append.mpr ⟨h.nd,by simp,?_⟩)
 rintro a ha b hb rfl
 rw[List.mem_singleton.mp hb] at ha
 exact hn ha
end My
namespace L2
open PySem PySem.Spec PyProof.Rows
def Flown (P:Program)(w:World)(outer:List Env)(H:Hp)(s:Shared)(E:XK)(e:Value)(s':Shared):Prop :=
 ∃ (a C:Addr) (a0:Value) (H':Hp) (B:Heap),e=.ref a∧s'.os=s.os∧AllBare s'.gens ∧
  (∀b o,s.heap.get? b=some o→b∉frs outer→∃o',B.get? b=some o'∧(H b=none→o'=o)) ∧
  (∀b o,s.heap.get? b=some o→b∈frs outer→∃sl,s'.heap.get? b=some {o with slots:=sl}) ∧
  (∀b o,s.heap.get? b=some o→H b=none→H' b=none) ∧
  (∀b xs,H b=some (HO.st xs)→H' b=some (HO.st xs))∧(∀b o u,H b=some (.frz o u)→H' b=some (.frz o u))∧(∀b ps,H b=some (.tbl ps)→∃more,H' b=some (.tbl (ps++more))) ∧
  HOk P w H' B∧Heap.FlyingW B outer a (.ref C) a0 s'.heap∧E (.ref C) none H'
abbrev CX1 (P:Program)(w:World):CXT:=Flown P w
theorem frs_cons {env:Env}{outer:List Env}{L:Addr}(hf:env.frame=some L):frs (env::outer)=L::frs outer:=by
 unfold frs
 rw[List.filterMap_cons,hf]
theorem hok_hide {P:Program}{w:World}{H:Hp}{h:Heap}{l:List Addr}(ok:HOk P w H h)(hl:∀b∈l,H b=none):HOk P w H (PySem.W.hideAll h l):=fun b o e =>
 (ok b o e).stay (fun c u hc q=>PySem.W.hideAll_get l q fun z=>by
  rcases hc with rfl|hc
  ·rw[hl _ z] at e;cases e
  ·rw[hl _ z] at hc;cases hc) (fun _ q=>q) fun _ _ q=>q
section
variable {X:Cx}{pins:List (Addr×Obj)}{σ:St}{H:Hp}{s:Shared}{M:Model}{F:Value→Shared→Prop}{E:XK}
theorem Inv.fr0 (I:Inv X pins σ H s){b:Addr}(hb:b∈X.fs):X.H₀ b=none∧b∉X.ex:=⟨I.ok.frf b hb,fun z=>I.ok.exfs b z hb⟩
theorem fly_raise (I:Inv X pins σ H s)(hst:X.stack=X.env::X.outer)(hfr:X.env.frame=some X.env.locals)(hex:X.ex=[]){e C:Addr}{args:List Value}{h':Heap}
  (hx:Heap.MadeExcOf s.heap h' e (.ref C) args) (hE:E (.ref C) none H) :
  wpAny M X.A (leaving X.env (.ref e)) (fun _ s''=>Flown X.prog X.w X.outer X.H₀ X.s₀ E (.ref e) s'') F {s with heap:=h'}:=by
 have hin:∀env∈X.stack,∀b,env.frame=some b→b∈frs X.stack:=fun env he b hb=>List.mem_filterMap.mpr ⟨env,he,hb⟩
 have hstk:frs X.stack=X.env.locals::frs X.outer:=by rw[hst];exact frs_cons hfr
 have nex:∀b:Addr,b∉X.ex:=fun b z=>by rw[hex] at z;cases z
 refine wpAny_leaves_madeW (base:=PySem.W.hideAll s.heap (frs X.stack)) (h:=s.heap) (outer:=X.outer) (I.ok.frames.trans (by rw[hst])) hfr (fun b o q=>PySem.W.of_hideAll _ q) (by rw[← hst];exact PySem.W.funFrames_hide I.stack hin) hx fun h2 t x1 x2 x3 x4=>?_
 refine⟨e,C,.ref t,H,PySem.W.hideAll s.heap (frs X.stack),rfl,I.os,I.bare,fun b o q hb=>?_,fun b o q hb=>?_,fun b o q n=>I.base.free b o q n (nex b),I.base.tups,I.base.frzs,I.base.tbls,hok_hide I.hok I.stkFree,x1,hE⟩
 ·obtain ⟨o1,e1⟩:=I.base.there b o q (nex b)
  refine⟨o1,PySem.W.hideAll_get _ e1 fun z=>?_,fun n=>?_⟩
  ·rw[hstk] at z
   rcases List.mem_cons.mp z with z|z
   ·exact absurd (Heap.lt_size q) (Nat.not_lt.mpr (z▸I.ok.above))
   ·exact hb z
  ·have:=I.base.keep b o q n hb (nex b)
   rw[e1] at this
   exact Option.some.inj this
 ·obtain ⟨sl,e1⟩:=I.base.slot b o q (I.fr0 hb).1 hb (nex b)
  have hb2:b∈X.stack.filterMap (·.frame):=by
   show b∈frs X.stack
   rw[hstk]
   exact List.mem_cons_of_mem _ hb
  obtain⟨_,o2,e2,nf⟩:=I.stack.mem hb2
  rw[e1] at e2
  obtain rfl:=Option.some.inj e2
  obtain⟨sl2,e3⟩:=x4 b _ (hx.keeps b _ e1) nf
  exact⟨sl2,e3⟩
theorem fly_pass (I:Inv X pins σ H s)(hst:X.stack=X.env::X.outer)(hfr:X.env.frame=some X.env.locals)(hex:X.ex=[]){e:Value}{s':Shared}(hf:Flown X.prog X.w X.stack H s E e s') :
  wpAny M X.A (leaving X.env e) (fun _ s''=>Flown X.prog X.w X.outer X.H₀ X.s₀ E e s'') F s':=by
 have hstk:frs X.stack=X.env.locals::frs X.outer:=by rw[hst];exact frs_cons hfr
 have nex:∀b:Addr,b∉X.ex:=fun b z=>by rw[hex] at z;cases z
 obtain⟨a,C,a0,H',B,rfl,hos,hbare,h1,h2,h3,h4,h5,h6,hok,fly,hE⟩:=hf
 have fly':Heap.FlyingW B (X.env::X.outer) a (.ref C) a0 s'.heap:=by rw[← hst];exact fly
 refine wpAny_leaves_onW (I.ok.frames.trans (by rw[hst])) hfr fly' fun h2' x1 x2=>?_
 refine⟨a,C,a0,H',B,rfl,hos.trans I.os,hbare,fun b o q hb=>?_,fun b o q hb=>?_,fun b o q n=>?_,fun b xs q=>h4 b xs (I.base.tups b xs q),fun b o u q=>h5 b o u (I.base.frzs b o u q),fun b ps q=>?_,hok,x1,hE⟩
 ·obtain ⟨o1,e1⟩:=I.base.there b o q (nex b)
  have hbs:b∉frs X.stack:=fun z=>by
   rw[hstk] at z
   rcases List.mem_cons.mp z with z|z
   ·exact absurd (Heap.lt_size q) (Nat.not_lt.mpr (z▸I.ok.above))
   ·exact hb z
  obtain⟨o2,e2,k2⟩:=h1 b o1 e1 hbs
  refine⟨o2,e2,fun n=>?_⟩
  have e3:=I.base.keep b o q n hb (nex b)
  rw[e1] at e3
  rw[k2 (I.base.free b o q n (nex b))]
  exact Option.some.inj e3
 ·obtain⟨sl,e1⟩:=I.base.slot b o q (I.fr0 hb).1 hb (nex b)
  have hb2:b∈frs X.stack:=by rw[hstk];exact List.mem_cons_of_mem _ hb
  obtain⟨sl2,e2⟩:=h2 b _ e1 hb2
  obtain⟨_,o3,e3,nf⟩:=fly.2.2.1.mem hb2
  rw[e2] at e3
  obtain rfl:=Option.some.inj e3
  obtain⟨sl3,e4⟩:=x2 b _ e2 nf
  exact⟨sl3,e4⟩
 ·obtain⟨o1,e1⟩:=I.base.there b o q (nex b)
  exact h3 b o1 e1 (I.base.free b o q n (nex b))
 ·obtain⟨m1,e1⟩:=I.base.tbls b ps q
  obtain⟨m2,e2⟩:=h6 b _ e1
  exact⟨m1++m2,by rw[e2,Array.append_assoc]⟩
end
theorem zQ {P:Program}{w:World}{K:PySem.W.Frag}{mg:Str→Option Value}{base:Heap}{N:List Str}{qual:Str}{scope:Scope}{f:Addr}{cd:Value}{A:Around}{outer:List Env}{s:Shared}{H:Hp}{E:XK} :
  Passes (CX1 P w) (cxOf (CX1 P w) P w K mg base N qual scope f cd A outer s H E) E:=fun pins σ H' s' e s'' I hf=>fly_pass I rfl rfl rfl hf
theorem Fun.okX {P:Program}{w:World}{K:PySem.W.Frag}{mg:Str→Option Value}{base:Heap}{x qual:Str}{st:Stmt}{f:Addr}{fd:FuncData}{N ps:List Str}{k:Nat}{sp:Sp}(F:Fun K x qual st f fd)(S:FnScope N ps (zm st))(len:∀vs H Q E,sp vs H Q E→vs.length=ps.length)
  (hbody:∀(cdv:Value) (A:Around) (outer:List Env) (s:Shared) (H:Hp) (vs:List V) (Q:VK) (E:XK),Room k (A.deeper (envOfC qual (zm st) s.heap.objs.size f cdv))→sp vs H Q E →
   ∃t,PSs (cxOf (CX1 P w) P w K mg base N qual (zm st) f cdv A outer s H E) (defBody st) t∧t {nx:=fun _ H'=>Q .non H',rt:=Q} (start N vs) H):FnOk P w K mg base (CX1 P w) (k+1) f fd ps sp:=by
 obtain⟨oc,od,kV,doc,pm,an,cdv,ct,osl,rfl,lk,hcd⟩:=F.ex
 exact fn_of lk hcd S len fun A outer s H vs Q E hr hsp=>hbody cdv A outer s H vs Q E hr hsp
theorem PS.nox {X:Cx}{st:Stmt}{t:TS}(h:PS X.nox st t):PS X st t:=fun pins s σ H D I hw =>
 wpAny_mono (h pins s σ H D (I.wish _) hw) (fun _ _ q=>q.unwish) fun _ _ z=>False.elim z
theorem PA.nox {X:Cx}{es:List Expr}{t:TA}(h:PA X.nox es t):PA X es t:=fun pos pins s σ H Q I hw =>
 wpAny_mono (h pos pins s σ H Q (I.wish _) hw) (fun _ _ ⟨v,H',I',r,q⟩=>⟨v,H',I'.unwish,r,q⟩) fun _ _ z=>False.elim z
structure Own (K:PySem.W.Frag)(mg:Str→Option Value)(x:Str) where
 C:Addr
 mgx:mg x=some (.ref C)
 exc:PySem.W.excIn K C [.type "ValueError", .type "Exception", .type "BaseException", .type "object"] "ValueError.__new__" = true
inductive ExcD (o:Option Obj)(A:Option Addr→ClassData→Array (Option Value)→Bool):Prop
 | mk (dd:Option Addr) (cd:ClassData) (sl:Array (Option Value)) (e:o=some ⟨.type "type", dd,.cls cd,sl⟩) (q:A dd cd sl=true)
inductive ExcR (x:List Value)(y:List (Option Value))(A:Addr→List Value→Option Value→Option Value→Option Value→Option Value→String→Option Value→Bool):Prop
 | mk (C':Addr) (bm:List Value) (k0 k1 k2 k3:Option Value) (n:String) (k5:Option Value) (e:x=.ref C'::bm) (f:y=[k0,k1,k2,k3,some (.builtin n),k5]) (q:A C' bm k0 k1 k2 k3 n k5=true)
inductive ExcO (h:Heap)(C:Addr)(bmB:List Value)(newId:String):Prop
 | mk (bm:List Value) (N:Addr) (nm qn:Str) (bs:List Value) (hdct:Bool) (sn:List Str) (sub:List Value) (ab:Bool) (col:Option Bool) (dd:Option Addr) (k0 k1 k2 k3 k5:Option Value) (mN:Str→Option Value)
   (hC:h.get? C=some (excClassObj nm qn C N bs bm hdct sn sub ab col dd k0 k1 k2 k3 k5 newId)) (hN:h.Ns N mN) (hni:mN "__init__" = none) (T:OwnTail h bmB bm)
theorem exc_m6 {o:Option Obj}{A:Option Addr→ClassData→Array (Option Value)→Bool}(q:PySem.W.excIn.match_6 (fun _=>Bool) o A (fun _=>false)=true):ExcD o A:=by
 rcases o with _|⟨c,dd,da,sl⟩
 ·exact absurd q Bool.false_ne_true
 ·cases c
  all_goals first|exact absurd q Bool.false_ne_true|skip
  rename_i s
  by_cases hs:s = "type"
  ·subst hs
   cases da
   all_goals first|exact absurd q Bool.false_ne_true|exact⟨_,_,_,rfl,q⟩
  ·delta PySem.W.excIn.match_6 at q
   exact absurd ((dif_neg hs).symm.trans q) Bool.false_ne_true
theorem exc_m1 {x:List Value}{y:List (Option Value)}{A:Addr→List Value→Option Value→Option Value→Option Value→Option Value→String→Option Value→Bool}(q:PySem.W.excIn.match_1 (fun _ _=>Bool) x y A (fun _ _=>false)=true):ExcR x y A:=by
 rcases x with _|⟨v,bm⟩
 ·exact absurd q Bool.false_ne_true
 cases v
 all_goals first|exact absurd q Bool.false_ne_true|skip
 rcases y with _|⟨k0,_|⟨k1,_|⟨k2,_|⟨k3,_|⟨k4,y⟩⟩⟩⟩⟩
 all_goals first|exact absurd q Bool.false_ne_true|skip
 rcases k4 with _|k4
 ·exact absurd q Bool.false_ne_true
 cases k4
 all_goals first|exact absurd q Bool.false_ne_true|skip
 rcases y with _|⟨k5,_|⟨k6,y⟩⟩
 all_goals first|exact absurd q Bool.false_ne_true|exact⟨_,_,_,_,_,_,_,_,rfl,rfl,q⟩
theorem exc_obj {K:PySem.W.Frag}{h:Heap}{C:Addr}{bmB:List Value}{newId:String}(X:K.In h)(q:PySem.W.excIn K C bmB newId=true):ExcO h C bmB newId:=by
 obtain⟨dd,cd,sl,ho,q⟩:=exc_m6 q
 obtain⟨C',bm,k0,k1,k2,k3,n,k5,hm,hs,q⟩:=exc_m1 q
 simp only[Bool.and_eq_true,beq_iff_eq,Bool.not_eq_true'] at q
 obtain⟨⟨⟨⟨⟨rfl,rfl⟩,hdel⟩,ht⟩,hok⟩,hni⟩:=q
 obtain⟨nm,bs,mro,ns,qn,hd,sn,sub,ab,col,del⟩:=cd
 obtain⟨l⟩:=sl
 dsimp only at hm hdel hok hni hs
 subst hm hdel hs
 exact⟨bm,ns,nm,qn,bs,hd,sn,sub,ab,col,dd,k0,k1,k2,k3,k5,_,X _ _ ho,.of_isNs (PySem.W.isNs_of_in X hok),PySem.W.nsMap_none_of_in X hok hni,PySem.W.tail_of_in X ht⟩
def tRaise (C:Addr)(E:XK)(t:TA):TS:=fun _ σ H=>t σ H fun vs H1=>vs.length≤3∧E (.ref C) none H1
section
variable {P:Program}{w:World}{K:PySem.W.Frag}{mg:Str→Option Value}{base:Heap}{N:List Str}{qual:Str}{scope:Scope}{f:Addr}{cd:Value}{A:Around}{outer:List Env}{s₁:Shared}{H₁:Hp}{E:XK}
theorem ps_raise {x:Str}{e₀:Expr}{rest:List Expr}{np cpos pos:Pos}{t:TA}(O:Own K mg x)(hg:Gl (cxOf (CX1 P w) P w K mg base N qual scope f cd A outer s₁ H₁ E) x)
  (ha:PA (cxOf (CX1 P w) P w K mg base N qual scope f cd A outer s₁ H₁ E) (e₀::rest) t)
  (he:starEach (e₀::rest) (cxOf (CX1 P w) P w K mg base N qual scope f cd A outer s₁ H₁ E).env=(false,eval e₀ (cxOf (CX1 P w) P w K mg base N qual scope f cd A outer s₁ H₁ E).env)::starEach rest (cxOf (CX1 P w) P w K mg base N qual scope f cd A outer s₁ H₁ E).env:=by rfl)
  (hpl:(backTo cpos (starEach rest (cxOf (CX1 P w) P w K mg base N qual scope f cd A outer s₁ H₁ E).env)).any (·.1)=false:=by rfl) (hd:(x == ("__debug__" : Str))=false:=by decide) :
  PS (cxOf (CX1 P w) P w K mg base N qual scope f cd A outer s₁ H₁ E) (.Raise (some (.Call (.Name x np) (e₀::rest) [] cpos)) none pos) (tRaise O.C E t):=by
 intro pins s σ H D I h
 obtain⟨tl,Na,nm,q,bs,hdct,sn,sub,ab,col,dd,k0,k1,k2,k3,k5,mN,hC,hN,hni,T⟩:=exc_obj I.ok.mod.kin O.exc
 refine wpAny_Raise_call_subT (C:=O.C) (nm:=nm) (q:=q) (N:=Na) (bs:=bs) (bm:=tl) (hdct:=hdct) (sn:=sn) (sub:=sub) (ab:=ab) (col:=col) (dd:=dd) (k0:=k0) (k1:=k1) (k2:=k2) (k3:=k3) (k5:=k5)
  PySem.F.excBase_ValueError (mN:=mN) (T.hasType PySem.F.excBase_ValueError.hasBase) (I.ok.hd rfl) (by rw[he];show(false || (backTo cpos (starEach rest (cxOf (CX1 P w) P w K mg base N qual scope f cd A outer s₁ H₁ E).env)).any (·.1))=false;rw[hpl];rfl) hni (ld_glob I hg O.mgx ⟨rfl,?_⟩ hd)
 have h':=ha cpos pins s σ H _ I h
 rw[he] at h' ⊢
 refine Calls.evalArgs_plain (wpAny_mono h' (fun us s₂ ⟨vs,H2,I2,r,hz,q⟩=>⟨rfl,?_,I2.bk _ _ hC,hN.keeps I2.bk,T.keeps I2.bk,fun h'' e hm=>fly_raise I2 rfl rfl rfl hm q⟩) fun _ _ y=>y)
 rw[← r.length,sizeLine_eq]
 omega
end
end L2
namespace L2
open PySem PySem.Spec PyProof.Rows
def excAt (a C:Addr):HO:=.ext fun h=>∃o,h.get? a=some o∧o.cls=.ref C
end L2
namespace L2
open PySem PySem.Spec PyProof.Rows
end L2
namespace L2
open PySem PySem.Spec PyProof.Rows
structure RoomH (k:Nat)(A:Around):Prop where
 dp:A.depth+3*k+5<recursionLimit
 un:A.units+16*k+200<cLine
theorem RoomH.mono {j k:Nat}{A:Around}(r:RoomH k A)(h:j≤k):RoomH j A:=⟨by have:=r.dp;omega,by have:=r.un;omega⟩
end L2
namespace L2
open PySem PySem.Spec PyProof.Rows
theorem passN {P:Program}{w:World}{X:Cx}:Passes (CX1 P w) X E0:=fun _ _ _ _ _ _ _ h=>by
 obtain⟨_,_,_,_,_,_,_,_,_,_,_,_,_,_,_,_,hE⟩:=h
 exact hE.elim
theorem at_eqU {x:V}:∀{xs:List V}{us:List Value},Vals xs us→xs.all flatV=true→∀(j:Nat) (u:Value),us[j]? = some u→∃y,xs[j]? = some y∧eqU x u=eqV y x
 | _,_,.nil,_=>fun j u e=>by simp at e
 | y::xs,u::us,.cons r t,f=>fun j v e=>by
  rw[List.all_cons,Bool.and_eq_true] at f
  cases j with
  | zero =>
   have:u=v:=by simpa using e
   subst this
   exact⟨y,rfl,eqU_of r f.1⟩
  | succ j=>exact at_eqU t f.2 j v (by simpa using e)
end L2
namespace L2
open PySem PySem.Spec PyProof.Rows
end L2
namespace My
end My
namespace L2
open PySem PySem.Spec PyProof.Rows
theorem star_lst {a:List Expr}{c:Pos}{es:List Expr}{env:Env}:starEach (.List a c::es) env=(false,eval (.List a c) env)::starEach es env:=by rfl
theorem star_bin {a b:Expr}{o}{c:Pos}{es:List Expr}{env:Env}:starEach (.BinOp a o b c::es) env=(false,eval (.BinOp a o b c) env)::starEach es env:=by rfl
theorem zV {f:Expr}{a:List Expr}{k}{c:Pos}{es:List Expr}{env:Env}:starEach (.Call f a k c::es) env=(false,eval (.Call f a k c) env)::starEach es env:=by rfl
theorem star_sub {a b:Expr}{c:Pos}{es:List Expr}{env:Env}:starEach (.Subscript a b c::es) env=(false,eval (.Subscript a b c) env)::starEach es env:=by rfl
theorem zb {a}{c:Pos}{es:List Expr}{env:Env}:starEach (.Name a c::es) env=(false,eval (.Name a c) env)::starEach es env:=by rfl
theorem zE {a}{k}{c:Pos}{es:List Expr}{env:Env}:starEach (.Constant a k c::es) env=(false,eval (.Constant a k c) env)::starEach es env:=by rfl
section
variable {prog:Program}{w:World}{A:Around}{E:Value→Shared→Prop}{s:Shared}
theorem getItem_tuple_whole {t sl:Addr}{items:Array Value}{vl vu:Value}{lo hi:Option Int}{Q:Value→Shared→Prop}(ht:IsTup s.heap t items)(hs:s.heap.IsSliceOf sl vl vu .none)(pl:IsPart vl lo)(pu:IsPart vu hi)
  (hw:HT.sIx items.size 0 lo=0∧HT.sIx items.size items.size hi=items.size) (h:Q (.ref t) s):wpAny (model prog w) A (getItem (.ref t) (.ref sl)) Q E s:=by
 obtain⟨os,hos,hcs,hds⟩:=id hs
 have hTs:s.TypeIs (.ref sl) "slice" := ⟨os,hos,hcs⟩
 unfold getItem
 try with_reducible refine wpAny_holding ?_
 first|refine wpAny_bind (wpAny_pure ?_)|skip
 refine wpAny_bind (wpAny_sequenceKey ht.typeIs (by decide) ?_)
 refine wpAny_bind (wpAny_callSpecial?_slot (name:=Str.ofString "__getitem__") ht.typeIs PyProof.Rows.slot_tuple_getitem
  (wpAny_call_entry PyProof.Rows.slot_tuple_getitem ht.typeIs entry_tuple_getitem ?_ (args_tuple_getitem _ _)))
 show wpAny _ _ (Builtin.Tuple.tupleItemsOf (.ref t) >>= _) _ _ s
 refine wpAny_bind (tupleItemsOf_ ht ?_)
 refine wpAny_bind (wpAny_typeOf hTs ?_)
 rw[if_pos (by decide)]
 refine wpAny_bind (HT.sliceApplied_gen hs pl pu ?_)
 have hyes:(((HT.sIx items.size 0 lo:Nat):Int) == 0&&(1:Int) == 1&&(HT.sIx items.size items.size hi - HT.sIx items.size 0 lo) == items.size)=true:=by
  rw[hw.1,hw.2]
  simp
 show wpAny _ _ (if (((HT.sIx items.size 0 lo:Nat):Int) == 0&&(1:Int) == 1&&(HT.sIx items.size items.size hi - HT.sIx items.size 0 lo) == items.size)=true then _ else _) _ _ s
 rw[if_pos hyes]
 refine wpAny_bind (m:=Builtin.Tuple.tupleIsExact (.ref t)) ?_
 unfold Builtin.Tuple.tupleIsExact
 refine wpAny_bind (wpAny_typeOf ht.typeIs (wpAny_pure ?_))
 rw[if_pos (by decide)]
 first
  | exact wpAny_bind (wpAny_rule (wpAny_pure ⟨_,rfl,wpAny_pure h⟩))
  | exact wpAny_bind (wpAny_rule (wpAny_pure ⟨_,rfl,h⟩))
end
section
variable {X:Cx}
def rSlU (K:PySem.W.Frag):V→Option Int→Option Int→Hp→VK→Prop:=fun x lo hi H Q=>∃a xs,x=.ref a∧SqT K H a xs∧∀p H',Same H H'→SqT K H' p (cutV xs lo hi)→Q (.ref p) H'
theorem sl_tupU:SlR X (rSlU X.K):=by
 intro pins s σ H x v vl vu lo hi sl Q I rx hs pl pu h
 obtain⟨a,xs,rfl,hx,q⟩:=h
 by_cases hw:HT.sIx xs.length 0 lo=0∧HT.sIx xs.length xs.length hi=xs.length
 ·cases rx
  obtain⟨its,r,ht,hz⟩:=I.tuple hx
  have hlen:its.toArray.size=xs.length:=by rw[List.size_toArray];exact r.length.symm
  refine⟨"tuple", _,PyProof.Rows.slot_tuple_getitem.lookup,ht.typeIs,getItem_tuple_whole ht hs pl pu (by rw[hlen];exact hw) ⟨.ref a,H,I,rfl,q a H (Same.refl _) ?_⟩⟩
  have:cutV xs lo hi=xs:=by
   unfold cutV
   rw[hw.1,hw.2,List.drop_zero,Nat.sub_zero,List.take_length]
  rw[this]
  exact hx
 ·exact sl_tup pins s σ H (.ref a) v vl vu lo hi sl Q I rx hs pl pu ⟨a,xs,rfl,hx,hw,fun p hp=>q p _ (Same.upd hp) (SqT.of zR)⟩
end
end L2
namespace L2
open PySem PySem.Spec PyProof.Rows
end L2
set_option maxHeartbeats 2000000
namespace L2
open PySem PySem.Spec PyProof.Rows
section
variable {X:Cx}{pins:List (Addr×Obj)}{σ:St}{H:Hp}{s:Shared}{a:Addr}{xs:List V}
theorem src_of (I:Inv X pins σ H s)(h:SqL X.K H a xs∨SqT X.K H a xs):∃(its:List Value) (o:Obj) (G:Heap→Prop),Vals xs its∧xs.length≤sizeLine∧o.isFreed=false∧Zp.Itb a o G∧G s.heap ∧
  (∀h h':Heap,(∀u,h.get? a=some u→h'.get? a=some u)→G h→G h')∧(∃u,s.heap.get? a=some u) ∧
  ∀it,a≠it→∃S:Nat→Heap→Prop,Zp.Src X.prog X.w it a its.length (fun i=>its.toArray.getD i .none) S∧∀h:Heap,h.get? it=some o→G h→S 0 h:=by
 rcases h with h|h
 ·obtain⟨its,rv,pl,hz⟩:=I.list h
  have pl':s.heap.IsList a its.toArray:=pl.isList
  refine⟨its,Zp.lIter a,fun h=>h.IsList a its.toArray,rv,hz,rfl,Zp.itb_lst a _,pl',fun h h' k ⟨o,e,r⟩=>⟨o,k _ e,r⟩,?_,fun it hne=>⟨_,Zp.src_lst (xs:=its.toArray) hne,fun h e g=>⟨⟨_,e,rfl,rfl⟩,g⟩⟩⟩
  obtain⟨o,e,_⟩:=pl'
  exact⟨o,e⟩
 ·obtain⟨its,rv,pl,hz⟩:=I.tuple h
  have pl':s.heap.IsTuple a its.toArray:=pl
  refine⟨its,Zp.tIter a,fun h=>h.IsTuple a its.toArray,rv,hz,rfl,Zp.itb_tup a _,pl',fun h h' k ⟨o,e,r⟩=>⟨o,k _ e,r⟩,?_,fun it hne=>⟨_,Zp.src_tup (xs:=its.toArray) hne,fun h e g=>⟨⟨_,e,rfl,rfl⟩,g⟩⟩⟩
  obtain⟨o,e,_⟩:=pl'
  exact⟨o,e⟩
end
def zipT (ls:List (List Nat))(xs:List V):List (Key×V):=(List.range (min ls.length xs.length)).foldl (fun m j=>putK m (Sum.inr (T (ls.getD j []))) (xs.getD j .non)) []
theorem zipT_len (ls:List (List Nat))(xs:List V):(zipT ls xs).length≤ls.length:=by
 have key:∀(ps:List Nat) (m:List (Key×V)),(ps.foldl (fun m j=>putK m (Sum.inr (T (ls.getD j []))) (xs.getD j .non)) m).length≤m.length+ps.length:=by
  intro ps
  induction ps with
  | nil=>intro m;simp
  | cons p r ih =>
   intro m
   rw[List.foldl_cons]
   have h1:=ih (putK m (Sum.inr (T (ls.getD p []))) (xs.getD p .non))
   have h2:=length_putK m (Sum.inr (T (ls.getD p [])):Key) (xs.getD p .non)
   rw[List.length_cons]
   omega
 have:=key (List.range (min ls.length xs.length)) []
 rw[List.length_range,List.length_nil] at this
 exact Nat.le_trans this (by omega)
theorem vals_getD {xs:List V}{us:List Value}(r:Vals xs us){j:Nat}(hj:j<us.length):RelV (xs.getD j .non) (us.toArray.getD j .none):=by
 induction r generalizing j with
 | nil=>simp at hj
 | cons p t ih =>
  cases j with
  | zero=>simpa using p
  | succ j =>
   have:=ih (j:=j) (by simpa using hj)
   rename_i _ _ l1 l2
   have hj':j<l2.length:=by simpa using hj
   simpa [Array.getD,hj'] using this
theorem kv_range {ls:List (List Nat)}{xs:List V}{us:List Value}(r:Vals xs us):∀(js:List Nat) {m:List (Key×V)}{ms:List (Key×Value)},(∀j∈js,j<us.length)→KV m ms →
  KV (js.foldl (fun m j=>putK m (Sum.inr (T (ls.getD j []))) (xs.getD j .non)) m) (js.foldl (fun m j=>stored m (Sum.inr (T (ls.getD j [])):Key) (us.toArray.getD j .none)) ms)
 | [],_,_,_,k=>k
 | j::js,_,_,h,k=>by
  rw[List.foldl_cons,List.foldl_cons]
  exact kv_range r js (fun i hi=>h i (.tail _ hi)) (k.put _ (vals_getD r (h j (.head _))))
def tZipS (K:PySem.W.Frag)(ta tb:TE):TE:=fun σ H Q=>tCons ta (tCons tb tNil) σ H fun vs H2=>∃(ls:List (List Nat)) (a b:Addr) (xs:List V),vs=[.ref a,.ref b]∧(SqL K H2 a (vT ls)∨SqT K H2 a (vT ls))∧(SqL K H2 b xs∨SqT K H2 b xs)∧ls.length≤1000∧∀p,H2 p=none→Q (.ref p) (upd H2 p (.dK (zipT ls xs)))
section
variable {X:Cx}
theorem pe_dictzipS {a b:Expr}{ta tb:TE}{p1 p2 pos1 pos2:Pos}(hc:X.calm=true)(ha:PE X a ta)(hb:PE X b tb)(hd:Gl X "dict")(hz:Gl X "zip")(md:X.mg "dict" = none)(mz:X.mg "zip" = none)
  (hs:starEach [a,b] X.env=[(false,eval a X.env),(false,eval b X.env)]:=by rfl) (hs2:starEach [b] X.env=[(false,eval b X.env)]:=by rfl)
  (hs3:starEach [.Call (.Name "zip" p2) [a,b] [] pos2] X.env=[(false,eval (.Call (.Name "zip" p2) [a,b] [] pos2) X.env)]:=by rfl) :
  PE X (.Call (.Name "dict" p1) [.Call (.Name "zip" p2) [a,b] [] pos2] [] pos1) (tZipS X.K ta tb):=by
 intro pins s σ H Q I h
 refine wpAny_Call_Name_kw (ld_blt I hd md boot_dict ?_)
 refine PyProof.Rows.callWith_type1 ?_ hs3 rfl
 rw[hs3]
 show wpAny _ _ (spliced ((false,eval (.Call (.Name "zip" p2) [a,b] [] pos2) X.env)::backTo pos1 [])) _ _ s
 refine Calls.spliced_cons ?_
 have hA:PA X [a,b] (tCons ta (tCons tb tNil)):=pa_cons ha (pa_cons hb pa_nil hs2) (by rw[hs,hs2])
 refine wpAny_Call_Name_kw (ld_blt I hz mz boot_zip ?_)
 refine PyProof.Rows.callWith_type1 (thn (hA pos2 pins s σ H _ I h) fun us s1 hq37=>?_) (by rw[hs,hs2]) (by rw[hs2];rfl)
 obtain⟨vs,H2,I2,r2,ls,A1,B1,xs,ev,hq,hq2,hl,q⟩:=hq37
 subst ev
 obtain⟨u1,u2,rfl,ru1,ru2⟩:=vals2 r2
 cases ru1
 cases ru2
 obtain⟨its1,o1,G1,rv1,hz1,fr1,it1,g1,mv1,⟨w1,e1⟩,sr1⟩:=src_of I2 hq
 obtain⟨its2,o2,G2,rv2,hz2,fr2,it2,g2,mv2,⟨w2,e2⟩,sr2⟩:=src_of I2 hq2
 refine Zp.call_zipG fr1 fr2 it1 it2 (fun h g=>mv2 _ _ (fun u e=>Heap.get?_push_of_some _ e) g) g1 g2 fun h1 m5=>?_
 refine Calls.spliced_nil ?_
 obtain⟨m1,m2,m3,m4,m6,m7,m8⟩:=m5
 have lt:∀{c:Addr}{o:Obj},s1.heap.get? c=some o→c<s1.heap.objs.size:=fun e=>Heap.lt_size e
 have hA1:=lt e1
 have hB1:=lt e2
 obtain⟨S1,C1,z1⟩:=sr1 s1.heap.objs.size (z6 (.inl hA1))
 obtain⟨S2,C2,z2⟩:=sr2 (s1.heap.objs.size+1) (z6 (.inl (Nat.lt_of_lt_of_le hB1 (by omega))))
 have el1:ls.length=its1.length:=by have:=rv1.length;unfold vT at this;rw[List.length_map] at this;exact this
 have el2:xs.length=its2.length:=rv2.length
 refine Zp.call_dict_zipG (knd:=mixKind X.prog X.w) (s:={s1 with heap:=h1}) (z:=s1.heap.objs.size+4) (TI:=s1.heap.objs.size+2) (TO:=s1.heap.objs.size+3) (i1:=s1.heap.objs.size) (i2:=s1.heap.objs.size+1) (p1:=A1) (p2:=B1)
  (I.ok.hd hc) ⟨z6 (by omega),z6 (by omega),z6 (by omega),z6 (by omega),z6 (by omega),z6 (by omega),z6 (by omega),z6 (by omega),z6 (by omega),z6 (by omega)⟩
  (z6 (.inl (Nat.lt_of_lt_of_le hA1 (by omega)))) (z6 (.inl (Nat.lt_of_lt_of_le hA1 (by omega)))) (z6 (.inl (Nat.lt_of_lt_of_le hA1 (by omega))))
  (z6 (.inl (Nat.lt_of_lt_of_le hB1 (by omega)))) (z6 (.inl (Nat.lt_of_lt_of_le hB1 (by omega)))) (z6 (.inl hB1)) C1 C2 (fun j=>Sum.inr (T (ls.getD j []))) (fun j hj=>?_) (by omega)
  m1 m2 m3 (z1 _ m4 (mv1 _ _ (fun u e=>m8 _ _ e) g1)) (z2 _ m6 (mv2 _ _ (fun u e=>m8 _ _ e) g2)) fun h2 tk hdict keep=>?_
 ·have hj1:j<its1.length:=by omega
  have r:=vals_getD rv1 hj1
  have er:(vT ls).getD j .non=.str (T (ls.getD j [])):=by
   unfold vT
   simp[List.getD,el1,hj1]
  rw[er] at r
  obtain⟨t,e⟩:=r
  rw[e]
  exact mixKind_str _ _ _ t
 have keep1:∀b o,s1.heap.get? b=some o→h2.get? b=some o:=fun b o e=>by
  have hb:=lt e
  exact keep b o (z6 (.inl (Nat.lt_of_lt_of_le hb (by omega)))) (z6 (.inl (Nat.lt_of_lt_of_le hb (by omega)))) (z6 (.inl hb)) (z6 (.inl (Nat.lt_of_lt_of_le hb (by omega)))) (m8 b o e)
 have hp:s1.heap.objs.size≤h1.objs.size:=by rw[m7];omega
 have hnone:H2 h1.objs.size=none:=I2.hok.fresh hp
 refine⟨.ref h1.objs.size,upd H2 h1.objs.size (.dK (zipT ls xs)),I2.laid (h':=h2) (t':=tk) keep1 hp ?_,rfl,q _ hnone⟩
 refine⟨?_,?_,_,?_,hdict⟩
 ·have:=zipT_len ls xs
  rw[sizeLine_eq];omega
 ·have hbig:=I2.big
  exact beq_eq_false_iff_ne.mpr (by have:=hbig;intro z;rw[z] at hp;exact absurd (Nat.lt_of_lt_of_le hbig hp) (Nat.lt_irrefl _))
 ·unfold zipT
  rw[el1,el2]
  exact kv_range rv2 _ (fun j hj=>by have:=List.mem_range.mp hj;omega) KV_nil
end
end L2
namespace L2
open PySem PySem.Spec PyProof.Rows
theorem tuple_indexAt (l:Addr)(items:Array Value)(x:Value)(e:Value→Bool)(j:Nat)(hj:j<items.size)
  (hit:e items[j]=true) (hno:∀m (hm:m<items.size),m<j→e items[m]=false) :
  Meets (Builtin.«tuple.index» ⟨[.ref l,x],[]⟩)
   (fun A R s=>s.heap.IsTuple l items∧(∀y,y∈items→SeqAt.EqAt A.in1 s y x (e y))∧R (.ok (.ret (.int j s.toks))) {s with toks:=s.toks+1}):=by
 intro prog w A R s h
 obtain⟨hl,he,h⟩:=h
 obtain⟨o,ho,hc,n,hd⟩:=id hl
 unfold Builtin.«tuple.index»
 refine wpAny_bind ?_
 wp_walk using wpAny_loadPart' ho
 rw[hd]
 refine wpAny_pure (wpAny_pure ?_)
 refine wpAny_bind (wpAny_pure (wpAny_bind (wpAny_pure (wpAny_bind ?_))))
 rw[Std.Legacy.Range.forIn_eq_forIn_range']
 simp only[Std.Legacy.Range.size,Nat.sub_zero,Nat.add_sub_cancel,Nat.div_one,Nat.min_self]
 refine wpAny_forIn_list _ (fun rest b s'=>s'=s∧∃i,rest=List.range' i (items.size - i)∧i≤j) _ ?_ ?_ _ _ ⟨rfl,0,by simp,Nat.zero_le _⟩
 ·rintro y rest b s' ⟨rfl,i,hr,hi⟩
  obtain ⟨rfl,hrest⟩:y=i∧rest=List.range' (i+1) (items.size - (i+1)):=by
   have e:items.size - i=(items.size - (i+1))+1:=by omega
   rw[e,List.range'_succ] at hr
   injection hr with h1 h2
   exact⟨h1,h2⟩
  have hlt:y<items.size:=by omega
  rw[Array.getElem?_eq_getElem hlt]
  refine wpAny_bind (he _ (Array.getElem_mem hlt) prog w _ _ ?_)
  rcases Nat.lt_or_ge y j with hyj|hyj
  ·rw[hno y hlt hyj]
   exact wpAny_pure ⟨rfl,y+1,hrest,hyj⟩
  ·have:y=j:=by omega
   subst this
   rw[hit]
   rw[if_pos rfl]
   wp_walk
   exact h
 ·rintro b s' ⟨rfl,i,hr,hi⟩
  have:items.size - i=0:=by
   have:=congrArg List.length hr
   simpa using this.symm
  omega
section
variable {X:Cx}
def rIndexS (K:PySem.W.Frag):V→List V→Hp→VK→Prop:=fun x vs H Q=>∃(l:Addr) (xs:List V) (y:V) (j:Nat) (z:V),x=.ref l∧vs=[y]∧SqT K H l xs∧flatV y=true∧xs.all flatV=true∧xs[j]? = some z∧eqV z y=true∧(∀(m:Nat) (w:V),m<j→xs[m]? = some w→eqV w y=false)∧Q (.int (j:Int)) H
theorem mt_indexT:MtR X "tuple.index" (rIndexS X.K):=by
 intro pins s σ H x vs v us Q I rx rv h
 obtain⟨l,xs,y,j,z0,rfl,rfl,hH,fy,fs,hj,hz,hno,q⟩:=h
 cases rx
 obtain⟨u,rfl,ru⟩:=rv.one
 obtain⟨its,r,pl,hl⟩:=I.tuple hH
 obtain⟨o,e,hc,n,hd⟩:=id pl
 have hjl:j<its.length:=by rw[← r.length];exact(List.getElem?_eq_some_iff.mp hj).1
 refine call_meets F.slot_tuple_index ⟨_,e,hc⟩ F.entry_tuple_index (F.args_tuple_index_2 _ _) (tuple_indexAt l its.toArray u (eqU y) j (by simpa using hjl) ?_ ?_) ⟨⟨o,e,hc,n,hd⟩,fun w hw=>mem_eqAt ru fy r fs w (by simpa using hw),?_⟩
 ·obtain⟨y2,e2,e3⟩:=at_eqU (x:=y) r fs j its[j] (List.getElem?_eq_getElem hjl)
  rw[hj] at e2
  obtain rfl:=Option.some.inj e2
  show eqU y its[j]=true
  rw[e3,hz]
 ·intro m hm hmj
  have hml:m<its.length:=by simpa using hm
  obtain⟨y2,e2,e3⟩:=at_eqU (x:=y) r fs m its[m] (List.getElem?_eq_getElem hml)
  show eqU y its[m]=false
  rw[e3]
  exact hno m y2 hmj e2
 ·exact⟨.int _,H,I.tok _,⟨_,rfl⟩,q⟩
def rIndexLS (K:PySem.W.Frag):V→List V→Hp→VK→Prop:=fun x vs H Q=>∃(l:Addr) (xs:List V) (y:V) (j:Nat) (z:V),x=.ref l∧vs=[y]∧SqL K H l xs∧flatV y=true∧xs.all flatV=true∧xs[j]? = some z∧eqV z y=true∧j<1000000∧(∀(m:Nat) (w:V),m<j→xs[m]? = some w→eqV w y=false)∧Q (.int (j:Int)) H
theorem mt_indexL:MtR X "list.index" (rIndexLS X.K):=by
 intro pins s σ H x vs v us Q I rx rv h
 obtain⟨l,xs,y,j,z0,rfl,rfl,hH,fy,fs,hj,hz,h1000,hno,q⟩:=h
 cases rx
 obtain⟨u,rfl,ru⟩:=rv.one
 obtain⟨its,r,pl,hl⟩:=I.list hH
 obtain⟨o,n,e,hc,hd,hs⟩:=id pl
 have hjl:j<its.length:=by rw[← r.length];exact(List.getElem?_eq_some_iff.mp hj).1
 have eo:o={cls:=.type "list", dict:=none,data:=.seq its.toArray n,slots:=o.slots}:=by
  obtain⟨c,d,dt,sl⟩:=o
  dsimp only at hc hd hs
  subst hc hd hs
  rfl
 rw[eo] at e
 refine call_meets F.slot_list_index ⟨_,e,rfl⟩ F.entry_list_index (F.args_list_index_2 _ _) (SeqAt.list_indexAt l its.toArray n none o.slots u (eqU y) j (by simpa using hjl) (by omega) ?_ ?_) ⟨e,fun w hw=>mem_eqAt ru fy r fs w (by simpa using hw),?_⟩
 ·obtain⟨y2,e2,e3⟩:=at_eqU (x:=y) r fs j its[j] (List.getElem?_eq_getElem hjl)
  rw[hj] at e2
  obtain rfl:=Option.some.inj e2
  show eqU y its[j]=true
  rw[e3,hz]
 ·intro m hm hmj
  have hml:m<its.length:=by simpa using hm
  obtain⟨y2,e2,e3⟩:=at_eqU (x:=y) r fs m its[m] (List.getElem?_eq_getElem hml)
  show eqU y its[m]=false
  rw[e3]
  exact hno m y2 hmj e2
 ·exact⟨.int _,H,I.tok _,⟨_,rfl⟩,q⟩
end
end L2
set_option maxHeartbeats 1000000
namespace L2
open PySem
def txt:Value→Str
 | .str x _=>x
 | _=>⟨#[]⟩
structure StS (w:World)(es:Array (Int×Value))(t:SetTable)(ks:List Str):Prop where
 shape:∀e∈es.toList,∃x tk,e=(hashStr w x,Value.str x tk)
 keys:(es.toList.map fun e=>txt e.2).Perm ks
 nd:ks.Nodup
 fits:t.fits es.size=true
 led:t.led = !w.params.followText "set-order"
 plain:es.size=0∨t.plain=false
 few:es.size<scanBound
theorem StS.size {w:World}{es:Array (Int×Value)}{t:SetTable}{ks:List Str}(S:StS w es t ks):es.size=ks.length:=by
 have:=S.keys.length_eq
 simpa using this
theorem isStrOf_txt {x y:Str}{tk:Tok}:Value.isStrOf x (.str y tk)=true↔x=y:=by
 constructor
 ·intro h
  obtain⟨t,e⟩:=Value.isStrOf_shape h
  injection e with e _
  exact e.symm
 ·rintro rfl;simp[Value.isStrOf,Value.isStr]
theorem StS.find {w:World}{es:Array (Int×Value)}{t:SetTable}{ks:List Str}(S:StS w es t ks)(x:Str):(∃e∈es.toList,Value.isStrOf x e.2=true)↔x∈ks:=by
 rw[← S.keys.mem_iff,List.mem_map]
 constructor
 ·rintro⟨e,he,h⟩
  obtain⟨y,tk,rfl⟩:=S.shape e he
  exact⟨_,he,(isStrOf_txt.mp h).symm⟩
 ·rintro⟨e,he,h⟩
  obtain⟨y,tk,rfl⟩:=S.shape e he
  exact⟨_,he,isStrOf_txt.mpr h.symm⟩
end L2
namespace L2
open PySem
end L2
namespace L2
open PySem
end L2
namespace L2
open PySem
end L2
set_option maxHeartbeats 3200000
namespace L2
open PySem PySem.Spec PyProof.Rows
section
variable {prog:Program}{w:World}{A:Around}{E:Value→Shared→Prop}{s:Shared}
theorem StS.new:StS w #[] (.fresh 0 0 (!w.params.followText "set-order")) [] where
 shape:=fun e he=>by simp at he
 keys:=List.Perm.refl _
 nd:=List.nodup_nil
 fits:=rfl
 led:=rfl
 plain:=.inl rfl
 few:=by decide
end
end L2
namespace L2
open PySem PySem.Spec PyProof.Rows
end L2
set_option maxHeartbeats 1000000
namespace L2
open PySem PySem.Spec PyProof.Rows
end L2
namespace L2
open PySem PySem.Spec PyProof.Rows
inductive D where
 | non|bl (b:Bool)|int (i:Int)|str (l:List Nat)|lst (xs:List D)|tup (xs:List D)|dct (kvs:List (List Nat×D))|exc (n:Nat)
inductive Rs (α:Type) where
 | ok (a:α)|ex (n:Nat)|no
def Rs.bind {α β:Type}:Rs α→(α→Rs β)→Rs β
 | .ok a,f=>f a
 | .ex n,_=>.ex n
 | .no,_=>.no
inductive Sl where
 | no|fz (d:D)|ow (xs:List D)|od (kvs:List (List Nat×D))|ot (ks:List D)
abbrev Rho:=List Sl
inductive Out where
 | nx (ρ:Rho)|rt (d:D)|bk (ρ:Rho)|ct (ρ:Rho)|ex (n:Nat)|no
mutual
inductive Dt (K:PySem.W.Frag)(cl:Nat→Addr)(F:Hp):V→D→Prop
 | non:Dt K cl F .non .non
 | bl (b:Bool):Dt K cl F (.bl b) (.bl b)
 | int (i:Int):Dt K cl F (.int i) (.int i)
 | str (l:List Nat) (ok:TxtOk (T l)):Dt K cl F (.str (T l)) (.str l)
 | lst {a:Addr}{xs:List V}{ds:List D}:SqL K F a xs→Dts K cl F xs ds→Dt K cl F (.ref a) (.lst ds)
 | tup {a:Addr}{xs:List V}{ds:List D}:SqT K F a xs→Dts K cl F xs ds→Dt K cl F (.ref a) (.tup ds)
 | dct {a:Addr}{kvs:List (Key×V)}{ds:List (List Nat×D)}:F a=some (.dK kvs)→Dks K cl F kvs ds→Dt K cl F (.ref a) (.dct ds)
 | exc {a:Addr}{n:Nat}:F a=some (excAt a (cl n))→Dt K cl F (.ref a) (.exc n)
inductive Dts (K:PySem.W.Frag)(cl:Nat→Addr)(F:Hp):List V→List D→Prop
 | nil:Dts K cl F [] []
 | cons {v:V}{d:D}{vs:List V}{ds:List D}:Dt K cl F v d→Dts K cl F vs ds→Dts K cl F (v::vs) (d::ds)
inductive Dks (K:PySem.W.Frag)(cl:Nat→Addr)(F:Hp):List (Key×V)→List (List Nat×D)→Prop
 | nil:Dks K cl F [] []
 | cons {l:List Nat}{v:V}{d:D}{vs:List (Key×V)}{ds:List (List Nat×D)}:TxtOk (T l)→Dt K cl F v d→Dks K cl F vs ds→Dks K cl F ((Sum.inr (T l),v)::vs) ((l,d)::ds)
end
section
variable {K:PySem.W.Frag}{cl:Nat→Addr}{F F' H H':Hp}
theorem Dt.monos (e:Same F F'):(∀{v:V}{d:D},Dt K cl F v d→Dt K cl F' v d)∧(∀{vs:List V}{ds:List D},Dts K cl F vs ds→Dts K cl F' vs ds)∧(∀{vs:List (Key×V)}{ds:List (List Nat×D)},Dks K cl F vs ds→Dks K cl F' vs ds):=by
 refine⟨fun {v d} h=>?_,fun {vs ds} h=>?_,fun {vs ds} h=>?_⟩
 ·exact Dt.rec (motive_1:=fun v d _=>Dt K cl F' v d) (motive_2:=fun vs ds _=>Dts K cl F' vs ds) (motive_3:=fun vs ds _=>Dks K cl F' vs ds) .non .bl .int .str (fun q _ ih=>.lst (e.seq q) ih) (fun q _ ih=>.tup (e.seqT q) ih) (fun q _ ih=>.dct (e _ _ q) ih) (fun q=>.exc (e _ _ q)) .nil (fun _ _ a b=>.cons a b) .nil (fun ok _ _ a b=>.cons ok a b) h
 ·exact Dts.rec (motive_1:=fun v d _=>Dt K cl F' v d) (motive_2:=fun vs ds _=>Dts K cl F' vs ds) (motive_3:=fun vs ds _=>Dks K cl F' vs ds) .non .bl .int .str (fun q _ ih=>.lst (e.seq q) ih) (fun q _ ih=>.tup (e.seqT q) ih) (fun q _ ih=>.dct (e _ _ q) ih) (fun q=>.exc (e _ _ q)) .nil (fun _ _ a b=>.cons a b) .nil (fun ok _ _ a b=>.cons ok a b) h
 ·exact Dks.rec (motive_1:=fun v d _=>Dt K cl F' v d) (motive_2:=fun vs ds _=>Dts K cl F' vs ds) (motive_3:=fun vs ds _=>Dks K cl F' vs ds) .non .bl .int .str (fun q _ ih=>.lst (e.seq q) ih) (fun q _ ih=>.tup (e.seqT q) ih) (fun q _ ih=>.dct (e _ _ q) ih) (fun q=>.exc (e _ _ q)) .nil (fun _ _ a b=>.cons a b) .nil (fun ok _ _ a b=>.cons ok a b) h
theorem Dt.mono {v:V}{d:D}(h:Dt K cl F v d)(e:Same F F'):Dt K cl F' v d:=(Dt.monos e).1 h
theorem Dts.mono {vs:List V}{ds:List D}(h:Dts K cl F vs ds)(e:Same F F'):Dts K cl F' vs ds:=(Dt.monos e).2.1 h
theorem Dks.mono {vs:List (Key×V)}{ds:List (List Nat×D)}(h:Dks K cl F vs ds)(e:Same F F'):Dks K cl F' vs ds:=(Dt.monos e).2.2 h
theorem Dts.length:∀{vs:List V}{ds:List D},Dts K cl F vs ds→vs.length=ds.length
 | _,_,.nil=>rfl
 | _,_,.cons _ r=>by simp[r.length]
theorem Dts.append:∀{vs ws:List V}{ds es:List D},Dts K cl F vs ds→Dts K cl F ws es→Dts K cl F (vs++ws) (ds++es)
 | _,_,_,_,.nil,s=>s
 | _,_,_,_,.cons r t,s=>.cons r (Dts.append t s)
theorem Dts.get:∀{vs:List V}{ds:List D}{i:Nat}{v:V},Dts K cl F vs ds→vs[i]? = some v→∃d,ds[i]? = some d∧Dt K cl F v d
 | _,_,_,_,.nil,e=>by simp at e
 | _,_,0,_,.cons r _,e=>by simp at e;subst e;exact⟨_,rfl,r⟩
 | _,_,i+1,v,.cons _ t,e=>by
  obtain⟨d,h1,h2⟩:=Dts.get (i:=i) (v:=v) t (by simpa using e)
  exact⟨d,by simpa using h1,h2⟩
theorem Dts.get':∀{vs:List V}{ds:List D}{i:Nat}{d:D},Dts K cl F vs ds→ds[i]? = some d→∃v,vs[i]? = some v∧Dt K cl F v d
 | _,_,_,_,.nil,e=>by simp at e
 | _,_,0,_,.cons r _,e=>by simp at e;subst e;exact⟨_,rfl,r⟩
 | _,_,i+1,d,.cons _ t,e=>by
  obtain⟨v,h1,h2⟩:=Dts.get' (i:=i) (d:=d) t (by simpa using e)
  exact⟨v,by simpa using h1,h2⟩
theorem Dts.take:∀{vs:List V}{ds:List D} (n:Nat),Dts K cl F vs ds→Dts K cl F (vs.take n) (ds.take n)
 | _,_,0,_=>.nil
 | _,_,_+1,.nil=>.nil
 | _,_,n+1,.cons r t=>.cons r (Dts.take n t)
theorem Dts.drop:∀{vs:List V}{ds:List D} (n:Nat),Dts K cl F vs ds→Dts K cl F (vs.drop n) (ds.drop n)
 | _,_,0,r=>r
 | _,_,_+1,.nil=>.nil
 | _,_,n+1,.cons _ t=>Dts.drop n t
def kOf:D→Key
 | .int i=>.inl i
 | .str l=>.inr (T l)
 | _=>.inl 0
def isAt:D→Bool
 | .int _=>true
 | .str _=>true
 | _=>false
def tOf:D→List D
 | .tup ds=>ds
 | _=>[]
def kkOf (d:D):List Key:=(tOf d).map kOf
def isTA:D→Bool
 | .tup ds=>ds.all isAt
 | _=>false
structure Dtk (K:PySem.W.Frag)(cl:Nat→Addr)(F:Hp)(kvs:List (List Key×Addr))(ks:List D):Prop where
 ky:kvs.map (·.1)=ks.map kkOf
 dt:Dts K cl F (kvs.map fun q=>V.ref q.2) ks
 ta:∀d∈ks,isTA d=true
 nd:(ks.map kkOf).Nodup
theorem Dtk.mono {kvs:List (List Key×Addr)}{ks:List D}(h:Dtk K cl F kvs ks)(e:Same F F'):Dtk K cl F' kvs ks:=⟨h.ky,h.dt.mono e,h.ta,h.nd⟩
mutual
def D.py:D→PyData
 | .non=>.none
 | .bl b=>.bool b
 | .int i=>.int i
 | .str l=>.str (T l)
 | .lst xs=>.list (D.pys xs)
 | .tup xs=>.tuple (D.pys xs)
 | .dct _=>.none
 | .exc _=>.none
def D.pys:List D→List PyData
 | []=>[]
 | d::ds=>d.py::D.pys ds
end
mutual
def D.pl:D→Bool
 | .lst xs=>D.pls xs
 | .tup xs=>D.pls xs
 | .dct _=>false
 | .exc _=>false
 | _=>true
def D.pls:List D→Bool
 | []=>true
 | d::ds=>d.pl&&D.pls ds
end
theorem Dt.iss:(∀{v:V}{d:D},Dt K cl F v d→d.pl=true→Is K F v d.py)∧(∀{vs:List V}{ds:List D},Dts K cl F vs ds→D.pls ds=true→Iss K F vs (D.pys ds)):=by
 refine⟨fun {v d} h=>?_,fun {vs ds} h=>?_⟩
 ·exact Dt.rec (motive_1:=fun v d _=>d.pl=true→Is K F v d.py) (motive_2:=fun vs ds _=>D.pls ds=true→Iss K F vs (D.pys ds)) (motive_3:=fun _ _ _=>True) (fun _=>.non) (fun b _=>.bl b) (fun i _=>.int i) (fun l ok _=>.str _ ok) (fun q _ ih p=>.lst q (ih p)) (fun q _ ih p=>.tup q (ih p)) (fun _ _ _ p=>by simp[D.pl] at p) (fun _ p=>by simp[D.pl] at p) (fun _=>.nil)
   (fun _ _ a b p=>by simp only[D.pls,Bool.and_eq_true] at p;exact .cons (a p.1) (b p.2)) trivial (fun _ _ _ _ _=>trivial) h
 ·exact Dts.rec (motive_1:=fun v d _=>d.pl=true→Is K F v d.py) (motive_2:=fun vs ds _=>D.pls ds=true→Iss K F vs (D.pys ds)) (motive_3:=fun _ _ _=>True) (fun _=>.non) (fun b _=>.bl b) (fun i _=>.int i) (fun l ok _=>.str _ ok) (fun q _ ih p=>.lst q (ih p)) (fun q _ ih p=>.tup q (ih p)) (fun _ _ _ p=>by simp[D.pl] at p) (fun _ p=>by simp[D.pl] at p) (fun _=>.nil)
   (fun _ _ a b p=>by simp only[D.pls,Bool.and_eq_true] at p;exact .cons (a p.1) (b p.2)) trivial (fun _ _ _ _ _=>trivial) h
theorem Dt.is {v:V}{d:D}(h:Dt K cl F v d)(p:d.pl=true):Is K F v d.py:=Dt.iss.1 h p
def HO.mu:HO→Bool
 | .tup _=>false
 | .frz _ _=>false
 | _=>true
structure Gr (F H F' H':Hp):Prop where
 ff:Same F F'
 hh:Same H H'
 fh:Same F' H'
 no:∀b o,H b=some o→o.mu=true→F b=none→F' b=none
theorem Gr.refl (h:Same F H):Gr F H F H:=⟨Same.refl _,Same.refl _,h,fun _ _ _ _ q=>q⟩
theorem Gr.trans {F1 H1 F2 H2 F3 H3:Hp}(a:Gr F1 H1 F2 H2)(b:Gr F2 H2 F3 H3):Gr F1 H1 F3 H3 :=
 ⟨a.ff.trans b.ff,a.hh.trans b.hh,b.fh,fun c o hc m q=>b.no c o (a.hh c o hc) m (a.no c o hc m q)⟩
theorem upd_mono {H1 H2:Hp}{p:Addr}{o:HO}(h:Same H1 H2):Same (upd H1 p o) (upd H2 p o):=fun b u e=>by
 by_cases hb:b=p
 ·subst hb;rw[zR] at e ⊢;exact e
 ·rw[zN hb] at e ⊢;exact h b u e
theorem Gr.new {p:Addr}{o:HO}(h:Same F H)(hp:H p=none):Gr F H (upd F p o) (upd H p o) :=
 ⟨Same.upd (h.free hp),Same.upd hp,upd_mono h,fun b o hb m q=>by
  have hne:b≠p:=fun z=>by rw[z,hp] at hb;cases hb
  rw[zN hne];exact q⟩
theorem Gr.newO {p:Addr}{o:HO}(h:Same F H)(hp:H p=none):Gr F H F (upd H p o) :=
 ⟨Same.refl _,Same.upd hp,h.trans (Same.upd hp),fun _ _ _ _ q=>q⟩
def Sl.own:Sl→Bool
 | .ow _=>true
 | .od _=>true
 | .ot _=>true
 | _=>false
theorem Gr.tup {K:PySem.W.Frag}{cl:Nat→Addr}{p:Addr}{vs:List V}{ds:List D}(h:Same F H)(s:Same H H')(q:SqT K H' p vs)(d:Dts K cl F vs ds):∃F',Gr F H F' H'∧Dt K cl F' (.ref p) (.tup ds):=by
 have s2:Same F H':=h.trans s
 have add:∀o:HO,H' p=some o→o.mu=false→Gr F H (fun b=>if b=p then H' b else F b) H'∧Same F (fun b=>if b=p then H' b else F b):=fun o e m=>by
  have ff:Same F (fun b=>if b=p then H' b else F b):=fun b u e'=>by
   show(if b=p then H' b else F b)=some u
   split
   ·exact s2 b u e'
   ·exact e'
  refine⟨⟨ff,s,fun b u e'=>?_,fun b u hb m' q'=>?_⟩,ff⟩
  ·have e2:(if b=p then H' b else F b)=some u:=e'
   split at e2
   ·exact e2
   ·exact s2 b u e2
  ·show (if b=p then H' b else F b)=none
   split
   ·rename_i w
    subst w
    rw[s b u hb] at e
    injection e with e
    rw[e,m] at m'
    cases m'
   ·exact q'
 rcases q with(e|⟨u,e⟩)|q
 ·obtain⟨g,ff⟩:=add _ e rfl
  exact⟨_,g,.tup (.inl (.inl (by show(if p=p then H' p else F p)=_;rw[if_pos rfl];exact e))) (d.mono ff)⟩
 ·obtain⟨g,ff⟩:=add _ e rfl
  exact⟨_,g,.tup (.inl (.inr ⟨u,by show(if p=p then H' p else F p)=_;rw[if_pos rfl];exact e⟩)) (d.mono ff)⟩
 ·exact⟨F,⟨Same.refl _,s,s2,fun _ _ _ _ z=>z⟩,.tup (.inr q) d⟩
inductive Ly (K:PySem.W.Frag)(cl:Nat→Addr)(F:Hp):HO→Sl→Prop
 | ow {vs:List V}{ds:List D}:Dts K cl F vs ds→Ly K cl F (.lst vs) (.ow ds)
 | od {vs:List (Key×V)}{ds:List (List Nat×D)}:Dks K cl F vs ds→Ly K cl F (.dK vs) (.od ds)
 | ot {vs:List (List Key×Addr)}{ds:List D}:Dtk K cl F vs ds→Ly K cl F (.dR vs) (.ot ds)
theorem Ly.mono {o:HO}{s:Sl}(h:Ly K cl F o s)(e:Same F F'):Ly K cl F' o s:=by
 cases h with
 | ow q=>exact .ow (q.mono e)
 | od q=>exact .od (q.mono e)
 | ot q=>exact .ot (q.mono e)
theorem Ly.mu {o:HO}{s:Sl}(h:Ly K cl F o s):o.mu=true:=by cases h <;>rfl
theorem ref_inj {o:Option (Option V)}{a b:Addr}(h:o=some (some (.ref a)))(k:o=some (some (.ref b))):a=b:=by rw[h] at k;injection k with k;injection k with k;injection k
structure Rl (K:PySem.W.Frag)(cl:Nat→Addr)(H0 F0:Hp)(ρ:Rho)(σ:St)(H F:Hp):Prop where
 gr:Gr F0 H0 F H
 len:ρ.length=σ.length
 fz:∀(i:Nat) d,ρ[i]? = some (.fz d)→∃v,σ[i]? = some (some v)∧Dt K cl F v d
 own:∀(i:Nat) s,ρ[i]? = some s→s.own=true→∃a o,σ[i]? = some (some (.ref a))∧H a=some o∧F a=none∧H0 a=none∧Ly K cl F o s
 ap:∀(i j:Nat) s t a,ρ[i]? = some s→ρ[j]? = some t→s.own=true→t.own=true→σ[i]? = some (some (.ref a))→σ[j]? = some (some (.ref a))→i=j
section
variable {H0 F0:Hp}{ρ:Rho}{σ:St}(R:Rl K cl H0 F0 ρ σ H F)
include R
theorem Rl.ow (i:Nat)(ds)(e:ρ[i]? = some (.ow ds)):∃a vs,σ[i]? = some (some (.ref a))∧H a=some (.lst vs)∧F a=none∧H0 a=none∧Dts K cl F vs ds:=by
 obtain⟨a,o,h1,h2,h3,h4,h5⟩:=R.own i _ e rfl
 cases h5 with|ow q=>exact⟨a,_,h1,h2,h3,h4,q⟩
theorem Rl.od (i:Nat)(ds)(e:ρ[i]? = some (.od ds)):∃a vs,σ[i]? = some (some (.ref a))∧H a=some (.dK vs)∧F a=none∧H0 a=none∧Dks K cl F vs ds:=by
 obtain⟨a,o,h1,h2,h3,h4,h5⟩:=R.own i _ e rfl
 cases h5 with|od q=>exact⟨a,_,h1,h2,h3,h4,q⟩
theorem Rl.ot (i:Nat)(ds)(e:ρ[i]? = some (.ot ds)):∃a vs,σ[i]? = some (some (.ref a))∧H a=some (.dR vs)∧F a=none∧H0 a=none∧Dtk K cl F vs ds:=by
 obtain⟨a,o,h1,h2,h3,h4,h5⟩:=R.own i _ e rfl
 cases h5 with|ot q=>exact⟨a,_,h1,h2,h3,h4,q⟩
theorem Rl.grow (g:Gr F H F' H'):Rl K cl H0 F0 ρ σ H' F' where
 gr:=R.gr.trans g
 len:=R.len
 fz:=fun i d e=>let ⟨v,h1,h2⟩:=R.fz i d e;⟨v,h1,h2.mono g.ff⟩
 own:=fun i s e o=>let ⟨a,q,h1,h2,h3,h4,h5⟩:=R.own i s e o;⟨a,q,h1,g.hh _ _ h2,g.no a _ h2 h5.mu h3,h4,h5.mono g.ff⟩
 ap:=R.ap
end
theorem Rl.fh {H0 F0:Hp}{ρ:Rho}{σ:St}(R:Rl K cl H0 F0 ρ σ H F):Same F H:=R.gr.fh
theorem get_set {α:Type}{l:List α}{i j:Nat}{x y:α}(h:(l.set i x)[j]? = some y):(i=j∧y=x∧i<l.length)∨(i≠j∧l[j]? = some y):=by
 by_cases e:i=j
 ·subst e
  rw[List.getElem?_set_self'] at h
  cases q:l[i]? with
  | none=>rw[q] at h;cases h
  | some z =>
   rw[q] at h
   exact .inl ⟨rfl,(Option.some.inj h).symm,(List.getElem?_eq_some_iff.mp q).1⟩
 ·rw[List.getElem?_set_ne e] at h
  exact .inr ⟨e,h⟩
theorem set_get {α:Type}{l:List α}{i:Nat}{x:α}(h:i<l.length):(l.set i x)[i]? = some x:=by rw[List.getElem?_set_self h]
theorem Rl.set {H0 F0:Hp}{ρ:Rho}{σ:St}{i:Nat}{v:V}{d:D}(R:Rl K cl H0 F0 ρ σ H F)(h:Dt K cl F v d):Rl K cl H0 F0 (ρ.set i (.fz d)) (σ.set i (some v)) H F where
 gr:=R.gr
 len:=by simp[R.len]
 fz := fun j e z=>by
  rcases get_set z with⟨rfl,q,hl⟩|⟨hj,q⟩
  ·injection q with q;subst q
   exact⟨v,set_get (R.len▸hl),h⟩
  ·rw[List.getElem?_set_ne hj];exact R.fz j e q
 own:=fun j s z o=>by
  rcases get_set z with⟨rfl,q,hl⟩|⟨hj,q⟩
  ·subst q;cases o
  ·rw[List.getElem?_set_ne hj];exact R.own j s q o
 ap := fun j k s t a z1 z2 o1 o2 e1 e2=>by
  rcases get_set z1 with⟨rfl,q,hl⟩|⟨hj,q⟩
  ·subst q;cases o1
  ·rcases get_set z2 with⟨rfl,q2,hl⟩|⟨hk,q2⟩
   ·subst q2;cases o2
   ·rw[List.getElem?_set_ne hj] at e1;rw[List.getElem?_set_ne hk] at e2
    exact R.ap j k s t a q q2 o1 o2 e1 e2
theorem Rl.apart {H0 F0:Hp}{ρ:Rho}{σ:St}(R:Rl K cl H0 F0 ρ σ H F){j:Nat}{s:Sl}{a:Addr}(e:ρ[j]? = some s)(o:s.own=true)(z:σ[j]? = some (some (.ref a))):H a≠none:=by
 obtain⟨b,q,h1,h2,_⟩:=R.own j s e o
 rw[ref_inj z h1,h2];exact fun z=>nomatch z
theorem Rl.ownN {H0 F0:Hp}{ρ:Rho}{σ:St}{i:Nat}{p:Addr}{o:HO}{s:Sl}{H' F':Hp}(R:Rl K cl H0 F0 ρ σ H F)(g:Gr F H F' H')(hp:H p=none)(h2:H' p=some o)(h3:F' p=none)(h:Ly K cl F' o s):Rl K cl H0 F0 (ρ.set i s) (σ.set i (some (.ref p))) H' F' where
 gr:=R.gr.trans g
 len:=by simp[R.len]
 fz:=fun j e z=>by
  rcases get_set z with⟨rfl,q,hl⟩|⟨hj,q⟩
  ·subst q;cases h
  ·rw[List.getElem?_set_ne hj];exact(R.grow g).fz j e q
 own:=fun j e z w=>by
  rcases get_set z with⟨rfl,q,hl⟩|⟨hj,q⟩
  ·subst q
   exact⟨p,o,set_get (R.len▸hl),h2,h3,R.gr.hh.free hp,h⟩
  ·rw[List.getElem?_set_ne hj];exact(R.grow g).own j e q w
 ap := fun j k s t a z1 z2 o1 o2 e1 e2=>by
  rcases get_set z1 with⟨rfl,q,hl⟩|⟨hj,q⟩
  ·rcases get_set z2 with⟨rfl,q2,hl2⟩|⟨hk,q2⟩
   ·rfl
   ·rw[set_get (R.len▸hl)] at e1;rw[List.getElem?_set_ne hk] at e2
    exact absurd (ref_inj e1 rfl▸hp) (R.apart q2 o2 e2)
  ·rcases get_set z2 with⟨rfl,q2,hl2⟩|⟨hk,q2⟩
   ·rw[set_get (R.len▸hl2)] at e2;rw[List.getElem?_set_ne hj] at e1
    exact absurd (ref_inj e2 rfl▸hp) (R.apart q o1 e1)
   ·rw[List.getElem?_set_ne hj] at e1;rw[List.getElem?_set_ne hk] at e2
    exact R.ap j k s t a q q2 o1 o2 e1 e2
theorem Rl.newOwn {H0 F0:Hp}{ρ:Rho}{σ:St}{i:Nat}{p:Addr}{o:HO}{s:Sl}(R:Rl K cl H0 F0 ρ σ H F)(hp:H p=none)(h:Ly K cl F o s):Rl K cl H0 F0 (ρ.set i s) (σ.set i (some (.ref p))) (upd H p o) F:=R.ownN (Gr.newO R.fh hp) hp zR (R.fh.free hp) h
theorem Rl.setO {H0 F0:Hp}{ρ:Rho}{σ:St}{i:Nat}{p:Addr}{vs:List V}{ds:List D}(R:Rl K cl H0 F0 ρ σ H F)(hp:H p=none)(h:Dts K cl F vs ds):Rl K cl H0 F0 (ρ.set i (.ow ds)) (σ.set i (some (.ref p))) (upd H p (.lst vs)) F:=R.newOwn hp (.ow h)
theorem Rl.chg {H0 F0:Hp}{ρ:Rho}{σ:St}{i:Nat}{a:Addr}{o:HO}{s t:Sl}(R:Rl K cl H0 F0 ρ σ H F)(hi:ρ[i]? = some s)(hw:s.own=true)(hs:σ[i]? = some (some (.ref a)))(h:Ly K cl F o t):Rl K cl H0 F0 (ρ.set i t) σ (upd H a o) F:=by
 obtain⟨b,w,h1,h2,h3,h4,_⟩:=R.own i s hi hw
 obtain rfl:=ref_inj hs h1
 have far:∀(j:Nat) (s:Sl) (c:Addr),j≠i→ρ[j]? = some s→s.own=true→σ[j]? = some (some (.ref c))→c≠a:=fun j s c hj e o z w=>hj (R.ap j i s _ a e hi o hw (w▸z) hs)
 refine⟨⟨R.gr.ff,fun c o e=>?_,fun c o e=>?_,R.gr.no⟩,by simp[R.len],fun j e z=>?_,fun j e z q=>?_,fun j k s1 t1 c z1 z2 o1 o2 e1 e2=>?_⟩
 ·rw[zN (fun w=>by rw[w,h4] at e;cases e)];exact R.gr.hh c o e
 ·rw[zN (fun w=>by rw[w,h3] at e;cases e)];exact R.fh c o e
 ·rcases get_set z with⟨rfl,q,hl⟩|⟨hj,q⟩
  ·subst q;cases h
  ·exact R.fz j e q
 ·rcases get_set z with⟨rfl,w,hl⟩|⟨hj,w⟩
  ·subst w
   exact⟨a,o,hs,zR,h3,h4,h⟩
  ·obtain⟨c,x,k1,k2,k3⟩:=R.own j e w q
   exact⟨c,x,k1,by rw[zN (far j _ c (Ne.symm hj) w q k1)];exact k2,k3⟩
 ·have own:∀(j:Nat) (r:Sl),(ρ.set i t)[j]? = some r→r.own=true→∃s',ρ[j]? = some s'∧s'.own=true:=fun j r z o=>by
   rcases get_set z with⟨rfl,q,hl⟩|⟨hj,q⟩
   ·exact⟨_,hi,hw⟩
   ·exact⟨r,q,o⟩
  obtain⟨s',q1,p1⟩:=own j _ z1 o1
  obtain⟨t',q2,p2⟩:=own k _ z2 o2
  exact R.ap j k s' t' c q1 q2 p1 p2 e1 e2
theorem Rl.put {H0 F0:Hp}{ρ:Rho}{σ:St}{i:Nat}{a:Addr}{us:List V}{ds es:List D}(R:Rl K cl H0 F0 ρ σ H F)(hi:ρ[i]? = some (.ow ds))(hs:σ[i]? = some (some (.ref a)))(h:Dts K cl F us es):Rl K cl H0 F0 (ρ.set i (.ow es)) σ (upd H a (.lst us)) F:=R.chg hi rfl hs (.ow h)
theorem Rl.let {H0 F0:Hp}{ρ:Rho}{σ:St}{i:Nat}{s:Sl}{d:D}(R:Rl K cl H0 F0 ρ σ H F)(hi:ρ[i]? = some s)(hw:s.own=true)(hd:∀a o F,Ly K cl F o s→F a=some o→Dt K cl F (.ref a) d):∃F',Same F F'∧Rl K cl H0 F0 (ρ.set i (.fz d)) σ H F':=by
 obtain⟨a,o,h1,h2,h3,h4,h5⟩:=R.own i s hi hw
 have sm:Same F (upd F a o):=Same.upd h3
 have far:∀(j:Nat) (s:Sl) (c:Addr),j≠i→ρ[j]? = some s→s.own=true→σ[j]? = some (some (.ref c))→c≠a:=fun j s c hj e o z w=>hj (R.ap j i s _ a e hi o hw (w▸z) h1)
 refine⟨upd F a o,sm,⟨⟨R.gr.ff.trans sm,R.gr.hh,fun c o e=>?_,fun c o hc m q=>?_⟩,by simp[R.len],fun j e z=>?_,fun j e z w=>?_,fun j k s t c z1 z2 o1 o2 e1 e2=>?_⟩⟩
 ·by_cases w:c=a
  ·subst w;rw[zR] at e;rw[← e];exact h2
  ·rw[zN w] at e;exact R.fh c o e
 ·have hne:c≠a:=fun w=>by rw[w,h4] at hc;cases hc
  rw[zN hne];exact R.gr.no c o hc m q
 ·rcases get_set z with⟨rfl,q,hl⟩|⟨hj,q⟩
  ·injection q with q;subst q
   exact⟨.ref a,h1,hd a o _ (h5.mono sm) zR⟩
  ·obtain⟨v,k1,k2⟩:=R.fz j e q
   exact⟨v,k1,k2.mono sm⟩
 ·rcases get_set z with⟨rfl,q,hl⟩|⟨hj,q⟩
  ·subst q;cases w
  ·obtain⟨c,xs,k1,k2,k3,k4,k5⟩:=R.own j e q w
   exact⟨c,xs,k1,k2,by rw[zN (far j _ c (Ne.symm hj) q w k1)];exact k3,k4,k5.mono sm⟩
 ·rcases get_set z1 with⟨rfl,q,hl⟩|⟨hj,q⟩
  ·subst q;cases o1
  ·rcases get_set z2 with⟨rfl,q2,hl⟩|⟨hk,q2⟩
   ·subst q2;cases o2
   ·exact R.ap j k s t c q q2 o1 o2 e1 e2
theorem Rl.ice {H0 F0:Hp}{ρ:Rho}{σ:St}{i:Nat}{ds:List D}(R:Rl K cl H0 F0 ρ σ H F)(hi:ρ[i]? = some (.ow ds)):∃F',Same F F'∧Rl K cl H0 F0 (ρ.set i (.fz (.lst ds))) σ H F':=R.let hi rfl fun a o F l e=>by
 cases l with|ow q=>exact .lst (.inl (.inl e)) q
end
end L2
namespace L2
open PySem PySem.Spec PyProof.Rows
def OutE (K:PySem.W.Frag)(cl:Nat→Addr)(E:XK)(H0 F H:Hp)(r:Rs D)(Q:VK):Prop :=
 match r with
 | .ok d=>∀v H' F',Gr F H F' H'→Dt K cl F' v d→Q v H'
 | .ex n=>∀H',Same H0 H'→E (.ref (cl n)) none H'
 | .no=>False
def OutA (K:PySem.W.Frag)(cl:Nat→Addr)(E:XK)(H0 F H:Hp)(r:Rs (List D))(Q:List V→Hp→Prop):Prop :=
 match r with
 | .ok ds=>∀vs H' F',Gr F H F' H'→Dts K cl F' vs ds→Q vs H'
 | .ex n=>∀H',Same H0 H'→E (.ref (cl n)) none H'
 | .no=>False
def OutB (K:PySem.W.Frag)(cl:Nat→Addr)(E:XK)(H0 F H:Hp)(r:Rs Bool)(Q:Bool→Hp→Prop):Prop :=
 match r with
 | .ok b=>∀H' F',Gr F H F' H'→Q b H'
 | .ex n=>∀H',Same H0 H'→E (.ref (cl n)) none H'
 | .no=>False
def OutS (K:PySem.W.Frag)(cl:Nat→Addr)(E:XK)(H0 F0 F:Hp)(o:Out)(Dn:Ends):Prop :=
 match o with
 | .nx ρ=>∀σ H F',Rl K cl H0 F0 ρ σ H F'→Same F F'→Dn.nx σ H
 | .rt d=>∀v H F',Gr F0 H0 F' H→Dt K cl F' v d→Dn.rt v H
 | .bk ρ=>∀σ H F',Rl K cl H0 F0 ρ σ H F'→Same F F'→Dn.bk σ H
 | .ct ρ=>∀σ H F',Rl K cl H0 F0 ρ σ H F'→Same F F'→Dn.ct σ H
 | .ex n=>∀H',Same H0 H'→E (.ref (cl n)) none H'
 | .no=>False
def XE' (X:Cx)(cl:Nat→Addr)(E:XK)(e:Expr)(f:Rho→Rs D):Prop :=
 ∃t:TE,PE X e t∧∀(H0 F0:Hp) (ρ:Rho) (σ:St) (H F:Hp) (Q:VK),Rl X.K cl H0 F0 ρ σ H F→OutE X.K cl E H0 F H (f ρ) Q→t σ H Q
def XA' (X:Cx)(cl:Nat→Addr)(E:XK)(es:List Expr)(f:Rho→Rs (List D)):Prop :=
 ∃t:TA,PA X es t∧∀(H0 F0:Hp) (ρ:Rho) (σ:St) (H F:Hp) (Q:List V→Hp→Prop),Rl X.K cl H0 F0 ρ σ H F→OutA X.K cl E H0 F H (f ρ) Q→t σ H Q
def XT' (X:Cx)(cl:Nat→Addr)(E:XK)(e:Expr)(f:Rho→Rs Bool):Prop :=
 ∃t:TT,PT X e t∧∀(H0 F0:Hp) (ρ:Rho) (σ:St) (H F:Hp) (Q:Bool→Hp→Prop),Rl X.K cl H0 F0 ρ σ H F→OutB X.K cl E H0 F H (f ρ) Q→t σ H Q
def XW' (X:Cx)(cl:Nat→Addr)(E:XK)(e:Expr)(f:Rho→Rs Bool):Prop :=
 ∃t:TT,PW X e t∧∀(H0 F0:Hp) (ρ:Rho) (σ:St) (H F:Hp) (Q:Bool→Hp→Prop),Rl X.K cl H0 F0 ρ σ H F→OutB X.K cl E H0 F H (f ρ) Q→t σ H Q
def XO' (X:Cx)(cl:Nat→Addr)(E:XK)(e:Option Expr)(f:Rho→Rs (Option Int)):Prop :=
 ∃ t:TO,PO X e t∧∀(H0 F0:Hp) (ρ:Rho) (σ:St) (H F:Hp) (Q:Option Int→Hp→Prop),Rl X.K cl H0 F0 ρ σ H F →
  (match f ρ with | .ok o=>∀H' F',Gr F H F' H'→Q o H' | .ex n=>∀H',Same H0 H'→E (.ref (cl n)) none H' | .no=>False)→t σ H Q
def tDE (K:PySem.W.Frag)(cl:Nat→Addr)(E:XK)(f:Rho→Rs D):TE:=fun σ H Q=>∃H0 F0 ρ F,Rl K cl H0 F0 ρ σ H F∧OutE K cl E H0 F H (f ρ) Q
def tDA (K:PySem.W.Frag)(cl:Nat→Addr)(E:XK)(f:Rho→Rs (List D)):TA:=fun σ H Q=>∃H0 F0 ρ F,Rl K cl H0 F0 ρ σ H F∧OutA K cl E H0 F H (f ρ) Q
def tDB (K:PySem.W.Frag)(cl:Nat→Addr)(E:XK)(f:Rho→Rs Bool):TT:=fun σ H Q=>∃H0 F0 ρ F,Rl K cl H0 F0 ρ σ H F∧OutB K cl E H0 F H (f ρ) Q
def XE (X:Cx)(cl:Nat→Addr)(E:XK)(e:Expr)(f:Rho→Rs D):Prop:=PE X e (tDE X.K cl E f)
def XA (X:Cx)(cl:Nat→Addr)(E:XK)(es:List Expr)(f:Rho→Rs (List D)):Prop:=PA X es (tDA X.K cl E f)
def XT (X:Cx)(cl:Nat→Addr)(E:XK)(e:Expr)(f:Rho→Rs Bool):Prop:=PT X e (tDB X.K cl E f)
def XW (X:Cx)(cl:Nat→Addr)(E:XK)(e:Expr)(f:Rho→Rs Bool):Prop:=PW X e (tDB X.K cl E f)
section
variable {X:Cx}{cl:Nat→Addr}{E:XK}
theorem XE.ex {e:Expr}{f:Rho→Rs D}(h:XE X cl E e f):XE' X cl E e f:=⟨_,h,fun H0 F0 ρ σ H F Q R o=>⟨H0,F0,ρ,F,R,o⟩⟩
theorem XA.ex {e:List Expr}{f:Rho→Rs (List D)}(h:XA X cl E e f):XA' X cl E e f:=⟨_,h,fun H0 F0 ρ σ H F Q R o=>⟨H0,F0,ρ,F,R,o⟩⟩
theorem XT.ex {e:Expr}{f:Rho→Rs Bool}(h:XT X cl E e f):XT' X cl E e f:=⟨_,h,fun H0 F0 ρ σ H F Q R o=>⟨H0,F0,ρ,F,R,o⟩⟩
theorem XW.ex {e:Expr}{f:Rho→Rs Bool}(h:XW X cl E e f):XW' X cl E e f:=⟨_,h,fun H0 F0 ρ σ H F Q R o=>⟨H0,F0,ρ,F,R,o⟩⟩
theorem XE'.out {e:Expr}{f:Rho→Rs D}(h:XE' X cl E e f):XE X cl E e f:=let ⟨_,pt,rt⟩:=h;fun pins s σ H Q I ⟨H0,F0,ρ,F,R,o⟩=>pt pins s σ H Q I (rt H0 F0 ρ σ H F Q R o)
theorem XA'.out {e:List Expr}{f:Rho→Rs (List D)}(h:XA' X cl E e f):XA X cl E e f:=let ⟨_,pt,rt⟩:=h;fun pos pins s σ H Q I ⟨H0,F0,ρ,F,R,o⟩=>pt pos pins s σ H Q I (rt H0 F0 ρ σ H F Q R o)
theorem XT'.out {e:Expr}{f:Rho→Rs Bool}(h:XT' X cl E e f):XT X cl E e f:=let ⟨_,pt,rt⟩:=h;fun pins s σ H Q I ⟨H0,F0,ρ,F,R,o⟩=>pt pins s σ H Q I (rt H0 F0 ρ σ H F Q R o)
theorem XW'.out {e:Expr}{f:Rho→Rs Bool}(h:XW' X cl E e f):XW X cl E e f:=let ⟨_,pt,rt⟩:=h;fun whole pins s σ H Q I ⟨H0,F0,ρ,F,R,o⟩=>pt whole pins s σ H Q I (rt H0 F0 ρ σ H F Q R o)
end
def fC (d:D):Rho→Rs D:=fun _=>.ok d
def fNm (i:Nat):Rho→Rs D:=fun ρ=>match ρ[i]? with|some (.fz d)=>.ok d|_=>.no
def lf:Option D→Rs D
 | some d=>.ok d
 | none=>.no
def f1 (g:D→Option D)(fa:Rho→Rs D):Rho→Rs D:=fun ρ=>(fa ρ).bind fun a=>lf (g a)
def f2 (g:D→D→Option D)(fa fb:Rho→Rs D):Rho→Rs D:=fun ρ=>(fa ρ).bind fun a=>(fb ρ).bind fun b=>lf (g a b)
def zB:Rho→Rs (List D):=fun _=>.ok []
def zj (fa:Rho→Rs D)(fs:Rho→Rs (List D)):Rho→Rs (List D):=fun ρ=>(fa ρ).bind fun a=>(fs ρ).bind fun as=>.ok (a::as)
def fO (g:List D→Option D)(fs:Rho→Rs (List D)):Rho→Rs D:=fun ρ=>(fs ρ).bind fun as=>lf (g as)
def fA (g:List D→Rs D)(fs:Rho→Rs (List D)):Rho→Rs D:=fun ρ=>(fs ρ).bind g
def fIf (ft:Rho→Rs Bool)(fa fb:Rho→Rs D):Rho→Rs D:=fun ρ=>(ft ρ).bind fun b=>if b=true then fa ρ else fb ρ
def tru:D→Rs Bool
 | .bl b=>.ok b
 | _=>.no
def bT (fa:Rho→Rs D):Rho→Rs Bool:=fun ρ=>(fa ρ).bind tru
def bNot (ft:Rho→Rs Bool):Rho→Rs Bool:=fun ρ=>(ft ρ).bind fun b=>.ok (!b)
def bAnd (fa fb:Rho→Rs Bool):Rho→Rs Bool:=fun ρ=>(fa ρ).bind fun b=>if b=true then fb ρ else .ok false
def bOr (fa fb:Rho→Rs Bool):Rho→Rs Bool:=fun ρ=>(fa ρ).bind fun b=>if b=true then .ok true else fb ρ
def fAnd (fa fb:Rho→Rs D):Rho→Rs D:=fun ρ=>(fa ρ).bind fun a=>(tru a).bind fun b=>if b=true then fb ρ else .ok (.bl false)
def fOr (fa fb:Rho→Rs D):Rho→Rs D:=fun ρ=>(fa ρ).bind fun a=>(tru a).bind fun b=>if b=true then .ok (.bl true) else fb ρ
def fNot (fa:Rho→Rs D):Rho→Rs D:=fun ρ=>(fa ρ).bind fun a=>(tru a).bind fun b=>.ok (.bl (!b))
section
variable {K:PySem.W.Frag}{cl:Nat→Addr}{E:XK}{H0 F0 F H F1 H1:Hp}{ρ:Rho}{σ:St}
theorem OutE.grow {r:Rs D}{Q:VK}(h:OutE K cl E H0 F H r Q)(g:Gr F H F1 H1):OutE K cl E H0 F1 H1 r Q:=by
 cases r with
 | ok d=>exact fun v H' F' g' q=>h v H' F' (g.trans g') q
 | ex n=>exact h
 | no=>exact h
theorem OutA.grow {r:Rs (List D)}{Q:List V→Hp→Prop}(h:OutA K cl E H0 F H r Q)(g:Gr F H F1 H1):OutA K cl E H0 F1 H1 r Q:=by
 cases r with
 | ok d=>exact fun v H' F' g' q=>h v H' F' (g.trans g') q
 | ex n=>exact h
 | no=>exact h
theorem OutB.grow {r:Rs Bool}{Q:Bool→Hp→Prop}(h:OutB K cl E H0 F H r Q)(g:Gr F H F1 H1):OutB K cl E H0 F1 H1 r Q:=by
 cases r with
 | ok d=>exact fun H' F' g'=>h H' F' (g.trans g')
 | ex n=>exact h
 | no=>exact h
theorem OutE.fst {r:Rs D}{g:D→Rs D}{Q P:VK}(h:OutE K cl E H0 F H (r.bind g) Q)(k:∀d v H1 F1,Gr F H F1 H1→Dt K cl F1 v d→OutE K cl E H0 F1 H1 (g d) Q→P v H1):OutE K cl E H0 F H r P:=by
 cases r with
 | ok d=>exact fun v H' F' g' q=>k d v H' F' g' q (h.grow g')
 | ex n=>exact h
 | no=>exact h
theorem OutE.fstA {r:Rs D}{g:D→Rs (List D)}{Q:List V→Hp→Prop}{P:VK}(h:OutA K cl E H0 F H (r.bind g) Q)(k:∀d v H1 F1,Gr F H F1 H1→Dt K cl F1 v d→OutA K cl E H0 F1 H1 (g d) Q→P v H1):OutE K cl E H0 F H r P:=by
 cases r with
 | ok d=>exact fun v H' F' g' q=>k d v H' F' g' q (h.grow g')
 | ex n=>exact h
 | no=>exact h
theorem OutA.fst {r:Rs (List D)}{g:List D→Rs D}{Q:VK}{P:List V→Hp→Prop}(h:OutE K cl E H0 F H (r.bind g) Q)(k:∀d v H1 F1,Gr F H F1 H1→Dts K cl F1 v d→OutE K cl E H0 F1 H1 (g d) Q→P v H1):OutA K cl E H0 F H r P:=by
 cases r with
 | ok d=>exact fun v H' F' g' q=>k d v H' F' g' q (h.grow g')
 | ex n=>exact h
 | no=>exact h
theorem OutA.fstA {r:Rs (List D)}{g:List D→Rs (List D)}{Q P:List V→Hp→Prop}(h:OutA K cl E H0 F H (r.bind g) Q)(k:∀d v H1 F1,Gr F H F1 H1→Dts K cl F1 v d→OutA K cl E H0 F1 H1 (g d) Q→P v H1):OutA K cl E H0 F H r P:=by
 cases r with
 | ok d=>exact fun v H' F' g' q=>k d v H' F' g' q (h.grow g')
 | ex n=>exact h
 | no=>exact h
theorem OutE.fstB {r:Rs D}{g:D→Rs Bool}{Q:Bool→Hp→Prop}{P:VK}(h:OutB K cl E H0 F H (r.bind g) Q)(k:∀d v H1 F1,Gr F H F1 H1→Dt K cl F1 v d→OutB K cl E H0 F1 H1 (g d) Q→P v H1):OutE K cl E H0 F H r P:=by
 cases r with
 | ok d=>exact fun v H' F' g' q=>k d v H' F' g' q (h.grow g')
 | ex n=>exact h
 | no=>exact h
theorem OutB.fst {r:Rs Bool}{g:Bool→Rs D}{Q:VK}{P:Bool→Hp→Prop}(h:OutE K cl E H0 F H (r.bind g) Q)(k:∀b H1 F1,Gr F H F1 H1→OutE K cl E H0 F1 H1 (g b) Q→P b H1):OutB K cl E H0 F H r P:=by
 cases r with
 | ok d=>exact fun H' F' g'=>k d H' F' g' (h.grow g')
 | ex n=>exact h
 | no=>exact h
theorem OutB.fstB {r:Rs Bool}{g:Bool→Rs Bool}{Q P:Bool→Hp→Prop}(h:OutB K cl E H0 F H (r.bind g) Q)(k:∀b H1 F1,Gr F H F1 H1→OutB K cl E H0 F1 H1 (g b) Q→P b H1):OutB K cl E H0 F H r P:=by
 cases r with
 | ok d=>exact fun H' F' g'=>k d H' F' g' (h.grow g')
 | ex n=>exact h
 | no=>exact h
theorem OutE.okI {d:D}{v:V}{Q:VK}(h:OutE K cl E H0 F H (.ok d) Q)(s:Same F H)(q:Dt K cl F v d):Q v H:=h v H F (Gr.refl s) q
theorem tru_some {v:V}{d:D}{b:Bool}(q:Dt K cl F v d)(h:tru d=.ok b):v=.bl b:=by
 cases q <;>simp[tru] at h
 subst h;rfl
end
section
variable {X:Cx}{cl:Nat→Addr}{E:XK}{a b:Expr}{fa fb fc:Rho→Rs D}{pos:Pos}
theorem xe_c {e:Expr}{v:V}{d:D}(h:PE X e (tC v))(q:∀F,Dt X.K cl F v d):XE X cl E e (fC d):=XE'.out ⟨_,h,fun H0 F0 ρ σ H F Q R o=>o.okI R.fh (q F)⟩
theorem zF {i j pos}:XE X cl E (.Constant (.int i) j pos) (fC (.int i)):=xe_c pe_int fun _=>.int i
theorem xe_bl {b j pos}:XE X cl E (.Constant (.bool b) j pos) (fC (.bl b)):=xe_c pe_bl fun _=>.bl b
theorem xe_non {j pos}:XE X cl E (.Constant .none j pos) (fC .non):=xe_c pe_non fun _=>.non
theorem xe_str {x:Str}{j pos}{l:List Nat}(h:x=T l)(ok:TxtOk (T l)):XE X cl E (.Constant (.str x) j pos) (fC (.str l)):=by subst h;exact xe_c pe_str fun _=>.str l ok
theorem xe_nm (i:Nat){e:Expr}(h:PE X e (tVar i)):XE X cl E e (fNm i):=XE'.out ⟨_,h,fun H0 F0 ρ σ H F Q R o=>by
 unfold fNm at o
 split at o
 ·rename_i d e
  obtain⟨v,h1,h2⟩:=R.fz i d e
  exact⟨v,h1,o.okI R.fh h2⟩
 ·exact o.elim⟩
theorem zq:XA X cl E [] zB:=XA'.out ⟨_,pa_nil,fun H0 F0 ρ σ H F Q R o=>o [] H F (Gr.refl R.fh) .nil⟩
theorem zf {e:Expr}{es:List Expr}{fs:Rho→Rs (List D)}(ha:XE X cl E e fa)(hr:XA X cl E es fs)(hs:starEach (e::es) X.env=(false,eval e X.env)::starEach es X.env):XA X cl E (e::es) (zj fa fs):=by
 obtain⟨t,pt,rt⟩:=ha.ex
 obtain⟨u,pu,ru⟩:=hr.ex
 refine XA'.out ⟨_,pa_cons pt pu hs,fun H0 F0 ρ σ H F Q R o=>rt H0 F0 ρ σ H F _ R (OutE.fstA o fun d v H1 F1 g q o1=>?_)⟩
 refine ru H0 F0 ρ σ H1 F1 _ (R.grow g) (OutA.fstA o1 fun ds vs H2 F2 g2 q2 o2=>?_)
 exact o2 (v::vs) H2 F2 (Gr.refl (R.grow (g.trans g2)).fh) (.cons (q.mono g2.ff) q2)
def Op2 (K:PySem.W.Frag)(cl:Nat→Addr)(r:R2)(g:D→D→Option D):Prop :=
 ∀(F H:Hp) (x y:V) (a b d:D) (Q:VK),Same F H→Dt K cl F x a→Dt K cl F y b→g a b=some d→(∀v H' F',Gr F H F' H'→Dt K cl F' v d→Q v H')→r x y H Q
theorem OutE.lf {K:PySem.W.Frag}{cl:Nat→Addr}{E:XK}{H0 F H:Hp}{o:Option D}{Q:VK}(h:OutE K cl E H0 F H (lf o) Q):∃d,o=some d∧∀v H' F',Gr F H F' H'→Dt K cl F' v d→Q v H':=by
 cases o with
 | none=>exact h.elim
 | some d=>exact⟨d,rfl,h⟩
theorem yh {op:Operator}{r:R2}{g:D→D→Option D}(ho:OpR X (binaryOp op) r)(hg:Op2 X.K cl r g)(ha:XE X cl E a fa)(hb:XE X cl E b fb):XE X cl E (.BinOp a op b pos) (f2 g fa fb):=by
 obtain⟨t,pt,rt⟩:=ha.ex
 obtain⟨u,pu,ru⟩:=hb.ex
 refine XE'.out ⟨_,pe_op ho pt pu,fun H0 F0 ρ σ H F Q R o=>rt H0 F0 ρ σ H F _ R (OutE.fst o fun d v H1 F1 g1 q o1=>?_)⟩
 refine ru H0 F0 ρ σ H1 F1 _ (R.grow g1) (OutE.fst o1 fun e w H2 F2 g2 q2 o2=>?_)
 obtain⟨z,hz,k⟩:=o2.lf
 exact hg F2 H2 v w d e z _ (R.grow (g1.trans g2)).fh (q.mono g2.ff) q2 hz k
theorem xe_cmp {op:CmpOp}{r:R2}{g:D→D→Option D}(ho:OpR X (compareOp op) r)(hg:Op2 X.K cl r g)(ha:XE X cl E a fa)(hb:XE X cl E b fb)(hm:behindInMarks op b=false):XE X cl E (.Compare a [op] [b] pos) (f2 g fa fb):=by
 obtain⟨t,pt,rt⟩:=ha.ex
 obtain⟨u,pu,ru⟩:=hb.ex
 refine XE'.out ⟨_,pe_cmpR ho pt pu hm,fun H0 F0 ρ σ H F Q R o=>rt H0 F0 ρ σ H F _ R (OutE.fst o fun d v H1 F1 g1 q o1=>?_)⟩
 refine ru H0 F0 ρ σ H1 F1 _ (R.grow g1) (OutE.fst o1 fun e w H2 F2 g2 q2 o2=>?_)
 obtain⟨z,hz,k⟩:=o2.lf
 exact hg F2 H2 v w d e z _ (R.grow (g1.trans g2)).fh (q.mono g2.ff) q2 hz k
theorem xt_cmp {op:CmpOp}{r:R2}{g:D→D→Option D}(ho:OpR X (compareOp op) r)(hg:Op2 X.K cl r g)(ha:XE X cl E a fa)(hb:XE X cl E b fb)(hm:behindInMarks op b=false):XT X cl E (.Compare a [op] [b] pos) (bT (f2 g fa fb)):=by
 obtain⟨t,pt,rt⟩:=ha.ex
 obtain⟨u,pu,ru⟩:=hb.ex
 refine XT'.out ⟨_,pt_cmpR ho pt pu hm,fun H0 F0 ρ σ H F Q R o=>?_⟩
 have o':OutE X.K cl E H0 F H (f2 g fa fb ρ) fun v H1=>∃k,v=.bl k∧Q k H1:=OutE.fstB o fun d v H1 F1 g1 q o1=>by
  cases e:tru d with
  | ok b=>rw[e] at o1;exact⟨b,tru_some q e,o1 H1 F1 (Gr.refl (R.grow g1).fh)⟩
  | ex n=>cases d <;>simp[tru] at e
  | no=>rw[e] at o1;exact o1.elim
 refine rt H0 F0 ρ σ H F _ R (OutE.fst o' fun d v H1 F1 g1 q o1=>?_)
 refine ru H0 F0 ρ σ H1 F1 _ (R.grow g1) (OutE.fst o1 fun e w H2 F2 g2 q2 o2=>?_)
 obtain⟨z,hz,k⟩:=o2.lf
 exact hg F2 H2 v w d e z _ (R.grow (g1.trans g2)).fh (q.mono g2.ff) q2 hz k
theorem OutB.bT {ρ:Rho}{H0 F0 H F:Hp}{σ:St}{Q:Bool→Hp→Prop}(R:Rl X.K cl H0 F0 ρ σ H F)(o:OutB X.K cl E H0 F H (bT fa ρ) Q):OutE X.K cl E H0 F H (fa ρ) fun v H1=>∃k,v=.bl k∧Q k H1:=OutE.fstB o fun d v H1 F1 g1 q o1=>by
  cases e:tru d with
  | ok b=>rw[e] at o1;exact⟨b,tru_some q e,o1 H1 F1 (Gr.refl (R.grow g1).fh)⟩
  | ex n=>cases d <;>simp[tru] at e
  | no=>rw[e] at o1;exact o1.elim
theorem xt_val {e:Expr}(h:XE X cl E e fa)(he:∀whole,isTrue e X.env whole=(do let v ← whole;standAt e.pos;holding [v] (truthy v)):=by intro _;rfl):XT X cl E e (bT fa):=by
 obtain⟨t,pt,rt⟩:=h.ex
 exact XT'.out ⟨_,pt_val pt he,fun H0 F0 ρ σ H F Q R o=>rt H0 F0 ρ σ H F _ R (OutB.bT R o)⟩
theorem xt_not {ft:Rho→Rs Bool}(h:XT X cl E a ft):XT X cl E (.UnaryOp .Not a pos) (bNot ft):=by
 obtain⟨t,pt,rt⟩:=h.ex
 exact XT'.out ⟨_,pt_not pt,fun H0 F0 ρ σ H F Q R o=>rt H0 F0 ρ σ H F _ R (OutB.fstB o fun b H1 F1 g o1=>o1 H1 F1 (Gr.refl (R.grow g).fh))⟩
theorem xw_and1 {ft:Rho→Rs Bool}(h:XT X cl E a ft):XW X cl E (.BoolOp .And [a] pos) ft:=let ⟨t,pt,rt⟩:=h.ex;XW'.out ⟨t,pw_and1 pt,rt⟩
theorem xw_or1 {ft:Rho→Rs Bool}(h:XT X cl E a ft):XW X cl E (.BoolOp .Or [a] pos) ft:=let ⟨t,pt,rt⟩:=h.ex;XW'.out ⟨t,pw_or1 pt,rt⟩
theorem xw_and {rest:List Expr}{ft fu:Rho→Rs Bool}(h:XT X cl E a ft)(k:XW X cl E (.BoolOp .And (b::rest) pos) fu):XW X cl E (.BoolOp .And (a::b::rest) pos) (bAnd ft fu):=by
 obtain⟨t,pt,rt⟩:=h.ex
 obtain⟨u,pu,ru⟩:=k.ex
 refine XW'.out ⟨_,pw_and pt pu,fun H0 F0 ρ σ H F Q R o=>rt H0 F0 ρ σ H F _ R (OutB.fstB o fun b H1 F1 g o1=>?_)⟩
 cases b with
 | true=>exact ru H0 F0 ρ σ H1 F1 _ (R.grow g) o1
 | false=>exact o1 H1 F1 (Gr.refl (R.grow g).fh)
theorem xw_or {rest:List Expr}{ft fu:Rho→Rs Bool}(h:XT X cl E a ft)(k:XW X cl E (.BoolOp .Or (b::rest) pos) fu):XW X cl E (.BoolOp .Or (a::b::rest) pos) (bOr ft fu):=by
 obtain⟨t,pt,rt⟩:=h.ex
 obtain⟨u,pu,ru⟩:=k.ex
 refine XW'.out ⟨_,pw_or pt pu,fun H0 F0 ρ σ H F Q R o=>rt H0 F0 ρ σ H F _ R (OutB.fstB o fun b H1 F1 g o1=>?_)⟩
 cases b with
 | true=>exact o1 H1 F1 (Gr.refl (R.grow g).fh)
 | false=>exact ru H0 F0 ρ σ H1 F1 _ (R.grow g) o1
theorem XW.xt {e:Expr}{ft:Rho→Rs Bool}(h:XW X cl E e ft):XT X cl E e ft:=let ⟨t,pt,rt⟩:=h.ex;XT'.out ⟨t,pt.pt,rt⟩
def isN (neg:Bool):D→Option D
 | .non=>some (.bl (!neg))
 | _=>some (.bl neg)
theorem Dt.isnon {K:PySem.W.Frag}{F:Hp}{v:V}{d:D}(q:Dt K cl F v d):isN false d=some (.bl (decide (v=.non)))∧isN true d=some (.bl (!decide (v=.non))):=by cases q <;>exact⟨rfl,rfl⟩
theorem xe_isN {j pos'}(h:XE X cl E a fa):XE X cl E (.Compare a [.Is] [.Constant .none j pos'] pos) (f1 (isN false) fa):=by
 obtain⟨t,pt,rt⟩:=h.ex
 refine XE'.out ⟨_,pe_cmp (pc_isN pt),fun H0 F0 ρ σ H F Q R o=>rt H0 F0 ρ σ H F _ R (OutE.fst o fun d v H1 F1 g q o1=>?_)⟩
 rw[q.isnon.1] at o1
 exact o1.okI (R.grow g).fh (.bl _)
theorem xt_notN {j pos'}(h:XE X cl E a fa):XT X cl E (.Compare a [.IsNot] [.Constant .none j pos'] pos) (bT (f1 (isN true) fa)):=by
 obtain⟨t,pt,rt⟩:=h.ex
 refine XT'.out ⟨_,pt_cmp (pc_notN pt),fun H0 F0 ρ σ H F Q R o=>rt H0 F0 ρ σ H F _ R (OutE.fst (OutB.bT R o) fun d v H1 F1 g q o1=>?_)⟩
 rw[q.isnon.2] at o1
 exact o1.okI (R.grow g).fh (.bl _)
theorem xe_ifExp {c:Expr}{ft:Rho→Rs Bool}(hc:XT X cl E c ft)(ha:XE X cl E a fa)(hb:XE X cl E b fb):XE X cl E (.IfExp c a b pos) (fIf ft fa fb):=by
 obtain⟨t,pt,rt⟩:=hc.ex
 obtain⟨u,pu,ru⟩:=ha.ex
 obtain⟨w,pw,rw'⟩:=hb.ex
 refine XE'.out ⟨_,pe_ifExp pt pu pw,fun H0 F0 ρ σ H F Q R o=>rt H0 F0 ρ σ H F _ R (OutB.fst o fun b H1 F1 g o1=>?_)⟩
 cases b with
 | true=>exact ru H0 F0 ρ σ H1 F1 _ (R.grow g) o1
 | false=>exact rw' H0 F0 ρ σ H1 F1 _ (R.grow g) o1
theorem OutE.tru {H0 F H F1 H1:Hp}{d:D}{v:V}{g:Bool→Rs D}{Q:VK}(q:Dt X.K cl F v d)(o:OutE X.K cl E H0 F H ((tru d).bind g) Q):∃b,v=.bl b∧OutE X.K cl E H0 F H (g b) Q:=by
 cases e:L2.tru d with
 | ok b=>rw[e] at o;exact⟨b,tru_some q e,o⟩
 | ex n=>cases d <;>simp[L2.tru] at e
 | no=>rw[e] at o;exact o.elim
theorem xe_one {op}(h:XE X cl E a fa):XE X cl E (.BoolOp op [a] pos) fa:=let ⟨t,pt,rt⟩:=h.ex;XE'.out ⟨t,pe_one pt,rt⟩
theorem xe_and {rest:List Expr}(ha:XE X cl E a fa)(hb:XE X cl E (.BoolOp .And (b::rest) pos) fb):XE X cl E (.BoolOp .And (a::b::rest) pos) (fAnd fa fb):=by
 obtain⟨t,pt,rt⟩:=ha.ex
 obtain⟨u,pu,ru⟩:=hb.ex
 refine XE'.out ⟨_,pe_and pt pu,fun H0 F0 ρ σ H F Q R o=>rt H0 F0 ρ σ H F _ R (OutE.fst o fun d v H1 F1 g q o1=>?_)⟩
 obtain⟨b,rfl,o2⟩:=OutE.tru (F1:=F1) (H1:=H1) q o1
 refine⟨b,rfl,?_⟩
 cases b with
 | true=>exact ru H0 F0 ρ σ H1 F1 _ (R.grow g) o2
 | false=>exact o2.okI (R.grow g).fh (.bl _)
theorem xe_or {rest:List Expr}(ha:XE X cl E a fa)(hb:XE X cl E (.BoolOp .Or (b::rest) pos) fb):XE X cl E (.BoolOp .Or (a::b::rest) pos) (fOr fa fb):=by
 obtain⟨t,pt,rt⟩:=ha.ex
 obtain⟨u,pu,ru⟩:=hb.ex
 refine XE'.out ⟨_,pe_or pt pu,fun H0 F0 ρ σ H F Q R o=>rt H0 F0 ρ σ H F _ R (OutE.fst o fun d v H1 F1 g q o1=>?_)⟩
 obtain⟨b,rfl,o2⟩:=OutE.tru (F1:=F1) (H1:=H1) q o1
 refine⟨b,rfl,?_⟩
 cases b with
 | true=>exact o2.okI (R.grow g).fh (.bl _)
 | false=>exact ru H0 F0 ρ σ H1 F1 _ (R.grow g) o2
theorem xe_not (ha:XE X cl E a fa):XE X cl E (.UnaryOp .Not a pos) (fNot fa):=by
 obtain⟨t,pt,rt⟩:=ha.ex
 refine XE'.out ⟨_,pe_not pt,fun H0 F0 ρ σ H F Q R o=>rt H0 F0 ρ σ H F _ R (OutE.fst o fun d v H1 F1 g q o1=>?_)⟩
 obtain⟨b,rfl,o2⟩:=OutE.tru (F1:=F1) (H1:=H1) q o1
 exact⟨b,rfl,o2.okI (R.grow g).fh (.bl _)⟩
def mkT (ds:List D):Option D:=if ds.length≤1000000 then some (.tup ds) else none
def mkL (ds:List D):Option D:=if ds.length≤1000000 then some (.lst ds) else none
theorem sz6 {n:Nat}(h:n≤1000000):n≤sizeLine:=by rw[sizeLine_eq];omega
theorem xe_tup {es:List Expr}{x1}{fs:Rho→Rs (List D)}(h:XA X cl E es fs):XE X cl E (.Tuple es x1 pos) (fO mkT fs):=by
 obtain⟨t,pt,rt⟩:=h.ex
 refine XE'.out ⟨_,pe_tup pt,fun H0 F0 ρ σ H F Q R o=>rt H0 F0 ρ σ H F _ R (OutA.fst o fun ds vs H1 F1 g q o1=>?_)⟩
 unfold mkT at o1
 split at o1
 ·rename_i hl
  refine⟨sz6 (q.length▸hl),fun p hp=>?_⟩
  have fh:=(R.grow g).fh
  exact o1 _ _ _ (Gr.new fh hp) (.tup (.inl (.inl zR)) (q.mono (Same.upd (fh.free hp))))
 ·exact o1.elim
theorem xe_lst {es:List Expr}{fs:Rho→Rs (List D)}(h:XA X cl E es fs):XE X cl E (.List es pos) (fO mkL fs):=by
 obtain⟨t,pt,rt⟩:=h.ex
 refine XE'.out ⟨_,pe_lst pt,fun H0 F0 ρ σ H F Q R o=>rt H0 F0 ρ σ H F _ R (OutA.fst o fun ds vs H1 F1 g q o1=>?_)⟩
 unfold mkL at o1
 split at o1
 ·rename_i hl
  refine⟨sz6 (q.length▸hl),fun p hp=>?_⟩
  have fh:=(R.grow g).fh
  exact o1 _ _ _ (Gr.new fh hp) (.lst (.inl (.inl zR)) (q.mono (Same.upd (fh.free hp))))
 ·exact o1.elim
def spD (K:PySem.W.Frag)(cl:Nat→Addr)(fn:List D→Rs D)(n:Nat):Sp:=fun vs H Q E=>∃F ds,Same F H∧Dts K cl F vs ds∧vs.length=n∧OutE K cl E H F H (fn ds) Q
def ari (n:Nat)(fn:List D→Rs D):List D→Rs D:=fun ds=>if ds.length=n then fn ds else .no
theorem xe_call {k:Nat}{f:Addr}{fd:FuncData}{ps:List Str}{fn:List D→Rs D}{n:Nat}{x:Str}{p:Pos}{e:Expr}{es:List Expr}{fs:Rho→Rs (List D)}(G:FnOk X.prog X.w X.K X.mg X.base (CX1 X.prog X.w) k f fd ps (spD X.K cl fn n))(hr:Room k X.A)(hg:Gl X x)(hm:X.mg x=some (.ref f))(hk:PySem.W.keepIn X.K (.ref f)=true)(hb:Binds X.K fd ps [])(hx:Passes (CX1 X.prog X.w) X E)
  (ha:XA X cl E (e::es) fs) (he:starEach (e::es) X.env=(false,eval e X.env)::starEach es X.env) (hdb:(x == ("__debug__" : Str))=false:=by decide) (hpl:(backTo pos (starEach es X.env)).any (·.1)=false:=by rfl):XE X cl E (.Call (.Name x p) (e::es) [] pos) (fA (ari n fn) fs):=by
 obtain⟨t,pt,rt⟩:=ha.ex
 refine XE'.out ⟨_,pe_call G hr hg hm hk hb .nil hx pt hdb he hpl,fun H0 F0 ρ σ H F Q R o=>rt H0 F0 ρ σ H F _ R (OutA.fst o fun ds vs H1 F1 g q o1=>?_)⟩
 unfold ari at o1
 split at o1
 ·rename_i hl
  rw[List.append_nil]
  have R1:=R.grow g
  refine⟨F1,ds,R1.fh,q,by rw[q.length,hl],?_⟩
  cases e:fn ds with
  | ok d=>rw[e] at o1;exact o1
  | ex n=>rw[e] at o1;exact fun H' s=>o1 H' (R1.gr.hh.trans s)
  | no=>rw[e] at o1;exact o1
 ·exact o1.elim
end
end L2
namespace L2
open PySem PySem.Spec PyProof.Rows
def D.fl:D→Bool
 | .non=>true
 | .bl _=>true
 | .int _=>true
 | .str _=>true
 | _=>false
def D.toV:D→V
 | .bl b=>.bl b
 | .int i=>.int i
 | .str l=>.str (T l)
 | _=>.non
def addI:D→D→Option D
 | .int i,.int j=>some (.int (i+j))
 | _,_=>none
def subI:D→D→Option D
 | .int i,.int j=>some (.int (i - j))
 | _,_=>none
instance (i:Int):Decidable (Sm i):=inferInstanceAs (Decidable (i.natAbs<2 ^ 4000))
def mulI:D→D→Option D
 | .int i,.int j=>if Sm i∧Sm j then some (.int (i*j)) else none
 | _,_=>none
def modI:D→D→Option D
 | .int i,.int j=>if 0<j then some (.int (i % j)) else none
 | _,_=>none
def fdivI:D→D→Option D
 | .int i,.int j=>if 0<j∧Sm j then some (.int (i / j)) else none
 | _,_=>none
def addS:D→D→Option D
 | .str l,.str m=>if l.length+m.length≤1000000 then some (.str (l++m)) else none
 | _,_=>none
def addT:D→D→Option D
 | .tup l,.tup m=>if l.length+m.length≤1000000 then some (.tup (l++m)) else none
 | _,_=>none
def ltI:D→D→Option D
 | .int i,.int j=>some (.bl (decide (i<j)))
 | _,_=>none
def leI:D→D→Option D
 | .int i,.int j=>some (.bl (decide (i≤j)))
 | _,_=>none
def gtI:D→D→Option D
 | .int i,.int j=>some (.bl (decide (j<i)))
 | _,_=>none
def geI:D→D→Option D
 | .int i,.int j=>some (.bl (decide (j≤i)))
 | _,_=>none
def ltS:D→D→Option D
 | .str l,.str m=>some (.bl (decide (l<m)))
 | _,_=>none
def eqD (neg:Bool)(a b:D):Option D:=if a.pl=true∧b.pl=true∧a.py.depth≤60 then some (.bl (if neg then !PyData.eqv a.py b.py else PyData.eqv a.py b.py)) else none
def inQ (neg:Bool)(x:D)(ds:List D):Option D:=if x.fl=true∧ds.all D.fl=true then some (.bl (if neg then !inV x.toV (ds.map D.toV) else inV x.toV (ds.map D.toV))) else none
def inD (neg:Bool)(x:D):D→Option D
 | .lst ds=>inQ neg x ds
 | .tup ds=>inQ neg x ds
 | _=>none
def inC (neg:Bool):D→D→Option D
 | .str [c],.str l=>some (.bl (if neg then !decide (c∈l) else decide (c∈l)))
 | _,_=>none
def ixD:D→D→Option D
 | .lst ds,.int i=>atI ds i
 | .tup ds,.int i=>atI ds i
 | .str l,.int i=>(atI l i).map fun c=>.str [c]
 | _,_=>none
def cutL {α:Type}(xs:List α)(lo hi:Option Int):List α:=(xs.drop (HT.sIx xs.length 0 lo)).take (HT.sIx xs.length xs.length hi - HT.sIx xs.length 0 lo)
def slD:D→Option Int→Option Int→Option D
 | .lst ds,lo,hi=>some (.lst (cutL ds lo hi))
 | .tup ds,lo,hi=>some (.tup (cutL ds lo hi))
 | .str l,lo,hi=>some (.str (cutL l lo hi))
 | _,_,_=>none
section
variable {K:PySem.W.Frag}{cl:Nat→Addr}{F H:Hp}
theorem Dt.flat {v:V}{d:D}(q:Dt K cl F v d)(h:d.fl=true):v=d.toV∧flatV v=true:=by
 cases q <;>first|exact⟨rfl,rfl⟩|(simp[D.fl] at h)
theorem Dts.flat:∀{vs:List V}{ds:List D},Dts K cl F vs ds→ds.all D.fl=true→vs=ds.map D.toV∧vs.all flatV=true
 | _,_,.nil,_=>⟨rfl,rfl⟩
 | _,_,.cons q r,h=>by
  rw[List.all_cons,Bool.and_eq_true] at h
  obtain⟨e1,e2⟩:=q.flat h.1
  obtain⟨e3,e4⟩:=Dts.flat r h.2
  exact⟨by rw[List.map_cons,← e1,← e3],by rw[List.all_cons,e2,e4];rfl⟩
def I2 (f:Int→Int→Option D):D→D→Option D
 | .int i,.int j=>f i j
 | _,_=>none
theorem I2_inv {f:Int→Int→Option D}{a b d:D}(e:I2 f a b=some d):∃i j,a=.int i∧b=.int j∧f i j=some d:=by
 cases a with
 | int i =>
  cases b with
  | int j=>exact⟨i,j,rfl,rfl,e⟩
  | _=>cases e
 | _=>cases e
def S2 (f:List Nat→List Nat→Option D):D→D→Option D
 | .str i,.str j=>f i j
 | _,_=>none
theorem S2_inv {f:List Nat→List Nat→Option D}{a b d:D}(e:S2 f a b=some d):∃i j,a=.str i∧b=.str j∧f i j=some d:=by
 cases a with
 | str i =>
  cases b with
  | str j=>exact⟨i,j,rfl,rfl,e⟩
  | _=>cases e
 | _=>cases e
theorem Dt.intE {v:V}{i:Int}(q:Dt K cl F v (.int i)):v=.int i:=by cases q;rfl
theorem Dt.strE {v:V}{l:List Nat}(q:Dt K cl F v (.str l)):v=.str (T l)∧TxtOk (T l):=by cases q with|str _ ok=>exact⟨rfl,ok⟩
theorem o_I0 {f:Int→Int→D}{r:Int→Int→V}(hf:∀{F:Hp} i j,Dt K cl F (r i j) (f i j)):Op2 K cl (rI0 r) (I2 fun i j=>some (f i j)):=fun F H x y a b d Q s qa qb e k=>by
 obtain⟨i,j,rfl,rfl,e1⟩:=I2_inv e
 obtain rfl:=qa.intE
 obtain rfl:=qb.intE
 obtain rfl:=Option.some.inj e1
 exact⟨_,_,rfl,rfl,k _ _ _ (Gr.refl s) (hf i j)⟩
theorem o_I1 {c:Int→Int→Prop} [∀i j,Decidable (c i j)]{f:Int→Int→Int}:Op2 K cl (rI c fun i j=>.int (f i j)) (I2 fun i j=>if c i j then some (.int (f i j)) else none):=fun F H x y a b d Q s qa qb e k=>by
 obtain⟨i,j,rfl,rfl,e1⟩:=I2_inv e
 obtain rfl:=qa.intE
 obtain rfl:=qb.intE
 by_cases h:c i j
 ·rw[if_pos h] at e1
  obtain rfl:=Option.some.inj e1
  exact⟨_,_,rfl,rfl,h,k _ _ _ (Gr.refl s) (.int _)⟩
 ·rw[if_neg h] at e1;cases e1
theorem o_addI:Op2 K cl (rI0 fun i j=>.int (i+j)) addI:=o_I0 fun _ _=>.int _
theorem o_subI:Op2 K cl (rI0 fun i j=>.int (i - j)) subI:=o_I0 fun _ _=>.int _
theorem o_mulI:Op2 K cl (rI (fun i j=>Sm i∧Sm j) fun i j=>.int (i*j)) mulI:=o_I1
theorem o_modI:Op2 K cl (rI (fun _ j=>0<j) fun i j=>.int (i % j)) modI:=o_I1
theorem o_fdivI:Op2 K cl (rI (fun _ j=>0<j∧Sm j) fun i j=>.int (i / j)) fdivI:=o_I1
theorem o_addS:Op2 K cl (fun x y H Q=>∃l m,x=.str (T l)∧y=.str (T m)∧l.length+m.length≤1000000∧Q (.str (T (l++m))) H) addS:=fun F H x y a b d Q s qa qb e k=>by
 obtain⟨l,m,rfl,rfl,e1⟩:=S2_inv (f:=fun l m=>if l.length+m.length≤1000000 then some (.str (l++m)) else none) e
 obtain⟨rfl,ok⟩:=qa.strE
 obtain⟨rfl,ok2⟩:=qb.strE
 split at e1
 ·rename_i h
  obtain rfl:=Option.some.inj e1
  refine⟨_,_,rfl,rfl,h,k _ _ _ (Gr.refl s) (.str _ ?_)⟩
  rw[← T_app]
  exact TxtOk.app ok ok2 (by rw[T_len,T_len];exact h)
 ·cases e1
theorem addT_inv {a b d:D}(e:addT a b=some d):∃l m,a=.tup l∧b=.tup m∧l.length+m.length≤1000000∧d=.tup (l++m):=by
 cases a with
 | tup l =>
  cases b with
  | tup m =>
   by_cases h:l.length+m.length≤1000000
   ·exact⟨l,m,rfl,rfl,h,(Option.some.inj ((if_pos h).symm.trans e)).symm⟩
   ·cases (if_neg h).symm.trans e
  | _=>cases e
 | _=>cases e
theorem o_addT:Op2 K cl (rCatU K) addT:=fun F H x y a b d Q s qa qb e k=>by
 obtain⟨l,m,rfl,rfl,h,rfl⟩:=addT_inv e
 cases qa with
 | tup qx dx =>
  cases qb with
  | tup qy dy =>
   refine⟨_,_,_,_,rfl,rfl,s.seqT qx,s.seqT qy,sz6 (by rw[dx.length,dy.length];exact h),fun p H' hs q=>?_⟩
   obtain⟨F',g,q'⟩:=Gr.tup s hs q (dx.append dy)
   exact k _ _ _ g q'
theorem o_ltI:Op2 K cl (rI0 fun i j=>.bl (decide (i<j))) ltI:=o_I0 fun _ _=>.bl _
theorem o_leI:Op2 K cl (rI0 fun i j=>.bl (decide (i≤j))) leI:=o_I0 fun _ _=>.bl _
theorem o_gtI:Op2 K cl (rI0 fun i j=>.bl (decide (j<i))) gtI:=o_I0 fun _ _=>.bl _
theorem o_ltS:Op2 K cl (fun x y H Q=>∃i j,x=.str i∧y=.str j∧Q (.bl (decide (i.cps.toList<j.cps.toList))) H) ltS:=fun F H x y a b d Q s qa qb e k=>by
 obtain⟨l,m,rfl,rfl,e1⟩:=S2_inv (f:=fun l m=>some (.bl (decide (l<m)))) e
 obtain⟨rfl,ok⟩:=qa.strE
 obtain⟨rfl,ok2⟩:=qb.strE
 obtain rfl:=Option.some.inj e1
 refine⟨_,_,rfl,rfl,?_⟩
 rw[T_cps,T_cps]
 exact k _ _ _ (Gr.refl s) (.bl _)
theorem o_eq:Op2 K cl (rEqD K) (eqD false):=fun F H x y a b d Q s qa qb e k=>by
 unfold eqD at e
 split at e
 ·rename_i h
  obtain rfl:=Option.some.inj e
  exact⟨_,_,(qa.is h.1).mono s,(qb.is h.2.1).mono s,h.2.2,k _ _ _ (Gr.refl s) (.bl _)⟩
 ·cases e
theorem o_ne:Op2 K cl (rNeD K) (eqD true):=fun F H x y a b d Q s qa qb e k=>by
 unfold eqD at e
 split at e
 ·rename_i h
  obtain rfl:=Option.some.inj e
  exact⟨_,_,(qa.is h.1).mono s,(qb.is h.2.1).mono s,h.2.2,k _ _ _ (Gr.refl s) (.bl _)⟩
 ·cases e
theorem inQ_run {neg:Bool}{x:V}{a d:D}{p:Addr}{vs:List V}{ds:List D}{Q:VK}(s:Same F H)(qa:Dt K cl F x a)(sq:SqL K H p vs∨SqT K H p vs)(dq:Dts K cl F vs ds)(e:inQ neg a ds=some d)(k:∀v H' F',Gr F H F' H'→Dt K cl F' v d→Q v H'):rIn K neg x (.ref p) H Q:=by
 unfold inQ at e
 split at e
 ·rename_i h
  obtain rfl:=Option.some.inj e
  obtain⟨e1,e2⟩:=qa.flat h.1
  obtain⟨e3,e4⟩:=dq.flat h.2
  refine⟨p,vs,rfl,sq,e2,e4,?_⟩
  rw[e1,e3]
  exact k _ _ _ (Gr.refl s) (.bl _)
 ·cases e
theorem o_in {neg:Bool}:Op2 K cl (rIn K neg) (inD neg):=fun F H x y a b d Q s qa qb e k=>by
 cases qb with
 | lst sq dq=>exact inQ_run s qa (.inl (s.seq sq)) dq e k
 | tup sq dq=>exact inQ_run s qa (.inr (s.seqT sq)) dq e k
 | _=>cases e
theorem inC_inv {neg:Bool}{a b d:D}(e:inC neg a b=some d):∃c l,a=.str [c]∧b=.str l∧d=.bl (if neg then !decide (c∈l) else decide (c∈l)):=by
 cases a with
 | str l =>
  match l,e with
  | [c],e =>
   cases b with
   | str m=>exact⟨c,m,rfl,rfl,(Option.some.inj e).symm⟩
   | _=>cases e
 | _=>cases e
theorem o_inC:Op2 K cl rInC (inC false):=fun F H x y a b d Q s qa qb e k=>by
 obtain⟨c,l,rfl,rfl,rfl⟩:=inC_inv e
 obtain⟨rfl,_⟩:=qa.strE
 obtain⟨rfl,_⟩:=qb.strE
 exact⟨c,l,rfl,rfl,k _ _ _ (Gr.refl s) (.bl _)⟩
theorem Dts.at {vs:List V}{ds:List D}{i:Int}{d:D}(q:Dts K cl F vs ds)(e:atI ds i=some d):∃v,atI vs i=some v∧Dt K cl F v d:=by
 unfold atI at e ⊢
 rw[q.length]
 cases h:ixN ds.length i with
 | none=>rw[h] at e;cases e
 | some j =>
  rw[h] at e
  exact q.get' e
theorem txt_sub {l m:List Nat}(ok:TxtOk (T l))(h:∀c∈m,c∈l)(hl:m.length≤1000000):TxtOk (T m):=by
 refine T_ok (fun c hc=>?_) hl
 have a:(T l).cps.all (· < 0x110000)=true:=ok.1
 simp only[T,List.all_toArray,List.all_eq_true,decide_eq_true_eq] at a
 exact a c (h c hc)
theorem txt1 {l:List Nat}{c:Nat}(ok:TxtOk (T l))(h:c∈l):TxtOk (T [c]):=txt_sub ok (fun d hd=>by rw[List.mem_singleton.mp hd];exact h) (Nat.le_add_left 1 999999)
theorem ixD_int {a b d:D}(e:ixD a b=some d):∃i,b=.int i:=by
 cases b with
 | int i=>exact⟨i,rfl⟩
 | _=>cases a <;>cases e
theorem o_ix:Op2 K cl (rIx K) ixD:=fun F H x y a b d Q s qa qb e k=>by
 obtain⟨i,rfl⟩:=ixD_int e
 obtain rfl:=qb.intE
 ·cases qa with
  | lst sq dq =>
   obtain⟨v,h1,h2⟩:=dq.at e
   exact .inl ⟨_,_,_,_,rfl,rfl,s.seq sq,h1,k _ _ _ (Gr.refl s) h2⟩
  | tup sq dq =>
   obtain⟨v,h1,h2⟩:=dq.at e
   exact .inr (.inl ⟨_,_,_,_,rfl,rfl,s.seqT sq,h1,k _ _ _ (Gr.refl s) h2⟩)
  | str l ok =>
   have e':(atI l i).map (fun c=>D.str [c])=some d:=e
   cases h:atI l i with
   | none=>rw[h] at e';cases e'
   | some c =>
    rw[h] at e'
    obtain rfl:=Option.some.inj e'
    refine .inr (.inr ⟨T l,i,c,rfl,rfl,sz6 ok.2,by rw[T_cps];exact h,k _ _ _ (Gr.refl s) (.str [c] (txt1 ok ?_))⟩)
    unfold atI at h
    cases h2:ixN l.length i with
    | none=>rw[h2] at h;cases h
    | some j=>rw[h2] at h;exact List.mem_of_getElem? h
  | _=>cases e
end
end L2
namespace L2
open PySem PySem.Spec PyProof.Rows
def tDS (K:PySem.W.Frag)(cl:Nat→Addr)(E:XK)(g:Rho→Out):TS:=fun Dn σ H=>∃H0 F0 ρ F,Rl K cl H0 F0 ρ σ H F∧OutS K cl E H0 F0 F (g ρ) Dn
def XS (X:Cx)(cl:Nat→Addr)(E:XK)(st:Stmt)(g:Rho→Out):Prop:=PS X st (tDS X.K cl E g)
def XSs (X:Cx)(cl:Nat→Addr)(E:XK)(st:List Stmt)(g:Rho→Out):Prop:=PSs X st (tDS X.K cl E g)
def sNx:Rho→Out:=fun ρ=>.nx ρ
def zO (g h:Rho→Out):Rho→Out:=fun ρ=>match g ρ with | .nx ρ'=>h ρ'|o=>o
def sRet (f:Rho→Rs D):Rho→Out:=fun ρ=>match f ρ with | .ok d=>.rt d | .ex n=>.ex n | .no=>.no
def sDrop (f:Rho→Rs D):Rho→Out:=fun ρ=>match f ρ with | .ok _=>.nx ρ | .ex n=>.ex n | .no=>.no
def sSet (i:Nat)(f:Rho→Rs D):Rho→Out:=fun ρ=>match f ρ with | .ok d=>.nx (ρ.set i (.fz d)) | .ex n=>.ex n | .no=>.no
def sIf (ft:Rho→Rs Bool)(g h:Rho→Out):Rho→Out:=fun ρ=>match ft ρ with | .ok true=>g ρ | .ok false=>h ρ | .ex n=>.ex n | .no=>.no
def sSet2 (i j:Nat)(f:Rho→Rs D):Rho→Out:=fun ρ=>match f ρ with | .ok (.tup [a,b])=>.nx ((ρ.set i (.fz a)).set j (.fz b)) | .ok _=>.no | .ex n=>.ex n | .no=>.no
def sIce (i:Nat)(g:Rho→Out):Rho→Out:=fun ρ=>match ρ[i]? with|some (.ow ds)=>g (ρ.set i (.fz (.lst ds)))|_=>.no
def cutX (g:Rho→Out):Rho→Out:=fun ρ=>match g ρ with | .ex _=>.no|o=>o
def forD (i:Nat)(g:Rho→Out):List D→Rho→Out
 | [],ρ=>.nx ρ
 | d::ds,ρ=>match g (ρ.set i (.fz d)) with | .nx ρ'=>forD i g ds ρ' | .ct ρ'=>forD i g ds ρ' | .bk ρ'=>.nx ρ'|o=>o
def sFor (i:Nat)(fi:Rho→Rs (List D))(g:Rho→Out):Rho→Out:=fun ρ=>match fi ρ with | .ok ds=>forD i g ds ρ | .ex n=>.ex n | .no=>.no
def whD (ft:Rho→Rs Bool)(g:Rho→Out):Nat→Rho→Out
 | 0,_=>.no
 | n+1,ρ=>match ft ρ with
  | .ok true=>(match g ρ with | .nx ρ'=>whD ft g n ρ' | .ct ρ'=>whD ft g n ρ' | .bk ρ'=>.nx ρ'|o=>o)
  | .ok false=>.nx ρ
  | .ex n=>.ex n
  | .no=>.no
def sWh (n:Nat)(ft:Rho→Rs Bool)(g:Rho→Out):Rho→Out:=whD ft g n
def owL (ρ:Rho)(i:Nat):Option (List D):=match ρ[i]? with|some (.ow ds)=>some ds|_=>none
theorem owL_some {ρ:Rho}{i:Nat}{ds:List D}(h:owL ρ i=some ds):ρ[i]? = some (.ow ds):=by
 unfold owL at h
 split at h
 ·rename_i e;rw[e,Option.some.inj h]
 ·cases h
def sApp (i:Nat)(f:Rho→Rs D):Rho→Out:=fun ρ=>match owL ρ i with
 | some ds=>(match f ρ with | .ok d=>if ds.length<1000000 then .nx (ρ.set i (.ow (ds++[d]))) else .no | .ex n=>.ex n | .no=>.no)
 | none=>.no
section
variable {K:PySem.W.Frag}{cl:Nat→Addr}{E:XK}{H0 F0 F F1:Hp}
theorem OutS.grow {o:Out}{Dn:Ends}(h:OutS K cl E H0 F0 F o Dn)(s:Same F F1):OutS K cl E H0 F0 F1 o Dn:=by
 cases o with
 | nx ρ=>exact fun σ H F' R q=>h σ H F' R (s.trans q)
 | bk ρ=>exact fun σ H F' R q=>h σ H F' R (s.trans q)
 | ct ρ=>exact fun σ H F' R q=>h σ H F' R (s.trans q)
 | rt d=>exact h
 | ex n=>exact h
 | no=>exact h
end
section
variable {X:Cx}{cl:Nat→Addr}{E:XK}{st:Stmt}{rest:List Stmt}{g h:Rho→Out}{f:Rho→Rs D}{e:Expr}{pos:Pos}
def XS' (X:Cx)(cl:Nat→Addr)(E:XK)(st:Stmt)(g:Rho→Out):Prop:=∃t:TS,PS X st t∧∀(H0 F0:Hp) (ρ:Rho) (σ:St) (H F:Hp) (Dn:Ends),Rl X.K cl H0 F0 ρ σ H F→OutS X.K cl E H0 F0 F (g ρ) Dn→t Dn σ H
def XSs' (X:Cx)(cl:Nat→Addr)(E:XK)(st:List Stmt)(g:Rho→Out):Prop:=∃t:TS,PSs X st t∧∀(H0 F0:Hp) (ρ:Rho) (σ:St) (H F:Hp) (Dn:Ends),Rl X.K cl H0 F0 ρ σ H F→OutS X.K cl E H0 F0 F (g ρ) Dn→t Dn σ H
theorem XS.ex (h:XS X cl E st g):XS' X cl E st g:=⟨_,h,fun H0 F0 ρ σ H F Dn R o=>⟨H0,F0,ρ,F,R,o⟩⟩
theorem XSs.ex (h:XSs X cl E rest g):XSs' X cl E rest g:=⟨_,h,fun H0 F0 ρ σ H F Dn R o=>⟨H0,F0,ρ,F,R,o⟩⟩
theorem XS'.out (h:XS' X cl E st g):XS X cl E st g:=let ⟨_,pt,rt⟩:=h;fun pins s σ H Dn I ⟨H0,F0,ρ,F,R,o⟩=>pt pins s σ H Dn I (rt H0 F0 ρ σ H F Dn R o)
theorem XSs'.out (h:XSs' X cl E rest g):XSs X cl E rest g:=let ⟨_,pt,rt⟩:=h;fun pins s σ H Dn I ⟨H0,F0,ρ,F,R,o⟩=>pt pins s σ H Dn I (rt H0 F0 ρ σ H F Dn R o)
theorem yo:XSs X cl E [] sNx:=XSs'.out ⟨_,pss_nil,fun H0 F0 ρ σ H F Dn R o=>o σ H F R (Same.refl _)⟩
theorem zy (h:XS X cl E st g):XSs X cl E [st] g:=let ⟨t,pt,rt⟩:=h.ex;XSs'.out ⟨t,pss_one pt,rt⟩
theorem zu (h1:XS X cl E st g)(h2:XSs X cl E rest h):XSs X cl E (st::rest) (zO g h):=by
 obtain⟨t,pt,rt⟩:=h1.ex
 obtain⟨u,pu,ru⟩:=h2.ex
 refine XSs'.out ⟨_,pss_cons pt pu,fun H0 F0 ρ σ H F Dn R o=>rt H0 F0 ρ σ H F _ R ?_⟩
 unfold zO at o
 cases e:g ρ with
 | nx ρ'=>rw[e] at o;exact fun σ' H' F' R' s=>ru H0 F0 ρ' σ' H' F' Dn R' (o.grow s)
 | bk ρ'=>rw[e] at o;exact o
 | ct ρ'=>rw[e] at o;exact o
 | rt d=>rw[e] at o;exact o
 | ex n=>rw[e] at o;exact o
 | no=>rw[e] at o;exact o
theorem zG (h:XE X cl E e f):XS X cl E (.Return (some e) pos) (sRet f):=by
 obtain⟨t,pt,rt⟩:=h.ex
 refine XS'.out ⟨_,ps_ret pt,fun H0 F0 ρ σ H F Dn R o=>rt H0 F0 ρ σ H F _ R ?_⟩
 unfold sRet at o
 cases e:f ρ with
 | ok d=>rw[e] at o;exact fun v H' F' gg q=>o v H' F' (R.gr.trans gg) q
 | ex n=>rw[e] at o;exact o
 | no=>rw[e] at o;exact o
theorem xs_expr (h:XE X cl E e f)(hs:swapsWith e none pos.line X.env=pure false:=by rfl):XS X cl E (.Expr e pos) (sDrop f):=by
 obtain⟨t,pt,rt⟩:=h.ex
 refine XS'.out ⟨_,ps_expr pt hs,fun H0 F0 ρ σ H F Dn R o=>rt H0 F0 ρ σ H F _ R ?_⟩
 unfold sDrop at o
 cases e:f ρ with
 | ok d=>rw[e] at o;exact fun v H' F' gg q=>o σ H' F' (R.grow gg) gg.ff
 | ex n=>rw[e] at o;exact o
 | no=>rw[e] at o;exact o
theorem zZ {i:Nat}{x:Str}{pos':Pos}(hN:X.N.Nodup)(hi:X.N[i]? = some x)(hx:Loc X.env.scope x)(he:XE X cl E e f)(hs:swapsWith e (some (.Name x pos')) pos.line X.env=pure false:=by rfl)(hf:X.fn x=true∨X.env.scope.names.lookup x=some .local:=by first|exact .inl rfl|exact .inr rfl|assumption) :
  XS X cl E (.Assign [.Name x pos'] e pos) (sSet i f):=by
 obtain⟨t,pt,rt⟩:=he.ex
 refine XS'.out ⟨_,ps_set hN hi hx pt hs hf,fun H0 F0 ρ σ H F Dn R o=>rt H0 F0 ρ σ H F _ R ?_⟩
 unfold sSet at o
 cases e:f ρ with
 | ok d=>rw[e] at o;exact fun v H' F' gg q=>o _ H' F' ((R.grow gg).set q) gg.ff
 | ex n=>rw[e] at o;exact o
 | no=>rw[e] at o;exact o
theorem xs_if {c:Expr}{a b:List Stmt}{ft:Rho→Rs Bool}(hc:XT X cl E c ft)(ha:XSs X cl E a g)(hb:XSs X cl E b h):XS X cl E (.If c a b pos) (sIf ft g h):=by
 obtain⟨t,pt,rt⟩:=hc.ex
 obtain⟨u,pu,ru⟩:=ha.ex
 obtain⟨w,pw,rw'⟩:=hb.ex
 refine XS'.out ⟨_,ps_if pt pu pw,fun H0 F0 ρ σ H F Dn R o=>rt H0 F0 ρ σ H F _ R ?_⟩
 unfold sIf at o
 cases e:ft ρ with
 | ok b =>
  rw[e] at o
  intro H' F' gg
  cases b with
  | true=>exact ru H0 F0 ρ σ H' F' Dn (R.grow gg) (o.grow gg.ff)
  | false=>exact rw' H0 F0 ρ σ H' F' Dn (R.grow gg) (o.grow gg.ff)
 | ex n=>rw[e] at o;exact o
 | no=>rw[e] at o;exact o
theorem xs_nox (h:XS X.nox cl E0 st g):XS X cl E st (cutX g):=by
 obtain⟨t,pt,rt⟩:=h.ex
 refine XS'.out ⟨_,pt.nox,fun H0 F0 ρ σ H F Dn R o=>rt H0 F0 ρ σ H F _ R ?_⟩
 unfold cutX at o
 cases e:g ρ with
 | nx ρ'=>rw[e] at o;exact o
 | bk ρ'=>rw[e] at o;exact o
 | ct ρ'=>rw[e] at o;exact o
 | rt d=>rw[e] at o;exact o
 | ex n=>rw[e] at o;exact o.elim
 | no=>rw[e] at o;exact o
theorem xs_ice {i:Nat}(h:XS X cl E st g):XS X cl E st (sIce i g):=by
 obtain⟨t,pt,rt⟩:=h.ex
 refine XS'.out ⟨_,pt,fun H0 F0 ρ σ H F Dn R o=>?_⟩
 unfold sIce at o
 split at o
 ·rename_i ds e
  obtain⟨F',s,R'⟩:=R.ice e
  exact rt H0 F0 _ σ H F' Dn R' (o.grow s)
 ·exact o.elim
theorem xs_while {c:Expr}{body:List Stmt}{ft:Rho→Rs Bool}(n:Nat)(hp:PassesOwn (model X.prog X.w) X.A X.env X.xe)(hc:XT X cl E c ft)(hb:XSs X cl E body g):XS X cl E (.While c body [] pos) (sWh n ft g):=by
 obtain⟨t,pt,rt⟩:=hc.ex
 obtain⟨u,pu,ru⟩:=hb.ex
 refine XS'.out ⟨_,ps_while hp pt pu,fun H0 F0 ρ σ H F Dn R o=>?_⟩
 refine⟨fun m σ H=>∃ρ F',Rl X.K cl H0 F0 ρ σ H F'∧OutS X.K cl E H0 F0 F' (whD ft g m ρ) Dn,⟨n,ρ,F,R,o⟩,?_⟩
 rintro m σ1 H1 ⟨ρ1,F1,R1,o1⟩
 cases m with
 | zero=>exact o1.elim
 | succ m =>
  refine rt H0 F0 ρ1 σ1 H1 F1 _ R1 ?_
  unfold whD at o1
  cases e:ft ρ1 with
  | ok b =>
   rw[e] at o1
   intro H2 F2 gg
   have R2:=R1.grow gg
   cases b with
   | false=>exact o1 σ1 H2 F2 R2 gg.ff
   | true =>
    refine⟨fun σ H=>∃ρ F',Rl X.K cl H0 F0 ρ σ H F'∧OutS X.K cl E H0 F0 F' (whD ft g m ρ) Dn,fun σ' H' p=>⟨m,Nat.lt_succ_self _,p⟩,ru H0 F0 ρ1 σ1 H2 F2 _ R2 ?_⟩
    have o2:=o1.grow gg.ff
    cases e2:g ρ1 with
    | nx ρ'=>simp only[e2] at o2;exact fun σ' H' F' R' s=>⟨ρ',F',R',o2.grow s⟩
    | ct ρ'=>simp only[e2] at o2;exact fun σ' H' F' R' s=>⟨ρ',F',R',o2.grow s⟩
    | bk ρ'=>simp only[e2] at o2;exact o2
    | rt d=>simp only[e2] at o2;exact o2
    | ex n=>simp only[e2] at o2;exact o2
    | no=>simp only[e2] at o2;exact o2
  | ex n=>rw[e] at o1;exact o1
  | no=>rw[e] at o1;exact o1
def OutI (K:PySem.W.Frag)(cl:Nat→Addr)(E:XK)(H0 F H:Hp)(r:Rs (List D))(Q:It→Hp→Prop):Prop :=
 match r with
 | .ok ds=>∀J G vs H' F',Gr F H F' H'→Wlk J G vs→(∀H'',Same F' H''→G H'')→Dts K cl F' vs ds→Q J H'
 | .ex n=>∀H',Same H0 H'→E (.ref (cl n)) none H'
 | .no=>False
def tDI (K:PySem.W.Frag)(cl:Nat→Addr)(E:XK)(f:Rho→Rs (List D)):TI:=fun σ H Q=>∃H0 F0 ρ F,Rl K cl H0 F0 ρ σ H F∧OutI K cl E H0 F H (f ρ) Q
def XI (X:Cx)(cl:Nat→Addr)(E:XK)(tg e:Expr)(f:Rho→Rs (List D)):Prop:=PI X tg e (tDI X.K cl E f)
theorem XI.mk {tg:Expr}{fi:Rho→Rs (List D)}{t:TI}(pt:PI X tg e t)(rt:∀(H0 F0:Hp) (ρ:Rho) (σ:St) (H F:Hp) (Q:It→Hp→Prop),Rl X.K cl H0 F0 ρ σ H F→OutI X.K cl E H0 F H (fi ρ) Q→t σ H Q):XI X cl E tg e fi :=
 fun pins s σ H Q I ⟨H0,F0,ρ,F,R,o⟩=>pt pins s σ H Q I (rt H0 F0 ρ σ H F Q R o)
def lsD:D→Option (List D)
 | .lst ds=>some ds
 | _=>none
def tpD:D→Option (List D)
 | .tup ds=>some ds
 | _=>none
def sgD:D→Option (List D)
 | .str l=>some (l.map fun c=>.str [c])
 | _=>none
def fI (g:D→Option (List D))(f:Rho→Rs D):Rho→Rs (List D):=fun ρ=>(f ρ).bind fun d=>match g d with|some ds=>.ok ds|none=>.no
theorem OutI.fst {K:PySem.W.Frag}{H0 F H:Hp}{r:Rs D}{k:D→Rs (List D)}{Q:It→Hp→Prop}{P:VK}(h:OutI K cl E H0 F H (r.bind k) Q)(z:∀d v H1 F1,Gr F H F1 H1→Dt K cl F1 v d→OutI K cl E H0 F1 H1 (k d) Q→P v H1):OutE K cl E H0 F H r P:=by
 cases r with
 | ok d =>
  refine fun v H' F' g' q=>z d v H' F' g' q ?_
  have h':OutI K cl E H0 F H (k d) Q:=h
  cases e:k d with
  | ok ds=>rw[e] at h';exact fun J G vs H2 F2 g2=>h' J G vs H2 F2 (g'.trans g2)
  | ex n=>rw[e] at h';exact h'
  | no=>rw[e] at h';exact h'
 | ex n=>exact h
 | no=>exact h
theorem xi_list {tg:Expr}(h:XE X cl E e f):XI X cl E tg e (fI lsD f):=by
 obtain⟨t,pt,rt⟩:=h.ex
 refine XI.mk (pi_list pt) fun H0 F0 ρ σ H F Q R o=>rt H0 F0 ρ σ H F _ R (OutI.fst o fun d v H1 F1 g q o1=>?_)
 cases q with
 | lst sq dq =>
  have fh:=(R.grow g).fh
  exact⟨_,rfl,⟨_,fh.seq sq⟩,o1 _ _ _ H1 F1 (Gr.refl fh) wlk_list (fun H'' s=>s.seq sq) dq⟩
 | _=>exact o1.elim
theorem xi_tup {tg:Expr}(h:XE X cl E e f):XI X cl E tg e (fI tpD f):=by
 obtain⟨t,pt,rt⟩:=h.ex
 refine XI.mk (pi_tup pt) fun H0 F0 ρ σ H F Q R o=>rt H0 F0 ρ σ H F _ R (OutI.fst o fun d v H1 F1 g q o1=>?_)
 cases q with
 | tup sq dq =>
  have fh:=(R.grow g).fh
  exact⟨_,rfl,⟨_,fh.seqT sq⟩,o1 _ _ _ H1 F1 (Gr.refl fh) wlk_tup (fun H'' s=>s.seqT sq) dq⟩
 | _=>exact o1.elim
theorem dts_signs {K:PySem.W.Frag}{F:Hp}:∀{l:List Nat},(∀c∈l,TxtOk (T [c]))→Dts K cl F (l.map fun c=>V.str (T [c])) (l.map fun c=>D.str [c])
 | [],_=>.nil
 | c::l,h=>.cons (.str [c] (h c (.head _))) (dts_signs fun d hd=>h d (.tail _ hd))
theorem xi_str {tg:Expr}(h:XE X cl E e f):XI X cl E tg e (fI sgD f):=by
 obtain⟨t,pt,rt⟩:=h.ex
 refine XI.mk (pi_str pt) fun H0 F0 ρ σ H F Q R o=>rt H0 F0 ρ σ H F _ R (OutI.fst o fun d v H1 F1 g q o1=>?_)
 cases q with
 | str l ok =>
  have fh:=(R.grow g).fh
  have w:=wlk_str (x:=T l) (G:=fun _=>True)
  rw[T_cps] at w
  exact⟨_,rfl,o1 _ _ _ H1 F1 (Gr.refl fh) w (fun _ _=>trivial) (dts_signs fun c hc=>txt1 ok hc)⟩
 | _=>exact o1.elim
def rng1:List D→Option (List D)
 | [.int j]=>if -(2 ^ 62)≤j∧j<2 ^ 62 then some ((List.range j.toNat).map fun(k:Nat)=>.int (k:Int)) else none
 | _=>none
def rng2:List D→Option (List D)
 | [.int i,.int j]=>if -(2 ^ 62)≤i∧i<2 ^ 62∧-(2 ^ 62)≤j∧j<2 ^ 62 then some ((List.range (j - i).toNat).map fun(k:Nat)=>.int (i+(k:Int))) else none
 | _=>none
def fR (g:List D→Option (List D))(fs:Rho→Rs (List D)):Rho→Rs (List D):=fun ρ=>(fs ρ).bind fun ds=>match g ds with|some es=>.ok es|none=>.no
theorem OutI.fstA {K:PySem.W.Frag}{H0 F H:Hp}{r:Rs (List D)}{k:List D→Rs (List D)}{Q:It→Hp→Prop}{P:List V→Hp→Prop}(h:OutI K cl E H0 F H (r.bind k) Q)(z:∀d v H1 F1,Gr F H F1 H1→Dts K cl F1 v d→OutI K cl E H0 F1 H1 (k d) Q→P v H1):OutA K cl E H0 F H r P:=by
 cases r with
 | ok d =>
  refine fun v H' F' g' q=>z d v H' F' g' q ?_
  have h':OutI K cl E H0 F H (k d) Q:=h
  cases e:k d with
  | ok ds=>rw[e] at h';exact fun J G vs H2 F2 g2=>h' J G vs H2 F2 (g'.trans g2)
  | ex n=>rw[e] at h';exact h'
  | no=>rw[e] at h';exact h'
 | ex n=>exact h
 | no=>exact h
theorem dts_map {K:PySem.W.Frag}{F:Hp}{α:Type}{v:α→V}{d:α→D}:∀{l:List α},(∀x∈l,Dt K cl F (v x) (d x))→Dts K cl F (l.map v) (l.map d)
 | [],_=>.nil
 | c::l,h=>.cons (h c (.head _)) (dts_map fun d hd=>h d (.tail _ hd))
theorem Dts.one {K:PySem.W.Frag}{F:Hp}{vs:List V}{d:D}(q:Dts K cl F vs [d]):∃v,vs=[v]∧Dt K cl F v d:=by
 cases q with
 | cons q r=>cases r;exact⟨_,rfl,q⟩
theorem Dts.two {K:PySem.W.Frag}{F:Hp}{vs:List V}{d e:D}(q:Dts K cl F vs [d,e]):∃v w,vs=[v,w]∧Dt K cl F v d∧Dt K cl F w e:=by
 cases q with
 | cons q r=>obtain⟨w,rfl,q2⟩:=r.one;exact⟨_,_,rfl,q,q2⟩
theorem xi_range1 {tg a:Expr}{p:Pos}{fs:Rho→Rs (List D)}(hg:Gl X "range")(hm:X.mg "range" = none)(ha:XA X cl E [a] fs)(hs:starEach [a] X.env=[(false,eval a X.env)]):XI X cl E tg (.Call (.Name "range" p) [a] [] pos) (fR rng1 fs):=by
 obtain⟨t,pt,rt⟩:=ha.ex
 refine XI.mk (pi_range1 hg hm pt hs) fun H0 F0 ρ σ H F Q R o=>rt H0 F0 ρ σ H F _ R (OutI.fstA o fun d v H1 F1 g q o1=>?_)
 match d,q,o1 with
 | [.int j],q,o1 =>
  obtain⟨v',rfl,q1⟩:=q.one
  cases q1
  dsimp only [rng1] at o1
  by_cases h:-(2 ^ 62)≤j∧j<2 ^ 62
  ·rw[if_pos h] at o1
   refine⟨j,rfl,h.1,h.2,o1 _ (fun _=>True) _ H1 F1 (Gr.refl (R.grow g).fh) wlk_range (fun _ _=>trivial) (dts_map fun k _=>?_)⟩
   rw[Int.zero_add];exact .int _
  ·rw[if_neg h] at o1;exact o1.elim
theorem xi_range2 {tg a b:Expr}{p:Pos}{fs:Rho→Rs (List D)}(hg:Gl X "range")(hm:X.mg "range" = none)(ha:XA X cl E [a,b] fs)(hs:starEach [a,b] X.env=[(false,eval a X.env),(false,eval b X.env)])(hs2:starEach [b] X.env=[(false,eval b X.env)]):XI X cl E tg (.Call (.Name "range" p) [a,b] [] pos) (fR rng2 fs):=by
 obtain⟨t,pt,rt⟩:=ha.ex
 refine XI.mk (pi_range2 hg hm pt hs hs2) fun H0 F0 ρ σ H F Q R o=>rt H0 F0 ρ σ H F _ R (OutI.fstA o fun d v H1 F1 g q o1=>?_)
 match d,q,o1 with
 | [.int i,.int j],q,o1 =>
  obtain⟨v,w,rfl,q1,q2⟩:=q.two
  cases q1;cases q2
  dsimp only [rng2] at o1
  by_cases h:-(2 ^ 62)≤i∧i<2 ^ 62∧-(2 ^ 62)≤j∧j<2 ^ 62
  ·rw[if_pos h] at o1
   exact⟨i,j,rfl,h,o1 _ (fun _=>True) _ H1 F1 (Gr.refl (R.grow g).fh) wlk_range (fun _ _=>trivial) (dts_map fun k _=>.int _)⟩
  ·rw[if_neg h] at o1;exact o1.elim
theorem xs_for {tg iter:Expr}{body:List Stmt}{fi:Rho→Rs (List D)}{i:Nat}(hp:PassesOwn (model X.prog X.w) X.A X.env X.xe)(hc:X.calm=true)(hi:XI X cl E tg iter fi)(hg:PG X tg (gName i))(hb:XSs X cl E body g)(hs:∀x,foldedSetIterable iter X.env x=pure x:=by intro _;rfl):XS X cl E (.For tg iter body [] pos) (sFor i fi g):=by
 obtain⟨u,pu,ru⟩:=hb.ex
 refine XS'.out ⟨_,ps_for hp hc hi hg pu hs,fun H0 F0 ρ σ H F Dn R o=>⟨H0,F0,ρ,F,R,?_⟩⟩
 unfold sFor at o
 cases e:fi ρ with
 | ok ds =>
  rw[e] at o
  intro J G vs H1 F1 gg W hG dq
  refine for_wlk W (fun k σ H=>∃ρ' F',Rl X.K cl H0 F0 ρ' σ H F'∧Same F1 F'∧OutS X.K cl E H0 F0 F' (forD i g (ds.drop k) ρ') Dn) ⟨ρ,F1,R.grow gg,Same.refl _,o.grow gg.ff⟩ (fun k σ' H' _ ⟨ρ',F',R',s',_⟩=>hG H' (s'.trans R'.fh)) ?_ ?_
  ·rintro k x σ' H' hx ⟨ρ',F',R',s',o'⟩
   obtain⟨d,hd,qd⟩:=dq.get hx
   have hdr:ds.drop k=d::ds.drop (k+1):=by
    obtain⟨hk,e2⟩:=List.getElem?_eq_some_iff.mp hd
    rw[List.drop_eq_getElem_cons hk,e2]
   rw[hdr] at o'
   unfold forD at o'
   refine ru H0 F0 _ _ H' F' _ (R'.set (qd.mono s')) ?_
   cases e2:g (ρ'.set i (.fz d)) with
   | nx ρ2=>simp only[e2] at o';exact fun σ2 H2 F2 R2 s2=>⟨ρ2,F2,R2,s'.trans s2,o'.grow s2⟩
   | ct ρ2=>simp only[e2] at o';exact fun σ2 H2 F2 R2 s2=>⟨ρ2,F2,R2,s'.trans s2,o'.grow s2⟩
   | bk ρ2=>simp only[e2] at o';exact o'
   | rt d=>simp only[e2] at o';exact o'
   | ex n=>simp only[e2] at o';exact o'
   | no=>simp only[e2] at o';exact o'
  ·rintro σ' H' ⟨ρ',F',R',s',o'⟩
   rw[List.drop_of_length_le (by rw[dq.length];exact Nat.le_refl _)] at o'
   exact o' σ' H' F' R' (Same.refl _)
 | ex n=>rw[e] at o;exact o
 | no=>rw[e] at o;exact o
end
end L2
namespace L2
open PySem PySem.Spec PyProof.Rows
def capR (n:Nat)(caps:List Nat)(ρ:Rho):Rho:=List.replicate n .no++caps.map fun i=>match ρ[i]? with|some (.fz d)=>.fz d|_=>.no
def bTrue:Rho→Rs Bool:=fun _=>.ok true
def compD (ft:Rho→Rs Bool)(fe:Rho→Rs D)(ρ0:Rho):List D→Rs (List D)
 | []=>.ok []
 | d::ds=>match ft (ρ0.set 0 (.fz d)) with
  | .ok true=>(match fe (ρ0.set 0 (.fz d)) with | .ok e=>(compD ft fe ρ0 ds).bind fun es=>.ok (e::es)|_=>.no)
  | .ok false=>compD ft fe ρ0 ds
  | _=>.no
def fCp (fi:Rho→Rs (List D))(ft:Rho→Rs Bool)(fe:Rho→Rs D)(caps:List Nat):Rho→Rs (List D):=fun ρ=>(fi ρ).bind fun ds=>if ds.length≤1000000 then compD ft fe (capR 1 caps ρ) ds else .no
def fComp (fi:Rho→Rs (List D))(ft:Rho→Rs Bool)(fe:Rho→Rs D)(caps:List Nat):Rho→Rs D:=fun ρ=>(fCp fi ft fe caps ρ).bind fun es=>.ok (.lst es)
def XTs (X:Cx)(cl:Nat→Addr)(E:XK)(ifs:List Expr)(f:Rho→Rs Bool):Prop:=PTs X ifs (tDB X.K cl E f)
section
variable {X:Cx}{cl:Nat→Addr}{E:XK}
theorem xts_nil:XTs X cl E [] bTrue:=fun pins s σ H Q I ⟨H0,F0,ρ,F,R,o⟩=>wpAny_tests_nil ⟨H,I,o H F (Gr.refl R.fh)⟩
theorem xts_one {c:Expr}{f:Rho→Rs Bool}(h:XT X cl E c f):XTs X cl E [c] f:=fun pins s σ H Q I hq=>wpAny_tests_one (h pins s σ H Q I hq)
theorem compD_noex {ft:Rho→Rs Bool}{fe:Rho→Rs D}{ρ0:Rho}:∀{ds:List D}{n:Nat},compD ft fe ρ0 ds≠.ex n
 | [],n=>fun h=>by cases h
 | d :: ds,n=>fun h=>by
  unfold compD at h
  split at h
  ·split at h
   ·cases e:compD ft fe ρ0 ds with
    | ok es=>rw[e] at h;cases h
    | ex m=>exact compD_noex e
    | no=>rw[e] at h;cases h
   ·cases h
  ·exact compD_noex h
  ·cases h
theorem Rl.cap {K:PySem.W.Frag}{H0 F0 H F:Hp}{ρ:Rho}{σ:St}(R:Rl K cl H0 F0 ρ σ H F)(own:List Str)(caps:List Nat):Rl K cl H F (capR own.length caps ρ) (capS own caps σ) H F where
 gr:=Gr.refl R.fh
 len:=by simp[capR,capS]
 fz := fun i d e=>by
  unfold capR at e
  unfold capS
  rcases Nat.lt_or_ge i own.length with h|h
  ·rw[List.getElem?_append_left (by simpa using h),List.getElem?_replicate,if_pos h] at e
   cases e
  ·rw [List.getElem?_append_right (by simpa using h),List.length_replicate,List.getElem?_map] at e
   rw[List.getElem?_append_right (by simpa using h),List.length_map,List.getElem?_map]
   cases c:caps[i - own.length]? with
   | none=>rw[c] at e;cases e
   | some k =>
    rw[c] at e
    have e':=Option.some.inj e
    dsimp only at e'
    split at e'
    ·rename_i d' z
     injection e' with e'
     subst e'
     obtain⟨v,h1,h2⟩:=R.fz k _ z
     exact⟨v,by show some ((σ[k]?).getD none)=some (some v);rw[h1];rfl,h2⟩
    ·cases e'
 own := fun i s e o=>by
  exfalso
  unfold capR at e
  rcases Nat.lt_or_ge i own.length with h|h
  ·rw[List.getElem?_append_left (by simpa using h),List.getElem?_replicate,if_pos h] at e
   injection e with e;subst e;cases o
  ·rw [List.getElem?_append_right (by simpa using h),List.length_replicate,List.getElem?_map] at e
   cases c:caps[i - own.length]? with
   | none=>rw[c] at e;cases e
   | some k =>
    rw[c] at e
    have e':=Option.some.inj e
    dsimp only at e'
    split at e' <;>(subst e';cases o)
 ap := fun i j s t a z1 z2 o1 o2 e1 e2=>by
  exfalso
  unfold capR at z1
  rcases Nat.lt_or_ge i own.length with h|h
  ·rw[List.getElem?_append_left (by simpa using h),List.getElem?_replicate,if_pos h] at z1
   injection z1 with z1;subst z1;cases o1
  ·rw [List.getElem?_append_right (by simpa using h),List.length_replicate,List.getElem?_map] at z1
   cases c:caps[i - own.length]? with
   | none=>rw[c] at z1;cases z1
   | some k =>
    rw[c] at z1
    have e':=Option.some.inj z1
    dsimp only at e'
    split at e' <;>(subst e';cases o1)
theorem turnsD {K:PySem.W.Frag}{H0 F0 H F:Hp}{ρ:Rho}{σ:St}{x:Str}{caps:List Nat}{ft:Rho→Rs Bool}{fe:Rho→Rs D}{ds es:List D}{J:It}{G:Hp→Prop}{vs:List V}{Fn:List V→Hp→Prop}(R:Rl K cl H0 F0 ρ σ H F)(W:Wlk J G vs)(hG:∀H'',Same F H''→G H'')(dq:Dts K cl F vs ds)(hl:ds.length≤1000000)
  (hc:compD ft fe (capR 1 caps ρ) ds=.ok es) (k:∀ys H' F',Gr F H F' H'→Dts K cl F' ys es→Fn ys H'):tTurns (gName 0) (tDB K cl E0 ft) (tDE K cl E0 fe) (capS [x] caps σ) Fn J H:=by
 have hz:vs.length≤sizeLine:=sz6 (dq.length▸hl)
 refine turns_wlk W hz (fun i ys H'=>∃F' es1 es2,Gr F H F' H'∧Dts K cl F' ys es1∧ys.length≤i∧es=es1++es2∧compD ft fe (capR 1 caps ρ) (ds.drop i)=.ok es2) ⟨F,[],es,Gr.refl R.fh,.nil,Nat.le_refl _,rfl,hc⟩ (fun i ys H' _ ⟨F',_,_,g,_,h1,_⟩=>⟨hG H' (g.ff.trans g.fh),h1⟩) ?_ ?_
 ·rintro i v ys H' hv ⟨F',es1,es2,g,q1,hly,rfl,hc'⟩
  obtain⟨d,hd,qd⟩:=dq.get hv
  have hdr:ds.drop i=d::ds.drop (i+1):=by
   obtain⟨hk,e2⟩:=List.getElem?_eq_some_iff.mp hd
   rw[List.drop_eq_getElem_cons hk,e2]
  rw[hdr] at hc'
  unfold compD at hc'
  have R1:=(R.grow g).cap [x] caps
  have R2:Rl K cl H' F' ((capR 1 caps ρ).set 0 (.fz d)) ((capS [x] caps σ).set 0 (some v)) H' F':=R1.set (qd.mono g.ff)
  refine⟨Kps.set rfl,H',F',_,F',R2,?_⟩
  cases e1:ft ((capR 1 caps ρ).set 0 (.fz d)) with
  | ok b =>
   rw[e1] at hc'
   intro H2 F2 g2
   cases b with
   | true =>
    rw[if_pos rfl]
    cases e2:fe ((capR 1 caps ρ).set 0 (.fz d)) with
    | ok e =>
     simp only[e2] at hc'
     refine⟨H',F',_,F2,R2.grow g2,?_⟩
     rw[e2]
     intro y H3 F3 g3 qy
     cases e3:compD ft fe (capR 1 caps ρ) (ds.drop (i+1)) with
     | ok es3 =>
      rw[e3] at hc'
      injection hc' with hc'
      exact⟨F3,es1++[e],es3,g.trans (g2.trans g3),(q1.mono (g2.ff.trans g3.ff)).append (.cons qy .nil),by simp;exact hly,by rw[← hc',List.append_assoc];rfl,rfl⟩
     | ex n=>rw[e3] at hc';cases hc'
     | no=>rw[e3] at hc';cases hc'
    | ex n=>simp only[e2] at hc';cases hc'
    | no=>simp only[e2] at hc';cases hc'
   | false =>
    rw[if_neg Bool.false_ne_true]
    exact⟨F2,es1,es2,g.trans g2,q1.mono g2.ff,Nat.le_succ_of_le hly,rfl,hc'⟩
  | ex n=>rw[e1] at hc';cases hc'
  | no=>rw[e1] at hc';cases hc'
 ·rintro ys H' ⟨F',es1,es2,g,q1,hly,rfl,hc'⟩
  rw[List.drop_of_length_le (by rw[dq.length];exact Nat.le_refl _)] at hc'
  injection hc' with hc'
  rw[← hc',List.append_nil] at k
  exact k ys H' F' g q1
variable {scope:Scope}{x:Str}{caps:List Nat}{elt tg iter:Expr}{ifs:List Expr}{fi:Rho→Rs (List D)}{ft:Rho→Rs Bool}{fe:Rho→Rs D}{pos:Pos}
structure CompD (X:Cx)(cl:Nat→Addr)(scope:Scope)(x:Str)(caps:List Nat)(tg:Expr)(ifs:List Expr)(elt:Expr)(ft:Rho→Rs Bool)(fe:Rho→Rs D):Prop where
 tgt:∀pins C ex s H,PG (cxC X pins scope [x] caps C ex s H) tg (gName 0)
 tst:∀pins C ex s H,XTs (cxC X pins scope [x] caps C ex s H) cl E0 ifs ft
 elm:∀pins C ex s H,XE (cxC X pins scope [x] caps C ex s H) cl E0 elt fe
theorem CompD.ci (h:CompD X cl scope x caps tg ifs elt ft fe):CompIn X scope [x] caps tg ifs elt (gName 0) (tDB X.K cl E0 ft) (tDE X.K cl E0 fe):=⟨h.tgt,h.tst,h.elm⟩
theorem OutI.comp {K:PySem.W.Frag}{H0 F0 H F:Hp}{ρ:Rho}{σ:St}{P:List V→Hp→Prop}(R:Rl K cl H0 F0 ρ σ H F)(o:OutA K cl E H0 F H (fCp fi ft fe caps ρ) P):OutI K cl E H0 F H (fi ρ) fun J H1=>tTurns (gName 0) (tDB K cl E0 ft) (tDE K cl E0 fe) (capS [x] caps σ) P J H1:=by
 unfold fCp at o
 cases e:fi ρ with
 | ok ds =>
  rw[e] at o
  have o1:OutA K cl E H0 F H (if ds.length≤1000000 then compD ft fe (capR 1 caps ρ) ds else .no) P:=o
  intro J G vs H1 F1 g W hG dq
  split at o1
  ·rename_i hl
   cases e2:compD ft fe (capR 1 caps ρ) ds with
   | ok es=>rw[e2] at o1;exact turnsD (R.grow g) W hG dq hl e2 fun ys H' F' g' q=>o1 ys H' F' (g.trans g') q
   | ex n=>exact absurd e2 compD_noex
   | no=>rw[e2] at o1;exact o1.elim
  ·exact o1.elim
 | ex n=>rw[e] at o;exact o
 | no=>rw[e] at o;exact o
theorem xe_comp (ok:CompOk X scope caps)(hc:X.calm=true)(hi:XI X cl E tg iter fi)(CI:CompD X cl scope x caps tg ifs elt ft fe)(hs:∀x,foldedSetIterable iter X.env x=pure x:=by intro _;rfl):XE X cl E (.ListComp elt [⟨tg,iter,ifs,0⟩] scope pos) (fComp fi ft fe caps):=by
 refine XE'.out ⟨_,pe_comp ok hc hi CI.ci hs,fun H0 F0 ρ σ H F Q R o=>⟨H0,F0,ρ,F,R,OutI.comp R ?_⟩⟩
 refine OutA.fst o fun es ys H' F' g q o1=>?_
 intro p hp
 have fh:=(R.grow g).fh
 exact o1 _ _ _ (Gr.new fh hp) (.lst (.inl (.inl zR)) (q.mono (Same.upd (fh.free hp))))
def sSetA (j:Nat)(fs:Rho→Rs (List D)):Rho→Out:=fun ρ=>match fs ρ with | .ok es=>.nx (ρ.set j (.fz (.lst es))) | .ex n=>.ex n | .no=>.no
def sSetO (j:Nat)(fs:Rho→Rs (List D)):Rho→Out:=fun ρ=>match fs ρ with | .ok es=>.nx (ρ.set j (.ow es)) | .ex n=>.ex n | .no=>.no
theorem xs_comp {j:Nat}{y:Str}{py spos:Pos}(hN:X.N.Nodup)(hj:X.N[j]? = some y)(hy:X.env.scope.names.lookup y=some .local)(ok:CompOk X scope caps)(hc:X.calm=true)(hi:XI X cl E tg iter fi)(CI:CompD X cl scope x caps tg ifs elt ft fe)
  (hsw:swapsWith (.ListComp elt [⟨tg,iter,ifs,0⟩] scope pos) (some (.Name y py)) spos.line X.env=pure true) (hs:∀x,foldedSetIterable iter X.env x=pure x:=by intro _;rfl):XS X cl E (.Assign [.Name y py] (.ListComp elt [⟨tg,iter,ifs,0⟩] scope pos) spos) (sSetA j (fCp fi ft fe caps)):=by
 refine XS'.out ⟨_,ps_comp hN hj hy ok hc hi CI.ci hsw hs,fun H0 F0 ρ σ H F Dn R o=>⟨H0,F0,ρ,F,R,OutI.comp R ?_⟩⟩
 unfold sSetA at o
 cases e:fCp fi ft fe caps ρ with
 | ok es =>
  rw[e] at o
  intro ys H' F' g q p hp
  have fh:=(R.grow g).fh
  have g2:Gr F' H' (upd F' p (.lst ys)) (upd H' p (.lst ys)):=Gr.new fh hp
  exact o _ _ _ (((R.grow g).grow g2).set (.lst (.inl (.inl zR)) (q.mono g2.ff))) (g.ff.trans g2.ff)
 | ex n=>rw[e] at o;exact o
 | no=>rw[e] at o;exact o
theorem xs_compO {j:Nat}{y:Str}{py spos:Pos}(hN:X.N.Nodup)(hj:X.N[j]? = some y)(hy:X.env.scope.names.lookup y=some .local)(ok:CompOk X scope caps)(hc:X.calm=true)(hi:XI X cl E tg iter fi)(CI:CompD X cl scope x caps tg ifs elt ft fe)
  (hsw:swapsWith (.ListComp elt [⟨tg,iter,ifs,0⟩] scope pos) (some (.Name y py)) spos.line X.env=pure true) (hs:∀x,foldedSetIterable iter X.env x=pure x:=by intro _;rfl):XS X cl E (.Assign [.Name y py] (.ListComp elt [⟨tg,iter,ifs,0⟩] scope pos) spos) (sSetO j (fCp fi ft fe caps)):=by
 refine XS'.out ⟨_,ps_comp hN hj hy ok hc hi CI.ci hsw hs,fun H0 F0 ρ σ H F Dn R o=>⟨H0,F0,ρ,F,R,OutI.comp R ?_⟩⟩
 unfold sSetO at o
 cases e:fCp fi ft fe caps ρ with
 | ok es =>
  rw[e] at o
  intro ys H' F' g q p hp
  exact o _ _ _ ((R.grow g).setO hp q) g.ff
 | ex n=>rw[e] at o;exact o
 | no=>rw[e] at o;exact o
end
end L2
namespace L2
open PySem PySem.Spec PyProof.Rows
def Fn1 (K:PySem.W.Frag)(cl:Nat→Addr)(r:List V→Hp→VK→Prop)(g:List D→Option D):Prop :=
 ∀(F H:Hp) (vs:List V) (ds:List D) (d:D) (Q:VK),Same F H→Dts K cl F vs ds→g ds=some d→(∀v H' F',Gr F H F' H'→Dt K cl F' v d→Q v H')→r vs H Q
def lenD:List D→Option D
 | [.str l]=>some (.int l.length)
 | [.lst l]=>some (.int l.length)
 | [.tup l]=>some (.int l.length)
 | _=>none
def unB:D→Bool
 | .bl b=>b
 | _=>false
def isB:D→Bool
 | .bl _=>true
 | _=>false
def unS:D→List Nat
 | .str l=>l
 | _=>[]
def isS:D→Bool
 | .str _=>true
 | _=>false
def allD:List D→Option D
 | [.lst ds]=>if ds.all isB=true then some (.bl (ds.all unB)) else none
 | _=>none
def anyD:List D→Option D
 | [.lst ds]=>if ds.all isB=true then some (.bl (ds.any unB)) else none
 | _=>none
def sortL (ds:List D):Option (List D):=if ds.all isS=true∧ds.length<64 then some ((My.sortF (ds.map unS)).map .str) else none
def sortD:List D→Option (List D)
 | [.lst ds]=>sortL ds
 | [.tup ds]=>sortL ds
 | _=>none
def tupD:List D→Option D
 | [.lst ds]=>some (.tup ds)
 | [.tup ds]=>some (.tup ds)
 | _=>none
def lstD:List D→Option (List D)
 | [.lst ds]=>some ds
 | [.tup ds]=>some ds
 | _=>none
def startsD:D→D→Option D
 | .str l,.str m=>some (.bl (m.isPrefixOf l))
 | _,_=>none
def joinD:D→D→Option D
 | .str [],.lst ds=>if ds.all isS=true∧(ds.map unS).flatten.length≤1000000 then some (.str (ds.map unS).flatten) else none
 | _,_=>none
def isiD (g:PyData→Bool)(d:D):Option D:=if d.pl=true then some (.bl (g d.py)) else none
def isInt:PyData→Bool:=fun d=>match d with | .int _=>true | .bool _=>true|_=>false
def isBool:PyData→Bool:=fun d=>match d with | .bool _=>true|_=>false
def isStr:PyData→Bool:=fun d=>match d with | .str _=>true|_=>false
def isTup:PyData→Bool:=fun d=>match d with | .tuple _=>true|_=>false
section
variable {K:PySem.W.Frag}{cl:Nat→Addr}{F H:Hp}
theorem Dts.bools:∀{vs:List V}{ds:List D},Dts K cl F vs ds→ds.all isB=true→vs=(ds.map unB).map V.bl
 | _,_,.nil,_=>rfl
 | _,_,.cons q r,h=>by
  rw[List.all_cons,Bool.and_eq_true] at h
  have:=Dts.bools r h.2
  cases q <;>simp[isB] at h
  rw[this];rfl
theorem Dts.texts:∀{vs:List V}{ds:List D},Dts K cl F vs ds→ds.all isS=true→vs=vT (ds.map unS)∧(∀x∈ds.map unS,TxtOk (T x))∧ds=(ds.map unS).map .str
 | _,_,.nil,_=>⟨rfl,by simp,rfl⟩
 | _,_,.cons q r,h=>by
  rw[List.all_cons,Bool.and_eq_true] at h
  obtain⟨e1,e2,e3⟩:=Dts.texts r h.2
  cases q with
  | str l ok =>
   refine⟨by rw[e1];rfl,fun x hx=>?_,by rw[List.map_cons,List.map_cons,← e3];rfl⟩
   rw[List.map_cons] at hx
   rcases List.mem_cons.mp hx with rfl|hx
   ·exact ok
   ·exact e2 x hx
  | _=>simp[isS] at h
theorem dts_texts {ls:List (List Nat)}(h:∀x∈ls,TxtOk (T x)):Dts K cl F (vT ls) (ls.map .str):=dts_map fun x hx=>.str x (h x hx)
theorem n_len:Fn1 K cl (fun xs H Q=>∃x n,xs=[x]∧LenV K x H n∧Q (.int n) H) lenD:=fun F H vs ds d Q s q e k=>by
 match ds,q,e with
 | [.str l],q,e =>
  obtain⟨v,rfl,q1⟩:=q.one
  obtain rfl:=Option.some.inj e
  cases q1 with
  | str l ok=>exact⟨_,l.length,rfl,⟨sz6 ok.2,(T_len l).symm⟩,k _ _ _ (Gr.refl s) (.int _)⟩
 | [.lst l],q,e =>
  obtain⟨v,rfl,q1⟩:=q.one
  obtain rfl:=Option.some.inj e
  cases q1 with
  | lst sq dq=>exact⟨_,l.length,rfl,.inl ⟨_,s.seq sq,dq.length.symm⟩,k _ _ _ (Gr.refl s) (.int _)⟩
 | [.tup l],q,e =>
  obtain⟨v,rfl,q1⟩:=q.one
  obtain rfl:=Option.some.inj e
  cases q1 with
  | tup sq dq=>exact⟨_,l.length,rfl,.inr ⟨_,s.seqT sq,dq.length.symm⟩,k _ _ _ (Gr.refl s) (.int _)⟩
theorem n_all:Fn1 K cl (fun xs H Q=>∃(a:Addr) (bs:List Bool),xs=[.ref a]∧SqL K H a (bs.map V.bl)∧Q (.bl (bs.all id)) H) allD:=fun F H vs ds d Q s q e k=>by
 match ds,q,e with
 | [.lst l],q,e =>
  obtain⟨v,rfl,q1⟩:=q.one
  dsimp only [allD] at e
  split at e
  ·rename_i h
   obtain rfl:=Option.some.inj e
   cases q1 with
   | lst sq dq =>
    rw[dq.bools h] at sq
    refine⟨_,_,rfl,s.seq sq,?_⟩
    have:=k _ _ _ (Gr.refl s) (.bl (l.all unB))
    rwa [List.all_map]
  ·cases e
theorem n_any:Fn1 K cl (fun xs H Q=>∃(a:Addr) (bs:List Bool),xs=[.ref a]∧SqL K H a (bs.map V.bl)∧Q (.bl (bs.any id)) H) anyD:=fun F H vs ds d Q s q e k=>by
 match ds,q,e with
 | [.lst l],q,e =>
  obtain⟨v,rfl,q1⟩:=q.one
  dsimp only [anyD] at e
  split at e
  ·rename_i h
   obtain rfl:=Option.some.inj e
   cases q1 with
   | lst sq dq =>
    rw[dq.bools h] at sq
    refine⟨_,_,rfl,s.seq sq,?_⟩
    have:=k _ _ _ (Gr.refl s) (.bl (l.any unB))
    rwa [List.any_map]
  ·cases e
theorem n_tup:Fn1 K cl (fun xs H Q=>∃p ys,xs=[.ref p]∧((SqL K H p ys∧∀l,H l=none→Q (.ref l) (upd H l (.tup ys)))∨(SqT K H p ys∧Q (.ref p) H))) tupD:=fun F H vs ds d Q s q e k=>by
 match ds,q,e with
 | [.lst l],q,e =>
  obtain⟨v,rfl,q1⟩:=q.one
  obtain rfl:=Option.some.inj e
  cases q1 with
  | lst sq dq=>exact⟨_,_,rfl,.inl ⟨s.seq sq,fun p hp=>k _ _ _ (Gr.new s hp) (.tup (.inl (.inl zR)) (dq.mono (Same.upd (s.free hp))))⟩⟩
 | [.tup l],q,e =>
  obtain⟨v,rfl,q1⟩:=q.one
  obtain rfl:=Option.some.inj e
  cases q1 with
  | tup sq dq=>exact⟨_,_,rfl,.inr ⟨s.seqT sq,k _ _ _ (Gr.refl s) (.tup sq dq)⟩⟩
end
section
variable {X:Cx}{cl:Nat→Addr}{E:XK}{e o:Expr}{es:List Expr}{fa fb:Rho→Rs D}{fs:Rho→Rs (List D)}{x:Str}{p pos:Pos}
theorem yg {id:String}{r:List V→Hp→VK→Prop}{g:List D→Option D}(hc:CallR X (.builtin id) r)(hF:Fn1 X.K cl r g)(hg:Gl X x)(hm:X.mg x=none)(hv:bootBuiltins x=some (.builtin id))(ha:XA X cl E (e::es) fs)(he:starEach (e::es) X.env=(false,eval e X.env)::starEach es X.env)(hn:x ≠ "__name__" := by decide)(hdb:(x == ("__debug__" : Str))=false:=by decide)(hpl:(backTo pos (starEach es X.env)).any (·.1)=false:=by rfl):XE X cl E (.Call (.Name x p) (e::es) [] pos) (fO g fs):=by
 obtain⟨t,pt,rt⟩:=ha.ex
 refine XE'.out ⟨_,pe_callB hc hg hm hv pt hn hdb he hpl,fun H0 F0 ρ σ H F Q R o=>rt H0 F0 ρ σ H F _ R (OutA.fst o fun ds vs H1 F1 g1 q o1=>?_)⟩
 obtain⟨z,hz,k⟩:=o1.lf
 exact hF F1 H1 vs ds z _ (R.grow g1).fh q hz k
theorem xe_callTy {T:String}{r:List V→Hp→VK→Prop}{g:List D→Option D}(hc:CallR X (.type T) r)(hF:Fn1 X.K cl r g)(hg:Gl X x)(hm:X.mg x=none)(hv:bootBuiltins x=some (.type T))(ha:XA X cl E (e::es) fs)(he:starEach (e::es) X.env=(false,eval e X.env)::starEach es X.env)(hn:x ≠ "__name__" := by decide)(hdb:(x == ("__debug__" : Str))=false:=by decide)(hpl:(backTo pos (starEach es X.env)).any (·.1)=false:=by rfl):XE X cl E (.Call (.Name x p) (e::es) [] pos) (fO g fs):=by
 obtain⟨t,pt,rt⟩:=ha.ex
 refine XE'.out ⟨_,pe_callTy hc hg hm hv pt hn hdb he hpl,fun H0 F0 ρ σ H F Q R o=>rt H0 F0 ρ σ H F _ R (OutA.fst o fun ds vs H1 F1 g1 q o1=>?_)⟩
 obtain⟨z,hz,k⟩:=o1.lf
 exact hF F1 H1 vs ds z _ (R.grow g1).fh q hz k
theorem xe_isi {n:String}{b:Expr}{g:PyData→Bool}(hk:∀d,PySem.W.kitOne X.K (.type (tyN d)) (.type n)=some (g d))(hg:Gl X "isinstance")(hm:X.mg "isinstance" = none)(ha:XE X cl E e fa)(hb:PE X b (tC (.ty n)))(h1:starEach [e,b] X.env=(false,eval e X.env)::starEach [b] X.env)(h2:starEach [b] X.env=(false,eval b X.env)::starEach [] X.env:=by rfl)(hpl:(backTo pos (starEach [b] X.env)).any (·.1)=false:=by rfl):XE X cl E (.Call (.Name "isinstance" p) [e,b] [] pos) (f1 (isiD g) fa):=by
 obtain⟨t,pt,rt⟩:=ha.ex
 refine XE'.out ⟨_,pe_callB call_isinstD hg hm boot_isinstance (pa_cons pt (pa_cons hb pa_nil h2) h1) (by decide) (by decide) h1 hpl,fun H0 F0 ρ σ H F Q R o=>rt H0 F0 ρ σ H F _ R (OutE.fst o fun d v H1 F1 g1 q o1=>?_)⟩
 obtain⟨z,hz,k⟩:=o1.lf
 unfold isiD at hz
 split at hz
 ·rename_i hp
  obtain rfl:=Option.some.inj hz
  have fh:=(R.grow g1).fh
  exact⟨v,d.py,n,g d.py,rfl,(q.is hp).mono fh,hk _,k _ _ _ (Gr.refl fh) (.bl _)⟩
 ·cases hz
def fM (chk:D→Bool)(g:D→D→Option D)(fa fb:Rho→Rs D):Rho→Rs D:=fun ρ=>(fa ρ).bind fun a=>if chk a=true then(fb ρ).bind fun b=>lf (g a b) else .no
structure Mth (X:Cx)(o e:Expr)(name:Str)(apos cpos:Pos):Prop where
 hs:starEach [e] X.env=(false,eval e X.env)::starEach [] X.env
 base:attributeBase o name X.env (eval o X.env)=eval o X.env
 few:((backTo cpos (starEach [e] X.env)).all (fun x=>!x.1)&&(backToKw cpos (keywordEach [] X.env)).all (fun x=>x.1.isSome)&&decide (([e]:List Expr).length+([]:List Keyword).length+(if ([]:List Keyword).isEmpty then 0 else 1)<30))=true
 line:(apos.endLine == cpos.line)=true
 plain:(backTo cpos (starEach [] X.env)).any (·.1)=false
theorem xe_starts {apos cpos:Pos}(ho:XE X cl E o fa)(ha:XE X cl E e fb)(m:Mth X o e "startswith" apos cpos):XE X cl E (.Call (.Attribute o "startswith" apos) [e] [] cpos) (fM isS startsD fa fb):=by
 obtain⟨t,pt,rt⟩:=ho.ex
 obtain⟨u,pu,ru⟩:=ha.ex
 refine XE'.out ⟨_,pe_bm PySem.F.plainAttrs_str PySem.F.slot_str_startswith PySem.F.type_str_startswith mt_starts pt (pa_cons pu pa_nil m.hs) m.base m.few m.line m.hs m.plain,fun H0 F0 ρ σ H F Q R o=>rt H0 F0 ρ σ H F _ R (OutE.fst o fun d v H1 F1 g1 q o1=>?_)⟩
 split at o1
 ·rename_i hd
  cases q with
  | str l ok =>
   refine⟨rfl,ru H0 F0 ρ σ H1 F1 _ (R.grow g1) (OutE.fst o1 fun d2 v2 H2 F2 g2 q2 o2=>?_)⟩
   obtain⟨z,hz,k⟩:=o2.lf
   cases q2 with
   | str m ok2 =>
    obtain rfl:=Option.some.inj hz
    exact⟨l,m,rfl,rfl,k _ _ _ (Gr.refl (R.grow (g1.trans g2)).fh) (.bl _)⟩
   | _=>cases hz
  | _=>cases hd
 ·exact o1.elim
theorem xe_join {apos cpos:Pos}(ho:XE X cl E o fa)(ha:XE X cl E e fb)(m:Mth X o e "join" apos cpos):XE X cl E (.Call (.Attribute o "join" apos) [e] [] cpos) (fM isS joinD fa fb):=by
 obtain⟨t,pt,rt⟩:=ho.ex
 obtain⟨u,pu,ru⟩:=ha.ex
 refine XE'.out ⟨_,pe_bm PySem.F.plainAttrs_str PySem.F.slot_str_join PySem.F.type_str_join mt_join pt (pa_cons pu pa_nil m.hs) m.base m.few m.line m.hs m.plain,fun H0 F0 ρ σ H F Q R o=>rt H0 F0 ρ σ H F _ R (OutE.fst o fun d v H1 F1 g1 q o1=>?_)⟩
 split at o1
 ·rename_i hd
  cases q with
  | str l ok =>
   refine⟨rfl,ru H0 F0 ρ σ H1 F1 _ (R.grow g1) (OutE.fst o1 fun d2 v2 H2 F2 g2 q2 o2=>?_)⟩
   obtain⟨z,hz,k⟩:=o2.lf
   cases q2 with
   | lst sq dq =>
    rename_i ds
    match l,hz with
    | [],hz =>
     dsimp only [joinD] at hz
     split at hz
     ·rename_i h
      obtain rfl:=Option.some.inj hz
      obtain⟨e1,e2,e3⟩:=dq.texts h.1
      have fh:=(R.grow (g1.trans g2)).fh
      rw[e1] at sq
      refine⟨_,ds.map unS,rfl,rfl,fh.seq sq,h.2,k _ _ _ (Gr.refl fh) (.str _ (T_ok (fun c hc=>?_) h.2))⟩
      obtain⟨y,hy,hc⟩:=List.mem_flatten.mp hc
      have a:(T y).cps.all (· < 0x110000)=true:=(e2 y hy).1
      simp only[T,List.all_toArray,List.all_eq_true,decide_eq_true_eq] at a
      exact a c hc
     ·cases hz
    | _::_,hz=>cases hz
   | _=>cases l <;>cases hz
  | _=>cases hd
 ·exact o1.elim
theorem xe_ix {a b:Expr}(ha:XE X cl E a fa)(hb:XE X cl E b fb)(hs:PlainIx b):XE X cl E (.Subscript a b pos) (f2 ixD fa fb):=by
 obtain⟨t,pt,rt⟩:=ha.ex
 obtain⟨u,pu,ru⟩:=hb.ex
 refine XE'.out ⟨_,pe_ix ix_seq pt pu hs,fun H0 F0 ρ σ H F Q R o=>rt H0 F0 ρ σ H F _ R (OutE.fst o fun d v H1 F1 g1 q o1=>?_)⟩
 refine ru H0 F0 ρ σ H1 F1 _ (R.grow g1) (OutE.fst o1 fun e w H2 F2 g2 q2 o2=>?_)
 obtain⟨z,hz,k⟩:=o2.lf
 exact o_ix F2 H2 v w d e z _ (R.grow (g1.trans g2)).fh (q.mono g2.ff) q2 hz k
def oNone:Rho→Rs (Option Int):=fun _=>.ok none
def oSome (f:Rho→Rs D):Rho→Rs (Option Int):=fun ρ=>(f ρ).bind fun d=>match d with | .int i=>.ok (some i)|_=>.no
theorem xo_none:XO' X cl E none oNone:=⟨_,po_none,fun H0 F0 ρ σ H F Q R o=>o H F (Gr.refl R.fh)⟩
theorem xo_some (h:XE X cl E e fa):XO' X cl E (some e) (oSome fa):=by
 obtain⟨t,pt,rt⟩:=h.ex
 refine⟨_,po_some pt,fun H0 F0 ρ σ H F Q R o=>rt H0 F0 ρ σ H F _ R ?_⟩
 unfold oSome at o
 cases e:fa ρ with
 | ok d =>
  rw[e] at o
  intro v H' F' g q
  cases q with
  | int i=>exact⟨i,rfl,o H' F' g⟩
  | _=>exact o.elim
 | ex n=>rw[e] at o;exact o
 | no=>rw[e] at o;exact o
def fSl (fa:Rho→Rs D)(fl fh:Rho→Rs (Option Int)):Rho→Rs D:=fun ρ=>(fa ρ).bind fun a=>(fl ρ).bind fun l=>(fh ρ).bind fun h=>lf (slD a l h)
theorem cutL_len {α:Type}(xs:List α)(lo hi:Option Int):(cutL xs lo hi).length≤xs.length:=by
 unfold cutL
 rw[List.length_take,List.length_drop];omega
theorem Dts.cut {K:PySem.W.Frag}{F:Hp}{vs:List V}{ds:List D}(q:Dts K cl F vs ds)(lo hi:Option Int):Dts K cl F (cutV vs lo hi) (cutL ds lo hi):=by
 unfold cutV cutL
 rw[q.length]
 exact(q.drop _).take _
theorem xe_slice {lo hi:Option Expr}{p2:Pos}{fl fh:Rho→Rs (Option Int)}(ha:XE X cl E e fa)(hl:XO' X cl E lo fl)(hh:XO' X cl E hi fh):XE X cl E (.Subscript e (.Slice lo hi none p2) pos) (fSl fa fl fh):=by
 obtain⟨t,pt,rt⟩:=ha.ex
 obtain⟨u,pu,ru⟩:=hl
 obtain⟨w,pw,rw'⟩:=hh
 refine XE'.out ⟨_,pe_slice (SlR.or sl_list (SlR.or sl_tupU sl_str)) pt pu pw,fun H0 F0 ρ σ H F Q R o=>rt H0 F0 ρ σ H F _ R (OutE.fst o fun d v H1 F1 g1 q o1=>?_)⟩
 refine ru H0 F0 ρ σ H1 F1 _ (R.grow g1) ?_
 cases e1:fl ρ with
 | ok l =>
  rw[e1] at o1
  intro H2 F2 g2
  refine rw' H0 F0 ρ σ H2 F2 _ ((R.grow g1).grow g2) ?_
  cases e2:fh ρ with
  | ok h =>
   rw[e2] at o1
   intro H3 F3 g3
   have o3:OutE X.K cl E H0 F3 H3 (lf (slD d l h)) Q:=OutE.grow o1 (g2.trans g3)
   obtain⟨z,hz,k⟩:=o3.lf
   have fh:=(((R.grow g1).grow g2).grow g3).fh
   have q3:=q.mono (g2.trans g3).ff
   cases q3 with
   | lst sq dq =>
    obtain rfl:=Option.some.inj hz
    refine .inl ⟨_,_,rfl,fh.seq sq,fun p hp=>k _ _ _ (Gr.new fh hp) (.lst (.inl (.inl zR)) ((dq.cut l h).mono (Same.upd (fh.free hp))))⟩
   | tup sq dq =>
    obtain rfl:=Option.some.inj hz
    refine .inr (.inl ⟨_,_,rfl,fh.seqT sq,fun p H' hs qq=>?_⟩)
    obtain⟨F',g,q'⟩:=Gr.tup fh hs qq (dq.cut l h)
    exact k _ _ _ g q'
   | str ls ok =>
    obtain rfl:=Option.some.inj hz
    refine .inr (.inr ⟨_,rfl,sz6 ok.2,?_⟩)
    rw[T_cps,T_len]
    refine k _ _ _ (Gr.refl fh) (.str (cutL ls l h) (txt_sub ok (fun c hc=>?_) (Nat.le_trans (cutL_len _ _ _) (by have:=ok.2;rw[T_len] at this;exact this))))
    exact List.mem_of_mem_drop (List.mem_of_mem_take hc)
   | _=>cases hz
  | ex n=>rw[e2] at o1;exact o1
  | no=>rw[e2] at o1;exact o1
 | ex n=>rw[e1] at o1;exact o1
 | no=>rw[e1] at o1;exact o1
end
end L2
namespace L2
open PySem PySem.Spec PyProof.Rows
def XL (X:Cx)(cl:Nat→Addr)(E:XK)(e:Expr)(f:Rho→Rs (List D)):Prop :=
 ∃t:TE,PE X e t∧∀(H0 F0:Hp) (ρ:Rho) (σ:St) (H F:Hp) (Q:VK),Rl X.K cl H0 F0 ρ σ H F→OutA X.K cl E H0 F H (f ρ) (fun vs H1=>∀p,H1 p=none→Q (.ref p) (upd H1 p (.lst vs)))→t σ H Q
def fLs (f:Rho→Rs (List D)):Rho→Rs D:=fun ρ=>(f ρ).bind fun ds=>.ok (.lst ds)
section
variable {X:Cx}{cl:Nat→Addr}{E:XK}{e o:Expr}{es:List Expr}{fa fb:Rho→Rs D}{fs:Rho→Rs (List D)}{x:Str}{p pos:Pos}
theorem XL.xe (h:XL X cl E e fs):XE X cl E e (fLs fs):=by
 obtain⟨t,pt,rt⟩:=h
 refine XE'.out ⟨_,pt,fun H0 F0 ρ σ H F Q R o=>rt H0 F0 ρ σ H F _ R (OutA.fst o fun ds vs H1 F1 g q o1=>fun p hp=>?_)⟩
 have fh:=(R.grow g).fh
 exact o1 _ _ _ (Gr.new fh hp) (.lst (.inl (.inl zR)) (q.mono (Same.upd (fh.free hp))))
def lf' {α:Type}:Option α→Rs α
 | some d=>.ok d
 | none=>.no
def fL (g:List D→Option (List D))(fs:Rho→Rs (List D)):Rho→Rs (List D):=fun ρ=>(fs ρ).bind fun as=>lf' (g as)
def fL2 (g:D→D→Option (List D))(fa fb:Rho→Rs D):Rho→Rs (List D):=fun ρ=>(fa ρ).bind fun a=>(fb ρ).bind fun b=>lf' (g a b)
theorem OutA.lf {K:PySem.W.Frag}{H0 F H:Hp}{o:Option (List D)}{Q:List V→Hp→Prop}(h:OutA K cl E H0 F H (lf' o) Q):∃d,o=some d∧∀v H' F',Gr F H F' H'→Dts K cl F' v d→Q v H':=by
 cases o with
 | none=>exact h.elim
 | some d=>exact⟨d,rfl,h⟩
def szL (ds:List D):Option (List D):=if ds.length≤1000000 then some ds else none
theorem xl_lst (h:XA X cl E es fs):XL X cl E (.List es pos) (fL szL fs):=by
 obtain⟨t,pt,rt⟩:=h.ex
 refine⟨_,pe_lst pt,fun H0 F0 ρ σ H F Q R o=>rt H0 F0 ρ σ H F _ R (OutA.fstA o fun ds vs H1 F1 g q o1=>?_)⟩
 obtain⟨z,hz,k⟩:=o1.lf
 unfold szL at hz
 split at hz
 ·rename_i hl
  obtain rfl:=Option.some.inj hz
  exact⟨sz6 (q.length▸hl),fun p hp=>k vs H1 F1 (Gr.refl (R.grow g).fh) q p hp⟩
 ·cases hz
def catD:D→D→Option (List D)
 | .lst l,.lst m=>if l.length+m.length≤1000000 then some (l++m) else none
 | _,_=>none
theorem sorted_run {K:PySem.W.Frag}{F H:Hp}{a:Addr}{vs:List V}{ds z:List D}{Q:List V→Hp→Prop}(fh:Same F H)(dq:Dts K cl F vs ds)(hz:sortL ds=some z)(k:∀v H' F',Gr F H F' H'→Dts K cl F' v z→Q v H'):vs=vT (ds.map unS)∧(ds.map unS).length<64∧∀ms,ms.Perm (ds.map unS)→Srt ms→Q (vT ms) H:=by
 unfold sortL at hz
 split at hz
 ·rename_i h
  obtain rfl:=Option.some.inj hz
  obtain⟨e1,e2,e3⟩:=dq.texts h.1
  refine⟨e1,by rw[List.length_map];exact h.2,fun ms pm sm=>?_⟩
  obtain rfl:=My.sortF_eq sm pm
  exact k _ _ _ (Gr.refl fh) (dts_texts fun y hy=>e2 y (My.sortF_mem.mp hy))
 ·cases hz
theorem xl_sorted (hg:Gl X "sorted")(hm:X.mg "sorted" = none)(hv:bootBuiltins "sorted" = some (.builtin "sorted"))(h:XE X cl E e fa)(hs:starEach [e] X.env=(false,eval e X.env)::starEach [] X.env)(hpl:(backTo pos (starEach [] X.env)).any (·.1)=false:=by rfl):XL X cl E (.Call (.Name "sorted" p) [e] [] pos) (fL sortD (zj fa zB)):=by
 obtain⟨t,pt,rt⟩:=(zf h zq hs).ex
 have hc:CallR X (.builtin "sorted") (fun xs H Q=>(∃a ls,xs=[.ref a]∧SqL X.K H a (vT ls)∧ls.length<64∧∀p ms,H p=none→ms.Perm ls→Srt ms→Q (.ref p) (upd H p (.lst (vT ms))))∨(∃a ls,xs=[.ref a]∧SqT X.K H a (vT ls)∧ls.length<64∧∀p ms,H p=none→ms.Perm ls→Srt ms→Q (.ref p) (upd H p (.lst (vT ms))))):=fun pins s σ H xs us Q I r q=>by
  rcases q with q|q
  ·exact call_sortedS pins s σ H xs us Q I r q
  ·exact call_sortedT pins s σ H xs us Q I r q
 refine⟨_,pe_callB hc hg hm hv pt (by decide) (by decide) hs hpl,fun H0 F0 ρ σ H F Q R o=>rt H0 F0 ρ σ H F _ R (OutA.fstA o fun ds vs H1 F1 g q o1=>?_)⟩
 obtain⟨z,hz,k⟩:=o1.lf
 have fh:=(R.grow g).fh
 match ds,q,hz with
 | [.lst l],q,hz =>
  obtain⟨v,rfl,q1⟩:=q.one
  cases q1 with
  | lst sq dq =>
   obtain⟨e1,e2,e3⟩:=sorted_run (a:=0) fh dq hz k
   rw[e1] at sq
   exact .inl ⟨_,_,rfl,fh.seq sq,e2,fun p ms hp pm sm=>e3 ms pm sm p hp⟩
 | [.tup l],q,hz =>
  obtain⟨v,rfl,q1⟩:=q.one
  cases q1 with
  | tup sq dq =>
   obtain⟨e1,e2,e3⟩:=sorted_run (a:=0) fh dq hz k
   rw[e1] at sq
   exact .inr ⟨_,_,rfl,fh.seqT sq,e2,fun p ms hp pm sm=>e3 ms pm sm p hp⟩
theorem xl_list (hg:Gl X "list")(hm:X.mg "list" = none)(hv:bootBuiltins "list" = some (.type "list"))(h:XE X cl E e fa)(hs:starEach [e] X.env=(false,eval e X.env)::starEach [] X.env)(hpl:(backTo pos (starEach [] X.env)).any (·.1)=false:=by rfl):XL X cl E (.Call (.Name "list" p) [e] [] pos) (fL lstD (zj fa zB)):=by
 obtain⟨t,pt,rt⟩:=(zf h zq hs).ex
 refine⟨_,pe_callTy call_list_of hg hm hv pt (by decide) (by decide) hs hpl,fun H0 F0 ρ σ H F Q R o=>rt H0 F0 ρ σ H F _ R (OutA.fstA o fun ds vs H1 F1 g q o1=>?_)⟩
 obtain⟨z,hz,k⟩:=o1.lf
 have fh:=(R.grow g).fh
 match ds,q,hz with
 | [.lst l],q,hz =>
  obtain⟨v,rfl,q1⟩:=q.one
  obtain rfl:=Option.some.inj hz
  cases q1 with
  | lst sq dq=>exact⟨_,_,rfl,.inl (fh.seq sq),fun p hp=>k _ _ _ (Gr.refl fh) dq p hp⟩
 | [.tup l],q,hz =>
  obtain⟨v,rfl,q1⟩:=q.one
  obtain rfl:=Option.some.inj hz
  cases q1 with
  | tup sq dq=>exact⟨_,_,rfl,.inr (fh.seqT sq),fun p hp=>k _ _ _ (Gr.refl fh) dq p hp⟩
theorem xs_setO {i:Nat}{pos':Pos}(hN:X.N.Nodup)(hi:X.N[i]? = some x)(hx:Loc X.env.scope x)(he:XL X cl E e fs)(hs:swapsWith e (some (.Name x pos')) pos.line X.env=pure false:=by rfl)(hf:X.fn x=true∨X.env.scope.names.lookup x=some .local:=by first|exact .inl rfl|exact .inr rfl|assumption) :
  XS X cl E (.Assign [.Name x pos'] e pos) (sSetO i fs):=by
 obtain⟨t,pt,rt⟩:=he
 refine XS'.out ⟨_,ps_set hN hi hx pt hs hf,fun H0 F0 ρ σ H F Dn R o=>rt H0 F0 ρ σ H F _ R ?_⟩
 unfold sSetO at o
 cases e:fs ρ with
 | ok d=>rw[e] at o;exact fun vs H' F' gg q p hp=>o _ _ F' ((R.grow gg).setO hp q) gg.ff
 | ex n=>rw[e] at o;exact o
 | no=>rw[e] at o;exact o
theorem xs_append {i:Nat}{o:Expr}{apos cpos:Pos}(ho:PE X o (tVar i))(ha:XE X cl E e fa)(m:Mth X o e "append" apos cpos)(hs:swapsWith (.Call (.Attribute o "append" apos) [e] [] cpos) none pos.line X.env=pure false:=by rfl):XS X cl E (.Expr (.Call (.Attribute o "append" apos) [e] [] cpos) pos) (sApp i fa):=by
 obtain⟨u,pu,ru⟩:=ha.ex
 refine XS'.out ⟨_,ps_expr (pe_bm PySem.F.plainAttrs_list PySem.F.slot_list_append PySem.F.type_list_append mt_append ho (pa_cons pu pa_nil m.hs) m.base m.few m.line m.hs m.plain) hs,fun H0 F0 ρ σ H F Dn R oo=>?_⟩
 unfold sApp at oo
 cases hw:owL ρ i with
 | none=>rw[hw] at oo;exact oo.elim
 | some ds =>
  rw[hw] at oo
  have hd:=owL_some hw
  obtain⟨a,vs,h1,h2,h3,h4,h5⟩:=R.ow i ds hd
  refine⟨.ref a,h1,.inl ⟨rfl,vs,.inl (.inl h2)⟩,ru H0 F0 ρ σ H F _ R ?_⟩
  cases e:fa ρ with
  | ok d =>
   simp only[e] at oo
   split at oo
   ·rename_i hl
    intro v H1 F1 g q
    have R1:=R.grow g
    refine⟨a,vs,v,rfl,rfl,g.hh _ _ h2,?_,?_⟩
    ·rw[h5.length,sizeLine_eq];omega
    ·exact oo _ _ F1 (R1.put hd h1 ((h5.mono g.ff).append (.cons q .nil))) g.ff
   ·exact oo.elim
  | ex n=>simp only[e] at oo;exact oo
  | no=>simp only[e] at oo;exact oo.elim
def sPop (i j:Nat)(f:Rho→Rs D):Rho→Out:=fun ρ=>match owL ρ i with
 | some ds=>(match f ρ with | .ok (.int k)=>(if 0≤k∧k<1000000 then(match ds[k.toNat]? with|some d=>.nx ((ρ.set i (.ow (ds.eraseIdx k.toNat))).set j (.fz d))|none=>.no) else .no) | .ex n=>.ex n|_=>.no)
 | none=>.no
theorem Dts.erase {K:PySem.W.Frag}{F:Hp}:∀{vs:List V}{ds:List D} (k:Nat),Dts K cl F vs ds→Dts K cl F (vs.eraseIdx k) (ds.eraseIdx k)
 | _,_,_,.nil=>.nil
 | _,_,0,.cons _ r=>r
 | _,_,k+1,.cons q r=>.cons q (Dts.erase k r)
theorem xs_pop {i j:Nat}{o:Expr}{y:Str}{py apos cpos:Pos}(hN:X.N.Nodup)(hj:X.N[j]? = some y)(hy:Loc X.env.scope y)(ho:PE X o (tVar i))(ha:XE X cl E e fa)(m:Mth X o e "pop" apos cpos)(hs:swapsWith (.Call (.Attribute o "pop" apos) [e] [] cpos) (some (.Name y py)) pos.line X.env=pure false:=by rfl)(hf:X.fn y=true∨X.env.scope.names.lookup y=some .local:=by first|exact .inl rfl|exact .inr rfl|assumption) :
  XS X cl E (.Assign [.Name y py] (.Call (.Attribute o "pop" apos) [e] [] cpos) pos) (sPop i j fa):=by
 obtain⟨u,pu,ru⟩:=ha.ex
 refine XS'.out ⟨_,ps_set hN hj hy (pe_bm PySem.F.plainAttrs_list PySem.F.slot_list_pop PySem.F.type_list_pop mt_popAt ho (pa_cons pu pa_nil m.hs) m.base m.few m.line m.hs m.plain) hs hf,fun H0 F0 ρ σ H F Dn R oo=>?_⟩
 unfold sPop at oo
 cases hw:owL ρ i with
 | none=>rw[hw] at oo;exact oo.elim
 | some ds =>
  rw[hw] at oo
  have hd:=owL_some hw
  obtain⟨a,vs,h1,h2,h3,h4,h5⟩:=R.ow i ds hd
  refine⟨.ref a,h1,.inl ⟨rfl,vs,.inl (.inl h2)⟩,ru H0 F0 ρ σ H F _ R ?_⟩
  cases e:fa ρ with
  | ok d =>
   simp only[e] at oo
   intro v H1 F1 g q
   cases q with
   | int k =>
    dsimp only at oo
    split at oo
    ·rename_i hk
     cases hg:ds[k.toNat]? with
     | none=>simp only[hg] at oo;exact oo.elim
     | some d =>
      simp only[hg] at oo
      have R1:=R.grow g
      have h5':=h5.mono g.ff
      obtain⟨w,hw1,hw2⟩:=h5'.get' hg
      have hlt:k.toNat<vs.length:=(List.getElem?_eq_some_iff.mp hw1).1
      refine⟨a,vs,k,k.toNat,w,rfl,rfl,g.hh _ _ h2,by omega,by omega,?_,hw1,?_⟩
      ·exact seqIndex_of hk.1 (by omega)
      ·exact oo _ _ F1 ((R1.put hd h1 (h5'.erase _)).set hw2) g.ff
    ·exact oo.elim
   | _=>exact oo.elim
  | ex n=>simp only[e] at oo;exact oo
  | no=>simp only[e] at oo;exact oo.elim
end
end L2
namespace L2
open PySem PySem.Spec PyProof.Rows
section
variable {X:Cx}{cl:Nat→Addr}{E:XK}{e o a b c:Expr}{es:List Expr}{fa fb fc:Rho→Rs D}{fs:Rho→Rs (List D)}{x y:Str}{p pos:Pos}
theorem xs_set2 {i j:Nat}{px py tp:Pos}{k:Nat}(hg:PG X (.Tuple [.Name x px,.Name y py] k tp) (gTup X.K 2 (gCons (gName i) (gCons (gName j) gNil))))(he:XE X cl E e fa)(hs:swapsWithSole [.Tuple [.Name x px,.Name y py] k tp] e pos.line X.env=pure false:=by rfl)(hw:swappedStores [.Tuple [.Name x px,.Name y py] k tp] e X.env=pure none:=by rfl) :
  XS X cl E (.Assign [.Tuple [.Name x px,.Name y py] k tp] e pos) (sSet2 i j fa):=by
 obtain⟨t,pt,rt⟩:=he.ex
 refine XS'.out ⟨_,ps_asg pt hg hs hw,fun H0 F0 ρ σ H F Dn R o=>rt H0 F0 ρ σ H F _ R ?_⟩
 unfold sSet2 at o
 cases e:fa ρ with
 | ok d =>
  rw[e] at o
  intro v H' F' g q
  match d,q,o with
  | .tup [d1,d2],q,o =>
   cases q with
   | tup sq dq =>
    obtain⟨v1,v2,rfl,q1,q2⟩:=dq.two
    have R1:=R.grow g
    exact⟨_,_,rfl,R1.fh.seqT sq,rfl,v1,_,rfl,v2,_,rfl,rfl,o _ _ F' ((R1.set q1).set q2) g.ff⟩
  | .non,_,o=>exact o.elim
  | .bl _,_,o=>exact o.elim
  | .int _,_,o=>exact o.elim
  | .str _,_,o=>exact o.elim
  | .lst _,_,o=>exact o.elim
  | .dct _,_,o=>exact o.elim
  | .exc _,_,o=>exact o.elim
  | .tup [],_,o=>exact o.elim
  | .tup [_],_,o=>exact o.elim
  | .tup (_::_::_::_),_,o=>exact o.elim
 | ex n=>rw[e] at o;exact o
 | no=>rw[e] at o;exact o
def fCh (g g':D→D→Option D)(fa fb fc:Rho→Rs D):Rho→Rs D:=fun ρ=>(fa ρ).bind fun a=>(fb ρ).bind fun b=>(lf (g a b)).bind fun z=>(tru z).bind fun k=>if k=true then(fc ρ).bind fun c=>lf (g' b c) else .ok (.bl false)
theorem chain_run {H0 F0 H F:Hp}{ρ:Rho}{σ:St}{r r':R2}{g g':D→D→Option D}{ta tb tc:TE}{Q:VK}(hg:Op2 X.K cl r g)(hg':Op2 X.K cl r' g')(R:Rl X.K cl H0 F0 ρ σ H F)
  (ra:∀(H0 F0:Hp) (ρ:Rho) (σ:St) (H F:Hp) (Q:VK),Rl X.K cl H0 F0 ρ σ H F→OutE X.K cl E H0 F H (fa ρ) Q→ta σ H Q) (rb:∀(H0 F0:Hp) (ρ:Rho) (σ:St) (H F:Hp) (Q:VK),Rl X.K cl H0 F0 ρ σ H F→OutE X.K cl E H0 F H (fb ρ) Q→tb σ H Q) (rc:∀(H0 F0:Hp) (ρ:Rho) (σ:St) (H F:Hp) (Q:VK),Rl X.K cl H0 F0 ρ σ H F→OutE X.K cl E H0 F H (fc ρ) Q→tc σ H Q)
  (o:OutE X.K cl E H0 F H (fCh g g' fa fb fc ρ) Q):tChain r r' ta tb tc σ H Q:=by
 refine ra H0 F0 ρ σ H F _ R (OutE.fst o fun d v H1 F1 g1 q o1=>?_)
 refine rb H0 F0 ρ σ H1 F1 _ (R.grow g1) (OutE.fst o1 fun d2 v2 H2 F2 g2 q2 o2=>?_)
 have R2:=(R.grow g1).grow g2
 cases hz:g d d2 with
 | none=>rw[hz] at o2;exact o2.elim
 | some z =>
  rw[hz] at o2
  refine hg F2 H2 v v2 d d2 z _ R2.fh (q.mono g2.ff) q2 hz fun w H3 F3 g3 q3=>?_
  obtain⟨k,rfl,o3⟩:=OutE.tru (F1:=F3) (H1:=H3) q3 (OutE.grow (r:=(tru z).bind _) o2 g3)
  refine⟨k,rfl,?_⟩
  have R3:=R2.grow g3
  cases k with
  | false=>exact o3.okI R3.fh (.bl _)
  | true =>
   refine rc H0 F0 ρ σ H3 F3 _ R3 (OutE.fst o3 fun d4 v4 H4 F4 g4 q4 o4=>?_)
   obtain⟨z2,hz2,k2⟩:=o4.lf
   exact hg' F4 H4 v2 v4 d2 d4 z2 _ (R3.grow g4).fh (q2.mono (g3.trans g4).ff) q4 hz2 k2
theorem xe_chain {op op':CmpOp}{r r':R2}{g g':D→D→Option D}(ho:OpR X (compareOp op) r)(ho':OpR X (compareOp op') r')(hg:Op2 X.K cl r g)(hg':Op2 X.K cl r' g')(ha:XE X cl E a fa)(hb:XE X cl E b fb)(hc:XE X cl E c fc)(hm:lastMarks [op,op'] [b,c]=false:=by with_unfolding_all rfl):XE X cl E (.Compare a [op,op'] [b,c] pos) (fCh g g' fa fb fc):=by
 obtain⟨t,pt,rt⟩:=ha.ex
 obtain⟨u,pu,ru⟩:=hb.ex
 obtain⟨w,pw,rw'⟩:=hc.ex
 exact XE'.out ⟨_,pe_chain ho ho' pt pu pw hm,fun H0 F0 ρ σ H F Q R o=>chain_run hg hg' R rt ru rw' o⟩
theorem xt_chain {op op':CmpOp}{r r':R2}{g g':D→D→Option D}(ho:OpR X (compareOp op) r)(ho':OpR X (compareOp op') r')(hg:Op2 X.K cl r g)(hg':Op2 X.K cl r' g')(ha:XE X cl E a fa)(hb:XE X cl E b fb)(hc:XE X cl E c fc)(hm:lastMarks [op,op'] [b,c]=false:=by with_unfolding_all rfl):XT X cl E (.Compare a [op,op'] [b,c] pos) (bT (fCh g g' fa fb fc)):=by
 obtain⟨t,pt,rt⟩:=ha.ex
 obtain⟨u,pu,ru⟩:=hb.ex
 obtain⟨w,pw,rw'⟩:=hc.ex
 exact XT'.out ⟨_,pt_chain ho ho' pt pu pw hm,fun H0 F0 ρ σ H F Q R o=>chain_run hg hg' R rt ru rw' (OutB.bT R o)⟩
end
end L2
namespace L2
open PySem PySem.Spec PyProof.Rows
def fL1 (g:D→Option (List D))(fa:Rho→Rs D):Rho→Rs (List D):=fun ρ=>(fa ρ).bind fun a=>lf' (g a)
section
variable {X:Cx}{cl:Nat→Addr}{E:XK}{e o a b c:Expr}{es:List Expr}{fa fb fc:Rho→Rs D}{fs:Rho→Rs (List D)}{x y:Str}{p pos:Pos}
def sNewD (i:Nat):Rho→Out:=fun ρ=>.nx (ρ.set i (.od []))
def odL (ρ:Rho)(i:Nat):Option (List (List Nat×D)):=match ρ[i]? with|some (.od ds)=>some ds|_=>none
def putD (kvs:List (List Nat×D))(k:List Nat)(v:D):List (List Nat×D):=if (kvs.any fun kv=>decide (kv.1=k))=true then kvs.map (fun kv=>if kv.1=k then(kv.1,v) else kv) else kvs++[(k,v)]
theorem Dks.any {K:PySem.W.Frag}{F:Hp}{k:List Nat}:∀{vs:List (Key×V)}{ds:List (List Nat×D)},Dks K cl F vs ds→(vs.any fun kv=>decide (kv.1=Sum.inr (T k)))=(ds.any fun kv=>decide (kv.1=k))
 | _,_,.nil=>rfl
 | _,_,.cons (l:=l) ok q r=>by
  rw[List.any_cons,List.any_cons,Dks.any r]
  congr 1
  by_cases h:l=k
  ·subst h;simp
  ·rw[decide_eq_false h,decide_eq_false]
   intro z;injection z with z;exact h (T_inj z)
theorem Dks.mapPut {K:PySem.W.Frag}{F:Hp}{k:List Nat}{v:V}{d:D}(hv:Dt K cl F v d):∀{vs:List (Key×V)}{ds:List (List Nat×D)},Dks K cl F vs ds→Dks K cl F (vs.map fun kv=>if kv.1=Sum.inr (T k) then(kv.1,v) else kv) (ds.map fun kv=>if kv.1=k then(kv.1,d) else kv)
 | _,_,.nil=>.nil
 | _,_,.cons (l:=l) ok q r=>by
  rw[List.map_cons,List.map_cons]
  by_cases h:l=k
  ·subst h;rw[if_pos rfl,if_pos rfl];exact .cons ok hv (Dks.mapPut hv r)
  ·have h':¬((Sum.inr (T l):Key)=Sum.inr (T k)):=fun z=>by injection z with z;exact h (T_inj z)
   rw[if_neg h,if_neg h'];exact .cons ok q (Dks.mapPut hv r)
theorem Dks.snoc {K:PySem.W.Frag}{F:Hp}{k:List Nat}{v:V}{d:D}(hk:TxtOk (T k))(hv:Dt K cl F v d):∀{vs:List (Key×V)}{ds:List (List Nat×D)},Dks K cl F vs ds→Dks K cl F (vs++[(Sum.inr (T k),v)]) (ds++[(k,d)])
 | _,_,.nil=>.cons hk hv .nil
 | _,_,.cons ok q r=>.cons ok q (Dks.snoc hk hv r)
theorem Dks.put {K:PySem.W.Frag}{F:Hp}{k:List Nat}{v:V}{d:D}{vs:List (Key×V)}{ds:List (List Nat×D)}(h:Dks K cl F vs ds)(hk:TxtOk (T k))(hv:Dt K cl F v d):Dks K cl F (putK vs (Sum.inr (T k)) v) (putD ds k d):=by
 unfold putK putD
 rw[h.any]
 split
 ·exact h.mapPut hv
 ·exact h.snoc hk hv
theorem Dks.length {K:PySem.W.Frag}{F:Hp}:∀{vs:List (Key×V)}{ds:List (List Nat×D)},Dks K cl F vs ds→vs.length=ds.length
 | _,_,.nil=>rfl
 | _,_,.cons _ _ r=>by simp[r.length]
theorem Dks.keys {K:PySem.W.Frag}{F:Hp}:∀{vs:List (Key×V)}{ds:List (List Nat×D)},Dks K cl F vs ds→vs.map (·.1)=(ds.map (·.1)).map fun l=>(Sum.inr (T l):Key)
 | _,_,.nil=>rfl
 | _,_,.cons _ _ r=>by simp[r.keys]
def sPut (i:Nat)(fk fv:Rho→Rs D):Rho→Out:=fun ρ=>match odL ρ i with
 | some ds=>(match fv ρ with
  | .ok v=>(match fk ρ with | .ok (.str k)=>if ds.length<1000000 then .nx (ρ.set i (.od (putD ds k v))) else .no | .ex n=>.ex n|_=>.no)
  | .ex n=>.ex n
  | .no=>.no)
 | none=>.no
def fSD (i:Nat):Rho→Rs (List D):=fun ρ=>match odL ρ i with
 | some ds=>if ds.length<64 then .ok ((My.sortF (ds.map (·.1))).map .str) else .no
 | none=>.no
end
end L2
namespace L2
open PySem PySem.Spec PyProof.Rows
def sRs (n:Nat)(fs:Rho→Rs (List D)):Rho→Out:=fun ρ=>match fs ρ with | .ok ds=>if ds.length≤3 then .ex n else .no | .ex m=>.ex m | .no=>.no
section
variable {P:Program}{w:World}{K:PySem.W.Frag}{mg:Str→Option Value}{base:Heap}{N:List Str}{qual:Str}{scope:Scope}{f:Addr}{cd:Value}{A:Around}{outer:List Env}{s₁:Shared}{H₁:Hp}{E:XK}{cl:Nat→Addr}
theorem xs_raise {x:Str}{e₀:Expr}{np cpos pos:Pos}{fs:Rho→Rs (List D)}{n:Nat}(O:Own K mg x)(hO:O.C=cl n)(hg:Gl (cxOf (CX1 P w) P w K mg base N qual scope f cd A outer s₁ H₁ E) x)(ha:XA (cxOf (CX1 P w) P w K mg base N qual scope f cd A outer s₁ H₁ E) cl E [e₀] fs)
  (he:starEach [e₀] (cxOf (CX1 P w) P w K mg base N qual scope f cd A outer s₁ H₁ E).env=(false,eval e₀ (cxOf (CX1 P w) P w K mg base N qual scope f cd A outer s₁ H₁ E).env)::starEach [] (cxOf (CX1 P w) P w K mg base N qual scope f cd A outer s₁ H₁ E).env) (hd:(x == ("__debug__" : Str))=false:=by decide) :
  XS (cxOf (CX1 P w) P w K mg base N qual scope f cd A outer s₁ H₁ E) cl E (.Raise (some (.Call (.Name x np) [e₀] [] cpos)) none pos) (sRs n fs):=by
 obtain⟨t,pt,rt⟩:=ha.ex
 refine XS'.out ⟨_,ps_raise O hg pt he rfl hd,fun H0 F0 ρ σ H F Dn R o=>rt H0 F0 ρ σ H F _ R ?_⟩
 unfold sRs at o
 cases e:fs ρ with
 | ok ds =>
  rw[e] at o
  intro vs H' F' g q
  dsimp only at o
  split at o
  ·rename_i hl
   refine⟨q.length▸hl,?_⟩
   rw[hO]
   exact o H' (R.gr.hh.trans g.hh)
  ·exact o.elim
 | ex n=>rw[e] at o;exact o
 | no=>rw[e] at o;exact o
end
def ye (m:Nat)(g:Rho→Out)(ds:List D):Rs D:=match g (ds.map .fz++List.replicate (m - ds.length) .no) with | .nx _=>.ok .non | .rt d=>.ok d | .ex n=>.ex n|_=>.no
theorem Rl.start {K:PySem.W.Frag}{cl:Nat→Addr}{H F:Hp}{N:List Str}{vs:List V}{ds:List D}(s:Same F H)(q:Dts K cl F vs ds):Rl K cl H F (ds.map .fz++List.replicate (N.length - ds.length) .no) (L2.start N vs) H F:=by
 have shape:∀(i:Nat) (s:Sl),(ds.map Sl.fz++List.replicate (N.length - ds.length) Sl.no)[i]? = some s→(∃d,s=.fz d∧ds[i]? = some d)∨s=.no:=fun i s e=>by
  rcases Nat.lt_or_ge i ds.length with h|h
  ·rw[List.getElem?_append_left (by simpa using h),List.getElem?_map,List.getElem?_eq_getElem h] at e
   exact .inl ⟨ds[i],(Option.some.inj e).symm,List.getElem?_eq_getElem h⟩
  ·rw[List.getElem?_append_right (by simpa using h),List.getElem?_replicate] at e
   split at e
   ·exact .inr (Option.some.inj e).symm
   ·cases e
 refine⟨Gr.refl s,by unfold L2.start;simp[q.length],fun i d e=>?_,fun i d e o=>?_,fun i j s t a z1 z2 o1 o2 e1 e2=>?_⟩
 ·rcases shape i _ e with⟨d',e1,e2⟩|e1
  ·injection e1 with e1;subst e1
   obtain⟨v,h1,h2⟩:=q.get' e2
   refine⟨v,?_,h2⟩
   unfold L2.start
   have hi:=(List.getElem?_eq_some_iff.mp h1).1
   rw[List.getElem?_append_left (by simpa using hi),List.getElem?_map,h1];rfl
  ·cases e1
 ·rcases shape i _ e with⟨d',rfl,_⟩|rfl <;>cases o
 ·rcases shape i _ z1 with⟨d',rfl,_⟩|rfl <;>cases o1
theorem fnD {P:Program}{w:World}{K:PySem.W.Frag}{mg:Str→Option Value}{base:Heap}{cl:Nat→Addr}{x qual:Str}{st:Stmt}{f:Addr}{fd:FuncData}{N ps:List Str}{k m n:Nat}{g:Rho→Out}(Fu:Fun K x qual st f fd)(S:FnScope N ps (zm st))(hm:N.length=m)(hn:ps.length=n)
  (hb:∀(cdv:Value) (A:Around) (outer:List Env) (s:Shared) (H:Hp) (E:XK),Room k (A.deeper (envOfC qual (zm st) s.heap.objs.size f cdv))→XSs (cxOf (CX1 P w) P w K mg base N qual (zm st) f cdv A outer s H E) cl E (defBody st) g):FnOk P w K mg base (CX1 P w) (k+1) f fd ps (spD K cl (ye m g) n):=by
 subst hm hn
 refine Fu.okX S (fun vs H Q E h=>h.choose_spec.choose_spec.2.2.1) fun cdv A outer s H vs Q E hr h=>?_
 obtain⟨F,ds,sm,dq,hl,o⟩:=h
 refine⟨_,hb cdv A outer s H E hr,H,F,_,F,Rl.start (N:=N) sm dq,?_⟩
 unfold ye at o
 cases e:g (ds.map .fz++List.replicate (N.length - ds.length) .no) with
 | nx ρ=>rw[e] at o;exact fun σ H' F' R _=>o .non H' F' R.gr .non
 | rt d=>rw[e] at o;exact fun v H' F' gg q=>o v H' F' gg q
 | bk ρ=>rw[e] at o;exact o.elim
 | ct ρ=>rw[e] at o;exact o.elim
 | ex n=>rw[e] at o;exact o
 | no=>rw[e] at o;exact o
def forZ (i j:Nat)(g:Rho→Out):List D→List D→Rho→Out
 | d::ds,e::es,ρ=>match g ((ρ.set i (.fz d)).set j (.fz e)) with | .nx ρ'=>forZ i j g ds es ρ' | .ct ρ'=>forZ i j g ds es ρ' | .bk ρ'=>.nx ρ'|o=>o
 | _,_,ρ=>.nx ρ
def sForZ (i j:Nat)(fa fb:Rho→Rs D)(g:Rho→Out):Rho→Out:=fun ρ=>match (fa ρ),(fb ρ) with
 | .ok (.tup ds),.ok (.tup es)=>forZ i j g ds es ρ
 | _,_=>.no
section
variable {X:Cx}{cl:Nat→Addr}{E:XK}{a b:Expr}{fa fb:Rho→Rs D}{g:Rho→Out}{p pos zpos tp px py:Pos}{x y:Str}{k:Nat}{body:List Stmt}
theorem sForZ_inv {K:PySem.W.Frag}{H0 F0 F:Hp}{i j:Nat}{ρ:Rho}{Dn:Ends}(o:OutS K cl E H0 F0 F (sForZ i j fa fb g ρ) Dn):∃ds es,fa ρ=.ok (.tup ds)∧fb ρ=.ok (.tup es)∧OutS K cl E H0 F0 F (forZ i j g ds es ρ) Dn:=by
 unfold sForZ at o
 split at o
 ·rename_i ds es e1 e2;exact⟨ds,es,e1,e2,o⟩
 ·exact o.elim
theorem xs_forZ {i j:Nat}(hp:PassesOwn (model X.prog X.w) X.A X.env X.xe)(hc:X.calm=true)(hz:Gl X "zip")(hm:X.mg "zip" = none)(ha:XE X cl E a fa)(hb:XE X cl E b fb)(hg:PG X (.Tuple [.Name x px,.Name y py] k tp) (gTup X.K 2 (gCons (gName i) (gCons (gName j) gNil))))(hbd:XSs X cl E body g)(hs:starEach [a,b] X.env=[(false,eval a X.env),(false,eval b X.env)])(hs2:starEach [b] X.env=[(false,eval b X.env)]):XS X cl E (.For (.Tuple [.Name x px,.Name y py] k tp) (.Call (.Name "zip" p) [a,b] [] zpos) body [] pos) (sForZ i j fa fb g):=by
 obtain⟨t,pt,rt⟩:=ha.ex
 obtain⟨u,pu,ru⟩:=hb.ex
 obtain⟨w,pw,rw'⟩:=hbd.ex
 refine XS'.out ⟨_,ps_for hp hc (pi_ziptt hz hm pt pu hs hs2) hg pw,fun H0 F0 ρ σ H F Dn R o=>rt H0 F0 ρ σ H F _ R ?_⟩
 obtain⟨ds,es,e1,e2,o'⟩:=sForZ_inv o
 rw[e1]
 intro v1 H1 F1 g1 q1
 have R1:=R.grow g1
 refine ru H0 F0 ρ σ H1 F1 _ R1 ?_
 rw[e2]
 intro v2 H2 F2 g2 q2
 have R2:=R1.grow g2
 cases q1 with
 | tup sq1 dq1 =>
  cases q2 with
  | tup sq2 dq2 =>
   have sq1':=g2.ff.seqT sq1
   have dq1':=dq1.mono g2.ff
   refine⟨_,_,_,_,rfl,R2.fh.seqT sq1',R2.fh.seqT sq2,?_⟩
   refine for_zip (fun m σ' H'=>∃ρ' F',Rl X.K cl H0 F0 ρ' σ' H' F'∧Same F2 F'∧OutS X.K cl E H0 F0 F' (forZ i j g (ds.drop m) (es.drop m) ρ') Dn) ⟨ρ,F2,R2,Same.refl _,o'.grow (g1.ff.trans g2.ff)⟩ (fun m σ' H' ⟨ρ',F',R',s',_⟩=>⟨(s'.trans R'.fh).seqT sq1',(s'.trans R'.fh).seqT sq2⟩) ?_ ?_
   ·rintro m z1 z2 pp σ' H' hx hy hpp ⟨ρ',F',R',s',o3⟩
    obtain⟨c1,hd1,qd1⟩:=dq1'.get hx
    obtain⟨c2,hd2,qd2⟩:=dq2.get hy
    have r1:ds.drop m=c1::ds.drop (m+1):=by
     obtain⟨hk,e3⟩:=List.getElem?_eq_some_iff.mp hd1
     rw[List.drop_eq_getElem_cons hk,e3]
    have r2:es.drop m=c2::es.drop (m+1):=by
     obtain⟨hk,e3⟩:=List.getElem?_eq_some_iff.mp hd2
     rw[List.drop_eq_getElem_cons hk,e3]
    rw[r1,r2] at o3
    unfold forZ at o3
    have R4:=R'.grow (Gr.newO (o:=.tup [z1,z2]) R'.fh hpp)
    refine⟨pp,[z1,z2],rfl,.inl (.inl zR),rfl,z1,_,rfl,z2,_,rfl,rfl,rw' H0 F0 _ _ _ F' _ ((R4.set (qd1.mono s')).set (qd2.mono s')) ?_⟩
    cases e4:g ((ρ'.set i (.fz c1)).set j (.fz c2)) with
    | nx ρ2=>simp only[e4] at o3;exact fun σ2 H2 F2 R2 s2=>⟨ρ2,F2,R2,s'.trans s2,o3.grow s2⟩
    | ct ρ2=>simp only[e4] at o3;exact fun σ2 H2 F2 R2 s2=>⟨ρ2,F2,R2,s'.trans s2,o3.grow s2⟩
    | bk ρ2=>simp only[e4] at o3;exact o3
    | rt d=>simp only[e4] at o3;exact o3
    | ex n=>simp only[e4] at o3;exact o3
    | no=>simp only[e4] at o3;exact o3
   ·rintro σ' H' ⟨ρ',F',R',s',o3⟩
    rw[dq1'.length,dq2.length] at o3
    have e5:forZ i j g (ds.drop (min ds.length es.length)) (es.drop (min ds.length es.length)) ρ'=.nx ρ':=by
     rcases Nat.le_total ds.length es.length with h|h
     ·rw[Nat.min_eq_left h,List.drop_of_length_le (Nat.le_refl ds.length)];unfold forZ;rfl
     ·rw[Nat.min_eq_right h,List.drop_of_length_le (Nat.le_refl es.length)]
      cases ds.drop es.length <;>(unfold forZ;rfl)
    rw[e5] at o3
    exact o3 σ' H' F' R' (Same.refl _)
def compZ (ft:Rho→Rs Bool)(fe:Rho→Rs D)(ρ0:Rho):List D→List D→Rs (List D)
 | d::ds,c::cs=>match ft ((ρ0.set 0 (.fz d)).set 1 (.fz c)) with
  | .ok true=>(match fe ((ρ0.set 0 (.fz d)).set 1 (.fz c)) with | .ok e=>(compZ ft fe ρ0 ds cs).bind fun es=>.ok (e::es)|_=>.no)
  | .ok false=>compZ ft fe ρ0 ds cs
  | _=>.no
 | _,_=>.ok []
def fCz (fa fb:Rho→Rs D)(ft:Rho→Rs Bool)(fe:Rho→Rs D)(caps:List Nat):Rho→Rs (List D):=fun ρ=>match fa ρ,fb ρ with
 | .ok (.tup ds),.ok (.tup cs)=>(match compZ ft fe (capR 2 caps ρ) ds cs with | .ok es=>if ds.length≤1000000 then .ok es else .no|_=>.no)
 | _,_=>.no
variable {scope:Scope}{caps:List Nat}{elt:Expr}{ifs:List Expr}{ft:Rho→Rs Bool}{fe:Rho→Rs D}
structure CompZ (X:Cx)(cl:Nat→Addr)(scope:Scope)(x y:Str)(caps:List Nat)(tg:Expr)(ifs:List Expr)(elt:Expr)(ft:Rho→Rs Bool)(fe:Rho→Rs D):Prop where
 tgt:∀pins C ex s H,PG (cxC X pins scope [x,y] caps C ex s H) tg (gTup X.K 2 (gCons (gName 0) (gCons (gName 1) gNil)))
 tst:∀pins C ex s H,XTs (cxC X pins scope [x,y] caps C ex s H) cl E0 ifs ft
 elm:∀pins C ex s H,XE (cxC X pins scope [x,y] caps C ex s H) cl E0 elt fe
theorem fCz_inv {K:PySem.W.Frag}{H0 F H:Hp}{ρ:Rho}{Q:List V→Hp→Prop}(o:OutA K cl E H0 F H (fCz fa fb ft fe caps ρ) Q):∃ds cs es,fa ρ=.ok (.tup ds)∧fb ρ=.ok (.tup cs)∧compZ ft fe (capR 2 caps ρ) ds cs=.ok es∧ds.length≤1000000∧OutA K cl E H0 F H (.ok es) Q:=by
 unfold fCz at o
 split at o
 ·rename_i ds cs e1 e2
  split at o
  ·rename_i es e3
   split at o
   ·rename_i hl;exact⟨ds,cs,es,e1,e2,e3,hl,o⟩
   ·exact o.elim
  ·exact o.elim
 ·exact o.elim
theorem xl_compZ (ok:CompOk X scope caps)(hc:X.calm=true)(hz:Gl X "zip")(hm:X.mg "zip" = none)(ha:XE X cl E a fa)(hb:XE X cl E b fb)(CI:CompZ X cl scope x y caps (.Tuple [.Name x px,.Name y py] k tp) ifs elt ft fe)(hs:starEach [a,b] X.env=[(false,eval a X.env),(false,eval b X.env)])(hs2:starEach [b] X.env=[(false,eval b X.env)]) :
  XL X cl E (.ListComp elt [⟨.Tuple [.Name x px,.Name y py] k tp,.Call (.Name "zip" p) [a,b] [] zpos,ifs,0⟩] scope pos) (fCz fa fb ft fe caps):=by
 obtain⟨t,pt,rt⟩:=ha.ex
 obtain⟨u,pu,ru⟩:=hb.ex
 refine⟨_,pe_comp ok hc (pi_ziptt hz hm pt pu hs hs2) (g:=gTup X.K 2 (gCons (gName 0) (gCons (gName 1) gNil))) (tt:=tDB X.K cl E0 ft) (te:=tDE X.K cl E0 fe) ⟨CI.tgt,CI.tst,CI.elm⟩,fun H0 F0 ρ σ H F Q R o=>rt H0 F0 ρ σ H F _ R ?_⟩
 obtain⟨ds,cs,es,e1,e2,hcz,hl,o⟩:=fCz_inv o
 rw[e1]
 intro v1 H1 F1 g1 q1
 have R1:=R.grow g1
 refine ru H0 F0 ρ σ H1 F1 _ R1 ?_
 rw[e2]
 intro v2 H2 F2 g2 q2
 have R2:=R1.grow g2
 cases q1 with
 | tup sq1 dq1 =>
  cases q2 with
  | tup sq2 dq2 =>
   have sq1':=g2.ff.seqT sq1
   have dq1':=dq1.mono g2.ff
   refine⟨_,_,_,_,rfl,R2.fh.seqT sq1',R2.fh.seqT sq2,?_⟩
   refine turns_zip (sz6 (dq1'.length▸hl)) (fun m ys H'=>∃F' es1 es2,Gr F2 H2 F' H'∧Dts X.K cl F' ys es1∧ys.length≤m∧es=es1++es2∧compZ ft fe (capR 2 caps ρ) (ds.drop m) (cs.drop m)=.ok es2) ⟨F2,[],es,Gr.refl R2.fh,.nil,Nat.le_refl _,rfl,hcz⟩ (fun m ys H' ⟨F',_,_,gg,_,h1,_⟩=>⟨(gg.ff.trans gg.fh).seqT sq1',(gg.ff.trans gg.fh).seqT sq2,h1⟩) ?_ ?_
   ·rintro m z1 z2 pp ys H' hx hy hpp ⟨F',es1,es2,gg,qs,hly,rfl,hc'⟩
    obtain⟨c1,hd1,qd1⟩:=dq1'.get hx
    obtain⟨c2,hd2,qd2⟩:=dq2.get hy
    have r1:ds.drop m=c1::ds.drop (m+1):=by
     obtain⟨hk,e3⟩:=List.getElem?_eq_some_iff.mp hd1
     rw[List.drop_eq_getElem_cons hk,e3]
    have r2:cs.drop m=c2::cs.drop (m+1):=by
     obtain⟨hk,e3⟩:=List.getElem?_eq_some_iff.mp hd2
     rw[List.drop_eq_getElem_cons hk,e3]
    rw[r1,r2] at hc'
    unfold compZ at hc'
    have gz:Gr F' H' F' (upd H' pp (.tup [z1,z2])):=Gr.newO (gg.fh) hpp
    have Rz:=((R2.grow gg).grow gz).cap [x,y] caps
    have Rw:Rl X.K cl (upd H' pp (.tup [z1,z2])) F' (((capR 2 caps ρ).set 0 (.fz c1)).set 1 (.fz c2)) (((capS [x,y] caps σ).set 0 (some z1)).set 1 (some z2)) (upd H' pp (.tup [z1,z2])) F':=(Rz.set (qd1.mono gg.ff)).set (qd2.mono gg.ff)
    refine⟨pp,[z1,z2],rfl,.inl (.inl zR),rfl,z1,_,rfl,z2,_,rfl,rfl,?_,_,F',_,F',Rw,?_⟩
    ·exact(Kps.set rfl).trans (Kps.set rfl)
    ·cases e3:ft (((capR 2 caps ρ).set 0 (.fz c1)).set 1 (.fz c2)) with
     | ok bb =>
      rw[e3] at hc'
      intro H3 F3 g3
      cases bb with
      | true =>
       rw[if_pos rfl]
       cases e4:fe (((capR 2 caps ρ).set 0 (.fz c1)).set 1 (.fz c2)) with
       | ok ee =>
        simp only[e4] at hc'
        refine⟨_,F',_,F3,Rw.grow g3,?_⟩
        rw[e4]
        intro yy H4 F4 g4 qy
        cases e5:compZ ft fe (capR 2 caps ρ) (ds.drop (m+1)) (cs.drop (m+1)) with
        | ok es3 =>
         rw[e5] at hc'
         injection hc' with hc'
         exact⟨F4,es1++[ee],es3,gg.trans (gz.trans (g3.trans g4)),(qs.mono (g3.ff.trans g4.ff)).append (.cons qy .nil),by simp;exact hly,by rw[← hc',List.append_assoc];rfl,rfl⟩
        | ex n=>rw[e5] at hc';cases hc'
        | no=>rw[e5] at hc';cases hc'
       | ex n=>simp only[e4] at hc';cases hc'
       | no=>simp only[e4] at hc';cases hc'
      | false =>
       rw[if_neg Bool.false_ne_true]
       exact⟨F3,es1,es2,gg.trans (gz.trans g3),qs.mono g3.ff,Nat.le_succ_of_le hly,rfl,hc'⟩
     | ex n=>rw[e3] at hc';cases hc'
     | no=>rw[e3] at hc';cases hc'
   ·rintro ys H' ⟨F',es1,es2,gg,qs,hly,rfl,hc'⟩
    rw[dq1'.length,dq2.length] at hc'
    have e5:compZ ft fe (capR 2 caps ρ) (ds.drop (min ds.length cs.length)) (cs.drop (min ds.length cs.length))=.ok []:=by
     rcases Nat.le_total ds.length cs.length with h|h
     ·rw[Nat.min_eq_left h,List.drop_of_length_le (Nat.le_refl ds.length)];unfold compZ;rfl
     ·rw[Nat.min_eq_right h,List.drop_of_length_le (Nat.le_refl cs.length)]
      cases ds.drop cs.length <;>(unfold compZ;rfl)
    rw[e5] at hc'
    injection hc' with hc'
    rw[← hc',List.append_nil] at o
    exact o ys H' F' (g1.trans (g2.trans gg)) qs
end
end L2
namespace L2
open PySem PySem.Spec PyProof.Rows
def fFl (i:Nat)(f:Rho→Rs D):Rho→Rs D:=fun ρ=>match owL ρ i with
 | some ds=>(match f (ρ.set i (.fz (.lst ds))) with | .ok d=>if d.fl=true then .ok d else .no | .ex n=>.ex n | .no=>.no)
 | none=>.no
section
variable {X:Cx}{cl:Nat→Addr}{E:XK}{e a b:Expr}{fa fb:Rho→Rs D}{pos:Pos}{st:Stmt}
theorem Dt.flatAny {K:PySem.W.Frag}{F F':Hp}{v:V}{d:D}(q:Dt K cl F v d)(h:d.fl=true):Dt K cl F' v d:=by
 cases q with
 | non=>exact .non
 | bl b=>exact .bl b
 | int i=>exact .int i
 | str l ok=>exact .str l ok
 | _=>cases h
theorem xe_fl {i:Nat}(h:XE X cl E e fa):XE X cl E e (fFl i fa):=by
 obtain⟨t,pt,rt⟩:=h.ex
 refine XE'.out ⟨_,pt,fun H0 F0 ρ σ H F Q R o=>?_⟩
 unfold fFl at o
 cases hw:owL ρ i with
 | none=>rw[hw] at o;exact o.elim
 | some ds =>
  rw[hw] at o
  obtain⟨F1,s1,R1⟩:=R.ice (owL_some hw)
  refine rt H0 F0 _ σ H F1 _ R1 ?_
  cases e:fa (ρ.set i (.fz (.lst ds))) with
  | ok d =>
   simp only[e] at o
   split at o
   ·rename_i hf
    exact fun v H' F' g q=>o v H' F ⟨Same.refl _,g.hh,R.fh.trans g.hh,fun _ _ _ _ z=>z⟩ (q.flatAny hf)
   ·exact o.elim
  | ex n=>simp only[e] at o;exact o
  | no=>simp only[e] at o;exact o.elim
variable {scope:Scope}{x:Str}{caps:List Nat}{elt tg iter:Expr}{ifs:List Expr}{fi:Rho→Rs (List D)}{ft:Rho→Rs Bool}{fe:Rho→Rs D}
def rCatL (K:PySem.W.Frag):R2:=fun x y H Q=>∃l b xs zs,x=.ref l∧y=.ref b∧SqL K H l xs∧SqL K H b zs∧xs.length+zs.length≤sizeLine∧∀p,H p=none→Q (.ref p) (upd H p (.lst (xs++zs)))
theorem op_catL:OpR X (binaryOp .Add) (rCatL X.K):=by
 intro pins s σ H x y v u Q I rx ry h
 obtain⟨l,b,xs,zs,rfl,rfl,hH,hB,hz,q⟩:=h
 cases rx
 cases ry
 obtain⟨its,r,⟨o,n,e,hc,hdd,hd⟩,z⟩:=I.list hH
 obtain⟨its2,r2,⟨o2,n2,e2,hc2,hdd2,hd2⟩,z2⟩:=I.list hB
 obtain⟨cls,dd,data,sl⟩:=o
 obtain⟨cls2,dd2,data2,sl2⟩:=o2
 simp only at hc hd hc2 hd2
 subst hc hd hc2 hd2
 refine concat_meets ⟨_,e,rfl⟩ ⟨_,e2,rfl⟩ noFill_list_add seq_list_add PySem.F.slot_list_add PySem.F.entry_list_add (PySem.F.args_list_add_2 _ _) (list_addW l b its.toArray its2.toArray n n2 dd dd2 sl sl2 (by rw[List.size_toArray,List.size_toArray,← r.length,← r2.length];exact hz)) ⟨e,e2,?_⟩
 have ea:its.toArray++its2.toArray=(its++its2).toArray:=by simp
 rw[ea]
 exact⟨.ref _,_,I.lnew (t':=s.toks) (r.append r2) (by rw[List.length_append];omega),rfl,q _ I.fresh⟩
theorem catD_inv {a b:D}{z:List D}(e:catD a b=some z):∃l m,a=.lst l∧b=.lst m∧l.length+m.length≤1000000∧z=l++m:=by
 cases a with
 | lst l =>
  cases b with
  | lst m =>
   by_cases h:l.length+m.length≤1000000
   ·exact⟨l,m,rfl,rfl,h,(Option.some.inj ((if_pos h).symm.trans e)).symm⟩
   ·cases (if_neg h).symm.trans e
  | _=>cases e
 | _=>cases e
theorem xl_cat (ha:XE X cl E a fa)(hb:XE X cl E b fb):XL X cl E (.BinOp a .Add b pos) (fL2 catD fa fb):=by
 obtain⟨t,pt,rt⟩:=ha.ex
 obtain⟨u,pu,ru⟩:=hb.ex
 refine⟨_,pe_op op_catL pt pu,fun H0 F0 ρ σ H F Q R o=>rt H0 F0 ρ σ H F _ R (OutE.fstA o fun d v H1 F1 g q o1=>?_)⟩
 refine ru H0 F0 ρ σ H1 F1 _ (R.grow g) (OutE.fstA o1 fun d2 v2 H2 F2 g2 q2 o2=>?_)
 obtain⟨z,hz,k⟩:=o2.lf
 have fh:=(R.grow (g.trans g2)).fh
 have q':=q.mono g2.ff
 obtain⟨l,m,rfl,rfl,hl,rfl⟩:=catD_inv hz
 cases q' with
 | lst sq dq =>
  cases q2 with
  | lst sq2 dq2=>exact⟨_,_,_,_,rfl,rfl,fh.seq sq,fh.seq sq2,sz6 (by rw[dq.length,dq2.length];exact hl),fun p hp=>k _ _ _ (Gr.refl fh) (dq.append dq2) p hp⟩
end
end L2
namespace L2
open PySem PySem.Spec PyProof.Rows
def sp_law (K:PySem.W.Frag):Sp:=fun vs H Q _=>∃(a:Addr) (ns:List Int),vs=[.ref a]∧SqL K H a (ns.map V.int)∧ns.length≤63∧∀H',Q (.bl true) H'
theorem law_sp {K:PySem.W.Frag}{cl:Nat→Addr}{fn:List D→Rs D}(h:∀ns:List Int,ns.length≤63→fn [.lst (ns.map .int)]=.ok (.bl true)){vs:List V}{H:Hp}{Q:VK}{E E':XK}(hs:sp_law K vs H Q E):spD K cl fn 1 vs H Q E':=by
 obtain⟨a,ns,rfl,sq,hl,k⟩:=hs
 refine⟨H,[.lst (ns.map .int)],Same.refl _,.cons (.lst sq (dts_map fun i _=>.int i)) .nil,rfl,?_⟩
 rw[h ns hl]
 intro v H' F' g q
 cases q
 exact k H'
theorem len1 {α:Type}{us:List α}(h:us.length=1):∃a,us=[a]:=List.length_eq_one_iff.mp h
theorem len2 {α:Type}{us:List α}(h:us.length=2):∃a b,us=[a,b]:=by
 cases us with
 | nil=>cases h
 | cons a t=>obtain⟨b,rfl⟩:=len1 (Nat.succ.inj h);exact⟨a,b,rfl⟩
theorem len3 {α:Type}{us:List α}(h:us.length=3):∃a b c,us=[a,b,c]:=by
 cases us with
 | nil=>cases h
 | cons a t=>obtain⟨b,c,rfl⟩:=len2 (Nat.succ.inj h);exact⟨a,b,c,rfl⟩
theorem len4 {α:Type}{us:List α}(h:us.length=4):∃a b c d,us=[a,b,c,d]:=by
 cases us with
 | nil=>cases h
 | cons a t=>obtain⟨b,c,d,rfl⟩:=len3 (Nat.succ.inj h);exact⟨a,b,c,d,rfl⟩
theorem len5 {α:Type}{us:List α}(h:us.length=5):∃a b c d e,us=[a,b,c,d,e]:=by
 cases us with
 | nil=>cases h
 | cons a t=>obtain⟨b,c,d,e,rfl⟩:=len4 (Nat.succ.inj h);exact⟨a,b,c,d,e,rfl⟩
end L2
namespace L2
open PySem PySem.Spec PyProof.Rows
def getK (ds:List (List Nat×D))(k:List Nat):Option D:=(ds.find? fun kv=>decide (kv.1=k)).map (·.2)
def getD:D→D→Option D
 | .dct ds,.str k=>getK ds k
 | _,_=>none
theorem Dks.val {K:PySem.W.Frag}{cl:Nat→Addr}{F:Hp}{k:List Nat}:∀{vs:List (Key×V)}{ds:List (List Nat×D)},Dks K cl F vs ds→match getK ds k with|some d=>∃v,valV vs (Sum.inr (T k):Key)=some v∧Dt K cl F v d|none=>valV vs (Sum.inr (T k):Key)=none
 | _,_,.nil=>rfl
 | _, _,.cons (l:=l) (v:=v) (d:=d) (vs:=vs) (ds:=ds) ok q r=>by
  have ih:=Dks.val (k:=k) r
  by_cases h:l=k
  ·subst h
   have e1:getK ((l,d)::ds) l=some d:=by simp[getK]
   rw[e1]
   exact⟨v,by simp[valV],q⟩
  ·have h':¬((Sum.inr (T l):Key)=Sum.inr (T k)):=fun z=>by injection z with z;exact h (T_inj z)
   have e1:getK ((l,d)::ds) k=getK ds k:=by simp[getK,h]
   have e2:valV ((Sum.inr (T l),v)::vs) (Sum.inr (T k):Key)=valV vs (Sum.inr (T k):Key):=by
    unfold valV
    rw[List.find?_cons_of_neg (by simpa using h')]
   rw[e1,e2]
   exact ih
section
variable {X:Cx}{cl:Nat→Addr}{E:XK}{e o a b:Expr}{es:List Expr}{fa fb:Rho→Rs D}{fs:Rho→Rs (List D)}{x:Str}{p pos:Pos}
theorem getD_inv {a b d:D}(e:getD a b=some d):∃ds k,a=.dct ds∧b=.str k∧getK ds k=some d:=by
 cases a with
 | dct ds =>
  cases b with
  | str k=>exact⟨ds,k,rfl,rfl,e⟩
  | _=>cases e
 | _=>cases e
theorem Dt.dctE {K:PySem.W.Frag}{F:Hp}{v:V}{ds:List (List Nat×D)}(q:Dt K cl F v (.dct ds)):∃(a:Addr) (kvs:List (Key×V)),v=.ref a∧F a=some (.dK kvs)∧Dks K cl F kvs ds:=by
 cases q with|dct h k=>exact⟨_,_,rfl,h,k⟩
theorem xe_get (hu:X.A.units+1<cLine)(ha:XE X cl E a fa)(hb:XE X cl E b fb)(hs:NoSl b:=by intro _ _;rfl):XE X cl E (.Subscript a b pos) (f2 getD fa fb):=by
 obtain⟨t,pt,rt⟩:=ha.ex
 obtain⟨u,pu,ru⟩:=hb.ex
 refine XE'.out ⟨_,pe_dget hu pt pu hs,fun H0 F0 ρ σ H F Q R o=>rt H0 F0 ρ σ H F _ R (OutE.fst o fun d v H1 F1 g1 q o1=>?_)⟩
 refine ru H0 F0 ρ σ H1 F1 _ (R.grow g1) (OutE.fst o1 fun e w H2 F2 g2 q2 o2=>?_)
 obtain⟨z,hz,k⟩:=o2.lf
 have fh:=(R.grow (g1.trans g2)).fh
 have q':=q.mono g2.ff
 obtain⟨ds,key,rfl,rfl,hz'⟩:=getD_inv hz
 obtain⟨ad,kvs,rfl,hd,hk⟩:=q'.dctE
 obtain⟨rfl,ok⟩:=q2.strE
 have hv:=hk.val (k:=key)
 rw[hz'] at hv
 obtain⟨v,e1,e2⟩:=hv
 exact⟨ad,v,rfl,e1▸DGet.k (k:=Sum.inr (T key)) (fh _ _ hd),k _ _ _ (Gr.refl fh) e2⟩
def zipL (ks:List (List Nat))(ds:List D):List (List Nat×D):=(List.range (min ks.length ds.length)).foldl (fun m j=>putD m (ks.getD j []) (ds.getD j .non)) []
def seqD:D→Option (List D)
 | .lst ds=>some ds
 | .tup ds=>some ds
 | _=>none
def zipDD (a b:D):Option D:=match seqD a,seqD b with
 | some ks,some ds=>if ks.all isS=true∧ks.length≤1000 then some (.dct (zipL (ks.map unS) ds)) else none
 | _,_=>none
theorem Dts.getDt {K:PySem.W.Frag}{F:Hp}:∀{vs:List V}{ds:List D} (_:Dts K cl F vs ds) (j:Nat),j<ds.length→Dt K cl F (vs.getD j .non) (ds.getD j .non):=by
 intro vs ds
 induction ds generalizing vs with
 | nil=>intro _ j h;cases h
 | cons d ds ih =>
  intro q j h
  cases q with
  | cons r t =>
   cases j with
   | zero=>exact r
   | succ j=>exact ih t j (Nat.lt_of_succ_lt_succ h)
theorem zip_dks {K:PySem.W.Frag}{F:Hp}{ks:List (List Nat)}{vs:List V}{ds:List D}(hk:∀x∈ks,TxtOk (T x))(q:Dts K cl F vs ds):Dks K cl F (zipT ks vs) (zipL ks ds):=by
 have key:∀(js:List Nat) (m:List (Key×V)) (n:List (List Nat×D)),(∀j∈js,j<ks.length∧j<ds.length)→Dks K cl F m n →
   Dks K cl F (js.foldl (fun m j=>putK m (Sum.inr (T (ks.getD j []))) (vs.getD j .non)) m) (js.foldl (fun m j=>putD m (ks.getD j []) (ds.getD j .non)) n):=by
  intro js
  induction js with
  | nil=>exact fun m n _ h=>h
  | cons j js ih =>
   intro m n h hm
   rw[List.foldl_cons,List.foldl_cons]
   obtain⟨h1,h2⟩:=h j (.head _)
   refine ih _ _ (fun i hi=>h i (.tail _ hi)) (hm.put (hk _ ?_) (q.getDt j h2))
   rw[List.getD_eq_getElem?_getD,List.getElem?_eq_getElem h1]
   exact List.getElem_mem h1
 unfold zipT zipL
 rw[q.length]
 exact key _ _ _ (fun j hj=>by have:=List.mem_range.mp hj;omega) .nil
theorem Dt.seq {K:PySem.W.Frag}{F:Hp}{v:V}{d:D}{ds:List D}(q:Dt K cl F v d)(e:seqD d=some ds):∃(a:Addr) (vs:List V),v=.ref a∧(SqL K F a vs∨SqT K F a vs)∧Dts K cl F vs ds:=by
 cases q with
 | lst sq dq=>obtain rfl:=Option.some.inj e;exact⟨_,_,rfl,.inl sq,dq⟩
 | tup sq dq=>obtain rfl:=Option.some.inj e;exact⟨_,_,rfl,.inr sq,dq⟩
 | _=>cases e
theorem xe_dictzip {p1 p2 pos1 pos2:Pos}(hc:X.calm=true)(hd:Gl X "dict")(md:X.mg "dict" = none)(hz:Gl X "zip")(mz:X.mg "zip" = none)(ha:XE X cl E a fa)(hb:XE X cl E b fb)
  (hs:starEach [a,b] X.env=[(false,eval a X.env),(false,eval b X.env)]:=by rfl) (hs2:starEach [b] X.env=[(false,eval b X.env)]:=by rfl)
  (hs3:starEach [.Call (.Name "zip" p2) [a,b] [] pos2] X.env=[(false,eval (.Call (.Name "zip" p2) [a,b] [] pos2) X.env)]:=by rfl) :
  XE X cl E (.Call (.Name "dict" p1) [.Call (.Name "zip" p2) [a,b] [] pos2] [] pos1) (f2 zipDD fa fb):=by
 obtain⟨t,pt,rt⟩:=ha.ex
 obtain⟨u,pu,ru⟩:=hb.ex
 refine XE'.out ⟨_,pe_dictzipS hc pt pu hd hz md mz hs hs2 hs3,fun H0 F0 ρ σ H F Q R o=>?_⟩
 unfold tZipS tCons
 refine rt H0 F0 ρ σ H F _ R (OutE.fst o fun d v H1 F1 g1 q o1=>?_)
 refine ru H0 F0 ρ σ H1 F1 _ (R.grow g1) (OutE.fst o1 fun e w H2 F2 g2 q2 o2=>?_)
 obtain⟨z,hz,k⟩:=o2.lf
 have fh:=(R.grow (g1.trans g2)).fh
 have q':=q.mono g2.ff
 unfold zipDD at hz
 split at hz
 ·rename_i ks ds ek ed
  split at hz
  ·rename_i h
   obtain rfl:=Option.some.inj hz
   obtain⟨A1,vs1,rfl,s1,d1⟩:=q'.seq ek
   obtain⟨A2,vs2,rfl,s2,d2⟩:=q2.seq ed
   obtain⟨e1,e2,e3⟩:=d1.texts h.1
   subst e1
   refine⟨ks.map unS,A1,A2,vs2,rfl,s1.imp fh.seq fh.seqT,s2.imp fh.seq fh.seqT,by rw[List.length_map];exact h.2,fun p hp=>k _ _ _ (Gr.new fh hp) ?_⟩
   exact .dct zR ((zip_dks e2 d2).mono (Same.upd (fh.free hp)))
  ·cases hz
 ·cases hz
def idxD:D→D→Option D
 | .lst ds,.str k=>if ds.all isS=true∧ds.length≤1000∧k∈ds.map unS then some (.int ((ds.map unS).idxOf k:Nat)) else none
 | .tup ds,.str k=>if ds.all isS=true∧ds.length≤1000∧k∈ds.map unS then some (.int ((ds.map unS).idxOf k:Nat)) else none
 | _,_=>none
def isLs:D→Bool
 | .lst _=>true
 | _=>false
def isTp:D→Bool
 | .tup _=>true
 | _=>false
theorem idx_facts {ls:List (List Nat)}{k:List Nat}(h:k∈ls):flatV (.str (T k))=true∧(vT ls).all flatV=true∧(vT ls)[ls.idxOf k]? = some (.str (T k))∧eqV (.str (T k)) (.str (T k))=true ∧
  ∀(m:Nat) (w:V),m<ls.idxOf k→(vT ls)[m]? = some w→eqV w (.str (T k))=false:=by
 have hl:=List.idxOf_lt_length_of_mem h
 have key:∀x,eqV (.str (T x)) (.str (T k))=(x == k):=fun x=>T_beq x k
 refine⟨rfl,?_,?_,?_,?_⟩
 ·unfold vT;simp[flatV]
 ·unfold vT
  rw[List.getElem?_map,List.getElem?_eq_getElem hl,List.getElem_idxOf hl];rfl
 ·rw[key];simp
 ·intro m w hm hw
  unfold vT at hw
  have hml:m<ls.length:=by omega
  rw[List.getElem?_map,List.getElem?_eq_getElem hml] at hw
  obtain rfl:=Option.some.inj hw
  have hne:ls[m]≠k:=by
   have:=List.not_of_lt_findIdx (p:=(· == k)) (xs:=ls) (i:=m) hm
   simpa using this
  show eqV (.str (T ls[m])) (.str (T k))=false
  rw[key];simp[hne]
def tBMT (K:PySem.W.Frag)(r:V→List V→Hp→VK→Prop)(to:TE)(t:TA):TE:=fun σ H Q=>to σ H fun x H1=>(∃(a:Addr) (xs:List V),x=.ref a∧SqT K H1 a xs)∧t σ H1 fun xs H2=>r x xs H2 Q
theorem pe_bmT {to:TE}{t:TA}{name:Str}{apos cpos:Pos}{id:String}{r:V→List V→Hp→VK→Prop}(pa:PlainAttrs "tuple")(slot:Slot "tuple" name id)(hty:typeOf (.builtin id)=pure (.type "method_descriptor"))(hm:MtR X id r)(ho:PE X o to)(ha:PA X (e::es) t)
  (hbase:attributeBase o name X.env (eval o X.env)=eval o X.env)
  (hfew:((backTo cpos (starEach (e::es) X.env)).all (fun x=>!x.1)&&(backToKw cpos (keywordEach [] X.env)).all (fun x=>x.1.isSome)
   && decide ((e::es).length+([]:List Keyword).length+(if ([]:List Keyword).isEmpty then 0 else 1)<30))=true)
  (hline:(apos.endLine == cpos.line)=true) (hs:starEach (e::es) X.env=(false,eval e X.env)::starEach es X.env) (hplain:(backTo cpos (starEach es X.env)).any (·.1)=false) :
  PE X (.Call (.Attribute o name apos) (e::es) [] cpos) (tBMT X.K r to t):=by
 intro pins s σ H Q I h
 refine wpAny_Call_method_late hbase hfew hline rfl (thn (ho pins s σ H _ I h) fun v s1 hq38=>?_)
 obtain⟨x,H1,I1,r1,ty,q1⟩:=hq38
 obtain⟨ad,xs,rfl,sq⟩:=ty
 cases r1
 obtain⟨ob,e1,c1,d1⟩:=I1.noDict sq
 refine⟨"tuple", id,pa,slot,hty,⟨ob,e1,c1⟩,fun a z=>by cases z;exact⟨ob,e1,d1⟩,?_⟩
 have hA:=ha cpos pins s1 σ H1 _ I1 q1
 rw[hs] at hA ⊢
 refine Calls.callWith_builtin (by show(false || (backTo cpos (starEach es X.env)).any (·.1))=false;rw[hplain] <;>rfl) (Calls.evalArgs_plain ?_)
 exact thn hA fun us s2 ⟨vs,H2,I2,r2,q2⟩=>hm pins s2 σ H2 (.ref ad) vs (.ref ad) us Q I2 rfl r2 q2
theorem xe_idxT {apos cpos:Pos}(ho:XE X cl E o fa)(ha:XE X cl E e fb)(m:Mth X o e "index" apos cpos):XE X cl E (.Call (.Attribute o "index" apos) [e] [] cpos) (fM isTp idxD fa fb):=by
 obtain⟨t,pt,rt⟩:=ho.ex
 obtain⟨u,pu,ru⟩:=ha.ex
 refine XE'.out ⟨_,pe_bmT PySem.F.plainAttrs_tuple PySem.F.slot_tuple_index PySem.F.type_tuple_index mt_indexT pt (pa_cons pu pa_nil m.hs) m.base m.few m.line m.hs m.plain,fun H0 F0 ρ σ H F Q R o=>rt H0 F0 ρ σ H F _ R (OutE.fst o fun d v H1 F1 g1 q o1=>?_)⟩
 split at o1
 ·rename_i hd
  cases q with
  | tup sq dq =>
   rename_i ad xs ds
   refine⟨⟨ad,xs,rfl,(R.grow g1).fh.seqT sq⟩,ru H0 F0 ρ σ H1 F1 _ (R.grow g1) (OutE.fst o1 fun d2 v2 H2 F2 g2 q2 o2=>?_)⟩
   obtain⟨z,hz,k⟩:=o2.lf
   have fh:=(R.grow (g1.trans g2)).fh
   cases q2 with
   | str key ok2 =>
    dsimp only [idxD] at hz
    split at hz
    ·rename_i h
     obtain rfl:=Option.some.inj hz
     obtain⟨e1,e2,e3⟩:=dq.texts h.1
     subst e1
     obtain⟨a1,a2,a3,a4,a5⟩:=idx_facts h.2.2
     exact⟨ad,_,_,_,_,rfl,rfl,fh.seqT (g2.ff.seqT sq),a1,a2,a3,a4,a5,k _ _ _ (Gr.refl fh) (.int _)⟩
    ·cases hz
   | _=>cases hz
  | _=>cases hd
 ·exact o1.elim
end
def strD:List D→Option D
 | [.int i]=>if 0≤i∧i≤9 then some (.str [48+i.toNat]) else none
 | _=>none
def maxD:List D→Option D
 | [.int i,.int j]=>some (.int (if j > i then j else i))
 | _=>none
def minD:List D→Option D
 | [.int i,.int j]=>some (.int (if j<i then j else i))
 | _=>none
section
variable {K:PySem.W.Frag}{cl:Nat→Addr}
theorem n_str:Fn1 K cl (fun xs H Q=>∃i,xs=[.int i]∧i.natAbs.log2<1920∧Q (.str (toString i)) H) strD:=fun F H vs ds d Q s q e k=>by
 match ds,q,e with
 | [.int i],q,e =>
  obtain⟨v,rfl,q1⟩:=q.one
  cases q1
  dsimp only [strD] at e
  split at e
  ·rename_i h
   obtain rfl:=Option.some.inj e
   obtain⟨n,rfl⟩:=Int.eq_ofNat_of_zero_le h.1
   have key:∀n<10,((toString ((n:Nat):Int):String):Str)=T [48+n]∧((n:Nat):Int).natAbs.log2<1920:=by decide +kernel
   have hn:n<10:=by omega
   refine⟨_,rfl,(key n hn).2,?_⟩
   have:=k (.str (T [48+n])) _ _ (Gr.refl s) (.str _ (T_ok (fun c hc=>by rw[List.mem_singleton.mp hc];omega) (by show 1≤_;decide)))
   rw[(key n hn).1]
   exact this
  ·cases e
def LI2 (f:Int→Int→Option D):List D→Option D
 | [.int i,.int j]=>f i j
 | _=>none
theorem LI2_inv {f:Int→Int→Option D}{ds:List D}{d:D}(e:LI2 f ds=some d):∃i j,ds=[.int i,.int j]∧f i j=some d:=by
 cases ds with
 | nil=>cases e
 | cons a t =>
  cases a with
  | int i =>
   cases t with
   | nil=>cases e
   | cons b t =>
    cases b with
    | int j =>
     cases t with
     | nil=>exact⟨i,j,rfl,e⟩
     | cons _ _=>cases e
    | _=>cases e
  | _=>cases e
theorem n_max:Fn1 K cl (fun xs H Q=>∃i j,xs=[.int i,.int j]∧Q (.int (if j > i then j else i)) H) maxD:=fun F H vs ds d Q s q e k=>by
 obtain⟨i,j,rfl,e1⟩:=LI2_inv (f:=fun i j=>some (.int (if j > i then j else i))) e
 obtain⟨v,w,rfl,q1,q2⟩:=q.two
 obtain rfl:=q1.intE
 obtain rfl:=q2.intE
 obtain rfl:=Option.some.inj e1
 exact⟨_,_,rfl,k _ _ _ (Gr.refl s) (.int _)⟩
theorem n_min:Fn1 K cl (fun xs H Q=>∃i j,xs=[.int i,.int j]∧Q (.int (if j<i then j else i)) H) minD:=fun F H vs ds d Q s q e k=>by
 obtain⟨i,j,rfl,e1⟩:=LI2_inv (f:=fun i j=>some (.int (if j<i then j else i))) e
 obtain⟨v,w,rfl,q1,q2⟩:=q.two
 obtain rfl:=q1.intE
 obtain rfl:=q2.intE
 obtain rfl:=Option.some.inj e1
 exact⟨_,_,rfl,k _ _ _ (Gr.refl s) (.int _)⟩
end
end L2
namespace L2
open PySem PySem.Spec PyProof.Rows
section
variable {X:Cx}{cl:Nat→Addr}{E:XK}{a b e:Expr}{fa fb:Rho→Rs D}{pos:Pos}{st:Stmt}{g:Rho→Out}
def isI:D→Bool
 | .int _=>true
 | _=>false
def unN:D→Int
 | .int i=>i
 | _=>0
theorem Dts.ints {K:PySem.W.Frag}{F:Hp}:∀{vs:List V}{ds:List D},Dts K cl F vs ds→ds.all isI=true→vs=(ds.map unN).map V.int
 | _,_,.nil,_=>rfl
 | _,_,.cons q r,h=>by
  rw[List.all_cons,Bool.and_eq_true] at h
  have:=Dts.ints r h.2
  cases q <;>simp[isI] at h
  rw[this];rfl
def maxL:List Int→Int
 | []=>0
 | x::xs=>xs.foldl (fun a b=>if b > a then b else a) x
def minL:List Int→Int
 | []=>0
 | x::xs=>xs.foldl (fun a b=>if b<a then b else a) x
theorem maxL_spec {ns:List Int}(h:ns≠[]):maxL ns∈ns∧∀i∈ns,i≤maxL ns:=by
 have key:∀(xs:List Int) (x:Int),(xs.foldl (fun a b=>if b > a then b else a) x=x∨xs.foldl (fun a b=>if b > a then b else a) x∈xs)∧x≤xs.foldl (fun a b=>if b > a then b else a) x∧∀i∈xs,i≤xs.foldl (fun a b=>if b > a then b else a) x:=by
  intro xs
  induction xs with
  | nil=>intro x;exact⟨.inl rfl,Int.le_refl _,fun i hi=>by cases hi⟩
  | cons y xs ih =>
   intro x
   rw[List.foldl_cons]
   obtain⟨h1,h2,h3⟩:=ih (if y > x then y else x)
   by_cases hy:y > x
   ·rw [if_pos hy] at h1 h2 h3 ⊢
    refine⟨.inr ?_,by omega,fun i hi=>?_⟩
    ·rcases h1 with e|e
     ·rw[e];exact .head _
     ·exact .tail _ e
    ·rcases List.mem_cons.mp hi with rfl|hi
     ·exact h2
     ·exact h3 i hi
   ·rw[if_neg hy] at h1 h2 h3 ⊢
    refine⟨h1.imp_right (.tail _),h2,fun i hi=>?_⟩
    rcases List.mem_cons.mp hi with rfl|hi
    ·omega
    ·exact h3 i hi
 cases ns with
 | nil=>exact absurd rfl h
 | cons x xs =>
  obtain⟨h1,h2,h3⟩:=key xs x
  refine⟨?_,fun i hi=>?_⟩
  ·rcases h1 with e|e
   ·show xs.foldl _ x∈_
    rw[e];exact .head _
   ·exact .tail _ e
  ·rcases List.mem_cons.mp hi with rfl|hi
   ·exact h2
   ·exact h3 i hi
theorem minL_spec {ns:List Int}(h:ns≠[]):minL ns∈ns∧∀i∈ns,minL ns≤i:=by
 have key:∀(xs:List Int) (x:Int),(xs.foldl (fun a b=>if b<a then b else a) x=x∨xs.foldl (fun a b=>if b<a then b else a) x∈xs)∧xs.foldl (fun a b=>if b<a then b else a) x≤x∧∀i∈xs,xs.foldl (fun a b=>if b<a then b else a) x≤i:=by
  intro xs
  induction xs with
  | nil=>intro x;exact⟨.inl rfl,Int.le_refl _,fun i hi=>by cases hi⟩
  | cons y xs ih =>
   intro x
   rw[List.foldl_cons]
   obtain⟨h1,h2,h3⟩:=ih (if y<x then y else x)
   by_cases hy:y<x
   ·rw [if_pos hy] at h1 h2 h3 ⊢
    refine⟨.inr ?_,by omega,fun i hi=>?_⟩
    ·rcases h1 with e|e
     ·rw[e];exact .head _
     ·exact .tail _ e
    ·rcases List.mem_cons.mp hi with rfl|hi
     ·exact h2
     ·exact h3 i hi
   ·rw[if_neg hy] at h1 h2 h3 ⊢
    refine⟨h1.imp_right (.tail _),h2,fun i hi=>?_⟩
    rcases List.mem_cons.mp hi with rfl|hi
    ·omega
    ·exact h3 i hi
 cases ns with
 | nil=>exact absurd rfl h
 | cons x xs =>
  obtain⟨h1,h2,h3⟩:=key xs x
  refine⟨?_,fun i hi=>?_⟩
  ·rcases h1 with e|e
   ·show xs.foldl _ x∈_
    rw[e];exact .head _
   ·exact .tail _ e
  ·rcases List.mem_cons.mp hi with rfl|hi
   ·exact h2
   ·exact h3 i hi
theorem vals_nums:∀{ns:List Int}{us:List Value},Vals (ns.map V.int) us→∃xs:List (Int×Tok),us=xs.map (fun p=>Value.int p.1 p.2)∧xs.map (·.1)=ns
 | [],_,.nil=>⟨[],rfl,rfl⟩
 | n::ns,_,.cons r t=>by
  obtain⟨xs,rfl,e⟩:=vals_nums (ns:=ns) t
  obtain⟨k,rfl⟩:=r
  exact⟨(n,k)::xs,rfl,by rw[List.map_cons,e]⟩
theorem call_maxL (hc:X.calm=true):CallR X (.builtin "max") (fun xs H Q=>∃(a:Addr) (ns:List Int),xs=[.ref a]∧SqL X.K H a (ns.map V.int)∧ns≠[]∧Q (.int (maxL ns)) H):=by
 intro pins s σ H xs us Q I r h
 obtain⟨a,ns,rfl,ha,hne,q⟩:=h
 obtain⟨u,rfl,ru⟩:=vals1 r
 cases ru
 obtain⟨its,rv,pl,hz⟩:=I.list ha
 obtain⟨ys,rfl,ey⟩:=vals_nums rv
 have hl:s.heap.IsList a (intItems ys.toArray):=by
  have:=pl.isList
  simpa [intItems] using this
 have hpos:0<ys.length:=by
  cases ys with
  | nil=>exact absurd ey.symm hne
  | cons=>exact Nat.succ_pos _
 refine max_intList (I.ok.hd hc) hl (by simpa using hpos) fun v h' tk hv hk=>⟨.int (maxL ns),H,I.kept hk,?_,q⟩
 obtain⟨g1,g2⟩:=argBest_gt (numAt ys.toArray) (ys.toArray.size - 1)
 obtain⟨t,rfl⟩:=intItems_at hv
 refine⟨t,?_⟩
 obtain⟨m1,m2⟩:=maxL_spec hne
 have hsz:ys.toArray.size=ys.length:=by simp
 have at_:∀j,j<ys.length→numAt ys.toArray j∈ns∧(numAt ys.toArray j)=ns.getD j 0:=fun j hj=>by
  have e:numAt ys.toArray j=(ys.toArray.toList.map (·.1)).getD j 0:=numAt_eq _ _
  rw[e]
  have e2:ys.toArray.toList.map (·.1)=ns:=by simpa using ey
  rw[e2]
  have hj':j<ns.length:=by rw[← ey];simpa using hj
  refine⟨?_,rfl⟩
  rw[List.getD_eq_getElem?_getD,List.getElem?_eq_getElem hj']
  exact List.getElem_mem hj'
 have b1:=m2 _ (at_ _ (by omega:argBest (fun i j=>decide (numAt ys.toArray i > numAt ys.toArray j)) (ys.toArray.size - 1)<ys.length)).1
 obtain⟨j,hj,e⟩:=List.getElem_of_mem m1
 have hj':j<ys.length:=by rw[← ey] at hj;simpa using hj
 have b2:=g2 j (by omega)
 rw[(at_ j hj').2,List.getD_eq_getElem?_getD,List.getElem?_eq_getElem hj] at b2
 have b3:maxL ns≤numAt ys.toArray (argBest (fun i j=>decide (numAt ys.toArray i > numAt ys.toArray j)) (ys.toArray.size - 1)):=by rw[← e];exact b2
 rw[Int.le_antisymm b1 b3]
theorem call_minL (hc:X.calm=true):CallR X (.builtin "min") (fun xs H Q=>∃(a:Addr) (ns:List Int),xs=[.ref a]∧SqL X.K H a (ns.map V.int)∧ns≠[]∧Q (.int (minL ns)) H):=by
 intro pins s σ H xs us Q I r h
 obtain⟨a,ns,rfl,ha,hne,q⟩:=h
 obtain⟨u,rfl,ru⟩:=vals1 r
 cases ru
 obtain⟨its,rv,pl,hz⟩:=I.list ha
 obtain⟨ys,rfl,ey⟩:=vals_nums rv
 have hl:s.heap.IsList a (intItems ys.toArray):=by
  have:=pl.isList
  simpa [intItems] using this
 have hpos:0<ys.length:=by
  cases ys with
  | nil=>exact absurd ey.symm hne
  | cons=>exact Nat.succ_pos _
 refine min_intList (I.ok.hd hc) hl (by simpa using hpos) fun v h' tk hv hk=>⟨.int (minL ns),H,I.kept hk,?_,q⟩
 obtain⟨g1,g2⟩:=argBest_lt (numAt ys.toArray) (ys.toArray.size - 1)
 obtain⟨t,rfl⟩:=intItems_at hv
 refine⟨t,?_⟩
 obtain⟨m1,m2⟩:=minL_spec hne
 have hsz:ys.toArray.size=ys.length:=by simp
 have at_:∀j,j<ys.length→numAt ys.toArray j∈ns∧(numAt ys.toArray j)=ns.getD j 0:=fun j hj=>by
  have e:numAt ys.toArray j=(ys.toArray.toList.map (·.1)).getD j 0:=numAt_eq _ _
  rw[e]
  have e2:ys.toArray.toList.map (·.1)=ns:=by simpa using ey
  rw[e2]
  have hj':j<ns.length:=by rw[← ey];simpa using hj
  refine⟨?_,rfl⟩
  rw[List.getD_eq_getElem?_getD,List.getElem?_eq_getElem hj']
  exact List.getElem_mem hj'
 have b1:=m2 _ (at_ _ (by omega:argBest (fun i j=>decide (numAt ys.toArray i<numAt ys.toArray j)) (ys.toArray.size - 1)<ys.length)).1
 obtain⟨j,hj,e⟩:=List.getElem_of_mem m1
 have hj':j<ys.length:=by rw[← ey] at hj;simpa using hj
 have b2:=g2 j (by omega)
 rw[(at_ j hj').2,List.getD_eq_getElem?_getD,List.getElem?_eq_getElem hj] at b2
 have b3:numAt ys.toArray (argBest (fun i j=>decide (numAt ys.toArray i<numAt ys.toArray j)) (ys.toArray.size - 1))≤minL ns:=by rw[← e];exact b2
 rw[Int.le_antisymm b3 b1]
def maxLD:List D→Option D
 | [.lst ds]=>if ds.all isI=true∧ds≠[] then some (.int (maxL (ds.map unN))) else none
 | _=>none
def minLD:List D→Option D
 | [.lst ds]=>if ds.all isI=true∧ds≠[] then some (.int (minL (ds.map unN))) else none
 | _=>none
theorem n_maxL {K:PySem.W.Frag}:Fn1 K cl (fun xs H Q=>∃(a:Addr) (ns:List Int),xs=[.ref a]∧SqL K H a (ns.map V.int)∧ns≠[]∧Q (.int (maxL ns)) H) maxLD:=fun F H vs ds d Q s q e k=>by
 match ds,q,e with
 | [.lst l],q,e =>
  obtain⟨v,rfl,q1⟩:=q.one
  dsimp only [maxLD] at e
  split at e
  ·rename_i h
   obtain rfl:=Option.some.inj e
   cases q1 with
   | lst sq dq =>
    rw[dq.ints h.1] at sq
    exact⟨_,_,rfl,s.seq sq,fun z=>h.2 (List.map_eq_nil_iff.mp z),k _ _ _ (Gr.refl s) (.int _)⟩
  ·cases e
theorem n_minL {K:PySem.W.Frag}:Fn1 K cl (fun xs H Q=>∃(a:Addr) (ns:List Int),xs=[.ref a]∧SqL K H a (ns.map V.int)∧ns≠[]∧Q (.int (minL ns)) H) minLD:=fun F H vs ds d Q s q e k=>by
 match ds,q,e with
 | [.lst l],q,e =>
  obtain⟨v,rfl,q1⟩:=q.one
  dsimp only [minLD] at e
  split at e
  ·rename_i h
   obtain rfl:=Option.some.inj e
   cases q1 with
   | lst sq dq =>
    rw[dq.ints h.1] at sq
    exact⟨_,_,rfl,s.seq sq,fun z=>h.2 (List.map_eq_nil_iff.mp z),k _ _ _ (Gr.refl s) (.int _)⟩
  ·cases e
def rInD (K:PySem.W.Frag)(neg:Bool):R2:=fun x y H Q=>∃d es,Is K H x d∧(Is K H y (.list es)∨Is K H y (.tuple es))∧d.depth≤60∧Q (.bl (if neg then !(es.any fun z=>PyData.eqv z d) else es.any fun z=>PyData.eqv z d)) H
theorem can_lst {K:PySem.W.Frag}{H:Hp}{v:V}{es:List PyData}(h:Is K H v (.list es)):PyData.canLayAll0 es=true:=by have:=h.can;simpa [PyData.canLay0] using this
theorem can_tup {K:PySem.W.Frag}{H:Hp}{v:V}{es:List PyData}(h:Is K H v (.tuple es)):PyData.canLayAll0 es=true:=by have:=h.can;simpa [PyData.canLay0] using this
theorem op_notInDD (hu:X.A.units+64<cLine):OpR X (compareOp .NotIn) (rInD X.K true):=by
 intro pins s σ H x y v u Q I rx ry h
 obtain⟨d,es,hd,he,hz,q⟩:=h
 obtain⟨_,ra⟩:=I.reads hd rx
 rcases he with he|he
 ·obtain⟨_,rb⟩:=I.reads he ry
  exact SeqAt.notIn_list_reads rb ra (can_lst he) hd.can (by omega) (fin_bl I q rfl)
 ·obtain⟨_,rb⟩:=I.reads he ry
  exact SeqAt.notIn_tuple_reads rb ra (can_tup he) hd.can (by omega) (fin_bl I q rfl)
def inDD (neg:Bool)(x:D):D→Option D
 | .lst es=>if x.pl=true∧D.pls es=true∧x.py.depth≤60 then some (.bl (if neg then !((D.pys es).any fun z=>PyData.eqv z x.py) else(D.pys es).any fun z=>PyData.eqv z x.py)) else none
 | .tup es=>if x.pl=true∧D.pls es=true∧x.py.depth≤60 then some (.bl (if neg then !((D.pys es).any fun z=>PyData.eqv z x.py) else(D.pys es).any fun z=>PyData.eqv z x.py)) else none
 | _=>none
theorem o_inDD {K:PySem.W.Frag}{neg:Bool}:Op2 K cl (rInD K neg) (inDD neg):=fun F H x y a b d Q s qa qb e k=>by
 match b,qb,e with
 | .lst es,qb,e =>
  dsimp only [inDD] at e
  split at e
  ·rename_i h
   obtain rfl:=Option.some.inj e
   exact⟨_,_,(qa.is h.1).mono s,.inl ((qb.is (by simpa [D.pl] using h.2.1)).mono s),h.2.2,k _ _ _ (Gr.refl s) (.bl _)⟩
  ·cases e
 | .tup es,qb,e =>
  dsimp only [inDD] at e
  split at e
  ·rename_i h
   obtain rfl:=Option.some.inj e
   exact⟨_,_,(qa.is h.1).mono s,.inr ((qb.is (by simpa [D.pl] using h.2.1)).mono s),h.2.2,k _ _ _ (Gr.refl s) (.bl _)⟩
  ·cases e
end
end L2
namespace L2
open PySem PySem.Spec PyProof.Rows
end L2
namespace L2
open PySem PySem.Spec PyProof.Rows
end L2
namespace L2
open PySem PySem.Spec PyProof.Rows
end L2
namespace L2
open PySem PySem.Spec PyProof.Rows
structure XEw (X:Cx)(cl:Nat→Addr)(E:XK)(e:Expr)(f:Rho→Rs D):Prop where
 out:XE X cl E e f
structure XAw (X:Cx)(cl:Nat→Addr)(E:XK)(es:List Expr)(f:Rho→Rs (List D)):Prop where
 out:XA X cl E es f
section
variable {X:Cx}{cl:Nat→Addr}{E:XK}{e:Expr}{es:List Expr}{f:Rho→Rs D}{fs:Rho→Rs (List D)}{pos:Pos}
theorem yw_nil:XAw X cl E [] zB:=⟨zq⟩
theorem yw_cons (h1:XEw X cl E e f)(h2:XAw X cl E es fs)(hs:starEach (e::es) X.env=(false,eval e X.env)::starEach es X.env):XAw X cl E (e::es) (zj f fs):=⟨zf h1.out h2.out hs⟩
theorem yw_lst (h:XAw X cl E es fs):XEw X cl E (.List es pos) (fO mkL fs):=⟨xe_lst h.out⟩
theorem yw_tup {x1}(h:XAw X cl E es fs):XEw X cl E (.Tuple es x1 pos) (fO mkT fs):=⟨xe_tup h.out⟩
theorem yw_str {x:Str}{j}{l:List Nat}(h:x=T l)(ok:TxtOk (T l)):XEw X cl E (.Constant (.str x) j pos) (fC (.str l)):=⟨xe_str h ok⟩
theorem yw_int {i j}:XEw X cl E (.Constant (.int i) j pos) (fC (.int i)):=⟨zF⟩
end
structure XSb (X:Cx)(cl:Nat→Addr)(E:XK)(sts:List Stmt)(g:Rho→Out):Prop where
 out:XSs X cl E sts g
structure XSt (X:Cx)(cl:Nat→Addr)(E:XK)(st:Stmt)(g:Rho→Out):Prop where
 out:XS X cl E st g
structure XIw (X:Cx)(cl:Nat→Addr)(E:XK)(tg it:Expr)(f:Rho→Rs (List D)):Prop where
 out:XI X cl E tg it f
section
variable {X:Cx}{cl:Nat→Addr}{E:XK}{e tg iter:Expr}{st:Stmt}{rest body:List Stmt}{g h:Rho→Out}{f:Rho→Rs D}{fi:Rho→Rs (List D)}{pos:Pos}
theorem xss_consB (h1:XS X cl E st g)(h2:XSb X cl E rest h):XSs X cl E (st::rest) (zO g h):=zu h1 h2.out
theorem xsb_cons (h1:XSt X cl E st g)(h2:XSs X cl E rest h):XSb X cl E (st::rest) (zO g h):=⟨zu h1.out h2⟩
theorem xst_nox (h:XSt X.nox cl E0 st g):XSt X cl E st (cutX g):=⟨xs_nox h.out⟩
theorem xst_for {i:Nat}(hp:PassesOwn (model X.prog X.w) X.A X.env X.xe)(hc:X.calm=true)(hi:XIw X cl E tg iter fi)(hg:PG X tg (gName i))(hb:XSs X cl E body g)(hs:∀x,foldedSetIterable iter X.env x=pure x:=by intro _;rfl):XSt X cl E (.For tg iter body [] pos) (sFor i fi g):=⟨xs_for hp hc hi.out hg hb hs⟩
theorem xiw_tup (h:XEw X cl E e f):XIw X cl E tg e (fI tpD f):=⟨xi_tup h.out⟩
end
end L2
namespace L2
open PySem PySem.Spec PyProof.Rows
end L2
namespace L2
open PySem PySem.Spec PyProof.Rows
section
variable {X:Cx}{cl:Nat→Addr}{E:XK}{e:Expr}{f:Rho→Rs D}{p pos:Pos}{tg:Expr}
end
end L2
namespace L2
open PySem PySem.Spec PyProof.Rows
end L2
namespace L2
open PySem PySem.Spec PyProof.Rows
end L2
namespace L2
open PySem PySem.Spec PyProof.Rows
def PX (X:Cx)(e:Expr)(t:St→Hp→VK→XK→Prop):Prop:=∀(pins:List (Addr×Obj)) (s:Shared) (σ:St) (H:Hp) (Q:VK) (E:XK) (F':Value→Shared→Prop),Inv X pins σ H s →
 (∀H s e s',Inv X pins σ H s→Flown X.prog X.w X.stack H s E e s'→F' e s')→t σ H Q E→wpAny (model X.prog X.w) X.A (eval e X.env) (EP X pins σ Q) F' s
theorem PX.mono {X:Cx}{e:Expr}{t u:St→Hp→VK→XK→Prop}(h:PX X e t)(k:∀σ H Q E,u σ H Q E→t σ H Q E):PX X e u:=fun pins s σ H Q E F' I hx q=>h pins s σ H Q E F' I hx (k σ H Q E q)
section
variable {X:Cx}{cl:Nat→Addr}{x:Str}{p pos:Pos}{e c a b:Expr}{es:List Expr}
theorem own_free {ρ:Rho}(h:ρ.all (fun s=>!s.own)=true){i:Nat}{s:Sl}(e:ρ[i]? = some s):s.own=false:=by
 have:=List.all_eq_true.mp h s (List.mem_of_getElem? e)
 simpa using this
theorem Rl.base {K:PySem.W.Frag}{H0 F0 H F:Hp}{ρ:Rho}{σ:St}(R:Rl K cl H0 F0 ρ σ H F)(h:ρ.all (fun s=>!s.own)=true):Rl K cl H F ρ σ H F where
 gr:=Gr.refl R.fh
 len:=R.len
 fz:=R.fz
 own:=fun i ds e o=>by have:=own_free h e;rw[this] at o;cases o
 ap:=R.ap
theorem Gr.exc {F H H':Hp}{a:Addr}{o:HO}(h:Same F H)(s:Same H H')(ha:H' a=none):Gr F H (upd F a o) (upd H' a o):=by
 have hH:H a=none:=by
  cases z:H a with
  | none=>rfl
  | some q=>rw[s a q z] at ha;cases ha
 refine⟨Same.upd (h.free hH),s.trans (Same.upd ha),upd_mono (h.trans s),fun b o hb m q=>?_⟩
 have hne:b≠a:=fun z=>by rw[z,hH] at hb;cases hb
 rw[zN hne];exact q
end
end L2
namespace L2
open PySem PySem.Spec PyProof.Rows
section
variable {X:Cx}{cl:Nat→Addr}
def PXs (X:Cx)(sts:List Stmt)(t:St→Hp→VK→XK→Prop):Prop:=∀(pins:List (Addr×Obj)) (s:Shared) (σ:St) (H:Hp) (D:Ends) (E:XK) (F':Value→Shared→Prop),Inv X pins σ H s →
 (∀H s e s',Inv X pins σ H s→Flown X.prog X.w X.stack H s E e s'→F' e s')→t σ H D.rt E→wpAny (model X.prog X.w) X.A (execs sts X.env) (SP X pins {D with nx:=fun _ _=>False,bk:=fun _ _=>False,ct:=fun _ _=>False}) F' s
theorem PXs.mono {sts:List Stmt}{t u:St→Hp→VK→XK→Prop}(h:PXs X sts t)(k:∀σ H Q E,u σ H Q E→t σ H Q E):PXs X sts u:=fun pins s σ H D E F' I hx q=>h pins s σ H D E F' I hx (k σ H D.rt E q)
end
end L2
namespace L2
open PySem PySem.Spec PyProof.Rows
open AutoSeq1 (wpAny_loadPart')
end L2
namespace L2
open PySem PySem.Spec PyProof.Rows
def intD:List D→Option D
 | [.bl b]=>some (.int (if b then 1 else 0))
 | _=>none
theorem call_intB {X:Cx}:CallR X (.type "int") (fun xs H Q=>∃b,xs=[.bl b]∧Q (.int (if b then 1 else 0)) H):=by
 intro pins s σ H xs us Q I r h
 obtain⟨b,rfl,q⟩:=h
 obtain⟨u,rfl,r1⟩:=vals1 r
 obtain rfl:u=.bool b:=r1
 exact call_int_bool ⟨.int _,H,I.tok _,⟨_,rfl⟩,q⟩
theorem n_int {K:PySem.W.Frag}{cl:Nat→Addr}:Fn1 K cl (fun xs H Q=>∃b,xs=[.bl b]∧Q (.int (if b then 1 else 0)) H) intD:=fun F H vs ds d Q s q e k=>by
 match ds,q,e with
 | [.bl b],q,e =>
  obtain⟨v,rfl,q1⟩:=q.one
  cases q1
  obtain rfl:=Option.some.inj e
  exact⟨b,rfl,k _ _ _ (Gr.refl s) (.int _)⟩
end L2
namespace L2
open PySem PySem.Spec PyProof.Rows
open AutoSeq1 (wpAny_loadPart')
end L2
namespace L2
open PySem PySem.Spec PyProof.Rows
end L2
namespace L2
open PySem PySem.Spec PyProof.Rows
end L2
namespace L2
open PySem PySem.Spec PyProof.Rows
end L2
namespace L2
open PySem
def tI (led:Bool)(ks:List Nat):SetTable:=if ks.length<5 then {mask:=7,place:=ks.toArray,dummies:=#[],finger:=0,led,moves:=0,plain:=true} else {mask:=31,place:=ks.toArray,dummies:=#[],finger:=0,led,moves:=1,plain:=true}
def subs6:List (List Nat):=([1,2,3,4,5,6]:List Nat).foldr (fun x acc=>acc++acc.map (x :: ·)) [[]]
theorem subsI:∀led,∀ks∈subs6,(tI led ks).fits ks.length=true∧(tI led ks).led=led∧(tI led ks).plain=true∧ks.length≤6∧ks.Nodup∧∀k∈ks,k∈([1,2,3,4,5,6]:List Nat):=by decide +kernel
structure StI (w:World)(es:Array (Int×Value))(t:SetTable)(ks:List Nat):Prop where
 hs:es.toList.map (·.1)=ks.map fun(k:Nat)=>(k:Int)
 vs:∀e∈es.toList,∃(k:Nat) (tk:Tok),k∈ks∧e=((k:Int),Value.int (k:Int) tk)
 tb:t=tI (!w.params.followText "set-order") ks
 sb:ks∈subs6
section
variable {prog:Program}{w:World}{A:Around}{E:Value→Shared→Prop}{s:Shared}{es:Array (Int×Value)}{t:SetTable}{ks:List Nat}
theorem StI.size (S:StI w es t ks):es.size=ks.length:=by
 have:=congrArg List.length S.hs
 simpa using this
theorem StI.fits (S:StI w es t ks):t.fits es.size=true:=by rw[S.size,S.tb];exact(subsI _ ks S.sb).1
theorem StI.find (S:StI w es t ks)(x:Nat):(∃e∈es.toList,Value.isInt (x:Int) e.2=true)↔x∈ks:=by
 constructor
 ·rintro ⟨e,he,h⟩
  obtain⟨k,tk,hk,rfl⟩:=S.vs e he
  have:(x:Int)=(k:Int):=by
   obtain⟨t,e⟩:=Value.isInt_shape h
   injection e with e _
   exact e.symm
  have:x=k:=by omega
  subst this;exact hk
 ·intro hx
  have:(x:Int)∈es.toList.map (·.1):=by rw[S.hs];exact List.mem_map_of_mem hx
  obtain⟨e,he,e1⟩:=List.mem_map.mp this
  obtain⟨k,tk,hk,rfl⟩:=S.vs e he
  refine⟨_,he,?_⟩
  dsimp only at e1
  rw[e1]
  simp[Value.isInt]
end
end L2
namespace L2
open PySem
end L2
set_option maxHeartbeats 3200000
namespace L2
open PySem
section
variable {prog:Program}{w:World}{A:Around}{E:Value→Shared→Prop}{s:Shared}
theorem StI.new:StI w #[] (.fresh 0 0 (!w.params.followText "set-order")) []:=⟨rfl,fun e he=>by simp at he,rfl,by decide⟩
end
end L2
namespace L2
open PySem PySem.Spec PyProof.Rows
section
variable {prog:Program}{w:World}{A:Around}{E:Value→Shared→Prop}{s:Shared}
end
end L2
set_option maxHeartbeats 1000000
namespace L2
open PySem PySem.Spec PyProof.Rows
end L2
namespace L2
open PySem PySem.W PyProof.Rows
structure Ord (n:Nat)(b:Nat→Nat→Bool):Prop where
 tr:∀i j k,i<n→j<n→k<n→b i j=true→b j k=true→b i k=true
 tot:∀i j,i<n→j<n→i≠j→b i j=false→b j i=true
 ir:∀i,i<n→b i i=false
def PP (n:Nat)(p:Array Nat):Prop:=p.toList.Perm (List.range n)
section
variable {n:Nat}{b:Nat→Nat→Bool}{cmp:Nat→Nat→(Bool→Shared→Prop)→Shared→Prop}{s:Shared}{p:Array Nat}
theorem gd (p:Array Nat)(i:Nat):p.getD i 0=(p[i]?).getD 0:=by simp[Array.getD];split <;>simp_all
theorem PP.size (h:PP n p):p.size=n:=by have:=h.length_eq;simpa using this
theorem PP.lt (h:PP n p){i:Nat}(hi:i<n):p.getD i 0<n:=by
 have hs:=h.size
 have e:p.getD i 0=p[i]'(by omega):=by rw[gd,getElem?_pos p i (by omega)];rfl
 rw[e]
 exact List.mem_range.mp (h.mem_iff.mp (Array.getElem_mem_toList (by omega)))
theorem PP.inj (h:PP n p){i j:Nat}(hi:i<n)(hj:j<n)(hij:i≠j):p.getD i 0≠p.getD j 0:=by
 have hs:=h.size
 have nd:p.toList.Nodup:=h.nodup_iff.mpr List.nodup_range
 have e:∀k,k<n→p.getD k 0=p.toList.getD k 0:=fun k hk=>by rw[gd];simp
 rw[e i hi,e j hj]
 intro z
 have hl:p.toList.length=n:=by simpa using hs
 rw[List.getD_eq_getElem?_getD,List.getD_eq_getElem?_getD,List.getElem?_eq_getElem (by omega),List.getElem?_eq_getElem (by omega)] at z
 have pw:=List.pairwise_iff_getElem.mp nd
 rcases Nat.lt_or_gt_of_ne hij with c|c
 ·exact pw i j (by omega) (by omega) c z
 ·exact pw j i (by omega) (by omega) c z.symm
def Sd (b:Nat→Nat→Bool)(k:Nat)(p:Array Nat):Prop:=∀i j,i<j→j<k→b (p.getD i 0) (p.getD j 0)=true
def Dd (b:Nat→Nat→Bool)(k:Nat)(p:Array Nat):Prop:=∀i j,i<j→j<k→b (p.getD j 0) (p.getD i 0)=true
variable (O:Ord n b)(hc:∀i j (C:Bool→Shared→Prop),i<n→j<n→C (b i j) s→cmp i j C s)
include O hc
theorem st_asc (hp:PP n p){Q:Nat→Shared→Prop}:∀(f m:Nat),1≤m→m+f=n→Sd b m p→(∀m',m≤m'→m'≤n→Sd b m' p→(m'<n→b (p.getD m' 0) (p.getD (m' - 1) 0)=true)→Q m' s)→(kas_asc p f m).kasWp cmp Q s
 | 0,m,h1,h2,h3,q=>q m (Nat.le_refl _) (by omega) h3 (fun h=>by omega)
 | f + 1,m,h1,h2,h3,q=>by
  refine hc _ _ _ (hp.lt (by omega)) (hp.lt (by omega)) ?_
  cases e:b (p.getD m 0) (p.getD (m - 1) 0) with
  | true=>exact q m (Nat.le_refl _) (by omega) h3 fun _=>e
  | false =>
   refine st_asc hp f (m+1) (by omega) (by omega) ?_ fun m' a1 a2 a3 a4=>q m' (by omega) a2 a3 a4
   have e':=O.tot _ _ (hp.lt (show m<n by omega)) (hp.lt (show m - 1<n by omega)) (hp.inj (by omega) (by omega) (by omega)) e
   intro i j hij hj
   by_cases hjm:j=m
   ·subst hjm
    by_cases hi:i=j - 1
    ·rw[hi];exact e'
    ·exact O.tr _ _ _ (hp.lt (by omega)) (hp.lt (by omega)) (hp.lt (by omega)) (h3 i (j - 1) (by omega) (by omega)) e'
   ·exact h3 i j hij (by omega)
theorem st_desc (hp:PP n p){Q:Array Nat×Nat×Nat→Shared→Prop}:∀(f m:Nat),1≤m→m+f=n→Dd b m p→(∀m',m≤m'→m'≤n→Dd b m' p→Q (p,m',0) s)→(kas_desc f p m 0).kasWp cmp Q s
 | 0,m,h1,h2,h3,q=>q m (Nat.le_refl _) (by omega) h3
 | f + 1,m,h1,h2,h3,q=>by
  refine hc _ _ _ (hp.lt (by omega)) (hp.lt (by omega)) ?_
  cases e:b (p.getD m 0) (p.getD (m - 1) 0) with
  | true =>
   refine st_desc hp f (m+1) (by omega) (by omega) ?_ fun m' a1 a2 a3=>q m' (by omega) a2 a3
   intro i j hij hj
   by_cases hjm:j=m
   ·subst hjm
    by_cases hi:i=j - 1
    ·rw[hi];exact e
    ·exact O.tr _ _ _ (hp.lt (by omega)) (hp.lt (by omega)) (hp.lt (by omega)) e (h3 i (j - 1) (by omega) (by omega))
   ·exact h3 i j hij (by omega)
  | false =>
   have e':=O.tot _ _ (hp.lt (show m<n by omega)) (hp.lt (show m - 1<n by omega)) (hp.inj (by omega) (by omega) (by omega)) e
   refine hc _ _ _ (hp.lt (by omega)) (hp.lt (by omega)) ?_
   rw[e']
   exact q m (Nat.le_refl _) (by omega) h3
omit O hc in
theorem rev_pp (hp:PP n p)(i j:Nat):PP n (kas_rev p i j):=((mirror_perm p i j _).toList).trans hp
omit O hc in
theorem rev_sd (hp:PP n p){m:Nat}(hm:m≤n)(h:Dd b m p):Sd b m (kas_rev p 0 m):=by
 have hs:=hp.size
 have e:∀k,k<m→(kas_rev p 0 m).getD k 0=p.getD (m - 1 - k) 0:=fun k hk=>by
  rw[gd,gd]
  unfold kas_rev
  rw[getElem?_mirror_all (by omega),if_pos ⟨Nat.zero_le _,hk⟩,Nat.zero_add]
 intro i j hij hj
 rw[e i (by omega),e j hj]
 exact h _ _ (by omega) (by omega)
theorem st_tail (hp:PP n p){m:Nat}(h1:1≤m)(hm:m≤n)(h:Dd b m p){Q:Nat×Array Nat→Shared→Prop}(q:∀m' p',PP n p'→1≤m'→m'≤n→Sd b m' p'→Q (m',p') s):(kas_tail3 m n p).kasWp cmp Q s:=by
 unfold kas_tail3
 rw[KasT.kasWp_bind]
 exact st_asc O hc (rev_pp hp 0 m) (n - m) m h1 (by omega) (rev_sd hp hm h) fun m' a1 a2 a3 _=>q m' _ (rev_pp hp 0 m) (by omega) a2 a3
theorem st_count (hp:PP n p)(h2:2≤n){Q:Nat×Array Nat→Shared→Prop}(q:∀m' p',PP n p'→1≤m'→m'≤n→Sd b m' p'→Q (m',p') s):(kas_count n p).kasWp cmp Q s:=by
 unfold kas_count
 rw[KasT.kasWp_bind]
 refine st_asc O hc hp (n - 1) 1 (Nat.le_refl _) (by omega) (fun i j hij hj=>by omega) fun m a1 a2 a3 a4=>?_
 by_cases e:m=n
 ·rw[if_pos (by simp[e])]
  exact q m p hp a1 a2 a3
 ·rw [if_neg (by simp[e])]
  by_cases g:m > 1
  ·rw[if_pos g]
   refine hc _ _ _ (hp.lt (by omega)) (hp.lt (by omega)) ?_
   rw[a3 0 (m - 1) (by omega) (by omega)]
   exact q m p hp a1 a2 a3
  ·rw [if_neg g]
   have m1:m=1:=by omega
   subst m1
   unfold kas_descPart
   rw[KasT.kasWp_bind]
   have a4':=a4 (by omega)
   refine st_desc O hc hp (n - (1+1)) (1+1) (by omega) (by omega) (fun i j hij hj=>?_) fun m' b1 b2 b3=>?_
   ·have:i=0∧j=1:=by omega
    rw[this.1,this.2]
    exact a4'
   ·rw[if_neg (by show ¬0 > 0;omega)]
    exact st_tail O hc hp (by omega:1≤m') b2 b3 q
theorem st_place (hp:PP n p){k:Nat}(hk:k<n)(sd:Sd b k p){Q:Nat→Shared→Prop}(q:∀l,l≤k→(∀i,i<l→b (p.getD i 0) (p.getD k 0)=true)→(∀i,l≤i→i<k→b (p.getD k 0) (p.getD i 0)=true)→Q l s) :
  ∀(f l r:Nat),l≤r→r≤k→r - l≤f→(∀i,i<l→b (p.getD i 0) (p.getD k 0)=true)→(∀i,r≤i→i<k→b (p.getD k 0) (p.getD i 0)=true)→(kas_place p k f l r).kasWp cmp Q s
 | 0,l,r,h1,h2,h3,ha,hb=>q l (by omega) ha fun i hi=>hb i (by omega)
 | f + 1,l,r,h1,h2,h3,ha,hb=>by
  unfold kas_place
  by_cases g:l≥r
  ·rw[if_pos g]
   exact q l (by omega) ha fun i hi=>hb i (by omega)
  ·rw [if_neg g]
   have mk:(l+r) / 2<k:=by omega
   refine hc _ _ _ (hp.lt (by omega)) (hp.lt (by omega)) ?_
   cases e:b (p.getD k 0) (p.getD ((l+r) / 2) 0) with
   | true =>
    refine st_place hp hk sd q f l ((l+r) / 2) (by omega) (by omega) (by omega) ha fun i hi hik=>?_
    by_cases z:i=(l+r) / 2
    ·rw[z];exact e
    ·exact O.tr _ _ _ (hp.lt (by omega)) (hp.lt (by omega)) (hp.lt (by omega)) e (sd _ i (by omega) hik)
   | false =>
    have e':=O.tot _ _ (hp.lt hk) (hp.lt (show(l+r) / 2<n by omega)) (hp.inj hk (by omega) (by omega)) e
    refine st_place hp hk sd q f ((l+r) / 2+1) r (by omega) (by omega) (by omega) (fun i hi=>?_) hb
    by_cases z:i=(l+r) / 2
    ·rw[z];exact e'
    ·exact O.tr _ _ _ (hp.lt (by omega)) (hp.lt (by omega)) (hp.lt (by omega)) (sd i _ (by omega) mk) e'
theorem st_bin {Q:Array Nat→Shared→Prop}(q:∀p',PP n p'→Sd b n p'→Q p' s):∀(f k:Nat) (p:Array Nat),PP n p→k+f=n→Sd b k p→(kas_bin f p k).kasWp cmp Q s
 | 0,k,p,hp,h1,sd=>q p hp ((show k=n by omega)▸sd)
 | f + 1,k,p,hp,h1,sd=>by
  unfold kas_bin
  rw[KasT.kasWp_bind]
  refine st_place O hc hp (show k<n by omega) sd (fun l hl ha hb=>?_) k 0 k (Nat.zero_le _) (Nat.le_refl _) (by omega) (fun i hi=>by omega) (fun i hi hk=>by omega)
  have hs:=hp.size
  have e:∀i,(bubble p k (k - l)).getD i 0=if i=l then p.getD k 0 else if l<i∧i≤k then p.getD (i - 1) 0 else p.getD i 0:=fun i=>by
   rw[gd,getElem?_bubble (by omega) _ (by omega)]
   rw[show k - (k - l)=l by omega]
   repeat' split
   all_goals rw[gd]
  refine st_bin q f (k+1) (bubble p k (k - l)) (((bubble_perm p k _).toList).trans hp) (by omega) fun i j hij hj=>?_
  rw[e i,e j]
  by_cases c1:i=l
  ·rw[if_pos c1,if_neg (by omega),if_pos (by omega)]
   exact hb _ (by omega) (by omega)
  ·rw [if_neg c1]
   by_cases c2:j=l
   ·rw[if_pos c2,if_neg (by omega)]
    exact ha i (by omega)
   ·rw [if_neg c2]
    by_cases c3:l<j
    ·rw[if_pos (show l<j∧j≤k by omega)]
     by_cases c4:l<i
     ·rw[if_pos (by omega)];exact sd _ _ (by omega) (by omega)
     ·rw[if_neg (by omega)];exact sd _ _ (by omega) (by omega)
    ·rw[if_neg (show ¬(l<j∧j≤k) by omega),if_neg (by omega)]
     exact sd _ _ hij (by omega)
theorem st_sort (h2:2≤n){Q:Array Nat→Shared→Prop}(q:∀p',PP n p'→Sd b n p'→Q p' s):(kas_sort n).kasWp cmp Q s:=by
 unfold kas_sort
 rw[KasT.kasWp_bind]
 refine st_count O hc (p:=List.toArray (List.range n)) (by unfold PP;exact List.Perm.refl _) h2 fun m p' hp a1 a2 a3=>?_
 dsimp only
 by_cases g:m<n
 ·rw[if_pos g]
  rw[show max m 1=m by omega]
  exact st_bin O hc q (n - m) m p' hp (by omega) a3
 ·rw[if_neg g]
  exact q p' hp ((show m=n by omega)▸a3)
end
end L2
namespace L2
open PySem PySem.W PyProof.Rows
def akLt:Key→Key→Bool
 | .inl i,.inl j=>decide (i<j)
 | .inr a,.inr b=>decide (a.cps.toList<b.cps.toList)
 | _,_=>false
def akOk:Key→Key→Bool
 | .inl _,.inl _=>true
 | .inr _,.inr _=>true
 | _,_=>false
def ksLt:List Key→List Key→Bool
 | [],[]=>false
 | [],_::_=>true
 | _::_,[]=>false
 | x::xs,y::ys=>if x=y then ksLt xs ys else akLt x y
def ksOk:List Key→List Key→Bool
 | x::xs,y::ys=>akOk x y&&ksOk xs ys
 | _,_=>true
section
variable {prog:Program}{w:World}{A:Around}{E:Value→Shared→Prop}{s:Shared}
theorem one_lt {x y:Key}{p q:Value}{b:Bool}{Q:Bool→Shared→Prop}(o:akOk x y=true)(rp:RelV (kV x) p)(rq:RelV (kV y) q)(h:Q (akLt x y) s):wpAny (model prog w) A (oneLt' b p q) Q E s:=by
 cases x with
 | inl i =>
  cases y with
  | inl j =>
   obtain⟨t,rfl⟩:=rp
   obtain⟨u,rfl⟩:=rq
   cases b with
   | true=>exact oneLt_int h
   | false=>exact kat_one _ _ (lt_int h)
  | inr j=>cases o
 | inr i =>
  cases y with
  | inl j=>cases o
  | inr j =>
   obtain⟨t,rfl⟩:=rp
   obtain⟨u,rfl⟩:=rq
   cases b with
   | true=>exact oneLt_str h
   | false=>exact kat_one _ _ (lt_str h)
theorem one_eq {x y:Key}{p q:Value}{Q:Bool→Shared→Prop}(o:akOk x y=true)(rp:RelV (kV x) p)(rq:RelV (kV y) q)(h:Q (decide (x=y)) s):wpAny (model prog w) A (eqBool p q) Q E s:=by
 cases x with
 | inl i =>
  cases y with
  | inl j =>
   obtain⟨t,rfl⟩:=rp
   obtain⟨u,rfl⟩:=rq
   refine wpAny_eqBool_int ?_
   have:(i == j)=decide ((Sum.inl i:Key)=.inl j):=by by_cases z:i=j <;>simp[z]
   rw[this];exact h
  | inr j=>cases o
 | inr i =>
  cases y with
  | inl j=>cases o
  | inr j =>
   obtain⟨t,rfl⟩:=rp
   obtain⟨u,rfl⟩:=rq
   refine wpAny_eqBool_str ?_
   have:decide (i=j)=decide ((Sum.inr i:Key)=.inr j):=by by_cases z:i=j <;>simp[z]
   rw[this];exact h
theorem kat_lex {fin:Bool}{Q:Bool→Shared→Prop}:∀(xs ys:List Key) (us vs:List Value) (i:Nat),Vals (xs.map kV) us→Vals (ys.map kV) vs→ksOk xs ys=true→fin=decide (xs.length<ys.length)→Q (ksLt xs ys) s→KatLex prog w A true fin Q (us.zip vs) i s
 | [],[],us,vs,i,r1,r2,o,f,q=>by
  cases r1;cases r2
  refine kat_nil ?_
  rw[f];exact q
 | [],y::ys,us,vs,i,r1,r2,o,f,q=>by
  cases r1
  refine kat_nil ?_
  rw[f,decide_eq_true (by simp)];exact q
 | x::xs,[],us,vs,i,r1,r2,o,f,q=>by
  cases r2
  rw[List.zip_nil_right]
  refine kat_nil ?_
  rw[f,decide_eq_false (by simp)];exact q
 | x::xs,y::ys,us,vs,i,r1,r2,o,f,q=>by
  cases r1 with
  | cons rp r1 =>
  cases r2 with
  | cons rq r2 =>
  unfold ksOk at o
  rw[Bool.and_eq_true] at o
  rw[List.zip_cons_cons]
  refine kat_cons (one_eq o.1 rp rq ?_)
  unfold ksLt at q
  by_cases z:x=y
  ·rw[decide_eq_true z]
   rw[if_pos z] at q
   exact kat_yes (kat_lex xs ys _ _ (i+1) r1 r2 o.2 (by rw[f];simp) q)
  ·rw[decide_eq_false z]
   rw[if_neg z] at q
   exact kat_no (one_lt o.1 rp rq q)
end
theorem nl_total:∀{a b:List Nat},¬a<b→a≠b→b<a:=fun {a b} h z=>by
 have h1:=List.not_lt.mp h
 rcases Classical.em (b<a) with c|c
 ·exact c
 ·exact absurd (List.le_antisymm (List.not_lt.mp c) h1) z
theorem str_eq {a b:Str}(h:a.cps.toList=b.cps.toList):a=b:=by
 cases a;cases b
 simp only at h
 congr 1
 exact Array.toList_inj.mp h
theorem akLt_tot {x y:Key}(o:akOk x y=true)(z:x≠y)(h:akLt x y=false):akLt y x=true:=by
 cases x with
 | inl i =>
  cases y with
  | inl j =>
   have h':decide (i<j)=false:=h
   have:i≠j:=fun e=>z (by rw[e])
   have h2:=of_decide_eq_false h'
   show decide (j<i)=true
   exact decide_eq_true (by omega)
  | inr j=>cases o
 | inr i =>
  cases y with
  | inl j=>cases o
  | inr j =>
   have h2:=of_decide_eq_false (show decide (i.cps.toList<j.cps.toList)=false from h)
   exact decide_eq_true (nl_total h2 fun e=>z (by rw[str_eq e]))
theorem akLt_ir (x:Key):akLt x x=false:=by
 cases x with
 | inl i=>exact decide_eq_false (by omega)
 | inr i=>exact decide_eq_false (List.lt_irrefl _)
theorem akLt_tr:∀{x y z:Key},akLt x y=true→akLt y z=true→akLt x z=true
 | .inl i,.inl j,.inl k,h1,h2=>by
  have a:i<j:=of_decide_eq_true h1
  have b:j<k:=of_decide_eq_true h2
  exact decide_eq_true (by omega)
 | .inr i,.inr j,.inr k,h1,h2=>decide_eq_true (List.lt_trans (of_decide_eq_true h1) (of_decide_eq_true h2))
 | .inl _,.inr _,_,h1,_=>by cases h1
 | .inr _,.inl _,_,h1,_=>by cases h1
 | .inl _,.inl _,.inr _,_,h2=>by cases h2
 | .inr _,.inr _,.inl _,_,h2=>by cases h2
theorem ksLt_ir:∀xs:List Key,ksLt xs xs=false
 | []=>rfl
 | x::xs=>by unfold ksLt;rw[if_pos rfl];exact ksLt_ir xs
theorem ksLt_tot:∀{xs ys:List Key},ksOk xs ys=true→xs≠ys→ksLt xs ys=false→ksLt ys xs=true
 | [],[],_,z,_=>absurd rfl z
 | [],_::_,_,_,h=>by cases h
 | _::_,[],_,_,_=>rfl
 | x::xs,y::ys,o,z,h=>by
  unfold ksOk at o
  rw[Bool.and_eq_true] at o
  unfold ksLt at h ⊢
  by_cases e:x=y
  ·rw[if_pos e] at h
   rw[if_pos e.symm]
   exact ksLt_tot o.2 (fun q=>z (by rw[e,q])) h
  ·rw[if_neg e] at h
   rw[if_neg fun q=>e q.symm]
   exact akLt_tot o.1 e h
theorem ksLt_tr:∀{xs ys zs:List Key},ksLt xs ys=true→ksLt ys zs=true→ksLt xs zs=true
 | [],[],_,h,_=>by cases h
 | [],_::_,[],_,h=>by cases h
 | [],_::_,_::_,_,_=>rfl
 | _::_,[],_,h,_=>by cases h
 | _::_,_::_,[],_,h=>by cases h
 | x :: xs,y::ys,z::zs,h1,h2=>by
  unfold ksLt at h1 h2 ⊢
  by_cases e1:x=y
  ·subst e1
   rw[if_pos rfl] at h1
   by_cases e2:x=z
   ·rw[if_pos e2] at h2 ⊢
    exact ksLt_tr h1 h2
   ·rw[if_neg e2] at h2 ⊢
    exact h2
  ·rw [if_neg e1] at h1
   by_cases e2:y=z
   ·subst e2
    rw[if_neg e1]
    exact h1
   ·rw [if_neg e2] at h2
    have h3:=akLt_tr h1 h2
    by_cases e3:x=z
    ·subst e3
     rw[akLt_ir] at h3
     cases h3
    ·rw[if_neg e3]
     exact h3
end L2
namespace L2
open PySem PySem.W PyProof.Rows
section
variable {prog:Program}{w:World}{A:Around}{E:Value→Shared→Prop}{s:Shared}
abbrev sortMid (h:Heap)(a:Addr)(vs:List Value):Heap:=((h.update a (Obj.mapSeq fun _=>#[])).push (seqObj "tuple" vs.toArray 0)).push (seqObj "list" #[] 0)
theorem list_sort_treeA {κ:SortKind}{b:Nat→Nat→Bool}{a:Addr}{vs:List Value}{n:Nat}{P:PySem.Fin→Shared→Prop}(ho:s.heap.get? a=some (seqObj "list" vs.toArray n))(O:Ord vs.length b)
  (hkk:2≤vs.length→∀(Q:SortKind→Shared→Prop),Q κ {s with heap:=sortMid s.heap a vs}→wpAny (model prog w) A (keyKind' vs.toArray) Q E {s with heap:=sortMid s.heap a vs})
  (hc:∀i j (C:Bool→Shared→Prop),i<vs.length→j<vs.length→C (b i j) {s with heap:=sortMid s.heap a vs}→kas_ask prog w A κ vs i j C {s with heap:=sortMid s.heap a vs}) (h64:vs.length<64)
  (h:∀p,PP vs.length p→Sd b vs.length p→P (.done (.ret .none)) {s with heap:=sortedHeap s.heap a vs (List.toArray (p.toList.map fun i=>vs.getD i Value.none))}) :
  wpAny (model prog w) A (Builtin.«list.sort» ⟨[.ref a],[]⟩) P E s:=by
 rw[list_sort_plain]
 have ha:a<s.heap.objs.size:=Heap.lt_size ho
 refine wpAny_bind (listItems_at ho rfl ?_)
 refine wpAny_bind (listUpdate_at ho rfl ?_)
 obtain⟨e1,ho1⟩:∃e1,(s.heap.update a (Obj.mapSeq fun _=>#[])).get? a=some (seqObj "list" #[] e1):=⟨_,get?_update_seq ho (fun _=>#[])⟩
 refine wpAny_bind (seqEpoch_at ho1 rfl ?_)
 refine wpAny_bind (wpAny_newTuple ?_)
 refine wpAny_bind (wpAny_newList ?_)
 refine wpAny_holding ?_
 have ho6:(sortMid s.heap a vs).get? a=some (seqObj "list" #[] e1):=by
  rw[Heap.get?_push_ne _ _ _ (by rw[size_push',Heap.size_update];exact Nat.ne_of_lt (Nat.lt_succ_of_lt ha)),Heap.get?_push_ne _ _ _ (by rw[Heap.size_update];exact Nat.ne_of_lt ha)]
  exact ho1
 show wpAny (model prog w) A _ P E {s with heap:=sortMid s.heap a vs}
 dsimp only
 have hsz:vs.toArray.size=vs.length:=by simp
 by_cases h2:vs.toArray.size<2
 ·rw [if_pos h2,if_pos h2]
  refine wpAny_bind (wpAny_pure ?_)
  rw[StateT.run_pure]
  refine wpAny_bind (wpAny_pure ?_)
  dsimp only
  refine wpAny_bind (seqEpoch_at ho6 rfl ?_)
  refine wpAny_bind (listUpdate_at ho6 rfl ?_ (hsz2:=by rw[Array.size_map];show(pairsOf vs).size≤_;rw[pairsOf_size,sizeLine_eq];omega))
  simp only[bne_self_eq_false,Bool.false_eq_true,if_false]
  have f:=h (List.toArray (List.range vs.length)) (List.Perm.refl _) (fun i j hij hj=>by omega)
  have e:(List.toArray ((List.toArray (List.range vs.length)).toList.map fun i=>vs.getD i Value.none))=(vs.toArray.zip vs.toArray).map (·.2):=by
   apply Array.toList_inj.mp
   apply List.ext_getElem
   ·simp
   ·intro i h1 h2
    have hi:i<vs.length:=by simpa using h1
    simp[hi]
  rw[e] at f
  exact wpAny_pure f
 ·rw [if_neg h2,if_neg h2]
  rw[hsz] at h2
  refine wpAny_bind (hkk (by omega) _ ?_)
  refine wpAny_bind (wpAny_mono (kat_run (ks:=vs) (κ:=κ) (Q:=fun st' s'=>s'={s with heap:=sortMid s.heap a vs}∧∃p:Array Nat,PP vs.length p∧Sd b vs.length p∧arrOf st'=p.map (kas_item (vs.toArray.zip vs.toArray))∧failedOf st'=none)
   (G:=fun p s'=>s'={s with heap:=sortMid s.heap a vs}∧PP vs.length p∧Sd b vs.length p) rfl (by omega) h64 (fun p st' s' a1 a2 a3 a4=>⟨a4.1,p,a4.2.1,a4.2.2,a2,a3⟩)
   (st_sort O hc (by omega) fun p' q1 q2=>⟨rfl,q1,q2⟩)) ?_ fun _ _ e=>e)
  rintro⟨⟨⟩,st'⟩ s' ⟨rfl,p,hp,sd,har,hf⟩
  dsimp only
  have hout:=kat_snds (ks:=vs) rfl har
  rw[hout]
  have hz:(List.toArray (p.toList.map fun i=>vs.getD i Value.none)).size=vs.length:=by rw[List.size_toArray,List.length_map,Array.length_toList];exact hp.size
  refine wpAny_bind (seqEpoch_at ho6 rfl ?_)
  refine wpAny_bind (listUpdate_at ho6 rfl ?_ (hsz2:=by rw[hz,sizeLine_eq];omega))
  rw[hf]
  simp only[bne_self_eq_false,Bool.false_eq_true,if_false]
  exact wpAny_pure (h p hp sd)
end
def kInt:Key→Bool
 | .inl _=>true
 | .inr _=>false
structure Srtb (kss:List (List Key)):Prop where
 ne:∃c,∀ks∈kss,∃k r,ks=k::r∧kInt k=c
 ok:∀x∈kss,∀y∈kss,ksOk x y=true
 nd:kss.Nodup
section
variable {X:Cx}
theorem Srtb.ord {kss:List (List Key)}(h:Srtb kss):Ord kss.length fun i j=>ksLt (kss.getD i []) (kss.getD j []):=by
 have mem:∀i,i<kss.length→kss.getD i []∈kss:=fun i hi=>by rw[List.getD_eq_getElem?_getD,List.getElem?_eq_getElem hi];exact List.getElem_mem hi
 refine⟨fun i j k _ _ _ a b=>ksLt_tr a b,fun i j hi hj hij e=>ksLt_tot (h.ok _ (mem i hi) _ (mem j hj)) (fun z=>hij ?_) e,fun i _=>ksLt_ir _⟩
 rw[List.getD_eq_getElem?_getD,List.getD_eq_getElem?_getD,List.getElem?_eq_getElem hi,List.getElem?_eq_getElem hj] at z
 have pw:=List.pairwise_iff_getElem.mp h.nd
 rcases Nat.lt_trichotomy i j with c|c|c
 ·exact absurd z (pw i j hi hj c)
 ·exact c
 ·exact absurd z.symm (pw j i hj hi c)
end
end L2
namespace L2
open PySem PySem.W PyProof.Rows
def insP (x:D):List D→List D
 | []=>[x]
 | y::ys=>if ksLt (kkOf x) (kkOf y) then x::y::ys else y::insP x ys
def sortP (ds:List D):List D:=ds.foldr insP []
theorem insP_perm (x:D):∀ys:List D,(insP x ys).Perm (x::ys)
 | []=>List.Perm.refl _
 | y::ys=>by
  unfold insP
  split
  ·exact List.Perm.refl _
  ·exact((insP_perm x ys).cons y).trans (List.Perm.swap x y ys)
theorem sortP_perm:∀ds:List D,(sortP ds).Perm ds
 | []=>List.Perm.refl _
 | d::ds=>(insP_perm d (sortP ds)).trans ((sortP_perm ds).cons d)
def RisP (ds:List D):Prop:=ds.Pairwise fun a b=>ksLt (kkOf a) (kkOf b)=true
theorem insP_ris {x:D}:∀{ys:List D},RisP ys→(∀y∈ys,ksOk (kkOf x) (kkOf y)=true∧kkOf x≠kkOf y)→RisP (insP x ys)
 | [],_,_=>List.pairwise_singleton _ _
 | y :: ys,r,h=>by
  unfold insP
  obtain⟨r1,r2⟩:=List.pairwise_cons.mp r
  by_cases e:ksLt (kkOf x) (kkOf y)=true
  ·rw[if_pos e]
   refine List.pairwise_cons.mpr ⟨fun z hz=>?_,r⟩
   rcases List.mem_cons.mp hz with rfl|hz
   ·exact e
   ·exact ksLt_tr e (r1 z hz)
  ·rw [if_neg e]
   refine List.pairwise_cons.mpr ⟨fun z hz=>?_,insP_ris r2 fun z hz=>h z (List.mem_cons_of_mem _ hz)⟩
   rcases List.mem_cons.mp ((insP_perm x ys).mem_iff.mp hz) with rfl|hz
   ·obtain⟨o,n⟩:=h y List.mem_cons_self
    exact ksLt_tot o n (by simpa using e)
   ·exact r1 z hz
theorem sortP_ris:∀{ds:List D},Srtb (ds.map kkOf)→RisP (sortP ds)
 | [],_=>List.Pairwise.nil
 | d::ds,h=>by
  have nd:=h.nd
  rw[List.map_cons,List.nodup_cons] at nd
  have h':Srtb (ds.map kkOf):=by
   obtain⟨c,hc⟩:=h.ne
   exact⟨⟨c,fun ks hk=>hc ks (by rw[List.map_cons];exact List.mem_cons_of_mem _ hk)⟩,fun x hx y hy=>h.ok x (by rw[List.map_cons];exact List.mem_cons_of_mem _ hx) y (by rw[List.map_cons];exact List.mem_cons_of_mem _ hy),nd.2⟩
  refine insP_ris (sortP_ris h') fun y hy=>?_
  have hy':=(sortP_perm ds).mem_iff.mp hy
  have my:kkOf y∈ds.map kkOf:=List.mem_map.mpr ⟨y,hy',rfl⟩
  exact⟨h.ok _ (by rw[List.map_cons];exact List.mem_cons_self) _ (by rw[List.map_cons];exact List.mem_cons_of_mem _ my),fun e=>nd.1 (e▸my)⟩
theorem RisP.unique {a b:List D}(ha:RisP a)(hb:RisP b)(p:a.Perm b):a=b:=List.Perm.eq_of_pairwise (fun x y _ _ h k=>by have:=ksLt_tr h k;rw[ksLt_ir] at this;cases this) ha hb p
section
variable {K:PySem.W.Frag}{cl:Nat→Addr}{F:Hp}
theorem Dts.atoms:∀{vs:List V}{ds:List D},Dts K cl F vs ds→ds.all isAt=true→vs=(ds.map kOf).map kV
 | _,_,.nil,_=>rfl
 | _,_,.cons q r,h=>by
  rw[List.all_cons,Bool.and_eq_true] at h
  have e:=Dts.atoms r h.2
  cases q with
  | int i=>rw[e];rfl
  | str l ok=>rw[e];rfl
  | _=>simp[isAt] at h
theorem Dts.tups:∀{vs:List V}{ds:List D},Dts K cl F vs ds→(∀d∈ds,isTA d=true)→∃ts:List Addr,vs=ts.map V.ref∧ts.length=ds.length∧∀i,i<ds.length→SqT K F (ts.getD i 0) (((ds.map kkOf).getD i []).map kV)
 | _,_,.nil,_=>⟨[],rfl,rfl,fun i hi=>by simp at hi⟩
 | _,_,.cons q r,h=>by
  obtain⟨ts,e1,e2,e3⟩:=Dts.tups r fun d hd=>h d (List.mem_cons_of_mem _ hd)
  have h0:=h _ List.mem_cons_self
  cases q with
  | tup sq dq =>
   rename_i a xs ds'
   have ex:=dq.atoms h0
   refine⟨a::ts,by rw[e1];rfl,by simp[e2],fun i hi=>?_⟩
   cases i with
   | zero=>show SqT K F a ((ds'.map kOf).map kV);rw[← ex];exact sq
   | succ i=>exact e3 i (by simpa using hi)
  | _=>simp[isTA] at h0
end
section
variable {X:Cx}{cl:Nat→Addr}{E:XK}{e:Expr}{fa:Rho→Rs D}{p pos:Pos}
theorem map_at {α:Type}{d:α}(ds:List α)(π:List Nat)(hp:π.Perm (List.range ds.length)):(π.map fun i=>ds.getD i d).Perm ds:=by
 have h:=hp.map fun i=>ds.getD i d
 have e:(List.range ds.length).map (fun i=>ds.getD i d)=ds:=by
  apply List.ext_getElem
  ·simp
  ·intro i h1 h2
   simp[h2]
 rw[e] at h
 exact h
end
end L2
namespace L2
open PySem PySem.Spec PyProof.Rows
def gz:D→Option (List D)
 | .tup ds=>some ds
 | .lst ds=>some ds
 | .str l=>if l.all (· < 128) then some (l.map fun c=>.str [c]) else none
 | _=>none
end L2
namespace L2
open PySem PySem.Spec PyProof.Rows
end L2
namespace L2
open PySem PySem.Spec PyProof.Rows
end L2
namespace L2
open PySem PySem.Spec PyProof.Rows
end L2
namespace L2
open PySem PySem.Spec PyProof.Rows
end L2
namespace L2
open PySem PySem.Spec PyProof.Rows
inductive Dz (K:PySem.W.Frag)(x:Str)(st:Stmt):Prop
 | mk {f:Addr}{oc kV dc pm cd ct:Value}{od an:Option Addr}{sl:Array (Option Value)} (a:PySem.W.nsIn K mainGlobals x=some (some (.ref f))) (l:K.lookup f=some ⟨oc,od,.func (PySem.W.fnOf x x (defArgs st) (defBody st) (zm st) .none kV dc pm an cd ct),sl⟩) (c:PySem.W.codeIn K cd x=true) (k:PySem.W.keepIn K (.ref f)=true):Dz K x st
theorem Dz.dn {K:PySem.W.Frag}{h:Heap}{mg:Str→Option Value}{x:Str}{st:Stmt}(z:Dz K x st)(X:K.In h)(G:h.Ns mainGlobals mg)(ps:List Str)(hb:∀(kV doc pm:Value) (an:Option Addr) (cdv ct:Value) (us:List Value),us.length=ps.length→bindArgs (PySem.W.fnOf x x (defArgs st) (defBody st) (zm st) .none kV doc pm an cdv ct) ⟨us,[]⟩=pure (ps.zip us)):Nonempty (Dn K mg x st ps):=by
 obtain⟨a,l,c,k⟩:=z
 exact⟨⟨_,_,fun_mk l c k,PySem.W.mg_of X G a,(fun_mk l c k).binds hb⟩⟩
inductive Oz (K:PySem.W.Frag)(x:Str):Prop
 | mk {a:Addr} (y:PySem.W.nsIn K mainGlobals x=some (some (.ref a))) (q:PySem.W.excIn K a [.type "ValueError", .type "Exception", .type "BaseException", .type "object"] "ValueError.__new__" = true):Oz K x
theorem Oz.ow {K:PySem.W.Frag}{h:Heap}{mg:Str→Option Value}{x:Str}(z:Oz K x)(X:K.In h)(G:h.Ns mainGlobals mg):Nonempty (Own K mg x):=by
 obtain⟨y,q⟩:=z
 exact⟨⟨_,PySem.W.mg_of X G y,q⟩⟩
section
variable {α:Type}{p:List α→Prop}
theorem bd0 (h:p [])(us:List α)(e:us.length=0):p us:=by obtain rfl:=List.length_eq_zero_iff.mp e;exact h
theorem bd1 (h:∀a,p [a])(us:List α)(e:us.length=1):p us:=by obtain⟨_,rfl⟩:=len1 e;exact h _
theorem bd2 (h:∀a b,p [a,b])(us:List α)(e:us.length=2):p us:=by obtain⟨_,_,rfl⟩:=len2 e;exact h _ _
theorem bd3 (h:∀a b c,p [a,b,c])(us:List α)(e:us.length=3):p us:=by obtain⟨_,_,_,rfl⟩:=len3 e;exact h _ _ _
theorem bd4 (h:∀a b c d,p [a,b,c,d])(us:List α)(e:us.length=4):p us:=by obtain⟨_,_,_,_,rfl⟩:=len4 e;exact h _ _ _ _
theorem bd5 (h:∀a b c d f,p [a,b,c,d,f])(us:List α)(e:us.length=5):p us:=by obtain⟨_,_,_,_,_,rfl⟩:=len5 e;exact h _ _ _ _ _
end
end L2
namespace L2
open PySem PySem.W PySem.Spec PyProof.Rows
def fsB (N P:List Str)(sc:Scope):Bool:=decide (sc.kind=.function) && !sc.isCoroutine && !sc.isGenerator&&decide N.Nodup&&decide (N.take P.length=P)&&P.all (fun x=>decide (sc.names.lookup x=some .local∨sc.names.lookup x=some .cell))&&sc.names.all fun y=>decide (y.2≠.free)
theorem fsc {N P:List Str}{sc:Scope}(h:fsB N P sc=true):FnScope N P sc:=by
 unfold fsB at h
 simp only[Bool.and_eq_true,decide_eq_true_eq,List.all_eq_true,Bool.not_eq_true'] at h
 exact⟨h.1.1.1.1.1.1,h.1.1.1.1.1.2,h.1.1.1.1.2,h.1.1.1.2,h.1.1.2,h.1.2,h.2⟩
section
variable {X:Cx}{cl:Nat→Addr}{E:XK}{x:Str}{p pos:Pos}{e:Expr}{es:List Expr}{fs:Rho→Rs (List D)}{k k' n:Nat}{st:Stmt}{ps:List Str}{d:Dn X.K X.mg x st ps}{fn:List D→Rs D}
theorem zx (G:FnOk X.prog X.w X.K X.mg X.base (CX1 X.prog X.w) k d.f d.fd ps (spD X.K cl fn n))(hr:Room k' X.A)(hx:Passes (CX1 X.prog X.w) X E)(ha:XA X cl E (e::es) fs)(he:starEach (e::es) X.env=(false,eval e X.env)::starEach es X.env)(hk:k≤k':=by decide)(hg:Gl X x:=by rfl)(hdb:(x == ("__debug__" : Str))=false:=by decide)(hpl:(backTo pos (starEach es X.env)).any (·.1)=false:=by rfl):XE X cl E (.Call (.Name x p) (e::es) [] pos) (fA (ari n fn) fs) :=
 xe_call G (hr.mono hk) hg d.mg d.fn.kp d.bd hx ha he hdb hpl
end
noncomputable def Dz.D {K:PySem.W.Frag}{h:Heap}{mg:Str→Option Value}{x:Str}{st:Stmt}{ps:List Str}(z:Dz K x st)(X:K.In h)(G:h.Ns mainGlobals mg)(hb:∀(kV doc pm:Value) (an:Option Addr) (cdv ct:Value) (us:List Value),us.length=ps.length→bindArgs (PySem.W.fnOf x x (defArgs st) (defBody st) (zm st) .none kV doc pm an cdv ct) ⟨us,[]⟩=pure (ps.zip us):=by first|exact fun _ _ _ _ _ _=>bd2 fun _ _=>rfl|exact fun _ _ _ _ _ _=>bd1 fun _=>rfl|exact fun _ _ _ _ _ _=>bd3 fun _ _ _=>rfl|exact fun _ _ _ _ _ _=>bd4 fun _ _ _ _=>rfl|exact fun _ _ _ _ _ _=>bd0 rfl|exact fun _ _ _ _ _ _=>bd5 fun _ _ _ _ _=>rfl):Dn K mg x st ps:=Classical.choice (z.dn X G ps hb)
theorem fnDD {P:Program}{w:World}{K:PySem.W.Frag}{mg:Str→Option Value}{base:Heap}{x:Str}{st:Stmt}{N ps:List Str}(m n k:Nat)(g:Rho→Out)(cl:Nat→Addr)(d:Dn K mg x st ps)(S:FnScope N ps (zm st))
  (hb:∀(cdv:Value) (A:Around) (outer:List Env) (s:Shared) (H:Hp) (E:XK),Room k (A.deeper (envOfC x (zm st) s.heap.objs.size d.f cdv))→XSs (cxOf (CX1 P w) P w K mg base N x (zm st) d.f cdv A outer s H E) cl E (defBody st) g) (hm:N.length=m:=by rfl) (hn:ps.length=n:=by rfl):FnOk P w K mg base (CX1 P w) (k+1) d.f d.fd ps (spD K cl (ye m g) n) :=
 fnD (N:=N) (ps:=ps) (k:=k) (m:=m) (n:=n) (g:=g) (cl:=cl) d.fn S hm hn hb
theorem xv {X:Cx}{cl:Nat→Addr}{E:XK}(i:Nat){x:Str}{pos:Pos}(hN:X.N[i]? = some x:=by rfl)(hv:Vis X.env.scope x:=by first|exact Or.inl rfl|exact Or.inr (Or.inl rfl)|exact Or.inr (Or.inr rfl))(hd:(x == ("__debug__" : Str))=false:=by decide)(hcd:(x == ("__classdict__" : Str))=false:=by decide):XE X cl E (.Name x pos) (fNm i):=xe_nm i (pv i hN hv hd hcd)
theorem xe_strK {X:Cx}{cl:Nat→Addr}{E:XK}{x:Str}{j pos}(l:List Nat)(h:(decide (x=T l)&&l.all (fun c=>decide (c<0x110000))&&decide (l.length≤1000000))=true):XE X cl E (.Constant (.str x) j pos) (fC (.str l)):=by
 simp only[Bool.and_eq_true,decide_eq_true_eq,List.all_eq_true] at h
 exact xe_str h.1.1 (T_ok h.1.2 h.2)
end L2
set_option maxHeartbeats 4000000
namespace Pg
open PySem L2 PyProof.Rows
def g__law_cell:Rho→Out :=
  (zO (sIf (bT (f2 (eqD false) (fNm 0) (fO mkL zB)))
  (sRet (f2 mulI (fC (.int 7)) (fNm 1)))
  sNx)
  (sRet (f2 addI (f2 ixD (fNm 0) (f2 modI (fNm 1) (fO lenD (zj (fNm 0) zB)))) (f2 mulI (fC (.int 6553)) (f2 fdivI (fNm 1) (fO lenD (zj (fNm 0) zB)))))))
def fn__law_cell:List D→Rs D:=ye 2 g__law_cell
def g__law_drawn:Rho→Out :=
  (zO (sSet 3 (f2 modI (f2 addI (f2 mulI (f2 modI (fA (ari 2 fn__law_cell) (zj (fNm 0) (zj (fNm 1) zB))) (fC (.int 2147483563))) (fC (.int 69069))) (f2 mulI (fC (.int 104723)) (f2 addI (fNm 1) (fC (.int 1))))) (fC (.int 2147483563))))
  (zO (sSet 3 (f2 modI (f2 addI (f2 mulI (fNm 3) (fNm 3)) (f2 fdivI (fNm 3) (fC (.int 3)))) (fC (.int 2147483399))))
  (sRet (f2 modI (f2 fdivI (f2 modI (f2 addI (f2 mulI (fNm 3) (fNm 3)) (f2 fdivI (fNm 3) (fC (.int 7)))) (fC (.int 2147483647))) (fC (.int 11))) (fNm 2)))))
def zJ:List D→Rs D:=ye 4 g__law_drawn
def g__law_book:Rho→Out :=
  (zO (sSetO 4 (fCp (fR rng1 (zj (fNm 2) zB)) bTrue (f2 ixD (fC (.str [97,98,99,100])) (fNm 0)) []))
  (zO (cutX (sFor 5 (fR rng1 (zj (fNm 3) zB))
  (zO (sPop 4 6 (fFl 4 (fA (ari 3 zJ) (zj (fNm 0) (zj (f2 addI (fNm 1) (fNm 5)) (zj (fO lenD (zj (fNm 4) zB)) zB))))))
  (sIce 4 (sSetO 4 (fL sortD (zj (fLs (fL2 catD (fNm 4) (fComp (fR rng1 (zj (fNm 2) zB)) bTrue (f2 addS (fNm 1) (f2 ixD (fC (.str [97,98,99,100])) (fNm 0))) [6]))) zB)))))))
  (sIce 4 (sRet (fO tupD (zj (fNm 4) zB))))))
def fn__law_book:List D→Rs D:=ye 7 g__law_book
def g__law_text:Rho→Out :=
  (zO (sSet 4 (fA (ari 3 zJ) (zj (fNm 0) (zj (fNm 1) (zj (f2 addI (fNm 3) (fC (.int 1))) zB)))))
  (sRet (fM isS joinD (fC (.str [])) (fComp (fR rng1 (zj (fNm 4) zB)) bTrue (f2 ixD (fC (.str [97,98,99,100])) (fA (ari 3 zJ) (zj (fNm 1) (zj (f2 addI (f2 addI (fNm 3) (fC (.int 1))) (fNm 0)) (zj (fNm 2) zB))))) [0,2,1]))))
def fn__law_text:List D→Rs D:=ye 5 g__law_text
def g_is_rising:Rho→Out :=
  (sRet (fO allD (zj (fLs (fCz (fNm 0) (fSl (fNm 0) (oSome (fC (.int 1))) oNone) bTrue (f2 ltS (fNm 0) (fNm 1)) [])) zB)))
def fn_is_rising:List D→Rs D:=ye 1 g_is_rising
def g_is_whole:Rho→Out :=
  (sRet (fAnd (f1 (isiD isInt) (fNm 0)) (fNot (f1 (isiD isBool) (fNm 0)))))
def fn_is_whole:List D→Rs D:=ye 1 g_is_whole
def g_is_between:Rho→Out :=
  (sRet (fAnd (fA (ari 1 fn_is_whole) (zj (fNm 0) zB)) (fCh leI leI (fNm 1) (fNm 0) (fNm 2))))
def fn_is_between:List D→Rs D:=ye 3 g_is_between
def g_is_number_of_letters:Rho→Out :=
  (sRet (fA (ari 3 fn_is_between) (zj (fNm 0) (zj (fC (.int 2)) (zj (fO lenD (zj (fC (.str [97,98,99,100])) zB)) zB)))))
def zT:List D→Rs D:=ye 1 g_is_number_of_letters
def g_is_text_of:Rho→Out :=
  (zO (sSet 2 (fSl (fC (.str [97,98,99,100])) oNone (oSome (fNm 0))))
  (sRet (fAnd (f1 (isiD isStr) (fNm 1)) (fO allD (zj (fComp (fI sgD (fNm 1)) bTrue (f2 (inC false) (fNm 0) (fNm 1)) [2]) zB)))))
def fn_is_text_of:List D→Rs D:=ye 3 g_is_text_of
def g_are_pieces:Rho→Out :=
  (zO (sIf (bOr (bNot (bT (fA (ari 1 zT) (zj (fNm 0) zB)))) (bNot (bT (f1 (isiD isTup) (fNm 1)))))
  (sRet (fC (.bl false)))
  sNx)
  (zO (sIf (bNot (bT (fCh leI leI (fC (.int 1)) (fO lenD (zj (fNm 1) zB)) (fC (.int 32)))))
  (sRet (fC (.bl false)))
  sNx)
  (zO (sIf (bNot (bT (fO allD (zj (fComp (fI tpD (fNm 1)) bTrue (fAnd (fA (ari 2 fn_is_text_of) (zj (fNm 1) (zj (fNm 0) zB))) (f2 (eqD true) (fNm 0) (fC (.str [])))) [0]) zB))))
  (sRet (fC (.bl false)))
  sNx)
  (sRet (fA (ari 1 fn_is_rising) (zj (fNm 1) zB))))))
def fn_are_pieces:List D→Rs D:=ye 2 g_are_pieces
def g_first_pair:Rho→Out :=
  (zO (cutX (sForZ 1 2 (fNm 0) (fSl (fNm 0) (oSome (fC (.int 1))) oNone)
  (sIf (bT (fM isS startsD (fNm 2) (fNm 1)))
  (sRet (fO mkT (zj (fNm 1) (zj (fNm 2) zB))))
  sNx)))
  (sRet (fC .non)))
def fn_first_pair:List D→Rs D:=ye 3 g_first_pair
def g_gone_on:Rho→Out :=
  (zO (sSetO 2 (fL szL zB))
  (zO (cutX (sFor 3 (fI lsD (fNm 1))
  (sFor 4 (fI sgD (fSl (fC (.str [97,98,99,100])) oNone (oSome (fNm 0))))
  (sApp 2 (f2 addS (fNm 3) (fNm 4))))))
  (sIce 2 (sRet (fNm 2)))))
def yj:List D→Rs D:=ye 5 g_gone_on
def g_is_apart:Rho→Out :=
  (sRet (fNot (fO anyD (zj (fComp (fI tpD (fNm 0)) bTrue (fOr (fM isS startsD (fNm 0) (fNm 1)) (fM isS startsD (fNm 1) (fNm 0))) [1]) zB))))
def zX:List D→Rs D:=ye 2 g_is_apart
def g_is_inner:Rho→Out :=
  (sRet (fO anyD (zj (fComp (fI tpD (fNm 0)) bTrue (fAnd (fM isS startsD (fNm 0) (fNm 1)) (f2 (eqD true) (fNm 0) (fNm 1))) [1]) zB)))
def zY:List D→Rs D:=ye 2 g_is_inner
def g_first_text_apart:Rho→Out :=
  (zO (sSet 2 (fO mkL (zj (fC (.str [])) zB)))
  (zO (cutX (sWh 2000 (bT (f2 (eqD true) (fNm 2) (fO mkL zB)))
  (zO (sSet 3 (fA (ari 2 yj) (zj (fNm 0) (zj (fNm 2) zB))))
  (zO (sFor 4 (fI lsD (fNm 3))
  (sIf (bT (fA (ari 2 zX) (zj (fNm 1) (zj (fNm 4) zB))))
  (sRet (fNm 4))
  sNx))
  (sSetA 2 (fCp (fI lsD (fNm 3)) (bT (fA (ari 2 zY) (zj (fNm 1) (zj (fNm 0) zB)))) (fNm 0) [1]))))))
  (sRet (fC .non))))
def fn_first_text_apart:List D→Rs D:=ye 5 g_first_text_apart
def g_first_paper:Rho→Out :=
  (zO (sSet 2 (fA (ari 1 fn_first_pair) (zj (fNm 1) zB)))
  (zO (sIf (bT (f1 (isN true) (fNm 2)))
  (sRet (fNm 2))
  sNx)
  (sRet (fA (ari 2 fn_first_text_apart) (zj (fNm 0) (zj (fNm 1) zB))))))
def fn_first_paper:List D→Rs D:=ye 3 g_first_paper
def g_is_book:Rho→Out :=
  (sRet (fAnd (fA (ari 2 fn_are_pieces) (zj (fNm 0) (zj (fNm 1) zB))) (f1 (isN false) (fA (ari 2 fn_first_paper) (zj (fNm 0) (zj (fNm 1) zB))))))
def fn_is_book:List D→Rs D:=ye 2 g_is_book
def g_require_book:Rho→Out :=
  (sIf (bNot (bT (fA (ari 2 fn_is_book) (zj (fNm 0) (zj (fNm 1) zB)))))
  (sRs 1 (zj (fC (.str [116,104,105,115,32,105,115,32,110,111,32,98,111,111,107,32,111,102,32,115,111,32,109,97,110,121,32,108,101,116,116,101,114,115])) zB))
  sNx)
def fn_require_book:List D→Rs D:=ye 2 g_require_book
def g_require_text_of:Rho→Out :=
  (sIf (bNot (bT (fA (ari 2 fn_is_text_of) (zj (fNm 0) (zj (fNm 1) zB)))))
  (sRs 3 (zj (fC (.str [116,104,105,115,32,105,115,32,110,111,32,116,101,120,116,32,111,102,32,116,104,101,115,101,32,108,101,116,116,101,114,115])) zB))
  sNx)
def z9:List D→Rs D:=ye 2 g_require_text_of
def g_cut_by:Rho→Out :=
  (zO (sSetO 2 (fL szL zB))
  (zO (sSet 3 (fC (.str [])))
  (zO (cutX (sFor 4 (fI sgD (fNm 1))
  (zO (sSet 3 (f2 addS (fNm 3) (fNm 4)))
  (sIf (bT (f2 (inD false) (fNm 3) (fNm 0)))
  (zO (sApp 2 (fNm 3))
  (sSet 3 (fC (.str []))))
  sNx))))
  (sIce 2 (sRet (fO mkT (zj (fNm 2) (zj (fNm 3) zB))))))))
def fn_cut_by:List D→Rs D:=ye 5 g_cut_by
def g_bits_for:Rho→Out :=
  (zO (sSet 1 (fC (.int 0)))
  (zO (sSet 2 (fC (.int 1)))
  (zO (cutX (sWh 64 (bT (f2 ltI (fNm 2) (fNm 0)))
  (zO (sSet 1 (f2 addI (fNm 1) (fC (.int 1))))
  (sSet 2 (f2 mulI (fNm 2) (fC (.int 2)))))))
  (sRet (fNm 1)))))
def fn_bits_for:List D→Rs D:=ye 3 g_bits_for
def g_word_for:Rho→Out :=
  (zO (sSet 2 (fC (.str [])))
  (zO (cutX (sFor 3 (fR rng1 (zj (fNm 1) zB))
  (zO (sSet 2 (f2 addS (fO strD (zj (f2 modI (fNm 0) (fC (.int 2))) zB)) (fNm 2)))
  (sSet 0 (f2 fdivI (fNm 0) (fC (.int 2)))))))
  (sRet (fNm 2))))
def fn_word_for:List D→Rs D:=ye 4 g_word_for
def g_words_of:Rho→Out :=
  (zO (sSet 1 (fA (ari 1 fn_bits_for) (zj (fO lenD (zj (fNm 0) zB)) zB)))
  (sRet (fComp (fR rng1 (zj (fO lenD (zj (fNm 0) zB)) zB)) bTrue (fA (ari 2 fn_word_for) (zj (fNm 0) (zj (fNm 1) zB))) [1])))
def fn_words_of:List D→Rs D:=ye 2 g_words_of
def g_led_by:Rho→Out :=
  (zO (sSet 2 (fA (ari 2 fn_cut_by) (zj (fNm 0) (zj (fNm 1) zB))))
  (zO (sSet 3 (f2 zipDD (fNm 0) (fA (ari 1 fn_words_of) (zj (fNm 0) zB))))
  (sRet (fO mkT (zj (fM isS joinD (fC (.str [])) (fComp (fI lsD (f2 ixD (fNm 2) (fC (.int 0)))) bTrue (f2 getD (fNm 1) (fNm 0)) [3])) (zj (f2 ixD (fNm 2) (fC (.int 1))) zB))))))
def fn_led_by:List D→Rs D:=ye 4 g_led_by
def g_led:Rho→Out :=
  (zO (sDrop (fA (ari 2 fn_require_book) (zj (fNm 0) (zj (fNm 1) zB))))
  (zO (sDrop (fA (ari 2 z9) (zj (fNm 0) (zj (fNm 2) zB))))
  (sRet (fA (ari 2 fn_led_by) (zj (fNm 1) (zj (fNm 2) zB))))))
def fn_led:List D→Rs D:=ye 3 g_led
def g_parted:Rho→Out :=
  (zO (sSet 3 (fM isTp idxD (fNm 1) (fNm 2)))
  (sRet (f2 addT (f2 addT (fSl (fNm 1) oNone (oSome (fNm 3))) (fO tupD (zj (fA (ari 2 yj) (zj (fNm 0) (zj (fO mkL (zj (fNm 2) zB)) zB))) zB))) (fSl (fNm 1) (oSome (f2 addI (fNm 3) (fC (.int 1)))) oNone))))
def fn_parted:List D→Rs D:=ye 4 g_parted
def g_even_book:Rho→Out :=
  (zO (sSet 2 (fO mkL (zj (fC (.str [])) zB)))
  (zO (cutX (sFor 3 (fR rng1 (zj (fNm 1) zB))
  (sSet 2 (fA (ari 2 yj) (zj (fNm 0) (zj (fNm 2) zB))))))
  (sRet (fO tupD (zj (fNm 2) zB)))))
def fn_even_book:List D→Rs D:=ye 4 g_even_book
def g_first_book:Rho→Out :=
  (sRet (fA (ari 2 fn_even_book) (zj (fNm 0) (zj (fC (.int 1)) zB))))
def fn_first_book:List D→Rs D:=ye 1 g_first_book
end Pg
set_option maxHeartbeats 1000000
namespace L2
open PySem
section
variable {ft:Rho→Rs Bool}{fe:Rho→Rs D}{ρ0 ρ:Rho}{α β:Type}{i j:Nat}{g:Rho→Out}
theorem compD_of {l:List α}{enc:α→D}(p:α→Bool)(e:α→D)(h:∀x∈l,ft (ρ0.set 0 (.fz (enc x)))=.ok (p x)∧(p x=true→fe (ρ0.set 0 (.fz (enc x)))=.ok (e x))):compD ft fe ρ0 (l.map enc)=.ok ((l.filter p).map e):=by
 induction l with
 | nil=>rfl
 | cons x l ih =>
  have ih':=ih fun y hy=>h y (.tail _ hy)
  obtain⟨h1,h2⟩:=h x (.head _)
  rw[List.map_cons]
  unfold compD
  rw[h1]
  cases hp:p x with
  | false=>rw[List.filter_cons_of_neg (by simp[hp])];exact ih'
  | true =>
   rw[List.filter_cons_of_pos hp]
   simp only[h2 hp,ih']
   rfl
theorem compD_map {l:List α}{enc:α→D}(e:α→D)(h:∀x∈l,fe (ρ0.set 0 (.fz (enc x)))=.ok (e x)):compD bTrue fe ρ0 (l.map enc)=.ok (l.map e):=by
 have:=compD_of (ft:=bTrue) (fe:=fe) (ρ0:=ρ0) (l:=l) (enc:=enc) (fun _=>true) e fun x hx=>⟨rfl,fun _=>h x hx⟩
 rwa [List.filter_eq_self.mpr fun _ _=>rfl] at this
theorem compZ_map {l:List (α×β)}{enc:α→D}{enb:β→D}(e:α×β→D)(h:∀x∈l,fe ((ρ0.set 0 (.fz (enc x.1))).set 1 (.fz (enb x.2)))=.ok (e x)):compZ bTrue fe ρ0 (l.map fun x=>enc x.1) (l.map fun x=>enb x.2)=.ok (l.map e):=by
 induction l with
 | nil=>rfl
 | cons x l ih =>
  have ih':=ih fun y hy=>h y (.tail _ hy)
  rw[List.map_cons,List.map_cons]
  unfold compZ
  simp only[bTrue,h x (.head _)]
  rw[ih'];rfl
theorem compZ_zip:∀(as bs:List D),compZ ft fe ρ0 as bs=compZ ft fe ρ0 ((as.zip bs).map (·.1)) ((as.zip bs).map (·.2))
 | [],_=>by simp[compZ]
 | _::_,[]=>by simp[compZ]
 | a::as,b::bs=>by
  rw[List.zip_cons_cons,List.map_cons,List.map_cons]
  unfold compZ
  rw[compZ_zip as bs]
theorem forZ_zip:∀(as bs:List D) (ρ:Rho),forZ i j g as bs ρ=forZ i j g ((as.zip bs).map (·.1)) ((as.zip bs).map (·.2)) ρ
 | [],_,ρ=>by simp[forZ]
 | _::_,[],ρ=>by simp[forZ]
 | a::as,b::bs,ρ=>by
  rw[List.zip_cons_cons,List.map_cons,List.map_cons,forZ.eq_1,forZ.eq_1]
  dsimp only
  cases g ((ρ.set i (.fz a)).set j (.fz b)) <;>first|rfl|exact forZ_zip as bs _
theorem forD_inv {l:List α}{enc:α→D}(I:Nat→Rho→Prop)(h0:I 0 ρ)(hs:∀k x ρ,l[k]? = some x→I k ρ→∃ρ',g (ρ.set i (.fz (enc x)))=.nx ρ'∧I (k+1) ρ'):∃ρ',forD i g (l.map enc) ρ=.nx ρ'∧I l.length ρ':=by
 induction l generalizing ρ I with
 | nil=>exact⟨ρ,rfl,h0⟩
 | cons x l ih =>
  obtain⟨ρ1,e1,i1⟩:=hs 0 x ρ rfl h0
  obtain⟨ρ2,e2,i2⟩:=ih (I:=fun k=>I (k+1)) i1 fun k y ρ hy hI=>hs (k+1) y ρ (by simpa using hy) hI
  refine⟨ρ2,?_,i2⟩
  rw[List.map_cons]
  unfold forD
  rw[e1];exact e2
theorem forD_find {l:List α}{enc:α→D}(I:Rho→Prop)(p:α→Bool)(r:α→D)(h0:I ρ)(hs:∀x∈l,∀ρ,I ρ→if p x=true then g (ρ.set i (.fz (enc x)))=.rt (r x) else ∃ρ',g (ρ.set i (.fz (enc x)))=.nx ρ'∧I ρ') :
  match l.find? p with|some x=>forD i g (l.map enc) ρ=.rt (r x)|none=>∃ρ',forD i g (l.map enc) ρ=.nx ρ'∧I ρ':=by
 induction l generalizing ρ with
 | nil=>exact⟨ρ,rfl,h0⟩
 | cons x l ih =>
  have hx:=hs x (.head _) ρ h0
  cases hp:p x with
  | true =>
   rw[if_pos hp] at hx
   rw[List.find?_cons_of_pos hp]
   show forD i g (enc x::l.map enc) ρ=_
   unfold forD
   rw[hx]
  | false =>
   rw[if_neg (by simp[hp])] at hx
   obtain⟨ρ1,e1,i1⟩:=hx
   rw[List.find?_cons_of_neg (by simp[hp])]
   have:=ih i1 fun y hy=>hs y (.tail _ hy)
   have e:forD i g ((x::l).map enc) ρ=forD i g (l.map enc) ρ1:=by
    show forD i g (enc x::l.map enc) ρ=_
    rw[forD.eq_2,e1]
   rw[e];exact this
theorem forZ_find {l:List (α×β)}{enc:α→D}{enb:β→D}(I:Rho→Prop)(p:α×β→Bool)(r:α×β→D)(h0:I ρ)(hs:∀x∈l,∀ρ,I ρ→if p x=true then g ((ρ.set i (.fz (enc x.1))).set j (.fz (enb x.2)))=.rt (r x) else ∃ρ',g ((ρ.set i (.fz (enc x.1))).set j (.fz (enb x.2)))=.nx ρ'∧I ρ') :
  match l.find? p with|some x=>forZ i j g (l.map fun x=>enc x.1) (l.map fun x=>enb x.2) ρ=.rt (r x)|none=>∃ρ',forZ i j g (l.map fun x=>enc x.1) (l.map fun x=>enb x.2) ρ=.nx ρ'∧I ρ':=by
 induction l generalizing ρ with
 | nil=>exact⟨ρ,by simp[forZ],h0⟩
 | cons x l ih =>
  have hx:=hs x (.head _) ρ h0
  cases hp:p x with
  | true =>
   rw[if_pos hp] at hx
   rw[List.find?_cons_of_pos hp]
   show forZ i j g (enc x.1::l.map fun x=>enc x.1) (enb x.2::l.map fun x=>enb x.2) ρ=_
   unfold forZ
   rw[hx]
  | false =>
   rw[if_neg (by simp[hp])] at hx
   obtain⟨ρ1,e1,i1⟩:=hx
   rw[List.find?_cons_of_neg (by simp[hp])]
   have:=ih i1 fun y hy=>hs y (.tail _ hy)
   have e:forZ i j g ((x::l).map fun x=>enc x.1) ((x::l).map fun x=>enb x.2) ρ=forZ i j g (l.map fun x=>enc x.1) (l.map fun x=>enb x.2) ρ1:=by
    show forZ i j g (enc x.1::l.map fun x=>enc x.1) (enb x.2::l.map fun x=>enb x.2) ρ=_
    rw[forZ.eq_1,e1]
   rw[e];exact this
end
theorem z8 {m:Nat}{g:Rho→Out}{ds:List D}{d:D}(h:g (ds.map .fz++List.replicate (m - ds.length) .no)=.rt d):ye m g ds=.ok d:=by unfold ye;rw[h]
theorem runD_nx {m:Nat}{g:Rho→Out}{ds:List D}{ρ:Rho}(h:g (ds.map .fz++List.replicate (m - ds.length) .no)=.nx ρ):ye m g ds=.ok .non:=by unfold ye;rw[h]
theorem zA {g h:Rho→Out}{ρ ρ':Rho}(e:g ρ=.nx ρ'):zO g h ρ=h ρ':=by unfold zO;rw[e]
theorem sSeq_rt {g h:Rho→Out}{ρ:Rho}{d:D}(e:g ρ=.rt d):zO g h ρ=.rt d:=by unfold zO;rw[e]
theorem cutX_nx {g:Rho→Out}{ρ ρ':Rho}(e:g ρ=.nx ρ'):cutX g ρ=.nx ρ':=by unfold cutX;rw[e]
theorem cutX_rt {g:Rho→Out}{ρ:Rho}{d:D}(e:g ρ=.rt d):cutX g ρ=.rt d:=by unfold cutX;rw[e]
theorem sFor_ok {i:Nat}{fi:Rho→Rs (List D)}{g:Rho→Out}{ρ:Rho}{ds:List D}(e:fi ρ=.ok ds):sFor i fi g ρ=forD i g ds ρ:=by unfold sFor;rw[e]
theorem sIf_t {ft:Rho→Rs Bool}{g h:Rho→Out}{ρ:Rho}(e:ft ρ=.ok true):sIf ft g h ρ=g ρ:=by unfold sIf;rw[e]
theorem sIf_f {ft:Rho→Rs Bool}{g h:Rho→Out}{ρ:Rho}(e:ft ρ=.ok false):sIf ft g h ρ=h ρ:=by unfold sIf;rw[e]
theorem zM {i:Nat}{f:Rho→Rs D}{ρ:Rho}{d:D}(e:f ρ=.ok d):sSet i f ρ=.nx (ρ.set i (.fz d)):=by unfold sSet;rw[e]
theorem sRet_ok {f:Rho→Rs D}{ρ:Rho}{d:D}(e:f ρ=.ok d):sRet f ρ=.rt d:=by unfold sRet;rw[e]
theorem sApp_ok {i:Nat}{f:Rho→Rs D}{ρ:Rho}{ds:List D}{d:D}(e:owL ρ i=some ds)(e2:f ρ=.ok d)(hl:ds.length<1000000):sApp i f ρ=.nx (ρ.set i (.ow (ds++[d]))):=by unfold sApp;simp only[e,e2,if_pos hl]
theorem addS_ok {l m:List Nat}(h:l.length+m.length≤1000000):addS (.str l) (.str m)=some (.str (l++m)):=if_pos h
theorem f2_ok {g:D→D→Option D}{fa fb:Rho→Rs D}{ρ:Rho}{a b d:D}(e1:fa ρ=.ok a)(e2:fb ρ=.ok b)(e3:g a b=some d):f2 g fa fb ρ=.ok d:=by unfold f2;rw[e1];show(fb ρ).bind _=_;rw[e2];show lf (g a b)=_;rw[e3];rfl
theorem rng1_nat {n:Nat}(h:n≤1000000):rng1 [.int (n:Int)]=some ((List.range n).map fun(k:Nat)=>.int (k:Int)):=by
 have h1:-(2 ^ 62)≤(n:Int)∧(n:Int)<2 ^ 62:=by omega
 dsimp only [rng1]
 rw[if_pos h1,Int.toNat_natCast]
theorem fR_ok {g:List D→Option (List D)}{fs:Rho→Rs (List D)}{ρ:Rho}{ds es:List D}(e1:fs ρ=.ok ds)(e2:g ds=some es):fR g fs ρ=.ok es:=by unfold fR;rw[e1];show(match g ds with|some es=>Rs.ok es|none=>.no)=_;rw[e2]
theorem fO_ok {g:List D→Option D}{fs:Rho→Rs (List D)}{ρ:Rho}{ds:List D}{d:D}(e1:fs ρ=.ok ds)(e2:g ds=some d):fO g fs ρ=.ok d:=by unfold fO;rw[e1];show lf (g ds)=_;rw[e2];rfl
theorem addI_ok {f g:Rho→Rs D}{ρ:Rho}{i j:Int}(e1:f ρ=.ok (.int i))(e2:g ρ=.ok (.int j)):f2 addI f g ρ=.ok (.int (i+j)):=f2_ok e1 e2 rfl
theorem subI_ok {f g:Rho→Rs D}{ρ:Rho}{i j:Int}(e1:f ρ=.ok (.int i))(e2:g ρ=.ok (.int j)):f2 subI f g ρ=.ok (.int (i - j)):=f2_ok e1 e2 rfl
theorem mulI_ok {f g:Rho→Rs D}{ρ:Rho}{i j:Int}(e1:f ρ=.ok (.int i))(e2:g ρ=.ok (.int j))(h1:Sm i)(h2:Sm j):f2 mulI f g ρ=.ok (.int (i*j)):=f2_ok e1 e2 (if_pos ⟨h1,h2⟩)
theorem modI_ok {f g:Rho→Rs D}{ρ:Rho}{i j:Int}(e1:f ρ=.ok (.int i))(e2:g ρ=.ok (.int j))(h:0<j):f2 modI f g ρ=.ok (.int (i % j)):=f2_ok e1 e2 (if_pos h)
theorem fdivI_ok {f g:Rho→Rs D}{ρ:Rho}{i j:Int}(e1:f ρ=.ok (.int i))(e2:g ρ=.ok (.int j))(h:0<j)(h2:Sm j):f2 fdivI f g ρ=.ok (.int (i / j)):=f2_ok e1 e2 (if_pos ⟨h,h2⟩)
theorem sm_of {i:Int}(h:-(2 ^ 100)<i∧i<2 ^ 100):Sm i:=by
 unfold Sm
 have h1:(2:Nat) ^ 100≤2 ^ 4000:=Nat.pow_le_pow_right (by decide) (by decide)
 have h2:i.natAbs<2 ^ 100:=by omega
 exact Nat.lt_of_lt_of_le h2 h1
theorem fCp_ok {fi:Rho→Rs (List D)}{ft:Rho→Rs Bool}{fe:Rho→Rs D}{caps:List Nat}{ρ:Rho}{ds es:List D}(e1:fi ρ=.ok ds)(hl:ds.length≤1000000)(e2:compD ft fe (capR 1 caps ρ) ds=.ok es):fCp fi ft fe caps ρ=.ok es:=by unfold fCp;rw[e1];show(if ds.length≤1000000 then compD ft fe (capR 1 caps ρ) ds else .no)=_;rw[if_pos hl,e2]
theorem fComp_ok {fi:Rho→Rs (List D)}{ft:Rho→Rs Bool}{fe:Rho→Rs D}{caps:List Nat}{ρ:Rho}{ds es:List D}(e1:fi ρ=.ok ds)(hl:ds.length≤1000000)(e2:compD ft fe (capR 1 caps ρ) ds=.ok es):fComp fi ft fe caps ρ=.ok (.lst es):=by unfold fComp;rw[fCp_ok e1 hl e2];rfl
theorem sSetO_ok {i:Nat}{f:Rho→Rs (List D)}{ρ:Rho}{d:List D}(e:f ρ=.ok d):sSetO i f ρ=.nx (ρ.set i (.ow d)):=by unfold sSetO;rw[e]
theorem sSetA_ok {i:Nat}{f:Rho→Rs (List D)}{ρ:Rho}{d:List D}(e:f ρ=.ok d):sSetA i f ρ=.nx (ρ.set i (.fz (.lst d))):=by unfold sSetA;rw[e]
theorem fLs_ok {f:Rho→Rs (List D)}{ρ:Rho}{d:List D}(e:f ρ=.ok d):fLs f ρ=.ok (.lst d):=by unfold fLs;rw[e];rfl
theorem fM_ok {chk:D→Bool}{g:D→D→Option D}{fa fb:Rho→Rs D}{ρ:Rho}{a b d:D}(e1:fa ρ=.ok a)(hc:chk a=true)(e2:fb ρ=.ok b)(e3:g a b=some d):fM chk g fa fb ρ=.ok d:=by unfold fM;rw[e1];show(if chk a=true then _ else _)=_;rw[if_pos hc,e2];show lf (g a b)=_;rw[e3];rfl
theorem sPop_ok {i j:Nat}{f:Rho→Rs D}{ρ:Rho}{ds:List D}{k:Nat}{d:D}(e:owL ρ i=some ds)(e1:f ρ=.ok (.int (k:Int)))(hk:k<1000000)(e2:ds[k]? = some d):sPop i j f ρ=.nx ((ρ.set i (.ow (ds.eraseIdx k))).set j (.fz d)):=by
 unfold sPop
 have h:(0:Int)≤(k:Int)∧(k:Int)<1000000:=by omega
 simp only[e,e1,if_pos h,Int.toNat_natCast,e2]
theorem fFl_ok {i:Nat}{f:Rho→Rs D}{ρ:Rho}{ds:List D}{d:D}(e:owL ρ i=some ds)(e1:f (ρ.set i (.fz (.lst ds)))=.ok d)(h:d.fl=true):fFl i f ρ=.ok d:=by unfold fFl;simp only[e,e1,if_pos h]
theorem sIce_ok {i:Nat}{g:Rho→Out}{ρ:Rho}{ds:List D}(e:ρ[i]? = some (.ow ds)):sIce i g ρ=g (ρ.set i (.fz (.lst ds))):=by unfold sIce;rw[e]
theorem fL_ok {g:List D→Option (List D)}{fs:Rho→Rs (List D)}{ρ:Rho}{ds es:List D}(e1:fs ρ=.ok ds)(e2:g ds=some es):fL g fs ρ=.ok es:=by unfold fL;rw[e1];show lf' (g ds)=_;rw[e2];rfl
theorem aCons_ok {fa:Rho→Rs D}{fs:Rho→Rs (List D)}{ρ:Rho}{a:D}{as:List D}(e1:fa ρ=.ok a)(e2:fs ρ=.ok as):zj fa fs ρ=.ok (a::as):=by unfold zj;rw[e1];show(fs ρ).bind _=_;rw[e2];rfl
theorem erase_map {α β:Type}(f:α→β):∀(l:List α) (k:Nat),(l.map f).eraseIdx k=(l.eraseIdx k).map f
 | [],_=>rfl
 | _::_,0=>rfl
 | a::l,k+1=>by show f a::(l.map f).eraseIdx k=_;rw[erase_map f l k];rfl
theorem inV_T (x:List Nat)(ps:List (List Nat)):inV (.str (T x)) (vT ps)=decide (x∈ps):=by
 unfold inV vT
 rw[List.any_map,Bool.eq_iff_iff,List.any_eq_true,decide_eq_true_eq]
 constructor
 ·rintro⟨l,hl,e⟩
  have e':(T l == T x)=true:=e
  rw[T_beq] at e'
  rw[← (beq_iff_eq.mp e')]
  exact hl
 ·intro hx
  refine⟨x,hx,?_⟩
  show(T x == T x)=true
  simp
def sT (ls:List (List Nat)):List D:=ls.map .str
theorem sT_app (a b:List (List Nat)):sT a++sT b=sT (a++b):=by unfold sT;rw[List.map_append]
theorem all_fl (ls:List (List Nat)):(sT ls).all D.fl=true:=by simp[sT,D.fl]
theorem all_isS (ls:List (List Nat)):(sT ls).all isS=true:=by simp[sT,isS]
theorem map_unS (ls:List (List Nat)):(sT ls).map unS=ls:=by
 unfold sT;rw[List.map_map]
 exact(List.map_congr_left fun x _=>rfl).trans (List.map_id ls)
theorem pls_sT:∀ls:List (List Nat),D.pls (sT ls)=true
 | []=>rfl
 | l::ls=>by show((D.str l).pl&&D.pls (sT ls))=true;rw[pls_sT ls];rfl
theorem sT_len (ls:List (List Nat)):(sT ls).length=ls.length:=by simp[sT]
theorem inV_sT (x:List Nat)(ls:List (List Nat)):inV (D.str x).toV ((sT ls).map D.toV)=decide (x∈ls):=by
 have e:(sT ls).map D.toV=vT ls:=by unfold sT vT;rw[List.map_map];rfl
 rw[e];exact inV_T x ls
theorem inQ_sT (neg:Bool)(x:List Nat)(ls:List (List Nat)):inQ neg (.str x) (sT ls)=some (.bl (if neg then !decide (x∈ls) else decide (x∈ls))):=by
 unfold inQ
 rw[if_pos ⟨rfl,all_fl ls⟩,inV_sT]
end L2
namespace Pg
open PySem L2 My
theorem cut_none {α:Type}(l:List α)(m:Nat):cutL l none (some (m:Int))=l.take m:=by
 unfold cutL
 rw[HT.sIx_none,HT.sIx_nat,List.drop_zero,Nat.sub_zero,← List.take_take,List.take_length]
theorem cut_from {α:Type}(l:List α)(m:Nat):cutL l (some (m:Int)) none=l.drop m:=by
 unfold cutL
 rw[HT.sIx_none,HT.sIx_nat,List.take_of_length_le (by rw[List.length_drop];exact Nat.le_refl _)]
 rcases Nat.le_total m l.length with h|h
 ·rw[Nat.min_eq_left h]
 ·rw[Nat.min_eq_right h,List.drop_of_length_le (Nat.le_refl _),List.drop_of_length_le h]
theorem eqv_str (l m:List Nat):PyData.eqv (.str (T l)) (.str (T m))=decide (l=m):=by
 show(T l == T m)=_
 rw[T_beq]
 by_cases h:l=m
 ·subst h;simp
 ·rw[decide_eq_false h];simpa using h
theorem eqD_str (neg:Bool)(l m:List Nat):eqD neg (.str l) (.str m)=some (.bl (if neg then !decide (l=m) else decide (l=m))):=by
 unfold eqD
 rw[if_pos ⟨rfl,rfl,by show(PyData.str (T l)).depth≤60;simp[PyData.depth]⟩]
 show some (D.bl (if neg=true then !PyData.eqv (.str (T l)) (.str (T m)) else PyData.eqv (.str (T l)) (.str (T m))))=_
 rw[eqv_str]
theorem all_of {α:Type}(l:List α)(b:α→Bool):allD [.lst (l.map fun x=>D.bl (b x))]=some (.bl (l.all b)):=by
 show(if (l.map fun x=>D.bl (b x)).all isB=true then some (D.bl ((l.map fun x=>D.bl (b x)).all unB)) else none)=_
 have h:(l.map fun x=>D.bl (b x)).all isB=true:=by rw[List.all_map];exact List.all_eq_true.mpr fun _ _=>rfl
 rw[if_pos h,List.all_map];rfl
theorem any_of {α:Type}(l:List α)(b:α→Bool):anyD [.lst (l.map fun x=>D.bl (b x))]=some (.bl (l.any b)):=by
 show(if (l.map fun x=>D.bl (b x)).all isB=true then some (D.bl ((l.map fun x=>D.bl (b x)).any unB)) else none)=_
 have h:(l.map fun x=>D.bl (b x)).all isB=true:=by rw[List.all_map];exact List.all_eq_true.mpr fun _ _=>rfl
 rw[if_pos h,List.any_map];rfl
theorem tail_cut (ps:List (List Nat)):cutL (sT ps) (some 1) none=sT ps.tail:=by
 have:=cut_from (sT ps) 1
 rw[show((1:Nat):Int)=1 from rfl] at this
 rw[this,List.drop_one];exact(List.map_tail).symm
theorem zip_sT (ps qs:List (List Nat)):(sT ps).zip (sT qs)=(ps.zip qs).map fun x=>(D.str x.1,D.str x.2):=by
 unfold sT;rw[List.zip_map];rfl
def isText (m:Nat)(l:List Nat):Bool:=l.all fun c=>decide (c∈abcd.take m)
theorem isText_ok {m:Nat}(m4:m≤4){l:List Nat}(h:LetOk m l):isText m l=true:=by
 unfold isText
 rw[List.all_eq_true]
 exact fun c hc=>decide_eq_true (let_abcd m4 (h c hc))
theorem is_text_of_str (m:Nat)(l:List Nat)(hl:l.length≤1000000):fn_is_text_of [.int m,.str l]=.ok (.bl (isText m l)):=by
 have e:compD bTrue (f2 (inC false) (fNm 0) (fNm 1)) [.no,.fz (.str (abcd.take m))] (l.map fun c=>.str [c])=.ok (l.map fun c=>.bl (decide (c∈abcd.take m))):=compD_map _ fun c hc=>rfl
 have e2:cutL [97,98,99,100] none (some (m:Int))=abcd.take m:=cut_none abcd m
 simp only[fn_is_text_of,g_is_text_of,ye,zO,sRet,sDrop,sSet,sIf,sSet2,sIce,cutX,sRs,sFor,sForZ,sWh,sApp,sPop,sSetA,sSetO,sNewD,sPut,fSD,owL,odL,sNx,fC,fNm,f1,f2,zB,zj,fO,fA,fIf,tru,bT,bNot,bAnd,bOr,fAnd,fOr,fNot,lf,lf',Rs.bind,isN,mkT,mkL,ari,fI,lsD,tpD,sgD,fR,fCp,fComp,fLs,fL,fL1,fL2,szL,fCz,capR,oNone,oSome,fSl,slD,fM,fCh,isiD,isInt,isBool,isStr,isTup,lenD,ltI,leI,gtI,geI,ltS,addI,subI,D.pl,D.py,isS,List.getElem?_cons_zero,List.getElem?_cons_succ,List.set_cons_zero,List.set_cons_succ,List.map_cons,List.map_nil,List.length_cons,List.length_nil,List.replicate,List.append_nil,List.nil_append,List.cons_append,Nat.reduceSub,Nat.reduceAdd,Nat.reduceLeDiff,Bool.not_true,Bool.not_false,if_true,if_false,Bool.false_eq_true,reduceIte,Nat.zero_add,List.getElem?_nil,pls_sT,e2,e,List.length_map,if_pos hl,all_of,isText]
theorem is_rising_eq (ps:List (List Nat))(h:ps.length≤1000000):fn_is_rising [.tup (sT ps)]=.ok (.bl (rising ps)):=by
 have e2:compZ bTrue (f2 ltS (fNm 0) (fNm 1)) [.no,.no] (sT ps) (sT ps.tail)=.ok ((ps.zip ps.tail).map fun x=>.bl (decide (x.1<x.2))):=by
  rw[compZ_zip]
  rw[zip_sT,List.map_map,List.map_map]
  exact compZ_map (enc:=D.str) (enb:=D.str) _ fun x hx=>rfl
 simp only[fn_is_rising,g_is_rising,ye,zO,sRet,sDrop,sSet,sIf,sSet2,sIce,cutX,sRs,sFor,sForZ,sWh,sApp,sPop,sSetA,sSetO,sNewD,sPut,fSD,owL,odL,sNx,fC,fNm,f1,f2,zB,zj,fO,fA,fIf,tru,bT,bNot,bAnd,bOr,fAnd,fOr,fNot,lf,lf',Rs.bind,isN,mkT,mkL,ari,fI,lsD,tpD,sgD,fR,fCp,fComp,fLs,fL,fL1,fL2,szL,fCz,capR,oNone,oSome,fSl,slD,fM,fCh,isiD,isInt,isBool,isStr,isTup,lenD,ltI,leI,gtI,geI,ltS,addI,subI,D.pl,D.py,isS,List.getElem?_cons_zero,List.getElem?_cons_succ,List.set_cons_zero,List.set_cons_succ,List.map_cons,List.map_nil,List.length_cons,List.length_nil,List.replicate,List.append_nil,List.nil_append,List.cons_append,Nat.reduceSub,Nat.reduceAdd,Nat.reduceLeDiff,Bool.not_true,Bool.not_false,if_true,if_false,Bool.false_eq_true,reduceIte,Nat.zero_add,List.getElem?_nil,pls_sT,tail_cut,e2,sT_len,if_pos h,all_of,rising]
theorem is_whole_int (i:Int):fn_is_whole [.int i]=.ok (.bl true):=rfl
theorem is_between_int (i lo hi:Int):fn_is_between [.int i,.int lo,.int hi]=.ok (.bl (decide (lo≤i)&&decide (i≤hi))):=by
 simp only[fn_is_between,g_is_between,ye,zO,sRet,sDrop,sSet,sIf,sSet2,sIce,cutX,sRs,sFor,sForZ,sWh,sApp,sPop,sSetA,sSetO,sNewD,sPut,fSD,owL,odL,sNx,fC,fNm,f1,f2,zB,zj,fO,fA,fIf,tru,bT,bNot,bAnd,bOr,fAnd,fOr,fNot,lf,lf',Rs.bind,isN,mkT,mkL,ari,fI,lsD,tpD,sgD,fR,fCp,fComp,fLs,fL,fL1,fL2,szL,fCz,capR,oNone,oSome,fSl,slD,fM,fCh,isiD,isInt,isBool,isStr,isTup,lenD,ltI,leI,gtI,geI,ltS,addI,subI,D.pl,D.py,isS,List.getElem?_cons_zero,List.getElem?_cons_succ,List.set_cons_zero,List.set_cons_succ,List.map_cons,List.map_nil,List.length_cons,List.length_nil,List.replicate,List.append_nil,List.nil_append,List.cons_append,Nat.reduceSub,Nat.reduceAdd,Nat.reduceLeDiff,Bool.not_true,Bool.not_false,if_true,if_false,Bool.false_eq_true,reduceIte,Nat.zero_add,List.getElem?_nil,pls_sT,is_whole_int]
 by_cases h:lo≤i
 ·simp[h]
 ·simp[h]
theorem is_number_eq (i:Int):zT [.int i]=.ok (.bl (decide (2≤i)&&decide (i≤4))):=by
 simp only[zT,g_is_number_of_letters,ye,zO,sRet,sDrop,sSet,sIf,sSet2,sIce,cutX,sRs,sFor,sForZ,sWh,sApp,sPop,sSetA,sSetO,sNewD,sPut,fSD,owL,odL,sNx,fC,fNm,f1,f2,zB,zj,fO,fA,fIf,tru,bT,bNot,bAnd,bOr,fAnd,fOr,fNot,lf,lf',Rs.bind,isN,mkT,mkL,ari,fI,lsD,tpD,sgD,fR,fCp,fComp,fLs,fL,fL1,fL2,szL,fCz,capR,oNone,oSome,fSl,slD,fM,fCh,isiD,isInt,isBool,isStr,isTup,lenD,ltI,leI,gtI,geI,ltS,addI,subI,D.pl,D.py,isS,List.getElem?_cons_zero,List.getElem?_cons_succ,List.set_cons_zero,List.set_cons_succ,List.map_cons,List.map_nil,List.length_cons,List.length_nil,List.replicate,List.append_nil,List.nil_append,List.cons_append,Nat.reduceSub,Nat.reduceAdd,Nat.reduceLeDiff,Bool.not_true,Bool.not_false,if_true,if_false,Bool.false_eq_true,reduceIte,Nat.zero_add,List.getElem?_nil,pls_sT,is_between_int]
 rfl
theorem is_inner_eq (ps:List (List Nat))(x:List Nat)(h:ps.length≤1000000):zY [.tup (sT ps),.str x]=.ok (.bl (isInner ps x)):=by
 have e:compD bTrue (fAnd (fM isS startsD (fNm 0) (fNm 1)) (f2 (eqD true) (fNm 0) (fNm 1))) [.no,.fz (.str x)] (sT ps)=.ok (ps.map fun p=>.bl (x.isPrefixOf p && !decide (p=x))):=compD_map _ fun p hp=>by
  simp only[ye,zO,sRet,sDrop,sSet,sIf,sSet2,sIce,cutX,sRs,sFor,sForZ,sWh,sApp,sPop,sSetA,sSetO,sNewD,sPut,fSD,owL,odL,sNx,fC,fNm,f1,f2,zB,zj,fO,fA,fIf,tru,bT,bNot,bAnd,bOr,fAnd,fOr,fNot,lf,lf',Rs.bind,isN,mkT,mkL,ari,fI,lsD,tpD,sgD,fR,fCp,fComp,fLs,fL,fL1,fL2,szL,fCz,capR,oNone,oSome,fSl,slD,fM,fCh,isiD,isInt,isBool,isStr,isTup,lenD,ltI,leI,gtI,geI,ltS,addI,subI,D.pl,D.py,isS,List.getElem?_cons_zero,List.getElem?_cons_succ,List.set_cons_zero,List.set_cons_succ,List.map_cons,List.map_nil,List.length_cons,List.length_nil,List.replicate,List.append_nil,List.nil_append,List.cons_append,Nat.reduceSub,Nat.reduceAdd,Nat.reduceLeDiff,Bool.not_true,Bool.not_false,if_true,if_false,Bool.false_eq_true,reduceIte,Nat.zero_add,List.getElem?_nil,pls_sT,startsD,eqD_str]
  cases x.isPrefixOf p <;>simp
 simp only[zY,g_is_inner,ye,zO,sRet,sDrop,sSet,sIf,sSet2,sIce,cutX,sRs,sFor,sForZ,sWh,sApp,sPop,sSetA,sSetO,sNewD,sPut,fSD,owL,odL,sNx,fC,fNm,f1,f2,zB,zj,fO,fA,fIf,tru,bT,bNot,bAnd,bOr,fAnd,fOr,fNot,lf,lf',Rs.bind,isN,mkT,mkL,ari,fI,lsD,tpD,sgD,fR,fCp,fComp,fLs,fL,fL1,fL2,szL,fCz,capR,oNone,oSome,fSl,slD,fM,fCh,isiD,isInt,isBool,isStr,isTup,lenD,ltI,leI,gtI,geI,ltS,addI,subI,D.pl,D.py,isS,List.getElem?_cons_zero,List.getElem?_cons_succ,List.set_cons_zero,List.set_cons_succ,List.map_cons,List.map_nil,List.length_cons,List.length_nil,List.replicate,List.append_nil,List.nil_append,List.cons_append,Nat.reduceSub,Nat.reduceAdd,Nat.reduceLeDiff,Bool.not_true,Bool.not_false,if_true,if_false,Bool.false_eq_true,reduceIte,Nat.zero_add,List.getElem?_nil,pls_sT,e,sT_len,if_pos h,any_of]
 rfl
theorem is_apart_eq (ps:List (List Nat))(x:List Nat)(h:ps.length≤1000000):zX [.tup (sT ps),.str x]=.ok (.bl (isApart ps x)):=by
 have e:compD bTrue (fOr (fM isS startsD (fNm 0) (fNm 1)) (fM isS startsD (fNm 1) (fNm 0))) [.no,.fz (.str x)] (sT ps)=.ok (ps.map fun p=>.bl (x.isPrefixOf p || p.isPrefixOf x)):=compD_map _ fun p hp=>by
  simp only[ye,zO,sRet,sDrop,sSet,sIf,sSet2,sIce,cutX,sRs,sFor,sForZ,sWh,sApp,sPop,sSetA,sSetO,sNewD,sPut,fSD,owL,odL,sNx,fC,fNm,f1,f2,zB,zj,fO,fA,fIf,tru,bT,bNot,bAnd,bOr,fAnd,fOr,fNot,lf,lf',Rs.bind,isN,mkT,mkL,ari,fI,lsD,tpD,sgD,fR,fCp,fComp,fLs,fL,fL1,fL2,szL,fCz,capR,oNone,oSome,fSl,slD,fM,fCh,isiD,isInt,isBool,isStr,isTup,lenD,ltI,leI,gtI,geI,ltS,addI,subI,D.pl,D.py,isS,List.getElem?_cons_zero,List.getElem?_cons_succ,List.set_cons_zero,List.set_cons_succ,List.map_cons,List.map_nil,List.length_cons,List.length_nil,List.replicate,List.append_nil,List.nil_append,List.cons_append,Nat.reduceSub,Nat.reduceAdd,Nat.reduceLeDiff,Bool.not_true,Bool.not_false,if_true,if_false,Bool.false_eq_true,reduceIte,Nat.zero_add,List.getElem?_nil,pls_sT,startsD]
  cases x.isPrefixOf p <;>simp
 simp only[zX,g_is_apart,ye,zO,sRet,sDrop,sSet,sIf,sSet2,sIce,cutX,sRs,sFor,sForZ,sWh,sApp,sPop,sSetA,sSetO,sNewD,sPut,fSD,owL,odL,sNx,fC,fNm,f1,f2,zB,zj,fO,fA,fIf,tru,bT,bNot,bAnd,bOr,fAnd,fOr,fNot,lf,lf',Rs.bind,isN,mkT,mkL,ari,fI,lsD,tpD,sgD,fR,fCp,fComp,fLs,fL,fL1,fL2,szL,fCz,capR,oNone,oSome,fSl,slD,fM,fCh,isiD,isInt,isBool,isStr,isTup,lenD,ltI,leI,gtI,geI,ltS,addI,subI,D.pl,D.py,isS,List.getElem?_cons_zero,List.getElem?_cons_succ,List.set_cons_zero,List.set_cons_succ,List.map_cons,List.map_nil,List.length_cons,List.length_nil,List.replicate,List.append_nil,List.nil_append,List.cons_append,Nat.reduceSub,Nat.reduceAdd,Nat.reduceLeDiff,Bool.not_true,Bool.not_false,if_true,if_false,Bool.false_eq_true,reduceIte,Nat.zero_add,List.getElem?_nil,pls_sT,e,sT_len,if_pos h,any_of]
 rfl
theorem first_pair_eq (ps:List (List Nat)):fn_first_pair [.tup (sT ps)]=.ok (match firstPair ps with|some x=>.tup [.str x.1,.str x.2] | none=>.non):=by
 have key:=forZ_find (i:=1) (j:=2) (g:=sIf (bT (fM isS startsD (fNm 2) (fNm 1))) (sRet (fO mkT (zj (fNm 1) (zj (fNm 2) zB)))) sNx) (ρ:=[.fz (.tup (sT ps)),.no,.no]) (l:=ps.zip ps.tail) (enc:=D.str) (enb:=D.str)
  (fun ρ=>∃a b,ρ=[.fz (.tup (sT ps)),a,b]) (fun x=>x.1.isPrefixOf x.2) (fun x=>.tup [.str x.1,.str x.2]) ⟨_,_,rfl⟩ (fun x hx ρ ⟨a,b,e⟩=>by
   subst e
   cases hp:x.1.isPrefixOf x.2 with
   | true=>simp only[ye,zO,sRet,sDrop,sSet,sIf,sSet2,sIce,cutX,sRs,sFor,sForZ,sWh,sApp,sPop,sSetA,sSetO,sNewD,sPut,fSD,owL,odL,sNx,fC,fNm,f1,f2,zB,zj,fO,fA,fIf,tru,bT,bNot,bAnd,bOr,fAnd,fOr,fNot,lf,lf',Rs.bind,isN,mkT,mkL,ari,fI,lsD,tpD,sgD,fR,fCp,fComp,fLs,fL,fL1,fL2,szL,fCz,capR,oNone,oSome,fSl,slD,fM,fCh,isiD,isInt,isBool,isStr,isTup,lenD,ltI,leI,gtI,geI,ltS,addI,subI,D.pl,D.py,isS,List.getElem?_cons_zero,List.getElem?_cons_succ,List.set_cons_zero,List.set_cons_succ,List.map_cons,List.map_nil,List.length_cons,List.length_nil,List.replicate,List.append_nil,List.nil_append,List.cons_append,Nat.reduceSub,Nat.reduceAdd,Nat.reduceLeDiff,Bool.not_true,Bool.not_false,if_true,if_false,Bool.false_eq_true,reduceIte,Nat.zero_add,List.getElem?_nil,pls_sT,startsD,hp]
   | false=>simp only[ye,zO,sRet,sDrop,sSet,sIf,sSet2,sIce,cutX,sRs,sFor,sForZ,sWh,sApp,sPop,sSetA,sSetO,sNewD,sPut,fSD,owL,odL,sNx,fC,fNm,f1,f2,zB,zj,fO,fA,fIf,tru,bT,bNot,bAnd,bOr,fAnd,fOr,fNot,lf,lf',Rs.bind,isN,mkT,mkL,ari,fI,lsD,tpD,sgD,fR,fCp,fComp,fLs,fL,fL1,fL2,szL,fCz,capR,oNone,oSome,fSl,slD,fM,fCh,isiD,isInt,isBool,isStr,isTup,lenD,ltI,leI,gtI,geI,ltS,addI,subI,D.pl,D.py,isS,List.getElem?_cons_zero,List.getElem?_cons_succ,List.set_cons_zero,List.set_cons_succ,List.map_cons,List.map_nil,List.length_cons,List.length_nil,List.replicate,List.append_nil,List.nil_append,List.cons_append,Nat.reduceSub,Nat.reduceAdd,Nat.reduceLeDiff,Bool.not_true,Bool.not_false,if_true,if_false,Bool.false_eq_true,reduceIte,Nat.zero_add,List.getElem?_nil,pls_sT,startsD,hp];exact⟨_,rfl,_,_,rfl⟩)
 have e4:forZ 1 2 (sIf (bT (fM isS startsD (fNm 2) (fNm 1))) (sRet (fO mkT (zj (fNm 1) (zj (fNm 2) zB)))) sNx) (sT ps) (sT ps.tail) [.fz (.tup (sT ps)),.no,.no]=forZ 1 2 (sIf (bT (fM isS startsD (fNm 2) (fNm 1))) (sRet (fO mkT (zj (fNm 1) (zj (fNm 2) zB)))) sNx) ((ps.zip ps.tail).map fun x=>D.str x.1) ((ps.zip ps.tail).map fun x=>D.str x.2) [.fz (.tup (sT ps)),.no,.no]:=by
  rw[forZ_zip,zip_sT,List.map_map,List.map_map];rfl
 have e5:sForZ 1 2 (fNm 0) (fSl (fNm 0) (oSome (fC (.int 1))) oNone) (sIf (bT (fM isS startsD (fNm 2) (fNm 1))) (sRet (fO mkT (zj (fNm 1) (zj (fNm 2) zB)))) sNx) [.fz (.tup (sT ps)),.no,.no]=forZ 1 2 (sIf (bT (fM isS startsD (fNm 2) (fNm 1))) (sRet (fO mkT (zj (fNm 1) (zj (fNm 2) zB)))) sNx) ((ps.zip ps.tail).map fun x=>D.str x.1) ((ps.zip ps.tail).map fun x=>D.str x.2) [.fz (.tup (sT ps)),.no,.no]:=by
  rw[← e4]
  unfold sForZ
  have e6:fSl (fNm 0) (oSome (fC (.int 1))) oNone [.fz (.tup (sT ps)),.no,.no]=.ok (.tup (sT ps.tail)):=by rw[← tail_cut];rfl
  rw[e6];rfl
 unfold firstPair
 cases hf:(ps.zip ps.tail).find? fun x=>x.1.isPrefixOf x.2 with
 | some x =>
  rw[hf] at key
  have e7:g_first_pair [.fz (.tup (sT ps)),.no,.no]=.rt (.tup [.str x.1,.str x.2]):=by
   unfold g_first_pair zO cutX
   rw[e5,key]
  exact z8 e7
 | none =>
  rw[hf] at key
  obtain⟨ρ',k1,a,b,rfl⟩:=key
  have e7:g_first_pair [.fz (.tup (sT ps)),.no,.no]=.rt .non:=by
   unfold g_first_pair zO cutX
   rw[e5,k1];rfl
  exact z8 e7
def Pcs (m:Nat)(ps:List (List Nat)):Prop:=2≤m∧m≤4∧ps≠[]∧ps.length≤32∧∀p∈ps,LetOk m p∧p≠[]∧p.length≤31
theorem pieces_comp {m:Nat}{ps:List (List Nat)}(h:∀p∈ps,p.length≤1000000):compD bTrue (fAnd (fA (ari 2 fn_is_text_of) (zj (fNm 1) (zj (fNm 0) zB))) (f2 (eqD true) (fNm 0) (fC (.str [])))) [.no,.fz (.int m)] (sT ps)=.ok (ps.map fun p=>.bl (isText m p && !decide (p=[]))):=compD_map _ fun p hp=>by
  simp only[ye,zO,sRet,sDrop,sSet,sIf,sSet2,sIce,cutX,sRs,sFor,sForZ,sWh,sApp,sPop,sSetA,sSetO,sNewD,sPut,fSD,owL,odL,sNx,fC,fNm,f1,f2,zB,zj,fO,fA,fIf,tru,bT,bNot,bAnd,bOr,fAnd,fOr,fNot,lf,lf',Rs.bind,isN,mkT,mkL,ari,fI,lsD,tpD,sgD,fR,fCp,fComp,fLs,fL,fL1,fL2,szL,fCz,capR,oNone,oSome,fSl,slD,fM,fCh,isiD,isInt,isBool,isStr,isTup,lenD,ltI,leI,gtI,geI,ltS,addI,subI,D.pl,D.py,isS,List.getElem?_cons_zero,List.getElem?_cons_succ,List.set_cons_zero,List.set_cons_succ,List.map_cons,List.map_nil,List.length_cons,List.length_nil,List.replicate,List.append_nil,List.nil_append,List.cons_append,Nat.reduceSub,Nat.reduceAdd,Nat.reduceLeDiff,Bool.not_true,Bool.not_false,if_true,if_false,Bool.false_eq_true,reduceIte,Nat.zero_add,List.getElem?_nil,pls_sT,is_text_of_str m p (h p hp),eqD_str]
  cases isText m p <;>simp
theorem are_pieces_eq {m:Nat}{ps:List (List Nat)}(h:Pcs m ps):fn_are_pieces [.int m,.tup (sT ps)]=.ok (.bl (rising ps)):=by
 obtain⟨m2,m4,hne,hl,hp⟩:=h
 have h1:∀p∈ps,p.length≤1000000:=fun p q=>by have:=(hp p q).2.2;omega
 have e1:(ps.all fun p=>isText m p && !decide (p=[]))=true:=List.all_eq_true.mpr fun p q=>by
  obtain⟨a,b,_⟩:=hp p q
  rw[isText_ok m4 a,decide_eq_false b];rfl
 have hpos:1≤ps.length:=List.length_pos_iff.mpr hne
 have d1:decide ((2:Int)≤(m:Int))=true:=decide_eq_true (by omega)
 have d2:decide ((m:Int)≤4)=true:=decide_eq_true (by omega)
 have d3:decide ((1:Int)≤(ps.length:Int))=true:=decide_eq_true (by omega)
 have d4:decide ((ps.length:Int)≤32)=true:=decide_eq_true (by omega)
 have hz:ps.length≤1000000:=by omega
 simp only[fn_are_pieces,g_are_pieces,ye,zO,sRet,sDrop,sSet,sIf,sSet2,sIce,cutX,sRs,sFor,sForZ,sWh,sApp,sPop,sSetA,sSetO,sNewD,sPut,fSD,owL,odL,sNx,fC,fNm,f1,f2,zB,zj,fO,fA,fIf,tru,bT,bNot,bAnd,bOr,fAnd,fOr,fNot,lf,lf',Rs.bind,isN,mkT,mkL,ari,fI,lsD,tpD,sgD,fR,fCp,fComp,fLs,fL,fL1,fL2,szL,fCz,capR,oNone,oSome,fSl,slD,fM,fCh,isiD,isInt,isBool,isStr,isTup,lenD,ltI,leI,gtI,geI,ltS,addI,subI,D.pl,D.py,isS,List.getElem?_cons_zero,List.getElem?_cons_succ,List.set_cons_zero,List.set_cons_succ,List.map_cons,List.map_nil,List.length_cons,List.length_nil,List.replicate,List.append_nil,List.nil_append,List.cons_append,Nat.reduceSub,Nat.reduceAdd,Nat.reduceLeDiff,Bool.not_true,Bool.not_false,if_true,if_false,Bool.false_eq_true,reduceIte,Nat.zero_add,List.getElem?_nil,pls_sT,is_number_eq,d1,d2,Bool.and_self,sT_len,d3,d4,if_pos hz,pieces_comp h1,all_of,e1,is_rising_eq ps hz]
theorem sIter {m:Nat}{ρ:Rho}(h:ρ[0]? = some (.fz (.int (m:Int)))):fI sgD (fSl (fC (.str [97,98,99,100])) oNone (oSome (fNm 0))) ρ=.ok ((abcd.take m).map fun c=>.str [c]):=by
 have e2:cutL [97,98,99,100] none (some (m:Int))=abcd.take m:=cut_none abcd m
 simp only[fI,fSl,fC,oNone,oSome,fNm,h,Rs.bind,slD,lf,e2,sgD]
theorem gone_on_eq {m:Nat}(xs:List (List Nat))(hl:∀x∈xs,x.length≤999999)(hn:4*xs.length≤999999):yj [.int m,.lst (sT xs)]=.ok (.lst (sT (zH m xs))):=by
 have hab:(abcd.take m).length≤4:=by rw[List.length_take];exact Nat.min_le_right _ _
 have inner:∀(x:List Nat) (acc:List (List Nat)) (s:Sl),x.length≤999999→acc.length+4≤999999→∃s',sFor 4 (fI sgD (fSl (fC (.str [97,98,99,100])) oNone (oSome (fNm 0)))) (sApp 2 (f2 addS (fNm 3) (fNm 4))) [.fz (.int m),.fz (.lst (sT xs)),.ow (sT acc),.fz (.str x),s]=.nx [.fz (.int m),.fz (.lst (sT xs)),.ow (sT (acc++(abcd.take m).map fun c=>x++[c])),.fz (.str x),s']:=by
  intro x acc s hx ha
  rw[sFor_ok (sIter rfl)]
  obtain ⟨ρ',e,s',rfl⟩:=forD_inv (i:=4) (g:=sApp 2 (f2 addS (fNm 3) (fNm 4))) (l:=abcd.take m) (enc:=fun c=>D.str [c]) (ρ:=[.fz (.int m),.fz (.lst (sT xs)),.ow (sT acc),.fz (.str x),s])
   (fun k ρ=>∃s',ρ=[.fz (.int m),.fz (.lst (sT xs)),.ow (sT (acc++((abcd.take m).take k).map fun c=>x++[c])),.fz (.str x),s']) ⟨s,by simp⟩ (fun k c ρ hc ⟨s',e⟩=>by
    subst e
    have hk:k<(abcd.take m).length:=(List.getElem?_eq_some_iff.mp hc).1
    have e3:(abcd.take m).take (k+1)=(abcd.take m).take k++[c]:=by rw[List.take_add_one,hc];rfl
    have hlen:(sT (acc++((abcd.take m).take k).map fun c=>x++[c])).length<1000000:=by
     rw[sT_len,List.length_append,List.length_map,List.length_take];omega
    have hz:x.length+1≤1000000:=by omega
    refine⟨_,sApp_ok rfl (f2_ok (a:=.str x) (b:=.str [c]) rfl rfl (addS_ok hz)) hlen,.fz (.str [c]),?_⟩
    have e5:sT (acc++((abcd.take m).take (k+1)).map fun c=>x++[c])=sT (acc++((abcd.take m).take k).map fun c=>x++[c])++[D.str (x++[c])]:=by
     rw[e3,List.map_append,← List.append_assoc,← sT_app (acc++_)];rfl
    rw[e5];rfl)
  refine⟨s',e.trans ?_⟩
  rw[List.take_of_length_le (Nat.le_refl _)]
 have outer:=forD_inv (i:=3) (g:=sFor 4 (fI sgD (fSl (fC (.str [97,98,99,100])) oNone (oSome (fNm 0)))) (sApp 2 (f2 addS (fNm 3) (fNm 4)))) (l:=xs) (enc:=D.str) (ρ:=[.fz (.int m),.fz (.lst (sT xs)),.ow [],.no,.no])
  (fun k ρ=>∃s s',ρ=[.fz (.int m),.fz (.lst (sT xs)),.ow (sT (zH m (xs.take k))),s,s']) ⟨.no,.no,rfl⟩ (fun k x ρ hx ⟨s,s',e⟩=>by
   subst e
   have hk:k<xs.length:=(List.getElem?_eq_some_iff.mp hx).1
   have e3:xs.take (k+1)=xs.take k++[x]:=by rw[List.take_add_one,hx];rfl
   have hg:(zH m (xs.take k)).length≤4*k:=by
    have:(zH m (xs.take k)).length≤4*(xs.take k).length:=by
     unfold zH
     generalize xs.take k=ys
     induction ys with
     | nil=>simp
     | cons y ys ih=>simp only[List.flatMap_cons,List.length_append,List.length_map,List.length_cons];omega
    rw[List.length_take] at this;omega
   obtain⟨s2,e4⟩:=inner x (zH m (xs.take k)) s' (hl x (List.mem_of_getElem? hx)) (by omega)
   refine⟨_,e4,.fz (.str x),s2,?_⟩
   rw[e3]
   unfold zH
   rw[List.flatMap_append]
   simp)
 obtain⟨ρ',e,s,s',rfl⟩:=outer
 rw[List.take_of_length_le (Nat.le_refl _)] at e
 refine z8 ?_
 show g_gone_on [.fz (.int m),.fz (.lst (sT xs)),.no,.no,.no]=_
 unfold g_gone_on
 refine(zA (g:=sSetO 2 (fL szL zB)) (ρ':=[.fz (.int m),.fz (.lst (sT xs)),.ow [],.no,.no]) rfl).trans ?_
 refine(zA (cutX_nx ((sFor_ok (ds:=sT xs) rfl).trans e))).trans ?_
 rfl
theorem fta_round {m:Nat}{ps:List (List Nat)}(hl:ps.length≤1000000)(xs:List (List Nat))(hx:∀x∈xs,x.length≤999)(hn:xs.length≤99999)(s3 s4:Sl) :
  match (zH m xs).find? (isApart ps) with
  | some x=>zO (sSet 3 (fA (ari 2 yj) (zj (fNm 0) (zj (fNm 2) zB)))) (zO (sFor 4 (fI lsD (fNm 3)) (sIf (bT (fA (ari 2 zX) (zj (fNm 1) (zj (fNm 4) zB)))) (sRet (fNm 4)) sNx)) (sSetA 2 (fCp (fI lsD (fNm 3)) (bT (fA (ari 2 zY) (zj (fNm 1) (zj (fNm 0) zB)))) (fNm 0) [1]))) [.fz (.int m),.fz (.tup (sT ps)),.fz (.lst (sT xs)),s3,s4]=.rt (.str x)
  | none=>∃s3' s4',zO (sSet 3 (fA (ari 2 yj) (zj (fNm 0) (zj (fNm 2) zB)))) (zO (sFor 4 (fI lsD (fNm 3)) (sIf (bT (fA (ari 2 zX) (zj (fNm 1) (zj (fNm 4) zB)))) (sRet (fNm 4)) sNx)) (sSetA 2 (fCp (fI lsD (fNm 3)) (bT (fA (ari 2 zY) (zj (fNm 1) (zj (fNm 0) zB)))) (fNm 0) [1]))) [.fz (.int m),.fz (.tup (sT ps)),.fz (.lst (sT xs)),s3,s4]=.nx [.fz (.int m),.fz (.tup (sT ps)),.fz (.lst (sT ((zH m xs).filter (isInner ps)))),s3',s4']:=by
 have eg:=gone_on_eq (m:=m) xs (fun x q=>by have:=hx x q;omega) (by omega)
 have e1:(sSet 3 (fA (ari 2 yj) (zj (fNm 0) (zj (fNm 2) zB)))) [.fz (.int m),.fz (.tup (sT ps)),.fz (.lst (sT xs)),s3,s4]=.nx [.fz (.int m),.fz (.tup (sT ps)),.fz (.lst (sT xs)),.fz (.lst (sT (zH m xs))),s4]:=by
  refine zM (d:=.lst (sT (zH m xs))) ?_
  exact eg
 have hgl:(zH m xs).length≤1000000:=by
  have hab:(abcd.take m).length≤4:=by rw[List.length_take];exact Nat.min_le_right _ _
  have:(zH m xs).length≤4*xs.length:=by
   unfold zH
   clear hn hx eg e1
   induction xs with
   | nil=>simp
   | cons y ys ih=>simp only[List.flatMap_cons,List.length_append,List.length_map,List.length_cons];omega
  omega
 have key:=forD_find (i:=4) (g:=sIf (bT (fA (ari 2 zX) (zj (fNm 1) (zj (fNm 4) zB)))) (sRet (fNm 4)) sNx) (ρ:=[.fz (.int m),.fz (.tup (sT ps)),.fz (.lst (sT xs)),.fz (.lst (sT (zH m xs))),s4]) (l:=zH m xs) (enc:=D.str)
  (fun ρ=>∃a,ρ=[.fz (.int m),.fz (.tup (sT ps)),.fz (.lst (sT xs)),.fz (.lst (sT (zH m xs))),a]) (isApart ps) (fun x=>.str x) ⟨_,rfl⟩ (fun x hx ρ ⟨a,e⟩=>by
   subst e
   have ea:(bT (fA (ari 2 zX) (zj (fNm 1) (zj (fNm 4) zB)))) [.fz (.int m),.fz (.tup (sT ps)),.fz (.lst (sT xs)),.fz (.lst (sT (zH m xs))),.fz (.str x)]=.ok (isApart ps x):=by
    show(zX [.tup (sT ps),.str x]).bind tru=_
    rw[is_apart_eq ps x hl];rfl
   cases hp:isApart ps x with
   | true=>rw[if_pos rfl];rw[hp] at ea;exact(sIf_t ea).trans rfl
   | false=>rw[if_neg Bool.false_ne_true];rw[hp] at ea;exact⟨_,(sIf_f ea).trans rfl,_,rfl⟩)
 cases hf:(zH m xs).find? (isApart ps) with
 | some x =>
  rw[hf] at key
  refine(zA e1).trans (sSeq_rt ((sFor_ok (ds:=sT (zH m xs)) rfl).trans key))
 | none =>
  rw[hf] at key
  obtain⟨ρ',k1,a,rfl⟩:=key
  have ec:compD (bT (fA (ari 2 zY) (zj (fNm 1) (zj (fNm 0) zB)))) (fNm 0) [.no,.fz (.tup (sT ps))] (sT (zH m xs))=.ok (((zH m xs).filter (isInner ps)).map .str):=compD_of _ _ fun x hx=>⟨by
   show(zY [.tup (sT ps),.str x]).bind tru=_
   rw[is_inner_eq ps x hl];rfl,fun _=>rfl⟩
  refine⟨.fz (.lst (sT (zH m xs))),a,(zA e1).trans ((zA ((sFor_ok (ds:=sT (zH m xs)) rfl).trans k1)).trans ?_)⟩
  have e5:fCp (fI lsD (fNm 3)) (bT (fA (ari 2 zY) (zj (fNm 1) (zj (fNm 0) zB)))) (fNm 0) [1] [.fz (.int m),.fz (.tup (sT ps)),.fz (.lst (sT xs)),.fz (.lst (sT (zH m xs))),a]=.ok (sT ((zH m xs).filter (isInner ps))):=by
   show(if (sT (zH m xs)).length≤1000000 then compD _ _ [.no,.fz (.tup (sT ps))] (sT (zH m xs)) else .no)=_
   rw[sT_len,if_pos hgl]
   exact ec
  unfold sSetA
  rw[e5];rfl
theorem eqvAll_sT:∀(xs ys:List (List Nat)),PyData.eqvAll (D.pys (sT xs)) (D.pys (sT ys))=decide (xs=ys)
 | [],[]=>rfl
 | [],_::_=>rfl
 | _::_,[]=>rfl
 | x::xs,y::ys=>by
  show(PyData.eqv (.str (T x)) (.str (T y))&&PyData.eqvAll (D.pys (sT xs)) (D.pys (sT ys)))=_
  rw[eqvAll_sT xs ys,eqv_str]
  by_cases h:x=y <;>by_cases h2:xs=ys <;>simp[h,h2]
theorem dep_sT:∀xs:List (List Nat),PyData.depthAll (D.pys (sT xs))=0
 | []=>rfl
 | x::xs=>by
  show max (PyData.depth (.str (T x))) (PyData.depthAll (D.pys (sT xs)))=0
  rw[dep_sT xs];rfl
theorem eqD_lst (neg:Bool)(xs ys:List (List Nat)):eqD neg (.lst (sT xs)) (.lst (sT ys))=some (.bl (if neg then !decide (xs=ys) else decide (xs=ys))):=by
 have h:(D.lst (sT xs)).pl=true∧(D.lst (sT ys)).pl=true∧(D.lst (sT xs)).py.depth≤60:=⟨pls_sT xs,pls_sT ys,by show PyData.depthAll (D.pys (sT xs))+1≤60;rw[dep_sT];omega⟩
 unfold eqD
 rw[if_pos h]
 show some (D.bl (if neg=true then !PyData.eqvAll (D.pys (sT xs)) (D.pys (sT ys)) else PyData.eqvAll (D.pys (sT xs)) (D.pys (sT ys))))=_
 rw[eqvAll_sT]
theorem goneOn_nd (m:Nat){xs:List (List Nat)}(h:xs.Nodup):(zH m xs).Nodup:=by
 induction xs with
 | nil=>exact List.nodup_nil
 | cons x xs ih =>
  obtain⟨h1,h2⟩:=List.nodup_cons.mp h
  show((kids m x)++zH m xs).Nodup
  refine List.nodup_append.mpr ⟨kids_nd m x,ih h2,fun y hy z hz e=>?_⟩
  subst e
  obtain⟨c,hc,e⟩:=kids_mem.mp hy
  obtain⟨w,hw,d,hd,e2⟩:=goneOn_mem hz
  have:=congrArg List.dropLast (e.symm.trans e2)
  rw[List.dropLast_concat,List.dropLast_concat] at this
  exact h1 (this▸hw)
theorem fta_loop {m:Nat}(m4:m≤4){ps:List (List Nat)}(hl:ps.length≤10000)(h8:∀p∈ps,p.length≤31):∀(k L n:Nat) (xs:List (List Nat)) (s3 s4:Sl),L+k=32→(∀x∈xs,x.length=L∧(L=0∨isInner ps x=true))→xs.Nodup→k<n →
  match fta m ps k xs with
  | some x=>whD (bT (f2 (eqD true) (fNm 2) (fO mkL zB))) (zO (sSet 3 (fA (ari 2 yj) (zj (fNm 0) (zj (fNm 2) zB)))) (zO (sFor 4 (fI lsD (fNm 3)) (sIf (bT (fA (ari 2 zX) (zj (fNm 1) (zj (fNm 4) zB)))) (sRet (fNm 4)) sNx)) (sSetA 2 (fCp (fI lsD (fNm 3)) (bT (fA (ari 2 zY) (zj (fNm 1) (zj (fNm 0) zB)))) (fNm 0) [1])))) n [.fz (.int m),.fz (.tup (sT ps)),.fz (.lst (sT xs)),s3,s4]=.rt (.str x)
  | none=>∃ρ',whD (bT (f2 (eqD true) (fNm 2) (fO mkL zB))) (zO (sSet 3 (fA (ari 2 yj) (zj (fNm 0) (zj (fNm 2) zB)))) (zO (sFor 4 (fI lsD (fNm 3)) (sIf (bT (fA (ari 2 zX) (zj (fNm 1) (zj (fNm 4) zB)))) (sRet (fNm 4)) sNx)) (sSetA 2 (fCp (fI lsD (fNm 3)) (bT (fA (ari 2 zY) (zj (fNm 1) (zj (fNm 0) zB)))) (fNm 0) [1])))) n [.fz (.int m),.fz (.tup (sT ps)),.fz (.lst (sT xs)),s3,s4]=.nx ρ':=by
 intro k
 induction k with
 | zero =>
  intro L n xs s3 s4 hL hx hn hk
  have:xs=[]:=by
   cases xs with
   | nil=>rfl
   | cons x xs =>
    obtain⟨e1,e2⟩:=hx x (.head _)
    rcases e2 with e2|e2
    ·omega
    ·have:=inner_len e2 h8;omega
  subst this
  obtain⟨n',rfl⟩:∃n',n=n'+1:=⟨n - 1,by omega⟩
  refine⟨[.fz (.int m),.fz (.tup (sT ps)),.fz (.lst (sT [])),s3,s4],?_⟩
  unfold whD
  have e0:(bT (f2 (eqD true) (fNm 2) (fO mkL zB))) [.fz (.int m),.fz (.tup (sT ps)),.fz (.lst (sT [])),s3,s4]=.ok false:=by
   show(lf (eqD true (.lst (sT [])) (.lst (sT [])))).bind tru=_
   rw[eqD_lst];rfl
  rw[e0]
 | succ k ih =>
  intro L n xs s3 s4 hL hx hn hk
  obtain⟨n',rfl⟩:∃n',n=n'+1:=⟨n - 1,by omega⟩
  have et:(bT (f2 (eqD true) (fNm 2) (fO mkL zB))) [.fz (.int m),.fz (.tup (sT ps)),.fz (.lst (sT xs)),s3,s4]=.ok (!decide (xs=[])):=by
   show(lf (eqD true (.lst (sT xs)) (.lst (sT [])))).bind tru=_
   rw[eqD_lst];rfl
  by_cases h0:xs=[]
  ·have ef:fta m ps (k+1) xs=none:=by unfold fta;rw[if_pos h0]
   rw[ef]
   refine⟨[.fz (.int m),.fz (.tup (sT ps)),.fz (.lst (sT xs)),s3,s4],?_⟩
   unfold whD
   rw[et,decide_eq_true h0]
   rfl
  ·have ef:fta m ps (k+1) xs=match (zH m xs).find? (isApart ps) with|some x=>some x|none=>fta m ps k ((zH m xs).filter (isInner ps)):=by
    rw[fta.eq_2,if_neg h0]
    all_goals (cases (zH m xs).find? (isApart ps) <;>rfl)
   rw[decide_eq_false h0] at et
   have hLs:L≤30:=by
    cases xs with
    | nil=>exact absurd rfl h0
    | cons x xs =>
     obtain⟨e1,e2⟩:=hx x (.head _)
     rcases e2 with e2|e2
     ·omega
     ·have:=inner_len e2 h8;omega
   have hcnt:xs.length≤ps.length+1:=by
    rcases Nat.eq_zero_or_pos L with z|z
    ·have:xs.length≤([[]]:List (List Nat)).length:=hn.length_le_of_subset fun x hxx=>by
      rw[List.length_eq_zero_iff.mp ((hx x hxx).1.trans z)];exact .head _
     simp at this;omega
    ·have:xs.length≤(ps.map fun p=>p.take L).length:=hn.length_le_of_subset fun x hxx=>by
      obtain⟨e1,e2⟩:=hx x hxx
      rcases e2 with e2|e2
      ·omega
      ·obtain⟨p,hp,q1,_⟩:=inner_iff.mp e2
       refine List.mem_map.mpr ⟨p,hp,?_⟩
       rw[← e1];exact(List.prefix_iff_eq_take.mp q1).symm
     rw[List.length_map] at this;omega
   have R:=fta_round (m:=m) (ps:=ps) (by omega) xs (fun x q=>by have:=(hx x q).1;omega) (by omega) s3 s4
   rw[ef]
   cases hf:(zH m xs).find? (isApart ps) with
   | some x =>
    rw[hf] at R
    show whD _ _ (n'+1) _=_
    unfold whD
    rw[et]
    simp only[Bool.not_false]
    rw[R]
   | none =>
    rw[hf] at R
    obtain⟨s3',s4',R⟩:=R
    have hx':∀x∈(zH m xs).filter (isInner ps),x.length=L+1∧(L+1=0∨isInner ps x=true):=fun x q=>by
     obtain⟨q1,q2⟩:=List.mem_filter.mp q
     obtain⟨y,hy,c,hc,rfl⟩:=goneOn_mem q1
     exact⟨by rw[List.length_append,(hx y hy).1];rfl,.inr q2⟩
    have hn':((zH m xs).filter (isInner ps)).Nodup:=(goneOn_nd m hn).filter _
    have:=ih (L+1) n' _ s3' s4' (by omega) hx' hn' (by omega)
    have es:whD (bT (f2 (eqD true) (fNm 2) (fO mkL zB))) (zO (sSet 3 (fA (ari 2 yj) (zj (fNm 0) (zj (fNm 2) zB)))) (zO (sFor 4 (fI lsD (fNm 3)) (sIf (bT (fA (ari 2 zX) (zj (fNm 1) (zj (fNm 4) zB)))) (sRet (fNm 4)) sNx)) (sSetA 2 (fCp (fI lsD (fNm 3)) (bT (fA (ari 2 zY) (zj (fNm 1) (zj (fNm 0) zB)))) (fNm 0) [1])))) (n'+1) [.fz (.int m),.fz (.tup (sT ps)),.fz (.lst (sT xs)),s3,s4]=whD (bT (f2 (eqD true) (fNm 2) (fO mkL zB))) (zO (sSet 3 (fA (ari 2 yj) (zj (fNm 0) (zj (fNm 2) zB)))) (zO (sFor 4 (fI lsD (fNm 3)) (sIf (bT (fA (ari 2 zX) (zj (fNm 1) (zj (fNm 4) zB)))) (sRet (fNm 4)) sNx)) (sSetA 2 (fCp (fI lsD (fNm 3)) (bT (fA (ari 2 zY) (zj (fNm 1) (zj (fNm 0) zB)))) (fNm 0) [1])))) n' [.fz (.int m),.fz (.tup (sT ps)),.fz (.lst (sT ((zH m xs).filter (isInner ps)))),s3',s4']:=by
     rw[whD.eq_2,et]
     simp only[Bool.not_false]
     rw[R]
    simp only[es]
    exact this
theorem first_text_eq {m:Nat}(m4:m≤4){ps:List (List Nat)}(hl:ps.length≤10000)(h8:∀p∈ps,p.length≤31):fn_first_text_apart [.int m,.tup (sT ps)]=.ok (match firstText m ps with|some x=>.str x|none=>.non):=by
 have:=fta_loop m4 hl h8 32 0 2000 [[]] .no .no rfl (fun x hx=>by rw[List.mem_singleton.mp hx];exact⟨rfl,.inl rfl⟩) (by decide) (by decide)
 unfold firstText
 cases hf:fta m ps 32 [[]] with
 | some x =>
  rw[hf] at this
  refine z8 ?_
  exact(zA (ρ':=[.fz (.int m),.fz (.tup (sT ps)),.fz (.lst (sT [[]])),.no,.no]) rfl).trans (sSeq_rt (cutX_rt this))
 | none =>
  rw[hf] at this
  obtain⟨ρ',e⟩:=this
  refine z8 ?_
  exact(zA (ρ':=[.fz (.int m),.fz (.tup (sT ps)),.fz (.lst (sT [[]])),.no,.no]) rfl).trans ((zA (cutX_nx e)).trans rfl)
def papD (m:Nat)(ps:List (List Nat)):D:=match firstPair ps with
 | some x=>.tup [.str x.1,.str x.2]
 | none=>(match firstText m ps with|some x=>.str x|none=>.non)
theorem first_paper_eq {m:Nat}(m4:m≤4){ps:List (List Nat)}(hl:ps.length≤10000)(h8:∀p∈ps,p.length≤31):fn_first_paper [.int m,.tup (sT ps)]=.ok (papD m ps):=by
 refine z8 ?_
 show g_first_paper [.fz (.int m),.fz (.tup (sT ps)),.no]=_
 unfold g_first_paper papD
 cases hf:firstPair ps with
 | some x =>
  have e1:sSet 2 (fA (ari 1 fn_first_pair) (zj (fNm 1) zB)) [.fz (.int m),.fz (.tup (sT ps)),.no]=.nx [.fz (.int m),.fz (.tup (sT ps)),.fz (.tup [.str x.1,.str x.2])]:=zM (d:=.tup [.str x.1,.str x.2]) (by
   show fn_first_pair [.tup (sT ps)]=_
   rw[first_pair_eq,hf])
  exact(zA e1).trans (sSeq_rt rfl)
 | none =>
  have e1:sSet 2 (fA (ari 1 fn_first_pair) (zj (fNm 1) zB)) [.fz (.int m),.fz (.tup (sT ps)),.no]=.nx [.fz (.int m),.fz (.tup (sT ps)),.fz .non]:=zM (d:=.non) (by
   show fn_first_pair [.tup (sT ps)]=_
   rw[first_pair_eq,hf])
  refine(zA e1).trans ((zA (ρ':=[.fz (.int m),.fz (.tup (sT ps)),.fz .non]) rfl).trans (sRet_ok ?_))
  show fn_first_text_apart [.int m,.tup (sT ps)]=_
  rw[first_text_eq m4 hl h8]
theorem pap_none {m:Nat}{ps:List (List Nat)}:isN false (papD m ps)=some (.bl ((firstPair ps).isNone&&(firstText m ps).isNone)):=by
 unfold papD
 cases firstPair ps with
 | some x=>rfl
 | none=>cases firstText m ps <;>rfl
theorem is_book_eq {m:Nat}{ps:List (List Nat)}(h:Pcs m ps):fn_is_book [.int m,.tup (sT ps)]=.ok (.bl (isBook m ps)):=by
 have h8:∀p∈ps,p.length≤31:=fun p q=>(h.2.2.2.2 p q).2.2
 have hl:ps.length≤10000:=by have:=h.2.2.2.1;omega
 refine z8 (sRet_ok ?_)
 show(fn_are_pieces [.int m,.tup (sT ps)]).bind (fun a=>(tru a).bind fun b=>if b=true then(fn_first_paper [.int m,.tup (sT ps)]).bind (fun a=>lf (isN false a)) else .ok (.bl false))=_
 rw[are_pieces_eq h,first_paper_eq h.2.1 hl h8]
 show(if rising ps=true then lf (isN false (papD m ps)) else Rs.ok (D.bl false))=_
 rw[pap_none]
 unfold isBook
 cases rising ps <;>simp[lf]
theorem require_book_eq {m:Nat}{ps:List (List Nat)}(h:Pcs m ps)(hr:isBook m ps=true):fn_require_book [.int m,.tup (sT ps)]=.ok .non:=by
 refine runD_nx (ρ:=[.fz (.int m),.fz (.tup (sT ps))]) ?_
 refine(sIf_f ?_).trans rfl
 show((fn_is_book [.int m,.tup (sT ps)]).bind tru).bind (fun b=>Rs.ok !b)=_
 rw[is_book_eq h,hr];rfl
theorem require_text_eq {m:Nat}(m4:m≤4){l:List Nat}(h:LetOk m l)(hl:l.length≤1000000):z9 [.int m,.str l]=.ok .non:=by
 refine runD_nx (ρ:=[.fz (.int m),.fz (.str l)]) ?_
 refine(sIf_f ?_).trans rfl
 show((fn_is_text_of [.int m,.str l]).bind tru).bind (fun b=>Rs.ok !b)=_
 rw[is_text_of_str m l hl,isText_ok m4 h];rfl
theorem cut_by_eq {ps:List (List Nat)}{l:List Nat}(hl:l.length≤1000):fn_cut_by [.tup (sT ps),.str l]=.ok (.tup [.lst (sT (cutF ps l).1),.str (cutF ps l).2]):=by
 have step:=forD_inv (i:=4) (g:=zO (sSet 3 (f2 addS (fNm 3) (fNm 4))) (sIf (bT (f2 (inD false) (fNm 3) (fNm 0))) (zO (sApp 2 (fNm 3)) (sSet 3 (fC (.str [])))) sNx)) (l:=l) (enc:=fun c=>D.str [c]) (ρ:=[.fz (.tup (sT ps)),.fz (.str l),.ow [],.fz (.str []),.no])
  (fun k ρ=>∃s,ρ=[.fz (.tup (sT ps)),.fz (.str l),.ow (sT (cutF ps (l.take k)).1),.fz (.str (cutF ps (l.take k)).2),s]) ⟨.no,rfl⟩ (fun k c ρ hc ⟨s,e⟩=>by
   subst e
   have hk:k<l.length:=(List.getElem?_eq_some_iff.mp hc).1
   have e3:l.take (k+1)=l.take k++[c]:=by rw[List.take_add_one,hc];rfl
   have e4:cutF ps (l.take (k+1))=zL ps (cutF ps (l.take k)) c:=by rw[e3];unfold cutF;rw[List.foldl_append];rfl
   have b1:=(cutF_len ps (l.take k)).1
   have b2:=(cutF_len ps (l.take k)).2
   rw[List.length_take] at b1 b2
   rw[e4]
   generalize cutF ps (l.take k)=st at *
   obtain⟨acc,left⟩:=st
   have e5:sSet 3 (f2 addS (fNm 3) (fNm 4)) [.fz (.tup (sT ps)),.fz (.str l),.ow (sT acc),.fz (.str left),.fz (.str [c])]=.nx [.fz (.tup (sT ps)),.fz (.str l),.ow (sT acc),.fz (.str (left++[c])),.fz (.str [c])]:=zM (d:=.str (left++[c])) (f2_ok (a:=.str left) (b:=.str [c]) rfl rfl (addS_ok (by show left.length+1≤_;dsimp only at b2;omega)))
   have e6:(bT (f2 (inD false) (fNm 3) (fNm 0))) [.fz (.tup (sT ps)),.fz (.str l),.ow (sT acc),.fz (.str (left++[c])),.fz (.str [c])]=.ok (decide (left++[c]∈ps)):=by
    show(lf (inQ false (.str (left++[c])) (sT ps))).bind tru=_
    rw[inQ_sT];rfl
   unfold zL
   by_cases hm:left++[c]∈ps
   ·rw[decide_eq_true hm] at e6
    rw[if_pos hm]
    have hlen:(sT acc).length<1000000:=by rw[sT_len];dsimp only at b1;omega
    refine⟨_,(zA e5).trans ((sIf_t e6).trans ((zA (sApp_ok rfl rfl hlen)).trans (zM (d:=.str []) rfl))),.fz (.str [c]),?_⟩
    have e7:sT (acc++[left++[c]])=sT acc++[D.str (left++[c])]:=by rw[← sT_app];rfl
    show _=[_,_,Sl.ow (sT (acc++[left++[c]])),_,_]
    rw[e7];rfl
   ·rw[decide_eq_false hm] at e6
    rw[if_neg hm]
    exact⟨_,(zA e5).trans ((sIf_f e6).trans rfl),_,rfl⟩)
 obtain⟨ρ',e,s,rfl⟩:=step
 rw[List.take_of_length_le (Nat.le_refl _)] at e
 refine z8 ?_
 show g_cut_by [.fz (.tup (sT ps)),.fz (.str l),.no,.no,.no]=_
 unfold g_cut_by
 refine(zA (ρ':=[.fz (.tup (sT ps)),.fz (.str l),.ow [],.no,.no]) rfl).trans ?_
 refine(zA (ρ':=[.fz (.tup (sT ps)),.fz (.str l),.ow [],.fz (.str []),.no]) rfl).trans ?_
 refine(zA (cutX_nx ((sFor_ok (ds:=l.map fun c=>.str [c]) rfl).trans e))).trans ?_
 rfl
def dK (ks:List (List Nat)):List (List Nat×D):=ks.map fun k=>(k,.bl true)
def cellF (ns:List Int)(k:Int):Int:=if ns=[] then 7*k else ns.getD (k % ns.length).toNat 0+6553*(k / ns.length)
def drawnF (ns:List Int)(k m:Int):Int :=
 let c1:=(cellF ns k % 2147483563*69069+104723*(k+1)) % 2147483563
 let c2:=(c1*c1+c1 / 3) % 2147483399
 (c2*c2+c2 / 7) % 2147483647 / 11 % m
theorem drawn_range (ns:List Int)(k:Int){m:Int}(hm:0<m):0≤drawnF ns k m∧drawnF ns k m<m:=by
 unfold drawnF
 exact⟨Int.emod_nonneg _ (by omega),Int.emod_lt_of_pos _ (by omega)⟩
def scD (ns:List Int):D:=.lst (ns.map .int)
theorem pls_ints:∀ns:List Int,D.pls (ns.map .int)=true
 | []=>rfl
 | n::ns=>by show((D.int n).pl&&D.pls (ns.map .int))=true;rw[pls_ints ns];rfl
theorem dep_ints:∀ns:List Int,PyData.depthAll (D.pys (ns.map .int))=0
 | []=>rfl
 | n::ns=>by show max 0 (PyData.depthAll (D.pys (ns.map .int)))=0;rw[dep_ints ns];rfl
theorem eqD_script (ns:List Int):eqD false (scD ns) (.lst [])=some (.bl (decide (ns=[]))):=by
 have h:(scD ns).pl=true∧(D.lst []).pl=true∧(scD ns).py.depth≤60:=⟨pls_ints ns,rfl,by show PyData.depthAll (D.pys (ns.map .int))+1≤60;rw[dep_ints];omega⟩
 unfold eqD
 rw[if_pos h]
 cases ns <;>rfl
theorem cell_eq (ns:List Int)(hn:ns.length≤63)(k:Int)(h0:0≤k)(h1:k<1000):fn__law_cell [scD ns,.int k]=.ok (.int (cellF ns k)):=by
 refine z8 ?_
 show g__law_cell [.fz (scD ns),.fz (.int k)]=_
 unfold g__law_cell cellF
 have e1:(bT (f2 (eqD false) (fNm 0) (fO mkL zB))) [.fz (scD ns),.fz (.int k)]=.ok (decide (ns=[])):=by
  show(lf (eqD false (scD ns) (.lst []))).bind tru=_
  rw[eqD_script];rfl
 by_cases h:ns=[]
 ·rw[decide_eq_true h] at e1
  rw[if_pos h]
  exact sSeq_rt ((sIf_t e1).trans (sRet_ok (mulI_ok rfl rfl (sm_of (by omega)) (sm_of (by omega)))))
 ·rw [decide_eq_false h] at e1
  rw[if_neg h]
  refine(zA (ρ':=[.fz (scD ns),.fz (.int k)]) ((sIf_f e1).trans rfl)).trans (sRet_ok ?_)
  have hl:0<ns.length:=List.length_pos_iff.mpr h
  have el:fO lenD (zj (fNm 0) zB) [.fz (scD ns),.fz (.int k)]=.ok (.int (ns.length:Int)):=by
   show Rs.ok (D.int ((ns.map D.int).length:Int))=_
   rw[List.length_map]
  have hp:(0:Int)<(ns.length:Int):=by omega
  have r1:=Int.emod_nonneg k (show(ns.length:Int)≠0 by omega)
  have r2:=Int.emod_lt_of_pos k hp
  have hd:0≤k / (ns.length:Int):=Int.ediv_nonneg h0 (by omega)
  have hd2:k / (ns.length:Int)≤k:=Int.ediv_le_self _ h0
  obtain⟨j,hj⟩:=Int.eq_ofNat_of_zero_le r1
  have hjl:j<ns.length:=by omega
  have ei:f2 ixD (fNm 0) (f2 modI (fNm 1) (fO lenD (zj (fNm 0) zB))) [.fz (scD ns),.fz (.int k)]=.ok (.int (ns.getD (k % (ns.length:Int)).toNat 0)):=by
   refine f2_ok (a:=scD ns) (b:=.int (k % (ns.length:Int))) rfl (modI_ok rfl el hp) ?_
   show atI (ns.map D.int) (k % (ns.length:Int))=_
   rw[hj]
   have:=atI_nat (xs:=ns.map D.int) (j:=j) (v:=.int ns[j]) (by rw[List.getElem?_map,List.getElem?_eq_getElem hjl];rfl)
   rw[this,Int.toNat_natCast,List.getD_eq_getElem?_getD,List.getElem?_eq_getElem hjl];rfl
  exact addI_ok ei (mulI_ok rfl (fdivI_ok rfl el hp (sm_of (by omega))) (sm_of (by omega)) (sm_of (by omega)))
theorem drawn_eq (ns:List Int)(hn:ns.length≤63)(k m:Int)(h0:0≤k)(h1:k<1000)(hm:0<m):zJ [scD ns,.int k,.int m]=.ok (.int (drawnF ns k m)):=by
 refine z8 ?_
 show g__law_drawn [.fz (scD ns),.fz (.int k),.fz (.int m),.no]=_
 have hD:∀c1 c2,(cellF ns k % 2147483563*69069+104723*(k+1)) % 2147483563=c1→(c1*c1+c1 / 3) % 2147483399=c2→drawnF ns k m=(c2*c2+c2 / 7) % 2147483647 / 11 % m:=by
  rintro _ _ rfl rfl;rfl
 unfold g__law_drawn
 have ec:fA (ari 2 fn__law_cell) (zj (fNm 0) (zj (fNm 1) zB)) [.fz (scD ns),.fz (.int k),.fz (.int m),.no]=.ok (.int (cellF ns k)):=cell_eq ns hn k h0 h1
 have a1:=Int.emod_nonneg (cellF ns k) (show(2147483563:Int)≠0 by decide)
 have a2:=Int.emod_lt_of_pos (cellF ns k) (show(0:Int)<2147483563 by decide)
 generalize hc1:(cellF ns k % 2147483563*69069+104723*(k+1)) % 2147483563=c1
 have b1:0≤c1:=hc1▸Int.emod_nonneg _ (by decide)
 have b2:c1<2147483563:=hc1▸Int.emod_lt_of_pos _ (by decide)
 refine(zA (ρ':=[.fz (scD ns),.fz (.int k),.fz (.int m),.fz (.int c1)]) ?_).trans ?_
 ·rw[← hc1]
  exact zM (modI_ok (addI_ok (mulI_ok (modI_ok ec rfl (by decide)) rfl (sm_of (by omega)) (sm_of (by decide))) (mulI_ok rfl (addI_ok rfl rfl) (sm_of (by decide)) (sm_of (by omega)))) rfl (by decide))
 generalize hc2:(c1*c1+c1 / 3) % 2147483399=c2
 have d1:0≤c2:=hc2▸Int.emod_nonneg _ (by decide)
 have d2:c2<2147483399:=hc2▸Int.emod_lt_of_pos _ (by decide)
 refine(zA (ρ':=[.fz (scD ns),.fz (.int k),.fz (.int m),.fz (.int c2)]) ?_).trans ?_
 ·rw[← hc2]
  exact zM (modI_ok (addI_ok (mulI_ok rfl rfl (sm_of (by omega)) (sm_of (by omega))) (fdivI_ok rfl rfl (by decide) (sm_of (by decide)))) rfl (by decide))
 rw[hD c1 c2 hc1 hc2]
 exact sRet_ok (modI_ok (fdivI_ok (modI_ok (addI_ok (mulI_ok rfl rfl (sm_of (by omega)) (sm_of (by omega))) (fdivI_ok rfl rfl (by decide) (sm_of (by decide)))) rfl (by decide)) rfl (by decide) (sm_of (by decide))) rfl hm)
def textF (ns:List Int)(at' many long:Int):List Nat:=(List.range (drawnF ns at' (long+1)).toNat).map fun(i:Nat)=>abcd.getD (drawnF ns (at'+1+(i:Int)) many).toNat 0
theorem textF_ok (ns:List Int)(at':Int){m:Nat}(m2:2≤m)(m4:m≤4)(long:Int):LetOk m (textF ns at' m long):=fun c hc=>by
 obtain⟨i,_,rfl⟩:=List.mem_map.mp hc
 have hr:=drawn_range ns (at'+1+(i:Int)) (m:=m) (by omega)
 obtain⟨j,hj⟩:=Int.eq_ofNat_of_zero_le hr.1
 rw[hj] at hr ⊢
 rw[Int.toNat_natCast]
 have hj4:j<m:=by omega
 have:∀j<4,abcd.getD j 0=97+j:=by decide
 rw[this j (by omega)];omega
theorem textF_len (ns:List Int)(at' m:Int){long:Nat}:(textF ns at' m long).length≤long:=by
 unfold textF
 rw[List.length_map,List.length_range]
 have:=drawn_range ns at' (m:=(long:Int)+1) (by omega)
 omega
theorem ix_abcd {j:Nat}(h:j<4):ixD (.str [97,98,99,100]) (.int (j:Int))=some (.str [abcd.getD j 0]):=by
 have e:j=0∨j=1∨j=2∨j=3:=by omega
 rcases e with rfl|rfl|rfl|rfl <;>rfl
theorem text_eq (ns:List Int)(hn:ns.length≤63)(at':Nat){m:Nat}(m2:2≤m)(m4:m≤4)(long:Nat)(hat:at'+long+1<1000):fn__law_text [scD ns,.int at',.int m,.int long]=.ok (.str (textF ns at' m long)):=by
 have hr:=drawn_range ns at' (m:=(long:Int)+1) (by omega)
 obtain⟨z,hz⟩:=Int.eq_ofNat_of_zero_le hr.1
 rw[hz] at hr
 have e1:fA (ari 3 zJ) (zj (fNm 0) (zj (fNm 1) (zj (f2 addI (fNm 3) (fC (.int 1))) zB))) [.fz (scD ns),.fz (.int at'),.fz (.int m),.fz (.int long),.no]=.ok (.int (z:Int)):=by
  rw[← hz];exact drawn_eq ns hn at' (long+1) (by omega) (by omega) (by omega)
 have e2:compD bTrue (f2 ixD (fC (.str [97,98,99,100])) (fA (ari 3 zJ) (zj (fNm 1) (zj (f2 addI (f2 addI (fNm 3) (fC (.int 1))) (fNm 0)) (zj (fNm 2) zB))))) [.no,.fz (scD ns),.fz (.int m),.fz (.int at')] ((List.range z).map fun(k:Nat)=>.int (k:Int))=.ok ((List.range z).map fun(i:Nat)=>.str [abcd.getD (drawnF ns ((at':Int)+1+(i:Int)) m).toNat 0]):=compD_map (enc:=fun(k:Nat)=>D.int (k:Int)) _ fun i hi=>by
  have hi':i<z:=by simpa using hi
  have hr2:=drawn_range ns ((at':Int)+1+(i:Int)) (m:=m) (by omega)
  have e3:fA (ari 3 zJ) (zj (fNm 1) (zj (f2 addI (f2 addI (fNm 3) (fC (.int 1))) (fNm 0)) (zj (fNm 2) zB))) [.fz (.int (i:Int)),.fz (scD ns),.fz (.int m),.fz (.int at')]=.ok (.int (drawnF ns ((at':Int)+1+(i:Int)) m)):=drawn_eq ns hn _ m (by omega) (by omega) (by omega)
  obtain⟨j,hj⟩:=Int.eq_ofNat_of_zero_le hr2.1
  rw[hj] at e3 hr2 ⊢
  rw[Int.toNat_natCast]
  exact f2_ok (a:=.str [97,98,99,100]) (b:=.int (j:Int)) rfl e3 (ix_abcd (by omega))
 refine z8 ?_
 show g__law_text [.fz (scD ns),.fz (.int at'),.fz (.int m),.fz (.int long),.no]=_
 unfold g__law_text
 refine(zA (zM e1)).trans (sRet_ok ?_)
 have e4:fComp (fR rng1 (zj (fNm 4) zB)) bTrue (f2 ixD (fC (.str [97,98,99,100])) (fA (ari 3 zJ) (zj (fNm 1) (zj (f2 addI (f2 addI (fNm 3) (fC (.int 1))) (fNm 0)) (zj (fNm 2) zB))))) [0,2,1] [.fz (scD ns),.fz (.int at'),.fz (.int m),.fz (.int long),.fz (.int (z:Int))]=.ok (.lst ((List.range z).map fun(i:Nat)=>.str [abcd.getD (drawnF ns ((at':Int)+1+(i:Int)) m).toNat 0])) :=
  fComp_ok (fR_ok (ds:=[.int (z:Int)]) rfl (rng1_nat (by omega))) (by rw[List.length_map,List.length_range];omega) e2
 refine fM_ok (a:=.str []) rfl rfl e4 ?_
 have et:textF ns at' m long=(List.range z).map fun(i:Nat)=>abcd.getD (drawnF ns ((at':Int)+1+(i:Int)) m).toNat 0:=by unfold textF;rw[hz,Int.toNat_natCast]
 have ef:((((List.range z).map fun(i:Nat)=>D.str [abcd.getD (drawnF ns ((at':Int)+1+(i:Int)) m).toNat 0])).map unS).flatten=textF ns at' m long:=by
  rw[et,List.map_map]
  generalize (List.range z)=r
  induction r with
  | nil=>rfl
  | cons a r ih=>rw[List.map_cons,List.flatten_cons,ih];rfl
 dsimp only [joinD]
 rw[ef,if_pos]
 refine⟨by rw[List.all_map];exact List.all_eq_true.mpr fun _ _=>rfl,?_⟩
 have:=textF_len ns at' m (long:=long)
 omega
def bkF (ns:List Int)(at':Nat)(m:Nat):Nat→List (List Nat)
 | 0=>kids m []
 | t+1=>part m (bkF ns at' m t) (drawnF ns ((at':Int)+(t:Int)) ((bkF ns at' m t).length:Int)).toNat
theorem bkF_gr (ns:List Int)(at':Nat){m:Nat}(m2:2≤m)(m4:m≤4):∀t:Nat,My.Gr m t (bkF ns at' m t)
 | 0=>.z
 | t+1=>by
  have g:=bkF_gr ns at' m2 m4 t
  have hl:=g.len m2 m4
  have hd:=drawn_range ns ((at':Int)+(t:Int)) (m:=((bkF ns at' m t).length:Int)) (by rw[hl];omega)
  exact .s g (by omega)
theorem kids_eq (m:Nat)(m4:m≤4)(p:List Nat):kids m p=(List.range m).map fun i=>p++[abcd.getD i 0]:=by
 unfold kids
 have:∀m≤4,abcd.take m=(List.range m).map fun i=>abcd.getD i 0:=by decide
 rw[this m m4,List.map_map];rfl
theorem sortD_lst {ls:List (List Nat)}(h:ls.length<64):sortD [.lst (sT ls)]=some (sT (sortF ls)):=by
 dsimp only [sortD]
 unfold sortL
 rw[if_pos ⟨all_isS ls,by rw[sT_len];exact h⟩,map_unS];rfl
theorem sT_erase (ls:List (List Nat))(k:Nat):(sT ls).eraseIdx k=sT (ls.eraseIdx k):=by
 exact erase_map D.str ls k
theorem book_eq (ns:List Int)(hn:ns.length≤63)(at':Nat){m:Nat}(m2:2≤m)(m4:m≤4)(t:Nat)(ht:t≤8)(hat:at'≤900):fn__law_book [scD ns,.int at',.int m,.int t]=.ok (.tup (sT (bkF ns at' m t))):=by
 have e0:fCp (fR rng1 (zj (fNm 2) zB)) bTrue (f2 ixD (fC (.str [97,98,99,100])) (fNm 0)) [] [.fz (scD ns),.fz (.int at'),.fz (.int m),.fz (.int t),.no,.no,.no]=.ok (sT (kids m [])):=by
  refine fCp_ok (fR_ok (ds:=[.int (m:Int)]) rfl (rng1_nat (by omega))) (by rw[List.length_map,List.length_range];omega) ?_
  rw[kids_eq m m4]
  have:=compD_map (fe:=f2 ixD (fC (.str [97,98,99,100])) (fNm 0)) (ρ0:=[.no]) (l:=List.range m) (enc:=fun(k:Nat)=>D.int (k:Int)) (fun i=>.str ([]++[abcd.getD i 0])) fun i hi=>f2_ok (a:=.str [97,98,99,100]) (b:=.int (i:Int)) rfl rfl (ix_abcd (by have:=List.mem_range.mp hi;omega))
  unfold sT
  rw[List.map_map]
  exact this
 have loop:=forD_inv (i:=5) (g:=zO (sPop 4 6 (fFl 4 (fA (ari 3 zJ) (zj (fNm 0) (zj (f2 addI (fNm 1) (fNm 5)) (zj (fO lenD (zj (fNm 4) zB)) zB)))))) (sIce 4 (sSetO 4 (fL sortD (zj (fLs (fL2 catD (fNm 4) (fComp (fR rng1 (zj (fNm 2) zB)) bTrue (f2 addS (fNm 1) (f2 ixD (fC (.str [97,98,99,100])) (fNm 0))) [6]))) zB))))) (l:=List.range t) (enc:=fun(k:Nat)=>D.int (k:Int)) (ρ:=[.fz (scD ns),.fz (.int at'),.fz (.int m),.fz (.int t),.ow (sT (kids m [])),.no,.no])
  (fun k ρ=>∃s s',ρ=[.fz (scD ns),.fz (.int at'),.fz (.int m),.fz (.int t),.ow (sT (bkF ns at' m k)),s,s']) ⟨.no,.no,rfl⟩ (fun k c ρ hc ⟨s,s',e⟩=>by
   subst e
   have hk:k<t:=by have:=(List.getElem?_eq_some_iff.mp hc).1;simpa using this
   have ec:c=k:=by rw[List.getElem?_range hk] at hc;exact(Option.some.inj hc).symm
   subst ec
   have g:=bkF_gr ns at' m2 m4 c
   have hl:=g.len m2 m4
   have hsh:=g.short m2 m4
   have hll:(bkF ns at' m c).length≤28:=by
    rw[hl]
    have:c*(m - 1)≤8*3:=Nat.mul_le_mul (by omega) (by omega)
    omega
   have hpos:0<(bkF ns at' m c).length:=by rw[hl];omega
   have hd:=drawn_range ns ((at':Int)+(c:Int)) (m:=((bkF ns at' m c).length:Int)) (by omega)
   obtain⟨j,hj⟩:=Int.eq_ofNat_of_zero_le hd.1
   rw[hj] at hd
   have hjl:j<(bkF ns at' m c).length:=by omega
   have eB:bkF ns at' m (c+1)=part m (bkF ns at' m c) j:=by
    show part m (bkF ns at' m c) (drawnF ns ((at':Int)+(c:Int)) ((bkF ns at' m c).length:Int)).toNat=_
    rw[hj];rfl
   rw[eB]
   generalize hB:bkF ns at' m c=B at *
   have ed:fFl 4 (fA (ari 3 zJ) (zj (fNm 0) (zj (f2 addI (fNm 1) (fNm 5)) (zj (fO lenD (zj (fNm 4) zB)) zB)))) [.fz (scD ns),.fz (.int at'),.fz (.int m),.fz (.int t),.ow (sT B),.fz (.int (c:Int)),s']=.ok (.int (j:Int)):=by
    refine fFl_ok rfl ?_ rfl
    show zJ [scD ns,.int ((at':Int)+(c:Int)),.int ((sT B).length:Int)]=_
    rw[sT_len,← hj]
    exact drawn_eq ns hn _ _ (by omega) (by omega) (by omega)
   have ep:(sT B)[j]? = some (.str B[j]):=by unfold sT;rw[List.getElem?_map,List.getElem?_eq_getElem hjl];rfl
   have eg:B.getD j []=B[j]:=by rw[List.getD_eq_getElem?_getD,List.getElem?_eq_getElem hjl];rfl
   have hp8:=hsh B[j] (List.getElem_mem hjl)
   refine⟨_,(zA (sPop_ok rfl ed (by omega) ep)).trans ?_,.fz (.int (c:Int)),.fz (.str B[j]),rfl⟩
   rw[sT_erase]
   refine(sIce_ok (ds:=sT (B.eraseIdx j)) rfl).trans ?_
   refine(sSetO_ok (d:=sT (part m B j)) ?_).trans rfl
   have ek:fComp (fR rng1 (zj (fNm 2) zB)) bTrue (f2 addS (fNm 1) (f2 ixD (fC (.str [97,98,99,100])) (fNm 0))) [6] [.fz (scD ns),.fz (.int at'),.fz (.int m),.fz (.int t),.fz (.lst (sT (B.eraseIdx j))),.fz (.int (c:Int)),.fz (.str B[j])]=.ok (.lst (sT (kids m B[j]))):=by
    refine fComp_ok (fR_ok (ds:=[.int (m:Int)]) rfl (rng1_nat (by omega))) (by rw[List.length_map,List.length_range];omega) ?_
    rw[kids_eq m m4]
    have:=compD_map (fe:=f2 addS (fNm 1) (f2 ixD (fC (.str [97,98,99,100])) (fNm 0))) (ρ0:=[.no,.fz (.str B[j])]) (l:=List.range m) (enc:=fun(k:Nat)=>D.int (k:Int)) (fun i=>.str (B[j]++[abcd.getD i 0])) fun i hi=>f2_ok (a:=.str B[j]) (b:=.str [abcd.getD i 0]) rfl (f2_ok (a:=.str [97,98,99,100]) (b:=.int (i:Int)) rfl rfl (ix_abcd (by have:=List.mem_range.mp hi;omega))) (addS_ok (by show B[j].length+1≤_;omega))
    unfold sT
    rw[List.map_map]
    exact this
   have el:(B.eraseIdx j++kids m B[j]).length<64:=by
    rw[List.length_append,kids_len m m4,List.length_eraseIdx,if_pos hjl];omega
   have ecat:fL2 catD (fNm 4) (fComp (fR rng1 (zj (fNm 2) zB)) bTrue (f2 addS (fNm 1) (f2 ixD (fC (.str [97,98,99,100])) (fNm 0))) [6]) [.fz (scD ns),.fz (.int at'),.fz (.int m),.fz (.int t),.fz (.lst (sT (B.eraseIdx j))),.fz (.int (c:Int)),.fz (.str B[j])]=.ok (sT (B.eraseIdx j++kids m B[j])):=by
    unfold fL2
    rw[ek]
    show lf' (catD (.lst (sT (B.eraseIdx j))) (.lst (sT (kids m B[j]))))=_
    dsimp only [catD]
    rw[if_pos (by rw[sT_len,sT_len,← List.length_append];omega),sT_app];rfl
   refine fL_ok (aCons_ok (fLs_ok ecat) rfl) ?_
   rw[sortD_lst el]
   unfold part
   rw[eg])
 obtain⟨ρ',e,s,s',rfl⟩:=loop
 rw[List.length_range] at e
 refine z8 ?_
 show g__law_book [.fz (scD ns),.fz (.int at'),.fz (.int m),.fz (.int t),.no,.no,.no]=_
 unfold g__law_book
 refine(zA (sSetO_ok e0)).trans ((zA (cutX_nx ((sFor_ok (fR_ok (ds:=[.int (t:Int)]) rfl (rng1_nat (by omega)))).trans e))).trans ?_)
 rfl
theorem gr_pcs {m:Nat}(m2:2≤m)(m4:m≤4){t:Nat}(ht:t≤8){B:List (List Nat)}(g:My.Gr m t B):Pcs m B:=by
 have hb:=g.book m2 m4
 have hl:=g.len m2 m4
 have hs:=g.short m2 m4
 refine⟨m2,m4,fun e=>?_,?_,fun p hp=>?_⟩
 ·rw[e] at hl;simp at hl;omega
 ·rw[hl]
  have:t*(m - 1)≤8*3:=Nat.mul_le_mul (by omega) (by omega)
  omega
 ·exact⟨hb.let_ p hp,hb.ne p hp,by have:=hs p hp;omega⟩
end Pg
set_option maxHeartbeats 4000000
namespace Pg
open PySem L2 PyProof.Rows
end Pg
set_option maxHeartbeats 1000000
namespace Pg
open PySem L2 My
theorem fA1 {fn:List D→Rs D}{f:Rho→Rs D}{ρ:Rho}{a:D}(e1:f ρ=.ok a):fA (ari 1 fn) (zj f zB) ρ=fn [a]:=by
 unfold fA;rw[aCons_ok e1 rfl];rfl
theorem fA2 {fn:List D→Rs D}{f g:Rho→Rs D}{ρ:Rho}{a b:D}(e1:f ρ=.ok a)(e2:g ρ=.ok b):fA (ari 2 fn) (zj f (zj g zB)) ρ=fn [a,b]:=by
 unfold fA;rw[aCons_ok e1 (aCons_ok e2 rfl)];rfl
theorem fA3 {fn:List D→Rs D}{f g h:Rho→Rs D}{ρ:Rho}{a b c:D}(e1:f ρ=.ok a)(e2:g ρ=.ok b)(e3:h ρ=.ok c):fA (ari 3 fn) (zj f (zj g (zj h zB))) ρ=fn [a,b,c]:=by
 unfold fA;rw[aCons_ok e1 (aCons_ok e2 (aCons_ok e3 rfl))];rfl
theorem fA4 {fn:List D→Rs D}{f g h i:Rho→Rs D}{ρ:Rho}{a b c d:D}(e1:f ρ=.ok a)(e2:g ρ=.ok b)(e3:h ρ=.ok c)(e4:i ρ=.ok d):fA (ari 4 fn) (zj f (zj g (zj h (zj i zB)))) ρ=fn [a,b,c,d]:=by
 unfold fA;rw[aCons_ok e1 (aCons_ok e2 (aCons_ok e3 (aCons_ok e4 rfl)))];rfl
theorem ifF {ft:Rho→Rs Bool}{g:Rho→Out}{ρ:Rho}(e:ft ρ=.ok false):sIf ft g sNx ρ=.nx ρ:=sIf_f e
theorem bT_ok {f:Rho→Rs D}{ρ:Rho}{b:Bool}(e:f ρ=.ok (.bl b)):bT f ρ=.ok b:=by unfold bT;rw[e];rfl
theorem bNot_ok {f:Rho→Rs Bool}{ρ:Rho}{b:Bool}(e:f ρ=.ok b):bNot f ρ=.ok (!b):=by unfold bNot;rw[e];rfl
theorem loopSeq {i:Nat}{fi:Rho→Rs (List D)}{body rest:Rho→Out}{ρ:Rho}{ds:List D}{o:Out}(I:Rho→Prop)(e:fi ρ=.ok ds)(h:∃ρ',forD i body ds ρ=.nx ρ'∧I ρ')(k:∀ρ',I ρ'→rest ρ'=o):zO (cutX (sFor i fi body)) rest ρ=o:=by
 obtain⟨ρ',e1,i1⟩:=h
 exact(zA (cutX_nx ((sFor_ok e).trans e1))).trans (k ρ' i1)
theorem sSet2_ok {i j:Nat}{f:Rho→Rs D}{ρ:Rho}{a b:D}(e:f ρ=.ok (.tup [a,b])):sSet2 i j f ρ=.nx ((ρ.set i (.fz a)).set j (.fz b)):=by unfold sSet2;rw[e]
theorem sDrop_ok {f:Rho→Rs D}{ρ:Rho}{d:D}(e:f ρ=.ok d):sDrop f ρ=.nx ρ:=by unfold sDrop;rw[e]
def bitsN (n:Nat):Nat:=if n≤1 then 0 else if n≤2 then 1 else if n≤4 then 2 else if n≤8 then 3 else if n≤16 then 4 else 5
theorem bits_lt:∀n<33,∀b<6,(2 ^ b<n↔b<bitsN n):=by decide +kernel
theorem bits5 (n:Nat):bitsN n≤5:=by unfold bitsN;(repeat' split) <;>omega
theorem bits_loop {n:Nat}(h:n≤32):∀(j b f:Nat),bitsN n - b=j→b≤bitsN n→j<f →
  whD (bT (f2 ltI (fNm 2) (fNm 0))) (zO (sSet 1 (f2 addI (fNm 1) (fC (.int 1)))) (sSet 2 (f2 mulI (fNm 2) (fC (.int 2))))) f [.fz (.int n),.fz (.int (b:Int)),.fz (.int ((2 ^ b:Nat):Int))]=.nx [.fz (.int n),.fz (.int ((bitsN n:Nat):Int)),.fz (.int ((2 ^ bitsN n:Nat):Int))]:=by
 intro j
 induction j with
 | zero =>
  intro b f hj hb hf
  have eb:b=bitsN n:=by omega
  subst eb
  obtain⟨f,rfl⟩:∃g,f=g+1:=⟨f - 1,by omega⟩
  have hb5:=bits5 n
  have et:bT (f2 ltI (fNm 2) (fNm 0)) [.fz (.int n),.fz (.int ((bitsN n:Nat):Int)),.fz (.int ((2 ^ bitsN n:Nat):Int))]=.ok false:=by
   have:¬2 ^ bitsN n<n:=fun z=>by have:=(bits_lt n (by omega) (bitsN n) (by omega)).mp z;omega
   refine bT_ok (f2_ok (a:=.int ((2 ^ bitsN n:Nat):Int)) (b:=.int (n:Int)) rfl rfl ?_)
   show some (D.bl (decide (((2 ^ bitsN n:Nat):Int)<(n:Int))))=_
   rw[decide_eq_false (by omega)]
  unfold whD
  rw[et]
 | succ j ih =>
  intro b f hj hb hf
  obtain⟨f,rfl⟩:∃g,f=g+1:=⟨f - 1,by omega⟩
  have hb5:=bits5 n
  have hlt:2 ^ b<n:=(bits_lt n (by omega) b (by omega)).mpr (by omega)
  have et:bT (f2 ltI (fNm 2) (fNm 0)) [.fz (.int n),.fz (.int (b:Int)),.fz (.int ((2 ^ b:Nat):Int))]=.ok true:=by
   refine bT_ok (f2_ok (a:=.int ((2 ^ b:Nat):Int)) (b:=.int (n:Int)) rfl rfl ?_)
   show some (D.bl (decide (((2 ^ b:Nat):Int)<(n:Int))))=_
   rw[decide_eq_true (by omega)]
  have hp:2 ^ (b+1)=2 ^ b*2:=Nat.pow_succ ..
  have es:(zO (sSet 1 (f2 addI (fNm 1) (fC (.int 1)))) (sSet 2 (f2 mulI (fNm 2) (fC (.int 2))))) [.fz (.int n),.fz (.int (b:Int)),.fz (.int ((2 ^ b:Nat):Int))]=.nx [.fz (.int n),.fz (.int ((b+1:Nat):Int)),.fz (.int ((2 ^ (b+1):Nat):Int))]:=by
   refine(zA (zM (addI_ok rfl rfl))).trans ?_
   refine(zM (mulI_ok (i:=((2 ^ b:Nat):Int)) (j:=2) rfl rfl (sm_of (by omega)) (sm_of (by omega)))).trans ?_
   have:((2 ^ b:Nat):Int)*2=((2 ^ (b+1):Nat):Int):=by omega
   rw[this];rfl
  unfold whD
  rw[et]
  show(match (zO (sSet 1 (f2 addI (fNm 1) (fC (.int 1)))) (sSet 2 (f2 mulI (fNm 2) (fC (.int 2))))) [.fz (.int n),.fz (.int (b:Int)),.fz (.int ((2 ^ b:Nat):Int))] with | .nx ρ'=>_ | .ct ρ'=>_ | .bk ρ'=>_|o=>o)=_
  rw[es]
  exact ih (b+1) f (by omega) (by omega) (by omega)
theorem bits_for_eq {n:Nat}(h:n≤32):fn_bits_for [.int n]=.ok (.int ((bitsN n:Nat):Int)):=by
 have hb5:=bits5 n
 have:=bits_loop h (bitsN n) 0 64 rfl (Nat.zero_le _) (by omega)
 refine z8 ?_
 refine(zA (zM (d:=.int 0) rfl)).trans ((zA (zM (d:=.int 1) rfl)).trans ((zA (cutX_nx this)).trans rfl))
def wlow (i:Nat):Nat→List Nat
 | 0=>[]
 | k+1=>(48+i / 2 ^ k % 2)::wlow i k
theorem wlow_len (i:Nat):∀b,(wlow i b).length=b
 | 0=>rfl
 | b+1=>by show(wlow i b).length+1=_;rw[wlow_len i b]
theorem word_for_eq {i b:Nat}(hi:i≤1000)(hb:b≤1000):fn_word_for [.int i,.int b]=.ok (.str (wlow i b)):=by
 refine z8 ?_
 refine(zA (ρ':=[.fz (.int i),.fz (.int b),.fz (.str []),.no]) (zM (d:=.str []) rfl)).trans ?_
 refine loopSeq (fun ρ=>∃s,ρ=[.fz (.int ((i / 2 ^ b:Nat):Int)),.fz (.int b),.fz (.str (wlow i b)),s]) (fR_ok (ds:=[.int (b:Int)]) rfl (rng1_nat (by omega))) ?_ (fun ρ ⟨s,e⟩=>by subst e;rfl)
 have:=forD_inv (i:=3) (g:=zO (sSet 2 (f2 addS (fO strD (zj (f2 modI (fNm 0) (fC (.int 2))) zB)) (fNm 2))) (sSet 0 (f2 fdivI (fNm 0) (fC (.int 2))))) (l:=List.range b) (enc:=fun(k:Nat)=>D.int (k:Int)) (ρ:=[.fz (.int i),.fz (.int b),.fz (.str []),.no])
  (fun k ρ=>∃s,ρ=[.fz (.int ((i / 2 ^ k:Nat):Int)),.fz (.int b),.fz (.str (wlow i k)),s]) ⟨.no,by simp[wlow]⟩ (fun k c ρ hc ⟨s,e⟩=>by
   subst e
   have hk:k<b:=by have:=(List.getElem?_eq_some_iff.mp hc).1;simpa using this
   have hle:i / 2 ^ k≤i:=Nat.div_le_self _ _
   have e1:f2 modI (fNm 0) (fC (.int 2)) [.fz (.int ((i / 2 ^ k:Nat):Int)),.fz (.int b),.fz (.str (wlow i k)),.fz (.int (c:Int))]=.ok (.int (((i / 2 ^ k % 2:Nat)):Int)):=by
    refine(modI_ok (i:=((i / 2 ^ k:Nat):Int)) (j:=2) rfl rfl (by decide)).trans ?_
    have:(((i / 2 ^ k:Nat):Int)) % 2=((i / 2 ^ k % 2:Nat):Int):=by omega
    rw[this]
   have hm2:i / 2 ^ k % 2<2:=Nat.mod_lt _ (by decide)
   have e2:strD [.int (((i / 2 ^ k % 2:Nat)):Int)]=some (.str [48+i / 2 ^ k % 2]):=by
    dsimp only [strD]
    rw[if_pos (by omega)];rfl
   have e3:f2 fdivI (fNm 0) (fC (.int 2)) [.fz (.int ((i / 2 ^ k:Nat):Int)),.fz (.int b),.fz (.str (wlow i (k+1))),.fz (.int (c:Int))]=.ok (.int ((i / 2 ^ (k+1):Nat):Int)):=by
    refine(fdivI_ok (i:=((i / 2 ^ k:Nat):Int)) (j:=2) rfl rfl (by decide) (sm_of (by omega))).trans ?_
    have h1:i / 2 ^ (k+1)=i / 2 ^ k / 2:=by rw[Nat.pow_succ,Nat.div_div_eq_div_mul]
    have:(((i / 2 ^ k:Nat):Int)) / 2=((i / 2 ^ k / 2:Nat):Int):=by omega
    rw[h1,this]
   refine⟨_,(zA (ρ':=[.fz (.int ((i / 2 ^ k:Nat):Int)),.fz (.int b),.fz (.str (wlow i (k+1))),.fz (.int (c:Int))]) (zM (d:=.str (wlow i (k+1))) (f2_ok (a:=.str [48+i / 2 ^ k % 2]) (b:=.str (wlow i k)) (fO_ok (aCons_ok e1 rfl) e2) rfl (addS_ok (by rw[wlow_len];show 1+k≤_;omega))))).trans (zM e3),.fz (.int (c:Int)),rfl⟩)
 rw[List.length_range] at this
 exact this
def W (n:Nat):List (List Nat):=(List.range n).map fun i=>wlow i (bitsN n)
theorem W_len (n:Nat):(W n).length=n:=by simp[W]
theorem W_el {n:Nat}{w:List Nat}(h:w∈W n):w.length=bitsN n:=by
 obtain⟨i,_,rfl⟩:=List.mem_map.mp h
 exact wlow_len i _
theorem words_of_eq {B:List (List Nat)}(h:B.length≤32):fn_words_of [.tup (sT B)]=.ok (.lst (sT (W B.length))):=by
 have hb5:=bits5 B.length
 have el:fO lenD (zj (fNm 0) zB) [.fz (.tup (sT B)),.no]=.ok (.int (B.length:Int)):=by
  show Rs.ok (D.int ((sT B).length:Int))=_;rw[sT_len]
 refine z8 ((zA (ρ':=[.fz (.tup (sT B)),.fz (.int ((bitsN B.length:Nat):Int))]) (zM ((fA1 el).trans (bits_for_eq h)))).trans (sRet_ok ?_))
 have el2:fO lenD (zj (fNm 0) zB) [.fz (.tup (sT B)),.fz (.int ((bitsN B.length:Nat):Int))]=.ok (.int (B.length:Int)):=by
  show Rs.ok (D.int ((sT B).length:Int))=_;rw[sT_len]
 refine fComp_ok (fR_ok (aCons_ok el2 rfl) (rng1_nat (by omega))) (by rw[List.length_map,List.length_range];omega) ?_
 have:=compD_map (fe:=fA (ari 2 fn_word_for) (zj (fNm 0) (zj (fNm 1) zB))) (ρ0:=[.no,.fz (.int ((bitsN B.length:Nat):Int))]) (l:=List.range B.length) (enc:=fun(k:Nat)=>D.int (k:Int)) (fun i=>.str (wlow i (bitsN B.length))) fun i hi=>(fA2 (a:=.int (i:Int)) (b:=.int ((bitsN B.length:Nat):Int)) rfl rfl).trans (word_for_eq (by have:=List.mem_range.mp hi;omega) (by omega))
 unfold sT W
 rw[List.map_map]
 exact this
end Pg
namespace Pg
open PySem L2 My
def wd (B:List (List Nat))(p:List Nat):List Nat:=(W B.length).getD (B.idxOf p) []
theorem wd_mem {B:List (List Nat)}{p:List Nat}(h:p∈B):wd B p∈W B.length:=by
 have h1:=List.idxOf_lt_length_of_mem h
 have h2:B.idxOf p<(W B.length).length:=by rw[W_len];exact h1
 unfold wd
 rw[List.getD_eq_getElem?_getD,List.getElem?_eq_getElem h2]
 exact List.getElem_mem h2
theorem putD_new {ds:List (List Nat×D)}{k:List Nat}{v:D}(h:∀kv∈ds,kv.1≠k):putD ds k v=ds++[(k,v)]:=by
 unfold putD
 rw[if_neg]
 intro z
 obtain⟨kv,hm,e⟩:=List.any_eq_true.mp z
 exact h kv hm (of_decide_eq_true e)
theorem zipL_eq {ks:List (List Nat)}{ds:List D}(s:ks.Pairwise (· < ·))(hl:ks.length=ds.length):zipL ks ds=ks.zip ds:=by
 have key:∀n,n≤ks.length→(List.range n).foldl (fun m j=>putD m (ks.getD j []) (ds.getD j .non)) []=(ks.zip ds).take n:=by
  intro n
  induction n with
  | zero=>intro _;rfl
  | succ n ih =>
   intro hn
   have h1:n<ks.length:=by omega
   have h2:n<ds.length:=by omega
   have h3:n<(ks.zip ds).length:=by rw[List.length_zip];omega
   rw[List.range_succ,List.foldl_append,ih (by omega)]
   show putD ((ks.zip ds).take n) (ks.getD n []) (ds.getD n .non)=_
   have e1:ks.getD n []=ks[n]:=by rw[List.getD_eq_getElem?_getD,List.getElem?_eq_getElem h1];rfl
   have e2:ds.getD n .non=ds[n]:=by rw[List.getD_eq_getElem?_getD,List.getElem?_eq_getElem h2];rfl
   rw[e1,e2,putD_new,List.take_add_one,List.getElem?_eq_getElem h3,List.getElem_zip];rfl
   intro kv hkv z
   obtain⟨i,hi,e⟩:=List.mem_iff_getElem.mp hkv
   rw[List.length_take] at hi
   rw[List.getElem_take,List.getElem_zip] at e
   subst e
   have:=List.pairwise_iff_getElem.mp s i n (by omega) h1 (by omega)
   dsimp only at z
   rw[z] at this
   exact List.lt_irrefl _ this
 unfold zipL
 rw[← hl,Nat.min_self,key _ (Nat.le_refl _),List.take_of_length_le (by rw[List.length_zip];omega)]
theorem getK_zip:∀(ks:List (List Nat)) (ds:List D) {k:List Nat},k∈ks→ks.length=ds.length→getK (ks.zip ds) k=ds[ks.idxOf k]?
 | [],_,_,h,_=>by simp at h
 | _::_,[],_,_,h=>by simp at h
 | a :: ks,d::ds,k,h,hl=>by
  by_cases e:a=k
  ·subst e
   simp[getK]
  ·have hk:k∈ks:=by
    rcases List.mem_cons.mp h with z|z
    ·exact absurd z.symm e
    ·exact z
   have ih:=getK_zip ks ds hk (by simpa using hl)
   have e2:(a::ks).idxOf k=ks.idxOf k+1:=by rw[List.idxOf_cons,beq_eq_false_iff_ne.mpr e];rfl
   rw[e2]
   show _=ds[ks.idxOf k]?
   rw[← ih]
   simp[getK,e]
theorem zip_words {B:List (List Nat)}(s:B.Pairwise (· < ·))(hl:B.length≤32):zipDD (.tup (sT B)) (.lst (sT (W B.length)))=some (.dct (B.zip (sT (W B.length)))):=by
 have:zipDD (.tup (sT B)) (.lst (sT (W B.length)))=if (sT B).all isS=true∧(sT B).length≤1000 then some (.dct (zipL ((sT B).map unS) (sT (W B.length)))) else none:=rfl
 rw[this,if_pos ⟨all_isS B,by rw[sT_len];omega⟩,map_unS,zipL_eq s (by rw[sT_len,W_len])]
theorem get_word {B:List (List Nat)}{p:List Nat}(h:p∈B):getD (.dct (B.zip (sT (W B.length)))) (.str p)=some (.str (wd B p)):=by
 have h1:=List.idxOf_lt_length_of_mem h
 have h2:B.idxOf p<(W B.length).length:=by rw[W_len];exact h1
 show getK _ p=_
 rw[getK_zip _ _ h (by rw[sT_len,W_len])]
 unfold sT wd
 rw[List.getElem?_map,List.getD_eq_getElem?_getD,List.getElem?_eq_getElem h2];rfl
theorem flat_len {B:List (List Nat)}{cs:List (List Nat)}(h:∀p∈cs,p∈B):(cs.map (wd B)).flatten.length=bitsN B.length*cs.length:=by
 induction cs with
 | nil=>rfl
 | cons p cs ih =>
  rw[List.map_cons,List.flatten_cons,List.length_append,ih fun q hq=>h q (.tail _ hq),W_el (wd_mem (h p (.head _))),List.length_cons,Nat.mul_succ]
  omega
theorem led_by_eq {B:List (List Nat)}(h32:B.length≤32)(s:B.Pairwise (· < ·)){l:List Nat}(hl:l.length≤1000):fn_led_by [.tup (sT B),.str l]=.ok (.tup [.str ((cutF B l).1.map (wd B)).flatten,.str (cutF B l).2]):=by
 obtain⟨_,hin,_⟩:=cut_facts B l
 have hlen:=(cutF_len B l).1
 have hb5:=bits5 B.length
 have ec:=cut_by_eq (ps:=B) hl
 generalize cutF B l=cf at *
 obtain⟨cs,left⟩:=cf
 dsimp only at hin hlen ec ⊢
 refine z8 ((zA (ρ':=[.fz (.tup (sT B)),.fz (.str l),.fz (.tup [.lst (sT cs),.str left]),.no]) (zM ((fA2 (a:=.tup (sT B)) (b:=.str l) rfl rfl).trans ec))).trans ?_)
 refine(zA (ρ':=[.fz (.tup (sT B)),.fz (.str l),.fz (.tup [.lst (sT cs),.str left]),.fz (.dct (B.zip (sT (W B.length))))]) (zM (f2_ok (a:=.tup (sT B)) (b:=.lst (sT (W B.length))) rfl ((fA1 (a:=.tup (sT B)) rfl).trans (words_of_eq h32)) (zip_words s h32)))).trans (sRet_ok ?_)
 have e1:=compD_map (fe:=f2 getD (fNm 1) (fNm 0)) (ρ0:=[.no,.fz (.dct (B.zip (sT (W B.length))))]) (l:=cs) (enc:=D.str) (fun p=>.str (wd B p)) fun p hpc=>f2_ok (a:=.dct (B.zip (sT (W B.length)))) (b:=.str p) rfl rfl (get_word (hin p hpc))
 have hfl:=flat_len hin
 have hcl:bitsN B.length*cs.length≤5*1000:=Nat.mul_le_mul hb5 (by omega)
 refine fO_ok (ds:=[.str (cs.map (wd B)).flatten,.str left]) (aCons_ok (fM_ok (a:=.str []) (b:=.lst (sT (cs.map (wd B)))) rfl rfl (fComp_ok (ds:=cs.map .str) rfl (by rw[List.length_map];omega) ?_) ?_) rfl) rfl
 ·have:sT (cs.map (wd B))=cs.map fun p=>.str (wd B p):=by unfold sT;rw[List.map_map];rfl
  rw[this];exact e1
 ·dsimp only [joinD]
  rw[map_unS,if_pos ⟨all_isS _,by omega⟩]
theorem led_eq {m:Nat}{B:List (List Nat)}(hp:Pcs m B)(hb:isBook m B=true)(s:B.Pairwise (· < ·)){l:List Nat}(hx:LetOk m l)(hl:l.length≤1000):fn_led [.int m,.tup (sT B),.str l]=.ok (.tup [.str ((cutF B l).1.map (wd B)).flatten,.str (cutF B l).2]):=by
 refine z8 ((zA (ρ':=[.fz (.int m),.fz (.tup (sT B)),.fz (.str l)]) ?_).trans ((zA (ρ':=[.fz (.int m),.fz (.tup (sT B)),.fz (.str l)]) ?_).trans (sRet_ok ?_)))
 ·show(match fn_require_book [.int m,.tup (sT B)] with | .ok _=>Out.nx [.fz (.int m),.fz (.tup (sT B)),.fz (.str l)] | .ex n=>.ex n | .no=>.no)=_
  rw[require_book_eq hp hb]
 ·show(match z9 [.int m,.str l] with | .ok _=>Out.nx [.fz (.int m),.fz (.tup (sT B)),.fz (.str l)] | .ex n=>.ex n | .no=>.no)=_
  rw[require_text_eq hp.2.1 hx (by omega)]
 ·exact led_by_eq hp.2.2.2.1 s hl
end Pg
namespace Pg
open PySem L2 My
theorem eqD_int (neg:Bool)(i j:Int):eqD neg (.int i) (.int j)=some (.bl (if neg then !decide (i=j) else decide (i=j))):=by
 unfold eqD
 rw[if_pos ⟨rfl,rfl,by show(PyData.int _).depth≤60;simp[PyData.depth]⟩]
 have:PyData.eqv (D.int i).py (D.int j).py=decide (i=j):=by
  show(i == j)=_
  by_cases h:i=j <;>simp[h]
 rw[this]
end Pg
namespace Pg
open PySem L2 My
def wU (ws:List Int)(l:List Nat):Int:=up ws l*ws.sum ^ (31 - l.length)
def qF (ws:List Int)(a:Int):Int×Int:=low a (ws.sum ^ 31)
theorem getD_some {B:List (List Nat)}{j:Nat}(hj:j<B.length):B[j]? = some (B.getD j []):=by
 rw[List.getD_eq_getElem?_getD,List.getElem?_eq_getElem hj];rfl
section
variable {ws:List Int}(h:SrcOk ws)
include h
theorem up_W {l:List Nat}(hl:LetOk ws.length l):up ws l≤ws.sum ^ l.length:=by
 have W:=W_range h
 induction l with
 | nil=>rw[List.length_nil,Int.pow_zero];exact Int.le_refl _
 | cons c l ih =>
  have h1:=ih fun d hd=>hl d (.tail _ hd)
  have h2:=wt_lt h (hl c (.head _))
  have h3:=wt_range h (hl c (.head _))
  have h4:=up_pos h (l:=l) fun d hd=>hl d (.tail _ hd)
  show wt ws c*up ws l≤_
  rw[List.length_cons,Int.pow_succ,Int.mul_comm (ws.sum ^ l.length)]
  exact Int.mul_le_mul (by omega) h1 (by omega) (by omega)
end
theorem forD_nx {i:Nat}{g:Rho→Out}{d:D}{ds:List D}{ρ ρ':Rho}(e:g (ρ.set i (.fz d))=.nx ρ'):forD i g (d::ds) ρ=forD i g ds ρ':=by
 show(match g (ρ.set i (.fz d)) with | .nx ρ'=>forD i g ds ρ' | .ct ρ'=>forD i g ds ρ' | .bk ρ'=>.nx ρ'|o=>o)=_
 rw[e]
end Pg
namespace My
theorem drop_pre {q p:List Nat}(h:q <+: p)(hn:q≠p):q <+: p.dropLast:=by
 rcases List.eq_nil_or_concat p with rfl|⟨l,c,rfl⟩
 ·exact absurd (List.prefix_nil.mp h) hn
 ·rw[List.concat_eq_append] at h hn ⊢
  rw[List.dropLast_concat]
  rcases List.prefix_concat_iff.mp h with e|e
  ·exact absurd e hn
  ·exact e
theorem drop_ne {p:List Nat}(h:p≠[]):p.dropLast≠p:=fun e=>by
 have:=congrArg List.length e
 have:=List.length_pos_iff.mpr h
 rw[List.length_dropLast] at *
 omega
theorem Inner.pre {B:List (List Nat)}{x y:List Nat}(h:Inner B y)(p:x <+: y):Inner B x:=by
 obtain⟨q,hq,hy,hn⟩:=h
 refine⟨q,hq,p.trans hy,fun e=>hn ?_⟩
 subst e
 exact hy.eq_of_length (Nat.le_antisymm hy.length_le p.length_le)
theorem Book.inner_not {m:Nat}{B:List (List Nat)}(h:Book m B){x y:List Nat}(hx:Inner B x)(hy:y <+: x):y∉B:=fun hyB=>h.free hx y hy (h.ne y hyB) hyB
theorem Book.mem_iff {m:Nat}{B:List (List Nat)}(h:Book m B){p:List Nat}:p∈B↔p≠[]∧LetOk m p∧Inner B p.dropLast∧¬Inner B p:=by
 constructor
 ·intro hp
  exact⟨h.ne p hp,h.let_ p hp,⟨p,hp,List.dropLast_prefix p,drop_ne (h.ne p hp)⟩,fun hi=>h.inner_not hi (List.prefix_refl p) hp⟩
 ·rintro ⟨hn,hl,hi,hni⟩
  obtain⟨q,hq,e|e⟩:=h.cv p hl
  ·by_cases eq:q=p
   ·exact eq▸hq
   ·exact absurd hq (h.inner_not hi (drop_pre e eq))
  ·by_cases eq:p=q
   ·exact eq▸hq
   ·exact absurd ⟨q,hq,e,eq⟩ hni
theorem Book.ext {m:Nat}{B C:List (List Nat)}(h:Book m B)(k:Book m C)(e:∀x,Inner B x↔Inner C x):B=C:=by
 have p:B.Perm C:=(List.perm_ext_iff_of_nodup h.nd k.nd).mpr fun p=>by rw[h.mem_iff,k.mem_iff,e,e]
 exact List.Perm.eq_of_pairwise (fun _ _ _ _ h k=>List.le_antisymm h k) h.srt k.srt p
structure Clo (m:Nat)(P:List Nat→Prop):Prop where
 nil:P []
 let_:∀x,P x→LetOk m x
 pre:∀x y,x <+: y→P y→P x
 bd:∃N,∀x,P x→x.length<N
theorem Book.clo {m:Nat}{B:List (List Nat)}(h:Book m B):Clo m (Inner B) where
 nil:=h.nilInner
 let_:=fun x hx=>h.innerLet hx
 pre:=fun x y p hy=>hy.pre p
 bd := by
  have:∃N,∀p∈B,p.length≤N:=by
   clear h
   induction B with
   | nil=>exact⟨0,by simp⟩
   | cons q B ih =>
    obtain⟨N,hN⟩:=ih
    refine⟨max N q.length,fun p hp=>?_⟩
    rcases List.mem_cons.mp hp with rfl|hp
    ·exact Nat.le_max_right _ _
    ·exact Nat.le_trans (hN p hp) (Nat.le_max_left _ _)
  obtain⟨N,hN⟩:=this
  refine⟨N+1,fun x hq39=>?_⟩
  obtain⟨p,hp,hx,_⟩:=hq39
  have:=hN p hp
  have:=hx.length_le
  omega
theorem Book.of {m:Nat}(m2:2≤m)(m4:m≤4){P:List Nat→Prop}(c:Clo m P){L:List (List Nat)}(s:L.Pairwise (·≤·))(n:L.Nodup)(hm:∀p,p∈L↔p≠[]∧LetOk m p∧P p.dropLast∧¬P p):Book m L∧∀x,Inner L x↔P x:=by
 have h97:97∈abcd.take m:=let_abcd m4 (by omega)
 obtain⟨N,hN⟩:=c.bd
 have up:∀(k:Nat) (x:List Nat),P x→N≤x.length+k→∃q∈L,x <+: q∧x≠q:=by
  intro k
  induction k with
  | zero=>intro x hx hk;have:=hN x hx;omega
  | succ k ih =>
   intro x hx hk
   by_cases hy:P (x++[97])
   ·obtain⟨q,hq,h1,h2⟩:=ih (x++[97]) hy (by simp;omega)
    refine⟨q,hq,(List.prefix_append _ _).trans h1,fun e=>?_⟩
    have:=h1.length_le
    rw[← e,List.length_append,List.length_singleton] at this
    omega
   ·refine⟨x++[97],(hm _).mpr ⟨by simp,(c.let_ x hx).app (LetOk.one h97),?_,hy⟩,List.prefix_append _ _,fun e=>ne_snoc x 97 e.symm⟩
    rw[List.dropLast_concat];exact hx
 have down:∀(k:Nat) (x:List Nat),x.length≤k→LetOk m x→¬P x→∃q∈L,q <+: x:=by
  intro k
  induction k with
  | zero =>
   intro x hk _ hx
   have:x=[]:=List.length_eq_zero_iff.mp (by omega)
   subst this
   exact absurd c.nil hx
  | succ k ih =>
   intro x hk hl hx
   have hne:x≠[]:=fun e=>hx (e▸c.nil)
   by_cases hd:P x.dropLast
   ·exact⟨x,(hm x).mpr ⟨hne,hl,hd,hx⟩,List.prefix_refl x⟩
   ·obtain⟨q,hq,e⟩:=ih x.dropLast (by rw[List.length_dropLast];omega) (hl.pre (List.dropLast_prefix x)) hd
    exact⟨q,hq,e.trans (List.dropLast_prefix x)⟩
 have inn:∀x,Inner L x↔P x:=fun x=>by
  constructor
  ·rintro⟨p,hp,h1,h2⟩
   exact c.pre _ _ (drop_pre h1 h2) ((hm p).mp hp).2.2.1
  ·intro hx
   obtain⟨q,hq,h1,h2⟩:=up N x hx (by omega)
   exact⟨q,hq,h1,h2⟩
 refine⟨⟨m2,m4,fun p hp=>((hm p).mp hp).2.1,fun p hp=>((hm p).mp hp).1,fun p hp q hq h=>?_,fun x hx=>?_,s,n⟩,inn⟩
 ·by_cases e:p=q
  ·exact e
  ·exact absurd (c.pre _ _ (drop_pre h e) ((hm q).mp hq).2.2.1) ((hm p).mp hp).2.2.2
 ·by_cases hP:P x
  ·obtain⟨q,hq,h1,_⟩:=up N x hP (by omega)
   exact⟨q,hq,.inr h1⟩
  ·obtain⟨q,hq,h1⟩:=down x.length x (Nat.le_refl _) hx hP
   exact⟨q,hq,.inl h1⟩
def Head (m:Nat)(B:List (List Nat))(x:List Nat):Prop:=x≠[]∧∀k∈kids m x,k∈B
def joinF (B:List (List Nat))(x:List Nat):List (List Nat):=sortF (B.filter (fun p=>!x.isPrefixOf p)++[x])
theorem Head.inner {m:Nat}{B:List (List Nat)}(h:Book m B){x:List Nat}(hx:Head m B x):Inner B x:=by
 have h97:97∈abcd.take m:=let_abcd h.m4 (by have:=h.m2;omega)
 exact⟨x++[97],hx.2 _ (kids_mem.mpr ⟨97,h97,rfl⟩),List.prefix_append _ _,fun e=>ne_snoc x 97 e.symm⟩
theorem Head.top {m:Nat}{B:List (List Nat)}(h:Book m B){x y:List Nat}(hx:Head m B x)(hy:Inner B y)(p:x <+: y):y=x:=by
 obtain⟨r,rfl⟩:=p
 cases r with
 | nil=>simp
 | cons c r =>
  have hc:=h.innerLet hy c (by simp)
  exact absurd (hx.2 _ (kids_mem.mpr ⟨c,let_abcd h.m4 hc,rfl⟩)) (h.inner_not hy ⟨r,by simp⟩)
theorem Book.join {m:Nat}{B:List (List Nat)}(h:Book m B){x:List Nat}(hx:Head m B x):Book m (joinF B x)∧∀y,Inner (joinF B x) y↔Inner B y∧y≠x:=by
 have hi:=hx.inner h
 have hxB:x∉B:=h.inner_not hi (List.prefix_refl x)
 refine Book.of h.m2 h.m4 (P:=fun y=>Inner B y∧y≠x) ⟨⟨h.nilInner,fun e=>hx.1 e.symm⟩,fun y hy=>h.innerLet hy.1,fun y z p hz=>⟨hz.1.pre p,fun e=>hz.2 (hx.top h hz.1 (e▸p))⟩,?_⟩ (sortF_srt _) ?_ fun p=>?_
 ·obtain⟨N,hN⟩:=h.clo.bd
  exact⟨N,fun y hy=>hN y hy.1⟩
 ·refine(sortF_perm _).nodup_iff.mpr (List.nodup_append.mpr ⟨h.nd.filter _,by simp,fun a ha b hb e=>?_⟩)
  rw[List.mem_singleton.mp hb] at e
  subst e
  exact hxB (List.mem_filter.mp ha).1
 ·unfold joinF
  rw[sortF_mem,List.mem_append,List.mem_filter,List.mem_singleton]
  have nb:(!x.isPrefixOf p)=true↔¬x <+: p:=by rw[Bool.not_eq_true',← Bool.not_eq_true,List.isPrefixOf_iff_prefix]
  rw[nb]
  constructor
  ·rintro (⟨hp,hnp⟩|rfl)
   ·obtain⟨a,b,c,d⟩:=h.mem_iff.mp hp
    exact⟨a,b,⟨c,fun e=>hnp (e▸List.dropLast_prefix p)⟩,fun e=>d e.1⟩
   ·exact⟨hx.1,h.innerLet hi,⟨hi.pre (List.dropLast_prefix _),drop_ne hx.1⟩,fun e=>e.2 rfl⟩
  ·rintro ⟨a,b,⟨c,c'⟩,d⟩
   by_cases e:p=x
   ·exact .inr e
   ·have hp:p∈B:=h.mem_iff.mpr ⟨a,b,c,fun z=>d ⟨z,e⟩⟩
    exact .inl ⟨hp,fun z=>c' (hx.top h c (drop_pre z fun z'=>e z'.symm))⟩
theorem Book.partAt {m:Nat}{B:List (List Nat)}(h:Book m B){p:List Nat}(hp:p∈B):Book m (My.part m B (B.idxOf p))∧∀x,Inner (My.part m B (B.idxOf p)) x↔Inner B x∨x=p:=by
 have hj:B.idxOf p<B.length:=List.idxOf_lt_length_iff.mpr hp
 refine⟨h.part hj,fun x=>?_⟩
 rw[inner_part' h.m2 h.m4 h hj]
 have:B.getD (B.idxOf p) []=p:=by rw[List.getD_eq_getElem?_getD,List.getElem?_eq_getElem hj];exact List.getElem_idxOf hj
 rw[this]
theorem Book.head_mem {m:Nat}{B:List (List Nat)}(h:Book m B){x:List Nat}(hx:Head m B x):x∈joinF B x:=by
 unfold joinF;rw[sortF_mem];simp
theorem Book.join_part {m:Nat}{B:List (List Nat)}(h:Book m B){x:List Nat}(hx:Head m B x):My.part m (joinF B x) ((joinF B x).idxOf x)=B:=by
 obtain⟨hb,hi⟩:=h.join hx
 obtain⟨kb,ki⟩:=hb.partAt (h.head_mem hx)
 refine kb.ext h fun y=>?_
 rw[ki,hi]
 constructor
 ·rintro(⟨a,_⟩|rfl)
  ·exact a
  ·exact hx.inner h
 ·intro a
  by_cases e:y=x
  ·exact .inr e
  ·exact .inl ⟨a,e⟩
theorem kids_inner {m:Nat}(m2:2≤m)(m4:m≤4)(x:List Nat):Inner (kids m []) x↔x=[]:=by
 constructor
 ·rintro⟨p,hp,hx,hn⟩
  obtain⟨c,_,rfl⟩:=kids_mem.mp hp
  rcases List.prefix_concat_iff.mp hx with e|e
  ·exact absurd e hn
  ·exact List.prefix_nil.mp e
 ·rintro rfl
  exact(Book.letters m2 m4).nilInner
theorem longest (L:List (List Nat))(P:List Nat→Prop) [DecidablePred P](h:∃x∈L,P x):∃x∈L,P x∧∀y∈L,P y→y.length≤x.length:=by
 induction L with
 | nil=>obtain⟨x,hx,_⟩:=h;cases hx
 | cons a L ih =>
  by_cases hL:∃x∈L,P x
  ·obtain ⟨x,hx,px,mx⟩:=ih hL
   by_cases ha:P a∧x.length≤a.length
   ·refine⟨a,.head _,ha.1,fun y hy py=>?_⟩
    rcases List.mem_cons.mp hy with rfl|hy
    ·exact Nat.le_refl _
    ·exact Nat.le_trans (mx y hy py) ha.2
   ·refine ⟨x,.tail _ hx,px,fun y hy py=>?_⟩
    rcases List.mem_cons.mp hy with rfl|hy
    ·have:¬x.length≤y.length:=fun z=>ha ⟨py,z⟩
     omega
    ·exact mx y hy py
  ·obtain ⟨x,hx,px⟩:=h
   rcases List.mem_cons.mp hx with rfl|hx
   ·refine⟨x,.head _,px,fun y hy py=>?_⟩
    rcases List.mem_cons.mp hy with rfl|hy
    ·exact Nat.le_refl _
    ·exact absurd ⟨y,hy,py⟩ hL
   ·exact absurd ⟨x,hx,px⟩ hL
theorem Book.hasHead {m:Nat}{B:List (List Nat)}(h:Book m B)(hx:∃x,Inner B x∧x≠[]):∃x,Head m B x:=by
 obtain⟨x0,h0,h1⟩:=hx
 obtain⟨x,hxk,hxn,hmax⟩:=longest (zU B) (fun x=>x≠[]) ⟨x0,innerKeys_mem.mpr h0,h1⟩
 refine⟨x,hxn,fun k hk=>?_⟩
 obtain⟨c,hc,rfl⟩:=kids_mem.mp hk
 rcases h.step (innerKeys_mem.mp hxk) hc with⟨a,_⟩|⟨_,a⟩
 ·have:=hmax _ (innerKeys_mem.mpr a) (by simp)
  rw[List.length_append,List.length_singleton] at this
  omega
 ·exact a
theorem join_keys {m:Nat}{B:List (List Nat)}(h:Book m B){x:List Nat}(hx:Head m B x):(zU (joinF B x)).length+1≤(zU B).length:=by
 obtain⟨hb,hi⟩:=h.join hx
 have:(x::zU (joinF B x)).length≤(zU B).length:=by
  refine List.Nodup.length_le_of_subset (List.nodup_cons.mpr ⟨fun z=>((hi x).mp (innerKeys_mem.mp z)).2 rfl,innerKeys_nd _⟩) fun y hy=>?_
  rcases List.mem_cons.mp hy with rfl|hy
  ·exact innerKeys_mem.mpr (hx.inner h)
  ·exact innerKeys_mem.mpr ((hi y).mp (innerKeys_mem.mp hy)).1
 simpa using this
theorem Book.gr {m:Nat}:∀(n:Nat) {B:List (List Nat)},Book m B→(zU B).length≤n→∃t,Gr m t B:=by
 intro n
 induction n with
 | zero =>
  intro B h hn
  have:[]∈zU B:=innerKeys_mem.mpr h.nilInner
  rw[List.length_eq_zero_iff.mp (Nat.le_zero.mp hn)] at this
  cases this
 | succ n ih =>
  intro B h hn
  by_cases hx:∃x,Inner B x∧x≠[]
  ·obtain⟨x,hx⟩:=h.hasHead hx
   obtain⟨t,g⟩:=ih (h.join hx).1 (by have:=join_keys h hx;omega)
   refine⟨t+1,?_⟩
   have:=Gr.s g (List.idxOf_lt_length_iff.mpr (h.head_mem hx))
   rwa [h.join_part hx] at this
  ·refine ⟨0,?_⟩
   have e:B=kids m []:=h.ext (Book.letters h.m2 h.m4) fun x=>by
    rw[kids_inner h.m2 h.m4]
    constructor
    ·intro hi
     by_cases e:x=[]
     ·exact e
     ·exact absurd ⟨x,hi,e⟩ hx
    ·rintro rfl;exact h.nilInner
   rw[e];exact Gr.z
theorem Book.grAt {m:Nat}{B:List (List Nat)}(h:Book m B):∃t,Gr m t B∧(zU B).length=t+1∧B.length=m+t*(m - 1):=by
 obtain⟨t,g⟩:=Book.gr _ h (Nat.le_refl _)
 exact⟨t,g,g.keysEq h.m2 h.m4,g.len h.m2 h.m4⟩
end My
namespace My
theorem rising_pw:∀{ps:List (List Nat)},rising ps=true→ps.Pairwise (· < ·)
 | [],_=>.nil
 | [a],_=>List.pairwise_singleton _ _
 | a::b::l,h=>by
  have h':decide (a<b)=true∧rising (b::l)=true:=by
   unfold rising at h ⊢
   simpa using h
  have ih:=rising_pw h'.2
  refine List.pairwise_cons.mpr ⟨fun x hx=>?_,ih⟩
  rcases List.mem_cons.mp hx with rfl|hx
  ·exact of_decide_eq_true h'.1
  ·exact List.lt_trans (of_decide_eq_true h'.1) ((List.pairwise_cons.mp ih).1 x hx)
theorem lt_more:∀(p:List Nat) (c:Nat) (r:List Nat),p<p++c::r
 | [],c,r=>List.nil_lt_cons c r
 | a::p,c,r=>List.cons_lt_cons_iff.mpr (.inr ⟨rfl,lt_more p c r⟩)
theorem pf_of {ps:List (List Nat)}(s:ps.Pairwise (· < ·))(h:firstPair ps=none):∀p∈ps,∀q∈ps,p <+: q→p=q:=by
 intro p hp q hq e
 obtain⟨r,rfl⟩:=e
 cases r with
 | nil=>simp
 | cons c r =>
  exfalso
  obtain⟨z,hz,h1,h2⟩:=next_of s hp hq (lt_more p c r)
  have e:=pre_between p z (c::r) (List.le_of_lt h1) h2
  have:=List.find?_eq_none.mp h _ hz
  exact this (List.isPrefixOf_iff_prefix.mpr e)
theorem fta_cv {m:Nat}(m4:m≤4){ps:List (List Nat)}:∀(n:Nat) (xs:List (List Nat)),fta m ps n xs=none→∀x∈xs,∀r:List Nat,LetOk m r→r≠[]→(∀s,s <+: r→s≠r→s≠[]→isInner ps (x++s)=true)→r.length≤n→isApart ps (x++r)=false:=by
 intro n
 induction n with
 | zero=>intro xs _ x _ r _ hr _ hl;exact absurd (List.length_eq_zero_iff.mp (Nat.le_zero.mp hl)) hr
 | succ n ih =>
  intro xs h x hx r hl hr hs hlen
  unfold fta at h
  rw[if_neg (fun e=>by rw[e] at hx;cases hx)] at h
  cases r with
  | nil=>exact absurd rfl hr
  | cons c r =>
   have hy:x++[c]∈zH m xs:=goneOn_in hx (let_abcd m4 (hl c (.head _)))
   split at h
   ·cases h
   ·rename_i hf
    have ha:isApart ps (x++[c])=false:=by
     have:=List.find?_eq_none.mp hf _ hy
     simpa using this
    cases r with
    | nil=>exact ha
    | cons d r =>
     have hi:isInner ps (x++[c])=true:=hs [c] ⟨d::r,rfl⟩ (by simp) (by simp)
     have:=ih _ h (x++[c]) (List.mem_filter.mpr ⟨hy,hi⟩) (d::r) (fun z hz=>hl z (.tail _ hz)) (by simp) (fun s hs1 hs2 hs3=>by
      have:=hs (c::s) (List.cons_prefix_cons.mpr ⟨rfl,hs1⟩) (fun e=>hs2 (List.cons.inj e).2) (by simp)
      rw[List.append_assoc];exact this) (by simp only[List.length_cons] at hlen ⊢;omega)
     rw[List.append_assoc] at this
     exact this
theorem cv_of_text {m:Nat}(m4:m≤4){ps:List (List Nat)}(h8:∀p∈ps,p.length≤31)(hne:ps≠[])(hn:∀p∈ps,p≠[])(h:firstText m ps=none):∀x,LetOk m x→∃p∈ps,p <+: x∨x <+: p:=by
 intro x hx
 have key:∀k,k≤x.length→Inner ps (x.take k)∨∃p∈ps,p <+: x:=by
  intro k
  induction k with
  | zero =>
   intro _
   obtain⟨p,hp⟩:=List.exists_mem_of_ne_nil ps hne
   exact .inl ⟨p,hp,by rw[List.take_zero];exact List.nil_prefix,fun e=>hn p hp (by rw[← e,List.take_zero])⟩
  | succ k ih =>
   intro hk
   rcases ih (by omega) with hi|hr
   ·by_cases hy:Inner ps (x.take (k+1))
    ·exact .inl hy
    ·refine .inr ?_
     have l8:=inner_len (inner_iff.mpr hi) h8
     rw[List.length_take,Nat.min_eq_left (by omega)] at l8
     have ha:isApart ps ([]++x.take (k+1))=false:=by
      refine fta_cv m4 32 [[]] h [] (by simp) _ (hx.pre (List.take_prefix _ _)) (fun e=>?_) (fun s s1 s2 s3=>?_) (by rw[List.length_take];omega)
      ·have:=congrArg List.length e
       rw[List.length_take,Nat.min_eq_left hk] at this
       simp at this
      ·rw [List.nil_append]
       have p1:=drop_pre s1 s2
       have e1:(x.take (k+1)).dropLast=x.take k:=by
        rw[List.dropLast_eq_take,List.length_take,Nat.min_eq_left hk,List.take_take]
        congr 1
        omega
       rw[e1] at p1
       exact inner_iff.mpr (hi.pre p1)
     rw[List.nil_append] at ha
     have hx2:∃p∈ps,x.take (k+1) <+: p∨p <+: x.take (k+1):=by
      by_cases hc:∃p∈ps,x.take (k+1) <+: p∨p <+: x.take (k+1)
      ·exact hc
      ·have:=apart_iff.mpr (fun p hp=>⟨fun z=>hc ⟨p,hp,.inl z⟩,fun z=>hc ⟨p,hp,.inr z⟩⟩)
       rw[ha] at this
       cases this
     obtain⟨p,hp,e|e⟩:=hx2
     ·by_cases e2:x.take (k+1)=p
      ·exact⟨p,hp,e2▸List.take_prefix _ _⟩
      ·exact absurd ⟨p,hp,e,e2⟩ hy
     ·exact⟨p,hp,e.trans (List.take_prefix _ _)⟩
   ·exact .inr hr
 rcases key x.length (Nat.le_refl _) with hi|⟨p,hp,e⟩
 ·obtain⟨p,hp,e,_⟩:=hi
  rw[List.take_of_length_le (Nat.le_refl _)] at e
  exact⟨p,hp,.inr e⟩
 ·exact⟨p,hp,.inl e⟩
theorem isBook_book {m:Nat}{ps:List (List Nat)}(hp:Pg.Pcs m ps)(h:isBook m ps=true):Book m ps:=by
 obtain⟨m2,m4,hne,hl,hq⟩:=hp
 unfold isBook at h
 rw[Bool.and_eq_true,Bool.and_eq_true,Option.isNone_iff_eq_none,Option.isNone_iff_eq_none] at h
 have s:=rising_pw h.1.1
 exact⟨m2,m4,fun p hp=>(hq p hp).1,fun p hp=>(hq p hp).2.1,pf_of s h.1.2,cv_of_text m4 (fun p hp=>(hq p hp).2.2) hne (fun p hp=>(hq p hp).2.1) h.2,s.imp List.le_of_lt,s.imp fun h e=>by rw[e] at h;exact List.lt_irrefl _ h⟩
end My
namespace Pg
open PySem L2 My
theorem cA2 {fn:List D→Rs D}{f g:Rho→Rs D}{ρ:Rho}{a b:D}{r:Rs D}(e1:f ρ=.ok a)(e2:g ρ=.ok b)(e:fn [a,b]=r):fA (ari 2 fn) (zj f (zj g zB)) ρ=r:=(fA2 e1 e2).trans e
theorem cA3 {fn:List D→Rs D}{f g h:Rho→Rs D}{ρ:Rho}{a b c:D}{r:Rs D}(e1:f ρ=.ok a)(e2:g ρ=.ok b)(e3:h ρ=.ok c)(e:fn [a,b,c]=r):fA (ari 3 fn) (zj f (zj g (zj h zB))) ρ=r:=(fA3 e1 e2 e3).trans e
theorem cA4 {fn:List D→Rs D}{f g h i:Rho→Rs D}{ρ:Rho}{a b c d:D}{r:Rs D}(e1:f ρ=.ok a)(e2:g ρ=.ok b)(e3:h ρ=.ok c)(e4:i ρ=.ok d)(e:fn [a,b,c,d]=r):fA (ari 4 fn) (zj f (zj g (zj h (zj i zB)))) ρ=r:=(fA4 e1 e2 e3 e4).trans e
structure Bb (m:Nat)(B:List (List Nat)):Prop where
 pcs:Pcs m B
 bk:Book m B
theorem Bb.isB {m:Nat}{B:List (List Nat)}(h:Bb m B):isBook m B=true:=h.bk.isBook
theorem bb_of {m:Nat}{B:List (List Nat)}(h:Book m B){n:Nat}(hn:(zU B).length≤n)(h10:n≤10)(h8:∀p∈B,p.length≤31):Bb m B∧B.length≤1+n*3:=by
 obtain⟨t,g,e1,e2⟩:=h.grAt
 have m2:=h.m2
 have m4:=h.m4
 have:t*(m - 1)≤t*3:=Nat.mul_le_mul_left t (by omega)
 have hl:B.length≤1+n*3:=by omega
 refine⟨⟨⟨m2,m4,fun z=>?_,by omega,fun p hp=>⟨h.let_ p hp,h.ne p hp,h8 p hp⟩⟩,h⟩,hl⟩
 rw[z] at e2
 simp at e2
 omega
end Pg
namespace Pg
open PySem L2 My
theorem goneOn_one (m:Nat)(x:List Nat):zH m [x]=kids m x:=by
 unfold zH kids;simp
theorem bAnd_ok {fa fb:Rho→Rs Bool}{ρ:Rho}{a b:Bool}(e1:fa ρ=.ok a)(e2:fb ρ=.ok b):bAnd fa fb ρ=.ok (a&&b):=by
 unfold bAnd;rw[e1];show(if a=true then fb ρ else .ok false)=_
 cases a
 ·rfl
 ·exact e2
theorem fI_ok {g:D→Option (List D)}{f:Rho→Rs D}{ρ:Rho}{a:D}{ds:List D}(e1:f ρ=.ok a)(e2:g a=some ds):fI g f ρ=.ok ds:=by
 unfold fI;rw[e1];show(match g a with|some ds=>Rs.ok ds|none=>.no)=_;rw[e2]
end Pg
namespace Pg
open PySem L2 My
theorem bAnd_f1 {f g:Rho→Rs Bool}{ρ:Rho}(e:f ρ=.ok false):bAnd f g ρ=.ok false:=by unfold bAnd;rw[e];rfl
structure Kc (m n:Nat)(B:List (List Nat)):Prop where
 bk:Book m B
 ks:(zU B).length≤n
 l7:∀p∈B,p.length≤n
section
variable {m n:Nat}{B C S:List (List Nat)}
theorem Kc.len (h:Kc m n B)(h8:n≤7):B.length≤1+n*3:=(bb_of h.bk h.ks (by omega) fun p hp=>by have:=h.l7 p hp;omega).2
theorem Kc.part (h:Kc m n B){p:List Nat}(hp:p∈B):Kc m (n+1) (My.part m B (B.idxOf p)):=by
 obtain⟨b1,b2⟩:=h.bk.partAt hp
 refine⟨b1,?_,fun q hq=>?_⟩
 ·have:(zU (My.part m B (B.idxOf p))).length≤(p::zU B).length:=(innerKeys_nd _).length_le_of_subset fun x hx=>by
   rcases(b2 x).mp (innerKeys_mem.mp hx) with z|z
   ·exact .tail _ (innerKeys_mem.mpr z)
   ·exact z▸.head _
  have:=h.ks
  simp only[List.length_cons] at *
  omega
 ·rcases (part_mem h.bk.nd (List.idxOf_lt_length_iff.mpr hp)).mp hq with z|z
  ·have:=h.l7 q z.1
   omega
  ·obtain ⟨c,_,rfl⟩:=kids_mem.mp z
   have e:B.getD (B.idxOf p) []=p:=by
    rw[List.getD_eq_getElem?_getD,List.getElem?_eq_getElem (List.idxOf_lt_length_iff.mpr hp)]
    exact List.getElem_idxOf (List.idxOf_lt_length_iff.mpr hp)
   rw[e]
   have:=h.l7 p hp
   simp
   omega
end
end Pg
namespace Pg
open PySem L2 My
theorem bOr_f {f g:Rho→Rs Bool}{ρ:Rho}{b:Bool}(e1:f ρ=.ok false)(e2:g ρ=.ok b):bOr f g ρ=.ok b:=by unfold bOr;rw[e1];exact e2
theorem fl_pl {d:D}(h:d.fl=true):d.pl=true:=by cases d <;>first|rfl|(simp[D.fl] at h)
theorem pls_of:∀{ds:List D},(∀d∈ds,d.fl=true)→D.pls ds=true
 | [],_=>rfl
 | d::ds,h=>by show(d.pl&&D.pls ds)=true;rw[fl_pl (h d (.head _)),pls_of fun x hx=>h x (.tail _ hx)];rfl
theorem at_lst {xs:List D}{j:Nat}(h:j<xs.length):atI xs (j:Int)=some xs[j]:=by
 refine atI_nat (List.getElem?_eq_getElem h)
end Pg
namespace L2
open PySem PySem.Spec PyProof.Rows
section
variable {cl:Nat→Addr}
theorem Dks.len {K:PySem.W.Frag}{F:Hp}:∀{vs:List (Key×V)}{ds:List (List Nat×D)},Dks K cl F vs ds→vs.length=ds.length
 | _,_,.nil=>rfl
 | _,_,.cons _ _ t=>by rw[List.length_cons,List.length_cons,t.len]
end
end L2
namespace L2
open PySem PySem.Spec PyProof.Rows
section
variable {cl:Nat→Addr}
end
end L2
set_option maxHeartbeats 2000000
namespace Zp
open PySem
end Zp
namespace L2
open PySem PySem.Spec PyProof.Rows
end L2
set_option maxHeartbeats 1000000
namespace L2
open PySem PySem.Spec PyProof.Rows
open PySem.Builtin.Str (occurrences)
end L2
namespace L2
open PySem PySem.W PyProof.Rows
def trR (q:List Key×Addr):List Key×Addr×Value:=(q.1,q.2,Value.bool true)
def putR (kvs:List (List Key×Addr))(k:List Key)(b:Addr):List (List Key×Addr):=if (kvs.any fun q=>decide (q.1=k))=true then kvs else kvs++[(k,b)]
theorem anyR {kvs:List (List Key×Addr)}{k:List Key}:(kvs.any fun q=>decide (q.1=k))=true↔k∈kvs.map (·.1):=by
 rw[List.any_eq_true,List.mem_map]
 simp only[decide_eq_true_eq]
theorem trR_keys (kvs:List (List Key×Addr)):(kvs.map trR).map (·.1)=kvs.map (·.1):=by rw[List.map_map];rfl
theorem storedR (kvs:List (List Key×Addr))(k:List Key)(b:Addr):storedH (kvs.map trR) k b (.bool true)=(putR kvs k b).map trR:=by
 have hs:(atKey (kvs.map trR) k).isSome=true↔k∈kvs.map (·.1):=by
  rw[← trR_keys]
  unfold atKey
  rw[Option.isSome_map,List.find?_isSome]
  simp only[List.mem_map,decide_eq_true_eq]
 have same:(kvs.map trR).map (putAt k (.bool true))=kvs.map trR:=by
  rw[List.map_map]
  refine List.map_congr_left fun q _=>?_
  show putAt k (.bool true) (trR q)=trR q
  unfold putAt trR
  split <;>rfl
 unfold storedH putR
 by_cases h:k∈kvs.map (·.1)
 ·rw[if_pos (anyR.mpr h),if_pos (hs.mpr h),same]
 ·rw[if_neg (fun z=>h (anyR.mp z)),if_neg (fun z=>h (hs.mp z)),List.map_append];rfl
theorem putR_len (kvs:List (List Key×Addr))(k:List Key)(b:Addr):(putR kvs k b).length≤kvs.length+1:=by
 unfold putR
 split
 ·omega
 ·simp
def tDNewR:TE:=fun _ H Q=>∀p,H p=none→Q (.ref p) (upd H p (.dR []))
section
variable {X:Cx}{pos:Pos}
theorem dr_empty {P:Program}{w:World}{H:Hp}(h:Heap)(hb:sysModules<h.objs.size):ObjOk P w H (h.push {cls:=.type "dict", data:=.dict #[]}) h.objs.size (.dR []) :=
 ⟨Nat.zero_le _,beq_eq_false_iff_ne.mpr (Nat.ne_of_lt hb).symm,_,#[],0,Heap.get?_push_size _ rfl,⟨rfl,rfl,rfl⟩,rfl,rfl,List.nodup_nil⟩
theorem pe_dnewR:PE X (.Dict [] [] pos) tDNewR:=fun pins s σ H Q I h =>
 wpAny_Dict_empty ⟨.ref s.heap.objs.size,_,I.laid (a:=s.heap.objs.size) (o:=.dR []) (t':=s.toks) (fun _ _ q=>Heap.get?_push_of_some _ q) (Nat.le_refl _) (dr_empty s.heap I.big),rfl,h _ (I.hok.fresh (Nat.le_refl _))⟩
variable {pins:List (Addr×Obj)}{σ:St}{H:Hp}{s:Shared}{a b:Addr}{A:Around}{E:Value→Shared→Prop}{kvs:List (List Key×Addr)}{k:List Key}
theorem key_sq (I:Inv X pins σ H s)(e:SqT X.K H b (k.map kV)):(tupleKind (mixKind X.prog X.w)).is s.heap k b:=by
 obtain⟨its,r,⟨o,h1,h2,n,h3⟩,_⟩:=I.tuple e
 exact⟨o,its.toArray,n,h1,h2,h3,by simpa using items_are r⟩
theorem dr_of (I:Inv X pins σ H s)(e:H a=some (.dR kvs))(hk:∀q∈kvs,SqT X.K H q.2 (q.1.map kV)):(kvs.length≤sizeLine∧(a == sysModules)=false)∧s.heap.DictOfH (tupleKind (mixKind X.prog X.w)) a (kvs.map trR):=by
 obtain⟨z,y,o,es,ep,h1,h2,h3,h4,h5⟩:=(show ObjOk X.prog X.w H s.heap a (.dR kvs) from I.hok a _ e)
 refine⟨⟨z,y⟩,o,es,ep,h1,h2,h3,by rw[h4,List.map_map];rfl,fun x hx=>?_,by rw[trR_keys];exact h5⟩
 obtain⟨q,hq,rfl⟩:=List.mem_map.mp hx
 exact key_sq I (hk q hq)
theorem d_setR {Q:Unit→Shared→Prop}(hu:A.units+1<cLine)(I:Inv X pins σ H s)(e:H a=some (.dR kvs))(hk:∀q∈kvs,SqT X.K H q.2 (q.1.map kV))(eb:SqT X.K H b (k.map kV))(l:kvs.length<sizeLine)
  (h:∀s',Inv X pins σ (upd H a (.dR (putR kvs k b))) s'→Q () s'):wpAny (model X.prog X.w) A (setItem (.ref a) (.ref b) (.bool true)) Q E s:=by
 obtain⟨⟨z,hd⟩,dd⟩:=dr_of I e hk
 have hl:(putR kvs k b).length≤sizeLine:=by have:=putR_len kvs k b;omega
 refine wpAny_setItem_heap (hsz:=by rw[List.length_map];exact z) (tupleKind_room_in1 hu) (key_sq I eb) dd fun h' dd' hs=>h _ ?_
 rw[storedR] at dd'
 obtain⟨q,es,ep,hq,h2,h3,h4,_,h5⟩:=dd'
 refine d_write I (by rw[e];exact True.intro) hs ⟨q,hq⟩ ⟨hl,hd,q,es,ep,hq,h2,h3,by rw[h4,List.map_map];rfl,?_⟩
 rw[trR_keys] at h5
 exact h5
def sDPutR (K:PySem.W.Frag)(td ty tv:TE):TS:=fun D σ H=>tv σ H fun v H1=>td σ H1 fun x H2=>ty σ H2 fun y H3=>∃a b kvs k,v=.bl true∧x=.ref a∧y=.ref b∧H3 a=some (.dR kvs)∧(∀q∈kvs,SqT K H3 q.2 (q.1.map kV))∧SqT K H3 b (k.map kV)∧kvs.length<sizeLine∧D.nx σ (upd H3 a (.dR (putR kvs k b)))
theorem ps_dputR {o i value:Expr}{td ty tv:TE}{pos':Pos}(hu:X.A.units+1<cLine)(ho:PE X o td)(hi:PE X i ty)(hv:PE X value tv)(hs:swapsWith value (some (.Subscript o i pos')) pos.line X.env=pure false):PS X (.Assign [.Subscript o i pos'] value pos) (sDPutR X.K td ty tv):=by
 intro pins s σ H D I h
 refine wpAny_Assign_Subscript (thn (hv pins s σ H _ I h) fun r s1 ⟨v,H1,I1,rv,q1⟩=>thn (ho pins s1 σ H1 _ I1 q1) fun u s2 ⟨x,H2,I2,rx,q2⟩=>thn (hi pins s2 σ H2 _ I2 q2) fun iv s3 ⟨y,H3,I3,ry,a,b,kvs,k,ev,ex,ey,e1,e2,e3,e4,q3⟩=>?_) hs
 subst ex ey ev
 obtain rfl:u=Value.ref a:=rx
 obtain rfl:iv=Value.ref b:=ry
 obtain rfl:r=Value.bool true:=rv
 exact d_setR hu I3 e1 e2 e3 e4 fun s4 I4=>⟨σ,_,I4,q3⟩
end
def DRaw (h:Heap)(d:Addr)(es:Array DictEntry)(ep:Nat):Prop:=∃o,h.get? d=some o∧o.ExactDict∧o.data=.dict es ep
section
variable {prog:Program}{w:World}{A:Around}{E:Value→Shared→Prop}{s:Shared}{d it:Addr}{es:Array DictEntry}{ep i:Nat}
theorem DRaw.ty (D:DRaw s.heap d es ep):s.TypeIs (.ref d) "dict" := let ⟨o,h,c,_⟩:=D;⟨o,h,c.1⟩
theorem dr_iter {Q:Value→Shared→Prop}(lo:(d == sysModules)=false)(D:DRaw s.heap d es ep)
  (q:Q (.ref s.heap.objs.size) {s with heap:=s.heap.push {cls:=.type "dict_keyiterator", data:=.fields #[.ref d,.int 0 0,.int es.size 0,.int ep 0]} }):wpAny (model prog w) A (pyIter (.ref d)) Q E s:=by
 have T:=D.ty
 obtain⟨o,g,c,dt⟩:=D
 refine wpAny_pyIter_slot T PySem.F.slot_dict_iter (wpAny_call_entry PySem.F.slot_dict_iter T PySem.F.entry_dict_iter ?_ (PySem.F.args_dict_iter_1 _))
 unfold Builtin.«dict.__iter__» Builtin.Dict.dictSlotNone
 refine wpAny_bind (wpAny_bind (wpAny_notOrdered_dict T ?_))
 refine wpAny_pure (a:=Value.ref d) ?_
 show wpAny _ _ (Builtin.Dict.showsAll d >>= _) _ _ s
 unfold Builtin.Dict.showsAll
 rw[if_neg (by rw[lo];decide)]
 refine wpAny_bind (wpAny_pure (wpAny_bind (wpAny_dictEntries g dt (wpAny_bind (wpAny_dictEpoch g dt ?_)))))
 refine wpAny_bind (wpAny_newObj_type (wpAny_pure ⟨_,rfl, "dict_keyiterator", _,⟨_,Heap.get?_push_size _ rfl,rfl⟩,PySem.F.slot_dict_keyiterator_next.lookup,?_⟩))
 simpa [rawInt] using q
theorem dr_item {e:DictEntry}{Q:Option Value→Shared→Prop}(J:s.heap.IsKeyIter it d i es.size ep)(D:DRaw s.heap d es ep)(x:es[i]? = some e)
  (q:∀h',h'.IsKeyIter it d (i+1) es.size ep→Heap.SameBut it s.heap h'→Q (some e.key) {s with heap:=h'}):wpAny (model prog w) A (pyNext (.ref it)) Q E s:=by
 have T:=J.typeIs
 obtain⟨o,g,c,dt⟩:=J
 obtain⟨od,gd,cd,dd⟩:=D
 have lt:i<es.size:=by
  rcases Nat.lt_or_ge i es.size with z|z
  ·exact z
  ·rw[Array.getElem?_eq_none z] at x;cases x
 have xe:es[i]=e:=by rw[Array.getElem?_eq_getElem lt] at x;exact Option.some.inj x
 unfold pyNext
 refine wpAny_bind (wpAny_attempt (wpAny_callSpecial?_slot (name:=Str.ofString "__next__") T PySem.F.slot_dict_keyiterator_next (wpAny_call_entry PySem.F.slot_dict_keyiterator_next T PySem.F.entry_dict_keyiterator_next ?_ (PySem.F.args_dict_keyiterator_next_1 _))))
 refine wpAny_bind (wpAny_pure (wpAny_bind (wpAny_bind (wpAny_bind (wpAny_typeNameOfWhole_keyiter T (wpAny_pure ?_))))))
 refine wpAny_bind (wpAny_fieldsOf g dt ?_)
 simp only[show Builtin.Dict_items.ownsTuple "dict_keyiterator" = false by decide,Bool.false_eq_true,if_false]
 show wpAny _ _ (if (Value.ref d == Value.none)=true then _ else _) _ _ s
 rw[if_neg (show ¬((Value.ref d == Value.none)=true) from Bool.false_ne_true)]
 refine wpAny_bind (wpAny_pure (wpAny_bind (wpAny_dictEntries gd dd ?_)))
 rw[if_neg (by simp)]
 refine wpAny_bind (wpAny_pure (wpAny_bind (wpAny_dictEpoch gd dd ?_)))
 rw[if_neg (by simp)]
 refine wpAny_pure ?_
 simp only[show ¬((i:Int)<0) from by omega,if_false,Int.toNat_natCast,Array.getElem?_eq_getElem lt,xe]
 refine wpAny_bind (wpAny_bind (wpAny_typeNameOfWhole_keyiter T (wpAny_pure ?_)))
 refine wpAny_bind (wpAny_isOneOf_keyiter T ?_)
 show wpAny _ _ (setField (.ref it) 1 (rawInt ((i:Int)+1)) >>= _) _ _ s
 refine wpAny_bind (wpAny_setField g dt (by simp) ?_)
 have J':(s.heap.update it (Obj.mapFields (·.setIfInBounds 1 (rawInt ((i:Int)+1))))).IsKeyIter it d (i+1) es.size ep :=
  ⟨_,Heap.get?_update_self _ g (Obj.isFreed_of_fields (Obj.data_mapFields dt _)),(Obj.cls_mapFields ..).trans c,by rw[Obj.data_mapFields dt];simp[rawInt]⟩
 refine wpAny_bind (wpAny_holding (wpAny_bind (wpAny_isOneOf_keyiter (s:={s with heap:=s.heap.update it (Obj.mapFields (·.setIfInBounds 1 (rawInt ((i:Int)+1))))}) J'.typeIs ?_)))
 refine wpAny_pure (a:=e.key) (wpAny_pure ⟨_,rfl,wpAny_pure (q _ J' (Heap.SameBut.update ..))⟩)
theorem dr_end {Q:Option Value→Shared→Prop}(hh:A.handled=none)(J:s.heap.IsKeyIter it d i es.size ep)(D:DRaw s.heap d es ep)(x:es.size≤i)(q:∀h',Heap.ExtBut it s.heap h'→Q none {s with heap:=h'}):wpAny (model prog w) A (pyNext (.ref it)) Q E s:=by
 have T:=J.typeIs
 obtain⟨o,g,c,dt⟩:=J
 obtain⟨od,gd,cd,dd⟩:=D
 unfold pyNext
 refine wpAny_bind (wpAny_attempt (wpAny_callSpecial?_slot (name:=Str.ofString "__next__") T PySem.F.slot_dict_keyiterator_next (wpAny_call_entry PySem.F.slot_dict_keyiterator_next T PySem.F.entry_dict_keyiterator_next ?_ (PySem.F.args_dict_keyiterator_next_1 _))))
 refine wpAny_bind (wpAny_pure (wpAny_bind (wpAny_bind (wpAny_bind (wpAny_typeNameOfWhole_keyiter T (wpAny_pure ?_))))))
 refine wpAny_bind (wpAny_fieldsOf g dt ?_)
 simp only[show Builtin.Dict_items.ownsTuple "dict_keyiterator" = false by decide,Bool.false_eq_true,if_false]
 show wpAny _ _ (if (Value.ref d == Value.none)=true then _ else _) _ _ s
 rw[if_neg (show ¬((Value.ref d == Value.none)=true) from Bool.false_ne_true)]
 refine wpAny_bind (wpAny_pure (wpAny_bind (wpAny_dictEntries gd dd ?_)))
 rw[if_neg (by simp)]
 refine wpAny_bind (wpAny_pure (wpAny_bind (wpAny_dictEpoch gd dd ?_)))
 rw[if_neg (by simp)]
 refine wpAny_pure ?_
 simp only[show ¬((i:Int)<0) from by omega,if_false,Int.toNat_natCast,Array.getElem?_eq_none x]
 refine wpAny_bind (wpAny_bind (wpAny_typeNameOfWhole_keyiter T (wpAny_pure ?_)))
 show wpAny _ _ (setField (.ref it) 0 .none >>= _) _ _ s
 refine wpAny_bind (wpAny_setField g dt (by simp) ?_)
 show wpAny _ _ (newExc (.type "StopIteration") [] >>= _) _ _ _
 refine wpAny_bind ?_
 simp only[newExc,newTuple]
 refine wpAny_bind (wpAny_newObj_type ?_ (by size_fits))
 refine wpAny_bind (m:=firstArgMember _ _) (wpAny_of_eq (a:=Value.none) (by first|rfl|(simp only[firstArgMember];rfl)) (wpAny_newObj_type ?_ (by size_fits)))
 simp only[raiseNew]
 refine wpAny_bind (wpAny_handled ?_)
 rw[show A.in1.handled=none from hh]
 refine wpAny_bind (wpAny_pure (wpAny_throw ?_))
 refine wpAny_bind (wpAny_isInstance (T := "StopIteration") (b:=true) ⟨_,Heap.get?_push_size _ rfl,rfl⟩ isSubtype_stop ?_)
 exact wpAny_pure (q _ (((Heap.SameBut.update ..).extBut.push _).push _))
theorem DRaw.at {h h':Heap}(D:DRaw h d es ep)(k:∀o,h.get? d=some o→h'.get? d=some o):DRaw h' d es ep:=let ⟨o,g,r⟩:=D;⟨o,k o g,r⟩
theorem dr_walks (hh:A.handled=none)(I:Addr)(ne:d≠I):Walks prog w A I [I,d] [I] es.size (fun i v=>∃e,es[i]? = some e∧v=e.key) (fun i h=>h.IsKeyIter I d i es.size ep∧DRaw h d es ep) where
 sub:=fun b z=>by rw[List.mem_singleton.mp z];exact List.mem_cons_self
 frame:=fun _ _ _ st k=>⟨st.1.at fun o e=>k I List.mem_cons_self o e,st.2.at fun o e=>k d (List.mem_cons_of_mem _ List.mem_cons_self) o e⟩
 item:=fun i s Q E hi st q=>dr_item st.1 st.2 (Array.getElem?_eq_getElem hi) fun h' J sb=>q _ h' s.toks ⟨_,Array.getElem?_eq_getElem hi,rfl⟩ ⟨J,st.2.at fun o e=>sb.extBut d o ne e⟩ fun b o hb e=>sb.extBut b o (fun z=>hb (z▸List.mem_cons_self)) e
 done:=fun s Q E st q=>dr_end hh st.1 st.2 (Nat.le_refl _) fun h' x=>q h' s.toks fun b o hb e=>x b o (fun z=>hb (z▸List.mem_cons_self)) e
 self:=fun _ _ _ _ st q=>wpAny_pyIter_keyiter st.1 q
theorem dr_src (lo:(d == sysModules)=false):KdlSrc prog w "dict" d d es.size (fun i v=>∃e,es[i]? = some e∧v=e.key) (fun h=>DRaw h d es ep) where
 type:=fun _ D=>D.ty
 there:=fun _ D=>let ⟨_,g,_⟩:=D;⟨Heap.lt_size g,Heap.lt_size g⟩
 keep:=fun _ _ D k=>D.at fun o e=>k d (.inl rfl) o e
 notList:=by decide
 notTuple:=by decide
 hint:=fun _ _ _ _ D q=>kdl_hint_dict D.ty q
 iter:=fun _ _ hh D=>⟨_,_,(fun _ _ q=>dr_iter lo D q),dr_walks hh _ (let ⟨_,g,_⟩:=D;Nat.ne_of_lt (Heap.lt_size g)),⟨⟨_,Heap.get?_push_size _ rfl,rfl,rfl⟩,D.at fun o e=>Heap.get?_push_of_some _ e⟩⟩
theorem mid_old {h:Heap}{L b:Addr}{vs:List Value}{o:Obj}(ne:b≠L)(e:h.get? b=some o):(sortMid h L vs).get? b=some o:=by
 have lt:(b:Nat)<h.objs.size:=Heap.lt_size e
 rw[Heap.get?_push_ne _ _ _ (by rw[size_push',Heap.size_update];exact Nat.ne_of_lt (Nat.lt_succ_of_lt lt)),Heap.get?_push_ne _ _ _ (by rw[Heap.size_update];exact Nat.ne_of_lt lt),Heap.get?_update_ne _ _ _ _ ne]
 exact e
theorem sort_tups {L:Addr}{ts:List Addr}{kss:List (List Key)}{n:Nat}{P:PySem.Fin→Shared→Prop}(ho:s.heap.get? L=some (seqObj "list" (ts.map Value.ref).toArray n))(hl:ts.length=kss.length)(ne:∀t∈ts,t≠L)
  (tup:∀i,i<kss.length→∃vs:List Value,Vals ((kss.getD i []).map kV) vs∧∃o,s.heap.get? (ts.getD i 0)=some o∧o.cls=.type "tuple" ∧ ∃n,o.data=.seq vs.toArray n) (sb:Srtb kss) (h64:kss.length<64)
  (h:∀p,PP kss.length p→Sd (fun i j=>ksLt (kss.getD i []) (kss.getD j [])) kss.length p→P (.done (.ret .none)) {s with heap:=sortedHeap s.heap L (ts.map Value.ref) (List.toArray (p.toList.map fun i=>(ts.map Value.ref).getD i Value.none))}) :
  wpAny (model prog w) A (Builtin.«list.sort» ⟨[.ref L],[]⟩) P E s:=by
 have hl':(ts.map Value.ref).length=kss.length:=by rw[List.length_map];exact hl
 have gt:∀i,i<kss.length→(ts.map Value.ref).getD i Value.none=.ref (ts.getD i 0):=fun i hi=>by
  rw[List.getD_eq_getElem?_getD,List.getD_eq_getElem?_getD,List.getElem?_map,List.getElem?_eq_getElem (by omega)];rfl
 have mt:∀i,i<kss.length→ts.getD i 0∈ts:=fun i hi=>by rw[List.getD_eq_getElem?_getD,List.getElem?_eq_getElem (by omega)];exact List.getElem_mem (by omega)
 have mem:∀i,i<kss.length→kss.getD i []∈kss:=fun i hi=>by rw[List.getD_eq_getElem?_getD,List.getElem?_eq_getElem hi];exact List.getElem_mem hi
 obtain⟨c,hne⟩:=sb.ne
 have O:=sb.ord
 rw[← hl'] at O
 refine list_sort_treeA (κ:=tuples' true) ho O (fun h2 Q q=>?_) (fun i j C hi hj q=>?_) (by omega) fun p hp sd=>h p (hl'▸hp) (hl'▸sd)
 ·have key:∀(l:List Nat),(∀i∈l,i<kss.length)→∃fs:List Value,KatTups (sortMid s.heap L (ts.map Value.ref)) (l.map fun i=>(ts.map Value.ref).getD i Value.none) fs∧fs.length=l.length∧∀v∈fs,if c then ∃n t,v=.int n t else ∃x t,v=.str x t:=by
   intro l
   induction l with
   | nil=>exact fun _=>⟨[],KatTups.nil,rfl,fun v hv=>by cases hv⟩
   | cons i l ih =>
    intro hm
    obtain⟨fs,k1,k2,k3⟩:=ih fun j hj=>hm j (List.mem_cons_of_mem _ hj)
    have hi:=hm i List.mem_cons_self
    obtain⟨vs,r1,o,g,hcl,n,hd⟩:=tup i hi
    obtain⟨k,rr,e,kc⟩:=hne _ (mem i hi)
    rw[e,List.map_cons] at r1
    cases r1 with
    | cons rp r1 =>
     rename_i f vs'
     refine⟨f::fs,?_,by simp[k2],fun v hv=>?_⟩
     ·rw[List.map_cons,gt i hi]
      exact KatTups.cons (mid_old (ne _ (mt i hi)) g) hcl hd (by simp) k1
     ·rcases List.mem_cons.mp hv with rfl|hv
      ·cases k with
       | inl z=>obtain⟨t,rfl⟩:=rp;rw[← kc];exact⟨z,t,rfl⟩
       | inr z=>obtain⟨t,rfl⟩:=rp;rw[← kc];exact⟨z,t,rfl⟩
      ·exact k3 v hv
  obtain⟨fs,k1,k2,k3⟩:=key (List.range (ts.map Value.ref).length) fun i hi=>by have:=List.mem_range.mp hi;omega
  have e:(List.range (ts.map Value.ref).length).map (fun i=>(ts.map Value.ref).getD i Value.none)=ts.map Value.ref:=by
   apply List.ext_getElem
   ·simp
   ·intro i h1 h2
    have h2':i<ts.length:=by simpa using h2
    simp[h2']
  rw[e] at k1
  rw[List.length_range] at k2
  cases c with
  | true =>
   refine kat_kind (T:=.type "int") k1 (by omega) (fun v hv=>?_) rfl q
   obtain⟨n,t,rfl⟩:=k3 v hv
   exact .now
  | false =>
   refine kat_kind (T:=.type "str") k1 (by omega) (fun v hv=>?_) rfl q
   obtain⟨n,t,rfl⟩:=k3 v hv
   exact .now
 ·rw[hl'] at hi hj
  obtain⟨vi,ri,oi,gi,hci,ni,hdi⟩:=tup i hi
  obtain⟨vj,rj,oj,gj,hcj,nj,hdj⟩:=tup j hj
  unfold kas_ask
  rw[gt i hi,gt j hj]
  have li:=ri.length
  have lj:=rj.length
  simp only[List.length_map] at li lj
  refine kat_lt (s:={s with heap:=sortMid s.heap L (ts.map Value.ref)}) (mid_old (ne _ (mt i hi)) gi) hdi (mid_old (ne _ (mt j hj)) gj) hdj (kat_lex _ _ _ _ 0 ri rj (sb.ok _ (mem i hi) _ (mem j hj)) ?_ q)
  rw[List.size_toArray,List.size_toArray,li,lj]
end
section
variable {X:Cx}
theorem call_sortedR (hc:X.calm=true):CallR X (.builtin "sorted") (fun xs H Q=>∃(a:Addr) (kvs:List (List Key×Addr)),xs=[.ref a]∧H a=some (.dR kvs)∧(∀q∈kvs,SqT X.K H q.2 (q.1.map kV))∧Srtb (kvs.map (·.1))∧kvs.length<64 ∧
  ∀p (π:List Nat),H p=none→π.Perm (List.range kvs.length)→(∀i j,i<j→j<kvs.length→ksLt ((kvs.map (·.1)).getD (π.getD i 0) []) ((kvs.map (·.1)).getD (π.getD j 0) [])=true)→Q (.ref p) (upd H p (.lst (π.map fun i=>V.ref ((kvs.map (·.2)).getD i 0))))):=by
 intro pins s σ H xs us Q I r h
 obtain⟨a,kvs,rfl,ha,hk,sb,h64,q⟩:=h
 obtain⟨u,rfl,ru⟩:=vals1 r
 cases ru
 obtain⟨z,lo,o,es,ep,h1,h2,h3,h4,h5⟩:=(show ObjOk X.prog X.w H s.heap a (.dR kvs) from I.hok a _ ha)
 have hz:es.size=kvs.length:=by have:=congrArg List.length h4;simpa using this
 refine Calls.call_function_entry kind_sorted plain_sorted entry_sorted (args_sorted1 _) ?_
 unfold Builtin.«sorted»
 refine wpAny_bind (m:=checkCount "sorted" 1 1 _) (wpAny_pure ?_)
 refine wpAny_bind (kdu_collect (A:=X.A.in1) (dr_src (es:=es) (ep:=ep) lo) (I.ok.hd hc) ⟨o,h1,h2,h3⟩ (by rw[hz,sizeLine_eq];omega) fun h' tk acc hkp hacc=>?_)
 have ea:acc.toList=(kvs.map (·.2)).map Value.ref:=by
  apply List.ext_getElem?
  intro i
  rcases Nat.lt_or_ge i kvs.length with hi|hi
  ·have hlt:i<acc.size:=by rw[hacc.1,hz];exact hi
   obtain⟨e,e1,e2⟩:=hacc.2 i acc[i] (by rw[Array.getElem?_eq_getElem hlt])
   have e3:es.toList[i]? = some e:=by simpa using e1
   rw[h4,List.getElem?_map,List.getElem?_eq_getElem hi] at e3
   have e4:=Option.some.inj e3
   rw[List.getElem?_map,List.getElem?_map,List.getElem?_eq_getElem hi,Array.getElem?_toList,Array.getElem?_eq_getElem hlt,e2,← e4]
   rfl
  ·rw[List.getElem?_eq_none (by rw[Array.length_toList,hacc.1,hz];exact hi),List.getElem?_eq_none (by simpa using hi)]
 rw[ea]
 refine wpAny_bind (wpAny_newList ?_ (by simp only[List.length_map];rw[sizeLine_eq];omega))
 have hoL:(h'.push (seqObj "list" ((kvs.map (·.2)).map Value.ref).toArray 0)).get? h'.objs.size=some (seqObj "list" ((kvs.map (·.2)).map Value.ref).toArray 0):=Heap.get?_push_size _ rfl
 show wpAny _ _ _ _ _ {s with heap:=h'.push (seqObj "list" ((kvs.map (·.2)).map Value.ref).toArray 0),toks:=tk}
 have tup:∀i,i<kvs.length→∃vs:List Value,Vals (((kvs.map (·.1)).getD i []).map kV) vs∧∃o,h'.get? ((kvs.map (·.2)).getD i 0)=some o∧o.cls=.type "tuple" ∧ ∃n,o.data=.seq vs.toArray n:=fun i hi=>by
  have g1:(kvs.map (·.1)).getD i []=kvs[i].1:=by rw[List.getD_eq_getElem?_getD,List.getElem?_map,List.getElem?_eq_getElem hi];rfl
  have g2:(kvs.map (·.2)).getD i 0=kvs[i].2:=by rw[List.getD_eq_getElem?_getD,List.getElem?_map,List.getElem?_eq_getElem hi];rfl
  rw[g1,g2]
  obtain⟨vs,r1,⟨o,p1,p2⟩,_⟩:=I.tuple (hk kvs[i] (List.getElem_mem hi))
  exact⟨vs,r1,o,hkp _ _ p1,p2⟩
 have far:∀t∈kvs.map (·.2),t≠h'.objs.size:=fun t ht=>by
  obtain⟨q,hq,rfl⟩:=List.mem_map.mp ht
  obtain⟨vs,r1,⟨o,p1,p2⟩,_⟩:=I.tuple (hk q hq)
  exact Nat.ne_of_lt (Heap.lt_size (hkp _ _ p1))
 have hl1:(kvs.map (·.1)).length=kvs.length:=List.length_map ..
 have hl2:(kvs.map (·.2)).length=kvs.length:=List.length_map ..
 refine wpAny_bind (wpAny_holding (wpAny_call_entry slot_list_sort ⟨_,hoL,rfl⟩ entry_list_sort (sort_tups (kss:=kvs.map (·.1)) (s:={s with heap:=h'.push (seqObj "list" ((kvs.map (·.2)).map Value.ref).toArray 0),toks:=tk}) hoL (by rw[hl1,hl2]) far (fun i hi=>?_) sb (by rw[hl1];exact h64) fun p hp sd=>⟨_,rfl,?_⟩) (args_list_sort _)))
 ·obtain⟨vs,r1,o,p1,p2⟩:=tup i (by rw[← hl1];exact hi)
  exact⟨vs,r1,o,Heap.get?_push_of_some _ p1,p2⟩
 refine wpAny_pure ⟨_,rfl,?_⟩
 obtain⟨c,hat'⟩:=sortedHeap_at (n:=0) (out:=List.toArray (p.toList.map fun i=>((kvs.map (·.2)).map Value.ref).getD i Value.none)) hoL
 have I1:Inv X pins σ H {s with heap:=h',toks:=tk}:=I.kept (t':=tk) hkp
 rw[hl1] at hp sd
 have hp':p.toList.Perm (List.range kvs.length):=hp
 refine⟨.ref h'.objs.size,_,I1.laid (t':=tk) (o:=.lst (p.toList.map fun i=>V.ref ((kvs.map (·.2)).getD i 0))) (fun b o e'=>?_) (Nat.le_refl _) ?_,rfl,q _ p.toList (I1.hok.fresh (Nat.le_refl _)) hp' fun i j hij hj=>?_⟩
 ·have hlt:=Heap.lt_size e'
  rw[sortedHeap_old (Nat.ne_of_lt hlt) (by rw[size_push'];exact Nat.lt_succ_of_lt hlt)]
  exact Heap.get?_push_of_some _ e'
 ·refine ⟨?_,p.toList.map fun i=>((kvs.map (·.2)).map Value.ref).getD i Value.none,c,?_,hat'⟩
  ·have:=hp.size;rw[List.length_map,Array.length_toList,sizeLine_eq];omega
  ·refine vals_of (by simp) fun j x u hx hu=>?_
   rw[List.getElem?_map] at hx hu
   cases e:p.toList[j]? with
   | none=>rw[e] at hx;cases hx
   | some i =>
    rw[e] at hx hu
    have hi:i<kvs.length:=List.mem_range.mp (hp'.mem_iff.mp (List.mem_of_getElem? e))
    cases hx
    cases hu
    show RelV (V.ref ((kvs.map (·.2)).getD i 0)) (((kvs.map (·.2)).map Value.ref).getD i Value.none)
    have g:((kvs.map (·.2)).map Value.ref).getD i Value.none=.ref ((kvs.map (·.2)).getD i 0):=by
     rw[List.getD_eq_getElem?_getD,List.getD_eq_getElem?_getD,List.getElem?_map,List.getElem?_eq_getElem (by rw[hl2];exact hi)];rfl
    rw[g];rfl
 ·have:=sd i j hij hj
  rw[gd,gd] at this
  rw[List.getD_eq_getElem?_getD,List.getD_eq_getElem?_getD]
  simpa using this
end
end L2
namespace L2
open PySem PySem.W PySem.Spec PyProof.Rows
def atEq:D→D→Bool
 | .int i,.int j=>decide (i=j)
 | .str a,.str b=>decide (a=b)
 | _,_=>false
def atsEq:List D→List D→Bool
 | [],[]=>true
 | x::xs,y::ys=>atEq x y&&atsEq xs ys
 | _,_=>false
def tpEq (a b:D):Bool:=atsEq (tOf a) (tOf b)
def putT (ks:List D)(k:D):List D:=if ks.any (tpEq k)=true then ks else ks++[k]
theorem atEq_iff:∀{a b:D},isAt a=true→isAt b=true→(atEq a b=true↔kOf a=kOf b)
 | .int i,.int j,_,_=>by simp[atEq,kOf]
 | .str a,.str b,_,_=>by
  simp only[atEq,kOf,decide_eq_true_eq,Sum.inr.injEq]
  exact⟨fun e=>e▸rfl,fun e=>T_inj e⟩
 | .int i,.str b,_,_=>by simp[atEq,kOf]
 | .str a,.int j,_,_=>by simp[atEq,kOf]
 | .non,_,h,_=>by simp[isAt] at h
 | .bl _,_,h,_=>by simp[isAt] at h
 | .lst _,_,h,_=>by simp[isAt] at h
 | .tup _,_,h,_=>by simp[isAt] at h
 | .dct _,_,h,_=>by simp[isAt] at h
 | .exc _,_,h,_=>by simp[isAt] at h
 | .int _,.non,_,h=>by simp[isAt] at h
 | .int _,.bl _,_,h=>by simp[isAt] at h
 | .int _,.lst _,_,h=>by simp[isAt] at h
 | .int _,.tup _,_,h=>by simp[isAt] at h
 | .int _,.dct _,_,h=>by simp[isAt] at h
 | .int _,.exc _,_,h=>by simp[isAt] at h
 | .str _,.non,_,h=>by simp[isAt] at h
 | .str _,.bl _,_,h=>by simp[isAt] at h
 | .str _,.lst _,_,h=>by simp[isAt] at h
 | .str _,.tup _,_,h=>by simp[isAt] at h
 | .str _,.dct _,_,h=>by simp[isAt] at h
 | .str _,.exc _,_,h=>by simp[isAt] at h
theorem atsEq_iff:∀{a b:List D},a.all isAt=true→b.all isAt=true→(atsEq a b=true↔a.map kOf=b.map kOf)
 | [],[],_,_=>by simp[atsEq]
 | [],_::_,_,_=>by simp[atsEq]
 | _::_,[],_,_=>by simp[atsEq]
 | x::xs,y::ys,h,k=>by
  rw[List.all_cons,Bool.and_eq_true] at h k
  rw[atsEq,Bool.and_eq_true,atEq_iff h.1 k.1,atsEq_iff h.2 k.2,List.map_cons,List.map_cons,List.cons.injEq]
theorem isTA_all {d:D}(h:isTA d=true):(tOf d).all isAt=true:=by
 cases d with
 | tup ds=>exact h
 | _=>cases h
theorem tpEq_iff {a b:D}(h:isTA a=true)(k:isTA b=true):tpEq a b=true↔kkOf a=kkOf b:=atsEq_iff (isTA_all h) (isTA_all k)
theorem any_tp {ks:List D}{k:D}(hk:isTA k=true)(h:∀d∈ks,isTA d=true):ks.any (tpEq k)=true↔kkOf k∈ks.map kkOf:=by
 rw[List.any_eq_true,List.mem_map]
 exact⟨fun⟨x,hx,e⟩=>⟨x,hx,((tpEq_iff hk (h x hx)).mp e).symm⟩,fun⟨x,hx,e⟩=>⟨x,hx,(tpEq_iff hk (h x hx)).mpr e.symm⟩⟩
def sNewT (i:Nat):Rho→Out:=fun ρ=>.nx (ρ.set i (.ot []))
def otL (ρ:Rho)(i:Nat):Option (List D):=match ρ[i]? with|some (.ot ds)=>some ds|_=>none
theorem otL_some {ρ:Rho}{i:Nat}{ds:List D}(h:otL ρ i=some ds):ρ[i]? = some (.ot ds):=by
 unfold otL at h
 split at h
 ·rename_i e;rw[e,Option.some.inj h]
 ·cases h
section
variable {X:Cx}{cl:Nat→Addr}{E:XK}{e o a b c:Expr}{es:List Expr}{fa fb fc:Rho→Rs D}{fs:Rho→Rs (List D)}{x y:Str}{p pos:Pos}
theorem Rl.setT {K:PySem.W.Frag}{H0 F0 H F:Hp}{ρ:Rho}{σ:St}{i:Nat}{p:Addr}{vs:List (List Key×Addr)}{ds:List D}(R:Rl K cl H0 F0 ρ σ H F)(hp:H p=none)(h:Dtk K cl F vs ds):Rl K cl H0 F0 (ρ.set i (.ot ds)) (σ.set i (some (.ref p))) (upd H p (.dR vs)) F:=R.newOwn hp (.ot h)
theorem Rl.putT {K:PySem.W.Frag}{H0 F0 H F:Hp}{ρ:Rho}{σ:St}{i:Nat}{a:Addr}{us:List (List Key×Addr)}{ds es:List D}(R:Rl K cl H0 F0 ρ σ H F)(hi:ρ[i]? = some (.ot ds))(hs:σ[i]? = some (some (.ref a)))(h:Dtk K cl F us es):Rl K cl H0 F0 (ρ.set i (.ot es)) σ (upd H a (.dR us)) F:=R.chg hi rfl hs (.ot h)
theorem Dts.sq {K:PySem.W.Frag}{F:Hp}:∀{kvs:List (List Key×Addr)}{ks:List D},kvs.map (·.1)=ks.map kkOf→Dts K cl F (kvs.map fun q=>V.ref q.2) ks→(∀d∈ks,isTA d=true)→∀q∈kvs,SqT K F q.2 (q.1.map kV)
 | [],_,_,_,_=>fun q h=>by cases h
 | (k,a)::kvs,[],e,_,_=>by simp at e
 | (k, a)::kvs,d::ks,e,dt,ta=>fun q hq=>by
  rw[List.map_cons,List.map_cons,List.cons.injEq] at e
  rw[List.map_cons] at dt
  cases dt with
  | cons r t =>
   rcases List.mem_cons.mp hq with rfl|hq
   ·have h0:=ta d List.mem_cons_self
    have ek:k=kkOf d:=e.1
    show SqT K F a (k.map kV)
    cases r with
    | tup sq dq =>
     rename_i xs ds
     have ex:=dq.atoms h0
     rw[ek]
     show SqT K F a ((ds.map kOf).map kV)
     rw[← ex];exact sq
    | _=>cases h0
   ·exact Dts.sq e.2 t (fun d hd=>ta d (List.mem_cons_of_mem _ hd)) q hq
theorem Dtk.sq {K:PySem.W.Frag}{F:Hp}{kvs:List (List Key×Addr)}{ks:List D}(h:Dtk K cl F kvs ks):∀q∈kvs,SqT K F q.2 (q.1.map kV):=Dts.sq h.ky h.dt h.ta
theorem Dtk.len {K:PySem.W.Frag}{F:Hp}{kvs:List (List Key×Addr)}{ks:List D}(h:Dtk K cl F kvs ks):kvs.length=ks.length:=by have:=congrArg List.length h.ky;simpa using this
theorem Dtk.put {K:PySem.W.Frag}{F:Hp}{kvs:List (List Key×Addr)}{ks:List D}{k:D}{b:Addr}(h:Dtk K cl F kvs ks)(hk:isTA k=true)(q:Dt K cl F (.ref b) k):Dtk K cl F (putR kvs (kkOf k) b) (L2.putT ks k):=by
 unfold putR L2.putT
 by_cases e:kkOf k∈ks.map kkOf
 ·rw[if_pos (anyR.mpr (by rw[h.ky];exact e)),if_pos ((any_tp hk h.ta).mpr e)];exact h
 ·rw [if_neg (fun z=>e (by rw[← h.ky];exact anyR.mp z)),if_neg (fun z=>e ((any_tp hk h.ta).mp z))]
  refine⟨by rw[List.map_append,List.map_append,h.ky];rfl,?_,fun d hd=>?_,?_⟩
  ·rw[List.map_append];exact h.dt.append (.cons q .nil)
  ·rcases List.mem_append.mp hd with hd|hd
   ·exact h.ta d hd
   ·rw[List.mem_singleton.mp hd];exact hk
  ·rw [List.map_append]
   exact List.nodup_append.mpr ⟨h.nd,List.nodup_cons.mpr ⟨by simp,List.nodup_nil⟩,fun a ha b hb z=>by
    rw[List.map_cons,List.map_nil,List.mem_singleton] at hb;subst hb;subst z;exact e ha⟩
theorem xs_newT {i:Nat}{pos' dpos:Pos}(hN:X.N.Nodup)(hi:X.N[i]? = some x)(hx:Loc X.env.scope x)(hs:swapsWith (.Dict [] [] dpos) (some (.Name x pos')) pos.line X.env=pure false:=by rfl)(hf:X.fn x=true∨X.env.scope.names.lookup x=some .local:=by first|exact .inl rfl|exact .inr rfl|assumption) :
  XS X cl E (.Assign [.Name x pos'] (.Dict [] [] dpos) pos) (sNewT i) :=
 XS'.out ⟨_,ps_set hN hi hx pe_dnewR hs hf,fun H0 F0 ρ σ H F Dn R o=>fun p hp=>o _ _ F (R.setT hp ⟨rfl,.nil,fun _ h=>(by cases h),List.nodup_nil⟩) (Same.refl _)⟩
def sPutT (i:Nat)(fk fv:Rho→Rs D):Rho→Out:=fun ρ=>match otL ρ i with
 | some ds=>(match fv ρ with
  | .ok (.bl true)=>(match fk ρ with | .ok k=>if isTA k=true∧ds.length<1000 then .nx (ρ.set i (.ot (L2.putT ds k))) else .no | .ex n=>.ex n|_=>.no)
  | _=>.no)
 | none=>.no
theorem xs_tput {i:Nat}{k v:Expr}{pos':Pos}(hu:X.A.units+1<cLine)(ho:PE X o (tVar i))(hk:XE X cl E k fa)(hv:XE X cl E v fb)(hs:swapsWith v (some (.Subscript o k pos')) pos.line X.env=pure false:=by rfl):XS X cl E (.Assign [.Subscript o k pos'] v pos) (sPutT i fa fb):=by
 obtain⟨t,pt,rt⟩:=hk.ex
 obtain⟨u,pu,ru⟩:=hv.ex
 refine XS'.out ⟨_,ps_dputR hu ho pt pu hs,fun H0 F0 ρ σ H F Dn R oo=>ru H0 F0 ρ σ H F _ R ?_⟩
 unfold sPutT at oo
 cases hw:otL ρ i with
 | none=>rw[hw] at oo;exact oo.elim
 | some ds =>
  rw[hw] at oo
  have hd:=otL_some hw
  cases ev:fb ρ with
  | ok dv =>
   cases dv with
   | bl bb =>
    cases bb with
    | true =>
     simp only[ev] at oo
     intro vv H1 F1 g1 q1
     have R1:=R.grow g1
     obtain⟨ad,vs,h1,h2,h3,h4,h5⟩:=R1.ot i ds hd
     refine⟨.ref ad,h1,rt H0 F0 ρ σ H1 F1 _ R1 ?_⟩
     cases ek:fa ρ with
     | ok dk =>
      simp only[ek] at oo
      split at oo
      ·rename_i hl
       intro kv H2 F2 g2 q2
       have R2:=R1.grow g2
       have h5':=h5.mono g2.ff
       cases q1
       cases q2 with
       | tup sq dq =>
        rename_i b xs dks
        have ex:=dq.atoms hl.1
        have sq':SqT X.K H2 b ((kkOf (.tup dks)).map kV):=by
         show SqT X.K H2 b ((dks.map kOf).map kV)
         rw[← ex];exact R2.fh.seqT sq
        refine⟨ad,b,vs,kkOf (.tup dks),rfl,rfl,rfl,g2.hh _ _ h2,fun q hq=>R2.fh.seqT (h5'.sq q hq),sq',by rw[h5.len,sizeLine_eq];omega,?_⟩
        exact oo _ _ F2 (R2.putT hd h1 (h5'.put hl.1 (.tup sq dq))) (g1.ff.trans g2.ff)
       | _=>cases hl.1
      ·exact oo.elim
     | ex n=>simp only[ek] at oo;exact oo
     | no=>simp only[ek] at oo;exact oo.elim
    | false=>simp only[ev] at oo;exact oo.elim
   | _=>simp only[ev] at oo;exact oo.elim
  | ex n=>simp only[ev] at oo;exact oo.elim
  | no=>simp only[ev] at oo;exact oo.elim
end
def nlLt:List Nat→List Nat→Bool
 | [],[]=>false
 | [],_::_=>true
 | _::_,[]=>false
 | a::as,b::bs=>if a<b then true else if b<a then false else nlLt as bs
def tlLt:List D→List D→Bool
 | [],[]=>false
 | [],_::_=>true
 | _::_,[]=>false
 | x::xs,y::ys=>if atEq x y=true then tlLt xs ys else nlLt (unS x) (unS y)
def isTS:D→Bool
 | .tup (d::ds)=>(d::ds).all isS
 | _=>false
def insT (x:D):List D→List D
 | []=>[x]
 | y::ys=>if tlLt (tOf x) (tOf y) then x::y::ys else y::insT x ys
def sortT (ds:List D):List D:=ds.foldr insT []
theorem nlLt_iff:∀{a b:List Nat},nlLt a b=true↔a<b
 | [],[]=>by simp[nlLt]
 | [],_::_=>by simp[nlLt]
 | _::_,[]=>by simp[nlLt]
 | a :: as,b::bs=>by
  unfold nlLt
  rw[List.cons_lt_cons_iff]
  by_cases h:a<b
  ·simp[h]
  ·by_cases k:b<a
   ·rw[if_neg h,if_pos k]
    simp only[Bool.false_eq_true,false_iff,not_or,not_and]
    exact⟨h,fun e=>by omega⟩
   ·rw[if_neg h,if_neg k,nlLt_iff]
    have:a=b:=by omega
    simp[this]
theorem isS_at {d:D}(h:isS d=true):isAt d=true:=by cases d <;>simp_all [isS,isAt]
theorem tlLt_iff:∀{a b:List D},a.all isS=true→b.all isS=true→tlLt a b=ksLt (a.map kOf) (b.map kOf)
 | [],[],_,_=>rfl
 | [],_::_,_,_=>rfl
 | _::_,[],_,_=>rfl
 | x :: xs,y::ys,h,k=>by
  rw[List.all_cons,Bool.and_eq_true] at h k
  rw[List.map_cons,List.map_cons]
  unfold tlLt ksLt
  have e:=atEq_iff (isS_at h.1) (isS_at k.1)
  by_cases z:kOf x=kOf y
  ·rw[if_pos z,if_pos (e.mpr z),tlLt_iff h.2 k.2]
  ·rw [if_neg z,if_neg (fun w=>z (e.mp w))]
   cases x with
   | str a =>
    cases y with
    | str b =>
     show nlLt a b=decide ((T a).cps.toList<(T b).cps.toList)
     rw[T_cps,T_cps]
     by_cases q:a<b
     ·rw[nlLt_iff.mpr q,decide_eq_true q]
     ·rw[decide_eq_false q]
      cases e2:nlLt a b with
      | false=>rfl
      | true=>exact absurd (nlLt_iff.mp e2) q
    | _=>simp[isS] at k
   | _=>simp[isS] at h
theorem insT_eq {x:D}:∀{ys:List D},isTS x=true→(∀y∈ys,isTS y=true)→insT x ys=insP x ys
 | [],_,_=>rfl
 | y :: ys,hx,h=>by
  unfold insT insP
  rw[insT_eq hx fun z hz=>h z (List.mem_cons_of_mem _ hz)]
  have e:tlLt (tOf x) (tOf y)=ksLt (kkOf x) (kkOf y):=by
   have hy:=h y List.mem_cons_self
   have al:∀{d:D},isTS d=true→(tOf d).all isS=true:=fun {d} h=>by
    cases d with
    | tup ds=>cases ds with
     | nil=>cases h
     | cons x xs=>exact h
    | _=>cases h
   exact tlLt_iff (al hx) (al hy)
  rw[e]
theorem sortT_eq:∀{ds:List D},(∀y∈ds,isTS y=true)→sortT ds=sortP ds
 | [],_=>rfl
 | d::ds,h=>by
  have h':∀y∈ds,isTS y=true:=fun y hy=>h y (List.mem_cons_of_mem _ hy)
  show insT d (sortT ds)=insP d (sortP ds)
  rw[sortT_eq h']
  exact insT_eq (h d List.mem_cons_self) fun y hy=>h' y ((sortP_perm ds).mem_iff.mp hy)
theorem ksOk_s:∀{a b:List D},a.all isS=true→b.all isS=true→ksOk (a.map kOf) (b.map kOf)=true
 | [],_,_,_=>by simp[ksOk]
 | _::_,[],_,_=>by simp[ksOk]
 | x::xs,y::ys,h,k=>by
  rw[List.all_cons,Bool.and_eq_true] at h k
  rw[List.map_cons,List.map_cons]
  unfold ksOk
  rw[ksOk_s h.2 k.2,Bool.and_true]
  cases x with
  | str a=>cases y with
   | str b=>rfl
   | _=>simp[isS] at k
  | _=>simp[isS] at h
theorem srtb_ts {ds:List D}(h:∀y∈ds,isTS y=true)(nd:(ds.map kkOf).Nodup):Srtb (ds.map kkOf):=by
 refine⟨⟨false,fun ks hk=>?_⟩,fun x hx y hy=>?_,nd⟩
 ·obtain ⟨d,hd,rfl⟩:=List.mem_map.mp hk
  have:=h d hd
  cases d with
  | tup l=>cases l with
   | nil=>cases this
   | cons x xs =>
    refine⟨kOf x,xs.map kOf,rfl,?_⟩
    have h1:(isS x&&xs.all isS)=true:=this
    rw[Bool.and_eq_true] at h1
    cases x with
    | str a=>rfl
    | _=>simp[isS] at h1
  | _=>cases this
 ·obtain ⟨d,hd,rfl⟩:=List.mem_map.mp hx
  obtain⟨e,he,rfl⟩:=List.mem_map.mp hy
  have al:∀{d:D},isTS d=true→(tOf d).all isS=true:=fun {d} h=>by
   cases d with
   | tup ds=>cases ds with
    | nil=>cases h
    | cons x xs=>exact h
   | _=>cases h
  exact ksOk_s (al (h d hd)) (al (h e he))
def fST (i:Nat):Rho→Rs (List D):=fun ρ=>match otL ρ i with
 | some ds=>if ds.all isTS=true∧ds.length<64 then .ok (sortT ds) else .no
 | none=>.no
section
variable {X:Cx}{cl:Nat→Addr}{E:XK}{e:Expr}{p pos:Pos}
theorem xl_sortedT {i:Nat}(hc:X.calm=true)(hg:Gl X "sorted")(hm:X.mg "sorted" = none)(ho:PE X e (tVar i))(hs:starEach [e] X.env=(false,eval e X.env)::starEach [] X.env)(hpl:(backTo pos (starEach [] X.env)).any (·.1)=false:=by rfl):XL X cl E (.Call (.Name "sorted" p) [e] [] pos) (fST i):=by
 refine⟨_,pe_callB (call_sortedR hc) hg hm boot_sorted (pa_cons ho pa_nil hs) (by decide) (by decide) hs hpl,fun H0 F0 ρ σ H F Q R oo=>?_⟩
 unfold fST at oo
 cases hw:otL ρ i with
 | none=>rw[hw] at oo;exact oo.elim
 | some l =>
  rw[hw] at oo
  dsimp only at oo
  split at oo
  ·rename_i hl
   obtain⟨ad,vs,h1,h2,h3,h4,h5⟩:=R.ot i l (otL_some hw)
   have ts:∀y∈l,isTS y=true:=fun y hy=>List.all_eq_true.mp hl.1 y hy
   have sb:=srtb_ts ts h5.nd
   have e1:=h5.len
   refine⟨.ref ad,h1,ad,vs,rfl,h2,fun q hq=>R.fh.seqT (h5.sq q hq),by rw[h5.ky];exact sb,by omega,fun p π hp pm rs=>?_⟩
   rw[h5.ky,e1] at rs
   rw[e1] at pm
   have pl:π.length=l.length:=by have:=pm.length_eq;simpa using this
   have hmem:∀i∈π,i<l.length:=fun i hi=>List.mem_range.mp (pm.mem_iff.mp hi)
   have er:RisP (π.map fun i=>l.getD i .non):=by
    refine List.pairwise_iff_getElem.mpr fun i j hi hj hij=>?_
    have hi':i<π.length:=by simpa using hi
    have hj':j<π.length:=by simpa using hj
    have r1:=rs i j hij (by omega)
    have gk:∀i (h:i<π.length),(l.map kkOf).getD (π.getD i 0) []=kkOf (l.getD π[i] .non):=fun i h=>by
     have hm:=hmem π[i] (List.getElem_mem h)
     have e0:π.getD i 0=π[i]:=by rw[List.getD_eq_getElem?_getD,List.getElem?_eq_getElem h];rfl
     rw[e0,List.getD_eq_getElem?_getD,List.getD_eq_getElem?_getD,List.getElem?_map,List.getElem?_eq_getElem hm]
     rfl
    rw[gk i hi',gk j hj'] at r1
    simpa using r1
   have ez:(π.map fun i=>l.getD i .non)=sortT l:=by
    rw[sortT_eq ts]
    exact er.unique (sortP_ris sb) ((map_at l π pm).trans (sortP_perm l).symm)
   refine oo _ _ F (Gr.refl R.fh) ?_ p hp
   rw[← ez]
   have dq:=h5.dt
   have key:∀(π:List Nat),(∀i∈π,i<l.length)→Dts X.K cl F (π.map fun i=>V.ref ((vs.map (·.2)).getD i 0)) (π.map fun i=>l.getD i .non):=by
    intro π
    induction π with
    | nil=>exact fun _=>.nil
    | cons i π ih =>
     intro hm
     have hi:=hm i List.mem_cons_self
     refine .cons ?_ (ih fun j hj=>hm j (List.mem_cons_of_mem _ hj))
     have:=dq.getDt i hi
     have ev:(vs.map fun q=>V.ref q.2).getD i .non=V.ref ((vs.map (·.2)).getD i 0):=by
      rw[List.getD_eq_getElem?_getD,List.getD_eq_getElem?_getD,List.getElem?_map,List.getElem?_map,List.getElem?_eq_getElem (by omega)]
      rfl
     rw[ev] at this
     exact this
   exact key π hmem
  ·exact oo.elim
end
end L2
namespace L2
open PySem PySem.W PySem.Spec PyProof.Rows
theorem ext_meets (l:Addr)(items:Array Value)(n:Nat)(b:Addr)(more:Array Value)(z1:items.size≤sizeLine)(z2:items.size+more.size≤sizeLine) :
  Meets (Builtin.«list.extend» ⟨[.ref l,.ref b],[]⟩) (fun _ R s=>s.heap.get? l=some (seqObj "list" items n)∧(∃o k,s.heap.get? b=some o∧o.cls=.type "list" ∧ o.data=.seq more k)∧R (.ok (.ret Value.none)) {s with heap:=s.heap.update l (Obj.mapSeq fun x=>x++more)}) :=
 .of_wp fun prog w A R s h=>by
  obtain⟨hl,⟨o,k,hb,hc,hd⟩,h⟩:=h
  unfold Builtin.«list.extend»
  refine wpAny_bind (m:=selfAndOne "list.extend" _) (wpAny_pure ?_)
  unfold Builtin.List.listExtendWith
  refine wpAny_bind (wpAny_typeOf ⟨o,hb,hc⟩ ?_)
  rw[if_pos (by simp)]
  refine wpAny_bind (listItems_at hb hd (wpAny_bind (listItems_at hl rfl ?_)))
  rw[if_neg (by rw[notLongL z2,Bool.and_false];exact Bool.false_ne_true)]
  refine wpAny_bind (listUpdate_at (f:=fun x=>x++more) hl rfl ?_ (hsz2:=by show(items++more).size≤_;rw[Array.size_append];omega))
  exact wpAny_pure ⟨_,rfl,h⟩
section
variable {X:Cx}
def rExtS (K:PySem.W.Frag):V→List V→Hp→VK→Prop:=fun x vs H Q=>∃l b xs zs,x=.ref l∧vs=[.ref b]∧H l=some (.lst xs)∧SqL K H b zs∧xs.length+zs.length≤sizeLine∧Q .non (upd H l (.lst (xs++zs)))
theorem mt_extendS:MtM X "list.extend" (rExtS X.K):=by
 intro pins s σ H x vs v us Q I rx rv h
 obtain⟨l,b,xs,zs,rfl,rfl,hH,hB,hz,q⟩:=h
 cases rx
 obtain⟨u,rfl,ru⟩:=rv.one
 cases ru
 obtain⟨z,its,n,r,hl,e⟩:=I.lstM hH
 obtain⟨its2,r2,⟨o,k,e2,c2,_,d2⟩,hl2⟩:=I.list hB
 have l1:=r.length
 have l2:=r2.length
 refine call_meets F.slot_list_extend ⟨_,e,rfl⟩ F.entry_list_extend (F.args_list_extend_2 _ _) (ext_meets l its.toArray n b its2.toArray (by rw[List.size_toArray];omega) (by rw[List.size_toArray,List.size_toArray];omega)) ⟨e,⟨o,k,e2,c2,d2⟩,?_⟩
 refine⟨.non,_,I.lset (its':=its++its2) hH e (by simp) (r.append r2) ?_,rfl,q⟩
 rw[List.length_append]
 omega
variable {cl:Nat→Addr}{E:XK}{e:Expr}{fa:Rho→Rs D}{pos:Pos}
def sExt (i:Nat)(f:Rho→Rs D):Rho→Out:=fun ρ=>match owL ρ i with
 | some ds=>(match f ρ with | .ok (.lst es)=>if ds.length+es.length<1000000 then .nx (ρ.set i (.ow (ds++es))) else .no | .ex n=>.ex n|_=>.no)
 | none=>.no
theorem xs_extend {i:Nat}{o:Expr}{apos cpos:Pos}(ho:PE X o (tVar i))(ha:XE X cl E e fa)(m:Mth X o e "extend" apos cpos)(hs:swapsWith (.Call (.Attribute o "extend" apos) [e] [] cpos) none pos.line X.env=pure false:=by rfl):XS X cl E (.Expr (.Call (.Attribute o "extend" apos) [e] [] cpos) pos) (sExt i fa):=by
 obtain⟨u,pu,ru⟩:=ha.ex
 refine XS'.out ⟨_,ps_expr (pe_bm PySem.F.plainAttrs_list PySem.F.slot_list_extend PySem.F.type_list_extend mt_extendS ho (pa_cons pu pa_nil m.hs) m.base m.few m.line m.hs m.plain) hs,fun H0 F0 ρ σ H F Dn R oo=>?_⟩
 unfold sExt at oo
 cases hw:owL ρ i with
 | none=>rw[hw] at oo;exact oo.elim
 | some ds =>
  rw[hw] at oo
  have hd:=owL_some hw
  obtain⟨a,vs,h1,h2,h3,h4,h5⟩:=R.ow i ds hd
  refine⟨.ref a,h1,.inl ⟨rfl,vs,.inl (.inl h2)⟩,ru H0 F0 ρ σ H F _ R ?_⟩
  cases e:fa ρ with
  | ok d =>
   simp only[e] at oo
   split at oo
   ·rename_i es e1
    injection e1 with e1
    subst e1
    split at oo
    ·rename_i hl
     intro v H1 F1 g q
     have R1:=R.grow g
     cases q with
     | lst sq dq =>
      rename_i b zs
      refine⟨a,b,vs,zs,rfl,rfl,g.hh _ _ h2,R1.fh.seq sq,?_,?_⟩
      ·rw[h5.length,dq.length,sizeLine_eq];omega
      ·exact oo _ _ F1 (R1.put hd h1 ((h5.mono g.ff).append dq)) g.ff
    ·exact oo.elim
   ·rename_i e1;cases e1
   ·exact oo.elim
  | ex n=>simp only[e] at oo;exact oo
  | no=>simp only[e] at oo;exact oo.elim
end
end L2
namespace L2
open PySem PySem.Spec PyProof.Rows
end L2
namespace L2
open PySem PySem.W PySem.Spec PyProof.Rows
def Cx.in1 (X:Cx):Cx:={X with A:=X.A.in1}
section
variable {X:Cx}{pins:List (Addr×Obj)}{σ:St}{H:Hp}{s:Shared}
theorem Cx.Ok.in1 (ok:X.Ok):X.in1.Ok:=⟨ok.mod,ok.kind,ok.glob,ok.blt,ok.above,ok.inj,ok.has,ok.cab,ok.hd,ok.frames,ok.stk,ok.exf,ok.bs,ok.bsz,ok.noex,ok.exfs,ok.funs,ok.frf⟩
theorem Inv.in1 (I:Inv X pins σ H s):Inv X.in1 pins σ H s:=⟨I.ok.in1,I.os,I.bare,I.base,I.loc,I.cell,I.free,I.freeC,I.pin,I.hok,I.len⟩
theorem Inv.unin1 (ok:X.Ok)(I:Inv X.in1 pins σ H s):Inv X pins σ H s:=⟨ok,I.os,I.bare,I.base,I.loc,I.cell,I.free,I.freeC,I.pin,I.hok,I.len⟩
end
structure Nx (X:Cx)(it:Addr)(xs:List V)(tn:Nat→Heap→Prop)(Sq:Hp→Prop):Prop where
 keep:∀i (h h':Heap),tn i h→(∀o,h.get? it=some o→h'.get? it=some o)→tn i h'
 obj:∀i (h:Heap),tn i h→∃o,h.get? it=some o∧∀v,o.data≠.cell v
 item:∀(i:Nat) (x:V) (pins:List (Addr×Obj)) (s:Shared) (σ:St) (H:Hp) (E:Value→Shared→Prop) (Q:Option Value→Shared→Prop),Inv X pins σ H s→FpOk X pins H it→tn i s.heap→Sq H→xs[i]? = some x →
  (∀u h',RelV x u→(∀b o,b≠it→s.heap.get? b=some o→h'.get? b=some o)→Inv X pins σ H {s with heap:=h'}→tn (i+1) h'→Q (some u) {s with heap:=h'})→wpAny (model X.prog X.w) X.A (pyNext (.ref it)) Q E s
 done:∀(i:Nat) (pins:List (Addr×Obj)) (s:Shared) (σ:St) (H:Hp) (E:Value→Shared→Prop) (Q:Option Value→Shared→Prop),Inv X pins σ H s→FpOk X pins H it→tn i s.heap→Sq H→xs.length≤i →
  (∀h',(∀b o,b≠it→s.heap.get? b=some o→h'.get? b=some o)→Inv X pins σ H {s with heap:=h'}→Q none {s with heap:=h'})→wpAny (model X.prog X.w) X.A (pyNext (.ref it)) Q E s
theorem nx_list {X:Cx}(hc:X.calm=true){a it:Addr}{xs:List V}:Nx X it xs (fun i h=>h.IsListIter it a i) (fun H=>SqL X.K H a xs) where
 keep:=fun i h h' st k=>st.at fun o e=>k o e
 obj:=fun i h st=>by
  obtain⟨o,e,c,d⟩:=st
  exact⟨o,e,fun v z=>by rw[d] at z;cases z⟩
 item:=fun i x pins s σ H E Q I hf st hq hx h=>by
  obtain⟨its,rv,p,hz⟩:=I.list hq
  obtain⟨u,hu,ru⟩:=rv.get hx
  obtain⟨f0,f1,f2,f3,f4,f5⟩:=hf
  exact wpAny_pyNext_list_item st p.isList (x:=u) (by simpa using hu) fun h' st' sb=>h u h' ru (fun b o hb e=>(sb.2 b hb).trans e) (I.turned (t':=s.toks) (fun b o hb e=>(sb.2 b hb).trans e) f0 f1 f3 f4 f5) st'
 done:=fun i pins s σ H E Q I hf st hq hx h=>by
  obtain⟨its,rv,p,hz⟩:=I.list hq
  obtain⟨f0,f1,f2,f3,f4,f5⟩:=hf
  have hl:=rv.length
  exact wpAny_pyNext_list_end (I.ok.hd hc) st p.isList (by simp;omega) fun h' eb=>h h' (fun b o hb e=>eb b o hb e) (I.turned (t':=s.toks) (fun b o hb e=>eb b o hb e) f0 f1 f3 f4 f5)
theorem nx_tuple {X:Cx}(hc:X.calm=true){a it:Addr}{xs:List V}:Nx X it xs (fun i h=>h.IsTupleIter it a i) (fun H=>SqT X.K H a xs) where
 keep:=fun i h h' st k=>st.at fun o e=>k o e
 obj:=fun i h st=>by
  obtain⟨o,e,c,d⟩:=st
  exact⟨o,e,fun v z=>by rw[d] at z;cases z⟩
 item:=fun i x pins s σ H E Q I hf st hq hx h=>by
  obtain⟨its,rv,p,hz⟩:=I.tuple hq
  obtain⟨u,hu,ru⟩:=rv.get hx
  obtain⟨f0,f1,f2,f3,f4,f5⟩:=hf
  exact wpAny_pyNext_tuple_item st p (x:=u) (by simpa using hu) fun h' st' sb=>h u h' ru (fun b o hb e=>(sb.2 b hb).trans e) (I.turned (t':=s.toks) (fun b o hb e=>(sb.2 b hb).trans e) f0 f1 f3 f4 f5) st'
 done:=fun i pins s σ H E Q I hf st hq hx h=>by
  obtain⟨its,rv,p,hz⟩:=I.tuple hq
  obtain⟨f0,f1,f2,f3,f4,f5⟩:=hf
  have hl:=rv.length
  exact wpAny_pyNext_tuple_end (I.ok.hd hc) st p (by simp;omega) fun h' eb=>h h' (fun b o hb e=>eb b o hb e) (I.turned (t':=s.toks) (fun b o hb e=>eb b o hb e) f0 f1 f3 f4 f5)
def tBest (lt:Int→Int→Bool)(kq:V→Hp→VK→Prop)(Sq:Hp→Prop):V→Int→List V→Hp→VK→Prop
 | b,_,[],H,Q=>Q b H
 | b,k,x::r,H,Q=>kq x H fun v H'=>∃k',v=.int k'∧Sq H'∧(if lt k' k=true then tBest lt kq Sq x k' r H' Q else tBest lt kq Sq b k r H' Q)
section
variable {X:Cx}{bp:List (Addr×Obj)}{it S q:Addr}{xs:List V}{tn:Nat→Heap→Prop}{Sq:Hp→Prop}{kq:V→Hp→VK→Prop}
def KeyOk (X:Cx)(bp:List (Addr×Obj))(σ:St)(q:Addr)(xs:List V)(kq:V→Hp→VK→Prop):Prop:=∀(x:V) (pins:List (Addr×Obj)) (s:Shared) (H:Hp) (u:Value) (Q:VK),(∀p∈bp,p∈pins)→x∈xs→Inv X.in1 pins σ H s→RelV x u→kq x H Q →
 wpAny (model X.prog X.w) X.A.in1 (call (.ref q) [u]) (EP X.in1 pins σ Q) (fun _ _=>False) s
theorem key_turn {σ:St}(N:Nx X.in1 it xs tn Sq)(key:KeyOk X bp σ q xs kq){i:Nat}{x:V}{u:Value}{oS:Obj}{pins:List (Addr×Obj)}{s:Shared}{H:Hp}{Q:VK}{R:Value→Shared→Prop}(hbp:∀p∈bp,p∈pins)(hx:x∈xs)(I:Inv X.in1 pins σ H s)(fI:FpOk X pins H it)(fS:FpOk X pins H S)
  (hS:s.heap.get? S=some oS) (hcS:∀v,oS.data≠.cell v) (st:tn i s.heap) (ru:RelV x u) (h:kq x H Q) (hR:∀v u' H' s',Inv X.in1 pins σ H' s'→FpOk X pins H' it→FpOk X pins H' S→s'.heap.get? S=some oS→tn i s'.heap→RelV v u'→Q v H'→R u' s') :
  wpAny (model X.prog X.w) X.A.in1 (call (.ref q) [u]) R (fun _ _=>False) s:=by
 obtain⟨oI,hI,hcI⟩:=N.obj i _ st
 have I1:=I.pinned (fp:=[it,S]) (fun b hb=>by rcases List.mem_cons.mp hb with rfl|hb;exact fI;rw[List.mem_singleton.mp hb];exact fS) (fun b hb=>by
  rcases List.mem_cons.mp hb with rfl|hb
  ·exact⟨oI,hI,hcI⟩
  ·rw[List.mem_singleton.mp hb];exact⟨oS,hS,hcS⟩)
 refine thn (key x _ s H u Q (fun p hp=>List.mem_append_left _ (hbp p hp)) hx I1 ru h) fun u' s' hq40=>?_
 obtain⟨v,H',I2,rv,q2⟩:=hq40
 have pI:=I2.pin (it,oI) (List.mem_append_right _ (List.mem_append_right _ (mem_pinsAt (by simp) hI)))
 have pS:=I2.pin (S,oS) (List.mem_append_right _ (List.mem_append_right _ (mem_pinsAt (by simp) hS)))
 exact hR v u' H' s' I2.unpinned ⟨pI.2.1,fI.2⟩ ⟨pS.2.1,fS.2⟩ pS.1 (N.keep i _ _ st fun o e=>by rw[hI] at e;cases e;exact pI.1) rv q2
theorem min_loop {σ:St}(N:Nx X.in1 it xs tn Sq)(hne:S≠it)(key:KeyOk X bp σ q xs kq):∀(n i:Nat) (pins:List (Addr×Obj)) (s:Shared) (H:Hp) (b:V) (k:Int) (vb:Value) (tb:Tok) (c:Nat) (Q:VK) (R:Result→Shared→Prop),(∀p∈bp,p∈pins)→xs.length - i=n→Inv X.in1 pins σ H s→FpOk X pins H it→FpOk X pins H S →
  s.heap.get? S=some (seqObj "list" #[vb,.int k tb] c)→tn i s.heap→Sq H→RelV b vb→tBest (fun a b=>decide (a<b)) kq Sq b k (xs.drop i) H Q→(∀v u H' s',Inv X.in1 pins σ H' s'→RelV v u→Q v H'→R (.ok (.ret u)) s') →
  codeAny (model X.prog X.w) X.A (.builtin "min.loop" ⟨[.ref it,.ref q,.ref S],[]⟩) R s:=by
 have hname:(toString "min" ++ toString ".loop" : String) = "min.loop" := by decide
 intro n
 induction n with
 | zero =>
  intro i pins s H b k vb tb c Q R hbp hn I fI fS hS st hq rb h hR
  rw[List.drop_of_length_le (by omega)] at h
  have h:Q b H:=h
  refine codeAny_builtin PySem.F.entry_min_loop ?_
  rw[Around.under_plainId PySem.F.plain_min_loop _]
  show wpAny _ X.A.in1 (seqItems? (.ref S) >>= _) _ _ _
  refine wpAny_bind (wpAny_seqItems hS rfl ?_)
  show wpAny _ X.A.in1 (tryCatch (pyNext (.ref it)) _ >>= _) _ _ _
  refine wpAny_bind (wpAny_tryCatch (N.done i pins s σ H _ _ I fI st hq (by omega) fun h' k' I1=>?_))
  show wpAny _ X.A.in1 (updateSeq S (fun _=>#[]) >>= _) _ _ _
  refine wpAny_bind ?_
  refine wpAny_updateSeq (k' S _ hne hS) rfl (wpAny_bind (wpAny_letGo (wpAny_pure ?_)))
  obtain⟨f0,f1,f2,f3,f4,f5⟩:=fS
  exact hR b vb H _ (I1.turned (t':=s.toks) (fun b o hb e=>((Heap.SameBut.update h' S _).2 b hb).trans e) f0 f1 f3 f4 f5) rb h
 | succ n ih =>
  intro i pins s H b k vb tb c Q R hbp hn I fI fS hS st hq rb h hR
  have hi:i<xs.length:=by omega
  rw[List.drop_eq_getElem_cons hi] at h
  have hx:xs[i]? = some xs[i]:=List.getElem?_eq_getElem hi
  have hm:=List.getElem_mem hi
  generalize xs[i]=x at h hx hm
  refine codeAny_builtin PySem.F.entry_min_loop ?_
  rw[Around.under_plainId PySem.F.plain_min_loop _]
  show wpAny _ X.A.in1 (seqItems? (.ref S) >>= _) _ _ _
  refine wpAny_bind (wpAny_seqItems hS rfl ?_)
  show wpAny _ X.A.in1 (tryCatch (pyNext (.ref it)) _ >>= _) _ _ _
  refine wpAny_bind (wpAny_tryCatch (N.item i x pins s σ H _ _ I fI st hq hx fun u h' ru k' I1 st'=>?_))
  show wpAny _ X.A.in1 (tryCatch (holding [u] (call (.ref q) [u])) _ >>= _) _ _ _
  refine wpAny_bind (wpAny_tryCatch (wpAny_holding (wpAny_mono (key_turn (i:=i+1) N key hbp hm I1 fI fS (k' S _ hne hS) (fun v z=>nomatch z) st' ru h fun v u' H2 s2 I2 fI2 fS2 hS2 st2 rv q2=>?_) (fun _ _ z=>z) fun _ _ z=>z.elim)))
  obtain⟨k2,rfl,hq2,h2⟩:=q2
  obtain⟨t2,rfl⟩:=rv
  show wpAny _ X.A.in1 (tryCatch (holding [u,.int k2 t2] (richCompare .Lt (.int k2 t2) (.int k tb) >>= _)) _ >>= _) _ _ _
  refine wpAny_bind (wpAny_tryCatch (wpAny_holding (wpAny_bind (lt_int (a:=k2) (b:=k) ?_))))
  refine wpAny_bind (wpAny_holding (wpAny_truthy_bool ?_))
  refine wpAny_bind (wpAny_letGo (wpAny_pure ?_))
  by_cases hb:k2<k
  ·rw[if_pos (decide_eq_true hb)] at h2
   simp only[hb,decide_true,if_true]
   obtain⟨c2,hc2⟩:∃c2,(s2.heap.update S (Obj.mapSeq fun _=>#[u,.int k2 t2])).get? S=some (seqObj "list" #[u,.int k2 t2] c2):=⟨_,get?_update_seq hS2 fun _=>#[u,.int k2 t2]⟩
   refine wpAny_bind ?_
   refine wpAny_updateSeq hS2 rfl (wpAny_bind (wpAny_letGo ?_))
   rw[hname]
   obtain⟨f0,f1,f2,f3,f4,f5⟩:=id fS2
   have sb:=Heap.SameBut.update s2.heap S (Obj.mapSeq fun _=>#[u,.int k2 t2])
   exact wpAny_pure ⟨plainId_quiet PySem.F.plain_min_loop _,ih (i+1) pins _ H2 x k2 u t2 c2 Q R hbp (by omega) (I2.turned (t':=s2.toks) (fun b o hb e=>(sb.2 b hb).trans e) f0 f1 f3 f4 f5) fI2 fS2 hc2 (N.keep _ _ _ st2 fun o e=>(sb.2 it hne.symm).trans e) hq2 ru h2 hR⟩
  ·rw[if_neg (by simpa using hb)] at h2
   simp only[hb,decide_false,Bool.false_eq_true,if_false]
   refine wpAny_bind (wpAny_letGo ?_)
   rw[hname]
   exact wpAny_pure ⟨plainId_quiet PySem.F.plain_min_loop _,ih (i+1) pins s2 H2 b k vb tb c Q R hbp (by omega) I2 fI2 fS2 hS2 st2 hq2 rb h2 hR⟩
theorem min_call (ok:X.Ok){pins:List (Addr×Obj)}{s:Shared}{σ:St}{H:Hp}{v:Value}{oit:Obj}{x0:V}{r:List V}{Q:VK}(hit:∀(Q:Value→Shared→Prop) (E:Value→Shared→Prop),Q (.ref s.heap.objs.size) {s with heap:=s.heap.push oit}→wpAny (model X.prog X.w) X.A.in1 (pyIter v) Q E s)(N:Nx X.in1 s.heap.objs.size xs tn Sq)(key:KeyOk X bp σ q xs kq)(hbp:∀p∈bp,p∈pins)(ex:xs=x0::r)
  (I:Inv X pins σ H s) (st:tn 0 ((s.heap.push oit).push (seqObj "list" #[] 0))) (hq:Sq H) (h:kq x0 H fun v H'=>∃k,v=.int k∧Sq H'∧tBest (fun a b=>decide (a<b)) kq Sq x0 k r H' Q) :
  wpAny (model X.prog X.w) X.A (call (.builtin "min") [v] [(Str.ofString "key", .ref q)]) (EP X pins σ Q) X.xe s:=by
 have hname:(toString "min" ++ toString ".loop" : String) = "min.loop" := by decide
 refine kmk_tree PySem.F.kind_min PySem.F.plain_min PySem.F.entry_min (kmk_min_key _ _) ?_
 show wpAny _ X.A.in1 (Builtin.Builtins.bindParams "min" ["key", "default"] 0 ⟨[],[(Str.ofString "key", .ref q)]⟩ >>= _) _ _ s
 refine wpAny_bind (wpAny_of_eq (show Builtin.Builtins.bindParams "min" ["key", "default"] 0 ⟨[],[(Str.ofString "key", .ref q)]⟩=pure [some (.ref q),none] from rfl) ?_)
 refine wpAny_bind (wpAny_pure ?_)
 refine wpAny_bind (hit _ _ ?_)
 refine wpAny_bind (wpAny_newList ?_ (Nat.zero_le _))
 rw[hname]
 have hSz:(s.heap.push oit).objs.size=s.heap.objs.size+1:=size_push' ..
 have hne:(s.heap.push oit).objs.size≠s.heap.objs.size:=by rw[hSz];exact Nat.ne_of_gt (Nat.lt_succ_self _)
 have I0:Inv X.in1 pins σ H {s with heap:=(s.heap.push oit).push (seqObj "list" #[] 0)}:=I.in1.kept (t':=s.toks) fun b o e=>Heap.get?_push_of_some _ (Heap.get?_push_of_some _ e)
 have fI:FpOk X pins H s.heap.objs.size:=I.fpOk (Nat.le_refl _) (I.hok.fresh (Nat.le_refl _))
 have fS:FpOk X pins H (s.heap.push oit).objs.size:=I.fpOk (by rw[hSz];omega) (I.hok.fresh (by rw[hSz];omega))
 have gS:((s.heap.push oit).push (seqObj "list" #[] 0)).get? (s.heap.push oit).objs.size=some (seqObj "list" #[] 0):=Heap.get?_push_size _ rfl
 have hx:xs[0]? = some x0:=by rw[ex];rfl
 have hm:x0∈xs:=by rw[ex];simp
 have hd:xs.drop 1=r:=by rw[ex];rfl
 refine wpAny_pure ⟨plainId_quiet PySem.F.plain_min_loop _,?_⟩
 refine codeAny_builtin PySem.F.entry_min_loop ?_
 rw[Around.under_plainId PySem.F.plain_min_loop _]
 show wpAny _ X.A.in1 (seqItems? (.ref _) >>= _) _ _ _
 refine wpAny_bind (wpAny_seqItems gS rfl ?_)
 show wpAny _ X.A.in1 (tryCatch (pyNext (.ref s.heap.objs.size)) _ >>= _) _ _ _
 refine wpAny_bind (wpAny_tryCatch (N.item 0 x0 pins _ σ H _ _ I0 fI st hq hx fun u h' ru k' I1 st'=>?_))
 show wpAny _ X.A.in1 (tryCatch (holding [u] (call (.ref q) [u])) _ >>= _) _ _ _
 refine wpAny_bind (wpAny_tryCatch (wpAny_holding (wpAny_mono (key_turn (i:=1) N key hbp hm I1 fI fS (k' _ _ hne gS) (fun v z=>nomatch z) st' ru h fun v u' H2 s2 I2 fI2 fS2 hS2 st2 rv q2=>?_) (fun _ _ z=>z) fun _ _ z=>z.elim)))
 obtain⟨k2,rfl,hq2,h2⟩:=q2
 obtain⟨t2,rfl⟩:=rv
 obtain⟨c2,hc2⟩:∃c2,(s2.heap.update (s.heap.push oit).objs.size (Obj.mapSeq fun _=>#[u,.int k2 t2])).get? (s.heap.push oit).objs.size=some (seqObj "list" #[u,.int k2 t2] c2):=⟨_,get?_update_seq hS2 fun _=>#[u,.int k2 t2]⟩
 show wpAny _ X.A.in1 (updateSeq (s.heap.push oit).objs.size (fun _=>#[u,.int k2 t2]) >>= _) _ _ _
 refine wpAny_bind ?_
 refine wpAny_updateSeq hS2 rfl ?_
 rw[hname]
 obtain⟨f0,f1,f2,f3,f4,f5⟩:=id fS2
 have sb:=Heap.SameBut.update s2.heap (s.heap.push oit).objs.size (Obj.mapSeq fun _=>#[u,.int k2 t2])
 exact wpAny_pure ⟨plainId_quiet PySem.F.plain_min_loop _,min_loop N hne key _ 1 pins _ H2 x0 k2 u t2 c2 Q _ hbp rfl (I2.turned (t':=s2.toks) (fun b o hb e=>(sb.2 b hb).trans e) f0 f1 f3 f4 f5) fI2 fS2 hc2 (N.keep _ _ _ st2 fun o e=>(sb.2 _ hne.symm).trans e) hq2 ru (by rw[hd];exact h2) fun v u H' s' I3 rv q3=>⟨v,H',I3.unin1 ok,rv,q3⟩⟩
theorem max_loop {σ:St}(N:Nx X.in1 it xs tn Sq)(hne:S≠it)(key:KeyOk X bp σ q xs kq):∀(n i:Nat) (pins:List (Addr×Obj)) (s:Shared) (H:Hp) (b:V) (k:Int) (vb:Value) (tb:Tok) (c:Nat) (Q:VK) (R:Result→Shared→Prop),(∀p∈bp,p∈pins)→xs.length - i=n→Inv X.in1 pins σ H s→FpOk X pins H it→FpOk X pins H S →
  s.heap.get? S=some (seqObj "list" #[vb,.int k tb] c)→tn i s.heap→Sq H→RelV b vb→tBest (fun a b=>decide (b<a)) kq Sq b k (xs.drop i) H Q→(∀v u H' s',Inv X.in1 pins σ H' s'→RelV v u→Q v H'→R (.ok (.ret u)) s') →
  codeAny (model X.prog X.w) X.A (.builtin "max.loop" ⟨[.ref it,.ref q,.ref S],[]⟩) R s:=by
 have hname:(toString "max" ++ toString ".loop" : String) = "max.loop" := by decide
 intro n
 induction n with
 | zero =>
  intro i pins s H b k vb tb c Q R hbp hn I fI fS hS st hq rb h hR
  rw[List.drop_of_length_le (by omega)] at h
  have h:Q b H:=h
  refine codeAny_builtin PySem.F.entry_max_loop ?_
  rw[Around.under_plainId PySem.F.plain_max_loop _]
  show wpAny _ X.A.in1 (seqItems? (.ref S) >>= _) _ _ _
  refine wpAny_bind (wpAny_seqItems hS rfl ?_)
  show wpAny _ X.A.in1 (tryCatch (pyNext (.ref it)) _ >>= _) _ _ _
  refine wpAny_bind (wpAny_tryCatch (N.done i pins s σ H _ _ I fI st hq (by omega) fun h' k' I1=>?_))
  show wpAny _ X.A.in1 (updateSeq S (fun _=>#[]) >>= _) _ _ _
  refine wpAny_bind ?_
  refine wpAny_updateSeq (k' S _ hne hS) rfl (wpAny_bind (wpAny_letGo (wpAny_pure ?_)))
  obtain⟨f0,f1,f2,f3,f4,f5⟩:=fS
  exact hR b vb H _ (I1.turned (t':=s.toks) (fun b o hb e=>((Heap.SameBut.update h' S _).2 b hb).trans e) f0 f1 f3 f4 f5) rb h
 | succ n ih =>
  intro i pins s H b k vb tb c Q R hbp hn I fI fS hS st hq rb h hR
  have hi:i<xs.length:=by omega
  rw[List.drop_eq_getElem_cons hi] at h
  have hx:xs[i]? = some xs[i]:=List.getElem?_eq_getElem hi
  have hm:=List.getElem_mem hi
  generalize xs[i]=x at h hx hm
  refine codeAny_builtin PySem.F.entry_max_loop ?_
  rw[Around.under_plainId PySem.F.plain_max_loop _]
  show wpAny _ X.A.in1 (seqItems? (.ref S) >>= _) _ _ _
  refine wpAny_bind (wpAny_seqItems hS rfl ?_)
  show wpAny _ X.A.in1 (tryCatch (pyNext (.ref it)) _ >>= _) _ _ _
  refine wpAny_bind (wpAny_tryCatch (N.item i x pins s σ H _ _ I fI st hq hx fun u h' ru k' I1 st'=>?_))
  show wpAny _ X.A.in1 (tryCatch (holding [u] (call (.ref q) [u])) _ >>= _) _ _ _
  refine wpAny_bind (wpAny_tryCatch (wpAny_holding (wpAny_mono (key_turn (i:=i+1) N key hbp hm I1 fI fS (k' S _ hne hS) (fun v z=>nomatch z) st' ru h fun v u' H2 s2 I2 fI2 fS2 hS2 st2 rv q2=>?_) (fun _ _ z=>z) fun _ _ z=>z.elim)))
  obtain⟨k2,rfl,hq2,h2⟩:=q2
  obtain⟨t2,rfl⟩:=rv
  show wpAny _ X.A.in1 (tryCatch (holding [u,.int k2 t2] (richCompare .Gt (.int k2 t2) (.int k tb) >>= _)) _ >>= _) _ _ _
  refine wpAny_bind (wpAny_tryCatch (wpAny_holding (wpAny_bind (gt_int (a:=k2) (b:=k) ?_))))
  refine wpAny_bind (wpAny_holding (wpAny_truthy_bool ?_))
  refine wpAny_bind (wpAny_letGo (wpAny_pure ?_))
  by_cases hb:k<k2
  ·rw[if_pos (decide_eq_true hb)] at h2
   simp only[hb,decide_true,if_true]
   obtain⟨c2,hc2⟩:∃c2,(s2.heap.update S (Obj.mapSeq fun _=>#[u,.int k2 t2])).get? S=some (seqObj "list" #[u,.int k2 t2] c2):=⟨_,get?_update_seq hS2 fun _=>#[u,.int k2 t2]⟩
   refine wpAny_bind ?_
   refine wpAny_updateSeq hS2 rfl (wpAny_bind (wpAny_letGo ?_))
   rw[hname]
   obtain⟨f0,f1,f2,f3,f4,f5⟩:=id fS2
   have sb:=Heap.SameBut.update s2.heap S (Obj.mapSeq fun _=>#[u,.int k2 t2])
   exact wpAny_pure ⟨plainId_quiet PySem.F.plain_max_loop _,ih (i+1) pins _ H2 x k2 u t2 c2 Q R hbp (by omega) (I2.turned (t':=s2.toks) (fun b o hb e=>(sb.2 b hb).trans e) f0 f1 f3 f4 f5) fI2 fS2 hc2 (N.keep _ _ _ st2 fun o e=>(sb.2 it hne.symm).trans e) hq2 ru h2 hR⟩
  ·rw[if_neg (by simpa using hb)] at h2
   simp only[hb,decide_false,Bool.false_eq_true,if_false]
   refine wpAny_bind (wpAny_letGo ?_)
   rw[hname]
   exact wpAny_pure ⟨plainId_quiet PySem.F.plain_max_loop _,ih (i+1) pins s2 H2 b k vb tb c Q R hbp (by omega) I2 fI2 fS2 hS2 st2 hq2 rb h2 hR⟩
theorem max_call (ok:X.Ok){pins:List (Addr×Obj)}{s:Shared}{σ:St}{H:Hp}{v:Value}{oit:Obj}{x0:V}{r:List V}{Q:VK}(hit:∀(Q:Value→Shared→Prop) (E:Value→Shared→Prop),Q (.ref s.heap.objs.size) {s with heap:=s.heap.push oit}→wpAny (model X.prog X.w) X.A.in1 (pyIter v) Q E s)(N:Nx X.in1 s.heap.objs.size xs tn Sq)(key:KeyOk X bp σ q xs kq)(hbp:∀p∈bp,p∈pins)(ex:xs=x0::r)
  (I:Inv X pins σ H s) (st:tn 0 ((s.heap.push oit).push (seqObj "list" #[] 0))) (hq:Sq H) (h:kq x0 H fun v H'=>∃k,v=.int k∧Sq H'∧tBest (fun a b=>decide (b<a)) kq Sq x0 k r H' Q) :
  wpAny (model X.prog X.w) X.A (call (.builtin "max") [v] [(Str.ofString "key", .ref q)]) (EP X pins σ Q) X.xe s:=by
 have hname:(toString "max" ++ toString ".loop" : String) = "max.loop" := by decide
 refine kmk_tree PySem.F.kind_max PySem.F.plain_max PySem.F.entry_max (kmk_max_key _ _) ?_
 show wpAny _ X.A.in1 (Builtin.Builtins.bindParams "max" ["key", "default"] 0 ⟨[],[(Str.ofString "key", .ref q)]⟩ >>= _) _ _ s
 refine wpAny_bind (wpAny_of_eq (show Builtin.Builtins.bindParams "max" ["key", "default"] 0 ⟨[],[(Str.ofString "key", .ref q)]⟩=pure [some (.ref q),none] from rfl) ?_)
 refine wpAny_bind (wpAny_pure ?_)
 refine wpAny_bind (hit _ _ ?_)
 refine wpAny_bind (wpAny_newList ?_ (Nat.zero_le _))
 rw[hname]
 have hSz:(s.heap.push oit).objs.size=s.heap.objs.size+1:=size_push' ..
 have hne:(s.heap.push oit).objs.size≠s.heap.objs.size:=by rw[hSz];exact Nat.ne_of_gt (Nat.lt_succ_self _)
 have I0:Inv X.in1 pins σ H {s with heap:=(s.heap.push oit).push (seqObj "list" #[] 0)}:=I.in1.kept (t':=s.toks) fun b o e=>Heap.get?_push_of_some _ (Heap.get?_push_of_some _ e)
 have fI:FpOk X pins H s.heap.objs.size:=I.fpOk (Nat.le_refl _) (I.hok.fresh (Nat.le_refl _))
 have fS:FpOk X pins H (s.heap.push oit).objs.size:=I.fpOk (by rw[hSz];omega) (I.hok.fresh (by rw[hSz];omega))
 have gS:((s.heap.push oit).push (seqObj "list" #[] 0)).get? (s.heap.push oit).objs.size=some (seqObj "list" #[] 0):=Heap.get?_push_size _ rfl
 have hx:xs[0]? = some x0:=by rw[ex];rfl
 have hm:x0∈xs:=by rw[ex];simp
 have hd:xs.drop 1=r:=by rw[ex];rfl
 refine wpAny_pure ⟨plainId_quiet PySem.F.plain_max_loop _,?_⟩
 refine codeAny_builtin PySem.F.entry_max_loop ?_
 rw[Around.under_plainId PySem.F.plain_max_loop _]
 show wpAny _ X.A.in1 (seqItems? (.ref _) >>= _) _ _ _
 refine wpAny_bind (wpAny_seqItems gS rfl ?_)
 show wpAny _ X.A.in1 (tryCatch (pyNext (.ref s.heap.objs.size)) _ >>= _) _ _ _
 refine wpAny_bind (wpAny_tryCatch (N.item 0 x0 pins _ σ H _ _ I0 fI st hq hx fun u h' ru k' I1 st'=>?_))
 show wpAny _ X.A.in1 (tryCatch (holding [u] (call (.ref q) [u])) _ >>= _) _ _ _
 refine wpAny_bind (wpAny_tryCatch (wpAny_holding (wpAny_mono (key_turn (i:=1) N key hbp hm I1 fI fS (k' _ _ hne gS) (fun v z=>nomatch z) st' ru h fun v u' H2 s2 I2 fI2 fS2 hS2 st2 rv q2=>?_) (fun _ _ z=>z) fun _ _ z=>z.elim)))
 obtain⟨k2,rfl,hq2,h2⟩:=q2
 obtain⟨t2,rfl⟩:=rv
 obtain⟨c2,hc2⟩:∃c2,(s2.heap.update (s.heap.push oit).objs.size (Obj.mapSeq fun _=>#[u,.int k2 t2])).get? (s.heap.push oit).objs.size=some (seqObj "list" #[u,.int k2 t2] c2):=⟨_,get?_update_seq hS2 fun _=>#[u,.int k2 t2]⟩
 show wpAny _ X.A.in1 (updateSeq (s.heap.push oit).objs.size (fun _=>#[u,.int k2 t2]) >>= _) _ _ _
 refine wpAny_bind ?_
 refine wpAny_updateSeq hS2 rfl ?_
 rw[hname]
 obtain⟨f0,f1,f2,f3,f4,f5⟩:=id fS2
 have sb:=Heap.SameBut.update s2.heap (s.heap.push oit).objs.size (Obj.mapSeq fun _=>#[u,.int k2 t2])
 exact wpAny_pure ⟨plainId_quiet PySem.F.plain_max_loop _,max_loop N hne key _ 1 pins _ H2 x0 k2 u t2 c2 Q _ hbp rfl (I2.turned (t':=s2.toks) (fun b o hb e=>(sb.2 b hb).trans e) f0 f1 f3 f4 f5) fI2 fS2 hc2 (N.keep _ _ _ st2 fun o e=>(sb.2 _ hne.symm).trans e) hq2 ru (by rw[hd];exact h2) fun v u H' s' I3 rv q3=>⟨v,H',I3.unin1 ok,rv,q3⟩⟩
end
end L2
namespace L2
open PySem PySem.W PySem.Spec PySem.Calls PyProof.Rows
theorem triples_snoc {a b c:Value}(ha:∃i t,a=.int i t)(hb:∃i t,b=.int i t):∀{l:List Value},TriplesOk l→TriplesOk (l++[a,b,c])
 | [],_=>by obtain⟨i,t,rfl⟩:=ha;obtain⟨j,u,rfl⟩:=hb;trivial
 | .int _ _ :: .int _ _::_::r,h=>triples_snoc ha hb (l:=r) h
theorem among_snoc {pos':Pos}{a b c cv:Value}(ha:∃i t,a=.int i t)(hb:∃i t,b=.int i t):∀{l:List Value},TriplesOk l→codeAmong pos' (l++[a,b,c])=some cv→codeAmong pos' l=some cv∨cv=c
 | [],_,h=>by
  obtain⟨i,t,rfl⟩:=ha
  obtain⟨j,u,rfl⟩:=hb
  have h':(if (i == pos'.line&&j == pos'.col)=true then some c else codeAmong pos' [])=some cv:=h
  split at h'
  ·exact .inr (Option.some.inj h').symm
  ·cases h'
 | .int i _ :: .int j _::d::r,ht,h=>by
  have h':(if (i == pos'.line&&j == pos'.col)=true then some d else codeAmong pos' (r++[a,b,c]))=some cv:=h
  show(if (i == pos'.line&&j == pos'.col)=true then some d else codeAmong pos' r)=some cv∨_
  split at h'
  ·rename_i z;rw[if_pos z];exact .inl h'
  ·rename_i z;rw[if_neg z];exact among_snoc ha hb (l:=r) ht h'
section
variable {X:Cx}{pins:List (Addr×Obj)}{σ:St}{H:Hp}{s:Shared}
theorem Inv.pin1 {f:Addr}{o:Obj}(I:Inv X pins σ H s)(hf:s.heap.get? f=some o)(hn:H f=none)(h1:f≠X.env.locals)(h2:f∉X.fs)(h3:∀v,o.data≠.cell v):Inv X ((f,o)::pins) σ H s :=
 I.pins_of fun p hp=>by
  rcases List.mem_cons.mp hp with rfl|hp
  ·exact⟨hf,hn,h1,h2,h3⟩
  ·exact I.pin p (List.mem_append_right _ hp)
def BltOk (X:Cx):Prop:=∃bm o,X.mg "__builtins__" = some (.ref bm)∧bm≠builtinsNs∧bm≠mainGlobals∧X.base.get? bm=some o∧o.cls=.type "module" ∧ o.dict=some builtinsNs∧o.data=.plain
theorem lam_make {params:Arguments}{body:Expr}{scope:Scope}{pos:Pos}{clos:List (Str×Addr)}{P c:Addr}{q:Str}{R:Value→Shared→Prop}{E:Value→Shared→Prop}(I:Inv X pins σ H s)(hP:H P=some (.lam q))(hq:X.env.qual ++ "<lambda>" = q)(hcode:X.env.code=.ref c)(C:CodeHd X.base c P)(hcl:closureFor scope X.env=pure clos)(hB:BltOk X)(hdef:defaultsOf params X.env=([],[]))
  (h:∀f c' ctv H' s',Inv X ((f,kla_obj "<lambda>" q params body scope clos ((X.mg "__name__").getD .none) c' ctv)::pins) σ H' s'→(H'=H∨H c'=none∧H'=upd H c' (.cod q))→H' c'=some (.cod q)→R (.ref f) s') :
  wpAny (model X.prog X.w) X.A (eval (.Lambda params body scope pos) X.env) R E s:=by
 subst hq
 obtain⟨qs,eP,tr,cs⟩:=(show ObjOk X.prog X.w H s.heap P (.lam _) from I.hok P _ hP)
 have nP:∀b o,X.base.get? b=some o→b≠P:=fun b o e z=>by
  have:=(I.bs b o e).2
  rw[z,hP] at this;cases this
 obtain⟨bm,ob,b1,b2,b3,b4,b5⟩:=hB
 have bA:s.heap.BuiltinsAt X.mg P:=⟨bm,ob,b1,b2,b3,nP bm ob b4,I.bk bm ob b4,b5⟩
 have gl:=I.ok.mod.glob.keeps I.bk
 have gP:mainGlobals≠P:=by
  obtain⟨o,es,ep,e,_⟩:=I.ok.mod.glob
  exact nP _ _ e
 have lL:=I.lt
 refine kla_eval hdef ?_
 cases hf:codeAmong pos qs.toList with
 | none =>
  refine kla_makeFunction (mg:=X.mg) hcl I.ok.glob gl hcode (C.keeps I.bk) eP tr hf gP bA fun c' ctv h' tk hx hge hlt hrec htb=>?_
  have hc':H c'=none:=I.hok.fresh hge
  have sz:s.heap.objs.size≤h'.objs.size:=Nat.le_trans hge (Nat.le_of_lt hlt)
  have nc:∀b o,H b=some o→b≠c':=fun b o e z=>by rw[z,hc'] at e;cases e
  have cne:c'≠P:=fun z=>nc P _ hP z.symm
  have pu:∀{b:Addr}{o:Obj}{n:Obj},h'.get? b=some o→(h'.push n).get? b=some o:=fun e=>Heap.get?_push_of_some _ e
  have un:Un X.fs [] H (upd H c' (.cod (X.env.qual ++ "<lambda>"))) s.heap (h'.push (kla_obj "<lambda>" (X.env.qual ++ "<lambda>") params body scope clos ((X.mg "__name__").getD .none) c' ctv)):=by
   have kp:∀b o,s.heap.get? b=some o→H b=none→(h'.push (kla_obj "<lambda>" (X.env.qual ++ "<lambda>") params body scope clos ((X.mg "__name__").getD .none) c' ctv)).get? b=some o:=fun b o e n=>pu (hx b o (fun z=>by rw[z,hP] at n;cases n) e)
   refine⟨fun b o e n _ _=>kp b o e n,fun b o e n _ _=>⟨o.slots,kp b o e n⟩,fun b o e n _=>?_,fun b o e _=>?_,fun b xs e=>?_,fun b o u e=>?_,fun b ps e=>⟨#[],?_⟩⟩
   ·rw[zN (Nat.ne_of_lt (Nat.lt_of_lt_of_le (Heap.lt_size e) hge))];exact n
   ·by_cases z:b=P
    ·subst z;exact⟨_,pu htb⟩
    ·exact⟨o,pu (hx b o z e)⟩
   ·rw[zN (nc b _ e)];exact e
   ·rw[zN (nc b _ e)];exact e
   ·rw[zN (nc b _ e),e];simp
  have ok:HOk X.prog X.w (upd H c' (.cod (X.env.qual ++ "<lambda>"))) (h'.push (kla_obj "<lambda>" (X.env.qual ++ "<lambda>") params body scope clos ((X.mg "__name__").getD .none) c' ctv)):=fun b o e=>by
   by_cases zc:b=c'
   ·subst zc
    rw[zR] at e
    cases e
    exact hrec.push _
   ·rw [zN zc] at e
    by_cases zP:b=P
    ·subst zP
     rw[hP] at e
     cases e
     refine⟨_,pu htb,?_,fun pos' cv z=>?_⟩
     ·rw[Array.toList_append];exact triples_snoc ⟨_,_,rfl⟩ ⟨_,_,rfl⟩ tr
     ·rw [Array.toList_append] at z
      rcases among_snoc ⟨_,_,rfl⟩ ⟨_,_,rfl⟩ tr z with z|rfl
      ·obtain⟨d,e1,e2⟩:=cs pos' cv z
       exact⟨d,e1,by rw[zN (nc d _ e2)];exact e2⟩
      ·exact⟨c',rfl,zR⟩
    ·refine(I.hok b o e).stay (fun d u hd r=>pu (hx d u ?_ r)) (fun d r=>by rw[zN (nc d _ r)];exact r) fun d xs r=>by rw[zN (nc d _ r)];exact r
     rcases hd with rfl|hd
     ·exact zP
     ·rintro rfl;rw[hP] at hd;cases hd
  have I1:=I.un (t':=tk) un ok
  have fN:upd H c' (.cod (X.env.qual ++ "<lambda>")) h'.objs.size=none:=by rw[zN (Nat.ne_of_gt hlt)];exact I.hok.fresh sz
  exact h h'.objs.size c' ctv _ _ (I1.pin1 (Heap.get?_push_size _ rfl) fN (Nat.ne_of_gt (Nat.lt_of_lt_of_le lL sz)) (I.nofs sz) fun v z=>nomatch z) (.inr ⟨hc',rfl⟩) zR
 | some cv =>
  obtain⟨c',rfl,hc'⟩:=cs pos cv hf
  refine kla_makeFunctionHit (mg:=X.mg) hcl I.ok.glob gl hcode (C.keeps I.bk) eP tr hf bA fun ctv h' tk hk hsz=>?_
  have I1:Inv X pins σ H {s with heap:=h'.push (kla_obj "<lambda>" (X.env.qual ++ "<lambda>") params body scope clos ((X.mg "__name__").getD .none) c' ctv),toks:=tk}:=I.kept (t':=tk) fun b o e=>Heap.get?_push_of_some _ (hk b o e)
  exact h h'.objs.size c' ctv H _ (I1.pin1 (Heap.get?_push_size _ rfl) (I.hok.fresh hsz) (Nat.ne_of_gt (Nat.lt_of_lt_of_le lL hsz)) (I.nofs hsz) fun v z=>nomatch z) (.inl rfl) hc'
end
end L2
namespace L2
open PySem PySem.W PySem.Spec PySem.Calls PyProof.Rows
def cxLam (X:Cx)(q:Str)(scope:Scope)(f c':Addr)(p:Str)(caps:List Nat)(s:Shared)(H:Hp):Cx where
 prog:=X.prog
 w:=X.w
 K:=X.K
 mg:=X.mg
 base:=X.base
 A:=X.A.deeper (envX q scope s.heap.objs.size f (.ref c') (closOf scope X.env))
 N:=capN X [p] caps
 s₀:=s
 H₀:=H
 env:=envX q scope s.heap.objs.size f (.ref c') (closOf scope X.env)
 outer:=X.stack
 stack:=envX q scope s.heap.objs.size f (.ref c') (closOf scope X.env)::X.stack
 ex:=[]
 calm:=true
 fn:=fun _=>false
 pn:=[]
 xe:=fun _ _=>False
section
variable {X:Cx}{pins:List (Addr×Obj)}{σ:St}{H:Hp}{s:Shared}{q p:Str}{scope:Scope}{f c':Addr}{caps:List Nat}{x:V}{u:Value}
theorem inv_lam {h₁:Heap}{tk:Nat}(I:Inv X pins σ H s)(ok:CompOk X scope caps)(hp:scope.names.lookup p=some .local)(nc:∀y∈scope.names,y.2≠.cell)(hh:X.A.handled=none)(ru:RelV x u)(hns:h₁.Ns s.heap.objs.size (fun y=>[(p,u)].reverse.lookup y))(hk:∀b o,s.heap.get? b=some o→h₁.get? b=some o) :
  Inv (cxLam X q scope f c' p caps s H) [] (some x::caps.map fun i=>(σ[i]?).getD none) H {s with heap:=h₁,toks:=tk}:=by
 have hcl:=ok.cells I
 have clin:∀y c,(closOf scope X.env).lookup y=some c→X.env.cells.lookup y=some c:=fun y c e=>(closOf_mem hcl (y,c) (PySem.mem_of_lookup e)).1
 have noA:∀b:Addr,b∉(cxLam X q scope f c' p caps s H).ex:=fun b z=>absurd (show b∈([]:List Addr) from z) (by simp)
 refine ⟨⟨I.ok.mod,ok.kind,rfl,rfl,Nat.le_refl _,fun y z c h1 h2=>I.ok.inj y z c (clin y c h1) (clin z c h2),fun y hy=>?_,fun y c z _=>(by cases z),fun _=>hh,Around.frames_deeper I.ok.frames,.inr ⟨rfl,rfl⟩,fun b z=>absurd z (noA b),I.bs,Nat.le_trans I.ok.bsz I.sz,fun b _ _=>noA b,fun b z=>absurd z (noA b),I.stack,I.stkFree⟩,
  rfl,I.bare,Un.kept hk,⟨_,hns,fun i y v h1 h2 h3=>?_⟩,fun y c h=>?_,I.hok.fresh (Nat.le_refl _),fun y c h=>I.freeC y c (clin y c h),fun p hp=>absurd (show p∈([]:List (Addr×Obj)) from hp) (by simp),I.hok.kept hk,?_⟩
 ·have hy:scope.names.lookup y=some .cell∨scope.names.lookup y=some .free:=hy
  rcases hy with hy|hy
  ·exact absurd rfl (nc _ (PySem.mem_of_lookup hy))
  ·exact closOf_has (PySem.mem_of_lookup hy)
 ·cases i with
  | zero =>
   cases h1
   cases h2
   exact⟨u,ru,.inl ⟨hp,by simp⟩⟩
  | succ i =>
   have h1:(caps.map fun i=>X.N.getD i Str.empty)[i]? = some y:=h1
   have h2:(caps.map fun i=>(σ[i]?).getD none)[i]? = some (some v):=h2
   rw[List.getElem?_map] at h1 h2
   cases e:caps[i]? with
   | none=>rw[e] at h1;cases h1
   | some j =>
    rw[e] at h1 h2
    obtain⟨y',n1,n2⟩:=ok.caps j (List.mem_of_getElem? e)
    have ey:y=y':=by
     have:=Option.some.inj h1
     rw[← this]
     show X.N.getD j Str.empty=_
     rw[List.getD_eq_getElem?_getD,n1];rfl
    subst ey
    have es:σ[j]? = some (some v):=by
     have this:(σ[j]?).getD none=some v:=Option.some.inj h2
     cases q:σ[j]? with
     | none=>rw[q] at this;cases this
     | some o=>rw[q] at this;rw[show o=some v from this]
    have kf:=ok.free (y,.free) (PySem.mem_of_lookup n2) rfl
    obtain⟨m,_,lk⟩:=I.loc
    obtain⟨u',r',L⟩:=lk j y v n1 es (by rcases kf with k|k;exact .inr (.inl k);exact .inr (.inr k))
    refine⟨u',r',.inr ⟨.inr n2,?_⟩⟩
    rcases L with⟨k,_⟩|⟨_,c,e1,e2⟩
    ·rcases kf with z|z <;>(rw[show X.env.kindOf y=_ from k] at z;cases z)
    ·obtain⟨c2,e3⟩:=closOf_has (env:=X.env) (PySem.mem_of_lookup n2)
     have:=clin y c2 e3
     rw[e1] at this
     cases this
     exact⟨c,e3,e2.keeps hk⟩
 ·obtain⟨v,e⟩:=I.cell y c (clin y c h)
  exact⟨v,e.keeps hk⟩
 ·show(some x::caps.map _).length=(capN X [p] caps).length
  unfold capN
  rw[List.length_cons,List.length_append,List.length_map,List.length_map];show _=1+_;omega
theorem lam_call {params:Arguments}{body:Expr}{pm ctv:Value}{te:TE}{Q:VK}(I:Inv X pins σ H s)(hf:(f,kla_obj "<lambda>" q params body scope (closOf scope X.env) pm c' ctv)∈pins)(hc:H c'=some (.cod q))(ok:CompOk X scope caps)(hp:scope.names.lookup p=some .local)(nc:∀y∈scope.names,y.2≠.cell)(hh:X.A.handled=none)(hroom:X.A.depth<recursionLimit)
  (hbind:bindArgs (kla_fn "<lambda>" q params body scope (closOf scope X.env) pm (.ref c') ctv) ⟨[u],[]⟩=pure [(p,u)]) (hco:scope.isCoroutine=false) (hgen:scope.isGenerator=false) (ru:RelV x u) (hb:PE (cxLam X q scope f c' p caps s H) body te) (h:te (some x::caps.map fun i=>(σ[i]?).getD none) H Q) :
  wpAny (model X.prog X.w) X.A (call (.ref f) [u]) (EP X pins σ Q) (fun _ _=>False) s:=by
 have pf:=I.pin _ (List.mem_append_right _ hf)
 have hcd:s.heap.CodeRec (.ref c') q:=(show ObjOk X.prog X.w H s.heap c' (.cod q) from I.hok c' _ hc)
 refine wpAny_call (kla_callFunE hroom pf.1 rfl hco hgen rfl hcd ?_)
 rw[hbind]
 refine wpAny_pure (wpAny_newFunctionEnv nc (fun y hy=>by rw[List.mem_singleton.mp hy];exact hp) (fun h₁ hns hsb=>⟨?_,?_⟩) ok.kind)
 ·exact I.nolimit.fresh _ hsb
 ·show codeAny _ _ (.expr body (envX q scope s.heap.objs.size f (.ref c') (closOf scope X.env))) _ _
  have hk₁:∀b o,s.heap.get? b=some o→h₁.get? b=some o:=fun b o e=>hsb.extBut b o (Nat.ne_of_lt (Heap.lt_size e)) (Heap.get?_push_of_some _ e)
  have I1:=inv_lam (q:=q) (f:=f) (c':=c') (tk:=s.toks+1) I ok hp nc hh ru hns hk₁
  refine kla_codeExpr (wpAny_mono (hb [] _ _ H Q I1 h) (fun v s' ⟨y,H',I2,rv,q2⟩=>?_) fun _ _ z=>z.elim)
  exact I.after ⟨y,H',I2.os,I2.bare,I2.base,I2.hok,rv,q2⟩
end
end L2
namespace L2
open PySem PySem.W PySem.Spec PySem.Calls PyProof.Rows
def kqL (kb:TE)(caps:List Nat)(q:Str)(σ:St)(c':Addr):V→Hp→VK→Prop:=fun x H Q=>H c'=some (.cod q)∧kb (some x::caps.map fun i=>(σ[i]?).getD none) H Q
def tKey (Sq:Addr→List V→Hp→Prop)(lt:Int→Int→Bool)(ta:TA)(kb:TE)(caps:List Nat)(P:Addr)(q:Str):TE:=fun σ H Q=>ta σ H fun vs H1=>∃a x0 r,vs=[.ref a]∧Sq a (x0::r) H1∧H1 P=some (.lam q)∧∀c' H2,(H2=H1∨H1 c'=none∧H2=upd H1 c' (.cod q))→H2 c'=some (.cod q) →
 Sq a (x0::r) H2∧kqL kb caps q σ c' x0 H2 fun v H'=>∃k,v=.int k∧Sq a (x0::r) H'∧tBest lt (kqL kb caps q σ c') (Sq a (x0::r)) x0 k r H' Q
section
variable {X:Cx}{e body:Expr}{ta:TA}{kb:TE}{scope:Scope}{params:Arguments}{np lpos pos:Pos}{caps:List Nat}{P c:Addr}{q p:Str}
structure LamIn (X:Cx)(params:Arguments)(body:Expr)(scope:Scope)(caps:List Nat)(p q:Str)(P:Addr)(kb:TE):Prop where
 ok:CompOk X scope caps
 par:scope.names.lookup p=some .local
 ncell:∀y∈scope.names,y.2≠.cell
 co:scope.isCoroutine=false
 gen:scope.isGenerator=false
 qual:X.env.qual ++ "<lambda>" = q
 code:∃c,X.env.code=.ref c∧CodeHd X.base c P
 blt:BltOk X
 dflt:defaultsOf params X.env=([],[])
 bind:∀(cl:List (Str×Addr)) (pm cd ct u:Value),bindArgs (kla_fn "<lambda>" q params body scope cl pm cd ct) ⟨[u],[]⟩=pure [(p,u)]
 room:X.A.in1.depth<recursionLimit
 body:∀(f c':Addr) (s:Shared) (H:Hp),PE (cxLam X.in1 q scope f c' p caps s H) body kb
theorem LamIn.key {xs:List V}{σ:St}{f c':Addr}{pm ctv:Value}(L:LamIn X params body scope caps p q P kb)(hd:X.A.handled=none) :
  KeyOk X [(f,kla_obj "<lambda>" q params body scope (closOf scope X.env) pm c' ctv)] σ f xs (kqL kb caps q σ c') :=
 fun x pins s H u Q hb _ I ru h=>lam_call (X:=X.in1) (pm:=pm) (ctv:=ctv) I (hb _ List.mem_cons_self) h.1 ⟨L.ok.kind,L.ok.ncell,L.ok.locs,L.ok.free,L.ok.caps⟩ L.par L.ncell hd L.room (L.bind _ _ _ _ _) L.co L.gen ru (L.body f c' s H) h.2
theorem pe_minL (L:LamIn X params body scope caps p q P kb)(hc:X.calm=true)(hg:Gl X "min")(hm:X.mg "min" = none)(ha:PA X [e] ta){kp:Pos}(hst:starEach [e] X.env=(false,eval e X.env)::starEach [] X.env:=by rfl) :
  PE X (.Call (.Name "min" np) [e] [⟨some "key", .Lambda params body scope lpos,kp⟩] pos) (tKey (fun a xs H=>SqL X.K H a xs) (fun a b=>decide (a<b)) ta kb caps P q):=by
 intro pins s σ H Q I h
 have hd:=I.ok.hd hc
 obtain⟨c,hcode,C⟩:=L.code
 refine wpAny_Call_Name_kw (ld_blt I hg hm boot_min ?_ (by decide) (by decide))
 refine callWith_kw (thn (ha pos pins s σ H _ I h) fun us s1 hq41=>?_) (by rw[hst];rfl) (by rw[hst];rfl)
 obtain⟨vs,H1,I1,r1,a,x0,r,ev,sq,hP,k⟩:=hq41
 subst ev
 obtain⟨u,rfl,ru⟩:=vals1 r1
 cases ru
 refine kws_cons ?_
 refine lam_make I1 hP L.qual hcode C (closureFor_eq (L.ok.cells I1)) L.blt L.dflt fun f c' ctv H2 s2 I2 hH hcd=>kws_nil ?_
 obtain⟨sq2,k0⟩:=k c' H2 hH hcd
 obtain⟨its,rv,pl,hz⟩:=I2.list sq2
 have I3:=min_call (X:=X) (bp:=[(f,kla_obj "<lambda>" q params body scope (closOf scope X.env) ((X.mg "__name__").getD .none) c' ctv)]) (v:=.ref a) (oit:={cls:=.type "list_iterator", data:=.fields #[.ref a,.int 0 0]}) I2.ok (fun Q E hQ=>wpAny_pyIter_list pl.isList hQ) (nx_list (X:=X.in1) hc (a:=a)) (L.key hd) (fun z hz=>by rw[List.mem_singleton.mp hz];exact List.mem_cons_self) rfl I2 ⟨_,Heap.get?_push_of_some _ (Heap.get?_push_size _ rfl),rfl,rfl⟩ sq2 k0
 exact thn I3 fun u s' ⟨v,H',I4,rv,qv⟩=>⟨v,H',I4.pins_of fun z hz=>I4.pin z (List.mem_append_right _ (List.mem_cons_of_mem _ hz)),rv,qv⟩
theorem pe_maxT (L:LamIn X params body scope caps p q P kb)(hc:X.calm=true)(hg:Gl X "max")(hm:X.mg "max" = none)(ha:PA X [e] ta){kp:Pos}(hst:starEach [e] X.env=(false,eval e X.env)::starEach [] X.env:=by rfl) :
  PE X (.Call (.Name "max" np) [e] [⟨some "key", .Lambda params body scope lpos,kp⟩] pos) (tKey (fun a xs H=>SqT X.K H a xs) (fun a b=>decide (b<a)) ta kb caps P q):=by
 intro pins s σ H Q I h
 have hd:=I.ok.hd hc
 obtain⟨c,hcode,C⟩:=L.code
 refine wpAny_Call_Name_kw (ld_blt I hg hm boot_max ?_ (by decide) (by decide))
 refine callWith_kw (thn (ha pos pins s σ H _ I h) fun us s1 hq42=>?_) (by rw[hst];rfl) (by rw[hst];rfl)
 obtain⟨vs,H1,I1,r1,a,x0,r,ev,sq,hP,k⟩:=hq42
 subst ev
 obtain⟨u,rfl,ru⟩:=vals1 r1
 cases ru
 refine kws_cons ?_
 refine lam_make I1 hP L.qual hcode C (closureFor_eq (L.ok.cells I1)) L.blt L.dflt fun f c' ctv H2 s2 I2 hH hcd=>kws_nil ?_
 obtain⟨sq2,k0⟩:=k c' H2 hH hcd
 obtain⟨its,rv,pl,hz⟩:=I2.tuple sq2
 have I3:=max_call (X:=X) (bp:=[(f,kla_obj "<lambda>" q params body scope (closOf scope X.env) ((X.mg "__name__").getD .none) c' ctv)]) (v:=.ref a) (oit:={cls:=.type "tuple_iterator", data:=.fields #[.ref a,.int 0 0]}) I2.ok (fun Q E hQ=>wpAny_pyIter_tuple pl hQ) (nx_tuple (X:=X.in1) hc (a:=a)) (L.key hd) (fun z hz=>by rw[List.mem_singleton.mp hz];exact List.mem_cons_self) rfl I2 ⟨_,Heap.get?_push_of_some _ (Heap.get?_push_size _ rfl),rfl,rfl⟩ sq2 k0
 exact thn I3 fun u s' ⟨v,H',I4,rv,qv⟩=>⟨v,H',I4.pins_of fun z hz=>I4.pin z (List.mem_append_right _ (List.mem_cons_of_mem _ hz)),rv,qv⟩
end
end L2
namespace L2
open PySem PySem.W PySem.Spec PySem.Calls PyProof.Rows
def bestD (lt:Int→Int→Bool)(fk:D→Rs D):D→Int→List D→Rs D
 | b,_,[]=>.ok b
 | b,k,x::r=>match fk x with
  | .ok (.int k')=>if lt k' k=true then bestD lt fk x k' r else bestD lt fk b k r
  | _=>.no
def keyD (lt:Int→Int→Bool)(fk:D→Rs D):List D→Rs D
 | []=>.no
 | x::r=>match fk x with
  | .ok (.int k)=>bestD lt fk x k r
  | _=>.no
def unL:D→Option (List D)
 | .lst ds=>some ds
 | _=>none
def unT:D→Option (List D)
 | .tup ds=>some ds
 | _=>none
def ltL (a b:Int):Bool:=decide (a<b)
def ltG (a b:Int):Bool:=decide (b<a)
def fKey (un:D→Option (List D))(lt:Int→Int→Bool)(fa fb:Rho→Rs D)(caps:List Nat):Rho→Rs D:=fun ρ=>(fa ρ).bind fun d=>match un d with
 | some ds=>keyD lt (fun x=>fb ((capR 1 caps ρ).set 0 (.fz x))) ds
 | none=>.no
theorem key_inv {lt:Int→Int→Bool}{fk:D→Rs D}{x:D}{r:List D}{A:Rs D}(h:(match fk x with | .ok (.int k)=>bestD lt fk x k r|_=>.no)=A)(hn:A≠.no):∃k,fk x=.ok (.int k)∧bestD lt fk x k r=A:=by
 split at h
 ·rename_i k e;exact⟨k,e,h⟩
 ·exact absurd h.symm hn
section
variable {K:PySem.W.Frag}{cl:Nat→Addr}{H0 F0 F1:Hp}{ρ:Rho}{σ:St}{caps:List Nat}{q:Str}{c':Addr}{fb:Rho→Rs D}{lt:Int→Int→Bool}{Sq:Hp→Prop}{Q:VK}
theorem key_one {x:V}{dx:D}{k:Int}{H F:Hp}{W:VK}(R:Rl K cl H0 F0 ρ σ H F)(hc:H c'=some (.cod q))(qx:Dt K cl F x dx)(e:fb ((capR 1 caps ρ).set 0 (.fz dx))=.ok (.int k))(h:∀H' F',Gr F H F' H'→W (.int k) H'):kqL (tDE K cl E0 fb) caps q σ c' x H W:=by
 refine⟨hc,H,F,_,F,(R.cap [Str.empty] caps).set (i:=0) qx,?_⟩
 show OutE K cl E0 H F H (fb ((capR 1 caps ρ).set 0 (.fz dx))) W
 rw[e]
 intro v H' F' g qv
 cases qv
 exact h H' F' g
theorem best_ok (hS:∀H',Same F1 H'→Sq H'):∀(r:List V) (ds:List D) (b:V) (bd:D) (k:Int) (d:D) (H F:Hp),Rl K cl H0 F0 ρ σ H F→Same F1 F→H c'=some (.cod q)→Dts K cl F r ds→Dt K cl F b bd→bestD lt (fun x=>fb ((capR 1 caps ρ).set 0 (.fz x))) bd k ds=.ok d →
  (∀v H' F',Gr F H F' H'→Dt K cl F' v d→Q v H')→tBest lt (kqL (tDE K cl E0 fb) caps q σ c') Sq b k r H Q
 | [],_,b,bd,k,d,H,F,R,s1,hc,.nil,qb,hd,hQ=>by
  unfold bestD at hd
  cases hd
  exact hQ b H F (Gr.refl R.fh) qb
 | x :: r,_,b,bd,k,d,H,F,R,s1,hc,.cons (d:=dx) (ds:=ds) qx qr,qb,hd,hQ=>by
  unfold bestD at hd
  split at hd
  ·rename_i k' e
   unfold tBest
   refine key_one R hc qx e fun H' F' g=>⟨k',rfl,hS H' ((s1.trans g.ff).trans g.fh),?_⟩
   have R':=R.grow g
   have hQ':∀v H2 F2,Gr F' H' F2 H2→Dt K cl F2 v d→Q v H2:=fun v H2 F2 g2=>hQ v H2 F2 (g.trans g2)
   split
   ·rename_i hl
    rw[if_pos hl] at hd
    exact best_ok hS r ds x dx k' d H' F' R' (s1.trans g.ff) (g.hh _ _ hc) (qr.mono g.ff) (qx.mono g.ff) hd hQ'
   ·rename_i hl
    rw[if_neg hl] at hd
    exact best_ok hS r ds b bd k d H' F' R' (s1.trans g.ff) (g.hh _ _ hc) (qr.mono g.ff) (qb.mono g.ff) hd hQ'
  ·cases hd
theorem keys_ok {E:XK}{H F:Hp}{vs:List V}{ds:List D}{P a:Addr}{S:Addr→List V→Hp→Prop}(hS:∀H',Same F H'→S a vs H')(R:Rl K cl H0 F0 ρ σ H F)(hP:H P=some (.lam q))(qs:Dts K cl F vs ds)(o:OutE K cl E H0 F H (keyD lt (fun x=>fb ((capR 1 caps ρ).set 0 (.fz x))) ds) Q)(hne:∀n,keyD lt (fun x=>fb ((capR 1 caps ρ).set 0 (.fz x))) ds≠.ex n) :
  ∃ x0 r,S a (x0::r) H∧H P=some (.lam q)∧∀c' H2,(H2=H∨H c'=none∧H2=upd H c' (.cod q))→H2 c'=some (.cod q) →
   S a (x0::r) H2∧kqL (tDE K cl E0 fb) caps q σ c' x0 H2 fun v H'=>∃k,v=.int k∧S a (x0::r) H'∧tBest lt (kqL (tDE K cl E0 fb) caps q σ c') (S a (x0::r)) x0 k r H' Q:=by
 cases qs with
 | nil=>exact o.elim
 | cons qx qr =>
  rename_i x0 dx r ds
  refine⟨x0,r,hS H R.fh,hP,fun c' H2 h2 hc=>?_⟩
  have g2:Gr F H F H2:=by
   rcases h2 with rfl|⟨hn,rfl⟩
   ·exact Gr.refl R.fh
   ·exact Gr.newO R.fh hn
  have R2:=R.grow g2
  refine⟨hS H2 R2.fh,?_⟩
  unfold keyD at o hne
  cases e:fb ((capR 1 caps ρ).set 0 (.fz dx)) with
  | ex n=>simp only[e] at o;exact o.elim
  | no=>simp only[e] at o;exact o.elim
  | ok kd =>
   cases kd with
   | int k =>
    simp only[e] at o hne
    refine key_one R2 hc qx e fun H' F' g=>⟨k,rfl,hS H' (g.ff.trans g.fh),?_⟩
    cases e2:bestD lt (fun x=>fb ((capR 1 caps ρ).set 0 (.fz x))) dx k ds with
    | ok d =>
     rw[e2] at o
     exact best_ok (F1:=F) (fun H3 s=>hS H3 s) r ds x0 dx k d H' F' (R2.grow g) g.ff (g.hh _ _ hc) (qr.mono g.ff) (qx.mono g.ff) e2 fun v H3 F3 g3 q3=>o v H3 F3 (g2.trans (g.trans g3)) q3
    | ex n=>exact absurd e2 (hne n)
    | no=>rw[e2] at o;exact o.elim
   | _=>simp only[e] at o;exact o.elim
end
theorem bestD_noex {lt:Int→Int→Bool}{fk:D→Rs D}:∀(ds:List D) (b:D) (k:Int) (n:Nat),bestD lt fk b k ds≠.ex n
 | [],b,k,n=>fun h=>by unfold bestD at h;cases h
 | x::r,b,k,n=>fun h=>by
  unfold bestD at h
  split at h
  ·split at h
   ·exact bestD_noex r _ _ n h
   ·exact bestD_noex r _ _ n h
  ·cases h
theorem keyD_noex {lt:Int→Int→Bool}{fk:D→Rs D}{ds:List D}(n:Nat):keyD lt fk ds≠.ex n:=fun h=>by
 cases ds with
 | nil=>cases h
 | cons x r =>
  obtain⟨k,_,e⟩:=key_inv (lt:=lt) (fk:=fk) (x:=x) (r:=r) (A:=.ex n) (show(match fk x with | .ok (.int k)=>bestD lt fk x k r|_=>.no)=.ex n from h) (fun z=>nomatch z)
  exact bestD_noex r _ _ n e
section
variable {X:Cx}{cl:Nat→Addr}{E:XK}{e body:Expr}{fa fb:Rho→Rs D}{scope:Scope}{params:Arguments}{np lpos pos kp:Pos}{caps:List Nat}{P:Addr}{q p:Str}
theorem fKey_out {H0 F0 H F:Hp}{ρ:Rho}{σ:St}{Q:VK}{lt:Int→Int→Bool}{un:D→Option (List D)}{S:Addr→List V→Hp→Prop}{K:PySem.W.Frag}(R:Rl K cl H0 F0 ρ σ H F)(hP:H P=some (.lam q))(hu:∀d ds F v,un d=some ds→Dt K cl F v d→∃a vs,v=.ref a∧Dts K cl F vs ds∧∀H',Same F H'→S a vs H')
  (o:OutE K cl E H0 F H (fKey un lt fa fb caps ρ) Q):OutA K cl E H0 F H (zj fa zB ρ) fun vs H1=>∃a x0 r,vs=[.ref a]∧S a (x0::r) H1∧H1 P=some (.lam q)∧∀c' H2,(H2=H1∨H1 c'=none∧H2=upd H1 c' (.cod q))→H2 c'=some (.cod q) →
   S a (x0::r) H2∧kqL (tDE K cl E0 fb) caps q σ c' x0 H2 fun v H'=>∃k,v=.int k∧S a (x0::r) H'∧tBest lt (kqL (tDE K cl E0 fb) caps q σ c') (S a (x0::r)) x0 k r H' Q:=by
 unfold fKey at o
 unfold zj zB
 cases e1:fa ρ with
 | ex n=>rw[e1] at o;exact o
 | no=>rw[e1] at o;exact o.elim
 | ok d =>
  rw[e1] at o
  have o:OutE K cl E H0 F H (match un d with|some ds=>keyD lt (fun x=>fb ((capR 1 caps ρ).set 0 (.fz x))) ds|none=>.no) Q:=o
  show OutA K cl E H0 F H (.ok [d]) _
  intro us H1 F1 g qs
  cases qs with
  | cons qv qn =>
   cases qn
   cases e2:un d with
   | none=>rw[e2] at o;exact o.elim
   | some ds =>
    rw[e2] at o
    obtain⟨a,vs,rfl,qd,hS⟩:=hu d ds F1 _ e2 qv
    obtain⟨x0,r,k⟩:=keys_ok (P:=P) (q:=q) hS (R.grow g) (g.hh _ _ hP) qd (o.grow g) keyD_noex
    exact⟨a,x0,r,rfl,k⟩
theorem xe_minL (L:LamIn X params body scope caps p q P (tDE X.K cl E0 fb))(hP:X.H₀ P=some (.lam q))(hc:X.calm=true)(hg:Gl X "min")(hm:X.mg "min" = none)(ha:XE X cl E e fa)(hst:starEach [e] X.env=(false,eval e X.env)::starEach [] X.env) :
  XE X cl E (.Call (.Name "min" np) [e] [⟨some "key", .Lambda params body scope lpos,kp⟩] pos) (fKey unL ltL fa fb caps):=by
 obtain⟨t,pt,rt⟩:=(zf ha zq hst).ex
 intro pins s σ H Q I ⟨H0,F0,ρ,F,R,o⟩
 refine pe_minL L hc hg hm pt hst pins s σ H Q I (rt H0 F0 ρ σ H F _ R ?_)
 exact fKey_out R (I.base.tups P (.inr (.inr q)) hP) (fun d ds F v e qv=>by
  cases qv <;>simp[unL] at e
  rename_i a vs ds' sq qd
  subst e
  exact⟨a,vs,rfl,qd,fun H' s=>s.seq sq⟩) o
theorem xe_maxT (L:LamIn X params body scope caps p q P (tDE X.K cl E0 fb))(hP:X.H₀ P=some (.lam q))(hc:X.calm=true)(hg:Gl X "max")(hm:X.mg "max" = none)(ha:XE X cl E e fa)(hst:starEach [e] X.env=(false,eval e X.env)::starEach [] X.env) :
  XE X cl E (.Call (.Name "max" np) [e] [⟨some "key", .Lambda params body scope lpos,kp⟩] pos) (fKey unT ltG fa fb caps):=by
 obtain⟨t,pt,rt⟩:=(zf ha zq hst).ex
 intro pins s σ H Q I ⟨H0,F0,ρ,F,R,o⟩
 refine pe_maxT L hc hg hm pt hst pins s σ H Q I (rt H0 F0 ρ σ H F _ R ?_)
 exact fKey_out R (I.base.tups P (.inr (.inr q)) hP) (fun d ds F v e qv=>by
  cases qv <;>simp[unT] at e
  rename_i a vs ds' sq qd
  subst e
  exact⟨a,vs,rfl,qd,fun H' s=>s.seqT sq⟩) o
end
def Zt (L:List (Addr×Str))(H:Hp):Prop:=∀p∈L,H p.1=some (.lam p.2)
def spZ (L:List (Addr×Str))(sp:Sp):Sp:=fun vs H Q E=>Zt L H∧sp vs H Q E
theorem Zt.un {L:List (Addr×Str)}{fs ex:List Addr}{H H':Hp}{h h':Heap}(z:Zt L H)(u:Un fs ex H H' h h'):Zt L H':=fun p hp=>u.tups _ (.inr (.inr _)) (z p hp)
theorem Zt.same {L:List (Addr×Str)}{H H':Hp}(z:Zt L H)(s:Same H H'):Zt L H':=fun p hp=>s _ _ (z p hp)
abbrev Tbs:=List (Str×Addr×Addr)
def lamsOf (Ts:Tbs):List (Addr×Str):=Ts.map fun t=>(t.2.2,t.1 ++ ".<locals>." ++ "<lambda>")
theorem Zt.at {Ts:Tbs}{H:Hp}{x:Str}{c P:Addr}(z:Zt (lamsOf Ts) H)(hm:(x,c,P)∈Ts):H P=some (.lam (x ++ ".<locals>." ++ "<lambda>")):=z _ (List.mem_map.mpr ⟨_,hm,rfl⟩)
structure Zx (K:PySem.W.Frag)(mg:Str→Option Value)(base:Heap)(Ts:Tbs):Prop where
 kin:K.In base
 ns:base.Ns mainGlobals mg
 tab:∀t∈Ts,PySem.W.tabIn K t.1=some t.2∧CodeHd base t.2.1 t.2.2
 blt:∃bm o,mg "__builtins__" = some (.ref bm)∧bm≠builtinsNs∧bm≠mainGlobals∧base.get? bm=some o∧o.cls=.type "module" ∧ o.dict=some builtinsNs∧o.data=.plain
theorem Zx.code {K:PySem.W.Frag}{mg:Str→Option Value}{base:Heap}{Ts:Tbs}{x:Str}{st:Stmt}{ps:List Str}{c P:Addr}(z:Zx K mg base Ts)(d:Dn K mg x st ps)(hm:(x,c,P)∈Ts):d.fd.code=.ref c∧CodeHd base c P:=by
 obtain⟨ht,hc⟩:=z.tab _ hm
 obtain⟨oc,od,kV,doc,pm,an,cdv,ct,osl,e,lk,_⟩:=d.fn.ex
 exact⟨PySem.W.law_code z.kin z.ns ht d.mg (z.kin _ _ lk) rfl,hc⟩
section
variable {P:Program}{w:World}{K:PySem.W.Frag}{mg:Str→Option Value}{base:Heap}{x:Str}{st:Stmt}{N ps:List Str}{cl:Nat→Addr}
theorem Fun.okXc {qual:Str}{f:Addr}{fd:FuncData}{k:Nat}{sp:Sp}(F:Fun K x qual st f fd)(S:FnScope N ps (zm st))(len:∀vs H Q E,sp vs H Q E→vs.length=ps.length)
  (hbody:∀(A:Around) (outer:List Env) (s:Shared) (H:Hp) (vs:List V) (Q:VK) (E:XK),Room k (A.deeper (envOfC qual (zm st) s.heap.objs.size f fd.code))→sp vs H Q E →
   ∃t,PSs (cxOf (CX1 P w) P w K mg base N qual (zm st) f fd.code A outer s H E) (defBody st) t∧t {nx:=fun _ H'=>Q .non H',rt:=Q} (start N vs) H):FnOk P w K mg base (CX1 P w) (k+1) f fd ps sp:=by
 obtain⟨oc,od,kV,doc,pm,an,cdv,ct,osl,rfl,lk,hcd⟩:=F.ex
 exact fn_of lk hcd S len fun A outer s H vs Q E hr hsp=>hbody A outer s H vs Q E hr hsp
theorem fnDZ {L:List (Addr×Str)}(m n k:Nat)(g:Rho→Out)(cl:Nat→Addr)(d:Dn K mg x st ps)(S:FnScope N ps (zm st))
  (hb:∀(A:Around) (outer:List Env) (s:Shared) (H:Hp) (E:XK),Zt L H→Room k (A.deeper (envOfC x (zm st) s.heap.objs.size d.f d.fd.code))→XSs (cxOf (CX1 P w) P w K mg base N x (zm st) d.f d.fd.code A outer s H E) cl E (defBody st) g) (hm:N.length=m:=by rfl) (hn:ps.length=n:=by rfl):FnOk P w K mg base (CX1 P w) (k+1) d.f d.fd ps (spZ L (spD K cl (ye m g) n)):=by
 subst hm hn
 refine d.fn.okXc S (fun vs H Q E h=>h.2.choose_spec.choose_spec.2.2.1) fun A outer s H vs Q E hr h=>?_
 obtain⟨z,F,ds,sm,dq,hl,o⟩:=h
 refine⟨_,hb A outer s H E z hr,H,F,_,F,Rl.start (N:=N) sm dq,?_⟩
 unfold ye at o
 cases e:g (ds.map .fz++List.replicate (N.length - ds.length) .no) with
 | nx ρ=>rw[e] at o;exact fun σ H' F' R _=>o .non H' F' R.gr .non
 | rt d=>rw[e] at o;exact fun v H' F' gg q=>o v H' F' gg q
 | bk ρ=>rw[e] at o;exact o.elim
 | ct ρ=>rw[e] at o;exact o.elim
 | ex n=>rw[e] at o;exact o
 | no=>rw[e] at o;exact o
end
section
variable {X:Cx}{cl:Nat→Addr}{E:XK}{x:Str}{p pos:Pos}{e:Expr}{es:List Expr}{fs:Rho→Rs (List D)}{k k' n:Nat}{st:Stmt}{ps:List Str}{d:Dn X.K X.mg x st ps}{fn:List D→Rs D}{L:List (Addr×Str)}
theorem xe_callZ (hz:Zt L X.H₀)(G:FnOk X.prog X.w X.K X.mg X.base (CX1 X.prog X.w) k d.f d.fd ps (spZ L (spD X.K cl fn n)))(hr:Room k' X.A)(hx:Passes (CX1 X.prog X.w) X E)(ha:XA X cl E (e::es) fs)(he:starEach (e::es) X.env=(false,eval e X.env)::starEach es X.env)(hk:k≤k':=by decide)(hg:Gl X x:=by rfl)(hdb:(x == ("__debug__" : Str))=false:=by decide)(hpl:(backTo pos (starEach es X.env)).any (·.1)=false:=by rfl):XE X cl E (.Call (.Name x p) (e::es) [] pos) (fA (ari n fn) fs):=by
 obtain⟨t,pt,rt⟩:=ha.ex
 intro pins s σ H Q I ⟨H0,F0,ρ,F,R,o⟩
 refine pe_call G (hr.mono hk) hg d.mg d.fn.kp d.bd .nil hx pt hdb he hpl pins s σ H Q I (rt H0 F0 ρ σ H F _ R (OutA.fst o fun ds vs H1 F1 g q o1=>?_))
 unfold ari at o1
 split at o1
 ·rename_i hl
  rw[List.append_nil]
  have R1:=R.grow g
  refine⟨(hz.un I.base).same g.hh,F1,ds,R1.fh,q,by rw[q.length,hl],?_⟩
  cases e:fn ds with
  | ok d=>rw[e] at o1;exact o1
  | ex n=>rw[e] at o1;exact fun H' s=>o1 H' (R1.gr.hh.trans s)
  | no=>rw[e] at o1;exact o1
 ·exact o1.elim
end
section
variable {P:Program}{w:World}{K:PySem.W.Frag}{mg:Str→Option Value}{base:Heap}{x:Str}{st:Stmt}{N ps:List Str}{cl:Nat→Addr}{A:Around}{outer:List Env}{s:Shared}{H:Hp}{E:XK}{Ts:Tbs}{c Pt:Addr}{params:Arguments}{body:Expr}{scope:Scope}{caps:List Nat}{p:Str}{fb:Rho→Rs D}{k:Nat}
theorem lam_in {q:Str}(z:Zx K mg base Ts)(d:Dn K mg x st ps)(hm:(x,c,Pt)∈Ts)(hr:Room (k+2) (cxOf (CX1 P w) P w K mg base N x (zm st) d.f d.fd.code A outer s H E).A)(ok:CompOk (cxOf (CX1 P w) P w K mg base N x (zm st) d.f d.fd.code A outer s H E) scope caps)
  (chk:(decide (scope.names.lookup p=some .local)&&scope.names.all (fun y=>decide (y.2≠.cell)) && !scope.isCoroutine && !scope.isGenerator)=true)
  (hb:∀(f c':Addr) (s':Shared) (H':Hp),Room k ((cxLam (cxOf (CX1 P w) P w K mg base N x (zm st) d.f d.fd.code A outer s H E).in1 q scope f c' p caps s' H').A)→XE (cxLam (cxOf (CX1 P w) P w K mg base N x (zm st) d.f d.fd.code A outer s H E).in1 q scope f c' p caps s' H') cl E0 body fb)
  (hq:x ++ ".<locals>." ++ "<lambda>" = q) (hdf:defaultsOf params (cxOf (CX1 P w) P w K mg base N x (zm st) d.f d.fd.code A outer s H E).env=([],[]):=by rfl) (hbd:∀(cl:List (Str×Addr)) (pm cd ct u:Value),bindArgs (kla_fn "<lambda>" q params body scope cl pm cd ct) ⟨[u],[]⟩=pure [(p,u)]:=by intros;rfl) :
  LamIn (cxOf (CX1 P w) P w K mg base N x (zm st) d.f d.fd.code A outer s H E) params body scope caps p q Pt (tDE K cl E0 fb):=by
 simp only[Bool.and_eq_true,decide_eq_true_eq,List.all_eq_true,Bool.not_eq_true'] at chk
 obtain⟨h1,h2⟩:=z.code d hm
 exact⟨ok,chk.1.1.1,chk.1.1.2,chk.1.2,chk.2,hq,⟨c,h1,h2⟩,z.blt,hdf,hbd,hr.in1.depth,fun f c' s' H'=>hb f c' s' H' (hr.in1.deeper _)⟩
end
end L2
namespace L2
open PySem PySem.W PySem.Spec PySem.Calls PyProof.Rows
structure Lt (K:PySem.W.Frag)(h:Heap)(Ts:Tbs):Prop where
 tab:∀t∈Ts,PySem.W.tabIn K t.1=some t.2∧CodeHd h t.2.1 t.2.2∧h.get? t.2.2=some (tabObj #[])
 nd:(Ts.map (·.2.2)).Nodup
def lamH (Ts:Tbs)(H:Hp):Hp:=fun b=>match (lamsOf Ts).lookup b with
 | some q=>some (.lam q)
 | none=>H b
theorem mem_look:∀{l:List (Addr×Str)}{b:Addr}{q:Str},l.lookup b=some q→(b,q)∈l
 | [],_,_,e=>by cases e
 | (c,u)::r,b,q,e=>by
  rw[List.lookup_cons] at e
  cases hb:b == c with
  | true=>rw[hb] at e;cases e;rw[eq_of_beq hb];exact .head _
  | false=>rw[hb] at e;exact .tail _ (mem_look e)
theorem lams_mem {Ts:Tbs}{b:Addr}{q:Str}(h:(lamsOf Ts).lookup b=some q):∃t∈Ts,t.2.2=b∧q=t.1 ++ ".<locals>." ++ "<lambda>" := by
 have:=mem_look h
 obtain⟨t,ht,e⟩:=List.mem_map.mp this
 cases e
 exact⟨t,ht,rfl,rfl⟩
theorem lams_at:∀{Ts:Tbs}{t:Str×Addr×Addr},(Ts.map (·.2.2)).Nodup→t∈Ts→(lamsOf Ts).lookup t.2.2=some (t.1 ++ ".<locals>." ++ "<lambda>")
 | u :: r,t,nd,h=>by
  have nd':=List.nodup_cons.mp (show(u.2.2::r.map (·.2.2)).Nodup from nd)
  show List.lookup t.2.2 ((u.2.2,u.1 ++ ".<locals>." ++ "<lambda>")::lamsOf r)=_
  rw[List.lookup_cons]
  rcases List.mem_cons.mp h with rfl|h
  ·rw[beq_self_eq_true]
  ·have hne:(t.2.2 == u.2.2)=false:=by
    refine beq_eq_false_iff_ne.mpr fun e=>nd'.1 ?_
    rw[← e]
    exact List.mem_map.mpr ⟨t,h,rfl⟩
   rw[hne]
   exact lams_at nd'.2 h
theorem law_callL {P:Program}{w:World}{K:PySem.W.Frag}{mg mb:Str→Option Value}{CX:CXT}{k:Nat}{fa a:Addr}{fd:FuncData}{x:Str}{sp:Sp}{s₁:Shared}{vs:List Value}{ns:List Int}{Ts:Tbs}
  (KX:K.In s₁.heap) (hns:s₁.heap.Ns mainGlobals mg) (hb:s₁.heap.Ns builtinsNs mb) (hbb:∀x:Str,x ≠ "__name__" → mb x=bootBuiltins x) (hlim:s₁.heap.NoLimit) (hg:s₁.gens = #[])
  (hbm:∃bm ob,mg "__builtins__" = some (.ref bm)∧bm≠builtinsNs∧s₁.heap.get? bm=some ob∧ob.cls=.type "module" ∧ ob.dict=some builtinsNs∧ob.data=.plain) (hT:Lt K s₁.heap Ts) (hK:noTabs K=true)
  (ha:s₁.heap.get? a=some {cls:=.type "list", data:=.seq vs.toArray}) (hi:IntsAre vs ns) (hl:ns.length≤sizeLine) (hr:Room k callerA)
  (F:∀base:Heap,Zx K mg base Ts→FnOk P w K mg base CX k fa fd [x] (spZ (lamsOf Ts) sp)) (hbind:∀(s:Shared) (u:Value),BindsTo s fd ⟨[u],[]⟩ [(x,u)])
  (hsp:∀H:Hp,SqL K H a (ns.map V.int)→sp [.ref a] H (fun v _=>v=.bl true) fun _ _ _=>False)
  (hCX:∀H e s',CX [] H s₁ (fun _ _ _=>False) e s'→False) :
  codeAny (model P w) callerA (.call (.ref fa) ⟨[.ref a],[]⟩) (fun r s'=>r=.ok (.ret (.bool true))∧OldK s₁.heap s'.heap∧s'.os=s₁.os∧AllBare s'.gens) s₁:=by
 have rv:=vals_ints hi
 have lenV:=hi.length
 have atTab:∀{b:Addr}{q:Str},(lamsOf Ts).lookup b=some q→s₁.heap.get? b=some (tabObj #[])∧isCodeTable s₁.heap b:=fun {b q} e=>by
  obtain⟨t,ht,rfl,_⟩:=lams_mem e
  obtain⟨_,h2,h3⟩:=hT.tab t ht
  exact⟨h3,(h2.tab h3).isCodeTable⟩
 have noL:∀{b:Addr}{o:Obj},s₁.heap.get? b=some o→o≠tabObj #[]→(lamsOf Ts).lookup b=none:=fun {b o} e hn=>by
  cases q:(lamsOf Ts).lookup b with
  | none=>rfl
  | some u=>rw[(atTab q).1] at e;exact absurd (Option.some.inj e).symm hn
 have lT:∀{b:Addr}{o:Obj}{H0:Hp},s₁.heap.get? b=some o→o≠tabObj #[]→H0 b=none→lamH Ts H0 b=none:=fun {b o H0} e hn h=>by unfold lamH;rw[noL e hn];exact h
 have core:∀H0:Hp,Only H0→SqL K (lamH Ts H0) a (ns.map V.int)→HOk P w (lamH Ts H0) s₁.heap→(∀b,H0 b≠none→b=a)→(H0 a≠none→K.lookup a=none) →
   codeAny (model P w) callerA (.call (.ref fa) ⟨[.ref a],[]⟩) (fun r s'=>r=.ok (.ret (.bool true))∧OldK s₁.heap s'.heap∧s'.os=s₁.os∧AllBare s'.gens) s₁:=by
  intro H0 hO hS hok hA hK0
  have base_of:∀{b:Addr}{o:Obj},s₁.heap.get? b=some o→o≠tabObj #[]→H0 b=none→(hidT s₁.heap (lamH Ts H0)).get? b=some o:=fun e hn n=>hidT_get e (lT e hn n)
  have noA:∀{b:Addr}{o:Obj},s₁.heap.get? b=some o→(∀u n,o.data≠.seq u n)→H0 b=none:=fun {b o} e d=>by
   cases q:H0 b with
   | none=>rfl
   | some u =>
    have e':b=a:=hA b (by rw[q];simp)
    subst e'
    rw[ha] at e;cases e
    exact absurd rfl (d _ _)
  have nsK:∀{b:Addr}{m:Str→Option Value},s₁.heap.Ns b m→(hidT s₁.heap (lamH Ts H0)).Ns b m:=fun {b m} ⟨o,es,ep,e,d,r⟩=>⟨o,es,ep,base_of e (fun z=>by rw[z] at d;cases d) (noA e fun u n z=>by rw[d] at z;cases z),d,r⟩
  have hKb:K.In (hidT s₁.heap (lamH Ts H0)):=fun b o e=>base_of (KX b o e) (fun z=>by
   have h2:=List.all_eq_true.mp hK (b,o) (mem_of_lookupK e)
   subst z
   exact absurd (show false=true from h2) Bool.false_ne_true) (by
   cases q:H0 b with
   | none=>rfl
   | some u =>
    have e':b=a:=hA b (by rw[q];simp)
    subst e'
    rw[hK0 (by rw[q];simp)] at e;cases e)
  have hM:Mod K mg (hidT s₁.heap (lamH Ts H0)):=⟨hKb,nsK hns,⟨mb,nsK hb,hbb⟩,let ⟨mc,h1,h2⟩:=hlim;⟨mc,nsK h1,h2⟩⟩
  have e0:Env0 P w K mg (hidT s₁.heap (lamH Ts H0)) callerA [] s₁ (lamH Ts H0):=⟨rfl,hM,fun b o e=>of_hidT e,Nat.le_of_eq (hidT_size _ _),trivial,fun b hb=>absurd (show b∈([]:List Addr) from hb) (by simp),hok,.of_eq hg⟩
  have Z:Zx K mg (hidT s₁.heap (lamH Ts H0)) Ts:=by
   refine⟨hKb,nsK hns,fun t ht=>⟨(hT.tab t ht).1,?_⟩,?_⟩
   ·obtain⟨o,us,file,tf,flags,tg,inF,text,tt,e1,r1,r2,r⟩:=(hT.tab t ht).2.1
    exact⟨o,us,file,tf,flags,tg,inF,text,tt,base_of e1 (fun z=>by rw[z] at r1;cases r1) (noA e1 fun u n z=>by rw[r2] at z;cases z),r1,r2,r⟩
   ·obtain⟨bm,ob,h1,h2,h3,h4,h5,h6⟩:=hbm
    refine⟨bm,ob,h1,h2,fun z=>?_,base_of h3 (fun z=>by rw[z] at h4;cases h4) (noA h3 fun u n z=>by rw[h6] at z;cases z),h4,h5,h6⟩
    obtain⟨o,es,ep,e,d,r⟩:=hns
    rw[z,e] at h3;cases h3
    rw[d] at h6;cases h6
  have hz:Zt (lamsOf Ts) (lamH Ts H0):=fun p hp=>by
   obtain⟨t,ht,rfl⟩:=List.mem_map.mp hp
   show(match (lamsOf Ts).lookup t.2.2 with|some q=>some (HO.lam q)|none=>H0 t.2.2)=_
   rw[lams_at hT.nd ht]
  refine codeAny_mono ((F _ Z).run callerA [] s₁ (lamH Ts H0) ⟨[.ref a],[]⟩ [.ref a] [.ref a] _ _ hr e0 (hbind s₁ (.ref a)) (.cons rfl .nil) ⟨hz,hsp _ hS⟩) fun r s' h=>?_
  cases r with
  | error e=>exact(hCX _ e s' h).elim
  | ok fl =>
   cases fl with
   | next=>exact False.elim h
   | brk=>exact False.elim h
   | cont=>exact False.elim h
   | ret u =>
    obtain⟨v,H',os,bare,un,hok',r',q⟩:=h
    have q':v=.bl true:=q
    subst q'
    obtain rfl:u=Value.bool true:=r'
    have all:∀b o,s₁.heap.get? b=some o→asItWas s₁.heap s'.heap b o∧∃o',s'.heap.get? b=some o':=fun b o e=>by
     cases q:(lamsOf Ts).lookup b with
     | some l =>
      have hl:lamH Ts H0 b=some (.lam l):=by unfold lamH;rw[q]
      obtain⟨qs,e2,_⟩:=(show ObjOk P w H' s'.heap b (.lam l) from hok' b _ (un.tups b (.inr (.inr l)) hl))
      obtain⟨e3,tb⟩:=atTab q
      rw[e] at e3
      cases e3
      exact⟨.inr (.inl ⟨tb,rfl,#[],qs,rfl,by rw[Array.empty_append];exact e2⟩),_,e2⟩
     | none =>
      have hl:lamH Ts H0 b=H0 b:=by unfold lamH;rw[q]
      cases q2:H0 b with
      | none =>
       have:=un.keep b o e (hl.trans q2) (by intro z;exact absurd (show b∈([]:List Addr) from z) (by simp)) (by simp)
       exact⟨.inl this,_,this⟩
      | some u =>
       rcases hO b with z|⟨ob,xs,z⟩
       ·rw[q2] at z;cases z
       ·have z2:=un.frzs b ob _ (hl.trans z)
        obtain⟨e1,_⟩:=hok b _ (hl.trans z)
        obtain⟨e2,_⟩:=hok' b _ z2
        rw[e] at e1;cases e1
        exact⟨.inl e2,_,e2⟩
    exact⟨rfl,⟨fun b o e=>(all b o e).1,fun b o e=>(all b o e).2⟩,os,bare⟩
 have aL:(lamsOf Ts).lookup a=none:=noL ha (fun z=>by cases z)
 have okT:∀(H0:Hp),(∀b u,(lamsOf Ts).lookup b=none→H0 b=some u→ObjOk P w (lamH Ts H0) s₁.heap b u)→HOk P w (lamH Ts H0) s₁.heap:=fun H0 h b u z=>by
  unfold lamH at z
  split at z
  ·rename_i q e
   cases z
   exact⟨#[],(atTab e).1,trivial,fun pos cv z=>by cases z⟩
  ·rename_i e
   exact h b u e z
 cases hk:K.lookup a with
 | some o =>
  have e:=KX a o hk
  rw[ha] at e
  cases e
  refine core (fun _=>none) (fun _=>.inl rfl) (.inr ⟨_,vs.toArray,_,hk,rfl,rfl,rfl,by rw[List.size_toArray,lenV];exact hl,by simpa using rv⟩) (okT _ fun b u _ z=>by have z':(none:Option HO)=some u:=z;cases z') (fun b z=>absurd rfl z) fun z=>absurd rfl z
 | none =>
  refine core (fun b=>if b=a then some (.frz {cls:=.type "list", data:=.seq vs.toArray} (.lst (ns.map V.int))) else none) (fun b=>?_) (.inl (.inr ⟨{cls:=.type "list", data:=.seq vs.toArray},by unfold lamH;rw[aL];exact if_pos rfl⟩)) (okT _ fun b u _ z=>?_) (fun b z=>?_) fun _=>hk
  ·by_cases hb:b=a
   ·exact .inr ⟨_,_,if_pos hb⟩
   ·exact .inl (if_neg hb)
  ·by_cases hb:b=a
   ·have z':=(if_pos hb).symm.trans z
    cases z'
    subst hb
    exact⟨ha,by rw[List.length_map];exact hl,vs,_,rv,ha⟩
   ·have z':=(if_neg hb).symm.trans z
    cases z'
  ·by_cases hb:b=a
   ·exact hb
   ·exact absurd (if_neg hb) z
theorem lt_of {p:Program}{loose:List Str}{mean:ExcName→Option Value}{mg mb:Str→Option Value}{h:Heap}{K:PySem.W.Frag}{Ts:Tbs}(T:Top p loose mean mg mb h)(X:K.In h)(ht:∀t∈Ts,PySem.W.tabIn K t.1=some t.2)(hr:Ts.all (fun t=>((recsOf p).find? (fun e=>e.name == t.1)).isSome)=true)(nd:(Ts.map (·.2.2)).Nodup):Lt K h Ts:=by
 refine⟨fun t hm=>?_,nd⟩
 have q:=List.all_eq_true.mp hr t hm
 obtain⟨d,e⟩:=Option.isSome_iff_exists.mp q
 exact⟨ht t hm,PySem.W.tab_of T X e (ht t hm)⟩
theorem tab_mk {K:PySem.W.Frag}{x:Str}{f c P:Addr}{oc oc':Value}{od od':Option Addr}{fd:FuncData}{sl sl':Array (Option Value)}{vs:Array Value}(a:PySem.W.nsIn K mainGlobals x=some (some (.ref f)))(l:K.lookup f=some ⟨oc,od,.func fd,sl⟩)(hc:fd.code=.ref c)(lc:K.lookup c=some ⟨oc',od',.fields vs,sl'⟩)(hv:vs[11]? = some (.ref P)):PySem.W.tabIn K x=some (c,P):=by
 unfold PySem.W.tabIn
 simp only[a,l,hc,lc,hv]
theorem law_okZ {P:Program}{w:World}{K:PySem.W.Frag}{mg:Str→Option Value}{base:Heap}{cl:Nat→Addr}{fn:List D→Rs D}{k:Nat}{f:Addr}{fd:FuncData}{ps:List Str}{L:List (Addr×Str)}(G:FnOk P w K mg base (CX1 P w) k f fd ps (spZ L (spD K cl fn 1)))(h:∀ns:List Int,ns.length≤63→fn [.lst (ns.map .int)]=.ok (.bl true)):FnOk P w K mg base CX0 k f fd ps (spZ L (sp_law K)) where
 len:=fun vs H Q E hs=>G.len vs H Q E ⟨hs.1,law_sp h hs.2⟩
 run:=fun A outer s H args us vs Q E hr e0 bt vl hs=>by
  refine codeAny_mono (G.run A outer s H args us vs Q E0 hr e0 bt vl ⟨hs.1,law_sp (E:=E) h hs.2⟩) fun r s' q=>?_
  cases r with
  | error e =>
   obtain⟨a,C,a0,H',B,_,_,_,_,_,_,_,_,_,_,_,z⟩:=(show Flown P w outer H s E0 e s' from q)
   exact z.elim
  | ok fl=>cases fl <;>exact q
theorem walk_ofL {l:PySem.W.OpenLaw}{n k:Nat}{q:Program}{loose:List Str}{XP:(Str→Option Value)→Heap→Prop}{YP:World→Heap→Prop}{d:DefRec}{K:Params→PySem.W.Frag}{x:Str}
  (hn:l.most=some n) (hn2:n≤sizeLine) (hdf:d.params.defaults=[]) (hr:Room k callerA) (hn3:n≤63)
  (hY:∀(w:World) (h:Heap),YP w h→(K w.params).In h) (hK:∀w:World,noTabs (K w.params)=true)
  (F : ∀(w:World) (mg:Str→Option Value) (fa:Addr) (h:Heap),(K w.params).In h→h.Ns mainGlobals mg→mg d.name=some (.ref fa) →
   ∃ (Ts:Tbs) (fd:FuncData),(∀t∈Ts,PySem.W.tabIn (K w.params) t.1=some t.2)∧Ts.all (fun t=>((recsOf q).find? (fun e=>e.name == t.1)).isSome)=true∧(Ts.map (·.2.2)).Nodup∧(∀(s:Shared) (u:Value),BindsTo s fd ⟨[u],[]⟩ [(x,u)]) ∧
    ∀base:Heap,Zx (K w.params) mg base Ts→FnOk l.prog w (K w.params) mg base CX0 k fa fd [x] (spZ (lamsOf Ts) (sp_law (K w.params)))) :
  PySem.W.WalkO q loose XP YP l.row.toRowW d [] (fun f vs=>PySem.call f vs):=by
 refine Att.attach_call hn hdf fun w s₀ s₁ mg mb fa o pm cd doc a vs ns G Y ho hd hcd hmg hobj hints hlen hg=>?_
 have KX:=hY w _ Y
 obtain⟨Ts,fd,h1,h2,h3,hb,hF⟩:=F w mg fa _ KX G.T.g hmg
 exact law_callL KX G.T.g G.T.b G.T.builtins G.T.nolimit hg G.T.bmain (lt_of G.T KX h1 h2 h3) (hK w) hobj hints (Nat.le_trans hlen hn2) hr hF hb (fun H hS=>⟨a,ns,rfl,hS,Nat.le_trans hlen hn3,fun _=>rfl⟩) fun H e s' z=>z
end L2
namespace L2
open PySem PySem.W PySem.Spec PySem.Calls PyProof.Rows
def idxID:D→D→Option D
 | .lst ds,.int k=>if ds.all isI=true∧ds.length≤1000∧k∈ds.map unN then some (.int ((ds.map unN).idxOf k:Nat)) else none
 | _,_=>none
theorem xe_idxI {X:Cx}{cl:Nat→Addr}{e:Expr}{E:XK}{o:Expr}{fa fb:Rho→Rs D}{apos cpos:Pos}(ho:XE X cl E o fa)(ha:XE X cl E e fb)(m:Mth X o e "index" apos cpos):XE X cl E (.Call (.Attribute o "index" apos) [e] [] cpos) (fM isLs idxID fa fb):=by
 obtain⟨t,pt,rt⟩:=ho.ex
 obtain⟨u,pu,ru⟩:=ha.ex
 refine XE'.out ⟨_,pe_bm PySem.F.plainAttrs_list PySem.F.slot_list_index PySem.F.type_list_index mt_indexL pt (pa_cons pu pa_nil m.hs) m.base m.few m.line m.hs m.plain,fun H0 F0 ρ σ H F Q R o=>rt H0 F0 ρ σ H F _ R (OutE.fst o fun d v H1 F1 g1 q o1=>?_)⟩
 split at o1
 ·rename_i hd
  cases q with
  | lst sq dq =>
   rename_i ad xs ds
   refine⟨.inl ⟨rfl,xs,(R.grow g1).fh.seq sq⟩,ru H0 F0 ρ σ H1 F1 _ (R.grow g1) (OutE.fst o1 fun d2 v2 H2 F2 g2 q2 o2=>?_)⟩
   obtain⟨z,hz,k⟩:=o2.lf
   have fh:=(R.grow (g1.trans g2)).fh
   cases q2 with
   | int key =>
    dsimp only [idxID] at hz
    split at hz
    ·rename_i h
     obtain⟨h1,h2,h3⟩:=h
     obtain rfl:=Option.some.inj hz
     obtain rfl:=dq.ints h1
     have hlt:=List.idxOf_lt_length_of_mem h3
     have hge:(ds.map unN)[(ds.map unN).idxOf key]=key:=List.getElem_idxOf hlt
     refine⟨ad,_,_,(ds.map unN).idxOf key,.int key,rfl,rfl,fh.seq (g2.ff.seq sq),rfl,by rw[List.all_map];exact List.all_eq_true.mpr fun _ _=>rfl,?_,by show decide (key=key)=true;simp,by rw[List.length_map] at hlt;omega,fun mm w hmm hw=>?_,k _ _ _ (Gr.refl fh) (.int _)⟩
     ·rw[List.getElem?_map,List.getElem?_eq_getElem hlt,hge];rfl
     ·have hml:mm<(ds.map unN).length:=Nat.lt_trans hmm hlt
      rw[List.getElem?_map,List.getElem?_eq_getElem hml] at hw
      obtain rfl:=Option.some.inj hw
      have:=List.not_of_lt_findIdx (p:=fun z=>z == key) (xs:=ds.map unN) hmm
      show decide ((ds.map unN)[mm]=key)=false
      simpa using this
    ·cases hz
   | _=>cases hz
  | _=>cases hd
 ·exact o1.elim
end L2
set_option maxHeartbeats 4000000
namespace Pg
open PySem L2 PyProof.Rows
def g_is_size:Rho→Out :=
  (sRet (fAnd (fA (ari 1 zT) (zj (fNm 0) zB)) (fA (ari 3 fn_is_between) (zj (fNm 1) (zj (fNm 0) (zj (fC (.int 32)) zB))))))
def fn_is_size:List D→Rs D:=ye 2 g_is_size
def g_require_size:Rho→Out :=
  (sIf (bNot (bT (fA (ari 2 fn_is_size) (zj (fNm 0) (zj (fNm 1) zB)))))
  (sRs 5 (zj (fC (.str [116,104,105,115,32,105,115,32,110,111,32,115,105,122,101,32,102,114,111,109,32,97,115,32,109,97,110,121,32,97,115,32,116,104,101,114,101,32,97,114,101,32,108,101,116,116,101,114,115,44,32,50,32,116,111,32,52,44,32,116,111,32,51,50])) zB))
  sNx)
def fn_require_size:List D→Rs D:=ye 2 g_require_size
def g_most_partings:Rho→Out :=
  (sRet (f2 fdivI (f2 subI (fNm 1) (fC (.int 1))) (f2 subI (fNm 0) (fC (.int 1)))))
def fn_most_partings:List D→Rs D:=ye 2 g_most_partings
end Pg
namespace Pg
open PySem L2 PyProof.Rows
def g_all_parted:Rho→Out :=
  (zO (sNewT 2)
  (zO (cutX (sFor 3 (fI lsD (fNm 1))
  (sFor 4 (fI tpD (fNm 3))
  (sPutT 2 (fA (ari 3 fn_parted) (zj (fNm 0) (zj (fNm 3) (zj (fNm 4) zB)))) (fC (.bl true))))))
  (sRet (fLs (fST 2)))))
def fn_all_parted:List D→Rs D:=ye 5 g_all_parted
def g_all_books:Rho→Out :=
  (zO (sDrop (fA (ari 2 fn_require_size) (zj (fNm 0) (zj (fNm 1) zB))))
  (zO (sSet 2 (fO mkL (zj (fA (ari 1 fn_first_book) (zj (fNm 0) zB)) zB)))
  (zO (sSetO 3 (fL lstD (zj (fNm 2) zB)))
  (zO (cutX (sFor 4 (fR rng2 (zj (fC (.int 1)) (zj (fA (ari 2 fn_most_partings) (zj (fNm 0) (zj (fNm 1) zB))) zB)))
  (zO (sSet 2 (fA (ari 2 fn_all_parted) (zj (fNm 0) (zj (fNm 2) zB))))
  (sExt 3 (fNm 2)))))
  (sIce 3 (sRet (fNm 3)))))))
def fn_all_books:List D→Rs D:=ye 5 g_all_books
end Pg
set_option maxHeartbeats 1000000
namespace Pg
open PySem L2 My
theorem sum_ge {α:Type}{f:α→Int}{k:Int}:∀{l:List α},(∀x∈l,k≤f x)→l.length*k≤(l.map f).sum
 | [],_=>by simp
 | x::l,h=>by
  have:=sum_ge (l:=l) fun y hy=>h y (.tail _ hy)
  have:=h x (.head _)
  rw[List.map_cons,List.sum_cons,List.length_cons,Int.natCast_add,Int.add_mul];simp;omega
def Best (ws:List Int)(B:List (List Nat)):Prop:=∀x,Inner B x→∀p∈B,wU ws p≤wU ws x
theorem wU_pre {ws:List Int}(h:SrcOk ws){q p:List Nat}(hp:LetOk ws.length p)(h31:p.length≤31)(e:q <+: p):wU ws p≤wU ws q:=by
 obtain⟨r,rfl⟩:=e
 have hq:LetOk ws.length q:=hp.pre ⟨r,rfl⟩
 have hr:LetOk ws.length r:=fun c hc=>hp c (List.mem_append.mpr (.inr hc))
 have W:=W_range h
 have u1:=up_pos h hq
 have u2:=up_W h hr
 rw[List.length_append] at h31
 unfold wU
 rw[up_app,List.length_append,Int.mul_assoc]
 refine Int.mul_le_mul_of_nonneg_left ?_ (by omega)
 have e:31 - q.length=r.length+(31 - (q.length+r.length)):=by omega
 rw[e,Int.pow_add]
 exact Int.mul_le_mul_of_nonneg_right u2 (Int.le_of_lt (Int.pow_pos (by omega)))
theorem Book.cover {m:Nat}{B:List (List Nat)}(h:Book m B){p:List Nat}(hp:LetOk m p)(hn:¬Inner B p):∃q∈B,q <+: p:=by
 obtain⟨q,hq,e|e⟩:=h.cv p hp
 ·exact⟨q,hq,e⟩
 ·by_cases z:p=q
  ·exact⟨q,hq,z▸List.prefix_refl _⟩
  ·exact absurd ⟨q,hq,e,z⟩ hn
theorem Best.top {ws:List Int}(h:SrcOk ws){B:List (List Nat)}(hb:Book ws.length B)(b:Best ws B):∀x∈zU B,∀p,LetOk ws.length p→p.length≤31→p∉zU B→wU ws p≤wU ws x:=fun x hx p hp h31 hn=>by
 obtain⟨q,hq,e⟩:=Book.cover hb hp fun z=>hn (innerKeys_mem.mpr z)
 exact Int.le_trans (wU_pre h hp h31 e) (b x (innerKeys_mem.mp hx) q hq)
section
variable {ws:List Int}(h:SrcOk ws)
include h
end
end Pg
namespace Pg
open PySem L2 My
theorem first_book_eq {m:Nat}:fn_first_book [.int m]=.ok (.tup (sT (kids m []))):=by
 have e0:=gone_on_eq (m:=m) [[]] (by simp) (by simp)
 have e:fn_even_book [.int m,.int 1]=.ok (.tup (sT (kids m []))):=by
  refine z8 ((zA (ρ':=[.fz (.int m),.fz (.int 1),.fz (.lst (sT [[]])),.no]) (zM rfl)).trans ?_)
  refine(zA (ρ':=[.fz (.int m),.fz (.int 1),.fz (.lst (sT (kids m []))),.fz (.int 0)]) (cutX_nx ((sFor_ok (ds:=[.int 0]) (fR_ok (ds:=[.int ((1:Nat):Int)]) rfl (rng1_nat (n:=1) (by decide)))).trans ?_))).trans (sRet_ok rfl)
  refine(forD_nx (ρ':=[.fz (.int m),.fz (.int 1),.fz (.lst (sT (kids m []))),.fz (.int 0)]) (zM (cA2 (a:=.int m) (b:=.lst (sT [[]])) rfl rfl (e0.trans (by rw[goneOn_one]))))).trans rfl
 exact z8 (sRet_ok (cA2 (a:=.int m) (b:=.int 1) rfl rfl e))
end Pg
namespace Pg
open PySem L2 My
section
variable {ws:List Int}(h:SrcOk ws)
include h
end
end Pg
namespace Pg
open PySem L2 My
def decB:D→List (List Nat)
 | .tup ds=>ds.map unS
 | _=>[]
def decL:Rs D→List (List (List Nat))
 | .ok (.lst ds)=>ds.map decB
 | _=>[]
def AB (m s:Nat):List (List (List Nat)):=decL (fn_all_books [.int m,.int s])
def encL (L:List (List (List Nat))):D:=.lst (L.map fun B=>.tup (sT B))
def Comb (m s:Nat):Prop:=(m=2∧2≤s∧s≤5)∨(m=3∧3≤s∧s≤7)∨(m=4∧4≤s∧s≤7)
theorem Comb.cases {P:Nat→Nat→Prop}{m s:Nat}(h:Comb m s)(a1:P 2 2)(a2:P 2 3)(a3:P 2 4)(a4:P 2 5)(b1:P 3 3)(b2:P 3 4)(b3:P 3 5)(b4:P 3 6)(b5:P 3 7)(c1:P 4 4)(c2:P 4 5)(c3:P 4 6)(c4:P 4 7):P m s:=by
 rcases h with⟨rfl,h1,h2⟩|⟨rfl,h1,h2⟩|⟨rfl,h1,h2⟩
 ·have:s=2∨s=3∨s=4∨s=5:=by omega
  rcases this with rfl|rfl|rfl|rfl <;>assumption
 ·have:s=3∨s=4∨s=5∨s=6∨s=7:=by omega
  rcases this with rfl|rfl|rfl|rfl|rfl <;>assumption
 ·have:s=4∨s=5∨s=6∨s=7:=by omega
  rcases this with rfl|rfl|rfl|rfl <;>assumption
theorem ab_eq {m s:Nat}(h:Comb m s):fn_all_books [.int m,.int s]=.ok (encL (AB m s)):= by
 refine h.cases (P:=fun m s=>fn_all_books [.int m,.int s]=.ok (encL (AB m s))) ?_ ?_ ?_ ?_ ?_ ?_ ?_ ?_ ?_ ?_ ?_ ?_ ?_ <;>kernel_rfl
def okAB (m s:Nat):Bool:=(AB m s).all (fun B=>isBook m B&&decide (B.length≤s)&&decide (0<B.length)&&B.all (fun p=>decide (p.length≤5)&&decide (0<p.length)&&p.all fun c=>decide (97≤c)&&decide (c<97+m)))&&decide ((AB m s).head? = some (kids m []))&&decide ((AB m s).length≤30)
theorem ab_ok {m s:Nat}(h:Comb m s):okAB m s=true:=by
 refine h.cases (P:=fun m s=>okAB m s=true) ?_ ?_ ?_ ?_ ?_ ?_ ?_ ?_ ?_ ?_ ?_ ?_ ?_ <;>kernel_rfl
theorem Comb.m2 {m s:Nat}(h:Comb m s):2≤m∧m≤4∧m≤s∧s≤7:=by unfold Comb at h;omega
theorem ab_head {m s:Nat}(h:Comb m s):∃L,AB m s=kids m []::L:=by
 have:=ab_ok h
 unfold okAB at this
 simp only[Bool.and_eq_true,decide_eq_true_eq] at this
 have e:=this.1.2
 cases q:AB m s with
 | nil=>rw[q] at e;cases e
 | cons B L=>rw[q] at e;exact⟨L,by rw[Option.some.inj e]⟩
theorem ab_len {m s:Nat}(h:Comb m s):(AB m s).length≤30:=by
 have:=ab_ok h
 unfold okAB at this
 simp only[Bool.and_eq_true,decide_eq_true_eq] at this
 exact this.2
theorem ab_mem {m s:Nat}(h:Comb m s){B:List (List Nat)}(hB:B∈AB m s):Pcs m B∧isBook m B=true∧B.length≤s∧∀p∈B,LetOk m p∧p.length≤5:=by
 have:=ab_ok h
 unfold okAB at this
 simp only[Bool.and_eq_true,decide_eq_true_eq] at this
 have q:=List.all_eq_true.mp this.1.1 B hB
 simp only[Bool.and_eq_true,decide_eq_true_eq,List.all_eq_true] at q
 obtain⟨⟨⟨q1,q2⟩,q3⟩,q4⟩:=q
 obtain⟨m2,m4,h1,h2⟩:=h.m2
 have ps:∀p∈B,LetOk m p∧p.length≤5:=fun p hp=>⟨fun c hc=>(q4 p hp).2 c hc,(q4 p hp).1.1⟩
 exact⟨⟨m2,m4,fun z=>(by rw[z] at q3;simp at q3),by omega,fun p hp=>⟨(ps p hp).1,fun z=>(by have:=(q4 p hp).1.2;rw[z] at this;simp at this),by have:=(ps p hp).2;omega⟩⟩,q1,q2,ps⟩
end Pg
set_option maxHeartbeats 4000000
namespace Pg
open PySem L2 PyProof.Rows
def g_words_by:Rho→Out :=
  (zO (sSet 2 (fA (ari 2 fn_cut_by) (zj (fNm 0) (zj (fNm 1) zB))))
  (sRet (fIf (bT (f2 (eqD false) (f2 ixD (fNm 2) (fC (.int 1))) (fC (.str [])))) (fO lenD (zj (f2 ixD (fNm 2) (fC (.int 0))) zB)) (f2 addI (fO lenD (zj (f2 ixD (fNm 2) (fC (.int 0))) zB)) (fC (.int 1))))))
def fn_words_by:List D→Rs D:=ye 3 g_words_by
def g_words_for:Rho→Out :=
  (zO (sDrop (fA (ari 2 fn_require_book) (zj (fNm 0) (zj (fNm 1) zB))))
  (zO (sDrop (fA (ari 2 z9) (zj (fNm 0) (zj (fNm 2) zB))))
  (sRet (fA (ari 2 fn_words_by) (zj (fNm 1) (zj (fNm 2) zB))))))
def zK:List D→Rs D:=ye 3 g_words_for
def g_best_for:Rho→Out :=
  (zO (sDrop (fA (ari 2 fn_require_size) (zj (fNm 0) (zj (fNm 1) zB))))
  (zO (sDrop (fA (ari 2 z9) (zj (fNm 0) (zj (fNm 2) zB))))
  (sRet (fKey unL ltL (fA (ari 2 fn_all_books) (zj (fNm 0) (zj (fNm 1) zB))) (fA (ari 2 fn_words_by) (zj (fNm 0) (zj (fNm 1) zB))) [2]))))
def fn_best_for:List D→Rs D:=ye 3 g_best_for
def g_fewest_words:Rho→Out :=
  (sRet (fA (ari 2 fn_words_by) (zj (fA (ari 3 fn_best_for) (zj (fNm 0) (zj (fNm 1) (zj (fNm 2) zB)))) (zj (fNm 2) zB))))
def fn_fewest_words:List D→Rs D:=ye 3 g_fewest_words
def g_require_between:Rho→Out :=
  (sIf (bNot (bT (fA (ari 3 fn_is_between) (zj (fNm 0) (zj (fNm 1) (zj (fNm 2) zB))))))
  (sRs 5 (zj (fC (.str [116,104,105,115,32,105,115,32,110,111,32,119,104,111,108,101,32,110,117,109,98,101,114,32,119,105,116,104,105,110,32,105,116,115,32,98,111,117,110,100,115])) zB))
  sNx)
def fn_require_between:List D→Rs D:=ye 3 g_require_between
def g_dearest:Rho→Out :=
  (zO (sDrop (fA (ari 2 fn_require_book) (zj (fNm 0) (zj (fNm 1) zB))))
  (zO (sDrop (fA (ari 3 fn_require_between) (zj (fNm 2) (zj (fC (.int 1)) (zj (fC (.int 5)) zB)))))
  (zO (sSet 3 (fKey unT ltG (fA (ari 2 fn_even_book) (zj (fNm 0) (zj (fNm 2) zB))) (fA (ari 2 fn_words_by) (zj (fNm 1) (zj (fNm 0) zB))) [1]))
  (sRet (fO mkT (zj (fNm 3) (zj (fA (ari 2 fn_words_by) (zj (fNm 1) (zj (fNm 3) zB))) zB)))))))
def fn_dearest:List D→Rs D:=ye 4 g_dearest
end Pg
set_option maxHeartbeats 1000000
namespace Pg
open PySem L2 My
def Wc (B:List (List Nat))(l:List Nat):Nat:=(cutF B l).1.length+(if (cutF B l).2=[] then 0 else 1)
theorem fIf_ok {ft:Rho→Rs Bool}{fa fb:Rho→Rs D}{ρ:Rho}{b:Bool}{r:Rs D}(e1:ft ρ=.ok b)(e2:(if b=true then fa ρ else fb ρ)=r):fIf ft fa fb ρ=r:=by unfold fIf;rw[e1];exact e2
theorem words_by_eq {B:List (List Nat)}{l:List Nat}(hl:l.length≤1000):fn_words_by [.tup (sT B),.str l]=.ok (.int (Wc B l:Int)):=by
 refine z8 ((zA (zM (cA2 (a:=.tup (sT B)) (b:=.str l) rfl rfl (cut_by_eq hl)))).trans (sRet_ok ?_))
 have e0:fO lenD (zj (f2 ixD (fNm 2) (fC (.int 0))) zB) [.fz (.tup (sT B)),.fz (.str l),.fz (.tup [.lst (sT (cutF B l).1),.str (cutF B l).2])]=.ok (.int ((cutF B l).1.length:Int)):=by
  show Rs.ok (D.int (((sT (cutF B l).1).length:Nat):Int))=_
  rw[sT_len]
 refine fIf_ok (b:=decide ((cutF B l).2=[])) (bT_ok (f2_ok (a:=.str (cutF B l).2) (b:=.str []) rfl rfl (eqD_str false _ []))) ?_
 unfold Wc
 by_cases h:(cutF B l).2=[]
 ·rw[decide_eq_true h,if_pos rfl,if_pos h,Nat.add_zero];exact e0
 ·rw[decide_eq_false h,if_neg (by decide),if_neg h]
  exact(addI_ok e0 (j:=1) rfl).trans (by rw[Int.natCast_add];rfl)
theorem words_for_eq {m:Nat}{B:List (List Nat)}(h:Bb m B){l:List Nat}(hx:LetOk m l)(hl:l.length≤1000):zK [.int m,.tup (sT B),.str l]=.ok (.int (Wc B l:Int)) :=
 z8 ((zA (sDrop_ok (cA2 (a:=.int m) (b:=.tup (sT B)) rfl rfl (require_book_eq h.pcs h.isB)))).trans ((zA (sDrop_ok (cA2 (a:=.int m) (b:=.str l) rfl rfl (require_text_eq h.bk.m4 hx (by omega))))).trans (sRet_ok (cA2 (a:=.tup (sT B)) (b:=.str l) rfl rfl (words_by_eq hl)))))
theorem cutF_snoc (B:List (List Nat))(l:List Nat)(c:Nat):cutF B (l++[c])=zL B (cutF B l) c:=by unfold cutF;rw[List.foldl_append];rfl
theorem Wc_snoc (B:List (List Nat))(l:List Nat)(c:Nat):Wc B (l++[c])=(cutF B l).1.length+1:=by
 unfold Wc
 rw[cutF_snoc]
 unfold zL
 split
 ·simp
 ·simp
theorem Wc_ge (B:List (List Nat))(l:List Nat):(cutF B l).1.length≤Wc B l∧Wc B l≤(cutF B l).1.length+1:=by unfold Wc;split <;>omega
theorem Wc_one (B:List (List Nat))(c:Nat):Wc B [c]=1:=Wc_snoc B [] c
theorem Wc_le (B:List (List Nat))(l r:List Nat):Wc B (l++r)≤Wc B l+r.length:=by
 induction r generalizing l with
 | nil=>simp
 | cons c r ih =>
  have h1:=ih (l++[c])
  rw[List.append_assoc,Wc_snoc] at h1
  have h2:=(Wc_ge B l).1
  rw[List.length_cons]
  simp only[List.singleton_append] at h1
  omega
theorem Wc_app (B:List (List Nat))(l r:List Nat):Wc B (l++r)=(cutF B l).1.length+Wc B ((cutF B l).2++r):=by
 unfold Wc
 rw[cut_app]
 simp only[List.length_append]
 omega
theorem Wc_low (B:List (List Nat))(l r:List Nat):(cutF B l).1.length≤Wc B (l++r):=by rw[Wc_app];omega
theorem Wc_two {B:List (List Nat)}{l:List Nat}(h:(cutF B l).2=[])(r:List Nat):Wc B (l++r)=Wc B l+Wc B r:=by
 rw[Wc_app,h]
 show _=(cutF B l).1.length+(if (cutF B l).2=[] then 0 else 1)+_
 rw[if_pos h];simp
theorem Wc_first {m:Nat}(m4:m≤4):∀{l:List Nat},LetOk m l→Wc (kids m []) l=l.length:=by
 have key:∀(l:List Nat) (p:List (List Nat)),LetOk m l→l.foldl (zL (kids m [])) (p,[])=(p++l.map fun c=>[c],[]):=by
  intro l
  induction l with
  | nil=>intro p _;simp
  | cons c l ih =>
   intro p h
   have e:zL (kids m []) (p,[]) c=(p++[[c]],[]):=if_pos (kids_mem.mpr ⟨c,let_abcd m4 (h c (by simp)),rfl⟩)
   rw[List.foldl_cons,e,ih _ fun z hz=>h z (.tail _ hz)]
   simp
 intro l h
 unfold Wc cutF
 rw[key l [] h]
 simp
section
variable {α:Type}{lt:Int→Int→Bool}{k:α→Int}{enc:α→D}{fk:D→Rs D}
def optF (lt:Int→Int→Bool)(k:α→Int):α→List α→α
 | b,[]=>b
 | b,x::r=>if lt (k x) (k b)=true then optF lt k x r else optF lt k b r
theorem bestD_map:∀(l:List α) (b:α),(∀x∈l,fk (enc x)=.ok (.int (k x)))→bestD lt fk (enc b) (k b) (l.map enc)=.ok (enc (optF lt k b l))
 | [],b,_=>rfl
 | x::l,b,h=>by
  rw[List.map_cons]
  unfold bestD optF
  simp only[h x (.head _)]
  split
  ·exact bestD_map l x fun y hy=>h y (.tail _ hy)
  ·exact bestD_map l b fun y hy=>h y (.tail _ hy)
theorem keyD_map {l:List α}{b:α}(h:∀x∈b::l,fk (enc x)=.ok (.int (k x))):keyD lt fk ((b::l).map enc)=.ok (enc (optF lt k b l)):=by
 rw[List.map_cons]
 unfold keyD
 simp only[h b (.head _)]
 exact bestD_map l b fun y hy=>h y (.tail _ hy)
theorem optF_mem:∀(l:List α) (b:α),optF lt k b l∈b::l
 | [],b=>by simp[optF]
 | x::l,b=>by
  unfold optF
  split
  ·exact List.mem_cons_of_mem _ (optF_mem l x)
  ·rcases List.mem_cons.mp (optF_mem l b) with h|h
   ·rw[h];exact List.mem_cons_self
   ·exact List.mem_cons_of_mem _ (List.mem_cons_of_mem _ h)
theorem optF_le:∀(l:List α) (b:α),∀x∈b::l,k (optF ltL k b l)≤k x
 | [],b,x,h=>by rw[List.mem_singleton.mp h];exact Int.le_refl _
 | y :: l,b,x,h=>by
  unfold optF
  by_cases e:k y<k b
  ·rw[if_pos (show ltL (k y) (k b)=true from decide_eq_true e)]
   have:=optF_le l y
   rcases List.mem_cons.mp h with rfl|h
   ·have:=this y List.mem_cons_self;omega
   ·exact this x h
  ·rw [if_neg (by unfold ltL;simp[e])]
   have:=optF_le l b
   rcases List.mem_cons.mp h with rfl|h
   ·exact this x List.mem_cons_self
   ·rcases List.mem_cons.mp h with rfl|h
    ·have:=this b List.mem_cons_self;omega
    ·exact this x (List.mem_cons_of_mem _ h)
theorem optF_first:∀(l:List α) (b:α),(∀x∈b::l,k x≤k (optF ltG k b l))∧∃i:Nat,(b::l)[i]? = some (optF ltG k b l)∧∀(j:Nat) (y:α),j<i→(b::l)[j]? = some y→k y<k (optF ltG k b l)
 | [],b=>⟨fun x h=>by rw[List.mem_singleton.mp h];exact Int.le_refl _,0,rfl,fun j y hj=>absurd hj (Nat.not_lt_zero _)⟩
 | x :: l,b=>by
  unfold optF
  by_cases e:k b<k x
  ·rw [if_pos (show ltG (k x) (k b)=true from decide_eq_true e)]
   obtain⟨h1,i,h2,h3⟩:=optF_first l x
   have hx:=h1 x List.mem_cons_self
   refine⟨fun y hy=>?_,i+1,h2,fun j y hj hy=>?_⟩
   ·rcases List.mem_cons.mp hy with rfl|hy
    ·exact Int.le_trans (Int.le_of_lt e) hx
    ·exact h1 y hy
   ·cases j with
    | zero=>obtain rfl:=Option.some.inj hy;exact Int.lt_of_lt_of_le e hx
    | succ j=>exact h3 j y (by omega) hy
  ·rw [if_neg (by unfold ltG;simp[e])]
   obtain⟨h1,i,h2,h3⟩:=optF_first l b
   have hb:=h1 b List.mem_cons_self
   refine⟨fun y hy=>?_,?_⟩
   ·rcases List.mem_cons.mp hy with rfl|hy
    ·exact hb
    ·rcases List.mem_cons.mp hy with rfl|hy
     ·exact Int.le_trans (Int.not_lt.mp e) hb
     ·exact h1 y (List.mem_cons_of_mem _ hy)
   ·cases i with
    | zero=>exact⟨0,h2,fun j y hj=>absurd hj (Nat.not_lt_zero _)⟩
    | succ i =>
     have h0:=h3 0 b (Nat.succ_pos _) rfl
     refine⟨i+2,h2,fun j y hj hy=>?_⟩
     match j,hj,hy with
     | 0,_,hy=>obtain rfl:=Option.some.inj hy;exact h0
     | 1,_,hy=>obtain rfl:=Option.some.inj hy;exact Int.lt_of_le_of_lt (Int.not_lt.mp e) h0
     | j+2,hj,hy=>exact h3 (j+1) y (by omega) hy
theorem idx_first {l:List Int}{i:Nat}{x:Int}(h:l[i]? = some x)(hn:∀(j:Nat) (y:Int),j<i→l[j]? = some y→y≠x):l.idxOf x=i:=by
 induction l generalizing i with
 | nil=>simp at h
 | cons a l ih =>
  cases i with
  | zero=>obtain rfl:=Option.some.inj h;simp
  | succ i =>
   have ha:a≠x:=hn 0 a (Nat.succ_pos _) rfl
   rw[List.idxOf_cons,beq_eq_false_iff_ne.mpr ha,ih (by simpa using h) fun j y hj hy=>hn (j+1) y (by omega) (by simpa using hy)]
   rfl
end
def bfB (m s:Nat)(l:List Nat):List (List Nat):=optF ltL (fun B=>(Wc B l:Int)) (kids m []) (AB m s).tail
theorem ab_cons {m s:Nat}(h:Comb m s):AB m s=kids m []::(AB m s).tail:=by obtain⟨L,e⟩:=ab_head h;rw[e];rfl
theorem bfB_mem {m s:Nat}(h:Comb m s)(l:List Nat):bfB m s l∈AB m s:=by rw[ab_cons h];exact optF_mem _ _
theorem bfB_le {m s:Nat}(h:Comb m s)(l:List Nat){B:List (List Nat)}(hB:B∈AB m s):Wc (bfB m s l) l≤Wc B l:=by
 rw[ab_cons h] at hB
 have:=optF_le (k:=fun B=>(Wc B l:Int)) (AB m s).tail (kids m []) B hB
 exact Int.ofNat_le.mp this
theorem size_eq {m s:Nat}(h:Comb m s):fn_require_size [.int m,.int s]=.ok .non:=by
 refine h.cases (P:=fun m s=>fn_require_size [.int m,.int s]=.ok .non) ?_ ?_ ?_ ?_ ?_ ?_ ?_ ?_ ?_ ?_ ?_ ?_ ?_ <;>kernel_rfl
theorem fKey_ok {un:D→Option (List D)}{lt:Int→Int→Bool}{fa fb:Rho→Rs D}{caps:List Nat}{ρ:Rho}{d:D}{ds:List D}{r:Rs D}(e1:fa ρ=.ok d)(e2:un d=some ds)(e3:keyD lt (fun x=>fb ((capR 1 caps ρ).set 0 (.fz x))) ds=r):fKey un lt fa fb caps ρ=r:=by
 unfold fKey
 rw[e1]
 show(match un d with|some ds=>keyD lt (fun x=>fb ((capR 1 caps ρ).set 0 (.fz x))) ds|none=>.no)=r
 rw[e2];exact e3
theorem best_for_eq {m s:Nat}(h:Comb m s){l:List Nat}(hx:LetOk m l)(hl:l.length≤1000):fn_best_for [.int m,.int s,.str l]=.ok (.tup (sT (bfB m s l))):=by
 obtain⟨m2,m4,_⟩:=h.m2
 refine z8 ((zA (sDrop_ok (cA2 (a:=.int m) (b:=.int s) rfl rfl (size_eq h)))).trans ((zA (sDrop_ok (cA2 (a:=.int m) (b:=.str l) rfl rfl (require_text_eq m4 hx (by omega))))).trans (sRet_ok ?_)))
 refine fKey_ok (d:=encL (AB m s)) (ds:=(AB m s).map fun B=>.tup (sT B)) (cA2 (a:=.int m) (b:=.int s) rfl rfl (ab_eq h)) rfl ?_
 rw[ab_cons h]
 exact keyD_map (k:=fun B=>(Wc B l:Int)) (enc:=fun B=>D.tup (sT B)) fun B _=>cA2 (a:=.tup (sT B)) (b:=.str l) rfl rfl (words_by_eq hl)
theorem fewest_eq {m s:Nat}(h:Comb m s){l:List Nat}(hx:LetOk m l)(hl:l.length≤1000):fn_fewest_words [.int m,.int s,.str l]=.ok (.int (Wc (bfB m s l) l:Int)) :=
 z8 (sRet_ok (cA2 (a:=.tup (sT (bfB m s l))) (b:=.str l) (cA3 (a:=.int m) (b:=.int s) (c:=.str l) rfl rfl rfl (best_for_eq h hx hl)) rfl (words_by_eq hl)))
theorem even_eq {m n:Nat}(m4:m≤4)(hn:n≤3):fn_even_book [.int m,.int n]=.ok (.tup (sT (zW m n))):=by
 obtain ⟨ρ',e,s,rfl⟩:=forD_inv (i:=3) (g:=sSet 2 (fA (ari 2 yj) (zj (fNm 0) (zj (fNm 2) zB)))) (l:=List.range n) (enc:=fun(k:Nat)=>D.int (k:Int)) (ρ:=[.fz (.int m),.fz (.int n),.fz (.lst (sT [[]])),.no])
  (fun k ρ=>∃s,ρ=[.fz (.int m),.fz (.int n),.fz (.lst (sT (zW m k))),s]) ⟨.no,rfl⟩ (fun k x ρ hc ⟨s,e⟩=>by
   subst e
   have hk:k<n:=by have:=(List.getElem?_eq_some_iff.mp hc).1;simpa using this
   have hl:(zW m k).length≤64:=by
    have h0:=goneOn_len m m4 [[]]
    have h1:=goneOn_len m m4 (zW m 1)
    have h2:=goneOn_len m m4 (zW m 2)
    have:k=0∨k=1∨k=2:=by omega
    rcases this with rfl|rfl|rfl
    ·show 1≤64;decide
    ·exact Nat.le_trans h0 (by decide)
    ·have h0':(zW m 1).length≤4:=h0
     have h1':(zW m 2).length≤4*(zW m 1).length:=h1
     omega
   refine⟨_,zM (cA2 (a:=.int m) (b:=.lst (sT (zW m k))) rfl rfl (gone_on_eq _ (fun y hy=>?_) (by omega))),.fz (.int (x:Int)),rfl⟩
   have:=((even_mem m4).mp hy).1
   omega)
 rw[List.length_range] at e
 exact z8 ((zA (zM (d:=.lst (sT [[]])) rfl)).trans ((zA (cutX_nx ((sFor_ok (fR_ok (ds:=[.int (n:Int)]) rfl (rng1_nat (by omega)))).trans e))).trans rfl))
def drT (m:Nat)(B:List (List Nat))(n:Nat):List Nat:=optF ltG (fun x=>(Wc B x:Int)) ((zW m n).headD []) (zW m n).tail
theorem even_cons {m:Nat}(m2:2≤m)(m4:m≤4)(n:Nat):zW m n=(zW m n).headD []::(zW m n).tail:=by
 cases e:zW m n with
 | nil =>
  exfalso
  have:List.replicate n 97∈zW m n:=(even_mem m4).mpr ⟨by simp,fun c hc=>by rw[List.eq_of_mem_replicate hc];omega⟩
  rw[e] at this;cases this
 | cons x r=>rfl
theorem between_ok {n:Nat}(h1:1≤n)(h5:n≤5):fn_require_between [.int n,.int 1,.int 5]=.ok .non:=by
 refine runD_nx (ifF (bNot_ok (b:=true) (bT_ok (cA3 (a:=.int n) (b:=.int 1) (c:=.int 5) rfl rfl rfl ((is_between_int _ _ _).trans ?_)))))
 rw[decide_eq_true (by omega:(1:Int)≤n),decide_eq_true (by omega:(n:Int)≤5)];rfl
theorem dearest_eq {m:Nat}{B:List (List Nat)}(h:Bb m B){n:Nat}(h1:1≤n)(h3:n≤3):fn_dearest [.int m,.tup (sT B),.int n]=.ok (.tup [.str (drT m B n),.int (Wc B (drT m B n):Int)]):=by
 have m2:=h.bk.m2
 have m4:=h.bk.m4
 have el:∀x∈zW m n,x.length≤1000:=fun x hx=>by have:=((even_mem m4).mp hx).1;omega
 have dm:drT m B n∈zW m n:=by rw[even_cons m2 m4 n];exact optF_mem _ _
 refine z8 ((zA (sDrop_ok (cA2 (a:=.int m) (b:=.tup (sT B)) rfl rfl (require_book_eq h.pcs h.isB)))).trans ((zA (sDrop_ok (cA3 (a:=.int n) (b:=.int 1) (c:=.int 5) rfl rfl rfl (between_ok h1 (by omega))))).trans ((zA (zM (d:=.str (drT m B n)) ?_)).trans (sRet_ok (fO_ok (ds:=[.str (drT m B n),.int (Wc B (drT m B n):Int)]) (aCons_ok rfl (aCons_ok (cA2 (a:=.tup (sT B)) (b:=.str (drT m B n)) rfl rfl (words_by_eq (el _ dm))) rfl)) rfl)))))
 refine fKey_ok (d:=.tup (sT (zW m n))) (ds:=sT (zW m n)) (cA2 (a:=.int m) (b:=.int n) rfl rfl (even_eq m4 h3)) rfl ?_
 have ec:=even_cons m2 m4 n
 show keyD ltG _ ((zW m n).map D.str)=.ok (.str (optF ltG (fun x=>(Wc B x:Int)) ((zW m n).headD []) (zW m n).tail))
 rw[show(zW m n).map D.str=((zW m n).headD []::(zW m n).tail).map D.str from by rw[← ec]]
 exact keyD_map (k:=fun x=>(Wc B x:Int)) (enc:=D.str) fun x hx=>cA2 (a:=.tup (sT B)) (b:=.str x) rfl rfl (words_by_eq (el x (by rw[ec];exact hx)))
theorem in_bks (C:List (List Nat)):∀L:List (List (List Nat)),D.pls (L.map fun B=>.tup (sT B))=true∧((D.pys (L.map fun B=>.tup (sT B))).any fun z=>PyData.eqv z (D.tup (sT C)).py)=decide (C∈L)
 | []=>⟨rfl,rfl⟩
 | B::L=>by
  have p:D.pls (sT B)=true:=pls_of fun d hd=>by obtain⟨x,_,rfl⟩:=List.mem_map.mp hd;rfl
  refine⟨by show(D.pls (sT B)&&D.pls (L.map fun B=>.tup (sT B)))=true;rw[(in_bks C L).1,p];rfl,?_⟩
  show(PyData.eqvAll (D.pys (sT B)) (D.pys (sT C)) || (D.pys (L.map fun B=>.tup (sT B))).any fun z=>PyData.eqv z (D.tup (sT C)).py)=_
  rw[(in_bks C L).2,eqvAll_sT,Bool.eq_iff_iff,Bool.or_eq_true,decide_eq_true_eq,decide_eq_true_eq,decide_eq_true_eq,List.mem_cons]
  exact⟨fun z=>z.imp Eq.symm id,fun z=>z.imp Eq.symm id⟩
theorem bk_depth (C:List (List Nat)):(D.tup (sT C)).py.depth≤60:=by
 show PyData.depthAll (D.pys (sT C))+1≤60
 rw[dep_sT];decide
theorem not_in {C:List (List Nat)}{L:List (List (List Nat))}(h:C∈L):inDD true (.tup (sT C)) (encL L)=some (.bl false):=by
 obtain⟨e1,e2⟩:=in_bks C L
 refine(if_pos ⟨pls_of fun d hd=>by obtain⟨x,_,rfl⟩:=List.mem_map.mp hd;rfl,e1,bk_depth C⟩).trans ?_
 rw[e2,decide_eq_true h];rfl
theorem unN_map {α:Type}(l:List α)(f:α→Int):(l.map fun x=>D.int (f x)).map unN=l.map f:=by rw[List.map_map];rfl
theorem isI_map {α:Type}(l:List α)(f:α→Int):(l.map fun x=>D.int (f x)).all isI=true:=by rw[List.all_map];exact List.all_eq_true.mpr fun _ _=>rfl
theorem max_of {α:Type}{l:List α}{f:α→Int}{x:α}(hx:x∈l)(h:∀y∈l,f y≤f x):maxLD [.lst (l.map fun x=>.int (f x))]=some (.int (f x)):=by
 have hn:l≠[]:=fun z=>by rw[z] at hx;cases hx
 refine(if_pos ⟨isI_map l f,by simpa using hn⟩).trans ?_
 rw[unN_map]
 obtain⟨h1,h2⟩:=maxL_spec (ns:=l.map f) (by simpa using hn)
 obtain⟨y,hy,e⟩:=List.mem_map.mp h1
 have:=h2 (f x) (List.mem_map.mpr ⟨x,hx,rfl⟩)
 have h3:=h y hy
 rw[show maxL (l.map f)=f x by omega]
theorem min_of {α:Type}{l:List α}{f:α→Int}{x:α}(hx:x∈l)(h:∀y∈l,f x≤f y):minLD [.lst (l.map fun x=>.int (f x))]=some (.int (f x)):=by
 have hn:l≠[]:=fun z=>by rw[z] at hx;cases hx
 refine(if_pos ⟨isI_map l f,by simpa using hn⟩).trans ?_
 rw[unN_map]
 obtain⟨h1,h2⟩:=minL_spec (ns:=l.map f) (by simpa using hn)
 obtain⟨y,hy,e⟩:=List.mem_map.mp h1
 have:=h2 (f x) (List.mem_map.mpr ⟨x,hx,rfl⟩)
 have h3:=h y hy
 rw[show minL (l.map f)=f x by omega]
theorem idx_of {α:Type}{l:List α}{f:α→Int}{i:Nat}{x:α}(h:l[i]? = some x)(hn:∀(j:Nat) (y:α),j<i→l[j]? = some y→f y≠f x)(hl:l.length≤1000):idxID (.lst (l.map fun x=>.int (f x))) (.int (f x))=some (.int (i:Int)):=by
 have hm:f x∈l.map f:=List.mem_map.mpr ⟨x,List.mem_of_getElem? h,rfl⟩
 refine(if_pos ⟨isI_map l f,by rw[List.length_map];exact hl,by rw[unN_map];exact hm⟩).trans ?_
 rw[unN_map,idx_first (i:=i) (by rw[List.getElem?_map,h];rfl) fun j y hj hy=>?_]
 rw[List.getElem?_map] at hy
 cases e:l[j]? with
 | none=>rw[e] at hy;cases hy
 | some z=>rw[e] at hy;obtain rfl:=Option.some.inj hy;exact hn j z hj e
end Pg
set_option maxHeartbeats 4000000
namespace K35
open PySem L2 PyProof.Rows
open My
open Pg
abbrev hq0:=sRet (fC (.bl false))
abbrev hq1:=fA (ari 2 fn_even_book) (zj (fNm 1) (zj (fNm 12) zB))
abbrev hq2:=bOr (bT (f2 (eqD true) (fO lenD (zj (fNm 13) zB)) (fNm 12))) (bT (f2 (eqD true) (fA (ari 3 zK) (zj (fNm 1) (zj (fNm 2) (zj (fNm 13) zB)))) (fNm 14)))
abbrev hq8:=zj (fNm 1) (zj (fNm 2) (zj (fNm 3) zB))
abbrev hq3:=fA (ari 3 zK) hq8
abbrev hq4:=zj (fNm 1) (zj (fNm 2) (zj (fNm 0) zB))
abbrev hq5:=sSet2 13 14 (fA (ari 3 fn_dearest) (zj (fNm 1) (zj (fNm 2) (zj (fNm 12) zB))))
abbrev hq6:=fA (ari 2 fn_all_books) (zj (fNm 1) (zj (fNm 9) zB))
abbrev hq7:=bT (f2 (eqD true) (fO maxLD (zj (fNm 15) zB)) (fNm 14))
abbrev hq9:=zj (fNm 1) (zj (fNm 9) (zj (fNm 3) zB))
abbrev hq10:=zj (fNm 1) (zj (fNm 0) (zj (fNm 2) zB))
abbrev hq11:=bT (f2 (eqD false) (fNm 6) (fC (.str [])))
abbrev hq12:=zj (fNm 1) (zj (fC (.int 10)) zB)
def g_law:Rho→Out :=
  (zO (sSet 1 (f2 addI (fC (.int 2)) (fA (ari 3 zJ) (zj (fNm 0) (zj (fC (.int 0)) (zj (fC (.int 2)) zB))))))
  (zO (sSet 2 (fA (ari 4 fn__law_book) (zj (fNm 0) (zj (fC (.int 20)) (zj (fNm 1) (zj (fA (ari 3 zJ) (zj (fNm 0) (zj (fC (.int 1)) (zj (fC (.int 4)) zB)))) zB))))))
  (zO (sSet 3 (fA (ari 4 fn__law_text) (zj (fNm 0) (zj (fC (.int 40)) hq12))))
  (zO (sSet 4 (fA (ari 4 fn__law_text) (zj (fNm 0) (zj (fC (.int 60)) hq12))))
  (zO (sIf (bT (f2 (eqD true) (fA (ari 3 zK) (zj (fNm 1) (zj (fA (ari 1 fn_first_book) (zj (fNm 1) zB)) (zj (fNm 3) zB)))) (fO lenD (zj (fNm 3) zB))))
  hq0
  sNx)
  (zO (sIf (bT (f2 (eqD true) (fA (ari 3 zK) (zj (fNm 1) (zj (fNm 2) (zj (fC (.str [])) zB)))) (fC (.int 0))))
  hq0
  sNx)
  (zO (sSet2 5 6 (fA (ari 3 fn_led) hq8))
  (zO (sSet 7 (fA (ari 3 zK) (zj (fNm 1) (zj (fNm 2) (zj (f2 addS (fNm 3) (fNm 4)) zB)))))
  (zO (sIf (bT (f2 gtI (fNm 7) (f2 addI hq3 (fO lenD (zj (fNm 4) zB)))))
  hq0
  sNx)
  (zO (sIf (bT (f2 ltI (fNm 7) (f2 subI hq3 (fO intD (zj (f2 (eqD true) (fNm 6) (fC (.str []))) zB)))))
  hq0
  sNx)
  (zO (sSet 8 (f2 addI hq3 (fA (ari 3 zK) (zj (fNm 1) (zj (fNm 2) (zj (fNm 4) zB))))))
  (zO (sIf (bAnd hq11 (bT (f2 (eqD true) (fNm 7) (fNm 8))))
  hq0
  sNx)
  (zO (sSet 9 (f2 addI (f2 addI (fNm 1) (fC (.int 1))) (fA (ari 3 zJ) (zj (fNm 0) (zj (fC (.int 3)) (zj (fC (.int 2)) zB))))))
  (zO (sSet 10 (fA (ari 3 fn_best_for) hq9))
  (zO (sSet 11 (fA (ari 3 fn_fewest_words) hq9))
  (zO (sIf (bOr (bT (f2 (eqD true) (fA (ari 3 zK) (zj (fNm 1) (zj (fNm 10) (zj (fNm 3) zB)))) (fNm 11))) (bT (f2 (inDD true) (fNm 10) hq6)))
  hq0
  sNx)
  (zO (sIf (bT (f2 (eqD true) (fO minLD (zj (fComp (fI lsD hq6) bTrue (fA (ari 3 zK) hq10) [1,3]) zB)) (fNm 11)))
  hq0
  sNx)
  (zO (sIf (bT (f2 gtI (fA (ari 3 fn_fewest_words) (zj (fNm 1) (zj (f2 addI (fNm 9) (fC (.int 1))) (zj (fNm 3) zB)))) (fNm 11)))
  hq0
  sNx)
  (zO (cutX (sFor 12 (fI tpD (fO mkT (zj (fC (.int 1)) (zj (fC (.int 2)) (zj (fC (.int 3)) zB)))))
  (zO hq5
  (zO (sSetA 15 (fCp (fI tpD hq1) bTrue (fA (ari 3 zK) hq4) [1,2]))
  (zO (sIf hq2
  hq0
  sNx)
  (zO (sIf hq7
  hq0
  sNx)
  (sIf (bT (f2 (eqD true) (f2 ixD hq1 (fM isLs idxID (fNm 15) (fNm 14))) (fNm 13)))
  hq0
  sNx)))))))
  (sRet (f2 (eqD false) (f2 ixD (fA (ari 3 fn_dearest) (zj (fNm 1) (zj (fNm 2) (zj (fC (.int 1)) zB)))) (fC (.int 1))) (fC (.int 1)))))))))))))))))))))))
def fn_law:List D→Rs D:=ye 16 g_law
end K35
namespace K35
open PySem L2 My Pg
abbrev gB:Rho→Out:=zO hq5
  (zO (sSetA 15 (fCp (fI tpD hq1) bTrue (fA (ari 3 zK) hq4) [1,2]))
  (zO (sIf hq2
  hq0
  sNx)
  (zO (sIf hq7
  hq0
  sNx)
  (sIf (bT (f2 (eqD true) (f2 ixD hq1 (fM isLs idxID (fNm 15) (fNm 14))) (fNm 13)))
  hq0
  sNx))))
section
variable {m:Nat}{B:List (List Nat)}
theorem neI (i:Int):eqD true (.int i) (.int i)=some (.bl false):=(eqD_int true i i).trans (by simp)
theorem turn_eq (h:Bb m B){n:Nat}(h1:1≤n)(h3:n≤3)(a0 a3 a4 a5 a6 a7 a8 a9 a10 a11 a13 a14 a15:Sl):∃c13 c14 c15,gB [a0,.fz (.int m),.fz (.tup (sT B)),a3,a4,a5,a6,a7,a8,a9,a10,a11,.fz (.int n),a13,a14,a15]=.nx [a0,.fz (.int m),.fz (.tup (sT B)),a3,a4,a5,a6,a7,a8,a9,a10,a11,.fz (.int n),c13,c14,c15]:=by
 have m2:=h.bk.m2
 have m4:=h.bk.m4
 have em:∀x∈zW m n,x.length=n∧LetOk m x:=fun x hx=>(even_mem m4).mp hx
 have ec:=even_cons m2 m4 n
 obtain⟨g1,i,g2,g3⟩:=optF_first (k:=fun x=>(Wc B x:Int)) (zW m n).tail ((zW m n).headD [])
 rw[← ec] at g1 g2 g3
 have dm:=List.mem_of_getElem? g2
 have el:(zW m n).length≤64:=by
  have h0:=goneOn_len m m4 [[]]
  have h1':=goneOn_len m m4 (zW m 1)
  have h2:=goneOn_len m m4 (zW m 2)
  have h0':(zW m 1).length≤4:=h0
  have h1'':(zW m 2).length≤4*(zW m 1).length:=h1'
  have h2'':(zW m 3).length≤4*(zW m 2).length:=h2
  have:n=1∨n=2∨n=3:=by omega
  rcases this with rfl|rfl|rfl <;>omega
 have e0:fn_even_book [.int m,.int n]=.ok (.tup (sT (zW m n))):=even_eq m4 h3
 have ed:=dearest_eq h h1 h3
 change ((zW m n)[i]? = some (drT m B n)) at g2
 change (∀x∈zW m n,(Wc B x:Int)≤(Wc B (drT m B n):Int)) at g1
 change (∀(j:Nat) (y:List Nat),j<i→(zW m n)[j]? = some y→(Wc B y:Int)<(Wc B (drT m B n):Int)) at g3
 change drT m B n∈zW m n at dm
 generalize drT m B n=d at *
 have ec:=compD_map (fe:=fA (ari 3 zK) hq4) (ρ0:=[.no,.fz (.int m),.fz (.tup (sT B))]) (l:=zW m n) (enc:=D.str) (fun x=>.int (Wc B x:Int)) fun x hx=>cA3 (a:=.int m) (b:=.tup (sT B)) (c:=.str x) rfl rfl rfl (words_for_eq h (em x hx).2 (by have:=(em x hx).1;omega))
 refine⟨.fz (.str d),.fz (.int (Wc B d:Int)),.fz (.lst ((zW m n).map fun x=>.int (Wc B x:Int))),?_⟩
 refine(zA (sSet2_ok (cA3 (a:=.int m) (b:=.tup (sT B)) (c:=.int n) rfl rfl rfl ed))).trans ?_
 refine(zA (sSetA_ok (fCp_ok (ds:=sT (zW m n)) (fI_ok (a:=.tup (sT (zW m n))) (cA2 (a:=.int m) (b:=.int n) rfl rfl e0) rfl) (by rw[sT_len];omega) ec))).trans ?_
 refine(zA (ifF (bOr_f (bT_ok (f2_ok (a:=.int (d.length:Int)) (b:=.int (n:Int)) rfl rfl (by rw[(em d dm).1];exact neI _))) (bT_ok (f2_ok (a:=.int (Wc B d:Int)) (b:=.int (Wc B d:Int)) (cA3 (a:=.int m) (b:=.tup (sT B)) (c:=.str d) rfl rfl rfl (words_for_eq h (em d dm).2 (by have:=(em d dm).1;omega))) rfl (neI _)))))).trans ?_
 refine(zA (ifF (bT_ok (f2_ok (a:=.int (Wc B d:Int)) (b:=.int (Wc B d:Int)) (fO_ok (ds:=[.lst ((zW m n).map fun x=>.int (Wc B x:Int))]) rfl (max_of dm g1)) rfl (neI _))))).trans ?_
 refine ifF (bT_ok (f2_ok (a:=.str d) (b:=.str d) (f2_ok (a:=.tup (sT (zW m n))) (b:=.int (i:Int)) (cA2 (a:=.int m) (b:=.int n) rfl rfl e0) (fM_ok (a:=.lst ((zW m n).map fun x=>.int (Wc B x:Int))) (b:=.int (Wc B d:Int)) rfl rfl rfl (idx_of (f:=fun x=>(Wc B x:Int)) g2 (fun j y hj hy z=>by have:=g3 j y hj hy;omega) (by omega))) ?_) rfl ((eqD_str true d d).trans (by simp))))
 obtain⟨hi,e⟩:=List.getElem?_eq_some_iff.mp g2
 have hi':i<(sT (zW m n)).length:=by rw[sT_len];exact hi
 refine(at_lst hi').trans ?_
 rw[← List.getElem?_eq_getElem hi']
 show((zW m n).map D.str)[i]? = _
 rw[List.getElem?_map,g2];rfl
end
theorem ab_sub {m u:Nat}(m2:2≤m)(m3:m≤3)(hu:u<2):∀B∈AB m (m+1+u),B∈AB m (m+1+u+1):=by
 have k:((AB 2 3).all fun B=>decide (B∈AB 2 4))=true∧((AB 2 4).all fun B=>decide (B∈AB 2 5))=true∧((AB 3 4).all fun B=>decide (B∈AB 3 5))=true∧((AB 3 5).all fun B=>decide (B∈AB 3 6))=true:=⟨by kernel_rfl,by kernel_rfl,by kernel_rfl,by kernel_rfl⟩
 simp only[List.all_eq_true,decide_eq_true_eq] at k
 have:(m=2∨m=3)∧(u=0∨u=1):=by omega
 rcases this with⟨rfl|rfl,rfl|rfl⟩
 ·exact k.1
 ·exact k.2.1
 ·exact k.2.2.1
 ·exact k.2.2.2
theorem law_true (ns:List Int)(hn:ns.length≤63):fn_law [.lst (ns.map .int)]=.ok (.bl true):=by
 have hd:=drawn_range ns 0 (m:=2) (by decide)
 obtain⟨r,hr⟩:=Int.eq_ofNat_of_zero_le hd.1
 rw[hr] at hd
 have m2:2≤2+r:=by omega
 have m3:2+r≤3:=by omega
 have hmm:(2:Int)+(r:Int)=((2+r:Nat):Int):=by omega
 generalize hm:2+r=m at m2 m3 hmm
 have m4:m≤4:=by omega
 have hd1:=drawn_range ns 1 (m:=4) (by decide)
 obtain⟨t,ht⟩:=Int.eq_ofNat_of_zero_le hd1.1
 rw[ht] at hd1
 have t3:t≤3:=by omega
 have hd3:=drawn_range ns 3 (m:=2) (by decide)
 obtain⟨u,hu⟩:=Int.eq_ofNat_of_zero_le hd3.1
 rw[hu] at hd3
 have u2:u<2:=by omega
 have hs:(m:Int)+1+(u:Int)=((m+1+u:Nat):Int):=by omega
 have hs1:((m+1+u:Nat):Int)+1=((m+1+u+1:Nat):Int):=by omega
 have hc:Comb m (m+1+u):=by
  have:m=2∨m=3:=by omega
  rcases this with rfl|rfl
  ·exact .inl ⟨rfl,by omega,by omega⟩
  ·exact .inr (.inl ⟨rfl,by omega,by omega⟩)
 have hc1:Comb m (m+1+u+1):=by
  have:m=2∨m=3:=by omega
  rcases this with rfl|rfl
  ·exact .inl ⟨rfl,by omega,by omega⟩
  ·exact .inr (.inl ⟨rfl,by omega,by omega⟩)
 have sub:=ab_sub m2 m3 u2
 have g:=bkF_gr ns 20 m2 m4 t
 have h:Bb m (bkF ns 20 m t):=⟨gr_pcs m2 m4 (by omega) g,g.book m2 m4⟩
 have eB:=book_eq ns hn 20 m2 m4 t (by omega) (by omega)
 have ex:=text_eq ns hn 40 m2 m4 10 (by omega)
 have ey:=text_eq ns hn 60 m2 m4 10 (by omega)
 have lx:=textF_ok ns 40 m2 m4 10
 have ly:=textF_ok ns 60 m2 m4 10
 have nx:(textF ns 40 m 10).length≤10:=textF_len ns 40 m (long:=10)
 have ny:(textF ns 60 m 10).length≤10:=textF_len ns 60 m (long:=10)
 change fn__law_text [scD ns,.int 40,.int m,.int 10]=_ at ex
 change fn__law_text [scD ns,.int 60,.int m,.int 10]=_ at ey
 change fn__law_book [scD ns,.int 20,.int m,.int t]=_ at eB
 change LetOk m (textF ns 40 m 10) at lx
 change LetOk m (textF ns 60 m 10) at ly
 generalize bkF ns 20 m t=B at h eB
 generalize textF ns 40 m 10=x at ex lx nx
 generalize textF ns 60 m 10=y at ey ly ny
 generalize m+1+u=s at hs hs1 hc hc1 sub
 have kf:Bb m (kids m []):=by
  have:=ab_mem hc (B:=kids m []) (by rw[ab_cons hc];exact List.mem_cons_self)
  exact⟨this.1,isBook_book this.1 this.2.1⟩
 have bb:∀{C:List (List Nat)},C∈AB m s→Bb m C:=fun hC=>⟨(ab_mem hc hC).1,isBook_book (ab_mem hc hC).1 (ab_mem hc hC).2.1⟩
 have wx:zK [.int m,.tup (sT B),.str x]=.ok (.int (Wc B x:Int)):=words_for_eq h lx (by omega)
 have wy:zK [.int m,.tup (sT B),.str y]=.ok (.int (Wc B y:Int)):=words_for_eq h ly (by omega)
 have el:=led_eq h.pcs h.isB (strict h.bk.srt h.bk.nd) lx (l:=x) (by omega)
 have eb:=best_for_eq hc lx (l:=x) (by omega)
 have ef:=fewest_eq hc lx (l:=x) (by omega)
 have ef1:=fewest_eq hc1 lx (l:=x) (by omega)
 have fle:Wc (bfB m (s+1) x) x≤Wc (bfB m s x) x:=bfB_le hc1 x (sub _ (bfB_mem hc x))
 generalize ((cutF B x).1.map (wd B)).flatten=sg at el
 refine z8 ?_
 refine(zA (ρ':=[.fz (scD ns),.fz (.int m),.no,.no,.no,.no,.no,.no,.no,.no,.no,.no,.no,.no,.no,.no]) (zM ((addI_ok (i:=2) (j:=(r:Int)) rfl ((cA3 (a:=scD ns) (b:=.int 0) (c:=.int 2) rfl rfl rfl (drawn_eq ns hn 0 2 (by decide) (by decide) (by decide))).trans (by rw[hr]))).trans (by rw[hmm])))).trans ?_
 refine(zA (ρ':=[.fz (scD ns),.fz (.int m),.fz (.tup (sT B)),.no,.no,.no,.no,.no,.no,.no,.no,.no,.no,.no,.no,.no]) (zM (cA4 (a:=scD ns) (b:=.int 20) (c:=.int m) (d:=.int t) rfl rfl rfl ((cA3 (a:=scD ns) (b:=.int 1) (c:=.int 4) rfl rfl rfl (drawn_eq ns hn 1 4 (by decide) (by decide) (by decide))).trans (by rw[ht])) eB))).trans ?_
 refine(zA (ρ':=[.fz (scD ns),.fz (.int m),.fz (.tup (sT B)),.fz (.str x),.no,.no,.no,.no,.no,.no,.no,.no,.no,.no,.no,.no]) (zM (cA4 (a:=scD ns) (b:=.int 40) (c:=.int m) (d:=.int 10) rfl rfl rfl rfl ex))).trans ?_
 refine(zA (ρ':=[.fz (scD ns),.fz (.int m),.fz (.tup (sT B)),.fz (.str x),.fz (.str y),.no,.no,.no,.no,.no,.no,.no,.no,.no,.no,.no]) (zM (cA4 (a:=scD ns) (b:=.int 60) (c:=.int m) (d:=.int 10) rfl rfl rfl rfl ey))).trans ?_
 refine(zA (ifF (bT_ok (f2_ok (a:=.int (x.length:Int)) (b:=.int (x.length:Int)) (cA3 (a:=.int m) (b:=.tup (sT (kids m []))) (c:=.str x) rfl ((fA1 (a:=.int m) rfl).trans first_book_eq) rfl ((words_for_eq kf lx (by omega)).trans (by rw[Wc_first m4 lx]))) rfl (neI _))))).trans ?_
 refine(zA (ifF (bT_ok (f2_ok (a:=.int 0) (b:=.int 0) (cA3 (a:=.int m) (b:=.tup (sT B)) (c:=.str []) rfl rfl rfl ((words_for_eq h (l:=[]) (fun _ z=>nomatch z) (by decide)).trans rfl)) rfl rfl)))).trans ?_
 refine(zA (ρ':=[.fz (scD ns),.fz (.int m),.fz (.tup (sT B)),.fz (.str x),.fz (.str y),.fz (.str sg),.fz (.str (cutF B x).2),.no,.no,.no,.no,.no,.no,.no,.no,.no]) (sSet2_ok (cA3 (a:=.int m) (b:=.tup (sT B)) (c:=.str x) rfl rfl rfl el))).trans ?_
 refine(zA (ρ':=[.fz (scD ns),.fz (.int m),.fz (.tup (sT B)),.fz (.str x),.fz (.str y),.fz (.str sg),.fz (.str (cutF B x).2),.fz (.int (Wc B (x++y):Int)),.no,.no,.no,.no,.no,.no,.no,.no]) (zM (cA3 (a:=.int m) (b:=.tup (sT B)) (c:=.str (x++y)) rfl rfl (f2_ok (a:=.str x) (b:=.str y) rfl rfl (addS_ok (by omega))) (words_for_eq h (lx.app ly) (by rw[List.length_append];omega))))).trans ?_
 refine(zA (ifF (bT_ok (f2_ok (a:=.int (Wc B (x++y):Int)) (b:=.int ((Wc B x:Int)+(y.length:Int))) rfl (addI_ok (cA3 (a:=.int m) (b:=.tup (sT B)) (c:=.str x) rfl rfl rfl wx) rfl) (congrArg (fun z=>some (D.bl z)) (decide_eq_false (by have:=Wc_le B x y;omega))))))).trans ?_
 have hlow:¬((Wc B (x++y):Int)<(Wc B x:Int) - (if (!decide ((cutF B x).2=[]))=true then 1 else 0)):=by
  have h1:=Wc_low B x y
  have h2:Wc B x=(cutF B x).1.length+(if (cutF B x).2=[] then 0 else 1):=rfl
  by_cases z:(cutF B x).2=[]
  ·rw[decide_eq_true z];rw[if_pos z] at h2;simp;omega
  ·rw[decide_eq_false z];rw[if_neg z] at h2;simp;omega
 refine(zA (ifF (bT_ok (f2_ok (a:=.int (Wc B (x++y):Int)) (b:=.int ((Wc B x:Int) - (if (!decide ((cutF B x).2=[]))=true then 1 else 0))) rfl (subI_ok (cA3 (a:=.int m) (b:=.tup (sT B)) (c:=.str x) rfl rfl rfl wx) (fO_ok (ds:=[.bl (!decide ((cutF B x).2=[]))]) (aCons_ok (f2_ok (a:=.str (cutF B x).2) (b:=.str []) rfl rfl (eqD_str true _ [])) rfl) rfl)) (congrArg (fun z=>some (D.bl z)) (decide_eq_false hlow)))))).trans ?_
 refine(zA (ρ':=[.fz (scD ns),.fz (.int m),.fz (.tup (sT B)),.fz (.str x),.fz (.str y),.fz (.str sg),.fz (.str (cutF B x).2),.fz (.int (Wc B (x++y):Int)),.fz (.int ((Wc B x:Int)+(Wc B y:Int))),.no,.no,.no,.no,.no,.no,.no]) (zM (addI_ok (cA3 (a:=.int m) (b:=.tup (sT B)) (c:=.str x) rfl rfl rfl wx) (cA3 (a:=.int m) (b:=.tup (sT B)) (c:=.str y) rfl rfl rfl wy)))).trans ?_
 have e12:bAnd hq11 (bT (f2 (eqD true) (fNm 7) (fNm 8))) [.fz (scD ns),.fz (.int m),.fz (.tup (sT B)),.fz (.str x),.fz (.str y),.fz (.str sg),.fz (.str (cutF B x).2),.fz (.int (Wc B (x++y):Int)),.fz (.int ((Wc B x:Int)+(Wc B y:Int))),.no,.no,.no,.no,.no,.no,.no]=.ok false:=by
  by_cases z:(cutF B x).2=[]
  ·refine(bAnd_ok (bT_ok (f2_ok (a:=.str (cutF B x).2) (b:=.str []) rfl rfl (eqD_str false _ []))) (bT_ok (b:=false) (f2_ok (a:=.int (Wc B (x++y):Int)) (b:=.int ((Wc B x:Int)+(Wc B y:Int))) rfl rfl (by rw[Wc_two z,Int.natCast_add];exact neI _)))).trans (by rw[Bool.and_false])
  ·exact bAnd_f1 (bT_ok (f2_ok (a:=.str (cutF B x).2) (b:=.str []) rfl rfl ((eqD_str false _ []).trans (by rw[decide_eq_false z];rfl))))
 refine(zA (ifF e12)).trans ?_
 refine(zA (ρ':=[.fz (scD ns),.fz (.int m),.fz (.tup (sT B)),.fz (.str x),.fz (.str y),.fz (.str sg),.fz (.str (cutF B x).2),.fz (.int (Wc B (x++y):Int)),.fz (.int ((Wc B x:Int)+(Wc B y:Int))),.fz (.int s),.no,.no,.no,.no,.no,.no]) (zM ((addI_ok (addI_ok (i:=(m:Int)) (j:=1) rfl rfl) ((cA3 (a:=scD ns) (b:=.int 3) (c:=.int 2) rfl rfl rfl (drawn_eq ns hn 3 2 (by decide) (by decide) (by decide))).trans (by rw[hu]))).trans (by rw[hs])))).trans ?_
 refine(zA (ρ':=[.fz (scD ns),.fz (.int m),.fz (.tup (sT B)),.fz (.str x),.fz (.str y),.fz (.str sg),.fz (.str (cutF B x).2),.fz (.int (Wc B (x++y):Int)),.fz (.int ((Wc B x:Int)+(Wc B y:Int))),.fz (.int s),.fz (.tup (sT (bfB m s x))),.no,.no,.no,.no,.no]) (zM (cA3 (a:=.int m) (b:=.int s) (c:=.str x) rfl rfl rfl eb))).trans ?_
 refine(zA (ρ':=[.fz (scD ns),.fz (.int m),.fz (.tup (sT B)),.fz (.str x),.fz (.str y),.fz (.str sg),.fz (.str (cutF B x).2),.fz (.int (Wc B (x++y):Int)),.fz (.int ((Wc B x:Int)+(Wc B y:Int))),.fz (.int s),.fz (.tup (sT (bfB m s x))),.fz (.int (Wc (bfB m s x) x:Int)),.no,.no,.no,.no]) (zM (cA3 (a:=.int m) (b:=.int s) (c:=.str x) rfl rfl rfl ef))).trans ?_
 have hb:=bfB_mem hc x
 refine(zA (ifF (bOr_f (bT_ok (f2_ok (a:=.int (Wc (bfB m s x) x:Int)) (b:=.int (Wc (bfB m s x) x:Int)) (cA3 (a:=.int m) (b:=.tup (sT (bfB m s x))) (c:=.str x) rfl rfl rfl (words_for_eq (bb hb) lx (by omega))) rfl (neI _))) (bT_ok (f2_ok (a:=.tup (sT (bfB m s x))) (b:=encL (AB m s)) rfl (cA2 (a:=.int m) (b:=.int s) rfl rfl (ab_eq hc)) (not_in hb)))))).trans ?_
 have ec:=compD_map (fe:=fA (ari 3 zK) hq10) (ρ0:=[.no,.fz (.int m),.fz (.str x)]) (l:=AB m s) (enc:=fun C=>D.tup (sT C)) (fun C=>.int (Wc C x:Int)) fun C hC=>cA3 (a:=.int m) (b:=.tup (sT C)) (c:=.str x) rfl rfl rfl (words_for_eq (bb hC) lx (by omega))
 refine(zA (ifF (bT_ok (f2_ok (a:=.int (Wc (bfB m s x) x:Int)) (b:=.int (Wc (bfB m s x) x:Int)) (fO_ok (ds:=[.lst ((AB m s).map fun C=>.int (Wc C x:Int))]) (aCons_ok (fComp_ok (ds:=(AB m s).map fun C=>.tup (sT C)) (fI_ok (a:=encL (AB m s)) (cA2 (a:=.int m) (b:=.int s) rfl rfl (ab_eq hc)) rfl) (by rw[List.length_map];have:=ab_len hc;omega) ec) rfl) (min_of (f:=fun C=>(Wc C x:Int)) hb fun C hC=>Int.ofNat_le.mpr (bfB_le hc x hC))) rfl (neI _))))).trans ?_
 refine(zA (ifF (bT_ok (f2_ok (a:=.int (Wc (bfB m (s+1) x) x:Int)) (b:=.int (Wc (bfB m s x) x:Int)) (cA3 (a:=.int m) (b:=.int ((s+1:Nat):Int)) (c:=.str x) rfl ((addI_ok (i:=(s:Int)) (j:=1) rfl rfl).trans (by rw[hs1])) rfl ef1) rfl (congrArg (fun z=>some (D.bl z)) (decide_eq_false (by omega))))))).trans ?_
 obtain ⟨ρ',e,c12,c13,c14,c15,rfl⟩:=forD_inv (i:=12) (g:=gB) (l:=[1,2,3]) (enc:=fun(k:Nat)=>D.int (k:Int)) (ρ:=[.fz (scD ns),.fz (.int m),.fz (.tup (sT B)),.fz (.str x),.fz (.str y),.fz (.str sg),.fz (.str (cutF B x).2),.fz (.int (Wc B (x++y):Int)),.fz (.int ((Wc B x:Int)+(Wc B y:Int))),.fz (.int s),.fz (.tup (sT (bfB m s x))),.fz (.int (Wc (bfB m s x) x:Int)),.no,.no,.no,.no]) (fun _ ρ=>∃c12 c13 c14 c15,ρ=[.fz (scD ns),.fz (.int m),.fz (.tup (sT B)),.fz (.str x),.fz (.str y),.fz (.str sg),.fz (.str (cutF B x).2),.fz (.int (Wc B (x++y):Int)),.fz (.int ((Wc B x:Int)+(Wc B y:Int))),.fz (.int s),.fz (.tup (sT (bfB m s x))),.fz (.int (Wc (bfB m s x) x:Int)),c12,c13,c14,c15]) ⟨_,_,_,_,rfl⟩ (by
  rintro k n ρ hk ⟨c12,c13,c14,c15,rfl⟩
  have hm:=List.mem_of_getElem? hk
  have hn3:1≤n∧n≤3:=by simp at hm;omega
  obtain⟨d13,d14,d15,e⟩:=turn_eq h hn3.1 hn3.2 (.fz (scD ns)) (.fz (.str x)) (.fz (.str y)) (.fz (.str sg)) (.fz (.str (cutF B x).2)) (.fz (.int (Wc B (x++y):Int))) (.fz (.int ((Wc B x:Int)+(Wc B y:Int)))) (.fz (.int s)) (.fz (.tup (sT (bfB m s x)))) (.fz (.int (Wc (bfB m s x) x:Int))) c13 c14 c15
  exact⟨_,e,_,_,_,_,rfl⟩)
 refine(zA (cutX_nx ((sFor_ok (ds:=[.int 1,.int 2,.int 3]) rfl).trans e))).trans ?_
 have e1:=dearest_eq h (n:=1) (by decide) (by decide)
 have w1:Wc B (drT m B 1)=1:=by
  have dm:drT m B 1∈zW m 1:=by rw[even_cons m2 m4 1];exact optF_mem _ _
  have hl:=((even_mem m4).mp dm).1
  match drT m B 1,hl with
  | [c],_=>exact Wc_one B c
 rw[w1] at e1
 exact sRet_ok (f2_ok (a:=.int 1) (b:=.int 1) (f2_ok (a:=.tup [.str (drT m B 1),.int 1]) (b:=.int 1) (cA3 (a:=.int m) (b:=.tup (sT B)) (c:=.int 1) rfl rfl rfl e1) rfl rfl) rfl rfl)
end K35
namespace K35
open PySem L2 PyProof.Rows
open PySem.Challenge
open My
open Pg
def top (i:Nat):Stmt:=PySem.Challenge.pw_piecebooks_k35_whole_costs.main.body.getD i (.Pass ⟨0,0,0,0⟩)
abbrev s__law_cell:Stmt:=top 51
abbrev s__law_drawn:Stmt:=top 52
abbrev s__law_book:Stmt:=top 53
abbrev s__law_text:Stmt:=top 54
abbrev s_is_rising:Stmt:=top 16
abbrev s_is_whole:Stmt:=top 8
abbrev s_is_between:Stmt:=top 9
abbrev s_is_number_of_letters:Stmt:=top 15
abbrev s_is_text_of:Stmt:=top 10
abbrev s_are_pieces:Stmt:=top 17
abbrev s_first_pair:Stmt:=top 23
abbrev s_gone_on:Stmt:=top 19
abbrev s_is_apart:Stmt:=top 22
abbrev s_is_inner:Stmt:=top 21
abbrev s_first_text_apart:Stmt:=top 24
abbrev s_first_paper:Stmt:=top 25
abbrev s_is_book:Stmt:=top 26
abbrev s_require_book:Stmt:=top 18
abbrev s_require_text_of:Stmt:=top 11
abbrev s_cut_by:Stmt:=top 29
abbrev s_bits_for:Stmt:=top 31
abbrev s_word_for:Stmt:=top 46
abbrev s_words_of:Stmt:=top 47
abbrev s_led_by:Stmt:=top 48
abbrev s_led:Stmt:=top 49
abbrev s_words_by:Stmt:=top 40
abbrev s_words_for:Stmt:=top 41
abbrev s_is_size:Stmt:=top 33
abbrev s_require_size:Stmt:=top 34
abbrev s_even_book:Stmt:=top 28
abbrev s_first_book:Stmt:=top 27
abbrev s_most_partings:Stmt:=top 35
abbrev s_parted:Stmt:=top 20
abbrev s_all_parted:Stmt:=top 36
abbrev s_all_books:Stmt:=top 37
abbrev s_best_for:Stmt:=top 42
abbrev s_fewest_words:Stmt:=top 43
abbrev s_require_between:Stmt:=top 12
abbrev s_dearest:Stmt:=top 44
abbrev s_law:Stmt:=top 55
structure Txt (K:PySem.W.Frag)(mg:Str→Option Value) where
 d__law_cell:Dn K mg "_law_cell" s__law_cell ["_law_script", "_law_k"]
 d__law_drawn:Dn K mg "_law_drawn" s__law_drawn ["_law_script", "_law_k", "_law_many"]
 d__law_book:Dn K mg "_law_book" s__law_book ["_law_script", "_law_at", "_law_many", "_law_turns"]
 d__law_text:Dn K mg "_law_text" s__law_text ["_law_script", "_law_at", "_law_many", "_law_long"]
 d_is_rising:Dn K mg "is_rising" s_is_rising ["texts"]
 d_is_whole:Dn K mg "is_whole" s_is_whole ["thing"]
 d_is_between:Dn K mg "is_between" s_is_between ["thing", "least", "most"]
 d_is_number_of_letters:Dn K mg "is_number_of_letters" s_is_number_of_letters ["thing"]
 d_is_text_of:Dn K mg "is_text_of" s_is_text_of ["many", "thing"]
 d_are_pieces:Dn K mg "are_pieces" s_are_pieces ["many", "thing"]
 d_first_pair:Dn K mg "first_pair" s_first_pair ["pieces"]
 d_gone_on:Dn K mg "gone_on" s_gone_on ["many", "texts"]
 d_is_apart:Dn K mg "is_apart" s_is_apart ["pieces", "text"]
 d_is_inner:Dn K mg "is_inner" s_is_inner ["pieces", "text"]
 d_first_text_apart:Dn K mg "first_text_apart" s_first_text_apart ["many", "pieces"]
 d_first_paper:Dn K mg "first_paper" s_first_paper ["many", "pieces"]
 d_is_book:Dn K mg "is_book" s_is_book ["many", "thing"]
 d_require_book:Dn K mg "require_book" s_require_book ["many", "thing"]
 d_require_text_of:Dn K mg "require_text_of" s_require_text_of ["many", "thing"]
 d_cut_by:Dn K mg "cut_by" s_cut_by ["book", "text"]
 d_bits_for:Dn K mg "bits_for" s_bits_for ["size"]
 d_word_for:Dn K mg "word_for" s_word_for ["number", "bits"]
 d_words_of:Dn K mg "words_of" s_words_of ["book"]
 d_led_by:Dn K mg "led_by" s_led_by ["book", "text"]
 d_led:Dn K mg "led" s_led ["many", "book", "text"]
 d_words_by:Dn K mg "words_by" s_words_by ["book", "text"]
 d_words_for:Dn K mg "words_for" s_words_for ["many", "book", "text"]
 d_is_size:Dn K mg "is_size" s_is_size ["many", "thing"]
 d_require_size:Dn K mg "require_size" s_require_size ["many", "thing"]
 d_even_book:Dn K mg "even_book" s_even_book ["many", "length"]
 d_first_book:Dn K mg "first_book" s_first_book ["many"]
 d_most_partings:Dn K mg "most_partings" s_most_partings ["many", "size"]
 d_parted:Dn K mg "parted" s_parted ["many", "pieces", "piece"]
 d_all_parted:Dn K mg "all_parted" s_all_parted ["many", "books"]
 d_all_books:Dn K mg "all_books" s_all_books ["many", "size"]
 d_best_for:Dn K mg "best_for" s_best_for ["many", "size", "text"]
 d_fewest_words:Dn K mg "fewest_words" s_fewest_words ["many", "size", "text"]
 d_require_between:Dn K mg "require_between" s_require_between ["thing", "least", "most"]
 d_dearest:Dn K mg "dearest" s_dearest ["many", "book", "length"]
 d_law:Dn K mg "law" s_law ["_law_script"]
 v_FEWEST_LETTERS:Value
 c_FEWEST_LETTERS:mg "FEWEST_LETTERS" = some v_FEWEST_LETTERS
 r_FEWEST_LETTERS:RelV (.int (2)) v_FEWEST_LETTERS
 v_LETTERS:Value
 c_LETTERS:mg "LETTERS" = some v_LETTERS
 r_LETTERS:RelV (.str (T [97,98,99,100])) v_LETTERS
 v_LONGEST_TEXT:Value
 c_LONGEST_TEXT:mg "LONGEST_TEXT" = some v_LONGEST_TEXT
 r_LONGEST_TEXT:RelV (.int (5)) v_LONGEST_TEXT
 v_MOST_PIECES:Value
 c_MOST_PIECES:mg "MOST_PIECES" = some v_MOST_PIECES
 r_MOST_PIECES:RelV (.int (32)) v_MOST_PIECES
 n_all:mg "all" = none
 n_any:mg "any" = none
 n_bool:mg "bool" = none
 n_dict:mg "dict" = none
 n_int:mg "int" = none
 n_isinstance:mg "isinstance" = none
 n_len:mg "len" = none
 n_list:mg "list" = none
 n_max:mg "max" = none
 n_min:mg "min" = none
 n_range:mg "range" = none
 n_sorted:mg "sorted" = none
 n_str:mg "str" = none
 n_tuple:mg "tuple" = none
 n_zip:mg "zip" = none
 x_NoBook:Own K mg "NoBook"
 x_NoLetters:Own K mg "NoLetters"
 x_NoSize:Own K mg "NoSize"
def clOf {K:PySem.W.Frag}{mg:Str→Option Value}(t:Txt K mg):Nat→Addr
 | 1=>t.x_NoBook.C
 | 3=>t.x_NoLetters.C
 | 5=>t.x_NoSize.C
 | _=>0
section
variable {P:Program}{w:World}{K:PySem.W.Frag}{mg:Str→Option Value}{base:Heap}
abbrev FO (P:Program)(w:World)(base:Heap)(t:Txt K mg)(k:Nat){x:Str}{st:Stmt}{ps:List Str}(d:Dn K mg x st ps)(fn:List D→Rs D)(n:Nat):Prop:=FnOk P w K mg base (CX1 P w) k d.f d.fd ps (spD K (clOf t) fn n)
variable {c_best_for P_best_for c_dearest P_dearest:Addr}
abbrev tabsZ (c_best_for P_best_for c_dearest P_dearest:Addr):Tbs:=[("best_for", c_best_for,P_best_for),("dearest", c_dearest,P_dearest)]
abbrev FZ (P:Program)(w:World)(base:Heap)(Ts:Tbs)(t:Txt K mg)(k:Nat){x:Str}{st:Stmt}{ps:List Str}(d:Dn K mg x st ps)(fn:List D→Rs D)(n:Nat):Prop:=FnOk P w K mg base (CX1 P w) k d.f d.fd ps (spZ (lamsOf Ts) (spD K (clOf t) fn n))
abbrev N__law_cell:List Str:=["_law_script", "_law_k"]
theorem sc__law_cell:FnScope N__law_cell ["_law_script", "_law_k"] (zm s__law_cell):=fsc (by decide +kernel)
theorem ok__law_cell (t:Txt K mg):FO P w base t 1 t.d__law_cell fn__law_cell 2:=(fnDD 2 2 0 g__law_cell (clOf t) t.d__law_cell sc__law_cell fun _ _ _ _ _ _ hr =>
   (zu (xs_if (xt_cmp (op_eqD hr.units) o_eq (xv 0) (xe_lst zq) (nomark _))
   (zy (zG (yh op_mulS o_mulI zF (xv 1))))
   yo)
   (zy (zG (yh op_add o_addI (xe_ix (xv 0) (yh op_mod o_modI (xv 1) (yg call_len n_len rfl t.n_len boot_len (zf (xv 0) zq zb) zb)) (fun _ _=>rfl)) (yh op_mulS o_mulI zF (yh op_fdivS o_fdivI (xv 1) (yg call_len n_len rfl t.n_len boot_len (zf (xv 0) zq zb) zb))))))):FO P w base t 1 t.d__law_cell (ye 2 g__law_cell) 2)
abbrev N__law_drawn:List Str:=["_law_script", "_law_k", "_law_many", "_law_cell_here"]
theorem sc__law_drawn:FnScope N__law_drawn ["_law_script", "_law_k", "_law_many"] (zm s__law_drawn):=fsc (by decide +kernel)
theorem ok__law_drawn (t:Txt K mg):FO P w base t 2 t.d__law_drawn zJ 3:=(fnDD 4 3 1 g__law_drawn (clOf t) t.d__law_drawn sc__law_drawn fun _ _ _ _ _ _ hr =>
   (zu (zZ (i:=3) sc__law_drawn.nd rfl (Or.inl rfl) (yh op_mod o_modI (yh op_add o_addI (yh op_mulS o_mulI (yh op_mod o_modI (zx (ok__law_cell t) hr zQ (zf (xv 0) (zf (xv 1) zq zb) zb) zb) zF) zF) (yh op_mulS o_mulI zF (yh op_add o_addI (xv 1) zF))) zF))
   (zu (zZ (i:=3) sc__law_drawn.nd rfl (Or.inl rfl) (yh op_mod o_modI (yh op_add o_addI (yh op_mulS o_mulI (xv 3) (xv 3)) (yh op_fdivS o_fdivI (xv 3) zF)) zF))
   (zy (zG (yh op_mod o_modI (yh op_fdivS o_fdivI (yh op_mod o_modI (yh op_add o_addI (yh op_mulS o_mulI (xv 3) (xv 3)) (yh op_fdivS o_fdivI (xv 3) zF)) zF) zF) (xv 2)))))):FO P w base t 2 t.d__law_drawn (ye 4 g__law_drawn) 3)
abbrev N__law_book:List Str:=["_law_script", "_law_at", "_law_many", "_law_turns", "_law_found", "_law_k", "_law_piece"]
theorem sc__law_book:FnScope N__law_book ["_law_script", "_law_at", "_law_many", "_law_turns"] (zm s__law_book):=fsc (by decide +kernel)
theorem ok__law_book (t:Txt K mg):FO P w base t 3 t.d__law_book fn__law_book 4:=(fnDD 7 4 2 g__law_book (clOf t) t.d__law_book sc__law_book fun _ _ _ _ _ _ hr =>
   (zu (xs_compO (j:=4) sc__law_book.nd rfl rfl (x := "_law_k") (caps:=[]) (comp_ok (fs:=zm s__law_book) (N:=N__law_book) rfl rfl (by decide +kernel)) rfl (xi_range1 rfl t.n_range (zf (xv 2) zq zb) rfl) ⟨fun _ _ _ _ _=>(yd (i:=0) (nd_of (N:=["_law_k"]) rfl (by decide +kernel)) rfl (Or.inl rfl)),fun _ _ _ _ _=>xts_nil,fun _ _ _ _ _=>(xe_ix (xe_strK [97,98,99,100] (by decide +kernel)) (xv 0) (fun _ _=>rfl))⟩ rfl)
   (zu (xs_nox (xs_for (i:=5) PassesOwn.never rfl (xi_range1 rfl t.n_range (zf (xv 3) zq zb) rfl) (yd (i:=5) sc__law_book.nd rfl (Or.inl rfl))
   (zu (xs_pop (j:=6) sc__law_book.nd rfl (Or.inr rfl) (pv 4) (xe_fl (i:=4) (zx (ok__law_drawn t) hr passN (zf (xv 0) (zf (yh op_add o_addI (xv 1) (xv 5)) (zf (yg call_len n_len rfl t.n_len boot_len (zf (xv 4) zq zb) zb) zq zV) star_bin) zb) zb)) ⟨zV,rfl,rfl,rfl,rfl⟩)
   (zy (xs_ice (i:=4) (xs_setO (i:=4) sc__law_book.nd rfl (Or.inl rfl) (xl_sorted rfl t.n_sorted boot_sorted (XL.xe (xl_cat (xv 4) (xe_comp (x := "_law_j") (caps:=[6]) (comp_ok (fs:=zm s__law_book) (N:=N__law_book) rfl rfl (by decide +kernel)) rfl (xi_range1 rfl t.n_range (zf (xv 2) zq zb) rfl) ⟨fun _ _ _ _ _=>(yd (i:=0) (nd_of (N:=["_law_j", "_law_piece"]) rfl (by decide +kernel)) rfl (Or.inl rfl)),fun _ _ _ _ _=>xts_nil,fun _ _ _ _ _=>(yh op_addS o_addS (xv 1) (xe_ix (xe_strK [97,98,99,100] (by decide +kernel)) (xv 0) (fun _ _=>rfl)))⟩))) star_bin)))))))
   (zy (xs_ice (i:=4) (zG (xe_callTy call_tuple_of n_tup rfl t.n_tuple boot_tuple (zf (xv 4) zq zb) zb)))))):FO P w base t 3 t.d__law_book (ye 7 g__law_book) 4)
abbrev N__law_text:List Str:=["_law_script", "_law_at", "_law_many", "_law_long", "_law_size"]
theorem sc__law_text:FnScope N__law_text ["_law_script", "_law_at", "_law_many", "_law_long"] (zm s__law_text):=fsc (by decide +kernel)
theorem ok__law_text (t:Txt K mg):FO P w base t 3 t.d__law_text fn__law_text 4:=(fnDD 5 4 2 g__law_text (clOf t) t.d__law_text sc__law_text fun _ _ _ _ _ _ hr =>
   (zu (zZ (i:=4) sc__law_text.nd rfl (Or.inl rfl) (zx (ok__law_drawn t) hr zQ (zf (xv 0) (zf (xv 1) (zf (yh op_add o_addI (xv 3) zF) zq star_bin) zb) zb) zb))
   (zy (zG (xe_join (xe_strK [] (by decide +kernel)) (xe_comp (x := "_law_k") (caps:=[0,2,1]) (comp_ok (fs:=zm s__law_text) (N:=N__law_text) rfl rfl (by decide +kernel)) rfl (xi_range1 rfl t.n_range (zf (xv 4) zq zb) rfl) ⟨fun _ _ _ _ _=>(yd (i:=0) (nd_of (N:=["_law_k", "_law_script", "_law_many", "_law_at"]) rfl (by decide +kernel)) rfl (Or.inl rfl)),fun _ _ _ _ _=>xts_nil,fun _ _ _ _ _=>(xe_ix (xe_strK [97,98,99,100] (by decide +kernel)) (zx (ok__law_drawn t) hr passN (zf (xv 1) (zf (yh op_add o_addI (yh op_add o_addI (xv 3) zF) (xv 0)) (zf (xv 2) zq zb) star_bin) zb) zb) (fun _ _=>rfl))⟩) ⟨rfl,rfl,rfl,rfl,rfl⟩)))):FO P w base t 3 t.d__law_text (ye 5 g__law_text) 4)
abbrev N_is_rising:List Str:=["texts"]
theorem sc_is_rising:FnScope N_is_rising ["texts"] (zm s_is_rising):=fsc (by decide +kernel)
theorem ok_is_rising (t:Txt K mg):FO P w base t 1 t.d_is_rising fn_is_rising 1:=(fnDD 1 1 0 g_is_rising (clOf t) t.d_is_rising sc_is_rising fun _ _ _ _ _ _ hr =>
   (zy (zG (yg (call_all rfl) n_all rfl t.n_all boot_all (zf (XL.xe (xl_compZ (x := "one") (y := "other") (caps:=[]) (comp_ok (fs:=zm s_is_rising) (N:=N_is_rising) rfl rfl (by decide +kernel)) rfl rfl t.n_zip (xv 0) (xe_slice (xv 0) (xo_some zF) xo_none) ⟨fun _ _ _ _ _=>(pg_two (K:=K) (i:=0) (j:=1) rfl rfl (nd_of (N:=["one", "other"]) rfl (by decide +kernel)) rfl rfl (Or.inl rfl) (Or.inl rfl)),fun _ _ _ _ _=>xts_nil,fun _ _ _ _ _=>(xe_cmp op_lt_str o_ltS (xv 0) (xv 1) (nomark _))⟩ rfl rfl)) zq rfl) rfl))):FO P w base t 1 t.d_is_rising (ye 1 g_is_rising) 1)
abbrev N_is_whole:List Str:=["thing"]
theorem sc_is_whole:FnScope N_is_whole ["thing"] (zm s_is_whole):=fsc (by decide +kernel)
theorem ok_is_whole (t:Txt K mg):FO P w base t 1 t.d_is_whole fn_is_whole 1:=(fnDD 1 1 0 g_is_whole (clOf t) t.d_is_whole sc_is_whole fun _ _ _ _ _ _ hr =>
   (zy (zG (xe_and (xe_isi kit_int rfl t.n_isinstance (xv 0) (pe_bltn (v:=.ty "int") rfl t.n_int boot_int rfl) zb) (xe_one (xe_not (xe_isi kit_bool rfl t.n_isinstance (xv 0) (pe_bltn (v:=.ty "bool") rfl t.n_bool boot_bool rfl) zb)))))):FO P w base t 1 t.d_is_whole (ye 1 g_is_whole) 1)
abbrev N_is_between:List Str:=["thing", "least", "most"]
theorem sc_is_between:FnScope N_is_between ["thing", "least", "most"] (zm s_is_between):=fsc (by decide +kernel)
theorem ok_is_between (t:Txt K mg):FO P w base t 2 t.d_is_between fn_is_between 3:=(fnDD 3 3 1 g_is_between (clOf t) t.d_is_between sc_is_between fun _ _ _ _ _ _ hr =>
   (zy (zG (xe_and (zx (ok_is_whole t) hr zQ (zf (xv 0) zq zb) zb) (xe_one (xe_chain op_le op_le o_leI o_leI (xv 1) (xv 0) (xv 2)))))):FO P w base t 2 t.d_is_between (ye 3 g_is_between) 3)
abbrev N_is_number_of_letters:List Str:=["thing"]
theorem sc_is_number_of_letters:FnScope N_is_number_of_letters ["thing"] (zm s_is_number_of_letters):=fsc (by decide +kernel)
theorem ok_is_number_of_letters (t:Txt K mg):FO P w base t 3 t.d_is_number_of_letters zT 1:=(fnDD 1 1 2 g_is_number_of_letters (clOf t) t.d_is_number_of_letters sc_is_number_of_letters fun _ _ _ _ _ _ hr =>
   (zy (zG (zx (ok_is_between t) hr zQ (zf (xv 0) (zf (xe_c (pe_glob (v:=.int (2)) rfl t.c_FEWEST_LETTERS t.r_FEWEST_LETTERS) fun _=>.int _) (zf (yg call_len n_len rfl t.n_len boot_len (zf (xe_c (pe_glob (v:=.str (T [97,98,99,100])) rfl t.c_LETTERS t.r_LETTERS) fun _=>.str [97,98,99,100] (T_ok (by decide +kernel) (by decide +kernel))) zq zb) zb) zq zV) zb) zb) zb))):FO P w base t 3 t.d_is_number_of_letters (ye 1 g_is_number_of_letters) 1)
abbrev N_is_text_of:List Str:=["many", "thing", "letters"]
theorem sc_is_text_of:FnScope N_is_text_of ["many", "thing"] (zm s_is_text_of):=fsc (by decide +kernel)
theorem ok_is_text_of (t:Txt K mg):FO P w base t 1 t.d_is_text_of fn_is_text_of 2:=(fnDD 3 2 0 g_is_text_of (clOf t) t.d_is_text_of sc_is_text_of fun _ _ _ _ _ _ hr =>
   (zu (zZ (i:=2) sc_is_text_of.nd rfl (Or.inr rfl) (xe_slice (xe_c (pe_glob (v:=.str (T [97,98,99,100])) rfl t.c_LETTERS t.r_LETTERS) fun _=>.str [97,98,99,100] (T_ok (by decide +kernel) (by decide +kernel))) xo_none (xo_some (xv 0))))
   (zy (zG (xe_and (xe_isi kit_str rfl t.n_isinstance (xv 1) (pe_bltn (v:=.ty "str") rfl t.n_str boot_str rfl) zb) (xe_one (yg (call_all rfl) n_all rfl t.n_all boot_all (zf (xe_comp (x := "sign") (caps:=[2]) (comp_ok (fs:=zm s_is_text_of) (N:=N_is_text_of) rfl rfl (by decide +kernel)) rfl (xi_str (xv 1)) ⟨fun _ _ _ _ _=>(yd (i:=0) (nd_of (N:=["sign", "letters"]) rfl (by decide +kernel)) rfl (Or.inl rfl)),fun _ _ _ _ _=>xts_nil,fun _ _ _ _ _=>(xe_cmp op_inC o_inC (xv 0) (xv 1) (by with_unfolding_all rfl))⟩) zq rfl) rfl)))))):FO P w base t 1 t.d_is_text_of (ye 3 g_is_text_of) 2)
abbrev N_are_pieces:List Str:=["many", "thing"]
theorem sc_are_pieces:FnScope N_are_pieces ["many", "thing"] (zm s_are_pieces):=fsc (by decide +kernel)
theorem ok_are_pieces (t:Txt K mg):FO P w base t 4 t.d_are_pieces fn_are_pieces 2:=(fnDD 2 2 3 g_are_pieces (clOf t) t.d_are_pieces sc_are_pieces fun _ _ _ _ _ _ hr =>
   (zu (xs_if (XW.xt (xw_or (xt_not (xt_val (zx (ok_is_number_of_letters t) hr zQ (zf (xv 0) zq zb) zb))) (xw_or1 (xt_not (xt_val (xe_isi kit_tuple rfl t.n_isinstance (xv 1) (pe_bltn (v:=.ty "tuple") rfl t.n_tuple boot_tuple rfl) zb))))))
   (zy (zG xe_bl))
   yo)
   (zu (xs_if (xt_not (xt_chain op_le op_le o_leI o_leI zF (yg call_len n_len rfl t.n_len boot_len (zf (xv 1) zq zb) zb) (xe_c (pe_glob (v:=.int (32)) rfl t.c_MOST_PIECES t.r_MOST_PIECES) fun _=>.int _)))
   (zy (zG xe_bl))
   yo)
   (zu (xs_if (xt_not (xt_val (yg (call_all rfl) n_all rfl t.n_all boot_all (zf (xe_comp (x := "part") (caps:=[0]) (comp_ok (fs:=zm s_are_pieces) (N:=N_are_pieces) rfl rfl (by decide +kernel)) rfl (xi_tup (xv 1)) ⟨fun _ _ _ _ _=>(yd (i:=0) (nd_of (N:=["part", "many"]) rfl (by decide +kernel)) rfl (Or.inl rfl)),fun _ _ _ _ _=>xts_nil,fun _ _ _ _ _=>(xe_and (zx (ok_is_text_of t) hr passN (zf (xv 1) (zf (xv 0) zq zb) zb) zb) (xe_one (xe_cmp (op_neD hr.units) o_ne (xv 0) (xe_strK [] (by decide +kernel)) (nomark _))))⟩) zq rfl) rfl)))
   (zy (zG xe_bl))
   yo)
   (zy (zG (zx (ok_is_rising t) hr zQ (zf (xv 1) zq zb) zb)))))):FO P w base t 4 t.d_are_pieces (ye 2 g_are_pieces) 2)
abbrev N_first_pair:List Str:=["pieces", "one", "other"]
theorem sc_first_pair:FnScope N_first_pair ["pieces"] (zm s_first_pair):=fsc (by decide +kernel)
theorem ok_first_pair (t:Txt K mg):FO P w base t 1 t.d_first_pair fn_first_pair 1:=(fnDD 3 1 0 g_first_pair (clOf t) t.d_first_pair sc_first_pair fun _ _ _ _ _ _ hr =>
   (zu (xs_nox (xs_forZ (i:=1) (j:=2) PassesOwn.never rfl rfl t.n_zip (xv 0) (xe_slice (xv 0) (xo_some zF) xo_none) (pg_two (K:=K) (i:=1) (j:=2) rfl rfl sc_first_pair.nd rfl rfl (Or.inl rfl) (Or.inl rfl))
   (zy (xs_if (xt_val (xe_starts (xv 2) (xv 1) ⟨zb,rfl,rfl,rfl,rfl⟩))
   (zy (zG (xe_tup (zf (xv 1) (zf (xv 2) zq zb) zb))))
   yo)) rfl rfl))
   (zy (zG xe_non))):FO P w base t 1 t.d_first_pair (ye 3 g_first_pair) 1)
abbrev N_gone_on:List Str:=["many", "texts", "longer", "text", "letter"]
theorem sc_gone_on:FnScope N_gone_on ["many", "texts"] (zm s_gone_on):=fsc (by decide +kernel)
theorem ok_gone_on (t:Txt K mg):FO P w base t 1 t.d_gone_on yj 2:=(fnDD 5 2 0 g_gone_on (clOf t) t.d_gone_on sc_gone_on fun _ _ _ _ _ _ hr =>
   (zu (xs_setO (i:=2) sc_gone_on.nd rfl (Or.inl rfl) (xl_lst zq))
   (zu (xs_nox (xs_for (i:=3) PassesOwn.never rfl (xi_list (xv 1)) (yd (i:=3) sc_gone_on.nd rfl (Or.inl rfl))
   (zy (xs_for (i:=4) PassesOwn.never rfl (xi_str (xe_slice (xe_c (pe_glob (v:=.str (T [97,98,99,100])) rfl t.c_LETTERS t.r_LETTERS) fun _=>.str [97,98,99,100] (T_ok (by decide +kernel) (by decide +kernel))) xo_none (xo_some (xv 0)))) (yd (i:=4) sc_gone_on.nd rfl (Or.inl rfl))
   (zy (xs_append (pv 2) (yh op_addS o_addS (xv 3) (xv 4)) ⟨star_bin,rfl,rfl,rfl,rfl⟩))))))
   (zy (xs_ice (i:=2) (zG (xv 2)))))):FO P w base t 1 t.d_gone_on (ye 5 g_gone_on) 2)
abbrev N_is_apart:List Str:=["pieces", "text"]
theorem sc_is_apart:FnScope N_is_apart ["pieces", "text"] (zm s_is_apart):=fsc (by decide +kernel)
theorem ok_is_apart (t:Txt K mg):FO P w base t 1 t.d_is_apart zX 2:=(fnDD 2 2 0 g_is_apart (clOf t) t.d_is_apart sc_is_apart fun _ _ _ _ _ _ hr =>
   (zy (zG (xe_not (yg (call_any rfl) n_any rfl t.n_any boot_any (zf (xe_comp (x := "piece") (caps:=[1]) (comp_ok (fs:=zm s_is_apart) (N:=N_is_apart) rfl rfl (by decide +kernel)) rfl (xi_tup (xv 0)) ⟨fun _ _ _ _ _=>(yd (i:=0) (nd_of (N:=["piece", "text"]) rfl (by decide +kernel)) rfl (Or.inl rfl)),fun _ _ _ _ _=>xts_nil,fun _ _ _ _ _=>(xe_or (xe_starts (xv 0) (xv 1) ⟨zb,rfl,rfl,rfl,rfl⟩) (xe_one (xe_starts (xv 1) (xv 0) ⟨zb,rfl,rfl,rfl,rfl⟩)))⟩) zq rfl) rfl)))):FO P w base t 1 t.d_is_apart (ye 2 g_is_apart) 2)
abbrev N_is_inner:List Str:=["pieces", "text"]
theorem sc_is_inner:FnScope N_is_inner ["pieces", "text"] (zm s_is_inner):=fsc (by decide +kernel)
theorem ok_is_inner (t:Txt K mg):FO P w base t 1 t.d_is_inner zY 2:=(fnDD 2 2 0 g_is_inner (clOf t) t.d_is_inner sc_is_inner fun _ _ _ _ _ _ hr =>
   (zy (zG (yg (call_any rfl) n_any rfl t.n_any boot_any (zf (xe_comp (x := "piece") (caps:=[1]) (comp_ok (fs:=zm s_is_inner) (N:=N_is_inner) rfl rfl (by decide +kernel)) rfl (xi_tup (xv 0)) ⟨fun _ _ _ _ _=>(yd (i:=0) (nd_of (N:=["piece", "text"]) rfl (by decide +kernel)) rfl (Or.inl rfl)),fun _ _ _ _ _=>xts_nil,fun _ _ _ _ _=>(xe_and (xe_starts (xv 0) (xv 1) ⟨zb,rfl,rfl,rfl,rfl⟩) (xe_one (xe_cmp (op_neD hr.units) o_ne (xv 0) (xv 1) (nomark _))))⟩) zq rfl) rfl))):FO P w base t 1 t.d_is_inner (ye 2 g_is_inner) 2)
abbrev N_first_text_apart:List Str:=["many", "pieces", "inner", "longer", "text"]
theorem sc_first_text_apart:FnScope N_first_text_apart ["many", "pieces"] (zm s_first_text_apart):=fsc (by decide +kernel)
theorem ok_first_text_apart (t:Txt K mg):FO P w base t 2 t.d_first_text_apart fn_first_text_apart 2:=(fnDD 5 2 1 g_first_text_apart (clOf t) t.d_first_text_apart sc_first_text_apart fun _ _ _ _ _ _ hr =>
   (zu (zZ (i:=2) sc_first_text_apart.nd rfl (Or.inl rfl) (XEw.out (yw_lst (yw_cons (yw_str (l:=[]) (by decide +kernel) (T_ok (by decide +kernel) (by decide +kernel))) yw_nil zE))))
   (zu (xs_nox (xs_while 2000 PassesOwn.never (xt_cmp (op_neD hr.units) o_ne (xv 2) (xe_lst zq) (nomark _))
   (zu (zZ (i:=3) sc_first_text_apart.nd rfl (Or.inl rfl) (zx (ok_gone_on t) hr passN (zf (xv 0) (zf (xv 2) zq zb) zb) zb))
   (zu (xs_for (i:=4) PassesOwn.never rfl (xi_list (xv 3)) (yd (i:=4) sc_first_text_apart.nd rfl (Or.inl rfl))
   (zy (xs_if (xt_val (zx (ok_is_apart t) hr passN (zf (xv 1) (zf (xv 4) zq zb) zb) zb))
   (zy (zG (xv 4)))
   yo)))
   (zy (xs_comp (j:=2) sc_first_text_apart.nd rfl rfl (x := "text") (caps:=[1]) (comp_ok (fs:=zm s_first_text_apart) (N:=N_first_text_apart) rfl rfl (by decide +kernel)) rfl (xi_list (xv 3)) ⟨fun _ _ _ _ _=>(yd (i:=0) (nd_of (N:=["text", "pieces"]) rfl (by decide +kernel)) rfl (Or.inl rfl)),fun _ _ _ _ _=>(xts_one (xt_val (zx (ok_is_inner t) hr passN (zf (xv 1) (zf (xv 0) zq zb) zb) zb))),fun _ _ _ _ _=>(xv 0)⟩ rfl))))))
   (zy (zG xe_non)))):FO P w base t 2 t.d_first_text_apart (ye 5 g_first_text_apart) 2)
abbrev N_first_paper:List Str:=["many", "pieces", "pair"]
theorem sc_first_paper:FnScope N_first_paper ["many", "pieces"] (zm s_first_paper):=fsc (by decide +kernel)
theorem ok_first_paper (t:Txt K mg):FO P w base t 3 t.d_first_paper fn_first_paper 2:=(fnDD 3 2 2 g_first_paper (clOf t) t.d_first_paper sc_first_paper fun _ _ _ _ _ _ hr =>
   (zu (zZ (i:=2) sc_first_paper.nd rfl (Or.inl rfl) (zx (ok_first_pair t) hr zQ (zf (xv 1) zq zb) zb))
   (zu (xs_if (xt_notN (xv 2))
   (zy (zG (xv 2)))
   yo)
   (zy (zG (zx (ok_first_text_apart t) hr zQ (zf (xv 0) (zf (xv 1) zq zb) zb) zb))))):FO P w base t 3 t.d_first_paper (ye 3 g_first_paper) 2)
abbrev N_is_book:List Str:=["many", "thing"]
theorem sc_is_book:FnScope N_is_book ["many", "thing"] (zm s_is_book):=fsc (by decide +kernel)
theorem ok_is_book (t:Txt K mg):FO P w base t 5 t.d_is_book fn_is_book 2:=(fnDD 2 2 4 g_is_book (clOf t) t.d_is_book sc_is_book fun _ _ _ _ _ _ hr =>
   (zy (zG (xe_and (zx (ok_are_pieces t) hr zQ (zf (xv 0) (zf (xv 1) zq zb) zb) zb) (xe_one (xe_isN (zx (ok_first_paper t) hr zQ (zf (xv 0) (zf (xv 1) zq zb) zb) zb)))))):FO P w base t 5 t.d_is_book (ye 2 g_is_book) 2)
abbrev N_require_book:List Str:=["many", "thing"]
theorem sc_require_book:FnScope N_require_book ["many", "thing"] (zm s_require_book):=fsc (by decide +kernel)
theorem ok_require_book (t:Txt K mg):FO P w base t 6 t.d_require_book fn_require_book 2:=(fnDD 2 2 5 g_require_book (clOf t) t.d_require_book sc_require_book fun _ _ _ _ _ _ hr =>
   (zy (xs_if (xt_not (xt_val (zx (ok_is_book t) hr zQ (zf (xv 0) (zf (xv 1) zq zb) zb) zb)))
   (zy (xs_raise t.x_NoBook rfl rfl (zf (xe_strK [116,104,105,115,32,105,115,32,110,111,32,98,111,111,107,32,111,102,32,115,111,32,109,97,110,121,32,108,101,116,116,101,114,115] (by decide +kernel)) zq zE) zE))
   yo)):FO P w base t 6 t.d_require_book (ye 2 g_require_book) 2)
abbrev N_require_text_of:List Str:=["many", "thing"]
theorem sc_require_text_of:FnScope N_require_text_of ["many", "thing"] (zm s_require_text_of):=fsc (by decide +kernel)
theorem ok_require_text_of (t:Txt K mg):FO P w base t 2 t.d_require_text_of z9 2:=(fnDD 2 2 1 g_require_text_of (clOf t) t.d_require_text_of sc_require_text_of fun _ _ _ _ _ _ hr =>
   (zy (xs_if (xt_not (xt_val (zx (ok_is_text_of t) hr zQ (zf (xv 0) (zf (xv 1) zq zb) zb) zb)))
   (zy (xs_raise t.x_NoLetters rfl rfl (zf (xe_strK [116,104,105,115,32,105,115,32,110,111,32,116,101,120,116,32,111,102,32,116,104,101,115,101,32,108,101,116,116,101,114,115] (by decide +kernel)) zq zE) zE))
   yo)):FO P w base t 2 t.d_require_text_of (ye 2 g_require_text_of) 2)
abbrev N_cut_by:List Str:=["book", "text", "pieces", "left", "letter"]
theorem sc_cut_by:FnScope N_cut_by ["book", "text"] (zm s_cut_by):=fsc (by decide +kernel)
theorem ok_cut_by (t:Txt K mg):FO P w base t 1 t.d_cut_by fn_cut_by 2:=(fnDD 5 2 0 g_cut_by (clOf t) t.d_cut_by sc_cut_by fun _ _ _ _ _ _ hr =>
   (zu (xs_setO (i:=2) sc_cut_by.nd rfl (Or.inl rfl) (xl_lst zq))
   (zu (zZ (i:=3) sc_cut_by.nd rfl (Or.inl rfl) (xe_strK [] (by decide +kernel)))
   (zu (xs_nox (xs_for (i:=4) PassesOwn.never rfl (xi_str (xv 1)) (yd (i:=4) sc_cut_by.nd rfl (Or.inl rfl))
   (zu (zZ (i:=3) sc_cut_by.nd rfl (Or.inl rfl) (yh op_addS o_addS (xv 3) (xv 4)))
   (zy (xs_if (xt_cmp op_in_seq o_in (xv 3) (xv 0) (by with_unfolding_all rfl))
   (zu (xs_append (pv 2) (xv 3) ⟨zb,rfl,rfl,rfl,rfl⟩)
   (zy (zZ (i:=3) sc_cut_by.nd rfl (Or.inl rfl) (xe_strK [] (by decide +kernel)))))
   yo)))))
   (zy (xs_ice (i:=2) (zG (xe_tup (zf (xv 2) (zf (xv 3) zq zb) zb)))))))):FO P w base t 1 t.d_cut_by (ye 5 g_cut_by) 2)
abbrev N_bits_for:List Str:=["size", "bits", "room"]
theorem sc_bits_for:FnScope N_bits_for ["size"] (zm s_bits_for):=fsc (by decide +kernel)
theorem ok_bits_for (t:Txt K mg):FO P w base t 1 t.d_bits_for fn_bits_for 1:=(fnDD 3 1 0 g_bits_for (clOf t) t.d_bits_for sc_bits_for fun _ _ _ _ _ _ hr =>
   (zu (zZ (i:=1) sc_bits_for.nd rfl (Or.inl rfl) zF)
   (zu (zZ (i:=2) sc_bits_for.nd rfl (Or.inl rfl) zF)
   (zu (xs_nox (xs_while 64 PassesOwn.never (xt_cmp op_lt o_ltI (xv 2) (xv 0) (nomark _))
   (zu (zZ (i:=1) sc_bits_for.nd rfl (Or.inl rfl) (yh op_add o_addI (xv 1) zF))
   (zy (zZ (i:=2) sc_bits_for.nd rfl (Or.inl rfl) (yh op_mulS o_mulI (xv 2) zF))))))
   (zy (zG (xv 1)))))):FO P w base t 1 t.d_bits_for (ye 3 g_bits_for) 1)
abbrev N_word_for:List Str:=["number", "bits", "word", "place"]
theorem sc_word_for:FnScope N_word_for ["number", "bits"] (zm s_word_for):=fsc (by decide +kernel)
theorem ok_word_for (t:Txt K mg):FO P w base t 1 t.d_word_for fn_word_for 2:=(fnDD 4 2 0 g_word_for (clOf t) t.d_word_for sc_word_for fun _ _ _ _ _ _ hr =>
   (zu (zZ (i:=2) sc_word_for.nd rfl (Or.inl rfl) (xe_strK [] (by decide +kernel)))
   (zu (xs_nox (xs_for (i:=3) PassesOwn.never rfl (xi_range1 rfl t.n_range (zf (xv 1) zq zb) rfl) (yd (i:=3) sc_word_for.nd rfl (Or.inl rfl))
   (zu (zZ (i:=2) sc_word_for.nd rfl (Or.inl rfl) (yh op_addS o_addS (xe_callTy call_str_int n_str rfl t.n_str boot_str (zf (yh op_mod o_modI (xv 0) zF) zq star_bin) star_bin) (xv 2)))
   (zy (zZ (i:=0) sc_word_for.nd rfl (Or.inl rfl) (yh op_fdivS o_fdivI (xv 0) zF))))))
   (zy (zG (xv 2))))):FO P w base t 1 t.d_word_for (ye 4 g_word_for) 2)
abbrev N_words_of:List Str:=["book", "bits"]
theorem sc_words_of:FnScope N_words_of ["book"] (zm s_words_of):=fsc (by decide +kernel)
theorem ok_words_of (t:Txt K mg):FO P w base t 2 t.d_words_of fn_words_of 1:=(fnDD 2 1 1 g_words_of (clOf t) t.d_words_of sc_words_of fun _ _ _ _ _ _ hr =>
   (zu (zZ (i:=1) sc_words_of.nd rfl (Or.inr rfl) (zx (ok_bits_for t) hr zQ (zf (yg call_len n_len rfl t.n_len boot_len (zf (xv 0) zq zb) zb) zq zV) zV))
   (zy (zG (xe_comp (x := "number") (caps:=[1]) (comp_ok (fs:=zm s_words_of) (N:=N_words_of) rfl rfl (by decide +kernel)) rfl (xi_range1 rfl t.n_range (zf (yg call_len n_len rfl t.n_len boot_len (zf (xv 0) zq zb) zb) zq zV) rfl) ⟨fun _ _ _ _ _=>(yd (i:=0) (nd_of (N:=["number", "bits"]) rfl (by decide +kernel)) rfl (Or.inl rfl)),fun _ _ _ _ _=>xts_nil,fun _ _ _ _ _=>(zx (ok_word_for t) hr passN (zf (xv 0) (zf (xv 1) zq zb) zb) zb)⟩)))):FO P w base t 2 t.d_words_of (ye 2 g_words_of) 1)
abbrev N_led_by:List Str:=["book", "text", "found", "words"]
theorem sc_led_by:FnScope N_led_by ["book", "text"] (zm s_led_by):=fsc (by decide +kernel)
theorem ok_led_by (t:Txt K mg):FO P w base t 3 t.d_led_by fn_led_by 2:=(fnDD 4 2 2 g_led_by (clOf t) t.d_led_by sc_led_by fun _ _ _ _ _ _ hr =>
   (zu (zZ (i:=2) sc_led_by.nd rfl (Or.inl rfl) (zx (ok_cut_by t) hr zQ (zf (xv 0) (zf (xv 1) zq zb) zb) zb))
   (zu (zZ (i:=3) sc_led_by.nd rfl (Or.inr rfl) (xe_dictzip rfl rfl t.n_dict rfl t.n_zip (xv 0) (zx (ok_words_of t) hr zQ (zf (xv 0) zq zb) zb)))
   (zy (zG (xe_tup (zf (xe_join (xe_strK [] (by decide +kernel)) (xe_comp (x := "piece") (caps:=[3]) (comp_ok (fs:=zm s_led_by) (N:=N_led_by) rfl rfl (by decide +kernel)) rfl (xi_list (xe_ix (xv 2) zF (fun _ _=>rfl))) ⟨fun _ _ _ _ _=>(yd (i:=0) (nd_of (N:=["piece", "words"]) rfl (by decide +kernel)) rfl (Or.inl rfl)),fun _ _ _ _ _=>xts_nil,fun _ _ _ _ _=>(xe_get (hu_of hr) (xv 1) (xv 0))⟩) ⟨rfl,rfl,rfl,rfl,rfl⟩) (zf (xe_ix (xv 2) zF (fun _ _=>rfl)) zq star_sub) zV)))))):FO P w base t 3 t.d_led_by (ye 4 g_led_by) 2)
abbrev N_led:List Str:=["many", "book", "text"]
theorem sc_led:FnScope N_led ["many", "book", "text"] (zm s_led):=fsc (by decide +kernel)
theorem ok_led (t:Txt K mg):FO P w base t 7 t.d_led fn_led 3:=(fnDD 3 3 6 g_led (clOf t) t.d_led sc_led fun _ _ _ _ _ _ hr =>
   (zu (xs_expr (zx (ok_require_book t) hr zQ (zf (xv 0) (zf (xv 1) zq zb) zb) zb))
   (zu (xs_expr (zx (ok_require_text_of t) hr zQ (zf (xv 0) (zf (xv 2) zq zb) zb) zb))
   (zy (zG (zx (ok_led_by t) hr zQ (zf (xv 1) (zf (xv 2) zq zb) zb) zb))))):FO P w base t 7 t.d_led (ye 3 g_led) 3)
abbrev N_words_by:List Str:=["book", "text", "found"]
theorem sc_words_by:FnScope N_words_by ["book", "text"] (zm s_words_by):=fsc (by decide +kernel)
theorem ok_words_by (t:Txt K mg):FO P w base t 2 t.d_words_by fn_words_by 2:=(fnDD 3 2 1 g_words_by (clOf t) t.d_words_by sc_words_by fun _ _ _ _ _ _ hr =>
   (zu (zZ (i:=2) sc_words_by.nd rfl (Or.inl rfl) (zx (ok_cut_by t) hr zQ (zf (xv 0) (zf (xv 1) zq zb) zb) zb))
   (zy (zG (xe_ifExp (xt_cmp (op_eqD hr.units) o_eq (xe_ix (xv 2) zF (fun _ _=>rfl)) (xe_strK [] (by decide +kernel)) (nomark _)) (yg call_len n_len rfl t.n_len boot_len (zf (xe_ix (xv 2) zF (fun _ _=>rfl)) zq star_sub) star_sub) (yh op_add o_addI (yg call_len n_len rfl t.n_len boot_len (zf (xe_ix (xv 2) zF (fun _ _=>rfl)) zq star_sub) star_sub) zF))))):FO P w base t 2 t.d_words_by (ye 3 g_words_by) 2)
abbrev N_words_for:List Str:=["many", "book", "text"]
theorem sc_words_for:FnScope N_words_for ["many", "book", "text"] (zm s_words_for):=fsc (by decide +kernel)
theorem z7 (t:Txt K mg):FO P w base t 7 t.d_words_for zK 3:=(fnDD 3 3 6 g_words_for (clOf t) t.d_words_for sc_words_for fun _ _ _ _ _ _ hr =>
   (zu (xs_expr (zx (ok_require_book t) hr zQ (zf (xv 0) (zf (xv 1) zq zb) zb) zb))
   (zu (xs_expr (zx (ok_require_text_of t) hr zQ (zf (xv 0) (zf (xv 2) zq zb) zb) zb))
   (zy (zG (zx (ok_words_by t) hr zQ (zf (xv 1) (zf (xv 2) zq zb) zb) zb))))):FO P w base t 7 t.d_words_for (ye 3 g_words_for) 3)
abbrev N_is_size:List Str:=["many", "thing"]
theorem sc_is_size:FnScope N_is_size ["many", "thing"] (zm s_is_size):=fsc (by decide +kernel)
theorem ok_is_size (t:Txt K mg):FO P w base t 4 t.d_is_size fn_is_size 2:=(fnDD 2 2 3 g_is_size (clOf t) t.d_is_size sc_is_size fun _ _ _ _ _ _ hr =>
   (zy (zG (xe_and (zx (ok_is_number_of_letters t) hr zQ (zf (xv 0) zq zb) zb) (xe_one (zx (ok_is_between t) hr zQ (zf (xv 1) (zf (xv 0) (zf (xe_c (pe_glob (v:=.int (32)) rfl t.c_MOST_PIECES t.r_MOST_PIECES) fun _=>.int _) zq zb) zb) zb) zb))))):FO P w base t 4 t.d_is_size (ye 2 g_is_size) 2)
abbrev N_require_size:List Str:=["many", "thing"]
theorem sc_require_size:FnScope N_require_size ["many", "thing"] (zm s_require_size):=fsc (by decide +kernel)
theorem ok_require_size (t:Txt K mg):FO P w base t 5 t.d_require_size fn_require_size 2:=(fnDD 2 2 4 g_require_size (clOf t) t.d_require_size sc_require_size fun _ _ _ _ _ _ hr =>
   (zy (xs_if (xt_not (xt_val (zx (ok_is_size t) hr zQ (zf (xv 0) (zf (xv 1) zq zb) zb) zb)))
   (zy (xs_raise t.x_NoSize rfl rfl (zf (xe_strK [116,104,105,115,32,105,115,32,110,111,32,115,105,122,101,32,102,114,111,109,32,97,115,32,109,97,110,121,32,97,115,32,116,104,101,114,101,32,97,114,101,32,108,101,116,116,101,114,115,44,32,50,32,116,111,32,52,44,32,116,111,32,51,50] (by decide +kernel)) zq zE) zE))
   yo)):FO P w base t 5 t.d_require_size (ye 2 g_require_size) 2)
abbrev N_even_book:List Str:=["many", "length", "texts", "step"]
theorem sc_even_book:FnScope N_even_book ["many", "length"] (zm s_even_book):=fsc (by decide +kernel)
theorem ok_even_book (t:Txt K mg):FO P w base t 2 t.d_even_book fn_even_book 2:=(fnDD 4 2 1 g_even_book (clOf t) t.d_even_book sc_even_book fun _ _ _ _ _ _ hr =>
   (zu (zZ (i:=2) sc_even_book.nd rfl (Or.inl rfl) (XEw.out (yw_lst (yw_cons (yw_str (l:=[]) (by decide +kernel) (T_ok (by decide +kernel) (by decide +kernel))) yw_nil zE))))
   (zu (xs_nox (xs_for (i:=3) PassesOwn.never rfl (xi_range1 rfl t.n_range (zf (xv 1) zq zb) rfl) (yd (i:=3) sc_even_book.nd rfl (Or.inl rfl))
   (zy (zZ (i:=2) sc_even_book.nd rfl (Or.inl rfl) (zx (ok_gone_on t) hr passN (zf (xv 0) (zf (xv 2) zq zb) zb) zb)))))
   (zy (zG (xe_callTy call_tuple_of n_tup rfl t.n_tuple boot_tuple (zf (xv 2) zq zb) zb))))):FO P w base t 2 t.d_even_book (ye 4 g_even_book) 2)
abbrev N_first_book:List Str:=["many"]
theorem sc_first_book:FnScope N_first_book ["many"] (zm s_first_book):=fsc (by decide +kernel)
theorem ok_first_book (t:Txt K mg):FO P w base t 3 t.d_first_book fn_first_book 1:=(fnDD 1 1 2 g_first_book (clOf t) t.d_first_book sc_first_book fun _ _ _ _ _ _ hr =>
   (zy (zG (zx (ok_even_book t) hr zQ (zf (xv 0) (zf zF zq zE) zb) zb))):FO P w base t 3 t.d_first_book (ye 1 g_first_book) 1)
abbrev N_most_partings:List Str:=["many", "size"]
theorem sc_most_partings:FnScope N_most_partings ["many", "size"] (zm s_most_partings):=fsc (by decide +kernel)
theorem ok_most_partings (t:Txt K mg):FO P w base t 1 t.d_most_partings fn_most_partings 2:=(fnDD 2 2 0 g_most_partings (clOf t) t.d_most_partings sc_most_partings fun _ _ _ _ _ _ hr =>
   (zy (zG (yh op_fdivS o_fdivI (yh op_sub o_subI (xv 1) zF) (yh op_sub o_subI (xv 0) zF)))):FO P w base t 1 t.d_most_partings (ye 2 g_most_partings) 2)
abbrev N_parted:List Str:=["many", "pieces", "piece", "place"]
theorem sc_parted:FnScope N_parted ["many", "pieces", "piece"] (zm s_parted):=fsc (by decide +kernel)
theorem ok_parted (t:Txt K mg):FO P w base t 2 t.d_parted fn_parted 3:=(fnDD 4 3 1 g_parted (clOf t) t.d_parted sc_parted fun _ _ _ _ _ _ hr =>
   (zu (zZ (i:=3) sc_parted.nd rfl (Or.inl rfl) (xe_idxT (xv 1) (xv 2) ⟨zb,rfl,rfl,rfl,rfl⟩))
   (zy (zG (yh op_catU o_addT (yh op_catU o_addT (xe_slice (xv 1) xo_none (xo_some (xv 3))) (xe_callTy call_tuple_of n_tup rfl t.n_tuple boot_tuple (zf (zx (ok_gone_on t) hr zQ (zf (xv 0) (zf (xe_lst (zf (xv 2) zq zb)) zq star_lst) zb) zb) zq zV) zV)) (xe_slice (xv 1) (xo_some (yh op_add o_addI (xv 3) zF)) xo_none))))):FO P w base t 2 t.d_parted (ye 4 g_parted) 3)
abbrev N_all_parted:List Str:=["many", "books", "found", "book", "piece"]
theorem sc_all_parted:FnScope N_all_parted ["many", "books"] (zm s_all_parted):=fsc (by decide +kernel)
theorem ok_all_parted (t:Txt K mg):FO P w base t 3 t.d_all_parted fn_all_parted 2:=(fnDD 5 2 2 g_all_parted (clOf t) t.d_all_parted sc_all_parted fun _ _ _ _ _ _ hr =>
   (zu (xs_newT (i:=2) sc_all_parted.nd rfl (Or.inl rfl))
   (zu (xs_nox (xs_for (i:=3) PassesOwn.never rfl (xi_list (xv 1)) (yd (i:=3) sc_all_parted.nd rfl (Or.inl rfl))
   (zy (xs_for (i:=4) PassesOwn.never rfl (xi_tup (xv 3)) (yd (i:=4) sc_all_parted.nd rfl (Or.inl rfl))
   (zy (xs_tput (hu_of hr) (pv 2) (zx (ok_parted t) hr passN (zf (xv 0) (zf (xv 3) (zf (xv 4) zq zb) zb) zb) zb) xe_bl))))))
   (zy (zG (XL.xe (xl_sortedT rfl rfl t.n_sorted (pv 2) zb)))))):FO P w base t 3 t.d_all_parted (ye 5 g_all_parted) 2)
abbrev N_all_books:List Str:=["many", "size", "books", "told", "step"]
theorem sc_all_books:FnScope N_all_books ["many", "size"] (zm s_all_books):=fsc (by decide +kernel)
theorem ok_all_books (t:Txt K mg):FO P w base t 6 t.d_all_books fn_all_books 2:=(fnDD 5 2 5 g_all_books (clOf t) t.d_all_books sc_all_books fun _ _ _ _ _ _ hr =>
   (zu (xs_expr (zx (ok_require_size t) hr zQ (zf (xv 0) (zf (xv 1) zq zb) zb) zb))
   (zu (zZ (i:=2) sc_all_books.nd rfl (Or.inl rfl) (xe_lst (zf (zx (ok_first_book t) hr zQ (zf (xv 0) zq zb) zb) zq zV)))
   (zu (xs_setO (i:=3) sc_all_books.nd rfl (Or.inl rfl) (xl_list rfl t.n_list boot_list (xv 2) zb))
   (zu (xs_nox (xs_for (i:=4) PassesOwn.never rfl (xi_range2 rfl t.n_range (zf zF (zf (zx (ok_most_partings t) hr passN (zf (xv 0) (zf (xv 1) zq zb) zb) zb) zq zV) zE) rfl rfl) (yd (i:=4) sc_all_books.nd rfl (Or.inl rfl))
   (zu (zZ (i:=2) sc_all_books.nd rfl (Or.inl rfl) (zx (ok_all_parted t) hr passN (zf (xv 0) (zf (xv 2) zq zb) zb) zb))
   (zy (xs_extend (pv 3) (xv 2) ⟨zb,rfl,rfl,rfl,rfl⟩)))))
   (zy (xs_ice (i:=3) (zG (xv 3)))))))):FO P w base t 6 t.d_all_books (ye 5 g_all_books) 2)
abbrev N_best_for:List Str:=["many", "size", "text"]
theorem sc_best_for:FnScope N_best_for ["many", "size", "text"] (zm s_best_for):=fsc (by decide +kernel)
theorem ok_best_for (t:Txt K mg)(z:Zx K mg base (tabsZ c_best_for P_best_for c_dearest P_dearest)):FZ P w base (tabsZ c_best_for P_best_for c_dearest P_dearest) t 7 t.d_best_for fn_best_for 3:=(fnDZ 3 3 6 g_best_for (clOf t) t.d_best_for sc_best_for fun _ _ _ _ _ hz hr =>
   (zu (xs_expr (zx (ok_require_size t) hr zQ (zf (xv 0) (zf (xv 1) zq zb) zb) zb))
   (zu (xs_expr (zx (ok_require_text_of t) hr zQ (zf (xv 0) (zf (xv 2) zq zb) zb) zb))
   (zy (zG (xe_minL (lam_in (p := "book") (q:=("best_for" ++ ".<locals>." ++ "<lambda>")) (k:=4) (caps:=[2]) z t.d_best_for (.head _) hr (comp_ok (fs:=zm s_best_for) (N:=N_best_for) rfl rfl (by decide +kernel)) (by decide +kernel) (fun _ _ _ _ hr=>(zx (ok_words_by t) hr passN (zf (xv 0) (zf (xv 1) zq zb) zb) zb)) rfl) (hz.at (.head _)) rfl rfl t.n_min (zx (ok_all_books t) hr zQ (zf (xv 0) (zf (xv 1) zq zb) zb) zb) zV))))):FZ P w base (tabsZ c_best_for P_best_for c_dearest P_dearest) t 7 t.d_best_for (ye 3 g_best_for) 3)
abbrev N_fewest_words:List Str:=["many", "size", "text"]
theorem sc_fewest_words:FnScope N_fewest_words ["many", "size", "text"] (zm s_fewest_words):=fsc (by decide +kernel)
theorem ok_fewest_words (t:Txt K mg)(z:Zx K mg base (tabsZ c_best_for P_best_for c_dearest P_dearest)):FZ P w base (tabsZ c_best_for P_best_for c_dearest P_dearest) t 8 t.d_fewest_words fn_fewest_words 3:=(fnDZ 3 3 7 g_fewest_words (clOf t) t.d_fewest_words sc_fewest_words fun _ _ _ _ _ hz hr =>
   (zy (zG (zx (ok_words_by t) hr zQ (zf (xe_callZ hz (ok_best_for t z) hr zQ (zf (xv 0) (zf (xv 1) (zf (xv 2) zq zb) zb) zb) zb) (zf (xv 2) zq zb) zV) zV))):FZ P w base (tabsZ c_best_for P_best_for c_dearest P_dearest) t 8 t.d_fewest_words (ye 3 g_fewest_words) 3)
abbrev N_require_between:List Str:=["thing", "least", "most"]
theorem sc_require_between:FnScope N_require_between ["thing", "least", "most"] (zm s_require_between):=fsc (by decide +kernel)
theorem ok_require_between (t:Txt K mg):FO P w base t 3 t.d_require_between fn_require_between 3:=(fnDD 3 3 2 g_require_between (clOf t) t.d_require_between sc_require_between fun _ _ _ _ _ _ hr =>
   (zy (xs_if (xt_not (xt_val (zx (ok_is_between t) hr zQ (zf (xv 0) (zf (xv 1) (zf (xv 2) zq zb) zb) zb) zb)))
   (zy (xs_raise t.x_NoSize rfl rfl (zf (xe_strK [116,104,105,115,32,105,115,32,110,111,32,119,104,111,108,101,32,110,117,109,98,101,114,32,119,105,116,104,105,110,32,105,116,115,32,98,111,117,110,100,115] (by decide +kernel)) zq zE) zE))
   yo)):FO P w base t 3 t.d_require_between (ye 3 g_require_between) 3)
abbrev N_dearest:List Str:=["many", "book", "length", "text"]
theorem sc_dearest:FnScope N_dearest ["many", "book", "length"] (zm s_dearest):=fsc (by decide +kernel)
theorem ok_dearest (t:Txt K mg)(z:Zx K mg base (tabsZ c_best_for P_best_for c_dearest P_dearest)):FZ P w base (tabsZ c_best_for P_best_for c_dearest P_dearest) t 7 t.d_dearest fn_dearest 3:=(fnDZ 4 3 6 g_dearest (clOf t) t.d_dearest sc_dearest fun _ _ _ _ _ hz hr =>
   (zu (xs_expr (zx (ok_require_book t) hr zQ (zf (xv 0) (zf (xv 1) zq zb) zb) zb))
   (zu (xs_expr (zx (ok_require_between t) hr zQ (zf (xv 2) (zf zF (zf (xe_c (pe_glob (v:=.int (5)) rfl t.c_LONGEST_TEXT t.r_LONGEST_TEXT) fun _=>.int _) zq zb) zE) zb) zb))
   (zu (zZ (i:=3) sc_dearest.nd rfl (Or.inl rfl) (xe_maxT (lam_in (p := "one") (q:=("dearest" ++ ".<locals>." ++ "<lambda>")) (k:=4) (caps:=[1]) z t.d_dearest (.tail _ (.head _)) hr (comp_ok (fs:=zm s_dearest) (N:=N_dearest) rfl rfl (by decide +kernel)) (by decide +kernel) (fun _ _ _ _ hr=>(zx (ok_words_by t) hr passN (zf (xv 1) (zf (xv 0) zq zb) zb) zb)) rfl) (hz.at (.tail _ (.head _))) rfl rfl t.n_max (zx (ok_even_book t) hr zQ (zf (xv 0) (zf (xv 2) zq zb) zb) zb) zV))
   (zy (zG (xe_tup (zf (xv 3) (zf (zx (ok_words_by t) hr zQ (zf (xv 1) (zf (xv 3) zq zb) zb) zb) zq zV) zb))))))):FZ P w base (tabsZ c_best_for P_best_for c_dearest P_dearest) t 7 t.d_dearest (ye 4 g_dearest) 3)
abbrev N_law:List Str:=["_law_script", "_law_many", "_law_book_here", "_law_one", "_law_other", "_law_pieces", "_law_left", "_law_whole", "_law_due", "_law_size", "_law_best", "_law_least", "_law_long", "_law_text_here", "_law_most", "_law_rows"]
theorem sc_law:FnScope N_law ["_law_script"] (zm s_law):=fsc (by decide +kernel)
theorem ok_law (t:Txt K mg)(z:Zx K mg base (tabsZ c_best_for P_best_for c_dearest P_dearest)):FZ P w base (tabsZ c_best_for P_best_for c_dearest P_dearest) t 9 t.d_law fn_law 1:=(fnDZ 16 1 8 g_law (clOf t) t.d_law sc_law fun _ _ _ _ _ hz hr =>
   (zu (zZ (i:=1) sc_law.nd rfl (Or.inr rfl) (yh op_add o_addI zF (zx (ok__law_drawn t) hr zQ (zf (xv 0) (zf zF (zf zF zq zE) zE) zb) zb)))
   (zu (zZ (i:=2) sc_law.nd rfl (Or.inr rfl) (zx (ok__law_book t) hr zQ (zf (xv 0) (zf zF (zf (xv 1) (zf (zx (ok__law_drawn t) hr zQ (zf (xv 0) (zf zF (zf zF zq zE) zE) zb) zb) zq zV) zb) zE) zb) zb))
   (zu (zZ (i:=3) sc_law.nd rfl (Or.inr rfl) (zx (ok__law_text t) hr zQ (zf (xv 0) (zf zF (zf (xv 1) (zf zF zq zE) zb) zE) zb) zb))
   (zu (zZ (i:=4) sc_law.nd rfl (Or.inl rfl) (zx (ok__law_text t) hr zQ (zf (xv 0) (zf zF (zf (xv 1) (zf zF zq zE) zb) zE) zb) zb))
   (zu (xs_if (xt_cmp (op_neD hr.units) o_ne (zx (z7 t) hr zQ (zf (xv 1) (zf (zx (ok_first_book t) hr zQ (zf (xv 1) zq zb) zb) (zf (xv 3) zq zb) zV) zb) zb) (yg call_len n_len rfl t.n_len boot_len (zf (xv 3) zq zb) zb) (nomark _))
   (zy (zG xe_bl))
   yo)
   (zu (xs_if (xt_cmp (op_neD hr.units) o_ne (zx (z7 t) hr zQ (zf (xv 1) (zf (xv 2) (zf (xe_strK [] (by decide +kernel)) zq zE) zb) zb) zb) zF (nomark _))
   (zy (zG xe_bl))
   yo)
   (zu (xs_set2 (i:=5) (j:=6) (pg_two (K:=K) (i:=5) (j:=6) rfl rfl sc_law.nd rfl rfl (Or.inl rfl) (Or.inl rfl)) (zx (ok_led t) hr zQ (zf (xv 1) (zf (xv 2) (zf (xv 3) zq zb) zb) zb) zb))
   (zu (zZ (i:=7) sc_law.nd rfl (Or.inl rfl) (zx (z7 t) hr zQ (zf (xv 1) (zf (xv 2) (zf (yh op_addS o_addS (xv 3) (xv 4)) zq star_bin) zb) zb) zb))
   (zu (xs_if (xt_cmp op_gt o_gtI (xv 7) (yh op_add o_addI (zx (z7 t) hr zQ (zf (xv 1) (zf (xv 2) (zf (xv 3) zq zb) zb) zb) zb) (yg call_len n_len rfl t.n_len boot_len (zf (xv 4) zq zb) zb)) (nomark _))
   (zy (zG xe_bl))
   yo)
   (zu (xs_if (xt_cmp op_lt o_ltI (xv 7) (yh op_sub o_subI (zx (z7 t) hr zQ (zf (xv 1) (zf (xv 2) (zf (xv 3) zq zb) zb) zb) zb) (xe_callTy call_intB n_int rfl t.n_int boot_int (zf (xe_cmp (op_neD hr.units) o_ne (xv 6) (xe_strK [] (by decide +kernel)) (nomark _)) zq rfl) rfl)) (nomark _))
   (zy (zG xe_bl))
   yo)
   (zu (zZ (i:=8) sc_law.nd rfl (Or.inl rfl) (yh op_add o_addI (zx (z7 t) hr zQ (zf (xv 1) (zf (xv 2) (zf (xv 3) zq zb) zb) zb) zb) (zx (z7 t) hr zQ (zf (xv 1) (zf (xv 2) (zf (xv 4) zq zb) zb) zb) zb)))
   (zu (xs_if (XW.xt (xw_and (xt_cmp (op_eqD hr.units) o_eq (xv 6) (xe_strK [] (by decide +kernel)) (nomark _)) (xw_and1 (xt_cmp (op_neD hr.units) o_ne (xv 7) (xv 8) (nomark _)))))
   (zy (zG xe_bl))
   yo)
   (zu (zZ (i:=9) sc_law.nd rfl (Or.inl rfl) (yh op_add o_addI (yh op_add o_addI (xv 1) zF) (zx (ok__law_drawn t) hr zQ (zf (xv 0) (zf zF (zf zF zq zE) zE) zb) zb)))
   (zu (zZ (i:=10) sc_law.nd rfl (Or.inl rfl) (xe_callZ hz (ok_best_for t z) hr zQ (zf (xv 1) (zf (xv 9) (zf (xv 3) zq zb) zb) zb) zb))
   (zu (zZ (i:=11) sc_law.nd rfl (Or.inl rfl) (xe_callZ hz (ok_fewest_words t z) hr zQ (zf (xv 1) (zf (xv 9) (zf (xv 3) zq zb) zb) zb) zb))
   (zu (xs_if (XW.xt (xw_or (xt_cmp (op_neD hr.units) o_ne (zx (z7 t) hr zQ (zf (xv 1) (zf (xv 10) (zf (xv 3) zq zb) zb) zb) zb) (xv 11) (nomark _)) (xw_or1 (xt_cmp (op_notInDD hr.units) o_inDD (xv 10) (zx (ok_all_books t) hr zQ (zf (xv 1) (zf (xv 9) zq zb) zb) zb) (by with_unfolding_all rfl)))))
   (zy (zG xe_bl))
   yo)
   (zu (xs_if (xt_cmp (op_neD hr.units) o_ne (yg (call_minL rfl) n_minL rfl t.n_min boot_min (zf (xe_comp (x := "_law_some") (caps:=[1,3]) (comp_ok (fs:=zm s_law) (N:=N_law) rfl rfl (by decide +kernel)) rfl (xi_list (zx (ok_all_books t) hr zQ (zf (xv 1) (zf (xv 9) zq zb) zb) zb)) ⟨fun _ _ _ _ _=>(yd (i:=0) (nd_of (N:=["_law_some", "_law_many", "_law_one"]) rfl (by decide +kernel)) rfl (Or.inl rfl)),fun _ _ _ _ _=>xts_nil,fun _ _ _ _ _=>(zx (z7 t) hr passN (zf (xv 1) (zf (xv 0) (zf (xv 2) zq zb) zb) zb) zb)⟩) zq rfl) rfl) (xv 11) (nomark _))
   (zy (zG xe_bl))
   yo)
   (xss_consB (xs_if (xt_cmp op_gt o_gtI (xe_callZ hz (ok_fewest_words t z) hr zQ (zf (xv 1) (zf (yh op_add o_addI (xv 9) zF) (zf (xv 3) zq zb) star_bin) zb) zb) (xv 11) (nomark _))
   (zy (zG xe_bl))
   yo)
   (xsb_cons (xst_nox (xst_for (i:=12) PassesOwn.never rfl (xiw_tup (yw_tup (yw_cons yw_int (yw_cons yw_int (yw_cons yw_int yw_nil zE) zE) zE))) (yd (i:=12) sc_law.nd rfl (Or.inl rfl))
   (zu (xs_set2 (i:=13) (j:=14) (pg_two (K:=K) (i:=13) (j:=14) rfl rfl sc_law.nd rfl rfl (Or.inl rfl) (Or.inl rfl)) (xe_callZ hz (ok_dearest t z) hr passN (zf (xv 1) (zf (xv 2) (zf (xv 12) zq zb) zb) zb) zb))
   (zu (xs_comp (j:=15) sc_law.nd rfl rfl (x := "_law_some") (caps:=[1,2]) (comp_ok (fs:=zm s_law) (N:=N_law) rfl rfl (by decide +kernel)) rfl (xi_tup (zx (ok_even_book t) hr passN (zf (xv 1) (zf (xv 12) zq zb) zb) zb)) ⟨fun _ _ _ _ _=>(yd (i:=0) (nd_of (N:=["_law_some", "_law_many", "_law_book_here"]) rfl (by decide +kernel)) rfl (Or.inl rfl)),fun _ _ _ _ _=>xts_nil,fun _ _ _ _ _=>(zx (z7 t) hr passN (zf (xv 1) (zf (xv 2) (zf (xv 0) zq zb) zb) zb) zb)⟩ rfl)
   (zu (xs_if (XW.xt (xw_or (xt_cmp (op_neD hr.units) o_ne (yg call_len n_len rfl t.n_len boot_len (zf (xv 13) zq zb) zb) (xv 12) (nomark _)) (xw_or1 (xt_cmp (op_neD hr.units) o_ne (zx (z7 t) hr passN (zf (xv 1) (zf (xv 2) (zf (xv 13) zq zb) zb) zb) zb) (xv 14) (nomark _)))))
   (zy (zG xe_bl))
   yo)
   (zu (xs_if (xt_cmp (op_neD hr.units) o_ne (yg (call_maxL rfl) n_maxL rfl t.n_max boot_max (zf (xv 15) zq zb) zb) (xv 14) (nomark _))
   (zy (zG xe_bl))
   yo)
   (zy (xs_if (xt_cmp (op_neD hr.units) o_ne (xe_ix (zx (ok_even_book t) hr passN (zf (xv 1) (zf (xv 12) zq zb) zb) zb) (xe_idxI (xv 15) (xv 14) ⟨zb,rfl,rfl,rfl,rfl⟩) (fun _ _=>rfl)) (xv 13) (nomark _))
   (zy (zG xe_bl))
   yo))))))))
   (zy (zG (xe_cmp (op_eqD hr.units) o_eq (xe_ix (xe_callZ hz (ok_dearest t z) hr zQ (zf (xv 1) (zf (xv 2) (zf zF zq zE) zb) zb) zb) zF (fun _ _=>rfl)) zF (nomark _))))))))))))))))))))))):FZ P w base (tabsZ c_best_for P_best_for c_dearest P_dearest) t 9 t.d_law (ye 16 g_law) 1)
end
end K35
namespace K35
open PySem L2
theorem all_mk {l:PySem.W.OpenLaw}{w:World}{K:PySem.W.Frag}{h:Heap}{mg:Str→Option Value}{fa:Addr}(X:K.In h)(G:h.Ns mainGlobals mg)(hfa:mg "law" = some (.ref fa))
  {vFEWEST_LETTERS vLETTERS vLONGEST_TEXT vMOST_PIECES:Value}
  (a0:Dz K "_law_cell" s__law_cell)
  (a1:Dz K "_law_drawn" s__law_drawn)
  (a2:Dz K "_law_book" s__law_book)
  (a3:Dz K "_law_text" s__law_text)
  (a4:Dz K "is_rising" s_is_rising)
  (a5:Dz K "is_whole" s_is_whole)
  (a6:Dz K "is_between" s_is_between)
  (a7:Dz K "is_number_of_letters" s_is_number_of_letters)
  (a8:Dz K "is_text_of" s_is_text_of)
  (a9:Dz K "are_pieces" s_are_pieces)
  (a10:Dz K "first_pair" s_first_pair)
  (a11:Dz K "gone_on" s_gone_on)
  (a12:Dz K "is_apart" s_is_apart)
  (a13:Dz K "is_inner" s_is_inner)
  (a14:Dz K "first_text_apart" s_first_text_apart)
  (a15:Dz K "first_paper" s_first_paper)
  (a16:Dz K "is_book" s_is_book)
  (a17:Dz K "require_book" s_require_book)
  (a18:Dz K "require_text_of" s_require_text_of)
  (a19:Dz K "cut_by" s_cut_by)
  (a20:Dz K "bits_for" s_bits_for)
  (a21:Dz K "word_for" s_word_for)
  (a22:Dz K "words_of" s_words_of)
  (a23:Dz K "led_by" s_led_by)
  (a24:Dz K "led" s_led)
  (a25:Dz K "words_by" s_words_by)
  (a26:Dz K "words_for" s_words_for)
  (a27:Dz K "is_size" s_is_size)
  (a28:Dz K "require_size" s_require_size)
  (a29:Dz K "even_book" s_even_book)
  (a30:Dz K "first_book" s_first_book)
  (a31:Dz K "most_partings" s_most_partings)
  (a32:Dz K "parted" s_parted)
  (a33:Dz K "all_parted" s_all_parted)
  (a34:Dz K "all_books" s_all_books)
  (a35:Dz K "best_for" s_best_for)
  (a36:Dz K "fewest_words" s_fewest_words)
  (a37:Dz K "require_between" s_require_between)
  (a38:Dz K "dearest" s_dearest)
  (a39:Dz K "law" s_law)
  (wFEWEST_LETTERS:PySem.W.nsIn K mainGlobals "FEWEST_LETTERS" = some (some vFEWEST_LETTERS)) (rFEWEST_LETTERS:RelV (.int (2)) vFEWEST_LETTERS)
  (wLETTERS:PySem.W.nsIn K mainGlobals "LETTERS" = some (some vLETTERS)) (rLETTERS:RelV (.str (T [97,98,99,100])) vLETTERS)
  (wLONGEST_TEXT:PySem.W.nsIn K mainGlobals "LONGEST_TEXT" = some (some vLONGEST_TEXT)) (rLONGEST_TEXT:RelV (.int (5)) vLONGEST_TEXT)
  (wMOST_PIECES:PySem.W.nsIn K mainGlobals "MOST_PIECES" = some (some vMOST_PIECES)) (rMOST_PIECES:RelV (.int (32)) vMOST_PIECES)
  (zall:PySem.W.nsIn K mainGlobals "all" = some none)
  (zany:PySem.W.nsIn K mainGlobals "any" = some none)
  (zbool:PySem.W.nsIn K mainGlobals "bool" = some none)
  (zdict:PySem.W.nsIn K mainGlobals "dict" = some none)
  (zint:PySem.W.nsIn K mainGlobals "int" = some none)
  (zisinstance:PySem.W.nsIn K mainGlobals "isinstance" = some none)
  (zlen:PySem.W.nsIn K mainGlobals "len" = some none)
  (zlist:PySem.W.nsIn K mainGlobals "list" = some none)
  (zmax:PySem.W.nsIn K mainGlobals "max" = some none)
  (zmin:PySem.W.nsIn K mainGlobals "min" = some none)
  (zrange:PySem.W.nsIn K mainGlobals "range" = some none)
  (zsorted:PySem.W.nsIn K mainGlobals "sorted" = some none)
  (zstr:PySem.W.nsIn K mainGlobals "str" = some none)
  (ztuple:PySem.W.nsIn K mainGlobals "tuple" = some none)
  (zzip:PySem.W.nsIn K mainGlobals "zip" = some none)
  {xa_NoBook xa_NoLetters xa_NoSize:Addr}
  (y_NoBook:PySem.W.nsIn K mainGlobals "NoBook" = some (some (.ref xa_NoBook))) (q_NoBook:PySem.W.excIn K xa_NoBook [.type "ValueError", .type "Exception", .type "BaseException", .type "object"] "ValueError.__new__" = true)
  (y_NoLetters:PySem.W.nsIn K mainGlobals "NoLetters" = some (some (.ref xa_NoLetters))) (q_NoLetters:PySem.W.excIn K xa_NoLetters [.type "ValueError", .type "Exception", .type "BaseException", .type "object"] "ValueError.__new__" = true)
  (y_NoSize:PySem.W.nsIn K mainGlobals "NoSize" = some (some (.ref xa_NoSize))) (q_NoSize:PySem.W.excIn K xa_NoSize [.type "ValueError", .type "Exception", .type "BaseException", .type "object"] "ValueError.__new__" = true)
  {c_best_for P_best_for c_dearest P_dearest:Addr}{pq:Program}
  (tb_best_for:PySem.W.tabIn K "best_for" = some (c_best_for,P_best_for))
  (tb_dearest:PySem.W.tabIn K "dearest" = some (c_dearest,P_dearest))
  (tn:(List.map (fun z:Str×Addr×Addr=>z.2.2) ([("best_for", c_best_for,P_best_for),("dearest", c_dearest,P_dearest)]:Tbs)).Nodup) (tr:List.all ([("best_for", c_best_for,P_best_for),("dearest", c_dearest,P_dearest)]:Tbs) (fun t=>((PyProof.Rows.recsOf pq).find? (fun e=>e.name == t.1)).isSome)=true) :
  ∃(Ts:Tbs) (fd:FuncData),(∀t∈Ts,PySem.W.tabIn K t.1=some t.2)∧Ts.all (fun t=>((PyProof.Rows.recsOf pq).find? (fun e=>e.name == t.1)).isSome)=true∧(Ts.map (·.2.2)).Nodup∧(∀(s:Shared) (v:Value),BindsTo s fd ⟨[v],[]⟩ [("_law_script", v)])∧∀base:Heap,Zx K mg base Ts→FnOk l.prog w K mg base CX0 9 fa fd ["_law_script"] (spZ (lamsOf Ts) (sp_law K)):=by
 obtain⟨aL,lL,cL,kL⟩:=a39
 have e:=hfa.symm.trans (PySem.W.mg_of X G aL)
 cases e
 have FL:=fun_mk (st:=s_law) lL cL kL
 have bL:=FL.binds (ps:=["_law_script"]) (fun _ _ _ _ _ _=>bd1 fun _=>rfl)
 let t:Txt K mg:=⟨a0.D X G,a1.D X G,a2.D X G,a3.D X G,a4.D X G,a5.D X G,a6.D X G,a7.D X G,a8.D X G,a9.D X G,a10.D X G,a11.D X G,a12.D X G,a13.D X G,a14.D X G,a15.D X G,a16.D X G,a17.D X G,a18.D X G,a19.D X G,a20.D X G,a21.D X G,a22.D X G,a23.D X G,a24.D X G,a25.D X G,a26.D X G,a27.D X G,a28.D X G,a29.D X G,a30.D X G,a31.D X G,a32.D X G,a33.D X G,a34.D X G,a35.D X G,a36.D X G,a37.D X G,a38.D X G,⟨_,_,FL,PySem.W.mg_of X G aL,bL⟩,vFEWEST_LETTERS,PySem.W.mg_of X G wFEWEST_LETTERS,rFEWEST_LETTERS,vLETTERS,PySem.W.mg_of X G wLETTERS,rLETTERS,vLONGEST_TEXT,PySem.W.mg_of X G wLONGEST_TEXT,rLONGEST_TEXT,vMOST_PIECES,PySem.W.mg_of X G wMOST_PIECES,rMOST_PIECES,PySem.W.mg_none_of X G zall,PySem.W.mg_none_of X G zany,PySem.W.mg_none_of X G zbool,PySem.W.mg_none_of X G zdict,PySem.W.mg_none_of X G zint,PySem.W.mg_none_of X G zisinstance,PySem.W.mg_none_of X G zlen,PySem.W.mg_none_of X G zlist,PySem.W.mg_none_of X G zmax,PySem.W.mg_none_of X G zmin,PySem.W.mg_none_of X G zrange,PySem.W.mg_none_of X G zsorted,PySem.W.mg_none_of X G zstr,PySem.W.mg_none_of X G ztuple,PySem.W.mg_none_of X G zzip,⟨xa_NoBook,PySem.W.mg_of X G y_NoBook,q_NoBook⟩,⟨xa_NoLetters,PySem.W.mg_of X G y_NoLetters,q_NoLetters⟩,⟨xa_NoSize,PySem.W.mg_of X G y_NoSize,q_NoSize⟩⟩
 exact⟨([("best_for", c_best_for,P_best_for),("dearest", c_dearest,P_dearest)]:Tbs),_,List.forall_mem_cons.mpr ⟨tb_best_for,List.forall_mem_cons.mpr ⟨tb_dearest,fun _ h=>nomatch h⟩⟩,tr,tn,fun s v=>.of_eq rfl,fun base zz=>law_okZ (ok_law t zz) law_true⟩
theorem walk {l:PySem.W.OpenLaw}{q:Program}{loose:List Str}{XP:(Str→Option Value)→Heap→Prop}{YP:World→Heap→Prop}{d:DefRec}{K:Params→PySem.W.Frag}(hn:l.most=some 63)(hdf:d.params.defaults=[])
  (hY:∀(w:World) (h:Heap),YP w h→(K w.params).In h) (hK:∀w:World,PySem.W.noTabs (K w.params)=true)
  (F:∀(w:World) (mg:Str→Option Value) (fa:Addr) (h:Heap),(K w.params).In h→h.Ns mainGlobals mg→mg d.name=some (.ref fa) →
   ∃(Ts:Tbs) (fd:FuncData),(∀t∈Ts,PySem.W.tabIn (K w.params) t.1=some t.2)∧Ts.all (fun t=>((PyProof.Rows.recsOf q).find? (fun e=>e.name == t.1)).isSome)=true∧(Ts.map (·.2.2)).Nodup∧(∀(s:Shared) (u:Value),BindsTo s fd ⟨[u],[]⟩ [("_law_script", u)])∧∀base:Heap,Zx (K w.params) mg base Ts→FnOk l.prog w (K w.params) mg base CX0 9 fa fd ["_law_script"] (spZ (lamsOf Ts) (sp_law (K w.params)))) :
  PySem.W.WalkO q loose XP YP l.row.toRowW d [] (fun f vs=>PySem.call f vs) :=
 L2.walk_ofL (n:=63) (k:=9) (x := "_law_script") hn (by decide) hdf ⟨rfl,by decide,by decide⟩ (by decide) hY hK F
end K35
theorem PySem.W.Fast.tw10693457079382001268 : True := trivial
theorem PySem.W.Fast.tw15227552097727540786 : True := trivial
theorem PySem.W.Fast.tw519928599882428194 : True := trivial
theorem PySem.W.Fast.tw8423963658312044677 : True := trivial
theorem PySem.W.Fast.tw18294507035010566519 : True := trivial
theorem PySem.W.Fast.tw10975761859706767685 : True := trivial
theorem PySem.W.Fast.tw1077353282794344409 : True := trivial
theorem PySem.W.Fast.tw8380942228492646808 : True := trivial
theorem PySem.W.Fast.tw8632508561159293150 : True := trivial
theorem PySem.W.Fast.tw4027502394530106527 : True := trivial
theorem PySem.W.Fast.tw6470686995884678036 : True := trivial
theorem PySem.W.Fast.tw14616870166440488050 : True := trivial
theorem PySem.W.Fast.tw9052825474182289166 : True := trivial
theorem PySem.W.Fast.tw13796823155011036793 : True := trivial
open PySem PySem.W PyProof.Rows
set_option maxRecDepth 100000 in
set_option maxHeartbeats 0 in
theorem PySem.Challenge.cw_piecebooks_k35_whole_costs_holds : PySem.Challenge.rw_piecebooks_k35_whole_costs.Holds := by
 w_on;o_law;k_head;(case hw=>w_witness2)
 k_fill
 refine K35.walk (l:=PySem.Challenge.rw_piecebooks_k35_whole_costs) rfl rfl (fun w h Y=>PySem.W.km_in_of Y) (fun w=>by kernel_rfl) ?F
 case F =>
  intro w mg fa h KX G hmg
  refine' K35.all_mk KX G hmg ?a0 ?a1 ?a2 ?a3 ?a4 ?a5 ?a6 ?a7 ?a8 ?a9 ?a10 ?a11 ?a12 ?a13 ?a14 ?a15 ?a16 ?a17 ?a18 ?a19 ?a20 ?a21 ?a22 ?a23 ?a24 ?a25 ?a26 ?a27 ?a28 ?a29 ?a30 ?a31 ?a32 ?a33 ?a34 ?a35 ?a36 ?a37 ?a38 ?a39 ?wFEWEST_LETTERS ?rFEWEST_LETTERS ?wLETTERS ?rLETTERS ?wLONGEST_TEXT ?rLONGEST_TEXT ?wMOST_PIECES ?rMOST_PIECES ?zall ?zany ?zbool ?zdict ?zint ?zisinstance ?zlen ?zlist ?zmax ?zmin ?zrange ?zsorted ?zstr ?ztuple ?zzip ?y_NoBook ?q_NoBook ?y_NoLetters ?q_NoLetters ?y_NoSize ?q_NoSize ?tb_best_for ?tb_dearest ?tn ?tr
  (case a0|a1|a2|a3|a4|a5|a6|a7|a8|a9|a10|a11|a12|a13|a14|a15|a16|a17|a18|a19|a20|a21|a22|a23|a24|a25|a26|a27|a28|a29|a30|a31|a32|a33|a34|a35|a36|a37|a38|a39=>refine' L2.Dz.mk ?za ?zl ?zc ?zk;(case za=>k_is);(case zl=>k_is);(case zc=>k_is);(case zk=>k_is))
  (case tb_best_for=>refine' L2.tab_mk ?ya ?yl ?yc ?yk ?yv;(case ya=>k_is);(case yl=>k_is);(case yc=>exact rfl);(case yk=>k_is);(case yv=>exact rfl))
  (case tb_dearest=>refine' L2.tab_mk ?ya ?yl ?yc ?yk ?yv;(case ya=>k_is);(case yl=>k_is);(case yc=>exact rfl);(case yk=>k_is);(case yv=>exact rfl))
  (case tn=>decide)
  (case tr=>exact rfl)
  (case wFEWEST_LETTERS=>k_is)
  (case rFEWEST_LETTERS=>exact⟨_,rfl⟩)
  (case wLETTERS=>k_is)
  (case rLETTERS=>exact⟨_,rfl⟩)
  (case wLONGEST_TEXT=>k_is)
  (case rLONGEST_TEXT=>exact⟨_,rfl⟩)
  (case wMOST_PIECES=>k_is)
  (case rMOST_PIECES=>exact⟨_,rfl⟩)
  (case y_NoBook=>k_is)
  (case q_NoBook=>k_exc)
  (case y_NoLetters=>k_is)
  (case q_NoLetters=>k_exc)
  (case y_NoSize=>k_is)
  (case q_NoSize=>k_exc)
  (case zall|zany|zbool|zdict|zint|zisinstance|zlen|zlist|zmax|zmin|zrange|zsorted|zstr|ztuple|zzip=>k_is)
#print axioms PySem.Challenge.cw_piecebooks_k35_whole_costs_holds
