import PyProof.Rows.All
import Wide.All
import OpenK.AllK
import Wide.FinOn
import KE.KDictOf
import KE.KDictSum
import KE.KIntText
import KE.KRevIter
import OpenK.KOwn
import PyProof.AttrMissHeap
import PyProof.AutoSeq1
import PyProof.CodeObj
import PyProof.CollectWalk
import PyProof.ConsumeWalk
import PyProof.Conv_int_bool
import PyProof.DictIter
import PyProof.DictKinds
import PyProof.DictUpdate
import PyProof.Draws
import PyProof.EnumIter
import PyProof.EnumMake
import PyProof.EqAt
import PyProof.EqKinds
import PyProof.ExcArgsOwn
import PyProof.FactsAll.dict_1
import PyProof.FactsAll.set
import PyProof.FactsAll.set_2
import PyProof.ListMulRoad
import PyProof.ListNew
import PyProof.ListStr
import PyProof.NeData
import PyProof.P3In
import PyProof.Rows.DictSet
import PyProof.Rows.Range3
import PyProof.Rows.SetFrom
import PyProof.Rows.SortShell
import PyProof.Rows.SortStr
import PyProof.Rows.SortWalk
import PyProof.SeqI3
import PyProof.SetKind
import PyProof.StrOps2
import PyProof.StrWalks
import PyProof.TupleCall
import PyProof.TupleOps
import PyProof.Walks
import PyProof.WalksMore
import PyProof.WalksS
import PyProof.ZipIter
import Lean
import PySem.Challenge.RW_piecebooks_k31_whole_best
set_option Elab.async false
set_option linter.all false
set_option maxRecDepth 100000
namespace L2
open PySem PySem.Spec PyProof.Rows
abbrev Key:=Sum Int Str
def keyIs:Key→Value→Bool
 | .inl k,v=>Value.isInt k v
 | .inr x,v=>Value.isStrOf x v
def keyH (w:World):Key→Int
 | .inl k=>hashInt k
 | .inr x=>hashStr w x
theorem keyIs_shape:∀{k:Key}{v:Value},keyIs k v=true→(∃i t,k=Sum.inl i∧v=Value.int i t)∨(∃x t,k=Sum.inr x∧v=Value.str x t)
 | .inl i,v,h=>by
  obtain⟨t,e⟩:=Value.isInt_shape (k:=i) (v:=v) h
  exact .inl ⟨i,t,rfl,e⟩
 | .inr x,v,h=>by
  obtain⟨t,e⟩:=Value.isStrOf_shape (x:=x) (v:=v) h
  exact .inr ⟨x,t,rfl,e⟩
theorem keyIs_int (i:Int)(t:Tok):keyIs (.inl i) (.int i t)=true:=by simp[keyIs,Value.isInt]
theorem keyIs_str (x:Str)(t:Tok):keyIs (.inr x) (.str x t)=true:=by simp[keyIs,Value.isStrOf]
theorem key_ll (a b:Int):decide ((Sum.inl a:Key)=Sum.inl b)=(a == b):=by
 by_cases e:a=b
 ·subst e;simp
 ·have h:¬(Sum.inl a:Key)=Sum.inl b:=fun q=>e (Sum.inl.inj q)
  rw[decide_eq_false h]
  exact(beq_eq_false_iff_ne.mpr e).symm
theorem key_rr (a b:Str):decide ((Sum.inr a:Key)=Sum.inr b)=decide (a=b):=by
 by_cases e:a=b
 ·subst e;simp
 ·have h:¬(Sum.inr a:Key)=Sum.inr b:=fun q=>e (Sum.inr.inj q)
  rw[decide_eq_false h,decide_eq_false e]
theorem key_lr (a:Int)(b:Str):decide ((Sum.inl a:Key)=Sum.inr b)=false:=decide_eq_false (fun q=>nomatch q)
theorem key_rl (a:Str)(b:Int):decide ((Sum.inr a:Key)=Sum.inl b)=false:=decide_eq_false (fun q=>nomatch q)
def mixKind (prog:Program)(w:World):PySem.KeyKind prog w Key where
 is:=keyIs
 hash:=keyH w
 inj:=fun v a b ha hb=>by
  rcases keyIs_shape ha with⟨i,t,rfl,rfl⟩|⟨x,t,rfl,rfl⟩
  ·rcases keyIs_shape hb with⟨j,u,rfl,e⟩|⟨y,u,rfl,e⟩
   ·injection e with e1 _;rw[e1]
   ·exact nomatch e
  ·rcases keyIs_shape hb with⟨j,u,rfl,e⟩|⟨y,u,rfl,e⟩
   ·exact nomatch e
   ·injection e with e1 _;rw[e1]
 byValue:=fun k v h=>by
  rcases keyIs_shape h with⟨i,t,rfl,rfl⟩|⟨x,t,rfl,rfl⟩ <;>rfl
 pyHash:=fun hv h=>by
  rcases keyIs_shape hv with⟨i,t,rfl,rfl⟩|⟨x,t,rfl,rfl⟩
  ·exact wpAny_pyHash_int h
  ·exact wpAny_pyHash_str h
 eqBool:=fun hu hv h=>by
  rcases keyIs_shape hu with⟨i,t,rfl,rfl⟩|⟨x,t,rfl,rfl⟩
  ·rcases keyIs_shape hv with⟨j,u,rfl,rfl⟩|⟨y,u,rfl,rfl⟩
   ·rw[key_ll] at h;exact wpAny_eqBool_int h
   ·rw[key_lr] at h;exact SeqAt.EqAt.int_str i t y u _ _ _ _ h
  ·rcases keyIs_shape hv with⟨j,u,rfl,rfl⟩|⟨y,u,rfl,rfl⟩
   ·rw[key_rl] at h;exact SeqAt.EqAt.str_int x t j u _ _ _ _ h
   ·rw[key_rr] at h;exact wpAny_eqBool_str h
 «strs»:=fun k x t v h=>by
  rcases keyIs_shape h with⟨i,u,rfl,e⟩|⟨y,u,rfl,e⟩
  ·exact nomatch e
  ·injection e with e1 _
   subst e1
   cases v <;>rfl
theorem mixKind_int (prog:Program)(w:World)(i:Int)(t:Tok):(mixKind prog w).is (.inl i) (.int i t)=true:=keyIs_int i t
theorem mixKind_str (prog:Program)(w:World)(x:Str)(t:Tok):(mixKind prog w).is (.inr x) (.str x t)=true:=keyIs_str x t
end L2
namespace L2
open PySem PySem.Spec PyProof.Rows
inductive V where
 | non|bl (b:Bool)|int (i:Int)|str (x:Str)|byt (b:Array UInt8)|flt (b:UInt64)|ref (a:Addr)|ty (n:String)
 deriving DecidableEq
def RelV:V→Value→Prop
 | .non,u=>u=Value.none
 | .bl b,u=>u=Value.bool b
 | .int i,u=>∃t,u=Value.int i t
 | .str x,u=>∃t,u=Value.str x t
 | .byt b,u=>∃t,u=Value.bytes b t
 | .flt b,u=>∃t,u=Value.float b t
 | .ref a,u=>u=Value.ref a
 | .ty n,u=>u=Value.type n
abbrev Vals:List V→List Value→Prop:=Paired RelV
theorem Vals.length {xs:List V}{us:List Value}(r:Vals xs us):xs.length=us.length:=Paired.length r
theorem Vals.get:∀{xs:List V}{us:List Value}{i:Nat}{x:V},Vals xs us→xs[i]? = some x→∃u,us[i]? = some u∧RelV x u
 | _,_,_,_,.nil,e=>by simp at e
 | _,_,0,_,.cons r _,e=>by simp at e;subst e;exact⟨_,rfl,r⟩
 | _,_,i+1,x,.cons _ t,e=>by
  obtain⟨u,h1,h2⟩:=Vals.get (i:=i) (x:=x) t (by simpa using e)
  exact⟨u,by simpa using h1,h2⟩
theorem Vals.set {x:V}{u:Value}(r:RelV x u):∀{xs:List V}{us:List Value} (i:Nat),Vals xs us→Vals (xs.set i x) (us.set i u)
 | _,_,_,.nil=>.nil
 | _,_,0,.cons _ t=>.cons r t
 | _,_,i+1,.cons q t=>.cons q (Vals.set r i t)
theorem Vals.append:∀{xs ys:List V}{us ws:List Value},Vals xs us→Vals ys ws→Vals (xs++ys) (us++ws):=by
 intro xs ys us ws h k
 induction h with
 | nil=>exact k
 | cons r t ih=>exact .cons r ih
theorem Vals.take:∀{xs:List V}{us:List Value} (n:Nat),Vals xs us→Vals (xs.take n) (us.take n)
 | _,_,0,_=>.nil
 | _,_,_+1,.nil=>.nil
 | _,_,n+1,.cons r t=>.cons r (Vals.take n t)
theorem Vals.drop:∀{xs:List V}{us:List Value} (n:Nat),Vals xs us→Vals (xs.drop n) (us.drop n)
 | _,_,0,r=>r
 | _,_,_+1,.nil=>.nil
 | _,_,n+1,.cons _ t=>Vals.drop n t
def RelO:Option V→Option Value→Prop
 | some v,some u=>RelV v u
 | none,none=>True
 | _,_=>False
def KV {κ:Type}:List (κ×V)→List (κ×Value)→Prop:=Paired fun(p:κ×V) (q:κ×Value)=>p.1=q.1∧RelV p.2 q.2
def kV:Key→V
 | .inl i=>.int i
 | .inr x=>.str x
inductive HO where
 /-- a list -/
 | lst (xs:List V)
 /-- a tuple (never changes) -/
 | tup (xs:List V)
 /-- a dict whose keys are ints and texts; one whose keys are tuples of ints and texts (the empty one is both) -/
 | dK (kvs:List (Key×V))|dT (kvs:List (List Key×V))
 /-- a set of ints: its members, its size -/
 | set (S:Int→Bool) (n:Nat)
 /-- an instance of the class at C, its dict at dx, its attributes -/
 | ins (C dx:Addr) (fs:List (Str×V))
 /-- the dict of the instance at x -/
 | own (x:Addr)
 /-- the dict of an exception -/
 | xd (fs:List (Str×V))
 /-- a bound method, f of x -/
 | met (f x:Addr)
 /-- a range object lo, lo + 1, .. below hi -/
 | rng (lo hi:Int)
 /-- a thing that is known to the object (the script; a dict while a loop walks it): read, never written while it is so -/
 | frz (o:Obj) (u:HO)
 /-- a code object's table -/
 | tbl (ps:Array Value)
 /-- any other thing, by what is true of its one object (a def of one's own: SetO a S n := HO.ext fun h => ..) -/
 | ext (φ:Heap→Prop)
abbrev Hp:=Addr→Option HO
def upd (H:Hp)(a:Addr)(o:HO):Hp:=fun b=>if b=a then some o else H b
theorem upd_same {H:Hp}{a:Addr}{o:HO}:upd H a o a=some o:=by unfold upd;rw[if_pos rfl]
theorem upd_ne {H:Hp}{a b:Addr}{o:HO}(h:b≠a):upd H a o b=H b:=by unfold upd;rw[if_neg h]
theorem ne_of {H:Hp}{a b:Addr}{o u:HO}(h:H a=some o)(h':H b=some u)(d:o≠u):a≠b:=by
 intro e;subst e;rw[h] at h';exact d (Option.some.inj h')
theorem ne_of_none {H:Hp}{a b:Addr}{o:HO}(h:H a=some o)(h':H b=none):a≠b:=by
 intro e;subst e;rw[h] at h';cases h'
def TupD (h:Heap)(a:Addr)(items:Array Value):Prop:=∃o,h.get? a=some o∧o.cls=.type "tuple" ∧ (∃n,o.data=.seq items n)∧o.dict=none
theorem TupD.tup {h:Heap}{a:Addr}{items:Array Value}(x:TupD h a items):IsTup h a items:=let ⟨o,e,c,d,_⟩:=x;⟨o,e,c,d⟩
theorem TupD.new (h:Heap)(items:Array Value):TupD (h.push {cls:=.type "tuple", data:=.seq items}) h.objs.size items:=⟨_,Heap.get?_push_size _ rfl,rfl,⟨_,rfl⟩,rfl⟩
section
variable (P:Program)(w:World)
def ObjOk (H:Hp)(h:Heap)(a:Addr):HO→Prop
 | .lst xs=>xs.length≤sizeLine∧∃(its:List Value) (n:Nat),Vals xs its∧h.get? a=some {cls:=.type "list", data:=.seq its.toArray n}
 | .tup xs=>xs.length≤sizeLine∧∃its:List Value,Vals xs its∧TupD h a its.toArray
 | .dK kvs=>kvs.length≤sizeLine∧(a == sysModules)=false∧∃vs,KV kvs vs∧h.DictOf (mixKind P w) a vs
 | .dT kvs=>kvs.length≤sizeLine∧(a == sysModules)=false∧∃xs:List (List Key×Addr×Value),
   Paired (fun(p:List Key×V) (q:List Key×Addr×Value)=>p.1=q.1∧H q.2.1=some (.tup (p.1.map kV))∧RelV p.2 q.2.2) kvs xs ∧
   ∃o es ep,h.get? a=some o∧o.ExactDict∧o.data=.dict es ep∧es.toList=xs.map (entryOfKey (tupleKind (mixKind P w)))∧(xs.map (·.1)).Nodup
 | .set S n=>h.SetOf (intKind P w) a S n
 | .ins C dx fs=>H dx=some (.own a)∧fs.length≤1000∧dx≠a∧h.get? a=some (PySem.W.instObj C dx) ∧
   ∃mA,h.Ns1 dx mA∧(∀f,RelO (fs.lookup f) (mA f))∧PySem.Within mA (fs.map (·.1))
 | .own _=>∃o,h.get? a=some o
 | .xd fs=>∃mA,h.Ns1 a mA∧∀f,RelO (fs.lookup f) (mA f)
 | .rng lo hi=>∃t u v,h.get? a=some {cls:=.type "range", data:=.fields #[.int lo t,.int hi u,.int 1 v]}
 | .frz o u=>h.get? a=some o∧ObjOk H h a u
 | .tbl ps=>h.get? a=some {cls:=.none,data:=.fields ps}
 | .met f x=>h.get? a=some (PySem.W.methodObj (.ref f) (.ref x))
 | .ext φ=>φ h∧(∃o,h.get? a=some o)∧∀h1 h2:Heap,φ h1→(∀o,h1.get? a=some o→h2.get? a=some o)→φ h2
def HOk (H:Hp)(h:Heap):Prop:=∀a o,H a=some o→ObjOk P w H h a o
end
section
variable {P:Program}{w:World}{H H':Hp}{h h':Heap}{a:Addr}{o:HO}
theorem ObjOk.lt (x:ObjOk P w H h a o):a<h.objs.size:=by
 cases o with
 | lst xs=>obtain⟨_,_,_,_,e⟩:=x;exact Heap.lt_size e
 | tup xs=>obtain⟨_,_,_,p⟩:=x;exact p.tup.lt
 | dK kvs=>obtain⟨_,_,_,_,o,_,_,e,_⟩:=x;exact Heap.lt_size e
 | dT kvs=>obtain⟨_,_,_,_,o,_,_,e,_⟩:=x;exact Heap.lt_size e
 | set S n=>obtain⟨o,_,_,_,e,_⟩:=x;exact Heap.lt_size e
 | ins C dx fs=>obtain⟨_,_,_,e,_⟩:=x;exact Heap.lt_size e
 | own y=>obtain⟨_,e⟩:=x;exact Heap.lt_size e
 | xd fs=>obtain⟨_,⟨_,_,_,e,_⟩,_⟩:=x;exact Heap.lt_size e
 | rng lo hi=>obtain⟨_,_,_,e⟩:=x;exact Heap.lt_size e
 | frz ob u=>obtain⟨e,_⟩:=x;exact Heap.lt_size e
 | tbl ps=>exact Heap.lt_size (show h.get? a=some _ from x)
 | met f y=>exact Heap.lt_size (show h.get? a=some _ from x)
 | ext φ=>obtain⟨_,⟨_,e⟩,_⟩:=x;exact Heap.lt_size e
theorem Paired.mapP {α β:Type}{F G:α→β→Prop}:∀{l₁:List α}{l₂:List β},Paired F l₁ l₂→(∀a b,F a b→G a b)→Paired G l₁ l₂
 | _,_,.nil,_=>.nil
 | _,_,.cons r t,f=>.cons (f _ _ r) (Paired.mapP t f)
theorem ObjOk.stay (x:ObjOk P w H h a o)(k:∀b u,(b=a∨H b=some (.own a))→h.get? b=some u→h'.get? b=some u)
  (ho:∀b,H b=some (.own a)→H' b=some (.own a)) (ht:∀b xs,H b=some (.tup xs)→H' b=some (.tup xs)):ObjOk P w H' h' a o:=by
 induction o with
 | lst xs=>obtain⟨z,its,n,r,e⟩:=x;exact⟨z,its,n,r,k _ _ (.inl rfl) e⟩
 | tup xs=>obtain⟨z,its,r,ob,e,c⟩:=x;exact⟨z,its,r,ob,k _ _ (.inl rfl) e,c⟩
 | dK kvs=>obtain⟨z,y,vs,r,ob,es,ep,e,c⟩:=x;exact⟨z,y,vs,r,ob,es,ep,k _ _ (.inl rfl) e,c⟩
 | dT kvs =>
  obtain⟨z,y,xs,r,ob,es,ep,e,c⟩:=x
  exact⟨z,y,xs,Paired.mapP r fun p q z=>⟨z.1,ht _ _ z.2.1,z.2.2⟩,ob,es,ep,k _ _ (.inl rfl) e,c⟩
 | set S n=>obtain⟨ob,es,ep,t,e,c⟩:=x;exact⟨ob,es,ep,t,k _ _ (.inl rfl) e,c⟩
 | ins C dx fs =>
  obtain⟨d,z,ne,e,mA,⟨od,es,ep,e2,c⟩,r⟩:=x
  exact⟨ho _ d,z,ne,k _ _ (.inl rfl) e,mA,⟨od,es,ep,k _ _ (.inr d) e2,c⟩,r⟩
 | own y=>obtain⟨ob,e⟩:=x;exact⟨ob,k _ _ (.inl rfl) e⟩
 | xd fs=>obtain⟨mA,⟨od,es,ep,e,c⟩,r⟩:=x;exact⟨mA,⟨od,es,ep,k _ _ (.inl rfl) e,c⟩,r⟩
 | rng lo hi=>obtain⟨t,u,v,e⟩:=x;exact⟨t,u,v,k _ _ (.inl rfl) e⟩
 | frz ob u ih=>obtain⟨e,q⟩:=x;exact⟨k _ _ (.inl rfl) e,ih q⟩
 | tbl ps =>
  have e:h.get? a=some {cls:=.none,data:=.fields ps}:=x
  show h'.get? a=some {cls:=.none,data:=.fields ps}
  exact k a _ (.inl rfl) e
 | met f y =>
  have e:h.get? a=some (PySem.W.methodObj (.ref f) (.ref y)):=x
  show h'.get? a=some (PySem.W.methodObj (.ref f) (.ref y))
  exact k a _ (.inl rfl) e
 | ext φ=>obtain⟨p,⟨o,e⟩,st⟩:=x;exact⟨st _ _ p fun o q=>k _ _ (.inl rfl) q,⟨o,k _ _ (.inl rfl) e⟩,st⟩
theorem HOk.lt (x:HOk P w H h)(e:H a=some o):a<h.objs.size:=(x a o e).lt
theorem HOk.fresh (x:HOk P w H h)(e:h.objs.size≤a):H a=none:=by
 cases q:H a with
 | none=>rfl
 | some u=>exact absurd (Nat.lt_of_lt_of_le (x.lt q) e) (Nat.lt_irrefl _)
theorem HOk.kept (x:HOk P w H h)(k:∀b u,h.get? b=some u→h'.get? b=some u):HOk P w H h':=fun a o e =>
 (x a o e).stay (fun b u _ q=>k b u q) (fun _ q=>q) fun _ _ q=>q
theorem HOk.laid (x:HOk P w H h)(k:∀b u,h.get? b=some u→h'.get? b=some u)(hp:h.objs.size≤a)(new:ObjOk P w (upd H a o) h' a o):HOk P w (upd H a o) h':=fun b u e=>by
 have hn:=x.fresh hp
 by_cases hb:b=a
 ·subst hb;rw[upd_same] at e;cases e;exact new
 ·rw[upd_ne hb] at e
  exact(x b u e).stay (fun c v _ q=>k c v q) (fun c q=>by rw[upd_ne (ne_of_none q hn)];exact q) fun c xs q=>by rw[upd_ne (ne_of_none q hn)];exact q
end
def Rd (H:Hp)(a:Addr)(u:HO):Prop:=H a=some u∨∃o,H a=some (.frz o u)
theorem Rd.of {H:Hp}{a:Addr}{u:HO}(h:H a=some u):Rd H a u:=.inl h
theorem Rd.ok {P:Program}{w:World}{H:Hp}{h:Heap}{a:Addr}{u:HO}(r:Rd H a u)(x:HOk P w H h):ObjOk P w H h a u:=by
 rcases r with r|⟨o,r⟩
 ·exact x a u r
 ·obtain⟨_,q⟩:=x a _ r
  exact q
def Mut:Option HO→Prop
 | some (.lst _)=>True
 | some (.dK _)=>True
 | some (.dT _)=>True
 | some (.set _ _)=>True
 | some (.ins _ _ _)=>True
 | some (.ext _)=>True
 | _=>False
section
variable {P:Program}{w:World}{H:Hp}{h h':Heap}{x e:Addr}{o':HO}
theorem HOk.write (ok:HOk P w H h)(mu:Mut (H x))(he:e=x∨H e=some (.own x))(k:∀b u,b≠e→h.get? b=some u→h'.get? b=some u)(heo:∃u,h'.get? e=some u)
  (new:ObjOk P w (upd H x o') h' x o'):HOk P w (upd H x o') h':=fun b u q=>by
 have nown:∀c y,H c=some (.own y)→c≠x:=fun c y r z=>by subst z;rw[r] at mu;exact mu
 have ntup:∀c xs,H c=some (.tup xs)→c≠x:=fun c xs r z=>by subst z;rw[r] at mu;exact mu
 by_cases hb:b=x
 ·subst hb;rw[upd_same] at q;cases q;exact new
 ·rw [upd_ne hb] at q
  by_cases hbe:b=e
  ·have q':H b=some (.own x):=by
    rcases he with z|z
    ·exact absurd (hbe.trans z) hb
    ·rw[hbe];exact z
   rw[q] at q';cases q'
   obtain⟨v,hv⟩:=heo
   exact⟨v,by rw[hbe];exact hv⟩
  ·refine (ok b u q).stay (fun c v hc r=>k c v ?_ r) (fun c r=>by rw[upd_ne (nown c b r)];exact r) fun c xs r=>by rw[upd_ne (ntup c xs r)];exact r
   rcases hc with rfl|hc
   ·exact hbe
   ·rintro rfl
    rcases he with z|z
    ·exact nown c b hc z
    ·rw[hc] at z;cases z;exact hb rfl
end
structure Un (fs ex:List Addr)(H H':Hp)(h h':Heap):Prop where
 keep:∀b o,h.get? b=some o→H b=none→b∉fs→b∉ex→h'.get? b=some o
 slot:∀b o,h.get? b=some o→H b=none→b∈fs→b∉ex→∃sl,h'.get? b=some {o with slots:=sl}
 free:∀b o,h.get? b=some o→H b=none→b∉ex→H' b=none
 there:∀b o,h.get? b=some o→b∉ex→∃o',h'.get? b=some o'
 tups:∀b xs,H b=some (.tup xs)→H' b=some (.tup xs)
 frzs:∀b o u,H b=some (.frz o u)→H' b=some (.frz o u)
 tbls:∀b ps,H b=some (.tbl ps)→∃more,H' b=some (.tbl (ps++more))
section
variable {fs fs' ex ex':List Addr}{H H1 H2:Hp}{h h1 h2 h':Heap}{a x e:Addr}{o:HO}
theorem Un.any (u:Un fs ex H H1 h h1){b:Addr}{ob:Obj}(q:h.get? b=some ob)(n:H b=none)(hx:b∉ex):∃sl,h1.get? b=some {ob with slots:=sl}:=by
 by_cases hb:b∈fs
 ·exact u.slot b ob q n hb hx
 ·exact⟨ob.slots,u.keep b ob q n hb hx⟩
theorem Un.trans (a:Un fs ex H H1 h h1)(b:Un fs ex H1 H2 h1 h2):Un fs ex H H2 h h2 where
 keep:=fun c ob q n hc hx=>b.keep c ob (a.keep c ob q n hc hx) (a.free c ob q n hx) hc hx
 slot:=fun c ob q n hc hx=>by
  obtain⟨sl,e1⟩:=a.slot c ob q n hc hx
  obtain⟨sl',e2⟩:=b.slot c _ e1 (a.free c ob q n hx) hc hx
  exact⟨sl',e2⟩
 free:=fun c ob q n hx=>by
  obtain⟨o',e1⟩:=a.there c ob q hx
  exact b.free c o' e1 (a.free c ob q n hx) hx
 there:=fun c ob q hx=>by
  obtain⟨o',e1⟩:=a.there c ob q hx
  exact b.there c o' e1 hx
 tups:=fun c xs q=>b.tups c xs (a.tups c xs q)
 frzs:=fun c ob xs q=>b.frzs c ob xs (a.frzs c ob xs q)
 tbls:=fun c ps q=>by
  obtain⟨m1,e1⟩:=a.tbls c ps q
  obtain⟨m2,e2⟩:=b.tbls c _ e1
  exact⟨m1++m2,by rw[e2,Array.append_assoc]⟩
theorem Un.kept (k:∀b u,h.get? b=some u→h'.get? b=some u):Un fs ex H H h h' :=
 ⟨fun b ob q _ _ _=>k b ob q,fun b ob q _ _ _=>⟨ob.slots,k b ob q⟩,fun _ _ _ n _=>n,fun b ob q _=>⟨ob,k b ob q⟩,fun _ _ q=>q,fun _ _ _ q=>q,fun _ ps q=>⟨#[],by rw[q];simp⟩⟩
theorem Un.refl:Un fs ex H H h h:=Un.kept fun _ _ q=>q
theorem Un.laid (k:∀b u,h.get? b=some u→h'.get? b=some u)(hp:h.objs.size≤a)(hn:H a=none):Un fs ex H (upd H a o) h h' where
 keep:=fun b u q _ _ _=>k b u q
 slot:=fun b u q _ _ _=>⟨u.slots,k b u q⟩
 free:=fun b u q n _=>by rw[upd_ne (Nat.ne_of_lt (Nat.lt_of_lt_of_le (Heap.lt_size q) hp))];exact n
 there:=fun b u q _=>⟨u,k b u q⟩
 tups:=fun b xs q=>by rw[upd_ne (ne_of_none q hn)];exact q
 frzs:=fun b u xs q=>by rw[upd_ne (ne_of_none q hn)];exact q
 tbls:=fun b ps q=>⟨#[],by rw[upd_ne (ne_of_none q hn),q];simp⟩
theorem Un.write (mu:Mut (H x))(he:e=x∨H e=some (.own x))(k:∀b u,b≠e→h.get? b=some u→h'.get? b=some u)(heo:∃u,h'.get? e=some u):Un fs ex H (upd H x o) h h':=by
 have hx:∀b,H b=none→b≠x:=fun b n z=>by subst z;rw[n] at mu;exact mu
 have hb:∀b,H b=none→b≠e:=fun b n z=>by
  subst z
  rcases he with r|r
  ·exact hx b n r
  ·rw[n] at r;cases r
 have hm:∀b u,H b=some u→¬Mut (some u)→b≠x:=fun b u q nm z=>by subst z;rw[q] at mu;exact nm mu
 refine ⟨fun b u q n _ _=>k b u (hb b n) q,fun b u q n _ _=>⟨u.slots,k b u (hb b n) q⟩,fun b u q n _=>by rw[upd_ne (hx b n)];exact n,fun b u q _=>?_,
  fun b xs q=>by rw[upd_ne (hm b _ q fun z=>z)];exact q,fun b u xs q=>by rw[upd_ne (hm b _ q fun z=>z)];exact q,fun b ps q=>⟨#[],by rw[upd_ne (hm b _ q fun z=>z),q];simp⟩⟩
 by_cases hbe:b=e
 ·subst hbe;exact heo
 ·exact⟨u,k b u hbe q⟩
theorem Un.mono (u:Un fs ex H H1 h h1)(hs:∀b∈fs,b∈fs')(hx:∀b∈ex,b∈ex'):Un fs' ex' H H1 h h1 :=
 ⟨fun b ob q n hb he=>u.keep b ob q n (fun z=>hb (hs b z)) fun z=>he (hx b z),fun _ _ q n _ he=>u.any q n fun z=>he (hx _ z),fun b ob q n he=>u.free b ob q n fun z=>he (hx b z),fun b ob q he=>u.there b ob q fun z=>he (hx b z),u.tups,u.frzs,u.tbls⟩
end
def trk (h:Heap)(H:Hp):List Addr:=(List.range h.objs.size).filter fun a=>(H a).isSome
def hidT (h:Heap)(H:Hp):Heap:=PySem.W.hideAll h (trk h H)
theorem hidT_size (h:Heap)(H:Hp):(hidT h H).objs.size=h.objs.size:=PySem.W.hideAll_size _ _
theorem hidT_get {h:Heap}{H:Hp}{b:Addr}{o:Obj}(e:h.get? b=some o)(n:H b=none):(hidT h H).get? b=some o :=
 PySem.W.hideAll_get _ e fun hm=>by
  have q:(H b).isSome=true:=(List.mem_filter.mp hm).2
  rw[n] at q;simp at q
theorem of_hidT {h:Heap}{H:Hp}{b:Addr}{o:Obj}(e:(hidT h H).get? b=some o):h.get? b=some o∧H b=none:=by
 have e':h.get? b=some o:=PySem.W.of_hideAll (trk h H) e
 refine⟨e',?_⟩
 cases q:H b with
 | none=>rfl
 | some x =>
  have hm:b∈trk h H:=List.mem_filter.mpr ⟨List.mem_range.mpr (Heap.lt_size e'),by simp[q]⟩
  have z:(hidT h H).get? b=none:=PySem.W.hideAll_none (trk h H) hm
  rw[z] at e;cases e
def allNews (g h:Heap)(L:Addr):List (Addr×Obj):=(List.range h.objs.size).filterMap fun a=>if a=L∨(g.get? a).isSome=true then none else(h.get? a).map fun o=>(a,o)
def rest (g h:Heap)(L d:Addr):List (Addr×Obj):=(allNews g h L).filter fun p=>decide (p.1≠d)
end L2
namespace L2
open PySem PySem.Spec PyProof.Rows
structure Mod (K:PySem.W.Frag)(mg:Str→Option Value)(base:Heap):Prop where
 kin:K.In base
 glob:base.Ns mainGlobals mg
 blt:∃mb,base.Ns builtinsNs mb∧∀x:Str,x ≠ "__name__" → mb x=bootBuiltins x
 nolimit:base.NoLimit
structure Cx where
 prog:Program
 w:World
 K:PySem.W.Frag
 mg:Str→Option Value
 base:Heap
 A:Around
 N:List Str
 s₀:Shared
 H₀:Hp
 env:Env
 outer:List Env
 stack:List Env
 ex:List Addr
 fn:Str→Bool
 calm:Bool
 pn:List (Addr×Obj)
 xe:Value→Shared→Prop
def frs (l:List Env):List Addr:=l.filterMap (·.frame)
abbrev Cx.fs (X:Cx):List Addr:=frs X.outer
def Vis (sc:Scope)(x:Str):Prop:=sc.names.lookup x=some .local∨sc.names.lookup x=some .cell∨sc.names.lookup x=some .free
def Loc (sc:Scope)(x:Str):Prop:=sc.names.lookup x=some .local∨sc.names.lookup x=some .cell
def Look (env:Env)(h:Heap)(m:Str→Option Value)(x:Str)(u:Value):Prop :=
 (env.kindOf x=some .local∧m x=some u)∨((env.kindOf x=some .cell∨env.kindOf x=some .free)∧∃c,env.cells.lookup x=some c∧h.IsCell c (some u))
structure Cx.Ok (X:Cx):Prop where
 mod:Mod X.K X.mg X.base
 kind:X.env.scope.kind=.function
 glob:X.env.globals=mainGlobals
 blt:X.env.builtins=builtinsNs
 above:X.s₀.heap.objs.size≤X.env.locals
 inj:∀x y c,X.env.cells.lookup x=some c→X.env.cells.lookup y=some c→x=y
 has:∀x,(X.env.kindOf x=some .cell∨X.env.kindOf x=some .free)→∃c,X.env.cells.lookup x=some c
 cab:∀x c,X.fn x=true→X.env.cells.lookup x=some c→X.s₀.heap.objs.size≤c
 hd:X.calm=true→X.A.handled=none
 frames:X.A.frames=some X.stack
 stk:X.stack=X.outer∨(X.stack=X.env::X.outer∧X.env.frame=some X.env.locals)
 exf:∀b∈X.ex,b≠X.env.locals∧∀x c,X.env.cells.lookup x=some c→c≠b
 bs:∀b o,X.base.get? b=some o→X.s₀.heap.get? b=some o∧X.H₀ b=none
 bsz:X.base.objs.size≤X.s₀.heap.objs.size
 noex:∀b o,X.base.get? b=some o→b∉X.ex
 exfs:∀b∈X.ex,b∉X.fs
 funs:X.s₀.heap.FunFrames X.base X.outer
 frf:∀b∈X.fs,X.H₀ b=none
structure Inv (X:Cx)(pins:List (Addr×Obj))(σ:List (Option V))(H:Hp)(s:Shared):Prop where
 ok:X.Ok
 os:s.os=X.s₀.os
 bare:AllBare s.gens
 base:Un X.fs X.ex X.H₀ H X.s₀.heap s.heap
 loc:∃m,s.heap.Ns X.env.locals m∧∀(i:Nat) (x:Str) (v:V),X.N[i]? = some x→σ[i]? = some (some v)→Vis X.env.scope x→∃u,RelV v u∧Look X.env s.heap m x u
 cell:∀x c,X.env.cells.lookup x=some c→∃v,s.heap.IsCell c v
 free:H X.env.locals=none
 freeC:∀x c,X.env.cells.lookup x=some c→H c=none
 pin:∀p∈X.pn++pins,s.heap.get? p.1=some p.2∧H p.1=none∧p.1≠X.env.locals∧p.1∉X.fs∧∀v,p.2.data≠.cell v
 hok:HOk X.prog X.w H s.heap
 len:σ.length=X.N.length
section
variable {X:Cx}{pins:List (Addr×Obj)}{σ:List (Option V)}{H H':Hp}{s:Shared}{h':Heap}
theorem Cx.Ok.nofr (ok:X.Ok){b:Addr}{o:Obj}(e:X.base.get? b=some o):b∉X.fs:=fun hb=>by
 have:=(ok.funs.mem hb).1
 rw[e] at this;cases this
theorem Inv.bs (I:Inv X pins σ H s):∀b o,X.base.get? b=some o→s.heap.get? b=some o∧H b=none:=fun b o e =>
 ⟨I.base.keep b o (I.ok.bs b o e).1 (I.ok.bs b o e).2 (I.ok.nofr e) (I.ok.noex b o e),I.base.free b o (I.ok.bs b o e).1 (I.ok.bs b o e).2 (I.ok.noex b o e)⟩
theorem Inv.bk (I:Inv X pins σ H s):∀b o,X.base.get? b=some o→s.heap.get? b=some o:=fun b o e=>(I.bs b o e).1
theorem Inv.mod (I:Inv X pins σ H s):Mod X.K X.mg X.base:=I.ok.mod
theorem Inv.kIn (I:Inv X pins σ H s):X.K.In s.heap:=I.ok.mod.kin.keeps I.bk
theorem Inv.lt (I:Inv X pins σ H s):X.env.locals<s.heap.objs.size:=let ⟨_,hn,_⟩:=I.loc;hn.lt
theorem Inv.sz (I:Inv X pins σ H s):X.s₀.heap.objs.size≤s.heap.objs.size:=Nat.le_trans I.ok.above (Nat.le_of_lt I.lt)
theorem Inv.nofs (I:Inv X pins σ H s){a:Addr}(h:s.heap.objs.size≤a):a∉X.fs:=fun hb=>by
 obtain⟨_,o,ho,_⟩:=I.ok.funs.mem hb
 exact absurd (Nat.lt_of_lt_of_le (Heap.lt_size ho) (Nat.le_trans I.sz h)) (Nat.lt_irrefl _)
theorem Inv.cne (I:Inv X pins σ H s):∀x c,X.env.cells.lookup x=some c→c≠X.env.locals:=fun x c e z=>by
 obtain⟨v,o,ho,hd⟩:=I.cell x c e
 obtain⟨m,⟨o',es,ep,ho',hd',_⟩,_⟩:=I.loc
 rw[z,ho'] at ho;cases ho;rw[hd'] at hd;cases hd
theorem Inv.funs (I:Inv X pins σ H s):s.heap.FunFrames X.base X.outer:=by
 have all:∀(l:List Env),(∀b∈frs l,b∈X.fs)→X.s₀.heap.FunFrames X.base l→s.heap.FunFrames X.base l:=by
  intro l
  induction l with
  | nil=>intro _ _;trivial
  | cons env r ih =>
   intro hs hl
   obtain⟨hk,⟨L,o,hf,hn,ho,hd⟩,hr⟩:=hl
   have hL:L∈X.fs:=hs L (by unfold frs;rw[List.filterMap_cons,hf];exact List.mem_cons_self)
   obtain⟨sl,e⟩:=I.base.slot L o ho (I.ok.frf L hL) hL fun z=>I.ok.exfs L z hL
   exact⟨hk,⟨L,_,hf,hn,e,hd⟩,ih (fun b hb=>hs b (by unfold frs;rw[List.filterMap_cons,hf];exact List.mem_cons_of_mem _ hb)) hr⟩
 exact all X.outer (fun _ hb=>hb) I.ok.funs
theorem Inv.stack (I:Inv X pins σ H s):s.heap.FunFrames X.base X.stack:=by
 rcases I.ok.stk with e|⟨e,hf⟩
 ·rw[e];exact I.funs
 ·rw[e]
  obtain⟨m,hn,_⟩:=I.loc
  refine .cons (by rw[I.ok.kind];decide) hf hn ?_ I.funs
  exact Heap.get?_none_of_le (Nat.le_trans I.ok.bsz I.ok.above)
theorem Inv.stkSub (I:Inv X pins σ H s):∀b∈frs X.stack,b∈X.env.locals::X.fs:=fun b hb=>by
 rcases I.ok.stk with e|⟨e,hf⟩
 ·rw[e] at hb;exact List.mem_cons_of_mem _ hb
 ·rw[e] at hb
  unfold frs at hb
  rw[List.filterMap_cons,hf] at hb
  exact hb
theorem Inv.stkFree (I:Inv X pins σ H s):∀b∈frs X.stack,H b=none:=fun b hb=>by
 rcases List.mem_cons.mp (I.stkSub b hb) with e|hb
 ·rw[e];exact I.free
 ·obtain⟨_,o,ho,_⟩:=I.ok.funs.mem hb
  exact I.base.free b o ho (I.ok.frf b hb) fun z=>I.ok.exfs b z hb
theorem Inv.step {g':Array GenState}{t':Nat}{d':Drawn}{ch:List Addr}(I:Inv X pins σ H s)
  (hch:∀b∈ch,(b∈X.ex∨X.s₀.heap.objs.size≤b)∧b≠X.env.locals∧(∀x c,X.env.cells.lookup x=some c→c≠b)∧∀p∈X.pn++pins,p.1≠b)
  (keep:∀b o,b≠X.env.locals→b∉X.fs→b∉ch→s.heap.get? b=some o→H b=none→h'.get? b=some o)
  (slot:∀b o,b≠X.env.locals→b∈X.fs→b∉ch→s.heap.get? b=some o→H b=none→∃sl,h'.get? b=some {o with slots:=sl}) (free:∀b o,b∉ch→s.heap.get? b=some o→H b=none→H' b=none)
  (there:∀b o,b∉ch→s.heap.get? b=some o→∃o',h'.get? b=some o')
  (tups:∀b xs,H b=some (.tup xs)→H' b=some (.tup xs)) (frzs:∀b o u,H b=some (.frz o u)→H' b=some (.frz o u)) (tbls:∀b ps,H b=some (.tbl ps)→∃more,H' b=some (.tbl (ps++more)))
  (ns:∀m,s.heap.Ns X.env.locals m→h'.Ns X.env.locals m) (hok:HOk X.prog X.w H' h') (hg:AllBare g') :
  Inv X pins σ H' {s with heap:=h',gens:=g',drawn:=d',toks:=t'}:=by
 have neL:∀b o,X.s₀.heap.get? b=some o→b≠X.env.locals:=fun b o e=>Nat.ne_of_lt (Nat.lt_of_lt_of_le (Heap.lt_size e) I.ok.above)
 have neC:∀b o,X.s₀.heap.get? b=some o→b∉X.ex→b∉ch:=fun b o e hx hb=>by
  rcases(hch b hb).1 with z|z
  ·exact hx z
  ·exact absurd (Nat.lt_of_lt_of_le (Heap.lt_size e) z) (Nat.lt_irrefl _)
 have cellK:∀x c,X.env.cells.lookup x=some c→∀v,s.heap.IsCell c v→h'.IsCell c v:=fun x c e v ⟨o,ho,hd⟩=>by
  have nch:c∉ch:=fun z=>(hch c z).2.2.1 x c e rfl
  by_cases hc:c∈X.fs
  ·obtain⟨sl,q⟩:=slot c o (I.cne x c e) hc nch ho (I.freeC x c e)
   exact⟨_,q,hd⟩
  ·exact⟨o,keep c o (I.cne x c e) hc nch ho (I.freeC x c e),hd⟩
 refine⟨I.ok,I.os,hg,⟨fun b o e n hb hx=>?_,fun b o e n hb hx=>?_,fun b o e n hx=>?_,fun b o e hx=>?_,fun b xs e=>tups b xs (I.base.tups b xs e),fun b o xs e=>frzs b o xs (I.base.frzs b o xs e),fun b ps e=>?_⟩,?_,fun x c e=>?_,?_,fun x c e=>?_,fun p hp=>?_,hok,I.len⟩
 ·exact keep b o (neL b o e) hb (neC b o e hx) (I.base.keep b o e n hb hx) (I.base.free b o e n hx)
 ·obtain⟨sl,e1⟩:=I.base.slot b o e n hb hx
  obtain⟨sl',e2⟩:=slot b _ (neL b o e) hb (neC b o e hx) e1 (I.base.free b o e n hx)
  exact⟨sl',e2⟩
 ·obtain⟨o',e1⟩:=I.base.there b o e hx
  exact free b o' (neC b o e hx) e1 (I.base.free b o e n hx)
 ·obtain⟨o',e1⟩:=I.base.there b o e hx
  exact there b o' (neC b o e hx) e1
 ·obtain⟨m1,e1⟩:=I.base.tbls b ps e
  obtain⟨m2,e2⟩:=tbls b _ e1
  exact⟨m1++m2,by rw[e2,Array.append_assoc]⟩
 ·obtain⟨m,hn,hl⟩:=I.loc
  refine⟨m,ns m hn,fun i x v e1 e2 e3=>?_⟩
  obtain⟨u,r,l⟩:=hl i x v e1 e2 e3
  refine⟨u,r,?_⟩
  rcases l with l|⟨k,c,e,z⟩
  ·exact .inl l
  ·exact .inr ⟨k,c,e,cellK x c e _ z⟩
 ·obtain⟨v,z⟩:=I.cell x c e
  exact⟨v,cellK x c e v z⟩
 ·obtain⟨m,⟨o,_,_,ho,_⟩,_⟩:=I.loc
  exact free _ o (fun z=>(hch _ z).2.1 rfl) ho I.free
 ·obtain⟨v,o,ho,hd⟩:=I.cell x c e
  exact free c o (fun z=>(hch c z).2.2.1 x c e rfl) ho (I.freeC x c e)
 ·obtain⟨e,n,ne,nf,d⟩:=I.pin p hp
  have nch:p.1∉ch:=fun z=>(hch p.1 z).2.2.2 p hp rfl
  exact⟨keep p.1 p.2 ne nf nch e n,free p.1 p.2 nch e n,ne,nf,d⟩
theorem Inv.un {t':Nat}(I:Inv X pins σ H s)(u:Un X.fs [] H H' s.heap h')(hok:HOk X.prog X.w H' h'):Inv X pins σ H' {s with heap:=h',toks:=t'}:=by
 obtain⟨m,⟨o,es,ep,ho,r⟩,_⟩:=id I.loc
 obtain⟨sl,hL⟩:=u.any ho I.free (by simp)
 exact I.step (g':=s.gens) (d':=s.drawn) (ch:=[]) (fun _ z=>nomatch z) (fun b o _ hb _ e n=>u.keep b o e n hb (by simp)) (fun b o _ hb _ e n=>u.slot b o e n hb (by simp)) (fun b o _ e n=>u.free b o e n (by simp)) (fun b o _ e=>u.there b o e (by simp)) u.tups u.frzs u.tbls (fun m' hm=>by
  obtain⟨o',es',ep',ho',r'⟩:=hm
  rw[ho] at ho';cases ho'
  exact⟨_,es',ep',hL,r'⟩) hok I.bare
theorem Inv.call {g':Array GenState}{t':Nat}{d':Drawn}{ch:List Addr}(I:Inv X pins σ H s)(u:Un (frs X.stack) ch H H' s.heap h')(hok:HOk X.prog X.w H' h')(hg:AllBare g')
  (hch:∀b∈ch,(b∈X.ex∨X.s₀.heap.objs.size≤b)∧b≠X.env.locals∧(∀x c,X.env.cells.lookup x=some c→c≠b)∧∀p∈X.pn++pins,p.1≠b) :
  Inv X pins σ H' {s with heap:=h',gens:=g',drawn:=d',toks:=t'}:=by
 obtain⟨m,⟨o,es,ep,ho,r⟩,_⟩:=id I.loc
 obtain⟨sl,hL⟩:=u.any ho I.free fun z=>(hch _ z).2.1 rfl
 exact I.step (ch:=ch) hch (fun b o hL hb hc e n=>u.keep b o e n (fun z=>(List.mem_cons.mp (I.stkSub b z)).elim hL hb) hc) (fun b o _ _ hc e n=>u.any e n hc) (fun b o hc e n=>u.free b o e n hc) (fun b o hc e=>u.there b o e hc) u.tups u.frzs u.tbls (fun m' hm=>by
  obtain⟨o',es',ep',ho',r'⟩:=hm
  rw[ho] at ho';cases ho'
  exact⟨_,es',ep',hL,r'⟩) hok hg
theorem Inv.turned {t':Nat}{it:Addr}(I:Inv X pins σ H s)(k:∀b o,b≠it→s.heap.get? b=some o→h'.get? b=some o)(hn:H it=none)(hL:it≠X.env.locals)
  (h1:it∈X.ex∨X.s₀.heap.objs.size≤it) (h2:∀x c,X.env.cells.lookup x=some c→c≠it) (h3:∀p∈X.pn++pins,p.1≠it):Inv X pins σ H {s with heap:=h',toks:=t'}:=by
 have nit:∀b u,H b=some u→b≠it:=fun b u e z=>by rw[z,hn] at e;cases e
 refine I.step (g':=s.gens) (d':=s.drawn) (ch:=[it]) (fun b hb=>?_) (fun b o _ _ hc e _=>k b o (fun z=>hc (by simp[z])) e) (fun b o _ _ hc e _=>⟨o.slots,k b o (fun z=>hc (by simp[z])) e⟩) (fun _ _ _ _ n=>n)
  (fun b o hc e=>⟨o,k b o (fun z=>hc (by simp[z])) e⟩) (fun _ _ e=>e) (fun _ _ _ e=>e) (fun b ps e=>⟨#[],by rw[e];simp⟩) (fun m hm=>?_) (fun b u e=>?_) I.bare
 ·have e:b=it:=by simpa using hb
  subst e
  exact⟨h1,hL,h2,h3⟩
 ·obtain⟨o,es,ep,ho,r⟩:=hm
  exact⟨o,es,ep,k _ o (Ne.symm hL) ho,r⟩
 ·refine(I.hok b u e).stay (fun c v hc q=>k c v ?_ q) (fun _ q=>q) fun _ _ q=>q
  rcases hc with z|z
  ·rw[z];exact nit b u e
  ·exact nit c _ z
theorem Inv.tok (I:Inv X pins σ H s)(t:Nat):Inv X pins σ H {s with toks:=t}:=I.un (h':=s.heap) (t':=t) Un.refl I.hok
theorem Inv.kept {t':Nat}(I:Inv X pins σ H s)(k:∀b u,s.heap.get? b=some u→h'.get? b=some u):Inv X pins σ H {s with heap:=h',toks:=t'}:=I.un (Un.kept k) (I.hok.kept k)
theorem Inv.laid {a:Addr}{o:HO}{t':Nat}(I:Inv X pins σ H s)(k:∀b u,s.heap.get? b=some u→h'.get? b=some u)(hp:s.heap.objs.size≤a)(new:ObjOk X.prog X.w (upd H a o) h' a o) :
  Inv X pins σ (upd H a o) {s with heap:=h',toks:=t'}:=I.un (Un.laid k hp (I.hok.fresh hp)) (I.hok.laid k hp new)
theorem Inv.write {x e:Addr}{o:HO}{t':Nat}(I:Inv X pins σ H s)(mu:Mut (H x))(he:e=x∨H e=some (.own x))(k:∀b u,b≠e→s.heap.get? b=some u→h'.get? b=some u)(heo:∃u,h'.get? e=some u)
  (new:ObjOk X.prog X.w (upd H x o) h' x o):Inv X pins σ (upd H x o) {s with heap:=h',toks:=t'}:=I.un (Un.write mu he k heo) (I.hok.write mu he k heo new)
theorem Inv.weak {σ':List (Option V)}(I:Inv X pins σ H s)(hl:σ'.length=σ.length)(w:∀(i:Nat) v,σ'[i]? = some (some v)→σ[i]? = some (some v)):Inv X pins σ' H s :=
 ⟨I.ok,I.os,I.bare,I.base,let ⟨m,hn,hl'⟩:=I.loc;⟨m,hn,fun i x v e1 e2 e3=>hl' i x v e1 (w i v e2) e3⟩,I.cell,I.free,I.freeC,I.pin,I.hok,hl.trans I.len⟩
theorem Inv.pins_of {pins':List (Addr×Obj)}(I:Inv X pins σ H s)(h:∀p∈pins',s.heap.get? p.1=some p.2∧H p.1=none∧p.1≠X.env.locals∧p.1∉X.fs∧∀v,p.2.data≠.cell v):Inv X pins' σ H s :=
 ⟨I.ok,I.os,I.bare,I.base,I.loc,I.cell,I.free,I.freeC,fun p hp=>(List.mem_append.mp hp).elim (fun z=>I.pin p (List.mem_append_left _ z)) (h p),I.hok,I.len⟩
theorem nodup_ix {N:List Str}(hN:N.Nodup){i j:Nat}{x:Str}(a:N[i]? = some x)(b:N[j]? = some x):i=j:=by
 obtain⟨h1,e1⟩:=List.getElem?_eq_some_iff.mp a
 obtain⟨h2,e2⟩:=List.getElem?_eq_some_iff.mp b
 exact(List.getElem_inj hN).mp (e1.trans e2.symm)
theorem store_ok2 {M:Model}{A:Around}{E:Value→Shared→Prop}{i:Nat}{x:Str}{v:V}{u:Value}{Q:Unit→Shared→Prop}(I:Inv X pins σ H s)(hN:X.N.Nodup)(hi:X.N[i]? = some x)(hx:Loc X.env.scope x)(r:RelV v u)
  (h:∀s',Inv X pins (σ.set i (some v)) H s'→(∃a,Heap.SameBut a s.heap s'.heap∧(a=X.env.locals∨X.env.cells.lookup x=some a))→Q () s') (hf:X.fn x=true∨X.env.scope.names.lookup x=some .local:=by first|exact .inl rfl|exact .inr rfl|assumption):wpAny M A (storeName X.env x u) Q E s:=by
 obtain⟨m,hn,hl⟩:=id I.loc
 have hcls:(X.env.scope.kind == .class || (X.env.scope.kind == .module&&X.env.locals != X.env.globals))=false:=by rw[I.ok.kind];rfl
 have hiσ:i<σ.length:=by rw[I.len];exact(List.getElem?_eq_some_iff.mp hi).1
 have cne:=I.cne
 have tracked:∀{a:Addr}{h':Heap},(∃o,s.heap.get? a=some o∧H a=none)→Heap.SameBut a s.heap h'→HOk X.prog X.w H h':=fun {a h'} ha hs b ob e=>by
  obtain⟨_,_,hfree⟩:=ha
  refine(I.hok b ob e).stay (fun c w' hc q=>(hs.2 c ?_).trans q) (fun _ q=>q) fun _ _ q=>q
  rintro rfl
  rcases hc with rfl|hc
  ·rw[hfree] at e;cases e
  ·rw[hfree] at hc;cases hc
 rcases hx with hk|hk
 ·refine wpAny_storeName_local hk hn (fun h' hn' hs=>?_) hcls
  obtain⟨oL,_,_,hoL,_⟩:=id hn
  refine h _ ⟨I.ok,I.os,I.bare,⟨fun b o e n hb hx=>?_,fun b o e n hb hx=>?_,I.base.free,fun b o e hx=>?_,I.base.tups,I.base.frzs,I.base.tbls⟩,⟨_,hn',fun j y v' e1 e2 e3=>?_⟩,fun y c e=>?_,I.free,I.freeC,fun p hp=>?_,tracked ⟨oL,hoL,I.free⟩ hs,by simpa using I.len⟩ ⟨_,hs,.inl rfl⟩
  ·exact(hs.2 b (Nat.ne_of_lt (Nat.lt_of_lt_of_le (Heap.lt_size e) I.ok.above))).trans (I.base.keep b o e n hb hx)
  ·obtain⟨sl,e1⟩:=I.base.slot b o e n hb hx
   exact⟨sl,(hs.2 b (Nat.ne_of_lt (Nat.lt_of_lt_of_le (Heap.lt_size e) I.ok.above))).trans e1⟩
  ·obtain⟨o',e1⟩:=I.base.there b o e hx
   exact⟨o',(hs.2 b (Nat.ne_of_lt (Nat.lt_of_lt_of_le (Heap.lt_size e) I.ok.above))).trans e1⟩
  ·by_cases hj:j=i
   ·subst hj
    rw[hi] at e1;cases e1
    rw[List.getElem?_set_self hiσ] at e2
    cases e2
    exact⟨u,r,.inl ⟨hk,by simp⟩⟩
   ·rw [List.getElem?_set_ne (Ne.symm hj)] at e2
    obtain⟨u',r',q⟩:=hl j y v' e1 e2 e3
    refine⟨u',r',?_⟩
    rcases q with⟨k,e⟩|⟨k,c,e,z⟩
    ·refine .inl ⟨k,?_⟩
     have:y≠x:=fun e=>hj (nodup_ix hN e1 (e▸hi))
     simp[this,e]
    ·exact .inr ⟨k,c,e,z.sameBut hs (cne y c e)⟩
  ·obtain⟨w',z⟩:=I.cell y c e
   exact⟨w',z.sameBut hs (cne y c e)⟩
  ·obtain⟨e,n,ne,nf,d⟩:=I.pin p hp
   exact⟨(hs.2 p.1 ne).trans e,n,ne,nf,d⟩
 ·have hfn:X.fn x=true:=by
   rcases hf with z|z
   ·exact z
   ·rw[z] at hk;cases hk
  obtain⟨c,hc⟩:=I.ok.has x (.inl hk)
  obtain⟨w',z⟩:=I.cell x c hc
  refine wpAny_storeName_cell I.ok.kind hk hc z (fun h' hc' hs=>?_)
  obtain⟨oc,hoc,hocd⟩:=id z
  refine h {s with heap:=h'} ⟨I.ok,I.os,I.bare,⟨fun b o e n hb hx=>?_,fun b o e n hb hx=>?_,I.base.free,fun b o e hx=>?_,I.base.tups,I.base.frzs,I.base.tbls⟩,⟨m,hn.sameBut hs (Ne.symm (cne x c hc)),fun j y v' e1 e2 e3=>?_⟩,fun y c' e=>?_,I.free,I.freeC,fun p hp=>?_,tracked ⟨oc,hoc,I.freeC x c hc⟩ hs,by simpa using I.len⟩ ⟨c,hs,.inr hc⟩
  ·exact(hs.2 b (Nat.ne_of_lt (Nat.lt_of_lt_of_le (Heap.lt_size e) (I.ok.cab x c hfn hc)))).trans (I.base.keep b o e n hb hx)
  ·obtain⟨sl,e1⟩:=I.base.slot b o e n hb hx
   exact⟨sl,(hs.2 b (Nat.ne_of_lt (Nat.lt_of_lt_of_le (Heap.lt_size e) (I.ok.cab x c hfn hc)))).trans e1⟩
  ·obtain⟨o',e1⟩:=I.base.there b o e hx
   exact⟨o',(hs.2 b (Nat.ne_of_lt (Nat.lt_of_lt_of_le (Heap.lt_size e) (I.ok.cab x c hfn hc)))).trans e1⟩
  ·by_cases hj:j=i
   ·subst hj
    rw[hi] at e1;cases e1
    rw[List.getElem?_set_self hiσ] at e2
    cases e2
    exact⟨u,r,.inr ⟨.inl hk,c,hc,hc'⟩⟩
   ·rw [List.getElem?_set_ne (Ne.symm hj)] at e2
    obtain⟨u',r',q⟩:=hl j y v' e1 e2 e3
    refine⟨u',r',?_⟩
    rcases q with q|⟨k,c',e,z'⟩
    ·exact .inl q
    ·refine .inr ⟨k,c',e,z'.sameBut hs ?_⟩
     rintro rfl
     exact hj (nodup_ix hN e1 (I.ok.inj _ _ _ e hc▸hi))
  ·by_cases hcc:c'=c
   ·subst hcc;exact⟨_,hc'⟩
   ·obtain⟨w2,z2⟩:=I.cell y c' e
    exact⟨w2,z2.sameBut hs hcc⟩
  ·obtain⟨e,n,ne,nf,d⟩:=I.pin p hp
   refine⟨(hs.2 p.1 ?_).trans e,n,ne,nf,d⟩
   intro q
   rw[q,hoc] at e
   have q':oc=p.2:=Option.some.inj e
   exact d w' (by rw[← q'];exact hocd)
theorem store_ok {M:Model}{A:Around}{E:Value→Shared→Prop}{i:Nat}{x:Str}{v:V}{u:Value}{Q:Unit→Shared→Prop}(I:Inv X pins σ H s)(hN:X.N.Nodup)(hi:X.N[i]? = some x)(hx:Loc X.env.scope x)(r:RelV v u)
  (h:∀s',Inv X pins (σ.set i (some v)) H s'→Q () s') (hf:X.fn x=true∨X.env.scope.names.lookup x=some .local:=by first|exact .inl rfl|exact .inr rfl|assumption):wpAny M A (storeName X.env x u) Q E s :=
 store_ok2 I hN hi hx r (fun s' I' _=>h s' I') hf
theorem Inv.call' {s':Shared}{ch:List Addr}(I:Inv X pins σ H s)(ho:s'.os=s.os)(u:Un (frs X.stack) ch H H' s.heap s'.heap)(hok:HOk X.prog X.w H' s'.heap)(hg:AllBare s'.gens)
  (hch:∀b∈ch,(b∈X.ex∨X.s₀.heap.objs.size≤b)∧b≠X.env.locals∧(∀x c,X.env.cells.lookup x=some c→c≠b)∧∀p∈X.pn++pins,p.1≠b):Inv X pins σ H' s':=by
 obtain⟨h',g',d',t',o'⟩:=s'
 have e:o'=s.os:=ho
 subst e
 exact I.call (g':=g') (t':=t') (d':=d') u hok hg hch
end
abbrev XK:=Value→Option Addr→Hp→Prop
abbrev St:=List (Option V)
abbrev VK:=V→Hp→Prop
abbrev TE:=St→Hp→VK→Prop
abbrev TT:=St→Hp→(Bool→Hp→Prop)→Prop
abbrev TA:=St→Hp→(List V→Hp→Prop)→Prop
structure Ends where
 nx:St→Hp→Prop
 rt:VK
 bk:St→Hp→Prop:=fun _ _=>False
 ct:St→Hp→Prop:=fun _ _=>False
abbrev TS:=Ends→St→Hp→Prop
inductive EP (X:Cx)(pins:List (Addr×Obj))(σ:St)(Q:VK)(u:Value)(s':Shared):Prop
 | mk (v:V) (H':Hp) (I:Inv X pins σ H' s') (r:RelV v u) (q:Q v H')
inductive TP (X:Cx)(pins:List (Addr×Obj))(σ:St)(Q:Bool→Hp→Prop)(b:Bool)(s':Shared):Prop
 | mk (H':Hp) (I:Inv X pins σ H' s') (q:Q b H')
inductive AP (X:Cx)(pins:List (Addr×Obj))(σ:St)(Q:List V→Hp→Prop)(us:List Value)(s':Shared):Prop
 | mk (vs:List V) (H':Hp) (I:Inv X pins σ H' s') (r:Vals vs us) (q:Q vs H')
inductive SN (X:Cx)(pins:List (Addr×Obj))(Q:St→Hp→Prop)(s':Shared):Prop
 | mk (a:St) (b:Hp) (I:Inv X pins a b s') (q:Q a b)
inductive SR (X:Cx)(pins:List (Addr×Obj))(Q:VK)(u:Value)(s':Shared):Prop
 | mk (v:V) (a:St) (b:Hp) (I:Inv X pins a b s') (r:RelV v u) (q:Q v b)
def SP (X:Cx)(pins:List (Addr×Obj))(D:Ends)(f:Flow)(s':Shared):Prop :=
 match f with
 | .next=>SN X pins D.nx s'
 | .brk=>SN X pins D.bk s'
 | .cont=>SN X pins D.ct s'
 | .ret u=>SR X pins D.rt u s'
def PE (X:Cx)(e:Expr)(t:TE):Prop :=
 ∀(pins:List (Addr×Obj)) (s:Shared) (σ:St) (H:Hp) (Q:VK),Inv X pins σ H s→t σ H Q→wpAny (model X.prog X.w) X.A (eval e X.env) (EP X pins σ Q) X.xe s
def PT (X:Cx)(e:Expr)(t:TT):Prop :=
 ∀(pins:List (Addr×Obj)) (s:Shared) (σ:St) (H:Hp) (Q:Bool→Hp→Prop),Inv X pins σ H s→t σ H Q→wpAny (model X.prog X.w) X.A (isTrue e X.env (eval e X.env)) (TP X pins σ Q) X.xe s
def PW (X:Cx)(e:Expr)(t:TT):Prop :=
 ∀(whole:Sem Value) (pins:List (Addr×Obj)) (s:Shared) (σ:St) (H:Hp) (Q:Bool→Hp→Prop),Inv X pins σ H s→t σ H Q→wpAny (model X.prog X.w) X.A (isTrue e X.env whole) (TP X pins σ Q) X.xe s
theorem PW.pt {X:Cx}{e:Expr}{t:TT}(h:PW X e t):PT X e t:=h _
def PA (X:Cx)(es:List Expr)(t:TA):Prop :=
 ∀(pos:Pos) (pins:List (Addr×Obj)) (s:Shared) (σ:St) (H:Hp) (Q:List V→Hp→Prop),Inv X pins σ H s→t σ H Q→wpAny (model X.prog X.w) X.A (spliced (backTo pos (starEach es X.env))) (AP X pins σ Q) X.xe s
def PS (X:Cx)(st:Stmt)(t:TS):Prop :=
 ∀(pins:List (Addr×Obj)) (s:Shared) (σ:St) (H:Hp) (D:Ends),Inv X pins σ H s→t D σ H→wpAny (model X.prog X.w) X.A (exec st X.env) (SP X pins D) X.xe s
def PSs (X:Cx)(st:List Stmt)(t:TS):Prop :=
 ∀(pins:List (Addr×Obj)) (s:Shared) (σ:St) (H:Hp) (D:Ends),Inv X pins σ H s→t D σ H→wpAny (model X.prog X.w) X.A (execs st X.env) (SP X pins D) X.xe s
theorem thn {α:Type}{t:Sem α}{Q Q':α→Shared→Prop}{M:Model}{A:Around}{E:Value→Shared→Prop}{s:Shared}(h:wpAny M A t Q E s)(hQ:∀a s,Q a s→Q' a s):wpAny M A t Q' E s:=wpAny_mono h hQ fun _ _ x=>x
end L2
namespace L2
open PySem PySem.Spec PyProof.Rows
section
variable {X:Cx}
def tVar (i:Nat):TE:=fun σ H Q=>∃v,σ[i]? = some (some v)∧Q v H
def tC (v:V):TE:=fun _ H Q=>Q v H
theorem pe_var {i:Nat}{x:Str}{pos:Pos}(hN:X.N[i]? = some x)(hv:Vis X.env.scope x)(hd:(x == ("__debug__" : Str))=false:=by decide)(hcd:(x == ("__classdict__" : Str))=false:=by decide):PE X (.Name x pos) (tVar i):=by
 intro pins s σ H Q I h
 obtain⟨v,e,h⟩:=h
 obtain⟨m,hn,hl⟩:=I.loc
 obtain⟨u,r,l⟩:=hl i x v hN e hv
 have fin:EP X pins σ Q u s:=⟨v,H,I,r,h⟩
 rcases l with⟨hk,hm⟩|⟨hk,c,hc,hcell⟩
 ·exact wpAny_Name (wpAny_loadName_local I.ok.kind hk hn hm fin) hd
 ·rcases hk with hk|hk
  ·exact wpAny_Name (wpAny_loadName_cell I.ok.kind hk hc hcell fin) hd
  ·exact wpAny_Name (wpAny_loadName_free I.ok.kind hk hc hcell fin hcd) hd
theorem pe_int {i j pos}:PE X (.Constant (.int i) j pos) (tC (.int i)):=fun _ _ _ H _ I h=>wpAny_Constant_int ⟨.int i,H,I.tok _,⟨_,rfl⟩,h⟩
theorem pe_bl {b j pos}:PE X (.Constant (.bool b) j pos) (tC (.bl b)):=fun _ _ _ H _ I h=>Constant_bool ⟨.bl b,H,I,rfl,h⟩
theorem pe_non {j pos}:PE X (.Constant .none j pos) (tC .non):=fun _ _ _ H _ I h=>Constant_none ⟨.non,H,I,rfl,h⟩
theorem pe_str {x j pos}:PE X (.Constant (.str x) j pos) (tC (.str x)):=fun _ _ _ H _ I h=>Calls.Constant_str ⟨.str x,H,I.tok _,⟨_,rfl⟩,h⟩
def Gl (X:Cx)(x:Str):Prop:=X.env.kindOf x=some .globalImplicit
theorem ld_glob {E:Value→Shared→Prop}{pins:List (Addr×Obj)}{s:Shared}{σ:St}{H:Hp}{x:Str}{u:Value}{pos:Pos}{Q:Value→Shared→Prop}(I:Inv X pins σ H s)(hg:Gl X x)(hm:X.mg x=some u)(h:Q u s)
  (hd:(x == ("__debug__" : Str))=false:=by decide):wpAny (model X.prog X.w) X.A (eval (.Name x pos) X.env) Q E s :=
 Calls.Name_function_global I.ok.kind hg (Calls.loadGlobal_global (by rw[I.ok.glob];exact I.mod.glob.keeps I.bk) hm h) hd
theorem ld_blt {E:Value→Shared→Prop}{pins:List (Addr×Obj)}{s:Shared}{σ:St}{H:Hp}{x:Str}{u:Value}{pos:Pos}{Q:Value→Shared→Prop}(I:Inv X pins σ H s)(hg:Gl X x)(hm:X.mg x=none)(hv:bootBuiltins x=some u)(h:Q u s)
  (hn:x ≠ "__name__" := by decide) (hd:(x == ("__debug__" : Str))=false:=by decide):wpAny (model X.prog X.w) X.A (eval (.Name x pos) X.env) Q E s:=by
 obtain⟨mb,h1,h2⟩:=I.mod.blt
 exact Calls.Name_function_global I.ok.kind hg (Calls.loadGlobal_builtin (by rw[I.ok.glob];exact I.mod.glob.keeps I.bk) hm (by rw[I.ok.blt];exact h1.keeps I.bk) ((h2 x hn).trans hv) h) hd
theorem pe_glob {x:Str}{v:V}{u:Value}{pos:Pos}(hg:Gl X x)(hm:X.mg x=some u)(r:RelV v u)(hd:(x == ("__debug__" : Str))=false:=by decide):PE X (.Name x pos) (tC v) :=
 fun _ _ _ H _ I h=>ld_glob I hg hm ⟨v,H,I,r,h⟩ hd
theorem pe_bltn {x:Str}{v:V}{u:Value}{pos:Pos}(hg:Gl X x)(hm:X.mg x=none)(hv:bootBuiltins x=some u)(r:RelV v u)(hn:x ≠ "__name__" := by decide)(hd:(x == ("__debug__" : Str))=false:=by decide):PE X (.Name x pos) (tC v) :=
 fun _ _ _ H _ I h=>ld_blt I hg hm hv ⟨v,H,I,r,h⟩ hn hd
variable {a b:Expr}{ta tb:TE}{pos:Pos}
def PC (X:Cx)(op:CmpOp)(a b:Expr)(t:TE):Prop :=
 ∀ (pins:List (Addr×Obj)) (s:Shared) (σ:St) (H:Hp) (Q:VK),Inv X pins σ H s→t σ H Q →
  wpAny (model X.prog X.w) X.A (eval a X.env) (fun v s₁=>wpAny (model X.prog X.w) X.A (eval b X.env) (fun u s₂=>wpAny (model X.prog X.w) X.A (compareOp op v u) (EP X pins σ Q) X.xe s₂) X.xe s₁) X.xe s
theorem nobehind (b:Expr){op:CmpOp}(h:op≠.In)(h2:op≠.NotIn):behindInMarks op b=false:=by
 have e1:(op == CmpOp.In)=false:=by cases op <;>first|rfl|exact absurd rfl h
 have e2:(op == CmpOp.NotIn)=false:=by cases op <;>first|rfl|exact absurd rfl h2
 cases b <;>simp[behindInMarks,e1,e2]
def tIsN (ta:TE):TE:=fun σ H Q=>ta σ H fun x H1=>Q (.bl (decide (x=.non))) H1
def tNotN (ta:TE):TE:=fun σ H Q=>ta σ H fun x H1=>Q (.bl (!decide (x=.non))) H1
theorem RelV.none_iff {x:V}{v:Value}(r:RelV x v):(v == Value.none)=decide (x=.non):=by
 cases x with
 | non=>cases r;rfl
 | bl _=>cases r;rfl
 | int _=>obtain⟨t,rfl⟩:=r;rfl
 | str _=>obtain⟨t,rfl⟩:=r;rfl
 | byt _=>obtain⟨t,rfl⟩:=r;rfl
 | flt _=>obtain⟨t,rfl⟩:=r;rfl
 | ref _=>cases r;rfl
 | ty _=>cases r;rfl
theorem pc_isN {j pos'}(ha:PE X a ta):PC X .Is a (.Constant .none j pos') (tIsN ta):=by
 intro pins s σ H Q I h
 refine thn (ha pins s σ H _ I h) fun v s1 hq0=>?_
 obtain⟨x,H1,I1,r1,q1⟩:=hq0
 exact Constant_none (is_none_gen ⟨.bl _,H1,I1,by rw[r1.none_iff];rfl,q1⟩)
theorem pc_notN {j pos'}(ha:PE X a ta):PC X .IsNot a (.Constant .none j pos') (tNotN ta):=by
 intro pins s σ H Q I h
 refine thn (ha pins s σ H _ I h) fun v s1 hq1=>?_
 obtain⟨x,H1,I1,r1,q1⟩:=hq1
 exact Constant_none (isnot_none_gen ⟨.bl _,H1,I1,by rw[r1.none_iff];rfl,q1⟩)
def tB (t:TE):TT:=fun σ H Q=>t σ H fun x H1=>∃c,x=.bl c∧Q c H1
theorem pe_cmp {op:CmpOp}{t:TE}(h:PC X op a b t)(h1:behindInMarks op b=false:=by first|exact nobehind _ (by decide) (by decide)|rfl):PE X (.Compare a [op] [b] pos) t:=fun pins s σ H Q I hw=>wpAny_Compare1 (h pins s σ H Q I hw) h1
theorem pt_cmp {op:CmpOp}{t:TE}(h:PC X op a b t)(h1:behindInMarks op b=false:=by first|exact nobehind _ (by decide) (by decide)|rfl):PT X (.Compare a [op] [b] pos) (tB t):=by
 intro pins s σ H Q I hw
 refine wpAny_isTrue_Compare1 (thn (h pins s σ H _ I hw) fun v s1 h1=>thn h1 fun u s2 h2=>thn h2 fun c s3 ⟨x,H1,I1,r1,q1⟩=>?_) h1
 obtain⟨d,rfl,q⟩:=q1
 cases r1
 exact wpAny_truthy_bool ⟨H1,I1,q⟩
theorem pt_val {e:Expr}{t:TE}(h:PE X e t)(he:∀whole,isTrue e X.env whole=(do let v ← whole;standAt e.pos;holding [v] (truthy v)):=by intro _;rfl):PT X e (tB t):=by
 intro pins s σ H Q I hw
 refine isTrue_plain (thn (h pins s σ H _ I hw) fun v s1 hq2=>?_) (he _)
 obtain⟨x,H1,I1,r1,q1⟩:=hq2
 obtain⟨d,rfl,q⟩:=q1
 cases r1
 exact wpAny_truthy_bool ⟨H1,I1,q⟩
variable {tA tB':TT}{rest:List Expr}
def tAnd (t u:TT):TT:=fun σ H Q=>t σ H fun c H1=>if c=true then u σ H1 Q else Q false H1
def tOr (t u:TT):TT:=fun σ H Q=>t σ H fun c H1=>if c=true then Q true H1 else u σ H1 Q
def tNot (t:TT):TT:=fun σ H Q=>t σ H fun c H1=>Q (!c) H1
theorem pw_and1 (ha:PT X a tA):PW X (.BoolOp .And [a] pos) tA:=by
 intro wh pins s σ H Q I h
 refine isTrue_and (thn (ha pins s σ H Q I h) fun c s1 e=>?_)
 cases c with
 | true=>exact isTrue_and_nil e
 | false=>exact e
theorem pw_or1 (ha:PT X a tA):PW X (.BoolOp .Or [a] pos) tA:=by
 intro wh pins s σ H Q I h
 refine isTrue_or (thn (ha pins s σ H Q I h) fun c s1 e=>?_)
 cases c with
 | false=>exact isTrue_or_nil e
 | true=>exact e
theorem pw_and (ha:PT X a tA)(hb:PW X (.BoolOp .And (b::rest) pos) tB'):PW X (.BoolOp .And (a::b::rest) pos) (tAnd tA tB'):=by
 intro wh pins s σ H Q I h
 refine isTrue_and (thn (ha pins s σ H _ I h) fun c s1 hq3=>?_)
 obtain⟨H1,I1,q1⟩:=hq3
 cases c with
 | true=>exact hb wh pins s1 σ H1 Q I1 q1
 | false=>exact⟨H1,I1,q1⟩
theorem pw_or (ha:PT X a tA)(hb:PW X (.BoolOp .Or (b::rest) pos) tB'):PW X (.BoolOp .Or (a::b::rest) pos) (tOr tA tB'):=by
 intro wh pins s σ H Q I h
 refine isTrue_or (thn (ha pins s σ H _ I h) fun c s1 hq4=>?_)
 obtain⟨H1,I1,q1⟩:=hq4
 cases c with
 | true=>exact⟨H1,I1,q1⟩
 | false=>exact hb wh pins s1 σ H1 Q I1 q1
theorem pt_not (ha:PT X a tA):PT X (.UnaryOp .Not a pos) (tNot tA):=by
 intro pins s σ H Q I h
 exact isTrue_not (thn (ha pins s σ H (fun c H1=>Q (!c) H1) I h) fun _ _ ⟨b,I,q⟩=>⟨b,I,q⟩)
def tAndV (ta tb:TE):TE:=fun σ H Q=>ta σ H fun x H1=>∃c,x=.bl c∧if c=true then tb σ H1 Q else Q (.bl false) H1
def tOrV (ta tb:TE):TE:=fun σ H Q=>ta σ H fun x H1=>∃c,x=.bl c∧if c=true then Q (.bl true) H1 else tb σ H1 Q
def tNotV (ta:TE):TE:=fun σ H Q=>ta σ H fun x H1=>∃c,x=.bl c∧Q (.bl (!c)) H1
theorem pe_one {op}{t:TE}(h:PE X a t):PE X (.BoolOp op [a] pos) t:=fun pins s σ H Q I hw=>BoolOp_one (h pins s σ H Q I hw)
theorem pe_and (ha:PE X a ta)(hb:PE X (.BoolOp .And (b::rest) pos) tb):PE X (.BoolOp .And (a::b::rest) pos) (tAndV ta tb):=by
 intro pins s σ H Q I h
 refine BoolOp_and (thn (ha pins s σ H _ I h) fun v s1 hq5=>?_)
 obtain⟨x,H1,I1,r1,q1⟩:=hq5
 obtain⟨c,rfl,q1⟩:=q1
 cases r1
 refine wpAny_truthy_bool ?_
 cases c with
 | true=>exact hb pins s1 σ H1 Q I1 q1
 | false=>exact⟨.bl false,H1,I1,rfl,q1⟩
theorem pe_or (ha:PE X a ta)(hb:PE X (.BoolOp .Or (b::rest) pos) tb):PE X (.BoolOp .Or (a::b::rest) pos) (tOrV ta tb):=by
 intro pins s σ H Q I h
 refine BoolOp_or (thn (ha pins s σ H _ I h) fun v s1 hq6=>?_)
 obtain⟨x,H1,I1,r1,q1⟩:=hq6
 obtain⟨c,rfl,q1⟩:=q1
 cases r1
 refine wpAny_truthy_bool ?_
 cases c with
 | false=>exact hb pins s1 σ H1 Q I1 q1
 | true=>exact⟨.bl true,H1,I1,rfl,q1⟩
theorem pe_not (ha:PE X a ta):PE X (.UnaryOp .Not a pos) (tNotV ta):=by
 intro pins s σ H Q I h
 refine UnaryOp_ (thn (ha pins s σ H _ I h) fun v s1 hq7=>?_)
 obtain⟨x,H1,I1,r1,q1⟩:=hq7
 obtain⟨c,rfl,q1⟩:=q1
 cases r1
 exact not_of (wpAny_truthy_bool ⟨.bl (!c),H1,I1,rfl,q1⟩)
end
end L2
namespace L2
open PySem PySem.Spec PyProof.Rows
def SqL (K:PySem.W.Frag)(H:Hp)(a:Addr)(xs:List V):Prop :=
 Rd H a (.lst xs) ∨
  ∃(o:Obj) (its:Array Value) (n:Nat),K.lookup a=some o∧o.cls=.type "list" ∧ o.dict=none∧o.data=.seq its n∧its.size≤sizeLine∧Vals xs its.toList
def SqT (K:PySem.W.Frag)(H:Hp)(a:Addr)(xs:List V):Prop :=
 Rd H a (.tup xs) ∨
  ∃(o:Obj) (its:Array Value) (n:Nat),K.lookup a=some o∧o.cls=.type "tuple" ∧ o.dict=none∧o.data=.seq its n∧its.size≤sizeLine∧Vals xs its.toList
def absV:Value→Option V
 | .none=>some .non
 | .bool b=>some (.bl b)
 | .int i _=>some (.int i)
 | .str x _=>some (.str x)
 | .bytes b _=>some (.byt b)
 | .float b _=>some (.flt b)
 | .ref a=>some (.ref a)
 | .type n=>some (.ty n)
 | _=>none
theorem RelV.abs {x:V}{u:Value}(r:RelV x u):absV u=some x:=by
 cases x with
 | non=>cases r;rfl
 | bl _=>cases r;rfl
 | int _=>obtain⟨t,rfl⟩:=r;rfl
 | str _=>obtain⟨t,rfl⟩:=r;rfl
 | byt _=>obtain⟨t,rfl⟩:=r;rfl
 | flt _=>obtain⟨t,rfl⟩:=r;rfl
 | ref _=>cases r;rfl
 | ty _=>cases r;rfl
theorem RelV.inj {x y:V}{u:Value}(r:RelV x u)(q:RelV y u):x=y:=Option.some.inj (r.abs.symm.trans q.abs)
theorem Vals.inj:∀{xs ys:List V}{us:List Value},Vals xs us→Vals ys us→xs=ys:=by
 intro xs ys us h k
 induction h generalizing ys with
 | nil=>cases k;rfl
 | cons r t ih=>cases k with|cons r' t'=>rw[r.inj r',ih t']
section
variable {X:Cx}{pins:List (Addr×Obj)}{σ:St}{H:Hp}{s:Shared}{a:Addr}{xs ys:List V}
theorem SqL.of {K:PySem.W.Frag}(h:H a=some (.lst xs)):SqL K H a xs:=.inl (.inl h)
theorem SqT.of {K:PySem.W.Frag}(h:H a=some (.tup xs)):SqT K H a xs:=.inl (.inl h)
theorem Inv.list (I:Inv X pins σ H s)(h:SqL X.K H a xs):∃its:List Value,Vals xs its∧PlainL s.heap a its.toArray∧xs.length≤sizeLine:=by
 rcases h with h|⟨o,its,n,hk,hc,hd,hs,hz,r⟩
 ·obtain⟨z,its,n,r,e⟩:=h.ok I.hok
  exact⟨its,r,⟨_,n,e,rfl,rfl,rfl⟩,z⟩
 ·refine⟨its.toList,r,⟨o,n,I.kIn a o hk,hc,hd,by simpa using hs⟩,?_⟩
  have e:=r.length
  simp only[Array.length_toList] at e
  omega
theorem Inv.tuple (I:Inv X pins σ H s)(h:SqT X.K H a xs):∃its:List Value,Vals xs its∧IsTup s.heap a its.toArray∧xs.length≤sizeLine:=by
 rcases h with h|⟨o,its,n,hk,hc,_,hs,hz,r⟩
 ·obtain⟨z,its,r,p⟩:=h.ok I.hok
  exact⟨its,r,p.tup,z⟩
 ·refine⟨its.toList,r,⟨o,I.kIn a o hk,hc,n,by simpa using hs⟩,?_⟩
  have e:=r.length
  simp only[Array.length_toList] at e
  omega
theorem Inv.noDict (I:Inv X pins σ H s)(h:SqT X.K H a xs):∃o,s.heap.get? a=some o∧o.cls=.type "tuple" ∧ o.dict=none:=by
 rcases h with h|⟨o,its,n,hk,hc,hd,hs,hz,r⟩
 ·obtain⟨z,its,r,o,e,c,_,d⟩:=h.ok I.hok
  exact⟨o,e,c,d⟩
 ·exact⟨o,I.kIn a o hk,hc,hd⟩
theorem Inv.list_inj (I:Inv X pins σ H s)(h:SqL X.K H a xs)(h':SqL X.K H a ys):xs=ys:=by
 obtain⟨its,r,⟨o,n,e,_,_,d⟩,_⟩:=I.list h
 obtain⟨its',r',⟨o',n',e',_,_,d'⟩,_⟩:=I.list h'
 rw[e] at e';cases e'
 rw[d] at d'
 injection d' with d1 _
 have:its=its':=by simpa using congrArg Array.toList d1
 subst this
 exact r.inj r'
theorem Inv.tuple_inj (I:Inv X pins σ H s)(h:SqT X.K H a xs)(h':SqT X.K H a ys):xs=ys:=by
 obtain⟨its,r,⟨o,e,_,n,d⟩,_⟩:=I.tuple h
 obtain⟨its',r',⟨o',e',_,n',d'⟩,_⟩:=I.tuple h'
 rw[e] at e';cases e'
 rw[d] at d'
 injection d' with d1 _
 have:its=its':=by simpa using congrArg Array.toList d1
 subst this
 exact r.inj r'
end
abbrev Cx.wish (X:Cx)(E:Value→Shared→Prop):Cx:={X with xe:=E}
abbrev Cx.nox (X:Cx):Cx:=X.wish fun _ _=>False
theorem Cx.Ok.wish {X:Cx}(ok:X.Ok)(E:Value→Shared→Prop):(X.wish E).Ok :=
 ⟨ok.mod,ok.kind,ok.glob,ok.blt,ok.above,ok.inj,ok.has,ok.cab,ok.hd,ok.frames,ok.stk,ok.exf,ok.bs,ok.bsz,ok.noex,ok.exfs,ok.funs,ok.frf⟩
theorem Cx.Ok.unwish {X:Cx}{E:Value→Shared→Prop}(ok:(X.wish E).Ok):X.Ok :=
 ⟨ok.mod,ok.kind,ok.glob,ok.blt,ok.above,ok.inj,ok.has,ok.cab,ok.hd,ok.frames,ok.stk,ok.exf,ok.bs,ok.bsz,ok.noex,ok.exfs,ok.funs,ok.frf⟩
section
variable {X:Cx}{pins:List (Addr×Obj)}{σ:St}{H:Hp}{s:Shared}{E:Value→Shared→Prop}
theorem Inv.wish (I:Inv X pins σ H s)(E:Value→Shared→Prop):Inv (X.wish E) pins σ H s:=⟨I.ok.wish E,I.os,I.bare,I.base,I.loc,I.cell,I.free,I.freeC,I.pin,I.hok,I.len⟩
theorem Inv.unwish (I:Inv (X.wish E) pins σ H s):Inv X pins σ H s:=⟨I.ok.unwish,I.os,I.bare,I.base,I.loc,I.cell,I.free,I.freeC,I.pin,I.hok,I.len⟩
theorem SP.unwish {D:Ends}{f:Flow}{s':Shared}(h:SP (X.wish E) pins D f s'):SP X pins D f s':=by
 cases f with
 | next=>obtain⟨σ',H',I,q⟩:=h;exact⟨σ',H',I.unwish,q⟩
 | brk=>obtain⟨σ',H',I,q⟩:=h;exact⟨σ',H',I.unwish,q⟩
 | cont=>obtain⟨σ',H',I,q⟩:=h;exact⟨σ',H',I.unwish,q⟩
 | ret u=>obtain⟨v,σ',H',I,r,q⟩:=h;exact⟨v,σ',H',I.unwish,r,q⟩
theorem PE.nox {e:Expr}{t:TE}(h:PE X.nox e t):PE X e t:=fun pins s σ H Q I hw =>
 wpAny_mono (h pins s σ H Q (I.wish _) hw) (fun _ _ ⟨v,H',I',r,q⟩=>⟨v,H',I'.unwish,r,q⟩) fun _ _ z=>False.elim z
theorem PT.nox {e:Expr}{t:TT}(h:PT X.nox e t):PT X e t:=fun pins s σ H Q I hw =>
 wpAny_mono (h pins s σ H Q (I.wish _) hw) (fun _ _ ⟨H',I',q⟩=>⟨H',I'.unwish,q⟩) fun _ _ z=>False.elim z
theorem PSs.nox {st:List Stmt}{t:TS}(h:PSs X.nox st t):PSs X st t:=fun pins s σ H D I hw =>
 wpAny_mono (h pins s σ H D (I.wish _) hw) (fun _ _ q=>q.unwish) fun _ _ z=>False.elim z
end
section
variable {X:Cx}{st:Stmt}{rest:List Stmt}{t u:TS}{e:Expr}{te:TE}{pos:Pos}
def tNext:TS:=fun D σ H=>D.nx σ H
def tSeq (t u:TS):TS:=fun D σ H=>t {D with nx:=u D} σ H
theorem pss_nil:PSs X [] tNext:=fun _ _ σ H _ I h=>wpAny_execs_nil ⟨σ,H,I,h⟩
theorem pss_cons (h1:PS X st t)(h2:PSs X rest u):PSs X (st::rest) (tSeq t u):=by
 intro pins s σ H D I h
 refine wpAny_execs_cons (thn (h1 pins s σ H {D with nx:=u D} I h) fun f s1 q=>?_)
 cases f with
 | next =>
  obtain⟨σ',H',I',q⟩:=q
  exact h2 pins s1 σ' H' D I' q
 | ret v=>exact q
 | brk=>exact q
 | cont=>exact q
theorem pss_one (h1:PS X st t):PSs X [st] t:=by
 intro pins s σ H D I h
 refine wpAny_execs_cons (thn (h1 pins s σ H D I h) fun f s1 q=>?_)
 cases f with
 | next=>exact wpAny_execs_nil q
 | ret v=>exact q
 | brk=>exact q
 | cont=>exact q
theorem Inv.quiet {pins:List (Addr×Obj)}{σ:St}{H:Hp}{s:Shared}(I:Inv X pins σ H s):interactive X.env=false:=by simp[interactive,I.ok.kind]
def tDrop (te:TE):TS:=fun D σ H=>te σ H fun _ H1=>D.nx σ H1
theorem ps_expr (he:PE X e te)(hs:swapsWith e none pos.line X.env=pure false:=by rfl):PS X (.Expr e pos) (tDrop te):=by
 intro pins s σ H D I h
 exact wpAny_Expr_any (thn (he pins s σ H _ I h) fun v s1 ⟨x,H1,I1,r1,q1⟩=>⟨σ,H1,I1,q1⟩) I.quiet hs
def tRet (te:TE):TS:=fun D σ H=>te σ H D.rt
theorem ps_ret (he:PE X e te):PS X (.Return (some e) pos) (tRet te):=by
 intro pins s σ H D I h
 exact wpAny_Return_some (thn (he pins s σ H _ I h) fun v s1 ⟨x,H1,I1,r1,q1⟩=>⟨x,σ,H1,I1,r1,q1⟩)
def tIfS (c:TT)(t u:TS):TS:=fun D σ H=>c σ H fun b H1=>if b=true then t D σ H1 else u D σ H1
theorem ps_if {c:Expr}{a b:List Stmt}{tc:TT}(hc:PT X c tc)(ha:PSs X a t)(hb:PSs X b u):PS X (.If c a b pos) (tIfS tc t u):=by
 intro pins s σ H D I h
 refine wpAny_If (thn (hc pins s σ H _ I h) fun d s1 hq8=>?_)
 obtain⟨H1,I1,q1⟩:=hq8
 cases d with
 | true=>exact ha pins s1 σ H1 D I1 q1
 | false=>exact hb pins s1 σ H1 D I1 q1
end
abbrev TG:=V→St→Hp→(St→Hp→Prop)→Prop
abbrev TGs:=List V→St→Hp→(St→Hp→Prop)→Prop
def PG (X:Cx)(target:Expr)(t:TG):Prop :=
 ∀ (pins:List (Addr×Obj)) (s:Shared) (σ:St) (H:Hp) (v:V) (u:Value) (Q:St→Hp→Prop),Inv X pins σ H s→RelV v u→t v σ H Q →
  wpAny (model X.prog X.w) X.A (assign target X.env u) (fun _ s'=>∃σ' H',Inv X pins σ' H' s'∧Q σ' H') X.xe s
def PGs (X:Cx)(ts:List Expr)(t:TGs):Prop :=
 ∀ (pins:List (Addr×Obj)) (s:Shared) (σ:St) (H:Hp) (vs:List V) (us:List Value) (Q:St→Hp→Prop),Inv X pins σ H s→Vals vs us→t vs σ H Q →
  wpAny (model X.prog X.w) X.A (assignInOrder ((assignEach ts X.env).map (·.2)) us) (fun _ s'=>∃σ' H',Inv X pins σ' H' s'∧Q σ' H') X.xe s
section
variable {X:Cx}{pos:Pos}
def gName (i:Nat):TG:=fun v σ H Q=>Q (σ.set i (some v)) H
theorem pg_name {i:Nat}{x:Str}(hN:X.N.Nodup)(hi:X.N[i]? = some x)(hx:Loc X.env.scope x)(hf:X.fn x=true∨X.env.scope.names.lookup x=some .local:=by first|exact .inl rfl|exact .inr rfl|assumption):PG X (.Name x pos) (gName i):=by
 intro pins s σ H v u Q I r h
 exact wpAny_assign_Name (store_ok I hN hi hx r (fun s' I'=>⟨_,H,I',h⟩) hf)
def gNil:TGs:=fun vs σ H Q=>vs=[]∧Q σ H
def gCons (t:TG)(u:TGs):TGs:=fun vs σ H Q=>∃v r,vs=v::r∧t v σ H fun σ' H'=>u r σ' H' Q
theorem pgs_nil:PGs X [] gNil:=by
 intro pins s σ H vs us Q I r h
 obtain⟨e,h⟩:=h
 subst e
 cases r
 exact assignInOrder_nil ⟨σ,H,I,h⟩
theorem pgs_cons {e:Expr}{es:List Expr}{t:TG}{u:TGs}(h1:PG X e t)(h2:PGs X es u)
  (hs:(assignEach (e::es) X.env).map (·.2)=assign e X.env::(assignEach es X.env).map (·.2):=by rfl):PGs X (e::es) (gCons t u):=by
 intro pins s σ H vs us Q I r h
 obtain⟨v,vr,e1,h⟩:=h
 subst e1
 cases r with
 | cons r rr =>
  rw[hs]
  refine assignInOrder_cons (thn (h1 pins s σ H _ _ _ I r h) fun _ s1 hq9=>?_)
  obtain⟨σ1,H1,I1,q1⟩:=hq9
  exact h2 pins s1 σ1 H1 _ _ Q I1 rr q1
def gTup (K:PySem.W.Frag)(n:Nat)(t:TGs):TG:=fun v σ H Q=>∃a xs,v=.ref a∧SqT K H a xs∧xs.length=n∧t xs σ H Q
theorem pg_tup {es:List Expr}{k:Nat}{t:TGs}{n:Nat}(hc:X.calm=true)(h:PGs X es t)
  (hn:(assignEach es X.env).length=n:=by rfl) (hst:(assignEach es X.env).findIdx? (·.1)=none:=by rfl):PG X (.Tuple es k pos) (gTup X.K n t):=by
 intro pins s σ H v u Q I r hw
 obtain⟨a,xs,e1,hq,hl,hw⟩:=hw
 subst e1
 cases r
 obtain⟨its,rv,ht,hz⟩:=I.tuple hq
 refine assign_Tuple_tuple (I.ok.hd hc) ht (by simp[hn,← hl,rv.length]) hst fun h' hx=>?_
 have I1:Inv X pins σ H {s with heap:=h'}:=I.kept (t':=s.toks) fun b o e=>hx b o (Nat.ne_of_lt (Heap.lt_size e)) e
 exact h pins _ σ H xs _ Q I1 (by simpa using rv) hw
def tAsg (te:TE)(g:TG):TS:=fun D σ H=>te σ H fun x H1=>g x σ H1 D.nx
theorem ps_set {i:Nat}{x:Str}{e:Expr}{te:TE}{pos':Pos}(hN:X.N.Nodup)(hi:X.N[i]? = some x)(hx:Loc X.env.scope x)(he:PE X e te)(hs:swapsWith e (some (.Name x pos')) pos.line X.env=pure false:=by rfl)(hf:X.fn x=true∨X.env.scope.names.lookup x=some .local:=by first|exact .inl rfl|exact .inr rfl|assumption) :
  PS X (.Assign [.Name x pos'] e pos) (tAsg te (gName i)):=by
 intro pins s σ H D I h
 refine wpAny_Assign_Name (thn (he pins s σ H _ I h) fun v s1 ⟨y,H1,I1,r1,q1⟩=>?_) hs
 exact store_ok I1 hN hi hx r1 (fun s2 I2=>⟨_,H1,I2,q1⟩) hf
end
section
variable {X:Cx}{pos:Pos}
def tWhile (c:TT)(tb:TS):TS:=fun D σ H=>∃W:Nat→St→Hp→Prop,(∃m,W m σ H)∧∀m σ H,W m σ H →
 c σ H fun b H1=>if b=true then ∃N:St→Hp→Prop,(∀σ' H',N σ' H'→∃m',m'<m∧W m' σ' H')∧tb {D with nx:=N,ct:=N,bk:=D.nx} σ H1 else D.nx σ H1
theorem ps_while {c:Expr}{body:List Stmt}{tc:TT}{tb:TS}(hp:PassesOwn (model X.prog X.w) X.A X.env X.xe)(hc:PT X c tc)(hb:PSs X body tb):PS X (.While c body [] pos) (tWhile tc tb):=by
 intro pins s σ H D I h
 obtain⟨W,⟨m0,w0⟩,turn⟩:=h
 refine wpAny_While (codeAny_whileLoop (fun n s'=>∃σ' H',Inv X pins σ' H' s'∧W n σ' H') ?_ m0 ⟨σ,H,I,w0⟩)
 rintro n s1 ⟨σ1,H1,I1,w1⟩
 refine wpAny_passesOwn hp (thn (hc pins s1 σ1 H1 _ I1 (turn n σ1 H1 w1)) fun b s2 hq10=>?_)
 obtain⟨H2,I2,q2⟩:=hq10
 cases b with
 | true =>
  obtain⟨N,hN,q2⟩:=q2
  rw[if_pos rfl]
  refine wpAny_passesOwn hp (thn (hb pins s2 σ1 H2 _ I2 q2) fun f s3 q3=>?_)
  cases f with
  | next =>
   obtain⟨σ3,H3,I3,n3⟩:=q3
   obtain⟨m',hm,w3⟩:=hN σ3 H3 n3
   exact⟨m',hm,σ3,H3,I3,w3⟩
  | cont =>
   obtain⟨σ3,H3,I3,n3⟩:=q3
   obtain⟨m',hm,w3⟩:=hN σ3 H3 n3
   exact⟨m',hm,σ3,H3,I3,w3⟩
  | brk=>exact q3
  | ret v=>exact q3
 | false =>
  rw[if_neg Bool.false_ne_true]
  exact wpAny_execs_nil ⟨σ1,H2,I2,q2⟩
end
structure It where
 go:Nat→Hp→Prop
 yld:Nat→Hp→V→Hp→Prop
 stop:Nat→Hp→Prop
def FpOk (X:Cx)(pins:List (Addr×Obj))(H:Hp)(b:Addr):Prop :=
 H b=none∧b≠X.env.locals∧b∉X.fs∧(b∈X.ex∨X.s₀.heap.objs.size≤b)∧(∀x c,X.env.cells.lookup x=some c→c≠b)∧∀p∈X.pn++pins,p.1≠b
theorem Inv.fpOk {X:Cx}{pins:List (Addr×Obj)}{σ:St}{H H':Hp}{s:Shared}{b:Addr}(I:Inv X pins σ H s)(hb:s.heap.objs.size≤b)(hn:H' b=none):FpOk X pins H' b:=by
 refine⟨hn,Nat.ne_of_gt (Nat.lt_of_lt_of_le I.lt hb),I.nofs hb,.inr (Nat.le_trans I.sz hb),fun x c e z=>?_,fun p hp z=>?_⟩
 ·obtain⟨v,q⟩:=I.cell x c e
  exact absurd (Nat.lt_of_lt_of_le q.lt (by rw[z];exact hb)) (Nat.lt_irrefl _)
 ·exact absurd (Nat.lt_of_lt_of_le (Heap.lt_size (I.pin p hp).1) (by rw[z];exact hb)) (Nat.lt_irrefl _)
structure Turn (P:Program)(w:World)(K:PySem.W.Frag)(tg:Expr)(J:It)(fp:List Addr)(it:Addr)(tn:Nat→Heap→Prop):Prop where
 mem:it∈fp
 obj:∀i h,tn i h→∀b∈fp,∃o,h.get? b=some o∧∀v,o.data≠.cell v
 keep:∀i h h',tn i h→(∀b∈fp,∀o,h.get? b=some o→h'.get? b=some o)→tn i h'
 item:∀(X:Cx),X.prog=P→X.w=w→X.K=K→X.calm=true→∀(i:Nat) (pins:List (Addr×Obj)) (s:Shared) (σ:St) (H:Hp) (E:Value→Shared→Prop),Inv X pins σ H s→(∀b∈fp,FpOk X pins H b)→tn i s.heap→J.go i H →
  wpAny (model P w) X.A (pyNext (.ref it)) (fun r s1=>∃u,r=some u ∧
   wpAny (model P w) X.A (letOwnedTupleGo tg (.ref it) u) (fun _ s2=>∃x H',Inv X pins σ H' s2∧RelV x u∧J.yld i H x H'∧tn (i+1) s2.heap∧∀b∈fp,H' b=none) E s1) E s
 done:∀(X:Cx),X.prog=P→X.w=w→X.K=K→X.calm=true→∀(i:Nat) (pins:List (Addr×Obj)) (s:Shared) (σ:St) (H:Hp) (E:Value→Shared→Prop),Inv X pins σ H s→(∀b∈fp,FpOk X pins H b)→tn i s.heap→J.stop i H →
  wpAny (model P w) X.A (pyNext (.ref it)) (fun r s1=>r=none∧Inv X pins σ H s1) E s
 self:∀(A:Around) (i:Nat) (s:Shared) (Q:Value→Shared→Prop) (E:Value→Shared→Prop),tn i s.heap→Q (.ref it) s→wpAny (model P w) A (pyIter (.ref it)) Q E s
abbrev TI:=St→Hp→(It→Hp→Prop)→Prop
inductive PIE (X:Cx)(pins:List (Addr×Obj))(σ:St)(tg:Expr)(R:It→Hp→Prop)(itv:Value)(s2:Shared):Prop
 | mk (it:Addr) (fp:List Addr) (tn:Nat→Heap→Prop) (J:It) (H':Hp) (e:itv=.ref it) (I:Inv X pins σ H' s2) (T:Turn X.prog X.w X.K tg J fp it tn) (z:tn 0 s2.heap) (f:(∀b∈fp,FpOk X pins H' b)) (q:R J H')
def PI (X:Cx)(tg iter:Expr)(wi:TI):Prop :=
 ∀ (pins:List (Addr×Obj)) (s:Shared) (σ:St) (H:Hp) (R:It→Hp→Prop),Inv X pins σ H s→wi σ H R →
  wpAny (model X.prog X.w) X.A (eval iter X.env) (fun v s1=>wpAny (model X.prog X.w) X.A (pyIter v) (PIE X pins σ tg R) X.xe s1) X.xe s
theorem go_of {M:Model}{A:Around}{E:Value→Shared→Prop}{s:Shared}{tg:Expr}{it:Addr}{u:Value}{o:Obj}{n:String}{vs:Array Value}{Q:Unit→Shared→Prop}(ho:s.heap.get? it=some o)(hc:o.cls=.type n)(hd:o.data=.fields vs)
  (hn:["enumerate", "zip", "dict_itemiterator", "dict_reverseitemiterator", "odict_iterator", "itertools.zip_longest", "itertools.pairwise"].contains n=false) (hQ:Q () s):wpAny M A (letOwnedTupleGo tg (.ref it) u) Q E s:=by
 unfold letOwnedTupleGo
 cases tg <;>first
  | exact wpAny_pure hQ
  | (cases u <;>first
    | exact wpAny_pure hQ
    | (refine wpAny_bind (wpAny_load ho ?_)
       rw[hc,hd]
       show wpAny M A (if (["enumerate", "zip", "dict_itemiterator", "dict_reverseitemiterator", "odict_iterator", "itertools.zip_longest", "itertools.pairwise"].contains n&&vs[0]? == some (rawInt _))=true then _ else _) Q E s
       rw[if_neg (by intro h;rw[hn,Bool.false_and] at h;cases h)]
       exact wpAny_pure hQ))
def Itl (K:PySem.W.Frag)(a:Addr):It :=
 ⟨fun i H=>∃xs x,SqL K H a xs∧xs[i]? = some x,fun i H x H'=>H'=H∧∀xs,SqL K H a xs→xs[i]? = some x,fun i H=>∃xs,SqL K H a xs∧xs.length≤i⟩
def Itt (K:PySem.W.Frag)(a:Addr):It :=
 ⟨fun i H=>∃xs x,SqT K H a xs∧xs[i]? = some x,fun i H x H'=>H'=H∧∀xs,SqT K H a xs→xs[i]? = some x,fun i H=>∃xs,SqT K H a xs∧xs.length≤i⟩
def Itr (lo:Int)(n:Nat):It:=⟨fun i _=>i<n,fun i H x H'=>H'=H∧x=.int (lo+i),fun i _=>n≤i⟩
theorem turn_list {P:Program}{w:World}{K:PySem.W.Frag}{tg:Expr}(a it:Addr):Turn P w K tg (Itl K a) [it] it (fun i h=>h.IsListIter it a i) where
 mem:=by simp
 obj:=fun i h st b hb=>by
  have e:b=it:=by simpa using hb
  subst e
  obtain⟨o,e,c,d⟩:=st
  exact⟨o,e,fun v z=>by rw[d] at z;cases z⟩
 keep:=fun i h h' st k=>st.at fun o e=>k it (by simp) o e
 item:=by
  intro X hP hw hK hc i pins s σ H E I hf st hg
  subst hP hw hK
  obtain⟨xs,x,hq,hx⟩:=hg
  obtain⟨its,rv,p,hz⟩:=I.list hq
  obtain⟨u,hu,ru⟩:=rv.get hx
  obtain⟨f0,f1,f2,f3,f4,f5⟩:=hf it (by simp)
  refine wpAny_pyNext_list_item st p.isList (x:=u) (by simpa using hu) fun h' st' sb=>?_
  have I1:Inv X pins σ H {s with heap:=h'}:=I.turned (t':=s.toks) (fun b o hb e=>(sb.2 b hb).trans e) f0 f1 f3 f4 f5
  obtain⟨o,e,c,d⟩:=id st'
  exact⟨u,rfl,go_of (s:={s with heap:=h'}) e c d (by decide) ⟨x,H,I1,ru,⟨rfl,fun ys hy=>by rw[I.list_inj hy hq];exact hx⟩,st',fun b hb=>(hf b hb).1⟩⟩
 done:=by
  intro X hP hw hK hc i pins s σ H E I hf st hg
  subst hP hw hK
  obtain⟨xs,hq,hx⟩:=hg
  obtain⟨its,rv,p,hz⟩:=I.list hq
  obtain⟨f0,f1,f2,f3,f4,f5⟩:=hf it (by simp)
  have hl:=rv.length
  exact wpAny_pyNext_list_end (I.ok.hd hc) st p.isList (by simp;omega) fun h' eb=>⟨rfl,I.turned (t':=s.toks) (fun b o hb e=>eb b o hb e) f0 f1 f3 f4 f5⟩
 self:=fun _ _ _ _ _ st h=>wpAny_pyIter_listiter st h
theorem turn_tuple {P:Program}{w:World}{K:PySem.W.Frag}{tg:Expr}(a it:Addr):Turn P w K tg (Itt K a) [it] it (fun i h=>h.IsTupleIter it a i) where
 mem:=by simp
 obj:=fun i h st b hb=>by
  have e:b=it:=by simpa using hb
  subst e
  obtain⟨o,e,c,d⟩:=st
  exact⟨o,e,fun v z=>by rw[d] at z;cases z⟩
 keep:=fun i h h' st k=>st.at fun o e=>k it (by simp) o e
 item:=by
  intro X hP hw hK hc i pins s σ H E I hf st hg
  subst hP hw hK
  obtain⟨xs,x,hq,hx⟩:=hg
  obtain⟨its,rv,p,hz⟩:=I.tuple hq
  obtain⟨u,hu,ru⟩:=rv.get hx
  obtain⟨f0,f1,f2,f3,f4,f5⟩:=hf it (by simp)
  refine wpAny_pyNext_tuple_item st (show s.heap.IsTuple a its.toArray from p) (x:=u) (by simpa using hu) fun h' st' sb=>?_
  have I1:Inv X pins σ H {s with heap:=h'}:=I.turned (t':=s.toks) (fun b o hb e=>(sb.2 b hb).trans e) f0 f1 f3 f4 f5
  obtain⟨o,e,c,d⟩:=id st'
  exact⟨u,rfl,go_of (s:={s with heap:=h'}) e c d (by decide) ⟨x,H,I1,ru,⟨rfl,fun ys hy=>by rw[I.tuple_inj hy hq];exact hx⟩,st',fun b hb=>(hf b hb).1⟩⟩
 done:=by
  intro X hP hw hK hc i pins s σ H E I hf st hg
  subst hP hw hK
  obtain⟨xs,hq,hx⟩:=hg
  obtain⟨its,rv,p,hz⟩:=I.tuple hq
  obtain⟨f0,f1,f2,f3,f4,f5⟩:=hf it (by simp)
  have hl:=rv.length
  exact wpAny_pyNext_tuple_end (I.ok.hd hc) st (show s.heap.IsTuple a its.toArray from p) (by simp;omega) fun h' eb=>⟨rfl,I.turned (t':=s.toks) (fun b o hb e=>eb b o hb e) f0 f1 f3 f4 f5⟩
 self:=fun _ _ _ _ _ st h=>wpAny_pyIter_tupleiter st h
theorem turn_range {P:Program}{w:World}{K:PySem.W.Frag}{tg:Expr}(it:Addr)(lo:Int)(n:Nat):Turn P w K tg (Itr lo n) [it] it (fun i h=>IsRangeIter h it (lo+(i:Nat)*1) ((n:Int) - (i:Nat)) 1) where
 mem:=by simp
 obj:=fun i h st b hb=>by
  have e:b=it:=by simpa using hb
  subst e
  exact ⟨_,st,fun v z=>by
   have z':Data.fields _=Data.cell v:=z
   cases z'⟩
 keep:=fun i h h' st k=>k it (by simp) _ st
 item:=by
  intro X hP hw hK hc i pins s σ H E I hf st hg
  subst hP hw hK
  obtain⟨f0,f1,f2,f3,f4,f5⟩:=hf it (by simp)
  have W:=Walks.range (prog:=X.prog) (w:=X.w) (I.ok.hd hc) it lo 1 n
  refine W.item i s _ _ hg st fun v h' tk hv st' kk=>?_
  obtain⟨t,rfl⟩:=hv
  have I1:Inv X pins σ H {s with heap:=h',toks:=tk}:=I.turned (fun b o hb e=>kk b o (by simpa using hb) e) f0 f1 f3 f4 f5
  refine⟨_,rfl,go_of (s:={s with heap:=h',toks:=tk}) (n := "range_iterator") st' rfl rfl (by decide) ⟨.int (lo+i),H,I1,⟨t,?_⟩,⟨rfl,rfl⟩,st',fun b hb=>(hf b hb).1⟩⟩
  rw[Int.mul_one]
 done:=by
  intro X hP hw hK hc i pins s σ H E I hf st hg
  subst hP hw hK
  obtain⟨f0,f1,f2,f3,f4,f5⟩:=hf it (by simp)
  exact wpAny_pyNext_range_end (I.ok.hd hc) st (by have:n≤i:=hg;omega) fun h' eb=>⟨rfl,I.turned (t':=s.toks) (fun b o hb e=>eb b o hb e) f0 f1 f3 f4 f5⟩
 self:=fun _ _ _ _ _ st h=>wpAny_pyIter_rangeiter st h
end L2
namespace L2
open PySem PySem.Spec PyProof.Rows
section
variable {X:Cx}{tg:Expr}
def iList (K:PySem.W.Frag)(tl:TE):TI:=fun σ H R=>tl σ H fun x H1=>∃a,x=.ref a∧(∃xs,SqL K H1 a xs)∧R (Itl K a) H1
def iTup (K:PySem.W.Frag)(tl:TE):TI:=fun σ H R=>tl σ H fun x H1=>∃a,x=.ref a∧(∃xs,SqT K H1 a xs)∧R (Itt K a) H1
theorem pi_list {l:Expr}{tl:TE}(hl:PE X l tl):PI X tg l (iList X.K tl):=by
 intro pins s σ H R I h
 refine thn (hl pins s σ H _ I h) fun v s1 hq11=>?_
 obtain⟨x,H1,I1,r1,q1⟩:=hq11
 obtain⟨a,e,⟨xs,hq⟩,q⟩:=q1
 subst e
 cases r1
 obtain⟨its,rv,p,hz⟩:=I1.list hq
 refine wpAny_pyIter_list p.isList ?_
 refine⟨s1.heap.objs.size,[s1.heap.objs.size],_,_,H1,rfl,I1.kept (t':=s1.toks) fun b o e=>Heap.get?_push_of_some _ e,turn_list a _,⟨_,Heap.get?_push_size _ rfl,rfl,rfl⟩,fun b hb=>?_,q⟩
 have e:b=s1.heap.objs.size:=by simpa using hb
 subst e
 exact I1.fpOk (Nat.le_refl _) (I1.hok.fresh (Nat.le_refl _))
theorem pi_tup {l:Expr}{tl:TE}(hl:PE X l tl):PI X tg l (iTup X.K tl):=by
 intro pins s σ H R I h
 refine thn (hl pins s σ H _ I h) fun v s1 hq12=>?_
 obtain⟨x,H1,I1,r1,q1⟩:=hq12
 obtain⟨a,e,⟨xs,hq⟩,q⟩:=q1
 subst e
 cases r1
 obtain⟨its,rv,p,hz⟩:=I1.tuple hq
 refine wpAny_pyIter_tuple (show s1.heap.IsTuple a its.toArray from p) ?_
 refine⟨s1.heap.objs.size,[s1.heap.objs.size],_,_,H1,rfl,I1.kept (t':=s1.toks) fun b o e=>Heap.get?_push_of_some _ e,turn_tuple a _,⟨_,Heap.get?_push_size _ rfl,rfl,rfl⟩,fun b hb=>?_,q⟩
 have e:b=s1.heap.objs.size:=by simpa using hb
 subst e
 exact I1.fpOk (Nat.le_refl _) (I1.hok.fresh (Nat.le_refl _))
theorem range_it {pins:List (Addr×Obj)}{σ:St}{H:Hp}{s:Shared}{R:It→Hp→Prop}{E:Value→Shared→Prop}{lo hi:Int}{t u v:Tok}{tk:Nat}(I:Inv X pins σ H s)(h1:-(2 ^ 62)≤lo)(h2:lo<2 ^ 62)(h3:-(2 ^ 62)≤hi)(h4:hi<2 ^ 62)
  (q:R (Itr lo (hi - lo).toNat) H):wpAny (model X.prog X.w) X.A (pyIter (.ref s.heap.objs.size)) (PIE X pins σ tg R) E {s with heap:=s.heap.push {cls:=.type "range", data:=.fields #[.int lo t,.int hi u,.int 1 v]},toks:=tk}:=by
 refine wpAny_pyIter_range (IsRange.new ..) (small_one h1 h2 h3 h4) ?_
 have I1:Inv X pins σ H {s with heap:=s.heap.push {cls:=.type "range", data:=.fields #[.int lo t,.int hi u,.int 1 v]},toks:=tk}:=I.kept fun b o e=>Heap.get?_push_of_some _ e
 refine ⟨(s.heap.push {cls:=.type "range", data:=.fields #[.int lo t,.int hi u,.int 1 v]}).objs.size,[(s.heap.push {cls:=.type "range", data:=.fields #[.int lo t,.int hi u,.int 1 v]}).objs.size],_,_,H,rfl,
  I1.kept (t':=tk) fun b o e=>Heap.get?_push_of_some _ e,turn_range _ lo (hi - lo).toNat,?_,fun b hb=>?_,q⟩
 ·have e1:lo+((0:Nat):Int)*1=lo:=by simp
  have e2:(((hi - lo).toNat:Nat):Int) - ((0:Nat):Int)=Builtin.Range.rangeSize lo hi 1:=by rw[rangeSize_one];split <;>omega
  show IsRangeIter _ _ (lo+((0:Nat):Int)*1) ((((hi - lo).toNat:Nat):Int) - ((0:Nat):Int)) 1
  rw[e1,e2]
  exact Heap.get?_push_size _ rfl
 ·have e:b=(s.heap.push {cls:=.type "range", data:=.fields #[.int lo t,.int hi u,.int 1 v]}).objs.size:=by simpa using hb
  subst e
  exact I1.fpOk (Nat.le_refl _) (I1.hok.fresh (Nat.le_refl _))
def iRng1 (ta:TA):TI:=fun σ H R=>ta σ H fun vs H1=>∃j:Int,vs=[.int j]∧-(2 ^ 62)≤j∧j<2 ^ 62∧R (Itr 0 j.toNat) H1
def iRng2 (ta:TA):TI:=fun σ H R=>ta σ H fun vs H1=>∃i j:Int,vs=[.int i,.int j]∧(-(2 ^ 62)≤i∧i<2 ^ 62∧-(2 ^ 62)≤j∧j<2 ^ 62)∧R (Itr i (j - i).toNat) H1
theorem pi_range1 {a:Expr}{ta:TA}{p pos:Pos}(hg:Gl X "range")(hm:X.mg "range" = none)(ha:PA X [a] ta)(hs:starEach [a] X.env=[(false,eval a X.env)]:=by rfl):PI X tg (.Call (.Name "range" p) [a] [] pos) (iRng1 ta):=by
 intro pins s σ H R I h
 refine Call_ (ld_blt I hg hm boot_range (PyProof.Rows.callWith_type1 (thn (ha pos pins s σ H _ I h) fun us s1 ⟨vs,H1,I1,r1,q1⟩=>?_) hs rfl))
 obtain⟨j,e,q1,q2,q⟩:=q1
 subst e
 cases r1 with
 | cons r rr =>
  cases rr
  obtain⟨t,rfl⟩:=r
  exact call_range_1 (range_it I1 (by omega) (by omega) q1 q2 (by simpa using q))
theorem pi_range2 {a b:Expr}{ta:TA}{p pos:Pos}(hg:Gl X "range")(hm:X.mg "range" = none)(ha:PA X [a,b] ta)(hs:starEach [a,b] X.env=[(false,eval a X.env),(false,eval b X.env)]:=by rfl)(hs2:starEach [b] X.env=[(false,eval b X.env)]:=by rfl) :
  PI X tg (.Call (.Name "range" p) [a,b] [] pos) (iRng2 ta):=by
 intro pins s σ H R I h
 refine Call_ (ld_blt I hg hm boot_range (PyProof.Rows.callWith_type1 (thn (ha pos pins s σ H _ I h) fun us s1 hq13=>?_) (by rw[hs,hs2]) (by rw[hs2];rfl)))
 obtain⟨vs,H1,I1,r1,q1⟩:=hq13
 obtain⟨i,j,e,⟨q1,q2,q3,q4⟩,q⟩:=q1
 subst e
 cases r1 with
 | cons r rr =>
  cases rr with
  | cons r' rr =>
   cases rr
   obtain⟨t,rfl⟩:=r
   obtain⟨t',rfl⟩:=r'
   exact call_range_2 (range_it I1 q1 q2 q3 q4 q)
def tFor (wi:TI)(g:TG)(tb:TS):TS:=fun D σ H=>wi σ H fun J H1=>∃W:Nat→Nat→St→Hp→Prop,(∃m,W 0 m σ H1)∧∀i m σ H,W i m σ H →
 (J.stop i H∧D.nx σ H)∨(J.go i H∧∃N:St→Hp→Prop,(∀σ' H',N σ' H'→∃m',m'<m∧W (i+1) m' σ' H')∧∀x H',J.yld i H x H'→g x σ H' fun σ2 H2=>tb {D with nx:=N,ct:=N,bk:=D.nx} σ2 H2)
def pinsAt (fp:List Addr)(h:Heap):List (Addr×Obj):=fp.filterMap fun b=>(h.get? b).map fun o=>(b,o)
theorem mem_pinsAt {fp:List Addr}{h:Heap}{b:Addr}{o:Obj}(hb:b∈fp)(e:h.get? b=some o):(b,o)∈pinsAt fp h:=List.mem_filterMap.mpr ⟨b,hb,by rw[e];rfl⟩
theorem of_pinsAt {fp:List Addr}{h:Heap}{p:Addr×Obj}(hp:p∈pinsAt fp h):p.1∈fp∧h.get? p.1=some p.2:=by
 obtain⟨b,hb,e⟩:=List.mem_filterMap.mp hp
 cases q:h.get? b with
 | none=>rw[q] at e;cases e
 | some o =>
  rw[q] at e
  have e':(b,o)=p:=Option.some.inj e
  subst e'
  exact⟨hb,q⟩
theorem Inv.pinned {pins:List (Addr×Obj)}{σ:St}{H:Hp}{s:Shared}{fp:List Addr}(I:Inv X pins σ H s)(hf:∀b∈fp,FpOk X pins H b)(ho:∀b∈fp,∃o,s.heap.get? b=some o∧∀v,o.data≠.cell v):Inv X (pins++pinsAt fp s.heap) σ H s :=
 I.pins_of fun p hp=>(List.mem_append.mp hp).elim (fun z=>I.pin p (List.mem_append_right _ z)) fun z=>by
  obtain⟨hb,e⟩:=of_pinsAt z
  obtain⟨f0,f1,f2,_⟩:=hf p.1 hb
  obtain⟨o,e',d⟩:=ho p.1 hb
  rw[e] at e';cases e'
  exact⟨e,f0,f1,f2,d⟩
theorem Inv.unpinned {pins pl:List (Addr×Obj)}{σ:St}{H:Hp}{s:Shared}(I:Inv X (pins++pl) σ H s):Inv X pins σ H s:=I.pins_of fun p hp=>I.pin p (List.mem_append_right _ (List.mem_append_left _ hp))
theorem ps_for {iter:Expr}{body:List Stmt}{wi:TI}{g:TG}{tb:TS}{pos:Pos}(hp:PassesOwn (model X.prog X.w) X.A X.env X.xe)(hc:X.calm=true)(hi:PI X tg iter wi)(hg:PG X tg g)(hb:PSs X body tb)
  (hs:∀x,foldedSetIterable iter X.env x=pure x:=by intro _;rfl):PS X (.For tg iter body [] pos) (tFor wi g tb):=by
 intro pins s σ H D I h
 refine wpAny_For (thn (hi pins s σ H _ I h) fun v s1 h1=>thn h1 fun itv s2 h2=>?_) hs
 obtain⟨it,fp,tn,J,H2,e,I2,T,st2,f2,W,⟨m0,w0⟩,turn⟩:=h2
 subst e
 have stat:∀{H':Hp},(∀b∈fp,H' b=none)→∀b∈fp,FpOk X pins H' b:=fun hn b hb=>⟨hn b hb,(f2 b hb).2⟩
 refine codeAny_forLoop_any (fun n s'=>∃i σ' H',Inv X pins σ' H' s'∧tn i s'.heap∧(∀b∈fp,H' b=none)∧W i n σ' H') ?_ m0 ⟨0,σ,H2,I2,st2,fun b hb=>(f2 b hb).1,w0⟩
 rintro n s3 ⟨i,σ3,H3,I3,st3,fr3,w3⟩
 rcases turn i n σ3 H3 w3 with⟨stop,qn⟩|⟨go,N,hN,step⟩
 ·refine wpAny_passesOwn hp (thn (T.done X rfl rfl rfl hc i pins s3 σ3 H3 X.xe I3 (stat fr3) st3 stop) fun r s4 hq14=>?_)
  obtain⟨hr,I4⟩:=hq14
  subst hr
  exact wpAny_execs_nil ⟨σ3,H3,I4,qn⟩
 ·refine wpAny_passesOwn hp (thn (T.item X rfl rfl rfl hc i pins s3 σ3 H3 X.xe I3 (stat fr3) st3 go) fun r s4 hq15=>?_)
  obtain⟨u,hr,h4⟩:=hq15
  subst hr
  refine wpAny_passesOwn hp (thn h4 fun _ s5 hq16=>?_)
  obtain⟨x,H5,I5,r5,y5,st5,fr5⟩:=hq16
  have I5':=I5.pinned (stat fr5) (T.obj _ _ st5)
  refine wpAny_passesOwn hp (thn (hg _ s5 σ3 H5 x u _ I5' r5 (step x H5 y5)) fun _ s6 hq17=>?_)
  obtain⟨σ6,H6,I6,q6⟩:=hq17
  refine wpAny_passesOwn hp (thn (hb _ s6 σ6 H6 _ I6 q6) fun f s7 q7=>?_)
  have again:∀{σ7:St}{H7:Hp},Inv X (pins++pinsAt fp s5.heap) σ7 H7 s7→N σ7 H7→∃m,m<n∧∃i σ' H',Inv X pins σ' H' s7∧tn i s7.heap∧(∀b∈fp,H' b=none)∧W i m σ' H':=fun {σ7 H7} I7 n7=>by
   obtain⟨m',hm,w7⟩:=hN σ7 H7 n7
   refine⟨m',hm,i+1,σ7,H7,I7.unpinned,T.keep _ _ _ st5 fun b hb o e=>(I7.pin (b,o) (List.mem_append_right _ (List.mem_append_right _ (mem_pinsAt hb e)))).1,fun b hb=>?_,w7⟩
   obtain⟨o,e,d⟩:=T.obj _ _ st5 b hb
   exact(I7.pin (b,o) (List.mem_append_right _ (List.mem_append_right _ (mem_pinsAt hb e)))).2.1
  cases f with
  | next=>obtain⟨σ7,H7,I7,n7⟩:=q7;exact again I7 n7
  | cont=>obtain⟨σ7,H7,I7,n7⟩:=q7;exact again I7 n7
  | brk=>obtain⟨σ7,H7,I7,q7⟩:=q7;exact⟨σ7,H7,I7.unpinned,q7⟩
  | ret v=>obtain⟨x7,σ7,H7,I7,r7,q7⟩:=q7;exact⟨x7,σ7,H7,I7.unpinned,r7,q7⟩
end
end L2
namespace L2
open PySem PySem.Spec PyProof.Rows
abbrev R2:=V→V→Hp→VK→Prop
def OpR (X:Cx)(f:Value→Value→Sem Value)(r:R2):Prop :=
 ∀ (pins:List (Addr×Obj)) (s:Shared) (σ:St) (H:Hp) (x y:V) (v u:Value) (Q:VK),Inv X pins σ H s→RelV x v→RelV y u→r x y H Q →
  wpAny (model X.prog X.w) X.A (f v u) (EP X pins σ Q) X.xe s
def UnR (X:Cx)(f:Value→Sem Value)(r:V→Hp→VK→Prop):Prop :=
 ∀ (pins:List (Addr×Obj)) (s:Shared) (σ:St) (H:Hp) (x:V) (v:Value) (Q:VK),Inv X pins σ H s→RelV x v→r x H Q →
  wpAny (model X.prog X.w) X.A (f v) (EP X pins σ Q) X.xe s
def CallR (X:Cx)(f:Value)(r:List V→Hp→VK→Prop):Prop :=
 ∀ (pins:List (Addr×Obj)) (s:Shared) (σ:St) (H:Hp) (xs:List V) (us:List Value) (Q:VK),Inv X pins σ H s→Vals xs us→r xs H Q →
  wpAny (model X.prog X.w) X.A (call f us) (EP X pins σ Q) X.xe s
def tOp (r:R2)(ta tb:TE):TE:=fun σ H Q=>ta σ H fun x H1=>tb σ H1 fun y H2=>r x y H2 Q
def tUn (r:V→Hp→VK→Prop)(ta:TE):TE:=fun σ H Q=>ta σ H fun x H1=>r x H1 Q
def rI (C:Int→Int→Prop)(g:Int→Int→V):R2:=fun x y H Q=>∃i j,x=.int i∧y=.int j∧C i j∧Q (g i j) H
def rI0 (g:Int→Int→V):R2:=fun x y H Q=>∃i j,x=.int i∧y=.int j∧Q (g i j) H
def rU (g:Int→V):V→Hp→VK→Prop:=fun x H Q=>∃i,x=.int i∧Q (g i) H
section
variable {X:Cx}{a b c:Expr}{ta tb tc:TE}{pos:Pos}
theorem binT (ha:PE X a ta)(hb:PE X b tb){pins:List (Addr×Obj)}{s:Shared}{σ:St}{H:Hp}{R:V→V→Hp→Prop}(I:Inv X pins σ H s)
  (h:ta σ H fun x H1=>tb σ H1 fun y H2=>R x y H2) {Q:Value→Shared→Prop}{f:Value→Value→Sem Value}
  (hf:∀v u s2 x y H2,Inv X pins σ H2 s2→RelV x v→RelV y u→R x y H2→wpAny (model X.prog X.w) X.A (f v u) Q X.xe s2) :
  wpAny (model X.prog X.w) X.A (eval a X.env) (fun v s₁=>wpAny (model X.prog X.w) X.A (eval b X.env) (fun u s₂=>wpAny (model X.prog X.w) X.A (f v u) Q X.xe s₂) X.xe s₁) X.xe s:=by
 refine thn (ha pins s σ H _ I h) fun v s1 hq18=>?_
 obtain⟨x,H1,I1,r1,q1⟩:=hq18
 refine thn (hb pins s1 σ H1 _ I1 q1) fun u s2 hq19=>?_
 obtain⟨y,H2,I2,r2,q2⟩:=hq19
 exact hf v u s2 x y H2 I2 r1 r2 q2
theorem pe_op {op:Operator}{r:R2}(ho:OpR X (binaryOp op) r)(ha:PE X a ta)(hb:PE X b tb):PE X (.BinOp a op b pos) (tOp r ta tb):=by
 intro pins s σ H Q I h
 exact wpAny_BinOp (binT ha hb I h fun v u s2 x y H2 I2 rx ry q=>ho pins s2 σ H2 x y v u Q I2 rx ry q)
theorem pe_un {op:UnaryOp}{r:V→Hp→VK→Prop}(ho:UnR X (unaryOp op) r)(ha:PE X a ta):PE X (.UnaryOp op a pos) (tUn r ta):=by
 intro pins s σ H Q I h
 exact UnaryOp_ (thn (ha pins s σ H _ I h) fun v s1 ⟨x,H1,I1,r1,q1⟩=>ho pins s1 σ H1 x v Q I1 r1 q1)
theorem opI {f:Value→Value→Sem Value}{C:Int→Int→Prop}{g:Int→Int→Int}
  (rule:∀(i j:Int) (t u:Tok) (s:Shared) (Q:Value→Shared→Prop) (E:Value→Shared→Prop),C i j→Q (.int (g i j) s.toks) {s with toks:=s.toks+1}→wpAny (model X.prog X.w) X.A (f (.int i t) (.int j u)) Q E s) :
  OpR X f (rI C fun i j=>.int (g i j)):=by
 intro pins s σ H x y v u Q I rx ry h
 obtain⟨i,j,rfl,rfl,hc,q⟩:=h
 obtain⟨t,rfl⟩:=rx
 obtain⟨t',rfl⟩:=ry
 exact rule i j t t' s _ _ hc ⟨.int (g i j),H,I.tok _,⟨_,rfl⟩,q⟩
theorem opI0 {f:Value→Value→Sem Value}{g:Int→Int→Int}
  (rule:∀(i j:Int) (t u:Tok) (s:Shared) (Q:Value→Shared→Prop) (E:Value→Shared→Prop),Q (.int (g i j) s.toks) {s with toks:=s.toks+1}→wpAny (model X.prog X.w) X.A (f (.int i t) (.int j u)) Q E s) :
  OpR X f (rI0 fun i j=>.int (g i j)):=by
 intro pins s σ H x y v u Q I rx ry h
 obtain⟨i,j,rfl,rfl,q⟩:=h
 obtain⟨t,rfl⟩:=rx
 obtain⟨t',rfl⟩:=ry
 exact rule i j t t' s _ _ ⟨.int (g i j),H,I.tok _,⟨_,rfl⟩,q⟩
theorem opB0 {f:Value→Value→Sem Value}{g:Int→Int→Bool}
  (rule:∀(i j:Int) (t u:Tok) (s:Shared) (Q:Value→Shared→Prop) (E:Value→Shared→Prop),Q (.bool (g i j)) s→wpAny (model X.prog X.w) X.A (f (.int i t) (.int j u)) Q E s) :
  OpR X f (rI0 fun i j=>.bl (g i j)):=by
 intro pins s σ H x y v u Q I rx ry h
 obtain⟨i,j,rfl,rfl,q⟩:=h
 obtain⟨t,rfl⟩:=rx
 obtain⟨t',rfl⟩:=ry
 exact rule i j t t' s _ _ ⟨.bl (g i j),H,I,rfl,q⟩
def CMul (i j:Int):Prop:=(-(2 ^ 64)<i∧i<2 ^ 64)∨(-(2 ^ 64)<j∧j<2 ^ 64)
theorem CMul.ok {i j:Int}(h:CMul i j):IntMulOk i j:=by
 rcases h with⟨h1,h2⟩|⟨h1,h2⟩
 ·exact .of_left (intBits_le_64 h1 h2)
 ·exact .of_right (intBits_le_64 h1 h2)
theorem op_add:OpR X (binaryOp .Add) (rI0 fun i j=>.int (i+j)):=opI0 fun _ _ _ _ _ _ _ q=>add_int q
theorem op_sub:OpR X (binaryOp .Sub) (rI0 fun i j=>.int (i - j)):=opI0 fun _ _ _ _ _ _ _ q=>sub_int q
theorem op_mod:OpR X (binaryOp .Mod) (rI (fun _ j=>0<j) fun i j=>.int (i % j)):=opI fun i j _ _ _ _ _ hc q=>by
 have h1:(0:Int)<j:=hc
 exact mod_int' (by omega) (by rw[Int.fmod_eq_emod_of_nonneg i (by omega)];exact q)
theorem unI {f:Value→Sem Value}{g:Int→Int}
  (rule:∀(i:Int) (t:Tok) (s:Shared) (Q:Value→Shared→Prop) (E:Value→Shared→Prop),Q (.int (g i) s.toks) {s with toks:=s.toks+1}→wpAny (model X.prog X.w) X.A (f (.int i t)) Q E s) :
  UnR X f (rU fun i=>.int (g i)):=by
 intro pins s σ H x v Q I rx h
 obtain⟨i,rfl,q⟩:=h
 obtain⟨t,rfl⟩:=rx
 exact rule i t s _ _ ⟨.int (g i),H,I.tok _,⟨_,rfl⟩,q⟩
theorem un_neg:UnR X (unaryOp .USub) (rU fun i=>.int (-i)):=unI fun _ _ _ _ _ q=>neg_int q
end
section
variable {X:Cx}{a b c:Expr}{ta tb tc:TE}{pos:Pos}
theorem fin_bl {pins:List (Addr×Obj)}{σ:St}{H:Hp}{s:Shared}{Q:VK}{k k':Bool}(I:Inv X pins σ H s)(q:Q (.bl k) H)(e:k=k'):EP X pins σ Q (.bool k') s:=by
 subst e
 exact⟨.bl k,H,I,rfl,q⟩
theorem op_lt:OpR X (compareOp .Lt) (rI0 fun i j=>.bl (decide (i<j))):=opB0 fun _ _ _ _ _ _ _ q=>lt_int q
theorem op_le:OpR X (compareOp .LtE) (rI0 fun i j=>.bl (decide (i≤j))):=opB0 fun _ _ _ _ _ _ _ q=>le_int q
theorem op_lt_str:OpR X (compareOp .Lt) (fun x y H Q=>∃i j,x=.str i∧y=.str j∧Q (.bl (decide (i.cps.toList<j.cps.toList))) H):=by
 intro pins s σ H x y v u Q I rx ry h
 obtain⟨i,j,rfl,rfl,q⟩:=h
 obtain⟨t,rfl⟩:=rx
 obtain⟨t',rfl⟩:=ry
 exact lt_str (fin_bl I q rfl)
theorem nomark (b:Expr){op:CmpOp}(h:op≠.In:=by decide)(h2:op≠.NotIn:=by decide):behindInMarks op b=false:=by
 have e1:(op == CmpOp.In)=false:=by cases op <;>first|rfl|exact absurd rfl h
 have e2:(op == CmpOp.NotIn)=false:=by cases op <;>first|rfl|exact absurd rfl h2
 cases b <;>simp[behindInMarks,e1,e2]
theorem pe_cmpR {op:CmpOp}{r:R2}(ho:OpR X (compareOp op) r)(ha:PE X a ta)(hb:PE X b tb)(hm:behindInMarks op b=false):PE X (.Compare a [op] [b] pos) (tOp r ta tb):=by
 intro pins s σ H Q I h
 exact wpAny_Compare1 (binT ha hb I h fun v u s2 x y H2 I2 rx ry q=>ho pins s2 σ H2 x y v u Q I2 rx ry q) hm
def tTest (t:TE):TT:=fun σ H Q=>t σ H fun x H'=>∃k,x=.bl k∧Q k H'
theorem pt_cmpR {op:CmpOp}{r:R2}(ho:OpR X (compareOp op) r)(ha:PE X a ta)(hb:PE X b tb)(hm:behindInMarks op b=false):PT X (.Compare a [op] [b] pos) (tTest (tOp r ta tb)):=by
 intro pins s σ H Q I h
 refine wpAny_isTrue_Compare1 (thn (ha pins s σ H _ I h) fun v s1 ⟨x,H1,I1,r1,q1⟩=>thn (hb pins s1 σ H1 _ I1 q1) fun u s2 ⟨y,H2,I2,r2,q2⟩ =>
  thn (ho pins s2 σ H2 x y v u _ I2 r1 r2 q2) fun c s3 ⟨z,H3,I3,r3,k,e,q3⟩=>?_) hm
 subst e
 cases r3
 exact wpAny_truthy_bool ⟨H3,I3,q3⟩
def tChain (r r':R2)(ta tb tc:TE):TE:=fun σ H Q=>ta σ H fun x H1=>tb σ H1 fun y H2=>r x y H2 fun z H3=>∃k,z=.bl k ∧
 (if k=true then tc σ H3 fun w' H4=>r' y w' H4 Q else Q (.bl false) H3)
theorem pe_chain {op op':CmpOp}{r r':R2}(ho:OpR X (compareOp op) r)(ho':OpR X (compareOp op') r')(ha:PE X a ta)(hb:PE X b tb)(hc:PE X c tc)
  (hm:lastMarks [op,op'] [b,c]=false:=by with_unfolding_all rfl):PE X (.Compare a [op,op'] [b,c] pos) (tChain r r' ta tb tc):=by
 intro pins s σ H Q I h
 refine Compare_chain (thn (ha pins s σ H _ I h) fun v s1 ⟨x,H1,I1,r1,q1⟩=>chain_link (thn (hb pins s1 σ H1 _ I1 q1) fun u s2 ⟨y,H2,I2,r2,q2⟩ =>
  thn (ho pins s2 σ H2 x y v u _ I2 r1 r2 q2) fun d s3 ⟨z,H3,I3,r3,k,e,q3⟩=>?_)) hm
 subst e
 cases r3
 refine wpAny_truthy_bool ?_
 cases k with
 | false=>exact ite_ff ⟨.bl false,H3,I3,rfl,q3⟩
 | true=>exact ite_tt (chain_last (thn (hc pins s3 σ H3 _ I3 q3) fun w' s4 ⟨z',H4,I4,r4,q4⟩=>ho' pins s4 σ H4 y z' u w' Q I4 r2 r4 q4))
theorem pt_chain {op op':CmpOp}{r r':R2}(ho:OpR X (compareOp op) r)(ho':OpR X (compareOp op') r')(ha:PE X a ta)(hb:PE X b tb)(hc:PE X c tc)
  (hm:lastMarks [op,op'] [b,c]=false:=by with_unfolding_all rfl):PT X (.Compare a [op,op'] [b,c] pos) (tTest (tChain r r' ta tb tc)):=by
 intro pins s σ H Q I h
 refine isTrue_chain (thn (ha pins s σ H _ I h) fun v s1 ⟨x,H1,I1,r1,q1⟩=>test_link (thn (hb pins s1 σ H1 _ I1 q1) fun u s2 ⟨y,H2,I2,r2,q2⟩ =>
  thn (ho pins s2 σ H2 x y v u _ I2 r1 r2 q2) fun d s3 ⟨z,H3,I3,r3,k,e,q3⟩=>?_)) hm
 subst e
 cases r3
 refine wpAny_truthy_bool ?_
 cases k with
 | false =>
  obtain⟨k',e',q'⟩:=q3
  cases e'
  exact ite_ff ⟨H3,I3,q'⟩
 | true =>
  refine ite_tt (test_last (thn (hc pins s3 σ H3 _ I3 q3) fun w' s4 ⟨z',H4,I4,r4,q4⟩=>thn (ho' pins s4 σ H4 y z' u w' _ I4 r2 r4 q4) fun d' s5 hq20=>?_))
  obtain⟨z2,H5,I5,r5,k2,e2,q5⟩:=hq20
  subst e2
  cases r5
  exact wpAny_truthy_bool ⟨H5,I5,q5⟩
theorem line63:(sizeLine:Nat)<2 ^ 63:=by rw[sizeLine_eq];decide
theorem op_add_str:OpR X (binaryOp .Add) (fun x y H Q=>∃i j,x=.str i∧y=.str j∧i.length+j.length≤sizeLine∧Q (.str (i++j)) H):=by
 intro pins s σ H x y v u Q I rx ry h
 obtain⟨i,j,rfl,rfl,hz,q⟩:=h
 obtain⟨t,rfl⟩:=rx
 obtain⟨t',rfl⟩:=ry
 exact add_str (fun t' tk=>⟨.str (i++j),H,I.tok _,⟨_,rfl⟩,q⟩) hz
theorem vals1 {x:V}{us:List Value}(r:Vals [x] us):∃u,us=[u]∧RelV x u:=by
 cases r with
 | cons r1 r2=>cases r2;exact⟨_,rfl,r1⟩
theorem vals2 {x y:V}{us:List Value}(r:Vals [x,y] us):∃u w',us=[u,w']∧RelV x u∧RelV y w':=by
 cases r with
 | cons r1 r2 =>
  cases r2 with
  | cons r3 r4=>cases r4;exact⟨_,_,rfl,r1,r3⟩
def LenV (K:PySem.W.Frag)(x:V)(H:Hp)(n:Nat):Prop :=
 match x with
 | .str y=>y.length≤sizeLine∧n=y.length
 | .byt y=>y.size≤sizeLine∧n=y.size
 | .ref p=>(∃xs,SqL K H p xs∧n=xs.length)∨∃xs,SqT K H p xs∧n=xs.length
 | _=>False
theorem call_len:CallR X (.builtin "len") (fun xs H Q=>∃x n,xs=[x]∧LenV X.K x H n∧Q (.int n) H):=by
 intro pins s σ H xs us Q I r h
 obtain⟨x,n,rfl,e,q⟩:=h
 obtain⟨u,rfl,rx⟩:=vals1 r
 have hl:=line63
 have hs:sizeLine=16777216:=sizeLine_eq
 cases x with
 | str y =>
  obtain⟨t,rfl⟩:=rx
  obtain⟨hy,e'⟩:y.length≤sizeLine∧n=y.length:=e
  subst e'
  exact len_str (by omega) ⟨.int _,H,I.tok _,⟨_,rfl⟩,q⟩
 | byt y =>
  obtain⟨t,rfl⟩:=rx
  obtain⟨hy,e'⟩:y.size≤sizeLine∧n=y.size:=e
  subst e'
  exact PySem.W.len_bytes (by omega) ⟨.int _,H,I.tok _,⟨_,rfl⟩,q⟩
 | ref p =>
  cases rx
  have e':(∃xs,SqL X.K H p xs∧n=xs.length)∨∃xs,SqT X.K H p xs∧n=xs.length:=e
  rcases e' with⟨xs,hx,e'⟩|⟨xs,hx,e'⟩
  ·subst e'
   obtain⟨its,r',pl,hz⟩:=I.list hx
   have hlen:=r'.length
   exact Calls.call_len_list pl.isList (by simp only[List.size_toArray];omega) ⟨.int xs.length,H,I.tok _,⟨_,by simp only[List.size_toArray];rw[hlen]⟩,q⟩
  ·subst e'
   obtain⟨its,r',pl,hz⟩:=I.tuple hx
   have hlen:=r'.length
   exact len_tuple pl (by simp only[List.size_toArray];omega) ⟨.int xs.length,H,I.tok _,⟨_,by simp only[List.size_toArray];rw[hlen]⟩,q⟩
 | _=>exact(show False from e).elim
end
end L2
namespace L2
open PySem PySem.Spec PyProof.Rows
section
variable {prog:Program}{w:World}{A:Around}{E:Value→Shared→Prop}{s:Shared}{K:PySem.W.Frag}{x dx C f:Addr}{mA:Str→Option Value}{name:Str}{v:Value}
end
theorem RelO.some_of {v:V}{o:Option Value}(r:RelO (some v) o):∃u,o=some u∧RelV v u:=by
 cases o with
 | none=>exact(show False from r).elim
 | some u=>exact⟨u,rfl,r⟩
structure Cls (K:PySem.W.Frag)(C:Addr):Prop where
 pg:PySem.W.plainGet K C Str.empty=true
 hd:PySem.W.hasDictIn K C=true
 po:PySem.W.plainOver K C=true
 sa:PySem.W.findIn K (.ref C) "__setattr__" = some (some (.builtin "object.__setattr__"))
theorem Cls.get {K:PySem.W.Frag}{C:Addr}(c:Cls K C)(f:Str):PySem.W.plainGet K C f=true:=c.pg
section
variable {X:Cx}{pins:List (Addr×Obj)}{σ:St}{H:Hp}{s:Shared}{a C dx:Addr}{fs:List (Str×V)}{f:Str}{v:V}{A:Around}{E:Value→Shared→Prop}
end
end L2
namespace L2
open PySem PySem.Spec PyProof.Rows
structure Room (k:Nat)(A:Around):Prop where
 hd:A.handled=none
 dp:A.depth+3*k+5<recursionLimit
 un:A.units+16*k+200<cLine
theorem Room.mono {j k:Nat}{A:Around}(r:Room k A)(h:j≤k):Room j A:=⟨r.hd,by have:=r.dp;omega,by have:=r.un;omega⟩
theorem Room.deeper {k:Nat}{A:Around}(r:Room (k+1) A)(env:Env):Room k (A.deeper env) :=
 ⟨r.hd,by have:=r.dp;show A.depth+1+3*k+5<_;omega,by have:=r.un;show A.units+3+16*k+200<_;omega⟩
theorem Room.in1 {k:Nat}{A:Around}(r:Room (k+1) A):Room k A.in1 :=
 ⟨r.hd,by have:=r.dp;show A.depth+3*k+5<_;omega,by have:=r.un;show A.units+1+16*k+200<_;omega⟩
theorem Room.depth {k:Nat}{A:Around}(r:Room k A):A.depth<recursionLimit:=by have:=r.dp;omega
theorem Room.units {k:Nat}{A:Around}(r:Room k A):A.units+64<cLine:=by have:=r.un;omega
def tNil:TA:=fun _ H Q=>Q [] H
def tCons (ta:TE)(tr:TA):TA:=fun σ H Q=>ta σ H fun x H1=>tr σ H1 fun xs H2=>Q (x::xs) H2
section
variable {X:Cx}{e:Expr}{es:List Expr}{te:TE}{t:TA}{pos:Pos}
theorem pa_nil:PA X [] tNil:=fun _ _ _ _ H Q I h=>Calls.spliced_nil ⟨[],H,I,.nil,h⟩
theorem pa_cons (ha:PE X e te)(hr:PA X es t)(hs:starEach (e::es) X.env=(false,eval e X.env)::starEach es X.env:=by rfl):PA X (e::es) (tCons te t):=by
 intro pos pins s σ H Q I h
 rw[hs]
 show wpAny _ _ (spliced ((false,eval e X.env)::backTo pos (starEach es X.env))) _ _ s
 refine Calls.spliced_cons (thn (ha pins s σ H _ I h) fun u s1 hq21=>?_)
 obtain⟨x,H1,I1,r1,q1⟩:=hq21
 exact thn (hr pos pins s1 σ H1 _ I1 q1) fun us s2 ⟨xs,H2,I2,r2,q2⟩=>⟨x::xs,H2,I2,.cons r1 r2,q2⟩
def tTup (t:TA):TE:=fun σ H Q=>t σ H fun xs H1=>xs.length≤sizeLine∧∀p,H1 p=none→Q (.ref p) (upd H1 p (.tup xs))
def tLst (t:TA):TE:=fun σ H Q=>t σ H fun xs H1=>xs.length≤sizeLine∧∀p,H1 p=none→Q (.ref p) (upd H1 p (.lst xs))
theorem pe_tup {x1}(h:PA X es t):PE X (.Tuple es x1 pos) (tTup t):=by
 intro pins s σ H Q I hq
 refine wpAny_Tuple_spliced (thn (h pos pins s σ H _ I hq) fun us s1 ⟨xs,H1,I1,r,z,q⟩=>⟨by rw[← r.length];exact z,?_⟩)
 have hf:H1 s1.heap.objs.size=none:=I1.hok.fresh (Nat.le_refl _)
 refine⟨.ref s1.heap.objs.size,upd H1 s1.heap.objs.size (.tup xs),I1.laid (t':=s1.toks) (fun b u e=>Heap.get?_push_of_some _ e) (Nat.le_refl _) ?_,rfl,q _ hf⟩
 exact⟨z,us,r,TupD.new _ _⟩
theorem pe_lst (h:PA X es t):PE X (.List es pos) (tLst t):=by
 intro pins s σ H Q I hq
 refine wpAny_List_spliced (thn (h pos pins s σ H _ I hq) fun us s1 ⟨xs,H1,I1,r,z,q⟩=>⟨by rw[← r.length];exact z,?_⟩)
 have hf:H1 s1.heap.objs.size=none:=I1.hok.fresh (Nat.le_refl _)
 refine⟨.ref s1.heap.objs.size,upd H1 s1.heap.objs.size (.lst xs),I1.laid (t':=s1.toks) (fun b u e=>Heap.get?_push_of_some _ e) (Nat.le_refl _) ?_,rfl,q _ hf⟩
 exact⟨z,us,0,r,Heap.get?_push_size _ rfl⟩
end
abbrev Sp:=List V→Hp→VK→XK→Prop
abbrev CXT:=List Env→Hp→Shared→XK→Value→Shared→Prop
structure Env0 (P:Program)(w:World)(K:PySem.W.Frag)(mg:Str→Option Value)(base:Heap)(A:Around)(outer:List Env)(s:Shared)(H:Hp):Prop where
 frames:A.frames=some outer
 mod:Mod K mg base
 bs:∀b o,base.get? b=some o→s.heap.get? b=some o∧H b=none
 bsz:base.objs.size≤s.heap.objs.size
 funs:s.heap.FunFrames base outer
 frf:∀b∈frs outer,H b=none
 hok:HOk P w H s.heap
 bare:AllBare s.gens
def CE (outer:List Env)(P:Program)(w:World)(H:Hp)(s:Shared)(Q:VK)(u:Value)(s':Shared):Prop :=
 ∃v H',s'.os=s.os∧AllBare s'.gens∧Un (frs outer) [] H H' s.heap s'.heap∧HOk P w H' s'.heap∧RelV v u∧Q v H'
def CR (CX:CXT)(outer:List Env)(P:Program)(w:World)(H:Hp)(s:Shared)(Q:VK)(E:XK)(r:Result)(s':Shared):Prop :=
 match r with
 | .ok (.ret u)=>CE outer P w H s Q u s'
 | .ok _=>False
 | .error e=>CX outer H s E e s'
structure FnOk (P:Program)(w:World)(K:PySem.W.Frag)(mg:Str→Option Value)(base:Heap)(CX:CXT)(k:Nat)(f:Addr)(fd:FuncData)(ps:List Str)(sp:Sp):Prop where
 len:∀vs H Q E,sp vs H Q E→vs.length=ps.length
 run:∀(A:Around) (outer:List Env) (s:Shared) (H:Hp) (args:Args) (us:List Value) (vs:List V) (Q:VK) (E:XK),Room k A→Env0 P w K mg base A outer s H→BindsTo s fd args (ps.zip us)→Vals vs us→sp vs H Q E →
  codeAny (model P w) A (.call (.ref f) args) (CR CX outer P w H s Q E) s
theorem FnOk.mono {P:Program}{w:World}{K:PySem.W.Frag}{mg:Str→Option Value}{base:Heap}{CX:CXT}{j k:Nat}{f:Addr}{fd:FuncData}{ps:List Str}{sp:Sp}(F:FnOk P w K mg base CX j f fd ps sp)(h:j≤k) :
  FnOk P w K mg base CX k f fd ps sp:=⟨F.len,fun A outer s H args us vs Q E hr=>F.run A outer s H args us vs Q E (hr.mono h)⟩
theorem Env0.in1 {P:Program}{w:World}{K:PySem.W.Frag}{mg:Str→Option Value}{base:Heap}{A:Around}{outer:List Env}{s:Shared}{H:Hp}(e:Env0 P w K mg base A outer s H) :
  Env0 P w K mg base A.in1 outer s H:=⟨e.frames,e.mod,e.bs,e.bsz,e.funs,e.frf,e.hok,e.bare⟩
section
variable {X:Cx}{pins:List (Addr×Obj)}{σ:St}{H:Hp}{s s':Shared}
theorem Inv.env0 (I:Inv X pins σ H s):Env0 X.prog X.w X.K X.mg X.base X.A X.stack s H :=
 ⟨I.ok.frames,I.ok.mod,I.bs,Nat.le_trans I.ok.bsz I.sz,I.stack,I.stkFree,I.hok,I.bare⟩
theorem Inv.after {Q:VK}{u:Value}(I:Inv X pins σ H s)(h:CE X.stack X.prog X.w H s Q u s'):EP X pins σ Q u s':=by
 obtain⟨v,H',os,bare,un,hok,r,q⟩:=h
 obtain⟨hh,g,d,t,os'⟩:=s'
 obtain rfl:os'=s.os:=os
 exact⟨v,H',I.call (h':=hh) (g':=g) (d':=d) (t':=t) (ch:=[]) un hok bare (fun b z=>absurd z (by simp)),r,q⟩
end
def tCall (sp:Sp)(dvs:List V)(E:XK)(t:TA):TE:=fun σ H Q=>t σ H fun vs H1=>sp (vs++dvs) H1 Q E
def Binds (K:PySem.W.Frag)(fd:FuncData)(ps:List Str)(ds:List Value):Prop :=
 ∀(s:Shared) (us:List Value),K.In s.heap→(us++ds).length=ps.length→BindsTo s fd ⟨us,[]⟩ (ps.zip (us++ds))
theorem Binds.all {K:PySem.W.Frag}{fd:FuncData}{ps:List Str}(h:∀us:List Value,us.length=ps.length→bindArgs fd ⟨us,[]⟩=pure (ps.zip us)):Binds K fd ps []:=fun s us _ hl=>by
 rw[List.append_nil] at hl ⊢
 exact .of_eq (h us hl)
def Passes (CX:CXT)(X:Cx)(E:XK):Prop:=∀(pins:List (Addr×Obj)) (σ:St) (H:Hp) (s:Shared) (e:Value) (s':Shared),Inv X pins σ H s→CX X.stack H s E e s'→X.xe e s'
section
variable {X:Cx}{CX:CXT}{k:Nat}{f C:Addr}{fd:FuncData}{ps:List Str}{sp:Sp}{dvs:List V}{ds:List Value}{E:XK}{x m:Str}{p pos apos:Pos}{e o:Expr}{es:List Expr}{ta:TE}{t:TA}
theorem run_fn {pins:List (Addr×Obj)}{σ:St}{H:Hp}{s:Shared}{Q:VK}{us:List Value}{vs:List V}(F:FnOk X.prog X.w X.K X.mg X.base CX k f fd ps sp)(hr:Room k X.A)(hb:Binds X.K fd ps ds)(hd:Vals dvs ds)(hx:Passes CX X E)
  (I:Inv X pins σ H s) (r:Vals vs us) (h:sp (vs++dvs) H Q E):wpAny (model X.prog X.w) X.A (call (.ref f) us) (EP X pins σ Q) X.xe s:=by
 have r2:Vals (vs++dvs) (us++ds):=r.append hd
 have hl:(us++ds).length=ps.length:=by rw[← r2.length];exact F.len _ _ _ _ h
 refine wpAny_call (codeAny_mono (F.run X.A X.stack s H ⟨us,[]⟩ (us++ds) (vs++dvs) Q E hr I.env0 (hb s us I.kIn hl) r2 h) fun r s' hq=>?_)
 cases r with
 | error e=>exact hx pins σ H s e s' I hq
 | ok fl =>
  cases fl with
  | ret u=>exact I.after hq
  | next=>exact False.elim hq
  | brk=>exact False.elim hq
  | cont=>exact False.elim hq
theorem pe_call (F:FnOk X.prog X.w X.K X.mg X.base CX k f fd ps sp)(hr:Room k X.A)(hg:Gl X x)(hm:X.mg x=some (.ref f))(hk:PySem.W.keepIn X.K (.ref f)=true)(hb:Binds X.K fd ps ds)(hd:Vals dvs ds)(hx:Passes CX X E)
  (ha:PA X (e::es) t) (hdb:(x == ("__debug__" : Str))=false:=by decide) (he:starEach (e::es) X.env=(false,eval e X.env)::starEach es X.env:=by rfl) (hpl:(backTo pos (starEach es X.env)).any (·.1)=false:=by rfl) :
  PE X (.Call (.Name x p) (e::es) [] pos) (tCall sp dvs E t):=by
 intro pins s σ H Q I h
 refine wpAny_Call_Name_kw (ld_glob I hg hm ?_ hdb)
 refine PySem.W.callWith_K (h₀:=X.base) I.ok.mod.kin hk (thn (ha pos pins s σ H _ I h) fun us s1 ⟨vs,H1,I1,r,q⟩=>⟨I1.kIn,?_⟩) he hpl
 exact run_fn F hr hb hd hx I1 r q
end
structure FnScope (N P:List Str)(sc:Scope):Prop where
 kind:sc.kind=.function
 co:sc.isCoroutine=false
 gen:sc.isGenerator=false
 nd:N.Nodup
 pre:N.take P.length=P
 par:∀x∈P,sc.names.lookup x=some .local∨sc.names.lookup x=some .cell
 nofree:∀y∈sc.names,y.2≠.free
theorem bindL_out {kindOf:Str→Option NameKind}{x:Str}:∀{binds:List (Str×Value)}{m:Str→Option Value},(∀v,(x,v)∉binds)→bindL kindOf binds m x=m x
 | [],_,_=>rfl
 | (n,v)::r,m,h=>by
  unfold bindL
  rw[bindL_out fun w hw=>h w (List.mem_cons_of_mem _ hw)]
  split
  ·have:x≠n:=by rintro rfl;exact h v List.mem_cons_self
   simp[this]
  ·rfl
theorem bindC_out {kindOf:Str→Option NameKind}{x:Str}:∀{binds:List (Str×Value)}{m:Str→Option Value},(∀v,(x,v)∉binds)→bindC kindOf binds m x=m x
 | [],_,_=>rfl
 | (n,v)::r,m,h=>by
  unfold bindC
  rw[bindC_out fun w hw=>h w (List.mem_cons_of_mem _ hw)]
  split
  ·rfl
  ·have:x≠n:=by rintro rfl;exact h v List.mem_cons_self
   simp[this]
theorem bindL_get {kindOf:Str→Option NameKind}{x:Str}{v:Value}:∀{P:List Str}{vs:List Value}{i:Nat}{m:Str→Option Value},P.Nodup→P[i]? = some x→vs[i]? = some v→kindOf x=some .local →
  bindL kindOf (P.zip vs) m x=some v
 | [],_,_,_,_,h,_,_=>by simp at h
 | _::_,[],_,_,_,_,h,_=>by simp at h
 | p::P,w::vs,0,m,nd,h1,h2,hk=>by
  simp at h1 h2;subst h1;subst h2
  show bindL kindOf ((p,w)::P.zip vs) m p=_
  unfold bindL
  rw[bindL_out fun v hv=>(List.nodup_cons.mp nd).1 (List.of_mem_zip hv).1,if_pos hk]
  simp
 | p::P,w::vs,i+1,m,nd,h1,h2,hk=>by
  show bindL kindOf ((p,w)::P.zip vs) m x=_
  unfold bindL
  exact bindL_get (i:=i) (List.nodup_cons.mp nd).2 (by simpa using h1) (by simpa using h2) hk
theorem bindC_get {kindOf:Str→Option NameKind}{x:Str}{v:Value}:∀{P:List Str}{vs:List Value}{i:Nat}{m:Str→Option Value},P.Nodup→P[i]? = some x→vs[i]? = some v→kindOf x≠some .local →
  bindC kindOf (P.zip vs) m x=some v
 | [],_,_,_,_,h,_,_=>by simp at h
 | _::_,[],_,_,_,_,h,_=>by simp at h
 | p::P,w::vs,0,m,nd,h1,h2,hk=>by
  simp at h1 h2;subst h1;subst h2
  show bindC kindOf ((p,w)::P.zip vs) m p=_
  unfold bindC
  rw[bindC_out fun v hv=>(List.nodup_cons.mp nd).1 (List.of_mem_zip hv).1,if_neg hk]
  simp
 | p::P,w::vs,i+1,m,nd,h1,h2,hk=>by
  show bindC kindOf ((p,w)::P.zip vs) m x=_
  unfold bindC
  exact bindC_get (i:=i) (List.nodup_cons.mp nd).2 (by simpa using h1) (by simpa using h2) hk
def start (N:List Str)(vs:List V):St:=vs.map some++List.replicate (N.length - vs.length) none
def cxOf (CX:CXT)(P:Program)(w:World)(K:PySem.W.Frag)(mg:Str→Option Value)(base:Heap)(N:List Str)(qual:Str)(scope:Scope)(f:Addr)(cd:Value)(A:Around)(outer:List Env)(s:Shared)(H:Hp)(E:XK):Cx where
 prog:=P
 w:=w
 K:=K
 mg:=mg
 base:=base
 A:=A.deeper (envOfC qual scope s.heap.objs.size f cd)
 N:=N
 s₀:=s
 H₀:=H
 env:=envOfC qual scope s.heap.objs.size f cd
 outer:=outer
 stack:=envOfC qual scope s.heap.objs.size f cd::outer
 ex:=[]
 calm:=true
 fn:=fun _=>true
 pn:=[]
 xe:=fun e s'=>wpAny (model P w) (A.deeper (envOfC qual scope s.heap.objs.size f cd)) (leaving (envOfC qual scope s.heap.objs.size f cd) e) (fun _ s''=>CX outer H s E e s'') (fun e' s''=>CX outer H s E e' s'') s'
theorem cell_has {sc:Scope}{n:Nat}{x:Str}(h:sc.names.lookup x=some .cell):∃c,(cellsFrom n sc.names []).lookup x=some c:=by
 have q:=PySem.W.cellsFrom_some sc.names n [] (.inl h)
 exact Option.isSome_iff_exists.mp q
theorem inv_start {CX:CXT}{P:Program}{w:World}{K:PySem.W.Frag}{mg:Str→Option Value}{base:Heap}{N ps:List Str}{qual:Str}{scope:Scope}{f:Addr}{cd:Value}{A:Around}{outer:List Env}{s s1:Shared}{H:Hp}{E:XK}{us:List Value}{vs:List V}
  (S:FnScope N ps scope) (hd:A.handled=none) (e0:Env0 P w K mg base A outer s H) (hl:vs.length=ps.length) (r:Vals vs us)
  (x:InCallC s s.heap.objs.size (bindL (envOfC qual scope s.heap.objs.size f cd).kindOf (ps.zip us) fun _=>none) (cellsFrom (s.heap.objs.size+1) scope.names []) (bindC (envOfC qual scope s.heap.objs.size f cd).kindOf (ps.zip us) fun _=>none) s1) :
  Inv (cxOf CX P w K mg base N qual scope f cd A outer s H E) [] (start N vs) H s1:=by
 have hpl:ps.length≤N.length:=by have:=congrArg List.length S.pre;rw[List.length_take] at this;omega
 obtain⟨h1,tk,rfl,hk⟩:=x.done
 have noA:∀b:Addr,b∉(cxOf CX P w K mg base N qual scope f cd A outer s H E).ex:=fun b z=>absurd (show b∈([]:List Addr) from z) (by simp)
 refine ⟨⟨e0.mod,S.kind,rfl,rfl,Nat.le_refl _,fun y z c h1 h2=>?_,fun y hy=>?_,fun y c _ h=>?_,fun _=>hd,Around.frames_deeper e0.frames,.inr ⟨rfl,rfl⟩,fun b z=>absurd z (noA b),e0.bs,e0.bsz,fun b _ _=>noA b,fun b z=>absurd z (noA b),e0.funs,e0.frf⟩,
  rfl,e0.bare,Un.kept hk,⟨_,x.toInCall.ns,fun i y v h1 h2 h3=>?_⟩,fun y c h=>⟨_,x.cell y c h⟩,e0.hok.fresh (Nat.le_refl _),fun y c h=>?_,fun p hp=>absurd (show p∈([]:List (Addr×Obj)) from hp) (by simp),e0.hok.kept hk,?_⟩
 ·exact name_of_addr x.apart (PySem.mem_of_lookup h1) (PySem.mem_of_lookup h2)
 ·have hy:scope.names.lookup y=some .cell∨scope.names.lookup y=some .free:=hy
  rcases hy with hy|hy
  ·exact cell_has hy
  ·exact absurd rfl (S.nofree _ (PySem.mem_of_lookup hy))
 ·exact Nat.le_of_lt (x.above y c (PySem.mem_of_lookup h))
 ·have hi:i<vs.length:=by
   unfold start at h2
   by_cases hi:i<vs.length
   ·exact hi
   ·rw[List.getElem?_append_right (by simpa using hi)] at h2
    rw[List.getElem?_replicate] at h2
    split at h2 <;>cases h2
  have ha:vs[i]? = some v:=by
   unfold start at h2
   rw[List.getElem?_append_left (by simpa using hi),List.getElem?_map] at h2
   cases e:vs[i]? with
   | none=>rw[e] at h2;cases h2
   | some a=>rw[e] at h2;cases h2;rfl
  obtain⟨u,hu,rv⟩:=r.get ha
  have hp:ps[i]? = some y:=by
   rw[← S.pre,List.getElem?_take_of_lt (by omega)];exact h1
  have ndP:ps.Nodup:=by rw[← S.pre];exact S.nd.sublist (List.take_sublist _ _)
  refine⟨u,rv,?_⟩
  rcases S.par y (List.mem_of_getElem? hp) with k|k
  ·exact .inl ⟨k,bindL_get ndP hp hu k⟩
  ·obtain⟨c,e⟩:=cell_has (n:=s.heap.objs.size+1) k
   refine .inr ⟨.inl k,c,e,?_⟩
   have q:=x.cell y c e
   rw[bindC_get ndP hp hu (by show scope.names.lookup y≠_;rw[k];decide)] at q
   exact q
 ·exact e0.hok.fresh (Nat.le_of_lt (x.above y c (PySem.mem_of_lookup h)))
 ·unfold start
  show _=N.length
  rw[List.length_append,List.length_map,List.length_replicate]
  omega
theorem fn_of {CX:CXT}{P:Program}{w:World}{K:PySem.W.Frag}{mg:Str→Option Value}{base:Heap}{k:Nat}{f:Addr}{name qual:Str}{params:Arguments}{body:List Stmt}{scope:Scope}{dV kV doc pm cdv ct oc:Value}{an od:Option Addr}
  {osl:Array (Option Value)}{N ps:List Str}{sp:Sp} (lk:K.lookup f=some ⟨oc,od,.func (PySem.W.fnOf name qual params body scope dV kV doc pm an cdv ct),osl⟩) (hcd:PySem.W.codeIn K cdv qual=true) (S:FnScope N ps scope)
  (len:∀vs H Q E,sp vs H Q E→vs.length=ps.length)
  (hbody:∀(A:Around) (outer:List Env) (s:Shared) (H:Hp) (vs:List V) (Q:VK) (E:XK),Room k (A.deeper (envOfC qual scope s.heap.objs.size f cdv))→sp vs H Q E →
   ∃t,PSs (cxOf CX P w K mg base N qual scope f cdv A outer s H E) body t∧t {nx:=fun _ H'=>Q .non H',rt:=Q} (start N vs) H) :
  FnOk P w K mg base CX (k+1) f (PySem.W.fnOf name qual params body scope dV kV doc pm an cdv ct) ps sp:=by
 refine⟨len,fun A outer s H args us vs Q E hr e0 hb r hsp=>?_⟩
 have hl:=len _ _ _ _ hsp
 have KX:K.In s.heap:=e0.mod.kin.keeps fun b o e=>(e0.bs b o e).1
 have lim:s.heap.NoLimit:=e0.mod.nolimit.keeps fun b o e=>(e0.bs b o e).1
 have hkind:∀y∈ps.zip us,scope.names.lookup y.1=some .local∨(scope.names.lookup y.1=some .cell∧((cellsFrom (s.heap.objs.size+1) scope.names []).lookup y.1).isSome=true):=fun⟨n,v⟩ hy=>by
  rcases S.par n (List.of_mem_zip hy).1 with q|q
  ·exact .inl q
  ·exact .inr ⟨q,PySem.W.cellsFrom_some _ _ _ (.inl q)⟩
 refine codeAny_call_function hr.depth (KX _ _ lk) rfl S.co S.gen rfl (PySem.W.codeRec_of KX hcd) (hb _ _ _ _ ?_)
 refine wpAny_newFunctionEnv_cells S.kind hkind fun env he s1 x=>?_
 subst he
 refine⟨lim.keeps x.toInCall.keep,codeAny_func ?_⟩
 obtain⟨t,ht,hq⟩:=hbody A outer s H vs Q E (hr.deeper _) hsp
 have I:Inv (cxOf CX P w K mg base N qual scope f cdv A outer s H E) [] (start N vs) H s1:=inv_start S hr.hd e0 hl r x
 refine wpAny_mono (ht [] s1 (start N vs) H _ I hq) (fun fl s' hs=>?_) fun e s' hs=>hs
 have fin:∀{σ':St}{H':Hp}{v:V}{u:Value},Inv (cxOf CX P w K mg base N qual scope f cdv A outer s H E) [] σ' H' s'→RelV v u→Q v H'→CE outer P w H s Q u s' :=
  fun {σ' H' v u} J rv q=>⟨v,H',J.os,J.bare,J.base,J.hok,rv,q⟩
 cases fl with
 | ret u =>
  obtain⟨v,σ',H',J,rv,q⟩:=hs
  exact fin J rv q
 | next =>
  obtain⟨σ',H',J,q⟩:=hs
  exact fin (v:=V.non) (u:=Value.none) J rfl q
 | brk =>
  obtain⟨_,_,_,q⟩:=hs
  exact False.elim q
 | cont =>
  obtain⟨_,_,_,q⟩:=hs
  exact False.elim q
end L2
namespace L2
open PySem PySem.Spec PyProof.Rows
section
variable {X:Cx}{x:Str}{p pos:Pos}{e:Expr}{es:List Expr}{t:TA}{id T:String}{r:List V→Hp→VK→Prop}
def tCB (r:List V→Hp→VK→Prop)(t:TA):TE:=fun σ H Q=>t σ H fun vs H1=>r vs H1 Q
theorem pe_callB (hc:CallR X (.builtin id) r)(hg:Gl X x)(hm:X.mg x=none)(hv:bootBuiltins x=some (.builtin id))(ha:PA X (e::es) t)(hn:x ≠ "__name__" := by decide)(hdb:(x == ("__debug__" : Str))=false:=by decide)
  (he:starEach (e::es) X.env=(false,eval e X.env)::starEach es X.env:=by rfl) (hpl:(backTo pos (starEach es X.env)).any (·.1)=false:=by rfl):PE X (.Call (.Name x p) (e::es) [] pos) (tCB r t):=by
 intro pins s σ H Q I h
 refine wpAny_Call_Name_kw (ld_blt I hg hm hv ?_ hn hdb)
 exact PyProof.Rows.callWith_builtin1 (thn (ha pos pins s σ H _ I h) fun us s1 ⟨vs,H1,I1,r1,q1⟩=>hc pins s1 σ H1 vs us Q I1 r1 q1) he hpl
theorem pe_callTy (hc:CallR X (.type T) r)(hg:Gl X x)(hm:X.mg x=none)(hv:bootBuiltins x=some (.type T))(ha:PA X (e::es) t)(hn:x ≠ "__name__" := by decide)(hdb:(x == ("__debug__" : Str))=false:=by decide)
  (he:starEach (e::es) X.env=(false,eval e X.env)::starEach es X.env:=by rfl) (hpl:(backTo pos (starEach es X.env)).any (·.1)=false:=by rfl):PE X (.Call (.Name x p) (e::es) [] pos) (tCB r t):=by
 intro pins s σ H Q I h
 refine wpAny_Call_Name_kw (ld_blt I hg hm hv ?_ hn hdb)
 exact PyProof.Rows.callWith_type1 (thn (ha pos pins s σ H _ I h) fun us s1 ⟨vs,H1,I1,r1,q1⟩=>hc pins s1 σ H1 vs us Q I1 r1 q1) he hpl
end
end L2
namespace HT
open PySem PyProof.Rows
section
open PySem.SeqAt
open PySem.AutoSeq1 (wpAny_loadPart')
open PySem.MeetsSeq PySem.MeetsSeq2 PySem.MeetsSeq3
end
section
variable {prog:Program}{w:World}{A:Around}{E:Value→Shared→Prop}{s:Shared}
theorem cat_tup {t b:Addr}{vs ws:List Value}{Q:Value→Shared→Prop}(ht:IsTup s.heap t vs.toArray)(hb:IsTup s.heap b ws.toArray)(hv:vs≠[])
  (h1:ws=[]→Q (.ref t) s) (h2:ws≠[]→Q (.ref s.heap.objs.size) {s with heap:=s.heap.push {cls:=.type "tuple", data:=.seq (vs++ws).toArray} })
  (hsz:vs.length+ws.length≤sizeLine):wpAny (model prog w) A (binaryOp .Add (.ref t) (.ref b)) Q E s:=by
 obtain⟨⟨cls,dd,data,sl⟩,ho,hc,n,hd⟩:=id ht
 obtain⟨⟨cls2,dd2,data2,sl2⟩,ho2,hc2,n2,hd2⟩:=id hb
 simp only at hc hd hc2 hd2
 subst hc hd hc2 hd2
 have e:vs.toArray++ws.toArray=(vs++ws).toArray:=by simp
 by_cases hw:ws=[]
 ·exact concat_meets ⟨_,ho,rfl⟩ ⟨_,ho2,rfl⟩ noFill_tuple_add seq_tuple_add PySem.F.slot_tuple_add PySem.F.entry_tuple_add (PySem.F.args_tuple_add_2 _ _)
   (tuple_addW1 t b vs.toArray ws.toArray n n2 dd dd2 sl sl2 (by simpa using hv) (by simp[hw])) ⟨ho,ho2,h1 hw⟩
 ·refine concat_meets ⟨_,ho,rfl⟩ ⟨_,ho2,rfl⟩ noFill_tuple_add seq_tuple_add PySem.F.slot_tuple_add PySem.F.entry_tuple_add (PySem.F.args_tuple_add_2 _ _)
   (tuple_addW2 t b vs.toArray ws.toArray n n2 dd dd2 sl sl2 (by simpa using hv) (by simpa using hw) (by rw[List.size_toArray,List.size_toArray];exact hsz)) ⟨ho,ho2,?_⟩
  rw[e]
  exact h2 hw
def sIx (n d:Nat):Option Int→Nat
 | none=>d
 | some v=>if v<0 then(v+(n:Int)).toNat else min v.toNat n
theorem sIx_none (n d:Nat):sIx n d none=d:=rfl
theorem sIx_nat (n d k:Nat):sIx n d (some (k:Int))=min k n:=by
 show(if (k:Int)<0 then((k:Int)+(n:Int)).toNat else min (k:Int).toNat n)=min k n
 rw[if_neg (by omega),Int.toNat_natCast]
theorem sIx_le (n d:Nat)(hd:d≤n)(o:Option Int):sIx n d o≤n:=by
 cases o with
 | none=>exact hd
 | some v =>
  show(if v<0 then(v+(n:Int)).toNat else min v.toNat n)≤n
  by_cases hv:v<0
  ·rw[if_pos hv];omega
  ·rw[if_neg hv];exact Nat.min_le_right _ _
theorem clip_eq (v:Int)(n d:Nat):(if v<0 then max (v+(n:Int)) 0 else min v (n:Int))=((sIx n d (some v):Nat):Int):=by
 show(if v<0 then max (v+(n:Int)) 0 else min v (n:Int))=(((if v<0 then(v+(n:Int)).toNat else min v.toNat n):Nat):Int)
 by_cases hv:v<0
 ·simp only[if_pos hv];omega
 ·simp only[if_neg hv];omega
theorem adjust_gen (lo hi:Option Int)(n:Nat):Builtin.Slice.sliceAdjust lo hi 1 (n:Int)=(((sIx n 0 lo:Nat):Int),((sIx n n hi:Nat):Int)):=by
 have h1:¬((1:Int)<0):=by omega
 unfold Builtin.Slice.sliceAdjust
 simp only[h1,if_false]
 refine Prod.ext ?_ ?_
 ·cases lo with
  | none=>rfl
  | some v=>exact clip_eq v n 0
 ·cases hi with
  | none=>rfl
  | some v=>exact clip_eq v n n
theorem places_gen (i j:Nat):Builtin.Slice.slicePlaces (i:Int) (j:Int) 1=j - i:=by
 unfold Builtin.Slice.slicePlaces
 have h1:(1:Int) > 0:=by omega
 simp only[h1,if_true,Int.ediv_one]
 split <;>omega
theorem slicePart_ {v:Value}{o:Option Int}{Q:Option Int→Shared→Prop}(p:IsPart v o)(h:Q o s):wpAny (model prog w) A (Builtin.Slice.slicePartIndex v) Q E s:=by
 cases p with
 | none=>exact slicePart_none h
 | int i t=>exact slicePart_int h
theorem sliceApplied_gen {sl:Addr}{vl vu:Value}{lo hi:Option Int}{n:Nat}{Q:Int×Int×Nat→Shared→Prop}(hs:s.heap.IsSliceOf sl vl vu .none)(pl:IsPart vl lo)(pu:IsPart vu hi)
  (h:Q (((sIx n 0 lo:Nat):Int),1,sIx n n hi - sIx n 0 lo) s):wpAny (model prog w) A (Builtin.Slice.sliceApplied (.ref sl) (pure (n:Int))) Q E s:=by
 obtain⟨os,hos,hcs,hds⟩:=id hs
 unfold Builtin.Slice.sliceApplied Builtin.Slice.sliceFields
 refine wpAny_bind (wpAny_bind (wpAny_field hos hds (x:=vl) rfl (wpAny_bind (wpAny_field hos hds (x:=vu) rfl (wpAny_bind (wpAny_field hos hds (x:=.none) rfl (wpAny_pure ?_)))))))
 refine wpAny_bind (slicePart_none ?_)
 show wpAny _ _ (if ((1:Int) == 0)=true then _ else _) _ _ s
 rw[if_neg (by decide)]
 refine wpAny_bind (slicePart_ pl (wpAny_bind (slicePart_ pu (wpAny_bind (wpAny_pure ?_)))))
 show wpAny _ _ (match Builtin.Slice.sliceAdjust lo hi 1 (n:Int) with|(lo,hi)=>pure (lo,(1:Int),Builtin.Slice.slicePlaces lo hi 1)) _ _ s
 rw[adjust_gen lo hi n]
 show wpAny _ _ (pure (((sIx n 0 lo:Nat):Int),(1:Int),Builtin.Slice.slicePlaces ((sIx n 0 lo:Nat):Int) ((sIx n n hi:Nat):Int) 1)) _ _ s
 rw[places_gen]
 exact wpAny_pure h
theorem pick_gen (xs:Array Value)(i k:Nat):((List.range k).filterMap fun(m:Nat)=>xs[((i:Int)+(m:Int)*1).toNat]?).toArray=((xs.toList.drop i).take k).toArray:=by
 have e:(fun(m:Nat)=>xs[((i:Int)+(m:Int)*1).toNat]?)=fun m=>xs[i+m]?:=by
  funext m
  have:((i:Int)+(m:Int)*1).toNat=i+m:=by omega
  rw[this]
 rw[e]
 have:=pick_run xs i k
 rw[List.filterMap_map] at this
 have e2:((fun x=>xs[x]?)∘fun x=>i+x)=fun m=>xs[i+m]?:=rfl
 rw[e2] at this
 rw[this]
theorem getItem_tuple_cut {t sl:Addr}{items:Array Value}{vl vu:Value}{lo hi:Option Int}{Q:Value→Shared→Prop}(ht:IsTup s.heap t items)(hs:s.heap.IsSliceOf sl vl vu .none)(pl:IsPart vl lo)(pu:IsPart vu hi)
  (hw:¬(sIx items.size 0 lo=0∧sIx items.size items.size hi=items.size))
  (h:Q (.ref s.heap.objs.size) {s with heap:=s.heap.push {cls:=.type "tuple", data:=.seq ((items.toList.drop (sIx items.size 0 lo)).take (sIx items.size items.size hi - sIx items.size 0 lo)).toArray} })
  (hsz:items.size≤sizeLine):wpAny (model prog w) A (getItem (.ref t) (.ref sl)) Q E s:=by
 have htake:sizeOk (.seq ((items.toList.drop (sIx items.size 0 lo)).take (sIx items.size items.size hi - sIx items.size 0 lo)).toArray):=by
  show((items.toList.drop (sIx items.size 0 lo)).take (sIx items.size items.size hi - sIx items.size 0 lo)).toArray.size≤sizeLine
  rw[List.size_toArray,List.length_take,List.length_drop,Array.length_toList]
  omega
 have hj:sIx items.size items.size hi≤items.size:=sIx_le _ _ (Nat.le_refl _) hi
 obtain⟨os,hos,hcs,hds⟩:=id hs
 have hTs:s.TypeIs (.ref sl) "slice" := ⟨os,hos,hcs⟩
 unfold getItem
 try with_reducible refine wpAny_holding ?_
 first|refine wpAny_bind (wpAny_pure ?_)|skip
 refine wpAny_bind (wpAny_sequenceKey ht.typeIs (by decide) ?_)
 refine wpAny_bind (wpAny_callSpecial?_slot (name:=Str.ofString "__getitem__") ht.typeIs PyProof.Rows.slot_tuple_getitem
  (wpAny_call_entry PyProof.Rows.slot_tuple_getitem ht.typeIs entry_tuple_getitem ?_ (args_tuple_getitem _ _)))
 show wpAny _ _ (Builtin.Tuple.tupleItemsOf (.ref t) >>= _) _ _ s
 refine wpAny_bind (tupleItemsOf_ ht ?_)
 refine wpAny_bind (wpAny_typeOf hTs ?_)
 rw[if_pos (by decide)]
 refine wpAny_bind (sliceApplied_gen hs pl pu ?_)
 have hno:¬((((sIx items.size 0 lo:Nat):Int) == 0&&(1:Int) == 1&&(sIx items.size items.size hi - sIx items.size 0 lo) == items.size)=true):=by
  intro q
  rw[Bool.and_eq_true,Bool.and_eq_true] at q
  have q1:((sIx items.size 0 lo:Nat):Int)=0:=eq_of_beq q.1.1
  have q2:sIx items.size items.size hi - sIx items.size 0 lo=items.size:=eq_of_beq q.2
  exact hw ⟨by omega,by omega⟩
 show wpAny _ _ (if (((sIx items.size 0 lo:Nat):Int) == 0&&(1:Int) == 1&&(sIx items.size items.size hi - sIx items.size 0 lo) == items.size)=true then _ else _) _ _ s
 rw[if_neg hno,pick_gen]
 first
  | exact wpAny_bind (m:=Builtin.Tuple.tupleExact _) (wpAny_newObj_type (wpAny_pure ⟨_,rfl,wpAny_pure h⟩) htake)
  | exact wpAny_bind (m:=Builtin.Tuple.tupleExact _) (wpAny_newObj_type (wpAny_bind (wpAny_pure (wpAny_pure ⟨_,rfl,wpAny_pure h⟩))) htake)
  | exact wpAny_bind (wpAny_bind (m:=Builtin.Tuple.tupleExact _) (wpAny_newObj_type (wpAny_pure (wpAny_pure ⟨_,rfl,wpAny_pure h⟩)) htake))
  | exact wpAny_bind (wpAny_bind (m:=Builtin.Tuple.tupleExact _) (wpAny_newObj_type (wpAny_pure ⟨_,rfl,wpAny_pure h⟩) htake))
end
end HT
namespace L2
open PySem PySem.Spec PyProof.Rows
abbrev TO:=St→Hp→(Option Int→Hp→Prop)→Prop
def PO (X:Cx)(e:Option Expr)(t:TO):Prop :=
 ∀ (pins:List (Addr×Obj)) (s:Shared) (σ:St) (H:Hp) (Q:Option Int→Hp→Prop),Inv X pins σ H s→t σ H Q →
  wpAny (model X.prog X.w) X.A (evalPart e X.env) (fun u s'=>∃o H',Inv X pins σ H' s'∧IsPart u o∧Q o H') X.xe s
def tNoPart:TO:=fun _ H Q=>Q none H
def tPart (t:TE):TO:=fun σ H Q=>t σ H fun x H1=>∃i,x=.int i∧Q (some i) H1
section
variable {X:Cx}{e:Expr}{te:TE}{lo hi:Option Expr}{tl th:TO}{pos p2:Pos}
theorem po_none:PO X none tNoPart:=by
 intro pins s σ H Q I h
 rw[evalPart_none]
 exact wpAny_pure ⟨none,H,I,.none,h⟩
theorem po_some (h:PE X e te):PO X (some e) (tPart te):=by
 intro pins s σ H Q I hw
 rw[evalPart_some]
 refine thn (h pins s σ H _ I hw) fun u s1 hq22=>?_
 obtain⟨x,H1,I1,r1,q1⟩:=hq22
 obtain⟨i,rfl,q⟩:=q1
 obtain⟨t,rfl⟩:=r1
 exact⟨some i,H1,I1,.int i t,q⟩
def SlR (X:Cx)(r:V→Option Int→Option Int→Hp→VK→Prop):Prop :=
 ∀ (pins:List (Addr×Obj)) (s:Shared) (σ:St) (H:Hp) (x:V) (v vl vu:Value) (lo hi:Option Int) (sl:Addr) (Q:VK),Inv X pins σ H s→RelV x v→s.heap.IsSliceOf sl vl vu .none→IsPart vl lo→IsPart vu hi→r x lo hi H Q →
  ∃T id,typeLookup (.type T) "__getitem__" = pure (some (.builtin id))∧s.TypeIs v T∧wpAny (model X.prog X.w) X.A (getItem v (.ref sl)) (EP X pins σ Q) X.xe s
theorem SlR.or {r r':V→Option Int→Option Int→Hp→VK→Prop}(h:SlR X r)(h':SlR X r'):SlR X (fun x lo hi H Q=>r x lo hi H Q∨r' x lo hi H Q):=by
 intro pins s σ H x v vl vu lo hi sl Q I rx hs pl pu q
 rcases q with q|q
 ·exact h pins s σ H x v vl vu lo hi sl Q I rx hs pl pu q
 ·exact h' pins s σ H x v vl vu lo hi sl Q I rx hs pl pu q
def tSl (r:V→Option Int→Option Int→Hp→VK→Prop)(te:TE)(tl th:TO):TE:=fun σ H Q=>te σ H fun x H1=>tl σ H1 fun l H2=>th σ H2 fun u H3=>r x l u H3 Q
theorem pe_slice {r:V→Option Int→Option Int→Hp→VK→Prop}(hr:SlR X r)(he:PE X e te)(hl:PO X lo tl)(hu:PO X hi th):PE X (.Subscript e (.Slice lo hi none p2) pos) (tSl r te tl th):=by
 intro pins s σ H Q I h
 refine Subscript_ (thn (he pins s σ H _ I h) fun v s1 hq23=>?_)
 obtain⟨x,H1,I1,r1,q1⟩:=hq23
 refine wpAny_Slice (thn (hl pins s1 σ H1 _ I1 q1) fun vl s2 ⟨l,H2,I2,pl,q2⟩=>thn (hu pins s2 σ H2 _ I2 q2) fun vu s3 hq24=>?_)
 obtain⟨u,H3,I3,pu,q3⟩:=hq24
 rw[evalPart_none]
 refine wpAny_pure ?_
 have I4:Inv X pins σ H3 {s3 with heap:=s3.heap.push {cls:=.type "slice", data:=.fields #[vl,vu,.none]} }:=I3.kept (t':=s3.toks) fun b ob q=>Heap.get?_push_of_some _ q
 obtain⟨T,id,hT,ht,hg⟩:=hr pins {s3 with heap:=s3.heap.push {cls:=.type "slice", data:=.fields #[vl,vu,.none]} } σ H3 x v vl vu l u s3.heap.objs.size Q I4 r1 (Heap.IsSliceOf.new ..) pl pu q3
 show wpAny (model X.prog X.w) X.A (subscriptTail e (.Slice lo hi none p2) v (.ref s3.heap.objs.size)) (EP X pins σ Q) X.xe {s3 with heap:=s3.heap.push {cls:=.type "slice", data:=.fields #[vl,vu,.none]} }
 exact tail_any (ops:=[.ref s3.heap.objs.size,v]) ht hT hg (by with_unfolding_all rfl)
def cutV (xs:List V)(lo hi:Option Int):List V:=(xs.drop (HT.sIx xs.length 0 lo)).take (HT.sIx xs.length xs.length hi - HT.sIx xs.length 0 lo)
theorem cutV_length (xs:List V)(lo hi:Option Int):(cutV xs lo hi).length≤xs.length:=by
 unfold cutV
 rw[List.length_take,List.length_drop]
 omega
def rSlT (K:PySem.W.Frag):V→Option Int→Option Int→Hp→VK→Prop:=fun x lo hi H Q=>∃a xs,x=.ref a∧SqT K H a xs ∧
 ¬(HT.sIx xs.length 0 lo=0∧HT.sIx xs.length xs.length hi=xs.length)∧∀p,H p=none→Q (.ref p) (upd H p (.tup (cutV xs lo hi)))
theorem sl_tup:SlR X (rSlT X.K):=by
 intro pins s σ H x v vl vu lo hi sl Q I rx hs pl pu h
 obtain⟨a,xs,rfl,hx,hw,q⟩:=h
 cases rx
 obtain⟨its,r,ht,hz⟩:=I.tuple hx
 have hlen:its.toArray.size=xs.length:=by rw[List.size_toArray];exact r.length.symm
 refine⟨"tuple", _,PyProof.Rows.slot_tuple_getitem.lookup,ht.typeIs,?_⟩
 refine HT.getItem_tuple_cut ht hs pl pu (by rw[hlen];exact hw) ?_ (by rw[hlen];exact hz)
 rw[hlen]
 refine⟨.ref s.heap.objs.size,_,I.laid (t':=s.toks) (o:=.tup (cutV xs lo hi)) (fun b ob q=>Heap.get?_push_of_some _ q) (Nat.le_refl _) ?_,rfl,q _ (I.hok.fresh (Nat.le_refl _))⟩
 exact⟨Nat.le_trans (cutV_length xs lo hi) hz,_,(r.drop (HT.sIx xs.length 0 lo)).take (HT.sIx xs.length xs.length hi - HT.sIx xs.length 0 lo),TupD.new _ _⟩
theorem Vals.nil_iff {xs:List V}{us:List Value}(r:Vals xs us):us=[]↔xs=[]:=by
 cases r with
 | nil=>simp
 | cons _ _=>simp
end
end L2
namespace L2
open PySem PySem.Spec PyProof.Rows
def ixN (n:Nat)(i:Int):Option Nat:=if 0≤i then(if i<n then some i.toNat else none) else if -(n:Int)≤i then some (i+n).toNat else none
def atI {α:Type}(xs:List α)(i:Int):Option α:=(ixN xs.length i).bind fun j=>xs[j]?
theorem ixN_seq {n:Nat}{i:Int}{j:Nat}(h:ixN n i=some j):seqIndex? i n=some j∧j<n∧-(n:Int)≤i∧i<n:=by
 unfold ixN at h
 by_cases h0:0≤i
 ·rw [if_pos h0] at h
  by_cases h1:i<n
  ·rw[if_pos h1] at h
   have e:i.toNat=j:=Option.some.inj h
   exact⟨by rw[seqIndex_of h0 h1,e],by omega,by omega,h1⟩
  ·rw[if_neg h1] at h;cases h
 ·rw [if_neg h0] at h
  by_cases h1:-(n:Int)≤i
  ·rw[if_pos h1] at h
   have e:(i+n).toNat=j:=Option.some.inj h
   exact⟨by rw[seqIndex_neg (by omega) h1,e],by omega,h1,by omega⟩
  ·rw[if_neg h1] at h;cases h
theorem atI_get {α:Type}{xs:List α}{i:Int}{v:α}(h:atI xs i=some v):∃j,seqIndex? i xs.length=some j∧xs[j]? = some v∧j<xs.length∧-(xs.length:Int)≤i∧i<xs.length:=by
 unfold atI at h
 cases e:ixN xs.length i with
 | none=>rw[e] at h;cases h
 | some j =>
  rw[e] at h
  obtain⟨h1,h2,h3,h4⟩:=ixN_seq e
  exact⟨j,h1,h,h2,h3,h4⟩
theorem atI_nat {α:Type}{xs:List α}{j:Nat}{v:α}(h:xs[j]? = some v):atI xs (j:Int)=some v:=by
 have hj:j<xs.length:=(List.getElem?_eq_some_iff.mp h).1
 have e:ixN xs.length (j:Int)=some j:=by
  unfold ixN
  rw[if_pos (by omega),if_pos (by omega)];simp
 unfold atI;rw[e];exact h
def PlainIx (b:Expr):Prop:=∀o i,subscripted b false o i=operate [o,i] (getItem o i)
def IxR (X:Cx)(r:R2):Prop :=
 ∀ (value slice:Expr) (pins:List (Addr×Obj)) (s:Shared) (σ:St) (H:Hp) (x y:V) (v u:Value) (Q:VK),Inv X pins σ H s→RelV x v→RelV y u→r x y H Q →
  subscripted slice false v u=operate [v,u] (getItem v u)→wpAny (model X.prog X.w) X.A (subscriptTail value slice v u) (EP X pins σ Q) X.xe s
def MtR (X:Cx)(id:String)(r:V→List V→Hp→VK→Prop):Prop :=
 ∀ (pins:List (Addr×Obj)) (s:Shared) (σ:St) (H:Hp) (x:V) (xs:List V) (v:Value) (us:List Value) (Q:VK),Inv X pins σ H s→RelV x v→Vals xs us→r x xs H Q →
  wpAny (model X.prog X.w) X.A (call (.builtin id) (v::us)) (EP X pins σ Q) X.xe s
section
variable {X:Cx}{a b:Expr}{ta tb:TE}{pos:Pos}
theorem IxR.or {r r':R2}(h:IxR X r)(h':IxR X r'):IxR X (fun x y H Q=>r x y H Q∨r' x y H Q):=by
 intro value slice pins s σ H x y v u Q I rx ry q hs
 rcases q with q|q
 ·exact h value slice pins s σ H x y v u Q I rx ry q hs
 ·exact h' value slice pins s σ H x y v u Q I rx ry q hs
theorem pe_ix {r:R2}(hr:IxR X r)(ha:PE X a ta)(hb:PE X b tb)(hs:PlainIx b):PE X (.Subscript a b pos) (tOp r ta tb):=by
 intro pins s σ H Q I h
 exact Subscript_ (binT ha hb I h fun v u s2 x y H2 I2 rx ry q=>hr a b pins s2 σ H2 x y v u Q I2 rx ry q (hs _ _))
def rIxL (K:PySem.W.Frag):R2:=fun x y H Q=>∃p xs i v,x=.ref p∧y=.int i∧SqL K H p xs∧atI xs i=some v∧Q v H
def rIxT (K:PySem.W.Frag):R2:=fun x y H Q=>∃p xs i v,x=.ref p∧y=.int i∧SqT K H p xs∧atI xs i=some v∧Q v H
def rIxS:R2:=fun x y H Q=>∃z i c,x=.str z∧y=.int i∧z.length≤sizeLine∧atI z.cps.toList i=some c∧Q (.str ⟨#[c]⟩) H
theorem ix_list:IxR X (rIxL X.K):=by
 intro value slice pins s σ H x y v u Q I rx ry h hs
 obtain⟨p,xs,i,z,rfl,rfl,hq,he,q⟩:=h
 cases rx
 obtain⟨t,rfl⟩:=ry
 obtain⟨its,r,pl,hz⟩:=I.list hq
 obtain⟨j,h1,h2,h3,h4,h5⟩:=atI_get he
 obtain⟨w,ew,rw'⟩:=r.get h2
 have hl:=r.length
 have hn:=line63
 have fin:EP X pins σ Q w s:=⟨z,H,I,rw',q⟩
 by_cases h0:0≤i
 ·have hj:i.toNat=j:=by
   rw[seqIndex_of h0 h5] at h1
   exact Option.some.inj h1
  exact item_listR pl.isList h0 (by omega) (by rw[hj];simpa using ew) fin hs
 ·have hj:(i+(its.toArray.size:Int)).toNat=j:=by
   rw[seqIndex_neg (by omega) h4] at h1
   rw[List.size_toArray,← hl]
   exact Option.some.inj h1
  exact subscriptTail_builtinR (x:=w) pl.isList.typeIs slot_list_getitem.lookup
   (wpAny_getItem_list_neg (Q:=fun r s'=>r=w∧EP X pins σ Q r s') pl.isList (by omega) (by rw[List.size_toArray] <;>omega) (by omega) (by rw[hj];simpa using ew) ⟨rfl,fin⟩) hs
theorem ix_tup:IxR X (rIxT X.K):=by
 intro value slice pins s σ H x y v u Q I rx ry h hs
 obtain⟨p,xs,i,z,rfl,rfl,hq,he,q⟩:=h
 cases rx
 obtain⟨t,rfl⟩:=ry
 obtain⟨its,r,pl,hz⟩:=I.tuple hq
 obtain⟨j,h1,h2,h3,h4,h5⟩:=atI_get he
 obtain⟨w,ew,rw'⟩:=r.get h2
 have hl:=r.length
 have hn:=line63
 have fin:EP X pins σ Q w s:=⟨z,H,I,rw',q⟩
 exact subscriptTail_builtinR (x:=w) pl.typeIs slot_tuple_getitem.lookup
  (getItem_tuple (j:=j) (Q:=fun r s'=>r=w∧EP X pins σ Q r s') pl (by omega) (by omega) (by rw[List.size_toArray,← hl];exact h1) (by simpa using ew) ⟨rfl,fin⟩) hs
theorem ix_str:IxR X rIxS:=by
 intro value slice pins s σ H x y v u Q I rx ry h hs
 obtain⟨z,i,c,rfl,rfl,hz,he,q⟩:=h
 obtain⟨t,rfl⟩:=rx
 obtain⟨t',rfl⟩:=ry
 obtain⟨j,h1,h2,h3,h4,h5⟩:=atI_get he
 have hl:z.cps.toList.length=z.length:=by simp[Str.length]
 rw[hl] at h1 h4 h5
 have hn:=line63
 exact tail_any (typeIs_str s z t) slot_str_getitem.lookup (getItem_str (c:=c) (by
  have e1:decide (i < -(2 ^ 63:Int))=false:=decide_eq_false (by omega)
  have e2:decide (i≥2 ^ 63)=false:=decide_eq_false (by omega)
  rw[e1,e2,Bool.or_false]) (by rw[h1];simpa using h2) ⟨.str ⟨#[c]⟩,H,I.tok _,⟨_,rfl⟩,q⟩) hs
def rIx (K:PySem.W.Frag):R2:=fun x y H Q=>rIxL K x y H Q∨rIxT K x y H Q∨rIxS x y H Q
theorem ix_seq:IxR X (rIx X.K):=ix_list.or (ix_tup.or ix_str)
theorem Inv.lst {pins:List (Addr×Obj)}{σ:St}{H:Hp}{s:Shared}{p:Addr}{xs:List V}(I:Inv X pins σ H s)(h:H p=some (.lst xs)) :
  ∃(its:List Value) (n:Nat),Vals xs its∧s.heap.get? p=some {cls:=.type "list", data:=.seq its.toArray n}∧xs.length≤sizeLine:=by
 obtain⟨z,its,n,r,e⟩:=I.hok p _ h
 exact⟨its,n,r,e,z⟩
theorem slice_bounds (lo hi:Option Int)(n:Nat):(sliceBounds lo hi none n).1=((HT.sIx n 0 lo:Nat):Int)∧(sliceBounds lo hi none n).2.1=((HT.sIx n n hi:Nat):Int)∧(sliceBounds lo hi none n).2.2=1:=by
 refine⟨?_,?_,rfl⟩
 ·cases lo with
  | none=>simp[sliceBounds,HT.sIx]
  | some i =>
   simp only[sliceBounds,HT.sIx,Option.getD_none,show(1:Int) > 0 by decide,if_true]
   by_cases h:i<0
   ·simp only[h,if_true] <;>omega
   ·simp only[h,if_false] <;>omega
 ·cases hi with
  | none=>simp[sliceBounds,HT.sIx]
  | some i =>
   simp only[sliceBounds,HT.sIx,Option.getD_none,show(1:Int) > 0 by decide,if_true]
   by_cases h:i<0
   ·simp only[h,if_true] <;>omega
   ·simp only[h,if_false] <;>omega
theorem slicePick_cut (its:List Value)(lo hi:Option Int):slicePick its.toArray lo hi none=((its.drop (HT.sIx its.length 0 lo)).take (HT.sIx its.length its.length hi - HT.sIx its.length 0 lo)).toArray:=by
 obtain⟨h1,h2,h3⟩:=slice_bounds lo hi its.toArray.size
 unfold slicePick
 rw[h1,h2,h3]
 simp only[sliceRange_one,pick_run,List.size_toArray] <;>rfl
def rSlL (K:PySem.W.Frag):V→Option Int→Option Int→Hp→VK→Prop:=fun x lo hi H Q=>∃a xs,x=.ref a∧SqL K H a xs∧∀p,H p=none→Q (.ref p) (upd H p (.lst (cutV xs lo hi)))
theorem sl_list:SlR X (rSlL X.K):=by
 intro pins s σ H x v vl vu lo hi sl Q I rx hs pl pu h
 obtain⟨a,xs,rfl,hx,q⟩:=h
 cases rx
 obtain⟨its,r,ht,hz⟩:=I.list hx
 have hlen:=r.length
 refine⟨"list", _,slot_list_getitem.lookup,ht.isList.typeIs,?_⟩
 refine wpAny_getItem_list_slice ht.isList hs pl pu .none (by simp) ?_ (by rw[List.size_toArray] <;>omega)
 rw[slicePick_cut,← hlen]
 refine⟨.ref s.heap.objs.size,_,I.laid (t':=s.toks) (o:=.lst (cutV xs lo hi)) (fun b ob q=>Heap.get?_push_of_some _ q) (Nat.le_refl _) ?_,rfl,q _ (I.hok.fresh (Nat.le_refl _))⟩
 exact⟨Nat.le_trans (cutV_length xs lo hi) hz,_,0,(r.drop (HT.sIx xs.length 0 lo)).take (HT.sIx xs.length xs.length hi - HT.sIx xs.length 0 lo),Heap.get?_push_size _ rfl⟩
def flatV:V→Bool
 | .non=>true
 | .bl _=>true
 | .int _=>true
 | .str _=>true
 | _=>false
def eqV:V→V→Bool
 | .non,.non=>true
 | .bl a,.bl b=>a == b
 | .bl a,.int b=>(if a then 1 else 0) == b
 | .int a,.bl b=>a == (if b then 1 else 0)
 | .int a,.int b=>a == b
 | .str a,.str b=>a == b
 | _,_=>false
theorem eqAt_V {A:Around}{s:Shared}{y x:V}{u v:Value}(ry:RelV y u)(rx:RelV x v)(fy:flatV y=true)(fx:flatV x=true):SeqAt.EqAt A s u v (eqV y x):=by
 cases y with
 | non =>
  cases ry
  cases x with
  | non=>cases rx;exact SeqAt.EqAt.same _
  | bl b=>cases rx;exact SeqAt.EqAt.none_bool b
  | int b=>obtain⟨t,rfl⟩:=rx;exact SeqAt.EqAt.none_int b t
  | str b=>obtain⟨t,rfl⟩:=rx;exact SeqAt.EqAt.none_str b t
  | _=>exact absurd (show false=true from fx) Bool.false_ne_true
 | bl a =>
  cases ry
  cases x with
  | non=>cases rx;exact SeqAt.EqAt.bool_none a
  | bl b=>cases rx;exact SeqAt.EqAt.bool_bool a b
  | int b=>obtain⟨t,rfl⟩:=rx;exact SeqAt.EqAt.bool_int a b t
  | str b=>obtain⟨t,rfl⟩:=rx;exact SeqAt.EqAt.bool_str a b t
  | _=>exact absurd (show false=true from fx) Bool.false_ne_true
 | int a =>
  obtain⟨t',rfl⟩:=ry
  cases x with
  | non=>cases rx;exact SeqAt.EqAt.int_none a t'
  | bl b=>cases rx;exact SeqAt.EqAt.int_bool a t' b
  | int b=>obtain⟨t,rfl⟩:=rx;exact SeqAt.EqAt.int_int a t' b t
  | str b=>obtain⟨t,rfl⟩:=rx;exact SeqAt.EqAt.int_str a t' b t
  | _=>exact absurd (show false=true from fx) Bool.false_ne_true
 | str a =>
  obtain⟨t',rfl⟩:=ry
  cases x with
  | non=>cases rx;exact SeqAt.EqAt.str_none a t'
  | bl b=>cases rx;exact SeqAt.EqAt.str_bool a t' b
  | int b=>obtain⟨t,rfl⟩:=rx;exact SeqAt.EqAt.str_int a t' b t
  | str b=>obtain⟨t,rfl⟩:=rx;exact SeqAt.EqAt.str_str a t' b t
  | _=>exact absurd (show false=true from fx) Bool.false_ne_true
 | _=>exact absurd (show false=true from fy) Bool.false_ne_true
def eqU (x:V)(u:Value):Bool:=match u with
 | .none=>eqV .non x
 | .bool b=>eqV (.bl b) x
 | .int i _=>eqV (.int i) x
 | .str z _=>eqV (.str z) x
 | _=>false
theorem eqU_of {x y:V}{u:Value}(r:RelV y u)(f:flatV y=true):eqU x u=eqV y x:=by
 cases y with
 | non=>cases r;rfl
 | bl b=>cases r;rfl
 | int i=>obtain⟨t,rfl⟩:=r;rfl
 | str z=>obtain⟨t,rfl⟩:=r;rfl
 | _=>exact absurd (show false=true from f) Bool.false_ne_true
theorem mem_eqAt {A:Around}{s:Shared}{x:V}{v:Value}(rx:RelV x v)(fx:flatV x=true):∀{xs:List V}{us:List Value},Vals xs us→xs.all flatV=true→∀u∈us,SeqAt.EqAt A s u v (eqU x u)
 | _,_,.nil,_=>fun u hu=>by cases hu
 | y::xs,u::us,.cons r t,f=>fun u' hu=>by
  rw[List.all_cons,Bool.and_eq_true] at f
  rcases List.mem_cons.mp hu with rfl|hu
  ·rw[eqU_of r f.1];exact eqAt_V r rx f.1 fx
  ·exact mem_eqAt rx fx t f.2 u' hu
theorem call_tuple_of:CallR X (.type "tuple") (fun xs H Q=>∃p ys,xs=[.ref p]∧((SqL X.K H p ys∧∀l,H l=none→Q (.ref l) (upd H l (.tup ys)))∨(SqT X.K H p ys∧Q (.ref p) H))):=by
 intro pins s σ H xs us Q I r h
 obtain⟨p,ys,rfl,h⟩:=h
 obtain⟨u,rfl,rx⟩:=vals1 r
 cases rx
 rcases h with⟨hq,q⟩|⟨hq,q⟩
 ·obtain ⟨its,r',pl,hz⟩:=I.list hq
  have hlen:=r'.length
  refine call_tuple_list pl.isList (fun h' kp=>?_) (by simp only[List.size_toArray] <;>omega)
  have I1:Inv X pins σ H {s with heap:=h'}:=I.kept (t':=s.toks) kp
  have I2:Inv X pins σ (upd H h'.objs.size (.tup ys)) {s with heap:=h'.push {cls:=.type "tuple", data:=.seq its.toArray} } :=
   I1.laid (t':=s.toks) (fun b o e=>Heap.get?_push_of_some _ e) (Nat.le_refl _) (show ObjOk X.prog X.w _ _ _ (.tup ys) from⟨hz,its,r',TupD.new _ _⟩)
  exact⟨.ref h'.objs.size,_,I2,rfl,q _ (I1.hok.fresh (Nat.le_refl _))⟩
 ·obtain⟨its,r',pl,hz⟩:=I.tuple hq
  exact call_tuple_same pl ⟨.ref p,H,I,rfl,q⟩
def tyV (K:PySem.W.Frag)(T:String)(x:V)(H:Hp):Prop:=match x with
 | .str _=>T = "str"
 | .int _=>T = "int"
 | .ref p=>(T = "list" ∧ ∃xs,SqL K H p xs)∨(T = "tuple" ∧ ∃o,K.lookup p=some o∧o.cls=.type "tuple" ∧ o.dict=none) ∨
   (T = "dict" ∧ ((∃kvs,H p=some (.dK kvs))∨∃kvs,H p=some (.dT kvs)))∨(T = "set" ∧ ∃S n,H p=some (.set S n))
 | _=>False
theorem tyV_is {pins:List (Addr×Obj)}{σ:St}{H:Hp}{s:Shared}{T:String}{x:V}{v:Value}(I:Inv X pins σ H s)(r:RelV x v)(ty:tyV X.K T x H) :
  s.TypeIs v T∧∀a,v=.ref a→∃ob,s.heap.get? a=some ob∧ob.dict=none:=by
 cases x with
 | str z =>
  obtain⟨t,rfl⟩:=r
  cases (show T = "str" from ty)
  exact⟨typeIs_str s z t,fun _ e=>nomatch e⟩
 | int i =>
  obtain⟨t,rfl⟩:=r
  cases (show T = "int" from ty)
  exact⟨typeIs_int s i t,fun _ e=>nomatch e⟩
 | ref p =>
  cases r
  rcases ty with⟨rfl,xs,hq⟩|⟨rfl,o,hk,hc,hd⟩|⟨rfl,hk⟩|⟨rfl,S,n,hk⟩
  ·obtain⟨its,_,pl,_⟩:=I.list hq
   refine⟨pl.isList.typeIs,fun a e=>?_⟩
   cases e
   obtain⟨o,n,e,c,hd,_⟩:=pl
   exact⟨o,e,hd⟩
  ·refine⟨⟨o,I.kIn p o hk,hc⟩,fun a e=>?_⟩
   cases e
   exact⟨o,I.kIn _ o hk,hd⟩
  ·have z:∃o,s.heap.get? p=some o∧o.ExactDict:=by
    rcases hk with⟨kvs,hk⟩|⟨kvs,hk⟩
    ·obtain⟨_,_,_,_,o,_,_,e,ex,_⟩:=I.hok p _ hk
     exact⟨o,e,ex⟩
    ·obtain⟨_,_,_,_,o,_,_,e,ex,_⟩:=I.hok p _ hk
     exact⟨o,e,ex⟩
   obtain⟨o,e,ex⟩:=z
   refine⟨⟨o,e,ex.1⟩,fun a e2=>?_⟩
   cases e2
   exact⟨o,e,ex.2.1⟩
  ·obtain⟨o,_,_,_,e,ex,_⟩:=I.hok p _ hk
   refine⟨⟨o,e,ex.1⟩,fun a e2=>?_⟩
   cases e2
   exact⟨o,e,ex.2.1⟩
 | _=>exact False.elim ty
def tBM (K:PySem.W.Frag)(T:String)(r:V→List V→Hp→VK→Prop)(to:TE)(t:TA):TE:=fun σ H Q=>to σ H fun x H1=>tyV K T x H1∧t σ H1 fun xs H2=>r x xs H2 Q
variable {o e:Expr}{es:List Expr}{to:TE}{t:TA}{name:Str}{apos cpos:Pos}{T id:String}{r:V→List V→Hp→VK→Prop}
theorem pe_bm (pa:PlainAttrs T)(slot:Slot T name id)(hty:typeOf (.builtin id)=pure (.type "method_descriptor"))(hm:MtR X id r)(ho:PE X o to)(ha:PA X (e::es) t)
  (hbase:attributeBase o name X.env (eval o X.env)=eval o X.env:=by rfl)
  (hfew:((backTo cpos (starEach (e::es) X.env)).all (fun x=>!x.1)&&(backToKw cpos (keywordEach [] X.env)).all (fun x=>x.1.isSome)
   && decide ((e::es).length+([]:List Keyword).length+(if ([]:List Keyword).isEmpty then 0 else 1)<30))=true:=by rfl)
  (hline:(apos.endLine == cpos.line)=true:=by rfl) (hs:starEach (e::es) X.env=(false,eval e X.env)::starEach es X.env:=by rfl) (hplain:(backTo cpos (starEach es X.env)).any (·.1)=false:=by rfl) :
  PE X (.Call (.Attribute o name apos) (e::es) [] cpos) (tBM X.K T r to t):=by
 intro pins s σ H Q I h
 refine wpAny_Call_method_late hbase hfew hline rfl (thn (ho pins s σ H _ I h) fun v s1 hq25=>?_)
 obtain⟨x,H1,I1,r1,ty,q1⟩:=hq25
 obtain⟨h1,h2⟩:=tyV_is I1 r1 ty
 refine⟨T,id,pa,slot,hty,h1,h2,?_⟩
 have hA:=ha cpos pins s1 σ H1 _ I1 q1
 rw[hs] at hA ⊢
 refine Calls.callWith_builtin (by show(false || (backTo cpos (starEach es X.env)).any (·.1))=false;rw[hplain] <;>rfl) (Calls.evalArgs_plain ?_)
 exact thn hA fun us s2 ⟨vs,H2,I2,r2,q2⟩=>hm pins s2 σ H2 x vs v us Q I2 r1 r2 q2
/- xs.append(e), list.index on a module's tuple .. are MtR facts of 06m -/
end
end L2
namespace L2
open PySem PySem.Spec PyProof.Rows
def MtM (X:Cx)(id:String)(r:V→List V→Hp→VK→Prop):Prop :=
 ∀ (pins:List (Addr×Obj)) (s:Shared) (σ:St) (H:Hp) (x:V) (xs:List V) (v:Value) (us:List Value) (Q:VK),Inv X pins σ H s→RelV x v→Vals xs us→r x xs H Q →
  wpAny (model X.prog X.w) X.A (call (.builtin id) (v::us)) (EP X pins σ Q) X.xe s
theorem Vals.one:∀{x:V}{us:List Value},Vals [x] us→∃u,us=[u]∧RelV x u:=by
 intro x us h
 cases h with
 | cons r t=>cases t;exact⟨_,rfl,r⟩
theorem Vals.dropLast {xs:List V}{us:List Value}(h:Vals xs us):Vals xs.dropLast us.dropLast:=by
 induction h with
 | nil=>exact .nil
 | cons r t ih =>
  cases t with
  | nil=>exact .nil
  | cons q t'=>exact .cons r ih
theorem Vals.eraseIdx:∀{xs:List V}{us:List Value} (i:Nat),Vals xs us→Vals (xs.eraseIdx i) (us.eraseIdx i)
 | _,_,_,.nil=>.nil
 | _,_,0,.cons _ t=>t
 | _,_,i+1,.cons r t=>.cons r (Vals.eraseIdx i t)
theorem Vals.reverse {xs:List V}{us:List Value}(h:Vals xs us):Vals xs.reverse us.reverse:=by
 induction h with
 | nil=>exact .nil
 | cons r t ih=>rw[List.reverse_cons,List.reverse_cons];exact Vals.append ih (.cons r .nil)
theorem len_erase {α:Type}:∀(l:List α) (i:Nat),(l.eraseIdx i).length≤l.length
 | [],_=>Nat.le_refl _
 | _::_,0=>Nat.le_succ _
 | _::r,i+1=>Nat.succ_le_succ (len_erase r i)
section
variable {X:Cx}{pins:List (Addr×Obj)}{σ:St}{H:Hp}{s:Shared}{l b:Addr}{xs ys zs:List V}
theorem Inv.lset {its its':List Value}{n:Nat}{f:Array Value→Array Value}{t':Nat}(I:Inv X pins σ H s)(hH:H l=some (.lst xs))
  (e:s.heap.get? l=some {cls:=.type "list", data:=.seq its.toArray n}) (hf:f its.toArray=its'.toArray) (hv:Vals ys its') (hz:ys.length≤sizeLine) :
  Inv X pins σ (upd H l (.lst ys)) {s with heap:=s.heap.update l (Obj.mapSeq f),toks:=t'}:=by
 have q:=PySem.IsL.update e f
 rw[hf] at q
 refine I.write (x:=l) (e:=l) (by rw[hH];exact trivial) (.inl rfl) (fun b' u hb hu=>(Heap.get?_update_other s.heap (Obj.mapSeq f) (Ne.symm hb)).trans hu) ⟨_,q⟩ ?_
 exact⟨hz,its',_,hv,q⟩
theorem Inv.lnew {its:List Value}{t':Nat}(I:Inv X pins σ H s)(hv:Vals ys its)(hz:ys.length≤sizeLine) :
  Inv X pins σ (upd H s.heap.objs.size (.lst ys)) {s with heap:=s.heap.push {cls:=.type "list", data:=.seq its.toArray},toks:=t'} :=
 I.laid (fun _ _ q=>Heap.get?_push_of_some _ q) (Nat.le_refl _) ⟨hz,its,0,hv,Heap.get?_push_size _ rfl⟩
theorem Inv.fresh (I:Inv X pins σ H s):H s.heap.objs.size=none:=I.hok.fresh (Nat.le_refl _)
theorem Inv.lstM (I:Inv X pins σ H s)(hH:H l=some (.lst xs)):xs.length≤sizeLine∧∃(its:List Value) (n:Nat),Vals xs its∧xs.length=its.length∧s.heap.get? l=some {cls:=.type "list", data:=.seq its.toArray n}:=by
 obtain⟨z,its,n,r,e⟩:=I.hok l _ hH
 exact⟨z,its,n,r,r.length,e⟩
end
section
variable {X:Cx}
def rAppend:V→List V→Hp→VK→Prop:=fun x vs H Q=>∃l xs y,x=.ref l∧vs=[y]∧H l=some (.lst xs)∧xs.length<sizeLine∧Q .non (upd H l (.lst (xs++[y])))
theorem mt_append:MtM X "list.append" rAppend:=by
 intro pins s σ H x vs v us Q I rx rv h
 obtain⟨l,xs,y,rfl,rfl,hH,hz,q⟩:=h
 cases rx
 obtain⟨u,rfl,ru⟩:=rv.one
 obtain⟨z,its,n,r,hl,e⟩:=I.lstM hH
 refine call_meets F.slot_list_append ⟨_,e,rfl⟩ F.entry_list_append (F.args_list_append_2 _ _) (PySem.list_append l its.toArray n u (by rw[List.size_toArray];omega)) ⟨e,?_⟩
 refine⟨.non,_,I.lset (its':=its++[u]) hH e (by simp) (r.append (.cons ru .nil)) ?_,rfl,q⟩
 rw[List.length_append,List.length_singleton]
 omega
def rPopAt:V→List V→Hp→VK→Prop:=fun x vs H Q=>∃l xs i k y,x=.ref l∧vs=[.int i]∧H l=some (.lst xs)∧-(2 ^ 63)≤i∧i<2 ^ 63∧seqIndex? i xs.length=some k∧xs[k]? = some y∧Q y (upd H l (.lst (xs.eraseIdx k)))
theorem mt_popAt:MtM X "list.pop" rPopAt:=by
 intro pins s σ H x vs v us Q I rx rv h
 obtain⟨l,xs,i,k,y,rfl,rfl,hH,h1,h2,hk,hy,q⟩:=h
 cases rx
 obtain⟨u,rfl,ru⟩:=rv.one
 obtain⟨t,rfl⟩:=ru
 obtain⟨z,its,n,r,hl,e⟩:=I.lstM hH
 obtain⟨w,hw,rw'⟩:=r.get hy
 refine call_meets F.slot_list_pop ⟨_,e,rfl⟩ F.entry_list_pop (F.args_list_pop_2 _ _)
  (MeetsSeq.list_pop_at l its.toArray n i t k w (fitsIndex_both h1 h2) (by rw[List.size_toArray,← hl];exact hk) (by rw[← Array.getElem?_toList];exact hw) (by rw[List.size_toArray];omega)) ⟨e,?_⟩
 refine⟨y,_,I.lset (its':=its.eraseIdx k) hH e ?_ (r.eraseIdx k) ?_,rw',q⟩
 ·show its.toArray.eraseIdxIfInBounds k=(its.eraseIdx k).toArray
  rw[List.eraseIdxIfInBounds_toArray]
 ·have:=len_erase xs k
  omega
end
end L2
namespace L2
open PySem PySem.Spec PyProof.Rows
section
variable {κ:Type} [DecidableEq κ]
def valV (kvs:List (κ×V))(k:κ):Option V:=(kvs.find? fun kv=>decide (kv.1=k)).map (·.2)
def putK (kvs:List (κ×V))(k:κ)(v:V):List (κ×V) :=
 if (kvs.any fun kv=>decide (kv.1=k))=true then kvs.map (fun kv=>if kv.1=k then(kv.1,v) else kv) else kvs++[(k,v)]
def dropK (kvs:List (κ×V))(k:κ):List (κ×V):=kvs.filter fun kv=>decide (kv.1≠k)
theorem valV_pos {p:κ×V}{r:List (κ×V)}{k:κ}(e:p.1=k):valV (p::r) k=some p.2:=by simp[valV,List.find?_cons,e]
theorem valV_neg {p:κ×V}{r:List (κ×V)}{k:κ}(e:¬p.1=k):valV (p::r) k=valV r k:=by simp[valV,List.find?_cons,e]
theorem valV_any (k:κ):∀kvs:List (κ×V),(kvs.any fun kv=>decide (kv.1=k))=(valV kvs k).isSome
 | []=>rfl
 | p::r=>by
  rw[List.any_cons]
  by_cases e:p.1=k
  ·simp only[valV_pos e,decide_eq_true e,Bool.true_or,Option.isSome_some]
  ·rw[valV_neg e,decide_eq_false e,Bool.false_or];exact valV_any k r
theorem length_putK (kvs:List (κ×V))(k:κ)(v:V):(putK kvs k v).length≤kvs.length+1:=by
 unfold putK
 split
 ·rw[List.length_map];omega
 ·rw[List.length_append,List.length_cons,List.length_nil];omega
theorem RelO.isSome_eq {o:Option V}{u:Option Value}(r:RelO o u):o.isSome=u.isSome:=by
 cases o with
 | none=>cases u with
  | none=>rfl
  | some _=>exact(show False from r).elim
 | some _=>cases u with
  | none=>exact(show False from r).elim
  | some _=>rfl
theorem RelO.getD {o:Option V}{u:Option Value}{d:V}{d':Value}(r:RelO o u)(rd:RelV d d'):RelV (o.getD d) (u.getD d'):=by
 cases o with
 | none=>cases u with
  | none=>exact rd
  | some _=>exact(show False from r).elim
 | some _=>cases u with
  | none=>exact(show False from r).elim
  | some _=>exact r
theorem KV.val {kvs:List (κ×V)}{vs:List (κ×Value)}(r:KV kvs vs)(k:κ):RelO (valV kvs k) (valueAt vs k):=by
 unfold KV at r
 induction r with
 | nil=>exact True.intro
 | @cons p q ps qs h t ih =>
  obtain⟨h1,h2⟩:=h
  by_cases e:p.1=k
  ·have e':q.1=k:=h1.symm.trans e
   have b:valueAt (q::qs) k=some q.2:=by simp[valueAt,List.find?_cons,e']
   rw[valV_pos e,b];exact h2
  ·have e':¬q.1=k:=fun z=>e (h1.trans z)
   have b:valueAt (q::qs) k=valueAt qs k:=by simp[valueAt,List.find?_cons,e']
   rw[valV_neg e,b];exact ih
theorem KV.any {kvs:List (κ×V)}{vs:List (κ×Value)}(r:KV kvs vs)(k:κ):(kvs.any fun kv=>decide (kv.1=k))=vs.any fun kv=>decide (kv.1=k):=by
 unfold KV at r
 induction r with
 | nil=>rfl
 | cons h t ih=>rw[List.any_cons,List.any_cons,ih,h.1]
theorem KV.repl {kvs:List (κ×V)}{vs:List (κ×Value)}(r:KV kvs vs)(k:κ){y:V}{u:Value}(ry:RelV y u) :
  KV (kvs.map fun kv=>if kv.1=k then(kv.1,y) else kv) (vs.map fun kv=>if kv.1=k then(kv.1,u) else kv):=by
 unfold KV at r ⊢
 induction r with
 | nil=>exact .nil
 | @cons p q ps qs h t ih =>
  rw[List.map_cons,List.map_cons]
  refine .cons ?_ ih
  obtain⟨h1,h2⟩:=h
  by_cases e:p.1=k
  ·rw[if_pos e,if_pos (h1.symm.trans e)];exact⟨h1,ry⟩
  ·rw[if_neg e,if_neg (fun z=>e (h1.trans z))];exact⟨h1,h2⟩
theorem KV.put {kvs:List (κ×V)}{vs:List (κ×Value)}(r:KV kvs vs)(k:κ){y:V}{u:Value}(ry:RelV y u):KV (putK kvs k y) (stored vs k u):=by
 unfold putK stored
 rw[r.any k]
 by_cases e:(vs.any fun kv=>decide (kv.1=k))=true
 ·rw[if_pos e,if_pos e];exact r.repl k ry
 ·rw[if_neg e,if_neg e];exact Paired.snoc r ⟨rfl,ry⟩
theorem KV.drop {kvs:List (κ×V)}{vs:List (κ×Value)}(r:KV kvs vs)(k:κ):KV (dropK kvs k) (without vs k):=by
 unfold KV at r ⊢
 unfold dropK without
 induction r with
 | nil=>exact .nil
 | @cons p q ps qs h t ih =>
  obtain⟨h1,h2⟩:=h
  rw[List.filter_cons,List.filter_cons]
  by_cases e:p.1=k
  ·have a:¬decide (p.1≠k)=true:=by simp[e]
   have b:¬decide (q.1≠k)=true:=by simp[h1.symm.trans e]
   rw[if_neg a,if_neg b];exact ih
  ·have e':¬q.1=k:=fun z=>e (h1.trans z)
   have a:decide (p.1≠k)=true:=by simp[e]
   have b:decide (q.1≠k)=true:=by simp[e']
   rw[if_pos a,if_pos b];exact .cons ⟨h1,h2⟩ ih
theorem KV.keys {kvs:List (κ×V)}{vs:List (κ×Value)}(r:KV kvs vs):kvs.map (·.1)=vs.map (·.1):=by
 unfold KV at r
 induction r with
 | nil=>rfl
 | cons h t ih=>rw[List.map_cons,List.map_cons,ih,h.1]
theorem KV.length {kvs:List (κ×V)}{vs:List (κ×Value)}(r:KV kvs vs):kvs.length=vs.length:=Paired.length r
end
theorem kV_is {P:Program}{w:World}{k:Key}{u:Value}(r:RelV (kV k) u):(mixKind P w).is k u=true:=by
 cases k with
 | inl i=>obtain⟨t,e⟩:=(show ∃t,u=Value.int i t from r);subst e;exact mixKind_int P w i t
 | inr x=>obtain⟨t,e⟩:=(show ∃t,u=Value.str x t from r);subst e;exact mixKind_str P w x t
theorem items_are {P:Program}{w:World}:∀{ks:List Key}{us:List Value},Vals (ks.map kV) us→ItemsAre (mixKind P w) ks us
 | [],_,r=>by rw[List.map_nil] at r;cases r;exact .nil
 | k::ks,_,r=>by
  rw[List.map_cons] at r
  cases r with
  | cons h t=>exact .cons (kV_is h) (items_are t)
abbrev KT (H:Hp):List (List Key×V)→List (List Key×Addr×Value)→Prop:=Paired fun p q=>p.1=q.1∧H q.2.1=some (.tup (p.1.map kV))∧RelV p.2 q.2.2
theorem KT.val {H:Hp}{kvs:List (List Key×V)}{xs:List (List Key×Addr×Value)}(r:KT H kvs xs)(k:List Key):RelO (valV kvs k) ((atKey xs k).map (·.2)):=by
 induction r with
 | nil=>exact True.intro
 | @cons p q ps qs h t ih =>
  obtain⟨h1,_,h2⟩:=h
  by_cases e:p.1=k
  ·have e':q.1=k:=h1.symm.trans e
   have b:atKey (q::qs) k=some q.2:=by simp[atKey,List.find?_cons,e']
   rw[valV_pos e,b];exact h2
  ·have e':¬q.1=k:=fun z=>e (h1.trans z)
   have b:atKey (q::qs) k=atKey qs k:=by simp[atKey,List.find?_cons,e']
   rw[valV_neg e,b];exact ih
theorem KT.repl {H:Hp}{kvs:List (List Key×V)}{xs:List (List Key×Addr×Value)}(r:KT H kvs xs)(k:List Key){y:V}{u:Value}(ry:RelV y u) :
  KT H (kvs.map fun kv=>if kv.1=k then(kv.1,y) else kv) (xs.map (putAt k u)):=by
 induction r with
 | nil=>exact .nil
 | @cons p q ps qs h t ih =>
  rw[List.map_cons,List.map_cons]
  refine .cons ?_ ih
  obtain⟨h1,h2,h3⟩:=h
  unfold putAt
  by_cases e:p.1=k
  ·rw[if_pos e,if_pos (h1.symm.trans e)];exact⟨h1,h2,ry⟩
  ·rw[if_neg e,if_neg (fun z=>e (h1.trans z))];exact⟨h1,h2,h3⟩
theorem KT.put {H:Hp}{kvs:List (List Key×V)}{xs:List (List Key×Addr×Value)}(r:KT H kvs xs)(k:List Key){b:Addr}{y:V}{u:Value}(hb:H b=some (.tup (k.map kV)))(ry:RelV y u) :
  KT H (putK kvs k y) (storedH xs k b u):=by
 have e:(kvs.any fun kv=>decide (kv.1=k))=(atKey xs k).isSome:=by
  rw[valV_any,(r.val k).isSome_eq,Option.isSome_map]
 unfold putK storedH
 rw[e]
 by_cases q:(atKey xs k).isSome=true
 ·rw[if_pos q,if_pos q];exact r.repl k ry
 ·rw[if_neg q,if_neg q];exact Paired.snoc r ⟨rfl,hb,ry⟩
theorem KT.keeps {H H':Hp}{kvs:List (List Key×V)}{xs:List (List Key×Addr×Value)}(r:KT H kvs xs)(ht:∀b ys,H b=some (.tup ys)→H' b=some (.tup ys)):KT H' kvs xs :=
 Paired.mapP r fun _ _ z=>⟨z.1,ht _ _ z.2.1,z.2.2⟩
section
variable {P:Program}{w:World}{H:Hp}{h:Heap}{a:Addr}
theorem rd_of {u:HO}(ok:HOk P w H h)(e:Rd H a u):ObjOk P w H h a u:=e.ok ok
theorem dk_rd {kvs:List (Key×V)}(ok:HOk P w H h)(e:Rd H a (.dK kvs)):kvs.length≤sizeLine∧(a == sysModules)=false∧∃vs,KV kvs vs∧h.DictOf (mixKind P w) a vs :=
 show ObjOk P w H h a (.dK kvs) from rd_of ok e
theorem dk_of {kvs:List (Key×V)}(ok:HOk P w H h)(e:H a=some (.dK kvs)):kvs.length≤sizeLine∧(a == sysModules)=false∧∃vs,KV kvs vs∧h.DictOf (mixKind P w) a vs:=dk_rd ok (.inl e)
theorem key_of {ks:List Key}(ok:HOk P w H h)(e:H a=some (.tup (ks.map kV))):(tupleKind (mixKind P w)).is h ks a:=by
 obtain⟨_,its,r,o,h1,h2,⟨n,h3⟩,_⟩:=(show ObjOk P w H h a (.tup (ks.map kV)) from ok a _ e)
 exact⟨o,its.toArray,n,h1,h2,h3,by simpa using items_are r⟩
theorem dt_rd {kvs:List (List Key×V)}(ok:HOk P w H h)(e:Rd H a (.dT kvs)):kvs.length≤sizeLine∧(a == sysModules)=false ∧
  ∃xs,KT H kvs xs∧h.DictOfH (tupleKind (mixKind P w)) a xs:=by
 obtain⟨z,y,xs,r,o,es,ep,h1,h2,h3,h4,h5⟩:=(show ObjOk P w H h a (.dT kvs) from rd_of ok e)
 refine⟨z,y,xs,r,o,es,ep,h1,h2,h3,h4,fun x hx=>?_,h5⟩
 have all:∀{l:List (List Key×V)}{m:List (List Key×Addr×Value)},KT H l m→∀x∈m,(tupleKind (mixKind P w)).is h x.1 x.2.1:=by
  intro l m q
  induction q with
  | nil=>intro x hx;exact nomatch hx
  | @cons p q ps qs hq t ih =>
   intro x hx
   rcases List.mem_cons.mp hx with e|hx
   ·subst e
    exact key_of ok (by rw[← hq.1];exact hq.2.1)
   ·exact ih x hx
 exact all r x hx
theorem dt_of {kvs:List (List Key×V)}(ok:HOk P w H h)(e:H a=some (.dT kvs)):kvs.length≤sizeLine∧(a == sysModules)=false ∧
  ∃xs,KT H kvs xs∧h.DictOfH (tupleKind (mixKind P w)) a xs:=dt_rd ok (.inl e)
end
def DGet (H:Hp)(a:Addr)(y:V)(r:Option V):Prop :=
 (∃kvs k,Rd H a (.dK kvs)∧y=kV k∧r=valV kvs k)∨∃kvs k b,Rd H a (.dT kvs)∧y=.ref b∧H b=some (.tup (k.map kV))∧r=valV kvs k
def DPut (H:Hp)(a:Addr)(y v:V)(H':Hp):Prop :=
 (∃kvs k,H a=some (.dK kvs)∧y=kV k∧kvs.length<sizeLine∧H'=upd H a (.dK (putK kvs k v))) ∨
 ∃kvs k b,H a=some (.dT kvs)∧y=.ref b∧H b=some (.tup (k.map kV))∧kvs.length<sizeLine∧H'=upd H a (.dT (putK kvs k v))
theorem DGet.k {H:Hp}{a:Addr}{kvs:List (Key×V)}{k:Key}(e:H a=some (.dK kvs)):DGet H a (kV k) (valV kvs k):=.inl ⟨kvs,k,.inl e,rfl,rfl⟩
theorem DPut.k {H:Hp}{a:Addr}{kvs:List (Key×V)}{k:Key}{v:V}(e:H a=some (.dK kvs))(hl:kvs.length<sizeLine):DPut H a (kV k) v (upd H a (.dK (putK kvs k v))):=.inl ⟨kvs,k,e,rfl,hl,rfl⟩
section
variable {X:Cx}{pins:List (Addr×Obj)}{σ:St}{H:Hp}{s:Shared}{a:Addr}{y v:V}{u r:Value}{o:Option V}{A:Around}{E:Value→Shared→Prop}
theorem Inv.big (I:Inv X pins σ H s):sysModules<s.heap.objs.size:=by
 have h:mainGlobals<s.heap.objs.size:=(I.mod.glob.keeps I.bk).lt
 exact Nat.lt_trans (by decide) h
theorem d_getItem {Q:Value→Shared→Prop}(hu:A.units+1<cLine)(I:Inv X pins σ H s)(g:DGet H a y (some v))(ry:RelV y u)(h:∀w' s',Inv X pins σ H s'→RelV v w'→Q w' s') :
  wpAny (model X.prog X.w) A (getItem (.ref a) u) Q E s:=by
 rcases g with⟨kvs,k,e,ey,l⟩|⟨kvs,k,b,e,ey,eb,l⟩
 ·subst ey
  obtain⟨z,hd,vs,rel,dd⟩:=dk_rd I.hok e
  obtain⟨w',hw,rw'⟩:=RelO.some_of (v:=v) (o:=valueAt vs k) (by rw[l];exact rel.val k)
  exact wpAny_getItem_of (kV_is ry) dd.mapOf hw (h w' _ (I.tok _) rw')
 ·subst ey
  cases (show u=Value.ref b from ry)
  obtain⟨z,hd,xs,rel,dd⟩:=dt_rd I.hok e
  obtain⟨w',hw,rw'⟩:=RelO.some_of (v:=v) (o:=(atKey xs k).map (·.2)) (by rw[l];exact rel.val k)
  obtain⟨p,hp,hp2⟩:=Option.map_eq_some_iff.mp hw
  refine wpAny_getItem_heap (tupleKind_room_in1 hu) (key_of I.hok eb) dd hp ?_
  rw[hp2]
  exact h w' _ (I.tok _) rw'
theorem d_write {h':Heap}{t':Nat}{ob:HO}(I:Inv X pins σ H s)(mu:Mut (H a))(hs:Heap.SameBut a s.heap h')(he:∃q,h'.get? a=some q)(new:ObjOk X.prog X.w (upd H a ob) h' a ob) :
  Inv X pins σ (upd H a ob) {s with heap:=h',toks:=t'} :=
 I.write (x:=a) (e:=a) mu (.inl rfl) (fun b q hb z=>(hs.2 b hb).trans z) he new
theorem dk_new {P:Program}{w:World}{H':Hp}{h':Heap}{kvs:List (Key×V)}{vs:List (Key×Value)}(z:kvs.length≤sizeLine)(hd:(a == sysModules)=false)(rel:KV kvs vs)(dd:h'.DictOf (mixKind P w) a vs) :
  ObjOk P w H' h' a (.dK kvs):=⟨z,hd,vs,rel,dd⟩
theorem d_setItem {H':Hp}{Q:Unit→Shared→Prop}(hu:A.units+1<cLine)(I:Inv X pins σ H s)(g:DPut H a y v H')(ry:RelV y u)(rv:RelV v r)(h:∀s',Inv X pins σ H' s'→Q () s') :
  wpAny (model X.prog X.w) A (setItem (.ref a) u r) Q E s:=by
 rcases g with⟨kvs,k,e,ey,l,eH⟩|⟨kvs,k,b,e,ey,eb,l,eH⟩
 ·subst ey eH
  obtain⟨z,hd,vs,rel,dd⟩:=dk_of I.hok e
  have hz:vs.length≤sizeLine:=by rw[← rel.length];exact z
  have hl:(putK kvs k v).length≤sizeLine:=by have:=length_putK kvs k v;omega
  refine wpAny_setItem_pairs (hsz:=hz) (kV_is ry) dd fun h' dd' hs=>h _ ?_
  have he:∃q,h'.get? a=some q:=let ⟨q,_,_,hq,_⟩:=dd';⟨q,hq⟩
  exact d_write I (by rw[e];exact True.intro) hs he (dk_new hl hd (rel.put k rv) dd')
 ·subst ey eH
  cases (show u=Value.ref b from ry)
  obtain⟨z,hd,xs,rel,dd⟩:=dt_of I.hok e
  have hz:xs.length≤sizeLine:=by rw[← Paired.length rel];exact z
  have hl:(putK kvs k v).length≤sizeLine:=by have:=length_putK kvs k v;omega
  refine wpAny_setItem_heap (hsz:=hz) (tupleKind_room_in1 hu) (key_of I.hok eb) dd fun h' dd' hs=>h _ ?_
  obtain⟨q,es,ep,hq,h2,h3,h4,_,h5⟩:=dd'
  refine d_write I (by rw[e];exact True.intro) hs ⟨q,hq⟩ ⟨hl,hd,_,(rel.put k eb rv).keeps fun c ys ec=>?_,q,es,ep,hq,h2,h3,h4,h5⟩
  rw[upd_ne (ne_of ec e (fun z=>nomatch z))]
  exact ec
end
def NoSl (i:Expr):Prop:=∀ov iv,subscripted i false ov iv=operate [ov,iv] (getItem ov iv)
theorem subD_of {prog:Program}{w:World}{A:Around}{E:Value→Shared→Prop}{s:Shared}{env:Env}{value slice:Expr}{pos:Pos}{T id:String}{Q:Value→Shared→Prop}
  (hl:typeLookup (.type T) "__getitem__" = pure (some (.builtin id))) (hs:NoSl slice)
  (h:wpAny (model prog w) A (eval value env) (fun o s₁=>wpAny (model prog w) A (eval slice env) (fun i s₂=>s₂.TypeIs o T∧wpAny (model prog w) A (getItem o i) Q E s₂) E s₁) E s) :
  wpAny (model prog w) A (eval (.Subscript value slice pos) env) Q E s:=by
 refine Subscript_ (wpAny_mono h (fun o s₁ h₁=>wpAny_mono h₁ (fun i s₂ h₂=>?_) fun _ _ x=>x) fun _ _ x=>x)
 obtain⟨hT,h₂⟩:=h₂
 unfold subscriptTail
 refine wpAny_bind ?_
 rw[getitemInPython_of_ne hT.not_modules]
 refine wpAny_bind (wpAny_specialOf hT hl ?_)
 have fin:wpAny (model prog w) A (subscripted slice false o i) (fun r s₃=>wpAny (model prog w) A (letTemporaryGo value o r >>= fun _=>pure r) Q E s₃) E s₂:=by
  rw[hs o i]
  exact wpAny_operating (wpAny_mono h₂ (fun r s₃ h₃=>wpAny_bind (wpAny_letTemporaryGo (wpAny_pure h₃))) fun _ _ x=>x)
 first
  | exact wpAny_pure (wpAny_bind fin)
  | exact wpAny_bind (wpAny_pure (wpAny_bind fin))
  | exact wpAny_bind fin
theorem dict_typeIs {X:Cx}{pins:List (Addr×Obj)}{σ:St}{H:Hp}{s:Shared}{a:Addr}{y:V}{o:Option V}(I:Inv X pins σ H s)(g:DGet H a y o):s.TypeIs (.ref a) "dict" := by
 rcases g with⟨kvs,k,e,_,_⟩|⟨kvs,k,b,e,_,_,_⟩
 ·obtain⟨_,_,vs,_,dd⟩:=dk_rd I.hok e
  exact dd.typeIs
 ·obtain⟨_,_,xs,_,dd⟩:=dt_rd I.hok e
  exact dd.typeIs
def tDGet (td ty:TE):TE:=fun σ H Q=>td σ H fun x H1=>ty σ H1 fun y H2=>∃a v,x=.ref a∧DGet H2 a y (some v)∧Q v H2
def sDPut (td ty tv:TE):TS:=fun D σ H=>tv σ H fun v H1=>td σ H1 fun x H2=>ty σ H2 fun y H3=>∃a H4,x=.ref a∧DPut H3 a y v H4∧D.nx σ H4
section
variable {X:Cx}{o i e value:Expr}{pos pos' tpos:Pos}{td ty tv:TE}
theorem pe_dget (hu:X.A.units+1<cLine)(ho:PE X o td)(hi:PE X i ty)(hs:NoSl i):PE X (.Subscript o i pos) (tDGet td ty):=by
 intro pins s σ H Q I h
 refine subD_of PySem.F.slot_dict_getitem.lookup hs (thn (ho pins s σ H _ I h) fun u s1 ⟨x,H1,I1,rx,q1⟩=>thn (hi pins s1 σ H1 _ I1 q1) fun iv s2 hq26=>?_)
 obtain⟨y,H2,I2,ry,a,v,ex,g,q2⟩:=hq26
 subst ex
 obtain rfl:u=Value.ref a:=rx
 exact⟨dict_typeIs I2 g,d_getItem hu I2 g ry fun w' s3 I3 rw'=>⟨v,H2,I3,rw',q2⟩⟩
theorem ps_dput (hu:X.A.units+1<cLine)(ho:PE X o td)(hi:PE X i ty)(hv:PE X value tv)(hs:swapsWith value (some (.Subscript o i pos')) pos.line X.env=pure false) :
  PS X (.Assign [.Subscript o i pos'] value pos) (sDPut td ty tv):=by
 intro pins s σ H D I h
 refine wpAny_Assign_Subscript (thn (hv pins s σ H _ I h) fun r s1 ⟨v,H1,I1,rv,q1⟩=>thn (ho pins s1 σ H1 _ I1 q1) fun u s2 ⟨x,H2,I2,rx,q2⟩=>thn (hi pins s2 σ H2 _ I2 q2) fun iv s3 ⟨y,H3,I3,ry,a,H4,ex,g,q3⟩=>?_) hs
 subst ex
 obtain rfl:u=Value.ref a:=rx
 exact d_setItem hu I3 g ry rv fun s4 I4=>⟨σ,H4,I4,q3⟩
end
theorem dk_empty {P:Program}{w:World}{H:Hp}(h:Heap)(hb:sysModules<h.objs.size):ObjOk P w H (h.push {cls:=.type "dict", data:=.dict #[]}) h.objs.size (.dK []) :=
 ⟨Nat.zero_le _,beq_eq_false_iff_ne.mpr (Ne.symm (Nat.ne_of_lt hb)),[],.nil,Heap.DictOf.new h⟩
def tDNewK:TE:=fun _ H Q=>∀p,H p=none→Q (.ref p) (upd H p (.dK []))
section
variable {X:Cx}{pos:Pos}
theorem pe_dnewK:PE X (.Dict [] [] pos) tDNewK:=fun pins s σ H Q I h =>
 wpAny_Dict_empty ⟨.ref s.heap.objs.size,_,I.laid (a:=s.heap.objs.size) (o:=.dK []) (t':=s.toks) (fun _ _ q=>Heap.get?_push_of_some _ q) (Nat.le_refl _) (dk_empty s.heap I.big),rfl,h _ (I.hok.fresh (Nat.le_refl _))⟩
end
def mergeK (kvs more:List (Key×V)):List (Key×V):=more.foldl (fun acc kv=>putK acc kv.1 kv.2) kvs
theorem KV.merge:∀{more:List (Key×V)}{rs:List (Key×Value)}{kvs:List (Key×V)}{vs:List (Key×Value)},KV more rs→KV kvs vs→KV (mergeK kvs more) (merged vs rs):=by
 intro more rs kvs vs r
 unfold KV at r
 induction r generalizing kvs vs with
 | nil=>intro q;exact q
 | @cons p q ps qs h t ih =>
  intro r0
  have e:KV (putK kvs p.1 p.2) (stored vs q.1 q.2):=by
   have:=r0.put p.1 h.2
   rw[← h.1];exact this
  exact ih e
theorem length_mergeK:∀(more kvs:List (Key×V)),(mergeK kvs more).length≤kvs.length+more.length
 | [],kvs=>by show kvs.length≤kvs.length+0;omega
 | p::r,kvs=>by
  have h1:=length_mergeK r (putK kvs p.1 p.2)
  have h2:=length_putK kvs p.1 p.2
  show(mergeK (putK kvs p.1 p.2) r).length≤_
  rw[List.length_cons];omega
end L2
namespace Att
open PySem PySem.W PySem.Calls PyProof.Rows
theorem ints_of_wellAll {P:Params}{h:Heap}:∀(ns:List Int) (vs:List Value),WellAll P h vs (ns.map WData.int)→IntsAre vs ns:=by
 intro ns
 induction ns with
 | nil =>
  intro vs w
  rw[List.map_nil] at w
  cases w
  exact .nil
 | cons n ns ih =>
  intro vs w
  rw[List.map_cons] at w
  cases w with
  | cons a b =>
   cases a
   exact .cons _ _ (ih _ b)
theorem script_of {l:OpenLaw}{n:Nat}(hn:l.most=some n){P:Params}{h:Heap}{args:List WData}{vals:List Value}
  (hpre:l.row.toRowW.claim.pre args=true) (hwl:WellAll P h vals args) :
  ∃a vs ns,vals=[Value.ref a]∧args=[WData.list (ns.map WData.int)]∧h.get? a=some {cls:=.type "list", data:=.seq vs.toArray}∧IntsAre vs ns∧ns.length≤n:=by
 have hsh:WShape.hasAll [] args [.list .int]=true:=(pre_splitW hpre).1
 have hc:l.pre.holds [] {args:=args}=true:=(pre_splitW hpre).2
 obtain⟨d,r,rfl,h1,h2⟩:=hasAllW_cons hsh
 obtain rfl:=hasAllW_nil h2
 obtain⟨xs,rfl,h3⟩:=hasW_list h1
 obtain⟨ns,rfl⟩:=items_int h3
 have hlen:ns.length≤n:=by
  unfold OpenLaw.pre at hc
  have h4:(WTm.not (.lt (.lit (.int (n:Int))) (.len (.arg 0)))).holds [] {args:=[.list (ns.map .int)]}=true:=by
   have h4:=(holds_andW hc).1
   rw[hn] at h4
   exact h4
  have h5:=condW_of h4 (w_not (w_lt w_lit (w_len_list (w_arg rfl))))
  rw[List.length_map] at h5
  refine Nat.le_of_not_lt fun q=>?_
  have q':(n:Int)<((ns.length:Nat):Int):=by omega
  first
   | (rw[decide_eq_true q'] at h5;exact absurd h5 (by decide))
   | (simp at h5;omega)
 cases hwl with
 | cons w1 w2 =>
  cases w2
  cases w1 with
  | list ho hall=>exact⟨_,_,ns,rfl,rfl,ho,ints_of_wellAll ns _ hall,hlen⟩
theorem post_true (l:OpenLaw)(args:List WData):l.row.toRowW.claim.post args (.bool true) args=true :=
 postW_of (r:=l.row.toRowW) (X:=(true == true))
  (show WShape.has [] (.bool true) .bool=true by first|rfl|decide|simp[WShape.has,WShape.arms,WShape.armsAll])
  (show(WTm.eq .res (.lit (.bool true))).value [] {args:=args,res:=some (.bool true),after:=args}=some (.bool (true == true)) from w_eq_bool (w_res rfl) w_lit) rfl
theorem attach_call {l:OpenLaw}{n:Nat}{q:Program}{loose:List Str}{XP:(Str→Option Value)→Heap→Prop}{YP:World→Heap→Prop}{d:DefRec}
  (hn:l.most=some n) (hdf:d.params.defaults=[])
  (call:∀(w:World) (s₀ s₁:Shared) (mg mb:Str→Option Value) (fa:Addr) (o:Obj) (pm cd doc:Value) (a:Addr) (vs:List Value) (ns:List Int),
   Ground q loose [] XP w s₀ mg mb s₁.heap→YP w s₁.heap →
   s₁.heap.get? fa=some o→o.data=.func (docDef d.name d.params d.body d.scope pm cd doc)→s₁.heap.CodeRec cd d.name→mg d.name=some (.ref fa) →
   s₁.heap.get? a=some {cls:=.type "list", data:=.seq vs.toArray}→IntsAre vs ns→ns.length≤n→s₁.gens = #[] →
   codeAny (model l.prog w) callerA (.call (.ref fa) ⟨[.ref a],[]⟩) (fun r s'=>r=.ok (.ret (.bool true))∧OldK s₁.heap s'.heap∧s'.os=s₁.os∧AllBare s'.gens) s₁) :
  WalkO q loose XP YP l.row.toRowW d [] (fun f vs=>PySem.call f vs):=by
 intro w s₀ s₁ mg mb G Y fa o pm cd doc dV kV ho hd hcd hD hmg hg args vals as hpre hlay hrd hwl hlo
 obtain rfl:dV=.none:=Dflts.none hD hdf
 obtain rfl:kV=.none:=Dflts.noKw hD
 obtain⟨a,vs,ns,rfl,rfl,hobj,hints,hlen⟩:=script_of hn hpre hwl
 refine enter_call (codeAny_mono (call w s₀ s₁ mg mb fa o pm cd doc a vs ns G Y ho (fd_plain hd) hcd hmg hobj hints hlen hg) fun r s' hq=>?_)
 obtain⟨rfl,h2,h3,h4⟩:=hq
 exact⟨.inl ⟨.bool true,.bool true,[],rfl,fun _=>rfl,.bool true,post_true l _,fun _=>⟨List.Pairwise.nil,fun _ hm=>(nomatch hm)⟩⟩,h2,h3,h4⟩
section
variable {prog:Program}{w:World}{A:Around}{E:Value→Shared→Prop}{s:Shared}{K:Frag}
end
end Att
namespace L2
open PySem PySem.Spec PyProof.Rows
theorem vals_ints:∀{vs:List Value}{ns:List Int},IntsAre vs ns→Vals (ns.map V.int) vs
 | _,_,.nil=>.nil
 | _,_,.cons n t h=>.cons ⟨t,rfl⟩ (vals_ints h)
def Only (H:Hp):Prop:=∀b,H b=none∨∃o xs,H b=some (.frz o (.lst xs))
theorem law_call {P:Program}{w:World}{K:PySem.W.Frag}{mg mb:Str→Option Value}{CX:CXT}{k:Nat}{fa a:Addr}{fd:FuncData}{x:Str}{sp:Sp}{s₁:Shared}{vs:List Value}{ns:List Int}
  (KX:K.In s₁.heap) (hns:s₁.heap.Ns mainGlobals mg) (hb:s₁.heap.Ns builtinsNs mb) (hbb:∀x:Str,x ≠ "__name__" → mb x=bootBuiltins x) (hlim:s₁.heap.NoLimit) (hg:s₁.gens = #[])
  (ha:s₁.heap.get? a=some {cls:=.type "list", data:=.seq vs.toArray}) (hi:IntsAre vs ns) (hl:ns.length≤sizeLine) (hr:Room k callerA)
  (F:∀base:Heap,K.In base→base.Ns mainGlobals mg→FnOk P w K mg base CX k fa fd [x] sp) (hbind:∀(s:Shared) (u:Value),BindsTo s fd ⟨[u],[]⟩ [(x,u)])
  (hsp:∀H:Hp,Only H→SqL K H a (ns.map V.int)→sp [.ref a] H (fun v _=>v=.bl true) fun _ _ _=>False)
  (hCX:∀H e s',CX [] H s₁ (fun _ _ _=>False) e s'→False) :
  codeAny (model P w) callerA (.call (.ref fa) ⟨[.ref a],[]⟩) (fun r s'=>r=.ok (.ret (.bool true))∧OldK s₁.heap s'.heap∧s'.os=s₁.os∧AllBare s'.gens) s₁:=by
 have rv:=vals_ints hi
 have lenV:=hi.length
 have core:∀H:Hp,Only H→SqL K H a (ns.map V.int)→HOk P w H s₁.heap→(∀b,H b≠none→b=a)→(H a≠none→K.lookup a=none) →
   codeAny (model P w) callerA (.call (.ref fa) ⟨[.ref a],[]⟩) (fun r s'=>r=.ok (.ret (.bool true))∧OldK s₁.heap s'.heap∧s'.os=s₁.os∧AllBare s'.gens) s₁:=by
  intro H hO hS hok hA hK
  have base_of:∀{b:Addr}{o:Obj},s₁.heap.get? b=some o→H b=none→(hidT s₁.heap H).get? b=some o:=fun e n=>hidT_get e n
  have noA:∀{b:Addr}{o:Obj}{es:Array DictEntry}{ep:Nat},s₁.heap.get? b=some o→o.data=.dict es ep→H b=none:=fun {b o es ep} e d=>by
   cases q:H b with
   | none=>rfl
   | some u =>
    have e':b=a:=hA b (by rw[q];simp)
    subst e'
    rw[ha] at e;cases e
    have d':Data.seq vs.toArray _=Data.dict es ep:=d
    cases d'
  have nsK:∀{b:Addr}{m:Str→Option Value},s₁.heap.Ns b m→(hidT s₁.heap H).Ns b m:=fun {b m} ⟨o,es,ep,e,d,r⟩=>⟨o,es,ep,base_of e (noA e d),d,r⟩
  have hKb:K.In (hidT s₁.heap H):=fun b o e=>base_of (KX b o e) (by
   cases q:H b with
   | none=>rfl
   | some u =>
    have e':b=a:=hA b (by rw[q];simp)
    subst e'
    rw[hK (by rw[q];simp)] at e;cases e)
  have hM:Mod K mg (hidT s₁.heap H):=⟨hKb,nsK hns,⟨mb,nsK hb,hbb⟩,let ⟨mc,h1,h2⟩:=hlim;⟨mc,nsK h1,h2⟩⟩
  have e0:Env0 P w K mg (hidT s₁.heap H) callerA [] s₁ H:=⟨rfl,hM,fun b o e=>of_hidT e,Nat.le_of_eq (hidT_size _ _),trivial,fun b hb=>absurd (show b∈([]:List Addr) from hb) (by simp),hok,.of_eq hg⟩
  refine codeAny_mono ((F _ hKb (nsK hns)).run callerA [] s₁ H ⟨[.ref a],[]⟩ [.ref a] [.ref a] _ _ hr e0 (hbind s₁ (.ref a)) (.cons rfl .nil) (hsp H hO hS)) fun r s' h=>?_
  cases r with
  | error e=>exact(hCX H e s' h).elim
  | ok fl =>
   cases fl with
   | next=>exact False.elim h
   | brk=>exact False.elim h
   | cont=>exact False.elim h
   | ret u =>
    obtain⟨v,H',os,bare,un,hok',r',q⟩:=h
    have q':v=.bl true:=q
    subst q'
    obtain rfl:u=Value.bool true:=r'
    refine⟨rfl,OldK.of_keep fun b o e=>?_,os,bare⟩
    cases q:H b with
    | none=>exact un.keep b o e q (by intro z;exact absurd (show b∈([]:List Addr) from z) (by simp)) (by simp)
    | some u =>
     rcases hO b with z|⟨ob,xs,z⟩
     ·rw[q] at z;cases z
     ·have z2:=un.frzs b ob _ z
      obtain⟨e1,_⟩:=hok b _ z
      obtain⟨e2,_⟩:=hok' b _ z2
      rw[e] at e1;cases e1
      exact e2
 cases hk:K.lookup a with
 | some o =>
  have e:=KX a o hk
  rw[ha] at e
  cases e
  refine core (fun _=>none) (fun _=>.inl rfl) (.inr ⟨_,vs.toArray,_,hk,rfl,rfl,rfl,by rw[List.size_toArray,lenV];exact hl,by simpa using rv⟩) (fun b u z=>by have z':(none:Option HO)=some u:=z;cases z') (fun b z=>absurd rfl z) fun z=>absurd rfl z
 | none =>
  refine core (fun b=>if b=a then some (.frz {cls:=.type "list", data:=.seq vs.toArray} (.lst (ns.map V.int))) else none) (fun b=>?_) (.inl (.inr ⟨{cls:=.type "list", data:=.seq vs.toArray},if_pos rfl⟩)) (fun b u z=>?_) (fun b z=>?_) fun _=>hk
  ·by_cases hb:b=a
   ·exact .inr ⟨_,_,if_pos hb⟩
   ·exact .inl (if_neg hb)
  ·by_cases hb:b=a
   ·have z':=(if_pos hb).symm.trans z
    cases z'
    subst hb
    exact⟨ha,by rw[List.length_map];exact hl,vs,_,rv,ha⟩
   ·have z':=(if_neg hb).symm.trans z
    cases z'
  ·by_cases hb:b=a
   ·exact hb
   ·exact absurd (if_neg hb) z
end L2
namespace L2
open PySem PySem.Spec PyProof.Rows
theorem walk_of {l:PySem.W.OpenLaw}{n k:Nat}{q:Program}{loose:List Str}{XP:(Str→Option Value)→Heap→Prop}{YP:World→Heap→Prop}{d:DefRec}{K:Params→PySem.W.Frag}{CX:World→CXT}{sp:World→Sp}{x:Str}
  (hn:l.most=some n) (hn2:n≤sizeLine) (hdf:d.params.defaults=[]) (hr:Room k callerA)
  (hY:∀(w:World) (h:Heap),YP w h→(K w.params).In h)
  (F : ∀(w:World) (mg:Str→Option Value) (fa:Addr) (h:Heap),(K w.params).In h→h.Ns mainGlobals mg→mg d.name=some (.ref fa) →
   ∃ fd:FuncData,(∀(s:Shared) (u:Value),BindsTo s fd ⟨[u],[]⟩ [(x,u)]) ∧
    ∀base:Heap,(K w.params).In base→base.Ns mainGlobals mg→FnOk l.prog w (K w.params) mg base (CX w) k fa fd [x] (sp w))
  (hsp:∀(w:World) (H:Hp) (a:Addr) (ns:List Int),ns.length≤n→Only H→SqL (K w.params) H a (ns.map V.int)→sp w [.ref a] H (fun v _=>v=.bl true) fun _ _ _=>False)
  (hCX:∀(w:World) (H:Hp) (s:Shared) (e:Value) (s':Shared),CX w [] H s (fun _ _ _=>False) e s'→False) :
  PySem.W.WalkO q loose XP YP l.row.toRowW d [] (fun f vs=>PySem.call f vs):=by
 refine Att.attach_call hn hdf fun w s₀ s₁ mg mb fa o pm cd doc a vs ns G Y ho hd hcd hmg hobj hints hlen hg=>?_
 have KX:=hY w _ Y
 obtain⟨fd,hb,hF⟩:=F w mg fa _ KX G.T.g hmg
 exact law_call KX G.T.g G.T.b G.T.builtins G.T.nolimit hg hobj hints (Nat.le_trans hlen hn2) hr hF hb (fun H hO hS=>hsp w H a ns hlen hO hS) fun H e s'=>hCX w H s₁ e s'
end L2
namespace L2
open PySem PySem.Spec PyProof.Rows
def defArgs (s:Stmt):Arguments:=match s with
 | .FunctionDef _ a _ _ _ _ _ _ _ _=>a
 | _=>{posonlyargs:=[],args:=[],vararg:=none,kwonlyargs:=[],kw_defaults:=[],kwarg:=none,defaults:=[]}
def defBody (s:Stmt):List Stmt:=match s with
 | .FunctionDef _ _ b _ _ _ _ _ _ _=>b
 | _=>[]
def defScope (s:Stmt):Scope:=match s with
 | .FunctionDef _ _ _ _ _ _ sc _ _ _=>sc
 | _=>{kind:=.function,names:=[],isGenerator:=false,isCoroutine:=false}
abbrev CX0:CXT:=fun _ _ _ _ _ _=>False
abbrev E0:XK:=fun _ _ _=>False
structure Fun (K:PySem.W.Frag)(x qual:Str)(st:Stmt)(f:Addr)(fd:FuncData):Prop where
 ex:∃(oc:Value) (od:Option Addr) (kV doc pm:Value) (an:Option Addr) (cdv ct:Value) (osl:Array (Option Value)),
  fd=PySem.W.fnOf x qual (defArgs st) (defBody st) (defScope st) .none kV doc pm an cdv ct∧K.lookup f=some ⟨oc,od,.func fd,osl⟩∧PySem.W.codeIn K cdv qual=true
 kp:PySem.W.keepIn K (.ref f)=true
section
variable {P:Program}{w:World}{K:PySem.W.Frag}{mg:Str→Option Value}{base:Heap}
theorem Fun.ok {x qual:Str}{st:Stmt}{f:Addr}{fd:FuncData}{N ps:List Str}{k:Nat}{sp:Sp}(F:Fun K x qual st f fd)(S:FnScope N ps (defScope st))(len:∀vs H Q E,sp vs H Q E→vs.length=ps.length)
  (hbody:∀(cdv:Value) (A:Around) (outer:List Env) (s:Shared) (H:Hp) (vs:List V) (Q:VK) (E:XK),Room k (A.deeper (envOfC qual (defScope st) s.heap.objs.size f cdv))→sp vs H Q E →
   ∃t,PSs (cxOf CX0 P w K mg base N qual (defScope st) f cdv A outer s H E).nox (defBody st) t∧t {nx:=fun _ H'=>Q .non H',rt:=Q} (start N vs) H):FnOk P w K mg base CX0 (k+1) f fd ps sp:=by
 obtain⟨oc,od,kV,doc,pm,an,cdv,ct,osl,rfl,lk,hcd⟩:=F.ex
 refine fn_of lk hcd S len fun A outer s H vs Q E hr hsp=>?_
 obtain⟨t,h,q⟩:=hbody cdv A outer s H vs Q E hr hsp
 exact⟨t,h.nox,q⟩
theorem Fun.binds {x qual:Str}{st:Stmt}{f:Addr}{fd:FuncData}{ps:List Str}(F:Fun K x qual st f fd)
  (h:∀(kV doc pm:Value) (an:Option Addr) (cdv ct:Value) (us:List Value),us.length=ps.length→bindArgs (PySem.W.fnOf x qual (defArgs st) (defBody st) (defScope st) .none kV doc pm an cdv ct) ⟨us,[]⟩=pure (ps.zip us)):Binds K fd ps []:=by
 obtain⟨oc,od,kV,doc,pm,an,cdv,ct,osl,rfl,lk,hcd⟩:=F.ex
 exact .all (h kV doc pm an cdv ct)
theorem fun_mk {x qual:Str}{st:Stmt}{f:Addr}{oc:Value}{od an:Option Addr}{osl:Array (Option Value)}{kV doc pm cdv ct:Value}(l:K.lookup f=some ⟨oc,od,.func (PySem.W.fnOf x qual (defArgs st) (defBody st) (defScope st) .none kV doc pm an cdv ct),osl⟩)
  (c:PySem.W.codeIn K cdv qual=true) (k:PySem.W.keepIn K (.ref f)=true):Fun K x qual st f (PySem.W.fnOf x qual (defArgs st) (defBody st) (defScope st) .none kV doc pm an cdv ct):=⟨⟨oc,od,kV,doc,pm,an,cdv,ct,osl,rfl,l,c⟩,k⟩
end
theorem hu_of {A:Around}{k:Nat}(hr:Room k A):A.units+1<cLine:=Nat.lt_of_le_of_lt (Nat.add_le_add_left (by decide:1≤64) _) hr.units
section
variable {X:Cx}
theorem pv (i:Nat){x:Str}{pos:Pos}(hN:X.N[i]? = some x:=by rfl)(hv:Vis X.env.scope x:=by first|exact Or.inl rfl|exact Or.inr (Or.inl rfl)|exact Or.inr (Or.inr rfl))(hd:(x == ("__debug__" : Str))=false:=by decide)
  (hcd:(x == ("__classdict__" : Str))=false:=by decide):PE X (.Name x pos) (tVar i):=pe_var hN hv hd hcd
end
def Same (H H':Hp):Prop:=∀b o,H b=some o→H' b=some o
theorem Same.refl (H:Hp):Same H H:=fun _ _ h=>h
theorem Same.trans {H H1 H2:Hp}(a:Same H H1)(b:Same H1 H2):Same H H2:=fun c o h=>b c o (a c o h)
theorem Same.free {H H':Hp}(e:Same H H'){l:Addr}(h:H' l=Option.none):H l=Option.none:=by
 cases q:H l with
 | none=>rfl
 | some o =>
  rw[e l o q] at h
  cases h
theorem Same.seq {K:PySem.W.Frag}{H H':Hp}{a:Addr}{xs:List V}(e:Same H H')(h:SqL K H a xs):SqL K H' a xs:=by
 rcases h with(h|⟨o,h⟩)|h
 ·exact .inl (.inl (e _ _ h))
 ·exact .inl (.inr ⟨o,e _ _ h⟩)
 ·exact .inr h
end L2
namespace My
def low (u d:Int):Int×Int:=(u / (Int.gcd u d:Int),d / (Int.gcd u d:Int))
def addF (x y:Int×Int):Int×Int:=low (x.1*y.2+y.1*x.2) (x.2*y.2)
def lessF (x y:Int×Int):Bool:=decide (x.1*y.2<y.1*x.2)
theorem gcd_pos {u d:Int}(h:0<d):0<(Int.gcd u d:Int):=by
 have:0<Int.gcd u d:=Int.gcd_pos_of_ne_zero_right _ (by omega)
 omega
theorem low_spec {u d:Int}(hd:0<d):∃g:Int,0<g∧u=g*(low u d).1∧d=g*(low u d).2∧0<(low u d).2∧Int.gcd (low u d).1 (low u d).2=1:=by
 have hg:=gcd_pos (u:=u) hd
 refine⟨(Int.gcd u d:Int),hg,?_,?_,?_,?_⟩
 ·exact(Int.mul_ediv_cancel' (Int.gcd_dvd_left ..)).symm
 ·exact(Int.mul_ediv_cancel' (Int.gcd_dvd_right ..)).symm
 ·exact Int.ediv_pos_of_pos_of_dvd hd (Int.le_of_lt hg) (Int.gcd_dvd_right ..)
 ·have:=Int.gcd_ediv_gcd_ediv_gcd (i:=u) (j:=d) (by omega)
  exact this
theorem low_pos {u d:Int}(hd:0<d):0<(low u d).2:=by
 obtain⟨g,_,_,_,h,_⟩:=low_spec (u:=u) hd
 exact h
theorem low_nonneg {u d:Int}(hd:0<d)(hu:0≤u):0≤(low u d).1:=by
 obtain⟨g,hg,e,_,_,_⟩:=low_spec (u:=u) hd
 apply Classical.byContradiction
 intro h
 have:=Int.mul_neg_of_pos_of_neg hg (show(low u d).1<0 by omega)
 omega
theorem low_cross {u d:Int}(hd:0<d):u*(low u d).2=(low u d).1*d:=by
 obtain⟨g,_,e1,e2,_,_⟩:=low_spec (u:=u) hd
 have:(g*(low u d).1)*(low u d).2=(low u d).1*(g*(low u d).2):=by grind
 rw[← e1,← e2] at this
 exact this
theorem low_unique {a b c d:Int}(hb:0<b)(hd:0<d)(h1:Int.gcd a b=1)(h2:Int.gcd c d=1)(h:a*d=c*b):(a,b)=(c,d):=by
 have hbd:b ∣ d:=by
  have:b ∣ a*d:=⟨c,by rw[h,Int.mul_comm]⟩
  have q:=Int.dvd_gcd_mul_iff_dvd_mul.mpr this
  rw[Int.gcd_comm,h1] at q
  simpa using q
 have hdb:d ∣ b:=by
  have:d ∣ c*b:=⟨a,by rw[← h,Int.mul_comm]⟩
  have q:=Int.dvd_gcd_mul_iff_dvd_mul.mpr this
  rw[Int.gcd_comm,h2] at q
  simpa using q
 have e:b=d:=Int.dvd_antisymm (Int.le_of_lt hb) (Int.le_of_lt hd) hbd hdb
 subst e
 have:a=c:=Int.eq_of_mul_eq_mul_right (by omega) h
 rw[this]
theorem low_eq {a b c d:Int}(hb:0<b)(hd:0<d)(h:a*d=c*b):low a b=low c d:=by
 obtain⟨g,hg,e1,e2,p1,k1⟩:=low_spec (u:=a) hb
 obtain⟨g',hg',e3,e4,p2,k2⟩:=low_spec (u:=c) hd
 have key:∀x y z w:Int,a=g*x→b=g*y→c=g'*z→d=g'*w→x*w=z*y:=by
  intro x y z w e1 e2 e3 e4
  have hk:g*g'≠0:=by
   intro z0
   rcases Int.mul_eq_zero.mp z0 with q|q <;>omega
  apply Int.eq_of_mul_eq_mul_left hk
  have:g*x*(g'*w)=g'*z*(g*y):=by rw[← e1,← e2,← e3,← e4];exact h
  grind
 exact low_unique (a:=(low a b).1) (b:=(low a b).2) (c:=(low c d).1) (d:=(low c d).2) p1 p2 k1 k2 (key _ _ _ _ e1 e2 e3 e4)
theorem eq_low {a b c d:Int}(hb:0<b)(hd:0<d)(h:low a b=low c d):a*d=c*b:=by
 have h1:=low_cross (u:=a) hb
 have h2:=low_cross (u:=c) hd
 have p:=low_pos (u:=c) hd
 rw[h] at h1
 apply Int.eq_of_mul_eq_mul_right (show(low c d).2≠0 by omega)
 grind
theorem low_zero {d:Int}(hd:0<d):low 0 d=(0,1):=by
 have:low 0 d=low 0 1:=low_eq hd (by decide) (by simp)
 rw[this]
 rfl
theorem lessF_low {a b c d:Int}(hb:0<b)(hd:0<d):lessF (low a b) (low c d)=decide (a*d<c*b):=by
 obtain⟨g,hg,e1,e2,p1,k1⟩:=low_spec (u:=a) hb
 obtain⟨g',hg',e3,e4,p2,k2⟩:=low_spec (u:=c) hd
 unfold lessF
 generalize (low a b).1=x at *
 generalize (low a b).2=y at *
 generalize (low c d).1=z at *
 generalize (low c d).2=w at *
 subst e1 e2 e3 e4
 have hk:0<g*g':=Int.mul_pos hg hg'
 have q1:g*x*(g'*w)=(g*g')*(x*w):=by grind
 have q2:g'*z*(g*y)=(g*g')*(z*y):=by grind
 rw[q1,q2]
 rw[decide_eq_decide]
 constructor
 ·intro h;exact Int.mul_lt_mul_of_pos_left h hk
 ·intro h;exact Int.lt_of_mul_lt_mul_left h (Int.le_of_lt hk)
theorem low_le {u d:Int}(hd:0<d)(hu:0≤u):(low u d).1≤u∧(low u d).2≤d:=by
 obtain⟨g,hg,e1,e2,p1,k1⟩:=low_spec (u:=u) hd
 have h0:=low_nonneg hd hu
 constructor
 ·have:1*(low u d).1≤g*(low u d).1:=Int.mul_le_mul_of_nonneg_right (by omega) h0
  omega
 ·have:1*(low u d).2≤g*(low u d).2:=Int.mul_le_mul_of_nonneg_right (by omega) (by omega)
  omega
end My
namespace Zp
open PySem
section
variable {prog:Program}{w:World}{A:Around}{E:Value→Shared→Prop}{s:Shared}
theorem nextOf_tuple_item {it t:Addr}{i:Nat}{items}{x:Value}{Q:Value→Shared→Prop}(hit:s.heap.IsTupleIter it t i)
  (ht:s.heap.IsTuple t items) (hx:items[i]? = some x)
  (hQ:∀h',h'.IsTupleIter it t (i+1)→Heap.SameBut it s.heap h'→Q x {s with heap:=h'}) :
  wpAny (model prog w) A (Builtin.SmallTypes.nextOf (.ref it)) Q E s:=by
 obtain⟨o,ho,hc,hd⟩:=id hit
 obtain⟨ol,hol,_,nl,hdl⟩:=ht
 unfold Builtin.SmallTypes.nextOf
 refine wpAny_bind (wpAny_callSpecial?_slot (name:=Str.ofString "__next__") hit.typeIs F.slot_tuple_iterator_next
  (wpAny_call_entry F.slot_tuple_iterator_next hit.typeIs F.entry_tuple_iterator_next ?_ (F.args_tuple_iterator_next_1 _)))
 show wpAny _ _ (field (.ref it) 0 >>= _) _ _ s
 refine wpAny_bind (wpAny_field ho hd (x:=.ref t) rfl ?_)
 show wpAny _ _ (if (Value.ref t == Value.none)=true then _ else _) _ _ s
 rw[if_neg (show ¬((Value.ref t == Value.none)=true) from Bool.false_ne_true)]
 show wpAny _ _ (field (.ref it) 1 >>= _) _ _ s
 refine wpAny_bind (wpAny_field ho hd (x:=.int i 0) rfl ?_)
 show wpAny _ _ (seqItems? (.ref t) >>= _) _ _ s
 refine wpAny_bind (wpAny_seqItems hol hdl ?_)
 simp only[Int.toNat_natCast,hx]
 refine wpAny_bind (wpAny_setField ho hd (by simp) (wpAny_pure ⟨x,rfl,wpAny_pure (hQ _ ?_ (Heap.SameBut.update ..))⟩))
 exact ⟨_,Heap.get?_update_self _ ho (Obj.isFreed_of_fields (Obj.data_mapFields hd _)),(Obj.cls_mapFields ..).trans hc,by
  rw[Obj.data_mapFields hd];simp[rawInt]⟩
theorem nextOf_tuple_end {it t:Addr}{i:Nat}{items}{Q:Value→Shared→Prop}(hh:A.handled=none)
  (hit:s.heap.IsTupleIter it t i) (ht:s.heap.IsTuple t items) (hx:items[i]? = none)
  (hE:∀h' e,Heap.ExtBut it s.heap h'→(∃o,h'.get? e=some o∧o.cls=.type "StopIteration")→E (.ref e) {s with heap:=h'}) :
  wpAny (model prog w) A (Builtin.SmallTypes.nextOf (.ref it)) Q E s:=by
 obtain⟨o,ho,hc,hd⟩:=id hit
 obtain⟨ol,hol,_,nl,hdl⟩:=ht
 unfold Builtin.SmallTypes.nextOf
 refine wpAny_bind (wpAny_callSpecial?_slot (name:=Str.ofString "__next__") hit.typeIs F.slot_tuple_iterator_next
  (wpAny_call_entry F.slot_tuple_iterator_next hit.typeIs F.entry_tuple_iterator_next ?_ (F.args_tuple_iterator_next_1 _)))
 show wpAny _ _ (field (.ref it) 0 >>= _) _ _ s
 refine wpAny_bind (wpAny_field ho hd (x:=.ref t) rfl ?_)
 show wpAny _ _ (if (Value.ref t == Value.none)=true then _ else _) _ _ s
 rw[if_neg (show ¬((Value.ref t == Value.none)=true) from Bool.false_ne_true)]
 show wpAny _ _ (field (.ref it) 1 >>= _) _ _ s
 refine wpAny_bind (wpAny_field ho hd (x:=.int i 0) rfl ?_)
 show wpAny _ _ (seqItems? (.ref t) >>= _) _ _ s
 refine wpAny_bind (wpAny_seqItems hol hdl ?_)
 simp only[Int.toNat_natCast,hx]
 refine wpAny_bind (wpAny_rule (wpAny_bind (wpAny_setField ho hd (by simp) ?_)))
 show wpAny _ _ (newExc (.type "StopIteration") [] >>= _) _ _ _
 refine wpAny_bind ?_
 simp only[newExc,newTuple]
 refine wpAny_bind (wpAny_newObj_type ?_ (by size_fits))
 refine wpAny_bind (m:=firstArgMember _ _) (wpAny_of_eq (a:=Value.none) (by first|rfl|(simp only[firstArgMember];rfl)) ?_)
 refine wpAny_newObj_type ?_ (by size_fits)
 simp only[raiseNew]
 refine wpAny_bind (wpAny_handled ?_)
 first|rw[show A.in1.handled=none from hh] | rw[hh]
 refine wpAny_bind (wpAny_pure (wpAny_throw ?_))
 exact hE _ _ (((Heap.SameBut.update ..).extBut.push _).push _) ⟨_,Heap.get?_push_size _ rfl,rfl⟩
theorem nextOf_ascii_item {it:Addr}{x:Str}{t:Tok}{i c:Nat}{Q:Value→Shared→Prop}(hit:s.heap.IsStrIter it "str_ascii_iterator" x t i)(hx:x.cps[i]? = some c)
  (hQ:∀h',h'.IsStrIter it "str_ascii_iterator" x t (i+1)→Heap.SameBut it s.heap h'→Q (.str ⟨#[c]⟩ s.toks) {s with heap:=h',toks:=s.toks+1}) :
  wpAny (model prog w) A (Builtin.SmallTypes.nextOf (.ref it)) Q E s:=by
 obtain⟨o,ho,hc,hd⟩:=id hit
 unfold Builtin.SmallTypes.nextOf
 refine wpAny_bind (wpAny_callSpecial?_slot (name:=Str.ofString "__next__") hit.typeIs F.slot_str_ascii_iterator_next
  (wpAny_call_entry F.slot_str_ascii_iterator_next hit.typeIs F.entry_str_ascii_iterator_next ?_ (F.args_str_ascii_iterator_next_1 _)))
 show wpAny _ _ (field (.ref it) 0 >>= _) _ _ s
 refine wpAny_bind (wpAny_field ho hd (x:=.str x t) rfl ?_)
 show wpAny _ _ (field (.ref it) 1 >>= _) _ _ s
 refine wpAny_bind (wpAny_field ho hd (x:=.int i 0) rfl ?_)
 simp only[Int.toNat_natCast,hx]
 refine wpAny_bind (wpAny_setField ho hd (by simp) (wpAny_bind (wpAny_mkStr (wpAny_pure ⟨_,rfl,wpAny_pure (hQ _ ?_ (Heap.SameBut.update ..))⟩) (by show 1≤sizeLine;decide))))
 exact ⟨_,Heap.get?_update_self _ ho (Obj.isFreed_of_fields (Obj.data_mapFields hd _)),(Obj.cls_mapFields ..).trans hc,by
  rw[Obj.data_mapFields hd];simp[rawInt]⟩
theorem nextOf_ascii_end {it:Addr}{x:Str}{t:Tok}{i:Nat}{Q:Value→Shared→Prop}(hh:A.handled=none)
  (hit:s.heap.IsStrIter it "str_ascii_iterator" x t i) (hx:x.cps[i]? = none)
  (hE:∀h' e,Heap.ExtBut it s.heap h'→(∃o,h'.get? e=some o∧o.cls=.type "StopIteration")→E (.ref e) {s with heap:=h'}) :
  wpAny (model prog w) A (Builtin.SmallTypes.nextOf (.ref it)) Q E s:=by
 obtain⟨o,ho,hc,hd⟩:=id hit
 unfold Builtin.SmallTypes.nextOf
 refine wpAny_bind (wpAny_callSpecial?_slot (name:=Str.ofString "__next__") hit.typeIs F.slot_str_ascii_iterator_next
  (wpAny_call_entry F.slot_str_ascii_iterator_next hit.typeIs F.entry_str_ascii_iterator_next ?_ (F.args_str_ascii_iterator_next_1 _)))
 show wpAny _ _ (field (.ref it) 0 >>= _) _ _ s
 refine wpAny_bind (wpAny_field ho hd (x:=.str x t) rfl ?_)
 show wpAny _ _ (field (.ref it) 1 >>= _) _ _ s
 refine wpAny_bind (wpAny_field ho hd (x:=.int i 0) rfl ?_)
 simp only[Int.toNat_natCast,hx]
 refine wpAny_bind (wpAny_rule (wpAny_bind (wpAny_setField ho hd (by simp) (wpAny_bind (wpAny_letGo ?_)))))
 show wpAny _ _ (newExc (.type "StopIteration") [] >>= _) _ _ _
 refine wpAny_bind ?_
 simp only[newExc,newTuple]
 refine wpAny_bind (wpAny_newObj_type ?_ (by size_fits))
 refine wpAny_bind (m:=firstArgMember _ _) (wpAny_of_eq (a:=Value.none) (by first|rfl|(simp only[firstArgMember];rfl)) ?_)
 refine wpAny_newObj_type ?_ (by size_fits)
 simp only[raiseNew]
 refine wpAny_bind (wpAny_handled ?_)
 first|rw[show A.in1.handled=none from hh] | rw[hh]
 refine wpAny_bind (wpAny_pure (wpAny_throw ?_))
 exact hE _ _ (((Heap.SameBut.update ..).extBut.push _).push _) ⟨_,Heap.get?_push_size _ rfl,rfl⟩
end
abbrev IsZipF (h:Heap)(z TI TO:Addr)(f0 f1:Value):Prop :=
 h.get? z=some {cls:=.type "zip", dict:=none,data:=.fields #[f0,f1,.bool false,.ref TI,.ref TO],slots:=#[]}
structure Apart (z TI TO i1 i2:Addr):Prop where
 TIz:TI≠z
 TOz:TO≠z
 i1z:i1≠z
 i2z:i2≠z
 TITO:TI≠TO
 TIi1:TI≠i1
 TIi2:TI≠i2
 TOi1:TO≠i1
 TOi2:TO≠i2
 i12:i1≠i2
def Yields (prog:Program)(w:World)(A:Around)(it:Addr)(G:Heap→Prop)(P:Value→Prop)(S:Heap→Prop):Prop :=
 ∀ (s:Shared) (Q:Value→Shared→Prop) (E:Value→Shared→Prop),G s.heap→(∀x h' tk,P x→S h'→Heap.SameBut it s.heap h'→Q x {s with heap:=h',toks:=tk}) →
  wpAny (model prog w) A (Builtin.SmallTypes.nextOf (.ref it)) Q E s
def Ends (prog:Program)(w:World)(A:Around)(it:Addr)(G:Heap→Prop):Prop :=
 ∀ (s:Shared) (Q:Value→Shared→Prop) (E:Value→Shared→Prop),G s.heap→(∀h' e,Heap.ExtBut it s.heap h'→(∃o,h'.get? e=some o∧o.cls=.type "StopIteration")→E (.ref e) {s with heap:=h'}) →
  wpAny (model prog w) A (Builtin.SmallTypes.nextOf (.ref it)) Q E s
section
variable {prog:Program}{w:World}{A:Around}{E:Value→Shared→Prop}{s:Shared}
theorem next_item {z TI TO i1 i2:Addr}{a b f1:Value}{P1 P2:Value→Prop}{G1 G2 S1 S2:Heap→Prop}{Q:Value→Shared→Prop}(D:Apart z TI TO i1 i2)
  (hz:IsZipF s.heap z TI TO .none f1) (hTI:IsPair s.heap TI (.ref i1) (.ref i2)) (hTO:IsPair s.heap TO a b)
  (Y1:Yields prog w A i1 G1 P1 S1) (Y2:Yields prog w A i2 G2 P2 S2)
  (g1:∀h',(∀c o,c≠z→s.heap.get? c=some o→h'.get? c=some o)→G1 h') (g2:∀h',(∀c o,c≠z→c≠TO→c≠i1→s.heap.get? c=some o→h'.get? c=some o)→G2 h')
  (k1:∀h h',S1 h→(∀c o,c≠z→c≠TO→c≠i2→h.get? c=some o→h'.get? c=some o)→S1 h')
  (k2:∀h h',S2 h→(∀c o,c≠z→c≠TO→h.get? c=some o→h'.get? c=some o)→S2 h')
  (hQ:∀x y h' tk,P1 x→P2 y→IsZipF h' z TI TO (rawInt s.heap.objs.size) (.bool false)→IsPair h' TO x y→S1 h'→S2 h'→IsPair h' s.heap.objs.size x y→h'.objs.size=s.heap.objs.size+1 →
   (∀c o,c≠z→c≠TO→c≠i1→c≠i2→s.heap.get? c=some o→h'.get? c=some o)→Q (.ref s.heap.objs.size) {s with heap:=h',toks:=tk}) :
  wpAny (model prog w) A (Builtin.«zip.__next__» ⟨[.ref z],[]⟩) (fun fin s'=>∃v,fin=.done (.ret v)∧Q v s') E s:=by
 show wpAny _ _ (field (.ref z) 2 >>= _) _ _ _
 refine wpAny_bind (wpAny_field hz rfl (x:=.bool false) rfl ?_)
 show wpAny _ _ (field (.ref z) 3 >>= _) _ _ _
 refine wpAny_bind (wpAny_field hz rfl (x:=.ref TI) rfl ?_)
 refine wpAny_bind (wpAny_seqItems hTI rfl ?_)
 show wpAny _ _ (Builtin.SmallTypes.ownedTupleIsFree (.ref z) >>= _) _ _ _
 refine wpAny_bind ?_
 unfold Builtin.SmallTypes.ownedTupleIsFree
 refine wpAny_bind (wpAny_field hz rfl (x:=.none) rfl (wpAny_pure ?_))
 simp only[if_true]
 refine wpAny_bind (wpAny_rule ?_)
 refine wpAny_bind (wpAny_field hz rfl (x:=.ref TO) rfl ?_)
 refine wpAny_bind (wpAny_setField_rec hz (by simp) fun h₁ hz₁ hs₁=>?_)
 replace hz₁:IsZipF h₁ z TI TO .ellipsis f1:=hz₁
 refine wpAny_bind ?_
 simp only[List.zipIdx_cons,List.zipIdx_nil,List.forIn_cons,List.forIn_nil]
 refine wpAny_bind (wpAny_bind (wpAny_onRaise ?_))
 show wpAny _ _ (Builtin.SmallTypes.nextOf (.ref i1) >>= _) _ _ _
 refine wpAny_bind (Y1 _ _ _ (g1 _ fun c o hc e=>hs₁.extBut _ _ hc e) fun x h₂ tk₂ px st1 hs₂=>wpAny_pure ?_)
 have hTO₂:IsPair h₂ TO a b:=hs₂.extBut _ _ D.TOi1 (hs₁.extBut _ _ D.TOz hTO)
 refine wpAny_bind (wpAny_seqItems hTO₂ rfl ?_)
 refine wpAny_bind (wpAny_updateSeq_pair hTO₂ fun h₃ hTO₃ hs₃=>?_)
 replace hTO₃:IsPair h₃ TO x b:=hTO₃
 refine wpAny_bind (wpAny_letGo (wpAny_pure ?_))
 refine wpAny_bind (wpAny_bind (wpAny_onRaise ?_))
 show wpAny _ _ (Builtin.SmallTypes.nextOf (.ref i2) >>= _) _ _ _
 refine wpAny_bind (Y2 _ _ _ (g2 _ fun c o c1 c2 c3 e=>hs₃.extBut _ _ c2 (hs₂.extBut _ _ c3 (hs₁.extBut _ _ c1 e))) fun y h₄ tk₄ py st2 hs₄=>wpAny_pure ?_)
 have hTO₄:IsPair h₄ TO x b:=hs₄.extBut _ _ D.TOi2 hTO₃
 refine wpAny_bind (wpAny_seqItems hTO₄ rfl ?_)
 refine wpAny_bind (wpAny_updateSeq_pair hTO₄ fun h₅ hTO₅ hs₅=>?_)
 replace hTO₅:IsPair h₅ TO x y:=hTO₅
 refine wpAny_bind (wpAny_letGo (wpAny_pure (wpAny_pure ?_)))
 refine wpAny_bind (wpAny_seqItems hTO₅ rfl ?_)
 refine wpAny_bind (wpAny_newTuple ?_)
 have hsz:h₅.objs.size=s.heap.objs.size:=by rw[hs₅.1,hs₄.1,hs₃.1,hs₂.1,hs₁.1]
 have hz₅:IsZipF h₅ z TI TO .ellipsis f1:=hs₅.extBut _ _ D.TOz.symm (hs₄.extBut _ _ D.i2z.symm (hs₃.extBut _ _ D.TOz.symm (hs₂.extBut _ _ D.i1z.symm hz₁)))
 have hk₅:∀c o,c≠z→c≠TO→c≠i1→c≠i2→s.heap.get? c=some o→h₅.get? c=some o:=fun c o c1 c2 c3 c4 e =>
  hs₅.extBut _ _ c2 (hs₄.extBut _ _ c4 (hs₃.extBut _ _ c2 (hs₂.extBut _ _ c3 (hs₁.extBut _ _ c1 e))))
 have hzlt:z<h₅.objs.size:=Heap.lt_size hz₅
 show wpAny _ _ (Builtin.SmallTypes.ownedTupleHandOut (.ref z) (.ref h₅.objs.size) >>= _) _ _ _
 refine wpAny_bind ?_
 unfold Builtin.SmallTypes.ownedTupleHandOut
 have hz₆:IsZipF (h₅.push {cls:=.type "tuple", data:=.seq #[x,y]}) z TI TO .ellipsis f1:=Heap.get?_push_of_some _ hz₅
 refine wpAny_bind (wpAny_setField_rec hz₆ (by simp) fun h₇ hz₇ hs₇=>?_)
 replace hz₇:IsZipF h₇ z TI TO (rawInt h₅.objs.size) f1:=hz₇
 refine wpAny_setField_rec hz₇ (by simp) fun h₈ hz₈ hs₈=>?_
 replace hz₈:IsZipF h₈ z TI TO (rawInt h₅.objs.size) (.bool false):=hz₈
 have up:∀c o,c≠z→h₅.get? c=some o→h₈.get? c=some o:=fun c o c1 e=>hs₈.extBut _ _ c1 (hs₇.extBut _ _ c1 (Heap.get?_push_of_some _ e))
 have hT₈:IsPair h₈ h₅.objs.size x y:=hs₈.extBut _ _ (Nat.ne_of_gt hzlt) (hs₇.extBut _ _ (Nat.ne_of_gt hzlt) (Heap.get?_push_size _ rfl))
 have hz8:h₈.objs.size=h₅.objs.size+1:=by rw[hs₈.1,hs₇.1,Heap.size_push]
 have q1:S1 h₈:=k1 h₂ h₈ st1 fun c o c1 c2 c4 e=>up c o c1 (hs₅.extBut _ _ c2 (hs₄.extBut _ _ c4 (hs₃.extBut _ _ c2 e)))
 have q2:S2 h₈:=k2 h₄ h₈ st2 fun c o c1 c2 e=>up c o c1 (hs₅.extBut _ _ c2 e)
 rw[hsz] at hz₈ hT₈ hz8
 refine wpAny_pure ⟨_,rfl,?_⟩
 show Q (.ref h₅.objs.size) _
 rw[hsz]
 exact hQ x y h₈ _ px py hz₈ (up _ _ D.TOz hTO₅) q1 q2 hT₈ hz8 fun c o c1 c2 c3 c4 e=>up c o c1 (hk₅ c o c1 c2 c3 c4 e)
theorem next_end {z TI TO i1 i2:Addr}{a b f1:Value}{P1:Value→Prop}{G1 G2 S1:Heap→Prop}{Q:Fin→Shared→Prop}(D:Apart z TI TO i1 i2)
  (hz:IsZipF s.heap z TI TO .none f1) (hTI:IsPair s.heap TI (.ref i1) (.ref i2)) (hTO:IsPair s.heap TO a b)
  (hend:Ends prog w A i1 G1∨(Yields prog w A i1 G1 P1 S1∧Ends prog w A i2 G2))
  (g1:∀h',(∀c o,c≠z→s.heap.get? c=some o→h'.get? c=some o)→G1 h') (g2:∀h',(∀c o,c≠z→c≠TO→c≠i1→s.heap.get? c=some o→h'.get? c=some o)→G2 h')
  (hE:∀h' tk e,(∀c o,c≠z→c≠TO→c≠i1→c≠i2→s.heap.get? c=some o→h'.get? c=some o)→(∃o,h'.get? e=some o∧o.cls=.type "StopIteration")→E (.ref e) {s with heap:=h',toks:=tk}) :
  wpAny (model prog w) A (Builtin.«zip.__next__» ⟨[.ref z],[]⟩) Q E s:=by
 show wpAny _ _ (field (.ref z) 2 >>= _) _ _ _
 refine wpAny_bind (wpAny_field hz rfl (x:=.bool false) rfl ?_)
 show wpAny _ _ (field (.ref z) 3 >>= _) _ _ _
 refine wpAny_bind (wpAny_field hz rfl (x:=.ref TI) rfl ?_)
 refine wpAny_bind (wpAny_seqItems hTI rfl ?_)
 show wpAny _ _ (Builtin.SmallTypes.ownedTupleIsFree (.ref z) >>= _) _ _ _
 refine wpAny_bind ?_
 unfold Builtin.SmallTypes.ownedTupleIsFree
 refine wpAny_bind (wpAny_field hz rfl (x:=.none) rfl (wpAny_pure ?_))
 simp only[if_true]
 refine wpAny_bind (wpAny_rule ?_)
 refine wpAny_bind (wpAny_field hz rfl (x:=.ref TO) rfl ?_)
 refine wpAny_bind (wpAny_setField_rec hz (by simp) fun h₁ hz₁ hs₁=>?_)
 replace hz₁:IsZipF h₁ z TI TO .ellipsis f1:=hz₁
 refine wpAny_bind ?_
 simp only[List.zipIdx_cons,List.zipIdx_nil,List.forIn_cons,List.forIn_nil]
 refine wpAny_bind (wpAny_bind (wpAny_onRaise ?_))
 show wpAny _ _ (Builtin.SmallTypes.nextOf (.ref i1) >>= _) _ _ _
 rcases hend with E1|⟨Y1,E2⟩
 ·refine wpAny_bind (E1 _ _ _ (g1 _ fun c o hc e=>hs₁.extBut _ _ hc e) fun h₂ e hs₂ he=>?_)
  obtain⟨oe,hoe,hce⟩:=he
  have hz₂:IsZipF h₂ z TI TO .ellipsis f1:=hs₂ _ _ D.i1z.symm hz₁
  have hez:e≠z:=fun x=>by subst x;rw[hz₂] at hoe;cases hoe;simp at hce
  refine wpAny_setField_rec hz₂ (by simp) fun h₃ _ hs₃=>hE h₃ _ e (fun c o c1 _ c3 _ x=>hs₃.extBut _ _ c1 (hs₂ _ _ c3 (hs₁.extBut _ _ c1 x))) ⟨oe,hs₃.extBut _ _ hez hoe,hce⟩
 ·refine wpAny_bind (Y1 _ _ _ (g1 _ fun c o hc e=>hs₁.extBut _ _ hc e) fun x h₂ tk₂ px st1 hs₂=>wpAny_pure ?_)
  have hTO₂:IsPair h₂ TO a b:=hs₂.extBut _ _ D.TOi1 (hs₁.extBut _ _ D.TOz hTO)
  refine wpAny_bind (wpAny_seqItems hTO₂ rfl ?_)
  refine wpAny_bind (wpAny_updateSeq_pair hTO₂ fun h₃ hTO₃ hs₃=>?_)
  refine wpAny_bind (wpAny_letGo (wpAny_pure ?_))
  refine wpAny_bind (wpAny_bind (wpAny_onRaise ?_))
  show wpAny _ _ (Builtin.SmallTypes.nextOf (.ref i2) >>= _) _ _ _
  refine wpAny_bind (E2 _ _ _ (g2 _ fun c o c1 c2 c3 e=>hs₃.extBut _ _ c2 (hs₂.extBut _ _ c3 (hs₁.extBut _ _ c1 e))) fun h₄ e hs₄ he=>?_)
  obtain⟨oe,hoe,hce⟩:=he
  have hz₄:IsZipF h₄ z TI TO .ellipsis f1:=hs₄ _ _ D.i2z.symm (hs₃.extBut _ _ D.TOz.symm (hs₂.extBut _ _ D.i1z.symm hz₁))
  have hez:e≠z:=fun x=>by subst x;rw[hz₄] at hoe;cases hoe;simp at hce
  refine wpAny_setField_rec hz₄ (by simp) fun h₅ _ hs₅=>hE h₅ _ e (fun c o c1 c2 c3 c4 x=>hs₅.extBut _ _ c1 (hs₄ _ _ c4 (hs₃.extBut _ _ c2 (hs₂.extBut _ _ c3 (hs₁.extBut _ _ c1 x))))) ⟨oe,hs₅.extBut _ _ hez hoe,hce⟩
end
end Zp
namespace Zp
open PySem
section
variable {prog:Program}{w:World}{A:Around}{E:Value→Shared→Prop}{s:Shared}
theorem alive {a:Addr}{o:Obj}{Q:Option Obj→Shared→Prop}(ho:s.heap.get? a=some o)(h:Q (some o) s):wpAny (model prog w) A (loadIfAlive a) Q E s:=by
 have h':Q (s.heap.get? a) s:=by rw[ho];exact h
 exact fun _ _ _=>h'
theorem next_busy {z TI TO i1 i2 T:Addr}{oT:Obj}{P1 P2:Value→Prop}{fb:Bool}{G1 G2 S1 S2:Heap→Prop}{Q:Value→Shared→Prop}(D:Apart z TI TO i1 i2)
  (hz:IsZipF s.heap z TI TO (rawInt T) (.bool fb)) (hTI:IsPair s.heap TI (.ref i1) (.ref i2)) (hT:s.heap.get? T=some oT)
  (Y1:Yields prog w A i1 G1 P1 S1) (Y2:Yields prog w A i2 G2 P2 S2)
  (g1:∀h',(∀c o,c≠z→s.heap.get? c=some o→h'.get? c=some o)→G1 h') (g2:∀h',(∀c o,c≠z→c≠i1→s.heap.get? c=some o→h'.get? c=some o)→G2 h')
  (k1:∀h h',S1 h→(∀c o,c≠i2→h.get? c=some o→h'.get? c=some o)→S1 h')
  (k2:∀h h',S2 h→(∀c o,h.get? c=some o→h'.get? c=some o)→S2 h')
  (hQ:∀x y h' tk,P1 x→P2 y→IsZipF h' z TI TO (rawInt T) (.bool true)→S1 h'→S2 h'→IsPair h' s.heap.objs.size x y→h'.objs.size=s.heap.objs.size+1 →
   (∀c o,c≠z→c≠i1→c≠i2→s.heap.get? c=some o→h'.get? c=some o)→Q (.ref s.heap.objs.size) {s with heap:=h',toks:=tk}) :
  wpAny (model prog w) A (Builtin.«zip.__next__» ⟨[.ref z],[]⟩) (fun fin s'=>∃v,fin=.done (.ret v)∧Q v s') E s:=by
 show wpAny _ _ (field (.ref z) 2 >>= _) _ _ _
 refine wpAny_bind (wpAny_field hz rfl (x:=.bool false) rfl ?_)
 show wpAny _ _ (field (.ref z) 3 >>= _) _ _ _
 refine wpAny_bind (wpAny_field hz rfl (x:=.ref TI) rfl ?_)
 refine wpAny_bind (wpAny_seqItems hTI rfl ?_)
 show wpAny _ _ (Builtin.SmallTypes.ownedTupleIsFree (.ref z) >>= _) _ _ _
 refine wpAny_bind ?_
 unfold Builtin.SmallTypes.ownedTupleIsFree
 refine wpAny_bind (wpAny_field hz rfl (x:=rawInt T) rfl ?_)
 show wpAny _ _ (loadIfAlive ((T:Int).toNat) >>= _) _ _ _
 rw[Int.toNat_natCast]
 refine wpAny_bind (alive hT ?_)
 simp only[Option.isNone_some,Bool.false_eq_true,if_false]
 refine wpAny_bind (wpAny_field hz rfl (x:=.bool fb) rfl ?_)
 cases fb with
 | true =>
  rw[if_neg (show ¬((Value.bool true != Value.bool true)=true) from Bool.false_ne_true)]
  refine wpAny_pure ?_
  simp only[Bool.false_eq_true,if_false]
  have HZ:=hz
  have HS:Heap.SameBut z s.heap s.heap:=Heap.SameBut.refl _ _
  rw[← Array.forIn_toList]
  simp only[List.forIn_cons,List.forIn_nil]
  refine wpAny_bind (wpAny_bind (wpAny_bind (wpAny_holding ?_)))
  show wpAny _ _ (Builtin.SmallTypes.nextOf (.ref i1) >>= _) _ _ _
  refine wpAny_bind (Y1 _ _ _ (g1 _ fun c o hc e=>HS.extBut _ _ hc e) fun x h₂ tk₂ px st1 hs₂=>wpAny_pure (wpAny_pure ?_))
  refine wpAny_bind (wpAny_bind (wpAny_holding ?_))
  show wpAny _ _ (Builtin.SmallTypes.nextOf (.ref i2) >>= _) _ _ _
  refine wpAny_bind (Y2 _ _ _ (g2 _ fun c o c1 c3 e=>hs₂.extBut _ _ c3 (HS.extBut _ _ c1 e)) fun y h₄ tk₄ py st2 hs₄=>wpAny_pure (wpAny_pure (wpAny_pure ?_)))
  refine wpAny_bind (wpAny_newTuple ?_ (by show 2≤sizeLine;decide))
  have hsz:h₄.objs.size=s.heap.objs.size:=by rw[hs₄.1,hs₂.1,HS.1]
  have hz₄:IsZipF h₄ z TI TO (rawInt T) (.bool true):=hs₄.extBut _ _ D.i2z.symm (hs₂.extBut _ _ D.i1z.symm HZ)
  refine wpAny_pure ⟨_,rfl,?_⟩
  show Q (.ref h₄.objs.size) _
  rw[hsz]
  have hp:IsPair (h₄.push {cls:=.type "tuple", data:=.seq #[x,y]}) s.heap.objs.size x y:=by rw[← hsz];exact Heap.get?_push_size _ rfl
  exact hQ x y _ _ px py (Heap.get?_push_of_some _ hz₄) (k1 h₂ _ st1 fun c o hc e=>Heap.get?_push_of_some _ (hs₄.extBut _ _ hc e)) (k2 h₄ _ st2 fun c o e=>Heap.get?_push_of_some _ e) hp (by rw[Heap.size_push,hsz])
   fun c o c1 c3 c4 e=>Heap.get?_push_of_some _ (hs₄.extBut _ _ c4 (hs₂.extBut _ _ c3 (HS.extBut _ _ c1 e)))
 | false =>
  rw[if_pos (show(Value.bool false != Value.bool true)=true from rfl)]
  refine wpAny_bind (wpAny_setField_rec hz (by simp) fun h₁ hz₁ HS=>?_)
  replace HS:Heap.SameBut z s.heap h₁:=HS
  have HZ:IsZipF h₁ z TI TO (rawInt T) (.bool true):=hz₁
  refine wpAny_pure ?_
  simp only[Bool.false_eq_true,if_false]
  rw[← Array.forIn_toList]
  simp only[List.forIn_cons,List.forIn_nil]
  refine wpAny_bind (wpAny_bind (wpAny_bind (wpAny_holding ?_)))
  show wpAny _ _ (Builtin.SmallTypes.nextOf (.ref i1) >>= _) _ _ _
  refine wpAny_bind (Y1 _ _ _ (g1 _ fun c o hc e=>HS.extBut _ _ hc e) fun x h₂ tk₂ px st1 hs₂=>wpAny_pure (wpAny_pure ?_))
  refine wpAny_bind (wpAny_bind (wpAny_holding ?_))
  show wpAny _ _ (Builtin.SmallTypes.nextOf (.ref i2) >>= _) _ _ _
  refine wpAny_bind (Y2 _ _ _ (g2 _ fun c o c1 c3 e=>hs₂.extBut _ _ c3 (HS.extBut _ _ c1 e)) fun y h₄ tk₄ py st2 hs₄=>wpAny_pure (wpAny_pure (wpAny_pure ?_)))
  refine wpAny_bind (wpAny_newTuple ?_ (by show 2≤sizeLine;decide))
  have hsz:h₄.objs.size=s.heap.objs.size:=by rw[hs₄.1,hs₂.1,HS.1]
  have hz₄:IsZipF h₄ z TI TO (rawInt T) (.bool true):=hs₄.extBut _ _ D.i2z.symm (hs₂.extBut _ _ D.i1z.symm HZ)
  refine wpAny_pure ⟨_,rfl,?_⟩
  show Q (.ref h₄.objs.size) _
  rw[hsz]
  have hp:IsPair (h₄.push {cls:=.type "tuple", data:=.seq #[x,y]}) s.heap.objs.size x y:=by rw[← hsz];exact Heap.get?_push_size _ rfl
  exact hQ x y _ _ px py (Heap.get?_push_of_some _ hz₄) (k1 h₂ _ st1 fun c o hc e=>Heap.get?_push_of_some _ (hs₄.extBut _ _ hc e)) (k2 h₄ _ st2 fun c o e=>Heap.get?_push_of_some _ e) hp (by rw[Heap.size_push,hsz])
   fun c o c1 c3 c4 e=>Heap.get?_push_of_some _ (hs₄.extBut _ _ c4 (hs₂.extBut _ _ c3 (HS.extBut _ _ c1 e)))
theorem end_busy {z TI TO i1 i2 T:Addr}{oT:Obj}{P1:Value→Prop}{fb:Bool}{G1 G2 S1:Heap→Prop}{Q:Fin→Shared→Prop}(D:Apart z TI TO i1 i2)
  (hz:IsZipF s.heap z TI TO (rawInt T) (.bool fb)) (hTI:IsPair s.heap TI (.ref i1) (.ref i2)) (hT:s.heap.get? T=some oT)
  (hend:Ends prog w A i1 G1∨(Yields prog w A i1 G1 P1 S1∧Ends prog w A i2 G2))
  (g1:∀h',(∀c o,c≠z→s.heap.get? c=some o→h'.get? c=some o)→G1 h') (g2:∀h',(∀c o,c≠z→c≠i1→s.heap.get? c=some o→h'.get? c=some o)→G2 h')
  (hE:∀h' tk e,(∀c o,c≠z→c≠i1→c≠i2→s.heap.get? c=some o→h'.get? c=some o)→(∃o,h'.get? e=some o∧o.cls=.type "StopIteration")→E (.ref e) {s with heap:=h',toks:=tk}) :
  wpAny (model prog w) A (Builtin.«zip.__next__» ⟨[.ref z],[]⟩) Q E s:=by
 show wpAny _ _ (field (.ref z) 2 >>= _) _ _ _
 refine wpAny_bind (wpAny_field hz rfl (x:=.bool false) rfl ?_)
 show wpAny _ _ (field (.ref z) 3 >>= _) _ _ _
 refine wpAny_bind (wpAny_field hz rfl (x:=.ref TI) rfl ?_)
 refine wpAny_bind (wpAny_seqItems hTI rfl ?_)
 show wpAny _ _ (Builtin.SmallTypes.ownedTupleIsFree (.ref z) >>= _) _ _ _
 refine wpAny_bind ?_
 unfold Builtin.SmallTypes.ownedTupleIsFree
 refine wpAny_bind (wpAny_field hz rfl (x:=rawInt T) rfl ?_)
 show wpAny _ _ (loadIfAlive ((T:Int).toNat) >>= _) _ _ _
 rw[Int.toNat_natCast]
 refine wpAny_bind (alive hT ?_)
 simp only[Option.isNone_some,Bool.false_eq_true,if_false]
 refine wpAny_bind (wpAny_field hz rfl (x:=.bool fb) rfl ?_)
 cases fb with
 | true =>
  rw[if_neg (show ¬((Value.bool true != Value.bool true)=true) from Bool.false_ne_true)]
  refine wpAny_pure ?_
  simp only[Bool.false_eq_true,if_false]
  have HS:Heap.SameBut z s.heap s.heap:=Heap.SameBut.refl _ _
  rw[← Array.forIn_toList]
  simp only[List.forIn_cons,List.forIn_nil]
  refine wpAny_bind (wpAny_bind (wpAny_bind (wpAny_holding ?_)))
  show wpAny _ _ (Builtin.SmallTypes.nextOf (.ref i1) >>= _) _ _ _
  rcases hend with E1|⟨Y1,E2⟩
  ·refine wpAny_bind (E1 _ _ _ (g1 _ fun c o hc e=>HS.extBut _ _ hc e) fun h₂ e hs₂ he=>?_)
   exact hE h₂ _ e (fun c o c1 c3 _ x=>hs₂ _ _ c3 (HS.extBut _ _ c1 x)) he
  ·refine wpAny_bind (Y1 _ _ _ (g1 _ fun c o hc e=>HS.extBut _ _ hc e) fun x h₂ tk₂ px st1 hs₂=>wpAny_pure (wpAny_pure ?_))
   refine wpAny_bind (wpAny_bind (wpAny_holding ?_))
   show wpAny _ _ (Builtin.SmallTypes.nextOf (.ref i2) >>= _) _ _ _
   refine wpAny_bind (E2 _ _ _ (g2 _ fun c o c1 c3 e=>hs₂.extBut _ _ c3 (HS.extBut _ _ c1 e)) fun h₄ e hs₄ he=>?_)
   exact hE h₄ _ e (fun c o c1 c3 c4 x=>hs₄ _ _ c4 (hs₂.extBut _ _ c3 (HS.extBut _ _ c1 x))) he
 | false =>
  rw[if_pos (show(Value.bool false != Value.bool true)=true from rfl)]
  refine wpAny_bind (wpAny_setField_rec hz (by simp) fun h₁ hz₁ HS=>?_)
  replace HS:Heap.SameBut z s.heap h₁:=HS
  refine wpAny_pure ?_
  simp only[Bool.false_eq_true,if_false]
  rw[← Array.forIn_toList]
  simp only[List.forIn_cons,List.forIn_nil]
  refine wpAny_bind (wpAny_bind (wpAny_bind (wpAny_holding ?_)))
  show wpAny _ _ (Builtin.SmallTypes.nextOf (.ref i1) >>= _) _ _ _
  rcases hend with E1|⟨Y1,E2⟩
  ·refine wpAny_bind (E1 _ _ _ (g1 _ fun c o hc e=>HS.extBut _ _ hc e) fun h₂ e hs₂ he=>?_)
   exact hE h₂ _ e (fun c o c1 c3 _ x=>hs₂ _ _ c3 (HS.extBut _ _ c1 x)) he
  ·refine wpAny_bind (Y1 _ _ _ (g1 _ fun c o hc e=>HS.extBut _ _ hc e) fun x h₂ tk₂ px st1 hs₂=>wpAny_pure (wpAny_pure ?_))
   refine wpAny_bind (wpAny_bind (wpAny_holding ?_))
   show wpAny _ _ (Builtin.SmallTypes.nextOf (.ref i2) >>= _) _ _ _
   refine wpAny_bind (E2 _ _ _ (g2 _ fun c o c1 c3 e=>hs₂.extBut _ _ c3 (HS.extBut _ _ c1 e)) fun h₄ e hs₄ he=>?_)
   exact hE h₄ _ e (fun c o c1 c3 c4 x=>hs₄ _ _ c4 (hs₂.extBut _ _ c3 (HS.extBut _ _ c1 x))) he
end
end Zp
set_option maxHeartbeats 2000000
namespace Zp
open PySem
section
variable {prog:Program}{w:World}{A:Around}
theorem yields_tuple {it t:Addr}{i:Nat}{items:Array Value}{x:Value}(hne:t≠it)(hx:items[i]? = some x) :
  Yields prog w A it (fun h=>h.IsTupleIter it t i∧h.IsTuple t items) (fun v=>v=x) (fun h=>h.IsTupleIter it t (i+1)∧h.IsTuple t items) :=
 fun s Q E g hQ=>nextOf_tuple_item g.1 g.2 hx fun h' st sb=>hQ _ h' s.toks rfl ⟨st,g.2.extBut sb.extBut hne⟩ sb
theorem ends_tuple {it t:Addr}{i:Nat}{items:Array Value}(hh:A.handled=none)(hx:items[i]? = none) :
  Ends prog w A it (fun h=>h.IsTupleIter it t i∧h.IsTuple t items) :=
 fun s Q E g hE=>nextOf_tuple_end hh g.1 g.2 hx hE
theorem yields_ascii {it:Addr}{x:Str}{t:Tok}{i c:Nat}(hx:x.cps[i]? = some c) :
  Yields prog w A it (fun h=>h.IsStrIter it "str_ascii_iterator" x t i) (fun v=>∃u,v=.str ⟨#[c]⟩ u) (fun h=>h.IsStrIter it "str_ascii_iterator" x t (i+1)) :=
 fun s Q E g hQ=>nextOf_ascii_item g hx fun h' st sb=>hQ _ h' _ ⟨_,rfl⟩ st sb
theorem ends_ascii {it:Addr}{x:Str}{t:Tok}{i:Nat}(hh:A.handled=none)(hx:x.cps[i]? = none) :
  Ends prog w A it (fun h=>h.IsStrIter it "str_ascii_iterator" x t i) :=
 fun s Q E g hE=>nextOf_ascii_end hh g hx hE
end
section
variable {prog:Program}{w:World}{A:Around}{E:Value→Shared→Prop}{s:Shared}
abbrev zH2 (h:Heap)(o1 o2:Obj):Heap:=(h.push o1).push o2
abbrev zH3 (h:Heap)(o1 o2:Obj):Heap:=(zH2 h o1 o2).push {cls:=.type "tuple", data:=.seq #[.ref h.objs.size,.ref (h.push o1).objs.size]}
abbrev zH4 (h:Heap)(o1 o2:Obj):Heap:=(zH3 h o1 o2).push {cls:=.type "tuple", data:=.seq #[.none,.none]}
abbrev zH5 (h:Heap)(o1 o2:Obj):Heap:=(zH4 h o1 o2).push {cls:=.type "zip", data:=.fields #[.none,.bool false,.bool false,.ref (zH2 h o1 o2).objs.size,.ref (zH3 h o1 o2).objs.size]}
abbrev tIter (t:Addr):Obj:={cls:=.type "tuple_iterator", data:=.fields #[.ref t,.int 0 0]}
abbrev sIter (x:Str)(t:Tok):Obj:={cls:=.type "str_ascii_iterator", data:=.fields #[.str x t,.int 0 0]}
theorem meets_st_aux {prog:Program}{w:World}{A:Around}{a b:Value}{s:Shared}{h1 h2:Heap}{i1 i2:Addr}{E:Value→Shared→Prop}{Q:Fin→Shared→Prop}
  (p1:∀(Q:Value→Shared→Prop) (E:Value→Shared→Prop),Q (.ref i1) {s with heap:=h1}→wpAny (model prog w) A (pyIter a) Q E s)
  (p2:∀(Q:Value→Shared→Prop) (E:Value→Shared→Prop),Q (.ref i2) {s with heap:=h2}→wpAny (model prog w) A (pyIter b) Q E {s with heap:=h1})
  (hQ:Q (.done (.ret (.ref (h2.objs.size+2)))) {s with heap:=((h2.push {cls:=.type "tuple", data:=.seq #[.ref i1,.ref i2]}).push {cls:=.type "tuple", data:=.seq #[.none,.none]}).push {cls:=.type "zip", data:=.fields #[.none,.bool false,.bool false,.ref h2.objs.size,.ref (h2.objs.size+1)]} }) :
  wpAny (model prog w) A (Builtin.«zip.__new__» ⟨[.type "zip", a,b],[]⟩) Q E s:=by
 obtain⟨hp,g,d,tk,os⟩:=s
 have hsub:=sub_zip
 have z1:(h2.push {cls:=.type "tuple", data:=.seq #[.ref i1,.ref i2]}).objs.size=h2.objs.size+1:=Heap.size_push ..
 have z2:((h2.push {cls:=.type "tuple", data:=.seq #[.ref i1,.ref i2]}).push {cls:=.type "tuple", data:=.seq #[.none,.none]}).objs.size=h2.objs.size+2:=by rw[Heap.size_push,z1]
 rw[← z2,← z1] at hQ
 wp_walk using p1 _ _,p2 _ _
 exact hQ
theorem meets_st (x:Str)(t:Tok)(l2:Addr)(ys:Array Value)(ha:x.cps.all (· < 128)=true) :
  Meets (Builtin.«zip.__new__» ⟨[.type "zip", .str x t,.ref l2],[]⟩) (fun _ R s=>s.heap.IsTuple l2 ys ∧
   R (.ok (.ret (.ref (zH4 s.heap (sIter x t) (tIter l2)).objs.size))) {s with heap:=zH5 s.heap (sIter x t) (tIter l2)}) :=
 .of_wp fun prog w A R s h=>by
  obtain⟨hl2,h⟩:=h
  have z3:(zH3 s.heap (sIter x t) (tIter l2)).objs.size=(zH2 s.heap (sIter x t) (tIter l2)).objs.size+1:=Heap.size_push ..
  have z4:(zH4 s.heap (sIter x t) (tIter l2)).objs.size=(zH2 s.heap (sIter x t) (tIter l2)).objs.size+2:=by rw[Heap.size_push,z3]
  refine meets_st_aux (h1:=s.heap.push (sIter x t)) (h2:=zH2 s.heap (sIter x t) (tIter l2)) (i1:=s.heap.objs.size) (i2:=(s.heap.push (sIter x t)).objs.size)
   (fun Q E q=>wpAny_pyIter_ascii ha q) (fun Q E q=>wpAny_pyIter_tuple (s:={s with heap:=s.heap.push (sIter x t)}) (Heap.IsTuple.push hl2 _) q) ⟨_,rfl,?_⟩
  rw[← z4,← z3]
  exact h
def Made5 (h h':Heap)(o1 o2:Obj):Prop :=
 IsZipF h' (h.objs.size+4) (h.objs.size+2) (h.objs.size+3) .none (.bool false)∧IsPair h' (h.objs.size+2) (.ref h.objs.size) (.ref (h.objs.size+1)) ∧
  IsPair h' (h.objs.size+3) .none .none∧h'.get? h.objs.size=some o1∧h'.get? (h.objs.size+1)=some o2∧h'.objs.size=h.objs.size+5∧∀c o,h.get? c=some o→h'.get? c=some o
theorem made5 (h:Heap)(o1 o2:Obj)(f1:o1.isFreed=false)(f2:o2.isFreed=false):Made5 h (zH5 h o1 o2) o1 o2∧(zH4 h o1 o2).objs.size=h.objs.size+4:=by
 have z1:(h.push o1).objs.size=h.objs.size+1:=Heap.size_push ..
 have z2:(zH2 h o1 o2).objs.size=h.objs.size+2:=by rw[Heap.size_push,z1]
 have z3:(zH3 h o1 o2).objs.size=h.objs.size+3:=by rw[Heap.size_push,z2]
 have z4:(zH4 h o1 o2).objs.size=h.objs.size+4:=by rw[Heap.size_push,z3]
 have z5:(zH5 h o1 o2).objs.size=h.objs.size+5:=by rw[Heap.size_push,z4]
 have g5:(zH5 h o1 o2).get? (zH4 h o1 o2).objs.size=some _:=Heap.get?_push_size _ rfl
 have g4:(zH5 h o1 o2).get? (zH3 h o1 o2).objs.size=some _:=Heap.get?_push_of_some _ (Heap.get?_push_size _ rfl)
 have g3:(zH5 h o1 o2).get? (zH2 h o1 o2).objs.size=some _:=Heap.get?_push_of_some _ (Heap.get?_push_of_some _ (Heap.get?_push_size _ rfl))
 have g2:(zH5 h o1 o2).get? (h.push o1).objs.size=some o2:=Heap.get?_push_of_some _ (Heap.get?_push_of_some _ (Heap.get?_push_of_some _ (Heap.get?_push_size _ f2)))
 have g1:(zH5 h o1 o2).get? h.objs.size=some o1:=Heap.get?_push_of_some _ (Heap.get?_push_of_some _ (Heap.get?_push_of_some _ (Heap.get?_push_of_some _ (Heap.get?_push_size _ f1))))
 rw[z2,z3,z4] at g5
 rw[z1,z2] at g3
 rw[z3] at g4
 rw[z1] at g2
 exact⟨⟨g5,g3,g4,g1,g2,z5,fun c o x=>Heap.get?_push_of_some _ (Heap.get?_push_of_some _ (Heap.get?_push_of_some _ (Heap.get?_push_of_some _ (Heap.get?_push_of_some _ x))))⟩,z4⟩
theorem call_zip_st {x:Str}{t:Tok}{l2:Addr}{ys:Array Value}{Q:Value→Shared→Prop}(ha:x.cps.all (· < 128)=true)(hl2:s.heap.IsTuple l2 ys)
  (h:∀h',Made5 s.heap h' (sIter x t) (tIter l2)→Q (.ref (s.heap.objs.size+4)) {s with heap:=h'}) :
  wpAny (model prog w) A (call (.type "zip") [.str x t,.ref l2]) Q E s:=by
 refine callType_new F.called_zip (by decide) (F.typeCall_zip_2 _ _) (F.newCall_zip_2 _ _) (fun obj=>F.args_object_init_3 obj _ _) F.entry_zip_new
  (meets_st x t l2 ys ha) ⟨hl2,?_⟩
 obtain⟨m,z4⟩:=made5 s.heap (sIter x t) (tIter l2) rfl rfl
 show _∧_
 rw[z4]
 exact⟨⟨_,m.1,rfl⟩,h _ m⟩
end
end Zp
namespace Zp
open PySem
theorem zip_getattr_none:typeLookup (.type "zip") "__getattr__" = pure none:=by rw[typeLookup_type,builtinLookup_eq_fast];kernel_rfl
theorem zip_keys_none:typeLookup (.type "zip") "keys" = pure none:=by rw[typeLookup_type,builtinLookup_eq_fast];kernel_rfl
theorem entry_zip_getattribute:entryFor table "zip.__getattribute__" = some Builtin.«object.__getattribute__» :=
 entryFor_alias (id' := "object.__getattribute__") (by kernel_rfl) (by decide +kernel) (by decide +kernel) (by kernel_rfl)
theorem meets_miss (a:Addr)(vs:Array Value)(name:Str)(u:Tok)(hmiss:typeLookup (.type "zip") name=pure none)(hname:(["__module__", "__name__", "__qualname__", "__doc__", "__annotations__"]:List Str).contains name=false)(hsz:name.length+100≤sizeLine:=by size_fits) :
  Meets (Builtin.«object.__getattribute__» ⟨[.ref a,.str name u],[]⟩) (fun A R s=>s.heap.get? a=some {cls:=.type "zip", dict:=none,data:=.fields vs,slots:=#[]}∧raisesAttr (.ref a) name A R s) :=
 Meets.of_wp fun prog w A R s hs=>by
  obtain⟨hp,g,d,tk,os⟩:=s
  obtain⟨hx,hs⟩:=hs
  have hT:(⟨hp,g,d,tk,os⟩:Shared).TypeIs (.ref a) "zip" := ⟨_,hx,rfl⟩
  unfold Builtin.«object.__getattribute__»
  repeat (any_goals (first|assumption|wp_step))
  simp only[hname,Bool.false_eq_true,if_false]
  repeat (any_goals (first|assumption|wp_step))
  exact wpAny_raiseAttrError hs.1 hs.2 (attrMsg_fits (by decide +kernel) hsz)
theorem no_keys {prog:Program}{w:World}{A:Around}{E:Value→Shared→Prop}{s:Shared}{a:Addr}{vs:Array Value}{Q:Option Value→Shared→Prop}
  (hx:s.heap.get? a=some {cls:=.type "zip", dict:=none,data:=.fields vs,slots:=#[]}) (hA:A.handled=none)
  (h:∀h' tk,(∀b o,s.heap.get? b=some o→h'.get? b=some o)→Q none {s with heap:=h',toks:=tk}) :
  wpAny (model prog w) A (getAttr? (.ref a) "keys") Q E s:=by
 obtain⟨hp,g,d,tk,os⟩:=s
 have hT:∀tk',(⟨hp,g,d,tk',os⟩:Shared).TypeIs (.ref a) "zip" := fun _=>⟨_,hx,rfl⟩
 have f1:=sub_AttributeError
 have f3:=F.slot_zip_getattribute.lookup
 have f4:=F.slot_zip_getattribute.bind (.ref a)
 have f5:=zip_getattr_none
 unfold getAttr? getAttrBy? getAttrBy
 repeat (any_goals (first|assumption|exact hT _|((with_reducible show wpAny _ _ (call (Value.builtin "zip.__getattribute__") _ _) _ _ _);refine call_meets F.slot_zip_getattribute (hT _) entry_zip_getattribute (F.args_zip_getattribute_2 _ _) (meets_miss a vs "keys" _ zip_keys_none (by decide +kernel) (by decide +kernel)) ⟨hx,hA,fun h' tk' e hx'=>?_⟩)|wp_step))
 obtain⟨t',u',he⟩:=hx'.there
 show wpAny _ _ (getattributeRaised _ _ _ _ _ _ _) _ _ _
 unfold getattributeRaised hookBehind onTheHeap hookOrError attributeErrorLeaves
 repeat (any_goals (first|assumption|wp_step))
 exact h _ _ hx'.keeps
structure ZSt (h:Heap)(z TI TO i1 i2 tp d:Addr)(x:Str)(t:Tok)(ys:Array Value)(i:Nat):Prop where
 zip:(∃f1,IsZipF h z TI TO .none (.bool f1))∨∃(T:Addr) (oT:Obj) (fb:Bool),IsZipF h z TI TO (rawInt T) (.bool fb)∧h.get? T=some oT∧T≠z∧T≠TO∧T≠i1∧T≠i2∧T≠d
 ti:IsPair h TI (.ref i1) (.ref i2)
 to:∃a b,IsPair h TO a b
 s1:h.IsStrIter i1 "str_ascii_iterator" x t i
 s2:h.IsTupleIter i2 tp i∧h.IsTuple tp ys
structure ZAp (z TI TO i1 i2 tp d:Addr):Prop where
 D:Apart z TI TO i1 i2
 tz:tp≠z
 tO:tp≠TO
 t1:tp≠i1
 t2:tp≠i2
 dz:d≠z
 dI:d≠TI
 dO:d≠TO
 d1:d≠i1
 d2:d≠i2
 dt:d≠tp
theorem ZSt.dict {h h':Heap}{z TI TO i1 i2 tp d:Addr}{x:Str}{t:Tok}{ys:Array Value}{i:Nat}(Z:ZSt h z TI TO i1 i2 tp d x t ys i)(Y:ZAp z TI TO i1 i2 tp d)
  (k:∀c o,c≠d→h.get? c=some o→h'.get? c=some o):ZSt h' z TI TO i1 i2 tp d x t ys i:=by
 obtain⟨zp,ti,⟨a,b,to⟩,⟨o1,e1,r1⟩,⟨o2,e2,r2⟩,o3,e3,r3⟩:=Z
 refine⟨?_,k _ _ (Ne.symm Y.dI) ti,⟨a,b,k _ _ (Ne.symm Y.dO) to⟩,⟨o1,k _ _ (Ne.symm Y.d1) e1,r1⟩,⟨o2,k _ _ (Ne.symm Y.d2) e2,r2⟩,o3,k _ _ (Ne.symm Y.dt) e3,r3⟩
 rcases zp with⟨f1,hz⟩|⟨T,oT,fb,hz,hT,n1,n2,n3,n4,n5⟩
 ·exact .inl ⟨f1,k _ _ (Ne.symm Y.dz) hz⟩
 ·exact .inr ⟨T,oT,fb,k _ _ (Ne.symm Y.dz) hz,k _ _ n5 hT,n1,n2,n3,n4,n5⟩
section
variable {prog:Program}{w:World}{A:Around}{E:Value→Shared→Prop}{s:Shared}
theorem ZSt.next {z TI TO i1 i2 tp d:Addr}{x:Str}{t:Tok}{ys:Array Value}{i c:Nat}{y:Value}{Q:Option Value→Shared→Prop}(Z:ZSt s.heap z TI TO i1 i2 tp d x t ys i)(Y:ZAp z TI TO i1 i2 tp d)
  (hd:d<s.heap.objs.size) (hc:x.cps[i]? = some c) (hy:ys[i]? = some y)
  (hQ:∀(T:Addr) u h' tk,ZSt h' z TI TO i1 i2 tp d x t ys (i+1)→IsPair h' T (.str ⟨#[c]⟩ u) y→(∀c o,c≠z→c≠TO→c≠i1→c≠i2→s.heap.get? c=some o→h'.get? c=some o)→h'.objs.size=s.heap.objs.size+1→Q (some (.ref T)) {s with heap:=h',toks:=tk}) :
  wpAny (model prog w) A (pyNext (.ref z)) Q E s:=by
 obtain⟨zp,ti,⟨a,b,to⟩,s1,s2⟩:=Z
 have D:=Y.D
 obtain⟨o1,e1,r1⟩:=id s1
 obtain⟨⟨o2,e2,r2⟩,o3,e3,r3⟩:=id s2
 have lt:∀{c:Addr}{o:Obj},s.heap.get? c=some o→s.heap.objs.size≠c:=fun e=>Nat.ne_of_gt (Heap.lt_size e)
 have Y1:=yields_ascii (prog:=prog) (w:=w) (A:=A.in1) (it:=i1) (t:=t) hc
 have Y2:=yields_tuple (prog:=prog) (w:=w) (A:=A.in1) Y.t2 hy
 rcases zp with⟨f1,hz⟩|⟨T,oT,fb,hz,hT,n1,n2,n3,n4,n5⟩
 ·have hTy:s.TypeIs (.ref z) "zip" := ⟨_,hz,rfl⟩
  unfold pyNext
  refine wpAny_bind (wpAny_attempt (wpAny_callSpecial?_slot (name:=Str.ofString "__next__") hTy F.slot_zip_next
   (wpAny_call_entry F.slot_zip_next hTy F.entry_zip_next (next_item D hz ti to Y1 Y2 ?_ ?_ ?_ ?_ ?_) (F.args_zip_next_1 _))))
  ·exact fun h' k=>⟨o1,k _ _ D.i1z e1,r1⟩
  ·exact fun h' k=>⟨⟨o2,k _ _ D.i2z D.TOi2.symm D.i12.symm e2,r2⟩,o3,k _ _ Y.tz Y.tO Y.t1 e3,r3⟩
  ·exact fun h h' ⟨p1,q1,w1⟩ k=>⟨p1,k _ _ D.i1z D.TOi1.symm D.i12 q1,w1⟩
  ·exact fun h h' ⟨⟨p1,q1,w1⟩,p2,q2,w2⟩ k=>⟨⟨p1,k _ _ D.i2z D.TOi2.symm q1,w1⟩,p2,k _ _ Y.tz Y.tO q2,w2⟩
  ·rintro v1 v2 h' tk ⟨u,rfl⟩ rfl z' to' q1 q2 hp hsz k
   refine wpAny_pure (hQ _ u h' tk ⟨.inr ⟨_,_,false,z',hp,lt hz,lt to,lt e1,lt e2,Nat.ne_of_gt hd⟩,k _ _ D.TIz D.TITO D.TIi1 D.TIi2 ti,⟨_,_,to'⟩,q1,q2⟩ hp k hsz)
 ·have hTy:s.TypeIs (.ref z) "zip" := ⟨_,hz,rfl⟩
  unfold pyNext
  refine wpAny_bind (wpAny_attempt (wpAny_callSpecial?_slot (name:=Str.ofString "__next__") hTy F.slot_zip_next
   (wpAny_call_entry F.slot_zip_next hTy F.entry_zip_next (next_busy D hz ti hT Y1 Y2 ?_ ?_ ?_ ?_ ?_) (F.args_zip_next_1 _))))
  ·exact fun h' k=>⟨o1,k _ _ D.i1z e1,r1⟩
  ·exact fun h' k=>⟨⟨o2,k _ _ D.i2z D.i12.symm e2,r2⟩,o3,k _ _ Y.tz Y.t1 e3,r3⟩
  ·exact fun h h' ⟨p1,q1,w1⟩ k=>⟨p1,k _ _ D.i12 q1,w1⟩
  ·exact fun h h' ⟨⟨p1,q1,w1⟩,p2,q2,w2⟩ k=>⟨⟨p1,k _ _ q1,w1⟩,p2,k _ _ q2,w2⟩
  ·rintro v1 v2 h' tk ⟨u,rfl⟩ rfl z' q1 q2 hp hsz k
   exact wpAny_pure (hQ _ u h' tk ⟨.inr ⟨T,oT,true,z',k _ _ n1 n3 n4 hT,n1,n2,n3,n4,n5⟩,k _ _ D.TIz D.TIi1 D.TIi2 ti,⟨_,_,k _ _ D.TOz D.TOi1 D.TOi2 to⟩,q1,q2⟩ hp (fun c o c1 _ c3 c4 e=>k c o c1 c3 c4 e) hsz)
theorem ZSt.done {z TI TO i1 i2 tp d:Addr}{x:Str}{t:Tok}{ys:Array Value}{i:Nat}{Q:Option Value→Shared→Prop}(hh:A.handled=none)(Z:ZSt s.heap z TI TO i1 i2 tp d x t ys i)(Y:ZAp z TI TO i1 i2 tp d)
  (hend:x.cps[i]? = none∨ys[i]? = none)
  (hQ:∀h' tk,(∀c o,c≠z→c≠TO→c≠i1→c≠i2→s.heap.get? c=some o→h'.get? c=some o)→Q none {s with heap:=h',toks:=tk}) :
  wpAny (model prog w) A (pyNext (.ref z)) Q E s:=by
 obtain⟨zp,ti,⟨a,b,to⟩,s1,s2⟩:=Z
 have D:=Y.D
 obtain⟨o1,e1,r1⟩:=id s1
 obtain⟨⟨o2,e2,r2⟩,o3,e3,r3⟩:=id s2
 have hend':Ends prog w A.in1 i1 (fun h=>h.IsStrIter i1 "str_ascii_iterator" x t i)∨(Yields prog w A.in1 i1 (fun h=>h.IsStrIter i1 "str_ascii_iterator" x t i) (fun _=>True) (fun _=>True)∧Ends prog w A.in1 i2 (fun h=>h.IsTupleIter i2 tp i∧h.IsTuple tp ys)):=by
  cases hc:x.cps[i]? with
  | none=>exact .inl (ends_ascii hh hc)
  | some c =>
   rcases hend with h|h
   ·rw[hc] at h;cases h
   ·exact .inr ⟨fun s Q E g hQ=>yields_ascii hc s Q E g fun v h' tk _ _ sb=>hQ v h' tk trivial trivial sb,ends_tuple hh h⟩
 rcases zp with⟨f1,hz⟩|⟨T,oT,fb,hz,hT,n1,n2,n3,n4,n5⟩
 ·have hTy:s.TypeIs (.ref z) "zip" := ⟨_,hz,rfl⟩
  unfold pyNext
  refine wpAny_bind (wpAny_attempt (wpAny_callSpecial?_slot (name:=Str.ofString "__next__") hTy F.slot_zip_next
   (wpAny_call_entry F.slot_zip_next hTy F.entry_zip_next (next_end D hz ti to hend' ?_ ?_ ?_) (F.args_zip_next_1 _))))
  ·exact fun h' k=>⟨o1,k _ _ D.i1z e1,r1⟩
  ·exact fun h' k=>⟨⟨o2,k _ _ D.i2z D.TOi2.symm D.i12.symm e2,r2⟩,o3,k _ _ Y.tz Y.tO Y.t1 e3,r3⟩
  ·intro h' tk e k he
   obtain⟨o,ho,hc⟩:=he
   refine wpAny_bind (wpAny_isInstance (T := "StopIteration") (b:=true) ⟨o,ho,hc⟩ isSubtype_stop ?_)
   exact wpAny_pure (hQ _ _ k)
 ·have hTy:s.TypeIs (.ref z) "zip" := ⟨_,hz,rfl⟩
  unfold pyNext
  refine wpAny_bind (wpAny_attempt (wpAny_callSpecial?_slot (name:=Str.ofString "__next__") hTy F.slot_zip_next
   (wpAny_call_entry F.slot_zip_next hTy F.entry_zip_next (end_busy D hz ti hT hend' ?_ ?_ ?_) (F.args_zip_next_1 _))))
  ·exact fun h' k=>⟨o1,k _ _ D.i1z e1,r1⟩
  ·exact fun h' k=>⟨⟨o2,k _ _ D.i2z D.i12.symm e2,r2⟩,o3,k _ _ Y.tz Y.t1 e3,r3⟩
  ·intro h' tk e k he
   obtain⟨o,ho,hc⟩:=he
   refine wpAny_bind (wpAny_isInstance (T := "StopIteration") (b:=true) ⟨o,ho,hc⟩ isSubtype_stop ?_)
   exact wpAny_pure (hQ _ _ fun c o c1 _ c3 c4 e=>k c o c1 c3 c4 e)
end
end Zp
namespace Zp
open PySem
theorem entry_loop:entryFor table "dict.update.loop" = some Builtin.«dict.update.loop»:=entryFor_of_fast (by kernel_rfl)
theorem plain_loop:plainId "dict.update.loop" = true:=by decide +kernel
section
variable {prog:Program}{w:World}{K:Type} [DecidableEq K]{knd:KeyKind prog w K}{A:Around}{R:Result→Shared→Prop}
theorem upd_loop {z TI TO i1 i2 tp d:Addr}{x:Str}{t:Tok}{ys:Array Value}(hh:A.handled=none)(Y:ZAp z TI TO i1 i2 tp d)(f:Nat→K)(hk:∀c u,knd.is (f c) (.str ⟨#[c]⟩ u)=true)(hsm:x.cps.size≤1000) :
  ∀ (n i:Nat) (s:Shared) (kvs:List (K×Value)) (q:Int) (tq:Tok),min x.cps.size ys.size - i=n→i≤min x.cps.size ys.size→ZSt s.heap z TI TO i1 i2 tp d x t ys i→s.heap.DictOf knd d kvs→kvs.length≤i →
   (∀h' tk,h'.DictOf knd d (((x.cps.toList.zip ys.toList).drop i).foldl (fun m p=>stored m (f p.1) p.2) kvs)→(∀c o,c≠z→c≠TO→c≠i1→c≠i2→c≠d→s.heap.get? c=some o→h'.get? c=some o) →
    R (.ok (.ret .none)) {s with heap:=h',toks:=tk}) →
   codeAny (model prog w) A (.builtin "dict.update.loop" ⟨[.ref d,.ref z,.int q tq,.none],[]⟩) R s:=by
 intro n
 induction n with
 | zero =>
  intro i s kvs q tq hn hi Z hm hl hR
  refine codeAny_builtin entry_loop ?_
  rw[Around.under_plainId plain_loop _]
  show wpAny _ A.in1 (pyNext (.ref z) >>= _) _ _ s
  have hend:x.cps[i]? = none∨ys[i]? = none:=by
   rcases Nat.le_total x.cps.size ys.size with h|h
   ·exact .inl (Array.getElem?_eq_none (by omega))
   ·exact .inr (Array.getElem?_eq_none (by omega))
  refine wpAny_bind (Z.done hh Y hend fun h' tk k=>?_)
  refine wpAny_bind (m:=Builtin.Dict.addKeywords d []) (wpAny_pure (wpAny_pure ?_))
  have e:(x.cps.toList.zip ys.toList).drop i=[]:=List.drop_of_length_le (by simp;omega)
  rw[e] at hR
  refine hR h' tk ?_ fun c o c1 c2 c3 c4 _ e=>k c o c1 c2 c3 c4 e
  obtain⟨o,ho,r⟩:=Heap.dictOf_iff.mp hm
  exact Heap.dictOf_iff.mpr ⟨o,k _ _ Y.dz Y.dO Y.d1 Y.d2 ho,r⟩
 | succ n ih =>
  intro i s kvs q tq hn hi Z hm hl hR
  refine codeAny_builtin entry_loop ?_
  rw[Around.under_plainId plain_loop _]
  show wpAny _ A.in1 (pyNext (.ref z) >>= _) _ _ s
  have hc:x.cps[i]? = some x.cps[i]:=Array.getElem?_eq_getElem (by omega)
  have hy:ys[i]? = some ys[i]:=Array.getElem?_eq_getElem (by omega)
  have hd:d<s.heap.objs.size:=by obtain⟨o,ho,_⟩:=Heap.dictOf_iff.mp hm;exact Heap.lt_size ho
  refine wpAny_bind (Z.next Y hd hc hy fun T u h' tk Z' hp k hsz=>?_)
  dsimp only
  have hT:(⟨h',s.gens,s.drawn,tk,s.os⟩:Shared).TypeIs (.ref T) "tuple" := ⟨_,hp,rfl⟩
  refine wpAny_bind (wpAny_holding (wpAny_bind (wpAny_tryCatch ?_)))
  unfold Builtin.Dict.pairItems
  refine wpAny_bind (wpAny_typeOf hT ?_)
  rw[if_pos (by decide)]
  refine wpAny_bind (wpAny_seqItems hp rfl (wpAny_pure ?_))
  show wpAny _ A.in1 (holding [Value.str ⟨#[x.cps[i]]⟩ u,ys[i]] (dictSet d (.str ⟨#[x.cps[i]]⟩ u) ys[i])) _ _ _
  have hm':h'.DictOf knd d kvs:=by
   obtain⟨o,ho,r⟩:=Heap.dictOf_iff.mp hm
   exact Heap.dictOf_iff.mpr ⟨o,k _ _ Y.dz Y.dO Y.d1 Y.d2 ho,r⟩
  refine wpAny_holding (wpAny_dictSet_pairs (hk _ u) hm' (fun h'' hm'' sb=>?_) (by rw[sizeLine_eq];omega))
  refine wpAny_pure ⟨plainId_quiet plain_loop _,?_⟩
  have hl2:(stored kvs (f x.cps[i]) ys[i]).length≤i+1:=by
   have:=stored_length_le kvs (f x.cps[i]) ys[i]
   omega
  refine ih (i+1) _ _ _ _ (by omega) (by omega) (Z'.dict Y fun c o hc e=>sb.extBut _ _ hc e) hm'' hl2 fun h3 tk3 hm3 k3=>?_
  have e:(x.cps.toList.zip ys.toList).drop i=(x.cps[i],ys[i])::(x.cps.toList.zip ys.toList).drop (i+1):=by
   rw[List.drop_eq_getElem_cons (by simp;omega)]
   simp
  rw[e,List.foldl_cons] at hR
  exact hR h3 tk3 hm3 fun c o c1 c2 c3 c4 c5 e=>k3 c o c1 c2 c3 c4 c5 (sb.extBut _ _ c5 (k c o c1 c2 c3 c4 e))
end
end Zp
namespace Zp
open PySem
section
variable {prog:Program}{w:World}{K:Type} [DecidableEq K]{knd:KeyKind prog w K}{A:Around}{E:Value→Shared→Prop}{s:Shared}
theorem call_dict_zip {z TI TO i1 i2 tp:Addr}{x:Str}{t:Tok}{ys:Array Value}{Q:Value→Shared→Prop}(hh:A.handled=none)(D:Apart z TI TO i1 i2)(n1:tp≠z)(n2:tp≠TO)(n3:tp≠i1)(n4:tp≠i2)
  (f:Nat→K) (hk:∀c u,knd.is (f c) (.str ⟨#[c]⟩ u)=true) (hsm:x.cps.size≤1000)
  (hz:IsZipF s.heap z TI TO .none (.bool false)) (hTI:IsPair s.heap TI (.ref i1) (.ref i2)) (hTO:IsPair s.heap TO .none .none) (h1:s.heap.IsStrIter i1 "str_ascii_iterator" x t 0) (h2:s.heap.IsTupleIter i2 tp 0) (h3:s.heap.IsTuple tp ys)
  (h:∀h' tk,h'.DictOf knd s.heap.objs.size ((x.cps.toList.zip ys.toList).foldl (fun m p=>stored m (f p.1) p.2) [])→(∀c o,c≠z→c≠TO→c≠i1→c≠i2→s.heap.get? c=some o→h'.get? c=some o) →
   Q (.ref s.heap.objs.size) {s with heap:=h',toks:=tk}) :
  wpAny (model prog w) A (call (.type "dict") [.ref z]) Q E s:=by
 refine callType_codes (Q₁:=fun obj s₁=>obj=.ref s.heap.objs.size∧s₁={s with heap:=s.heap.push {cls:=.type "dict", data:=.dict #[]} }) F.kt_called_dict (F.kt_typeCall_dict_1 _) F.entry_dict_init (kt_code_dict_new _ ⟨rfl,rfl⟩) ?_
 rintro obj s₁ ⟨rfl,rfl⟩
 have hnew:(s.heap.push {cls:=.type "dict", data:=.dict #[]}).DictOf knd s.heap.objs.size []:=Heap.DictOf.new s.heap
 have up:∀c o,s.heap.get? c=some o→(s.heap.push {cls:=.type "dict", data:=.dict #[]}).get? c=some o:=fun c o e=>Heap.get?_push_of_some _ e
 have hz':=up _ _ hz
 have hzT:({s with heap:=s.heap.push {cls:=.type "dict", data:=.dict #[]} }:Shared).TypeIs (.ref z) "zip" := ⟨_,hz',rfl⟩
 have lt:∀{c:Addr}{o:Obj},s.heap.get? c=some o→s.heap.objs.size≠c:=fun e=>Nat.ne_of_gt (Heap.lt_size e)
 obtain⟨o1,e1,r1⟩:=h1
 obtain⟨o2,e2,r2⟩:=h2
 obtain⟨o3,e3,r3⟩:=h3
 have Y:ZAp z TI TO i1 i2 tp s.heap.objs.size:=⟨D,n1,n2,n3,n4,lt hz,lt hTI,lt hTO,lt e1,lt e2,lt e3⟩
 refine⟨hnew.typeIs,F.args_dict_init_2 _ _,?_⟩
 unfold Builtin.«dict.__init__»
 refine wpAny_bind ?_
 unfold Builtin.Dict.selfAndRest
 refine wpAny_bind (wpAny_notOrdered_dict hnew.typeIs ?_)
 show wpAny _ _ (pure (s.heap.objs.size,[Value.ref z])) _ _ _
 refine wpAny_pure ?_
 show wpAny _ _ (Builtin.Dict.updateFrom "dict.__init__" s.heap.objs.size (.ref z) [] .none) _ _ _
 unfold Builtin.Dict.updateFrom
 refine wpAny_bind (wpAny_typeOf hzT ?_)
 rw[if_pos (by decide)]
 refine wpAny_bind (no_keys hz' hh fun h4 tk4 k4=>?_)
 simp only[Option.isNone_none,if_true]
 refine wpAny_bind (wpAny_rule ?_)
 have Z:ZSt h4 z TI TO i1 i2 tp s.heap.objs.size x t ys 0:=⟨.inl ⟨false,k4 _ _ hz'⟩,k4 _ _ (up _ _ hTI),⟨_,_,k4 _ _ (up _ _ hTO)⟩,⟨o1,k4 _ _ (up _ _ e1),r1⟩,⟨o2,k4 _ _ (up _ _ e2),r2⟩,o3,k4 _ _ (up _ _ e3),r3⟩
 have hm:h4.DictOf knd s.heap.objs.size []:=by
  obtain⟨o,ho,r⟩:=Heap.dictOf_iff.mp hnew
  exact Heap.dictOf_iff.mpr ⟨o,k4 _ _ ho,r⟩
 refine wpAny_bind (wpAny_pyIter_zip (k4 _ _ hz') ?_)
 refine wpAny_pure ⟨plainId_quiet plain_loop _,?_⟩
 refine upd_loop (knd:=knd) (A:=A.in1) hh Y f hk hsm _ 0 _ [] _ _ rfl (Nat.zero_le _) Z hm (Nat.le_refl _) fun h5 tk5 hm5 k5=>?_
 exact⟨rfl,h h5 tk5 (by simpa using hm5) fun c o c1 c2 c3 c4 e=>k5 c o c1 c2 c3 c4 (fun q=>lt e q.symm) (k4 _ _ (up _ _ e))⟩
end
end Zp
namespace Zp
open PySem
section
variable {prog:Program}{w:World}{A:Around}{E:Value→Shared→Prop}{s:Shared}
theorem nextOf_list_item {it t:Addr}{i:Nat}{items}{x:Value}{Q:Value→Shared→Prop}(hit:s.heap.IsListIter it t i)
  (ht:s.heap.IsList t items) (hx:items[i]? = some x)
  (hQ:∀h',h'.IsListIter it t (i+1)→Heap.SameBut it s.heap h'→Q x {s with heap:=h'}) :
  wpAny (model prog w) A (Builtin.SmallTypes.nextOf (.ref it)) Q E s:=by
 obtain⟨o,ho,hc,hd⟩:=id hit
 obtain⟨ol,hol,_,nl,hdl⟩:=ht
 unfold Builtin.SmallTypes.nextOf
 refine wpAny_bind (wpAny_callSpecial?_slot (name:=Str.ofString "__next__") hit.typeIs slot_listiter_next
  (wpAny_call_entry slot_listiter_next hit.typeIs entry_listiter_next ?_ (args_listiter_next _)))
 show wpAny _ _ (field (.ref it) 0 >>= _) _ _ s
 refine wpAny_bind (wpAny_field ho hd (x:=.ref t) rfl ?_)
 show wpAny _ _ (if (Value.ref t == Value.none)=true then _ else _) _ _ s
 rw[if_neg (show ¬((Value.ref t == Value.none)=true) from Bool.false_ne_true)]
 show wpAny _ _ (field (.ref it) 1 >>= _) _ _ s
 refine wpAny_bind (wpAny_field ho hd (x:=.int i 0) rfl ?_)
 show wpAny _ _ (seqItems? (.ref t) >>= _) _ _ s
 refine wpAny_bind (wpAny_seqItems hol hdl ?_)
 simp only[Int.toNat_natCast,hx]
 refine wpAny_bind (wpAny_setField ho hd (by simp) (wpAny_pure ⟨x,rfl,wpAny_pure (hQ _ ?_ (Heap.SameBut.update ..))⟩))
 exact ⟨_,Heap.get?_update_self _ ho (Obj.isFreed_of_fields (Obj.data_mapFields hd _)),(Obj.cls_mapFields ..).trans hc,by
  rw[Obj.data_mapFields hd];simp[rawInt]⟩
theorem nextOf_list_end {it t:Addr}{i:Nat}{items}{Q:Value→Shared→Prop}(hh:A.handled=none)
  (hit:s.heap.IsListIter it t i) (ht:s.heap.IsList t items) (hx:items[i]? = none)
  (hE:∀h' e,Heap.ExtBut it s.heap h'→(∃o,h'.get? e=some o∧o.cls=.type "StopIteration")→E (.ref e) {s with heap:=h'}) :
  wpAny (model prog w) A (Builtin.SmallTypes.nextOf (.ref it)) Q E s:=by
 obtain⟨o,ho,hc,hd⟩:=id hit
 obtain⟨ol,hol,_,nl,hdl⟩:=ht
 unfold Builtin.SmallTypes.nextOf
 refine wpAny_bind (wpAny_callSpecial?_slot (name:=Str.ofString "__next__") hit.typeIs slot_listiter_next
  (wpAny_call_entry slot_listiter_next hit.typeIs entry_listiter_next ?_ (args_listiter_next _)))
 show wpAny _ _ (field (.ref it) 0 >>= _) _ _ s
 refine wpAny_bind (wpAny_field ho hd (x:=.ref t) rfl ?_)
 show wpAny _ _ (if (Value.ref t == Value.none)=true then _ else _) _ _ s
 rw[if_neg (show ¬((Value.ref t == Value.none)=true) from Bool.false_ne_true)]
 show wpAny _ _ (field (.ref it) 1 >>= _) _ _ s
 refine wpAny_bind (wpAny_field ho hd (x:=.int i 0) rfl ?_)
 show wpAny _ _ (seqItems? (.ref t) >>= _) _ _ s
 refine wpAny_bind (wpAny_seqItems hol hdl ?_)
 simp only[Int.toNat_natCast,hx]
 refine wpAny_bind (wpAny_rule (wpAny_bind (wpAny_setField ho hd (by simp) ?_)))
 show wpAny _ _ (newExc (.type "StopIteration") [] >>= _) _ _ _
 refine wpAny_bind ?_
 simp only[newExc,newTuple]
 refine wpAny_bind (wpAny_newObj_type ?_ (by size_fits))
 refine wpAny_bind (m:=firstArgMember _ _) (wpAny_of_eq (a:=Value.none) (by first|rfl|(simp only[firstArgMember];rfl)) ?_)
 refine wpAny_newObj_type ?_ (by size_fits)
 simp only[raiseNew]
 refine wpAny_bind (wpAny_handled ?_)
 first|rw[show A.in1.handled=none from hh] | rw[hh]
 refine wpAny_bind (wpAny_pure (wpAny_throw ?_))
 exact hE _ _ (((Heap.SameBut.update ..).extBut.push _).push _) ⟨_,Heap.get?_push_size _ rfl,rfl⟩
end
structure Src (prog:Program)(w:World)(it tp:Addr)(n:Nat)(g:Nat→Value)(S:Nat→Heap→Prop):Prop where
 yl:∀(A:Around) (i:Nat),i<n→Yields prog w A it (S i) (fun v=>v=g i) (S (i+1))
 en:∀(A:Around) (i:Nat),A.handled=none→n≤i→Ends prog w A it (S i)
 mv:∀(i:Nat) (h h':Heap),S i h→(∀o,h.get? it=some o→h'.get? it=some o)→(∀o,h.get? tp=some o→h'.get? tp=some o)→S i h'
 li:∀(i:Nat) (h:Heap),S i h→(∃o,h.get? it=some o)∧∃o,h.get? tp=some o
structure GAp (z TI TO i1 i2 p1 p2 d:Addr):Prop where
 D:Apart z TI TO i1 i2
 az:p1≠z
 aO:p1≠TO
 a2:p1≠i2
 bz:p2≠z
 bO:p2≠TO
 b1:p2≠i1
 dz:d≠z
 dI:d≠TI
 dO:d≠TO
 d1:d≠i1
 d2:d≠i2
 da:d≠p1
 db:d≠p2
structure GSt (h:Heap)(z TI TO i1 i2 d:Addr)(S1 S2:Nat→Heap→Prop)(i:Nat):Prop where
 zip:(∃f1,IsZipF h z TI TO .none (.bool f1))∨∃(T:Addr) (oT:Obj) (fb:Bool),IsZipF h z TI TO (rawInt T) (.bool fb)∧h.get? T=some oT∧T≠z∧T≠TO∧T≠i1∧T≠i2∧T≠d
 ti:IsPair h TI (.ref i1) (.ref i2)
 to:∃a b,IsPair h TO a b
 s1:S1 i h
 s2:S2 i h
section
variable {prog:Program}{w:World}{A:Around}{E:Value→Shared→Prop}{s:Shared}{z TI TO i1 i2 p1 p2 d:Addr}{n1 n2:Nat}{g1 g2:Nat→Value}{S1 S2:Nat→Heap→Prop}
theorem GSt.dict {h h':Heap}{i:Nat}(Z:GSt h z TI TO i1 i2 d S1 S2 i)(Y:GAp z TI TO i1 i2 p1 p2 d)(C1:Src prog w i1 p1 n1 g1 S1)(C2:Src prog w i2 p2 n2 g2 S2)
  (k:∀c o,c≠d→h.get? c=some o→h'.get? c=some o):GSt h' z TI TO i1 i2 d S1 S2 i:=by
 obtain⟨zp,ti,⟨a,b,to⟩,s1,s2⟩:=Z
 refine⟨?_,k _ _ (Ne.symm Y.dI) ti,⟨a,b,k _ _ (Ne.symm Y.dO) to⟩,C1.mv _ _ _ s1 (fun o=>k _ o (Ne.symm Y.d1)) (fun o=>k _ o (Ne.symm Y.da)),C2.mv _ _ _ s2 (fun o=>k _ o (Ne.symm Y.d2)) (fun o=>k _ o (Ne.symm Y.db))⟩
 rcases zp with⟨f1,hz⟩|⟨T,oT,fb,hz,hT,n1,n2,n3,n4,n5⟩
 ·exact .inl ⟨f1,k _ _ (Ne.symm Y.dz) hz⟩
 ·exact .inr ⟨T,oT,fb,k _ _ (Ne.symm Y.dz) hz,k _ _ n5 hT,n1,n2,n3,n4,n5⟩
theorem GSt.next {i:Nat}{Q:Option Value→Shared→Prop}(Z:GSt s.heap z TI TO i1 i2 d S1 S2 i)(Y:GAp z TI TO i1 i2 p1 p2 d)(C1:Src prog w i1 p1 n1 g1 S1)(C2:Src prog w i2 p2 n2 g2 S2)
  (hd:d<s.heap.objs.size) (hc:i<n1) (hy:i<n2)
  (hQ:∀(T:Addr) h' tk,GSt h' z TI TO i1 i2 d S1 S2 (i+1)→IsPair h' T (g1 i) (g2 i)→(∀c o,c≠z→c≠TO→c≠i1→c≠i2→s.heap.get? c=some o→h'.get? c=some o)→h'.objs.size=s.heap.objs.size+1→Q (some (.ref T)) {s with heap:=h',toks:=tk}) :
  wpAny (model prog w) A (pyNext (.ref z)) Q E s:=by
 obtain⟨zp,ti,⟨a,b,to⟩,s1,s2⟩:=Z
 have D:=Y.D
 obtain⟨⟨o1,e1⟩,_⟩:=C1.li _ _ s1
 obtain⟨⟨o2,e2⟩,_⟩:=C2.li _ _ s2
 have lt:∀{c:Addr}{o:Obj},s.heap.get? c=some o→s.heap.objs.size≠c:=fun e=>Nat.ne_of_gt (Heap.lt_size e)
 have Y1:=C1.yl A.in1 i hc
 have Y2:=C2.yl A.in1 i hy
 rcases zp with⟨f1,hz⟩|⟨T,oT,fb,hz,hT,n1,n2,n3,n4,n5⟩
 ·have hTy:s.TypeIs (.ref z) "zip" := ⟨_,hz,rfl⟩
  unfold pyNext
  refine wpAny_bind (wpAny_attempt (wpAny_callSpecial?_slot (name:=Str.ofString "__next__") hTy F.slot_zip_next
   (wpAny_call_entry F.slot_zip_next hTy F.entry_zip_next (next_item D hz ti to Y1 Y2 ?_ ?_ ?_ ?_ ?_) (F.args_zip_next_1 _))))
  ·exact fun h' k=>C1.mv _ _ _ s1 (fun o=>k _ o D.i1z) (fun o=>k _ o Y.az)
  ·exact fun h' k=>C2.mv _ _ _ s2 (fun o=>k _ o D.i2z D.TOi2.symm D.i12.symm) (fun o=>k _ o Y.bz Y.bO Y.b1)
  ·exact fun h h' q k=>C1.mv _ _ _ q (fun o=>k _ o D.i1z D.TOi1.symm D.i12) (fun o=>k _ o Y.az Y.aO Y.a2)
  ·exact fun h h' q k=>C2.mv _ _ _ q (fun o=>k _ o D.i2z D.TOi2.symm) (fun o=>k _ o Y.bz Y.bO)
  ·rintro v1 v2 h' tk rfl rfl z' to' q1 q2 hp hsz k
   refine wpAny_pure (hQ _ h' tk ⟨.inr ⟨_,_,false,z',hp,lt hz,lt to,lt e1,lt e2,Nat.ne_of_gt hd⟩,k _ _ D.TIz D.TITO D.TIi1 D.TIi2 ti,⟨_,_,to'⟩,q1,q2⟩ hp k hsz)
 ·have hTy:s.TypeIs (.ref z) "zip" := ⟨_,hz,rfl⟩
  unfold pyNext
  refine wpAny_bind (wpAny_attempt (wpAny_callSpecial?_slot (name:=Str.ofString "__next__") hTy F.slot_zip_next
   (wpAny_call_entry F.slot_zip_next hTy F.entry_zip_next (next_busy D hz ti hT Y1 Y2 ?_ ?_ ?_ ?_ ?_) (F.args_zip_next_1 _))))
  ·exact fun h' k=>C1.mv _ _ _ s1 (fun o=>k _ o D.i1z) (fun o=>k _ o Y.az)
  ·exact fun h' k=>C2.mv _ _ _ s2 (fun o=>k _ o D.i2z D.i12.symm) (fun o=>k _ o Y.bz Y.b1)
  ·exact fun h h' q k=>C1.mv _ _ _ q (fun o=>k _ o D.i12) (fun o=>k _ o Y.a2)
  ·exact fun h h' q k=>C2.mv _ _ _ q (fun o=>k _ o) (fun o=>k _ o)
  ·rintro v1 v2 h' tk rfl rfl z' q1 q2 hp hsz k
   exact wpAny_pure (hQ _ h' tk ⟨.inr ⟨T,oT,true,z',k _ _ n1 n3 n4 hT,n1,n2,n3,n4,n5⟩,k _ _ D.TIz D.TIi1 D.TIi2 ti,⟨_,_,k _ _ D.TOz D.TOi1 D.TOi2 to⟩,q1,q2⟩ hp (fun c o c1 _ c3 c4 e=>k c o c1 c3 c4 e) hsz)
end
section
variable {prog:Program}{w:World}{A:Around}{E:Value→Shared→Prop}{s:Shared}
abbrev lIter (t:Addr):Obj:={cls:=.type "list_iterator", data:=.fields #[.ref t,.int 0 0]}
end
end Zp
set_option maxHeartbeats 1000000
namespace L2
open PySem PySem.Spec PyProof.Rows
def TxtOk (x:Str):Prop:=PyData.strOk x=true∧x.length≤1000000
mutual
inductive Is (K:PySem.W.Frag)(H:Hp):V→PyData→Prop
 | non:Is K H .non .none
 | bl (b:Bool):Is K H (.bl b) (.bool b)
 | int (i:Int):Is K H (.int i) (.int i)
 | str (x:Str) (ok:TxtOk x):Is K H (.str x) (.str x)
 | lst {a:Addr}{xs:List V}{ds:List PyData}:SqL K H a xs→Iss K H xs ds→Is K H (.ref a) (.list ds)
 | tup {a:Addr}{xs:List V}{ds:List PyData}:SqT K H a xs→Iss K H xs ds→Is K H (.ref a) (.tuple ds)
inductive Iss (K:PySem.W.Frag)(H:Hp):List V→List PyData→Prop
 | nil:Iss K H [] []
 | cons {v:V}{d:PyData}{vs:List V}{ds:List PyData}:Is K H v d→Iss K H vs ds→Iss K H (v::vs) (d::ds)
end
theorem Same.seqT {K:PySem.W.Frag}{H H':Hp}{a:Addr}{xs:List V}(e:Same H H')(h:SqT K H a xs):SqT K H' a xs:=by
 rcases h with(h|⟨o,h⟩)|h
 ·exact .inl (.inl (e _ _ h))
 ·exact .inl (.inr ⟨o,e _ _ h⟩)
 ·exact .inr h
section
variable {K:PySem.W.Frag}{H H':Hp}
theorem Is.mono_both (e:Same H H'):(∀{v:V}{d:PyData},Is K H v d→Is K H' v d)∧(∀{vs:List V}{ds:List PyData},Iss K H vs ds→Iss K H' vs ds):=by
 refine⟨fun {v d} h=>?_,fun {vs ds} h=>?_⟩
 ·exact Is.rec (motive_1:=fun v d _=>Is K H' v d) (motive_2:=fun vs ds _=>Iss K H' vs ds) .non .bl .int .str (fun q _ ih=>.lst (e.seq q) ih) (fun q _ ih=>.tup (e.seqT q) ih) .nil (fun _ _ a b=>.cons a b) h
 ·exact Iss.rec (motive_1:=fun v d _=>Is K H' v d) (motive_2:=fun vs ds _=>Iss K H' vs ds) .non .bl .int .str (fun q _ ih=>.lst (e.seq q) ih) (fun q _ ih=>.tup (e.seqT q) ih) .nil (fun _ _ a b=>.cons a b) h
theorem Is.mono {v:V}{d:PyData}(h:Is K H v d)(e:Same H H'):Is K H' v d:=(Is.mono_both e).1 h
theorem Iss.mono {vs:List V}{ds:List PyData}(h:Iss K H vs ds)(e:Same H H'):Iss K H' vs ds:=(Is.mono_both e).2 h
theorem Iss.length:∀{vs:List V}{ds:List PyData},Iss K H vs ds→vs.length=ds.length
 | _,_,.nil=>rfl
 | _,_,.cons _ r=>by simp[r.length]
theorem Iss.append:∀{vs ws:List V}{ds es:List PyData},Iss K H vs ds→Iss K H ws es→Iss K H (vs++ws) (ds++es)
 | _,_,_,_,.nil,s=>s
 | _,_,_,_,.cons r t,s=>.cons r (Iss.append t s)
theorem Iss.get:∀{vs:List V}{ds:List PyData}{i:Nat}{v:V},Iss K H vs ds→vs[i]? = some v→∃d,ds[i]? = some d∧Is K H v d
 | _,_,_,_,.nil,e=>by simp at e
 | _,_,0,_,.cons r _,e=>by simp at e;subst e;exact⟨_,rfl,r⟩
 | _,_,i+1,v,.cons _ t,e=>by
  obtain⟨d,h1,h2⟩:=Iss.get (i:=i) (v:=v) t (by simpa using e)
  exact⟨d,by simpa using h1,h2⟩
theorem Iss.take:∀{vs:List V}{ds:List PyData} (n:Nat),Iss K H vs ds→Iss K H (vs.take n) (ds.take n)
 | _,_,0,_=>.nil
 | _,_,_+1,.nil=>.nil
 | _,_,n+1,.cons r t=>.cons r (Iss.take n t)
theorem Iss.drop:∀{vs:List V}{ds:List PyData} (n:Nat),Iss K H vs ds→Iss K H (vs.drop n) (ds.drop n)
 | _,_,0,r=>r
 | _,_,_+1,.nil=>.nil
 | _,_,n+1,.cons _ t=>Iss.drop n t
theorem Is.can_both:(∀{v:V}{d:PyData},Is K H v d→d.canLay0=true)∧(∀{vs:List V}{ds:List PyData},Iss K H vs ds→PyData.canLayAll0 ds=true):=by
 have hs:∀(x:Str),TxtOk x→(PyData.str x).canLay0=true:=fun x h=>h.1
 refine⟨fun {v d} h=>?_,fun {vs ds} h=>?_⟩
 ·exact Is.rec (motive_1:=fun v d _=>d.canLay0=true) (motive_2:=fun vs ds _=>PyData.canLayAll0 ds=true) rfl (fun _=>rfl) (fun _=>rfl) hs (fun _ _ ih=>ih) (fun _ _ ih=>ih) rfl (fun _ _ a b=>by simp[PyData.canLayAll0,a,b]) h
 ·exact Iss.rec (motive_1:=fun v d _=>d.canLay0=true) (motive_2:=fun vs ds _=>PyData.canLayAll0 ds=true) rfl (fun _=>rfl) (fun _=>rfl) hs (fun _ _ ih=>ih) (fun _ _ ih=>ih) rfl (fun _ _ a b=>by simp[PyData.canLayAll0,a,b]) h
theorem Is.can {v:V}{d:PyData}(h:Is K H v d):d.canLay0=true:=Is.can_both.1 h
end
section
variable {X:Cx}{pins:List (Addr×Obj)}{σ:St}{H:Hp}{s:Shared}
theorem Inv.reads_both (I:Inv X pins σ H s):(∀{v:V}{d:PyData},Is X.K H v d→∀{u:Value},RelV v u→∃as,Reads s.heap u d as)∧(∀{vs:List V}{ds:List PyData},Iss X.K H vs ds→∀{us:List Value},Vals vs us→∃as,ReadsAll s.heap us ds as):=by
 have h1:∀{u:Value},RelV .non u→∃as,Reads s.heap u .none as:=fun {u} r=>by cases r;exact⟨_,.none⟩
 have h2:∀(b:Bool) {u:Value},RelV (.bl b) u→∃as,Reads s.heap u (.bool b) as:=fun b {u} r=>by cases r;exact⟨_,.bool b⟩
 have h3:∀(i:Int) {u:Value},RelV (.int i) u→∃as,Reads s.heap u (.int i) as:=fun i {u} r=>by obtain⟨t,rfl⟩:=r;exact⟨_,.int i t⟩
 have h4:∀(x:Str),TxtOk x→∀{u:Value},RelV (.str x) u→∃as,Reads s.heap u (.str x) as:=fun x _ {u} r=>by obtain⟨t,rfl⟩:=r;exact⟨_,.str x t⟩
 have h5:∀{a:Addr}{xs:List V}{ds:List PyData} (_:SqL X.K H a xs) (_:Iss X.K H xs ds),(∀{us:List Value},Vals xs us→∃as,ReadsAll s.heap us ds as)→∀{u:Value},RelV (.ref a) u→∃as,Reads s.heap u (.list ds) as:=by
  intro a xs ds q _ ih u r
  cases r
  obtain⟨its,rv,⟨o,n,e,hc,_,hd⟩,_⟩:=I.list q
  obtain⟨as,ra⟩:=ih rv
  exact⟨_,.list e hc hd (by simpa using ra)⟩
 have h6:∀{a:Addr}{xs:List V}{ds:List PyData} (_:SqT X.K H a xs) (_:Iss X.K H xs ds),(∀{us:List Value},Vals xs us→∃as,ReadsAll s.heap us ds as)→∀{u:Value},RelV (.ref a) u→∃as,Reads s.heap u (.tuple ds) as:=by
  intro a xs ds q _ ih u r
  cases r
  obtain⟨its,rv,⟨o,e,hc,n,hd⟩,_⟩:=I.tuple q
  obtain⟨as,ra⟩:=ih rv
  exact⟨_,.tuple e hc hd (by simpa using ra)⟩
 have h7:∀{us:List Value},Vals [] us→∃as,ReadsAll s.heap us [] as:=fun {us} r=>by cases r;exact⟨_,.nil⟩
 have h8:∀{v:V}{d:PyData}{vs:List V}{ds:List PyData} (_:Is X.K H v d) (_:Iss X.K H vs ds),(∀{u:Value},RelV v u→∃as,Reads s.heap u d as)→(∀{us:List Value},Vals vs us→∃as,ReadsAll s.heap us ds as)→∀{us:List Value},Vals (v::vs) us→∃as,ReadsAll s.heap us (d::ds) as:=by
  intro v d vs ds _ _ a b us r
  cases r with
  | cons r t =>
   obtain⟨_,ra⟩:=a r
   obtain⟨_,rb⟩:=b t
   exact⟨_,.cons ra rb⟩
 refine⟨fun {v d} h=>?_,fun {vs ds} h=>?_⟩
 ·exact Is.rec (motive_1:=fun v d _=>∀{u:Value},RelV v u→∃as,Reads s.heap u d as) (motive_2:=fun vs ds _=>∀{us:List Value},Vals vs us→∃as,ReadsAll s.heap us ds as) h1 h2 h3 h4 h5 h6 h7 h8 h
 ·exact Iss.rec (motive_1:=fun v d _=>∀{u:Value},RelV v u→∃as,Reads s.heap u d as) (motive_2:=fun vs ds _=>∀{us:List Value},Vals vs us→∃as,ReadsAll s.heap us ds as) h1 h2 h3 h4 h5 h6 h7 h8 h
theorem Inv.reads (I:Inv X pins σ H s){v:V}{d:PyData}{u:Value}(h:Is X.K H v d)(r:RelV v u):∃as,Reads s.heap u d as:=I.reads_both.1 h r
def rEqD (K:PySem.W.Frag):R2:=fun x y H Q=>∃d e,Is K H x d∧Is K H y e∧d.depth≤60∧Q (.bl (PyData.eqv d e)) H
def rNeD (K:PySem.W.Frag):R2:=fun x y H Q=>∃d e,Is K H x d∧Is K H y e∧d.depth≤60∧Q (.bl (!PyData.eqv d e)) H
theorem op_eqD (hu:X.A.units+64<cLine):OpR X (compareOp .Eq) (rEqD X.K):=by
 intro pins s σ H x y v u Q I rx ry h
 obtain⟨d,e,hd,he,hz,q⟩:=h
 obtain⟨_,ra⟩:=I.reads hd rx
 obtain⟨_,rb⟩:=I.reads he ry
 exact SeqAt.rcAt_reads ra rb hd.can he.can (by omega) X.prog X.w X.xe _ (fin_bl I q rfl)
theorem op_neD (hu:X.A.units+64<cLine):OpR X (compareOp .NotEq) (rNeD X.K):=by
 intro pins s σ H x y v u Q I rx ry h
 obtain⟨d,e,hd,he,hz,q⟩:=h
 obtain⟨_,ra⟩:=I.reads hd rx
 obtain⟨_,rb⟩:=I.reads he ry
 exact SeqAt.rcNeAt_reads ra rb hd.can he.can (by omega) X.prog X.w X.xe _ (fin_bl I q rfl)
end
end L2
namespace L2
open PySem PySem.Spec PyProof.Rows
def closOf (scope:Scope)(env:Env):List (Str×Addr):=scope.names.foldl (fun cs y=>if y.2 == NameKind.free then(y.1,(env.cells.lookup y.1).getD 0)::cs else cs) []
theorem closureFor_eq {scope:Scope}{env:Env}(h:∀y∈scope.names,y.2=.free→∃c,env.cells.lookup y.1=some c):closureFor scope env=pure (closOf scope env):=by
 have key:∀(names:List (Str×NameKind)) (cs:List (Str×Addr)),(∀y∈names,y.2=.free→∃c,env.cells.lookup y.1=some c) →
   (forIn names cs (fun(x:Str×NameKind) (r:List (Str×Addr))=>if (x.2 == NameKind.free)=true then(do let a ← cellOf env x.1;pure (ForInStep.yield ((x.1,a)::r)):Sem (ForInStep (List (Str×Addr)))) else pure (ForInStep.yield r))) =
    pure (names.foldl (fun cs y=>if y.2 == NameKind.free then(y.1,(env.cells.lookup y.1).getD 0)::cs else cs) cs):=by
  intro names
  induction names with
  | nil=>intro cs _;rfl
  | cons y r ih =>
   intro cs hy
   have hr:∀z∈r,z.2=.free→∃c,env.cells.lookup z.1=some c:=fun z hz=>hy z (List.mem_cons_of_mem _ hz)
   rw[List.forIn_cons,List.foldl_cons]
   cases hk:(y.2 == NameKind.free) with
   | false =>
    simp only[Bool.false_eq_true,if_false]
    exact ih cs hr
   | true =>
    have e:y.2=.free:=by simpa using hk
    obtain⟨c,hc⟩:=hy y List.mem_cons_self e
    have hco:cellOf env y.1=pure c:=by unfold cellOf;rw[hc]
    simp only[if_true,hco,hc,Option.getD_some]
    exact ih _ hr
 unfold closureFor closOf
 have:=key scope.names [] h
 first|exact(congrArg (· >>= fun r=>pure r) this).trans rfl|exact this|simpa using this
theorem closOf_mem {scope:Scope}{env:Env}(h:∀y∈scope.names,y.2=.free→∃c,env.cells.lookup y.1=some c):∀p∈closOf scope env,env.cells.lookup p.1=some p.2∧(p.1,NameKind.free)∈scope.names:=by
 have key:∀(names:List (Str×NameKind)) (cs:List (Str×Addr)),(∀y∈names,y∈scope.names)→(∀p∈cs,env.cells.lookup p.1=some p.2∧(p.1,NameKind.free)∈scope.names) →
   ∀p∈names.foldl (fun cs y=>if y.2 == NameKind.free then(y.1,(env.cells.lookup y.1).getD 0)::cs else cs) cs,env.cells.lookup p.1=some p.2∧(p.1,NameKind.free)∈scope.names:=by
  intro names
  induction names with
  | nil=>intro cs _ hc;exact hc
  | cons y r ih =>
   intro cs hs hc
   rw[List.foldl_cons]
   refine ih _ (fun z hz=>hs z (List.mem_cons_of_mem _ hz)) ?_
   cases hk:(y.2 == NameKind.free) with
   | false=>simp only[Bool.false_eq_true,if_false];exact hc
   | true =>
    have e:y.2=.free:=by simpa using hk
    obtain⟨c,hcc⟩:=h y (hs y List.mem_cons_self) e
    simp only[if_true]
    intro p hp
    rcases List.mem_cons.mp hp with rfl|hp
    ·exact⟨by rw[hcc];rfl,by have:=hs y List.mem_cons_self;rw[← e];exact this⟩
    ·exact hc p hp
 exact key scope.names [] (fun _ h=>h) (fun p hp=>by cases hp)
theorem lookup_of_key {l:List (Str×Addr)}{x:Str}(h:∃p∈l,p.1=x):∃c,l.lookup x=some c:=by
 induction l with
 | nil=>obtain⟨p,hp,_⟩:=h;cases hp
 | cons q r ih =>
  rw[List.lookup_cons]
  cases hq:(x == q.1) with
  | true=>exact⟨_,rfl⟩
  | false =>
   obtain⟨p,hp,e⟩:=h
   rcases List.mem_cons.mp hp with rfl|hp
   ·subst e;simp at hq
   ·exact ih ⟨p,hp,e⟩
theorem closOf_has {scope:Scope}{env:Env}{x:Str}(hx:(x,NameKind.free)∈scope.names):∃c,(closOf scope env).lookup x=some c:=by
 refine lookup_of_key ?_
 have key:∀(names:List (Str×NameKind)) (cs:List (Str×Addr)),((x,NameKind.free)∈names∨∃p∈cs,p.1=x) →
   ∃p∈names.foldl (fun cs y=>if y.2 == NameKind.free then(y.1,(env.cells.lookup y.1).getD 0)::cs else cs) cs,p.1=x:=by
  intro names
  induction names with
  | nil=>intro cs h;rcases h with h|h;cases h;exact h
  | cons y r ih =>
   intro cs h
   rw[List.foldl_cons]
   refine ih _ ?_
   rcases h with h|⟨p,hp,e⟩
   ·rcases List.mem_cons.mp h with h|h
    ·subst h
     exact .inr ⟨_,List.mem_cons_self,rfl⟩
    ·exact .inl h
   ·refine .inr ⟨p,?_,e⟩
    cases (y.2 == NameKind.free) with
    | true=>exact List.mem_cons_of_mem _ hp
    | false=>exact hp
 exact key scope.names [] (.inl hx)
theorem relabel_lookup {scope:Scope}{env:Env}{x:Str}:(relabel scope env).names.lookup x=(scope.names.lookup x).map fun k=>if (k == NameKind.free&&env.scope.kind == .function&&env.kindOf x == some .cell) then NameKind.cell else k:=by
 show(scope.names.map _).lookup x=_
 induction scope.names with
 | nil=>rfl
 | cons y r ih =>
  obtain⟨n,k⟩:=y
  rw[List.map_cons,List.lookup_cons]
  cases hx:(x == n) with
  | true =>
   have e:x=n:=by simpa using hx
   subst e
   show List.lookup x ((if (k == NameKind.free&&env.scope.kind == .function&&env.kindOf x == some .cell)=true then(x,NameKind.cell) else(x,k))::_)=_
   split
   ·rename_i h
    simp only[List.lookup_cons,hx,Option.map_some]
    rw[if_pos h]
   ·rename_i h
    simp only[List.lookup_cons,hx,Option.map_some]
    rw[if_neg h]
  | false =>
   show List.lookup x ((if (k == NameKind.free&&env.scope.kind == .function&&env.kindOf n == some .cell)=true then(n,NameKind.cell) else(n,k))::_)=_
   split <;>simp only[List.lookup_cons,hx] <;>exact ih
structure CompOk (X:Cx)(scope:Scope)(caps:List Nat):Prop where
 kind:scope.kind=.function
 ncell:∀y∈scope.names,y.2=.cell→scope.names.lookup y.1=some .cell
 locs:∀y∈scope.names,y.2=.local→scope.names.lookup y.1=some .local
 free:∀y∈scope.names,y.2=.free→X.env.kindOf y.1=some .cell∨X.env.kindOf y.1=some .free
 caps:∀i∈caps,∃y,X.N[i]? = some y∧scope.names.lookup y=some .free
def capN (X:Cx)(own:List Str)(caps:List Nat):List Str:=own++caps.map fun i=>X.N.getD i Str.empty
def capS (own:List Str)(caps:List Nat)(σ:St):St:=own.map (fun _=>none)++caps.map fun i=>(σ[i]?).getD none
def ownC (scope:Scope)(C:Addr):List (Str×Addr):=cellsFrom (C+1) scope.names []
def allC (scope:Scope)(env:Env)(C:Addr):List (Str×Addr):=ownC scope C++closOf scope env
theorem cellsFrom_acc:∀(names:List (Str×NameKind)) (n:Nat) (acc:List (Str×Addr)),cellsFrom n names acc=cellsFrom n names []++acc:=by
 intro names
 induction names with
 | nil=>intro n acc;rfl
 | cons y r ih =>
  obtain⟨x,k⟩:=y
  intro n acc
  unfold cellsFrom
  split
  ·rw[ih _ ((x,n)::acc),ih _ [(x,n)],List.append_assoc];rfl
  ·exact ih n acc
theorem cellsFrom_mem:∀(names:List (Str×NameKind)) (n:Nat) (x:Str) (c:Addr),(x,c)∈cellsFrom n names []→(x,NameKind.cell)∈names:=by
 intro names
 induction names with
 | nil=>intro n x c h;cases h
 | cons y r ih =>
  obtain⟨z,k⟩:=y
  intro n x c h
  unfold cellsFrom at h
  split at h
  ·rename_i hk
   rw[cellsFrom_acc] at h
   rcases List.mem_append.mp h with h|h
   ·exact List.mem_cons_of_mem _ (ih _ _ _ h)
   ·have e:=List.mem_singleton.mp h
    injection e with e1 e2
    subst e1
    have ek:k=.cell:=by simpa using hk
    subst ek
    exact List.mem_cons_self
  ·exact List.mem_cons_of_mem _ (ih _ _ _ h)
theorem lookup_app {l r:List (Str×Addr)}{x:Str}{c:Addr}(h:(l++r).lookup x=some c):l.lookup x=some c∨(l.lookup x=none∧r.lookup x=some c):=by
 rw[List.lookup_append] at h
 cases e:l.lookup x with
 | none=>rw[e] at h;exact .inr ⟨rfl,h⟩
 | some d=>rw[e] at h;exact .inl h
theorem lookup_l {l r:List (Str×Addr)}{x:Str}{c:Addr}(h:l.lookup x=some c):(l++r).lookup x=some c:=by rw[List.lookup_append,h];rfl
theorem lookup_r {l r:List (Str×Addr)}{x:Str}{c:Addr}(n:l.lookup x=none)(h:r.lookup x=some c):(l++r).lookup x=some c:=by rw[List.lookup_append,n];exact h
def cxC (X:Cx)(pins:List (Addr×Obj))(scope:Scope)(own:List Str)(caps:List Nat)(C:Addr)(ex:List Addr)(s:Shared)(H:Hp):Cx :=
 {X with N:=capN X own caps,s₀:=s,H₀:=H,env:=compEnvC scope (allC scope X.env C) C X.env,outer:=X.stack,ex:=ex,fn:=fun x=>scope.names.lookup x == some .cell,pn:=X.pn++pins,xe:=fun _ _=>False}
section
variable {X:Cx}{pins:List (Addr×Obj)}{σ:St}{H:Hp}{s:Shared}{scope:Scope}{own:List Str}{caps:List Nat}
theorem Inv.track {D:Addr}{o:HO} (I:Inv X pins σ H s) (hn:H D=none) (h0:D∈X.ex∨X.s₀.heap.objs.size≤D) (hL:D≠X.env.locals) (hc:∀x c,X.env.cells.lookup x=some c→c≠D) (hp:∀p∈X.pn++pins,p.1≠D)
  (new:ObjOk X.prog X.w (upd H D o) s.heap D o):Inv X pins σ (upd H D o) s:=by
 have ne:∀b u,H b=some u→b≠D:=fun b u e=>ne_of_none e hn
 have q := I.step (g':=s.gens) (t':=s.toks) (d':=s.drawn) (ch:=[D]) (h':=s.heap) (H':=upd H D o)
  (fun b hb => by have e:b=D:=by simpa using hb
                  subst e;exact⟨h0,hL,hc,hp⟩)
  (fun b o' _ _ _ e _=>e) (fun b o' _ _ _ e _=>⟨o'.slots,e⟩) (fun b o' hb _ n=>by rw[upd_ne (fun z=>hb (by simp[z]))];exact n) (fun b o' _ e=>⟨o',e⟩)
  (fun b xs e=>by rw[upd_ne (ne b _ e)];exact e) (fun b o' u e=>by rw[upd_ne (ne b _ e)];exact e) (fun b ps e=>⟨#[],by rw[upd_ne (ne b _ e),e];simp⟩) (fun m hm=>hm)
  (fun b u e=>by
   by_cases hb:b=D
   ·subst hb;rw[upd_same] at e;cases e;exact new
   ·rw[upd_ne hb] at e
    exact(I.hok b u e).stay (fun c v _ q=>q) (fun c q=>by rw[upd_ne (ne c _ q)];exact q) fun c xs q=>by rw[upd_ne (ne c _ q)];exact q) I.bare
 exact q
theorem CompOk.cells (ok:CompOk X scope caps)(I:Inv X pins σ H s):∀y∈scope.names,y.2=.free→∃c,X.env.cells.lookup y.1=some c:=fun y hy e=>I.ok.has y.1 (ok.free y hy e)
theorem Inv.block {h₁:Heap}{D C:Addr}{fp:List Addr}{m:Str→Option Value}{oD:Obj}{t:Nat}(ok:CompOk X scope caps)(I:Inv X pins σ H s)(hf:∀b∈fp,FpOk X pins H b)(hfo:∀b∈fp,∃o,s.heap.get? b=some o∧∀v,o.data≠.cell v)
  (hD:D=s.heap.objs.size) (hC:s.heap.objs.size≤C) (hDC:D≠C) (k:∀b u,s.heap.get? b=some u→h₁.get? b=some u) (hn:h₁.Ns C m) (hoD:h₁.get? D=some oD) (hdD:∀v,oD.data≠.cell v) (cok:CellsOk h₁ (C+1) (ownC scope C)) :
  Inv (cxC X pins scope own caps C fp s H) [(D,oD)] (capS own caps σ) H {s with heap:=h₁,toks:=t}:=by
 have hcl:=ok.cells I
 have lk:∀x c,(closOf scope X.env).lookup x=some c→X.env.cells.lookup x=some c∧(x,NameKind.free)∈scope.names:=fun x c e=>closOf_mem hcl (x,c) (PySem.mem_of_lookup e)
 have lA:∀x c,(allC scope X.env C).lookup x=some c→(C<c∧h₁.IsCell c none∧(x,c)∈ownC scope C)∨(closOf scope X.env).lookup x=some c:=fun x c e=>by
  rcases lookup_app e with e|⟨_,e⟩
  ·have m:=PySem.mem_of_lookup e
   exact .inl ⟨(cok.empty x c m).2,(cok.empty x c m).1,m⟩
  ·exact .inr e
 have lkC:∀x c,X.env.cells.lookup x=some c→c<C:=fun x c e=>by
  obtain⟨v,o,ho,_⟩:=I.cell x c e
  exact Nat.lt_of_lt_of_le (Heap.lt_size ho) hC
 have nst:∀b,b≠X.env.locals→b∉X.fs→b∉frs X.stack:=fun b h1 h2 hb=>by
  rcases List.mem_cons.mp (I.stkSub b hb) with e|e
  ·exact h1 e
  ·exact h2 e
 have kinds:∀x,((relabel scope X.env).names.lookup x=some .cell∨(relabel scope X.env).names.lookup x=some .free)→(x,NameKind.free)∈scope.names∨scope.names.lookup x=some .cell:=fun x hx=>by
  rw[relabel_lookup] at hx
  cases e:scope.names.lookup x with
  | none=>rw[e] at hx;rcases hx with hx|hx <;>cases hx
  | some kd =>
   have hm:=PySem.mem_of_lookup e
   cases kd with
   | free=>exact .inl hm
   | cell=>exact .inr rfl
   | _=>rw[e] at hx;rcases hx with hx|hx <;>simp at hx
 refine⟨⟨I.ok.mod,ok.kind,I.ok.glob,I.ok.blt,hC,?_,?_,?_,I.ok.hd,I.ok.frames,.inl rfl,?_,I.bs,Nat.le_trans I.ok.bsz I.sz,?_,?_,I.stack,I.stkFree⟩,rfl,I.bare,Un.kept k,⟨m,hn,?_⟩,?_,I.hok.fresh hC,?_,?_,I.hok.kept k,?_⟩
 ·intro x y c h1 h2
  rcases lA x c h1 with⟨l1,_,m1⟩|h1 <;>rcases lA y c h2 with⟨l2,_,m2⟩|h2
  ·exact name_of_addr cok.apart m1 m2
  ·exact absurd (lkC y c (lk y c h2).1) (Nat.lt_asymm l1)
  ·exact absurd (lkC x c (lk x c h1).1) (Nat.lt_asymm l2)
  ·exact I.ok.inj x y c (lk x c h1).1 (lk y c h2).1
 ·intro x hx
  show ∃c,(allC scope X.env C).lookup x=some c
  cases e:(ownC scope C).lookup x with
  | some c=>exact⟨c,lookup_l e⟩
  | none =>
   rcases kinds x hx with h|h
   ·obtain⟨c,h⟩:=closOf_has (env:=X.env) h
    exact⟨c,lookup_r e h⟩
   ·obtain⟨c,h⟩:=cell_has (n:=C+1) h
    unfold ownC at e
    rw[h] at e;cases e
 ·intro x c hx e
  have hx:(scope.names.lookup x == some .cell)=true:=hx
  obtain⟨c',h⟩:=cell_has (sc:=scope) (n:=C+1) (by simpa using hx)
  have e':=lookup_l (r:=closOf scope X.env) h
  have e2:(allC scope X.env C).lookup x=some c:=e
  unfold allC ownC at e2
  rw[e'] at e2
  cases e2
  exact Nat.le_trans hC (Nat.le_trans (Nat.le_succ C) (cok.empty x _ (PySem.mem_of_lookup h)).2)
 ·intro b hb
  obtain⟨o,ho,_⟩:=hfo b hb
  refine⟨Nat.ne_of_lt (Nat.lt_of_lt_of_le (Heap.lt_size ho) hC),fun x c e=>?_⟩
  rcases lA x c e with⟨l,_,_⟩|e
  ·exact Nat.ne_of_gt (Nat.lt_trans (Nat.lt_of_lt_of_le (Heap.lt_size ho) hC) l)
  ·exact(hf b hb).2.2.2.2.1 x c (lk x c e).1
 ·intro b o e hb
  rcases(hf b hb).2.2.2.1 with z|z
  ·exact I.ok.noex b o e z
  ·exact absurd (Nat.lt_of_lt_of_le (Heap.lt_size e) (Nat.le_trans I.ok.bsz z)) (Nat.lt_irrefl _)
 ·exact fun b hb=>nst b (hf b hb).2.1 (hf b hb).2.2.1
 ·intro i x v h1 h2 h3
  have h1':(own++caps.map fun i=>X.N.getD i Str.empty)[i]? = some x:=h1
  unfold capS at h2
  have hi:own.length≤i:=by
   apply Classical.byContradiction
   intro hlt
   rw[List.getElem?_append_left (by simpa using hlt),List.getElem?_map] at h2
   cases e:own[i]? with
   | none=>rw[e] at h2;cases h2
   | some y=>rw[e] at h2;cases h2
  rw[List.getElem?_append_right (by simpa using hi),List.getElem?_map,List.length_map] at h2
  rw[List.getElem?_append_right hi,List.getElem?_map] at h1'
  cases e:caps[i - own.length]? with
  | none=>rw[e] at h2;cases h2
  | some j =>
   rw[e] at h2 h1'
   have hx:X.N.getD j Str.empty=x:=Option.some.inj h1'
   have hv:(σ[j]?).getD none=some v:=Option.some.inj h2
   obtain⟨y,hy,hfr⟩:=ok.caps j (List.mem_of_getElem? e)
   have exy:x=y:=by rw[← hx,List.getD_eq_getElem?_getD,hy];rfl
   subst exy
   have hs:σ[j]? = some (some v):=by
    cases q:σ[j]? with
    | none=>rw[q] at hv;cases hv
    | some z=>rw[q] at hv;exact congrArg some hv
   have hfm:=PySem.mem_of_lookup hfr
   have hkd:=ok.free _ hfm rfl
   obtain⟨m',hn',hl⟩:=I.loc
   obtain⟨u,r,l⟩:=hl j x v hy hs (by rcases hkd with z|z;exact .inr (.inl z);exact .inr (.inr z))
   refine⟨u,r,.inr ⟨?_,?_⟩⟩
   ·show(relabel scope X.env).names.lookup x=some .cell∨(relabel scope X.env).names.lookup x=some .free
    rw[relabel_lookup,hfr]
    simp only[Option.map_some]
    split
    ·exact .inl rfl
    ·exact .inr rfl
   ·rcases l with⟨hk,_⟩|⟨_,c,hc,o,ho,hd⟩
    ·rcases hkd with z|z <;>(rw[hk] at z;cases z)
    ·obtain ⟨c',hc'⟩:=closOf_has (env:=X.env) hfm
     have e1:=(lk x c' hc').1
     rw[hc] at e1
     cases e1
     refine⟨c,lookup_r ?_ hc',o,k _ _ ho,hd⟩
     cases e3:(ownC scope C).lookup x with
     | none=>rfl
     | some c3 =>
      have h3:=ok.ncell _ (cellsFrom_mem _ _ _ _ (PySem.mem_of_lookup e3)) rfl
      rw[hfr] at h3;cases h3
 ·intro x c e
  rcases lA x c e with⟨_,h,_⟩|e
  ·exact⟨_,h⟩
  ·obtain⟨v,o,ho,hd⟩:=I.cell x c (lk x c e).1
   exact⟨v,o,k _ _ ho,hd⟩
 ·intro x c e
  rcases lA x c e with⟨l,_,_⟩|e
  ·exact I.hok.fresh (Nat.le_trans hC (Nat.le_of_lt l))
  ·exact I.freeC x c (lk x c e).1
 ·intro p hp
  rcases List.mem_append.mp hp with hp|hp
  ·obtain⟨a1,a2,a3,a4,a5⟩:=I.pin p hp
   exact⟨k _ _ a1,a2,Nat.ne_of_lt (Nat.lt_of_lt_of_le (Heap.lt_size a1) hC),nst _ a3 a4,a5⟩
  ·have e:p=(D,oD):=by simpa using hp
   subst e
   refine⟨hoD,I.hok.fresh (Nat.le_of_eq hD.symm),hDC,?_,hdD⟩
   refine nst D ?_ (I.nofs (Nat.le_of_eq hD.symm))
   exact Nat.ne_of_gt (by rw[hD];exact I.lt)
 ·show(capS own caps σ).length=(capN X own caps).length
  simp[capS,capN]
end
end L2
namespace L2
open PySem PySem.Spec PyProof.Rows
section
variable {prog:Program}{w:World}{A:Around}{R:Result→Shared→Prop}{s:Shared}
theorem compLoop_any {elt target iter:Expr}{ifs:List Expr}{scope:Scope}{pos:Pos}{it acc:Value}{env:Env}(I:Nat→Shared→Prop)
  (turn : ∀n s,I n s→wpAny (model prog w) A (pyNext it) (fun r s₁=>match r with
   | none=>R (.ok .next) s₁
   | some v=>wpAny (model prog w) A (letOwnedTupleGo target it v) (fun _ s₁'=>wpAny (model prog w) A (assign target env v) (fun _ s₂ =>
     wpAny (model prog w) A (forIn ifs true fun c r=>if r=true then do let ok ← isTrue c env (eval c env);pure (ForInStep.yield ok) else pure (ForInStep.yield r)) (fun ok s₃ =>
      if ok=true then wpAny (model prog w) A (eval elt env) (fun x s₄ =>
       wpAny (model prog w) A (call (.builtin "list.append") [acc,x]) (fun _ s₅=>∃m,m<n∧I m s₅) (fun _ _=>False) s₄) (fun _ _=>False) s₃
      else ∃m,m<n∧I m s₃) (fun _ _=>False) s₂) (fun _ _=>False) s₁') (fun _ _=>False) s₁) (fun _ _=>False) s)
  (n:Nat) (h:I n s) :
  codeAny (model prog w) A (.compLoop (.ListComp elt [⟨target,iter,ifs,0⟩] scope pos) 0 it acc env) R s:=by
 refine codeAny_loop rfl I (fun n s hI=>?_) n h
 show wpAny _ A ((compTurn (.ListComp elt [⟨target,iter,ifs,0⟩] scope pos) 0 it acc env).onRaise (fun x=>do noteFrame x env;theTreesLotGoes x)) _ _ s
 refine wpAny_noted ?_
 rw[compTurn_list]
 refine wpAny_bind (wpAny_standAt (wpAny_bind (wpAny_mono (turn n s hI) (fun r s₁ h₁=>?_) fun _ _ h'=>h'.elim)))
 cases r with
 | none=>exact wpAny_pure h₁
 | some v =>
  refine wpAny_bind (wpAny_mono h₁ (fun _ s₁' h₁'=>?_) fun _ _ h'=>h'.elim)
  refine wpAny_bind (wpAny_mono h₁' (fun _ s₂ h₂=>wpAny_bind (wpAny_mono h₂ (fun ok s₃ h₃=>?_) fun _ _ h'=>h'.elim)) fun _ _ h'=>h'.elim)
  cases ok with
  | false=>exact wpAny_pure ⟨rfl,h₃⟩
  | true =>
   exact wpAny_bind (wpAny_bind (wpAny_mono h₃ (fun x s₄ h₄=>wpAny_bind (wpAny_mono h₄ (fun _ s₅ h₅=>wpAny_pure (wpAny_pure ⟨rfl,h₅⟩)) fun _ _ h'=>h'.elim)) fun _ _ h'=>h'.elim))
end
def PTs (X:Cx)(ifs:List Expr)(t:TT):Prop :=
 ∀ (pins:List (Addr×Obj)) (s:Shared) (σ:St) (H:Hp) (Q:Bool→Hp→Prop),Inv X pins σ H s→t σ H Q →
  wpAny (model X.prog X.w) X.A (forIn ifs true fun c r=>if r=true then do let ok ← isTrue c X.env (eval c X.env);pure (ForInStep.yield ok) else pure (ForInStep.yield r)) (TP X pins σ Q) X.xe s
def Kps (σ σ':St):Prop:=σ'.length=σ.length∧∀(i:Nat) (v:V),σ[i]? = some (some v)→σ'[i]? = some (some v)
def tTurns (g:TG)(tt:TT)(te:TE)(σ0:St)(F:List V→Hp→Prop)(J:It)(H1:Hp):Prop :=
 ∃ W : Nat→Nat→List V→Hp→Prop,(∃m,W 0 m [] H1)∧∀i m ys H,W i m ys H→ys.length≤sizeLine ∧
  ((J.stop i H∧F ys H)∨(J.go i H∧ys.length<sizeLine∧∃N:List V→Hp→Prop,(∀ys' H',N ys' H'→∃m',m'<m∧W (i+1) m' ys' H') ∧
    ∀x H',J.yld i H x H'→g x σ0 H' fun σ2 H2=>Kps σ0 σ2∧tt σ2 H2 fun b H3=>if b=true then te σ2 H3 fun y H4=>N (ys++[y]) H4 else N ys H3))
def tComp (wi:TI)(g:TG)(tt:TT)(te:TE)(own:List Str)(caps:List Nat):TE:=fun σ H Q=>wi σ H fun J H1=>tTurns g tt te (capS own caps σ) (fun ys H'=>∀D,H' D=none→Q (.ref D) (upd H' D (.lst ys))) J H1
section
variable {X:Cx}{pins:List (Addr×Obj)}{σ:St}{H:Hp}{s:Shared}{scope:Scope}{own:List Str}{caps:List Nat}{elt tg iter:Expr}{ifs:List Expr}{wi:TI}{g:TG}{tt:TT}{te:TE}{pos:Pos}
structure CompIn (X:Cx)(scope:Scope)(own:List Str)(caps:List Nat)(tg:Expr)(ifs:List Expr)(elt:Expr)(g:TG)(tt:TT)(te:TE):Prop where
 tgt:∀pins C ex s H,PG (cxC X pins scope own caps C ex s H) tg g
 tst:∀pins C ex s H,PTs (cxC X pins scope own caps C ex s H) ifs tt
 elm:∀pins C ex s H,PE (cxC X pins scope own caps C ex s H) elt te
theorem newEnv_comp {M:Model}{A:Around}{E:Value→Shared→Prop}{s:Shared}{scope:Scope}{g:Addr}{cl:List (Str×Addr)}{q:Str}{env:Env}{Q:Env→Shared→Prop}
  (h:∀h',h'.Ns s.heap.objs.size (fun _=>none)→(∀b o,s.heap.get? b=some o→h'.get? b=some o)→CellsOk h' (s.heap.objs.size+1) (ownC scope s.heap.objs.size) →
   Q (newEnv scope s.heap.objs.size g (ownC scope s.heap.objs.size++cl) q none .none (some env) builtinsNs) {s with heap:=h'}) :
  wpAny M A (newFunctionEnv scope g cl [] q none .none (some env)) Q E s:=by
 simp only[newFunctionEnv,Option.isSome_some,if_true]
 refine wpAny_bind (wpAny_alloc ?_)
 refine wpAny_bind (wpAny_layCells _ (fun name kind cells=>by cases hkc:kind == NameKind.cell <;>simp[hkc]) _ _ _ _ ?_)
 have ok:=cellsFrom_ok scope.names (s.heap.push {cls:=.type "dict", data:=.dict #[]}) (s.heap.objs.size+1) [] ⟨fun _ _ hm=>(nomatch hm),List.Pairwise.nil⟩ (by rw[Heap.size_push];exact Nat.le_refl _)
 rw[Heap.size_push] at ok
 rw[show({s with heap:=s.heap.push {cls:=.type "dict", data:=.dict #[]} }:Shared).heap.objs.size=s.heap.objs.size+1 from Heap.size_push ..]
 rw[cellsFrom_acc,List.forIn_nil]
 refine wpAny_bind (wpAny_pure (wpAny_pure ?_))
 exact h _ ((Heap.Ns.new s.heap (.type "dict")).keeps (pushCells_keeps _ _)) (fun b o e=>pushCells_keeps _ _ b o (Heap.get?_push_of_some _ e)) ok
theorem comp_core {use:Option (Value→Sem Unit)}{Qv:Value→Shared→Prop}{F:List V→Hp→Prop}(ok:CompOk X scope caps)(hc:X.calm=true)(hi:PI X tg iter wi)(CI:CompIn X scope own caps tg ifs elt g tt te)(I:Inv X pins σ H s)
  (h:wi σ H fun J H1=>tTurns g tt te (capS own caps σ) F J H1)
  (fin:∀(D C:Addr) (ys:List V) (H':Hp) (s1:Shared) (m:Str→Option Value),Inv X pins σ (upd H' D (.lst ys)) s1→H' D=none→F ys H'→s1.heap.Ns C m→H' C=none→C≠D→C≠X.env.locals→C∉X.fs→X.s₀.heap.objs.size≤C →
   (∀x c,X.env.cells.lookup x=some c→c≠C)→(∀p∈X.pn++pins,p.1≠C)→compPost (model X.prog X.w) X.A X.xe use Qv (.ref D) C (.ok .next) s1)
  (hs:∀x,foldedSetIterable iter X.env x=pure x:=by intro _;rfl) :
  wpAny (model X.prog X.w) X.A (comprehension (.ListComp elt [⟨tg,iter,ifs,0⟩] scope pos) scope X.env (firstIterPos [⟨tg,iter,ifs,0⟩] pos) (newList []) false (eval iter X.env) use) Qv X.xe s:=by
 refine wpAny_comprehension_free rfl hs (closureFor_eq (ok.cells I)) ok.kind ok.locs (thn (hi pins s σ H _ I h) fun v s1 h1=>thn h1 fun itv s2 h2=>?_)
 obtain⟨it,fp,tn,J,H2,e,I2,T,st2,f2,W,⟨m0,w0⟩,turn⟩:=h2
 subst e
 refine wpAny_newObj_type (newEnv_comp (fun h₁ hns₁ hsb₁ cok=>?_))
 dsimp only at hns₁ hsb₁ cok ⊢
 generalize hH2:s2.heap.push {cls:=.type "list", dict:=none,data:=.seq ([]:List Value).toArray}=HH at hns₁ hsb₁ cok ⊢
 have hCs:HH.objs.size=s2.heap.objs.size+1:=by rw[← hH2,Heap.size_push]
 have hDC:s2.heap.objs.size≠HH.objs.size:=by rw[hCs];exact Nat.ne_of_lt (Nat.lt_succ_self _)
 have hC:s2.heap.objs.size≤HH.objs.size:=by rw[hCs];exact Nat.le_succ _
 have old:∀b o,s2.heap.get? b=some o→h₁.get? b=some o:=fun b o e =>
  hsb₁ b o (hH2▸Heap.get?_push_of_some _ e)
 have hoD:h₁.get? s2.heap.objs.size=some {cls:=.type "list", data:=.seq ([]:List Value).toArray}:=hsb₁ _ _ (hH2▸Heap.get?_push_size _ rfl)
 have fo:∀b∈fp,∃o,s2.heap.get? b=some o∧∀v,o.data≠.cell v:=T.obj _ _ st2
 have I4:=Inv.block (own:=own) (t:=s2.toks) ok I2 f2 fo rfl hC hDC old hns₁ hoD (fun v z=>by cases z) cok
 have st4:tn 0 h₁:=T.keep _ _ _ st2 fun b _ o e=>old b o e
 have hDfp:∀b∈fp,b≠s2.heap.objs.size:=fun b hb=>by obtain⟨o,ho,_⟩:=fo b hb;exact Nat.ne_of_lt (Heap.lt_size ho)
 have hCfp:∀b∈fp,b≠HH.objs.size:=fun b hb=>by obtain⟨o,ho,_⟩:=fo b hb;exact Nat.ne_of_lt (Nat.lt_of_lt_of_le (Heap.lt_size ho) hC)
 have pnD:∀p∈X.pn++pins,p.1≠s2.heap.objs.size:=fun p hp=>Nat.ne_of_lt (Heap.lt_size (I2.pin p hp).1)
 have pnC:∀p∈X.pn++pins,p.1≠HH.objs.size:=fun p hp=>Nat.ne_of_lt (Nat.lt_of_lt_of_le (Heap.lt_size (I2.pin p hp).1) hC)
 have clX:∀x c,X.env.cells.lookup x=some c→c<s2.heap.objs.size:=fun x c e=>by obtain⟨v,o,ho,_⟩:=I2.cell x c e;exact Heap.lt_size ho
 have cl:∀x c,(allC scope X.env HH.objs.size).lookup x=some c→X.env.cells.lookup x=some c∨HH.objs.size<c:=fun x c e=>by
  rcases lookup_app e with e|⟨_,e⟩
  ·exact .inr (cok.empty x c (PySem.mem_of_lookup e)).2
  ·exact .inl (closOf_mem (ok.cells I) (x,c) (PySem.mem_of_lookup e)).1
 have YA:(cxC X pins scope own caps HH.objs.size fp s2 H2).env=compEnvC scope (allC scope X.env HH.objs.size) HH.objs.size X.env:=rfl
 have stat:∀{H':Hp}{oD:Obj},(∀b∈fp,H' b=none)→∀b∈fp,FpOk (cxC X pins scope own caps HH.objs.size fp s2 H2) [(s2.heap.objs.size,oD)] H' b:=fun {H' oD} hn b hb=>by
  refine⟨hn b hb,hCfp b hb,?_,.inl hb,fun x c e=>?_,fun p hp=>?_⟩
  ·intro z
   rcases List.mem_cons.mp (I2.stkSub b z) with e|e
   ·exact(f2 b hb).2.1 e
   ·exact(f2 b hb).2.2.1 e
  ·rcases cl x c e with e|e
   ·exact(f2 b hb).2.2.2.2.1 x c e
   ·obtain⟨o,ho,_⟩:=fo b hb
    exact Nat.ne_of_gt (Nat.lt_trans (Nat.lt_of_lt_of_le (Heap.lt_size ho) hC) e)
  ·rcases List.mem_append.mp hp with hp|hp
   ·exact(f2 b hb).2.2.2.2.2 p hp
   ·have e:p=(s2.heap.objs.size,oD):=by simpa using hp
    subst e
    exact(hDfp b hb).symm
 have loop:∀s₃:Shared,s₃={s2 with heap:=h₁} →
   codeAny (model X.prog X.w) X.A (.compLoop (.ListComp elt [⟨tg,iter,ifs,0⟩] scope pos) 0 (.ref it) (.ref s2.heap.objs.size) (compEnvC scope (allC scope X.env HH.objs.size) HH.objs.size X.env)) (compPost (model X.prog X.w) X.A X.xe use Qv (.ref s2.heap.objs.size) HH.objs.size) s₃:=by
  rintro s₃ rfl
  refine compLoop_any (fun n s'=>∃i ys its c H',Inv (cxC X pins scope own caps HH.objs.size fp s2 H2) [(s2.heap.objs.size,{cls:=.type "list", data:=.seq its.toArray c})] (capS own caps σ) H' s'∧Vals ys its∧tn i s'.heap∧(∀b∈fp,H' b=none)∧W i n ys H') ?_ m0
   ⟨0,[],[],0,H2,I4,.nil,st4,fun b hb=>(f2 b hb).1,w0⟩
  rintro n s' ⟨i,ys,its,c,H',I',rv,st',fr',w'⟩
  obtain⟨hz,hcase⟩:=turn i n ys H' w'
  rcases hcase with⟨stop,qF⟩|⟨go,hlt,N,hN,step⟩
  ·refine thn (T.done (cxC X pins scope own caps HH.objs.size fp s2 H2) rfl rfl rfl hc i _ s' _ H' _ I' (stat fr') st' stop) fun r s1 hq27=>?_
   obtain⟨hr,I1⟩:=hq27
   subst hr
   obtain⟨m1,hn1,_⟩:=I1.loc
   obtain⟨pD,nD,_⟩:=I1.pin _ (List.mem_append_right _ (List.mem_singleton.mpr rfl))
   have J1:Inv X pins σ H' s1:=I2.call' I1.os I1.base I1.hok I1.bare fun b hb=>⟨(f2 b hb).2.2.2.1,(f2 b hb).2.1,(f2 b hb).2.2.2.2.1,(f2 b hb).2.2.2.2.2⟩
   have J2:Inv X pins σ (upd H' s2.heap.objs.size (.lst ys)) s1:=J1.track nD (.inr I2.sz) (Nat.ne_of_gt I2.lt) (fun x c e=>Nat.ne_of_lt (clX x c e)) pnD ⟨hz,its,c,rv,pD⟩
   exact fin _ _ ys H' s1 m1 J2 nD qF hn1 I1.free hDC.symm (Nat.ne_of_gt (Nat.lt_of_lt_of_le I2.lt hC)) (I2.nofs hC) (Nat.le_trans I2.sz hC) (fun x c e=>Nat.ne_of_lt (Nat.lt_of_lt_of_le (clX x c e) hC)) pnC
  ·refine thn (T.item (cxC X pins scope own caps HH.objs.size fp s2 H2) rfl rfl rfl hc i _ s' _ H' _ I' (stat fr') st' go) fun r s1 hq28=>?_
   obtain⟨u,hr,h1⟩:=hq28
   subst hr
   refine thn h1 fun _ s2' hq29=>?_
   obtain⟨x,H5,I5,r5,y5,st5,fr5⟩:=hq29
   have I5':=I5.pinned (stat fr5) (T.obj _ _ st5)
   refine thn (CI.tgt pins _ _ _ _ _ s2' _ H5 x u _ I5' r5 (step x H5 y5)) fun _ s6 hq30=>?_
   obtain⟨σ6,H6,I6,kp6,q6⟩:=hq30
   refine thn (CI.tst pins _ _ _ _ _ s6 σ6 H6 _ I6 q6) fun b s7 hq31=>?_
   obtain⟨H7,I7,q7⟩:=hq31
   have again:∀{H8:Hp}{s8:Shared}{ys':List V}{its':List Value}{c':Nat},Inv (cxC X pins scope own caps HH.objs.size fp s2 H2) ([(s2.heap.objs.size,{cls:=.type "list", data:=.seq its'.toArray c'})]++pinsAt fp s2'.heap) σ6 H8 s8→Vals ys' its'→N ys' H8 →
     ∃m,m<n∧∃i ys its c H',Inv (cxC X pins scope own caps HH.objs.size fp s2 H2) [(s2.heap.objs.size,{cls:=.type "list", data:=.seq its.toArray c})] (capS own caps σ) H' s8∧Vals ys its∧tn i s8.heap∧(∀b∈fp,H' b=none)∧W i m ys H':=by
    intro H8 s8 ys' its' c' I8 rv' n8
    obtain⟨m',hm,w8⟩:=hN ys' H8 n8
    refine⟨m',hm,i+1,ys',its',c',H8,I8.unpinned.weak kp6.1.symm kp6.2,rv',T.keep _ _ _ st5 fun b hb o e=>(I8.pin (b,o) (List.mem_append_right _ (List.mem_append_right _ (mem_pinsAt hb e)))).1,fun b hb=>?_,w8⟩
    obtain⟨o,e,d⟩:=T.obj _ _ st5 b hb
    exact(I8.pin (b,o) (List.mem_append_right _ (List.mem_append_right _ (mem_pinsAt hb e)))).2.1
   cases b with
   | false=>exact again I7 rv q7
   | true =>
    refine thn (CI.elm pins _ _ _ _ _ s7 σ6 H7 _ I7 q7) fun yv s8 hq32=>?_
    obtain⟨y,H8,I8,r8,q8⟩:=hq32
    obtain⟨pD,nD,ncD,nfD,_⟩:=I8.pin (s2.heap.objs.size,{cls:=.type "list", data:=.seq its.toArray c}) (List.mem_append_right _ (List.mem_append_left _ (List.mem_singleton.mpr rfl)))
    have hlen:=rv.length
    refine call_meets PySem.F.slot_list_append ⟨_,pD,rfl⟩ PySem.F.entry_list_append (PySem.F.args_list_append_2 _ _) (PySem.list_append s2.heap.objs.size its.toArray c yv (by rw[List.size_toArray];omega)) ⟨pD,?_⟩
    have ef:its.toArray.push yv=(its++[yv]).toArray:=by simp
    obtain⟨c',q⟩:∃c',(s8.heap.update s2.heap.objs.size (Obj.mapSeq fun xs=>xs.push yv)).get? s2.heap.objs.size=some {cls:=.type "list", data:=.seq (its++[yv]).toArray c'}:=⟨_,by rw[← ef];exact PySem.IsL.update pD (fun xs=>xs.push yv)⟩
    have keepB:∀b o,b≠s2.heap.objs.size→s8.heap.get? b=some o→(s8.heap.update s2.heap.objs.size (Obj.mapSeq fun xs=>xs.push yv)).get? b=some o:=fun b o hb e=>(Heap.get?_update_other s8.heap _ (Ne.symm hb)).trans e
    have I9:Inv (cxC X pins scope own caps HH.objs.size fp s2 H2) (pinsAt fp s2'.heap) σ6 H8 s8:=I8.pins_of fun p hp=>I8.pin p (List.mem_append_right _ (List.mem_append_right _ hp))
    have I10:Inv (cxC X pins scope own caps HH.objs.size fp s2 H2) (pinsAt fp s2'.heap) σ6 H8 {s8 with heap:=s8.heap.update s2.heap.objs.size (Obj.mapSeq fun xs=>xs.push yv)}:=by
     refine I9.turned (t':=s8.toks) (it:=s2.heap.objs.size) keepB nD ncD (.inr (Nat.le_refl _)) (fun x c e=>(cl x c e).elim (fun e=>Nat.ne_of_lt (clX x c e)) fun e=>Nat.ne_of_gt (Nat.lt_of_le_of_lt hC e)) fun p hp=>?_
     rcases List.mem_append.mp hp with hp|hp
     ·exact pnD p hp
     ·exact hDfp _ (of_pinsAt hp).1
    refine again (its':=its++[yv]) (c':=c') (I10.pins_of fun p hp=>?_) (rv.append (.cons r8 .nil)) q8
    rcases List.mem_append.mp hp with hp|hp
    ·have e:=List.mem_singleton.mp hp
     subst e
     exact⟨q,nD,ncD,nfD,fun v z=>by cases z⟩
    ·exact I10.pin p (List.mem_append_right _ hp)
 exact codeAny_compStart_list (loop _ rfl) (T.self _ 0 _ _ _ st4 (loop _ rfl))
theorem pe_comp (ok:CompOk X scope caps)(hc:X.calm=true)(hi:PI X tg iter wi)(CI:CompIn X scope own caps tg ifs elt g tt te)(hs:∀x,foldedSetIterable iter X.env x=pure x:=by intro _;rfl) :
  PE X (.ListComp elt [⟨tg,iter,ifs,0⟩] scope pos) (tComp wi g tt te own caps):=by
 intro pins s σ H Q I h
 rw[eval_ListComp]
 refine comp_core (use:=none) ok hc hi CI I h (fun D C ys H' s1 m I1 nD q hn nC hCD hCL hCf hC0 hCc hCp=>?_) hs
 refine⟨m,hn,fun h' hsb=>?_⟩
 have I2:Inv X pins σ (upd H' D (.lst ys)) {s1 with heap:=h'}:=I1.turned (t':=s1.toks) (it:=C) (fun b o hb e=>hsb.extBut b o hb e) (by rw[upd_ne hCD];exact nC) hCL (.inr hC0) hCc hCp
 exact⟨.ref D,_,I2,rfl,q D nD⟩
def sComp (j:Nat)(wi:TI)(g:TG)(tt:TT)(te:TE)(own:List Str)(caps:List Nat):TS:=fun E σ H=>wi σ H fun J H1=>tTurns g tt te (capS own caps σ) (fun ys H'=>∀D,H' D=none→E.nx (σ.set j (some (.ref D))) (upd H' D (.lst ys))) J H1
theorem ps_comp {j:Nat}{y:Str}{py spos:Pos}(hN:X.N.Nodup)(hj:X.N[j]? = some y)(hy:X.env.scope.names.lookup y=some .local)(ok:CompOk X scope caps)(hc:X.calm=true)(hi:PI X tg iter wi)(CI:CompIn X scope own caps tg ifs elt g tt te)
  (hsw:swapsWith (.ListComp elt [⟨tg,iter,ifs,0⟩] scope pos) (some (.Name y py)) spos.line X.env=pure true) (hs:∀x,foldedSetIterable iter X.env x=pure x:=by intro _;rfl) :
  PS X (.Assign [.Name y py] (.ListComp elt [⟨tg,iter,ifs,0⟩] scope pos) spos) (sComp j wi g tt te own caps):=by
 intro pins s σ H E I h
 rw[exec_Assign_Name_used _ _ _ _ hsw]
 refine wpAny_bind (wpAny_standAt (wpAny_bind ?_))
 show wpAny _ X.A (do let _ ← comprehension (.ListComp elt [⟨tg,iter,ifs,0⟩] scope pos) scope X.env _ (newList []) false (eval iter X.env) (some (assign (.Name y py) X.env))) _ _ s
 refine wpAny_bind (wpAny_mono (comp_core (use:=some (assign (.Name y py) X.env)) (Qv:=fun _ s'=>SP X pins E .next s') ok hc hi CI I h (fun D C ys H' s1 m I1 nD q hn nC hCD hCL hCf hC0 hCc hCp=>?_) hs) (fun _ s' hq=>wpAny_pure (wpAny_pure hq)) fun _ _ e=>e)
 obtain⟨oC,es,ep,eC,dC,rC⟩:=id hn
 have I2:Inv X (pins++[(C,oC)]) σ (upd H' D (.lst ys)) s1:=I1.pins_of fun p hp=>by
  rcases List.mem_append.mp hp with hp|hp
  ·exact I1.pin p (List.mem_append_right _ hp)
  ·have e:=List.mem_singleton.mp hp
   subst e
   exact⟨eC,by rw[upd_ne hCD];exact nC,hCL,hCf,fun v z=>by rw[dC] at z;cases z⟩
 show wpAny _ X.A (assign (.Name y py) X.env (.ref D)) _ _ s1
 refine wpAny_assign_Name (store_ok (v:=.ref D) I2 hN hj (.inl hy) rfl (fun s2 I3=>?_) (.inr hy))
 obtain⟨e3,n3,_⟩:=I3.pin (C,oC) (List.mem_append_right _ (List.mem_append_right _ (List.mem_singleton.mpr rfl)))
 have I4:Inv X pins (σ.set j (some (.ref D))) (upd H' D (.lst ys)) s2:=I3.pins_of fun p hp=>I3.pin p (List.mem_append_right _ (List.mem_append_left _ hp))
 refine⟨m,⟨oC,es,ep,e3,dC,rC⟩,fun h' hsb=>?_⟩
 have I5:Inv X pins (σ.set j (some (.ref D))) (upd H' D (.lst ys)) {s2 with heap:=h'}:=I4.turned (t':=s2.toks) (it:=C) (fun b o hb e=>hsb.extBut b o hb e) n3 hCL (.inr hC0) hCc hCp
 exact⟨_,_,I5,q D nD⟩
end
end L2
namespace L2
open PySem PySem.Spec PyProof.Rows
def T (l:List Nat):Str:=⟨l.toArray⟩
theorem T_cps (l:List Nat):(T l).cps.toList=l:=by simp[T]
theorem T_of (x:Str):T x.cps.toList=x:=by cases x;simp[T]
theorem T_len (l:List Nat):(T l).length=l.length:=by simp[T,Str.length]
theorem T_app (l m:List Nat):T l++T m=T (l++m):=by
 show Str.append (T l) (T m)=_
 simp[Str.append,T]
theorem T_inj {l m:List Nat}(h:T l=T m):l=m:=by
 have:=congrArg (fun x:Str=>x.cps.toList) h
 simpa [T] using this
theorem T_beq (l m:List Nat):(T l == T m)=(l == m):=by
 rw[Bool.eq_iff_iff]
 simp only[beq_iff_eq]
 exact⟨T_inj,congrArg T⟩
theorem T_ok {l:List Nat}(h:∀c∈l,c<0x110000)(hl:l.length≤1000000):TxtOk (T l):=by
 refine⟨?_,by rw[T_len];exact hl⟩
 show(T l).cps.all (· < 0x110000)=true
 simp only[T,List.all_toArray,List.all_eq_true,decide_eq_true_eq]
 exact h
theorem TxtOk.app {x y:Str}(hx:TxtOk x)(hy:TxtOk y)(hl:x.length+y.length≤1000000):TxtOk (x++y):=by
 obtain⟨a,_⟩:=hx
 obtain⟨b,_⟩:=hy
 refine⟨?_,?_⟩
 ·have a':x.cps.all (· < 0x110000)=true:=a
  have b':y.cps.all (· < 0x110000)=true:=b
  show(x.cps++y.cps).all (· < 0x110000)=true
  rw[Array.all_append,a',b'];rfl
 ·show(x.cps++y.cps).size≤1000000
  rw[Array.size_append];exact hl
theorem clip_nat (lo:Option Int)(n d:Nat)(hd:d≤n):(match lo with|none=>(d:Int)|some i=>max 0 (min (if i<0 then i+(n:Int) else i) (n:Int)))=((HT.sIx n d lo:Nat):Int):=by
 cases lo with
 | none=>rfl
 | some i =>
  show max 0 (min (if i<0 then i+(n:Int) else i) (n:Int))=(((if i<0 then(i+(n:Int)).toNat else min i.toNat n):Nat):Int)
  split <;>omega
theorem slice_T (x:Str)(lo hi:Option Int):Txt.slice x lo hi=T ((x.cps.toList.drop (HT.sIx x.length 0 lo)).take (HT.sIx x.length x.length hi - HT.sIx x.length 0 lo)):=by
 have ha:HT.sIx x.length 0 lo≤x.length:=HT.sIx_le _ _ (Nat.zero_le _) lo
 have hb:HT.sIx x.length x.length hi≤x.length:=HT.sIx_le _ _ (Nat.le_refl _) hi
 have e:Builtin.Str.strSliceIndices lo hi 1 x.length=Builtin.Str.strSliceIndices (some ((HT.sIx x.length 0 lo:Nat):Int)) (some ((HT.sIx x.length x.length hi:Nat):Int)) 1 x.length:=by
  have h1:=clip_nat lo x.length 0 (Nat.zero_le _)
  have h2:=clip_nat hi x.length x.length (Nat.le_refl _)
  generalize HT.sIx x.length 0 lo=a at *
  generalize HT.sIx x.length x.length hi=b at *
  have k1:max 0 (min (if (a:Int)<0 then(a:Int)+(x.length:Int) else(a:Int)) (x.length:Int))=(a:Int):=by split <;>omega
  have k2:max 0 (min (if (b:Int)<0 then(b:Int)+(x.length:Int) else(b:Int)) (x.length:Int))=(b:Int):=by split <;>omega
  unfold Builtin.Str.strSliceIndices
  simp only[show(1:Int) > 0 by decide,if_true,k1,k2]
  cases lo <;>cases hi <;>simp only at h1 h2 ⊢ <;>first|rw[h1,h2] | (rw[← h1,← h2];rfl)
 have e2:Txt.slice x lo hi=StrLaws.sliceText x (some ((HT.sIx x.length 0 lo:Nat):Int)) (some ((HT.sIx x.length x.length hi:Nat):Int)):=by
  unfold Txt.slice StrLaws.sliceText
  rw[e]
 rw[e2]
 by_cases hab:HT.sIx x.length 0 lo≤HT.sIx x.length x.length hi
 ·exact StrLaws.sliceText_nat x hab hb
 ·have hz:HT.sIx x.length x.length hi - HT.sIx x.length 0 lo=0:=by omega
  rw[hz,List.take_zero]
  generalize HT.sIx x.length 0 lo=a at *
  generalize HT.sIx x.length x.length hi=b at *
  have k1:max 0 (min (if (a:Int)<0 then(a:Int)+(x.length:Int) else(a:Int)) (x.length:Int))=(a:Int):=by split <;>omega
  have k2:max 0 (min (if (b:Int)<0 then(b:Int)+(x.length:Int) else(b:Int)) (x.length:Int))=(b:Int):=by split <;>omega
  have e3:Builtin.Str.strSliceIndices (some (a:Int)) (some (b:Int)) 1 x.length=[]:=by
   unfold Builtin.Str.strSliceIndices sliceRange
   simp only[show(1:Int) > 0 by decide,if_true,k1,k2]
   have:¬((b:Int) > (a:Int)):=by omega
   simp[this]
   try omega
  unfold StrLaws.sliceText
  rw[e3]
  simp only[List.length_nil,List.filterMap_nil]
  split
  ·rename_i h
   have hn:x.length=0:=by
    simp at h
    omega
   omega
  ·rfl
section
variable {X:Cx}{e:Expr}{te:TE}{pos p2:Pos}
def rSlS:V→Option Int→Option Int→Hp→VK→Prop:=fun x lo hi H Q=>∃z,x=.str z∧z.length≤sizeLine∧Q (.str (T ((z.cps.toList.drop (HT.sIx z.length 0 lo)).take (HT.sIx z.length z.length hi - HT.sIx z.length 0 lo)))) H
theorem part_of {v:Value}{o:Option Int}(p:IsPart v o):∃q:Option (Int×Tok),v=partValue q∧q.map (·.1)=o:=by
 cases p with
 | none=>exact⟨none,rfl,rfl⟩
 | int i t=>exact⟨some (i,t),rfl,rfl⟩
theorem sl_str:SlR X rSlS:=by
 intro pins s σ H x v vl vu lo hi sl Q I rx hs pl pu h
 obtain⟨z,rfl,hz,q⟩:=h
 obtain⟨t,rfl⟩:=rx
 obtain⟨l,rfl,rfl⟩:=part_of pl
 obtain⟨u,rfl,rfl⟩:=part_of pu
 refine⟨"str", _,PySem.F.slot_str_getitem.lookup,typeIs_str _ _ _,?_⟩
 refine wpAny_getItem_str_slice (l:=l) (u:=u) (st:=none) hs rfl ?_
 refine post_val_or_str (y:=z) ?_
 have e:=slice_T z (l.map (·.1)) (u.map (·.1))
 unfold Txt.slice at e
 refine⟨Nat.le_trans (Txt.slice_le z (l.map (·.1)) (u.map (·.1))) hz,fun t' k=>⟨.str _,H,I.tok _,⟨t',?_⟩,q⟩⟩
 exact congrArg (fun y=>Value.str y t') e
def Its (x:Str):It:=⟨fun i _=>i<x.cps.size,fun i H v H'=>H'=H∧∃c,x.cps.toList[i]? = some c∧v=.str (T [c]),fun i _=>x.cps.size≤i⟩
theorem turn_str {P:Program}{w:World}{K:PySem.W.Frag}{tg:Expr}{x:Str}{t:Tok}{ty:String}(it:Addr)(W:∀A':Around,A'.handled=none→Walks P w A' it [it] [it] x.cps.size (SignAt x) (fun i h=>h.IsStrIter it ty x t i))
  (hn:["enumerate", "zip", "dict_itemiterator", "dict_reverseitemiterator", "odict_iterator", "itertools.zip_longest", "itertools.pairwise"].contains ty=false)
  (hend:∀(A:Around) (i:Nat) (s:Shared) (Q:Option Value→Shared→Prop) (E:Value→Shared→Prop),A.handled=none→s.heap.IsStrIter it ty x t i→x.cps[i]? = none→(∀h',Heap.ExtBut it s.heap h'→Q none {s with heap:=h'})→wpAny (model P w) A (pyNext (.ref it)) Q E s)
  (hself:∀(A:Around) (i:Nat) (s:Shared) (Q:Value→Shared→Prop) (E:Value→Shared→Prop),s.heap.IsStrIter it ty x t i→Q (.ref it) s→wpAny (model P w) A (pyIter (.ref it)) Q E s) :
  Turn P w K tg (Its x) [it] it (fun i h=>h.IsStrIter it ty x t i) where
 mem:=by simp
 obj:=fun i h st b hb=>by
  have e:b=it:=by simpa using hb
  subst e
  obtain⟨o,e,c,d⟩:=st
  exact⟨o,e,fun v z=>by rw[d] at z;cases z⟩
 keep:=fun i h h' st k=>by obtain⟨o,e,r⟩:=st;exact⟨o,k it (by simp) o e,r⟩
 item:=by
  intro X hP hw hK hc i pins s σ H E I hf st hg
  subst hP hw hK
  obtain⟨f0,f1,f2,f3,f4,f5⟩:=hf it (by simp)
  refine(W X.A (I.ok.hd hc)).item i s _ _ hg st fun v h' tk hv st' kk=>?_
  obtain⟨c,u,hcc,rfl⟩:=hv
  have I1:Inv X pins σ H {s with heap:=h',toks:=tk}:=I.turned (fun b o hb e=>kk b o (by simpa using hb) e) f0 f1 f3 f4 f5
  obtain⟨o,e,c1,d1⟩:=id st'
  exact⟨_,rfl,go_of (s:={s with heap:=h',toks:=tk}) e c1 d1 hn ⟨.str (T [c]),H,I1,⟨u,rfl⟩,⟨rfl,c,by simpa using hcc,rfl⟩,st',fun b hb=>(hf b hb).1⟩⟩
 done:=by
  intro X hP hw hK hc i pins s σ H E I hf st hg
  subst hP hw hK
  obtain⟨f0,f1,f2,f3,f4,f5⟩:=hf it (by simp)
  have hge:x.cps.size≤i:=hg
  exact hend X.A i s _ _ (I.ok.hd hc) st (Array.getElem?_eq_none hge) fun h' eb=>⟨rfl,I.turned (t':=s.toks) (fun b o hb e=>eb b o hb e) f0 f1 f3 f4 f5⟩
 self:=fun A i s Q E st h=>hself A i s Q E st h
def iStr (tl:TE):TI:=fun σ H R=>tl σ H fun v H1=>∃x,v=.str x∧R (Its x) H1
theorem pi_str {tg l:Expr}{tl:TE}(hl:PE X l tl):PI X tg l (iStr tl):=by
 intro pins s σ H R I h
 refine thn (hl pins s σ H _ I h) fun v s1 hq33=>?_
 obtain⟨y,H1,I1,r1,q1⟩:=hq33
 obtain⟨x,e,q⟩:=q1
 subst e
 obtain⟨t,rfl⟩:=r1
 have fin:∀(ty:String) (T':Turn X.prog X.w X.K tg (Its x) [s1.heap.objs.size] s1.heap.objs.size (fun i h=>h.IsStrIter s1.heap.objs.size ty x t i)),
   PIE X pins σ tg R (.ref s1.heap.objs.size) {s1 with heap:=s1.heap.push {cls:=.type ty,data:=.fields #[.str x t,.int 0 0]} }:=fun ty T' =>
  ⟨s1.heap.objs.size,[s1.heap.objs.size],_,_,H1,rfl,I1.kept (t':=s1.toks) fun b o e=>Heap.get?_push_of_some _ e,T',⟨_,Heap.get?_push_size _ rfl,rfl,rfl⟩,fun b hb=>by
   have e:b=s1.heap.objs.size:=by simpa using hb
   subst e
   exact I1.fpOk (Nat.le_refl _) (I1.hok.fresh (Nat.le_refl _)),q⟩
 cases ha:x.cps.all (· < 128)
 ·exact wpAny_pyIter_wide ha (fin _ (turn_str _ (fun A' hA=>Walks.strWide hA _ x t) (by decide) (fun A i s Q E hh st hx hQ=>wpAny_pyNext_wide_end hh st hx hQ) fun A i s Q E st hq=>wpAny_pyIter_striter_wide st hq))
 ·exact wpAny_pyIter_ascii ha (fin _ (turn_str _ (fun A' hA=>Walks.strAscii hA _ x t) (by decide) (fun A i s Q E hh st hx hQ=>wpAny_pyNext_ascii_end hh st hx hQ) fun A i s Q E st hq=>wpAny_pyIter_striter_ascii st hq))
end
def Wlk (J:It)(G:Hp→Prop)(xs:List V):Prop:=∀H,G H→(∀i,i<xs.length→J.go i H∧∀x H',J.yld i H x H'→H'=H∧xs[i]? = some x)∧J.stop xs.length H
theorem wlk_list {K:PySem.W.Frag}{a:Addr}{xs:List V}:Wlk (Itl K a) (fun H=>SqL K H a xs) xs:=fun H q =>
 ⟨fun i hi=>⟨⟨xs,xs[i],q,by simp[hi]⟩,fun x H' y=>⟨y.1,y.2 xs q⟩⟩,⟨xs,q,Nat.le_refl _⟩⟩
theorem wlk_tup {K:PySem.W.Frag}{a:Addr}{xs:List V}:Wlk (Itt K a) (fun H=>SqT K H a xs) xs:=fun H q =>
 ⟨fun i hi=>⟨⟨xs,xs[i],q,by simp[hi]⟩,fun x H' y=>⟨y.1,y.2 xs q⟩⟩,⟨xs,q,Nat.le_refl _⟩⟩
theorem wlk_range {lo:Int}{n:Nat}{G:Hp→Prop}:Wlk (Itr lo n) G ((List.range n).map fun(k:Nat)=>V.int (lo+(k:Int))):=fun H _=>by
 refine⟨fun i hi=>⟨by show i<n;simpa using hi,fun x H' y=>⟨y.1,?_⟩⟩,?_⟩
 ·have hi':i<n:=by simpa using hi
  rw[y.2];simp[hi']
 ·show n≤_;simp
theorem wlk_str {x:Str}{G:Hp→Prop}:Wlk (Its x) G (x.cps.toList.map fun c=>V.str (T [c])):=fun H _=>by
 refine⟨fun i hi=>⟨by show i<x.cps.size;simpa using hi,fun v H' y=>⟨y.1,?_⟩⟩,?_⟩
 ·obtain⟨_,c,hc,rfl⟩:=y
  rw[List.getElem?_map,hc];rfl
 ·show x.cps.size≤_;simp
theorem for_wlk {J:It}{G:Hp→Prop}{xs:List V}(W:Wlk J G xs){g:TG}{tb:TS}{D:Ends}{σ:St}{H:Hp}(Pv:Nat→St→Hp→Prop)(h0:Pv 0 σ H)(hG:∀i σ H,i≤xs.length→Pv i σ H→G H)
  (hs:∀i x σ H,xs[i]? = some x→Pv i σ H→g x σ H fun σ2 H2=>tb {D with nx:=Pv (i+1),ct:=Pv (i+1),bk:=D.nx} σ2 H2) (hd:∀σ H,Pv xs.length σ H→D.nx σ H) :
  ∃ W:Nat→Nat→St→Hp→Prop,(∃m,W 0 m σ H)∧∀i m σ H,W i m σ H →
   (J.stop i H∧D.nx σ H)∨(J.go i H∧∃N:St→Hp→Prop,(∀σ' H',N σ' H'→∃m',m'<m∧W (i+1) m' σ' H')∧∀x H',J.yld i H x H'→g x σ H' fun σ2 H2=>tb {D with nx:=N,ct:=N,bk:=D.nx} σ2 H2):=by
 refine⟨fun i m σ H=>m=xs.length - i∧i≤xs.length∧Pv i σ H,⟨xs.length,by simp,Nat.zero_le _,h0⟩,?_⟩
 rintro i m σ H ⟨rfl,hi,p⟩
 obtain⟨w1,w2⟩:=W H (hG i σ H hi p)
 by_cases hlt:i<xs.length
 ·obtain⟨g1,g2⟩:=w1 i hlt
  refine .inr ⟨g1,Pv (i+1),fun σ' H' p'=>⟨xs.length - (i+1),by omega,rfl,hlt,p'⟩,fun x H' y=>?_⟩
  obtain⟨e,hx⟩:=g2 x H' y
  subst e
  exact hs i x σ _ hx p
 ·have e:i=xs.length:=by omega
  subst e
  exact .inl ⟨w2,hd σ H p⟩
theorem turns_wlk {J:It}{G:Hp→Prop}{xs:List V}(W:Wlk J G xs)(hz:xs.length≤sizeLine){g:TG}{tt:TT}{te:TE}{σ0:St}{F:List V→Hp→Prop}{H1:Hp}(Pv:Nat→List V→Hp→Prop)(h0:Pv 0 [] H1)(hG:∀i ys H,i≤xs.length→Pv i ys H→G H∧ys.length≤i)
  (hs:∀i x ys H,xs[i]? = some x→Pv i ys H→g x σ0 H fun σ2 H2=>Kps σ0 σ2∧tt σ2 H2 fun b H3=>if b=true then te σ2 H3 fun y H4=>Pv (i+1) (ys++[y]) H4 else Pv (i+1) ys H3) (hd:∀ys H,Pv xs.length ys H→F ys H) :
  tTurns g tt te σ0 F J H1:=by
 refine⟨fun i m ys H=>m=xs.length - i∧i≤xs.length∧Pv i ys H,⟨xs.length,by simp,Nat.zero_le _,h0⟩,?_⟩
 rintro i m ys H ⟨rfl,hi,p⟩
 obtain⟨gH,hl⟩:=hG i ys H hi p
 refine⟨by omega,?_⟩
 obtain⟨w1,w2⟩:=W H gH
 by_cases hlt:i<xs.length
 ·obtain⟨g1,g2⟩:=w1 i hlt
  refine .inr ⟨g1,by omega,Pv (i+1),fun ys' H' p'=>⟨xs.length - (i+1),by omega,rfl,hlt,p'⟩,fun x H' y=>?_⟩
  obtain⟨e,hx⟩:=g2 x H' y
  subst e
  exact hs i x ys _ hx p
 ·have e:i=xs.length:=by omega
  subst e
  exact .inl ⟨w2,hd ys H p⟩
theorem Kps.set {σ:St}{i:Nat}{v:V}(h:σ[i]? = some none):Kps σ (σ.set i (some v)):=by
 refine⟨by simp,fun j u e=>?_⟩
 by_cases hj:i=j
 ·subst hj;rw[h] at e;cases e
 ·rw[List.getElem?_set_ne hj];exact e
theorem Kps.trans {a b c:St}(h:Kps a b)(k:Kps b c):Kps a c:=⟨k.1.trans h.1,fun i v e=>k.2 i v (h.2 i v e)⟩
def Gat (K:PySem.W.Frag)(H1:Hp)(e:Nat→PyData)(i:Nat)(ys:List V)(H:Hp):Prop:=Same H1 H∧Iss K H ys ((List.range i).map e)
theorem Gat.snoc {K:PySem.W.Frag}{H1 H H4:Hp}{e:Nat→PyData}{i:Nat}{ys:List V}{y:V}(h:Gat K H1 e i ys H)(sm:Same H H4)(is:Is K H4 y (e i)):Gat K H1 e (i+1) (ys++[y]) H4:=by
 refine⟨h.1.trans sm,?_⟩
 rw[List.range_succ,List.map_append]
 exact(h.2.mono sm).append (.cons is .nil)
def GatF (K:PySem.W.Frag)(H1:Hp)(p:Nat→Bool)(e:Nat→PyData)(i:Nat)(ys:List V)(H:Hp):Prop:=Same H1 H∧Iss K H ys (((List.range i).filter p).map e)
theorem GatF.snoc {K:PySem.W.Frag}{H1 H H4:Hp}{p:Nat→Bool}{e:Nat→PyData}{i:Nat}{ys:List V}{y:V}(h:GatF K H1 p e i ys H)(hp:p i=true)(sm:Same H H4)(is:Is K H4 y (e i)):GatF K H1 p e (i+1) (ys++[y]) H4:=by
 refine⟨h.1.trans sm,?_⟩
 rw[List.range_succ,List.filter_append,List.map_append]
 refine(h.2.mono sm).append ?_
 simp only[List.filter_cons,hp,if_true,List.filter_nil,List.map_cons,List.map_nil]
 exact .cons is .nil
end L2
namespace L2
open PySem PySem.Spec PyProof.Rows
section
variable {X:Cx}
theorem old_ne {s:Shared}{b:Addr}{o:Obj}(e:s.heap.get? b=some o):b∉[s.heap.objs.size]:=fun z=>by
 have e':b=s.heap.objs.size:=by simpa using z
 subst e'
 exact absurd (Heap.lt_size e) (Nat.lt_irrefl _)
theorem vals_bl:∀{bs:List Bool}{us:List Value},Vals (bs.map V.bl) us→us=bs.map Value.bool
 | [],_,r=>by cases r;rfl
 | b::bs,_,r=>by
  cases r with
  | cons r t=>cases r;rw[vals_bl t];rfl
theorem range_all {α:Type}(l:List α)(d:α)(p:α→Bool):(List.range l.length).all (fun i=>p (l.getD i d))=l.all p:=by
 have:(List.range l.length).map (fun i=>l.getD i d)=l:=range_getD l d
 conv=>rhs;rw[← this]
 rw[List.all_map];rfl
theorem range_any {α:Type}(l:List α)(d:α)(p:α→Bool):(List.range l.length).any (fun i=>p (l.getD i d))=l.any p:=by
 have:(List.range l.length).map (fun i=>l.getD i d)=l:=range_getD l d
 conv=>rhs;rw[← this]
 rw[List.any_map];rfl
theorem truth_bools {prog:Program}{w:World}{A:Around}(bs:List Bool):TruthOf prog w A (fun i v=>(bs.map Value.bool).toArray[i]? = some v) (fun i=>bs.getD i false):=by
 intro i v s Q E hP hQ
 have e:(bs.map Value.bool)[i]? = some v:=by simpa using hP
 rw[List.getElem?_map] at e
 cases hb:bs[i]? with
 | none=>rw[hb] at e;cases e
 | some b =>
  rw[hb] at e
  have e':v=Value.bool b:=(Option.some.inj e).symm
  subst e'
  have:bs.getD i false=b:=by rw[List.getD_eq_getElem?_getD,hb];rfl
  have hQ':Q (bs.getD i false) s:=hQ
  rw[this] at hQ'
  exact wpAny_truthy_bool hQ'
theorem call_all (hc:X.calm=true):CallR X (.builtin "all") (fun xs H Q=>∃(a:Addr) (bs:List Bool),xs=[.ref a]∧SqL X.K H a (bs.map V.bl)∧Q (.bl (bs.all id)) H):=by
 intro pins s σ H xs us Q I r h
 obtain⟨a,bs,rfl,ha,q⟩:=h
 obtain⟨u,rfl,ru⟩:=vals1 r
 cases ru
 obtain⟨its,rv,pl,hz⟩:=I.list ha
 obtain rfl:=vals_bl rv
 refine call_all_walk (wpAny_pyIter_list pl.isList ?_)
 have hlt:a<s.heap.objs.size:=by obtain⟨_,_,e,_⟩:=pl;exact Heap.lt_size e
 refine⟨_,_,_,_,_,_,fun i=>bs.getD i false,rfl,Walks.list (show X.A.in1.handled=none from I.ok.hd hc) s.heap.objs.size a (Nat.ne_of_lt hlt) _,⟨⟨_,Heap.get?_push_size _ rfl,rfl,rfl⟩,pl.isList.push _⟩,truth_bools bs,fun h' tk hk=>?_⟩
 refine⟨.bl _,H,I.kept (h':=h') (t':=tk) fun b o e=>hk b o (old_ne e) (Heap.get?_push_of_some _ e),rfl,?_⟩
 have:(List.range ((bs.map Value.bool).toArray).size).all (fun i=>bs.getD i false)=bs.all id:=by
  rw[show((bs.map Value.bool).toArray).size=bs.length by simp]
  exact range_all bs false id
 rw[this]
 exact q
theorem call_any (hc:X.calm=true):CallR X (.builtin "any") (fun xs H Q=>∃(a:Addr) (bs:List Bool),xs=[.ref a]∧SqL X.K H a (bs.map V.bl)∧Q (.bl (bs.any id)) H):=by
 intro pins s σ H xs us Q I r h
 obtain⟨a,bs,rfl,ha,q⟩:=h
 obtain⟨u,rfl,ru⟩:=vals1 r
 cases ru
 obtain⟨its,rv,pl,hz⟩:=I.list ha
 obtain rfl:=vals_bl rv
 refine call_any_walk (wpAny_pyIter_list pl.isList ?_)
 have hlt:a<s.heap.objs.size:=by obtain⟨_,_,e,_⟩:=pl;exact Heap.lt_size e
 refine⟨_,_,_,_,_,_,fun i=>bs.getD i false,rfl,Walks.list (show X.A.in1.handled=none from I.ok.hd hc) s.heap.objs.size a (Nat.ne_of_lt hlt) _,⟨⟨_,Heap.get?_push_size _ rfl,rfl,rfl⟩,pl.isList.push _⟩,truth_bools bs,fun h' tk hk=>?_⟩
 refine⟨.bl _,H,I.kept (h':=h') (t':=tk) fun b o e=>hk b o (old_ne e) (Heap.get?_push_of_some _ e),rfl,?_⟩
 have:(List.range ((bs.map Value.bool).toArray).size).any (fun i=>bs.getD i false)=bs.any id:=by
  rw[show((bs.map Value.bool).toArray).size=bs.length by simp]
  exact range_any bs false id
 rw[this]
 exact q
theorem preSum_list (ns:List Int):∀k,k≤ns.length→preSum (fun i=>ns.getD i 0) k=(ns.take k).sum:=by
 intro k
 induction k with
 | zero=>intro _;simp[preSum]
 | succ k ih =>
  intro hk
  have e:ns[k]? = some ns[k]:=List.getElem?_eq_getElem (by omega)
  rw[List.take_add_one,e,List.sum_append]
  simp only[preSum] at ih ⊢
  rw[ih (by omega)]
  simp[List.getD_eq_getElem?_getD,e]
theorem call_sumT (hc:X.calm=true):CallR X (.builtin "sum") (fun xs H Q=>∃(a:Addr) (ns:List Int),xs=[.ref a]∧SqT X.K H a (ns.map V.int)∧Q (.int ns.sum) H):=by
 intro pins s σ H xs us Q I r h
 obtain⟨a,ns,rfl,ha,q⟩:=h
 obtain⟨u,rfl,ru⟩:=vals1 r
 cases ru
 obtain⟨its,rv,pl,hz⟩:=I.tuple ha
 have pl':s.heap.IsTuple a its.toArray:=pl
 have hlt:a<s.heap.objs.size:=by obtain⟨_,e,_⟩:=pl';exact Heap.lt_size e
 have hlen:=rv.length
 refine call_sum_walkG (wpAny_pyIter_tuple pl' ?_)
 refine⟨_,_,_,_,_,_,fun i=>ns.getD i 0,rfl,Walks.tuple (show X.A.in1.handled=none from I.ok.hd hc) s.heap.objs.size a (Nat.ne_of_lt hlt) its.toArray,⟨⟨_,Heap.get?_push_size _ rfl,rfl,rfl⟩,pl'.push _⟩,fun b hb=>?_,fun i v hv=>?_,fun h' tk t' hk=>?_⟩
 ·show b<(s.heap.push _).objs.size
  rw[Heap.size_push]
  rcases List.mem_cons.mp hb with rfl|hb
  ·exact Nat.lt_succ_self _
  ·have e:b=a:=by simpa using hb
   subst e;exact Nat.lt_succ_of_lt hlt
 ·have e:its[i]? = some v:=by simpa using hv
  have hi:i<(ns.map V.int).length:=by rw[hlen];exact(List.getElem?_eq_some_iff.mp e).1
  obtain⟨u,hu,ru⟩:=rv.get (i:=i) (x:=(ns.map V.int)[i]) (by simp at hi ⊢)
  rw[e] at hu
  cases hu
  have hi':i<ns.length:=by simpa using hi
  rw[List.getElem_map] at ru
  obtain⟨t,e2⟩:=ru
  refine⟨t,?_⟩
  show v=Value.int (ns.getD i 0) t
  rw[e2,List.getD_eq_getElem?_getD,List.getElem?_eq_getElem hi'];rfl
 ·have es:preSum (fun i=>ns.getD i 0) its.toArray.size=ns.sum:=by
   have e1:its.toArray.size=ns.length:=by rw[List.size_toArray,← hlen];simp
   rw[e1,preSum_list ns _ (Nat.le_refl _),List.take_length]
  refine⟨.int ns.sum,H,I.kept (h':=h') (t':=tk) fun b o e=>hk b o (old_ne e) (Heap.get?_push_of_some _ e),⟨t',by rw[es]⟩,q⟩
theorem vals_strs:∀{ss:List Str}{us:List Value},Vals (ss.map V.str) us→StrsAre us ss
 | [],_,r=>by cases r;exact .nil
 | x::ss,_,r=>by
  cases r with
  | cons r t=>obtain⟨u,rfl⟩:=r;exact .cons _ _ (vals_strs t)
theorem starts_T (l m:List Nat):Txt.startswith (T l) (T m)=m.isPrefixOf l:=by
 unfold Txt.startswith
 rw[StrLaws.subAt_eq,T_cps,T_cps,T_len,T_len,List.drop_zero,Nat.zero_add]
 rw[Bool.eq_iff_iff,Bool.and_eq_true]
 simp only[decide_eq_true_eq,beq_iff_eq]
 rw[List.isPrefixOf_iff_prefix]
 constructor
 ·rintro⟨h1,h2⟩
  rw[← h2];exact List.take_prefix _ _
 ·intro h
  exact⟨h.length_le,(List.prefix_iff_eq_take.mp h).symm⟩
def rStarts:V→List V→Hp→VK→Prop:=fun x vs H Q=>∃l m,x=.str (T l)∧vs=[.str (T m)]∧Q (.bl (m.isPrefixOf l)) H
theorem mt_starts:MtR X "str.startswith" rStarts:=by
 intro pins s σ H x xs v us Q I rx rs h
 obtain⟨l,m,rfl,rfl,q⟩:=h
 obtain⟨t,rfl⟩:=rx
 obtain⟨u,rfl,ru⟩:=vals1 rs
 obtain⟨t',rfl⟩:=ru
 refine SC.startswith ?_
 rw[starts_T]
 exact⟨.bl _,H,I,rfl,q⟩
def rInC:R2:=fun x y H Q=>∃c l,x=.str (T [c])∧y=.str (T l)∧Q (.bl (decide (c∈l))) H
theorem op_inC:OpR X (compareOp .In) rInC:=by
 intro pins s σ H x y v u Q I rx ry h
 obtain⟨c,l,rfl,rfl,q⟩:=h
 obtain⟨t,rfl⟩:=rx
 obtain⟨t',rfl⟩:=ry
 refine in_str (fin_bl I q ?_)
 have e:=StrLaws.found_one (T l) c
 rw[T_cps] at e
 exact e.symm
theorem op_addS:OpR X (binaryOp .Add) (fun x y H Q=>∃l m,x=.str (T l)∧y=.str (T m)∧l.length+m.length≤1000000∧Q (.str (T (l++m))) H):=by
 intro pins s σ H x y v u Q I rx ry h
 obtain⟨l,m,rfl,rfl,hz,q⟩:=h
 refine op_add_str pins s σ H _ _ v u Q I rx ry ⟨_,_,rfl,rfl,?_,?_⟩
 ·rw[T_len,T_len]
  first|omega|exact Nat.le_trans hz (by decide)
 ·rw[T_app];exact q
def Sm (i:Int):Prop:=i.natAbs<2 ^ 4000
theorem Sm.log {i:Int}(h:Sm i):i.natAbs.log2<4000:=by
 by_cases h0:i.natAbs=0
 ·rw[h0];decide +kernel
 ·exact(Nat.log2_lt h0).mpr h
theorem op_mulS:OpR X (binaryOp .Mult) (rI (fun i j=>Sm i∧Sm j) fun i j=>.int (i*j)):=opI fun i j _ _ _ _ _ hc q=>mul_int q (by
 obtain⟨h1,h2⟩:=hc
 have a:=h1.log
 have b:=h2.log
 unfold IntMulOk
 intro z
 rw[Bool.and_eq_true] at z
 have z2:Builtin.Int.intTooBig ((Builtin.Int.intBits i:Int)+(Builtin.Int.intBits j:Int))=true:=by first|exact z.2|exact_mod_cast z.2
 unfold Builtin.Int.intTooBig at z2
 have e1:Builtin.Int.intBits i≤4001:=by unfold Builtin.Int.intBits;split <;>omega
 have e2:Builtin.Int.intBits j≤4001:=by unfold Builtin.Int.intBits;split <;>omega
 have hb:((bitsLine:Nat):Int)≥10000:=by decide
 have:=of_decide_eq_true z2
 omega)
theorem op_fdivS:OpR X (binaryOp .FloorDiv) (rI (fun _ j=>0<j∧Sm j) fun i j=>.int (i / j)):=opI fun i j _ _ _ _ _ hc q=>by
 obtain⟨h1,h2⟩:=hc
 refine floordiv_int (by omega) ?_ (.inl (PyProof.noPylong_of_log2 (by have:=h2.log;omega)))
 rw[Int.fdiv_eq_ediv_of_nonneg i (by omega)]
 exact q
theorem Same.upd {H:Hp}{p:Addr}{o:HO}(h:H p=none):Same H (upd H p o):=fun b u e=>by rw[upd_ne (ne_of_none e h)];exact e
def zipK (ls:List Nat)(xs:List V):List (Key×V):=(ls.zip xs).foldl (fun m p=>putK m (Sum.inr (T [p.1])) p.2) []
theorem KV_nil:KV ([]:List (Key×V)) ([]:List (Key×Value)):=.nil
theorem kv_fold:∀(ls:List Nat) {xs:List V}{us:List Value}{m:List (Key×V)}{ms:List (Key×Value)},Vals xs us→KV m ms →
  KV ((ls.zip xs).foldl (fun m p=>putK m (Sum.inr (T [p.1])) p.2) m) ((ls.zip us).foldl (fun m p=>stored m (Sum.inr (⟨#[p.1]⟩:Str):Key) p.2) ms)
 | [],_,_,_,_,_,k=>k
 | _::_,_,_,_,_,.nil,k=>k
 | c::ls,_,_,_,_,.cons r t,k=>by
  rw[List.zip_cons_cons,List.zip_cons_cons,List.foldl_cons,List.foldl_cons]
  exact kv_fold ls t (k.put _ r)
theorem zipK_len (ls:List Nat)(xs:List V):(zipK ls xs).length≤ls.length:=by
 have key:∀(ps:List (Nat×V)) (m:List (Key×V)),(ps.foldl (fun m p=>putK m (Sum.inr (T [p.1])) p.2) m).length≤m.length+ps.length:=by
  intro ps
  induction ps with
  | nil=>intro m;simp
  | cons p r ih =>
   intro m
   rw[List.foldl_cons]
   have h1:=ih (putK m (Sum.inr (T [p.1])) p.2)
   have h2:=length_putK m (Sum.inr (T [p.1]):Key) p.2
   rw[List.length_cons]
   omega
 have:=key (ls.zip xs) []
 have h3:(ls.zip xs).length≤ls.length:=by simp;omega
 rw[List.length_nil,Nat.zero_add] at this
 exact Nat.le_trans this h3
def tZipD (K:PySem.W.Frag)(ta tb:TE):TE:=fun σ H Q=>tCons ta (tCons tb tNil) σ H fun vs H2=>∃(l:List Nat) (a:Addr) (xs:List V),vs=[.str (T l),.ref a]∧SqT K H2 a xs∧(∀c∈l,c<128)∧l.length≤1000∧∀p,H2 p=none→Q (.ref p) (upd H2 p (.dK (zipK l xs)))
theorem ne_nat {a b:Nat}(h:a<b∨b<a):(a:Addr)≠(b:Addr):=by
 rcases h with h|h
 ·exact Nat.ne_of_lt h
 ·exact Nat.ne_of_gt h
theorem pe_dictzip {a b:Expr}{ta tb:TE}{p1 p2 pos1 pos2:Pos}(hc:X.calm=true)(ha:PE X a ta)(hb:PE X b tb)(hd:Gl X "dict")(hz:Gl X "zip")(md:X.mg "dict" = none)(mz:X.mg "zip" = none)
  (hs:starEach [a,b] X.env=[(false,eval a X.env),(false,eval b X.env)]:=by rfl) (hs2:starEach [b] X.env=[(false,eval b X.env)]:=by rfl)
  (hs3:starEach [.Call (.Name "zip" p2) [a,b] [] pos2] X.env=[(false,eval (.Call (.Name "zip" p2) [a,b] [] pos2) X.env)]:=by rfl) :
  PE X (.Call (.Name "dict" p1) [.Call (.Name "zip" p2) [a,b] [] pos2] [] pos1) (tZipD X.K ta tb):=by
 intro pins s σ H Q I h
 refine wpAny_Call_Name_kw (ld_blt I hd md boot_dict ?_)
 refine PyProof.Rows.callWith_type1 ?_ hs3 rfl
 rw[hs3]
 show wpAny _ _ (spliced ((false,eval (.Call (.Name "zip" p2) [a,b] [] pos2) X.env)::backTo pos1 [])) _ _ s
 refine Calls.spliced_cons ?_
 have hA:PA X [a,b] (tCons ta (tCons tb tNil)):=pa_cons ha (pa_cons hb pa_nil hs2) (by rw[hs,hs2])
 refine wpAny_Call_Name_kw (ld_blt I hz mz boot_zip ?_)
 refine PyProof.Rows.callWith_type1 (thn (hA pos2 pins s σ H _ I h) fun us s1 hq34=>?_) (by rw[hs,hs2]) (by rw[hs2];rfl)
 obtain⟨vs,H2,I2,r2,l,ad,xs,ev,hq,h128,hl,q⟩:=hq34
 subst ev
 obtain⟨u1,u2,rfl,ru1,ru2⟩:=vals2 r2
 obtain⟨t,rfl⟩:=ru1
 cases ru2
 obtain⟨its,rv,pl,hsz⟩:=I2.tuple hq
 have pl':s1.heap.IsTuple ad its.toArray:=pl
 have h128':(T l).cps.all (· < 128)=true:=by
  simp only[T,List.all_toArray,List.all_eq_true,decide_eq_true_eq]
  exact h128
 refine Zp.call_zip_st h128' pl' fun h1 m5=>?_
 refine Calls.spliced_nil ?_
 obtain⟨m1,m2,m3,m4,m6,m7,m8⟩:=m5
 have lt:∀{c:Addr}{o:Obj},s1.heap.get? c=some o→c<s1.heap.objs.size:=fun e=>Heap.lt_size e
 have had:ad<s1.heap.objs.size:=by obtain⟨o,e,_⟩:=pl';exact lt e
 refine Zp.call_dict_zip (knd:=mixKind X.prog X.w) (s:={s1 with heap:=h1}) (z:=s1.heap.objs.size+4) (TI:=s1.heap.objs.size+2) (TO:=s1.heap.objs.size+3) (i1:=s1.heap.objs.size) (i2:=s1.heap.objs.size+1) (tp:=ad) (x:=T l) (t:=t) (ys:=its.toArray)
  (I.ok.hd hc) ⟨ne_nat (by omega),ne_nat (by omega),ne_nat (by omega),ne_nat (by omega),ne_nat (by omega),ne_nat (by omega),ne_nat (by omega),ne_nat (by omega),ne_nat (by omega),ne_nat (by omega)⟩ (ne_nat (.inl (Nat.lt_of_lt_of_le had (by omega)))) (ne_nat (.inl (Nat.lt_of_lt_of_le had (by omega)))) (ne_nat (.inl had)) (ne_nat (.inl (Nat.lt_of_lt_of_le had (by omega)))) (fun c=>Sum.inr ⟨#[c]⟩) (fun c u=>mixKind_str _ _ _ u) (by show l.toArray.size≤1000;simpa using hl)
  m1 m2 m3 ⟨_,m4,rfl,rfl⟩ ⟨_,m6,rfl,rfl⟩ (by obtain⟨o,e,r⟩:=pl';exact⟨o,m8 _ _ e,r⟩) fun h2 tk hdict keep=>?_
 have keep1:∀b o,s1.heap.get? b=some o→h2.get? b=some o:=fun b o e=>by
  have hb:=lt e
  exact keep b o (ne_nat (.inl (Nat.lt_of_lt_of_le hb (by omega)))) (ne_nat (.inl (Nat.lt_of_lt_of_le hb (by omega)))) (ne_nat (.inl hb)) (ne_nat (.inl (Nat.lt_of_lt_of_le hb (by omega)))) (m8 b o e)
 have hp:s1.heap.objs.size≤h1.objs.size:=by rw[m7];omega
 have hnone:H2 h1.objs.size=none:=I2.hok.fresh hp
 refine⟨.ref h1.objs.size,upd H2 h1.objs.size (.dK (zipK l xs)),I2.laid (h':=h2) (t':=tk) keep1 hp ?_,rfl,q _ hnone⟩
 refine⟨?_,?_,_,?_,hdict⟩
 ·have:=zipK_len l xs
  rw[sizeLine_eq];omega
 ·have hbig:=I2.big
  exact beq_eq_false_iff_ne.mpr (by have:=hbig;intro z;rw[z] at hp;exact absurd (Nat.lt_of_lt_of_le hbig hp) (Nat.lt_irrefl _))
 ·rw[T_cps]
  have:=kv_fold l rv (KV_nil)
  simpa [zipK] using this
end
end L2
namespace L2
open PySem PySem.Spec PyProof.Rows
def tyN:PyData→String
 | .none => "NoneType" | .bool _ => "bool" | .int _ => "int" | .str _ => "str" | .list _ => "list" | .tuple _ => "tuple" | .dict _ => "dict"
theorem kit_int {K:PySem.W.Frag}(d:PyData):PySem.W.kitOne K (.type (tyN d)) (.type "int")=some (match d with | .int _=>true | .bool _=>true|_=>false):=by cases d <;>rfl
theorem kit_bool {K:PySem.W.Frag}(d:PyData):PySem.W.kitOne K (.type (tyN d)) (.type "bool")=some (match d with | .bool _=>true|_=>false):=by cases d <;>rfl
theorem kit_str {K:PySem.W.Frag}(d:PyData):PySem.W.kitOne K (.type (tyN d)) (.type "str")=some (match d with | .str _=>true|_=>false):=by cases d <;>rfl
theorem kit_tuple {K:PySem.W.Frag}(d:PyData):PySem.W.kitOne K (.type (tyN d)) (.type "tuple")=some (match d with | .tuple _=>true|_=>false):=by cases d <;>rfl
section
variable {X:Cx}
theorem call_isinstD:CallR X (.builtin "isinstance") (fun xs H Q=>∃x d n b,xs=[x,.ty n]∧Is X.K H x d∧PySem.W.kitOne X.K (.type (tyN d)) (.type n)=some b∧Q (.bl b) H):=by
 intro pins s σ H xs us Q I r h
 obtain⟨x,d,n,b,rfl,is,e,q⟩:=h
 obtain⟨u,u2,rfl,ru,r2⟩:=vals2 r
 cases r2
 have fin:∀tk,EP X pins σ Q (.bool b) {s with toks:=tk}:=fun tk=>⟨.bl b,H,I.tok _,rfl,q⟩
 cases is with
 | non=>cases (show u=Value.none from ru);exact PySem.W.kia_one PySem.W.kitx_none I.kIn True.intro e (fun z=>nomatch z) fin
 | bl y=>cases (show u=Value.bool y from ru);exact PySem.W.kia_one PySem.W.kitx_bool I.kIn True.intro e (fun z=>nomatch z) fin
 | int i=>obtain⟨t,q'⟩:=(show ∃t,u=Value.int i t from ru);cases q';exact PySem.W.kia_one PySem.W.kitx_int I.kIn True.intro e (fun z=>nomatch z) fin
 | str y=>obtain⟨t,q'⟩:=(show ∃t,u=Value.str y t from ru);cases q';exact PySem.W.kia_one PySem.W.kitx_str I.kIn True.intro e (fun z=>nomatch z) fin
 | @lst a xs ds q1 q2 =>
  cases (show u=Value.ref a from ru)
  obtain⟨its,_,⟨o,n',e1,hc,_⟩,_⟩:=I.list q1
  exact PySem.W.kia_one PySem.W.kitx_list I.kIn ⟨o,e1,hc⟩ e (fun z=>nomatch z) fin
 | @tup a xs ds q1 q2 =>
  cases (show u=Value.ref a from ru)
  obtain⟨its,_,⟨o,e1,hc,_⟩,_⟩:=I.tuple q1
  exact PySem.W.kia_one PySem.W.kitx_tuple I.kIn ⟨o,e1,hc⟩ e (fun z=>nomatch z) fin
end
end L2
namespace L2
open PySem PySem.Spec PyProof.Rows
def compChk (fs:Scope)(N:List Str)(scope:Scope)(caps:List Nat):Bool :=
 (scope.kind == .function)&&(scope.names.all fun y=>y.2 != .cell || scope.names.lookup y.1 == some .cell)&&(scope.names.all fun y=>y.2 != .local || scope.names.lookup y.1 == some .local) &&
 (scope.names.all fun y=>y.2 != .free || fs.names.lookup y.1 == some .cell || fs.names.lookup y.1 == some .free) &&
 (caps.all fun i=>match N[i]? with|some y=>scope.names.lookup y == some .free|none=>false)
theorem comp_ok {X:Cx}{fs scope:Scope}{N:List Str}{caps:List Nat}(hs:X.env.scope=fs)(hN:X.N=N)(h:compChk fs N scope caps=true):CompOk X scope caps:=by
 unfold compChk at h
 simp only[Bool.and_eq_true,List.all_eq_true] at h
 obtain⟨⟨⟨⟨h1,h2⟩,h3⟩,h4⟩,h5⟩:=h
 refine⟨by simpa using h1,fun y hy e=>?_,fun y hy e=>?_,fun y hy e=>?_,fun i hi=>?_⟩
 ·have:=h2 y hy
  rw[e] at this
  simpa using this
 ·have:=h3 y hy
  rw[e] at this
  simpa using this
 ·have:=h4 y hy
  rw[e] at this
  unfold Env.kindOf
  rw[hs]
  simpa using this
 ·have:=h5 i hi
  rw[hN]
  cases e:N[i]? with
  | none=>rw[e] at this;simp at this
  | some y=>rw[e] at this;exact⟨y,rfl,by simpa using this⟩
theorem nd_of {X:Cx}{N:List Str}(h:X.N=N)(n:N.Nodup):X.N.Nodup:=h▸n
structure Dn (K:PySem.W.Frag)(mg:Str→Option Value)(x:Str)(st:Stmt)(ps:List Str) where
 f:Addr
 fd:FuncData
 fn:Fun K x x st f fd
 mg:mg x=some (.ref f)
 bd:Binds K fd ps []
end L2
namespace L2
open PySem PySem.Spec PyProof.Rows
section
variable {X:Cx}{pins:List (Addr×Obj)}{σ:St}{H:Hp}{s:Shared}{h':Heap}
theorem Inv.turnedL {t':Nat}{fp:List Addr}(I:Inv X pins σ H s)(k:∀b o,b∉fp→s.heap.get? b=some o→h'.get? b=some o)(hf:∀b∈fp,FpOk X pins H b):Inv X pins σ H {s with heap:=h',toks:=t'}:=by
 have nit:∀b u,H b=some u→b∉fp:=fun b u e z=>by rw[(hf b z).1] at e;cases e
 have nl:X.env.locals∉fp:=fun z=>(hf _ z).2.1 rfl
 refine I.step (g':=s.gens) (d':=s.drawn) (ch:=fp) (fun b hb=>?_) (fun b o _ _ hc e _=>k b o hc e) (fun b o _ _ hc e _=>⟨o.slots,k b o hc e⟩) (fun _ _ _ _ n=>n)
  (fun b o hc e=>⟨o,k b o hc e⟩) (fun _ _ e=>e) (fun _ _ _ e=>e) (fun b ps e=>⟨#[],by rw[e];simp⟩) (fun m hm=>?_) (fun b u e=>?_) I.bare
 ·obtain⟨_,f1,_,f3,f4,f5⟩:=hf b hb
  exact⟨f3,f1,f4,f5⟩
 ·obtain⟨o,es,ep,ho,r⟩:=hm
  exact⟨o,es,ep,k _ o nl ho,r⟩
 ·refine(I.hok b u e).stay (fun c v hc q=>k c v ?_ q) (fun _ q=>q) fun _ _ q=>q
  rcases hc with z|z
  ·rw[z];exact nit b u e
  ·exact nit c _ z
end
theorem zApart (n:Nat):Zp.Apart (n+4:Nat) (n+2:Nat) (n+3:Nat) n (n+1:Nat) :=
 ⟨ne_nat (by omega),ne_nat (by omega),ne_nat (by omega),ne_nat (by omega),ne_nat (by omega),ne_nat (by omega),ne_nat (by omega),ne_nat (by omega),ne_nat (by omega),ne_nat (by omega)⟩
def fpZ (n:Nat):List Addr:=[(n+4:Nat),(n+2:Nat),(n+3:Nat),n,(n+1:Nat)]
section
variable {prog:Program}{w:World}{A:Around}
theorem yields_lst {it t:Addr}{i:Nat}{items:Array Value}{x:Value}(hne:t≠it)(hx:items[i]? = some x) :
  Zp.Yields prog w A it (fun h=>h.IsListIter it t i∧h.IsList t items) (fun v=>v=x) (fun h=>h.IsListIter it t (i+1)∧h.IsList t items) :=
 fun s Q E g hQ=>Zp.nextOf_list_item g.1 g.2 hx fun h' st sb=>hQ _ h' s.toks rfl ⟨st,g.2.extBut sb.extBut hne⟩ sb
theorem ends_lst {it t:Addr}{i:Nat}{items:Array Value}(hh:A.handled=none)(hx:items[i]? = none) :
  Zp.Ends prog w A it (fun h=>h.IsListIter it t i∧h.IsList t items) :=
 fun s Q E g hE=>Zp.nextOf_list_end hh g.1 g.2 hx hE
end
def Kp (it n:Nat)(h h':Heap):Prop:=∀(c:Addr) o,(c=it∨(c:Nat)<n)→h.get? c=some o→h'.get? c=some o
structure ZS (P:Program)(w:World)(K:PySem.W.Frag)(xs:List V)(G:Hp→Prop)(n it:Nat)(S:Nat→Heap→Prop):Prop where
 obj:∀i h,S i h→∃o,h.get? (it:Addr)=some o∧∀v,o.data≠.cell v
 keep:∀i h h',S i h→(∀o,h.get? (it:Addr)=some o→h'.get? (it:Addr)=some o)→S i h'
 yld:∀(X:Cx),X.prog=P→X.w=w→X.K=K→∀(pins:List (Addr×Obj)) (s:Shared) (σ:St) (H:Hp) (i:Nat) (x:V),Inv X pins σ H s→G H→xs[i]? = some x→S i s.heap→∃G1 S1:Heap→Prop,
  (∀A,Zp.Yields P w A (it:Addr) G1 (RelV x) S1)∧(∀h',Kp it n s.heap h'→G1 h')∧(∀h h',S1 h→Kp it n h h'→S1 h')∧∀h,S1 h→S (i+1) h
 ends:∀(X:Cx),X.prog=P→X.w=w→X.K=K→∀(pins:List (Addr×Obj)) (s:Shared) (σ:St) (H:Hp) (i:Nat),Inv X pins σ H s→G H→xs.length≤i→S i s.heap→∃G1:Heap→Prop,
  (∀A:Around,A.handled=none→Zp.Ends P w A (it:Addr) G1)∧∀h',Kp it n s.heap h'→G1 h'
theorem zs_tup {P:Program}{w:World}{K:PySem.W.Frag}{xs:List V}{n it l:Nat}(hl:l<n)(hi:n≤it):ZS P w K xs (fun H=>SqT K H l xs) n it (fun i h=>h.IsTupleIter it l i) where
 obj:=fun i h ⟨o,e,c,d⟩=>⟨o,e,fun v z=>by rw[d] at z;cases z⟩
 keep:=fun i h h' z kk=>z.at kk
 yld:=by
  intro X hP hw hK pins s σ H i x I g hx st
  subst hP hw hK
  obtain⟨its,rv,pl,_⟩:=I.tuple g
  obtain⟨u,hu,ru⟩:=rv.get hx
  have p1:s.heap.IsTuple l its.toArray:=pl
  have ne:(l:Addr)≠(it:Addr):=ne_nat (.inl (by omega))
  refine⟨fun h=>h.IsTupleIter it l i∧h.IsTuple l its.toArray,fun h=>h.IsTupleIter it l (i+1)∧h.IsTuple l its.toArray,fun A s Q E g hQ=>Zp.yields_tuple (items:=its.toArray) (i:=i) (x:=u) ne (by simpa using hu) s Q E g fun v h' tk e=>hQ v h' tk (e▸ru),fun h' kk=>⟨?_,?_⟩,fun h h' ⟨a,b⟩ kk=>⟨a.at fun o e=>kk _ _ (.inl rfl) e,?_⟩,fun h z=>z.1⟩
  ·exact st.at fun o e=>kk _ _ (.inl rfl) e
  ·obtain⟨o,e,r⟩:=p1;exact⟨o,kk _ _ (.inr hl) e,r⟩
  ·obtain⟨o,e,r⟩:=b;exact⟨o,kk _ _ (.inr hl) e,r⟩
 ends:=by
  intro X hP hw hK pins s σ H i I g hx st
  subst hP hw hK
  obtain⟨its,rv,pl,_⟩:=I.tuple g
  have p1:s.heap.IsTuple l its.toArray:=pl
  have len:=rv.length
  refine⟨_,fun A hh=>Zp.ends_tuple (t:=l) (i:=i) (items:=its.toArray) hh (by simpa using (show its.length≤i by omega)),fun h' kk=>⟨st.at fun o e=>kk _ _ (.inl rfl) e,?_⟩⟩
  obtain⟨o,e,r⟩:=p1;exact⟨o,kk _ _ (.inr hl) e,r⟩
theorem zs_lst {P:Program}{w:World}{K:PySem.W.Frag}{xs:List V}{n it l:Nat}(hl:l<n)(hi:n≤it):ZS P w K xs (fun H=>SqL K H l xs) n it (fun i h=>h.IsListIter it l i) where
 obj:=fun i h ⟨o,e,c,d⟩=>⟨o,e,fun v z=>by rw[d] at z;cases z⟩
 keep:=fun i h h' z kk=>z.at kk
 yld:=by
  intro X hP hw hK pins s σ H i x I g hx st
  subst hP hw hK
  obtain⟨its,rv,pl,_⟩:=I.list g
  obtain⟨u,hu,ru⟩:=rv.get hx
  have p1:s.heap.IsList l its.toArray:=pl.isList
  have ne:(l:Addr)≠(it:Addr):=ne_nat (.inl (by omega))
  refine⟨fun h=>h.IsListIter it l i∧h.IsList l its.toArray,fun h=>h.IsListIter it l (i+1)∧h.IsList l its.toArray,fun A s Q E g hQ=>yields_lst (items:=its.toArray) (i:=i) (x:=u) ne (by simpa using hu) s Q E g fun v h' tk e=>hQ v h' tk (e▸ru),fun h' kk=>⟨?_,?_⟩,fun h h' ⟨a,b⟩ kk=>⟨a.at fun o e=>kk _ _ (.inl rfl) e,?_⟩,fun h z=>z.1⟩
  ·exact st.at fun o e=>kk _ _ (.inl rfl) e
  ·obtain⟨o,e,r⟩:=p1;exact⟨o,kk _ _ (.inr hl) e,r⟩
  ·obtain⟨o,e,r⟩:=b;exact⟨o,kk _ _ (.inr hl) e,r⟩
 ends:=by
  intro X hP hw hK pins s σ H i I g hx st
  subst hP hw hK
  obtain⟨its,rv,pl,_⟩:=I.list g
  have p1:s.heap.IsList l its.toArray:=pl.isList
  have len:=rv.length
  refine⟨_,fun A hh=>ends_lst (t:=l) (i:=i) (items:=its.toArray) hh (by simpa using (show its.length≤i by omega)),fun h' kk=>⟨st.at fun o e=>kk _ _ (.inl rfl) e,?_⟩⟩
  obtain⟨o,e,r⟩:=p1;exact⟨o,kk _ _ (.inr hl) e,r⟩
def vC (l:List Nat):List V:=l.map fun c=>V.str (T [c])
theorem zs_str {P:Program}{w:World}{K:PySem.W.Frag}{l:List Nat}{t:Tok}{n it:Nat}:ZS P w K (vC l) (fun _=>True) n it (fun i h=>h.IsStrIter it "str_ascii_iterator" (T l) t i) where
 obj:=fun i h z=>by obtain⟨o,e,c,d⟩:=z;exact⟨o,e,fun v z=>by rw[d] at z;cases z⟩
 keep:=fun i h h' z kk=>by obtain⟨o,e,c,d⟩:=z;exact⟨o,kk o e,c,d⟩
 yld:=by
  intro X hP hw hK pins s σ H i x I g hx st
  subst hP hw hK
  unfold vC at hx
  rw[List.getElem?_map] at hx
  cases ec:l[i]? with
  | none=>rw[ec] at hx;cases hx
  | some c =>
   rw[ec] at hx
   cases hx
   refine⟨fun h=>h.IsStrIter it "str_ascii_iterator" (T l) t i,fun h=>h.IsStrIter it "str_ascii_iterator" (T l) t (i+1),fun A s Q E g hQ=>Zp.yields_ascii (x:=T l) (t:=t) (i:=i) (c:=c) (by show l.toArray[i]? = _;simpa using ec) s Q E g fun v h' tk e=>hQ v h' tk ?_,fun h' kk=>?_,fun h h' z kk=>?_,fun h z=>z⟩
   ·obtain⟨u,rfl⟩:=e;exact⟨u,rfl⟩
   ·obtain⟨o,e,c,d⟩:=st;exact⟨o,kk _ _ (.inl rfl) e,c,d⟩
   ·obtain⟨o,e,c,d⟩:=z;exact⟨o,kk _ _ (.inl rfl) e,c,d⟩
 ends:=by
  intro X hP hw hK pins s σ H i I g hx st
  subst hP hw hK
  have hl:l.length≤i:=by simpa [vC] using hx
  refine⟨_,fun A hh=>Zp.ends_ascii (x:=T l) (t:=t) (i:=i) hh (by show l.toArray[i]? = none;simpa using hl),fun h' kk=>?_⟩
  obtain⟨o,e,c,d⟩:=st;exact⟨o,kk _ _ (.inl rfl) e,c,d⟩
def ItzG (G1 G2:Hp→Prop)(xs ys:List V):It :=
 ⟨fun i H=>G1 H∧G2 H∧i<min xs.length ys.length,fun i H v H'=>∃p x y,H p=none∧xs[i]? = some x∧ys[i]? = some y∧v=.ref p∧H'=upd H p (.tup [x,y]),fun i H=>G1 H∧G2 H∧min xs.length ys.length≤i⟩
def tnZG (n:Nat)(S1 S2:Nat→Heap→Prop)(i:Nat)(h:Heap):Prop:=∃a b f1,Zp.IsZipF h (n+4:Nat) (n+2:Nat) (n+3:Nat) .none f1∧IsPair h (n+2:Nat) (.ref n) (.ref (n+1:Nat))∧IsPair h (n+3:Nat) a b∧S1 i h∧S2 i h
theorem turn_zipG {P:Program}{w:World}{K:PySem.W.Frag}{elts:List Expr}{k:Nat}{pos:Pos}{n:Nat}{xs ys:List V}{G1 G2:Hp→Prop}{S1 S2:Nat→Heap→Prop}(A1:ZS P w K xs G1 n n S1)(A2:ZS P w K ys G2 n (n+1) S2) :
  Turn P w K (.Tuple elts k pos) (ItzG G1 G2 xs ys) (fpZ n) (n+4:Nat) (tnZG n S1 S2) where
 mem:=by simp[fpZ]
 obj:=fun i h ⟨a,b,f1,z1,z2,z3,z4,z5⟩ c hc=>by
  simp only[fpZ,List.mem_cons,List.mem_nil_iff,or_false] at hc
  rcases hc with rfl|rfl|rfl|rfl|rfl
  ·exact⟨_,z1,fun v z=>by cases z⟩
  ·exact⟨_,z2,fun v z=>by cases z⟩
  ·exact⟨_,z3,fun v z=>by cases z⟩
  ·exact A1.obj i h z4
  ·exact A2.obj i h z5
 keep:=fun i h h' ⟨a,b,f1,z1,z2,z3,z4,z5⟩ kk=>by
  refine⟨a,b,f1,kk _ (by simp[fpZ]) _ z1,kk _ (by simp[fpZ]) _ z2,kk _ (by simp[fpZ]) _ z3,A1.keep i h h' z4 fun o e=>kk _ (by simp[fpZ]) o e,A2.keep i h h' z5 fun o e=>kk _ (by simp[fpZ]) o e⟩
 item := by
  intro X hP hw hK hc i pins s σ H E I hf st hg
  obtain⟨q1,q2,hi⟩:=hg
  have i1:i<xs.length:=by omega
  have i2:i<ys.length:=by omega
  obtain⟨a,b,f1,z1,z2,z3,z4,z5⟩:=st
  obtain⟨Ga,Sa,Y1,ga,sa,ta⟩:=A1.yld X hP hw hK pins s σ H i _ I q1 (List.getElem?_eq_getElem i1) z4
  obtain⟨Gb,Sb,Y2,gb,sb',tb⟩:=A2.yld X hP hw hK pins s σ H i _ I q2 (List.getElem?_eq_getElem i2) z5
  subst hP hw hK
  have hT:s.TypeIs (.ref ((n+4:Nat):Addr)) "zip" := ⟨_,z1,rfl⟩
  unfold pyNext
  refine wpAny_bind (wpAny_attempt (wpAny_callSpecial?_slot (name:=Str.ofString "__next__") hT PySem.F.slot_zip_next
   (wpAny_call_entry PySem.F.slot_zip_next hT PySem.F.entry_zip_next ?_ (PySem.F.args_zip_next_1 _))))
  have D:=zApart n
  have nn:∀{c:Addr}{k:Nat},(c:Nat)<n→c≠((n+k:Nat):Addr):=fun {c k} hc=>ne_nat (.inl (Nat.lt_of_lt_of_le hc (Nat.le_add_right _ _)))
  refine Zp.next_item D z1 z2 z3 (Y1 _) (Y2 _) ?_ ?_ ?_ ?_ ?_
  ·refine fun h' kk=>ga h' fun c o hc e=>kk c o ?_ e
   rcases hc with rfl|hc
   ·exact D.i1z
   ·exact nn hc
  ·refine fun h' kk=>gb h' fun c o hc e=>?_
   rcases hc with rfl|hc
   ·exact kk _ _ D.i2z D.TOi2.symm D.i12.symm e
   ·exact kk _ _ (nn hc) (nn hc) (nn (k:=0) hc) e
  ·refine fun h h' z kk=>sa h h' z fun c o hc e=>?_
   rcases hc with rfl|hc
   ·exact kk _ _ D.i1z D.TOi1.symm D.i12 e
   ·exact kk _ _ (nn hc) (nn hc) (nn hc) e
  ·refine fun h h' z kk=>sb' h h' z fun c o hc e=>?_
   rcases hc with rfl|hc
   ·exact kk _ _ D.i2z D.TOi2.symm e
   ·exact kk _ _ (nn hc) (nn hc) e
  ·rintro v1 v2 h' tk ru1 ru2 z' to' s1 s2 hp hsz kk
   refine wpAny_pure ⟨_,rfl,?_⟩
   refine wpAny_letOwnedTupleGo_zip (s:={s with heap:=h',toks:=tk}) z' fun h2 zz sb=>?_
   obtain⟨o1,e1,_⟩:=A1.obj _ _ z4
   obtain⟨o2,e2,_⟩:=A2.obj _ _ z5
   have nz:∀c:Addr,c=s.heap.objs.size→c∉fpZ n:=fun c e hc=>by
    have:=(hf c hc).1
    obtain ⟨o,ho,_⟩:∃o,s.heap.get? c=some o∧True:=by
     simp only[fpZ,List.mem_cons,List.mem_nil_iff,or_false] at hc
     rcases hc with rfl|rfl|rfl|rfl|rfl
     ·exact⟨_,z1,trivial⟩
     ·exact⟨_,z2,trivial⟩
     ·exact⟨_,z3,trivial⟩
     ·exact⟨_,e1,trivial⟩
     ·exact⟨_,e2,trivial⟩
    rw[e] at ho
    exact absurd (Heap.lt_size ho) (Nat.lt_irrefl _)
   have szz:s.heap.objs.size≠((n+4:Nat):Addr):=fun e=>nz _ rfl (by rw[e];simp[fpZ])
   have I1:Inv X pins σ H {s with heap:=h2,toks:=tk}:=I.turnedL (fp:=fpZ n) (fun c o hc e=>by
    have hc':c≠((n+4:Nat):Addr)∧c≠((n+2:Nat):Addr)∧c≠((n+3:Nat):Addr)∧c≠(n:Addr)∧c≠((n+1:Nat):Addr):=by
     simpa [fpZ] using hc
    exact sb.extBut _ _ hc'.1 (kk c o hc'.1 hc'.2.2.1 hc'.2.2.2.1 hc'.2.2.2.2 e)) hf
   have hfree:H s.heap.objs.size=none:=I.hok.fresh (Nat.le_refl _)
   have hpair:h2.get? s.heap.objs.size=some {cls:=.type "tuple", data:=.seq #[v1,v2]}:=sb.extBut _ _ szz hp
   have I2:Inv X pins σ (upd H s.heap.objs.size (.tup [xs[i],ys[i]])) {s with heap:=h2,toks:=tk}:=I1.track hfree (.inr I.sz) (Nat.ne_of_gt I.lt) (fun x c e=>by
     obtain⟨v,o,ho,_⟩:=I.cell x c e
     exact Nat.ne_of_lt (Heap.lt_size ho)) (fun p hp=>Nat.ne_of_lt (Heap.lt_size (I.pin p hp).1))
    ⟨by show 2≤sizeLine;decide,[v1,v2],.cons ru1 (.cons ru2 .nil),_,hpair,rfl,⟨_,rfl⟩,rfl⟩
   refine⟨.ref s.heap.objs.size,_,I2,rfl,⟨_,_,_,hfree,List.getElem?_eq_getElem i1,List.getElem?_eq_getElem i2,rfl,rfl⟩,⟨v1,v2,.bool false,zz,sb.extBut _ _ D.TIz (kk _ _ D.TIz D.TITO D.TIi1 D.TIi2 z2),sb.extBut _ _ D.TOz to',?_,?_⟩,fun b hb=>?_⟩
   ·exact A1.keep _ _ _ (ta _ s1) fun o e=>sb.extBut _ _ D.i1z e
   ·exact A2.keep _ _ _ (tb _ s2) fun o e=>sb.extBut _ _ D.i2z e
   ·rw[upd_ne (fun e=>nz b e hb)]
    exact(hf b hb).1
 done:=by
  intro X hP hw hK hc i pins s σ H E I hf st hg
  obtain⟨q1,q2,hi⟩:=hg
  obtain⟨a,b,f1,z1,z2,z3,z4,z5⟩:=st
  have hT:s.TypeIs (.ref ((n+4:Nat):Addr)) "zip" := ⟨_,z1,rfl⟩
  have D:=zApart n
  have nn:∀{c:Addr}{k:Nat},(c:Nat)<n→c≠((n+k:Nat):Addr):=fun {c k} hc=>ne_nat (.inl (Nat.lt_of_lt_of_le hc (Nat.le_add_right _ _)))
  have hh:=I.ok.hd hc
  have key:∃Ga Gb:Heap→Prop,(Zp.Ends X.prog X.w X.A.in1 (n:Addr) Ga∨(Zp.Yields X.prog X.w X.A.in1 (n:Addr) Ga (fun _=>True) (fun _=>True)∧Zp.Ends X.prog X.w X.A.in1 ((n+1:Nat):Addr) Gb))∧(∀h',Kp n n s.heap h'→Ga h')∧(∀h',Kp (n+1) n s.heap h'→Gb h'):=by
   by_cases h1:xs.length≤i
   ·obtain⟨Ga,y,g⟩:=A1.ends X hP hw hK pins s σ H i I q1 h1 z4
    subst hP hw
    exact⟨Ga,fun _=>True,.inl (y _ hh),g,fun _ _=>trivial⟩
   ·obtain⟨Ga,Sa,Y1,ga,sa,ta⟩:=A1.yld X hP hw hK pins s σ H i _ I q1 (List.getElem?_eq_getElem (Nat.lt_of_not_le h1)) z4
    obtain⟨Gb,y,g⟩:=A2.ends X hP hw hK pins s σ H i I q2 (by omega) z5
    subst hP hw
    exact⟨Ga,Gb,.inr ⟨fun s Q E g hQ=>Y1 _ s Q E g fun v h' tk _ _ sb=>hQ v h' tk trivial trivial sb,y _ hh⟩,ga,g⟩
  obtain⟨Ga,Gb,hend',ga,gb⟩:=key
  subst hP hw hK
  unfold pyNext
  refine wpAny_bind (wpAny_attempt (wpAny_callSpecial?_slot (name:=Str.ofString "__next__") hT PySem.F.slot_zip_next
   (wpAny_call_entry PySem.F.slot_zip_next hT PySem.F.entry_zip_next (Zp.next_end D z1 z2 z3 hend' ?_ ?_ ?_) (PySem.F.args_zip_next_1 _))))
  ·refine fun h' kk=>ga h' fun c o hc e=>kk c o ?_ e
   rcases hc with rfl|hc
   ·exact D.i1z
   ·exact nn hc
  ·refine fun h' kk=>gb h' fun c o hc e=>?_
   rcases hc with rfl|hc
   ·exact kk _ _ D.i2z D.TOi2.symm D.i12.symm e
   ·exact kk _ _ (nn hc) (nn hc) (nn (k:=0) hc) e
  ·intro h' tk e kk he
   obtain⟨o,ho,hc⟩:=he
   refine wpAny_bind (wpAny_isInstance (T := "StopIteration") (b:=true) ⟨o,ho,hc⟩ isSubtype_stop ?_)
   refine wpAny_pure ⟨rfl,I.turnedL (fp:=fpZ n) (fun c o hc e=>?_) hf⟩
   have hc':c≠((n+4:Nat):Addr)∧c≠((n+2:Nat):Addr)∧c≠((n+3:Nat):Addr)∧c≠(n:Addr)∧c≠((n+1:Nat):Addr):=by
    simpa [fpZ] using hc
   exact kk c o hc'.1 hc'.2.2.1 hc'.2.2.2.1 hc'.2.2.2.2 e
 self:=fun A i s Q E ⟨a,b,f1,z1,z2,z3,z4,z5⟩ h=>by
  have hT:s.TypeIs (.ref ((n+4:Nat):Addr)) "zip" := ⟨_,z1,rfl⟩
  refine wpAny_pyIter_slot hT PySem.F.slot_zip_iter (wpAny_call_entry PySem.F.slot_zip_iter hT PySem.F.entry_zip_iter ?_ (PySem.F.args_zip_iter_1 _))
  show wpAny _ _ (ret (.ref ((n+4:Nat):Addr))) _ _ s
  exact wpAny_pure ⟨_,rfl, "zip", _,hT,PySem.F.slot_zip_next.lookup,h⟩
def Itu (u:Value)(o:Obj)(G:Heap→Prop):Prop:=∀(prog:Program) (w:World) (A:Around) (s:Shared) (Q:Value→Shared→Prop) (E:Value→Shared→Prop),G s.heap→Q (.ref s.heap.objs.size) {s with heap:=s.heap.push o}→wpAny (model prog w) A (pyIter u) Q E s
section
variable {prog:Program}{w:World}{A:Around}{E:Value→Shared→Prop}{s:Shared}
theorem meets_vv {u1 u2:Value}{o1 o2:Obj}{G1 G2:Heap→Prop}(b1:Itu u1 o1 G1)(b2:Itu u2 o2 G2)(up:∀h,G2 h→G2 (h.push o1)) :
  Meets (Builtin.«zip.__new__» ⟨[.type "zip", u1,u2],[]⟩) (fun _ R s=>G1 s.heap∧G2 s.heap ∧
   R (.ok (.ret (.ref (Zp.zH4 s.heap o1 o2).objs.size))) {s with heap:=Zp.zH5 s.heap o1 o2}) :=
 .of_wp fun prog w A R s h=>by
  obtain⟨hl1,hl2,h⟩:=h
  have z3:(Zp.zH3 s.heap o1 o2).objs.size=(Zp.zH2 s.heap o1 o2).objs.size+1:=Heap.size_push ..
  have z4:(Zp.zH4 s.heap o1 o2).objs.size=(Zp.zH2 s.heap o1 o2).objs.size+2:=by rw[Heap.size_push,z3]
  refine Zp.meets_st_aux (h1:=s.heap.push o1) (h2:=Zp.zH2 s.heap o1 o2) (i1:=s.heap.objs.size) (i2:=(s.heap.push o1).objs.size)
   (fun Q E q=>b1 prog w A.in1 s Q E hl1 q) (fun Q E q=>b2 prog w A.in1 {s with heap:=s.heap.push o1} Q E (up _ hl2) q) ⟨_,rfl,?_⟩
  rw[← z4,← z3]
  exact h
theorem call_zipV {u1 u2:Value}{o1 o2:Obj}{G1 G2:Heap→Prop}{Q:Value→Shared→Prop}(f1:o1.isFreed=false)(f2:o2.isFreed=false)(b1:Itu u1 o1 G1)(b2:Itu u2 o2 G2)(up:∀h,G2 h→G2 (h.push o1))(hl1:G1 s.heap)(hl2:G2 s.heap)
  (h:∀h',Zp.Made5 s.heap h' o1 o2→Q (.ref (s.heap.objs.size+4)) {s with heap:=h'}) :
  wpAny (model prog w) A (call (.type "zip") [u1,u2]) Q E s:=by
 refine callType_new F.called_zip (by decide) (F.typeCall_zip_2 _ _) (F.newCall_zip_2 _ _) (fun obj=>F.args_object_init_3 obj _ _) F.entry_zip_new
  (meets_vv b1 b2 up) ⟨hl1,hl2,?_⟩
 obtain⟨m,z4⟩:=Zp.made5 s.heap o1 o2 f1 f2
 show _∧_
 rw[z4]
 exact⟨⟨_,m.1,rfl⟩,h _ m⟩
end
def ZArg (K:PySem.W.Frag)(H:Hp)(v:V)(xs:List V)(G:Hp→Prop):Prop :=
 (∃l,v=.ref l∧SqT K H l xs∧G=fun H=>SqT K H l xs)∨(∃l,v=.ref l∧SqL K H l xs∧G=fun H=>SqL K H l xs)∨(∃l,v=.str (T l)∧(∀c∈l,c<128)∧xs=vC l∧G=fun _=>True)
theorem zarg {X:Cx}{pins:List (Addr×Obj)}{s:Shared}{σ:St}{H:Hp}{v:V}{u:Value}{xs:List V}{G:Hp→Prop}(I:Inv X pins σ H s)(z:ZArg X.K H v xs G)(r:RelV v u):G H∧∃(o:Obj) (C:Heap→Prop),o.isFreed=false∧C s.heap∧(∀h o',C h→C (h.push o'))∧Itu u o C ∧
  ∀it:Nat,s.heap.objs.size≤it→∃S,ZS X.prog X.w X.K xs G s.heap.objs.size it S∧∀h:Heap,h.get? (it:Addr)=some o→S 0 h:=by
 rcases z with⟨l,rfl,q,rfl⟩|⟨l,rfl,q,rfl⟩|⟨l,rfl,ha,rfl,rfl⟩
 ·cases r
  obtain⟨its,rv,pl,_⟩:=I.tuple q
  have p1:s.heap.IsTuple l its.toArray:=pl
  have lt1:l<s.heap.objs.size:=by obtain⟨o,e,_⟩:=p1;exact Heap.lt_size e
  exact⟨q,Zp.tIter l,fun h=>h.IsTuple l its.toArray,rfl,p1,fun h o' ⟨o,e,r⟩=>⟨o,Heap.get?_push_of_some _ e,r⟩,fun _ _ _ _ _ _ g q=>wpAny_pyIter_tuple g q,fun it hit=>⟨_,zs_tup lt1 hit,fun h e=>⟨_,e,rfl,rfl⟩⟩⟩
 ·cases r
  obtain⟨its,rv,pl,_⟩:=I.list q
  have p1:s.heap.IsList l its.toArray:=pl.isList
  have lt1:l<s.heap.objs.size:=by obtain⟨o,e,_⟩:=p1;exact Heap.lt_size e
  exact⟨q,Zp.lIter l,fun h=>h.IsList l its.toArray,rfl,p1,fun h o' ⟨o,e,r⟩=>⟨o,Heap.get?_push_of_some _ e,r⟩,fun _ _ _ _ _ _ g q=>wpAny_pyIter_list g q,fun it hit=>⟨_,zs_lst lt1 hit,fun h e=>⟨_,e,rfl,rfl⟩⟩⟩
 ·obtain ⟨t,rfl⟩:=r
  have ha':(T l).cps.all (· < 128)=true:=by
   simp only[T,List.all_toArray,List.all_eq_true,decide_eq_true_eq]
   exact ha
  exact⟨trivial,Zp.sIter (T l) t,fun _=>True,rfl,trivial,fun _ _ _=>trivial,fun _ _ _ _ _ _ _ q=>wpAny_pyIter_ascii ha' q,fun it hit=>⟨_,zs_str,fun h e=>⟨_,e,rfl,rfl⟩⟩⟩
def Itz (K:PySem.W.Frag)(l1 l2:Addr)(xs ys:List V):It :=
 ⟨fun i H=>SqT K H l1 xs∧SqT K H l2 ys∧i<min xs.length ys.length,fun i H v H'=>∃p x y,H p=none∧xs[i]? = some x∧ys[i]? = some y∧v=.ref p∧H'=upd H p (.tup [x,y]),fun i H=>SqT K H l1 xs∧SqT K H l2 ys∧min xs.length ys.length≤i⟩
def iZip (K:PySem.W.Frag)(ta tb:TE):TI:=fun σ H R=>tCons ta (tCons tb tNil) σ H fun vs H1=>∃l1 l2 xs ys,vs=[.ref l1,.ref l2]∧SqT K H1 l1 xs∧SqT K H1 l2 ys∧R (Itz K l1 l2 xs ys) H1
section
variable {X:Cx}
theorem pi_zipP {Z:List V→Hp→(It→Hp→Prop)→Prop}(hZ:∀vs H1 R,Z vs H1 R→∃(v1 v2:V) (xs ys:List V) (G1 G2:Hp→Prop),vs=[v1,v2]∧ZArg X.K H1 v1 xs G1∧ZArg X.K H1 v2 ys G2∧R (ItzG G1 G2 xs ys) H1){elts:List Expr}{k:Nat}{tpos:Pos}{a b:Expr}{ta tb:TE}{p pos:Pos}(hg:Gl X "zip")(hm:X.mg "zip" = none)(ha:PE X a ta)(hb:PE X b tb)
  (hs:starEach [a,b] X.env=[(false,eval a X.env),(false,eval b X.env)]:=by rfl) (hs2:starEach [b] X.env=[(false,eval b X.env)]:=by rfl) :
  PI X (.Tuple elts k tpos) (.Call (.Name "zip" p) [a,b] [] pos) (fun σ H R=>tCons ta (tCons tb tNil) σ H fun vs H1=>Z vs H1 R):=by
 intro pins s σ H R I h
 have hA:PA X [a,b] (tCons ta (tCons tb tNil)):=pa_cons ha (pa_cons hb pa_nil hs2) (by rw[hs,hs2])
 refine wpAny_Call_Name_kw (ld_blt I hg hm boot_zip ?_)
 refine PyProof.Rows.callWith_type1 (thn (hA pos pins s σ H _ I h) fun us s1 hq35=>?_) (by rw[hs,hs2]) (by rw[hs2];rfl)
 obtain⟨vs,H2,I2,r2,zz⟩:=hq35
 obtain⟨v1,v2,xs,ys,G1,G2,ev,q1,q2,q⟩:=hZ _ _ _ zz
 subst ev
 obtain⟨u1,u2,rfl,ru1,ru2⟩:=vals2 r2
 obtain⟨g1,o1,C1,f1,c1,p1,b1,m1⟩:=zarg I2 q1 ru1
 obtain⟨g2,o2,C2,f2,c2,p2,b2,m2⟩:=zarg I2 q2 ru2
 obtain⟨S1,A1,st1⟩:=m1 s1.heap.objs.size (Nat.le_refl _)
 obtain⟨S2,A2,st2⟩:=m2 (s1.heap.objs.size+1) (Nat.le_succ _)
 refine call_zipV f1 f2 b1 b2 (fun h c=>p2 h _ c) c1 c2 fun h1 m5=>?_
 obtain⟨m1,m2,m3,m4,m6,m7,m8⟩:=m5
 have T:=turn_zipG (P:=X.prog) (w:=X.w) (K:=X.K) (elts:=elts) (k:=k) (pos:=tpos) A1 A2
 refine T.self X.A 0 _ _ _ ⟨_,_,_,m1,m2,m3,st1 _ m4,st2 _ m6⟩ ?_
 have I3:Inv X pins σ H2 {s1 with heap:=h1}:=I2.kept (t':=s1.toks) m8
 refine⟨_,fpZ s1.heap.objs.size,_,ItzG G1 G2 xs ys,H2,rfl,I3,T,⟨_,_,_,m1,m2,m3,st1 _ m4,st2 _ m6⟩,fun c hc=>?_,q⟩
 have hge:s1.heap.objs.size≤c:=by
  simp only[fpZ,List.mem_cons,List.mem_nil_iff,or_false] at hc
  rcases hc with rfl|rfl|rfl|rfl|rfl
  ·exact Nat.le_add_right _ _
  ·exact Nat.le_add_right _ _
  ·exact Nat.le_add_right _ _
  ·exact Nat.le_refl _
  ·exact Nat.le_add_right _ _
 obtain⟨f0,f1,f2,f3,f4,f5⟩:=I2.fpOk hge (I2.hok.fresh hge)
 exact⟨f0,f1,f2,f3,f4,f5⟩
theorem pi_ziptt {elts:List Expr}{k:Nat}{tpos:Pos}{a b:Expr}{ta tb:TE}{p pos:Pos}(hg:Gl X "zip")(hm:X.mg "zip" = none)(ha:PE X a ta)(hb:PE X b tb)
  (hs:starEach [a,b] X.env=[(false,eval a X.env),(false,eval b X.env)]:=by rfl) (hs2:starEach [b] X.env=[(false,eval b X.env)]:=by rfl) :
  PI X (.Tuple elts k tpos) (.Call (.Name "zip" p) [a,b] [] pos) (iZip X.K ta tb):=pi_zipP (fun vs H1 R ⟨l1,l2,xs,ys,e,q1,q2,r⟩=>⟨_,_,xs,ys,_,_,e,.inl ⟨l1,rfl,q1,rfl⟩,.inl ⟨l2,rfl,q2,rfl⟩,r⟩) hg hm ha hb hs hs2
end
end L2
namespace L2
open PySem PySem.Spec PyProof.Rows
def Srt (ls:List (List Nat)):Prop:=ls.Pairwise (·≤·)
theorem le_of_ltCps {a b:List Nat}(h:ltCps b a=false):a≤b:=by
 rw[ltCps_eq] at h
 exact List.not_lt.mp (of_decide_eq_false h)
theorem risingS_pair:∀(p:Str) (l:List Str),risingS p l=true→(p::l).Pairwise fun a b=>a.cps.toList≤b.cps.toList
 | p,[],_=>by simp
 | p,x::r,h=>by
  have h':(!ltCps x.cps.toList p.cps.toList&&risingS x r)=true:=h
  rw[Bool.and_eq_true] at h'
  have h1:p.cps.toList≤x.cps.toList:=le_of_ltCps (by simpa using h'.1)
  have h2:=risingS_pair x r h'.2
  refine List.pairwise_cons.mpr ⟨fun y hy=>?_,h2⟩
  rcases List.mem_cons.mp hy with rfl|hy
  ·exact h1
  ·exact List.le_trans h1 (List.rel_of_pairwise_cons h2 hy)
theorem srt_of {ss:List Str}(h:sortedS ss=true):Srt (ss.map fun x=>x.cps.toList):=by
 unfold Srt
 rw[List.pairwise_map]
 cases ss with
 | nil=>simp
 | cons x r=>exact risingS_pair x r h
theorem strs_vals:∀{us:List Value}{ss:List Str},StrsAre us ss→Vals (ss.map V.str) us
 | _,_,.nil=>.nil
 | _,_,.cons x t h=>.cons ⟨t,rfl⟩ (strs_vals h)
def vT (ls:List (List Nat)):List V:=ls.map fun l=>V.str (T l)
theorem vT_str (ss:List Str):ss.map V.str=vT (ss.map fun x=>x.cps.toList):=by
 unfold vT
 rw[List.map_map]
 exact List.map_congr_left fun x _=>congrArg V.str (T_of x).symm
theorem vT_T (ls:List (List Nat)):vT ls=(ls.map T).map V.str:=by unfold vT;rw[List.map_map];rfl
section
variable {X:Cx}
theorem call_sortedS:CallR X (.builtin "sorted") (fun xs H Q=>∃a ls,xs=[.ref a]∧SqL X.K H a (vT ls)∧ls.length<64∧∀p ms,H p=none→ms.Perm ls→Srt ms→Q (.ref p) (upd H p (.lst (vT ms)))):=by
 intro pins s σ H xs us Q I r h
 obtain⟨a,ls,rfl,ha,h64,q⟩:=h
 obtain⟨u,rfl,ru⟩:=vals1 r
 cases ru
 obtain⟨its,rv,pl,hz⟩:=I.list ha
 rw[vT_T] at rv
 have hl:=rv.length
 simp only[List.length_map] at hl
 refine sorted_strs pl.isList (vals_strs rv) (by omega) fun out ss' h1 h2 h3=>?_
 have hS:=srt_of h3
 have hP:(ss'.map fun x=>x.cps.toList).Perm ls:=by
  have:=h2.map fun x:Str=>x.cps.toList
  rw[List.map_map] at this
  have e:ls.map ((fun x:Str=>x.cps.toList)∘T)=ls:=by
   have:((fun x:Str=>x.cps.toList)∘T)=id:=funext fun l=>T_cps l
   rw[this,List.map_id]
  rw[e] at this
  exact this
 obtain⟨c,hat⟩:=sortedAll_at s.heap its out
 have hlen:ss'.length=ls.length:=by have:=h2.length_eq;simpa using this
 refine⟨.ref (s.heap.objs.size+1),_,I.laid (t':=s.toks) (o:=.lst (vT (ss'.map fun x=>x.cps.toList))) (fun b o e=>sortedAll_old e) (Nat.le_succ _) ?_,rfl,q _ _ (I.hok.fresh (Nat.le_succ _)) hP hS⟩
 refine⟨?_,out.toList,c,?_,by simpa [seqObj] using hat⟩
 ·rw[← vT_str,List.length_map,sizeLine_eq];omega
 ·rw[← vT_str];exact strs_vals h1
theorem vals_of:∀{xs:List V}{us:List Value},xs.length=us.length→(∀(j:Nat) x u,xs[j]? = some x→us[j]? = some u→RelV x u)→Vals xs us
 | [],[],_,_=>.nil
 | [],_::_,h,_=>by simp at h
 | _::_,[],h,_=>by simp at h
 | x::xs,u::us,h,k=>.cons (k 0 x u rfl rfl) (vals_of (by simpa using h) fun j y v e1 e2=>k (j+1) y v (by simpa using e1) (by simpa using e2))
theorem call_sortedD (hc:X.calm=true):CallR X (.builtin "sorted") (fun xs H Q=>∃a kvs ls,xs=[.ref a]∧H a=some (.dK kvs)∧kvs.map (·.1)=ls.map (fun l=>(Sum.inr (T l):Key))∧ls.length<64∧∀p ms,H p=none→ms.Perm ls→Srt ms→Q (.ref p) (upd H p (.lst (vT ms)))):=by
 intro pins s σ H xs us Q I r h
 obtain⟨a,kvs,ls,rfl,ha,hks,h64,q⟩:=h
 obtain⟨u,rfl,ru⟩:=vals1 r
 cases ru
 obtain⟨hz,lo,ws,kv,hD⟩:=I.hok a _ ha
 obtain⟨ep,hat⟩:=hD.dictAt
 have hlk:kvs.length=ls.length:=by have:=congrArg List.length hks;simpa using this
 have hkeys:∀{kvs:List (Key×V)}{ws:List (Key×Value)},KV kvs ws→ws.map (·.1)=kvs.map (·.1):=fun {kvs ws} kv=>by
  induction kv with
  | nil=>rfl
  | cons r _ ih=>rw[List.map_cons,List.map_cons,ih,r.1]
 have hw:ws.map (·.1)=ls.map (fun l=>(Sum.inr (T l):Key)):=(hkeys kv).trans hks
 have hlw:ws.length=ls.length:=by have:=congrArg List.length hw;simpa using this
 refine Calls.call_function_entry kind_sorted plain_sorted entry_sorted (args_sorted1 _) ?_
 unfold Builtin.«sorted»
 refine wpAny_bind (m:=checkCount "sorted" 1 1 _) (wpAny_pure ?_)
 refine wpAny_bind (PySem.W.kdu_collect (A:=X.A.in1) (PySem.W.kdl_dict (knd:=mixKind X.prog X.w) (kvs:=ws) (ep:=ep) lo) (I.ok.hd hc) hat (by rw[sizeLine_eq];omega) fun h' tk acc hk hacc=>?_)
 have hl:acc.toList.length=ls.length:=by rw[Array.length_toList,hacc.1,hlw]
 have hS:StrsAre acc.toList (ls.map T):=by
  have hv:Vals ((ls.map T).map V.str) acc.toList:=vals_of (by rw[List.length_map,List.length_map,hl]) fun j x v e1 e2=>by
   obtain⟨k,y,e3,e4⟩:=hacc.2 j v (by simpa using e2)
   rw[List.map_map,List.getElem?_map] at e1
   have e5:(ws.map (·.1))[j]? = some k:=by rw[List.getElem?_map,e3];rfl
   rw[hw,List.getElem?_map] at e5
   cases e6:ls[j]? with
   | none=>rw[e6] at e5;cases e5
   | some l =>
    rw[e6] at e5 e1
    obtain rfl:=Option.some.inj e5
    obtain rfl:=Option.some.inj e1
    rcases keyIs_shape (show keyIs (Sum.inr (T l)) v=true from e4) with⟨i,t,z,_⟩|⟨x,t,z,rfl⟩
    ·cases z
    ·injection z with z
     subst z
     exact⟨t,rfl⟩
  exact vals_strs hv
 refine wpAny_bind (wpAny_newList ?_ (by rw[hl,sizeLine_eq];omega))
 have hoL:(h'.push (seqObj "list" acc.toList.toArray 0)).get? h'.objs.size=some (seqObj "list" acc.toList.toArray 0):=Heap.get?_push_size _ rfl
 show wpAny _ _ _ _ _ {s with heap:=h'.push (seqObj "list" acc.toList.toArray 0),toks:=tk}
 refine wpAny_bind (wpAny_holding (wpAny_call_entry slot_list_sort ⟨_,hoL,rfl⟩ entry_list_sort (list_sort_treeK strKind_oneLt hoL hS.keysOf (fun v₁ v₂ rest e=>keyKind_strs (by rw[← e];exact hS)) (by omega) fun st' a1 a2=>⟨_,rfl,?_⟩) (args_list_sort _)))
 refine wpAny_pure ⟨_,rfl,?_⟩
 obtain⟨ss',h1,h2,h3⟩:=sorted_out_str hS a1 a2
 have hSr:=srt_of h3
 have hP:(ss'.map fun x=>x.cps.toList).Perm ls:=by
  have:=h2.map fun x:Str=>x.cps.toList
  rw[List.map_map] at this
  have e:ls.map ((fun x:Str=>x.cps.toList)∘T)=ls:=by
   have:((fun x:Str=>x.cps.toList)∘T)=id:=funext fun l=>T_cps l
   rw[this,List.map_id]
  rw[e] at this
  exact this
 obtain⟨c,hat'⟩:=sortedHeap_at (n:=0) (out:=(arrOf st').map (·.2)) hoL
 have hlen:ss'.length=ls.length:=by have:=h2.length_eq;simpa using this
 have I1:Inv X pins σ H {s with heap:=h',toks:=tk}:=I.kept (t':=tk) hk
 refine⟨.ref h'.objs.size,_,I1.laid (t':=tk) (o:=.lst (vT (ss'.map fun x=>x.cps.toList))) (fun b o e'=>?_) (Nat.le_refl _) ?_,rfl,q _ _ (I1.hok.fresh (Nat.le_refl _)) hP hSr⟩
 ·have hlt:=Heap.lt_size e'
  rw[sortedHeap_old (Nat.ne_of_lt hlt) (by rw[size_push'];exact Nat.lt_succ_of_lt hlt)]
  exact Heap.get?_push_of_some _ e'
 ·refine⟨?_,((arrOf st').map (·.2)).toList,c,?_,by rw[Array.toArray_toList];exact hat'⟩
  ·rw[← vT_str,List.length_map,sizeLine_eq];omega
  ·rw[← vT_str];exact strs_vals h1
theorem pg_two {K:PySem.W.Frag}{i j:Nat}{x y:Str}{px py pos:Pos}{k:Nat}(hK:X.K=K)(hc:X.calm=true)(hN:X.N.Nodup)(hi:X.N[i]? = some x)(hj:X.N[j]? = some y)(hx:Loc X.env.scope x)(hy:Loc X.env.scope y)
  (fx:X.fn x=true∨X.env.scope.names.lookup x=some .local:=by first|exact .inl rfl|exact .inr rfl|assumption) (fy:X.fn y=true∨X.env.scope.names.lookup y=some .local:=by first|exact .inl rfl|exact .inr rfl|assumption) :
  PG X (.Tuple [.Name x px,.Name y py] k pos) (gTup K 2 (gCons (gName i) (gCons (gName j) gNil))):=hK▸pg_tup hc (pgs_cons (pg_name hN hi hx fx) (pgs_cons (pg_name hN hj hy fy) pgs_nil))
end
theorem turns_zip {K:PySem.W.Frag}{l1 l2:Addr}{xs ys:List V}(hz:xs.length≤sizeLine){g:TG}{tt:TT}{te:TE}{σ0:St}{F:List V→Hp→Prop}{H1:Hp}(Pv:Nat→List V→Hp→Prop)(h0:Pv 0 [] H1)(hG:∀i vs H,Pv i vs H→SqT K H l1 xs∧SqT K H l2 ys∧vs.length≤i)
  (hs:∀i x y p vs H,xs[i]? = some x→ys[i]? = some y→H p=none→Pv i vs H→g (.ref p) σ0 (upd H p (.tup [x,y])) fun σ2 H2=>Kps σ0 σ2∧tt σ2 H2 fun b H3=>if b=true then te σ2 H3 fun v H4=>Pv (i+1) (vs++[v]) H4 else Pv (i+1) vs H3) (hd:∀vs H,Pv (min xs.length ys.length) vs H→F vs H) :
  tTurns g tt te σ0 F (Itz K l1 l2 xs ys) H1:=by
 refine⟨fun i m vs H=>m=min xs.length ys.length - i∧i≤min xs.length ys.length∧Pv i vs H,⟨_,rfl,Nat.zero_le _,h0⟩,?_⟩
 rintro i m vs H ⟨rfl,hi,p⟩
 obtain⟨q1,q2,hl⟩:=hG i vs H p
 refine⟨by omega,?_⟩
 by_cases hlt:i<min xs.length ys.length
 ·refine .inr ⟨⟨q1,q2,hlt⟩,by omega,Pv (i+1),fun vs' H' p'=>⟨min xs.length ys.length - (i+1),by omega,rfl,hlt,p'⟩,?_⟩
  rintro v H' ⟨a,x,y,e0,e1,e2,rfl,rfl⟩
  exact hs i x y a vs H e1 e2 e0 p
 ·have e:i=min xs.length ys.length:=by omega
  subst e
  exact .inl ⟨⟨q1,q2,Nat.le_refl _⟩,hd vs H p⟩
theorem for_zip {K:PySem.W.Frag}{l1 l2:Addr}{xs ys:List V}{g:TG}{tb:TS}{D:Ends}{σ:St}{H:Hp}(Pv:Nat→St→Hp→Prop)(h0:Pv 0 σ H)(hG:∀i σ H,Pv i σ H→SqT K H l1 xs∧SqT K H l2 ys)
  (hs:∀i x y p σ H,xs[i]? = some x→ys[i]? = some y→H p=none→Pv i σ H→g (.ref p) σ (upd H p (.tup [x,y])) fun σ2 H2=>tb {D with nx:=Pv (i+1),ct:=Pv (i+1),bk:=D.nx} σ2 H2) (hd:∀σ H,Pv (min xs.length ys.length) σ H→D.nx σ H) :
  ∃ W:Nat→Nat→St→Hp→Prop,(∃m,W 0 m σ H)∧∀i m σ H,W i m σ H →
   ((Itz K l1 l2 xs ys).stop i H∧D.nx σ H)∨((Itz K l1 l2 xs ys).go i H∧∃N:St→Hp→Prop,(∀σ' H',N σ' H'→∃m',m'<m∧W (i+1) m' σ' H')∧∀x H',(Itz K l1 l2 xs ys).yld i H x H'→g x σ H' fun σ2 H2=>tb {D with nx:=N,ct:=N,bk:=D.nx} σ2 H2):=by
 refine⟨fun i m σ H=>m=min xs.length ys.length - i∧i≤min xs.length ys.length∧Pv i σ H,⟨_,rfl,Nat.zero_le _,h0⟩,?_⟩
 rintro i m σ H ⟨rfl,hi,p⟩
 obtain⟨q1,q2⟩:=hG i σ H p
 by_cases hlt:i<min xs.length ys.length
 ·refine .inr ⟨⟨q1,q2,hlt⟩,Pv (i+1),fun σ' H' p'=>⟨min xs.length ys.length - (i+1),by omega,rfl,hlt,p'⟩,?_⟩
  rintro v H' ⟨a,x,y,e0,e1,e2,rfl,rfl⟩
  exact hs i x y a σ H e1 e2 e0 p
 ·have e:i=min xs.length ys.length:=by omega
  subst e
  exact .inl ⟨⟨q1,q2,Nat.le_refl _⟩,hd σ H p⟩
end L2
namespace My
def abcd:List Nat:=[97,98,99,100]
def wt (ws:List Int)(c:Nat):Int:=ws.getD (c - 97) 0
def up (ws:List Int):List Nat→Int
 | []=>1
 | c::r=>wt ws c*up ws r
def dn (ws:List Int)(l:List Nat):Int:=ws.sum ^ l.length
def shr (ws:List Int)(l:List Nat):Int×Int:=low (up ws l) (dn ws l)
def SrcOk (ws:List Int):Prop:=2≤ws.length∧ws.length≤4∧∀w∈ws,1≤w∧w≤99
def LetOk (m:Nat)(l:List Nat):Prop:=∀c∈l,97≤c∧c<97+m
theorem LetOk.app {m:Nat}{l k:List Nat}(a:LetOk m l)(b:LetOk m k):LetOk m (l++k):=fun c hc=>by
 rcases List.mem_append.mp hc with h|h
 ·exact a c h
 ·exact b c h
theorem LetOk.rev {m:Nat}{l:List Nat}(a:LetOk m l):LetOk m l.reverse:=fun c hc=>a c (List.mem_reverse.mp hc)
theorem up_app (ws:List Int)(l m:List Nat):up ws (l++m)=up ws l*up ws m:=by
 induction l with
 | nil=>simp[up]
 | cons c r ih=>simp only[List.cons_append,up,ih];grind
theorem wt_mem {ws:List Int}(h:SrcOk ws){c:Nat}(hc:97≤c∧c<97+ws.length):wt ws c∈ws:=by
 unfold wt
 have hi:c - 97<ws.length:=by omega
 rw[List.getD_eq_getElem?_getD,List.getElem?_eq_getElem hi]
 exact List.getElem_mem hi
theorem wt_range {ws:List Int}(h:SrcOk ws){c:Nat}(hc:97≤c∧c<97+ws.length):1≤wt ws c∧wt ws c≤99:=h.2.2 _ (wt_mem h hc)
theorem up_pos {ws:List Int}(h:SrcOk ws){l:List Nat}(hl:LetOk ws.length l):0<up ws l:=by
 induction l with
 | nil=>show(0:Int)<1;decide
 | cons c r ih =>
  have h1:=(wt_range h (hl c List.mem_cons_self)).1
  have h2:=ih fun d hd=>hl d (List.mem_cons_of_mem _ hd)
  exact Int.mul_pos (by omega) h2
theorem up_le {ws:List Int}(h:SrcOk ws){l:List Nat}(hl:LetOk ws.length l):up ws l≤99 ^ l.length:=by
 induction l with
 | nil=>show(1:Int)≤99 ^ 0;decide
 | cons c r ih =>
  have h1:=wt_range h (hl c List.mem_cons_self)
  have hr:LetOk ws.length r:=fun d hd=>hl d (List.mem_cons_of_mem _ hd)
  have h2:=ih hr
  have h3:=up_pos h hr
  show wt ws c*up ws r≤99 ^ (r.length+1)
  rw[Int.pow_succ,Int.mul_comm]
  exact Int.mul_le_mul h2 h1.2 (by omega) (Int.pow_nonneg (by decide))
theorem sum_ge:∀{ws:List Int},(∀w∈ws,1≤w∧w≤99)→(ws.length:Int)≤ws.sum∧ws.sum≤99*ws.length
 | [],_=>by simp
 | w::r,h=>by
  have h1:=h w List.mem_cons_self
  have h2:=sum_ge (ws:=r) fun x hx=>h x (List.mem_cons_of_mem _ hx)
  rw[List.sum_cons,List.length_cons]
  omega
theorem sum_mem:∀{ws:List Int},(∀w∈ws,1≤w∧w≤99)→∀w∈ws,w+(ws.length:Int) - 1≤ws.sum
 | v::r,h,w,hw=>by
  have h1:=h v List.mem_cons_self
  have hr:∀x∈r,1≤x∧x≤99:=fun x hx=>h x (List.mem_cons_of_mem _ hx)
  rw[List.sum_cons,List.length_cons]
  rcases List.mem_cons.mp hw with rfl|hw
  ·have:=(sum_ge hr).1;omega
  ·have:=sum_mem hr w hw;omega
theorem W_range {ws:List Int}(h:SrcOk ws):2≤ws.sum∧ws.sum≤396:=by
 have:=sum_ge h.2.2
 have:=h.1
 have:=h.2.1
 omega
theorem wt_lt {ws:List Int}(h:SrcOk ws){c:Nat}(hc:97≤c∧c<97+ws.length):wt ws c<ws.sum:=by
 have:=sum_mem h.2.2 _ (wt_mem h hc)
 have:=h.1
 omega
theorem dn_pos {ws:List Int}(h:SrcOk ws)(l:List Nat):0<dn ws l:=Int.pow_pos (by have:=W_range h;omega)
theorem pow_le {a b:Int}(ha:0≤a)(h:a≤b)(n:Nat):a ^ n≤b ^ n:=by
 induction n with
 | zero=>simp
 | succ n ih =>
  rw[Int.pow_succ,Int.pow_succ]
  exact Int.mul_le_mul ih h ha (Int.pow_nonneg (by omega))
theorem pow_mono {a:Int}(ha:1≤a){n m:Nat}(h:n≤m):a ^ n≤a ^ m:=by
 obtain⟨k,rfl⟩:=Nat.exists_eq_add_of_le h
 rw[Int.pow_add]
 have h1:0<a ^ n:=Int.pow_pos (by omega)
 have h2:0<a ^ k:=Int.pow_pos (by omega)
 have:=Int.mul_le_mul_of_nonneg_left (show(1:Int)≤a ^ k by omega) (Int.le_of_lt h1)
 omega
theorem dn_le {ws:List Int}(h:SrcOk ws)(l:List Nat):dn ws l≤396 ^ l.length:=pow_le (by have:=W_range h;omega) (W_range h).2 _
def Fra (B:Nat)(x:Int×Int):Prop:=0≤x.1∧0<x.2∧x.1<2 ^ B∧x.2<2 ^ B
theorem low_fra {u d:Int}{B:Nat}(hu:0≤u)(hd:0<d)(h1:u<2 ^ B)(h2:d<2 ^ B):Fra B (low u d):=by
 have:=low_le hd hu
 exact⟨low_nonneg hd hu,low_pos hd,by omega,by omega⟩
theorem two_pow (a b:Nat):(2:Int) ^ a*2 ^ b=2 ^ (a+b):=(Int.pow_add ..).symm
theorem Fra.mono {B C:Nat}{x:Int×Int}(h:Fra B x)(hBC:B≤C):Fra C x:=by
 have:=pow_mono (a:=2) (by decide) hBC
 obtain⟨a,b,c,d⟩:=h
 exact⟨a,b,by omega,by omega⟩
theorem mul_lt {a b:Int}{B C:Nat}(ha:0≤a)(hb:0≤b)(h1:a<2 ^ B)(h2:b<2 ^ C):a*b<2 ^ (B+C):=by
 rw[← two_pow]
 have h3:(0:Int)<2 ^ B:=by omega
 have h4:=Int.mul_le_mul (Int.le_of_lt h1) (Int.le_of_lt h2) hb (by omega)
 have:a*b≤a*2 ^ C:=Int.mul_le_mul_of_nonneg_left (Int.le_of_lt h2) ha
 have h5:a*2 ^ C<2 ^ B*2 ^ C:=Int.mul_lt_mul_of_pos_right h1 (by omega)
 omega
theorem shr_fra {ws:List Int}(h:SrcOk ws){l:List Nat}(hl:LetOk ws.length l){n:Nat}(hn:l.length≤n):Fra (9*n+1) (shr ws l):=by
 have h1:=up_le h hl
 have h2:=dn_le h l
 have h3:=pow_le (a:=99) (b:=512) (by decide) (by decide) l.length
 have h4:=pow_le (a:=396) (b:=512) (by decide) (by decide) l.length
 have h5:=pow_mono (a:=512) (by decide) hn
 have e:(512:Int) ^ n=2 ^ (9*n):=by rw[Int.pow_mul];rfl
 have e2:(2:Int) ^ (9*n+1)=2*2 ^ (9*n):=by rw[Int.pow_succ];omega
 have h0:(0:Int)<2 ^ (9*n):=Int.pow_pos (by decide)
 exact low_fra (Int.le_of_lt (up_pos h hl)) (dn_pos h l) (by omega) (by omega)
section
variable {ws:List Int}(h:SrcOk ws)
include h
theorem shr_nil:shr ws []=(1,1):=by
 show low 1 (ws.sum ^ 0)=_
 rw[Int.pow_zero];decide
def acc (ws:List Int)(l:List Nat)(S:Int):Int×Int:=low (up ws l*S) (dn ws l*ws.sum)
end
section
variable {a b c d e f:Int}(hb:0<b)(hd:0<d)(hf:0<f)
include hb
end
end My
namespace My
def rising (ps:List (List Nat)):Bool:=(ps.zip ps.tail).all fun x=>decide (x.1<x.2)
def isInner (ps:List (List Nat))(x:List Nat):Bool:=ps.any fun p=>x.isPrefixOf p && !decide (p=x)
def isApart (ps:List (List Nat))(x:List Nat):Bool:=!(ps.any fun p=>x.isPrefixOf p || p.isPrefixOf x)
def goneOn (m:Nat)(xs:List (List Nat)):List (List Nat):=xs.flatMap fun x=>(abcd.take m).map fun c=>x++[c]
def firstPair (ps:List (List Nat)):Option (List Nat×List Nat):=(ps.zip ps.tail).find? fun x=>x.1.isPrefixOf x.2
def fta (m:Nat)(ps:List (List Nat)):Nat→List (List Nat)→Option (List Nat)
 | 0,_=>none
 | n+1,inner=>if inner=[] then none else match (goneOn m inner).find? (isApart ps) with
  | some x=>some x
  | none=>fta m ps n ((goneOn m inner).filter (isInner ps))
def firstText (m:Nat)(ps:List (List Nat)):Option (List Nat):=fta m ps 32 [[]]
def isBook (m:Nat)(ps:List (List Nat)):Bool:=rising ps&&(firstPair ps).isNone&&(firstText m ps).isNone
theorem goneOn_mem {m:Nat}{xs:List (List Nat)}{y:List Nat}(h:y∈goneOn m xs):∃x∈xs,∃c∈abcd.take m,y=x++[c]:=by
 unfold goneOn at h
 obtain⟨x,hx,hy⟩:=List.mem_flatMap.mp h
 obtain⟨c,hc,rfl⟩:=List.mem_map.mp hy
 exact⟨x,hx,c,hc,rfl⟩
theorem inner_len {ps:List (List Nat)}{x:List Nat}(h:isInner ps x=true)(h8:∀p∈ps,p.length≤31):x.length<31:=by
 unfold isInner at h
 obtain⟨p,hp,e⟩:=List.any_eq_true.mp h
 rw[Bool.and_eq_true] at e
 obtain⟨s,rfl⟩:=List.isPrefixOf_iff_prefix.mp e.1
 have hs:s≠[]:=fun z=>by subst z;simp at e
 have:=h8 _ hp
 rw[List.length_append] at this
 have:=List.length_pos_iff.mpr hs
 omega
def addK (ks:List (List Nat))(k:List Nat):List (List Nat):=if k∈ks then ks else ks++[k]
def begs (p:List Nat):List (List Nat):=(List.range p.length).map fun e=>p.take e
def innerKeys (ps:List (List Nat)):List (List Nat):=(ps.flatMap begs).foldl addK []
def sortF (ls:List (List Nat)):List (List Nat):=ls.mergeSort fun a b=>!decide (b<a)
theorem sortF_srt (ls:List (List Nat)):(sortF ls).Pairwise (·≤·):=by
 have h:=List.pairwise_mergeSort (le:=fun a b:List Nat=>!decide (b<a)) (fun a b c h1 h2=>by
  have h1':a≤b:=List.not_lt.mp (by simpa using h1)
  have h2':b≤c:=List.not_lt.mp (by simpa using h2)
  have h3:¬c<a:=List.not_lt.mpr (List.le_trans h1' h2')
  simpa using h3) (fun a b=>by
  rcases List.le_total a b with h|h
  ·have:=List.not_lt.mpr h
   simp[this]
  ·have:=List.not_lt.mpr h
   simp[this]) ls
 exact h.imp fun h=>List.not_lt.mp (by simpa using h)
theorem sortF_perm (ls:List (List Nat)):(sortF ls).Perm ls:=List.mergeSort_perm ls _
theorem sortF_eq {ls ms:List (List Nat)}(h:ms.Pairwise (·≤·))(p:ms.Perm ls):ms=sortF ls:=List.Perm.eq_of_pairwise (fun _ _ _ _ h k=>List.le_antisymm h k) h (sortF_srt ls) (p.trans (sortF_perm ls).symm)
theorem addK_len (ks:List (List Nat))(k:List Nat):(addK ks k).length≤ks.length+1:=by
 unfold addK
 split
 ·omega
 ·rw[List.length_append];exact Nat.le_refl _
structure Book (m:Nat)(B:List (List Nat)):Prop where
 m2:2≤m
 m4:m≤4
 let_:∀p∈B,LetOk m p
 ne:∀p∈B,p≠[]
 pf:∀p∈B,∀q∈B,p <+: q→p=q
 cv:∀x,LetOk m x→∃p∈B,p <+: x∨x <+: p
 srt:B.Pairwise (·≤·)
 nd:B.Nodup
theorem abcd_let {m c:Nat}(h:c∈abcd.take m):97≤c∧c<97+m:=by
 obtain⟨i,hi,rfl⟩:=List.mem_iff_getElem.mp h
 have h1:i<m:=by rw[List.length_take] at hi;omega
 have h2:i<4:=by rw[List.length_take] at hi;have:abcd.length=4:=rfl;omega
 rw[List.getElem_take]
 have:i=0∨i=1∨i=2∨i=3:=by omega
 rcases this with rfl|rfl|rfl|rfl
 ·show 97≤97∧97<_;omega
 ·show 97≤98∧98<_;omega
 ·show 97≤99∧99<_;omega
 ·show 97≤100∧100<_;omega
theorem let_abcd {m c:Nat}(hm:m≤4)(h:97≤c∧c<97+m):c∈abcd.take m:=by
 have:m=0∨m=1∨m=2∨m=3∨m=4:=by omega
 have:c=97∨c=98∨c=99∨c=100:=by omega
 rcases this with rfl|rfl|rfl|rfl <;>rcases(by assumption:m=0∨_) with rfl|rfl|rfl|rfl|rfl <;>first|decide|omega
theorem abcd_nd (m:Nat):(abcd.take m).Nodup:=List.Sublist.nodup (List.take_sublist _ _) (by decide)
theorem LetOk.one {m c:Nat}(h:c∈abcd.take m):LetOk m [c]:=fun d hd=>by rw[List.mem_singleton.mp hd];exact abcd_let h
theorem LetOk.pre {m:Nat}{x y:List Nat}(h:LetOk m y)(p:x <+: y):LetOk m x:=fun c hc=>h c (p.subset hc)
theorem not_apart {m:Nat}{B:List (List Nat)}(h:Book m B){x:List Nat}(hx:LetOk m x):isApart B x=false:=by
 obtain⟨p,hp,e⟩:=h.cv x hx
 unfold isApart
 rw[Bool.not_eq_false',List.any_eq_true]
 refine⟨p,hp,?_⟩
 rw[Bool.or_eq_true,List.isPrefixOf_iff_prefix,List.isPrefixOf_iff_prefix]
 exact e.symm
theorem goneOn_let {m:Nat}{xs:List (List Nat)}(h:∀x∈xs,LetOk m x):∀y∈goneOn m xs,LetOk m y:=fun y hy=>by
 obtain⟨x,hx,c,hc,rfl⟩:=goneOn_mem hy
 exact(h x hx).app (LetOk.one hc)
theorem fta_none {m:Nat}{B:List (List Nat)}(h:Book m B):∀(n:Nat) (xs:List (List Nat)),(∀x∈xs,LetOk m x)→fta m B n xs=none
 | 0,_,_=>rfl
 | n+1,xs,hx=>by
  unfold fta
  split
  ·rfl
  ·have hg:=goneOn_let hx
   have e:(goneOn m xs).find? (isApart B)=none:=List.find?_eq_none.mpr fun x hx=>by rw[not_apart h (hg x hx)];exact Bool.false_ne_true
   rw[e]
   exact fta_none h n _ fun x hx=>hg x (List.mem_filter.mp hx).1
theorem firstText_none {m:Nat}{B:List (List Nat)}(h:Book m B):firstText m B=none:=fta_none h 32 [[]] fun x hx=>by
 rw[List.mem_singleton.mp hx]
 intro c hc
 cases hc
theorem zip_tail_mem {α:Type}:∀{l:List α}{x:α×α},x∈l.zip l.tail→x.1∈l∧x.2∈l:=fun {l x} h=>⟨(List.of_mem_zip h).1,List.mem_of_mem_tail (List.of_mem_zip h).2⟩
theorem zip_tail_pair {α:Type}{R:α→α→Prop}:∀{l:List α},l.Pairwise R→∀x∈l.zip l.tail,R x.1 x.2
 | [],_,x,h=>by cases h
 | [_],_,x,h=>by cases h
 | a::b::r,p,x,h=>by
  have h':x∈(a,b)::(b::r).zip r:=h
  rcases List.mem_cons.mp h' with rfl|h'
  ·exact List.rel_of_pairwise_cons p List.mem_cons_self
  ·exact zip_tail_pair (l:=b::r) (List.pairwise_cons.mp p).2 x h'
theorem strict {B:List (List Nat)}(s:B.Pairwise (·≤·))(n:B.Nodup):B.Pairwise (· < ·):=by
 have:=List.Pairwise.and s n
 exact this.imp fun⟨h,k⟩=>Classical.byContradiction fun hn=>k (List.le_antisymm h (List.not_lt.mp hn))
theorem firstPair_none {m:Nat}{B:List (List Nat)}(h:Book m B):firstPair B=none:=by
 refine List.find?_eq_none.mpr fun x hx=>?_
 intro e
 have hm:=zip_tail_mem hx
 have:=h.pf _ hm.1 _ hm.2 (List.isPrefixOf_iff_prefix.mp e)
 have lt:=zip_tail_pair (strict h.srt h.nd) x hx
 rw[this] at lt
 exact List.lt_irrefl _ lt
theorem rising_of {m:Nat}{B:List (List Nat)}(h:Book m B):rising B=true:=by
 unfold rising
 rw[List.all_eq_true]
 exact fun x hx=>decide_eq_true (zip_tail_pair (strict h.srt h.nd) x hx)
theorem Book.isBook {m:Nat}{B:List (List Nat)}(h:Book m B):isBook m B=true:=by
 unfold My.isBook
 rw[rising_of h,firstPair_none h,firstText_none h]
 rfl
def kids (m:Nat)(p:List Nat):List (List Nat):=(abcd.take m).map fun c=>p++[c]
theorem kids_mem {m:Nat}{p x:List Nat}:x∈kids m p↔∃c∈abcd.take m,x=p++[c]:=by
 unfold kids
 rw[List.mem_map]
 exact⟨fun⟨c,h,e⟩=>⟨c,h,e.symm⟩,fun⟨c,h,e⟩=>⟨c,h,e.symm⟩⟩
theorem kids_nd (m:Nat)(p:List Nat):(kids m p).Nodup:=by
 unfold kids
 rw[List.nodup_iff_pairwise_ne,List.pairwise_map]
 refine(abcd_nd m).imp fun h e=>h ?_
 exact List.singleton_inj.mp (List.append_cancel_left e)
theorem kids_len (m:Nat)(hm:m≤4)(p:List Nat):(kids m p).length=m:=by
 unfold kids
 rw[List.length_map,List.length_take]
 show min m 4=m
 omega
theorem cv_of {m:Nat}(hm:2≤m){B:List (List Nat)}{p:List Nat}(hp:∀x∈kids m p,x∈B){x:List Nat}(hx:LetOk m x)(m4:m≤4)(h:p <+: x∨x <+: p):∃q∈B,q <+: x∨x <+: q:=by
 have h97:97∈abcd.take m:=let_abcd m4 (by omega)
 rcases h with⟨s,rfl⟩|h
 ·cases s with
  | nil=>exact⟨p++[97],hp _ (kids_mem.mpr ⟨97,h97,rfl⟩),.inr (by rw[List.append_nil];exact List.prefix_append _ _)⟩
  | cons c r =>
   have hc:=hx c (by simp)
   exact⟨p++[c],hp _ (kids_mem.mpr ⟨c,let_abcd m4 hc,rfl⟩),.inl ⟨r,by simp⟩⟩
 ·exact⟨p++[97],hp _ (kids_mem.mpr ⟨97,h97,rfl⟩),.inr (h.trans (List.prefix_append _ _))⟩
theorem ne_snoc (p:List Nat)(c:Nat):p++[c]≠p:=fun e=>by have:=congrArg List.length e;simp at this
def part (m:Nat)(B:List (List Nat))(j:Nat):List (List Nat):=sortF (B.eraseIdx j++kids m (B.getD j []))
theorem part_mem {m:Nat}{B:List (List Nat)}(hn:B.Nodup){j:Nat}(hj:j<B.length){x:List Nat}:x∈part m B j↔(x∈B∧x≠B.getD j [])∨x∈kids m (B.getD j []):=by
 unfold part
 rw[(sortF_perm _).mem_iff,List.mem_append]
 have e:B.getD j []=B[j]:=by rw[List.getD_eq_getElem?_getD,List.getElem?_eq_getElem hj];rfl
 have:x∈B.eraseIdx j↔x∈B∧x≠B.getD j []:=by
  rw[List.mem_eraseIdx_iff_getElem,e]
  constructor
  ·rintro⟨i,hi,hij,rfl⟩
   exact⟨List.getElem_mem hi,fun z=>hij ((List.getElem_inj hn).mp z)⟩
  ·rintro⟨hx,hne⟩
   obtain⟨i,hi,rfl⟩:=List.mem_iff_getElem.mp hx
   exact⟨i,hi,fun z=>hne (by subst z;rfl),rfl⟩
 rw[this]
theorem Book.part {m:Nat}{B:List (List Nat)}(h:Book m B){j:Nat}(hj:j<B.length):Book m (part m B j):=by
 have hpm:B.getD j []∈B:=by rw[List.getD_eq_getElem?_getD,List.getElem?_eq_getElem hj];exact List.getElem_mem hj
 have mem:=fun x=>part_mem (m:=m) h.nd hj (x:=x)
 have hsr:(My.part m B j).Pairwise (·≤·):=sortF_srt _
 have hnd:(My.part m B j).Nodup:=by
  unfold My.part
  refine(sortF_perm _).nodup_iff.mpr (List.nodup_append.mpr ⟨h.nd.eraseIdx j,kids_nd _ _,?_⟩)
  rintro a ha b hb rfl
  have haB:a∈B:=List.mem_of_mem_eraseIdx ha
  obtain⟨c,hc,rfl⟩:=kids_mem.mp hb
  have:=h.pf _ hpm _ haB (List.prefix_append _ _)
  exact ne_snoc _ _ this.symm
 generalize My.part m B j=C at mem hsr hnd
 generalize B.getD j []=p at mem hpm
 refine⟨h.m2,h.m4,fun x hx=>?_,fun x hx=>?_,fun x hx y hy hxy=>?_,fun x hx=>?_,hsr,hnd⟩
 ·rcases (mem x).mp hx with⟨hx,_⟩|hx
  ·exact h.let_ x hx
  ·obtain⟨c,hc,rfl⟩:=kids_mem.mp hx
   exact(h.let_ _ hpm).app (LetOk.one hc)
 ·rcases (mem x).mp hx with⟨hx,_⟩|hx
  ·exact h.ne x hx
  ·obtain⟨c,hc,rfl⟩:=kids_mem.mp hx
   simp
 ·rcases (mem x).mp hx with⟨hx,nx⟩|hx <;>rcases(mem y).mp hy with⟨hy,ny⟩|hy
  ·exact h.pf x hx y hy hxy
  ·obtain⟨c,hc,rfl⟩:=kids_mem.mp hy
   rcases List.prefix_concat_iff.mp hxy with e|e
   ·exact e
   ·exact absurd (h.pf x hx p hpm e) nx
  ·obtain⟨c,hc,rfl⟩:=kids_mem.mp hx
   exact absurd (h.pf p hpm y hy ((List.prefix_append _ _).trans hxy)).symm ny
  ·obtain⟨c,hc,rfl⟩:=kids_mem.mp hx
   obtain⟨d,hd,rfl⟩:=kids_mem.mp hy
   exact hxy.eq_of_length (by simp)
 ·obtain ⟨q,hq,e⟩:=h.cv x hx
  by_cases hqp:q=p
  ·subst hqp
   exact cv_of h.m2 (fun z hz=>(mem z).mpr (.inr hz)) hx h.m4 e
  ·exact⟨q,(mem q).mpr (.inl ⟨hq,hqp⟩),e⟩
theorem Book.letters {m:Nat}(m2:2≤m)(m4:m≤4):Book m (kids m []):=by
 refine⟨m2,m4,fun x hx=>?_,fun x hx=>?_,fun x hx y hy hxy=>?_,fun x hx=>?_,?_,kids_nd m []⟩
 ·obtain⟨c,hc,rfl⟩:=kids_mem.mp hx
  exact LetOk.one hc
 ·obtain⟨c,hc,rfl⟩:=kids_mem.mp hx
  simp
 ·obtain⟨c,hc,rfl⟩:=kids_mem.mp hx
  obtain⟨d,hd,rfl⟩:=kids_mem.mp hy
  exact hxy.eq_of_length (by simp)
 ·exact cv_of m2 (fun z hz=>hz) hx m4 (.inl (List.nil_prefix))
 ·have:m=2∨m=3∨m=4:=by omega
  rcases this with rfl|rfl|rfl <;>decide
def Inner (B:List (List Nat))(x:List Nat):Prop:=∃p∈B,x <+: p∧x≠p
theorem foldl_addK (l:List (List Nat)):∀ks:List (List Nat),ks.Nodup→(l.foldl addK ks).Nodup∧∀x,x∈l.foldl addK ks↔x∈ks∨x∈l:=by
 induction l with
 | nil=>intro ks h;exact⟨h,fun x=>by simp⟩
 | cons k r ih =>
  intro ks h
  rw[List.foldl_cons]
  have h1:(addK ks k).Nodup∧∀x,x∈addK ks k↔x∈ks∨x=k:=by
   unfold addK
   split
   ·exact⟨h,fun x=>⟨.inl,fun z=>z.elim id fun e=>by rw[e];assumption⟩⟩
   ·rename_i hk
    refine⟨List.nodup_append.mpr ⟨h,by simp,?_⟩,fun x=>by simp⟩
    rintro a ha b hb rfl
    rw[List.mem_singleton.mp hb] at ha
    exact hk ha
  obtain⟨h2,h3⟩:=ih _ h1.1
  refine⟨h2,fun x=>?_⟩
  rw[h3,h1.2,List.mem_cons,or_assoc]
theorem begs_mem {p x:List Nat}:x∈begs p↔x <+: p∧x≠p:=by
 unfold begs
 rw[List.mem_map]
 constructor
 ·rintro⟨e,he,rfl⟩
  have he':=List.mem_range.mp he
  refine⟨List.take_prefix _ _,fun z=>?_⟩
  have:=congrArg List.length z
  rw[List.length_take] at this
  omega
 ·rintro⟨h,hn⟩
  refine⟨x.length,List.mem_range.mpr ?_,(List.prefix_iff_eq_take.mp h).symm⟩
  have h1:=h.length_le
  have:x.length≠p.length:=fun z=>hn (h.eq_of_length z)
  omega
theorem innerKeys_nd (B:List (List Nat)):(innerKeys B).Nodup:=(foldl_addK _ [] List.nodup_nil).1
theorem innerKeys_mem {B:List (List Nat)}{x:List Nat}:x∈innerKeys B↔Inner B x:=by
 unfold innerKeys
 rw[(foldl_addK _ [] List.nodup_nil).2,List.mem_flatMap]
 simp only[List.not_mem_nil,false_or]
 exact⟨fun⟨p,hp,h⟩=>⟨p,hp,begs_mem.mp h⟩,fun⟨p,hp,h⟩=>⟨p,hp,begs_mem.mpr h⟩⟩
theorem inner_part {m:Nat}(m2:2≤m)(m4:m≤4){B:List (List Nat)}(hn:B.Nodup){j:Nat}(hj:j<B.length){x:List Nat}(h:Inner (part m B j) x):Inner B x∨x=B.getD j []:=by
 obtain⟨q,hq,hx,hne⟩:=h
 have hpm:B.getD j []∈B:=by rw[List.getD_eq_getElem?_getD,List.getElem?_eq_getElem hj];exact List.getElem_mem hj
 rcases(part_mem hn hj).mp hq with⟨hq,_⟩|hq
 ·exact .inl ⟨q,hq,hx,hne⟩
 ·obtain ⟨c,hc,rfl⟩:=kids_mem.mp hq
  rcases List.prefix_concat_iff.mp hx with e|e
  ·exact absurd e hne
  ·by_cases hp:x=B.getD j []
   ·exact .inr hp
   ·exact .inl ⟨_,hpm,e,hp⟩
theorem sortF_mem {ls:List (List Nat)}{x:List Nat}:x∈sortF ls↔x∈ls:=(sortF_perm ls).mem_iff
theorem part_len {m:Nat}(m4:m≤4){B:List (List Nat)}{j:Nat}(hj:j<B.length):(part m B j).length=B.length - 1+m:=by
 unfold part
 rw[(sortF_perm _).length_eq,List.length_append,kids_len m m4,List.length_eraseIdx,if_pos hj]
def Free (B:List (List Nat))(x:List Nat):Prop:=∀y,y <+: x→y≠[]→y∉B
theorem Book.free {m:Nat}{B:List (List Nat)}(h:Book m B){x:List Nat}(hx:Inner B x):Free B x:=fun y hy hn hyB=>by
 obtain⟨p,hp,hxp,hne⟩:=hx
 have e:=h.pf y hyB p hp (hy.trans hxp)
 subst e
 exact hne (List.IsPrefix.eq_of_length hxp (Nat.le_antisymm hxp.length_le hy.length_le))
inductive Gr (m:Nat):Nat→List (List Nat)→Prop
 | z:Gr m 0 (kids m [])
 | s {t:Nat}{B:List (List Nat)}{j:Nat}:Gr m t B→j<B.length→Gr m (t+1) (part m B j)
theorem Gr.book {m:Nat}(m2:2≤m)(m4:m≤4){t:Nat}{B:List (List Nat)}(h:Gr m t B):Book m B:=by
 induction h with
 | z=>exact Book.letters m2 m4
 | s _ hj ih=>exact ih.part hj
theorem Gr.len {m:Nat}(m2:2≤m)(m4:m≤4){t:Nat}{B:List (List Nat)}(h:Gr m t B):B.length=m+t*(m - 1):=by
 induction h with
 | z=>rw[kids_len m m4];omega
 | s _ hj ih =>
  rename_i B' t' _
  rw[part_len m4 hj,ih,Nat.add_mul]
  generalize _*(m - 1)=z
  omega
theorem Gr.short {m:Nat}(m2:2≤m)(m4:m≤4){t:Nat}{B:List (List Nat)}(h:Gr m t B):∀p∈B,p.length≤t+1:=by
 induction h with
 | z=>intro p hp;obtain⟨c,_,rfl⟩:=kids_mem.mp hp;simp
 | s g hj ih =>
  rename_i t' B' j
  intro p hp
  have hpm:B'.getD j []∈B':=by rw[List.getD_eq_getElem?_getD,List.getElem?_eq_getElem hj];exact List.getElem_mem hj
  rcases(part_mem (g.book m2 m4).nd hj).mp hp with⟨hp,_⟩|hp
  ·have:=ih p hp;omega
  ·obtain⟨c,_,rfl⟩:=kids_mem.mp hp
   have:=ih _ hpm
   rw[List.length_append]
   show _+1≤_
   omega
theorem Gr.inner {m:Nat}(m2:2≤m)(m4:m≤4){t:Nat}{B:List (List Nat)}(h:Gr m t B):∃L:List (List Nat),L.length=t+1∧∀x,Inner B x→x∈L:=by
 induction h with
 | z =>
  refine⟨[[]],rfl,fun x hq36=>?_⟩
  obtain⟨p,hp,hx,hn⟩:=hq36
  obtain⟨c,_,rfl⟩:=kids_mem.mp hp
  rcases List.prefix_concat_iff.mp hx with e|e
  ·exact absurd e hn
  ·rw[List.prefix_nil.mp e];simp
 | s g hj ih =>
  rename_i t' B' j
  obtain⟨L,h1,h2⟩:=ih
  refine⟨L++[B'.getD j []],by simp[h1],fun x hx=>?_⟩
  rcases inner_part m2 m4 (g.book m2 m4).nd hj hx with h|h
  ·exact List.mem_append_left _ (h2 x h)
  ·rw[h];simp
theorem Gr.keys {m:Nat}(m2:2≤m)(m4:m≤4){t:Nat}{B:List (List Nat)}(h:Gr m t B):(innerKeys B).length≤t+1:=by
 obtain⟨L,h1,h2⟩:=h.inner m2 m4
 rw[← h1]
 exact(innerKeys_nd B).length_le_of_subset fun x hx=>h2 x (innerKeys_mem.mp hx)
theorem snoc_lt:∀(x:List Nat) {c d:Nat},c<d→x++[c]<x++[d]
 | [],c,d,h=>List.cons_lt_cons_iff.mpr (.inl h)
 | y::ys,c,d,h=>List.cons_lt_cons_iff.mpr (.inr ⟨rfl,snoc_lt ys h⟩)
end My
namespace L2
open PySem PySem.Spec PyProof.Rows
section
variable {prog:Program}{w:World}{A:Around}{E:Value→Shared→Prop}{s:Shared}
theorem collect_tup {l:Addr}{vs:List Value}{Q:List Value→Shared→Prop}(hl:IsTup s.heap l vs.toArray)
  (h:Q vs {s with heap:=(s.heap.push (seqObj "list" #[] 0)).update s.heap.objs.size (Obj.mapSeq (· ++ vs.toArray))}) (hsz:vs.length≤sizeLine) :
  wpAny (model prog w) A (collect (.ref l)) Q E s:=by
 obtain⟨o,ho,hc,n,hd⟩:=id hl
 unfold collect
 refine wpAny_bind (wpAny_runValue (codeAny_builtin entry_proto_collect' ?_))
 show wpAny _ _ (do again (.builtin "list.__iadd__" ⟨[← newList [],.ref l],[]⟩)) _ _ s
 refine wpAny_bind (wpAny_newList (wpAny_pure ⟨Code.quiet_builtin _ (by decide +kernel),codeAny_builtin entry_list_iadd' ?_⟩))
 show wpAny _ _ (Builtin.List.listExtendWith (.ref s.heap.objs.size) (.ref l) (.ref s.heap.objs.size)) _ _ {s with heap:=s.heap.push (seqObj "list" #[] 0)}
 unfold Builtin.List.listExtendWith
 have ho':(s.heap.push (seqObj "list" #[] 0)).get? l=some o:=Heap.get?_push_of_some _ ho
 refine wpAny_bind (wpAny_typeOf (T := "tuple") ⟨o,ho',hc⟩ ?_)
 have ht:(Value.type "tuple" == Value.type "tuple")=true:=by rfl
 rw[if_pos (by rw[ht];simp)]
 refine wpAny_bind (listItems_at ho' hd ?_)
 refine wpAny_bind (listItems_at (xs:=#[]) (n:=0) (Heap.get?_push_size _ rfl) rfl ?_)
 rw[if_neg (by simp)]
 refine wpAny_bind (listUpdate_at (xs:=#[]) (n:=0) (Heap.get?_push_size _ rfl) rfl ?_ (Nat.zero_le _) (by show(#[]++vs.toArray).size≤sizeLine+1;simp only[Array.size_append,List.size_toArray,List.length_nil];omega))
 refine wpAny_pure ?_
 show wpAny (model prog w) A (do
   let o ← load s.heap.objs.size
   match o.data with
   | .seq xs _=>pure xs.toList
   | _=>unsupported "internal:collect") Q E {s with heap:=(s.heap.push (seqObj "list" #[] 0)).update s.heap.objs.size (Obj.mapSeq (· ++ vs.toArray))}
 refine wpAny_bind (wpAny_load (get?_update_seq (Heap.get?_push_size _ rfl) _) ?_)
 show wpAny _ _ (pure ((#[]:Array Value)++vs.toArray).toList) Q E _
 rw[show((#[]:Array Value)++vs.toArray).toList=vs by simp]
 exact wpAny_pure h
theorem sortedKT {κ:KeyKind}(hO:κ.OneLt){l:Addr}{vs:List Value}{Q:Value→Shared→Prop}(hl:IsTup s.heap l vs.toArray)(h0:KeysOf κ (pairsOf vs))(hkk:∀v₁ v₂ rest,vs=v₁::v₂::rest→keyKind' (v₁::v₂::rest).toArray=pure oneType')(h64:vs.length<64)
  (h:∀st':SortSt,(arrOf st').Perm (pairsOf vs)→SortedToK κ (arrOf st') (pairsOf vs).size→Q (.ref (s.heap.objs.size+1)) {s with heap:=sortedAll s.heap vs ((arrOf st').map (·.2))}) :
  wpAny (model prog w) A (call (.builtin "sorted") [.ref l]) Q E s:=by
 have hz:vs.length≤sizeLine:=by rw[sizeLine_eq];omega
 refine Calls.call_function_entry kind_sorted plain_sorted entry_sorted (args_sorted1 _) ?_
 unfold Builtin.«sorted»
 refine wpAny_bind (m:=checkCount "sorted" 1 1 _) (wpAny_pure ?_)
 refine wpAny_bind (collect_tup hl ?_ hz)
 refine wpAny_bind (wpAny_newList ?_)
 have hsz:((s.heap.push (seqObj "list" #[] 0)).update s.heap.objs.size (Obj.mapSeq (· ++ vs.toArray))).objs.size=s.heap.objs.size+1:=by
  rw[Heap.size_update,size_push']
 have hoL:(((s.heap.push (seqObj "list" #[] 0)).update s.heap.objs.size (Obj.mapSeq (· ++ vs.toArray))).push (seqObj "list" vs.toArray 0)).get? (s.heap.objs.size+1)=some (seqObj "list" vs.toArray 0):=by
  rw[← hsz];exact Heap.get?_push_size _ rfl
 show wpAny _ _ _ _ _ {s with heap:=((s.heap.push (seqObj "list" #[] 0)).update s.heap.objs.size (Obj.mapSeq (· ++ vs.toArray))).push (seqObj "list" vs.toArray 0)}
 rw[hsz]
 refine wpAny_bind (wpAny_holding (wpAny_call_entry slot_list_sort ⟨_,hoL,rfl⟩ entry_list_sort (list_sort_treeK hO hoL h0 hkk h64 fun st' a1 a2=>⟨_,rfl,?_⟩) (args_list_sort _)))
 exact wpAny_pure ⟨_,rfl,h st' a1 a2⟩
end
section
variable {X:Cx}
theorem call_sortedT:CallR X (.builtin "sorted") (fun xs H Q=>∃a ls,xs=[.ref a]∧SqT X.K H a (vT ls)∧ls.length<64∧∀p ms,H p=none→ms.Perm ls→Srt ms→Q (.ref p) (upd H p (.lst (vT ms)))):=by
 intro pins s σ H xs us Q I r h
 obtain⟨a,ls,rfl,ha,h64,q⟩:=h
 obtain⟨u,rfl,ru⟩:=vals1 r
 cases ru
 obtain⟨its,rv,pl,hz⟩:=I.tuple ha
 rw[vT_T] at rv
 have hl:=rv.length
 simp only[List.length_map] at hl
 have hS:=vals_strs rv
 refine sortedKT strKind_oneLt pl hS.keysOf (fun v₁ v₂ rest e=>keyKind_strs (by rw[← e];exact hS)) (by omega) fun st' hp hs=>?_
 obtain⟨ss',h1,h2,h3⟩:=sorted_out_str hS hp hs
 have hS:=srt_of h3
 have hP:(ss'.map fun x=>x.cps.toList).Perm ls:=by
  have:=h2.map fun x:Str=>x.cps.toList
  rw[List.map_map] at this
  have e:ls.map ((fun x:Str=>x.cps.toList)∘T)=ls:=by
   have:((fun x:Str=>x.cps.toList)∘T)=id:=funext fun l=>T_cps l
   rw[this,List.map_id]
  rw[e] at this
  exact this
 obtain⟨c,hat⟩:=sortedAll_at s.heap its ((arrOf st').map (·.2))
 have hlen:ss'.length=ls.length:=by have:=h2.length_eq;simpa using this
 refine⟨.ref (s.heap.objs.size+1),_,I.laid (t':=s.toks) (o:=.lst (vT (ss'.map fun x=>x.cps.toList))) (fun b o e=>sortedAll_old e) (Nat.le_succ _) ?_,rfl,q _ _ (I.hok.fresh (Nat.le_succ _)) hP hS⟩
 refine⟨?_,((arrOf st').map (·.2)).toList,c,?_,by rw[Array.toArray_toList];exact hat⟩
 ·rw[← vT_str,List.length_map,sizeLine_eq];omega
 ·rw[← vT_str];exact strs_vals h1
def rCatU (K:PySem.W.Frag):R2:=fun x y H Q=>∃a b xs ys,x=.ref a∧y=.ref b∧SqT K H a xs∧SqT K H b ys∧xs.length+ys.length≤sizeLine ∧
 ∀p H',Same H H'→SqT K H' p (xs++ys)→Q (.ref p) H'
theorem op_catU:OpR X (binaryOp .Add) (rCatU X.K):=by
 intro pins s σ H x y v u Q I rx ry h
 obtain⟨a,b,xs,ys,rfl,rfl,ha,hb,hz,q⟩:=h
 cases rx
 cases ry
 obtain⟨its,r1,p1,_⟩:=I.tuple ha
 obtain⟨its2,r2,p2,_⟩:=I.tuple hb
 by_cases hx:xs=[]
 ·obtain ⟨⟨cls,dd,data,sl⟩,ho,hc,n,hd⟩:=id p1
  obtain⟨⟨cls2,dd2,data2,sl2⟩,ho2,hc2,n2,hd2⟩:=id p2
  simp only at hc hd hc2 hd2
  subst hc hd hc2 hd2
  have hi:its=[]:=r1.nil_iff.mpr hx
  refine concat_meets ⟨_,ho,rfl⟩ ⟨_,ho2,rfl⟩ noFill_tuple_add seq_tuple_add PySem.F.slot_tuple_add PySem.F.entry_tuple_add (PySem.F.args_tuple_add_2 _ _)
   (tuple_addW0 a b its.toArray its2.toArray n n2 dd dd2 sl sl2 (by simp[hi])) ⟨ho,ho2,.ref b,H,I,rfl,q b H (Same.refl _) ?_⟩
  rw[hx]
  exact hb
 ·refine HT.cat_tup p1 p2 (fun z=>hx (r1.nil_iff.mp z)) (fun z=>⟨.ref a,H,I,rfl,q a H (Same.refl _) ?_⟩) (fun z=>?_) (by rw[← r1.length,← r2.length];exact hz)
  ·rw[r2.nil_iff.mp z,List.append_nil]
   exact ha
  ·have hf:H s.heap.objs.size=none:=I.hok.fresh (Nat.le_refl _)
   refine⟨.ref s.heap.objs.size,_,I.laid (t':=s.toks) (o:=.tup (xs++ys)) (fun b ob q=>Heap.get?_push_of_some _ q) (Nat.le_refl _) ?_,rfl,q _ _ (Same.upd hf) (SqT.of upd_same)⟩
   exact⟨by rw[List.length_append];exact hz,_,r1.append r2,TupD.new _ _⟩
end
end L2
namespace My
theorem inner_iff {ps:List (List Nat)}{x:List Nat}:isInner ps x=true↔Inner ps x:=by
 unfold isInner Inner
 rw[List.any_eq_true]
 constructor
 ·rintro⟨p,hp,e⟩
  rw[Bool.and_eq_true,List.isPrefixOf_iff_prefix,Bool.not_eq_true',decide_eq_false_iff_not] at e
  exact⟨p,hp,e.1,fun z=>e.2 z.symm⟩
 ·rintro⟨p,hp,e,hn⟩
  refine⟨p,hp,?_⟩
  rw[Bool.and_eq_true,List.isPrefixOf_iff_prefix,Bool.not_eq_true',decide_eq_false_iff_not]
  exact⟨e,fun z=>hn z.symm⟩
theorem Book.nilInner {m:Nat}{B:List (List Nat)}(h:Book m B):Inner B []:=by
 obtain⟨p,hp,_⟩:=h.cv [] (fun c hc=>by cases hc)
 exact⟨p,hp,List.nil_prefix,fun z=>h.ne p hp z.symm⟩
theorem Book.innerLet {m:Nat}{B:List (List Nat)}(h:Book m B){x:List Nat}(hx:Inner B x):LetOk m x:=by
 obtain⟨p,hp,hxp,_⟩:=hx
 exact(h.let_ p hp).pre hxp
theorem Book.step {m:Nat}{B:List (List Nat)}(h:Book m B){x:List Nat}(hx:Inner B x){c:Nat}(hc:c∈abcd.take m):(Inner B (x++[c])∧x++[c]∉B)∨(¬Inner B (x++[c])∧x++[c]∈B):=by
 have hnot:Inner B (x++[c])→x++[c]∉B:=fun hi=>h.free hi _ (List.prefix_refl _) (by simp)
 by_cases hB:x++[c]∈B
 ·exact .inr ⟨fun hi=>hnot hi hB,hB⟩
 ·refine .inl ⟨?_,hB⟩
  obtain⟨q,hq,e⟩:=h.cv (x++[c]) ((h.innerLet hx).app (LetOk.one hc))
  rcases e with e|e
  ·rcases List.prefix_concat_iff.mp e with e|e
   ·exact absurd (e▸hq) hB
   ·exact absurd hq (h.free hx q e (h.ne q hq))
  ·exact⟨q,hq,e,fun z=>hB (z▸hq)⟩
theorem inner_part' {m:Nat}(m2:2≤m)(m4:m≤4){B:List (List Nat)}(hb:Book m B){j:Nat}(hj:j<B.length){x:List Nat}:Inner (part m B j) x↔Inner B x∨x=B.getD j []:=by
 have hpm:B.getD j []∈B:=by rw[List.getD_eq_getElem?_getD,List.getElem?_eq_getElem hj];exact List.getElem_mem hj
 have h97:97∈abcd.take m:=let_abcd m4 (by omega)
 have hk:B.getD j []++[97]∈part m B j:=(part_mem hb.nd hj).mpr (.inr (kids_mem.mpr ⟨97,h97,rfl⟩))
 refine⟨inner_part m2 m4 hb.nd hj,?_⟩
 rintro(⟨p,hp,hx,hne⟩|rfl)
 ·by_cases e:p=B.getD j []
  ·refine ⟨_,hk,?_,?_⟩
   ·rw[← e];exact hx.trans (List.prefix_append _ _)
   ·intro z
    have h1:=hx.length_le
    rw[z,← e] at h1
    simp at h1
    omega
  ·exact⟨p,(part_mem hb.nd hj).mpr (.inl ⟨hp,e⟩),hx,hne⟩
 ·exact⟨_,hk,List.prefix_append _ _,fun z=>ne_snoc _ _ z.symm⟩
theorem Gr.keysEq {m:Nat}(m2:2≤m)(m4:m≤4){t:Nat}{B:List (List Nat)}(h:Gr m t B):(innerKeys B).length=t+1:=by
 have key:∃L:List (List Nat),L.Nodup∧L.length=t+1∧∀x,Inner B x↔x∈L:=by
  induction h with
  | z =>
   refine⟨[[]],by simp,rfl,fun x=>⟨fun⟨p,hp,hx,hn⟩=>?_,fun hx=>?_⟩⟩
   ·obtain⟨c,_,rfl⟩:=kids_mem.mp hp
    rcases List.prefix_concat_iff.mp hx with e|e
    ·exact absurd e hn
    ·rw[List.prefix_nil.mp e];simp
   ·rw[List.mem_singleton.mp hx]
    exact(Book.letters m2 m4).nilInner
  | s g hj ih =>
   rename_i t' B' j
   obtain⟨L,h0,h1,h2⟩:=ih
   have hb:=g.book m2 m4
   have hpm:B'.getD j []∈B':=by rw[List.getD_eq_getElem?_getD,List.getElem?_eq_getElem hj];exact List.getElem_mem hj
   refine⟨L++[B'.getD j []],List.nodup_append.mpr ⟨h0,by simp,?_⟩,by simp[h1],fun x=>?_⟩
   ·rintro a ha b hb' rfl
    rw[List.mem_singleton.mp hb'] at ha
    exact hb.free ((h2 _).mpr ha) _ (List.prefix_refl _) (hb.ne _ hpm) hpm
   ·rw[inner_part' m2 m4 hb hj,h2,List.mem_append,List.mem_singleton]
 obtain⟨L,h0,h1,h2⟩:=key
 rw[← h1]
 refine Nat.le_antisymm ((innerKeys_nd B).length_le_of_subset fun x hx=>(h2 x).mp (innerKeys_mem.mp hx)) (h0.length_le_of_subset fun x hx=>innerKeys_mem.mpr ((h2 x).mpr hx))
theorem erase_mem {B:List (List Nat)}(hn:B.Nodup){j:Nat}{p:List Nat}(hj:B[j]? = some p){x:List Nat}:x∈B.eraseIdx j↔x∈B∧x≠p:=by
 obtain⟨hl,rfl⟩:=List.getElem?_eq_some_iff.mp hj
 rw[List.mem_eraseIdx_iff_getElem]
 constructor
 ·rintro⟨i,hi,hij,rfl⟩
  exact⟨List.getElem_mem hi,fun z=>hij ((List.getElem_inj hn).mp z)⟩
 ·rintro⟨hx,hne⟩
  obtain⟨i,hi,rfl⟩:=List.mem_iff_getElem.mp hx
  exact⟨i,hi,fun z=>hne (by subst z;rfl),rfl⟩
structure Less (m:Nat)(B:List (List Nat))(p:List Nat)(L:List (List Nat)):Prop where
 bk:Book m B
 hp:p∈B
 mem:∀x,x∈L↔x∈B∧x≠p
 srt:L.Pairwise (· < ·)
theorem Less.of {m:Nat}{B:List (List Nat)}(h:Book m B){j:Nat}{p:List Nat}(hj:B[j]? = some p):Less m B p (B.eraseIdx j) :=
 ⟨h,List.mem_of_getElem? hj,fun x=>erase_mem h.nd hj,(strict h.srt h.nd).sublist (List.eraseIdx_sublist B j)⟩
theorem app_lt:∀(x:List Nat) (c:Nat),x<x++[c]
 | [],c=>List.nil_lt_cons c []
 | a::x,c=>List.cons_lt_cons_iff.mpr (.inr ⟨rfl,app_lt x c⟩)
structure More (m:Nat)(B:List (List Nat))(p:List Nat)(L:List (List Nat)):Prop where
 bk:Book m B
 hp:p∈B
 mem:∀x,x∈L↔x∈B∨x=p++[98]
 srt:L.Pairwise (· < ·)
 len:L.length=B.length+1
theorem More.of {m:Nat}{B:List (List Nat)}(h:Book m B){p:List Nat}(hp:p∈B):More m B p (sortF (B++[p++[98]])):=by
 have hn:p++[98]∉B:=fun z=>ne_snoc _ _ (h.pf p hp _ z (List.prefix_append _ _)).symm
 refine⟨h,hp,fun x=>by rw[sortF_mem,List.mem_append,List.mem_singleton],strict (sortF_srt _) ?_,by rw[(sortF_perm _).length_eq,List.length_append];rfl⟩
 refine(sortF_perm _).nodup_iff.mpr (List.nodup_append.mpr ⟨h.nd,by simp,?_⟩)
 rintro a ha b hb rfl
 rw[List.mem_singleton.mp hb] at ha
 exact hn ha
end My
namespace L2
open PySem PySem.Spec PyProof.Rows
def Flown (P:Program)(w:World)(outer:List Env)(H:Hp)(s:Shared)(E:XK)(e:Value)(s':Shared):Prop :=
 ∃ (a C:Addr) (a0:Value) (H':Hp) (B:Heap),e=.ref a∧s'.os=s.os∧AllBare s'.gens ∧
  (∀b o,s.heap.get? b=some o→b∉frs outer→∃o',B.get? b=some o'∧(H b=none→o'=o)) ∧
  (∀b o,s.heap.get? b=some o→b∈frs outer→∃sl,s'.heap.get? b=some {o with slots:=sl}) ∧
  (∀b o,s.heap.get? b=some o→H b=none→H' b=none) ∧
  (∀b xs,H b=some (.tup xs)→H' b=some (.tup xs))∧(∀b o u,H b=some (.frz o u)→H' b=some (.frz o u))∧(∀b ps,H b=some (.tbl ps)→∃more,H' b=some (.tbl (ps++more))) ∧
  HOk P w H' B∧Heap.FlyingW B outer a (.ref C) a0 s'.heap∧E (.ref C) none H'
abbrev CX1 (P:Program)(w:World):CXT:=Flown P w
theorem frs_cons {env:Env}{outer:List Env}{L:Addr}(hf:env.frame=some L):frs (env::outer)=L::frs outer:=by
 unfold frs
 rw[List.filterMap_cons,hf]
theorem hok_hide {P:Program}{w:World}{H:Hp}{h:Heap}{l:List Addr}(ok:HOk P w H h)(hl:∀b∈l,H b=none):HOk P w H (PySem.W.hideAll h l):=fun b o e =>
 (ok b o e).stay (fun c u hc q=>PySem.W.hideAll_get l q fun z=>by
  rcases hc with rfl|hc
  ·rw[hl _ z] at e;cases e
  ·rw[hl _ z] at hc;cases hc) (fun _ q=>q) fun _ _ q=>q
section
variable {X:Cx}{pins:List (Addr×Obj)}{σ:St}{H:Hp}{s:Shared}{M:Model}{F:Value→Shared→Prop}{E:XK}
theorem Inv.fr0 (I:Inv X pins σ H s){b:Addr}(hb:b∈X.fs):X.H₀ b=none∧b∉X.ex:=⟨I.ok.frf b hb,fun z=>I.ok.exfs b z hb⟩
theorem fly_raise (I:Inv X pins σ H s)(hst:X.stack=X.env::X.outer)(hfr:X.env.frame=some X.env.locals)(hex:X.ex=[]){e C:Addr}{args:List Value}{h':Heap}
  (hx:Heap.MadeExcOf s.heap h' e (.ref C) args) (hE:E (.ref C) none H) :
  wpAny M X.A (leaving X.env (.ref e)) (fun _ s''=>Flown X.prog X.w X.outer X.H₀ X.s₀ E (.ref e) s'') F {s with heap:=h'}:=by
 have hin:∀env∈X.stack,∀b,env.frame=some b→b∈frs X.stack:=fun env he b hb=>List.mem_filterMap.mpr ⟨env,he,hb⟩
 have hstk:frs X.stack=X.env.locals::frs X.outer:=by rw[hst];exact frs_cons hfr
 have nex:∀b:Addr,b∉X.ex:=fun b z=>by rw[hex] at z;cases z
 refine wpAny_leaves_madeW (base:=PySem.W.hideAll s.heap (frs X.stack)) (h:=s.heap) (outer:=X.outer) (I.ok.frames.trans (by rw[hst])) hfr (fun b o q=>PySem.W.of_hideAll _ q) (by rw[← hst];exact PySem.W.funFrames_hide I.stack hin) hx fun h2 t x1 x2 x3 x4=>?_
 refine⟨e,C,.ref t,H,PySem.W.hideAll s.heap (frs X.stack),rfl,I.os,I.bare,fun b o q hb=>?_,fun b o q hb=>?_,fun b o q n=>I.base.free b o q n (nex b),I.base.tups,I.base.frzs,I.base.tbls,hok_hide I.hok I.stkFree,x1,hE⟩
 ·obtain ⟨o1,e1⟩:=I.base.there b o q (nex b)
  refine⟨o1,PySem.W.hideAll_get _ e1 fun z=>?_,fun n=>?_⟩
  ·rw[hstk] at z
   rcases List.mem_cons.mp z with z|z
   ·exact absurd (Heap.lt_size q) (Nat.not_lt.mpr (z▸I.ok.above))
   ·exact hb z
  ·have:=I.base.keep b o q n hb (nex b)
   rw[e1] at this
   exact Option.some.inj this
 ·obtain ⟨sl,e1⟩:=I.base.slot b o q (I.fr0 hb).1 hb (nex b)
  have hb2:b∈X.stack.filterMap (·.frame):=by
   show b∈frs X.stack
   rw[hstk]
   exact List.mem_cons_of_mem _ hb
  obtain⟨_,o2,e2,nf⟩:=I.stack.mem hb2
  rw[e1] at e2
  obtain rfl:=Option.some.inj e2
  obtain⟨sl2,e3⟩:=x4 b _ (hx.keeps b _ e1) nf
  exact⟨sl2,e3⟩
theorem fly_pass (I:Inv X pins σ H s)(hst:X.stack=X.env::X.outer)(hfr:X.env.frame=some X.env.locals)(hex:X.ex=[]){e:Value}{s':Shared}(hf:Flown X.prog X.w X.stack H s E e s') :
  wpAny M X.A (leaving X.env e) (fun _ s''=>Flown X.prog X.w X.outer X.H₀ X.s₀ E e s'') F s':=by
 have hstk:frs X.stack=X.env.locals::frs X.outer:=by rw[hst];exact frs_cons hfr
 have nex:∀b:Addr,b∉X.ex:=fun b z=>by rw[hex] at z;cases z
 obtain⟨a,C,a0,H',B,rfl,hos,hbare,h1,h2,h3,h4,h5,h6,hok,fly,hE⟩:=hf
 have fly':Heap.FlyingW B (X.env::X.outer) a (.ref C) a0 s'.heap:=by rw[← hst];exact fly
 refine wpAny_leaves_onW (I.ok.frames.trans (by rw[hst])) hfr fly' fun h2' x1 x2=>?_
 refine⟨a,C,a0,H',B,rfl,hos.trans I.os,hbare,fun b o q hb=>?_,fun b o q hb=>?_,fun b o q n=>?_,fun b xs q=>h4 b xs (I.base.tups b xs q),fun b o u q=>h5 b o u (I.base.frzs b o u q),fun b ps q=>?_,hok,x1,hE⟩
 ·obtain ⟨o1,e1⟩:=I.base.there b o q (nex b)
  have hbs:b∉frs X.stack:=fun z=>by
   rw[hstk] at z
   rcases List.mem_cons.mp z with z|z
   ·exact absurd (Heap.lt_size q) (Nat.not_lt.mpr (z▸I.ok.above))
   ·exact hb z
  obtain⟨o2,e2,k2⟩:=h1 b o1 e1 hbs
  refine⟨o2,e2,fun n=>?_⟩
  have e3:=I.base.keep b o q n hb (nex b)
  rw[e1] at e3
  rw[k2 (I.base.free b o q n (nex b))]
  exact Option.some.inj e3
 ·obtain⟨sl,e1⟩:=I.base.slot b o q (I.fr0 hb).1 hb (nex b)
  have hb2:b∈frs X.stack:=by rw[hstk];exact List.mem_cons_of_mem _ hb
  obtain⟨sl2,e2⟩:=h2 b _ e1 hb2
  obtain⟨_,o3,e3,nf⟩:=fly.2.2.1.mem hb2
  rw[e2] at e3
  obtain rfl:=Option.some.inj e3
  obtain⟨sl3,e4⟩:=x2 b _ e2 nf
  exact⟨sl3,e4⟩
 ·obtain⟨o1,e1⟩:=I.base.there b o q (nex b)
  exact h3 b o1 e1 (I.base.free b o q n (nex b))
 ·obtain⟨m1,e1⟩:=I.base.tbls b ps q
  obtain⟨m2,e2⟩:=h6 b _ e1
  exact⟨m1++m2,by rw[e2,Array.append_assoc]⟩
end
theorem pass1 {P:Program}{w:World}{K:PySem.W.Frag}{mg:Str→Option Value}{base:Heap}{N:List Str}{qual:Str}{scope:Scope}{f:Addr}{cd:Value}{A:Around}{outer:List Env}{s:Shared}{H:Hp}{E:XK} :
  Passes (CX1 P w) (cxOf (CX1 P w) P w K mg base N qual scope f cd A outer s H E) E:=fun pins σ H' s' e s'' I hf=>fly_pass I rfl rfl rfl hf
theorem Fun.okX {P:Program}{w:World}{K:PySem.W.Frag}{mg:Str→Option Value}{base:Heap}{x qual:Str}{st:Stmt}{f:Addr}{fd:FuncData}{N ps:List Str}{k:Nat}{sp:Sp}(F:Fun K x qual st f fd)(S:FnScope N ps (defScope st))(len:∀vs H Q E,sp vs H Q E→vs.length=ps.length)
  (hbody:∀(cdv:Value) (A:Around) (outer:List Env) (s:Shared) (H:Hp) (vs:List V) (Q:VK) (E:XK),Room k (A.deeper (envOfC qual (defScope st) s.heap.objs.size f cdv))→sp vs H Q E →
   ∃t,PSs (cxOf (CX1 P w) P w K mg base N qual (defScope st) f cdv A outer s H E) (defBody st) t∧t {nx:=fun _ H'=>Q .non H',rt:=Q} (start N vs) H):FnOk P w K mg base (CX1 P w) (k+1) f fd ps sp:=by
 obtain⟨oc,od,kV,doc,pm,an,cdv,ct,osl,rfl,lk,hcd⟩:=F.ex
 exact fn_of lk hcd S len fun A outer s H vs Q E hr hsp=>hbody cdv A outer s H vs Q E hr hsp
theorem PS.nox {X:Cx}{st:Stmt}{t:TS}(h:PS X.nox st t):PS X st t:=fun pins s σ H D I hw =>
 wpAny_mono (h pins s σ H D (I.wish _) hw) (fun _ _ q=>q.unwish) fun _ _ z=>False.elim z
theorem PA.nox {X:Cx}{es:List Expr}{t:TA}(h:PA X.nox es t):PA X es t:=fun pos pins s σ H Q I hw =>
 wpAny_mono (h pos pins s σ H Q (I.wish _) hw) (fun _ _ ⟨v,H',I',r,q⟩=>⟨v,H',I'.unwish,r,q⟩) fun _ _ z=>False.elim z
structure Own (K:PySem.W.Frag)(mg:Str→Option Value)(x:Str) where
 C:Addr
 mgx:mg x=some (.ref C)
 exc:PySem.W.excIn K C [.type "ValueError", .type "Exception", .type "BaseException", .type "object"] "ValueError.__new__" = true
inductive ExcD (o:Option Obj)(A:Option Addr→ClassData→Array (Option Value)→Bool):Prop
 | mk (dd:Option Addr) (cd:ClassData) (sl:Array (Option Value)) (e:o=some ⟨.type "type", dd,.cls cd,sl⟩) (q:A dd cd sl=true)
inductive ExcR (x:List Value)(y:List (Option Value))(A:Addr→List Value→Option Value→Option Value→Option Value→Option Value→String→Option Value→Bool):Prop
 | mk (C':Addr) (bm:List Value) (k0 k1 k2 k3:Option Value) (n:String) (k5:Option Value) (e:x=.ref C'::bm) (f:y=[k0,k1,k2,k3,some (.builtin n),k5]) (q:A C' bm k0 k1 k2 k3 n k5=true)
inductive ExcO (h:Heap)(C:Addr)(bmB:List Value)(newId:String):Prop
 | mk (bm:List Value) (N:Addr) (nm qn:Str) (bs:List Value) (hdct:Bool) (sn:List Str) (sub:List Value) (ab:Bool) (col:Option Bool) (dd:Option Addr) (k0 k1 k2 k3 k5:Option Value) (mN:Str→Option Value)
   (hC:h.get? C=some (excClassObj nm qn C N bs bm hdct sn sub ab col dd k0 k1 k2 k3 k5 newId)) (hN:h.Ns N mN) (hni:mN "__init__" = none) (T:OwnTail h bmB bm)
theorem exc_m6 {o:Option Obj}{A:Option Addr→ClassData→Array (Option Value)→Bool}(q:PySem.W.excIn.match_6 (fun _=>Bool) o A (fun _=>false)=true):ExcD o A:=by
 rcases o with _|⟨c,dd,da,sl⟩
 ·exact absurd q Bool.false_ne_true
 ·cases c
  all_goals first|exact absurd q Bool.false_ne_true|skip
  rename_i s
  by_cases hs:s = "type"
  ·subst hs
   cases da
   all_goals first|exact absurd q Bool.false_ne_true|exact⟨_,_,_,rfl,q⟩
  ·delta PySem.W.excIn.match_6 at q
   exact absurd ((dif_neg hs).symm.trans q) Bool.false_ne_true
theorem exc_m1 {x:List Value}{y:List (Option Value)}{A:Addr→List Value→Option Value→Option Value→Option Value→Option Value→String→Option Value→Bool}(q:PySem.W.excIn.match_1 (fun _ _=>Bool) x y A (fun _ _=>false)=true):ExcR x y A:=by
 rcases x with _|⟨v,bm⟩
 ·exact absurd q Bool.false_ne_true
 cases v
 all_goals first|exact absurd q Bool.false_ne_true|skip
 rcases y with _|⟨k0,_|⟨k1,_|⟨k2,_|⟨k3,_|⟨k4,y⟩⟩⟩⟩⟩
 all_goals first|exact absurd q Bool.false_ne_true|skip
 rcases k4 with _|k4
 ·exact absurd q Bool.false_ne_true
 cases k4
 all_goals first|exact absurd q Bool.false_ne_true|skip
 rcases y with _|⟨k5,_|⟨k6,y⟩⟩
 all_goals first|exact absurd q Bool.false_ne_true|exact⟨_,_,_,_,_,_,_,_,rfl,rfl,q⟩
theorem exc_obj {K:PySem.W.Frag}{h:Heap}{C:Addr}{bmB:List Value}{newId:String}(X:K.In h)(q:PySem.W.excIn K C bmB newId=true):ExcO h C bmB newId:=by
 obtain⟨dd,cd,sl,ho,q⟩:=exc_m6 q
 obtain⟨C',bm,k0,k1,k2,k3,n,k5,hm,hs,q⟩:=exc_m1 q
 simp only[Bool.and_eq_true,beq_iff_eq,Bool.not_eq_true'] at q
 obtain⟨⟨⟨⟨⟨rfl,rfl⟩,hdel⟩,ht⟩,hok⟩,hni⟩:=q
 obtain⟨nm,bs,mro,ns,qn,hd,sn,sub,ab,col,del⟩:=cd
 obtain⟨l⟩:=sl
 dsimp only at hm hdel hok hni hs
 subst hm hdel hs
 exact⟨bm,ns,nm,qn,bs,hd,sn,sub,ab,col,dd,k0,k1,k2,k3,k5,_,X _ _ ho,.of_isNs (PySem.W.isNs_of_in X hok),PySem.W.nsMap_none_of_in X hok hni,PySem.W.tail_of_in X ht⟩
def tRaise (C:Addr)(E:XK)(t:TA):TS:=fun _ σ H=>t σ H fun vs H1=>vs.length≤3∧E (.ref C) none H1
section
variable {P:Program}{w:World}{K:PySem.W.Frag}{mg:Str→Option Value}{base:Heap}{N:List Str}{qual:Str}{scope:Scope}{f:Addr}{cd:Value}{A:Around}{outer:List Env}{s₁:Shared}{H₁:Hp}{E:XK}
theorem ps_raise {x:Str}{e₀:Expr}{rest:List Expr}{np cpos pos:Pos}{t:TA}(O:Own K mg x)(hg:Gl (cxOf (CX1 P w) P w K mg base N qual scope f cd A outer s₁ H₁ E) x)
  (ha:PA (cxOf (CX1 P w) P w K mg base N qual scope f cd A outer s₁ H₁ E) (e₀::rest) t)
  (he:starEach (e₀::rest) (cxOf (CX1 P w) P w K mg base N qual scope f cd A outer s₁ H₁ E).env=(false,eval e₀ (cxOf (CX1 P w) P w K mg base N qual scope f cd A outer s₁ H₁ E).env)::starEach rest (cxOf (CX1 P w) P w K mg base N qual scope f cd A outer s₁ H₁ E).env:=by rfl)
  (hpl:(backTo cpos (starEach rest (cxOf (CX1 P w) P w K mg base N qual scope f cd A outer s₁ H₁ E).env)).any (·.1)=false:=by rfl) (hd:(x == ("__debug__" : Str))=false:=by decide) :
  PS (cxOf (CX1 P w) P w K mg base N qual scope f cd A outer s₁ H₁ E) (.Raise (some (.Call (.Name x np) (e₀::rest) [] cpos)) none pos) (tRaise O.C E t):=by
 intro pins s σ H D I h
 obtain⟨tl,Na,nm,q,bs,hdct,sn,sub,ab,col,dd,k0,k1,k2,k3,k5,mN,hC,hN,hni,T⟩:=exc_obj I.ok.mod.kin O.exc
 refine wpAny_Raise_call_subT (C:=O.C) (nm:=nm) (q:=q) (N:=Na) (bs:=bs) (bm:=tl) (hdct:=hdct) (sn:=sn) (sub:=sub) (ab:=ab) (col:=col) (dd:=dd) (k0:=k0) (k1:=k1) (k2:=k2) (k3:=k3) (k5:=k5)
  PySem.F.excBase_ValueError (mN:=mN) (T.hasType PySem.F.excBase_ValueError.hasBase) (I.ok.hd rfl) (by rw[he];show(false || (backTo cpos (starEach rest (cxOf (CX1 P w) P w K mg base N qual scope f cd A outer s₁ H₁ E).env)).any (·.1))=false;rw[hpl];rfl) hni (ld_glob I hg O.mgx ⟨rfl,?_⟩ hd)
 have h':=ha cpos pins s σ H _ I h
 rw[he] at h' ⊢
 refine Calls.evalArgs_plain (wpAny_mono h' (fun us s₂ ⟨vs,H2,I2,r,hz,q⟩=>⟨rfl,?_,I2.bk _ _ hC,hN.keeps I2.bk,T.keeps I2.bk,fun h'' e hm=>fly_raise I2 rfl rfl rfl hm q⟩) fun _ _ y=>y)
 rw[← r.length,sizeLine_eq]
 omega
end
end L2
namespace L2
open PySem PySem.Spec PyProof.Rows
def excAt (a C:Addr):HO:=.ext fun h=>∃o,h.get? a=some o∧o.cls=.ref C
end L2
namespace L2
open PySem PySem.Spec PyProof.Rows
end L2
namespace L2
open PySem PySem.Spec PyProof.Rows
structure RoomH (k:Nat)(A:Around):Prop where
 dp:A.depth+3*k+5<recursionLimit
 un:A.units+16*k+200<cLine
theorem RoomH.mono {j k:Nat}{A:Around}(r:RoomH k A)(h:j≤k):RoomH j A:=⟨by have:=r.dp;omega,by have:=r.un;omega⟩
end L2
namespace L2
open PySem PySem.Spec PyProof.Rows
theorem passN {P:Program}{w:World}{X:Cx}:Passes (CX1 P w) X E0:=fun _ _ _ _ _ _ _ h=>by
 obtain⟨_,_,_,_,_,_,_,_,_,_,_,_,_,_,_,_,hE⟩:=h
 exact hE.elim
theorem at_eqU {x:V}:∀{xs:List V}{us:List Value},Vals xs us→xs.all flatV=true→∀(j:Nat) (u:Value),us[j]? = some u→∃y,xs[j]? = some y∧eqU x u=eqV y x
 | _,_,.nil,_=>fun j u e=>by simp at e
 | y::xs,u::us,.cons r t,f=>fun j v e=>by
  rw[List.all_cons,Bool.and_eq_true] at f
  cases j with
  | zero =>
   have:u=v:=by simpa using e
   subst this
   exact⟨y,rfl,eqU_of r f.1⟩
  | succ j=>exact at_eqU t f.2 j v (by simpa using e)
end L2
namespace L2
open PySem PySem.Spec PyProof.Rows
section
variable {prog:Program}{w:World}{A:Around}{E:Value→Shared→Prop}{s:Shared}
theorem sliceApplied_rev {sl:Addr}{n:Nat}{u:Tok}{Q:Int×Int×Nat→Shared→Prop}(hs:s.heap.IsSliceOf sl .none .none (.int (-1) u))(h:Q ((n:Int) - 1,-1,n) s):wpAny (model prog w) A (Builtin.Slice.sliceApplied (.ref sl) (pure (n:Int))) Q E s:=by
 obtain⟨os,hos,hcs,hds⟩:=id hs
 unfold Builtin.Slice.sliceApplied Builtin.Slice.sliceFields
 refine wpAny_bind (wpAny_bind (wpAny_field hos hds (x:=.none) rfl (wpAny_bind (wpAny_field hos hds (x:=.none) rfl (wpAny_bind (wpAny_field hos hds (x:=.int (-1) u) rfl (wpAny_pure ?_)))))))
 refine wpAny_bind (slicePart_int ?_)
 show wpAny _ _ (if ((-1:Int) == 0)=true then _ else _) _ _ s
 rw[if_neg (by decide)]
 refine wpAny_bind (slicePart_none (wpAny_bind (slicePart_none (wpAny_bind (wpAny_pure ?_)))))
 have e1:Builtin.Slice.sliceAdjust none none (-1) (n:Int)=((n:Int) - 1,-1):=rfl
 have e2:Builtin.Slice.slicePlaces ((n:Int) - 1) (-1) (-1)=n:=by
  unfold Builtin.Slice.slicePlaces
  rw[if_neg (by decide)]
  by_cases h0:(n:Int) - 1 > -1
  ·rw[if_pos h0]
   have:((n:Int) - 1 - -1 - 1) / (- -1)=(n:Int) - 1:=by rw[show(- -1:Int)=1 from rfl,Int.ediv_one];omega
   rw[this]
   omega
  ·rw[if_neg h0]
   omega
 show wpAny _ _ (match Builtin.Slice.sliceAdjust none none (-1) (n:Int) with|(lo,hi)=>pure (lo,(-1:Int),Builtin.Slice.slicePlaces lo hi (-1))) _ _ s
 rw[e1]
 show wpAny _ _ (pure ((n:Int) - 1,(-1:Int),Builtin.Slice.slicePlaces ((n:Int) - 1) (-1) (-1))) _ _ s
 rw[e2]
 exact wpAny_pure h
theorem pick_rev (xs:Array Value):((List.range xs.size).filterMap fun(m:Nat)=>xs[(((xs.size:Int) - 1)+(m:Int)*(-1)).toNat]?).toArray=xs.toList.reverse.toArray:=by
 congr 1
 apply List.ext_getElem?
 intro i
 have e:(List.range xs.size).filterMap (fun(m:Nat)=>xs[(((xs.size:Int) - 1)+(m:Int)*(-1)).toNat]?)=(List.range xs.size).map fun m=>xs.toList.getD (xs.size - 1 - m) .none:=by
  have key:∀l:List Nat,(∀m∈l,m<xs.size)→l.filterMap (fun(m:Nat)=>xs[(((xs.size:Int) - 1)+(m:Int)*(-1)).toNat]?)=l.map fun m=>xs.toList.getD (xs.size - 1 - m) .none:=by
   intro l
   induction l with
   | nil=>intro _;rfl
   | cons m r ih =>
    intro hl
    have hm':=hl m List.mem_cons_self
    have e1:(((xs.size:Int) - 1)+(m:Int)*(-1)).toNat=xs.size - 1 - m:=by omega
    have h2:xs.size - 1 - m<xs.size:=by omega
    have e2:xs[(((xs.size:Int) - 1)+(m:Int)*(-1)).toNat]? = some (xs.toList.getD (xs.size - 1 - m) .none):=by
     rw[e1]
     simp[List.getD_eq_getElem?_getD,h2]
    rw[List.filterMap_cons,e2,List.map_cons,ih fun k hk=>hl k (List.mem_cons_of_mem _ hk)]
  exact key _ fun m hm=>List.mem_range.mp hm
 rw[e,List.getElem?_map]
 by_cases hi:i<xs.size
 ·rw[List.getElem?_range hi,List.getElem?_reverse (by simpa using hi)]
  have h2:xs.size - 1 - i<xs.size:=by omega
  simp[List.getD_eq_getElem?_getD,h2]
 ·rw[List.getElem?_eq_none (by simpa using hi),List.getElem?_eq_none (by simpa using hi)]
  rfl
theorem getItem_tuple_rev {t sl:Addr}{items:Array Value}{u:Tok}{Q:Value→Shared→Prop}(ht:IsTup s.heap t items)(hs:s.heap.IsSliceOf sl .none .none (.int (-1) u))
  (h:Q (.ref s.heap.objs.size) {s with heap:=s.heap.push {cls:=.type "tuple", data:=.seq items.toList.reverse.toArray} })
  (hsz:items.size≤sizeLine):wpAny (model prog w) A (getItem (.ref t) (.ref sl)) Q E s:=by
 have htake:sizeOk (.seq items.toList.reverse.toArray):=by
  show items.toList.reverse.toArray.size≤sizeLine
  rw[List.size_toArray,List.length_reverse,Array.length_toList]
  exact hsz
 obtain⟨os,hos,hcs,hds⟩:=id hs
 have hTs:s.TypeIs (.ref sl) "slice" := ⟨os,hos,hcs⟩
 unfold getItem
 try with_reducible refine wpAny_holding ?_
 first|refine wpAny_bind (wpAny_pure ?_)|skip
 refine wpAny_bind (wpAny_sequenceKey ht.typeIs (by decide) ?_)
 refine wpAny_bind (wpAny_callSpecial?_slot (name:=Str.ofString "__getitem__") ht.typeIs PyProof.Rows.slot_tuple_getitem
  (wpAny_call_entry PyProof.Rows.slot_tuple_getitem ht.typeIs entry_tuple_getitem ?_ (args_tuple_getitem _ _)))
 show wpAny _ _ (Builtin.Tuple.tupleItemsOf (.ref t) >>= _) _ _ s
 refine wpAny_bind (tupleItemsOf_ ht ?_)
 refine wpAny_bind (wpAny_typeOf hTs ?_)
 rw[if_pos (by decide)]
 refine wpAny_bind (sliceApplied_rev hs ?_)
 have hno:¬((((items.size:Int) - 1) == 0&&(-1:Int) == 1&&items.size == items.size)=true):=by
  intro q
  rw[Bool.and_eq_true,Bool.and_eq_true] at q
  exact absurd q.1.2 (by decide)
 show wpAny _ _ (if (((items.size:Int) - 1) == 0&&(-1:Int) == 1&&items.size == items.size)=true then _ else _) _ _ s
 rw[if_neg hno,pick_rev]
 first
  | exact wpAny_bind (m:=Builtin.Tuple.tupleExact _) (wpAny_newObj_type (wpAny_pure ⟨_,rfl,wpAny_pure h⟩) htake)
  | exact wpAny_bind (m:=Builtin.Tuple.tupleExact _) (wpAny_newObj_type (wpAny_bind (wpAny_pure (wpAny_pure ⟨_,rfl,wpAny_pure h⟩))) htake)
  | exact wpAny_bind (wpAny_bind (m:=Builtin.Tuple.tupleExact _) (wpAny_newObj_type (wpAny_pure (wpAny_pure ⟨_,rfl,wpAny_pure h⟩)) htake))
  | exact wpAny_bind (wpAny_bind (m:=Builtin.Tuple.tupleExact _) (wpAny_newObj_type (wpAny_pure ⟨_,rfl,wpAny_pure h⟩) htake))
end
section
variable {X:Cx}{e:Expr}{te:TE}{pos p2:Pos}
def tRevT (K:PySem.W.Frag)(te:TE):TE:=fun σ H Q=>te σ H fun x H1=>∃a xs,x=.ref a∧SqT K H1 a xs∧∀p,H1 p=none→Q (.ref p) (upd H1 p (.tup xs.reverse))
theorem pe_revT {st:Expr}(he:PE X e te)(hst:PE X st (tUn (rU fun i=>.int (-i)) (tC (.int 1)))):PE X (.Subscript e (.Slice none none (some st) p2) pos) (tRevT X.K te):=by
 intro pins s σ H Q I h
 refine Subscript_ (thn (he pins s σ H _ I h) fun v s1 hq37=>?_)
 obtain⟨x,H1,I1,r1,a,xs,ex,hx,q⟩:=hq37
 subst ex
 cases r1
 refine wpAny_Slice ?_
 rw[evalPart_none]
 refine wpAny_pure (wpAny_pure ?_)
 refine thn (po_some hst pins s1 σ H1 (fun o H'=>o=some (-1)∧H'=H1) I1 ⟨1,rfl,-1,rfl,rfl,rfl⟩) fun vst s3 hq38=>?_
 obtain⟨o,H3,I3,p3,eo,eH⟩:=hq38
 subst eo
 subst eH
 obtain⟨w,rfl,ew⟩:=part_of p3
 have I4:Inv X pins σ H3 {s3 with heap:=s3.heap.push {cls:=.type "slice", data:=.fields #[.none,.none,partValue w]} }:=I3.kept (t':=s3.toks) fun b ob q=>Heap.get?_push_of_some _ q
 cases w with
 | none=>cases ew
 | some w =>
  obtain⟨i,u⟩:=w
  have ei:i = -1:=Option.some.inj ew
  subst ei
  obtain⟨its,r,ht,hz⟩:=I4.tuple hx
  have hlen:its.toArray.size=xs.length:=by rw[List.size_toArray];exact r.length.symm
  refine tail_any (ops:=[.ref a,.ref s3.heap.objs.size]) ht.typeIs PyProof.Rows.slot_tuple_getitem.lookup ?_ (by with_unfolding_all rfl)
  refine getItem_tuple_rev (u:=u) ht ⟨_,Heap.get?_push_size _ rfl,rfl,rfl⟩ ?_ (by rw[hlen];exact hz)
  refine⟨.ref _,_,I4.laid (t':=s3.toks) (o:=.tup xs.reverse) (fun b ob q=>Heap.get?_push_of_some _ q) (Nat.le_refl _) ?_,rfl,q _ (I4.hok.fresh (Nat.le_refl _))⟩
  refine⟨by rw[List.length_reverse];exact hz,its.reverse,?_,TupD.new _ _⟩
  exact r.reverse
end
end L2
namespace My
end My
namespace L2
open PySem PySem.Spec PyProof.Rows
theorem star_tup {a:List Expr}{b}{c:Pos}{es:List Expr}{env:Env}:starEach (.Tuple a b c::es) env=(false,eval (.Tuple a b c) env)::starEach es env:=by rfl
theorem star_lst {a:List Expr}{c:Pos}{es:List Expr}{env:Env}:starEach (.List a c::es) env=(false,eval (.List a c) env)::starEach es env:=by rfl
theorem star_bin {a b:Expr}{o}{c:Pos}{es:List Expr}{env:Env}:starEach (.BinOp a o b c::es) env=(false,eval (.BinOp a o b c) env)::starEach es env:=by rfl
theorem star_call {f:Expr}{a:List Expr}{k}{c:Pos}{es:List Expr}{env:Env}:starEach (.Call f a k c::es) env=(false,eval (.Call f a k c) env)::starEach es env:=by rfl
theorem star_sub {a b:Expr}{c:Pos}{es:List Expr}{env:Env}:starEach (.Subscript a b c::es) env=(false,eval (.Subscript a b c) env)::starEach es env:=by rfl
theorem star_name {a}{c:Pos}{es:List Expr}{env:Env}:starEach (.Name a c::es) env=(false,eval (.Name a c) env)::starEach es env:=by rfl
theorem star_const {a}{k}{c:Pos}{es:List Expr}{env:Env}:starEach (.Constant a k c::es) env=(false,eval (.Constant a k c) env)::starEach es env:=by rfl
section
variable {prog:Program}{w:World}{A:Around}{E:Value→Shared→Prop}{s:Shared}
theorem getItem_tuple_whole {t sl:Addr}{items:Array Value}{vl vu:Value}{lo hi:Option Int}{Q:Value→Shared→Prop}(ht:IsTup s.heap t items)(hs:s.heap.IsSliceOf sl vl vu .none)(pl:IsPart vl lo)(pu:IsPart vu hi)
  (hw:HT.sIx items.size 0 lo=0∧HT.sIx items.size items.size hi=items.size) (h:Q (.ref t) s):wpAny (model prog w) A (getItem (.ref t) (.ref sl)) Q E s:=by
 obtain⟨os,hos,hcs,hds⟩:=id hs
 have hTs:s.TypeIs (.ref sl) "slice" := ⟨os,hos,hcs⟩
 unfold getItem
 try with_reducible refine wpAny_holding ?_
 first|refine wpAny_bind (wpAny_pure ?_)|skip
 refine wpAny_bind (wpAny_sequenceKey ht.typeIs (by decide) ?_)
 refine wpAny_bind (wpAny_callSpecial?_slot (name:=Str.ofString "__getitem__") ht.typeIs PyProof.Rows.slot_tuple_getitem
  (wpAny_call_entry PyProof.Rows.slot_tuple_getitem ht.typeIs entry_tuple_getitem ?_ (args_tuple_getitem _ _)))
 show wpAny _ _ (Builtin.Tuple.tupleItemsOf (.ref t) >>= _) _ _ s
 refine wpAny_bind (tupleItemsOf_ ht ?_)
 refine wpAny_bind (wpAny_typeOf hTs ?_)
 rw[if_pos (by decide)]
 refine wpAny_bind (HT.sliceApplied_gen hs pl pu ?_)
 have hyes:(((HT.sIx items.size 0 lo:Nat):Int) == 0&&(1:Int) == 1&&(HT.sIx items.size items.size hi - HT.sIx items.size 0 lo) == items.size)=true:=by
  rw[hw.1,hw.2]
  simp
 show wpAny _ _ (if (((HT.sIx items.size 0 lo:Nat):Int) == 0&&(1:Int) == 1&&(HT.sIx items.size items.size hi - HT.sIx items.size 0 lo) == items.size)=true then _ else _) _ _ s
 rw[if_pos hyes]
 refine wpAny_bind (m:=Builtin.Tuple.tupleIsExact (.ref t)) ?_
 unfold Builtin.Tuple.tupleIsExact
 refine wpAny_bind (wpAny_typeOf ht.typeIs (wpAny_pure ?_))
 rw[if_pos (by decide)]
 first
  | exact wpAny_bind (wpAny_rule (wpAny_pure ⟨_,rfl,wpAny_pure h⟩))
  | exact wpAny_bind (wpAny_rule (wpAny_pure ⟨_,rfl,h⟩))
end
section
variable {X:Cx}
def rSlU (K:PySem.W.Frag):V→Option Int→Option Int→Hp→VK→Prop:=fun x lo hi H Q=>∃a xs,x=.ref a∧SqT K H a xs∧∀p H',Same H H'→SqT K H' p (cutV xs lo hi)→Q (.ref p) H'
theorem sl_tupU:SlR X (rSlU X.K):=by
 intro pins s σ H x v vl vu lo hi sl Q I rx hs pl pu h
 obtain⟨a,xs,rfl,hx,q⟩:=h
 by_cases hw:HT.sIx xs.length 0 lo=0∧HT.sIx xs.length xs.length hi=xs.length
 ·cases rx
  obtain⟨its,r,ht,hz⟩:=I.tuple hx
  have hlen:its.toArray.size=xs.length:=by rw[List.size_toArray];exact r.length.symm
  refine⟨"tuple", _,PyProof.Rows.slot_tuple_getitem.lookup,ht.typeIs,getItem_tuple_whole ht hs pl pu (by rw[hlen];exact hw) ⟨.ref a,H,I,rfl,q a H (Same.refl _) ?_⟩⟩
  have:cutV xs lo hi=xs:=by
   unfold cutV
   rw[hw.1,hw.2,List.drop_zero,Nat.sub_zero,List.take_length]
  rw[this]
  exact hx
 ·exact sl_tup pins s σ H (.ref a) v vl vu lo hi sl Q I rx hs pl pu ⟨a,xs,rfl,hx,hw,fun p hp=>q p _ (Same.upd hp) (SqT.of upd_same)⟩
end
end L2
namespace L2
open PySem PySem.Spec PyProof.Rows
end L2
set_option maxHeartbeats 2000000
namespace L2
open PySem PySem.Spec PyProof.Rows
end L2
namespace L2
open PySem PySem.Spec PyProof.Rows
theorem tuple_indexAt (l:Addr)(items:Array Value)(x:Value)(e:Value→Bool)(j:Nat)(hj:j<items.size)
  (hit:e items[j]=true) (hno:∀m (hm:m<items.size),m<j→e items[m]=false) :
  Meets (Builtin.«tuple.index» ⟨[.ref l,x],[]⟩)
   (fun A R s=>s.heap.IsTuple l items∧(∀y,y∈items→SeqAt.EqAt A.in1 s y x (e y))∧R (.ok (.ret (.int j s.toks))) {s with toks:=s.toks+1}):=by
 intro prog w A R s h
 obtain⟨hl,he,h⟩:=h
 obtain⟨o,ho,hc,n,hd⟩:=id hl
 unfold Builtin.«tuple.index»
 refine wpAny_bind ?_
 wp_walk using wpAny_loadPart' ho
 rw[hd]
 refine wpAny_pure (wpAny_pure ?_)
 refine wpAny_bind (wpAny_pure (wpAny_bind (wpAny_pure (wpAny_bind ?_))))
 rw[Std.Legacy.Range.forIn_eq_forIn_range']
 simp only[Std.Legacy.Range.size,Nat.sub_zero,Nat.add_sub_cancel,Nat.div_one,Nat.min_self]
 refine wpAny_forIn_list _ (fun rest b s'=>s'=s∧∃i,rest=List.range' i (items.size - i)∧i≤j) _ ?_ ?_ _ _ ⟨rfl,0,by simp,Nat.zero_le _⟩
 ·rintro y rest b s' ⟨rfl,i,hr,hi⟩
  obtain ⟨rfl,hrest⟩:y=i∧rest=List.range' (i+1) (items.size - (i+1)):=by
   have e:items.size - i=(items.size - (i+1))+1:=by omega
   rw[e,List.range'_succ] at hr
   injection hr with h1 h2
   exact⟨h1,h2⟩
  have hlt:y<items.size:=by omega
  rw[Array.getElem?_eq_getElem hlt]
  refine wpAny_bind (he _ (Array.getElem_mem hlt) prog w _ _ ?_)
  rcases Nat.lt_or_ge y j with hyj|hyj
  ·rw[hno y hlt hyj]
   exact wpAny_pure ⟨rfl,y+1,hrest,hyj⟩
  ·have:y=j:=by omega
   subst this
   rw[hit]
   rw[if_pos rfl]
   wp_walk
   exact h
 ·rintro b s' ⟨rfl,i,hr,hi⟩
  have:items.size - i=0:=by
   have:=congrArg List.length hr
   simpa using this.symm
  omega
section
variable {X:Cx}
def rIndexS (K:PySem.W.Frag):V→List V→Hp→VK→Prop:=fun x vs H Q=>∃(l:Addr) (xs:List V) (y:V) (j:Nat) (z:V),x=.ref l∧vs=[y]∧SqT K H l xs∧flatV y=true∧xs.all flatV=true∧xs[j]? = some z∧eqV z y=true∧(∀(m:Nat) (w:V),m<j→xs[m]? = some w→eqV w y=false)∧Q (.int (j:Int)) H
theorem mt_indexT:MtR X "tuple.index" (rIndexS X.K):=by
 intro pins s σ H x vs v us Q I rx rv h
 obtain⟨l,xs,y,j,z0,rfl,rfl,hH,fy,fs,hj,hz,hno,q⟩:=h
 cases rx
 obtain⟨u,rfl,ru⟩:=rv.one
 obtain⟨its,r,pl,hl⟩:=I.tuple hH
 obtain⟨o,e,hc,n,hd⟩:=id pl
 have hjl:j<its.length:=by rw[← r.length];exact(List.getElem?_eq_some_iff.mp hj).1
 refine call_meets F.slot_tuple_index ⟨_,e,hc⟩ F.entry_tuple_index (F.args_tuple_index_2 _ _) (tuple_indexAt l its.toArray u (eqU y) j (by simpa using hjl) ?_ ?_) ⟨⟨o,e,hc,n,hd⟩,fun w hw=>mem_eqAt ru fy r fs w (by simpa using hw),?_⟩
 ·obtain⟨y2,e2,e3⟩:=at_eqU (x:=y) r fs j its[j] (List.getElem?_eq_getElem hjl)
  rw[hj] at e2
  obtain rfl:=Option.some.inj e2
  show eqU y its[j]=true
  rw[e3,hz]
 ·intro m hm hmj
  have hml:m<its.length:=by simpa using hm
  obtain⟨y2,e2,e3⟩:=at_eqU (x:=y) r fs m its[m] (List.getElem?_eq_getElem hml)
  show eqU y its[m]=false
  rw[e3]
  exact hno m y2 hmj e2
 ·exact⟨.int _,H,I.tok _,⟨_,rfl⟩,q⟩
end
end L2
set_option maxHeartbeats 1000000
namespace L2
open PySem
def txt:Value→Str
 | .str x _=>x
 | _=>⟨#[]⟩
structure StS (w:World)(es:Array (Int×Value))(t:SetTable)(ks:List Str):Prop where
 shape:∀e∈es.toList,∃x tk,e=(hashStr w x,Value.str x tk)
 keys:(es.toList.map fun e=>txt e.2).Perm ks
 nd:ks.Nodup
 fits:t.fits es.size=true
 led:t.led = !w.params.followText "set-order"
 plain:es.size=0∨t.plain=false
 few:es.size<scanBound
theorem StS.size {w:World}{es:Array (Int×Value)}{t:SetTable}{ks:List Str}(S:StS w es t ks):es.size=ks.length:=by
 have:=S.keys.length_eq
 simpa using this
theorem isStrOf_txt {x y:Str}{tk:Tok}:Value.isStrOf x (.str y tk)=true↔x=y:=by
 constructor
 ·intro h
  obtain⟨t,e⟩:=Value.isStrOf_shape h
  injection e with e _
  exact e.symm
 ·rintro rfl;simp[Value.isStrOf,Value.isStr]
theorem StS.find {w:World}{es:Array (Int×Value)}{t:SetTable}{ks:List Str}(S:StS w es t ks)(x:Str):(∃e∈es.toList,Value.isStrOf x e.2=true)↔x∈ks:=by
 rw[← S.keys.mem_iff,List.mem_map]
 constructor
 ·rintro⟨e,he,h⟩
  obtain⟨y,tk,rfl⟩:=S.shape e he
  exact⟨_,he,(isStrOf_txt.mp h).symm⟩
 ·rintro⟨e,he,h⟩
  obtain⟨y,tk,rfl⟩:=S.shape e he
  exact⟨_,he,isStrOf_txt.mpr h.symm⟩
end L2
namespace L2
open PySem
def ded (l:List Str):List Str:=l.foldl (fun acc x=>if x∈acc then acc else acc++[x]) []
end L2
namespace L2
open PySem
end L2
namespace L2
open PySem
end L2
set_option maxHeartbeats 3200000
namespace L2
open PySem PySem.Spec PyProof.Rows
section
variable {prog:Program}{w:World}{A:Around}{E:Value→Shared→Prop}{s:Shared}
theorem StS.new:StS w #[] (.fresh 0 0 (!w.params.followText "set-order")) [] where
 shape:=fun e he=>by simp at he
 keys:=List.Perm.refl _
 nd:=List.nodup_nil
 fits:=rfl
 led:=rfl
 plain:=.inl rfl
 few:=by decide
end
end L2
namespace L2
open PySem PySem.Spec PyProof.Rows
end L2
set_option maxHeartbeats 1000000
namespace L2
open PySem PySem.Spec PyProof.Rows
end L2
namespace L2
open PySem PySem.Spec PyProof.Rows
inductive D where
 | non|bl (b:Bool)|int (i:Int)|str (l:List Nat)|lst (xs:List D)|tup (xs:List D)|dct (kvs:List (List Nat×D))|exc (n:Nat)
inductive Rs (α:Type) where
 | ok (a:α)|ex (n:Nat)|no
def Rs.bind {α β:Type}:Rs α→(α→Rs β)→Rs β
 | .ok a,f=>f a
 | .ex n,_=>.ex n
 | .no,_=>.no
inductive Sl where
 | no|fz (d:D)|ow (xs:List D)|od (kvs:List (List Nat×D))
abbrev Rho:=List Sl
inductive Out where
 | nx (ρ:Rho)|rt (d:D)|bk (ρ:Rho)|ct (ρ:Rho)|ex (n:Nat)|no
mutual
inductive Dt (K:PySem.W.Frag)(cl:Nat→Addr)(F:Hp):V→D→Prop
 | non:Dt K cl F .non .non
 | bl (b:Bool):Dt K cl F (.bl b) (.bl b)
 | int (i:Int):Dt K cl F (.int i) (.int i)
 | str (l:List Nat) (ok:TxtOk (T l)):Dt K cl F (.str (T l)) (.str l)
 | lst {a:Addr}{xs:List V}{ds:List D}:SqL K F a xs→Dts K cl F xs ds→Dt K cl F (.ref a) (.lst ds)
 | tup {a:Addr}{xs:List V}{ds:List D}:SqT K F a xs→Dts K cl F xs ds→Dt K cl F (.ref a) (.tup ds)
 | dct {a:Addr}{kvs:List (Key×V)}{ds:List (List Nat×D)}:F a=some (.dK kvs)→Dks K cl F kvs ds→Dt K cl F (.ref a) (.dct ds)
 | exc {a:Addr}{n:Nat}:F a=some (excAt a (cl n))→Dt K cl F (.ref a) (.exc n)
inductive Dts (K:PySem.W.Frag)(cl:Nat→Addr)(F:Hp):List V→List D→Prop
 | nil:Dts K cl F [] []
 | cons {v:V}{d:D}{vs:List V}{ds:List D}:Dt K cl F v d→Dts K cl F vs ds→Dts K cl F (v::vs) (d::ds)
inductive Dks (K:PySem.W.Frag)(cl:Nat→Addr)(F:Hp):List (Key×V)→List (List Nat×D)→Prop
 | nil:Dks K cl F [] []
 | cons {l:List Nat}{v:V}{d:D}{vs:List (Key×V)}{ds:List (List Nat×D)}:TxtOk (T l)→Dt K cl F v d→Dks K cl F vs ds→Dks K cl F ((Sum.inr (T l),v)::vs) ((l,d)::ds)
end
section
variable {K:PySem.W.Frag}{cl:Nat→Addr}{F F' H H':Hp}
theorem Dt.monos (e:Same F F'):(∀{v:V}{d:D},Dt K cl F v d→Dt K cl F' v d)∧(∀{vs:List V}{ds:List D},Dts K cl F vs ds→Dts K cl F' vs ds)∧(∀{vs:List (Key×V)}{ds:List (List Nat×D)},Dks K cl F vs ds→Dks K cl F' vs ds):=by
 refine⟨fun {v d} h=>?_,fun {vs ds} h=>?_,fun {vs ds} h=>?_⟩
 ·exact Dt.rec (motive_1:=fun v d _=>Dt K cl F' v d) (motive_2:=fun vs ds _=>Dts K cl F' vs ds) (motive_3:=fun vs ds _=>Dks K cl F' vs ds) .non .bl .int .str (fun q _ ih=>.lst (e.seq q) ih) (fun q _ ih=>.tup (e.seqT q) ih) (fun q _ ih=>.dct (e _ _ q) ih) (fun q=>.exc (e _ _ q)) .nil (fun _ _ a b=>.cons a b) .nil (fun ok _ _ a b=>.cons ok a b) h
 ·exact Dts.rec (motive_1:=fun v d _=>Dt K cl F' v d) (motive_2:=fun vs ds _=>Dts K cl F' vs ds) (motive_3:=fun vs ds _=>Dks K cl F' vs ds) .non .bl .int .str (fun q _ ih=>.lst (e.seq q) ih) (fun q _ ih=>.tup (e.seqT q) ih) (fun q _ ih=>.dct (e _ _ q) ih) (fun q=>.exc (e _ _ q)) .nil (fun _ _ a b=>.cons a b) .nil (fun ok _ _ a b=>.cons ok a b) h
 ·exact Dks.rec (motive_1:=fun v d _=>Dt K cl F' v d) (motive_2:=fun vs ds _=>Dts K cl F' vs ds) (motive_3:=fun vs ds _=>Dks K cl F' vs ds) .non .bl .int .str (fun q _ ih=>.lst (e.seq q) ih) (fun q _ ih=>.tup (e.seqT q) ih) (fun q _ ih=>.dct (e _ _ q) ih) (fun q=>.exc (e _ _ q)) .nil (fun _ _ a b=>.cons a b) .nil (fun ok _ _ a b=>.cons ok a b) h
theorem Dt.mono {v:V}{d:D}(h:Dt K cl F v d)(e:Same F F'):Dt K cl F' v d:=(Dt.monos e).1 h
theorem Dts.mono {vs:List V}{ds:List D}(h:Dts K cl F vs ds)(e:Same F F'):Dts K cl F' vs ds:=(Dt.monos e).2.1 h
theorem Dks.mono {vs:List (Key×V)}{ds:List (List Nat×D)}(h:Dks K cl F vs ds)(e:Same F F'):Dks K cl F' vs ds:=(Dt.monos e).2.2 h
theorem Dts.length:∀{vs:List V}{ds:List D},Dts K cl F vs ds→vs.length=ds.length
 | _,_,.nil=>rfl
 | _,_,.cons _ r=>by simp[r.length]
theorem Dts.append:∀{vs ws:List V}{ds es:List D},Dts K cl F vs ds→Dts K cl F ws es→Dts K cl F (vs++ws) (ds++es)
 | _,_,_,_,.nil,s=>s
 | _,_,_,_,.cons r t,s=>.cons r (Dts.append t s)
theorem Dts.get:∀{vs:List V}{ds:List D}{i:Nat}{v:V},Dts K cl F vs ds→vs[i]? = some v→∃d,ds[i]? = some d∧Dt K cl F v d
 | _,_,_,_,.nil,e=>by simp at e
 | _,_,0,_,.cons r _,e=>by simp at e;subst e;exact⟨_,rfl,r⟩
 | _,_,i+1,v,.cons _ t,e=>by
  obtain⟨d,h1,h2⟩:=Dts.get (i:=i) (v:=v) t (by simpa using e)
  exact⟨d,by simpa using h1,h2⟩
theorem Dts.get':∀{vs:List V}{ds:List D}{i:Nat}{d:D},Dts K cl F vs ds→ds[i]? = some d→∃v,vs[i]? = some v∧Dt K cl F v d
 | _,_,_,_,.nil,e=>by simp at e
 | _,_,0,_,.cons r _,e=>by simp at e;subst e;exact⟨_,rfl,r⟩
 | _,_,i+1,d,.cons _ t,e=>by
  obtain⟨v,h1,h2⟩:=Dts.get' (i:=i) (d:=d) t (by simpa using e)
  exact⟨v,by simpa using h1,h2⟩
theorem Dts.take:∀{vs:List V}{ds:List D} (n:Nat),Dts K cl F vs ds→Dts K cl F (vs.take n) (ds.take n)
 | _,_,0,_=>.nil
 | _,_,_+1,.nil=>.nil
 | _,_,n+1,.cons r t=>.cons r (Dts.take n t)
theorem Dts.drop:∀{vs:List V}{ds:List D} (n:Nat),Dts K cl F vs ds→Dts K cl F (vs.drop n) (ds.drop n)
 | _,_,0,r=>r
 | _,_,_+1,.nil=>.nil
 | _,_,n+1,.cons _ t=>Dts.drop n t
mutual
def D.py:D→PyData
 | .non=>.none
 | .bl b=>.bool b
 | .int i=>.int i
 | .str l=>.str (T l)
 | .lst xs=>.list (D.pys xs)
 | .tup xs=>.tuple (D.pys xs)
 | .dct _=>.none
 | .exc _=>.none
def D.pys:List D→List PyData
 | []=>[]
 | d::ds=>d.py::D.pys ds
end
mutual
def D.pl:D→Bool
 | .lst xs=>D.pls xs
 | .tup xs=>D.pls xs
 | .dct _=>false
 | .exc _=>false
 | _=>true
def D.pls:List D→Bool
 | []=>true
 | d::ds=>d.pl&&D.pls ds
end
theorem Dt.iss:(∀{v:V}{d:D},Dt K cl F v d→d.pl=true→Is K F v d.py)∧(∀{vs:List V}{ds:List D},Dts K cl F vs ds→D.pls ds=true→Iss K F vs (D.pys ds)):=by
 refine⟨fun {v d} h=>?_,fun {vs ds} h=>?_⟩
 ·exact Dt.rec (motive_1:=fun v d _=>d.pl=true→Is K F v d.py) (motive_2:=fun vs ds _=>D.pls ds=true→Iss K F vs (D.pys ds)) (motive_3:=fun _ _ _=>True) (fun _=>.non) (fun b _=>.bl b) (fun i _=>.int i) (fun l ok _=>.str _ ok) (fun q _ ih p=>.lst q (ih p)) (fun q _ ih p=>.tup q (ih p)) (fun _ _ _ p=>by simp[D.pl] at p) (fun _ p=>by simp[D.pl] at p) (fun _=>.nil)
   (fun _ _ a b p=>by simp only[D.pls,Bool.and_eq_true] at p;exact .cons (a p.1) (b p.2)) trivial (fun _ _ _ _ _=>trivial) h
 ·exact Dts.rec (motive_1:=fun v d _=>d.pl=true→Is K F v d.py) (motive_2:=fun vs ds _=>D.pls ds=true→Iss K F vs (D.pys ds)) (motive_3:=fun _ _ _=>True) (fun _=>.non) (fun b _=>.bl b) (fun i _=>.int i) (fun l ok _=>.str _ ok) (fun q _ ih p=>.lst q (ih p)) (fun q _ ih p=>.tup q (ih p)) (fun _ _ _ p=>by simp[D.pl] at p) (fun _ p=>by simp[D.pl] at p) (fun _=>.nil)
   (fun _ _ a b p=>by simp only[D.pls,Bool.and_eq_true] at p;exact .cons (a p.1) (b p.2)) trivial (fun _ _ _ _ _=>trivial) h
theorem Dt.is {v:V}{d:D}(h:Dt K cl F v d)(p:d.pl=true):Is K F v d.py:=Dt.iss.1 h p
def HO.mu:HO→Bool
 | .tup _=>false
 | .frz _ _=>false
 | _=>true
structure Gr (F H F' H':Hp):Prop where
 ff:Same F F'
 hh:Same H H'
 fh:Same F' H'
 no:∀b o,H b=some o→o.mu=true→F b=none→F' b=none
theorem Gr.refl (h:Same F H):Gr F H F H:=⟨Same.refl _,Same.refl _,h,fun _ _ _ _ q=>q⟩
theorem Gr.trans {F1 H1 F2 H2 F3 H3:Hp}(a:Gr F1 H1 F2 H2)(b:Gr F2 H2 F3 H3):Gr F1 H1 F3 H3 :=
 ⟨a.ff.trans b.ff,a.hh.trans b.hh,b.fh,fun c o hc m q=>b.no c o (a.hh c o hc) m (a.no c o hc m q)⟩
theorem upd_mono {H1 H2:Hp}{p:Addr}{o:HO}(h:Same H1 H2):Same (upd H1 p o) (upd H2 p o):=fun b u e=>by
 by_cases hb:b=p
 ·subst hb;rw[upd_same] at e ⊢;exact e
 ·rw[upd_ne hb] at e ⊢;exact h b u e
theorem Gr.new {p:Addr}{o:HO}(h:Same F H)(hp:H p=none):Gr F H (upd F p o) (upd H p o) :=
 ⟨Same.upd (h.free hp),Same.upd hp,upd_mono h,fun b o hb m q=>by
  have hne:b≠p:=fun z=>by rw[z,hp] at hb;cases hb
  rw[upd_ne hne];exact q⟩
theorem Gr.newO {p:Addr}{o:HO}(h:Same F H)(hp:H p=none):Gr F H F (upd H p o) :=
 ⟨Same.refl _,Same.upd hp,h.trans (Same.upd hp),fun _ _ _ _ q=>q⟩
def Sl.own:Sl→Bool
 | .ow _=>true
 | .od _=>true
 | _=>false
theorem Gr.tup {K:PySem.W.Frag}{cl:Nat→Addr}{p:Addr}{vs:List V}{ds:List D}(h:Same F H)(s:Same H H')(q:SqT K H' p vs)(d:Dts K cl F vs ds):∃F',Gr F H F' H'∧Dt K cl F' (.ref p) (.tup ds):=by
 have s2:Same F H':=h.trans s
 have add:∀o:HO,H' p=some o→o.mu=false→Gr F H (fun b=>if b=p then H' b else F b) H'∧Same F (fun b=>if b=p then H' b else F b):=fun o e m=>by
  have ff:Same F (fun b=>if b=p then H' b else F b):=fun b u e'=>by
   show(if b=p then H' b else F b)=some u
   split
   ·exact s2 b u e'
   ·exact e'
  refine⟨⟨ff,s,fun b u e'=>?_,fun b u hb m' q'=>?_⟩,ff⟩
  ·have e2:(if b=p then H' b else F b)=some u:=e'
   split at e2
   ·exact e2
   ·exact s2 b u e2
  ·show (if b=p then H' b else F b)=none
   split
   ·rename_i w
    subst w
    rw[s b u hb] at e
    injection e with e
    rw[e,m] at m'
    cases m'
   ·exact q'
 rcases q with(e|⟨u,e⟩)|q
 ·obtain⟨g,ff⟩:=add _ e rfl
  exact⟨_,g,.tup (.inl (.inl (by show(if p=p then H' p else F p)=_;rw[if_pos rfl];exact e))) (d.mono ff)⟩
 ·obtain⟨g,ff⟩:=add _ e rfl
  exact⟨_,g,.tup (.inl (.inr ⟨u,by show(if p=p then H' p else F p)=_;rw[if_pos rfl];exact e⟩)) (d.mono ff)⟩
 ·exact⟨F,⟨Same.refl _,s,s2,fun _ _ _ _ z=>z⟩,.tup (.inr q) d⟩
structure Rl (K:PySem.W.Frag)(cl:Nat→Addr)(H0 F0:Hp)(ρ:Rho)(σ:St)(H F:Hp):Prop where
 gr:Gr F0 H0 F H
 len:ρ.length=σ.length
 fz:∀(i:Nat) d,ρ[i]? = some (.fz d)→∃v,σ[i]? = some (some v)∧Dt K cl F v d
 ow:∀(i:Nat) ds,ρ[i]? = some (.ow ds)→∃a vs,σ[i]? = some (some (.ref a))∧H a=some (.lst vs)∧F a=none∧H0 a=none∧Dts K cl F vs ds
 od:∀(i:Nat) ds,ρ[i]? = some (.od ds)→∃a vs,σ[i]? = some (some (.ref a))∧H a=some (.dK vs)∧F a=none∧H0 a=none∧Dks K cl F vs ds
 ap:∀(i j:Nat) s t a,ρ[i]? = some s→ρ[j]? = some t→s.own=true→t.own=true→σ[i]? = some (some (.ref a))→σ[j]? = some (some (.ref a))→i=j
theorem Rl.grow {H0 F0:Hp}{ρ:Rho}{σ:St}(R:Rl K cl H0 F0 ρ σ H F)(g:Gr F H F' H'):Rl K cl H0 F0 ρ σ H' F' where
 gr:=R.gr.trans g
 len:=R.len
 fz:=fun i d e=>let ⟨v,h1,h2⟩:=R.fz i d e;⟨v,h1,h2.mono g.ff⟩
 ow:=fun i d e=>let ⟨a,vs,h1,h2,h3,h4,h5⟩:=R.ow i d e;⟨a,vs,h1,g.hh _ _ h2,g.no a _ h2 rfl h3,h4,h5.mono g.ff⟩
 od:=fun i d e=>let ⟨a,vs,h1,h2,h3,h4,h5⟩:=R.od i d e;⟨a,vs,h1,g.hh _ _ h2,g.no a _ h2 rfl h3,h4,h5.mono g.ff⟩
 ap:=R.ap
theorem Rl.fh {H0 F0:Hp}{ρ:Rho}{σ:St}(R:Rl K cl H0 F0 ρ σ H F):Same F H:=R.gr.fh
theorem get_set {α:Type}{l:List α}{i j:Nat}{x y:α}(h:(l.set i x)[j]? = some y):(i=j∧y=x∧i<l.length)∨(i≠j∧l[j]? = some y):=by
 by_cases e:i=j
 ·subst e
  rw[List.getElem?_set_self'] at h
  cases q:l[i]? with
  | none=>rw[q] at h;cases h
  | some z =>
   rw[q] at h
   exact .inl ⟨rfl,(Option.some.inj h).symm,(List.getElem?_eq_some_iff.mp q).1⟩
 ·rw[List.getElem?_set_ne e] at h
  exact .inr ⟨e,h⟩
theorem set_get {α:Type}{l:List α}{i:Nat}{x:α}(h:i<l.length):(l.set i x)[i]? = some x:=by rw[List.getElem?_set_self h]
theorem Rl.set {H0 F0:Hp}{ρ:Rho}{σ:St}{i:Nat}{v:V}{d:D}(R:Rl K cl H0 F0 ρ σ H F)(h:Dt K cl F v d):Rl K cl H0 F0 (ρ.set i (.fz d)) (σ.set i (some v)) H F where
 gr:=R.gr
 len:=by simp[R.len]
 fz := fun j e z=>by
  rcases get_set z with⟨rfl,q,hl⟩|⟨hj,q⟩
  ·injection q with q;subst q
   exact⟨v,set_get (R.len▸hl),h⟩
  ·rw[List.getElem?_set_ne hj];exact R.fz j e q
 ow:=fun j e z=>by
  rcases get_set z with⟨rfl,q,hl⟩|⟨hj,q⟩
  ·cases q
  ·rw[List.getElem?_set_ne hj];exact R.ow j e q
 od:=fun j e z=>by
  rcases get_set z with⟨rfl,q,hl⟩|⟨hj,q⟩
  ·cases q
  ·rw[List.getElem?_set_ne hj];exact R.od j e q
 ap := fun j k s t a z1 z2 o1 o2 e1 e2=>by
  rcases get_set z1 with⟨rfl,q,hl⟩|⟨hj,q⟩
  ·subst q;cases o1
  ·rcases get_set z2 with⟨rfl,q2,hl⟩|⟨hk,q2⟩
   ·subst q2;cases o2
   ·rw[List.getElem?_set_ne hj] at e1;rw[List.getElem?_set_ne hk] at e2
    exact R.ap j k s t a q q2 o1 o2 e1 e2
theorem Rl.apart {H0 F0:Hp}{ρ:Rho}{σ:St}(R:Rl K cl H0 F0 ρ σ H F){j:Nat}{s:Sl}{a:Addr}(e:ρ[j]? = some s)(o:s.own=true)(z:σ[j]? = some (some (.ref a))):H a≠none:=by
 cases s with
 | ow ds =>
  obtain⟨b,vs,h1,h2,_⟩:=R.ow j ds e
  rw[z] at h1
  injection h1 with h1;injection h1 with h1;injection h1 with h1
  rw[h1,h2];exact fun z=>nomatch z
 | od ds =>
  obtain⟨b,vs,h1,h2,_⟩:=R.od j ds e
  rw[z] at h1
  injection h1 with h1;injection h1 with h1;injection h1 with h1
  rw[h1,h2];exact fun z=>nomatch z
 | _=>cases o
theorem Rl.setO {H0 F0:Hp}{ρ:Rho}{σ:St}{i:Nat}{p:Addr}{vs:List V}{ds:List D}(R:Rl K cl H0 F0 ρ σ H F)(hp:H p=none)(h:Dts K cl F vs ds):Rl K cl H0 F0 (ρ.set i (.ow ds)) (σ.set i (some (.ref p))) (upd H p (.lst vs)) F where
 gr:=R.gr.trans (Gr.newO R.fh hp)
 len:=by simp[R.len]
 fz:=fun j e z=>by
  rcases get_set z with⟨rfl,q,hl⟩|⟨hj,q⟩
  ·cases q
  ·rw[List.getElem?_set_ne hj];exact R.fz j e q
 ow := fun j e z=>by
  rcases get_set z with⟨rfl,q,hl⟩|⟨hj,q⟩
  ·injection q with q;subst q
   exact⟨p,vs,set_get (R.len▸hl),upd_same,R.fh.free hp,R.gr.hh.free hp,h⟩
  ·rw[List.getElem?_set_ne hj]
   obtain⟨a,us,h1,h2,h3⟩:=R.ow j e q
   exact⟨a,us,h1,by rw[upd_ne (fun w=>by rw[w,hp] at h2;cases h2)];exact h2,h3⟩
 od := fun j e z=>by
  rcases get_set z with⟨rfl,q,hl⟩|⟨hj,q⟩
  ·cases q
  ·rw[List.getElem?_set_ne hj]
   obtain⟨a,us,h1,h2,h3⟩:=R.od j e q
   exact⟨a,us,h1,by rw[upd_ne (fun w=>by rw[w,hp] at h2;cases h2)];exact h2,h3⟩
 ap := fun j k s t a z1 z2 o1 o2 e1 e2=>by
  rcases get_set z1 with⟨rfl,q,hl⟩|⟨hj,q⟩
  ·rcases get_set z2 with⟨rfl,q2,hl2⟩|⟨hk,q2⟩
   ·rfl
   ·rw[set_get (R.len▸hl)] at e1;rw[List.getElem?_set_ne hk] at e2
    injection e1 with e1;injection e1 with e1;injection e1 with e1
    exact absurd (e1▸hp) (R.apart q2 o2 e2)
  ·rcases get_set z2 with⟨rfl,q2,hl2⟩|⟨hk,q2⟩
   ·rw[set_get (R.len▸hl2)] at e2;rw[List.getElem?_set_ne hj] at e1
    injection e2 with e2;injection e2 with e2;injection e2 with e2
    exact absurd (e2▸hp) (R.apart q o1 e1)
   ·rw[List.getElem?_set_ne hj] at e1;rw[List.getElem?_set_ne hk] at e2
    exact R.ap j k s t a q q2 o1 o2 e1 e2
theorem Rl.put {H0 F0:Hp}{ρ:Rho}{σ:St}{i:Nat}{a:Addr}{us:List V}{ds es:List D}(R:Rl K cl H0 F0 ρ σ H F)(hi:ρ[i]? = some (.ow ds))(hs:σ[i]? = some (some (.ref a)))(h:Dts K cl F us es):Rl K cl H0 F0 (ρ.set i (.ow es)) σ (upd H a (.lst us)) F:=by
 obtain⟨b,ws,h1,h2,h3,h4,_⟩:=R.ow i ds hi
 rw[hs] at h1
 injection h1 with h1;injection h1 with h1;injection h1 with h1
 subst h1
 have far:∀(j:Nat) (s:Sl) (c:Addr),j≠i→ρ[j]? = some s→s.own=true→σ[j]? = some (some (.ref c))→c≠a:=fun j s c hj e o z w=>hj (R.ap j i s _ a e hi o rfl (w▸z) hs)
 refine⟨⟨R.gr.ff,fun c o e=>?_,fun c o e=>?_,R.gr.no⟩,by simp[R.len],fun j e z=>?_,fun j e z=>?_,fun j e z=>?_,fun j k s t c z1 z2 o1 o2 e1 e2=>?_⟩
 ·rw[upd_ne (fun w=>by rw[w,h4] at e;cases e)];exact R.gr.hh c o e
 ·rw[upd_ne (fun w=>by rw[w,h3] at e;cases e)];exact R.fh c o e
 ·rcases get_set z with⟨rfl,q,hl⟩|⟨hj,q⟩
  ·cases q
  ·exact R.fz j e q
 ·rcases get_set z with⟨rfl,q,hl⟩|⟨hj,q⟩
  ·injection q with q;subst q
   exact⟨a,us,hs,upd_same,h3,h4,h⟩
  ·obtain⟨c,xs,k1,k2,k3⟩:=R.ow j e q
   exact⟨c,xs,k1,by rw[upd_ne (far j _ c (Ne.symm hj) q rfl k1)];exact k2,k3⟩
 ·rcases get_set z with⟨rfl,q,hl⟩|⟨hj,q⟩
  ·cases q
  ·obtain⟨c,xs,k1,k2,k3⟩:=R.od j e q
   exact⟨c,xs,k1,by rw[upd_ne (far j _ c (Ne.symm hj) q rfl k1)];exact k2,k3⟩
 ·have own:∀(j:Nat) (s:Sl),(ρ.set i (.ow es))[j]? = some s→s.own=true→∃s',ρ[j]? = some s'∧s'.own=true:=fun j s z o=>by
   rcases get_set z with⟨rfl,q,hl⟩|⟨hj,q⟩
   ·exact⟨_,hi,rfl⟩
   ·exact⟨s,q,o⟩
  obtain⟨s',q1,p1⟩:=own j s z1 o1
  obtain⟨t',q2,p2⟩:=own k t z2 o2
  exact R.ap j k s' t' c q1 q2 p1 p2 e1 e2
theorem Rl.ice {H0 F0:Hp}{ρ:Rho}{σ:St}{i:Nat}{ds:List D}(R:Rl K cl H0 F0 ρ σ H F)(hi:ρ[i]? = some (.ow ds)):∃F',Same F F'∧Rl K cl H0 F0 (ρ.set i (.fz (.lst ds))) σ H F':=by
 obtain⟨a,vs,h1,h2,h3,h4,h5⟩:=R.ow i ds hi
 have sm:Same F (upd F a (.lst vs)):=Same.upd h3
 have far:∀(j:Nat) (s:Sl) (c:Addr),j≠i→ρ[j]? = some s→s.own=true→σ[j]? = some (some (.ref c))→c≠a:=fun j s c hj e o z w=>hj (R.ap j i s _ a e hi o rfl (w▸z) h1)
 refine⟨upd F a (.lst vs),sm,⟨⟨R.gr.ff.trans sm,R.gr.hh,fun c o e=>?_,fun c o hc m q=>?_⟩,by simp[R.len],fun j e z=>?_,fun j e z=>?_,fun j e z=>?_,fun j k s t c z1 z2 o1 o2 e1 e2=>?_⟩⟩
 ·by_cases w:c=a
  ·subst w;rw[upd_same] at e;rw[← e];exact h2
  ·rw[upd_ne w] at e;exact R.fh c o e
 ·have hne:c≠a:=fun w=>by rw[w,h4] at hc;cases hc
  rw[upd_ne hne];exact R.gr.no c o hc m q
 ·rcases get_set z with⟨rfl,q,hl⟩|⟨hj,q⟩
  ·injection q with q;subst q
   exact⟨.ref a,h1,.lst (.inl (.inl upd_same)) (h5.mono sm)⟩
  ·obtain⟨v,k1,k2⟩:=R.fz j e q
   exact⟨v,k1,k2.mono sm⟩
 ·rcases get_set z with⟨rfl,q,hl⟩|⟨hj,q⟩
  ·cases q
  ·obtain⟨c,xs,k1,k2,k3,k4,k5⟩:=R.ow j e q
   exact⟨c,xs,k1,k2,by rw[upd_ne (far j _ c (Ne.symm hj) q rfl k1)];exact k3,k4,k5.mono sm⟩
 ·rcases get_set z with⟨rfl,q,hl⟩|⟨hj,q⟩
  ·cases q
  ·obtain⟨c,xs,k1,k2,k3,k4,k5⟩:=R.od j e q
   exact⟨c,xs,k1,k2,by rw[upd_ne (far j _ c (Ne.symm hj) q rfl k1)];exact k3,k4,k5.mono sm⟩
 ·rcases get_set z1 with⟨rfl,q,hl⟩|⟨hj,q⟩
  ·subst q;cases o1
  ·rcases get_set z2 with⟨rfl,q2,hl⟩|⟨hk,q2⟩
   ·subst q2;cases o2
   ·exact R.ap j k s t c q q2 o1 o2 e1 e2
end
end L2
namespace L2
open PySem PySem.Spec PyProof.Rows
def OutE (K:PySem.W.Frag)(cl:Nat→Addr)(E:XK)(H0 F H:Hp)(r:Rs D)(Q:VK):Prop :=
 match r with
 | .ok d=>∀v H' F',Gr F H F' H'→Dt K cl F' v d→Q v H'
 | .ex n=>∀H',Same H0 H'→E (.ref (cl n)) none H'
 | .no=>False
def OutA (K:PySem.W.Frag)(cl:Nat→Addr)(E:XK)(H0 F H:Hp)(r:Rs (List D))(Q:List V→Hp→Prop):Prop :=
 match r with
 | .ok ds=>∀vs H' F',Gr F H F' H'→Dts K cl F' vs ds→Q vs H'
 | .ex n=>∀H',Same H0 H'→E (.ref (cl n)) none H'
 | .no=>False
def OutB (K:PySem.W.Frag)(cl:Nat→Addr)(E:XK)(H0 F H:Hp)(r:Rs Bool)(Q:Bool→Hp→Prop):Prop :=
 match r with
 | .ok b=>∀H' F',Gr F H F' H'→Q b H'
 | .ex n=>∀H',Same H0 H'→E (.ref (cl n)) none H'
 | .no=>False
def OutS (K:PySem.W.Frag)(cl:Nat→Addr)(E:XK)(H0 F0 F:Hp)(o:Out)(Dn:Ends):Prop :=
 match o with
 | .nx ρ=>∀σ H F',Rl K cl H0 F0 ρ σ H F'→Same F F'→Dn.nx σ H
 | .rt d=>∀v H F',Gr F0 H0 F' H→Dt K cl F' v d→Dn.rt v H
 | .bk ρ=>∀σ H F',Rl K cl H0 F0 ρ σ H F'→Same F F'→Dn.bk σ H
 | .ct ρ=>∀σ H F',Rl K cl H0 F0 ρ σ H F'→Same F F'→Dn.ct σ H
 | .ex n=>∀H',Same H0 H'→E (.ref (cl n)) none H'
 | .no=>False
def XE' (X:Cx)(cl:Nat→Addr)(E:XK)(e:Expr)(f:Rho→Rs D):Prop :=
 ∃t:TE,PE X e t∧∀(H0 F0:Hp) (ρ:Rho) (σ:St) (H F:Hp) (Q:VK),Rl X.K cl H0 F0 ρ σ H F→OutE X.K cl E H0 F H (f ρ) Q→t σ H Q
def XA' (X:Cx)(cl:Nat→Addr)(E:XK)(es:List Expr)(f:Rho→Rs (List D)):Prop :=
 ∃t:TA,PA X es t∧∀(H0 F0:Hp) (ρ:Rho) (σ:St) (H F:Hp) (Q:List V→Hp→Prop),Rl X.K cl H0 F0 ρ σ H F→OutA X.K cl E H0 F H (f ρ) Q→t σ H Q
def XT' (X:Cx)(cl:Nat→Addr)(E:XK)(e:Expr)(f:Rho→Rs Bool):Prop :=
 ∃t:TT,PT X e t∧∀(H0 F0:Hp) (ρ:Rho) (σ:St) (H F:Hp) (Q:Bool→Hp→Prop),Rl X.K cl H0 F0 ρ σ H F→OutB X.K cl E H0 F H (f ρ) Q→t σ H Q
def XW' (X:Cx)(cl:Nat→Addr)(E:XK)(e:Expr)(f:Rho→Rs Bool):Prop :=
 ∃t:TT,PW X e t∧∀(H0 F0:Hp) (ρ:Rho) (σ:St) (H F:Hp) (Q:Bool→Hp→Prop),Rl X.K cl H0 F0 ρ σ H F→OutB X.K cl E H0 F H (f ρ) Q→t σ H Q
def XO' (X:Cx)(cl:Nat→Addr)(E:XK)(e:Option Expr)(f:Rho→Rs (Option Int)):Prop :=
 ∃ t:TO,PO X e t∧∀(H0 F0:Hp) (ρ:Rho) (σ:St) (H F:Hp) (Q:Option Int→Hp→Prop),Rl X.K cl H0 F0 ρ σ H F →
  (match f ρ with | .ok o=>∀H' F',Gr F H F' H'→Q o H' | .ex n=>∀H',Same H0 H'→E (.ref (cl n)) none H' | .no=>False)→t σ H Q
def tDE (K:PySem.W.Frag)(cl:Nat→Addr)(E:XK)(f:Rho→Rs D):TE:=fun σ H Q=>∃H0 F0 ρ F,Rl K cl H0 F0 ρ σ H F∧OutE K cl E H0 F H (f ρ) Q
def tDA (K:PySem.W.Frag)(cl:Nat→Addr)(E:XK)(f:Rho→Rs (List D)):TA:=fun σ H Q=>∃H0 F0 ρ F,Rl K cl H0 F0 ρ σ H F∧OutA K cl E H0 F H (f ρ) Q
def tDB (K:PySem.W.Frag)(cl:Nat→Addr)(E:XK)(f:Rho→Rs Bool):TT:=fun σ H Q=>∃H0 F0 ρ F,Rl K cl H0 F0 ρ σ H F∧OutB K cl E H0 F H (f ρ) Q
def XE (X:Cx)(cl:Nat→Addr)(E:XK)(e:Expr)(f:Rho→Rs D):Prop:=PE X e (tDE X.K cl E f)
def XA (X:Cx)(cl:Nat→Addr)(E:XK)(es:List Expr)(f:Rho→Rs (List D)):Prop:=PA X es (tDA X.K cl E f)
def XT (X:Cx)(cl:Nat→Addr)(E:XK)(e:Expr)(f:Rho→Rs Bool):Prop:=PT X e (tDB X.K cl E f)
def XW (X:Cx)(cl:Nat→Addr)(E:XK)(e:Expr)(f:Rho→Rs Bool):Prop:=PW X e (tDB X.K cl E f)
section
variable {X:Cx}{cl:Nat→Addr}{E:XK}
theorem XE.ex {e:Expr}{f:Rho→Rs D}(h:XE X cl E e f):XE' X cl E e f:=⟨_,h,fun H0 F0 ρ σ H F Q R o=>⟨H0,F0,ρ,F,R,o⟩⟩
theorem XA.ex {e:List Expr}{f:Rho→Rs (List D)}(h:XA X cl E e f):XA' X cl E e f:=⟨_,h,fun H0 F0 ρ σ H F Q R o=>⟨H0,F0,ρ,F,R,o⟩⟩
theorem XT.ex {e:Expr}{f:Rho→Rs Bool}(h:XT X cl E e f):XT' X cl E e f:=⟨_,h,fun H0 F0 ρ σ H F Q R o=>⟨H0,F0,ρ,F,R,o⟩⟩
theorem XW.ex {e:Expr}{f:Rho→Rs Bool}(h:XW X cl E e f):XW' X cl E e f:=⟨_,h,fun H0 F0 ρ σ H F Q R o=>⟨H0,F0,ρ,F,R,o⟩⟩
theorem XE'.out {e:Expr}{f:Rho→Rs D}(h:XE' X cl E e f):XE X cl E e f:=let ⟨_,pt,rt⟩:=h;fun pins s σ H Q I ⟨H0,F0,ρ,F,R,o⟩=>pt pins s σ H Q I (rt H0 F0 ρ σ H F Q R o)
theorem XA'.out {e:List Expr}{f:Rho→Rs (List D)}(h:XA' X cl E e f):XA X cl E e f:=let ⟨_,pt,rt⟩:=h;fun pos pins s σ H Q I ⟨H0,F0,ρ,F,R,o⟩=>pt pos pins s σ H Q I (rt H0 F0 ρ σ H F Q R o)
theorem XT'.out {e:Expr}{f:Rho→Rs Bool}(h:XT' X cl E e f):XT X cl E e f:=let ⟨_,pt,rt⟩:=h;fun pins s σ H Q I ⟨H0,F0,ρ,F,R,o⟩=>pt pins s σ H Q I (rt H0 F0 ρ σ H F Q R o)
theorem XW'.out {e:Expr}{f:Rho→Rs Bool}(h:XW' X cl E e f):XW X cl E e f:=let ⟨_,pt,rt⟩:=h;fun whole pins s σ H Q I ⟨H0,F0,ρ,F,R,o⟩=>pt whole pins s σ H Q I (rt H0 F0 ρ σ H F Q R o)
end
def fC (d:D):Rho→Rs D:=fun _=>.ok d
def fNm (i:Nat):Rho→Rs D:=fun ρ=>match ρ[i]? with|some (.fz d)=>.ok d|_=>.no
def lf:Option D→Rs D
 | some d=>.ok d
 | none=>.no
def f1 (g:D→Option D)(fa:Rho→Rs D):Rho→Rs D:=fun ρ=>(fa ρ).bind fun a=>lf (g a)
def f2 (g:D→D→Option D)(fa fb:Rho→Rs D):Rho→Rs D:=fun ρ=>(fa ρ).bind fun a=>(fb ρ).bind fun b=>lf (g a b)
def aNil:Rho→Rs (List D):=fun _=>.ok []
def aCons (fa:Rho→Rs D)(fs:Rho→Rs (List D)):Rho→Rs (List D):=fun ρ=>(fa ρ).bind fun a=>(fs ρ).bind fun as=>.ok (a::as)
def fO (g:List D→Option D)(fs:Rho→Rs (List D)):Rho→Rs D:=fun ρ=>(fs ρ).bind fun as=>lf (g as)
def fA (g:List D→Rs D)(fs:Rho→Rs (List D)):Rho→Rs D:=fun ρ=>(fs ρ).bind g
def fIf (ft:Rho→Rs Bool)(fa fb:Rho→Rs D):Rho→Rs D:=fun ρ=>(ft ρ).bind fun b=>if b=true then fa ρ else fb ρ
def tru:D→Rs Bool
 | .bl b=>.ok b
 | _=>.no
def bT (fa:Rho→Rs D):Rho→Rs Bool:=fun ρ=>(fa ρ).bind tru
def bNot (ft:Rho→Rs Bool):Rho→Rs Bool:=fun ρ=>(ft ρ).bind fun b=>.ok (!b)
def bAnd (fa fb:Rho→Rs Bool):Rho→Rs Bool:=fun ρ=>(fa ρ).bind fun b=>if b=true then fb ρ else .ok false
def bOr (fa fb:Rho→Rs Bool):Rho→Rs Bool:=fun ρ=>(fa ρ).bind fun b=>if b=true then .ok true else fb ρ
def fAnd (fa fb:Rho→Rs D):Rho→Rs D:=fun ρ=>(fa ρ).bind fun a=>(tru a).bind fun b=>if b=true then fb ρ else .ok (.bl false)
def fOr (fa fb:Rho→Rs D):Rho→Rs D:=fun ρ=>(fa ρ).bind fun a=>(tru a).bind fun b=>if b=true then .ok (.bl true) else fb ρ
def fNot (fa:Rho→Rs D):Rho→Rs D:=fun ρ=>(fa ρ).bind fun a=>(tru a).bind fun b=>.ok (.bl (!b))
section
variable {K:PySem.W.Frag}{cl:Nat→Addr}{E:XK}{H0 F0 F H F1 H1:Hp}{ρ:Rho}{σ:St}
theorem OutE.grow {r:Rs D}{Q:VK}(h:OutE K cl E H0 F H r Q)(g:Gr F H F1 H1):OutE K cl E H0 F1 H1 r Q:=by
 cases r with
 | ok d=>exact fun v H' F' g' q=>h v H' F' (g.trans g') q
 | ex n=>exact h
 | no=>exact h
theorem OutA.grow {r:Rs (List D)}{Q:List V→Hp→Prop}(h:OutA K cl E H0 F H r Q)(g:Gr F H F1 H1):OutA K cl E H0 F1 H1 r Q:=by
 cases r with
 | ok d=>exact fun v H' F' g' q=>h v H' F' (g.trans g') q
 | ex n=>exact h
 | no=>exact h
theorem OutB.grow {r:Rs Bool}{Q:Bool→Hp→Prop}(h:OutB K cl E H0 F H r Q)(g:Gr F H F1 H1):OutB K cl E H0 F1 H1 r Q:=by
 cases r with
 | ok d=>exact fun H' F' g'=>h H' F' (g.trans g')
 | ex n=>exact h
 | no=>exact h
theorem OutE.fst {r:Rs D}{g:D→Rs D}{Q P:VK}(h:OutE K cl E H0 F H (r.bind g) Q)(k:∀d v H1 F1,Gr F H F1 H1→Dt K cl F1 v d→OutE K cl E H0 F1 H1 (g d) Q→P v H1):OutE K cl E H0 F H r P:=by
 cases r with
 | ok d=>exact fun v H' F' g' q=>k d v H' F' g' q (h.grow g')
 | ex n=>exact h
 | no=>exact h
theorem OutE.fstA {r:Rs D}{g:D→Rs (List D)}{Q:List V→Hp→Prop}{P:VK}(h:OutA K cl E H0 F H (r.bind g) Q)(k:∀d v H1 F1,Gr F H F1 H1→Dt K cl F1 v d→OutA K cl E H0 F1 H1 (g d) Q→P v H1):OutE K cl E H0 F H r P:=by
 cases r with
 | ok d=>exact fun v H' F' g' q=>k d v H' F' g' q (h.grow g')
 | ex n=>exact h
 | no=>exact h
theorem OutA.fst {r:Rs (List D)}{g:List D→Rs D}{Q:VK}{P:List V→Hp→Prop}(h:OutE K cl E H0 F H (r.bind g) Q)(k:∀d v H1 F1,Gr F H F1 H1→Dts K cl F1 v d→OutE K cl E H0 F1 H1 (g d) Q→P v H1):OutA K cl E H0 F H r P:=by
 cases r with
 | ok d=>exact fun v H' F' g' q=>k d v H' F' g' q (h.grow g')
 | ex n=>exact h
 | no=>exact h
theorem OutA.fstA {r:Rs (List D)}{g:List D→Rs (List D)}{Q P:List V→Hp→Prop}(h:OutA K cl E H0 F H (r.bind g) Q)(k:∀d v H1 F1,Gr F H F1 H1→Dts K cl F1 v d→OutA K cl E H0 F1 H1 (g d) Q→P v H1):OutA K cl E H0 F H r P:=by
 cases r with
 | ok d=>exact fun v H' F' g' q=>k d v H' F' g' q (h.grow g')
 | ex n=>exact h
 | no=>exact h
theorem OutE.fstB {r:Rs D}{g:D→Rs Bool}{Q:Bool→Hp→Prop}{P:VK}(h:OutB K cl E H0 F H (r.bind g) Q)(k:∀d v H1 F1,Gr F H F1 H1→Dt K cl F1 v d→OutB K cl E H0 F1 H1 (g d) Q→P v H1):OutE K cl E H0 F H r P:=by
 cases r with
 | ok d=>exact fun v H' F' g' q=>k d v H' F' g' q (h.grow g')
 | ex n=>exact h
 | no=>exact h
theorem OutB.fstB {r:Rs Bool}{g:Bool→Rs Bool}{Q P:Bool→Hp→Prop}(h:OutB K cl E H0 F H (r.bind g) Q)(k:∀b H1 F1,Gr F H F1 H1→OutB K cl E H0 F1 H1 (g b) Q→P b H1):OutB K cl E H0 F H r P:=by
 cases r with
 | ok d=>exact fun H' F' g'=>k d H' F' g' (h.grow g')
 | ex n=>exact h
 | no=>exact h
theorem OutE.okI {d:D}{v:V}{Q:VK}(h:OutE K cl E H0 F H (.ok d) Q)(s:Same F H)(q:Dt K cl F v d):Q v H:=h v H F (Gr.refl s) q
theorem tru_some {v:V}{d:D}{b:Bool}(q:Dt K cl F v d)(h:tru d=.ok b):v=.bl b:=by
 cases q <;>simp[tru] at h
 subst h;rfl
end
section
variable {X:Cx}{cl:Nat→Addr}{E:XK}{a b:Expr}{fa fb fc:Rho→Rs D}{pos:Pos}
theorem xe_c {e:Expr}{v:V}{d:D}(h:PE X e (tC v))(q:∀F,Dt X.K cl F v d):XE X cl E e (fC d):=XE'.out ⟨_,h,fun H0 F0 ρ σ H F Q R o=>o.okI R.fh (q F)⟩
theorem xe_int {i j pos}:XE X cl E (.Constant (.int i) j pos) (fC (.int i)):=xe_c pe_int fun _=>.int i
theorem xe_bl {b j pos}:XE X cl E (.Constant (.bool b) j pos) (fC (.bl b)):=xe_c pe_bl fun _=>.bl b
theorem xe_non {j pos}:XE X cl E (.Constant .none j pos) (fC .non):=xe_c pe_non fun _=>.non
theorem xe_str {x:Str}{j pos}{l:List Nat}(h:x=T l)(ok:TxtOk (T l)):XE X cl E (.Constant (.str x) j pos) (fC (.str l)):=by subst h;exact xe_c pe_str fun _=>.str l ok
theorem xe_nm (i:Nat){e:Expr}(h:PE X e (tVar i)):XE X cl E e (fNm i):=XE'.out ⟨_,h,fun H0 F0 ρ σ H F Q R o=>by
 unfold fNm at o
 split at o
 ·rename_i d e
  obtain⟨v,h1,h2⟩:=R.fz i d e
  exact⟨v,h1,o.okI R.fh h2⟩
 ·exact o.elim⟩
theorem xa_nil:XA X cl E [] aNil:=XA'.out ⟨_,pa_nil,fun H0 F0 ρ σ H F Q R o=>o [] H F (Gr.refl R.fh) .nil⟩
theorem xa_cons {e:Expr}{es:List Expr}{fs:Rho→Rs (List D)}(ha:XE X cl E e fa)(hr:XA X cl E es fs)(hs:starEach (e::es) X.env=(false,eval e X.env)::starEach es X.env):XA X cl E (e::es) (aCons fa fs):=by
 obtain⟨t,pt,rt⟩:=ha.ex
 obtain⟨u,pu,ru⟩:=hr.ex
 refine XA'.out ⟨_,pa_cons pt pu hs,fun H0 F0 ρ σ H F Q R o=>rt H0 F0 ρ σ H F _ R (OutE.fstA o fun d v H1 F1 g q o1=>?_)⟩
 refine ru H0 F0 ρ σ H1 F1 _ (R.grow g) (OutA.fstA o1 fun ds vs H2 F2 g2 q2 o2=>?_)
 exact o2 (v::vs) H2 F2 (Gr.refl (R.grow (g.trans g2)).fh) (.cons (q.mono g2.ff) q2)
def Op2 (K:PySem.W.Frag)(cl:Nat→Addr)(r:R2)(g:D→D→Option D):Prop :=
 ∀(F H:Hp) (x y:V) (a b d:D) (Q:VK),Same F H→Dt K cl F x a→Dt K cl F y b→g a b=some d→(∀v H' F',Gr F H F' H'→Dt K cl F' v d→Q v H')→r x y H Q
theorem OutE.lf {K:PySem.W.Frag}{cl:Nat→Addr}{E:XK}{H0 F H:Hp}{o:Option D}{Q:VK}(h:OutE K cl E H0 F H (lf o) Q):∃d,o=some d∧∀v H' F',Gr F H F' H'→Dt K cl F' v d→Q v H':=by
 cases o with
 | none=>exact h.elim
 | some d=>exact⟨d,rfl,h⟩
theorem xe_op {op:Operator}{r:R2}{g:D→D→Option D}(ho:OpR X (binaryOp op) r)(hg:Op2 X.K cl r g)(ha:XE X cl E a fa)(hb:XE X cl E b fb):XE X cl E (.BinOp a op b pos) (f2 g fa fb):=by
 obtain⟨t,pt,rt⟩:=ha.ex
 obtain⟨u,pu,ru⟩:=hb.ex
 refine XE'.out ⟨_,pe_op ho pt pu,fun H0 F0 ρ σ H F Q R o=>rt H0 F0 ρ σ H F _ R (OutE.fst o fun d v H1 F1 g1 q o1=>?_)⟩
 refine ru H0 F0 ρ σ H1 F1 _ (R.grow g1) (OutE.fst o1 fun e w H2 F2 g2 q2 o2=>?_)
 obtain⟨z,hz,k⟩:=o2.lf
 exact hg F2 H2 v w d e z _ (R.grow (g1.trans g2)).fh (q.mono g2.ff) q2 hz k
theorem xe_cmp {op:CmpOp}{r:R2}{g:D→D→Option D}(ho:OpR X (compareOp op) r)(hg:Op2 X.K cl r g)(ha:XE X cl E a fa)(hb:XE X cl E b fb)(hm:behindInMarks op b=false):XE X cl E (.Compare a [op] [b] pos) (f2 g fa fb):=by
 obtain⟨t,pt,rt⟩:=ha.ex
 obtain⟨u,pu,ru⟩:=hb.ex
 refine XE'.out ⟨_,pe_cmpR ho pt pu hm,fun H0 F0 ρ σ H F Q R o=>rt H0 F0 ρ σ H F _ R (OutE.fst o fun d v H1 F1 g1 q o1=>?_)⟩
 refine ru H0 F0 ρ σ H1 F1 _ (R.grow g1) (OutE.fst o1 fun e w H2 F2 g2 q2 o2=>?_)
 obtain⟨z,hz,k⟩:=o2.lf
 exact hg F2 H2 v w d e z _ (R.grow (g1.trans g2)).fh (q.mono g2.ff) q2 hz k
theorem xt_cmp {op:CmpOp}{r:R2}{g:D→D→Option D}(ho:OpR X (compareOp op) r)(hg:Op2 X.K cl r g)(ha:XE X cl E a fa)(hb:XE X cl E b fb)(hm:behindInMarks op b=false):XT X cl E (.Compare a [op] [b] pos) (bT (f2 g fa fb)):=by
 obtain⟨t,pt,rt⟩:=ha.ex
 obtain⟨u,pu,ru⟩:=hb.ex
 refine XT'.out ⟨_,pt_cmpR ho pt pu hm,fun H0 F0 ρ σ H F Q R o=>?_⟩
 have o':OutE X.K cl E H0 F H (f2 g fa fb ρ) fun v H1=>∃k,v=.bl k∧Q k H1:=OutE.fstB o fun d v H1 F1 g1 q o1=>by
  cases e:tru d with
  | ok b=>rw[e] at o1;exact⟨b,tru_some q e,o1 H1 F1 (Gr.refl (R.grow g1).fh)⟩
  | ex n=>cases d <;>simp[tru] at e
  | no=>rw[e] at o1;exact o1.elim
 refine rt H0 F0 ρ σ H F _ R (OutE.fst o' fun d v H1 F1 g1 q o1=>?_)
 refine ru H0 F0 ρ σ H1 F1 _ (R.grow g1) (OutE.fst o1 fun e w H2 F2 g2 q2 o2=>?_)
 obtain⟨z,hz,k⟩:=o2.lf
 exact hg F2 H2 v w d e z _ (R.grow (g1.trans g2)).fh (q.mono g2.ff) q2 hz k
theorem OutB.bT {ρ:Rho}{H0 F0 H F:Hp}{σ:St}{Q:Bool→Hp→Prop}(R:Rl X.K cl H0 F0 ρ σ H F)(o:OutB X.K cl E H0 F H (bT fa ρ) Q):OutE X.K cl E H0 F H (fa ρ) fun v H1=>∃k,v=.bl k∧Q k H1:=OutE.fstB o fun d v H1 F1 g1 q o1=>by
  cases e:tru d with
  | ok b=>rw[e] at o1;exact⟨b,tru_some q e,o1 H1 F1 (Gr.refl (R.grow g1).fh)⟩
  | ex n=>cases d <;>simp[tru] at e
  | no=>rw[e] at o1;exact o1.elim
theorem xt_val {e:Expr}(h:XE X cl E e fa)(he:∀whole,isTrue e X.env whole=(do let v ← whole;standAt e.pos;holding [v] (truthy v)):=by intro _;rfl):XT X cl E e (bT fa):=by
 obtain⟨t,pt,rt⟩:=h.ex
 exact XT'.out ⟨_,pt_val pt he,fun H0 F0 ρ σ H F Q R o=>rt H0 F0 ρ σ H F _ R (OutB.bT R o)⟩
theorem xt_not {ft:Rho→Rs Bool}(h:XT X cl E a ft):XT X cl E (.UnaryOp .Not a pos) (bNot ft):=by
 obtain⟨t,pt,rt⟩:=h.ex
 exact XT'.out ⟨_,pt_not pt,fun H0 F0 ρ σ H F Q R o=>rt H0 F0 ρ σ H F _ R (OutB.fstB o fun b H1 F1 g o1=>o1 H1 F1 (Gr.refl (R.grow g).fh))⟩
theorem xw_and1 {ft:Rho→Rs Bool}(h:XT X cl E a ft):XW X cl E (.BoolOp .And [a] pos) ft:=let ⟨t,pt,rt⟩:=h.ex;XW'.out ⟨t,pw_and1 pt,rt⟩
theorem xw_or1 {ft:Rho→Rs Bool}(h:XT X cl E a ft):XW X cl E (.BoolOp .Or [a] pos) ft:=let ⟨t,pt,rt⟩:=h.ex;XW'.out ⟨t,pw_or1 pt,rt⟩
theorem xw_and {rest:List Expr}{ft fu:Rho→Rs Bool}(h:XT X cl E a ft)(k:XW X cl E (.BoolOp .And (b::rest) pos) fu):XW X cl E (.BoolOp .And (a::b::rest) pos) (bAnd ft fu):=by
 obtain⟨t,pt,rt⟩:=h.ex
 obtain⟨u,pu,ru⟩:=k.ex
 refine XW'.out ⟨_,pw_and pt pu,fun H0 F0 ρ σ H F Q R o=>rt H0 F0 ρ σ H F _ R (OutB.fstB o fun b H1 F1 g o1=>?_)⟩
 cases b with
 | true=>exact ru H0 F0 ρ σ H1 F1 _ (R.grow g) o1
 | false=>exact o1 H1 F1 (Gr.refl (R.grow g).fh)
theorem xw_or {rest:List Expr}{ft fu:Rho→Rs Bool}(h:XT X cl E a ft)(k:XW X cl E (.BoolOp .Or (b::rest) pos) fu):XW X cl E (.BoolOp .Or (a::b::rest) pos) (bOr ft fu):=by
 obtain⟨t,pt,rt⟩:=h.ex
 obtain⟨u,pu,ru⟩:=k.ex
 refine XW'.out ⟨_,pw_or pt pu,fun H0 F0 ρ σ H F Q R o=>rt H0 F0 ρ σ H F _ R (OutB.fstB o fun b H1 F1 g o1=>?_)⟩
 cases b with
 | true=>exact o1 H1 F1 (Gr.refl (R.grow g).fh)
 | false=>exact ru H0 F0 ρ σ H1 F1 _ (R.grow g) o1
theorem XW.xt {e:Expr}{ft:Rho→Rs Bool}(h:XW X cl E e ft):XT X cl E e ft:=let ⟨t,pt,rt⟩:=h.ex;XT'.out ⟨t,pt.pt,rt⟩
def isN (neg:Bool):D→Option D
 | .non=>some (.bl (!neg))
 | _=>some (.bl neg)
theorem Dt.isnon {K:PySem.W.Frag}{F:Hp}{v:V}{d:D}(q:Dt K cl F v d):isN false d=some (.bl (decide (v=.non)))∧isN true d=some (.bl (!decide (v=.non))):=by cases q <;>exact⟨rfl,rfl⟩
theorem xe_isN {j pos'}(h:XE X cl E a fa):XE X cl E (.Compare a [.Is] [.Constant .none j pos'] pos) (f1 (isN false) fa):=by
 obtain⟨t,pt,rt⟩:=h.ex
 refine XE'.out ⟨_,pe_cmp (pc_isN pt),fun H0 F0 ρ σ H F Q R o=>rt H0 F0 ρ σ H F _ R (OutE.fst o fun d v H1 F1 g q o1=>?_)⟩
 rw[q.isnon.1] at o1
 exact o1.okI (R.grow g).fh (.bl _)
theorem xt_notN {j pos'}(h:XE X cl E a fa):XT X cl E (.Compare a [.IsNot] [.Constant .none j pos'] pos) (bT (f1 (isN true) fa)):=by
 obtain⟨t,pt,rt⟩:=h.ex
 refine XT'.out ⟨_,pt_cmp (pc_notN pt),fun H0 F0 ρ σ H F Q R o=>rt H0 F0 ρ σ H F _ R (OutE.fst (OutB.bT R o) fun d v H1 F1 g q o1=>?_)⟩
 rw[q.isnon.2] at o1
 exact o1.okI (R.grow g).fh (.bl _)
theorem OutE.tru {H0 F H F1 H1:Hp}{d:D}{v:V}{g:Bool→Rs D}{Q:VK}(q:Dt X.K cl F v d)(o:OutE X.K cl E H0 F H ((tru d).bind g) Q):∃b,v=.bl b∧OutE X.K cl E H0 F H (g b) Q:=by
 cases e:L2.tru d with
 | ok b=>rw[e] at o;exact⟨b,tru_some q e,o⟩
 | ex n=>cases d <;>simp[L2.tru] at e
 | no=>rw[e] at o;exact o.elim
theorem xe_one {op}(h:XE X cl E a fa):XE X cl E (.BoolOp op [a] pos) fa:=let ⟨t,pt,rt⟩:=h.ex;XE'.out ⟨t,pe_one pt,rt⟩
theorem xe_and {rest:List Expr}(ha:XE X cl E a fa)(hb:XE X cl E (.BoolOp .And (b::rest) pos) fb):XE X cl E (.BoolOp .And (a::b::rest) pos) (fAnd fa fb):=by
 obtain⟨t,pt,rt⟩:=ha.ex
 obtain⟨u,pu,ru⟩:=hb.ex
 refine XE'.out ⟨_,pe_and pt pu,fun H0 F0 ρ σ H F Q R o=>rt H0 F0 ρ σ H F _ R (OutE.fst o fun d v H1 F1 g q o1=>?_)⟩
 obtain⟨b,rfl,o2⟩:=OutE.tru (F1:=F1) (H1:=H1) q o1
 refine⟨b,rfl,?_⟩
 cases b with
 | true=>exact ru H0 F0 ρ σ H1 F1 _ (R.grow g) o2
 | false=>exact o2.okI (R.grow g).fh (.bl _)
theorem xe_or {rest:List Expr}(ha:XE X cl E a fa)(hb:XE X cl E (.BoolOp .Or (b::rest) pos) fb):XE X cl E (.BoolOp .Or (a::b::rest) pos) (fOr fa fb):=by
 obtain⟨t,pt,rt⟩:=ha.ex
 obtain⟨u,pu,ru⟩:=hb.ex
 refine XE'.out ⟨_,pe_or pt pu,fun H0 F0 ρ σ H F Q R o=>rt H0 F0 ρ σ H F _ R (OutE.fst o fun d v H1 F1 g q o1=>?_)⟩
 obtain⟨b,rfl,o2⟩:=OutE.tru (F1:=F1) (H1:=H1) q o1
 refine⟨b,rfl,?_⟩
 cases b with
 | true=>exact o2.okI (R.grow g).fh (.bl _)
 | false=>exact ru H0 F0 ρ σ H1 F1 _ (R.grow g) o2
theorem xe_not (ha:XE X cl E a fa):XE X cl E (.UnaryOp .Not a pos) (fNot fa):=by
 obtain⟨t,pt,rt⟩:=ha.ex
 refine XE'.out ⟨_,pe_not pt,fun H0 F0 ρ σ H F Q R o=>rt H0 F0 ρ σ H F _ R (OutE.fst o fun d v H1 F1 g q o1=>?_)⟩
 obtain⟨b,rfl,o2⟩:=OutE.tru (F1:=F1) (H1:=H1) q o1
 exact⟨b,rfl,o2.okI (R.grow g).fh (.bl _)⟩
def mkT (ds:List D):Option D:=if ds.length≤1000000 then some (.tup ds) else none
def mkL (ds:List D):Option D:=if ds.length≤1000000 then some (.lst ds) else none
theorem sz6 {n:Nat}(h:n≤1000000):n≤sizeLine:=by rw[sizeLine_eq];omega
theorem xe_tup {es:List Expr}{x1}{fs:Rho→Rs (List D)}(h:XA X cl E es fs):XE X cl E (.Tuple es x1 pos) (fO mkT fs):=by
 obtain⟨t,pt,rt⟩:=h.ex
 refine XE'.out ⟨_,pe_tup pt,fun H0 F0 ρ σ H F Q R o=>rt H0 F0 ρ σ H F _ R (OutA.fst o fun ds vs H1 F1 g q o1=>?_)⟩
 unfold mkT at o1
 split at o1
 ·rename_i hl
  refine⟨sz6 (q.length▸hl),fun p hp=>?_⟩
  have fh:=(R.grow g).fh
  exact o1 _ _ _ (Gr.new fh hp) (.tup (.inl (.inl upd_same)) (q.mono (Same.upd (fh.free hp))))
 ·exact o1.elim
theorem xe_lst {es:List Expr}{fs:Rho→Rs (List D)}(h:XA X cl E es fs):XE X cl E (.List es pos) (fO mkL fs):=by
 obtain⟨t,pt,rt⟩:=h.ex
 refine XE'.out ⟨_,pe_lst pt,fun H0 F0 ρ σ H F Q R o=>rt H0 F0 ρ σ H F _ R (OutA.fst o fun ds vs H1 F1 g q o1=>?_)⟩
 unfold mkL at o1
 split at o1
 ·rename_i hl
  refine⟨sz6 (q.length▸hl),fun p hp=>?_⟩
  have fh:=(R.grow g).fh
  exact o1 _ _ _ (Gr.new fh hp) (.lst (.inl (.inl upd_same)) (q.mono (Same.upd (fh.free hp))))
 ·exact o1.elim
def spD (K:PySem.W.Frag)(cl:Nat→Addr)(fn:List D→Rs D)(n:Nat):Sp:=fun vs H Q E=>∃F ds,Same F H∧Dts K cl F vs ds∧vs.length=n∧OutE K cl E H F H (fn ds) Q
def ari (n:Nat)(fn:List D→Rs D):List D→Rs D:=fun ds=>if ds.length=n then fn ds else .no
theorem xe_call {k:Nat}{f:Addr}{fd:FuncData}{ps:List Str}{fn:List D→Rs D}{n:Nat}{x:Str}{p:Pos}{e:Expr}{es:List Expr}{fs:Rho→Rs (List D)}(G:FnOk X.prog X.w X.K X.mg X.base (CX1 X.prog X.w) k f fd ps (spD X.K cl fn n))(hr:Room k X.A)(hg:Gl X x)(hm:X.mg x=some (.ref f))(hk:PySem.W.keepIn X.K (.ref f)=true)(hb:Binds X.K fd ps [])(hx:Passes (CX1 X.prog X.w) X E)
  (ha:XA X cl E (e::es) fs) (he:starEach (e::es) X.env=(false,eval e X.env)::starEach es X.env) (hdb:(x == ("__debug__" : Str))=false:=by decide) (hpl:(backTo pos (starEach es X.env)).any (·.1)=false:=by rfl):XE X cl E (.Call (.Name x p) (e::es) [] pos) (fA (ari n fn) fs):=by
 obtain⟨t,pt,rt⟩:=ha.ex
 refine XE'.out ⟨_,pe_call G hr hg hm hk hb .nil hx pt hdb he hpl,fun H0 F0 ρ σ H F Q R o=>rt H0 F0 ρ σ H F _ R (OutA.fst o fun ds vs H1 F1 g q o1=>?_)⟩
 unfold ari at o1
 split at o1
 ·rename_i hl
  rw[List.append_nil]
  have R1:=R.grow g
  refine⟨F1,ds,R1.fh,q,by rw[q.length,hl],?_⟩
  cases e:fn ds with
  | ok d=>rw[e] at o1;exact o1
  | ex n=>rw[e] at o1;exact fun H' s=>o1 H' (R1.gr.hh.trans s)
  | no=>rw[e] at o1;exact o1
 ·exact o1.elim
end
end L2
namespace L2
open PySem PySem.Spec PyProof.Rows
def D.fl:D→Bool
 | .non=>true
 | .bl _=>true
 | .int _=>true
 | .str _=>true
 | _=>false
def addI:D→D→Option D
 | .int i,.int j=>some (.int (i+j))
 | _,_=>none
def subI:D→D→Option D
 | .int i,.int j=>some (.int (i - j))
 | _,_=>none
instance (i:Int):Decidable (Sm i):=inferInstanceAs (Decidable (i.natAbs<2 ^ 4000))
def mulI:D→D→Option D
 | .int i,.int j=>if Sm i∧Sm j then some (.int (i*j)) else none
 | _,_=>none
def modI:D→D→Option D
 | .int i,.int j=>if 0<j then some (.int (i % j)) else none
 | _,_=>none
def fdivI:D→D→Option D
 | .int i,.int j=>if 0<j∧Sm j then some (.int (i / j)) else none
 | _,_=>none
def addS:D→D→Option D
 | .str l,.str m=>if l.length+m.length≤1000000 then some (.str (l++m)) else none
 | _,_=>none
def addT:D→D→Option D
 | .tup l,.tup m=>if l.length+m.length≤1000000 then some (.tup (l++m)) else none
 | _,_=>none
def ltI:D→D→Option D
 | .int i,.int j=>some (.bl (decide (i<j)))
 | _,_=>none
def leI:D→D→Option D
 | .int i,.int j=>some (.bl (decide (i≤j)))
 | _,_=>none
def gtI:D→D→Option D
 | .int i,.int j=>some (.bl (decide (j<i)))
 | _,_=>none
def geI:D→D→Option D
 | .int i,.int j=>some (.bl (decide (j≤i)))
 | _,_=>none
def ltS:D→D→Option D
 | .str l,.str m=>some (.bl (decide (l<m)))
 | _,_=>none
def eqD (neg:Bool)(a b:D):Option D:=if a.pl=true∧b.pl=true∧a.py.depth≤60 then some (.bl (if neg then !PyData.eqv a.py b.py else PyData.eqv a.py b.py)) else none
def inC (neg:Bool):D→D→Option D
 | .str [c],.str l=>some (.bl (if neg then !decide (c∈l) else decide (c∈l)))
 | _,_=>none
def ixD:D→D→Option D
 | .lst ds,.int i=>atI ds i
 | .tup ds,.int i=>atI ds i
 | .str l,.int i=>(atI l i).map fun c=>.str [c]
 | _,_=>none
def cutL {α:Type}(xs:List α)(lo hi:Option Int):List α:=(xs.drop (HT.sIx xs.length 0 lo)).take (HT.sIx xs.length xs.length hi - HT.sIx xs.length 0 lo)
def slD:D→Option Int→Option Int→Option D
 | .lst ds,lo,hi=>some (.lst (cutL ds lo hi))
 | .tup ds,lo,hi=>some (.tup (cutL ds lo hi))
 | .str l,lo,hi=>some (.str (cutL l lo hi))
 | _,_,_=>none
section
variable {K:PySem.W.Frag}{cl:Nat→Addr}{F H:Hp}
def I2 (f:Int→Int→Option D):D→D→Option D
 | .int i,.int j=>f i j
 | _,_=>none
theorem I2_inv {f:Int→Int→Option D}{a b d:D}(e:I2 f a b=some d):∃i j,a=.int i∧b=.int j∧f i j=some d:=by
 cases a with
 | int i =>
  cases b with
  | int j=>exact⟨i,j,rfl,rfl,e⟩
  | _=>cases e
 | _=>cases e
def S2 (f:List Nat→List Nat→Option D):D→D→Option D
 | .str i,.str j=>f i j
 | _,_=>none
theorem S2_inv {f:List Nat→List Nat→Option D}{a b d:D}(e:S2 f a b=some d):∃i j,a=.str i∧b=.str j∧f i j=some d:=by
 cases a with
 | str i =>
  cases b with
  | str j=>exact⟨i,j,rfl,rfl,e⟩
  | _=>cases e
 | _=>cases e
theorem Dt.intE {v:V}{i:Int}(q:Dt K cl F v (.int i)):v=.int i:=by cases q;rfl
theorem Dt.strE {v:V}{l:List Nat}(q:Dt K cl F v (.str l)):v=.str (T l)∧TxtOk (T l):=by cases q with|str _ ok=>exact⟨rfl,ok⟩
theorem o_I0 {f:Int→Int→D}{r:Int→Int→V}(hf:∀{F:Hp} i j,Dt K cl F (r i j) (f i j)):Op2 K cl (rI0 r) (I2 fun i j=>some (f i j)):=fun F H x y a b d Q s qa qb e k=>by
 obtain⟨i,j,rfl,rfl,e1⟩:=I2_inv e
 obtain rfl:=qa.intE
 obtain rfl:=qb.intE
 obtain rfl:=Option.some.inj e1
 exact⟨_,_,rfl,rfl,k _ _ _ (Gr.refl s) (hf i j)⟩
theorem o_I1 {c:Int→Int→Prop} [∀i j,Decidable (c i j)]{f:Int→Int→Int}:Op2 K cl (rI c fun i j=>.int (f i j)) (I2 fun i j=>if c i j then some (.int (f i j)) else none):=fun F H x y a b d Q s qa qb e k=>by
 obtain⟨i,j,rfl,rfl,e1⟩:=I2_inv e
 obtain rfl:=qa.intE
 obtain rfl:=qb.intE
 by_cases h:c i j
 ·rw[if_pos h] at e1
  obtain rfl:=Option.some.inj e1
  exact⟨_,_,rfl,rfl,h,k _ _ _ (Gr.refl s) (.int _)⟩
 ·rw[if_neg h] at e1;cases e1
theorem o_addI:Op2 K cl (rI0 fun i j=>.int (i+j)) addI:=o_I0 fun _ _=>.int _
theorem o_subI:Op2 K cl (rI0 fun i j=>.int (i - j)) subI:=o_I0 fun _ _=>.int _
theorem o_mulI:Op2 K cl (rI (fun i j=>Sm i∧Sm j) fun i j=>.int (i*j)) mulI:=o_I1
theorem o_modI:Op2 K cl (rI (fun _ j=>0<j) fun i j=>.int (i % j)) modI:=o_I1
theorem o_fdivI:Op2 K cl (rI (fun _ j=>0<j∧Sm j) fun i j=>.int (i / j)) fdivI:=o_I1
theorem o_addS:Op2 K cl (fun x y H Q=>∃l m,x=.str (T l)∧y=.str (T m)∧l.length+m.length≤1000000∧Q (.str (T (l++m))) H) addS:=fun F H x y a b d Q s qa qb e k=>by
 obtain⟨l,m,rfl,rfl,e1⟩:=S2_inv (f:=fun l m=>if l.length+m.length≤1000000 then some (.str (l++m)) else none) e
 obtain⟨rfl,ok⟩:=qa.strE
 obtain⟨rfl,ok2⟩:=qb.strE
 split at e1
 ·rename_i h
  obtain rfl:=Option.some.inj e1
  refine⟨_,_,rfl,rfl,h,k _ _ _ (Gr.refl s) (.str _ ?_)⟩
  rw[← T_app]
  exact TxtOk.app ok ok2 (by rw[T_len,T_len];exact h)
 ·cases e1
theorem addT_inv {a b d:D}(e:addT a b=some d):∃l m,a=.tup l∧b=.tup m∧l.length+m.length≤1000000∧d=.tup (l++m):=by
 cases a with
 | tup l =>
  cases b with
  | tup m =>
   by_cases h:l.length+m.length≤1000000
   ·exact⟨l,m,rfl,rfl,h,(Option.some.inj ((if_pos h).symm.trans e)).symm⟩
   ·cases (if_neg h).symm.trans e
  | _=>cases e
 | _=>cases e
theorem o_addT:Op2 K cl (rCatU K) addT:=fun F H x y a b d Q s qa qb e k=>by
 obtain⟨l,m,rfl,rfl,h,rfl⟩:=addT_inv e
 cases qa with
 | tup qx dx =>
  cases qb with
  | tup qy dy =>
   refine⟨_,_,_,_,rfl,rfl,s.seqT qx,s.seqT qy,sz6 (by rw[dx.length,dy.length];exact h),fun p H' hs q=>?_⟩
   obtain⟨F',g,q'⟩:=Gr.tup s hs q (dx.append dy)
   exact k _ _ _ g q'
theorem o_ltI:Op2 K cl (rI0 fun i j=>.bl (decide (i<j))) ltI:=o_I0 fun _ _=>.bl _
theorem o_leI:Op2 K cl (rI0 fun i j=>.bl (decide (i≤j))) leI:=o_I0 fun _ _=>.bl _
theorem o_ltS:Op2 K cl (fun x y H Q=>∃i j,x=.str i∧y=.str j∧Q (.bl (decide (i.cps.toList<j.cps.toList))) H) ltS:=fun F H x y a b d Q s qa qb e k=>by
 obtain⟨l,m,rfl,rfl,e1⟩:=S2_inv (f:=fun l m=>some (.bl (decide (l<m)))) e
 obtain⟨rfl,ok⟩:=qa.strE
 obtain⟨rfl,ok2⟩:=qb.strE
 obtain rfl:=Option.some.inj e1
 refine⟨_,_,rfl,rfl,?_⟩
 rw[T_cps,T_cps]
 exact k _ _ _ (Gr.refl s) (.bl _)
theorem o_eq:Op2 K cl (rEqD K) (eqD false):=fun F H x y a b d Q s qa qb e k=>by
 unfold eqD at e
 split at e
 ·rename_i h
  obtain rfl:=Option.some.inj e
  exact⟨_,_,(qa.is h.1).mono s,(qb.is h.2.1).mono s,h.2.2,k _ _ _ (Gr.refl s) (.bl _)⟩
 ·cases e
theorem o_ne:Op2 K cl (rNeD K) (eqD true):=fun F H x y a b d Q s qa qb e k=>by
 unfold eqD at e
 split at e
 ·rename_i h
  obtain rfl:=Option.some.inj e
  exact⟨_,_,(qa.is h.1).mono s,(qb.is h.2.1).mono s,h.2.2,k _ _ _ (Gr.refl s) (.bl _)⟩
 ·cases e
theorem inC_inv {neg:Bool}{a b d:D}(e:inC neg a b=some d):∃c l,a=.str [c]∧b=.str l∧d=.bl (if neg then !decide (c∈l) else decide (c∈l)):=by
 cases a with
 | str l =>
  match l,e with
  | [c],e =>
   cases b with
   | str m=>exact⟨c,m,rfl,rfl,(Option.some.inj e).symm⟩
   | _=>cases e
 | _=>cases e
theorem o_inC:Op2 K cl rInC (inC false):=fun F H x y a b d Q s qa qb e k=>by
 obtain⟨c,l,rfl,rfl,rfl⟩:=inC_inv e
 obtain⟨rfl,_⟩:=qa.strE
 obtain⟨rfl,_⟩:=qb.strE
 exact⟨c,l,rfl,rfl,k _ _ _ (Gr.refl s) (.bl _)⟩
theorem Dts.at {vs:List V}{ds:List D}{i:Int}{d:D}(q:Dts K cl F vs ds)(e:atI ds i=some d):∃v,atI vs i=some v∧Dt K cl F v d:=by
 unfold atI at e ⊢
 rw[q.length]
 cases h:ixN ds.length i with
 | none=>rw[h] at e;cases e
 | some j =>
  rw[h] at e
  exact q.get' e
theorem txt_sub {l m:List Nat}(ok:TxtOk (T l))(h:∀c∈m,c∈l)(hl:m.length≤1000000):TxtOk (T m):=by
 refine T_ok (fun c hc=>?_) hl
 have a:(T l).cps.all (· < 0x110000)=true:=ok.1
 simp only[T,List.all_toArray,List.all_eq_true,decide_eq_true_eq] at a
 exact a c (h c hc)
theorem txt1 {l:List Nat}{c:Nat}(ok:TxtOk (T l))(h:c∈l):TxtOk (T [c]):=txt_sub ok (fun d hd=>by rw[List.mem_singleton.mp hd];exact h) (Nat.le_add_left 1 999999)
theorem ixD_int {a b d:D}(e:ixD a b=some d):∃i,b=.int i:=by
 cases b with
 | int i=>exact⟨i,rfl⟩
 | _=>cases a <;>cases e
theorem o_ix:Op2 K cl (rIx K) ixD:=fun F H x y a b d Q s qa qb e k=>by
 obtain⟨i,rfl⟩:=ixD_int e
 obtain rfl:=qb.intE
 ·cases qa with
  | lst sq dq =>
   obtain⟨v,h1,h2⟩:=dq.at e
   exact .inl ⟨_,_,_,_,rfl,rfl,s.seq sq,h1,k _ _ _ (Gr.refl s) h2⟩
  | tup sq dq =>
   obtain⟨v,h1,h2⟩:=dq.at e
   exact .inr (.inl ⟨_,_,_,_,rfl,rfl,s.seqT sq,h1,k _ _ _ (Gr.refl s) h2⟩)
  | str l ok =>
   have e':(atI l i).map (fun c=>D.str [c])=some d:=e
   cases h:atI l i with
   | none=>rw[h] at e';cases e'
   | some c =>
    rw[h] at e'
    obtain rfl:=Option.some.inj e'
    refine .inr (.inr ⟨T l,i,c,rfl,rfl,sz6 ok.2,by rw[T_cps];exact h,k _ _ _ (Gr.refl s) (.str [c] (txt1 ok ?_))⟩)
    unfold atI at h
    cases h2:ixN l.length i with
    | none=>rw[h2] at h;cases h
    | some j=>rw[h2] at h;exact List.mem_of_getElem? h
  | _=>cases e
end
end L2
namespace L2
open PySem PySem.Spec PyProof.Rows
def tDS (K:PySem.W.Frag)(cl:Nat→Addr)(E:XK)(g:Rho→Out):TS:=fun Dn σ H=>∃H0 F0 ρ F,Rl K cl H0 F0 ρ σ H F∧OutS K cl E H0 F0 F (g ρ) Dn
def XS (X:Cx)(cl:Nat→Addr)(E:XK)(st:Stmt)(g:Rho→Out):Prop:=PS X st (tDS X.K cl E g)
def XSs (X:Cx)(cl:Nat→Addr)(E:XK)(st:List Stmt)(g:Rho→Out):Prop:=PSs X st (tDS X.K cl E g)
def sNx:Rho→Out:=fun ρ=>.nx ρ
def sSeq (g h:Rho→Out):Rho→Out:=fun ρ=>match g ρ with | .nx ρ'=>h ρ'|o=>o
def sRet (f:Rho→Rs D):Rho→Out:=fun ρ=>match f ρ with | .ok d=>.rt d | .ex n=>.ex n | .no=>.no
def sDrop (f:Rho→Rs D):Rho→Out:=fun ρ=>match f ρ with | .ok _=>.nx ρ | .ex n=>.ex n | .no=>.no
def sSet (i:Nat)(f:Rho→Rs D):Rho→Out:=fun ρ=>match f ρ with | .ok d=>.nx (ρ.set i (.fz d)) | .ex n=>.ex n | .no=>.no
def sIf (ft:Rho→Rs Bool)(g h:Rho→Out):Rho→Out:=fun ρ=>match ft ρ with | .ok true=>g ρ | .ok false=>h ρ | .ex n=>.ex n | .no=>.no
def sSet2 (i j:Nat)(f:Rho→Rs D):Rho→Out:=fun ρ=>match f ρ with | .ok (.tup [a,b])=>.nx ((ρ.set i (.fz a)).set j (.fz b)) | .ok _=>.no | .ex n=>.ex n | .no=>.no
def sIce (i:Nat)(g:Rho→Out):Rho→Out:=fun ρ=>match ρ[i]? with|some (.ow ds)=>g (ρ.set i (.fz (.lst ds)))|_=>.no
def cutX (g:Rho→Out):Rho→Out:=fun ρ=>match g ρ with | .ex _=>.no|o=>o
def forD (i:Nat)(g:Rho→Out):List D→Rho→Out
 | [],ρ=>.nx ρ
 | d::ds,ρ=>match g (ρ.set i (.fz d)) with | .nx ρ'=>forD i g ds ρ' | .ct ρ'=>forD i g ds ρ' | .bk ρ'=>.nx ρ'|o=>o
def sFor (i:Nat)(fi:Rho→Rs (List D))(g:Rho→Out):Rho→Out:=fun ρ=>match fi ρ with | .ok ds=>forD i g ds ρ | .ex n=>.ex n | .no=>.no
def whD (ft:Rho→Rs Bool)(g:Rho→Out):Nat→Rho→Out
 | 0,_=>.no
 | n+1,ρ=>match ft ρ with
  | .ok true=>(match g ρ with | .nx ρ'=>whD ft g n ρ' | .ct ρ'=>whD ft g n ρ' | .bk ρ'=>.nx ρ'|o=>o)
  | .ok false=>.nx ρ
  | .ex n=>.ex n
  | .no=>.no
def sWh (n:Nat)(ft:Rho→Rs Bool)(g:Rho→Out):Rho→Out:=whD ft g n
def owL (ρ:Rho)(i:Nat):Option (List D):=match ρ[i]? with|some (.ow ds)=>some ds|_=>none
theorem owL_some {ρ:Rho}{i:Nat}{ds:List D}(h:owL ρ i=some ds):ρ[i]? = some (.ow ds):=by
 unfold owL at h
 split at h
 ·rename_i e;rw[e,Option.some.inj h]
 ·cases h
def sApp (i:Nat)(f:Rho→Rs D):Rho→Out:=fun ρ=>match owL ρ i with
 | some ds=>(match f ρ with | .ok d=>if ds.length<1000000 then .nx (ρ.set i (.ow (ds++[d]))) else .no | .ex n=>.ex n | .no=>.no)
 | none=>.no
section
variable {K:PySem.W.Frag}{cl:Nat→Addr}{E:XK}{H0 F0 F F1:Hp}
theorem OutS.grow {o:Out}{Dn:Ends}(h:OutS K cl E H0 F0 F o Dn)(s:Same F F1):OutS K cl E H0 F0 F1 o Dn:=by
 cases o with
 | nx ρ=>exact fun σ H F' R q=>h σ H F' R (s.trans q)
 | bk ρ=>exact fun σ H F' R q=>h σ H F' R (s.trans q)
 | ct ρ=>exact fun σ H F' R q=>h σ H F' R (s.trans q)
 | rt d=>exact h
 | ex n=>exact h
 | no=>exact h
end
section
variable {X:Cx}{cl:Nat→Addr}{E:XK}{st:Stmt}{rest:List Stmt}{g h:Rho→Out}{f:Rho→Rs D}{e:Expr}{pos:Pos}
def XS' (X:Cx)(cl:Nat→Addr)(E:XK)(st:Stmt)(g:Rho→Out):Prop:=∃t:TS,PS X st t∧∀(H0 F0:Hp) (ρ:Rho) (σ:St) (H F:Hp) (Dn:Ends),Rl X.K cl H0 F0 ρ σ H F→OutS X.K cl E H0 F0 F (g ρ) Dn→t Dn σ H
def XSs' (X:Cx)(cl:Nat→Addr)(E:XK)(st:List Stmt)(g:Rho→Out):Prop:=∃t:TS,PSs X st t∧∀(H0 F0:Hp) (ρ:Rho) (σ:St) (H F:Hp) (Dn:Ends),Rl X.K cl H0 F0 ρ σ H F→OutS X.K cl E H0 F0 F (g ρ) Dn→t Dn σ H
theorem XS.ex (h:XS X cl E st g):XS' X cl E st g:=⟨_,h,fun H0 F0 ρ σ H F Dn R o=>⟨H0,F0,ρ,F,R,o⟩⟩
theorem XSs.ex (h:XSs X cl E rest g):XSs' X cl E rest g:=⟨_,h,fun H0 F0 ρ σ H F Dn R o=>⟨H0,F0,ρ,F,R,o⟩⟩
theorem XS'.out (h:XS' X cl E st g):XS X cl E st g:=let ⟨_,pt,rt⟩:=h;fun pins s σ H Dn I ⟨H0,F0,ρ,F,R,o⟩=>pt pins s σ H Dn I (rt H0 F0 ρ σ H F Dn R o)
theorem XSs'.out (h:XSs' X cl E rest g):XSs X cl E rest g:=let ⟨_,pt,rt⟩:=h;fun pins s σ H Dn I ⟨H0,F0,ρ,F,R,o⟩=>pt pins s σ H Dn I (rt H0 F0 ρ σ H F Dn R o)
theorem xss_nil:XSs X cl E [] sNx:=XSs'.out ⟨_,pss_nil,fun H0 F0 ρ σ H F Dn R o=>o σ H F R (Same.refl _)⟩
theorem xss_one (h:XS X cl E st g):XSs X cl E [st] g:=let ⟨t,pt,rt⟩:=h.ex;XSs'.out ⟨t,pss_one pt,rt⟩
theorem xss_cons (h1:XS X cl E st g)(h2:XSs X cl E rest h):XSs X cl E (st::rest) (sSeq g h):=by
 obtain⟨t,pt,rt⟩:=h1.ex
 obtain⟨u,pu,ru⟩:=h2.ex
 refine XSs'.out ⟨_,pss_cons pt pu,fun H0 F0 ρ σ H F Dn R o=>rt H0 F0 ρ σ H F _ R ?_⟩
 unfold sSeq at o
 cases e:g ρ with
 | nx ρ'=>rw[e] at o;exact fun σ' H' F' R' s=>ru H0 F0 ρ' σ' H' F' Dn R' (o.grow s)
 | bk ρ'=>rw[e] at o;exact o
 | ct ρ'=>rw[e] at o;exact o
 | rt d=>rw[e] at o;exact o
 | ex n=>rw[e] at o;exact o
 | no=>rw[e] at o;exact o
theorem xs_ret (h:XE X cl E e f):XS X cl E (.Return (some e) pos) (sRet f):=by
 obtain⟨t,pt,rt⟩:=h.ex
 refine XS'.out ⟨_,ps_ret pt,fun H0 F0 ρ σ H F Dn R o=>rt H0 F0 ρ σ H F _ R ?_⟩
 unfold sRet at o
 cases e:f ρ with
 | ok d=>rw[e] at o;exact fun v H' F' gg q=>o v H' F' (R.gr.trans gg) q
 | ex n=>rw[e] at o;exact o
 | no=>rw[e] at o;exact o
theorem xs_expr (h:XE X cl E e f)(hs:swapsWith e none pos.line X.env=pure false:=by rfl):XS X cl E (.Expr e pos) (sDrop f):=by
 obtain⟨t,pt,rt⟩:=h.ex
 refine XS'.out ⟨_,ps_expr pt hs,fun H0 F0 ρ σ H F Dn R o=>rt H0 F0 ρ σ H F _ R ?_⟩
 unfold sDrop at o
 cases e:f ρ with
 | ok d=>rw[e] at o;exact fun v H' F' gg q=>o σ H' F' (R.grow gg) gg.ff
 | ex n=>rw[e] at o;exact o
 | no=>rw[e] at o;exact o
theorem xs_set {i:Nat}{x:Str}{pos':Pos}(hN:X.N.Nodup)(hi:X.N[i]? = some x)(hx:Loc X.env.scope x)(he:XE X cl E e f)(hs:swapsWith e (some (.Name x pos')) pos.line X.env=pure false:=by rfl)(hf:X.fn x=true∨X.env.scope.names.lookup x=some .local:=by first|exact .inl rfl|exact .inr rfl|assumption) :
  XS X cl E (.Assign [.Name x pos'] e pos) (sSet i f):=by
 obtain⟨t,pt,rt⟩:=he.ex
 refine XS'.out ⟨_,ps_set hN hi hx pt hs hf,fun H0 F0 ρ σ H F Dn R o=>rt H0 F0 ρ σ H F _ R ?_⟩
 unfold sSet at o
 cases e:f ρ with
 | ok d=>rw[e] at o;exact fun v H' F' gg q=>o _ H' F' ((R.grow gg).set q) gg.ff
 | ex n=>rw[e] at o;exact o
 | no=>rw[e] at o;exact o
theorem xs_if {c:Expr}{a b:List Stmt}{ft:Rho→Rs Bool}(hc:XT X cl E c ft)(ha:XSs X cl E a g)(hb:XSs X cl E b h):XS X cl E (.If c a b pos) (sIf ft g h):=by
 obtain⟨t,pt,rt⟩:=hc.ex
 obtain⟨u,pu,ru⟩:=ha.ex
 obtain⟨w,pw,rw'⟩:=hb.ex
 refine XS'.out ⟨_,ps_if pt pu pw,fun H0 F0 ρ σ H F Dn R o=>rt H0 F0 ρ σ H F _ R ?_⟩
 unfold sIf at o
 cases e:ft ρ with
 | ok b =>
  rw[e] at o
  intro H' F' gg
  cases b with
  | true=>exact ru H0 F0 ρ σ H' F' Dn (R.grow gg) (o.grow gg.ff)
  | false=>exact rw' H0 F0 ρ σ H' F' Dn (R.grow gg) (o.grow gg.ff)
 | ex n=>rw[e] at o;exact o
 | no=>rw[e] at o;exact o
theorem xs_nox (h:XS X.nox cl E0 st g):XS X cl E st (cutX g):=by
 obtain⟨t,pt,rt⟩:=h.ex
 refine XS'.out ⟨_,pt.nox,fun H0 F0 ρ σ H F Dn R o=>rt H0 F0 ρ σ H F _ R ?_⟩
 unfold cutX at o
 cases e:g ρ with
 | nx ρ'=>rw[e] at o;exact o
 | bk ρ'=>rw[e] at o;exact o
 | ct ρ'=>rw[e] at o;exact o
 | rt d=>rw[e] at o;exact o
 | ex n=>rw[e] at o;exact o.elim
 | no=>rw[e] at o;exact o
theorem xs_ice {i:Nat}(h:XS X cl E st g):XS X cl E st (sIce i g):=by
 obtain⟨t,pt,rt⟩:=h.ex
 refine XS'.out ⟨_,pt,fun H0 F0 ρ σ H F Dn R o=>?_⟩
 unfold sIce at o
 split at o
 ·rename_i ds e
  obtain⟨F',s,R'⟩:=R.ice e
  exact rt H0 F0 _ σ H F' Dn R' (o.grow s)
 ·exact o.elim
theorem xs_while {c:Expr}{body:List Stmt}{ft:Rho→Rs Bool}(n:Nat)(hp:PassesOwn (model X.prog X.w) X.A X.env X.xe)(hc:XT X cl E c ft)(hb:XSs X cl E body g):XS X cl E (.While c body [] pos) (sWh n ft g):=by
 obtain⟨t,pt,rt⟩:=hc.ex
 obtain⟨u,pu,ru⟩:=hb.ex
 refine XS'.out ⟨_,ps_while hp pt pu,fun H0 F0 ρ σ H F Dn R o=>?_⟩
 refine⟨fun m σ H=>∃ρ F',Rl X.K cl H0 F0 ρ σ H F'∧OutS X.K cl E H0 F0 F' (whD ft g m ρ) Dn,⟨n,ρ,F,R,o⟩,?_⟩
 rintro m σ1 H1 ⟨ρ1,F1,R1,o1⟩
 cases m with
 | zero=>exact o1.elim
 | succ m =>
  refine rt H0 F0 ρ1 σ1 H1 F1 _ R1 ?_
  unfold whD at o1
  cases e:ft ρ1 with
  | ok b =>
   rw[e] at o1
   intro H2 F2 gg
   have R2:=R1.grow gg
   cases b with
   | false=>exact o1 σ1 H2 F2 R2 gg.ff
   | true =>
    refine⟨fun σ H=>∃ρ F',Rl X.K cl H0 F0 ρ σ H F'∧OutS X.K cl E H0 F0 F' (whD ft g m ρ) Dn,fun σ' H' p=>⟨m,Nat.lt_succ_self _,p⟩,ru H0 F0 ρ1 σ1 H2 F2 _ R2 ?_⟩
    have o2:=o1.grow gg.ff
    cases e2:g ρ1 with
    | nx ρ'=>simp only[e2] at o2;exact fun σ' H' F' R' s=>⟨ρ',F',R',o2.grow s⟩
    | ct ρ'=>simp only[e2] at o2;exact fun σ' H' F' R' s=>⟨ρ',F',R',o2.grow s⟩
    | bk ρ'=>simp only[e2] at o2;exact o2
    | rt d=>simp only[e2] at o2;exact o2
    | ex n=>simp only[e2] at o2;exact o2
    | no=>simp only[e2] at o2;exact o2
  | ex n=>rw[e] at o1;exact o1
  | no=>rw[e] at o1;exact o1
def OutI (K:PySem.W.Frag)(cl:Nat→Addr)(E:XK)(H0 F H:Hp)(r:Rs (List D))(Q:It→Hp→Prop):Prop :=
 match r with
 | .ok ds=>∀J G vs H' F',Gr F H F' H'→Wlk J G vs→(∀H'',Same F' H''→G H'')→Dts K cl F' vs ds→Q J H'
 | .ex n=>∀H',Same H0 H'→E (.ref (cl n)) none H'
 | .no=>False
def tDI (K:PySem.W.Frag)(cl:Nat→Addr)(E:XK)(f:Rho→Rs (List D)):TI:=fun σ H Q=>∃H0 F0 ρ F,Rl K cl H0 F0 ρ σ H F∧OutI K cl E H0 F H (f ρ) Q
def XI (X:Cx)(cl:Nat→Addr)(E:XK)(tg e:Expr)(f:Rho→Rs (List D)):Prop:=PI X tg e (tDI X.K cl E f)
theorem XI.mk {tg:Expr}{fi:Rho→Rs (List D)}{t:TI}(pt:PI X tg e t)(rt:∀(H0 F0:Hp) (ρ:Rho) (σ:St) (H F:Hp) (Q:It→Hp→Prop),Rl X.K cl H0 F0 ρ σ H F→OutI X.K cl E H0 F H (fi ρ) Q→t σ H Q):XI X cl E tg e fi :=
 fun pins s σ H Q I ⟨H0,F0,ρ,F,R,o⟩=>pt pins s σ H Q I (rt H0 F0 ρ σ H F Q R o)
def lsD:D→Option (List D)
 | .lst ds=>some ds
 | _=>none
def tpD:D→Option (List D)
 | .tup ds=>some ds
 | _=>none
def sgD:D→Option (List D)
 | .str l=>some (l.map fun c=>.str [c])
 | _=>none
def fI (g:D→Option (List D))(f:Rho→Rs D):Rho→Rs (List D):=fun ρ=>(f ρ).bind fun d=>match g d with|some ds=>.ok ds|none=>.no
theorem OutI.fst {K:PySem.W.Frag}{H0 F H:Hp}{r:Rs D}{k:D→Rs (List D)}{Q:It→Hp→Prop}{P:VK}(h:OutI K cl E H0 F H (r.bind k) Q)(z:∀d v H1 F1,Gr F H F1 H1→Dt K cl F1 v d→OutI K cl E H0 F1 H1 (k d) Q→P v H1):OutE K cl E H0 F H r P:=by
 cases r with
 | ok d =>
  refine fun v H' F' g' q=>z d v H' F' g' q ?_
  have h':OutI K cl E H0 F H (k d) Q:=h
  cases e:k d with
  | ok ds=>rw[e] at h';exact fun J G vs H2 F2 g2=>h' J G vs H2 F2 (g'.trans g2)
  | ex n=>rw[e] at h';exact h'
  | no=>rw[e] at h';exact h'
 | ex n=>exact h
 | no=>exact h
theorem xi_list {tg:Expr}(h:XE X cl E e f):XI X cl E tg e (fI lsD f):=by
 obtain⟨t,pt,rt⟩:=h.ex
 refine XI.mk (pi_list pt) fun H0 F0 ρ σ H F Q R o=>rt H0 F0 ρ σ H F _ R (OutI.fst o fun d v H1 F1 g q o1=>?_)
 cases q with
 | lst sq dq =>
  have fh:=(R.grow g).fh
  exact⟨_,rfl,⟨_,fh.seq sq⟩,o1 _ _ _ H1 F1 (Gr.refl fh) wlk_list (fun H'' s=>s.seq sq) dq⟩
 | _=>exact o1.elim
theorem xi_tup {tg:Expr}(h:XE X cl E e f):XI X cl E tg e (fI tpD f):=by
 obtain⟨t,pt,rt⟩:=h.ex
 refine XI.mk (pi_tup pt) fun H0 F0 ρ σ H F Q R o=>rt H0 F0 ρ σ H F _ R (OutI.fst o fun d v H1 F1 g q o1=>?_)
 cases q with
 | tup sq dq =>
  have fh:=(R.grow g).fh
  exact⟨_,rfl,⟨_,fh.seqT sq⟩,o1 _ _ _ H1 F1 (Gr.refl fh) wlk_tup (fun H'' s=>s.seqT sq) dq⟩
 | _=>exact o1.elim
theorem dts_signs {K:PySem.W.Frag}{F:Hp}:∀{l:List Nat},(∀c∈l,TxtOk (T [c]))→Dts K cl F (l.map fun c=>V.str (T [c])) (l.map fun c=>D.str [c])
 | [],_=>.nil
 | c::l,h=>.cons (.str [c] (h c (.head _))) (dts_signs fun d hd=>h d (.tail _ hd))
theorem xi_str {tg:Expr}(h:XE X cl E e f):XI X cl E tg e (fI sgD f):=by
 obtain⟨t,pt,rt⟩:=h.ex
 refine XI.mk (pi_str pt) fun H0 F0 ρ σ H F Q R o=>rt H0 F0 ρ σ H F _ R (OutI.fst o fun d v H1 F1 g q o1=>?_)
 cases q with
 | str l ok =>
  have fh:=(R.grow g).fh
  have w:=wlk_str (x:=T l) (G:=fun _=>True)
  rw[T_cps] at w
  exact⟨_,rfl,o1 _ _ _ H1 F1 (Gr.refl fh) w (fun _ _=>trivial) (dts_signs fun c hc=>txt1 ok hc)⟩
 | _=>exact o1.elim
def rng1:List D→Option (List D)
 | [.int j]=>if -(2 ^ 62)≤j∧j<2 ^ 62 then some ((List.range j.toNat).map fun(k:Nat)=>.int (k:Int)) else none
 | _=>none
def rng2:List D→Option (List D)
 | [.int i,.int j]=>if -(2 ^ 62)≤i∧i<2 ^ 62∧-(2 ^ 62)≤j∧j<2 ^ 62 then some ((List.range (j - i).toNat).map fun(k:Nat)=>.int (i+(k:Int))) else none
 | _=>none
def fR (g:List D→Option (List D))(fs:Rho→Rs (List D)):Rho→Rs (List D):=fun ρ=>(fs ρ).bind fun ds=>match g ds with|some es=>.ok es|none=>.no
theorem OutI.fstA {K:PySem.W.Frag}{H0 F H:Hp}{r:Rs (List D)}{k:List D→Rs (List D)}{Q:It→Hp→Prop}{P:List V→Hp→Prop}(h:OutI K cl E H0 F H (r.bind k) Q)(z:∀d v H1 F1,Gr F H F1 H1→Dts K cl F1 v d→OutI K cl E H0 F1 H1 (k d) Q→P v H1):OutA K cl E H0 F H r P:=by
 cases r with
 | ok d =>
  refine fun v H' F' g' q=>z d v H' F' g' q ?_
  have h':OutI K cl E H0 F H (k d) Q:=h
  cases e:k d with
  | ok ds=>rw[e] at h';exact fun J G vs H2 F2 g2=>h' J G vs H2 F2 (g'.trans g2)
  | ex n=>rw[e] at h';exact h'
  | no=>rw[e] at h';exact h'
 | ex n=>exact h
 | no=>exact h
theorem dts_map {K:PySem.W.Frag}{F:Hp}{α:Type}{v:α→V}{d:α→D}:∀{l:List α},(∀x∈l,Dt K cl F (v x) (d x))→Dts K cl F (l.map v) (l.map d)
 | [],_=>.nil
 | c::l,h=>.cons (h c (.head _)) (dts_map fun d hd=>h d (.tail _ hd))
theorem Dts.one {K:PySem.W.Frag}{F:Hp}{vs:List V}{d:D}(q:Dts K cl F vs [d]):∃v,vs=[v]∧Dt K cl F v d:=by
 cases q with
 | cons q r=>cases r;exact⟨_,rfl,q⟩
theorem Dts.two {K:PySem.W.Frag}{F:Hp}{vs:List V}{d e:D}(q:Dts K cl F vs [d,e]):∃v w,vs=[v,w]∧Dt K cl F v d∧Dt K cl F w e:=by
 cases q with
 | cons q r=>obtain⟨w,rfl,q2⟩:=r.one;exact⟨_,_,rfl,q,q2⟩
theorem xi_range1 {tg a:Expr}{p:Pos}{fs:Rho→Rs (List D)}(hg:Gl X "range")(hm:X.mg "range" = none)(ha:XA X cl E [a] fs)(hs:starEach [a] X.env=[(false,eval a X.env)]):XI X cl E tg (.Call (.Name "range" p) [a] [] pos) (fR rng1 fs):=by
 obtain⟨t,pt,rt⟩:=ha.ex
 refine XI.mk (pi_range1 hg hm pt hs) fun H0 F0 ρ σ H F Q R o=>rt H0 F0 ρ σ H F _ R (OutI.fstA o fun d v H1 F1 g q o1=>?_)
 match d,q,o1 with
 | [.int j],q,o1 =>
  obtain⟨v',rfl,q1⟩:=q.one
  cases q1
  dsimp only [rng1] at o1
  by_cases h:-(2 ^ 62)≤j∧j<2 ^ 62
  ·rw[if_pos h] at o1
   refine⟨j,rfl,h.1,h.2,o1 _ (fun _=>True) _ H1 F1 (Gr.refl (R.grow g).fh) wlk_range (fun _ _=>trivial) (dts_map fun k _=>?_)⟩
   rw[Int.zero_add];exact .int _
  ·rw[if_neg h] at o1;exact o1.elim
theorem xi_range2 {tg a b:Expr}{p:Pos}{fs:Rho→Rs (List D)}(hg:Gl X "range")(hm:X.mg "range" = none)(ha:XA X cl E [a,b] fs)(hs:starEach [a,b] X.env=[(false,eval a X.env),(false,eval b X.env)])(hs2:starEach [b] X.env=[(false,eval b X.env)]):XI X cl E tg (.Call (.Name "range" p) [a,b] [] pos) (fR rng2 fs):=by
 obtain⟨t,pt,rt⟩:=ha.ex
 refine XI.mk (pi_range2 hg hm pt hs hs2) fun H0 F0 ρ σ H F Q R o=>rt H0 F0 ρ σ H F _ R (OutI.fstA o fun d v H1 F1 g q o1=>?_)
 match d,q,o1 with
 | [.int i,.int j],q,o1 =>
  obtain⟨v,w,rfl,q1,q2⟩:=q.two
  cases q1;cases q2
  dsimp only [rng2] at o1
  by_cases h:-(2 ^ 62)≤i∧i<2 ^ 62∧-(2 ^ 62)≤j∧j<2 ^ 62
  ·rw[if_pos h] at o1
   exact⟨i,j,rfl,h,o1 _ (fun _=>True) _ H1 F1 (Gr.refl (R.grow g).fh) wlk_range (fun _ _=>trivial) (dts_map fun k _=>.int _)⟩
  ·rw[if_neg h] at o1;exact o1.elim
theorem xs_for {tg iter:Expr}{body:List Stmt}{fi:Rho→Rs (List D)}{i:Nat}(hp:PassesOwn (model X.prog X.w) X.A X.env X.xe)(hc:X.calm=true)(hi:XI X cl E tg iter fi)(hg:PG X tg (gName i))(hb:XSs X cl E body g)(hs:∀x,foldedSetIterable iter X.env x=pure x:=by intro _;rfl):XS X cl E (.For tg iter body [] pos) (sFor i fi g):=by
 obtain⟨u,pu,ru⟩:=hb.ex
 refine XS'.out ⟨_,ps_for hp hc hi hg pu hs,fun H0 F0 ρ σ H F Dn R o=>⟨H0,F0,ρ,F,R,?_⟩⟩
 unfold sFor at o
 cases e:fi ρ with
 | ok ds =>
  rw[e] at o
  intro J G vs H1 F1 gg W hG dq
  refine for_wlk W (fun k σ H=>∃ρ' F',Rl X.K cl H0 F0 ρ' σ H F'∧Same F1 F'∧OutS X.K cl E H0 F0 F' (forD i g (ds.drop k) ρ') Dn) ⟨ρ,F1,R.grow gg,Same.refl _,o.grow gg.ff⟩ (fun k σ' H' _ ⟨ρ',F',R',s',_⟩=>hG H' (s'.trans R'.fh)) ?_ ?_
  ·rintro k x σ' H' hx ⟨ρ',F',R',s',o'⟩
   obtain⟨d,hd,qd⟩:=dq.get hx
   have hdr:ds.drop k=d::ds.drop (k+1):=by
    obtain⟨hk,e2⟩:=List.getElem?_eq_some_iff.mp hd
    rw[List.drop_eq_getElem_cons hk,e2]
   rw[hdr] at o'
   unfold forD at o'
   refine ru H0 F0 _ _ H' F' _ (R'.set (qd.mono s')) ?_
   cases e2:g (ρ'.set i (.fz d)) with
   | nx ρ2=>simp only[e2] at o';exact fun σ2 H2 F2 R2 s2=>⟨ρ2,F2,R2,s'.trans s2,o'.grow s2⟩
   | ct ρ2=>simp only[e2] at o';exact fun σ2 H2 F2 R2 s2=>⟨ρ2,F2,R2,s'.trans s2,o'.grow s2⟩
   | bk ρ2=>simp only[e2] at o';exact o'
   | rt d=>simp only[e2] at o';exact o'
   | ex n=>simp only[e2] at o';exact o'
   | no=>simp only[e2] at o';exact o'
  ·rintro σ' H' ⟨ρ',F',R',s',o'⟩
   rw[List.drop_of_length_le (by rw[dq.length];exact Nat.le_refl _)] at o'
   exact o' σ' H' F' R' (Same.refl _)
 | ex n=>rw[e] at o;exact o
 | no=>rw[e] at o;exact o
end
end L2
namespace L2
open PySem PySem.Spec PyProof.Rows
def capR (n:Nat)(caps:List Nat)(ρ:Rho):Rho:=List.replicate n .no++caps.map fun i=>match ρ[i]? with|some (.fz d)=>.fz d|_=>.no
def bTrue:Rho→Rs Bool:=fun _=>.ok true
def compD (ft:Rho→Rs Bool)(fe:Rho→Rs D)(ρ0:Rho):List D→Rs (List D)
 | []=>.ok []
 | d::ds=>match ft (ρ0.set 0 (.fz d)) with
  | .ok true=>(match fe (ρ0.set 0 (.fz d)) with | .ok e=>(compD ft fe ρ0 ds).bind fun es=>.ok (e::es)|_=>.no)
  | .ok false=>compD ft fe ρ0 ds
  | _=>.no
def fCp (fi:Rho→Rs (List D))(ft:Rho→Rs Bool)(fe:Rho→Rs D)(caps:List Nat):Rho→Rs (List D):=fun ρ=>(fi ρ).bind fun ds=>if ds.length≤1000000 then compD ft fe (capR 1 caps ρ) ds else .no
def fComp (fi:Rho→Rs (List D))(ft:Rho→Rs Bool)(fe:Rho→Rs D)(caps:List Nat):Rho→Rs D:=fun ρ=>(fCp fi ft fe caps ρ).bind fun es=>.ok (.lst es)
def XTs (X:Cx)(cl:Nat→Addr)(E:XK)(ifs:List Expr)(f:Rho→Rs Bool):Prop:=PTs X ifs (tDB X.K cl E f)
section
variable {X:Cx}{cl:Nat→Addr}{E:XK}
theorem xts_nil:XTs X cl E [] bTrue:=fun pins s σ H Q I ⟨H0,F0,ρ,F,R,o⟩=>wpAny_tests_nil ⟨H,I,o H F (Gr.refl R.fh)⟩
theorem xts_one {c:Expr}{f:Rho→Rs Bool}(h:XT X cl E c f):XTs X cl E [c] f:=fun pins s σ H Q I hq=>wpAny_tests_one (h pins s σ H Q I hq)
theorem compD_noex {ft:Rho→Rs Bool}{fe:Rho→Rs D}{ρ0:Rho}:∀{ds:List D}{n:Nat},compD ft fe ρ0 ds≠.ex n
 | [],n=>fun h=>by cases h
 | d :: ds,n=>fun h=>by
  unfold compD at h
  split at h
  ·split at h
   ·cases e:compD ft fe ρ0 ds with
    | ok es=>rw[e] at h;cases h
    | ex m=>exact compD_noex e
    | no=>rw[e] at h;cases h
   ·cases h
  ·exact compD_noex h
  ·cases h
theorem Rl.cap {K:PySem.W.Frag}{H0 F0 H F:Hp}{ρ:Rho}{σ:St}(R:Rl K cl H0 F0 ρ σ H F)(own:List Str)(caps:List Nat):Rl K cl H F (capR own.length caps ρ) (capS own caps σ) H F where
 gr:=Gr.refl R.fh
 len:=by simp[capR,capS]
 fz := fun i d e=>by
  unfold capR at e
  unfold capS
  rcases Nat.lt_or_ge i own.length with h|h
  ·rw[List.getElem?_append_left (by simpa using h),List.getElem?_replicate,if_pos h] at e
   cases e
  ·rw [List.getElem?_append_right (by simpa using h),List.length_replicate,List.getElem?_map] at e
   rw[List.getElem?_append_right (by simpa using h),List.length_map,List.getElem?_map]
   cases c:caps[i - own.length]? with
   | none=>rw[c] at e;cases e
   | some k =>
    rw[c] at e
    have e':=Option.some.inj e
    dsimp only at e'
    split at e'
    ·rename_i d' z
     injection e' with e'
     subst e'
     obtain⟨v,h1,h2⟩:=R.fz k _ z
     exact⟨v,by show some ((σ[k]?).getD none)=some (some v);rw[h1];rfl,h2⟩
    ·cases e'
 ow := fun i d e=>by
  unfold capR at e
  rcases Nat.lt_or_ge i own.length with h|h
  ·rw[List.getElem?_append_left (by simpa using h),List.getElem?_replicate,if_pos h] at e
   cases e
  ·rw [List.getElem?_append_right (by simpa using h),List.length_replicate,List.getElem?_map] at e
   cases c:caps[i - own.length]? with
   | none=>rw[c] at e;cases e
   | some k =>
    rw[c] at e
    have e':=Option.some.inj e
    dsimp only at e'
    split at e' <;>cases e'
 od := fun i d e=>by
  unfold capR at e
  rcases Nat.lt_or_ge i own.length with h|h
  ·rw[List.getElem?_append_left (by simpa using h),List.getElem?_replicate,if_pos h] at e
   cases e
  ·rw [List.getElem?_append_right (by simpa using h),List.length_replicate,List.getElem?_map] at e
   cases c:caps[i - own.length]? with
   | none=>rw[c] at e;cases e
   | some k =>
    rw[c] at e
    have e':=Option.some.inj e
    dsimp only at e'
    split at e' <;>cases e'
 ap := fun i j s t a z1 z2 o1 o2 e1 e2=>by
  exfalso
  unfold capR at z1
  rcases Nat.lt_or_ge i own.length with h|h
  ·rw[List.getElem?_append_left (by simpa using h),List.getElem?_replicate,if_pos h] at z1
   injection z1 with z1;subst z1;cases o1
  ·rw [List.getElem?_append_right (by simpa using h),List.length_replicate,List.getElem?_map] at z1
   cases c:caps[i - own.length]? with
   | none=>rw[c] at z1;cases z1
   | some k =>
    rw[c] at z1
    have e':=Option.some.inj z1
    dsimp only at e'
    split at e' <;>(subst e';cases o1)
theorem turnsD {K:PySem.W.Frag}{H0 F0 H F:Hp}{ρ:Rho}{σ:St}{x:Str}{caps:List Nat}{ft:Rho→Rs Bool}{fe:Rho→Rs D}{ds es:List D}{J:It}{G:Hp→Prop}{vs:List V}{Fn:List V→Hp→Prop}(R:Rl K cl H0 F0 ρ σ H F)(W:Wlk J G vs)(hG:∀H'',Same F H''→G H'')(dq:Dts K cl F vs ds)(hl:ds.length≤1000000)
  (hc:compD ft fe (capR 1 caps ρ) ds=.ok es) (k:∀ys H' F',Gr F H F' H'→Dts K cl F' ys es→Fn ys H'):tTurns (gName 0) (tDB K cl E0 ft) (tDE K cl E0 fe) (capS [x] caps σ) Fn J H:=by
 have hz:vs.length≤sizeLine:=sz6 (dq.length▸hl)
 refine turns_wlk W hz (fun i ys H'=>∃F' es1 es2,Gr F H F' H'∧Dts K cl F' ys es1∧ys.length≤i∧es=es1++es2∧compD ft fe (capR 1 caps ρ) (ds.drop i)=.ok es2) ⟨F,[],es,Gr.refl R.fh,.nil,Nat.le_refl _,rfl,hc⟩ (fun i ys H' _ ⟨F',_,_,g,_,h1,_⟩=>⟨hG H' (g.ff.trans g.fh),h1⟩) ?_ ?_
 ·rintro i v ys H' hv ⟨F',es1,es2,g,q1,hly,rfl,hc'⟩
  obtain⟨d,hd,qd⟩:=dq.get hv
  have hdr:ds.drop i=d::ds.drop (i+1):=by
   obtain⟨hk,e2⟩:=List.getElem?_eq_some_iff.mp hd
   rw[List.drop_eq_getElem_cons hk,e2]
  rw[hdr] at hc'
  unfold compD at hc'
  have R1:=(R.grow g).cap [x] caps
  have R2:Rl K cl H' F' ((capR 1 caps ρ).set 0 (.fz d)) ((capS [x] caps σ).set 0 (some v)) H' F':=R1.set (qd.mono g.ff)
  refine⟨Kps.set rfl,H',F',_,F',R2,?_⟩
  cases e1:ft ((capR 1 caps ρ).set 0 (.fz d)) with
  | ok b =>
   rw[e1] at hc'
   intro H2 F2 g2
   cases b with
   | true =>
    rw[if_pos rfl]
    cases e2:fe ((capR 1 caps ρ).set 0 (.fz d)) with
    | ok e =>
     simp only[e2] at hc'
     refine⟨H',F',_,F2,R2.grow g2,?_⟩
     rw[e2]
     intro y H3 F3 g3 qy
     cases e3:compD ft fe (capR 1 caps ρ) (ds.drop (i+1)) with
     | ok es3 =>
      rw[e3] at hc'
      injection hc' with hc'
      exact⟨F3,es1++[e],es3,g.trans (g2.trans g3),(q1.mono (g2.ff.trans g3.ff)).append (.cons qy .nil),by simp;exact hly,by rw[← hc',List.append_assoc];rfl,rfl⟩
     | ex n=>rw[e3] at hc';cases hc'
     | no=>rw[e3] at hc';cases hc'
    | ex n=>simp only[e2] at hc';cases hc'
    | no=>simp only[e2] at hc';cases hc'
   | false =>
    rw[if_neg Bool.false_ne_true]
    exact⟨F2,es1,es2,g.trans g2,q1.mono g2.ff,Nat.le_succ_of_le hly,rfl,hc'⟩
  | ex n=>rw[e1] at hc';cases hc'
  | no=>rw[e1] at hc';cases hc'
 ·rintro ys H' ⟨F',es1,es2,g,q1,hly,rfl,hc'⟩
  rw[List.drop_of_length_le (by rw[dq.length];exact Nat.le_refl _)] at hc'
  injection hc' with hc'
  rw[← hc',List.append_nil] at k
  exact k ys H' F' g q1
variable {scope:Scope}{x:Str}{caps:List Nat}{elt tg iter:Expr}{ifs:List Expr}{fi:Rho→Rs (List D)}{ft:Rho→Rs Bool}{fe:Rho→Rs D}{pos:Pos}
structure CompD (X:Cx)(cl:Nat→Addr)(scope:Scope)(x:Str)(caps:List Nat)(tg:Expr)(ifs:List Expr)(elt:Expr)(ft:Rho→Rs Bool)(fe:Rho→Rs D):Prop where
 tgt:∀pins C ex s H,PG (cxC X pins scope [x] caps C ex s H) tg (gName 0)
 tst:∀pins C ex s H,XTs (cxC X pins scope [x] caps C ex s H) cl E0 ifs ft
 elm:∀pins C ex s H,XE (cxC X pins scope [x] caps C ex s H) cl E0 elt fe
theorem CompD.ci (h:CompD X cl scope x caps tg ifs elt ft fe):CompIn X scope [x] caps tg ifs elt (gName 0) (tDB X.K cl E0 ft) (tDE X.K cl E0 fe):=⟨h.tgt,h.tst,h.elm⟩
theorem OutI.comp {K:PySem.W.Frag}{H0 F0 H F:Hp}{ρ:Rho}{σ:St}{P:List V→Hp→Prop}(R:Rl K cl H0 F0 ρ σ H F)(o:OutA K cl E H0 F H (fCp fi ft fe caps ρ) P):OutI K cl E H0 F H (fi ρ) fun J H1=>tTurns (gName 0) (tDB K cl E0 ft) (tDE K cl E0 fe) (capS [x] caps σ) P J H1:=by
 unfold fCp at o
 cases e:fi ρ with
 | ok ds =>
  rw[e] at o
  have o1:OutA K cl E H0 F H (if ds.length≤1000000 then compD ft fe (capR 1 caps ρ) ds else .no) P:=o
  intro J G vs H1 F1 g W hG dq
  split at o1
  ·rename_i hl
   cases e2:compD ft fe (capR 1 caps ρ) ds with
   | ok es=>rw[e2] at o1;exact turnsD (R.grow g) W hG dq hl e2 fun ys H' F' g' q=>o1 ys H' F' (g.trans g') q
   | ex n=>exact absurd e2 compD_noex
   | no=>rw[e2] at o1;exact o1.elim
  ·exact o1.elim
 | ex n=>rw[e] at o;exact o
 | no=>rw[e] at o;exact o
theorem xe_comp (ok:CompOk X scope caps)(hc:X.calm=true)(hi:XI X cl E tg iter fi)(CI:CompD X cl scope x caps tg ifs elt ft fe)(hs:∀x,foldedSetIterable iter X.env x=pure x:=by intro _;rfl):XE X cl E (.ListComp elt [⟨tg,iter,ifs,0⟩] scope pos) (fComp fi ft fe caps):=by
 refine XE'.out ⟨_,pe_comp ok hc hi CI.ci hs,fun H0 F0 ρ σ H F Q R o=>⟨H0,F0,ρ,F,R,OutI.comp R ?_⟩⟩
 refine OutA.fst o fun es ys H' F' g q o1=>?_
 intro p hp
 have fh:=(R.grow g).fh
 exact o1 _ _ _ (Gr.new fh hp) (.lst (.inl (.inl upd_same)) (q.mono (Same.upd (fh.free hp))))
def sSetA (j:Nat)(fs:Rho→Rs (List D)):Rho→Out:=fun ρ=>match fs ρ with | .ok es=>.nx (ρ.set j (.fz (.lst es))) | .ex n=>.ex n | .no=>.no
def sSetO (j:Nat)(fs:Rho→Rs (List D)):Rho→Out:=fun ρ=>match fs ρ with | .ok es=>.nx (ρ.set j (.ow es)) | .ex n=>.ex n | .no=>.no
theorem xs_comp {j:Nat}{y:Str}{py spos:Pos}(hN:X.N.Nodup)(hj:X.N[j]? = some y)(hy:X.env.scope.names.lookup y=some .local)(ok:CompOk X scope caps)(hc:X.calm=true)(hi:XI X cl E tg iter fi)(CI:CompD X cl scope x caps tg ifs elt ft fe)
  (hsw:swapsWith (.ListComp elt [⟨tg,iter,ifs,0⟩] scope pos) (some (.Name y py)) spos.line X.env=pure true) (hs:∀x,foldedSetIterable iter X.env x=pure x:=by intro _;rfl):XS X cl E (.Assign [.Name y py] (.ListComp elt [⟨tg,iter,ifs,0⟩] scope pos) spos) (sSetA j (fCp fi ft fe caps)):=by
 refine XS'.out ⟨_,ps_comp hN hj hy ok hc hi CI.ci hsw hs,fun H0 F0 ρ σ H F Dn R o=>⟨H0,F0,ρ,F,R,OutI.comp R ?_⟩⟩
 unfold sSetA at o
 cases e:fCp fi ft fe caps ρ with
 | ok es =>
  rw[e] at o
  intro ys H' F' g q p hp
  have fh:=(R.grow g).fh
  have g2:Gr F' H' (upd F' p (.lst ys)) (upd H' p (.lst ys)):=Gr.new fh hp
  exact o _ _ _ (((R.grow g).grow g2).set (.lst (.inl (.inl upd_same)) (q.mono g2.ff))) (g.ff.trans g2.ff)
 | ex n=>rw[e] at o;exact o
 | no=>rw[e] at o;exact o
theorem xs_compO {j:Nat}{y:Str}{py spos:Pos}(hN:X.N.Nodup)(hj:X.N[j]? = some y)(hy:X.env.scope.names.lookup y=some .local)(ok:CompOk X scope caps)(hc:X.calm=true)(hi:XI X cl E tg iter fi)(CI:CompD X cl scope x caps tg ifs elt ft fe)
  (hsw:swapsWith (.ListComp elt [⟨tg,iter,ifs,0⟩] scope pos) (some (.Name y py)) spos.line X.env=pure true) (hs:∀x,foldedSetIterable iter X.env x=pure x:=by intro _;rfl):XS X cl E (.Assign [.Name y py] (.ListComp elt [⟨tg,iter,ifs,0⟩] scope pos) spos) (sSetO j (fCp fi ft fe caps)):=by
 refine XS'.out ⟨_,ps_comp hN hj hy ok hc hi CI.ci hsw hs,fun H0 F0 ρ σ H F Dn R o=>⟨H0,F0,ρ,F,R,OutI.comp R ?_⟩⟩
 unfold sSetO at o
 cases e:fCp fi ft fe caps ρ with
 | ok es =>
  rw[e] at o
  intro ys H' F' g q p hp
  exact o _ _ _ ((R.grow g).setO hp q) g.ff
 | ex n=>rw[e] at o;exact o
 | no=>rw[e] at o;exact o
end
end L2
namespace L2
open PySem PySem.Spec PyProof.Rows
def Fn1 (K:PySem.W.Frag)(cl:Nat→Addr)(r:List V→Hp→VK→Prop)(g:List D→Option D):Prop :=
 ∀(F H:Hp) (vs:List V) (ds:List D) (d:D) (Q:VK),Same F H→Dts K cl F vs ds→g ds=some d→(∀v H' F',Gr F H F' H'→Dt K cl F' v d→Q v H')→r vs H Q
def lenD:List D→Option D
 | [.str l]=>some (.int l.length)
 | [.lst l]=>some (.int l.length)
 | [.tup l]=>some (.int l.length)
 | _=>none
def unB:D→Bool
 | .bl b=>b
 | _=>false
def isB:D→Bool
 | .bl _=>true
 | _=>false
def unS:D→List Nat
 | .str l=>l
 | _=>[]
def isS:D→Bool
 | .str _=>true
 | _=>false
def allD:List D→Option D
 | [.lst ds]=>if ds.all isB=true then some (.bl (ds.all unB)) else none
 | _=>none
def anyD:List D→Option D
 | [.lst ds]=>if ds.all isB=true then some (.bl (ds.any unB)) else none
 | _=>none
def sortL (ds:List D):Option (List D):=if ds.all isS=true∧ds.length<64 then some ((My.sortF (ds.map unS)).map .str) else none
def sortD:List D→Option (List D)
 | [.lst ds]=>sortL ds
 | [.tup ds]=>sortL ds
 | _=>none
def tupD:List D→Option D
 | [.lst ds]=>some (.tup ds)
 | [.tup ds]=>some (.tup ds)
 | _=>none
def startsD:D→D→Option D
 | .str l,.str m=>some (.bl (m.isPrefixOf l))
 | _,_=>none
def isiD (g:PyData→Bool)(d:D):Option D:=if d.pl=true then some (.bl (g d.py)) else none
def isInt:PyData→Bool:=fun d=>match d with | .int _=>true | .bool _=>true|_=>false
def isBool:PyData→Bool:=fun d=>match d with | .bool _=>true|_=>false
def isStr:PyData→Bool:=fun d=>match d with | .str _=>true|_=>false
def isTup:PyData→Bool:=fun d=>match d with | .tuple _=>true|_=>false
section
variable {K:PySem.W.Frag}{cl:Nat→Addr}{F H:Hp}
theorem Dts.bools:∀{vs:List V}{ds:List D},Dts K cl F vs ds→ds.all isB=true→vs=(ds.map unB).map V.bl
 | _,_,.nil,_=>rfl
 | _,_,.cons q r,h=>by
  rw[List.all_cons,Bool.and_eq_true] at h
  have:=Dts.bools r h.2
  cases q <;>simp[isB] at h
  rw[this];rfl
theorem Dts.texts:∀{vs:List V}{ds:List D},Dts K cl F vs ds→ds.all isS=true→vs=vT (ds.map unS)∧(∀x∈ds.map unS,TxtOk (T x))∧ds=(ds.map unS).map .str
 | _,_,.nil,_=>⟨rfl,by simp,rfl⟩
 | _,_,.cons q r,h=>by
  rw[List.all_cons,Bool.and_eq_true] at h
  obtain⟨e1,e2,e3⟩:=Dts.texts r h.2
  cases q with
  | str l ok =>
   refine⟨by rw[e1];rfl,fun x hx=>?_,by rw[List.map_cons,List.map_cons,← e3];rfl⟩
   rw[List.map_cons] at hx
   rcases List.mem_cons.mp hx with rfl|hx
   ·exact ok
   ·exact e2 x hx
  | _=>simp[isS] at h
theorem dts_texts {ls:List (List Nat)}(h:∀x∈ls,TxtOk (T x)):Dts K cl F (vT ls) (ls.map .str):=dts_map fun x hx=>.str x (h x hx)
theorem n_len:Fn1 K cl (fun xs H Q=>∃x n,xs=[x]∧LenV K x H n∧Q (.int n) H) lenD:=fun F H vs ds d Q s q e k=>by
 match ds,q,e with
 | [.str l],q,e =>
  obtain⟨v,rfl,q1⟩:=q.one
  obtain rfl:=Option.some.inj e
  cases q1 with
  | str l ok=>exact⟨_,l.length,rfl,⟨sz6 ok.2,(T_len l).symm⟩,k _ _ _ (Gr.refl s) (.int _)⟩
 | [.lst l],q,e =>
  obtain⟨v,rfl,q1⟩:=q.one
  obtain rfl:=Option.some.inj e
  cases q1 with
  | lst sq dq=>exact⟨_,l.length,rfl,.inl ⟨_,s.seq sq,dq.length.symm⟩,k _ _ _ (Gr.refl s) (.int _)⟩
 | [.tup l],q,e =>
  obtain⟨v,rfl,q1⟩:=q.one
  obtain rfl:=Option.some.inj e
  cases q1 with
  | tup sq dq=>exact⟨_,l.length,rfl,.inr ⟨_,s.seqT sq,dq.length.symm⟩,k _ _ _ (Gr.refl s) (.int _)⟩
theorem n_all:Fn1 K cl (fun xs H Q=>∃(a:Addr) (bs:List Bool),xs=[.ref a]∧SqL K H a (bs.map V.bl)∧Q (.bl (bs.all id)) H) allD:=fun F H vs ds d Q s q e k=>by
 match ds,q,e with
 | [.lst l],q,e =>
  obtain⟨v,rfl,q1⟩:=q.one
  dsimp only [allD] at e
  split at e
  ·rename_i h
   obtain rfl:=Option.some.inj e
   cases q1 with
   | lst sq dq =>
    rw[dq.bools h] at sq
    refine⟨_,_,rfl,s.seq sq,?_⟩
    have:=k _ _ _ (Gr.refl s) (.bl (l.all unB))
    rwa [List.all_map]
  ·cases e
theorem n_any:Fn1 K cl (fun xs H Q=>∃(a:Addr) (bs:List Bool),xs=[.ref a]∧SqL K H a (bs.map V.bl)∧Q (.bl (bs.any id)) H) anyD:=fun F H vs ds d Q s q e k=>by
 match ds,q,e with
 | [.lst l],q,e =>
  obtain⟨v,rfl,q1⟩:=q.one
  dsimp only [anyD] at e
  split at e
  ·rename_i h
   obtain rfl:=Option.some.inj e
   cases q1 with
   | lst sq dq =>
    rw[dq.bools h] at sq
    refine⟨_,_,rfl,s.seq sq,?_⟩
    have:=k _ _ _ (Gr.refl s) (.bl (l.any unB))
    rwa [List.any_map]
  ·cases e
theorem n_tup:Fn1 K cl (fun xs H Q=>∃p ys,xs=[.ref p]∧((SqL K H p ys∧∀l,H l=none→Q (.ref l) (upd H l (.tup ys)))∨(SqT K H p ys∧Q (.ref p) H))) tupD:=fun F H vs ds d Q s q e k=>by
 match ds,q,e with
 | [.lst l],q,e =>
  obtain⟨v,rfl,q1⟩:=q.one
  obtain rfl:=Option.some.inj e
  cases q1 with
  | lst sq dq=>exact⟨_,_,rfl,.inl ⟨s.seq sq,fun p hp=>k _ _ _ (Gr.new s hp) (.tup (.inl (.inl upd_same)) (dq.mono (Same.upd (s.free hp))))⟩⟩
 | [.tup l],q,e =>
  obtain⟨v,rfl,q1⟩:=q.one
  obtain rfl:=Option.some.inj e
  cases q1 with
  | tup sq dq=>exact⟨_,_,rfl,.inr ⟨s.seqT sq,k _ _ _ (Gr.refl s) (.tup sq dq)⟩⟩
end
section
variable {X:Cx}{cl:Nat→Addr}{E:XK}{e o:Expr}{es:List Expr}{fa fb:Rho→Rs D}{fs:Rho→Rs (List D)}{x:Str}{p pos:Pos}
theorem xe_callB {id:String}{r:List V→Hp→VK→Prop}{g:List D→Option D}(hc:CallR X (.builtin id) r)(hF:Fn1 X.K cl r g)(hg:Gl X x)(hm:X.mg x=none)(hv:bootBuiltins x=some (.builtin id))(ha:XA X cl E (e::es) fs)(he:starEach (e::es) X.env=(false,eval e X.env)::starEach es X.env)(hn:x ≠ "__name__" := by decide)(hdb:(x == ("__debug__" : Str))=false:=by decide)(hpl:(backTo pos (starEach es X.env)).any (·.1)=false:=by rfl):XE X cl E (.Call (.Name x p) (e::es) [] pos) (fO g fs):=by
 obtain⟨t,pt,rt⟩:=ha.ex
 refine XE'.out ⟨_,pe_callB hc hg hm hv pt hn hdb he hpl,fun H0 F0 ρ σ H F Q R o=>rt H0 F0 ρ σ H F _ R (OutA.fst o fun ds vs H1 F1 g1 q o1=>?_)⟩
 obtain⟨z,hz,k⟩:=o1.lf
 exact hF F1 H1 vs ds z _ (R.grow g1).fh q hz k
theorem xe_callTy {T:String}{r:List V→Hp→VK→Prop}{g:List D→Option D}(hc:CallR X (.type T) r)(hF:Fn1 X.K cl r g)(hg:Gl X x)(hm:X.mg x=none)(hv:bootBuiltins x=some (.type T))(ha:XA X cl E (e::es) fs)(he:starEach (e::es) X.env=(false,eval e X.env)::starEach es X.env)(hn:x ≠ "__name__" := by decide)(hdb:(x == ("__debug__" : Str))=false:=by decide)(hpl:(backTo pos (starEach es X.env)).any (·.1)=false:=by rfl):XE X cl E (.Call (.Name x p) (e::es) [] pos) (fO g fs):=by
 obtain⟨t,pt,rt⟩:=ha.ex
 refine XE'.out ⟨_,pe_callTy hc hg hm hv pt hn hdb he hpl,fun H0 F0 ρ σ H F Q R o=>rt H0 F0 ρ σ H F _ R (OutA.fst o fun ds vs H1 F1 g1 q o1=>?_)⟩
 obtain⟨z,hz,k⟩:=o1.lf
 exact hF F1 H1 vs ds z _ (R.grow g1).fh q hz k
theorem xe_isi {n:String}{b:Expr}{g:PyData→Bool}(hk:∀d,PySem.W.kitOne X.K (.type (tyN d)) (.type n)=some (g d))(hg:Gl X "isinstance")(hm:X.mg "isinstance" = none)(ha:XE X cl E e fa)(hb:PE X b (tC (.ty n)))(h1:starEach [e,b] X.env=(false,eval e X.env)::starEach [b] X.env)(h2:starEach [b] X.env=(false,eval b X.env)::starEach [] X.env:=by rfl)(hpl:(backTo pos (starEach [b] X.env)).any (·.1)=false:=by rfl):XE X cl E (.Call (.Name "isinstance" p) [e,b] [] pos) (f1 (isiD g) fa):=by
 obtain⟨t,pt,rt⟩:=ha.ex
 refine XE'.out ⟨_,pe_callB call_isinstD hg hm boot_isinstance (pa_cons pt (pa_cons hb pa_nil h2) h1) (by decide) (by decide) h1 hpl,fun H0 F0 ρ σ H F Q R o=>rt H0 F0 ρ σ H F _ R (OutE.fst o fun d v H1 F1 g1 q o1=>?_)⟩
 obtain⟨z,hz,k⟩:=o1.lf
 unfold isiD at hz
 split at hz
 ·rename_i hp
  obtain rfl:=Option.some.inj hz
  have fh:=(R.grow g1).fh
  exact⟨v,d.py,n,g d.py,rfl,(q.is hp).mono fh,hk _,k _ _ _ (Gr.refl fh) (.bl _)⟩
 ·cases hz
def fM (chk:D→Bool)(g:D→D→Option D)(fa fb:Rho→Rs D):Rho→Rs D:=fun ρ=>(fa ρ).bind fun a=>if chk a=true then(fb ρ).bind fun b=>lf (g a b) else .no
structure Mth (X:Cx)(o e:Expr)(name:Str)(apos cpos:Pos):Prop where
 hs:starEach [e] X.env=(false,eval e X.env)::starEach [] X.env
 base:attributeBase o name X.env (eval o X.env)=eval o X.env
 few:((backTo cpos (starEach [e] X.env)).all (fun x=>!x.1)&&(backToKw cpos (keywordEach [] X.env)).all (fun x=>x.1.isSome)&&decide (([e]:List Expr).length+([]:List Keyword).length+(if ([]:List Keyword).isEmpty then 0 else 1)<30))=true
 line:(apos.endLine == cpos.line)=true
 plain:(backTo cpos (starEach [] X.env)).any (·.1)=false
theorem xe_starts {apos cpos:Pos}(ho:XE X cl E o fa)(ha:XE X cl E e fb)(m:Mth X o e "startswith" apos cpos):XE X cl E (.Call (.Attribute o "startswith" apos) [e] [] cpos) (fM isS startsD fa fb):=by
 obtain⟨t,pt,rt⟩:=ho.ex
 obtain⟨u,pu,ru⟩:=ha.ex
 refine XE'.out ⟨_,pe_bm PySem.F.plainAttrs_str PySem.F.slot_str_startswith PySem.F.type_str_startswith mt_starts pt (pa_cons pu pa_nil m.hs) m.base m.few m.line m.hs m.plain,fun H0 F0 ρ σ H F Q R o=>rt H0 F0 ρ σ H F _ R (OutE.fst o fun d v H1 F1 g1 q o1=>?_)⟩
 split at o1
 ·rename_i hd
  cases q with
  | str l ok =>
   refine⟨rfl,ru H0 F0 ρ σ H1 F1 _ (R.grow g1) (OutE.fst o1 fun d2 v2 H2 F2 g2 q2 o2=>?_)⟩
   obtain⟨z,hz,k⟩:=o2.lf
   cases q2 with
   | str m ok2 =>
    obtain rfl:=Option.some.inj hz
    exact⟨l,m,rfl,rfl,k _ _ _ (Gr.refl (R.grow (g1.trans g2)).fh) (.bl _)⟩
   | _=>cases hz
  | _=>cases hd
 ·exact o1.elim
theorem xe_ix {a b:Expr}(ha:XE X cl E a fa)(hb:XE X cl E b fb)(hs:PlainIx b):XE X cl E (.Subscript a b pos) (f2 ixD fa fb):=by
 obtain⟨t,pt,rt⟩:=ha.ex
 obtain⟨u,pu,ru⟩:=hb.ex
 refine XE'.out ⟨_,pe_ix ix_seq pt pu hs,fun H0 F0 ρ σ H F Q R o=>rt H0 F0 ρ σ H F _ R (OutE.fst o fun d v H1 F1 g1 q o1=>?_)⟩
 refine ru H0 F0 ρ σ H1 F1 _ (R.grow g1) (OutE.fst o1 fun e w H2 F2 g2 q2 o2=>?_)
 obtain⟨z,hz,k⟩:=o2.lf
 exact o_ix F2 H2 v w d e z _ (R.grow (g1.trans g2)).fh (q.mono g2.ff) q2 hz k
def oNone:Rho→Rs (Option Int):=fun _=>.ok none
def oSome (f:Rho→Rs D):Rho→Rs (Option Int):=fun ρ=>(f ρ).bind fun d=>match d with | .int i=>.ok (some i)|_=>.no
theorem xo_none:XO' X cl E none oNone:=⟨_,po_none,fun H0 F0 ρ σ H F Q R o=>o H F (Gr.refl R.fh)⟩
theorem xo_some (h:XE X cl E e fa):XO' X cl E (some e) (oSome fa):=by
 obtain⟨t,pt,rt⟩:=h.ex
 refine⟨_,po_some pt,fun H0 F0 ρ σ H F Q R o=>rt H0 F0 ρ σ H F _ R ?_⟩
 unfold oSome at o
 cases e:fa ρ with
 | ok d =>
  rw[e] at o
  intro v H' F' g q
  cases q with
  | int i=>exact⟨i,rfl,o H' F' g⟩
  | _=>exact o.elim
 | ex n=>rw[e] at o;exact o
 | no=>rw[e] at o;exact o
def fSl (fa:Rho→Rs D)(fl fh:Rho→Rs (Option Int)):Rho→Rs D:=fun ρ=>(fa ρ).bind fun a=>(fl ρ).bind fun l=>(fh ρ).bind fun h=>lf (slD a l h)
theorem cutL_len {α:Type}(xs:List α)(lo hi:Option Int):(cutL xs lo hi).length≤xs.length:=by
 unfold cutL
 rw[List.length_take,List.length_drop];omega
theorem Dts.cut {K:PySem.W.Frag}{F:Hp}{vs:List V}{ds:List D}(q:Dts K cl F vs ds)(lo hi:Option Int):Dts K cl F (cutV vs lo hi) (cutL ds lo hi):=by
 unfold cutV cutL
 rw[q.length]
 exact(q.drop _).take _
theorem xe_slice {lo hi:Option Expr}{p2:Pos}{fl fh:Rho→Rs (Option Int)}(ha:XE X cl E e fa)(hl:XO' X cl E lo fl)(hh:XO' X cl E hi fh):XE X cl E (.Subscript e (.Slice lo hi none p2) pos) (fSl fa fl fh):=by
 obtain⟨t,pt,rt⟩:=ha.ex
 obtain⟨u,pu,ru⟩:=hl
 obtain⟨w,pw,rw'⟩:=hh
 refine XE'.out ⟨_,pe_slice (SlR.or sl_list (SlR.or sl_tupU sl_str)) pt pu pw,fun H0 F0 ρ σ H F Q R o=>rt H0 F0 ρ σ H F _ R (OutE.fst o fun d v H1 F1 g1 q o1=>?_)⟩
 refine ru H0 F0 ρ σ H1 F1 _ (R.grow g1) ?_
 cases e1:fl ρ with
 | ok l =>
  rw[e1] at o1
  intro H2 F2 g2
  refine rw' H0 F0 ρ σ H2 F2 _ ((R.grow g1).grow g2) ?_
  cases e2:fh ρ with
  | ok h =>
   rw[e2] at o1
   intro H3 F3 g3
   have o3:OutE X.K cl E H0 F3 H3 (lf (slD d l h)) Q:=OutE.grow o1 (g2.trans g3)
   obtain⟨z,hz,k⟩:=o3.lf
   have fh:=(((R.grow g1).grow g2).grow g3).fh
   have q3:=q.mono (g2.trans g3).ff
   cases q3 with
   | lst sq dq =>
    obtain rfl:=Option.some.inj hz
    refine .inl ⟨_,_,rfl,fh.seq sq,fun p hp=>k _ _ _ (Gr.new fh hp) (.lst (.inl (.inl upd_same)) ((dq.cut l h).mono (Same.upd (fh.free hp))))⟩
   | tup sq dq =>
    obtain rfl:=Option.some.inj hz
    refine .inr (.inl ⟨_,_,rfl,fh.seqT sq,fun p H' hs qq=>?_⟩)
    obtain⟨F',g,q'⟩:=Gr.tup fh hs qq (dq.cut l h)
    exact k _ _ _ g q'
   | str ls ok =>
    obtain rfl:=Option.some.inj hz
    refine .inr (.inr ⟨_,rfl,sz6 ok.2,?_⟩)
    rw[T_cps,T_len]
    refine k _ _ _ (Gr.refl fh) (.str (cutL ls l h) (txt_sub ok (fun c hc=>?_) (Nat.le_trans (cutL_len _ _ _) (by have:=ok.2;rw[T_len] at this;exact this))))
    exact List.mem_of_mem_drop (List.mem_of_mem_take hc)
   | _=>cases hz
  | ex n=>rw[e2] at o1;exact o1
  | no=>rw[e2] at o1;exact o1
 | ex n=>rw[e1] at o1;exact o1
 | no=>rw[e1] at o1;exact o1
end
end L2
namespace L2
open PySem PySem.Spec PyProof.Rows
def XL (X:Cx)(cl:Nat→Addr)(E:XK)(e:Expr)(f:Rho→Rs (List D)):Prop :=
 ∃t:TE,PE X e t∧∀(H0 F0:Hp) (ρ:Rho) (σ:St) (H F:Hp) (Q:VK),Rl X.K cl H0 F0 ρ σ H F→OutA X.K cl E H0 F H (f ρ) (fun vs H1=>∀p,H1 p=none→Q (.ref p) (upd H1 p (.lst vs)))→t σ H Q
def fLs (f:Rho→Rs (List D)):Rho→Rs D:=fun ρ=>(f ρ).bind fun ds=>.ok (.lst ds)
section
variable {X:Cx}{cl:Nat→Addr}{E:XK}{e o:Expr}{es:List Expr}{fa fb:Rho→Rs D}{fs:Rho→Rs (List D)}{x:Str}{p pos:Pos}
theorem XL.xe (h:XL X cl E e fs):XE X cl E e (fLs fs):=by
 obtain⟨t,pt,rt⟩:=h
 refine XE'.out ⟨_,pt,fun H0 F0 ρ σ H F Q R o=>rt H0 F0 ρ σ H F _ R (OutA.fst o fun ds vs H1 F1 g q o1=>fun p hp=>?_)⟩
 have fh:=(R.grow g).fh
 exact o1 _ _ _ (Gr.new fh hp) (.lst (.inl (.inl upd_same)) (q.mono (Same.upd (fh.free hp))))
def lf' {α:Type}:Option α→Rs α
 | some d=>.ok d
 | none=>.no
def fL (g:List D→Option (List D))(fs:Rho→Rs (List D)):Rho→Rs (List D):=fun ρ=>(fs ρ).bind fun as=>lf' (g as)
def fL2 (g:D→D→Option (List D))(fa fb:Rho→Rs D):Rho→Rs (List D):=fun ρ=>(fa ρ).bind fun a=>(fb ρ).bind fun b=>lf' (g a b)
theorem OutA.lf {K:PySem.W.Frag}{H0 F H:Hp}{o:Option (List D)}{Q:List V→Hp→Prop}(h:OutA K cl E H0 F H (lf' o) Q):∃d,o=some d∧∀v H' F',Gr F H F' H'→Dts K cl F' v d→Q v H':=by
 cases o with
 | none=>exact h.elim
 | some d=>exact⟨d,rfl,h⟩
def szL (ds:List D):Option (List D):=if ds.length≤1000000 then some ds else none
theorem xl_lst (h:XA X cl E es fs):XL X cl E (.List es pos) (fL szL fs):=by
 obtain⟨t,pt,rt⟩:=h.ex
 refine⟨_,pe_lst pt,fun H0 F0 ρ σ H F Q R o=>rt H0 F0 ρ σ H F _ R (OutA.fstA o fun ds vs H1 F1 g q o1=>?_)⟩
 obtain⟨z,hz,k⟩:=o1.lf
 unfold szL at hz
 split at hz
 ·rename_i hl
  obtain rfl:=Option.some.inj hz
  exact⟨sz6 (q.length▸hl),fun p hp=>k vs H1 F1 (Gr.refl (R.grow g).fh) q p hp⟩
 ·cases hz
def catD:D→D→Option (List D)
 | .lst l,.lst m=>if l.length+m.length≤1000000 then some (l++m) else none
 | _,_=>none
theorem sorted_run {K:PySem.W.Frag}{F H:Hp}{a:Addr}{vs:List V}{ds z:List D}{Q:List V→Hp→Prop}(fh:Same F H)(dq:Dts K cl F vs ds)(hz:sortL ds=some z)(k:∀v H' F',Gr F H F' H'→Dts K cl F' v z→Q v H'):vs=vT (ds.map unS)∧(ds.map unS).length<64∧∀ms,ms.Perm (ds.map unS)→Srt ms→Q (vT ms) H:=by
 unfold sortL at hz
 split at hz
 ·rename_i h
  obtain rfl:=Option.some.inj hz
  obtain⟨e1,e2,e3⟩:=dq.texts h.1
  refine⟨e1,by rw[List.length_map];exact h.2,fun ms pm sm=>?_⟩
  obtain rfl:=My.sortF_eq sm pm
  exact k _ _ _ (Gr.refl fh) (dts_texts fun y hy=>e2 y (My.sortF_mem.mp hy))
 ·cases hz
theorem xl_sorted (hg:Gl X "sorted")(hm:X.mg "sorted" = none)(hv:bootBuiltins "sorted" = some (.builtin "sorted"))(h:XE X cl E e fa)(hs:starEach [e] X.env=(false,eval e X.env)::starEach [] X.env)(hpl:(backTo pos (starEach [] X.env)).any (·.1)=false:=by rfl):XL X cl E (.Call (.Name "sorted" p) [e] [] pos) (fL sortD (aCons fa aNil)):=by
 obtain⟨t,pt,rt⟩:=(xa_cons h xa_nil hs).ex
 have hc:CallR X (.builtin "sorted") (fun xs H Q=>(∃a ls,xs=[.ref a]∧SqL X.K H a (vT ls)∧ls.length<64∧∀p ms,H p=none→ms.Perm ls→Srt ms→Q (.ref p) (upd H p (.lst (vT ms))))∨(∃a ls,xs=[.ref a]∧SqT X.K H a (vT ls)∧ls.length<64∧∀p ms,H p=none→ms.Perm ls→Srt ms→Q (.ref p) (upd H p (.lst (vT ms))))):=fun pins s σ H xs us Q I r q=>by
  rcases q with q|q
  ·exact call_sortedS pins s σ H xs us Q I r q
  ·exact call_sortedT pins s σ H xs us Q I r q
 refine⟨_,pe_callB hc hg hm hv pt (by decide) (by decide) hs hpl,fun H0 F0 ρ σ H F Q R o=>rt H0 F0 ρ σ H F _ R (OutA.fstA o fun ds vs H1 F1 g q o1=>?_)⟩
 obtain⟨z,hz,k⟩:=o1.lf
 have fh:=(R.grow g).fh
 match ds,q,hz with
 | [.lst l],q,hz =>
  obtain⟨v,rfl,q1⟩:=q.one
  cases q1 with
  | lst sq dq =>
   obtain⟨e1,e2,e3⟩:=sorted_run (a:=0) fh dq hz k
   rw[e1] at sq
   exact .inl ⟨_,_,rfl,fh.seq sq,e2,fun p ms hp pm sm=>e3 ms pm sm p hp⟩
 | [.tup l],q,hz =>
  obtain⟨v,rfl,q1⟩:=q.one
  cases q1 with
  | tup sq dq =>
   obtain⟨e1,e2,e3⟩:=sorted_run (a:=0) fh dq hz k
   rw[e1] at sq
   exact .inr ⟨_,_,rfl,fh.seqT sq,e2,fun p ms hp pm sm=>e3 ms pm sm p hp⟩
theorem xs_setO {i:Nat}{pos':Pos}(hN:X.N.Nodup)(hi:X.N[i]? = some x)(hx:Loc X.env.scope x)(he:XL X cl E e fs)(hs:swapsWith e (some (.Name x pos')) pos.line X.env=pure false:=by rfl)(hf:X.fn x=true∨X.env.scope.names.lookup x=some .local:=by first|exact .inl rfl|exact .inr rfl|assumption) :
  XS X cl E (.Assign [.Name x pos'] e pos) (sSetO i fs):=by
 obtain⟨t,pt,rt⟩:=he
 refine XS'.out ⟨_,ps_set hN hi hx pt hs hf,fun H0 F0 ρ σ H F Dn R o=>rt H0 F0 ρ σ H F _ R ?_⟩
 unfold sSetO at o
 cases e:fs ρ with
 | ok d=>rw[e] at o;exact fun vs H' F' gg q p hp=>o _ _ F' ((R.grow gg).setO hp q) gg.ff
 | ex n=>rw[e] at o;exact o
 | no=>rw[e] at o;exact o
theorem xs_append {i:Nat}{o:Expr}{apos cpos:Pos}(ho:PE X o (tVar i))(ha:XE X cl E e fa)(m:Mth X o e "append" apos cpos)(hs:swapsWith (.Call (.Attribute o "append" apos) [e] [] cpos) none pos.line X.env=pure false:=by rfl):XS X cl E (.Expr (.Call (.Attribute o "append" apos) [e] [] cpos) pos) (sApp i fa):=by
 obtain⟨u,pu,ru⟩:=ha.ex
 refine XS'.out ⟨_,ps_expr (pe_bm PySem.F.plainAttrs_list PySem.F.slot_list_append PySem.F.type_list_append mt_append ho (pa_cons pu pa_nil m.hs) m.base m.few m.line m.hs m.plain) hs,fun H0 F0 ρ σ H F Dn R oo=>?_⟩
 unfold sApp at oo
 cases hw:owL ρ i with
 | none=>rw[hw] at oo;exact oo.elim
 | some ds =>
  rw[hw] at oo
  have hd:=owL_some hw
  obtain⟨a,vs,h1,h2,h3,h4,h5⟩:=R.ow i ds hd
  refine⟨.ref a,h1,.inl ⟨rfl,vs,.inl (.inl h2)⟩,ru H0 F0 ρ σ H F _ R ?_⟩
  cases e:fa ρ with
  | ok d =>
   simp only[e] at oo
   split at oo
   ·rename_i hl
    intro v H1 F1 g q
    have R1:=R.grow g
    refine⟨a,vs,v,rfl,rfl,g.hh _ _ h2,?_,?_⟩
    ·rw[h5.length,sizeLine_eq];omega
    ·exact oo _ _ F1 (R1.put hd h1 ((h5.mono g.ff).append (.cons q .nil))) g.ff
   ·exact oo.elim
  | ex n=>simp only[e] at oo;exact oo
  | no=>simp only[e] at oo;exact oo.elim
def sPop (i j:Nat)(f:Rho→Rs D):Rho→Out:=fun ρ=>match owL ρ i with
 | some ds=>(match f ρ with | .ok (.int k)=>(if 0≤k∧k<1000000 then(match ds[k.toNat]? with|some d=>.nx ((ρ.set i (.ow (ds.eraseIdx k.toNat))).set j (.fz d))|none=>.no) else .no) | .ex n=>.ex n|_=>.no)
 | none=>.no
theorem Dts.erase {K:PySem.W.Frag}{F:Hp}:∀{vs:List V}{ds:List D} (k:Nat),Dts K cl F vs ds→Dts K cl F (vs.eraseIdx k) (ds.eraseIdx k)
 | _,_,_,.nil=>.nil
 | _,_,0,.cons _ r=>r
 | _,_,k+1,.cons q r=>.cons q (Dts.erase k r)
theorem xs_pop {i j:Nat}{o:Expr}{y:Str}{py apos cpos:Pos}(hN:X.N.Nodup)(hj:X.N[j]? = some y)(hy:Loc X.env.scope y)(ho:PE X o (tVar i))(ha:XE X cl E e fa)(m:Mth X o e "pop" apos cpos)(hs:swapsWith (.Call (.Attribute o "pop" apos) [e] [] cpos) (some (.Name y py)) pos.line X.env=pure false:=by rfl)(hf:X.fn y=true∨X.env.scope.names.lookup y=some .local:=by first|exact .inl rfl|exact .inr rfl|assumption) :
  XS X cl E (.Assign [.Name y py] (.Call (.Attribute o "pop" apos) [e] [] cpos) pos) (sPop i j fa):=by
 obtain⟨u,pu,ru⟩:=ha.ex
 refine XS'.out ⟨_,ps_set hN hj hy (pe_bm PySem.F.plainAttrs_list PySem.F.slot_list_pop PySem.F.type_list_pop mt_popAt ho (pa_cons pu pa_nil m.hs) m.base m.few m.line m.hs m.plain) hs hf,fun H0 F0 ρ σ H F Dn R oo=>?_⟩
 unfold sPop at oo
 cases hw:owL ρ i with
 | none=>rw[hw] at oo;exact oo.elim
 | some ds =>
  rw[hw] at oo
  have hd:=owL_some hw
  obtain⟨a,vs,h1,h2,h3,h4,h5⟩:=R.ow i ds hd
  refine⟨.ref a,h1,.inl ⟨rfl,vs,.inl (.inl h2)⟩,ru H0 F0 ρ σ H F _ R ?_⟩
  cases e:fa ρ with
  | ok d =>
   simp only[e] at oo
   intro v H1 F1 g q
   cases q with
   | int k =>
    dsimp only at oo
    split at oo
    ·rename_i hk
     cases hg:ds[k.toNat]? with
     | none=>simp only[hg] at oo;exact oo.elim
     | some d =>
      simp only[hg] at oo
      have R1:=R.grow g
      have h5':=h5.mono g.ff
      obtain⟨w,hw1,hw2⟩:=h5'.get' hg
      have hlt:k.toNat<vs.length:=(List.getElem?_eq_some_iff.mp hw1).1
      refine⟨a,vs,k,k.toNat,w,rfl,rfl,g.hh _ _ h2,by omega,by omega,?_,hw1,?_⟩
      ·exact seqIndex_of hk.1 (by omega)
      ·exact oo _ _ F1 ((R1.put hd h1 (h5'.erase _)).set hw2) g.ff
    ·exact oo.elim
   | _=>exact oo.elim
  | ex n=>simp only[e] at oo;exact oo
  | no=>simp only[e] at oo;exact oo.elim
end
end L2
namespace L2
open PySem PySem.Spec PyProof.Rows
section
variable {X:Cx}{cl:Nat→Addr}{E:XK}{e o a b c:Expr}{es:List Expr}{fa fb fc:Rho→Rs D}{fs:Rho→Rs (List D)}{x y:Str}{p pos:Pos}
def fCh (g g':D→D→Option D)(fa fb fc:Rho→Rs D):Rho→Rs D:=fun ρ=>(fa ρ).bind fun a=>(fb ρ).bind fun b=>(lf (g a b)).bind fun z=>(tru z).bind fun k=>if k=true then(fc ρ).bind fun c=>lf (g' b c) else .ok (.bl false)
theorem chain_run {H0 F0 H F:Hp}{ρ:Rho}{σ:St}{r r':R2}{g g':D→D→Option D}{ta tb tc:TE}{Q:VK}(hg:Op2 X.K cl r g)(hg':Op2 X.K cl r' g')(R:Rl X.K cl H0 F0 ρ σ H F)
  (ra:∀(H0 F0:Hp) (ρ:Rho) (σ:St) (H F:Hp) (Q:VK),Rl X.K cl H0 F0 ρ σ H F→OutE X.K cl E H0 F H (fa ρ) Q→ta σ H Q) (rb:∀(H0 F0:Hp) (ρ:Rho) (σ:St) (H F:Hp) (Q:VK),Rl X.K cl H0 F0 ρ σ H F→OutE X.K cl E H0 F H (fb ρ) Q→tb σ H Q) (rc:∀(H0 F0:Hp) (ρ:Rho) (σ:St) (H F:Hp) (Q:VK),Rl X.K cl H0 F0 ρ σ H F→OutE X.K cl E H0 F H (fc ρ) Q→tc σ H Q)
  (o:OutE X.K cl E H0 F H (fCh g g' fa fb fc ρ) Q):tChain r r' ta tb tc σ H Q:=by
 refine ra H0 F0 ρ σ H F _ R (OutE.fst o fun d v H1 F1 g1 q o1=>?_)
 refine rb H0 F0 ρ σ H1 F1 _ (R.grow g1) (OutE.fst o1 fun d2 v2 H2 F2 g2 q2 o2=>?_)
 have R2:=(R.grow g1).grow g2
 cases hz:g d d2 with
 | none=>rw[hz] at o2;exact o2.elim
 | some z =>
  rw[hz] at o2
  refine hg F2 H2 v v2 d d2 z _ R2.fh (q.mono g2.ff) q2 hz fun w H3 F3 g3 q3=>?_
  obtain⟨k,rfl,o3⟩:=OutE.tru (F1:=F3) (H1:=H3) q3 (OutE.grow (r:=(tru z).bind _) o2 g3)
  refine⟨k,rfl,?_⟩
  have R3:=R2.grow g3
  cases k with
  | false=>exact o3.okI R3.fh (.bl _)
  | true =>
   refine rc H0 F0 ρ σ H3 F3 _ R3 (OutE.fst o3 fun d4 v4 H4 F4 g4 q4 o4=>?_)
   obtain⟨z2,hz2,k2⟩:=o4.lf
   exact hg' F4 H4 v2 v4 d2 d4 z2 _ (R3.grow g4).fh (q2.mono (g3.trans g4).ff) q4 hz2 k2
theorem xe_chain {op op':CmpOp}{r r':R2}{g g':D→D→Option D}(ho:OpR X (compareOp op) r)(ho':OpR X (compareOp op') r')(hg:Op2 X.K cl r g)(hg':Op2 X.K cl r' g')(ha:XE X cl E a fa)(hb:XE X cl E b fb)(hc:XE X cl E c fc)(hm:lastMarks [op,op'] [b,c]=false:=by with_unfolding_all rfl):XE X cl E (.Compare a [op,op'] [b,c] pos) (fCh g g' fa fb fc):=by
 obtain⟨t,pt,rt⟩:=ha.ex
 obtain⟨u,pu,ru⟩:=hb.ex
 obtain⟨w,pw,rw'⟩:=hc.ex
 exact XE'.out ⟨_,pe_chain ho ho' pt pu pw hm,fun H0 F0 ρ σ H F Q R o=>chain_run hg hg' R rt ru rw' o⟩
theorem xt_chain {op op':CmpOp}{r r':R2}{g g':D→D→Option D}(ho:OpR X (compareOp op) r)(ho':OpR X (compareOp op') r')(hg:Op2 X.K cl r g)(hg':Op2 X.K cl r' g')(ha:XE X cl E a fa)(hb:XE X cl E b fb)(hc:XE X cl E c fc)(hm:lastMarks [op,op'] [b,c]=false:=by with_unfolding_all rfl):XT X cl E (.Compare a [op,op'] [b,c] pos) (bT (fCh g g' fa fb fc)):=by
 obtain⟨t,pt,rt⟩:=ha.ex
 obtain⟨u,pu,ru⟩:=hb.ex
 obtain⟨w,pw,rw'⟩:=hc.ex
 exact XT'.out ⟨_,pt_chain ho ho' pt pu pw hm,fun H0 F0 ρ σ H F Q R o=>chain_run hg hg' R rt ru rw' (OutB.bT R o)⟩
def dedL (ls:List (List Nat)):List (List Nat):=(ded (ls.map T)).map fun x=>x.cps.toList
end
end L2
namespace L2
open PySem PySem.Spec PyProof.Rows
def setL (ds:List D):Option (List D):=if ds.all isS=true∧ds.length<64 then some ((My.sortF (dedL (ds.map unS))).map .str) else none
def setD:D→Option (List D)
 | .lst ds=>setL ds
 | .tup ds=>setL ds
 | _=>none
def fL1 (g:D→Option (List D))(fa:Rho→Rs D):Rho→Rs (List D):=fun ρ=>(fa ρ).bind fun a=>lf' (g a)
section
variable {X:Cx}{cl:Nat→Addr}{E:XK}{e o a b c:Expr}{es:List Expr}{fa fb fc:Rho→Rs D}{fs:Rho→Rs (List D)}{x y:Str}{p pos:Pos}
def sNewD (i:Nat):Rho→Out:=fun ρ=>.nx (ρ.set i (.od []))
def odL (ρ:Rho)(i:Nat):Option (List (List Nat×D)):=match ρ[i]? with|some (.od ds)=>some ds|_=>none
theorem odL_some {ρ:Rho}{i:Nat}{ds:List (List Nat×D)}(h:odL ρ i=some ds):ρ[i]? = some (.od ds):=by
 unfold odL at h
 split at h
 ·rename_i e;rw[e,Option.some.inj h]
 ·cases h
def putD (kvs:List (List Nat×D))(k:List Nat)(v:D):List (List Nat×D):=if (kvs.any fun kv=>decide (kv.1=k))=true then kvs.map (fun kv=>if kv.1=k then(kv.1,v) else kv) else kvs++[(k,v)]
theorem Rl.setD {K:PySem.W.Frag}{H0 F0 H F:Hp}{ρ:Rho}{σ:St}{i:Nat}{p:Addr}{vs:List (Key×V)}{ds:List (List Nat×D)}(R:Rl K cl H0 F0 ρ σ H F)(hp:H p=none)(h:Dks K cl F vs ds):Rl K cl H0 F0 (ρ.set i (.od ds)) (σ.set i (some (.ref p))) (upd H p (.dK vs)) F where
 gr:=R.gr.trans (Gr.newO R.fh hp)
 len:=by simp[R.len]
 fz:=fun j e z=>by
  rcases get_set z with⟨rfl,q,hl⟩|⟨hj,q⟩
  ·cases q
  ·rw[List.getElem?_set_ne hj];exact R.fz j e q
 od := fun j e z=>by
  rcases get_set z with⟨rfl,q,hl⟩|⟨hj,q⟩
  ·injection q with q;subst q
   exact⟨p,vs,set_get (R.len▸hl),upd_same,R.fh.free hp,R.gr.hh.free hp,h⟩
  ·rw[List.getElem?_set_ne hj]
   obtain⟨a,us,h1,h2,h3⟩:=R.od j e q
   exact⟨a,us,h1,by rw[upd_ne (fun w=>by rw[w,hp] at h2;cases h2)];exact h2,h3⟩
 ow := fun j e z=>by
  rcases get_set z with⟨rfl,q,hl⟩|⟨hj,q⟩
  ·cases q
  ·rw[List.getElem?_set_ne hj]
   obtain⟨a,us,h1,h2,h3⟩:=R.ow j e q
   exact⟨a,us,h1,by rw[upd_ne (fun w=>by rw[w,hp] at h2;cases h2)];exact h2,h3⟩
 ap := fun j k s t a z1 z2 o1 o2 e1 e2=>by
  rcases get_set z1 with⟨rfl,q,hl⟩|⟨hj,q⟩
  ·rcases get_set z2 with⟨rfl,q2,hl2⟩|⟨hk,q2⟩
   ·rfl
   ·rw[set_get (R.len▸hl)] at e1;rw[List.getElem?_set_ne hk] at e2
    injection e1 with e1;injection e1 with e1;injection e1 with e1
    exact absurd (e1▸hp) (R.apart q2 o2 e2)
  ·rcases get_set z2 with⟨rfl,q2,hl2⟩|⟨hk,q2⟩
   ·rw[set_get (R.len▸hl2)] at e2;rw[List.getElem?_set_ne hj] at e1
    injection e2 with e2;injection e2 with e2;injection e2 with e2
    exact absurd (e2▸hp) (R.apart q o1 e1)
   ·rw[List.getElem?_set_ne hj] at e1;rw[List.getElem?_set_ne hk] at e2
    exact R.ap j k s t a q q2 o1 o2 e1 e2
theorem Rl.putDk {K:PySem.W.Frag}{H0 F0 H F:Hp}{ρ:Rho}{σ:St}{i:Nat}{a:Addr}{us:List (Key×V)}{ds es:List (List Nat×D)}(R:Rl K cl H0 F0 ρ σ H F)(hi:ρ[i]? = some (.od ds))(hs:σ[i]? = some (some (.ref a)))(h:Dks K cl F us es):Rl K cl H0 F0 (ρ.set i (.od es)) σ (upd H a (.dK us)) F:=by
 obtain⟨b,ws,h1,h2,h3,h4,_⟩:=R.od i ds hi
 rw[hs] at h1
 injection h1 with h1;injection h1 with h1;injection h1 with h1
 subst h1
 have far:∀(j:Nat) (s:Sl) (c:Addr),j≠i→ρ[j]? = some s→s.own=true→σ[j]? = some (some (.ref c))→c≠a:=fun j s c hj e o z w=>hj (R.ap j i s _ a e hi o rfl (w▸z) hs)
 refine⟨⟨R.gr.ff,fun c o e=>?_,fun c o e=>?_,R.gr.no⟩,by simp[R.len],fun j e z=>?_,fun j e z=>?_,fun j e z=>?_,fun j k s t c z1 z2 o1 o2 e1 e2=>?_⟩
 ·rw[upd_ne (fun w=>by rw[w,h4] at e;cases e)];exact R.gr.hh c o e
 ·rw[upd_ne (fun w=>by rw[w,h3] at e;cases e)];exact R.fh c o e
 ·rcases get_set z with⟨rfl,q,hl⟩|⟨hj,q⟩
  ·cases q
  ·exact R.fz j e q
 ·rcases get_set z with⟨rfl,q,hl⟩|⟨hj,q⟩
  ·cases q
  ·obtain⟨c,xs,k1,k2,k3⟩:=R.ow j e q
   exact⟨c,xs,k1,by rw[upd_ne (far j _ c (Ne.symm hj) q rfl k1)];exact k2,k3⟩
 ·rcases get_set z with⟨rfl,q,hl⟩|⟨hj,q⟩
  ·injection q with q;subst q
   exact⟨a,us,hs,upd_same,h3,h4,h⟩
  ·obtain⟨c,xs,k1,k2,k3⟩:=R.od j e q
   exact⟨c,xs,k1,by rw[upd_ne (far j _ c (Ne.symm hj) q rfl k1)];exact k2,k3⟩
 ·have own:∀(j:Nat) (s:Sl),(ρ.set i (.od es))[j]? = some s→s.own=true→∃s',ρ[j]? = some s'∧s'.own=true:=fun j s z o=>by
   rcases get_set z with⟨rfl,q,hl⟩|⟨hj,q⟩
   ·exact⟨_,hi,rfl⟩
   ·exact⟨s,q,o⟩
  obtain⟨s',q1,p1⟩:=own j s z1 o1
  obtain⟨t',q2,p2⟩:=own k t z2 o2
  exact R.ap j k s' t' c q1 q2 p1 p2 e1 e2
theorem Dks.any {K:PySem.W.Frag}{F:Hp}{k:List Nat}:∀{vs:List (Key×V)}{ds:List (List Nat×D)},Dks K cl F vs ds→(vs.any fun kv=>decide (kv.1=Sum.inr (T k)))=(ds.any fun kv=>decide (kv.1=k))
 | _,_,.nil=>rfl
 | _,_,.cons (l:=l) ok q r=>by
  rw[List.any_cons,List.any_cons,Dks.any r]
  congr 1
  by_cases h:l=k
  ·subst h;simp
  ·rw[decide_eq_false h,decide_eq_false]
   intro z;injection z with z;exact h (T_inj z)
theorem Dks.mapPut {K:PySem.W.Frag}{F:Hp}{k:List Nat}{v:V}{d:D}(hv:Dt K cl F v d):∀{vs:List (Key×V)}{ds:List (List Nat×D)},Dks K cl F vs ds→Dks K cl F (vs.map fun kv=>if kv.1=Sum.inr (T k) then(kv.1,v) else kv) (ds.map fun kv=>if kv.1=k then(kv.1,d) else kv)
 | _,_,.nil=>.nil
 | _,_,.cons (l:=l) ok q r=>by
  rw[List.map_cons,List.map_cons]
  by_cases h:l=k
  ·subst h;rw[if_pos rfl,if_pos rfl];exact .cons ok hv (Dks.mapPut hv r)
  ·have h':¬((Sum.inr (T l):Key)=Sum.inr (T k)):=fun z=>by injection z with z;exact h (T_inj z)
   rw[if_neg h,if_neg h'];exact .cons ok q (Dks.mapPut hv r)
theorem Dks.snoc {K:PySem.W.Frag}{F:Hp}{k:List Nat}{v:V}{d:D}(hk:TxtOk (T k))(hv:Dt K cl F v d):∀{vs:List (Key×V)}{ds:List (List Nat×D)},Dks K cl F vs ds→Dks K cl F (vs++[(Sum.inr (T k),v)]) (ds++[(k,d)])
 | _,_,.nil=>.cons hk hv .nil
 | _,_,.cons ok q r=>.cons ok q (Dks.snoc hk hv r)
theorem Dks.put {K:PySem.W.Frag}{F:Hp}{k:List Nat}{v:V}{d:D}{vs:List (Key×V)}{ds:List (List Nat×D)}(h:Dks K cl F vs ds)(hk:TxtOk (T k))(hv:Dt K cl F v d):Dks K cl F (putK vs (Sum.inr (T k)) v) (putD ds k d):=by
 unfold putK putD
 rw[h.any]
 split
 ·exact h.mapPut hv
 ·exact h.snoc hk hv
theorem Dks.length {K:PySem.W.Frag}{F:Hp}:∀{vs:List (Key×V)}{ds:List (List Nat×D)},Dks K cl F vs ds→vs.length=ds.length
 | _,_,.nil=>rfl
 | _,_,.cons _ _ r=>by simp[r.length]
theorem Dks.keys {K:PySem.W.Frag}{F:Hp}:∀{vs:List (Key×V)}{ds:List (List Nat×D)},Dks K cl F vs ds→vs.map (·.1)=(ds.map (·.1)).map fun l=>(Sum.inr (T l):Key)
 | _,_,.nil=>rfl
 | _,_,.cons _ _ r=>by simp[r.keys]
theorem Dks.oks {K:PySem.W.Frag}{F:Hp}:∀{vs:List (Key×V)}{ds:List (List Nat×D)},Dks K cl F vs ds→∀l∈ds.map (·.1),TxtOk (T l)
 | _,_,.nil=>by simp
 | _,_,.cons ok _ r=>fun l hl=>by
  rw[List.map_cons] at hl
  rcases List.mem_cons.mp hl with rfl|hl
  ·exact ok
  ·exact r.oks l hl
theorem xs_newD {i:Nat}{pos' dpos:Pos}(hN:X.N.Nodup)(hi:X.N[i]? = some x)(hx:Loc X.env.scope x)(hs:swapsWith (.Dict [] [] dpos) (some (.Name x pos')) pos.line X.env=pure false:=by rfl)(hf:X.fn x=true∨X.env.scope.names.lookup x=some .local:=by first|exact .inl rfl|exact .inr rfl|assumption) :
  XS X cl E (.Assign [.Name x pos'] (.Dict [] [] dpos) pos) (sNewD i) :=
 XS'.out ⟨_,ps_set hN hi hx pe_dnewK hs hf,fun H0 F0 ρ σ H F Dn R o=>fun p hp=>o _ _ F (R.setD hp .nil) (Same.refl _)⟩
def sPut (i:Nat)(fk fv:Rho→Rs D):Rho→Out:=fun ρ=>match odL ρ i with
 | some ds=>(match fv ρ with
  | .ok v=>(match fk ρ with | .ok (.str k)=>if ds.length<1000000 then .nx (ρ.set i (.od (putD ds k v))) else .no | .ex n=>.ex n|_=>.no)
  | .ex n=>.ex n
  | .no=>.no)
 | none=>.no
theorem xs_dput {i:Nat}{k v:Expr}{pos':Pos}(hu:X.A.units+1<cLine)(ho:PE X o (tVar i))(hk:XE X cl E k fa)(hv:XE X cl E v fb)(hs:swapsWith v (some (.Subscript o k pos')) pos.line X.env=pure false:=by rfl):XS X cl E (.Assign [.Subscript o k pos'] v pos) (sPut i fa fb):=by
 obtain⟨t,pt,rt⟩:=hk.ex
 obtain⟨u,pu,ru⟩:=hv.ex
 refine XS'.out ⟨_,ps_dput hu ho pt pu hs,fun H0 F0 ρ σ H F Dn R oo=>ru H0 F0 ρ σ H F _ R ?_⟩
 unfold sPut at oo
 cases hw:odL ρ i with
 | none=>rw[hw] at oo;exact oo.elim
 | some ds =>
  rw[hw] at oo
  have hd:=odL_some hw
  cases ev:fb ρ with
  | ok dv =>
   simp only[ev] at oo
   intro vv H1 F1 g1 q1
   have R1:=R.grow g1
   obtain⟨ad,vs,h1,h2,h3,h4,h5⟩:=R1.od i ds hd
   refine⟨.ref ad,h1,rt H0 F0 ρ σ H1 F1 _ R1 ?_⟩
   cases ek:fa ρ with
   | ok dk =>
    simp only[ek] at oo
    intro kv H2 F2 g2 q2
    have R2:=R1.grow g2
    cases q2 with
    | str l ok =>
     dsimp only at oo
     split at oo
     ·rename_i hl
      have h5':=h5.mono g2.ff
      refine⟨ad,_,rfl,DPut.k (k:=Sum.inr (T l)) (g2.hh _ _ h2) (by rw[h5.length,sizeLine_eq];omega),?_⟩
      exact oo _ _ F2 (R2.putDk hd h1 (h5'.put ok (q1.mono g2.ff))) (g1.ff.trans g2.ff)
     ·exact oo.elim
    | _=>exact oo.elim
   | ex n=>simp only[ek] at oo;exact oo
   | no=>simp only[ek] at oo;exact oo.elim
  | ex n=>simp only[ev] at oo;exact oo
  | no=>simp only[ev] at oo;exact oo.elim
def fSD (i:Nat):Rho→Rs (List D):=fun ρ=>match odL ρ i with
 | some ds=>if ds.length<64 then .ok ((My.sortF (ds.map (·.1))).map .str) else .no
 | none=>.no
theorem xl_sortedD {i:Nat}(hc:X.calm=true)(hg:Gl X "sorted")(hm:X.mg "sorted" = none)(ho:PE X e (tVar i))(hs:starEach [e] X.env=(false,eval e X.env)::starEach [] X.env)(hpl:(backTo pos (starEach [] X.env)).any (·.1)=false:=by rfl):XL X cl E (.Call (.Name "sorted" p) [e] [] pos) (fSD i):=by
 refine⟨_,pe_callB (call_sortedD hc) hg hm boot_sorted (pa_cons ho pa_nil hs) (by decide) (by decide) hs hpl,fun H0 F0 ρ σ H F Q R oo=>?_⟩
 unfold fSD at oo
 cases hw:odL ρ i with
 | none=>rw[hw] at oo;exact oo.elim
 | some ds =>
  rw[hw] at oo
  dsimp only at oo
  split at oo
  ·rename_i hl
   obtain⟨ad,vs,h1,h2,h3,h4,h5⟩:=R.od i ds (odL_some hw)
   refine⟨.ref ad,h1,ad,vs,ds.map (·.1),rfl,h2,h5.keys,by rw[List.length_map];exact hl,fun p ms hp pm sm=>?_⟩
   obtain rfl:=My.sortF_eq sm pm
   exact oo _ _ F (Gr.refl R.fh) (dts_texts fun y hy=>h5.oks y (My.sortF_mem.mp hy)) p hp
  ·exact oo.elim
end
end L2
namespace L2
open PySem PySem.Spec PyProof.Rows
def sRs (n:Nat)(fs:Rho→Rs (List D)):Rho→Out:=fun ρ=>match fs ρ with | .ok ds=>if ds.length≤3 then .ex n else .no | .ex m=>.ex m | .no=>.no
section
variable {P:Program}{w:World}{K:PySem.W.Frag}{mg:Str→Option Value}{base:Heap}{N:List Str}{qual:Str}{scope:Scope}{f:Addr}{cd:Value}{A:Around}{outer:List Env}{s₁:Shared}{H₁:Hp}{E:XK}{cl:Nat→Addr}
theorem xs_raise {x:Str}{e₀:Expr}{np cpos pos:Pos}{fs:Rho→Rs (List D)}{n:Nat}(O:Own K mg x)(hO:O.C=cl n)(hg:Gl (cxOf (CX1 P w) P w K mg base N qual scope f cd A outer s₁ H₁ E) x)(ha:XA (cxOf (CX1 P w) P w K mg base N qual scope f cd A outer s₁ H₁ E) cl E [e₀] fs)
  (he:starEach [e₀] (cxOf (CX1 P w) P w K mg base N qual scope f cd A outer s₁ H₁ E).env=(false,eval e₀ (cxOf (CX1 P w) P w K mg base N qual scope f cd A outer s₁ H₁ E).env)::starEach [] (cxOf (CX1 P w) P w K mg base N qual scope f cd A outer s₁ H₁ E).env) (hd:(x == ("__debug__" : Str))=false:=by decide) :
  XS (cxOf (CX1 P w) P w K mg base N qual scope f cd A outer s₁ H₁ E) cl E (.Raise (some (.Call (.Name x np) [e₀] [] cpos)) none pos) (sRs n fs):=by
 obtain⟨t,pt,rt⟩:=ha.ex
 refine XS'.out ⟨_,ps_raise O hg pt he rfl hd,fun H0 F0 ρ σ H F Dn R o=>rt H0 F0 ρ σ H F _ R ?_⟩
 unfold sRs at o
 cases e:fs ρ with
 | ok ds =>
  rw[e] at o
  intro vs H' F' g q
  dsimp only at o
  split at o
  ·rename_i hl
   refine⟨q.length▸hl,?_⟩
   rw[hO]
   exact o H' (R.gr.hh.trans g.hh)
  ·exact o.elim
 | ex n=>rw[e] at o;exact o
 | no=>rw[e] at o;exact o
end
def runD (m:Nat)(g:Rho→Out)(ds:List D):Rs D:=match g (ds.map .fz++List.replicate (m - ds.length) .no) with | .nx _=>.ok .non | .rt d=>.ok d | .ex n=>.ex n|_=>.no
theorem Rl.start {K:PySem.W.Frag}{cl:Nat→Addr}{H F:Hp}{N:List Str}{vs:List V}{ds:List D}(s:Same F H)(q:Dts K cl F vs ds):Rl K cl H F (ds.map .fz++List.replicate (N.length - ds.length) .no) (L2.start N vs) H F:=by
 have shape:∀(i:Nat) (s:Sl),(ds.map Sl.fz++List.replicate (N.length - ds.length) Sl.no)[i]? = some s→(∃d,s=.fz d∧ds[i]? = some d)∨s=.no:=fun i s e=>by
  rcases Nat.lt_or_ge i ds.length with h|h
  ·rw[List.getElem?_append_left (by simpa using h),List.getElem?_map,List.getElem?_eq_getElem h] at e
   exact .inl ⟨ds[i],(Option.some.inj e).symm,List.getElem?_eq_getElem h⟩
  ·rw[List.getElem?_append_right (by simpa using h),List.getElem?_replicate] at e
   split at e
   ·exact .inr (Option.some.inj e).symm
   ·cases e
 refine⟨Gr.refl s,by unfold L2.start;simp[q.length],fun i d e=>?_,fun i d e=>?_,fun i d e=>?_,fun i j s t a z1 z2 o1 o2 e1 e2=>?_⟩
 ·rcases shape i _ e with⟨d',e1,e2⟩|e1
  ·injection e1 with e1;subst e1
   obtain⟨v,h1,h2⟩:=q.get' e2
   refine⟨v,?_,h2⟩
   unfold L2.start
   have hi:=(List.getElem?_eq_some_iff.mp h1).1
   rw[List.getElem?_append_left (by simpa using hi),List.getElem?_map,h1];rfl
  ·cases e1
 ·rcases shape i _ e with⟨d',e1,e2⟩|e1 <;>cases e1
 ·rcases shape i _ e with⟨d',e1,e2⟩|e1 <;>cases e1
 ·rcases shape i _ z1 with⟨d',rfl,_⟩|rfl <;>cases o1
theorem fnD {P:Program}{w:World}{K:PySem.W.Frag}{mg:Str→Option Value}{base:Heap}{cl:Nat→Addr}{x qual:Str}{st:Stmt}{f:Addr}{fd:FuncData}{N ps:List Str}{k m n:Nat}{g:Rho→Out}(Fu:Fun K x qual st f fd)(S:FnScope N ps (defScope st))(hm:N.length=m)(hn:ps.length=n)
  (hb:∀(cdv:Value) (A:Around) (outer:List Env) (s:Shared) (H:Hp) (E:XK),Room k (A.deeper (envOfC qual (defScope st) s.heap.objs.size f cdv))→XSs (cxOf (CX1 P w) P w K mg base N qual (defScope st) f cdv A outer s H E) cl E (defBody st) g):FnOk P w K mg base (CX1 P w) (k+1) f fd ps (spD K cl (runD m g) n):=by
 subst hm hn
 refine Fu.okX S (fun vs H Q E h=>h.choose_spec.choose_spec.2.2.1) fun cdv A outer s H vs Q E hr h=>?_
 obtain⟨F,ds,sm,dq,hl,o⟩:=h
 refine⟨_,hb cdv A outer s H E hr,H,F,_,F,Rl.start (N:=N) sm dq,?_⟩
 unfold runD at o
 cases e:g (ds.map .fz++List.replicate (N.length - ds.length) .no) with
 | nx ρ=>rw[e] at o;exact fun σ H' F' R _=>o .non H' F' R.gr .non
 | rt d=>rw[e] at o;exact fun v H' F' gg q=>o v H' F' gg q
 | bk ρ=>rw[e] at o;exact o.elim
 | ct ρ=>rw[e] at o;exact o.elim
 | ex n=>rw[e] at o;exact o
 | no=>rw[e] at o;exact o
def forZ (i j:Nat)(g:Rho→Out):List D→List D→Rho→Out
 | d::ds,e::es,ρ=>match g ((ρ.set i (.fz d)).set j (.fz e)) with | .nx ρ'=>forZ i j g ds es ρ' | .ct ρ'=>forZ i j g ds es ρ' | .bk ρ'=>.nx ρ'|o=>o
 | _,_,ρ=>.nx ρ
def sForZ (i j:Nat)(fa fb:Rho→Rs D)(g:Rho→Out):Rho→Out:=fun ρ=>match (fa ρ),(fb ρ) with
 | .ok (.tup ds),.ok (.tup es)=>forZ i j g ds es ρ
 | _,_=>.no
section
variable {X:Cx}{cl:Nat→Addr}{E:XK}{a b:Expr}{fa fb:Rho→Rs D}{g:Rho→Out}{p pos zpos tp px py:Pos}{x y:Str}{k:Nat}{body:List Stmt}
theorem sForZ_inv {K:PySem.W.Frag}{H0 F0 F:Hp}{i j:Nat}{ρ:Rho}{Dn:Ends}(o:OutS K cl E H0 F0 F (sForZ i j fa fb g ρ) Dn):∃ds es,fa ρ=.ok (.tup ds)∧fb ρ=.ok (.tup es)∧OutS K cl E H0 F0 F (forZ i j g ds es ρ) Dn:=by
 unfold sForZ at o
 split at o
 ·rename_i ds es e1 e2;exact⟨ds,es,e1,e2,o⟩
 ·exact o.elim
theorem xs_forZ {i j:Nat}(hp:PassesOwn (model X.prog X.w) X.A X.env X.xe)(hc:X.calm=true)(hz:Gl X "zip")(hm:X.mg "zip" = none)(ha:XE X cl E a fa)(hb:XE X cl E b fb)(hg:PG X (.Tuple [.Name x px,.Name y py] k tp) (gTup X.K 2 (gCons (gName i) (gCons (gName j) gNil))))(hbd:XSs X cl E body g)(hs:starEach [a,b] X.env=[(false,eval a X.env),(false,eval b X.env)])(hs2:starEach [b] X.env=[(false,eval b X.env)]):XS X cl E (.For (.Tuple [.Name x px,.Name y py] k tp) (.Call (.Name "zip" p) [a,b] [] zpos) body [] pos) (sForZ i j fa fb g):=by
 obtain⟨t,pt,rt⟩:=ha.ex
 obtain⟨u,pu,ru⟩:=hb.ex
 obtain⟨w,pw,rw'⟩:=hbd.ex
 refine XS'.out ⟨_,ps_for hp hc (pi_ziptt hz hm pt pu hs hs2) hg pw,fun H0 F0 ρ σ H F Dn R o=>rt H0 F0 ρ σ H F _ R ?_⟩
 obtain⟨ds,es,e1,e2,o'⟩:=sForZ_inv o
 rw[e1]
 intro v1 H1 F1 g1 q1
 have R1:=R.grow g1
 refine ru H0 F0 ρ σ H1 F1 _ R1 ?_
 rw[e2]
 intro v2 H2 F2 g2 q2
 have R2:=R1.grow g2
 cases q1 with
 | tup sq1 dq1 =>
  cases q2 with
  | tup sq2 dq2 =>
   have sq1':=g2.ff.seqT sq1
   have dq1':=dq1.mono g2.ff
   refine⟨_,_,_,_,rfl,R2.fh.seqT sq1',R2.fh.seqT sq2,?_⟩
   refine for_zip (fun m σ' H'=>∃ρ' F',Rl X.K cl H0 F0 ρ' σ' H' F'∧Same F2 F'∧OutS X.K cl E H0 F0 F' (forZ i j g (ds.drop m) (es.drop m) ρ') Dn) ⟨ρ,F2,R2,Same.refl _,o'.grow (g1.ff.trans g2.ff)⟩ (fun m σ' H' ⟨ρ',F',R',s',_⟩=>⟨(s'.trans R'.fh).seqT sq1',(s'.trans R'.fh).seqT sq2⟩) ?_ ?_
   ·rintro m z1 z2 pp σ' H' hx hy hpp ⟨ρ',F',R',s',o3⟩
    obtain⟨c1,hd1,qd1⟩:=dq1'.get hx
    obtain⟨c2,hd2,qd2⟩:=dq2.get hy
    have r1:ds.drop m=c1::ds.drop (m+1):=by
     obtain⟨hk,e3⟩:=List.getElem?_eq_some_iff.mp hd1
     rw[List.drop_eq_getElem_cons hk,e3]
    have r2:es.drop m=c2::es.drop (m+1):=by
     obtain⟨hk,e3⟩:=List.getElem?_eq_some_iff.mp hd2
     rw[List.drop_eq_getElem_cons hk,e3]
    rw[r1,r2] at o3
    unfold forZ at o3
    have R4:=R'.grow (Gr.newO (o:=.tup [z1,z2]) R'.fh hpp)
    refine⟨pp,[z1,z2],rfl,.inl (.inl upd_same),rfl,z1,_,rfl,z2,_,rfl,rfl,rw' H0 F0 _ _ _ F' _ ((R4.set (qd1.mono s')).set (qd2.mono s')) ?_⟩
    cases e4:g ((ρ'.set i (.fz c1)).set j (.fz c2)) with
    | nx ρ2=>simp only[e4] at o3;exact fun σ2 H2 F2 R2 s2=>⟨ρ2,F2,R2,s'.trans s2,o3.grow s2⟩
    | ct ρ2=>simp only[e4] at o3;exact fun σ2 H2 F2 R2 s2=>⟨ρ2,F2,R2,s'.trans s2,o3.grow s2⟩
    | bk ρ2=>simp only[e4] at o3;exact o3
    | rt d=>simp only[e4] at o3;exact o3
    | ex n=>simp only[e4] at o3;exact o3
    | no=>simp only[e4] at o3;exact o3
   ·rintro σ' H' ⟨ρ',F',R',s',o3⟩
    rw[dq1'.length,dq2.length] at o3
    have e5:forZ i j g (ds.drop (min ds.length es.length)) (es.drop (min ds.length es.length)) ρ'=.nx ρ':=by
     rcases Nat.le_total ds.length es.length with h|h
     ·rw[Nat.min_eq_left h,List.drop_of_length_le (Nat.le_refl ds.length)];unfold forZ;rfl
     ·rw[Nat.min_eq_right h,List.drop_of_length_le (Nat.le_refl es.length)]
      cases ds.drop es.length <;>(unfold forZ;rfl)
    rw[e5] at o3
    exact o3 σ' H' F' R' (Same.refl _)
def compZ (ft:Rho→Rs Bool)(fe:Rho→Rs D)(ρ0:Rho):List D→List D→Rs (List D)
 | d::ds,c::cs=>match ft ((ρ0.set 0 (.fz d)).set 1 (.fz c)) with
  | .ok true=>(match fe ((ρ0.set 0 (.fz d)).set 1 (.fz c)) with | .ok e=>(compZ ft fe ρ0 ds cs).bind fun es=>.ok (e::es)|_=>.no)
  | .ok false=>compZ ft fe ρ0 ds cs
  | _=>.no
 | _,_=>.ok []
def fCz (fa fb:Rho→Rs D)(ft:Rho→Rs Bool)(fe:Rho→Rs D)(caps:List Nat):Rho→Rs (List D):=fun ρ=>match fa ρ,fb ρ with
 | .ok (.tup ds),.ok (.tup cs)=>(match compZ ft fe (capR 2 caps ρ) ds cs with | .ok es=>if ds.length≤1000000 then .ok es else .no|_=>.no)
 | _,_=>.no
variable {scope:Scope}{caps:List Nat}{elt:Expr}{ifs:List Expr}{ft:Rho→Rs Bool}{fe:Rho→Rs D}
structure CompZ (X:Cx)(cl:Nat→Addr)(scope:Scope)(x y:Str)(caps:List Nat)(tg:Expr)(ifs:List Expr)(elt:Expr)(ft:Rho→Rs Bool)(fe:Rho→Rs D):Prop where
 tgt:∀pins C ex s H,PG (cxC X pins scope [x,y] caps C ex s H) tg (gTup X.K 2 (gCons (gName 0) (gCons (gName 1) gNil)))
 tst:∀pins C ex s H,XTs (cxC X pins scope [x,y] caps C ex s H) cl E0 ifs ft
 elm:∀pins C ex s H,XE (cxC X pins scope [x,y] caps C ex s H) cl E0 elt fe
theorem fCz_inv {K:PySem.W.Frag}{H0 F H:Hp}{ρ:Rho}{Q:List V→Hp→Prop}(o:OutA K cl E H0 F H (fCz fa fb ft fe caps ρ) Q):∃ds cs es,fa ρ=.ok (.tup ds)∧fb ρ=.ok (.tup cs)∧compZ ft fe (capR 2 caps ρ) ds cs=.ok es∧ds.length≤1000000∧OutA K cl E H0 F H (.ok es) Q:=by
 unfold fCz at o
 split at o
 ·rename_i ds cs e1 e2
  split at o
  ·rename_i es e3
   split at o
   ·rename_i hl;exact⟨ds,cs,es,e1,e2,e3,hl,o⟩
   ·exact o.elim
  ·exact o.elim
 ·exact o.elim
theorem xl_compZ (ok:CompOk X scope caps)(hc:X.calm=true)(hz:Gl X "zip")(hm:X.mg "zip" = none)(ha:XE X cl E a fa)(hb:XE X cl E b fb)(CI:CompZ X cl scope x y caps (.Tuple [.Name x px,.Name y py] k tp) ifs elt ft fe)(hs:starEach [a,b] X.env=[(false,eval a X.env),(false,eval b X.env)])(hs2:starEach [b] X.env=[(false,eval b X.env)]) :
  XL X cl E (.ListComp elt [⟨.Tuple [.Name x px,.Name y py] k tp,.Call (.Name "zip" p) [a,b] [] zpos,ifs,0⟩] scope pos) (fCz fa fb ft fe caps):=by
 obtain⟨t,pt,rt⟩:=ha.ex
 obtain⟨u,pu,ru⟩:=hb.ex
 refine⟨_,pe_comp ok hc (pi_ziptt hz hm pt pu hs hs2) (g:=gTup X.K 2 (gCons (gName 0) (gCons (gName 1) gNil))) (tt:=tDB X.K cl E0 ft) (te:=tDE X.K cl E0 fe) ⟨CI.tgt,CI.tst,CI.elm⟩,fun H0 F0 ρ σ H F Q R o=>rt H0 F0 ρ σ H F _ R ?_⟩
 obtain⟨ds,cs,es,e1,e2,hcz,hl,o⟩:=fCz_inv o
 rw[e1]
 intro v1 H1 F1 g1 q1
 have R1:=R.grow g1
 refine ru H0 F0 ρ σ H1 F1 _ R1 ?_
 rw[e2]
 intro v2 H2 F2 g2 q2
 have R2:=R1.grow g2
 cases q1 with
 | tup sq1 dq1 =>
  cases q2 with
  | tup sq2 dq2 =>
   have sq1':=g2.ff.seqT sq1
   have dq1':=dq1.mono g2.ff
   refine⟨_,_,_,_,rfl,R2.fh.seqT sq1',R2.fh.seqT sq2,?_⟩
   refine turns_zip (sz6 (dq1'.length▸hl)) (fun m ys H'=>∃F' es1 es2,Gr F2 H2 F' H'∧Dts X.K cl F' ys es1∧ys.length≤m∧es=es1++es2∧compZ ft fe (capR 2 caps ρ) (ds.drop m) (cs.drop m)=.ok es2) ⟨F2,[],es,Gr.refl R2.fh,.nil,Nat.le_refl _,rfl,hcz⟩ (fun m ys H' ⟨F',_,_,gg,_,h1,_⟩=>⟨(gg.ff.trans gg.fh).seqT sq1',(gg.ff.trans gg.fh).seqT sq2,h1⟩) ?_ ?_
   ·rintro m z1 z2 pp ys H' hx hy hpp ⟨F',es1,es2,gg,qs,hly,rfl,hc'⟩
    obtain⟨c1,hd1,qd1⟩:=dq1'.get hx
    obtain⟨c2,hd2,qd2⟩:=dq2.get hy
    have r1:ds.drop m=c1::ds.drop (m+1):=by
     obtain⟨hk,e3⟩:=List.getElem?_eq_some_iff.mp hd1
     rw[List.drop_eq_getElem_cons hk,e3]
    have r2:cs.drop m=c2::cs.drop (m+1):=by
     obtain⟨hk,e3⟩:=List.getElem?_eq_some_iff.mp hd2
     rw[List.drop_eq_getElem_cons hk,e3]
    rw[r1,r2] at hc'
    unfold compZ at hc'
    have gz:Gr F' H' F' (upd H' pp (.tup [z1,z2])):=Gr.newO (gg.fh) hpp
    have Rz:=((R2.grow gg).grow gz).cap [x,y] caps
    have Rw:Rl X.K cl (upd H' pp (.tup [z1,z2])) F' (((capR 2 caps ρ).set 0 (.fz c1)).set 1 (.fz c2)) (((capS [x,y] caps σ).set 0 (some z1)).set 1 (some z2)) (upd H' pp (.tup [z1,z2])) F':=(Rz.set (qd1.mono gg.ff)).set (qd2.mono gg.ff)
    refine⟨pp,[z1,z2],rfl,.inl (.inl upd_same),rfl,z1,_,rfl,z2,_,rfl,rfl,?_,_,F',_,F',Rw,?_⟩
    ·exact(Kps.set rfl).trans (Kps.set rfl)
    ·cases e3:ft (((capR 2 caps ρ).set 0 (.fz c1)).set 1 (.fz c2)) with
     | ok bb =>
      rw[e3] at hc'
      intro H3 F3 g3
      cases bb with
      | true =>
       rw[if_pos rfl]
       cases e4:fe (((capR 2 caps ρ).set 0 (.fz c1)).set 1 (.fz c2)) with
       | ok ee =>
        simp only[e4] at hc'
        refine⟨_,F',_,F3,Rw.grow g3,?_⟩
        rw[e4]
        intro yy H4 F4 g4 qy
        cases e5:compZ ft fe (capR 2 caps ρ) (ds.drop (m+1)) (cs.drop (m+1)) with
        | ok es3 =>
         rw[e5] at hc'
         injection hc' with hc'
         exact⟨F4,es1++[ee],es3,gg.trans (gz.trans (g3.trans g4)),(qs.mono (g3.ff.trans g4.ff)).append (.cons qy .nil),by simp;exact hly,by rw[← hc',List.append_assoc];rfl,rfl⟩
        | ex n=>rw[e5] at hc';cases hc'
        | no=>rw[e5] at hc';cases hc'
       | ex n=>simp only[e4] at hc';cases hc'
       | no=>simp only[e4] at hc';cases hc'
      | false =>
       rw[if_neg Bool.false_ne_true]
       exact⟨F3,es1,es2,gg.trans (gz.trans g3),qs.mono g3.ff,Nat.le_succ_of_le hly,rfl,hc'⟩
     | ex n=>rw[e3] at hc';cases hc'
     | no=>rw[e3] at hc';cases hc'
   ·rintro ys H' ⟨F',es1,es2,gg,qs,hly,rfl,hc'⟩
    rw[dq1'.length,dq2.length] at hc'
    have e5:compZ ft fe (capR 2 caps ρ) (ds.drop (min ds.length cs.length)) (cs.drop (min ds.length cs.length))=.ok []:=by
     rcases Nat.le_total ds.length cs.length with h|h
     ·rw[Nat.min_eq_left h,List.drop_of_length_le (Nat.le_refl ds.length)];unfold compZ;rfl
     ·rw[Nat.min_eq_right h,List.drop_of_length_le (Nat.le_refl cs.length)]
      cases ds.drop cs.length <;>(unfold compZ;rfl)
    rw[e5] at hc'
    injection hc' with hc'
    rw[← hc',List.append_nil] at o
    exact o ys H' F' (g1.trans (g2.trans gg)) qs
end
end L2
namespace L2
open PySem PySem.Spec PyProof.Rows
def fFl (i:Nat)(f:Rho→Rs D):Rho→Rs D:=fun ρ=>match owL ρ i with
 | some ds=>(match f (ρ.set i (.fz (.lst ds))) with | .ok d=>if d.fl=true then .ok d else .no | .ex n=>.ex n | .no=>.no)
 | none=>.no
section
variable {X:Cx}{cl:Nat→Addr}{E:XK}{e a b:Expr}{fa fb:Rho→Rs D}{pos:Pos}{st:Stmt}
theorem Dt.flatAny {K:PySem.W.Frag}{F F':Hp}{v:V}{d:D}(q:Dt K cl F v d)(h:d.fl=true):Dt K cl F' v d:=by
 cases q with
 | non=>exact .non
 | bl b=>exact .bl b
 | int i=>exact .int i
 | str l ok=>exact .str l ok
 | _=>cases h
theorem xe_fl {i:Nat}(h:XE X cl E e fa):XE X cl E e (fFl i fa):=by
 obtain⟨t,pt,rt⟩:=h.ex
 refine XE'.out ⟨_,pt,fun H0 F0 ρ σ H F Q R o=>?_⟩
 unfold fFl at o
 cases hw:owL ρ i with
 | none=>rw[hw] at o;exact o.elim
 | some ds =>
  rw[hw] at o
  obtain⟨F1,s1,R1⟩:=R.ice (owL_some hw)
  refine rt H0 F0 _ σ H F1 _ R1 ?_
  cases e:fa (ρ.set i (.fz (.lst ds))) with
  | ok d =>
   simp only[e] at o
   split at o
   ·rename_i hf
    exact fun v H' F' g q=>o v H' F ⟨Same.refl _,g.hh,R.fh.trans g.hh,fun _ _ _ _ z=>z⟩ (q.flatAny hf)
   ·exact o.elim
  | ex n=>simp only[e] at o;exact o
  | no=>simp only[e] at o;exact o.elim
variable {scope:Scope}{x:Str}{caps:List Nat}{elt tg iter:Expr}{ifs:List Expr}{fi:Rho→Rs (List D)}{ft:Rho→Rs Bool}{fe:Rho→Rs D}
def rCatL (K:PySem.W.Frag):R2:=fun x y H Q=>∃l b xs zs,x=.ref l∧y=.ref b∧SqL K H l xs∧SqL K H b zs∧xs.length+zs.length≤sizeLine∧∀p,H p=none→Q (.ref p) (upd H p (.lst (xs++zs)))
theorem op_catL:OpR X (binaryOp .Add) (rCatL X.K):=by
 intro pins s σ H x y v u Q I rx ry h
 obtain⟨l,b,xs,zs,rfl,rfl,hH,hB,hz,q⟩:=h
 cases rx
 cases ry
 obtain⟨its,r,⟨o,n,e,hc,hdd,hd⟩,z⟩:=I.list hH
 obtain⟨its2,r2,⟨o2,n2,e2,hc2,hdd2,hd2⟩,z2⟩:=I.list hB
 obtain⟨cls,dd,data,sl⟩:=o
 obtain⟨cls2,dd2,data2,sl2⟩:=o2
 simp only at hc hd hc2 hd2
 subst hc hd hc2 hd2
 refine concat_meets ⟨_,e,rfl⟩ ⟨_,e2,rfl⟩ noFill_list_add seq_list_add PySem.F.slot_list_add PySem.F.entry_list_add (PySem.F.args_list_add_2 _ _) (list_addW l b its.toArray its2.toArray n n2 dd dd2 sl sl2 (by rw[List.size_toArray,List.size_toArray,← r.length,← r2.length];exact hz)) ⟨e,e2,?_⟩
 have ea:its.toArray++its2.toArray=(its++its2).toArray:=by simp
 rw[ea]
 exact⟨.ref _,_,I.lnew (t':=s.toks) (r.append r2) (by rw[List.length_append];omega),rfl,q _ I.fresh⟩
theorem catD_inv {a b:D}{z:List D}(e:catD a b=some z):∃l m,a=.lst l∧b=.lst m∧l.length+m.length≤1000000∧z=l++m:=by
 cases a with
 | lst l =>
  cases b with
  | lst m =>
   by_cases h:l.length+m.length≤1000000
   ·exact⟨l,m,rfl,rfl,h,(Option.some.inj ((if_pos h).symm.trans e)).symm⟩
   ·cases (if_neg h).symm.trans e
  | _=>cases e
 | _=>cases e
theorem xl_cat (ha:XE X cl E a fa)(hb:XE X cl E b fb):XL X cl E (.BinOp a .Add b pos) (fL2 catD fa fb):=by
 obtain⟨t,pt,rt⟩:=ha.ex
 obtain⟨u,pu,ru⟩:=hb.ex
 refine⟨_,pe_op op_catL pt pu,fun H0 F0 ρ σ H F Q R o=>rt H0 F0 ρ σ H F _ R (OutE.fstA o fun d v H1 F1 g q o1=>?_)⟩
 refine ru H0 F0 ρ σ H1 F1 _ (R.grow g) (OutE.fstA o1 fun d2 v2 H2 F2 g2 q2 o2=>?_)
 obtain⟨z,hz,k⟩:=o2.lf
 have fh:=(R.grow (g.trans g2)).fh
 have q':=q.mono g2.ff
 obtain⟨l,m,rfl,rfl,hl,rfl⟩:=catD_inv hz
 cases q' with
 | lst sq dq =>
  cases q2 with
  | lst sq2 dq2=>exact⟨_,_,_,_,rfl,rfl,fh.seq sq,fh.seq sq2,sz6 (by rw[dq.length,dq2.length];exact hl),fun p hp=>k _ _ _ (Gr.refl fh) (dq.append dq2) p hp⟩
end
end L2
namespace L2
open PySem PySem.Spec PyProof.Rows
def sp_law (K:PySem.W.Frag):Sp:=fun vs H Q _=>∃(a:Addr) (ns:List Int),vs=[.ref a]∧SqL K H a (ns.map V.int)∧ns.length≤63∧∀H',Q (.bl true) H'
theorem law_sp {K:PySem.W.Frag}{cl:Nat→Addr}{fn:List D→Rs D}(h:∀ns:List Int,ns.length≤63→fn [.lst (ns.map .int)]=.ok (.bl true)){vs:List V}{H:Hp}{Q:VK}{E E':XK}(hs:sp_law K vs H Q E):spD K cl fn 1 vs H Q E':=by
 obtain⟨a,ns,rfl,sq,hl,k⟩:=hs
 refine⟨H,[.lst (ns.map .int)],Same.refl _,.cons (.lst sq (dts_map fun i _=>.int i)) .nil,rfl,?_⟩
 rw[h ns hl]
 intro v H' F' g q
 cases q
 exact k H'
theorem law_ok {P:Program}{w:World}{K:PySem.W.Frag}{mg:Str→Option Value}{base:Heap}{cl:Nat→Addr}{fn:List D→Rs D}{k:Nat}{f:Addr}{fd:FuncData}{ps:List Str}(G:FnOk P w K mg base (CX1 P w) k f fd ps (spD K cl fn 1))(h:∀ns:List Int,ns.length≤63→fn [.lst (ns.map .int)]=.ok (.bl true)):FnOk P w K mg base CX0 k f fd ps (sp_law K) where
 len:=fun vs H Q E hs=>G.len vs H Q E (law_sp h hs)
 run:=fun A outer s H args us vs Q E hr e0 bt vl hs=>by
  refine codeAny_mono (G.run A outer s H args us vs Q E0 hr e0 bt vl (law_sp (E:=E) h hs)) fun r s' q=>?_
  cases r with
  | error e =>
   obtain⟨a,C,a0,H',B,_,_,_,_,_,_,_,_,_,_,_,z⟩:=(show Flown P w outer H s E0 e s' from q)
   exact z.elim
  | ok fl=>cases fl <;>exact q
theorem len1 {α:Type}{us:List α}(h:us.length=1):∃a,us=[a]:=List.length_eq_one_iff.mp h
theorem len2 {α:Type}{us:List α}(h:us.length=2):∃a b,us=[a,b]:=by
 cases us with
 | nil=>cases h
 | cons a t=>obtain⟨b,rfl⟩:=len1 (Nat.succ.inj h);exact⟨a,b,rfl⟩
theorem len3 {α:Type}{us:List α}(h:us.length=3):∃a b c,us=[a,b,c]:=by
 cases us with
 | nil=>cases h
 | cons a t=>obtain⟨b,c,rfl⟩:=len2 (Nat.succ.inj h);exact⟨a,b,c,rfl⟩
theorem len4 {α:Type}{us:List α}(h:us.length=4):∃a b c d,us=[a,b,c,d]:=by
 cases us with
 | nil=>cases h
 | cons a t=>obtain⟨b,c,d,rfl⟩:=len3 (Nat.succ.inj h);exact⟨a,b,c,d,rfl⟩
end L2
namespace L2
open PySem PySem.Spec PyProof.Rows
def getK (ds:List (List Nat×D))(k:List Nat):Option D:=(ds.find? fun kv=>decide (kv.1=k)).map (·.2)
def getD:D→D→Option D
 | .dct ds,.str k=>getK ds k
 | _,_=>none
theorem Dks.val {K:PySem.W.Frag}{cl:Nat→Addr}{F:Hp}{k:List Nat}:∀{vs:List (Key×V)}{ds:List (List Nat×D)},Dks K cl F vs ds→match getK ds k with|some d=>∃v,valV vs (Sum.inr (T k):Key)=some v∧Dt K cl F v d|none=>valV vs (Sum.inr (T k):Key)=none
 | _,_,.nil=>rfl
 | _, _,.cons (l:=l) (v:=v) (d:=d) (vs:=vs) (ds:=ds) ok q r=>by
  have ih:=Dks.val (k:=k) r
  by_cases h:l=k
  ·subst h
   have e1:getK ((l,d)::ds) l=some d:=by simp[getK]
   rw[e1]
   exact⟨v,by simp[valV],q⟩
  ·have h':¬((Sum.inr (T l):Key)=Sum.inr (T k)):=fun z=>by injection z with z;exact h (T_inj z)
   have e1:getK ((l,d)::ds) k=getK ds k:=by simp[getK,h]
   have e2:valV ((Sum.inr (T l),v)::vs) (Sum.inr (T k):Key)=valV vs (Sum.inr (T k):Key):=by
    unfold valV
    rw[List.find?_cons_of_neg (by simpa using h')]
   rw[e1,e2]
   exact ih
section
variable {X:Cx}{cl:Nat→Addr}{E:XK}{e o a b:Expr}{es:List Expr}{fa fb:Rho→Rs D}{fs:Rho→Rs (List D)}{x:Str}{p pos:Pos}
theorem getD_inv {a b d:D}(e:getD a b=some d):∃ds k,a=.dct ds∧b=.str k∧getK ds k=some d:=by
 cases a with
 | dct ds =>
  cases b with
  | str k=>exact⟨ds,k,rfl,rfl,e⟩
  | _=>cases e
 | _=>cases e
theorem Dt.dctE {K:PySem.W.Frag}{F:Hp}{v:V}{ds:List (List Nat×D)}(q:Dt K cl F v (.dct ds)):∃(a:Addr) (kvs:List (Key×V)),v=.ref a∧F a=some (.dK kvs)∧Dks K cl F kvs ds:=by
 cases q with|dct h k=>exact⟨_,_,rfl,h,k⟩
theorem xe_get (hu:X.A.units+1<cLine)(ha:XE X cl E a fa)(hb:XE X cl E b fb)(hs:NoSl b:=by intro _ _;rfl):XE X cl E (.Subscript a b pos) (f2 getD fa fb):=by
 obtain⟨t,pt,rt⟩:=ha.ex
 obtain⟨u,pu,ru⟩:=hb.ex
 refine XE'.out ⟨_,pe_dget hu pt pu hs,fun H0 F0 ρ σ H F Q R o=>rt H0 F0 ρ σ H F _ R (OutE.fst o fun d v H1 F1 g1 q o1=>?_)⟩
 refine ru H0 F0 ρ σ H1 F1 _ (R.grow g1) (OutE.fst o1 fun e w H2 F2 g2 q2 o2=>?_)
 obtain⟨z,hz,k⟩:=o2.lf
 have fh:=(R.grow (g1.trans g2)).fh
 have q':=q.mono g2.ff
 obtain⟨ds,key,rfl,rfl,hz'⟩:=getD_inv hz
 obtain⟨ad,kvs,rfl,hd,hk⟩:=q'.dctE
 obtain⟨rfl,ok⟩:=q2.strE
 have hv:=hk.val (k:=key)
 rw[hz'] at hv
 obtain⟨v,e1,e2⟩:=hv
 exact⟨ad,v,rfl,e1▸DGet.k (k:=Sum.inr (T key)) (fh _ _ hd),k _ _ _ (Gr.refl fh) e2⟩
def seqD:D→Option (List D)
 | .lst ds=>some ds
 | .tup ds=>some ds
 | _=>none
theorem Dt.seq {K:PySem.W.Frag}{F:Hp}{v:V}{d:D}{ds:List D}(q:Dt K cl F v d)(e:seqD d=some ds):∃(a:Addr) (vs:List V),v=.ref a∧(SqL K F a vs∨SqT K F a vs)∧Dts K cl F vs ds:=by
 cases q with
 | lst sq dq=>obtain rfl:=Option.some.inj e;exact⟨_,_,rfl,.inl sq,dq⟩
 | tup sq dq=>obtain rfl:=Option.some.inj e;exact⟨_,_,rfl,.inr sq,dq⟩
 | _=>cases e
def idxD:D→D→Option D
 | .lst ds,.str k=>if ds.all isS=true∧ds.length≤1000∧k∈ds.map unS then some (.int ((ds.map unS).idxOf k:Nat)) else none
 | .tup ds,.str k=>if ds.all isS=true∧ds.length≤1000∧k∈ds.map unS then some (.int ((ds.map unS).idxOf k:Nat)) else none
 | _,_=>none
def isTp:D→Bool
 | .tup _=>true
 | _=>false
theorem idx_facts {ls:List (List Nat)}{k:List Nat}(h:k∈ls):flatV (.str (T k))=true∧(vT ls).all flatV=true∧(vT ls)[ls.idxOf k]? = some (.str (T k))∧eqV (.str (T k)) (.str (T k))=true ∧
  ∀(m:Nat) (w:V),m<ls.idxOf k→(vT ls)[m]? = some w→eqV w (.str (T k))=false:=by
 have hl:=List.idxOf_lt_length_of_mem h
 have key:∀x,eqV (.str (T x)) (.str (T k))=(x == k):=fun x=>T_beq x k
 refine⟨rfl,?_,?_,?_,?_⟩
 ·unfold vT;simp[flatV]
 ·unfold vT
  rw[List.getElem?_map,List.getElem?_eq_getElem hl,List.getElem_idxOf hl];rfl
 ·rw[key];simp
 ·intro m w hm hw
  unfold vT at hw
  have hml:m<ls.length:=by omega
  rw[List.getElem?_map,List.getElem?_eq_getElem hml] at hw
  obtain rfl:=Option.some.inj hw
  have hne:ls[m]≠k:=by
   have:=List.not_of_lt_findIdx (p:=(· == k)) (xs:=ls) (i:=m) hm
   simpa using this
  show eqV (.str (T ls[m])) (.str (T k))=false
  rw[key];simp[hne]
def tBMT (K:PySem.W.Frag)(r:V→List V→Hp→VK→Prop)(to:TE)(t:TA):TE:=fun σ H Q=>to σ H fun x H1=>(∃(a:Addr) (xs:List V),x=.ref a∧SqT K H1 a xs)∧t σ H1 fun xs H2=>r x xs H2 Q
theorem pe_bmT {to:TE}{t:TA}{name:Str}{apos cpos:Pos}{id:String}{r:V→List V→Hp→VK→Prop}(pa:PlainAttrs "tuple")(slot:Slot "tuple" name id)(hty:typeOf (.builtin id)=pure (.type "method_descriptor"))(hm:MtR X id r)(ho:PE X o to)(ha:PA X (e::es) t)
  (hbase:attributeBase o name X.env (eval o X.env)=eval o X.env)
  (hfew:((backTo cpos (starEach (e::es) X.env)).all (fun x=>!x.1)&&(backToKw cpos (keywordEach [] X.env)).all (fun x=>x.1.isSome)
   && decide ((e::es).length+([]:List Keyword).length+(if ([]:List Keyword).isEmpty then 0 else 1)<30))=true)
  (hline:(apos.endLine == cpos.line)=true) (hs:starEach (e::es) X.env=(false,eval e X.env)::starEach es X.env) (hplain:(backTo cpos (starEach es X.env)).any (·.1)=false) :
  PE X (.Call (.Attribute o name apos) (e::es) [] cpos) (tBMT X.K r to t):=by
 intro pins s σ H Q I h
 refine wpAny_Call_method_late hbase hfew hline rfl (thn (ho pins s σ H _ I h) fun v s1 hq39=>?_)
 obtain⟨x,H1,I1,r1,ty,q1⟩:=hq39
 obtain⟨ad,xs,rfl,sq⟩:=ty
 cases r1
 obtain⟨ob,e1,c1,d1⟩:=I1.noDict sq
 refine⟨"tuple", id,pa,slot,hty,⟨ob,e1,c1⟩,fun a z=>by cases z;exact⟨ob,e1,d1⟩,?_⟩
 have hA:=ha cpos pins s1 σ H1 _ I1 q1
 rw[hs] at hA ⊢
 refine Calls.callWith_builtin (by show(false || (backTo cpos (starEach es X.env)).any (·.1))=false;rw[hplain] <;>rfl) (Calls.evalArgs_plain ?_)
 exact thn hA fun us s2 ⟨vs,H2,I2,r2,q2⟩=>hm pins s2 σ H2 (.ref ad) vs (.ref ad) us Q I2 rfl r2 q2
theorem xe_idxT {apos cpos:Pos}(ho:XE X cl E o fa)(ha:XE X cl E e fb)(m:Mth X o e "index" apos cpos):XE X cl E (.Call (.Attribute o "index" apos) [e] [] cpos) (fM isTp idxD fa fb):=by
 obtain⟨t,pt,rt⟩:=ho.ex
 obtain⟨u,pu,ru⟩:=ha.ex
 refine XE'.out ⟨_,pe_bmT PySem.F.plainAttrs_tuple PySem.F.slot_tuple_index PySem.F.type_tuple_index mt_indexT pt (pa_cons pu pa_nil m.hs) m.base m.few m.line m.hs m.plain,fun H0 F0 ρ σ H F Q R o=>rt H0 F0 ρ σ H F _ R (OutE.fst o fun d v H1 F1 g1 q o1=>?_)⟩
 split at o1
 ·rename_i hd
  cases q with
  | tup sq dq =>
   rename_i ad xs ds
   refine⟨⟨ad,xs,rfl,(R.grow g1).fh.seqT sq⟩,ru H0 F0 ρ σ H1 F1 _ (R.grow g1) (OutE.fst o1 fun d2 v2 H2 F2 g2 q2 o2=>?_)⟩
   obtain⟨z,hz,k⟩:=o2.lf
   have fh:=(R.grow (g1.trans g2)).fh
   cases q2 with
   | str key ok2 =>
    dsimp only [idxD] at hz
    split at hz
    ·rename_i h
     obtain rfl:=Option.some.inj hz
     obtain⟨e1,e2,e3⟩:=dq.texts h.1
     subst e1
     obtain⟨a1,a2,a3,a4,a5⟩:=idx_facts h.2.2
     exact⟨ad,_,_,_,_,rfl,rfl,fh.seqT (g2.ff.seqT sq),a1,a2,a3,a4,a5,k _ _ _ (Gr.refl fh) (.int _)⟩
    ·cases hz
   | _=>cases hz
  | _=>cases hd
 ·exact o1.elim
end
def strD:List D→Option D
 | [.int i]=>if 0≤i∧i≤9 then some (.str [48+i.toNat]) else none
 | _=>none
section
variable {K:PySem.W.Frag}{cl:Nat→Addr}
theorem n_str:Fn1 K cl (fun xs H Q=>∃i,xs=[.int i]∧i.natAbs.log2<1920∧Q (.str (toString i)) H) strD:=fun F H vs ds d Q s q e k=>by
 match ds,q,e with
 | [.int i],q,e =>
  obtain⟨v,rfl,q1⟩:=q.one
  cases q1
  dsimp only [strD] at e
  split at e
  ·rename_i h
   obtain rfl:=Option.some.inj e
   obtain⟨n,rfl⟩:=Int.eq_ofNat_of_zero_le h.1
   have key:∀n<10,((toString ((n:Nat):Int):String):Str)=T [48+n]∧((n:Nat):Int).natAbs.log2<1920:=by decide +kernel
   have hn:n<10:=by omega
   refine⟨_,rfl,(key n hn).2,?_⟩
   have:=k (.str (T [48+n])) _ _ (Gr.refl s) (.str _ (T_ok (fun c hc=>by rw[List.mem_singleton.mp hc];omega) (by show 1≤_;decide)))
   rw[(key n hn).1]
   exact this
  ·cases e
end
end L2
namespace L2
open PySem PySem.Spec PyProof.Rows
section
variable {X:Cx}{cl:Nat→Addr}{E:XK}{a b e:Expr}{fa fb:Rho→Rs D}{pos:Pos}{st:Stmt}{g:Rho→Out}
def zipCL (l:List Nat)(ds:List D):List (List Nat×D):=(l.zip ds).foldl (fun m p=>putD m [p.1] p.2) []
def zipCD (a b:D):Option D:=match a,b with
 | .str l,.tup ds=>if l.all (fun c=>decide (c<128))=true∧l.length≤1000 then some (.dct (zipCL l ds)) else none
 | _,_=>none
theorem zipC_dks {K:PySem.W.Frag}{F:Hp}:∀{l:List Nat}{vs:List V}{ds:List D}{m:List (Key×V)}{n:List (List Nat×D)},(∀c∈l,TxtOk (T [c]))→Dts K cl F vs ds→Dks K cl F m n →
  Dks K cl F ((l.zip vs).foldl (fun m p=>putK m (Sum.inr (T [p.1])) p.2) m) ((l.zip ds).foldl (fun m p=>putD m [p.1] p.2) n)
 | [],_,_,_,_,_,_,h=>h
 | _::_,_,_,_,_,_,.nil,h=>h
 | c::l,_,_,_,_,k,.cons q t,h=>by
  rw[List.zip_cons_cons,List.zip_cons_cons,List.foldl_cons,List.foldl_cons]
  exact zipC_dks (fun d hd=>k d (.tail _ hd)) t (h.put (k c (.head _)) q)
theorem xe_dictzipC {p1 p2 pos1 pos2:Pos}(hc:X.calm=true)(hd:Gl X "dict")(md:X.mg "dict" = none)(hz:Gl X "zip")(mz:X.mg "zip" = none)(ha:XE X cl E a fa)(hb:XE X cl E b fb)
  (hs:starEach [a,b] X.env=[(false,eval a X.env),(false,eval b X.env)]:=by rfl) (hs2:starEach [b] X.env=[(false,eval b X.env)]:=by rfl)
  (hs3:starEach [.Call (.Name "zip" p2) [a,b] [] pos2] X.env=[(false,eval (.Call (.Name "zip" p2) [a,b] [] pos2) X.env)]:=by rfl) :
  XE X cl E (.Call (.Name "dict" p1) [.Call (.Name "zip" p2) [a,b] [] pos2] [] pos1) (f2 zipCD fa fb):=by
 obtain⟨t,pt,rt⟩:=ha.ex
 obtain⟨u,pu,ru⟩:=hb.ex
 refine XE'.out ⟨_,pe_dictzip hc pt pu hd hz md mz hs hs2 hs3,fun H0 F0 ρ σ H F Q R o=>?_⟩
 unfold tZipD tCons
 refine rt H0 F0 ρ σ H F _ R (OutE.fst o fun d v H1 F1 g1 q o1=>?_)
 refine ru H0 F0 ρ σ H1 F1 _ (R.grow g1) (OutE.fst o1 fun e w H2 F2 g2 q2 o2=>?_)
 obtain⟨z,hz,k⟩:=o2.lf
 have fh:=(R.grow (g1.trans g2)).fh
 unfold zipCD at hz
 split at hz
 ·rename_i l ds
  split at hz
  ·rename_i h
   obtain rfl:=Option.some.inj hz
   cases q with
   | str l ok =>
   cases q2 with
   | tup sq dq =>
   have h1:∀c∈l,c<128:=fun c hc=>of_decide_eq_true (List.all_eq_true.mp h.1 c hc)
   refine⟨l,_,_,rfl,fh.seqT sq,h1,h.2,fun p hp=>k _ _ _ (Gr.new fh hp) ?_⟩
   exact .dct upd_same ((zipC_dks (fun c hc=>txt1 ok hc) dq .nil).mono (Same.upd (fh.free hp)))
  ·cases hz
 ·cases hz
def isI:D→Bool
 | .int _=>true
 | _=>false
def unN:D→Int
 | .int i=>i
 | _=>0
theorem Dts.ints {K:PySem.W.Frag}{F:Hp}:∀{vs:List V}{ds:List D},Dts K cl F vs ds→ds.all isI=true→vs=(ds.map unN).map V.int
 | _,_,.nil,_=>rfl
 | _,_,.cons q r,h=>by
  rw[List.all_cons,Bool.and_eq_true] at h
  have:=Dts.ints r h.2
  cases q <;>simp[isI] at h
  rw[this];rfl
def sumD:List D→Option D
 | [.tup ds]=>if ds.all isI=true then some (.int (ds.map unN).sum) else none
 | _=>none
theorem n_sum {K:PySem.W.Frag}:Fn1 K cl (fun xs H Q=>∃(a:Addr) (ns:List Int),xs=[.ref a]∧SqT K H a (ns.map V.int)∧Q (.int ns.sum) H) sumD:=fun F H vs ds d Q s q e k=>by
 match ds,q,e with
 | [.tup l],q,e =>
  obtain⟨v,rfl,q1⟩:=q.one
  dsimp only [sumD] at e
  split at e
  ·rename_i h
   obtain rfl:=Option.some.inj e
   cases q1 with
   | tup sq dq =>
    rw[dq.ints h] at sq
    exact⟨_,_,rfl,s.seqT sq,k _ _ _ (Gr.refl s) (.int _)⟩
  ·cases e
theorem Rl.iceD {K:PySem.W.Frag}{F H:Hp}{H0 F0:Hp}{ρ:Rho}{σ:St}{i:Nat}{ds:List (List Nat×D)}(R:Rl K cl H0 F0 ρ σ H F)(hi:ρ[i]? = some (.od ds)):∃F',Same F F'∧Rl K cl H0 F0 (ρ.set i (.fz (.dct ds))) σ H F':=by
 obtain⟨a,vs,h1,h2,h3,h4,h5⟩:=R.od i ds hi
 have sm:Same F (upd F a (.dK vs)):=Same.upd h3
 have far:∀(j:Nat) (s:Sl) (c:Addr),j≠i→ρ[j]? = some s→s.own=true→σ[j]? = some (some (.ref c))→c≠a:=fun j s c hj e o z w=>hj (R.ap j i s _ a e hi o rfl (w▸z) h1)
 refine⟨upd F a (.dK vs),sm,⟨⟨R.gr.ff.trans sm,R.gr.hh,fun c o e=>?_,fun c o hc m q=>?_⟩,by simp[R.len],fun j e z=>?_,fun j e z=>?_,fun j e z=>?_,fun j k s t c z1 z2 o1 o2 e1 e2=>?_⟩⟩
 ·by_cases w:c=a
  ·subst w;rw[upd_same] at e;rw[← e];exact h2
  ·rw[upd_ne w] at e;exact R.fh c o e
 ·have hne:c≠a:=fun w=>by rw[w,h4] at hc;cases hc
  rw[upd_ne hne];exact R.gr.no c o hc m q
 ·rcases get_set z with⟨rfl,q,hl⟩|⟨hj,q⟩
  ·injection q with q;subst q
   exact⟨.ref a,h1,.dct upd_same (h5.mono sm)⟩
  ·obtain⟨v,k1,k2⟩:=R.fz j e q
   exact⟨v,k1,k2.mono sm⟩
 ·rcases get_set z with⟨rfl,q,hl⟩|⟨hj,q⟩
  ·cases q
  ·obtain⟨c,xs,k1,k2,k3,k4,k5⟩:=R.ow j e q
   exact⟨c,xs,k1,k2,by rw[upd_ne (far j _ c (Ne.symm hj) q rfl k1)];exact k3,k4,k5.mono sm⟩
 ·rcases get_set z with⟨rfl,q,hl⟩|⟨hj,q⟩
  ·cases q
  ·obtain⟨c,xs,k1,k2,k3,k4,k5⟩:=R.od j e q
   exact⟨c,xs,k1,k2,by rw[upd_ne (far j _ c (Ne.symm hj) q rfl k1)];exact k3,k4,k5.mono sm⟩
 ·rcases get_set z1 with⟨rfl,q,hl⟩|⟨hj,q⟩
  ·subst q;cases o1
  ·rcases get_set z2 with⟨rfl,q2,hl⟩|⟨hk,q2⟩
   ·subst q2;cases o2
   ·exact R.ap j k s t c q q2 o1 o2 e1 e2
def sIceD (i:Nat)(g:Rho→Out):Rho→Out:=fun ρ=>match ρ[i]? with|some (.od ds)=>g (ρ.set i (.fz (.dct ds)))|_=>.no
theorem xs_iceD {i:Nat}(h:XS X cl E st g):XS X cl E st (sIceD i g):=by
 obtain⟨t,pt,rt⟩:=h.ex
 refine XS'.out ⟨t,pt,fun H0 F0 ρ σ H F Dn R o=>?_⟩
 unfold sIceD at o
 split at o
 ·rename_i ds hi
  obtain⟨F',sm,R'⟩:=R.iceD hi
  exact rt H0 F0 _ σ H F' Dn R' (o.grow sm)
 ·exact o.elim
end
end L2
namespace L2
open PySem PySem.Spec PyProof.Rows
end L2
namespace L2
open PySem PySem.Spec PyProof.Rows
end L2
namespace L2
open PySem PySem.Spec PyProof.Rows
end L2
namespace L2
open PySem PySem.Spec PyProof.Rows
def revD:D→Option D
 | .tup ds=>some (.tup ds.reverse)
 | _=>none
section
variable {X:Cx}{cl:Nat→Addr}{E:XK}{e:Expr}{fa:Rho→Rs D}{pos p2:Pos}
theorem Dts.rev {K:PySem.W.Frag}{F:Hp}:∀{vs:List V}{ds:List D},Dts K cl F vs ds→Dts K cl F vs.reverse ds.reverse
 | _,_,.nil=>.nil
 | _,_,.cons q r=>by rw[List.reverse_cons,List.reverse_cons];exact(Dts.rev r).append (.cons q .nil)
theorem xe_revT {st:Expr}(he:XE X cl E e fa)(hst:PE X st (tUn (rU fun i=>.int (-i)) (tC (.int 1)))):XE X cl E (.Subscript e (.Slice none none (some st) p2) pos) (f1 revD fa):=by
 obtain⟨t,pt,rt⟩:=he.ex
 refine XE'.out ⟨_,pe_revT pt hst,fun H0 F0 ρ σ H F Q R o=>rt H0 F0 ρ σ H F _ R (OutE.fst o fun d v H1 F1 g q o1=>?_)⟩
 obtain⟨z,hz,k⟩:=o1.lf
 have fh:=(R.grow g).fh
 cases q with
 | tup sq dq =>
  obtain rfl:=Option.some.inj hz
  exact⟨_,_,rfl,fh.seqT sq,fun p hp=>k _ _ _ (Gr.new fh hp) (.tup (.inl (.inl upd_same)) (dq.rev.mono (Same.upd (fh.free hp))))⟩
 | _=>cases hz
end
structure XEw (X:Cx)(cl:Nat→Addr)(E:XK)(e:Expr)(f:Rho→Rs D):Prop where
 out:XE X cl E e f
structure XAw (X:Cx)(cl:Nat→Addr)(E:XK)(es:List Expr)(f:Rho→Rs (List D)):Prop where
 out:XA X cl E es f
section
variable {X:Cx}{cl:Nat→Addr}{E:XK}{e:Expr}{es:List Expr}{f:Rho→Rs D}{fs:Rho→Rs (List D)}{pos:Pos}
theorem yw_nil:XAw X cl E [] aNil:=⟨xa_nil⟩
theorem yw_cons (h1:XEw X cl E e f)(h2:XAw X cl E es fs)(hs:starEach (e::es) X.env=(false,eval e X.env)::starEach es X.env):XAw X cl E (e::es) (aCons f fs):=⟨xa_cons h1.out h2.out hs⟩
theorem yw_lst (h:XAw X cl E es fs):XEw X cl E (.List es pos) (fO mkL fs):=⟨xe_lst h.out⟩
theorem yw_tup {x1}(h:XAw X cl E es fs):XEw X cl E (.Tuple es x1 pos) (fO mkT fs):=⟨xe_tup h.out⟩
theorem yw_str {x:Str}{j}{l:List Nat}(h:x=T l)(ok:TxtOk (T l)):XEw X cl E (.Constant (.str x) j pos) (fC (.str l)):=⟨xe_str h ok⟩
theorem yw_ix {a b:Expr}{fa fb:Rho→Rs D}(ha:XEw X cl E a fa)(hb:XEw X cl E b fb)(hs:PlainIx b):XEw X cl E (.Subscript a b pos) (f2 ixD fa fb):=⟨xe_ix ha.out hb.out hs⟩
theorem yw_int {i j}:XEw X cl E (.Constant (.int i) j pos) (fC (.int i)):=⟨xe_int⟩
end
end L2
namespace L2
open PySem PySem.Spec PyProof.Rows
section
variable {X:Cx}{e e':Expr}{p pos:Pos}
def dedM (ls ms:List (List Nat)):List (List Nat):=(dedL ls).filter fun x=>!decide (x∈ms)
end
end L2
namespace L2
open PySem PySem.Spec PyProof.Rows
section
variable {X:Cx}{cl:Nat→Addr}{E:XK}{e:Expr}{f:Rho→Rs D}{p pos:Pos}{tg:Expr}
theorem Dts.reverse {K:PySem.W.Frag}{F:Hp}:∀{vs:List V}{ds:List D},Dts K cl F vs ds→Dts K cl F vs.reverse ds.reverse
 | _,_,.nil=>.nil
 | _,_,.cons q r=>by rw[List.reverse_cons,List.reverse_cons];exact Dts.append (Dts.reverse r) (.cons q .nil)
end
end L2
namespace L2
open PySem PySem.Spec PyProof.Rows
end L2
namespace L2
open PySem PySem.Spec PyProof.Rows
end L2
namespace L2
open PySem PySem.Spec PyProof.Rows
def PX (X:Cx)(e:Expr)(t:St→Hp→VK→XK→Prop):Prop:=∀(pins:List (Addr×Obj)) (s:Shared) (σ:St) (H:Hp) (Q:VK) (E:XK) (F':Value→Shared→Prop),Inv X pins σ H s →
 (∀H s e s',Inv X pins σ H s→Flown X.prog X.w X.stack H s E e s'→F' e s')→t σ H Q E→wpAny (model X.prog X.w) X.A (eval e X.env) (EP X pins σ Q) F' s
theorem PX.mono {X:Cx}{e:Expr}{t u:St→Hp→VK→XK→Prop}(h:PX X e t)(k:∀σ H Q E,u σ H Q E→t σ H Q E):PX X e u:=fun pins s σ H Q E F' I hx q=>h pins s σ H Q E F' I hx (k σ H Q E q)
section
variable {X:Cx}{cl:Nat→Addr}{x:Str}{p pos:Pos}{e c a b:Expr}{es:List Expr}
theorem own_free {ρ:Rho}(h:ρ.all (fun s=>!s.own)=true){i:Nat}{s:Sl}(e:ρ[i]? = some s):s.own=false:=by
 have:=List.all_eq_true.mp h s (List.mem_of_getElem? e)
 simpa using this
theorem Rl.base {K:PySem.W.Frag}{H0 F0 H F:Hp}{ρ:Rho}{σ:St}(R:Rl K cl H0 F0 ρ σ H F)(h:ρ.all (fun s=>!s.own)=true):Rl K cl H F ρ σ H F where
 gr:=Gr.refl R.fh
 len:=R.len
 fz:=R.fz
 ow:=fun i ds e=>by have:=own_free h e;cases this
 od:=fun i ds e=>by have:=own_free h e;cases this
 ap:=R.ap
theorem Gr.exc {F H H':Hp}{a:Addr}{o:HO}(h:Same F H)(s:Same H H')(ha:H' a=none):Gr F H (upd F a o) (upd H' a o):=by
 have hH:H a=none:=by
  cases z:H a with
  | none=>rfl
  | some q=>rw[s a q z] at ha;cases ha
 refine⟨Same.upd (h.free hH),s.trans (Same.upd ha),upd_mono (h.trans s),fun b o hb m q=>?_⟩
 have hne:b≠a:=fun z=>by rw[z,hH] at hb;cases hb
 rw[upd_ne hne];exact q
end
end L2
namespace L2
open PySem PySem.Spec PyProof.Rows
section
variable {X:Cx}{cl:Nat→Addr}
def PXs (X:Cx)(sts:List Stmt)(t:St→Hp→VK→XK→Prop):Prop:=∀(pins:List (Addr×Obj)) (s:Shared) (σ:St) (H:Hp) (D:Ends) (E:XK) (F':Value→Shared→Prop),Inv X pins σ H s →
 (∀H s e s',Inv X pins σ H s→Flown X.prog X.w X.stack H s E e s'→F' e s')→t σ H D.rt E→wpAny (model X.prog X.w) X.A (execs sts X.env) (SP X pins {D with nx:=fun _ _=>False,bk:=fun _ _=>False,ct:=fun _ _=>False}) F' s
theorem PXs.mono {sts:List Stmt}{t u:St→Hp→VK→XK→Prop}(h:PXs X sts t)(k:∀σ H Q E,u σ H Q E→t σ H Q E):PXs X sts u:=fun pins s σ H D E F' I hx q=>h pins s σ H D E F' I hx (k σ H D.rt E q)
end
end L2
namespace L2
open PySem PySem.Spec PyProof.Rows
open AutoSeq1 (wpAny_loadPart')
end L2
namespace L2
open PySem PySem.Spec PyProof.Rows
def intD:List D→Option D
 | [.bl b]=>some (.int (if b then 1 else 0))
 | _=>none
theorem n_int {K:PySem.W.Frag}{cl:Nat→Addr}:Fn1 K cl (fun xs H Q=>∃b,xs=[.bl b]∧Q (.int (if b then 1 else 0)) H) intD:=fun F H vs ds d Q s q e k=>by
 match ds,q,e with
 | [.bl b],q,e =>
  obtain⟨v,rfl,q1⟩:=q.one
  cases q1
  obtain rfl:=Option.some.inj e
  exact⟨b,rfl,k _ _ _ (Gr.refl s) (.int _)⟩
end L2
namespace L2
open PySem PySem.Spec PyProof.Rows
open AutoSeq1 (wpAny_loadPart')
end L2
namespace L2
open PySem PySem.Spec PyProof.Rows
end L2
namespace L2
open PySem PySem.Spec PyProof.Rows
end L2
namespace L2
open PySem PySem.Spec PyProof.Rows
end L2
namespace L2
open PySem
def tI (led:Bool)(ks:List Nat):SetTable:=if ks.length<5 then {mask:=7,place:=ks.toArray,dummies:=#[],finger:=0,led,moves:=0,plain:=true} else {mask:=31,place:=ks.toArray,dummies:=#[],finger:=0,led,moves:=1,plain:=true}
def insI (x:Nat):List Nat→List Nat
 | []=>[x]
 | y::ys=>if x<y then x::y::ys else y::insI x ys
def subs6:List (List Nat):=([1,2,3,4,5,6]:List Nat).foldr (fun x acc=>acc++acc.map (x :: ·)) [[]]
def posI (x:Nat)(ks:List Nat):Nat:=(ks.filter (· < x)).length
def tI7 (led:Bool)(ks:List Nat):SetTable:={mask:=7,place:=ks.toArray,dummies:=#[],finger:=0,led,moves:=0,plain:=true}
theorem layI_slot:∀led,∀ks∈subs6,∀x∈([1,2,3,4,5,6]:List Nat),x∉ks→(tI led ks).freeSlot (x:Int)=some (x,false)∧((tI led ks).put x).2=posI x ks ∧
  (if ks.length=4 then((tI led ks).put x).1=tI7 led (insI x ks) else((tI led ks).put x).1=tI led (insI x ks))∧((tI led ks).put x).1.fits (ks.length+1)=true∧insI x ks∈subs6∧insI x ks=ks.take (posI x ks)++x::ks.drop (posI x ks):=by decide +kernel
theorem subsI:∀led,∀ks∈subs6,(tI led ks).fits ks.length=true∧(tI led ks).led=led∧(tI led ks).plain=true∧ks.length≤6∧ks.Nodup∧∀k∈ks,k∈([1,2,3,4,5,6]:List Nat):=by decide +kernel
structure StI (w:World)(es:Array (Int×Value))(t:SetTable)(ks:List Nat):Prop where
 hs:es.toList.map (·.1)=ks.map fun(k:Nat)=>(k:Int)
 vs:∀e∈es.toList,∃(k:Nat) (tk:Tok),k∈ks∧e=((k:Int),Value.int (k:Int) tk)
 tb:t=tI (!w.params.followText "set-order") ks
 sb:ks∈subs6
section
variable {prog:Program}{w:World}{A:Around}{E:Value→Shared→Prop}{s:Shared}{es:Array (Int×Value)}{t:SetTable}{ks:List Nat}
theorem StI.size (S:StI w es t ks):es.size=ks.length:=by
 have:=congrArg List.length S.hs
 simpa using this
theorem StI.fits (S:StI w es t ks):t.fits es.size=true:=by rw[S.size,S.tb];exact(subsI _ ks S.sb).1
theorem StI.find (S:StI w es t ks)(x:Nat):(∃e∈es.toList,Value.isInt (x:Int) e.2=true)↔x∈ks:=by
 constructor
 ·rintro ⟨e,he,h⟩
  obtain⟨k,tk,hk,rfl⟩:=S.vs e he
  have:(x:Int)=(k:Int):=by
   obtain⟨t,e⟩:=Value.isInt_shape h
   injection e with e _
   exact e.symm
  have:x=k:=by omega
  subst this;exact hk
 ·intro hx
  have:(x:Int)∈es.toList.map (·.1):=by rw[S.hs];exact List.mem_map_of_mem hx
  obtain⟨e,he,e1⟩:=List.mem_map.mp this
  obtain⟨k,tk,hk,rfl⟩:=S.vs e he
  refine⟨_,he,?_⟩
  dsimp only at e1
  rw[e1]
  simp[Value.isInt]
theorem ins_list {α:Type}(xs:Array α)(p:Nat)(x:α):(SetTable.insertAt xs p x).toList=xs.toList.take p++x::xs.toList.drop p:=by
 unfold SetTable.insertAt
 simp[List.take_of_length_le]
theorem StI.put (S:StI w es t ks){x:Nat}(h6:x∈([1,2,3,4,5,6]:List Nat))(hn:x∉ks)(tk:Tok):StI w (SetTable.insertAt es (posI x ks) ((x:Int),Value.int (x:Int) tk)) (tI (!w.params.followText "set-order") (insI x ks)) (insI x ks):=by
 obtain⟨_,_,_,_,f5,f6⟩:=layI_slot (!w.params.followText "set-order") ks S.sb x h6 hn
 refine⟨?_,fun e he=>?_,rfl,f5⟩
 ·rw[ins_list,List.map_append,List.map_cons,List.map_take,List.map_drop,S.hs,f6,List.map_append,List.map_cons,List.map_take,List.map_drop]
 ·rw [ins_list] at he
  have mk:∀k∈ks,k∈insI x ks:=fun k hk=>by
   rw[f6,List.mem_append,List.mem_cons]
   rw[← List.take_append_drop (posI x ks) ks] at hk
   rcases List.mem_append.mp hk with z|z
   ·exact .inl z
   ·exact .inr (.inr z)
  rcases List.mem_append.mp he with z|z
  ·obtain⟨k,tk',hk,e'⟩:=S.vs e (List.mem_of_mem_take z)
   exact⟨k,tk',mk k hk,e'⟩
  ·rcases List.mem_cons.mp z with z|z
   ·exact⟨x,tk,by rw[f6];simp,z⟩
   ·obtain⟨k,tk',hk,e'⟩:=S.vs e (List.mem_of_mem_drop z)
    exact⟨k,tk',mk k hk,e'⟩
end
end L2
namespace L2
open PySem
end L2
set_option maxHeartbeats 3200000
namespace L2
open PySem
section
variable {prog:Program}{w:World}{A:Around}{E:Value→Shared→Prop}{s:Shared}
theorem StI.new:StI w #[] (.fresh 0 0 (!w.params.followText "set-order")) []:=⟨rfl,fun e he=>by simp at he,rfl,by decide⟩
end
end L2
namespace L2
open PySem PySem.Spec PyProof.Rows
section
variable {prog:Program}{w:World}{A:Around}{E:Value→Shared→Prop}{s:Shared}
end
end L2
set_option maxHeartbeats 1000000
namespace L2
open PySem PySem.Spec PyProof.Rows
end L2
namespace L2
open PySem PySem.W PyProof.Rows
structure Ord (n:Nat)(b:Nat→Nat→Bool):Prop where
 tr:∀i j k,i<n→j<n→k<n→b i j=true→b j k=true→b i k=true
 tot:∀i j,i<n→j<n→i≠j→b i j=false→b j i=true
 ir:∀i,i<n→b i i=false
def PP (n:Nat)(p:Array Nat):Prop:=p.toList.Perm (List.range n)
section
variable {n:Nat}{b:Nat→Nat→Bool}{cmp:Nat→Nat→(Bool→Shared→Prop)→Shared→Prop}{s:Shared}{p:Array Nat}
theorem gd (p:Array Nat)(i:Nat):p.getD i 0=(p[i]?).getD 0:=by simp[Array.getD];split <;>simp_all
theorem PP.size (h:PP n p):p.size=n:=by have:=h.length_eq;simpa using this
theorem PP.lt (h:PP n p){i:Nat}(hi:i<n):p.getD i 0<n:=by
 have hs:=h.size
 have e:p.getD i 0=p[i]'(by omega):=by rw[gd,getElem?_pos p i (by omega)];rfl
 rw[e]
 exact List.mem_range.mp (h.mem_iff.mp (Array.getElem_mem_toList (by omega)))
theorem PP.inj (h:PP n p){i j:Nat}(hi:i<n)(hj:j<n)(hij:i≠j):p.getD i 0≠p.getD j 0:=by
 have hs:=h.size
 have nd:p.toList.Nodup:=h.nodup_iff.mpr List.nodup_range
 have e:∀k,k<n→p.getD k 0=p.toList.getD k 0:=fun k hk=>by rw[gd];simp
 rw[e i hi,e j hj]
 intro z
 have hl:p.toList.length=n:=by simpa using hs
 rw[List.getD_eq_getElem?_getD,List.getD_eq_getElem?_getD,List.getElem?_eq_getElem (by omega),List.getElem?_eq_getElem (by omega)] at z
 have pw:=List.pairwise_iff_getElem.mp nd
 rcases Nat.lt_or_gt_of_ne hij with c|c
 ·exact pw i j (by omega) (by omega) c z
 ·exact pw j i (by omega) (by omega) c z.symm
variable (O:Ord n b)(hc:∀i j (C:Bool→Shared→Prop),i<n→j<n→C (b i j) s→cmp i j C s)
include O hc
end
end L2
namespace L2
open PySem PySem.W PyProof.Rows
end L2
namespace L2
open PySem PySem.W PyProof.Rows
end L2
namespace L2
open PySem PySem.W PyProof.Rows
def kOf:D→Key
 | .int i=>.inl i
 | .str l=>.inr (T l)
 | _=>.inl 0
def isAt:D→Bool
 | .int _=>true
 | .str _=>true
 | _=>false
def tOf:D→List D
 | .tup ds=>ds
 | _=>[]
def kkOf (d:D):List Key:=(tOf d).map kOf
def isTA:D→Bool
 | .tup ds=>ds.all isAt
 | _=>false
section
variable {K:PySem.W.Frag}{cl:Nat→Addr}{F:Hp}
theorem Dts.atoms:∀{vs:List V}{ds:List D},Dts K cl F vs ds→ds.all isAt=true→vs=(ds.map kOf).map kV
 | _,_,.nil,_=>rfl
 | _,_,.cons q r,h=>by
  rw[List.all_cons,Bool.and_eq_true] at h
  have e:=Dts.atoms r h.2
  cases q with
  | int i=>rw[e];rfl
  | str l ok=>rw[e];rfl
  | _=>simp[isAt] at h
theorem Dts.tups:∀{vs:List V}{ds:List D},Dts K cl F vs ds→(∀d∈ds,isTA d=true)→∃ts:List Addr,vs=ts.map V.ref∧ts.length=ds.length∧∀i,i<ds.length→SqT K F (ts.getD i 0) (((ds.map kkOf).getD i []).map kV)
 | _,_,.nil,_=>⟨[],rfl,rfl,fun i hi=>by simp at hi⟩
 | _,_,.cons q r,h=>by
  obtain⟨ts,e1,e2,e3⟩:=Dts.tups r fun d hd=>h d (List.mem_cons_of_mem _ hd)
  have h0:=h _ List.mem_cons_self
  cases q with
  | tup sq dq =>
   rename_i a xs ds'
   have ex:=dq.atoms h0
   refine⟨a::ts,by rw[e1];rfl,by simp[e2],fun i hi=>?_⟩
   cases i with
   | zero=>show SqT K F a ((ds'.map kOf).map kV);rw[← ex];exact sq
   | succ i=>exact e3 i (by simpa using hi)
  | _=>simp[isTA] at h0
end
end L2
namespace L2
open PySem PySem.Spec PyProof.Rows
def gz:D→Option (List D)
 | .tup ds=>some ds
 | .lst ds=>some ds
 | .str l=>if l.all (· < 128) then some (l.map fun c=>.str [c]) else none
 | _=>none
end L2
namespace L2
open PySem PySem.Spec PyProof.Rows
end L2
namespace L2
open PySem PySem.Spec PyProof.Rows
end L2
namespace L2
open PySem PySem.Spec PyProof.Rows
end L2
namespace L2
open PySem PySem.Spec PyProof.Rows
end L2
namespace L2
open PySem PySem.Spec PyProof.Rows
inductive Dz (K:PySem.W.Frag)(x:Str)(st:Stmt):Prop
 | mk {f:Addr}{oc kV dc pm cd ct:Value}{od an:Option Addr}{sl:Array (Option Value)} (a:PySem.W.nsIn K mainGlobals x=some (some (.ref f))) (l:K.lookup f=some ⟨oc,od,.func (PySem.W.fnOf x x (defArgs st) (defBody st) (defScope st) .none kV dc pm an cd ct),sl⟩) (c:PySem.W.codeIn K cd x=true) (k:PySem.W.keepIn K (.ref f)=true):Dz K x st
theorem Dz.dn {K:PySem.W.Frag}{h:Heap}{mg:Str→Option Value}{x:Str}{st:Stmt}(z:Dz K x st)(X:K.In h)(G:h.Ns mainGlobals mg)(ps:List Str)(hb:∀(kV doc pm:Value) (an:Option Addr) (cdv ct:Value) (us:List Value),us.length=ps.length→bindArgs (PySem.W.fnOf x x (defArgs st) (defBody st) (defScope st) .none kV doc pm an cdv ct) ⟨us,[]⟩=pure (ps.zip us)):Nonempty (Dn K mg x st ps):=by
 obtain⟨a,l,c,k⟩:=z
 exact⟨⟨_,_,fun_mk l c k,PySem.W.mg_of X G a,(fun_mk l c k).binds hb⟩⟩
inductive Oz (K:PySem.W.Frag)(x:Str):Prop
 | mk {a:Addr} (y:PySem.W.nsIn K mainGlobals x=some (some (.ref a))) (q:PySem.W.excIn K a [.type "ValueError", .type "Exception", .type "BaseException", .type "object"] "ValueError.__new__" = true):Oz K x
theorem Oz.ow {K:PySem.W.Frag}{h:Heap}{mg:Str→Option Value}{x:Str}(z:Oz K x)(X:K.In h)(G:h.Ns mainGlobals mg):Nonempty (Own K mg x):=by
 obtain⟨y,q⟩:=z
 exact⟨⟨_,PySem.W.mg_of X G y,q⟩⟩
section
variable {α:Type}{p:List α→Prop}
theorem bd1 (h:∀a,p [a])(us:List α)(e:us.length=1):p us:=by obtain⟨_,rfl⟩:=len1 e;exact h _
theorem bd2 (h:∀a b,p [a,b])(us:List α)(e:us.length=2):p us:=by obtain⟨_,_,rfl⟩:=len2 e;exact h _ _
theorem bd3 (h:∀a b c,p [a,b,c])(us:List α)(e:us.length=3):p us:=by obtain⟨_,_,_,rfl⟩:=len3 e;exact h _ _ _
theorem bd4 (h:∀a b c d,p [a,b,c,d])(us:List α)(e:us.length=4):p us:=by obtain⟨_,_,_,_,rfl⟩:=len4 e;exact h _ _ _ _
end
end L2
set_option maxHeartbeats 4000000
namespace Pg
open PySem L2 PyProof.Rows
def g__law_cell:Rho→Out :=
  (sSeq (sIf (bT (f2 (eqD false) (fNm 0) (fO mkL aNil)))
  (sRet (f2 mulI (fC (.int 7)) (fNm 1)))
  sNx)
  (sRet (f2 addI (f2 ixD (fNm 0) (f2 modI (fNm 1) (fO lenD (aCons (fNm 0) aNil)))) (f2 mulI (fC (.int 6553)) (f2 fdivI (fNm 1) (fO lenD (aCons (fNm 0) aNil)))))))
def fn__law_cell:List D→Rs D:=runD 2 g__law_cell
def g__law_drawn:Rho→Out :=
  (sSeq (sSet 3 (f2 modI (f2 addI (f2 mulI (f2 modI (fA (ari 2 fn__law_cell) (aCons (fNm 0) (aCons (fNm 1) aNil))) (fC (.int 2147483563))) (fC (.int 69069))) (f2 mulI (fC (.int 104723)) (f2 addI (fNm 1) (fC (.int 1))))) (fC (.int 2147483563))))
  (sSeq (sSet 3 (f2 modI (f2 addI (f2 mulI (fNm 3) (fNm 3)) (f2 fdivI (fNm 3) (fC (.int 3)))) (fC (.int 2147483399))))
  (sRet (f2 modI (f2 fdivI (f2 modI (f2 addI (f2 mulI (fNm 3) (fNm 3)) (f2 fdivI (fNm 3) (fC (.int 7)))) (fC (.int 2147483647))) (fC (.int 11))) (fNm 2)))))
def fn__law_drawn:List D→Rs D:=runD 4 g__law_drawn
def g__law_book:Rho→Out :=
  (sSeq (sSetO 4 (fCp (fR rng1 (aCons (fNm 2) aNil)) bTrue (f2 ixD (fC (.str [97,98,99,100])) (fNm 0)) []))
  (sSeq (cutX (sFor 5 (fR rng1 (aCons (fNm 3) aNil))
  (sSeq (sPop 4 6 (fFl 4 (fA (ari 3 fn__law_drawn) (aCons (fNm 0) (aCons (f2 addI (fNm 1) (fNm 5)) (aCons (fO lenD (aCons (fNm 4) aNil)) aNil))))))
  (sIce 4 (sSetO 4 (fL sortD (aCons (fLs (fL2 catD (fNm 4) (fComp (fR rng1 (aCons (fNm 2) aNil)) bTrue (f2 addS (fNm 1) (f2 ixD (fC (.str [97,98,99,100])) (fNm 0))) [6]))) aNil)))))))
  (sIce 4 (sRet (fO tupD (aCons (fNm 4) aNil))))))
def fn__law_book:List D→Rs D:=runD 7 g__law_book
def g_inner_of:Rho→Out :=
  (sSeq (sNewD 1)
  (sSeq (cutX (sFor 2 (fI tpD (fNm 0))
  (sFor 3 (fR rng1 (aCons (fO lenD (aCons (fNm 2) aNil)) aNil))
  (sPut 1 (fSl (fNm 2) oNone (oSome (fNm 3))) (fC (.bl true))))))
  (sRet (fLs (fSD 1)))))
def fn_inner_of:List D→Rs D:=runD 4 g_inner_of
def g_is_rising:Rho→Out :=
  (sRet (fO allD (aCons (fLs (fCz (fNm 0) (fSl (fNm 0) (oSome (fC (.int 1))) oNone) bTrue (f2 ltS (fNm 0) (fNm 1)) [])) aNil)))
def fn_is_rising:List D→Rs D:=runD 1 g_is_rising
def g_is_whole:Rho→Out :=
  (sRet (fAnd (f1 (isiD isInt) (fNm 0)) (fNot (f1 (isiD isBool) (fNm 0)))))
def fn_is_whole:List D→Rs D:=runD 1 g_is_whole
def g_is_between:Rho→Out :=
  (sRet (fAnd (fA (ari 1 fn_is_whole) (aCons (fNm 0) aNil)) (fCh leI leI (fNm 1) (fNm 0) (fNm 2))))
def fn_is_between:List D→Rs D:=runD 3 g_is_between
def g_is_number_of_letters:Rho→Out :=
  (sRet (fA (ari 3 fn_is_between) (aCons (fNm 0) (aCons (fC (.int 2)) (aCons (fO lenD (aCons (fC (.str [97,98,99,100])) aNil)) aNil)))))
def fn_is_number_of_letters:List D→Rs D:=runD 1 g_is_number_of_letters
def g_is_text_of:Rho→Out :=
  (sSeq (sSet 2 (fSl (fC (.str [97,98,99,100])) oNone (oSome (fNm 0))))
  (sRet (fAnd (f1 (isiD isStr) (fNm 1)) (fO allD (aCons (fComp (fI sgD (fNm 1)) bTrue (f2 (inC false) (fNm 0) (fNm 1)) [2]) aNil)))))
def fn_is_text_of:List D→Rs D:=runD 3 g_is_text_of
def g_are_pieces:Rho→Out :=
  (sSeq (sIf (bOr (bNot (bT (fA (ari 1 fn_is_number_of_letters) (aCons (fNm 0) aNil)))) (bNot (bT (f1 (isiD isTup) (fNm 1)))))
  (sRet (fC (.bl false)))
  sNx)
  (sSeq (sIf (bNot (bT (fCh leI leI (fC (.int 1)) (fO lenD (aCons (fNm 1) aNil)) (fC (.int 32)))))
  (sRet (fC (.bl false)))
  sNx)
  (sSeq (sIf (bNot (bT (fO allD (aCons (fComp (fI tpD (fNm 1)) bTrue (fAnd (fA (ari 2 fn_is_text_of) (aCons (fNm 1) (aCons (fNm 0) aNil))) (f2 (eqD true) (fNm 0) (fC (.str [])))) [0]) aNil))))
  (sRet (fC (.bl false)))
  sNx)
  (sRet (fA (ari 1 fn_is_rising) (aCons (fNm 1) aNil))))))
def fn_are_pieces:List D→Rs D:=runD 2 g_are_pieces
def g_first_pair:Rho→Out :=
  (sSeq (cutX (sForZ 1 2 (fNm 0) (fSl (fNm 0) (oSome (fC (.int 1))) oNone)
  (sIf (bT (fM isS startsD (fNm 2) (fNm 1)))
  (sRet (fO mkT (aCons (fNm 1) (aCons (fNm 2) aNil))))
  sNx)))
  (sRet (fC .non)))
def fn_first_pair:List D→Rs D:=runD 3 g_first_pair
def g_gone_on:Rho→Out :=
  (sSeq (sSetO 2 (fL szL aNil))
  (sSeq (cutX (sFor 3 (fI lsD (fNm 1))
  (sFor 4 (fI sgD (fSl (fC (.str [97,98,99,100])) oNone (oSome (fNm 0))))
  (sApp 2 (f2 addS (fNm 3) (fNm 4))))))
  (sIce 2 (sRet (fNm 2)))))
def fn_gone_on:List D→Rs D:=runD 5 g_gone_on
def g_is_apart:Rho→Out :=
  (sRet (fNot (fO anyD (aCons (fComp (fI tpD (fNm 0)) bTrue (fOr (fM isS startsD (fNm 0) (fNm 1)) (fM isS startsD (fNm 1) (fNm 0))) [1]) aNil))))
def fn_is_apart:List D→Rs D:=runD 2 g_is_apart
def g_is_inner:Rho→Out :=
  (sRet (fO anyD (aCons (fComp (fI tpD (fNm 0)) bTrue (fAnd (fM isS startsD (fNm 0) (fNm 1)) (f2 (eqD true) (fNm 0) (fNm 1))) [1]) aNil)))
def fn_is_inner:List D→Rs D:=runD 2 g_is_inner
def g_first_text_apart:Rho→Out :=
  (sSeq (sSet 2 (fO mkL (aCons (fC (.str [])) aNil)))
  (sSeq (cutX (sWh 2000 (bT (f2 (eqD true) (fNm 2) (fO mkL aNil)))
  (sSeq (sSet 3 (fA (ari 2 fn_gone_on) (aCons (fNm 0) (aCons (fNm 2) aNil))))
  (sSeq (sFor 4 (fI lsD (fNm 3))
  (sIf (bT (fA (ari 2 fn_is_apart) (aCons (fNm 1) (aCons (fNm 4) aNil))))
  (sRet (fNm 4))
  sNx))
  (sSetA 2 (fCp (fI lsD (fNm 3)) (bT (fA (ari 2 fn_is_inner) (aCons (fNm 1) (aCons (fNm 0) aNil)))) (fNm 0) [1]))))))
  (sRet (fC .non))))
def fn_first_text_apart:List D→Rs D:=runD 5 g_first_text_apart
def g_first_paper:Rho→Out :=
  (sSeq (sSet 2 (fA (ari 1 fn_first_pair) (aCons (fNm 1) aNil)))
  (sSeq (sIf (bT (f1 (isN true) (fNm 2)))
  (sRet (fNm 2))
  sNx)
  (sRet (fA (ari 2 fn_first_text_apart) (aCons (fNm 0) (aCons (fNm 1) aNil))))))
def fn_first_paper:List D→Rs D:=runD 3 g_first_paper
def g_is_book:Rho→Out :=
  (sRet (fAnd (fA (ari 2 fn_are_pieces) (aCons (fNm 0) (aCons (fNm 1) aNil))) (f1 (isN false) (fA (ari 2 fn_first_paper) (aCons (fNm 0) (aCons (fNm 1) aNil))))))
def fn_is_book:List D→Rs D:=runD 2 g_is_book
def g_require_book:Rho→Out :=
  (sIf (bNot (bT (fA (ari 2 fn_is_book) (aCons (fNm 0) (aCons (fNm 1) aNil)))))
  (sRs 1 (aCons (fC (.str [116,104,105,115,32,105,115,32,110,111,32,98,111,111,107,32,111,102,32,115,111,32,109,97,110,121,32,108,101,116,116,101,114,115])) aNil))
  sNx)
def fn_require_book:List D→Rs D:=runD 2 g_require_book
def g_require_text_of:Rho→Out :=
  (sIf (bNot (bT (fA (ari 2 fn_is_text_of) (aCons (fNm 0) (aCons (fNm 1) aNil)))))
  (sRs 3 (aCons (fC (.str [116,104,105,115,32,105,115,32,110,111,32,116,101,120,116,32,111,102,32,116,104,101,115,101,32,108,101,116,116,101,114,115])) aNil))
  sNx)
def fn_require_text_of:List D→Rs D:=runD 2 g_require_text_of
def g__law_source:Rho→Out :=
  (sSeq (sSet 3 (f2 ixD (fO mkL (aCons (fC (.int 3)) (aCons (fC (.int 9)) (aCons (fC (.int 99)) aNil)))) (fA (ari 3 fn__law_drawn) (aCons (fNm 0) (aCons (fNm 1) (aCons (fC (.int 3)) aNil))))))
  (sRet (fO tupD (aCons (fComp (fR rng1 (aCons (fNm 2) aNil)) bTrue (f2 addI (fC (.int 1)) (fA (ari 3 fn__law_drawn) (aCons (fNm 1) (aCons (f2 addI (f2 addI (fNm 3) (fC (.int 1))) (fNm 0)) (aCons (fNm 2) aNil))))) [0,3,1]) aNil))))
def fn__law_source:List D→Rs D:=runD 4 g__law_source
def g_is_weight:Rho→Out :=
  (sRet (fA (ari 3 fn_is_between) (aCons (fNm 0) (aCons (fC (.int 1)) (aCons (fC (.int 99)) aNil)))))
def fn_is_weight:List D→Rs D:=runD 1 g_is_weight
def g_is_source:Rho→Out :=
  (sSeq (sIf (bNot (bT (f1 (isiD isTup) (fNm 0))))
  (sRet (fC (.bl false)))
  sNx)
  (sSeq (sIf (bNot (bT (fCh leI leI (fC (.int 2)) (fO lenD (aCons (fNm 0) aNil)) (fO lenD (aCons (fC (.str [97,98,99,100])) aNil)))))
  (sRet (fC (.bl false)))
  sNx)
  (sRet (fO allD (aCons (fComp (fI tpD (fNm 0)) bTrue (fA (ari 1 fn_is_weight) (aCons (fNm 0) aNil)) []) aNil)))))
def fn_is_source:List D→Rs D:=runD 1 g_is_source
def g_require_source:Rho→Out :=
  (sIf (bNot (bT (fA (ari 1 fn_is_source) (aCons (fNm 0) aNil))))
  (sRs 0 (aCons (fC (.str [116,104,105,115,32,105,115,32,110,111,32,116,117,112,108,101,32,111,102,32,50,32,116,111,32,52,32,119,101,105,103,104,116,115,32,102,114,111,109,32,49,32,116,111,32,57,57])) aNil))
  sNx)
def fn_require_source:List D→Rs D:=runD 1 g_require_source
def g_require_book_of:Rho→Out :=
  (sSeq (sDrop (fA (ari 1 fn_require_source) (aCons (fNm 0) aNil)))
  (sDrop (fA (ari 2 fn_require_book) (aCons (fO lenD (aCons (fNm 0) aNil)) (aCons (fNm 1) aNil)))))
def fn_require_book_of:List D→Rs D:=runD 2 g_require_book_of
def g_greatest_divisor:Rho→Out :=
  (sSeq (cutX (sWh 4000 (bT (f2 (eqD true) (fNm 1) (fC (.int 0))))
  (sSeq (sSet 2 (f2 modI (fNm 0) (fNm 1)))
  (sSeq (sSet 0 (fNm 1))
  (sSet 1 (fNm 2))))))
  (sRet (fNm 0)))
def fn_greatest_divisor:List D→Rs D:=runD 3 g_greatest_divisor
def g_lowest:Rho→Out :=
  (sSeq (sSet 2 (fA (ari 2 fn_greatest_divisor) (aCons (fNm 0) (aCons (fNm 1) aNil))))
  (sRet (fO mkT (aCons (f2 fdivI (fNm 0) (fNm 2)) (aCons (f2 fdivI (fNm 1) (fNm 2)) aNil)))))
def fn_lowest:List D→Rs D:=runD 3 g_lowest
def g_share:Rho→Out :=
  (sSeq (sDrop (fA (ari 1 fn_require_source) (aCons (fNm 0) aNil)))
  (sSeq (sDrop (fA (ari 2 fn_require_text_of) (aCons (fO lenD (aCons (fNm 0) aNil)) (aCons (fNm 1) aNil))))
  (sSeq (sSet 2 (f2 zipCD (fC (.str [97,98,99,100])) (fNm 0)))
  (sSeq (sSet 3 (fO sumD (aCons (fNm 0) aNil)))
  (sSeq (sSet 4 (fC (.int 1)))
  (sSeq (sSet 5 (fC (.int 1)))
  (sSeq (cutX (sFor 6 (fI sgD (fNm 1))
  (sSeq (sSet 4 (f2 mulI (fNm 4) (f2 getD (fNm 2) (fNm 6))))
  (sSet 5 (f2 mulI (fNm 5) (fNm 3))))))
  (sRet (fA (ari 2 fn_lowest) (aCons (fNm 4) (aCons (fNm 5) aNil)))))))))))
def fn_share:List D→Rs D:=runD 7 g_share
def g_added:Rho→Out :=
  (sRet (fA (ari 2 fn_lowest) (aCons (f2 addI (f2 mulI (f2 ixD (fNm 0) (fC (.int 0))) (f2 ixD (fNm 1) (fC (.int 1)))) (f2 mulI (f2 ixD (fNm 1) (fC (.int 0))) (f2 ixD (fNm 0) (fC (.int 1))))) (aCons (f2 mulI (f2 ixD (fNm 0) (fC (.int 1))) (f2 ixD (fNm 1) (fC (.int 1)))) aNil))))
def fn_added:List D→Rs D:=runD 2 g_added
def g_mean:Rho→Out :=
  (sSeq (sDrop (fA (ari 2 fn_require_book_of) (aCons (fNm 0) (aCons (fNm 1) aNil))))
  (sSeq (sSet 2 (fO mkT (aCons (fC (.int 0)) (aCons (fC (.int 1)) aNil))))
  (sSeq (cutX (sFor 3 (fI tpD (fNm 1))
  (sSeq (sSet 4 (fA (ari 2 fn_share) (aCons (fNm 0) (aCons (fNm 3) aNil))))
  (sSet 2 (fA (ari 2 fn_added) (aCons (fNm 2) (aCons (fO mkT (aCons (f2 mulI (f2 ixD (fNm 4) (fC (.int 0))) (fO lenD (aCons (fNm 3) aNil))) (aCons (f2 ixD (fNm 4) (fC (.int 1))) aNil))) aNil)))))))
  (sRet (fNm 2)))))
def fn_mean:List D→Rs D:=runD 5 g_mean
def g_is_less:Rho→Out :=
  (sRet (f2 ltI (f2 mulI (f2 ixD (fNm 0) (fC (.int 0))) (f2 ixD (fNm 1) (fC (.int 1)))) (f2 mulI (f2 ixD (fNm 1) (fC (.int 0))) (f2 ixD (fNm 0) (fC (.int 1))))))
def fn_is_less:List D→Rs D:=runD 2 g_is_less
def g_first_greatest:Rho→Out :=
  (sSeq (sSet 2 (f2 ixD (fNm 0) (fC (.int 0))))
  (sSeq (cutX (sFor 3 (fI tpD (fNm 0))
  (sIf (bT (fA (ari 2 fn_is_less) (aCons (f2 getD (fNm 1) (fNm 2)) (aCons (f2 getD (fNm 1) (fNm 3)) aNil))))
  (sSet 2 (fNm 3))
  sNx)))
  (sRet (fNm 2))))
def fn_first_greatest:List D→Rs D:=runD 4 g_first_greatest
def g_shares_of:Rho→Out :=
  (sSeq (sNewD 2)
  (sSeq (cutX (sFor 3 (fI tpD (fNm 1))
  (sPut 2 (fNm 3) (fA (ari 2 fn_share) (aCons (fNm 0) (aCons (fNm 3) aNil))))))
  (sIceD 2 (sRet (fNm 2)))))
def fn_shares_of:List D→Rs D:=runD 4 g_shares_of
def g_greatest_piece:Rho→Out :=
  (sSeq (sDrop (fA (ari 2 fn_require_book_of) (aCons (fNm 0) (aCons (fNm 1) aNil))))
  (sRet (fA (ari 2 fn_first_greatest) (aCons (fNm 1) (aCons (fA (ari 2 fn_shares_of) (aCons (fNm 0) (aCons (fNm 1) aNil))) aNil)))))
def fn_greatest_piece:List D→Rs D:=runD 2 g_greatest_piece
def g_least_inner:Rho→Out :=
  (sSeq (sDrop (fA (ari 2 fn_require_book_of) (aCons (fNm 0) (aCons (fNm 1) aNil))))
  (sSeq (sSet 2 (fO mkT (aCons (fC (.int 1)) (aCons (fC (.int 1)) aNil))))
  (sSeq (cutX (sFor 3 (fI lsD (fA (ari 1 fn_inner_of) (aCons (fNm 1) aNil)))
  (sSeq (sSet 4 (fA (ari 2 fn_share) (aCons (fNm 0) (aCons (fNm 3) aNil))))
  (sIf (bT (fA (ari 2 fn_is_less) (aCons (fNm 4) (aCons (fNm 2) aNil))))
  (sSet 2 (fNm 4))
  sNx))))
  (sRet (fNm 2)))))
def fn_least_inner:List D→Rs D:=runD 5 g_least_inner
def g_parted:Rho→Out :=
  (sSeq (sSet 3 (fM isTp idxD (fNm 1) (fNm 2)))
  (sRet (f2 addT (f2 addT (fSl (fNm 1) oNone (oSome (fNm 3))) (fO tupD (aCons (fA (ari 2 fn_gone_on) (aCons (fNm 0) (aCons (fO mkL (aCons (fNm 2) aNil)) aNil))) aNil))) (fSl (fNm 1) (oSome (f2 addI (fNm 3) (fC (.int 1)))) oNone))))
def fn_parted:List D→Rs D:=runD 4 g_parted
def g_even_book:Rho→Out :=
  (sSeq (sSet 2 (fO mkL (aCons (fC (.str [])) aNil)))
  (sSeq (cutX (sFor 3 (fR rng1 (aCons (fNm 1) aNil))
  (sSet 2 (fA (ari 2 fn_gone_on) (aCons (fNm 0) (aCons (fNm 2) aNil))))))
  (sRet (fO tupD (aCons (fNm 2) aNil)))))
def fn_even_book:List D→Rs D:=runD 4 g_even_book
def g_first_book:Rho→Out :=
  (sRet (fA (ari 2 fn_even_book) (aCons (fNm 0) (aCons (fC (.int 1)) aNil))))
def fn_first_book:List D→Rs D:=runD 1 g_first_book
end Pg
set_option maxHeartbeats 1000000
namespace L2
open PySem
section
variable {ft:Rho→Rs Bool}{fe:Rho→Rs D}{ρ0 ρ:Rho}{α β:Type}{i j:Nat}{g:Rho→Out}
theorem compD_of {l:List α}{enc:α→D}(p:α→Bool)(e:α→D)(h:∀x∈l,ft (ρ0.set 0 (.fz (enc x)))=.ok (p x)∧(p x=true→fe (ρ0.set 0 (.fz (enc x)))=.ok (e x))):compD ft fe ρ0 (l.map enc)=.ok ((l.filter p).map e):=by
 induction l with
 | nil=>rfl
 | cons x l ih =>
  have ih':=ih fun y hy=>h y (.tail _ hy)
  obtain⟨h1,h2⟩:=h x (.head _)
  rw[List.map_cons]
  unfold compD
  rw[h1]
  cases hp:p x with
  | false=>rw[List.filter_cons_of_neg (by simp[hp])];exact ih'
  | true =>
   rw[List.filter_cons_of_pos hp]
   simp only[h2 hp,ih']
   rfl
theorem compD_map {l:List α}{enc:α→D}(e:α→D)(h:∀x∈l,fe (ρ0.set 0 (.fz (enc x)))=.ok (e x)):compD bTrue fe ρ0 (l.map enc)=.ok (l.map e):=by
 have:=compD_of (ft:=bTrue) (fe:=fe) (ρ0:=ρ0) (l:=l) (enc:=enc) (fun _=>true) e fun x hx=>⟨rfl,fun _=>h x hx⟩
 rwa [List.filter_eq_self.mpr fun _ _=>rfl] at this
theorem compZ_map {l:List (α×β)}{enc:α→D}{enb:β→D}(e:α×β→D)(h:∀x∈l,fe ((ρ0.set 0 (.fz (enc x.1))).set 1 (.fz (enb x.2)))=.ok (e x)):compZ bTrue fe ρ0 (l.map fun x=>enc x.1) (l.map fun x=>enb x.2)=.ok (l.map e):=by
 induction l with
 | nil=>rfl
 | cons x l ih =>
  have ih':=ih fun y hy=>h y (.tail _ hy)
  rw[List.map_cons,List.map_cons]
  unfold compZ
  simp only[bTrue,h x (.head _)]
  rw[ih'];rfl
theorem compZ_zip:∀(as bs:List D),compZ ft fe ρ0 as bs=compZ ft fe ρ0 ((as.zip bs).map (·.1)) ((as.zip bs).map (·.2))
 | [],_=>by simp[compZ]
 | _::_,[]=>by simp[compZ]
 | a::as,b::bs=>by
  rw[List.zip_cons_cons,List.map_cons,List.map_cons]
  unfold compZ
  rw[compZ_zip as bs]
theorem forZ_zip:∀(as bs:List D) (ρ:Rho),forZ i j g as bs ρ=forZ i j g ((as.zip bs).map (·.1)) ((as.zip bs).map (·.2)) ρ
 | [],_,ρ=>by simp[forZ]
 | _::_,[],ρ=>by simp[forZ]
 | a::as,b::bs,ρ=>by
  rw[List.zip_cons_cons,List.map_cons,List.map_cons,forZ.eq_1,forZ.eq_1]
  dsimp only
  cases g ((ρ.set i (.fz a)).set j (.fz b)) <;>first|rfl|exact forZ_zip as bs _
theorem forD_inv {l:List α}{enc:α→D}(I:Nat→Rho→Prop)(h0:I 0 ρ)(hs:∀k x ρ,l[k]? = some x→I k ρ→∃ρ',g (ρ.set i (.fz (enc x)))=.nx ρ'∧I (k+1) ρ'):∃ρ',forD i g (l.map enc) ρ=.nx ρ'∧I l.length ρ':=by
 induction l generalizing ρ I with
 | nil=>exact⟨ρ,rfl,h0⟩
 | cons x l ih =>
  obtain⟨ρ1,e1,i1⟩:=hs 0 x ρ rfl h0
  obtain⟨ρ2,e2,i2⟩:=ih (I:=fun k=>I (k+1)) i1 fun k y ρ hy hI=>hs (k+1) y ρ (by simpa using hy) hI
  refine⟨ρ2,?_,i2⟩
  rw[List.map_cons]
  unfold forD
  rw[e1];exact e2
theorem forD_find {l:List α}{enc:α→D}(I:Rho→Prop)(p:α→Bool)(r:α→D)(h0:I ρ)(hs:∀x∈l,∀ρ,I ρ→if p x=true then g (ρ.set i (.fz (enc x)))=.rt (r x) else ∃ρ',g (ρ.set i (.fz (enc x)))=.nx ρ'∧I ρ') :
  match l.find? p with|some x=>forD i g (l.map enc) ρ=.rt (r x)|none=>∃ρ',forD i g (l.map enc) ρ=.nx ρ'∧I ρ':=by
 induction l generalizing ρ with
 | nil=>exact⟨ρ,rfl,h0⟩
 | cons x l ih =>
  have hx:=hs x (.head _) ρ h0
  cases hp:p x with
  | true =>
   rw[if_pos hp] at hx
   rw[List.find?_cons_of_pos hp]
   show forD i g (enc x::l.map enc) ρ=_
   unfold forD
   rw[hx]
  | false =>
   rw[if_neg (by simp[hp])] at hx
   obtain⟨ρ1,e1,i1⟩:=hx
   rw[List.find?_cons_of_neg (by simp[hp])]
   have:=ih i1 fun y hy=>hs y (.tail _ hy)
   have e:forD i g ((x::l).map enc) ρ=forD i g (l.map enc) ρ1:=by
    show forD i g (enc x::l.map enc) ρ=_
    rw[forD.eq_2,e1]
   rw[e];exact this
theorem forZ_find {l:List (α×β)}{enc:α→D}{enb:β→D}(I:Rho→Prop)(p:α×β→Bool)(r:α×β→D)(h0:I ρ)(hs:∀x∈l,∀ρ,I ρ→if p x=true then g ((ρ.set i (.fz (enc x.1))).set j (.fz (enb x.2)))=.rt (r x) else ∃ρ',g ((ρ.set i (.fz (enc x.1))).set j (.fz (enb x.2)))=.nx ρ'∧I ρ') :
  match l.find? p with|some x=>forZ i j g (l.map fun x=>enc x.1) (l.map fun x=>enb x.2) ρ=.rt (r x)|none=>∃ρ',forZ i j g (l.map fun x=>enc x.1) (l.map fun x=>enb x.2) ρ=.nx ρ'∧I ρ':=by
 induction l generalizing ρ with
 | nil=>exact⟨ρ,by simp[forZ],h0⟩
 | cons x l ih =>
  have hx:=hs x (.head _) ρ h0
  cases hp:p x with
  | true =>
   rw[if_pos hp] at hx
   rw[List.find?_cons_of_pos hp]
   show forZ i j g (enc x.1::l.map fun x=>enc x.1) (enb x.2::l.map fun x=>enb x.2) ρ=_
   unfold forZ
   rw[hx]
  | false =>
   rw[if_neg (by simp[hp])] at hx
   obtain⟨ρ1,e1,i1⟩:=hx
   rw[List.find?_cons_of_neg (by simp[hp])]
   have:=ih i1 fun y hy=>hs y (.tail _ hy)
   have e:forZ i j g ((x::l).map fun x=>enc x.1) ((x::l).map fun x=>enb x.2) ρ=forZ i j g (l.map fun x=>enc x.1) (l.map fun x=>enb x.2) ρ1:=by
    show forZ i j g (enc x.1::l.map fun x=>enc x.1) (enb x.2::l.map fun x=>enb x.2) ρ=_
    rw[forZ.eq_1,e1]
   rw[e];exact this
end
theorem runD_rt {m:Nat}{g:Rho→Out}{ds:List D}{d:D}(h:g (ds.map .fz++List.replicate (m - ds.length) .no)=.rt d):runD m g ds=.ok d:=by unfold runD;rw[h]
theorem runD_nx {m:Nat}{g:Rho→Out}{ds:List D}{ρ:Rho}(h:g (ds.map .fz++List.replicate (m - ds.length) .no)=.nx ρ):runD m g ds=.ok .non:=by unfold runD;rw[h]
theorem sSeq_nx {g h:Rho→Out}{ρ ρ':Rho}(e:g ρ=.nx ρ'):sSeq g h ρ=h ρ':=by unfold sSeq;rw[e]
theorem sSeq_rt {g h:Rho→Out}{ρ:Rho}{d:D}(e:g ρ=.rt d):sSeq g h ρ=.rt d:=by unfold sSeq;rw[e]
theorem cutX_nx {g:Rho→Out}{ρ ρ':Rho}(e:g ρ=.nx ρ'):cutX g ρ=.nx ρ':=by unfold cutX;rw[e]
theorem cutX_rt {g:Rho→Out}{ρ:Rho}{d:D}(e:g ρ=.rt d):cutX g ρ=.rt d:=by unfold cutX;rw[e]
theorem sFor_ok {i:Nat}{fi:Rho→Rs (List D)}{g:Rho→Out}{ρ:Rho}{ds:List D}(e:fi ρ=.ok ds):sFor i fi g ρ=forD i g ds ρ:=by unfold sFor;rw[e]
theorem sIf_t {ft:Rho→Rs Bool}{g h:Rho→Out}{ρ:Rho}(e:ft ρ=.ok true):sIf ft g h ρ=g ρ:=by unfold sIf;rw[e]
theorem sIf_f {ft:Rho→Rs Bool}{g h:Rho→Out}{ρ:Rho}(e:ft ρ=.ok false):sIf ft g h ρ=h ρ:=by unfold sIf;rw[e]
theorem sSet_ok {i:Nat}{f:Rho→Rs D}{ρ:Rho}{d:D}(e:f ρ=.ok d):sSet i f ρ=.nx (ρ.set i (.fz d)):=by unfold sSet;rw[e]
theorem sRet_ok {f:Rho→Rs D}{ρ:Rho}{d:D}(e:f ρ=.ok d):sRet f ρ=.rt d:=by unfold sRet;rw[e]
theorem sApp_ok {i:Nat}{f:Rho→Rs D}{ρ:Rho}{ds:List D}{d:D}(e:owL ρ i=some ds)(e2:f ρ=.ok d)(hl:ds.length<1000000):sApp i f ρ=.nx (ρ.set i (.ow (ds++[d]))):=by unfold sApp;simp only[e,e2,if_pos hl]
theorem addS_ok {l m:List Nat}(h:l.length+m.length≤1000000):addS (.str l) (.str m)=some (.str (l++m)):=if_pos h
theorem f2_ok {g:D→D→Option D}{fa fb:Rho→Rs D}{ρ:Rho}{a b d:D}(e1:fa ρ=.ok a)(e2:fb ρ=.ok b)(e3:g a b=some d):f2 g fa fb ρ=.ok d:=by unfold f2;rw[e1];show(fb ρ).bind _=_;rw[e2];show lf (g a b)=_;rw[e3];rfl
theorem rng1_nat {n:Nat}(h:n≤1000000):rng1 [.int (n:Int)]=some ((List.range n).map fun(k:Nat)=>.int (k:Int)):=by
 have h1:-(2 ^ 62)≤(n:Int)∧(n:Int)<2 ^ 62:=by omega
 dsimp only [rng1]
 rw[if_pos h1,Int.toNat_natCast]
theorem fR_ok {g:List D→Option (List D)}{fs:Rho→Rs (List D)}{ρ:Rho}{ds es:List D}(e1:fs ρ=.ok ds)(e2:g ds=some es):fR g fs ρ=.ok es:=by unfold fR;rw[e1];show(match g ds with|some es=>Rs.ok es|none=>.no)=_;rw[e2]
theorem fO_ok {g:List D→Option D}{fs:Rho→Rs (List D)}{ρ:Rho}{ds:List D}{d:D}(e1:fs ρ=.ok ds)(e2:g ds=some d):fO g fs ρ=.ok d:=by unfold fO;rw[e1];show lf (g ds)=_;rw[e2];rfl
theorem sPut_ok {i:Nat}{fk fv:Rho→Rs D}{ρ:Rho}{ds:List (List Nat×D)}{k:List Nat}{v:D}(e:odL ρ i=some ds)(e1:fv ρ=.ok v)(e2:fk ρ=.ok (.str k))(hl:ds.length<1000000):sPut i fk fv ρ=.nx (ρ.set i (.od (putD ds k v))):=by unfold sPut;simp only[e,e1,e2,if_pos hl]
theorem addI_ok {f g:Rho→Rs D}{ρ:Rho}{i j:Int}(e1:f ρ=.ok (.int i))(e2:g ρ=.ok (.int j)):f2 addI f g ρ=.ok (.int (i+j)):=f2_ok e1 e2 rfl
theorem subI_ok {f g:Rho→Rs D}{ρ:Rho}{i j:Int}(e1:f ρ=.ok (.int i))(e2:g ρ=.ok (.int j)):f2 subI f g ρ=.ok (.int (i - j)):=f2_ok e1 e2 rfl
theorem mulI_ok {f g:Rho→Rs D}{ρ:Rho}{i j:Int}(e1:f ρ=.ok (.int i))(e2:g ρ=.ok (.int j))(h1:Sm i)(h2:Sm j):f2 mulI f g ρ=.ok (.int (i*j)):=f2_ok e1 e2 (if_pos ⟨h1,h2⟩)
theorem modI_ok {f g:Rho→Rs D}{ρ:Rho}{i j:Int}(e1:f ρ=.ok (.int i))(e2:g ρ=.ok (.int j))(h:0<j):f2 modI f g ρ=.ok (.int (i % j)):=f2_ok e1 e2 (if_pos h)
theorem fdivI_ok {f g:Rho→Rs D}{ρ:Rho}{i j:Int}(e1:f ρ=.ok (.int i))(e2:g ρ=.ok (.int j))(h:0<j)(h2:Sm j):f2 fdivI f g ρ=.ok (.int (i / j)):=f2_ok e1 e2 (if_pos ⟨h,h2⟩)
theorem sm_of {i:Int}(h:-(2 ^ 100)<i∧i<2 ^ 100):Sm i:=by
 unfold Sm
 have h1:(2:Nat) ^ 100≤2 ^ 4000:=Nat.pow_le_pow_right (by decide) (by decide)
 have h2:i.natAbs<2 ^ 100:=by omega
 exact Nat.lt_of_lt_of_le h2 h1
theorem fCp_ok {fi:Rho→Rs (List D)}{ft:Rho→Rs Bool}{fe:Rho→Rs D}{caps:List Nat}{ρ:Rho}{ds es:List D}(e1:fi ρ=.ok ds)(hl:ds.length≤1000000)(e2:compD ft fe (capR 1 caps ρ) ds=.ok es):fCp fi ft fe caps ρ=.ok es:=by unfold fCp;rw[e1];show(if ds.length≤1000000 then compD ft fe (capR 1 caps ρ) ds else .no)=_;rw[if_pos hl,e2]
theorem fComp_ok {fi:Rho→Rs (List D)}{ft:Rho→Rs Bool}{fe:Rho→Rs D}{caps:List Nat}{ρ:Rho}{ds es:List D}(e1:fi ρ=.ok ds)(hl:ds.length≤1000000)(e2:compD ft fe (capR 1 caps ρ) ds=.ok es):fComp fi ft fe caps ρ=.ok (.lst es):=by unfold fComp;rw[fCp_ok e1 hl e2];rfl
theorem sSetO_ok {i:Nat}{f:Rho→Rs (List D)}{ρ:Rho}{d:List D}(e:f ρ=.ok d):sSetO i f ρ=.nx (ρ.set i (.ow d)):=by unfold sSetO;rw[e]
theorem fLs_ok {f:Rho→Rs (List D)}{ρ:Rho}{d:List D}(e:f ρ=.ok d):fLs f ρ=.ok (.lst d):=by unfold fLs;rw[e];rfl
theorem fM_ok {chk:D→Bool}{g:D→D→Option D}{fa fb:Rho→Rs D}{ρ:Rho}{a b d:D}(e1:fa ρ=.ok a)(hc:chk a=true)(e2:fb ρ=.ok b)(e3:g a b=some d):fM chk g fa fb ρ=.ok d:=by unfold fM;rw[e1];show(if chk a=true then _ else _)=_;rw[if_pos hc,e2];show lf (g a b)=_;rw[e3];rfl
theorem sPop_ok {i j:Nat}{f:Rho→Rs D}{ρ:Rho}{ds:List D}{k:Nat}{d:D}(e:owL ρ i=some ds)(e1:f ρ=.ok (.int (k:Int)))(hk:k<1000000)(e2:ds[k]? = some d):sPop i j f ρ=.nx ((ρ.set i (.ow (ds.eraseIdx k))).set j (.fz d)):=by
 unfold sPop
 have h:(0:Int)≤(k:Int)∧(k:Int)<1000000:=by omega
 simp only[e,e1,if_pos h,Int.toNat_natCast,e2]
theorem fFl_ok {i:Nat}{f:Rho→Rs D}{ρ:Rho}{ds:List D}{d:D}(e:owL ρ i=some ds)(e1:f (ρ.set i (.fz (.lst ds)))=.ok d)(h:d.fl=true):fFl i f ρ=.ok d:=by unfold fFl;simp only[e,e1,if_pos h]
theorem sIce_ok {i:Nat}{g:Rho→Out}{ρ:Rho}{ds:List D}(e:ρ[i]? = some (.ow ds)):sIce i g ρ=g (ρ.set i (.fz (.lst ds))):=by unfold sIce;rw[e]
theorem fL_ok {g:List D→Option (List D)}{fs:Rho→Rs (List D)}{ρ:Rho}{ds es:List D}(e1:fs ρ=.ok ds)(e2:g ds=some es):fL g fs ρ=.ok es:=by unfold fL;rw[e1];show lf' (g ds)=_;rw[e2];rfl
theorem aCons_ok {fa:Rho→Rs D}{fs:Rho→Rs (List D)}{ρ:Rho}{a:D}{as:List D}(e1:fa ρ=.ok a)(e2:fs ρ=.ok as):aCons fa fs ρ=.ok (a::as):=by unfold aCons;rw[e1];show(fs ρ).bind _=_;rw[e2];rfl
theorem erase_map {α β:Type}(f:α→β):∀(l:List α) (k:Nat),(l.map f).eraseIdx k=(l.eraseIdx k).map f
 | [],_=>rfl
 | _::_,0=>rfl
 | a::l,k+1=>by show f a::(l.map f).eraseIdx k=_;rw[erase_map f l k];rfl
def sT (ls:List (List Nat)):List D:=ls.map .str
theorem sT_app (a b:List (List Nat)):sT a++sT b=sT (a++b):=by unfold sT;rw[List.map_append]
theorem all_isS (ls:List (List Nat)):(sT ls).all isS=true:=by simp[sT,isS]
theorem map_unS (ls:List (List Nat)):(sT ls).map unS=ls:=by
 unfold sT;rw[List.map_map]
 exact(List.map_congr_left fun x _=>rfl).trans (List.map_id ls)
theorem pls_sT:∀ls:List (List Nat),D.pls (sT ls)=true
 | []=>rfl
 | l::ls=>by show((D.str l).pl&&D.pls (sT ls))=true;rw[pls_sT ls];rfl
theorem sT_len (ls:List (List Nat)):(sT ls).length=ls.length:=by simp[sT]
end L2
namespace Pg
open PySem L2 My
theorem cut_none {α:Type}(l:List α)(m:Nat):cutL l none (some (m:Int))=l.take m:=by
 unfold cutL
 rw[HT.sIx_none,HT.sIx_nat,List.drop_zero,Nat.sub_zero,← List.take_take,List.take_length]
theorem cut_from {α:Type}(l:List α)(m:Nat):cutL l (some (m:Int)) none=l.drop m:=by
 unfold cutL
 rw[HT.sIx_none,HT.sIx_nat,List.take_of_length_le (by rw[List.length_drop];exact Nat.le_refl _)]
 rcases Nat.le_total m l.length with h|h
 ·rw[Nat.min_eq_left h]
 ·rw[Nat.min_eq_right h,List.drop_of_length_le (Nat.le_refl _),List.drop_of_length_le h]
theorem eqv_str (l m:List Nat):PyData.eqv (.str (T l)) (.str (T m))=decide (l=m):=by
 show(T l == T m)=_
 rw[T_beq]
 by_cases h:l=m
 ·subst h;simp
 ·rw[decide_eq_false h];simpa using h
theorem eqD_str (neg:Bool)(l m:List Nat):eqD neg (.str l) (.str m)=some (.bl (if neg then !decide (l=m) else decide (l=m))):=by
 unfold eqD
 rw[if_pos ⟨rfl,rfl,by show(PyData.str (T l)).depth≤60;simp[PyData.depth]⟩]
 show some (D.bl (if neg=true then !PyData.eqv (.str (T l)) (.str (T m)) else PyData.eqv (.str (T l)) (.str (T m))))=_
 rw[eqv_str]
theorem all_of {α:Type}(l:List α)(b:α→Bool):allD [.lst (l.map fun x=>D.bl (b x))]=some (.bl (l.all b)):=by
 show(if (l.map fun x=>D.bl (b x)).all isB=true then some (D.bl ((l.map fun x=>D.bl (b x)).all unB)) else none)=_
 have h:(l.map fun x=>D.bl (b x)).all isB=true:=by rw[List.all_map];exact List.all_eq_true.mpr fun _ _=>rfl
 rw[if_pos h,List.all_map];rfl
theorem any_of {α:Type}(l:List α)(b:α→Bool):anyD [.lst (l.map fun x=>D.bl (b x))]=some (.bl (l.any b)):=by
 show(if (l.map fun x=>D.bl (b x)).all isB=true then some (D.bl ((l.map fun x=>D.bl (b x)).any unB)) else none)=_
 have h:(l.map fun x=>D.bl (b x)).all isB=true:=by rw[List.all_map];exact List.all_eq_true.mpr fun _ _=>rfl
 rw[if_pos h,List.any_map];rfl
theorem tail_cut (ps:List (List Nat)):cutL (sT ps) (some 1) none=sT ps.tail:=by
 have:=cut_from (sT ps) 1
 rw[show((1:Nat):Int)=1 from rfl] at this
 rw[this,List.drop_one];exact(List.map_tail).symm
theorem zip_sT (ps qs:List (List Nat)):(sT ps).zip (sT qs)=(ps.zip qs).map fun x=>(D.str x.1,D.str x.2):=by
 unfold sT;rw[List.zip_map];rfl
def isText (m:Nat)(l:List Nat):Bool:=l.all fun c=>decide (c∈abcd.take m)
theorem isText_ok {m:Nat}(m4:m≤4){l:List Nat}(h:LetOk m l):isText m l=true:=by
 unfold isText
 rw[List.all_eq_true]
 exact fun c hc=>decide_eq_true (let_abcd m4 (h c hc))
theorem is_text_of_str (m:Nat)(l:List Nat)(hl:l.length≤1000000):fn_is_text_of [.int m,.str l]=.ok (.bl (isText m l)):=by
 have e:compD bTrue (f2 (inC false) (fNm 0) (fNm 1)) [.no,.fz (.str (abcd.take m))] (l.map fun c=>.str [c])=.ok (l.map fun c=>.bl (decide (c∈abcd.take m))):=compD_map _ fun c hc=>rfl
 have e2:cutL [97,98,99,100] none (some (m:Int))=abcd.take m:=cut_none abcd m
 simp only[fn_is_text_of,g_is_text_of,runD,sSeq,sRet,sDrop,sSet,sIf,sSet2,sIce,cutX,sRs,sFor,sForZ,sWh,sApp,sPop,sSetA,sSetO,sNewD,sPut,fSD,owL,odL,sNx,fC,fNm,f1,f2,aNil,aCons,fO,fA,fIf,tru,bT,bNot,bAnd,bOr,fAnd,fOr,fNot,lf,lf',Rs.bind,isN,mkT,mkL,ari,fI,lsD,tpD,sgD,fR,fCp,fComp,fLs,fL,fL1,fL2,szL,fCz,capR,oNone,oSome,fSl,slD,fM,fCh,isiD,isInt,isBool,isStr,isTup,lenD,ltI,leI,gtI,geI,ltS,addI,subI,D.pl,D.py,isS,List.getElem?_cons_zero,List.getElem?_cons_succ,List.set_cons_zero,List.set_cons_succ,List.map_cons,List.map_nil,List.length_cons,List.length_nil,List.replicate,List.append_nil,List.nil_append,List.cons_append,Nat.reduceSub,Nat.reduceAdd,Nat.reduceLeDiff,Bool.not_true,Bool.not_false,if_true,if_false,Bool.false_eq_true,reduceIte,Nat.zero_add,List.getElem?_nil,pls_sT,e2,e,List.length_map,if_pos hl,all_of,isText]
theorem is_rising_eq (ps:List (List Nat))(h:ps.length≤1000000):fn_is_rising [.tup (sT ps)]=.ok (.bl (rising ps)):=by
 have e2:compZ bTrue (f2 ltS (fNm 0) (fNm 1)) [.no,.no] (sT ps) (sT ps.tail)=.ok ((ps.zip ps.tail).map fun x=>.bl (decide (x.1<x.2))):=by
  rw[compZ_zip]
  rw[zip_sT,List.map_map,List.map_map]
  exact compZ_map (enc:=D.str) (enb:=D.str) _ fun x hx=>rfl
 simp only[fn_is_rising,g_is_rising,runD,sSeq,sRet,sDrop,sSet,sIf,sSet2,sIce,cutX,sRs,sFor,sForZ,sWh,sApp,sPop,sSetA,sSetO,sNewD,sPut,fSD,owL,odL,sNx,fC,fNm,f1,f2,aNil,aCons,fO,fA,fIf,tru,bT,bNot,bAnd,bOr,fAnd,fOr,fNot,lf,lf',Rs.bind,isN,mkT,mkL,ari,fI,lsD,tpD,sgD,fR,fCp,fComp,fLs,fL,fL1,fL2,szL,fCz,capR,oNone,oSome,fSl,slD,fM,fCh,isiD,isInt,isBool,isStr,isTup,lenD,ltI,leI,gtI,geI,ltS,addI,subI,D.pl,D.py,isS,List.getElem?_cons_zero,List.getElem?_cons_succ,List.set_cons_zero,List.set_cons_succ,List.map_cons,List.map_nil,List.length_cons,List.length_nil,List.replicate,List.append_nil,List.nil_append,List.cons_append,Nat.reduceSub,Nat.reduceAdd,Nat.reduceLeDiff,Bool.not_true,Bool.not_false,if_true,if_false,Bool.false_eq_true,reduceIte,Nat.zero_add,List.getElem?_nil,pls_sT,tail_cut,e2,sT_len,if_pos h,all_of,rising]
theorem is_whole_int (i:Int):fn_is_whole [.int i]=.ok (.bl true):=rfl
theorem is_between_int (i lo hi:Int):fn_is_between [.int i,.int lo,.int hi]=.ok (.bl (decide (lo≤i)&&decide (i≤hi))):=by
 simp only[fn_is_between,g_is_between,runD,sSeq,sRet,sDrop,sSet,sIf,sSet2,sIce,cutX,sRs,sFor,sForZ,sWh,sApp,sPop,sSetA,sSetO,sNewD,sPut,fSD,owL,odL,sNx,fC,fNm,f1,f2,aNil,aCons,fO,fA,fIf,tru,bT,bNot,bAnd,bOr,fAnd,fOr,fNot,lf,lf',Rs.bind,isN,mkT,mkL,ari,fI,lsD,tpD,sgD,fR,fCp,fComp,fLs,fL,fL1,fL2,szL,fCz,capR,oNone,oSome,fSl,slD,fM,fCh,isiD,isInt,isBool,isStr,isTup,lenD,ltI,leI,gtI,geI,ltS,addI,subI,D.pl,D.py,isS,List.getElem?_cons_zero,List.getElem?_cons_succ,List.set_cons_zero,List.set_cons_succ,List.map_cons,List.map_nil,List.length_cons,List.length_nil,List.replicate,List.append_nil,List.nil_append,List.cons_append,Nat.reduceSub,Nat.reduceAdd,Nat.reduceLeDiff,Bool.not_true,Bool.not_false,if_true,if_false,Bool.false_eq_true,reduceIte,Nat.zero_add,List.getElem?_nil,pls_sT,is_whole_int]
 by_cases h:lo≤i
 ·simp[h]
 ·simp[h]
theorem is_number_eq (i:Int):fn_is_number_of_letters [.int i]=.ok (.bl (decide (2≤i)&&decide (i≤4))):=by
 simp only[fn_is_number_of_letters,g_is_number_of_letters,runD,sSeq,sRet,sDrop,sSet,sIf,sSet2,sIce,cutX,sRs,sFor,sForZ,sWh,sApp,sPop,sSetA,sSetO,sNewD,sPut,fSD,owL,odL,sNx,fC,fNm,f1,f2,aNil,aCons,fO,fA,fIf,tru,bT,bNot,bAnd,bOr,fAnd,fOr,fNot,lf,lf',Rs.bind,isN,mkT,mkL,ari,fI,lsD,tpD,sgD,fR,fCp,fComp,fLs,fL,fL1,fL2,szL,fCz,capR,oNone,oSome,fSl,slD,fM,fCh,isiD,isInt,isBool,isStr,isTup,lenD,ltI,leI,gtI,geI,ltS,addI,subI,D.pl,D.py,isS,List.getElem?_cons_zero,List.getElem?_cons_succ,List.set_cons_zero,List.set_cons_succ,List.map_cons,List.map_nil,List.length_cons,List.length_nil,List.replicate,List.append_nil,List.nil_append,List.cons_append,Nat.reduceSub,Nat.reduceAdd,Nat.reduceLeDiff,Bool.not_true,Bool.not_false,if_true,if_false,Bool.false_eq_true,reduceIte,Nat.zero_add,List.getElem?_nil,pls_sT,is_between_int]
 rfl
theorem is_inner_eq (ps:List (List Nat))(x:List Nat)(h:ps.length≤1000000):fn_is_inner [.tup (sT ps),.str x]=.ok (.bl (isInner ps x)):=by
 have e:compD bTrue (fAnd (fM isS startsD (fNm 0) (fNm 1)) (f2 (eqD true) (fNm 0) (fNm 1))) [.no,.fz (.str x)] (sT ps)=.ok (ps.map fun p=>.bl (x.isPrefixOf p && !decide (p=x))):=compD_map _ fun p hp=>by
  simp only[runD,sSeq,sRet,sDrop,sSet,sIf,sSet2,sIce,cutX,sRs,sFor,sForZ,sWh,sApp,sPop,sSetA,sSetO,sNewD,sPut,fSD,owL,odL,sNx,fC,fNm,f1,f2,aNil,aCons,fO,fA,fIf,tru,bT,bNot,bAnd,bOr,fAnd,fOr,fNot,lf,lf',Rs.bind,isN,mkT,mkL,ari,fI,lsD,tpD,sgD,fR,fCp,fComp,fLs,fL,fL1,fL2,szL,fCz,capR,oNone,oSome,fSl,slD,fM,fCh,isiD,isInt,isBool,isStr,isTup,lenD,ltI,leI,gtI,geI,ltS,addI,subI,D.pl,D.py,isS,List.getElem?_cons_zero,List.getElem?_cons_succ,List.set_cons_zero,List.set_cons_succ,List.map_cons,List.map_nil,List.length_cons,List.length_nil,List.replicate,List.append_nil,List.nil_append,List.cons_append,Nat.reduceSub,Nat.reduceAdd,Nat.reduceLeDiff,Bool.not_true,Bool.not_false,if_true,if_false,Bool.false_eq_true,reduceIte,Nat.zero_add,List.getElem?_nil,pls_sT,startsD,eqD_str]
  cases x.isPrefixOf p <;>simp
 simp only[fn_is_inner,g_is_inner,runD,sSeq,sRet,sDrop,sSet,sIf,sSet2,sIce,cutX,sRs,sFor,sForZ,sWh,sApp,sPop,sSetA,sSetO,sNewD,sPut,fSD,owL,odL,sNx,fC,fNm,f1,f2,aNil,aCons,fO,fA,fIf,tru,bT,bNot,bAnd,bOr,fAnd,fOr,fNot,lf,lf',Rs.bind,isN,mkT,mkL,ari,fI,lsD,tpD,sgD,fR,fCp,fComp,fLs,fL,fL1,fL2,szL,fCz,capR,oNone,oSome,fSl,slD,fM,fCh,isiD,isInt,isBool,isStr,isTup,lenD,ltI,leI,gtI,geI,ltS,addI,subI,D.pl,D.py,isS,List.getElem?_cons_zero,List.getElem?_cons_succ,List.set_cons_zero,List.set_cons_succ,List.map_cons,List.map_nil,List.length_cons,List.length_nil,List.replicate,List.append_nil,List.nil_append,List.cons_append,Nat.reduceSub,Nat.reduceAdd,Nat.reduceLeDiff,Bool.not_true,Bool.not_false,if_true,if_false,Bool.false_eq_true,reduceIte,Nat.zero_add,List.getElem?_nil,pls_sT,e,sT_len,if_pos h,any_of]
 rfl
theorem is_apart_eq (ps:List (List Nat))(x:List Nat)(h:ps.length≤1000000):fn_is_apart [.tup (sT ps),.str x]=.ok (.bl (isApart ps x)):=by
 have e:compD bTrue (fOr (fM isS startsD (fNm 0) (fNm 1)) (fM isS startsD (fNm 1) (fNm 0))) [.no,.fz (.str x)] (sT ps)=.ok (ps.map fun p=>.bl (x.isPrefixOf p || p.isPrefixOf x)):=compD_map _ fun p hp=>by
  simp only[runD,sSeq,sRet,sDrop,sSet,sIf,sSet2,sIce,cutX,sRs,sFor,sForZ,sWh,sApp,sPop,sSetA,sSetO,sNewD,sPut,fSD,owL,odL,sNx,fC,fNm,f1,f2,aNil,aCons,fO,fA,fIf,tru,bT,bNot,bAnd,bOr,fAnd,fOr,fNot,lf,lf',Rs.bind,isN,mkT,mkL,ari,fI,lsD,tpD,sgD,fR,fCp,fComp,fLs,fL,fL1,fL2,szL,fCz,capR,oNone,oSome,fSl,slD,fM,fCh,isiD,isInt,isBool,isStr,isTup,lenD,ltI,leI,gtI,geI,ltS,addI,subI,D.pl,D.py,isS,List.getElem?_cons_zero,List.getElem?_cons_succ,List.set_cons_zero,List.set_cons_succ,List.map_cons,List.map_nil,List.length_cons,List.length_nil,List.replicate,List.append_nil,List.nil_append,List.cons_append,Nat.reduceSub,Nat.reduceAdd,Nat.reduceLeDiff,Bool.not_true,Bool.not_false,if_true,if_false,Bool.false_eq_true,reduceIte,Nat.zero_add,List.getElem?_nil,pls_sT,startsD]
  cases x.isPrefixOf p <;>simp
 simp only[fn_is_apart,g_is_apart,runD,sSeq,sRet,sDrop,sSet,sIf,sSet2,sIce,cutX,sRs,sFor,sForZ,sWh,sApp,sPop,sSetA,sSetO,sNewD,sPut,fSD,owL,odL,sNx,fC,fNm,f1,f2,aNil,aCons,fO,fA,fIf,tru,bT,bNot,bAnd,bOr,fAnd,fOr,fNot,lf,lf',Rs.bind,isN,mkT,mkL,ari,fI,lsD,tpD,sgD,fR,fCp,fComp,fLs,fL,fL1,fL2,szL,fCz,capR,oNone,oSome,fSl,slD,fM,fCh,isiD,isInt,isBool,isStr,isTup,lenD,ltI,leI,gtI,geI,ltS,addI,subI,D.pl,D.py,isS,List.getElem?_cons_zero,List.getElem?_cons_succ,List.set_cons_zero,List.set_cons_succ,List.map_cons,List.map_nil,List.length_cons,List.length_nil,List.replicate,List.append_nil,List.nil_append,List.cons_append,Nat.reduceSub,Nat.reduceAdd,Nat.reduceLeDiff,Bool.not_true,Bool.not_false,if_true,if_false,Bool.false_eq_true,reduceIte,Nat.zero_add,List.getElem?_nil,pls_sT,e,sT_len,if_pos h,any_of]
 rfl
theorem first_pair_eq (ps:List (List Nat)):fn_first_pair [.tup (sT ps)]=.ok (match firstPair ps with|some x=>.tup [.str x.1,.str x.2] | none=>.non):=by
 have key:=forZ_find (i:=1) (j:=2) (g:=sIf (bT (fM isS startsD (fNm 2) (fNm 1))) (sRet (fO mkT (aCons (fNm 1) (aCons (fNm 2) aNil)))) sNx) (ρ:=[.fz (.tup (sT ps)),.no,.no]) (l:=ps.zip ps.tail) (enc:=D.str) (enb:=D.str)
  (fun ρ=>∃a b,ρ=[.fz (.tup (sT ps)),a,b]) (fun x=>x.1.isPrefixOf x.2) (fun x=>.tup [.str x.1,.str x.2]) ⟨_,_,rfl⟩ (fun x hx ρ ⟨a,b,e⟩=>by
   subst e
   cases hp:x.1.isPrefixOf x.2 with
   | true=>simp only[runD,sSeq,sRet,sDrop,sSet,sIf,sSet2,sIce,cutX,sRs,sFor,sForZ,sWh,sApp,sPop,sSetA,sSetO,sNewD,sPut,fSD,owL,odL,sNx,fC,fNm,f1,f2,aNil,aCons,fO,fA,fIf,tru,bT,bNot,bAnd,bOr,fAnd,fOr,fNot,lf,lf',Rs.bind,isN,mkT,mkL,ari,fI,lsD,tpD,sgD,fR,fCp,fComp,fLs,fL,fL1,fL2,szL,fCz,capR,oNone,oSome,fSl,slD,fM,fCh,isiD,isInt,isBool,isStr,isTup,lenD,ltI,leI,gtI,geI,ltS,addI,subI,D.pl,D.py,isS,List.getElem?_cons_zero,List.getElem?_cons_succ,List.set_cons_zero,List.set_cons_succ,List.map_cons,List.map_nil,List.length_cons,List.length_nil,List.replicate,List.append_nil,List.nil_append,List.cons_append,Nat.reduceSub,Nat.reduceAdd,Nat.reduceLeDiff,Bool.not_true,Bool.not_false,if_true,if_false,Bool.false_eq_true,reduceIte,Nat.zero_add,List.getElem?_nil,pls_sT,startsD,hp]
   | false=>simp only[runD,sSeq,sRet,sDrop,sSet,sIf,sSet2,sIce,cutX,sRs,sFor,sForZ,sWh,sApp,sPop,sSetA,sSetO,sNewD,sPut,fSD,owL,odL,sNx,fC,fNm,f1,f2,aNil,aCons,fO,fA,fIf,tru,bT,bNot,bAnd,bOr,fAnd,fOr,fNot,lf,lf',Rs.bind,isN,mkT,mkL,ari,fI,lsD,tpD,sgD,fR,fCp,fComp,fLs,fL,fL1,fL2,szL,fCz,capR,oNone,oSome,fSl,slD,fM,fCh,isiD,isInt,isBool,isStr,isTup,lenD,ltI,leI,gtI,geI,ltS,addI,subI,D.pl,D.py,isS,List.getElem?_cons_zero,List.getElem?_cons_succ,List.set_cons_zero,List.set_cons_succ,List.map_cons,List.map_nil,List.length_cons,List.length_nil,List.replicate,List.append_nil,List.nil_append,List.cons_append,Nat.reduceSub,Nat.reduceAdd,Nat.reduceLeDiff,Bool.not_true,Bool.not_false,if_true,if_false,Bool.false_eq_true,reduceIte,Nat.zero_add,List.getElem?_nil,pls_sT,startsD,hp];exact⟨_,rfl,_,_,rfl⟩)
 have e4:forZ 1 2 (sIf (bT (fM isS startsD (fNm 2) (fNm 1))) (sRet (fO mkT (aCons (fNm 1) (aCons (fNm 2) aNil)))) sNx) (sT ps) (sT ps.tail) [.fz (.tup (sT ps)),.no,.no]=forZ 1 2 (sIf (bT (fM isS startsD (fNm 2) (fNm 1))) (sRet (fO mkT (aCons (fNm 1) (aCons (fNm 2) aNil)))) sNx) ((ps.zip ps.tail).map fun x=>D.str x.1) ((ps.zip ps.tail).map fun x=>D.str x.2) [.fz (.tup (sT ps)),.no,.no]:=by
  rw[forZ_zip,zip_sT,List.map_map,List.map_map];rfl
 have e5:sForZ 1 2 (fNm 0) (fSl (fNm 0) (oSome (fC (.int 1))) oNone) (sIf (bT (fM isS startsD (fNm 2) (fNm 1))) (sRet (fO mkT (aCons (fNm 1) (aCons (fNm 2) aNil)))) sNx) [.fz (.tup (sT ps)),.no,.no]=forZ 1 2 (sIf (bT (fM isS startsD (fNm 2) (fNm 1))) (sRet (fO mkT (aCons (fNm 1) (aCons (fNm 2) aNil)))) sNx) ((ps.zip ps.tail).map fun x=>D.str x.1) ((ps.zip ps.tail).map fun x=>D.str x.2) [.fz (.tup (sT ps)),.no,.no]:=by
  rw[← e4]
  unfold sForZ
  have e6:fSl (fNm 0) (oSome (fC (.int 1))) oNone [.fz (.tup (sT ps)),.no,.no]=.ok (.tup (sT ps.tail)):=by rw[← tail_cut];rfl
  rw[e6];rfl
 unfold firstPair
 cases hf:(ps.zip ps.tail).find? fun x=>x.1.isPrefixOf x.2 with
 | some x =>
  rw[hf] at key
  have e7:g_first_pair [.fz (.tup (sT ps)),.no,.no]=.rt (.tup [.str x.1,.str x.2]):=by
   unfold g_first_pair sSeq cutX
   rw[e5,key]
  exact runD_rt e7
 | none =>
  rw[hf] at key
  obtain⟨ρ',k1,a,b,rfl⟩:=key
  have e7:g_first_pair [.fz (.tup (sT ps)),.no,.no]=.rt .non:=by
   unfold g_first_pair sSeq cutX
   rw[e5,k1];rfl
  exact runD_rt e7
def Pcs (m:Nat)(ps:List (List Nat)):Prop:=2≤m∧m≤4∧ps≠[]∧ps.length≤32∧∀p∈ps,LetOk m p∧p≠[]∧p.length≤31
theorem pieces_comp {m:Nat}{ps:List (List Nat)}(h:∀p∈ps,p.length≤1000000):compD bTrue (fAnd (fA (ari 2 fn_is_text_of) (aCons (fNm 1) (aCons (fNm 0) aNil))) (f2 (eqD true) (fNm 0) (fC (.str [])))) [.no,.fz (.int m)] (sT ps)=.ok (ps.map fun p=>.bl (isText m p && !decide (p=[]))):=compD_map _ fun p hp=>by
  simp only[runD,sSeq,sRet,sDrop,sSet,sIf,sSet2,sIce,cutX,sRs,sFor,sForZ,sWh,sApp,sPop,sSetA,sSetO,sNewD,sPut,fSD,owL,odL,sNx,fC,fNm,f1,f2,aNil,aCons,fO,fA,fIf,tru,bT,bNot,bAnd,bOr,fAnd,fOr,fNot,lf,lf',Rs.bind,isN,mkT,mkL,ari,fI,lsD,tpD,sgD,fR,fCp,fComp,fLs,fL,fL1,fL2,szL,fCz,capR,oNone,oSome,fSl,slD,fM,fCh,isiD,isInt,isBool,isStr,isTup,lenD,ltI,leI,gtI,geI,ltS,addI,subI,D.pl,D.py,isS,List.getElem?_cons_zero,List.getElem?_cons_succ,List.set_cons_zero,List.set_cons_succ,List.map_cons,List.map_nil,List.length_cons,List.length_nil,List.replicate,List.append_nil,List.nil_append,List.cons_append,Nat.reduceSub,Nat.reduceAdd,Nat.reduceLeDiff,Bool.not_true,Bool.not_false,if_true,if_false,Bool.false_eq_true,reduceIte,Nat.zero_add,List.getElem?_nil,pls_sT,is_text_of_str m p (h p hp),eqD_str]
  cases isText m p <;>simp
theorem are_pieces_eq {m:Nat}{ps:List (List Nat)}(h:Pcs m ps):fn_are_pieces [.int m,.tup (sT ps)]=.ok (.bl (rising ps)):=by
 obtain⟨m2,m4,hne,hl,hp⟩:=h
 have h1:∀p∈ps,p.length≤1000000:=fun p q=>by have:=(hp p q).2.2;omega
 have e1:(ps.all fun p=>isText m p && !decide (p=[]))=true:=List.all_eq_true.mpr fun p q=>by
  obtain⟨a,b,_⟩:=hp p q
  rw[isText_ok m4 a,decide_eq_false b];rfl
 have hpos:1≤ps.length:=List.length_pos_iff.mpr hne
 have d1:decide ((2:Int)≤(m:Int))=true:=decide_eq_true (by omega)
 have d2:decide ((m:Int)≤4)=true:=decide_eq_true (by omega)
 have d3:decide ((1:Int)≤(ps.length:Int))=true:=decide_eq_true (by omega)
 have d4:decide ((ps.length:Int)≤32)=true:=decide_eq_true (by omega)
 have hz:ps.length≤1000000:=by omega
 simp only[fn_are_pieces,g_are_pieces,runD,sSeq,sRet,sDrop,sSet,sIf,sSet2,sIce,cutX,sRs,sFor,sForZ,sWh,sApp,sPop,sSetA,sSetO,sNewD,sPut,fSD,owL,odL,sNx,fC,fNm,f1,f2,aNil,aCons,fO,fA,fIf,tru,bT,bNot,bAnd,bOr,fAnd,fOr,fNot,lf,lf',Rs.bind,isN,mkT,mkL,ari,fI,lsD,tpD,sgD,fR,fCp,fComp,fLs,fL,fL1,fL2,szL,fCz,capR,oNone,oSome,fSl,slD,fM,fCh,isiD,isInt,isBool,isStr,isTup,lenD,ltI,leI,gtI,geI,ltS,addI,subI,D.pl,D.py,isS,List.getElem?_cons_zero,List.getElem?_cons_succ,List.set_cons_zero,List.set_cons_succ,List.map_cons,List.map_nil,List.length_cons,List.length_nil,List.replicate,List.append_nil,List.nil_append,List.cons_append,Nat.reduceSub,Nat.reduceAdd,Nat.reduceLeDiff,Bool.not_true,Bool.not_false,if_true,if_false,Bool.false_eq_true,reduceIte,Nat.zero_add,List.getElem?_nil,pls_sT,is_number_eq,d1,d2,Bool.and_self,sT_len,d3,d4,if_pos hz,pieces_comp h1,all_of,e1,is_rising_eq ps hz]
theorem sIter {m:Nat}{ρ:Rho}(h:ρ[0]? = some (.fz (.int (m:Int)))):fI sgD (fSl (fC (.str [97,98,99,100])) oNone (oSome (fNm 0))) ρ=.ok ((abcd.take m).map fun c=>.str [c]):=by
 have e2:cutL [97,98,99,100] none (some (m:Int))=abcd.take m:=cut_none abcd m
 simp only[fI,fSl,fC,oNone,oSome,fNm,h,Rs.bind,slD,lf,e2,sgD]
theorem gone_on_eq {m:Nat}(xs:List (List Nat))(hl:∀x∈xs,x.length≤999999)(hn:4*xs.length≤999999):fn_gone_on [.int m,.lst (sT xs)]=.ok (.lst (sT (goneOn m xs))):=by
 have hab:(abcd.take m).length≤4:=by rw[List.length_take];exact Nat.min_le_right _ _
 have inner:∀(x:List Nat) (acc:List (List Nat)) (s:Sl),x.length≤999999→acc.length+4≤999999→∃s',sFor 4 (fI sgD (fSl (fC (.str [97,98,99,100])) oNone (oSome (fNm 0)))) (sApp 2 (f2 addS (fNm 3) (fNm 4))) [.fz (.int m),.fz (.lst (sT xs)),.ow (sT acc),.fz (.str x),s]=.nx [.fz (.int m),.fz (.lst (sT xs)),.ow (sT (acc++(abcd.take m).map fun c=>x++[c])),.fz (.str x),s']:=by
  intro x acc s hx ha
  rw[sFor_ok (sIter rfl)]
  obtain ⟨ρ',e,s',rfl⟩:=forD_inv (i:=4) (g:=sApp 2 (f2 addS (fNm 3) (fNm 4))) (l:=abcd.take m) (enc:=fun c=>D.str [c]) (ρ:=[.fz (.int m),.fz (.lst (sT xs)),.ow (sT acc),.fz (.str x),s])
   (fun k ρ=>∃s',ρ=[.fz (.int m),.fz (.lst (sT xs)),.ow (sT (acc++((abcd.take m).take k).map fun c=>x++[c])),.fz (.str x),s']) ⟨s,by simp⟩ (fun k c ρ hc ⟨s',e⟩=>by
    subst e
    have hk:k<(abcd.take m).length:=(List.getElem?_eq_some_iff.mp hc).1
    have e3:(abcd.take m).take (k+1)=(abcd.take m).take k++[c]:=by rw[List.take_add_one,hc];rfl
    have hlen:(sT (acc++((abcd.take m).take k).map fun c=>x++[c])).length<1000000:=by
     rw[sT_len,List.length_append,List.length_map,List.length_take];omega
    have hz:x.length+1≤1000000:=by omega
    refine⟨_,sApp_ok rfl (f2_ok (a:=.str x) (b:=.str [c]) rfl rfl (addS_ok hz)) hlen,.fz (.str [c]),?_⟩
    have e5:sT (acc++((abcd.take m).take (k+1)).map fun c=>x++[c])=sT (acc++((abcd.take m).take k).map fun c=>x++[c])++[D.str (x++[c])]:=by
     rw[e3,List.map_append,← List.append_assoc,← sT_app (acc++_)];rfl
    rw[e5];rfl)
  refine⟨s',e.trans ?_⟩
  rw[List.take_of_length_le (Nat.le_refl _)]
 have outer:=forD_inv (i:=3) (g:=sFor 4 (fI sgD (fSl (fC (.str [97,98,99,100])) oNone (oSome (fNm 0)))) (sApp 2 (f2 addS (fNm 3) (fNm 4)))) (l:=xs) (enc:=D.str) (ρ:=[.fz (.int m),.fz (.lst (sT xs)),.ow [],.no,.no])
  (fun k ρ=>∃s s',ρ=[.fz (.int m),.fz (.lst (sT xs)),.ow (sT (goneOn m (xs.take k))),s,s']) ⟨.no,.no,rfl⟩ (fun k x ρ hx ⟨s,s',e⟩=>by
   subst e
   have hk:k<xs.length:=(List.getElem?_eq_some_iff.mp hx).1
   have e3:xs.take (k+1)=xs.take k++[x]:=by rw[List.take_add_one,hx];rfl
   have hg:(goneOn m (xs.take k)).length≤4*k:=by
    have:(goneOn m (xs.take k)).length≤4*(xs.take k).length:=by
     unfold goneOn
     generalize xs.take k=ys
     induction ys with
     | nil=>simp
     | cons y ys ih=>simp only[List.flatMap_cons,List.length_append,List.length_map,List.length_cons];omega
    rw[List.length_take] at this;omega
   obtain⟨s2,e4⟩:=inner x (goneOn m (xs.take k)) s' (hl x (List.mem_of_getElem? hx)) (by omega)
   refine⟨_,e4,.fz (.str x),s2,?_⟩
   rw[e3]
   unfold goneOn
   rw[List.flatMap_append]
   simp)
 obtain⟨ρ',e,s,s',rfl⟩:=outer
 rw[List.take_of_length_le (Nat.le_refl _)] at e
 refine runD_rt ?_
 show g_gone_on [.fz (.int m),.fz (.lst (sT xs)),.no,.no,.no]=_
 unfold g_gone_on
 refine(sSeq_nx (g:=sSetO 2 (fL szL aNil)) (ρ':=[.fz (.int m),.fz (.lst (sT xs)),.ow [],.no,.no]) rfl).trans ?_
 refine(sSeq_nx (cutX_nx ((sFor_ok (ds:=sT xs) rfl).trans e))).trans ?_
 rfl
theorem fta_round {m:Nat}{ps:List (List Nat)}(hl:ps.length≤1000000)(xs:List (List Nat))(hx:∀x∈xs,x.length≤999)(hn:xs.length≤99999)(s3 s4:Sl) :
  match (goneOn m xs).find? (isApart ps) with
  | some x=>sSeq (sSet 3 (fA (ari 2 fn_gone_on) (aCons (fNm 0) (aCons (fNm 2) aNil)))) (sSeq (sFor 4 (fI lsD (fNm 3)) (sIf (bT (fA (ari 2 fn_is_apart) (aCons (fNm 1) (aCons (fNm 4) aNil)))) (sRet (fNm 4)) sNx)) (sSetA 2 (fCp (fI lsD (fNm 3)) (bT (fA (ari 2 fn_is_inner) (aCons (fNm 1) (aCons (fNm 0) aNil)))) (fNm 0) [1]))) [.fz (.int m),.fz (.tup (sT ps)),.fz (.lst (sT xs)),s3,s4]=.rt (.str x)
  | none=>∃s3' s4',sSeq (sSet 3 (fA (ari 2 fn_gone_on) (aCons (fNm 0) (aCons (fNm 2) aNil)))) (sSeq (sFor 4 (fI lsD (fNm 3)) (sIf (bT (fA (ari 2 fn_is_apart) (aCons (fNm 1) (aCons (fNm 4) aNil)))) (sRet (fNm 4)) sNx)) (sSetA 2 (fCp (fI lsD (fNm 3)) (bT (fA (ari 2 fn_is_inner) (aCons (fNm 1) (aCons (fNm 0) aNil)))) (fNm 0) [1]))) [.fz (.int m),.fz (.tup (sT ps)),.fz (.lst (sT xs)),s3,s4]=.nx [.fz (.int m),.fz (.tup (sT ps)),.fz (.lst (sT ((goneOn m xs).filter (isInner ps)))),s3',s4']:=by
 have eg:=gone_on_eq (m:=m) xs (fun x q=>by have:=hx x q;omega) (by omega)
 have e1:(sSet 3 (fA (ari 2 fn_gone_on) (aCons (fNm 0) (aCons (fNm 2) aNil)))) [.fz (.int m),.fz (.tup (sT ps)),.fz (.lst (sT xs)),s3,s4]=.nx [.fz (.int m),.fz (.tup (sT ps)),.fz (.lst (sT xs)),.fz (.lst (sT (goneOn m xs))),s4]:=by
  refine sSet_ok (d:=.lst (sT (goneOn m xs))) ?_
  exact eg
 have hgl:(goneOn m xs).length≤1000000:=by
  have hab:(abcd.take m).length≤4:=by rw[List.length_take];exact Nat.min_le_right _ _
  have:(goneOn m xs).length≤4*xs.length:=by
   unfold goneOn
   clear hn hx eg e1
   induction xs with
   | nil=>simp
   | cons y ys ih=>simp only[List.flatMap_cons,List.length_append,List.length_map,List.length_cons];omega
  omega
 have key:=forD_find (i:=4) (g:=sIf (bT (fA (ari 2 fn_is_apart) (aCons (fNm 1) (aCons (fNm 4) aNil)))) (sRet (fNm 4)) sNx) (ρ:=[.fz (.int m),.fz (.tup (sT ps)),.fz (.lst (sT xs)),.fz (.lst (sT (goneOn m xs))),s4]) (l:=goneOn m xs) (enc:=D.str)
  (fun ρ=>∃a,ρ=[.fz (.int m),.fz (.tup (sT ps)),.fz (.lst (sT xs)),.fz (.lst (sT (goneOn m xs))),a]) (isApart ps) (fun x=>.str x) ⟨_,rfl⟩ (fun x hx ρ ⟨a,e⟩=>by
   subst e
   have ea:(bT (fA (ari 2 fn_is_apart) (aCons (fNm 1) (aCons (fNm 4) aNil)))) [.fz (.int m),.fz (.tup (sT ps)),.fz (.lst (sT xs)),.fz (.lst (sT (goneOn m xs))),.fz (.str x)]=.ok (isApart ps x):=by
    show(fn_is_apart [.tup (sT ps),.str x]).bind tru=_
    rw[is_apart_eq ps x hl];rfl
   cases hp:isApart ps x with
   | true=>rw[if_pos rfl];rw[hp] at ea;exact(sIf_t ea).trans rfl
   | false=>rw[if_neg Bool.false_ne_true];rw[hp] at ea;exact⟨_,(sIf_f ea).trans rfl,_,rfl⟩)
 cases hf:(goneOn m xs).find? (isApart ps) with
 | some x =>
  rw[hf] at key
  refine(sSeq_nx e1).trans (sSeq_rt ((sFor_ok (ds:=sT (goneOn m xs)) rfl).trans key))
 | none =>
  rw[hf] at key
  obtain⟨ρ',k1,a,rfl⟩:=key
  have ec:compD (bT (fA (ari 2 fn_is_inner) (aCons (fNm 1) (aCons (fNm 0) aNil)))) (fNm 0) [.no,.fz (.tup (sT ps))] (sT (goneOn m xs))=.ok (((goneOn m xs).filter (isInner ps)).map .str):=compD_of _ _ fun x hx=>⟨by
   show(fn_is_inner [.tup (sT ps),.str x]).bind tru=_
   rw[is_inner_eq ps x hl];rfl,fun _=>rfl⟩
  refine⟨.fz (.lst (sT (goneOn m xs))),a,(sSeq_nx e1).trans ((sSeq_nx ((sFor_ok (ds:=sT (goneOn m xs)) rfl).trans k1)).trans ?_)⟩
  have e5:fCp (fI lsD (fNm 3)) (bT (fA (ari 2 fn_is_inner) (aCons (fNm 1) (aCons (fNm 0) aNil)))) (fNm 0) [1] [.fz (.int m),.fz (.tup (sT ps)),.fz (.lst (sT xs)),.fz (.lst (sT (goneOn m xs))),a]=.ok (sT ((goneOn m xs).filter (isInner ps))):=by
   show(if (sT (goneOn m xs)).length≤1000000 then compD _ _ [.no,.fz (.tup (sT ps))] (sT (goneOn m xs)) else .no)=_
   rw[sT_len,if_pos hgl]
   exact ec
  unfold sSetA
  rw[e5];rfl
theorem eqvAll_sT:∀(xs ys:List (List Nat)),PyData.eqvAll (D.pys (sT xs)) (D.pys (sT ys))=decide (xs=ys)
 | [],[]=>rfl
 | [],_::_=>rfl
 | _::_,[]=>rfl
 | x::xs,y::ys=>by
  show(PyData.eqv (.str (T x)) (.str (T y))&&PyData.eqvAll (D.pys (sT xs)) (D.pys (sT ys)))=_
  rw[eqvAll_sT xs ys,eqv_str]
  by_cases h:x=y <;>by_cases h2:xs=ys <;>simp[h,h2]
theorem dep_sT:∀xs:List (List Nat),PyData.depthAll (D.pys (sT xs))=0
 | []=>rfl
 | x::xs=>by
  show max (PyData.depth (.str (T x))) (PyData.depthAll (D.pys (sT xs)))=0
  rw[dep_sT xs];rfl
theorem eqD_lst (neg:Bool)(xs ys:List (List Nat)):eqD neg (.lst (sT xs)) (.lst (sT ys))=some (.bl (if neg then !decide (xs=ys) else decide (xs=ys))):=by
 have h:(D.lst (sT xs)).pl=true∧(D.lst (sT ys)).pl=true∧(D.lst (sT xs)).py.depth≤60:=⟨pls_sT xs,pls_sT ys,by show PyData.depthAll (D.pys (sT xs))+1≤60;rw[dep_sT];omega⟩
 unfold eqD
 rw[if_pos h]
 show some (D.bl (if neg=true then !PyData.eqvAll (D.pys (sT xs)) (D.pys (sT ys)) else PyData.eqvAll (D.pys (sT xs)) (D.pys (sT ys))))=_
 rw[eqvAll_sT]
theorem goneOn_nd (m:Nat){xs:List (List Nat)}(h:xs.Nodup):(goneOn m xs).Nodup:=by
 induction xs with
 | nil=>exact List.nodup_nil
 | cons x xs ih =>
  obtain⟨h1,h2⟩:=List.nodup_cons.mp h
  show((kids m x)++goneOn m xs).Nodup
  refine List.nodup_append.mpr ⟨kids_nd m x,ih h2,fun y hy z hz e=>?_⟩
  subst e
  obtain⟨c,hc,e⟩:=kids_mem.mp hy
  obtain⟨w,hw,d,hd,e2⟩:=goneOn_mem hz
  have:=congrArg List.dropLast (e.symm.trans e2)
  rw[List.dropLast_concat,List.dropLast_concat] at this
  exact h1 (this▸hw)
theorem fta_loop {m:Nat}(m4:m≤4){ps:List (List Nat)}(hl:ps.length≤10000)(h8:∀p∈ps,p.length≤31):∀(k L n:Nat) (xs:List (List Nat)) (s3 s4:Sl),L+k=32→(∀x∈xs,x.length=L∧(L=0∨isInner ps x=true))→xs.Nodup→k<n →
  match fta m ps k xs with
  | some x=>whD (bT (f2 (eqD true) (fNm 2) (fO mkL aNil))) (sSeq (sSet 3 (fA (ari 2 fn_gone_on) (aCons (fNm 0) (aCons (fNm 2) aNil)))) (sSeq (sFor 4 (fI lsD (fNm 3)) (sIf (bT (fA (ari 2 fn_is_apart) (aCons (fNm 1) (aCons (fNm 4) aNil)))) (sRet (fNm 4)) sNx)) (sSetA 2 (fCp (fI lsD (fNm 3)) (bT (fA (ari 2 fn_is_inner) (aCons (fNm 1) (aCons (fNm 0) aNil)))) (fNm 0) [1])))) n [.fz (.int m),.fz (.tup (sT ps)),.fz (.lst (sT xs)),s3,s4]=.rt (.str x)
  | none=>∃ρ',whD (bT (f2 (eqD true) (fNm 2) (fO mkL aNil))) (sSeq (sSet 3 (fA (ari 2 fn_gone_on) (aCons (fNm 0) (aCons (fNm 2) aNil)))) (sSeq (sFor 4 (fI lsD (fNm 3)) (sIf (bT (fA (ari 2 fn_is_apart) (aCons (fNm 1) (aCons (fNm 4) aNil)))) (sRet (fNm 4)) sNx)) (sSetA 2 (fCp (fI lsD (fNm 3)) (bT (fA (ari 2 fn_is_inner) (aCons (fNm 1) (aCons (fNm 0) aNil)))) (fNm 0) [1])))) n [.fz (.int m),.fz (.tup (sT ps)),.fz (.lst (sT xs)),s3,s4]=.nx ρ':=by
 intro k
 induction k with
 | zero =>
  intro L n xs s3 s4 hL hx hn hk
  have:xs=[]:=by
   cases xs with
   | nil=>rfl
   | cons x xs =>
    obtain⟨e1,e2⟩:=hx x (.head _)
    rcases e2 with e2|e2
    ·omega
    ·have:=inner_len e2 h8;omega
  subst this
  obtain⟨n',rfl⟩:∃n',n=n'+1:=⟨n - 1,by omega⟩
  refine⟨[.fz (.int m),.fz (.tup (sT ps)),.fz (.lst (sT [])),s3,s4],?_⟩
  unfold whD
  have e0:(bT (f2 (eqD true) (fNm 2) (fO mkL aNil))) [.fz (.int m),.fz (.tup (sT ps)),.fz (.lst (sT [])),s3,s4]=.ok false:=by
   show(lf (eqD true (.lst (sT [])) (.lst (sT [])))).bind tru=_
   rw[eqD_lst];rfl
  rw[e0]
 | succ k ih =>
  intro L n xs s3 s4 hL hx hn hk
  obtain⟨n',rfl⟩:∃n',n=n'+1:=⟨n - 1,by omega⟩
  have et:(bT (f2 (eqD true) (fNm 2) (fO mkL aNil))) [.fz (.int m),.fz (.tup (sT ps)),.fz (.lst (sT xs)),s3,s4]=.ok (!decide (xs=[])):=by
   show(lf (eqD true (.lst (sT xs)) (.lst (sT [])))).bind tru=_
   rw[eqD_lst];rfl
  by_cases h0:xs=[]
  ·have ef:fta m ps (k+1) xs=none:=by unfold fta;rw[if_pos h0]
   rw[ef]
   refine⟨[.fz (.int m),.fz (.tup (sT ps)),.fz (.lst (sT xs)),s3,s4],?_⟩
   unfold whD
   rw[et,decide_eq_true h0]
   rfl
  ·have ef:fta m ps (k+1) xs=match (goneOn m xs).find? (isApart ps) with|some x=>some x|none=>fta m ps k ((goneOn m xs).filter (isInner ps)):=by
    rw[fta.eq_2,if_neg h0]
    all_goals (cases (goneOn m xs).find? (isApart ps) <;>rfl)
   rw[decide_eq_false h0] at et
   have hLs:L≤30:=by
    cases xs with
    | nil=>exact absurd rfl h0
    | cons x xs =>
     obtain⟨e1,e2⟩:=hx x (.head _)
     rcases e2 with e2|e2
     ·omega
     ·have:=inner_len e2 h8;omega
   have hcnt:xs.length≤ps.length+1:=by
    rcases Nat.eq_zero_or_pos L with z|z
    ·have:xs.length≤([[]]:List (List Nat)).length:=hn.length_le_of_subset fun x hxx=>by
      rw[List.length_eq_zero_iff.mp ((hx x hxx).1.trans z)];exact .head _
     simp at this;omega
    ·have:xs.length≤(ps.map fun p=>p.take L).length:=hn.length_le_of_subset fun x hxx=>by
      obtain⟨e1,e2⟩:=hx x hxx
      rcases e2 with e2|e2
      ·omega
      ·obtain⟨p,hp,q1,_⟩:=inner_iff.mp e2
       refine List.mem_map.mpr ⟨p,hp,?_⟩
       rw[← e1];exact(List.prefix_iff_eq_take.mp q1).symm
     rw[List.length_map] at this;omega
   have R:=fta_round (m:=m) (ps:=ps) (by omega) xs (fun x q=>by have:=(hx x q).1;omega) (by omega) s3 s4
   rw[ef]
   cases hf:(goneOn m xs).find? (isApart ps) with
   | some x =>
    rw[hf] at R
    show whD _ _ (n'+1) _=_
    unfold whD
    rw[et]
    simp only[Bool.not_false]
    rw[R]
   | none =>
    rw[hf] at R
    obtain⟨s3',s4',R⟩:=R
    have hx':∀x∈(goneOn m xs).filter (isInner ps),x.length=L+1∧(L+1=0∨isInner ps x=true):=fun x q=>by
     obtain⟨q1,q2⟩:=List.mem_filter.mp q
     obtain⟨y,hy,c,hc,rfl⟩:=goneOn_mem q1
     exact⟨by rw[List.length_append,(hx y hy).1];rfl,.inr q2⟩
    have hn':((goneOn m xs).filter (isInner ps)).Nodup:=(goneOn_nd m hn).filter _
    have:=ih (L+1) n' _ s3' s4' (by omega) hx' hn' (by omega)
    have es:whD (bT (f2 (eqD true) (fNm 2) (fO mkL aNil))) (sSeq (sSet 3 (fA (ari 2 fn_gone_on) (aCons (fNm 0) (aCons (fNm 2) aNil)))) (sSeq (sFor 4 (fI lsD (fNm 3)) (sIf (bT (fA (ari 2 fn_is_apart) (aCons (fNm 1) (aCons (fNm 4) aNil)))) (sRet (fNm 4)) sNx)) (sSetA 2 (fCp (fI lsD (fNm 3)) (bT (fA (ari 2 fn_is_inner) (aCons (fNm 1) (aCons (fNm 0) aNil)))) (fNm 0) [1])))) (n'+1) [.fz (.int m),.fz (.tup (sT ps)),.fz (.lst (sT xs)),s3,s4]=whD (bT (f2 (eqD true) (fNm 2) (fO mkL aNil))) (sSeq (sSet 3 (fA (ari 2 fn_gone_on) (aCons (fNm 0) (aCons (fNm 2) aNil)))) (sSeq (sFor 4 (fI lsD (fNm 3)) (sIf (bT (fA (ari 2 fn_is_apart) (aCons (fNm 1) (aCons (fNm 4) aNil)))) (sRet (fNm 4)) sNx)) (sSetA 2 (fCp (fI lsD (fNm 3)) (bT (fA (ari 2 fn_is_inner) (aCons (fNm 1) (aCons (fNm 0) aNil)))) (fNm 0) [1])))) n' [.fz (.int m),.fz (.tup (sT ps)),.fz (.lst (sT ((goneOn m xs).filter (isInner ps)))),s3',s4']:=by
     rw[whD.eq_2,et]
     simp only[Bool.not_false]
     rw[R]
    simp only[es]
    exact this
theorem first_text_eq {m:Nat}(m4:m≤4){ps:List (List Nat)}(hl:ps.length≤10000)(h8:∀p∈ps,p.length≤31):fn_first_text_apart [.int m,.tup (sT ps)]=.ok (match firstText m ps with|some x=>.str x|none=>.non):=by
 have:=fta_loop m4 hl h8 32 0 2000 [[]] .no .no rfl (fun x hx=>by rw[List.mem_singleton.mp hx];exact⟨rfl,.inl rfl⟩) (by decide) (by decide)
 unfold firstText
 cases hf:fta m ps 32 [[]] with
 | some x =>
  rw[hf] at this
  refine runD_rt ?_
  exact(sSeq_nx (ρ':=[.fz (.int m),.fz (.tup (sT ps)),.fz (.lst (sT [[]])),.no,.no]) rfl).trans (sSeq_rt (cutX_rt this))
 | none =>
  rw[hf] at this
  obtain⟨ρ',e⟩:=this
  refine runD_rt ?_
  exact(sSeq_nx (ρ':=[.fz (.int m),.fz (.tup (sT ps)),.fz (.lst (sT [[]])),.no,.no]) rfl).trans ((sSeq_nx (cutX_nx e)).trans rfl)
def papD (m:Nat)(ps:List (List Nat)):D:=match firstPair ps with
 | some x=>.tup [.str x.1,.str x.2]
 | none=>(match firstText m ps with|some x=>.str x|none=>.non)
theorem first_paper_eq {m:Nat}(m4:m≤4){ps:List (List Nat)}(hl:ps.length≤10000)(h8:∀p∈ps,p.length≤31):fn_first_paper [.int m,.tup (sT ps)]=.ok (papD m ps):=by
 refine runD_rt ?_
 show g_first_paper [.fz (.int m),.fz (.tup (sT ps)),.no]=_
 unfold g_first_paper papD
 cases hf:firstPair ps with
 | some x =>
  have e1:sSet 2 (fA (ari 1 fn_first_pair) (aCons (fNm 1) aNil)) [.fz (.int m),.fz (.tup (sT ps)),.no]=.nx [.fz (.int m),.fz (.tup (sT ps)),.fz (.tup [.str x.1,.str x.2])]:=sSet_ok (d:=.tup [.str x.1,.str x.2]) (by
   show fn_first_pair [.tup (sT ps)]=_
   rw[first_pair_eq,hf])
  exact(sSeq_nx e1).trans (sSeq_rt rfl)
 | none =>
  have e1:sSet 2 (fA (ari 1 fn_first_pair) (aCons (fNm 1) aNil)) [.fz (.int m),.fz (.tup (sT ps)),.no]=.nx [.fz (.int m),.fz (.tup (sT ps)),.fz .non]:=sSet_ok (d:=.non) (by
   show fn_first_pair [.tup (sT ps)]=_
   rw[first_pair_eq,hf])
  refine(sSeq_nx e1).trans ((sSeq_nx (ρ':=[.fz (.int m),.fz (.tup (sT ps)),.fz .non]) rfl).trans (sRet_ok ?_))
  show fn_first_text_apart [.int m,.tup (sT ps)]=_
  rw[first_text_eq m4 hl h8]
theorem pap_none {m:Nat}{ps:List (List Nat)}:isN false (papD m ps)=some (.bl ((firstPair ps).isNone&&(firstText m ps).isNone)):=by
 unfold papD
 cases firstPair ps with
 | some x=>rfl
 | none=>cases firstText m ps <;>rfl
theorem is_book_eq {m:Nat}{ps:List (List Nat)}(h:Pcs m ps):fn_is_book [.int m,.tup (sT ps)]=.ok (.bl (isBook m ps)):=by
 have h8:∀p∈ps,p.length≤31:=fun p q=>(h.2.2.2.2 p q).2.2
 have hl:ps.length≤10000:=by have:=h.2.2.2.1;omega
 refine runD_rt (sRet_ok ?_)
 show(fn_are_pieces [.int m,.tup (sT ps)]).bind (fun a=>(tru a).bind fun b=>if b=true then(fn_first_paper [.int m,.tup (sT ps)]).bind (fun a=>lf (isN false a)) else .ok (.bl false))=_
 rw[are_pieces_eq h,first_paper_eq h.2.1 hl h8]
 show(if rising ps=true then lf (isN false (papD m ps)) else Rs.ok (D.bl false))=_
 rw[pap_none]
 unfold isBook
 cases rising ps <;>simp[lf]
theorem require_book_eq {m:Nat}{ps:List (List Nat)}(h:Pcs m ps)(hr:isBook m ps=true):fn_require_book [.int m,.tup (sT ps)]=.ok .non:=by
 refine runD_nx (ρ:=[.fz (.int m),.fz (.tup (sT ps))]) ?_
 refine(sIf_f ?_).trans rfl
 show((fn_is_book [.int m,.tup (sT ps)]).bind tru).bind (fun b=>Rs.ok !b)=_
 rw[is_book_eq h,hr];rfl
theorem require_text_eq {m:Nat}(m4:m≤4){l:List Nat}(h:LetOk m l)(hl:l.length≤1000000):fn_require_text_of [.int m,.str l]=.ok .non:=by
 refine runD_nx (ρ:=[.fz (.int m),.fz (.str l)]) ?_
 refine(sIf_f ?_).trans rfl
 show((fn_is_text_of [.int m,.str l]).bind tru).bind (fun b=>Rs.ok !b)=_
 rw[is_text_of_str m l hl,isText_ok m4 h];rfl
def dK (ks:List (List Nat)):List (List Nat×D):=ks.map fun k=>(k,.bl true)
theorem putD_dK (ks:List (List Nat))(k:List Nat):putD (dK ks) k (.bl true)=dK (addK ks k):=by
 unfold putD addK dK
 have e:((ks.map fun k=>(k,D.bl true)).any fun kv=>decide (kv.1=k))=decide (k∈ks):=by
  rw[List.any_map,Bool.eq_iff_iff,List.any_eq_true,decide_eq_true_eq]
  constructor
  ·rintro⟨y,hy,z⟩
   have:y=k:=by simpa using z
   exact this▸hy
  ·intro hk;exact⟨k,hk,by simp⟩
 rw[e]
 by_cases h:k∈ks
 ·rw [if_pos (decide_eq_true h),if_pos h,List.map_map]
  exact List.map_congr_left fun y hy=>by
   show(if y=k then(y,D.bl true) else(y,D.bl true))=_
   split <;>rfl
 ·rw[if_neg (by simp[h]),if_neg h,List.map_append];rfl
theorem dK_len (ks:List (List Nat)):(dK ks).length=ks.length:=by simp[dK]
theorem fold_addK_len:∀(l ks:List (List Nat)),(l.foldl addK ks).length≤ks.length+l.length
 | [],ks=>Nat.le_refl _
 | x::l,ks=>by
  have h1:=fold_addK_len l (addK ks x)
  have h2:=addK_len ks x
  rw[List.foldl_cons,List.length_cons];omega
theorem inner_of_eq {ps:List (List Nat)}(h8:∀p∈ps,p.length≤31)(hl:ps.length≤1000)(hk:(innerKeys ps).length<64):fn_inner_of [.tup (sT ps)]=.ok (.lst (sT (sortF (innerKeys ps)))):=by
 have inner:∀(p:List Nat) (ks:List (List Nat)) (s:Sl),p.length≤31→ks.length≤99999→∃s',sFor 3 (fR rng1 (aCons (fO lenD (aCons (fNm 2) aNil)) aNil)) (sPut 1 (fSl (fNm 2) oNone (oSome (fNm 3))) (fC (.bl true))) [.fz (.tup (sT ps)),.od (dK ks),.fz (.str p),s]=.nx [.fz (.tup (sT ps)),.od (dK ((begs p).foldl addK ks)),.fz (.str p),s']:=by
  intro p ks s hp hks
  have er:fR rng1 (aCons (fO lenD (aCons (fNm 2) aNil)) aNil) [.fz (.tup (sT ps)),.od (dK ks),.fz (.str p),s]=.ok ((List.range p.length).map fun(k:Nat)=>.int (k:Int)):=by
   exact fR_ok (ds:=[.int (p.length:Int)]) rfl (rng1_nat (by omega))
  rw[sFor_ok er]
  obtain ⟨ρ',e,s',rfl⟩:=forD_inv (i:=3) (g:=sPut 1 (fSl (fNm 2) oNone (oSome (fNm 3))) (fC (.bl true))) (l:=List.range p.length) (enc:=fun(k:Nat)=>D.int (k:Int)) (ρ:=[.fz (.tup (sT ps)),.od (dK ks),.fz (.str p),s])
   (fun k ρ=>∃s',ρ=[.fz (.tup (sT ps)),.od (dK (((List.range k).map fun e=>p.take e).foldl addK ks)),.fz (.str p),s']) ⟨s,rfl⟩ (fun k c ρ hc ⟨s',e⟩=>by
    subst e
    have hkk:k<p.length:=by have:=(List.getElem?_eq_some_iff.mp hc).1;simpa using this
    have ec:c=k:=by rw[List.getElem?_range hkk] at hc;exact(Option.some.inj hc).symm
    subst ec
    have hb:=fold_addK_len ((List.range c).map fun e=>p.take e) ks
    rw[List.length_map,List.length_range] at hb
    have hlen:(dK (((List.range c).map fun e=>p.take e).foldl addK ks)).length<1000000:=by rw[dK_len];omega
    have e1:fSl (fNm 2) oNone (oSome (fNm 3)) [.fz (.tup (sT ps)),.od (dK (((List.range c).map fun e=>p.take e).foldl addK ks)),.fz (.str p),.fz (.int (c:Int))]=.ok (.str (p.take c)):=by
     show Rs.ok (D.str (cutL p none (some (c:Int))))=_
     rw[cut_none]
    refine⟨[.fz (.tup (sT ps)),.od (putD (dK (((List.range c).map fun e=>p.take e).foldl addK ks)) (p.take c) (.bl true)),.fz (.str p),.fz (.int (c:Int))],?_,.fz (.int (c:Int)),?_⟩
    ·exact sPut_ok rfl rfl e1 hlen
    ·rw[putD_dK,List.range_succ,List.map_append,List.foldl_append];rfl)
  refine⟨s',e.trans ?_⟩
  rw[List.length_range];rfl
 have outer:=forD_inv (i:=2) (g:=sFor 3 (fR rng1 (aCons (fO lenD (aCons (fNm 2) aNil)) aNil)) (sPut 1 (fSl (fNm 2) oNone (oSome (fNm 3))) (fC (.bl true)))) (l:=ps) (enc:=D.str) (ρ:=[.fz (.tup (sT ps)),.od [],.no,.no])
  (fun k ρ=>∃s s',ρ=[.fz (.tup (sT ps)),.od (dK (((ps.take k).flatMap begs).foldl addK [])),s,s']) ⟨.no,.no,rfl⟩ (fun k p ρ hp ⟨s,s',e⟩=>by
   subst e
   have hkk:k<ps.length:=(List.getElem?_eq_some_iff.mp hp).1
   have e3:ps.take (k+1)=ps.take k++[p]:=by rw[List.take_add_one,hp];rfl
   have hb:=fold_addK_len ((ps.take k).flatMap begs) []
   have hb2:((ps.take k).flatMap begs).length≤31*(ps.take k).length:=by
    have hq:∀q∈ps.take k,q.length≤31:=fun q hq=>h8 q (List.mem_of_mem_take hq)
    generalize ps.take k=qs at hq
    induction qs with
    | nil=>simp
    | cons q qs ih =>
     have:=ih fun y hy=>hq y (.tail _ hy)
     have h1:=hq q (.head _)
     simp only[List.flatMap_cons,List.length_append,List.length_cons,begs,List.length_map,List.length_range] at *
     omega
   rw[List.length_take] at hb2
   simp only[List.length_nil] at hb
   obtain⟨s2,e4⟩:=inner p (((ps.take k).flatMap begs).foldl addK []) s' (h8 p (List.mem_of_getElem? hp)) (by omega)
   refine⟨_,e4,.fz (.str p),s2,?_⟩
   rw[e3,List.flatMap_append,List.foldl_append]
   simp)
 obtain⟨ρ',e,s,s',rfl⟩:=outer
 rw[List.take_of_length_le (Nat.le_refl _)] at e
 refine runD_rt ?_
 show g_inner_of [.fz (.tup (sT ps)),.no,.no,.no]=_
 unfold g_inner_of
 refine(sSeq_nx (ρ':=[.fz (.tup (sT ps)),.od [],.no,.no]) rfl).trans ?_
 refine(sSeq_nx (cutX_nx ((sFor_ok (ds:=sT ps) rfl).trans e))).trans (sRet_ok ?_)
 show(if (dK (innerKeys ps)).length<64 then Rs.ok ((sortF ((dK (innerKeys ps)).map (·.1))).map D.str) else .no).bind (fun ds=>Rs.ok (D.lst ds))=_
 have ek:(dK (innerKeys ps)).map (·.1)=innerKeys ps:=by unfold dK;rw[List.map_map];exact(List.map_congr_left fun x _=>rfl).trans (List.map_id _)
 rw[dK_len,if_pos hk,ek];rfl
def cellF (ns:List Int)(k:Int):Int:=if ns=[] then 7*k else ns.getD (k % ns.length).toNat 0+6553*(k / ns.length)
def drawnF (ns:List Int)(k m:Int):Int :=
 let c1:=(cellF ns k % 2147483563*69069+104723*(k+1)) % 2147483563
 let c2:=(c1*c1+c1 / 3) % 2147483399
 (c2*c2+c2 / 7) % 2147483647 / 11 % m
theorem drawn_range (ns:List Int)(k:Int){m:Int}(hm:0<m):0≤drawnF ns k m∧drawnF ns k m<m:=by
 unfold drawnF
 exact⟨Int.emod_nonneg _ (by omega),Int.emod_lt_of_pos _ (by omega)⟩
def scD (ns:List Int):D:=.lst (ns.map .int)
theorem pls_ints:∀ns:List Int,D.pls (ns.map .int)=true
 | []=>rfl
 | n::ns=>by show((D.int n).pl&&D.pls (ns.map .int))=true;rw[pls_ints ns];rfl
theorem dep_ints:∀ns:List Int,PyData.depthAll (D.pys (ns.map .int))=0
 | []=>rfl
 | n::ns=>by show max 0 (PyData.depthAll (D.pys (ns.map .int)))=0;rw[dep_ints ns];rfl
theorem eqD_script (ns:List Int):eqD false (scD ns) (.lst [])=some (.bl (decide (ns=[]))):=by
 have h:(scD ns).pl=true∧(D.lst []).pl=true∧(scD ns).py.depth≤60:=⟨pls_ints ns,rfl,by show PyData.depthAll (D.pys (ns.map .int))+1≤60;rw[dep_ints];omega⟩
 unfold eqD
 rw[if_pos h]
 cases ns <;>rfl
theorem cell_eq (ns:List Int)(hn:ns.length≤63)(k:Int)(h0:0≤k)(h1:k<1000):fn__law_cell [scD ns,.int k]=.ok (.int (cellF ns k)):=by
 refine runD_rt ?_
 show g__law_cell [.fz (scD ns),.fz (.int k)]=_
 unfold g__law_cell cellF
 have e1:(bT (f2 (eqD false) (fNm 0) (fO mkL aNil))) [.fz (scD ns),.fz (.int k)]=.ok (decide (ns=[])):=by
  show(lf (eqD false (scD ns) (.lst []))).bind tru=_
  rw[eqD_script];rfl
 by_cases h:ns=[]
 ·rw[decide_eq_true h] at e1
  rw[if_pos h]
  exact sSeq_rt ((sIf_t e1).trans (sRet_ok (mulI_ok rfl rfl (sm_of (by omega)) (sm_of (by omega)))))
 ·rw [decide_eq_false h] at e1
  rw[if_neg h]
  refine(sSeq_nx (ρ':=[.fz (scD ns),.fz (.int k)]) ((sIf_f e1).trans rfl)).trans (sRet_ok ?_)
  have hl:0<ns.length:=List.length_pos_iff.mpr h
  have el:fO lenD (aCons (fNm 0) aNil) [.fz (scD ns),.fz (.int k)]=.ok (.int (ns.length:Int)):=by
   show Rs.ok (D.int ((ns.map D.int).length:Int))=_
   rw[List.length_map]
  have hp:(0:Int)<(ns.length:Int):=by omega
  have r1:=Int.emod_nonneg k (show(ns.length:Int)≠0 by omega)
  have r2:=Int.emod_lt_of_pos k hp
  have hd:0≤k / (ns.length:Int):=Int.ediv_nonneg h0 (by omega)
  have hd2:k / (ns.length:Int)≤k:=Int.ediv_le_self _ h0
  obtain⟨j,hj⟩:=Int.eq_ofNat_of_zero_le r1
  have hjl:j<ns.length:=by omega
  have ei:f2 ixD (fNm 0) (f2 modI (fNm 1) (fO lenD (aCons (fNm 0) aNil))) [.fz (scD ns),.fz (.int k)]=.ok (.int (ns.getD (k % (ns.length:Int)).toNat 0)):=by
   refine f2_ok (a:=scD ns) (b:=.int (k % (ns.length:Int))) rfl (modI_ok rfl el hp) ?_
   show atI (ns.map D.int) (k % (ns.length:Int))=_
   rw[hj]
   have:=atI_nat (xs:=ns.map D.int) (j:=j) (v:=.int ns[j]) (by rw[List.getElem?_map,List.getElem?_eq_getElem hjl];rfl)
   rw[this,Int.toNat_natCast,List.getD_eq_getElem?_getD,List.getElem?_eq_getElem hjl];rfl
  exact addI_ok ei (mulI_ok rfl (fdivI_ok rfl el hp (sm_of (by omega))) (sm_of (by omega)) (sm_of (by omega)))
theorem drawn_eq (ns:List Int)(hn:ns.length≤63)(k m:Int)(h0:0≤k)(h1:k<1000)(hm:0<m):fn__law_drawn [scD ns,.int k,.int m]=.ok (.int (drawnF ns k m)):=by
 refine runD_rt ?_
 show g__law_drawn [.fz (scD ns),.fz (.int k),.fz (.int m),.no]=_
 have hD:∀c1 c2,(cellF ns k % 2147483563*69069+104723*(k+1)) % 2147483563=c1→(c1*c1+c1 / 3) % 2147483399=c2→drawnF ns k m=(c2*c2+c2 / 7) % 2147483647 / 11 % m:=by
  rintro _ _ rfl rfl;rfl
 unfold g__law_drawn
 have ec:fA (ari 2 fn__law_cell) (aCons (fNm 0) (aCons (fNm 1) aNil)) [.fz (scD ns),.fz (.int k),.fz (.int m),.no]=.ok (.int (cellF ns k)):=cell_eq ns hn k h0 h1
 have a1:=Int.emod_nonneg (cellF ns k) (show(2147483563:Int)≠0 by decide)
 have a2:=Int.emod_lt_of_pos (cellF ns k) (show(0:Int)<2147483563 by decide)
 generalize hc1:(cellF ns k % 2147483563*69069+104723*(k+1)) % 2147483563=c1
 have b1:0≤c1:=hc1▸Int.emod_nonneg _ (by decide)
 have b2:c1<2147483563:=hc1▸Int.emod_lt_of_pos _ (by decide)
 refine(sSeq_nx (ρ':=[.fz (scD ns),.fz (.int k),.fz (.int m),.fz (.int c1)]) ?_).trans ?_
 ·rw[← hc1]
  exact sSet_ok (modI_ok (addI_ok (mulI_ok (modI_ok ec rfl (by decide)) rfl (sm_of (by omega)) (sm_of (by decide))) (mulI_ok rfl (addI_ok rfl rfl) (sm_of (by decide)) (sm_of (by omega)))) rfl (by decide))
 generalize hc2:(c1*c1+c1 / 3) % 2147483399=c2
 have d1:0≤c2:=hc2▸Int.emod_nonneg _ (by decide)
 have d2:c2<2147483399:=hc2▸Int.emod_lt_of_pos _ (by decide)
 refine(sSeq_nx (ρ':=[.fz (scD ns),.fz (.int k),.fz (.int m),.fz (.int c2)]) ?_).trans ?_
 ·rw[← hc2]
  exact sSet_ok (modI_ok (addI_ok (mulI_ok rfl rfl (sm_of (by omega)) (sm_of (by omega))) (fdivI_ok rfl rfl (by decide) (sm_of (by decide)))) rfl (by decide))
 rw[hD c1 c2 hc1 hc2]
 exact sRet_ok (modI_ok (fdivI_ok (modI_ok (addI_ok (mulI_ok rfl rfl (sm_of (by omega)) (sm_of (by omega))) (fdivI_ok rfl rfl (by decide) (sm_of (by decide)))) rfl (by decide)) rfl (by decide) (sm_of (by decide))) rfl hm)
theorem ix_abcd {j:Nat}(h:j<4):ixD (.str [97,98,99,100]) (.int (j:Int))=some (.str [abcd.getD j 0]):=by
 have e:j=0∨j=1∨j=2∨j=3:=by omega
 rcases e with rfl|rfl|rfl|rfl <;>rfl
def bkF (ns:List Int)(at':Nat)(m:Nat):Nat→List (List Nat)
 | 0=>kids m []
 | t+1=>part m (bkF ns at' m t) (drawnF ns ((at':Int)+(t:Int)) ((bkF ns at' m t).length:Int)).toNat
theorem bkF_gr (ns:List Int)(at':Nat){m:Nat}(m2:2≤m)(m4:m≤4):∀t:Nat,My.Gr m t (bkF ns at' m t)
 | 0=>.z
 | t+1=>by
  have g:=bkF_gr ns at' m2 m4 t
  have hl:=g.len m2 m4
  have hd:=drawn_range ns ((at':Int)+(t:Int)) (m:=((bkF ns at' m t).length:Int)) (by rw[hl];omega)
  exact .s g (by omega)
theorem kids_eq (m:Nat)(m4:m≤4)(p:List Nat):kids m p=(List.range m).map fun i=>p++[abcd.getD i 0]:=by
 unfold kids
 have:∀m≤4,abcd.take m=(List.range m).map fun i=>abcd.getD i 0:=by decide
 rw[this m m4,List.map_map];rfl
theorem sortD_lst {ls:List (List Nat)}(h:ls.length<64):sortD [.lst (sT ls)]=some (sT (sortF ls)):=by
 dsimp only [sortD]
 unfold sortL
 rw[if_pos ⟨all_isS ls,by rw[sT_len];exact h⟩,map_unS];rfl
theorem sT_erase (ls:List (List Nat))(k:Nat):(sT ls).eraseIdx k=sT (ls.eraseIdx k):=by
 exact erase_map D.str ls k
theorem book_eq (ns:List Int)(hn:ns.length≤63)(at':Nat){m:Nat}(m2:2≤m)(m4:m≤4)(t:Nat)(ht:t≤8)(hat:at'≤900):fn__law_book [scD ns,.int at',.int m,.int t]=.ok (.tup (sT (bkF ns at' m t))):=by
 have e0:fCp (fR rng1 (aCons (fNm 2) aNil)) bTrue (f2 ixD (fC (.str [97,98,99,100])) (fNm 0)) [] [.fz (scD ns),.fz (.int at'),.fz (.int m),.fz (.int t),.no,.no,.no]=.ok (sT (kids m [])):=by
  refine fCp_ok (fR_ok (ds:=[.int (m:Int)]) rfl (rng1_nat (by omega))) (by rw[List.length_map,List.length_range];omega) ?_
  rw[kids_eq m m4]
  have:=compD_map (fe:=f2 ixD (fC (.str [97,98,99,100])) (fNm 0)) (ρ0:=[.no]) (l:=List.range m) (enc:=fun(k:Nat)=>D.int (k:Int)) (fun i=>.str ([]++[abcd.getD i 0])) fun i hi=>f2_ok (a:=.str [97,98,99,100]) (b:=.int (i:Int)) rfl rfl (ix_abcd (by have:=List.mem_range.mp hi;omega))
  unfold sT
  rw[List.map_map]
  exact this
 have loop:=forD_inv (i:=5) (g:=sSeq (sPop 4 6 (fFl 4 (fA (ari 3 fn__law_drawn) (aCons (fNm 0) (aCons (f2 addI (fNm 1) (fNm 5)) (aCons (fO lenD (aCons (fNm 4) aNil)) aNil)))))) (sIce 4 (sSetO 4 (fL sortD (aCons (fLs (fL2 catD (fNm 4) (fComp (fR rng1 (aCons (fNm 2) aNil)) bTrue (f2 addS (fNm 1) (f2 ixD (fC (.str [97,98,99,100])) (fNm 0))) [6]))) aNil))))) (l:=List.range t) (enc:=fun(k:Nat)=>D.int (k:Int)) (ρ:=[.fz (scD ns),.fz (.int at'),.fz (.int m),.fz (.int t),.ow (sT (kids m [])),.no,.no])
  (fun k ρ=>∃s s',ρ=[.fz (scD ns),.fz (.int at'),.fz (.int m),.fz (.int t),.ow (sT (bkF ns at' m k)),s,s']) ⟨.no,.no,rfl⟩ (fun k c ρ hc ⟨s,s',e⟩=>by
   subst e
   have hk:k<t:=by have:=(List.getElem?_eq_some_iff.mp hc).1;simpa using this
   have ec:c=k:=by rw[List.getElem?_range hk] at hc;exact(Option.some.inj hc).symm
   subst ec
   have g:=bkF_gr ns at' m2 m4 c
   have hl:=g.len m2 m4
   have hsh:=g.short m2 m4
   have hll:(bkF ns at' m c).length≤28:=by
    rw[hl]
    have:c*(m - 1)≤8*3:=Nat.mul_le_mul (by omega) (by omega)
    omega
   have hpos:0<(bkF ns at' m c).length:=by rw[hl];omega
   have hd:=drawn_range ns ((at':Int)+(c:Int)) (m:=((bkF ns at' m c).length:Int)) (by omega)
   obtain⟨j,hj⟩:=Int.eq_ofNat_of_zero_le hd.1
   rw[hj] at hd
   have hjl:j<(bkF ns at' m c).length:=by omega
   have eB:bkF ns at' m (c+1)=part m (bkF ns at' m c) j:=by
    show part m (bkF ns at' m c) (drawnF ns ((at':Int)+(c:Int)) ((bkF ns at' m c).length:Int)).toNat=_
    rw[hj];rfl
   rw[eB]
   generalize hB:bkF ns at' m c=B at *
   have ed:fFl 4 (fA (ari 3 fn__law_drawn) (aCons (fNm 0) (aCons (f2 addI (fNm 1) (fNm 5)) (aCons (fO lenD (aCons (fNm 4) aNil)) aNil)))) [.fz (scD ns),.fz (.int at'),.fz (.int m),.fz (.int t),.ow (sT B),.fz (.int (c:Int)),s']=.ok (.int (j:Int)):=by
    refine fFl_ok rfl ?_ rfl
    show fn__law_drawn [scD ns,.int ((at':Int)+(c:Int)),.int ((sT B).length:Int)]=_
    rw[sT_len,← hj]
    exact drawn_eq ns hn _ _ (by omega) (by omega) (by omega)
   have ep:(sT B)[j]? = some (.str B[j]):=by unfold sT;rw[List.getElem?_map,List.getElem?_eq_getElem hjl];rfl
   have eg:B.getD j []=B[j]:=by rw[List.getD_eq_getElem?_getD,List.getElem?_eq_getElem hjl];rfl
   have hp8:=hsh B[j] (List.getElem_mem hjl)
   refine⟨_,(sSeq_nx (sPop_ok rfl ed (by omega) ep)).trans ?_,.fz (.int (c:Int)),.fz (.str B[j]),rfl⟩
   rw[sT_erase]
   refine(sIce_ok (ds:=sT (B.eraseIdx j)) rfl).trans ?_
   refine(sSetO_ok (d:=sT (part m B j)) ?_).trans rfl
   have ek:fComp (fR rng1 (aCons (fNm 2) aNil)) bTrue (f2 addS (fNm 1) (f2 ixD (fC (.str [97,98,99,100])) (fNm 0))) [6] [.fz (scD ns),.fz (.int at'),.fz (.int m),.fz (.int t),.fz (.lst (sT (B.eraseIdx j))),.fz (.int (c:Int)),.fz (.str B[j])]=.ok (.lst (sT (kids m B[j]))):=by
    refine fComp_ok (fR_ok (ds:=[.int (m:Int)]) rfl (rng1_nat (by omega))) (by rw[List.length_map,List.length_range];omega) ?_
    rw[kids_eq m m4]
    have:=compD_map (fe:=f2 addS (fNm 1) (f2 ixD (fC (.str [97,98,99,100])) (fNm 0))) (ρ0:=[.no,.fz (.str B[j])]) (l:=List.range m) (enc:=fun(k:Nat)=>D.int (k:Int)) (fun i=>.str (B[j]++[abcd.getD i 0])) fun i hi=>f2_ok (a:=.str B[j]) (b:=.str [abcd.getD i 0]) rfl (f2_ok (a:=.str [97,98,99,100]) (b:=.int (i:Int)) rfl rfl (ix_abcd (by have:=List.mem_range.mp hi;omega))) (addS_ok (by show B[j].length+1≤_;omega))
    unfold sT
    rw[List.map_map]
    exact this
   have el:(B.eraseIdx j++kids m B[j]).length<64:=by
    rw[List.length_append,kids_len m m4,List.length_eraseIdx,if_pos hjl];omega
   have ecat:fL2 catD (fNm 4) (fComp (fR rng1 (aCons (fNm 2) aNil)) bTrue (f2 addS (fNm 1) (f2 ixD (fC (.str [97,98,99,100])) (fNm 0))) [6]) [.fz (scD ns),.fz (.int at'),.fz (.int m),.fz (.int t),.fz (.lst (sT (B.eraseIdx j))),.fz (.int (c:Int)),.fz (.str B[j])]=.ok (sT (B.eraseIdx j++kids m B[j])):=by
    unfold fL2
    rw[ek]
    show lf' (catD (.lst (sT (B.eraseIdx j))) (.lst (sT (kids m B[j]))))=_
    dsimp only [catD]
    rw[if_pos (by rw[sT_len,sT_len,← List.length_append];omega),sT_app];rfl
   refine fL_ok (aCons_ok (fLs_ok ecat) rfl) ?_
   rw[sortD_lst el]
   unfold part
   rw[eg])
 obtain⟨ρ',e,s,s',rfl⟩:=loop
 rw[List.length_range] at e
 refine runD_rt ?_
 show g__law_book [.fz (scD ns),.fz (.int at'),.fz (.int m),.fz (.int t),.no,.no,.no]=_
 unfold g__law_book
 refine(sSeq_nx (sSetO_ok e0)).trans ((sSeq_nx (cutX_nx ((sFor_ok (fR_ok (ds:=[.int (t:Int)]) rfl (rng1_nat (by omega)))).trans e))).trans ?_)
 rfl
end Pg
set_option maxHeartbeats 4000000
namespace Pg
open PySem L2 PyProof.Rows
end Pg
set_option maxHeartbeats 1000000
namespace Pg
open PySem L2 My
theorem fA1 {fn:List D→Rs D}{f:Rho→Rs D}{ρ:Rho}{a:D}(e1:f ρ=.ok a):fA (ari 1 fn) (aCons f aNil) ρ=fn [a]:=by
 unfold fA;rw[aCons_ok e1 rfl];rfl
theorem fA2 {fn:List D→Rs D}{f g:Rho→Rs D}{ρ:Rho}{a b:D}(e1:f ρ=.ok a)(e2:g ρ=.ok b):fA (ari 2 fn) (aCons f (aCons g aNil)) ρ=fn [a,b]:=by
 unfold fA;rw[aCons_ok e1 (aCons_ok e2 rfl)];rfl
theorem fA3 {fn:List D→Rs D}{f g h:Rho→Rs D}{ρ:Rho}{a b c:D}(e1:f ρ=.ok a)(e2:g ρ=.ok b)(e3:h ρ=.ok c):fA (ari 3 fn) (aCons f (aCons g (aCons h aNil))) ρ=fn [a,b,c]:=by
 unfold fA;rw[aCons_ok e1 (aCons_ok e2 (aCons_ok e3 rfl))];rfl
theorem fA4 {fn:List D→Rs D}{f g h i:Rho→Rs D}{ρ:Rho}{a b c d:D}(e1:f ρ=.ok a)(e2:g ρ=.ok b)(e3:h ρ=.ok c)(e4:i ρ=.ok d):fA (ari 4 fn) (aCons f (aCons g (aCons h (aCons i aNil)))) ρ=fn [a,b,c,d]:=by
 unfold fA;rw[aCons_ok e1 (aCons_ok e2 (aCons_ok e3 (aCons_ok e4 rfl)))];rfl
theorem ifF {ft:Rho→Rs Bool}{g:Rho→Out}{ρ:Rho}(e:ft ρ=.ok false):sIf ft g sNx ρ=.nx ρ:=sIf_f e
theorem bT_ok {f:Rho→Rs D}{ρ:Rho}{b:Bool}(e:f ρ=.ok (.bl b)):bT f ρ=.ok b:=by unfold bT;rw[e];rfl
theorem bNot_ok {f:Rho→Rs Bool}{ρ:Rho}{b:Bool}(e:f ρ=.ok b):bNot f ρ=.ok (!b):=by unfold bNot;rw[e];rfl
theorem bOr_ff {f g:Rho→Rs Bool}{ρ:Rho}(e:f ρ=.ok false)(e2:g ρ=.ok false):bOr f g ρ=.ok false:=by unfold bOr;rw[e];exact e2
theorem fSl_ok {fa:Rho→Rs D}{fl fh:Rho→Rs (Option Int)}{ρ:Rho}{a d:D}{l h:Option Int}(e1:fa ρ=.ok a)(e2:fl ρ=.ok l)(e3:fh ρ=.ok h)(e4:slD a l h=some d):fSl fa fl fh ρ=.ok d:=by
 unfold fSl;rw[e1];show(fl ρ).bind _=_;rw[e2];show(fh ρ).bind _=_;rw[e3];show lf (slD a l h)=_;rw[e4];rfl
theorem sDrop_ok {f:Rho→Rs D}{ρ:Rho}{d:D}(e:f ρ=.ok d):sDrop f ρ=.nx ρ:=by unfold sDrop;rw[e]
theorem ixN_nat {n j:Nat}(h:j<n):ixN n (j:Int)=some j:=by
 unfold ixN
 rw[if_pos (by omega),if_pos (by omega)];rfl
theorem at_sT {B:List (List Nat)}{j:Nat}(h:j<B.length):atI (sT B) (j:Int)=some (.str (B.getD j [])):=by
 unfold atI
 rw[sT_len,ixN_nat h]
 simp[sT,h]
def bitsN (n:Nat):Nat:=if n≤1 then 0 else if n≤2 then 1 else if n≤4 then 2 else if n≤8 then 3 else if n≤16 then 4 else 5
def wlow (i:Nat):Nat→List Nat
 | 0=>[]
 | k+1=>(48+i / 2 ^ k % 2)::wlow i k
def W (n:Nat):List (List Nat):=(List.range n).map fun i=>wlow i (bitsN n)
end Pg
namespace Pg
open PySem L2 My
end Pg
namespace Pg
open PySem L2 My
def frD (x:Int×Int):D:=.tup [.int x.1,.int x.2]
theorem sm_big {i:Int}{B:Nat}(h0:0≤i)(h:i<2 ^ B)(hB:B≤4000):Sm i:=by
 unfold Sm
 have h1:i<(2:Int) ^ 4000:=Int.lt_of_lt_of_le h (by
  have:=Nat.pow_le_pow_right (n:=2) (by decide) hB
  exact_mod_cast this)
 have h2:(i.natAbs:Int)<(2:Int) ^ 4000:=by rw[Int.natAbs_of_nonneg h0];exact h1
 exact_mod_cast h2
theorem eqD_int (neg:Bool)(i j:Int):eqD neg (.int i) (.int j)=some (.bl (if neg then !decide (i=j) else decide (i=j))):=by
 unfold eqD
 rw[if_pos ⟨rfl,rfl,by show(PyData.int _).depth≤60;simp[PyData.depth]⟩]
 have:PyData.eqv (D.int i).py (D.int j).py=decide (i=j):=by
  show(i == j)=_
  by_cases h:i=j <;>simp[h]
 rw[this]
theorem gd_loop:∀(n:Nat) (a b:Int) (f:Nat) (s:Sl),0≤b→b≤a→a*b<2 ^ n→n<f →
  ∃s',whD (bT (f2 (eqD true) (fNm 1) (fC (.int 0)))) (sSeq (sSet 2 (f2 modI (fNm 0) (fNm 1))) (sSeq (sSet 0 (fNm 1)) (sSet 1 (fNm 2)))) f [.fz (.int a),.fz (.int b),s]=.nx [.fz (.int (Int.gcd a b:Int)),.fz (.int 0),s']:=by
 intro n
 induction n with
 | zero =>
  intro a b f s h0 h1 h2 h3
  cases f with
  | zero=>omega
  | succ f =>
  have hb:b=0:=by
   rcases Int.lt_or_eq_of_le h0 with h|h
   ·have:1*1≤a*b:=Int.mul_le_mul (by omega) (by omega) (by decide) (by omega)
    omega
   ·exact h.symm
  subst hb
  refine⟨s,?_⟩
  have e:bT (f2 (eqD true) (fNm 1) (fC (.int 0))) [.fz (.int a),.fz (.int 0),s]=.ok false:=bT_ok (f2_ok (a:=.int 0) (b:=.int 0) rfl rfl (by rw[eqD_int];rfl))
  unfold whD
  rw[e]
  have:(Int.gcd a 0:Int)=a:=by rw[Int.gcd_zero_right];omega
  rw[this]
 | succ n ih =>
  intro a b f s h0 h1 h2 h3
  cases f with
  | zero=>omega
  | succ f =>
  by_cases hb:b=0
  ·subst hb
   refine⟨s,?_⟩
   have e:bT (f2 (eqD true) (fNm 1) (fC (.int 0))) [.fz (.int a),.fz (.int 0),s]=.ok false:=bT_ok (f2_ok (a:=.int 0) (b:=.int 0) rfl rfl (by rw[eqD_int];rfl))
   unfold whD
   rw[e]
   have:(Int.gcd a 0:Int)=a:=by rw[Int.gcd_zero_right];omega
   rw[this]
  ·have bpos:0<b:=by omega
   have e:bT (f2 (eqD true) (fNm 1) (fC (.int 0))) [.fz (.int a),.fz (.int b),s]=.ok true:=bT_ok (f2_ok (a:=.int b) (b:=.int 0) rfl rfl (by rw[eqD_int,decide_eq_false hb];rfl))
   have r0:=Int.emod_nonneg a hb
   have r1:=Int.emod_lt_of_pos a bpos
   have es:(sSeq (sSet 2 (f2 modI (fNm 0) (fNm 1))) (sSeq (sSet 0 (fNm 1)) (sSet 1 (fNm 2)))) [.fz (.int a),.fz (.int b),s]=.nx [.fz (.int b),.fz (.int (a % b)),.fz (.int (a % b))] :=
    (sSeq_nx (sSet_ok (modI_ok rfl rfl bpos))).trans ((sSeq_nx (sSet_ok (d:=.int b) rfl)).trans (sSet_ok (d:=.int (a % b)) rfl))
   have hr:b*(a % b)<2 ^ n:=by
    have d1:b*(a / b)+a % b=a:=Int.mul_ediv_add_emod a b
    have q1:1≤a / b:=Int.le_ediv_of_mul_le bpos (by omega)
    have q2:b*1≤b*(a / b):=Int.mul_le_mul_of_nonneg_left q1 (by omega)
    have q3:2*(a % b)≤a:=by omega
    have q4:b*(2*(a % b))≤b*a:=Int.mul_le_mul_of_nonneg_left q3 (by omega)
    have q5:b*(2*(a % b))=2*(b*(a % b)):=by rw[← Int.mul_assoc,Int.mul_comm b 2,Int.mul_assoc]
    have q6:b*a=a*b:=Int.mul_comm ..
    have q7:(2:Int) ^ (n+1)=2 ^ n*2:=Int.pow_succ ..
    omega
   obtain⟨s',k⟩:=ih b (a % b) f (.fz (.int (a % b))) r0 (by omega) hr (by omega)
   refine⟨s',?_⟩
   unfold whD
   rw[e]
   show(match (sSeq (sSet 2 (f2 modI (fNm 0) (fNm 1))) (sSeq (sSet 0 (fNm 1)) (sSet 1 (fNm 2)))) [.fz (.int a),.fz (.int b),s] with | .nx ρ'=>_ | .ct ρ'=>_ | .bk ρ'=>_|o=>o)=_
   rw[es]
   have eg:Int.gcd b (a % b)=Int.gcd a b:=by
    obtain⟨x,rfl⟩:=Int.eq_ofNat_of_zero_le (show 0≤a by omega)
    obtain⟨y,rfl⟩:=Int.eq_ofNat_of_zero_le h0
    show Nat.gcd y (x % y)=Nat.gcd x y
    rw[Nat.gcd_comm y,Nat.gcd_comm x,← Nat.gcd_rec]
   rw[← eg]
   exact k
theorem divisor_eq {u d:Int}(hu:0≤u)(hd:0<d)(h1:u<2 ^ 1000)(h2:d<2 ^ 1000):fn_greatest_divisor [.int u,.int d]=.ok (.int (Int.gcd u d:Int)):=by
 have hp:u*d<2 ^ 2000:=mul_lt hu (by omega) h1 h2
 have key:∃s',whD (bT (f2 (eqD true) (fNm 1) (fC (.int 0)))) (sSeq (sSet 2 (f2 modI (fNm 0) (fNm 1))) (sSeq (sSet 0 (fNm 1)) (sSet 1 (fNm 2)))) 4000 [.fz (.int u),.fz (.int d),.no]=.nx [.fz (.int (Int.gcd u d:Int)),.fz (.int 0),s']:=by
  by_cases h:d≤u
  ·exact gd_loop 2000 u d 4000 .no (by omega) h hp (by decide)
  ·obtain ⟨s',k⟩:=gd_loop 2000 d u 3999 (.fz (.int u)) hu (by omega) (by rw[Int.mul_comm];exact hp) (by decide)
   refine⟨s',?_⟩
   have e:bT (f2 (eqD true) (fNm 1) (fC (.int 0))) [.fz (.int u),.fz (.int d),.no]=.ok true:=bT_ok (f2_ok (a:=.int d) (b:=.int 0) rfl rfl (by rw[eqD_int,decide_eq_false (by omega)];rfl))
   have em:u % d=u:=Int.emod_eq_of_lt hu (by omega)
   have es:(sSeq (sSet 2 (f2 modI (fNm 0) (fNm 1))) (sSeq (sSet 0 (fNm 1)) (sSet 1 (fNm 2)))) [.fz (.int u),.fz (.int d),.no]=.nx [.fz (.int d),.fz (.int u),.fz (.int u)]:=by
    have:=(sSeq_nx (h:=sSeq (sSet 0 (fNm 1)) (sSet 1 (fNm 2))) (sSet_ok (i:=2) (modI_ok (f:=fNm 0) (g:=fNm 1) (ρ:=[.fz (.int u),.fz (.int d),.no]) (i:=u) (j:=d) rfl rfl hd)))
    rw[em] at this
    exact this.trans ((sSeq_nx (sSet_ok (d:=.int d) rfl)).trans (sSet_ok (d:=.int u) rfl))
   show whD _ _ (3999+1) _=_
   unfold whD
   rw[e]
   show(match (sSeq (sSet 2 (f2 modI (fNm 0) (fNm 1))) (sSeq (sSet 0 (fNm 1)) (sSet 1 (fNm 2)))) [.fz (.int u),.fz (.int d),.no] with | .nx ρ'=>_ | .ct ρ'=>_ | .bk ρ'=>_|o=>o)=_
   rw[es]
   rw[Int.gcd_comm]
   exact k
 obtain⟨s',k⟩:=key
 exact runD_rt ((sSeq_nx (cutX_nx k)).trans rfl)
theorem gcd_sm {u d:Int}(hd:0<d)(h2:d<2 ^ 1000):0<(Int.gcd u d:Int)∧Sm (Int.gcd u d:Int):=by
 have h:=gcd_pos (u:=u) hd
 have h3:(Int.gcd u d:Int)≤d:=Int.le_of_dvd hd (Int.gcd_dvd_right ..)
 exact⟨h,sm_big (by omega) (Int.lt_of_le_of_lt h3 h2) (by decide)⟩
theorem lowest_eq {u d:Int}(hu:0≤u)(hd:0<d)(h1:u<2 ^ 1000)(h2:d<2 ^ 1000):fn_lowest [.int u,.int d]=.ok (frD (low u d)):=by
 obtain⟨g1,g2⟩:=gcd_sm (u:=u) hd h2
 refine runD_rt ((sSeq_nx (sSet_ok ((fA2 (a:=.int u) (b:=.int d) rfl rfl).trans (divisor_eq hu hd h1 h2)))).trans (sRet_ok (fO_ok (aCons_ok (fdivI_ok rfl rfl g1 g2) (aCons_ok (fdivI_ok rfl rfl g1 g2) rfl)) ?_)))
 rfl
theorem fr0 {f:Rho→Rs D}{ρ:Rho}{x:Int×Int}(e:f ρ=.ok (frD x)):f2 ixD f (fC (.int 0)) ρ=.ok (.int x.1):=f2_ok (a:=frD x) (b:=.int 0) e rfl rfl
theorem fr1 {f:Rho→Rs D}{ρ:Rho}{x:Int×Int}(e:f ρ=.ok (frD x)):f2 ixD f (fC (.int 1)) ρ=.ok (.int x.2):=f2_ok (a:=frD x) (b:=.int 1) e rfl rfl
theorem Fra.sm {B:Nat}{x:Int×Int}(h:Fra B x)(hB:B≤4000):Sm x.1∧Sm x.2:=⟨sm_big h.1 h.2.2.1 hB,sm_big (Int.le_of_lt h.2.1) h.2.2.2 hB⟩
theorem added_eq {x y:Int×Int}(hx:Fra 450 x)(hy:Fra 450 y):fn_added [frD x,frD y]=.ok (frD (addF x y)):=by
 obtain⟨x1,x2⟩:=Fra.sm hx (by decide)
 obtain⟨y1,y2⟩:=Fra.sm hy (by decide)
 refine runD_rt (sRet_ok ((fA2 (addI_ok (mulI_ok (fr0 (x:=x) rfl) (fr1 (x:=y) rfl) x1 y2) (mulI_ok (fr0 (x:=y) rfl) (fr1 (x:=x) rfl) y1 x2)) (mulI_ok (fr1 (x:=x) rfl) (fr1 (x:=y) rfl) x2 y2)).trans ?_))
 obtain⟨a1,a2,a3,a4⟩:=hx
 obtain⟨b1,b2,b3,b4⟩:=hy
 have p1:=mul_lt a1 (Int.le_of_lt b2) a3 b4
 have p2:=mul_lt b1 (Int.le_of_lt a2) b3 a4
 have p3:=mul_lt (Int.le_of_lt a2) (Int.le_of_lt b2) a4 b4
 have q1:0≤x.1*y.2:=Int.mul_nonneg a1 (Int.le_of_lt b2)
 have q2:0≤y.1*x.2:=Int.mul_nonneg b1 (Int.le_of_lt a2)
 have q3:0<x.2*y.2:=Int.mul_pos a2 b2
 have w:(2:Int) ^ (450+450)+2 ^ (450+450)≤2 ^ 1000:=by decide +kernel
 have w2:(2:Int) ^ (450+450)≤2 ^ 1000:=by decide +kernel
 exact lowest_eq (by omega) q3 (by omega) (by omega)
theorem is_less_eq {x y:Int×Int}(hx:Fra 450 x)(hy:Fra 450 y):fn_is_less [frD x,frD y]=.ok (.bl (lessF x y)):=by
 obtain⟨x1,x2⟩:=Fra.sm hx (by decide)
 obtain⟨y1,y2⟩:=Fra.sm hy (by decide)
 exact runD_rt (sRet_ok (f2_ok (mulI_ok (fr0 (x:=x) rfl) (fr1 (x:=y) rfl) x1 y2) (mulI_ok (fr0 (x:=y) rfl) (fr1 (x:=x) rfl) y1 x2) rfl))
theorem eqD_fr (neg:Bool)(x y:Int×Int):eqD neg (frD x) (frD y)=some (.bl (if neg then !decide (x=y) else decide (x=y))):=by
 unfold eqD frD
 rw[if_pos ⟨rfl,rfl,by simp[D.py,D.pys,PyData.depth,PyData.depthAll]⟩]
 have:PyData.eqv (D.tup [.int x.1,.int x.2]).py (D.tup [.int y.1,.int y.2]).py=decide (x=y):=by
  show(((x.1 == y.1))&&((x.2 == y.2)&&true))=_
  rw[Bool.eq_iff_iff,decide_eq_true_eq,Bool.and_true,Bool.and_eq_true,beq_iff_eq,beq_iff_eq]
  exact⟨fun h=>Prod.ext h.1 h.2,fun h=>by rw[h];exact⟨rfl,rfl⟩⟩
 rw[this]
def sI (ws:List Int):List D:=ws.map .int
theorem sI_len (ws:List Int):(sI ws).length=ws.length:=by simp[sI]
theorem is_weight_int (i:Int):fn_is_weight [.int i]=.ok (.bl (decide (1≤i)&&decide (i≤99))):=by
 refine runD_rt (sRet_ok ((fA3 (a:=.int i) (b:=.int 1) (c:=.int 99) rfl rfl rfl).trans (is_between_int i 1 99)))
theorem is_source_eq {ws:List Int}(h:SrcOk ws):fn_is_source [.tup (sI ws)]=.ok (.bl true):=by
 have e:compD bTrue (fA (ari 1 fn_is_weight) (aCons (fNm 0) aNil)) [.no] (sI ws)=.ok (ws.map fun w=>.bl (decide (1≤w)&&decide (w≤99))):=compD_map _ fun w hw=>(fA1 (a:=.int w) rfl).trans (is_weight_int w)
 refine runD_rt ((sSeq_nx (ifF (bNot_ok (b:=true) (bT_ok ?_)))).trans ((sSeq_nx (ifF (bNot_ok (b:=true) (bT_ok ?_)))).trans (sRet_ok (fO_ok (aCons_ok (fComp_ok (ds:=sI ws) rfl (by rw[sI_len];have:=h.2.1;omega) e) rfl) ?_))))
 ·show(lf (if (D.tup (sI ws)).pl=true then some (D.bl (isTup (D.tup (sI ws)).py)) else none))=_
  rw[if_pos (show(D.tup (sI ws)).pl=true from pls_ints ws)];rfl
 ·have e1:(2:Int)≤((sI ws).length:Int):=by rw[sI_len];have:=h.1;omega
  have e2:((sI ws).length:Int)≤4:=by rw[sI_len];have:=h.2.1;omega
  show(if decide ((2:Int)≤((sI ws).length:Int))=true then(Rs.ok (D.bl (decide (((sI ws).length:Int)≤4)))) else Rs.ok (D.bl false))=_
  rw[decide_eq_true e1,decide_eq_true e2];rfl
 ·rw [all_of]
  have:(ws.all fun w=>(decide (1≤w)&&decide (w≤99)))=true:=by
   rw[List.all_eq_true]
   intro w hw
   have:=h.2.2 w hw
   rw[decide_eq_true this.1,decide_eq_true this.2];rfl
  rw[this]
theorem require_source_eq {ws:List Int}(h:SrcOk ws):fn_require_source [.tup (sI ws)]=.ok .non :=
 runD_nx (ifF (bNot_ok (b:=true) (bT_ok ((fA1 (a:=.tup (sI ws)) rfl).trans (is_source_eq h)))))
theorem require_book_of_eq {ws:List Int}(h:SrcOk ws){B:List (List Nat)}(hp:Pcs ws.length B)(hb:isBook ws.length B=true):fn_require_book_of [.tup (sI ws),.tup (sT B)]=.ok .non:=by
 refine runD_nx ((sSeq_nx (sDrop_ok ((fA1 (a:=.tup (sI ws)) rfl).trans (require_source_eq h)))).trans (sDrop_ok ((fA2 (a:=.int (ws.length:Int)) (b:=.tup (sT B)) ?_ rfl).trans (require_book_eq hp hb))))
 show Rs.ok (D.int ((sI ws).length:Int))=_
 rw[sI_len]
theorem src_len {ws:List Int}(h1:2≤ws.length)(h2:ws.length≤4):(∃a b,ws=[a,b])∨(∃a b c,ws=[a,b,c])∨∃a b c d,ws=[a,b,c,d]:=by
 rcases ws with _|⟨a,_|⟨b,_|⟨c,_|⟨d,_|⟨e,r⟩⟩⟩⟩⟩
 ·cases h1
 ·cases Nat.le_of_succ_le_succ h1
 ·exact .inl ⟨a,b,rfl⟩
 ·exact .inr (.inl ⟨a,b,c,rfl⟩)
 ·exact .inr (.inr ⟨a,b,c,d,rfl⟩)
 ·exact absurd h2 (Nat.not_le_of_lt (Nat.le_add_left 5 r.length))
theorem get_weight {ws:List Int}(h:SrcOk ws){c:Nat}(hc:97≤c∧c<97+ws.length):∃ds,zipCD (.str [97,98,99,100]) (.tup (sI ws))=some (.dct ds)∧ds=zipCL [97,98,99,100] (sI ws)∧getD (.dct ds) (.str [c])=some (.int (wt ws c)):=by
 refine⟨_,rfl,rfl,?_⟩
 obtain⟨h1,h2,h3⟩:=h
 have e:c=97∨c=98∨c=99∧2<ws.length∨c=100∧3<ws.length:=by omega
 rcases src_len h1 h2 with⟨a,b,rfl⟩|⟨a,b,d,rfl⟩|⟨a,b,d,f,rfl⟩
 ·rcases e with rfl|rfl|⟨_,z⟩|⟨_,z⟩
  ·rfl
  ·rfl
  ·simp at z
  ·simp at z
 ·rcases e with rfl|rfl|⟨rfl,_⟩|⟨_,z⟩
  ·rfl
  ·rfl
  ·rfl
  ·simp at z
 ·rcases e with rfl|rfl|⟨rfl,_⟩|⟨rfl,_⟩ <;>rfl
theorem sum_sI {ws:List Int}:sumD [.tup (sI ws)]=some (.int ws.sum):=by
 have e1:(sI ws).all isI=true:=by simp[sI,isI]
 have e2:(sI ws).map unN=ws:=by
  unfold sI;rw[List.map_map]
  exact(List.map_congr_left fun x _=>rfl).trans (List.map_id ws)
 show(if (sI ws).all isI=true then some (D.int ((sI ws).map unN).sum) else none)=_
 rw[if_pos e1,e2]
theorem up_snoc (ws:List Int)(l:List Nat)(c:Nat):up ws (l++[c])=up ws l*wt ws c:=by
 rw[up_app]
 show up ws l*(wt ws c*1)=_
 rw[Int.mul_one]
theorem share_eq {ws:List Int}(h:SrcOk ws){l:List Nat}(hl:LetOk ws.length l)(h20:l.length≤40):fn_share [.tup (sI ws),.str l]=.ok (frD (shr ws l)):=by
 have m4:=h.2.1
 have W:=W_range h
 have step:=forD_inv (i:=6) (g:=sSeq (sSet 4 (f2 mulI (fNm 4) (f2 getD (fNm 2) (fNm 6)))) (sSet 5 (f2 mulI (fNm 5) (fNm 3)))) (l:=l) (enc:=fun c=>D.str [c]) (ρ:=[.fz (.tup (sI ws)),.fz (.str l),.fz (.dct (zipCL [97,98,99,100] (sI ws))),.fz (.int ws.sum),.fz (.int 1),.fz (.int 1),.no])
  (fun k ρ=>∃s,ρ=[.fz (.tup (sI ws)),.fz (.str l),.fz (.dct (zipCL [97,98,99,100] (sI ws))),.fz (.int ws.sum),.fz (.int (up ws (l.take k))),.fz (.int (dn ws (l.take k))),s]) ⟨.no,by rw[List.take_zero];simp[up,dn]⟩ (fun k c ρ hc ⟨s,e⟩=>by
   subst e
   have hk:k<l.length:=(List.getElem?_eq_some_iff.mp hc).1
   have hcl:c∈l:=List.mem_of_getElem? hc
   have e3:l.take (k+1)=l.take k++[c]:=by rw[List.take_add_one,hc];rfl
   have ht:LetOk ws.length (l.take k):=fun d hd=>hl d (List.mem_of_mem_take hd)
   have tl:(l.take k).length≤40:=by rw[List.length_take];omega
   have u1:=up_pos h ht
   have u2:up ws (l.take k)<2 ^ 400:=by
    have a1:=up_le h ht
    have a2:(99:Int) ^ (l.take k).length≤99 ^ 40:=pow_mono (by decide) tl
    have a3:(99:Int) ^ 40<2 ^ 400:=by decide +kernel
    omega
   have d1:=dn_pos h (l.take k)
   have d2:dn ws (l.take k)<2 ^ 400:=by
    have a1:=dn_le h (l.take k)
    have a2:(396:Int) ^ (l.take k).length≤396 ^ 40:=pow_mono (by decide) tl
    have a3:(396:Int) ^ 40<2 ^ 400:=by decide +kernel
    omega
   have wr:=wt_range h (hl c hcl)
   obtain⟨ds,_,rfl,eg⟩:=get_weight h (hl c hcl)
   rw[e3,up_snoc]
   have ed:dn ws (l.take k++[c])=dn ws (l.take k)*ws.sum:=by unfold dn;rw[List.length_append,Int.pow_add];show _*ws.sum ^ 1=_;rw[Int.pow_succ,Int.pow_zero,Int.one_mul]
   rw[ed]
   refine⟨_,(sSeq_nx (sSet_ok (mulI_ok (i:=up ws (l.take k)) (j:=wt ws c) rfl (f2_ok (a:=.dct _) (b:=.str [c]) rfl rfl eg) (sm_big (by omega) u2 (by decide)) (sm_of (by omega))))).trans (sSet_ok (mulI_ok (i:=dn ws (l.take k)) (j:=ws.sum) rfl rfl (sm_big (by omega) d2 (by decide)) (sm_of (by omega)))),.fz (.str [c]),rfl⟩)
 obtain⟨ρ',e,s,rfl⟩:=step
 rw[List.take_of_length_le (Nat.le_refl _)] at e
 have u1:=up_pos h hl
 have d1:=dn_pos h l
 have u2:up ws l<2 ^ 1000:=by
  have a1:=up_le h hl
  have a2:(99:Int) ^ l.length≤99 ^ 40:=pow_mono (by decide) h20
  have a3:(99:Int) ^ 40<2 ^ 1000:=by decide +kernel
  omega
 have d2:dn ws l<2 ^ 1000:=by
  have a1:=dn_le h l
  have a2:(396:Int) ^ l.length≤396 ^ 40:=pow_mono (by decide) h20
  have a3:(396:Int) ^ 40<2 ^ 1000:=by decide +kernel
  omega
 refine runD_rt ?_
 show g_share [.fz (.tup (sI ws)),.fz (.str l),.no,.no,.no,.no,.no]=_
 unfold g_share
 refine(sSeq_nx (sDrop_ok ((fA1 (a:=.tup (sI ws)) rfl).trans (require_source_eq h)))).trans ?_
 refine(sSeq_nx (sDrop_ok ((fA2 (a:=.int (ws.length:Int)) (b:=.str l) ?_ rfl).trans (require_text_eq m4 hl (by omega))))).trans ?_
 ·show Rs.ok (D.int ((sI ws).length:Int))=_
  rw[sI_len]
 refine(sSeq_nx (sSet_ok (d:=.dct (zipCL [97,98,99,100] (sI ws))) rfl)).trans ?_
 refine(sSeq_nx (sSet_ok (d:=.int ws.sum) (fO_ok (ds:=[.tup (sI ws)]) rfl sum_sI))).trans ?_
 refine(sSeq_nx (sSet_ok (d:=.int 1) rfl)).trans ((sSeq_nx (sSet_ok (d:=.int 1) rfl)).trans ?_)
 refine(sSeq_nx (cutX_nx ((sFor_ok (ds:=l.map fun c=>.str [c]) rfl).trans e))).trans ?_
 exact sRet_ok ((fA2 (a:=.int (up ws l)) (b:=.int (dn ws l)) rfl rfl).trans (lowest_eq (by omega) d1 u2 d2))
end Pg
namespace Pg
open PySem L2 My
def wU (ws:List Int)(l:List Nat):Int:=up ws l*ws.sum ^ (31 - l.length)
def qF (ws:List Int)(a:Int):Int×Int:=low a (ws.sum ^ 31)
theorem perm_sum {l k:List Int}(p:l.Perm k):l.sum=k.sum:=by
 induction p with
 | nil=>rfl
 | cons x _ ih=>rw[List.sum_cons,List.sum_cons,ih]
 | swap x y l=>rw[List.sum_cons,List.sum_cons,List.sum_cons,List.sum_cons];omega
 | trans _ _ a b=>exact a.trans b
theorem sum_app (l k:List Int):(l++k).sum=l.sum+k.sum:=by
 induction l with
 | nil=>rw[List.nil_append,List.sum_nil,Int.zero_add]
 | cons x l ih=>rw[List.cons_append,List.sum_cons,List.sum_cons,ih,Int.add_assoc]
theorem erase_sum {α:Type}(f:α→Int):∀(B:List α) (j:Nat) (p:α),B[j]? = some p→((B.eraseIdx j).map f).sum+f p=(B.map f).sum
 | [],j,p,h=>by simp at h
 | x::B,0,p,h=>by
  obtain rfl:=Option.some.inj h
  rw[List.eraseIdx_cons_zero,List.map_cons,List.sum_cons];omega
 | x::B,j+1,p,h=>by
  have:=erase_sum f B j p h
  rw[List.eraseIdx_cons_succ,List.map_cons,List.sum_cons,List.map_cons,List.sum_cons];omega
theorem getD_some {B:List (List Nat)}{j:Nat}(hj:j<B.length):B[j]? = some (B.getD j []):=by
 rw[List.getD_eq_getElem?_getD,List.getElem?_eq_getElem hj];rfl
theorem part_sum {m:Nat}(f:List Nat→Int){B:List (List Nat)}{j:Nat}(hj:j<B.length):((part m B j).map f).sum=(B.map f).sum - f (B.getD j [])+((kids m (B.getD j [])).map f).sum:=by
 unfold part
 rw[perm_sum ((sortF_perm _).map f),List.map_append,sum_app]
 have:=erase_sum f B j _ (getD_some hj)
 omega
theorem sum_mul {α:Type}(l:List α)(f:α→Int)(k:Int):(l.map fun x=>k*f x).sum=k*(l.map f).sum:=by
 induction l with
 | nil=>rw[List.map_nil,List.map_nil,List.sum_nil,Int.mul_zero]
 | cons x l ih=>rw[List.map_cons,List.map_cons,List.sum_cons,List.sum_cons,ih,Int.mul_add]
theorem sum_bound {α:Type}{l:List α}{f:α→Int}{k:Int}(h:∀x∈l,0≤f x∧f x≤k):0≤(l.map f).sum∧(l.map f).sum≤l.length*k:=by
 induction l with
 | nil=>rw[List.map_nil,List.sum_nil,List.length_nil];simp
 | cons x l ih =>
  rw[List.map_cons,List.sum_cons,List.length_cons]
  have:=ih fun y hy=>h y (.tail _ hy)
  have h2:=h x (.head _)
  have:((l.length+1:Nat):Int)*k=l.length*k+k:=by rw[Int.natCast_add,Int.add_mul];simp
  omega
theorem wt_sum {ws:List Int}(h:SrcOk ws):((abcd.take ws.length).map (wt ws)).sum=ws.sum:=by
 obtain⟨h1,h2,h3⟩:=h
 rcases src_len h1 h2 with⟨a,b,rfl⟩|⟨a,b,d,rfl⟩|⟨a,b,d,f,rfl⟩ <;>rfl
section
variable {ws:List Int}(h:SrcOk ws)
include h
theorem W8_pos:0<ws.sum ^ 31:=Int.pow_pos (by have:=W_range h;omega)
theorem W8_le:ws.sum ^ 31<2 ^ 280:=by
 have W:=W_range h
 have a:=pow_le (a:=ws.sum) (b:=396) (by omega) W.2 31
 have b:(396:Int) ^ 31<2 ^ 280:=by decide +kernel
 omega
theorem shr_q {l:List Nat}(hl:l.length≤31):shr ws l=qF ws (wU ws l):=by
 unfold shr qF wU
 refine low_eq (dn_pos h l) (W8_pos h) ?_
 unfold dn
 rw[Int.mul_assoc,← Int.pow_add]
 have:31 - l.length+l.length=31:=by omega
 rw[this]
theorem less_q (a b:Int):lessF (qF ws a) (qF ws b)=decide (a<b):=by
 have D:=W8_pos h
 refine(lessF_low D D).trans ?_
 rw[Bool.eq_iff_iff,decide_eq_true_eq,decide_eq_true_eq]
 exact Int.mul_lt_mul_right D
theorem q_inj {a b:Int}(e:qF ws a=qF ws b):a=b:=by
 have D:=W8_pos h
 exact Int.eq_of_mul_eq_mul_right (by omega) (eq_low D D e)
theorem q_fra {a:Int}(h0:0≤a)(h1:a<2 ^ 400):Fra 450 (qF ws a):=by
 have D:=W8_pos h
 have E:=W8_le h
 have b:(2:Int) ^ 280<2 ^ 450:=by decide +kernel
 have c:(2:Int) ^ 400<2 ^ 450:=by decide +kernel
 exact low_fra h0 D (by omega) (by omega)
theorem wU_pos {l:List Nat}(hl:LetOk ws.length l):0<wU ws l:=Int.mul_pos (up_pos h hl) (Int.pow_pos (by have:=W_range h;omega))
theorem up_W {l:List Nat}(hl:LetOk ws.length l):up ws l≤ws.sum ^ l.length:=by
 have W:=W_range h
 induction l with
 | nil=>rw[List.length_nil,Int.pow_zero];exact Int.le_refl _
 | cons c l ih =>
  have h1:=ih fun d hd=>hl d (.tail _ hd)
  have h2:=wt_lt h (hl c (.head _))
  have h3:=wt_range h (hl c (.head _))
  have h4:=up_pos h (l:=l) fun d hd=>hl d (.tail _ hd)
  show wt ws c*up ws l≤_
  rw[List.length_cons,Int.pow_succ,Int.mul_comm (ws.sum ^ l.length)]
  exact Int.mul_le_mul (by omega) h1 (by omega) (by omega)
theorem wU_le {l:List Nat}(hl:LetOk ws.length l)(h8:l.length≤31):wU ws l≤ws.sum ^ 31:=by
 have W:=W_range h
 have h1:=up_W h hl
 have h2:0<ws.sum ^ (31 - l.length):=Int.pow_pos (by omega)
 have h3:=Int.mul_le_mul_of_nonneg_right h1 (Int.le_of_lt h2)
 rw[← Int.pow_add] at h3
 have:l.length+(31 - l.length)=31:=by omega
 rw[this] at h3
 exact h3
theorem wU_nil:wU ws []=ws.sum ^ 31:=by
 show 1*ws.sum ^ (31 - 0)=_
 rw[Int.one_mul]
theorem kraft {p:List Nat}(hp:p.length<31)(g:Nat→Int):((kids ws.length p).map fun x=>g x.length*wU ws x).sum=g (p.length+1)*wU ws p:=by
 have e:((kids ws.length p).map fun x=>g x.length*wU ws x)=(abcd.take ws.length).map fun c=>(g (p.length+1)*(up ws p*ws.sum ^ (31 - (p.length+1))))*wt ws c:=by
  unfold kids
  rw[List.map_map]
  refine List.map_congr_left fun c _=>?_
  show g (p++[c]).length*(up ws (p++[c])*ws.sum ^ (31 - (p++[c]).length))=_
  have el:(p++[c]).length=p.length+1:=by simp
  rw[el,up_snoc]
  have:up ws p*wt ws c*ws.sum ^ (31 - (p.length+1))=up ws p*ws.sum ^ (31 - (p.length+1))*wt ws c:=by
   rw[Int.mul_assoc,Int.mul_comm (wt ws c),← Int.mul_assoc]
  rw[this,← Int.mul_assoc]
 rw[e,sum_mul,wt_sum h,Int.mul_assoc]
 congr 1
 unfold wU
 rw[Int.mul_assoc,← Int.pow_succ]
 have:(31 - (p.length+1)).succ=31 - p.length:=by omega
 rw[this]
end
theorem forD_nx {i:Nat}{g:Rho→Out}{d:D}{ds:List D}{ρ ρ':Rho}(e:g (ρ.set i (.fz d))=.nx ρ'):forD i g (d::ds) ρ=forD i g ds ρ':=by
 show(match g (ρ.set i (.fz d)) with | .nx ρ'=>forD i g ds ρ' | .ct ρ'=>forD i g ds ρ' | .bk ρ'=>.nx ρ'|o=>o)=_
 rw[e]
def SG (ws:List Int)(g:Nat→Int)(B:List (List Nat)):Int:=(B.map fun p=>g p.length*wU ws p).sum
theorem SG_part {ws:List Int}(h:SrcOk ws)(g:Nat→Int){B:List (List Nat)}{j:Nat}(hj:j<B.length)(h7:(B.getD j []).length<31):SG ws g (part ws.length B j)=SG ws g B+(g ((B.getD j []).length+1) - g (B.getD j []).length)*wU ws (B.getD j []):=by
 unfold SG
 rw[part_sum _ hj,kraft h h7,Int.sub_mul]
 omega
theorem getD_mem {B:List (List Nat)}{j:Nat}(hj:j<B.length):B.getD j []∈B:=by
 rw[List.getD_eq_getElem?_getD,List.getElem?_eq_getElem hj];exact List.getElem_mem hj
theorem addF_piece {ws:List Int}(h:SrcOk ws)(a k:Int){l:List Nat}(hl:l.length≤31):addF (qF ws a) (k*(shr ws l).1,(shr ws l).2)=qF ws (a+k*wU ws l):=by
 have D:=W8_pos h
 rw[shr_q h hl]
 unfold qF
 obtain⟨g,g0,g1,g2,g3,_⟩:=low_spec (u:=a) D
 obtain⟨f,f0,f1,f2,f3,_⟩:=low_spec (u:=wU ws l) D
 generalize low a (ws.sum ^ 31)=x at *
 generalize low (wU ws l) (ws.sum ^ 31)=y at *
 unfold addF
 show low (x.1*y.2+k*y.1*x.2) (x.2*y.2)=_
 refine low_eq (Int.mul_pos g3 f3) D ?_
 rw[g1,f1]
 have e1:(x.1*y.2+k*y.1*x.2)*ws.sum ^ 31=x.1*y.2*ws.sum ^ 31+k*y.1*x.2*ws.sum ^ 31:=Int.add_mul ..
 have e2:(g*x.1+k*(f*y.1))*(x.2*y.2)=g*x.1*(x.2*y.2)+k*(f*y.1)*(x.2*y.2):=Int.add_mul ..
 rw[e1,e2]
 have e3:x.1*y.2*ws.sum ^ 31=g*x.1*(x.2*y.2):=by rw[g2];simp only[Int.mul_assoc,Int.mul_left_comm,Int.mul_comm]
 have e4:k*y.1*x.2*ws.sum ^ 31=k*(f*y.1)*(x.2*y.2):=by rw[f2];simp only[Int.mul_assoc,Int.mul_left_comm,Int.mul_comm]
 rw[e3,e4]
def lenI (n:Nat):Int:=n
theorem SG_snoc (ws:List Int)(g:Nat→Int)(B:List (List Nat))(p:List Nat):SG ws g (B++[p])=SG ws g B+g p.length*wU ws p:=by
 unfold SG
 rw[List.map_append,sum_app,List.map_cons,List.map_nil,List.sum_cons,List.sum_nil,Int.add_zero]
theorem SG_bound {ws:List Int}(h:SrcOk ws){g:Nat→Int}{B:List (List Nat)}(hl:∀p∈B,LetOk ws.length p∧p.length≤31)(hg:∀n≤31,0≤g n∧g n≤100)(hB:B.length≤100):0≤SG ws g B∧SG ws g B<2 ^ 400:=by
 have D:=W8_pos h
 have E:=W8_le h
 have:=sum_bound (l:=B) (f:=fun p=>g p.length*wU ws p) (k:=100*2 ^ 280) fun p hp=>by
  have a:=hg p.length (hl p hp).2
  have b:=wU_pos h (hl p hp).1
  have c:=wU_le h (hl p hp).1 (hl p hp).2
  refine⟨Int.mul_nonneg a.1 (Int.le_of_lt b),Int.mul_le_mul a.2 (by omega) (Int.le_of_lt b) (by decide)⟩
 have b:((B.length:Nat):Int)*(100*2 ^ 280)≤100*(100*2 ^ 280):=Int.mul_le_mul_of_nonneg_right (by omega) (by decide)
 have c:(100:Int)*(100*2 ^ 280)<2 ^ 400:=by decide +kernel
 unfold SG
 omega
theorem mulfra {ws:List Int}(h:SrcOk ws){l:List Nat}(hl:LetOk ws.length l)(h8:l.length≤31):Fra 450 (((shr ws l).1*(l.length:Int),(shr ws l).2)):=by
 have f:=shr_fra h hl h8
 obtain⟨f1,f2,f3,f4⟩:=f
 have w1:(2:Int) ^ (9*31+1)*31<2 ^ 450:=by decide +kernel
 have w2:(2:Int) ^ (9*31+1)<2 ^ 450:=by decide +kernel
 refine⟨Int.mul_nonneg f1 (by omega),f2,?_,by show(shr ws l).2<_;omega⟩
 show(shr ws l).1*(l.length:Int)<_
 have:(shr ws l).1*(l.length:Int)≤2 ^ (9*31+1)*31:=Int.mul_le_mul (by omega) (by omega) (by omega) (by decide)
 omega
theorem mean_eq {ws:List Int}(h:SrcOk ws){B:List (List Nat)}(hp:Pcs ws.length B)(hb:isBook ws.length B=true):fn_mean [.tup (sI ws),.tup (sT B)]=.ok (frD (qF ws (SG ws lenI B))):=by
 have hl:∀p∈B,LetOk ws.length p∧p.length≤31:=fun p q=>⟨(hp.2.2.2.2 p q).1,(hp.2.2.2.2 p q).2.2⟩
 have q0:qF ws 0=(0,1):=low_zero (W8_pos h)
 have step:=forD_inv (i:=3) (g:=sSeq (sSet 4 (fA (ari 2 fn_share) (aCons (fNm 0) (aCons (fNm 3) aNil)))) (sSet 2 (fA (ari 2 fn_added) (aCons (fNm 2) (aCons (fO mkT (aCons (f2 mulI (f2 ixD (fNm 4) (fC (.int 0))) (fO lenD (aCons (fNm 3) aNil))) (aCons (f2 ixD (fNm 4) (fC (.int 1))) aNil))) aNil))))) (l:=B) (enc:=D.str) (ρ:=[.fz (.tup (sI ws)),.fz (.tup (sT B)),.fz (frD (0,1)),.no,.no])
  (fun k ρ=>∃s s',ρ=[.fz (.tup (sI ws)),.fz (.tup (sT B)),.fz (frD (qF ws (SG ws lenI (B.take k)))),s,s']) ⟨.no,.no,by
   have:SG ws lenI (B.take 0)=0:=by rw[List.take_zero];rfl
   rw[this,q0]⟩ (fun k p ρ hc ⟨s,s',e⟩=>by
   subst e
   have hpB:p∈B:=List.mem_of_getElem? hc
   have e3:B.take (k+1)=B.take k++[p]:=by rw[List.take_add_one,hc];rfl
   obtain⟨p1,p2⟩:=hl p hpB
   have bd:=SG_bound h (g:=lenI) (B:=B.take k) (fun q hq=>hl q (List.mem_of_mem_take hq)) (fun n hn=>by unfold lenI;omega) (by rw[List.length_take];have:=hp.2.2.2.1;omega)
   have sf:=shr_fra h p1 p2
   have sm:=(Fra.sm sf (by decide)).1
   refine⟨_,(sSeq_nx (sSet_ok (d:=frD (shr ws p)) ((fA2 (a:=.tup (sI ws)) (b:=.str p) rfl rfl).trans (share_eq h p1 (by omega))))).trans (sSet_ok (d:=frD (qF ws (SG ws lenI (B.take (k+1))))) ((fA2 (a:=frD (qF ws (SG ws lenI (B.take k)))) (b:=frD ((shr ws p).1*(p.length:Int),(shr ws p).2)) rfl (fO_ok (aCons_ok (mulI_ok (i:=(shr ws p).1) (j:=(p.length:Int)) (fr0 (x:=shr ws p) rfl) rfl sm (sm_of (by omega))) (aCons_ok (fr1 (x:=shr ws p) rfl) rfl)) rfl)).trans ?_)),_,_,rfl⟩
   rw[added_eq (q_fra h bd.1 bd.2) (mulfra h p1 p2),e3,SG_snoc]
   have:=addF_piece h (SG ws lenI (B.take k)) (p.length:Int) p2
   rw[Int.mul_comm (shr ws p).1,this];rfl)
 obtain⟨ρ',e,s,s',rfl⟩:=step
 rw[List.take_of_length_le (Nat.le_refl _)] at e
 refine runD_rt ((sSeq_nx (sDrop_ok ((fA2 (a:=.tup (sI ws)) (b:=.tup (sT B)) rfl rfl).trans (require_book_of_eq h hp hb)))).trans ((sSeq_nx (sSet_ok (d:=frD (0,1)) rfl)).trans ((sSeq_nx (cutX_nx ((sFor_ok (ds:=sT B) rfl).trans e))).trans rfl)))
theorem lt_cons {x y:List Nat}(h:x<y)(hn:¬x <+: y)(a:List Nat):x++a<y:=by
 induction x generalizing y with
 | nil=>exact absurd (List.nil_prefix) hn
 | cons c x ih =>
  cases y with
  | nil=>exact absurd h (List.not_lt_nil _)
  | cons d y =>
   rcases List.cons_lt_cons_iff.mp h with h1|⟨rfl,h2⟩
   ·exact List.cons_lt_cons_iff.mpr (.inl h1)
   ·exact List.cons_lt_cons_iff.mpr (.inr ⟨rfl,ih h2 fun q=>hn (List.cons_prefix_cons.mpr ⟨rfl,q⟩)⟩)
theorem kids_lt (m:Nat)(p:List Nat):(kids m p).Pairwise (· < ·):=by
 unfold kids
 rw[List.pairwise_map]
 have:(abcd.take m).Pairwise (· < ·):=List.Pairwise.sublist (List.take_sublist _ _) (by decide)
 exact this.imp fun z=>snoc_lt p z
theorem split_at {B:List (List Nat)}{j:Nat}(hj:j<B.length):B=B.take j++B.getD j []::B.drop (j+1):=by
 have:B.getD j []=B[j]:=by rw[List.getD_eq_getElem?_getD,List.getElem?_eq_getElem hj];rfl
 rw[this]
 exact(List.take_append_drop j B).symm.trans (by rw[List.drop_eq_getElem_cons hj])
theorem part_slices {m:Nat}{B:List (List Nat)}(hb:Book m B){j:Nat}(hj:j<B.length):B.take j++kids m (B.getD j [])++B.drop (j+1)=part m B j:=by
 have hpm:=getD_mem hj
 have sB:=strict hb.srt hb.nd
 have sp:=split_at hj
 generalize hp:B.getD j []=p at *
 rw[sp] at sB
 obtain⟨s1,s2,s3⟩:=List.pairwise_append.mp sB
 obtain⟨s4,s5⟩:=List.pairwise_cons.mp s2
 have er:B.eraseIdx j=B.take j++B.drop (j+1):=List.eraseIdx_eq_take_drop_succ B j
 unfold part
 rw[hp,er]
 refine sortF_eq (List.Pairwise.imp (fun z=>List.le_of_lt z) ?_) ?_
 ·refine List.pairwise_append.mpr ⟨List.pairwise_append.mpr ⟨s1,kids_lt m p,fun x hx y hy=>?_⟩,s5,fun x hx y hy=>?_⟩
  ·obtain⟨c,_,rfl⟩:=kids_mem.mp hy
   exact List.lt_trans (s3 x hx p (.head _)) (app_lt p c)
  ·rcases List.mem_append.mp hx with hx|hx
   ·exact s3 x hx y (.tail _ hy)
   ·obtain⟨c,_,rfl⟩:=kids_mem.mp hx
    have hyB:y∈B:=List.mem_of_mem_drop hy
    refine lt_cons (s4 y hy) (fun q=>?_) [c]
    have:=hb.pf p hpm y hyB q
    subst this
    exact List.lt_irrefl _ (s4 p hy)
 ·rw[List.append_assoc,List.append_assoc]
  exact List.Perm.append_left _ List.perm_append_comm
theorem parted_eq {m:Nat}{B:List (List Nat)}(hp:Pcs m B)(hb:Book m B){p:List Nat}(h:p∈B):fn_parted [.int m,.tup (sT B),.str p]=.ok (.tup (sT (part m B (B.idxOf p)))):=by
 have hj:=List.idxOf_lt_length_of_mem h
 have h32:=hp.2.2.2.1
 have eg:B.getD (B.idxOf p) []=p:=by rw[List.getD_eq_getElem?_getD,List.getElem?_eq_getElem hj];exact List.getElem_idxOf hj
 have h8:=(hp.2.2.2.2 p h).2.2
 have ps:=part_slices hb hj
 rw[eg] at ps
 have ek:goneOn m [p]=kids m p:=by
  unfold goneOn kids
  rw[List.flatMap_cons,List.flatMap_nil,List.append_nil]
 have m4:=hp.2.1
 have kl:=kids_len m m4 p
 have tk:∀(l:List (List Nat)) (n:Nat),(sT l).take n=sT (l.take n):=fun l n=>by unfold sT;rw[List.map_take]
 have td:∀(l:List (List Nat)) (n:Nat),(sT l).drop n=sT (l.drop n):=fun l n=>by unfold sT;rw[List.map_drop]
 have e1:idxD (.tup (sT B)) (.str p)=some (.int ((B.idxOf p:Nat):Int)):=by
  dsimp only [idxD]
  rw[map_unS,if_pos ⟨all_isS B,by rw[sT_len];omega,h⟩]
 refine runD_rt ((sSeq_nx (sSet_ok (d:=.int ((B.idxOf p:Nat):Int)) (fM_ok (a:=.tup (sT B)) (b:=.str p) rfl rfl rfl e1))).trans (sRet_ok ?_))
 refine f2_ok (a:=.tup (sT (B.take (B.idxOf p)++kids m p))) (b:=.tup (sT (B.drop (B.idxOf p+1)))) ?_ ?_ ?_
 ·refine f2_ok (a:=.tup (sT (B.take (B.idxOf p)))) (b:=.tup (sT (kids m p))) ?_ ?_ ?_
  ·refine fSl_ok (a:=.tup (sT B)) (l:=none) (h:=some ((B.idxOf p:Nat):Int)) rfl rfl rfl ?_
   show some (D.tup (cutL (sT B) none (some ((B.idxOf p:Nat):Int))))=_
   rw[cut_none,tk]
  ·refine fO_ok (ds:=[.lst (sT (kids m p))]) (aCons_ok ((fA2 (a:=.int m) (b:=.lst (sT [p])) rfl rfl).trans ?_) rfl) rfl
   rw[gone_on_eq [p] (fun x hx=>by rw[List.mem_singleton.mp hx];omega) (by show 4*1≤_;decide),ek]
  ·show(if (sT (B.take (B.idxOf p))).length+(sT (kids m p)).length≤1000000 then some (D.tup (sT (B.take (B.idxOf p))++sT (kids m p))) else none)=_
   rw[if_pos (by rw[sT_len,sT_len,List.length_take];omega),sT_app]
 ·refine fSl_ok (a:=.tup (sT B)) (l:=some ((B.idxOf p+1:Nat):Int)) (h:=none) rfl ?_ rfl ?_
  ·rfl
  ·show some (D.tup (cutL (sT B) (some ((B.idxOf p+1:Nat):Int)) none))=_
   rw[cut_from,td]
 ·show(if (sT (B.take (B.idxOf p)++kids m p)).length+(sT (B.drop (B.idxOf p+1))).length≤1000000 then some (D.tup (sT (B.take (B.idxOf p)++kids m p)++sT (B.drop (B.idxOf p+1)))) else none)=_
  rw[if_pos (by rw[sT_len,sT_len,List.length_append,List.length_take,List.length_drop];omega),sT_app,ps]
def leastF (ws:List Int):List (List Nat)→Int→Int
 | [],a=>a
 | x::L,a=>leastF ws L (if wU ws x<a then wU ws x else a)
theorem leastF_spec (ws:List Int):∀(L:List (List Nat)) (a:Int),leastF ws L a≤a∧(∀x∈L,leastF ws L a≤wU ws x)∧(leastF ws L a=a∨∃x∈L,leastF ws L a=wU ws x)
 | [],a=>⟨Int.le_refl _,(fun x hx=>by cases hx),.inl rfl⟩
 | y :: L,a=>by
  obtain⟨h1,h2,h3⟩:=leastF_spec ws L (if wU ws y<a then wU ws y else a)
  show leastF ws L (if wU ws y<a then wU ws y else a)≤a∧_
  have e:leastF ws (y::L) a=leastF ws L (if wU ws y<a then wU ws y else a):=rfl
  rw[e]
  by_cases c:wU ws y<a
  ·rw [if_pos c] at h1 h2 h3 ⊢
   refine⟨by omega,fun x hx=>?_,?_⟩
   ·rcases List.mem_cons.mp hx with rfl|hx
    ·exact h1
    ·exact h2 x hx
   ·rcases h3 with h3|⟨x,hx,h3⟩
    ·exact .inr ⟨y,.head _,h3⟩
    ·exact .inr ⟨x,.tail _ hx,h3⟩
  ·rw [if_neg c] at h1 h2 h3 ⊢
   refine⟨h1,fun x hx=>?_,?_⟩
   ·rcases List.mem_cons.mp hx with rfl|hx
    ·omega
    ·exact h2 x hx
   ·rcases h3 with h3|⟨x,hx,h3⟩
    ·exact .inl h3
    ·exact .inr ⟨x,.tail _ hx,h3⟩
theorem one_q {ws:List Int}(h:SrcOk ws):qF ws (ws.sum ^ 31)=(1,1):=by
 rw[← wU_nil h,← shr_q h (l:=[]) (by decide),shr_nil h]
theorem least_inner_eq {ws:List Int}(h:SrcOk ws){B:List (List Nat)}(hp:Pcs ws.length B)(hb:Book ws.length B)(hk:(innerKeys B).length<64):fn_least_inner [.tup (sI ws),.tup (sT B)]=.ok (frD (qF ws (leastF ws (sortF (innerKeys B)) (ws.sum ^ 31)))):=by
 have hin:=inner_of_eq (ps:=B) (fun p q=>(hp.2.2.2.2 p q).2.2) (by have:=hp.2.2.2.1;omega) hk
 have hL:∀x∈sortF (innerKeys B),LetOk ws.length x∧x.length≤31:=fun x hx=>by
  have hi:=innerKeys_mem.mp (sortF_mem.mp hx)
  refine⟨hb.innerLet hi,?_⟩
  obtain⟨p,hpB,hpre,_⟩:=hi
  exact Nat.le_trans hpre.length_le (hp.2.2.2.2 p hpB).2.2
 generalize sortF (innerKeys B)=L at *
 have D:=W8_pos h
 have E:=W8_le h
 have w:(2:Int) ^ 280<2 ^ 400:=by decide +kernel
 have key:∀(K:List (List Nat)) (a:Int) (s s':Sl),(∀x∈K,LetOk ws.length x∧x.length≤31)→0≤a→a<2 ^ 400→∃s1 s2,forD 3 (sSeq (sSet 4 (fA (ari 2 fn_share) (aCons (fNm 0) (aCons (fNm 3) aNil)))) (sIf (bT (fA (ari 2 fn_is_less) (aCons (fNm 4) (aCons (fNm 2) aNil)))) (sSet 2 (fNm 4)) sNx)) (sT K) [.fz (.tup (sI ws)),.fz (.tup (sT B)),.fz (frD (qF ws a)),s,s']=.nx [.fz (.tup (sI ws)),.fz (.tup (sT B)),.fz (frD (qF ws (leastF ws K a))),s1,s2]:=by
  intro K
  induction K with
  | nil=>intro a s s' _ _ _;exact⟨s,s',rfl⟩
  | cons x K ih =>
   intro a s s' hK a0 a1
   obtain⟨x1,x2⟩:=hK x (.head _)
   have u0:=wU_pos h x1
   have u1:=wU_le h x1 x2
   have e1:(sSet 4 (fA (ari 2 fn_share) (aCons (fNm 0) (aCons (fNm 3) aNil)))) [.fz (.tup (sI ws)),.fz (.tup (sT B)),.fz (frD (qF ws a)),.fz (.str x),s']=.nx [.fz (.tup (sI ws)),.fz (.tup (sT B)),.fz (frD (qF ws a)),.fz (.str x),.fz (frD (qF ws (wU ws x)))]:=by
    have:=sSet_ok (i:=4) (d:=frD (shr ws x)) (ρ:=[.fz (.tup (sI ws)),.fz (.tup (sT B)),.fz (frD (qF ws a)),.fz (.str x),s']) ((fA2 (a:=.tup (sI ws)) (b:=.str x) (f:=fNm 0) (g:=fNm 3) rfl rfl).trans (share_eq h x1 (by omega)))
    rw[shr_q h x2] at this
    exact this
   have e2:bT (fA (ari 2 fn_is_less) (aCons (fNm 4) (aCons (fNm 2) aNil))) [.fz (.tup (sI ws)),.fz (.tup (sT B)),.fz (frD (qF ws a)),.fz (.str x),.fz (frD (qF ws (wU ws x)))]=.ok (decide (wU ws x<a)):=bT_ok (((fA2 (a:=frD (qF ws (wU ws x))) (b:=frD (qF ws a)) rfl rfl).trans (is_less_eq (q_fra h (by omega) (by omega)) (q_fra h a0 a1))).trans (by rw[less_q h]))
   by_cases c:wU ws x<a
   ·rw[decide_eq_true c] at e2
    obtain⟨s1,s2,k⟩:=ih (wU ws x) (.fz (.str x)) (.fz (frD (qF ws (wU ws x)))) (fun y hy=>hK y (.tail _ hy)) (by omega) (by omega)
    refine⟨s1,s2,?_⟩
    have:leastF ws (x::K) a=leastF ws K (wU ws x):=by show leastF ws K (if wU ws x<a then wU ws x else a)=_;rw[if_pos c]
    rw[this]
    exact(forD_nx ((sSeq_nx e1).trans ((sIf_t e2).trans (sSet_ok (d:=frD (qF ws (wU ws x))) rfl)))).trans k
   ·rw[decide_eq_false c] at e2
    obtain⟨s1,s2,k⟩:=ih a (.fz (.str x)) (.fz (frD (qF ws (wU ws x)))) (fun y hy=>hK y (.tail _ hy)) a0 a1
    refine⟨s1,s2,?_⟩
    have:leastF ws (x::K) a=leastF ws K a:=by show leastF ws K (if wU ws x<a then wU ws x else a)=_;rw[if_neg c]
    rw[this]
    exact(forD_nx ((sSeq_nx e1).trans ((sIf_f e2).trans rfl))).trans k
 obtain⟨s1,s2,k⟩:=key L (ws.sum ^ 31) .no .no hL (by omega) (by omega)
 rw[one_q h] at k
 refine runD_rt ((sSeq_nx (sDrop_ok ((fA2 (a:=.tup (sI ws)) (b:=.tup (sT B)) rfl rfl).trans (require_book_of_eq h hp hb.isBook)))).trans ((sSeq_nx (sSet_ok (d:=frD (1,1)) rfl)).trans ((sSeq_nx (cutX_nx ((sFor_ok (ds:=sT L) ?_).trans k))).trans rfl)))
 show(fA (ari 1 fn_inner_of) (aCons (fNm 1) aNil) [.fz (.tup (sI ws)),.fz (.tup (sT B)),.fz (frD (1,1)),.no,.no]).bind _=_
 rw[fA1 (a:=.tup (sT B)) rfl,hin];rfl
def gpF (ws:List Int):List (List Nat)→List Nat→List Nat
 | [],f=>f
 | x::L,f=>gpF ws L (if wU ws f<wU ws x then x else f)
theorem gpF_spec (ws:List Int):∀(L:List (List Nat)) (f:List Nat),wU ws f≤wU ws (gpF ws L f)∧(∀x∈L,wU ws x≤wU ws (gpF ws L f))∧(gpF ws L f=f∨gpF ws L f∈L)
 | [],f=>⟨Int.le_refl _,(fun x hx=>by cases hx),.inl rfl⟩
 | y :: L,f=>by
  obtain⟨h1,h2,h3⟩:=gpF_spec ws L (if wU ws f<wU ws y then y else f)
  have e:gpF ws (y::L) f=gpF ws L (if wU ws f<wU ws y then y else f):=rfl
  rw[e]
  by_cases c:wU ws f<wU ws y
  ·rw [if_pos c] at h1 h2 h3 ⊢
   refine⟨by omega,fun x hx=>?_,.inr ?_⟩
   ·rcases List.mem_cons.mp hx with rfl|hx
    ·exact h1
    ·exact h2 x hx
   ·rcases h3 with h3|h3
    ·rw[h3];exact .head _
    ·exact .tail _ h3
  ·rw[if_neg c] at h1 h2 h3 ⊢
   refine⟨h1,fun x hx=>?_,h3.imp_right (.tail _)⟩
   rcases List.mem_cons.mp hx with rfl|hx
   ·omega
   ·exact h2 x hx
def shD (ws:List Int)(L:List (List Nat)):List (List Nat×D):=L.map fun x=>(x,frD (qF ws (wU ws x)))
theorem shares_of_eq {ws:List Int}(h:SrcOk ws){B:List (List Nat)}(hl:∀p∈B,LetOk ws.length p∧p.length≤31)(nd:B.Nodup)(h32:B.length≤32):fn_shares_of [.tup (sI ws),.tup (sT B)]=.ok (.dct (shD ws B)):=by
 have step:=forD_inv (i:=3) (g:=sPut 2 (fNm 3) (fA (ari 2 fn_share) (aCons (fNm 0) (aCons (fNm 3) aNil)))) (l:=B) (enc:=D.str) (ρ:=[.fz (.tup (sI ws)),.fz (.tup (sT B)),.od [],.no])
  (fun k ρ=>∃s,ρ=[.fz (.tup (sI ws)),.fz (.tup (sT B)),.od (shD ws (B.take k)),s]) ⟨.no,rfl⟩ (fun k p ρ hc ⟨s,e⟩=>by
   subst e
   have hk:k<B.length:=(List.getElem?_eq_some_iff.mp hc).1
   have hpB:p∈B:=List.mem_of_getElem? hc
   have e3:B.take (k+1)=B.take k++[p]:=by rw[List.take_add_one,hc];rfl
   obtain⟨p1,p2⟩:=hl p hpB
   have hnin:p∉B.take k:=by
    intro hm
    rw[← List.take_append_drop k B] at nd
    have hd:p∈B.drop k:=by
     rw[List.drop_eq_getElem_cons hk]
     have:B[k]=p:=(List.getElem?_eq_some_iff.mp hc).2
     rw[this];exact .head _
    exact(List.nodup_append.mp nd).2.2 p hm p hd rfl
   have e4:putD (shD ws (B.take k)) p (frD (qF ws (wU ws p)))=shD ws (B.take (k+1)):=by
    unfold putD
    have:((shD ws (B.take k)).any fun kv=>decide (kv.1=p))=false:=by
     rw[List.any_eq_false]
     intro kv hkv
     obtain⟨x,hx,rfl⟩:=List.mem_map.mp hkv
     intro z
     exact hnin (of_decide_eq_true z▸hx)
    rw[this,if_neg (by decide),e3]
    unfold shD
    rw[List.map_append];rfl
   refine⟨[.fz (.tup (sI ws)),.fz (.tup (sT B)),.od (putD (shD ws (B.take k)) p (frD (qF ws (wU ws p)))),.fz (.str p)],sPut_ok (v:=frD (qF ws (wU ws p))) (k:=p) rfl (((fA2 (a:=.tup (sI ws)) (b:=.str p) rfl rfl).trans (share_eq h p1 (by omega))).trans (by rw[shr_q h p2])) rfl (by unfold shD;rw[List.length_map,List.length_take];omega),.fz (.str p),?_⟩
   rw[e4])
 obtain⟨ρ',e,s,rfl⟩:=step
 rw[List.take_of_length_le (Nat.le_refl _)] at e
 exact runD_rt ((sSeq_nx (ρ':=[.fz (.tup (sI ws)),.fz (.tup (sT B)),.od [],.no]) rfl).trans ((sSeq_nx (cutX_nx ((sFor_ok (ds:=sT B) rfl).trans e))).trans rfl))
theorem get_shD {ws:List Int}:∀{B:List (List Nat)}{p:List Nat},p∈B→getD (.dct (shD ws B)) (.str p)=some (frD (qF ws (wU ws p)))
 | x::B,p,h=>by
  show Option.map _ (List.find? _ ((x,_)::shD ws B))=_
  by_cases e:x=p
  ·subst e
   rw[List.find?_cons_of_pos (by simp)];rfl
  ·rw[List.find?_cons_of_neg (by simpa using e)]
   rcases List.mem_cons.mp h with rfl|h
   ·exact absurd rfl e
   ·exact get_shD h
theorem greatest_eq {ws:List Int}(h:SrcOk ws){B:List (List Nat)}(hp:Pcs ws.length B)(hb:Book ws.length B):fn_greatest_piece [.tup (sI ws),.tup (sT B)]=.ok (.str (gpF ws B (B.getD 0 []))):=by
 have hl:∀p∈B,LetOk ws.length p∧p.length≤31:=fun p q=>⟨(hp.2.2.2.2 p q).1,(hp.2.2.2.2 p q).2.2⟩
 have h0:0<B.length:=by
  cases B with
  | nil=>exact absurd rfl hp.2.2.1
  | cons=>exact Nat.succ_pos _
 have E:=W8_le h
 have w:(2:Int) ^ 280<2 ^ 400:=by decide +kernel
 have key:∀(K:List (List Nat)) (f:List Nat) (s:Sl),(∀x∈K,x∈B)→f∈B→∃s1,forD 3 (sIf (bT (fA (ari 2 fn_is_less) (aCons (f2 getD (fNm 1) (fNm 2)) (aCons (f2 getD (fNm 1) (fNm 3)) aNil)))) (sSet 2 (fNm 3)) sNx) (sT K) [.fz (.tup (sT B)),.fz (.dct (shD ws B)),.fz (.str f),s]=.nx [.fz (.tup (sT B)),.fz (.dct (shD ws B)),.fz (.str (gpF ws K f)),s1]:=by
  intro K
  induction K with
  | nil=>intro f s _ _;exact⟨s,rfl⟩
  | cons x K ih =>
   intro f s hK hf
   have hx:=hK x (.head _)
   have x0:=wU_pos h (hl x hx).1
   have x1:=wU_le h (hl x hx).1 (hl x hx).2
   have f0:=wU_pos h (hl f hf).1
   have f1:=wU_le h (hl f hf).1 (hl f hf).2
   have e2:bT (fA (ari 2 fn_is_less) (aCons (f2 getD (fNm 1) (fNm 2)) (aCons (f2 getD (fNm 1) (fNm 3)) aNil))) [.fz (.tup (sT B)),.fz (.dct (shD ws B)),.fz (.str f),.fz (.str x)]=.ok (decide (wU ws f<wU ws x)):=bT_ok (((fA2 (a:=frD (qF ws (wU ws f))) (b:=frD (qF ws (wU ws x))) (f2_ok (a:=.dct (shD ws B)) (b:=.str f) rfl rfl (get_shD hf)) (f2_ok (a:=.dct (shD ws B)) (b:=.str x) rfl rfl (get_shD hx))).trans (is_less_eq (q_fra h (by omega) (by omega)) (q_fra h (by omega) (by omega)))).trans (by rw[less_q h]))
   by_cases c:wU ws f<wU ws x
   ·rw[decide_eq_true c] at e2
    obtain⟨s1,k⟩:=ih x (.fz (.str x)) (fun y hy=>hK y (.tail _ hy)) hx
    refine⟨s1,?_⟩
    have:gpF ws (x::K) f=gpF ws K x:=by show gpF ws K (if wU ws f<wU ws x then x else f)=_;rw[if_pos c]
    rw[this]
    exact(forD_nx ((sIf_t e2).trans (sSet_ok (d:=.str x) rfl))).trans k
   ·rw[decide_eq_false c] at e2
    obtain⟨s1,k⟩:=ih f (.fz (.str x)) (fun y hy=>hK y (.tail _ hy)) hf
    refine⟨s1,?_⟩
    have:gpF ws (x::K) f=gpF ws K f:=by show gpF ws K (if wU ws f<wU ws x then x else f)=_;rw[if_neg c]
    rw[this]
    exact(forD_nx ((sIf_f e2).trans rfl)).trans k
 obtain⟨s1,k⟩:=key B (B.getD 0 []) .no (fun x hx=>hx) (getD_mem h0)
 have e1:fn_first_greatest [.tup (sT B),.dct (shD ws B)]=.ok (.str (gpF ws B (B.getD 0 []))):=by
  refine runD_rt ((sSeq_nx (sSet_ok (d:=.str (B.getD 0 [])) (f2_ok (a:=.tup (sT B)) (b:=.int 0) rfl rfl ?_))).trans ((sSeq_nx (cutX_nx ((sFor_ok (ds:=sT B) rfl).trans k))).trans rfl))
  exact at_sT h0
 exact runD_rt ((sSeq_nx (sDrop_ok ((fA2 (a:=.tup (sI ws)) (b:=.tup (sT B)) rfl rfl).trans (require_book_of_eq h hp hb.isBook)))).trans (sRet_ok ((fA2 (a:=.tup (sT B)) (b:=.dct (shD ws B)) rfl ((fA2 (a:=.tup (sI ws)) (b:=.tup (sT B)) rfl rfl).trans (shares_of_eq h hl hb.nd hp.2.2.2.1))).trans e1)))
def srcF (ns:List Int)(at':Nat)(m:Nat):List Int:=(List.range m).map fun(k:Nat)=>1+drawnF ns (at'+1+(k:Int)) ([3,9,99].getD (drawnF ns at' 3).toNat 0)
theorem srcF_most (ns:List Int)(at':Int):∃q:Int,([3,9,99]:List Int).getD (drawnF ns at' 3).toNat 0=q∧0<q∧q≤99∧ixD (.lst [.int 3,.int 9,.int 99]) (.int (drawnF ns at' 3))=some (.int q):=by
 have hd:=drawn_range ns at' (m:=3) (by decide)
 obtain⟨r,hr⟩:=Int.eq_ofNat_of_zero_le hd.1
 rw[hr] at hd ⊢
 have:r=0∨r=1∨r=2:=by omega
 rcases this with rfl|rfl|rfl
 ·exact⟨3,rfl,by decide,by decide,rfl⟩
 ·exact⟨9,rfl,by decide,by decide,rfl⟩
 ·exact⟨99,rfl,by decide,by decide,rfl⟩
theorem srcF_ok (ns:List Int)(at':Nat){m:Nat}(m2:2≤m)(m4:m≤4):SrcOk (srcF ns at' m)∧(srcF ns at' m).length=m:=by
 have hl:(srcF ns at' m).length=m:=by simp[srcF]
 obtain⟨q,e,q0,q1,_⟩:=srcF_most ns at'
 refine⟨⟨by omega,by omega,fun w hw=>?_⟩,hl⟩
 obtain⟨k,_,rfl⟩:=List.mem_map.mp hw
 rw[e]
 have:=drawn_range ns (at'+1+(k:Int)) (m:=q) q0
 omega
theorem source_eq (ns:List Int)(hn:ns.length≤63)(at':Nat){m:Nat}(m2:2≤m)(m4:m≤4)(hat:at'≤900):fn__law_source [scD ns,.int at',.int m]=.ok (.tup (sI (srcF ns at' m))):=by
 obtain⟨q,e,q0,q1,eq⟩:=srcF_most ns at'
 refine runD_rt ((sSeq_nx (sSet_ok (d:=.int q) (f2_ok (a:=.lst [.int 3,.int 9,.int 99]) (b:=.int (drawnF ns at' 3)) rfl ((fA3 (a:=scD ns) (b:=.int at') (c:=.int 3) rfl rfl rfl).trans (drawn_eq ns hn at' 3 (by omega) (by omega) (by decide))) eq))).trans (sRet_ok (fO_ok (ds:=[.lst (sI (srcF ns at' m))]) (aCons_ok (fComp_ok (ds:=(List.range m).map fun(k:Nat)=>.int (k:Int)) ?_ (by rw[List.length_map,List.length_range];omega) ?_) rfl) rfl)))
 ·exact fR_ok (ds:=[.int (m:Int)]) rfl (rng1_nat (by omega))
 ·have hk:∀k∈List.range m,f2 addI (fC (.int 1)) (fA (ari 3 fn__law_drawn) (aCons (fNm 1) (aCons (f2 addI (f2 addI (fNm 3) (fC (.int 1))) (fNm 0)) (aCons (fNm 2) aNil)))) ([Sl.no,.fz (scD ns),.fz (.int q),.fz (.int at')].set 0 (.fz (D.int (k:Int))))=.ok (.int (1+drawnF ns (at'+1+(k:Int)) q)):=fun k hk=>by
   have:=List.mem_range.mp hk
   exact addI_ok rfl ((fA3 (a:=scD ns) (b:=.int ((at':Int)+1+(k:Int))) (c:=.int q) rfl (addI_ok (addI_ok rfl rfl) rfl) rfl).trans (drawn_eq ns hn _ q (by omega) (by omega) q0))
  have:=compD_map (l:=List.range m) (enc:=fun(k:Nat)=>D.int (k:Int)) (fun k=>.int (1+drawnF ns (at'+1+(k:Int)) q)) hk
  have e2:sI (srcF ns at' m)=(List.range m).map fun(k:Nat)=>D.int (1+drawnF ns (at'+1+(k:Int)) q):=by
   unfold sI srcF
   rw[List.map_map,e];rfl
  rw[e2]
  exact this
end Pg
namespace My
theorem drop_pre {q p:List Nat}(h:q <+: p)(hn:q≠p):q <+: p.dropLast:=by
 rcases List.eq_nil_or_concat p with rfl|⟨l,c,rfl⟩
 ·exact absurd (List.prefix_nil.mp h) hn
 ·rw[List.concat_eq_append] at h hn ⊢
  rw[List.dropLast_concat]
  rcases List.prefix_concat_iff.mp h with e|e
  ·exact absurd e hn
  ·exact e
theorem drop_ne {p:List Nat}(h:p≠[]):p.dropLast≠p:=fun e=>by
 have:=congrArg List.length e
 have:=List.length_pos_iff.mpr h
 rw[List.length_dropLast] at *
 omega
theorem Inner.pre {B:List (List Nat)}{x y:List Nat}(h:Inner B y)(p:x <+: y):Inner B x:=by
 obtain⟨q,hq,hy,hn⟩:=h
 refine⟨q,hq,p.trans hy,fun e=>hn ?_⟩
 subst e
 exact hy.eq_of_length (Nat.le_antisymm hy.length_le p.length_le)
theorem Book.inner_not {m:Nat}{B:List (List Nat)}(h:Book m B){x y:List Nat}(hx:Inner B x)(hy:y <+: x):y∉B:=fun hyB=>h.free hx y hy (h.ne y hyB) hyB
theorem Book.mem_iff {m:Nat}{B:List (List Nat)}(h:Book m B){p:List Nat}:p∈B↔p≠[]∧LetOk m p∧Inner B p.dropLast∧¬Inner B p:=by
 constructor
 ·intro hp
  exact⟨h.ne p hp,h.let_ p hp,⟨p,hp,List.dropLast_prefix p,drop_ne (h.ne p hp)⟩,fun hi=>h.inner_not hi (List.prefix_refl p) hp⟩
 ·rintro ⟨hn,hl,hi,hni⟩
  obtain⟨q,hq,e|e⟩:=h.cv p hl
  ·by_cases eq:q=p
   ·exact eq▸hq
   ·exact absurd hq (h.inner_not hi (drop_pre e eq))
  ·by_cases eq:p=q
   ·exact eq▸hq
   ·exact absurd ⟨q,hq,e,eq⟩ hni
theorem Book.ext {m:Nat}{B C:List (List Nat)}(h:Book m B)(k:Book m C)(e:∀x,Inner B x↔Inner C x):B=C:=by
 have p:B.Perm C:=(List.perm_ext_iff_of_nodup h.nd k.nd).mpr fun p=>by rw[h.mem_iff,k.mem_iff,e,e]
 exact List.Perm.eq_of_pairwise (fun _ _ _ _ h k=>List.le_antisymm h k) h.srt k.srt p
structure Clo (m:Nat)(P:List Nat→Prop):Prop where
 nil:P []
 let_:∀x,P x→LetOk m x
 pre:∀x y,x <+: y→P y→P x
 bd:∃N,∀x,P x→x.length<N
theorem Book.clo {m:Nat}{B:List (List Nat)}(h:Book m B):Clo m (Inner B) where
 nil:=h.nilInner
 let_:=fun x hx=>h.innerLet hx
 pre:=fun x y p hy=>hy.pre p
 bd := by
  have:∃N,∀p∈B,p.length≤N:=by
   clear h
   induction B with
   | nil=>exact⟨0,by simp⟩
   | cons q B ih =>
    obtain⟨N,hN⟩:=ih
    refine⟨max N q.length,fun p hp=>?_⟩
    rcases List.mem_cons.mp hp with rfl|hp
    ·exact Nat.le_max_right _ _
    ·exact Nat.le_trans (hN p hp) (Nat.le_max_left _ _)
  obtain⟨N,hN⟩:=this
  refine⟨N+1,fun x hq40=>?_⟩
  obtain⟨p,hp,hx,_⟩:=hq40
  have:=hN p hp
  have:=hx.length_le
  omega
theorem Book.of {m:Nat}(m2:2≤m)(m4:m≤4){P:List Nat→Prop}(c:Clo m P){L:List (List Nat)}(s:L.Pairwise (·≤·))(n:L.Nodup)(hm:∀p,p∈L↔p≠[]∧LetOk m p∧P p.dropLast∧¬P p):Book m L∧∀x,Inner L x↔P x:=by
 have h97:97∈abcd.take m:=let_abcd m4 (by omega)
 obtain⟨N,hN⟩:=c.bd
 have up:∀(k:Nat) (x:List Nat),P x→N≤x.length+k→∃q∈L,x <+: q∧x≠q:=by
  intro k
  induction k with
  | zero=>intro x hx hk;have:=hN x hx;omega
  | succ k ih =>
   intro x hx hk
   by_cases hy:P (x++[97])
   ·obtain⟨q,hq,h1,h2⟩:=ih (x++[97]) hy (by simp;omega)
    refine⟨q,hq,(List.prefix_append _ _).trans h1,fun e=>?_⟩
    have:=h1.length_le
    rw[← e,List.length_append,List.length_singleton] at this
    omega
   ·refine⟨x++[97],(hm _).mpr ⟨by simp,(c.let_ x hx).app (LetOk.one h97),?_,hy⟩,List.prefix_append _ _,fun e=>ne_snoc x 97 e.symm⟩
    rw[List.dropLast_concat];exact hx
 have down:∀(k:Nat) (x:List Nat),x.length≤k→LetOk m x→¬P x→∃q∈L,q <+: x:=by
  intro k
  induction k with
  | zero =>
   intro x hk _ hx
   have:x=[]:=List.length_eq_zero_iff.mp (by omega)
   subst this
   exact absurd c.nil hx
  | succ k ih =>
   intro x hk hl hx
   have hne:x≠[]:=fun e=>hx (e▸c.nil)
   by_cases hd:P x.dropLast
   ·exact⟨x,(hm x).mpr ⟨hne,hl,hd,hx⟩,List.prefix_refl x⟩
   ·obtain⟨q,hq,e⟩:=ih x.dropLast (by rw[List.length_dropLast];omega) (hl.pre (List.dropLast_prefix x)) hd
    exact⟨q,hq,e.trans (List.dropLast_prefix x)⟩
 have inn:∀x,Inner L x↔P x:=fun x=>by
  constructor
  ·rintro⟨p,hp,h1,h2⟩
   exact c.pre _ _ (drop_pre h1 h2) ((hm p).mp hp).2.2.1
  ·intro hx
   obtain⟨q,hq,h1,h2⟩:=up N x hx (by omega)
   exact⟨q,hq,h1,h2⟩
 refine⟨⟨m2,m4,fun p hp=>((hm p).mp hp).2.1,fun p hp=>((hm p).mp hp).1,fun p hp q hq h=>?_,fun x hx=>?_,s,n⟩,inn⟩
 ·by_cases e:p=q
  ·exact e
  ·exact absurd (c.pre _ _ (drop_pre h e) ((hm q).mp hq).2.2.1) ((hm p).mp hp).2.2.2
 ·by_cases hP:P x
  ·obtain⟨q,hq,h1,_⟩:=up N x hP (by omega)
   exact⟨q,hq,.inr h1⟩
  ·obtain⟨q,hq,h1⟩:=down x.length x (Nat.le_refl _) hx hP
   exact⟨q,hq,.inl h1⟩
def Head (m:Nat)(B:List (List Nat))(x:List Nat):Prop:=x≠[]∧∀k∈kids m x,k∈B
def joinF (B:List (List Nat))(x:List Nat):List (List Nat):=sortF (B.filter (fun p=>!x.isPrefixOf p)++[x])
theorem Head.inner {m:Nat}{B:List (List Nat)}(h:Book m B){x:List Nat}(hx:Head m B x):Inner B x:=by
 have h97:97∈abcd.take m:=let_abcd h.m4 (by have:=h.m2;omega)
 exact⟨x++[97],hx.2 _ (kids_mem.mpr ⟨97,h97,rfl⟩),List.prefix_append _ _,fun e=>ne_snoc x 97 e.symm⟩
theorem Head.top {m:Nat}{B:List (List Nat)}(h:Book m B){x y:List Nat}(hx:Head m B x)(hy:Inner B y)(p:x <+: y):y=x:=by
 obtain⟨r,rfl⟩:=p
 cases r with
 | nil=>simp
 | cons c r =>
  have hc:=h.innerLet hy c (by simp)
  exact absurd (hx.2 _ (kids_mem.mpr ⟨c,let_abcd h.m4 hc,rfl⟩)) (h.inner_not hy ⟨r,by simp⟩)
theorem Book.join {m:Nat}{B:List (List Nat)}(h:Book m B){x:List Nat}(hx:Head m B x):Book m (joinF B x)∧∀y,Inner (joinF B x) y↔Inner B y∧y≠x:=by
 have hi:=hx.inner h
 have hxB:x∉B:=h.inner_not hi (List.prefix_refl x)
 refine Book.of h.m2 h.m4 (P:=fun y=>Inner B y∧y≠x) ⟨⟨h.nilInner,fun e=>hx.1 e.symm⟩,fun y hy=>h.innerLet hy.1,fun y z p hz=>⟨hz.1.pre p,fun e=>hz.2 (hx.top h hz.1 (e▸p))⟩,?_⟩ (sortF_srt _) ?_ fun p=>?_
 ·obtain⟨N,hN⟩:=h.clo.bd
  exact⟨N,fun y hy=>hN y hy.1⟩
 ·refine(sortF_perm _).nodup_iff.mpr (List.nodup_append.mpr ⟨h.nd.filter _,by simp,fun a ha b hb e=>?_⟩)
  rw[List.mem_singleton.mp hb] at e
  subst e
  exact hxB (List.mem_filter.mp ha).1
 ·unfold joinF
  rw[sortF_mem,List.mem_append,List.mem_filter,List.mem_singleton]
  have nb:(!x.isPrefixOf p)=true↔¬x <+: p:=by rw[Bool.not_eq_true',← Bool.not_eq_true,List.isPrefixOf_iff_prefix]
  rw[nb]
  constructor
  ·rintro (⟨hp,hnp⟩|rfl)
   ·obtain⟨a,b,c,d⟩:=h.mem_iff.mp hp
    exact⟨a,b,⟨c,fun e=>hnp (e▸List.dropLast_prefix p)⟩,fun e=>d e.1⟩
   ·exact⟨hx.1,h.innerLet hi,⟨hi.pre (List.dropLast_prefix _),drop_ne hx.1⟩,fun e=>e.2 rfl⟩
  ·rintro ⟨a,b,⟨c,c'⟩,d⟩
   by_cases e:p=x
   ·exact .inr e
   ·have hp:p∈B:=h.mem_iff.mpr ⟨a,b,c,fun z=>d ⟨z,e⟩⟩
    exact .inl ⟨hp,fun z=>c' (hx.top h c (drop_pre z fun z'=>e z'.symm))⟩
theorem Book.partAt {m:Nat}{B:List (List Nat)}(h:Book m B){p:List Nat}(hp:p∈B):Book m (My.part m B (B.idxOf p))∧∀x,Inner (My.part m B (B.idxOf p)) x↔Inner B x∨x=p:=by
 have hj:B.idxOf p<B.length:=List.idxOf_lt_length_iff.mpr hp
 refine⟨h.part hj,fun x=>?_⟩
 rw[inner_part' h.m2 h.m4 h hj]
 have:B.getD (B.idxOf p) []=p:=by rw[List.getD_eq_getElem?_getD,List.getElem?_eq_getElem hj];exact List.getElem_idxOf hj
 rw[this]
theorem Book.head_mem {m:Nat}{B:List (List Nat)}(h:Book m B){x:List Nat}(hx:Head m B x):x∈joinF B x:=by
 unfold joinF;rw[sortF_mem];simp
theorem Book.join_part {m:Nat}{B:List (List Nat)}(h:Book m B){x:List Nat}(hx:Head m B x):My.part m (joinF B x) ((joinF B x).idxOf x)=B:=by
 obtain⟨hb,hi⟩:=h.join hx
 obtain⟨kb,ki⟩:=hb.partAt (h.head_mem hx)
 refine kb.ext h fun y=>?_
 rw[ki,hi]
 constructor
 ·rintro(⟨a,_⟩|rfl)
  ·exact a
  ·exact hx.inner h
 ·intro a
  by_cases e:y=x
  ·exact .inr e
  ·exact .inl ⟨a,e⟩
theorem kids_inner {m:Nat}(m2:2≤m)(m4:m≤4)(x:List Nat):Inner (kids m []) x↔x=[]:=by
 constructor
 ·rintro⟨p,hp,hx,hn⟩
  obtain⟨c,_,rfl⟩:=kids_mem.mp hp
  rcases List.prefix_concat_iff.mp hx with e|e
  ·exact absurd e hn
  ·exact List.prefix_nil.mp e
 ·rintro rfl
  exact(Book.letters m2 m4).nilInner
theorem longest (L:List (List Nat))(P:List Nat→Prop) [DecidablePred P](h:∃x∈L,P x):∃x∈L,P x∧∀y∈L,P y→y.length≤x.length:=by
 induction L with
 | nil=>obtain⟨x,hx,_⟩:=h;cases hx
 | cons a L ih =>
  by_cases hL:∃x∈L,P x
  ·obtain ⟨x,hx,px,mx⟩:=ih hL
   by_cases ha:P a∧x.length≤a.length
   ·refine⟨a,.head _,ha.1,fun y hy py=>?_⟩
    rcases List.mem_cons.mp hy with rfl|hy
    ·exact Nat.le_refl _
    ·exact Nat.le_trans (mx y hy py) ha.2
   ·refine ⟨x,.tail _ hx,px,fun y hy py=>?_⟩
    rcases List.mem_cons.mp hy with rfl|hy
    ·have:¬x.length≤y.length:=fun z=>ha ⟨py,z⟩
     omega
    ·exact mx y hy py
  ·obtain ⟨x,hx,px⟩:=h
   rcases List.mem_cons.mp hx with rfl|hx
   ·refine⟨x,.head _,px,fun y hy py=>?_⟩
    rcases List.mem_cons.mp hy with rfl|hy
    ·exact Nat.le_refl _
    ·exact absurd ⟨y,hy,py⟩ hL
   ·exact absurd ⟨x,hx,px⟩ hL
theorem Book.hasHead {m:Nat}{B:List (List Nat)}(h:Book m B)(hx:∃x,Inner B x∧x≠[]):∃x,Head m B x:=by
 obtain⟨x0,h0,h1⟩:=hx
 obtain⟨x,hxk,hxn,hmax⟩:=longest (innerKeys B) (fun x=>x≠[]) ⟨x0,innerKeys_mem.mpr h0,h1⟩
 refine⟨x,hxn,fun k hk=>?_⟩
 obtain⟨c,hc,rfl⟩:=kids_mem.mp hk
 rcases h.step (innerKeys_mem.mp hxk) hc with⟨a,_⟩|⟨_,a⟩
 ·have:=hmax _ (innerKeys_mem.mpr a) (by simp)
  rw[List.length_append,List.length_singleton] at this
  omega
 ·exact a
theorem join_keys {m:Nat}{B:List (List Nat)}(h:Book m B){x:List Nat}(hx:Head m B x):(innerKeys (joinF B x)).length+1≤(innerKeys B).length:=by
 obtain⟨hb,hi⟩:=h.join hx
 have:(x::innerKeys (joinF B x)).length≤(innerKeys B).length:=by
  refine List.Nodup.length_le_of_subset (List.nodup_cons.mpr ⟨fun z=>((hi x).mp (innerKeys_mem.mp z)).2 rfl,innerKeys_nd _⟩) fun y hy=>?_
  rcases List.mem_cons.mp hy with rfl|hy
  ·exact innerKeys_mem.mpr (hx.inner h)
  ·exact innerKeys_mem.mpr ((hi y).mp (innerKeys_mem.mp hy)).1
 simpa using this
theorem Book.gr {m:Nat}:∀(n:Nat) {B:List (List Nat)},Book m B→(innerKeys B).length≤n→∃t,Gr m t B:=by
 intro n
 induction n with
 | zero =>
  intro B h hn
  have:[]∈innerKeys B:=innerKeys_mem.mpr h.nilInner
  rw[List.length_eq_zero_iff.mp (Nat.le_zero.mp hn)] at this
  cases this
 | succ n ih =>
  intro B h hn
  by_cases hx:∃x,Inner B x∧x≠[]
  ·obtain⟨x,hx⟩:=h.hasHead hx
   obtain⟨t,g⟩:=ih (h.join hx).1 (by have:=join_keys h hx;omega)
   refine⟨t+1,?_⟩
   have:=Gr.s g (List.idxOf_lt_length_iff.mpr (h.head_mem hx))
   rwa [h.join_part hx] at this
  ·refine ⟨0,?_⟩
   have e:B=kids m []:=h.ext (Book.letters h.m2 h.m4) fun x=>by
    rw[kids_inner h.m2 h.m4]
    constructor
    ·intro hi
     by_cases e:x=[]
     ·exact e
     ·exact absurd ⟨x,hi,e⟩ hx
    ·rintro rfl;exact h.nilInner
   rw[e];exact Gr.z
theorem Book.grAt {m:Nat}{B:List (List Nat)}(h:Book m B):∃t,Gr m t B∧(innerKeys B).length=t+1∧B.length=m+t*(m - 1):=by
 obtain⟨t,g⟩:=Book.gr _ h (Nat.le_refl _)
 exact⟨t,g,g.keysEq h.m2 h.m4,g.len h.m2 h.m4⟩
theorem filter_two {α:Type}(p:α→Bool):∀l:List α,(l.filter fun x=>!p x).length+(l.filter p).length=l.length
 | []=>rfl
 | x::l=>by
  have:=filter_two p l
  cases h:p x <;>simp[h] <;>omega
end My
namespace My
end My
namespace Pg
open PySem L2 My
theorem cA1 {fn:List D→Rs D}{f:Rho→Rs D}{ρ:Rho}{a:D}{r:Rs D}(e1:f ρ=.ok a)(e:fn [a]=r):fA (ari 1 fn) (aCons f aNil) ρ=r:=(fA1 e1).trans e
theorem cA2 {fn:List D→Rs D}{f g:Rho→Rs D}{ρ:Rho}{a b:D}{r:Rs D}(e1:f ρ=.ok a)(e2:g ρ=.ok b)(e:fn [a,b]=r):fA (ari 2 fn) (aCons f (aCons g aNil)) ρ=r:=(fA2 e1 e2).trans e
theorem cA3 {fn:List D→Rs D}{f g h:Rho→Rs D}{ρ:Rho}{a b c:D}{r:Rs D}(e1:f ρ=.ok a)(e2:g ρ=.ok b)(e3:h ρ=.ok c)(e:fn [a,b,c]=r):fA (ari 3 fn) (aCons f (aCons g (aCons h aNil))) ρ=r:=(fA3 e1 e2 e3).trans e
theorem cA4 {fn:List D→Rs D}{f g h i:Rho→Rs D}{ρ:Rho}{a b c d:D}{r:Rs D}(e1:f ρ=.ok a)(e2:g ρ=.ok b)(e3:h ρ=.ok c)(e4:i ρ=.ok d)(e:fn [a,b,c,d]=r):fA (ari 4 fn) (aCons f (aCons g (aCons h (aCons i aNil)))) ρ=r:=(fA4 e1 e2 e3 e4).trans e
structure Bb (m:Nat)(B:List (List Nat)):Prop where
 pcs:Pcs m B
 bk:Book m B
theorem bb_of {m:Nat}{B:List (List Nat)}(h:Book m B){n:Nat}(hn:(innerKeys B).length≤n)(h10:n≤10)(h8:∀p∈B,p.length≤31):Bb m B∧B.length≤1+n*3:=by
 obtain⟨t,g,e1,e2⟩:=h.grAt
 have m2:=h.m2
 have m4:=h.m4
 have:t*(m - 1)≤t*3:=Nat.mul_le_mul_left t (by omega)
 have hl:B.length≤1+n*3:=by omega
 refine⟨⟨⟨m2,m4,fun z=>?_,by omega,fun p hp=>⟨h.let_ p hp,h.ne p hp,h8 p hp⟩⟩,h⟩,hl⟩
 rw[z] at e2
 simp at e2
 omega
theorem gr_inner {ws:List Int}(h:SrcOk ws){t:Nat}{B:List (List Nat)}(g:My.Gr ws.length t B):t≤30→((innerKeys B).map (wU ws)).sum=SG ws lenI B:=by
 have m2:=h.1
 have m4:=h.2.1
 induction g with
 | z =>
  intro _
  have p:(innerKeys (kids ws.length [])).Perm [[]]:=by
   refine(List.perm_ext_iff_of_nodup (innerKeys_nd _) (by simp)).mpr fun x=>?_
   rw[innerKeys_mem,List.mem_singleton]
   exact kids_inner m2 m4 x
  rw[perm_sum (p.map (wU ws))]
  show wU ws []+0=_
  unfold SG
  rw[kraft h (p:=[]) (by decide) lenI]
  show wU ws []+0=((0+1:Nat):Int)*wU ws []
  omega
 | s g hj ih =>
  rename_i t' B' j
  intro ht
  have hb:=g.book m2 m4
  have hm:=getD_mem hj
  have p:(innerKeys (part ws.length B' j)).Perm (innerKeys B'++[B'.getD j []]):=by
   refine(List.perm_ext_iff_of_nodup (innerKeys_nd _) ?_).mpr fun x=>?_
   ·refine List.nodup_append.mpr ⟨innerKeys_nd _,by simp,fun a ha b hb' e=>?_⟩
    rw[List.mem_singleton.mp hb'] at e
    subst e
    obtain⟨q,hq,hx,hn⟩:=innerKeys_mem.mp ha
    exact hn (hb.pf _ hm q hq hx)
   ·rw[innerKeys_mem,List.mem_append,List.mem_singleton,innerKeys_mem]
    exact inner_part' m2 m4 hb hj
  rw[perm_sum (p.map (wU ws)),List.map_append,sum_app,ih (by omega),SG_part h lenI hj (by have:=g.short m2 m4 _ hm;omega)]
  show _+(wU ws (B'.getD j [])+0)=_
  have:(lenI ((B'.getD j []).length+1) - lenI (B'.getD j []).length)=1:=by unfold lenI;omega
  rw[this,Int.one_mul,Int.add_zero]
end Pg
namespace Pg
open PySem L2 My
theorem goneOn_one (m:Nat)(x:List Nat):goneOn m [x]=kids m x:=by
 unfold goneOn kids;simp
theorem bAnd_ok {fa fb:Rho→Rs Bool}{ρ:Rho}{a b:Bool}(e1:fa ρ=.ok a)(e2:fb ρ=.ok b):bAnd fa fb ρ=.ok (a&&b):=by
 unfold bAnd;rw[e1];show(if a=true then fb ρ else .ok false)=_
 cases a
 ·rfl
 ·exact e2
def lessF (B C:List (List Nat)):List (List Nat):=sortF (dedM (sortF (innerKeys B)) (sortF (innerKeys C)))
end Pg
namespace Pg
open PySem L2 My
theorem intT {x y:Int}(h:x=y):eqD true (.int x) (.int y)=some (.bl false):=by rw[eqD_int,decide_eq_true h];rfl
theorem bOr_f3 {f g h:Rho→Rs Bool}{ρ:Rho}(e1:f ρ=.ok false)(e2:g ρ=.ok false)(e3:h ρ=.ok false):bOr f (bOr g h) ρ=.ok false:=bOr_ff e1 (bOr_ff e2 e3)
theorem bAnd_f1 {f g:Rho→Rs Bool}{ρ:Rho}(e:f ρ=.ok false):bAnd f g ρ=.ok false:=by unfold bAnd;rw[e];rfl
structure Kc (m n:Nat)(B:List (List Nat)):Prop where
 bk:Book m B
 ks:(innerKeys B).length≤n
 l7:∀p∈B,p.length≤n
section
variable {m n:Nat}{B C S:List (List Nat)}
theorem Kc.len (h:Kc m n B)(h8:n≤7):B.length≤1+n*3:=(bb_of h.bk h.ks (by omega) fun p hp=>by have:=h.l7 p hp;omega).2
theorem Kc.part (h:Kc m n B){p:List Nat}(hp:p∈B):Kc m (n+1) (My.part m B (B.idxOf p)):=by
 obtain⟨b1,b2⟩:=h.bk.partAt hp
 refine⟨b1,?_,fun q hq=>?_⟩
 ·have:(innerKeys (My.part m B (B.idxOf p))).length≤(p::innerKeys B).length:=(innerKeys_nd _).length_le_of_subset fun x hx=>by
   rcases(b2 x).mp (innerKeys_mem.mp hx) with z|z
   ·exact .tail _ (innerKeys_mem.mpr z)
   ·exact z▸.head _
  have:=h.ks
  simp only[List.length_cons] at *
  omega
 ·rcases (part_mem h.bk.nd (List.idxOf_lt_length_iff.mpr hp)).mp hq with z|z
  ·have:=h.l7 q z.1
   omega
  ·obtain ⟨c,_,rfl⟩:=kids_mem.mp z
   have e:B.getD (B.idxOf p) []=p:=by
    rw[List.getD_eq_getElem?_getD,List.getElem?_eq_getElem (List.idxOf_lt_length_iff.mpr hp)]
    exact List.getElem_idxOf (List.idxOf_lt_length_iff.mpr hp)
   rw[e]
   have:=h.l7 p hp
   simp
   omega
end
theorem lenT_sT {f:Rho→Rs D}{ρ:Rho}{L:List (List Nat)}(e:f ρ=.ok (.tup (sT L))):fO lenD (aCons f aNil) ρ=.ok (.int (L.length:Int)):=fO_ok (aCons_ok e rfl) (by show some (D.int ((sT L).length:Int))=_;rw[sT_len])
end Pg
namespace Pg
open PySem L2 My
theorem fAnd_t {f g:Rho→Rs D}{ρ:Rho}{b:Bool}(e1:f ρ=.ok (.bl true))(e2:g ρ=.ok (.bl b)):fAnd f g ρ=.ok (.bl b):=by unfold fAnd;rw[e1];exact e2
theorem f1_ok {g:D→Option D}{fa:Rho→Rs D}{ρ:Rho}{a d:D}(e1:fa ρ=.ok a)(e2:g a=some d):f1 g fa ρ=.ok d:=by unfold f1;rw[e1];show lf (g a)=_;rw[e2];rfl
theorem fCh_ok {g g':D→D→Option D}{fa fb fc:Rho→Rs D}{ρ:Rho}{a b c d:D}(ea:fa ρ=.ok a)(eb:fb ρ=.ok b)(ec:fc ρ=.ok c)(h1:g a b=some (.bl true))(h2:g' b c=some d):fCh g g' fa fb fc ρ=.ok d:=by
 unfold fCh
 rw[ea];show(fb ρ).bind _=_;rw[eb];show(lf (g a b)).bind _=_;rw[h1];show(fc ρ).bind _=_;rw[ec];show lf (g' b c)=_;rw[h2];rfl
end Pg
namespace L2
open PySem PySem.Spec PyProof.Rows
def rUpdate:V→List V→Hp→VK→Prop:=fun x vs H Q=>∃a b kvs more,x=.ref a∧vs=[.ref b]∧H a=some (.dK kvs)∧H b=some (.dK more)∧a≠b∧kvs.length+more.length≤sizeLine∧Q .non (upd H a (.dK (mergeK kvs more)))
theorem mt_update {X:Cx}:MtR X "dict.update" rUpdate:=by
 intro pins s σ H x xs v us Q I rx rv h
 obtain⟨a,b,kvs,more,rfl,rfl,e,e2,ne,hz,q⟩:=h
 cases rx
 obtain⟨u,rfl,ru⟩:=rv.one
 cases ru
 obtain⟨z,hd,vs,rel,dd⟩:=dk_of I.hok e
 obtain⟨z2,hd2,vs2,rel2,dd2⟩:=dk_of I.hok e2
 refine call_meetsIn PySem.F.slot_dict_update dd.typeIs PySem.F.entry_dict_update (PySem.F.args_dict_update_2 _ _) (meets_dict_update (mixKind X.prog X.w) a b ne hd2) ⟨vs,vs2,dd,dd2,by rw[← rel.length,← rel2.length];exact hz,fun h' dd' _ hs=>?_⟩
 have he:∃q,h'.get? a=some q:=let ⟨q,_,_,hq,_⟩:=dd';⟨q,hq⟩
 exact⟨.non,_,d_write (t':=s.toks) I (by rw[e];exact True.intro) hs he (dk_new (Nat.le_trans (length_mergeK more kvs) hz) hd (KV.merge rel2 rel) dd'),rfl,q⟩
def updD (ds es:List (List Nat×D)):List (List Nat×D):=es.foldl (fun acc kv=>putD acc kv.1 kv.2) ds
section
variable {cl:Nat→Addr}
theorem Dks.merge {K:PySem.W.Frag}{F:Hp}:∀(ms:List (Key×V)) {es:List (List Nat×D)},Dks K cl F ms es→∀{vs:List (Key×V)}{ds:List (List Nat×D)},Dks K cl F vs ds→Dks K cl F (mergeK vs ms) (updD ds es)
 | [],_,.nil=>fun r=>r
 | _::ms,_,.cons ok q t=>fun r=>Dks.merge ms t (r.put ok q)
theorem Dks.len {K:PySem.W.Frag}{F:Hp}:∀{vs:List (Key×V)}{ds:List (List Nat×D)},Dks K cl F vs ds→vs.length=ds.length
 | _,_,.nil=>rfl
 | _,_,.cons _ _ t=>by rw[List.length_cons,List.length_cons,t.len]
def sUpd (i:Nat)(f:Rho→Rs D):Rho→Out:=fun ρ=>match odL ρ i with
 | some ds=>(match f ρ with
  | .ok (.dct es)=>if ds.length+es.length≤1000000 then .nx (ρ.set i (.od (updD ds es))) else .no
  | .ex n=>.ex n
  | _=>.no)
 | none=>.no
theorem xs_update {X:Cx}{E:XK}{o e:Expr}{f:Rho→Rs D}{i:Nat}{apos cpos pos:Pos}(ho:PE X o (tVar i))(ha:XE X cl E e f)(m:Mth X o e "update" apos cpos)(hs:swapsWith (.Call (.Attribute o "update" apos) [e] [] cpos) none pos.line X.env=pure false:=by rfl):XS X cl E (.Expr (.Call (.Attribute o "update" apos) [e] [] cpos) pos) (sUpd i f):=by
 obtain⟨t,pt,rt⟩:=ha.ex
 refine XS'.out ⟨_,ps_expr (pe_bm PySem.F.plainAttrs_dict PySem.F.slot_dict_update PySem.F.type_dict_update mt_update ho (pa_cons pt pa_nil m.hs) m.base m.few m.line m.hs m.plain) hs,fun H0 F0 ρ σ H F Dn R oo=>?_⟩
 unfold sUpd at oo
 cases hw:odL ρ i with
 | none=>rw[hw] at oo;exact oo.elim
 | some ds =>
  rw[hw] at oo
  have hd:=odL_some hw
  obtain⟨a,vs,h1,h2,h3,h4,h5⟩:=R.od i ds hd
  refine⟨.ref a,h1,.inr (.inr (.inl ⟨rfl,.inl ⟨vs,h2⟩⟩)),rt H0 F0 ρ σ H F _ R ?_⟩
  cases e:f ρ with
  | no=>rw[e] at oo;exact oo.elim
  | ex n=>rw[e] at oo;exact oo
  | ok d =>
   rw[e] at oo
   intro v H' F' g q
   cases q with
   | dct hb hk =>
    rename_i b ms es
    dsimp only at oo
    split at oo
    ·rename_i hl
     have R1:=R.grow g
     have hab:a≠b:=fun z=>by
      obtain⟨a',vs',k1,k2,k3,_⟩:=R1.od i ds hd
      rw[h1] at k1
      injection k1 with k1;injection k1 with k1;injection k1 with k1
      rw[← k1,z] at k3
      rw[k3] at hb;cases hb
     refine⟨a,b,vs,ms,rfl,rfl,g.hh _ _ h2,R1.fh _ _ hb,hab,by rw[h5.len,hk.len,sizeLine_eq];omega,?_⟩
     exact oo _ _ F' (R1.putDk hd h1 (Dks.merge _ hk (h5.mono g.ff))) g.ff
    ·exact oo.elim
   | _=>exact oo.elim
def fFlD (i:Nat)(f:Rho→Rs D):Rho→Rs D:=fun ρ=>match odL ρ i with
 | some ds=>(match f (ρ.set i (.fz (.dct ds))) with | .ok d=>if d.fl=true then .ok d else .no | .ex n=>.ex n | .no=>.no)
 | none=>.no
theorem xe_flD {X:Cx}{E:XK}{e:Expr}{fa:Rho→Rs D}{i:Nat}(h:XE X cl E e fa):XE X cl E e (fFlD i fa):=by
 obtain⟨t,pt,rt⟩:=h.ex
 refine XE'.out ⟨_,pt,fun H0 F0 ρ σ H F Q R o=>?_⟩
 unfold fFlD at o
 cases hw:odL ρ i with
 | none=>rw[hw] at o;exact o.elim
 | some ds =>
  rw[hw] at o
  obtain⟨F1,s1,R1⟩:=R.iceD (odL_some hw)
  refine rt H0 F0 _ σ H F1 _ R1 ?_
  cases e:fa (ρ.set i (.fz (.dct ds))) with
  | ok d =>
   simp only[e] at o
   split at o
   ·rename_i hf
    exact fun v H' F' g q=>o v H' F ⟨Same.refl _,g.hh,R.fh.trans g.hh,fun _ _ _ _ z=>z⟩ (q.flatAny hf)
   ·exact o.elim
  | ex n=>simp only[e] at o;exact o
  | no=>simp only[e] at o;exact o.elim
def OutK (K:PySem.W.Frag)(cl:Nat→Addr)(E:XK)(H0 F H:Hp)(r:Rs (List (List Nat×D)))(Q:VK):Prop :=
 match r with
 | .ok ds=>∀c us H' F',Gr F H F' H'→H c=none→H' c=some (.dK us)→F' c=none→Dks K cl F' us ds→Q (.ref c) H'
 | .ex n=>∀H',Same H0 H'→E (.ref (cl n)) none H'
 | .no=>False
def spK (K:PySem.W.Frag)(cl:Nat→Addr)(fn:List D→Rs (List (List Nat×D)))(n:Nat):Sp:=fun vs H Q E=>∃F ds,Same F H∧Dts K cl F vs ds∧vs.length=n∧OutK K cl E H F H (fn ds) Q
def runK (m i:Nat)(g1 g2:Rho→Out)(ds:List D):Rs (List (List Nat×D)):=match sSeq g1 g2 (ds.map .fz++List.replicate (m - ds.length) .no) with
 | .nx ρ=>(match odL ρ i with|some es=>.ok es|none=>.no)
 | .ex n=>.ex n
 | _=>.no
theorem fnK {P:Program}{w:World}{K:PySem.W.Frag}{mg:Str→Option Value}{base:Heap}{x qual:Str}{st s1 s2:Stmt}{f:Addr}{fd:FuncData}{N ps:List Str}{k m n i:Nat}{g1 g2:Rho→Out}{o:Expr}{pos:Pos}(Fu:Fun K x qual st f fd)(S:FnScope N ps (defScope st))(hm:N.length=m)(hn:ps.length=n)(hbd:defBody st=[s1,s2,.Return (some o) pos])
  (hb:∀(cdv:Value) (A:Around) (outer:List Env) (s:Shared) (H:Hp) (E:XK),Room k (A.deeper (envOfC qual (defScope st) s.heap.objs.size f cdv))→XS (cxOf (CX1 P w) P w K mg base N qual (defScope st) f cdv A outer s H E) cl E s1 g1∧XS (cxOf (CX1 P w) P w K mg base N qual (defScope st) f cdv A outer s H E) cl E s2 g2∧PE (cxOf (CX1 P w) P w K mg base N qual (defScope st) f cdv A outer s H E) o (tVar i)):FnOk P w K mg base (CX1 P w) (k+1) f fd ps (spK K cl (runK m i g1 g2) n):=by
 subst hm hn
 refine Fu.okX S (fun vs H Q E h=>?_) fun cdv A outer s H vs Q E hr h=>?_
 ·obtain⟨F,ds,_,_,h1,_⟩:=h;exact h1
 obtain⟨F,ds,sm,q,h1,oo⟩:=h
 have R0:Rl K cl H F (ds.map .fz++List.replicate (N.length - ds.length) .no) (L2.start N vs) H F:=Rl.start (N:=N) sm q
 obtain⟨b1,b2,b3⟩:=hb cdv A outer s H E hr
 rw[hbd]
 refine⟨_,pss_cons b1 (pss_cons b2 (pss_one (ps_ret b3))),H,F,_,F,R0,?_⟩
 unfold runK sSeq at oo
 cases e1:g1 (ds.map .fz++List.replicate (N.length - ds.length) .no) with
 | nx ρ1 =>
  rw[e1] at oo
  dsimp only at oo
  intro σ1 H1 F1 R1 s1
  refine⟨H,F,ρ1,F1,R1,?_⟩
  cases e2:g2 ρ1 with
  | nx ρ2 =>
   rw[e2] at oo
   dsimp only at oo
   intro σ2 H2 F2 R2 s2
   cases e3:odL ρ2 i with
   | none=>rw[e3] at oo;exact oo.elim
   | some es =>
    rw[e3] at oo
    obtain⟨a,us,k1,k2,k3,k4,k5⟩:=R2.od i es (odL_some e3)
    exact⟨.ref a,k1,oo a us H2 F2 R2.gr k4 k2 k3 k5⟩
  | ex n=>rw[e2] at oo;exact oo
  | rt d=>rw[e2] at oo;exact oo.elim
  | bk ρ=>rw[e2] at oo;exact oo.elim
  | ct ρ=>rw[e2] at oo;exact oo.elim
  | no=>rw[e2] at oo;exact oo.elim
 | ex n=>rw[e1] at oo;exact oo
 | rt d=>rw[e1] at oo;exact oo.elim
 | bk ρ=>rw[e1] at oo;exact oo.elim
 | ct ρ=>rw[e1] at oo;exact oo.elim
 | no=>rw[e1] at oo;exact oo.elim
theorem Rl.ownD {K:PySem.W.Frag}{H0 F0 H F H' F':Hp}{ρ:Rho}{σ:St}{i:Nat}{c:Addr}{us:List (Key×V)}{ds:List (List Nat×D)}(R:Rl K cl H0 F0 ρ σ H F)(g:Gr F H F' H')(hp:H c=none)(h2:H' c=some (.dK us))(h3:F' c=none)(h:Dks K cl F' us ds):Rl K cl H0 F0 (ρ.set i (.od ds)) (σ.set i (some (.ref c))) H' F':=by
 have R1:=R.grow g
 refine⟨R1.gr,by simp[R.len],fun j e z=>?_,fun j e z=>?_,fun j e z=>?_,fun j k s t a z1 z2 o1 o2 e1 e2=>?_⟩
 ·rcases get_set z with⟨rfl,q,hl⟩|⟨hj,q⟩
  ·cases q
  ·rw[List.getElem?_set_ne hj];exact R1.fz j e q
 ·rcases get_set z with⟨rfl,q,hl⟩|⟨hj,q⟩
  ·cases q
  ·rw[List.getElem?_set_ne hj];exact R1.ow j e q
 ·rcases get_set z with⟨rfl,q,hl⟩|⟨hj,q⟩
  ·injection q with q;subst q
   exact⟨c,us,set_get (R.len▸hl),h2,h3,R.gr.hh.free hp,h⟩
  ·rw[List.getElem?_set_ne hj];exact R1.od j e q
 ·rcases get_set z1 with⟨rfl,q,hl⟩|⟨hj,q⟩
  ·rcases get_set z2 with⟨rfl,q2,hl2⟩|⟨hk,q2⟩
   ·rfl
   ·rw[set_get (R.len▸hl)] at e1;rw[List.getElem?_set_ne hk] at e2
    injection e1 with e1;injection e1 with e1;injection e1 with e1
    exact absurd (e1▸hp) (R.apart q2 o2 e2)
  ·rcases get_set z2 with⟨rfl,q2,hl2⟩|⟨hk,q2⟩
   ·rw[set_get (R.len▸hl2)] at e2;rw[List.getElem?_set_ne hj] at e1
    injection e2 with e2;injection e2 with e2;injection e2 with e2
    exact absurd (e2▸hp) (R.apart q o1 e1)
   ·rw[List.getElem?_set_ne hj] at e1;rw[List.getElem?_set_ne hk] at e2
    exact R.ap j k s t a q q2 o1 o2 e1 e2
def sSetK (i n:Nat)(fn:List D→Rs (List (List Nat×D)))(fs:Rho→Rs (List D)):Rho→Out:=fun ρ=>match fs ρ with
 | .ok ds=>if ds.length=n then(match fn ds with | .ok es=>.nx (ρ.set i (.od es)) | .ex k=>.ex k | .no=>.no) else .no
 | .ex k=>.ex k
 | .no=>.no
theorem xs_setK {X:Cx}{E:XK}{k n i:Nat}{f:Addr}{fd:FuncData}{ps:List Str}{fn:List D→Rs (List (List Nat×D))}{fs:Rho→Rs (List D)}{x y:Str}{p pos pos' cpos:Pos}{e:Expr}{es:List Expr}(hN:X.N.Nodup)(hi:X.N[i]? = some y)(hy:Loc X.env.scope y)(G:FnOk X.prog X.w X.K X.mg X.base (CX1 X.prog X.w) k f fd ps (spK X.K cl fn n))(hr:Room k X.A)(hg:Gl X x)(hm:X.mg x=some (.ref f))(hk:PySem.W.keepIn X.K (.ref f)=true)(hb:Binds X.K fd ps [])(hx:Passes (CX1 X.prog X.w) X E)
  (ha:XA X cl E (e::es) fs) (he:starEach (e::es) X.env=(false,eval e X.env)::starEach es X.env) (hs:swapsWith (.Call (.Name x p) (e::es) [] cpos) (some (.Name y pos')) pos.line X.env=pure false:=by rfl) (hf:X.fn y=true∨X.env.scope.names.lookup y=some .local:=by first|exact .inl rfl|exact .inr rfl|assumption) (hdb:(x == ("__debug__" : Str))=false:=by decide) (hpl:(backTo cpos (starEach es X.env)).any (·.1)=false:=by rfl) :
  XS X cl E (.Assign [.Name y pos'] (.Call (.Name x p) (e::es) [] cpos) pos) (sSetK i n fn fs):=by
 obtain⟨t,pt,rt⟩:=ha.ex
 refine XS'.out ⟨_,ps_set hN hi hy (pe_call G hr hg hm hk hb .nil hx pt hdb he hpl) hs hf,fun H0 F0 ρ σ H F Dn R o=>rt H0 F0 ρ σ H F _ R ?_⟩
 unfold sSetK at o
 cases e:fs ρ with
 | ok ds =>
  rw[e] at o
  dsimp only at o
  intro vs H1 F1 g q
  split at o
  ·rename_i hl
   have R1:=R.grow g
   rw[List.append_nil]
   refine⟨F1,ds,R1.fh,q,by rw[q.length,hl],?_⟩
   cases e2:fn ds with
   | ok es=>rw[e2] at o;exact fun c us H' F' g' h1 h2 h3 h4=>o _ _ F' (R1.ownD g' h1 h2 h3 h4) (g.ff.trans g'.ff)
   | ex k=>rw[e2] at o;exact fun H' s=>o H' (R1.gr.hh.trans s)
   | no=>rw[e2] at o;exact o.elim
  ·exact o.elim
 | ex n=>rw[e] at o;exact o
 | no=>rw[e] at o;exact o.elim
end
end L2
set_option maxHeartbeats 4000000
namespace Pg
open PySem L2 PyProof.Rows
def g_is_size:Rho→Out :=
  (sRet (fAnd (fA (ari 1 fn_is_number_of_letters) (aCons (fNm 0) aNil)) (fA (ari 3 fn_is_between) (aCons (fNm 1) (aCons (fNm 0) (aCons (fC (.int 32)) aNil))))))
def fn_is_size:List D→Rs D:=runD 2 g_is_size
def g_require_size:Rho→Out :=
  (sIf (bNot (bT (fA (ari 2 fn_is_size) (aCons (fNm 0) (aCons (fNm 1) aNil)))))
  (sRs 5 (aCons (fC (.str [116,104,105,115,32,105,115,32,110,111,32,115,105,122,101,32,102,114,111,109,32,97,115,32,109,97,110,121,32,97,115,32,116,104,101,114,101,32,97,114,101,32,108,101,116,116,101,114,115,44,32,50,32,116,111,32,52,44,32,116,111,32,51,50])) aNil))
  sNx)
def fn_require_size:List D→Rs D:=runD 2 g_require_size
def fl_shares_of:List D→Rs D:=runD 4
  (sSeq (sNewD 2)
  (sSeq (cutX (sFor 3 (fI lsD (fNm 1))
  (sPut 2 (fNm 3) (fA (ari 2 fn_share) (aCons (fNm 0) (aCons (fNm 3) aNil))))))
  (sIceD 2 (sRet (fNm 2)))))
def fk_shares_of:List D→Rs (List (List Nat×D)):=runK 4 2 (sNewD 2)
  (cutX (sFor 3 (fI tpD (fNm 1))
  (sPut 2 (fNm 3) (fA (ari 2 fn_share) (aCons (fNm 0) (aCons (fNm 3) aNil))))))
def g_most_partings:Rho→Out :=
  (sRet (f2 fdivI (f2 subI (fNm 1) (fC (.int 1))) (f2 subI (fNm 0) (fC (.int 1)))))
def fn_most_partings:List D→Rs D:=runD 2 g_most_partings
def g_best_book:Rho→Out :=
  (sSeq (sDrop (fA (ari 1 fn_require_source) (aCons (fNm 0) aNil)))
  (sSeq (sSet 2 (fO lenD (aCons (fNm 0) aNil)))
  (sSeq (sDrop (fA (ari 2 fn_require_size) (aCons (fNm 2) (aCons (fNm 1) aNil))))
  (sSeq (sSet 3 (fA (ari 1 fn_first_book) (aCons (fNm 2) aNil)))
  (sSeq (sSetK 4 2 fk_shares_of (aCons (fNm 0) (aCons (fNm 3) aNil)))
  (sSeq (cutX (sFor 5 (fR rng2 (aCons (fC (.int 1)) (aCons (fA (ari 2 fn_most_partings) (aCons (fNm 2) (aCons (fNm 1) aNil))) aNil)))
  (sSeq (sSet 6 (fFlD 4 (fA (ari 2 fn_first_greatest) (aCons (fNm 3) (aCons (fNm 4) aNil)))))
  (sSeq (sSet 3 (fA (ari 3 fn_parted) (aCons (fNm 2) (aCons (fNm 3) (aCons (fNm 6) aNil)))))
  (sUpd 4 (fA (ari 2 fl_shares_of) (aCons (fNm 0) (aCons (fA (ari 2 fn_gone_on) (aCons (fNm 2) (aCons (fO mkL (aCons (fNm 6) aNil)) aNil))) aNil))))))))
  (sRet (fNm 3))))))))
def fn_best_book:List D→Rs D:=runD 7 g_best_book
def g_greatest_mean:Rho→Out :=
  (sRet (fA (ari 2 fn_mean) (aCons (fNm 0) (aCons (fA (ari 2 fn_best_book) (aCons (fNm 0) (aCons (fNm 1) aNil))) aNil))))
def fn_greatest_mean:List D→Rs D:=runD 2 g_greatest_mean
def g_is_best:Rho→Out :=
  (sSeq (sSet 2 (fA (ari 2 fn_share) (aCons (fNm 0) (aCons (fA (ari 2 fn_greatest_piece) (aCons (fNm 0) (aCons (fNm 1) aNil))) aNil))))
  (sRet (fNot (fA (ari 2 fn_is_less) (aCons (fA (ari 2 fn_least_inner) (aCons (fNm 0) (aCons (fNm 1) aNil))) (aCons (fNm 2) aNil))))))
def fn_is_best:List D→Rs D:=runD 3 g_is_best
def g_better:Rho→Out :=
  (sSeq (sIf (bT (fA (ari 2 fn_is_best) (aCons (fNm 0) (aCons (fNm 1) aNil))))
  (sRet (fC .non))
  sNx)
  (sRet (fA (ari 2 fn_best_book) (aCons (fNm 0) (aCons (fO lenD (aCons (fNm 1) aNil)) aNil)))))
def fn_better:List D→Rs D:=runD 2 g_better
end Pg
set_option maxHeartbeats 1000000
namespace Pg
open PySem L2 My
theorem sum_split {α:Type}(p:α→Bool)(f:α→Int):∀l:List α,(l.map f).sum=((l.filter p).map f).sum+((l.filter fun x=>!p x).map f).sum
 | []=>rfl
 | x::l=>by
  have:=sum_split p f l
  cases h:p x
  ·rw[List.filter_cons_of_neg (by simp[h]),List.filter_cons_of_pos (by simp[h])];simp only[List.map_cons,List.sum_cons];omega
  ·rw[List.filter_cons_of_pos (by simp[h]),List.filter_cons_of_neg (by simp[h])];simp only[List.map_cons,List.sum_cons];omega
theorem sum_ge {α:Type}{f:α→Int}{k:Int}:∀{l:List α},(∀x∈l,k≤f x)→l.length*k≤(l.map f).sum
 | [],_=>by simp
 | x::l,h=>by
  have:=sum_ge (l:=l) fun y hy=>h y (.tail _ hy)
  have:=h x (.head _)
  rw[List.map_cons,List.sum_cons,List.length_cons,Int.natCast_add,Int.add_mul];simp;omega
theorem sum_at {α:Type}{f:α→Int}{k:Int}:∀{l:List α},(∀x∈l,f x≤k)→(l.map f).sum≤l.length*k
 | [],_=>by simp
 | x::l,h=>by
  have:=sum_at (l:=l) fun y hy=>h y (.tail _ hy)
  have:=h x (.head _)
  rw[List.map_cons,List.sum_cons,List.length_cons,Int.natCast_add,Int.add_mul];simp;omega
theorem most_of {α:Type}(f:α→Int):∀(l:List α),l≠[]→∃x∈l,∀y∈l,f y≤f x
 | [],h=>absurd rfl h
 | [x],_=>⟨x,.head _,fun y hy=>by rw[List.mem_singleton.mp hy];exact Int.le_refl _⟩
 | x :: z::l,_=>by
  obtain⟨a,ha,hm⟩:=most_of f (z::l) (by simp)
  by_cases c:f x≤f a
  ·exact ⟨a,.tail _ ha,fun y hy=>by
    rcases List.mem_cons.mp hy with rfl|hy
    ·exact c
    ·exact hm y hy⟩
  ·exact ⟨x,.head _,fun y hy=>by
    rcases List.mem_cons.mp hy with rfl|hy
    ·exact Int.le_refl _
    ·have:=hm y hy;omega⟩
theorem exch (f:List Nat→Int){I J:List (List Nat)}(nI:I.Nodup)(nJ:J.Nodup)(hl:I.length=J.length)(h:∀x∈J,∀p∈I,p∉J→f p≤f x):(I.map f).sum≤(J.map f).sum:=by
 rw[sum_split (fun x=>decide (x∈J)) f I,sum_split (fun x=>decide (x∈I)) f J]
 have pe:(I.filter fun x=>decide (x∈J)).Perm (J.filter fun x=>decide (x∈I)):=(List.perm_ext_iff_of_nodup (nI.filter _) (nJ.filter _)).mpr fun x=>by simp[List.mem_filter,and_comm]
 rw[perm_sum (pe.map f)]
 have l1:=filter_two (fun x=>decide (x∈J)) I
 have l2:=filter_two (fun x=>decide (x∈I)) J
 have l3:=pe.length_eq
 have hl2:(I.filter fun x=>!decide (x∈J)).length=(J.filter fun x=>!decide (x∈I)).length:=by omega
 by_cases hz:(I.filter fun x=>!decide (x∈J))=[]
 ·rw[hz] at hl2 ⊢
  rw[List.length_eq_zero_iff.mp hl2.symm];exact Int.le_refl _
 ·obtain⟨a,ha,hm⟩:=most_of f _ hz
  have s1:=sum_at (k:=f a) hm
  have ha':=List.mem_filter.mp ha
  have s2:((J.filter fun x=>!decide (x∈I)).length:Int)*f a≤_:=sum_ge (f:=f) (k:=f a) fun y hy=>h y (List.mem_filter.mp hy).1 a ha'.1 (by simpa using ha'.2)
  rw[hl2] at s1;omega
def Best (ws:List Int)(B:List (List Nat)):Prop:=∀x,Inner B x→∀p∈B,wU ws p≤wU ws x
theorem wU_pre {ws:List Int}(h:SrcOk ws){q p:List Nat}(hp:LetOk ws.length p)(h31:p.length≤31)(e:q <+: p):wU ws p≤wU ws q:=by
 obtain⟨r,rfl⟩:=e
 have hq:LetOk ws.length q:=hp.pre ⟨r,rfl⟩
 have hr:LetOk ws.length r:=fun c hc=>hp c (List.mem_append.mpr (.inr hc))
 have W:=W_range h
 have u1:=up_pos h hq
 have u2:=up_W h hr
 rw[List.length_append] at h31
 unfold wU
 rw[up_app,List.length_append,Int.mul_assoc]
 refine Int.mul_le_mul_of_nonneg_left ?_ (by omega)
 have e:31 - q.length=r.length+(31 - (q.length+r.length)):=by omega
 rw[e,Int.pow_add]
 exact Int.mul_le_mul_of_nonneg_right u2 (Int.le_of_lt (Int.pow_pos (by omega)))
theorem Book.cover {m:Nat}{B:List (List Nat)}(h:Book m B){p:List Nat}(hp:LetOk m p)(hn:¬Inner B p):∃q∈B,q <+: p:=by
 obtain⟨q,hq,e|e⟩:=h.cv p hp
 ·exact⟨q,hq,e⟩
 ·by_cases z:p=q
  ·exact⟨q,hq,z▸List.prefix_refl _⟩
  ·exact absurd ⟨q,hq,e,z⟩ hn
theorem Best.top {ws:List Int}(h:SrcOk ws){B:List (List Nat)}(hb:Book ws.length B)(b:Best ws B):∀x∈innerKeys B,∀p,LetOk ws.length p→p.length≤31→p∉innerKeys B→wU ws p≤wU ws x:=fun x hx p hp h31 hn=>by
 obtain⟨q,hq,e⟩:=Book.cover hb hp fun z=>hn (innerKeys_mem.mpr z)
 exact Int.le_trans (wU_pre h hp h31 e) (b x (innerKeys_mem.mp hx) q hq)
theorem inner_ok {m t:Nat}(m2:2≤m)(m4:m≤4){B:List (List Nat)}(g:My.Gr m t B)(ht:t≤30){x:List Nat}(hx:x∈innerKeys B):LetOk m x∧x.length≤31:=by
 obtain⟨q,hq,e,_⟩:=innerKeys_mem.mp hx
 exact⟨((g.book m2 m4).let_ q hq).pre e,by have:=g.short m2 m4 q hq;have:=e.length_le;omega⟩
section
variable {ws:List Int}(h:SrcOk ws)
include h
theorem best_le {t:Nat}(ht:t≤30){B C:List (List Nat)}(g:My.Gr ws.length t B)(k:My.Gr ws.length t C)(b:Best ws C):SG ws lenI B≤SG ws lenI C:=by
 rw[← gr_inner h g ht,← gr_inner h k ht]
 refine exch (wU ws) (innerKeys_nd _) (innerKeys_nd _) (by rw[g.keysEq h.1 h.2.1,k.keysEq h.1 h.2.1]) fun x hx p hp hn=>?_
 obtain⟨a1,a2⟩:=inner_ok h.1 h.2.1 g ht hp
 exact b.top h (k.book h.1 h.2.1) x hx p a1 a2 hn
theorem best_eq {t:Nat}(ht:t≤30){B C:List (List Nat)}(g:My.Gr ws.length t B)(k:My.Gr ws.length t C)(b:Best ws B)(c:Best ws C):SG ws lenI B=SG ws lenI C :=
 Int.le_antisymm (best_le h ht g k c) (best_le h ht k g b)
theorem best_lt {t:Nat}(ht:t≤30){B C:List (List Nat)}(g:My.Gr ws.length t B)(k:My.Gr ws.length t C)(nb:¬Best ws B)(c:Best ws C):SG ws lenI B<SG ws lenI C:=by
 have hb:=g.book h.1 h.2.1
 have hk:=k.book h.1 h.2.1
 obtain ⟨x,hx,p,hp,lt⟩:∃x,Inner B x∧∃p∈B,wU ws x<wU ws p:=by
  refine Classical.byContradiction fun z=>nb fun x hx p hp=>?_
  exact Int.not_lt.mp fun q=>z ⟨x,hx,p,hp,q⟩
 have hx':=innerKeys_mem.mpr hx
 have hpn:p∉innerKeys B:=fun z=>by
  obtain⟨q,hq,e1,e2⟩:=innerKeys_mem.mp z
  exact e2 (hb.pf p hp q hq e1)
 rw[← gr_inner h g ht,← gr_inner h k ht]
 have pe:=(List.perm_cons_erase hx').map (wU ws)
 have s1:=perm_sum pe
 rw[List.map_cons,List.sum_cons] at s1
 have s2:=exch (wU ws) (I:=p::(innerKeys B).erase x) (J:=innerKeys C) (List.nodup_cons.mpr ⟨fun z=>hpn (List.mem_of_mem_erase z),(innerKeys_nd B).erase x⟩) (innerKeys_nd _) (by
  have:=List.length_erase_of_mem hx'
  have:=g.keysEq h.1 h.2.1
  have:=k.keysEq h.1 h.2.1
  rw [List.length_cons];omega) fun y hy q hq hn=>by
   have ok:LetOk ws.length q∧q.length≤31:=by
    rcases List.mem_cons.mp hq with rfl|hq
    ·exact⟨hb.let_ q hp,by have:=g.short h.1 h.2.1 q hp;omega⟩
    ·exact inner_ok h.1 h.2.1 g ht (List.mem_of_mem_erase hq)
   exact c.top h hk y hy q ok.1 ok.2 hn
 rw[List.map_cons,List.sum_cons] at s2
 omega
end
def gpB (ws:List Int)(B:List (List Nat)):List Nat:=gpF ws B (B.getD 0 [])
def bestF (ws:List Int):Nat→List (List Nat)
 | 0=>kids ws.length []
 | k+1=>part ws.length (bestF ws k) ((bestF ws k).idxOf (gpB ws (bestF ws k)))
theorem gpB_mem {ws:List Int}{B:List (List Nat)}(h:B≠[]):gpB ws B∈B:=by
 rcases(gpF_spec ws B (B.getD 0 [])).2.2 with e|e
 ·unfold gpB;rw[e];exact getD_mem (List.length_pos_iff.mpr h)
 ·exact e
theorem gpB_max {ws:List Int}{B:List (List Nat)}{p:List Nat}(hp:p∈B):wU ws p≤wU ws (gpB ws B):=(gpF_spec ws B (B.getD 0 [])).2.1 p hp
theorem bestF_ne (ws:List Int)(h:SrcOk ws){k:Nat}(g:My.Gr ws.length k (bestF ws k)):bestF ws k≠[]:=fun z=>by
 have:=g.len h.1 h.2.1
 rw[z] at this
 have:=h.1
 simp at *
 omega
theorem bestF_gr {ws:List Int}(h:SrcOk ws):∀k,My.Gr ws.length k (bestF ws k)
 | 0=>.z
 | k+1=>.s (bestF_gr h k) (List.idxOf_lt_length_iff.mpr (gpB_mem (bestF_ne ws h (bestF_gr h k))))
theorem getD_idx {B:List (List Nat)}{p:List Nat}(hp:p∈B):B.getD (B.idxOf p) []=p:=by
 rw[List.getD_eq_getElem?_getD,List.getElem?_eq_getElem (List.idxOf_lt_length_iff.mpr hp)]
 exact List.getElem_idxOf (List.idxOf_lt_length_iff.mpr hp)
theorem bestF_best {ws:List Int}(h:SrcOk ws):∀k,k≤30→Best ws (bestF ws k)
 | 0,_=>fun x hx p hp=>by
  have:=(kids_inner h.1 h.2.1 x).mp hx
  subst this
  have g:=bestF_gr h 0
  exact wU_pre h ((g.book h.1 h.2.1).let_ p hp) (by have:=g.short h.1 h.2.1 p hp;omega) List.nil_prefix
 | k + 1,hk=>fun x hx p hp=>by
  have g:=bestF_gr h k
  have hb:=g.book h.1 h.2.1
  have g1:=bestF_gr h (k+1)
  have gm:gpB ws (bestF ws k)∈bestF ws k:=gpB_mem (bestF_ne ws h g)
  have hx2:=((hb.partAt gm).2 x).mp hx
  have hp2:=(part_mem hb.nd (List.idxOf_lt_length_iff.mpr gm)).mp hp
  rw[getD_idx gm] at hp2
  have up:wU ws p≤wU ws (gpB ws (bestF ws k)):=by
   rcases hp2 with z|z
   ·exact gpB_max z.1
   ·obtain⟨c,_,e⟩:=kids_mem.mp z
    exact wU_pre h ((g1.book h.1 h.2.1).let_ p hp) (by have:=g1.short h.1 h.2.1 p hp;omega) ⟨[c],e.symm⟩
  rcases hx2 with z|z
  ·exact Int.le_trans up (bestF_best h k (by omega) x z _ gm)
  ·rw[z];exact up
theorem bestF_mono {ws:List Int}(h:SrcOk ws){k:Nat}(hk:k+1≤30):SG ws lenI (bestF ws k)≤SG ws lenI (bestF ws (k+1)):=by
 have g:=bestF_gr h k
 have hb:=g.book h.1 h.2.1
 have gm:gpB ws (bestF ws k)∈bestF ws k:=gpB_mem (bestF_ne ws h g)
 show _≤SG ws lenI (part ws.length (bestF ws k) ((bestF ws k).idxOf (gpB ws (bestF ws k))))
 have e:=getD_idx gm
 rw[SG_part h lenI (List.idxOf_lt_length_iff.mpr gm) (by rw[e];have:=g.short h.1 h.2.1 _ gm;omega),e]
 have:=wU_pos h (hb.let_ _ gm)
 have:(lenI ((gpB ws (bestF ws k)).length+1) - lenI (gpB ws (bestF ws k)).length)=1:=by unfold lenI;omega
 rw[this];omega
def rn (m:Nat)(x:List Nat):List Nat:=x.map fun c=>193+m - c
theorem rn_let {m:Nat}{x:List Nat}(h:LetOk m x):LetOk m (rn m x):=fun c hc=>by
 obtain⟨d,hd,rfl⟩:=List.mem_map.mp hc
 have:=h d hd
 omega
theorem rn_rn {m:Nat}{x:List Nat}(h:LetOk m x):rn m (rn m x)=x:=by
 unfold rn
 rw[List.map_map]
 refine(List.map_congr_left fun c hc=>?_).trans (List.map_id x)
 have:=h c hc
 show 193+m - (193+m - c)=c
 omega
theorem rn_len (m:Nat)(x:List Nat):(rn m x).length=x.length:=List.length_map _
theorem src_rev {ws:List Int}(h:SrcOk ws):SrcOk ws.reverse:=⟨by rw[List.length_reverse];exact h.1,by rw[List.length_reverse];exact h.2.1,fun w hw=>h.2.2 w (List.mem_reverse.mp hw)⟩
theorem sum_rev (ws:List Int):ws.reverse.sum=ws.sum:=perm_sum (List.reverse_perm ws)
theorem wt_rev {ws:List Int}{c:Nat}(hc:97≤c∧c<97+ws.length):wt ws (193+ws.length - c)=wt ws.reverse c:=by
 unfold wt
 rw[List.getD_eq_getElem?_getD,List.getD_eq_getElem?_getD,List.getElem?_reverse (by omega)]
 have:193+ws.length - c - 97=ws.length - 1 - (c - 97):=by omega
 rw[this]
theorem up_rn {ws:List Int}:∀{x:List Nat},LetOk ws.length x→up ws (rn ws.length x)=up ws.reverse x
 | [],_=>rfl
 | c::x,h=>by
  show wt ws (193+ws.length - c)*up ws (rn ws.length x)=wt ws.reverse c*up ws.reverse x
  rw[wt_rev (h c (.head _)),up_rn fun d hd=>h d (.tail _ hd)]
theorem wU_rn {ws:List Int}{x:List Nat}(h:LetOk ws.length x):wU ws (rn ws.length x)=wU ws.reverse x:=by
 unfold wU
 rw[up_rn h,rn_len,sum_rev]
theorem rev_mean {ws:List Int}(h:SrcOk ws){t:Nat}(ht:t≤30):SG ws.reverse lenI (bestF ws.reverse t)=SG ws lenI (bestF ws t):=by
 have hr:=src_rev h
 have g:=bestF_gr h t
 have k:=bestF_gr hr t
 have el:ws.reverse.length=ws.length:=List.length_reverse
 rw[← gr_inner h g ht,← gr_inner hr k ht]
 have okJ:=fun(x:List Nat) (hx:x∈innerKeys (bestF ws t))=>inner_ok h.1 h.2.1 g ht hx
 have okK:∀x∈innerKeys (bestF ws.reverse t),LetOk ws.length x∧x.length≤31:=fun x hx=>by
  have:=inner_ok hr.1 hr.2.1 k ht hx
  rw[el] at this
  exact this
 have eK:((innerKeys (bestF ws.reverse t)).map (wU ws.reverse)).sum=(((innerKeys (bestF ws.reverse t)).map (rn ws.length)).map (wU ws)).sum:=by
  rw[List.map_map]
  exact congrArg List.sum (List.map_congr_left fun x hx=>(wU_rn (okK x hx).1).symm)
 have nd:((innerKeys (bestF ws.reverse t)).map (rn ws.length)).Nodup:=by
  rw[List.nodup_iff_pairwise_ne,List.pairwise_map]
  refine List.Pairwise.imp_of_mem ?_ (innerKeys_nd (bestF ws.reverse t))
  intro a b ha hb n e
  have:=congrArg (rn ws.length) e
  rw[rn_rn (okK a ha).1,rn_rn (okK b hb).1] at this
  exact n this
 have ln:((innerKeys (bestF ws.reverse t)).map (rn ws.length)).length=(innerKeys (bestF ws t)).length:=by
  rw[List.length_map,g.keysEq h.1 h.2.1,k.keysEq hr.1 hr.2.1]
 rw[eK]
 refine Int.le_antisymm (exch (wU ws) nd (innerKeys_nd _) ln fun x hx p hp hn=>?_) (exch (wU ws) (innerKeys_nd _) nd ln.symm fun x hx p hp hn=>?_)
 ·obtain⟨y,hy,rfl⟩:=List.mem_map.mp hp
  obtain⟨a1,a2⟩:=okK y hy
  exact(bestF_best h t ht).top h (g.book h.1 h.2.1) x hx _ (rn_let a1) (by rw[rn_len];exact a2) hn
 ·obtain⟨y,hy,rfl⟩:=List.mem_map.mp hx
  obtain⟨a1,a2⟩:=okJ p hp
  rw[wU_rn (okK y hy).1]
  have e:=wU_rn (rn_let a1)
  rw[rn_rn a1] at e
  rw[e]
  refine(bestF_best hr t ht).top hr (k.book hr.1 hr.2.1) y hy _ (by rw[el];exact rn_let a1) (by rw[rn_len];exact a2) fun z=>hn ?_
  exact List.mem_map.mpr ⟨_,z,rn_rn a1⟩
end Pg
namespace Pg
open PySem L2 My
theorem t_le {m t:Nat}(m2:2≤m)(hl:m+t*(m - 1)≤32):t≤30:=by
 have:t*1≤t*(m - 1):=Nat.mul_le_mul_left t (by omega)
 omega
theorem pcs_of {m t:Nat}(m2:2≤m)(m4:m≤4){B:List (List Nat)}(g:My.Gr m t B)(hl:m+t*(m - 1)≤32):Pcs m B:=by
 have hb:=g.book m2 m4
 have ln:=g.len m2 m4
 have ht:=t_le m2 hl
 refine⟨m2,m4,fun z=>?_,by omega,fun p hp=>⟨hb.let_ p hp,hb.ne p hp,by have:=g.short m2 m4 p hp;omega⟩⟩
 rw[z] at ln
 simp at ln
 omega
theorem put_sh (ws:List Int)(L:List (List Nat))(p:List Nat):putD (shD ws L) p (frD (qF ws (wU ws p)))=shD ws (addK L p):=by
 unfold putD addK
 by_cases c:p∈L
 ·have:((shD ws L).any fun kv=>decide (kv.1=p))=true:=List.any_eq_true.mpr ⟨_,List.mem_map.mpr ⟨p,c,rfl⟩,by simp⟩
  rw[if_pos this,if_pos c]
  refine(List.map_congr_left fun kv hkv=>?_).trans (List.map_id _)
  obtain⟨x,hx,rfl⟩:=List.mem_map.mp hkv
  dsimp only
  split
  ·rename_i e;rw[e];rfl
  ·rfl
 ·have:((shD ws L).any fun kv=>decide (kv.1=p))=false:=by
   rw[List.any_eq_false]
   intro kv hkv z
   obtain⟨x,hx,rfl⟩:=List.mem_map.mp hkv
   exact c (of_decide_eq_true z▸hx)
  rw[this,if_neg (by decide),if_neg c]
  unfold shD
  rw[List.map_append];rfl
theorem sh_loop {ws:List Int}(h:SrcOk ws){d:D}:∀(K L:List (List Nat)) (s:Sl),(∀p∈K,LetOk ws.length p∧p.length≤31)→L.length+K.length≤1000→∃s',forD 3 (sPut 2 (fNm 3) (fA (ari 2 fn_share) (aCons (fNm 0) (aCons (fNm 3) aNil)))) (sT K) [.fz (.tup (sI ws)),.fz d,.od (shD ws L),s]=.nx [.fz (.tup (sI ws)),.fz d,.od (shD ws (K.foldl addK L)),s']
 | [],L,s,_,_=>⟨s,rfl⟩
 | p::K,L,s,hK,hl=>by
  obtain⟨p1,p2⟩:=hK p (.head _)
  have hlen:=addK_len L p
  rw[List.length_cons] at hl
  obtain⟨s',e⟩:=sh_loop h (d:=d) K (addK L p) (.fz (.str p)) (fun q hq=>hK q (.tail _ hq)) (by omega)
  refine⟨s',(forD_nx (ρ':=[.fz (.tup (sI ws)),.fz d,.od (shD ws (addK L p)),.fz (.str p)]) ?_).trans e⟩
  have:=sPut_ok (i:=2) (ρ:=[.fz (.tup (sI ws)),.fz d,.od (shD ws L),.fz (.str p)]) (fk:=fNm 3) (fv:=fA (ari 2 fn_share) (aCons (fNm 0) (aCons (fNm 3) aNil))) (v:=frD (qF ws (wU ws p))) (k:=p) rfl (((fA2 (a:=.tup (sI ws)) (b:=.str p) rfl rfl).trans (share_eq h p1 (by omega))).trans (by rw[shr_q h p2])) rfl (by unfold shD;rw[List.length_map];omega)
  rw[put_sh] at this
  exact this
theorem fk_eq {ws:List Int}(h:SrcOk ws){B:List (List Nat)}(hB:∀p∈B,LetOk ws.length p∧p.length≤31)(hl:B.length≤100):fk_shares_of [.tup (sI ws),.tup (sT B)]=.ok (shD ws (B.foldl addK [])):=by
 obtain⟨s',e⟩:=sh_loop h (d:=.tup (sT B)) B [] .no hB (by simp;omega)
 have k:sSeq (sNewD 2) (cutX (sFor 3 (fI tpD (fNm 1)) (sPut 2 (fNm 3) (fA (ari 2 fn_share) (aCons (fNm 0) (aCons (fNm 3) aNil)))))) ([.tup (sI ws),.tup (sT B)].map .fz++List.replicate (4 - [D.tup (sI ws),D.tup (sT B)].length) .no)=.nx [.fz (.tup (sI ws)),.fz (.tup (sT B)),.od (shD ws (B.foldl addK [])),s'] :=
  (sSeq_nx (ρ':=[.fz (.tup (sI ws)),.fz (.tup (sT B)),.od [],.no]) rfl).trans (cutX_nx ((sFor_ok (ds:=sT B) rfl).trans e))
 unfold fk_shares_of runK
 rw[k];rfl
theorem fl_eq {ws:List Int}(h:SrcOk ws){B:List (List Nat)}(hB:∀p∈B,LetOk ws.length p∧p.length≤31)(hl:B.length≤100):fl_shares_of [.tup (sI ws),.lst (sT B)]=.ok (.dct (shD ws (B.foldl addK []))):=by
 obtain⟨s',e⟩:=sh_loop h (d:=.lst (sT B)) B [] .no hB (by simp;omega)
 exact runD_rt ((sSeq_nx (ρ':=[.fz (.tup (sI ws)),.fz (.lst (sT B)),.od [],.no]) rfl).trans ((sSeq_nx (cutX_nx ((sFor_ok (ds:=sT B) rfl).trans e))).trans rfl))
theorem upd_sh (ws:List Int):∀(K L:List (List Nat)),updD (shD ws L) (shD ws K)=shD ws (K.foldl addK L)
 | [],L=>rfl
 | p::K,L=>by
  show updD (putD (shD ws L) p (frD (qF ws (wU ws p)))) (shD ws K)=_
  rw[put_sh]
  exact upd_sh ws K (addK L p)
theorem first_greatest_eq {ws:List Int}(h:SrcOk ws){B L:List (List Nat)}(hl:∀p∈B,LetOk ws.length p∧p.length≤31)(h0:0<B.length)(hL:∀p∈B,p∈L):fn_first_greatest [.tup (sT B),.dct (shD ws L)]=.ok (.str (gpB ws B)):=by
 have E:=W8_le h
 have w:(2:Int) ^ 280<2 ^ 400:=by decide +kernel
 have key:∀(K:List (List Nat)) (f:List Nat) (s:Sl),(∀x∈K,x∈B)→f∈B→∃s1,forD 3 (sIf (bT (fA (ari 2 fn_is_less) (aCons (f2 getD (fNm 1) (fNm 2)) (aCons (f2 getD (fNm 1) (fNm 3)) aNil)))) (sSet 2 (fNm 3)) sNx) (sT K) [.fz (.tup (sT B)),.fz (.dct (shD ws L)),.fz (.str f),s]=.nx [.fz (.tup (sT B)),.fz (.dct (shD ws L)),.fz (.str (gpF ws K f)),s1]:=by
  intro K
  induction K with
  | nil=>intro f s _ _;exact⟨s,rfl⟩
  | cons x K ih =>
   intro f s hK hf
   have hx:=hK x (.head _)
   have x0:=wU_pos h (hl x hx).1
   have x1:=wU_le h (hl x hx).1 (hl x hx).2
   have f0:=wU_pos h (hl f hf).1
   have f1:=wU_le h (hl f hf).1 (hl f hf).2
   have e2:bT (fA (ari 2 fn_is_less) (aCons (f2 getD (fNm 1) (fNm 2)) (aCons (f2 getD (fNm 1) (fNm 3)) aNil))) [.fz (.tup (sT B)),.fz (.dct (shD ws L)),.fz (.str f),.fz (.str x)]=.ok (decide (wU ws f<wU ws x)):=bT_ok (((fA2 (a:=frD (qF ws (wU ws f))) (b:=frD (qF ws (wU ws x))) (f2_ok (a:=.dct (shD ws L)) (b:=.str f) rfl rfl (get_shD (hL f hf))) (f2_ok (a:=.dct (shD ws L)) (b:=.str x) rfl rfl (get_shD (hL x hx)))).trans (is_less_eq (q_fra h (by omega) (by omega)) (q_fra h (by omega) (by omega)))).trans (by rw[less_q h]))
   by_cases c:wU ws f<wU ws x
   ·rw[decide_eq_true c] at e2
    obtain⟨s1,k⟩:=ih x (.fz (.str x)) (fun y hy=>hK y (.tail _ hy)) hx
    refine⟨s1,?_⟩
    have:gpF ws (x::K) f=gpF ws K x:=by show gpF ws K (if wU ws f<wU ws x then x else f)=_;rw[if_pos c]
    rw[this]
    exact(forD_nx ((sIf_t e2).trans (sSet_ok (d:=.str x) rfl))).trans k
   ·rw[decide_eq_false c] at e2
    obtain⟨s1,k⟩:=ih f (.fz (.str x)) (fun y hy=>hK y (.tail _ hy)) hf
    refine⟨s1,?_⟩
    have:gpF ws (x::K) f=gpF ws K f:=by show gpF ws K (if wU ws f<wU ws x then x else f)=_;rw[if_neg c]
    rw[this]
    exact(forD_nx ((sIf_f e2).trans rfl)).trans k
 obtain⟨s1,k⟩:=key B (B.getD 0 []) .no (fun x hx=>hx) (getD_mem h0)
 refine runD_rt ((sSeq_nx (sSet_ok (d:=.str (B.getD 0 [])) (f2_ok (a:=.tup (sT B)) (b:=.int 0) rfl rfl ?_))).trans ((sSeq_nx (cutX_nx ((sFor_ok (ds:=sT B) rfl).trans k))).trans rfl))
 exact at_sT h0
theorem fFlD_ok {i:Nat}{f:Rho→Rs D}{ρ:Rho}{ds:List (List Nat×D)}{d:D}(e:odL ρ i=some ds)(e1:f (ρ.set i (.fz (.dct ds)))=.ok d)(hf:d.fl=true):fFlD i f ρ=.ok d:=by
 unfold fFlD
 rw[e]
 simp only[e1,hf,if_true]
theorem sUpd_ok {i:Nat}{f:Rho→Rs D}{ρ:Rho}{ds es:List (List Nat×D)}(e:odL ρ i=some ds)(e1:f ρ=.ok (.dct es))(hl:ds.length+es.length≤1000000):sUpd i f ρ=.nx (ρ.set i (.od (updD ds es))):=by
 unfold sUpd
 rw[e,e1]
 exact if_pos hl
theorem sSetK_ok {i n:Nat}{fn:List D→Rs (List (List Nat×D))}{fs:Rho→Rs (List D)}{ρ:Rho}{ds:List D}{es:List (List Nat×D)}(e:fs ρ=.ok ds)(hl:ds.length=n)(e2:fn ds=.ok es):sSetK i n fn fs ρ=.nx (ρ.set i (.od es)):=by
 unfold sSetK
 rw[e]
 show(if ds.length=n then _ else _)=_
 rw[if_pos hl,e2]
theorem first_book_eq {m:Nat}:fn_first_book [.int m]=.ok (.tup (sT (kids m []))):=by
 have e0:=gone_on_eq (m:=m) [[]] (by simp) (by simp)
 have e:fn_even_book [.int m,.int 1]=.ok (.tup (sT (kids m []))):=by
  refine runD_rt ((sSeq_nx (ρ':=[.fz (.int m),.fz (.int 1),.fz (.lst (sT [[]])),.no]) (sSet_ok rfl)).trans ?_)
  refine(sSeq_nx (ρ':=[.fz (.int m),.fz (.int 1),.fz (.lst (sT (kids m []))),.fz (.int 0)]) (cutX_nx ((sFor_ok (ds:=[.int 0]) (fR_ok (ds:=[.int ((1:Nat):Int)]) rfl (rng1_nat (n:=1) (by decide)))).trans ?_))).trans (sRet_ok rfl)
  refine(forD_nx (ρ':=[.fz (.int m),.fz (.int 1),.fz (.lst (sT (kids m []))),.fz (.int 0)]) (sSet_ok (cA2 (a:=.int m) (b:=.lst (sT [[]])) rfl rfl (e0.trans (by rw[goneOn_one]))))).trans rfl
 exact runD_rt (sRet_ok (cA2 (a:=.int m) (b:=.int 1) rfl rfl e))
theorem require_size_eq {m s:Nat}(m2:2≤m)(m4:m≤4)(h1:m≤s)(h2:s≤32):fn_require_size [.int m,.int s]=.ok .non:=by
 have e1:fn_is_size [.int m,.int s]=.ok (.bl true):=runD_rt (sRet_ok (fAnd_t (cA1 (a:=.int m) rfl ((is_number_eq m).trans (by rw[decide_eq_true (by omega),decide_eq_true (by omega)];rfl))) (cA3 (a:=.int s) (b:=.int m) (c:=.int 32) rfl rfl rfl ((is_between_int s m 32).trans (by rw[decide_eq_true (by omega),decide_eq_true (by omega)];rfl)))))
 exact runD_nx ((sIf_f (bNot_ok (b:=true) (bT_ok (cA2 (a:=.int m) (b:=.int s) rfl rfl e1)))).trans rfl)
theorem parts_eq {m s:Nat}(m2:2≤m)(h1:m≤s)(hs:m≤4):fn_most_partings [.int m,.int s]=.ok (.int (((s - 1) / (m - 1):Nat):Int)):=by
 refine runD_rt (sRet_ok ((fdivI_ok (i:=(s:Int) - 1) (j:=(m:Int) - 1) (subI_ok (i:=s) (j:=1) rfl rfl) (subI_ok (i:=m) (j:=1) rfl rfl) (by omega) (sm_of (by omega))).trans ?_))
 rw[Int.natCast_ediv]
 have a:((s - 1:Nat):Int)=(s:Int) - 1:=by omega
 have b:((m - 1:Nat):Int)=(m:Int) - 1:=by omega
 rw[a,b]
theorem rng2_one {n:Nat}(h:n≤1000):rng2 [.int 1,.int ((n+1:Nat):Int)]=some ((List.range n).map fun(k:Nat)=>.int (1+(k:Int))):=by
 have h1:-(2 ^ 62)≤(1:Int)∧(1:Int)<2 ^ 62∧-(2 ^ 62)≤((n+1:Nat):Int)∧((n+1:Nat):Int)<2 ^ 62:=by omega
 dsimp only [rng2]
 rw[if_pos h1,show(((n+1:Nat):Int) - 1).toNat=n from by omega]
theorem len_sI {f:Rho→Rs D}{ρ:Rho}{ws:List Int}(e:f ρ=.ok (.tup (sI ws))):fO lenD (aCons f aNil) ρ=.ok (.int (ws.length:Int)):=fO_ok (aCons_ok e rfl) (by show some (D.int ((sI ws).length:Int))=_;unfold sI;rw[List.length_map])
theorem best_book_eq {ws:List Int}(h:SrcOk ws){s k:Nat}(hs:ws.length≤s)(h32:s≤32)(hk:(s - 1) / (ws.length - 1)=k+1):fn_best_book [.tup (sI ws),.int s]=.ok (.tup (sT (bestF ws k))):=by
 have m2:=h.1
 have m4:=h.2.1
 have hsz:ws.length+k*(ws.length - 1)≤32:=by
  have:=Nat.div_mul_le_self (s - 1) (ws.length - 1)
  rw[hk,Nat.add_mul] at this
  omega
 have hk30:=t_le m2 hsz
 have okB:∀j≤k,Pcs ws.length (bestF ws j):=fun j hj=>pcs_of m2 m4 (bestF_gr h j) (by
  have:j*(ws.length - 1)≤k*(ws.length - 1):=Nat.mul_le_mul_right _ hj
  omega)
 have step:=forD_inv (i:=5) (g:=sSeq (sSet 6 (fFlD 4 (fA (ari 2 fn_first_greatest) (aCons (fNm 3) (aCons (fNm 4) aNil)))))
  (sSeq (sSet 3 (fA (ari 3 fn_parted) (aCons (fNm 2) (aCons (fNm 3) (aCons (fNm 6) aNil)))))
  (sUpd 4 (fA (ari 2 fl_shares_of) (aCons (fNm 0) (aCons (fA (ari 2 fn_gone_on) (aCons (fNm 2) (aCons (fO mkL (aCons (fNm 6) aNil)) aNil))) aNil)))))) (l:=List.range k) (enc:=fun(k:Nat)=>D.int (1+(k:Int)))
  (ρ:=[.fz (.tup (sI ws)),.fz (.int s),.fz (.int ws.length),.fz (.tup (sT (kids ws.length []))),.od (shD ws ((kids ws.length []).foldl addK [])),.no,.no])
  (fun j ρ=>∃L s5 s6,L.Nodup∧(∀p∈bestF ws j,p∈L)∧L.length≤4+4*j∧ρ=[.fz (.tup (sI ws)),.fz (.int s),.fz (.int ws.length),.fz (.tup (sT (bestF ws j))),.od (shD ws L),s5,s6])
  (by
   obtain⟨a1,a2⟩:=foldl_addK (kids ws.length []) [] List.nodup_nil
   refine⟨_,.no,.no,a1,fun p hp=>(a2 p).mpr (.inr hp),?_,rfl⟩
   have:=fold_addK_len (kids ws.length []) []
   rw[kids_len _ m4] at this
   simp at this
   omega)
  (fun j c ρ hc ⟨L,s5,s6,nd,hL,hl,e⟩=>by
   subst e
   have hj:j<k:=by have:=(List.getElem?_eq_some_iff.mp hc).1;simpa using this
   have g:=bestF_gr h j
   have g1:=bestF_gr h (j+1)
   have pc:=okB j (by omega)
   have pc1:=okB (j+1) (by omega)
   have hb:=g.book m2 m4
   have gm:gpB ws (bestF ws j)∈bestF ws j:=gpB_mem (bestF_ne ws h g)
   have hlB:∀p∈bestF ws j,LetOk ws.length p∧p.length≤31:=fun p hp=>⟨(pc.2.2.2.2 p hp).1,(pc.2.2.2.2 p hp).2.2⟩
   have hkid:∀p∈kids ws.length (gpB ws (bestF ws j)),p∈bestF ws (j+1):=fun p hp=>(part_mem hb.nd (List.idxOf_lt_length_iff.mpr gm)).mpr (.inr (by rw[getD_idx gm];exact hp))
   have hlK:∀p∈kids ws.length (gpB ws (bestF ws j)),LetOk ws.length p∧p.length≤31:=fun p hp=>⟨(pc1.2.2.2.2 p (hkid p hp)).1,(pc1.2.2.2.2 p (hkid p hp)).2.2⟩
   have kl:=kids_len ws.length m4 (gpB ws (bestF ws j))
   have e6:=first_greatest_eq h hlB (List.length_pos_iff.mpr (bestF_ne ws h g)) hL
   have e3:=parted_eq pc hb gm
   have eg:=gone_on_eq (m:=ws.length) [gpB ws (bestF ws j)] (fun x hx=>by rw[List.mem_singleton.mp hx];have:=(hlB _ gm).2;omega) (by simp)
   rw[goneOn_one] at eg
   have el:=fl_eq h hlK (by omega)
   obtain⟨b1,b2⟩:=foldl_addK (kids ws.length (gpB ws (bestF ws j))) [] List.nodup_nil
   obtain⟨c1,c2⟩:=foldl_addK ((kids ws.length (gpB ws (bestF ws j))).foldl addK []) L nd
   have l1:=fold_addK_len (kids ws.length (gpB ws (bestF ws j))) []
   have l2:=fold_addK_len ((kids ws.length (gpB ws (bestF ws j))).foldl addK []) L
   simp only[List.length_nil] at l1
   refine ⟨_,(sSeq_nx (ρ':=[.fz (.tup (sI ws)),.fz (.int s),.fz (.int ws.length),.fz (.tup (sT (bestF ws j))),.od (shD ws L),.fz (.int (1+(c:Int))),.fz (.str (gpB ws (bestF ws j)))]) (sSet_ok (d:=.str (gpB ws (bestF ws j))) (fFlD_ok (ds:=shD ws L) rfl (cA2 (a:=.tup (sT (bestF ws j))) (b:=.dct (shD ws L)) rfl rfl e6) rfl))).trans
    ((sSeq_nx (ρ':=[.fz (.tup (sI ws)),.fz (.int s),.fz (.int ws.length),.fz (.tup (sT (bestF ws (j+1)))),.od (shD ws L),.fz (.int (1+(c:Int))),.fz (.str (gpB ws (bestF ws j)))]) (sSet_ok (d:=.tup (sT (bestF ws (j+1)))) (cA3 (a:=.int ws.length) (b:=.tup (sT (bestF ws j))) (c:=.str (gpB ws (bestF ws j))) rfl rfl rfl e3))).trans
    (sUpd_ok (ds:=shD ws L) (es:=shD ws ((kids ws.length (gpB ws (bestF ws j))).foldl addK [])) rfl (cA2 (a:=.tup (sI ws)) (b:=.lst (sT (kids ws.length (gpB ws (bestF ws j))))) rfl (cA2 (a:=.int ws.length) (b:=.lst (sT [gpB ws (bestF ws j)])) rfl rfl eg) el) (by unfold shD;rw[List.length_map,List.length_map];omega))),?_⟩
   rw[upd_sh]
   refine⟨_,_,_,c1,fun p hp=>(c2 p).mpr ?_,by omega,rfl⟩
   rcases(part_mem hb.nd (List.idxOf_lt_length_iff.mpr gm)).mp hp with z|z
   ·exact .inl (hL p z.1)
   ·rw[getD_idx gm] at z
    exact .inr ((b2 p).mpr (.inr z)))
 obtain⟨ρ',e,L,s5,s6,_,_,_,rfl⟩:=step
 rw[List.length_range] at e
 have pc0:=okB 0 (by omega)
 refine runD_rt ((sSeq_nx (sDrop_ok (cA1 (a:=.tup (sI ws)) rfl (require_source_eq h)))).trans ((sSeq_nx (sSet_ok (d:=.int ws.length) (len_sI rfl))).trans ((sSeq_nx (sDrop_ok (cA2 (a:=.int ws.length) (b:=.int s) rfl rfl (require_size_eq m2 m4 hs h32)))).trans ((sSeq_nx (sSet_ok (d:=.tup (sT (kids ws.length []))) (cA1 (a:=.int ws.length) rfl first_book_eq))).trans ((sSeq_nx (sSetK_ok (ds:=[.tup (sI ws),.tup (sT (kids ws.length []))]) (es:=shD ws ((kids ws.length []).foldl addK [])) rfl rfl (fk_eq h (fun p hp=>⟨(pc0.2.2.2.2 p hp).1,(pc0.2.2.2.2 p hp).2.2⟩) (by rw[kids_len _ m4];omega)))).trans ((sSeq_nx (cutX_nx ((sFor_ok (ds:=(List.range k).map fun(k:Nat)=>.int (1+(k:Int))) (fR_ok (ds:=[.int 1,.int ((k+1:Nat):Int)]) ?_ (rng2_one (by omega)))).trans e))).trans (sRet_ok rfl)))))))
 exact aCons_ok rfl (aCons_ok (cA2 (a:=.int ws.length) (b:=.int s) rfl rfl ((parts_eq m2 hs m4).trans (by rw[hk]))) rfl)
end Pg
namespace Pg
open PySem L2 My
theorem fNot_ok {f:Rho→Rs D}{ρ:Rho}{b:Bool}(e:f ρ=.ok (.bl b)):fNot f ρ=.ok (.bl !b):=by unfold fNot;rw[e];rfl
section
variable {ws:List Int}(h:SrcOk ws)
include h
theorem mean_of {t:Nat}{B:List (List Nat)}(g:My.Gr ws.length t B)(hl:ws.length+t*(ws.length - 1)≤32):fn_mean [.tup (sI ws),.tup (sT B)]=.ok (frD (qF ws (SG ws lenI B))):=mean_eq h (pcs_of h.1 h.2.1 g hl) (g.book h.1 h.2.1).isBook
theorem least_of {t:Nat}{B:List (List Nat)}(g:My.Gr ws.length t B)(hl:ws.length+t*(ws.length - 1)≤32):fn_least_inner [.tup (sI ws),.tup (sT B)]=.ok (frD (qF ws (leastF ws (sortF (innerKeys B)) (ws.sum ^ 31)))):=least_inner_eq h (pcs_of h.1 h.2.1 g hl) (g.book h.1 h.2.1) (by have:=g.keys h.1 h.2.1;have:=t_le h.1 hl;omega)
theorem most_of_eq {t:Nat}{B:List (List Nat)}(g:My.Gr ws.length t B)(hl:ws.length+t*(ws.length - 1)≤32):fn_greatest_piece [.tup (sI ws),.tup (sT B)]=.ok (.str (gpB ws B)):=greatest_eq h (pcs_of h.1 h.2.1 g hl) (g.book h.1 h.2.1)
theorem gp_ok {t:Nat}{B:List (List Nat)}(g:My.Gr ws.length t B)(hl:ws.length+t*(ws.length - 1)≤32):gpB ws B∈B∧LetOk ws.length (gpB ws B)∧(gpB ws B).length≤31:=by
 have p:=pcs_of h.1 h.2.1 g hl
 have m:=gpB_mem (ws:=ws) p.2.2.1
 exact⟨m,(p.2.2.2.2 _ m).1,(p.2.2.2.2 _ m).2.2⟩
theorem share_gp {t:Nat}{B:List (List Nat)}(g:My.Gr ws.length t B)(hl:ws.length+t*(ws.length - 1)≤32):fn_share [.tup (sI ws),.str (gpB ws B)]=.ok (frD (qF ws (wU ws (gpB ws B)))):=by
 obtain⟨_,a,b⟩:=gp_ok h g hl
 rw[share_eq h a (by omega),shr_q h b]
theorem least_iff {t:Nat}{B:List (List Nat)}(g:My.Gr ws.length t B)(hl:ws.length+t*(ws.length - 1)≤32):(¬leastF ws (sortF (innerKeys B)) (ws.sum ^ 31)<wU ws (gpB ws B))↔Best ws B:=by
 obtain⟨a,b,c⟩:=leastF_spec ws (sortF (innerKeys B)) (ws.sum ^ 31)
 obtain⟨m,q1,q2⟩:=gp_ok h g hl
 constructor
 ·intro z x hx p hp
  have:=b x (sortF_mem.mpr (innerKeys_mem.mpr hx))
  have:=gpB_max (ws:=ws) hp
  omega
 ·intro z
  have:=wU_le h q1 q2
  rcases c with c|⟨x,hx,c⟩
  ·omega
  ·have:=z x (innerKeys_mem.mp (sortF_mem.mp hx)) _ m
   omega
theorem least_fra {t:Nat}{B:List (List Nat)}(g:My.Gr ws.length t B)(hl:ws.length+t*(ws.length - 1)≤32):Fra 450 (qF ws (leastF ws (sortF (innerKeys B)) (ws.sum ^ 31)))∧Fra 450 (qF ws (wU ws (gpB ws B))):=by
 obtain⟨a,b,c⟩:=leastF_spec ws (sortF (innerKeys B)) (ws.sum ^ 31)
 obtain⟨m,q1,q2⟩:=gp_ok h g hl
 have W:=W8_pos h
 have E:=W8_le h
 have w:(2:Int) ^ 280<2 ^ 400:=by decide +kernel
 have u1:=wU_le h q1 q2
 have u0:=wU_pos h q1
 refine⟨q_fra h ?_ (by omega),q_fra h (by omega) (by omega)⟩
 rcases c with c|⟨x,hx,c⟩
 ·omega
 ·obtain⟨i1,i2⟩:=inner_ok h.1 h.2.1 g (t_le h.1 hl) (sortF_mem.mp hx)
  have:=wU_pos h i1
  omega
theorem less_lg {t:Nat}{B:List (List Nat)}(g:My.Gr ws.length t B)(hl:ws.length+t*(ws.length - 1)≤32):∃b:Bool,fn_is_less [frD (qF ws (leastF ws (sortF (innerKeys B)) (ws.sum ^ 31))),frD (qF ws (wU ws (gpB ws B)))]=.ok (.bl b)∧(b=false↔Best ws B):=by
 obtain⟨f1,f2⟩:=least_fra h g hl
 refine⟨decide (leastF ws (sortF (innerKeys B)) (ws.sum ^ 31)<wU ws (gpB ws B)),(is_less_eq f1 f2).trans (by rw[less_q h]),?_⟩
 rw[decide_eq_false_iff_not]
 exact least_iff h g hl
theorem is_best_eq {t:Nat}{B:List (List Nat)}(g:My.Gr ws.length t B)(hl:ws.length+t*(ws.length - 1)≤32):∃b:Bool,fn_is_best [.tup (sI ws),.tup (sT B)]=.ok (.bl b)∧(b=true↔Best ws B):=by
 obtain⟨b,e,k⟩:=less_lg h g hl
 refine⟨!b,runD_rt ((sSeq_nx (sSet_ok (d:=frD (qF ws (wU ws (gpB ws B)))) (cA2 (a:=.tup (sI ws)) (b:=.str (gpB ws B)) rfl (cA2 (a:=.tup (sI ws)) (b:=.tup (sT B)) rfl rfl (most_of_eq h g hl)) (share_gp h g hl)))).trans (sRet_ok (fNot_ok (cA2 (a:=frD (qF ws (leastF ws (sortF (innerKeys B)) (ws.sum ^ 31)))) (b:=frD (qF ws (wU ws (gpB ws B)))) (cA2 (a:=.tup (sI ws)) (b:=.tup (sT B)) rfl rfl (least_of h g hl)) rfl e)))),?_⟩
 rw[← k]
 cases b <;>simp
theorem size_ok {s k:Nat}(hs:ws.length≤s)(h32:s≤32)(hk:(s - 1) / (ws.length - 1)=k+1):ws.length+k*(ws.length - 1)≤32∧ws.length+k*(ws.length - 1)≤s∧s+2≤ws.length+k*(ws.length - 1)+ws.length:=by
 have m2:=h.1
 have a:=Nat.div_mul_le_self (s - 1) (ws.length - 1)
 have b:=Nat.lt_div_mul_add (a:=s - 1) (b:=ws.length - 1) (by omega)
 rw[hk,Nat.add_mul] at a b
 omega
theorem greatest_mean_eq {s k:Nat}(hs:ws.length≤s)(h32:s≤32)(hk:(s - 1) / (ws.length - 1)=k+1):fn_greatest_mean [.tup (sI ws),.int s]=.ok (frD (qF ws (SG ws lenI (bestF ws k)))) :=
 runD_rt (sRet_ok (cA2 (a:=.tup (sI ws)) (b:=.tup (sT (bestF ws k))) rfl (cA2 (a:=.tup (sI ws)) (b:=.int s) rfl rfl (best_book_eq h hs h32 hk)) (mean_of h (bestF_gr h k) (size_ok h hs h32 hk).1)))
theorem div_len (t:Nat):(ws.length+t*(ws.length - 1) - 1) / (ws.length - 1)=t+1:=by
 have m2:=h.1
 have e:ws.length+t*(ws.length - 1) - 1=(t+1)*(ws.length - 1):=by rw[Nat.add_mul];omega
 rw[e]
 exact Nat.mul_div_cancel _ (by omega)
theorem better_eq {t:Nat}{B:List (List Nat)}(g:My.Gr ws.length t B)(hl:ws.length+t*(ws.length - 1)≤32):(Best ws B→fn_better [.tup (sI ws),.tup (sT B)]=.ok .non)∧(¬Best ws B→fn_better [.tup (sI ws),.tup (sT B)]=.ok (.tup (sT (bestF ws t)))):=by
 obtain⟨b,e,k⟩:=is_best_eq h g hl
 have ln:=g.len h.1 h.2.1
 refine⟨fun z=>?_,fun z=>?_⟩
 ·rw[k.mpr z] at e
  exact runD_rt (sSeq_rt ((sIf_t (bT_ok (cA2 (a:=.tup (sI ws)) (b:=.tup (sT B)) rfl rfl e))).trans (sRet_ok rfl)))
 ·have hb:b=false:=by
   cases b
   ·rfl
   ·exact absurd (k.mp rfl) z
  rw[hb] at e
  refine runD_rt ((sSeq_nx ((sIf_f (bT_ok (cA2 (a:=.tup (sI ws)) (b:=.tup (sT B)) rfl rfl e))).trans rfl)).trans (sRet_ok (cA2 (a:=.tup (sI ws)) (b:=.int B.length) rfl (lenT_sT rfl) ?_)))
  exact best_book_eq h (by omega) (by omega) (by rw[ln];exact div_len h t)
end
end Pg
set_option maxHeartbeats 4000000
namespace K31
open PySem L2 PyProof.Rows
open My
open Pg
abbrev hq1:=aCons (fNm 2) (aCons (fNm 3) aNil)
abbrev hq0:=fA (ari 2 fn_is_less) (aCons (fA (ari 2 fn_least_inner) hq1) (aCons (fA (ari 2 fn_share) (aCons (fNm 2) (aCons (fA (ari 2 fn_greatest_piece) hq1) aNil))) aNil))
abbrev hq2:=sRet (fC (.bl false))
abbrev hq7:=ari 2 fn_greatest_mean
abbrev hq3:=fA hq7 (aCons (fNm 2) (aCons (fNm 7) aNil))
abbrev hq4:=bT (f2 (eqD true) (fO lenD (aCons (fNm 6) aNil)) (fO lenD (aCons (fNm 3) aNil)))
abbrev hq5:=bNot (bT (fA (ari 2 fn_is_book) (aCons (fNm 1) (aCons (fNm 6) aNil))))
abbrev hq6:=aCons (fA (ari 2 fn_mean) (aCons (fNm 2) (aCons (fNm 6) aNil))) aNil
abbrev hq8:=f2 ltI (fNm 5) (fC (.int 20))
def g_law:Rho→Out :=
  (sSeq (sSet 1 (f2 addI (fC (.int 2)) (fA (ari 3 fn__law_drawn) (aCons (fNm 0) (aCons (fC (.int 0)) (aCons (fC (.int 3)) aNil))))))
  (sSeq (sSet 2 (fA (ari 3 fn__law_source) (aCons (fNm 0) (aCons (fC (.int 1)) (aCons (fNm 1) aNil)))))
  (sSeq (sSet 3 (fA (ari 4 fn__law_book) (aCons (fNm 0) (aCons (fC (.int 10)) (aCons (fNm 1) (aCons (fA (ari 3 fn__law_drawn) (aCons (fNm 0) (aCons (fC (.int 8)) (aCons (fC (.int 6)) aNil)))) aNil))))))
  (sSeq (sSet 4 (fA hq7 (aCons (fNm 2) (aCons (fO lenD (aCons (fNm 3) aNil)) aNil))))
  (sSeq (sSet 5 (fC (.int 0)))
  (sSeq (cutX (sWh 25 (bAnd (bNot (bT (fA (ari 2 fn_is_best) hq1))) (bT hq8))
  (sSeq (sSet 6 (fA (ari 2 fn_better) hq1))
  (sSeq (sIf (bOr hq5 (bOr hq4 (bNot (bT (fA (ari 2 fn_is_less) (aCons (fA (ari 2 fn_mean) hq1) hq6))))))
  hq2
  sNx)
  (sSeq (sIf (bT (f2 (eqD false) (fA (ari 2 fn_mean) hq1) (fNm 4)))
  hq2
  sNx)
  (sSeq (sIf (bNot (bT hq0))
  hq2
  sNx)
  (sSeq (sSet 3 (fNm 6))
  (sSet 5 (f2 addI (fNm 5) (fC (.int 1)))))))))))
  (sSeq (sIf (bOr (bT (f1 (isN true) (fA (ari 2 fn_better) hq1))) (bT (f2 (eqD true) (fA (ari 2 fn_mean) hq1) (fNm 4))))
  hq2
  sNx)
  (sSeq (sIf (bT hq0)
  hq2
  sNx)
  (sSeq (sSet 7 (f2 addI (fNm 1) (fA (ari 3 fn__law_drawn) (aCons (fNm 0) (aCons (fC (.int 30)) (aCons (fC (.int 12)) aNil))))))
  (sSeq (sSet 8 (fA (ari 2 fn_best_book) (aCons (fNm 2) (aCons (fNm 7) aNil))))
  (sSeq (sIf (bOr (bNot (bT (fA (ari 2 fn_is_best) (aCons (fNm 2) (aCons (fNm 8) aNil))))) (bNot (bT (fCh leI leI (f2 addI (f2 subI (fNm 7) (fNm 1)) (fC (.int 2))) (fO lenD (aCons (fNm 8) aNil)) (fNm 7)))))
  hq2
  sNx)
  (sSeq (sIf (bT (f2 (eqD true) (fA (ari 2 fn_mean) (aCons (fNm 2) (aCons (fNm 8) aNil))) hq3))
  hq2
  sNx)
  (sSeq (sIf (bT (fA (ari 2 fn_is_less) (aCons (fA hq7 (aCons (fNm 2) (aCons (f2 addI (fNm 7) (fC (.int 1))) aNil))) (aCons hq3 aNil))))
  hq2
  sNx)
  (sRet (f2 (eqD false) (fA hq7 (aCons (f1 revD (fNm 2)) (aCons (fNm 7) aNil))) hq3)))))))))))))))
def fn_law:List D→Rs D:=runD 9 g_law
end K31
namespace K31
open PySem L2 My Pg
theorem eqT {x y:Int×Int}(h:x=y):eqD true (frD x) (frD y)=some (.bl false):=by rw[eqD_fr,decide_eq_true h];rfl
theorem eqF {x y:Int×Int}(h:x=y):eqD false (frD x) (frD y)=some (.bl true):=by rw[eqD_fr,decide_eq_true h];rfl
theorem eqN {x y:Int×Int}(h:x≠y):eqD false (frD x) (frD y)=some (.bl false):=by rw[eqD_fr,decide_eq_false h];rfl
theorem wh_f {ft:Rho→Rs Bool}{g:Rho→Out}{n:Nat}{ρ:Rho}(e:ft ρ=.ok false):whD ft g (n+1) ρ=.nx ρ:=by unfold whD;rw[e]
theorem wh_t {ft:Rho→Rs Bool}{g:Rho→Out}{n:Nat}{ρ ρ':Rho}(e:ft ρ=.ok true)(e2:g ρ=.nx ρ'):whD ft g (n+1) ρ=whD ft g n ρ':=by
 rw[whD.eq_2,e]
 show(match g ρ with | .nx ρ'=>whD ft g n ρ' | .ct ρ'=>whD ft g n ρ' | .bk ρ'=>.nx ρ'|o=>o)=_
 rw[e2]
def gT:Rho→Rs Bool:=bAnd (bNot (bT (fA (ari 2 fn_is_best) hq1))) (bT hq8)
def gL:Rho→Out :=
  (sSeq (sSet 6 (fA (ari 2 fn_better) hq1))
  (sSeq (sIf (bOr hq5 (bOr hq4 (bNot (bT (fA (ari 2 fn_is_less) (aCons (fA (ari 2 fn_mean) hq1) hq6))))))
  hq2
  sNx)
  (sSeq (sIf (bT (f2 (eqD false) (fA (ari 2 fn_mean) hq1) (fNm 4)))
  hq2
  sNx)
  (sSeq (sIf (bNot (bT hq0))
  hq2
  sNx)
  (sSeq (sSet 3 (fNm 6))
  (sSet 5 (f2 addI (fNm 5) (fC (.int 1)))))))))
def rh (ns:List Int)(ws:List Int)(B:List (List Nat))(M:Int)(j:Int)(s6:Sl):Rho:=[.fz (scD ns),.fz (.int ws.length),.fz (.tup (sI ws)),.fz (.tup (sT B)),.fz (frD (qF ws M)),.fz (.int j),s6,.no,.no]
section
variable {ns ws:List Int}(h:SrcOk ws){t:Nat}{B:List (List Nat)}
include h
theorem sg_fra (g:My.Gr ws.length t B)(hl:ws.length+t*(ws.length - 1)≤32):Fra 450 (qF ws (SG ws lenI B)):=by
 have p:=pcs_of h.1 h.2.1 g hl
 have b:=SG_bound h (g:=lenI) (B:=B) (fun q hq=>⟨(p.2.2.2.2 q hq).1,(p.2.2.2.2 q hq).2.2⟩) (fun n hn=>by unfold lenI;omega) (by have:=p.2.2.2.1;omega)
 exact q_fra h b.1 b.2
theorem less_m {B C:List (List Nat)}{u:Nat}(g:My.Gr ws.length t B)(hl:ws.length+t*(ws.length - 1)≤32)(k:My.Gr ws.length u C)(hk:ws.length+u*(ws.length - 1)≤32):fn_is_less [frD (qF ws (SG ws lenI B)),frD (qF ws (SG ws lenI C))]=.ok (.bl (decide (SG ws lenI B<SG ws lenI C))):=(is_less_eq (sg_fra h g hl) (sg_fra h k hk)).trans (by rw[less_q h])
theorem test_eq (g:My.Gr ws.length t B)(hl:ws.length+t*(ws.length - 1)≤32){M j:Int}(hj:j<20){s6:Sl}:(Best ws B→gT (rh ns ws B M j s6)=.ok false)∧(¬Best ws B→gT (rh ns ws B M j s6)=.ok true):=by
 obtain⟨b,e,k⟩:=is_best_eq h g hl
 have e1:bNot (bT (fA (ari 2 fn_is_best) hq1)) (rh ns ws B M j s6)=.ok (!b):=bNot_ok (bT_ok (cA2 (a:=.tup (sI ws)) (b:=.tup (sT B)) rfl rfl e))
 refine⟨fun z=>?_,fun z=>?_⟩
 ·rw[k.mpr z] at e1
  exact bAnd_f1 e1
 ·have hb:b=false:=by
   cases b
   ·rfl
   ·exact absurd (k.mp rfl) z
  rw[hb] at e1
  have e2:bT hq8 (rh ns ws B M j s6)=.ok true:=by
   show Rs.ok (decide (j<20))=_
   rw[decide_eq_true hj]
  exact bAnd_ok e1 e2
theorem lg_eq {B:List (List Nat)}(g:My.Gr ws.length t B)(hl:ws.length+t*(ws.length - 1)≤32){ρ:Rho}(e2:fNm 2 ρ=.ok (.tup (sI ws)))(e3:fNm 3 ρ=.ok (.tup (sT B))):∃b:Bool,bT hq0 ρ=.ok b∧(b=false↔Best ws B):=by
 obtain⟨b,e,k⟩:=less_lg h g hl
 exact⟨b,bT_ok (cA2 (cA2 e2 e3 (least_of h g hl)) (cA2 e2 (cA2 e2 e3 (most_of_eq h g hl)) (share_gp h g hl)) e),k⟩
theorem loop_eq (g:My.Gr ws.length t B)(hl:ws.length+t*(ws.length - 1)≤32):∃C j s6,My.Gr ws.length t C∧Best ws C∧whD gT gL 25 (rh ns ws B (SG ws lenI (bestF ws t)) 0 .no)=.nx (rh ns ws C (SG ws lenI (bestF ws t)) j s6):=by
 by_cases z:Best ws B
 ·exact⟨B,0,.no,g,z,wh_f ((test_eq h g hl (by decide)).1 z)⟩
 ·have gc:=bestF_gr h t
  have bc:=bestF_best h t (t_le h.1 hl)
  have lt:=best_lt h (t_le h.1 hl) g gc z bc
  have pc:=pcs_of h.1 h.2.1 gc hl
  refine⟨bestF ws t,1,.fz (.tup (sT (bestF ws t))),gc,bc,(wh_t ((test_eq h g hl (by decide)).2 z) ?_).trans (wh_f ((test_eq h gc hl (by decide)).1 bc))⟩
  have el:((bestF ws t).length:Int)=(B.length:Int):=by rw[gc.len h.1 h.2.1,g.len h.1 h.2.1]
  obtain⟨b,eb,kb⟩:=lg_eq h g hl (ρ:=rh ns ws B (SG ws lenI (bestF ws t)) 0 (.fz (.tup (sT (bestF ws t))))) rfl rfl
  have hb:b=true:=by
   cases b
   ·exact absurd (kb.mp rfl) z
   ·rfl
  rw[hb] at eb
  have ls:=less_m h g hl gc hl
  rw[decide_eq_true lt] at ls
  refine(sSeq_nx (ρ':=rh ns ws B (SG ws lenI (bestF ws t)) 0 (.fz (.tup (sT (bestF ws t))))) (sSet_ok (d:=.tup (sT (bestF ws t))) (cA2 (a:=.tup (sI ws)) (b:=.tup (sT B)) rfl rfl ((better_eq h g hl).2 z)))).trans ?_
  refine(sSeq_nx ((sIf_f (bOr_f3 (bNot_ok (b:=true) (bT_ok (cA2 (a:=.int ws.length) (b:=.tup (sT (bestF ws t))) rfl rfl ((is_book_eq pc).trans (by rw[(gc.book h.1 h.2.1).isBook]))))) (bT_ok (f2_ok (lenT_sT (L:=bestF ws t) rfl) (lenT_sT (L:=B) rfl) (intT el))) (bNot_ok (b:=true) (bT_ok (cA2 (a:=frD (qF ws (SG ws lenI B))) (b:=frD (qF ws (SG ws lenI (bestF ws t)))) (cA2 (a:=.tup (sI ws)) (b:=.tup (sT B)) rfl rfl (mean_of h g hl)) (cA2 (a:=.tup (sI ws)) (b:=.tup (sT (bestF ws t))) rfl rfl (mean_of h gc hl)) ls))))).trans rfl)).trans ?_
  refine(sSeq_nx ((sIf_f (bT_ok (f2_ok (a:=frD (qF ws (SG ws lenI B))) (b:=frD (qF ws (SG ws lenI (bestF ws t)))) (cA2 (a:=.tup (sI ws)) (b:=.tup (sT B)) rfl rfl (mean_of h g hl)) rfl (eqN fun e=>by have:=q_inj h e;omega)))).trans rfl)).trans ?_
  exact(sSeq_nx ((sIf_f (bNot_ok (b:=true) eb)).trans rfl)).trans rfl
end
theorem law_true (ns:List Int)(hn:ns.length≤63):fn_law [.lst (ns.map .int)]=.ok (.bl true):=by
 have hd:=drawn_range ns 0 (m:=3) (by decide)
 obtain⟨r,hr⟩:=Int.eq_ofNat_of_zero_le hd.1
 rw[hr] at hd
 have m2:2≤2+r:=by omega
 have m4:2+r≤4:=by omega
 have er:=drawn_eq ns hn 0 3 (by decide) (by decide) (by decide)
 rw[hr] at er
 generalize hm:2+r=m at m2 m4
 have hd8:=drawn_range ns 8 (m:=6) (by decide)
 obtain⟨t,ht0⟩:=Int.eq_ofNat_of_zero_le hd8.1
 have e8:=drawn_eq ns hn 8 6 (by decide) (by decide) (by decide)
 rw[ht0] at hd8 e8
 have hd30:=drawn_range ns 30 (m:=12) (by decide)
 obtain⟨z,hz0⟩:=Int.eq_ofNat_of_zero_le hd30.1
 have e30:=drawn_eq ns hn 30 12 (by decide) (by decide) (by decide)
 rw[hz0] at hd30 e30
 have g:=bkF_gr ns 10 m2 m4 t
 have eB:=book_eq ns hn 10 m2 m4 t (by omega) (by decide)
 have eS:=source_eq ns hn 1 m2 m4 (by decide)
 obtain⟨sok,sl⟩:=srcF_ok ns 1 m2 m4
 generalize hBd:bkF ns 10 m t=B at *
 generalize hws:srcF ns 1 m=ws at *
 subst sl
 have hl:ws.length+t*(ws.length - 1)≤32:=by
  have:t*(ws.length - 1)≤5*3:=Nat.mul_le_mul (by omega) (by omega)
  omega
 have ln:=g.len m2 m4
 obtain⟨C,j,s6,gc,bc,eW⟩:=loop_eq (ns:=ns) sok g hl
 have em1:SG ws lenI C=SG ws lenI (bestF ws t):=best_eq sok (t_le m2 hl) gc (bestF_gr sok t) bc (bestF_best sok t (t_le m2 hl))
 obtain⟨b,eb,kb⟩:=lg_eq sok gc hl (ρ:=rh ns ws C (SG ws lenI (bestF ws t)) j s6) rfl rfl
 rw[kb.mpr bc] at eb
 have hs1:ws.length≤ws.length+z:=by omega
 have hs2:ws.length+z≤32:=by omega
 have hs3:ws.length+z+1≤32:=by omega
 obtain ⟨k,hk⟩:∃k,(ws.length+z - 1) / (ws.length - 1)=k+1:=by
  have:=Nat.div_pos (a:=ws.length+z - 1) (b:=ws.length - 1) (by omega) (by omega)
  exact⟨(ws.length+z - 1) / (ws.length - 1) - 1,by omega⟩
 obtain ⟨q,hq,hqk⟩:∃q,(ws.length+z+1 - 1) / (ws.length - 1)=q+1∧(q=k∨q=k+1):=by
  have a:=Nat.div_le_div_right (c:=ws.length - 1) (show ws.length+z - 1≤ws.length+z+1 - 1 by omega)
  have b:=Nat.div_le_div_right (c:=ws.length - 1) (show ws.length+z+1 - 1≤ws.length+z - 1+(ws.length - 1) by omega)
  rw[Nat.add_div_right _ (by omega)] at b
  exact⟨(ws.length+z+1 - 1) / (ws.length - 1) - 1,by omega,by omega⟩
 obtain⟨z1,z2,z3⟩:=size_ok sok hs1 hs2 hk
 obtain⟨y1,y2,y3⟩:=size_ok sok (s:=ws.length+z+1) (by omega) hs3 hq
 have gk:=bestF_gr sok k
 have lk:=gk.len m2 m4
 have eK:=best_book_eq sok hs1 hs2 hk
 have eM:=greatest_mean_eq sok hs1 hs2 hk
 have eQ:=greatest_mean_eq sok (s:=ws.length+z+1) (by omega) hs3 hq
 obtain⟨d,ed,kd⟩:=is_best_eq sok gk z1
 rw[kd.mpr (bestF_best sok k (t_le m2 z1))] at ed
 have mono:SG ws lenI (bestF ws k)≤SG ws lenI (bestF ws q):=by
  rcases hqk with e|e
  ·rw[e];exact Int.le_refl _
  ·rw[e];exact bestF_mono sok (by have:=t_le m2 y1;omega)
 have el:=less_m sok (bestF_gr sok q) y1 gk z1
 rw[decide_eq_false (by omega)] at el
 have eR:=greatest_mean_eq (src_rev sok) (s:=ws.length+z) (k:=k) (by rw[List.length_reverse];exact hs1) hs2 (by rw[List.length_reverse];exact hk)
 have eqr:qF ws.reverse (SG ws.reverse lenI (bestF ws.reverse k))=qF ws (SG ws lenI (bestF ws k)):=by
  rw[rev_mean sok (t_le m2 z1)]
  unfold qF
  rw[sum_rev]
 rw[eqr] at eR
 have hmm:(2:Int)+(r:Int)=(ws.length:Int):=by omega
 refine runD_rt ((sSeq_nx (sSet_ok (d:=.int ws.length) ((addI_ok (i:=2) (j:=(r:Int)) rfl (cA3 (a:=scD ns) (b:=.int 0) (c:=.int 3) rfl rfl rfl er)).trans (by rw[hmm])))).trans ?_)
 refine(sSeq_nx (sSet_ok (d:=.tup (sI ws)) (cA3 (a:=scD ns) (b:=.int 1) (c:=.int ws.length) rfl rfl rfl eS))).trans ?_
 refine(sSeq_nx (sSet_ok (d:=.tup (sT B)) (cA4 (a:=scD ns) (b:=.int 10) (c:=.int ws.length) (d:=.int t) rfl rfl rfl (cA3 (a:=scD ns) (b:=.int 8) (c:=.int 6) rfl rfl rfl e8) eB))).trans ?_
 refine(sSeq_nx (sSet_ok (d:=frD (qF ws (SG ws lenI (bestF ws t)))) (cA2 (a:=.tup (sI ws)) (b:=.int B.length) rfl (lenT_sT rfl) (greatest_mean_eq sok (by omega) (by omega) (by rw[ln];exact div_len sok t))))).trans ?_
 refine(sSeq_nx (sSet_ok (d:=.int 0) rfl)).trans ?_
 refine(sSeq_nx (cutX_nx (show sWh 25 gT gL (rh ns ws B (SG ws lenI (bestF ws t)) 0 .no)=_ from eW))).trans ?_
 refine(sSeq_nx ((sIf_f (bOr_ff (bT_ok (f1_ok (a:=.non) (cA2 (a:=.tup (sI ws)) (b:=.tup (sT C)) rfl rfl ((better_eq sok gc hl).1 bc)) rfl)) (bT_ok (f2_ok (a:=frD (qF ws (SG ws lenI C))) (b:=frD (qF ws (SG ws lenI (bestF ws t)))) (cA2 (a:=.tup (sI ws)) (b:=.tup (sT C)) rfl rfl (mean_of sok gc hl)) rfl (eqT (by rw[em1])))))).trans rfl)).trans ?_
 refine(sSeq_nx ((sIf_f eb).trans rfl)).trans ?_
 refine(sSeq_nx (sSet_ok (d:=.int ((ws.length+z:Nat):Int)) ((addI_ok (i:=(ws.length:Int)) (j:=(z:Int)) rfl (cA3 (a:=scD ns) (b:=.int 30) (c:=.int 12) rfl rfl rfl e30)).trans (by rw[Int.natCast_add])))).trans ?_
 refine(sSeq_nx (sSet_ok (d:=.tup (sT (bestF ws k))) (cA2 (a:=.tup (sI ws)) (b:=.int ((ws.length+z:Nat):Int)) rfl rfl eK))).trans ?_
 refine(sSeq_nx ((sIf_f (bOr_ff (bNot_ok (b:=true) (bT_ok (cA2 (a:=.tup (sI ws)) (b:=.tup (sT (bestF ws k))) rfl rfl ed))) (bNot_ok (b:=true) (bT_ok (fCh_ok (a:=.int (((ws.length+z:Nat):Int) - (ws.length:Int)+2)) (b:=.int (bestF ws k).length) (c:=.int ((ws.length+z:Nat):Int)) (addI_ok (subI_ok rfl rfl) rfl) (lenT_sT rfl) rfl ?_ ?_))))).trans rfl)).trans ?_
 ·show some (D.bl (decide _))=_
  rw[decide_eq_true (by omega)]
 ·show some (D.bl (decide _))=_
  rw[decide_eq_true (by omega)]
 refine(sSeq_nx ((sIf_f (bT_ok (f2_ok (a:=frD (qF ws (SG ws lenI (bestF ws k)))) (b:=frD (qF ws (SG ws lenI (bestF ws k)))) (cA2 (a:=.tup (sI ws)) (b:=.tup (sT (bestF ws k))) rfl rfl (mean_of sok gk z1)) (cA2 (a:=.tup (sI ws)) (b:=.int ((ws.length+z:Nat):Int)) rfl rfl eM) (eqT rfl)))).trans rfl)).trans ?_
 refine(sSeq_nx ((sIf_f (bT_ok (cA2 (a:=frD (qF ws (SG ws lenI (bestF ws q)))) (b:=frD (qF ws (SG ws lenI (bestF ws k)))) (cA2 (a:=.tup (sI ws)) (b:=.int ((ws.length+z+1:Nat):Int)) rfl ((addI_ok (i:=((ws.length+z:Nat):Int)) (j:=1) rfl rfl).trans (by rw[Int.natCast_add (ws.length+z) 1];rfl)) eQ) (cA2 (a:=.tup (sI ws)) (b:=.int ((ws.length+z:Nat):Int)) rfl rfl eM) el))).trans rfl)).trans ?_
 exact sRet_ok (f2_ok (a:=frD (qF ws (SG ws lenI (bestF ws k)))) (b:=frD (qF ws (SG ws lenI (bestF ws k)))) (cA2 (a:=.tup (sI ws.reverse)) (b:=.int ((ws.length+z:Nat):Int)) (f1_ok (a:=.tup (sI ws)) rfl (by show some (D.tup (sI ws).reverse)=_;unfold sI;rw[List.map_reverse])) rfl eR) (cA2 (a:=.tup (sI ws)) (b:=.int ((ws.length+z:Nat):Int)) rfl rfl eM) (eqF rfl))
end K31
namespace K31
open PySem L2 PyProof.Rows
open PySem.Challenge
open My
open Pg
def top (i:Nat):Stmt:=PySem.Challenge.pw_piecebooks_k31_whole_best.main.body.getD i (.Pass ⟨0,0,0,0⟩)
abbrev s__law_cell:Stmt:=top 55
abbrev s__law_drawn:Stmt:=top 56
abbrev s__law_source:Stmt:=top 58
abbrev s__law_book:Stmt:=top 57
abbrev s_is_whole:Stmt:=top 10
abbrev s_is_between:Stmt:=top 11
abbrev s_is_weight:Stmt:=top 12
abbrev s_is_source:Stmt:=top 13
abbrev s_require_source:Stmt:=top 15
abbrev s_is_rising:Stmt:=top 25
abbrev s_is_number_of_letters:Stmt:=top 24
abbrev s_is_text_of:Stmt:=top 14
abbrev s_are_pieces:Stmt:=top 26
abbrev s_first_pair:Stmt:=top 33
abbrev s_gone_on:Stmt:=top 29
abbrev s_is_apart:Stmt:=top 32
abbrev s_is_inner:Stmt:=top 31
abbrev s_first_text_apart:Stmt:=top 34
abbrev s_first_paper:Stmt:=top 35
abbrev s_is_book:Stmt:=top 36
abbrev s_require_book:Stmt:=top 27
abbrev s_require_book_of:Stmt:=top 28
abbrev s_require_text_of:Stmt:=top 16
abbrev s_greatest_divisor:Stmt:=top 17
abbrev s_lowest:Stmt:=top 18
abbrev s_share:Stmt:=top 19
abbrev s_added:Stmt:=top 20
abbrev s_mean:Stmt:=top 43
abbrev s_is_size:Stmt:=top 47
abbrev s_require_size:Stmt:=top 48
abbrev s_even_book:Stmt:=top 38
abbrev s_first_book:Stmt:=top 37
abbrev s_shares_of:Stmt:=top 41
abbrev s_most_partings:Stmt:=top 49
abbrev s_is_less:Stmt:=top 21
abbrev s_first_greatest:Stmt:=top 42
abbrev s_parted:Stmt:=top 30
abbrev s_best_book:Stmt:=top 50
abbrev s_greatest_mean:Stmt:=top 51
abbrev s_greatest_piece:Stmt:=top 45
abbrev s_inner_of:Stmt:=top 39
abbrev s_least_inner:Stmt:=top 44
abbrev s_is_best:Stmt:=top 52
abbrev s_better:Stmt:=top 53
abbrev s_law:Stmt:=top 60
structure Txt (K:PySem.W.Frag)(mg:Str→Option Value) where
 d__law_cell:Dn K mg "_law_cell" s__law_cell ["_law_script", "_law_k"]
 d__law_drawn:Dn K mg "_law_drawn" s__law_drawn ["_law_script", "_law_k", "_law_many"]
 d__law_source:Dn K mg "_law_source" s__law_source ["_law_script", "_law_at", "_law_many"]
 d__law_book:Dn K mg "_law_book" s__law_book ["_law_script", "_law_at", "_law_many", "_law_turns"]
 d_is_whole:Dn K mg "is_whole" s_is_whole ["thing"]
 d_is_between:Dn K mg "is_between" s_is_between ["thing", "least", "most"]
 d_is_weight:Dn K mg "is_weight" s_is_weight ["thing"]
 d_is_source:Dn K mg "is_source" s_is_source ["thing"]
 d_require_source:Dn K mg "require_source" s_require_source ["thing"]
 d_is_rising:Dn K mg "is_rising" s_is_rising ["texts"]
 d_is_number_of_letters:Dn K mg "is_number_of_letters" s_is_number_of_letters ["thing"]
 d_is_text_of:Dn K mg "is_text_of" s_is_text_of ["many", "thing"]
 d_are_pieces:Dn K mg "are_pieces" s_are_pieces ["many", "thing"]
 d_first_pair:Dn K mg "first_pair" s_first_pair ["pieces"]
 d_gone_on:Dn K mg "gone_on" s_gone_on ["many", "texts"]
 d_is_apart:Dn K mg "is_apart" s_is_apart ["pieces", "text"]
 d_is_inner:Dn K mg "is_inner" s_is_inner ["pieces", "text"]
 d_first_text_apart:Dn K mg "first_text_apart" s_first_text_apart ["many", "pieces"]
 d_first_paper:Dn K mg "first_paper" s_first_paper ["many", "pieces"]
 d_is_book:Dn K mg "is_book" s_is_book ["many", "thing"]
 d_require_book:Dn K mg "require_book" s_require_book ["many", "thing"]
 d_require_book_of:Dn K mg "require_book_of" s_require_book_of ["source", "thing"]
 d_require_text_of:Dn K mg "require_text_of" s_require_text_of ["many", "thing"]
 d_greatest_divisor:Dn K mg "greatest_divisor" s_greatest_divisor ["one", "other"]
 d_lowest:Dn K mg "lowest" s_lowest ["up", "down"]
 d_share:Dn K mg "share" s_share ["source", "text"]
 d_added:Dn K mg "added" s_added ["one", "other"]
 d_mean:Dn K mg "mean" s_mean ["source", "book"]
 d_is_size:Dn K mg "is_size" s_is_size ["many", "thing"]
 d_require_size:Dn K mg "require_size" s_require_size ["many", "thing"]
 d_even_book:Dn K mg "even_book" s_even_book ["many", "length"]
 d_first_book:Dn K mg "first_book" s_first_book ["many"]
 d_shares_of:Dn K mg "shares_of" s_shares_of ["source", "texts"]
 d_most_partings:Dn K mg "most_partings" s_most_partings ["many", "size"]
 d_is_less:Dn K mg "is_less" s_is_less ["one", "other"]
 d_first_greatest:Dn K mg "first_greatest" s_first_greatest ["pieces", "shares"]
 d_parted:Dn K mg "parted" s_parted ["many", "pieces", "piece"]
 d_best_book:Dn K mg "best_book" s_best_book ["source", "size"]
 d_greatest_mean:Dn K mg "greatest_mean" s_greatest_mean ["source", "size"]
 d_greatest_piece:Dn K mg "greatest_piece" s_greatest_piece ["source", "book"]
 d_inner_of:Dn K mg "inner_of" s_inner_of ["book"]
 d_least_inner:Dn K mg "least_inner" s_least_inner ["source", "book"]
 d_is_best:Dn K mg "is_best" s_is_best ["source", "book"]
 d_better:Dn K mg "better" s_better ["source", "book"]
 d_law:Dn K mg "law" s_law ["_law_script"]
 v_FEWEST_LETTERS:Value
 c_FEWEST_LETTERS:mg "FEWEST_LETTERS" = some v_FEWEST_LETTERS
 r_FEWEST_LETTERS:RelV (.int (2)) v_FEWEST_LETTERS
 v_GREATEST_WEIGHT:Value
 c_GREATEST_WEIGHT:mg "GREATEST_WEIGHT" = some v_GREATEST_WEIGHT
 r_GREATEST_WEIGHT:RelV (.int (99)) v_GREATEST_WEIGHT
 v_LETTERS:Value
 c_LETTERS:mg "LETTERS" = some v_LETTERS
 r_LETTERS:RelV (.str (T [97,98,99,100])) v_LETTERS
 v_MOST_PIECES:Value
 c_MOST_PIECES:mg "MOST_PIECES" = some v_MOST_PIECES
 r_MOST_PIECES:RelV (.int (32)) v_MOST_PIECES
 n_all:mg "all" = none
 n_any:mg "any" = none
 n_bool:mg "bool" = none
 n_dict:mg "dict" = none
 n_int:mg "int" = none
 n_isinstance:mg "isinstance" = none
 n_len:mg "len" = none
 n_range:mg "range" = none
 n_sorted:mg "sorted" = none
 n_str:mg "str" = none
 n_sum:mg "sum" = none
 n_tuple:mg "tuple" = none
 n_zip:mg "zip" = none
 x_NoBook:Own K mg "NoBook"
 x_NoLetters:Own K mg "NoLetters"
 x_NoSize:Own K mg "NoSize"
 x_NoSource:Own K mg "NoSource"
def clOf {K:PySem.W.Frag}{mg:Str→Option Value}(t:Txt K mg):Nat→Addr
 | 1=>t.x_NoBook.C
 | 3=>t.x_NoLetters.C
 | 5=>t.x_NoSize.C
 | 0=>t.x_NoSource.C
 | _=>0
section
variable {P:Program}{w:World}{K:PySem.W.Frag}{mg:Str→Option Value}{base:Heap}
theorem sc__law_cell:FnScope ["_law_script", "_law_k"] ["_law_script", "_law_k"] (defScope s__law_cell):=⟨rfl,rfl,rfl,by decide +kernel,rfl,by decide +kernel,by decide +kernel⟩
theorem ok__law_cell (t:Txt K mg):FnOk P w K mg base (CX1 P w) 1 t.d__law_cell.f t.d__law_cell.fd ["_law_script", "_law_k"] (spD K (clOf t) fn__law_cell 2) :=
 show FnOk P w K mg base (CX1 P w) 1 t.d__law_cell.f t.d__law_cell.fd ["_law_script", "_law_k"] (spD K (clOf t) (runD 2 g__law_cell) 2) from
 fnD (N:=["_law_script", "_law_k"]) (ps:=["_law_script", "_law_k"]) (k:=0) (m:=2) (n:=2) (g:=g__law_cell) (cl:=clOf t) t.d__law_cell.fn sc__law_cell rfl rfl fun cdv A outer s H E hr =>
   (xss_cons (xs_if (xt_cmp (op_eqD hr.units) o_eq (xe_nm 0 (pv 0)) (xe_lst xa_nil) (nomark _))
   (xss_one (xs_ret (xe_op op_mulS o_mulI xe_int (xe_nm 1 (pv 1)))))
   xss_nil)
   (xss_one (xs_ret (xe_op op_add o_addI (xe_ix (xe_nm 0 (pv 0)) (xe_op op_mod o_modI (xe_nm 1 (pv 1)) (xe_callB call_len n_len rfl t.n_len boot_len (xa_cons (xe_nm 0 (pv 0)) xa_nil star_name) star_name)) (fun _ _=>rfl)) (xe_op op_mulS o_mulI xe_int (xe_op op_fdivS o_fdivI (xe_nm 1 (pv 1)) (xe_callB call_len n_len rfl t.n_len boot_len (xa_cons (xe_nm 0 (pv 0)) xa_nil star_name) star_name)))))))
theorem sc__law_drawn:FnScope ["_law_script", "_law_k", "_law_many", "_law_cell_here"] ["_law_script", "_law_k", "_law_many"] (defScope s__law_drawn):=⟨rfl,rfl,rfl,by decide +kernel,rfl,by decide +kernel,by decide +kernel⟩
theorem ok__law_drawn (t:Txt K mg):FnOk P w K mg base (CX1 P w) 2 t.d__law_drawn.f t.d__law_drawn.fd ["_law_script", "_law_k", "_law_many"] (spD K (clOf t) fn__law_drawn 3) :=
 show FnOk P w K mg base (CX1 P w) 2 t.d__law_drawn.f t.d__law_drawn.fd ["_law_script", "_law_k", "_law_many"] (spD K (clOf t) (runD 4 g__law_drawn) 3) from
 fnD (N:=["_law_script", "_law_k", "_law_many", "_law_cell_here"]) (ps:=["_law_script", "_law_k", "_law_many"]) (k:=1) (m:=4) (n:=3) (g:=g__law_drawn) (cl:=clOf t) t.d__law_drawn.fn sc__law_drawn rfl rfl fun cdv A outer s H E hr =>
   (xss_cons (xs_set (i:=3) sc__law_drawn.nd rfl (Or.inl rfl) (xe_op op_mod o_modI (xe_op op_add o_addI (xe_op op_mulS o_mulI (xe_op op_mod o_modI (xe_call (ok__law_cell t) (hr.mono (by decide)) rfl t.d__law_cell.mg t.d__law_cell.fn.kp t.d__law_cell.bd pass1 (xa_cons (xe_nm 0 (pv 0)) (xa_cons (xe_nm 1 (pv 1)) xa_nil star_name) star_name) star_name) xe_int) xe_int) (xe_op op_mulS o_mulI xe_int (xe_op op_add o_addI (xe_nm 1 (pv 1)) xe_int))) xe_int))
   (xss_cons (xs_set (i:=3) sc__law_drawn.nd rfl (Or.inl rfl) (xe_op op_mod o_modI (xe_op op_add o_addI (xe_op op_mulS o_mulI (xe_nm 3 (pv 3)) (xe_nm 3 (pv 3))) (xe_op op_fdivS o_fdivI (xe_nm 3 (pv 3)) xe_int)) xe_int))
   (xss_one (xs_ret (xe_op op_mod o_modI (xe_op op_fdivS o_fdivI (xe_op op_mod o_modI (xe_op op_add o_addI (xe_op op_mulS o_mulI (xe_nm 3 (pv 3)) (xe_nm 3 (pv 3))) (xe_op op_fdivS o_fdivI (xe_nm 3 (pv 3)) xe_int)) xe_int) xe_int) (xe_nm 2 (pv 2)))))))
theorem sc__law_source:FnScope ["_law_script", "_law_at", "_law_many", "_law_most"] ["_law_script", "_law_at", "_law_many"] (defScope s__law_source):=⟨rfl,rfl,rfl,by decide +kernel,rfl,by decide +kernel,by decide +kernel⟩
theorem ok__law_source (t:Txt K mg):FnOk P w K mg base (CX1 P w) 3 t.d__law_source.f t.d__law_source.fd ["_law_script", "_law_at", "_law_many"] (spD K (clOf t) fn__law_source 3) :=
 show FnOk P w K mg base (CX1 P w) 3 t.d__law_source.f t.d__law_source.fd ["_law_script", "_law_at", "_law_many"] (spD K (clOf t) (runD 4 g__law_source) 3) from
 fnD (N:=["_law_script", "_law_at", "_law_many", "_law_most"]) (ps:=["_law_script", "_law_at", "_law_many"]) (k:=2) (m:=4) (n:=3) (g:=g__law_source) (cl:=clOf t) t.d__law_source.fn sc__law_source rfl rfl fun cdv A outer s H E hr =>
   (xss_cons (xs_set (i:=3) sc__law_source.nd rfl (Or.inr rfl) (XEw.out (yw_ix (yw_lst (yw_cons yw_int (yw_cons yw_int (yw_cons yw_int yw_nil star_const) star_const) star_const)) (XEw.mk (xe_call (ok__law_drawn t) (hr.mono (by decide)) rfl t.d__law_drawn.mg t.d__law_drawn.fn.kp t.d__law_drawn.bd pass1 (xa_cons (xe_nm 0 (pv 0)) (xa_cons (xe_nm 1 (pv 1)) (xa_cons xe_int xa_nil star_const) star_name) star_name) star_name)) (fun _ _=>rfl))))
   (xss_one (xs_ret (xe_callTy call_tuple_of n_tup rfl t.n_tuple boot_tuple (xa_cons (xe_comp (x := "_law_k") (caps:=[0,3,1]) (comp_ok (fs:=defScope s__law_source) (N:=["_law_script", "_law_at", "_law_many", "_law_most"]) rfl rfl (by decide +kernel)) rfl (xi_range1 rfl t.n_range (xa_cons (xe_nm 2 (pv 2)) xa_nil star_name) rfl) ⟨fun _ _ _ _ _=>(pg_name (i:=0) (nd_of (N:=["_law_k", "_law_script", "_law_most", "_law_at"]) rfl (by decide +kernel)) rfl (Or.inl rfl)),fun _ _ _ _ _=>xts_nil,fun _ _ _ _ _=>(xe_op op_add o_addI xe_int (xe_call (ok__law_drawn t) (hr.mono (by decide)) rfl t.d__law_drawn.mg t.d__law_drawn.fn.kp t.d__law_drawn.bd passN (xa_cons (xe_nm 1 (pv 1)) (xa_cons (xe_op op_add o_addI (xe_op op_add o_addI (xe_nm 3 (pv 3)) xe_int) (xe_nm 0 (pv 0))) (xa_cons (xe_nm 2 (pv 2)) xa_nil star_name) star_bin) star_name) star_name))⟩) xa_nil rfl) rfl))))
theorem sc__law_book:FnScope ["_law_script", "_law_at", "_law_many", "_law_turns", "_law_found", "_law_k", "_law_piece"] ["_law_script", "_law_at", "_law_many", "_law_turns"] (defScope s__law_book):=⟨rfl,rfl,rfl,by decide +kernel,rfl,by decide +kernel,by decide +kernel⟩
theorem ok__law_book (t:Txt K mg):FnOk P w K mg base (CX1 P w) 3 t.d__law_book.f t.d__law_book.fd ["_law_script", "_law_at", "_law_many", "_law_turns"] (spD K (clOf t) fn__law_book 4) :=
 show FnOk P w K mg base (CX1 P w) 3 t.d__law_book.f t.d__law_book.fd ["_law_script", "_law_at", "_law_many", "_law_turns"] (spD K (clOf t) (runD 7 g__law_book) 4) from
 fnD (N:=["_law_script", "_law_at", "_law_many", "_law_turns", "_law_found", "_law_k", "_law_piece"]) (ps:=["_law_script", "_law_at", "_law_many", "_law_turns"]) (k:=2) (m:=7) (n:=4) (g:=g__law_book) (cl:=clOf t) t.d__law_book.fn sc__law_book rfl rfl fun cdv A outer s H E hr =>
   (xss_cons (xs_compO (j:=4) sc__law_book.nd rfl rfl (x := "_law_k") (caps:=[]) (comp_ok (fs:=defScope s__law_book) (N:=["_law_script", "_law_at", "_law_many", "_law_turns", "_law_found", "_law_k", "_law_piece"]) rfl rfl (by decide +kernel)) rfl (xi_range1 rfl t.n_range (xa_cons (xe_nm 2 (pv 2)) xa_nil star_name) rfl) ⟨fun _ _ _ _ _=>(pg_name (i:=0) (nd_of (N:=["_law_k"]) rfl (by decide +kernel)) rfl (Or.inl rfl)),fun _ _ _ _ _=>xts_nil,fun _ _ _ _ _=>(xe_ix (xe_str (l:=[97,98,99,100]) (by decide +kernel) (T_ok (by decide +kernel) (by decide +kernel))) (xe_nm 0 (pv 0)) (fun _ _=>rfl))⟩ rfl)
   (xss_cons (xs_nox (xs_for (i:=5) PassesOwn.never rfl (xi_range1 rfl t.n_range (xa_cons (xe_nm 3 (pv 3)) xa_nil star_name) rfl) (pg_name (i:=5) sc__law_book.nd rfl (Or.inl rfl))
   (xss_cons (xs_pop (j:=6) sc__law_book.nd rfl (Or.inr rfl) (pv 4) (xe_fl (i:=4) (xe_call (ok__law_drawn t) (hr.mono (by decide)) rfl t.d__law_drawn.mg t.d__law_drawn.fn.kp t.d__law_drawn.bd passN (xa_cons (xe_nm 0 (pv 0)) (xa_cons (xe_op op_add o_addI (xe_nm 1 (pv 1)) (xe_nm 5 (pv 5))) (xa_cons (xe_callB call_len n_len rfl t.n_len boot_len (xa_cons (xe_nm 4 (pv 4)) xa_nil star_name) star_name) xa_nil star_call) star_bin) star_name) star_name)) ⟨star_call,rfl,rfl,rfl,rfl⟩)
   (xss_one (xs_ice (i:=4) (xs_setO (i:=4) sc__law_book.nd rfl (Or.inl rfl) (xl_sorted rfl t.n_sorted boot_sorted (XL.xe (xl_cat (xe_nm 4 (pv 4)) (xe_comp (x := "_law_j") (caps:=[6]) (comp_ok (fs:=defScope s__law_book) (N:=["_law_script", "_law_at", "_law_many", "_law_turns", "_law_found", "_law_k", "_law_piece"]) rfl rfl (by decide +kernel)) rfl (xi_range1 rfl t.n_range (xa_cons (xe_nm 2 (pv 2)) xa_nil star_name) rfl) ⟨fun _ _ _ _ _=>(pg_name (i:=0) (nd_of (N:=["_law_j", "_law_piece"]) rfl (by decide +kernel)) rfl (Or.inl rfl)),fun _ _ _ _ _=>xts_nil,fun _ _ _ _ _=>(xe_op op_addS o_addS (xe_nm 1 (pv 1)) (xe_ix (xe_str (l:=[97,98,99,100]) (by decide +kernel) (T_ok (by decide +kernel) (by decide +kernel))) (xe_nm 0 (pv 0)) (fun _ _=>rfl)))⟩))) star_bin)))))))
   (xss_one (xs_ice (i:=4) (xs_ret (xe_callTy call_tuple_of n_tup rfl t.n_tuple boot_tuple (xa_cons (xe_nm 4 (pv 4)) xa_nil star_name) star_name))))))
theorem sc_is_whole:FnScope ["thing"] ["thing"] (defScope s_is_whole):=⟨rfl,rfl,rfl,by decide +kernel,rfl,by decide +kernel,by decide +kernel⟩
theorem ok_is_whole (t:Txt K mg):FnOk P w K mg base (CX1 P w) 1 t.d_is_whole.f t.d_is_whole.fd ["thing"] (spD K (clOf t) fn_is_whole 1) :=
 show FnOk P w K mg base (CX1 P w) 1 t.d_is_whole.f t.d_is_whole.fd ["thing"] (spD K (clOf t) (runD 1 g_is_whole) 1) from
 fnD (N:=["thing"]) (ps:=["thing"]) (k:=0) (m:=1) (n:=1) (g:=g_is_whole) (cl:=clOf t) t.d_is_whole.fn sc_is_whole rfl rfl fun cdv A outer s H E hr =>
   (xss_one (xs_ret (xe_and (xe_isi kit_int rfl t.n_isinstance (xe_nm 0 (pv 0)) (pe_bltn (v:=.ty "int") rfl t.n_int boot_int rfl) star_name) (xe_one (xe_not (xe_isi kit_bool rfl t.n_isinstance (xe_nm 0 (pv 0)) (pe_bltn (v:=.ty "bool") rfl t.n_bool boot_bool rfl) star_name))))))
theorem sc_is_between:FnScope ["thing", "least", "most"] ["thing", "least", "most"] (defScope s_is_between):=⟨rfl,rfl,rfl,by decide +kernel,rfl,by decide +kernel,by decide +kernel⟩
theorem ok_is_between (t:Txt K mg):FnOk P w K mg base (CX1 P w) 2 t.d_is_between.f t.d_is_between.fd ["thing", "least", "most"] (spD K (clOf t) fn_is_between 3) :=
 show FnOk P w K mg base (CX1 P w) 2 t.d_is_between.f t.d_is_between.fd ["thing", "least", "most"] (spD K (clOf t) (runD 3 g_is_between) 3) from
 fnD (N:=["thing", "least", "most"]) (ps:=["thing", "least", "most"]) (k:=1) (m:=3) (n:=3) (g:=g_is_between) (cl:=clOf t) t.d_is_between.fn sc_is_between rfl rfl fun cdv A outer s H E hr =>
   (xss_one (xs_ret (xe_and (xe_call (ok_is_whole t) (hr.mono (by decide)) rfl t.d_is_whole.mg t.d_is_whole.fn.kp t.d_is_whole.bd pass1 (xa_cons (xe_nm 0 (pv 0)) xa_nil star_name) star_name) (xe_one (xe_chain op_le op_le o_leI o_leI (xe_nm 1 (pv 1)) (xe_nm 0 (pv 0)) (xe_nm 2 (pv 2)))))))
theorem sc_is_weight:FnScope ["thing"] ["thing"] (defScope s_is_weight):=⟨rfl,rfl,rfl,by decide +kernel,rfl,by decide +kernel,by decide +kernel⟩
theorem ok_is_weight (t:Txt K mg):FnOk P w K mg base (CX1 P w) 3 t.d_is_weight.f t.d_is_weight.fd ["thing"] (spD K (clOf t) fn_is_weight 1) :=
 show FnOk P w K mg base (CX1 P w) 3 t.d_is_weight.f t.d_is_weight.fd ["thing"] (spD K (clOf t) (runD 1 g_is_weight) 1) from
 fnD (N:=["thing"]) (ps:=["thing"]) (k:=2) (m:=1) (n:=1) (g:=g_is_weight) (cl:=clOf t) t.d_is_weight.fn sc_is_weight rfl rfl fun cdv A outer s H E hr =>
   (xss_one (xs_ret (xe_call (ok_is_between t) (hr.mono (by decide)) rfl t.d_is_between.mg t.d_is_between.fn.kp t.d_is_between.bd pass1 (xa_cons (xe_nm 0 (pv 0)) (xa_cons xe_int (xa_cons (xe_c (pe_glob (v:=.int (99)) rfl t.c_GREATEST_WEIGHT t.r_GREATEST_WEIGHT) fun _=>.int _) xa_nil star_name) star_const) star_name) star_name)))
theorem sc_is_source:FnScope ["thing"] ["thing"] (defScope s_is_source):=⟨rfl,rfl,rfl,by decide +kernel,rfl,by decide +kernel,by decide +kernel⟩
theorem ok_is_source (t:Txt K mg):FnOk P w K mg base (CX1 P w) 4 t.d_is_source.f t.d_is_source.fd ["thing"] (spD K (clOf t) fn_is_source 1) :=
 show FnOk P w K mg base (CX1 P w) 4 t.d_is_source.f t.d_is_source.fd ["thing"] (spD K (clOf t) (runD 1 g_is_source) 1) from
 fnD (N:=["thing"]) (ps:=["thing"]) (k:=3) (m:=1) (n:=1) (g:=g_is_source) (cl:=clOf t) t.d_is_source.fn sc_is_source rfl rfl fun cdv A outer s H E hr =>
   (xss_cons (xs_if (xt_not (xt_val (xe_isi kit_tuple rfl t.n_isinstance (xe_nm 0 (pv 0)) (pe_bltn (v:=.ty "tuple") rfl t.n_tuple boot_tuple rfl) star_name)))
   (xss_one (xs_ret xe_bl))
   xss_nil)
   (xss_cons (xs_if (xt_not (xt_chain op_le op_le o_leI o_leI (xe_c (pe_glob (v:=.int (2)) rfl t.c_FEWEST_LETTERS t.r_FEWEST_LETTERS) fun _=>.int _) (xe_callB call_len n_len rfl t.n_len boot_len (xa_cons (xe_nm 0 (pv 0)) xa_nil star_name) star_name) (xe_callB call_len n_len rfl t.n_len boot_len (xa_cons (xe_c (pe_glob (v:=.str (T [97,98,99,100])) rfl t.c_LETTERS t.r_LETTERS) fun _=>.str [97,98,99,100] (T_ok (by decide +kernel) (by decide +kernel))) xa_nil star_name) star_name)))
   (xss_one (xs_ret xe_bl))
   xss_nil)
   (xss_one (xs_ret (xe_callB (call_all rfl) n_all rfl t.n_all boot_all (xa_cons (xe_comp (x := "part") (caps:=[]) (comp_ok (fs:=defScope s_is_source) (N:=["thing"]) rfl rfl (by decide +kernel)) rfl (xi_tup (xe_nm 0 (pv 0))) ⟨fun _ _ _ _ _=>(pg_name (i:=0) (nd_of (N:=["part"]) rfl (by decide +kernel)) rfl (Or.inl rfl)),fun _ _ _ _ _=>xts_nil,fun _ _ _ _ _=>(xe_call (ok_is_weight t) (hr.mono (by decide)) rfl t.d_is_weight.mg t.d_is_weight.fn.kp t.d_is_weight.bd passN (xa_cons (xe_nm 0 (pv 0)) xa_nil star_name) star_name)⟩) xa_nil rfl) rfl)))))
theorem sc_require_source:FnScope ["thing"] ["thing"] (defScope s_require_source):=⟨rfl,rfl,rfl,by decide +kernel,rfl,by decide +kernel,by decide +kernel⟩
theorem ok_require_source (t:Txt K mg):FnOk P w K mg base (CX1 P w) 5 t.d_require_source.f t.d_require_source.fd ["thing"] (spD K (clOf t) fn_require_source 1) :=
 show FnOk P w K mg base (CX1 P w) 5 t.d_require_source.f t.d_require_source.fd ["thing"] (spD K (clOf t) (runD 1 g_require_source) 1) from
 fnD (N:=["thing"]) (ps:=["thing"]) (k:=4) (m:=1) (n:=1) (g:=g_require_source) (cl:=clOf t) t.d_require_source.fn sc_require_source rfl rfl fun cdv A outer s H E hr =>
   (xss_one (xs_if (xt_not (xt_val (xe_call (ok_is_source t) (hr.mono (by decide)) rfl t.d_is_source.mg t.d_is_source.fn.kp t.d_is_source.bd pass1 (xa_cons (xe_nm 0 (pv 0)) xa_nil star_name) star_name)))
   (xss_one (xs_raise t.x_NoSource rfl rfl (xa_cons (xe_str (l:=[116,104,105,115,32,105,115,32,110,111,32,116,117,112,108,101,32,111,102,32,50,32,116,111,32,52,32,119,101,105,103,104,116,115,32,102,114,111,109,32,49,32,116,111,32,57,57]) (by decide +kernel) (T_ok (by decide +kernel) (by decide +kernel))) xa_nil star_const) star_const))
   xss_nil))
theorem sc_is_rising:FnScope ["texts"] ["texts"] (defScope s_is_rising):=⟨rfl,rfl,rfl,by decide +kernel,rfl,by decide +kernel,by decide +kernel⟩
theorem ok_is_rising (t:Txt K mg):FnOk P w K mg base (CX1 P w) 1 t.d_is_rising.f t.d_is_rising.fd ["texts"] (spD K (clOf t) fn_is_rising 1) :=
 show FnOk P w K mg base (CX1 P w) 1 t.d_is_rising.f t.d_is_rising.fd ["texts"] (spD K (clOf t) (runD 1 g_is_rising) 1) from
 fnD (N:=["texts"]) (ps:=["texts"]) (k:=0) (m:=1) (n:=1) (g:=g_is_rising) (cl:=clOf t) t.d_is_rising.fn sc_is_rising rfl rfl fun cdv A outer s H E hr =>
   (xss_one (xs_ret (xe_callB (call_all rfl) n_all rfl t.n_all boot_all (xa_cons (XL.xe (xl_compZ (x := "one") (y := "other") (caps:=[]) (comp_ok (fs:=defScope s_is_rising) (N:=["texts"]) rfl rfl (by decide +kernel)) rfl rfl t.n_zip (xe_nm 0 (pv 0)) (xe_slice (xe_nm 0 (pv 0)) (xo_some xe_int) xo_none) ⟨fun _ _ _ _ _=>(pg_two (K:=K) (i:=0) (j:=1) rfl rfl (nd_of (N:=["one", "other"]) rfl (by decide +kernel)) rfl rfl (Or.inl rfl) (Or.inl rfl)),fun _ _ _ _ _=>xts_nil,fun _ _ _ _ _=>(xe_cmp op_lt_str o_ltS (xe_nm 0 (pv 0)) (xe_nm 1 (pv 1)) (nomark _))⟩ rfl rfl)) xa_nil rfl) rfl)))
theorem sc_is_number_of_letters:FnScope ["thing"] ["thing"] (defScope s_is_number_of_letters):=⟨rfl,rfl,rfl,by decide +kernel,rfl,by decide +kernel,by decide +kernel⟩
theorem ok_is_number_of_letters (t:Txt K mg):FnOk P w K mg base (CX1 P w) 3 t.d_is_number_of_letters.f t.d_is_number_of_letters.fd ["thing"] (spD K (clOf t) fn_is_number_of_letters 1) :=
 show FnOk P w K mg base (CX1 P w) 3 t.d_is_number_of_letters.f t.d_is_number_of_letters.fd ["thing"] (spD K (clOf t) (runD 1 g_is_number_of_letters) 1) from
 fnD (N:=["thing"]) (ps:=["thing"]) (k:=2) (m:=1) (n:=1) (g:=g_is_number_of_letters) (cl:=clOf t) t.d_is_number_of_letters.fn sc_is_number_of_letters rfl rfl fun cdv A outer s H E hr =>
   (xss_one (xs_ret (xe_call (ok_is_between t) (hr.mono (by decide)) rfl t.d_is_between.mg t.d_is_between.fn.kp t.d_is_between.bd pass1 (xa_cons (xe_nm 0 (pv 0)) (xa_cons (xe_c (pe_glob (v:=.int (2)) rfl t.c_FEWEST_LETTERS t.r_FEWEST_LETTERS) fun _=>.int _) (xa_cons (xe_callB call_len n_len rfl t.n_len boot_len (xa_cons (xe_c (pe_glob (v:=.str (T [97,98,99,100])) rfl t.c_LETTERS t.r_LETTERS) fun _=>.str [97,98,99,100] (T_ok (by decide +kernel) (by decide +kernel))) xa_nil star_name) star_name) xa_nil star_call) star_name) star_name) star_name)))
theorem sc_is_text_of:FnScope ["many", "thing", "letters"] ["many", "thing"] (defScope s_is_text_of):=⟨rfl,rfl,rfl,by decide +kernel,rfl,by decide +kernel,by decide +kernel⟩
theorem ok_is_text_of (t:Txt K mg):FnOk P w K mg base (CX1 P w) 1 t.d_is_text_of.f t.d_is_text_of.fd ["many", "thing"] (spD K (clOf t) fn_is_text_of 2) :=
 show FnOk P w K mg base (CX1 P w) 1 t.d_is_text_of.f t.d_is_text_of.fd ["many", "thing"] (spD K (clOf t) (runD 3 g_is_text_of) 2) from
 fnD (N:=["many", "thing", "letters"]) (ps:=["many", "thing"]) (k:=0) (m:=3) (n:=2) (g:=g_is_text_of) (cl:=clOf t) t.d_is_text_of.fn sc_is_text_of rfl rfl fun cdv A outer s H E hr =>
   (xss_cons (xs_set (i:=2) sc_is_text_of.nd rfl (Or.inr rfl) (xe_slice (xe_c (pe_glob (v:=.str (T [97,98,99,100])) rfl t.c_LETTERS t.r_LETTERS) fun _=>.str [97,98,99,100] (T_ok (by decide +kernel) (by decide +kernel))) xo_none (xo_some (xe_nm 0 (pv 0)))))
   (xss_one (xs_ret (xe_and (xe_isi kit_str rfl t.n_isinstance (xe_nm 1 (pv 1)) (pe_bltn (v:=.ty "str") rfl t.n_str boot_str rfl) star_name) (xe_one (xe_callB (call_all rfl) n_all rfl t.n_all boot_all (xa_cons (xe_comp (x := "sign") (caps:=[2]) (comp_ok (fs:=defScope s_is_text_of) (N:=["many", "thing", "letters"]) rfl rfl (by decide +kernel)) rfl (xi_str (xe_nm 1 (pv 1))) ⟨fun _ _ _ _ _=>(pg_name (i:=0) (nd_of (N:=["sign", "letters"]) rfl (by decide +kernel)) rfl (Or.inl rfl)),fun _ _ _ _ _=>xts_nil,fun _ _ _ _ _=>(xe_cmp op_inC o_inC (xe_nm 0 (pv 0)) (xe_nm 1 (pv 1)) (by with_unfolding_all rfl))⟩) xa_nil rfl) rfl))))))
theorem sc_are_pieces:FnScope ["many", "thing"] ["many", "thing"] (defScope s_are_pieces):=⟨rfl,rfl,rfl,by decide +kernel,rfl,by decide +kernel,by decide +kernel⟩
theorem ok_are_pieces (t:Txt K mg):FnOk P w K mg base (CX1 P w) 4 t.d_are_pieces.f t.d_are_pieces.fd ["many", "thing"] (spD K (clOf t) fn_are_pieces 2) :=
 show FnOk P w K mg base (CX1 P w) 4 t.d_are_pieces.f t.d_are_pieces.fd ["many", "thing"] (spD K (clOf t) (runD 2 g_are_pieces) 2) from
 fnD (N:=["many", "thing"]) (ps:=["many", "thing"]) (k:=3) (m:=2) (n:=2) (g:=g_are_pieces) (cl:=clOf t) t.d_are_pieces.fn sc_are_pieces rfl rfl fun cdv A outer s H E hr =>
   (xss_cons (xs_if (XW.xt (xw_or (xt_not (xt_val (xe_call (ok_is_number_of_letters t) (hr.mono (by decide)) rfl t.d_is_number_of_letters.mg t.d_is_number_of_letters.fn.kp t.d_is_number_of_letters.bd pass1 (xa_cons (xe_nm 0 (pv 0)) xa_nil star_name) star_name))) (xw_or1 (xt_not (xt_val (xe_isi kit_tuple rfl t.n_isinstance (xe_nm 1 (pv 1)) (pe_bltn (v:=.ty "tuple") rfl t.n_tuple boot_tuple rfl) star_name))))))
   (xss_one (xs_ret xe_bl))
   xss_nil)
   (xss_cons (xs_if (xt_not (xt_chain op_le op_le o_leI o_leI xe_int (xe_callB call_len n_len rfl t.n_len boot_len (xa_cons (xe_nm 1 (pv 1)) xa_nil star_name) star_name) (xe_c (pe_glob (v:=.int (32)) rfl t.c_MOST_PIECES t.r_MOST_PIECES) fun _=>.int _)))
   (xss_one (xs_ret xe_bl))
   xss_nil)
   (xss_cons (xs_if (xt_not (xt_val (xe_callB (call_all rfl) n_all rfl t.n_all boot_all (xa_cons (xe_comp (x := "part") (caps:=[0]) (comp_ok (fs:=defScope s_are_pieces) (N:=["many", "thing"]) rfl rfl (by decide +kernel)) rfl (xi_tup (xe_nm 1 (pv 1))) ⟨fun _ _ _ _ _=>(pg_name (i:=0) (nd_of (N:=["part", "many"]) rfl (by decide +kernel)) rfl (Or.inl rfl)),fun _ _ _ _ _=>xts_nil,fun _ _ _ _ _=>(xe_and (xe_call (ok_is_text_of t) (hr.mono (by decide)) rfl t.d_is_text_of.mg t.d_is_text_of.fn.kp t.d_is_text_of.bd passN (xa_cons (xe_nm 1 (pv 1)) (xa_cons (xe_nm 0 (pv 0)) xa_nil star_name) star_name) star_name) (xe_one (xe_cmp (op_neD hr.units) o_ne (xe_nm 0 (pv 0)) (xe_str (l:=[]) (by decide +kernel) (T_ok (by decide +kernel) (by decide +kernel))) (nomark _))))⟩) xa_nil rfl) rfl)))
   (xss_one (xs_ret xe_bl))
   xss_nil)
   (xss_one (xs_ret (xe_call (ok_is_rising t) (hr.mono (by decide)) rfl t.d_is_rising.mg t.d_is_rising.fn.kp t.d_is_rising.bd pass1 (xa_cons (xe_nm 1 (pv 1)) xa_nil star_name) star_name))))))
theorem sc_first_pair:FnScope ["pieces", "one", "other"] ["pieces"] (defScope s_first_pair):=⟨rfl,rfl,rfl,by decide +kernel,rfl,by decide +kernel,by decide +kernel⟩
theorem ok_first_pair (t:Txt K mg):FnOk P w K mg base (CX1 P w) 1 t.d_first_pair.f t.d_first_pair.fd ["pieces"] (spD K (clOf t) fn_first_pair 1) :=
 show FnOk P w K mg base (CX1 P w) 1 t.d_first_pair.f t.d_first_pair.fd ["pieces"] (spD K (clOf t) (runD 3 g_first_pair) 1) from
 fnD (N:=["pieces", "one", "other"]) (ps:=["pieces"]) (k:=0) (m:=3) (n:=1) (g:=g_first_pair) (cl:=clOf t) t.d_first_pair.fn sc_first_pair rfl rfl fun cdv A outer s H E hr =>
   (xss_cons (xs_nox (xs_forZ (i:=1) (j:=2) PassesOwn.never rfl rfl t.n_zip (xe_nm 0 (pv 0)) (xe_slice (xe_nm 0 (pv 0)) (xo_some xe_int) xo_none) (pg_two (K:=K) (i:=1) (j:=2) rfl rfl sc_first_pair.nd rfl rfl (Or.inl rfl) (Or.inl rfl))
   (xss_one (xs_if (xt_val (xe_starts (xe_nm 2 (pv 2)) (xe_nm 1 (pv 1)) ⟨star_name,rfl,rfl,rfl,rfl⟩))
   (xss_one (xs_ret (xe_tup (xa_cons (xe_nm 1 (pv 1)) (xa_cons (xe_nm 2 (pv 2)) xa_nil star_name) star_name))))
   xss_nil)) rfl rfl))
   (xss_one (xs_ret xe_non)))
theorem sc_gone_on:FnScope ["many", "texts", "longer", "text", "letter"] ["many", "texts"] (defScope s_gone_on):=⟨rfl,rfl,rfl,by decide +kernel,rfl,by decide +kernel,by decide +kernel⟩
theorem ok_gone_on (t:Txt K mg):FnOk P w K mg base (CX1 P w) 1 t.d_gone_on.f t.d_gone_on.fd ["many", "texts"] (spD K (clOf t) fn_gone_on 2) :=
 show FnOk P w K mg base (CX1 P w) 1 t.d_gone_on.f t.d_gone_on.fd ["many", "texts"] (spD K (clOf t) (runD 5 g_gone_on) 2) from
 fnD (N:=["many", "texts", "longer", "text", "letter"]) (ps:=["many", "texts"]) (k:=0) (m:=5) (n:=2) (g:=g_gone_on) (cl:=clOf t) t.d_gone_on.fn sc_gone_on rfl rfl fun cdv A outer s H E hr =>
   (xss_cons (xs_setO (i:=2) sc_gone_on.nd rfl (Or.inl rfl) (xl_lst xa_nil))
   (xss_cons (xs_nox (xs_for (i:=3) PassesOwn.never rfl (xi_list (xe_nm 1 (pv 1))) (pg_name (i:=3) sc_gone_on.nd rfl (Or.inl rfl))
   (xss_one (xs_for (i:=4) PassesOwn.never rfl (xi_str (xe_slice (xe_c (pe_glob (v:=.str (T [97,98,99,100])) rfl t.c_LETTERS t.r_LETTERS) fun _=>.str [97,98,99,100] (T_ok (by decide +kernel) (by decide +kernel))) xo_none (xo_some (xe_nm 0 (pv 0))))) (pg_name (i:=4) sc_gone_on.nd rfl (Or.inl rfl))
   (xss_one (xs_append (pv 2) (xe_op op_addS o_addS (xe_nm 3 (pv 3)) (xe_nm 4 (pv 4))) ⟨star_bin,rfl,rfl,rfl,rfl⟩))))))
   (xss_one (xs_ice (i:=2) (xs_ret (xe_nm 2 (pv 2)))))))
theorem sc_is_apart:FnScope ["pieces", "text"] ["pieces", "text"] (defScope s_is_apart):=⟨rfl,rfl,rfl,by decide +kernel,rfl,by decide +kernel,by decide +kernel⟩
theorem ok_is_apart (t:Txt K mg):FnOk P w K mg base (CX1 P w) 1 t.d_is_apart.f t.d_is_apart.fd ["pieces", "text"] (spD K (clOf t) fn_is_apart 2) :=
 show FnOk P w K mg base (CX1 P w) 1 t.d_is_apart.f t.d_is_apart.fd ["pieces", "text"] (spD K (clOf t) (runD 2 g_is_apart) 2) from
 fnD (N:=["pieces", "text"]) (ps:=["pieces", "text"]) (k:=0) (m:=2) (n:=2) (g:=g_is_apart) (cl:=clOf t) t.d_is_apart.fn sc_is_apart rfl rfl fun cdv A outer s H E hr =>
   (xss_one (xs_ret (xe_not (xe_callB (call_any rfl) n_any rfl t.n_any boot_any (xa_cons (xe_comp (x := "piece") (caps:=[1]) (comp_ok (fs:=defScope s_is_apart) (N:=["pieces", "text"]) rfl rfl (by decide +kernel)) rfl (xi_tup (xe_nm 0 (pv 0))) ⟨fun _ _ _ _ _=>(pg_name (i:=0) (nd_of (N:=["piece", "text"]) rfl (by decide +kernel)) rfl (Or.inl rfl)),fun _ _ _ _ _=>xts_nil,fun _ _ _ _ _=>(xe_or (xe_starts (xe_nm 0 (pv 0)) (xe_nm 1 (pv 1)) ⟨star_name,rfl,rfl,rfl,rfl⟩) (xe_one (xe_starts (xe_nm 1 (pv 1)) (xe_nm 0 (pv 0)) ⟨star_name,rfl,rfl,rfl,rfl⟩)))⟩) xa_nil rfl) rfl))))
theorem sc_is_inner:FnScope ["pieces", "text"] ["pieces", "text"] (defScope s_is_inner):=⟨rfl,rfl,rfl,by decide +kernel,rfl,by decide +kernel,by decide +kernel⟩
theorem ok_is_inner (t:Txt K mg):FnOk P w K mg base (CX1 P w) 1 t.d_is_inner.f t.d_is_inner.fd ["pieces", "text"] (spD K (clOf t) fn_is_inner 2) :=
 show FnOk P w K mg base (CX1 P w) 1 t.d_is_inner.f t.d_is_inner.fd ["pieces", "text"] (spD K (clOf t) (runD 2 g_is_inner) 2) from
 fnD (N:=["pieces", "text"]) (ps:=["pieces", "text"]) (k:=0) (m:=2) (n:=2) (g:=g_is_inner) (cl:=clOf t) t.d_is_inner.fn sc_is_inner rfl rfl fun cdv A outer s H E hr =>
   (xss_one (xs_ret (xe_callB (call_any rfl) n_any rfl t.n_any boot_any (xa_cons (xe_comp (x := "piece") (caps:=[1]) (comp_ok (fs:=defScope s_is_inner) (N:=["pieces", "text"]) rfl rfl (by decide +kernel)) rfl (xi_tup (xe_nm 0 (pv 0))) ⟨fun _ _ _ _ _=>(pg_name (i:=0) (nd_of (N:=["piece", "text"]) rfl (by decide +kernel)) rfl (Or.inl rfl)),fun _ _ _ _ _=>xts_nil,fun _ _ _ _ _=>(xe_and (xe_starts (xe_nm 0 (pv 0)) (xe_nm 1 (pv 1)) ⟨star_name,rfl,rfl,rfl,rfl⟩) (xe_one (xe_cmp (op_neD hr.units) o_ne (xe_nm 0 (pv 0)) (xe_nm 1 (pv 1)) (nomark _))))⟩) xa_nil rfl) rfl)))
theorem sc_first_text_apart:FnScope ["many", "pieces", "inner", "longer", "text"] ["many", "pieces"] (defScope s_first_text_apart):=⟨rfl,rfl,rfl,by decide +kernel,rfl,by decide +kernel,by decide +kernel⟩
theorem ok_first_text_apart (t:Txt K mg):FnOk P w K mg base (CX1 P w) 2 t.d_first_text_apart.f t.d_first_text_apart.fd ["many", "pieces"] (spD K (clOf t) fn_first_text_apart 2) :=
 show FnOk P w K mg base (CX1 P w) 2 t.d_first_text_apart.f t.d_first_text_apart.fd ["many", "pieces"] (spD K (clOf t) (runD 5 g_first_text_apart) 2) from
 fnD (N:=["many", "pieces", "inner", "longer", "text"]) (ps:=["many", "pieces"]) (k:=1) (m:=5) (n:=2) (g:=g_first_text_apart) (cl:=clOf t) t.d_first_text_apart.fn sc_first_text_apart rfl rfl fun cdv A outer s H E hr =>
   (xss_cons (xs_set (i:=2) sc_first_text_apart.nd rfl (Or.inl rfl) (XEw.out (yw_lst (yw_cons (yw_str (l:=[]) (by decide +kernel) (T_ok (by decide +kernel) (by decide +kernel))) yw_nil star_const))))
   (xss_cons (xs_nox (xs_while 2000 PassesOwn.never (xt_cmp (op_neD hr.units) o_ne (xe_nm 2 (pv 2)) (xe_lst xa_nil) (nomark _))
   (xss_cons (xs_set (i:=3) sc_first_text_apart.nd rfl (Or.inl rfl) (xe_call (ok_gone_on t) (hr.mono (by decide)) rfl t.d_gone_on.mg t.d_gone_on.fn.kp t.d_gone_on.bd passN (xa_cons (xe_nm 0 (pv 0)) (xa_cons (xe_nm 2 (pv 2)) xa_nil star_name) star_name) star_name))
   (xss_cons (xs_for (i:=4) PassesOwn.never rfl (xi_list (xe_nm 3 (pv 3))) (pg_name (i:=4) sc_first_text_apart.nd rfl (Or.inl rfl))
   (xss_one (xs_if (xt_val (xe_call (ok_is_apart t) (hr.mono (by decide)) rfl t.d_is_apart.mg t.d_is_apart.fn.kp t.d_is_apart.bd passN (xa_cons (xe_nm 1 (pv 1)) (xa_cons (xe_nm 4 (pv 4)) xa_nil star_name) star_name) star_name))
   (xss_one (xs_ret (xe_nm 4 (pv 4))))
   xss_nil)))
   (xss_one (xs_comp (j:=2) sc_first_text_apart.nd rfl rfl (x := "text") (caps:=[1]) (comp_ok (fs:=defScope s_first_text_apart) (N:=["many", "pieces", "inner", "longer", "text"]) rfl rfl (by decide +kernel)) rfl (xi_list (xe_nm 3 (pv 3))) ⟨fun _ _ _ _ _=>(pg_name (i:=0) (nd_of (N:=["text", "pieces"]) rfl (by decide +kernel)) rfl (Or.inl rfl)),fun _ _ _ _ _=>(xts_one (xt_val (xe_call (ok_is_inner t) (hr.mono (by decide)) rfl t.d_is_inner.mg t.d_is_inner.fn.kp t.d_is_inner.bd passN (xa_cons (xe_nm 1 (pv 1)) (xa_cons (xe_nm 0 (pv 0)) xa_nil star_name) star_name) star_name))),fun _ _ _ _ _=>(xe_nm 0 (pv 0))⟩ rfl))))))
   (xss_one (xs_ret xe_non))))
theorem sc_first_paper:FnScope ["many", "pieces", "pair"] ["many", "pieces"] (defScope s_first_paper):=⟨rfl,rfl,rfl,by decide +kernel,rfl,by decide +kernel,by decide +kernel⟩
theorem ok_first_paper (t:Txt K mg):FnOk P w K mg base (CX1 P w) 3 t.d_first_paper.f t.d_first_paper.fd ["many", "pieces"] (spD K (clOf t) fn_first_paper 2) :=
 show FnOk P w K mg base (CX1 P w) 3 t.d_first_paper.f t.d_first_paper.fd ["many", "pieces"] (spD K (clOf t) (runD 3 g_first_paper) 2) from
 fnD (N:=["many", "pieces", "pair"]) (ps:=["many", "pieces"]) (k:=2) (m:=3) (n:=2) (g:=g_first_paper) (cl:=clOf t) t.d_first_paper.fn sc_first_paper rfl rfl fun cdv A outer s H E hr =>
   (xss_cons (xs_set (i:=2) sc_first_paper.nd rfl (Or.inl rfl) (xe_call (ok_first_pair t) (hr.mono (by decide)) rfl t.d_first_pair.mg t.d_first_pair.fn.kp t.d_first_pair.bd pass1 (xa_cons (xe_nm 1 (pv 1)) xa_nil star_name) star_name))
   (xss_cons (xs_if (xt_notN (xe_nm 2 (pv 2)))
   (xss_one (xs_ret (xe_nm 2 (pv 2))))
   xss_nil)
   (xss_one (xs_ret (xe_call (ok_first_text_apart t) (hr.mono (by decide)) rfl t.d_first_text_apart.mg t.d_first_text_apart.fn.kp t.d_first_text_apart.bd pass1 (xa_cons (xe_nm 0 (pv 0)) (xa_cons (xe_nm 1 (pv 1)) xa_nil star_name) star_name) star_name)))))
theorem sc_is_book:FnScope ["many", "thing"] ["many", "thing"] (defScope s_is_book):=⟨rfl,rfl,rfl,by decide +kernel,rfl,by decide +kernel,by decide +kernel⟩
theorem ok_is_book (t:Txt K mg):FnOk P w K mg base (CX1 P w) 5 t.d_is_book.f t.d_is_book.fd ["many", "thing"] (spD K (clOf t) fn_is_book 2) :=
 show FnOk P w K mg base (CX1 P w) 5 t.d_is_book.f t.d_is_book.fd ["many", "thing"] (spD K (clOf t) (runD 2 g_is_book) 2) from
 fnD (N:=["many", "thing"]) (ps:=["many", "thing"]) (k:=4) (m:=2) (n:=2) (g:=g_is_book) (cl:=clOf t) t.d_is_book.fn sc_is_book rfl rfl fun cdv A outer s H E hr =>
   (xss_one (xs_ret (xe_and (xe_call (ok_are_pieces t) (hr.mono (by decide)) rfl t.d_are_pieces.mg t.d_are_pieces.fn.kp t.d_are_pieces.bd pass1 (xa_cons (xe_nm 0 (pv 0)) (xa_cons (xe_nm 1 (pv 1)) xa_nil star_name) star_name) star_name) (xe_one (xe_isN (xe_call (ok_first_paper t) (hr.mono (by decide)) rfl t.d_first_paper.mg t.d_first_paper.fn.kp t.d_first_paper.bd pass1 (xa_cons (xe_nm 0 (pv 0)) (xa_cons (xe_nm 1 (pv 1)) xa_nil star_name) star_name) star_name))))))
theorem sc_require_book:FnScope ["many", "thing"] ["many", "thing"] (defScope s_require_book):=⟨rfl,rfl,rfl,by decide +kernel,rfl,by decide +kernel,by decide +kernel⟩
theorem ok_require_book (t:Txt K mg):FnOk P w K mg base (CX1 P w) 6 t.d_require_book.f t.d_require_book.fd ["many", "thing"] (spD K (clOf t) fn_require_book 2) :=
 show FnOk P w K mg base (CX1 P w) 6 t.d_require_book.f t.d_require_book.fd ["many", "thing"] (spD K (clOf t) (runD 2 g_require_book) 2) from
 fnD (N:=["many", "thing"]) (ps:=["many", "thing"]) (k:=5) (m:=2) (n:=2) (g:=g_require_book) (cl:=clOf t) t.d_require_book.fn sc_require_book rfl rfl fun cdv A outer s H E hr =>
   (xss_one (xs_if (xt_not (xt_val (xe_call (ok_is_book t) (hr.mono (by decide)) rfl t.d_is_book.mg t.d_is_book.fn.kp t.d_is_book.bd pass1 (xa_cons (xe_nm 0 (pv 0)) (xa_cons (xe_nm 1 (pv 1)) xa_nil star_name) star_name) star_name)))
   (xss_one (xs_raise t.x_NoBook rfl rfl (xa_cons (xe_str (l:=[116,104,105,115,32,105,115,32,110,111,32,98,111,111,107,32,111,102,32,115,111,32,109,97,110,121,32,108,101,116,116,101,114,115]) (by decide +kernel) (T_ok (by decide +kernel) (by decide +kernel))) xa_nil star_const) star_const))
   xss_nil))
theorem sc_require_book_of:FnScope ["source", "thing"] ["source", "thing"] (defScope s_require_book_of):=⟨rfl,rfl,rfl,by decide +kernel,rfl,by decide +kernel,by decide +kernel⟩
theorem ok_require_book_of (t:Txt K mg):FnOk P w K mg base (CX1 P w) 7 t.d_require_book_of.f t.d_require_book_of.fd ["source", "thing"] (spD K (clOf t) fn_require_book_of 2) :=
 show FnOk P w K mg base (CX1 P w) 7 t.d_require_book_of.f t.d_require_book_of.fd ["source", "thing"] (spD K (clOf t) (runD 2 g_require_book_of) 2) from
 fnD (N:=["source", "thing"]) (ps:=["source", "thing"]) (k:=6) (m:=2) (n:=2) (g:=g_require_book_of) (cl:=clOf t) t.d_require_book_of.fn sc_require_book_of rfl rfl fun cdv A outer s H E hr =>
   (xss_cons (xs_expr (xe_call (ok_require_source t) (hr.mono (by decide)) rfl t.d_require_source.mg t.d_require_source.fn.kp t.d_require_source.bd pass1 (xa_cons (xe_nm 0 (pv 0)) xa_nil star_name) star_name))
   (xss_one (xs_expr (xe_call (ok_require_book t) (hr.mono (by decide)) rfl t.d_require_book.mg t.d_require_book.fn.kp t.d_require_book.bd pass1 (xa_cons (xe_callB call_len n_len rfl t.n_len boot_len (xa_cons (xe_nm 0 (pv 0)) xa_nil star_name) star_name) (xa_cons (xe_nm 1 (pv 1)) xa_nil star_name) star_call) star_call))))
theorem sc_require_text_of:FnScope ["many", "thing"] ["many", "thing"] (defScope s_require_text_of):=⟨rfl,rfl,rfl,by decide +kernel,rfl,by decide +kernel,by decide +kernel⟩
theorem ok_require_text_of (t:Txt K mg):FnOk P w K mg base (CX1 P w) 2 t.d_require_text_of.f t.d_require_text_of.fd ["many", "thing"] (spD K (clOf t) fn_require_text_of 2) :=
 show FnOk P w K mg base (CX1 P w) 2 t.d_require_text_of.f t.d_require_text_of.fd ["many", "thing"] (spD K (clOf t) (runD 2 g_require_text_of) 2) from
 fnD (N:=["many", "thing"]) (ps:=["many", "thing"]) (k:=1) (m:=2) (n:=2) (g:=g_require_text_of) (cl:=clOf t) t.d_require_text_of.fn sc_require_text_of rfl rfl fun cdv A outer s H E hr =>
   (xss_one (xs_if (xt_not (xt_val (xe_call (ok_is_text_of t) (hr.mono (by decide)) rfl t.d_is_text_of.mg t.d_is_text_of.fn.kp t.d_is_text_of.bd pass1 (xa_cons (xe_nm 0 (pv 0)) (xa_cons (xe_nm 1 (pv 1)) xa_nil star_name) star_name) star_name)))
   (xss_one (xs_raise t.x_NoLetters rfl rfl (xa_cons (xe_str (l:=[116,104,105,115,32,105,115,32,110,111,32,116,101,120,116,32,111,102,32,116,104,101,115,101,32,108,101,116,116,101,114,115]) (by decide +kernel) (T_ok (by decide +kernel) (by decide +kernel))) xa_nil star_const) star_const))
   xss_nil))
theorem sc_greatest_divisor:FnScope ["one", "other", "rest"] ["one", "other"] (defScope s_greatest_divisor):=⟨rfl,rfl,rfl,by decide +kernel,rfl,by decide +kernel,by decide +kernel⟩
theorem ok_greatest_divisor (t:Txt K mg):FnOk P w K mg base (CX1 P w) 1 t.d_greatest_divisor.f t.d_greatest_divisor.fd ["one", "other"] (spD K (clOf t) fn_greatest_divisor 2) :=
 show FnOk P w K mg base (CX1 P w) 1 t.d_greatest_divisor.f t.d_greatest_divisor.fd ["one", "other"] (spD K (clOf t) (runD 3 g_greatest_divisor) 2) from
 fnD (N:=["one", "other", "rest"]) (ps:=["one", "other"]) (k:=0) (m:=3) (n:=2) (g:=g_greatest_divisor) (cl:=clOf t) t.d_greatest_divisor.fn sc_greatest_divisor rfl rfl fun cdv A outer s H E hr =>
   (xss_cons (xs_nox (xs_while 4000 PassesOwn.never (xt_cmp (op_neD hr.units) o_ne (xe_nm 1 (pv 1)) xe_int (nomark _))
   (xss_cons (xs_set (i:=2) sc_greatest_divisor.nd rfl (Or.inl rfl) (xe_op op_mod o_modI (xe_nm 0 (pv 0)) (xe_nm 1 (pv 1))))
   (xss_cons (xs_set (i:=0) sc_greatest_divisor.nd rfl (Or.inl rfl) (xe_nm 1 (pv 1)))
   (xss_one (xs_set (i:=1) sc_greatest_divisor.nd rfl (Or.inl rfl) (xe_nm 2 (pv 2))))))))
   (xss_one (xs_ret (xe_nm 0 (pv 0)))))
theorem sc_lowest:FnScope ["up", "down", "divisor"] ["up", "down"] (defScope s_lowest):=⟨rfl,rfl,rfl,by decide +kernel,rfl,by decide +kernel,by decide +kernel⟩
theorem ok_lowest (t:Txt K mg):FnOk P w K mg base (CX1 P w) 2 t.d_lowest.f t.d_lowest.fd ["up", "down"] (spD K (clOf t) fn_lowest 2) :=
 show FnOk P w K mg base (CX1 P w) 2 t.d_lowest.f t.d_lowest.fd ["up", "down"] (spD K (clOf t) (runD 3 g_lowest) 2) from
 fnD (N:=["up", "down", "divisor"]) (ps:=["up", "down"]) (k:=1) (m:=3) (n:=2) (g:=g_lowest) (cl:=clOf t) t.d_lowest.fn sc_lowest rfl rfl fun cdv A outer s H E hr =>
   (xss_cons (xs_set (i:=2) sc_lowest.nd rfl (Or.inl rfl) (xe_call (ok_greatest_divisor t) (hr.mono (by decide)) rfl t.d_greatest_divisor.mg t.d_greatest_divisor.fn.kp t.d_greatest_divisor.bd pass1 (xa_cons (xe_nm 0 (pv 0)) (xa_cons (xe_nm 1 (pv 1)) xa_nil star_name) star_name) star_name))
   (xss_one (xs_ret (xe_tup (xa_cons (xe_op op_fdivS o_fdivI (xe_nm 0 (pv 0)) (xe_nm 2 (pv 2))) (xa_cons (xe_op op_fdivS o_fdivI (xe_nm 1 (pv 1)) (xe_nm 2 (pv 2))) xa_nil star_bin) star_bin)))))
theorem sc_share:FnScope ["source", "text", "weights", "whole", "up", "down", "letter"] ["source", "text"] (defScope s_share):=⟨rfl,rfl,rfl,by decide +kernel,rfl,by decide +kernel,by decide +kernel⟩
theorem ok_share (t:Txt K mg):FnOk P w K mg base (CX1 P w) 6 t.d_share.f t.d_share.fd ["source", "text"] (spD K (clOf t) fn_share 2) :=
 show FnOk P w K mg base (CX1 P w) 6 t.d_share.f t.d_share.fd ["source", "text"] (spD K (clOf t) (runD 7 g_share) 2) from
 fnD (N:=["source", "text", "weights", "whole", "up", "down", "letter"]) (ps:=["source", "text"]) (k:=5) (m:=7) (n:=2) (g:=g_share) (cl:=clOf t) t.d_share.fn sc_share rfl rfl fun cdv A outer s H E hr =>
   (xss_cons (xs_expr (xe_call (ok_require_source t) (hr.mono (by decide)) rfl t.d_require_source.mg t.d_require_source.fn.kp t.d_require_source.bd pass1 (xa_cons (xe_nm 0 (pv 0)) xa_nil star_name) star_name))
   (xss_cons (xs_expr (xe_call (ok_require_text_of t) (hr.mono (by decide)) rfl t.d_require_text_of.mg t.d_require_text_of.fn.kp t.d_require_text_of.bd pass1 (xa_cons (xe_callB call_len n_len rfl t.n_len boot_len (xa_cons (xe_nm 0 (pv 0)) xa_nil star_name) star_name) (xa_cons (xe_nm 1 (pv 1)) xa_nil star_name) star_call) star_call))
   (xss_cons (xs_set (i:=2) sc_share.nd rfl (Or.inl rfl) (xe_dictzipC rfl rfl t.n_dict rfl t.n_zip (xe_c (pe_glob (v:=.str (T [97,98,99,100])) rfl t.c_LETTERS t.r_LETTERS) fun _=>.str [97,98,99,100] (T_ok (by decide +kernel) (by decide +kernel))) (xe_nm 0 (pv 0))))
   (xss_cons (xs_set (i:=3) sc_share.nd rfl (Or.inl rfl) (xe_callB (call_sumT rfl) n_sum rfl t.n_sum boot_sum (xa_cons (xe_nm 0 (pv 0)) xa_nil star_name) star_name))
   (xss_cons (xs_set (i:=4) sc_share.nd rfl (Or.inl rfl) xe_int)
   (xss_cons (xs_set (i:=5) sc_share.nd rfl (Or.inl rfl) xe_int)
   (xss_cons (xs_nox (xs_for (i:=6) PassesOwn.never rfl (xi_str (xe_nm 1 (pv 1))) (pg_name (i:=6) sc_share.nd rfl (Or.inl rfl))
   (xss_cons (xs_set (i:=4) sc_share.nd rfl (Or.inl rfl) (xe_op op_mulS o_mulI (xe_nm 4 (pv 4)) (xe_get (hu_of hr) (xe_nm 2 (pv 2)) (xe_nm 6 (pv 6)))))
   (xss_one (xs_set (i:=5) sc_share.nd rfl (Or.inl rfl) (xe_op op_mulS o_mulI (xe_nm 5 (pv 5)) (xe_nm 3 (pv 3))))))))
   (xss_one (xs_ret (xe_call (ok_lowest t) (hr.mono (by decide)) rfl t.d_lowest.mg t.d_lowest.fn.kp t.d_lowest.bd pass1 (xa_cons (xe_nm 4 (pv 4)) (xa_cons (xe_nm 5 (pv 5)) xa_nil star_name) star_name) star_name))))))))))
theorem sc_added:FnScope ["one", "other"] ["one", "other"] (defScope s_added):=⟨rfl,rfl,rfl,by decide +kernel,rfl,by decide +kernel,by decide +kernel⟩
theorem ok_added (t:Txt K mg):FnOk P w K mg base (CX1 P w) 3 t.d_added.f t.d_added.fd ["one", "other"] (spD K (clOf t) fn_added 2) :=
 show FnOk P w K mg base (CX1 P w) 3 t.d_added.f t.d_added.fd ["one", "other"] (spD K (clOf t) (runD 2 g_added) 2) from
 fnD (N:=["one", "other"]) (ps:=["one", "other"]) (k:=2) (m:=2) (n:=2) (g:=g_added) (cl:=clOf t) t.d_added.fn sc_added rfl rfl fun cdv A outer s H E hr =>
   (xss_one (xs_ret (xe_call (ok_lowest t) (hr.mono (by decide)) rfl t.d_lowest.mg t.d_lowest.fn.kp t.d_lowest.bd pass1 (xa_cons (xe_op op_add o_addI (xe_op op_mulS o_mulI (xe_ix (xe_nm 0 (pv 0)) xe_int (fun _ _=>rfl)) (xe_ix (xe_nm 1 (pv 1)) xe_int (fun _ _=>rfl))) (xe_op op_mulS o_mulI (xe_ix (xe_nm 1 (pv 1)) xe_int (fun _ _=>rfl)) (xe_ix (xe_nm 0 (pv 0)) xe_int (fun _ _=>rfl)))) (xa_cons (xe_op op_mulS o_mulI (xe_ix (xe_nm 0 (pv 0)) xe_int (fun _ _=>rfl)) (xe_ix (xe_nm 1 (pv 1)) xe_int (fun _ _=>rfl))) xa_nil star_bin) star_bin) star_bin)))
theorem sc_mean:FnScope ["source", "book", "total", "piece", "part"] ["source", "book"] (defScope s_mean):=⟨rfl,rfl,rfl,by decide +kernel,rfl,by decide +kernel,by decide +kernel⟩
theorem ok_mean (t:Txt K mg):FnOk P w K mg base (CX1 P w) 8 t.d_mean.f t.d_mean.fd ["source", "book"] (spD K (clOf t) fn_mean 2) :=
 show FnOk P w K mg base (CX1 P w) 8 t.d_mean.f t.d_mean.fd ["source", "book"] (spD K (clOf t) (runD 5 g_mean) 2) from
 fnD (N:=["source", "book", "total", "piece", "part"]) (ps:=["source", "book"]) (k:=7) (m:=5) (n:=2) (g:=g_mean) (cl:=clOf t) t.d_mean.fn sc_mean rfl rfl fun cdv A outer s H E hr =>
   (xss_cons (xs_expr (xe_call (ok_require_book_of t) (hr.mono (by decide)) rfl t.d_require_book_of.mg t.d_require_book_of.fn.kp t.d_require_book_of.bd pass1 (xa_cons (xe_nm 0 (pv 0)) (xa_cons (xe_nm 1 (pv 1)) xa_nil star_name) star_name) star_name))
   (xss_cons (xs_set (i:=2) sc_mean.nd rfl (Or.inl rfl) (XEw.out (yw_tup (yw_cons yw_int (yw_cons yw_int yw_nil star_const) star_const))))
   (xss_cons (xs_nox (xs_for (i:=3) PassesOwn.never rfl (xi_tup (xe_nm 1 (pv 1))) (pg_name (i:=3) sc_mean.nd rfl (Or.inl rfl))
   (xss_cons (xs_set (i:=4) sc_mean.nd rfl (Or.inl rfl) (xe_call (ok_share t) (hr.mono (by decide)) rfl t.d_share.mg t.d_share.fn.kp t.d_share.bd passN (xa_cons (xe_nm 0 (pv 0)) (xa_cons (xe_nm 3 (pv 3)) xa_nil star_name) star_name) star_name))
   (xss_one (xs_set (i:=2) sc_mean.nd rfl (Or.inl rfl) (xe_call (ok_added t) (hr.mono (by decide)) rfl t.d_added.mg t.d_added.fn.kp t.d_added.bd passN (xa_cons (xe_nm 2 (pv 2)) (xa_cons (xe_tup (xa_cons (xe_op op_mulS o_mulI (xe_ix (xe_nm 4 (pv 4)) xe_int (fun _ _=>rfl)) (xe_callB call_len n_len rfl t.n_len boot_len (xa_cons (xe_nm 3 (pv 3)) xa_nil star_name) star_name)) (xa_cons (xe_ix (xe_nm 4 (pv 4)) xe_int (fun _ _=>rfl)) xa_nil star_sub) star_bin)) xa_nil star_tup) star_name) star_name))))))
   (xss_one (xs_ret (xe_nm 2 (pv 2)))))))
theorem sc_is_size:FnScope ["many", "thing"] ["many", "thing"] (defScope s_is_size):=⟨rfl,rfl,rfl,by decide +kernel,rfl,by decide +kernel,by decide +kernel⟩
theorem ok_is_size (t:Txt K mg):FnOk P w K mg base (CX1 P w) 4 t.d_is_size.f t.d_is_size.fd ["many", "thing"] (spD K (clOf t) fn_is_size 2) :=
 show FnOk P w K mg base (CX1 P w) 4 t.d_is_size.f t.d_is_size.fd ["many", "thing"] (spD K (clOf t) (runD 2 g_is_size) 2) from
 fnD (N:=["many", "thing"]) (ps:=["many", "thing"]) (k:=3) (m:=2) (n:=2) (g:=g_is_size) (cl:=clOf t) t.d_is_size.fn sc_is_size rfl rfl fun cdv A outer s H E hr =>
   (xss_one (xs_ret (xe_and (xe_call (ok_is_number_of_letters t) (hr.mono (by decide)) rfl t.d_is_number_of_letters.mg t.d_is_number_of_letters.fn.kp t.d_is_number_of_letters.bd pass1 (xa_cons (xe_nm 0 (pv 0)) xa_nil star_name) star_name) (xe_one (xe_call (ok_is_between t) (hr.mono (by decide)) rfl t.d_is_between.mg t.d_is_between.fn.kp t.d_is_between.bd pass1 (xa_cons (xe_nm 1 (pv 1)) (xa_cons (xe_nm 0 (pv 0)) (xa_cons (xe_c (pe_glob (v:=.int (32)) rfl t.c_MOST_PIECES t.r_MOST_PIECES) fun _=>.int _) xa_nil star_name) star_name) star_name) star_name)))))
theorem sc_require_size:FnScope ["many", "thing"] ["many", "thing"] (defScope s_require_size):=⟨rfl,rfl,rfl,by decide +kernel,rfl,by decide +kernel,by decide +kernel⟩
theorem ok_require_size (t:Txt K mg):FnOk P w K mg base (CX1 P w) 5 t.d_require_size.f t.d_require_size.fd ["many", "thing"] (spD K (clOf t) fn_require_size 2) :=
 show FnOk P w K mg base (CX1 P w) 5 t.d_require_size.f t.d_require_size.fd ["many", "thing"] (spD K (clOf t) (runD 2 g_require_size) 2) from
 fnD (N:=["many", "thing"]) (ps:=["many", "thing"]) (k:=4) (m:=2) (n:=2) (g:=g_require_size) (cl:=clOf t) t.d_require_size.fn sc_require_size rfl rfl fun cdv A outer s H E hr =>
   (xss_one (xs_if (xt_not (xt_val (xe_call (ok_is_size t) (hr.mono (by decide)) rfl t.d_is_size.mg t.d_is_size.fn.kp t.d_is_size.bd pass1 (xa_cons (xe_nm 0 (pv 0)) (xa_cons (xe_nm 1 (pv 1)) xa_nil star_name) star_name) star_name)))
   (xss_one (xs_raise t.x_NoSize rfl rfl (xa_cons (xe_str (l:=[116,104,105,115,32,105,115,32,110,111,32,115,105,122,101,32,102,114,111,109,32,97,115,32,109,97,110,121,32,97,115,32,116,104,101,114,101,32,97,114,101,32,108,101,116,116,101,114,115,44,32,50,32,116,111,32,52,44,32,116,111,32,51,50]) (by decide +kernel) (T_ok (by decide +kernel) (by decide +kernel))) xa_nil star_const) star_const))
   xss_nil))
theorem sc_even_book:FnScope ["many", "length", "texts", "step"] ["many", "length"] (defScope s_even_book):=⟨rfl,rfl,rfl,by decide +kernel,rfl,by decide +kernel,by decide +kernel⟩
theorem ok_even_book (t:Txt K mg):FnOk P w K mg base (CX1 P w) 2 t.d_even_book.f t.d_even_book.fd ["many", "length"] (spD K (clOf t) fn_even_book 2) :=
 show FnOk P w K mg base (CX1 P w) 2 t.d_even_book.f t.d_even_book.fd ["many", "length"] (spD K (clOf t) (runD 4 g_even_book) 2) from
 fnD (N:=["many", "length", "texts", "step"]) (ps:=["many", "length"]) (k:=1) (m:=4) (n:=2) (g:=g_even_book) (cl:=clOf t) t.d_even_book.fn sc_even_book rfl rfl fun cdv A outer s H E hr =>
   (xss_cons (xs_set (i:=2) sc_even_book.nd rfl (Or.inl rfl) (XEw.out (yw_lst (yw_cons (yw_str (l:=[]) (by decide +kernel) (T_ok (by decide +kernel) (by decide +kernel))) yw_nil star_const))))
   (xss_cons (xs_nox (xs_for (i:=3) PassesOwn.never rfl (xi_range1 rfl t.n_range (xa_cons (xe_nm 1 (pv 1)) xa_nil star_name) rfl) (pg_name (i:=3) sc_even_book.nd rfl (Or.inl rfl))
   (xss_one (xs_set (i:=2) sc_even_book.nd rfl (Or.inl rfl) (xe_call (ok_gone_on t) (hr.mono (by decide)) rfl t.d_gone_on.mg t.d_gone_on.fn.kp t.d_gone_on.bd passN (xa_cons (xe_nm 0 (pv 0)) (xa_cons (xe_nm 2 (pv 2)) xa_nil star_name) star_name) star_name)))))
   (xss_one (xs_ret (xe_callTy call_tuple_of n_tup rfl t.n_tuple boot_tuple (xa_cons (xe_nm 2 (pv 2)) xa_nil star_name) star_name)))))
theorem sc_first_book:FnScope ["many"] ["many"] (defScope s_first_book):=⟨rfl,rfl,rfl,by decide +kernel,rfl,by decide +kernel,by decide +kernel⟩
theorem ok_first_book (t:Txt K mg):FnOk P w K mg base (CX1 P w) 3 t.d_first_book.f t.d_first_book.fd ["many"] (spD K (clOf t) fn_first_book 1) :=
 show FnOk P w K mg base (CX1 P w) 3 t.d_first_book.f t.d_first_book.fd ["many"] (spD K (clOf t) (runD 1 g_first_book) 1) from
 fnD (N:=["many"]) (ps:=["many"]) (k:=2) (m:=1) (n:=1) (g:=g_first_book) (cl:=clOf t) t.d_first_book.fn sc_first_book rfl rfl fun cdv A outer s H E hr =>
   (xss_one (xs_ret (xe_call (ok_even_book t) (hr.mono (by decide)) rfl t.d_even_book.mg t.d_even_book.fn.kp t.d_even_book.bd pass1 (xa_cons (xe_nm 0 (pv 0)) (xa_cons xe_int xa_nil star_const) star_name) star_name)))
theorem sc_shares_of:FnScope ["source", "texts", "shares", "text"] ["source", "texts"] (defScope s_shares_of):=⟨rfl,rfl,rfl,by decide +kernel,rfl,by decide +kernel,by decide +kernel⟩
theorem okL_shares_of (t:Txt K mg):FnOk P w K mg base (CX1 P w) 7 t.d_shares_of.f t.d_shares_of.fd ["source", "texts"] (spD K (clOf t) fl_shares_of 2) :=
 fnD (N:=["source", "texts", "shares", "text"]) (ps:=["source", "texts"]) (k:=6) (m:=4) (n:=2) (cl:=clOf t) t.d_shares_of.fn sc_shares_of rfl rfl fun cdv A outer s H E hr =>
   (xss_cons (xs_newD (i:=2) sc_shares_of.nd rfl (Or.inl rfl))
   (xss_cons (xs_nox (xs_for (i:=3) PassesOwn.never rfl (xi_list (xe_nm 1 (pv 1))) (pg_name (i:=3) sc_shares_of.nd rfl (Or.inl rfl))
   (xss_one (xs_dput (hu_of hr) (pv 2) (xe_nm 3 (pv 3)) (xe_call (ok_share t) (hr.mono (by decide)) rfl t.d_share.mg t.d_share.fn.kp t.d_share.bd passN (xa_cons (xe_nm 0 (pv 0)) (xa_cons (xe_nm 3 (pv 3)) xa_nil star_name) star_name) star_name)))))
   (xss_one (xs_iceD (i:=2) (xs_ret (xe_nm 2 (pv 2)))))))
theorem okK_shares_of (t:Txt K mg):FnOk P w K mg base (CX1 P w) 7 t.d_shares_of.f t.d_shares_of.fd ["source", "texts"] (spK K (clOf t) fk_shares_of 2) :=
 fnK (N:=["source", "texts", "shares", "text"]) (ps:=["source", "texts"]) (k:=6) (m:=4) (n:=2) (i:=2) (g1:=(sNewD 2)) (g2:=(cutX (sFor 3 (fI tpD (fNm 1))
  (sPut 2 (fNm 3) (fA (ari 2 fn_share) (aCons (fNm 0) (aCons (fNm 3) aNil))))))) (cl:=clOf t) t.d_shares_of.fn sc_shares_of rfl rfl rfl fun cdv A outer s H E hr=>⟨(xs_newD (i:=2) sc_shares_of.nd rfl (Or.inl rfl)),(xs_nox (xs_for (i:=3) PassesOwn.never rfl (xi_tup (xe_nm 1 (pv 1))) (pg_name (i:=3) sc_shares_of.nd rfl (Or.inl rfl))
   (xss_one (xs_dput (hu_of hr) (pv 2) (xe_nm 3 (pv 3)) (xe_call (ok_share t) (hr.mono (by decide)) rfl t.d_share.mg t.d_share.fn.kp t.d_share.bd passN (xa_cons (xe_nm 0 (pv 0)) (xa_cons (xe_nm 3 (pv 3)) xa_nil star_name) star_name) star_name))))),pv 2⟩
theorem ok_shares_of (t:Txt K mg):FnOk P w K mg base (CX1 P w) 7 t.d_shares_of.f t.d_shares_of.fd ["source", "texts"] (spD K (clOf t) fn_shares_of 2) :=
 show FnOk P w K mg base (CX1 P w) 7 t.d_shares_of.f t.d_shares_of.fd ["source", "texts"] (spD K (clOf t) (runD 4 g_shares_of) 2) from
 fnD (N:=["source", "texts", "shares", "text"]) (ps:=["source", "texts"]) (k:=6) (m:=4) (n:=2) (g:=g_shares_of) (cl:=clOf t) t.d_shares_of.fn sc_shares_of rfl rfl fun cdv A outer s H E hr =>
   (xss_cons (xs_newD (i:=2) sc_shares_of.nd rfl (Or.inl rfl))
   (xss_cons (xs_nox (xs_for (i:=3) PassesOwn.never rfl (xi_tup (xe_nm 1 (pv 1))) (pg_name (i:=3) sc_shares_of.nd rfl (Or.inl rfl))
   (xss_one (xs_dput (hu_of hr) (pv 2) (xe_nm 3 (pv 3)) (xe_call (ok_share t) (hr.mono (by decide)) rfl t.d_share.mg t.d_share.fn.kp t.d_share.bd passN (xa_cons (xe_nm 0 (pv 0)) (xa_cons (xe_nm 3 (pv 3)) xa_nil star_name) star_name) star_name)))))
   (xss_one (xs_iceD (i:=2) (xs_ret (xe_nm 2 (pv 2)))))))
theorem sc_most_partings:FnScope ["many", "size"] ["many", "size"] (defScope s_most_partings):=⟨rfl,rfl,rfl,by decide +kernel,rfl,by decide +kernel,by decide +kernel⟩
theorem ok_most_partings (t:Txt K mg):FnOk P w K mg base (CX1 P w) 1 t.d_most_partings.f t.d_most_partings.fd ["many", "size"] (spD K (clOf t) fn_most_partings 2) :=
 show FnOk P w K mg base (CX1 P w) 1 t.d_most_partings.f t.d_most_partings.fd ["many", "size"] (spD K (clOf t) (runD 2 g_most_partings) 2) from
 fnD (N:=["many", "size"]) (ps:=["many", "size"]) (k:=0) (m:=2) (n:=2) (g:=g_most_partings) (cl:=clOf t) t.d_most_partings.fn sc_most_partings rfl rfl fun cdv A outer s H E hr =>
   (xss_one (xs_ret (xe_op op_fdivS o_fdivI (xe_op op_sub o_subI (xe_nm 1 (pv 1)) xe_int) (xe_op op_sub o_subI (xe_nm 0 (pv 0)) xe_int))))
theorem sc_is_less:FnScope ["one", "other"] ["one", "other"] (defScope s_is_less):=⟨rfl,rfl,rfl,by decide +kernel,rfl,by decide +kernel,by decide +kernel⟩
theorem ok_is_less (t:Txt K mg):FnOk P w K mg base (CX1 P w) 1 t.d_is_less.f t.d_is_less.fd ["one", "other"] (spD K (clOf t) fn_is_less 2) :=
 show FnOk P w K mg base (CX1 P w) 1 t.d_is_less.f t.d_is_less.fd ["one", "other"] (spD K (clOf t) (runD 2 g_is_less) 2) from
 fnD (N:=["one", "other"]) (ps:=["one", "other"]) (k:=0) (m:=2) (n:=2) (g:=g_is_less) (cl:=clOf t) t.d_is_less.fn sc_is_less rfl rfl fun cdv A outer s H E hr =>
   (xss_one (xs_ret (xe_cmp op_lt o_ltI (xe_op op_mulS o_mulI (xe_ix (xe_nm 0 (pv 0)) xe_int (fun _ _=>rfl)) (xe_ix (xe_nm 1 (pv 1)) xe_int (fun _ _=>rfl))) (xe_op op_mulS o_mulI (xe_ix (xe_nm 1 (pv 1)) xe_int (fun _ _=>rfl)) (xe_ix (xe_nm 0 (pv 0)) xe_int (fun _ _=>rfl))) (nomark _))))
theorem sc_first_greatest:FnScope ["pieces", "shares", "found", "piece"] ["pieces", "shares"] (defScope s_first_greatest):=⟨rfl,rfl,rfl,by decide +kernel,rfl,by decide +kernel,by decide +kernel⟩
theorem ok_first_greatest (t:Txt K mg):FnOk P w K mg base (CX1 P w) 2 t.d_first_greatest.f t.d_first_greatest.fd ["pieces", "shares"] (spD K (clOf t) fn_first_greatest 2) :=
 show FnOk P w K mg base (CX1 P w) 2 t.d_first_greatest.f t.d_first_greatest.fd ["pieces", "shares"] (spD K (clOf t) (runD 4 g_first_greatest) 2) from
 fnD (N:=["pieces", "shares", "found", "piece"]) (ps:=["pieces", "shares"]) (k:=1) (m:=4) (n:=2) (g:=g_first_greatest) (cl:=clOf t) t.d_first_greatest.fn sc_first_greatest rfl rfl fun cdv A outer s H E hr =>
   (xss_cons (xs_set (i:=2) sc_first_greatest.nd rfl (Or.inl rfl) (xe_ix (xe_nm 0 (pv 0)) xe_int (fun _ _=>rfl)))
   (xss_cons (xs_nox (xs_for (i:=3) PassesOwn.never rfl (xi_tup (xe_nm 0 (pv 0))) (pg_name (i:=3) sc_first_greatest.nd rfl (Or.inl rfl))
   (xss_one (xs_if (xt_val (xe_call (ok_is_less t) (hr.mono (by decide)) rfl t.d_is_less.mg t.d_is_less.fn.kp t.d_is_less.bd passN (xa_cons (xe_get (hu_of hr) (xe_nm 1 (pv 1)) (xe_nm 2 (pv 2))) (xa_cons (xe_get (hu_of hr) (xe_nm 1 (pv 1)) (xe_nm 3 (pv 3))) xa_nil star_sub) star_sub) star_sub))
   (xss_one (xs_set (i:=2) sc_first_greatest.nd rfl (Or.inl rfl) (xe_nm 3 (pv 3))))
   xss_nil))))
   (xss_one (xs_ret (xe_nm 2 (pv 2))))))
theorem sc_parted:FnScope ["many", "pieces", "piece", "place"] ["many", "pieces", "piece"] (defScope s_parted):=⟨rfl,rfl,rfl,by decide +kernel,rfl,by decide +kernel,by decide +kernel⟩
theorem ok_parted (t:Txt K mg):FnOk P w K mg base (CX1 P w) 2 t.d_parted.f t.d_parted.fd ["many", "pieces", "piece"] (spD K (clOf t) fn_parted 3) :=
 show FnOk P w K mg base (CX1 P w) 2 t.d_parted.f t.d_parted.fd ["many", "pieces", "piece"] (spD K (clOf t) (runD 4 g_parted) 3) from
 fnD (N:=["many", "pieces", "piece", "place"]) (ps:=["many", "pieces", "piece"]) (k:=1) (m:=4) (n:=3) (g:=g_parted) (cl:=clOf t) t.d_parted.fn sc_parted rfl rfl fun cdv A outer s H E hr =>
   (xss_cons (xs_set (i:=3) sc_parted.nd rfl (Or.inl rfl) (xe_idxT (xe_nm 1 (pv 1)) (xe_nm 2 (pv 2)) ⟨star_name,rfl,rfl,rfl,rfl⟩))
   (xss_one (xs_ret (xe_op op_catU o_addT (xe_op op_catU o_addT (xe_slice (xe_nm 1 (pv 1)) xo_none (xo_some (xe_nm 3 (pv 3)))) (xe_callTy call_tuple_of n_tup rfl t.n_tuple boot_tuple (xa_cons (xe_call (ok_gone_on t) (hr.mono (by decide)) rfl t.d_gone_on.mg t.d_gone_on.fn.kp t.d_gone_on.bd pass1 (xa_cons (xe_nm 0 (pv 0)) (xa_cons (xe_lst (xa_cons (xe_nm 2 (pv 2)) xa_nil star_name)) xa_nil star_lst) star_name) star_name) xa_nil star_call) star_call)) (xe_slice (xe_nm 1 (pv 1)) (xo_some (xe_op op_add o_addI (xe_nm 3 (pv 3)) xe_int)) xo_none)))))
theorem sc_best_book:FnScope ["source", "size", "many", "pieces", "shares", "step", "piece"] ["source", "size"] (defScope s_best_book):=⟨rfl,rfl,rfl,by decide +kernel,rfl,by decide +kernel,by decide +kernel⟩
theorem ok_best_book (t:Txt K mg):FnOk P w K mg base (CX1 P w) 8 t.d_best_book.f t.d_best_book.fd ["source", "size"] (spD K (clOf t) fn_best_book 2) :=
 show FnOk P w K mg base (CX1 P w) 8 t.d_best_book.f t.d_best_book.fd ["source", "size"] (spD K (clOf t) (runD 7 g_best_book) 2) from
 fnD (N:=["source", "size", "many", "pieces", "shares", "step", "piece"]) (ps:=["source", "size"]) (k:=7) (m:=7) (n:=2) (g:=g_best_book) (cl:=clOf t) t.d_best_book.fn sc_best_book rfl rfl fun cdv A outer s H E hr =>
   (xss_cons (xs_expr (xe_call (ok_require_source t) (hr.mono (by decide)) rfl t.d_require_source.mg t.d_require_source.fn.kp t.d_require_source.bd pass1 (xa_cons (xe_nm 0 (pv 0)) xa_nil star_name) star_name))
   (xss_cons (xs_set (i:=2) sc_best_book.nd rfl (Or.inl rfl) (xe_callB call_len n_len rfl t.n_len boot_len (xa_cons (xe_nm 0 (pv 0)) xa_nil star_name) star_name))
   (xss_cons (xs_expr (xe_call (ok_require_size t) (hr.mono (by decide)) rfl t.d_require_size.mg t.d_require_size.fn.kp t.d_require_size.bd pass1 (xa_cons (xe_nm 2 (pv 2)) (xa_cons (xe_nm 1 (pv 1)) xa_nil star_name) star_name) star_name))
   (xss_cons (xs_set (i:=3) sc_best_book.nd rfl (Or.inl rfl) (xe_call (ok_first_book t) (hr.mono (by decide)) rfl t.d_first_book.mg t.d_first_book.fn.kp t.d_first_book.bd pass1 (xa_cons (xe_nm 2 (pv 2)) xa_nil star_name) star_name))
   (xss_cons (xs_setK (i:=4) sc_best_book.nd rfl (Or.inl rfl) (okK_shares_of t) (hr.mono (by decide)) rfl t.d_shares_of.mg t.d_shares_of.fn.kp t.d_shares_of.bd pass1 (xa_cons (xe_nm 0 (pv 0)) (xa_cons (xe_nm 3 (pv 3)) xa_nil star_name) star_name) star_name)
   (xss_cons (xs_nox (xs_for (i:=5) PassesOwn.never rfl (xi_range2 rfl t.n_range (xa_cons xe_int (xa_cons (xe_call (ok_most_partings t) (hr.mono (by decide)) rfl t.d_most_partings.mg t.d_most_partings.fn.kp t.d_most_partings.bd passN (xa_cons (xe_nm 2 (pv 2)) (xa_cons (xe_nm 1 (pv 1)) xa_nil star_name) star_name) star_name) xa_nil star_call) star_const) rfl rfl) (pg_name (i:=5) sc_best_book.nd rfl (Or.inl rfl))
   (xss_cons (xs_set (i:=6) sc_best_book.nd rfl (Or.inl rfl) (xe_flD (i:=4) (xe_call (ok_first_greatest t) (hr.mono (by decide)) rfl t.d_first_greatest.mg t.d_first_greatest.fn.kp t.d_first_greatest.bd passN (xa_cons (xe_nm 3 (pv 3)) (xa_cons (xe_nm 4 (pv 4)) xa_nil star_name) star_name) star_name)))
   (xss_cons (xs_set (i:=3) sc_best_book.nd rfl (Or.inl rfl) (xe_call (ok_parted t) (hr.mono (by decide)) rfl t.d_parted.mg t.d_parted.fn.kp t.d_parted.bd passN (xa_cons (xe_nm 2 (pv 2)) (xa_cons (xe_nm 3 (pv 3)) (xa_cons (xe_nm 6 (pv 6)) xa_nil star_name) star_name) star_name) star_name))
   (xss_one (xs_update (pv 4) (xe_call (okL_shares_of t) (hr.mono (by decide)) rfl t.d_shares_of.mg t.d_shares_of.fn.kp t.d_shares_of.bd passN (xa_cons (xe_nm 0 (pv 0)) (xa_cons (xe_call (ok_gone_on t) (hr.mono (by decide)) rfl t.d_gone_on.mg t.d_gone_on.fn.kp t.d_gone_on.bd passN (xa_cons (xe_nm 2 (pv 2)) (xa_cons (xe_lst (xa_cons (xe_nm 6 (pv 6)) xa_nil star_name)) xa_nil star_lst) star_name) star_name) xa_nil star_call) star_name) star_name) ⟨star_call,rfl,rfl,rfl,rfl⟩))))))
   (xss_one (xs_ret (xe_nm 3 (pv 3))))))))))
theorem sc_greatest_mean:FnScope ["source", "size"] ["source", "size"] (defScope s_greatest_mean):=⟨rfl,rfl,rfl,by decide +kernel,rfl,by decide +kernel,by decide +kernel⟩
theorem ok_greatest_mean (t:Txt K mg):FnOk P w K mg base (CX1 P w) 9 t.d_greatest_mean.f t.d_greatest_mean.fd ["source", "size"] (spD K (clOf t) fn_greatest_mean 2) :=
 show FnOk P w K mg base (CX1 P w) 9 t.d_greatest_mean.f t.d_greatest_mean.fd ["source", "size"] (spD K (clOf t) (runD 2 g_greatest_mean) 2) from
 fnD (N:=["source", "size"]) (ps:=["source", "size"]) (k:=8) (m:=2) (n:=2) (g:=g_greatest_mean) (cl:=clOf t) t.d_greatest_mean.fn sc_greatest_mean rfl rfl fun cdv A outer s H E hr =>
   (xss_one (xs_ret (xe_call (ok_mean t) (hr.mono (by decide)) rfl t.d_mean.mg t.d_mean.fn.kp t.d_mean.bd pass1 (xa_cons (xe_nm 0 (pv 0)) (xa_cons (xe_call (ok_best_book t) (hr.mono (by decide)) rfl t.d_best_book.mg t.d_best_book.fn.kp t.d_best_book.bd pass1 (xa_cons (xe_nm 0 (pv 0)) (xa_cons (xe_nm 1 (pv 1)) xa_nil star_name) star_name) star_name) xa_nil star_call) star_name) star_name)))
theorem sc_greatest_piece:FnScope ["source", "book"] ["source", "book"] (defScope s_greatest_piece):=⟨rfl,rfl,rfl,by decide +kernel,rfl,by decide +kernel,by decide +kernel⟩
theorem ok_greatest_piece (t:Txt K mg):FnOk P w K mg base (CX1 P w) 8 t.d_greatest_piece.f t.d_greatest_piece.fd ["source", "book"] (spD K (clOf t) fn_greatest_piece 2) :=
 show FnOk P w K mg base (CX1 P w) 8 t.d_greatest_piece.f t.d_greatest_piece.fd ["source", "book"] (spD K (clOf t) (runD 2 g_greatest_piece) 2) from
 fnD (N:=["source", "book"]) (ps:=["source", "book"]) (k:=7) (m:=2) (n:=2) (g:=g_greatest_piece) (cl:=clOf t) t.d_greatest_piece.fn sc_greatest_piece rfl rfl fun cdv A outer s H E hr =>
   (xss_cons (xs_expr (xe_call (ok_require_book_of t) (hr.mono (by decide)) rfl t.d_require_book_of.mg t.d_require_book_of.fn.kp t.d_require_book_of.bd pass1 (xa_cons (xe_nm 0 (pv 0)) (xa_cons (xe_nm 1 (pv 1)) xa_nil star_name) star_name) star_name))
   (xss_one (xs_ret (xe_call (ok_first_greatest t) (hr.mono (by decide)) rfl t.d_first_greatest.mg t.d_first_greatest.fn.kp t.d_first_greatest.bd pass1 (xa_cons (xe_nm 1 (pv 1)) (xa_cons (xe_call (ok_shares_of t) (hr.mono (by decide)) rfl t.d_shares_of.mg t.d_shares_of.fn.kp t.d_shares_of.bd pass1 (xa_cons (xe_nm 0 (pv 0)) (xa_cons (xe_nm 1 (pv 1)) xa_nil star_name) star_name) star_name) xa_nil star_call) star_name) star_name))))
theorem sc_inner_of:FnScope ["book", "found", "piece", "end"] ["book"] (defScope s_inner_of):=⟨rfl,rfl,rfl,by decide +kernel,rfl,by decide +kernel,by decide +kernel⟩
theorem ok_inner_of (t:Txt K mg):FnOk P w K mg base (CX1 P w) 1 t.d_inner_of.f t.d_inner_of.fd ["book"] (spD K (clOf t) fn_inner_of 1) :=
 show FnOk P w K mg base (CX1 P w) 1 t.d_inner_of.f t.d_inner_of.fd ["book"] (spD K (clOf t) (runD 4 g_inner_of) 1) from
 fnD (N:=["book", "found", "piece", "end"]) (ps:=["book"]) (k:=0) (m:=4) (n:=1) (g:=g_inner_of) (cl:=clOf t) t.d_inner_of.fn sc_inner_of rfl rfl fun cdv A outer s H E hr =>
   (xss_cons (xs_newD (i:=1) sc_inner_of.nd rfl (Or.inl rfl))
   (xss_cons (xs_nox (xs_for (i:=2) PassesOwn.never rfl (xi_tup (xe_nm 0 (pv 0))) (pg_name (i:=2) sc_inner_of.nd rfl (Or.inl rfl))
   (xss_one (xs_for (i:=3) PassesOwn.never rfl (xi_range1 rfl t.n_range (xa_cons (xe_callB call_len n_len rfl t.n_len boot_len (xa_cons (xe_nm 2 (pv 2)) xa_nil star_name) star_name) xa_nil star_call) rfl) (pg_name (i:=3) sc_inner_of.nd rfl (Or.inl rfl))
   (xss_one (xs_dput (hu_of hr) (pv 1) (xe_slice (xe_nm 2 (pv 2)) xo_none (xo_some (xe_nm 3 (pv 3)))) xe_bl))))))
   (xss_one (xs_ret (XL.xe (xl_sortedD rfl rfl t.n_sorted (pv 1) star_name))))))
theorem sc_least_inner:FnScope ["source", "book", "least", "text", "part"] ["source", "book"] (defScope s_least_inner):=⟨rfl,rfl,rfl,by decide +kernel,rfl,by decide +kernel,by decide +kernel⟩
theorem ok_least_inner (t:Txt K mg):FnOk P w K mg base (CX1 P w) 8 t.d_least_inner.f t.d_least_inner.fd ["source", "book"] (spD K (clOf t) fn_least_inner 2) :=
 show FnOk P w K mg base (CX1 P w) 8 t.d_least_inner.f t.d_least_inner.fd ["source", "book"] (spD K (clOf t) (runD 5 g_least_inner) 2) from
 fnD (N:=["source", "book", "least", "text", "part"]) (ps:=["source", "book"]) (k:=7) (m:=5) (n:=2) (g:=g_least_inner) (cl:=clOf t) t.d_least_inner.fn sc_least_inner rfl rfl fun cdv A outer s H E hr =>
   (xss_cons (xs_expr (xe_call (ok_require_book_of t) (hr.mono (by decide)) rfl t.d_require_book_of.mg t.d_require_book_of.fn.kp t.d_require_book_of.bd pass1 (xa_cons (xe_nm 0 (pv 0)) (xa_cons (xe_nm 1 (pv 1)) xa_nil star_name) star_name) star_name))
   (xss_cons (xs_set (i:=2) sc_least_inner.nd rfl (Or.inl rfl) (XEw.out (yw_tup (yw_cons yw_int (yw_cons yw_int yw_nil star_const) star_const))))
   (xss_cons (xs_nox (xs_for (i:=3) PassesOwn.never rfl (xi_list (xe_call (ok_inner_of t) (hr.mono (by decide)) rfl t.d_inner_of.mg t.d_inner_of.fn.kp t.d_inner_of.bd passN (xa_cons (xe_nm 1 (pv 1)) xa_nil star_name) star_name)) (pg_name (i:=3) sc_least_inner.nd rfl (Or.inl rfl))
   (xss_cons (xs_set (i:=4) sc_least_inner.nd rfl (Or.inl rfl) (xe_call (ok_share t) (hr.mono (by decide)) rfl t.d_share.mg t.d_share.fn.kp t.d_share.bd passN (xa_cons (xe_nm 0 (pv 0)) (xa_cons (xe_nm 3 (pv 3)) xa_nil star_name) star_name) star_name))
   (xss_one (xs_if (xt_val (xe_call (ok_is_less t) (hr.mono (by decide)) rfl t.d_is_less.mg t.d_is_less.fn.kp t.d_is_less.bd passN (xa_cons (xe_nm 4 (pv 4)) (xa_cons (xe_nm 2 (pv 2)) xa_nil star_name) star_name) star_name))
   (xss_one (xs_set (i:=2) sc_least_inner.nd rfl (Or.inl rfl) (xe_nm 4 (pv 4))))
   xss_nil)))))
   (xss_one (xs_ret (xe_nm 2 (pv 2)))))))
theorem sc_is_best:FnScope ["source", "book", "greatest"] ["source", "book"] (defScope s_is_best):=⟨rfl,rfl,rfl,by decide +kernel,rfl,by decide +kernel,by decide +kernel⟩
theorem ok_is_best (t:Txt K mg):FnOk P w K mg base (CX1 P w) 9 t.d_is_best.f t.d_is_best.fd ["source", "book"] (spD K (clOf t) fn_is_best 2) :=
 show FnOk P w K mg base (CX1 P w) 9 t.d_is_best.f t.d_is_best.fd ["source", "book"] (spD K (clOf t) (runD 3 g_is_best) 2) from
 fnD (N:=["source", "book", "greatest"]) (ps:=["source", "book"]) (k:=8) (m:=3) (n:=2) (g:=g_is_best) (cl:=clOf t) t.d_is_best.fn sc_is_best rfl rfl fun cdv A outer s H E hr =>
   (xss_cons (xs_set (i:=2) sc_is_best.nd rfl (Or.inl rfl) (xe_call (ok_share t) (hr.mono (by decide)) rfl t.d_share.mg t.d_share.fn.kp t.d_share.bd pass1 (xa_cons (xe_nm 0 (pv 0)) (xa_cons (xe_call (ok_greatest_piece t) (hr.mono (by decide)) rfl t.d_greatest_piece.mg t.d_greatest_piece.fn.kp t.d_greatest_piece.bd pass1 (xa_cons (xe_nm 0 (pv 0)) (xa_cons (xe_nm 1 (pv 1)) xa_nil star_name) star_name) star_name) xa_nil star_call) star_name) star_name))
   (xss_one (xs_ret (xe_not (xe_call (ok_is_less t) (hr.mono (by decide)) rfl t.d_is_less.mg t.d_is_less.fn.kp t.d_is_less.bd pass1 (xa_cons (xe_call (ok_least_inner t) (hr.mono (by decide)) rfl t.d_least_inner.mg t.d_least_inner.fn.kp t.d_least_inner.bd pass1 (xa_cons (xe_nm 0 (pv 0)) (xa_cons (xe_nm 1 (pv 1)) xa_nil star_name) star_name) star_name) (xa_cons (xe_nm 2 (pv 2)) xa_nil star_name) star_call) star_call)))))
theorem sc_better:FnScope ["source", "book"] ["source", "book"] (defScope s_better):=⟨rfl,rfl,rfl,by decide +kernel,rfl,by decide +kernel,by decide +kernel⟩
theorem ok_better (t:Txt K mg):FnOk P w K mg base (CX1 P w) 10 t.d_better.f t.d_better.fd ["source", "book"] (spD K (clOf t) fn_better 2) :=
 show FnOk P w K mg base (CX1 P w) 10 t.d_better.f t.d_better.fd ["source", "book"] (spD K (clOf t) (runD 2 g_better) 2) from
 fnD (N:=["source", "book"]) (ps:=["source", "book"]) (k:=9) (m:=2) (n:=2) (g:=g_better) (cl:=clOf t) t.d_better.fn sc_better rfl rfl fun cdv A outer s H E hr =>
   (xss_cons (xs_if (xt_val (xe_call (ok_is_best t) (hr.mono (by decide)) rfl t.d_is_best.mg t.d_is_best.fn.kp t.d_is_best.bd pass1 (xa_cons (xe_nm 0 (pv 0)) (xa_cons (xe_nm 1 (pv 1)) xa_nil star_name) star_name) star_name))
   (xss_one (xs_ret xe_non))
   xss_nil)
   (xss_one (xs_ret (xe_call (ok_best_book t) (hr.mono (by decide)) rfl t.d_best_book.mg t.d_best_book.fn.kp t.d_best_book.bd pass1 (xa_cons (xe_nm 0 (pv 0)) (xa_cons (xe_callB call_len n_len rfl t.n_len boot_len (xa_cons (xe_nm 1 (pv 1)) xa_nil star_name) star_name) xa_nil star_call) star_name) star_name))))
theorem sc_law:FnScope ["_law_script", "_law_many", "_law_source_here", "_law_book_here", "_law_top", "_law_turns", "_law_more", "_law_size", "_law_best"] ["_law_script"] (defScope s_law):=⟨rfl,rfl,rfl,by decide +kernel,rfl,by decide +kernel,by decide +kernel⟩
theorem ok_law (t:Txt K mg):FnOk P w K mg base (CX1 P w) 11 t.d_law.f t.d_law.fd ["_law_script"] (spD K (clOf t) fn_law 1) :=
 show FnOk P w K mg base (CX1 P w) 11 t.d_law.f t.d_law.fd ["_law_script"] (spD K (clOf t) (runD 9 g_law) 1) from
 fnD (N:=["_law_script", "_law_many", "_law_source_here", "_law_book_here", "_law_top", "_law_turns", "_law_more", "_law_size", "_law_best"]) (ps:=["_law_script"]) (k:=10) (m:=9) (n:=1) (g:=g_law) (cl:=clOf t) t.d_law.fn sc_law rfl rfl fun cdv A outer s H E hr =>
   (xss_cons (xs_set (i:=1) sc_law.nd rfl (Or.inl rfl) (xe_op op_add o_addI xe_int (xe_call (ok__law_drawn t) (hr.mono (by decide)) rfl t.d__law_drawn.mg t.d__law_drawn.fn.kp t.d__law_drawn.bd pass1 (xa_cons (xe_nm 0 (pv 0)) (xa_cons xe_int (xa_cons xe_int xa_nil star_const) star_const) star_name) star_name)))
   (xss_cons (xs_set (i:=2) sc_law.nd rfl (Or.inl rfl) (xe_call (ok__law_source t) (hr.mono (by decide)) rfl t.d__law_source.mg t.d__law_source.fn.kp t.d__law_source.bd pass1 (xa_cons (xe_nm 0 (pv 0)) (xa_cons xe_int (xa_cons (xe_nm 1 (pv 1)) xa_nil star_name) star_const) star_name) star_name))
   (xss_cons (xs_set (i:=3) sc_law.nd rfl (Or.inl rfl) (xe_call (ok__law_book t) (hr.mono (by decide)) rfl t.d__law_book.mg t.d__law_book.fn.kp t.d__law_book.bd pass1 (xa_cons (xe_nm 0 (pv 0)) (xa_cons xe_int (xa_cons (xe_nm 1 (pv 1)) (xa_cons (xe_call (ok__law_drawn t) (hr.mono (by decide)) rfl t.d__law_drawn.mg t.d__law_drawn.fn.kp t.d__law_drawn.bd pass1 (xa_cons (xe_nm 0 (pv 0)) (xa_cons xe_int (xa_cons xe_int xa_nil star_const) star_const) star_name) star_name) xa_nil star_call) star_name) star_const) star_name) star_name))
   (xss_cons (xs_set (i:=4) sc_law.nd rfl (Or.inl rfl) (xe_call (ok_greatest_mean t) (hr.mono (by decide)) rfl t.d_greatest_mean.mg t.d_greatest_mean.fn.kp t.d_greatest_mean.bd pass1 (xa_cons (xe_nm 2 (pv 2)) (xa_cons (xe_callB call_len n_len rfl t.n_len boot_len (xa_cons (xe_nm 3 (pv 3)) xa_nil star_name) star_name) xa_nil star_call) star_name) star_name))
   (xss_cons (xs_set (i:=5) sc_law.nd rfl (Or.inl rfl) xe_int)
   (xss_cons (xs_nox (xs_while 25 PassesOwn.never (XW.xt (xw_and (xt_not (xt_val (xe_call (ok_is_best t) (hr.mono (by decide)) rfl t.d_is_best.mg t.d_is_best.fn.kp t.d_is_best.bd passN (xa_cons (xe_nm 2 (pv 2)) (xa_cons (xe_nm 3 (pv 3)) xa_nil star_name) star_name) star_name))) (xw_and1 (xt_cmp op_lt o_ltI (xe_nm 5 (pv 5)) xe_int (nomark _)))))
   (xss_cons (xs_set (i:=6) sc_law.nd rfl (Or.inl rfl) (xe_call (ok_better t) (hr.mono (by decide)) rfl t.d_better.mg t.d_better.fn.kp t.d_better.bd passN (xa_cons (xe_nm 2 (pv 2)) (xa_cons (xe_nm 3 (pv 3)) xa_nil star_name) star_name) star_name))
   (xss_cons (xs_if (XW.xt (xw_or (xt_not (xt_val (xe_call (ok_is_book t) (hr.mono (by decide)) rfl t.d_is_book.mg t.d_is_book.fn.kp t.d_is_book.bd passN (xa_cons (xe_nm 1 (pv 1)) (xa_cons (xe_nm 6 (pv 6)) xa_nil star_name) star_name) star_name))) (xw_or (xt_cmp (op_neD hr.units) o_ne (xe_callB call_len n_len rfl t.n_len boot_len (xa_cons (xe_nm 6 (pv 6)) xa_nil star_name) star_name) (xe_callB call_len n_len rfl t.n_len boot_len (xa_cons (xe_nm 3 (pv 3)) xa_nil star_name) star_name) (nomark _)) (xw_or1 (xt_not (xt_val (xe_call (ok_is_less t) (hr.mono (by decide)) rfl t.d_is_less.mg t.d_is_less.fn.kp t.d_is_less.bd passN (xa_cons (xe_call (ok_mean t) (hr.mono (by decide)) rfl t.d_mean.mg t.d_mean.fn.kp t.d_mean.bd passN (xa_cons (xe_nm 2 (pv 2)) (xa_cons (xe_nm 3 (pv 3)) xa_nil star_name) star_name) star_name) (xa_cons (xe_call (ok_mean t) (hr.mono (by decide)) rfl t.d_mean.mg t.d_mean.fn.kp t.d_mean.bd passN (xa_cons (xe_nm 2 (pv 2)) (xa_cons (xe_nm 6 (pv 6)) xa_nil star_name) star_name) star_name) xa_nil star_call) star_call) star_call)))))))
   (xss_one (xs_ret xe_bl))
   xss_nil)
   (xss_cons (xs_if (xt_cmp (op_eqD hr.units) o_eq (xe_call (ok_mean t) (hr.mono (by decide)) rfl t.d_mean.mg t.d_mean.fn.kp t.d_mean.bd passN (xa_cons (xe_nm 2 (pv 2)) (xa_cons (xe_nm 3 (pv 3)) xa_nil star_name) star_name) star_name) (xe_nm 4 (pv 4)) (nomark _))
   (xss_one (xs_ret xe_bl))
   xss_nil)
   (xss_cons (xs_if (xt_not (xt_val (xe_call (ok_is_less t) (hr.mono (by decide)) rfl t.d_is_less.mg t.d_is_less.fn.kp t.d_is_less.bd passN (xa_cons (xe_call (ok_least_inner t) (hr.mono (by decide)) rfl t.d_least_inner.mg t.d_least_inner.fn.kp t.d_least_inner.bd passN (xa_cons (xe_nm 2 (pv 2)) (xa_cons (xe_nm 3 (pv 3)) xa_nil star_name) star_name) star_name) (xa_cons (xe_call (ok_share t) (hr.mono (by decide)) rfl t.d_share.mg t.d_share.fn.kp t.d_share.bd passN (xa_cons (xe_nm 2 (pv 2)) (xa_cons (xe_call (ok_greatest_piece t) (hr.mono (by decide)) rfl t.d_greatest_piece.mg t.d_greatest_piece.fn.kp t.d_greatest_piece.bd passN (xa_cons (xe_nm 2 (pv 2)) (xa_cons (xe_nm 3 (pv 3)) xa_nil star_name) star_name) star_name) xa_nil star_call) star_name) star_name) xa_nil star_call) star_call) star_call)))
   (xss_one (xs_ret xe_bl))
   xss_nil)
   (xss_cons (xs_set (i:=3) sc_law.nd rfl (Or.inl rfl) (xe_nm 6 (pv 6)))
   (xss_one (xs_set (i:=5) sc_law.nd rfl (Or.inl rfl) (xe_op op_add o_addI (xe_nm 5 (pv 5)) xe_int))))))))))
   (xss_cons (xs_if (XW.xt (xw_or (xt_notN (xe_call (ok_better t) (hr.mono (by decide)) rfl t.d_better.mg t.d_better.fn.kp t.d_better.bd pass1 (xa_cons (xe_nm 2 (pv 2)) (xa_cons (xe_nm 3 (pv 3)) xa_nil star_name) star_name) star_name)) (xw_or1 (xt_cmp (op_neD hr.units) o_ne (xe_call (ok_mean t) (hr.mono (by decide)) rfl t.d_mean.mg t.d_mean.fn.kp t.d_mean.bd pass1 (xa_cons (xe_nm 2 (pv 2)) (xa_cons (xe_nm 3 (pv 3)) xa_nil star_name) star_name) star_name) (xe_nm 4 (pv 4)) (nomark _)))))
   (xss_one (xs_ret xe_bl))
   xss_nil)
   (xss_cons (xs_if (xt_val (xe_call (ok_is_less t) (hr.mono (by decide)) rfl t.d_is_less.mg t.d_is_less.fn.kp t.d_is_less.bd pass1 (xa_cons (xe_call (ok_least_inner t) (hr.mono (by decide)) rfl t.d_least_inner.mg t.d_least_inner.fn.kp t.d_least_inner.bd pass1 (xa_cons (xe_nm 2 (pv 2)) (xa_cons (xe_nm 3 (pv 3)) xa_nil star_name) star_name) star_name) (xa_cons (xe_call (ok_share t) (hr.mono (by decide)) rfl t.d_share.mg t.d_share.fn.kp t.d_share.bd pass1 (xa_cons (xe_nm 2 (pv 2)) (xa_cons (xe_call (ok_greatest_piece t) (hr.mono (by decide)) rfl t.d_greatest_piece.mg t.d_greatest_piece.fn.kp t.d_greatest_piece.bd pass1 (xa_cons (xe_nm 2 (pv 2)) (xa_cons (xe_nm 3 (pv 3)) xa_nil star_name) star_name) star_name) xa_nil star_call) star_name) star_name) xa_nil star_call) star_call) star_call))
   (xss_one (xs_ret xe_bl))
   xss_nil)
   (xss_cons (xs_set (i:=7) sc_law.nd rfl (Or.inl rfl) (xe_op op_add o_addI (xe_nm 1 (pv 1)) (xe_call (ok__law_drawn t) (hr.mono (by decide)) rfl t.d__law_drawn.mg t.d__law_drawn.fn.kp t.d__law_drawn.bd pass1 (xa_cons (xe_nm 0 (pv 0)) (xa_cons xe_int (xa_cons xe_int xa_nil star_const) star_const) star_name) star_name)))
   (xss_cons (xs_set (i:=8) sc_law.nd rfl (Or.inl rfl) (xe_call (ok_best_book t) (hr.mono (by decide)) rfl t.d_best_book.mg t.d_best_book.fn.kp t.d_best_book.bd pass1 (xa_cons (xe_nm 2 (pv 2)) (xa_cons (xe_nm 7 (pv 7)) xa_nil star_name) star_name) star_name))
   (xss_cons (xs_if (XW.xt (xw_or (xt_not (xt_val (xe_call (ok_is_best t) (hr.mono (by decide)) rfl t.d_is_best.mg t.d_is_best.fn.kp t.d_is_best.bd pass1 (xa_cons (xe_nm 2 (pv 2)) (xa_cons (xe_nm 8 (pv 8)) xa_nil star_name) star_name) star_name))) (xw_or1 (xt_not (xt_chain op_le op_le o_leI o_leI (xe_op op_add o_addI (xe_op op_sub o_subI (xe_nm 7 (pv 7)) (xe_nm 1 (pv 1))) xe_int) (xe_callB call_len n_len rfl t.n_len boot_len (xa_cons (xe_nm 8 (pv 8)) xa_nil star_name) star_name) (xe_nm 7 (pv 7)))))))
   (xss_one (xs_ret xe_bl))
   xss_nil)
   (xss_cons (xs_if (xt_cmp (op_neD hr.units) o_ne (xe_call (ok_mean t) (hr.mono (by decide)) rfl t.d_mean.mg t.d_mean.fn.kp t.d_mean.bd pass1 (xa_cons (xe_nm 2 (pv 2)) (xa_cons (xe_nm 8 (pv 8)) xa_nil star_name) star_name) star_name) (xe_call (ok_greatest_mean t) (hr.mono (by decide)) rfl t.d_greatest_mean.mg t.d_greatest_mean.fn.kp t.d_greatest_mean.bd pass1 (xa_cons (xe_nm 2 (pv 2)) (xa_cons (xe_nm 7 (pv 7)) xa_nil star_name) star_name) star_name) (nomark _))
   (xss_one (xs_ret xe_bl))
   xss_nil)
   (xss_cons (xs_if (xt_val (xe_call (ok_is_less t) (hr.mono (by decide)) rfl t.d_is_less.mg t.d_is_less.fn.kp t.d_is_less.bd pass1 (xa_cons (xe_call (ok_greatest_mean t) (hr.mono (by decide)) rfl t.d_greatest_mean.mg t.d_greatest_mean.fn.kp t.d_greatest_mean.bd pass1 (xa_cons (xe_nm 2 (pv 2)) (xa_cons (xe_op op_add o_addI (xe_nm 7 (pv 7)) xe_int) xa_nil star_bin) star_name) star_name) (xa_cons (xe_call (ok_greatest_mean t) (hr.mono (by decide)) rfl t.d_greatest_mean.mg t.d_greatest_mean.fn.kp t.d_greatest_mean.bd pass1 (xa_cons (xe_nm 2 (pv 2)) (xa_cons (xe_nm 7 (pv 7)) xa_nil star_name) star_name) star_name) xa_nil star_call) star_call) star_call))
   (xss_one (xs_ret xe_bl))
   xss_nil)
   (xss_one (xs_ret (xe_cmp (op_eqD hr.units) o_eq (xe_call (ok_greatest_mean t) (hr.mono (by decide)) rfl t.d_greatest_mean.mg t.d_greatest_mean.fn.kp t.d_greatest_mean.bd pass1 (xa_cons (xe_revT (xe_nm 2 (pv 2)) (pe_un un_neg pe_int)) (xa_cons (xe_nm 7 (pv 7)) xa_nil star_name) star_sub) star_sub) (xe_call (ok_greatest_mean t) (hr.mono (by decide)) rfl t.d_greatest_mean.mg t.d_greatest_mean.fn.kp t.d_greatest_mean.bd pass1 (xa_cons (xe_nm 2 (pv 2)) (xa_cons (xe_nm 7 (pv 7)) xa_nil star_name) star_name) star_name) (nomark _)))))))))))))))))
end
end K31
namespace K31
open PySem L2
theorem all_mk {l:PySem.W.OpenLaw}{w:World}{K:PySem.W.Frag}{h:Heap}{mg:Str→Option Value}{fa:Addr}(X:K.In h)(G:h.Ns mainGlobals mg)(hfa:mg "law" = some (.ref fa))
  {vFEWEST_LETTERS vGREATEST_WEIGHT vLETTERS vMOST_PIECES:Value}
  (a0:Dz K "_law_cell" s__law_cell)
  (a1:Dz K "_law_drawn" s__law_drawn)
  (a2:Dz K "_law_source" s__law_source)
  (a3:Dz K "_law_book" s__law_book)
  (a4:Dz K "is_whole" s_is_whole)
  (a5:Dz K "is_between" s_is_between)
  (a6:Dz K "is_weight" s_is_weight)
  (a7:Dz K "is_source" s_is_source)
  (a8:Dz K "require_source" s_require_source)
  (a9:Dz K "is_rising" s_is_rising)
  (a10:Dz K "is_number_of_letters" s_is_number_of_letters)
  (a11:Dz K "is_text_of" s_is_text_of)
  (a12:Dz K "are_pieces" s_are_pieces)
  (a13:Dz K "first_pair" s_first_pair)
  (a14:Dz K "gone_on" s_gone_on)
  (a15:Dz K "is_apart" s_is_apart)
  (a16:Dz K "is_inner" s_is_inner)
  (a17:Dz K "first_text_apart" s_first_text_apart)
  (a18:Dz K "first_paper" s_first_paper)
  (a19:Dz K "is_book" s_is_book)
  (a20:Dz K "require_book" s_require_book)
  (a21:Dz K "require_book_of" s_require_book_of)
  (a22:Dz K "require_text_of" s_require_text_of)
  (a23:Dz K "greatest_divisor" s_greatest_divisor)
  (a24:Dz K "lowest" s_lowest)
  (a25:Dz K "share" s_share)
  (a26:Dz K "added" s_added)
  (a27:Dz K "mean" s_mean)
  (a28:Dz K "is_size" s_is_size)
  (a29:Dz K "require_size" s_require_size)
  (a30:Dz K "even_book" s_even_book)
  (a31:Dz K "first_book" s_first_book)
  (a32:Dz K "shares_of" s_shares_of)
  (a33:Dz K "most_partings" s_most_partings)
  (a34:Dz K "is_less" s_is_less)
  (a35:Dz K "first_greatest" s_first_greatest)
  (a36:Dz K "parted" s_parted)
  (a37:Dz K "best_book" s_best_book)
  (a38:Dz K "greatest_mean" s_greatest_mean)
  (a39:Dz K "greatest_piece" s_greatest_piece)
  (a40:Dz K "inner_of" s_inner_of)
  (a41:Dz K "least_inner" s_least_inner)
  (a42:Dz K "is_best" s_is_best)
  (a43:Dz K "better" s_better)
  (a44:Dz K "law" s_law)
  (wFEWEST_LETTERS:PySem.W.nsIn K mainGlobals "FEWEST_LETTERS" = some (some vFEWEST_LETTERS)) (rFEWEST_LETTERS:RelV (.int (2)) vFEWEST_LETTERS)
  (wGREATEST_WEIGHT:PySem.W.nsIn K mainGlobals "GREATEST_WEIGHT" = some (some vGREATEST_WEIGHT)) (rGREATEST_WEIGHT:RelV (.int (99)) vGREATEST_WEIGHT)
  (wLETTERS:PySem.W.nsIn K mainGlobals "LETTERS" = some (some vLETTERS)) (rLETTERS:RelV (.str (T [97,98,99,100])) vLETTERS)
  (wMOST_PIECES:PySem.W.nsIn K mainGlobals "MOST_PIECES" = some (some vMOST_PIECES)) (rMOST_PIECES:RelV (.int (32)) vMOST_PIECES)
  (zall:PySem.W.nsIn K mainGlobals "all" = some none)
  (zany:PySem.W.nsIn K mainGlobals "any" = some none)
  (zbool:PySem.W.nsIn K mainGlobals "bool" = some none)
  (zdict:PySem.W.nsIn K mainGlobals "dict" = some none)
  (zint:PySem.W.nsIn K mainGlobals "int" = some none)
  (zisinstance:PySem.W.nsIn K mainGlobals "isinstance" = some none)
  (zlen:PySem.W.nsIn K mainGlobals "len" = some none)
  (zrange:PySem.W.nsIn K mainGlobals "range" = some none)
  (zsorted:PySem.W.nsIn K mainGlobals "sorted" = some none)
  (zstr:PySem.W.nsIn K mainGlobals "str" = some none)
  (zsum:PySem.W.nsIn K mainGlobals "sum" = some none)
  (ztuple:PySem.W.nsIn K mainGlobals "tuple" = some none)
  (zzip:PySem.W.nsIn K mainGlobals "zip" = some none)
  {xa_NoBook xa_NoLetters xa_NoSize xa_NoSource:Addr}
  (y_NoBook:PySem.W.nsIn K mainGlobals "NoBook" = some (some (.ref xa_NoBook))) (q_NoBook:PySem.W.excIn K xa_NoBook [.type "ValueError", .type "Exception", .type "BaseException", .type "object"] "ValueError.__new__" = true)
  (y_NoLetters:PySem.W.nsIn K mainGlobals "NoLetters" = some (some (.ref xa_NoLetters))) (q_NoLetters:PySem.W.excIn K xa_NoLetters [.type "ValueError", .type "Exception", .type "BaseException", .type "object"] "ValueError.__new__" = true)
  (y_NoSize:PySem.W.nsIn K mainGlobals "NoSize" = some (some (.ref xa_NoSize))) (q_NoSize:PySem.W.excIn K xa_NoSize [.type "ValueError", .type "Exception", .type "BaseException", .type "object"] "ValueError.__new__" = true)
  (y_NoSource:PySem.W.nsIn K mainGlobals "NoSource" = some (some (.ref xa_NoSource))) (q_NoSource:PySem.W.excIn K xa_NoSource [.type "ValueError", .type "Exception", .type "BaseException", .type "object"] "ValueError.__new__" = true) :
  ∃fd:FuncData,(∀(s:Shared) (v:Value),BindsTo s fd ⟨[v],[]⟩ [("_law_script", v)])∧∀base:Heap,K.In base→base.Ns mainGlobals mg→FnOk l.prog w K mg base CX0 11 fa fd ["_law_script"] (sp_law K):=by
 obtain⟨aL,lL,cL,kL⟩:=a44
 have e:=hfa.symm.trans (PySem.W.mg_of X G aL)
 cases e
 have FL:=fun_mk (st:=s_law) lL cL kL
 have bL:=FL.binds (ps:=["_law_script"]) (fun _ _ _ _ _ _=>bd1 fun _=>rfl)
 obtain⟨D0⟩:=a0.dn X G ["_law_script", "_law_k"] (fun _ _ _ _ _ _=>bd2 fun _ _=>rfl)
 obtain⟨D1⟩:=a1.dn X G ["_law_script", "_law_k", "_law_many"] (fun _ _ _ _ _ _=>bd3 fun _ _ _=>rfl)
 obtain⟨D2⟩:=a2.dn X G ["_law_script", "_law_at", "_law_many"] (fun _ _ _ _ _ _=>bd3 fun _ _ _=>rfl)
 obtain⟨D3⟩:=a3.dn X G ["_law_script", "_law_at", "_law_many", "_law_turns"] (fun _ _ _ _ _ _=>bd4 fun _ _ _ _=>rfl)
 obtain⟨D4⟩:=a4.dn X G ["thing"] (fun _ _ _ _ _ _=>bd1 fun _=>rfl)
 obtain⟨D5⟩:=a5.dn X G ["thing", "least", "most"] (fun _ _ _ _ _ _=>bd3 fun _ _ _=>rfl)
 obtain⟨D6⟩:=a6.dn X G ["thing"] (fun _ _ _ _ _ _=>bd1 fun _=>rfl)
 obtain⟨D7⟩:=a7.dn X G ["thing"] (fun _ _ _ _ _ _=>bd1 fun _=>rfl)
 obtain⟨D8⟩:=a8.dn X G ["thing"] (fun _ _ _ _ _ _=>bd1 fun _=>rfl)
 obtain⟨D9⟩:=a9.dn X G ["texts"] (fun _ _ _ _ _ _=>bd1 fun _=>rfl)
 obtain⟨D10⟩:=a10.dn X G ["thing"] (fun _ _ _ _ _ _=>bd1 fun _=>rfl)
 obtain⟨D11⟩:=a11.dn X G ["many", "thing"] (fun _ _ _ _ _ _=>bd2 fun _ _=>rfl)
 obtain⟨D12⟩:=a12.dn X G ["many", "thing"] (fun _ _ _ _ _ _=>bd2 fun _ _=>rfl)
 obtain⟨D13⟩:=a13.dn X G ["pieces"] (fun _ _ _ _ _ _=>bd1 fun _=>rfl)
 obtain⟨D14⟩:=a14.dn X G ["many", "texts"] (fun _ _ _ _ _ _=>bd2 fun _ _=>rfl)
 obtain⟨D15⟩:=a15.dn X G ["pieces", "text"] (fun _ _ _ _ _ _=>bd2 fun _ _=>rfl)
 obtain⟨D16⟩:=a16.dn X G ["pieces", "text"] (fun _ _ _ _ _ _=>bd2 fun _ _=>rfl)
 obtain⟨D17⟩:=a17.dn X G ["many", "pieces"] (fun _ _ _ _ _ _=>bd2 fun _ _=>rfl)
 obtain⟨D18⟩:=a18.dn X G ["many", "pieces"] (fun _ _ _ _ _ _=>bd2 fun _ _=>rfl)
 obtain⟨D19⟩:=a19.dn X G ["many", "thing"] (fun _ _ _ _ _ _=>bd2 fun _ _=>rfl)
 obtain⟨D20⟩:=a20.dn X G ["many", "thing"] (fun _ _ _ _ _ _=>bd2 fun _ _=>rfl)
 obtain⟨D21⟩:=a21.dn X G ["source", "thing"] (fun _ _ _ _ _ _=>bd2 fun _ _=>rfl)
 obtain⟨D22⟩:=a22.dn X G ["many", "thing"] (fun _ _ _ _ _ _=>bd2 fun _ _=>rfl)
 obtain⟨D23⟩:=a23.dn X G ["one", "other"] (fun _ _ _ _ _ _=>bd2 fun _ _=>rfl)
 obtain⟨D24⟩:=a24.dn X G ["up", "down"] (fun _ _ _ _ _ _=>bd2 fun _ _=>rfl)
 obtain⟨D25⟩:=a25.dn X G ["source", "text"] (fun _ _ _ _ _ _=>bd2 fun _ _=>rfl)
 obtain⟨D26⟩:=a26.dn X G ["one", "other"] (fun _ _ _ _ _ _=>bd2 fun _ _=>rfl)
 obtain⟨D27⟩:=a27.dn X G ["source", "book"] (fun _ _ _ _ _ _=>bd2 fun _ _=>rfl)
 obtain⟨D28⟩:=a28.dn X G ["many", "thing"] (fun _ _ _ _ _ _=>bd2 fun _ _=>rfl)
 obtain⟨D29⟩:=a29.dn X G ["many", "thing"] (fun _ _ _ _ _ _=>bd2 fun _ _=>rfl)
 obtain⟨D30⟩:=a30.dn X G ["many", "length"] (fun _ _ _ _ _ _=>bd2 fun _ _=>rfl)
 obtain⟨D31⟩:=a31.dn X G ["many"] (fun _ _ _ _ _ _=>bd1 fun _=>rfl)
 obtain⟨D32⟩:=a32.dn X G ["source", "texts"] (fun _ _ _ _ _ _=>bd2 fun _ _=>rfl)
 obtain⟨D33⟩:=a33.dn X G ["many", "size"] (fun _ _ _ _ _ _=>bd2 fun _ _=>rfl)
 obtain⟨D34⟩:=a34.dn X G ["one", "other"] (fun _ _ _ _ _ _=>bd2 fun _ _=>rfl)
 obtain⟨D35⟩:=a35.dn X G ["pieces", "shares"] (fun _ _ _ _ _ _=>bd2 fun _ _=>rfl)
 obtain⟨D36⟩:=a36.dn X G ["many", "pieces", "piece"] (fun _ _ _ _ _ _=>bd3 fun _ _ _=>rfl)
 obtain⟨D37⟩:=a37.dn X G ["source", "size"] (fun _ _ _ _ _ _=>bd2 fun _ _=>rfl)
 obtain⟨D38⟩:=a38.dn X G ["source", "size"] (fun _ _ _ _ _ _=>bd2 fun _ _=>rfl)
 obtain⟨D39⟩:=a39.dn X G ["source", "book"] (fun _ _ _ _ _ _=>bd2 fun _ _=>rfl)
 obtain⟨D40⟩:=a40.dn X G ["book"] (fun _ _ _ _ _ _=>bd1 fun _=>rfl)
 obtain⟨D41⟩:=a41.dn X G ["source", "book"] (fun _ _ _ _ _ _=>bd2 fun _ _=>rfl)
 obtain⟨D42⟩:=a42.dn X G ["source", "book"] (fun _ _ _ _ _ _=>bd2 fun _ _=>rfl)
 obtain⟨D43⟩:=a43.dn X G ["source", "book"] (fun _ _ _ _ _ _=>bd2 fun _ _=>rfl)
 let t:Txt K mg:=⟨D0,D1,D2,D3,D4,D5,D6,D7,D8,D9,D10,D11,D12,D13,D14,D15,D16,D17,D18,D19,D20,D21,D22,D23,D24,D25,D26,D27,D28,D29,D30,D31,D32,D33,D34,D35,D36,D37,D38,D39,D40,D41,D42,D43,⟨_,_,FL,PySem.W.mg_of X G aL,bL⟩,vFEWEST_LETTERS,PySem.W.mg_of X G wFEWEST_LETTERS,rFEWEST_LETTERS,vGREATEST_WEIGHT,PySem.W.mg_of X G wGREATEST_WEIGHT,rGREATEST_WEIGHT,vLETTERS,PySem.W.mg_of X G wLETTERS,rLETTERS,vMOST_PIECES,PySem.W.mg_of X G wMOST_PIECES,rMOST_PIECES,PySem.W.mg_none_of X G zall,PySem.W.mg_none_of X G zany,PySem.W.mg_none_of X G zbool,PySem.W.mg_none_of X G zdict,PySem.W.mg_none_of X G zint,PySem.W.mg_none_of X G zisinstance,PySem.W.mg_none_of X G zlen,PySem.W.mg_none_of X G zrange,PySem.W.mg_none_of X G zsorted,PySem.W.mg_none_of X G zstr,PySem.W.mg_none_of X G zsum,PySem.W.mg_none_of X G ztuple,PySem.W.mg_none_of X G zzip,⟨xa_NoBook,PySem.W.mg_of X G y_NoBook,q_NoBook⟩,⟨xa_NoLetters,PySem.W.mg_of X G y_NoLetters,q_NoLetters⟩,⟨xa_NoSize,PySem.W.mg_of X G y_NoSize,q_NoSize⟩,⟨xa_NoSource,PySem.W.mg_of X G y_NoSource,q_NoSource⟩⟩
 exact⟨_,fun s v=>.of_eq rfl,fun base _ _=>law_ok (ok_law t) law_true⟩
theorem walk {l:PySem.W.OpenLaw}{q:Program}{loose:List Str}{XP:(Str→Option Value)→Heap→Prop}{YP:World→Heap→Prop}{d:DefRec}{K:Params→PySem.W.Frag}(hn:l.most=some 63)(hdf:d.params.defaults=[])
  (hY:∀(w:World) (h:Heap),YP w h→(K w.params).In h)
  (F:∀(w:World) (mg:Str→Option Value) (fa:Addr) (h:Heap),(K w.params).In h→h.Ns mainGlobals mg→mg d.name=some (.ref fa) →
   ∃fd:FuncData,(∀(s:Shared) (u:Value),BindsTo s fd ⟨[u],[]⟩ [("_law_script", u)])∧∀base:Heap,(K w.params).In base→base.Ns mainGlobals mg→FnOk l.prog w (K w.params) mg base CX0 11 fa fd ["_law_script"] (sp_law (K w.params))) :
  PySem.W.WalkO q loose XP YP l.row.toRowW d [] (fun f vs=>PySem.call f vs) :=
 L2.walk_of (n:=63) (k:=11) (x := "_law_script") (CX:=fun _=>CX0) (sp:=fun w=>sp_law (K w.params)) hn (by decide) hdf ⟨rfl,by decide,by decide⟩ hY F (fun _ _ a ns hl _ hS=>⟨a,ns,rfl,hS,hl,fun _=>rfl⟩) fun _ _ _ _ _ z=>z
end K31
theorem PySem.W.Fast.tw14054875181967924195 : True := trivial
theorem PySem.W.Fast.tw722066671488306950 : True := trivial
theorem PySem.W.Fast.tw9405267072678818139 : True := trivial
theorem PySem.W.Fast.tw10887264022090504708 : True := trivial
theorem PySem.W.Fast.tw15681242278816178280 : True := trivial
theorem PySem.W.Fast.tw2415517541988281001 : True := trivial
theorem PySem.W.Fast.tw8443607757629082251 : True := trivial
theorem PySem.W.Fast.tw10350920145915722850 : True := trivial
theorem PySem.W.Fast.tw14976111595154789704 : True := trivial
theorem PySem.W.Fast.tw8590960221729613943 : True := trivial
theorem PySem.W.Fast.tw12896689148896613243 : True := trivial
theorem PySem.W.Fast.tw835203420361104307 : True := trivial
theorem PySem.W.Fast.tw15519836898297678850 : True := trivial
theorem PySem.W.Fast.tw6463428020548053572 : True := trivial
theorem PySem.W.Fast.tw11142317661171598788 : True := trivial
theorem PySem.W.Fast.tw4167081810481246620 : True := trivial
open PySem PySem.W PyProof.Rows
set_option maxRecDepth 100000 in
set_option maxHeartbeats 0 in
theorem PySem.Challenge.cw_piecebooks_k31_whole_best_holds : PySem.Challenge.rw_piecebooks_k31_whole_best.Holds := by
 w_on;o_law;k_head;(case hw=>w_witness2)
 k_fill
 refine K31.walk (l:=PySem.Challenge.rw_piecebooks_k31_whole_best) rfl rfl (fun w h Y=>PySem.W.kIn_of Y) ?F
 case F =>
  intro w mg fa h KX G hmg
  refine' K31.all_mk KX G hmg ?a0 ?a1 ?a2 ?a3 ?a4 ?a5 ?a6 ?a7 ?a8 ?a9 ?a10 ?a11 ?a12 ?a13 ?a14 ?a15 ?a16 ?a17 ?a18 ?a19 ?a20 ?a21 ?a22 ?a23 ?a24 ?a25 ?a26 ?a27 ?a28 ?a29 ?a30 ?a31 ?a32 ?a33 ?a34 ?a35 ?a36 ?a37 ?a38 ?a39 ?a40 ?a41 ?a42 ?a43 ?a44 ?wFEWEST_LETTERS ?rFEWEST_LETTERS ?wGREATEST_WEIGHT ?rGREATEST_WEIGHT ?wLETTERS ?rLETTERS ?wMOST_PIECES ?rMOST_PIECES ?zall ?zany ?zbool ?zdict ?zint ?zisinstance ?zlen ?zrange ?zsorted ?zstr ?zsum ?ztuple ?zzip ?y_NoBook ?q_NoBook ?y_NoLetters ?q_NoLetters ?y_NoSize ?q_NoSize ?y_NoSource ?q_NoSource
  (case a0|a1|a2|a3|a4|a5|a6|a7|a8|a9|a10|a11|a12|a13|a14|a15|a16|a17|a18|a19|a20|a21|a22|a23|a24|a25|a26|a27|a28|a29|a30|a31|a32|a33|a34|a35|a36|a37|a38|a39|a40|a41|a42|a43|a44=>refine' L2.Dz.mk ?za ?zl ?zc ?zk;(case za=>k_is);(case zl=>k_is);(case zc=>k_is);(case zk=>k_is))
  (case wFEWEST_LETTERS=>k_is)
  (case rFEWEST_LETTERS=>exact⟨_,rfl⟩)
  (case wGREATEST_WEIGHT=>k_is)
  (case rGREATEST_WEIGHT=>exact⟨_,rfl⟩)
  (case wLETTERS=>k_is)
  (case rLETTERS=>exact⟨_,rfl⟩)
  (case wMOST_PIECES=>k_is)
  (case rMOST_PIECES=>exact⟨_,rfl⟩)
  (case y_NoBook=>k_is)
  (case q_NoBook=>k_exc)
  (case y_NoLetters=>k_is)
  (case q_NoLetters=>k_exc)
  (case y_NoSize=>k_is)
  (case q_NoSize=>k_exc)
  (case y_NoSource=>k_is)
  (case q_NoSource=>k_exc)
  (case zall|zany|zbool|zdict|zint|zisinstance|zlen|zrange|zsorted|zstr|zsum|ztuple|zzip=>k_is)
#print axioms PySem.Challenge.cw_piecebooks_k31_whole_best_holds
